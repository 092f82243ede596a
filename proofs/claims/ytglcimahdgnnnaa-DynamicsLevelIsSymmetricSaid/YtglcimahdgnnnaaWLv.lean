/-
  Walk of the statement that on level track the speeds are the same in both directions.
-/
import Derived.Test.YtglcimahdgnnnaaWEx
namespace Go.Proofs.Ytglcimahdgnnnaa.WLv
open Go.ChangeShapes Go.WideShapes Go.ChangeAt Go.RowKit Dyn Mem Src PSm PChk PLim PPer PSpd PTim Mak Eq6 LawF WEx
set_option linter.unusedVariables false

theorem sym (n : Nat) (s : Stk) (hs : okStk s = true) (he : s.brk = s.acc) (b : Nat) (hb : b ≤ n) : vel (flat n) s 0 n b = vel (flat n) s 0 n (n - b) := by
  have h := fun b (hb : b ≤ n) => level (cs := flat n) (s := s) (n := n) (L := 30000) hs (flat_len n).symm (fun i hi => flat_cel n i hi) (by omega) he hb
  unfold vel
  rw [h b hb, h (n - b) (by omega)]
  congr 1
  rw [show (n : Int) - ((n - b : Nat) : Int) = (b : Int) by omega, show ((n - b : Nat) : Int) = (n : Int) - b by omega]
  omega

set_option maxRecDepth 100000 in
set_option maxHeartbeats 16000000 in
theorem walk (a0 : Int) (w0 : (Lit.int .i64 a0).wf = true) (A1 : Option Addr) (n1 c1 : Nat) (hn1 : n1 ≤ c1) (hc1 : c1 ≤ 9223372036854775807) (w : World) (hB1 : Src.Ints w w.heap.size A1 n1) :
    Calls Try.prog 11 #[.int .i64 a0, .slice A1 n1 c1] w (Yes w) := by
  have b0 := bounds_i64 w0
  have p0 := pick_range a0 60 (by omega)
  have HPK := Lib.hid (fun w => pick_any a0 60 w (by omega) (by omega) (by omega) (by omega))
  obtain ⟨n, hn⟩ : ∃ n : Nat, 2 + pick a0 60 = (n : Int) := ⟨(2 + pick a0 60).toNat, by omega⟩
  have hn2 : 2 ≤ n ∧ n ≤ 61 := by omega
  obtain ⟨r, hr⟩ : ∃ r, pick a0 60 = r := ⟨_, rfl⟩
  rw [hr] at HPK hn p0
  have HPL := Lib.hid (fun w => plain_any n w (by omega))
  have HST := Lib.hid (stock_any A1 n1 c1 w hB1 (by omega))
  have s0 : IntKind.i64.wrap (2 + r) = (n : Int) := by rw [hn]; exact IntWalk.i64_in _ (by omega)
  clear hr hB1
  go_enter Try.func11, Try.ntmps11
  go_upto_region 2 with (go_at_call 21; (with_reducible refine (HST.out).mono ?_); rintro e ws ⟨s, rfl, hs, hbs⟩; have HS := Lib.hid hs; have HBS := Lib.hid hbs; clear hs hbs; obtain ⟨len, spd, ac, bk⟩ := s; simp only [stk])
  have hbx := Bx.new ws xX ⟨len, spd, ac, bk⟩
  have hB := HBS.out.alloc HBS.out.size (.cells #[.string xX, .int .i64 len, .int .i64 spd, .int .i64 ac, .int .i64 bk] 23)
  simp only at hbx
  generalize ws.alloc (.cells #[.string xX, .int .i64 len, .int .i64 spd, .int .i64 ac, .int .i64 bk] 23) = W at *
  have hbw : w.heap.size ≤ ws.heap.size := HBS.out.size
  generalize ws.heap.size = b at *
  obtain ⟨x0, x1, x2, x3, x4⟩ := hbx.cells
  have f4 := Bx.free hbx 4
  simp only at x1 x2 x3 x4
  have HBX := Lib.hid hbx
  have HB := Lib.hid hB
  clear hbx hB HST HBS
  go_upto_region 3 with fail
  have hbx2 : Bx (W.setCell ⟨b, 4, none⟩ (.int .i64 ac)) b xX ⟨len, spd, ac, ac⟩ := by
    have h := HBX.out
    unfold Bx at h ⊢
    simp [World.setCell, Array.getElem?_modify, h]
  have hB2 : Below w.heap.size w (W.setCell ⟨b, 4, none⟩ (.int .i64 ac)) := HB.out.setCell (by simp only; omega) _
  clear x0 x1 x2 x3 x4 f4 HBX HB
  generalize W.setCell ⟨b, 4, none⟩ (.int .i64 ac) = V at *
  have hok : okStk ⟨len, spd, ac, ac⟩ = true := by
    have h := okStk_iff.1 HS.out.1
    exact okStk_iff.2 (by simp only at h ⊢; omega)
  have hxl := hbx2.lt
  have HX := Lib.hid (fun w' (hb : Below V.heap.size V w') => (hbx2.below hb hxl).cells)
  simp only at HX
  have HB := Lib.hid hB2
  have HSP : Hid (∀ (A : Option Addr) (c b : Nat) (w' : World), Mem.Own celR w' b (.slice A n c) n (flat n) → n ≤ c → c ≤ 9223372036854775807 → Calls Try.prog 13 #[.slice A n c, .int .i64 0, .agg #[.string xX, .int .i64 len, .int .i64 spd, .int .i64 ac, .int .i64 ac]] w' (TupRow (n + 1) (vel (flat n) ⟨len, spd, ac, ac⟩ 0 n) w')) :=
    fun A c b w' hO hnc hcb => speeds_int A n c 0 0 n (flat n) xX ⟨len, spd, ac, ac⟩ w' rfl (run_of_own hO hnc hcb (by omega) (by omega) hok (flat_ok n)) (by omega)
  have HSY : Hid (∀ i, i ≤ n → vel (flat n) ⟨len, spd, ac, ac⟩ 0 n i = vel (flat n) ⟨len, spd, ac, ac⟩ 0 n (n - i)) := fun i hi => sym n _ hok rfl i hi
  have HV1 : Hid (1000 ≤ vel (flat n) ⟨len, spd, ac, ac⟩ 0 n 1) := (vel_bounds hok (flat_ok n) (by rw [flat_len]; omega) (show 1 ≤ n by omega)).2.2 (by omega) (by omega)
  generalize vel (flat n) ⟨len, spd, ac, ac⟩ 0 n = f at *
  obtain ⟨N, hN⟩ : ∃ N, n + 1 = N := ⟨_, rfl⟩
  rw [hN] at HSP
  have e1 : (n : Int) + 1 = (N : Int) := by omega
  have e2 : (N : Int) - 1 = (n : Int) := by omega
  have hN1 : 1 < N := by omega
  have hN62 : N ≤ 62 := by omega
  have HNN := Lib.hid hN
  have h0 := Lib.hid (Below.refl V.heap.size V)
  clear hbx2 hB2 hN
  go_upto_region 5 with (first
    | (go_at_call 22; (with_reducible refine (HPK.out _).mono ?_); rintro e w1 ⟨rfl, rfl⟩)
    | (go_at_call 14; (with_reducible refine (HPL.out _).mono ?_); rintro e wp ⟨A, n3, c3, L3, rfl, hO, ⟨hn3, hL3⟩, hnc, hcb, hwp⟩; subst hn3 hL3; have HP := Lib.hid hwp; clear hwp; obtain ⟨y0, y1, y2, y3, y4⟩ := HX.out _ HP.out)
    | (go_at_call 13; (with_reducible refine (HSP.out _ _ _ _ hO hnc hcb).mono ?_); rintro e wb ⟨g, rfl, hg, hR, hbb⟩; have HF := Lib.hid hR; have HI := Lib.hid (HP.out.trans (hbb.mono HP.out.size)); clear hR hbb))
  have hgl := HF.out.lt
  have HZ := Lib.hid (HB.out.trans (HI.out.mono HB.out.size))
  clear hO y0 y1 y2 y3 y4 HX HSP HPL HPK HP HB h0 HI
  go_wp2
  go_loopw [37] (fun i wr => ∃ k : Nat, k ≤ N ∧ i = .int .i64 k ∧ Hid (Below wb.heap.size wb wr)) (fun i _ => N - (intOf i).toNat)
  case atStart => exact ⟨0, Nat.zero_le _, rfl, Below.refl _ _⟩
  case round =>
    obtain ⟨k, hk, rfl, hbr⟩ := hrel
    have hR := HF.out.below hbr.out hgl
    by_cases hlt : k < N
    · obtain ⟨k', hk'⟩ : ∃ k', n3 - k = k' := ⟨_, rfl⟩
      have hNN := HNN.out
      have e4 : (n3 : Int) - k = (k' : Int) := by omega
      have d0 := hR.cell (i := k) (by omega)
      have d1 := hR.cell (i := k') (by omega)
      have hs := HSY.out k (by omega)
      rw [hk'] at hs
      rw [← hs] at d1
      have i1 : k' < N := by omega
      have s1 : IntKind.i64.wrap (k' : Int) = (k' : Int) := IntWalk.i64_in _ (by omega)
      clear hR hk' hs hNN
      generalize f k = va at *
      go_wp2
      go_quiet (fail)
      go_wp2
      go_roundw
      case rel => exact ⟨k + 1, by omega, by go_num, below_draws hbr.out _⟩
      case measure => simp [intOf]; omega
    · obtain rfl : k = N := by omega
      have d1 := hR.cell (i := 1) (by omega)
      have hv := HV1.out
      have hv2 : 0 < f 1 := by omega
      clear hR
      generalize f 1 = va at *
      go_wp2
      all_goals go_ret
      all_goals exact ⟨by first | rfl | simp, HZ.out.trans (hbr.out.mono HZ.out.size)⟩
end Go.Proofs.Ytglcimahdgnnnaa.WLv

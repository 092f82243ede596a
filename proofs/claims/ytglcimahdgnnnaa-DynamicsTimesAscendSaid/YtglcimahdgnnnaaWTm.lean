/-
  Walk of the statement that the times ascend.
-/
import Derived.Test.YtglcimahdgnnnaaWAg
namespace Go.Proofs.Ytglcimahdgnnnaa.WTm
open Go.ChangeShapes Go.WideShapes Go.ChangeAt Go.RowKit Dyn Mem Src PSm PChk PLim PPer PSpd PTim RSm RLim RSpd RTim Mak Eq6 LawF WEx WAg
set_option linter.unusedVariables false

theorem ceil_two (t : Int) (h : 0 ≤ t) : t ≤ 1000 * ceil t 1000 ∧ 1000 * (ceil t 1000 - 1) < t := by
  have h1 := (ceil_spec (a := t) (b := 1000) (by omega) (ceil t 1000)).1 (Int.le_refl _)
  have h2 := mt (ceil_spec (a := t) (b := 1000) (by omega) (ceil t 1000 - 1)).2 (by omega)
  omega

set_option maxRecDepth 100000 in
set_option maxHeartbeats 16000000 in
theorem walkDynamicsTimesAscend (A0 : Option Addr) (n0 c0 : Nat) (hn0 : n0 ≤ c0) (hc0 : c0 ≤ 9223372036854775807) (A1 : Option Addr) (n1 c1 : Nat) (hn1 : n1 ≤ c1) (hc1 : c1 ≤ 9223372036854775807) (a2 : Int) (w2 : (Lit.int .i64 a2).wf = true) (w : World)
    (hB0 : Src.Ints w w.heap.size A0 n0) (hB1 : Src.Ints w w.heap.size A1 n1) : Calls Try.prog 8 #[.slice A0 n0 c0, .slice A1 n1 c1, .int .i64 a2] w (Yes w) := by
  have b2 := bounds_i64 w2
  have HCE := Lib.hid (cells_any A0 n0 c0 w hB0 (by omega))
  have HST := Lib.hid (fun w' (hb : Below w.heap.size w w') => stock_any A1 n1 c1 w' (fun j hj => by obtain ⟨ad, z, e, h1, h2⟩ := hB1.below hb j hj; exact ⟨ad, z, e, Nat.lt_of_lt_of_le h1 hb.size, h2⟩) (by omega))
  clear hB0 hB1
  go_enter Try.func8, Try.ntmps8
  go_upto_region 2 with (first
    | (go_at_call 20; (with_reducible refine (HCE.out).mono ?_); rintro e wc ⟨A, n, c, L, rfl, hO, hm, hnc, hcb, hbc⟩)
    | (go_at_call 21; (with_reducible refine (HST.out _ hbc).mono ?_); rintro e ws ⟨s, rfl, hs, hbs⟩; have HG := Lib.hid (gn_start hO hm hnc hcb hbc hs hbs); obtain ⟨len, spd, ac, bk⟩ := s; simp only [stk]))
  obtain ⟨W, hW⟩ : ∃ W, ws.alloc (.cells #[.string xX, .int .i64 len, .int .i64 spd, .int .i64 ac, .int .i64 bk] 23) = W := ⟨_, rfl⟩
  rw [hW] at HG ⊢
  generalize ws.heap.size = b at *
  clear hW hO hbc hbs hm HCE HST hnc hcb
  have hmd := HG.out.made
  have hn56 : n ≤ 56 := hmd.2.2
  have hn1' : 1 ≤ n := hmd.2.1
  have HOK := Lib.hid HG.out.stk.1
  have HALL := Lib.hid hmd.1
  have HLL := Lib.hid HG.out.rd.1
  have HL4 := Lib.hid HG.out.stk.2
  have HCK : Hid (∀ w' : World, Calls Try.prog 18 #[.agg #[.string xX, .int .i64 len, .int .i64 spd, .int .i64 ac, .int .i64 bk]] w' (BoolPost true w')) := fun w' => by
    have h := p_check xX ⟨len, spd, ac, bk⟩ w'
    rw [HG.out.stk.1] at h
    exact h
  have HX := Lib.hid (fun w' (hb : Below W.heap.size W w') => (HG.out.keep hb).box.cells)
  simp only at HX
  have HBW := Lib.hid HG.out.below
  have HRUN := Lib.hid (fun w' (hb : Below W.heap.size W w') (st : Nat) (hk : st + 2 ≤ n) => (HG.out.keep hb).run hk HG.out.stk.1)
  have h0 := Lib.hid (Below.refl W.heap.size W)
  clear hmd HG
  by_cases hlt : n < 2
  · have hlti : (n : Int) < 2 := by omega
    obtain ⟨x0, x1, x2, x3, x4⟩ := HX.out W h0.out
    go_wp2_with (go_at_call 18; (with_reducible refine (HCK.out _).mono ?_); rintro e w9 ⟨rfl, q9⟩)
    all_goals go_ret
    all_goals exact ⟨rfl, HBW.out.trans (q9.mono HBW.out.size)⟩
  have hlti : ¬ (n : Int) < 2 := by omega
  have pr := pick_range a2 ((n : Int) - 1) (by omega)
  obtain ⟨st, hst⟩ : ∃ st : Nat, pick a2 ((n : Int) - 1) = (st : Int) := ⟨(pick a2 ((n : Int) - 1)).toNat, by omega⟩
  have HPK := Lib.hid (fun w => pick_any a2 ((n : Int) - 1) w (by omega) (by omega) (by omega) (by omega))
  rw [hst] at HPK pr
  obtain ⟨m, hm⟩ : ∃ m, n = st + m := ⟨n - st, by omega⟩
  have hk2 : st + 2 ≤ n := by omega
  have hm2 : 2 ≤ m := by omega
  have HM := Lib.hid hm
  have hst56 : st ≤ 54 := by omega
  obtain ⟨x0, x1, x2, x3, x4⟩ := HX.out W h0.out
  clear hst
  have HTI : Hid (∀ w' : World, Below W.heap.size W w' → Calls Try.prog 15 #[.slice A n c, .int .i64 st, .agg #[.string xX, .int .i64 len, .int .i64 spd, .int .i64 ac, .int .i64 bk]] w' (TupRow (m + 1) (tim (vel L ⟨len, spd, ac, bk⟩ st m)) w')) := fun w' hb => p_times A n c st m L xX ⟨len, spd, ac, bk⟩ w' (HRUN.out w' hb st hk2) hm
  have HRI : Hid (∀ w' : World, Below W.heap.size W w' → Calls Try.prog 16 #[.slice A n c, .int .i64 st, .agg #[.string xX, .int .i64 len, .int .i64 spd, .int .i64 ac, .int .i64 bk]] w' (TupInt (ceil (tim (vel L ⟨len, spd, ac, bk⟩ st m) m) 1000) 0 w')) := fun w' hb => p_run A n c st m L xX ⟨len, spd, ac, bk⟩ w' (HRUN.out w' hb st hk2) hm
  have hvp : Hid (∀ i, i < m → 0 < vel L ⟨len, spd, ac, bk⟩ st m i + vel L ⟨len, spd, ac, bk⟩ st m (i + 1)) := fun i hi => vel_pos HOK.out HALL.out (show st + m ≤ L.length by rw [HLL.out]; omega) hm2 hi
  obtain ⟨f, hf⟩ : ∃ f, tim (vel L ⟨len, spd, ac, bk⟩ st m) = f := ⟨_, rfl⟩
  have hf0 : f 0 = 0 := by rw [← hf]; rfl
  have HASC : Hid (∀ i, i < m → f i < f (i + 1)) := fun i hi => by rw [← hf]; exact tim_step (hvp.out i hi)
  have HBD : Hid (∀ i, i ≤ m → 0 ≤ f i ∧ f i ≤ 20000000 * i) := fun i hi => by rw [← hf]; exact tim_bounds hvp.out i hi
  rw [hf] at HTI HRI
  have hbm := HBD.out m (Nat.le_refl _)
  have hcl := ceil_two (f m) hbm.1
  generalize ceil (f m) 1000 = du at *
  clear hf hvp
  obtain ⟨N, hN⟩ : ∃ N, m + 1 = N := ⟨_, rfl⟩
  rw [hN] at HTI
  have e1 : (n : Int) - st + 1 = (N : Int) := by omega
  have e2 : (N : Int) - 1 = (m : Int) := by omega
  have hmN : m < N := by omega
  have hN3 : 0 < N := by omega
  have hN4 : N ≤ m + 1 := by omega
  have HNN := Lib.hid hN
  have hm56 : m ≤ 56 := by omega
  clear hN hm
  go_upto_region 7 with (first
    | (go_at_call 22; (with_reducible refine (HPK.out _).mono ?_); rintro e w1 ⟨rfl, rfl⟩)
    | (go_at_call 15; (with_reducible refine (HTI.out _ h0.out).mono ?_); rintro e wa ⟨g, rfl, hg, hR, hba⟩; have HFa := Lib.hid hR; have HIa := Lib.hid (h0.out.trans (hba.mono h0.out.size)); clear hR hba; obtain ⟨y0, y1, y2, y3, y4⟩ := HX.out _ HIa.out)
    | (go_at_call 16; (with_reducible refine (HRI.out _ HIa.out).mono ?_); rintro e wb ⟨rfl, hbb⟩; have HFb := Lib.hid (HFa.out.below hbb HFa.out.lt); have HIb := Lib.hid (HIa.out.trans (hbb.mono HIa.out.size)); clear hbb))
  have c0 := HFb.out.cell (i := 0) hN3
  rw [hf0] at c0
  have hgl := HFb.out.lt
  have HZ := Lib.hid (HBW.out.trans (HIb.out.mono HBW.out.size))
  clear x0 x1 x2 x3 x4 y0 y1 y2 y3 y4 HX HCK HRUN HTI HRI HPK HFa HIa h0 HBW hf0
  go_wp2
  go_loopw [13] (fun i wr => ∃ k : Nat, k ≤ m ∧ i = .int .i64 ((k : Int) + 1) ∧ Hid (Below wb.heap.size wb wr)) (fun i _ => N - (intOf i).toNat)
  case atStart => exact ⟨0, Nat.zero_le _, rfl, Below.refl _ _⟩
  case round =>
    obtain ⟨k, hk, rfl, hbr⟩ := hrel
    have hR := HFb.out.below hbr.out hgl
    by_cases hlt : k < m
    · obtain ⟨k', hk'⟩ : ∃ k', k + 1 = k' := ⟨_, rfl⟩
      have e3 : (k : Int) + 1 = (k' : Int) := by omega
      have e4 : (k' : Int) - 1 = (k : Int) := by omega
      have d0 := hR.cell (i := k) (by omega)
      have d1 := hR.cell (i := k') (by omega)
      have has := HASC.out k hlt
      rw [hk'] at has
      have HK := Lib.hid hk'
      have i0 : k < N := by omega
      have i1 : k' < N := by omega
      have hnle : ¬ f k' ≤ f k := by omega
      have s1 : IntKind.i64.wrap ((k' : Int) - 1) = (k : Int) := by rw [e4]; exact IntWalk.i64_in _ (by omega)
      clear hR hk' has
      rw [e3]
      generalize f k = ta at *
      generalize f k' = tb at *
      go_wp2
      go_quiet (fail)
      go_wp2
      go_roundw
      case rel => exact ⟨k', by have := HK.out; omega, by go_num, below_draws hbr.out _⟩
      case measure => (have := HK.out; simp [intOf]; omega)
    · obtain rfl : k = m := by omega
      have d0 := hR.cell (i := k) (by omega)
      have e5 : ((k : Int) + 1) = (N : Int) := by omega
      have hge : f k ≤ 1000 * du := hcl.1
      have hlt2 : 1000 * (du - 1) < f k := hcl.2
      clear hR hcl
      rw [e5]
      generalize f k = tk at *
      go_wp2
      all_goals go_ret
      all_goals exact ⟨by first | rfl | simp, HZ.out.trans (hbr.out.mono HZ.out.size)⟩
end Go.Proofs.Ytglcimahdgnnnaa.WTm

/-
  Walk of the statement that a train that stops earlier is not earlier anywhere.
-/
import Derived.Test.YtglcimahdgnnnaaWAg
namespace Go.Proofs.Ytglcimahdgnnnaa.WSh
open Go.ChangeShapes Go.WideShapes Go.ChangeAt Go.RowKit Dyn Mem Src PSm PChk PLim PPer PSpd PTim RSm RLim RSpd RTim Mak Eq6 LawF WEx WAg
set_option linter.unusedVariables false

theorem rd_take {w : World} {B n e : Nat} {A : Option Addr} {L : List Cel} (h : Rd celR w B A n L) (he : e ≤ n) : Rd celR w B A e (L.take e) := by
  refine ⟨by rw [List.length_take, h.1]; omega, fun j u hu => h.2 j u ?_⟩
  rw [← List.take_append_drop e L, Mem.cs_append, List.getElem?_append_left (List.getElem?_eq_some_iff.1 hu).1]
  exact hu

set_option maxRecDepth 100000 in
set_option maxHeartbeats 16000000 in
theorem walkDynamicsShorterRunIsAPart (A0 : Option Addr) (n0 c0 : Nat) (hn0 : n0 ≤ c0) (hc0 : c0 ≤ 9223372036854775807) (A1 : Option Addr) (n1 c1 : Nat) (hn1 : n1 ≤ c1) (hc1 : c1 ≤ 9223372036854775807) (a2 : Int) (w2 : (Lit.int .i64 a2).wf = true) (a3 : Int) (w3 : (Lit.int .i64 a3).wf = true) (w : World)
    (hB0 : Src.Ints w w.heap.size A0 n0) (hB1 : Src.Ints w w.heap.size A1 n1) : Calls Try.prog 12 #[.slice A0 n0 c0, .slice A1 n1 c1, .int .i64 a2, .int .i64 a3] w (Yes w) := by
  have b2 := bounds_i64 w2
  have b3 := bounds_i64 w3
  have HCE := Lib.hid (cells_any A0 n0 c0 w hB0 (by omega))
  have HST := Lib.hid (fun w' (hb : Below w.heap.size w w') => stock_any A1 n1 c1 w' (fun j hj => by obtain ⟨ad, z, e, h1, h2⟩ := hB1.below hb j hj; exact ⟨ad, z, e, Nat.lt_of_lt_of_le h1 hb.size, h2⟩) (by omega))
  clear hB0 hB1
  go_enter Try.func12, Try.ntmps12
  go_upto_region 2 with (first
    | (go_at_call 20; (with_reducible refine (HCE.out).mono ?_); rintro e wc ⟨A, n, c, L, rfl, hO, hm, hnc, hcb, hbc⟩)
    | (go_at_call 21; (with_reducible refine (HST.out _ hbc).mono ?_); rintro e ws ⟨s, rfl, hs, hbs⟩; have HG := Lib.hid (gn_start hO hm hnc hcb hbc hs hbs); obtain ⟨len, spd, ac, bk⟩ := s; simp only [stk]))
  obtain ⟨W, hW⟩ : ∃ W, ws.alloc (.cells #[.string xX, .int .i64 len, .int .i64 spd, .int .i64 ac, .int .i64 bk] 23) = W := ⟨_, rfl⟩
  rw [hW] at HG ⊢
  generalize ws.heap.size = b at *
  clear hW hO hbc hbs hm HCE HST hnc hcb
  have hmd := HG.out.made
  have hn56 : n ≤ 56 := hmd.2.2
  have hn1' : 1 ≤ n := hmd.2.1
  have HOK := Lib.hid HG.out.stk.1
  have HALL := Lib.hid hmd.1
  have HLL := Lib.hid HG.out.rd.1
  have HL4 := Lib.hid HG.out.stk.2
  have HCK : Hid (∀ w' : World, Calls Try.prog 18 #[.agg #[.string xX, .int .i64 len, .int .i64 spd, .int .i64 ac, .int .i64 bk]] w' (BoolPost true w')) := fun w' => by
    have h := p_check xX ⟨len, spd, ac, bk⟩ w'
    rw [HG.out.stk.1] at h
    exact h
  have HX := Lib.hid (fun w' (hb : Below W.heap.size W w') => (HG.out.keep hb).box.cells)
  simp only at HX
  have HBW := Lib.hid HG.out.below
  have HRUN := Lib.hid (fun w' (hb : Below W.heap.size W w') (st : Nat) (hk : st + 2 ≤ n) => (HG.out.keep hb).run hk HG.out.stk.1)
  have h0 := Lib.hid (Below.refl W.heap.size W)
  clear hmd HG
  by_cases hlt : n < 3
  · have hlti : (n : Int) < 3 := by omega
    obtain ⟨x0, x1, x2, x3, x4⟩ := HX.out W h0.out
    go_wp2_with (go_at_call 18; (with_reducible refine (HCK.out _).mono ?_); rintro e w9 ⟨rfl, q9⟩)
    all_goals go_ret
    all_goals exact ⟨rfl, HBW.out.trans (q9.mono HBW.out.size)⟩
  have hlti : ¬ (n : Int) < 3 := by omega
  have pr := pick_range a2 ((n : Int) - 2) (by omega)
  obtain ⟨st, hst⟩ : ∃ st : Nat, pick a2 ((n : Int) - 2) = (st : Int) := ⟨(pick a2 ((n : Int) - 2)).toNat, by omega⟩
  have HPK := Lib.hid (fun w => pick_any a2 ((n : Int) - 2) w (by omega) (by omega) (by omega) (by omega))
  rw [hst] at HPK pr
  have hk2 : st + 3 ≤ n := by omega
  have pe := pick_range a3 ((n : Int) - st - 2) (by omega)
  have HPE := Lib.hid (fun w => pick_any a3 ((n : Int) - st - 2) w (by omega) (by omega) (by omega) (by omega))
  obtain ⟨p, hp⟩ : ∃ p, pick a3 ((n : Int) - st - 2) = p := ⟨_, rfl⟩
  rw [hp] at HPE pe
  obtain ⟨e, he⟩ : ∃ e : Nat, (st : Int) + 2 + p = (e : Int) := ⟨((st : Int) + 2 + p).toNat, by omega⟩
  obtain ⟨m, hm⟩ : ∃ m, n = st + m := ⟨n - st, by omega⟩
  obtain ⟨m2, hm2⟩ : ∃ m2, e = st + m2 := ⟨e - st, by omega⟩
  have hen : e < n := by omega
  have h2m : 2 ≤ m2 := by omega
  have hmm : m2 < m := by omega
  have hm56 : m ≤ 56 := by omega
  have hst56 : st ≤ 54 := by omega
  have s0 : IntKind.i64.wrap ((st : Int) + 2 + p) = (e : Int) := by rw [he]; exact IntWalk.i64_in _ (by omega)
  have s1 : IntKind.i64.wrap (e : Int) = (e : Int) := IntWalk.i64_in _ (by omega)
  have HM := Lib.hid hm
  have HM2 := Lib.hid hm2
  have hlen : st + m ≤ L.length := by rw [HLL.out]; omega
  have hok := HOK.out
  have hall := HALL.out
  have halt : (L.take e).all okCel = true := List.all_eq_true.2 fun x hx => List.all_eq_true.1 hall x (List.mem_of_mem_take hx)
  have hlt2 : st + m2 ≤ (L.take e).length := by rw [List.length_take, HLL.out]; omega
  have HT1 : Hid (∀ w' : World, Below W.heap.size W w' → Calls Try.prog 15 #[.slice A n c, .int .i64 st, .agg #[.string xX, .int .i64 len, .int .i64 spd, .int .i64 ac, .int .i64 bk]] w' (TupRow (m + 1) (tim (vel L ⟨len, spd, ac, bk⟩ st m)) w')) := fun w' hb => p_times A n c st m L xX ⟨len, spd, ac, bk⟩ w' (HRUN.out w' hb st (by omega)) hm
  have HT2 : Hid (∀ w' : World, Below W.heap.size W w' → Calls Try.prog 15 #[.slice A e c, .int .i64 st, .agg #[.string xX, .int .i64 len, .int .i64 spd, .int .i64 ac, .int .i64 bk]] w' (TupRow (m2 + 1) (tim (vel (L.take e) ⟨len, spd, ac, bk⟩ st m2)) w')) := fun w' hb => by
    have h := HRUN.out w' hb st (by omega)
    have hnc := h.nc
    exact p_times A e c st m2 (L.take e) xX ⟨len, spd, ac, bk⟩ w' ⟨rd_take h.rd (by omega), by omega, h.cb, by omega, by omega, hok, halt⟩ hm2
  have HLE : Hid (∀ i, i ≤ m2 → tim (vel L ⟨len, spd, ac, bk⟩ st m) i ≤ tim (vel (L.take e) ⟨len, spd, ac, bk⟩ st m2) i) := fun i hi => tim_mono (v := vel L ⟨len, spd, ac, bk⟩ st m) (u := vel (L.take e) ⟨len, spd, ac, bk⟩ st m2) (n := m2) (fun j hj => vel_pos hok halt hlt2 h2m hj) (fun j hj => root_mono (sq_in hok halt hlt2 hj).1 (by rw [hm2]; exact shorter (cs := L) (s := ⟨len, spd, ac, bk⟩) (start := st) (n := m2) (m := m) hok hall hlen (by omega) hj)) i hi
  generalize tim (vel L ⟨len, spd, ac, bk⟩ st m) = f at *
  generalize tim (vel (L.take e) ⟨len, spd, ac, bk⟩ st m2) = f2 at *
  have HX2 := HX
  obtain ⟨x0, x1, x2, x3, x4⟩ := HX.out W h0.out
  obtain ⟨N, hN⟩ : ∃ N, m + 1 = N := ⟨_, rfl⟩
  obtain ⟨N2, hN2⟩ : ∃ N2, m2 + 1 = N2 := ⟨_, rfl⟩
  rw [hN] at HT1
  rw [hN2] at HT2
  have e1 : (e : Int) - st + 1 = (N2 : Int) := by omega
  have hNN : ¬ (N : Int) ≤ (N2 : Int) := by omega
  have hNb : N2 < N := by omega
  have hNc : N2 ≤ m2 + 1 := by omega
  have hec : e ≤ c := by have := (HRUN.out W h0.out st (by omega)).nc; omega
  have hce : c ≤ 9223372036854775807 := (HRUN.out W h0.out st (by omega)).cb
  clear hst hp he hm hm2 hN hN2 hok hall halt hlen hlt2 HRUN HOK HALL
  go_upto_region 7 with (first
    | (go_at_call 22; (with_reducible refine (HPK.out _).mono ?_); rintro e w1 ⟨rfl, rfl⟩)
    | (go_at_call 22; (with_reducible refine (HPE.out _).mono ?_); rintro e w1 ⟨rfl, rfl⟩)
    | (go_at_call 15; (with_reducible refine (HT1.out _ h0.out).mono ?_); rintro e wa ⟨g, rfl, hg, hR, hba⟩; have HFa := Lib.hid hR; have HIa := Lib.hid (h0.out.trans (hba.mono h0.out.size)); clear hR hba))
  have HXA := Lib.hid (fun w' (hb : Below wa.heap.size wa w') => HX.out w' (HIa.out.trans (hb.mono HIa.out.size)))
  have hbw := Below.refl wa.heap.size wa
  clear x0 x1 x2 x3 x4
  go_region_held3 (fun w' => (w'.cell? ⟨b, 0, none⟩ = some (.string xX) ∧ w'.cell? ⟨b, 1, none⟩ = some (.int .i64 len) ∧ w'.cell? ⟨b, 2, none⟩ = some (.int .i64 spd) ∧ w'.cell? ⟨b, 3, none⟩ = some (.int .i64 ac) ∧ w'.cell? ⟨b, 4, none⟩ = some (.int .i64 bk)))
    (first | exact HXA.out _ hbw.drew | exact HXA.out _ (hbw.drew.trans hq))
    ((go_at_call 15; (with_reducible refine (HT2.out _ (HIa.out.trans (hbw.drew.mono HIa.out.size))).mono ?_); rintro e wb ⟨h, rfl, hh, hR2, hbb⟩; have hq : Below wa.heap.size wa.drew wb := hbb))
  have HFb := Lib.hid hR2
  have HFc := Lib.hid (HFa.out.below (hbw.drew.trans hq) HFa.out.lt)
  have hgl := HFc.out.lt
  have hhl := HFb.out.lt
  have HIb := Lib.hid (HIa.out.trans ((hbw.drew.trans hq).mono HIa.out.size))
  have HZ := Lib.hid (HBW.out.trans (HIb.out.mono HBW.out.size))
  clear hR2 hbb hq hbw HXA HX HX2 HT1 HT2 HPK HPE HFa HIa HCK h0 HBW
  go_wp2
  rw [show decide (N ≤ N2) = false from decide_eq_false (by omega)]
  go_loopw [81] (fun i wr => ∃ k : Nat, k ≤ N2 ∧ i = .int .i64 k ∧ Hid (Below wb.heap.size wb wr)) (fun i _ => N2 - (intOf i).toNat)
  case atStart => exact ⟨0, Nat.zero_le _, rfl, Below.refl _ _⟩
  case round =>
    obtain ⟨k, hk, rfl, hbr⟩ := hrel
    have hR := HFc.out.below hbr.out hgl
    have hR2 := HFb.out.below hbr.out hhl
    by_cases hlt : k < N2
    · have d0 := hR.cell (i := k) (by omega)
      have d1 := hR2.cell hlt
      have hle := HLE.out k (by omega)
      have hnlt : ¬ f2 k < f k := by omega
      have hkN : k < N := by omega
      clear hR hR2 hle
      generalize f k = va at *
      generalize f2 k = vb at *
      go_wp2
      go_quiet (fail)
      go_wp2
      go_roundw
      case rel => exact ⟨k + 1, by omega, by go_num, below_draws hbr.out _⟩
      case measure => simp [intOf]; omega
    · obtain rfl : k = N2 := by omega
      clear hR hR2
      go_wp2
      all_goals go_ret
      all_goals exact ⟨by first | rfl | simp, HZ.out.trans (hbr.out.mono HZ.out.size)⟩
end Go.Proofs.Ytglcimahdgnnnaa.WSh

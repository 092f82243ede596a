/-
  Contracts of the document's own functions on steps, and of the number of resources.
-/
import Derived.Test.YtkfobijgjdgbgaaDoorRCheck
import Derived.Test.YtkfobijgjdgbgaaDoorPHops
namespace Go.Proofs.YtkfobijgjdgbgaaDoor.RHops
open Go.ChangeShapes Go.WideShapes Go.ChangeAt Go.RowKit Wd Small Mem Lay LayT Recs Keep Names PNames PSecs PLinks PEnds PTab PLnk PCheck PStep PHops RNames RCheck
set_option linter.unusedVariables false

theorem r_reverse (x y : Int) (w : World) : Calls Tryd.prog 20 #[.agg #[.int .i64 x, .int .i64 y]] w (PairPost (rev (x, y)) w) := by
  cases h : (y == 0) with
  | true =>
    have E : Hid (rev (x, y) = (x, 1)) := by unfold rev; rw [Hid, if_pos (by simpa using h)]
    go_enter Tryd.func20, Tryd.ntmps20
    go_wp2
    refine bodyPost_ret (v := .agg #[.int .i64 x, .int .i64 1]) ?_ rfl ⟨by rw [E.out], ?_⟩
    · simp [results, Tryd.results20, go_sem]
    · repeat (first | exact Below.refl _ _ | refine Below.drew ?_ | refine Below.alloc ?_ (by simp; try omega) _)
  | false =>
    have E : Hid (rev (x, y) = (x, 0)) := by unfold rev; rw [Hid, if_neg (by simpa using h)]
    go_enter Tryd.func20, Tryd.ntmps20
    go_wp2
    refine bodyPost_ret (v := .agg #[.int .i64 x, .int .i64 0]) ?_ rfl ⟨by rw [E.out], ?_⟩
    · simp [results, Tryd.results20, go_sem]
    · repeat (first | exact Below.refl _ _ | refine Below.drew ?_ | refine Below.alloc ?_ (by simp; try omega) _)
set_option maxRecDepth 100000 in
theorem r_resources (v : LV) (l : Lay) (w : World) (hL : RdL w w.heap.size v l) : Calls Tryd.prog 25 #[v.val] w (fun e w' => e = .returned (.int .i64 (resources l)) ∧ Below w.heap.size w w') := by
  have e2 := hL.pt.1
  have e3 := hL.sec.1
  have hm : check l = 0 → v.n3 ≤ 96 ∧ v.n2 ≤ 48 := fun h => by have := LayT.limits h; omega
  have E : Hid (resources l = if (check l != 0) = true then 0 else (v.n3 : Int) + v.n2) := by rw [Hid, resources, e2, e3]
  obtain ⟨W, hW, HZ, HB0, HBX⟩ := boxed v w
  have HC := Lib.hid HBX
  have hgW : w.heap.size < W.heap.size := by rw [HZ.out]; omega
  have HB := Lib.hid HB0
  have HCH := Lib.hid (r_check v l W (hL.grow HB0 (show w.heap.size ≤ W.heap.size by omega)))
  have hkeep : ∀ wr, Below W.heap.size W wr → _ := fun wr hb => box_kept hb hgW HC.out
  have HK := Lib.hid hkeep
  have HM := Lib.hid hm
  clear hL e2 e3 hkeep HB0 HBX hm
  obtain ⟨c0, c1', c2', c3'⟩ := HC.out
  obtain ⟨A1, n1, c1, A2, n2, c2, A3, n3, c3, A4, n4, c4⟩ := v
  simp only [LV.val] at *
  cases h4 : (check l != 0) with
  | true =>
    rw [h4, if_pos rfl] at E
    go_enter Tryd.func25, Tryd.ntmps25
    go_wp2_with fail
    refine HCH.out.mono ?_
    rintro e w1 ⟨rfl, hb1⟩
    clear hW c0 c1' c2' c3'
    go_wp2_with fail
    go_ret
    exact ⟨ret1 E.out.symm, HB.out.trans (hb1.mono (by omega))⟩
  | false =>
    rw [h4, if_neg (by decide)] at E
    have hz : check l = 0 := by simpa using h4
    obtain ⟨m3, m2⟩ := HM.out hz
    clear hz
    go_enter Tryd.func25, Tryd.ntmps25
    go_wp2_with fail
    refine HCH.out.mono ?_
    rintro e w1 ⟨rfl, hb1⟩
    clear hW c0 c1' c2' c3'
    obtain ⟨c0, c1', c2', c3'⟩ := HK.out w1 hb1
    go_wp2_with fail
    go_ret
    exact ⟨ret1 E.out.symm, HB.out.trans (hb1.mono (by omega))⟩
theorem step_btw (n : Nat) (s : Lay.Step) : stepOK n s = (btw s.1 0 ((n : Int) - 1) && btw s.2 0 1) := by
  unfold stepOK nof btw
  rw [Bool.eq_iff_iff]
  simp only [Bool.and_eq_true, Bool.or_eq_true, decide_eq_true_eq, beq_iff_eq]
  omega
set_option maxRecDepth 100000 in
theorem r_step (v : LV) (n : Nat) (s : Lay.Step) (w : World) (hn : v.n3 = n) (hn2 : n ≤ 100000) : Calls Tryd.prog 49 #[v.val, .agg #[.int .i64 s.1, .int .i64 s.2]] w (BoolPost (stepOK n s) w) := by
  have E := Lib.hid (step_btw n s)
  obtain ⟨A1, n1, c1, A2, n2, c2, A3, n3, c3, A4, n4, c4⟩ := v
  obtain ⟨x, y⟩ := s
  simp only [LV.val] at *
  subst hn
  cases h1 : btw x 0 ((n3 : Int) - 1) with
  | false =>
    rw [h1] at E
    go_enter Tryd.func49, Tryd.ntmps49
    go_wp2_with (go_at_call 47; refine (r_in _ _ _ _).mono ?_; rintro e w' ⟨rfl, rfl⟩; rw [h1])
    go_ret
    exact ⟨retb E.out.symm, ((Below.refl _ _).alloc (Nat.le_refl _) _).alloc (by simp) _⟩
  | true =>
    cases h2 : btw y 0 1
    all_goals
      rw [h1, h2] at E
      go_enter Tryd.func49, Tryd.ntmps49
      go_wp2_with (go_at_call 47; refine (r_in _ _ _ _).mono ?_; rintro e w' ⟨rfl, rfl⟩; (first | rw [h1] | rw [h2]))
      go_ret
      exact ⟨retb E.out.symm, ((Below.refl _ _).alloc (Nat.le_refl _) _).alloc (by simp) _⟩
set_option maxRecDepth 100000 in
set_option maxHeartbeats 1000000 in
theorem r_has_step (v : LV) (l : Lay) (s : Lay.Step) (w : World) (hL : RdL w w.heap.size v l) : Calls Tryd.prog 18 #[v.val, .agg #[.int .i64 s.1, .int .i64 s.2]] w (BoolPost (hasB l s) w) := by
  obtain ⟨W, hW⟩ : ∃ W, (w.alloc (.cells #[.slice v.A1 v.n1 v.c1, .slice v.A2 v.n2 v.c2, .slice v.A3 v.n3 v.c3, .slice v.A4 v.n4 v.c4] 26)).alloc (.cells #[.int .i64 s.1, .int .i64 s.2] 28) = W := ⟨_, rfl⟩
  have hbW : Below w.heap.size w W := by rw [← hW]; exact ((Below.refl _ _).alloc (Nat.le_refl _) _).alloc (by simp) _
  have hzW : w.heap.size + 1 < W.heap.size := by rw [← hW]; simp
  have HCB : Hid (W.cell? ⟨w.heap.size, 0, none⟩ = some (.slice v.A1 v.n1 v.c1) ∧ W.cell? ⟨w.heap.size, 1, none⟩ = some (.slice v.A2 v.n2 v.c2) ∧ W.cell? ⟨w.heap.size, 2, none⟩ = some (.slice v.A3 v.n3 v.c3) ∧ W.cell? ⟨w.heap.size, 3, none⟩ = some (.slice v.A4 v.n4 v.c4)) := by rw [Hid, ← hW]; simp
  have HST : Hid (Row2 W (w.heap.size + 1) s.1 s.2) := by rw [Hid, ← hW]; unfold Row2; simp
  have HCK := Lib.hid (r_check v l W (hL.grow hbW (by omega)))
  have HB := Lib.hid hbW
  have hm : check l = 0 → v.n3 ≤ 96 := fun h => by have := LayT.limits h; have := hL.sec.1; omega
  have HM := Lib.hid hm
  have HSP := Lib.hid (fun wx (q : v.n3 ≤ 100000) => r_step v v.n3 s wx rfl q)
  have E : Hid (hasB l s = (stepOK v.n3 s && (check l == 0))) := by rw [Hid, hasB, hL.sec.1]
  clear hL hbW hm
  obtain ⟨c0, c1', c2', c3'⟩ := HCB.out
  obtain ⟨q0, q1⟩ := HST.out
  obtain ⟨A1, n1, c1, A2, n2, c2, A3, n3, c3, A4, n4, c4⟩ := v
  obtain ⟨x, y⟩ := s
  simp only [LV.val] at *
  cases h4 : (check l == 0) with
  | false =>
    rw [h4, Bool.and_false] at E
    go_enter Tryd.func18, Tryd.ntmps18
    go_upto_region 1 with fail
    try rw [hW]
    clear hW
    go_wp2_with fail
    refine HCK.out.mono ?_
    rintro e w1 ⟨rfl, hb1⟩
    have HB1 := Lib.hid (HB.out.trans (hb1.mono (by omega)))
    clear hb1 c0 c1' c2' c3' q0 q1
    go_wp2_with fail
    go_ret
    exact ⟨retb E.out.symm, HB1.out⟩
  | true =>
    rw [h4, Bool.and_true] at E
    have hc : check l = 0 := by simpa using h4
    have hn3 := HM.out hc
    rw [hc] at HCK
    clear h4 hc HM
    go_enter Tryd.func18, Tryd.ntmps18
    go_upto_region 1 with fail
    try rw [hW]
    clear hW
    go_wp2_with fail
    refine HCK.out.mono ?_
    rintro e w1 ⟨rfl, hb1⟩
    have HB1 := Lib.hid (HB.out.trans (hb1.mono (by omega)))
    obtain ⟨k0, k1, k2, k3⟩ := box_kept (g := w.heap.size) (v := ⟨A1, n1, c1, A2, n2, c2, A3, n3, c3, A4, n4, c4⟩) hb1 (by omega) HCB.out
    obtain ⟨r0, r1⟩ := HST.out.below hb1 (by omega)
    clear hb1 c0 c1' c2' c3' q0 q1
    go_wp2_with fail
    (with_reducible refine (HSP.out w1 (by omega)).mono ?_)
    rintro e w2 ⟨rfl, hb2⟩
    have HB2 := Lib.hid (HB1.out.trans (hb2.mono HB1.out.size))
    clear hb2 k0 k1 k2 k3 r0 r1
    go_wp2_with fail
    go_ret
    exact ⟨retb E.out.symm, HB2.out⟩
end Go.Proofs.YtkfobijgjdgbgaaDoor.RHops

/-
  Contracts of the program's functions on steps, and of the number of resources.
-/
import Derived.Test.YtkfobijgjdgbgaaDoorPCheck
namespace Go.Proofs.YtkfobijgjdgbgaaDoor.PStep
open Go.ChangeShapes Go.WideShapes Go.ChangeAt Go.RowKit Wd Small Mem Lay LayT Recs Keep Names PNames PSecs PLinks PEnds PTab PLnk PCheck
set_option linter.unusedVariables false

/-- what a call leaves that answers a pair of numbers and has changed no old memory -/
def PairPost (p : Int × Int) (w : World) (e : Ending) (w' : World) : Prop := e = .returned (.agg #[.int .i64 p.1, .int .i64 p.2]) ∧ Below w.heap.size w w'
/-- the step into the section of an end, as the program answers it -/
def pinto (x y : Int) : Int × Int := if (y == 0) = true then (x, 0) else (x, 1)
def pout (x y : Int) : Int × Int := if (y == 0) = true then (x, 1) else (x, 0)

theorem step_from (x y : Int) (w : World) : Calls Tryd.prog 52 #[.agg #[.int .i64 x, .int .i64 y]] w (PairPost (pinto x y) w) := by
  cases h : (y == 0) with
  | true =>
    have E : Hid (pinto x y = (x, 0)) := by unfold pinto; rw [Hid, if_pos h]
    go_enter Tryd.func52, Tryd.ntmps52
    go_wp2
    refine bodyPost_ret (v := .agg #[.int .i64 x, .int .i64 0]) ?_ rfl ⟨by rw [E.out], ?_⟩
    · simp [results, Tryd.results52, go_sem]
    · repeat (first | exact Below.refl _ _ | refine Below.drew ?_ | refine Below.alloc ?_ (by simp; try omega) _)
  | false =>
    have E : Hid (pinto x y = (x, 1)) := by unfold pinto; rw [Hid, if_neg (by rw [h]; decide)]
    go_enter Tryd.func52, Tryd.ntmps52
    go_wp2
    refine bodyPost_ret (v := .agg #[.int .i64 x, .int .i64 1]) ?_ rfl ⟨by rw [E.out], ?_⟩
    · simp [results, Tryd.results52, go_sem]
    · repeat (first | exact Below.refl _ _ | refine Below.drew ?_ | refine Below.alloc ?_ (by simp; try omega) _)
theorem exit_of (x y : Int) (w : World) : Calls Tryd.prog 50 #[.agg #[.int .i64 x, .int .i64 y]] w (PairPost (pout x y) w) := by
  cases h : (y == 0) with
  | true =>
    have E : Hid (pout x y = (x, 1)) := by unfold pout; rw [Hid, if_pos h]
    go_enter Tryd.func50, Tryd.ntmps50
    go_wp2
    refine bodyPost_ret (v := .agg #[.int .i64 x, .int .i64 1]) ?_ rfl ⟨by rw [E.out], ?_⟩
    · simp [results, Tryd.results50, go_sem]
    · repeat (first | exact Below.refl _ _ | refine Below.drew ?_ | refine Below.alloc ?_ (by simp; try omega) _)
  | false =>
    have E : Hid (pout x y = (x, 0)) := by unfold pout; rw [Hid, if_neg (by rw [h]; decide)]
    go_enter Tryd.func50, Tryd.ntmps50
    go_wp2
    refine bodyPost_ret (v := .agg #[.int .i64 x, .int .i64 0]) ?_ rfl ⟨by rw [E.out], ?_⟩
    · simp [results, Tryd.results50, go_sem]
    · repeat (first | exact Below.refl _ _ | refine Below.drew ?_ | refine Below.alloc ?_ (by simp; try omega) _)
theorem reverse (x y : Int) (w : World) : Calls Tryd.prog 19 #[.agg #[.int .i64 x, .int .i64 y]] w (PairPost (rev (x, y)) w) := by
  cases h : (y == 0) with
  | true =>
    have E : Hid (rev (x, y) = (x, 1)) := by unfold rev; rw [Hid, if_pos (by simpa using h)]
    go_enter Tryd.func19, Tryd.ntmps19
    go_wp2
    refine bodyPost_ret (v := .agg #[.int .i64 x, .int .i64 1]) ?_ rfl ⟨by rw [E.out], ?_⟩
    · simp [results, Tryd.results19, go_sem]
    · repeat (first | exact Below.refl _ _ | refine Below.drew ?_ | refine Below.alloc ?_ (by simp; try omega) _)
  | false =>
    have E : Hid (rev (x, y) = (x, 0)) := by unfold rev; rw [Hid, if_neg (by simpa using h)]
    go_enter Tryd.func19, Tryd.ntmps19
    go_wp2
    refine bodyPost_ret (v := .agg #[.int .i64 x, .int .i64 0]) ?_ rfl ⟨by rw [E.out], ?_⟩
    · simp [results, Tryd.results19, go_sem]
    · repeat (first | exact Below.refl _ _ | refine Below.drew ?_ | refine Below.alloc ?_ (by simp; try omega) _)
/-- is it a step of a layout of n sections -/
def stepOK (n : Nat) (s : Lay.Step) : Bool := nof s.1 n && ((s.2 == 0) || (s.2 == 1))
def hasB (l : Lay) (s : Lay.Step) : Bool := stepOK l.sections.length s && (check l == 0)

set_option maxRecDepth 100000 in
theorem p_has (v : LV) (l : Lay) (s : Lay.Step) (w : World) (hL : RdL w w.heap.size v l) : Calls Tryd.prog 16 #[v.val, .agg #[.int .i64 s.1, .int .i64 s.2]] w (BoolPost (hasB l s) w) := by
  have E : Hid (hasB l s = (nof s.1 v.n3 && ((s.2 == 0) || (s.2 == 1)) && (check l == 0))) := by rw [Hid, hasB, stepOK, hL.sec.1]
  obtain ⟨W, hW⟩ : ∃ W, (w.alloc (.cells #[.slice v.A1 v.n1 v.c1, .slice v.A2 v.n2 v.c2, .slice v.A3 v.n3 v.c3, .slice v.A4 v.n4 v.c4] 26)).alloc (.cells #[.int .i64 s.1, .int .i64 s.2] 28) = W := ⟨_, rfl⟩
  have HB : Hid (Below w.heap.size w W ∧ w.heap.size ≤ W.heap.size) := by rw [Hid, ← hW]; exact ⟨((Below.refl _ _).alloc (Nat.le_refl _) _).alloc (by simp) _, by simp; omega⟩
  have HCH := Lib.hid (p_check v l W (hL.grow HB.out.1 HB.out.2))
  clear hL
  rw [hW.symm] at HCH
  clear hW HB W
  obtain ⟨A1, n1, c1, A2, n2, c2, A3, n3, c3, A4, n4, c4⟩ := v
  obtain ⟨x, y⟩ := s
  simp only [LV.val] at *
  cases h1 : nof x n3 <;> cases h2 : (y == 0) <;> cases h3 : (y == 1)
  all_goals
    rw [h1, h2, h3] at E
    go_enter Tryd.func16, Tryd.ntmps16
    go_wp2_with (go_at_call 44; refine (is_number _ _ _).mono ?_; rintro e w' ⟨rfl, rfl⟩; rw [h1])
    first
      | (go_ret; exact ⟨retb E.out.symm, ((Below.refl _ _).alloc (Nat.le_refl _) _).alloc (by simp) _⟩)
      | (refine HCH.out.mono ?_
         rintro e w2 ⟨rfl, hb2⟩
         cases h4 : (check l == 0)
         all_goals
           rw [h4] at E
           go_wp2_with fail
           go_ret
           exact ⟨retb E.out.symm, (((Below.refl _ _).alloc (Nat.le_refl _) _).alloc (by simp) _).trans (hb2.mono (by simp; omega))⟩)

/-- how many resources a layout has -/
def resources (l : Lay) : Int := if (check l != 0) = true then 0 else (l.sections.length : Int) + l.points.length
set_option maxRecDepth 100000 in
theorem p_resources (v : LV) (l : Lay) (w : World) (hL : RdL w w.heap.size v l) : Calls Tryd.prog 24 #[v.val] w (fun e w' => e = .returned (.int .i64 (resources l)) ∧ Below w.heap.size w w') := by
  have e2 := hL.pt.1
  have e3 := hL.sec.1
  have hm : check l = 0 → v.n3 ≤ 96 ∧ v.n2 ≤ 48 := fun h => by have := LayT.limits h; omega
  have E : Hid (resources l = if (check l != 0) = true then 0 else (v.n3 : Int) + v.n2) := by rw [Hid, resources, e2, e3]
  obtain ⟨W, hW, HZ, HB0, HBX⟩ := boxed v w
  have HC := Lib.hid HBX
  have hgW : w.heap.size < W.heap.size := by rw [HZ.out]; omega
  have HB := Lib.hid HB0
  have HCH := Lib.hid (p_check v l W (hL.grow HB0 (show w.heap.size ≤ W.heap.size by omega)))
  have hkeep : ∀ wr, Below W.heap.size W wr → _ := fun wr hb => box_kept hb hgW HC.out
  have HK := Lib.hid hkeep
  have HM := Lib.hid hm
  clear hL e2 e3 hkeep HB0 HBX hm
  obtain ⟨c0, c1', c2', c3'⟩ := HC.out
  obtain ⟨A1, n1, c1, A2, n2, c2, A3, n3, c3, A4, n4, c4⟩ := v
  simp only [LV.val] at *
  cases h4 : (check l != 0) with
  | true =>
    rw [h4, if_pos rfl] at E
    go_enter Tryd.func24, Tryd.ntmps24
    go_wp2_with fail
    refine HCH.out.mono ?_
    rintro e w1 ⟨rfl, hb1⟩
    clear hW c0 c1' c2' c3'
    go_wp2_with fail
    go_ret
    exact ⟨ret1 E.out.symm, HB.out.trans (hb1.mono (by omega))⟩
  | false =>
    rw [h4, if_neg (by decide)] at E
    have hz : check l = 0 := by simpa using h4
    obtain ⟨m3, m2⟩ := HM.out hz
    clear hz
    go_enter Tryd.func24, Tryd.ntmps24
    go_wp2_with fail
    refine HCH.out.mono ?_
    rintro e w1 ⟨rfl, hb1⟩
    clear hW c0 c1' c2' c3'
    obtain ⟨c0, c1', c2', c3'⟩ := HK.out w1 hb1
    go_wp2_with fail
    go_ret
    exact ⟨ret1 E.out.symm, HB.out.trans (hb1.mono (by omega))⟩
end Go.Proofs.YtkfobijgjdgbgaaDoor.PStep

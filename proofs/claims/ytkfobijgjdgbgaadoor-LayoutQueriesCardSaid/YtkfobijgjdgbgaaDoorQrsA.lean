/-
  Contract of the maker of steps: it answers some step.
  Contract of the document's Hops.
  Contracts of Format, the program's and the document's, at a layout that is not valid: the empty text. Contracts of Format, the program's and the document's, for any layout: the same text. The walk of the statements' comparison of all answers with the document's. The walk of the statement that compares all answers with the document's for a generated layout.
-/
import Derived.Test.YtkfobijgjdgbgaaDoorAwake
import Derived.Test.YtkfobijgjdgbgaaDoorSrc
import Derived.Test.YtkfobijgjdgbgaaDoorRHopsF
import Derived.Test.YtkfobijgjdgbgaaDoorPCheck
import Derived.Test.YtkfobijgjdgbgaaDoorRCheck
import Derived.Test.YtkfobijgjdgbgaaDoorFmtAll
import Derived.Test.YtkfobijgjdgbgaaDoorRFmt
import Derived.Test.YtkfobijgjdgbgaaDoorPHops
import Derived.Test.YtkfobijgjdgbgaaDoorRHops
import Derived.Test.YtkfobijgjdgbgaaDoorEqs
import Derived.Test.YtkfobijgjdgbgaaDoorMan
import Derived.Deep.RegionHeld3
import Derived.Test.YtkfobijgjdgbgaaDoorMaker
import Derived.Test.YtkfobijgjdgbgaaDoorLawF
namespace Go.Proofs.YtkfobijgjdgbgaaDoor.StepK
open Go.ChangeShapes Go.WideShapes Go.ChangeAt Go.RowKit Wd Small Mem Lay Recs Dec PNames PSecs PEnds PStep
set_option linter.unusedVariables false

/-- what a call leaves that answers a step -/
def StepPost (w : World) (e : Ending) (w' : World) : Prop := ∃ x y, e = .returned (.agg #[.int .i64 x, .int .i64 y]) ∧ Below w.heap.size w w'
theorem quo_bounds (a : Int) (k : Int) (hk : 1 ≤ k) (h1 : -9223372036854775808 ≤ a) (h2 : a ≤ 9223372036854775807) : -9223372036854775808 ≤ a.tdiv k ∧ a.tdiv k ≤ 9223372036854775807 := by
  rcases Int.le_total 0 a with h | h
  · rw [Int.tdiv_eq_ediv_of_nonneg h]
    exact ⟨by have := Int.ediv_nonneg h (show 0 ≤ k by omega); omega, by have := Int.ediv_le_self k h; omega⟩
  · have e : a.tdiv k = -((-a).tdiv k) := by rw [Int.neg_tdiv]; omega
    rw [e, Int.tdiv_eq_ediv_of_nonneg (by omega)]
    exact ⟨by have := Int.ediv_le_self k (show 0 ≤ -a by omega); omega, by have := Int.ediv_nonneg (show 0 ≤ -a by omega) (show 0 ≤ k by omega); omega⟩

set_option maxRecDepth 100000 in
set_option maxHeartbeats 1000000 in
theorem step_any (v : LV) (a : Int) (w : World) (h1 : -9223372036854775808 ≤ a) (h2 : a ≤ 9223372036854775807) (hn : v.n3 ≤ 100000) : Calls Tryd.prog 11 #[v.val, .int .i64 a] w (StepPost w) := by
  obtain ⟨q1, q2⟩ := quo_bounds a 16 (by decide) h1 h2
  obtain ⟨q3, q4⟩ := quo_bounds a 700 (by decide) h1 h2
  obtain ⟨q5, q6⟩ := quo_bounds (a.tdiv 16) 97 (by decide) q1 q2
  obtain ⟨A1, n1, c1, A2, n2, c2, A3, n3, c3, A4, n4, c4⟩ := v
  simp only [LV.val] at *
  go_enter Tryd.func11, Tryd.ntmps11
  go_wp2_with fail
  refine (pick_any a 16 _ h1 h2 (by decide) (by decide)).mono ?_
  rintro e wx ⟨rfl, rfl⟩
  obtain ⟨p0, p1⟩ := pick_range a 16 (by decide)
  generalize pick a 16 = p at *
  by_cases hp : p = 15
  · subst hp
    go_wp2_with fail
    refine (pick_any (a.tdiv 16) ((n3 : Int) + 4) _ q1 q2 (by omega) (by omega)).mono ?_
    rintro e wx ⟨rfl, rfl⟩
    obtain ⟨r0, r1⟩ := pick_range (a.tdiv 16) ((n3 : Int) + 4) (by omega)
    generalize pick (a.tdiv 16) ((n3 : Int) + 4) = r at *
    go_wp2_with fail
    refine (pick_any (a.tdiv 700) 4 _ q3 q4 (by decide) (by decide)).mono ?_
    rintro e wx ⟨rfl, rfl⟩
    obtain ⟨s0, s1⟩ := pick_range (a.tdiv 700) 4 (by decide)
    generalize pick (a.tdiv 700) 4 = s at *
    go_wp2_with fail
    refine bodyPost_ret (v := .agg #[.int .i64 (r - 2), .int .i64 (s - 1)]) ?_ rfl ⟨r - 2, s - 1, rfl, ?_⟩
    · simp [results, Tryd.results11, go_sem]
    · repeat (first | exact Below.refl _ _ | refine Below.drew ?_ | refine Below.alloc ?_ (by simp; try omega) _)
  · go_wp2_with fail
    have hm1 : (1 : Int) ≤ max 1 (n3 : Int) := Int.le_max_left _ _
    have hm2 : max 1 (n3 : Int) ≤ 9223372036854775807 := by omega
    refine (pick_any (a.tdiv 16) (max 1 (n3 : Int)) _ q1 q2 hm1 hm2).mono ?_
    rintro e wx ⟨rfl, rfl⟩
    generalize pick (a.tdiv 16) (max 1 (n3 : Int)) = r at *
    go_wp2_with fail
    refine (pick_any ((a.tdiv 16).tdiv 97) 2 _ q5 q6 (by decide) (by decide)).mono ?_
    rintro e wx ⟨rfl, rfl⟩
    generalize pick ((a.tdiv 16).tdiv 97) 2 = s at *
    go_wp2_with fail
    refine bodyPost_ret (v := .agg #[.int .i64 r, .int .i64 s]) ?_ rfl ⟨r, s, rfl, ?_⟩
    · simp [results, Tryd.results11, go_sem]
    · repeat (first | exact Below.refl _ _ | refine Below.drew ?_ | refine Below.alloc ?_ (by simp; try omega) _)
end Go.Proofs.YtkfobijgjdgbgaaDoor.StepK

namespace Go.Proofs.YtkfobijgjdgbgaaDoor.RHopsG
open Go.ChangeShapes Go.WideShapes Go.ChangeAt Go.RowKit Wd Small Mem Lay LayT Recs Keep Names PNames PSecs PLinks PEnds PTab PLnk PCheck PStep PHops RNames RCheck RHops RHopsF
set_option linter.unusedVariables false

set_option maxRecDepth 100000 in
set_option maxHeartbeats 2000000 in
theorem r_hops (v : LV) (l : Lay) (s : Lay.Step) (w : World) (hL : RdL w w.heap.size v l) : Calls Tryd.prog 23 #[v.val, .agg #[.int .i64 s.1, .int .i64 s.2]] w (HopsPost (hopsOf l s) w) := by
  obtain ⟨W, hW⟩ : ∃ W, (w.alloc (.cells #[.slice v.A1 v.n1 v.c1, .slice v.A2 v.n2 v.c2, .slice v.A3 v.n3 v.c3, .slice v.A4 v.n4 v.c4] 26)).alloc (.cells #[.int .i64 s.1, .int .i64 s.2] 28) = W := ⟨_, rfl⟩
  have hbW : Below w.heap.size w W := by rw [← hW]; exact ((Below.refl _ _).alloc (Nat.le_refl _) _).alloc (by simp) _
  have hzW : w.heap.size + 1 < W.heap.size := by rw [← hW]; simp
  have HSt : Hid (Row2 W (w.heap.size + 1) s.1 s.2) := by rw [Hid, ← hW]; unfold Row2; simp
  have HC : Hid (W.cell? ⟨w.heap.size, 0, none⟩ = some (.slice v.A1 v.n1 v.c1) ∧ W.cell? ⟨w.heap.size, 1, none⟩ = some (.slice v.A2 v.n2 v.c2) ∧ W.cell? ⟨w.heap.size, 2, none⟩ = some (.slice v.A3 v.n3 v.c3) ∧ W.cell? ⟨w.heap.size, 3, none⟩ = some (.slice v.A4 v.n4 v.c4)) := by rw [Hid, ← hW]; simp
  have hRW := hL.grow hbW (show w.heap.size ≤ W.heap.size by omega)
  have HHS := Lib.hid (r_has_step v l s W hRW)
  have HRW := Lib.hid hRW
  have HBW := Lib.hid hbW
  clear hL hRW hbW
  obtain ⟨q0, q1⟩ := HSt.out
  obtain ⟨c0, c1', c2', c3'⟩ := HC.out
  cases hh : hasB l s with
  | false =>
    have E : Hid (hopsOf l s = []) := by unfold hopsOf; rw [Hid, if_neg (by rw [hh]; decide)]
    rw [hh] at HHS
    clear hh HRW
    obtain ⟨A1, n1, c1, A2, n2, c2, A3, n3, c3, A4, n4, c4⟩ := v
    obtain ⟨x, y⟩ := s
    simp only [LV.val] at *
    go_enter Tryd.func23, Tryd.ntmps23
    go_wp2_with fail
    refine HHS.out.mono ?_
    rintro e w1 ⟨rfl, hb1⟩
    clear hW q0 q1 c0 c1' c2' c3'
    go_wp2_with fail
    go_ret
    exact ⟨none, 0, 0, rfl, by rw [E.out]; exact Own.nil _ _, HBW.out.trans (hb1.mono (by omega))⟩
  | true =>
    have E : Hid (hopsOf l s = hops l.links s) := by unfold hopsOf; rw [Hid, if_pos hh]
    rw [hh] at HHS
    have hc : check l = 0 := by
      simp only [hasB, stepOK, Bool.and_eq_true, Bool.or_eq_true, beq_iff_eq] at hh
      exact hh.2
    have HOF : Hid (∀ wx, Below W.heap.size W wx → Calls Tryd.prog 53 #[v.val, .agg #[.int .i64 s.1, .int .i64 s.2]] wx (HopsPost (hops l.links s) wx)) := fun wx hb => r_hops_of v l s wx (HRW.out.grow hb hb.size) hc
    have HK : Hid (∀ wr, Below W.heap.size W wr → _) := fun wr hb => box_kept (v := v) hb (show w.heap.size < W.heap.size by omega) HC.out
    clear hh hc HRW
    obtain ⟨A1, n1, c1, A2, n2, c2, A3, n3, c3, A4, n4, c4⟩ := v
    obtain ⟨x, y⟩ := s
    simp only [LV.val] at *
    go_enter Tryd.func23, Tryd.ntmps23
    go_wp2_with fail
    refine HHS.out.mono ?_
    rintro e w1 ⟨rfl, hb1⟩
    clear hW q0 q1 c0 c1' c2' c3'
    obtain ⟨q0, q1⟩ := HSt.out.below hb1 (by omega)
    obtain ⟨c0, c1', c2', c3'⟩ := HK.out w1 hb1
    have HB1 := Lib.hid (HBW.out.trans (hb1.mono HBW.out.size))
    go_wp2_with fail
    refine (HOF.out w1 hb1).mono ?_
    rintro e w2 ⟨A, n, c, rfl, hO, hb2⟩
    have HO2 := Lib.hid (hO.base_ HB1.out.size)
    have HB2 := Lib.hid (HB1.out.trans (hb2.mono HB1.out.size))
    clear hO hb2 q0 q1 c0 c1' c2' c3'
    go_wp2_with fail
    go_ret
    exact ⟨A, n, c, rfl, by rw [E.out]; exact HO2.out, HB2.out⟩
end Go.Proofs.YtkfobijgjdgbgaaDoor.RHopsG

namespace Go.Proofs.YtkfobijgjdgbgaaDoor.FmtB
open Go.ChangeShapes Go.WideShapes Go.ChangeAt Go.RowKit Wd Small Mem Lay LayT Recs PNames PSecs PLinks PEnds PCheck RNames RCheck
set_option linter.unusedVariables false

def Empty (w : World) (e : Ending) (w' : World) : Prop := e = .returned (.string ⟨#[]⟩) ∧ Below w.heap.size w w'
set_option maxRecDepth 100000 in
set_option maxHeartbeats 1000000 in
theorem r_bad (v : LV) (l : Lay) (w : World) (hL : RdL w w.heap.size v l) (hv : check l ≠ 0) : Calls Tryd.prog 26 #[v.val] w (Empty w) := by
  obtain ⟨W, hW, HZ, HB0, HBX⟩ := boxed v w
  have HB := Lib.hid HB0
  have HCK := Lib.hid (r_check v l W (hL.grow HB0 HB0.size))
  have hk : (check l != 0) = true := by simpa using hv
  have hk2 : (check l == 0) = false := by simpa using hv
  generalize check l = ck at *
  obtain ⟨c0, c1', c2', c3'⟩ := HBX
  clear hL hv HB0
  obtain ⟨A1, n1, c1, A2, n2, c2, A3, n3, c3, A4, n4, c4⟩ := v
  simp only [LV.val] at *
  go_enter Tryd.func26, Tryd.ntmps26
  go_upto_region 1 with fail
  try rw [hW]
  clear hW
  go_wp2_with fail
  refine HCK.out.mono ?_
  rintro e w1 ⟨rfl, hb1⟩
  have HB1 := Lib.hid (HB.out.trans (hb1.mono HB.out.size))
  clear hb1 c0 c1' c2' c3'
  go_wp2_with fail
  go_ret
  exact ⟨rfl, HB1.out⟩
set_option maxRecDepth 100000 in
set_option maxHeartbeats 1000000 in
theorem p_bad (v : LV) (l : Lay) (w : World) (hL : RdL w w.heap.size v l) (hv : check l ≠ 0) : Calls Tryd.prog 14 #[v.val] w (Empty w) := by
  obtain ⟨W, hW, HZ, HB0, HBX⟩ := boxed v w
  have HB := Lib.hid HB0
  have HCK := Lib.hid (p_check v l W (hL.grow HB0 HB0.size))
  have hk : (check l != 0) = true := by simpa using hv
  have hk2 : (check l == 0) = false := by simpa using hv
  generalize check l = ck at *
  obtain ⟨c0, c1', c2', c3'⟩ := HBX
  clear hL hv HB0
  obtain ⟨A1, n1, c1, A2, n2, c2, A3, n3, c3, A4, n4, c4⟩ := v
  simp only [LV.val] at *
  go_enter Tryd.func14, Tryd.ntmps14
  go_upto_region 1 with fail
  try rw [hW]
  clear hW
  go_wp2_with fail
  refine HCK.out.mono ?_
  rintro e w1 ⟨rfl, hb1⟩
  have HB1 := Lib.hid (HB.out.trans (hb1.mono HB.out.size))
  clear hb1 c0 c1' c2' c3'
  go_wp2_with fail
  go_ret
  exact ⟨rfl, HB1.out⟩
end Go.Proofs.YtkfobijgjdgbgaaDoor.FmtB

namespace Go.Proofs.YtkfobijgjdgbgaaDoor.FmtQ
open Go.ChangeShapes Go.WideShapes Go.ChangeAt Go.RowKit Wd Small Mem Lay LayT Recs FmtB PFmt RFmt Itoa
set_option linter.unusedVariables false

theorem none_ {l : Lay} (h : check l ≠ 0) : str (format l) = ⟨#[]⟩ := by
  rw [format, if_neg h]; rfl
theorem p_any (v : LV) (l : Lay) (w : World) (hL : RdL w w.heap.size v l) (ht : Tab w) : Calls Tryd.prog 14 #[v.val] w (FmtPost l w) := by
  by_cases h : check l = 0
  · exact p_format v l w hL h ht
  · refine (p_bad v l w hL h).mono ?_
    rintro e w' ⟨rfl, hb⟩
    exact ⟨by rw [none_ h], hb⟩
theorem r_any (v : LV) (l : Lay) (w : World) (hL : RdL w w.heap.size v l) : Calls Tryd.prog 26 #[v.val] w (FmtPost l w) := by
  by_cases h : check l = 0
  · refine (r_format v l w hL h).mono ?_
    rintro e w' ⟨t, rfl, ht, _, _, hb⟩
    exact ⟨by rw [← ht, str_bs], hb⟩
  · refine (r_bad v l w hL h).mono ?_
    rintro e w' ⟨rfl, hb⟩
    exact ⟨by rw [none_ h], hb⟩
end Go.Proofs.YtkfobijgjdgbgaaDoor.FmtQ

namespace Go.Proofs.YtkfobijgjdgbgaaDoor.WQr
open Go.ChangeShapes Go.WideShapes Go.ChangeAt Go.RowKit Wd Small Mem Lay LayT Recs PNames PSecs PEnds PCheck PStep PHops RHops RHopsG RCheck Eqs FmtQ PFmt Itoa Man
set_option linter.unusedVariables false

set_option maxRecDepth 100000 in
set_option maxHeartbeats 8000000 in
theorem queries (v : LV) (l : Lay) (s : Lay.Step) (w : World) (hL : RdL w w.heap.size v l) (ht : Tab w) : Calls Tryd.prog 8 #[v.val, .agg #[.int .i64 s.1, .int .i64 s.2]] w (BoolPost true w) := by
  obtain ⟨W, hW⟩ : ∃ W, (w.alloc (.cells #[.slice v.A1 v.n1 v.c1, .slice v.A2 v.n2 v.c2, .slice v.A3 v.n3 v.c3, .slice v.A4 v.n4 v.c4] 26)).alloc (.cells #[.int .i64 s.1, .int .i64 s.2] 28) = W := ⟨_, rfl⟩
  have hbW : Below w.heap.size w W := by rw [← hW]; exact ((Below.refl _ _).alloc (Nat.le_refl _) _).alloc (by simp) _
  have hzW : w.heap.size + 1 < W.heap.size := by rw [← hW]; simp
  have hcs : W.cell? ⟨w.heap.size, 0, none⟩ = some (.slice v.A1 v.n1 v.c1) ∧ W.cell? ⟨w.heap.size, 1, none⟩ = some (.slice v.A2 v.n2 v.c2) ∧ W.cell? ⟨w.heap.size, 2, none⟩ = some (.slice v.A3 v.n3 v.c3) ∧ W.cell? ⟨w.heap.size, 3, none⟩ = some (.slice v.A4 v.n4 v.c4) ∧ W.cell? ⟨w.heap.size + 1, 0, none⟩ = some (.int .i64 s.1) ∧ W.cell? ⟨w.heap.size + 1, 1, none⟩ = some (.int .i64 s.2) := by rw [← hW]; simp
  have HKC := Lib.hid (fun w' (hb : Below W.heap.size W w') => (⟨(hb.cell (p := ⟨w.heap.size, 0, none⟩) (by simp only; omega)).trans hcs.1, (hb.cell (p := ⟨w.heap.size, 1, none⟩) (by simp only; omega)).trans hcs.2.1, (hb.cell (p := ⟨w.heap.size, 2, none⟩) (by simp only; omega)).trans hcs.2.2.1, (hb.cell (p := ⟨w.heap.size, 3, none⟩) (by simp only; omega)).trans hcs.2.2.2.1, (hb.cell (p := ⟨w.heap.size + 1, 0, none⟩) (by simp only; omega)).trans hcs.2.2.2.2.1, (hb.cell (p := ⟨w.heap.size + 1, 1, none⟩) (by simp only; omega)).trans hcs.2.2.2.2.2⟩ : w'.cell? ⟨w.heap.size, 0, none⟩ = some (.slice v.A1 v.n1 v.c1) ∧ w'.cell? ⟨w.heap.size, 1, none⟩ = some (.slice v.A2 v.n2 v.c2) ∧ w'.cell? ⟨w.heap.size, 2, none⟩ = some (.slice v.A3 v.n3 v.c3) ∧ w'.cell? ⟨w.heap.size, 3, none⟩ = some (.slice v.A4 v.n4 v.c4) ∧ w'.cell? ⟨w.heap.size + 1, 0, none⟩ = some (.int .i64 s.1) ∧ w'.cell? ⟨w.heap.size + 1, 1, none⟩ = some (.int .i64 s.2)))
  have HR : Hid (∀ w', Below W.heap.size W w' → RdL w' w'.heap.size v l) := fun w' hb => hL.grow (hbW.trans (hb.mono hbW.size)) (Nat.le_trans hbW.size hb.size)
  have HT : Hid (∀ w', Below W.heap.size W w' → Tab w') := fun w' hb => ht.keep (hbW.trans (hb.mono hbW.size))
  have HC1 : Hid (∀ w', Below W.heap.size W w' → _) := fun w' hb => p_check v l w' (HR.out w' hb)
  have HC2 : Hid (∀ w', Below W.heap.size W w' → _) := fun w' hb => r_check v l w' (HR.out w' hb)
  have HH1 : Hid (∀ w', Below W.heap.size W w' → _) := fun w' hb => p_has v l s w' (HR.out w' hb)
  have HH2 : Hid (∀ w', Below W.heap.size W w' → _) := fun w' hb => r_has_step v l s w' (HR.out w' hb)
  have HV1 : Hid (∀ w', Below W.heap.size W w' → _) := fun w' hb => reverse s.1 s.2 w'
  have HV2 : Hid (∀ w', Below W.heap.size W w' → _) := fun w' hb => r_reverse s.1 s.2 w'
  have HP1 : Hid (∀ w', Below W.heap.size W w' → _) := fun w' hb => p_hops v l s w' (HR.out w' hb)
  have HP2 : Hid (∀ w', Below W.heap.size W w' → _) := fun w' hb => r_hops v l s w' (HR.out w' hb)
  have HS1 : Hid (∀ w', Below W.heap.size W w' → _) := fun w' hb => p_resources v l w' (HR.out w' hb)
  have HS2 : Hid (∀ w', Below W.heap.size W w' → _) := fun w' hb => r_resources v l w' (HR.out w' hb)
  have HF1 : Hid (∀ w', Below W.heap.size W w' → _) := fun w' hb => p_any v l w' (HR.out w' hb) (HT.out w' hb)
  have HF2 : Hid (∀ w', Below W.heap.size W w' → _) := fun w' hb => r_any v l w' (HR.out w' hb)
  have HBW := Lib.hid hbW
  have HW := Lib.hid hW
  obtain ⟨c0, c1', c2', c3', s0, s1⟩ := hcs
  clear hL ht hbW hW
  obtain ⟨A1, n1, c1, A2, n2, c2, A3, n3, c3, A4, n4, c4⟩ := v
  obtain ⟨x, y⟩ := s
  simp only [LV.val] at *
  go_enter Tryd.func8, Tryd.ntmps8
  go_upto_region 1 with fail
  rw [HW.out]
  clear HW
  refine wp_region_held_drew (S := (fun w' => w'.cell? ⟨w.heap.size, 0, none⟩ = some (.slice A1 n1 c1) ∧ w'.cell? ⟨w.heap.size, 1, none⟩ = some (.slice A2 n2 c2) ∧ w'.cell? ⟨w.heap.size, 2, none⟩ = some (.slice A3 n3 c3) ∧ w'.cell? ⟨w.heap.size, 3, none⟩ = some (.slice A4 n4 c4) ∧ w'.cell? ⟨w.heap.size + 1, 0, none⟩ = some (.int .i64 x) ∧ w'.cell? ⟨w.heap.size + 1, 1, none⟩ = some (.int .i64 y))) (by kernel_rfl) (HKC.out W (Below.refl _ _)) (fun hHeld => ?_)
  have HB0 : Hid (Below W.heap.size W W.drew) := (Below.refl _ _).drew
  generalize W.drew = y0 at *
  refine take_yes 0 (some 5) (v := ?v0_1) rfl rfl (by kernel_rfl) (by kernel_rfl) (by kernel_rfl) (fun _ _ _ h => h) (by kernel_rfl) ?h0_1 (by assumption) ?_
  case h0_1 =>
    intro w hSw
    (try dsimp only at hSw)
    (try go_split_ands)
    go_simp
    try with_reducible rfl
  (try simp only [Act.put, List.setIfInBounds_toArray, List.set_cons_zero, List.set_cons_succ])
  refine take_yes 2 (some 7) (v := ?v2_2) rfl rfl (by kernel_rfl) (by kernel_rfl) (by kernel_rfl) (fun _ _ _ h => h) (by kernel_rfl) ?h2_2 (by assumption) ?_
  case h2_2 =>
    intro w hSw
    (try dsimp only at hSw)
    (try go_split_ands)
    go_simp
    try with_reducible rfl
  (try simp only [Act.put, List.setIfInBounds_toArray, List.set_cons_zero, List.set_cons_succ])
  refine wpAnyH_ready (rs := [1]) (by kernel_rfl) (by simp) ?_
  refine AllReadyH.cons rfl (fun K hK => ?_) AllReadyH.nil
  go_simp
  go_at_call 10
  (with_reducible refine (HC1.out _ HB0.out).mono ?_)
  rintro e y1 ⟨rfl, hb⟩
  have HB1 := Lib.hid (HB0.out.trans (hb.mono HB0.out.size))
  clear hb
  refine hK.out _ _ (HKC.out _ HB1.out) (fun hHeld1 => ?_)
  clear hK K hHeld
  (try simp only [Act.put, List.setIfInBounds_toArray, List.set_cons_zero, List.set_cons_succ])
  refine wpAnyH_ready (rs := [3]) (by kernel_rfl) (by simp) ?_
  refine AllReadyH.cons rfl (fun K hK => ?_) AllReadyH.nil
  go_simp
  go_at_call 17
  (with_reducible refine (HC2.out _ HB1.out).mono ?_)
  rintro e y2 ⟨rfl, hb⟩
  have HB2 := Lib.hid (HB1.out.trans (hb.mono HB1.out.size))
  clear hb
  refine hK.out _ _ (HKC.out _ HB2.out) (fun hHeld2 => ?_)
  clear hK K hHeld1
  (try simp only [Act.put, List.setIfInBounds_toArray, List.set_cons_zero, List.set_cons_succ])
  refine take_yes 4 (some 9) (v := .bool true) rfl rfl (by kernel_rfl) (by kernel_rfl) (by kernel_rfl) (fun _ _ _ h => h) (by kernel_rfl) ?h4_3 (by assumption) ?_
  case h4_3 =>
    intro w hSw
    simp [go_sem, execOp, eqGuard, Act.eval]
  (try simp only [Act.put, List.setIfInBounds_toArray, List.set_cons_zero, List.set_cons_succ])
  refine take_yes 5 (some 10) (v := ?v5_4) rfl rfl (by kernel_rfl) (by kernel_rfl) (by kernel_rfl) (fun _ _ _ h => h) (by kernel_rfl) ?h5_4 (by assumption) ?_
  case h5_4 =>
    intro w hSw
    (try dsimp only at hSw)
    (try go_split_ands)
    go_simp
    try with_reducible rfl
  (try simp only [Act.put, List.setIfInBounds_toArray, List.set_cons_zero, List.set_cons_succ])
  refine take_yes 6 (some 11) (v := ?v6_5) rfl rfl (by kernel_rfl) (by kernel_rfl) (by kernel_rfl) (fun _ _ _ h => h) (by kernel_rfl) ?h6_5 (by assumption) ?_
  case h6_5 =>
    intro w hSw
    (try dsimp only at hSw)
    (try go_split_ands)
    go_simp
    try with_reducible rfl
  (try simp only [Act.put, List.setIfInBounds_toArray, List.set_cons_zero, List.set_cons_succ])
  refine take_yes 7 (some 12) (v := ?v7_6) rfl rfl (by kernel_rfl) (by kernel_rfl) (by kernel_rfl) (fun _ _ _ h => h) (by kernel_rfl) ?h7_6 (by assumption) ?_
  case h7_6 =>
    intro w hSw
    (try dsimp only at hSw)
    (try go_split_ands)
    go_simp
    try with_reducible rfl
  (try simp only [Act.put, List.setIfInBounds_toArray, List.set_cons_zero, List.set_cons_succ])
  refine take_yes 9 (some 14) (v := ?v9_7) rfl rfl (by kernel_rfl) (by kernel_rfl) (by kernel_rfl) (fun _ _ _ h => h) (by kernel_rfl) ?h9_7 (by assumption) ?_
  case h9_7 =>
    intro w hSw
    (try dsimp only at hSw)
    (try go_split_ands)
    go_simp
    try with_reducible rfl
  (try simp only [Act.put, List.setIfInBounds_toArray, List.set_cons_zero, List.set_cons_succ])
  refine take_yes 10 (some 15) (v := ?v10_8) rfl rfl (by kernel_rfl) (by kernel_rfl) (by kernel_rfl) (fun _ _ _ h => h) (by kernel_rfl) ?h10_8 (by assumption) ?_
  case h10_8 =>
    intro w hSw
    (try dsimp only at hSw)
    (try go_split_ands)
    go_simp
    try with_reducible rfl
  (try simp only [Act.put, List.setIfInBounds_toArray, List.set_cons_zero, List.set_cons_succ])
  refine wpAnyH_ready (rs := [8]) (by kernel_rfl) (by simp) ?_
  refine AllReadyH.cons rfl (fun K hK => ?_) AllReadyH.nil
  go_simp
  go_at_call 16
  (with_reducible refine (HH1.out _ HB2.out).mono ?_)
  rintro e y3 ⟨rfl, hb⟩
  have HB3 := Lib.hid (HB2.out.trans (hb.mono HB2.out.size))
  clear hb
  refine hK.out _ _ (HKC.out _ HB3.out) (fun hHeld3 => ?_)
  clear hK K hHeld2
  (try simp only [Act.put, List.setIfInBounds_toArray, List.set_cons_zero, List.set_cons_succ])
  refine wpAnyH_ready (rs := [11]) (by kernel_rfl) (by simp) ?_
  refine AllReadyH.cons rfl (fun K hK => ?_) AllReadyH.nil
  go_simp
  go_at_call 18
  (with_reducible refine (HH2.out _ HB3.out).mono ?_)
  rintro e y4 ⟨rfl, hb⟩
  have HB4 := Lib.hid (HB3.out.trans (hb.mono HB3.out.size))
  clear hb
  refine hK.out _ _ (HKC.out _ HB4.out) (fun hHeld4 => ?_)
  clear hK K hHeld3
  (try simp only [Act.put, List.setIfInBounds_toArray, List.set_cons_zero, List.set_cons_succ])
  refine take_yes 12 (some 17) (v := .bool true) rfl rfl (by kernel_rfl) (by kernel_rfl) (by kernel_rfl) (fun _ _ _ h => h) (by kernel_rfl) ?h12_9 (by assumption) ?_
  case h12_9 =>
    intro w hSw
    simp [go_sem, execOp, eqGuard, Act.eval]
  (try simp only [Act.put, List.setIfInBounds_toArray, List.set_cons_zero, List.set_cons_succ])
  refine take_yes 13 (some 18) (v := ?v13_10) rfl rfl (by kernel_rfl) (by kernel_rfl) (by kernel_rfl) (fun _ _ _ h => h) (by kernel_rfl) ?h13_10 (by assumption) ?_
  case h13_10 =>
    intro w hSw
    (try dsimp only at hSw)
    (try go_split_ands)
    go_simp
    try with_reducible rfl
  (try simp only [Act.put, List.setIfInBounds_toArray, List.set_cons_zero, List.set_cons_succ])
  refine take_yes 14 (some 19) (v := ?v14_11) rfl rfl (by kernel_rfl) (by kernel_rfl) (by kernel_rfl) (fun _ _ _ h => h) (by kernel_rfl) ?h14_11 (by assumption) ?_
  case h14_11 =>
    intro w hSw
    (try dsimp only at hSw)
    (try go_split_ands)
    go_simp
    try with_reducible rfl
  (try simp only [Act.put, List.setIfInBounds_toArray, List.set_cons_zero, List.set_cons_succ])
  refine take_yes 15 (some 20) (v := ?v15_12) rfl rfl (by kernel_rfl) (by kernel_rfl) (by kernel_rfl) (fun _ _ _ h => h) (by kernel_rfl) ?h15_12 (by assumption) ?_
  case h15_12 =>
    intro w hSw
    (try dsimp only at hSw)
    (try go_split_ands)
    go_simp
    try with_reducible rfl
  (try simp only [Act.put, List.setIfInBounds_toArray, List.set_cons_zero, List.set_cons_succ])
  refine take_yes 17 (some 22) (v := ?v17_13) rfl rfl (by kernel_rfl) (by kernel_rfl) (by kernel_rfl) (fun _ _ _ h => h) (by kernel_rfl) ?h17_13 (by assumption) ?_
  case h17_13 =>
    intro w hSw
    (try dsimp only at hSw)
    (try go_split_ands)
    go_simp
    try with_reducible rfl
  (try simp only [Act.put, List.setIfInBounds_toArray, List.set_cons_zero, List.set_cons_succ])
  refine wpAnyH_ready (rs := [16]) (by kernel_rfl) (by simp) ?_
  refine AllReadyH.cons rfl (fun K hK => ?_) AllReadyH.nil
  go_simp
  go_at_call 19
  (with_reducible refine (HV1.out _ HB4.out).mono ?_)
  rintro e y5 ⟨rfl, hb⟩
  have HB5 := Lib.hid (HB4.out.trans (hb.mono HB4.out.size))
  clear hb
  refine hK.out _ _ (HKC.out _ HB5.out) (fun hHeld5 => ?_)
  clear hK K hHeld4
  (try simp only [Act.put, List.setIfInBounds_toArray, List.set_cons_zero, List.set_cons_succ])
  refine wpAnyH_ready (rs := [18]) (by kernel_rfl) (by simp) ?_
  refine AllReadyH.cons rfl (fun K hK => ?_) AllReadyH.nil
  go_simp
  go_at_call 20
  (with_reducible refine (HV2.out _ HB5.out).mono ?_)
  rintro e y6 ⟨rfl, hb⟩
  have HB6 := Lib.hid (HB5.out.trans (hb.mono HB5.out.size))
  clear hb
  refine hK.out _ _ (HKC.out _ HB6.out) (fun hHeld6 => ?_)
  clear hK K hHeld5
  (try simp only [Act.put, List.setIfInBounds_toArray, List.set_cons_zero, List.set_cons_succ])
  refine take_yes 19 (some 24) (v := .bool true) rfl rfl (by kernel_rfl) (by kernel_rfl) (by kernel_rfl) (fun _ _ _ h => h) (by kernel_rfl) ?h19_14 (by assumption) ?_
  case h19_14 =>
    intro w hSw
    simp [go_sem, execOp, eqGuard, Act.eval, run_equalIn_struct, Program.fieldsOf, Tryd.underlying28]
  (try simp only [Act.put, List.setIfInBounds_toArray, List.set_cons_zero, List.set_cons_succ])
  refine take_yes 20 (some 25) (v := ?v20_15) rfl rfl (by kernel_rfl) (by kernel_rfl) (by kernel_rfl) (fun _ _ _ h => h) (by kernel_rfl) ?h20_15 (by assumption) ?_
  case h20_15 =>
    intro w hSw
    (try dsimp only at hSw)
    (try go_split_ands)
    go_simp
    try with_reducible rfl
  (try simp only [Act.put, List.setIfInBounds_toArray, List.set_cons_zero, List.set_cons_succ])
  refine take_yes 21 (some 26) (v := ?v21_16) rfl rfl (by kernel_rfl) (by kernel_rfl) (by kernel_rfl) (fun _ _ _ h => h) (by kernel_rfl) ?h21_16 (by assumption) ?_
  case h21_16 =>
    intro w hSw
    (try dsimp only at hSw)
    (try go_split_ands)
    go_simp
    try with_reducible rfl
  (try simp only [Act.put, List.setIfInBounds_toArray, List.set_cons_zero, List.set_cons_succ])
  refine take_yes 22 (some 27) (v := ?v22_17) rfl rfl (by kernel_rfl) (by kernel_rfl) (by kernel_rfl) (fun _ _ _ h => h) (by kernel_rfl) ?h22_17 (by assumption) ?_
  case h22_17 =>
    intro w hSw
    (try dsimp only at hSw)
    (try go_split_ands)
    go_simp
    try with_reducible rfl
  (try simp only [Act.put, List.setIfInBounds_toArray, List.set_cons_zero, List.set_cons_succ])
  refine take_yes 23 (some 28) (v := ?v23_18) rfl rfl (by kernel_rfl) (by kernel_rfl) (by kernel_rfl) (fun _ _ _ h => h) (by kernel_rfl) ?h23_18 (by assumption) ?_
  case h23_18 =>
    intro w hSw
    (try dsimp only at hSw)
    (try go_split_ands)
    go_simp
    try with_reducible rfl
  (try simp only [Act.put, List.setIfInBounds_toArray, List.set_cons_zero, List.set_cons_succ])
  refine take_yes 25 (some 30) (v := ?v25_19) rfl rfl (by kernel_rfl) (by kernel_rfl) (by kernel_rfl) (fun _ _ _ h => h) (by kernel_rfl) ?h25_19 (by assumption) ?_
  case h25_19 =>
    intro w hSw
    (try dsimp only at hSw)
    (try go_split_ands)
    go_simp
    try with_reducible rfl
  (try simp only [Act.put, List.setIfInBounds_toArray, List.set_cons_zero, List.set_cons_succ])
  refine take_yes 26 (some 31) (v := ?v26_20) rfl rfl (by kernel_rfl) (by kernel_rfl) (by kernel_rfl) (fun _ _ _ h => h) (by kernel_rfl) ?h26_20 (by assumption) ?_
  case h26_20 =>
    intro w hSw
    (try dsimp only at hSw)
    (try go_split_ands)
    go_simp
    try with_reducible rfl
  (try simp only [Act.put, List.setIfInBounds_toArray, List.set_cons_zero, List.set_cons_succ])
  refine wpAnyH_ready (rs := [24]) (by kernel_rfl) (by simp) ?_
  refine AllReadyH.cons rfl (fun K hK => ?_) AllReadyH.nil
  go_simp
  go_at_call 22
  (with_reducible refine (HP1.out _ HB6.out).mono ?_)
  rintro e y7 ⟨Ap, np, cp, rfl, hO, hb⟩
  have HB7 := Lib.hid (HB6.out.trans (hb.mono HB6.out.size))
  have HO1 := Lib.hid hO
  clear hO
  clear hb
  refine hK.out _ _ (HKC.out _ HB7.out) (fun hHeld7 => ?_)
  clear hK K hHeld6
  (try simp only [Act.put, List.setIfInBounds_toArray, List.set_cons_zero, List.set_cons_succ])
  refine wpAnyH_ready (rs := [27]) (by kernel_rfl) (by simp) ?_
  refine AllReadyH.cons rfl (fun K hK => ?_) AllReadyH.nil
  go_simp
  go_at_call 23
  (with_reducible refine (HP2.out _ HB7.out).mono ?_)
  rintro e y8 ⟨Ar, nr, cr, rfl, hO, hb⟩
  have HB8 := Lib.hid (HB7.out.trans (hb.mono HB7.out.size))
  obtain rfl : nr = np := hO.1.symm.trans HO1.out.1
  have hnn : nr ≤ 9223372036854775807 := by
    obtain ⟨_, _, e0, q1, q2⟩ := hO.form
    cases e0
    unfold maxLen at q2; omega
  have HD1 := Lib.hid ((HO1.out.rd).grow hb hb.size)
  have HD2 := Lib.hid hO.rd
  have HSM : Hid (∀ w', Below y8.heap.size y8 w' → _) := fun w' hq => same_hop Ap nr cp Ar cr _ w' (HD1.out.grow hq hq.size) (HD2.out.grow hq hq.size) hnn
  clear hO HO1
  clear hb
  refine hK.out _ _ (HKC.out _ HB8.out) (fun hHeld8 => ?_)
  clear hK K hHeld7
  (try simp only [Act.put, List.setIfInBounds_toArray, List.set_cons_zero, List.set_cons_succ])
  refine wpAnyH_ready (rs := [28]) (by kernel_rfl) (by simp) ?_
  refine AllReadyH.cons rfl (fun K hK => ?_) AllReadyH.nil
  go_simp
  go_at_call 21
  (with_reducible refine (HSM.out y8 (Below.refl _ _)).mono ?_)
  rintro e y9 ⟨rfl, hb⟩
  have HB9 := Lib.hid (HB8.out.trans (hb.mono HB8.out.size))
  clear hb
  refine hK.out _ _ (HKC.out _ HB9.out) (fun hHeld9 => ?_)
  clear hK K hHeld8
  (try simp only [Act.put, List.setIfInBounds_toArray, List.set_cons_zero, List.set_cons_succ])
  refine take_yes 29 (some 34) (v := ?v29_21) rfl rfl (by kernel_rfl) (by kernel_rfl) (by kernel_rfl) (fun _ _ _ h => h) (by kernel_rfl) ?h29_21 (by assumption) ?_
  case h29_21 =>
    intro w hSw
    (try dsimp only at hSw)
    (try go_split_ands)
    go_simp
    try with_reducible rfl
  (try simp only [Act.put, List.setIfInBounds_toArray, List.set_cons_zero, List.set_cons_succ])
  refine take_yes 30 (some 35) (v := ?v30_22) rfl rfl (by kernel_rfl) (by kernel_rfl) (by kernel_rfl) (fun _ _ _ h => h) (by kernel_rfl) ?h30_22 (by assumption) ?_
  case h30_22 =>
    intro w hSw
    (try dsimp only at hSw)
    (try go_split_ands)
    go_simp
    try with_reducible rfl
  (try simp only [Act.put, List.setIfInBounds_toArray, List.set_cons_zero, List.set_cons_succ])
  refine take_yes 31 (some 36) (v := ?v31_23) rfl rfl (by kernel_rfl) (by kernel_rfl) (by kernel_rfl) (fun _ _ _ h => h) (by kernel_rfl) ?h31_23 (by assumption) ?_
  case h31_23 =>
    intro w hSw
    (try dsimp only at hSw)
    (try go_split_ands)
    go_simp
    try with_reducible rfl
  (try simp only [Act.put, List.setIfInBounds_toArray, List.set_cons_zero, List.set_cons_succ])
  refine take_yes 33 (some 38) (v := ?v33_24) rfl rfl (by kernel_rfl) (by kernel_rfl) (by kernel_rfl) (fun _ _ _ h => h) (by kernel_rfl) ?h33_24 (by assumption) ?_
  case h33_24 =>
    intro w hSw
    (try dsimp only at hSw)
    (try go_split_ands)
    go_simp
    try with_reducible rfl
  (try simp only [Act.put, List.setIfInBounds_toArray, List.set_cons_zero, List.set_cons_succ])
  refine wpAnyH_ready (rs := [32]) (by kernel_rfl) (by simp) ?_
  refine AllReadyH.cons rfl (fun K hK => ?_) AllReadyH.nil
  go_simp
  go_at_call 24
  (with_reducible refine (HS1.out _ HB9.out).mono ?_)
  rintro e y10 ⟨rfl, hb⟩
  have HB10 := Lib.hid (HB9.out.trans (hb.mono HB9.out.size))
  clear hb
  refine hK.out _ _ (HKC.out _ HB10.out) (fun hHeld10 => ?_)
  clear hK K hHeld9
  (try simp only [Act.put, List.setIfInBounds_toArray, List.set_cons_zero, List.set_cons_succ])
  refine wpAnyH_ready (rs := [34]) (by kernel_rfl) (by simp) ?_
  refine AllReadyH.cons rfl (fun K hK => ?_) AllReadyH.nil
  go_simp
  go_at_call 25
  (with_reducible refine (HS2.out _ HB10.out).mono ?_)
  rintro e y11 ⟨rfl, hb⟩
  have HB11 := Lib.hid (HB10.out.trans (hb.mono HB10.out.size))
  clear hb
  refine hK.out _ _ (HKC.out _ HB11.out) (fun hHeld11 => ?_)
  clear hK K hHeld10
  (try simp only [Act.put, List.setIfInBounds_toArray, List.set_cons_zero, List.set_cons_succ])
  refine take_yes 35 (some 40) (v := .bool true) rfl rfl (by kernel_rfl) (by kernel_rfl) (by kernel_rfl) (fun _ _ _ h => h) (by kernel_rfl) ?h35_25 (by assumption) ?_
  case h35_25 =>
    intro w hSw
    simp [go_sem, execOp, eqGuard, Act.eval]
  (try simp only [Act.put, List.setIfInBounds_toArray, List.set_cons_zero, List.set_cons_succ])
  refine take_yes 36 (some 41) (v := ?v36_26) rfl rfl (by kernel_rfl) (by kernel_rfl) (by kernel_rfl) (fun _ _ _ h => h) (by kernel_rfl) ?h36_26 (by assumption) ?_
  case h36_26 =>
    intro w hSw
    (try dsimp only at hSw)
    (try go_split_ands)
    go_simp
    try with_reducible rfl
  (try simp only [Act.put, List.setIfInBounds_toArray, List.set_cons_zero, List.set_cons_succ])
  refine take_yes 37 (some 42) (v := ?v37_27) rfl rfl (by kernel_rfl) (by kernel_rfl) (by kernel_rfl) (fun _ _ _ h => h) (by kernel_rfl) ?h37_27 (by assumption) ?_
  case h37_27 =>
    intro w hSw
    (try dsimp only at hSw)
    (try go_split_ands)
    go_simp
    try with_reducible rfl
  (try simp only [Act.put, List.setIfInBounds_toArray, List.set_cons_zero, List.set_cons_succ])
  refine take_yes 38 (some 43) (v := ?v38_28) rfl rfl (by kernel_rfl) (by kernel_rfl) (by kernel_rfl) (fun _ _ _ h => h) (by kernel_rfl) ?h38_28 (by assumption) ?_
  case h38_28 =>
    intro w hSw
    (try dsimp only at hSw)
    (try go_split_ands)
    go_simp
    try with_reducible rfl
  (try simp only [Act.put, List.setIfInBounds_toArray, List.set_cons_zero, List.set_cons_succ])
  refine take_yes 40 (some 45) (v := ?v40_29) rfl rfl (by kernel_rfl) (by kernel_rfl) (by kernel_rfl) (fun _ _ _ h => h) (by kernel_rfl) ?h40_29 (by assumption) ?_
  case h40_29 =>
    intro w hSw
    (try dsimp only at hSw)
    (try go_split_ands)
    go_simp
    try with_reducible rfl
  (try simp only [Act.put, List.setIfInBounds_toArray, List.set_cons_zero, List.set_cons_succ])
  refine wpAnyH_ready (rs := [39]) (by kernel_rfl) (by simp) ?_
  refine AllReadyH.cons rfl (fun K hK => ?_) AllReadyH.nil
  go_simp
  go_at_call 14
  (with_reducible refine (HF1.out _ HB11.out).mono ?_)
  rintro e y12 ⟨rfl, hb⟩
  have HB12 := Lib.hid (HB11.out.trans (hb.mono HB11.out.size))
  clear hb
  refine hK.out _ _ (HKC.out _ HB12.out) (fun hHeld12 => ?_)
  clear hK K hHeld11
  (try simp only [Act.put, List.setIfInBounds_toArray, List.set_cons_zero, List.set_cons_succ])
  refine wpAnyH_ready (rs := [41]) (by kernel_rfl) (by simp) ?_
  refine AllReadyH.cons rfl (fun K hK => ?_) AllReadyH.nil
  go_simp
  go_at_call 26
  (with_reducible refine (HF2.out _ HB12.out).mono ?_)
  rintro e y13 ⟨rfl, hb⟩
  have HB13 := Lib.hid (HB12.out.trans (hb.mono HB12.out.size))
  clear hb
  refine hK.out _ _ (HKC.out _ HB13.out) (fun hHeld13 => ?_)
  clear hK K hHeld12
  (try simp only [Act.put, List.setIfInBounds_toArray, List.set_cons_zero, List.set_cons_succ])
  refine take_yes 42 (some 47) (v := .bool true) rfl rfl (by kernel_rfl) (by kernel_rfl) (by kernel_rfl) (fun _ _ _ h => h) (by kernel_rfl) ?h42_30 (by assumption) ?_
  case h42_30 =>
    intro w hSw
    simp [go_sem, execOp, eqGuard, Act.eval]
  (try simp only [Act.put, List.setIfInBounds_toArray, List.set_cons_zero, List.set_cons_succ])
  refine take_yes 43 (some 48) (v := ?v43_31) rfl rfl (by kernel_rfl) (by kernel_rfl) (by kernel_rfl) (fun _ _ _ h => h) (by kernel_rfl) ?h43_31 (by assumption) ?_
  case h43_31 =>
    intro w hSw
    (try dsimp only at hSw)
    (try go_split_ands)
    go_simp
    try with_reducible rfl
  (try simp only [Act.put, List.setIfInBounds_toArray, List.set_cons_zero, List.set_cons_succ])
  refine take_yes 44 (some 4) (v := ?v44_32) rfl rfl (by kernel_rfl) (by kernel_rfl) (by kernel_rfl) (fun _ _ _ h => h) (by kernel_rfl) ?h44_32 (by assumption) ?_
  case h44_32 =>
    intro w hSw
    (try dsimp only at hSw)
    (try go_split_ands)
    go_simp
    try with_reducible rfl
  (try simp only [Act.put, List.setIfInBounds_toArray, List.set_cons_zero, List.set_cons_succ])
  refine wpAnyH_done (by kernel_rfl) ?_ _
  have HZ := Lib.hid (HBW.out.trans (HB13.out.mono HBW.out.size))
  clear hHeld13
  go_wp2_with fail
  go_ret
  exact ⟨rfl, HZ.out⟩
end Go.Proofs.YtkfobijgjdgbgaaDoor.WQr

namespace Go.Proofs.YtkfobijgjdgbgaaDoor.WQs
open Go.ChangeShapes Go.WideShapes Go.ChangeAt Go.RowKit Wd Small Mem Lay LayT Recs PNames PSecs PEnds PCheck Src Awake Maker StepK LawF Itoa Man WQr
set_option linter.unusedVariables false

set_option maxRecDepth 100000 in
set_option maxHeartbeats 8000000 in
theorem generated (A0 : Option Addr) (n0 c0 : Nat) (hn0 : n0 ≤ c0) (hc0 : c0 ≤ 9223372036854775807) (a1 : Int) (w1 : (Lit.int .i64 a1).wf = true) (w : World) (hI : Ints w w.heap.size A0 n0) (ht : Tab w) :
    Calls Tryd.prog 4 #[.slice A0 n0 c0, .int .i64 a1] w (Yes w) := by
  obtain ⟨b1, b2⟩ := bounds_i64 w1
  clear w1
  go_enter Tryd.func4, Tryd.ntmps4
  go_wp2_with fail
  refine (layout_any A0 n0 c0 w hI (by omega)).mono ?_
  rintro e wl ⟨v, L, rfl, hR, hv, hbl⟩
  obtain ⟨W, hW, HZ1, HB1, HBX1⟩ := boxed v wl
  have hg1 : wl.heap.size < W.heap.size := by rw [HZ1.out]; omega
  have hn3 : v.n3 ≤ 100000 := by have h1 := LayT.limits hv; have h2 := hR.sec.1; omega
  have HR : Hid (∀ w', Below W.heap.size W w' → RdL w' w'.heap.size v L) := fun w' hb => hR.grow (HB1.trans (hb.mono HB1.size)) (Nat.le_trans HB1.size hb.size)
  have hbw := hbl.trans (HB1.mono hbl.size)
  have HBW := Lib.hid hbw
  have HKC := Lib.hid (fun w' (hb : Below W.heap.size W w') => box_kept (v := v) hb hg1 HBX1)
  have HCK : Hid (∀ w', Below W.heap.size W w' → Calls Tryd.prog 10 #[v.val] w' (ErrPost 0 w')) := fun w' hb => by rw [← hv]; exact p_check v L w' (HR.out w' hb)
  have HST : Hid (∀ w', _) := fun w' => step_any v a1 w' b1 b2 hn3
  have HQ : Hid (∀ sx sy w', Below W.heap.size W w' → Calls Tryd.prog 8 #[v.val, .agg #[.int .i64 sx, .int .i64 sy]] w' (BoolPost true w')) := fun sx sy w' hb => queries v L (sx, sy) w' (HR.out w' hb) (ht.keep (hbw.trans (hb.mono hbw.size)))
  have hcs := HBX1
  clear hR hbl HB1 HBX1 hI hv hbw hn3 ht HZ1
  obtain ⟨A1, n1, c1, A2, n2, c2, A3, n3, c3, A4, n4, c4⟩ := v
  simp only [LV.val] at *
  obtain ⟨c0', c1', c2', c3'⟩ := hcs
  go_upto_region 2 with fail
  try rw [hW]
  clear hW
  refine wp_region_held_drew (S := (fun w' => w'.cell? ⟨wl.heap.size, 0, none⟩ = some (.slice A1 n1 c1) ∧ w'.cell? ⟨wl.heap.size, 1, none⟩ = some (.slice A2 n2 c2) ∧ w'.cell? ⟨wl.heap.size, 2, none⟩ = some (.slice A3 n3 c3) ∧ w'.cell? ⟨wl.heap.size, 3, none⟩ = some (.slice A4 n4 c4))) (by kernel_rfl) (HKC.out W (Below.refl _ _)) (fun hHeld => ?_)
  have HB0 : Hid (Below W.heap.size W W.drew) := (Below.refl _ _).drew
  generalize W.drew = y0 at *
  refine wpAnyH_ready (rs := [0]) (by kernel_rfl) (by simp) ?_
  refine AllReadyH.cons rfl (fun K hK => ?_) AllReadyH.nil
  go_simp
  go_at_call 7
  (with_reducible refine (awake_any y0).mono ?_)
  rintro e y1 ⟨rfl, hb⟩
  have HB1 := Lib.hid (HB0.out.trans (hb.mono HB0.out.size))
  clear hb
  refine hK.out _ _ (HKC.out _ HB1.out) (fun hHeld1 => ?_)
  clear hK K hHeld
  (try simp only [Act.put, List.setIfInBounds_toArray, List.set_cons_zero, List.set_cons_succ])
  refine take_yes 1 (some 9) (v := ?v1_1) rfl rfl (by kernel_rfl) (by kernel_rfl) (by kernel_rfl) (fun _ _ _ h => h) (by kernel_rfl) ?h1_1 (by assumption) ?_
  case h1_1 =>
    intro w hSw
    (try dsimp only at hSw)
    (try go_split_ands)
    go_simp
    try with_reducible rfl
  (try simp only [Act.put, List.setIfInBounds_toArray, List.set_cons_zero, List.set_cons_succ])
  refine take_yes 2 (some 10) (v := ?v2_2) rfl rfl (by kernel_rfl) (by kernel_rfl) (by kernel_rfl) (fun _ _ _ h => h) (by kernel_rfl) ?h2_2 (by assumption) ?_
  case h2_2 =>
    intro w hSw
    (try dsimp only at hSw)
    (try go_split_ands)
    go_simp
    try with_reducible rfl
  (try simp only [Act.put, List.setIfInBounds_toArray, List.set_cons_zero, List.set_cons_succ])
  refine wpAnyH_ready (rs := [3]) (by kernel_rfl) (by simp) ?_
  refine AllReadyH.cons rfl (fun K hK => ?_) AllReadyH.nil
  go_simp
  go_at_call 10
  (with_reducible refine (HCK.out y1 HB1.out).mono ?_)
  rintro e y2 ⟨rfl, hb⟩
  have HB2 := Lib.hid (HB1.out.trans (hb.mono HB1.out.size))
  clear hb
  refine hK.out _ _ (HKC.out _ HB2.out) (fun hHeld2 => ?_)
  clear hK K hHeld1
  (try simp only [Act.put, List.setIfInBounds_toArray, List.set_cons_zero, List.set_cons_succ])
  refine take_yes 4 (some 12) (v := .bool true) rfl rfl (by kernel_rfl) (by kernel_rfl) (by kernel_rfl) (fun _ _ _ h => h) (by kernel_rfl) ?h4_3 (by assumption) ?_
  case h4_3 =>
    intro w hSw
    simp [go_sem, execOp, eqGuard, Act.eval]
  (try simp only [Act.put, List.setIfInBounds_toArray, List.set_cons_zero, List.set_cons_succ])
  refine take_yes 5 (some 13) (v := ?v5_4) rfl rfl (by kernel_rfl) (by kernel_rfl) (by kernel_rfl) (fun _ _ _ h => h) (by kernel_rfl) ?h5_4 (by assumption) ?_
  case h5_4 =>
    intro w hSw
    (try dsimp only at hSw)
    (try go_split_ands)
    go_simp
    try with_reducible rfl
  (try simp only [Act.put, List.setIfInBounds_toArray, List.set_cons_zero, List.set_cons_succ])
  refine take_yes 6 (some 14) (v := ?v6_5) rfl rfl (by kernel_rfl) (by kernel_rfl) (by kernel_rfl) (fun _ _ _ h => h) (by kernel_rfl) ?h6_5 (by assumption) ?_
  case h6_5 =>
    intro w hSw
    (try dsimp only at hSw)
    (try go_split_ands)
    go_simp
    try with_reducible rfl
  (try simp only [Act.put, List.setIfInBounds_toArray, List.set_cons_zero, List.set_cons_succ])
  refine take_yes 7 (some 15) (v := ?v7_6) rfl rfl (by kernel_rfl) (by kernel_rfl) (by kernel_rfl) (fun _ _ _ h => h) (by kernel_rfl) ?h7_6 (by assumption) ?_
  case h7_6 =>
    intro w hSw
    (try dsimp only at hSw)
    (try go_split_ands)
    go_simp
    try with_reducible rfl
  (try simp only [Act.put, List.setIfInBounds_toArray, List.set_cons_zero, List.set_cons_succ])
  refine take_yes 8 (some 16) (v := ?v8_7) rfl rfl (by kernel_rfl) (by kernel_rfl) (by kernel_rfl) (fun _ _ _ h => h) (by kernel_rfl) ?h8_7 (by assumption) ?_
  case h8_7 =>
    intro w hSw
    (try dsimp only at hSw)
    (try go_split_ands)
    go_simp
    try with_reducible rfl
  (try simp only [Act.put, List.setIfInBounds_toArray, List.set_cons_zero, List.set_cons_succ])
  refine take_yes 9 (some 17) (v := ?v9_8) rfl rfl (by kernel_rfl) (by kernel_rfl) (by kernel_rfl) (fun _ _ _ h => h) (by kernel_rfl) ?h9_8 (by assumption) ?_
  case h9_8 =>
    intro w hSw
    (try dsimp only at hSw)
    (try go_split_ands)
    go_simp
    try with_reducible rfl
  (try simp only [Act.put, List.setIfInBounds_toArray, List.set_cons_zero, List.set_cons_succ])
  refine wpAnyH_ready (rs := [10]) (by kernel_rfl) (by simp) ?_
  refine AllReadyH.cons rfl (fun K hK => ?_) AllReadyH.nil
  go_simp
  go_at_call 11
  (with_reducible refine (HST.out y2).mono ?_)
  rintro e y3 ⟨sx, sy, rfl, hb⟩
  have HB3 := Lib.hid (HB2.out.trans (hb.mono HB2.out.size))
  clear hb
  refine hK.out _ _ (HKC.out _ HB3.out) (fun hHeld3 => ?_)
  clear hK K hHeld2
  (try simp only [Act.put, List.setIfInBounds_toArray, List.set_cons_zero, List.set_cons_succ])
  refine wpAnyH_ready (rs := [11]) (by kernel_rfl) (by simp) ?_
  refine AllReadyH.cons rfl (fun K hK => ?_) AllReadyH.nil
  go_simp
  go_at_call 8
  (with_reducible refine (HQ.out sx sy y3 HB3.out).mono ?_)
  rintro e y4 ⟨rfl, hb⟩
  have HB4 := Lib.hid (HB3.out.trans (hb.mono HB3.out.size))
  clear hb
  refine hK.out _ _ (HKC.out _ HB4.out) (fun hHeld4 => ?_)
  clear hK K hHeld3
  (try simp only [Act.put, List.setIfInBounds_toArray, List.set_cons_zero, List.set_cons_succ])
  refine take_yes 12 (some 20) (v := ?v12_9) rfl rfl (by kernel_rfl) (by kernel_rfl) (by kernel_rfl) (fun _ _ _ h => h) (by kernel_rfl) ?h12_9 (by assumption) ?_
  case h12_9 =>
    intro w hSw
    (try dsimp only at hSw)
    (try go_split_ands)
    go_simp
    try with_reducible rfl
  (try simp only [Act.put, List.setIfInBounds_toArray, List.set_cons_zero, List.set_cons_succ])
  refine take_yes 13 (some 4) (v := ?v13_10) rfl rfl (by kernel_rfl) (by kernel_rfl) (by kernel_rfl) (fun _ _ _ h => h) (by kernel_rfl) ?h13_10 (by assumption) ?_
  case h13_10 =>
    intro w hSw
    (try dsimp only at hSw)
    (try go_split_ands)
    go_simp
    try with_reducible rfl
  (try simp only [Act.put, List.setIfInBounds_toArray, List.set_cons_zero, List.set_cons_succ])
  refine wpAnyH_done (by kernel_rfl) ?_ _
  have HZ := Lib.hid (HBW.out.trans (HB4.out.mono HBW.out.size))
  clear hHeld4
  go_wp2_with fail
  go_ret
  exact ⟨rfl, HZ.out⟩
end Go.Proofs.YtkfobijgjdgbgaaDoor.WQs

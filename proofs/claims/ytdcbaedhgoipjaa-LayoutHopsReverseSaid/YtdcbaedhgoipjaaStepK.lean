/-
  Contract of the maker of steps: it answers some step.
-/
import Derived.Test.YtdcbaedhgoipjaaAwake
import Derived.Test.YtdcbaedhgoipjaaSrc
namespace Go.Proofs.Ytdcbaedhgoipjaa.StepK
open Go.ChangeShapes Go.WideShapes Go.ChangeAt Go.RowKit Wd Small Mem Lay Recs Dec PNames PSecs PEnds PStep
set_option linter.unusedVariables false

/-- what a call leaves that answers a step -/
def StepPost (w : World) (e : Ending) (w' : World) : Prop := ∃ x y, e = .returned (.agg #[.int .i64 x, .int .i64 y]) ∧ Below w.heap.size w w'
theorem quo_bounds (a : Int) (k : Int) (hk : 1 ≤ k) (h1 : -9223372036854775808 ≤ a) (h2 : a ≤ 9223372036854775807) : -9223372036854775808 ≤ a.tdiv k ∧ a.tdiv k ≤ 9223372036854775807 := by
  rcases Int.le_total 0 a with h | h
  · rw [Int.tdiv_eq_ediv_of_nonneg h]
    exact ⟨by have := Int.ediv_nonneg h (show 0 ≤ k by omega); omega, by have := Int.ediv_le_self k h; omega⟩
  · have e : a.tdiv k = -((-a).tdiv k) := by rw [Int.neg_tdiv]; omega
    rw [e, Int.tdiv_eq_ediv_of_nonneg (by omega)]
    exact ⟨by have := Int.ediv_le_self k (show 0 ≤ -a by omega); omega, by have := Int.ediv_nonneg (show 0 ≤ -a by omega) (show 0 ≤ k by omega); omega⟩

set_option maxRecDepth 100000 in
set_option maxHeartbeats 1000000 in
theorem step_any (v : LV) (a : Int) (w : World) (h1 : -9223372036854775808 ≤ a) (h2 : a ≤ 9223372036854775807) (hn : v.n3 ≤ 100000) : Calls Try.prog 19 #[v.val, .int .i64 a] w (StepPost w) := by
  obtain ⟨q1, q2⟩ := quo_bounds a 16 (by decide) h1 h2
  obtain ⟨q3, q4⟩ := quo_bounds a 700 (by decide) h1 h2
  obtain ⟨q5, q6⟩ := quo_bounds (a.tdiv 16) 97 (by decide) q1 q2
  obtain ⟨A1, n1, c1, A2, n2, c2, A3, n3, c3, A4, n4, c4⟩ := v
  simp only [LV.val] at *
  go_enter Try.func19, Try.ntmps19
  go_wp2_with fail
  refine (pick_any a 16 _ h1 h2 (by decide) (by decide)).mono ?_
  rintro e wx ⟨rfl, rfl⟩
  obtain ⟨p0, p1⟩ := pick_range a 16 (by decide)
  generalize pick a 16 = p at *
  by_cases hp : p = 15
  · subst hp
    go_wp2_with fail
    refine (pick_any (a.tdiv 16) ((n3 : Int) + 4) _ q1 q2 (by omega) (by omega)).mono ?_
    rintro e wx ⟨rfl, rfl⟩
    obtain ⟨r0, r1⟩ := pick_range (a.tdiv 16) ((n3 : Int) + 4) (by omega)
    generalize pick (a.tdiv 16) ((n3 : Int) + 4) = r at *
    go_wp2_with fail
    refine (pick_any (a.tdiv 700) 4 _ q3 q4 (by decide) (by decide)).mono ?_
    rintro e wx ⟨rfl, rfl⟩
    obtain ⟨s0, s1⟩ := pick_range (a.tdiv 700) 4 (by decide)
    generalize pick (a.tdiv 700) 4 = s at *
    go_wp2_with fail
    refine bodyPost_ret (v := .agg #[.int .i64 (r - 2), .int .i64 (s - 1)]) ?_ rfl ⟨r - 2, s - 1, rfl, ?_⟩
    · simp [results, Try.results19, go_sem]
    · repeat (first | exact Below.refl _ _ | refine Below.drew ?_ | refine Below.alloc ?_ (by simp; try omega) _)
  · go_wp2_with fail
    have hm1 : (1 : Int) ≤ max 1 (n3 : Int) := Int.le_max_left _ _
    have hm2 : max 1 (n3 : Int) ≤ 9223372036854775807 := by omega
    refine (pick_any (a.tdiv 16) (max 1 (n3 : Int)) _ q1 q2 hm1 hm2).mono ?_
    rintro e wx ⟨rfl, rfl⟩
    generalize pick (a.tdiv 16) (max 1 (n3 : Int)) = r at *
    go_wp2_with fail
    refine (pick_any ((a.tdiv 16).tdiv 97) 2 _ q5 q6 (by decide) (by decide)).mono ?_
    rintro e wx ⟨rfl, rfl⟩
    generalize pick ((a.tdiv 16).tdiv 97) 2 = s at *
    go_wp2_with fail
    refine bodyPost_ret (v := .agg #[.int .i64 r, .int .i64 s]) ?_ rfl ⟨r, s, rfl, ?_⟩
    · simp [results, Try.results19, go_sem]
    · repeat (first | exact Below.refl _ _ | refine Below.drew ?_ | refine Below.alloc ?_ (by simp; try omega) _)
end Go.Proofs.Ytdcbaedhgoipjaa.StepK

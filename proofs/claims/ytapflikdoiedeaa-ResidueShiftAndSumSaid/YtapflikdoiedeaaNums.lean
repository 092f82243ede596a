/-
  Contracts of the plain arithmetic that the statements of this seat call: remainders, the choice of a number, the choice of a period.
-/
import Derived.Test.YtapflikdoiedeaaRows
import Derived.Test.YtapflikdoiedeaaMem
import Derived.ProofKit
import Derived.OpenShut
import Derived.BigQuiet
import Derived.Outline
namespace Go.Proofs.Ytapflikdoiedeaa.Nums
open Go.ChangeShapes Go.WideShapes Go.ChangeAt Go.RowKit
set_option linter.unusedVariables false

theorem retb {a b : Bool} (h : a = b) : Ending.returned (.bool a) = Ending.returned (.bool b) := by rw [h]
theorem ret1 {a b : Int} (h : a = b) : Ending.returned (.int .i64 a) = Ending.returned (.int .i64 b) := by rw [h]

theorem mod_any (a b : Int) (w : World) (h1 : -9223372036854775808 ≤ a) (h2 : a ≤ 9223372036854775807) (hb : 1 ≤ b) (hb2 : b ≤ 9223372036854775807) :
    Calls Try.prog 43 #[.int .i64 a, .int .i64 b] w fun e w' => e = .returned (.int .i64 (a % b)) ∧ w = w' := by
  by_cases ha : 0 ≤ a
  · obtain ⟨g1, g2, g3, _, _, _⟩ := Plain.pos_div a b ha hb
    go_enter Try.func43, Try.ntmps43
    go_wp2
    all_goals go_ret
    all_goals exact ⟨rfl, rfl⟩
  · obtain ⟨g1, g2, g3, g4, _, g6⟩ := Plain.neg_div a b (by omega) hb
    clear g6
    by_cases hr : a.tmod b < 0
    · have e := (Plain.floor_neg_lt a b (by omega) hb hr).2
      have E := Lib.hid e
      clear e
      go_enter Try.func43, Try.ntmps43
      go_wp2
      all_goals go_ret
      all_goals exact ⟨ret1 E.out.symm, rfl⟩
    · have e := (Plain.floor_neg_eq a b (by omega) hb hr).2
      have E := Lib.hid e
      clear e
      go_enter Try.func43, Try.ntmps43
      go_wp2
      all_goals go_ret
      all_goals exact ⟨ret1 E.out.symm, rfl⟩

theorem mod_ref (a b : Int) (w : World) (h1 : -9223372036854775808 ≤ a) (h2 : a ≤ 9223372036854775807) (hb : 1 ≤ b) (hb2 : b ≤ 9223372036854775807) :
    Calls Try.prog 52 #[.int .i64 a, .int .i64 b] w fun e w' => e = .returned (.int .i64 (a % b)) ∧ w = w' := by
  by_cases ha : 0 ≤ a
  · obtain ⟨g1, g2, g3, _, _, _⟩ := Plain.pos_div a b ha hb
    go_enter Try.func52, Try.ntmps52
    go_wp2
    all_goals go_ret
    all_goals exact ⟨rfl, rfl⟩
  · obtain ⟨g1, g2, g3, g4, _, g6⟩ := Plain.neg_div a b (by omega) hb
    clear g6
    by_cases hr : a.tmod b < 0
    · have e := (Plain.floor_neg_lt a b (by omega) hb hr).2
      have E := Lib.hid e
      clear e
      go_enter Try.func52, Try.ntmps52
      go_wp2
      all_goals go_ret
      all_goals exact ⟨ret1 E.out.symm, rfl⟩
    · have e := (Plain.floor_neg_eq a b (by omega) hb hr).2
      have E := Lib.hid e
      clear e
      go_enter Try.func52, Try.ntmps52
      go_wp2
      all_goals go_ret
      all_goals exact ⟨ret1 E.out.symm, rfl⟩

/-- the number from 0 to n - 1 that an arbitrary integer picks -/
def pick (v n : Int) : Int := (v % 18446744073709551616) % n

theorem pick_range (v n : Int) (hn : 1 ≤ n) : 0 ≤ pick v n ∧ pick v n < n := ⟨Int.emod_nonneg _ (by omega), Int.emod_lt_of_pos _ (by omega)⟩

theorem pick_eq (v n : Int) (hn : 1 ≤ n) (hn2 : n ≤ 9223372036854775807) : wrap64 ((IntKind.u64.wrap v).tmod n) = pick v n := by
  have h := pick_range v n hn
  have e : IntKind.u64.wrap v = v % 18446744073709551616 := IntKind.wrap_u64 v
  have h0 : 0 ≤ v % 18446744073709551616 := Int.emod_nonneg _ (by omega)
  rw [e, Int.tmod_eq_emod_of_nonneg h0]
  exact IntWalk.wrap64_in _ ⟨by unfold pick at h; omega, by unfold pick at h; omega⟩

theorem pick_any (v n : Int) (w : World) (h1 : -9223372036854775808 ≤ v) (h2 : v ≤ 9223372036854775807) (hn : 1 ≤ n) (hn2 : n ≤ 9223372036854775807) :
    Calls Try.prog 27 #[.int .i64 v, .int .i64 n] w fun e w' => e = .returned (.int .i64 (pick v n)) ∧ w = w' := by
  have E := Lib.hid (pick_eq v n hn hn2)
  go_enter Try.func27, Try.ntmps27
  go_wp2
  go_ret
  exact ⟨ret1 E.out, rfl⟩

theorem tdiv8 (a : Int) (h1 : -9223372036854775808 ≤ a) (h2 : a ≤ 9223372036854775807) : -9223372036854775808 ≤ a.tdiv 8 ∧ a.tdiv 8 ≤ 9223372036854775807 := by
  by_cases ha : 0 ≤ a
  · rw [Int.tdiv_eq_ediv_of_nonneg ha]; omega
  · have := Plain.neg_div a 8 (by omega) (by omega); omega

def IsPeriod (w : World) (e : Ending) (w' : World) : Prop := ∃ p : Int, 1 ≤ p ∧ p ≤ 600 ∧ e = .returned (.int .i64 p) ∧ w = w'
theorem period_any (v : Int) (w : World) (h1 : -9223372036854775808 ≤ v) (h2 : v ≤ 9223372036854775807) :
    Calls Try.prog 21 #[.int .i64 v] w (IsPeriod w) := by
  have t8 := tdiv8 v h1 h2
  have r8 := pick_range v 8 (by omega)
  have r6 := pick_range (v.tdiv 8) 600 (by omega)
  have r3 := pick_range (v.tdiv 8) 30 (by omega)
  go_enter Try.func21, Try.ntmps21
  go_wp2_with fail
  refine (pick_any v 8 _ (by omega) (by omega) (by omega) (by omega)).mono ?_
  rintro e w' ⟨rfl, rfl⟩
  go_wp2_with fail
  · refine (pick_any _ _ _ (by omega) (by omega) (by omega) (by omega)).mono ?_
    rintro e w' ⟨rfl, rfl⟩
    go_wp2_with fail
    go_ret
    exact ⟨1 + pick (v.tdiv 8) 600, by omega, by omega, rfl, rfl⟩
  · refine (pick_any _ _ _ (by omega) (by omega) (by omega) (by omega)).mono ?_
    rintro e w' ⟨rfl, rfl⟩
    go_wp2_with fail
    go_ret
    exact ⟨1 + pick (v.tdiv 8) 30, by omega, by omega, rfl, rfl⟩

/-- a period from 1 to 7200 -/
def vp (t : Int) : Bool := decide (1 ≤ t) && decide (t ≤ 7200)
theorem vp_iff (t : Int) : vp t = true ↔ 1 ≤ t ∧ t ≤ 7200 := by simp [vp]
theorem vp_any (t : Int) (w : World) : Calls Try.prog 48 #[.int .i64 t] w fun e w' => e = .returned (.bool (vp t)) ∧ w = w' := by
  by_cases h1 : 1 ≤ t
  · by_cases h2 : t ≤ 7200
    · have e : vp t = true := (vp_iff t).2 ⟨h1, h2⟩
      rw [e]
      clear e
      go_enter Try.func48, Try.ntmps48
      go_wp2
      go_ret
      exact ⟨rfl, rfl⟩
    · have e : vp t = false := by simp [vp]; omega
      rw [e]
      clear e
      go_enter Try.func48, Try.ntmps48
      go_wp2
      go_ret
      exact ⟨rfl, rfl⟩
  · have e : vp t = false := by simp [vp]; omega
    rw [e]
    clear e
    go_enter Try.func48, Try.ntmps48
    go_wp2
    go_ret
    exact ⟨rfl, rfl⟩

theorem vp_yes (t : Int) (w : World) (h : vp t = true) : Calls Try.prog 48 #[.int .i64 t] w fun e w' => e = .returned (.bool true) ∧ w = w' := by
  have c := vp_any t w
  rwa [h] at c
theorem vp_no (t : Int) (w : World) (h : vp t = false) : Calls Try.prog 48 #[.int .i64 t] w fun e w' => e = .returned (.bool false) ∧ w = w' := by
  have c := vp_any t w
  rwa [h] at c

end Go.Proofs.Ytapflikdoiedeaa.Nums

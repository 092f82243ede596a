/-
  One contract for each function of package arith (and of the document's own answers) that the statements of this seat call: what it returns for arguments that an int holds, and that it changes nothing.
-/
import Derived.Test.YtglcimahdgnnnaaRows
import Derived.Test.YtglcimahdgnnnaaArithMath
import Derived.WalkKit
import Derived.ProofKit
import Derived.OpenShut
import Derived.BigQuiet
import Derived.Lib.Hide
namespace Go.Proofs.Ytglcimahdgnnnaa.Calls1
open Go.ChangeShapes Go.WideShapes Go.ChangeAt Go.RowKit
set_option linter.unusedVariables false

theorem ret2 {k : IntKind} {a b c d : Int} (h : a = b) (h2 : c = d) : Ending.returned (.tuple #[.int .i64 a, .int .i64 c]) = Ending.returned (.tuple #[.int .i64 b, .int .i64 d]) := by rw [h, h2]
theorem ret1 {a b : Int} (h : a = b) : Ending.returned (.int .i64 a) = Ending.returned (.int .i64 b) := by rw [h]

theorem ceil_any (a b : Int) (w : World) (h1 : -9223372036854775808 ≤ a) (h2 : a ≤ 9223372036854775807) (hb : 1 ≤ b) (hb2 : b ≤ 9223372036854775807) :
    Calls Try.prog 26 #[.int .i64 a, .int .i64 b] w fun e w' => e = .returned (.tuple #[.int .i64 (-((-a) / b)), .int .i64 0]) ∧ w = w' := by
  by_cases ha : 0 ≤ a
  · obtain ⟨g1, g2, g3, _, _, g6⟩ := Plain.pos_div a b ha hb
    by_cases hr : 0 < a % b
    · have g7 := g6 hr
      clear g6
      have e := Plain.ceil_pos_gt a b ha hb hr
      have E := Lib.hid e
      clear e
      go_enter Try.func26, Try.ntmps26
      go_wp2
      all_goals go_ret2
      all_goals exact ⟨ret2 (k := .i64) E.out.symm rfl, rfl⟩
    · have e := Plain.ceil_pos_eq a b ha hb hr
      have E := Lib.hid e
      clear e g6
      go_enter Try.func26, Try.ntmps26
      go_wp2
      all_goals go_ret2
      all_goals exact ⟨ret2 (k := .i64) E.out.symm rfl, rfl⟩
  · obtain ⟨g1, g2, g3, _, _, g6⟩ := Plain.neg_div a b (by omega) hb
    clear g6
    have e := Plain.ceil_neg a b (by omega)
    have E := Lib.hid e
    clear e
    go_enter Try.func26, Try.ntmps26
    go_wp2
    all_goals go_ret2
    all_goals exact ⟨ret2 (k := .i64) E.out.symm rfl, rfl⟩

theorem tmod_1000 (k : Int) : -999 ≤ k.tmod 1000 ∧ k.tmod 1000 ≤ 999 := by
  have e2 : (k.tmod 1000).natAbs < 1000 := by
    rw [Int.natAbs_tmod]; exact Nat.mod_lt _ (by decide)
  omega
theorem prod_small (t b : Int) (h1 : -999 ≤ t) (h2 : t ≤ 999) (hb : 1 ≤ b) (hb2 : b ≤ 1125899906842624) : -1124774006935781376 ≤ t * b ∧ t * b ≤ 1124774006935781376 := by
  have a1 : t * b ≤ 999 * b := Int.mul_le_mul_of_nonneg_right h2 (by omega)
  have a2 : -999 * b ≤ t * b := Int.mul_le_mul_of_nonneg_right h1 (by omega)
  exact ⟨by omega, by omega⟩

end Go.Proofs.Ytglcimahdgnnnaa.Calls1

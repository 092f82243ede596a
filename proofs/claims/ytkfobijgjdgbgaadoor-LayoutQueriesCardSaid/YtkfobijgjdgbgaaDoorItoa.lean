/-
  Contract of strconv.Itoa, in the words of the numbers' texts.
-/
import Derived.Test.YtkfobijgjdgbgaaDoorShelfI
import Derived.Test.YtkfobijgjdgbgaaDoorDec
import Derived.Test.YtkfobijgjdgbgaaDoorMem
import Derived.Lib.AppendIntMem
namespace Go.Proofs.YtkfobijgjdgbgaaDoor.Itoa
open Go.ChangeShapes Go.WideShapes Go.ChangeAt Go.RowKit Wd Dec
set_option linter.unusedVariables false

theorem digits_dz (u : Nat) : Lib.decDigits u = if u = 0 then [48] else dz u := by
  induction u using Nat.strongRecOn with
  | _ u ih =>
    unfold Lib.decDigits
    by_cases h : u < 10
    · rw [dif_pos h]
      by_cases h0 : u = 0
      · subst h0; rfl
      · rw [if_neg h0, dz_step u (by omega), show u / 10 = 0 by omega, dz_zero, show u % 10 = u by omega]
        rfl
    · rw [dif_neg h, ih (u / 10) (by omega), if_neg (by omega), if_neg (by omega), dz_step u (by omega)]
      rfl
theorem itoa_dec (n : Int) : Lib.itoa n = dec n := by
  unfold Lib.itoa dec
  by_cases h0 : n = 0
  · subst h0; rw [if_neg (by decide), if_pos rfl, digits_dz]; rfl
  · rw [if_neg h0]
    by_cases h : n < 0
    · rw [if_pos h, if_pos h, digits_dz, if_neg (by omega)]
    · rw [if_neg h, if_neg h, digits_dz, if_neg (by omega), show n.toNat = n.natAbs by omega]
/-- the library's table of powers of ten, as its own initialiser lays it -/
def Tab (w : World) : Prop := Lib.TabIs Tryd.prog w "internal/strconv.uint64pow10" .u64 Lib.pow10Tab
theorem Tab.keep {w w' : World} (h : Tab w) (hb : Below w.heap.size w w') : Tab w' := Lib.tabBelow_of_tabIs h w' hb
theorem itoa_any (n : Int) (h0 : -9223372036854775808 ≤ n) (h1 : n ≤ 9223372036854775807) (w : World) (ht : Tab w) :
    Calls Tryd.prog 72 #[.int .i64 n] w fun e w' => e = .returned (.string (str (dec n))) ∧ Below w.heap.size w w' := by
  refine (Tryd.strconv_Itoa n h0 h1 w ht).mono ?_
  rintro e w' ⟨rfl, k, os, rfl⟩
  exact ⟨by rw [itoa_dec]; rfl, Lib.below_grow _ _ (Nat.le_refl _) _ _⟩
end Go.Proofs.YtkfobijgjdgbgaaDoor.Itoa

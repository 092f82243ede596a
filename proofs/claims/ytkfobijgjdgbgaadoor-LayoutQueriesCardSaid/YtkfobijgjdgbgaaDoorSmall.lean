/-
  Contracts of the functions that tell bytes, names and words: the program's own and the document's.
-/
import Derived.Test.YtkfobijgjdgbgaaDoorRows
import Derived.Test.YtkfobijgjdgbgaaDoorText
import Derived.WalkKit
import Derived.ProofKit
import Derived.OpenShut
import Derived.BigQuiet
import Derived.Outline
import Derived.Below
import Derived.Deep.Draws
import Derived.Lib.Hide
namespace Go.Proofs.YtkfobijgjdgbgaaDoor.Small
open Go.ChangeShapes Go.WideShapes Go.ChangeAt Go.RowKit Wd
set_option linter.unusedVariables false

theorem below_draws {B : Nat} {a w : World} (h : Below B a w) (n : Nat) : Below B a (w.drewN n) := ⟨h.os, h.tape, h.output, h.size, h.block⟩
theorem retb {a b : Bool} (h : a = b) : Ending.returned (.bool a) = Ending.returned (.bool b) := by rw [h]
theorem ret1 {a b : Int} (h : a = b) : Ending.returned (.int .i64 a) = Ending.returned (.int .i64 b) := by rw [h]

/-- what a call leaves that answers one bool and changes nothing -/
def Says (b : Bool) (w : World) (e : Ending) (w' : World) : Prop := e = .returned (.bool b) ∧ w = w'

theorem p_letter (b : UInt8) (w : World) : Calls Tryd.prog 99 #[.int .u8 b.toNat] w (Says (letter b) w) := by
  have h0 := b.toNat_lt
  have E : Hid (letter b = ((decide (97 ≤ (b.toNat : Int)) && decide ((b.toNat : Int) ≤ 122)) || (decide (65 ≤ (b.toNat : Int)) && decide ((b.toNat : Int) ≤ 90)))) := by simp only [Hid, letter]; congr 2 <;> (congr 1; simp; omega)
  go_enter Tryd.func99, Tryd.ntmps99
  go_wp2
  all_goals go_ret
  all_goals exact ⟨retb (by rw [E.out, Bool.eq_iff_iff]; simp; omega), rfl⟩
theorem p_digit (b : UInt8) (w : World) : Calls Tryd.prog 100 #[.int .u8 b.toNat] w (Says (digit b) w) := by
  have h0 := b.toNat_lt
  have E : Hid (digit b = (decide (48 ≤ (b.toNat : Int)) && decide ((b.toNat : Int) ≤ 57))) := by simp only [Hid, digit]; congr 1 <;> (simp; try omega)
  go_enter Tryd.func100, Tryd.ntmps100
  go_wp2
  all_goals go_ret
  all_goals exact ⟨retb (by rw [E.out, Bool.eq_iff_iff]; simp; omega), rfl⟩
theorem r_letter (b : UInt8) (w : World) : Calls Tryd.prog 97 #[.int .u8 b.toNat] w (Says (letter b) w) := by
  have h0 := b.toNat_lt
  have E : Hid (letter b = ((decide (97 ≤ (b.toNat : Int)) && decide ((b.toNat : Int) ≤ 122)) || (decide (65 ≤ (b.toNat : Int)) && decide ((b.toNat : Int) ≤ 90)))) := by simp only [Hid, letter]; congr 2 <;> (congr 1; simp; omega)
  go_enter Tryd.func97, Tryd.ntmps97
  go_wp2
  all_goals go_ret
  all_goals exact ⟨retb (by rw [E.out, Bool.eq_iff_iff]; simp; omega), rfl⟩
theorem r_digit (b : UInt8) (w : World) : Calls Tryd.prog 98 #[.int .u8 b.toNat] w (Says (digit b) w) := by
  have h0 := b.toNat_lt
  have E : Hid (digit b = (decide (48 ≤ (b.toNat : Int)) && decide ((b.toNat : Int) ≤ 57))) := by simp only [Hid, digit]; congr 1 <;> (simp; try omega)
  go_enter Tryd.func98, Tryd.ntmps98
  go_wp2
  all_goals go_ret
  all_goals exact ⟨retb (by rw [E.out, Bool.eq_iff_iff]; simp; omega), rfl⟩

/-- the program's class of a byte -/
def cls (b : UInt8) : Int := if space b then 1 else if b.toNat = 35 then 2 else if plain b then 3 else 0
theorem p_class (b : UInt8) (w : World) : Calls Tryd.prog 88 #[.int .u8 b.toNat] w fun e w' => e = .returned (.int .i64 (cls b)) ∧ w = w' := by
  have h0 := b.toNat_lt
  have E : Hid (cls b = if ((b.toNat : Int) = 32 ∨ (b.toNat : Int) = 9) then 1 else if (b.toNat : Int) = 35 then 2 else if 33 ≤ (b.toNat : Int) ∧ (b.toNat : Int) ≤ 126 then 3 else 0) := by
    simp only [Hid, cls, space, plain, Bool.or_eq_true, Bool.and_eq_true, Bool.not_eq_true', decide_eq_true_eq, decide_eq_false_iff_not]
    repeat' split
    all_goals first | rfl | omega
  go_enter Tryd.func88, Tryd.ntmps88
  go_wp2
  all_goals go_ret
  all_goals refine ⟨ret1 ?_, rfl⟩
  all_goals rw [E.out]
  all_goals simp at *
  all_goals repeat' split
  all_goals first | rfl | omega

theorem isName_drop (s : ByteArray) (h1 : 1 ≤ s.size) (h2 : s.size ≤ 12) : isName (bs s) = (letter s[0] && ((bs s).drop 1).all later) := by
  have e := bs_drop s 0 (by omega)
  rw [List.drop_zero] at e
  have hl := bs_length s
  rw [e] at hl
  rw [e]
  simp only [isName]
  have : ((bs s).drop (0 + 1)).length ≤ 11 := by simp only [List.length_cons] at hl; omega
  simp only [decide_eq_true this, Bool.true_and, List.drop_succ_cons, List.drop_zero]
theorem isName_no (s : ByteArray) (h : ¬ (1 ≤ s.size ∧ s.size ≤ 12)) : isName (bs s) = false := by
  have hl := bs_length s
  match hb : bs s with
  | [] => rfl
  | b :: r =>
    rw [hb] at hl
    simp only [List.length_cons] at hl
    have : ¬ r.length ≤ 11 := by omega
    simp [isName, this]

theorem later_eq (b : UInt8) (hl : letter b = false) (hd : digit b = false) : later b = decide ((b.toNat : Int) = 95) := by
  simp [later, hl, hd, under]; omega

end Go.Proofs.YtkfobijgjdgbgaaDoor.Small

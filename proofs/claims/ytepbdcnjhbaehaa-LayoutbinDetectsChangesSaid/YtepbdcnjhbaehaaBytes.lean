/-
  Contracts of the program's functions that look through a line: foreign bytes, the end of a word, whether a text is a word.
-/
import Derived.Test.YtepbdcnjhbaehaaSmall
import Derived.Test.YtepbdcnjhbaehaaLin
namespace Go.Proofs.Ytepbdcnjhbaehaa.Bytes
open Go.ChangeShapes Go.WideShapes Go.ChangeAt Go.RowKit Wd Small Lin
set_option linter.unusedVariables false

theorem cls_foreign (b : UInt8) : (cls b == 0) = foreign b := by
  unfold cls foreign
  cases h1 : space b <;> cases h2 : plain b <;> by_cases h3 : b.toNat = 35 <;> simp [h3]
theorem cls_plain (b : UInt8) : (cls b == 3) = plain b := by
  unfold cls
  cases h1 : space b <;> cases h2 : plain b <;> by_cases h3 : b.toNat = 35 <;> simp [h3]
  all_goals simp [space, plain] at h1 h2
  all_goals omega
theorem cls_space (b : UInt8) : (cls b == 1) = space b := by
  unfold cls
  cases h1 : space b <;> cases h2 : plain b <;> by_cases h3 : b.toNat = 35 <;> simp [h3]

theorem any_next (s : ByteArray) (k : Nat) (f : UInt8 → Bool) (hk : k < s.size) : ((bs s).drop k).any f = (f s[k] || ((bs s).drop (k + 1)).any f) := by
  rw [bs_drop s k hk]; rfl
theorem tw_next (s : ByteArray) (k : Nat) (hk : k < s.size) : ((bs s).drop k).takeWhile plain = if plain s[k] then s[k] :: ((bs s).drop (k + 1)).takeWhile plain else [] := by
  rw [bs_drop s k hk, List.takeWhile_cons]
def endOf (s : ByteArray) (j : Nat) : Nat := j + (((bs s).drop j).takeWhile plain).length
theorem end_next (s : ByteArray) (k : Nat) (hk : k < s.size) (hp : plain s[k] = true) : endOf s k = endOf s (k + 1) := by
  unfold endOf
  rw [tw_next s k hk, hp]
  simp only [if_true, List.length_cons]; omega
theorem end_stop (s : ByteArray) (k : Nat) (hk : k < s.size) (hp : plain s[k] = false) : endOf s k = k := by
  unfold endOf
  rw [tw_next s k hk, hp]
  simp
theorem end_end (s : ByteArray) (k : Nat) (hk : s.size ≤ k) : endOf s k = k := by
  unfold endOf
  rw [bs_drop_nil s k hk]
  simp
theorem end_le (s : ByteArray) (k : Nat) (hk : k ≤ s.size) : k ≤ endOf s k ∧ endOf s k ≤ s.size := by
  unfold endOf
  have h1 : (((bs s).drop k).takeWhile plain).length ≤ ((bs s).drop k).length := List.Sublist.length_le (List.takeWhile_sublist _)
  rw [List.length_drop, bs_length] at h1
  omega

/-- is it a word -/
def isWord (l : Bs) : Bool := !l.isEmpty && l.all plain
theorem word_end (s : ByteArray) : ∀ n j, j + n = s.size → (endOf s j == s.size) = ((bs s).drop j).all plain
  | 0, j, h => by
    rw [end_end s j (by omega), bs_drop_nil s j (by omega)]
    simp; omega
  | n + 1, j, h => by
    have hj : j < s.size := by omega
    rw [bs_drop s j hj, List.all_cons]
    cases hp : plain s[j] with
    | true =>
      rw [end_next s j hj hp, Bool.true_and]
      exact word_end s n (j + 1) (by omega)
    | false =>
      rw [end_stop s j hj hp]
      simp; omega
theorem isWord_eq (s : ByteArray) (h : 0 < s.size) : isWord (bs s) = ((endOf s 0 : Int) == (s.size : Int)) := by
  have h1 := word_end s s.size 0 (by omega)
  rw [List.drop_zero] at h1
  have h2 : (bs s).isEmpty = false := by
    have := bs_length s
    cases hb : bs s with
    | nil => rw [hb] at this; simp at this; omega
    | cons _ _ => rfl
  unfold isWord
  rw [h2, ← h1, Bool.eq_iff_iff]
  simp only [Bool.not_false, Bool.true_and, beq_iff_eq]
  omega
end Go.Proofs.Ytepbdcnjhbaehaa.Bytes

/-
  Contracts of the functions that read numbers.
-/
import Derived.Test.YtepbdcnjhbaehaaSmall
import Derived.Test.YtepbdcnjhbaehaaShelf
namespace Go.Proofs.Ytepbdcnjhbaehaa.Mag
open Go.ChangeShapes Go.WideShapes Go.ChangeAt Go.RowKit Wd Small
set_option linter.unusedVariables false

theorem rets {a b : Int} {x y : Bool} (h : a = b) (h2 : x = y) : Ending.returned (.tuple #[.int .i64 a, .bool x]) = Ending.returned (.tuple #[.int .i64 b, .bool y]) := by rw [h, h2]
theorem mag_no {l : Bs} (h : magOK l = false) : magnitude l = 0 := by simp [magnitude, h]
theorem mag_yes {l : Bs} (h : magOK l = true) : magnitude l = value 0 l := by simp [magnitude, h]

theorem bs_head (s : ByteArray) (h : 0 < s.size) : ∃ r, bs s = s[0] :: r ∧ r.length + 1 = s.size := by
  have e := bs_drop s 0 h
  rw [List.drop_zero] at e
  refine ⟨_, e, ?_⟩
  have hl := bs_length s
  rw [e] at hl
  simpa using hl
theorem ok_start (s : ByteArray) (h1 : 1 ≤ s.size) (h2 : s.size ≤ 1 ∨ ((s[0].toNat : Int) == 48) = false) :
    magOK (bs s) = (((bs s).drop 0).all digit && decide (value 0 ((bs s).drop 0) ≤ 1099511627776)) := by
  obtain ⟨r, e, hr⟩ := bs_head s (by omega)
  rw [List.drop_zero, e]
  have : (s[0] == 48 && decide (1 < (s[0] :: r).length)) = false := by
    rcases h2 with h2 | h2
    · have : ¬ 1 < r.length + 1 := by omega
      simp only [List.length_cons, decide_eq_false this, Bool.and_false]
    · have : (s[0] == 48) = false := by
        rw [beq_eq_false_iff_ne] at h2 ⊢
        intro e; apply h2; rw [e]; rfl
      simp only [this, Bool.false_and]
  simp only [magOK, List.head?_cons, List.isEmpty_cons, Bool.not_false, Bool.true_and, Option.some_beq_some, this]
theorem ok_lead (s : ByteArray) (h1 : 1 < s.size) (h2 : ((s[0].toNat : Int) == 48) = true) : magOK (bs s) = false := by
  obtain ⟨r, e, hr⟩ := bs_head s (by omega)
  have h3 : s[0] = 48 := UInt8.toNat_inj.1 (by have := eq_of_beq h2; simp; omega)
  rw [e, h3]
  have : (1 < r.length + 1) = True := by simp; omega
  simp only [magOK, List.head?_cons, List.length_cons, beq_self_eq_true, this, decide_true, Bool.and_self, Bool.not_true, Bool.and_false, Bool.false_and]
theorem ok_empty (s : ByteArray) (h : s.size = 0) : bs s = [] := List.eq_nil_of_length_eq_zero (by rw [bs_length]; exact h)

theorem ok_digit (s : ByteArray) (k : Nat) (v : Int) (hk : k < s.size) (hd : digit s[k] = true) (h : magOK (bs s) = (((bs s).drop k).all digit && decide (value v ((bs s).drop k) ≤ 1099511627776))) (hv : value 0 (bs s) = value v ((bs s).drop k)) :
    magOK (bs s) = (((bs s).drop (k + 1)).all digit && decide (value (10 * v + ((s[k].toNat : Int) - 48)) ((bs s).drop (k + 1)) ≤ 1099511627776)) ∧ value 0 (bs s) = value (10 * v + ((s[k].toNat : Int) - 48)) ((bs s).drop (k + 1)) := by
  rw [bs_drop s k hk] at h hv
  constructor
  · rw [h]; simp only [value, List.all_cons, hd, Bool.true_and]; try rfl
  · rw [hv]; rfl
theorem ok_stop (s : ByteArray) (k : Nat) (v : Int) (hk : k < s.size) (hd : digit s[k] = false) (h : magOK (bs s) = (((bs s).drop k).all digit && decide (value v ((bs s).drop k) ≤ 1099511627776))) : magOK (bs s) = false := by
  rw [bs_drop s k hk] at h
  rw [h]
  simp [hd]
theorem ok_big (l m : Bs) (v : Int) (h0 : 0 ≤ v) (hv : 1099511627776 < v) (h : magOK l = (m.all digit && decide (value v m ≤ 1099511627776))) : magOK l = false := by
  rw [h]
  cases ha : m.all digit with
  | false => rfl
  | true =>
    have := value_ge m v h0 ha
    simp; omega

end Go.Proofs.Ytepbdcnjhbaehaa.Mag

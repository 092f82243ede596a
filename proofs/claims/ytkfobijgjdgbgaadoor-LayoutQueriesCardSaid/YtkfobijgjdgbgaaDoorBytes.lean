/-
  Contracts of the program's functions that look through a line: foreign bytes, the end of a word, whether a text is a word.
-/
import Derived.Test.YtkfobijgjdgbgaaDoorSmall
import Derived.Test.YtkfobijgjdgbgaaDoorLin
namespace Go.Proofs.YtkfobijgjdgbgaaDoor.Bytes
open Go.ChangeShapes Go.WideShapes Go.ChangeAt Go.RowKit Wd Small Lin
set_option linter.unusedVariables false

theorem cls_foreign (b : UInt8) : (cls b == 0) = foreign b := by
  unfold cls foreign
  cases h1 : space b <;> cases h2 : plain b <;> by_cases h3 : b.toNat = 35 <;> simp [h3]
theorem cls_plain (b : UInt8) : (cls b == 3) = plain b := by
  unfold cls
  cases h1 : space b <;> cases h2 : plain b <;> by_cases h3 : b.toNat = 35 <;> simp [h3]
  all_goals simp [space, plain] at h1 h2
  all_goals omega
theorem cls_space (b : UInt8) : (cls b == 1) = space b := by
  unfold cls
  cases h1 : space b <;> cases h2 : plain b <;> by_cases h3 : b.toNat = 35 <;> simp [h3]

theorem any_next (s : ByteArray) (k : Nat) (f : UInt8 → Bool) (hk : k < s.size) : ((bs s).drop k).any f = (f s[k] || ((bs s).drop (k + 1)).any f) := by
  rw [bs_drop s k hk]; rfl
theorem p_foreign (s : ByteArray) (w : World) (hs : s.size ≤ 140737488355328) : Calls Tryd.prog 87 #[.string s] w fun e w' => e = .returned (.bool ((bs s).any foreign)) ∧ w = w' := by
  go_enter Tryd.func87, Tryd.ntmps87
  go_wp2_with fail
  go_loopw [6] (fun i wr => ∃ k : Nat, k ≤ s.size ∧ i = .int .i64 k ∧ Hid ((bs s).any foreign = ((bs s).drop k).any foreign) ∧ w = wr) (fun i _ => s.size - (intOf i).toNat)
  case atStart => exact ⟨0, by omega, rfl, rfl, rfl⟩
  case round =>
    obtain ⟨k, hk, rfl, HE, rfl⟩ := hrel
    by_cases hlt : k < s.size
    · have hn := any_next s k foreign hlt
      have hc := cls_foreign s[k]
      cases hf : foreign s[k] with
      | true =>
        rw [hf] at hc hn
        have HQ := Lib.hid (HE.out.trans hn)
        clear hn HE hf
        go_wp2_with (go_at_call 88; refine (p_class _ _).mono ?_; rintro e w' ⟨rfl, rfl⟩)
        go_ret
        exact ⟨retb HQ.out.symm, rfl⟩
      | false =>
        rw [hf] at hc hn
        have HQ := Lib.hid (HE.out.trans hn)
        clear hn HE hf
        go_wp2_with (go_at_call 88; refine (p_class _ _).mono ?_; rintro e w' ⟨rfl, rfl⟩)
        go_roundw
        case rel => exact ⟨k + 1, by omega, by go_num, HQ.out.trans (Bool.false_or _), by trivial⟩
        case measure => simp [intOf]; omega
    · have HQ := HE.out
      rw [bs_drop_nil s k (by omega)] at HQ
      have HQ := Lib.hid HQ
      clear HE
      go_wp2_with fail
      go_ret
      exact ⟨retb HQ.out.symm, rfl⟩
theorem tw_next (s : ByteArray) (k : Nat) (hk : k < s.size) : ((bs s).drop k).takeWhile plain = if plain s[k] then s[k] :: ((bs s).drop (k + 1)).takeWhile plain else [] := by
  rw [bs_drop s k hk, List.takeWhile_cons]
def endOf (s : ByteArray) (j : Nat) : Nat := j + (((bs s).drop j).takeWhile plain).length
theorem end_next (s : ByteArray) (k : Nat) (hk : k < s.size) (hp : plain s[k] = true) : endOf s k = endOf s (k + 1) := by
  unfold endOf
  rw [tw_next s k hk, hp]
  simp only [if_true, List.length_cons]; omega
theorem end_stop (s : ByteArray) (k : Nat) (hk : k < s.size) (hp : plain s[k] = false) : endOf s k = k := by
  unfold endOf
  rw [tw_next s k hk, hp]
  simp
theorem end_end (s : ByteArray) (k : Nat) (hk : s.size ≤ k) : endOf s k = k := by
  unfold endOf
  rw [bs_drop_nil s k hk]
  simp
theorem end_le (s : ByteArray) (k : Nat) (hk : k ≤ s.size) : k ≤ endOf s k ∧ endOf s k ≤ s.size := by
  unfold endOf
  have h1 : (((bs s).drop k).takeWhile plain).length ≤ ((bs s).drop k).length := List.Sublist.length_le (List.takeWhile_sublist _)
  rw [List.length_drop, bs_length] at h1
  omega
theorem p_end (s : ByteArray) (j : Nat) (w : World) (hs : s.size ≤ 140737488355328) (hj : j ≤ s.size) : Calls Tryd.prog 89 #[.string s, .int .i64 j] w fun e w' => e = .returned (.int .i64 (endOf s j)) ∧ w = w' := by
  go_enter Tryd.func89, Tryd.ntmps89
  go_wp2_with fail
  go_loopw [5] (fun i wr => ∃ k : Nat, k ≤ s.size ∧ i = .int .i64 k ∧ Hid (endOf s j = endOf s k) ∧ w = wr) (fun i _ => s.size - (intOf i).toNat)
  case atStart => exact ⟨j, hj, rfl, rfl, rfl⟩
  case round =>
    obtain ⟨k, hk, rfl, HE, rfl⟩ := hrel
    by_cases hlt : k < s.size
    · have hc := cls_plain s[k]
      cases hf : plain s[k] with
      | true =>
        rw [hf] at hc
        have HQ := Lib.hid (HE.out.trans (end_next s k hlt hf))
        clear HE hf
        go_wp2_with (go_at_call 88; refine (p_class _ _).mono ?_; rintro e w' ⟨rfl, rfl⟩)
        go_roundw
        case rel => exact ⟨k + 1, by omega, by go_num, HQ, by trivial⟩
        case measure => simp [intOf]; omega
      | false =>
        rw [hf] at hc
        have HQ := Lib.hid (HE.out.trans (end_stop s k hlt hf))
        clear HE hf
        go_wp2_with (go_at_call 88; refine (p_class _ _).mono ?_; rintro e w' ⟨rfl, rfl⟩)
        go_ret
        exact ⟨ret1 (by rw [HQ.out]), rfl⟩
    · have HQ := Lib.hid (HE.out.trans (end_end s k (by omega)))
      clear HE
      go_wp2_with fail
      go_ret
      exact ⟨ret1 (by rw [HQ.out]), rfl⟩

/-- is it a word -/
def isWord (l : Bs) : Bool := !l.isEmpty && l.all plain
theorem word_end (s : ByteArray) : ∀ n j, j + n = s.size → (endOf s j == s.size) = ((bs s).drop j).all plain
  | 0, j, h => by
    rw [end_end s j (by omega), bs_drop_nil s j (by omega)]
    simp; omega
  | n + 1, j, h => by
    have hj : j < s.size := by omega
    rw [bs_drop s j hj, List.all_cons]
    cases hp : plain s[j] with
    | true =>
      rw [end_next s j hj hp, Bool.true_and]
      exact word_end s n (j + 1) (by omega)
    | false =>
      rw [end_stop s j hj hp]
      simp; omega
theorem isWord_eq (s : ByteArray) (h : 0 < s.size) : isWord (bs s) = ((endOf s 0 : Int) == (s.size : Int)) := by
  have h1 := word_end s s.size 0 (by omega)
  rw [List.drop_zero] at h1
  have h2 : (bs s).isEmpty = false := by
    have := bs_length s
    cases hb : bs s with
    | nil => rw [hb] at this; simp at this; omega
    | cons _ _ => rfl
  unfold isWord
  rw [h2, ← h1, Bool.eq_iff_iff]
  simp only [Bool.not_false, Bool.true_and, beq_iff_eq]
  omega
theorem p_isWord (s : ByteArray) (w : World) (hs : s.size ≤ 140737488355328) : Calls Tryd.prog 74 #[.string s] w fun e w' => e = .returned (.bool (isWord (bs s))) ∧ w = w' := by
  by_cases hz : 0 < s.size
  · have HQ := Lib.hid (isWord_eq s hz)
    go_enter Tryd.func74, Tryd.ntmps74
    go_wp2_with (go_at_call 89; refine (p_end s 0 _ hs (by omega)).mono ?_; rintro e w' ⟨rfl, rfl⟩)
    go_ret
    exact ⟨retb HQ.out.symm, rfl⟩
  · have hs0 : s = ByteArray.empty := bs_ext (List.eq_nil_of_length_eq_zero (by rw [bs_length]; omega))
    subst hs0
    go_enter Tryd.func74, Tryd.ntmps74
    go_wp2_with fail
    go_ret
    exact ⟨rfl, rfl⟩
end Go.Proofs.YtkfobijgjdgbgaaDoor.Bytes

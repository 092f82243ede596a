/-
  Contracts of the two functions that read a number out of a text.
-/
import Derived.Test.YtkfobijgjdgbgaaDoorMag
namespace Go.Proofs.YtkfobijgjdgbgaaDoor.Num
open Go.ChangeShapes Go.WideShapes Go.ChangeAt Go.RowKit Wd Small Mag
set_option linter.unusedVariables false

theorem prefix_yes (s : ByteArray) (h : minus (bs s) = true) : (⟨(Lib.trimPrefix s.data.toList [45]).toArray⟩ : ByteArray) = str ((bs s).drop 1) ∧ Lib.hasPrefix s.data.toList [45] = true := by
  have h2 : Lib.hasPrefix (bs s) [45] = true := by
    unfold minus at h
    match bs s, h with
    | b :: r, h => simp at h; subst h; simp [Lib.hasPrefix]
  have h3 : Lib.hasPrefix s.data.toList [45] = true := h2
  refine ⟨?_, h2⟩
  simp only [Lib.trimPrefix, h3, if_true, str]; rfl
theorem prefix_no (s : ByteArray) (h : minus (bs s) = false) : (⟨(Lib.trimPrefix s.data.toList [45]).toArray⟩ : ByteArray) = s ∧ Lib.hasPrefix s.data.toList [45] = false := by
  have h2 : Lib.hasPrefix (bs s) [45] = false := by
    unfold minus at h
    match bs s, h with
    | [], h => simp [Lib.hasPrefix]
    | b :: r, h => simp at h; simp [Lib.hasPrefix, List.isPrefixOf]; exact fun e => h e.symm
  have h3 : Lib.hasPrefix s.data.toList [45] = false := h2
  refine ⟨?_, h2⟩
  simp only [Lib.trimPrefix, h3, Bool.false_eq_true, if_false]

theorem num_minus {l : Bs} (h : minus l = true) : number l = - magnitude (l.drop 1) ∧ numOK l = (magOK (l.drop 1) && !decide (magnitude (l.drop 1) = 0)) := by simp [number, numOK, h]
theorem num_plain {l : Bs} (h : minus l = false) : number l = magnitude l ∧ numOK l = magOK l := by simp [number, numOK, h]

theorem mag_range (l : Bs) : 0 ≤ magnitude l ∧ magnitude l ≤ 1099511627776 := by
  unfold magnitude
  split
  · rename_i h
    simp only [magOK, Bool.and_eq_true, decide_eq_true_eq] at h
    exact ⟨value_ge l 0 (by omega) h.1.2, h.2⟩
  · omega
theorem num_range (l : Bs) : -1099511627776 ≤ number l ∧ number l ≤ 1099511627776 := by
  have h1 := mag_range l
  have h2 := mag_range (l.drop 1)
  unfold number
  split <;> omega

set_option maxHeartbeats 1000000 in
theorem p_num (s : ByteArray) (w : World) (hs : s.size ≤ 9223372036854775807) : Calls Tryd.prog 92 #[.string s] w fun e w' => e = .returned (.tuple #[.int .i64 (number (bs s)), .bool (numOK (bs s))]) ∧ w = w' := by
  cases hm : minus (bs s) with
  | true =>
    obtain ⟨e0, e2⟩ := prefix_yes s hm
    obtain ⟨n1, n2⟩ := num_minus hm
    obtain ⟨t, e1, ht, hl⟩ : ∃ t : ByteArray, (⟨(Lib.trimPrefix s.data.toList [45]).toArray⟩ : ByteArray) = t ∧ bs t = (bs s).drop 1 ∧ t.size ≤ 9223372036854775807 :=
      ⟨_, e0, rfl, by rw [size_str, List.length_drop, bs_length]; omega⟩
    rw [← ht] at n1 n2
    have N1 := Lib.hid n1
    have N2 := Lib.hid n2
    obtain ⟨r1, r2⟩ := mag_range (bs t)
    clear n1 n2 hm e0 ht
    go_enter Tryd.func92, Tryd.ntmps92
    go_wp2_with first
      | (go_at_call 103; refine (Tryd.strings_CutPrefix _ _ _).mono ?_; rintro e w' ⟨rfl, rfl⟩; rw [e1, e2])
      | (go_at_call 104; refine (p_mag _ _ hl).mono ?_; rintro e w' ⟨rfl, rfl⟩)
    · have hok : magOK (bs t) = true := by assumption
      have HR : Hid (numOK (bs s) = (magnitude (bs t) != 0)) := by have := N2.out; rw [hok] at this; rw [Hid, this]; simp [bne]; rfl
      clear hok
      go_ret2
      exact ⟨rets N1.out.symm HR.out.symm, rfl⟩
    · have hok : ¬ magOK (bs t) = true := by assumption
      have HR : Hid (numOK (bs s) = false) := by have := N2.out; rw [Bool.not_eq_true] at hok; rw [hok] at this; simpa [Hid] using this
      clear hok
      go_ret2
      exact ⟨rets N1.out.symm HR.out.symm, rfl⟩
  | false =>
    obtain ⟨e1, e2⟩ := prefix_no s hm
    obtain ⟨n1, n2⟩ := num_plain hm
    have N1 := Lib.hid n1
    have N2 := Lib.hid n2
    clear n1 n2 hm
    go_enter Tryd.func92, Tryd.ntmps92
    go_wp2_with first
      | (go_at_call 103; refine (Tryd.strings_CutPrefix _ _ _).mono ?_; rintro e w' ⟨rfl, rfl⟩; rw [e1, e2])
      | (go_at_call 104; refine (p_mag _ _ hs).mono ?_; rintro e w' ⟨rfl, rfl⟩)
    go_ret2
    exact ⟨rets N1.out.symm N2.out.symm, rfl⟩

theorem num_empty (s : ByteArray) (h : s.size = 0) : number (bs s) = 0 ∧ numOK (bs s) = false := by
  rw [ok_empty s h]; exact ⟨rfl, rfl⟩
theorem minus_of (s : ByteArray) (h : 0 < s.size) (h2 : ((s[0].toNat : Int) == 45) = true) : minus (bs s) = true := by
  obtain ⟨r, e, hr⟩ := bs_head s h
  have h3 : s[0] = 45 := UInt8.toNat_inj.1 (by have := eq_of_beq h2; simp; omega)
  rw [e, h3]; rfl
theorem minus_not (s : ByteArray) (h : 0 < s.size) (h2 : ((s[0].toNat : Int) == 45) = false) : minus (bs s) = false := by
  obtain ⟨r, e, hr⟩ := bs_head s h
  rw [e]
  simp only [minus, List.head?_cons, Option.some_beq_some]
  rw [beq_eq_false_iff_ne] at h2 ⊢
  intro e; apply h2; rw [e]; rfl
theorem no_of_mag {l m : Bs} (hm : minus l = true) (he : m = l.drop 1) (h : magOK m = false) : number l = 0 ∧ numOK l = false := by
  subst he
  obtain ⟨e1, e2⟩ := num_minus hm
  rw [e1, e2, h, mag_no h]; exact ⟨rfl, rfl⟩
theorem no_of_zero {l m : Bs} (hm : minus l = true) (he : m = l.drop 1) (h : m.head? = some 48) : number l = 0 ∧ numOK l = false := by
  subst he
  obtain ⟨e1, e2⟩ := num_minus hm
  cases ho : magOK (l.drop 1) with
  | false => exact no_of_mag hm rfl ho
  | true =>
    have := (mag_pos _ ho).2 h
    rw [e1, e2, mag_yes ho, this]; exact ⟨rfl, by simp⟩
theorem no_plain {l : Bs} (hm : minus l = false) (h : magOK l = false) : number l = 0 ∧ numOK l = false := by
  obtain ⟨e1, e2⟩ := num_plain hm
  rw [e1, e2, h, mag_no h]; exact ⟨rfl, rfl⟩
theorem long_no (l : Bs) (h : 13 < l.length) : magOK l = false := by
  cases ho : magOK l with
  | false => rfl
  | true => have := magOK_short l ho; omega
theorem head_48 (s : ByteArray) (h : 0 < s.size) (h2 : (s[0].toNat : Int) = 48) : (bs s).head? = some 48 := by
  obtain ⟨r, e, hr⟩ := bs_head s h
  have h3 : s[0] = 48 := UInt8.toNat_inj.1 (by simp; omega)
  rw [e, h3]; rfl
theorem head_not (s : ByteArray) (h : 0 < s.size) (h2 : ¬ (s[0].toNat : Int) = 48) : (bs s).head? ≠ some 48 := by
  obtain ⟨r, e, hr⟩ := bs_head s h
  rw [e]
  simp only [List.head?_cons, ne_eq, Option.some.injEq]
  intro e; apply h2; rw [e]; rfl
theorem mag_of (l : Bs) (h0 : l ≠ []) (h1 : l.head? ≠ some 48 ∨ l.length ≤ 1) (h2 : l.all digit = true) : magOK l = decide (value 0 l ≤ 1099511627776) := by
  have : (l.head? == some 48 && decide (1 < l.length)) = false := by
    rcases h1 with h1 | h1
    · rw [beq_eq_false_iff_ne.2 h1, Bool.false_and]
    · rw [decide_eq_false (by omega : ¬ 1 < l.length), Bool.and_false]
  have h3 : l.isEmpty = false := by simpa using h0
  simp only [magOK, this, h2, h3, Bool.not_false, Bool.true_and]
theorem all_no (l : Bs) (h : l.all digit = false) : magOK l = false := by
  simp [magOK, h]
theorem pow_le (k : Nat) (h : k ≤ 12) (a : Int) (h2 : a < 10 ^ k) : a < 1000000000000 := by
  have h1 : (10 : Nat) ^ k ≤ 10 ^ 12 := Nat.pow_le_pow_right (by decide) h
  have h3 : ((10 : Int)) ^ k ≤ 10 ^ 12 := by exact_mod_cast h1
  omega
theorem pow_next (k : Nat) (a d : Int) (h2 : a < 10 ^ k) (hd : d ≤ 9) : 10 * a + d < 10 ^ (k + 1) := by
  rw [Int.pow_succ]; omega
theorem pow_13 (k : Nat) (h : k ≤ 13) (a : Int) (h2 : a < 10 ^ k) : a < 10000000000000 := by
  have h1 : (10 : Nat) ^ k ≤ 10 ^ 13 := Nat.pow_le_pow_right (by decide) h
  have h3 : ((10 : Int)) ^ k ≤ 10 ^ 13 := by exact_mod_cast h1
  omega
theorem dig_step (t : ByteArray) (k : Nat) (a : Int) (hk : k < t.size) (hd : digit t[k] = true) (h1 : (bs t).all digit = ((bs t).drop k).all digit) (h2 : value 0 (bs t) = value a ((bs t).drop k)) :
    (bs t).all digit = ((bs t).drop (k + 1)).all digit ∧ value 0 (bs t) = value (10 * a + ((t[k].toNat : Int) - 48)) ((bs t).drop (k + 1)) := by
  rw [bs_drop t k hk] at h1 h2
  rw [h1, h2]
  simp only [List.all_cons, hd, Bool.true_and]
  exact ⟨by trivial, rfl⟩
theorem dig_stop (t : ByteArray) (k : Nat) (hk : k < t.size) (hd : digit t[k] = false) (h1 : (bs t).all digit = ((bs t).drop k).all digit) : (bs t).all digit = false := by
  rw [bs_drop t k hk] at h1
  rw [h1]
  simp only [List.all_cons, hd, Bool.false_and]
theorem dig_end (t : ByteArray) (k : Nat) (a : Int) (hk : ¬ k < t.size) (h1 : (bs t).all digit = ((bs t).drop k).all digit) (h2 : value 0 (bs t) = value a ((bs t).drop k)) :
    (bs t).all digit = true ∧ value 0 (bs t) = a := by
  rw [bs_drop_nil t k (by omega)] at h1 h2
  exact ⟨h1, h2⟩

end Go.Proofs.YtkfobijgjdgbgaaDoor.Num

/-
  Plain mathematics of bytes, names, words and lines: no program in it.
-/
import Derived.Lib.Strings
import Derived.Lib.IndexBytes
import Derived.Lib.IndexMore
namespace Go.Proofs.YtkfobijgjdgbgaaDoor.Wd

abbrev Bs := List UInt8

/-- the bytes of a string -/
def bs (s : ByteArray) : Bs := s.data.toList
theorem bs_length (s : ByteArray) : (bs s).length = s.size := Array.length_toList
theorem bs_get (s : ByteArray) (k : Nat) (h : k < s.size) : (bs s)[k]? = some s[k] := Go.Lib.data_getElem? s k h
theorem bs_drop (s : ByteArray) (k : Nat) (h : k < s.size) : (bs s).drop k = s[k] :: (bs s).drop (k + 1) := by
  have hk : k < (bs s).length := by rw [bs_length]; exact h
  rw [List.drop_eq_getElem_cons hk]
  have := bs_get s k h
  rw [List.getElem?_eq_getElem hk] at this
  rw [Option.some.inj this]
theorem bs_take (s : ByteArray) (k : Nat) (h : k < s.size) : (bs s).take (k + 1) = (bs s).take k ++ [s[k]] := by
  rw [List.take_add_one, bs_get s k h]; rfl
theorem bs_drop_nil (s : ByteArray) (k : Nat) (h : s.size ≤ k) : (bs s).drop k = [] := List.drop_eq_nil_of_le (by rw [bs_length]; exact h)
theorem bs_ext {s t : ByteArray} (h : bs s = bs t) : s = t := by
  have h2 : s.data = t.data := Array.toList_inj.1 h
  cases s; cases t; simp at h2; rw [h2]
def str (l : Bs) : ByteArray := ⟨l.toArray⟩
theorem bs_str (l : Bs) : bs (str l) = l := rfl
theorem str_bs (s : ByteArray) : str (bs s) = s := bs_ext rfl
theorem size_str (l : Bs) : (str l).size = l.length := by simp [str, ByteArray.size]
theorem bs_append (s t : ByteArray) : bs (s ++ t) = bs s ++ bs t := by
  simp [bs]
theorem bs_extract (s : ByteArray) (i j : Nat) : bs (s.extract i j) = ((bs s).drop i).take (j - i) := by
  have := Go.Lib.extract_eq s i j
  unfold bs
  rw [this]

def letter (b : UInt8) : Bool := (decide (97 ≤ b.toNat) && decide (b.toNat ≤ 122)) || (decide (65 ≤ b.toNat) && decide (b.toNat ≤ 90))
def digit (b : UInt8) : Bool := decide (48 ≤ b.toNat) && decide (b.toNat ≤ 57)
def under (b : UInt8) : Bool := decide (b.toNat = 95)
def plain (b : UInt8) : Bool := decide (33 ≤ b.toNat) && decide (b.toNat ≤ 126) && !decide (b.toNat = 35)
def space (b : UInt8) : Bool := decide (b.toNat = 32) || decide (b.toNat = 9)
def foreign (b : UInt8) : Bool := !(plain b || space b || decide (b.toNat = 35))

/-- the bytes of a name behind the first -/
def later (b : UInt8) : Bool := letter b || digit b || under b
def isName : Bs → Bool
  | [] => false
  | b :: r => decide (r.length ≤ 11) && letter b && r.all later


/-- the number that digits denote, behind what is read so far -/
def value (v : Int) : Bs → Int
  | [] => v
  | b :: r => value (10 * v + ((b.toNat : Int) - 48)) r
def magOK (l : Bs) : Bool := !l.isEmpty && !(l.head? == some 48 && decide (1 < l.length)) && l.all digit && decide (value 0 l ≤ 1099511627776)
/-- the absolute value that digits denote -/
def magnitude (l : Bs) : Int := if magOK l then value 0 l else 0
def minus (l : Bs) : Bool := l.head? == some 45
def numOK (l : Bs) : Bool := if minus l then magOK (l.drop 1) && !decide (magnitude (l.drop 1) = 0) else magOK l
def number (l : Bs) : Int := if minus l then - magnitude (l.drop 1) else magnitude l

theorem digit_iff (b : UInt8) : digit b = true ↔ 48 ≤ b.toNat ∧ b.toNat ≤ 57 := by simp [digit]
theorem value_ge : ∀ (l : Bs) (v : Int), 0 ≤ v → l.all digit = true → v ≤ value v l
  | [], v, _, _ => Int.le_refl _
  | b :: r, v, h, hd => by
    simp only [List.all_cons, Bool.and_eq_true] at hd
    have hb := (digit_iff b).1 hd.1
    have := value_ge r (10 * v + ((b.toNat : Int) - 48)) (by omega) hd.2
    simp only [value]; omega
theorem value_lt : ∀ (l : Bs) (v : Int), 0 ≤ v → l.all digit = true → value v l < (v + 1) * 10 ^ l.length
  | [], v, _, _ => by simp [value]; omega
  | b :: r, v, h, hd => by
    simp only [List.all_cons, Bool.and_eq_true] at hd
    have hb := (digit_iff b).1 hd.1
    have := value_lt r (10 * v + ((b.toNat : Int) - 48)) (by omega) hd.2
    simp only [value, List.length_cons]
    have e : (v + 1) * 10 ^ (r.length + 1) = (10 * (v + 1)) * 10 ^ r.length := by rw [Int.pow_succ, Int.mul_comm 10 (v+1), Int.mul_assoc, Int.mul_comm 10]
    rw [e]
    refine Int.lt_of_lt_of_le this (Int.mul_le_mul_of_nonneg_right (by omega) (Int.pow_nonneg (by decide)))
theorem value_big : ∀ (l : Bs) (v : Int), 0 ≤ v → l.all digit = true → v * 10 ^ l.length ≤ value v l
  | [], v, _, _ => by simp [value]
  | b :: r, v, h, hd => by
    simp only [List.all_cons, Bool.and_eq_true] at hd
    have hb := (digit_iff b).1 hd.1
    have := value_big r (10 * v + ((b.toNat : Int) - 48)) (by omega) hd.2
    simp only [value, List.length_cons]
    have e : v * 10 ^ (r.length + 1) = (10 * v) * 10 ^ r.length := by rw [Int.pow_succ, Int.mul_comm 10 v, Int.mul_assoc, Int.mul_comm 10]
    rw [e]
    refine Int.le_trans (Int.mul_le_mul_of_nonneg_right (by omega) (Int.pow_nonneg (by decide))) this
theorem head_big (b : UInt8) (r : Bs) (h : (b :: r).all digit = true) (hb : b ≠ 48) : 10 ^ r.length ≤ value 0 (b :: r) := by
  simp only [List.all_cons, Bool.and_eq_true] at h
  have h1 := (digit_iff b).1 h.1
  have hne : b.toNat ≠ 48 := fun e => hb (UInt8.toNat_inj.1 e)
  have := value_big r (10 * 0 + ((b.toNat : Int) - 48)) (by omega) h.2
  simp only [value]
  refine Int.le_trans ?_ this
  have h0 : (0 : Int) ≤ 10 ^ r.length := Int.pow_nonneg (by decide)
  have := Int.mul_le_mul_of_nonneg_right (a := 1) (b := 10 * 0 + ((b.toNat : Int) - 48)) (by omega) h0
  omega
theorem magOK_short (l : Bs) (h : magOK l = true) : l.length ≤ 13 := by
  simp only [magOK, Bool.and_eq_true, Bool.not_eq_true', decide_eq_true_eq] at h
  obtain ⟨⟨⟨h1, h2⟩, h3⟩, h4⟩ := h
  match l with
  | [] => simp
  | b :: r =>
    by_cases hb : b = 48
    · subst hb
      simp at h2
      rw [List.length_cons, h2]; simp
    · have := head_big b r h3 hb
      by_cases hl : r.length ≤ 12
      · simp; omega
      · exfalso
        have h13 : (10 : Int) ^ 13 ≤ 10 ^ r.length := by
          have : (10:Nat) ^ 13 ≤ 10 ^ r.length := Nat.pow_le_pow_right (by decide) (by omega)
          exact_mod_cast this
        omega
theorem mag_pos (l : Bs) (h : magOK l = true) : (value 0 l = 0 ↔ l.head? = some 48) := by
  simp only [magOK, Bool.and_eq_true, Bool.not_eq_true', decide_eq_true_eq] at h
  obtain ⟨⟨⟨h1, h2⟩, h3⟩, h4⟩ := h
  match l with
  | [] => simp at h1
  | b :: r =>
    by_cases hb : b = 48
    · subst hb
      simp at h2
      simp [h2, value]
    · have := head_big b r h3 hb
      have h0 : (0 : Int) < 10 ^ r.length := Int.pow_pos (by decide)
      simp [hb]; omega

/-- the text up to the first byte c, what is behind it, and whether there is one -/
theorem cut_one (c : UInt8) : ∀ l : Bs, Go.Lib.cut l [c] = (l.takeWhile (· != c), (l.dropWhile (· != c)).drop 1, l.contains c)
  | [] => by simp [Go.Lib.cut, Go.Lib.index]
  | b :: l => by
    have ih := cut_one c l
    by_cases hb : b = c
    · subst hb
      simp [Go.Lib.cut, Go.Lib.index]
    · have hp : [c].isPrefixOf (b :: l) = false := by simp [List.isPrefixOf]; exact fun e => hb e.symm
      have hge := Go.Lib.index_ge l [c]
      have hbne : (b != c) = true := by simpa using hb
      have hcb : (c == b) = false := by simpa using fun e : c = b => hb e.symm
      unfold Go.Lib.cut at ih ⊢
      have e : Go.Lib.index (b :: l) [c] = if Go.Lib.index l [c] == -1 then -1 else Go.Lib.index l [c] + 1 := by
        conv => lhs; unfold Go.Lib.index
        rw [hp]; rfl
      by_cases hi : Go.Lib.index l [c] = -1
      · rw [hi] at ih e
        simp only [beq_self_eq_true, if_true] at e
        rw [e]
        simp only [show ¬ (0 : Int) ≤ -1 by decide, if_false] at ih ⊢
        simp only [Prod.mk.injEq] at ih
        rw [List.takeWhile_cons, List.dropWhile_cons, hbne, List.contains_cons, hcb]
        simp only [if_true, Bool.false_or, Prod.mk.injEq, List.cons.injEq, true_and]
        exact ih
      · have h0 : 0 ≤ Go.Lib.index l [c] := by omega
        have hne : (Go.Lib.index l [c] == -1) = false := by simpa using hi
        rw [hne] at e
        simp only [Bool.false_eq_true, if_false] at e
        rw [e]
        rw [if_pos h0] at ih
        rw [if_pos (by omega)]
        have en : (Go.Lib.index l [c] + 1).toNat = (Go.Lib.index l [c]).toNat + 1 := by omega
        rw [en, show (Go.Lib.index l [c]).toNat + 1 + [c].length = ((Go.Lib.index l [c]).toNat + [c].length) + 1 by omega]
        simp only [Prod.mk.injEq] at ih
        rw [List.takeWhile_cons, List.dropWhile_cons, hbne, List.contains_cons, hcb]
        simp only [if_true, Bool.false_or, Prod.mk.injEq, List.cons.injEq, true_and, List.take_succ_cons, List.drop_succ_cons]
        exact ih
end Go.Proofs.YtkfobijgjdgbgaaDoor.Wd

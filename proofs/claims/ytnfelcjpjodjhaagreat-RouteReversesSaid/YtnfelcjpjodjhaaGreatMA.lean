/-
  Plain mathematics of bytes, names, words and lines: no program in it.
  Plain mathematics of lines and words: no program in it.
  How words and lines lie in memory: the words that the contracts of this seat use, and what keeps them. No function of the program is named here.
  Plain mathematics of track layouts: what makes one valid, its hops, and how they lead back. No program in it.
  Contracts of the functions that tell bytes, names and words: the program's own and the document's.
  Contracts of the program's functions that look through a line: foreign bytes, the end of a word, whether a text is a word.
  Lists of lists of strings: how they lie in memory, and the text that joining them gives (plain mathematics). No function of the program is named here.
  Records in memory: slices whose elements take several cells each (names, numbers, sections, links, hops), how they are read and what keeps them; a layout in memory. No function of the program is named here.
-/
import Derived.Lib.Strings
import Derived.Lib.IndexBytes
import Derived.Lib.IndexMore
import Derived.WalkKit
import Derived.Laws.OwnMore
import Derived.Deep.AppendLies
import Derived.Deep.Draws
import Derived.Lib.Hide
import Derived.Test.YtnfelcjpjodjhaaGreatRows
import Derived.ProofKit
import Derived.OpenShut
import Derived.BigQuiet
import Derived.Outline
import Derived.Below
namespace Go.Proofs.YtnfelcjpjodjhaaGreat.Wd

abbrev Bs := List UInt8

/-- the bytes of a string -/
def bs (s : ByteArray) : Bs := s.data.toList
theorem bs_length (s : ByteArray) : (bs s).length = s.size := Array.length_toList
theorem bs_get (s : ByteArray) (k : Nat) (h : k < s.size) : (bs s)[k]? = some s[k] := Go.Lib.data_getElem? s k h
theorem bs_drop (s : ByteArray) (k : Nat) (h : k < s.size) : (bs s).drop k = s[k] :: (bs s).drop (k + 1) := by
  have hk : k < (bs s).length := by rw [bs_length]; exact h
  rw [List.drop_eq_getElem_cons hk]
  have := bs_get s k h
  rw [List.getElem?_eq_getElem hk] at this
  rw [Option.some.inj this]
theorem bs_take (s : ByteArray) (k : Nat) (h : k < s.size) : (bs s).take (k + 1) = (bs s).take k ++ [s[k]] := by
  rw [List.take_add_one, bs_get s k h]; rfl
theorem bs_drop_nil (s : ByteArray) (k : Nat) (h : s.size ≤ k) : (bs s).drop k = [] := List.drop_eq_nil_of_le (by rw [bs_length]; exact h)
theorem bs_ext {s t : ByteArray} (h : bs s = bs t) : s = t := by
  have h2 : s.data = t.data := Array.toList_inj.1 h
  cases s; cases t; simp at h2; rw [h2]
def str (l : Bs) : ByteArray := ⟨l.toArray⟩
theorem bs_str (l : Bs) : bs (str l) = l := rfl
theorem str_bs (s : ByteArray) : str (bs s) = s := bs_ext rfl
theorem size_str (l : Bs) : (str l).size = l.length := by simp [str, ByteArray.size]
theorem bs_append (s t : ByteArray) : bs (s ++ t) = bs s ++ bs t := by
  simp [bs]
theorem bs_extract (s : ByteArray) (i j : Nat) : bs (s.extract i j) = ((bs s).drop i).take (j - i) := by
  have := Go.Lib.extract_eq s i j
  unfold bs
  rw [this]

def letter (b : UInt8) : Bool := (decide (97 ≤ b.toNat) && decide (b.toNat ≤ 122)) || (decide (65 ≤ b.toNat) && decide (b.toNat ≤ 90))
def digit (b : UInt8) : Bool := decide (48 ≤ b.toNat) && decide (b.toNat ≤ 57)
def under (b : UInt8) : Bool := decide (b.toNat = 95)
def plain (b : UInt8) : Bool := decide (33 ≤ b.toNat) && decide (b.toNat ≤ 126) && !decide (b.toNat = 35)
def space (b : UInt8) : Bool := decide (b.toNat = 32) || decide (b.toNat = 9)
def foreign (b : UInt8) : Bool := !(plain b || space b || decide (b.toNat = 35))

/-- the bytes of a name behind the first -/
def later (b : UInt8) : Bool := letter b || digit b || under b
def isName : Bs → Bool
  | [] => false
  | b :: r => decide (r.length ≤ 11) && letter b && r.all later


/-- the number that digits denote, behind what is read so far -/
def value (v : Int) : Bs → Int
  | [] => v
  | b :: r => value (10 * v + ((b.toNat : Int) - 48)) r
def magOK (l : Bs) : Bool := !l.isEmpty && !(l.head? == some 48 && decide (1 < l.length)) && l.all digit && decide (value 0 l ≤ 1099511627776)
/-- the absolute value that digits denote -/
def magnitude (l : Bs) : Int := if magOK l then value 0 l else 0
def minus (l : Bs) : Bool := l.head? == some 45
def numOK (l : Bs) : Bool := if minus l then magOK (l.drop 1) && !decide (magnitude (l.drop 1) = 0) else magOK l
def number (l : Bs) : Int := if minus l then - magnitude (l.drop 1) else magnitude l

theorem digit_iff (b : UInt8) : digit b = true ↔ 48 ≤ b.toNat ∧ b.toNat ≤ 57 := by simp [digit]
theorem value_ge : ∀ (l : Bs) (v : Int), 0 ≤ v → l.all digit = true → v ≤ value v l
  | [], v, _, _ => Int.le_refl _
  | b :: r, v, h, hd => by
    simp only [List.all_cons, Bool.and_eq_true] at hd
    have hb := (digit_iff b).1 hd.1
    have := value_ge r (10 * v + ((b.toNat : Int) - 48)) (by omega) hd.2
    simp only [value]; omega
theorem value_lt : ∀ (l : Bs) (v : Int), 0 ≤ v → l.all digit = true → value v l < (v + 1) * 10 ^ l.length
  | [], v, _, _ => by simp [value]; omega
  | b :: r, v, h, hd => by
    simp only [List.all_cons, Bool.and_eq_true] at hd
    have hb := (digit_iff b).1 hd.1
    have := value_lt r (10 * v + ((b.toNat : Int) - 48)) (by omega) hd.2
    simp only [value, List.length_cons]
    have e : (v + 1) * 10 ^ (r.length + 1) = (10 * (v + 1)) * 10 ^ r.length := by rw [Int.pow_succ, Int.mul_comm 10 (v+1), Int.mul_assoc, Int.mul_comm 10]
    rw [e]
    refine Int.lt_of_lt_of_le this (Int.mul_le_mul_of_nonneg_right (by omega) (Int.pow_nonneg (by decide)))
theorem value_big : ∀ (l : Bs) (v : Int), 0 ≤ v → l.all digit = true → v * 10 ^ l.length ≤ value v l
  | [], v, _, _ => by simp [value]
  | b :: r, v, h, hd => by
    simp only [List.all_cons, Bool.and_eq_true] at hd
    have hb := (digit_iff b).1 hd.1
    have := value_big r (10 * v + ((b.toNat : Int) - 48)) (by omega) hd.2
    simp only [value, List.length_cons]
    have e : v * 10 ^ (r.length + 1) = (10 * v) * 10 ^ r.length := by rw [Int.pow_succ, Int.mul_comm 10 v, Int.mul_assoc, Int.mul_comm 10]
    rw [e]
    refine Int.le_trans (Int.mul_le_mul_of_nonneg_right (by omega) (Int.pow_nonneg (by decide))) this
theorem head_big (b : UInt8) (r : Bs) (h : (b :: r).all digit = true) (hb : b ≠ 48) : 10 ^ r.length ≤ value 0 (b :: r) := by
  simp only [List.all_cons, Bool.and_eq_true] at h
  have h1 := (digit_iff b).1 h.1
  have hne : b.toNat ≠ 48 := fun e => hb (UInt8.toNat_inj.1 e)
  have := value_big r (10 * 0 + ((b.toNat : Int) - 48)) (by omega) h.2
  simp only [value]
  refine Int.le_trans ?_ this
  have h0 : (0 : Int) ≤ 10 ^ r.length := Int.pow_nonneg (by decide)
  have := Int.mul_le_mul_of_nonneg_right (a := 1) (b := 10 * 0 + ((b.toNat : Int) - 48)) (by omega) h0
  omega
theorem magOK_short (l : Bs) (h : magOK l = true) : l.length ≤ 13 := by
  simp only [magOK, Bool.and_eq_true, Bool.not_eq_true', decide_eq_true_eq] at h
  obtain ⟨⟨⟨h1, h2⟩, h3⟩, h4⟩ := h
  match l with
  | [] => simp
  | b :: r =>
    by_cases hb : b = 48
    · subst hb
      simp at h2
      rw [List.length_cons, h2]; simp
    · have := head_big b r h3 hb
      by_cases hl : r.length ≤ 12
      · simp; omega
      · exfalso
        have h13 : (10 : Int) ^ 13 ≤ 10 ^ r.length := by
          have : (10:Nat) ^ 13 ≤ 10 ^ r.length := Nat.pow_le_pow_right (by decide) (by omega)
          exact_mod_cast this
        omega
theorem mag_pos (l : Bs) (h : magOK l = true) : (value 0 l = 0 ↔ l.head? = some 48) := by
  simp only [magOK, Bool.and_eq_true, Bool.not_eq_true', decide_eq_true_eq] at h
  obtain ⟨⟨⟨h1, h2⟩, h3⟩, h4⟩ := h
  match l with
  | [] => simp at h1
  | b :: r =>
    by_cases hb : b = 48
    · subst hb
      simp at h2
      simp [h2, value]
    · have := head_big b r h3 hb
      have h0 : (0 : Int) < 10 ^ r.length := Int.pow_pos (by decide)
      simp [hb]; omega

/-- the text up to the first byte c, what is behind it, and whether there is one -/
theorem cut_one (c : UInt8) : ∀ l : Bs, Go.Lib.cut l [c] = (l.takeWhile (· != c), (l.dropWhile (· != c)).drop 1, l.contains c)
  | [] => by simp [Go.Lib.cut, Go.Lib.index]
  | b :: l => by
    have ih := cut_one c l
    by_cases hb : b = c
    · subst hb
      simp [Go.Lib.cut, Go.Lib.index]
    · have hp : [c].isPrefixOf (b :: l) = false := by simp [List.isPrefixOf]; exact fun e => hb e.symm
      have hge := Go.Lib.index_ge l [c]
      have hbne : (b != c) = true := by simpa using hb
      have hcb : (c == b) = false := by simpa using fun e : c = b => hb e.symm
      unfold Go.Lib.cut at ih ⊢
      have e : Go.Lib.index (b :: l) [c] = if Go.Lib.index l [c] == -1 then -1 else Go.Lib.index l [c] + 1 := by
        conv => lhs; unfold Go.Lib.index
        rw [hp]; rfl
      by_cases hi : Go.Lib.index l [c] = -1
      · rw [hi] at ih e
        simp only [beq_self_eq_true, if_true] at e
        rw [e]
        simp only [show ¬ (0 : Int) ≤ -1 by decide, if_false] at ih ⊢
        simp only [Prod.mk.injEq] at ih
        rw [List.takeWhile_cons, List.dropWhile_cons, hbne, List.contains_cons, hcb]
        simp only [if_true, Bool.false_or, Prod.mk.injEq, List.cons.injEq, true_and]
        exact ih
      · have h0 : 0 ≤ Go.Lib.index l [c] := by omega
        have hne : (Go.Lib.index l [c] == -1) = false := by simpa using hi
        rw [hne] at e
        simp only [Bool.false_eq_true, if_false] at e
        rw [e]
        rw [if_pos h0] at ih
        rw [if_pos (by omega)]
        have en : (Go.Lib.index l [c] + 1).toNat = (Go.Lib.index l [c]).toNat + 1 := by omega
        rw [en, show (Go.Lib.index l [c]).toNat + 1 + [c].length = ((Go.Lib.index l [c]).toNat + [c].length) + 1 by omega]
        simp only [Prod.mk.injEq] at ih
        rw [List.takeWhile_cons, List.dropWhile_cons, hbne, List.contains_cons, hcb]
        simp only [if_true, Bool.false_or, Prod.mk.injEq, List.cons.injEq, true_and, List.take_succ_cons, List.drop_succ_cons]
        exact ih
end Go.Proofs.YtnfelcjpjodjhaaGreat.Wd

namespace Go.Proofs.YtnfelcjpjodjhaaGreat.Lin
open Wd

/-- a word: its text, its line, its column -/
abbrev W := Bs × Int × Int

def addTo (L : List W) (b : UInt8) : List W := L.dropLast ++ (L.getLast?.map fun w => (w.1 ++ [b], w.2)).toList
/-- the words of a line's code, behind the words L of what is read so far (k bytes); p: does the last byte read belong to a word -/
def wst (ln : Int) : List W → Bool → Nat → Bs → List W
  | L, _, _, [] => L
  | L, p, k, b :: r => if plain b then (if p then wst ln (addTo L b) true (k + 1) r else wst ln (L ++ [([b], ln, (k : Int) + 1)]) true (k + 1) r) else wst ln L false (k + 1) r

theorem addTo_snoc (L : List W) (t : Bs) (x : Int × Int) (b : UInt8) : addTo (L ++ [(t, x)]) b = L ++ [(t ++ [b], x)] := by
  simp [addTo]
theorem addTo_len (L : List W) (b : UInt8) : (addTo L b).length = L.length := by
  rcases List.eq_nil_or_concat L with rfl | ⟨M, w, rfl⟩
  · rfl
  · simp [addTo]
theorem wst_len (ln : Int) : ∀ (r : Bs) (L : List W) (p : Bool) (k : Nat), L.length ≤ (wst ln L p k r).length
  | [], L, _, _ => Nat.le_refl _
  | b :: r, L, p, k => by
    unfold wst
    split
    · split
      · have := wst_len ln r (addTo L b) true (k + 1); rw [addTo_len] at this; exact this
      · have := wst_len ln r (L ++ [([b], ln, (k : Int) + 1)]) true (k + 1); simp at this; omega
    · exact wst_len ln r L false (k + 1)
theorem wst_grow (ln : Int) (b : UInt8) (r : Bs) (L : List W) (k : Nat) (hb : plain b = true) : L.length + 1 ≤ (wst ln L false k (b :: r)).length := by
  unfold wst
  rw [hb]
  simp only [if_true, Bool.false_eq_true, if_false]
  have := wst_len ln r (L ++ [([b], ln, (k : Int) + 1)]) true (k + 1)
  simpa using this
/-- what stands before does not count at a byte that is no word's, and at the end -/
theorem wst_flag (ln : Int) (L : List W) (p q : Bool) (k : Nat) : ∀ (r : Bs), (∀ b, r.head? = some b → plain b = false) → wst ln L p k r = wst ln L q k r
  | [], _ => rfl
  | b :: r, h => by
    have := h b rfl
    simp [wst, this]
theorem wst_run (ln : Int) : ∀ (u r : Bs) (L : List W) (t : Bs) (x : Int × Int) (k : Nat), u.all plain = true → wst ln (L ++ [(t, x)]) true k (u ++ r) = wst ln (L ++ [(t ++ u, x)]) true (k + u.length) r
  | [], r, L, t, x, k, _ => by simp
  | b :: u, r, L, t, x, k, h => by
    simp only [List.all_cons, Bool.and_eq_true] at h
    have := wst_run ln u r L (t ++ [b]) x (k + 1) h.2
    simp only [List.cons_append, wst, h.1, if_true, addTo_snoc]
    rw [this]
    simp only [List.append_assoc, List.length_cons, List.singleton_append]
    rw [show k + 1 + u.length = k + (u.length + 1) by omega]
/-- a whole word -/
theorem wst_word (ln : Int) (b : UInt8) (u r : Bs) (L : List W) (k : Nat) (h : (b :: u).all plain = true) (hr : ∀ b, r.head? = some b → plain b = false) :
    wst ln L false k ((b :: u) ++ r) = wst ln (L ++ [(b :: u, ln, (k : Int) + 1)]) false (k + (b :: u).length) r := by
  simp only [List.all_cons, Bool.and_eq_true] at h
  have := wst_run ln u r L [b] (ln, (k : Int) + 1) (k + 1) h.2
  simp only [List.cons_append, wst, h.1, if_true, Bool.false_eq_true, if_false]
  rw [this, wst_flag ln _ true false _ r hr]
  simp only [List.singleton_append, List.length_cons]
  rw [show k + 1 + u.length = k + (u.length + 1) by omega]
theorem wst_skip (ln : Int) (b : UInt8) (r : Bs) (L : List W) (p : Bool) (k : Nat) (hb : plain b = false) : wst ln L p k (b :: r) = wst ln L false (k + 1) r := by
  simp [wst, hb]

/-- what of a line is not comment -/
def code (l : Bs) : Bs := l.takeWhile (· != 35)
def lineWords (ln : Int) (l : Bs) : List W := wst ln [] false 0 (code l)
def bad (l : Bs) : Bool := (code l).any foreign
/-- the error of a line: its number, 0 for none -/
def lineErr (ln : Int) (l : Bs) : Int := if bad l then 2 else if 64 < (lineWords ln l).length then 7 else 0
def lineOut (ln : Int) (l : Bs) : List W := if lineErr ln l = 0 then lineWords ln l else []

/-- the lines of a text -/
def split : Bs → List Bs
  | [] => [[]]
  | b :: r => if b == 10 then [] :: split r else match split r with
    | [] => [[b]]
    | h :: t => (b :: h) :: t
theorem split_ne (l : Bs) : split l ≠ [] := by
  cases l with
  | nil => simp [split]
  | cons b r =>
    unfold split
    split
    · simp
    · split <;> simp
theorem split_eq : ∀ (l : Bs), split l = l.takeWhile (· != 10) :: (if l.contains 10 then split ((l.dropWhile (· != 10)).drop 1) else [])
  | [] => by simp [split]
  | b :: r => by
    have ih := split_eq r
    by_cases hb : b = 10
    · subst hb
      simp [split]
    · have h1 : (b == 10) = false := by simpa using hb
      have h2 : (b != 10) = true := by simpa using hb
      have h3 : ((10 : UInt8) == b) = false := by simpa using fun e : 10 = b => hb e.symm
      rw [List.takeWhile_cons, List.dropWhile_cons, h2, List.contains_cons, h3]
      simp only [if_true, Bool.false_or]
      conv => lhs; unfold split
      rw [h1]
      simp only [Bool.false_eq_true, if_false]
      rw [ih]

/-- what Lines answers for the lines that are left, behind the lines T: lines, number, error -/
def go (T : List (List W)) (ln : Int) : List Bs → List (List W) × Int × Int
  | [] => (T, 0, 0)
  | l :: r => if lineErr ln l = 0 then go (if (lineWords ln l).length = 0 then T else T ++ [lineWords ln l]) (ln + 1) r else ([], ln, lineErr ln l)
def linesOf (l : Bs) : List (List W) × Int × Int := if 65536 < l.length then ([], 0, 7) else go [] 1 (split l)
theorem go_empty (T : List (List W)) (ln : Int) : go T ln [[]] = (T, 0, 0) := by
  simp [go, lineErr, bad, code, lineWords, wst]
end Go.Proofs.YtnfelcjpjodjhaaGreat.Lin

namespace Go.Proofs.YtnfelcjpjodjhaaGreat.Mem
open Go.RowKit Wd Lin

theorem block_add (a : Addr) (n : Nat) : (a.add n).block = a.block := by unfold Addr.add; split <;> rfl
theorem add_add' (a : Addr) (i j : Nat) : (a.add i).add j = a.add (i + j) := by
  unfold Addr.add
  by_cases hi : i = 0 <;> by_cases hj : j = 0 <;> simp [hi, hj, Nat.add_assoc]

/-- the cells of a list of values lie behind an address below block B -/
def At (w : World) (B : Nat) (A : Option Addr) (xs : List Value) : Prop := ∀ j u, xs[j]? = some u → ∃ ad, A = some ad ∧ ad.block < B ∧ w.cell? (ad.add j) = some u

/-- the three cells of each word -/
def cs : List W → List Value
  | [] => []
  | p :: r => .string (str p.1) :: .int .i64 p.2.1 :: .int .i64 p.2.2 :: cs r

theorem cs_length (L : List W) : (cs L).length = L.length * 3 := by
  induction L with
  | nil => rfl
  | cons p r ih => simp only [cs, List.length_cons, ih]; omega
theorem cs_append (L M : List W) : cs (L ++ M) = cs L ++ cs M := by
  induction L with
  | nil => rfl
  | cons p r ih => simp only [cs, List.cons_append, ih]
theorem cs_get0 (L : List W) (k : Nat) : (cs L)[k * 3]? = L[k]?.map fun p => .string (str p.1) := by
  induction L generalizing k with
  | nil => simp [cs]
  | cons p r ih =>
    cases k with
    | zero => simp [cs]
    | succ k => rw [show (k + 1) * 3 = k * 3 + 1 + 1 + 1 from by omega]; simp only [cs, List.getElem?_cons_succ, ih]
theorem cs_get1 (L : List W) (k : Nat) : (cs L)[k * 3 + 1]? = L[k]?.map fun p => .int .i64 p.2.1 := by
  induction L generalizing k with
  | nil => simp [cs]
  | cons p r ih =>
    cases k with
    | zero => simp [cs]
    | succ k => rw [show (k + 1) * 3 + 1 = (k * 3 + 1) + 1 + 1 + 1 from by omega]; simp only [cs, List.getElem?_cons_succ, ih]
theorem cs_get2 (L : List W) (k : Nat) : (cs L)[k * 3 + 2]? = L[k]?.map fun p => .int .i64 p.2.2 := by
  induction L generalizing k with
  | nil => simp [cs]
  | cons p r ih =>
    cases k with
    | zero => simp [cs]
    | succ k => rw [show (k + 1) * 3 + 2 = (k * 3 + 2) + 1 + 1 + 1 from by omega]; simp only [cs, List.getElem?_cons_succ, ih]
theorem cs_one (L : List W) : ∀ u ∈ cs L, u.oneCell' = true := by
  induction L with
  | nil => intro u hu; cases hu
  | cons p r ih =>
    intro u hu
    simp only [cs, List.mem_cons] at hu
    rcases hu with rfl | rfl | rfl | hu
    · rfl
    · rfl
    · rfl
    · exact ih u hu

section
variable {w w' : World} {B B' : Nat} {A : Option Addr} {xs : List Value}
theorem At.nil : At w B A [] := fun j u h => by simp at h
theorem At.keep (h : At w B A xs) (hk : ∀ p : Addr, p.block < B → w'.cell? p = w.cell? p) : At w' B A xs := fun j u hu => by
  obtain ⟨ad, e, hb, hc⟩ := h j u hu
  exact ⟨ad, e, hb, (hk _ (by rw [block_add]; exact hb)).trans hc⟩
theorem At.more (h : At w B A xs) (hB : B ≤ B') : At w B' A xs := fun j u hu => by
  obtain ⟨ad, e, hb, hc⟩ := h j u hu
  exact ⟨ad, e, by omega, hc⟩
theorem At.below (h : At w B A xs) (hb : Below B w w') : At w' B A xs := h.keep fun _ hp => hb.cell hp
end

theorem below_draws {B : Nat} {a w : World} (h : Below B a w) (n : Nat) : Below B a (w.drewN n) := ⟨h.os, h.tape, h.output, h.size, h.block⟩
theorem below_after {B : Nat} {a w : World} (h : Below B a w) : ∀ n, Below B a (w.drewN n) := below_draws h

/-- the slice of n elements at A reads as the list of words L, below block B -/
def Words (w : World) (B : Nat) (A : Option Addr) (n : Nat) (L : List W) : Prop := L.length = n ∧ At w B A (cs L)
/-- the slice value v of n elements is the call's own, and reads as the list of words L -/
def Own (w : World) (base : Nat) (v : Value) (n : Nat) (L : List W) : Prop := L.length = n ∧ w.ownsRow base 95 3 v n (cs L)

section
variable {w w' : World} {B B' n : Nat} {A : Option Addr} {L : List W}
theorem Words.nil (w : World) (B : Nat) (A : Option Addr) : Words w B A 0 [] := ⟨rfl, At.nil⟩
theorem Words.below (h : Words w B A n L) (hb : Below B w w') : Words w' B A n L := ⟨h.1, h.2.below hb⟩
theorem Words.more (h : Words w B A n L) (hB : B ≤ B') : Words w B' A n L := ⟨h.1, h.2.more hB⟩
theorem cell_next (ad : Addr) (i j : Nat) (hj : 0 < j) : ad.add (i + j) = (⟨(ad.add i).block, (ad.add i).off + j, none⟩ : Addr) := by
  unfold Addr.add
  by_cases hi : i = 0
  · subst hi; simp; intro e; omega
  · simp [hi, Nat.add_assoc]
/-- the element at k, as the walk loads it: its first cell and the ones behind it -/
theorem Words.load {k : Nat} (h : Words w B A n L) (hk : k < n) : ∃ ad p, A = some ad ∧ ad.block < B ∧ L[k]? = some p ∧ w.cell? (ad.add (k * 3)) = some (.string (str p.1)) ∧ w.cell? ⟨(ad.add (k * 3)).block, (ad.add (k * 3)).off + 1, none⟩ = some (.int .i64 p.2.1) ∧ w.cell? ⟨(ad.add (k * 3)).block, (ad.add (k * 3)).off + 2, none⟩ = some (.int .i64 p.2.2) := by
  have hk' : k < L.length := by have := h.1; omega
  have e : L[k]? = some L[k] := List.getElem?_eq_getElem hk'
  obtain ⟨ad, e1, hb, h0⟩ := h.2 (k * 3) (.string (str L[k].1)) (by rw [cs_get0, e]; rfl)
  obtain ⟨ad', e2, _, h1⟩ := h.2 (k * 3 + 1) (.int .i64 L[k].2.1) (by rw [cs_get1, e]; rfl)
  obtain ⟨ad'', e3, _, h2⟩ := h.2 (k * 3 + 2) (.int .i64 L[k].2.2) (by rw [cs_get2, e]; rfl)
  have : ad = ad' := by rw [e1] at e2; exact Option.some.inj e2
  subst this
  have : ad = ad'' := by rw [e1] at e3; exact Option.some.inj e3
  subst this
  rw [cell_next _ _ _ (by omega)] at h1 h2
  exact ⟨ad, L[k], e1, hb, e, h0, h1, h2⟩
theorem Own.form {base : Nat} {v : Value} (h : Own w base v n L) : ∃ A c, v = .slice A n c ∧ n ≤ c ∧ c ≤ maxLen := by
  rcases h.2.2 with ⟨rfl, rfl⟩ | ⟨g, cap, cur, rfl, _, _, hc, hm, _⟩
  · exact ⟨none, 0, rfl, Nat.le_refl _, Nat.zero_le _⟩
  · exact ⟨_, cap, rfl, hc, hm⟩
theorem Own.words {base c : Nat} (h : Own w base (.slice A n c) n L) : Words w w.heap.size A n L := by
  refine ⟨h.1, fun j u hu => ?_⟩
  have hl : j < L.length * 3 := by rw [← cs_length]; exact (List.getElem?_eq_some_iff.1 hu).1
  rcases h.2.2 with ⟨e, rfl⟩ | ⟨g, cap, cur, e, _, hh, _⟩
  · have := h.1; omega
  · have hA : A = some ⟨g, 0, none⟩ := by injection e
    subst hA
    exact ⟨_, rfl, lt_of_block hh, h.2.cells (g := g) rfl j u hu⟩
theorem cs_set (M : List W) (p : W) (t : Bs) : (cs (M ++ [p])).set (M.length * 3) (.string (str t)) = cs (M ++ [(t, p.2)]) := by
  rw [cs_append, cs_append, List.set_append_right _ _ (by rw [cs_length]; omega), cs_length]
  simp [cs]
theorem Own.last {base q c : Nat} {M : List W} {p : W} (h : Own w base (.slice A (q + 1) c) (q + 1) (M ++ [p])) :
    ∃ g, A = some ⟨g, 0, none⟩ ∧ base ≤ g ∧ g < w.heap.size ∧ w.cell? ⟨g, q * 3, none⟩ = some (.string (str p.1)) ∧ w.frozen? ⟨g, q * 3, none⟩ = false := by
  have hq : M.length = q := by have := h.1; simp at this; exact this
  rcases h.2.2 with ⟨_, e⟩ | ⟨g, cap, cur, e, hb, hh, _⟩
  · omega
  · have hA : A = some ⟨g, 0, none⟩ := by injection e
    subst hA
    refine ⟨g, rfl, hb, lt_of_block hh, ?_, h.2.frozenAt _⟩
    rw [h.2.cellAt _ (by omega), cs_get0]; simp [← hq]
theorem Own.put {base q c g : Nat} {M : List W} {p : W} (h : Own w base (.slice (some ⟨g, 0, none⟩) (q + 1) c) (q + 1) (M ++ [p])) (t : Bs) :
    Own (w.setCell ⟨g, q * 3, none⟩ (.string (str t))) base (.slice (some ⟨g, 0, none⟩) (q + 1) c) (q + 1) (M ++ [(t, p.2)]) := by
  have hq : M.length = q := by have := h.1; simp at this; exact this
  refine ⟨by simpa using h.1, ?_⟩
  rw [← cs_set, hq]
  exact (h.2.stored _ _).1
theorem Own.alloc {base : Nat} {v : Value} (h : Own w base v n L) (o : Obj) : Own (w.alloc o) base v n L := ⟨h.1, h.2.alloc o⟩
theorem Own.drewN {base : Nat} {v : Value} (h : Own w base v n L) (k : Nat) : Own (w.drewN k) base v n L := h
theorem Own.below {base : Nat} {v : Value} (h : Own w base v n L) (hb : Below B w w') (hB : w.heap.size ≤ B) : Own w' base v n L :=
  ⟨h.1, h.2.kept (row := none) ⟨hb.os, hb.tape, hb.output, hb.size, fun k hk _ => hb.block k (by omega)⟩ (by
    cases hv : v.ownBlock with
    | none => exact .inl rfl
    | some g => exact .inr (by simp))⟩
theorem Own.base_ {base base' : Nat} {v : Value} (h : Own w base v n L) (hB : base' ≤ base) : Own w base' v n L := by
  refine ⟨h.1, h.2.1, ?_⟩
  rcases h.2.2 with hh | ⟨g, cap, cur, e, hb, hr⟩
  · exact .inl hh
  · exact .inr ⟨g, cap, cur, e, by omega, hr⟩
theorem Own.nil (w : World) (base : Nat) : Own w base (.slice none 0 0) 0 [] := ⟨rfl, World.ownsRow_nil _ _ _ _⟩
theorem Own.push {base : Nat} {v : Value} {t : Bs} {a b : Int} (hl : L.length = n) (h : w.ownsRow base 95 3 v (n + 1) (cs L ++ [.string (str t), .int .i64 a, .int .i64 b])) : Own w base v (n + 1) (L ++ [(t, a, b)]) :=
  ⟨by simp [hl], by rw [cs_append]; exact h⟩
theorem new_word (w : World) (s : ByteArray) (a b : Int) (e : TypeId) : ∀ (j : Nat) (u : Value), [Value.string s, Value.int .i64 a, Value.int .i64 b][j]? = some u → (w.alloc (.cells #[.string s, .int .i64 a, .int .i64 b] e)).cell? ((⟨w.heap.size, 0, none⟩ : Addr).add j) = some u := by
  intro j u hu
  match j, hu with
  | 0, hu => simp at hu; subst hu; simp [Addr.add]
  | 1, hu => simp at hu; subst hu; simp [Addr.add]
  | 2, hu => simp at hu; subst hu; simp [Addr.add]
theorem one_word (s : ByteArray) (a b : Int) : ∀ u ∈ [Value.string s, Value.int .i64 a, Value.int .i64 b], u.oneCell' = true := by
  intro u hu
  simp only [List.mem_cons, List.not_mem_nil, or_false] at hu
  rcases hu with rfl | rfl | rfl <;> rfl
/-- behind the append of one word to a list of the call's own -/
theorem appended {B cc : Nat} {w wr w1 : World} {v : Value} {t : Bs} {a b : Int} {o : Obj} (hbw : Below B w wr) (hB : B ≤ wr.heap.size) (hl : L.length = n) (hown : wr.ownsRow B 95 3 (.slice A n cc) n (cs L))
    (hown' : w1.ownsRow B 95 3 v (n + 1) (cs L ++ [.string (str t), .int .i64 a, .int .i64 b])) (hgrow : (wr.alloc o).grownBy w1 (Value.slice A n cc).ownBlock) :
    ∃ A' c', v = .slice A' (n + 1) c' ∧ Own w1 B (.slice A' (n + 1) c') (n + 1) (L ++ [(t, a, b)]) ∧ Below B w w1 := by
  have h := Own.push hl hown'
  obtain ⟨A', c', rfl, _⟩ := h.form
  refine ⟨A', c', rfl, h, ?_⟩
  exact (hbw.alloc hB _).grown hgrow (by simp; omega) (fun k hk => (hown.lt k hk).1)
end

/-! ### lists of lists of words -/

/-- the value u is a slice of the call's own that reads as the list of words L -/
def Row (w : World) (base : Nat) (u : Value) (L : List W) : Prop := Own w base u L.length L
/-- the values us are such slices -/
def Rows (w : World) (base : Nat) : List Value → List (List W) → Prop
  | [], [] => True
  | u :: us, L :: LL => Row w base u L ∧ Rows w base us LL
  | _, _ => False
/-- the slice value v of n elements is the call's own, and reads as the list of lists T -/
def OwnL (w : World) (base : Nat) (v : Value) (n : Nat) (T : List (List W)) : Prop := ∃ us, T.length = n ∧ w.ownsRow base 93 1 v n us ∧ Rows w base us T

theorem Rows.imp {w w' : World} {base base' : Nat} (h : ∀ u L, Row w base u L → Row w' base' u L) : ∀ {us : List Value} {T : List (List W)}, Rows w base us T → Rows w' base' us T
  | [], [], _ => trivial
  | _ :: _, _ :: _, hr => ⟨h _ _ hr.1, Rows.imp h hr.2⟩
theorem Rows.snoc {w : World} {base : Nat} {u : Value} {L : List W} (hu : Row w base u L) : ∀ {us : List Value} {T : List (List W)}, Rows w base us T → Rows w base (us ++ [u]) (T ++ [L])
  | [], [], _ => ⟨hu, trivial⟩
  | _ :: _, _ :: _, hr => ⟨hr.1, Rows.snoc hu hr.2⟩
theorem Rows.get {w : World} {base : Nat} {us : List Value} {T : List (List W)} (hr : Rows w base us T) {k : Nat} {L : List W} (h : T[k]? = some L) : ∃ u, us[k]? = some u ∧ Row w base u L := by
  induction us generalizing T k with
  | nil =>
    cases T with
    | nil => simp at h
    | cons M T => exact hr.elim
  | cons u us ih =>
    cases T with
    | nil => exact hr.elim
    | cons M T =>
      cases k with
      | zero => simp at h; subst h; exact ⟨u, rfl, hr.1⟩
      | succ k => simp at h; obtain ⟨x, h1, h2⟩ := ih hr.2 h; exact ⟨x, by simpa using h1, h2⟩
section
variable {w w' : World} {B n : Nat} {T : List (List W)}
theorem OwnL.nil (w : World) (base : Nat) : OwnL w base (.slice none 0 0) 0 [] := ⟨[], rfl, World.ownsRow_nil _ _ _ _, trivial⟩
theorem OwnL.below {base : Nat} {v : Value} (h : OwnL w base v n T) (hb : Below B w w') (hB : w.heap.size ≤ B) : OwnL w' base v n T := by
  obtain ⟨us, h1, h2, h3⟩ := h
  refine ⟨us, h1, h2.kept (row := none) ⟨hb.os, hb.tape, hb.output, hb.size, fun k hk _ => hb.block k (by omega)⟩ (by
    cases hv : v.ownBlock with
    | none => exact .inl rfl
    | some g => exact .inr (by simp)), Rows.imp (fun u L hr => Own.below hr hb hB) h3⟩
theorem OwnL.base_ {base base' : Nat} {v : Value} (h : OwnL w base v n T) (hB : base' ≤ base) : OwnL w base' v n T := by
  obtain ⟨us, h1, h2, h3⟩ := h
  refine ⟨us, h1, ⟨h2.1, ?_⟩, Rows.imp (fun u L hr => Own.base_ hr hB) h3⟩
  rcases h2.2 with hh | ⟨g, cap, cur, e, hb, hr⟩
  · exact .inl hh
  · exact .inr ⟨g, cap, cur, e, by omega, hr⟩
theorem OwnL.form {base : Nat} {v : Value} (h : OwnL w base v n T) : ∃ A c, v = .slice A n c ∧ n ≤ c ∧ c ≤ maxLen := by
  obtain ⟨us, h1, h2, h3⟩ := h
  rcases h2.2 with ⟨rfl, rfl⟩ | ⟨g, cap, cur, rfl, _, _, hc, hm, _⟩
  · exact ⟨none, 0, rfl, Nat.le_refl _, Nat.zero_le _⟩
  · exact ⟨_, cap, rfl, hc, hm⟩
theorem OwnL.drewN {base : Nat} {v : Value} (h : OwnL w base v n T) (k : Nat) : OwnL (w.drewN k) base v n T := by
  obtain ⟨us, h1, h2, h3⟩ := h
  exact ⟨us, h1, h2, Rows.imp (w := w) (w' := w.drewN k) (fun u L hr => Own.drewN (n := L.length) hr k) h3⟩
/-- the line at k, as the walk loads it -/
theorem OwnL.load {base k c : Nat} {A : Option Addr} (h : OwnL w base (.slice A n c) n T) (hk : k < n) : ∃ ad L A1 c1, A = some ad ∧ ad.block < w.heap.size ∧ T[k]? = some L ∧ w.cell? (ad.add k) = some (.slice A1 L.length c1) ∧ Words w w.heap.size A1 L.length L ∧ L.length ≤ c1 ∧ c1 ≤ maxLen := by
  obtain ⟨us, h1, h2, h3⟩ := h
  have hk' : k < T.length := by omega
  have e : T[k]? = some T[k] := List.getElem?_eq_getElem hk'
  obtain ⟨u, hu, hr⟩ := h3.get e
  obtain ⟨A1, c1, rfl, q1, q2⟩ := Own.form hr
  have hlen := h2.1
  rcases h2.2 with ⟨e2, e3⟩ | ⟨g, cap, cur, e2, _, hh, _⟩
  · rw [e3] at hlen; simp at hlen; omega
  · have hA : A = some ⟨g, 0, none⟩ := by injection e2
    subst hA
    exact ⟨_, T[k], A1, c1, rfl, lt_of_block hh, e, h2.cells (g := g) rfl k _ hu, Own.words hr, q1, q2⟩

theorem own_ne {base base' n m : Nat} {v u : Value} {xs ys : List Value} {g : Nat} (h : w.ownsRow base 93 1 v n xs) (h' : w.ownsRow base' 95 3 u m ys) (hg : u.ownBlock = some g) : v.ownBlock ≠ some g := by
  rcases h.2 with ⟨rfl, _⟩ | ⟨g1, cap, cur, rfl, _, hh, _⟩
  · simp [Value.ownBlock]
  · rcases h'.2 with ⟨rfl, _⟩ | ⟨g2, cap2, cur2, rfl, _, hh2, _⟩
    · simp [Value.ownBlock] at hg
    · simp [Value.ownBlock] at hg ⊢
      rintro rfl
      subst hg
      rw [hh] at hh2
      injection hh2 with hh2
      injection hh2 with _ ht
      exact absurd ht (by decide)
theorem Own.kept {base n m : Nat} {v u : Value} {L : List W} {xs : List Value} {base' : Nat} (h : Own w base' u m L) (hv : w.ownsRow base 93 1 v n xs) (hg : w.grownBy w' v.ownBlock) : Own w' base' u m L := by
  refine ⟨h.1, h.2.kept (row := v.ownBlock) hg ?_⟩
  cases hu : u.ownBlock with
  | none => exact .inl rfl
  | some g => exact .inr (fun e => own_ne hv h.2 hu (by rw [← e]))
end

end Go.Proofs.YtnfelcjpjodjhaaGreat.Mem

namespace Go.Proofs.YtnfelcjpjodjhaaGreat.Lay
open Wd

/-- a link: two ends (section, end), a point and a position -/
structure Lnk where
  a : Int
  ae : Int
  b : Int
  be : Int
  pt : Int
  ps : Int
deriving DecidableEq
/-- a section: name, length, limit, grade, station -/
structure Sec where
  name : Bs
  len : Int
  lim : Int
  grade : Int
  st : Int
deriving DecidableEq
structure Lay where
  stations : List Bs
  points : List Bs
  sections : List Sec
  links : List Lnk
deriving DecidableEq

abbrev End := Int × Int
def Lnk.x (k : Lnk) : End := (k.a, k.ae)
def Lnk.y (k : Lnk) : End := (k.b, k.be)
def has (k : Lnk) (e : End) : Bool := decide (k.x = e) || decide (k.y = e)
theorem has_iff (k : Lnk) (e : End) : has k e = true ↔ k.x = e ∨ k.y = e := by simp [has]

/-- may the link k have the end e, in view of the earlier links -/
def free (done : List Lnk) (k : Lnk) (e : End) : Bool := match done.filter (has · e) with
  | [] => true
  | [o] => decide (0 ≤ k.pt) && decide (o.pt = k.pt) && !decide (o.ps = k.ps)
  | _ => false
/-- are the numbers of a link in their ranges (n sections, p points) -/
def inr (n p : Nat) (k : Lnk) : Bool :=
  decide (0 ≤ k.a) && decide (k.a < n) && decide (0 ≤ k.b) && decide (k.b < n) && decide (0 ≤ k.ae) && decide (k.ae ≤ 1) && decide (0 ≤ k.be) && decide (k.be ≤ 1) &&
    decide (-1 ≤ k.pt) && decide (k.pt < p) && decide (0 ≤ k.ps) && decide (k.ps ≤ 1) && !(decide (k.pt < 0) && !decide (k.ps = 0))
/-- the error of a link, in view of the earlier ones -/
def linkErr (n p : Nat) (done : List Lnk) (k : Lnk) : Int :=
  if inr n p k = false then 4 else if k.x = k.y then 1 else if done.any (fun j => has j k.x && has j k.y) then 5 else if free done k k.x && free done k k.y then 0 else 11
def linksErr (n p : Nat) : List Lnk → List Lnk → Int
  | _, [] => 0
  | done, k :: r => if linkErr n p done k = 0 then linksErr n p (done ++ [k]) r else linkErr n p done k

/-- names: each is a name, and none is there twice -/
def namesErr : List Bs → List Bs → Int
  | _, [] => 0
  | done, s :: r => if isName s = false then 3 else if done.contains s then 5 else namesErr (done ++ [s]) r
def secErr (q : Nat) (s : Sec) : Int :=
  if decide (1 ≤ s.len) && decide (s.len ≤ 400) && decide (1000 ≤ s.lim) && decide (s.lim ≤ 100000) && decide (-40 ≤ s.grade) && decide (s.grade ≤ 40) && decide (-1 ≤ s.st) && decide (s.st < q) then 0 else 4
def secsErr (q : Nat) : List Bs → List Sec → Int
  | _, [] => 0
  | done, s :: r => if isName s.name = false then 3 else if done.contains s.name then 5 else if secErr q s = 0 then secsErr q (done ++ [s.name]) r else secErr q s
/-- the first error of a layout, 0 for none -/
def check (l : Lay) : Int :=
  if 24 < l.stations.length ∨ 48 < l.points.length ∨ 96 < l.sections.length ∨ 192 < l.links.length then 7
  else if l.sections.length = 0 then 1
  else if namesErr [] l.stations ≠ 0 then namesErr [] l.stations
  else if namesErr [] l.points ≠ 0 then namesErr [] l.points
  else if secsErr l.stations.length [] l.sections ≠ 0 then secsErr l.stations.length [] l.sections
  else linksErr l.sections.length l.points.length [] l.links

/-! ### steps and hops -/

abbrev Step := Int × Int
def rev (s : Step) : Step := if s.2 = 0 then (s.1, 1) else (s.1, 0)
/-- the end at which a step leaves its section -/
def out (s : Step) : End := if s.2 = 1 then (s.1, 0) else (s.1, 1)
/-- the step that enters a section at an end -/
def into (e : End) : Step := if e.2 = 1 then (e.1, 1) else (e.1, 0)
/-- the other end of a link that has the end e -/
def other (k : Lnk) (e : End) : End := if k.x = e then k.y else k.x
structure Hop where
  to : Step
  pt : Int
  ps : Int
deriving DecidableEq
def hopOf (e : End) (k : Lnk) : Hop := ⟨into (other k e), k.pt, k.ps⟩
def hops (ks : List Lnk) (s : Step) : List Hop := (ks.filter (has · (out s))).map (hopOf (out s))

/-- a valid list of links, as far as the ends go -/
structure Good (n p : Nat) (done : List Lnk) : Prop where
  range : ∀ k ∈ done, inr n p k = true ∧ k.x ≠ k.y
  pair : done.Pairwise fun j k => ¬ (has j k.x = true ∧ has j k.y = true) ∧ ∀ e, has j e = true → has k e = true → 0 ≤ k.pt ∧ j.pt = k.pt ∧ j.ps ≠ k.ps
  two : ∀ e, (done.filter (has · e)).length ≤ 2

theorem free_iff (done : List Lnk) (k : Lnk) (e : End) (h : free done k e = true) : (done.filter (has · e)).length ≤ 1 ∧ ∀ j ∈ done, has j e = true → 0 ≤ k.pt ∧ j.pt = k.pt ∧ j.ps ≠ k.ps := by
  unfold free at h
  match hf : done.filter (has · e), h with
  | [], _ =>
    refine ⟨by simp, fun j hj he => ?_⟩
    have : j ∈ done.filter (has · e) := List.mem_filter.2 ⟨hj, he⟩
    rw [hf] at this
    cases this
  | [o], h =>
    refine ⟨by simp, fun j hj he => ?_⟩
    have : j ∈ done.filter (has · e) := List.mem_filter.2 ⟨hj, he⟩
    rw [hf] at this
    simp at this
    subst this
    simp at h
    exact ⟨h.1.1, h.1.2, h.2⟩
  | _ :: _ :: _, h => simp at h
theorem linkErr_zero {n p : Nat} {done : List Lnk} {k : Lnk} (h : linkErr n p done k = 0) : inr n p k = true ∧ k.x ≠ k.y ∧ (∀ j ∈ done, ¬ (has j k.x = true ∧ has j k.y = true)) ∧ free done k k.x = true ∧ free done k k.y = true := by
  unfold linkErr at h
  split at h
  · omega
  · rename_i h1
    split at h
    · omega
    · rename_i h2
      split at h
      · omega
      · rename_i h3
        split at h
        · rename_i h4
          rw [Bool.and_eq_true] at h4
          refine ⟨by simpa using h1, h2, fun j hj hh => h3 ?_, h4.1, h4.2⟩
          rw [List.any_eq_true]
          exact ⟨j, hj, by rw [hh.1, hh.2]; rfl⟩
        · omega
theorem Good.snoc {n p : Nat} {done : List Lnk} {k : Lnk} (hg : Good n p done) (h : linkErr n p done k = 0) : Good n p (done ++ [k]) := by
  obtain ⟨h1, h2, h3, h4, h5⟩ := linkErr_zero h
  have f4 := free_iff done k _ h4
  have f5 := free_iff done k _ h5
  refine ⟨?_, ?_, ?_⟩
  · intro j hj
    rw [List.mem_append] at hj
    rcases hj with hj | hj
    · exact hg.range j hj
    · simp at hj; subst hj; exact ⟨h1, h2⟩
  · rw [List.pairwise_append]
    refine ⟨hg.pair, by simp, fun j hj x hx => ?_⟩
    simp at hx
    subst hx
    refine ⟨h3 j hj, fun e hje hke => ?_⟩
    rcases (has_iff x e).1 hke with rfl | rfl
    · exact f4.2 j hj hje
    · exact f5.2 j hj hje
  · intro e
    rw [List.filter_append, List.length_append]
    by_cases hke : has k e = true
    · have h6 : (List.filter (has · e) [k]).length = 1 := by simp [hke]
      rcases (has_iff k e).1 hke with rfl | rfl
      · have := f4.1; omega
      · have := f5.1; omega
    · have h6 : (List.filter (has · e) [k]).length = 0 := by simp [hke]
      have := hg.two e
      omega
theorem good_of {n p : Nat} : ∀ (r done : List Lnk), Good n p done → linksErr n p done r = 0 → Good n p (done ++ r)
  | [], done, hg, _ => by simpa using hg
  | k :: r, done, hg, h => by
    unfold linksErr at h
    split at h
    · rename_i h0
      have := good_of r (done ++ [k]) (hg.snoc h0) h
      simpa using this
    · rename_i h0; exact absurd h h0
theorem good_links (l : Lay) (h : check l = 0) : Good l.sections.length l.points.length l.links := by
  unfold check at h
  repeat' split at h
  all_goals first
    | omega
    | (have := good_of l.links [] ⟨nofun, List.Pairwise.nil, by simp⟩ h; simpa using this)
    | (exfalso; simp_all; done)

/-! ### how hops lead back -/

/-- an end that a valid link may have -/
def EndOK (e : End) : Prop := e.2 = 0 ∨ e.2 = 1
theorem out_rev_into (f : End) (h : EndOK f) : out (rev (into f)) = f := by
  obtain ⟨a, b⟩ := f
  rcases h with h | h <;> simp at h <;> subst h <;> rfl
theorem into_out (s : Step) (h : s.2 = 0 ∨ s.2 = 1) : into (out s) = rev s := by
  obtain ⟨a, b⟩ := s
  rcases h with h | h <;> simp at h <;> subst h <;> rfl
theorem into_inj (e f : End) (he : EndOK e) (hf : EndOK f) (h : into e = into f) : e = f := by
  obtain ⟨a, b⟩ := e
  obtain ⟨c, d⟩ := f
  rcases he with he | he <;> rcases hf with hf | hf <;> simp at he hf <;> subst he hf <;> simp [into] at h <;> simp [h]
theorem out_ok (s : Step) : EndOK (out s) := by
  unfold out EndOK
  split <;> simp
theorem inr_ends {n p : Nat} {k : Lnk} (h : inr n p k = true) : EndOK k.x ∧ EndOK k.y := by
  simp only [inr, Bool.and_eq_true, decide_eq_true_eq] at h
  unfold EndOK Lnk.x Lnk.y
  constructor <;> (simp only; omega)
theorem other_ok {n p : Nat} {k : Lnk} (h : inr n p k = true) (e : End) : EndOK (other k e) := by
  obtain ⟨h1, h2⟩ := inr_ends h
  unfold other
  split
  · exact h2
  · exact h1
/-- a link with two different ends of which e is one: the other one -/
theorem other_spec (k : Lnk) (e : End) (hne : k.x ≠ k.y) (he : has k e = true) : has k (other k e) = true ∧ other k e ≠ e ∧ other k (other k e) = e ∧ ∀ f, has k f = true → f = e ∨ f = other k e := by
  rcases (has_iff k e).1 he with rfl | rfl
  · have h1 : other k k.x = k.y := by simp [other]
    rw [h1]
    refine ⟨by simp [has], fun h => hne h.symm, by simp [other, hne], fun f hf => ?_⟩
    rcases (has_iff k f).1 hf with h | h
    · exact .inl h.symm
    · exact .inr h.symm
  · have h1 : other k k.y = k.x := by simp [other, hne]
    rw [h1]
    refine ⟨by simp [has], hne, by simp [other], fun f hf => ?_⟩
    rcases (has_iff k f).1 hf with h | h
    · exact .inr h.symm
    · exact .inl h.symm
/-- two links with the same two ends -/
theorem both_ends {j k : Lnk} {e f : End} (hef : e ≠ f) (h1 : has j e = true) (h2 : has j f = true) (h3 : has k e = true) (h4 : has k f = true) : has j k.x = true ∧ has j k.y = true := by
  rcases (has_iff k e).1 h3 with rfl | rfl <;> rcases (has_iff k f).1 h4 with rfl | rfl
  · exact absurd rfl hef
  · exact ⟨h1, h2⟩
  · exact ⟨h2, h1⟩
  · exact absurd rfl hef

theorem one_of_pairwise {α : Type} (q : α → Bool) : ∀ l : List α, (l.Pairwise fun j k => ¬ (q j = true ∧ q k = true)) → (l.filter q).length ≤ 1
  | [], _ => by simp
  | a :: l, h => by
    rw [List.pairwise_cons] at h
    have ih := one_of_pairwise q l h.2
    by_cases ha : q a = true
    · have : l.filter q = [] := by
        rw [List.filter_eq_nil_iff]
        exact fun b hb hqb => h.1 b hb ⟨ha, hqb⟩
      simp [ha, this]
    · simp [ha, ih]

theorem hops_two {n p : Nat} {ks : List Lnk} (hg : Good n p ks) (s : Step) : (hops ks s).length ≤ 2 := by
  unfold hops
  rw [List.length_map]
  exact hg.two _

/-- from a hop's step one hop leads back, through the same point in the same position -/
theorem hops_back {n p : Nat} {ks : List Lnk} (hg : Good n p ks) (s : Step) (hs : s.2 = 0 ∨ s.2 = 1) (h : Hop) (hh : h ∈ hops ks s) : ((hops ks (rev h.to)).filter fun b => decide (b = ⟨rev s, h.pt, h.ps⟩)).length = 1 := by
  unfold hops at hh
  rw [List.mem_map] at hh
  obtain ⟨k, hk, rfl⟩ := hh
  rw [List.mem_filter] at hk
  obtain ⟨hk1, hk2⟩ := hk
  obtain ⟨hr, hne⟩ := hg.range k hk1
  obtain ⟨o1, o2, o3, o4⟩ := other_spec k (out s) hne hk2
  have hok := other_ok hr (out s)
  have ht : out (rev (hopOf (out s) k).to) = other k (out s) := out_rev_into _ hok
  have hback : hopOf (other k (out s)) k = ⟨rev s, k.pt, k.ps⟩ := by
    unfold hopOf
    rw [o3, into_out s hs]
  unfold hops
  rw [ht, List.filter_map, List.length_map, List.filter_filter]
  have hmem : k ∈ ks.filter (fun a => ((fun b => decide (b = (⟨rev s, k.pt, k.ps⟩ : Hop))) ∘ hopOf (other k (out s))) a && has a (other k (out s))) := by
    rw [List.mem_filter]
    refine ⟨hk1, ?_⟩
    simp only [Function.comp, hback, decide_true, o1, Bool.and_self]
  have hle := one_of_pairwise (fun a => ((fun b => decide (b = (⟨rev s, k.pt, k.ps⟩ : Hop))) ∘ hopOf (other k (out s))) a && has a (other k (out s))) ks (List.Pairwise.imp_of_mem (fun {i j} hi hj hp => ?_) hg.pair)
  · have : 0 < (ks.filter (fun a => ((fun b => decide (b = (⟨rev s, k.pt, k.ps⟩ : Hop))) ∘ hopOf (other k (out s))) a && has a (other k (out s)))).length := List.length_pos_of_mem hmem
    exact Nat.le_antisymm hle this
  · rintro ⟨q1, q2⟩
    simp only [Function.comp, Bool.and_eq_true, decide_eq_true_eq] at q1 q2
    have back : ∀ m ∈ ks, hopOf (other k (out s)) m = ⟨rev s, k.pt, k.ps⟩ → has m (other k (out s)) = true → has m (out s) = true := by
      intro m hm hq hmf
      obtain ⟨hr', hne'⟩ := hg.range m hm
      obtain ⟨p1, p2, p3, p4⟩ := other_spec m _ hne' hmf
      have hto : into (other m (other k (out s))) = rev s := congrArg Hop.to hq
      rw [← into_out s hs] at hto
      have := into_inj _ _ (other_ok hr' _) (out_ok s) hto
      rw [this] at p1
      exact p1
    exact hp.1 (both_ends (fun e => o2 e.symm) (back i hi q1.1 q1.2) q1.2 (back j hj q2.1 q2.2) q2.2)

/-- two hops of a step lead to different steps, through one point in different positions -/
theorem hops_differ {n p : Nat} {ks : List Lnk} (hg : Good n p ks) (s : Step) (h0 h1 : Hop) (r : List Hop) (h : hops ks s = h0 :: h1 :: r) : h0.to ≠ h1.to ∧ h0.pt = h1.pt ∧ 0 ≤ h0.pt ∧ h0.ps ≠ h1.ps := by
  unfold hops at h
  match hf : ks.filter (has · (out s)), h with
  | k0 :: k1 :: t, h =>
    simp only [List.map_cons, List.cons.injEq] at h
    obtain ⟨rfl, rfl, _⟩ := h
    have hsub : List.Sublist [k0, k1] ks := by
      have h1 : List.Sublist (k0 :: k1 :: t) ks := hf ▸ List.filter_sublist
      exact List.Sublist.trans (by simp) h1
    have hp : _ := (hg.pair.sublist hsub)
    rw [List.pairwise_cons] at hp
    have hp := hp.1 k1 (by simp)
    have m0 : k0 ∈ ks.filter (has · (out s)) := by rw [hf]; simp
    have m1 : k1 ∈ ks.filter (has · (out s)) := by rw [hf]; simp
    rw [List.mem_filter] at m0 m1
    obtain ⟨c1, c2, c3⟩ := hp.2 _ m0.2 m1.2
    refine ⟨fun e => ?_, c2, by show 0 ≤ k0.pt; omega, c3⟩
    obtain ⟨r0, n0⟩ := hg.range k0 m0.1
    obtain ⟨r1, n1⟩ := hg.range k1 m1.1
    obtain ⟨o1, o2, _, _⟩ := other_spec k0 _ n0 m0.2
    obtain ⟨p1, p2, _, _⟩ := other_spec k1 _ n1 m1.2
    have he := into_inj _ _ (other_ok r0 _) (other_ok r1 _) e
    rw [he] at o1
    exact hp.1 (both_ends (fun e => p2 e.symm) m0.2 o1 m1.2 p1)

end Go.Proofs.YtnfelcjpjodjhaaGreat.Lay

namespace Go.Proofs.YtnfelcjpjodjhaaGreat.Small
open Go.ChangeShapes Go.WideShapes Go.ChangeAt Go.RowKit Wd
set_option linter.unusedVariables false

theorem below_draws {B : Nat} {a w : World} (h : Below B a w) (n : Nat) : Below B a (w.drewN n) := ⟨h.os, h.tape, h.output, h.size, h.block⟩
theorem retb {a b : Bool} (h : a = b) : Ending.returned (.bool a) = Ending.returned (.bool b) := by rw [h]
theorem ret1 {a b : Int} (h : a = b) : Ending.returned (.int .i64 a) = Ending.returned (.int .i64 b) := by rw [h]

/-- what a call leaves that answers one bool and changes nothing -/
def Says (b : Bool) (w : World) (e : Ending) (w' : World) : Prop := e = .returned (.bool b) ∧ w = w'

theorem p_letter (b : UInt8) (w : World) : Calls Tryz.prog 122 #[.int .u8 b.toNat] w (Says (letter b) w) := by
  have h0 := b.toNat_lt
  have E : Hid (letter b = ((decide (97 ≤ (b.toNat : Int)) && decide ((b.toNat : Int) ≤ 122)) || (decide (65 ≤ (b.toNat : Int)) && decide ((b.toNat : Int) ≤ 90)))) := by simp only [Hid, letter]; congr 2 <;> (congr 1; simp; omega)
  go_enter Tryz.func122, Tryz.ntmps122
  go_wp2
  all_goals go_ret
  all_goals exact ⟨retb (by rw [E.out, Bool.eq_iff_iff]; simp; omega), rfl⟩
theorem p_digit (b : UInt8) (w : World) : Calls Tryz.prog 123 #[.int .u8 b.toNat] w (Says (digit b) w) := by
  have h0 := b.toNat_lt
  have E : Hid (digit b = (decide (48 ≤ (b.toNat : Int)) && decide ((b.toNat : Int) ≤ 57))) := by simp only [Hid, digit]; congr 1 <;> (simp; try omega)
  go_enter Tryz.func123, Tryz.ntmps123
  go_wp2
  all_goals go_ret
  all_goals exact ⟨retb (by rw [E.out, Bool.eq_iff_iff]; simp; omega), rfl⟩
theorem r_letter (b : UInt8) (w : World) : Calls Tryz.prog 115 #[.int .u8 b.toNat] w (Says (letter b) w) := by
  have h0 := b.toNat_lt
  have E : Hid (letter b = ((decide (97 ≤ (b.toNat : Int)) && decide ((b.toNat : Int) ≤ 122)) || (decide (65 ≤ (b.toNat : Int)) && decide ((b.toNat : Int) ≤ 90)))) := by simp only [Hid, letter]; congr 2 <;> (congr 1; simp; omega)
  go_enter Tryz.func115, Tryz.ntmps115
  go_wp2
  all_goals go_ret
  all_goals exact ⟨retb (by rw [E.out, Bool.eq_iff_iff]; simp; omega), rfl⟩
theorem r_digit (b : UInt8) (w : World) : Calls Tryz.prog 116 #[.int .u8 b.toNat] w (Says (digit b) w) := by
  have h0 := b.toNat_lt
  have E : Hid (digit b = (decide (48 ≤ (b.toNat : Int)) && decide ((b.toNat : Int) ≤ 57))) := by simp only [Hid, digit]; congr 1 <;> (simp; try omega)
  go_enter Tryz.func116, Tryz.ntmps116
  go_wp2
  all_goals go_ret
  all_goals exact ⟨retb (by rw [E.out, Bool.eq_iff_iff]; simp; omega), rfl⟩
theorem r_plain (b : UInt8) (w : World) : Calls Tryz.prog 93 #[.int .u8 b.toNat] w (Says (plain b) w) := by
  have h0 := b.toNat_lt
  have E : Hid (plain b = (decide (33 ≤ (b.toNat : Int)) && decide ((b.toNat : Int) ≤ 126) && !decide ((b.toNat : Int) = 35))) := by simp only [Hid, plain]; congr 2 <;> (simp; try omega)
  go_enter Tryz.func93, Tryz.ntmps93
  go_wp2
  all_goals go_ret
  all_goals exact ⟨retb (by rw [E.out, Bool.eq_iff_iff]; simp; omega), rfl⟩

/-- the program's class of a byte -/
def cls (b : UInt8) : Int := if space b then 1 else if b.toNat = 35 then 2 else if plain b then 3 else 0

theorem isName_drop (s : ByteArray) (h1 : 1 ≤ s.size) (h2 : s.size ≤ 12) : isName (bs s) = (letter s[0] && ((bs s).drop 1).all later) := by
  have e := bs_drop s 0 (by omega)
  rw [List.drop_zero] at e
  have hl := bs_length s
  rw [e] at hl
  rw [e]
  simp only [isName]
  have : ((bs s).drop (0 + 1)).length ≤ 11 := by simp only [List.length_cons] at hl; omega
  simp only [decide_eq_true this, Bool.true_and, List.drop_succ_cons, List.drop_zero]
theorem isName_no (s : ByteArray) (h : ¬ (1 ≤ s.size ∧ s.size ≤ 12)) : isName (bs s) = false := by
  have hl := bs_length s
  match hb : bs s with
  | [] => rfl
  | b :: r =>
    rw [hb] at hl
    simp only [List.length_cons] at hl
    have : ¬ r.length ≤ 11 := by omega
    simp [isName, this]

theorem later_eq (b : UInt8) (hl : letter b = false) (hd : digit b = false) : later b = decide ((b.toNat : Int) = 95) := by
  simp [later, hl, hd, under]; omega

end Go.Proofs.YtnfelcjpjodjhaaGreat.Small

namespace Go.Proofs.YtnfelcjpjodjhaaGreat.Bytes
open Go.ChangeShapes Go.WideShapes Go.ChangeAt Go.RowKit Wd Small Lin
set_option linter.unusedVariables false

theorem cls_foreign (b : UInt8) : (cls b == 0) = foreign b := by
  unfold cls foreign
  cases h1 : space b <;> cases h2 : plain b <;> by_cases h3 : b.toNat = 35 <;> simp [h3]
theorem cls_plain (b : UInt8) : (cls b == 3) = plain b := by
  unfold cls
  cases h1 : space b <;> cases h2 : plain b <;> by_cases h3 : b.toNat = 35 <;> simp [h3]
  all_goals simp [space, plain] at h1 h2
  all_goals omega
theorem cls_space (b : UInt8) : (cls b == 1) = space b := by
  unfold cls
  cases h1 : space b <;> cases h2 : plain b <;> by_cases h3 : b.toNat = 35 <;> simp [h3]

theorem any_next (s : ByteArray) (k : Nat) (f : UInt8 → Bool) (hk : k < s.size) : ((bs s).drop k).any f = (f s[k] || ((bs s).drop (k + 1)).any f) := by
  rw [bs_drop s k hk]; rfl
theorem tw_next (s : ByteArray) (k : Nat) (hk : k < s.size) : ((bs s).drop k).takeWhile plain = if plain s[k] then s[k] :: ((bs s).drop (k + 1)).takeWhile plain else [] := by
  rw [bs_drop s k hk, List.takeWhile_cons]
def endOf (s : ByteArray) (j : Nat) : Nat := j + (((bs s).drop j).takeWhile plain).length
theorem end_next (s : ByteArray) (k : Nat) (hk : k < s.size) (hp : plain s[k] = true) : endOf s k = endOf s (k + 1) := by
  unfold endOf
  rw [tw_next s k hk, hp]
  simp only [if_true, List.length_cons]; omega
theorem end_stop (s : ByteArray) (k : Nat) (hk : k < s.size) (hp : plain s[k] = false) : endOf s k = k := by
  unfold endOf
  rw [tw_next s k hk, hp]
  simp
theorem end_end (s : ByteArray) (k : Nat) (hk : s.size ≤ k) : endOf s k = k := by
  unfold endOf
  rw [bs_drop_nil s k hk]
  simp
theorem end_le (s : ByteArray) (k : Nat) (hk : k ≤ s.size) : k ≤ endOf s k ∧ endOf s k ≤ s.size := by
  unfold endOf
  have h1 : (((bs s).drop k).takeWhile plain).length ≤ ((bs s).drop k).length := List.Sublist.length_le (List.takeWhile_sublist _)
  rw [List.length_drop, bs_length] at h1
  omega

/-- is it a word -/
def isWord (l : Bs) : Bool := !l.isEmpty && l.all plain
theorem word_end (s : ByteArray) : ∀ n j, j + n = s.size → (endOf s j == s.size) = ((bs s).drop j).all plain
  | 0, j, h => by
    rw [end_end s j (by omega), bs_drop_nil s j (by omega)]
    simp; omega
  | n + 1, j, h => by
    have hj : j < s.size := by omega
    rw [bs_drop s j hj, List.all_cons]
    cases hp : plain s[j] with
    | true =>
      rw [end_next s j hj hp, Bool.true_and]
      exact word_end s n (j + 1) (by omega)
    | false =>
      rw [end_stop s j hj hp]
      simp; omega
theorem isWord_eq (s : ByteArray) (h : 0 < s.size) : isWord (bs s) = ((endOf s 0 : Int) == (s.size : Int)) := by
  have h1 := word_end s s.size 0 (by omega)
  rw [List.drop_zero] at h1
  have h2 : (bs s).isEmpty = false := by
    have := bs_length s
    cases hb : bs s with
    | nil => rw [hb] at this; simp at this; omega
    | cons _ _ => rfl
  unfold isWord
  rw [h2, ← h1, Bool.eq_iff_iff]
  simp only [Bool.not_false, Bool.true_and, beq_iff_eq]
  omega
end Go.Proofs.YtnfelcjpjodjhaaGreat.Bytes

namespace Go.Proofs.YtnfelcjpjodjhaaGreat.Strs
open Go.RowKit Wd Lin Mem Bytes

/-- the slice of n elements at A reads as the list of strings L, below block B -/
def Row (w : World) (B : Nat) (A : Option Addr) (n : Nat) (L : List ByteArray) : Prop :=
  L.length = n ∧ ∀ j s, L[j]? = some s → ∃ ad, A = some ad ∧ ad.block < B ∧ w.cell? (ad.add j) = some (.string s)
/-- the slice of n elements at A reads as the list of lists LL, below block B -/
def Grid (w : World) (B : Nat) (A : Option Addr) (n : Nat) (LL : List (List ByteArray)) : Prop :=
  LL.length = n ∧ ∀ j L, LL[j]? = some L → ∃ ad A1 c1, A = some ad ∧ ad.block < B ∧ w.cell? (ad.add j) = some (.slice A1 L.length c1) ∧ Row w B A1 L.length L ∧ L.length ≤ c1 ∧ c1 ≤ 9223372036854775807

section
variable {w w' : World} {B B' n : Nat} {A : Option Addr} {L : List ByteArray} {LL : List (List ByteArray)}
theorem Row.below (h : Row w B A n L) (hb : Below B w w') : Row w' B A n L := ⟨h.1, fun j s hs => by
  obtain ⟨ad, e, h1, h2⟩ := h.2 j s hs
  exact ⟨ad, e, h1, (hb.cell (by rw [Mem.block_add]; exact h1)).trans h2⟩⟩
theorem Row.more (h : Row w B A n L) (hB : B ≤ B') : Row w B' A n L := ⟨h.1, fun j s hs => by
  obtain ⟨ad, e, h1, h2⟩ := h.2 j s hs
  exact ⟨ad, e, by omega, h2⟩⟩
theorem Row.load {k : Nat} (h : Row w B A n L) (hk : k < n) : ∃ ad s, A = some ad ∧ ad.block < B ∧ L[k]? = some s ∧ w.cell? (ad.add k) = some (.string s) := by
  have hk' : k < L.length := by have := h.1; omega
  obtain ⟨ad, e, h1, h2⟩ := h.2 k _ (List.getElem?_eq_getElem hk')
  exact ⟨ad, _, e, h1, List.getElem?_eq_getElem hk', h2⟩
theorem Grid.below (h : Grid w B A n LL) (hb : Below B w w') : Grid w' B A n LL := ⟨h.1, fun j L hs => by
  obtain ⟨ad, A1, c1, e, h1, h2, h3, h4⟩ := h.2 j L hs
  exact ⟨ad, A1, c1, e, h1, (hb.cell (by rw [Mem.block_add]; exact h1)).trans h2, h3.below hb, h4⟩⟩
theorem Grid.more (h : Grid w B A n LL) (hB : B ≤ B') : Grid w B' A n LL := ⟨h.1, fun j L hs => by
  obtain ⟨ad, A1, c1, e, h1, h2, h3, h4⟩ := h.2 j L hs
  exact ⟨ad, A1, c1, e, by omega, h2, h3.more hB, h4⟩⟩
theorem Grid.load {k : Nat} (h : Grid w B A n LL) (hk : k < n) : ∃ ad L A1 c1, A = some ad ∧ ad.block < B ∧ LL[k]? = some L ∧ w.cell? (ad.add k) = some (.slice A1 L.length c1) ∧ Row w B A1 L.length L ∧ L.length ≤ c1 ∧ c1 ≤ 9223372036854775807 := by
  have hk' : k < LL.length := by have := h.1; omega
  obtain ⟨ad, A1, c1, e, h1, h2⟩ := h.2 k _ (List.getElem?_eq_getElem hk')
  exact ⟨ad, _, A1, c1, e, h1, List.getElem?_eq_getElem hk', h2⟩
end

theorem drop_at {α : Type} {L : List α} {k : Nat} {s : α} (h : L[k]? = some s) : L.drop k = s :: L.drop (k + 1) := by
  have hk := (List.getElem?_eq_some_iff.1 h).1
  have e := (List.getElem?_eq_some_iff.1 h).2
  rw [List.drop_eq_getElem_cons hk, e]

/-! ### joining -/

def okL (L : List ByteArray) : Bool := decide (1 ≤ L.length) && decide (L.length ≤ 64) && L.all fun s => isWord (bs s)
def sj : Bool → List ByteArray → Bs
  | _, [] => []
  | f, s :: r => (if f then [] else [32]) ++ (bs s ++ sj false r)
def jt : List (List ByteArray) → Bs
  | [] => []
  | L :: r => sj true L ++ 10 :: jt r
def joinT (LL : List (List ByteArray)) : Bs := if LL.all okL then jt LL else []

def wt : List ByteArray → Nat
  | [] => 0
  | s :: r => s.size + 1 + wt r
def wtL : List (List ByteArray) → Nat
  | [] => 0
  | L :: r => wt L + 1 + wtL r

/-- what is left to join, behind the text acc: the lines LL -/
def Todo (T acc : Bs) (LL : List (List ByteArray)) (N : Nat) : Prop := T = (if LL.all okL then acc ++ jt LL else []) ∧ acc.length + wtL LL ≤ N
/-- what is left to join, behind the text acc: the words L of a line (f: none of it is written yet), then the lines LL -/
def TodoIn (T acc : Bs) (f : Bool) (L : List ByteArray) (LL : List (List ByteArray)) (N : Nat) : Prop :=
  T = (if (L.all (fun s => isWord (bs s)) && LL.all okL) = true then acc ++ (sj f L ++ 10 :: jt LL) else []) ∧ acc.length + wt L + 1 + wtL LL ≤ N

theorem Todo.bad {T acc : Bs} {L : List ByteArray} {LL : List (List ByteArray)} {N : Nat} (h : Todo T acc (L :: LL) N) (hl : ¬ (1 ≤ L.length ∧ L.length ≤ 64)) : T = [] := by
  have : okL L = false := by
    unfold okL
    by_cases h1 : 1 ≤ L.length
    · have h2 : ¬ L.length ≤ 64 := fun e => hl ⟨h1, e⟩
      simp [h2]
    · simp [h1]
  rw [h.1, List.all_cons, this]; rfl
theorem Todo.inside {T acc : Bs} {L : List ByteArray} {LL : List (List ByteArray)} {N : Nat} (h : Todo T acc (L :: LL) N) (h1 : 1 ≤ L.length) (h2 : L.length ≤ 64) : TodoIn T acc true L LL N := by
  refine ⟨?_, by have := h.2; simp only [wtL] at this; omega⟩
  rw [h.1, List.all_cons]
  unfold okL
  rw [decide_eq_true h1, decide_eq_true h2]
  simp only [Bool.true_and, jt]
theorem TodoIn.bad {T acc : Bs} {f : Bool} {s : ByteArray} {L : List ByteArray} {LL : List (List ByteArray)} {N : Nat} (h : TodoIn T acc f (s :: L) LL N) (hs : isWord (bs s) = false) : T = [] := by
  rw [h.1, List.all_cons, hs]; rfl
theorem TodoIn.next {T acc : Bs} {f : Bool} {s : ByteArray} {L : List ByteArray} {LL : List (List ByteArray)} {N : Nat} (h : TodoIn T acc f (s :: L) LL N) (hs : isWord (bs s) = true) :
    TodoIn T (acc ++ ((if f then [] else [32]) ++ bs s)) false L LL N := by
  refine ⟨?_, ?_⟩
  · rw [h.1, List.all_cons, hs, Bool.true_and]
    simp only [sj, List.append_assoc]
  · have := h.2
    simp only [wt] at this
    have hl : ((if f then [] else [32] : Bs)).length ≤ 1 := by cases f <;> simp
    rw [List.length_append, List.length_append, bs_length]; omega
theorem TodoIn.done {T acc : Bs} {f : Bool} {LL : List (List ByteArray)} {N : Nat} (h : TodoIn T acc f [] LL N) : Todo T (acc ++ [10]) LL N := by
  refine ⟨?_, ?_⟩
  · rw [h.1]
    simp only [List.all_nil, Bool.true_and, sj, List.nil_append, List.append_assoc, List.singleton_append]
  · have := h.2
    simp only [wt] at this
    rw [List.length_append]; simp; omega
theorem Todo.done {T acc : Bs} {N : Nat} (h : Todo T acc [] N) : T = acc := by
  rw [h.1]; simp [jt]
theorem Todo.start (LL : List (List ByteArray)) (N : Nat) (h : wtL LL ≤ N) : Todo (joinT LL) [] LL N := ⟨rfl, by simpa using h⟩
end Go.Proofs.YtnfelcjpjodjhaaGreat.Strs

namespace Go.Proofs.YtnfelcjpjodjhaaGreat.Recs
open Go.RowKit Wd Mem Lay
set_option linter.unusedVariables false

/-- how the elements of a slice lie in memory -/
structure Rec (α : Type) where
  e : TypeId
  k : Nat
  cells : α → List Value
  pos : 0 < k
  len : ∀ a, (cells a).length = k
  one : ∀ a, ∀ u ∈ cells a, u.oneCell' = true

section
variable {α : Type} {R : Rec α}
def Rec.cs (R : Rec α) (L : List α) : List Value := L.flatMap R.cells
theorem cs_length (L : List α) : (R.cs L).length = L.length * R.k := by
  induction L with
  | nil => simp [Rec.cs]
  | cons a L ih => simp only [Rec.cs, List.flatMap_cons, List.length_append, R.len, List.length_cons] at ih ⊢; rw [ih, Nat.add_mul]; omega
theorem cs_append (L M : List α) : R.cs (L ++ M) = R.cs L ++ R.cs M := by simp [Rec.cs]
theorem cs_single (a : α) : R.cs [a] = R.cells a := by simp [Rec.cs]
theorem cs_get (L : List α) : ∀ (i j : Nat), j < R.k → (R.cs L)[i * R.k + j]? = L[i]?.bind fun a => (R.cells a)[j]? := by
  induction L with
  | nil => intro i j _; simp [Rec.cs]
  | cons a L ih =>
    intro i j hj
    cases i with
    | zero =>
      simp only [Rec.cs, List.flatMap_cons, Nat.zero_mul, Nat.zero_add, List.getElem?_cons_zero, Option.bind_some]
      rw [List.getElem?_append_left (by rw [R.len]; exact hj)]
    | succ i =>
      have h := ih i j hj
      simp only [Rec.cs, List.flatMap_cons, List.getElem?_cons_succ] at h ⊢
      rw [List.getElem?_append_right (by rw [R.len, Nat.add_mul]; omega), R.len, ← h]
      congr 1
      rw [Nat.add_mul]; omega
theorem cs_one (L : List α) : ∀ u ∈ R.cs L, u.oneCell' = true := by
  intro u hu
  obtain ⟨a, _, h⟩ := List.mem_flatMap.1 hu
  exact R.one a u h

/-- the slice of n elements at A reads as the list L, below block B -/
def Rd (R : Rec α) (w : World) (B : Nat) (A : Option Addr) (n : Nat) (L : List α) : Prop := L.length = n ∧ At w B A (R.cs L)
/-- the slice value v of n elements is the call's own, and reads as the list L -/
def Own (R : Rec α) (w : World) (base : Nat) (v : Value) (n : Nat) (L : List α) : Prop := L.length = n ∧ w.ownsRow base R.e R.k v n (R.cs L)

variable {w w' : World} {B B' n : Nat} {A : Option Addr} {L : List α}
theorem Rd.nil (w : World) (B : Nat) (A : Option Addr) : Rd R w B A 0 [] := ⟨rfl, by intro j u h; simp [Rec.cs] at h⟩
theorem Rd.below (h : Rd R w B A n L) (hb : Below B w w') : Rd R w' B A n L := ⟨h.1, h.2.below hb⟩
theorem Rd.more (h : Rd R w B A n L) (hB : B ≤ B') : Rd R w B' A n L := ⟨h.1, h.2.more hB⟩
theorem Rd.keep (h : Rd R w B A n L) (hk : ∀ p : Addr, p.block < B → w'.cell? p = w.cell? p) : Rd R w' B A n L := ⟨h.1, h.2.keep hk⟩
theorem Rd.grow (h : Rd R w B A n L) (hb : Below B w w') (hB : B ≤ B') : Rd R w' B' A n L := (h.below hb).more hB
theorem Rd.drewN (h : Rd R w B A n L) (k : Nat) : Rd R (w.drewN k) B A n L := h
theorem Rd.at_ {i : Nat} (h : Rd R w B A n L) (hi : i < n) : ∃ ad a, A = some ad ∧ ad.block < B ∧ L[i]? = some a ∧ ∀ j u, (R.cells a)[j]? = some u → w.cell? (ad.add (i * R.k + j)) = some u := by
  have hi' : i < L.length := by have := h.1; omega
  have e : L[i]? = some L[i] := List.getElem?_eq_getElem hi'
  have hz := R.pos
  have hg : ∀ j u, (R.cells L[i])[j]? = some u → ∃ ad, A = some ad ∧ ad.block < B ∧ w.cell? (ad.add (i * R.k + j)) = some u := fun j u hu => by
    have hj : j < R.k := by rw [← R.len L[i]]; exact (List.getElem?_eq_some_iff.1 hu).1
    exact h.2 (i * R.k + j) u (by rw [cs_get _ _ _ hj, e]; exact hu)
  have h0 : (R.cells L[i])[0]? = some ((R.cells L[i])[0]'(by rw [R.len]; exact hz)) := List.getElem?_eq_getElem _
  obtain ⟨ad, e1, hb, _⟩ := hg 0 _ h0
  refine ⟨ad, _, e1, hb, e, fun j u hu => ?_⟩
  obtain ⟨ad', e2, _, h2⟩ := hg j u hu
  rw [e1] at e2
  cases e2
  exact h2
theorem Own.form {base : Nat} {v : Value} (h : Own R w base v n L) : ∃ A c, v = .slice A n c ∧ n ≤ c ∧ c ≤ maxLen := by
  rcases h.2.2 with ⟨rfl, rfl⟩ | ⟨g, cap, cur, rfl, _, _, hc, hm, _⟩
  · exact ⟨none, 0, rfl, Nat.le_refl _, Nat.zero_le _⟩
  · exact ⟨_, cap, rfl, hc, hm⟩
theorem Own.rd {base c : Nat} (h : Own R w base (.slice A n c) n L) : Rd R w w.heap.size A n L := by
  refine ⟨h.1, fun j u hu => ?_⟩
  have hl : j < L.length * R.k := by rw [← cs_length (R := R)]; exact (List.getElem?_eq_some_iff.1 hu).1
  rcases h.2.2 with ⟨e, rfl⟩ | ⟨g, cap, cur, e, _, hh, _⟩
  · have h1 := h.1; rw [h1] at hl; omega
  · have hA : A = some ⟨g, 0, none⟩ := by injection e
    subst hA
    exact ⟨_, rfl, lt_of_block hh, h.2.cells (g := g) rfl j u hu⟩
theorem Own.alloc {base : Nat} {v : Value} (h : Own R w base v n L) (o : Obj) : Own R (w.alloc o) base v n L := ⟨h.1, h.2.alloc o⟩
theorem Own.drewN {base : Nat} {v : Value} (h : Own R w base v n L) (k : Nat) : Own R (w.drewN k) base v n L := h
theorem Own.grown {base : Nat} {v : Value} {row : Option Nat} (h : Own R w base v n L) (hg : w.grownBy w' row) (hne : v.ownBlock = none ∨ v.ownBlock ≠ row) : Own R w' base v n L := ⟨h.1, h.2.kept hg hne⟩
theorem Own.below {base : Nat} {v : Value} (h : Own R w base v n L) (hb : Below B w w') (hB : w.heap.size ≤ B) : Own R w' base v n L :=
  ⟨h.1, h.2.kept (row := none) ⟨hb.os, hb.tape, hb.output, hb.size, fun k hk _ => hb.block k (by omega)⟩ (by
    cases hv : v.ownBlock with
    | none => exact .inl rfl
    | some g => exact .inr (by simp))⟩
theorem Own.base_ {base base' : Nat} {v : Value} (h : Own R w base v n L) (hB : base' ≤ base) : Own R w base' v n L := by
  refine ⟨h.1, h.2.1, ?_⟩
  rcases h.2.2 with hh | ⟨g, cap, cur, e, hb, hr⟩
  · exact .inl hh
  · exact .inr ⟨g, cap, cur, e, by omega, hr⟩
theorem Own.nil (w : World) (base : Nat) : Own R w base (.slice none 0 0) 0 [] := ⟨rfl, by simpa [Rec.cs] using World.ownsRow_nil w base R.e R.k⟩
theorem Own.push {base : Nat} {v : Value} {a : α} (hl : L.length = n) (h : w.ownsRow base R.e R.k v (n + 1) (R.cs L ++ R.cells a)) : Own R w base v (n + 1) (L ++ [a]) :=
  ⟨by simp [hl], by rw [cs_append, cs_single]; exact h⟩
theorem Own.ne_nil {base c : Nat} (h : Own R w base (.slice A n c) n L) (hn : 0 < n) : ∃ g, A = some ⟨g, 0, none⟩ ∧ base ≤ g ∧ g < w.heap.size := by
  rcases h.2.2 with ⟨_, e⟩ | ⟨g, cap, cur, e, hb, hh, _⟩
  · omega
  · injection e with e1
    exact ⟨g, e1, hb, lt_of_block hh⟩
/-- behind the append of one element to a list of the call's own -/
theorem appended {B cc : Nat} {w wr w1 : World} {v : Value} {a : α} {o : Obj} (hbw : Below B w wr) (hB : B ≤ wr.heap.size) (hl : L.length = n) (hown : wr.ownsRow B R.e R.k (.slice A n cc) n (R.cs L))
    (hown' : w1.ownsRow B R.e R.k v (n + 1) (R.cs L ++ R.cells a)) (hgrow : (wr.alloc o).grownBy w1 (Value.slice A n cc).ownBlock) :
    ∃ A' c', v = .slice A' (n + 1) c' ∧ Own R w1 B (.slice A' (n + 1) c') (n + 1) (L ++ [a]) ∧ Below B w w1 := by
  have h := Own.push hl hown'
  obtain ⟨A', c', rfl, _⟩ := h.form
  refine ⟨A', c', rfl, h, ?_⟩
  exact (hbw.alloc hB _).grown hgrow (by simp; omega) (fun k hk => (hown.lt k hk).1)
/-- two rows of different element types lie in different blocks -/
theorem ne_row {β : Type} {S : Rec β} {base base' m : Nat} {v u : Value} {M : List β} {g : Nat} (he : R.e ≠ S.e) (h : Own R w base v n L) (h' : Own S w base' u m M) (hg : u.ownBlock = some g) : v.ownBlock ≠ some g := by
  rcases h.2.2 with ⟨rfl, _⟩ | ⟨g1, cap, cur, rfl, _, hh, _⟩
  · simp [Value.ownBlock]
  · rcases h'.2.2 with ⟨rfl, _⟩ | ⟨g2, cap2, cur2, rfl, _, hh2, _⟩
    · simp [Value.ownBlock] at hg
    · simp [Value.ownBlock] at hg ⊢
      rintro rfl
      subst hg
      rw [hh] at hh2
      injection hh2 with hh2
      injection hh2 with _ ht
      exact absurd ht he
end

/-! ### names, numbers, sections, links, hops -/

theorem one_cell (x : Value) (hx : x.oneCell' = true) : ∀ u ∈ [x], u.oneCell' = true := by
  intro u hu
  simp only [List.mem_cons, List.not_mem_nil, or_false] at hu
  subst hu; exact hx
/-- names -/
def sR : Rec Bs := ⟨9, 1, fun s => [.string (str s)], by decide, fun _ => rfl, fun _ => one_cell _ rfl⟩
/-- numbers -/
def iR : Rec Int := ⟨3, 1, fun s => [.int .i64 s], by decide, fun _ => rfl, fun _ => one_cell _ rfl⟩
def secCells (s : Sec) : List Value := [.string (str s.name), .int .i64 s.len, .int .i64 s.lim, .int .i64 s.grade, .int .i64 s.st]
def secR : Rec Sec := ⟨81, 5, secCells, by decide, fun _ => rfl, fun s u hu => by
  simp only [secCells, List.mem_cons, List.not_mem_nil, or_false] at hu
  rcases hu with rfl | rfl | rfl | rfl | rfl <;> rfl⟩
def lnkCells (k : Lnk) : List Value := [.int .i64 k.a, .int .i64 k.ae, .int .i64 k.b, .int .i64 k.be, .int .i64 k.pt, .int .i64 k.ps]
def lnkR : Rec Lnk := ⟨106, 6, lnkCells, by decide, fun _ => rfl, fun s u hu => by
  simp only [lnkCells, List.mem_cons, List.not_mem_nil, or_false] at hu
  rcases hu with rfl | rfl | rfl | rfl | rfl | rfl <;> rfl⟩
def hopCells (h : Hop) : List Value := [.int .i64 h.to.1, .int .i64 h.to.2, .int .i64 h.pt, .int .i64 h.ps]
def hopR : Rec Hop := ⟨70, 4, hopCells, by decide, fun _ => rfl, fun s u hu => by
  simp only [hopCells, List.mem_cons, List.not_mem_nil, or_false] at hu
  rcases hu with rfl | rfl | rfl | rfl <;> rfl⟩

section
variable {w w' : World} {B B' n : Nat} {A : Option Addr}
theorem loadS {L : List Bs} {i : Nat} (h : Rd sR w B A n L) (hi : i < n) : ∃ ad s, A = some ad ∧ ad.block < B ∧ L[i]? = some s ∧ w.cell? (ad.add i) = some (.string (str s)) := by
  obtain ⟨ad, a, e1, hb, e, hc⟩ := h.at_ hi
  refine ⟨ad, a, e1, hb, e, ?_⟩
  have := hc 0 (.string (str a)) rfl
  rw [show i * sR.k + 0 = i by show i * 1 + 0 = i; omega] at this
  exact this
theorem loadI {L : List Int} {i : Nat} (h : Rd iR w B A n L) (hi : i < n) : ∃ ad s, A = some ad ∧ ad.block < B ∧ L[i]? = some s ∧ w.cell? (ad.add i) = some (.int .i64 s) := by
  obtain ⟨ad, a, e1, hb, e, hc⟩ := h.at_ hi
  refine ⟨ad, a, e1, hb, e, ?_⟩
  have := hc 0 (.int .i64 a) rfl
  rw [show i * iR.k + 0 = i by show i * 1 + 0 = i; omega] at this
  exact this
/-- the section at i, as the walk loads it: its first cell and the ones behind it -/
theorem loadSec {L : List Sec} {i : Nat} (h : Rd secR w B A n L) (hi : i < n) : ∃ ad s, A = some ad ∧ ad.block < B ∧ L[i]? = some s ∧ w.cell? (ad.add (i * 5)) = some (.string (str s.name)) ∧
    w.cell? ⟨(ad.add (i * 5)).block, (ad.add (i * 5)).off + 1, none⟩ = some (.int .i64 s.len) ∧ w.cell? ⟨(ad.add (i * 5)).block, (ad.add (i * 5)).off + 2, none⟩ = some (.int .i64 s.lim) ∧
    w.cell? ⟨(ad.add (i * 5)).block, (ad.add (i * 5)).off + 3, none⟩ = some (.int .i64 s.grade) ∧ w.cell? ⟨(ad.add (i * 5)).block, (ad.add (i * 5)).off + 4, none⟩ = some (.int .i64 s.st) := by
  obtain ⟨ad, a, e1, hb, e, hc⟩ := h.at_ hi
  have hg : ∀ j u, 0 < j → (secCells a)[j]? = some u → w.cell? ⟨(ad.add (i * 5)).block, (ad.add (i * 5)).off + j, none⟩ = some u := fun j u hj hu => by
    have := hc j u hu
    rw [cell_next _ _ _ hj] at this
    exact this
  refine ⟨ad, a, e1, hb, e, ?_, hg 1 _ (by decide) rfl, hg 2 _ (by decide) rfl, hg 3 _ (by decide) rfl, hg 4 _ (by decide) rfl⟩
  have := hc 0 _ rfl
  exact this
/-- the link at i, as the walk loads it -/
theorem loadLnk {L : List Lnk} {i : Nat} (h : Rd lnkR w B A n L) (hi : i < n) : ∃ ad s, A = some ad ∧ ad.block < B ∧ L[i]? = some s ∧ w.cell? (ad.add (i * 6)) = some (.int .i64 s.a) ∧
    w.cell? ⟨(ad.add (i * 6)).block, (ad.add (i * 6)).off + 1, none⟩ = some (.int .i64 s.ae) ∧ w.cell? ⟨(ad.add (i * 6)).block, (ad.add (i * 6)).off + 2, none⟩ = some (.int .i64 s.b) ∧
    w.cell? ⟨(ad.add (i * 6)).block, (ad.add (i * 6)).off + 3, none⟩ = some (.int .i64 s.be) ∧ w.cell? ⟨(ad.add (i * 6)).block, (ad.add (i * 6)).off + 4, none⟩ = some (.int .i64 s.pt) ∧
    w.cell? ⟨(ad.add (i * 6)).block, (ad.add (i * 6)).off + 5, none⟩ = some (.int .i64 s.ps) := by
  obtain ⟨ad, a, e1, hb, e, hc⟩ := h.at_ hi
  have hg : ∀ j u, 0 < j → (lnkCells a)[j]? = some u → w.cell? ⟨(ad.add (i * 6)).block, (ad.add (i * 6)).off + j, none⟩ = some u := fun j u hj hu => by
    have := hc j u hu
    rw [cell_next _ _ _ hj] at this
    exact this
  refine ⟨ad, a, e1, hb, e, ?_, hg 1 _ (by decide) rfl, hg 2 _ (by decide) rfl, hg 3 _ (by decide) rfl, hg 4 _ (by decide) rfl, hg 5 _ (by decide) rfl⟩
  have := hc 0 _ rfl
  exact this
/-- the hop at i, as the walk loads it -/
theorem loadHop {L : List Hop} {i : Nat} (h : Rd hopR w B A n L) (hi : i < n) : ∃ ad s, A = some ad ∧ ad.block < B ∧ L[i]? = some s ∧ w.cell? (ad.add (i * 4)) = some (.int .i64 s.to.1) ∧
    w.cell? ⟨(ad.add (i * 4)).block, (ad.add (i * 4)).off + 1, none⟩ = some (.int .i64 s.to.2) ∧ w.cell? ⟨(ad.add (i * 4)).block, (ad.add (i * 4)).off + 2, none⟩ = some (.int .i64 s.pt) ∧
    w.cell? ⟨(ad.add (i * 4)).block, (ad.add (i * 4)).off + 3, none⟩ = some (.int .i64 s.ps) := by
  obtain ⟨ad, a, e1, hb, e, hc⟩ := h.at_ hi
  have hg : ∀ j u, 0 < j → (hopCells a)[j]? = some u → w.cell? ⟨(ad.add (i * 4)).block, (ad.add (i * 4)).off + j, none⟩ = some u := fun j u hj hu => by
    have := hc j u hu
    rw [cell_next _ _ _ hj] at this
    exact this
  refine ⟨ad, a, e1, hb, e, ?_, hg 1 _ (by decide) rfl, hg 2 _ (by decide) rfl, hg 3 _ (by decide) rfl⟩
  have := hc 0 _ rfl
  exact this
end

/-! ### a layout -/

/-- the four lists of a layout, as slices -/
structure LV where
  A1 : Option Addr
  n1 : Nat
  c1 : Nat
  A2 : Option Addr
  n2 : Nat
  c2 : Nat
  A3 : Option Addr
  n3 : Nat
  c3 : Nat
  A4 : Option Addr
  n4 : Nat
  c4 : Nat
def LV.val (v : LV) : Value := .agg #[.slice v.A1 v.n1 v.c1, .slice v.A2 v.n2 v.c2, .slice v.A3 v.n3 v.c3, .slice v.A4 v.n4 v.c4]
/-- the layout l lies at v, below block B -/
structure RdL (w : World) (B : Nat) (v : LV) (l : Lay) : Prop where
  st : Rd sR w B v.A1 v.n1 l.stations
  pt : Rd sR w B v.A2 v.n2 l.points
  sec : Rd secR w B v.A3 v.n3 l.sections
  lnk : Rd lnkR w B v.A4 v.n4 l.links
  m1 : v.n1 ≤ 9223372036854775807
  m2 : v.n2 ≤ 9223372036854775807
  m3 : v.n3 ≤ 9223372036854775807
  m4 : v.n4 ≤ 9223372036854775807
  sz1 : ∀ s ∈ l.stations, s.length ≤ 9223372036854775807
  sz2 : ∀ s ∈ l.points, s.length ≤ 9223372036854775807
  sz3 : ∀ s ∈ l.sections, s.name.length ≤ 9223372036854775807
theorem RdL.below {w w' : World} {B : Nat} {v : LV} {l : Lay} (h : RdL w B v l) (hb : Below B w w') : RdL w' B v l :=
  ⟨h.st.below hb, h.pt.below hb, h.sec.below hb, h.lnk.below hb, h.m1, h.m2, h.m3, h.m4, h.sz1, h.sz2, h.sz3⟩
theorem RdL.more {w : World} {B B' : Nat} {v : LV} {l : Lay} (h : RdL w B v l) (hB : B ≤ B') : RdL w B' v l :=
  ⟨h.st.more hB, h.pt.more hB, h.sec.more hB, h.lnk.more hB, h.m1, h.m2, h.m3, h.m4, h.sz1, h.sz2, h.sz3⟩
theorem RdL.grow {w w' : World} {B B' : Nat} {v : LV} {l : Lay} (h : RdL w B v l) (hb : Below B w w') (hB : B ≤ B') : RdL w' B' v l := (h.below hb).more hB

end Go.Proofs.YtnfelcjpjodjhaaGreat.Recs

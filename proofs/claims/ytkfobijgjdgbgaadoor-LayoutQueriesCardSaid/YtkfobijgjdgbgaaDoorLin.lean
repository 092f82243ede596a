/-
  Plain mathematics of lines and words: no program in it.
-/
import Derived.Test.YtkfobijgjdgbgaaDoorText
namespace Go.Proofs.YtkfobijgjdgbgaaDoor.Lin
open Wd

/-- a word: its text, its line, its column -/
abbrev W := Bs × Int × Int

def addTo (L : List W) (b : UInt8) : List W := L.dropLast ++ (L.getLast?.map fun w => (w.1 ++ [b], w.2)).toList
/-- the words of a line's code, behind the words L of what is read so far (k bytes); p: does the last byte read belong to a word -/
def wst (ln : Int) : List W → Bool → Nat → Bs → List W
  | L, _, _, [] => L
  | L, p, k, b :: r => if plain b then (if p then wst ln (addTo L b) true (k + 1) r else wst ln (L ++ [([b], ln, (k : Int) + 1)]) true (k + 1) r) else wst ln L false (k + 1) r

theorem addTo_snoc (L : List W) (t : Bs) (x : Int × Int) (b : UInt8) : addTo (L ++ [(t, x)]) b = L ++ [(t ++ [b], x)] := by
  simp [addTo]
theorem addTo_len (L : List W) (b : UInt8) : (addTo L b).length = L.length := by
  rcases List.eq_nil_or_concat L with rfl | ⟨M, w, rfl⟩
  · rfl
  · simp [addTo]
theorem wst_len (ln : Int) : ∀ (r : Bs) (L : List W) (p : Bool) (k : Nat), L.length ≤ (wst ln L p k r).length
  | [], L, _, _ => Nat.le_refl _
  | b :: r, L, p, k => by
    unfold wst
    split
    · split
      · have := wst_len ln r (addTo L b) true (k + 1); rw [addTo_len] at this; exact this
      · have := wst_len ln r (L ++ [([b], ln, (k : Int) + 1)]) true (k + 1); simp at this; omega
    · exact wst_len ln r L false (k + 1)
theorem wst_grow (ln : Int) (b : UInt8) (r : Bs) (L : List W) (k : Nat) (hb : plain b = true) : L.length + 1 ≤ (wst ln L false k (b :: r)).length := by
  unfold wst
  rw [hb]
  simp only [if_true, Bool.false_eq_true, if_false]
  have := wst_len ln r (L ++ [([b], ln, (k : Int) + 1)]) true (k + 1)
  simpa using this
/-- what stands before does not count at a byte that is no word's, and at the end -/
theorem wst_flag (ln : Int) (L : List W) (p q : Bool) (k : Nat) : ∀ (r : Bs), (∀ b, r.head? = some b → plain b = false) → wst ln L p k r = wst ln L q k r
  | [], _ => rfl
  | b :: r, h => by
    have := h b rfl
    simp [wst, this]
theorem wst_run (ln : Int) : ∀ (u r : Bs) (L : List W) (t : Bs) (x : Int × Int) (k : Nat), u.all plain = true → wst ln (L ++ [(t, x)]) true k (u ++ r) = wst ln (L ++ [(t ++ u, x)]) true (k + u.length) r
  | [], r, L, t, x, k, _ => by simp
  | b :: u, r, L, t, x, k, h => by
    simp only [List.all_cons, Bool.and_eq_true] at h
    have := wst_run ln u r L (t ++ [b]) x (k + 1) h.2
    simp only [List.cons_append, wst, h.1, if_true, addTo_snoc]
    rw [this]
    simp only [List.append_assoc, List.length_cons, List.singleton_append]
    rw [show k + 1 + u.length = k + (u.length + 1) by omega]
/-- a whole word -/
theorem wst_word (ln : Int) (b : UInt8) (u r : Bs) (L : List W) (k : Nat) (h : (b :: u).all plain = true) (hr : ∀ b, r.head? = some b → plain b = false) :
    wst ln L false k ((b :: u) ++ r) = wst ln (L ++ [(b :: u, ln, (k : Int) + 1)]) false (k + (b :: u).length) r := by
  simp only [List.all_cons, Bool.and_eq_true] at h
  have := wst_run ln u r L [b] (ln, (k : Int) + 1) (k + 1) h.2
  simp only [List.cons_append, wst, h.1, if_true, Bool.false_eq_true, if_false]
  rw [this, wst_flag ln _ true false _ r hr]
  simp only [List.singleton_append, List.length_cons]
  rw [show k + 1 + u.length = k + (u.length + 1) by omega]
theorem wst_skip (ln : Int) (b : UInt8) (r : Bs) (L : List W) (p : Bool) (k : Nat) (hb : plain b = false) : wst ln L p k (b :: r) = wst ln L false (k + 1) r := by
  simp [wst, hb]

/-- what of a line is not comment -/
def code (l : Bs) : Bs := l.takeWhile (· != 35)
def lineWords (ln : Int) (l : Bs) : List W := wst ln [] false 0 (code l)
def bad (l : Bs) : Bool := (code l).any foreign
/-- the error of a line: its number, 0 for none -/
def lineErr (ln : Int) (l : Bs) : Int := if bad l then 2 else if 64 < (lineWords ln l).length then 7 else 0
def lineOut (ln : Int) (l : Bs) : List W := if lineErr ln l = 0 then lineWords ln l else []

/-- the lines of a text -/
def split : Bs → List Bs
  | [] => [[]]
  | b :: r => if b == 10 then [] :: split r else match split r with
    | [] => [[b]]
    | h :: t => (b :: h) :: t
theorem split_ne (l : Bs) : split l ≠ [] := by
  cases l with
  | nil => simp [split]
  | cons b r =>
    unfold split
    split
    · simp
    · split <;> simp
theorem split_eq : ∀ (l : Bs), split l = l.takeWhile (· != 10) :: (if l.contains 10 then split ((l.dropWhile (· != 10)).drop 1) else [])
  | [] => by simp [split]
  | b :: r => by
    have ih := split_eq r
    by_cases hb : b = 10
    · subst hb
      simp [split]
    · have h1 : (b == 10) = false := by simpa using hb
      have h2 : (b != 10) = true := by simpa using hb
      have h3 : ((10 : UInt8) == b) = false := by simpa using fun e : 10 = b => hb e.symm
      rw [List.takeWhile_cons, List.dropWhile_cons, h2, List.contains_cons, h3]
      simp only [if_true, Bool.false_or]
      conv => lhs; unfold split
      rw [h1]
      simp only [Bool.false_eq_true, if_false]
      rw [ih]

/-- what Lines answers for the lines that are left, behind the lines T: lines, number, error -/
def go (T : List (List W)) (ln : Int) : List Bs → List (List W) × Int × Int
  | [] => (T, 0, 0)
  | l :: r => if lineErr ln l = 0 then go (if (lineWords ln l).length = 0 then T else T ++ [lineWords ln l]) (ln + 1) r else ([], ln, lineErr ln l)
def linesOf (l : Bs) : List (List W) × Int × Int := if 65536 < l.length then ([], 0, 7) else go [] 1 (split l)
theorem go_empty (T : List (List W)) (ln : Int) : go T ln [[]] = (T, 0, 0) := by
  simp [go, lineErr, bad, code, lineWords, wst]
end Go.Proofs.YtkfobijgjdgbgaaDoor.Lin

/-
  Lists of lists of strings: how they lie in memory, and the text that joining them gives (plain mathematics). No function of the program is named here.
-/
import Derived.Test.YtkfobijgjdgbgaaDoorMem
import Derived.Test.YtkfobijgjdgbgaaDoorBytes
namespace Go.Proofs.YtkfobijgjdgbgaaDoor.Strs
open Go.RowKit Wd Lin Mem Bytes

/-- the slice of n elements at A reads as the list of strings L, below block B -/
def Row (w : World) (B : Nat) (A : Option Addr) (n : Nat) (L : List ByteArray) : Prop :=
  L.length = n ∧ ∀ j s, L[j]? = some s → ∃ ad, A = some ad ∧ ad.block < B ∧ w.cell? (ad.add j) = some (.string s)
/-- the slice of n elements at A reads as the list of lists LL, below block B -/
def Grid (w : World) (B : Nat) (A : Option Addr) (n : Nat) (LL : List (List ByteArray)) : Prop :=
  LL.length = n ∧ ∀ j L, LL[j]? = some L → ∃ ad A1 c1, A = some ad ∧ ad.block < B ∧ w.cell? (ad.add j) = some (.slice A1 L.length c1) ∧ Row w B A1 L.length L ∧ L.length ≤ c1 ∧ c1 ≤ 9223372036854775807

section
variable {w w' : World} {B B' n : Nat} {A : Option Addr} {L : List ByteArray} {LL : List (List ByteArray)}
theorem Row.below (h : Row w B A n L) (hb : Below B w w') : Row w' B A n L := ⟨h.1, fun j s hs => by
  obtain ⟨ad, e, h1, h2⟩ := h.2 j s hs
  exact ⟨ad, e, h1, (hb.cell (by rw [Mem.block_add]; exact h1)).trans h2⟩⟩
theorem Row.more (h : Row w B A n L) (hB : B ≤ B') : Row w B' A n L := ⟨h.1, fun j s hs => by
  obtain ⟨ad, e, h1, h2⟩ := h.2 j s hs
  exact ⟨ad, e, by omega, h2⟩⟩
theorem Row.load {k : Nat} (h : Row w B A n L) (hk : k < n) : ∃ ad s, A = some ad ∧ ad.block < B ∧ L[k]? = some s ∧ w.cell? (ad.add k) = some (.string s) := by
  have hk' : k < L.length := by have := h.1; omega
  obtain ⟨ad, e, h1, h2⟩ := h.2 k _ (List.getElem?_eq_getElem hk')
  exact ⟨ad, _, e, h1, List.getElem?_eq_getElem hk', h2⟩
theorem Grid.below (h : Grid w B A n LL) (hb : Below B w w') : Grid w' B A n LL := ⟨h.1, fun j L hs => by
  obtain ⟨ad, A1, c1, e, h1, h2, h3, h4⟩ := h.2 j L hs
  exact ⟨ad, A1, c1, e, h1, (hb.cell (by rw [Mem.block_add]; exact h1)).trans h2, h3.below hb, h4⟩⟩
theorem Grid.more (h : Grid w B A n LL) (hB : B ≤ B') : Grid w B' A n LL := ⟨h.1, fun j L hs => by
  obtain ⟨ad, A1, c1, e, h1, h2, h3, h4⟩ := h.2 j L hs
  exact ⟨ad, A1, c1, e, by omega, h2, h3.more hB, h4⟩⟩
theorem Grid.load {k : Nat} (h : Grid w B A n LL) (hk : k < n) : ∃ ad L A1 c1, A = some ad ∧ ad.block < B ∧ LL[k]? = some L ∧ w.cell? (ad.add k) = some (.slice A1 L.length c1) ∧ Row w B A1 L.length L ∧ L.length ≤ c1 ∧ c1 ≤ 9223372036854775807 := by
  have hk' : k < LL.length := by have := h.1; omega
  obtain ⟨ad, A1, c1, e, h1, h2⟩ := h.2 k _ (List.getElem?_eq_getElem hk')
  exact ⟨ad, _, A1, c1, e, h1, List.getElem?_eq_getElem hk', h2⟩
end

theorem drop_at {α : Type} {L : List α} {k : Nat} {s : α} (h : L[k]? = some s) : L.drop k = s :: L.drop (k + 1) := by
  have hk := (List.getElem?_eq_some_iff.1 h).1
  have e := (List.getElem?_eq_some_iff.1 h).2
  rw [List.drop_eq_getElem_cons hk, e]

/-! ### joining -/

def okL (L : List ByteArray) : Bool := decide (1 ≤ L.length) && decide (L.length ≤ 64) && L.all fun s => isWord (bs s)
def sj : Bool → List ByteArray → Bs
  | _, [] => []
  | f, s :: r => (if f then [] else [32]) ++ (bs s ++ sj false r)
def jt : List (List ByteArray) → Bs
  | [] => []
  | L :: r => sj true L ++ 10 :: jt r
def joinT (LL : List (List ByteArray)) : Bs := if LL.all okL then jt LL else []

def wt : List ByteArray → Nat
  | [] => 0
  | s :: r => s.size + 1 + wt r
def wtL : List (List ByteArray) → Nat
  | [] => 0
  | L :: r => wt L + 1 + wtL r

/-- what is left to join, behind the text acc: the lines LL -/
def Todo (T acc : Bs) (LL : List (List ByteArray)) (N : Nat) : Prop := T = (if LL.all okL then acc ++ jt LL else []) ∧ acc.length + wtL LL ≤ N
/-- what is left to join, behind the text acc: the words L of a line (f: none of it is written yet), then the lines LL -/
def TodoIn (T acc : Bs) (f : Bool) (L : List ByteArray) (LL : List (List ByteArray)) (N : Nat) : Prop :=
  T = (if (L.all (fun s => isWord (bs s)) && LL.all okL) = true then acc ++ (sj f L ++ 10 :: jt LL) else []) ∧ acc.length + wt L + 1 + wtL LL ≤ N

theorem Todo.bad {T acc : Bs} {L : List ByteArray} {LL : List (List ByteArray)} {N : Nat} (h : Todo T acc (L :: LL) N) (hl : ¬ (1 ≤ L.length ∧ L.length ≤ 64)) : T = [] := by
  have : okL L = false := by
    unfold okL
    by_cases h1 : 1 ≤ L.length
    · have h2 : ¬ L.length ≤ 64 := fun e => hl ⟨h1, e⟩
      simp [h2]
    · simp [h1]
  rw [h.1, List.all_cons, this]; rfl
theorem Todo.inside {T acc : Bs} {L : List ByteArray} {LL : List (List ByteArray)} {N : Nat} (h : Todo T acc (L :: LL) N) (h1 : 1 ≤ L.length) (h2 : L.length ≤ 64) : TodoIn T acc true L LL N := by
  refine ⟨?_, by have := h.2; simp only [wtL] at this; omega⟩
  rw [h.1, List.all_cons]
  unfold okL
  rw [decide_eq_true h1, decide_eq_true h2]
  simp only [Bool.true_and, jt]
theorem TodoIn.bad {T acc : Bs} {f : Bool} {s : ByteArray} {L : List ByteArray} {LL : List (List ByteArray)} {N : Nat} (h : TodoIn T acc f (s :: L) LL N) (hs : isWord (bs s) = false) : T = [] := by
  rw [h.1, List.all_cons, hs]; rfl
theorem TodoIn.next {T acc : Bs} {f : Bool} {s : ByteArray} {L : List ByteArray} {LL : List (List ByteArray)} {N : Nat} (h : TodoIn T acc f (s :: L) LL N) (hs : isWord (bs s) = true) :
    TodoIn T (acc ++ ((if f then [] else [32]) ++ bs s)) false L LL N := by
  refine ⟨?_, ?_⟩
  · rw [h.1, List.all_cons, hs, Bool.true_and]
    simp only [sj, List.append_assoc]
  · have := h.2
    simp only [wt] at this
    have hl : ((if f then [] else [32] : Bs)).length ≤ 1 := by cases f <;> simp
    rw [List.length_append, List.length_append, bs_length]; omega
theorem TodoIn.done {T acc : Bs} {f : Bool} {LL : List (List ByteArray)} {N : Nat} (h : TodoIn T acc f [] LL N) : Todo T (acc ++ [10]) LL N := by
  refine ⟨?_, ?_⟩
  · rw [h.1]
    simp only [List.all_nil, Bool.true_and, sj, List.nil_append, List.append_assoc, List.singleton_append]
  · have := h.2
    simp only [wt] at this
    rw [List.length_append]; simp; omega
theorem Todo.done {T acc : Bs} {N : Nat} (h : Todo T acc [] N) : T = acc := by
  rw [h.1]; simp [jt]
theorem Todo.start (LL : List (List ByteArray)) (N : Nat) (h : wtL LL ≤ N) : Todo (joinT LL) [] LL N := ⟨rfl, by simpa using h⟩
end Go.Proofs.YtkfobijgjdgbgaaDoor.Strs

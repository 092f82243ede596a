/-
  How words and lines lie in memory: the words that the contracts of this seat use, and what keeps them. No function of the program is named here.
-/
import Derived.Test.YtepbdcnjhbaehaaLin
import Derived.WalkKit
import Derived.Laws.OwnMore
import Derived.Deep.AppendLies
import Derived.Deep.Draws
import Derived.Lib.Hide
namespace Go.Proofs.Ytepbdcnjhbaehaa.Mem
open Go.RowKit Wd Lin

theorem block_add (a : Addr) (n : Nat) : (a.add n).block = a.block := by unfold Addr.add; split <;> rfl
theorem add_add' (a : Addr) (i j : Nat) : (a.add i).add j = a.add (i + j) := by
  unfold Addr.add
  by_cases hi : i = 0 <;> by_cases hj : j = 0 <;> simp [hi, hj, Nat.add_assoc]

/-- the cells of a list of values lie behind an address below block B -/
def At (w : World) (B : Nat) (A : Option Addr) (xs : List Value) : Prop := ∀ j u, xs[j]? = some u → ∃ ad, A = some ad ∧ ad.block < B ∧ w.cell? (ad.add j) = some u

/-- the three cells of each word -/
def cs : List W → List Value
  | [] => []
  | p :: r => .string (str p.1) :: .int .i64 p.2.1 :: .int .i64 p.2.2 :: cs r

theorem cs_length (L : List W) : (cs L).length = L.length * 3 := by
  induction L with
  | nil => rfl
  | cons p r ih => simp only [cs, List.length_cons, ih]; omega
theorem cs_append (L M : List W) : cs (L ++ M) = cs L ++ cs M := by
  induction L with
  | nil => rfl
  | cons p r ih => simp only [cs, List.cons_append, ih]
theorem cs_get0 (L : List W) (k : Nat) : (cs L)[k * 3]? = L[k]?.map fun p => .string (str p.1) := by
  induction L generalizing k with
  | nil => simp [cs]
  | cons p r ih =>
    cases k with
    | zero => simp [cs]
    | succ k => rw [show (k + 1) * 3 = k * 3 + 1 + 1 + 1 from by omega]; simp only [cs, List.getElem?_cons_succ, ih]
theorem cs_get1 (L : List W) (k : Nat) : (cs L)[k * 3 + 1]? = L[k]?.map fun p => .int .i64 p.2.1 := by
  induction L generalizing k with
  | nil => simp [cs]
  | cons p r ih =>
    cases k with
    | zero => simp [cs]
    | succ k => rw [show (k + 1) * 3 + 1 = (k * 3 + 1) + 1 + 1 + 1 from by omega]; simp only [cs, List.getElem?_cons_succ, ih]
theorem cs_get2 (L : List W) (k : Nat) : (cs L)[k * 3 + 2]? = L[k]?.map fun p => .int .i64 p.2.2 := by
  induction L generalizing k with
  | nil => simp [cs]
  | cons p r ih =>
    cases k with
    | zero => simp [cs]
    | succ k => rw [show (k + 1) * 3 + 2 = (k * 3 + 2) + 1 + 1 + 1 from by omega]; simp only [cs, List.getElem?_cons_succ, ih]
theorem cs_one (L : List W) : ∀ u ∈ cs L, u.oneCell' = true := by
  induction L with
  | nil => intro u hu; cases hu
  | cons p r ih =>
    intro u hu
    simp only [cs, List.mem_cons] at hu
    rcases hu with rfl | rfl | rfl | hu
    · rfl
    · rfl
    · rfl
    · exact ih u hu

section
variable {w w' : World} {B B' : Nat} {A : Option Addr} {xs : List Value}
theorem At.nil : At w B A [] := fun j u h => by simp at h
theorem At.keep (h : At w B A xs) (hk : ∀ p : Addr, p.block < B → w'.cell? p = w.cell? p) : At w' B A xs := fun j u hu => by
  obtain ⟨ad, e, hb, hc⟩ := h j u hu
  exact ⟨ad, e, hb, (hk _ (by rw [block_add]; exact hb)).trans hc⟩
theorem At.more (h : At w B A xs) (hB : B ≤ B') : At w B' A xs := fun j u hu => by
  obtain ⟨ad, e, hb, hc⟩ := h j u hu
  exact ⟨ad, e, by omega, hc⟩
theorem At.below (h : At w B A xs) (hb : Below B w w') : At w' B A xs := h.keep fun _ hp => hb.cell hp
end

theorem below_draws {B : Nat} {a w : World} (h : Below B a w) (n : Nat) : Below B a (w.drewN n) := ⟨h.os, h.tape, h.output, h.size, h.block⟩
theorem below_after {B : Nat} {a w : World} (h : Below B a w) : ∀ n, Below B a (w.drewN n) := below_draws h

/-- the slice of n elements at A reads as the list of words L, below block B -/
def Words (w : World) (B : Nat) (A : Option Addr) (n : Nat) (L : List W) : Prop := L.length = n ∧ At w B A (cs L)

section
variable {w w' : World} {B B' n : Nat} {A : Option Addr} {L : List W}
theorem Words.nil (w : World) (B : Nat) (A : Option Addr) : Words w B A 0 [] := ⟨rfl, At.nil⟩
theorem Words.below (h : Words w B A n L) (hb : Below B w w') : Words w' B A n L := ⟨h.1, h.2.below hb⟩
theorem Words.more (h : Words w B A n L) (hB : B ≤ B') : Words w B' A n L := ⟨h.1, h.2.more hB⟩
theorem cell_next (ad : Addr) (i j : Nat) (hj : 0 < j) : ad.add (i + j) = (⟨(ad.add i).block, (ad.add i).off + j, none⟩ : Addr) := by
  unfold Addr.add
  by_cases hi : i = 0
  · subst hi; simp; intro e; omega
  · simp [hi, Nat.add_assoc]
/-- the element at k, as the walk loads it: its first cell and the ones behind it -/
theorem Words.load {k : Nat} (h : Words w B A n L) (hk : k < n) : ∃ ad p, A = some ad ∧ ad.block < B ∧ L[k]? = some p ∧ w.cell? (ad.add (k * 3)) = some (.string (str p.1)) ∧ w.cell? ⟨(ad.add (k * 3)).block, (ad.add (k * 3)).off + 1, none⟩ = some (.int .i64 p.2.1) ∧ w.cell? ⟨(ad.add (k * 3)).block, (ad.add (k * 3)).off + 2, none⟩ = some (.int .i64 p.2.2) := by
  have hk' : k < L.length := by have := h.1; omega
  have e : L[k]? = some L[k] := List.getElem?_eq_getElem hk'
  obtain ⟨ad, e1, hb, h0⟩ := h.2 (k * 3) (.string (str L[k].1)) (by rw [cs_get0, e]; rfl)
  obtain ⟨ad', e2, _, h1⟩ := h.2 (k * 3 + 1) (.int .i64 L[k].2.1) (by rw [cs_get1, e]; rfl)
  obtain ⟨ad'', e3, _, h2⟩ := h.2 (k * 3 + 2) (.int .i64 L[k].2.2) (by rw [cs_get2, e]; rfl)
  have : ad = ad' := by rw [e1] at e2; exact Option.some.inj e2
  subst this
  have : ad = ad'' := by rw [e1] at e3; exact Option.some.inj e3
  subst this
  rw [cell_next _ _ _ (by omega)] at h1 h2
  exact ⟨ad, L[k], e1, hb, e, h0, h1, h2⟩
theorem cs_set (M : List W) (p : W) (t : Bs) : (cs (M ++ [p])).set (M.length * 3) (.string (str t)) = cs (M ++ [(t, p.2)]) := by
  rw [cs_append, cs_append, List.set_append_right _ _ (by rw [cs_length]; omega), cs_length]
  simp [cs]
theorem new_word (w : World) (s : ByteArray) (a b : Int) (e : TypeId) : ∀ (j : Nat) (u : Value), [Value.string s, Value.int .i64 a, Value.int .i64 b][j]? = some u → (w.alloc (.cells #[.string s, .int .i64 a, .int .i64 b] e)).cell? ((⟨w.heap.size, 0, none⟩ : Addr).add j) = some u := by
  intro j u hu
  match j, hu with
  | 0, hu => simp at hu; subst hu; simp [Addr.add]
  | 1, hu => simp at hu; subst hu; simp [Addr.add]
  | 2, hu => simp at hu; subst hu; simp [Addr.add]
theorem one_word (s : ByteArray) (a b : Int) : ∀ u ∈ [Value.string s, Value.int .i64 a, Value.int .i64 b], u.oneCell' = true := by
  intro u hu
  simp only [List.mem_cons, List.not_mem_nil, or_false] at hu
  rcases hu with rfl | rfl | rfl <;> rfl
end

/-! ### lists of lists of words -/

section
variable {w w' : World} {B n : Nat} {T : List (List W)}

end

end Go.Proofs.Ytepbdcnjhbaehaa.Mem

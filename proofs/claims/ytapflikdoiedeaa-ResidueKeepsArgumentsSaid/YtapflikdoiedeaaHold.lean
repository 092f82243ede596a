/-
  A list of lists of the call's own: what keeps it and its parts, through appends to it and through stores into its parts.
-/
import Derived.Test.YtapflikdoiedeaaSpare
namespace Go.Proofs.Ytapflikdoiedeaa.Hold
open Go.ChangeShapes Go.WideShapes Go.ChangeAt Go.RowKit Plain Mem Nums Valid Errs Gather
set_option linter.unusedVariables false

theorem info22 : (Try.prog.info? 22).map (fun i => (i.zero, i.size, i.bytes)) = some (some (.slice none 0 0), 1, 24) := by kernel_rfl

/-- a slice of spans that is nil or lies at the head of a block from B on -/
def Shape (w : World) (B : Nat) (v : Value) : Prop :=
  v = .slice none 0 0 ∨ ∃ g n cap cur, v = .slice (some ⟨g, 0, none⟩) n cap ∧ B ≤ g ∧ w.heap[g]? = some (.cells cur 29 (0, 0)) ∧ n ≤ cap ∧ cap ≤ 9223372036854775807 ∧ cur.size = cap * 2

theorem shape_own {w : World} {B n c : Nat} {A : Option Addr} {L : List Sp} (h : Own w B (.slice A n c) n L) : Shape w B (.slice A n c) := by
  rcases h.2.2 with ⟨e, _⟩ | ⟨g, cap, cur, e, hb, hh, hc, hm, hs, _⟩
  · exact .inl e
  · exact .inr ⟨g, n, cap, cur, e, hb, hh, hc, by unfold maxLen at hm; omega, hs⟩
theorem shape_block {w w' : World} {B : Nat} {v : Value} (h : Shape w B v) (hk : ∀ g cur, B ≤ g → w.heap[g]? = some (.cells cur 29 (0, 0)) → w'.heap[g]? = some (.cells cur 29 (0, 0))) : Shape w' B v := by
  rcases h with h | ⟨g, n, cap, cur, e, hb, hh, hr⟩
  · exact .inl h
  · exact .inr ⟨g, n, cap, cur, e, hb, hk g cur hb hh, hr⟩
theorem shape_set {w : World} {B g j : Nat} {v u : Value} {cur : Array Value} (h : Shape w B v) (hg : w.heap[g]? = some (.cells cur 29 (0, 0))) : Shape (w.setCell ⟨g, j, none⟩ u) B v := by
  rcases h with h | ⟨g', n, cap, cur', e, hb, hh, h1, h2, h3⟩
  · exact .inl h
  · by_cases e' : g' = g
    · subst e'
      exact .inr ⟨g', n, cap, cur'.setIfInBounds j u, e, hb, heap_setCell_same w g' j cur' 29 u hh, h1, h2, by simpa using h3⟩
    · exact .inr ⟨g', n, cap, cur', e, hb, by rw [heap_setCell_other w ⟨g, j, none⟩ g' u e']; exact hh, h1, h2, h3⟩

structure Holds (B : Nat) (w0 wr : World) (A : Option Addr) (m c : Nat) (Vs : List Value) : Prop where
  row : wr.ownsRow B 22 1 (.slice A m c) m Vs
  shapes : ∀ u ∈ Vs, Shape wr B u
  below : Below B w0 wr
  size : B ≤ wr.heap.size

theorem Holds.later {B : Nat} {w0 wr w' : World} {A : Option Addr} {m c : Nat} {Vs : List Value} (h : Holds B w0 wr A m c Vs) (hb : Below wr.heap.size wr w') : Holds B w0 w' A m c Vs :=
  ⟨h.row.kept (row := none) ⟨hb.os, hb.tape, hb.output, hb.size, fun k hk _ => hb.block k hk⟩ (by
    cases hv : (Value.slice A m c).ownBlock with
    | none => exact .inl rfl
    | some g => exact .inr (by simp)), fun u hu => shape_block (h.shapes u hu) (fun g cur _ hh => (hb.block g (lt_of_block hh)).trans hh), h.below.trans (hb.mono h.size), Nat.le_trans h.size hb.size⟩

theorem Holds.nil {B : Nat} {w0 wr : World} (h : Below B w0 wr) (hs : B ≤ wr.heap.size) : Holds B w0 wr none 0 0 [] :=
  ⟨World.ownsRow_nil _ _ _ _, fun u hu => by simp at hu, h, hs⟩

/-- behind the append of one list -/
theorem Holds.push {B : Nat} {w0 wr w1 : World} {A : Option Addr} {m c : Nat} {Vs : List Value} {s v : Value} (h : Holds B w0 wr A m c Vs) (hs : Shape wr B s)
    (hown' : w1.ownsRow B 22 1 v (m + 1) (Vs ++ [s])) (hgrow : (wr.alloc (.cells #[s] 22)).grownBy w1 (Value.slice A m c).ownBlock) :
    ∃ A' c', v = .slice A' (m + 1) c' ∧ Holds B w0 w1 A' (m + 1) c' (Vs ++ [s]) := by
  have hf : ∃ A' c', v = .slice A' (m + 1) c' := by
    rcases hown'.2 with ⟨_, e⟩ | ⟨g, cap, cur, e, _⟩
    · omega
    · exact ⟨_, cap, e⟩
  obtain ⟨A', c', rfl⟩ := hf
  have keep : ∀ g cur, B ≤ g → wr.heap[g]? = some (.cells cur 29 (0, 0)) → w1.heap[g]? = some (.cells cur 29 (0, 0)) := fun g cur _ hh => by
    have hlt := lt_of_block hh
    rw [hgrow.block g (by simp; omega) ?_, Below.heap_alloc wr _ g hlt]
    · exact hh
    · intro e
      rcases h.row.2 with ⟨e2, _⟩ | ⟨g', cap, cur', e2, _, hh', _⟩
      · rw [e2] at e; simp [Value.ownBlock] at e
      · rw [e2] at e
        have : g = g' := by simpa [Value.ownBlock] using e
        subst this
        rw [hh] at hh'
        simp at hh'
  refine ⟨A', c', rfl, hown', fun u hu => ?_, (h.below.alloc h.size _).grown hgrow (by simp; have := h.size; omega) (fun k hk => (h.row.lt k hk).1), Nat.le_trans h.size (Nat.le_trans (by simp) hgrow.size)⟩
  rcases List.mem_append.1 hu with hu | hu
  · exact shape_block (h.shapes u hu) keep
  · rw [List.mem_singleton.1 hu]
    exact shape_block hs keep

/-- behind a store into a part -/
theorem Holds.set {B g j : Nat} {w0 wr : World} {A : Option Addr} {m c : Nat} {Vs : List Value} {cur : Array Value} (h : Holds B w0 wr A m c Vs) (hg : wr.heap[g]? = some (.cells cur 29 (0, 0))) (hB : B ≤ g) (u : Value) :
    Holds B w0 (wr.setCell ⟨g, j, none⟩ u) A m c Vs := by
  refine ⟨ownsRow_setCell_other h.row (fun e => ?_) u, fun v hv => shape_set (h.shapes v hv) hg, h.below.setCell hB u, by simpa [World.setCell] using h.size⟩
  rcases h.row.2 with ⟨e2, _⟩ | ⟨g', cap, cur', e2, _, hh', _⟩
  · rw [e2] at e; simp [Value.ownBlock] at e
  · rw [e2] at e
    have : g' = g := by simpa [Value.ownBlock] using e
    subst this
    rw [hg] at hh'
    simp at hh'

/-- the part at i, as the walk loads it -/
theorem Holds.part {B i : Nat} {w0 wr : World} {A : Option Addr} {m c : Nat} {Vs : List Value} (h : Holds B w0 wr A m c Vs) (hi : i < m) :
    ∃ g v, A = some ⟨g, 0, none⟩ ∧ Vs[i]? = some v ∧ wr.cell? ⟨g, i, none⟩ = some v ∧ Shape wr B v := by
  have hl : i < Vs.length := by have := h.row.1; omega
  rcases h.row.2 with ⟨e, e2⟩ | ⟨g, cap, cur, e, _⟩
  · omega
  · injection e with e1 _ e3
    subst e1
    subst e3
    have hc := h.row.cellAt i (by omega)
    rw [List.getElem?_eq_getElem hl] at hc
    exact ⟨g, Vs[i], rfl, List.getElem?_eq_getElem hl, hc, h.shapes _ (List.getElem_mem hl)⟩

end Go.Proofs.Ytapflikdoiedeaa.Hold

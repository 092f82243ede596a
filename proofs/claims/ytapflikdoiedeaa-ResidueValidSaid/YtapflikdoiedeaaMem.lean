/-
  How lists of spans lie in memory: the words that the contracts of this seat use, and what keeps them. No function of the program is named here.
-/
import Derived.Test.YtapflikdoiedeaaMath
import Derived.WalkKit
import Derived.Laws.OwnMore
import Derived.Deep.AppendLies
import Derived.Deep.Draws
import Derived.Lib.Hide
namespace Go.Proofs.Ytapflikdoiedeaa.Mem
open Go.RowKit Plain

theorem block_add (a : Addr) (n : Nat) : (a.add n).block = a.block := by unfold Addr.add; split <;> rfl
theorem add_add' (a : Addr) (i j : Nat) : (a.add i).add j = a.add (i + j) := by
  unfold Addr.add
  by_cases hi : i = 0 <;> by_cases hj : j = 0 <;> simp [hi, hj, Nat.add_assoc]

/-- the cells of a list of values lie behind an address below block B -/
def At (w : World) (B : Nat) (A : Option Addr) (xs : List Value) : Prop := ∀ j u, xs[j]? = some u → ∃ ad, A = some ad ∧ ad.block < B ∧ w.cell? (ad.add j) = some u

/-- the two cells of each span -/
def cs : List Sp → List Value
  | [] => []
  | p :: r => .int .i64 p.1 :: .int .i64 p.2 :: cs r

theorem cs_length (L : List Sp) : (cs L).length = L.length * 2 := by
  induction L with
  | nil => rfl
  | cons p r ih => simp only [cs, List.length_cons, ih]; omega
theorem cs_append (L M : List Sp) : cs (L ++ M) = cs L ++ cs M := by
  induction L with
  | nil => rfl
  | cons p r ih => simp only [cs, List.cons_append, ih]
theorem cs_get0 (L : List Sp) (k : Nat) : (cs L)[k * 2]? = L[k]?.map fun p => .int .i64 p.1 := by
  induction L generalizing k with
  | nil => simp [cs]
  | cons p r ih =>
    cases k with
    | zero => simp [cs]
    | succ k => rw [show (k + 1) * 2 = k * 2 + 1 + 1 from by omega]; simp only [cs, List.getElem?_cons_succ, ih]
theorem cs_get1 (L : List Sp) (k : Nat) : (cs L)[k * 2 + 1]? = L[k]?.map fun p => .int .i64 p.2 := by
  induction L generalizing k with
  | nil => simp [cs]
  | cons p r ih =>
    cases k with
    | zero => simp [cs]
    | succ k => rw [show (k + 1) * 2 + 1 = (k * 2 + 1) + 1 + 1 from by omega]; simp only [cs, List.getElem?_cons_succ, ih]
theorem cs_drop (L : List Sp) (k : Nat) : (cs L).drop (k * 2) = cs (L.drop k) := by
  induction L generalizing k with
  | nil => simp [cs]
  | cons p r ih =>
    cases k with
    | zero => simp
    | succ k => rw [show (k + 1) * 2 = k * 2 + 1 + 1 from by omega]; simp only [cs, List.drop_succ_cons, ih]
theorem cs_one (L : List Sp) : ∀ u ∈ cs L, u.oneCell' = true := by
  induction L with
  | nil => intro u hu; cases hu
  | cons p r ih =>
    intro u hu
    simp only [cs, List.mem_cons] at hu
    rcases hu with rfl | rfl | hu
    · rfl
    · rfl
    · exact ih u hu
theorem cs_inj (L M : List Sp) (h : cs L = cs M) : L = M := by
  induction L generalizing M with
  | nil => cases M with
    | nil => rfl
    | cons q M => simp [cs] at h
  | cons p r ih => cases M with
    | nil => simp [cs] at h
    | cons q M =>
      simp only [cs, List.cons.injEq, Value.int.injEq, true_and] at h
      rw [ih M h.2.2]
      congr 1
      exact Prod.ext h.1 h.2.1

section
variable {w w' : World} {B B' : Nat} {A : Option Addr} {xs : List Value}
theorem At.nil : At w B A [] := fun j u h => by simp at h
theorem At.keep (h : At w B A xs) (hk : ∀ p : Addr, p.block < B → w'.cell? p = w.cell? p) : At w' B A xs := fun j u hu => by
  obtain ⟨ad, e, hb, hc⟩ := h j u hu
  exact ⟨ad, e, hb, (hk _ (by rw [block_add]; exact hb)).trans hc⟩
theorem At.more (h : At w B A xs) (hB : B ≤ B') : At w B' A xs := fun j u hu => by
  obtain ⟨ad, e, hb, hc⟩ := h j u hu
  exact ⟨ad, e, by omega, hc⟩
theorem At.below (h : At w B A xs) (hb : Below B w w') : At w' B A xs := h.keep fun _ hp => hb.cell hp
theorem At.drop (h : At w B A xs) (k : Nat) : At w B (A.map (·.add k)) (xs.drop k) := fun j u hu => by
  rw [List.getElem?_drop] at hu
  obtain ⟨ad, rfl, hb, hc⟩ := h _ u hu
  exact ⟨ad.add k, rfl, by rw [block_add]; exact hb, by rw [add_add']; exact hc⟩
end

theorem below_draws {B : Nat} {a w : World} (h : Below B a w) (n : Nat) : Below B a (w.drewN n) := ⟨h.os, h.tape, h.output, h.size, h.block⟩

/-- the slice of n elements at A reads as the list of spans L, below block B -/
def Spans (w : World) (B : Nat) (A : Option Addr) (n : Nat) (L : List Sp) : Prop := L.length = n ∧ At w B A (cs L)
/-- the slice value v of n elements is the call's own, and reads as the list of spans L -/
def Own (w : World) (base : Nat) (v : Value) (n : Nat) (L : List Sp) : Prop := L.length = n ∧ w.ownsRow base 29 2 v n (cs L)

section
variable {w w' : World} {B B' n : Nat} {A : Option Addr} {L : List Sp}
theorem Spans.nil (w : World) (B : Nat) (A : Option Addr) : Spans w B A 0 [] := ⟨rfl, At.nil⟩
theorem Spans.below (h : Spans w B A n L) (hb : Below B w w') : Spans w' B A n L := ⟨h.1, h.2.below hb⟩
theorem Spans.more (h : Spans w B A n L) (hB : B ≤ B') : Spans w B' A n L := ⟨h.1, h.2.more hB⟩
theorem Spans.keep (h : Spans w B A n L) (hk : ∀ p : Addr, p.block < B → w'.cell? p = w.cell? p) : Spans w' B A n L := ⟨h.1, h.2.keep hk⟩
theorem Spans.at_ {k : Nat} (h : Spans w B A n L) (hk : k < n) : ∃ ad p, A = some ad ∧ ad.block < B ∧ L[k]? = some p ∧ w.cell? (ad.add (k * 2)) = some (.int .i64 p.1) ∧ w.cell? (ad.add (k * 2 + 1)) = some (.int .i64 p.2) := by
  have hk' : k < L.length := by have := h.1; omega
  have e : L[k]? = some L[k] := List.getElem?_eq_getElem hk'
  obtain ⟨ad, e1, hb, h0⟩ := h.2 (k * 2) (.int .i64 L[k].1) (by rw [cs_get0, e]; rfl)
  obtain ⟨ad', e2, _, h1⟩ := h.2 (k * 2 + 1) (.int .i64 L[k].2) (by rw [cs_get1, e]; rfl)
  have : ad = ad' := by rw [e1] at e2; exact Option.some.inj e2
  subst this
  exact ⟨ad, L[k], e1, hb, e, h0, h1⟩
theorem second_ (ad : Addr) (i : Nat) : (⟨(ad.add i).block, (ad.add i).off + 1, none⟩ : Addr) = ad.add (i + 1) := by
  unfold Addr.add
  by_cases hi : i = 0
  · subst hi; simp
  · simp [hi, Nat.add_assoc]
/-- the element at k, as the walk loads it: its first cell and the one behind it -/
theorem Spans.load {k : Nat} (h : Spans w B A n L) (hk : k < n) : ∃ ad p, A = some ad ∧ ad.block < B ∧ L[k]? = some p ∧ w.cell? (ad.add (k * 2)) = some (.int .i64 p.1) ∧ w.cell? ⟨(ad.add (k * 2)).block, (ad.add (k * 2)).off + 1, none⟩ = some (.int .i64 p.2) := by
  obtain ⟨ad, p, e, hb, hp, h0, h1⟩ := h.at_ hk
  exact ⟨ad, p, e, hb, hp, h0, by rw [second_]; exact h1⟩
/-- the first element, as the walk loads it -/
theorem Spans.head (h : Spans w B A n L) (hk : 0 < n) : ∃ ad p r, A = some ad ∧ ad.block < B ∧ L = p :: r ∧ w.cell? ad = some (.int .i64 p.1) ∧ w.cell? ⟨ad.block, ad.off + 1, none⟩ = some (.int .i64 p.2) := by
  obtain ⟨ad, p, e, hb, hp, h0, h1⟩ := h.load hk
  match L, hp with
  | q :: r, hp =>
    have : q = p := by simpa using hp
    subst this
    exact ⟨ad, q, r, e, hb, rfl, by simpa [Addr.add] using h0, by simpa [Addr.add] using h1⟩
theorem Spans.drop (h : Spans w B A n L) (k : Nat) : Spans w B (A.map (·.add (k * 2))) (n - k) (L.drop k) :=
  ⟨by rw [List.length_drop, h.1], by rw [← cs_drop]; exact h.2.drop _⟩
theorem Own.form {base : Nat} {v : Value} (h : Own w base v n L) : ∃ A c, v = .slice A n c ∧ n ≤ c ∧ c ≤ maxLen := by
  rcases h.2.2 with ⟨rfl, rfl⟩ | ⟨g, cap, cur, rfl, _, _, hc, hm, _⟩
  · exact ⟨none, 0, rfl, Nat.le_refl _, Nat.zero_le _⟩
  · exact ⟨_, cap, rfl, hc, hm⟩
theorem Own.spans {base c : Nat} (h : Own w base (.slice A n c) n L) : Spans w w.heap.size A n L := by
  refine ⟨h.1, fun j u hu => ?_⟩
  have hl : j < L.length * 2 := by rw [← cs_length]; exact (List.getElem?_eq_some_iff.1 hu).1
  rcases h.2.2 with ⟨e, rfl⟩ | ⟨g, cap, cur, e, _, hh, _⟩
  · have := h.1; omega
  · have hA : A = some ⟨g, 0, none⟩ := by injection e
    subst hA
    exact ⟨_, rfl, lt_of_block hh, h.2.cells (g := g) rfl j u hu⟩
theorem cs_set (M : List Sp) (p : Sp) (u : Int) : (cs (M ++ [p])).set (M.length * 2 + 1) (.int .i64 u) = cs (M ++ [(p.1, u)]) := by
  rw [cs_append, cs_append, List.set_append_right _ _ (by rw [cs_length]; omega), cs_length]
  simp [cs]
theorem Own.last {base q c : Nat} {M : List Sp} {p : Sp} (h : Own w base (.slice A (q + 1) c) (q + 1) (M ++ [p])) :
    ∃ g, A = some ⟨g, 0, none⟩ ∧ base ≤ g ∧ g < w.heap.size ∧ w.cell? ⟨g, q * 2, none⟩ = some (.int .i64 p.1) ∧ w.cell? ⟨g, q * 2 + 1, none⟩ = some (.int .i64 p.2) ∧ w.frozen? ⟨g, q * 2 + 1, none⟩ = false := by
  have hq : M.length = q := by have := h.1; simp at this; exact this
  rcases h.2.2 with ⟨_, e⟩ | ⟨g, cap, cur, e, hb, hh, _⟩
  · omega
  · have hA : A = some ⟨g, 0, none⟩ := by injection e
    subst hA
    refine ⟨g, rfl, hb, lt_of_block hh, ?_, ?_, h.2.frozenAt _⟩
    · rw [h.2.cellAt _ (by omega), cs_get0]; simp [← hq]
    · rw [h.2.cellAt _ (by omega), cs_get1]; simp [← hq]
theorem Own.put {base q c g : Nat} {M : List Sp} {p : Sp} (h : Own w base (.slice (some ⟨g, 0, none⟩) (q + 1) c) (q + 1) (M ++ [p])) (u : Int) :
    Own (w.setCell ⟨g, q * 2 + 1, none⟩ (.int .i64 u)) base (.slice (some ⟨g, 0, none⟩) (q + 1) c) (q + 1) (M ++ [(p.1, u)]) := by
  have hq : M.length = q := by have := h.1; simp at this; exact this
  refine ⟨by simpa using h.1, ?_⟩
  rw [← cs_set, hq]
  exact (h.2.stored _ _).1
theorem Own.alloc {base : Nat} {v : Value} (h : Own w base v n L) (o : Obj) : Own (w.alloc o) base v n L := ⟨h.1, h.2.alloc o⟩
theorem Own.drewN {base : Nat} {v : Value} (h : Own w base v n L) (k : Nat) : Own (w.drewN k) base v n L := h
theorem Own.below {base : Nat} {v : Value} (h : Own w base v n L) (hb : Below B w w') (hB : w.heap.size ≤ B) : Own w' base v n L :=
  ⟨h.1, h.2.kept (row := none) ⟨hb.os, hb.tape, hb.output, hb.size, fun k hk _ => hb.block k (by omega)⟩ (by
    cases hv : v.ownBlock with
    | none => exact .inl rfl
    | some g => exact .inr (by simp))⟩
theorem Own.base_ {base base' : Nat} {v : Value} (h : Own w base v n L) (hB : base' ≤ base) : Own w base' v n L := by
  refine ⟨h.1, h.2.1, ?_⟩
  rcases h.2.2 with hh | ⟨g, cap, cur, e, hb, hr⟩
  · exact .inl hh
  · exact .inr ⟨g, cap, cur, e, by omega, hr⟩
theorem Own.nil (w : World) (base : Nat) : Own w base (.slice none 0 0) 0 [] := ⟨rfl, World.ownsRow_nil _ _ _ _⟩
theorem Own.push {base : Nat} {v : Value} {a b : Int} (hl : L.length = n) (h : w.ownsRow base 29 2 v (n + 1) (cs L ++ [.int .i64 a, .int .i64 b])) : Own w base v (n + 1) (L ++ [(a, b)]) :=
  ⟨by simp [hl], by rw [cs_append]; exact h⟩
theorem new_pair (w : World) (a b : Int) (e : TypeId) : ∀ (j : Nat) (u : Value), [Value.int .i64 a, Value.int .i64 b][j]? = some u → (w.alloc (.cells #[.int .i64 a, .int .i64 b] e)).cell? ((⟨w.heap.size, 0, none⟩ : Addr).add j) = some u := by
  intro j u hu
  match j, hu with
  | 0, hu => simp at hu; subst hu; simp [Addr.add]
  | 1, hu => simp at hu; subst hu; simp [Addr.add]
theorem one_pair (a b : Int) : ∀ u ∈ [Value.int .i64 a, Value.int .i64 b], u.oneCell' = true := by
  intro u hu
  simp only [List.mem_cons, List.not_mem_nil, or_false] at hu
  rcases hu with rfl | rfl <;> rfl
/-- behind the append of one span to a list of the call's own -/
theorem appended {B cc : Nat} {w wr w1 : World} {v : Value} {a b : Int} {e : TypeId} (hbw : Below B w wr) (hB : B ≤ wr.heap.size) (hl : L.length = n) (hown : wr.ownsRow B 29 2 (.slice A n cc) n (cs L))
    (hown' : w1.ownsRow B 29 2 v (n + 1) (cs L ++ [.int .i64 a, .int .i64 b])) (hgrow : (wr.alloc (.cells #[.int .i64 a, .int .i64 b] e)).grownBy w1 (Value.slice A n cc).ownBlock) :
    ∃ A' c', v = .slice A' (n + 1) c' ∧ Own w1 B (.slice A' (n + 1) c') (n + 1) (L ++ [(a, b)]) ∧ Below B w w1 := by
  have h := Own.push hl hown'
  obtain ⟨A', c', rfl, _⟩ := h.form
  refine ⟨A', c', rfl, h, ?_⟩
  exact (hbw.alloc hB _).grown hgrow (by simp; omega) (fun k hk => (hown.lt k hk).1)
end

end Go.Proofs.Ytapflikdoiedeaa.Mem

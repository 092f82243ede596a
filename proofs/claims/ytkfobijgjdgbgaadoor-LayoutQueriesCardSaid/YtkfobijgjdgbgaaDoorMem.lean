/-
  How words and lines lie in memory: the words that the contracts of this seat use, and what keeps them. No function of the program is named here.
-/
import Derived.Test.YtkfobijgjdgbgaaDoorLin
import Derived.WalkKit
import Derived.Laws.OwnMore
import Derived.Deep.AppendLies
import Derived.Deep.Draws
import Derived.Lib.Hide
namespace Go.Proofs.YtkfobijgjdgbgaaDoor.Mem
open Go.RowKit Wd Lin

theorem block_add (a : Addr) (n : Nat) : (a.add n).block = a.block := by unfold Addr.add; split <;> rfl
theorem add_add' (a : Addr) (i j : Nat) : (a.add i).add j = a.add (i + j) := by
  unfold Addr.add
  by_cases hi : i = 0 <;> by_cases hj : j = 0 <;> simp [hi, hj, Nat.add_assoc]

/-- the cells of a list of values lie behind an address below block B -/
def At (w : World) (B : Nat) (A : Option Addr) (xs : List Value) : Prop := ∀ j u, xs[j]? = some u → ∃ ad, A = some ad ∧ ad.block < B ∧ w.cell? (ad.add j) = some u

/-- the three cells of each word -/
def cs : List W → List Value
  | [] => []
  | p :: r => .string (str p.1) :: .int .i64 p.2.1 :: .int .i64 p.2.2 :: cs r

theorem cs_length (L : List W) : (cs L).length = L.length * 3 := by
  induction L with
  | nil => rfl
  | cons p r ih => simp only [cs, List.length_cons, ih]; omega
theorem cs_append (L M : List W) : cs (L ++ M) = cs L ++ cs M := by
  induction L with
  | nil => rfl
  | cons p r ih => simp only [cs, List.cons_append, ih]
theorem cs_get0 (L : List W) (k : Nat) : (cs L)[k * 3]? = L[k]?.map fun p => .string (str p.1) := by
  induction L generalizing k with
  | nil => simp [cs]
  | cons p r ih =>
    cases k with
    | zero => simp [cs]
    | succ k => rw [show (k + 1) * 3 = k * 3 + 1 + 1 + 1 from by omega]; simp only [cs, List.getElem?_cons_succ, ih]
theorem cs_get1 (L : List W) (k : Nat) : (cs L)[k * 3 + 1]? = L[k]?.map fun p => .int .i64 p.2.1 := by
  induction L generalizing k with
  | nil => simp [cs]
  | cons p r ih =>
    cases k with
    | zero => simp [cs]
    | succ k => rw [show (k + 1) * 3 + 1 = (k * 3 + 1) + 1 + 1 + 1 from by omega]; simp only [cs, List.getElem?_cons_succ, ih]
theorem cs_get2 (L : List W) (k : Nat) : (cs L)[k * 3 + 2]? = L[k]?.map fun p => .int .i64 p.2.2 := by
  induction L generalizing k with
  | nil => simp [cs]
  | cons p r ih =>
    cases k with
    | zero => simp [cs]
    | succ k => rw [show (k + 1) * 3 + 2 = (k * 3 + 2) + 1 + 1 + 1 from by omega]; simp only [cs, List.getElem?_cons_succ, ih]
theorem cs_one (L : List W) : ∀ u ∈ cs L, u.oneCell' = true := by
  induction L with
  | nil => intro u hu; cases hu
  | cons p r ih =>
    intro u hu
    simp only [cs, List.mem_cons] at hu
    rcases hu with rfl | rfl | rfl | hu
    · rfl
    · rfl
    · rfl
    · exact ih u hu

section
variable {w w' : World} {B B' : Nat} {A : Option Addr} {xs : List Value}
theorem At.nil : At w B A [] := fun j u h => by simp at h
theorem At.keep (h : At w B A xs) (hk : ∀ p : Addr, p.block < B → w'.cell? p = w.cell? p) : At w' B A xs := fun j u hu => by
  obtain ⟨ad, e, hb, hc⟩ := h j u hu
  exact ⟨ad, e, hb, (hk _ (by rw [block_add]; exact hb)).trans hc⟩
theorem At.more (h : At w B A xs) (hB : B ≤ B') : At w B' A xs := fun j u hu => by
  obtain ⟨ad, e, hb, hc⟩ := h j u hu
  exact ⟨ad, e, by omega, hc⟩
theorem At.below (h : At w B A xs) (hb : Below B w w') : At w' B A xs := h.keep fun _ hp => hb.cell hp
end

theorem below_draws {B : Nat} {a w : World} (h : Below B a w) (n : Nat) : Below B a (w.drewN n) := ⟨h.os, h.tape, h.output, h.size, h.block⟩
theorem below_after {B : Nat} {a w : World} (h : Below B a w) : ∀ n, Below B a (w.drewN n) := below_draws h

/-- the slice of n elements at A reads as the list of words L, below block B -/
def Words (w : World) (B : Nat) (A : Option Addr) (n : Nat) (L : List W) : Prop := L.length = n ∧ At w B A (cs L)
/-- the slice value v of n elements is the call's own, and reads as the list of words L -/
def Own (w : World) (base : Nat) (v : Value) (n : Nat) (L : List W) : Prop := L.length = n ∧ w.ownsRow base 74 3 v n (cs L)

section
variable {w w' : World} {B B' n : Nat} {A : Option Addr} {L : List W}
theorem Words.nil (w : World) (B : Nat) (A : Option Addr) : Words w B A 0 [] := ⟨rfl, At.nil⟩
theorem Words.below (h : Words w B A n L) (hb : Below B w w') : Words w' B A n L := ⟨h.1, h.2.below hb⟩
theorem Words.more (h : Words w B A n L) (hB : B ≤ B') : Words w B' A n L := ⟨h.1, h.2.more hB⟩
theorem cell_next (ad : Addr) (i j : Nat) (hj : 0 < j) : ad.add (i + j) = (⟨(ad.add i).block, (ad.add i).off + j, none⟩ : Addr) := by
  unfold Addr.add
  by_cases hi : i = 0
  · subst hi; simp; intro e; omega
  · simp [hi, Nat.add_assoc]
/-- the element at k, as the walk loads it: its first cell and the ones behind it -/
theorem Words.load {k : Nat} (h : Words w B A n L) (hk : k < n) : ∃ ad p, A = some ad ∧ ad.block < B ∧ L[k]? = some p ∧ w.cell? (ad.add (k * 3)) = some (.string (str p.1)) ∧ w.cell? ⟨(ad.add (k * 3)).block, (ad.add (k * 3)).off + 1, none⟩ = some (.int .i64 p.2.1) ∧ w.cell? ⟨(ad.add (k * 3)).block, (ad.add (k * 3)).off + 2, none⟩ = some (.int .i64 p.2.2) := by
  have hk' : k < L.length := by have := h.1; omega
  have e : L[k]? = some L[k] := List.getElem?_eq_getElem hk'
  obtain ⟨ad, e1, hb, h0⟩ := h.2 (k * 3) (.string (str L[k].1)) (by rw [cs_get0, e]; rfl)
  obtain ⟨ad', e2, _, h1⟩ := h.2 (k * 3 + 1) (.int .i64 L[k].2.1) (by rw [cs_get1, e]; rfl)
  obtain ⟨ad'', e3, _, h2⟩ := h.2 (k * 3 + 2) (.int .i64 L[k].2.2) (by rw [cs_get2, e]; rfl)
  have : ad = ad' := by rw [e1] at e2; exact Option.some.inj e2
  subst this
  have : ad = ad'' := by rw [e1] at e3; exact Option.some.inj e3
  subst this
  rw [cell_next _ _ _ (by omega)] at h1 h2
  exact ⟨ad, L[k], e1, hb, e, h0, h1, h2⟩
theorem Own.form {base : Nat} {v : Value} (h : Own w base v n L) : ∃ A c, v = .slice A n c ∧ n ≤ c ∧ c ≤ maxLen := by
  rcases h.2.2 with ⟨rfl, rfl⟩ | ⟨g, cap, cur, rfl, _, _, hc, hm, _⟩
  · exact ⟨none, 0, rfl, Nat.le_refl _, Nat.zero_le _⟩
  · exact ⟨_, cap, rfl, hc, hm⟩
theorem Own.words {base c : Nat} (h : Own w base (.slice A n c) n L) : Words w w.heap.size A n L := by
  refine ⟨h.1, fun j u hu => ?_⟩
  have hl : j < L.length * 3 := by rw [← cs_length]; exact (List.getElem?_eq_some_iff.1 hu).1
  rcases h.2.2 with ⟨e, rfl⟩ | ⟨g, cap, cur, e, _, hh, _⟩
  · have := h.1; omega
  · have hA : A = some ⟨g, 0, none⟩ := by injection e
    subst hA
    exact ⟨_, rfl, lt_of_block hh, h.2.cells (g := g) rfl j u hu⟩
theorem cs_set (M : List W) (p : W) (t : Bs) : (cs (M ++ [p])).set (M.length * 3) (.string (str t)) = cs (M ++ [(t, p.2)]) := by
  rw [cs_append, cs_append, List.set_append_right _ _ (by rw [cs_length]; omega), cs_length]
  simp [cs]
theorem Own.last {base q c : Nat} {M : List W} {p : W} (h : Own w base (.slice A (q + 1) c) (q + 1) (M ++ [p])) :
    ∃ g, A = some ⟨g, 0, none⟩ ∧ base ≤ g ∧ g < w.heap.size ∧ w.cell? ⟨g, q * 3, none⟩ = some (.string (str p.1)) ∧ w.frozen? ⟨g, q * 3, none⟩ = false := by
  have hq : M.length = q := by have := h.1; simp at this; exact this
  rcases h.2.2 with ⟨_, e⟩ | ⟨g, cap, cur, e, hb, hh, _⟩
  · omega
  · have hA : A = some ⟨g, 0, none⟩ := by injection e
    subst hA
    refine ⟨g, rfl, hb, lt_of_block hh, ?_, h.2.frozenAt _⟩
    rw [h.2.cellAt _ (by omega), cs_get0]; simp [← hq]
theorem Own.put {base q c g : Nat} {M : List W} {p : W} (h : Own w base (.slice (some ⟨g, 0, none⟩) (q + 1) c) (q + 1) (M ++ [p])) (t : Bs) :
    Own (w.setCell ⟨g, q * 3, none⟩ (.string (str t))) base (.slice (some ⟨g, 0, none⟩) (q + 1) c) (q + 1) (M ++ [(t, p.2)]) := by
  have hq : M.length = q := by have := h.1; simp at this; exact this
  refine ⟨by simpa using h.1, ?_⟩
  rw [← cs_set, hq]
  exact (h.2.stored _ _).1
theorem Own.alloc {base : Nat} {v : Value} (h : Own w base v n L) (o : Obj) : Own (w.alloc o) base v n L := ⟨h.1, h.2.alloc o⟩
theorem Own.drewN {base : Nat} {v : Value} (h : Own w base v n L) (k : Nat) : Own (w.drewN k) base v n L := h
theorem Own.below {base : Nat} {v : Value} (h : Own w base v n L) (hb : Below B w w') (hB : w.heap.size ≤ B) : Own w' base v n L :=
  ⟨h.1, h.2.kept (row := none) ⟨hb.os, hb.tape, hb.output, hb.size, fun k hk _ => hb.block k (by omega)⟩ (by
    cases hv : v.ownBlock with
    | none => exact .inl rfl
    | some g => exact .inr (by simp))⟩
theorem Own.base_ {base base' : Nat} {v : Value} (h : Own w base v n L) (hB : base' ≤ base) : Own w base' v n L := by
  refine ⟨h.1, h.2.1, ?_⟩
  rcases h.2.2 with hh | ⟨g, cap, cur, e, hb, hr⟩
  · exact .inl hh
  · exact .inr ⟨g, cap, cur, e, by omega, hr⟩
theorem Own.nil (w : World) (base : Nat) : Own w base (.slice none 0 0) 0 [] := ⟨rfl, World.ownsRow_nil _ _ _ _⟩
theorem Own.push {base : Nat} {v : Value} {t : Bs} {a b : Int} (hl : L.length = n) (h : w.ownsRow base 74 3 v (n + 1) (cs L ++ [.string (str t), .int .i64 a, .int .i64 b])) : Own w base v (n + 1) (L ++ [(t, a, b)]) :=
  ⟨by simp [hl], by rw [cs_append]; exact h⟩
theorem new_word (w : World) (s : ByteArray) (a b : Int) (e : TypeId) : ∀ (j : Nat) (u : Value), [Value.string s, Value.int .i64 a, Value.int .i64 b][j]? = some u → (w.alloc (.cells #[.string s, .int .i64 a, .int .i64 b] e)).cell? ((⟨w.heap.size, 0, none⟩ : Addr).add j) = some u := by
  intro j u hu
  match j, hu with
  | 0, hu => simp at hu; subst hu; simp [Addr.add]
  | 1, hu => simp at hu; subst hu; simp [Addr.add]
  | 2, hu => simp at hu; subst hu; simp [Addr.add]
theorem one_word (s : ByteArray) (a b : Int) : ∀ u ∈ [Value.string s, Value.int .i64 a, Value.int .i64 b], u.oneCell' = true := by
  intro u hu
  simp only [List.mem_cons, List.not_mem_nil, or_false] at hu
  rcases hu with rfl | rfl | rfl <;> rfl
/-- behind the append of one word to a list of the call's own -/
theorem appended {B cc : Nat} {w wr w1 : World} {v : Value} {t : Bs} {a b : Int} {o : Obj} (hbw : Below B w wr) (hB : B ≤ wr.heap.size) (hl : L.length = n) (hown : wr.ownsRow B 74 3 (.slice A n cc) n (cs L))
    (hown' : w1.ownsRow B 74 3 v (n + 1) (cs L ++ [.string (str t), .int .i64 a, .int .i64 b])) (hgrow : (wr.alloc o).grownBy w1 (Value.slice A n cc).ownBlock) :
    ∃ A' c', v = .slice A' (n + 1) c' ∧ Own w1 B (.slice A' (n + 1) c') (n + 1) (L ++ [(t, a, b)]) ∧ Below B w w1 := by
  have h := Own.push hl hown'
  obtain ⟨A', c', rfl, _⟩ := h.form
  refine ⟨A', c', rfl, h, ?_⟩
  exact (hbw.alloc hB _).grown hgrow (by simp; omega) (fun k hk => (hown.lt k hk).1)
end

/-! ### lists of lists of words -/

/-- the value u is a slice of the call's own that reads as the list of words L -/
def Row (w : World) (base : Nat) (u : Value) (L : List W) : Prop := Own w base u L.length L
/-- the values us are such slices -/
def Rows (w : World) (base : Nat) : List Value → List (List W) → Prop
  | [], [] => True
  | u :: us, L :: LL => Row w base u L ∧ Rows w base us LL
  | _, _ => False
/-- the slice value v of n elements is the call's own, and reads as the list of lists T -/
def OwnL (w : World) (base : Nat) (v : Value) (n : Nat) (T : List (List W)) : Prop := ∃ us, T.length = n ∧ w.ownsRow base 71 1 v n us ∧ Rows w base us T

theorem Rows.imp {w w' : World} {base base' : Nat} (h : ∀ u L, Row w base u L → Row w' base' u L) : ∀ {us : List Value} {T : List (List W)}, Rows w base us T → Rows w' base' us T
  | [], [], _ => trivial
  | _ :: _, _ :: _, hr => ⟨h _ _ hr.1, Rows.imp h hr.2⟩
theorem Rows.snoc {w : World} {base : Nat} {u : Value} {L : List W} (hu : Row w base u L) : ∀ {us : List Value} {T : List (List W)}, Rows w base us T → Rows w base (us ++ [u]) (T ++ [L])
  | [], [], _ => ⟨hu, trivial⟩
  | _ :: _, _ :: _, hr => ⟨hr.1, Rows.snoc hu hr.2⟩
theorem Rows.get {w : World} {base : Nat} {us : List Value} {T : List (List W)} (hr : Rows w base us T) {k : Nat} {L : List W} (h : T[k]? = some L) : ∃ u, us[k]? = some u ∧ Row w base u L := by
  induction us generalizing T k with
  | nil =>
    cases T with
    | nil => simp at h
    | cons M T => exact hr.elim
  | cons u us ih =>
    cases T with
    | nil => exact hr.elim
    | cons M T =>
      cases k with
      | zero => simp at h; subst h; exact ⟨u, rfl, hr.1⟩
      | succ k => simp at h; obtain ⟨x, h1, h2⟩ := ih hr.2 h; exact ⟨x, by simpa using h1, h2⟩
section
variable {w w' : World} {B n : Nat} {T : List (List W)}
theorem OwnL.nil (w : World) (base : Nat) : OwnL w base (.slice none 0 0) 0 [] := ⟨[], rfl, World.ownsRow_nil _ _ _ _, trivial⟩
theorem OwnL.below {base : Nat} {v : Value} (h : OwnL w base v n T) (hb : Below B w w') (hB : w.heap.size ≤ B) : OwnL w' base v n T := by
  obtain ⟨us, h1, h2, h3⟩ := h
  refine ⟨us, h1, h2.kept (row := none) ⟨hb.os, hb.tape, hb.output, hb.size, fun k hk _ => hb.block k (by omega)⟩ (by
    cases hv : v.ownBlock with
    | none => exact .inl rfl
    | some g => exact .inr (by simp)), Rows.imp (fun u L hr => Own.below hr hb hB) h3⟩
theorem OwnL.base_ {base base' : Nat} {v : Value} (h : OwnL w base v n T) (hB : base' ≤ base) : OwnL w base' v n T := by
  obtain ⟨us, h1, h2, h3⟩ := h
  refine ⟨us, h1, ⟨h2.1, ?_⟩, Rows.imp (fun u L hr => Own.base_ hr hB) h3⟩
  rcases h2.2 with hh | ⟨g, cap, cur, e, hb, hr⟩
  · exact .inl hh
  · exact .inr ⟨g, cap, cur, e, by omega, hr⟩
theorem OwnL.form {base : Nat} {v : Value} (h : OwnL w base v n T) : ∃ A c, v = .slice A n c ∧ n ≤ c ∧ c ≤ maxLen := by
  obtain ⟨us, h1, h2, h3⟩ := h
  rcases h2.2 with ⟨rfl, rfl⟩ | ⟨g, cap, cur, rfl, _, _, hc, hm, _⟩
  · exact ⟨none, 0, rfl, Nat.le_refl _, Nat.zero_le _⟩
  · exact ⟨_, cap, rfl, hc, hm⟩
theorem OwnL.drewN {base : Nat} {v : Value} (h : OwnL w base v n T) (k : Nat) : OwnL (w.drewN k) base v n T := by
  obtain ⟨us, h1, h2, h3⟩ := h
  exact ⟨us, h1, h2, Rows.imp (w := w) (w' := w.drewN k) (fun u L hr => Own.drewN (n := L.length) hr k) h3⟩
/-- the line at k, as the walk loads it -/
theorem OwnL.load {base k c : Nat} {A : Option Addr} (h : OwnL w base (.slice A n c) n T) (hk : k < n) : ∃ ad L A1 c1, A = some ad ∧ ad.block < w.heap.size ∧ T[k]? = some L ∧ w.cell? (ad.add k) = some (.slice A1 L.length c1) ∧ Words w w.heap.size A1 L.length L ∧ L.length ≤ c1 ∧ c1 ≤ maxLen := by
  obtain ⟨us, h1, h2, h3⟩ := h
  have hk' : k < T.length := by omega
  have e : T[k]? = some T[k] := List.getElem?_eq_getElem hk'
  obtain ⟨u, hu, hr⟩ := h3.get e
  obtain ⟨A1, c1, rfl, q1, q2⟩ := Own.form hr
  have hlen := h2.1
  rcases h2.2 with ⟨e2, e3⟩ | ⟨g, cap, cur, e2, _, hh, _⟩
  · rw [e3] at hlen; simp at hlen; omega
  · have hA : A = some ⟨g, 0, none⟩ := by injection e2
    subst hA
    exact ⟨_, T[k], A1, c1, rfl, lt_of_block hh, e, h2.cells (g := g) rfl k _ hu, Own.words hr, q1, q2⟩

theorem own_ne {base base' n m : Nat} {v u : Value} {xs ys : List Value} {g : Nat} (h : w.ownsRow base 71 1 v n xs) (h' : w.ownsRow base' 74 3 u m ys) (hg : u.ownBlock = some g) : v.ownBlock ≠ some g := by
  rcases h.2 with ⟨rfl, _⟩ | ⟨g1, cap, cur, rfl, _, hh, _⟩
  · simp [Value.ownBlock]
  · rcases h'.2 with ⟨rfl, _⟩ | ⟨g2, cap2, cur2, rfl, _, hh2, _⟩
    · simp [Value.ownBlock] at hg
    · simp [Value.ownBlock] at hg ⊢
      rintro rfl
      subst hg
      rw [hh] at hh2
      injection hh2 with hh2
      injection hh2 with _ ht
      exact absurd ht (by decide)
theorem Own.kept {base n m : Nat} {v u : Value} {L : List W} {xs : List Value} {base' : Nat} (h : Own w base' u m L) (hv : w.ownsRow base 71 1 v n xs) (hg : w.grownBy w' v.ownBlock) : Own w' base' u m L := by
  refine ⟨h.1, h.2.kept (row := v.ownBlock) hg ?_⟩
  cases hu : u.ownBlock with
  | none => exact .inl rfl
  | some g => exact .inr (fun e => own_ne hv h.2 hu (by rw [← e]))
end

end Go.Proofs.YtkfobijgjdgbgaaDoor.Mem

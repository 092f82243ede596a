/-
  Lists of lists of strings that a call makes itself, line by line, word by word: what the memory holds, and what each step does to it. No function of the program is named here.
-/
import Derived.Test.YthjdhcldocpfjaaStrs
namespace Go.Proofs.Ythjdhcldocpfjaa.Made
open Go.RowKit Wd Lin Mem Strs

def sv (L : List ByteArray) : List Value := L.map Value.string
theorem sv_len (L : List ByteArray) : (sv L).length = L.length := List.length_map _
theorem sv_snoc (L : List ByteArray) (s : ByteArray) : sv (L ++ [s]) = sv L ++ [.string s] := by simp [sv]

/-- an earlier line: it lies below block Bq -/
def Old (w : World) (B Bq : Nat) (u : Value) (L : List ByteArray) : Prop := w.ownsRow B 9 1 u L.length (sv L) ∧ ∀ g, u.ownBlock = some g → g < Bq
def Olds (w : World) (B Bq : Nat) : List Value → List (List ByteArray) → Prop
  | [], [] => True
  | u :: us, L :: M => Old w B Bq u L ∧ Olds w B Bq us M
  | _, _ => False
/-- the lines M, and the last line L, which lies from block Bq on -/
structure St (w : World) (B Bq : Nat) (v : Value) (us : List Value) (u : Value) (M : List (List ByteArray)) (L : List ByteArray) : Prop where
  le1 : B ≤ Bq
  le2 : Bq ≤ w.heap.size
  outer : w.ownsRow B 39 1 v (us.length + 1) (us ++ [u])
  olds : Olds w B Bq us M
  last : w.ownsRow Bq 9 1 u L.length (sv L)

section
variable {w w' : World} {B B' Bq n : Nat} {u v : Value} {us : List Value} {L : List ByteArray} {M : List (List ByteArray)}

theorem own_ne {base base' n m : Nat} {v u : Value} {xs ys : List Value} {g : Nat} (h : w.ownsRow base 39 1 v n xs) (h' : w.ownsRow base' 9 1 u m ys) (hg : u.ownBlock = some g) : v.ownBlock ≠ some g := by
  rcases h.2 with ⟨rfl, _⟩ | ⟨g1, cap, cur, rfl, _, hh, _⟩
  · simp [Value.ownBlock]
  · rcases h'.2 with ⟨rfl, _⟩ | ⟨g2, cap2, cur2, rfl, _, hh2, _⟩
    · simp [Value.ownBlock] at hg
    · simp [Value.ownBlock] at hg ⊢
      rintro rfl
      subst hg
      rw [hh] at hh2
      injection hh2 with hh2
      injection hh2 with _ ht
      exact absurd ht (by decide)
theorem inner_kept {base base' n m : Nat} {xs ys : List Value} (h : w.ownsRow base' 9 1 u m ys) (hv : w.ownsRow base 39 1 v n xs) (hg : w.grownBy w' v.ownBlock) : w'.ownsRow base' 9 1 u m ys := by
  refine h.kept (row := v.ownBlock) hg ?_
  cases hu : u.ownBlock with
  | none => exact .inl rfl
  | some g => exact .inr (fun e => own_ne hv h hu (by rw [← e]))
theorem outer_kept {base base' n m : Nat} {xs ys : List Value} (h : w.ownsRow base' 9 1 u m ys) (hv : w.ownsRow base 39 1 v n xs) (hg : w.grownBy w' u.ownBlock) : w'.ownsRow base 39 1 v n xs := by
  refine hv.kept (row := u.ownBlock) hg ?_
  cases hu : v.ownBlock with
  | none => exact .inl rfl
  | some g =>
    refine .inr (fun e => ?_)
    exact own_ne hv h e.symm hu
theorem base_le {e : TypeId} {size m : Nat} {ys : List Value} (h : w.ownsRow B e size u m ys) (hB : B' ≤ B) : w.ownsRow B' e size u m ys := by
  refine ⟨h.1, ?_⟩
  rcases h.2 with hh | ⟨g, cap, cur, e, hb, hr⟩
  · exact .inl hh
  · exact .inr ⟨g, cap, cur, e, by omega, hr⟩
theorem block_ge {e : TypeId} {size m : Nat} {ys : List Value} (h : w.ownsRow B e size u m ys) (g : Nat) (hg : u.ownBlock = some g) : B ≤ g ∧ g < w.heap.size := h.lt g hg

theorem Olds.imp (h : ∀ u L, Old w B Bq u L → Old w' B' n u L) : ∀ {us : List Value} {M : List (List ByteArray)}, Olds w B Bq us M → Olds w' B' n us M
  | [], [], _ => trivial
  | _ :: _, _ :: _, hr => ⟨h _ _ hr.1, Olds.imp h hr.2⟩
theorem Olds.snoc (hu : Old w B Bq u L) : ∀ {us : List Value} {M : List (List ByteArray)}, Olds w B Bq us M → Olds w B Bq (us ++ [u]) (M ++ [L])
  | [], [], _ => ⟨hu, trivial⟩
  | _ :: _, _ :: _, hr => ⟨hr.1, Olds.snoc hu hr.2⟩
theorem Olds.len : ∀ {us : List Value} {M : List (List ByteArray)}, Olds w B Bq us M → us.length = M.length
  | [], [], _ => rfl
  | _ :: _, _ :: _, hr => by rw [List.length_cons, List.length_cons, Olds.len hr.2]
theorem Olds.get (hr : Olds w B Bq us M) {k : Nat} (h : M[k]? = some L) : ∃ u, us[k]? = some u ∧ Old w B Bq u L := by
  induction us generalizing M k with
  | nil =>
    cases M with
    | nil => simp at h
    | cons _ _ => exact hr.elim
  | cons x us ih =>
    cases M with
    | nil => exact hr.elim
    | cons _ M =>
      cases k with
      | zero => simp at h; subst h; exact ⟨x, rfl, hr.1⟩
      | succ k => simp at h; obtain ⟨y, h1, h2⟩ := ih hr.2 h; exact ⟨y, by simpa using h1, h2⟩

theorem grown_set (w : World) (p : Addr) (x : Value) : w.grownBy (w.setCell p x) (some p.block) :=
  ⟨rfl, rfl, rfl, by simp, fun k hk hne => Below.heap_setCell w p x k (fun e => hne (by rw [e]))⟩

theorem new_one (w : World) (x : Value) (e : TypeId) : ∀ (j : Nat) (y : Value), [x][j]? = some y → (w.alloc (.cells #[x] e)).cell? ((⟨w.heap.size, 0, none⟩ : Addr).add j) = some y := by
  intro j y hy
  match j, hy with
  | 0, hy => simp at hy; subst hy; simp [Addr.add]

/-- a new line is begun -/
theorem St.line {w2 : World} {v' : Value} {o : Obj} (h : St w B Bq v us u M L) (hown' : w2.ownsRow B 39 1 v' (us.length + 1 + 1) ((us ++ [u]) ++ [.slice none 0 0])) (hg : (w.alloc o).grownBy w2 v.ownBlock) :
    St w2 B w2.heap.size v' (us ++ [u]) (.slice none 0 0) (M ++ [L]) [] := by
  have hz : w.heap.size ≤ w2.heap.size := by have := hg.size; simp at this; omega
  have hk : ∀ u L, Old w B Bq u L → Old w2 B w2.heap.size u L := fun u L hr =>
    ⟨inner_kept (hr.1.alloc o) (h.outer.alloc o) hg, fun g e => by have := hr.2 g e; have := h.le2; omega⟩
  refine ⟨by have := h.le1; have := h.le2; omega, Nat.le_refl _, by simpa using hown', (h.olds.imp hk).snoc ⟨?_, ?_⟩, World.ownsRow_nil _ _ _ _⟩
  · exact base_le (inner_kept (h.last.alloc o) (h.outer.alloc o) hg) h.le1
  · intro g e
    have := block_ge h.last g e
    omega
/-- the first line is begun -/
theorem St.first {w2 : World} {v' : Value} (hB : B ≤ w2.heap.size) (hown' : w2.ownsRow B 39 1 v' 1 [.slice none 0 0]) : St w2 B w2.heap.size v' [] (.slice none 0 0) [] [] :=
  ⟨hB, Nat.le_refl _, by simpa using hown', trivial, World.ownsRow_nil _ _ _ _⟩
/-- a word is put behind the last line -/
theorem St.word {w2 : World} {g c : Nat} {u' : Value} {s : ByteArray} {o : Obj} (h : St w B Bq (.slice (some ⟨g, 0, none⟩) (us.length + 1) c) us u M L)
    (hown' : w2.ownsRow Bq 9 1 u' (L.length + 1) (sv L ++ [.string s])) (hg : (w.alloc o).grownBy w2 u.ownBlock) :
    St (w2.setCell ⟨g, us.length, none⟩ u') B Bq (.slice (some ⟨g, 0, none⟩) (us.length + 1) c) us u' M (L ++ [s]) := by
  have hz : w.heap.size ≤ w2.heap.size := by have := hg.size; simp at this; omega
  have ho : w2.ownsRow B 39 1 (.slice (some ⟨g, 0, none⟩) (us.length + 1) c) (us.length + 1) (us ++ [u]) := outer_kept (h.last.alloc o) (h.outer.alloc o) hg
  have hst := (ho.stored us.length u').1
  have hset : (us ++ [u]).set us.length u' = us ++ [u'] := by
    rw [List.set_append_right _ _ (Nat.le_refl _)]; simp
  rw [hset] at hst
  have hgs := grown_set w2 ⟨g, us.length, none⟩ u'
  have hk : ∀ x X, Old w B Bq x X → Old (w2.setCell ⟨g, us.length, none⟩ u') B Bq x X := fun x X hr => by
    refine ⟨?_, hr.2⟩
    have h1 : w2.ownsRow B 9 1 x X.length (sv X) := (hr.1.alloc o).kept (row := u.ownBlock) hg (by
      cases hx : x.ownBlock with
      | none => exact .inl rfl
      | some gx =>
        refine .inr (fun e => ?_)
        have h1 := hr.2 gx hx
        have h2 := block_ge h.last gx e.symm
        omega)
    exact inner_kept h1 ho hgs
  refine ⟨h.le1, by have := h.le2; have := hgs.size; omega, hst, h.olds.imp hk, ?_⟩
  have := inner_kept hown' ho hgs
  rw [sv_snoc, List.length_append]
  exact this
theorem St.alloc (h : St w B Bq v us u M L) (o : Obj) : St (w.alloc o) B Bq v us u M L :=
  ⟨h.le1, by have := h.le2; simp; omega, h.outer.alloc o, h.olds.imp fun u L hr => ⟨hr.1.alloc o, hr.2⟩, h.last.alloc o⟩
theorem St.mid {w2 : World} {g c : Nat} {o : Obj} (h : St w B Bq (.slice (some ⟨g, 0, none⟩) (us.length + 1) c) us u M L) (hg : (w.alloc o).grownBy w2 u.ownBlock) :
    w2.cell? ⟨g, us.length, none⟩ = some u ∧ w2.frozen? ⟨g, us.length, none⟩ = false := by
  have ho : w2.ownsRow B 39 1 (.slice (some ⟨g, 0, none⟩) (us.length + 1) c) (us.length + 1) (us ++ [u]) := outer_kept (h.last.alloc o) (h.outer.alloc o) hg
  refine ⟨?_, ho.frozenAt _⟩
  rw [ho.cellAt _ (by omega)]
  simp
theorem St.cell {g c : Nat} (h : St w B Bq (.slice (some ⟨g, 0, none⟩) (us.length + 1) c) us u M L) : w.cell? ⟨g, us.length, none⟩ = some u ∧ w.frozen? ⟨g, us.length, none⟩ = false ∧ B ≤ g ∧ g < w.heap.size := by
  refine ⟨?_, h.outer.frozenAt _, block_ge h.outer g rfl⟩
  rw [h.outer.cellAt _ (by omega)]
  simp
theorem St.form (h : St w B Bq v us u M L) : ∃ g c, v = .slice (some ⟨g, 0, none⟩) (us.length + 1) c ∧ us.length + 1 ≤ c ∧ c ≤ maxLen := by
  rcases h.outer.2 with ⟨_, e⟩ | ⟨g, cap, cur, rfl, _, _, hc, hm, _⟩
  · omega
  · exact ⟨g, cap, rfl, hc, hm⟩
theorem St.lastForm (h : St w B Bq v us u M L) : ∃ A c, u = .slice A L.length c ∧ L.length ≤ c ∧ c ≤ maxLen := by
  rcases h.last.2 with ⟨e1, e2⟩ | ⟨g, cap, cur, rfl, _, _, hc, hm, _⟩
  · rw [e2]
    exact ⟨none, 0, e1, Nat.le_refl _, Nat.zero_le _⟩
  · exact ⟨_, cap, rfl, hc, hm⟩

theorem row_of_own {A : Option Addr} {c : Nat} (h : w.ownsRow B 9 1 (.slice A L.length c) L.length (sv L)) : Row w w.heap.size A L.length L := by
  refine ⟨rfl, fun j s hs => ?_⟩
  have hu : (sv L)[j]? = some (.string s) := by simp [sv, hs]
  rcases h.2 with ⟨e, e2⟩ | ⟨g, cap, cur, e, _, hh, _⟩
  · have := (List.getElem?_eq_some_iff.1 hs).1; omega
  · have hA : A = some ⟨g, 0, none⟩ := by injection e
    subst hA
    exact ⟨_, rfl, lt_of_block hh, h.cells (g := g) rfl j _ hu⟩
theorem own_form (h : w.ownsRow B 9 1 u L.length (sv L)) : ∃ A c, u = .slice A L.length c ∧ L.length ≤ c ∧ c ≤ maxLen := by
  rcases h.2 with ⟨e1, e2⟩ | ⟨g, cap, cur, rfl, _, _, hc, hm, _⟩
  · rw [e2]
    exact ⟨none, 0, e1, Nat.le_refl _, Nat.zero_le _⟩
  · exact ⟨_, cap, rfl, hc, hm⟩
/-- what was made reads as the list of lists -/
theorem St.grid {A : Option Addr} {k c : Nat} (h : St w B Bq (.slice A k c) us u M L) : Grid w w.heap.size A k (M ++ [L]) := by
  have hlen := h.olds.len
  obtain ⟨g, c', e, _, _⟩ := h.form
  cases e
  refine ⟨by simp [hlen], fun j X hX => ?_⟩
  have hj : j < us.length + 1 := by have := (List.getElem?_eq_some_iff.1 hX).1; simp at this; omega
  have hlt := (block_ge h.outer g rfl).2
  have hcell : ∀ y, (us ++ [u])[j]? = some y → w.cell? ((⟨g, 0, none⟩ : Addr).add j) = some y := fun y hy => h.outer.cells (g := g) rfl j y hy
  by_cases hju : j < us.length
  · have hX' : M[j]? = some X := by rw [List.getElem?_append_left (by omega)] at hX; exact hX
    obtain ⟨y, hy, ho⟩ := h.olds.get hX'
    obtain ⟨A1, c1, rfl, q1, q2⟩ := own_form ho.1
    exact ⟨_, A1, c1, rfl, hlt, hcell _ (by rw [List.getElem?_append_left hju]; exact hy), row_of_own ho.1, q1, by unfold maxLen at q2; omega⟩
  · obtain rfl : j = us.length := by omega
    have hX' : X = L := by rw [hlen] at hX; simp at hX; exact hX.symm
    subst hX'
    obtain ⟨A1, c1, rfl, q1, q2⟩ := h.lastForm
    exact ⟨_, A1, c1, rfl, hlt, hcell _ (by simp), row_of_own h.last, q1, by unfold maxLen at q2; omega⟩
end
end Go.Proofs.Ythjdhcldocpfjaa.Made

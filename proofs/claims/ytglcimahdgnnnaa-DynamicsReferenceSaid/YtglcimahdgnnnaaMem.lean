/-
  How cells and numbers lie in memory: records in slices, rows of numbers, and what keeps them. No function of the program is named here.
-/
import Derived.Test.YtglcimahdgnnnaaDyn
import Derived.WalkKit
import Derived.Laws.OwnMore
import Derived.Deep.AppendLies
import Derived.Deep.Draws
import Derived.Deep.OwnRows
import Derived.Lib.Hide
namespace Go.Proofs.Ytglcimahdgnnnaa.Mem
open Go.RowKit Dyn
set_option linter.unusedVariables false

theorem block_add (a : Addr) (n : Nat) : (a.add n).block = a.block := by unfold Addr.add; split <;> rfl
theorem add_add' (a : Addr) (i j : Nat) : (a.add i).add j = a.add (i + j) := by
  unfold Addr.add
  by_cases hi : i = 0 <;> by_cases hj : j = 0 <;> simp [hi, hj, Nat.add_assoc]

/-- the cells of a list of values lie behind an address below block B -/
def At (w : World) (B : Nat) (A : Option Addr) (xs : List Value) : Prop := ∀ j u, xs[j]? = some u → ∃ ad, A = some ad ∧ ad.block < B ∧ w.cell? (ad.add j) = some u

section
variable {w w' : World} {B B' : Nat} {A : Option Addr} {xs : List Value}
theorem At.nil : At w B A [] := fun j u h => by simp at h
theorem At.keep (h : At w B A xs) (hk : ∀ p : Addr, p.block < B → w'.cell? p = w.cell? p) : At w' B A xs := fun j u hu => by
  obtain ⟨ad, e, hb, hc⟩ := h j u hu
  exact ⟨ad, e, hb, (hk _ (by rw [block_add]; exact hb)).trans hc⟩
theorem At.more (h : At w B A xs) (hB : B ≤ B') : At w B' A xs := fun j u hu => by
  obtain ⟨ad, e, hb, hc⟩ := h j u hu
  exact ⟨ad, e, by omega, hc⟩
theorem At.below (h : At w B A xs) (hb : Below B w w') : At w' B A xs := h.keep fun _ hp => hb.cell hp
end

theorem below_draws {B : Nat} {a w : World} (h : Below B a w) (n : Nat) : Below B a (w.drewN n) := ⟨h.os, h.tape, h.output, h.size, h.block⟩
theorem below_after {B : Nat} {a w : World} (h : Below B a w) : ∀ n, Below B a (w.drewN n) := below_draws h


theorem cell_next (ad : Addr) (i j : Nat) (hj : 0 < j) : ad.add (i + j) = (⟨(ad.add i).block, (ad.add i).off + j, none⟩ : Addr) := by
  unfold Addr.add
  by_cases hi : i = 0
  · subst hi; simp; intro e; omega
  · simp [hi, Nat.add_assoc]

/-- how the elements of a slice lie in memory -/
structure Rec (α : Type) where
  e : TypeId
  k : Nat
  cells : α → List Value
  pos : 0 < k
  len : ∀ a, (cells a).length = k
  one : ∀ a, ∀ u ∈ cells a, u.oneCell' = true

section
variable {α : Type} {R : Rec α}
def Rec.cs (R : Rec α) (L : List α) : List Value := L.flatMap R.cells
theorem cs_length (L : List α) : (R.cs L).length = L.length * R.k := by
  induction L with
  | nil => simp [Rec.cs]
  | cons a L ih => simp only [Rec.cs, List.flatMap_cons, List.length_append, R.len, List.length_cons] at ih ⊢; rw [ih, Nat.add_mul]; omega
theorem cs_append (L M : List α) : R.cs (L ++ M) = R.cs L ++ R.cs M := by simp [Rec.cs]
theorem cs_single (a : α) : R.cs [a] = R.cells a := by simp [Rec.cs]
theorem cs_get (L : List α) : ∀ (i j : Nat), j < R.k → (R.cs L)[i * R.k + j]? = L[i]?.bind fun a => (R.cells a)[j]? := by
  induction L with
  | nil => intro i j _; simp [Rec.cs]
  | cons a L ih =>
    intro i j hj
    cases i with
    | zero =>
      simp only [Rec.cs, List.flatMap_cons, Nat.zero_mul, Nat.zero_add, List.getElem?_cons_zero, Option.bind_some]
      rw [List.getElem?_append_left (by rw [R.len]; exact hj)]
    | succ i =>
      have h := ih i j hj
      simp only [Rec.cs, List.flatMap_cons, List.getElem?_cons_succ] at h ⊢
      rw [List.getElem?_append_right (by rw [R.len, Nat.add_mul]; omega), R.len, ← h]
      congr 1
      rw [Nat.add_mul]; omega
theorem cs_one (L : List α) : ∀ u ∈ R.cs L, u.oneCell' = true := by
  intro u hu
  obtain ⟨a, _, h⟩ := List.mem_flatMap.1 hu
  exact R.one a u h

/-- the slice of n elements at A reads as the list L, below block B -/
def Rd (R : Rec α) (w : World) (B : Nat) (A : Option Addr) (n : Nat) (L : List α) : Prop := L.length = n ∧ At w B A (R.cs L)
/-- the slice value v of n elements is the call's own, and reads as the list L -/
def Own (R : Rec α) (w : World) (base : Nat) (v : Value) (n : Nat) (L : List α) : Prop := L.length = n ∧ w.ownsRow base R.e R.k v n (R.cs L)

variable {w w' : World} {B B' n : Nat} {A : Option Addr} {L : List α}
theorem Rd.nil (w : World) (B : Nat) (A : Option Addr) : Rd R w B A 0 [] := ⟨rfl, by intro j u h; simp [Rec.cs] at h⟩
theorem Rd.below (h : Rd R w B A n L) (hb : Below B w w') : Rd R w' B A n L := ⟨h.1, h.2.below hb⟩
theorem Rd.more (h : Rd R w B A n L) (hB : B ≤ B') : Rd R w B' A n L := ⟨h.1, h.2.more hB⟩
theorem Rd.keep (h : Rd R w B A n L) (hk : ∀ p : Addr, p.block < B → w'.cell? p = w.cell? p) : Rd R w' B A n L := ⟨h.1, h.2.keep hk⟩
theorem Rd.grow (h : Rd R w B A n L) (hb : Below B w w') (hB : B ≤ B') : Rd R w' B' A n L := (h.below hb).more hB
theorem Rd.drewN (h : Rd R w B A n L) (k : Nat) : Rd R (w.drewN k) B A n L := h
theorem Rd.at_ {i : Nat} (h : Rd R w B A n L) (hi : i < n) : ∃ ad a, A = some ad ∧ ad.block < B ∧ L[i]? = some a ∧ ∀ j u, (R.cells a)[j]? = some u → w.cell? (ad.add (i * R.k + j)) = some u := by
  have hi' : i < L.length := by have := h.1; omega
  have e : L[i]? = some L[i] := List.getElem?_eq_getElem hi'
  have hz := R.pos
  have hg : ∀ j u, (R.cells L[i])[j]? = some u → ∃ ad, A = some ad ∧ ad.block < B ∧ w.cell? (ad.add (i * R.k + j)) = some u := fun j u hu => by
    have hj : j < R.k := by rw [← R.len L[i]]; exact (List.getElem?_eq_some_iff.1 hu).1
    exact h.2 (i * R.k + j) u (by rw [cs_get _ _ _ hj, e]; exact hu)
  have h0 : (R.cells L[i])[0]? = some ((R.cells L[i])[0]'(by rw [R.len]; exact hz)) := List.getElem?_eq_getElem _
  obtain ⟨ad, e1, hb, _⟩ := hg 0 _ h0
  refine ⟨ad, _, e1, hb, e, fun j u hu => ?_⟩
  obtain ⟨ad', e2, _, h2⟩ := hg j u hu
  rw [e1] at e2
  cases e2
  exact h2
theorem Own.form {base : Nat} {v : Value} (h : Own R w base v n L) : ∃ A c, v = .slice A n c ∧ n ≤ c ∧ c ≤ maxLen := by
  rcases h.2.2 with ⟨rfl, rfl⟩ | ⟨g, cap, cur, rfl, _, _, hc, hm, _⟩
  · exact ⟨none, 0, rfl, Nat.le_refl _, Nat.zero_le _⟩
  · exact ⟨_, cap, rfl, hc, hm⟩
theorem Own.rd {base c : Nat} (h : Own R w base (.slice A n c) n L) : Rd R w w.heap.size A n L := by
  refine ⟨h.1, fun j u hu => ?_⟩
  have hl : j < L.length * R.k := by rw [← cs_length (R := R)]; exact (List.getElem?_eq_some_iff.1 hu).1
  rcases h.2.2 with ⟨e, rfl⟩ | ⟨g, cap, cur, e, _, hh, _⟩
  · have h1 := h.1; rw [h1] at hl; omega
  · have hA : A = some ⟨g, 0, none⟩ := by injection e
    subst hA
    exact ⟨_, rfl, lt_of_block hh, h.2.cells (g := g) rfl j u hu⟩
theorem Own.alloc {base : Nat} {v : Value} (h : Own R w base v n L) (o : Obj) : Own R (w.alloc o) base v n L := ⟨h.1, h.2.alloc o⟩
theorem Own.drewN {base : Nat} {v : Value} (h : Own R w base v n L) (k : Nat) : Own R (w.drewN k) base v n L := h
theorem Own.grown {base : Nat} {v : Value} {row : Option Nat} (h : Own R w base v n L) (hg : w.grownBy w' row) (hne : v.ownBlock = none ∨ v.ownBlock ≠ row) : Own R w' base v n L := ⟨h.1, h.2.kept hg hne⟩
theorem Own.below {base : Nat} {v : Value} (h : Own R w base v n L) (hb : Below B w w') (hB : w.heap.size ≤ B) : Own R w' base v n L :=
  ⟨h.1, h.2.kept (row := none) ⟨hb.os, hb.tape, hb.output, hb.size, fun k hk _ => hb.block k (by omega)⟩ (by
    cases hv : v.ownBlock with
    | none => exact .inl rfl
    | some g => exact .inr (by simp))⟩
theorem Own.base_ {base base' : Nat} {v : Value} (h : Own R w base v n L) (hB : base' ≤ base) : Own R w base' v n L := by
  refine ⟨h.1, h.2.1, ?_⟩
  rcases h.2.2 with hh | ⟨g, cap, cur, e, hb, hr⟩
  · exact .inl hh
  · exact .inr ⟨g, cap, cur, e, by omega, hr⟩
theorem Own.nil (w : World) (base : Nat) : Own R w base (.slice none 0 0) 0 [] := ⟨rfl, by simpa [Rec.cs] using World.ownsRow_nil w base R.e R.k⟩
theorem Own.push {base : Nat} {v : Value} {a : α} (hl : L.length = n) (h : w.ownsRow base R.e R.k v (n + 1) (R.cs L ++ R.cells a)) : Own R w base v (n + 1) (L ++ [a]) :=
  ⟨by simp [hl], by rw [cs_append, cs_single]; exact h⟩
theorem Own.ne_nil {base c : Nat} (h : Own R w base (.slice A n c) n L) (hn : 0 < n) : ∃ g, A = some ⟨g, 0, none⟩ ∧ base ≤ g ∧ g < w.heap.size := by
  rcases h.2.2 with ⟨_, e⟩ | ⟨g, cap, cur, e, hb, hh, _⟩
  · omega
  · injection e with e1
    exact ⟨g, e1, hb, lt_of_block hh⟩
/-- behind the append of one element to a list of the call's own -/
theorem appended {B cc : Nat} {w wr w1 : World} {v : Value} {a : α} {o : Obj} (hbw : Below B w wr) (hB : B ≤ wr.heap.size) (hl : L.length = n) (hown : wr.ownsRow B R.e R.k (.slice A n cc) n (R.cs L))
    (hown' : w1.ownsRow B R.e R.k v (n + 1) (R.cs L ++ R.cells a)) (hgrow : (wr.alloc o).grownBy w1 (Value.slice A n cc).ownBlock) :
    ∃ A' c', v = .slice A' (n + 1) c' ∧ Own R w1 B (.slice A' (n + 1) c') (n + 1) (L ++ [a]) ∧ Below B w w1 := by
  have h := Own.push hl hown'
  obtain ⟨A', c', rfl, _⟩ := h.form
  refine ⟨A', c', rfl, h, ?_⟩
  exact (hbw.alloc hB _).grown hgrow (by simp; omega) (fun k hk => (hown.lt k hk).1)
/-- two rows of different element types lie in different blocks -/
theorem ne_row {β : Type} {S : Rec β} {base base' m : Nat} {v u : Value} {M : List β} {g : Nat} (he : R.e ≠ S.e) (h : Own R w base v n L) (h' : Own S w base' u m M) (hg : u.ownBlock = some g) : v.ownBlock ≠ some g := by
  rcases h.2.2 with ⟨rfl, _⟩ | ⟨g1, cap, cur, rfl, _, hh, _⟩
  · simp [Value.ownBlock]
  · rcases h'.2.2 with ⟨rfl, _⟩ | ⟨g2, cap2, cur2, rfl, _, hh2, _⟩
    · simp [Value.ownBlock] at hg
    · simp [Value.ownBlock] at hg ⊢
      rintro rfl
      subst hg
      rw [hh] at hh2
      injection hh2 with hh2
      injection hh2 with _ ht
      exact absurd ht he
end


/-! ### numbers and cells -/
theorem one_cell (x : Value) (hx : x.oneCell' = true) : ∀ u ∈ [x], u.oneCell' = true := by
  intro u hu
  simp only [List.mem_cons, List.not_mem_nil, or_false] at hu
  subst hu; exact hx
/-- numbers -/
def iR : Rec Int := ⟨3, 1, fun s => [.int .i64 s], by decide, fun _ => rfl, fun _ => one_cell _ rfl⟩
def celCells (c : Cel) : List Value := [.int .i64 c.lim, .int .i64 c.gr]
def celR : Rec Cel := ⟨42, 2, celCells, by decide, fun _ => rfl, fun s u hu => by
  simp only [celCells, List.mem_cons, List.not_mem_nil, or_false] at hu
  rcases hu with rfl | rfl <;> rfl⟩
/-- a stock, as a value -/
def stk (x : ByteArray) (s : Stk) : Value := .agg #[.string x, .int .i64 s.len, .int .i64 s.spd, .int .i64 s.acc, .int .i64 s.brk]

section
variable {w w' : World} {B B' n : Nat} {A : Option Addr}
theorem loadI {L : List Int} {i : Nat} (h : Rd iR w B A n L) (hi : i < n) : ∃ ad s, A = some ad ∧ ad.block < B ∧ L[i]? = some s ∧ w.cell? (ad.add i) = some (.int .i64 s) := by
  obtain ⟨ad, a, e1, hb, e, hc⟩ := h.at_ hi
  refine ⟨ad, a, e1, hb, e, ?_⟩
  have := hc 0 (.int .i64 a) rfl
  rw [show i * iR.k + 0 = i by show i * 1 + 0 = i; omega] at this
  exact this
/-- the cell at i, as the walk loads it -/
theorem loadCel {L : List Cel} {i : Nat} (h : Rd celR w B A n L) (hi : i < n) : ∃ ad c, A = some ad ∧ ad.block < B ∧ L[i]? = some c ∧ w.cell? (ad.add (i * 2)) = some (.int .i64 c.lim) ∧
    w.cell? ⟨(ad.add (i * 2)).block, (ad.add (i * 2)).off + 1, none⟩ = some (.int .i64 c.gr) := by
  obtain ⟨ad, a, e1, hb, e, hc⟩ := h.at_ hi
  refine ⟨ad, a, e1, hb, e, ?_, ?_⟩
  · have := hc 0 _ rfl
    exact this
  · have := hc 1 _ rfl
    rw [cell_next _ _ _ (by decide)] at this
    exact this
end

/-! ### rows of numbers that a call has made -/
theorem infoI : (Try.prog.info? 3).map (fun i => (i.zero, i.size, i.bytes)) = some (some (.int .i64 0), 1, 8) := by kernel_rfl
/-- block g is a row of n numbers, that at i is f i -/
def Row (w : World) (g n : Nat) (f : Nat → Int) : Prop := w.rowIs g 3 n (fun i => .int .i64 (f i))
section
variable {w w' : World} {g n : Nat} {f f' : Nat → Int}
theorem Row.cell (h : Row w g n f) {i : Nat} (hi : i < n) : w.cell? ⟨g, i, none⟩ = some (.int .i64 (f i)) := World.rowIs.cell h hi
theorem Row.frozen (h : Row w g n f) (i : Nat) : w.frozen? ⟨g, i, none⟩ = false := World.rowIs.frozen h i
theorem Row.lt (h : Row w g n f) : g < w.heap.size := World.rowIs.lt h
theorem Row.congr (h : Row w g n f) (e : ∀ i : Nat, i < n → f i = f' i) : Row w g n f' := World.rowIs.congr h fun i hi => by rw [e i hi]
theorem Row.set_ (h : Row w g n f) (i : Nat) (b : Int) : Row (w.setCell ⟨g, i, none⟩ (.int .i64 b)) g n (fun j => if j = i then b else f j) := by
  refine World.rowIs.congr (World.rowIs.set h i (.int .i64 b)) fun j hj => ?_
  by_cases e : j = i
  · subst e; simp
  · simp [e]
theorem Row.other (h : Row w g n f) {a : Addr} (ha : g ≠ a.block) (v : Value) : Row (w.setCell a v) g n f := World.rowIs.setOther h ha v
theorem Row.alloc (h : Row w g n f) (o : Obj) : Row (w.alloc o) g n f := World.rowIs.alloc h o
theorem Row.drewN (h : Row w g n f) (k : Nat) : Row (w.drewN k) g n f := h
theorem Row.below {B : Nat} (h : Row w g n f) (hb : Below B w w') (hg : g < B) : Row w' g n f := World.rowIs.of_block h (hb.block g hg)
theorem Row.made (w : World) (n : Nat) : Row (w.alloc (.cells (madeCells #[.int .i64 0] n) 3)) w.heap.size n (fun _ => 0) := World.rowIs_made w _ n 3
/-- a row read as a slice of numbers -/
theorem Row.rd {L : List Int} (h : Row w g n f) (hL : L.length = n) (e : ∀ (i : Nat) x, L[i]? = some x → f i = x) : Rd iR w w.heap.size (some ⟨g, 0, none⟩) n L := by
  refine ⟨hL, fun j u hu => ?_⟩
  have hj : j < n := by
    have := (List.getElem?_eq_some_iff.1 hu).1
    rw [cs_length] at this
    show j < n
    have : L.length * iR.k = n := by rw [hL]; exact Nat.mul_one _
    omega
  have h1 := cs_get (R := iR) L j 0 (by decide)
  rw [show j * iR.k + 0 = j by show j * 1 + 0 = j; omega, hu] at h1
  have hx : L[j]? = some L[j] := List.getElem?_eq_getElem (by omega)
  rw [hx] at h1
  simp [iR] at h1
  subst h1
  refine ⟨_, rfl, h.lt, ?_⟩
  have := h.cell hj
  rw [e j _ hx] at this
  have ea : (⟨g, 0, none⟩ : Addr).add j = ⟨g, j, none⟩ := by
    unfold Addr.add
    by_cases h0 : j = 0
    · subst h0; rfl
    · simp [h0]
  rw [ea]
  exact this
end

end Go.Proofs.Ytglcimahdgnnnaa.Mem

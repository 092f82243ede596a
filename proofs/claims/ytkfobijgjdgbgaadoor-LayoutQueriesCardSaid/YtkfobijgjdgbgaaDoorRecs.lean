/-
  Records in memory: slices whose elements take several cells each (names, numbers, sections, links, hops), how they are read and what keeps them; a layout in memory. No function of the program is named here.
-/
import Derived.Test.YtkfobijgjdgbgaaDoorMem
import Derived.Test.YtkfobijgjdgbgaaDoorLay
import Derived.Test.YtkfobijgjdgbgaaDoorStrs
import Derived.Test.YtkfobijgjdgbgaaDoorRows
namespace Go.Proofs.YtkfobijgjdgbgaaDoor.Recs
open Go.RowKit Wd Mem Lay
set_option linter.unusedVariables false

/-- how the elements of a slice lie in memory -/
structure Rec (α : Type) where
  e : TypeId
  k : Nat
  cells : α → List Value
  pos : 0 < k
  len : ∀ a, (cells a).length = k
  one : ∀ a, ∀ u ∈ cells a, u.oneCell' = true

section
variable {α : Type} {R : Rec α}
def Rec.cs (R : Rec α) (L : List α) : List Value := L.flatMap R.cells
theorem cs_length (L : List α) : (R.cs L).length = L.length * R.k := by
  induction L with
  | nil => simp [Rec.cs]
  | cons a L ih => simp only [Rec.cs, List.flatMap_cons, List.length_append, R.len, List.length_cons] at ih ⊢; rw [ih, Nat.add_mul]; omega
theorem cs_append (L M : List α) : R.cs (L ++ M) = R.cs L ++ R.cs M := by simp [Rec.cs]
theorem cs_single (a : α) : R.cs [a] = R.cells a := by simp [Rec.cs]
theorem cs_get (L : List α) : ∀ (i j : Nat), j < R.k → (R.cs L)[i * R.k + j]? = L[i]?.bind fun a => (R.cells a)[j]? := by
  induction L with
  | nil => intro i j _; simp [Rec.cs]
  | cons a L ih =>
    intro i j hj
    cases i with
    | zero =>
      simp only [Rec.cs, List.flatMap_cons, Nat.zero_mul, Nat.zero_add, List.getElem?_cons_zero, Option.bind_some]
      rw [List.getElem?_append_left (by rw [R.len]; exact hj)]
    | succ i =>
      have h := ih i j hj
      simp only [Rec.cs, List.flatMap_cons, List.getElem?_cons_succ] at h ⊢
      rw [List.getElem?_append_right (by rw [R.len, Nat.add_mul]; omega), R.len, ← h]
      congr 1
      rw [Nat.add_mul]; omega
theorem cs_one (L : List α) : ∀ u ∈ R.cs L, u.oneCell' = true := by
  intro u hu
  obtain ⟨a, _, h⟩ := List.mem_flatMap.1 hu
  exact R.one a u h

/-- the slice of n elements at A reads as the list L, below block B -/
def Rd (R : Rec α) (w : World) (B : Nat) (A : Option Addr) (n : Nat) (L : List α) : Prop := L.length = n ∧ At w B A (R.cs L)
/-- the slice value v of n elements is the call's own, and reads as the list L -/
def Own (R : Rec α) (w : World) (base : Nat) (v : Value) (n : Nat) (L : List α) : Prop := L.length = n ∧ w.ownsRow base R.e R.k v n (R.cs L)

variable {w w' : World} {B B' n : Nat} {A : Option Addr} {L : List α}
theorem Rd.nil (w : World) (B : Nat) (A : Option Addr) : Rd R w B A 0 [] := ⟨rfl, by intro j u h; simp [Rec.cs] at h⟩
theorem Rd.below (h : Rd R w B A n L) (hb : Below B w w') : Rd R w' B A n L := ⟨h.1, h.2.below hb⟩
theorem Rd.more (h : Rd R w B A n L) (hB : B ≤ B') : Rd R w B' A n L := ⟨h.1, h.2.more hB⟩
theorem Rd.keep (h : Rd R w B A n L) (hk : ∀ p : Addr, p.block < B → w'.cell? p = w.cell? p) : Rd R w' B A n L := ⟨h.1, h.2.keep hk⟩
theorem Rd.grow (h : Rd R w B A n L) (hb : Below B w w') (hB : B ≤ B') : Rd R w' B' A n L := (h.below hb).more hB
theorem Rd.drewN (h : Rd R w B A n L) (k : Nat) : Rd R (w.drewN k) B A n L := h
theorem Rd.at_ {i : Nat} (h : Rd R w B A n L) (hi : i < n) : ∃ ad a, A = some ad ∧ ad.block < B ∧ L[i]? = some a ∧ ∀ j u, (R.cells a)[j]? = some u → w.cell? (ad.add (i * R.k + j)) = some u := by
  have hi' : i < L.length := by have := h.1; omega
  have e : L[i]? = some L[i] := List.getElem?_eq_getElem hi'
  have hz := R.pos
  have hg : ∀ j u, (R.cells L[i])[j]? = some u → ∃ ad, A = some ad ∧ ad.block < B ∧ w.cell? (ad.add (i * R.k + j)) = some u := fun j u hu => by
    have hj : j < R.k := by rw [← R.len L[i]]; exact (List.getElem?_eq_some_iff.1 hu).1
    exact h.2 (i * R.k + j) u (by rw [cs_get _ _ _ hj, e]; exact hu)
  have h0 : (R.cells L[i])[0]? = some ((R.cells L[i])[0]'(by rw [R.len]; exact hz)) := List.getElem?_eq_getElem _
  obtain ⟨ad, e1, hb, _⟩ := hg 0 _ h0
  refine ⟨ad, _, e1, hb, e, fun j u hu => ?_⟩
  obtain ⟨ad', e2, _, h2⟩ := hg j u hu
  rw [e1] at e2
  cases e2
  exact h2
theorem Own.form {base : Nat} {v : Value} (h : Own R w base v n L) : ∃ A c, v = .slice A n c ∧ n ≤ c ∧ c ≤ maxLen := by
  rcases h.2.2 with ⟨rfl, rfl⟩ | ⟨g, cap, cur, rfl, _, _, hc, hm, _⟩
  · exact ⟨none, 0, rfl, Nat.le_refl _, Nat.zero_le _⟩
  · exact ⟨_, cap, rfl, hc, hm⟩
theorem Own.rd {base c : Nat} (h : Own R w base (.slice A n c) n L) : Rd R w w.heap.size A n L := by
  refine ⟨h.1, fun j u hu => ?_⟩
  have hl : j < L.length * R.k := by rw [← cs_length (R := R)]; exact (List.getElem?_eq_some_iff.1 hu).1
  rcases h.2.2 with ⟨e, rfl⟩ | ⟨g, cap, cur, e, _, hh, _⟩
  · have h1 := h.1; rw [h1] at hl; omega
  · have hA : A = some ⟨g, 0, none⟩ := by injection e
    subst hA
    exact ⟨_, rfl, lt_of_block hh, h.2.cells (g := g) rfl j u hu⟩
theorem Own.alloc {base : Nat} {v : Value} (h : Own R w base v n L) (o : Obj) : Own R (w.alloc o) base v n L := ⟨h.1, h.2.alloc o⟩
theorem Own.drewN {base : Nat} {v : Value} (h : Own R w base v n L) (k : Nat) : Own R (w.drewN k) base v n L := h
theorem Own.grown {base : Nat} {v : Value} {row : Option Nat} (h : Own R w base v n L) (hg : w.grownBy w' row) (hne : v.ownBlock = none ∨ v.ownBlock ≠ row) : Own R w' base v n L := ⟨h.1, h.2.kept hg hne⟩
theorem Own.below {base : Nat} {v : Value} (h : Own R w base v n L) (hb : Below B w w') (hB : w.heap.size ≤ B) : Own R w' base v n L :=
  ⟨h.1, h.2.kept (row := none) ⟨hb.os, hb.tape, hb.output, hb.size, fun k hk _ => hb.block k (by omega)⟩ (by
    cases hv : v.ownBlock with
    | none => exact .inl rfl
    | some g => exact .inr (by simp))⟩
theorem Own.base_ {base base' : Nat} {v : Value} (h : Own R w base v n L) (hB : base' ≤ base) : Own R w base' v n L := by
  refine ⟨h.1, h.2.1, ?_⟩
  rcases h.2.2 with hh | ⟨g, cap, cur, e, hb, hr⟩
  · exact .inl hh
  · exact .inr ⟨g, cap, cur, e, by omega, hr⟩
theorem Own.nil (w : World) (base : Nat) : Own R w base (.slice none 0 0) 0 [] := ⟨rfl, by simpa [Rec.cs] using World.ownsRow_nil w base R.e R.k⟩
theorem Own.push {base : Nat} {v : Value} {a : α} (hl : L.length = n) (h : w.ownsRow base R.e R.k v (n + 1) (R.cs L ++ R.cells a)) : Own R w base v (n + 1) (L ++ [a]) :=
  ⟨by simp [hl], by rw [cs_append, cs_single]; exact h⟩
theorem Own.ne_nil {base c : Nat} (h : Own R w base (.slice A n c) n L) (hn : 0 < n) : ∃ g, A = some ⟨g, 0, none⟩ ∧ base ≤ g ∧ g < w.heap.size := by
  rcases h.2.2 with ⟨_, e⟩ | ⟨g, cap, cur, e, hb, hh, _⟩
  · omega
  · injection e with e1
    exact ⟨g, e1, hb, lt_of_block hh⟩
/-- behind the append of one element to a list of the call's own -/
theorem appended {B cc : Nat} {w wr w1 : World} {v : Value} {a : α} {o : Obj} (hbw : Below B w wr) (hB : B ≤ wr.heap.size) (hl : L.length = n) (hown : wr.ownsRow B R.e R.k (.slice A n cc) n (R.cs L))
    (hown' : w1.ownsRow B R.e R.k v (n + 1) (R.cs L ++ R.cells a)) (hgrow : (wr.alloc o).grownBy w1 (Value.slice A n cc).ownBlock) :
    ∃ A' c', v = .slice A' (n + 1) c' ∧ Own R w1 B (.slice A' (n + 1) c') (n + 1) (L ++ [a]) ∧ Below B w w1 := by
  have h := Own.push hl hown'
  obtain ⟨A', c', rfl, _⟩ := h.form
  refine ⟨A', c', rfl, h, ?_⟩
  exact (hbw.alloc hB _).grown hgrow (by simp; omega) (fun k hk => (hown.lt k hk).1)
/-- two rows of different element types lie in different blocks -/
theorem ne_row {β : Type} {S : Rec β} {base base' m : Nat} {v u : Value} {M : List β} {g : Nat} (he : R.e ≠ S.e) (h : Own R w base v n L) (h' : Own S w base' u m M) (hg : u.ownBlock = some g) : v.ownBlock ≠ some g := by
  rcases h.2.2 with ⟨rfl, _⟩ | ⟨g1, cap, cur, rfl, _, hh, _⟩
  · simp [Value.ownBlock]
  · rcases h'.2.2 with ⟨rfl, _⟩ | ⟨g2, cap2, cur2, rfl, _, hh2, _⟩
    · simp [Value.ownBlock] at hg
    · simp [Value.ownBlock] at hg ⊢
      rintro rfl
      subst hg
      rw [hh] at hh2
      injection hh2 with hh2
      injection hh2 with _ ht
      exact absurd ht he
end

/-! ### names, numbers, sections, links, hops -/

theorem one_cell (x : Value) (hx : x.oneCell' = true) : ∀ u ∈ [x], u.oneCell' = true := by
  intro u hu
  simp only [List.mem_cons, List.not_mem_nil, or_false] at hu
  subst hu; exact hx
/-- names -/
def sR : Rec Bs := ⟨9, 1, fun s => [.string (str s)], by decide, fun _ => rfl, fun _ => one_cell _ rfl⟩
/-- numbers -/
def iR : Rec Int := ⟨3, 1, fun s => [.int .i64 s], by decide, fun _ => rfl, fun _ => one_cell _ rfl⟩
def secCells (s : Sec) : List Value := [.string (str s.name), .int .i64 s.len, .int .i64 s.lim, .int .i64 s.grade, .int .i64 s.st]
def secR : Rec Sec := ⟨45, 5, secCells, by decide, fun _ => rfl, fun s u hu => by
  simp only [secCells, List.mem_cons, List.not_mem_nil, or_false] at hu
  rcases hu with rfl | rfl | rfl | rfl | rfl <;> rfl⟩
def lnkCells (k : Lnk) : List Value := [.int .i64 k.a, .int .i64 k.ae, .int .i64 k.b, .int .i64 k.be, .int .i64 k.pt, .int .i64 k.ps]
def lnkR : Rec Lnk := ⟨64, 6, lnkCells, by decide, fun _ => rfl, fun s u hu => by
  simp only [lnkCells, List.mem_cons, List.not_mem_nil, or_false] at hu
  rcases hu with rfl | rfl | rfl | rfl | rfl | rfl <;> rfl⟩
def hopCells (h : Hop) : List Value := [.int .i64 h.to.1, .int .i64 h.to.2, .int .i64 h.pt, .int .i64 h.ps]
def hopR : Rec Hop := ⟨49, 4, hopCells, by decide, fun _ => rfl, fun s u hu => by
  simp only [hopCells, List.mem_cons, List.not_mem_nil, or_false] at hu
  rcases hu with rfl | rfl | rfl | rfl <;> rfl⟩

section
variable {w w' : World} {B B' n : Nat} {A : Option Addr}
theorem loadS {L : List Bs} {i : Nat} (h : Rd sR w B A n L) (hi : i < n) : ∃ ad s, A = some ad ∧ ad.block < B ∧ L[i]? = some s ∧ w.cell? (ad.add i) = some (.string (str s)) := by
  obtain ⟨ad, a, e1, hb, e, hc⟩ := h.at_ hi
  refine ⟨ad, a, e1, hb, e, ?_⟩
  have := hc 0 (.string (str a)) rfl
  rw [show i * sR.k + 0 = i by show i * 1 + 0 = i; omega] at this
  exact this
theorem loadI {L : List Int} {i : Nat} (h : Rd iR w B A n L) (hi : i < n) : ∃ ad s, A = some ad ∧ ad.block < B ∧ L[i]? = some s ∧ w.cell? (ad.add i) = some (.int .i64 s) := by
  obtain ⟨ad, a, e1, hb, e, hc⟩ := h.at_ hi
  refine ⟨ad, a, e1, hb, e, ?_⟩
  have := hc 0 (.int .i64 a) rfl
  rw [show i * iR.k + 0 = i by show i * 1 + 0 = i; omega] at this
  exact this
/-- the section at i, as the walk loads it: its first cell and the ones behind it -/
theorem loadSec {L : List Sec} {i : Nat} (h : Rd secR w B A n L) (hi : i < n) : ∃ ad s, A = some ad ∧ ad.block < B ∧ L[i]? = some s ∧ w.cell? (ad.add (i * 5)) = some (.string (str s.name)) ∧
    w.cell? ⟨(ad.add (i * 5)).block, (ad.add (i * 5)).off + 1, none⟩ = some (.int .i64 s.len) ∧ w.cell? ⟨(ad.add (i * 5)).block, (ad.add (i * 5)).off + 2, none⟩ = some (.int .i64 s.lim) ∧
    w.cell? ⟨(ad.add (i * 5)).block, (ad.add (i * 5)).off + 3, none⟩ = some (.int .i64 s.grade) ∧ w.cell? ⟨(ad.add (i * 5)).block, (ad.add (i * 5)).off + 4, none⟩ = some (.int .i64 s.st) := by
  obtain ⟨ad, a, e1, hb, e, hc⟩ := h.at_ hi
  have hg : ∀ j u, 0 < j → (secCells a)[j]? = some u → w.cell? ⟨(ad.add (i * 5)).block, (ad.add (i * 5)).off + j, none⟩ = some u := fun j u hj hu => by
    have := hc j u hu
    rw [cell_next _ _ _ hj] at this
    exact this
  refine ⟨ad, a, e1, hb, e, ?_, hg 1 _ (by decide) rfl, hg 2 _ (by decide) rfl, hg 3 _ (by decide) rfl, hg 4 _ (by decide) rfl⟩
  have := hc 0 _ rfl
  exact this
/-- the link at i, as the walk loads it -/
theorem loadLnk {L : List Lnk} {i : Nat} (h : Rd lnkR w B A n L) (hi : i < n) : ∃ ad s, A = some ad ∧ ad.block < B ∧ L[i]? = some s ∧ w.cell? (ad.add (i * 6)) = some (.int .i64 s.a) ∧
    w.cell? ⟨(ad.add (i * 6)).block, (ad.add (i * 6)).off + 1, none⟩ = some (.int .i64 s.ae) ∧ w.cell? ⟨(ad.add (i * 6)).block, (ad.add (i * 6)).off + 2, none⟩ = some (.int .i64 s.b) ∧
    w.cell? ⟨(ad.add (i * 6)).block, (ad.add (i * 6)).off + 3, none⟩ = some (.int .i64 s.be) ∧ w.cell? ⟨(ad.add (i * 6)).block, (ad.add (i * 6)).off + 4, none⟩ = some (.int .i64 s.pt) ∧
    w.cell? ⟨(ad.add (i * 6)).block, (ad.add (i * 6)).off + 5, none⟩ = some (.int .i64 s.ps) := by
  obtain ⟨ad, a, e1, hb, e, hc⟩ := h.at_ hi
  have hg : ∀ j u, 0 < j → (lnkCells a)[j]? = some u → w.cell? ⟨(ad.add (i * 6)).block, (ad.add (i * 6)).off + j, none⟩ = some u := fun j u hj hu => by
    have := hc j u hu
    rw [cell_next _ _ _ hj] at this
    exact this
  refine ⟨ad, a, e1, hb, e, ?_, hg 1 _ (by decide) rfl, hg 2 _ (by decide) rfl, hg 3 _ (by decide) rfl, hg 4 _ (by decide) rfl, hg 5 _ (by decide) rfl⟩
  have := hc 0 _ rfl
  exact this
/-- the hop at i, as the walk loads it -/
theorem loadHop {L : List Hop} {i : Nat} (h : Rd hopR w B A n L) (hi : i < n) : ∃ ad s, A = some ad ∧ ad.block < B ∧ L[i]? = some s ∧ w.cell? (ad.add (i * 4)) = some (.int .i64 s.to.1) ∧
    w.cell? ⟨(ad.add (i * 4)).block, (ad.add (i * 4)).off + 1, none⟩ = some (.int .i64 s.to.2) ∧ w.cell? ⟨(ad.add (i * 4)).block, (ad.add (i * 4)).off + 2, none⟩ = some (.int .i64 s.pt) ∧
    w.cell? ⟨(ad.add (i * 4)).block, (ad.add (i * 4)).off + 3, none⟩ = some (.int .i64 s.ps) := by
  obtain ⟨ad, a, e1, hb, e, hc⟩ := h.at_ hi
  have hg : ∀ j u, 0 < j → (hopCells a)[j]? = some u → w.cell? ⟨(ad.add (i * 4)).block, (ad.add (i * 4)).off + j, none⟩ = some u := fun j u hj hu => by
    have := hc j u hu
    rw [cell_next _ _ _ hj] at this
    exact this
  refine ⟨ad, a, e1, hb, e, ?_, hg 1 _ (by decide) rfl, hg 2 _ (by decide) rfl, hg 3 _ (by decide) rfl⟩
  have := hc 0 _ rfl
  exact this
end

/-! ### a layout -/

/-- the four lists of a layout, as slices -/
structure LV where
  A1 : Option Addr
  n1 : Nat
  c1 : Nat
  A2 : Option Addr
  n2 : Nat
  c2 : Nat
  A3 : Option Addr
  n3 : Nat
  c3 : Nat
  A4 : Option Addr
  n4 : Nat
  c4 : Nat
def LV.val (v : LV) : Value := .agg #[.slice v.A1 v.n1 v.c1, .slice v.A2 v.n2 v.c2, .slice v.A3 v.n3 v.c3, .slice v.A4 v.n4 v.c4]
/-- the layout l lies at v, below block B -/
structure RdL (w : World) (B : Nat) (v : LV) (l : Lay) : Prop where
  st : Rd sR w B v.A1 v.n1 l.stations
  pt : Rd sR w B v.A2 v.n2 l.points
  sec : Rd secR w B v.A3 v.n3 l.sections
  lnk : Rd lnkR w B v.A4 v.n4 l.links
  m1 : v.n1 ≤ 9223372036854775807
  m2 : v.n2 ≤ 9223372036854775807
  m3 : v.n3 ≤ 9223372036854775807
  m4 : v.n4 ≤ 9223372036854775807
  sz1 : ∀ s ∈ l.stations, s.length ≤ 9223372036854775807
  sz2 : ∀ s ∈ l.points, s.length ≤ 9223372036854775807
  sz3 : ∀ s ∈ l.sections, s.name.length ≤ 9223372036854775807
theorem RdL.below {w w' : World} {B : Nat} {v : LV} {l : Lay} (h : RdL w B v l) (hb : Below B w w') : RdL w' B v l :=
  ⟨h.st.below hb, h.pt.below hb, h.sec.below hb, h.lnk.below hb, h.m1, h.m2, h.m3, h.m4, h.sz1, h.sz2, h.sz3⟩
theorem RdL.more {w : World} {B B' : Nat} {v : LV} {l : Lay} (h : RdL w B v l) (hB : B ≤ B') : RdL w B' v l :=
  ⟨h.st.more hB, h.pt.more hB, h.sec.more hB, h.lnk.more hB, h.m1, h.m2, h.m3, h.m4, h.sz1, h.sz2, h.sz3⟩
theorem RdL.grow {w w' : World} {B B' : Nat} {v : LV} {l : Lay} (h : RdL w B v l) (hb : Below B w w') (hB : B ≤ B') : RdL w' B' v l := (h.below hb).more hB

end Go.Proofs.YtkfobijgjdgbgaaDoor.Recs

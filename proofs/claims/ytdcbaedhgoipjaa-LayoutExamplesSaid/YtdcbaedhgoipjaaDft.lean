/-
  The draft of a layout in memory, while its text is read.
-/
import Derived.Test.YtdcbaedhgoipjaaApp
import Derived.Test.YtdcbaedhgoipjaaPHops
namespace Go.Proofs.Ytdcbaedhgoipjaa.Dft
open Go.ChangeShapes Go.WideShapes Go.ChangeAt Go.RowKit Wd Small Mem Lay LayT Recs Keep Names PNames PSecs PEnds RNames Txt App
set_option linter.unusedVariables false

/-- the draft's block: four slices, three maps -/
def BlkD (w : World) (g : Nat) (v0 v1 v2 v3 : Value) (m1 m2 m3 : Nat) : Prop := w.heap[g]? = some (.cells #[v0, v1, v2, v3, .map (some m1), .map (some m2), .map (some m3)] 68)
section
variable {w w' : World} {g : Nat} {v0 v1 v2 v3 : Value} {m1 m2 m3 : Nat}
theorem BlkD.lt (h : BlkD w g v0 v1 v2 v3 m1 m2 m3) : g < w.heap.size := lt_of_block h
theorem BlkD.c0 (h : BlkD w g v0 v1 v2 v3 m1 m2 m3) : w.cell? ⟨g, 0, none⟩ = some v0 := by unfold BlkD at h; simp [World.cell?, h]
theorem BlkD.c1 (h : BlkD w g v0 v1 v2 v3 m1 m2 m3) : w.cell? ⟨g, 1, none⟩ = some v1 := by unfold BlkD at h; simp [World.cell?, h]
theorem BlkD.c2 (h : BlkD w g v0 v1 v2 v3 m1 m2 m3) : w.cell? ⟨g, 2, none⟩ = some v2 := by unfold BlkD at h; simp [World.cell?, h]
theorem BlkD.c3 (h : BlkD w g v0 v1 v2 v3 m1 m2 m3) : w.cell? ⟨g, 3, none⟩ = some v3 := by unfold BlkD at h; simp [World.cell?, h]
theorem BlkD.c4 (h : BlkD w g v0 v1 v2 v3 m1 m2 m3) : w.cell? ⟨g, 4, none⟩ = some (.map (some m1)) := by unfold BlkD at h; simp [World.cell?, h]
theorem BlkD.c5 (h : BlkD w g v0 v1 v2 v3 m1 m2 m3) : w.cell? ⟨g, 5, none⟩ = some (.map (some m2)) := by unfold BlkD at h; simp [World.cell?, h]
theorem BlkD.c6 (h : BlkD w g v0 v1 v2 v3 m1 m2 m3) : w.cell? ⟨g, 6, none⟩ = some (.map (some m3)) := by unfold BlkD at h; simp [World.cell?, h]
theorem BlkD.f (h : BlkD w g v0 v1 v2 v3 m1 m2 m3) (j : Nat) : w.frozen? ⟨g, j, none⟩ = false := by unfold BlkD at h; simp [World.frozen?, h]
theorem BlkD.same (h : BlkD w g v0 v1 v2 v3 m1 m2 m3) (hh : w'.heap[g]? = w.heap[g]?) : BlkD w' g v0 v1 v2 v3 m1 m2 m3 := hh.trans h
theorem BlkD.put0 (h : BlkD w g v0 v1 v2 v3 m1 m2 m3) (v : Value) : BlkD (w.setCell ⟨g, 0, none⟩ v) g v v1 v2 v3 m1 m2 m3 := by unfold BlkD at *; simp [World.setCell, Array.getElem?_modify, h]
theorem BlkD.put1 (h : BlkD w g v0 v1 v2 v3 m1 m2 m3) (v : Value) : BlkD (w.setCell ⟨g, 1, none⟩ v) g v0 v v2 v3 m1 m2 m3 := by unfold BlkD at *; simp [World.setCell, Array.getElem?_modify, h]
theorem BlkD.put2 (h : BlkD w g v0 v1 v2 v3 m1 m2 m3) (v : Value) : BlkD (w.setCell ⟨g, 2, none⟩ v) g v0 v1 v v3 m1 m2 m3 := by unfold BlkD at *; simp [World.setCell, Array.getElem?_modify, h]
theorem BlkD.put3 (h : BlkD w g v0 v1 v2 v3 m1 m2 m3) (v : Value) : BlkD (w.setCell ⟨g, 3, none⟩ v) g v0 v1 v2 v m1 m2 m3 := by unfold BlkD at *; simp [World.setCell, Array.getElem?_modify, h]
end

/-- a list of the draft -/
abbrev LV.s1 (v : LV) : Value := .slice v.A1 v.n1 v.c1
abbrev LV.s2 (v : LV) : Value := .slice v.A2 v.n2 v.c2
abbrev LV.s3 (v : LV) : Value := .slice v.A3 v.n3 v.c3
abbrev LV.s4 (v : LV) : Value := .slice v.A4 v.n4 v.c4
/-- block g is the draft that has declared the layout l in at most k lines -/
structure Dr (w : World) (g m1 m2 m3 k : Nat) (l : Lay) (v : LV) : Prop where
  blk : BlkD w g (.slice v.A1 v.n1 v.c1) (.slice v.A2 v.n2 v.c2) (.slice v.A3 v.n3 v.c3) (.slice v.A4 v.n4 v.c4) m1 m2 m3
  st : Recs.Own sR w (g + 1) (.slice v.A1 v.n1 v.c1) v.n1 l.stations
  pt : Recs.Own sR w (g + 1) (.slice v.A2 v.n2 v.c2) v.n2 l.points
  sec : Recs.Own secR w (g + 1) (.slice v.A3 v.n3 v.c3) v.n3 l.sections
  lnk : Recs.Own lnkR w (g + 1) (.slice v.A4 v.n4 v.c4) v.n4 l.links
  ne : ∀ b, (Value.slice v.A1 v.n1 v.c1).ownBlock = some b → (Value.slice v.A2 v.n2 v.c2).ownBlock ≠ some b
  q1 : Nums w m1 k l.stations
  q2 : Nums w m2 k l.points
  q3 : Nums w m3 k (l.sections.map Sec.name)
  ms : m1 < m2 ∧ m2 < m3 ∧ m3 < g
  b1 : v.n1 ≤ k
  b2 : v.n2 ≤ k
  b3 : v.n3 ≤ k
  b4 : v.n4 ≤ k
  z1 : ∀ s ∈ l.stations, s.length ≤ 65537
  z2 : ∀ s ∈ l.points, s.length ≤ 65537
  z3 : ∀ s ∈ l.sections, s.name.length ≤ 65537

section
variable {w wm wn w' : World} {g m m' k j : Nat} {u x : Value}
theorem set_grown (w : World) (g j : Nat) (x : Value) : w.grownBy (w.setCell ⟨g, j, none⟩ x) (some g) := grown_set (World.grownBy.refl w _) _
/-- a row through a step: a map has changed, another row has grown, block g was written -/
theorem own3 {α : Type} {R : Rec α} {v : Value} {n : Nat} {L : List α} (h : Recs.Own R w (g + 1) v n L) (hm : m < g) (h1 : w.grownBy wm (some m)) (h2 : wm.grownBy wn u.ownBlock) (hne : ∀ b, v.ownBlock = some b → u.ownBlock ≠ some b) : Recs.Own R (wn.setCell ⟨g, j, none⟩ x) (g + 1) v n L := by
  refine ((h.grown h1 ?_).grown h2 ?_).grown (set_grown wn g j x) ?_
  · cases hv : v.ownBlock with
    | none => exact .inl rfl
    | some b => exact .inr (fun e => by have := (h.2.lt b hv).1; injection e; omega)
  · cases hv : v.ownBlock with
    | none => exact .inl rfl
    | some b => exact .inr (fun e => hne b hv e.symm)
  · cases hv : v.ownBlock with
    | none => exact .inl rfl
    | some b => exact .inr (fun e => by have := (h.2.lt b hv).1; injection e; omega)
theorem num3 {L : List Bs} (h : Nums w m' k L) (hne : m' ≠ m) (hm : m' < g) (h1 : w.grownBy wm (some m)) (h2 : wm.grownBy wn u.ownBlock) (hu : ∀ b, u.ownBlock = some b → g < b) : Nums (wn.setCell ⟨g, j, none⟩ x) m' (k + 1) L := by
  refine Nums.mono (((h.kept h1 (by simp; exact hne)).kept h2 ?_).kept (set_grown wn g j x) (by simp; omega)) (Nat.le_succ k)
  intro e
  have := hu _ e.symm
  omega
theorem num2 {L : List Bs} (h : Nums wm m k L) (hm : m < g) (h2 : wm.grownBy wn u.ownBlock) (hu : ∀ b, u.ownBlock = some b → g < b) : Nums (wn.setCell ⟨g, j, none⟩ x) m k L := by
  refine (h.kept h2 ?_).kept (set_grown wn g j x) (by simp; omega)
  intro e
  have := hu _ e.symm
  omega
theorem num1 {L : List Bs} (h : Nums wn m k L) (hm : m < g) : Nums (wn.setCell ⟨g, j, none⟩ x) m k L := h.kept (set_grown wn g j x) (by simp; omega)
theorem blk3 {v0 v1 v2 v3 : Value} {m1 m2 m3 : Nat} (h : BlkD w g v0 v1 v2 v3 m1 m2 m3) (hm : m < g) (h1 : w.grownBy wm (some m)) (h2 : wm.grownBy wn u.ownBlock) (hu : ∀ b, u.ownBlock = some b → g < b) : BlkD wn g v0 v1 v2 v3 m1 m2 m3 := by
  have hg := h.lt
  refine (h.same (h1.block g hg (by simp; omega))).same (h2.block g (by have := h1.size; omega) ?_)
  intro e
  have := hu _ e.symm
  omega
theorem own1 {α : Type} {R : Rec α} {v : Value} {n : Nat} {L : List α} (h : Recs.Own R wn (g + 1) v n L) : Recs.Own R (wn.setCell ⟨g, j, none⟩ x) (g + 1) v n L := by
  refine h.grown (set_grown wn g j x) ?_
  cases hv : v.ownBlock with
  | none => exact .inl rfl
  | some b => exact .inr (fun e => by have := (h.2.lt b hv).1; injection e; omega)
theorem below3 {B : Nat} (hB : B ≤ m) (hBg : B ≤ g) (hBw : B ≤ w.heap.size) (h1 : w.grownBy wm (some m)) (h2 : wm.grownBy wn u.ownBlock) (hu : ∀ b, u.ownBlock = some b → g < b) : Below B w (wn.setCell ⟨g, j, none⟩ x) := by
  have e1 : Below B w wm := (Below.refl B w).grown h1 hBw (fun k hk => by injection hk with hk; omega)
  have e2 : Below B w wn := e1.grown h2 (Nat.le_trans hBw h1.size) (fun k hk => by have := hu k hk; omega)
  exact e2.grown (set_grown wn g j x) (Nat.le_trans hBw (Nat.le_trans h1.size h2.size)) (fun k hk => by injection hk with hk; omega)
end

section
variable {w wm wn : World} {g m1 m2 m3 k : Nat} {l : Lay} {v : LV}
theorem Dr.lo {α : Type} {R : Rec α} {u : Value} {n : Nat} {L : List α} (h : Recs.Own R w (g + 1) u n L) : ∀ b, u.ownBlock = some b → g < b := fun b hb => by have := (h.2.lt b hb).1; omega
theorem nums_le {b n n' : Nat} {L : List Bs} (h : Nums w b n L) (hn : n ≤ n') : Nums w b n' L := h.mono hn
/-- a draft seen later: nothing old has changed -/
theorem Dr.below {w' : World} (h : Dr w g m1 m2 m3 k l v) (hb : Below w.heap.size w w') : Dr w' g m1 m2 m3 k l v := by
  have hg := h.blk.lt
  have hm := h.ms
  exact ⟨h.blk.same (hb.block g hg), h.st.below hb (Nat.le_refl _), h.pt.below hb (Nat.le_refl _), h.sec.below hb (Nat.le_refl _), h.lnk.below hb (Nat.le_refl _), h.ne, h.q1.below hb (by omega), h.q2.below hb (by omega), h.q3.below hb (by omega), h.ms, h.b1, h.b2, h.b3, h.b4, h.z1, h.z2, h.z3⟩
theorem Dr.more {k' : Nat} (h : Dr w g m1 m2 m3 k l v) (hk : k ≤ k') : Dr w g m1 m2 m3 k' l v :=
  ⟨h.blk, h.st, h.pt, h.sec, h.lnk, h.ne, h.q1.mono hk, h.q2.mono hk, h.q3.mono hk, h.ms, by have := h.b1; omega, by have := h.b2; omega, by have := h.b3; omega, by have := h.b4; omega, h.z1, h.z2, h.z3⟩
theorem snoc_max {L : List Bs} {s : Bs} (h : ∀ x ∈ L, x.length ≤ 65537) (hs : s.length ≤ 65537) : ∀ x ∈ L ++ [s], x.length ≤ 65537 := by
  intro x hx
  rw [List.mem_append] at hx
  rcases hx with hx | hx
  · exact h x hx
  · simp at hx; subst hx; exact hs
/-- one more station -/
theorem Dr.stat {A' : Option Addr} {c' : Nat} {s : Bs} (h : Dr w g m1 m2 m3 k l v) (h1 : w.grownBy wm (some m1)) (h2 : wm.grownBy wn (Value.slice v.A1 v.n1 v.c1).ownBlock) (hN : Nums wn m1 (k + 1) (l.stations ++ [s])) (hO : Recs.Own sR wn (g + 1) (.slice A' (v.n1 + 1) c') (v.n1 + 1) (l.stations ++ [s]))
    (hat : ∀ b, (Value.slice A' (v.n1 + 1) c').ownBlock = some b → (Value.slice v.A1 v.n1 v.c1).ownBlock = some b ∨ w.heap.size ≤ b) (hs : s.length ≤ 65537) :
    Dr (wn.setCell ⟨g, 0, none⟩ (.slice A' (v.n1 + 1) c')) g m1 m2 m3 (k + 1) { l with stations := l.stations ++ [s] } { v with A1 := A', n1 := v.n1 + 1, c1 := c' } := by
  obtain ⟨e1, e2, e3⟩ := h.ms
  have hu := Dr.lo h.st
  refine ⟨(blk3 h.blk (by omega) h1 h2 hu).put0 _, own1 hO, own3 h.pt (by omega) h1 h2 (fun b hb e => h.ne b e hb), own3 h.sec (by omega) h1 h2 (fun b hb => ne_row (by decide) h.st h.sec hb), own3 h.lnk (by omega) h1 h2 (fun b hb => ne_row (by decide) h.st h.lnk hb), ?_,
    num1 hN (by omega), num3 h.q2 (by omega) (by omega) h1 h2 hu, num3 h.q3 (by omega) (by omega) h1 h2 hu, h.ms, by have := h.b1; simp only; omega, by have := h.b2; simp only; omega, by have := h.b3; simp only; omega, by have := h.b4; simp only; omega, snoc_max h.z1 hs, h.z2, h.z3⟩
  intro b hb e
  rcases hat b hb with h3 | h3
  · exact h.ne b h3 e
  · have := (h.pt.2.lt b e).2
    omega
/-- one more point -/
theorem Dr.poin {A' : Option Addr} {c' : Nat} {s : Bs} (h : Dr w g m1 m2 m3 k l v) (h1 : w.grownBy wm (some m2)) (h2 : wm.grownBy wn (Value.slice v.A2 v.n2 v.c2).ownBlock) (hN : Nums wn m2 (k + 1) (l.points ++ [s])) (hO : Recs.Own sR wn (g + 1) (.slice A' (v.n2 + 1) c') (v.n2 + 1) (l.points ++ [s]))
    (hat : ∀ b, (Value.slice A' (v.n2 + 1) c').ownBlock = some b → (Value.slice v.A2 v.n2 v.c2).ownBlock = some b ∨ w.heap.size ≤ b) (hs : s.length ≤ 65537) :
    Dr (wn.setCell ⟨g, 1, none⟩ (.slice A' (v.n2 + 1) c')) g m1 m2 m3 (k + 1) { l with points := l.points ++ [s] } { v with A2 := A', n2 := v.n2 + 1, c2 := c' } := by
  obtain ⟨e1, e2, e3⟩ := h.ms
  have hu := Dr.lo h.pt
  refine ⟨(blk3 h.blk (by omega) h1 h2 hu).put1 _, own3 h.st (by omega) h1 h2 (fun b hb e => h.ne b hb e), own1 hO, own3 h.sec (by omega) h1 h2 (fun b hb => ne_row (by decide) h.pt h.sec hb), own3 h.lnk (by omega) h1 h2 (fun b hb => ne_row (by decide) h.pt h.lnk hb), ?_,
    num3 h.q1 (by omega) (by omega) h1 h2 hu, num1 hN (by omega), num3 h.q3 (by omega) (by omega) h1 h2 hu, h.ms, by have := h.b1; simp only; omega, by have := h.b2; simp only; omega, by have := h.b3; simp only; omega, by have := h.b4; simp only; omega, h.z1, snoc_max h.z2 hs, h.z3⟩
  intro b hb e
  rcases hat b e with h3 | h3
  · exact h.ne b hb h3
  · have := (h.st.2.lt b hb).2
    omega
/-- one more section -/
theorem Dr.sect {A' : Option Addr} {c' : Nat} {x : Sec} (h : Dr w g m1 m2 m3 k l v) (h1 : w.grownBy wm (some m3)) (h2 : wm.grownBy wn (Value.slice v.A3 v.n3 v.c3).ownBlock) (hN : Nums wm m3 (k + 1) (l.sections.map Sec.name ++ [x.name])) (hO : Recs.Own secR wn (g + 1) (.slice A' (v.n3 + 1) c') (v.n3 + 1) (l.sections ++ [x]))
    (hs : x.name.length ≤ 65537) :
    Dr (wn.setCell ⟨g, 2, none⟩ (.slice A' (v.n3 + 1) c')) g m1 m2 m3 (k + 1) { l with sections := l.sections ++ [x] } { v with A3 := A', n3 := v.n3 + 1, c3 := c' } := by
  obtain ⟨e1, e2, e3⟩ := h.ms
  have hu := Dr.lo h.sec
  refine ⟨(blk3 h.blk (by omega) h1 h2 hu).put2 _, own3 h.st (by omega) h1 h2 (fun b hb => ne_row (by decide) h.sec h.st hb), own3 h.pt (by omega) h1 h2 (fun b hb => ne_row (by decide) h.sec h.pt hb), own1 hO, own3 h.lnk (by omega) h1 h2 (fun b hb => ne_row (by decide) h.sec h.lnk hb), h.ne,
    num3 h.q1 (by omega) (by omega) h1 h2 hu, num3 h.q2 (by omega) (by omega) h1 h2 hu, ?_, h.ms, by have := h.b1; simp only; omega, by have := h.b2; simp only; omega, by have := h.b3; simp only; omega, by have := h.b4; simp only; omega, h.z1, h.z2, ?_⟩
  · simp only [List.map_append, List.map_cons, List.map_nil]
    exact num2 hN (by omega) h2 hu
  · intro y hy
    simp only at hy
    rw [List.mem_append] at hy
    rcases hy with hy | hy
    · exact h.z3 y hy
    · simp at hy; subst hy; exact hs
/-- one more link -/
theorem Dr.link {A' : Option Addr} {c' : Nat} {x : Lnk} (h : Dr w g m1 m2 m3 k l v) (h2 : w.grownBy wn (Value.slice v.A4 v.n4 v.c4).ownBlock) (hO : Recs.Own lnkR wn (g + 1) (.slice A' (v.n4 + 1) c') (v.n4 + 1) (l.links ++ [x])) :
    Dr (wn.setCell ⟨g, 3, none⟩ (.slice A' (v.n4 + 1) c')) g m1 m2 m3 (k + 1) { l with links := l.links ++ [x] } { v with A4 := A', n4 := v.n4 + 1, c4 := c' } := by
  obtain ⟨e1, e2, e3⟩ := h.ms
  have hu := Dr.lo h.lnk
  have h1 : w.grownBy w (some (g + w.heap.size + 1)) := World.grownBy.refl w _
  have q : ∀ {m' L}, Nums w m' k L → m' < g → Nums (wn.setCell ⟨g, 3, none⟩ (.slice A' (v.n4 + 1) c')) m' (k + 1) L := fun hq hm => (num2 hq hm h2 hu).mono (Nat.le_succ k)
  have o : ∀ {α : Type} {R : Rec α} {u : Value} {n : Nat} {L : List α}, Recs.Own R w (g + 1) u n L → R.e ≠ lnkR.e → Recs.Own R (wn.setCell ⟨g, 3, none⟩ (.slice A' (v.n4 + 1) c')) (g + 1) u n L := fun {α R u n L} ho hne => own1 (ho.grown h2 (by
    cases hv : u.ownBlock with
    | none => exact .inl rfl
    | some b => exact .inr (fun e => ne_row (fun e2 => hne e2.symm) h.lnk ho hv e.symm)))
  refine ⟨BlkD.put3 (h.blk.same (h2.block g h.blk.lt (fun e => by have := hu _ e.symm; omega))) _, o h.st (by decide), o h.pt (by decide), o h.sec (by decide), own1 hO, h.ne, q h.q1 (by omega), q h.q2 (by omega), q h.q3 (by omega), h.ms, by have := h.b1; simp only; omega, by have := h.b2; simp only; omega, by have := h.b3; simp only; omega, by have := h.b4; simp only; omega, h.z1, h.z2, h.z3⟩
end
/-- what a call leaves that has taken a line into the draft -/
def DrPost (g m1 m2 m3 k : Nat) (r : Lay × Int) (w : World) (e : Ending) (w' : World) : Prop := ∃ v', e = .returned (.int .i64 r.2) ∧ Dr w' g m1 m2 m3 k r.1 v' ∧ Below m1 w w' ∧ w.heap.size ≤ w'.heap.size
end Go.Proofs.Ytdcbaedhgoipjaa.Dft

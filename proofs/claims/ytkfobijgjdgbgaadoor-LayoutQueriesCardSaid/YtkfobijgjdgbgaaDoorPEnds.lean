/-
  Contracts of the program's functions on the ends of links.
-/
import Derived.Test.YtkfobijgjdgbgaaDoorPLinks
import Derived.Outline
namespace Go.Proofs.YtkfobijgjdgbgaaDoor.PEnds
open Go.ChangeShapes Go.WideShapes Go.ChangeAt Go.RowKit Wd Small Mem Lay Recs Keep Names PNames PSecs PLinks
set_option linter.unusedVariables false

theorem ends_of (k : Lnk) (w : World) : Calls Tryd.prog 51 #[lnkArg k] w fun e w' => e = .returned (.tuple #[.agg #[.int .i64 k.a, .int .i64 k.ae], .agg #[.int .i64 k.b, .int .i64 k.be]]) ∧ Below w.heap.size w w' := by
  obtain ⟨a, ae, b, be, pt, ps⟩ := k
  simp only [lnkArg] at *
  go_enter Tryd.func51, Tryd.ntmps51
  go_wp2
  go_region
  all_goals go_wp2
  all_goals refine bodyPost_ret (v := .tuple #[.agg #[.int .i64 a, .int .i64 ae], .agg #[.int .i64 b, .int .i64 be]]) ?_ rfl ⟨rfl, ?_⟩
  · simp [results, Tryd.results51, go_sem]
  · repeat (first | exact Below.refl _ _ | refine Below.drew ?_ | refine Below.alloc ?_ (by simp; try omega) _)

/-- the seven cells of an end's links -/
def Seven (w : World) (g o : Nat) (n : Nat) (a0 b0 a1 b1 p q : Int) : Prop :=
  w.cell? ⟨g, o, none⟩ = some (.int .i64 n) ∧ w.cell? ⟨g, o + 1, none⟩ = some (.int .i64 a0) ∧ w.cell? ⟨g, o + 2, none⟩ = some (.int .i64 b0) ∧ w.cell? ⟨g, o + 3, none⟩ = some (.int .i64 a1) ∧ w.cell? ⟨g, o + 4, none⟩ = some (.int .i64 b1) ∧
    w.cell? ⟨g, o + 5, none⟩ = some (.int .i64 p) ∧ w.cell? ⟨g, o + 6, none⟩ = some (.int .i64 q)
theorem Seven.lt {w : World} {g o n : Nat} {a0 b0 a1 b1 p q : Int} (h : Seven w g o n a0 b0 a1 b1 p q) : g < w.heap.size := World.block_lt_of_cell? w _ h.1
theorem Seven.below {w w' : World} {B g o n : Nat} {a0 b0 a1 b1 p q : Int} (h : Seven w g o n a0 b0 a1 b1 p q) (hb : Below B w w') (hg : g < B) : Seven w' g o n a0 b0 a1 b1 p q := by
  have e : ∀ j, w'.cell? ⟨g, j, none⟩ = w.cell? ⟨g, j, none⟩ := fun j => hb.cell (p := ⟨g, j, none⟩) hg
  unfold Seven
  simp only [e]
  exact h

theorem set_other {w : World} {g i j : Nat} {v : Value} (h : i ≠ j) : (w.setCell ⟨g, i, none⟩ v).cell? ⟨g, j, none⟩ = w.cell? ⟨g, j, none⟩ := World.cell?_setCell_other _ _ _ _ (fun e => h (by cases e; rfl))
theorem set_same {w : World} {g i : Nat} {u v : Value} (h : w.cell? ⟨g, i, none⟩ = some u) : (w.setCell ⟨g, i, none⟩ v).cell? ⟨g, i, none⟩ = some v := World.cell?_setCell_same _ _ _ h
section
variable {w : World} {g o n : Nat} {a0 b0 a1 b1 p q : Int} (h : Seven w g o n a0 b0 a1 b1 p q)
include h
theorem Seven.put0 (m : Nat) : Seven (w.setCell ⟨g, o, none⟩ (.int .i64 ((m : Nat) : Int))) g o m a0 b0 a1 b1 p q :=
  ⟨set_same h.1, (set_other (by omega)).trans h.2.1, (set_other (by omega)).trans h.2.2.1, (set_other (by omega)).trans h.2.2.2.1, (set_other (by omega)).trans h.2.2.2.2.1, (set_other (by omega)).trans h.2.2.2.2.2.1, (set_other (by omega)).trans h.2.2.2.2.2.2⟩
theorem Seven.put1 (m : Int) : Seven (w.setCell ⟨g, o + 1, none⟩ (.int .i64 m)) g o n m b0 a1 b1 p q :=
  ⟨(set_other (by omega)).trans h.1, set_same h.2.1, (set_other (by omega)).trans h.2.2.1, (set_other (by omega)).trans h.2.2.2.1, (set_other (by omega)).trans h.2.2.2.2.1, (set_other (by omega)).trans h.2.2.2.2.2.1, (set_other (by omega)).trans h.2.2.2.2.2.2⟩
theorem Seven.put2 (m : Int) : Seven (w.setCell ⟨g, o + 2, none⟩ (.int .i64 m)) g o n a0 m a1 b1 p q :=
  ⟨(set_other (by omega)).trans h.1, (set_other (by omega)).trans h.2.1, set_same h.2.2.1, (set_other (by omega)).trans h.2.2.2.1, (set_other (by omega)).trans h.2.2.2.2.1, (set_other (by omega)).trans h.2.2.2.2.2.1, (set_other (by omega)).trans h.2.2.2.2.2.2⟩
theorem Seven.put3 (m : Int) : Seven (w.setCell ⟨g, o + 3, none⟩ (.int .i64 m)) g o n a0 b0 m b1 p q :=
  ⟨(set_other (by omega)).trans h.1, (set_other (by omega)).trans h.2.1, (set_other (by omega)).trans h.2.2.1, set_same h.2.2.2.1, (set_other (by omega)).trans h.2.2.2.2.1, (set_other (by omega)).trans h.2.2.2.2.2.1, (set_other (by omega)).trans h.2.2.2.2.2.2⟩
theorem Seven.put4 (m : Int) : Seven (w.setCell ⟨g, o + 4, none⟩ (.int .i64 m)) g o n a0 b0 a1 m p q :=
  ⟨(set_other (by omega)).trans h.1, (set_other (by omega)).trans h.2.1, (set_other (by omega)).trans h.2.2.1, (set_other (by omega)).trans h.2.2.2.1, set_same h.2.2.2.2.1, (set_other (by omega)).trans h.2.2.2.2.2.1, (set_other (by omega)).trans h.2.2.2.2.2.2⟩
theorem Seven.put5 (m : Int) : Seven (w.setCell ⟨g, o + 5, none⟩ (.int .i64 m)) g o n a0 b0 a1 b1 m q :=
  ⟨(set_other (by omega)).trans h.1, (set_other (by omega)).trans h.2.1, (set_other (by omega)).trans h.2.2.1, (set_other (by omega)).trans h.2.2.2.1, (set_other (by omega)).trans h.2.2.2.2.1, set_same h.2.2.2.2.2.1, (set_other (by omega)).trans h.2.2.2.2.2.2⟩
theorem Seven.put6 (m : Int) : Seven (w.setCell ⟨g, o + 6, none⟩ (.int .i64 m)) g o n a0 b0 a1 b1 p m :=
  ⟨(set_other (by omega)).trans h.1, (set_other (by omega)).trans h.2.1, (set_other (by omega)).trans h.2.2.1, (set_other (by omega)).trans h.2.2.2.1, (set_other (by omega)).trans h.2.2.2.2.1, (set_other (by omega)).trans h.2.2.2.2.2.1, set_same h.2.2.2.2.2.2⟩
end
theorem grown_set {w w' : World} {g i : Nat} (h : w.grownBy w' (some g)) (v : Value) : w.grownBy (w'.setCell ⟨g, i, none⟩ v) (some g) :=
  ⟨h.os, h.tape, h.output, by have := h.size; simpa using this, fun k hk hne => (Below.heap_setCell w' ⟨g, i, none⟩ v k (fun e => hne (by rw [e]))).trans (h.block k hk hne)⟩
theorem grown_alloc {w w' : World} {row : Option Nat} (h : w.grownBy w' row) (o : Obj) : w.grownBy (w'.alloc o) row := h.trans (World.grownBy_alloc w' o row)
theorem grown_drew {w w' : World} {row : Option Nat} (h : w.grownBy w' row) : w.grownBy w'.drew row := ⟨h.os, h.tape, h.output, h.size, h.block⟩
theorem two_more {X : World} {B : Nat} (o1 o2 : Obj) (hB : B ≤ X.heap.size) : Below B X ((X.alloc o1).alloc o2) := ((Below.refl _ _).alloc hB _).alloc (by simp; omega) _

def adm (n : Nat) (p q pt ps : Int) : Bool := match n with
  | 0 => true
  | 1 => !(p == -1) && ((p == pt) && !(q == ps))
  | _ => false
theorem admit (g o n : Nat) (a0 b0 a1 b1 p q : Int) (k : Lnk) (w : World) (h : Seven w g o n a0 b0 a1 b1 p q) (hn : n ≤ 2) :
    Calls Tryd.prog 65 #[.pointer (some ⟨g, o, none⟩), lnkArg k] w (BoolPost (adm n p q k.pt k.ps) w) := by
  obtain ⟨a, ae, b, be, pt, ps⟩ := k
  simp only [lnkArg] at *
  have hg := h.lt
  obtain ⟨k0, k1, k2, k3, k4, k5, k6⟩ := h
  match n, hn with
  | 0, _ =>
    go_enter Tryd.func65, Tryd.ntmps65
    go_wp2
    go_ret
    exact ⟨rfl, (Below.refl _ _).alloc (Nat.le_refl _) _⟩
  | 2, _ =>
    go_enter Tryd.func65, Tryd.ntmps65
    go_wp2
    go_ret
    exact ⟨rfl, (Below.refl _ _).alloc (Nat.le_refl _) _⟩
  | 1, _ =>
    have E : Hid (adm 1 p q pt ps = (!(p == -1) && ((p == pt) && !(q == ps)))) := rfl
    go_enter Tryd.func65, Tryd.ntmps65
    cases h1 : (p == -1) <;> cases h2 : (p == pt) <;> cases h3 : (q == ps)
    all_goals
      rw [h1, h2, h3] at E
      have h1' : (p != -1) = !(p == -1) := rfl
      have h3' : (q != ps) = !(q == ps) := rfl
      rw [h1] at h1'
      rw [h3] at h3'
      go_wp2
      go_quiet (fail)
      go_wp2
      go_ret
      exact ⟨retb E.out.symm, Mem.below_draws ((Below.refl _ _).alloc (Nat.le_refl _) _) _⟩

def lead (n : Nat) (a0 b0 a1 b1 x y : Int) : Bool := match n with
  | 0 => false
  | 1 => (a0 == x) && (b0 == y)
  | _ => ((a0 == x) && (b0 == y)) || ((a1 == x) && (b1 == y))
theorem lead_to (g o n : Nat) (a0 b0 a1 b1 p q x y : Int) (w : World) (h : Seven w g o n a0 b0 a1 b1 p q) (hn : n ≤ 2) :
    Calls Tryd.prog 64 #[.pointer (some ⟨g, o, none⟩), .agg #[.int .i64 x, .int .i64 y]] w (BoolPost (lead n a0 b0 a1 b1 x y) w) := by
  have hg := h.lt
  obtain ⟨k0, k1, k2, k3, k4, k5, k6⟩ := h
  match n, hn with
  | 0, _ =>
    go_enter Tryd.func64, Tryd.ntmps64
    go_wp2
    refine wp_loop_rounds 1 ?_
    rw [rounds_succ]
    go_wp2
    go_ret
    exact ⟨rfl, (Below.refl _ _).alloc (Nat.le_refl _) _⟩
  | 1, _ =>
    have E : Hid (lead 1 a0 b0 a1 b1 x y = ((a0 == x) && (b0 == y))) := rfl
    go_enter Tryd.func64, Tryd.ntmps64
    go_wp2
    refine wp_loop_rounds 2 ?_
    rw [rounds_succ]
    go_wp2
    cases h1 : (a0 == x) <;> cases h2 : (b0 == y)
    all_goals rw [h1, h2] at E
    all_goals go_quiet (fail)
    all_goals go_wp2
    all_goals try (rw [rounds_succ]; go_wp2)
    all_goals go_ret
    all_goals refine ⟨retb E.out.symm, ?_⟩
    all_goals repeat (first | exact Below.refl _ _ | refine Mem.below_draws ?_ _ | refine Below.alloc ?_ (by simp; try omega) _)
  | 2, _ =>
    have E : Hid (lead 2 a0 b0 a1 b1 x y = (((a0 == x) && (b0 == y)) || ((a1 == x) && (b1 == y)))) := rfl
    go_enter Tryd.func64, Tryd.ntmps64
    go_wp2
    refine wp_loop_rounds 3 ?_
    rw [rounds_succ]
    go_wp2
    cases h1 : (a0 == x) <;> cases h2 : (b0 == y)
    · rw [h1, h2] at E
      go_quiet (fail)
      go_wp2
      rw [rounds_succ]
      go_wp2
      cases h3 : (a1 == x) <;> cases h4 : (b1 == y)
      all_goals rw [h3, h4] at E
      all_goals go_quiet (fail)
      all_goals go_wp2
      all_goals try (rw [rounds_succ]; go_wp2)
      all_goals go_ret
      all_goals refine ⟨retb E.out.symm, ?_⟩
      all_goals repeat (first | exact Below.refl _ _ | refine Mem.below_draws ?_ _ | refine Below.alloc ?_ (by simp; try omega) _)
    · rw [h1, h2] at E
      go_quiet (fail)
      go_wp2
      rw [rounds_succ]
      go_wp2
      cases h3 : (a1 == x) <;> cases h4 : (b1 == y)
      all_goals rw [h3, h4] at E
      all_goals go_quiet (fail)
      all_goals go_wp2
      all_goals try (rw [rounds_succ]; go_wp2)
      all_goals go_ret
      all_goals refine ⟨retb E.out.symm, ?_⟩
      all_goals repeat (first | exact Below.refl _ _ | refine Mem.below_draws ?_ _ | refine Below.alloc ?_ (by simp; try omega) _)
    · rw [h1, h2] at E
      go_quiet (fail)
      go_wp2
      rw [rounds_succ]
      go_wp2
      cases h3 : (a1 == x) <;> cases h4 : (b1 == y)
      all_goals rw [h3, h4] at E
      all_goals go_quiet (fail)
      all_goals go_wp2
      all_goals try (rw [rounds_succ]; go_wp2)
      all_goals go_ret
      all_goals refine ⟨retb E.out.symm, ?_⟩
      all_goals repeat (first | exact Below.refl _ _ | refine Mem.below_draws ?_ _ | refine Below.alloc ?_ (by simp; try omega) _)
    · rw [h1, h2] at E
      go_quiet (fail)
      go_wp2
      go_ret
      refine ⟨retb (by rw [E.out]; rfl), ?_⟩
      repeat (first | exact Below.refl _ _ | refine Mem.below_draws ?_ _ | refine Below.alloc ?_ (by simp; try omega) _)

/-- what a call leaves that has put a link to the seven cells of an end -/
def AddPost (g o n : Nat) (a0 b0 a1 b1 p q x y pt ps : Int) (w : World) (e : Ending) (w' : World) : Prop :=
  e = .returned (.tuple #[]) ∧ (if n = 0 then Seven w' g o 1 x y a1 b1 pt ps else Seven w' g o 2 a0 b0 x y p q) ∧ (∀ j, (j < o ∨ o + 7 ≤ j) → w'.cell? ⟨g, j, none⟩ = w.cell? ⟨g, j, none⟩) ∧ (∀ j, w'.frozen? ⟨g, j, none⟩ = w.frozen? ⟨g, j, none⟩) ∧ w.grownBy w' (some g)
set_option maxHeartbeats 1000000 in
theorem add_end (g o n : Nat) (a0 b0 a1 b1 p q x y : Int) (k : Lnk) (w : World) (h : Seven w g o n a0 b0 a1 b1 p q) (hf : ∀ j, w.frozen? ⟨g, j, none⟩ = false) (hn : n ≤ 1) :
    Calls Tryd.prog 66 #[.pointer (some ⟨g, o, none⟩), lnkArg k, .agg #[.int .i64 x, .int .i64 y]] w (AddPost g o n a0 b0 a1 b1 p q x y k.pt k.ps w) := by
  obtain ⟨a, ae, b, be, pt, ps⟩ := k
  simp only [lnkArg] at *
  have hg := h.lt
  obtain ⟨k0, k1, k2, k3, k4, k5, k6⟩ := h
  match n, hn with
  | 0, _ =>
    go_enter Tryd.func66, Tryd.ntmps66
    go_wp2
    go_region
    go_wp2
    go_region
    go_wp2
    go_end0
    have h5 := (((((show Seven w g o 0 a0 b0 a1 b1 p q from ⟨k0, k1, k2, k3, k4, k5, k6⟩).put5 pt).put6 ps).put1 x).put2 y).put0 1
    refine ⟨rfl, ?_, fun j hj => ?_, fun j => ?_, ?_⟩
    · rw [if_pos rfl]
      exact h5.below ((two_more _ _ (Nat.le_refl _)).drew.drew) (by simpa using hg)
    · refine ((two_more _ _ (Nat.le_refl _)).drew.drew.cell (p := ⟨g, j, none⟩) (by simpa using hg)).trans ?_
      rw [set_other (by omega), set_other (by omega), set_other (by omega), set_other (by omega), set_other (by omega)]
    · refine ((two_more _ _ (Nat.le_refl _)).drew.drew.frozen (p := ⟨g, j, none⟩) (by simpa using hg)).trans ?_
      simp
    · exact grown_drew (grown_drew (grown_alloc (grown_alloc (grown_set (grown_set (grown_set (grown_set (grown_set (World.grownBy.refl w _) _) _) _) _) _) _) _))
  | 1, _ =>
    go_enter Tryd.func66, Tryd.ntmps66
    go_wp2
    go_region
    go_wp2
    go_end0
    have h5 := (((show Seven w g o 1 a0 b0 a1 b1 p q from ⟨k0, k1, k2, k3, k4, k5, k6⟩).put3 x).put4 y).put0 2
    refine ⟨rfl, ?_, fun j hj => ?_, fun j => ?_, ?_⟩
    · rw [if_neg (by decide)]
      exact h5.below ((two_more _ _ (Nat.le_refl _)).drew) (by simpa using hg)
    · refine ((two_more _ _ (Nat.le_refl _)).drew.cell (p := ⟨g, j, none⟩) (by simpa using hg)).trans ?_
      rw [set_other (by omega), set_other (by omega), set_other (by omega)]
    · refine ((two_more _ _ (Nat.le_refl _)).drew.frozen (p := ⟨g, j, none⟩) (by simpa using hg)).trans ?_
      simp
    · exact grown_drew (grown_alloc (grown_alloc (grown_set (grown_set (grown_set (World.grownBy.refl w _) _) _) _) _) _)
end Go.Proofs.YtkfobijgjdgbgaaDoor.PEnds

/-
  Contract of the maker of routes: what it answers follows hops, and passes no section twice.
-/
import Derived.Test.YtnfelcjpjodjhaaGreatMN
import Derived.Test.YtnfelcjpjodjhaaGreatME
import Derived.Test.YtnfelcjpjodjhaaGreatMD
import Derived.Test.YtnfelcjpjodjhaaGreatMI
import Derived.Deep.RegionHeld3
namespace Go.Proofs.YtnfelcjpjodjhaaGreat.RteK
open Go.ChangeShapes Go.WideShapes Go.ChangeAt Go.RowKit Wd Small Mem Lay LayT Recs Keep Names PNames PSecs PEnds PCheck PStep PHops RNames RCheck Src Dec RHopsF Rt RtR RtW
set_option linter.unusedVariables false

/-- block g holds a route -/
def RBox (w : World) (g : Nat) (A : Option Addr) (n c : Nat) (ov : Int) : Prop := w.heap[g]? = some (.cells #[.slice A n c, .int .i64 ov] 29 (0, 0))
theorem RBox.cells {w : World} {g n c : Nat} {A : Option Addr} {ov : Int} (h : RBox w g A n c ov) : w.cell? ⟨g, 0, none⟩ = some (.slice A n c) ∧ w.cell? ⟨g, 1, none⟩ = some (.int .i64 ov) ∧ w.frozen? ⟨g, 0, none⟩ = false ∧ w.frozen? ⟨g, 1, none⟩ = false ∧ g < w.heap.size := by
  have h' : w.heap[g]? = _ := h
  exact ⟨by simp [World.cell?, h'], by simp [World.cell?, h'], by simp [World.frozen?, h'], by simp [World.frozen?, h'], lt_of_block h⟩
theorem RBox.put {w : World} {g n c n' c' : Nat} {A A' : Option Addr} {ov : Int} (h : RBox w g A n c ov) : RBox (w.setCell ⟨g, 0, none⟩ (.slice A' n' c')) g A' n' c' ov := by
  unfold RBox at h ⊢
  rw [Go.setCell_eq_setRow w g 0 _ _ _ (.slice A' n' c') h]
  exact setRow_heap w g _ _ _ _ h
theorem RBox.puto {w : World} {g n c : Nat} {A : Option Addr} {ov z : Int} (h : RBox w g A n c ov) : RBox (w.setCell ⟨g, 1, none⟩ (.int .i64 z)) g A n c z := by
  unfold RBox at h ⊢
  rw [Go.setCell_eq_setRow w g 1 _ _ _ (.int .i64 z) h]
  exact setRow_heap w g _ _ _ _ h
/-- block g holds a step -/
def SBox (w : World) (g : Nat) (s : Lay.Step) : Prop := w.heap[g]? = some (.cells #[.int .i64 s.1, .int .i64 s.2] 39 (0, 0))
theorem SBox.cells {w : World} {g : Nat} {s : Lay.Step} (h : SBox w g s) : w.cell? ⟨g, 0, none⟩ = some (.int .i64 s.1) ∧ w.cell? ⟨g, 1, none⟩ = some (.int .i64 s.2) ∧ w.frozen? ⟨g, 0, none⟩ = false ∧ w.frozen? ⟨g, 1, none⟩ = false ∧ g < w.heap.size := by
  have h' : w.heap[g]? = _ := h
  exact ⟨by simp [World.cell?, h'], by simp [World.cell?, h'], by simp [World.frozen?, h'], by simp [World.frozen?, h'], lt_of_block h⟩
theorem SBox.put {w : World} {g : Nat} {s t : Lay.Step} (h : SBox w g s) : SBox ((w.setCell ⟨g, 0, none⟩ (.int .i64 t.1)).setCell ⟨g, 1, none⟩ (.int .i64 t.2)) g t := by
  unfold SBox at h ⊢
  have h1 : (w.setCell ⟨g, 0, none⟩ (.int .i64 t.1)).heap[g]? = some (.cells #[.int .i64 t.1, .int .i64 s.2] 39 (0, 0)) := by
    rw [Go.setCell_eq_setRow w g 0 _ _ _ (.int .i64 t.1) h]
    exact setRow_heap w g _ _ _ _ h
  rw [Go.setCell_eq_setRow _ g 1 _ _ _ (.int .i64 t.2) h1]
  exact setRow_heap _ g _ _ _ _ h1

/-- what stands in memory while a route is made: the source in block b + 2, the route in b + 3, its last step in X -/
structure St (W1 : World) (b X : Nat) (Ai : Option Addr) (li ci : Nat) (wr : World) (S : List Lay.Step) (x : Lay.Step) : Prop where
  src : ∃ i, i ≤ li ∧ Src wr (b + 2) Ai li ci i
  r : ∃ A c, RBox wr (b + 3) A S.length c 0 ∧ Own stpR wr (X + 1) (.slice A S.length c) S.length S
  x : SBox wr X x
  lo : b + 4 ≤ X
  bel : Below (b + 2) W1 wr
section
variable {W1 wr w' : World} {b X li ci : Nat} {Ai : Option Addr} {S : List Lay.Step} {x : Lay.Step}
theorem St.below (h : St W1 b X Ai li ci wr S x) (hb : Below wr.heap.size wr w') : St W1 b X Ai li ci w' S x := by
  obtain ⟨⟨i, h1, h2⟩, ⟨A, c, h3, h4⟩, h5, h6, h7⟩ := h
  have hz := h7.size
  have hx := h5.cells.2.2.2.2
  exact ⟨⟨i, h1, (hb.block _ (by omega)).trans h2⟩, ⟨A, c, (hb.block _ (by omega)).trans h3, h4.below hb (Nat.le_refl _)⟩, (hb.block _ hx).trans h5, h6, h7.trans (hb.mono (by omega))⟩
theorem St.drewN (h : St W1 b X Ai li ci wr S x) (k : Nat) : St W1 b X Ai li ci (wr.drewN k) S x := h.below (Mem.below_draws (Below.refl _ _) k)
theorem St.next {i : Nat} (h : St W1 b X Ai li ci wr S x) (hi : i ≤ li) (hs : Src w' (b + 2) Ai li ci i) (hg : wr.grownBy w' (some (b + 2))) : St W1 b X Ai li ci w' S x := by
  obtain ⟨-, ⟨A, c, h3, h4⟩, h5, h6, h7⟩ := h
  have hx := h5.cells.2.2.2.2
  refine ⟨⟨i, hi, hs⟩, ⟨A, c, (hg.block _ (by omega) (by simp)).trans h3, h4.grown hg ?_⟩, (hg.block _ hx (by simp; omega)).trans h5, h6, h7.grown hg (by have := h7.size; omega) (fun k hk => by cases hk; omega)⟩
  cases hv : (Value.slice A S.length c).ownBlock with
  | none => exact .inl rfl
  | some g => exact .inr (fun e => by cases e; have := (h4.2.lt _ hv).1; omega)
theorem St.setx (h : St W1 b X Ai li ci wr S x) (t : Lay.Step) : St W1 b X Ai li ci ((wr.setCell ⟨X, 0, none⟩ (.int .i64 t.1)).setCell ⟨X, 1, none⟩ (.int .i64 t.2)) S t := by
  obtain ⟨⟨i, h1, h2⟩, ⟨A, c, h3, h4⟩, h5, h6, h7⟩ := h
  have hp : ∀ (V : World) (j k : Nat) (u : Value), k ≠ X → (V.setCell ⟨X, j, none⟩ u).heap[k]? = V.heap[k]? := fun V j k u hk => Below.heap_setCell V ⟨X, j, none⟩ u k (fun e => hk e)
  have ho : (Value.slice A S.length c).ownBlock ≠ some X := fun e => by have := (h4.2.lt _ e).1; omega
  exact ⟨⟨i, h1, by unfold Src; rw [hp _ _ _ _ (by omega), hp _ _ _ _ (by omega)]; exact h2⟩, ⟨A, c, by unfold RBox; rw [hp _ _ _ _ (by omega), hp _ _ _ _ (by omega)]; exact h3, own_past (own_past h4 ho) ho⟩, h5.put, h6, (h7.setCell (by show b + 2 ≤ X; omega) _).setCell (by show b + 2 ≤ X; omega) _⟩
/-- behind the append of a step to the route's row, the row not yet stored -/
theorem St.push {A A' : Option Addr} {c c' : Nat} {o : Obj} (h : St W1 b X Ai li ci wr S x) (hr : RBox wr (b + 3) A S.length c 0) (hO : Own stpR wr (X + 1) (.slice A S.length c) S.length S) {t : Lay.Step}
    (hg : (wr.alloc o).grownBy w' (Value.slice A S.length c).ownBlock) (hO' : Own stpR w' (X + 1) (.slice A' (S.length + 1) c') (S.length + 1) (S ++ [t])) : RBox w' (b + 3) A S.length c 0 ∧ St W1 b X Ai li ci (w'.setCell ⟨b + 3, 0, none⟩ (.slice A' (S.length + 1) c')) (S ++ [t]) x := by
  obtain ⟨⟨i, h1, h2⟩, -, h5, h6, h7⟩ := h
  have hx := h5.cells.2.2.2.2
  have hk : ∀ k, k < wr.heap.size → k ≤ X → w'.heap[k]? = wr.heap[k]? := fun k hk hX => (hg.block k (by simp; omega) (fun e => by have := (hO.2.lt k e.symm).1; omega)).trans (Below.heap_alloc _ _ _ hk)
  have hr' : RBox w' (b + 3) A S.length c 0 := (hk _ (by omega) (by omega)).trans hr
  have hp : ∀ (k : Nat) (u : Value), k ≠ b + 3 → (w'.setCell ⟨b + 3, 0, none⟩ u).heap[k]? = w'.heap[k]? := fun k u hk => Below.heap_setCell w' ⟨b + 3, 0, none⟩ u k (fun e => hk e)
  refine ⟨hr', ⟨i, h1, by unfold Src; rw [hp _ _ (by omega), hk _ (by omega) (by omega)]; exact h2⟩, ⟨A', c', by rw [List.length_append]; exact hr'.put, by rw [List.length_append]; exact own_past hO' (fun e => by have := (hO'.2.lt _ e).1; omega)⟩, by unfold SBox; rw [hp _ _ (by omega), hk _ hx (Nat.le_refl _)]; exact h5, h6, ?_⟩
  exact ((h7.alloc (show b + 2 ≤ wr.heap.size by omega) o).grown hg (by simp; omega) (fun k hk => by have := (hO.2.lt k hk).1; omega)).setCell (by show b + 2 ≤ b + 3; omega) _
end

/-- a row of a route's steps, behind the writes with which the maker ends -/
theorem own_end {wr wf : World} {b X n : Nat} {A : Option Addr} {c : Nat} {S : List Lay.Step} {u u0 u1 : Value} (h : Own stpR wr (X + 1) (.slice A n c) n S) (hX : b + 4 ≤ X) (hg : wr.grownBy wf (some (b + 2))) : Own stpR (((wf.setCell ⟨b + 3, 1, none⟩ u).setCell ⟨b + 1, 0, none⟩ u0).setCell ⟨b + 1, 1, none⟩ u1) b (.slice A n c) n S := by
  have ho : ∀ g, (Value.slice A n c).ownBlock = some g → X + 1 ≤ g := fun g hg => (h.2.lt g hg).1
  have h1 : Own stpR wf (X + 1) (.slice A n c) n S := h.grown hg (by
    cases hv : (Value.slice A n c).ownBlock with
    | none => exact .inl rfl
    | some g => exact .inr (fun e => by cases e; have := ho _ hv; omega))
  exact (own_past (own_past (own_past h1 (fun e => by have := ho _ e; omega)) (fun e => by have := ho _ e; omega)) (fun e => by have := ho _ e; omega)).base_ (by omega)
/-- what a call leaves that answers a route of its own which follows hops -/
def RtePost (l : Lay) (w : World) (e : Ending) (w' : World) : Prop := ∃ A n c S ov, e = .returned (.agg #[.slice A n c, .int .i64 ov]) ∧ Own stpR w' w.heap.size (.slice A n c) n S ∧ Walk l S ∧ n ≤ 7 ∧ 0 ≤ ov ∧ ov ≤ 2 ∧ (ov = 0 ∨ 2 ≤ (n : Int) - ov) ∧ Below w.heap.size w w'

set_option maxRecDepth 100000 in
set_option maxHeartbeats 8000000 in
theorem route_any (v : LV) (l : Lay) (A : Option Addr) (li ci : Nat) (w : World) (hL : RdL w w.heap.size v l) (hck : check l = 0) (hI : Ints w w.heap.size A li) (hli : li ≤ 9223372036854775807) :
    Calls Tryz.prog 12 #[v.val, .slice A li ci] w (RtePost l w) := by
  obtain ⟨ih, hih, hz0, hz1, hz2⟩ := info_parts infoStp
  obtain ⟨W, hW⟩ : ∃ W, (w.alloc (.cells #[.slice v.A1 v.n1 v.c1, .slice v.A2 v.n2 v.c2, .slice v.A3 v.n3 v.c3, .slice v.A4 v.n4 v.c4] 26)).alloc (.cells #[.slice none 0 0, .int .i64 0] 29) = W := ⟨_, rfl⟩
  have hbW : Below w.heap.size w W := by rw [← hW]; exact ((Below.refl _ _).alloc (Nat.le_refl _) _).alloc (by simp) _
  have hzW : W.heap.size = w.heap.size + 2 := by rw [← hW]; simp
  have hbox : W.cell? ⟨w.heap.size, 0, none⟩ = some (.slice v.A1 v.n1 v.c1) ∧ W.cell? ⟨w.heap.size, 1, none⟩ = some (.slice v.A2 v.n2 v.c2) ∧ W.cell? ⟨w.heap.size, 2, none⟩ = some (.slice v.A3 v.n3 v.c3) ∧ W.cell? ⟨w.heap.size, 3, none⟩ = some (.slice v.A4 v.n4 v.c4) := by rw [← hW]; simp
  have hres : RBox W (w.heap.size + 1) none 0 0 0 := by
    have e : w.heap.size + 1 = (w.alloc (.cells #[.slice v.A1 v.n1 v.c1, .slice v.A2 v.n2 v.c2, .slice v.A3 v.n3 v.c3, .slice v.A4 v.n4 v.c4] 26)).heap.size := by simp
    rw [← hW, e]; exact heap_alloc_new _ _
  have HK : Hid (∀ wr, Below (w.heap.size + 2) W wr → _) := fun wr hb => box_kept (W := W) (by rw [hzW]; exact hb) (show w.heap.size < W.heap.size by omega) hbox
  have HRES : Hid (∀ wr, Below (w.heap.size + 2) W wr → RBox wr (w.heap.size + 1) none 0 0 0) := fun wr hb => (hb.block _ (by omega)).trans hres
  have HLW : Hid (∀ wr, Below (w.heap.size + 2) W wr → RdL wr wr.heap.size v l) := fun wr hb => (hL.grow hbW hbW.size).grow (by rw [hzW]; exact hb) hb.size
  have HIW := Lib.hid (hI.below hbW)
  have HBW := Lib.hid hbW
  have HZ := Lib.hid hzW
  have HCK := Lib.hid hck
  have hl1 := (LayT.limits hck)
  have hn31 : 1 ≤ v.n3 := by have h1 := hL.sec.1; have := sec_pos hck; omega
  have hn3 : v.n3 ≤ 96 := by have := hL.sec.1; omega
  have HN3 := Lib.hid hL.sec.1
  clear hL hI hbW hzW hbox hres hck hl1
  obtain ⟨W3, hW3⟩ : ∃ W3, (W.alloc (.cells #[.slice A li ci, .int .i64 0] 102)).alloc (.cells #[.slice none 0 0, .int .i64 0] 29) = W3 := ⟨_, rfl⟩
  have hb3 : Below (w.heap.size + 2) W W3 := by rw [← hW3]; have := HZ.out; exact ((Below.refl _ _).alloc (by omega) _).alloc (by simp; omega) _
  have hz3 : W3.heap.size = w.heap.size + 4 := by rw [← hW3]; simp [HZ.out]
  have hs3 : Src W3 (w.heap.size + 2) A li ci 0 := by rw [← hW3, ← HZ.out]; exact (Below.heap_alloc _ _ _ (by simp)).trans (heap_alloc_new _ _)
  have hr3 : RBox W3 (w.heap.size + 3) none 0 0 0 := by
    have e : w.heap.size + 3 = (W.alloc (.cells #[.slice A li ci, .int .i64 0] 102)).heap.size := by simp [HZ.out]
    rw [← hW3, e]; exact heap_alloc_new _ _
  have HB3 := Lib.hid hb3
  have HZ3 := Lib.hid hz3
  have HS3 := Lib.hid hs3
  have HR3 := Lib.hid hr3
  clear hb3 hz3 hs3 hr3
  obtain ⟨A1, n1, c1, A2, n2, c2, A3, n3, c3, A4, n4, c4⟩ := v
  simp only [LV.val] at *
  obtain ⟨b0, b1, b2, b3⟩ := HK.out W3 HB3.out
  go_enter Tryz.func12, Tryz.ntmps12
  go_upto_region 1 with fail
  try rw [hW]
  clear hW
  go_wp2_with fail
  refine (from_any A li ci W).mono ?_
  rintro e wx ⟨rfl, rfl⟩
  go_upto_region 3 with fail
  try rw [hW3]
  clear hW3
  rw [show W.heap.size + 1 = w.heap.size + 3 by rw [HZ.out], HZ.out]
  have hn3p : (1 : Int) ≤ (n3 : Int) := by omega
  go_wp2_with fail
  refine (next_any (w.heap.size + 2) A li ci 0 w.heap.size (n3 : Int) W3 HS3.out (Nat.zero_le _) hli (HIW.out.below (HB3.out.mono (by omega))) (by omega) hn3p (by omega)).mono ?_
  rintro e w4 ⟨r1, i1, hr0, hr1, rfl, hi1, hsrc4, hg4⟩
  have hz4 := hg4.size
  have hR4 : RBox w4 (w.heap.size + 3) none 0 0 0 := (hg4.block _ (by have := HZ3.out; omega) (by simp)).trans HR3.out
  have hB4 := HB3.out.grown hg4 (by have := HZ3.out; omega) (fun k hk => by cases hk; omega)
  clear b0 b1 b2 b3
  obtain ⟨b0, b1, b2, b3⟩ := HK.out w4 hB4
  go_wp2_with fail
  refine (next_any (w.heap.size + 2) A li ci i1 w.heap.size 2 w4 hsrc4 hi1 hli (HIW.out.below (hB4.mono (by omega))) (by omega) (by decide) (by decide)).mono ?_
  rintro e w5 ⟨r2, i2, hr2, hr3, rfl, hi2, hsrc5, hg5⟩
  have hz5 := hg5.size
  have hR5 : RBox w5 (w.heap.size + 3) none 0 0 0 := (hg5.block _ (by have := HZ3.out; omega) (by simp)).trans hR4
  have hB5 := hB4.grown hg5 (by have := HZ3.out; omega) (fun k hk => by cases hk; omega)
  obtain ⟨X, hX⟩ : ∃ X, w5.heap.size = X := ⟨_, rfl⟩
  obtain ⟨w6, hw6⟩ : ∃ w6, w5.alloc (.cells #[.int .i64 r1, .int .i64 r2] 39) = w6 := ⟨_, rfl⟩
  have hb6 : Below w5.heap.size w5 w6 := by rw [← hw6]; exact (Below.refl _ _).alloc (Nat.le_refl _) _
  have hS0 : St W w.heap.size X A li ci w6 [] (r1, r2) := ⟨⟨i2, hi2, (hb6.block _ (by have := HZ3.out; omega)).trans hsrc5⟩, ⟨none, 0, (hb6.block _ (by have := HZ3.out; omega)).trans hR5, Own.nil _ _⟩, by rw [← hw6, ← hX]; exact heap_alloc_new _ _, by have := HZ3.out; omega, hB5.trans (hb6.mono (by have := HZ3.out; omega))⟩
  have hstp : stepIn l.sections.length (r1, r2) = true := by
    have := HN3.out
    simp only [stepIn, Bool.and_eq_true, Bool.or_eq_true, decide_eq_true_eq]
    omega
  have HW0 := Lib.hid (Walk.start hstp)
  have HS0 := Lib.hid hS0
  clear b0 b1 b2 b3 hsrc4 hg4 hR4 hB4 hsrc5 hg5 hR5 hB5 hb6 hS0 hstp HB3 HS3 HR3
  go_upto_region 4 with fail
  try rw [hw6]
  try rw [hX]
  clear hw6
  obtain ⟨Ar, cr, rb0, ro0⟩ := HS0.out.r
  obtain ⟨k0, k1, kf0, kf1, klt⟩ := rb0.cells
  obtain ⟨x0, x1, -, -, xlt⟩ := HS0.out.x.cells
  have hXlo := HS0.out.lo
  have RB0 := Lib.hid rb0
  have RO0 := Lib.hid ro0
  simp only [List.length_nil] at k0
  have hn63 : 0 + 1 ≤ maxLen := by unfold maxLen; omega
  clear rb0 ro0 hX
  go_wp2_with (at_builtin; refine wpList_append_own _ rfl _ _ 27 rfl (X + 1) 39 ih _ 2 16 Tryz.underlying27 hih hz0 hz1 hz2 rfl (by omega) (.slice Ar 0 cr) 0 [] rfl (RO0.out.2.alloc _) ⟨w6.heap.size, 0, none⟩ 1 1 [.int .i64 r1, .int .i64 r2] rfl rfl (World.news_of_block (cs := #[.int .i64 r1, .int .i64 r2]) (t := 39) (fr := (0, 0)) (heap_alloc_new _ _)) (by simp [Value.oneCell']) hn63 (by omega) (by simp; omega) ?_; intro v7 w7 hown7 hgrow7 hnil7; have hO7 : Own stpR w7 (X + 1) v7 (0 + 1) ([] ++ [(r1, r2)]) := Own.push (R := stpR) (L := []) (a := (r1, r2)) rfl hown7; obtain ⟨A', c7, rfl, _⟩ := hO7.form; obtain ⟨hr7, hS7⟩ := HS0.out.push RB0.out RO0.out hgrow7 hO7; have HS7 := Lib.hid hS7; obtain ⟨d0, d1, g0, g1, _⟩ := hr7.cells; clear hown7 hgrow7 hO7 hr7 hS7 hnil7 k0 k1 kf0 kf1 x0 x1)
  obtain ⟨w8, hw8⟩ : ∃ w8, w7.setCell ⟨w.heap.size + 3, 0, none⟩ (.slice A' (([] : List Lay.Step).length + 1) c7) = w8 := ⟨_, rfl⟩
  have HS8 : Hid (St W w.heap.size X A li ci w8 [(r1, r2)] (r1, r2)) := by rw [Hid, ← hw8]; exact HS7.out
  simp only [List.length_nil] at hw8
  try rw [hw8]
  clear hw8 HS7 RB0 RO0 d0 d1 g0 g1 xlt klt HS0
  obtain ⟨i3, hi3, hsrc8⟩ := HS8.out.src
  refine (next_any (w.heap.size + 2) A li ci i3 w.heap.size 6 w8 hsrc8 hi3 hli (HIW.out.below (HS8.out.bel.mono (by omega))) (by omega) (by decide) (by decide)).mono ?_
  rintro e w9 ⟨m0, i4, hm0, hm1, rfl, hi4, hsrc9, hg9⟩
  have HS9 := Lib.hid (HS8.out.next hi4 hsrc9 hg9)
  clear hsrc8 hsrc9 hg9 HS8
  have hwm : IntKind.i64.wrap (1 + m0) = 1 + m0 := by rw [IntKind.wrap_i64]; omega
  go_wp2_with fail
  go_loopw [8, 9, 10] (fun n _ _ wr => ∃ (m : Int) (S : List Lay.Step) (x : Lay.Step), n = .int .i64 m ∧ -1 ≤ m ∧ m ≤ 6 ∧ (S.length : Int) + max m 0 ≤ 7 ∧ Hid (St W w.heap.size X A li ci wr S x) ∧ Hid (Walk l S ∧ (0 < m → S.getLastD (0, 0) = x))) (fun n _ _ _ => (intOf n).toNat)
  case atStart => exact ⟨1 + m0, [(r1, r2)], (r1, r2), rfl, by omega, by omega, by simp; omega, HS9, HW0.out, fun _ => rfl⟩
  case round =>
    obtain ⟨m, S, x, rfl, hma, hmb, hml, HS, HWK⟩ := hrel
    by_cases hpos : 0 < m
    · obtain ⟨b0, b1, b2, b3⟩ := HK.out wr HS.out.bel
      obtain ⟨x0, x1, -, -, xlt⟩ := HS.out.x.cells
      have HH := Lib.hid (r_hops_of ⟨A1, n1, c1, A2, n2, c2, A3, n3, c3, A4, n4, c4⟩ l x wr (HLW.out wr HS.out.bel) HCK.out)
      simp only [LV.val] at HH
      go_wp2_with fail
      refine HH.out.mono ?_
      rintro e w2 ⟨Aw, nw, cw, rfl, hOw, hb2⟩
      have HS2 := Lib.hid (HS.out.below hb2)
      have HOw := Lib.hid hOw
      have hXr : X < wr.heap.size ∧ w.heap.size + 4 ≤ X := ⟨xlt, HS.out.lo⟩
      have hnw := hOw.1
      have hcw : nw ≤ maxLen := by obtain ⟨_, _, e, h1, h2⟩ := hOw.form; injection e; subst_vars; omega
      clear b0 b1 b2 b3 x0 x1 xlt hb2 hOw HH HS
      by_cases hw0 : nw = 0
      · subst hw0
        obtain ⟨Af, cf, rbf, rof⟩ := HS2.out.r
        have RBF := Lib.hid rbf
        have ROF := Lib.hid rof
        have HXL := Lib.hid HS2.out.lo
        obtain ⟨f0, f1, ff0, ff1, flt⟩ := rbf.cells
        obtain ⟨i7, hi7, hsrcf⟩ := HS2.out.src
        have HNX := Lib.hid (next_any (w.heap.size + 2) A li ci i7 w.heap.size 3 w2.drew hsrcf hi7 hli ((HIW.out.below (HS2.out.bel.mono (by omega))).below (Below.refl _ _).drew) (by omega) (by decide) (by decide))
        clear rbf rof hsrcf
        have hsl1 : 0 < S.length := List.length_pos_iff.2 HWK.out.1.ne
        have hsl7 : (S.length : Int) ≤ 7 := by omega
        have hwl : IntKind.i64.wrap ((S.length : Int) - 2) = (S.length : Int) - 2 := by rw [IntKind.wrap_i64]; omega
        go_upto_region 19 with fail
        first | go_region_with (go_at_call 29; refine HNX.out.mono ?_; rintro e wf ⟨ro, i8, hro, hro2, rfl, hi8, hsrc8, hg8⟩; have hrb8 : RBox wf (w.heap.size + 3) Af S.length cf 0 := (hg8.block _ (by show w.heap.size + 3 < w2.heap.size; omega) (by simp)).trans RBF.out; obtain ⟨m0', m1', mf0, mf1, mlt⟩ := hrb8.cells) | go_region_law (go_simp; go_at_call 29; refine HNX.out.mono ?_; rintro e wf ⟨ro, i8, hro, hro2, rfl, hi8, hsrc8, hg8⟩; have hrb8 : RBox wf (w.heap.size + 3) Af S.length cf 0 := (hg8.block _ (by show w.heap.size + 3 < w2.heap.size; omega) (by simp)).trans RBF.out; obtain ⟨m0', m1', mf0, mf1, mlt⟩ := hrb8.cells)
        all_goals
          first
          | obtain ⟨ov, hov⟩ : ∃ ov : Int, (if (if (2 : Int) < (S.length : Int) then (S.length : Int) - 2 else 0) < ro then (if (2 : Int) < (S.length : Int) then (S.length : Int) - 2 else 0) else ro) = ov := ⟨_, rfl⟩
            have hov0 : 0 ≤ ov ∧ ov ≤ 2 ∧ (ov = 0 ∨ 2 ≤ (S.length : Int) - ov) := by
              split at hov <;> split at hov <;> omega
            have HG8 : Hid (w2.grownBy wf (some (w.heap.size + 2))) := ⟨hg8.os, hg8.tape, hg8.output, hg8.size, hg8.block⟩
            obtain ⟨V, hV⟩ : ∃ V, wf.setCell ⟨w.heap.size + 3, 1, none⟩ (.int .i64 (if (if (2 : Int) < (S.length : Int) then (S.length : Int) - 2 else 0) < ro then (if (2 : Int) < (S.length : Int) then (S.length : Int) - 2 else 0) else ro)) = V := ⟨_, rfl⟩
            rw [hV]
            replace hV : wf.setCell ⟨w.heap.size + 3, 1, none⟩ (.int .i64 ov) = V := by rw [← hov]; exact hV
            have hrv : RBox V (w.heap.size + 3) Af S.length cf ov := by rw [← hV]; exact hrb8.puto
            have hBV : Below (w.heap.size + 2) W V := by rw [← hV]; exact ((HS2.out.bel.grown HG8.out (by omega) (fun k hk => by cases hk; omega))).setCell (by show w.heap.size + 2 ≤ w.heap.size + 3; omega) _
            have hqv := HRES.out V hBV
            obtain ⟨v0, v1, vf0, vf1, vlt⟩ := hrv.cells
            obtain ⟨p0, p1, pf0, pf1, plt⟩ := hqv.cells
            have HV := Lib.hid hV
            have HBV := Lib.hid (HBW.out.trans (hBV.mono (by omega)))
            clear hov hrb8 hsrc8 hg8 m0' m1' mf0 mf1 mlt hV hrv hqv hBV f0 f1 ff0 ff1
            go_wp2_with fail
            all_goals
              refine bodyPost_ret (v := .agg #[.slice Af S.length cf, .int .i64 ov]) ?_ rfl ?_
              · have e0 : ((V.setCell ⟨w.heap.size + 1, 0, none⟩ (.slice Af S.length cf)).setCell ⟨w.heap.size + 1, 1, none⟩ (.int .i64 ov)).cell? ⟨w.heap.size + 1, 0, none⟩ = some (.slice Af S.length cf) := by rw [set_other (by omega)]; exact set_same p0
                have e1 : ((V.setCell ⟨w.heap.size + 1, 0, none⟩ (.slice Af S.length cf)).setCell ⟨w.heap.size + 1, 1, none⟩ (.int .i64 ov)).cell? ⟨w.heap.size + 1, 1, none⟩ = some (.int .i64 ov) := set_same ((set_other (by omega)).trans p1)
                simp [results, Tryz.results12, go_sem, e0, e1]
              · exact ⟨Af, S.length, cf, S, ov, rfl, by rw [← HV.out]; exact own_end ROF.out HXL.out HG8.out, HWK.out.1, by omega, hov0.1, hov0.2.1, hov0.2.2, (HBV.out.setCell (by show w.heap.size ≤ w.heap.size + 1; omega) _).setCell (by show w.heap.size ≤ w.heap.size + 1; omega) _⟩
          | obtain ⟨ov, hov⟩ : ∃ ov : Int, (min ro (max 0 ((S.length : Int) - 2))) = ov := ⟨_, rfl⟩
            have hov0 : 0 ≤ ov ∧ ov ≤ 2 ∧ (ov = 0 ∨ 2 ≤ (S.length : Int) - ov) := by omega
            have HG8 : Hid (w2.grownBy wf (some (w.heap.size + 2))) := ⟨hg8.os, hg8.tape, hg8.output, hg8.size, hg8.block⟩
            obtain ⟨V, hV⟩ : ∃ V, wf.setCell ⟨w.heap.size + 3, 1, none⟩ (.int .i64 (min ro (max 0 ((S.length : Int) - 2)))) = V := ⟨_, rfl⟩
            rw [hV]
            replace hV : wf.setCell ⟨w.heap.size + 3, 1, none⟩ (.int .i64 ov) = V := by rw [← hov]; exact hV
            have hrv : RBox V (w.heap.size + 3) Af S.length cf ov := by rw [← hV]; exact hrb8.puto
            have hBV : Below (w.heap.size + 2) W V := by rw [← hV]; exact ((HS2.out.bel.grown HG8.out (by omega) (fun k hk => by cases hk; omega))).setCell (by show w.heap.size + 2 ≤ w.heap.size + 3; omega) _
            have hqv := HRES.out V hBV
            obtain ⟨v0, v1, vf0, vf1, vlt⟩ := hrv.cells
            obtain ⟨p0, p1, pf0, pf1, plt⟩ := hqv.cells
            have HV := Lib.hid hV
            have HBV := Lib.hid (HBW.out.trans (hBV.mono (by omega)))
            clear hov hrb8 hsrc8 hg8 m0' m1' mf0 mf1 mlt hV hrv hqv hBV f0 f1 ff0 ff1
            go_wp2_with fail
            all_goals
              refine bodyPost_ret (v := .agg #[.slice Af S.length cf, .int .i64 ov]) ?_ rfl ?_
              · have e0 : ((V.setCell ⟨w.heap.size + 1, 0, none⟩ (.slice Af S.length cf)).setCell ⟨w.heap.size + 1, 1, none⟩ (.int .i64 ov)).cell? ⟨w.heap.size + 1, 0, none⟩ = some (.slice Af S.length cf) := by rw [set_other (by omega)]; exact set_same p0
                have e1 : ((V.setCell ⟨w.heap.size + 1, 0, none⟩ (.slice Af S.length cf)).setCell ⟨w.heap.size + 1, 1, none⟩ (.int .i64 ov)).cell? ⟨w.heap.size + 1, 1, none⟩ = some (.int .i64 ov) := set_same ((set_other (by omega)).trans p1)
                simp [results, Tryz.results12, go_sem, e0, e1]
              · exact ⟨Af, S.length, cf, S, ov, rfl, by rw [← HV.out]; exact own_end ROF.out HXL.out HG8.out, HWK.out.1, by omega, hov0.1, hov0.2.1, hov0.2.2, (HBV.out.setCell (by show w.heap.size ≤ w.heap.size + 1; omega) _).setCell (by show w.heap.size ≤ w.heap.size + 1; omega) _⟩
      · have hwp : ¬ (nw : Int) = 0 := by omega
        have hwp1 : (1 : Int) ≤ (nw : Int) := by omega
        obtain ⟨i5, hi5, hsrc2⟩ := HS2.out.src
        have hmx : (nw : Int) ≤ 9223372036854775807 := by unfold maxLen at hcw; omega
        go_wp2_with fail
        refine (next_any (w.heap.size + 2) A li ci i5 w.heap.size (nw : Int) w2 hsrc2 hi5 hli (HIW.out.below (HS2.out.bel.mono (by omega))) (by omega) hwp1 hmx).mono ?_
        rintro e w3 ⟨j0, i6, hj0, hj1, rfl, hi6, hsrc3, hg3⟩
        have HS3 := Lib.hid (HS2.out.next hi6 hsrc3 hg3)
        have HO3 := Lib.hid (HOw.out.grown hg3 (by
          cases hv : (Value.slice Aw nw cw).ownBlock with
          | none => exact .inl rfl
          | some g => exact .inr (fun e => by cases e; have := (HOw.out.2.lt _ hv).1; omega)))
        obtain ⟨j, rfl⟩ : ∃ j : Nat, j0 = (j : Int) := ⟨j0.toNat, by omega⟩
        obtain ⟨ae, ⟨⟨ha, hb⟩, pt, ps⟩, rfl, hae, hj, e0, e1, e2, e3⟩ := loadHop HO3.out.rd (show j < nw by omega)
        have HMEM := Lib.hid (List.mem_of_getElem? hj)
        simp only at e0 e1
        obtain ⟨-, -, y0, y1, ylt⟩ := HS3.out.x.cells
        obtain ⟨x0, x1, -, -, -⟩ := HS3.out.x.cells
        have hjn : (j : Int) < (nw : Int) := by omega
        have HS4 := Lib.hid (HS3.out.setx (ha, hb))
        simp only at HS4
        clear hsrc2 hsrc3 hg3 HS2 HOw hj e2 e3 hnw hae
        go_upto_region 11 with fail
        obtain ⟨w4, hw4⟩ : ∃ w4, (w3.setCell ⟨X, 0, none⟩ (.int .i64 ha)).setCell ⟨X, 1, none⟩ (.int .i64 hb) = w4 := ⟨_, rfl⟩
        rw [hw4] at HS4
        try rw [hw4]
        clear hw4 e0 e1 x0 x1 y0 y1 ylt HS3 HO3
        obtain ⟨Ar4, cr4, rb4, ro4⟩ := HS4.out.r
        obtain ⟨k0, -, -, -, -⟩ := rb4.cells
        clear rb4 ro4
        have hsl : (S.length : Int) ≤ 7 := by omega
        go_wp2_with fail
        go_loopw [8, 10, 51] (fun n _ c wq => ∃ (k : Nat) (z : Int), k ≤ S.length ∧ c = .int .i64 k ∧ n = .int .i64 z ∧ Hid (z = if pass (S.take k) ha = true then 0 else m) ∧ Hid (St W w.heap.size X A li ci wq S (ha, hb))) (fun _ _ c _ => S.length - (intOf c).toNat)
        case atStart => exact ⟨0, m, Nat.zero_le _, rfl, rfl, by rw [Hid]; simp [pass], HS4⟩
        case round =>
          obtain ⟨k, z, hk, rfl, rfl, HN, HSq⟩ := hrel
          obtain ⟨Arq, crq, rbq, roq⟩ := HSq.out.r
          obtain ⟨q0, -, -, -, -⟩ := rbq.cells
          obtain ⟨x0, x1, -, -, -⟩ := HSq.out.x.cells
          simp only at x0 x1
          have ROQ := Lib.hid roq
          have RBQ := Lib.hid rbq
          clear roq rbq
          by_cases hlt : k < S.length
          · have hkl : (k : Int) < (S.length : Int) := by omega
            obtain ⟨ad, a, a2, rfl, had, hsk, d0, d1⟩ := loadStp ROQ.out.rd hlt
            have HSK : Hid (pass (S.take (k + 1)) ha = (pass (S.take k) ha || decide (a = ha))) := by
              rw [Hid, List.take_add_one, hsk]
              simp [pass]
            clear hsk had
            cases hq : (a == ha) with
            | true =>
              have HP : Hid (pass (S.take (k + 1)) ha = true) := by rw [Hid, HSK.out]; simp at hq; simp [hq]
              go_wp2_with fail
              go_quiet (fail)
              go_wp2_with fail
              go_roundw
              case rel => exact ⟨k + 1, 0, by omega, by go_num, rfl, by rw [Hid, if_pos HP.out], HSq.out.drewN _⟩
              case measure => simp [intOf]; omega
            | false =>
              have HP : Hid (pass (S.take (k + 1)) ha = pass (S.take k) ha) := by rw [Hid, HSK.out]; simp at hq; simp [hq]
              go_wp2_with fail
              go_quiet (fail)
              go_wp2_with fail
              go_roundw
              case rel => exact ⟨k + 1, z, by omega, by go_num, rfl, by rw [Hid, HP.out]; exact HN.out, HSq.out.drewN _⟩
              case measure => simp [intOf]; omega
          · obtain rfl : k = S.length := by omega
            have hkl : ¬ (S.length : Int) < (S.length : Int) := by omega
            have hz := HN.out
            rw [List.take_length] at hz
            have HML := Lib.hid (HWK.out.2 hpos)
            have HWS := Lib.hid HWK.out.1
            clear hk hlt HN HWK
            cases hp : pass S ha with
            | true =>
              rw [hp, if_pos rfl] at hz
              subst hz
              clear hp
              go_wp2_with fail
              go_roundw
              case rel => exact ⟨-1, S, (ha, hb), rfl, by omega, by omega, by omega, HSq, HWS.out, fun h => by omega⟩
              case measure => simp [intOf]; omega
            | false =>
              rw [hp, if_neg (by decide)] at hz
              subst hz
              have HW2 := Lib.hid (HWS.out.push HCK.out (x := ⟨(ha, hb), pt, ps⟩) (by rw [HML.out]; exact HMEM.out) hp)
              clear hp
              have hn63 : S.length + 1 ≤ maxLen := by unfold maxLen; omega
              have hby : (S.length + 1) * 16 ≤ 140737488355328 := by omega
              have hqlt := HSq.out.x.cells.2.2.2.2
              have hwm1 : IntKind.i64.wrap (z - 1) = z - 1 := by rw [IntKind.wrap_i64]; omega
              go_wp2_with (at_builtin; refine wpList_append_own _ rfl _ _ 27 rfl (X + 1) 39 ih _ 2 16 Tryz.underlying27 hih hz0 hz1 hz2 rfl (by omega) (.slice Arq S.length crq) S.length (stpR.cs S) rfl (ROQ.out.2.alloc _) ⟨wr.heap.size, 0, none⟩ 1 1 [.int .i64 ha, .int .i64 hb] rfl rfl (World.news_of_block (cs := #[.int .i64 ha, .int .i64 hb]) (t := 39) (fr := (0, 0)) (heap_alloc_new _ _)) (by simp [Value.oneCell']) hn63 hby (by simp; omega) ?_; intro v7 w7 hown7 hgrow7 hnil7; have hO7 := Own.push (R := stpR) (a := (ha, hb)) ROQ.out.1 hown7; obtain ⟨A', c7, rfl, _⟩ := hO7.form; obtain ⟨hr7, hS7⟩ := HSq.out.push RBQ.out ROQ.out hgrow7 hO7; have HS7 := Lib.hid hS7; obtain ⟨d0, d1, g0, g1, _⟩ := hr7.cells; clear hown7 hgrow7 hO7 hr7 hS7 hnil7 q0 x0 x1)
              go_roundw
              case rel => exact ⟨z - 1, S ++ [(ha, hb)], (ha, hb), rfl, by omega, by omega, by rw [List.length_append]; simp; omega, HS7, HW2.out, fun _ => by simp⟩
              case measure => simp [intOf]; omega
    · have hpos' : ¬ (0 : Int) < m := by omega
      obtain ⟨Af, cf, rbf, rof⟩ := HS.out.r
      have RBF := Lib.hid rbf
      have ROF := Lib.hid rof
      have HXL := Lib.hid HS.out.lo
      obtain ⟨f0, f1, ff0, ff1, flt⟩ := rbf.cells
      obtain ⟨i7, hi7, hsrcf⟩ := HS.out.src
      have HNX := Lib.hid (next_any (w.heap.size + 2) A li ci i7 w.heap.size 3 wr.drew hsrcf hi7 hli ((HIW.out.below (HS.out.bel.mono (by omega))).below (Below.refl _ _).drew) (by omega) (by decide) (by decide))
      clear rbf rof hsrcf
      have hsl1 : 0 < S.length := List.length_pos_iff.2 HWK.out.1.ne
      have hsl7 : (S.length : Int) ≤ 7 := by omega
      have hwl : IntKind.i64.wrap ((S.length : Int) - 2) = (S.length : Int) - 2 := by rw [IntKind.wrap_i64]; omega
      go_upto_region 19 with fail
      first | go_region_with (go_at_call 29; refine HNX.out.mono ?_; rintro e wf ⟨ro, i8, hro, hro2, rfl, hi8, hsrc8, hg8⟩; have hrb8 : RBox wf (w.heap.size + 3) Af S.length cf 0 := (hg8.block _ (by show w.heap.size + 3 < wr.heap.size; omega) (by simp)).trans RBF.out; obtain ⟨m0', m1', mf0, mf1, mlt⟩ := hrb8.cells) | go_region_law (go_simp; go_at_call 29; refine HNX.out.mono ?_; rintro e wf ⟨ro, i8, hro, hro2, rfl, hi8, hsrc8, hg8⟩; have hrb8 : RBox wf (w.heap.size + 3) Af S.length cf 0 := (hg8.block _ (by show w.heap.size + 3 < wr.heap.size; omega) (by simp)).trans RBF.out; obtain ⟨m0', m1', mf0, mf1, mlt⟩ := hrb8.cells)
      all_goals
        first
        | obtain ⟨ov, hov⟩ : ∃ ov : Int, (if (if (2 : Int) < (S.length : Int) then (S.length : Int) - 2 else 0) < ro then (if (2 : Int) < (S.length : Int) then (S.length : Int) - 2 else 0) else ro) = ov := ⟨_, rfl⟩
          have hov0 : 0 ≤ ov ∧ ov ≤ 2 ∧ (ov = 0 ∨ 2 ≤ (S.length : Int) - ov) := by
            split at hov <;> split at hov <;> omega
          have HG8 : Hid (wr.grownBy wf (some (w.heap.size + 2))) := ⟨hg8.os, hg8.tape, hg8.output, hg8.size, hg8.block⟩
          obtain ⟨V, hV⟩ : ∃ V, wf.setCell ⟨w.heap.size + 3, 1, none⟩ (.int .i64 (if (if (2 : Int) < (S.length : Int) then (S.length : Int) - 2 else 0) < ro then (if (2 : Int) < (S.length : Int) then (S.length : Int) - 2 else 0) else ro)) = V := ⟨_, rfl⟩
          rw [hV]
          replace hV : wf.setCell ⟨w.heap.size + 3, 1, none⟩ (.int .i64 ov) = V := by rw [← hov]; exact hV
          have hrv : RBox V (w.heap.size + 3) Af S.length cf ov := by rw [← hV]; exact hrb8.puto
          have hBV : Below (w.heap.size + 2) W V := by rw [← hV]; exact ((HS.out.bel.grown HG8.out (by omega) (fun k hk => by cases hk; omega))).setCell (by show w.heap.size + 2 ≤ w.heap.size + 3; omega) _
          have hqv := HRES.out V hBV
          obtain ⟨v0, v1, vf0, vf1, vlt⟩ := hrv.cells
          obtain ⟨p0, p1, pf0, pf1, plt⟩ := hqv.cells
          have HV := Lib.hid hV
          have HBV := Lib.hid (HBW.out.trans (hBV.mono (by omega)))
          clear hov hrb8 hsrc8 hg8 m0' m1' mf0 mf1 mlt hV hrv hqv hBV f0 f1 ff0 ff1
          go_wp2_with fail
          all_goals
            refine bodyPost_ret (v := .agg #[.slice Af S.length cf, .int .i64 ov]) ?_ rfl ?_
            · have e0 : ((V.setCell ⟨w.heap.size + 1, 0, none⟩ (.slice Af S.length cf)).setCell ⟨w.heap.size + 1, 1, none⟩ (.int .i64 ov)).cell? ⟨w.heap.size + 1, 0, none⟩ = some (.slice Af S.length cf) := by rw [set_other (by omega)]; exact set_same p0
              have e1 : ((V.setCell ⟨w.heap.size + 1, 0, none⟩ (.slice Af S.length cf)).setCell ⟨w.heap.size + 1, 1, none⟩ (.int .i64 ov)).cell? ⟨w.heap.size + 1, 1, none⟩ = some (.int .i64 ov) := set_same ((set_other (by omega)).trans p1)
              simp [results, Tryz.results12, go_sem, e0, e1]
            · exact ⟨Af, S.length, cf, S, ov, rfl, by rw [← HV.out]; exact own_end ROF.out HXL.out HG8.out, HWK.out.1, by omega, hov0.1, hov0.2.1, hov0.2.2, (HBV.out.setCell (by show w.heap.size ≤ w.heap.size + 1; omega) _).setCell (by show w.heap.size ≤ w.heap.size + 1; omega) _⟩
        | obtain ⟨ov, hov⟩ : ∃ ov : Int, (min ro (max 0 ((S.length : Int) - 2))) = ov := ⟨_, rfl⟩
          have hov0 : 0 ≤ ov ∧ ov ≤ 2 ∧ (ov = 0 ∨ 2 ≤ (S.length : Int) - ov) := by omega
          have HG8 : Hid (wr.grownBy wf (some (w.heap.size + 2))) := ⟨hg8.os, hg8.tape, hg8.output, hg8.size, hg8.block⟩
          obtain ⟨V, hV⟩ : ∃ V, wf.setCell ⟨w.heap.size + 3, 1, none⟩ (.int .i64 (min ro (max 0 ((S.length : Int) - 2)))) = V := ⟨_, rfl⟩
          rw [hV]
          replace hV : wf.setCell ⟨w.heap.size + 3, 1, none⟩ (.int .i64 ov) = V := by rw [← hov]; exact hV
          have hrv : RBox V (w.heap.size + 3) Af S.length cf ov := by rw [← hV]; exact hrb8.puto
          have hBV : Below (w.heap.size + 2) W V := by rw [← hV]; exact ((HS.out.bel.grown HG8.out (by omega) (fun k hk => by cases hk; omega))).setCell (by show w.heap.size + 2 ≤ w.heap.size + 3; omega) _
          have hqv := HRES.out V hBV
          obtain ⟨v0, v1, vf0, vf1, vlt⟩ := hrv.cells
          obtain ⟨p0, p1, pf0, pf1, plt⟩ := hqv.cells
          have HV := Lib.hid hV
          have HBV := Lib.hid (HBW.out.trans (hBV.mono (by omega)))
          clear hov hrb8 hsrc8 hg8 m0' m1' mf0 mf1 mlt hV hrv hqv hBV f0 f1 ff0 ff1
          go_wp2_with fail
          all_goals
            refine bodyPost_ret (v := .agg #[.slice Af S.length cf, .int .i64 ov]) ?_ rfl ?_
            · have e0 : ((V.setCell ⟨w.heap.size + 1, 0, none⟩ (.slice Af S.length cf)).setCell ⟨w.heap.size + 1, 1, none⟩ (.int .i64 ov)).cell? ⟨w.heap.size + 1, 0, none⟩ = some (.slice Af S.length cf) := by rw [set_other (by omega)]; exact set_same p0
              have e1 : ((V.setCell ⟨w.heap.size + 1, 0, none⟩ (.slice Af S.length cf)).setCell ⟨w.heap.size + 1, 1, none⟩ (.int .i64 ov)).cell? ⟨w.heap.size + 1, 1, none⟩ = some (.int .i64 ov) := set_same ((set_other (by omega)).trans p1)
              simp [results, Tryz.results12, go_sem, e0, e1]
            · exact ⟨Af, S.length, cf, S, ov, rfl, by rw [← HV.out]; exact own_end ROF.out HXL.out HG8.out, HWK.out.1, by omega, hov0.1, hov0.2.1, hov0.2.2, (HBV.out.setCell (by show w.heap.size ≤ w.heap.size + 1; omega) _).setCell (by show w.heap.size ≤ w.heap.size + 1; omega) _⟩
end Go.Proofs.YtnfelcjpjodjhaaGreat.RteK

/-
  Contracts of the builder of generated layouts: its block in memory, and what adding to it leaves.
-/
import Derived.Test.YtkfobijgjdgbgaaDoorBld
namespace Go.Proofs.YtkfobijgjdgbgaaDoor.Bldr
open Go.ChangeShapes Go.WideShapes Go.ChangeAt Go.RowKit Wd Small Mem Lay LayT LayG Recs Dec PNames PSecs PEnds RNames Src PHops Bld
set_option linter.unusedVariables false

/-- the builder's block: seven slices -/
def Blk7 (w : World) (g : Nat) (v0 v1 v2 v3 v4 v5 : Value) : Prop := w.heap[g]? = some (.cells #[v0, v1, v2, v3, v4, v5, .slice none 0 0] 55)
section
variable {w w' : World} {g B : Nat} {v0 v1 v2 v3 v4 v5 : Value}
theorem Blk7.lt (h : Blk7 w g v0 v1 v2 v3 v4 v5) : g < w.heap.size := lt_of_block h
theorem Blk7.c0 (h : Blk7 w g v0 v1 v2 v3 v4 v5) : w.cell? ⟨g, 0, none⟩ = some v0 := by unfold Blk7 at h; simp [World.cell?, h]
theorem Blk7.c1 (h : Blk7 w g v0 v1 v2 v3 v4 v5) : w.cell? ⟨g, 1, none⟩ = some v1 := by unfold Blk7 at h; simp [World.cell?, h]
theorem Blk7.c2 (h : Blk7 w g v0 v1 v2 v3 v4 v5) : w.cell? ⟨g, 2, none⟩ = some v2 := by unfold Blk7 at h; simp [World.cell?, h]
theorem Blk7.c3 (h : Blk7 w g v0 v1 v2 v3 v4 v5) : w.cell? ⟨g, 3, none⟩ = some v3 := by unfold Blk7 at h; simp [World.cell?, h]
theorem Blk7.c4 (h : Blk7 w g v0 v1 v2 v3 v4 v5) : w.cell? ⟨g, 4, none⟩ = some v4 := by unfold Blk7 at h; simp [World.cell?, h]
theorem Blk7.c5 (h : Blk7 w g v0 v1 v2 v3 v4 v5) : w.cell? ⟨g, 5, none⟩ = some v5 := by unfold Blk7 at h; simp [World.cell?, h]
theorem Blk7.f (h : Blk7 w g v0 v1 v2 v3 v4 v5) (j : Nat) : w.frozen? ⟨g, j, none⟩ = false := by unfold Blk7 at h; simp [World.frozen?, h]
theorem Blk7.same (h : Blk7 w g v0 v1 v2 v3 v4 v5) (hh : w'.heap[g]? = w.heap[g]?) : Blk7 w' g v0 v1 v2 v3 v4 v5 := hh.trans h
theorem Blk7.put0 (h : Blk7 w g v0 v1 v2 v3 v4 v5) (v : Value) : Blk7 (w.setCell ⟨g, 0, none⟩ v) g v v1 v2 v3 v4 v5 := by unfold Blk7 at *; simp [World.setCell, Array.getElem?_modify, h]
theorem Blk7.put1 (h : Blk7 w g v0 v1 v2 v3 v4 v5) (v : Value) : Blk7 (w.setCell ⟨g, 1, none⟩ v) g v0 v v2 v3 v4 v5 := by unfold Blk7 at *; simp [World.setCell, Array.getElem?_modify, h]
theorem Blk7.put2 (h : Blk7 w g v0 v1 v2 v3 v4 v5) (v : Value) : Blk7 (w.setCell ⟨g, 2, none⟩ v) g v0 v1 v v3 v4 v5 := by unfold Blk7 at *; simp [World.setCell, Array.getElem?_modify, h]
theorem Blk7.put3 (h : Blk7 w g v0 v1 v2 v3 v4 v5) (v : Value) : Blk7 (w.setCell ⟨g, 3, none⟩ v) g v0 v1 v2 v v4 v5 := by unfold Blk7 at *; simp [World.setCell, Array.getElem?_modify, h]
theorem Blk7.put4 (h : Blk7 w g v0 v1 v2 v3 v4 v5) (v : Value) : Blk7 (w.setCell ⟨g, 4, none⟩ v) g v0 v1 v2 v3 v v5 := by unfold Blk7 at *; simp [World.setCell, Array.getElem?_modify, h]
theorem Blk7.put5 (h : Blk7 w g v0 v1 v2 v3 v4 v5) (v : Value) : Blk7 (w.setCell ⟨g, 5, none⟩ v) g v0 v1 v2 v3 v4 v := by unfold Blk7 at *; simp [World.setCell, Array.getElem?_modify, h]
end

/-- a row of the call's own (v) has grown, then block g was written -/
def Turned (w w' : World) (g : Nat) (v : Value) : Prop := ∃ wm, w.grownBy wm v.ownBlock ∧ wm.grownBy w' (some g)
theorem own_turned {α : Type} {R : Rec α} {w w' : World} {base n g : Nat} {v u : Value} {L : List α} (h : Own R w base v n L) (ht : Turned w w' g u) (hne : ∀ b, v.ownBlock = some b → u.ownBlock ≠ some b) (hg : g < base) : Own R w' base v n L := by
  obtain ⟨wm, h1, h2⟩ := ht
  refine (h.grown h1 ?_).grown h2 ?_
  · cases hv : v.ownBlock with
    | none => exact .inl rfl
    | some b => exact .inr (fun e => hne b hv e.symm)
  · cases hv : v.ownBlock with
    | none => exact .inl rfl
    | some b => exact .inr (fun e => by have := (h.2.lt b hv).1; injection e; omega)
theorem turned_below {w w' : World} {g : Nat} {u : Value} (ht : Turned w w' g u) (hg : g ≤ w.heap.size) (hu : ∀ b, u.ownBlock = some b → g ≤ b) : Below g w w' := by
  obtain ⟨wm, h1, h2⟩ := ht
  exact ((Below.refl g w).grown h1 hg hu).grown h2 (Nat.le_trans hg h1.size) (fun k hk => by injection hk with hk; omega)

theorem own_set {α : Type} {R : Rec α} {w : World} {base n g j : Nat} {v u : Value} {L : List α} (h : Own R w base v n L) (hg : g < base) : Own R (w.setCell ⟨g, j, none⟩ u) base v n L :=
  h.grown (row := some g) (grown_set (World.grownBy.refl w _) _) (by
    cases hv : v.ownBlock with
    | none => exact .inl rfl
    | some b => exact .inr (fun e => by have := (h.2.lt b hv).1; injection e; omega))
/-- what a call leaves that has put one element to the row of cell j of the builder -/
def PutPost {α : Type} (R : Rec α) (base g n : Nat) (c0 : Value) (L : List α) (x : α) (r : Value) (B : World → Value → Prop) (w : World) (e : Ending) (w' : World) : Prop :=
  ∃ A' c', e = .returned r ∧ B w' (.slice A' (n + 1) c') ∧ Own R w' base (.slice A' (n + 1) c') (n + 1) (L ++ [x]) ∧ Turned w w' g c0

theorem infoSec : (Tryd.prog.info? 45).map (fun i => (i.zero, i.size, i.bytes)) = some (some (.agg #[.string ByteArray.empty, .int .i64 0, .int .i64 0, .int .i64 0, .int .i64 0]), 5, 48) := by kernel_rfl
theorem infoLnk : (Tryd.prog.info? 64).map (fun i => (i.zero, i.size, i.bytes)) = some (some (.agg #[.int .i64 0, .int .i64 0, .int .i64 0, .int .i64 0, .int .i64 0, .int .i64 0]), 6, 48) := by kernel_rfl

set_option maxRecDepth 100000 in
set_option maxHeartbeats 1000000 in
theorem add_sec (g base n c : Nat) (A : Option Addr) (v0 v1 v3 v4 v5 : Value) (S : List Sec) (x : Sec) (w : World) (hb : Blk7 w g v0 v1 (.slice A n c) v3 v4 v5) (hO : Own secR w base (.slice A n c) n S) (hg : g < base) (hbase : base ≤ w.heap.size) (hn : n ≤ 100000) :
    Calls Tryd.prog 58 #[.pointer (some ⟨g, 0, none⟩), .agg #[.string (str x.name), .int .i64 x.len, .int .i64 x.lim, .int .i64 x.grade, .int .i64 x.st]] w
      (PutPost secR base g n (.slice A n c) S x (.int .i64 n) (fun w' v => Blk7 w' g v0 v1 v v3 v4 v5) w) := by
  obtain ⟨ih, hih, hz0, hz1, hz2⟩ := info_parts infoSec
  obtain ⟨xn, xl, xm, xg, xs⟩ := x
  simp only at *
  obtain ⟨W, hW⟩ : ∃ W, w.alloc (.cells #[.string (str xn), .int .i64 xl, .int .i64 xm, .int .i64 xg, .int .i64 xs] 45) = W := ⟨_, rfl⟩
  have hbW : Below w.heap.size w W := by rw [← hW]; exact (Below.refl _ _).alloc (Nat.le_refl _) _
  have hzW : W.heap.size = w.heap.size + 1 := by rw [← hW]; simp
  have hx : W.heap[w.heap.size]? = some (.cells #[.string (str xn), .int .i64 xl, .int .i64 xm, .int .i64 xg, .int .i64 xs] 45) := by rw [← hW]; exact heap_alloc_new _ _
  have hgw := hb.lt
  have hbk : Blk7 W g v0 v1 (.slice A n c) v3 v4 v5 := hb.same (hbW.block g hgw)
  have d0 : W.cell? ⟨w.heap.size, 0, none⟩ = some (.string (str xn)) := by simp [World.cell?, hx]
  have d1 : W.cell? ⟨w.heap.size, 1, none⟩ = some (.int .i64 xl) := by simp [World.cell?, hx]
  have d2 : W.cell? ⟨w.heap.size, 2, none⟩ = some (.int .i64 xm) := by simp [World.cell?, hx]
  have d3 : W.cell? ⟨w.heap.size, 3, none⟩ = some (.int .i64 xg) := by simp [World.cell?, hx]
  have d4 : W.cell? ⟨w.heap.size, 4, none⟩ = some (.int .i64 xs) := by simp [World.cell?, hx]
  have HO := Lib.hid (hO.below hbW (Nat.le_refl _))
  have HBK := Lib.hid hbk
  have HBW := Lib.hid hbW
  have HZ := Lib.hid hzW
  have k2 := hbk.c2
  have hbaseW : base ≤ W.heap.size := by omega
  have hgW : g < W.heap.size := by omega
  clear hx hO hb hbk hbW hzW
  go_enter Tryd.func58, Tryd.ntmps58
  go_upto_region 1 with fail
  try rw [hW]
  clear hW
  have hn63 : n + 1 ≤ maxLen := by unfold maxLen; omega
  have hby : (n + 1) * 48 ≤ 140737488355328 := by omega
  go_region_law (refine step_append_lies _ (by rfl) _ _ _ (by rfl) base 45 ih _ 5 48 Tryd.underlying23 hih hz0 hz1 hz2 rfl (by omega) (.slice A n c) n (secR.cs S) (by rfl) (HO.out.2.alloc _) ⟨W.heap.size, 0, none⟩ 1 1 [.string (str xn), .int .i64 xl, .int .i64 xm, .int .i64 xg, .int .i64 xs] (by rfl) (by rfl) (World.news_of_block (cs := #[.string (str xn), .int .i64 xl, .int .i64 xm, .int .i64 xg, .int .i64 xs]) (t := 45) (fr := (0, 0)) (heap_alloc_new W _)) (by simp [Value.oneCell']) (by omega) hn63 hby (by simp; omega) (W.heap.size + 1) (by simp) ?_; intro gg cap w7 hown7 hgrow7 hat7 hlt7; have hgl : ∀ b, (Value.slice A n c).ownBlock = some b → base ≤ b := fun b hb => (HO.out.2.lt b hb).1; have hg7 : w7.heap[g]? = W.heap[g]? := (hgrow7.block g (by simp; omega) (fun e => by have := hgl _ e.symm; omega)).trans (((Below.refl W.heap.size W).alloc (Nat.le_refl _) _).block g (by omega)); have HB7 := Lib.hid (HBK.out.same hg7); have k7 := HB7.out.c2; have f7 := HB7.out.f 2)
  all_goals
    have HO7 := Lib.hid (Own.push (R := secR) (a := ⟨xn, xl, xm, xg, xs⟩) HO.out.1 hown7)
    have HT : Hid (Turned w (w7.setCell ⟨g, 2, none⟩ (.slice (some ⟨gg, 0, none⟩) (n + 1) cap)) g (.slice A n c)) := ⟨w7, ((⟨HBW.out.os, HBW.out.tape, HBW.out.output, HBW.out.size, fun k hk _ => HBW.out.block k hk⟩ : w.grownBy W (Value.slice A n c).ownBlock) |> fun h => (grown_drew (grown_alloc h _)).trans hgrow7), grown_set (World.grownBy.refl w7 _) _⟩
    clear hown7 hgrow7 hat7 hlt7 hg7 hgl
    go_wp2_with fail
    go_ret
    exact ⟨_, _, rfl, HB7.out.put2 _, own_set HO7.out hg, HT.out⟩

set_option maxRecDepth 100000 in
set_option maxHeartbeats 1000000 in
theorem add_link (g base n c : Nat) (A : Option Addr) (v0 v1 v2 v4 v5 : Value) (S : List Lnk) (a b p q : Int) (w : World) (hb : Blk7 w g v0 v1 v2 (.slice A n c) v4 v5) (hO : Own lnkR w base (.slice A n c) n S) (hg : g < base) (hbase : base ≤ w.heap.size) (hn : n ≤ 100000) :
    Calls Tryd.prog 59 #[.pointer (some ⟨g, 0, none⟩), .int .i64 a, .int .i64 b, .int .i64 p, .int .i64 q] w
      (PutPost lnkR base g n (.slice A n c) S ⟨a, 1, b, 0, p, q⟩ (.tuple #[]) (fun w' v => Blk7 w' g v0 v1 v2 v v4 v5) w) := by
  obtain ⟨ih, hih, hz0, hz1, hz2⟩ := info_parts infoLnk
  have hgw := hb.lt
  have HO := Lib.hid hO
  have HBK := Lib.hid hb
  have k3 := hb.c3
  have hn63 : n + 1 ≤ maxLen := by unfold maxLen; omega
  have hby : (n + 1) * 48 ≤ 140737488355328 := by omega
  clear hO hb
  go_enter Tryd.func59, Tryd.ntmps59
  go_wp2_with (at_builtin; refine wpList_append_own _ rfl _ _ 24 rfl base 64 ih _ 6 48 Tryd.underlying24 hih hz0 hz1 hz2 rfl (by omega) (.slice A n c) n (lnkR.cs S) rfl (HO.out.2.alloc _) ⟨w.heap.size, 0, none⟩ 1 1 [.int .i64 a, .int .i64 1, .int .i64 b, .int .i64 0, .int .i64 p, .int .i64 q] rfl rfl (World.news_of_block (cs := #[.int .i64 a, .int .i64 1, .int .i64 b, .int .i64 0, .int .i64 p, .int .i64 q]) (t := 64) (fr := (0, 0)) (heap_alloc_new _ _)) (by simp [Value.oneCell']) hn63 hby (by simp; omega) ?_)
  intro v w7 hown7 hgrow7 _
  have hO7 := Own.push (R := lnkR) (a := ⟨a, 1, b, 0, p, q⟩) HO.out.1 hown7
  obtain ⟨A', c', rfl, _⟩ := hO7.form
  have HO7 := Lib.hid hO7
  have hgl : ∀ b, (Value.slice A n c).ownBlock = some b → base ≤ b := fun b hb => (HO.out.2.lt b hb).1
  have hg7 : w7.heap[g]? = w.heap[g]? := (hgrow7.block g (by simp; omega) (fun e => by have := hgl _ e.symm; omega)).trans (((Below.refl w.heap.size w).alloc (Nat.le_refl _) _).block g (by omega))
  have HB7 := Lib.hid (HBK.out.same hg7)
  have k7 := HB7.out.c3
  have f7 := HB7.out.f 3
  have HT : Hid (Turned w (w7.setCell ⟨g, 3, none⟩ (.slice A' (n + 1) c')) g (.slice A n c)) := ⟨w7, (World.grownBy_alloc w _ _).trans hgrow7, grown_set (World.grownBy.refl w7 _) _⟩
  clear hO7 hown7 hgrow7 hg7 hgl k3
  go_wp2_with fail
  go_end0
  exact ⟨_, _, rfl, HB7.out.put3 _, own_set HO7.out hg, HT.out⟩

set_option maxRecDepth 100000 in
set_option maxHeartbeats 1000000 in
theorem add_point (g base n c : Nat) (A : Option Addr) (v0 v2 v3 v4 v5 : Value) (S : List Bs) (w : World) (hb : Blk7 w g v0 (.slice A n c) v2 v3 v4 v5) (hO : Own sR w base (.slice A n c) n S) (hg : g < base) (hbase : base ≤ w.heap.size) (hn : n ≤ 100000) :
    Calls Tryd.prog 81 #[.pointer (some ⟨g, 0, none⟩)] w
      (PutPost sR base g n (.slice A n c) S (nm [80] n) (.int .i64 n) (fun w' v => Blk7 w' g v0 v v2 v3 v4 v5) w) := by
  obtain ⟨ih, hih, hz0, hz1, hz2⟩ := info_parts infoS
  have hgw := hb.lt
  have HO := Lib.hid hO
  have HBK := Lib.hid hb
  have k1 := hb.c1
  have hn63 : n + 1 ≤ maxLen := by unfold maxLen; omega
  have hby : (n + 1) * 16 ≤ 140737488355328 := by omega
  clear hO hb
  go_enter Tryd.func81, Tryd.ntmps81
  go_upto_region 1 with fail
  go_region_law (first | (refine step_append_lies _ (by rfl) _ _ _ (by rfl) base 9 ih _ 1 16 Tryd.underlying22 hih hz0 hz1 hz2 rfl (by omega) (.slice A n c) n (sR.cs S) (by rfl) (HO.out.2.alloc _) ⟨w.heap.size, 0, none⟩ 1 1 [.string (str (nm [80] n))] (by rfl) (by rfl) (World.news_of_block (cs := #[.string (str (nm [80] n))]) (t := 9) (fr := (0, 0)) (heap_alloc_new w _)) (by simp [Value.oneCell']) (by omega) hn63 hby (by simp; omega) (w.heap.size + 1) (by simp) ?_; intro gg cap w7 hown7 hgrow7 hat7 hlt7; have hgl : ∀ b, (Value.slice A n c).ownBlock = some b → base ≤ b := fun b hb => (HO.out.2.lt b hb).1; have hg7 : w7.heap[g]? = w.heap[g]? := (hgrow7.block g (by simp; omega) (fun e => by have := hgl _ e.symm; omega)).trans (((Below.refl w.heap.size w).alloc (Nat.le_refl _) _).block g (by omega)); have HB7 := Lib.hid (HBK.out.same hg7); have k7 := HB7.out.c1; have f7 := HB7.out.f 1) | (go_simp; go_at_call 56; refine (named_any [80] n _ (by omega) (by omega) (by decide)).mono ?_; rintro e wq ⟨rfl, rfl⟩))
  all_goals
    have HO7 := Lib.hid (Own.push (R := sR) (a := nm [80] n) HO.out.1 hown7)
    have HT : Hid (Turned w (w7.setCell ⟨g, 1, none⟩ (.slice (some ⟨gg, 0, none⟩) (n + 1) cap)) g (.slice A n c)) := ⟨w7, (grown_drew (World.grownBy_alloc w _ _)).trans hgrow7, grown_set (World.grownBy.refl w7 _) _⟩
    clear hown7 hgrow7 hat7 hlt7 hg7 hgl
    go_wp2_with fail
    go_ret
    exact ⟨_, _, rfl, HB7.out.put1 _, own_set HO7.out hg, HT.out⟩
end Go.Proofs.YtkfobijgjdgbgaaDoor.Bldr

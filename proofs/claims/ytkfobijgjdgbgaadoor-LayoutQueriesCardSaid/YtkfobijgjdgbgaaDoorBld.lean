/-
  Contracts of the maker of generated layouts: names, sections, and the builder's block.
-/
import Derived.Test.YtkfobijgjdgbgaaDoorSrc
import Derived.Test.YtkfobijgjdgbgaaDoorRNames
import Derived.Test.YtkfobijgjdgbgaaDoorPHops
import Derived.Test.YtkfobijgjdgbgaaDoorLayG
import Derived.Deep.RegionLaw
import Derived.Deep.AppendLies
namespace Go.Proofs.YtkfobijgjdgbgaaDoor.Bld
open Go.ChangeShapes Go.WideShapes Go.ChangeAt Go.RowKit Wd Small Mem Lay LayT LayG Recs Dec PNames PSecs PEnds RNames Src
set_option linter.unusedVariables false

set_option maxHeartbeats 1000000 in
theorem named_any (f : Bs) (n : Int) (w : World) (h0 : 0 ≤ n) (h1 : n ≤ 9223372036854775807) (hf : f.length ≤ 100) :
    Calls Tryd.prog 56 #[.string (str f), .int .i64 n] w fun e w' => e = .returned (.string (str (nm f n))) ∧ w = w' := by
  have ht : n.tmod 10 = n % 10 := Int.tmod_eq_emod_of_nonneg h0
  have hz : (str f).size + 1 ≤ 9223372036854775807 := by rw [size_str]; omega
  have hc : n % 10 = 0 ∨ n % 10 = 1 ∨ n % 10 = 2 ∨ n % 10 = 3 ∨ n % 10 = 4 ∨ n % 10 = 5 ∨ n % 10 = 6 ∨ n % 10 = 7 ∨ n % 10 = 8 ∨ n % 10 = 9 := by omega
  have HN : Hid (∀ d : Nat, n % 10 = d → str f ++ ⟨#[dig d]⟩ = str (nm f n)) := fun d hd => by
    refine bs_ext ?_
    rw [bs_append, bs_str, bs_str]
    unfold nm
    rw [hd]
    rfl
  go_enter Tryd.func56, Tryd.ntmps56
  rcases hc with hc | hc | hc | hc | hc | hc | hc | hc | hc | hc
  · have HX := HN.out 0 (by omega)
    have ht2 : n.tmod 10 = 0 := by omega
    have hx2 : str f ++ ⟨#[48]⟩ = str (nm f n) := HX
    have hx3 : (ByteArray.mk #[48, 49, 50, 51, 52, 53, 54, 55, 56, 57]).extract 0 1 = ⟨#[48]⟩ := by kernel_rfl
    have hz2 : (str f).size + (ByteArray.mk #[48]).size ≤ 9223372036854775807 := hz
    clear HN HX ht hc
    go_wp2
    go_ret
    exact ⟨rfl, rfl⟩
  · have HX := HN.out 1 (by omega)
    have ht2 : n.tmod 10 = 1 := by omega
    have hx2 : str f ++ ⟨#[49]⟩ = str (nm f n) := HX
    have hx3 : (ByteArray.mk #[48, 49, 50, 51, 52, 53, 54, 55, 56, 57]).extract 1 2 = ⟨#[49]⟩ := by kernel_rfl
    have hz2 : (str f).size + (ByteArray.mk #[49]).size ≤ 9223372036854775807 := hz
    clear HN HX ht hc
    go_wp2
    go_ret
    exact ⟨rfl, rfl⟩
  · have HX := HN.out 2 (by omega)
    have ht2 : n.tmod 10 = 2 := by omega
    have hx2 : str f ++ ⟨#[50]⟩ = str (nm f n) := HX
    have hx3 : (ByteArray.mk #[48, 49, 50, 51, 52, 53, 54, 55, 56, 57]).extract 2 3 = ⟨#[50]⟩ := by kernel_rfl
    have hz2 : (str f).size + (ByteArray.mk #[50]).size ≤ 9223372036854775807 := hz
    clear HN HX ht hc
    go_wp2
    go_ret
    exact ⟨rfl, rfl⟩
  · have HX := HN.out 3 (by omega)
    have ht2 : n.tmod 10 = 3 := by omega
    have hx2 : str f ++ ⟨#[51]⟩ = str (nm f n) := HX
    have hx3 : (ByteArray.mk #[48, 49, 50, 51, 52, 53, 54, 55, 56, 57]).extract 3 4 = ⟨#[51]⟩ := by kernel_rfl
    have hz2 : (str f).size + (ByteArray.mk #[51]).size ≤ 9223372036854775807 := hz
    clear HN HX ht hc
    go_wp2
    go_ret
    exact ⟨rfl, rfl⟩
  · have HX := HN.out 4 (by omega)
    have ht2 : n.tmod 10 = 4 := by omega
    have hx2 : str f ++ ⟨#[52]⟩ = str (nm f n) := HX
    have hx3 : (ByteArray.mk #[48, 49, 50, 51, 52, 53, 54, 55, 56, 57]).extract 4 5 = ⟨#[52]⟩ := by kernel_rfl
    have hz2 : (str f).size + (ByteArray.mk #[52]).size ≤ 9223372036854775807 := hz
    clear HN HX ht hc
    go_wp2
    go_ret
    exact ⟨rfl, rfl⟩
  · have HX := HN.out 5 (by omega)
    have ht2 : n.tmod 10 = 5 := by omega
    have hx2 : str f ++ ⟨#[53]⟩ = str (nm f n) := HX
    have hx3 : (ByteArray.mk #[48, 49, 50, 51, 52, 53, 54, 55, 56, 57]).extract 5 6 = ⟨#[53]⟩ := by kernel_rfl
    have hz2 : (str f).size + (ByteArray.mk #[53]).size ≤ 9223372036854775807 := hz
    clear HN HX ht hc
    go_wp2
    go_ret
    exact ⟨rfl, rfl⟩
  · have HX := HN.out 6 (by omega)
    have ht2 : n.tmod 10 = 6 := by omega
    have hx2 : str f ++ ⟨#[54]⟩ = str (nm f n) := HX
    have hx3 : (ByteArray.mk #[48, 49, 50, 51, 52, 53, 54, 55, 56, 57]).extract 6 7 = ⟨#[54]⟩ := by kernel_rfl
    have hz2 : (str f).size + (ByteArray.mk #[54]).size ≤ 9223372036854775807 := hz
    clear HN HX ht hc
    go_wp2
    go_ret
    exact ⟨rfl, rfl⟩
  · have HX := HN.out 7 (by omega)
    have ht2 : n.tmod 10 = 7 := by omega
    have hx2 : str f ++ ⟨#[55]⟩ = str (nm f n) := HX
    have hx3 : (ByteArray.mk #[48, 49, 50, 51, 52, 53, 54, 55, 56, 57]).extract 7 8 = ⟨#[55]⟩ := by kernel_rfl
    have hz2 : (str f).size + (ByteArray.mk #[55]).size ≤ 9223372036854775807 := hz
    clear HN HX ht hc
    go_wp2
    go_ret
    exact ⟨rfl, rfl⟩
  · have HX := HN.out 8 (by omega)
    have ht2 : n.tmod 10 = 8 := by omega
    have hx2 : str f ++ ⟨#[56]⟩ = str (nm f n) := HX
    have hx3 : (ByteArray.mk #[48, 49, 50, 51, 52, 53, 54, 55, 56, 57]).extract 8 9 = ⟨#[56]⟩ := by kernel_rfl
    have hz2 : (str f).size + (ByteArray.mk #[56]).size ≤ 9223372036854775807 := hz
    clear HN HX ht hc
    go_wp2
    go_ret
    exact ⟨rfl, rfl⟩
  · have HX := HN.out 9 (by omega)
    have ht2 : n.tmod 10 = 9 := by omega
    have hx2 : str f ++ ⟨#[57]⟩ = str (nm f n) := HX
    have hx3 : (ByteArray.mk #[48, 49, 50, 51, 52, 53, 54, 55, 56, 57]).extract 9 10 = ⟨#[57]⟩ := by kernel_rfl
    have hz2 : (str f).size + (ByteArray.mk #[57]).size ≤ 9223372036854775807 := hz
    clear HN HX ht hc
    go_wp2
    go_ret
    exact ⟨rfl, rfl⟩

theorem grown_set_new {w w' : World} {row : Option Nat} {b j : Nat} (h : w.grownBy w' row) (hb : w.heap.size ≤ b) (v : Value) : w.grownBy (w'.setCell ⟨b, j, none⟩ v) row :=
  ⟨h.os, h.tape, h.output, by have := h.size; simpa using this, fun k hk hne => (Below.heap_setCell w' ⟨b, j, none⟩ v k (fun e => by have e2 : k = b := e; omega)).trans (h.block k hk hne)⟩
theorem src_set {w : World} {g n c i b j : Nat} {A : Option Addr} {v : Value} (h : Src w g A n c i) (hb : g ≠ b) : Src (w.setCell ⟨b, j, none⟩ v) g A n c i :=
  (Below.heap_setCell w ⟨b, j, none⟩ v g (fun e => hb e)).trans h
theorem five_set {w : World} {b : Nat} {u0 u1 u2 u3 u4 v0 v1 v2 v3 v4 : Value} (c0 : w.cell? ⟨b, 0, none⟩ = some u0) (c1 : w.cell? ⟨b, 1, none⟩ = some u1) (c2 : w.cell? ⟨b, 2, none⟩ = some u2) (c3 : w.cell? ⟨b, 3, none⟩ = some u3) (c4 : w.cell? ⟨b, 4, none⟩ = some u4) :
    let W := ((((w.setCell ⟨b, 0, none⟩ v0).setCell ⟨b, 1, none⟩ v1).setCell ⟨b, 2, none⟩ v2).setCell ⟨b, 3, none⟩ v3).setCell ⟨b, 4, none⟩ v4
    W.cell? ⟨b, 0, none⟩ = some v0 ∧ W.cell? ⟨b, 1, none⟩ = some v1 ∧ W.cell? ⟨b, 2, none⟩ = some v2 ∧ W.cell? ⟨b, 3, none⟩ = some v3 ∧ W.cell? ⟨b, 4, none⟩ = some v4 := by
  refine ⟨?_, ?_, ?_, ?_, ?_⟩
  · rw [set_other (by omega), set_other (by omega), set_other (by omega), set_other (by omega)]; exact set_same c0
  · rw [set_other (by omega), set_other (by omega), set_other (by omega)]; exact set_same ((set_other (by omega)).trans c1)
  · rw [set_other (by omega), set_other (by omega)]; exact set_same ((set_other (by omega)).trans ((set_other (by omega)).trans c2))
  · rw [set_other (by omega)]; exact set_same ((set_other (by omega)).trans ((set_other (by omega)).trans ((set_other (by omega)).trans c3)))
  · exact set_same ((set_other (by omega)).trans ((set_other (by omega)).trans ((set_other (by omega)).trans ((set_other (by omega)).trans c4))))
theorem below_only {a w w' : World} {g B : Nat} (h : Below B a w) (hg : w.grownBy w' (some g)) (hB : B ≤ w.heap.size) (hg2 : B ≤ g) : Below B a w' := h.grown hg hB (fun k hk => by injection hk with hk; omega)
/-- what a call leaves that made a section -/
def SecPost (name : Bs) (st : Int) (g : Nat) (A : Option Addr) (l c : Nat) (w : World) (e : Ending) (w' : World) : Prop :=
  ∃ (x : Sec) (i : Nat), x.name = name ∧ x.st = st ∧ numsOK x ∧ x.len ≤ 10 ∧ e = .returned (.agg #[.string (str name), .int .i64 x.len, .int .i64 x.lim, .int .i64 x.grade, .int .i64 st]) ∧ i ≤ l ∧ Src w' g A l c i ∧ w.grownBy w' (some g)
set_option maxHeartbeats 1000000 in
theorem section_any (name : Bs) (st : Int) (g : Nat) (A : Option Addr) (l c i B : Nat) (w : World) (hs : Src w g A l c i) (hi : i ≤ l) (hl : l ≤ 9223372036854775807) (hI : Ints w B A l) (hgB : B ≤ g) (hst : -1 ≤ st ∧ st ≤ 100) :
    Calls Tryd.prog 57 #[.pointer (some ⟨g, 0, none⟩), .string (str name), .int .i64 st] w (SecPost name st g A l c w) := by
  have HS := Lib.hid hs
  have HI := Lib.hid hI
  have hg := hs.lt
  clear hs hI
  obtain ⟨W, hW⟩ : ∃ W, w.alloc (.cells #[.string ⟨#[]⟩, .int .i64 0, .int .i64 0, .int .i64 0, .int .i64 0] 45) = W := ⟨_, rfl⟩
  have hb : Below w.heap.size w W := by rw [← hW]; exact (Below.refl _ _).alloc (Nat.le_refl _) _
  have hzW : W.heap.size = w.heap.size + 1 := by rw [← hW]; simp
  have hBlk : W.heap[w.heap.size]? = some (.cells #[.string ⟨#[]⟩, .int .i64 0, .int .i64 0, .int .i64 0, .int .i64 0] 45) := by rw [← hW]; exact heap_alloc_new _ _
  go_enter Tryd.func57, Tryd.ntmps57
  go_upto_region 1 with fail
  try rw [hW]
  clear hW
  have HS1 := Lib.hid (HS.out.below hb hg)
  have HI1 := Lib.hid (HI.out.below (hb.mono (by omega)))
  clear HS HI
  go_wp2_with fail
  refine (next_any g A l c i B 9 W HS1.out hi hl HI1.out hgB (by decide) (by decide)).mono ?_
  rintro e w1 ⟨r1, i1, a1, b1, rfl, hi1, hS1, hg1⟩
  have HI2 := Lib.hid (HI1.out.below (below_only (Below.refl _ _) hg1 (by omega) hgB))
  go_wp2_with fail
  refine (next_any g A l c i1 B 7 w1 hS1 hi1 hl HI2.out hgB (by decide) (by decide)).mono ?_
  rintro e w2 ⟨r2, i2, a2, b2, rfl, hi2, hS2, hg2⟩
  have HI3 := Lib.hid (HI2.out.below (below_only (Below.refl _ _) hg2 (by have := hg1.size; omega) hgB))
  go_wp2_with fail
  refine (next_any g A l c i2 B 21 w2 hS2 hi2 hl HI3.out hgB (by decide) (by decide)).mono ?_
  rintro e w3 ⟨r3, i3, a3, b3, rfl, hi3, hS3, hg3⟩
  have hne : ∀ k, k ≠ g → some k ≠ some g := fun k h e => h (by injection e)
  have hB1 : w1.heap[w.heap.size]? = _ := (hg1.block w.heap.size (by omega) (hne _ (by omega))).trans hBlk
  have hB2 : w2.heap[w.heap.size]? = _ := (hg2.block w.heap.size (by have := hg1.size; omega) (hne _ (by omega))).trans hB1
  have hB3 : w3.heap[w.heap.size]? = _ := (hg3.block w.heap.size (by have := hg1.size; have := hg2.size; omega) (hne _ (by omega))).trans hB2
  have c0 : w3.cell? ⟨w.heap.size, 0, none⟩ = some (.string ⟨#[]⟩) := by simp [World.cell?, hB3]
  have c1 : w3.cell? ⟨w.heap.size, 1, none⟩ = some (.int .i64 0) := by simp [World.cell?, hB3]
  have c2 : w3.cell? ⟨w.heap.size, 2, none⟩ = some (.int .i64 0) := by simp [World.cell?, hB3]
  have c3 : w3.cell? ⟨w.heap.size, 3, none⟩ = some (.int .i64 0) := by simp [World.cell?, hB3]
  have c4 : w3.cell? ⟨w.heap.size, 4, none⟩ = some (.int .i64 0) := by simp [World.cell?, hB3]
  have f0 : w3.frozen? ⟨w.heap.size, 0, none⟩ = false := by simp [World.frozen?, hB3]
  have f1 : w3.frozen? ⟨w.heap.size, 1, none⟩ = false := by simp [World.frozen?, hB3]
  have f2 : w3.frozen? ⟨w.heap.size, 2, none⟩ = false := by simp [World.frozen?, hB3]
  have f3 : w3.frozen? ⟨w.heap.size, 3, none⟩ = false := by simp [World.frozen?, hB3]
  have f4 : w3.frozen? ⟨w.heap.size, 4, none⟩ = false := by simp [World.frozen?, hB3]
  have hgW : w.grownBy W (some g) := ⟨hb.os, hb.tape, hb.output, hb.size, fun k hk _ => hb.block k hk⟩
  have HG := Lib.hid (((hgW.trans hg1).trans hg2).trans hg3)
  have HS3 := Lib.hid hS3
  clear HI1 HI2 HI3 HS1 hS1 hS2 hS3 hB1 hB2 hB3 hBlk hgW hg1 hg2 hg3 hb hne
  go_wp2_with fail
  obtain ⟨d0, d1, d2, d3, d4⟩ := five_set (v0 := .string (str name)) (v1 := .int .i64 (2 + r1)) (v2 := .int .i64 (5000 + 5000 * r2)) (v3 := .int .i64 (r3 - 10)) (v4 := .int .i64 st) c0 c1 c2 c3 c4
  refine bodyPost_ret (v := .agg #[.string (str name), .int .i64 (2 + r1), .int .i64 (5000 + 5000 * r2), .int .i64 (r3 - 10), .int .i64 st]) ?_ rfl ?_
  · simp [results, Tryd.results57, go_sem, d0, d1, d2, d3, d4]
  refine ⟨⟨name, 2 + r1, 5000 + 5000 * r2, r3 - 10, st⟩, i3, rfl, rfl, ⟨by show 1 ≤ 2 + r1; omega, by show 2 + r1 ≤ 400; omega, by show 1000 ≤ 5000 + 5000 * r2; omega, by show 5000 + 5000 * r2 ≤ 100000; omega, by show -40 ≤ r3 - 10; omega, by show r3 - 10 ≤ 40; omega⟩, by show 2 + r1 ≤ 10; omega, rfl, hi3, ?_, ?_⟩
  · exact src_set (src_set (src_set (src_set (src_set HS3.out (by omega)) (by omega)) (by omega)) (by omega)) (by omega)
  · exact grown_set_new (grown_set_new (grown_set_new (grown_set_new (grown_set_new HG.out (Nat.le_refl _) _) (Nat.le_refl _) _) (Nat.le_refl _) _) (Nat.le_refl _) _) (Nat.le_refl _) _
end Go.Proofs.YtkfobijgjdgbgaaDoor.Bld

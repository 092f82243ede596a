/-
  Contracts of the maker of generated layouts: names, sections, and the builder's block.
  Contracts of the builder of generated layouts: its block in memory, and what adding to it leaves.
  Plain mathematics: how long the lines and words of a text can be. No program in it. Contracts of the program's small functions on the words of a line: their texts, ends, positions; a name's number declared. Contract of the program's function that adds a name to the stations or to the points. The draft of a layout in memory, while its text is read. Contract of the program's function that takes a line of a section into the draft. Contract of the program's function that takes a line of a link into the draft. Contract of the program's function that takes a line into the draft.
-/
import Derived.Test.YtnfelcjpjodjhaaGreatMD
import Derived.Test.YtnfelcjpjodjhaaGreatME
import Derived.Deep.RegionLaw
import Derived.Deep.AppendLies
import Derived.Test.YtnfelcjpjodjhaaGreatMA
import Derived.Test.YtnfelcjpjodjhaaGreatMB
import Derived.Test.YtnfelcjpjodjhaaGreatMC
import Derived.Deep.RegionHeld3
import Derived.Deep.QuietTactic
import Derived.BigQuiet
import Derived.StillTailTactics
namespace Go.Proofs.YtnfelcjpjodjhaaGreat.Bld
open Go.ChangeShapes Go.WideShapes Go.ChangeAt Go.RowKit Wd Small Mem Lay LayT LayG Recs Dec PNames PSecs PEnds RNames Src
set_option linter.unusedVariables false

set_option maxHeartbeats 1000000 in
theorem named_any (f : Bs) (n : Int) (w : World) (h0 : 0 ≤ n) (h1 : n ≤ 9223372036854775807) (hf : f.length ≤ 100) :
    Calls Tryz.prog 44 #[.string (str f), .int .i64 n] w fun e w' => e = .returned (.string (str (nm f n))) ∧ w = w' := by
  have ht : n.tmod 10 = n % 10 := Int.tmod_eq_emod_of_nonneg h0
  have hz : (str f).size + 1 ≤ 9223372036854775807 := by rw [size_str]; omega
  have hc : n % 10 = 0 ∨ n % 10 = 1 ∨ n % 10 = 2 ∨ n % 10 = 3 ∨ n % 10 = 4 ∨ n % 10 = 5 ∨ n % 10 = 6 ∨ n % 10 = 7 ∨ n % 10 = 8 ∨ n % 10 = 9 := by omega
  have HN : Hid (∀ d : Nat, n % 10 = d → str f ++ ⟨#[dig d]⟩ = str (nm f n)) := fun d hd => by
    refine bs_ext ?_
    rw [bs_append, bs_str, bs_str]
    unfold nm
    rw [hd]
    rfl
  go_enter Tryz.func44, Tryz.ntmps44
  rcases hc with hc | hc | hc | hc | hc | hc | hc | hc | hc | hc
  · have HX := HN.out 0 (by omega)
    have ht2 : n.tmod 10 = 0 := by omega
    have hx2 : str f ++ ⟨#[48]⟩ = str (nm f n) := HX
    have hx3 : (ByteArray.mk #[48, 49, 50, 51, 52, 53, 54, 55, 56, 57]).extract 0 1 = ⟨#[48]⟩ := by kernel_rfl
    have hz2 : (str f).size + (ByteArray.mk #[48]).size ≤ 9223372036854775807 := hz
    clear HN HX ht hc
    go_wp2
    go_ret
    exact ⟨rfl, rfl⟩
  · have HX := HN.out 1 (by omega)
    have ht2 : n.tmod 10 = 1 := by omega
    have hx2 : str f ++ ⟨#[49]⟩ = str (nm f n) := HX
    have hx3 : (ByteArray.mk #[48, 49, 50, 51, 52, 53, 54, 55, 56, 57]).extract 1 2 = ⟨#[49]⟩ := by kernel_rfl
    have hz2 : (str f).size + (ByteArray.mk #[49]).size ≤ 9223372036854775807 := hz
    clear HN HX ht hc
    go_wp2
    go_ret
    exact ⟨rfl, rfl⟩
  · have HX := HN.out 2 (by omega)
    have ht2 : n.tmod 10 = 2 := by omega
    have hx2 : str f ++ ⟨#[50]⟩ = str (nm f n) := HX
    have hx3 : (ByteArray.mk #[48, 49, 50, 51, 52, 53, 54, 55, 56, 57]).extract 2 3 = ⟨#[50]⟩ := by kernel_rfl
    have hz2 : (str f).size + (ByteArray.mk #[50]).size ≤ 9223372036854775807 := hz
    clear HN HX ht hc
    go_wp2
    go_ret
    exact ⟨rfl, rfl⟩
  · have HX := HN.out 3 (by omega)
    have ht2 : n.tmod 10 = 3 := by omega
    have hx2 : str f ++ ⟨#[51]⟩ = str (nm f n) := HX
    have hx3 : (ByteArray.mk #[48, 49, 50, 51, 52, 53, 54, 55, 56, 57]).extract 3 4 = ⟨#[51]⟩ := by kernel_rfl
    have hz2 : (str f).size + (ByteArray.mk #[51]).size ≤ 9223372036854775807 := hz
    clear HN HX ht hc
    go_wp2
    go_ret
    exact ⟨rfl, rfl⟩
  · have HX := HN.out 4 (by omega)
    have ht2 : n.tmod 10 = 4 := by omega
    have hx2 : str f ++ ⟨#[52]⟩ = str (nm f n) := HX
    have hx3 : (ByteArray.mk #[48, 49, 50, 51, 52, 53, 54, 55, 56, 57]).extract 4 5 = ⟨#[52]⟩ := by kernel_rfl
    have hz2 : (str f).size + (ByteArray.mk #[52]).size ≤ 9223372036854775807 := hz
    clear HN HX ht hc
    go_wp2
    go_ret
    exact ⟨rfl, rfl⟩
  · have HX := HN.out 5 (by omega)
    have ht2 : n.tmod 10 = 5 := by omega
    have hx2 : str f ++ ⟨#[53]⟩ = str (nm f n) := HX
    have hx3 : (ByteArray.mk #[48, 49, 50, 51, 52, 53, 54, 55, 56, 57]).extract 5 6 = ⟨#[53]⟩ := by kernel_rfl
    have hz2 : (str f).size + (ByteArray.mk #[53]).size ≤ 9223372036854775807 := hz
    clear HN HX ht hc
    go_wp2
    go_ret
    exact ⟨rfl, rfl⟩
  · have HX := HN.out 6 (by omega)
    have ht2 : n.tmod 10 = 6 := by omega
    have hx2 : str f ++ ⟨#[54]⟩ = str (nm f n) := HX
    have hx3 : (ByteArray.mk #[48, 49, 50, 51, 52, 53, 54, 55, 56, 57]).extract 6 7 = ⟨#[54]⟩ := by kernel_rfl
    have hz2 : (str f).size + (ByteArray.mk #[54]).size ≤ 9223372036854775807 := hz
    clear HN HX ht hc
    go_wp2
    go_ret
    exact ⟨rfl, rfl⟩
  · have HX := HN.out 7 (by omega)
    have ht2 : n.tmod 10 = 7 := by omega
    have hx2 : str f ++ ⟨#[55]⟩ = str (nm f n) := HX
    have hx3 : (ByteArray.mk #[48, 49, 50, 51, 52, 53, 54, 55, 56, 57]).extract 7 8 = ⟨#[55]⟩ := by kernel_rfl
    have hz2 : (str f).size + (ByteArray.mk #[55]).size ≤ 9223372036854775807 := hz
    clear HN HX ht hc
    go_wp2
    go_ret
    exact ⟨rfl, rfl⟩
  · have HX := HN.out 8 (by omega)
    have ht2 : n.tmod 10 = 8 := by omega
    have hx2 : str f ++ ⟨#[56]⟩ = str (nm f n) := HX
    have hx3 : (ByteArray.mk #[48, 49, 50, 51, 52, 53, 54, 55, 56, 57]).extract 8 9 = ⟨#[56]⟩ := by kernel_rfl
    have hz2 : (str f).size + (ByteArray.mk #[56]).size ≤ 9223372036854775807 := hz
    clear HN HX ht hc
    go_wp2
    go_ret
    exact ⟨rfl, rfl⟩
  · have HX := HN.out 9 (by omega)
    have ht2 : n.tmod 10 = 9 := by omega
    have hx2 : str f ++ ⟨#[57]⟩ = str (nm f n) := HX
    have hx3 : (ByteArray.mk #[48, 49, 50, 51, 52, 53, 54, 55, 56, 57]).extract 9 10 = ⟨#[57]⟩ := by kernel_rfl
    have hz2 : (str f).size + (ByteArray.mk #[57]).size ≤ 9223372036854775807 := hz
    clear HN HX ht hc
    go_wp2
    go_ret
    exact ⟨rfl, rfl⟩

theorem grown_set_new {w w' : World} {row : Option Nat} {b j : Nat} (h : w.grownBy w' row) (hb : w.heap.size ≤ b) (v : Value) : w.grownBy (w'.setCell ⟨b, j, none⟩ v) row :=
  ⟨h.os, h.tape, h.output, by have := h.size; simpa using this, fun k hk hne => (Below.heap_setCell w' ⟨b, j, none⟩ v k (fun e => by have e2 : k = b := e; omega)).trans (h.block k hk hne)⟩
theorem src_set {w : World} {g n c i b j : Nat} {A : Option Addr} {v : Value} (h : Src w g A n c i) (hb : g ≠ b) : Src (w.setCell ⟨b, j, none⟩ v) g A n c i :=
  (Below.heap_setCell w ⟨b, j, none⟩ v g (fun e => hb e)).trans h
theorem five_set {w : World} {b : Nat} {u0 u1 u2 u3 u4 v0 v1 v2 v3 v4 : Value} (c0 : w.cell? ⟨b, 0, none⟩ = some u0) (c1 : w.cell? ⟨b, 1, none⟩ = some u1) (c2 : w.cell? ⟨b, 2, none⟩ = some u2) (c3 : w.cell? ⟨b, 3, none⟩ = some u3) (c4 : w.cell? ⟨b, 4, none⟩ = some u4) :
    let W := ((((w.setCell ⟨b, 0, none⟩ v0).setCell ⟨b, 1, none⟩ v1).setCell ⟨b, 2, none⟩ v2).setCell ⟨b, 3, none⟩ v3).setCell ⟨b, 4, none⟩ v4
    W.cell? ⟨b, 0, none⟩ = some v0 ∧ W.cell? ⟨b, 1, none⟩ = some v1 ∧ W.cell? ⟨b, 2, none⟩ = some v2 ∧ W.cell? ⟨b, 3, none⟩ = some v3 ∧ W.cell? ⟨b, 4, none⟩ = some v4 := by
  refine ⟨?_, ?_, ?_, ?_, ?_⟩
  · rw [set_other (by omega), set_other (by omega), set_other (by omega), set_other (by omega)]; exact set_same c0
  · rw [set_other (by omega), set_other (by omega), set_other (by omega)]; exact set_same ((set_other (by omega)).trans c1)
  · rw [set_other (by omega), set_other (by omega)]; exact set_same ((set_other (by omega)).trans ((set_other (by omega)).trans c2))
  · rw [set_other (by omega)]; exact set_same ((set_other (by omega)).trans ((set_other (by omega)).trans ((set_other (by omega)).trans c3)))
  · exact set_same ((set_other (by omega)).trans ((set_other (by omega)).trans ((set_other (by omega)).trans ((set_other (by omega)).trans c4))))
theorem below_only {a w w' : World} {g B : Nat} (h : Below B a w) (hg : w.grownBy w' (some g)) (hB : B ≤ w.heap.size) (hg2 : B ≤ g) : Below B a w' := h.grown hg hB (fun k hk => by injection hk with hk; omega)
/-- what a call leaves that made a section -/
def SecPost (name : Bs) (st : Int) (g : Nat) (A : Option Addr) (l c : Nat) (w : World) (e : Ending) (w' : World) : Prop :=
  ∃ (x : Sec) (i : Nat), x.name = name ∧ x.st = st ∧ numsOK x ∧ x.len ≤ 10 ∧ e = .returned (.agg #[.string (str name), .int .i64 x.len, .int .i64 x.lim, .int .i64 x.grade, .int .i64 st]) ∧ i ≤ l ∧ Src w' g A l c i ∧ w.grownBy w' (some g)
set_option maxHeartbeats 1000000 in
theorem section_any (name : Bs) (st : Int) (g : Nat) (A : Option Addr) (l c i B : Nat) (w : World) (hs : Src w g A l c i) (hi : i ≤ l) (hl : l ≤ 9223372036854775807) (hI : Ints w B A l) (hgB : B ≤ g) (hst : -1 ≤ st ∧ st ≤ 100) :
    Calls Tryz.prog 45 #[.pointer (some ⟨g, 0, none⟩), .string (str name), .int .i64 st] w (SecPost name st g A l c w) := by
  have HS := Lib.hid hs
  have HI := Lib.hid hI
  have hg := hs.lt
  clear hs hI
  obtain ⟨W, hW⟩ : ∃ W, w.alloc (.cells #[.string ⟨#[]⟩, .int .i64 0, .int .i64 0, .int .i64 0, .int .i64 0] 81) = W := ⟨_, rfl⟩
  have hb : Below w.heap.size w W := by rw [← hW]; exact (Below.refl _ _).alloc (Nat.le_refl _) _
  have hzW : W.heap.size = w.heap.size + 1 := by rw [← hW]; simp
  have hBlk : W.heap[w.heap.size]? = some (.cells #[.string ⟨#[]⟩, .int .i64 0, .int .i64 0, .int .i64 0, .int .i64 0] 81) := by rw [← hW]; exact heap_alloc_new _ _
  go_enter Tryz.func45, Tryz.ntmps45
  go_upto_region 1 with fail
  try rw [hW]
  clear hW
  have HS1 := Lib.hid (HS.out.below hb hg)
  have HI1 := Lib.hid (HI.out.below (hb.mono (by omega)))
  clear HS HI
  go_wp2_with fail
  refine (next_any g A l c i B 9 W HS1.out hi hl HI1.out hgB (by decide) (by decide)).mono ?_
  rintro e w1 ⟨r1, i1, a1, b1, rfl, hi1, hS1, hg1⟩
  have HI2 := Lib.hid (HI1.out.below (below_only (Below.refl _ _) hg1 (by omega) hgB))
  go_wp2_with fail
  refine (next_any g A l c i1 B 7 w1 hS1 hi1 hl HI2.out hgB (by decide) (by decide)).mono ?_
  rintro e w2 ⟨r2, i2, a2, b2, rfl, hi2, hS2, hg2⟩
  have HI3 := Lib.hid (HI2.out.below (below_only (Below.refl _ _) hg2 (by have := hg1.size; omega) hgB))
  go_wp2_with fail
  refine (next_any g A l c i2 B 21 w2 hS2 hi2 hl HI3.out hgB (by decide) (by decide)).mono ?_
  rintro e w3 ⟨r3, i3, a3, b3, rfl, hi3, hS3, hg3⟩
  have hne : ∀ k, k ≠ g → some k ≠ some g := fun k h e => h (by injection e)
  have hB1 : w1.heap[w.heap.size]? = _ := (hg1.block w.heap.size (by omega) (hne _ (by omega))).trans hBlk
  have hB2 : w2.heap[w.heap.size]? = _ := (hg2.block w.heap.size (by have := hg1.size; omega) (hne _ (by omega))).trans hB1
  have hB3 : w3.heap[w.heap.size]? = _ := (hg3.block w.heap.size (by have := hg1.size; have := hg2.size; omega) (hne _ (by omega))).trans hB2
  have c0 : w3.cell? ⟨w.heap.size, 0, none⟩ = some (.string ⟨#[]⟩) := by simp [World.cell?, hB3]
  have c1 : w3.cell? ⟨w.heap.size, 1, none⟩ = some (.int .i64 0) := by simp [World.cell?, hB3]
  have c2 : w3.cell? ⟨w.heap.size, 2, none⟩ = some (.int .i64 0) := by simp [World.cell?, hB3]
  have c3 : w3.cell? ⟨w.heap.size, 3, none⟩ = some (.int .i64 0) := by simp [World.cell?, hB3]
  have c4 : w3.cell? ⟨w.heap.size, 4, none⟩ = some (.int .i64 0) := by simp [World.cell?, hB3]
  have f0 : w3.frozen? ⟨w.heap.size, 0, none⟩ = false := by simp [World.frozen?, hB3]
  have f1 : w3.frozen? ⟨w.heap.size, 1, none⟩ = false := by simp [World.frozen?, hB3]
  have f2 : w3.frozen? ⟨w.heap.size, 2, none⟩ = false := by simp [World.frozen?, hB3]
  have f3 : w3.frozen? ⟨w.heap.size, 3, none⟩ = false := by simp [World.frozen?, hB3]
  have f4 : w3.frozen? ⟨w.heap.size, 4, none⟩ = false := by simp [World.frozen?, hB3]
  have hgW : w.grownBy W (some g) := ⟨hb.os, hb.tape, hb.output, hb.size, fun k hk _ => hb.block k hk⟩
  have HG := Lib.hid (((hgW.trans hg1).trans hg2).trans hg3)
  have HS3 := Lib.hid hS3
  clear HI1 HI2 HI3 HS1 hS1 hS2 hS3 hB1 hB2 hB3 hBlk hgW hg1 hg2 hg3 hb hne
  go_wp2_with fail
  obtain ⟨d0, d1, d2, d3, d4⟩ := five_set (v0 := .string (str name)) (v1 := .int .i64 (2 + r1)) (v2 := .int .i64 (5000 + 5000 * r2)) (v3 := .int .i64 (r3 - 10)) (v4 := .int .i64 st) c0 c1 c2 c3 c4
  refine bodyPost_ret (v := .agg #[.string (str name), .int .i64 (2 + r1), .int .i64 (5000 + 5000 * r2), .int .i64 (r3 - 10), .int .i64 st]) ?_ rfl ?_
  · simp [results, Tryz.results45, go_sem, d0, d1, d2, d3, d4]
  refine ⟨⟨name, 2 + r1, 5000 + 5000 * r2, r3 - 10, st⟩, i3, rfl, rfl, ⟨by show 1 ≤ 2 + r1; omega, by show 2 + r1 ≤ 400; omega, by show 1000 ≤ 5000 + 5000 * r2; omega, by show 5000 + 5000 * r2 ≤ 100000; omega, by show -40 ≤ r3 - 10; omega, by show r3 - 10 ≤ 40; omega⟩, by show 2 + r1 ≤ 10; omega, rfl, hi3, ?_, ?_⟩
  · exact src_set (src_set (src_set (src_set (src_set HS3.out (by omega)) (by omega)) (by omega)) (by omega)) (by omega)
  · exact grown_set_new (grown_set_new (grown_set_new (grown_set_new (grown_set_new HG.out (Nat.le_refl _) _) (Nat.le_refl _) _) (Nat.le_refl _) _) (Nat.le_refl _) _) (Nat.le_refl _) _
end Go.Proofs.YtnfelcjpjodjhaaGreat.Bld

namespace Go.Proofs.YtnfelcjpjodjhaaGreat.Bldr
open Go.ChangeShapes Go.WideShapes Go.ChangeAt Go.RowKit Wd Small Mem Lay LayT LayG Recs Dec PNames PSecs PEnds RNames Src PHops Bld
set_option linter.unusedVariables false

/-- the builder's block: seven slices -/
def Blk7 (w : World) (g : Nat) (v0 v1 v2 v3 v4 v5 : Value) : Prop := w.heap[g]? = some (.cells #[v0, v1, v2, v3, v4, v5, .slice none 0 0] 61)
section
variable {w w' : World} {g B : Nat} {v0 v1 v2 v3 v4 v5 : Value}
theorem Blk7.lt (h : Blk7 w g v0 v1 v2 v3 v4 v5) : g < w.heap.size := lt_of_block h
theorem Blk7.c0 (h : Blk7 w g v0 v1 v2 v3 v4 v5) : w.cell? ⟨g, 0, none⟩ = some v0 := by unfold Blk7 at h; simp [World.cell?, h]
theorem Blk7.c1 (h : Blk7 w g v0 v1 v2 v3 v4 v5) : w.cell? ⟨g, 1, none⟩ = some v1 := by unfold Blk7 at h; simp [World.cell?, h]
theorem Blk7.c2 (h : Blk7 w g v0 v1 v2 v3 v4 v5) : w.cell? ⟨g, 2, none⟩ = some v2 := by unfold Blk7 at h; simp [World.cell?, h]
theorem Blk7.c3 (h : Blk7 w g v0 v1 v2 v3 v4 v5) : w.cell? ⟨g, 3, none⟩ = some v3 := by unfold Blk7 at h; simp [World.cell?, h]
theorem Blk7.c4 (h : Blk7 w g v0 v1 v2 v3 v4 v5) : w.cell? ⟨g, 4, none⟩ = some v4 := by unfold Blk7 at h; simp [World.cell?, h]
theorem Blk7.c5 (h : Blk7 w g v0 v1 v2 v3 v4 v5) : w.cell? ⟨g, 5, none⟩ = some v5 := by unfold Blk7 at h; simp [World.cell?, h]
theorem Blk7.f (h : Blk7 w g v0 v1 v2 v3 v4 v5) (j : Nat) : w.frozen? ⟨g, j, none⟩ = false := by unfold Blk7 at h; simp [World.frozen?, h]
theorem Blk7.same (h : Blk7 w g v0 v1 v2 v3 v4 v5) (hh : w'.heap[g]? = w.heap[g]?) : Blk7 w' g v0 v1 v2 v3 v4 v5 := hh.trans h
theorem Blk7.put0 (h : Blk7 w g v0 v1 v2 v3 v4 v5) (v : Value) : Blk7 (w.setCell ⟨g, 0, none⟩ v) g v v1 v2 v3 v4 v5 := by unfold Blk7 at *; simp [World.setCell, Array.getElem?_modify, h]
theorem Blk7.put1 (h : Blk7 w g v0 v1 v2 v3 v4 v5) (v : Value) : Blk7 (w.setCell ⟨g, 1, none⟩ v) g v0 v v2 v3 v4 v5 := by unfold Blk7 at *; simp [World.setCell, Array.getElem?_modify, h]
theorem Blk7.put2 (h : Blk7 w g v0 v1 v2 v3 v4 v5) (v : Value) : Blk7 (w.setCell ⟨g, 2, none⟩ v) g v0 v1 v v3 v4 v5 := by unfold Blk7 at *; simp [World.setCell, Array.getElem?_modify, h]
theorem Blk7.put3 (h : Blk7 w g v0 v1 v2 v3 v4 v5) (v : Value) : Blk7 (w.setCell ⟨g, 3, none⟩ v) g v0 v1 v2 v v4 v5 := by unfold Blk7 at *; simp [World.setCell, Array.getElem?_modify, h]
theorem Blk7.put4 (h : Blk7 w g v0 v1 v2 v3 v4 v5) (v : Value) : Blk7 (w.setCell ⟨g, 4, none⟩ v) g v0 v1 v2 v3 v v5 := by unfold Blk7 at *; simp [World.setCell, Array.getElem?_modify, h]
theorem Blk7.put5 (h : Blk7 w g v0 v1 v2 v3 v4 v5) (v : Value) : Blk7 (w.setCell ⟨g, 5, none⟩ v) g v0 v1 v2 v3 v4 v := by unfold Blk7 at *; simp [World.setCell, Array.getElem?_modify, h]
end

/-- a row of the call's own (v) has grown, then block g was written -/
def Turned (w w' : World) (g : Nat) (v : Value) : Prop := ∃ wm, w.grownBy wm v.ownBlock ∧ wm.grownBy w' (some g)
theorem own_turned {α : Type} {R : Rec α} {w w' : World} {base n g : Nat} {v u : Value} {L : List α} (h : Own R w base v n L) (ht : Turned w w' g u) (hne : ∀ b, v.ownBlock = some b → u.ownBlock ≠ some b) (hg : g < base) : Own R w' base v n L := by
  obtain ⟨wm, h1, h2⟩ := ht
  refine (h.grown h1 ?_).grown h2 ?_
  · cases hv : v.ownBlock with
    | none => exact .inl rfl
    | some b => exact .inr (fun e => hne b hv e.symm)
  · cases hv : v.ownBlock with
    | none => exact .inl rfl
    | some b => exact .inr (fun e => by have := (h.2.lt b hv).1; injection e; omega)
theorem turned_below {w w' : World} {g : Nat} {u : Value} (ht : Turned w w' g u) (hg : g ≤ w.heap.size) (hu : ∀ b, u.ownBlock = some b → g ≤ b) : Below g w w' := by
  obtain ⟨wm, h1, h2⟩ := ht
  exact ((Below.refl g w).grown h1 hg hu).grown h2 (Nat.le_trans hg h1.size) (fun k hk => by injection hk with hk; omega)

theorem own_set {α : Type} {R : Rec α} {w : World} {base n g j : Nat} {v u : Value} {L : List α} (h : Own R w base v n L) (hg : g < base) : Own R (w.setCell ⟨g, j, none⟩ u) base v n L :=
  h.grown (row := some g) (grown_set (World.grownBy.refl w _) _) (by
    cases hv : v.ownBlock with
    | none => exact .inl rfl
    | some b => exact .inr (fun e => by have := (h.2.lt b hv).1; injection e; omega))
/-- what a call leaves that has put one element to the row of cell j of the builder -/
def PutPost {α : Type} (R : Rec α) (base g n : Nat) (c0 : Value) (L : List α) (x : α) (r : Value) (B : World → Value → Prop) (w : World) (e : Ending) (w' : World) : Prop :=
  ∃ A' c', e = .returned r ∧ B w' (.slice A' (n + 1) c') ∧ Own R w' base (.slice A' (n + 1) c') (n + 1) (L ++ [x]) ∧ Turned w w' g c0

theorem infoSec : (Tryz.prog.info? 81).map (fun i => (i.zero, i.size, i.bytes)) = some (some (.agg #[.string ByteArray.empty, .int .i64 0, .int .i64 0, .int .i64 0, .int .i64 0]), 5, 48) := by kernel_rfl
theorem infoLnk : (Tryz.prog.info? 106).map (fun i => (i.zero, i.size, i.bytes)) = some (some (.agg #[.int .i64 0, .int .i64 0, .int .i64 0, .int .i64 0, .int .i64 0, .int .i64 0]), 6, 48) := by kernel_rfl

set_option maxRecDepth 100000 in
set_option maxHeartbeats 1000000 in
theorem add_sec (g base n c : Nat) (A : Option Addr) (v0 v1 v3 v4 v5 : Value) (S : List Sec) (x : Sec) (w : World) (hb : Blk7 w g v0 v1 (.slice A n c) v3 v4 v5) (hO : Own secR w base (.slice A n c) n S) (hg : g < base) (hbase : base ≤ w.heap.size) (hn : n ≤ 100000) :
    Calls Tryz.prog 46 #[.pointer (some ⟨g, 0, none⟩), .agg #[.string (str x.name), .int .i64 x.len, .int .i64 x.lim, .int .i64 x.grade, .int .i64 x.st]] w
      (PutPost secR base g n (.slice A n c) S x (.int .i64 n) (fun w' v => Blk7 w' g v0 v1 v v3 v4 v5) w) := by
  obtain ⟨ih, hih, hz0, hz1, hz2⟩ := info_parts infoSec
  obtain ⟨xn, xl, xm, xg, xs⟩ := x
  simp only at *
  obtain ⟨W, hW⟩ : ∃ W, w.alloc (.cells #[.string (str xn), .int .i64 xl, .int .i64 xm, .int .i64 xg, .int .i64 xs] 81) = W := ⟨_, rfl⟩
  have hbW : Below w.heap.size w W := by rw [← hW]; exact (Below.refl _ _).alloc (Nat.le_refl _) _
  have hzW : W.heap.size = w.heap.size + 1 := by rw [← hW]; simp
  have hx : W.heap[w.heap.size]? = some (.cells #[.string (str xn), .int .i64 xl, .int .i64 xm, .int .i64 xg, .int .i64 xs] 81) := by rw [← hW]; exact heap_alloc_new _ _
  have hgw := hb.lt
  have hbk : Blk7 W g v0 v1 (.slice A n c) v3 v4 v5 := hb.same (hbW.block g hgw)
  have d0 : W.cell? ⟨w.heap.size, 0, none⟩ = some (.string (str xn)) := by simp [World.cell?, hx]
  have d1 : W.cell? ⟨w.heap.size, 1, none⟩ = some (.int .i64 xl) := by simp [World.cell?, hx]
  have d2 : W.cell? ⟨w.heap.size, 2, none⟩ = some (.int .i64 xm) := by simp [World.cell?, hx]
  have d3 : W.cell? ⟨w.heap.size, 3, none⟩ = some (.int .i64 xg) := by simp [World.cell?, hx]
  have d4 : W.cell? ⟨w.heap.size, 4, none⟩ = some (.int .i64 xs) := by simp [World.cell?, hx]
  have HO := Lib.hid (hO.below hbW (Nat.le_refl _))
  have HBK := Lib.hid hbk
  have HBW := Lib.hid hbW
  have HZ := Lib.hid hzW
  have k2 := hbk.c2
  have hbaseW : base ≤ W.heap.size := by omega
  have hgW : g < W.heap.size := by omega
  clear hx hO hb hbk hbW hzW
  go_enter Tryz.func46, Tryz.ntmps46
  go_upto_region 1 with fail
  try rw [hW]
  clear hW
  have hn63 : n + 1 ≤ maxLen := by unfold maxLen; omega
  have hby : (n + 1) * 48 ≤ 140737488355328 := by omega
  go_region_law (refine step_append_lies _ (by rfl) _ _ _ (by rfl) base 81 ih _ 5 48 Tryz.underlying23 hih hz0 hz1 hz2 rfl (by omega) (.slice A n c) n (secR.cs S) (by rfl) (HO.out.2.alloc _) ⟨W.heap.size, 0, none⟩ 1 1 [.string (str xn), .int .i64 xl, .int .i64 xm, .int .i64 xg, .int .i64 xs] (by rfl) (by rfl) (World.news_of_block (cs := #[.string (str xn), .int .i64 xl, .int .i64 xm, .int .i64 xg, .int .i64 xs]) (t := 81) (fr := (0, 0)) (heap_alloc_new W _)) (by simp [Value.oneCell']) (by omega) hn63 hby (by simp; omega) (W.heap.size + 1) (by simp) ?_; intro gg cap w7 hown7 hgrow7 hat7 hlt7; have hgl : ∀ b, (Value.slice A n c).ownBlock = some b → base ≤ b := fun b hb => (HO.out.2.lt b hb).1; have hg7 : w7.heap[g]? = W.heap[g]? := (hgrow7.block g (by simp; omega) (fun e => by have := hgl _ e.symm; omega)).trans (((Below.refl W.heap.size W).alloc (Nat.le_refl _) _).block g (by omega)); have HB7 := Lib.hid (HBK.out.same hg7); have k7 := HB7.out.c2; have f7 := HB7.out.f 2)
  all_goals
    have HO7 := Lib.hid (Own.push (R := secR) (a := ⟨xn, xl, xm, xg, xs⟩) HO.out.1 hown7)
    have HT : Hid (Turned w (w7.setCell ⟨g, 2, none⟩ (.slice (some ⟨gg, 0, none⟩) (n + 1) cap)) g (.slice A n c)) := ⟨w7, ((⟨HBW.out.os, HBW.out.tape, HBW.out.output, HBW.out.size, fun k hk _ => HBW.out.block k hk⟩ : w.grownBy W (Value.slice A n c).ownBlock) |> fun h => (grown_drew (grown_alloc h _)).trans hgrow7), grown_set (World.grownBy.refl w7 _) _⟩
    clear hown7 hgrow7 hat7 hlt7 hg7 hgl
    go_wp2_with fail
    go_ret
    exact ⟨_, _, rfl, HB7.out.put2 _, own_set HO7.out hg, HT.out⟩

set_option maxRecDepth 100000 in
set_option maxHeartbeats 1000000 in
theorem add_link (g base n c : Nat) (A : Option Addr) (v0 v1 v2 v4 v5 : Value) (S : List Lnk) (a b p q : Int) (w : World) (hb : Blk7 w g v0 v1 v2 (.slice A n c) v4 v5) (hO : Own lnkR w base (.slice A n c) n S) (hg : g < base) (hbase : base ≤ w.heap.size) (hn : n ≤ 100000) :
    Calls Tryz.prog 47 #[.pointer (some ⟨g, 0, none⟩), .int .i64 a, .int .i64 b, .int .i64 p, .int .i64 q] w
      (PutPost lnkR base g n (.slice A n c) S ⟨a, 1, b, 0, p, q⟩ (.tuple #[]) (fun w' v => Blk7 w' g v0 v1 v2 v v4 v5) w) := by
  obtain ⟨ih, hih, hz0, hz1, hz2⟩ := info_parts infoLnk
  have hgw := hb.lt
  have HO := Lib.hid hO
  have HBK := Lib.hid hb
  have k3 := hb.c3
  have hn63 : n + 1 ≤ maxLen := by unfold maxLen; omega
  have hby : (n + 1) * 48 ≤ 140737488355328 := by omega
  clear hO hb
  go_enter Tryz.func47, Tryz.ntmps47
  go_wp2_with (at_builtin; refine wpList_append_own _ rfl _ _ 24 rfl base 106 ih _ 6 48 Tryz.underlying24 hih hz0 hz1 hz2 rfl (by omega) (.slice A n c) n (lnkR.cs S) rfl (HO.out.2.alloc _) ⟨w.heap.size, 0, none⟩ 1 1 [.int .i64 a, .int .i64 1, .int .i64 b, .int .i64 0, .int .i64 p, .int .i64 q] rfl rfl (World.news_of_block (cs := #[.int .i64 a, .int .i64 1, .int .i64 b, .int .i64 0, .int .i64 p, .int .i64 q]) (t := 106) (fr := (0, 0)) (heap_alloc_new _ _)) (by simp [Value.oneCell']) hn63 hby (by simp; omega) ?_)
  intro v w7 hown7 hgrow7 _
  have hO7 := Own.push (R := lnkR) (a := ⟨a, 1, b, 0, p, q⟩) HO.out.1 hown7
  obtain ⟨A', c', rfl, _⟩ := hO7.form
  have HO7 := Lib.hid hO7
  have hgl : ∀ b, (Value.slice A n c).ownBlock = some b → base ≤ b := fun b hb => (HO.out.2.lt b hb).1
  have hg7 : w7.heap[g]? = w.heap[g]? := (hgrow7.block g (by simp; omega) (fun e => by have := hgl _ e.symm; omega)).trans (((Below.refl w.heap.size w).alloc (Nat.le_refl _) _).block g (by omega))
  have HB7 := Lib.hid (HBK.out.same hg7)
  have k7 := HB7.out.c3
  have f7 := HB7.out.f 3
  have HT : Hid (Turned w (w7.setCell ⟨g, 3, none⟩ (.slice A' (n + 1) c')) g (.slice A n c)) := ⟨w7, (World.grownBy_alloc w _ _).trans hgrow7, grown_set (World.grownBy.refl w7 _) _⟩
  clear hO7 hown7 hgrow7 hg7 hgl k3
  go_wp2_with fail
  go_end0
  exact ⟨_, _, rfl, HB7.out.put3 _, own_set HO7.out hg, HT.out⟩

set_option maxRecDepth 100000 in
set_option maxHeartbeats 1000000 in
theorem add_point (g base n c : Nat) (A : Option Addr) (v0 v2 v3 v4 v5 : Value) (S : List Bs) (w : World) (hb : Blk7 w g v0 (.slice A n c) v2 v3 v4 v5) (hO : Own sR w base (.slice A n c) n S) (hg : g < base) (hbase : base ≤ w.heap.size) (hn : n ≤ 100000) :
    Calls Tryz.prog 67 #[.pointer (some ⟨g, 0, none⟩)] w
      (PutPost sR base g n (.slice A n c) S (nm [80] n) (.int .i64 n) (fun w' v => Blk7 w' g v0 v v2 v3 v4 v5) w) := by
  obtain ⟨ih, hih, hz0, hz1, hz2⟩ := info_parts infoS
  have hgw := hb.lt
  have HO := Lib.hid hO
  have HBK := Lib.hid hb
  have k1 := hb.c1
  have hn63 : n + 1 ≤ maxLen := by unfold maxLen; omega
  have hby : (n + 1) * 16 ≤ 140737488355328 := by omega
  clear hO hb
  go_enter Tryz.func67, Tryz.ntmps67
  go_upto_region 1 with fail
  go_region_law (first | (refine step_append_lies _ (by rfl) _ _ _ (by rfl) base 9 ih _ 1 16 Tryz.underlying22 hih hz0 hz1 hz2 rfl (by omega) (.slice A n c) n (sR.cs S) (by rfl) (HO.out.2.alloc _) ⟨w.heap.size, 0, none⟩ 1 1 [.string (str (nm [80] n))] (by rfl) (by rfl) (World.news_of_block (cs := #[.string (str (nm [80] n))]) (t := 9) (fr := (0, 0)) (heap_alloc_new w _)) (by simp [Value.oneCell']) (by omega) hn63 hby (by simp; omega) (w.heap.size + 1) (by simp) ?_; intro gg cap w7 hown7 hgrow7 hat7 hlt7; have hgl : ∀ b, (Value.slice A n c).ownBlock = some b → base ≤ b := fun b hb => (HO.out.2.lt b hb).1; have hg7 : w7.heap[g]? = w.heap[g]? := (hgrow7.block g (by simp; omega) (fun e => by have := hgl _ e.symm; omega)).trans (((Below.refl w.heap.size w).alloc (Nat.le_refl _) _).block g (by omega)); have HB7 := Lib.hid (HBK.out.same hg7); have k7 := HB7.out.c1; have f7 := HB7.out.f 1) | (go_simp; go_at_call 44; refine (named_any [80] n _ (by omega) (by omega) (by decide)).mono ?_; rintro e wq ⟨rfl, rfl⟩))
  all_goals
    have HO7 := Lib.hid (Own.push (R := sR) (a := nm [80] n) HO.out.1 hown7)
    have HT : Hid (Turned w (w7.setCell ⟨g, 1, none⟩ (.slice (some ⟨gg, 0, none⟩) (n + 1) cap)) g (.slice A n c)) := ⟨w7, (grown_drew (World.grownBy_alloc w _ _)).trans hgrow7, grown_set (World.grownBy.refl w7 _) _⟩
    clear hown7 hgrow7 hat7 hlt7 hg7 hgl
    go_wp2_with fail
    go_ret
    exact ⟨_, _, rfl, HB7.out.put1 _, own_set HO7.out hg, HT.out⟩
end Go.Proofs.YtnfelcjpjodjhaaGreat.Bldr

namespace Go.Proofs.YtnfelcjpjodjhaaGreat.Bnd
open Wd Lin

theorem addTo_max {L : List W} {n : Nat} (b : UInt8) (h : ∀ x ∈ L, x.1.length ≤ n) : ∀ x ∈ addTo L b, x.1.length ≤ n + 1 := by
  rcases List.eq_nil_or_concat L with rfl | ⟨M, ⟨t, y⟩, rfl⟩
  · intro x hx; simp [addTo] at hx
  · rw [List.concat_eq_append] at h ⊢
    rw [addTo_snoc]
    intro x hx
    rw [List.mem_append] at hx
    rcases hx with hx | hx
    · have := h x (List.mem_append_left _ hx); omega
    · have h2 := h (t, y) (by simp)
      simp at hx; subst hx
      simp only [List.length_append, List.length_cons, List.length_nil]
      simp only at h2
      omega
theorem wst_max (ln : Int) : ∀ (r : Bs) (L : List W) (p : Bool) (k n : Nat), (∀ x ∈ L, x.1.length ≤ n) → ∀ x ∈ wst ln L p k r, x.1.length ≤ n + r.length + 1
  | [], L, p, k, n, h => fun x hx => by have := h x hx; simp; omega
  | b :: r, L, p, k, n, h => by
    intro x hx
    unfold wst at hx
    split at hx
    · split at hx
      · have := wst_max ln r (addTo L b) true (k + 1) (n + 1) (addTo_max b h) x hx
        simp only [List.length_cons]; omega
      · have := wst_max ln r (L ++ [([b], ln, (k : Int) + 1)]) true (k + 1) (n + 1) (fun y hy => by
          rw [List.mem_append] at hy
          rcases hy with hy | hy
          · have := h y hy; omega
          · simp at hy; subst hy; simp) x hx
        simp only [List.length_cons]; omega
    · have := wst_max ln r L false (k + 1) n h x hx
      simp only [List.length_cons]; omega
theorem lineWords_max (ln : Int) (l : Bs) : ∀ x ∈ lineWords ln l, x.1.length ≤ l.length + 1 := by
  intro x hx
  have := wst_max ln (code l) [] false 0 0 (by simp) x hx
  have h2 : (code l).length ≤ l.length := by
    unfold code
    exact List.Sublist.length_le (List.takeWhile_sublist _)
  omega
theorem split_max : ∀ (l : Bs), (∀ x ∈ split l, x.length ≤ l.length) ∧ (split l).length ≤ l.length + 1
  | [] => by simp [split]
  | b :: r => by
    obtain ⟨h1, h2⟩ := split_max r
    unfold split
    split
    · refine ⟨fun x hx => ?_, ?_⟩
      · simp only [List.mem_cons] at hx
        rcases hx with rfl | hx
        · simp
        · have := h1 x hx; simp; omega
      · simp; omega
    · split
      · refine ⟨fun x hx => ?_, ?_⟩
        · simp at hx; subst hx; simp
        · simp
      · next h t he =>
        rw [he] at h1 h2
        refine ⟨fun x hx => ?_, ?_⟩
        · simp only [List.mem_cons] at hx
          rcases hx with rfl | hx
          · have := h1 h (by simp); simp; omega
          · have := h1 x (by simp [hx]); simp; omega
        · simp only [List.length_cons] at h2 ⊢; omega
/-- a line of words, as a text can have it -/
def Fit (w : List W) : Prop := w ≠ [] ∧ w.length ≤ 64 ∧ ∀ x ∈ w, x.1.length ≤ 65537
theorem one_more {m : Nat} (T : List (List W)) (x : List W) (h : T.length ≤ m) : (if x.length = 0 then T else T ++ [x]).length ≤ m + 1 := by
  split
  · omega
  · simp; omega
theorem go_max : ∀ (ls : List Bs) (T : List (List W)) (ln : Int) (m : Nat), (∀ w ∈ T, Fit w) → T.length ≤ m → (∀ l ∈ ls, l.length ≤ 65536) → (∀ w ∈ (go T ln ls).1, Fit w) ∧ (go T ln ls).1.length ≤ m + ls.length
  | [], T, ln, m, h, hm, _ => ⟨h, by simp [go]; omega⟩
  | l :: r, T, ln, m, h, hm, hl => by
    unfold go
    split
    · next he =>
      have hw : (lineWords ln l).length ≤ 64 := by
        unfold lineErr at he
        split at he
        · cases he
        · split at he
          · cases he
          · omega
      have := go_max r (if (lineWords ln l).length = 0 then T else T ++ [lineWords ln l]) (ln + 1) (m + 1) (by
        split
        · exact h
        · next hne =>
          intro w hw2
          rw [List.mem_append] at hw2
          rcases hw2 with hw2 | hw2
          · exact h w hw2
          · simp at hw2; subst hw2
            exact ⟨fun e => hne (by rw [e]; rfl), hw, fun x hx => by have h1 := lineWords_max ln l x hx; have h2 := hl l (by simp); omega⟩) (one_more T (lineWords ln l) hm) (fun x hx => hl x (by simp [hx]))
      exact ⟨this.1, by simp only [List.length_cons]; omega⟩
    · exact ⟨by simp, by simp⟩
theorem lines_max (l : Bs) : (∀ w ∈ (linesOf l).1, Fit w) ∧ (linesOf l).1.length ≤ 65537 := by
  unfold linesOf
  split
  · exact ⟨by simp, by simp⟩
  · obtain ⟨h1, h2⟩ := split_max l
    have := go_max (split l) [] 1 0 (by simp) (by simp) (fun x hx => by have := h1 x hx; omega)
    exact ⟨this.1, by omega⟩
end Go.Proofs.YtnfelcjpjodjhaaGreat.Bnd

namespace Go.Proofs.YtnfelcjpjodjhaaGreat.Txt
open Go.ChangeShapes Go.WideShapes Go.ChangeAt Go.RowKit Wd Small Mem Lay LayT Recs Keep Names PNames PSecs PEnds RNames
set_option linter.unusedVariables false

/-- what a call leaves that answers a number and whether there is one, and leaves the world alone -/
def Two (x : Int) (b : Bool) (w : World) (e : Ending) (w' : World) : Prop := e = .returned (.tuple #[.int .i64 x, .bool b]) ∧ w = w'
theorem ret_two {x y : Int} {b c : Bool} (h1 : x = y) (h2 : b = c) : Ending.returned (.tuple #[.int .i64 y, .bool c]) = .returned (.tuple #[.int .i64 x, .bool b]) := by rw [h1, h2]
def endV (s : Bs) : Int := if s = [65] then 0 else if s = [66] then 1 else 0
def endB (s : Bs) : Bool := decide (s = [65]) || decide (s = [66])
theorem str_eq1 (s : Bs) (b : UInt8) : ((str s).toList == [b]) = decide (s = [b]) := by
  rw [Bool.eq_iff_iff]
  simp only [beq_iff_eq, decide_eq_true_eq]
  rw [show (str s).toList = s from by rw [Lib.toList_data]; exact str_toList s]
def posV (s : Bs) : Int := if s = [49] then 1 else 0
def posB (s : Bs) : Bool := s == [48] || s == [49]
/-- what a call leaves that gives a name its number -/
def NumPost (b n : Nat) (L : List Bs) (s : Bs) (w : World) (e : Ending) (w' : World) : Prop := e = .returned (.tuple #[]) ∧ Nums w' b (n + 1) (L ++ [s]) ∧ w.grownBy w' (some b)
end Go.Proofs.YtnfelcjpjodjhaaGreat.Txt

namespace Go.Proofs.YtnfelcjpjodjhaaGreat.App
open Go.ChangeShapes Go.WideShapes Go.ChangeAt Go.RowKit Wd Small Mem Lay LayT Recs Keep Names PNames PSecs PEnds RNames Txt
set_option linter.unusedVariables false

theorem frozen_same {w w' : World} {p : Addr} (h : w'.heap[p.block]? = w.heap[p.block]?) : w'.frozen? p = w.frozen? p := by
  unfold World.frozen?
  rw [h]
theorem cell_same {w w' : World} {p : Addr} (h : w'.heap[p.block]? = w.heap[p.block]?) : w'.cell? p = w.cell? p := by
  unfold World.cell?
  rw [h]
/-- the operands of a line: names that lie behind block g -/
def Opn (w : World) (g : Nat) (A : Option Addr) (n : Nat) (O : List Bs) : Prop := Recs.Rd sR w w.heap.size A n O ∧ ∀ ad, A = some ad → g < ad.block
/-- what a call leaves that has put a name behind the list of cell j of block g -/
def AppPost (g j m k base n c : Nat) (A : Option Addr) (L : List Bs) (s : Bs) (w : World) (e : Ending) (w' : World) : Prop :=
  ∃ A' c' wn, e = .returned (.int .i64 0) ∧ Nums wn m (k + 1) (L ++ [s]) ∧ Recs.Own sR wn base (.slice A' (n + 1) c') (n + 1) (L ++ [s]) ∧
    (∀ b, (Value.slice A' (n + 1) c').ownBlock = some b → (Value.slice A n c).ownBlock = some b ∨ w.heap.size ≤ b) ∧
    (∃ wm, w.grownBy wm (some m) ∧ wm.grownBy wn (Value.slice A n c).ownBlock) ∧ w' = wn.setCell ⟨g, j, none⟩ (.slice A' (n + 1) c')

end Go.Proofs.YtnfelcjpjodjhaaGreat.App

namespace Go.Proofs.YtnfelcjpjodjhaaGreat.Dft
open Go.ChangeShapes Go.WideShapes Go.ChangeAt Go.RowKit Wd Small Mem Lay LayT Recs Keep Names PNames PSecs PEnds RNames Txt App
set_option linter.unusedVariables false

section
variable {w w' : World} {g : Nat} {v0 v1 v2 v3 : Value} {m1 m2 m3 : Nat}
end

/-- a list of the draft -/
abbrev LV.s1 (v : LV) : Value := .slice v.A1 v.n1 v.c1
abbrev LV.s2 (v : LV) : Value := .slice v.A2 v.n2 v.c2
abbrev LV.s3 (v : LV) : Value := .slice v.A3 v.n3 v.c3
abbrev LV.s4 (v : LV) : Value := .slice v.A4 v.n4 v.c4
section
variable {w wm wn w' : World} {g m m' k j : Nat} {u x : Value}
theorem set_grown (w : World) (g j : Nat) (x : Value) : w.grownBy (w.setCell ⟨g, j, none⟩ x) (some g) := grown_set (World.grownBy.refl w _) _
/-- a row through a step: a map has changed, another row has grown, block g was written -/
theorem own3 {α : Type} {R : Rec α} {v : Value} {n : Nat} {L : List α} (h : Recs.Own R w (g + 1) v n L) (hm : m < g) (h1 : w.grownBy wm (some m)) (h2 : wm.grownBy wn u.ownBlock) (hne : ∀ b, v.ownBlock = some b → u.ownBlock ≠ some b) : Recs.Own R (wn.setCell ⟨g, j, none⟩ x) (g + 1) v n L := by
  refine ((h.grown h1 ?_).grown h2 ?_).grown (set_grown wn g j x) ?_
  · cases hv : v.ownBlock with
    | none => exact .inl rfl
    | some b => exact .inr (fun e => by have := (h.2.lt b hv).1; injection e; omega)
  · cases hv : v.ownBlock with
    | none => exact .inl rfl
    | some b => exact .inr (fun e => hne b hv e.symm)
  · cases hv : v.ownBlock with
    | none => exact .inl rfl
    | some b => exact .inr (fun e => by have := (h.2.lt b hv).1; injection e; omega)
theorem num3 {L : List Bs} (h : Nums w m' k L) (hne : m' ≠ m) (hm : m' < g) (h1 : w.grownBy wm (some m)) (h2 : wm.grownBy wn u.ownBlock) (hu : ∀ b, u.ownBlock = some b → g < b) : Nums (wn.setCell ⟨g, j, none⟩ x) m' (k + 1) L := by
  refine Nums.mono (((h.kept h1 (by simp; exact hne)).kept h2 ?_).kept (set_grown wn g j x) (by simp; omega)) (Nat.le_succ k)
  intro e
  have := hu _ e.symm
  omega
theorem num2 {L : List Bs} (h : Nums wm m k L) (hm : m < g) (h2 : wm.grownBy wn u.ownBlock) (hu : ∀ b, u.ownBlock = some b → g < b) : Nums (wn.setCell ⟨g, j, none⟩ x) m k L := by
  refine (h.kept h2 ?_).kept (set_grown wn g j x) (by simp; omega)
  intro e
  have := hu _ e.symm
  omega
theorem num1 {L : List Bs} (h : Nums wn m k L) (hm : m < g) : Nums (wn.setCell ⟨g, j, none⟩ x) m k L := h.kept (set_grown wn g j x) (by simp; omega)
theorem own1 {α : Type} {R : Rec α} {v : Value} {n : Nat} {L : List α} (h : Recs.Own R wn (g + 1) v n L) : Recs.Own R (wn.setCell ⟨g, j, none⟩ x) (g + 1) v n L := by
  refine h.grown (set_grown wn g j x) ?_
  cases hv : v.ownBlock with
  | none => exact .inl rfl
  | some b => exact .inr (fun e => by have := (h.2.lt b hv).1; injection e; omega)
theorem below3 {B : Nat} (hB : B ≤ m) (hBg : B ≤ g) (hBw : B ≤ w.heap.size) (h1 : w.grownBy wm (some m)) (h2 : wm.grownBy wn u.ownBlock) (hu : ∀ b, u.ownBlock = some b → g < b) : Below B w (wn.setCell ⟨g, j, none⟩ x) := by
  have e1 : Below B w wm := (Below.refl B w).grown h1 hBw (fun k hk => by injection hk with hk; omega)
  have e2 : Below B w wn := e1.grown h2 (Nat.le_trans hBw h1.size) (fun k hk => by have := hu k hk; omega)
  exact e2.grown (set_grown wn g j x) (Nat.le_trans hBw (Nat.le_trans h1.size h2.size)) (fun k hk => by injection hk with hk; omega)
end

section
variable {w wm wn : World} {g m1 m2 m3 k : Nat} {l : Lay} {v : LV}
theorem nums_le {b n n' : Nat} {L : List Bs} (h : Nums w b n L) (hn : n ≤ n') : Nums w b n' L := h.mono hn
theorem snoc_max {L : List Bs} {s : Bs} (h : ∀ x ∈ L, x.length ≤ 65537) (hs : s.length ≤ 65537) : ∀ x ∈ L ++ [s], x.length ≤ 65537 := by
  intro x hx
  rw [List.mem_append] at hx
  rcases hx with hx | hx
  · exact h x hx
  · simp at hx; subst hx; exact hs
end
end Go.Proofs.YtnfelcjpjodjhaaGreat.Dft

namespace Go.Proofs.YtnfelcjpjodjhaaGreat.DSec
open Go.ChangeShapes Go.WideShapes Go.ChangeAt Go.RowKit Wd Small Mem Lay LayT Recs Keep Names PNames PSecs PEnds RNames Num Txt App Dft
set_option linter.unusedVariables false

theorem infoSec : (Tryz.prog.info? 81).map (fun i => (i.zero, i.size, i.bytes)) = some (some (.agg #[.string ByteArray.empty, .int .i64 0, .int .i64 0, .int .i64 0, .int .i64 0]), 5, 48) := by kernel_rfl
/-- the operands of a line, one by one, wherever nothing old has changed -/
theorem opn_get {w : World} {g n i : Nat} {A : Option Addr} {O : List Bs} (h : Opn w g A n O) (hi : i < n) : ∃ ad s, A = some ad ∧ O[i]? = some s ∧ ad.block < w.heap.size ∧ g < ad.block ∧ w.cell? (ad.add i) = some (.string (str s)) := by
  obtain ⟨ad, s, e, hb, hs, hc⟩ := loadS h.1 hi
  exact ⟨ad, s, e, hs, hb, h.2 ad e, hc⟩
theorem opn_atk {w : World} {g n i : Nat} {ad : Addr} {O : List Bs} {s : Bs} (h : Opn w g (some ad) n O) (hs : O[i]? = some s) : w.cell? (ad.add i) = some (.string (str s)) := by
  have hi : i < n := by
    have := (List.getElem?_eq_some_iff.1 hs).1
    have := h.1.1
    omega
  obtain ⟨ad', s', e, hs', _, _, hc⟩ := opn_get h hi
  cases e
  rw [hs] at hs'
  cases hs'
  exact hc
theorem opn_at0 {w : World} {g n : Nat} {ad : Addr} {O : List Bs} {s : Bs} (h : Opn w g (some ad) n O) (hs : O[0]? = some s) : w.cell? ad = some (.string (str s)) := by
  have := opn_atk h hs
  rw [show ad.add 0 = ad from rfl] at this
  exact this
theorem opn_at {w : World} {g n i : Nat} {ad : Addr} {O : List Bs} {s : Bs} (h : Opn w g (some ad) n O) (hs : O[i]? = some s) (hi : 0 < i) : w.cell? ⟨ad.block, ad.off + i, none⟩ = some (.string (str s)) := by
  have := opn_atk h hs
  rw [show ad.add i = ad.add (0 + i) by rw [Nat.zero_add], cell_next _ _ _ hi, show ad.add 0 = ad from rfl] at this
  exact this
theorem opn_lt {w : World} {g n : Nat} {A : Option Addr} {O : List Bs} (h : Opn w g A n O) (hn : 0 < n) : ∃ ad, A = some ad ∧ ad.block < w.heap.size ∧ g < ad.block := by
  obtain ⟨ad, s, e, hs, hb, hg, hc⟩ := opn_get h hn
  exact ⟨ad, e, hb, hg⟩
/-- what a line of a section declares, by its operands -/
def declS (l : Lay) : List Bs → Lay × Int
  | [a, b, c, d] => declSec l a b c d []
  | [a, b, c, d, x, y] => declSec l a b c d [x, y]
  | _ => (l, 2)
theorem declS_other (l : Lay) (O : List Bs) (h4 : O.length ≠ 4) (h6 : O.length ≠ 6) : declS l O = (l, 2) := by
  match O with
  | [] => rfl
  | [_] => rfl
  | [_, _] => rfl
  | [_, _, _] => rfl
  | [_, _, _, _] => exact absurd rfl h4
  | [_, _, _, _, _] => rfl
  | [_, _, _, _, _, _] => exact absurd rfl h6
  | _ :: _ :: _ :: _ :: _ :: _ :: _ :: _ => rfl
theorem four {O : List Bs} (h : O.length = 4) : ∃ a b c d, O = [a, b, c, d] := by
  match O, h with
  | [a, b, c, d], _ => exact ⟨a, b, c, d, rfl⟩
theorem six {O : List Bs} (h : O.length = 6) : ∃ a b c d x y, O = [a, b, c, d, x, y] := by
  match O, h with
  | [a, b, c, d, x, y], _ => exact ⟨a, b, c, d, x, y, rfl⟩
theorem decl_bad {l : Lay} {nm a b c : Bs} {more : List Bs} (h : (!numOK a || !numOK b || !numOK c || !(more.head?.all (· == kwAt))) = true) : declSec l nm a b c more = (l, 2) := by
  unfold declSec
  rw [if_pos h]
theorem decl_plain {l : Lay} {nm a b c : Bs} (ha : numOK a = true) (hb : numOK b = true) (hc : numOK c = true) : declSec l nm a b c [] = ({ l with sections := l.sections ++ [⟨nm, number a, number b, number c, -1⟩] }, 0) := by
  unfold declSec
  rw [if_neg (by rw [ha, hb, hc]; simp)]
theorem decl_lost {l : Lay} {nm a b c st : Bs} (ha : numOK a = true) (hb : numOK b = true) (hc : numOK c = true) (hp : place 0 l.stations st < 0) : declSec l nm a b c [kwAt, st] = (l, 3) := by
  unfold declSec
  rw [if_neg (by rw [ha, hb, hc]; simp)]
  simp only
  rw [if_pos hp]
theorem decl_at {l : Lay} {nm a b c st : Bs} (ha : numOK a = true) (hb : numOK b = true) (hc : numOK c = true) (hp : ¬ place 0 l.stations st < 0) : declSec l nm a b c [kwAt, st] = ({ l with sections := l.sections ++ [⟨nm, number a, number b, number c, place 0 l.stations st⟩] }, 0) := by
  unfold declSec
  rw [if_neg (by rw [ha, hb, hc]; simp)]
  simp only
  rw [if_neg hp]
theorem str_at (s : Bs) : ((str s).toList == [97, 116]) = (s == kwAt) := by
  rw [show (str s).toList = s from by rw [Lib.toList_data]; exact str_toList s]
  rfl
end Go.Proofs.YtnfelcjpjodjhaaGreat.DSec

namespace Go.Proofs.YtnfelcjpjodjhaaGreat.DLnk
open Go.ChangeShapes Go.WideShapes Go.ChangeAt Go.RowKit Wd Small Mem Lay LayT Recs Keep Names PNames PSecs PEnds RNames Num Txt App Dft DSec
set_option linter.unusedVariables false

theorem infoLnk : (Tryz.prog.info? 106).map (fun i => (i.zero, i.size, i.bytes)) = some (some (.agg #[.int .i64 0, .int .i64 0, .int .i64 0, .int .i64 0, .int .i64 0, .int .i64 0]), 6, 48) := by kernel_rfl
/-- what a line of a link declares, by its operands -/
def declL (l : Lay) : List Bs → Lay × Int
  | [a, b, c, d] => declLink l a b c d []
  | [a, b, c, d, x, y] => declLink l a b c d [x, y]
  | _ => (l, 2)
theorem declL_other (l : Lay) (O : List Bs) (h4 : O.length ≠ 4) (h6 : O.length ≠ 6) : declL l O = (l, 2) := by
  match O with
  | [] => rfl
  | [_] => rfl
  | [_, _] => rfl
  | [_, _, _] => rfl
  | [_, _, _, _] => exact absurd rfl h4
  | [_, _, _, _, _] => rfl
  | [_, _, _, _, _, _] => exact absurd rfl h6
  | _ :: _ :: _ :: _ :: _ :: _ :: _ :: _ => rfl
theorem end_neg (s : Bs) : decide (LayT.endOf s < 0) = !endB s := by
  unfold LayT.endOf endB
  by_cases h1 : s = [65]
  · rw [if_pos h1]; simp [h1]
  · rw [if_neg h1]
    by_cases h2 : s = [66]
    · rw [if_pos h2]; simp [h2]
    · rw [if_neg h2]; simp [h1, h2]
theorem end_val {s : Bs} (h : endB s = true) : LayT.endOf s = endV s := by
  unfold LayT.endOf endV
  unfold endB at h
  by_cases h1 : s = [65]
  · rw [if_pos h1, if_pos h1]
  · rw [if_neg h1, if_neg h1]
    by_cases h2 : s = [66]
    · rw [if_pos h2, if_pos h2]
    · simp [h1, h2] at h
theorem link_bad {l : Lay} {a ae b be : Bs} {more : List Bs} (h : (!endB ae || !endB be || !((more.drop 1).head?.all fun w => w == [48] || w == [49])) = true) : declLink l a ae b be more = (l, 2) := by
  unfold declLink
  rw [end_neg, end_neg, if_pos h]
theorem link_lost {l : Lay} {a ae b be : Bs} {more : List Bs} (h : (!endB ae || !endB be || !((more.drop 1).head?.all fun w => w == [48] || w == [49])) = false) (hp : place 0 (l.sections.map Sec.name) a < 0 ∨ place 0 (l.sections.map Sec.name) b < 0) : declLink l a ae b be more = (l, 3) := by
  unfold declLink
  rw [end_neg, end_neg, if_neg (by rw [h]; decide), if_pos hp]
theorem link_plain {l : Lay} {a ae b be : Bs} (h1 : endB ae = true) (h2 : endB be = true) (hp : ¬ (place 0 (l.sections.map Sec.name) a < 0 ∨ place 0 (l.sections.map Sec.name) b < 0)) :
    declLink l a ae b be [] = ({ l with links := l.links ++ [⟨place 0 (l.sections.map Sec.name) a, endV ae, place 0 (l.sections.map Sec.name) b, endV be, -1, 0⟩] }, 0) := by
  unfold declLink
  rw [end_neg, end_neg, if_neg (by rw [h1, h2]; simp), if_neg hp, end_val h1, end_val h2]
theorem link_nopt {l : Lay} {a ae b be p q : Bs} (h1 : endB ae = true) (h2 : endB be = true) (h3 : posB q = true) (hp : ¬ (place 0 (l.sections.map Sec.name) a < 0 ∨ place 0 (l.sections.map Sec.name) b < 0)) (hpt : place 0 l.points p < 0) :
    declLink l a ae b be [p, q] = (l, 3) := by
  unfold declLink
  unfold posB at h3
  rw [end_neg, end_neg, if_neg (by rw [h1, h2]; simp at h3 ⊢; rcases h3 with h3 | h3 <;> simp [h3]), if_neg hp]
  simp only
  rw [if_pos hpt]
theorem link_pt {l : Lay} {a ae b be p q : Bs} (h1 : endB ae = true) (h2 : endB be = true) (h3 : posB q = true) (hp : ¬ (place 0 (l.sections.map Sec.name) a < 0 ∨ place 0 (l.sections.map Sec.name) b < 0)) (hpt : ¬ place 0 l.points p < 0) :
    declLink l a ae b be [p, q] = ({ l with links := l.links ++ [⟨place 0 (l.sections.map Sec.name) a, endV ae, place 0 (l.sections.map Sec.name) b, endV be, place 0 l.points p, posV q⟩] }, 0) := by
  unfold declLink
  unfold posB at h3
  rw [end_neg, end_neg, if_neg (by rw [h1, h2]; simp at h3 ⊢; rcases h3 with h3 | h3 <;> simp [h3]), if_neg hp]
  simp only
  rw [if_neg hpt, end_val h1, end_val h2]
  rfl
end Go.Proofs.YtnfelcjpjodjhaaGreat.DLnk

namespace Go.Proofs.YtnfelcjpjodjhaaGreat.DLine
open Go.ChangeShapes Go.WideShapes Go.ChangeAt Go.RowKit Wd Small Mem Lay LayT Recs Keep Names PNames PSecs PEnds RNames Num Txt App Dft DSec DLnk
set_option linter.unusedVariables false

theorem decl_station_no (l : Lay) (O : List Bs) (h : O.length ≠ 1) : decl l (kwStation :: O) = (l, 2) := by
  match O with
  | [] => rfl
  | [_] => exact absurd rfl h
  | [_, _] => rfl
  | [_, _, _] => rfl
  | [_, _, _, _] => rfl
  | [_, _, _, _, _] => rfl
  | [_, _, _, _, _, _] => rfl
  | _ :: _ :: _ :: _ :: _ :: _ :: _ :: _ => rfl
theorem decl_point_no (l : Lay) (O : List Bs) (h : O.length ≠ 1) : decl l (kwPoint :: O) = (l, 2) := by
  match O with
  | [] => rfl
  | [_] => exact absurd rfl h
  | [_, _] => rfl
  | [_, _, _] => rfl
  | [_, _, _, _] => rfl
  | [_, _, _, _, _] => rfl
  | [_, _, _, _, _, _] => rfl
  | _ :: _ :: _ :: _ :: _ :: _ :: _ :: _ => rfl
theorem decl_station (l : Lay) (s : Bs) : decl l [kwStation, s] = ({ l with stations := l.stations ++ [s] }, 0) := rfl
theorem decl_point (l : Lay) (s : Bs) : decl l [kwPoint, s] = ({ l with points := l.points ++ [s] }, 0) := rfl
theorem decl_section (l : Lay) (O : List Bs) : decl l (kwSection :: O) = declS l O := by
  match O with
  | [] => rfl
  | [_] => rfl
  | [_, _] => rfl
  | [_, _, _] => rfl
  | [_, _, _, _] => rfl
  | [_, _, _, _, _] => rfl
  | [_, _, _, _, _, _] => rfl
  | _ :: _ :: _ :: _ :: _ :: _ :: _ :: _ => rfl
theorem decl_link2 (l : Lay) (O : List Bs) : decl l (kwLink :: O) = declL l O := by
  match O with
  | [] => rfl
  | [_] => rfl
  | [_, _] => rfl
  | [_, _, _] => rfl
  | [_, _, _, _] => rfl
  | [_, _, _, _, _] => rfl
  | [_, _, _, _, _, _] => rfl
  | _ :: _ :: _ :: _ :: _ :: _ :: _ :: _ => rfl
theorem decl_none (l : Lay) (kw : Bs) (O : List Bs) (h1 : kw ≠ kwStation) (h2 : kw ≠ kwPoint) (h3 : kw ≠ kwSection) (h4 : kw ≠ kwLink) : decl l (kw :: O) = (l, 2) := by
  match O with
  | [] => rfl
  | [_] => simp only [decl]; rw [if_neg h1, if_neg h2]
  | [_, _] => rfl
  | [_, _, _] => rfl
  | [_, _, _, _] => simp only [decl]; rw [if_neg h3, if_neg h4]
  | [_, _, _, _, _] => rfl
  | [_, _, _, _, _, _] => simp only [decl]; rw [if_neg h3, if_neg h4]
  | _ :: _ :: _ :: _ :: _ :: _ :: _ :: _ => rfl
theorem add_next (ad : Addr) (j : Nat) : (⟨ad.block, ad.off + 1, none⟩ : Addr).add j = ad.add (j + 1) := by
  unfold Addr.add
  by_cases hj : j = 0
  · subst hj; simp
  · simp [hj, Nat.add_assoc, Nat.add_comm 1 j]
/-- the operands behind the first word -/
theorem opn_tail {w : World} {g n : Nat} {ad : Addr} {x : Bs} {O : List Bs} (h : Opn w g (some ad) (n + 1) (x :: O)) : Opn w g (some ⟨ad.block, ad.off + 1, none⟩) n O := by
  have hl := h.1.1
  simp only [List.length_cons] at hl
  obtain ⟨ad0, e0, hb, hg⟩ := opn_lt h (by omega)
  cases e0
  refine ⟨⟨by omega, fun j u hu => ⟨_, rfl, hb, ?_⟩⟩, fun a e => by cases e; exact hg⟩
  obtain ⟨ad', e, _, hc⟩ := h.1.2 (j + 1) u (by
    rw [show sR.cs (x :: O) = [.string (str x)] ++ sR.cs O from rfl]
    rw [List.getElem?_append_right (by simp)]
    simpa using hu)
  cases e
  rw [add_next]
  exact hc
theorem opn_none {w : World} {g : Nat} {ad : Addr} {x : Bs} (h : Opn w g (some ad) 1 [x]) : Opn w g (some ad) 0 [] := ⟨Recs.Rd.nil _ _ _, h.2⟩
theorem str_is (s t : Bs) : ((str s).toList == t) = decide (s = t) := by
  rw [Bool.eq_iff_iff]
  simp only [beq_iff_eq, decide_eq_true_eq]
  rw [show (str s).toList = s from by rw [Lib.toList_data]; exact str_toList s]
theorem Opn.below {w w' : World} {g n : Nat} {A : Option Addr} {O : List Bs} (h : Opn w g A n O) (hb : Below w.heap.size w w') : Opn w' g A n O := ⟨h.1.grow hb hb.size, h.2⟩

end Go.Proofs.YtnfelcjpjodjhaaGreat.DLine

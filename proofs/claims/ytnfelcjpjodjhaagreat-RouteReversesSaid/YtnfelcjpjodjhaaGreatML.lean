/-
  The layout of the document's example, as the statements make it; their short look that the program is awake.
  Contract of the statements' short look that the program is awake.
-/
import Derived.Test.YtnfelcjpjodjhaaGreatMJ
import Derived.Test.YtnfelcjpjodjhaaGreatMK
import Derived.Test.YtnfelcjpjodjhaaGreatMD
namespace Go.Proofs.YtnfelcjpjodjhaaGreat.Exr
open Go.ChangeShapes Go.WideShapes Go.ChangeAt Go.RowKit Wd Small Mem Lay LayT Recs Keep Names PNames PSecs PEnds PCheck PStep PHops RNames PPar RPar Rt RtR PTra PCls Awake
set_option linter.unusedVariables false

/-- the example's text -/
def exText : Bs := [115, 116, 97, 116, 105, 111, 110, 32, 78, 111, 114, 116, 104, 10, 112, 111, 105, 110, 116, 32, 87, 10, 115, 101, 99, 116, 105, 111, 110, 32, 84, 32, 52, 48, 32, 51, 51, 48, 48, 48, 32, 48, 10, 115, 101, 99, 116, 105, 111, 110, 32, 78, 49, 32, 50, 48, 32, 50, 48, 48, 48, 48, 32, 48, 32, 97, 116, 32, 78, 111, 114, 116, 104, 10, 115, 101, 99, 116, 105, 111, 110, 32, 78, 50, 32, 50, 48, 32, 50, 48, 48, 48, 48, 32, 48, 32, 97, 116, 32, 78, 111, 114, 116, 104, 10, 108, 105, 110, 107, 32, 84, 32, 66, 32, 78, 49, 32, 65, 32, 87, 32, 48, 10, 108, 105, 110, 107, 32, 84, 32, 66, 32, 78, 50, 32, 65, 32, 87, 32, 49, 10]
/-- the example's layout -/
def exLay : Lay := ⟨[[78, 111, 114, 116, 104]], [[87]], [⟨[84], 40, 33000, 0, -1⟩, ⟨[78, 49], 20, 20000, 0, 0⟩, ⟨[78, 50], 20, 20000, 0, 0⟩], [⟨0, 1, 1, 0, 0, 0⟩, ⟨0, 1, 2, 0, 0, 1⟩]⟩
set_option maxRecDepth 100000 in
theorem ex_parse : parse exText = (exLay, 0, 0) := by decide +kernel

/-- a layout whose rows lie from block B on, behind a write into an earlier block -/
theorem rd_past {α : Type} {R : Rec α} {w : World} {B n b j : Nat} {A : Option Addr} {L : List α} {u : Value} (h : Recs.Rd R w w.heap.size A n L) (hA : ∀ ad, A = some ad → B ≤ ad.block) (hb : b < B) : Recs.Rd R (w.setCell ⟨b, j, none⟩ u) (w.setCell ⟨b, j, none⟩ u).heap.size A n L := by
  refine ⟨h.1, fun i x hx => ?_⟩
  obtain ⟨ad, e, h1, h2⟩ := h.2 i x hx
  refine ⟨ad, e, by simpa [World.setCell] using h1, ?_⟩
  rw [cell_past (by rw [Mem.block_add]; have := hA ad e; omega)]
  exact h2
theorem rdl_past {w : World} {B b j : Nat} {v : LV} {l : Lay} {u : Value} (h : RdL w w.heap.size v l) (hF : Fresh B v) (hb : b < B) : RdL (w.setCell ⟨b, j, none⟩ u) (w.setCell ⟨b, j, none⟩ u).heap.size v l :=
  ⟨rd_past h.st hF.1 hb, rd_past h.pt hF.2.1 hb, rd_past h.sec hF.2.2.1 hb, rd_past h.lnk hF.2.2.2 hb, h.m1, h.m2, h.m3, h.m4, h.sz1, h.sz2, h.sz3⟩
/-- what a call leaves that answers the example's layout -/
def ExPost (w : World) (e : Ending) (w' : World) : Prop := ∃ v, e = .returned (LV.val v) ∧ RdL w' w'.heap.size v exLay ∧ Below w.heap.size w w'

set_option maxRecDepth 100000 in
set_option maxHeartbeats 2000000 in
theorem example_any (w : World) : Calls Tryz.prog 10 #[] w (ExPost w) := by
  obtain ⟨W, hW⟩ : ∃ W, w.alloc (.cells #[.slice none 0 0, .slice none 0 0, .slice none 0 0, .slice none 0 0] 26) = W := ⟨_, rfl⟩
  have hbW : Below w.heap.size w W := by rw [← hW]; exact (Below.refl _ _).alloc (Nat.le_refl _) _
  have hzW : W.heap.size = w.heap.size + 1 := by rw [← hW]; simp
  have hx : W.heap[w.heap.size]? = some (.cells #[.slice none 0 0, .slice none 0 0, .slice none 0 0, .slice none 0 0] 26) := by rw [← hW]; exact heap_alloc_new _ _
  have HP := Lib.hid (r_parse (str exText) W (by rw [size_str]; decide))
  rw [bs_str, ex_parse] at HP
  have HX := Lib.hid hx
  have HB := Lib.hid hbW
  have HZ := Lib.hid hzW
  clear hx hbW hzW
  go_enter Tryz.func10, Tryz.ntmps10
  go_upto_region 1 with fail
  try rw [hW]
  clear hW
  go_wp2_with fail
  refine HP.out.mono ?_
  rintro e w1 ⟨v, rfl, hR, hF, hb1⟩
  have hz1 := hb1.size
  have hzz := HZ.out
  obtain ⟨W2, hW2⟩ : ∃ W2, w1.alloc (.cells #[.slice v.A1 v.n1 v.c1, .slice v.A2 v.n2 v.c2, .slice v.A3 v.n3 v.c3, .slice v.A4 v.n4 v.c4] 26) = W2 := ⟨_, rfl⟩
  have hb2 : Below w1.heap.size w1 W2 := by rw [← hW2]; exact (Below.refl _ _).alloc (Nat.le_refl _) _
  have hx2 := (hb2.block w.heap.size (by omega)).trans ((hb1.block w.heap.size (by omega)).trans HX.out)
  have k0 : W2.cell? ⟨w1.heap.size, 0, none⟩ = some (.slice v.A1 v.n1 v.c1) := by rw [← hW2]; simp
  have k1 : W2.cell? ⟨w1.heap.size, 1, none⟩ = some (.slice v.A2 v.n2 v.c2) := by rw [← hW2]; simp
  have k2 : W2.cell? ⟨w1.heap.size, 2, none⟩ = some (.slice v.A3 v.n3 v.c3) := by rw [← hW2]; simp
  have k3 : W2.cell? ⟨w1.heap.size, 3, none⟩ = some (.slice v.A4 v.n4 v.c4) := by rw [← hW2]; simp
  obtain ⟨c0, c1', c2, c3', hf⟩ := four_cells hx2
  have f0 := hf 0
  have f1 := hf 1
  have f2 := hf 2
  have f3 := hf 3
  have HR2 := Lib.hid (hR.grow hb2 hb2.size)
  have HF := Lib.hid hF
  have HB2 := Lib.hid (HB.out.trans ((hb1.trans (hb2.mono hz1)).mono HB.out.size))
  obtain ⟨A1, n1, c1, A2, n2, c2', A3, n3, c3, A4, n4, c4⟩ := v
  simp only [LV.val] at *
  clear hR hF hb1 hb2 hx2 hf
  go_wp2_with fail
  obtain ⟨e0, e1, e2, e3⟩ := Maker.four_set (v0 := .slice A1 n1 c1) (v1 := .slice A2 n2 c2') (v2 := .slice A3 n3 c3) (v3 := .slice A4 n4 c4) c0 c1' c2 c3'
  refine bodyPost_ret (v := .agg #[.slice A1 n1 c1, .slice A2 n2 c2', .slice A3 n3 c3, .slice A4 n4 c4]) ?_ rfl ?_
  · simp [results, Tryz.results10, go_sem, e0, e1, e2, e3]
  · exact ⟨⟨A1, n1, c1, A2, n2, c2', A3, n3, c3, A4, n4, c4⟩, rfl, rdl_past (rdl_past (rdl_past (rdl_past HR2.out HF.out (by omega)) HF.out (by omega)) HF.out (by omega)) HF.out (by omega), set4_below HB2.out (Nat.le_refl _)⟩
end Go.Proofs.YtnfelcjpjodjhaaGreat.Exr

namespace Go.Proofs.YtnfelcjpjodjhaaGreat.Awk7
open Go.ChangeShapes Go.WideShapes Go.ChangeAt Go.RowKit Wd Small Mem Lay LayT Recs Keep Names PNames PSecs PEnds PCheck PStep PHops RNames PPar RPar Rt RtR PTra PCls Awake Exr
set_option linter.unusedVariables false

/-- a list of records in a new block -/
theorem new_rec {α : Type} {R : Rec α} (w : World) (cs : List Value) (L : List α) (t : TypeId) (n : Nat) (h : R.cs L = cs) (hn : L.length = n) : Recs.Rd R (w.alloc (.cells cs.toArray t)) (w.alloc (.cells cs.toArray t)).heap.size (some ⟨w.heap.size, 0, none⟩) n L := by
  subst h
  refine ⟨hn, fun j u hu => ⟨⟨w.heap.size, 0, none⟩, rfl, by simp, ?_⟩⟩
  have e : (⟨w.heap.size, 0, none⟩ : Addr).add j = ⟨w.heap.size, j, none⟩ := by unfold Addr.add; split <;> simp_all
  rw [e]
  have hb := heap_alloc_new w (.cells (R.cs L).toArray t)
  generalize w.alloc (.cells (R.cs L).toArray t) = W at hb
  simp [World.cell?, hb, hu]
set_option maxRecDepth 100000 in
theorem ex_cells : (rcells exLay ⟨[(0, 0), (1, 0)], 0⟩).2 = (40, 0) := by decide +kernel
set_option maxRecDepth 100000 in
theorem ex_none : rerr exLay ⟨[], 0⟩ = 4 := by decide +kernel

set_option maxRecDepth 100000 in
set_option maxHeartbeats 2000000 in
theorem awake7 (w : World) : Calls Tryz.prog 7 #[] w (Yes w) := by
  go_enter Tryz.func7, Tryz.ntmps7
  go_wp2_with fail
  refine (example_any w).mono ?_
  rintro e w1 ⟨v, rfl, hR, hb1⟩
  obtain ⟨W2, hW2⟩ : ∃ W2, w1.alloc (.cells #[.int .i64 0, .int .i64 0, .int .i64 1, .int .i64 0] 39) = W2 := ⟨_, rfl⟩
  have hb2 : Below w1.heap.size w1 W2 := by rw [← hW2]; exact (Below.refl _ _).alloc (Nat.le_refl _) _
  have hS : Recs.Rd stpR W2 W2.heap.size (some ⟨w1.heap.size, 0, none⟩) 2 [(0, 0), (1, 0)] := by rw [← hW2]; exact new_rec w1 [.int .i64 0, .int .i64 0, .int .i64 1, .int .i64 0] [(0, 0), (1, 0)] 39 2 rfl rfl
  have hC := p_cells v exLay (some ⟨w1.heap.size, 0, none⟩) 2 2 [(0, 0), (1, 0)] 0 W2 (hR.grow hb2 hb2.size) hS (Nat.le_refl _) (by decide) (by decide) (by decide)
  have h40 := congrArg Prod.fst ex_cells
  have h0 := congrArg Prod.snd ex_cells
  generalize rcells exLay ⟨[(0, 0), (1, 0)], 0⟩ = R at hC h40 h0
  unfold ClsPost at hC
  rw [h40, h0] at hC
  have HC := Lib.hid hC
  have HB2 := Lib.hid (hb1.trans (hb2.mono hb1.size))
  obtain ⟨A1, n1, c1, A2, n2, c2, A3, n3, c3, A4, n4, c4⟩ := v
  simp only [LV.val, rteV] at *
  clear hC hS hb2 hb1 hR h40 h0
  go_wp2_with fail
  try rw [hW2]
  clear hW2
  refine HC.out.mono ?_
  rintro e w3 ⟨A, n, c, rfl, hO, hb3⟩
  have HB3 := Lib.hid (HB2.out.trans (hb3.mono HB2.out.size))
  clear hO hb3
  go_wp2_with fail
  refine (example_any w3).mono ?_
  rintro e w4 ⟨v, rfl, hR, hb4⟩
  have HP := Lib.hid (p_rcheck v exLay none 0 0 [] 0 w4 hR (Recs.Rd.nil _ _ _) (Nat.le_refl _) (by decide) (by decide) (by decide))
  rw [ex_none] at HP
  have HB4 := Lib.hid (HB3.out.trans (hb4.mono HB3.out.size))
  obtain ⟨A1, n1, c1, A2, n2, c2, A3, n3, c3, A4, n4, c4⟩ := v
  simp only [LV.val, rteV] at *
  clear hR hb4
  go_wp2_with fail
  refine HP.out.mono ?_
  rintro e w5 ⟨rfl, hb5⟩
  have HB5 := Lib.hid (HB4.out.trans (hb5.mono HB4.out.size))
  clear hb5
  go_wp2_with fail
  go_ret
  exact ⟨rfl, HB5.out⟩
end Go.Proofs.YtnfelcjpjodjhaaGreat.Awk7

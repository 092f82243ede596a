/-
  Contract of the maker of generated layouts: it answers a valid layout.
-/
import Derived.Test.YtkfobijgjdgbgaaDoorRow
namespace Go.Proofs.YtkfobijgjdgbgaaDoor.Maker
open Go.ChangeShapes Go.WideShapes Go.ChangeAt Go.RowKit Wd Small Mem Lay LayT LayG Recs Dec PNames PSecs PEnds RNames Src PHops Bld Bldr St Fan RowA _root_.Go.Proofs.YtkfobijgjdgbgaaDoor.Row
set_option linter.unusedVariables false

/-- what a call leaves that answers a valid layout -/
def GenPost (w : World) (e : Ending) (w' : World) : Prop := ∃ v L, e = .returned (LV.val v) ∧ RdL w' w'.heap.size v L ∧ check L = 0 ∧ Below w.heap.size w w'
theorem name_len {s : Bs} (h : isName s = true) : s.length ≤ 9223372036854775807 := by
  cases s with
  | nil => simp
  | cons b r =>
    unfold isName at h
    simp only [Bool.and_eq_true, decide_eq_true_eq] at h
    simp only [List.length_cons]
    omega
theorem built {w : World} {g top ptop : Nat} {L : Lay} {TL M : List (Option Addr × Nat × Nat)} {TS : List (List Int)} {V : V6} (h : Bd w g top ptop L TL TS V M) (hv : check L = 0) : RdL w w.heap.size ⟨V.A0, V.n0, V.c0, V.A1, V.n1, V.c1, V.A2, V.n2, V.c2, V.A3, V.n3, V.c3⟩ L := by
  have hval := valid_of hv
  have b0 := h.st.1
  have b1 := h.pt.1
  have b2 := h.sec.1
  have b3 := h.lnk.1
  have big : L.stations.length ≤ 24 ∧ L.points.length ≤ 48 ∧ L.sections.length ≤ 96 ∧ L.links.length ≤ 192 := by
    unfold check at hv
    split at hv
    · cases hv
    · omega
  exact ⟨h.st.rd, h.pt.rd, h.sec.rd, h.lnk.rd, by show V.n0 ≤ _; omega, by show V.n1 ≤ _; omega, by show V.n2 ≤ _; omega, by show V.n3 ≤ _; omega, fun s hs => name_len (hval.st s hs), fun s hs => name_len (hval.pt s hs), fun s hs => name_len (hval.sec s hs).1⟩
theorem four_set {w : World} {b : Nat} {u0 u1 u2 u3 v0 v1 v2 v3 : Value} (c0 : w.cell? ⟨b, 0, none⟩ = some u0) (c1 : w.cell? ⟨b, 1, none⟩ = some u1) (c2 : w.cell? ⟨b, 2, none⟩ = some u2) (c3 : w.cell? ⟨b, 3, none⟩ = some u3) :
    let W := (((w.setCell ⟨b, 0, none⟩ v0).setCell ⟨b, 1, none⟩ v1).setCell ⟨b, 2, none⟩ v2).setCell ⟨b, 3, none⟩ v3
    W.cell? ⟨b, 0, none⟩ = some v0 ∧ W.cell? ⟨b, 1, none⟩ = some v1 ∧ W.cell? ⟨b, 2, none⟩ = some v2 ∧ W.cell? ⟨b, 3, none⟩ = some v3 := by
  refine ⟨?_, ?_, ?_, ?_⟩
  · rw [set_other (by omega), set_other (by omega), set_other (by omega)]; exact set_same c0
  · rw [set_other (by omega), set_other (by omega)]; exact set_same ((set_other (by omega)).trans c1)
  · rw [set_other (by omega)]; exact set_same ((set_other (by omega)).trans ((set_other (by omega)).trans c2))
  · exact set_same ((set_other (by omega)).trans ((set_other (by omega)).trans ((set_other (by omega)).trans c3)))
theorem blk7_set {w : World} {g b j : Nat} {u v0 v1 v2 v3 v4 v5 : Value} (h : Blk7 w g v0 v1 v2 v3 v4 v5) (hb : g ≠ b) : Blk7 (w.setCell ⟨b, j, none⟩ u) g v0 v1 v2 v3 v4 v5 := (Below.heap_setCell w ⟨b, j, none⟩ u g (fun e => hb e)).trans h
theorem Bd.setLow {w : World} {g top ptop b j : Nat} {u : Value} {L : Lay} {TL M : List (Option Addr × Nat × Nat)} {TS : List (List Int)} {V : V6} (h : Bd w g top ptop L TL TS V M) (hb : b < g) : Bd (w.setCell ⟨b, j, none⟩ u) g top ptop L TL TS V M :=
  h.grown (row := some b) (grown_set (World.grownBy.refl w _) _) (fun x hx => by injection hx with hx; omega)

set_option maxRecDepth 100000 in
set_option maxHeartbeats 1000000 in
theorem layout_any (A : Option Addr) (l c : Nat) (w : World) (hI : Ints w w.heap.size A l) (hl : l ≤ 9223372036854775807) : Calls Tryd.prog 9 #[.slice A l c] w (GenPost w) := by
  obtain ⟨W, hW⟩ : ∃ W, w.alloc (.cells #[.slice none 0 0, .slice none 0 0, .slice none 0 0, .slice none 0 0] 26) = W := ⟨_, rfl⟩
  have hbW : Below w.heap.size w W := by rw [← hW]; exact (Below.refl _ _).alloc (Nat.le_refl _) _
  have hzW : W.heap.size = w.heap.size + 1 := by rw [← hW]; simp
  have hx : W.heap[w.heap.size]? = some (.cells #[.slice none 0 0, .slice none 0 0, .slice none 0 0, .slice none 0 0] 26) := by rw [← hW]; exact heap_alloc_new _ _
  have hbS : Below W.heap.size W (W.alloc (.cells #[.slice A l c, .int .i64 0] 104)) := (Below.refl _ _).alloc (Nat.le_refl _) _
  have hS : Src (W.alloc (.cells #[.slice A l c, .int .i64 0] 104)) W.heap.size A l c 0 := heap_alloc_new _ _
  have HI := Lib.hid ((hI.below hbW).below (hbS.mono (show w.heap.size ≤ W.heap.size by omega)))
  have HS := Lib.hid hS
  have HX := Lib.hid ((hbS.block w.heap.size (by omega)).trans hx)
  have HB := Lib.hid (hbW.trans (hbS.mono (show w.heap.size ≤ W.heap.size by omega)))
  have HZ := Lib.hid hzW
  clear hI hbW hzW hx hbS hS
  go_enter Tryd.func9, Tryd.ntmps9
  go_upto_region 1 with fail
  try rw [hW]
  clear hW
  go_wp2_with fail
  refine (from_any A l c W).mono ?_
  rintro e wx ⟨rfl, rfl⟩
  go_wp2_with fail
  refine (row_any W.heap.size A l c w.heap.size _ HS.out hl HI.out (by have := HZ.out; omega)).mono ?_
  rintro e wy ⟨g, top, ptop, L, TL, TS, V, M, ts, ms, rfl, bd, num, h23, hms, n1, n2, sk, hg, hz, hb⟩
  have hz0 := HZ.out
  have hv : check L = 0 := row_valid ts ms h23 hms n1 n2 ⟨congrArg Skel.stations sk, congrArg Skel.points sk, congrArg Skel.secs sk, congrArg Skel.links sk, num⟩
  have hg2 : w.heap.size < g := by simp at hg; omega
  have hy : wy.heap[w.heap.size]? = some (.cells #[.slice none 0 0, .slice none 0 0, .slice none 0 0, .slice none 0 0] 26) := (hb.block w.heap.size (by omega)).trans HX.out
  have d0 : wy.cell? ⟨w.heap.size, 0, none⟩ = some (.slice none 0 0) := by simp [World.cell?, hy]
  have d1 : wy.cell? ⟨w.heap.size, 1, none⟩ = some (.slice none 0 0) := by simp [World.cell?, hy]
  have d2 : wy.cell? ⟨w.heap.size, 2, none⟩ = some (.slice none 0 0) := by simp [World.cell?, hy]
  have d3 : wy.cell? ⟨w.heap.size, 3, none⟩ = some (.slice none 0 0) := by simp [World.cell?, hy]
  have f0 : wy.frozen? ⟨w.heap.size, 0, none⟩ = false := by simp [World.frozen?, hy]
  have f1 : wy.frozen? ⟨w.heap.size, 1, none⟩ = false := by simp [World.frozen?, hy]
  have f2 : wy.frozen? ⟨w.heap.size, 2, none⟩ = false := by simp [World.frozen?, hy]
  have f3 : wy.frozen? ⟨w.heap.size, 3, none⟩ = false := by simp [World.frozen?, hy]
  have k0 := bd.blk.c0
  have k1 := bd.blk.c1
  have k2 := bd.blk.c2
  have k3 := bd.blk.c3
  have HBd := Lib.hid bd
  have HV := Lib.hid hv
  have HW := Lib.hid (HB.out.trans (hb.mono (show w.heap.size ≤ W.heap.size by omega)))
  clear bd hv hb hy num sk n1 n2 HS HI HX HB HZ
  go_wp2_with fail
  obtain ⟨e0, e1, e2, e3⟩ := four_set (v0 := .slice V.A0 V.n0 V.c0) (v1 := .slice V.A1 V.n1 V.c1) (v2 := .slice V.A2 V.n2 V.c2) (v3 := .slice V.A3 V.n3 V.c3) d0 d1 d2 d3
  refine bodyPost_ret (v := .agg #[.slice V.A0 V.n0 V.c0, .slice V.A1 V.n1 V.c1, .slice V.A2 V.n2 V.c2, .slice V.A3 V.n3 V.c3]) ?_ rfl ?_
  · simp [results, Tryd.results9, go_sem, e0, e1, e2, e3]
  · exact ⟨⟨V.A0, V.n0, V.c0, V.A1, V.n1, V.c1, V.A2, V.n2, V.c2, V.A3, V.n3, V.c3⟩, L, rfl, built (Bd.setLow (Bd.setLow (Bd.setLow (Bd.setLow HBd.out hg2) hg2) hg2) hg2) HV.out, HV.out, (((HW.out.setCell (Nat.le_refl _) _).setCell (Nat.le_refl _) _).setCell (Nat.le_refl _) _).setCell (Nat.le_refl _) _⟩
end Go.Proofs.YtkfobijgjdgbgaaDoor.Maker

/-
  The walk of the statement that checks the examples of chapter 5.
-/
import Derived.Test.YtepbdcnjhbaehaaPDec
import Derived.Test.YtepbdcnjhbaehaaEncA
import Derived.Test.YtepbdcnjhbaehaaCrcA
import Derived.Test.YtepbdcnjhbaehaaAwake
namespace Go.Proofs.Ytepbdcnjhbaehaa.Exb
open Go.ChangeShapes Go.WideShapes Go.ChangeAt Go.RowKit Wd Small Mem Lay LayT Recs PNames PSecs PEnds Crc CrcP Awake PDec Enc
set_option linter.unusedVariables false

/-- a row of one section that lies in block g -/
theorem sec_at {w : World} {g : Nat} (s : Sec) (h : w.heap[g]? = some (.cells #[.string (str s.name), .int .i64 s.len, .int .i64 s.lim, .int .i64 s.grade, .int .i64 s.st] 66 (0, 0))) : Rd secR w w.heap.size (some ⟨g, 0, none⟩) 1 [s] := by
  have hg : g < w.heap.size := (Array.getElem?_eq_some_iff.1 h).1
  refine ⟨rfl, fun j u hu => ⟨⟨g, 0, none⟩, rfl, hg, ?_⟩⟩
  rw [show secR.cs [s] = secCells s from cs_single s] at hu
  match j, hu with
  | 0, hu => simp [secCells] at hu; subst hu; simp [Addr.add, World.cell?, h]
  | 1, hu => simp [secCells] at hu; subst hu; simp [Addr.add, World.cell?, h]
  | 2, hu => simp [secCells] at hu; subst hu; simp [Addr.add, World.cell?, h]
  | 3, hu => simp [secCells] at hu; subst hu; simp [Addr.add, World.cell?, h]
  | 4, hu => simp [secCells] at hu; subst hu; simp [Addr.add, World.cell?, h]
def OnePost (w : World) (e : Ending) (w' : World) : Prop := ∃ g, e = .returned (one_v g).val ∧ RdL w' w'.heap.size (one_v g) lay1 ∧ Below w.heap.size w w'

set_option maxRecDepth 100000 in
set_option maxHeartbeats 1000000 in
theorem one_any (w : World) : Calls Try.prog 13 #[] w (OnePost w) := by
  obtain ⟨W0, hW0⟩ : ∃ W0, w.alloc (.cells #[.slice none 0 0, .slice none 0 0, .slice none 0 0, .slice none 0 0] 29) = W0 := ⟨_, rfl⟩
  have hz0 : W0.heap.size = w.heap.size + 1 := by rw [← hW0]; simp
  have hb0 : Below w.heap.size w W0 := by rw [← hW0]; exact (Below.refl _ _).alloc (Nat.le_refl _) _
  have hg0 : W0.heap[w.heap.size]? = some (.cells #[.slice none 0 0, .slice none 0 0, .slice none 0 0, .slice none 0 0] 29 (0, 0)) := by rw [← hW0]; exact heap_alloc_new _ _
  obtain ⟨W1, hW1⟩ : ∃ W1, W0.alloc (.cells #[.string ⟨#[88]⟩, .int .i64 2, .int .i64 1000, .int .i64 0, .int .i64 (-1)] 66) = W1 := ⟨_, rfl⟩
  have hs1 : W1.heap[W0.heap.size]? = some (.cells #[.string ⟨#[88]⟩, .int .i64 2, .int .i64 1000, .int .i64 0, .int .i64 (-1)] 66 (0, 0)) := by rw [← hW1]; exact heap_alloc_new _ _
  have hb1 : Below W0.heap.size W0 W1 := by rw [← hW1]; exact (Below.refl _ _).alloc (Nat.le_refl _) _
  have hg1 := (hb1.block w.heap.size (by omega)).trans hg0
  have hbw := hb0.trans (hb1.mono hb0.size)
  obtain ⟨⟨d0, d1, d2, d3⟩, f0, f1, f2, f3⟩ := res_cells hg1
  have hfin := PDec.four_set (v0 := .slice none 0 0) (v1 := .slice none 0 0) (v2 := .slice (some ⟨W0.heap.size, 0, none⟩) 1 1) (v3 := .slice none 0 0) hg1
  obtain ⟨X, hX, e0, e1, e2, e3, hbX, hsX⟩ : ∃ X, (((W1.setCell ⟨w.heap.size, 0, none⟩ (.slice none 0 0)).setCell ⟨w.heap.size, 1, none⟩ (.slice none 0 0)).setCell ⟨w.heap.size, 2, none⟩ (.slice (some ⟨W0.heap.size, 0, none⟩) 1 1)).setCell ⟨w.heap.size, 3, none⟩ (.slice none 0 0) = X ∧ X.cell? ⟨w.heap.size, 0, none⟩ = some (.slice none 0 0) ∧ X.cell? ⟨w.heap.size, 1, none⟩ = some (.slice none 0 0) ∧ X.cell? ⟨w.heap.size, 2, none⟩ = some (.slice (some ⟨W0.heap.size, 0, none⟩) 1 1) ∧ X.cell? ⟨w.heap.size, 3, none⟩ = some (.slice none 0 0) ∧ Below w.heap.size w X ∧ X.heap[W0.heap.size]? = some (.cells #[.string ⟨#[88]⟩, .int .i64 2, .int .i64 1000, .int .i64 0, .int .i64 (-1)] 66 (0, 0)) :=
    ⟨_, rfl, Lib.cell_of_heap hfin 0, Lib.cell_of_heap hfin 1, Lib.cell_of_heap hfin 2, Lib.cell_of_heap hfin 3,
      (((hbw.setCell (p := ⟨w.heap.size, 0, none⟩) (Nat.le_refl _) _).setCell (p := ⟨w.heap.size, 1, none⟩) (Nat.le_refl _) _).setCell (p := ⟨w.heap.size, 2, none⟩) (Nat.le_refl _) _).setCell (p := ⟨w.heap.size, 3, none⟩) (Nat.le_refl _) _,
      by rw [Below.heap_setCell _ _ _ _ (by simp; omega), Below.heap_setCell _ _ _ _ (by simp; omega), Below.heap_setCell _ _ _ _ (by simp; omega), Below.heap_setCell _ _ _ _ (by simp; omega)]; exact hs1⟩
  have HP : Hid (OnePost w (.returned (one_v W0.heap.size).val) X) := ⟨_, rfl, one_rd (s := ⟨[88], 2, 1000, 0, -1⟩) (sec_at ⟨[88], 2, 1000, 0, -1⟩ hsX) (by decide), hbX⟩
  have HW0 := Lib.hid hW0
  have HW1 := Lib.hid hW1
  have HX := Lib.hid hX
  clear hW0 hW1 hX hfin hg0 hb0 hs1 hb1 hg1 hbw hbX hsX hz0
  go_enter Try.func13, Try.ntmps13
  go_upto_region 1 with fail
  rw [HW0.out]
  have hW1 := HW1.out
  go_wp2_with fail
  try rw [hW1]
  try rw [HX.out]
  refine bodyPost_ret (v := (one_v W0.heap.size).val) (by simp [results, Try.results13, go_sem, e0, e1, e2, e3, one_v, LV.val]) rfl HP.out

theorem crc_9 : crc [49, 50, 51, 52, 53, 54, 55, 56, 57] = 3421780262 := by decide +kernel
set_option maxRecDepth 100000 in
theorem enc_1 : (Bin.enc lay1).take 17 = [82, 80, 76, 49, 0, 0, 1, 0, 1, 88, 2, 0, 232, 3, 0, 40, 0] ∧ (Bin.enc lay1).length = 21 := by decide +kernel
set_option maxRecDepth 100000 in
set_option maxHeartbeats 1000000 in
theorem examples (w : World) : Calls Try.prog 3 #[] w (Yes w) := by
  have HS : Hid (∀ wx, Calls Try.prog 14 #[.string ⟨#[49, 50, 51, 52, 53, 54, 55, 56, 57]⟩] wx fun e w' => e = .returned (.int .u32 3421780262) ∧ wx = w') := fun wx => by
    have h := sum_any ⟨#[49, 50, 51, 52, 53, 54, 55, 56, 57]⟩ wx (by decide)
    rw [show crc (bs ⟨#[49, 50, 51, 52, 53, 54, 55, 56, 57]⟩) = 3421780262 from crc_9] at h
    exact h
  obtain ⟨t, ht⟩ : ∃ t, str (Bin.enc lay1) = t := ⟨_, rfl⟩
  have hsz : t.size = 21 := by rw [← ht, size_str]; exact enc_1.2
  have hsz' : ((t.size : Int) == 21) = true := by simp [hsz]
  have h17 : (17 : Int) ≤ (t.size : Int) := by omega
  obtain ⟨Y, hY⟩ : ∃ Y, t.extract 0 17 = Y := ⟨_, rfl⟩
  have hYs : Y = str [82, 80, 76, 49, 0, 0, 1, 0, 1, 88, 2, 0, 232, 3, 0, 40, 0] := by rw [← hY, ← ht, ← enc_1.1]; exact _root_.Go.Proofs.Ytepbdcnjhbaehaa.Cur.extract_str (str (Bin.enc lay1)) 0 17
  have htl : (Y.toList == [82, 80, 76, 49, 0, 0, 1, 0, 1, 88, 2, 0, 232, 3, 0, 40, 0]) = true := by
    rw [hYs, show (str [82, 80, 76, 49, 0, 0, 1, 0, 1, 88, 2, 0, 232, 3, 0, 40, 0]).toList = [82, 80, 76, 49, 0, 0, 1, 0, 1, 88, 2, 0, 232, 3, 0, 40, 0] from by rw [Lib.toList_data]; simp [str]]
    rfl
  have HE : Hid (∀ (g : Nat) (wx : World), RdL wx wx.heap.size (one_v g) lay1 → Calls Try.prog 12 #[(one_v g).val] wx fun e w' => e = .returned (.tuple #[.string t, .int .i64 0]) ∧ Below wx.heap.size wx w') := fun g wx h =>
    (p_encode _ lay1 wx h).mono fun e w' h => by unfold EncPost encT encE at h; rwa [if_pos lay1_ok, if_pos lay1_ok, ht] at h
  clear ht hYs hsz
  go_enter Try.func3, Try.ntmps3
  go_wp2_with fail
  refine (one_any w).mono ?_
  rintro e w1 ⟨g, rfl, hR, hb1⟩
  have HE1 := Lib.hid (HE.out g w1 hR)
  have HB1 := Lib.hid hb1
  simp only [one_v, LV.val] at HE1 ⊢
  clear hR hb1 HE
  go_wp2_with fail
  refine HE1.out.mono ?_
  rintro e w2 ⟨rfl, hb2⟩
  have HB2 := Lib.hid (HB1.out.trans (hb2.mono HB1.out.size))
  clear hb2 HB1 HE1
  go_wp2_with (first | (go_at_call 14; refine (HS.out _).mono ?_; rintro e w' ⟨rfl, rfl⟩) | fail)
  go_ret
  exact ⟨by simp, HB2.out⟩
end Go.Proofs.Ytepbdcnjhbaehaa.Exb

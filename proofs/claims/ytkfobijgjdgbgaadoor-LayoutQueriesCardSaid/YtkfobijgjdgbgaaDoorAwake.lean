/-
  Contract of the statements' short look that the program is awake.
-/
import Derived.Test.YtkfobijgjdgbgaaDoorPStep
import Derived.Test.YtkfobijgjdgbgaaDoorLayG
namespace Go.Proofs.YtkfobijgjdgbgaaDoor.Awake
open Go.ChangeShapes Go.WideShapes Go.ChangeAt Go.RowKit Wd Small Mem Lay LayT LayG Recs Keep Names PNames PSecs PCheck PStep
set_option linter.unusedVariables false

/-- what a call leaves that answers yes -/
def Yes (w : World) (e : Ending) (w' : World) : Prop := e = .returned (.bool true) ∧ Below w.heap.size w w'
def lay1 : Lay := ⟨[], [], [⟨[88], 2, 1000, 0, -1⟩], []⟩
theorem lay1_ok : check lay1 = 0 := by decide
theorem zero_err : check zero = 1 := by decide
theorem lay1_has : hasB lay1 (0, 0) = true := by decide
/-- an empty layout -/
def nilL : LV := ⟨none, 0, 0, none, 0, 0, none, 0, 0, none, 0, 0⟩
theorem nil_rd (w : World) (B : Nat) : RdL w B nilL zero := ⟨Rd.nil _ _ _, Rd.nil _ _ _, Rd.nil _ _ _, Rd.nil _ _ _, by decide, by decide, by decide, by decide, nofun, nofun, nofun⟩
/-- a row of one section, in a new block -/
theorem one_sec (w : World) (s : Sec) : Rd secR (w.alloc (.cells #[.string (str s.name), .int .i64 s.len, .int .i64 s.lim, .int .i64 s.grade, .int .i64 s.st] 45)) (w.heap.size + 1) (some ⟨w.heap.size, 0, none⟩) 1 [s] := by
  refine ⟨rfl, fun j u hu => ⟨⟨w.heap.size, 0, none⟩, rfl, by show w.heap.size < w.heap.size + 1; omega, ?_⟩⟩
  rw [show secR.cs [s] = secCells s from cs_single s] at hu
  match j, hu with
  | 0, hu => simp [secCells] at hu; subst hu; simp [Addr.add]
  | 1, hu => simp [secCells] at hu; subst hu; simp [Addr.add]
  | 2, hu => simp [secCells] at hu; subst hu; simp [Addr.add]
  | 3, hu => simp [secCells] at hu; subst hu; simp [Addr.add]
  | 4, hu => simp [secCells] at hu; subst hu; simp [Addr.add]
def one_v (g : Nat) : LV := ⟨none, 0, 0, none, 0, 0, some ⟨g, 0, none⟩, 1, 1, none, 0, 0⟩
theorem one_rd {w : World} {g B : Nat} {s : Sec} (h : Rd secR w B (some ⟨g, 0, none⟩) 1 [s]) (hs : s.name.length ≤ 9223372036854775807) : RdL w B (one_v g) ⟨[], [], [s], []⟩ :=
  ⟨Rd.nil _ _ _, Rd.nil _ _ _, h, Rd.nil _ _ _, by show (0 : Nat) ≤ _; decide, by show (0 : Nat) ≤ _; decide, by show (1 : Nat) ≤ _; decide, by show (0 : Nat) ≤ _; decide, nofun, nofun, fun t ht => by simp at ht; subst ht; exact hs⟩

set_option maxRecDepth 100000 in
set_option maxHeartbeats 1000000 in
theorem awake_any (w : World) : Calls Tryd.prog 7 #[] w (Yes w) := by
  have h1 : Rd secR (w.alloc (.cells #[.string ⟨#[88]⟩, .int .i64 2, .int .i64 1000, .int .i64 0, .int .i64 (-1)] 45)) (w.heap.size + 1) (some ⟨w.heap.size, 0, none⟩) 1 [⟨[88], 2, 1000, 0, -1⟩] := one_sec w ⟨[88], 2, 1000, 0, -1⟩
  have hb : Below (w.heap.size + 1) (w.alloc (.cells #[.string ⟨#[88]⟩, .int .i64 2, .int .i64 1000, .int .i64 0, .int .i64 (-1)] 45)) ((w.alloc (.cells #[.string ⟨#[88]⟩, .int .i64 2, .int .i64 1000, .int .i64 0, .int .i64 (-1)] 45)).alloc (.cells #[.slice none 0 0, .slice none 0 0, .slice (some ⟨w.heap.size, 0, none⟩) 1 1, .slice none 0 0] 26)) := (Below.refl _ _).alloc (by simp) _
  have h2 := h1.below hb
  have HB : Hid (Below w.heap.size w ((w.alloc (.cells #[.string ⟨#[88]⟩, .int .i64 2, .int .i64 1000, .int .i64 0, .int .i64 (-1)] 45)).alloc (.cells #[.slice none 0 0, .slice none 0 0, .slice (some ⟨w.heap.size, 0, none⟩) 1 1, .slice none 0 0] 26))) := ((Below.refl _ _).alloc (Nat.le_refl _) _).alloc (by simp) _
  have hz : w.heap.size + 1 < ((w.alloc (.cells #[.string ⟨#[88]⟩, .int .i64 2, .int .i64 1000, .int .i64 0, .int .i64 (-1)] 45)).alloc (.cells #[.slice none 0 0, .slice none 0 0, .slice (some ⟨w.heap.size, 0, none⟩) 1 1, .slice none 0 0] 26)).heap.size := by simp
  have HC : Hid (((w.alloc (.cells #[.string ⟨#[88]⟩, .int .i64 2, .int .i64 1000, .int .i64 0, .int .i64 (-1)] 45)).alloc (.cells #[.slice none 0 0, .slice none 0 0, .slice (some ⟨w.heap.size, 0, none⟩) 1 1, .slice none 0 0] 26)).cell? ⟨w.heap.size + 1, 0, none⟩ = some (.slice none 0 0) ∧ ((w.alloc (.cells #[.string ⟨#[88]⟩, .int .i64 2, .int .i64 1000, .int .i64 0, .int .i64 (-1)] 45)).alloc (.cells #[.slice none 0 0, .slice none 0 0, .slice (some ⟨w.heap.size, 0, none⟩) 1 1, .slice none 0 0] 26)).cell? ⟨w.heap.size + 1, 1, none⟩ = some (.slice none 0 0) ∧ ((w.alloc (.cells #[.string ⟨#[88]⟩, .int .i64 2, .int .i64 1000, .int .i64 0, .int .i64 (-1)] 45)).alloc (.cells #[.slice none 0 0, .slice none 0 0, .slice (some ⟨w.heap.size, 0, none⟩) 1 1, .slice none 0 0] 26)).cell? ⟨w.heap.size + 1, 2, none⟩ = some (.slice (some ⟨w.heap.size, 0, none⟩) 1 1) ∧ ((w.alloc (.cells #[.string ⟨#[88]⟩, .int .i64 2, .int .i64 1000, .int .i64 0, .int .i64 (-1)] 45)).alloc (.cells #[.slice none 0 0, .slice none 0 0, .slice (some ⟨w.heap.size, 0, none⟩) 1 1, .slice none 0 0] 26)).cell? ⟨w.heap.size + 1, 3, none⟩ = some (.slice none 0 0)) := by simp [Hid]
  clear h1 hb
  go_enter Tryd.func7, Tryd.ntmps7
  go_upto_region 2 with fail
  generalize ((w.alloc (.cells #[.string ⟨#[88]⟩, .int .i64 2, .int .i64 1000, .int .i64 0, .int .i64 (-1)] 45)).alloc (.cells #[.slice none 0 0, .slice none 0 0, .slice (some ⟨w.heap.size, 0, none⟩) 1 1, .slice none 0 0] 26)) = W at *
  have HRW : Hid (∀ wx, Below W.heap.size W wx → RdL wx wx.heap.size (one_v w.heap.size) lay1) := fun wx hx => ((one_rd h2 (by decide)).more (show w.heap.size + 1 ≤ W.heap.size by omega)).grow hx hx.size
  have HK : Hid (∀ wx, Below W.heap.size W wx → wx.cell? ⟨w.heap.size + 1, 0, none⟩ = some (.slice none 0 0) ∧ wx.cell? ⟨w.heap.size + 1, 1, none⟩ = some (.slice none 0 0) ∧ wx.cell? ⟨w.heap.size + 1, 2, none⟩ = some (.slice (some ⟨w.heap.size, 0, none⟩) 1 1) ∧ wx.cell? ⟨w.heap.size + 1, 3, none⟩ = some (.slice none 0 0)) := fun wx hx => box_kept (v := one_v w.heap.size) hx hz HC.out
  clear h2
  have HP1 := Lib.hid (p_check (one_v w.heap.size) lay1 W (HRW.out W (Below.refl _ _)))
  rw [lay1_ok] at HP1
  have HP2 : Hid (∀ wx, Calls Tryd.prog 10 #[nilL.val] wx (ErrPost 1 wx)) := fun wx => by
    have := p_check nilL zero wx (nil_rd wx _)
    rw [zero_err] at this
    exact this
  have HP3 : Hid (∀ wx, Below W.heap.size W wx → Calls Tryd.prog 16 #[(one_v w.heap.size).val, .agg #[.int .i64 0, .int .i64 0]] wx (BoolPost true wx)) := fun wx hx => by
    have := p_has (one_v w.heap.size) lay1 (0, 0) wx (HRW.out wx hx)
    rw [lay1_has] at this
    exact this
  simp only [one_v, nilL, LV.val] at HP1 HP2 HP3
  obtain ⟨c0, c1, c2, c3⟩ := HK.out W (Below.refl _ _)
  go_wp2_with fail
  refine HP1.out.mono ?_
  rintro e w1 ⟨rfl, hb1⟩
  have hz1 := hb1.size
  clear c0 c1 c2 c3
  obtain ⟨c0, c1, c2, c3⟩ := HK.out w1 hb1
  go_wp2_with fail
  refine (HP2.out w1).mono ?_
  rintro e w2 ⟨rfl, hb2⟩
  have hb2w := hb1.trans (hb2.mono hz1)
  have hz2 := hb2w.size
  clear c0 c1 c2 c3
  obtain ⟨c0, c1, c2, c3⟩ := HK.out w2 hb2w
  go_wp2_with fail
  refine (HP3.out w2 hb2w).mono ?_
  rintro e w3 ⟨rfl, hb3⟩
  clear c0 c1 c2 c3
  go_wp2_with fail
  go_ret
  exact ⟨rfl, HB.out.trans ((hb2w.trans (hb3.mono hz2)).mono (by omega))⟩
end Go.Proofs.YtkfobijgjdgbgaaDoor.Awake

/-
  Contract of the statements' short look that the program is awake.
-/
import Derived.Test.YtepbdcnjhbaehaaPStep
import Derived.Test.YtepbdcnjhbaehaaLayG
namespace Go.Proofs.Ytepbdcnjhbaehaa.Awake
open Go.ChangeShapes Go.WideShapes Go.ChangeAt Go.RowKit Wd Small Mem Lay LayT LayG Recs Keep Names PNames PSecs PCheck PStep
set_option linter.unusedVariables false

/-- what a call leaves that answers yes -/
def Yes (w : World) (e : Ending) (w' : World) : Prop := e = .returned (.bool true) ∧ Below w.heap.size w w'
def lay1 : Lay := ⟨[], [], [⟨[88], 2, 1000, 0, -1⟩], []⟩
theorem lay1_ok : check lay1 = 0 := by decide
theorem zero_err : check zero = 1 := by decide
theorem lay1_has : hasB lay1 (0, 0) = true := by decide
/-- an empty layout -/
def nilL : LV := ⟨none, 0, 0, none, 0, 0, none, 0, 0, none, 0, 0⟩
theorem nil_rd (w : World) (B : Nat) : RdL w B nilL zero := ⟨Rd.nil _ _ _, Rd.nil _ _ _, Rd.nil _ _ _, Rd.nil _ _ _, by decide, by decide, by decide, by decide, nofun, nofun, nofun⟩
/-- a row of one section, in a new block -/
theorem one_sec (w : World) (s : Sec) : Rd secR (w.alloc (.cells #[.string (str s.name), .int .i64 s.len, .int .i64 s.lim, .int .i64 s.grade, .int .i64 s.st] 66)) (w.heap.size + 1) (some ⟨w.heap.size, 0, none⟩) 1 [s] := by
  refine ⟨rfl, fun j u hu => ⟨⟨w.heap.size, 0, none⟩, rfl, by show w.heap.size < w.heap.size + 1; omega, ?_⟩⟩
  rw [show secR.cs [s] = secCells s from cs_single s] at hu
  match j, hu with
  | 0, hu => simp [secCells] at hu; subst hu; simp [Addr.add]
  | 1, hu => simp [secCells] at hu; subst hu; simp [Addr.add]
  | 2, hu => simp [secCells] at hu; subst hu; simp [Addr.add]
  | 3, hu => simp [secCells] at hu; subst hu; simp [Addr.add]
  | 4, hu => simp [secCells] at hu; subst hu; simp [Addr.add]
def one_v (g : Nat) : LV := ⟨none, 0, 0, none, 0, 0, some ⟨g, 0, none⟩, 1, 1, none, 0, 0⟩
theorem one_rd {w : World} {g B : Nat} {s : Sec} (h : Rd secR w B (some ⟨g, 0, none⟩) 1 [s]) (hs : s.name.length ≤ 9223372036854775807) : RdL w B (one_v g) ⟨[], [], [s], []⟩ :=
  ⟨Rd.nil _ _ _, Rd.nil _ _ _, h, Rd.nil _ _ _, by show (0 : Nat) ≤ _; decide, by show (0 : Nat) ≤ _; decide, by show (1 : Nat) ≤ _; decide, by show (0 : Nat) ≤ _; decide, nofun, nofun, fun t ht => by simp at ht; subst ht; exact hs⟩

end Go.Proofs.Ytepbdcnjhbaehaa.Awake

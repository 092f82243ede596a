/-
  Contracts of the program's functions on steps, and of the number of resources.
-/
import Derived.Test.YtepbdcnjhbaehaaPCheck
namespace Go.Proofs.Ytepbdcnjhbaehaa.PStep
open Go.ChangeShapes Go.WideShapes Go.ChangeAt Go.RowKit Wd Small Mem Lay LayT Recs Keep Names PNames PSecs PLinks PEnds PTab PLnk PCheck
set_option linter.unusedVariables false

/-- what a call leaves that answers a pair of numbers and has changed no old memory -/
def PairPost (p : Int × Int) (w : World) (e : Ending) (w' : World) : Prop := e = .returned (.agg #[.int .i64 p.1, .int .i64 p.2]) ∧ Below w.heap.size w w'
/-- the step into the section of an end, as the program answers it -/
def pinto (x y : Int) : Int × Int := if (y == 0) = true then (x, 0) else (x, 1)
def pout (x y : Int) : Int × Int := if (y == 0) = true then (x, 1) else (x, 0)

/-- is it a step of a layout of n sections -/
def stepOK (n : Nat) (s : Lay.Step) : Bool := nof s.1 n && ((s.2 == 0) || (s.2 == 1))
def hasB (l : Lay) (s : Lay.Step) : Bool := stepOK l.sections.length s && (check l == 0)

/-- how many resources a layout has -/
def resources (l : Lay) : Int := if (check l != 0) = true then 0 else (l.sections.length : Int) + l.points.length
end Go.Proofs.Ytepbdcnjhbaehaa.PStep

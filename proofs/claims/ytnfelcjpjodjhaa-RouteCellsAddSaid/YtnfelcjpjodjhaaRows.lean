/-
  No cell of these rows narrows 'for every input' (looked for: loops, veiled, ifaces, maps, wideKeys, modest, calm, conditions, laid).
  DERIVED. THE GIVEN ROWS OF THIS SEAT. 8 by the template 'for every input the law returns true; each argument reads behind the call as it read before'; 0 by the template 'total and deterministic' (their statements: YtnfelcjpjodjhaaTotals.lean).
  GIVEN WITH THE SEED: the statements are not yours to turn. If you find one false, say at which input.
  Laid BY PROGRAM, IN A SANDBOX (cutbox-rows.mjs): the forced cells as the released guide's own fill.sh prints them over the translation 8b13d9bbedba0cfe… (all of the seat's roots in one cut). By AI agents, Wed Nov 11 2026. No macro, syntax, notation, axiom, sorry.
-/
import Derived.Test.YtnfelcjpjodjhaaChecked
import GoSem.Claim
import GoSem.ClaimJoined
import GoSem.ClaimMapViews
import Derived.JoinedTies
import Derived.KernelRfl
namespace Go.Proofs.Ytnfelcjpjodjhaa
/- THE CELL 'sum', in the pinned program and in every row, IS THE sha256 OF THE DUMP (.gsa) THAT YtnfelcjpjodjhaaProg.lean LOADS. Nothing in Lean hashes anything: it is a label: what it is worth is what the hold of that sum in a sandbox is worth. -/
noncomputable def Try.pinned : Pinned := { name := "ytnfelcjpjodjhaa", sum := "8b13d9bbedba0cfe5d82b46662c9708f896d45385a92196859a77ba749423237", checked := Try.checked }
namespace Rows
def none {H : Type} : Left H := { results := [], args := [] }

/-- 'railplanlaw7.RouteExamples': WHATEVER THE INPUT: true; the input reads as it did. -/
def routeExamplesSpec : ChangeSpec := { name := "routeExamples", fn := fun _ => fun
  | [] => { results := [.lit (.bool true)], args := [] }
  | _ => none }
def routeExamplesRow : OpenClaim := { program := "ytnfelcjpjodjhaa", sum := "8b13d9bbedba0cfe5d82b46662c9708f896d45385a92196859a77ba749423237", func := "railplan/railplanlaw7.RouteExamples", spec := "routeExamples", unfollowed := true, recurses := true, plainKeys := false, apart := false }
def RouteExamplesSaid : Prop := routeExamplesRow.holds Try.pinned (OpenSpec.ofChange routeExamplesSpec)

/-- ITS FALSE NEIGHBOUR: 'it returns false'. Refute it at one input. -/
def routeExamplesWrong : ChangeSpec := { name := "routeExamples", fn := fun _ => fun
  | [] => { results := [.lit (.bool false)], args := [] }
  | _ => none }
def RouteExamplesWrongFalsely : Prop := routeExamplesRow.holds Try.pinned (OpenSpec.ofChange routeExamplesWrong)

/-- 'railplanlaw7.RouteLimits': WHATEVER THE INPUT: true; the input reads as it did. -/
def routeLimitsSpec : ChangeSpec := { name := "routeLimits", fn := fun _ => fun
  | [d1, d2, d3] => { results := [.lit (.bool true)], args := [d1, d2, d3] }
  | _ => none }
def routeLimitsRow : OpenClaim := { program := "ytnfelcjpjodjhaa", sum := "8b13d9bbedba0cfe5d82b46662c9708f896d45385a92196859a77ba749423237", func := "railplan/railplanlaw7.RouteLimits", spec := "routeLimits", unfollowed := true, recurses := true, plainKeys := false, apart := false }
def RouteLimitsSaid : Prop := routeLimitsRow.holds Try.pinned (OpenSpec.ofChange routeLimitsSpec)

/-- ITS FALSE NEIGHBOUR: 'it returns false'. Refute it at one input. -/
def routeLimitsWrong : ChangeSpec := { name := "routeLimits", fn := fun _ => fun
  | [d1, d2, d3] => { results := [.lit (.bool false)], args := [d1, d2, d3] }
  | _ => none }
def RouteLimitsWrongFalsely : Prop := routeLimitsRow.holds Try.pinned (OpenSpec.ofChange routeLimitsWrong)

/-- 'railplanlaw7.RouteCellsAdd': WHATEVER THE INPUT: true; the input reads as it did. -/
def routeCellsAddSpec : ChangeSpec := { name := "routeCellsAdd", fn := fun _ => fun
  | [d1, d2] => { results := [.lit (.bool true)], args := [d1, d2] }
  | _ => none }
def routeCellsAddRow : OpenClaim := { program := "ytnfelcjpjodjhaa", sum := "8b13d9bbedba0cfe5d82b46662c9708f896d45385a92196859a77ba749423237", func := "railplan/railplanlaw7.RouteCellsAdd", spec := "routeCellsAdd", unfollowed := true, recurses := true, plainKeys := false, apart := false }
def RouteCellsAddSaid : Prop := routeCellsAddRow.holds Try.pinned (OpenSpec.ofChange routeCellsAddSpec)

/-- ITS FALSE NEIGHBOUR: 'it returns false'. Refute it at one input. -/
def routeCellsAddWrong : ChangeSpec := { name := "routeCellsAdd", fn := fun _ => fun
  | [d1, d2] => { results := [.lit (.bool false)], args := [d1, d2] }
  | _ => none }
def RouteCellsAddWrongFalsely : Prop := routeCellsAddRow.holds Try.pinned (OpenSpec.ofChange routeCellsAddWrong)

/-- 'railplanlaw7.RouteFinds': WHATEVER THE INPUT: true; the input reads as it did. -/
def routeFindsSpec : ChangeSpec := { name := "routeFinds", fn := fun _ => fun
  | [d1, d2, d3, d4, d5] => { results := [.lit (.bool true)], args := [d1, d2, d3, d4, d5] }
  | _ => none }
def routeFindsRow : OpenClaim := { program := "ytnfelcjpjodjhaa", sum := "8b13d9bbedba0cfe5d82b46662c9708f896d45385a92196859a77ba749423237", func := "railplan/railplanlaw7.RouteFinds", spec := "routeFinds", unfollowed := true, recurses := true, plainKeys := false, apart := false }
def RouteFindsSaid : Prop := routeFindsRow.holds Try.pinned (OpenSpec.ofChange routeFindsSpec)

/-- ITS FALSE NEIGHBOUR: 'it returns false'. Refute it at one input. -/
def routeFindsWrong : ChangeSpec := { name := "routeFinds", fn := fun _ => fun
  | [d1, d2, d3, d4, d5] => { results := [.lit (.bool false)], args := [d1, d2, d3, d4, d5] }
  | _ => none }
def RouteFindsWrongFalsely : Prop := routeFindsRow.holds Try.pinned (OpenSpec.ofChange routeFindsWrong)

/-- 'railplanlaw7.RouteFoundAreValid': WHATEVER THE INPUT: true; the input reads as it did. -/
def routeFoundAreValidSpec : ChangeSpec := { name := "routeFoundAreValid", fn := fun _ => fun
  | [d1, d2, d3] => { results := [.lit (.bool true)], args := [d1, d2, d3] }
  | _ => none }
def routeFoundAreValidRow : OpenClaim := { program := "ytnfelcjpjodjhaa", sum := "8b13d9bbedba0cfe5d82b46662c9708f896d45385a92196859a77ba749423237", func := "railplan/railplanlaw7.RouteFoundAreValid", spec := "routeFoundAreValid", unfollowed := true, recurses := true, plainKeys := false, apart := false }
def RouteFoundAreValidSaid : Prop := routeFoundAreValidRow.holds Try.pinned (OpenSpec.ofChange routeFoundAreValidSpec)

/-- ITS FALSE NEIGHBOUR: 'it returns false'. Refute it at one input. -/
def routeFoundAreValidWrong : ChangeSpec := { name := "routeFoundAreValid", fn := fun _ => fun
  | [d1, d2, d3] => { results := [.lit (.bool false)], args := [d1, d2, d3] }
  | _ => none }
def RouteFoundAreValidWrongFalsely : Prop := routeFoundAreValidRow.holds Try.pinned (OpenSpec.ofChange routeFoundAreValidWrong)

/-- 'railplanlaw7.RouteFindIsComplete': WHATEVER THE INPUT: true; the input reads as it did. -/
def routeFindIsCompleteSpec : ChangeSpec := { name := "routeFindIsComplete", fn := fun _ => fun
  | [d1, d2] => { results := [.lit (.bool true)], args := [d1, d2] }
  | _ => none }
def routeFindIsCompleteRow : OpenClaim := { program := "ytnfelcjpjodjhaa", sum := "8b13d9bbedba0cfe5d82b46662c9708f896d45385a92196859a77ba749423237", func := "railplan/railplanlaw7.RouteFindIsComplete", spec := "routeFindIsComplete", unfollowed := true, recurses := true, plainKeys := false, apart := false }
def RouteFindIsCompleteSaid : Prop := routeFindIsCompleteRow.holds Try.pinned (OpenSpec.ofChange routeFindIsCompleteSpec)

/-- ITS FALSE NEIGHBOUR: 'it returns false'. Refute it at one input. -/
def routeFindIsCompleteWrong : ChangeSpec := { name := "routeFindIsComplete", fn := fun _ => fun
  | [d1, d2] => { results := [.lit (.bool false)], args := [d1, d2] }
  | _ => none }
def RouteFindIsCompleteWrongFalsely : Prop := routeFindIsCompleteRow.holds Try.pinned (OpenSpec.ofChange routeFindIsCompleteWrong)

/-- 'railplanlaw7.RouteBudget': WHATEVER THE INPUT: true; the input reads as it did. -/
def routeBudgetSpec : ChangeSpec := { name := "routeBudget", fn := fun _ => fun
  | [d1, d2, d3] => { results := [.lit (.bool true)], args := [d1, d2, d3] }
  | _ => none }
def routeBudgetRow : OpenClaim := { program := "ytnfelcjpjodjhaa", sum := "8b13d9bbedba0cfe5d82b46662c9708f896d45385a92196859a77ba749423237", func := "railplan/railplanlaw7.RouteBudget", spec := "routeBudget", unfollowed := true, recurses := true, plainKeys := false, apart := false }
def RouteBudgetSaid : Prop := routeBudgetRow.holds Try.pinned (OpenSpec.ofChange routeBudgetSpec)

/-- ITS FALSE NEIGHBOUR: 'it returns false'. Refute it at one input. -/
def routeBudgetWrong : ChangeSpec := { name := "routeBudget", fn := fun _ => fun
  | [d1, d2, d3] => { results := [.lit (.bool false)], args := [d1, d2, d3] }
  | _ => none }
def RouteBudgetWrongFalsely : Prop := routeBudgetRow.holds Try.pinned (OpenSpec.ofChange routeBudgetWrong)

/-- 'railplanlaw5.LayoutbinEncodes': WHATEVER THE INPUT: true; the input reads as it did. -/
def layoutbinEncodesSpec : ChangeSpec := { name := "layoutbinEncodes", fn := fun _ => fun
  | [d1, d2, d3, d4, d5] => { results := [.lit (.bool true)], args := [d1, d2, d3, d4, d5] }
  | _ => none }
def layoutbinEncodesRow : OpenClaim := { program := "ytnfelcjpjodjhaa", sum := "8b13d9bbedba0cfe5d82b46662c9708f896d45385a92196859a77ba749423237", func := "railplan/railplanlaw5.LayoutbinEncodes", spec := "layoutbinEncodes", inPlace := ["internal/abi.NoEscape"], unfollowed := true, recurses := true, plainKeys := false, apart := false }
def LayoutbinEncodesSaid : Prop := layoutbinEncodesRow.holds Try.pinned (OpenSpec.ofChange layoutbinEncodesSpec)

/-- ITS FALSE NEIGHBOUR: 'it returns false'. Refute it at one input. -/
def layoutbinEncodesWrong : ChangeSpec := { name := "layoutbinEncodes", fn := fun _ => fun
  | [d1, d2, d3, d4, d5] => { results := [.lit (.bool false)], args := [d1, d2, d3, d4, d5] }
  | _ => none }
def LayoutbinEncodesWrongFalsely : Prop := layoutbinEncodesRow.holds Try.pinned (OpenSpec.ofChange layoutbinEncodesWrong)

/- THE SECOND FORM. 'bulk': how many values and letters a reading holds, each counted each time it is reached (what is shared counts as often as it is met; a slice's spare places count too). A statement '..UptoSaid' is the law's where the arguments, and the package variables that the reading takes, are together of bulk at most 1048576: NARROWER than '..Said'. Prove '..Said' where nothing that the law and all that it calls make is longer than what came in: it says more and counts as full. Else prove '..UptoSaid'. A law counts once. -/
mutual
def uptoBulk {H : Type} : DataW H → Nat
  | .lit (.string bytes) => bytes.length + 1
  | .lit _ => 1
  | .nil => 1
  | .ptr d => uptoBulk d + 1
  | .slice elems spare => uptoBulkAll elems + uptoBulkAll spare + 1
  | .agg parts => uptoBulkAll parts + 1
  | .iface _ d => uptoBulk d + 1
  | .map entries => uptoBulkEntries entries + 1
  | .held _ => 1
def uptoBulkAll {H : Type} : List (DataW H) → Nat
  | [] => 0
  | d :: r => uptoBulk d + uptoBulkAll r
def uptoBulkEntries {H : Type} : List (Lit × DataW H) → Nat
  | [] => 0
  | x :: r => uptoBulkEntry x + uptoBulkEntries r
def uptoBulkEntry {H : Type} : Lit × DataW H → Nat
  | (.string bytes, d) => bytes.length + uptoBulk d + 1
  | (_, d) => uptoBulk d + 1
 end
def uptoSmall : (H : Type) → List (DataW H) → Bool := fun _ ds => decide (uptoBulkAll ds ≤ 1048576)
def OpenSpec.upto (s : _root_.Go.ChangeSpec) : _root_.Go.OpenSpec := { _root_.Go.OpenSpec.ofChange s with cond := some uptoSmall }

/-- 'railplanlaw7.RouteExamples', WHERE WHAT IT READS IS OF BULK AT MOST 1048576: true; the input reads as it did. -/
def routeExamplesUptoRow : OpenClaim := { program := "ytnfelcjpjodjhaa", sum := "8b13d9bbedba0cfe5d82b46662c9708f896d45385a92196859a77ba749423237", func := "railplan/railplanlaw7.RouteExamples", spec := "routeExamples", unfollowed := true, recurses := true, plainKeys := false, apart := false, narrowed := true }
def RouteExamplesUptoSaid : Prop := routeExamplesUptoRow.holds Try.pinned (OpenSpec.upto routeExamplesSpec)

/-- 'railplanlaw7.RouteLimits', WHERE WHAT IT READS IS OF BULK AT MOST 1048576: true; the input reads as it did. -/
def routeLimitsUptoRow : OpenClaim := { program := "ytnfelcjpjodjhaa", sum := "8b13d9bbedba0cfe5d82b46662c9708f896d45385a92196859a77ba749423237", func := "railplan/railplanlaw7.RouteLimits", spec := "routeLimits", unfollowed := true, recurses := true, plainKeys := false, apart := false, narrowed := true }
def RouteLimitsUptoSaid : Prop := routeLimitsUptoRow.holds Try.pinned (OpenSpec.upto routeLimitsSpec)

/-- 'railplanlaw7.RouteCellsAdd', WHERE WHAT IT READS IS OF BULK AT MOST 1048576: true; the input reads as it did. -/
def routeCellsAddUptoRow : OpenClaim := { program := "ytnfelcjpjodjhaa", sum := "8b13d9bbedba0cfe5d82b46662c9708f896d45385a92196859a77ba749423237", func := "railplan/railplanlaw7.RouteCellsAdd", spec := "routeCellsAdd", unfollowed := true, recurses := true, plainKeys := false, apart := false, narrowed := true }
def RouteCellsAddUptoSaid : Prop := routeCellsAddUptoRow.holds Try.pinned (OpenSpec.upto routeCellsAddSpec)

/-- 'railplanlaw7.RouteFinds', WHERE WHAT IT READS IS OF BULK AT MOST 1048576: true; the input reads as it did. -/
def routeFindsUptoRow : OpenClaim := { program := "ytnfelcjpjodjhaa", sum := "8b13d9bbedba0cfe5d82b46662c9708f896d45385a92196859a77ba749423237", func := "railplan/railplanlaw7.RouteFinds", spec := "routeFinds", unfollowed := true, recurses := true, plainKeys := false, apart := false, narrowed := true }
def RouteFindsUptoSaid : Prop := routeFindsUptoRow.holds Try.pinned (OpenSpec.upto routeFindsSpec)

/-- 'railplanlaw7.RouteFoundAreValid', WHERE WHAT IT READS IS OF BULK AT MOST 1048576: true; the input reads as it did. -/
def routeFoundAreValidUptoRow : OpenClaim := { program := "ytnfelcjpjodjhaa", sum := "8b13d9bbedba0cfe5d82b46662c9708f896d45385a92196859a77ba749423237", func := "railplan/railplanlaw7.RouteFoundAreValid", spec := "routeFoundAreValid", unfollowed := true, recurses := true, plainKeys := false, apart := false, narrowed := true }
def RouteFoundAreValidUptoSaid : Prop := routeFoundAreValidUptoRow.holds Try.pinned (OpenSpec.upto routeFoundAreValidSpec)

/-- 'railplanlaw7.RouteFindIsComplete', WHERE WHAT IT READS IS OF BULK AT MOST 1048576: true; the input reads as it did. -/
def routeFindIsCompleteUptoRow : OpenClaim := { program := "ytnfelcjpjodjhaa", sum := "8b13d9bbedba0cfe5d82b46662c9708f896d45385a92196859a77ba749423237", func := "railplan/railplanlaw7.RouteFindIsComplete", spec := "routeFindIsComplete", unfollowed := true, recurses := true, plainKeys := false, apart := false, narrowed := true }
def RouteFindIsCompleteUptoSaid : Prop := routeFindIsCompleteUptoRow.holds Try.pinned (OpenSpec.upto routeFindIsCompleteSpec)

/-- 'railplanlaw7.RouteBudget', WHERE WHAT IT READS IS OF BULK AT MOST 1048576: true; the input reads as it did. -/
def routeBudgetUptoRow : OpenClaim := { program := "ytnfelcjpjodjhaa", sum := "8b13d9bbedba0cfe5d82b46662c9708f896d45385a92196859a77ba749423237", func := "railplan/railplanlaw7.RouteBudget", spec := "routeBudget", unfollowed := true, recurses := true, plainKeys := false, apart := false, narrowed := true }
def RouteBudgetUptoSaid : Prop := routeBudgetUptoRow.holds Try.pinned (OpenSpec.upto routeBudgetSpec)

/-- 'railplanlaw5.LayoutbinEncodes', WHERE WHAT IT READS IS OF BULK AT MOST 1048576: true; the input reads as it did. -/
def layoutbinEncodesUptoRow : OpenClaim := { program := "ytnfelcjpjodjhaa", sum := "8b13d9bbedba0cfe5d82b46662c9708f896d45385a92196859a77ba749423237", func := "railplan/railplanlaw5.LayoutbinEncodes", spec := "layoutbinEncodes", inPlace := ["internal/abi.NoEscape"], unfollowed := true, recurses := true, plainKeys := false, apart := false, narrowed := true }
def LayoutbinEncodesUptoSaid : Prop := layoutbinEncodesUptoRow.holds Try.pinned (OpenSpec.upto layoutbinEncodesSpec)

end Rows
end Go.Proofs.Ytnfelcjpjodjhaa

/-
  No cell of these rows narrows 'for every input' (looked for: loops, veiled, ifaces, maps, wideKeys, modest, calm, conditions, laid).
  DERIVED. THE GIVEN ROWS OF THIS SEAT. 4 by the template 'for every input the law returns true; each argument reads behind the call as it read before'; 0 by the template 'total and deterministic' (their statements: YtnfelcjpjodjhaaGreatTotals.lean).
  GIVEN WITH THE SEED: the statements are not yours to turn. If you find one false, say at which input.
  Laid BY PROGRAM, IN A SANDBOX (cutbox-rows.mjs): the forced cells as the released guide's own fill.sh prints them over the translation 45378244eaa6e72e… (all of the seat's roots in one cut). By AI agents, Wed Nov 11 2026. No macro, syntax, notation, axiom, sorry.
-/
import Derived.Test.YtnfelcjpjodjhaaGreatChecked
import GoSem.Claim
import GoSem.ClaimJoined
import GoSem.ClaimMapViews
import Derived.JoinedTies
import Derived.KernelRfl
namespace Go.Proofs.YtnfelcjpjodjhaaGreat
/- THE CELL 'sum', in the pinned program and in every row, IS THE sha256 OF THE DUMP (.gsa) THAT YtnfelcjpjodjhaaGreatProg.lean LOADS. Nothing in Lean hashes anything: it is a label: what it is worth is what the hold of that sum in a sandbox is worth. -/
noncomputable def Tryz.pinned : Pinned := { name := "ytnfelcjpjodjhaagreat", sum := "45378244eaa6e72e9fc89c886e6e41c76d5cc3194425d5695a62f7a3beada638", checked := Tryz.checked }
namespace Rows
def none {H : Type} : Left H := { results := [], args := [] }

/-- 'railplanlaw7.RouteRaw': WHATEVER THE INPUT: true; the input reads as it did. -/
def routeRawSpec : ChangeSpec := { name := "routeRaw", fn := fun _ => fun
  | [d1, d2, d3] => { results := [.lit (.bool true)], args := [d1, d2, d3] }
  | _ => none }
def routeRawRow : OpenClaim := { program := "ytnfelcjpjodjhaagreat", sum := "45378244eaa6e72e9fc89c886e6e41c76d5cc3194425d5695a62f7a3beada638", func := "railplan/railplanlaw7.RouteRaw", spec := "routeRaw", unfollowed := true, recurses := true, apart := false }
def RouteRawSaid : Prop := routeRawRow.holds Tryz.pinned (OpenSpec.ofChange routeRawSpec)

/-- ITS FALSE NEIGHBOUR: 'it returns false'. Refute it at one input. -/
def routeRawWrong : ChangeSpec := { name := "routeRaw", fn := fun _ => fun
  | [d1, d2, d3] => { results := [.lit (.bool false)], args := [d1, d2, d3] }
  | _ => none }
def RouteRawWrongFalsely : Prop := routeRawRow.holds Tryz.pinned (OpenSpec.ofChange routeRawWrong)

/-- 'railplanlaw7.RouteGenerated': WHATEVER THE INPUT: true; the input reads as it did. -/
def routeGeneratedSpec : ChangeSpec := { name := "routeGenerated", fn := fun _ => fun
  | [d1, d2, d3, d4, d5] => { results := [.lit (.bool true)], args := [d1, d2, d3, d4, d5] }
  | _ => none }
def routeGeneratedRow : OpenClaim := { program := "ytnfelcjpjodjhaagreat", sum := "45378244eaa6e72e9fc89c886e6e41c76d5cc3194425d5695a62f7a3beada638", func := "railplan/railplanlaw7.RouteGenerated", spec := "routeGenerated", unfollowed := true, recurses := true, apart := false }
def RouteGeneratedSaid : Prop := routeGeneratedRow.holds Tryz.pinned (OpenSpec.ofChange routeGeneratedSpec)

/-- ITS FALSE NEIGHBOUR: 'it returns false'. Refute it at one input. -/
def routeGeneratedWrong : ChangeSpec := { name := "routeGenerated", fn := fun _ => fun
  | [d1, d2, d3, d4, d5] => { results := [.lit (.bool false)], args := [d1, d2, d3, d4, d5] }
  | _ => none }
def RouteGeneratedWrongFalsely : Prop := routeGeneratedRow.holds Tryz.pinned (OpenSpec.ofChange routeGeneratedWrong)

/-- 'railplanlaw7.RouteReverses': WHATEVER THE INPUT: true; the input reads as it did. -/
def routeReversesSpec : ChangeSpec := { name := "routeReverses", fn := fun _ => fun
  | [d1, d2] => { results := [.lit (.bool true)], args := [d1, d2] }
  | _ => none }
def routeReversesRow : OpenClaim := { program := "ytnfelcjpjodjhaagreat", sum := "45378244eaa6e72e9fc89c886e6e41c76d5cc3194425d5695a62f7a3beada638", func := "railplan/railplanlaw7.RouteReverses", spec := "routeReverses", unfollowed := true, recurses := true, apart := false }
def RouteReversesSaid : Prop := routeReversesRow.holds Tryz.pinned (OpenSpec.ofChange routeReversesSpec)

/-- ITS FALSE NEIGHBOUR: 'it returns false'. Refute it at one input. -/
def routeReversesWrong : ChangeSpec := { name := "routeReverses", fn := fun _ => fun
  | [d1, d2] => { results := [.lit (.bool false)], args := [d1, d2] }
  | _ => none }
def RouteReversesWrongFalsely : Prop := routeReversesRow.holds Tryz.pinned (OpenSpec.ofChange routeReversesWrong)

/-- 'railplanlaw7.RouteClashIsCommonResource': WHATEVER THE INPUT: true; the input reads as it did. -/
def routeClashIsCommonResourceSpec : ChangeSpec := { name := "routeClashIsCommonResource", fn := fun _ => fun
  | [d1, d2, d3] => { results := [.lit (.bool true)], args := [d1, d2, d3] }
  | _ => none }
def routeClashIsCommonResourceRow : OpenClaim := { program := "ytnfelcjpjodjhaagreat", sum := "45378244eaa6e72e9fc89c886e6e41c76d5cc3194425d5695a62f7a3beada638", func := "railplan/railplanlaw7.RouteClashIsCommonResource", spec := "routeClashIsCommonResource", unfollowed := true, recurses := true, apart := false }
def RouteClashIsCommonResourceSaid : Prop := routeClashIsCommonResourceRow.holds Tryz.pinned (OpenSpec.ofChange routeClashIsCommonResourceSpec)

/-- ITS FALSE NEIGHBOUR: 'it returns false'. Refute it at one input. -/
def routeClashIsCommonResourceWrong : ChangeSpec := { name := "routeClashIsCommonResource", fn := fun _ => fun
  | [d1, d2, d3] => { results := [.lit (.bool false)], args := [d1, d2, d3] }
  | _ => none }
def RouteClashIsCommonResourceWrongFalsely : Prop := routeClashIsCommonResourceRow.holds Tryz.pinned (OpenSpec.ofChange routeClashIsCommonResourceWrong)

/- THE SECOND FORM. 'bulk': how many values and letters a reading holds, each counted each time it is reached (what is shared counts as often as it is met; a slice's spare places count too). A statement '..UptoSaid' is the law's where the arguments, and the package variables that the reading takes, are together of bulk at most 1048576: NARROWER than '..Said'. Prove '..Said' where nothing that the law and all that it calls make is longer than what came in: it says more and counts as full. Else prove '..UptoSaid'. A law counts once. -/
mutual
def uptoBulk {H : Type} : DataW H → Nat
  | .lit (.string bytes) => bytes.length + 1
  | .lit _ => 1
  | .nil => 1
  | .ptr d => uptoBulk d + 1
  | .slice elems spare => uptoBulkAll elems + uptoBulkAll spare + 1
  | .agg parts => uptoBulkAll parts + 1
  | .iface _ d => uptoBulk d + 1
  | .map entries => uptoBulkEntries entries + 1
  | .held _ => 1
def uptoBulkAll {H : Type} : List (DataW H) → Nat
  | [] => 0
  | d :: r => uptoBulk d + uptoBulkAll r
def uptoBulkEntries {H : Type} : List (Lit × DataW H) → Nat
  | [] => 0
  | x :: r => uptoBulkEntry x + uptoBulkEntries r
def uptoBulkEntry {H : Type} : Lit × DataW H → Nat
  | (.string bytes, d) => bytes.length + uptoBulk d + 1
  | (_, d) => uptoBulk d + 1
 end
def uptoSmall : (H : Type) → List (DataW H) → Bool := fun _ ds => decide (uptoBulkAll ds ≤ 1048576)
def OpenSpec.upto (s : _root_.Go.ChangeSpec) : _root_.Go.OpenSpec := { _root_.Go.OpenSpec.ofChange s with cond := some uptoSmall }

/-- 'railplanlaw7.RouteRaw', WHERE WHAT IT READS IS OF BULK AT MOST 1048576: true; the input reads as it did. -/
def routeRawUptoRow : OpenClaim := { program := "ytnfelcjpjodjhaagreat", sum := "45378244eaa6e72e9fc89c886e6e41c76d5cc3194425d5695a62f7a3beada638", func := "railplan/railplanlaw7.RouteRaw", spec := "routeRaw", unfollowed := true, recurses := true, apart := false, narrowed := true }
def RouteRawUptoSaid : Prop := routeRawUptoRow.holds Tryz.pinned (OpenSpec.upto routeRawSpec)

/-- 'railplanlaw7.RouteGenerated', WHERE WHAT IT READS IS OF BULK AT MOST 1048576: true; the input reads as it did. -/
def routeGeneratedUptoRow : OpenClaim := { program := "ytnfelcjpjodjhaagreat", sum := "45378244eaa6e72e9fc89c886e6e41c76d5cc3194425d5695a62f7a3beada638", func := "railplan/railplanlaw7.RouteGenerated", spec := "routeGenerated", unfollowed := true, recurses := true, apart := false, narrowed := true }
def RouteGeneratedUptoSaid : Prop := routeGeneratedUptoRow.holds Tryz.pinned (OpenSpec.upto routeGeneratedSpec)

/-- 'railplanlaw7.RouteReverses', WHERE WHAT IT READS IS OF BULK AT MOST 1048576: true; the input reads as it did. -/
def routeReversesUptoRow : OpenClaim := { program := "ytnfelcjpjodjhaagreat", sum := "45378244eaa6e72e9fc89c886e6e41c76d5cc3194425d5695a62f7a3beada638", func := "railplan/railplanlaw7.RouteReverses", spec := "routeReverses", unfollowed := true, recurses := true, apart := false, narrowed := true }
def RouteReversesUptoSaid : Prop := routeReversesUptoRow.holds Tryz.pinned (OpenSpec.upto routeReversesSpec)

/-- 'railplanlaw7.RouteClashIsCommonResource', WHERE WHAT IT READS IS OF BULK AT MOST 1048576: true; the input reads as it did. -/
def routeClashIsCommonResourceUptoRow : OpenClaim := { program := "ytnfelcjpjodjhaagreat", sum := "45378244eaa6e72e9fc89c886e6e41c76d5cc3194425d5695a62f7a3beada638", func := "railplan/railplanlaw7.RouteClashIsCommonResource", spec := "routeClashIsCommonResource", unfollowed := true, recurses := true, apart := false, narrowed := true }
def RouteClashIsCommonResourceUptoSaid : Prop := routeClashIsCommonResourceUptoRow.holds Tryz.pinned (OpenSpec.upto routeClashIsCommonResourceSpec)

end Rows
end Go.Proofs.YtnfelcjpjodjhaaGreat

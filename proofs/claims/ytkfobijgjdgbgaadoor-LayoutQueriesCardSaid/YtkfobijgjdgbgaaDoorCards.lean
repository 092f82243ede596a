/-
  DERIVED. GIVEN WITH THE SEED: THE CARDS: each row of YtkfobijgjdgbgaaDoorRows.lean that lists a variable, with what it lists TIED to the program's text (the seventh form; the later family's looks); each row that meets fmt, with fmt's text TOLD by the authors' own Lean function (tested against real Go, not proved from fmt's source: count such statements apart). THE CARD IS WHAT COUNTS. Prove the row's statement (the work); the ties are given (YtkfobijgjdgbgaaDoorTie.lean); close each card by the builder's one call (the guide's Derived/Test/ToyasCard.lean, 'card_holds'). Laid BY PROGRAM, IN A SANDBOX (cutbox-door.mjs). By AI agents, Wed Nov 11 2026. No macro, syntax, notation, axiom, sorry.
-/
import Derived.Test.YtkfobijgjdgbgaaDoorRows
import GoSem.ClaimSeven
namespace Go.Proofs.YtkfobijgjdgbgaaDoor
namespace Rows

/-- THE TIED CARD OF 'railplanlaw4.LayoutRaw'. -/
def layoutRawCard : Claim7 := { stood := { row := layoutRawRow, standIns := [], harness := (true, "311289657ff2f4c27e3abfc25caaba9d70fa030beda1812745ac1929e895c254"), looks := false }, kinds := [], alts := [], laidByText := true, laidKinds := [.data, .data, .data], laidTests := true, laidLooks := .later }
def LayoutRawCardSaid : Prop := Claim7.holds Tryd.pinned (.plain (OpenSpec.ofChange layoutRawSpec)) layoutRawCard

/-- THE TIED CARD OF 'railplanlaw4.LayoutQueries'. -/
def layoutQueriesCard : Claim7 := { stood := { row := layoutQueriesRow, standIns := [], harness := (true, "311289657ff2f4c27e3abfc25caaba9d70fa030beda1812745ac1929e895c254"), looks := false }, kinds := [], alts := [], laidByText := true, laidKinds := [.data, .data, .data], laidTests := true, laidLooks := .later }
def LayoutQueriesCardSaid : Prop := Claim7.holds Tryd.pinned (.plain (OpenSpec.ofChange layoutQueriesSpec)) layoutQueriesCard

/-- THE TIED CARD OF 'railplanlaw4.LayoutMutations'. -/
def layoutMutationsCard : Claim7 := { stood := { row := layoutMutationsRow, standIns := [], harness := (true, "311289657ff2f4c27e3abfc25caaba9d70fa030beda1812745ac1929e895c254"), looks := false }, kinds := [], alts := [], laidByText := true, laidKinds := [.data, .data, .data], laidTests := true, laidLooks := .later }
def LayoutMutationsCardSaid : Prop := Claim7.holds Tryd.pinned (.plain (OpenSpec.ofChange layoutMutationsSpec)) layoutMutationsCard

/-- THE TIED CARD OF 'railplanlaw4.LayoutRoundTrip'. -/
def layoutRoundTripCard : Claim7 := { stood := { row := layoutRoundTripRow, standIns := [], harness := (true, "311289657ff2f4c27e3abfc25caaba9d70fa030beda1812745ac1929e895c254"), looks := false }, kinds := [], alts := [], laidByText := true, laidKinds := [.data, .data, .data], laidTests := true, laidLooks := .later }
def LayoutRoundTripCardSaid : Prop := Claim7.holds Tryd.pinned (.plain (OpenSpec.ofChange layoutRoundTripSpec)) layoutRoundTripCard

/-- THE SECOND FORM's CARD OF 'railplanlaw4.LayoutRaw'. -/
def layoutRawUptoCard : Claim7 := { stood := { row := layoutRawUptoRow, standIns := [], harness := (true, "311289657ff2f4c27e3abfc25caaba9d70fa030beda1812745ac1929e895c254"), looks := false }, kinds := [], alts := [], laidByText := true, laidKinds := [.data, .data, .data], laidTests := true, laidLooks := .later }
def LayoutRawUptoCardSaid : Prop := Claim7.holds Tryd.pinned (.plain (OpenSpec.upto layoutRawSpec)) layoutRawUptoCard

/-- THE SECOND FORM's CARD OF 'railplanlaw4.LayoutQueries'. -/
def layoutQueriesUptoCard : Claim7 := { stood := { row := layoutQueriesUptoRow, standIns := [], harness := (true, "311289657ff2f4c27e3abfc25caaba9d70fa030beda1812745ac1929e895c254"), looks := false }, kinds := [], alts := [], laidByText := true, laidKinds := [.data, .data, .data], laidTests := true, laidLooks := .later }
def LayoutQueriesUptoCardSaid : Prop := Claim7.holds Tryd.pinned (.plain (OpenSpec.upto layoutQueriesSpec)) layoutQueriesUptoCard

/-- THE SECOND FORM's CARD OF 'railplanlaw4.LayoutMutations'. -/
def layoutMutationsUptoCard : Claim7 := { stood := { row := layoutMutationsUptoRow, standIns := [], harness := (true, "311289657ff2f4c27e3abfc25caaba9d70fa030beda1812745ac1929e895c254"), looks := false }, kinds := [], alts := [], laidByText := true, laidKinds := [.data, .data, .data], laidTests := true, laidLooks := .later }
def LayoutMutationsUptoCardSaid : Prop := Claim7.holds Tryd.pinned (.plain (OpenSpec.upto layoutMutationsSpec)) layoutMutationsUptoCard

/-- THE SECOND FORM's CARD OF 'railplanlaw4.LayoutRoundTrip'. -/
def layoutRoundTripUptoCard : Claim7 := { stood := { row := layoutRoundTripUptoRow, standIns := [], harness := (true, "311289657ff2f4c27e3abfc25caaba9d70fa030beda1812745ac1929e895c254"), looks := false }, kinds := [], alts := [], laidByText := true, laidKinds := [.data, .data, .data], laidTests := true, laidLooks := .later }
def LayoutRoundTripUptoCardSaid : Prop := Claim7.holds Tryd.pinned (.plain (OpenSpec.upto layoutRoundTripSpec)) layoutRoundTripUptoCard
end Rows
end Go.Proofs.YtkfobijgjdgbgaaDoor

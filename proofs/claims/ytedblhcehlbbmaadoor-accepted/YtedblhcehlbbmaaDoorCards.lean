/-
  DERIVED. GIVEN WITH THE SEED: THE CARDS: each row of YtedblhcehlbbmaaDoorRows.lean that lists a variable, with what it lists TIED to the program's text (the seventh form; the later family's looks); each row that meets fmt, with fmt's text TOLD by the authors' own Lean function (tested against real Go, not proved from fmt's source: count such statements apart). THE CARD IS WHAT COUNTS. Prove the row's statement (the work); the ties are given (YtedblhcehlbbmaaDoorTie.lean); close each card by the builder's one call (the guide's Derived/Test/ToyasCard.lean, 'card_holds'). Laid BY PROGRAM, IN A SANDBOX (cutbox-door.mjs). By AI agents, Wed Nov 11 2026. No macro, syntax, notation, axiom, sorry.
-/
import Derived.Test.YtedblhcehlbbmaaDoorRows
import GoSem.ClaimSeven
namespace Go.Proofs.YtedblhcehlbbmaaDoor
namespace Rows

/-- THE TIED CARD OF 'lenderlaw.Accepted'. -/
def acceptedCard : Claim7 := { stood := { row := acceptedRow, standIns := [], harness := (true, "c5e0e6a71fd214db1c3d792e1a76e771050de808c277932bde0241e998cce2af"), looks := false }, kinds := [], alts := [], laidByText := true, laidKinds := [.data, .data, .data], laidTests := true, laidLooks := .later }
def AcceptedCardSaid : Prop := Claim7.holds Tryd.pinned (.plain (OpenSpec.ofChange acceptedSpec)) acceptedCard

/-- THE TIED CARD OF 'lenderkeep.Known'. -/
def knownCard : Claim7 := { stood := { row := knownRow, standIns := [], harness := (true, "c5e0e6a71fd214db1c3d792e1a76e771050de808c277932bde0241e998cce2af"), looks := false }, kinds := [], alts := [], laidByText := true, laidKinds := [.data, .data, .data], laidTests := true, laidLooks := .later }
def KnownCardSaid : Prop := Claim7.holds Tryd.pinned (.plain (OpenSpec.ofChange knownSpec)) knownCard

/-- THE SECOND FORM's CARD OF 'lenderlaw.Accepted'. -/
def acceptedUptoCard : Claim7 := { stood := { row := acceptedUptoRow, standIns := [], harness := (true, "c5e0e6a71fd214db1c3d792e1a76e771050de808c277932bde0241e998cce2af"), looks := false }, kinds := [], alts := [], laidByText := true, laidKinds := [.data, .data, .data], laidTests := true, laidLooks := .later }
def AcceptedUptoCardSaid : Prop := Claim7.holds Tryd.pinned (.plain (OpenSpec.upto acceptedSpec)) acceptedUptoCard

/-- THE SECOND FORM's CARD OF 'lenderkeep.Known'. -/
def knownUptoCard : Claim7 := { stood := { row := knownUptoRow, standIns := [], harness := (true, "c5e0e6a71fd214db1c3d792e1a76e771050de808c277932bde0241e998cce2af"), looks := false }, kinds := [], alts := [], laidByText := true, laidKinds := [.data, .data, .data], laidTests := true, laidLooks := .later }
def KnownUptoCardSaid : Prop := Claim7.holds Tryd.pinned (.plain (OpenSpec.upto knownSpec)) knownUptoCard
end Rows
end Go.Proofs.YtedblhcehlbbmaaDoor

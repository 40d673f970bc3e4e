/-
  DERIVED. GIVEN WITH THE SEED: THE CARDS: each row of YtedblhcehlbbmabDoorRows.lean that lists a variable, with what it lists TIED to the program's text (the seventh form; the later family's looks); each row that meets fmt, with fmt's text TOLD by the authors' own Lean function (tested against real Go, not proved from fmt's source: count such statements apart). THE CARD IS WHAT COUNTS. Prove the row's statement (the work); the ties are given (YtedblhcehlbbmabDoorTie.lean); close each card by the builder's one call (the guide's Derived/Test/ToyasCard.lean, 'card_holds'). Laid BY PROGRAM, IN A SANDBOX (cutbox-door.mjs). By AI agents, Wed Nov 11 2026. No macro, syntax, notation, axiom, sorry.
-/
import Derived.Test.YtedblhcehlbbmabDoorRows
import GoSem.ClaimSeven
namespace Go.Proofs.YtedblhcehlbbmabDoor
namespace Rows

/-- THE TIED CARD OF 'lenderkeep.Honest'. -/
def honestCard : Claim7 := { stood := { row := honestRow, standIns := [], harness := (true, "a58973c16e28d62d028820421cb16fa4e5b8f3d13c4cec90987c6d01bb8aaaae"), looks := false }, kinds := [], alts := [], laidByText := true, laidKinds := [.data, .data, .data], laidTests := true, laidLooks := .later }
def HonestCardSaid : Prop := Claim7.holds Tryd.pinned (.plain (OpenSpec.ofChange honestSpec)) honestCard

/-- THE TIED CARD OF 'lenderkeep.Caught'. -/
def caughtCard : Claim7 := { stood := { row := caughtRow, standIns := [], harness := (true, "a58973c16e28d62d028820421cb16fa4e5b8f3d13c4cec90987c6d01bb8aaaae"), looks := false }, kinds := [], alts := [], laidByText := true, laidKinds := [.data, .data, .data], laidTests := true, laidLooks := .later }
def CaughtCardSaid : Prop := Claim7.holds Tryd.pinned (.plain (OpenSpec.ofChange caughtSpec)) caughtCard

/-- THE SECOND FORM's CARD OF 'lenderkeep.Honest'. -/
def honestUptoCard : Claim7 := { stood := { row := honestUptoRow, standIns := [], harness := (true, "a58973c16e28d62d028820421cb16fa4e5b8f3d13c4cec90987c6d01bb8aaaae"), looks := false }, kinds := [], alts := [], laidByText := true, laidKinds := [.data, .data, .data], laidTests := true, laidLooks := .later }
def HonestUptoCardSaid : Prop := Claim7.holds Tryd.pinned (.plain (OpenSpec.upto honestSpec)) honestUptoCard

/-- THE SECOND FORM's CARD OF 'lenderkeep.Caught'. -/
def caughtUptoCard : Claim7 := { stood := { row := caughtUptoRow, standIns := [], harness := (true, "a58973c16e28d62d028820421cb16fa4e5b8f3d13c4cec90987c6d01bb8aaaae"), looks := false }, kinds := [], alts := [], laidByText := true, laidKinds := [.data, .data, .data], laidTests := true, laidLooks := .later }
def CaughtUptoCardSaid : Prop := Claim7.holds Tryd.pinned (.plain (OpenSpec.upto caughtSpec)) caughtUptoCard
end Rows
end Go.Proofs.YtedblhcehlbbmabDoor

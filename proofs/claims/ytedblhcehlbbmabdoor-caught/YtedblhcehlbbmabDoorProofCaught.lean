/-
  'Rows.CaughtCardSaid': the tied card.
-/
import Derived.Test.YtedblhcehlbbmabDoorFrameCaught
import Derived.Test.YtedblhcehlbbmabDoorWalkBook5
import Derived.Test.YtedblhcehlbbmabDoorCards
import Derived.Test.YtedblhcehlbbmabDoorTie
import Derived.SevenTiedAt
namespace Go.Proofs.YtedblhcehlbbmabDoor
open Go

/-- THE STATEMENT. -/
theorem caught_holds : Rows.CaughtCardSaid :=
  Claim7.holds_tied_plain_at .later [] [.data, .data, .data] true Rows.caughtCard.stood.harness false
    (caughtlaw.over lie_ok book_spec5) (fun _ h => by cases h) (by kernel_rfl) (fun _ h => by cases h) caught_row_tie rfl ⟨rfl, rfl⟩ (by kernel_rfl) rfl
    (fun f fn hf hfn => by
      obtain rfl : f = 4 := Option.some.inj ((show Tryd.prog.funcNamed "lender/lenderkeep.Caught" = some 4 by kernel_rfl).symm.trans hf) |>.symm
      obtain rfl : fn = Tryd.f4 := (Option.some.inj (Tryd.func4.symm.trans hfn)).symm
      exact ⟨by kernel_rfl, fun j t ht => by
        rw [Tryd.params4] at ht
        have hm : t ∈ [22, 35, 4, 3] := by simpa using Array.mem_of_getElem? ht
        have hall : ([22, 35, 4, 3].all fun u => !Tryd.prog.wantsStandIn u) = true := by kernel_rfl
        exact (show Tryd.prog.wantsStandIn t = false by simpa using List.all_eq_true.1 hall t hm)⟩)
    (by kernel_rfl)

end Go.Proofs.YtedblhcehlbbmabDoor

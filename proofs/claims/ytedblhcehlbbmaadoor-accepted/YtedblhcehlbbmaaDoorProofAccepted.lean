/-
  'Rows.AcceptedCardSaid': the tied card.
-/
import Derived.Test.YtedblhcehlbbmaaDoorFrameAccepted
import Derived.Test.YtedblhcehlbbmaaDoorWalkAccepts
import Derived.Test.YtedblhcehlbbmaaDoorCards
import Derived.Test.YtedblhcehlbbmaaDoorTie
import Derived.SevenTiedAt
namespace Go.Proofs.YtedblhcehlbbmaaDoor
open Go

/-- THE STATEMENT. -/
theorem accepted_holds : Rows.AcceptedCardSaid :=
  Claim7.holds_tied_plain_at .later [] [.data, .data, .data] true Rows.acceptedCard.stood.harness false
    (acceptedlaw.over accepts_spec) (fun _ h => by cases h) (by kernel_rfl) (fun _ h => by cases h) accepted_row_tie rfl ⟨rfl, rfl⟩ (by kernel_rfl) rfl
    (fun f fn hf hfn => by
      obtain rfl : f = 3 := Option.some.inj ((show Tryd.prog.funcNamed "lender/lenderlaw.Accepted" = some 3 by kernel_rfl).symm.trans hf) |>.symm
      obtain rfl : fn = Tryd.f3 := (Option.some.inj (Tryd.func3.symm.trans hfn)).symm
      exact ⟨by kernel_rfl, fun j t ht => by
        rw [Tryd.params3] at ht
        have hm : t ∈ [3, 26] := by simpa using Array.mem_of_getElem? ht
        have hall : ([3, 26].all fun u => !Tryd.prog.wantsStandIn u) = true := by kernel_rfl
        exact (show Tryd.prog.wantsStandIn t = false by simpa using List.all_eq_true.1 hall t hm)⟩)
    (by kernel_rfl)

end Go.Proofs.YtedblhcehlbbmaaDoor

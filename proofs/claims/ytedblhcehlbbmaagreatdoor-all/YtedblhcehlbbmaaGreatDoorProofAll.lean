import Derived.Test.YtedblhcehlbbmaaGreatDoorFrameAll
import Derived.Test.YtedblhcehlbbmaaGreatDoorCards
import Derived.Test.YtedblhcehlbbmaaGreatDoorTie
import Derived.SevenTiedAt
/-
  'Rows.AllCardSaid': the tied card.
-/
namespace Go.Proofs.YtedblhcehlbbmaaGreatDoor
set_option maxRecDepth 20000
open Go

/-- THE STATEMENT. -/
theorem all_holds : Rows.AllCardSaid :=
  Claim7.holds_tied_plain_at .later [] [.data, .data, .data] true Rows.allCard.stood.harness false
    alllaw.over (fun _ h => by cases h) (by kernel_rfl) (fun _ h => by cases h) all_row_tie rfl ⟨rfl, rfl⟩ (by kernel_rfl) rfl
    (fun f fn hf hfn => by
      obtain rfl : f = 4 := Option.some.inj ((show Tryz.prog.funcNamed "lender/lenderlaw.All" = some 4 by kernel_rfl).symm.trans hf) |>.symm
      obtain rfl : fn = Tryz.f4 := (Option.some.inj (Tryz.func4.symm.trans hfn)).symm
      exact ⟨by kernel_rfl, fun j t ht => by
        rw [Tryz.params4] at ht
        have hm : t ∈ [22] := by simpa using Array.mem_of_getElem? ht
        have hall : ([22].all fun u => !Tryz.prog.wantsStandIn u) = true := by kernel_rfl
        exact (show Tryz.prog.wantsStandIn t = false by simpa using List.all_eq_true.1 hall t hm)⟩)
    (by kernel_rfl)

end Go.Proofs.YtedblhcehlbbmaaGreatDoor

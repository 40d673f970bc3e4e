/-
  'Rows.ShownSaid'.
-/
import Derived.Test.YtghcgjjngcolhabFrameShown
import Derived.Test.YtghcgjjngcolhabWalkTwin
namespace Go.Proofs.Ytghcgjjngcolhab

/-- THE STATEMENT. -/
theorem shown_holds : Rows.ShownSaid := shownlaw.over twin_spec

end Go.Proofs.Ytghcgjjngcolhab

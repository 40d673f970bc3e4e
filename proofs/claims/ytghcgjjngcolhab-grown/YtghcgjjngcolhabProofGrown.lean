/-
  'Rows.GrownSaid'.
-/
import Derived.Test.YtghcgjjngcolhabFrameGrown
import Derived.Test.YtghcgjjngcolhabWalkTwins
namespace Go.Proofs.Ytghcgjjngcolhab

/-- THE STATEMENT. -/
theorem grown_holds : Rows.GrownSaid := grownlaw.over twins_spec

end Go.Proofs.Ytghcgjjngcolhab

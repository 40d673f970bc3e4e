/-
  'Rows.TwinsSaid'.
-/
import Derived.Test.YtghcgjjngcolhaaFrameTwins
import Derived.Test.YtghcgjjngcolhaaWalkTwins
namespace Go.Proofs.Ytghcgjjngcolhaa

/-- THE STATEMENT. -/
theorem twins_holds : Rows.TwinsSaid := twinslaw.over twins_spec

end Go.Proofs.Ytghcgjjngcolhaa

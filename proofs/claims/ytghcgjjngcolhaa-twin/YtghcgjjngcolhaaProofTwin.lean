/-
  'Rows.TwinSaid'.
-/
import Derived.Test.YtghcgjjngcolhaaFrameTwin
import Derived.Test.YtghcgjjngcolhaaWalkTwin
namespace Go.Proofs.Ytghcgjjngcolhaa

/-- THE STATEMENT. -/
theorem twin_holds : Rows.TwinSaid := twinlaw.over twin_spec

end Go.Proofs.Ytghcgjjngcolhaa

/-
  'Rows.TwinSaid'.
-/
import Derived.Test.YtedblhcehlbbmaaFrameTwin
import Derived.Test.YtedblhcehlbbmaaWalkTwin
namespace Go.Proofs.Ytedblhcehlbbmaa

/-- THE STATEMENT. -/
theorem twin_holds : Rows.TwinSaid := twinlaw.over twin_spec

end Go.Proofs.Ytedblhcehlbbmaa

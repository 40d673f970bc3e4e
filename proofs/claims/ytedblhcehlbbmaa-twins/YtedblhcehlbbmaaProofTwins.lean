/-
  'Rows.TwinsSaid'.
-/
import Derived.Test.YtedblhcehlbbmaaFrameTwins
import Derived.Test.YtedblhcehlbbmaaWalkTwins
namespace Go.Proofs.Ytedblhcehlbbmaa

/-- THE STATEMENT. -/
theorem twins_holds : Rows.TwinsSaid := twinslaw.over twins_spec

end Go.Proofs.Ytedblhcehlbbmaa

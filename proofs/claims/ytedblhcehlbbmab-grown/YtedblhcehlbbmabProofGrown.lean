/-
  'Rows.GrownSaid'.
-/
import Derived.Test.YtedblhcehlbbmabFrameGrown
import Derived.Test.YtedblhcehlbbmabWalkTwins
namespace Go.Proofs.Ytedblhcehlbbmab

/-- THE STATEMENT. -/
theorem grown_holds : Rows.GrownSaid := grownlaw.over twins_spec

end Go.Proofs.Ytedblhcehlbbmab

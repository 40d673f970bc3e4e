/-
  'Rows.ShownSaid'.
-/
import Derived.Test.YtedblhcehlbbmabFrameShown
import Derived.Test.YtedblhcehlbbmabWalkTwin
namespace Go.Proofs.Ytedblhcehlbbmab

/-- THE STATEMENT. -/
theorem shown_holds : Rows.ShownSaid := shownlaw.over twin_spec

end Go.Proofs.Ytedblhcehlbbmab

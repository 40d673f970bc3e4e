/-
  'Rows.AloneSaid'.
-/
import Derived.Test.YtedblhcehlbbmabFrameAlone
import Derived.Test.YtedblhcehlbbmabWalkTwin
namespace Go.Proofs.Ytedblhcehlbbmab

/-- THE STATEMENT. -/
theorem alone_holds : Rows.AloneSaid := alonelaw.over twin_spec

end Go.Proofs.Ytedblhcehlbbmab

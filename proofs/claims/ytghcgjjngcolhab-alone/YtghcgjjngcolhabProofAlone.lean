/-
  'Rows.AloneSaid'.
-/
import Derived.Test.YtghcgjjngcolhabFrameAlone
import Derived.Test.YtghcgjjngcolhabWalkTwin
namespace Go.Proofs.Ytghcgjjngcolhab

/-- THE STATEMENT. -/
theorem alone_holds : Rows.AloneSaid := alonelaw.over twin_spec

end Go.Proofs.Ytghcgjjngcolhab

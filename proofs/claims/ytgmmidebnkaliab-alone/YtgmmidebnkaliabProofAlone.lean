/-
  'Rows.AloneSaid'.
-/
import Derived.Test.YtgmmidebnkaliabFrameAlone
import Derived.Test.YtgmmidebnkaliabWalkTwin
namespace Go.Proofs.Ytgmmidebnkaliab

/-- THE STATEMENT. -/
theorem alone_holds : Rows.AloneSaid := alonelaw.over twin_spec

end Go.Proofs.Ytgmmidebnkaliab

/-
  'Rows.ShownSaid'.
-/
import Derived.Test.YtgmmidebnkaliabFrameShown
import Derived.Test.YtgmmidebnkaliabWalkTwin
namespace Go.Proofs.Ytgmmidebnkaliab

/-- THE STATEMENT. -/
theorem shown_holds : Rows.ShownSaid := shownlaw.over twin_spec

end Go.Proofs.Ytgmmidebnkaliab

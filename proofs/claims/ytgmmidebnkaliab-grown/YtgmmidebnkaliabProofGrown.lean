/-
  'Rows.GrownSaid'.
-/
import Derived.Test.YtgmmidebnkaliabFrameGrown
import Derived.Test.YtgmmidebnkaliabWalkTwins
namespace Go.Proofs.Ytgmmidebnkaliab

/-- THE STATEMENT. -/
theorem grown_holds : Rows.GrownSaid := grownlaw.over twins_spec

end Go.Proofs.Ytgmmidebnkaliab

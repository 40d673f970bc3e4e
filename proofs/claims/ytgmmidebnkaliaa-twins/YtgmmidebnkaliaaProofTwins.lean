/-
  'Rows.TwinsSaid'.
-/
import Derived.Test.YtgmmidebnkaliaaFrameTwins
import Derived.Test.YtgmmidebnkaliaaWalkTwins
namespace Go.Proofs.Ytgmmidebnkaliaa

/-- THE STATEMENT. -/
theorem twins_holds : Rows.TwinsSaid := twinslaw.over twins_spec

end Go.Proofs.Ytgmmidebnkaliaa

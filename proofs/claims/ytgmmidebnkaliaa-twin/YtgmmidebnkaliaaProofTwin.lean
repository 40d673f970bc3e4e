/-
  'Rows.TwinSaid'.
-/
import Derived.Test.YtgmmidebnkaliaaFrameTwin
import Derived.Test.YtgmmidebnkaliaaWalkTwin
namespace Go.Proofs.Ytgmmidebnkaliaa

/-- THE STATEMENT. -/
theorem twin_holds : Rows.TwinSaid := twinlaw.over twin_spec

end Go.Proofs.Ytgmmidebnkaliaa

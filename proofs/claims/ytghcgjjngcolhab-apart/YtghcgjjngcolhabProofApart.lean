/-
  'Rows.ApartSaid'.
-/
import Derived.Test.YtghcgjjngcolhabFrameApart
import Derived.Test.YtghcgjjngcolhabWalkBook
namespace Go.Proofs.Ytghcgjjngcolhab

/-- THE STATEMENT. -/
theorem apart_holds : Rows.ApartSaid := apartlaw.over book_spec

end Go.Proofs.Ytghcgjjngcolhab

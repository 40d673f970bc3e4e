/-
  'Rows.ApartSaid'.
-/
import Derived.Test.YtedblhcehlbbmabFrameApart
import Derived.Test.YtedblhcehlbbmabWalkBook
namespace Go.Proofs.Ytedblhcehlbbmab

/-- THE STATEMENT. -/
theorem apart_holds : Rows.ApartSaid := apartlaw.over book_spec

end Go.Proofs.Ytedblhcehlbbmab

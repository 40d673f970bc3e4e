/-
  'Rows.PaidSaid'.
-/
import Derived.Test.YtedblhcehlbbmabFramePaid
import Derived.Test.YtedblhcehlbbmabWalkBook
namespace Go.Proofs.Ytedblhcehlbbmab

/-- THE STATEMENT. -/
theorem paid_holds : Rows.PaidSaid := paidlaw.over book_spec

end Go.Proofs.Ytedblhcehlbbmab

/-
  'Rows.PaidSaid'.
-/
import Derived.Test.YtghcgjjngcolhabFramePaid
import Derived.Test.YtghcgjjngcolhabWalkBook
namespace Go.Proofs.Ytghcgjjngcolhab

/-- THE STATEMENT. -/
theorem paid_holds : Rows.PaidSaid := paidlaw.over book_spec

end Go.Proofs.Ytghcgjjngcolhab

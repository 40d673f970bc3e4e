/-
  WHAT lender.Accepts ANSWERS: 'accepts_spec'.
-/
import Derived.Test.YtedblhcehlbbmaaDoorLawAccepted
import Derived.Test.YtedblhcehlbbmaaDoorWalkAcct
namespace Go.Proofs.YtedblhcehlbbmaaDoor

theorem accepts_spec : AcceptsSpec := fun top a w _ h2 ht => accepts_any top a w h2 ht

end Go.Proofs.YtedblhcehlbbmaaDoor

/-
  CONTRACTS: lenderref.PathTexts.
-/
import Derived.Test.YtedblhcehlbbmabWalkTexts
import Derived.Test.YtedblhcehlbbmabWalkRefWithin
import Derived.WalkKit
import Derived.WalkSpells
import Derived.WalkLawsBesides
namespace Go.Proofs.Ytedblhcehlbbmab
open Go.RowKit

/-- The texts of Within's check, as Go's strings. -/
def ptx (n i : Nat) (ent : ByteArray) (zs : List Int) : List ByteArray := (pathT n i ent.data.toList zs).map bs
def stx (n i : Nat) (x : Int) (zs : List Int) : List ByteArray := (stepsR n i x zs).map bs
theorem ptx_eq (n i : Nat) (ent : ByteArray) (zs : List Int) : ptx n i ent zs = [bs (entT ent.data.toList)] ++ stx n i (entS ent) zs := rfl
theorem length_stepsF (f : Nat) : ∀ (n i : Nat) (x : Int) (zs : List Int), (stepsF f n i x zs).length ≤ f := by
  induction f with
  | zero => intro n i x zs; simp [stepsF]
  | succ f ih =>
    intro n i x zs
    cases zs with
    | nil =>
      simp only [stepsF]
      split
      · simp
      · split
        · have := ih ((n + 1) / 2) (i / 2) x []; omega
        · simp
    | cons p r =>
      simp only [stepsF]
      split
      · simp
      · split
        · have := ih ((n + 1) / 2) (i / 2) x (p :: r); omega
        · have := ih ((n + 1) / 2) (i / 2) (if i % 2 = 0 then node x p else node p x) r
          rw [List.length_cons]; omega
theorem length_ptx (n i : Nat) (ent : ByteArray) (zs : List Int) : (ptx n i ent zs).length ≤ n + 1 := by
  rw [ptx_eq]; unfold stx stepsR
  have := length_stepsF n n i (entS ent) zs
  simp; omega

end Go.Proofs.Ytedblhcehlbbmab

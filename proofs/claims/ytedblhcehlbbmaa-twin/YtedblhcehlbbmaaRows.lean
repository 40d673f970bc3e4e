/-
  No cell of these rows narrows 'for every input' (looked for: loops, veiled, ifaces, maps, wideKeys, modest, calm, conditions, laid).
  DERIVED. THE GIVEN ROWS OF THIS SEAT. 8 by the template 'for every input the law returns true; each argument reads behind the call as it read before'; 0 by the template 'total and deterministic' (their statements: YtedblhcehlbbmaaTotals.lean).
  GIVEN WITH THE SEED: the statements are not yours to turn. If you find one false, say at which input.
  Laid BY PROGRAM, IN A SANDBOX (cutbox-rows.mjs): the forced cells as the released guide's own fill.sh prints them over the translation 7cd8619bd5c326b1… (all of the seat's roots in one cut). By AI agents, Wed Nov 11 2026. No macro, syntax, notation, axiom, sorry.
-/
import Derived.Test.YtedblhcehlbbmaaChecked
import GoSem.Claim
import GoSem.ClaimJoined
import GoSem.ClaimMapViews
import Derived.JoinedTies
import Derived.KernelRfl
namespace Go.Proofs.Ytedblhcehlbbmaa
/- THE CELL 'sum', in the pinned program and in every row, IS THE sha256 OF THE DUMP (.gsa) THAT YtedblhcehlbbmaaProg.lean LOADS. Nothing in Lean hashes anything: it is a label: what it is worth is what the hold of that sum in a sandbox is worth. -/
noncomputable def Try.pinned : Pinned := { name := "ytedblhcehlbbmaa", sum := "7cd8619bd5c326b17f419d8193cd3944c1de8e4d585bbc05fcbbef834b5d20c1", checked := Try.checked }
namespace Rows
def none {H : Type} : Left H := { results := [], args := [] }

/-- 'lenderlaw.Sums': WHATEVER THE INPUT: true; the input reads as it did. -/
def sumsSpec : ChangeSpec := { name := "sums", fn := fun _ => fun
  | [d] => { results := [.lit (.bool true)], args := [d] }
  | _ => none }
def sumsRow : OpenClaim := { program := "ytedblhcehlbbmaa", sum := "7cd8619bd5c326b17f419d8193cd3944c1de8e4d585bbc05fcbbef834b5d20c1", func := "lender/lenderlaw.Sums", spec := "sums", apart := false }
def SumsSaid : Prop := sumsRow.holds Try.pinned (OpenSpec.ofChange sumsSpec)

/-- ITS FALSE NEIGHBOUR: 'it returns false'. Refute it at one input. -/
def sumsWrong : ChangeSpec := { name := "sums", fn := fun _ => fun
  | [d] => { results := [.lit (.bool false)], args := [d] }
  | _ => none }
def SumsWrongFalsely : Prop := sumsRow.holds Try.pinned (OpenSpec.ofChange sumsWrong)

/-- 'lenderlaw.Roots': WHATEVER THE INPUT: true; the input reads as it did. -/
def rootsSpec : ChangeSpec := { name := "roots", fn := fun _ => fun
  | [d] => { results := [.lit (.bool true)], args := [d] }
  | _ => none }
def rootsRow : OpenClaim := { program := "ytedblhcehlbbmaa", sum := "7cd8619bd5c326b17f419d8193cd3944c1de8e4d585bbc05fcbbef834b5d20c1", func := "lender/lenderlaw.Roots", spec := "roots", recurses := true, apart := false }
def RootsSaid : Prop := rootsRow.holds Try.pinned (OpenSpec.ofChange rootsSpec)

/-- ITS FALSE NEIGHBOUR: 'it returns false'. Refute it at one input. -/
def rootsWrong : ChangeSpec := { name := "roots", fn := fun _ => fun
  | [d] => { results := [.lit (.bool false)], args := [d] }
  | _ => none }
def RootsWrongFalsely : Prop := rootsRow.holds Try.pinned (OpenSpec.ofChange rootsWrong)

/-- 'lenderlaw.Paths': WHATEVER THE INPUT: true; the input reads as it did. -/
def pathsSpec : ChangeSpec := { name := "paths", fn := fun _ => fun
  | [d1, d2] => { results := [.lit (.bool true)], args := [d1, d2] }
  | _ => none }
def pathsRow : OpenClaim := { program := "ytedblhcehlbbmaa", sum := "7cd8619bd5c326b17f419d8193cd3944c1de8e4d585bbc05fcbbef834b5d20c1", func := "lender/lenderlaw.Paths", spec := "paths", recurses := true, apart := false }
def PathsSaid : Prop := pathsRow.holds Try.pinned (OpenSpec.ofChange pathsSpec)

/-- ITS FALSE NEIGHBOUR: 'it returns false'. Refute it at one input. -/
def pathsWrong : ChangeSpec := { name := "paths", fn := fun _ => fun
  | [d1, d2] => { results := [.lit (.bool false)], args := [d1, d2] }
  | _ => none }
def PathsWrongFalsely : Prop := pathsRow.holds Try.pinned (OpenSpec.ofChange pathsWrong)

/-- 'lenderlaw.Withins': WHATEVER THE INPUT: true; the input reads as it did. -/
def withinsSpec : ChangeSpec := { name := "withins", fn := fun _ => fun
  | [d1, d2, d3, d4, d5] => { results := [.lit (.bool true)], args := [d1, d2, d3, d4, d5] }
  | _ => none }
def withinsRow : OpenClaim := { program := "ytedblhcehlbbmaa", sum := "7cd8619bd5c326b17f419d8193cd3944c1de8e4d585bbc05fcbbef834b5d20c1", func := "lender/lenderlaw.Withins", spec := "withins", recurses := true, apart := false }
def WithinsSaid : Prop := withinsRow.holds Try.pinned (OpenSpec.ofChange withinsSpec)

/-- ITS FALSE NEIGHBOUR: 'it returns false'. Refute it at one input. -/
def withinsWrong : ChangeSpec := { name := "withins", fn := fun _ => fun
  | [d1, d2, d3, d4, d5] => { results := [.lit (.bool false)], args := [d1, d2, d3, d4, d5] }
  | _ => none }
def WithinsWrongFalsely : Prop := withinsRow.holds Try.pinned (OpenSpec.ofChange withinsWrong)

/-- 'lenderlaw.Furthers': WHATEVER THE INPUT: true; the input reads as it did. -/
def furthersSpec : ChangeSpec := { name := "furthers", fn := fun _ => fun
  | [d1, d2] => { results := [.lit (.bool true)], args := [d1, d2] }
  | _ => none }
def furthersRow : OpenClaim := { program := "ytedblhcehlbbmaa", sum := "7cd8619bd5c326b17f419d8193cd3944c1de8e4d585bbc05fcbbef834b5d20c1", func := "lender/lenderlaw.Furthers", spec := "furthers", recurses := true, apart := false }
def FurthersSaid : Prop := furthersRow.holds Try.pinned (OpenSpec.ofChange furthersSpec)

/-- ITS FALSE NEIGHBOUR: 'it returns false'. Refute it at one input. -/
def furthersWrong : ChangeSpec := { name := "furthers", fn := fun _ => fun
  | [d1, d2] => { results := [.lit (.bool false)], args := [d1, d2] }
  | _ => none }
def FurthersWrongFalsely : Prop := furthersRow.holds Try.pinned (OpenSpec.ofChange furthersWrong)

/-- 'lenderlaw.Growths': WHATEVER THE INPUT: true; the input reads as it did. -/
def growthsSpec : ChangeSpec := { name := "growths", fn := fun _ => fun
  | [d1, d2, d3, d4, d5] => { results := [.lit (.bool true)], args := [d1, d2, d3, d4, d5] }
  | _ => none }
def growthsRow : OpenClaim := { program := "ytedblhcehlbbmaa", sum := "7cd8619bd5c326b17f419d8193cd3944c1de8e4d585bbc05fcbbef834b5d20c1", func := "lender/lenderlaw.Growths", spec := "growths", recurses := true, apart := false }
def GrowthsSaid : Prop := growthsRow.holds Try.pinned (OpenSpec.ofChange growthsSpec)

/-- ITS FALSE NEIGHBOUR: 'it returns false'. Refute it at one input. -/
def growthsWrong : ChangeSpec := { name := "growths", fn := fun _ => fun
  | [d1, d2, d3, d4, d5] => { results := [.lit (.bool false)], args := [d1, d2, d3, d4, d5] }
  | _ => none }
def GrowthsWrongFalsely : Prop := growthsRow.holds Try.pinned (OpenSpec.ofChange growthsWrong)

/-- 'lenderlaw.Twin': WHATEVER THE INPUT: true; the input reads as it did. -/
def twinSpec : ChangeSpec := { name := "twin", fn := fun _ => fun
  | [d1, d2, d3, d4] => { results := [.lit (.bool true)], args := [d1, d2, d3, d4] }
  | _ => none }
def twinRow : OpenClaim := { program := "ytedblhcehlbbmaa", sum := "7cd8619bd5c326b17f419d8193cd3944c1de8e4d585bbc05fcbbef834b5d20c1", func := "lender/lenderlaw.Twin", spec := "twin", recurses := true, apart := false }
def TwinSaid : Prop := twinRow.holds Try.pinned (OpenSpec.ofChange twinSpec)

/-- ITS FALSE NEIGHBOUR: 'it returns false'. Refute it at one input. -/
def twinWrong : ChangeSpec := { name := "twin", fn := fun _ => fun
  | [d1, d2, d3, d4] => { results := [.lit (.bool false)], args := [d1, d2, d3, d4] }
  | _ => none }
def TwinWrongFalsely : Prop := twinRow.holds Try.pinned (OpenSpec.ofChange twinWrong)

/-- 'lenderlaw.Twins': WHATEVER THE INPUT: true; the input reads as it did. -/
def twinsSpec : ChangeSpec := { name := "twins", fn := fun _ => fun
  | [d1, d2, d3] => { results := [.lit (.bool true)], args := [d1, d2, d3] }
  | _ => none }
def twinsRow : OpenClaim := { program := "ytedblhcehlbbmaa", sum := "7cd8619bd5c326b17f419d8193cd3944c1de8e4d585bbc05fcbbef834b5d20c1", func := "lender/lenderlaw.Twins", spec := "twins", recurses := true, apart := false }
def TwinsSaid : Prop := twinsRow.holds Try.pinned (OpenSpec.ofChange twinsSpec)

/-- ITS FALSE NEIGHBOUR: 'it returns false'. Refute it at one input. -/
def twinsWrong : ChangeSpec := { name := "twins", fn := fun _ => fun
  | [d1, d2, d3] => { results := [.lit (.bool false)], args := [d1, d2, d3] }
  | _ => none }
def TwinsWrongFalsely : Prop := twinsRow.holds Try.pinned (OpenSpec.ofChange twinsWrong)

/- THE SECOND FORM. 'bulk': how many values and letters a reading holds, each counted each time it is reached (what is shared counts as often as it is met; a slice's spare places count too). A statement '..UptoSaid' is the law's where the arguments, and the package variables that the reading takes, are together of bulk at most 1048576: NARROWER than '..Said'. Prove '..Said' where nothing that the law and all that it calls make is longer than what came in: it says more and counts as full. Else prove '..UptoSaid'. A law counts once. -/
mutual
def uptoBulk {H : Type} : DataW H → Nat
  | .lit (.string bytes) => bytes.length + 1
  | .lit _ => 1
  | .nil => 1
  | .ptr d => uptoBulk d + 1
  | .slice elems spare => uptoBulkAll elems + uptoBulkAll spare + 1
  | .agg parts => uptoBulkAll parts + 1
  | .iface _ d => uptoBulk d + 1
  | .map entries => uptoBulkEntries entries + 1
  | .held _ => 1
def uptoBulkAll {H : Type} : List (DataW H) → Nat
  | [] => 0
  | d :: r => uptoBulk d + uptoBulkAll r
def uptoBulkEntries {H : Type} : List (Lit × DataW H) → Nat
  | [] => 0
  | x :: r => uptoBulkEntry x + uptoBulkEntries r
def uptoBulkEntry {H : Type} : Lit × DataW H → Nat
  | (.string bytes, d) => bytes.length + uptoBulk d + 1
  | (_, d) => uptoBulk d + 1
 end
def uptoSmall : (H : Type) → List (DataW H) → Bool := fun _ ds => decide (uptoBulkAll ds ≤ 1048576)
def OpenSpec.upto (s : _root_.Go.ChangeSpec) : _root_.Go.OpenSpec := { _root_.Go.OpenSpec.ofChange s with cond := some uptoSmall }

/-- 'lenderlaw.Sums', WHERE WHAT IT READS IS OF BULK AT MOST 1048576: true; the input reads as it did. -/
def sumsUptoRow : OpenClaim := { program := "ytedblhcehlbbmaa", sum := "7cd8619bd5c326b17f419d8193cd3944c1de8e4d585bbc05fcbbef834b5d20c1", func := "lender/lenderlaw.Sums", spec := "sums", apart := false, narrowed := true }
def SumsUptoSaid : Prop := sumsUptoRow.holds Try.pinned (OpenSpec.upto sumsSpec)

/-- 'lenderlaw.Roots', WHERE WHAT IT READS IS OF BULK AT MOST 1048576: true; the input reads as it did. -/
def rootsUptoRow : OpenClaim := { program := "ytedblhcehlbbmaa", sum := "7cd8619bd5c326b17f419d8193cd3944c1de8e4d585bbc05fcbbef834b5d20c1", func := "lender/lenderlaw.Roots", spec := "roots", recurses := true, apart := false, narrowed := true }
def RootsUptoSaid : Prop := rootsUptoRow.holds Try.pinned (OpenSpec.upto rootsSpec)

/-- 'lenderlaw.Paths', WHERE WHAT IT READS IS OF BULK AT MOST 1048576: true; the input reads as it did. -/
def pathsUptoRow : OpenClaim := { program := "ytedblhcehlbbmaa", sum := "7cd8619bd5c326b17f419d8193cd3944c1de8e4d585bbc05fcbbef834b5d20c1", func := "lender/lenderlaw.Paths", spec := "paths", recurses := true, apart := false, narrowed := true }
def PathsUptoSaid : Prop := pathsUptoRow.holds Try.pinned (OpenSpec.upto pathsSpec)

/-- 'lenderlaw.Withins', WHERE WHAT IT READS IS OF BULK AT MOST 1048576: true; the input reads as it did. -/
def withinsUptoRow : OpenClaim := { program := "ytedblhcehlbbmaa", sum := "7cd8619bd5c326b17f419d8193cd3944c1de8e4d585bbc05fcbbef834b5d20c1", func := "lender/lenderlaw.Withins", spec := "withins", recurses := true, apart := false, narrowed := true }
def WithinsUptoSaid : Prop := withinsUptoRow.holds Try.pinned (OpenSpec.upto withinsSpec)

/-- 'lenderlaw.Furthers', WHERE WHAT IT READS IS OF BULK AT MOST 1048576: true; the input reads as it did. -/
def furthersUptoRow : OpenClaim := { program := "ytedblhcehlbbmaa", sum := "7cd8619bd5c326b17f419d8193cd3944c1de8e4d585bbc05fcbbef834b5d20c1", func := "lender/lenderlaw.Furthers", spec := "furthers", recurses := true, apart := false, narrowed := true }
def FurthersUptoSaid : Prop := furthersUptoRow.holds Try.pinned (OpenSpec.upto furthersSpec)

/-- 'lenderlaw.Growths', WHERE WHAT IT READS IS OF BULK AT MOST 1048576: true; the input reads as it did. -/
def growthsUptoRow : OpenClaim := { program := "ytedblhcehlbbmaa", sum := "7cd8619bd5c326b17f419d8193cd3944c1de8e4d585bbc05fcbbef834b5d20c1", func := "lender/lenderlaw.Growths", spec := "growths", recurses := true, apart := false, narrowed := true }
def GrowthsUptoSaid : Prop := growthsUptoRow.holds Try.pinned (OpenSpec.upto growthsSpec)

/-- 'lenderlaw.Twin', WHERE WHAT IT READS IS OF BULK AT MOST 1048576: true; the input reads as it did. -/
def twinUptoRow : OpenClaim := { program := "ytedblhcehlbbmaa", sum := "7cd8619bd5c326b17f419d8193cd3944c1de8e4d585bbc05fcbbef834b5d20c1", func := "lender/lenderlaw.Twin", spec := "twin", recurses := true, apart := false, narrowed := true }
def TwinUptoSaid : Prop := twinUptoRow.holds Try.pinned (OpenSpec.upto twinSpec)

/-- 'lenderlaw.Twins', WHERE WHAT IT READS IS OF BULK AT MOST 1048576: true; the input reads as it did. -/
def twinsUptoRow : OpenClaim := { program := "ytedblhcehlbbmaa", sum := "7cd8619bd5c326b17f419d8193cd3944c1de8e4d585bbc05fcbbef834b5d20c1", func := "lender/lenderlaw.Twins", spec := "twins", recurses := true, apart := false, narrowed := true }
def TwinsUptoSaid : Prop := twinsUptoRow.holds Try.pinned (OpenSpec.upto twinsSpec)

end Rows
end Go.Proofs.Ytedblhcehlbbmaa

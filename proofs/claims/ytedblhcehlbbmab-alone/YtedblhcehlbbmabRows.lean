/-
  No cell of these rows narrows 'for every input' (looked for: loops, veiled, ifaces, maps, wideKeys, modest, calm, conditions, laid).
  DERIVED. THE GIVEN ROWS OF THIS SEAT. 5 by the template 'for every input the law returns true; each argument reads behind the call as it read before'; 0 by the template 'total and deterministic' (their statements: YtedblhcehlbbmabTotals.lean).
  GIVEN WITH THE SEED: the statements are not yours to turn. If you find one false, say at which input.
  Laid BY PROGRAM, IN A SANDBOX (cutbox-rows.mjs): the forced cells as the released guide's own fill.sh prints them over the translation 91fd9849a3937d29… (all of the seat's roots in one cut). By AI agents, Wed Nov 11 2026. No macro, syntax, notation, axiom, sorry.
-/
import Derived.Test.YtedblhcehlbbmabChecked
import GoSem.Claim
import GoSem.ClaimJoined
import GoSem.ClaimMapViews
import Derived.JoinedTies
import Derived.KernelRfl
namespace Go.Proofs.Ytedblhcehlbbmab
/- THE CELL 'sum', in the pinned program and in every row, IS THE sha256 OF THE DUMP (.gsa) THAT YtedblhcehlbbmabProg.lean LOADS. Nothing in Lean hashes anything: it is a label: what it is worth is what the hold of that sum in a sandbox is worth. -/
noncomputable def Try.pinned : Pinned := { name := "ytedblhcehlbbmab", sum := "91fd9849a3937d29ef356d9138066412593c2406110dca99ab1b40e69f9230cc", checked := Try.checked }
namespace Rows
def none {H : Type} : Left H := { results := [], args := [] }

/-- 'lenderkeep.Shown': WHATEVER THE INPUT: true; the input reads as it did. -/
def shownSpec : ChangeSpec := { name := "shown", fn := fun _ => fun
  | [d1, d2, d3, d4] => { results := [.lit (.bool true)], args := [d1, d2, d3, d4] }
  | _ => none }
def shownRow : OpenClaim := { program := "ytedblhcehlbbmab", sum := "91fd9849a3937d29ef356d9138066412593c2406110dca99ab1b40e69f9230cc", func := "lender/lenderkeep.Shown", spec := "shown", recurses := true, apart := false }
def ShownSaid : Prop := shownRow.holds Try.pinned (OpenSpec.ofChange shownSpec)

/-- ITS FALSE NEIGHBOUR: 'it returns false'. Refute it at one input. -/
def shownWrong : ChangeSpec := { name := "shown", fn := fun _ => fun
  | [d1, d2, d3, d4] => { results := [.lit (.bool false)], args := [d1, d2, d3, d4] }
  | _ => none }
def ShownWrongFalsely : Prop := shownRow.holds Try.pinned (OpenSpec.ofChange shownWrong)

/-- 'lenderkeep.Alone': WHATEVER THE INPUT: true; the input reads as it did. -/
def aloneSpec : ChangeSpec := { name := "alone", fn := fun _ => fun
  | [d1, d2, d3, d4] => { results := [.lit (.bool true)], args := [d1, d2, d3, d4] }
  | _ => none }
def aloneRow : OpenClaim := { program := "ytedblhcehlbbmab", sum := "91fd9849a3937d29ef356d9138066412593c2406110dca99ab1b40e69f9230cc", func := "lender/lenderkeep.Alone", spec := "alone", recurses := true, apart := false }
def AloneSaid : Prop := aloneRow.holds Try.pinned (OpenSpec.ofChange aloneSpec)

/-- ITS FALSE NEIGHBOUR: 'it returns false'. Refute it at one input. -/
def aloneWrong : ChangeSpec := { name := "alone", fn := fun _ => fun
  | [d1, d2, d3, d4] => { results := [.lit (.bool false)], args := [d1, d2, d3, d4] }
  | _ => none }
def AloneWrongFalsely : Prop := aloneRow.holds Try.pinned (OpenSpec.ofChange aloneWrong)

/-- 'lenderkeep.Grown': WHATEVER THE INPUT: true; the input reads as it did. -/
def grownSpec : ChangeSpec := { name := "grown", fn := fun _ => fun
  | [d1, d2, d3, d4] => { results := [.lit (.bool true)], args := [d1, d2, d3, d4] }
  | _ => none }
def grownRow : OpenClaim := { program := "ytedblhcehlbbmab", sum := "91fd9849a3937d29ef356d9138066412593c2406110dca99ab1b40e69f9230cc", func := "lender/lenderkeep.Grown", spec := "grown", recurses := true, apart := false }
def GrownSaid : Prop := grownRow.holds Try.pinned (OpenSpec.ofChange grownSpec)

/-- ITS FALSE NEIGHBOUR: 'it returns false'. Refute it at one input. -/
def grownWrong : ChangeSpec := { name := "grown", fn := fun _ => fun
  | [d1, d2, d3, d4] => { results := [.lit (.bool false)], args := [d1, d2, d3, d4] }
  | _ => none }
def GrownWrongFalsely : Prop := grownRow.holds Try.pinned (OpenSpec.ofChange grownWrong)

/-- 'lenderkeep.Paid': WHATEVER THE INPUT: true; the input reads as it did. -/
def paidSpec : ChangeSpec := { name := "paid", fn := fun _ => fun
  | [d1, d2] => { results := [.lit (.bool true)], args := [d1, d2] }
  | _ => none }
def paidRow : OpenClaim := { program := "ytedblhcehlbbmab", sum := "91fd9849a3937d29ef356d9138066412593c2406110dca99ab1b40e69f9230cc", func := "lender/lenderkeep.Paid", spec := "paid", apart := false }
def PaidSaid : Prop := paidRow.holds Try.pinned (OpenSpec.ofChange paidSpec)

/-- ITS FALSE NEIGHBOUR: 'it returns false'. Refute it at one input. -/
def paidWrong : ChangeSpec := { name := "paid", fn := fun _ => fun
  | [d1, d2] => { results := [.lit (.bool false)], args := [d1, d2] }
  | _ => none }
def PaidWrongFalsely : Prop := paidRow.holds Try.pinned (OpenSpec.ofChange paidWrong)

/-- 'lenderkeep.Apart': WHATEVER THE INPUT: true; the input reads as it did. -/
def apartSpec : ChangeSpec := { name := "apart", fn := fun _ => fun
  | [d1, d2] => { results := [.lit (.bool true)], args := [d1, d2] }
  | _ => none }
def apartRow : OpenClaim := { program := "ytedblhcehlbbmab", sum := "91fd9849a3937d29ef356d9138066412593c2406110dca99ab1b40e69f9230cc", func := "lender/lenderkeep.Apart", spec := "apart", apart := false }
def ApartSaid : Prop := apartRow.holds Try.pinned (OpenSpec.ofChange apartSpec)

/-- ITS FALSE NEIGHBOUR: 'it returns false'. Refute it at one input. -/
def apartWrong : ChangeSpec := { name := "apart", fn := fun _ => fun
  | [d1, d2] => { results := [.lit (.bool false)], args := [d1, d2] }
  | _ => none }
def ApartWrongFalsely : Prop := apartRow.holds Try.pinned (OpenSpec.ofChange apartWrong)

/- THE SECOND FORM. 'bulk': how many values and letters a reading holds, each counted each time it is reached (what is shared counts as often as it is met; a slice's spare places count too). A statement '..UptoSaid' is the law's where the arguments, and the package variables that the reading takes, are together of bulk at most 1048576: NARROWER than '..Said'. Prove '..Said' where nothing that the law and all that it calls make is longer than what came in: it says more and counts as full. Else prove '..UptoSaid'. A law counts once. -/
mutual
def uptoBulk {H : Type} : DataW H → Nat
  | .lit (.string bytes) => bytes.length + 1
  | .lit _ => 1
  | .nil => 1
  | .ptr d => uptoBulk d + 1
  | .slice elems spare => uptoBulkAll elems + uptoBulkAll spare + 1
  | .agg parts => uptoBulkAll parts + 1
  | .iface _ d => uptoBulk d + 1
  | .map entries => uptoBulkEntries entries + 1
  | .held _ => 1
def uptoBulkAll {H : Type} : List (DataW H) → Nat
  | [] => 0
  | d :: r => uptoBulk d + uptoBulkAll r
def uptoBulkEntries {H : Type} : List (Lit × DataW H) → Nat
  | [] => 0
  | x :: r => uptoBulkEntry x + uptoBulkEntries r
def uptoBulkEntry {H : Type} : Lit × DataW H → Nat
  | (.string bytes, d) => bytes.length + uptoBulk d + 1
  | (_, d) => uptoBulk d + 1
 end
def uptoSmall : (H : Type) → List (DataW H) → Bool := fun _ ds => decide (uptoBulkAll ds ≤ 1048576)
def OpenSpec.upto (s : _root_.Go.ChangeSpec) : _root_.Go.OpenSpec := { _root_.Go.OpenSpec.ofChange s with cond := some uptoSmall }

/-- 'lenderkeep.Shown', WHERE WHAT IT READS IS OF BULK AT MOST 1048576: true; the input reads as it did. -/
def shownUptoRow : OpenClaim := { program := "ytedblhcehlbbmab", sum := "91fd9849a3937d29ef356d9138066412593c2406110dca99ab1b40e69f9230cc", func := "lender/lenderkeep.Shown", spec := "shown", recurses := true, apart := false, narrowed := true }
def ShownUptoSaid : Prop := shownUptoRow.holds Try.pinned (OpenSpec.upto shownSpec)

/-- 'lenderkeep.Alone', WHERE WHAT IT READS IS OF BULK AT MOST 1048576: true; the input reads as it did. -/
def aloneUptoRow : OpenClaim := { program := "ytedblhcehlbbmab", sum := "91fd9849a3937d29ef356d9138066412593c2406110dca99ab1b40e69f9230cc", func := "lender/lenderkeep.Alone", spec := "alone", recurses := true, apart := false, narrowed := true }
def AloneUptoSaid : Prop := aloneUptoRow.holds Try.pinned (OpenSpec.upto aloneSpec)

/-- 'lenderkeep.Grown', WHERE WHAT IT READS IS OF BULK AT MOST 1048576: true; the input reads as it did. -/
def grownUptoRow : OpenClaim := { program := "ytedblhcehlbbmab", sum := "91fd9849a3937d29ef356d9138066412593c2406110dca99ab1b40e69f9230cc", func := "lender/lenderkeep.Grown", spec := "grown", recurses := true, apart := false, narrowed := true }
def GrownUptoSaid : Prop := grownUptoRow.holds Try.pinned (OpenSpec.upto grownSpec)

/-- 'lenderkeep.Paid', WHERE WHAT IT READS IS OF BULK AT MOST 1048576: true; the input reads as it did. -/
def paidUptoRow : OpenClaim := { program := "ytedblhcehlbbmab", sum := "91fd9849a3937d29ef356d9138066412593c2406110dca99ab1b40e69f9230cc", func := "lender/lenderkeep.Paid", spec := "paid", apart := false, narrowed := true }
def PaidUptoSaid : Prop := paidUptoRow.holds Try.pinned (OpenSpec.upto paidSpec)

/-- 'lenderkeep.Apart', WHERE WHAT IT READS IS OF BULK AT MOST 1048576: true; the input reads as it did. -/
def apartUptoRow : OpenClaim := { program := "ytedblhcehlbbmab", sum := "91fd9849a3937d29ef356d9138066412593c2406110dca99ab1b40e69f9230cc", func := "lender/lenderkeep.Apart", spec := "apart", apart := false, narrowed := true }
def ApartUptoSaid : Prop := apartUptoRow.holds Try.pinned (OpenSpec.upto apartSpec)

end Rows
end Go.Proofs.Ytedblhcehlbbmab

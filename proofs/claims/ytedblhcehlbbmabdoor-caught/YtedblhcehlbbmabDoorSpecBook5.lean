/-
  WHAT A BOOK'S CALLS ANSWER (stage 5: Log, Head, Account, Accepts, Lie besides).
-/
import Derived.Test.YtedblhcehlbbmabDoorSpecBook
import Derived.Test.YtedblhcehlbbmabDoorMathMap
import Derived.WalkKit
import Derived.WalkSpells
import Derived.WalkLawsBesides
namespace Go.Proofs.YtedblhcehlbbmabDoor
open Go.RowKit

def zA : Acc := ⟨0, zS, 0, 0, 0, 0, 0, 0, 0, 0⟩
def headV (es : List Ev) : Value := .agg #[.int .i64 (es.length : Int), .int .i64 (logOf es), .int .i64 (mapOf es), .int .i64 (topOf es)]
/-- From the start world w0 on, in which strconv's table lies. lx, ly: the two texts that Lie answers. -/
structure BookSpec5 (w0 : World) (Rep : World → (Nat → Prop) → Value → List Ev → Prop) (lx ly : List Ev → Acc → List UInt8) : Prop extends BookSpec w0 Rep where
  log : ∀ (w : World) (S : Nat → Prop) (v : Value) (es : List Ev), Below w0.heap.size w0 w → Rep w S v es →
    Calls Tryd.prog 11 #[v] w fun r w' => ∃ u, r = .returned u ∧ OwnS w' w.heap.size u (entriesB es) ∧ Below w.heap.size w w'
  head : ∀ (w : World) (S : Nat → Prop) (v : Value) (es : List Ev), Below w0.heap.size w0 w → Rep w S v es →
    Calls Tryd.prog 8 #[v] w fun r w' => r = .returned (headV es) ∧ Below w.heap.size w w'
  account : ∀ (w : World) (S : Nat → Prop) (v : Value) (es : List Ev) (loan : Int), Below w0.heap.size w0 w → Rep w S v es → In64 loan →
    Calls Tryd.prog 9 #[v, .int .i64 loan] w fun r w' => r = .returned (.tuple #[accV (if 0 ≤ loan ∧ loan ≤ 63 then accOf es loan.toNat else zA), .int .i64 (if 0 ≤ loan ∧ loan ≤ 63 then 0 else 1)]) ∧ Below w.heap.size w w'
  accepts : ∀ (w : World) (top : Int) (a : Acc), Below w0.heap.size w0 w → In64 top → Acc64 a →
    Calls Tryd.prog 10 #[.int .i64 top, accV a] w fun r w' => r = .returned (.bool (accB top a)) ∧ Below w.heap.size w w'
  lie : ∀ (w : World) (S : Nat → Prop) (v : Value) (es : List Ev) (a : Acc), Below w0.heap.size w0 w → Rep w S v es → Acc64 a →
    Calls Tryd.prog 16 #[v, accV a] w fun r w' => r = .returned (.tuple #[.string (if calmB es a = true then ⟨#[]⟩ else bs (lx es a)), .string (if calmB es a = true then ⟨#[]⟩ else bs (ly es a)), .int .i64 (if calmB es a = true then 3 else 0)]) ∧ Below w.heap.size w w'

end Go.Proofs.YtedblhcehlbbmabDoor

/-
  WHAT A BOOK'S CALLS ANSWER (stage 4: New, Add, Size, State): the laws are proved out of this; the program's own part proves it.
-/
import Derived.Test.YtedblhcehlbbmabDoorWalkText
import Derived.Test.YtedblhcehlbbmabDoorMathBook
import Derived.WalkKit
import Derived.WalkSpells
import Derived.WalkLawsBesides
namespace Go.Proofs.YtedblhcehlbbmabDoor
open Go.RowKit

/-- All but some blocks is as it was. -/
structure Besides (S : Nat → Prop) (w w' : World) : Prop where
  os : w'.os = w.os
  tape : w'.tape = w.tape
  output : w'.output = w.output
  size : w.heap.size ≤ w'.heap.size
  block : ∀ k, k < w.heap.size → ¬ S k → w'.heap[k]? = w.heap[k]?
theorem Besides.below {S : Nat → Prop} {w w' : World} {B : Nat} (h : Besides S w w') (hB : B ≤ w.heap.size) (hS : ∀ k, S k → B ≤ k) : Below B w w' :=
  ⟨h.os, h.tape, h.output, h.size, fun k hk => h.block k (by omega) (fun hs => by have := hS k hs; omega)⟩
theorem Besides.of_below {S : Nat → Prop} {w w' : World} (h : Below w.heap.size w w') : Besides S w w' := ⟨h.os, h.tape, h.output, h.size, fun k hk _ => h.block k hk⟩

/-- An event as Go's value; a state. -/
def evV (e : Ev) : Value := .agg #[.int .i64 e.loan, .int .i64 e.kind, .int .i64 e.amount, .int .i64 e.day]
def stV (s : St) : Value := .agg #[.int .i64 s.principal, .int .i64 s.due, .int .i64 s.rate, .int .i64 s.day, .int .i64 s.spare, .int .i64 s.count]
/-- May an event be? -/
def mayB (e : Ev) : Bool := decide (0 ≤ e.loan ∧ e.loan ≤ 63) && decide (0 ≤ e.kind ∧ e.kind ≤ 2) && decide ((if e.kind = 2 then 0 else 1) ≤ e.amount ∧ e.amount ≤ (if e.kind = 2 then 1000 else 100000000)) && decide (0 ≤ e.day ∧ e.day ≤ 10000)
theorem mayB_of {e : Ev} (h : MayE e) : mayB e = true := by
  obtain ⟨h1, h2, h3, h4⟩ := h
  unfold mayB
  rw [decide_eq_true h1, decide_eq_true h2, decide_eq_true h3, decide_eq_true h4]; rfl
theorem mayB_out {e : Ev} (h : mayB e = true) : MayE e := by
  unfold mayB at h
  rw [Bool.and_eq_true, Bool.and_eq_true, Bool.and_eq_true, decide_eq_true_eq, decide_eq_true_eq, decide_eq_true_eq, decide_eq_true_eq] at h
  exact ⟨h.1.1.1, h.1.1.2, h.1.2, h.2⟩
/-- Numbers that an int may be. -/
def In64 (n : Int) : Prop := -9223372036854775808 ≤ n ∧ n ≤ 9223372036854775807
def Ev64 (e : Ev) : Prop := In64 e.loan ∧ In64 e.kind ∧ In64 e.amount ∧ In64 e.day
theorem MayE.in64 {e : Ev} (h : MayE e) : Ev64 e := by
  have := h.amount
  obtain ⟨h1, h2, _, h4⟩ := h
  unfold Ev64 In64
  omega
/-- What Add makes of the events. -/
def addL (es : List Ev) (e : Ev) : List Ev := if addN es (mayB e) e.day = 0 then es ++ [e] else es

/-- What a book's calls answer, from the start world w0 on. 'Rep w S v es': in the world w the pointer v holds a book with these events, in the blocks S. -/
structure BookSpec (w0 : World) (Rep : World → (Nat → Prop) → Value → List Ev → Prop) : Prop where
  lt : ∀ {w : World} {S : Nat → Prop} {v : Value} {es : List Ev}, Rep w S v es → ∀ k, S k → k < w.heap.size
  stay : ∀ {w w' : World} {S : Nat → Prop} {v : Value} {es : List Ev}, Rep w S v es → w.heap.size ≤ w'.heap.size → (∀ k, S k → w'.heap[k]? = w.heap[k]?) → Rep w' S v es
  ptr : ∀ {w : World} {S : Nat → Prop} {v : Value} {es : List Ev}, Rep w S v es → ∃ a, v = .pointer (some a)
  good : ∀ {w : World} {S : Nat → Prop} {v : Value} {es : List Ev}, Rep w S v es → GoodE es
  new : ∀ (w : World), Below w0.heap.size w0 w → Calls Tryd.prog 19 #[] w fun r w' => ∃ v S, r = .returned v ∧ Rep w' S v [] ∧ (∀ k, S k → w.heap.size ≤ k) ∧ Below w.heap.size w w'
  add : ∀ (w : World) (S : Nat → Prop) (v : Value) (es : List Ev) (e : Ev), Below w0.heap.size w0 w → Rep w S v es → Ev64 e →
    Calls Tryd.prog 20 #[v, evV e] w fun r w' => r = .returned (.int .i64 (addN es (mayB e) e.day)) ∧ ∃ S', Rep w' S' v (addL es e) ∧ (∀ k, S' k → S k ∨ w.heap.size ≤ k) ∧ Besides S w w'
  state : ∀ (w : World) (S : Nat → Prop) (v : Value) (es : List Ev) (loan : Int), Below w0.heap.size w0 w → Rep w S v es → In64 loan →
    Calls Tryd.prog 17 #[v, .int .i64 loan] w fun r w' => r = .returned (.tuple #[stV (if 0 ≤ loan ∧ loan ≤ 63 then stOf es loan else zS), .int .i64 (if 0 ≤ loan ∧ loan ≤ 63 then 0 else 1)]) ∧ Below w.heap.size w w'

/-- A book whose blocks all lie from B on. -/
def RepB (Rep : World → (Nat → Prop) → Value → List Ev → Prop) (B : Nat) (w : World) (v : Value) (es : List Ev) : Prop := ∃ S, Rep w S v es ∧ ∀ k, S k → B ≤ k
section
variable {w0 : World} {Rep : World → (Nat → Prop) → Value → List Ev → Prop}
theorem BookSpec.keptB (T : BookSpec w0 Rep) {B : Nat} {w w' : World} {v : Value} {es : List Ev} (h : RepB Rep B w v es) (hb : Below w.heap.size w w') : RepB Rep B w' v es := by
  obtain ⟨S, h1, h2⟩ := h
  exact ⟨S, T.stay h1 hb.size (fun k hk => hb.block k (T.lt h1 k hk)), h2⟩
theorem BookSpec.newB (T : BookSpec w0 Rep) (w : World) (h : Below w0.heap.size w0 w) : Calls Tryd.prog 19 #[] w fun r w' => ∃ a, r = .returned (.pointer (some a)) ∧ RepB Rep w.heap.size w' (.pointer (some a)) [] ∧ Below w.heap.size w w' := by
  refine (T.new w h).mono ?_
  rintro r w' ⟨v, S, rfl, h1, h2, h3⟩
  obtain ⟨a, rfl⟩ := T.ptr h1
  exact ⟨a, rfl, ⟨S, h1, h2⟩, h3⟩
theorem BookSpec.addB (T : BookSpec w0 Rep) (B : Nat) (w : World) (v : Value) (es : List Ev) (e : Ev) (h : Below w0.heap.size w0 w) (hr : RepB Rep B w v es) (he : Ev64 e) (hB : B ≤ w.heap.size) :
    Calls Tryd.prog 20 #[v, evV e] w fun r w' => r = .returned (.int .i64 (addN es (mayB e) e.day)) ∧ RepB Rep B w' v (addL es e) ∧ Below B w w' := by
  obtain ⟨S, h1, h2⟩ := hr
  refine (T.add w S v es e h h1 he).mono ?_
  rintro r w' ⟨rfl, S', h3, h4, h5⟩
  exact ⟨rfl, ⟨S', h3, fun k hk => by
    rcases h4 k hk with h | h
    · exact h2 k h
    · omega⟩, h5.below hB h2⟩
theorem BookSpec.addOk (T : BookSpec w0 Rep) (B : Nat) (w : World) (v : Value) (es : List Ev) (e : Ev) (h : Below w0.heap.size w0 w) (hr : RepB Rep B w v es) (hB : B ≤ w.heap.size) (hl : es.length < 200) (hm : MayE e) (hd : lastD es ≤ e.day) :
    Calls Tryd.prog 20 #[v, evV e] w fun r w' => r = .returned (.int .i64 0) ∧ RepB Rep B w' v (es ++ [e]) ∧ Below B w w' := by
  have := T.addB B w v es e h hr hm.in64 hB
  unfold addL at this
  rw [mayB_of hm, addN_ok hl hd, if_pos rfl] at this
  exact this
theorem BookSpec.stateB (T : BookSpec w0 Rep) (B : Nat) (w : World) (v : Value) (es : List Ev) (loan : Int) (h : Below w0.heap.size w0 w) (hr : RepB Rep B w v es) (h0 : 0 ≤ loan) (h1 : loan ≤ 63) :
    Calls Tryd.prog 17 #[v, .int .i64 loan] w fun r w' => r = .returned (.tuple #[stV (stOf es loan), .int .i64 0]) ∧ Below w.heap.size w w' := by
  obtain ⟨S, h3, _⟩ := hr
  have := T.state w S v es loan h h3 ⟨by omega, by omega⟩
  rw [if_pos ⟨h0, h1⟩, if_pos ⟨h0, h1⟩] at this
  exact this
end

end Go.Proofs.YtedblhcehlbbmabDoor

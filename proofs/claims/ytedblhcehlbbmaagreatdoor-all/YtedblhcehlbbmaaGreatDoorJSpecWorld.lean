import Derived.Test.YtedblhcehlbbmaaGreatDoorWalkShelfLie
import Derived.Test.YtedblhcehlbbmaaGreatDoorWalkRefAccount
import Derived.WalkKit
import Derived.WalkSpells
import Derived.WalkLawsBesides
import Derived.Deep.RegionHeld3
import Derived.Deep.QuietTactic
import Derived.BigQuiet
import Derived.Deep.Cut
import Derived.Deep.CutRange
import Derived.Deep.CutBlock
/-
  THE SCRIPT's WORLD: shelves, steps; what a step on a shelf leaves.
-/
namespace Go.Proofs.YtedblhcehlbbmaaGreatDoor
set_option maxRecDepth 20000
open Go.RowKit

/-- A shelf: its block, its two books, the blocks that they lie in, the events, what Lie was asked last. -/
structure Shf where
  L : Nat
  bd : Addr
  rd : Addr
  S : Nat → Prop
  R : Nat → Prop
  es : List Ev
  q : Bool
  a : Acc
  x : ByteArray
  y : ByteArray
structure ShOk (w : World) (s : Shf) : Prop where
  blk : ShB w s.L (.pointer (some s.bd)) (.pointer (some s.rd)) s.q s.a s.x s.y
  book : Rep w s.S (.pointer (some s.bd)) s.es
  ref : RRep w s.R (.pointer (some s.rd)) s.es
  nS : ¬ s.S s.L
  nR : ¬ s.R s.L
  apart : ∀ k, s.S k → ¬ s.R k
  ask : AskOk s.es s.q s.a s.x s.y
/-- The blocks of a shelf. -/
def Shf.own (s : Shf) (k : Nat) : Prop := k = s.L ∨ s.S k ∨ s.R k
theorem ShOk.lt {w : World} {s : Shf} (h : ShOk w s) (k : Nat) (hk : s.own k) : k < w.heap.size := by
  rcases hk with rfl | hk | hk
  · exact h.blk.lt
  · exact h.book.lt k hk
  · exact h.ref.lt k hk
theorem ShOk.stay {w w' : World} {s : Shf} (h : ShOk w s) (hb : ∀ k, s.own k → w'.heap[k]? = w.heap[k]?) : ShOk w' s :=
  ⟨h.blk.of (hb _ (.inl rfl)), h.book.stay (fun k hk => hb k (.inr (.inl hk))), h.ref.stay (fun k hk => hb k (.inr (.inr hk))), h.nS, h.nR, h.apart, h.ask⟩
theorem ShOk.kept {w w' : World} {s : Shf} (h : ShOk w s) (hb : Below w.heap.size w w') : ShOk w' s := h.stay fun k hk => hb.block k (h.lt k hk)
theorem ShOk.good {w : World} {s : Shf} (h : ShOk w s) : GoodE s.es := by obtain ⟨_, _, _, _, _, _, hg, _⟩ := h.book; exact hg

/-- The document's book behind a shelf: where its events lie. -/
theorem ShOk.refAt {w : World} {s : Shf} (h : ShOk w s) : ∃ pr ar cr, s.rd = ⟨pr, 0, none⟩ ∧ w.cell? ⟨pr, 0, none⟩ = some (.slice ar s.es.length cr) ∧ pr < w.heap.size := by
  obtain ⟨p, u, hv, hp, hu, _, _, _⟩ := h.ref
  obtain ⟨a, cap, rfl, _, _, _, _⟩ := hu.form
  cases hv' : s.rd
  rw [hv'] at hv
  cases hv
  exact ⟨p, a, cap, rfl, cell_one hp, lt_of_block hp⟩
theorem ShOk.len {w : World} {s : Shf} (h : ShOk w s) : s.es.length ≤ 200 := h.good.1

/-- What a step on the shelf s leaves. -/
def AskedOk (w : World) (s : Shf) (w' : World) : Prop :=
  ∃ s', ShOk w' s' ∧ s'.L = s.L ∧ (∀ k, s'.S k → s.S k ∨ w.heap.size ≤ k) ∧ (∀ k, s'.R k → s.R k ∨ w.heap.size ≤ k) ∧ Besides s.own w w'
theorem AskedOk.of_below {w w' : World} {s : Shf} (h : ShOk w s) (hb : Below w.heap.size w w') : AskedOk w s w' :=
  ⟨s, h.kept hb, rfl, fun _ hk => .inl hk, fun _ hk => .inl hk, Besides.of_below hb⟩

theorem AskedOk.of_lie {w wc w' : World} {s : Shf} (h : ShOk wc s) (hk : Below w.heap.size w wc) {q : Bool} {a : Acc} {x y : ByteArray} (hB : ShB w' s.L (.pointer (some s.bd)) (.pointer (some s.rd)) q a x y) (hq : AskOk s.es q a x y) (hb : Besides (fun k => k = s.L) wc w') : AskedOk w s w' := by
  refine ⟨⟨s.L, s.bd, s.rd, s.S, s.R, s.es, q, a, x, y⟩, ⟨hB, h.book.stay (fun k hk' => hb.block k (h.book.lt k hk') (fun e => h.nS (by rw [← e]; exact hk'))), h.ref.stay (fun k hk' => hb.block k (h.ref.lt k hk') (fun e => h.nR (by rw [← e]; exact hk'))), h.nS, h.nR, h.apart, hq⟩, rfl, fun _ hk' => .inl hk', fun _ hk' => .inl hk', ?_⟩
  refine ⟨by rw [hb.os, hk.os], by rw [hb.tape, hk.tape], by rw [hb.output, hk.output], Nat.le_trans hk.size hb.size, fun k hk' hn => ?_⟩
  rw [hb.block k (Nat.lt_of_lt_of_le hk' hk.size) (fun e => hn (.inl e)), hk.block k hk']

theorem cell_besides {S : Nat → Prop} {w w' : World} {b i : Nat} {v : Value} (h : w.cell? ⟨b, i, none⟩ = some v) (hb : Besides S w w') (hn : ¬ S b) : w'.cell? ⟨b, i, none⟩ = some v := by
  have hl := World.block_lt_of_cell? _ _ h
  unfold World.cell? at *
  rw [hb.block b hl hn]; exact h
theorem Besides.refl (S : Nat → Prop) (w : World) : Besides S w w := ⟨rfl, rfl, rfl, Nat.le_refl _, fun _ _ _ => rfl⟩
theorem AskedOk.of_add {w w2 w5 w6 w7 : World} {s : Shf} {S' R' : Nat → Prop} {es' : List Ev} {q' : Bool} (h2 : ShOk w2 s) (hk : Below w.heap.size w w2) (hS : Rep w5 S' (.pointer (some s.bd)) es') (hS' : ∀ k, S' k → s.S k ∨ w2.heap.size ≤ k) (hb5 : Besides s.S w2 w5)
    (h6 : ShB w6 s.L (.pointer (some s.bd)) (.pointer (some s.rd)) q' s.a s.x s.y) (hb6 : Besides (fun k => k = s.L) w5 w6) (hR : RRep w7 R' (.pointer (some s.rd)) es') (hR' : ∀ k, R' k → s.R k ∨ w6.heap.size ≤ k) (hb7 : Besides s.R w6 w7) (hq : AskOk es' q' s.a s.x s.y) : AskedOk w s w7 := by
  have hL : s.L < w2.heap.size := h2.blk.lt
  have z1 := hk.size
  have z2 := hb5.size
  have z3 := hb6.size
  have z4 := hb7.size
  have nS : ¬ S' s.L := fun h => by
    rcases hS' _ h with h | h
    · exact h2.nS h
    · omega
  have nR : ¬ R' s.L := fun h => by
    rcases hR' _ h with h | h
    · exact h2.nR h
    · omega
  have hSR : ∀ k, S' k → ¬ s.R k := fun k h hr => by
    rcases hS' _ h with h | h
    · exact h2.apart k h hr
    · have := h2.ref.lt k hr; omega
  refine ⟨⟨s.L, s.bd, s.rd, S', R', es', q', s.a, s.x, s.y⟩, ⟨?_, ?_, hR, nS, nR, ?_, hq⟩, rfl, fun k h => ?_, fun k h => ?_, ?_⟩
  · exact h6.of (hb7.block _ h6.lt h2.nR)
  · refine hS.stay fun k h => ?_
    have hl := hS.lt k h
    rw [hb7.block k (by omega) (hSR k h), hb6.block k hl (fun e => nS (by rw [← e]; exact h))]
  · intro k h hr
    rcases hR' _ hr with hr | hr
    · exact hSR k h hr
    · have := hS.lt k h; omega
  · rcases hS' _ h with h | h
    · exact .inl h
    · exact .inr (by omega)
  · rcases hR' _ h with h | h
    · exact .inl h
    · exact .inr (by omega)
  · refine ⟨by rw [hb7.os, hb6.os, hb5.os, hk.os], by rw [hb7.tape, hb6.tape, hb5.tape, hk.tape], by rw [hb7.output, hb6.output, hb5.output, hk.output], by omega, fun k hk' hn => ?_⟩
    rw [hb7.block k (by omega) (fun h => hn (.inr (.inr h))), hb6.block k (by omega) (fun h => hn (.inl h)), hb5.block k (by omega) (fun h => hn (.inr (.inl h))), hk.block k hk']
theorem ShB.unask {w : World} {L : Nat} {bv rv : Value} {q : Bool} {a : Acc} {x y : ByteArray} (h : ShB w L bv rv q a x y) : ShB (w.setCell ⟨L, 2, none⟩ (.bool false)) L bv rv false a x y := by
  unfold ShB at *
  exact blk_setCell h
theorem besides_setCell (w : World) (L i : Nat) (v : Value) : Besides (fun k => k = L) w (w.setCell ⟨L, i, none⟩ v) := by
  have h0 : Below 0 w (w.setCell ⟨L, i, none⟩ v) := (Below.refl _ _).setCell (Nat.zero_le _) _
  exact ⟨h0.os, h0.tape, h0.output, h0.size, fun k _ hn => Below.heap_setCell _ _ _ _ hn⟩

/-- A step of the script. -/
structure OpI where
  kind : Int
  a : Int
  b : Int
  ev : Ev
  acc : Acc
  l : Value
def Op64 (o : OpI) : Prop := In64 o.kind ∧ In64 o.a ∧ In64 o.b ∧ Ev64 o.ev ∧ Acc64 o.acc
def opC (o : OpI) : Array Value := #[.int .i64 o.kind, .int .i64 o.a, .int .i64 o.b, .int .i64 o.ev.loan, .int .i64 o.ev.kind, .int .i64 o.ev.amount, .int .i64 o.ev.day, .int .i64 o.acc.loan, .int .i64 o.acc.st.principal, .int .i64 o.acc.st.due, .int .i64 o.acc.st.rate, .int .i64 o.acc.st.day, .int .i64 o.acc.st.spare, .int .i64 o.acc.st.count, .int .i64 o.acc.size, .int .i64 o.acc.log, .int .i64 o.acc.p0, .int .i64 o.acc.p1, .int .i64 o.acc.p2, .int .i64 o.acc.p3, .int .i64 o.acc.p4, .int .i64 o.acc.p5, o.l]
def opV (o : OpI) : Value := .agg (opC o)
def BlkO (w : World) (L : Nat) (o : OpI) : Prop := w.heap[L]? = some (.cells (opC o) 39 (0, 0))
theorem BlkO.new (w : World) (o : OpI) : BlkO (w.alloc (.cells (opC o) 39)) w.heap.size o := heap_alloc_new w _
theorem BlkO.lt {w : World} {L : Nat} {o : OpI} (h : BlkO w L o) : L < w.heap.size := lt_of_block h
theorem BlkO.kept {w w' : World} {L : Nat} {o : OpI} (h : BlkO w L o) (hb : Below w.heap.size w w') : BlkO w' L o := by unfold BlkO at *; rw [hb.block L (lt_of_block h)]; exact h
theorem BlkO.cell {w : World} {L : Nat} {o : OpI} (h : BlkO w L o) (i : Nat) (v : Value) (hv : (opC o)[i]? = some v) : w.cell? ⟨L, i, none⟩ = some v := by
  unfold BlkO at h; simp [World.cell?, h, hv]

/-! A state's block made and stored, at a step of a region that draws its order. -/
theorem Blk.new0 (w : World) : Blk (w.alloc (.cells #[.int .i64 0, .int .i64 0, .int .i64 0, .int .i64 0, .int .i64 0, .int .i64 0] 33)) w.heap.size zS := Blk.new w zS
theorem Blk.drewS {w : World} {L : Nat} {a : St} (h : Blk w L a) : Blk w.drew L a := h
theorem six_below {B M : Nat} {w0 w : World} {v0 v1 v2 v3 v4 v5 : Value} (h : Below B w0 w) (hM : B ≤ M) : Below B w0 ((((((w.setCell ⟨M, 0, none⟩ v0).setCell ⟨M, 1, none⟩ v1).setCell ⟨M, 2, none⟩ v2).setCell ⟨M, 3, none⟩ v3).setCell ⟨M, 4, none⟩ v4).setCell ⟨M, 5, none⟩ v5) :=
  (((((h.setCell hM _).setCell hM _).setCell hM _).setCell hM _).setCell hM _).setCell hM _
theorem ge_ofS {w1 X w5 : World} {a : St} (_ : Blk w5 X.heap.size a) (hX : Below w1.heap.size w1 X) : w1.heap.size ≤ X.heap.size := hX.size
theorem Blk.zs {w : World} {L : Nat} (h : Blk w L zS) : w.cell? ⟨L, 0, none⟩ = some (.int .i64 0) ∧ w.cell? ⟨L, 1, none⟩ = some (.int .i64 0) ∧ w.cell? ⟨L, 2, none⟩ = some (.int .i64 0) ∧ w.cell? ⟨L, 3, none⟩ = some (.int .i64 0) ∧ w.cell? ⟨L, 4, none⟩ = some (.int .i64 0) ∧ w.cell? ⟨L, 5, none⟩ = some (.int .i64 0) ∧ w.frozen? ⟨L, 0, none⟩ = false ∧ w.frozen? ⟨L, 1, none⟩ = false ∧ w.frozen? ⟨L, 2, none⟩ = false ∧ w.frozen? ⟨L, 3, none⟩ = false ∧ w.frozen? ⟨L, 4, none⟩ = false ∧ w.frozen? ⟨L, 5, none⟩ = false :=
  ⟨h.six.1, h.six.2.1, h.six.2.2.1, h.six.2.2.2.1, h.six.2.2.2.2.1, h.six.2.2.2.2.2, h.free 0, h.free 1, h.free 2, h.free 3, h.free 4, h.free 5⟩
theorem st_meet1 {w1 w5 : World} {E : Value} (X : St) (hk5 : Below w1.heap.size w1 w5) :
    ∃ M, Value.pointer (some ⟨w5.heap.size, 0, none⟩) = .pointer (some ⟨M, 0, none⟩) ∧ E = E ∧ Hid (Blk (w5.alloc (.cells #[.int .i64 X.principal, .int .i64 X.due, .int .i64 X.rate, .int .i64 X.day, .int .i64 X.spare, .int .i64 X.count] 33)) M X) ∧ Below w1.heap.size w1 (w5.alloc (.cells #[.int .i64 X.principal, .int .i64 X.due, .int .i64 X.rate, .int .i64 X.day, .int .i64 X.spare, .int .i64 X.count] 33)) :=
  ⟨w5.heap.size, rfl, rfl, Blk.new w5 X, hk5.alloc hk5.size _⟩
theorem st_meet2 {w1 w5 : World} {M : Nat} {E : Value} {Z : St} (X : St) (hk5 : Below w1.heap.size w1 w5) (HM : Blk w5 M Z) (HMB : w1.heap.size ≤ M) :
    ∃ M', Value.pointer (some ⟨M, 0, none⟩) = .pointer (some ⟨M', 0, none⟩) ∧ E = E ∧ Hid (Blk ((((((w5.setCell ⟨M, 0, none⟩ (.int .i64 X.principal)).setCell ⟨M, 1, none⟩ (.int .i64 X.due)).setCell ⟨M, 2, none⟩ (.int .i64 X.rate)).setCell ⟨M, 3, none⟩ (.int .i64 X.day)).setCell ⟨M, 4, none⟩ (.int .i64 X.spare)).setCell ⟨M, 5, none⟩ (.int .i64 X.count)) M' X) ∧ Below w1.heap.size w1 ((((((w5.setCell ⟨M, 0, none⟩ (.int .i64 X.principal)).setCell ⟨M, 1, none⟩ (.int .i64 X.due)).setCell ⟨M, 2, none⟩ (.int .i64 X.rate)).setCell ⟨M, 3, none⟩ (.int .i64 X.day)).setCell ⟨M, 4, none⟩ (.int .i64 X.spare)).setCell ⟨M, 5, none⟩ (.int .i64 X.count)) :=
  ⟨M, rfl, rfl, put6_blk HM X, six_below hk5 HMB⟩

/-! An account's block made and stored, likewise. -/
theorem ac_meet1 {w1 w5 : World} {E : Value} (A : Acc) (hk5 : Below w1.heap.size w1 w5) :
    ∃ M, Value.pointer (some ⟨w5.heap.size, 0, none⟩) = .pointer (some ⟨M, 0, none⟩) ∧ E = E ∧ Hid (BlkA (w5.alloc (.cells #[.int .i64 A.loan, .int .i64 A.st.principal, .int .i64 A.st.due, .int .i64 A.st.rate, .int .i64 A.st.day, .int .i64 A.st.spare, .int .i64 A.st.count, .int .i64 A.size, .int .i64 A.log, .int .i64 A.p0, .int .i64 A.p1, .int .i64 A.p2, .int .i64 A.p3, .int .i64 A.p4, .int .i64 A.p5] 36)) M A) ∧ Hid (w1.heap.size ≤ M) ∧ Below w1.heap.size w1 (w5.alloc (.cells #[.int .i64 A.loan, .int .i64 A.st.principal, .int .i64 A.st.due, .int .i64 A.st.rate, .int .i64 A.st.day, .int .i64 A.st.spare, .int .i64 A.st.count, .int .i64 A.size, .int .i64 A.log, .int .i64 A.p0, .int .i64 A.p1, .int .i64 A.p2, .int .i64 A.p3, .int .i64 A.p4, .int .i64 A.p5] 36)) :=
  ⟨w5.heap.size, rfl, rfl, BlkA.new w5 A, hk5.size, hk5.alloc hk5.size _⟩
theorem ac_meet2 {w1 w5 : World} {M : Nat} {E : Value} {Z : Acc} (A : Acc) (hk5 : Below w1.heap.size w1 w5) (HM : BlkA w5 M Z) (HMB : w1.heap.size ≤ M) :
    ∃ M', Value.pointer (some ⟨M, 0, none⟩) = .pointer (some ⟨M', 0, none⟩) ∧ E = E ∧ Hid (BlkA (((((((((((((((w5.setCell ⟨M, 0, none⟩ (.int .i64 A.loan)).setCell ⟨M, 1, none⟩ (.int .i64 A.st.principal)).setCell ⟨M, 2, none⟩ (.int .i64 A.st.due)).setCell ⟨M, 3, none⟩ (.int .i64 A.st.rate)).setCell ⟨M, 4, none⟩ (.int .i64 A.st.day)).setCell ⟨M, 5, none⟩ (.int .i64 A.st.spare)).setCell ⟨M, 6, none⟩ (.int .i64 A.st.count)).setCell ⟨M, 7, none⟩ (.int .i64 A.size)).setCell ⟨M, 8, none⟩ (.int .i64 A.log)).setCell ⟨M, 9, none⟩ (.int .i64 A.p0)).setCell ⟨M, 10, none⟩ (.int .i64 A.p1)).setCell ⟨M, 11, none⟩ (.int .i64 A.p2)).setCell ⟨M, 12, none⟩ (.int .i64 A.p3)).setCell ⟨M, 13, none⟩ (.int .i64 A.p4)).setCell ⟨M, 14, none⟩ (.int .i64 A.p5)) M' A) ∧ Hid (w1.heap.size ≤ M') ∧ Below w1.heap.size w1 (((((((((((((((w5.setCell ⟨M, 0, none⟩ (.int .i64 A.loan)).setCell ⟨M, 1, none⟩ (.int .i64 A.st.principal)).setCell ⟨M, 2, none⟩ (.int .i64 A.st.due)).setCell ⟨M, 3, none⟩ (.int .i64 A.st.rate)).setCell ⟨M, 4, none⟩ (.int .i64 A.st.day)).setCell ⟨M, 5, none⟩ (.int .i64 A.st.spare)).setCell ⟨M, 6, none⟩ (.int .i64 A.st.count)).setCell ⟨M, 7, none⟩ (.int .i64 A.size)).setCell ⟨M, 8, none⟩ (.int .i64 A.log)).setCell ⟨M, 9, none⟩ (.int .i64 A.p0)).setCell ⟨M, 10, none⟩ (.int .i64 A.p1)).setCell ⟨M, 11, none⟩ (.int .i64 A.p2)).setCell ⟨M, 12, none⟩ (.int .i64 A.p3)).setCell ⟨M, 13, none⟩ (.int .i64 A.p4)).setCell ⟨M, 14, none⟩ (.int .i64 A.p5)) :=
  ⟨M, rfl, rfl, BlkA.all HM A, HMB, chain_below hk5 HMB⟩
theorem run_eql_zA (w : World) : (binOp .eql 36 (.agg #[.int .i64 0, .int .i64 0, .int .i64 0, .int .i64 0, .int .i64 0, .int .i64 0, .int .i64 0, .int .i64 0, .int .i64 0, .int .i64 0, .int .i64 0, .int .i64 0, .int .i64 0, .int .i64 0, .int .i64 0]) (.agg #[.int .i64 0, .int .i64 0, .int .i64 0, .int .i64 0, .int .i64 0, .int .i64 0, .int .i64 0, .int .i64 0, .int .i64 0, .int .i64 0, .int .i64 0, .int .i64 0, .int .i64 0, .int .i64 0, .int .i64 0])).run Tryz.prog w = .ok (.bool true) w := by
  have := run_eql_acc w zA zA
  rw [accEq_self] at this
  exact this
/-- A state put into an account. -/
def withSt (a : Acc) (t : St) : Acc := ⟨a.loan, t, a.size, a.log, a.p0, a.p1, a.p2, a.p3, a.p4, a.p5⟩
theorem BlkA.withSt {w : World} {M : Nat} {a : Acc} (h : BlkA w M a) (t : St) : BlkA ((((((w.setCell ⟨M, 1, none⟩ (.int .i64 t.principal)).setCell ⟨M, 2, none⟩ (.int .i64 t.due)).setCell ⟨M, 3, none⟩ (.int .i64 t.rate)).setCell ⟨M, 4, none⟩ (.int .i64 t.day)).setCell ⟨M, 5, none⟩ (.int .i64 t.spare)).setCell ⟨M, 6, none⟩ (.int .i64 t.count)) M (Go.Proofs.YtedblhcehlbbmaaGreatDoor.withSt a t) := by
  unfold BlkA at *
  exact blk_setCell (blk_setCell (blk_setCell (blk_setCell (blk_setCell (blk_setCell h)))))
theorem six_below1 {B M : Nat} {w0 w : World} {t : St} (h : Below B w0 w) (hM : B ≤ M) : Below B w0 ((((((w.setCell ⟨M, 1, none⟩ (.int .i64 t.principal)).setCell ⟨M, 2, none⟩ (.int .i64 t.due)).setCell ⟨M, 3, none⟩ (.int .i64 t.rate)).setCell ⟨M, 4, none⟩ (.int .i64 t.day)).setCell ⟨M, 5, none⟩ (.int .i64 t.spare)).setCell ⟨M, 6, none⟩ (.int .i64 t.count)) :=
  (((((h.setCell hM _).setCell hM _).setCell hM _).setCell hM _).setCell hM _).setCell hM _
theorem withSt_64 {a b : Acc} (ha : Acc64 a) (hb : Acc64 b) : Acc64 (Go.Proofs.YtedblhcehlbbmaaGreatDoor.withSt a b.st) := ⟨ha.1, hb.2.1, ha.2.2.1, ha.2.2.2.1, ha.2.2.2.2⟩

/-- The world's books as 'asked' meets them: the row of shelves, and the shelf that the step speaks of. -/
structure AskIn (w : World) (Wb g n cap : Nat) (o : OpI) (s : Shf) : Prop where
  top : w.cell? ⟨Wb, 0, none⟩ = some (.slice (some ⟨g, 0, none⟩) n cap)
  pos : 0 < n
  few : n ≤ 1000000000000
  row : w.cell? ⟨g, pickI o.a n, none⟩ = some (.pointer (some ⟨s.L, 0, none⟩))
  sh : ShOk w s
  base : ∃ w0, TabOk w0 ∧ Below w0.heap.size w0 w ∧ w0.heap.size ≤ s.L
  o64 : Op64 o
theorem AskIn.tab {w : World} {Wb g n cap : Nat} {o : OpI} {s : Shf} (h : AskIn w Wb g n cap o s) : TabOk w := by
  obtain ⟨w0, h1, h2, _⟩ := h.base
  exact h1.kept h2
/-- Is there such a loan? -/
def thereB (b : Int) : Bool := decide (0 ≤ b) && decide (b < 64)
theorem thereB_true {b : Int} (h : thereB b = true) : 0 ≤ b ∧ b ≤ 63 := by
  unfold thereB at h
  rw [Bool.and_eq_true, decide_eq_true_eq, decide_eq_true_eq] at h
  omega
theorem thereB_false {b : Int} (h : thereB b = false) : ¬ (0 ≤ b ∧ b ≤ 63) := by
  unfold thereB at h
  intro hc
  rw [decide_eq_true hc.1, decide_eq_true (by omega : b < 64)] at h
  cases h

end Go.Proofs.YtedblhcehlbbmaaGreatDoor


/-
  A QUERY OF A BOOK: lenderlaw.World.asked: Size, Lie, Head.
-/
namespace Go.Proofs.YtedblhcehlbbmaaGreatDoor
set_option maxRecDepth 20000
open Go.RowKit

set_option maxHeartbeats 8000000 in
theorem asked_size (w : World) (Wb g n cap : Nat) (o : OpI) (s : Shf) (hI : AskIn w Wb g n cap o s) (hk : o.kind = 3) :
    Calls Tryz.prog 9 #[.pointer (some ⟨Wb, 0, none⟩), opV o] w fun r w' => r = .returned (.bool true) ∧ AskedOk w s w' := by
  have HI := hid hI
  have hn1 := hI.few
  have hn0 := hI.pos
  have HPK : Hid (∀ wz, Calls Tryz.prog 17 #[.int .i64 o.a, .int .i64 (n : Int)] wz fun e w' => e = .returned (.int .i64 ((pickI o.a n : Nat) : Int)) ∧ w' = wz) := fun wz => lpick_any o.a n wz hI.o64.2.1 hI.pos (by have := hI.few; omega)
  obtain ⟨p, hp⟩ : ∃ p, p = pickI o.a n := ⟨_, rfl⟩
  have hpn : p < n := by rw [hp]; exact pickI_lt _ _ hI.pos
  have i1 : (0 : Int) ≤ (p : Int) := by omega
  have i2 : (p : Int) < (n : Int) := by omega
  rw [← hp] at HPK
  have HP := hid hp
  have HKD := hid hk
  clear hp hI
  obtain ⟨A, hA⟩ : ∃ A, A = w.heap.size := ⟨_, rfl⟩
  unfold opV opC
  rw [hk]
  go_enter Tryz.func9, Tryz.ntmps9
  go_upto_region 1 with fail
  rw [← hA]
  have HO1 : Hid (BlkO (w.alloc (.cells (opC o) 39)) A o) := by show BlkO _ _ _; rw [hA]; exact BlkO.new w o
  have hk1 : Below w.heap.size w (w.alloc (.cells (opC o) 39)) := (Below.refl _ _).alloc (Nat.le_refl _) _
  unfold opC at HO1 hk1
  rw [hk] at HO1 hk1
  generalize World.alloc w _ = w1 at *
  generalize Value.agg _ = OV
  have cO1 : w1.cell? ⟨A, 1, none⟩ = some (.int .i64 o.a) := HO1.out.cell 1 _ rfl
  have cW := cell_kept HI.out.top hk1
  have cR : w1.cell? ⟨g, p, none⟩ = some (.pointer (some ⟨s.L, 0, none⟩)) := by rw [HP.out]; exact cell_kept HI.out.row hk1
  have HAW : Hid (w.heap.size ≤ A) := by show _ ≤ _; rw [hA]; exact Nat.le_refl _
  clear hA hk
  go_quiet ((go_at_call 17; exact Calls.quiet_of_same (HPK.out _)))
  have hk2 := below_drewN hk1 nq
  have HO2 : Hid (BlkO (w1.drewN nq) A o) := HO1.out
  clear cO1 cW cR HPK HO1 hk1
  generalize w1.drewN nq = w2 at *
  clear i1 i2
  go_upto_region 2 with fail
  have cB : w2.cell? ⟨A, 2, none⟩ = some (.int .i64 o.b) := HO2.out.cell 2 _ rfl
  go_cut [6] from 31 to 38 (fun v wx => v = .bool (thereB o.b) ∧ wx = w2)
  case first =>
    by_cases h0 : 0 ≤ o.b
    · by_cases h1 : o.b < 64
      · have HT : Hid (thereB o.b = true) := by show _ = _; unfold thereB; rw [decide_eq_true h0, decide_eq_true h1]; rfl
        go_wp2_with fail
        go_meet
        exact ⟨by rw [HT.out], rfl⟩
      · have HT : Hid (thereB o.b = false) := by show _ = _; unfold thereB; rw [decide_eq_true h0, decide_eq_false h1]; rfl
        go_wp2_with fail
        go_meet
        exact ⟨by rw [HT.out], rfl⟩
    · have HT : Hid (thereB o.b = false) := by show _ = _; unfold thereB; rw [decide_eq_false h0]; rfl
      go_wp2_with fail
      go_meet
      exact ⟨by rw [HT.out], rfl⟩
  case rest =>
  obtain ⟨rfl, hwc⟩ := hcut
  have hwc2 := hwc.symm
  clear hwc
  subst hwc2
  have cK : w2.cell? ⟨A, 0, none⟩ = some (.int .i64 3) := by rw [← HKD.out]; exact HO2.out.cell 0 _ rfl
  have HS2 := hid (HI.out.sh.kept hk2)
  have HTB := hid (HI.out.tab.kept hk2)
  have lA : A < w2.heap.size := HO2.out.lt
  have lL : s.L < w2.heap.size := HS2.out.blk.lt
  have cS0 : w2.cell? ⟨s.L, 0, none⟩ = some (.pointer (some s.bd)) := HS2.out.blk.cell 0 _ rfl
  have cS1 : w2.cell? ⟨s.L, 1, none⟩ = some (.pointer (some s.rd)) := HS2.out.blk.cell 1 _ rfl
  go_wp2_with fail
  refine (size_any w2 s.S _ s.es HS2.out.book).mono ?_
  rintro ee w3 ⟨rfl, hb3⟩
  have HS3 := hid (HS2.out.kept hb3)
  have c1 : w3.cell? ⟨s.L, 1, none⟩ = some (.pointer (some s.rd)) := HS3.out.blk.cell 1 _ rfl
  obtain ⟨pr, ar, cr, hrd, hcr, hpr⟩ := HS3.out.refAt
  rw [hrd] at c1
  have l3 : s.L < w3.heap.size := HS3.out.blk.lt
  have h200 := HS3.out.len
  have HB3 := hid (kept hk2 hb3)
  clear hrd cS0 cS1 lA lL cK cB hk2 hb3
  generalize s.es.length = m at *
  go_wp2_with fail
  go_ret
  exact ⟨rfl, AskedOk.of_below HI.out.sh HB3.out⟩

set_option maxHeartbeats 8000000 in
theorem asked_lie (w : World) (Wb g n cap : Nat) (o : OpI) (s : Shf) (hI : AskIn w Wb g n cap o s) (hk : o.kind = 8) :
    Calls Tryz.prog 9 #[.pointer (some ⟨Wb, 0, none⟩), opV o] w fun r w' => r = .returned (.bool true) ∧ AskedOk w s w' := by
  have HI := hid hI
  have hn1 := hI.few
  have hn0 := hI.pos
  have HPK : Hid (∀ wz, Calls Tryz.prog 17 #[.int .i64 o.a, .int .i64 (n : Int)] wz fun e w' => e = .returned (.int .i64 ((pickI o.a n : Nat) : Int)) ∧ w' = wz) := fun wz => lpick_any o.a n wz hI.o64.2.1 hI.pos (by have := hI.few; omega)
  obtain ⟨p, hp⟩ : ∃ p, p = pickI o.a n := ⟨_, rfl⟩
  have hpn : p < n := by rw [hp]; exact pickI_lt _ _ hI.pos
  have i1 : (0 : Int) ≤ (p : Int) := by omega
  have i2 : (p : Int) < (n : Int) := by omega
  rw [← hp] at HPK
  have HP := hid hp
  have HKD := hid hk
  clear hp hI
  obtain ⟨A, hA⟩ : ∃ A, A = w.heap.size := ⟨_, rfl⟩
  unfold opV opC
  rw [hk]
  go_enter Tryz.func9, Tryz.ntmps9
  go_upto_region 1 with fail
  rw [← hA]
  have HO1 : Hid (BlkO (w.alloc (.cells (opC o) 39)) A o) := by show BlkO _ _ _; rw [hA]; exact BlkO.new w o
  have hk1 : Below w.heap.size w (w.alloc (.cells (opC o) 39)) := (Below.refl _ _).alloc (Nat.le_refl _) _
  unfold opC at HO1 hk1
  rw [hk] at HO1 hk1
  generalize World.alloc w _ = w1 at *
  generalize Value.agg _ = OV
  have cO1 : w1.cell? ⟨A, 1, none⟩ = some (.int .i64 o.a) := HO1.out.cell 1 _ rfl
  have cW := cell_kept HI.out.top hk1
  have cR : w1.cell? ⟨g, p, none⟩ = some (.pointer (some ⟨s.L, 0, none⟩)) := by rw [HP.out]; exact cell_kept HI.out.row hk1
  have HAW : Hid (w.heap.size ≤ A) := by show _ ≤ _; rw [hA]; exact Nat.le_refl _
  clear hA hk
  go_quiet ((go_at_call 17; exact Calls.quiet_of_same (HPK.out _)))
  have hk2 := below_drewN hk1 nq
  have HO2 : Hid (BlkO (w1.drewN nq) A o) := HO1.out
  clear cO1 cW cR HPK HO1 hk1
  generalize w1.drewN nq = w2 at *
  clear i1 i2
  go_upto_region 2 with fail
  have cB : w2.cell? ⟨A, 2, none⟩ = some (.int .i64 o.b) := HO2.out.cell 2 _ rfl
  go_cut [6] from 31 to 38 (fun v wx => v = .bool (thereB o.b) ∧ wx = w2)
  case first =>
    by_cases h0 : 0 ≤ o.b
    · by_cases h1 : o.b < 64
      · have HT : Hid (thereB o.b = true) := by show _ = _; unfold thereB; rw [decide_eq_true h0, decide_eq_true h1]; rfl
        go_wp2_with fail
        go_meet
        exact ⟨by rw [HT.out], rfl⟩
      · have HT : Hid (thereB o.b = false) := by show _ = _; unfold thereB; rw [decide_eq_true h0, decide_eq_false h1]; rfl
        go_wp2_with fail
        go_meet
        exact ⟨by rw [HT.out], rfl⟩
    · have HT : Hid (thereB o.b = false) := by show _ = _; unfold thereB; rw [decide_eq_false h0]; rfl
      go_wp2_with fail
      go_meet
      exact ⟨by rw [HT.out], rfl⟩
  case rest =>
  obtain ⟨rfl, hwc⟩ := hcut
  have hwc2 := hwc.symm
  clear hwc
  subst hwc2
  have cK : w2.cell? ⟨A, 0, none⟩ = some (.int .i64 8) := by rw [← HKD.out]; exact HO2.out.cell 0 _ rfl
  have HS2 := hid (HI.out.sh.kept hk2)
  have HTB := hid (HI.out.tab.kept hk2)
  have lA : A < w2.heap.size := HO2.out.lt
  have lL : s.L < w2.heap.size := HS2.out.blk.lt
  have cS0 : w2.cell? ⟨s.L, 0, none⟩ = some (.pointer (some s.bd)) := HS2.out.blk.cell 0 _ rfl
  have cS1 : w2.cell? ⟨s.L, 1, none⟩ = some (.pointer (some s.rd)) := HS2.out.blk.cell 1 _ rfl
  have e0 : w2.cell? ⟨A, 7, none⟩ = some (.int .i64 o.acc.loan) := HO2.out.cell 7 _ rfl
  have e1 : w2.cell? ⟨A, 8, none⟩ = some (.int .i64 o.acc.st.principal) := HO2.out.cell 8 _ rfl
  have e2 : w2.cell? ⟨A, 9, none⟩ = some (.int .i64 o.acc.st.due) := HO2.out.cell 9 _ rfl
  have e3 : w2.cell? ⟨A, 10, none⟩ = some (.int .i64 o.acc.st.rate) := HO2.out.cell 10 _ rfl
  have e4 : w2.cell? ⟨A, 11, none⟩ = some (.int .i64 o.acc.st.day) := HO2.out.cell 11 _ rfl
  have e5 : w2.cell? ⟨A, 12, none⟩ = some (.int .i64 o.acc.st.spare) := HO2.out.cell 12 _ rfl
  have e6 : w2.cell? ⟨A, 13, none⟩ = some (.int .i64 o.acc.st.count) := HO2.out.cell 13 _ rfl
  have e7 : w2.cell? ⟨A, 14, none⟩ = some (.int .i64 o.acc.size) := HO2.out.cell 14 _ rfl
  have e8 : w2.cell? ⟨A, 15, none⟩ = some (.int .i64 o.acc.log) := HO2.out.cell 15 _ rfl
  have e9 : w2.cell? ⟨A, 16, none⟩ = some (.int .i64 o.acc.p0) := HO2.out.cell 16 _ rfl
  have e10 : w2.cell? ⟨A, 17, none⟩ = some (.int .i64 o.acc.p1) := HO2.out.cell 17 _ rfl
  have e11 : w2.cell? ⟨A, 18, none⟩ = some (.int .i64 o.acc.p2) := HO2.out.cell 18 _ rfl
  have e12 : w2.cell? ⟨A, 19, none⟩ = some (.int .i64 o.acc.p3) := HO2.out.cell 19 _ rfl
  have e13 : w2.cell? ⟨A, 20, none⟩ = some (.int .i64 o.acc.p4) := HO2.out.cell 20 _ rfl
  have e14 : w2.cell? ⟨A, 21, none⟩ = some (.int .i64 o.acc.p5) := HO2.out.cell 21 _ rfl
  obtain ⟨w0, ht0, hb0, hL0⟩ := HI.out.base
  have HLL := hid (lieLaw_any w2 s.S s.R s.L s.bd s.rd s.es s.q s.a s.x s.y o.acc HS2.out.blk HS2.out.book HS2.out.ref HS2.out.nS HS2.out.nR HS2.out.ask HI.out.o64.2.2.2.2 w0 ht0 (hb0.trans (hk2.mono hb0.size)) hL0)
  unfold accV at HLL
  clear ht0 hb0 hL0
  go_wp2_with fail
  refine HLL.out.mono ?_
  rintro ee w3 ⟨rfl, ⟨q', a', x', y', hB', hQ'⟩, hbs⟩
  have HFI := hid (AskedOk.of_lie HS2.out hk2 hB' hQ' hbs)
  clear hB' hQ' hbs HLL cS0 cS1 lA lL cK cB hk2 e0 e1 e2 e3 e4 e5 e6 e7 e8 e9 e10 e11 e12 e13 e14
  go_wp2_with fail
  go_ret
  exact ⟨rfl, HFI.out⟩

set_option maxHeartbeats 8000000 in
theorem asked_head (w : World) (Wb g n cap : Nat) (o : OpI) (s : Shf) (hI : AskIn w Wb g n cap o s) (hk : o.kind = 6) :
    Calls Tryz.prog 9 #[.pointer (some ⟨Wb, 0, none⟩), opV o] w fun r w' => r = .returned (.bool true) ∧ AskedOk w s w' := by
  have HI := hid hI
  have hn1 := hI.few
  have hn0 := hI.pos
  have HPK : Hid (∀ wz, Calls Tryz.prog 17 #[.int .i64 o.a, .int .i64 (n : Int)] wz fun e w' => e = .returned (.int .i64 ((pickI o.a n : Nat) : Int)) ∧ w' = wz) := fun wz => lpick_any o.a n wz hI.o64.2.1 hI.pos (by have := hI.few; omega)
  obtain ⟨p, hp⟩ : ∃ p, p = pickI o.a n := ⟨_, rfl⟩
  have hpn : p < n := by rw [hp]; exact pickI_lt _ _ hI.pos
  have i1 : (0 : Int) ≤ (p : Int) := by omega
  have i2 : (p : Int) < (n : Int) := by omega
  rw [← hp] at HPK
  have HP := hid hp
  have HKD := hid hk
  clear hp hI
  obtain ⟨A, hA⟩ : ∃ A, A = w.heap.size := ⟨_, rfl⟩
  unfold opV opC
  rw [hk]
  go_enter Tryz.func9, Tryz.ntmps9
  go_upto_region 1 with fail
  rw [← hA]
  have HO1 : Hid (BlkO (w.alloc (.cells (opC o) 39)) A o) := by show BlkO _ _ _; rw [hA]; exact BlkO.new w o
  have hk1 : Below w.heap.size w (w.alloc (.cells (opC o) 39)) := (Below.refl _ _).alloc (Nat.le_refl _) _
  unfold opC at HO1 hk1
  rw [hk] at HO1 hk1
  generalize World.alloc w _ = w1 at *
  generalize Value.agg _ = OV
  have cO1 : w1.cell? ⟨A, 1, none⟩ = some (.int .i64 o.a) := HO1.out.cell 1 _ rfl
  have cW := cell_kept HI.out.top hk1
  have cR : w1.cell? ⟨g, p, none⟩ = some (.pointer (some ⟨s.L, 0, none⟩)) := by rw [HP.out]; exact cell_kept HI.out.row hk1
  have HAW : Hid (w.heap.size ≤ A) := by show _ ≤ _; rw [hA]; exact Nat.le_refl _
  clear hA hk
  go_quiet ((go_at_call 17; exact Calls.quiet_of_same (HPK.out _)))
  have hk2 := below_drewN hk1 nq
  have HO2 : Hid (BlkO (w1.drewN nq) A o) := HO1.out
  clear cO1 cW cR HPK HO1 hk1
  generalize w1.drewN nq = w2 at *
  clear i1 i2
  go_upto_region 2 with fail
  have cB : w2.cell? ⟨A, 2, none⟩ = some (.int .i64 o.b) := HO2.out.cell 2 _ rfl
  go_cut [6] from 31 to 38 (fun v wx => v = .bool (thereB o.b) ∧ wx = w2)
  case first =>
    by_cases h0 : 0 ≤ o.b
    · by_cases h1 : o.b < 64
      · have HT : Hid (thereB o.b = true) := by show _ = _; unfold thereB; rw [decide_eq_true h0, decide_eq_true h1]; rfl
        go_wp2_with fail
        go_meet
        exact ⟨by rw [HT.out], rfl⟩
      · have HT : Hid (thereB o.b = false) := by show _ = _; unfold thereB; rw [decide_eq_true h0, decide_eq_false h1]; rfl
        go_wp2_with fail
        go_meet
        exact ⟨by rw [HT.out], rfl⟩
    · have HT : Hid (thereB o.b = false) := by show _ = _; unfold thereB; rw [decide_eq_false h0]; rfl
      go_wp2_with fail
      go_meet
      exact ⟨by rw [HT.out], rfl⟩
  case rest =>
  obtain ⟨rfl, hwc⟩ := hcut
  have hwc2 := hwc.symm
  clear hwc
  subst hwc2
  have cK : w2.cell? ⟨A, 0, none⟩ = some (.int .i64 6) := by rw [← HKD.out]; exact HO2.out.cell 0 _ rfl
  have HS2 := hid (HI.out.sh.kept hk2)
  have HTB := hid (HI.out.tab.kept hk2)
  have lA : A < w2.heap.size := HO2.out.lt
  have lL : s.L < w2.heap.size := HS2.out.blk.lt
  have cS0 : w2.cell? ⟨s.L, 0, none⟩ = some (.pointer (some s.bd)) := HS2.out.blk.cell 0 _ rfl
  have cS1 : w2.cell? ⟨s.L, 1, none⟩ = some (.pointer (some s.rd)) := HS2.out.blk.cell 1 _ rfl
  go_wp2_with fail
  refine (head_any w2 s.S _ s.es HS2.out.book HTB.out).mono ?_
  rintro ee w3 ⟨rfl, hb3⟩
  have HS3 := hid (HS2.out.kept hb3)
  have HB3 := hid (kept hk2 hb3)
  have HT3 := hid (HTB.out.kept hb3)
  obtain ⟨H, hH⟩ : ∃ H, H = w3.heap.size := ⟨_, rfl⟩
  unfold headV
  obtain ⟨z0, z1, z2, z3⟩ := cell_four w3 (.int .i64 (s.es.length : Int)) (.int .i64 (logOf s.es)) (.int .i64 (mapOf s.es)) (.int .i64 (topOf s.es)) 71
  have hk4 : Below w3.heap.size w3 (w3.alloc (.cells #[.int .i64 (s.es.length : Int), .int .i64 (logOf s.es), .int .i64 (mapOf s.es), .int .i64 (topOf s.es)] 71)) := (Below.refl _ _).alloc (Nat.le_refl _) _
  rw [← hH] at z0 z1 z2 z3
  clear cS0 cS1 lA lL cK cB hk2 hb3
  go_upto_region 19 with fail
  rw [← hH]
  clear hH
  generalize World.alloc w3 _ = w4 at *
  have HS4 := hid (HS3.out.kept hk4)
  have HT4 := hid (HT3.out.kept hk4)
  have HB4 := hid (kept HB3.out hk4)
  have HRH : Hid (∀ wz, Below w4.heap.size w4 wz → Calls Tryz.prog 26 #[.pointer (some s.rd)] wz fun r w' => r = .returned (.agg #[.int .i64 (s.es.length : Int), .int .i64 (logOf s.es), .int .i64 (mapOf s.es), .int .i64 (topOf s.es)]) ∧ Below wz.heap.size wz w') := fun wz hz => rhead_any wz s.R s.rd s.es (HS4.out.kept hz).ref (rstate_spec wz s.R _ s.es (HS4.out.kept hz).ref) (HT4.out.kept hz)
  have c1 : w4.cell? ⟨s.L, 1, none⟩ = some (.pointer (some s.rd)) := HS4.out.blk.cell 1 _ rfl
  have l4 : s.L < w4.heap.size := HS4.out.blk.lt
  have lH : H < w4.heap.size := World.block_lt_of_cell? _ _ z0
  clear hk4
  generalize (s.es.length : Int) = x0 at *
  generalize logOf s.es = x1 at *
  generalize mapOf s.es = x2 at *
  generalize topOf s.es = x3 at *
  go_region_held3 (fun w' => w'.cell? ⟨H, 0, none⟩ = some (.int .i64 x0) ∧ w'.cell? ⟨H, 1, none⟩ = some (.int .i64 x1) ∧ w'.cell? ⟨H, 2, none⟩ = some (.int .i64 x2) ∧ w'.cell? ⟨H, 3, none⟩ = some (.int .i64 x3) ∧ w'.cell? ⟨s.L, 1, none⟩ = some (.pointer (some s.rd))) ((go_split_ands; refine ⟨?_, ?_, ?_, ?_, ?_⟩ <;> first | (with_reducible exact drew_cellS (by assumption)) | exact cell_kept (by assumption) hb5)) (first | (go_at_call 26; refine (HRH.out _ (by exact (Below.refl _ _).drew)).mono ?_; rintro ee w5 ⟨rfl, hb5⟩))
  go_wp2_with fail
  go_ret
  exact ⟨rfl, AskedOk.of_below HI.out.sh (kept HB4.out (kept (Below.refl _ _).drew hb5))⟩

end Go.Proofs.YtedblhcehlbbmaaGreatDoor


/-
  A QUERY OF A BOOK: lenderlaw.World.asked: State.
-/
namespace Go.Proofs.YtedblhcehlbbmaaGreatDoor
set_option maxRecDepth 20000
open Go.RowKit

set_option maxHeartbeats 8000000 in
theorem asked_state (w : World) (Wb g n cap : Nat) (o : OpI) (s : Shf) (hI : AskIn w Wb g n cap o s) (hk : o.kind = 4) (hth : thereB o.b = true) :
    Calls Tryz.prog 9 #[.pointer (some ⟨Wb, 0, none⟩), opV o] w fun r w' => r = .returned (.bool true) ∧ AskedOk w s w' := by
  have HI := hid hI
  have hn1 := hI.few
  have hn0 := hI.pos
  have HPK : Hid (∀ wz, Calls Tryz.prog 17 #[.int .i64 o.a, .int .i64 (n : Int)] wz fun e w' => e = .returned (.int .i64 ((pickI o.a n : Nat) : Int)) ∧ w' = wz) := fun wz => lpick_any o.a n wz hI.o64.2.1 hI.pos (by have := hI.few; omega)
  obtain ⟨p, hp⟩ : ∃ p, p = pickI o.a n := ⟨_, rfl⟩
  have hpn : p < n := by rw [hp]; exact pickI_lt _ _ hI.pos
  have i1 : (0 : Int) ≤ (p : Int) := by omega
  have i2 : (p : Int) < (n : Int) := by omega
  rw [← hp] at HPK
  have HP := hid hp
  have HKD := hid hk
  clear hp hI
  obtain ⟨A, hA⟩ : ∃ A, A = w.heap.size := ⟨_, rfl⟩
  unfold opV opC
  rw [hk]
  go_enter Tryz.func9, Tryz.ntmps9
  go_upto_region 1 with fail
  rw [← hA]
  have HO1 : Hid (BlkO (w.alloc (.cells (opC o) 39)) A o) := by show BlkO _ _ _; rw [hA]; exact BlkO.new w o
  have hk1 : Below w.heap.size w (w.alloc (.cells (opC o) 39)) := (Below.refl _ _).alloc (Nat.le_refl _) _
  unfold opC at HO1 hk1
  rw [hk] at HO1 hk1
  generalize World.alloc w _ = w1 at *
  generalize Value.agg _ = OV
  have cO1 : w1.cell? ⟨A, 1, none⟩ = some (.int .i64 o.a) := HO1.out.cell 1 _ rfl
  have cW := cell_kept HI.out.top hk1
  have cR : w1.cell? ⟨g, p, none⟩ = some (.pointer (some ⟨s.L, 0, none⟩)) := by rw [HP.out]; exact cell_kept HI.out.row hk1
  have HAW : Hid (w.heap.size ≤ A) := by show _ ≤ _; rw [hA]; exact Nat.le_refl _
  clear hA hk
  go_quiet ((go_at_call 17; exact Calls.quiet_of_same (HPK.out _)))
  have hk2 := below_drewN hk1 nq
  have HO2 : Hid (BlkO (w1.drewN nq) A o) := HO1.out
  clear cO1 cW cR HPK HO1 hk1
  generalize w1.drewN nq = w2 at *
  clear i1 i2
  go_upto_region 2 with fail
  have cB : w2.cell? ⟨A, 2, none⟩ = some (.int .i64 o.b) := HO2.out.cell 2 _ rfl
  go_cut [6] from 31 to 38 (fun v wx => v = .bool (thereB o.b) ∧ wx = w2)
  case first =>
    by_cases h0 : 0 ≤ o.b
    · by_cases h1 : o.b < 64
      · have HT : Hid (thereB o.b = true) := by show _ = _; unfold thereB; rw [decide_eq_true h0, decide_eq_true h1]; rfl
        go_wp2_with fail
        go_meet
        exact ⟨by rw [HT.out], rfl⟩
      · have HT : Hid (thereB o.b = false) := by show _ = _; unfold thereB; rw [decide_eq_true h0, decide_eq_false h1]; rfl
        go_wp2_with fail
        go_meet
        exact ⟨by rw [HT.out], rfl⟩
    · have HT : Hid (thereB o.b = false) := by show _ = _; unfold thereB; rw [decide_eq_false h0]; rfl
      go_wp2_with fail
      go_meet
      exact ⟨by rw [HT.out], rfl⟩
  case rest =>
  obtain ⟨rfl, hwc⟩ := hcut
  have hwc2 := hwc.symm
  clear hwc
  subst hwc2
  have cK : w2.cell? ⟨A, 0, none⟩ = some (.int .i64 4) := by rw [← HKD.out]; exact HO2.out.cell 0 _ rfl
  have HS2 := hid (HI.out.sh.kept hk2)
  have HTB := hid (HI.out.tab.kept hk2)
  have lA : A < w2.heap.size := HO2.out.lt
  have lL : s.L < w2.heap.size := HS2.out.blk.lt
  have cS0 : w2.cell? ⟨s.L, 0, none⟩ = some (.pointer (some s.bd)) := HS2.out.blk.cell 0 _ rfl
  have cS1 : w2.cell? ⟨s.L, 1, none⟩ = some (.pointer (some s.rd)) := HS2.out.blk.cell 1 _ rfl
  have HSA : Hid (∀ wz, Below w2.heap.size w2 wz → Calls Tryz.prog 19 #[.pointer (some s.bd), .int .i64 o.b] wz fun r w' => r = .returned (.tuple #[stV (if 0 ≤ o.b ∧ o.b ≤ 63 then stOf s.es o.b else zS), .int .i64 (if 0 ≤ o.b ∧ o.b ≤ 63 then 0 else 1)]) ∧ Below wz.heap.size wz w') := fun wz hz => state_any wz s.S _ s.es o.b (HS2.out.kept hz).book
  rw [hth]
  have HTR := hid hth
  have HBR : Hid (0 ≤ o.b ∧ o.b ≤ 63) := thereB_true hth
  rw [if_pos HBR.out, if_pos HBR.out] at HSA
  obtain ⟨X, HX⟩ : ∃ X, Hid (X = stOf s.es o.b) := ⟨_, rfl⟩
  rw [← HX.out] at HSA
  clear hth
  unfold stV at HSA
  clear cS1
  go_upto_region 8 with fail
  go_cut [8, 9] from 60 to 69 (fun v e wx => ∃ M, v = .pointer (some ⟨M, 0, none⟩) ∧ e = .int .i64 0 ∧ Hid (Blk wx M X) ∧ Below w2.heap.size w2 wx)
  case first =>
    go_region_held3 (fun w' => w'.cell? ⟨s.L, 0, none⟩ = some (.pointer (some s.bd)) ∧ w'.cell? ⟨A, 2, none⟩ = some (.int .i64 o.b) ∧ Below w2.heap.size w2 w') ((first | with_reducible exact ⟨cell_kept cS0 (six_below hk5 HMB), cell_kept cB (six_below hk5 HMB), six_below hk5 HMB⟩ | with_reducible exact ⟨cell_kept cS0 hk5, cell_kept cB hk5, hk5⟩ | with_reducible exact ⟨cell_kept cS0 (hk5.alloc hk5.size _), cell_kept cB (hk5.alloc hk5.size _), hk5.alloc hk5.size _⟩ | with_reducible exact ⟨drew_cell cS0, drew_cell cB, drew_below _⟩ | with_reducible exact ⟨cell_kept cS0 (drew_alloc _ _), cell_kept cB (drew_alloc _ _), drew_alloc _ _⟩)) (first | (go_at_call 19; refine (HSA.out _ (by go_split_ands; assumption)).mono ?_; rintro ee w5 ⟨rfl, hb5⟩; have hk5 : Below w2.heap.size w2 w5 := (by go_split_ands; exact kept (by assumption) hb5); (first | (have HM : Blk w5 _ zS := (by first | with_reducible exact Blk.kept (Blk.new0 _) hb5 | with_reducible exact Blk.kept (Blk.drewS (Blk.new0 _)) hb5); have HMB := ge_ofS (w1 := w2) HM (by first | with_reducible exact Below.refl _ _ | with_reducible exact (Below.refl _ _).drew | assumption); obtain ⟨y0, y1, y2, y3, y4, y5, g0, g1, g2, g3, g4, g5⟩ := HM.zs; skip) | skip)))
    all_goals go_step
    all_goals go_step
    all_goals go_meet
    · exact st_meet1 X hk5
    all_goals exact st_meet2 X hk5 HM HMB
  case rest =>
  obtain ⟨M, rfl, rfl, HM, hb3⟩ := hcut
  obtain ⟨w3, hw3⟩ : ∃ w3, w3 = wc := ⟨_, rfl⟩
  subst hw3
  have HS3 := hid (HS2.out.kept hb3)
  have HO3 := hid (HO2.out.kept hb3)
  have HB3 := hid (kept hk2 hb3)
  obtain ⟨z0, z1, z2, z3, z4, z5⟩ := HM.out.six
  clear hb3 cS0 cB cK lA lL HSA
  have c1 : w3.cell? ⟨s.L, 1, none⟩ = some (.pointer (some s.rd)) := HS3.out.blk.cell 1 _ rfl
  have cB3 : w3.cell? ⟨A, 2, none⟩ = some (.int .i64 o.b) := HO3.out.cell 2 _ rfl
  have HRS : Hid (∀ wz, Below w3.heap.size w3 wz → Calls Tryz.prog 20 #[.pointer (some s.rd), .int .i64 o.b] wz fun r w' => r = .returned (stV X) ∧ Below wz.heap.size wz w') := fun wz hz => by rw [HX.out]; exact rstate_spec w3 s.R _ s.es HS3.out.ref wz o.b hz HI.out.o64.2.2.1
  unfold stV at HRS
  have l1 : s.L < w3.heap.size := HS3.out.blk.lt
  have l2 : A < w3.heap.size := HO3.out.lt
  have l3 : M < w3.heap.size := HM.out.lt
  obtain ⟨x0, x1, x2, x3, x4, x5⟩ := X
  simp only at z0 z1 z2 z3 z4 z5 HRS
  clear HM HX
  go_upto_region 11 with fail
  go_region_held3 (fun w' => w'.cell? ⟨M, 0, none⟩ = some (.int .i64 x0) ∧ w'.cell? ⟨M, 1, none⟩ = some (.int .i64 x1) ∧ w'.cell? ⟨M, 2, none⟩ = some (.int .i64 x2) ∧ w'.cell? ⟨M, 3, none⟩ = some (.int .i64 x3) ∧ w'.cell? ⟨M, 4, none⟩ = some (.int .i64 x4) ∧ w'.cell? ⟨M, 5, none⟩ = some (.int .i64 x5) ∧ w'.cell? ⟨s.L, 1, none⟩ = some (.pointer (some s.rd)) ∧ w'.cell? ⟨A, 2, none⟩ = some (.int .i64 o.b)) ((go_split_ands; refine ⟨?_, ?_, ?_, ?_, ?_, ?_, ?_, ?_⟩ <;> first | (with_reducible exact drew_cellS (by assumption)) | exact cell_kept (by assumption) hb5)) (first | (go_at_call 20; refine (HRS.out _ (by exact (Below.refl _ _).drew)).mono ?_; rintro ee w5 ⟨rfl, hb5⟩))
  go_wp2_with fail
  go_ret
  exact ⟨rfl, AskedOk.of_below HI.out.sh (kept HB3.out (kept (Below.refl _ _).drew hb5))⟩

set_option maxHeartbeats 8000000 in
theorem asked_state0 (w : World) (Wb g n cap : Nat) (o : OpI) (s : Shf) (hI : AskIn w Wb g n cap o s) (hk : o.kind = 4) (hth : thereB o.b = false) :
    Calls Tryz.prog 9 #[.pointer (some ⟨Wb, 0, none⟩), opV o] w fun r w' => r = .returned (.bool true) ∧ AskedOk w s w' := by
  have HI := hid hI
  have hn1 := hI.few
  have hn0 := hI.pos
  have HPK : Hid (∀ wz, Calls Tryz.prog 17 #[.int .i64 o.a, .int .i64 (n : Int)] wz fun e w' => e = .returned (.int .i64 ((pickI o.a n : Nat) : Int)) ∧ w' = wz) := fun wz => lpick_any o.a n wz hI.o64.2.1 hI.pos (by have := hI.few; omega)
  obtain ⟨p, hp⟩ : ∃ p, p = pickI o.a n := ⟨_, rfl⟩
  have hpn : p < n := by rw [hp]; exact pickI_lt _ _ hI.pos
  have i1 : (0 : Int) ≤ (p : Int) := by omega
  have i2 : (p : Int) < (n : Int) := by omega
  rw [← hp] at HPK
  have HP := hid hp
  have HKD := hid hk
  clear hp hI
  obtain ⟨A, hA⟩ : ∃ A, A = w.heap.size := ⟨_, rfl⟩
  unfold opV opC
  rw [hk]
  go_enter Tryz.func9, Tryz.ntmps9
  go_upto_region 1 with fail
  rw [← hA]
  have HO1 : Hid (BlkO (w.alloc (.cells (opC o) 39)) A o) := by show BlkO _ _ _; rw [hA]; exact BlkO.new w o
  have hk1 : Below w.heap.size w (w.alloc (.cells (opC o) 39)) := (Below.refl _ _).alloc (Nat.le_refl _) _
  unfold opC at HO1 hk1
  rw [hk] at HO1 hk1
  generalize World.alloc w _ = w1 at *
  generalize Value.agg _ = OV
  have cO1 : w1.cell? ⟨A, 1, none⟩ = some (.int .i64 o.a) := HO1.out.cell 1 _ rfl
  have cW := cell_kept HI.out.top hk1
  have cR : w1.cell? ⟨g, p, none⟩ = some (.pointer (some ⟨s.L, 0, none⟩)) := by rw [HP.out]; exact cell_kept HI.out.row hk1
  have HAW : Hid (w.heap.size ≤ A) := by show _ ≤ _; rw [hA]; exact Nat.le_refl _
  clear hA hk
  go_quiet ((go_at_call 17; exact Calls.quiet_of_same (HPK.out _)))
  have hk2 := below_drewN hk1 nq
  have HO2 : Hid (BlkO (w1.drewN nq) A o) := HO1.out
  clear cO1 cW cR HPK HO1 hk1
  generalize w1.drewN nq = w2 at *
  clear i1 i2
  go_upto_region 2 with fail
  have cB : w2.cell? ⟨A, 2, none⟩ = some (.int .i64 o.b) := HO2.out.cell 2 _ rfl
  go_cut [6] from 31 to 38 (fun v wx => v = .bool (thereB o.b) ∧ wx = w2)
  case first =>
    by_cases h0 : 0 ≤ o.b
    · by_cases h1 : o.b < 64
      · have HT : Hid (thereB o.b = true) := by show _ = _; unfold thereB; rw [decide_eq_true h0, decide_eq_true h1]; rfl
        go_wp2_with fail
        go_meet
        exact ⟨by rw [HT.out], rfl⟩
      · have HT : Hid (thereB o.b = false) := by show _ = _; unfold thereB; rw [decide_eq_true h0, decide_eq_false h1]; rfl
        go_wp2_with fail
        go_meet
        exact ⟨by rw [HT.out], rfl⟩
    · have HT : Hid (thereB o.b = false) := by show _ = _; unfold thereB; rw [decide_eq_false h0]; rfl
      go_wp2_with fail
      go_meet
      exact ⟨by rw [HT.out], rfl⟩
  case rest =>
  obtain ⟨rfl, hwc⟩ := hcut
  have hwc2 := hwc.symm
  clear hwc
  subst hwc2
  have cK : w2.cell? ⟨A, 0, none⟩ = some (.int .i64 4) := by rw [← HKD.out]; exact HO2.out.cell 0 _ rfl
  have HS2 := hid (HI.out.sh.kept hk2)
  have HTB := hid (HI.out.tab.kept hk2)
  have lA : A < w2.heap.size := HO2.out.lt
  have lL : s.L < w2.heap.size := HS2.out.blk.lt
  have cS0 : w2.cell? ⟨s.L, 0, none⟩ = some (.pointer (some s.bd)) := HS2.out.blk.cell 0 _ rfl
  have cS1 : w2.cell? ⟨s.L, 1, none⟩ = some (.pointer (some s.rd)) := HS2.out.blk.cell 1 _ rfl
  have HSA : Hid (∀ wz, Below w2.heap.size w2 wz → Calls Tryz.prog 19 #[.pointer (some s.bd), .int .i64 o.b] wz fun r w' => r = .returned (.tuple #[stV (if 0 ≤ o.b ∧ o.b ≤ 63 then stOf s.es o.b else zS), .int .i64 (if 0 ≤ o.b ∧ o.b ≤ 63 then 0 else 1)]) ∧ Below wz.heap.size wz w') := fun wz hz => state_any wz s.S _ s.es o.b (HS2.out.kept hz).book
  rw [hth]
  have HTR := hid hth
  have HBR : Hid (¬ (0 ≤ o.b ∧ o.b ≤ 63)) := thereB_false hth
  rw [if_neg HBR.out, if_neg HBR.out] at HSA
  obtain ⟨X, HX⟩ : ∃ X, Hid (X = zS) := ⟨_, rfl⟩
  rw [← HX.out] at HSA
  clear hth
  unfold stV at HSA
  clear cS1
  go_upto_region 8 with fail
  go_cut [8, 9] from 60 to 69 (fun v e wx => ∃ M, v = .pointer (some ⟨M, 0, none⟩) ∧ e = .int .i64 1 ∧ Hid (Blk wx M X) ∧ Below w2.heap.size w2 wx)
  case first =>
    go_region_held3 (fun w' => w'.cell? ⟨s.L, 0, none⟩ = some (.pointer (some s.bd)) ∧ w'.cell? ⟨A, 2, none⟩ = some (.int .i64 o.b) ∧ Below w2.heap.size w2 w') ((first | with_reducible exact ⟨cell_kept cS0 (six_below hk5 HMB), cell_kept cB (six_below hk5 HMB), six_below hk5 HMB⟩ | with_reducible exact ⟨cell_kept cS0 hk5, cell_kept cB hk5, hk5⟩ | with_reducible exact ⟨cell_kept cS0 (hk5.alloc hk5.size _), cell_kept cB (hk5.alloc hk5.size _), hk5.alloc hk5.size _⟩ | with_reducible exact ⟨drew_cell cS0, drew_cell cB, drew_below _⟩ | with_reducible exact ⟨cell_kept cS0 (drew_alloc _ _), cell_kept cB (drew_alloc _ _), drew_alloc _ _⟩)) (first | (go_at_call 19; refine (HSA.out _ (by go_split_ands; assumption)).mono ?_; rintro ee w5 ⟨rfl, hb5⟩; have hk5 : Below w2.heap.size w2 w5 := (by go_split_ands; exact kept (by assumption) hb5); (first | (have HM : Blk w5 _ zS := (by first | with_reducible exact Blk.kept (Blk.new0 _) hb5 | with_reducible exact Blk.kept (Blk.drewS (Blk.new0 _)) hb5); have HMB := ge_ofS (w1 := w2) HM (by first | with_reducible exact Below.refl _ _ | with_reducible exact (Below.refl _ _).drew | assumption); obtain ⟨y0, y1, y2, y3, y4, y5, g0, g1, g2, g3, g4, g5⟩ := HM.zs; skip) | skip)))
    all_goals go_step
    all_goals go_step
    all_goals go_meet
    · exact st_meet1 X hk5
    all_goals exact st_meet2 X hk5 HM HMB
  case rest =>
  obtain ⟨M, rfl, rfl, HM, hb3⟩ := hcut
  obtain ⟨w3, hw3⟩ : ∃ w3, w3 = wc := ⟨_, rfl⟩
  subst hw3
  have HS3 := hid (HS2.out.kept hb3)
  have HO3 := hid (HO2.out.kept hb3)
  have HB3 := hid (kept hk2 hb3)
  obtain ⟨z0, z1, z2, z3, z4, z5⟩ := HM.out.six
  clear hb3 cS0 cB cK lA lL HSA
  have l3 : M < w3.heap.size := HM.out.lt
  rw [HX.out] at z0 z1 z2 z3 z4 z5
  unfold zS at z0 z1 z2 z3 z4 z5
  simp only at z0 z1 z2 z3 z4 z5
  clear HM HX
  go_wp2_with fail
  go_ret
  exact ⟨rfl, AskedOk.of_below HI.out.sh HB3.out⟩

end Go.Proofs.YtedblhcehlbbmaaGreatDoor


/-
  A QUERY OF A BOOK: lenderlaw.World.asked: Add.
-/
namespace Go.Proofs.YtedblhcehlbbmaaGreatDoor
set_option maxRecDepth 20000
open Go.RowKit

set_option maxHeartbeats 8000000 in
theorem asked_add0 (w : World) (Wb g n cap : Nat) (o : OpI) (s : Shf) (hI : AskIn w Wb g n cap o s) (hk : o.kind = 2) (hz : addN s.es (mayB o.ev) o.ev.day = 0) :
    Calls Tryz.prog 9 #[.pointer (some ⟨Wb, 0, none⟩), opV o] w fun r w' => r = .returned (.bool true) ∧ AskedOk w s w' := by
  have HI := hid hI
  have hn1 := hI.few
  have hn0 := hI.pos
  have HPK : Hid (∀ wz, Calls Tryz.prog 17 #[.int .i64 o.a, .int .i64 (n : Int)] wz fun e w' => e = .returned (.int .i64 ((pickI o.a n : Nat) : Int)) ∧ w' = wz) := fun wz => lpick_any o.a n wz hI.o64.2.1 hI.pos (by have := hI.few; omega)
  obtain ⟨p, hp⟩ : ∃ p, p = pickI o.a n := ⟨_, rfl⟩
  have hpn : p < n := by rw [hp]; exact pickI_lt _ _ hI.pos
  have i1 : (0 : Int) ≤ (p : Int) := by omega
  have i2 : (p : Int) < (n : Int) := by omega
  rw [← hp] at HPK
  have HP := hid hp
  have HKD := hid hk
  clear hp hI
  obtain ⟨A, hA⟩ : ∃ A, A = w.heap.size := ⟨_, rfl⟩
  unfold opV opC
  rw [hk]
  go_enter Tryz.func9, Tryz.ntmps9
  go_upto_region 1 with fail
  rw [← hA]
  have HO1 : Hid (BlkO (w.alloc (.cells (opC o) 39)) A o) := by show BlkO _ _ _; rw [hA]; exact BlkO.new w o
  have hk1 : Below w.heap.size w (w.alloc (.cells (opC o) 39)) := (Below.refl _ _).alloc (Nat.le_refl _) _
  unfold opC at HO1 hk1
  rw [hk] at HO1 hk1
  generalize World.alloc w _ = w1 at *
  generalize Value.agg _ = OV
  have cO1 : w1.cell? ⟨A, 1, none⟩ = some (.int .i64 o.a) := HO1.out.cell 1 _ rfl
  have cW := cell_kept HI.out.top hk1
  have cR : w1.cell? ⟨g, p, none⟩ = some (.pointer (some ⟨s.L, 0, none⟩)) := by rw [HP.out]; exact cell_kept HI.out.row hk1
  have HAW : Hid (w.heap.size ≤ A) := by show _ ≤ _; rw [hA]; exact Nat.le_refl _
  clear hA hk
  go_quiet ((go_at_call 17; exact Calls.quiet_of_same (HPK.out _)))
  have hk2 := below_drewN hk1 nq
  have HO2 : Hid (BlkO (w1.drewN nq) A o) := HO1.out
  clear cO1 cW cR HPK HO1 hk1
  generalize w1.drewN nq = w2 at *
  clear i1 i2
  go_upto_region 2 with fail
  have cB : w2.cell? ⟨A, 2, none⟩ = some (.int .i64 o.b) := HO2.out.cell 2 _ rfl
  go_cut [6] from 31 to 38 (fun v wx => v = .bool (thereB o.b) ∧ wx = w2)
  case first =>
    by_cases h0 : 0 ≤ o.b
    · by_cases h1 : o.b < 64
      · have HT : Hid (thereB o.b = true) := by show _ = _; unfold thereB; rw [decide_eq_true h0, decide_eq_true h1]; rfl
        go_wp2_with fail
        go_meet
        exact ⟨by rw [HT.out], rfl⟩
      · have HT : Hid (thereB o.b = false) := by show _ = _; unfold thereB; rw [decide_eq_true h0, decide_eq_false h1]; rfl
        go_wp2_with fail
        go_meet
        exact ⟨by rw [HT.out], rfl⟩
    · have HT : Hid (thereB o.b = false) := by show _ = _; unfold thereB; rw [decide_eq_false h0]; rfl
      go_wp2_with fail
      go_meet
      exact ⟨by rw [HT.out], rfl⟩
  case rest =>
  obtain ⟨rfl, hwc⟩ := hcut
  have hwc2 := hwc.symm
  clear hwc
  subst hwc2
  have cK : w2.cell? ⟨A, 0, none⟩ = some (.int .i64 2) := by rw [← HKD.out]; exact HO2.out.cell 0 _ rfl
  have HS2 := hid (HI.out.sh.kept hk2)
  have HTB := hid (HI.out.tab.kept hk2)
  have lA : A < w2.heap.size := HO2.out.lt
  have lL : s.L < w2.heap.size := HS2.out.blk.lt
  have cS0 : w2.cell? ⟨s.L, 0, none⟩ = some (.pointer (some s.bd)) := HS2.out.blk.cell 0 _ rfl
  have cS1 : w2.cell? ⟨s.L, 1, none⟩ = some (.pointer (some s.rd)) := HS2.out.blk.cell 1 _ rfl
  have HAD : Hid (∀ wz, Below w2.heap.size w2 wz → Calls Tryz.prog 30 #[.pointer (some s.bd), evV o.ev] wz fun r w' => r = .returned (.int .i64 (addN s.es (mayB o.ev) o.ev.day)) ∧ ∃ S', Rep w' S' (.pointer (some s.bd)) (addL s.es o.ev) ∧ (∀ k, S' k → s.S k ∨ wz.heap.size ≤ k) ∧ Besides s.S wz w') := fun wz hz => add_any wz s.S _ s.es o.ev (HS2.out.kept hz).book
  have HRA : Hid (∀ wz, RRep wz s.R (.pointer (some s.rd)) s.es → Calls Tryz.prog 31 #[.pointer (some s.rd), evV o.ev] wz fun r w' => r = .returned (.int .i64 (addN s.es (mayB o.ev) o.ev.day)) ∧ ∃ S', RRep w' S' (.pointer (some s.rd)) (addL s.es o.ev) ∧ (∀ k, S' k → s.R k ∨ wz.heap.size ≤ k) ∧ Besides s.R wz w') := fun wz hz => radd_any wz s.R _ s.es o.ev hz
  have HAL : Hid (addN s.es (mayB o.ev) o.ev.day ≠ 0 → addL s.es o.ev = s.es) := fun h => addL_same h
  unfold evV at HAD HRA
  rw [hz] at HAD HRA
  generalize hEL : addL s.es o.ev = es' at *
  clear hz HAL
  have HEL := hid hEL
  clear hEL
  have HNL : Hid (¬ s.S s.L) := HS2.out.nS
  have HNA : Hid (¬ s.S A) := fun h => by have h1 := HI.out.sh.book.lt _ h; have h2 := HAW.out; omega
  have HRL : Hid (¬ s.R s.L) := HS2.out.nR
  have HRX : Hid (¬ s.R A) := fun h => by have h1 := HI.out.sh.ref.lt _ h; have h2 := HAW.out; omega
  have e0 : w2.cell? ⟨A, 3, none⟩ = some (.int .i64 o.ev.loan) := HO2.out.cell 3 _ rfl
  have e1 : w2.cell? ⟨A, 4, none⟩ = some (.int .i64 o.ev.kind) := HO2.out.cell 4 _ rfl
  have e2 : w2.cell? ⟨A, 5, none⟩ = some (.int .i64 o.ev.amount) := HO2.out.cell 5 _ rfl
  have e3 : w2.cell? ⟨A, 6, none⟩ = some (.int .i64 o.ev.day) := HO2.out.cell 6 _ rfl
  clear cS1 cB
  go_upto_region 31 with fail
  go_region_held3 (fun w' => w'.cell? ⟨s.L, 0, none⟩ = some (.pointer (some s.bd)) ∧ w'.cell? ⟨A, 3, none⟩ = some (.int .i64 o.ev.loan) ∧ w'.cell? ⟨A, 4, none⟩ = some (.int .i64 o.ev.kind) ∧ w'.cell? ⟨A, 5, none⟩ = some (.int .i64 o.ev.amount) ∧ w'.cell? ⟨A, 6, none⟩ = some (.int .i64 o.ev.day)) ((go_split_ands; refine ⟨?_, ?_, ?_, ?_, ?_⟩ <;> first | (with_reducible exact drew_cellS (by assumption)) | exact cell_besides (by assumption) hb5 HNL.out | exact cell_besides (by assumption) hb5 HNA.out)) (first | (go_at_call 30; refine (HAD.out _ (by exact (Below.refl _ _).drew)).mono ?_; rintro ee w5 ⟨rfl, S', hS, hS', hb5⟩))
  have HS := hid hS
  have HS' : Hid (∀ k, S' k → s.S k ∨ w2.heap.size ≤ k) := hS'
  have HB5 : Hid (Besides s.S w2 w5) := ⟨hb5.os, hb5.tape, hb5.output, hb5.size, hb5.block⟩
  have HL5 : Hid (ShB w5 s.L (.pointer (some s.bd)) (.pointer (some s.rd)) s.q s.a s.x s.y) := HS2.out.blk.of (HB5.out.block _ HS2.out.blk.lt HNL.out)
  have HO5 : Hid (BlkO w5 A o) := by show BlkO _ _ _; unfold BlkO; rw [HB5.out.block _ HO2.out.lt HNA.out]; exact HO2.out
  have HR5 : Hid (RRep w5 s.R (.pointer (some s.rd)) s.es) := HS2.out.ref.stay fun k hk => HB5.out.block k (HS2.out.ref.lt k hk) (fun h => HS2.out.apart k h hk)
  clear e0 e1 e2 e3 cS0 cK lA lL hS hS' hb5 HAD
  have HL6 := hid HL5.out.unask
  have HB6 := hid (besides_setCell w5 s.L 2 (.bool false))
  have c2 : w5.cell? ⟨s.L, 2, none⟩ = some (.bool s.q) := HL5.out.cell 2 _ rfl
  have f2 := HL5.out.free 2
  have l5 : s.L < w5.heap.size := HL5.out.lt
  go_upto_region 34 with fail
  have HO6 : Hid (BlkO (w5.setCell ⟨s.L, 2, none⟩ (.bool false)) A o) := by
    show BlkO _ _ _
    unfold BlkO
    rw [HB6.out.block _ HO5.out.lt (fun h => by have h1 := HI.out.sh.blk.lt; have h2 := HAW.out; omega)]
    exact HO5.out
  have HR6 : Hid (RRep (w5.setCell ⟨s.L, 2, none⟩ (.bool false)) s.R (.pointer (some s.rd)) s.es) := HR5.out.stay fun k hk => HB6.out.block k (HR5.out.lt k hk) (fun h => HRL.out (by rw [← h]; exact hk))
  generalize w5.setCell ⟨s.L, 2, none⟩ (.bool false) = w6 at *
  clear c2 f2 l5
  have c1 : w6.cell? ⟨s.L, 1, none⟩ = some (.pointer (some s.rd)) := HL6.out.cell 1 _ rfl
  have l1 : s.L < w6.heap.size := HL6.out.lt
  have l2 : A < w6.heap.size := HO6.out.lt
  have e0 : w6.cell? ⟨A, 3, none⟩ = some (.int .i64 o.ev.loan) := HO6.out.cell 3 _ rfl
  have e1 : w6.cell? ⟨A, 4, none⟩ = some (.int .i64 o.ev.kind) := HO6.out.cell 4 _ rfl
  have e2 : w6.cell? ⟨A, 5, none⟩ = some (.int .i64 o.ev.amount) := HO6.out.cell 5 _ rfl
  have e3 : w6.cell? ⟨A, 6, none⟩ = some (.int .i64 o.ev.day) := HO6.out.cell 6 _ rfl
  go_region_held3 (fun w' => w'.cell? ⟨s.L, 1, none⟩ = some (.pointer (some s.rd)) ∧ w'.cell? ⟨A, 3, none⟩ = some (.int .i64 o.ev.loan) ∧ w'.cell? ⟨A, 4, none⟩ = some (.int .i64 o.ev.kind) ∧ w'.cell? ⟨A, 5, none⟩ = some (.int .i64 o.ev.amount) ∧ w'.cell? ⟨A, 6, none⟩ = some (.int .i64 o.ev.day)) ((go_split_ands; refine ⟨?_, ?_, ?_, ?_, ?_⟩ <;> first | (with_reducible exact drew_cellS (by assumption)) | exact cell_besides (by assumption) hb7 HRL.out | exact cell_besides (by assumption) hb7 HRX.out)) (first | (go_at_call 31; refine (HRA.out _ (by exact HR6.out)).mono ?_; rintro ee w7 ⟨rfl, R', hR, hR', hb7⟩))
  have HB7 : Hid (Besides s.R w6 w7) := ⟨hb7.os, hb7.tape, hb7.output, hb7.size, hb7.block⟩
  have HFI := hid (AskedOk.of_add HS2.out hk2 HS.out HS'.out HB5.out HL6.out HB6.out hR hR' HB7.out (fun h => by cases h))
  clear hR hR' hb7 HRA c1 e0 e1 e2 e3
  go_wp2_with fail
  go_ret
  exact ⟨rfl, HFI.out⟩

set_option maxHeartbeats 8000000 in
theorem asked_add1 (w : World) (Wb g n cap : Nat) (o : OpI) (s : Shf) (hI : AskIn w Wb g n cap o s) (hk : o.kind = 2) (hz : addN s.es (mayB o.ev) o.ev.day ≠ 0) :
    Calls Tryz.prog 9 #[.pointer (some ⟨Wb, 0, none⟩), opV o] w fun r w' => r = .returned (.bool true) ∧ AskedOk w s w' := by
  have HI := hid hI
  have hn1 := hI.few
  have hn0 := hI.pos
  have HPK : Hid (∀ wz, Calls Tryz.prog 17 #[.int .i64 o.a, .int .i64 (n : Int)] wz fun e w' => e = .returned (.int .i64 ((pickI o.a n : Nat) : Int)) ∧ w' = wz) := fun wz => lpick_any o.a n wz hI.o64.2.1 hI.pos (by have := hI.few; omega)
  obtain ⟨p, hp⟩ : ∃ p, p = pickI o.a n := ⟨_, rfl⟩
  have hpn : p < n := by rw [hp]; exact pickI_lt _ _ hI.pos
  have i1 : (0 : Int) ≤ (p : Int) := by omega
  have i2 : (p : Int) < (n : Int) := by omega
  rw [← hp] at HPK
  have HP := hid hp
  have HKD := hid hk
  clear hp hI
  obtain ⟨A, hA⟩ : ∃ A, A = w.heap.size := ⟨_, rfl⟩
  unfold opV opC
  rw [hk]
  go_enter Tryz.func9, Tryz.ntmps9
  go_upto_region 1 with fail
  rw [← hA]
  have HO1 : Hid (BlkO (w.alloc (.cells (opC o) 39)) A o) := by show BlkO _ _ _; rw [hA]; exact BlkO.new w o
  have hk1 : Below w.heap.size w (w.alloc (.cells (opC o) 39)) := (Below.refl _ _).alloc (Nat.le_refl _) _
  unfold opC at HO1 hk1
  rw [hk] at HO1 hk1
  generalize World.alloc w _ = w1 at *
  generalize Value.agg _ = OV
  have cO1 : w1.cell? ⟨A, 1, none⟩ = some (.int .i64 o.a) := HO1.out.cell 1 _ rfl
  have cW := cell_kept HI.out.top hk1
  have cR : w1.cell? ⟨g, p, none⟩ = some (.pointer (some ⟨s.L, 0, none⟩)) := by rw [HP.out]; exact cell_kept HI.out.row hk1
  have HAW : Hid (w.heap.size ≤ A) := by show _ ≤ _; rw [hA]; exact Nat.le_refl _
  clear hA hk
  go_quiet ((go_at_call 17; exact Calls.quiet_of_same (HPK.out _)))
  have hk2 := below_drewN hk1 nq
  have HO2 : Hid (BlkO (w1.drewN nq) A o) := HO1.out
  clear cO1 cW cR HPK HO1 hk1
  generalize w1.drewN nq = w2 at *
  clear i1 i2
  go_upto_region 2 with fail
  have cB : w2.cell? ⟨A, 2, none⟩ = some (.int .i64 o.b) := HO2.out.cell 2 _ rfl
  go_cut [6] from 31 to 38 (fun v wx => v = .bool (thereB o.b) ∧ wx = w2)
  case first =>
    by_cases h0 : 0 ≤ o.b
    · by_cases h1 : o.b < 64
      · have HT : Hid (thereB o.b = true) := by show _ = _; unfold thereB; rw [decide_eq_true h0, decide_eq_true h1]; rfl
        go_wp2_with fail
        go_meet
        exact ⟨by rw [HT.out], rfl⟩
      · have HT : Hid (thereB o.b = false) := by show _ = _; unfold thereB; rw [decide_eq_true h0, decide_eq_false h1]; rfl
        go_wp2_with fail
        go_meet
        exact ⟨by rw [HT.out], rfl⟩
    · have HT : Hid (thereB o.b = false) := by show _ = _; unfold thereB; rw [decide_eq_false h0]; rfl
      go_wp2_with fail
      go_meet
      exact ⟨by rw [HT.out], rfl⟩
  case rest =>
  obtain ⟨rfl, hwc⟩ := hcut
  have hwc2 := hwc.symm
  clear hwc
  subst hwc2
  have cK : w2.cell? ⟨A, 0, none⟩ = some (.int .i64 2) := by rw [← HKD.out]; exact HO2.out.cell 0 _ rfl
  have HS2 := hid (HI.out.sh.kept hk2)
  have HTB := hid (HI.out.tab.kept hk2)
  have lA : A < w2.heap.size := HO2.out.lt
  have lL : s.L < w2.heap.size := HS2.out.blk.lt
  have cS0 : w2.cell? ⟨s.L, 0, none⟩ = some (.pointer (some s.bd)) := HS2.out.blk.cell 0 _ rfl
  have cS1 : w2.cell? ⟨s.L, 1, none⟩ = some (.pointer (some s.rd)) := HS2.out.blk.cell 1 _ rfl
  have HAD : Hid (∀ wz, Below w2.heap.size w2 wz → Calls Tryz.prog 30 #[.pointer (some s.bd), evV o.ev] wz fun r w' => r = .returned (.int .i64 (addN s.es (mayB o.ev) o.ev.day)) ∧ ∃ S', Rep w' S' (.pointer (some s.bd)) (addL s.es o.ev) ∧ (∀ k, S' k → s.S k ∨ wz.heap.size ≤ k) ∧ Besides s.S wz w') := fun wz hz => add_any wz s.S _ s.es o.ev (HS2.out.kept hz).book
  have HRA : Hid (∀ wz, RRep wz s.R (.pointer (some s.rd)) s.es → Calls Tryz.prog 31 #[.pointer (some s.rd), evV o.ev] wz fun r w' => r = .returned (.int .i64 (addN s.es (mayB o.ev) o.ev.day)) ∧ ∃ S', RRep w' S' (.pointer (some s.rd)) (addL s.es o.ev) ∧ (∀ k, S' k → s.R k ∨ wz.heap.size ≤ k) ∧ Besides s.R wz w') := fun wz hz => radd_any wz s.R _ s.es o.ev hz
  have HAL : Hid (addN s.es (mayB o.ev) o.ev.day ≠ 0 → addL s.es o.ev = s.es) := fun h => addL_same h
  unfold evV at HAD HRA
  generalize addN s.es (mayB o.ev) o.ev.day = N at *
  have HNZ := hid (HAL.out hz)
  have hN : (N == 0) = false := by simpa using hz
  generalize hEL : addL s.es o.ev = es' at *
  clear hz HAL
  have HEL := hid hEL
  clear hEL
  have HNL : Hid (¬ s.S s.L) := HS2.out.nS
  have HNA : Hid (¬ s.S A) := fun h => by have h1 := HI.out.sh.book.lt _ h; have h2 := HAW.out; omega
  have HRL : Hid (¬ s.R s.L) := HS2.out.nR
  have HRX : Hid (¬ s.R A) := fun h => by have h1 := HI.out.sh.ref.lt _ h; have h2 := HAW.out; omega
  have e0 : w2.cell? ⟨A, 3, none⟩ = some (.int .i64 o.ev.loan) := HO2.out.cell 3 _ rfl
  have e1 : w2.cell? ⟨A, 4, none⟩ = some (.int .i64 o.ev.kind) := HO2.out.cell 4 _ rfl
  have e2 : w2.cell? ⟨A, 5, none⟩ = some (.int .i64 o.ev.amount) := HO2.out.cell 5 _ rfl
  have e3 : w2.cell? ⟨A, 6, none⟩ = some (.int .i64 o.ev.day) := HO2.out.cell 6 _ rfl
  clear cS1 cB
  go_upto_region 31 with fail
  go_region_held3 (fun w' => w'.cell? ⟨s.L, 0, none⟩ = some (.pointer (some s.bd)) ∧ w'.cell? ⟨A, 3, none⟩ = some (.int .i64 o.ev.loan) ∧ w'.cell? ⟨A, 4, none⟩ = some (.int .i64 o.ev.kind) ∧ w'.cell? ⟨A, 5, none⟩ = some (.int .i64 o.ev.amount) ∧ w'.cell? ⟨A, 6, none⟩ = some (.int .i64 o.ev.day)) ((go_split_ands; refine ⟨?_, ?_, ?_, ?_, ?_⟩ <;> first | (with_reducible exact drew_cellS (by assumption)) | exact cell_besides (by assumption) hb5 HNL.out | exact cell_besides (by assumption) hb5 HNA.out)) (first | (go_at_call 30; refine (HAD.out _ (by exact (Below.refl _ _).drew)).mono ?_; rintro ee w5 ⟨rfl, S', hS, hS', hb5⟩))
  have HS := hid hS
  have HS' : Hid (∀ k, S' k → s.S k ∨ w2.heap.size ≤ k) := hS'
  have HB5 : Hid (Besides s.S w2 w5) := ⟨hb5.os, hb5.tape, hb5.output, hb5.size, hb5.block⟩
  have HL5 : Hid (ShB w5 s.L (.pointer (some s.bd)) (.pointer (some s.rd)) s.q s.a s.x s.y) := HS2.out.blk.of (HB5.out.block _ HS2.out.blk.lt HNL.out)
  have HO5 : Hid (BlkO w5 A o) := by show BlkO _ _ _; unfold BlkO; rw [HB5.out.block _ HO2.out.lt HNA.out]; exact HO2.out
  have HR5 : Hid (RRep w5 s.R (.pointer (some s.rd)) s.es) := HS2.out.ref.stay fun k hk => HB5.out.block k (HS2.out.ref.lt k hk) (fun h => HS2.out.apart k h hk)
  clear e0 e1 e2 e3 cS0 cK lA lL hS hS' hb5 HAD
  go_upto_region 34 with fail
  have HL6 := hid HL5.out
  have HO6 := hid HO5.out
  have HR6 := hid HR5.out
  have HB6 := hid (Besides.refl (fun k => k = s.L) w5)
  generalize hw6 : w5 = w6 at HL6 HO6 HR6 HB6 ⊢
  have HSX : Hid (Rep w5 S' (.pointer (some s.bd)) es') := HS.out
  have HBX : Hid (Besides (fun k => k = s.L) w5 w6) := by rw [← hw6]; exact Besides.refl _ _
  clear hw6 HB6
  have HB6 := hid HBX.out
  clear HBX HSX
  have c1 : w6.cell? ⟨s.L, 1, none⟩ = some (.pointer (some s.rd)) := HL6.out.cell 1 _ rfl
  have l1 : s.L < w6.heap.size := HL6.out.lt
  have l2 : A < w6.heap.size := HO6.out.lt
  have e0 : w6.cell? ⟨A, 3, none⟩ = some (.int .i64 o.ev.loan) := HO6.out.cell 3 _ rfl
  have e1 : w6.cell? ⟨A, 4, none⟩ = some (.int .i64 o.ev.kind) := HO6.out.cell 4 _ rfl
  have e2 : w6.cell? ⟨A, 5, none⟩ = some (.int .i64 o.ev.amount) := HO6.out.cell 5 _ rfl
  have e3 : w6.cell? ⟨A, 6, none⟩ = some (.int .i64 o.ev.day) := HO6.out.cell 6 _ rfl
  go_region_held3 (fun w' => w'.cell? ⟨s.L, 1, none⟩ = some (.pointer (some s.rd)) ∧ w'.cell? ⟨A, 3, none⟩ = some (.int .i64 o.ev.loan) ∧ w'.cell? ⟨A, 4, none⟩ = some (.int .i64 o.ev.kind) ∧ w'.cell? ⟨A, 5, none⟩ = some (.int .i64 o.ev.amount) ∧ w'.cell? ⟨A, 6, none⟩ = some (.int .i64 o.ev.day)) ((go_split_ands; refine ⟨?_, ?_, ?_, ?_, ?_⟩ <;> first | (with_reducible exact drew_cellS (by assumption)) | exact cell_besides (by assumption) hb7 HRL.out | exact cell_besides (by assumption) hb7 HRX.out)) (first | (go_at_call 31; refine (HRA.out _ (by exact HR6.out)).mono ?_; rintro ee w7 ⟨rfl, R', hR, hR', hb7⟩))
  have HB7 : Hid (Besides s.R w6 w7) := ⟨hb7.os, hb7.tape, hb7.output, hb7.size, hb7.block⟩
  have HFI := hid (AskedOk.of_add HS2.out hk2 HS.out HS'.out HB5.out HL6.out HB6.out hR hR' HB7.out (by rw [HNZ.out]; exact HS2.out.ask))
  clear hR hR' hb7 HRA c1 e0 e1 e2 e3
  go_wp2_with fail
  go_ret
  exact ⟨rfl, HFI.out⟩

end Go.Proofs.YtedblhcehlbbmaaGreatDoor

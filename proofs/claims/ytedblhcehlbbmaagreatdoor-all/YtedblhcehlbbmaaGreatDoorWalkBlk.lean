import Derived.Test.YtedblhcehlbbmaaGreatDoorJWalkText
import Derived.WalkKit
import Derived.WalkSpells
import Derived.WalkLawsBesides
import Derived.Laws.ResultCell
import Derived.Laws.Rows
/-
  A STATE'S BLOCK: six cells, read and written whole.
-/
namespace Go.Proofs.YtedblhcehlbbmaaGreatDoor
set_option maxRecDepth 20000
open Go.RowKit

/-- Six cells of one block: a state. -/
def Six (w : World) (b : Nat) (s1 s2 s3 s4 s5 s6 : Int) : Prop :=
  w.cell? ⟨b, 0, none⟩ = some (.int .i64 s1) ∧ w.cell? ⟨b, 1, none⟩ = some (.int .i64 s2) ∧ w.cell? ⟨b, 2, none⟩ = some (.int .i64 s3) ∧ w.cell? ⟨b, 3, none⟩ = some (.int .i64 s4) ∧ w.cell? ⟨b, 4, none⟩ = some (.int .i64 s5) ∧ w.cell? ⟨b, 5, none⟩ = some (.int .i64 s6)
theorem Six.new (w : World) (s1 s2 s3 s4 s5 s6 : Int) (t : TypeId) : Six (w.alloc (.cells #[.int .i64 s1, .int .i64 s2, .int .i64 s3, .int .i64 s4, .int .i64 s5, .int .i64 s6] t)) w.heap.size s1 s2 s3 s4 s5 s6 := by
  refine ⟨?_, ?_, ?_, ?_, ?_, ?_⟩ <;> rw [World.cell?_alloc_mark] <;> rfl
theorem Six.kept {w w' : World} {b : Nat} {s1 s2 s3 s4 s5 s6 : Int} (h : Six w b s1 s2 s3 s4 s5 s6) (hb : Below w.heap.size w w') : Six w' b s1 s2 s3 s4 s5 s6 :=
  ⟨cell_kept h.1 hb, cell_kept h.2.1 hb, cell_kept h.2.2.1 hb, cell_kept h.2.2.2.1 hb, cell_kept h.2.2.2.2.1 hb, cell_kept h.2.2.2.2.2 hb⟩

/-- The block L is a state's, and free to be written. -/
def Blk (w : World) (L : Nat) (s : St) : Prop := w.heap[L]? = some (.cells #[.int .i64 s.principal, .int .i64 s.due, .int .i64 s.rate, .int .i64 s.day, .int .i64 s.spare, .int .i64 s.count] 33 (0, 0))
theorem Blk.six {w : World} {L : Nat} {s : St} (h : Blk w L s) : Six w L s.principal s.due s.rate s.day s.spare s.count := by
  unfold Blk at h
  refine ⟨?_, ?_, ?_, ?_, ?_, ?_⟩ <;> simp [World.cell?, h]
theorem Blk.free {w : World} {L : Nat} {s : St} (h : Blk w L s) (i : Nat) : w.frozen? ⟨L, i, none⟩ = false := by
  unfold Blk at h
  simp [World.frozen?, h]
theorem Blk.lt {w : World} {L : Nat} {s : St} (h : Blk w L s) : L < w.heap.size := lt_of_block h
theorem Blk.new (w : World) (t : St) : Blk (w.alloc (.cells #[.int .i64 t.principal, .int .i64 t.due, .int .i64 t.rate, .int .i64 t.day, .int .i64 t.spare, .int .i64 t.count] 33)) w.heap.size t := by
  show (w.heap.push _)[w.heap.size]? = _
  simp
theorem Blk.of {w w' : World} {L : Nat} {s : St} (h : Blk w L s) (e : w'.heap[L]? = w.heap[L]?) : Blk w' L s := by unfold Blk at *; rw [e]; exact h
theorem Blk.kept {w w' : World} {L : Nat} {s : St} (h : Blk w L s) (hb : Below w.heap.size w w') : Blk w' L s := h.of (hb.block L h.lt)
theorem blk_setCell {w : World} {b i : Nat} {c : Array Value} {t : TypeId} {u : Value} (h : w.heap[b]? = some (.cells c t (0, 0))) : (w.setCell ⟨b, i, none⟩ u).heap[b]? = some (.cells (c.setIfInBounds i u) t (0, 0)) := by
  have hlt := lt_of_block h
  have h' : w.heap[b] = .cells c t (0, 0) := by simpa [Array.getElem?_eq_getElem hlt] using h
  show (w.heap.modify b _)[b]? = _
  rw [Array.getElem?_eq_getElem (by simpa using hlt), Array.getElem_modify_self, h']
  rfl
/-- A whole state stored. -/
def put6 (w : World) (L : Nat) (t : St) : World := (((((w.setCell ⟨L, 0, none⟩ (.int .i64 t.principal)).setCell ⟨L, 1, none⟩ (.int .i64 t.due)).setCell ⟨L, 2, none⟩ (.int .i64 t.rate)).setCell ⟨L, 3, none⟩ (.int .i64 t.day)).setCell ⟨L, 4, none⟩ (.int .i64 t.spare)).setCell ⟨L, 5, none⟩ (.int .i64 t.count)
theorem put6_blk {w : World} {L : Nat} {s : St} (h : Blk w L s) (t : St) : Blk (put6 w L t) L t := by
  unfold Blk at *
  exact blk_setCell (blk_setCell (blk_setCell (blk_setCell (blk_setCell (blk_setCell h)))))
theorem put6_other (w : World) (L : Nat) (t : St) (k : Nat) (h : k ≠ L) : (put6 w L t).heap[k]? = w.heap[k]? := by
  unfold put6
  rw [Below.heap_setCell _ _ _ _ h, Below.heap_setCell _ _ _ _ h, Below.heap_setCell _ _ _ _ h, Below.heap_setCell _ _ _ _ h, Below.heap_setCell _ _ _ _ h, Below.heap_setCell _ _ _ _ h]
theorem put6_below {B : Nat} {a w : World} (h : Below B a w) (L : Nat) (t : St) (hB : B ≤ L) : Below B a (put6 w L t) :=
  (((((h.setCell hB _).setCell hB _).setCell hB _).setCell hB _).setCell hB _).setCell hB _

theorem Tryz.infoState : (Tryz.prog.info? 33).map (·.size) = some 6 := by kernel_rfl
/-- A state handed back by value. -/
theorem ret_state {fn : Func} {p : Tmp} (h : fn.results = #[.cell p 33]) {tmps : Array Value} {w : World} {L : Nat} {s : St} (hp : tmps.getD p undef = .pointer (some ⟨L, 0, none⟩)) (hb : Blk w L s) :
    (results fn tmps).run Tryz.prog w = .ok (stV s) w :=
  results_cell_row h tmps w L 33 _ (0, 0) _ hp hb Tryz.underlying33 rfl Tryz.infoState
theorem ret_state2 {fn : Func} {p u : Tmp} (h : fn.results = #[.cell p 33, .tmp u]) {tmps : Array Value} {w : World} {L : Nat} {s : St} (hp : tmps.getD p undef = .pointer (some ⟨L, 0, none⟩)) (hb : Blk w L s) :
    (results fn tmps).run Tryz.prog w = .ok (.tuple #[stV s, tmps.getD u undef]) w := by
  rw [results_cell_tmp h, hp]
  have := run_loadVar_row (P := Tryz.prog) w L 33 33 _ (0, 0) _ hb Tryz.underlying33 rfl Tryz.infoState
  simp [asAddr, Result.andThen, this, stV]
/-- A block that was made, and then a call. -/
theorem Blk.made {w w' : World} {L : Nat} (t : St) (hL : L = w.heap.size) (hb : Below (w.heap.size + 1) (w.alloc (.cells #[.int .i64 t.principal, .int .i64 t.due, .int .i64 t.rate, .int .i64 t.day, .int .i64 t.spare, .int .i64 t.count] 33)) w') : Blk w' L t := by
  subst hL
  exact (Blk.new w t).of (hb.block _ (by omega))

end Go.Proofs.YtedblhcehlbbmaaGreatDoor

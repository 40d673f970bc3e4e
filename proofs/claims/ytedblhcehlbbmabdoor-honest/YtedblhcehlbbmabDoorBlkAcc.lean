/-
  AN ACCOUNT'S BLOCK: fifteen cells.
-/
import Derived.Test.YtedblhcehlbbmabDoorMathAcc
import Derived.WalkKit
import Derived.WalkSpells
import Derived.WalkLawsBesides
import Derived.Laws.ResultCell
import Derived.Laws.Rows
namespace Go.Proofs.YtedblhcehlbbmabDoor
open Go.RowKit

/-- An account's cells. -/
def accC (a : Acc) : Array Value := #[.int .i64 a.loan, .int .i64 a.st.principal, .int .i64 a.st.due, .int .i64 a.st.rate, .int .i64 a.st.day, .int .i64 a.st.spare, .int .i64 a.st.count, .int .i64 a.size, .int .i64 a.log, .int .i64 a.p0, .int .i64 a.p1, .int .i64 a.p2, .int .i64 a.p3, .int .i64 a.p4, .int .i64 a.p5]
/-- The block L is an account's. -/
def BlkA (w : World) (L : Nat) (a : Acc) : Prop := w.heap[L]? = some (.cells (accC a) 35 (0, 0))
theorem BlkA.new (w : World) (a : Acc) : BlkA (w.alloc (.cells (accC a) 35)) w.heap.size a := heap_alloc_new w _
theorem BlkA.kept {w w' : World} {L : Nat} {a : Acc} (h : BlkA w L a) (hb : Below w.heap.size w w') : BlkA w' L a := by unfold BlkA at *; rw [hb.block L (lt_of_block h)]; exact h
theorem BlkA.cell {w : World} {L : Nat} {a : Acc} (h : BlkA w L a) (i : Nat) (v : Value) (hv : (accC a)[i]? = some v) : w.cell? ⟨L, i, none⟩ = some v := by
  unfold BlkA at h; simp [World.cell?, h, hv]
theorem BlkA.path {w : World} {L : Nat} {a : Acc} (h : BlkA w L a) (k : Nat) (hk : k < 6) : w.cell? ⟨L, 9 + k, none⟩ = some (.int .i64 (a.path[k]'hk)) := by
  refine h.cell _ _ ?_
  match k, hk with
  | 0, _ => rfl
  | 1, _ => rfl
  | 2, _ => rfl
  | 3, _ => rfl
  | 4, _ => rfl
  | 5, _ => rfl

end Go.Proofs.YtedblhcehlbbmabDoor

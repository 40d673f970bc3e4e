import Derived.Test.YtedblhcehlbbmaaGreatDoorJWalkAccount
import Derived.WalkKit
import Derived.WalkSpells
import Derived.WalkLawsBesides
import Derived.Laws.Tables
import Derived.Laws.CopyOwn
/-
  AN ACCOUNT'S BLOCK MADE AND STORED, at a step of a region that draws its order.
-/
namespace Go.Proofs.YtedblhcehlbbmaaGreatDoor
set_option maxRecDepth 20000
open Go.RowKit

theorem step_storeA {w : World} {ops : Array Oper} {o : Oper} {a : Act} {K : Act → World → Prop} {Q : Exit → Act → World → Prop} {E : Prop} (hgd : o.guard = none) (x y : Operand) (ho : o.op = .store 36 x y)
    (M : Nat) (A Z : Acc) (hx : a.eval x = .pointer (some ⟨M, 0, none⟩)) (hy : a.eval y = .agg (accC A)) (hM : BlkA w M Z)
    (h : ∀ w', BlkA w' M A → (∀ k, k ≠ M → w'.heap[k]? = w.heap[k]?) → (∀ B w0, Below B w0 w → B ≤ M → Below B w0 w') → K (a.put o.dst undef) w') :
    if Region.wanted o (yielded ops a.tmps) = true then Oper.wp Tryz.prog o a w K Q else E := by
  have hw : Region.wanted o (yielded ops a.tmps) = true := by simp [Region.wanted, hgd]
  rw [if_pos hw]
  exact wp_store_row _ x y ho M (accC A) hx hy _ _ hM Tryz.infoAcc rfl (by simp [accC, Value.oneCell']) (h _ (setRow_heap _ _ _ _ _ _ hM) (fun k hk => setRow_other _ _ _ _ hk) (fun B w0 hb hB => below_setRow hb hB _))

theorem step_allocA {w : World} {ops : Array Oper} {o : Oper} {a : Act} {K : Act → World → Prop} {Q : Exit → Act → World → Prop} {E : Prop} (hgd : o.guard = none) (ho : o.op = .alloc 36) (w1 : World) (hX : Below w1.heap.size w1 w)
    (h : ∀ M w', w1.heap.size ≤ M → BlkA w' M zA → Below w.heap.size w w' → Below w1.heap.size w1 w' → K (a.put o.dst (.pointer (some ⟨M, 0, none⟩))) w') :
    if Region.wanted o (yielded ops a.tmps) = true then Oper.wp Tryz.prog o a w K Q else E := by
  have hw : Region.wanted o (yielded ops a.tmps) = true := by simp [Region.wanted, hgd]
  rw [if_pos hw]
  have key := h w.heap.size (w.alloc (.cells (accC zA) 36)) hX.size (BlkA.new w zA) ((Below.refl _ _).alloc (Nat.le_refl _) _) (hX.alloc hX.size _)
  unfold Oper.wp execOp
  simp [ho, Instr.alloc, newVar, newRow, Value.cells]
  exact key

theorem BlkA.new0 (w : World) : BlkA (w.alloc (.cells #[.int .i64 0, .int .i64 0, .int .i64 0, .int .i64 0, .int .i64 0, .int .i64 0, .int .i64 0, .int .i64 0, .int .i64 0, .int .i64 0, .int .i64 0, .int .i64 0, .int .i64 0, .int .i64 0, .int .i64 0] 36)) w.heap.size zA := BlkA.new w zA
theorem BlkA.cellz {w : World} {L : Nat} (h : BlkA w L zA) : ∀ i, i < 15 → w.cell? ⟨L, i, none⟩ = some (.int .i64 0) := fun i hi => by
  rcases (by omega : i = 0 ∨ i = 1 ∨ i = 2 ∨ i = 3 ∨ i = 4 ∨ i = 5 ∨ i = 6 ∨ i = 7 ∨ i = 8 ∨ i = 9 ∨ i = 10 ∨ i = 11 ∨ i = 12 ∨ i = 13 ∨ i = 14) with rfl | rfl | rfl | rfl | rfl | rfl | rfl | rfl | rfl | rfl | rfl | rfl | rfl | rfl | rfl <;> exact h.cell _ _ rfl
theorem chain_below {B M : Nat} {w0 w : World} {v0 v1 v2 v3 v4 v5 v6 v7 v8 v9 v10 v11 v12 v13 v14 : Value} (h : Below B w0 w) (hM : B ≤ M) : Below B w0 (((((((((((((((w.setCell ⟨M, 0, none⟩ v0).setCell ⟨M, 1, none⟩ v1).setCell ⟨M, 2, none⟩ v2).setCell ⟨M, 3, none⟩ v3).setCell ⟨M, 4, none⟩ v4).setCell ⟨M, 5, none⟩ v5).setCell ⟨M, 6, none⟩ v6).setCell ⟨M, 7, none⟩ v7).setCell ⟨M, 8, none⟩ v8).setCell ⟨M, 9, none⟩ v9).setCell ⟨M, 10, none⟩ v10).setCell ⟨M, 11, none⟩ v11).setCell ⟨M, 12, none⟩ v12).setCell ⟨M, 13, none⟩ v13).setCell ⟨M, 14, none⟩ v14) := (((((((((((((((h.setCell hM _).setCell hM _).setCell hM _).setCell hM _).setCell hM _).setCell hM _).setCell hM _).setCell hM _).setCell hM _).setCell hM _).setCell hM _).setCell hM _).setCell hM _).setCell hM _).setCell hM _)
theorem drew_below (w : World) : Below w.heap.size w w.drew := (Below.refl _ _).drew
theorem drew_cell {w : World} {p : Addr} {v : Value} (h : w.cell? p = some v) : w.drew.cell? p = some v := h
theorem drew_alloc (w : World) (o : Obj) : Below w.heap.size w (w.alloc o).drew := ((Below.refl _ _).alloc (Nat.le_refl _) o).drew
theorem ge_of {w1 X w5 : World} (_ : BlkA w5 X.heap.size zA) (hX : Below w1.heap.size w1 X) : w1.heap.size ≤ X.heap.size := hX.size

end Go.Proofs.YtedblhcehlbbmaaGreatDoor

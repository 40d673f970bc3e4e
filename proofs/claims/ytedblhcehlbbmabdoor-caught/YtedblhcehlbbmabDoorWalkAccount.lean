/-
  CONTRACT: the book's Account.
-/
import Derived.Test.YtedblhcehlbbmabDoorWalkLoansPath
import Derived.Test.YtedblhcehlbbmabDoorWalkHead
import Derived.Test.YtedblhcehlbbmabDoorBlkAcc
import Derived.WalkKit
import Derived.WalkSpells
import Derived.WalkLawsBesides
namespace Go.Proofs.YtedblhcehlbbmabDoor
open Go.RowKit

theorem Tryd.infoAcc : (Tryd.prog.info? 35).map (·.size) = some 15 := by kernel_rfl
theorem ret_acc2 {fn : Func} {p u : Tmp} (h : fn.results = #[.cell p 35, .tmp u]) {tmps : Array Value} {w : World} {L : Nat} {a : Acc} (hp : tmps.getD p undef = .pointer (some ⟨L, 0, none⟩)) (hb : BlkA w L a) :
    (results fn tmps).run Tryd.prog w = .ok (.tuple #[accV a, tmps.getD u undef]) w := by
  rw [results_cell_tmp h, hp]
  have := run_loadVar_row (P := Tryd.prog) w L 35 35 _ (0, 0) _ hb Tryd.underlying35 rfl Tryd.infoAcc
  simp [asAddr, Result.andThen, this, accV, accC]
theorem BlkA.free {w : World} {L : Nat} {a : Acc} (h : BlkA w L a) (i : Nat) : w.frozen? ⟨L, i, none⟩ = false := by
  unfold BlkA at h
  simp [World.frozen?, h]
def putAcc (w : World) (L : Nat) (a : Acc) : World := ((((((((((((((w.setCell ⟨L, 0, none⟩ (.int .i64 a.loan)).setCell ⟨L, 1, none⟩ (.int .i64 a.st.principal)).setCell ⟨L, 2, none⟩ (.int .i64 a.st.due)).setCell ⟨L, 3, none⟩ (.int .i64 a.st.rate)).setCell ⟨L, 4, none⟩ (.int .i64 a.st.day)).setCell ⟨L, 5, none⟩ (.int .i64 a.st.spare)).setCell ⟨L, 6, none⟩ (.int .i64 a.st.count)).setCell ⟨L, 7, none⟩ (.int .i64 a.size)).setCell ⟨L, 8, none⟩ (.int .i64 a.log)).setCell ⟨L, 9, none⟩ (.int .i64 a.p0)).setCell ⟨L, 10, none⟩ (.int .i64 a.p1)).setCell ⟨L, 11, none⟩ (.int .i64 a.p2)).setCell ⟨L, 12, none⟩ (.int .i64 a.p3)).setCell ⟨L, 13, none⟩ (.int .i64 a.p4)).setCell ⟨L, 14, none⟩ (.int .i64 a.p5)
theorem BlkA.all {w : World} {L : Nat} {z : Acc} (h : BlkA w L z) (a : Acc) : BlkA (putAcc w L a) L a := by
  unfold BlkA at h
  have h1 : (w.setCell ⟨L, 0, none⟩ (.int .i64 a.loan)).heap[L]? = some (.cells #[.int .i64 a.loan, .int .i64 z.st.principal, .int .i64 z.st.due, .int .i64 z.st.rate, .int .i64 z.st.day, .int .i64 z.st.spare, .int .i64 z.st.count, .int .i64 z.size, .int .i64 z.log, .int .i64 z.p0, .int .i64 z.p1, .int .i64 z.p2, .int .i64 z.p3, .int .i64 z.p4, .int .i64 z.p5] 35 (0, 0)) := blk_setCell h
  have h2 : ((w.setCell ⟨L, 0, none⟩ (.int .i64 a.loan)).setCell ⟨L, 1, none⟩ (.int .i64 a.st.principal)).heap[L]? = some (.cells #[.int .i64 a.loan, .int .i64 a.st.principal, .int .i64 z.st.due, .int .i64 z.st.rate, .int .i64 z.st.day, .int .i64 z.st.spare, .int .i64 z.st.count, .int .i64 z.size, .int .i64 z.log, .int .i64 z.p0, .int .i64 z.p1, .int .i64 z.p2, .int .i64 z.p3, .int .i64 z.p4, .int .i64 z.p5] 35 (0, 0)) := blk_setCell h1
  have h3 : (((w.setCell ⟨L, 0, none⟩ (.int .i64 a.loan)).setCell ⟨L, 1, none⟩ (.int .i64 a.st.principal)).setCell ⟨L, 2, none⟩ (.int .i64 a.st.due)).heap[L]? = some (.cells #[.int .i64 a.loan, .int .i64 a.st.principal, .int .i64 a.st.due, .int .i64 z.st.rate, .int .i64 z.st.day, .int .i64 z.st.spare, .int .i64 z.st.count, .int .i64 z.size, .int .i64 z.log, .int .i64 z.p0, .int .i64 z.p1, .int .i64 z.p2, .int .i64 z.p3, .int .i64 z.p4, .int .i64 z.p5] 35 (0, 0)) := blk_setCell h2
  have h4 : ((((w.setCell ⟨L, 0, none⟩ (.int .i64 a.loan)).setCell ⟨L, 1, none⟩ (.int .i64 a.st.principal)).setCell ⟨L, 2, none⟩ (.int .i64 a.st.due)).setCell ⟨L, 3, none⟩ (.int .i64 a.st.rate)).heap[L]? = some (.cells #[.int .i64 a.loan, .int .i64 a.st.principal, .int .i64 a.st.due, .int .i64 a.st.rate, .int .i64 z.st.day, .int .i64 z.st.spare, .int .i64 z.st.count, .int .i64 z.size, .int .i64 z.log, .int .i64 z.p0, .int .i64 z.p1, .int .i64 z.p2, .int .i64 z.p3, .int .i64 z.p4, .int .i64 z.p5] 35 (0, 0)) := blk_setCell h3
  have h5 : (((((w.setCell ⟨L, 0, none⟩ (.int .i64 a.loan)).setCell ⟨L, 1, none⟩ (.int .i64 a.st.principal)).setCell ⟨L, 2, none⟩ (.int .i64 a.st.due)).setCell ⟨L, 3, none⟩ (.int .i64 a.st.rate)).setCell ⟨L, 4, none⟩ (.int .i64 a.st.day)).heap[L]? = some (.cells #[.int .i64 a.loan, .int .i64 a.st.principal, .int .i64 a.st.due, .int .i64 a.st.rate, .int .i64 a.st.day, .int .i64 z.st.spare, .int .i64 z.st.count, .int .i64 z.size, .int .i64 z.log, .int .i64 z.p0, .int .i64 z.p1, .int .i64 z.p2, .int .i64 z.p3, .int .i64 z.p4, .int .i64 z.p5] 35 (0, 0)) := blk_setCell h4
  have h6 : ((((((w.setCell ⟨L, 0, none⟩ (.int .i64 a.loan)).setCell ⟨L, 1, none⟩ (.int .i64 a.st.principal)).setCell ⟨L, 2, none⟩ (.int .i64 a.st.due)).setCell ⟨L, 3, none⟩ (.int .i64 a.st.rate)).setCell ⟨L, 4, none⟩ (.int .i64 a.st.day)).setCell ⟨L, 5, none⟩ (.int .i64 a.st.spare)).heap[L]? = some (.cells #[.int .i64 a.loan, .int .i64 a.st.principal, .int .i64 a.st.due, .int .i64 a.st.rate, .int .i64 a.st.day, .int .i64 a.st.spare, .int .i64 z.st.count, .int .i64 z.size, .int .i64 z.log, .int .i64 z.p0, .int .i64 z.p1, .int .i64 z.p2, .int .i64 z.p3, .int .i64 z.p4, .int .i64 z.p5] 35 (0, 0)) := blk_setCell h5
  have h7 : (((((((w.setCell ⟨L, 0, none⟩ (.int .i64 a.loan)).setCell ⟨L, 1, none⟩ (.int .i64 a.st.principal)).setCell ⟨L, 2, none⟩ (.int .i64 a.st.due)).setCell ⟨L, 3, none⟩ (.int .i64 a.st.rate)).setCell ⟨L, 4, none⟩ (.int .i64 a.st.day)).setCell ⟨L, 5, none⟩ (.int .i64 a.st.spare)).setCell ⟨L, 6, none⟩ (.int .i64 a.st.count)).heap[L]? = some (.cells #[.int .i64 a.loan, .int .i64 a.st.principal, .int .i64 a.st.due, .int .i64 a.st.rate, .int .i64 a.st.day, .int .i64 a.st.spare, .int .i64 a.st.count, .int .i64 z.size, .int .i64 z.log, .int .i64 z.p0, .int .i64 z.p1, .int .i64 z.p2, .int .i64 z.p3, .int .i64 z.p4, .int .i64 z.p5] 35 (0, 0)) := blk_setCell h6
  have h8 : ((((((((w.setCell ⟨L, 0, none⟩ (.int .i64 a.loan)).setCell ⟨L, 1, none⟩ (.int .i64 a.st.principal)).setCell ⟨L, 2, none⟩ (.int .i64 a.st.due)).setCell ⟨L, 3, none⟩ (.int .i64 a.st.rate)).setCell ⟨L, 4, none⟩ (.int .i64 a.st.day)).setCell ⟨L, 5, none⟩ (.int .i64 a.st.spare)).setCell ⟨L, 6, none⟩ (.int .i64 a.st.count)).setCell ⟨L, 7, none⟩ (.int .i64 a.size)).heap[L]? = some (.cells #[.int .i64 a.loan, .int .i64 a.st.principal, .int .i64 a.st.due, .int .i64 a.st.rate, .int .i64 a.st.day, .int .i64 a.st.spare, .int .i64 a.st.count, .int .i64 a.size, .int .i64 z.log, .int .i64 z.p0, .int .i64 z.p1, .int .i64 z.p2, .int .i64 z.p3, .int .i64 z.p4, .int .i64 z.p5] 35 (0, 0)) := blk_setCell h7
  have h9 : (((((((((w.setCell ⟨L, 0, none⟩ (.int .i64 a.loan)).setCell ⟨L, 1, none⟩ (.int .i64 a.st.principal)).setCell ⟨L, 2, none⟩ (.int .i64 a.st.due)).setCell ⟨L, 3, none⟩ (.int .i64 a.st.rate)).setCell ⟨L, 4, none⟩ (.int .i64 a.st.day)).setCell ⟨L, 5, none⟩ (.int .i64 a.st.spare)).setCell ⟨L, 6, none⟩ (.int .i64 a.st.count)).setCell ⟨L, 7, none⟩ (.int .i64 a.size)).setCell ⟨L, 8, none⟩ (.int .i64 a.log)).heap[L]? = some (.cells #[.int .i64 a.loan, .int .i64 a.st.principal, .int .i64 a.st.due, .int .i64 a.st.rate, .int .i64 a.st.day, .int .i64 a.st.spare, .int .i64 a.st.count, .int .i64 a.size, .int .i64 a.log, .int .i64 z.p0, .int .i64 z.p1, .int .i64 z.p2, .int .i64 z.p3, .int .i64 z.p4, .int .i64 z.p5] 35 (0, 0)) := blk_setCell h8
  have h10 : ((((((((((w.setCell ⟨L, 0, none⟩ (.int .i64 a.loan)).setCell ⟨L, 1, none⟩ (.int .i64 a.st.principal)).setCell ⟨L, 2, none⟩ (.int .i64 a.st.due)).setCell ⟨L, 3, none⟩ (.int .i64 a.st.rate)).setCell ⟨L, 4, none⟩ (.int .i64 a.st.day)).setCell ⟨L, 5, none⟩ (.int .i64 a.st.spare)).setCell ⟨L, 6, none⟩ (.int .i64 a.st.count)).setCell ⟨L, 7, none⟩ (.int .i64 a.size)).setCell ⟨L, 8, none⟩ (.int .i64 a.log)).setCell ⟨L, 9, none⟩ (.int .i64 a.p0)).heap[L]? = some (.cells #[.int .i64 a.loan, .int .i64 a.st.principal, .int .i64 a.st.due, .int .i64 a.st.rate, .int .i64 a.st.day, .int .i64 a.st.spare, .int .i64 a.st.count, .int .i64 a.size, .int .i64 a.log, .int .i64 a.p0, .int .i64 z.p1, .int .i64 z.p2, .int .i64 z.p3, .int .i64 z.p4, .int .i64 z.p5] 35 (0, 0)) := blk_setCell h9
  have h11 : (((((((((((w.setCell ⟨L, 0, none⟩ (.int .i64 a.loan)).setCell ⟨L, 1, none⟩ (.int .i64 a.st.principal)).setCell ⟨L, 2, none⟩ (.int .i64 a.st.due)).setCell ⟨L, 3, none⟩ (.int .i64 a.st.rate)).setCell ⟨L, 4, none⟩ (.int .i64 a.st.day)).setCell ⟨L, 5, none⟩ (.int .i64 a.st.spare)).setCell ⟨L, 6, none⟩ (.int .i64 a.st.count)).setCell ⟨L, 7, none⟩ (.int .i64 a.size)).setCell ⟨L, 8, none⟩ (.int .i64 a.log)).setCell ⟨L, 9, none⟩ (.int .i64 a.p0)).setCell ⟨L, 10, none⟩ (.int .i64 a.p1)).heap[L]? = some (.cells #[.int .i64 a.loan, .int .i64 a.st.principal, .int .i64 a.st.due, .int .i64 a.st.rate, .int .i64 a.st.day, .int .i64 a.st.spare, .int .i64 a.st.count, .int .i64 a.size, .int .i64 a.log, .int .i64 a.p0, .int .i64 a.p1, .int .i64 z.p2, .int .i64 z.p3, .int .i64 z.p4, .int .i64 z.p5] 35 (0, 0)) := blk_setCell h10
  have h12 : ((((((((((((w.setCell ⟨L, 0, none⟩ (.int .i64 a.loan)).setCell ⟨L, 1, none⟩ (.int .i64 a.st.principal)).setCell ⟨L, 2, none⟩ (.int .i64 a.st.due)).setCell ⟨L, 3, none⟩ (.int .i64 a.st.rate)).setCell ⟨L, 4, none⟩ (.int .i64 a.st.day)).setCell ⟨L, 5, none⟩ (.int .i64 a.st.spare)).setCell ⟨L, 6, none⟩ (.int .i64 a.st.count)).setCell ⟨L, 7, none⟩ (.int .i64 a.size)).setCell ⟨L, 8, none⟩ (.int .i64 a.log)).setCell ⟨L, 9, none⟩ (.int .i64 a.p0)).setCell ⟨L, 10, none⟩ (.int .i64 a.p1)).setCell ⟨L, 11, none⟩ (.int .i64 a.p2)).heap[L]? = some (.cells #[.int .i64 a.loan, .int .i64 a.st.principal, .int .i64 a.st.due, .int .i64 a.st.rate, .int .i64 a.st.day, .int .i64 a.st.spare, .int .i64 a.st.count, .int .i64 a.size, .int .i64 a.log, .int .i64 a.p0, .int .i64 a.p1, .int .i64 a.p2, .int .i64 z.p3, .int .i64 z.p4, .int .i64 z.p5] 35 (0, 0)) := blk_setCell h11
  have h13 : (((((((((((((w.setCell ⟨L, 0, none⟩ (.int .i64 a.loan)).setCell ⟨L, 1, none⟩ (.int .i64 a.st.principal)).setCell ⟨L, 2, none⟩ (.int .i64 a.st.due)).setCell ⟨L, 3, none⟩ (.int .i64 a.st.rate)).setCell ⟨L, 4, none⟩ (.int .i64 a.st.day)).setCell ⟨L, 5, none⟩ (.int .i64 a.st.spare)).setCell ⟨L, 6, none⟩ (.int .i64 a.st.count)).setCell ⟨L, 7, none⟩ (.int .i64 a.size)).setCell ⟨L, 8, none⟩ (.int .i64 a.log)).setCell ⟨L, 9, none⟩ (.int .i64 a.p0)).setCell ⟨L, 10, none⟩ (.int .i64 a.p1)).setCell ⟨L, 11, none⟩ (.int .i64 a.p2)).setCell ⟨L, 12, none⟩ (.int .i64 a.p3)).heap[L]? = some (.cells #[.int .i64 a.loan, .int .i64 a.st.principal, .int .i64 a.st.due, .int .i64 a.st.rate, .int .i64 a.st.day, .int .i64 a.st.spare, .int .i64 a.st.count, .int .i64 a.size, .int .i64 a.log, .int .i64 a.p0, .int .i64 a.p1, .int .i64 a.p2, .int .i64 a.p3, .int .i64 z.p4, .int .i64 z.p5] 35 (0, 0)) := blk_setCell h12
  have h14 : ((((((((((((((w.setCell ⟨L, 0, none⟩ (.int .i64 a.loan)).setCell ⟨L, 1, none⟩ (.int .i64 a.st.principal)).setCell ⟨L, 2, none⟩ (.int .i64 a.st.due)).setCell ⟨L, 3, none⟩ (.int .i64 a.st.rate)).setCell ⟨L, 4, none⟩ (.int .i64 a.st.day)).setCell ⟨L, 5, none⟩ (.int .i64 a.st.spare)).setCell ⟨L, 6, none⟩ (.int .i64 a.st.count)).setCell ⟨L, 7, none⟩ (.int .i64 a.size)).setCell ⟨L, 8, none⟩ (.int .i64 a.log)).setCell ⟨L, 9, none⟩ (.int .i64 a.p0)).setCell ⟨L, 10, none⟩ (.int .i64 a.p1)).setCell ⟨L, 11, none⟩ (.int .i64 a.p2)).setCell ⟨L, 12, none⟩ (.int .i64 a.p3)).setCell ⟨L, 13, none⟩ (.int .i64 a.p4)).heap[L]? = some (.cells #[.int .i64 a.loan, .int .i64 a.st.principal, .int .i64 a.st.due, .int .i64 a.st.rate, .int .i64 a.st.day, .int .i64 a.st.spare, .int .i64 a.st.count, .int .i64 a.size, .int .i64 a.log, .int .i64 a.p0, .int .i64 a.p1, .int .i64 a.p2, .int .i64 a.p3, .int .i64 a.p4, .int .i64 z.p5] 35 (0, 0)) := blk_setCell h13
  have h15 : (((((((((((((((w.setCell ⟨L, 0, none⟩ (.int .i64 a.loan)).setCell ⟨L, 1, none⟩ (.int .i64 a.st.principal)).setCell ⟨L, 2, none⟩ (.int .i64 a.st.due)).setCell ⟨L, 3, none⟩ (.int .i64 a.st.rate)).setCell ⟨L, 4, none⟩ (.int .i64 a.st.day)).setCell ⟨L, 5, none⟩ (.int .i64 a.st.spare)).setCell ⟨L, 6, none⟩ (.int .i64 a.st.count)).setCell ⟨L, 7, none⟩ (.int .i64 a.size)).setCell ⟨L, 8, none⟩ (.int .i64 a.log)).setCell ⟨L, 9, none⟩ (.int .i64 a.p0)).setCell ⟨L, 10, none⟩ (.int .i64 a.p1)).setCell ⟨L, 11, none⟩ (.int .i64 a.p2)).setCell ⟨L, 12, none⟩ (.int .i64 a.p3)).setCell ⟨L, 13, none⟩ (.int .i64 a.p4)).setCell ⟨L, 14, none⟩ (.int .i64 a.p5)).heap[L]? = some (.cells #[.int .i64 a.loan, .int .i64 a.st.principal, .int .i64 a.st.due, .int .i64 a.st.rate, .int .i64 a.st.day, .int .i64 a.st.spare, .int .i64 a.st.count, .int .i64 a.size, .int .i64 a.log, .int .i64 a.p0, .int .i64 a.p1, .int .i64 a.p2, .int .i64 a.p3, .int .i64 a.p4, .int .i64 a.p5] 35 (0, 0)) := blk_setCell h14
  exact h15
theorem putAcc_below {B : Nat} {a w : World} (h : Below B a w) (L : Nat) (t : Acc) (hB : B ≤ L) : Below B a (putAcc w L t) :=
  ((((((((((((((h.setCell hB _).setCell hB _).setCell hB _).setCell hB _).setCell hB _).setCell hB _).setCell hB _).setCell hB _).setCell hB _).setCell hB _).setCell hB _).setCell hB _).setCell hB _).setCell hB _).setCell hB _

set_option maxRecDepth 20000 in
set_option maxHeartbeats 4000000 in
theorem account_any (w : World) (S : Nat → Prop) (v : Value) (es : List Ev) (loan : Int) (h : Rep w S v es) (ht : TabOk w) :
    Calls Tryd.prog 9 #[v, .int .i64 loan] w fun r w' => r = .returned (.tuple #[accV (if 0 ≤ loan ∧ loan ≤ 63 then accOf es loan.toNat else zA), .int .i64 (if 0 ≤ loan ∧ loan ≤ 63 then 0 else 1)]) ∧ Below w.heap.size w w' := by
  have HSA : Hid (∀ wz, Below w.heap.size w wz → Calls Tryd.prog 17 #[v, .int .i64 loan] wz fun r w' => r = .returned (.tuple #[stV (if 0 ≤ loan ∧ loan ≤ 63 then stOf es loan else zS), .int .i64 (if 0 ≤ loan ∧ loan ≤ 63 then 0 else 1)]) ∧ Below wz.heap.size wz w') := fun wz hz => state_any wz S v es loan (h.stay fun k hk => hz.block k (h.lt k hk))
  have HHD : Hid (∀ wz, Below w.heap.size w wz → Calls Tryd.prog 8 #[v] wz fun r w' => r = .returned (headV es) ∧ Below wz.heap.size wz w') := fun wz hz => head_any wz S v es (h.stay fun k hk => hz.block k (h.lt k hk)) (ht.kept hz)
  by_cases hc : 0 ≤ loan ∧ loan ≤ 63
  · rw [if_pos hc, if_pos hc] at HSA
    rw [if_pos hc, if_pos hc]
    obtain ⟨p, u, rfl, hp, hu, _, hg, _⟩ := h
    obtain ⟨a, cap, rfl, _, _, hE, hlt⟩ := hu.form
    have HP : Hid (∀ wz, Below w.heap.size w wz → wz.cell? ⟨p, 0, none⟩ = some (.slice a es.length cap)) := fun wz hz => cell_kept (cell_one hp) hz
    have HSS : Hid (∀ wz, Below w.heap.size w wz → Calls Tryd.prog 23 #[.slice a es.length cap] wz fun e w' => ∃ v, e = .returned v ∧ OwnSt w' wz.heap.size v (stF es) 64 ∧ Below wz.heap.size wz w') := fun wz hz => states_any es.length a es cap wz rfl (hE.under hz hlt) (fun b h => Nat.lt_of_lt_of_le (hlt b h) hz.size) hg
    have hpl : p < w.heap.size := lt_of_block hp
    have HLP : Hid (∀ g c wz, Below w.heap.size w wz → Sts wz g 0 64 (stF es) 0 → 64 ≤ c → c ≤ maxLen → Calls Tryd.prog 27 #[.slice (some ⟨g, 0, none⟩) 64 c, .int .i64 loan] wz fun e w' => e = .returned (pathV (stF es) loan.toNat) ∧ Below wz.heap.size wz w') := fun g c wz hz h1 h2 h3 => by
      have := loansPath_any (stF es) (fun j => st64_of es (j : Int) hg) g c loan.toNat wz (by omega) h1 h2 h3 (ht.kept hz)
      rw [Int.toNat_of_nonneg hc.1] at this
      exact this
    have HSI : Hid (stOf es loan = (accOf es loan.toNat).st) := by
      show _ = stOf es ((loan.toNat : Nat) : Int)
      rw [Int.toNat_of_nonneg hc.1]
    have HLO : Hid (loan = (accOf es loan.toNat).loan) := by
      show _ = ((loan.toNat : Nat) : Int)
      rw [Int.toNat_of_nonneg hc.1]
    have HZ : Hid (headV es = .agg #[.int .i64 (accOf es loan.toNat).size, .int .i64 (accOf es loan.toNat).log, .int .i64 (mapOf es), .int .i64 (topOf es)]) := rfl
    have HPV : Hid (pathV (stF es) loan.toNat = .agg #[.int .i64 (accOf es loan.toNat).p0, .int .i64 (accOf es loan.toNat).p1, .int .i64 (accOf es loan.toNat).p2, .int .i64 (accOf es loan.toNat).p3, .int .i64 (accOf es loan.toNat).p4, .int .i64 (accOf es loan.toNat).p5]) := rfl
    rw [HZ.out] at HHD
    rw [HPV.out] at HLP
    rw [HSI.out] at HSA
    unfold stV at HSA
    have h200 := hg.1
    generalize accOf es loan.toNat = A at *
    generalize mapOf es = MP at *
    generalize topOf es = TP at *
    generalize stF es = f at *
    generalize es.length = n at *
    clear hp hu hg hE hlt ht hc HZ HPV HSI
    obtain ⟨L, hL⟩ : ∃ L, L = w.heap.size := ⟨_, rfl⟩
    go_enter Tryd.func9, Tryd.ntmps9
    go_wp2_with fail
    refine (HSA.out _ ((Below.refl _ _).alloc (Nat.le_refl _) _)).mono ?_
    rintro e w1 ⟨rfl, hb1⟩
    rw [← hL]
    have HB1 : Hid (BlkA w1 L zA) := by
      show BlkA _ _ _
      rw [hL]; exact (BlkA.new w zA).kept hb1
    have hk1 : Below w.heap.size w w1 := kept ((Below.refl _ _).alloc (Nat.le_refl _) _) hb1
    have HLW : Hid (w.heap.size ≤ L) := by show _ ≤ _; rw [hL]; exact Nat.le_refl _
    obtain ⟨G, hG⟩ : ∃ G, G = w1.heap.size := ⟨_, rfl⟩
    clear hb1 hL HSA
    go_wp2_with fail
    rw [← hG]
    refine (HHD.out _ (hk1.alloc hk1.size _)).mono ?_
    rintro e w2 ⟨rfl, hb2⟩
    have HB2 : Hid (BlkA w2 L zA) := (HB1.out.kept ((Below.refl _ _).alloc (Nat.le_refl _) _)).kept hb2
    have HS2 : Hid (Blk w2 G A.st) := by
      show Blk _ _ _
      rw [hG]; exact (Blk.new w1 A.st).kept hb2
    have hk2 : Below w.heap.size w w2 := kept (hk1.alloc hk1.size _) hb2
    have hc2 := HP.out w2 hk2
    obtain ⟨H, hH⟩ : ∃ H, H = w2.heap.size := ⟨_, rfl⟩
    have hp2 : p < w2.heap.size := Nat.lt_of_lt_of_le hpl hk2.size
    clear hb2 HB1 hk1 hG HHD
    go_wp2_with fail
    rw [← hH]
    refine (HSS.out _ (hk2.alloc hk2.size _)).mono ?_
    rintro e w3 ⟨v3, rfl, hO3, hb3⟩
    have HH3 : Hid (w3.heap[H]? = some (.cells #[.int .i64 A.size, .int .i64 A.log, .int .i64 MP, .int .i64 TP] 29 (0, 0))) := by
      show _ = _
      rw [hH, hb3.block _ (by simp)]
      exact heap_alloc_new w2 _
    have HB3 : Hid (BlkA w3 L zA) := (HB2.out.kept ((Below.refl _ _).alloc (Nat.le_refl _) _)).kept hb3
    have HS3 : Hid (Blk w3 G A.st) := (HS2.out.kept ((Below.refl _ _).alloc (Nat.le_refl _) _)).kept hb3
    have hk3 : Below w.heap.size w w3 := kept (hk2.alloc hk2.size _) hb3
    obtain ⟨a3, c3, rfl, hl3, hm3, hS3⟩ := hO3.form
    obtain ⟨g3, rfl, hS4⟩ := hS3 (by omega)
    have HLQ := hid (HLP.out g3 c3 w3 hk3 hS4 hl3 hm3)
    clear hb3 hO3 hS3 hS4 hl3 hm3 HB2 HS2 hk2 hc2 hp2 hH HSS HLP
    go_wp2_with fail
    refine HLQ.out.mono ?_
    rintro e w4 ⟨rfl, hb4⟩
    have HB4 := hid (HB3.out.kept hb4)
    have HS4 := hid (HS3.out.kept hb4)
    have HH4 : Hid (w4.heap[H]? = some (.cells #[.int .i64 A.size, .int .i64 A.log, .int .i64 MP, .int .i64 TP] 29 (0, 0))) := by
      show _ = _
      rw [hb4.block _ (lt_of_block HH3.out)]; exact HH3.out
    have hk4 := kept hk3 hb4
    clear hb4 HB3 HS3 HH3 hk3 HLQ
    have l1 : L < w4.heap.size := lt_of_block HB4.out
    have l2 : G < w4.heap.size := lt_of_block HS4.out
    have l3 : H < w4.heap.size := lt_of_block HH4.out
    obtain ⟨s0, s1, s2, s3, s4, s5⟩ := HS4.out.six
    have e0 : w4.cell? ⟨H, 0, none⟩ = some (.int .i64 A.size) := by simp [World.cell?, HH4.out]
    have e1 : w4.cell? ⟨H, 1, none⟩ = some (.int .i64 A.log) := by simp [World.cell?, HH4.out]
    have f0 := HB4.out.free 0
    have f1 := HB4.out.free 1
    have f2 := HB4.out.free 2
    have f3 := HB4.out.free 3
    have f4 := HB4.out.free 4
    have f5 := HB4.out.free 5
    have f6 := HB4.out.free 6
    have f7 := HB4.out.free 7
    have f8 := HB4.out.free 8
    have f9 := HB4.out.free 9
    have f10 := HB4.out.free 10
    have f11 := HB4.out.free 11
    have f12 := HB4.out.free 12
    have f13 := HB4.out.free 13
    have f14 := HB4.out.free 14
    have y0 : w4.cell? ⟨L, 0, none⟩ = some (.int .i64 0) := HB4.out.cell 0 _ rfl
    have y1 : w4.cell? ⟨L, 1, none⟩ = some (.int .i64 0) := HB4.out.cell 1 _ rfl
    have y2 : w4.cell? ⟨L, 2, none⟩ = some (.int .i64 0) := HB4.out.cell 2 _ rfl
    have y3 : w4.cell? ⟨L, 3, none⟩ = some (.int .i64 0) := HB4.out.cell 3 _ rfl
    have y4 : w4.cell? ⟨L, 4, none⟩ = some (.int .i64 0) := HB4.out.cell 4 _ rfl
    have y5 : w4.cell? ⟨L, 5, none⟩ = some (.int .i64 0) := HB4.out.cell 5 _ rfl
    have y6 : w4.cell? ⟨L, 6, none⟩ = some (.int .i64 0) := HB4.out.cell 6 _ rfl
    have y7 : w4.cell? ⟨L, 7, none⟩ = some (.int .i64 0) := HB4.out.cell 7 _ rfl
    have y8 : w4.cell? ⟨L, 8, none⟩ = some (.int .i64 0) := HB4.out.cell 8 _ rfl
    have y9 : w4.cell? ⟨L, 9, none⟩ = some (.int .i64 0) := HB4.out.cell 9 _ rfl
    have y10 : w4.cell? ⟨L, 10, none⟩ = some (.int .i64 0) := HB4.out.cell 10 _ rfl
    have y11 : w4.cell? ⟨L, 11, none⟩ = some (.int .i64 0) := HB4.out.cell 11 _ rfl
    have y12 : w4.cell? ⟨L, 12, none⟩ = some (.int .i64 0) := HB4.out.cell 12 _ rfl
    have y13 : w4.cell? ⟨L, 13, none⟩ = some (.int .i64 0) := HB4.out.cell 13 _ rfl
    have y14 : w4.cell? ⟨L, 14, none⟩ = some (.int .i64 0) := HB4.out.cell 14 _ rfl
    go_wp2_with fail
    (try simp only [Exit.inBlock, Exit.then])
    rw [HLO.out]
    refine bodyPost_ret (ret_acc2 rfl (L := L) (a := A) rfl ((HB4.out.all A).kept ((Below.refl _ _).alloc (Nat.le_refl _) _))) rfl ⟨rfl, (putAcc_below hk4 L A HLW.out).alloc (putAcc_below hk4 L A HLW.out).size _⟩
  · rw [if_neg hc, if_neg hc] at HSA
    rw [if_neg hc, if_neg hc]
    obtain ⟨p, u, rfl, hp, _⟩ := h
    have hpl : p < w.heap.size := lt_of_block hp
    unfold stV at HSA
    clear hp HHD ht hc
    obtain ⟨L, hL⟩ : ∃ L, L = w.heap.size := ⟨_, rfl⟩
    go_enter Tryd.func9, Tryd.ntmps9
    go_wp2_with fail
    refine (HSA.out _ ((Below.refl _ _).alloc (Nat.le_refl _) _)).mono ?_
    rintro e w1 ⟨rfl, hb1⟩
    rw [← hL]
    have HB4 : Hid (BlkA w1 L zA) := by
      show BlkA _ _ _
      rw [hL]; exact (BlkA.new w zA).kept hb1
    have hk1 : Below w.heap.size w w1 := kept ((Below.refl _ _).alloc (Nat.le_refl _) _) hb1
    have HLW : Hid (w.heap.size ≤ L) := by show _ ≤ _; rw [hL]; exact Nat.le_refl _
    have l1 : L < w1.heap.size := lt_of_block HB4.out
    clear hb1 hL HSA
    have f0 := HB4.out.free 0
    have f1 := HB4.out.free 1
    have f2 := HB4.out.free 2
    have f3 := HB4.out.free 3
    have f4 := HB4.out.free 4
    have f5 := HB4.out.free 5
    have f6 := HB4.out.free 6
    have f7 := HB4.out.free 7
    have f8 := HB4.out.free 8
    have f9 := HB4.out.free 9
    have f10 := HB4.out.free 10
    have f11 := HB4.out.free 11
    have f12 := HB4.out.free 12
    have f13 := HB4.out.free 13
    have f14 := HB4.out.free 14
    have y0 : w1.cell? ⟨L, 0, none⟩ = some (.int .i64 0) := HB4.out.cell 0 _ rfl
    have y1 : w1.cell? ⟨L, 1, none⟩ = some (.int .i64 0) := HB4.out.cell 1 _ rfl
    have y2 : w1.cell? ⟨L, 2, none⟩ = some (.int .i64 0) := HB4.out.cell 2 _ rfl
    have y3 : w1.cell? ⟨L, 3, none⟩ = some (.int .i64 0) := HB4.out.cell 3 _ rfl
    have y4 : w1.cell? ⟨L, 4, none⟩ = some (.int .i64 0) := HB4.out.cell 4 _ rfl
    have y5 : w1.cell? ⟨L, 5, none⟩ = some (.int .i64 0) := HB4.out.cell 5 _ rfl
    have y6 : w1.cell? ⟨L, 6, none⟩ = some (.int .i64 0) := HB4.out.cell 6 _ rfl
    have y7 : w1.cell? ⟨L, 7, none⟩ = some (.int .i64 0) := HB4.out.cell 7 _ rfl
    have y8 : w1.cell? ⟨L, 8, none⟩ = some (.int .i64 0) := HB4.out.cell 8 _ rfl
    have y9 : w1.cell? ⟨L, 9, none⟩ = some (.int .i64 0) := HB4.out.cell 9 _ rfl
    have y10 : w1.cell? ⟨L, 10, none⟩ = some (.int .i64 0) := HB4.out.cell 10 _ rfl
    have y11 : w1.cell? ⟨L, 11, none⟩ = some (.int .i64 0) := HB4.out.cell 11 _ rfl
    have y12 : w1.cell? ⟨L, 12, none⟩ = some (.int .i64 0) := HB4.out.cell 12 _ rfl
    have y13 : w1.cell? ⟨L, 13, none⟩ = some (.int .i64 0) := HB4.out.cell 13 _ rfl
    have y14 : w1.cell? ⟨L, 14, none⟩ = some (.int .i64 0) := HB4.out.cell 14 _ rfl
    go_wp2_with fail
    (try simp only [Exit.inBlock, Exit.then])
    refine bodyPost_ret (ret_acc2 rfl (L := L) (a := zA) rfl ((HB4.out.all zA).kept ((Below.refl _ _).alloc (Nat.le_refl _) _))) rfl ⟨rfl, (putAcc_below hk1 L zA HLW.out).alloc (putAcc_below hk1 L zA HLW.out).size _⟩

end Go.Proofs.YtedblhcehlbbmabDoor

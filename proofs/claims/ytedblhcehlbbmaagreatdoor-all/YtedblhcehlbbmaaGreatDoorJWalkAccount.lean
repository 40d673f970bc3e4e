import Derived.Test.YtedblhcehlbbmaaGreatDoorJWalkDigits
import Derived.Test.YtedblhcehlbbmaaGreatDoorJWalkHand
import Derived.WalkKit
import Derived.WalkSpells
import Derived.WalkLawsBesides
import Derived.Laws.IdiomStrings
import Derived.Deep.QuietTactic
import Derived.BigQuiet
import Derived.Deep.RegionHeld3
/-
  CONTRACT: the book's Account.
-/
namespace Go.Proofs.YtedblhcehlbbmaaGreatDoor
set_option maxRecDepth 20000
open Go.RowKit

theorem Tryz.infoAcc : (Tryz.prog.info? 36).map (·.size) = some 15 := by kernel_rfl
theorem ret_acc2 {fn : Func} {p u : Tmp} (h : fn.results = #[.cell p 36, .tmp u]) {tmps : Array Value} {w : World} {L : Nat} {a : Acc} (hp : tmps.getD p undef = .pointer (some ⟨L, 0, none⟩)) (hb : BlkA w L a) :
    (results fn tmps).run Tryz.prog w = .ok (.tuple #[accV a, tmps.getD u undef]) w := by
  rw [results_cell_tmp h, hp]
  have := run_loadVar_row (P := Tryz.prog) w L 36 36 _ (0, 0) _ hb Tryz.underlying36 rfl Tryz.infoAcc
  simp [asAddr, Result.andThen, this, accV, accC]
theorem BlkA.free {w : World} {L : Nat} {a : Acc} (h : BlkA w L a) (i : Nat) : w.frozen? ⟨L, i, none⟩ = false := by
  unfold BlkA at h
  simp [World.frozen?, h]
def putAcc (w : World) (L : Nat) (a : Acc) : World := ((((((((((((((w.setCell ⟨L, 0, none⟩ (.int .i64 a.loan)).setCell ⟨L, 1, none⟩ (.int .i64 a.st.principal)).setCell ⟨L, 2, none⟩ (.int .i64 a.st.due)).setCell ⟨L, 3, none⟩ (.int .i64 a.st.rate)).setCell ⟨L, 4, none⟩ (.int .i64 a.st.day)).setCell ⟨L, 5, none⟩ (.int .i64 a.st.spare)).setCell ⟨L, 6, none⟩ (.int .i64 a.st.count)).setCell ⟨L, 7, none⟩ (.int .i64 a.size)).setCell ⟨L, 8, none⟩ (.int .i64 a.log)).setCell ⟨L, 9, none⟩ (.int .i64 a.p0)).setCell ⟨L, 10, none⟩ (.int .i64 a.p1)).setCell ⟨L, 11, none⟩ (.int .i64 a.p2)).setCell ⟨L, 12, none⟩ (.int .i64 a.p3)).setCell ⟨L, 13, none⟩ (.int .i64 a.p4)).setCell ⟨L, 14, none⟩ (.int .i64 a.p5)
theorem BlkA.all {w : World} {L : Nat} {z : Acc} (h : BlkA w L z) (a : Acc) : BlkA (putAcc w L a) L a := by
  unfold BlkA at h
  have h1 : (w.setCell ⟨L, 0, none⟩ (.int .i64 a.loan)).heap[L]? = some (.cells #[.int .i64 a.loan, .int .i64 z.st.principal, .int .i64 z.st.due, .int .i64 z.st.rate, .int .i64 z.st.day, .int .i64 z.st.spare, .int .i64 z.st.count, .int .i64 z.size, .int .i64 z.log, .int .i64 z.p0, .int .i64 z.p1, .int .i64 z.p2, .int .i64 z.p3, .int .i64 z.p4, .int .i64 z.p5] 36 (0, 0)) := blk_setCell h
  have h2 : ((w.setCell ⟨L, 0, none⟩ (.int .i64 a.loan)).setCell ⟨L, 1, none⟩ (.int .i64 a.st.principal)).heap[L]? = some (.cells #[.int .i64 a.loan, .int .i64 a.st.principal, .int .i64 z.st.due, .int .i64 z.st.rate, .int .i64 z.st.day, .int .i64 z.st.spare, .int .i64 z.st.count, .int .i64 z.size, .int .i64 z.log, .int .i64 z.p0, .int .i64 z.p1, .int .i64 z.p2, .int .i64 z.p3, .int .i64 z.p4, .int .i64 z.p5] 36 (0, 0)) := blk_setCell h1
  have h3 : (((w.setCell ⟨L, 0, none⟩ (.int .i64 a.loan)).setCell ⟨L, 1, none⟩ (.int .i64 a.st.principal)).setCell ⟨L, 2, none⟩ (.int .i64 a.st.due)).heap[L]? = some (.cells #[.int .i64 a.loan, .int .i64 a.st.principal, .int .i64 a.st.due, .int .i64 z.st.rate, .int .i64 z.st.day, .int .i64 z.st.spare, .int .i64 z.st.count, .int .i64 z.size, .int .i64 z.log, .int .i64 z.p0, .int .i64 z.p1, .int .i64 z.p2, .int .i64 z.p3, .int .i64 z.p4, .int .i64 z.p5] 36 (0, 0)) := blk_setCell h2
  have h4 : ((((w.setCell ⟨L, 0, none⟩ (.int .i64 a.loan)).setCell ⟨L, 1, none⟩ (.int .i64 a.st.principal)).setCell ⟨L, 2, none⟩ (.int .i64 a.st.due)).setCell ⟨L, 3, none⟩ (.int .i64 a.st.rate)).heap[L]? = some (.cells #[.int .i64 a.loan, .int .i64 a.st.principal, .int .i64 a.st.due, .int .i64 a.st.rate, .int .i64 z.st.day, .int .i64 z.st.spare, .int .i64 z.st.count, .int .i64 z.size, .int .i64 z.log, .int .i64 z.p0, .int .i64 z.p1, .int .i64 z.p2, .int .i64 z.p3, .int .i64 z.p4, .int .i64 z.p5] 36 (0, 0)) := blk_setCell h3
  have h5 : (((((w.setCell ⟨L, 0, none⟩ (.int .i64 a.loan)).setCell ⟨L, 1, none⟩ (.int .i64 a.st.principal)).setCell ⟨L, 2, none⟩ (.int .i64 a.st.due)).setCell ⟨L, 3, none⟩ (.int .i64 a.st.rate)).setCell ⟨L, 4, none⟩ (.int .i64 a.st.day)).heap[L]? = some (.cells #[.int .i64 a.loan, .int .i64 a.st.principal, .int .i64 a.st.due, .int .i64 a.st.rate, .int .i64 a.st.day, .int .i64 z.st.spare, .int .i64 z.st.count, .int .i64 z.size, .int .i64 z.log, .int .i64 z.p0, .int .i64 z.p1, .int .i64 z.p2, .int .i64 z.p3, .int .i64 z.p4, .int .i64 z.p5] 36 (0, 0)) := blk_setCell h4
  have h6 : ((((((w.setCell ⟨L, 0, none⟩ (.int .i64 a.loan)).setCell ⟨L, 1, none⟩ (.int .i64 a.st.principal)).setCell ⟨L, 2, none⟩ (.int .i64 a.st.due)).setCell ⟨L, 3, none⟩ (.int .i64 a.st.rate)).setCell ⟨L, 4, none⟩ (.int .i64 a.st.day)).setCell ⟨L, 5, none⟩ (.int .i64 a.st.spare)).heap[L]? = some (.cells #[.int .i64 a.loan, .int .i64 a.st.principal, .int .i64 a.st.due, .int .i64 a.st.rate, .int .i64 a.st.day, .int .i64 a.st.spare, .int .i64 z.st.count, .int .i64 z.size, .int .i64 z.log, .int .i64 z.p0, .int .i64 z.p1, .int .i64 z.p2, .int .i64 z.p3, .int .i64 z.p4, .int .i64 z.p5] 36 (0, 0)) := blk_setCell h5
  have h7 : (((((((w.setCell ⟨L, 0, none⟩ (.int .i64 a.loan)).setCell ⟨L, 1, none⟩ (.int .i64 a.st.principal)).setCell ⟨L, 2, none⟩ (.int .i64 a.st.due)).setCell ⟨L, 3, none⟩ (.int .i64 a.st.rate)).setCell ⟨L, 4, none⟩ (.int .i64 a.st.day)).setCell ⟨L, 5, none⟩ (.int .i64 a.st.spare)).setCell ⟨L, 6, none⟩ (.int .i64 a.st.count)).heap[L]? = some (.cells #[.int .i64 a.loan, .int .i64 a.st.principal, .int .i64 a.st.due, .int .i64 a.st.rate, .int .i64 a.st.day, .int .i64 a.st.spare, .int .i64 a.st.count, .int .i64 z.size, .int .i64 z.log, .int .i64 z.p0, .int .i64 z.p1, .int .i64 z.p2, .int .i64 z.p3, .int .i64 z.p4, .int .i64 z.p5] 36 (0, 0)) := blk_setCell h6
  have h8 : ((((((((w.setCell ⟨L, 0, none⟩ (.int .i64 a.loan)).setCell ⟨L, 1, none⟩ (.int .i64 a.st.principal)).setCell ⟨L, 2, none⟩ (.int .i64 a.st.due)).setCell ⟨L, 3, none⟩ (.int .i64 a.st.rate)).setCell ⟨L, 4, none⟩ (.int .i64 a.st.day)).setCell ⟨L, 5, none⟩ (.int .i64 a.st.spare)).setCell ⟨L, 6, none⟩ (.int .i64 a.st.count)).setCell ⟨L, 7, none⟩ (.int .i64 a.size)).heap[L]? = some (.cells #[.int .i64 a.loan, .int .i64 a.st.principal, .int .i64 a.st.due, .int .i64 a.st.rate, .int .i64 a.st.day, .int .i64 a.st.spare, .int .i64 a.st.count, .int .i64 a.size, .int .i64 z.log, .int .i64 z.p0, .int .i64 z.p1, .int .i64 z.p2, .int .i64 z.p3, .int .i64 z.p4, .int .i64 z.p5] 36 (0, 0)) := blk_setCell h7
  have h9 : (((((((((w.setCell ⟨L, 0, none⟩ (.int .i64 a.loan)).setCell ⟨L, 1, none⟩ (.int .i64 a.st.principal)).setCell ⟨L, 2, none⟩ (.int .i64 a.st.due)).setCell ⟨L, 3, none⟩ (.int .i64 a.st.rate)).setCell ⟨L, 4, none⟩ (.int .i64 a.st.day)).setCell ⟨L, 5, none⟩ (.int .i64 a.st.spare)).setCell ⟨L, 6, none⟩ (.int .i64 a.st.count)).setCell ⟨L, 7, none⟩ (.int .i64 a.size)).setCell ⟨L, 8, none⟩ (.int .i64 a.log)).heap[L]? = some (.cells #[.int .i64 a.loan, .int .i64 a.st.principal, .int .i64 a.st.due, .int .i64 a.st.rate, .int .i64 a.st.day, .int .i64 a.st.spare, .int .i64 a.st.count, .int .i64 a.size, .int .i64 a.log, .int .i64 z.p0, .int .i64 z.p1, .int .i64 z.p2, .int .i64 z.p3, .int .i64 z.p4, .int .i64 z.p5] 36 (0, 0)) := blk_setCell h8
  have h10 : ((((((((((w.setCell ⟨L, 0, none⟩ (.int .i64 a.loan)).setCell ⟨L, 1, none⟩ (.int .i64 a.st.principal)).setCell ⟨L, 2, none⟩ (.int .i64 a.st.due)).setCell ⟨L, 3, none⟩ (.int .i64 a.st.rate)).setCell ⟨L, 4, none⟩ (.int .i64 a.st.day)).setCell ⟨L, 5, none⟩ (.int .i64 a.st.spare)).setCell ⟨L, 6, none⟩ (.int .i64 a.st.count)).setCell ⟨L, 7, none⟩ (.int .i64 a.size)).setCell ⟨L, 8, none⟩ (.int .i64 a.log)).setCell ⟨L, 9, none⟩ (.int .i64 a.p0)).heap[L]? = some (.cells #[.int .i64 a.loan, .int .i64 a.st.principal, .int .i64 a.st.due, .int .i64 a.st.rate, .int .i64 a.st.day, .int .i64 a.st.spare, .int .i64 a.st.count, .int .i64 a.size, .int .i64 a.log, .int .i64 a.p0, .int .i64 z.p1, .int .i64 z.p2, .int .i64 z.p3, .int .i64 z.p4, .int .i64 z.p5] 36 (0, 0)) := blk_setCell h9
  have h11 : (((((((((((w.setCell ⟨L, 0, none⟩ (.int .i64 a.loan)).setCell ⟨L, 1, none⟩ (.int .i64 a.st.principal)).setCell ⟨L, 2, none⟩ (.int .i64 a.st.due)).setCell ⟨L, 3, none⟩ (.int .i64 a.st.rate)).setCell ⟨L, 4, none⟩ (.int .i64 a.st.day)).setCell ⟨L, 5, none⟩ (.int .i64 a.st.spare)).setCell ⟨L, 6, none⟩ (.int .i64 a.st.count)).setCell ⟨L, 7, none⟩ (.int .i64 a.size)).setCell ⟨L, 8, none⟩ (.int .i64 a.log)).setCell ⟨L, 9, none⟩ (.int .i64 a.p0)).setCell ⟨L, 10, none⟩ (.int .i64 a.p1)).heap[L]? = some (.cells #[.int .i64 a.loan, .int .i64 a.st.principal, .int .i64 a.st.due, .int .i64 a.st.rate, .int .i64 a.st.day, .int .i64 a.st.spare, .int .i64 a.st.count, .int .i64 a.size, .int .i64 a.log, .int .i64 a.p0, .int .i64 a.p1, .int .i64 z.p2, .int .i64 z.p3, .int .i64 z.p4, .int .i64 z.p5] 36 (0, 0)) := blk_setCell h10
  have h12 : ((((((((((((w.setCell ⟨L, 0, none⟩ (.int .i64 a.loan)).setCell ⟨L, 1, none⟩ (.int .i64 a.st.principal)).setCell ⟨L, 2, none⟩ (.int .i64 a.st.due)).setCell ⟨L, 3, none⟩ (.int .i64 a.st.rate)).setCell ⟨L, 4, none⟩ (.int .i64 a.st.day)).setCell ⟨L, 5, none⟩ (.int .i64 a.st.spare)).setCell ⟨L, 6, none⟩ (.int .i64 a.st.count)).setCell ⟨L, 7, none⟩ (.int .i64 a.size)).setCell ⟨L, 8, none⟩ (.int .i64 a.log)).setCell ⟨L, 9, none⟩ (.int .i64 a.p0)).setCell ⟨L, 10, none⟩ (.int .i64 a.p1)).setCell ⟨L, 11, none⟩ (.int .i64 a.p2)).heap[L]? = some (.cells #[.int .i64 a.loan, .int .i64 a.st.principal, .int .i64 a.st.due, .int .i64 a.st.rate, .int .i64 a.st.day, .int .i64 a.st.spare, .int .i64 a.st.count, .int .i64 a.size, .int .i64 a.log, .int .i64 a.p0, .int .i64 a.p1, .int .i64 a.p2, .int .i64 z.p3, .int .i64 z.p4, .int .i64 z.p5] 36 (0, 0)) := blk_setCell h11
  have h13 : (((((((((((((w.setCell ⟨L, 0, none⟩ (.int .i64 a.loan)).setCell ⟨L, 1, none⟩ (.int .i64 a.st.principal)).setCell ⟨L, 2, none⟩ (.int .i64 a.st.due)).setCell ⟨L, 3, none⟩ (.int .i64 a.st.rate)).setCell ⟨L, 4, none⟩ (.int .i64 a.st.day)).setCell ⟨L, 5, none⟩ (.int .i64 a.st.spare)).setCell ⟨L, 6, none⟩ (.int .i64 a.st.count)).setCell ⟨L, 7, none⟩ (.int .i64 a.size)).setCell ⟨L, 8, none⟩ (.int .i64 a.log)).setCell ⟨L, 9, none⟩ (.int .i64 a.p0)).setCell ⟨L, 10, none⟩ (.int .i64 a.p1)).setCell ⟨L, 11, none⟩ (.int .i64 a.p2)).setCell ⟨L, 12, none⟩ (.int .i64 a.p3)).heap[L]? = some (.cells #[.int .i64 a.loan, .int .i64 a.st.principal, .int .i64 a.st.due, .int .i64 a.st.rate, .int .i64 a.st.day, .int .i64 a.st.spare, .int .i64 a.st.count, .int .i64 a.size, .int .i64 a.log, .int .i64 a.p0, .int .i64 a.p1, .int .i64 a.p2, .int .i64 a.p3, .int .i64 z.p4, .int .i64 z.p5] 36 (0, 0)) := blk_setCell h12
  have h14 : ((((((((((((((w.setCell ⟨L, 0, none⟩ (.int .i64 a.loan)).setCell ⟨L, 1, none⟩ (.int .i64 a.st.principal)).setCell ⟨L, 2, none⟩ (.int .i64 a.st.due)).setCell ⟨L, 3, none⟩ (.int .i64 a.st.rate)).setCell ⟨L, 4, none⟩ (.int .i64 a.st.day)).setCell ⟨L, 5, none⟩ (.int .i64 a.st.spare)).setCell ⟨L, 6, none⟩ (.int .i64 a.st.count)).setCell ⟨L, 7, none⟩ (.int .i64 a.size)).setCell ⟨L, 8, none⟩ (.int .i64 a.log)).setCell ⟨L, 9, none⟩ (.int .i64 a.p0)).setCell ⟨L, 10, none⟩ (.int .i64 a.p1)).setCell ⟨L, 11, none⟩ (.int .i64 a.p2)).setCell ⟨L, 12, none⟩ (.int .i64 a.p3)).setCell ⟨L, 13, none⟩ (.int .i64 a.p4)).heap[L]? = some (.cells #[.int .i64 a.loan, .int .i64 a.st.principal, .int .i64 a.st.due, .int .i64 a.st.rate, .int .i64 a.st.day, .int .i64 a.st.spare, .int .i64 a.st.count, .int .i64 a.size, .int .i64 a.log, .int .i64 a.p0, .int .i64 a.p1, .int .i64 a.p2, .int .i64 a.p3, .int .i64 a.p4, .int .i64 z.p5] 36 (0, 0)) := blk_setCell h13
  have h15 : (((((((((((((((w.setCell ⟨L, 0, none⟩ (.int .i64 a.loan)).setCell ⟨L, 1, none⟩ (.int .i64 a.st.principal)).setCell ⟨L, 2, none⟩ (.int .i64 a.st.due)).setCell ⟨L, 3, none⟩ (.int .i64 a.st.rate)).setCell ⟨L, 4, none⟩ (.int .i64 a.st.day)).setCell ⟨L, 5, none⟩ (.int .i64 a.st.spare)).setCell ⟨L, 6, none⟩ (.int .i64 a.st.count)).setCell ⟨L, 7, none⟩ (.int .i64 a.size)).setCell ⟨L, 8, none⟩ (.int .i64 a.log)).setCell ⟨L, 9, none⟩ (.int .i64 a.p0)).setCell ⟨L, 10, none⟩ (.int .i64 a.p1)).setCell ⟨L, 11, none⟩ (.int .i64 a.p2)).setCell ⟨L, 12, none⟩ (.int .i64 a.p3)).setCell ⟨L, 13, none⟩ (.int .i64 a.p4)).setCell ⟨L, 14, none⟩ (.int .i64 a.p5)).heap[L]? = some (.cells #[.int .i64 a.loan, .int .i64 a.st.principal, .int .i64 a.st.due, .int .i64 a.st.rate, .int .i64 a.st.day, .int .i64 a.st.spare, .int .i64 a.st.count, .int .i64 a.size, .int .i64 a.log, .int .i64 a.p0, .int .i64 a.p1, .int .i64 a.p2, .int .i64 a.p3, .int .i64 a.p4, .int .i64 a.p5] 36 (0, 0)) := blk_setCell h14
  exact h15
theorem putAcc_below {B : Nat} {a w : World} (h : Below B a w) (L : Nat) (t : Acc) (hB : B ≤ L) : Below B a (putAcc w L t) :=
  ((((((((((((((h.setCell hB _).setCell hB _).setCell hB _).setCell hB _).setCell hB _).setCell hB _).setCell hB _).setCell hB _).setCell hB _).setCell hB _).setCell hB _).setCell hB _).setCell hB _).setCell hB _).setCell hB _

set_option maxRecDepth 20000 in
set_option maxHeartbeats 4000000 in
theorem account_any (w : World) (S : Nat → Prop) (v : Value) (es : List Ev) (loan : Int) (h : Rep w S v es) (ht : TabOk w) :
    Calls Tryz.prog 27 #[v, .int .i64 loan] w fun r w' => r = .returned (.tuple #[accV (if 0 ≤ loan ∧ loan ≤ 63 then accOf es loan.toNat else zA), .int .i64 (if 0 ≤ loan ∧ loan ≤ 63 then 0 else 1)]) ∧ Below w.heap.size w w' := by
  have HSA : Hid (∀ wz, Below w.heap.size w wz → Calls Tryz.prog 19 #[v, .int .i64 loan] wz fun r w' => r = .returned (.tuple #[stV (if 0 ≤ loan ∧ loan ≤ 63 then stOf es loan else zS), .int .i64 (if 0 ≤ loan ∧ loan ≤ 63 then 0 else 1)]) ∧ Below wz.heap.size wz w') := fun wz hz => state_any wz S v es loan (h.stay fun k hk => hz.block k (h.lt k hk))
  have HHD : Hid (∀ wz, Below w.heap.size w wz → Calls Tryz.prog 25 #[v] wz fun r w' => r = .returned (headV es) ∧ Below wz.heap.size wz w') := fun wz hz => head_any wz S v es (h.stay fun k hk => hz.block k (h.lt k hk)) (ht.kept hz)
  by_cases hc : 0 ≤ loan ∧ loan ≤ 63
  · rw [if_pos hc, if_pos hc] at HSA
    rw [if_pos hc, if_pos hc]
    obtain ⟨p, u, rfl, hp, hu, _, hg, _⟩ := h
    obtain ⟨a, cap, rfl, _, _, hE, hlt⟩ := hu.form
    have HP : Hid (∀ wz, Below w.heap.size w wz → wz.cell? ⟨p, 0, none⟩ = some (.slice a es.length cap)) := fun wz hz => cell_kept (cell_one hp) hz
    have HSS : Hid (∀ wz, Below w.heap.size w wz → Calls Tryz.prog 46 #[.slice a es.length cap] wz fun e w' => ∃ v, e = .returned v ∧ OwnSt w' wz.heap.size v (stF es) 64 ∧ Below wz.heap.size wz w') := fun wz hz => states_any es.length a es cap wz rfl (hE.under hz hlt) (fun b h => Nat.lt_of_lt_of_le (hlt b h) hz.size) hg
    have hpl : p < w.heap.size := lt_of_block hp
    have HLP : Hid (∀ g c wz, Below w.heap.size w wz → Sts wz g 0 64 (stF es) 0 → 64 ≤ c → c ≤ maxLen → Calls Tryz.prog 53 #[.slice (some ⟨g, 0, none⟩) 64 c, .int .i64 loan] wz fun e w' => e = .returned (pathV (stF es) loan.toNat) ∧ Below wz.heap.size wz w') := fun g c wz hz h1 h2 h3 => by
      have := loansPath_any (stF es) (fun j => st64_of es (j : Int) hg) g c loan.toNat wz (by omega) h1 h2 h3 (ht.kept hz)
      rw [Int.toNat_of_nonneg hc.1] at this
      exact this
    have HSI : Hid (stOf es loan = (accOf es loan.toNat).st) := by
      show _ = stOf es ((loan.toNat : Nat) : Int)
      rw [Int.toNat_of_nonneg hc.1]
    have HLO : Hid (loan = (accOf es loan.toNat).loan) := by
      show _ = ((loan.toNat : Nat) : Int)
      rw [Int.toNat_of_nonneg hc.1]
    have HZ : Hid (headV es = .agg #[.int .i64 (accOf es loan.toNat).size, .int .i64 (accOf es loan.toNat).log, .int .i64 (mapOf es), .int .i64 (topOf es)]) := rfl
    have HPV : Hid (pathV (stF es) loan.toNat = .agg #[.int .i64 (accOf es loan.toNat).p0, .int .i64 (accOf es loan.toNat).p1, .int .i64 (accOf es loan.toNat).p2, .int .i64 (accOf es loan.toNat).p3, .int .i64 (accOf es loan.toNat).p4, .int .i64 (accOf es loan.toNat).p5]) := rfl
    rw [HZ.out] at HHD
    rw [HPV.out] at HLP
    rw [HSI.out] at HSA
    unfold stV at HSA
    have h200 := hg.1
    generalize accOf es loan.toNat = A at *
    generalize mapOf es = MP at *
    generalize topOf es = TP at *
    generalize stF es = f at *
    generalize es.length = n at *
    clear hp hu hg hE hlt ht hc HZ HPV HSI
    obtain ⟨L, hL⟩ : ∃ L, L = w.heap.size := ⟨_, rfl⟩
    go_enter Tryz.func27, Tryz.ntmps27
    go_wp2_with fail
    refine (HSA.out _ ((Below.refl _ _).alloc (Nat.le_refl _) _)).mono ?_
    rintro e w1 ⟨rfl, hb1⟩
    rw [← hL]
    have HB1 : Hid (BlkA w1 L zA) := by
      show BlkA _ _ _
      rw [hL]; exact (BlkA.new w zA).kept hb1
    have hk1 : Below w.heap.size w w1 := kept ((Below.refl _ _).alloc (Nat.le_refl _) _) hb1
    have HLW : Hid (w.heap.size ≤ L) := by show _ ≤ _; rw [hL]; exact Nat.le_refl _
    obtain ⟨G, hG⟩ : ∃ G, G = w1.heap.size := ⟨_, rfl⟩
    clear hb1 hL HSA
    go_wp2_with fail
    rw [← hG]
    refine (HHD.out _ (hk1.alloc hk1.size _)).mono ?_
    rintro e w2 ⟨rfl, hb2⟩
    have HB2 : Hid (BlkA w2 L zA) := (HB1.out.kept ((Below.refl _ _).alloc (Nat.le_refl _) _)).kept hb2
    have HS2 : Hid (Blk w2 G A.st) := by
      show Blk _ _ _
      rw [hG]; exact (Blk.new w1 A.st).kept hb2
    have hk2 : Below w.heap.size w w2 := kept (hk1.alloc hk1.size _) hb2
    have hc2 := HP.out w2 hk2
    obtain ⟨H, hH⟩ : ∃ H, H = w2.heap.size := ⟨_, rfl⟩
    have hp2 : p < w2.heap.size := Nat.lt_of_lt_of_le hpl hk2.size
    clear hb2 HB1 hk1 hG HHD
    go_wp2_with fail
    rw [← hH]
    refine (HSS.out _ (hk2.alloc hk2.size _)).mono ?_
    rintro e w3 ⟨v3, rfl, hO3, hb3⟩
    have HH3 : Hid (w3.heap[H]? = some (.cells #[.int .i64 A.size, .int .i64 A.log, .int .i64 MP, .int .i64 TP] 71 (0, 0))) := by
      show _ = _
      rw [hH, hb3.block _ (by simp)]
      exact heap_alloc_new w2 _
    have HB3 : Hid (BlkA w3 L zA) := (HB2.out.kept ((Below.refl _ _).alloc (Nat.le_refl _) _)).kept hb3
    have HS3 : Hid (Blk w3 G A.st) := (HS2.out.kept ((Below.refl _ _).alloc (Nat.le_refl _) _)).kept hb3
    have hk3 : Below w.heap.size w w3 := kept (hk2.alloc hk2.size _) hb3
    obtain ⟨a3, c3, rfl, hl3, hm3, hS3⟩ := hO3.form
    obtain ⟨g3, rfl, hS4⟩ := hS3 (by omega)
    have HLQ := hid (HLP.out g3 c3 w3 hk3 hS4 hl3 hm3)
    clear hb3 hO3 hS3 hS4 hl3 hm3 HB2 HS2 hk2 hc2 hp2 hH HSS HLP
    go_wp2_with fail
    refine HLQ.out.mono ?_
    rintro e w4 ⟨rfl, hb4⟩
    have HB4 := hid (HB3.out.kept hb4)
    have HS4 := hid (HS3.out.kept hb4)
    have HH4 : Hid (w4.heap[H]? = some (.cells #[.int .i64 A.size, .int .i64 A.log, .int .i64 MP, .int .i64 TP] 71 (0, 0))) := by
      show _ = _
      rw [hb4.block _ (lt_of_block HH3.out)]; exact HH3.out
    have hk4 := kept hk3 hb4
    clear hb4 HB3 HS3 HH3 hk3 HLQ
    have l1 : L < w4.heap.size := lt_of_block HB4.out
    have l2 : G < w4.heap.size := lt_of_block HS4.out
    have l3 : H < w4.heap.size := lt_of_block HH4.out
    obtain ⟨s0, s1, s2, s3, s4, s5⟩ := HS4.out.six
    have e0 : w4.cell? ⟨H, 0, none⟩ = some (.int .i64 A.size) := by simp [World.cell?, HH4.out]
    have e1 : w4.cell? ⟨H, 1, none⟩ = some (.int .i64 A.log) := by simp [World.cell?, HH4.out]
    have f0 := HB4.out.free 0
    have f1 := HB4.out.free 1
    have f2 := HB4.out.free 2
    have f3 := HB4.out.free 3
    have f4 := HB4.out.free 4
    have f5 := HB4.out.free 5
    have f6 := HB4.out.free 6
    have f7 := HB4.out.free 7
    have f8 := HB4.out.free 8
    have f9 := HB4.out.free 9
    have f10 := HB4.out.free 10
    have f11 := HB4.out.free 11
    have f12 := HB4.out.free 12
    have f13 := HB4.out.free 13
    have f14 := HB4.out.free 14
    have y0 : w4.cell? ⟨L, 0, none⟩ = some (.int .i64 0) := HB4.out.cell 0 _ rfl
    have y1 : w4.cell? ⟨L, 1, none⟩ = some (.int .i64 0) := HB4.out.cell 1 _ rfl
    have y2 : w4.cell? ⟨L, 2, none⟩ = some (.int .i64 0) := HB4.out.cell 2 _ rfl
    have y3 : w4.cell? ⟨L, 3, none⟩ = some (.int .i64 0) := HB4.out.cell 3 _ rfl
    have y4 : w4.cell? ⟨L, 4, none⟩ = some (.int .i64 0) := HB4.out.cell 4 _ rfl
    have y5 : w4.cell? ⟨L, 5, none⟩ = some (.int .i64 0) := HB4.out.cell 5 _ rfl
    have y6 : w4.cell? ⟨L, 6, none⟩ = some (.int .i64 0) := HB4.out.cell 6 _ rfl
    have y7 : w4.cell? ⟨L, 7, none⟩ = some (.int .i64 0) := HB4.out.cell 7 _ rfl
    have y8 : w4.cell? ⟨L, 8, none⟩ = some (.int .i64 0) := HB4.out.cell 8 _ rfl
    have y9 : w4.cell? ⟨L, 9, none⟩ = some (.int .i64 0) := HB4.out.cell 9 _ rfl
    have y10 : w4.cell? ⟨L, 10, none⟩ = some (.int .i64 0) := HB4.out.cell 10 _ rfl
    have y11 : w4.cell? ⟨L, 11, none⟩ = some (.int .i64 0) := HB4.out.cell 11 _ rfl
    have y12 : w4.cell? ⟨L, 12, none⟩ = some (.int .i64 0) := HB4.out.cell 12 _ rfl
    have y13 : w4.cell? ⟨L, 13, none⟩ = some (.int .i64 0) := HB4.out.cell 13 _ rfl
    have y14 : w4.cell? ⟨L, 14, none⟩ = some (.int .i64 0) := HB4.out.cell 14 _ rfl
    go_wp2_with fail
    (try simp only [Exit.inBlock, Exit.then])
    rw [HLO.out]
    refine bodyPost_ret (ret_acc2 rfl (L := L) (a := A) rfl ((HB4.out.all A).kept ((Below.refl _ _).alloc (Nat.le_refl _) _))) rfl ⟨rfl, (putAcc_below hk4 L A HLW.out).alloc (putAcc_below hk4 L A HLW.out).size _⟩
  · rw [if_neg hc, if_neg hc] at HSA
    rw [if_neg hc, if_neg hc]
    obtain ⟨p, u, rfl, hp, _⟩ := h
    have hpl : p < w.heap.size := lt_of_block hp
    unfold stV at HSA
    clear hp HHD ht hc
    obtain ⟨L, hL⟩ : ∃ L, L = w.heap.size := ⟨_, rfl⟩
    go_enter Tryz.func27, Tryz.ntmps27
    go_wp2_with fail
    refine (HSA.out _ ((Below.refl _ _).alloc (Nat.le_refl _) _)).mono ?_
    rintro e w1 ⟨rfl, hb1⟩
    rw [← hL]
    have HB4 : Hid (BlkA w1 L zA) := by
      show BlkA _ _ _
      rw [hL]; exact (BlkA.new w zA).kept hb1
    have hk1 : Below w.heap.size w w1 := kept ((Below.refl _ _).alloc (Nat.le_refl _) _) hb1
    have HLW : Hid (w.heap.size ≤ L) := by show _ ≤ _; rw [hL]; exact Nat.le_refl _
    have l1 : L < w1.heap.size := lt_of_block HB4.out
    clear hb1 hL HSA
    have f0 := HB4.out.free 0
    have f1 := HB4.out.free 1
    have f2 := HB4.out.free 2
    have f3 := HB4.out.free 3
    have f4 := HB4.out.free 4
    have f5 := HB4.out.free 5
    have f6 := HB4.out.free 6
    have f7 := HB4.out.free 7
    have f8 := HB4.out.free 8
    have f9 := HB4.out.free 9
    have f10 := HB4.out.free 10
    have f11 := HB4.out.free 11
    have f12 := HB4.out.free 12
    have f13 := HB4.out.free 13
    have f14 := HB4.out.free 14
    have y0 : w1.cell? ⟨L, 0, none⟩ = some (.int .i64 0) := HB4.out.cell 0 _ rfl
    have y1 : w1.cell? ⟨L, 1, none⟩ = some (.int .i64 0) := HB4.out.cell 1 _ rfl
    have y2 : w1.cell? ⟨L, 2, none⟩ = some (.int .i64 0) := HB4.out.cell 2 _ rfl
    have y3 : w1.cell? ⟨L, 3, none⟩ = some (.int .i64 0) := HB4.out.cell 3 _ rfl
    have y4 : w1.cell? ⟨L, 4, none⟩ = some (.int .i64 0) := HB4.out.cell 4 _ rfl
    have y5 : w1.cell? ⟨L, 5, none⟩ = some (.int .i64 0) := HB4.out.cell 5 _ rfl
    have y6 : w1.cell? ⟨L, 6, none⟩ = some (.int .i64 0) := HB4.out.cell 6 _ rfl
    have y7 : w1.cell? ⟨L, 7, none⟩ = some (.int .i64 0) := HB4.out.cell 7 _ rfl
    have y8 : w1.cell? ⟨L, 8, none⟩ = some (.int .i64 0) := HB4.out.cell 8 _ rfl
    have y9 : w1.cell? ⟨L, 9, none⟩ = some (.int .i64 0) := HB4.out.cell 9 _ rfl
    have y10 : w1.cell? ⟨L, 10, none⟩ = some (.int .i64 0) := HB4.out.cell 10 _ rfl
    have y11 : w1.cell? ⟨L, 11, none⟩ = some (.int .i64 0) := HB4.out.cell 11 _ rfl
    have y12 : w1.cell? ⟨L, 12, none⟩ = some (.int .i64 0) := HB4.out.cell 12 _ rfl
    have y13 : w1.cell? ⟨L, 13, none⟩ = some (.int .i64 0) := HB4.out.cell 13 _ rfl
    have y14 : w1.cell? ⟨L, 14, none⟩ = some (.int .i64 0) := HB4.out.cell 14 _ rfl
    go_wp2_with fail
    (try simp only [Exit.inBlock, Exit.then])
    refine bodyPost_ret (ret_acc2 rfl (L := L) (a := zA) rfl ((HB4.out.all zA).kept ((Below.refl _ _).alloc (Nat.le_refl _) _))) rfl ⟨rfl, (putAcc_below hk1 L zA HLW.out).alloc (putAcc_below hk1 L zA HLW.out).size _⟩

end Go.Proofs.YtedblhcehlbbmaaGreatDoor


/-
  CONTRACTS: accounts.stateMayBe, MayBe.
-/
namespace Go.Proofs.YtedblhcehlbbmaaGreatDoor
set_option maxRecDepth 20000
open Go.RowKit

/-- May a state's numbers be? -/
def stB (s : St) : Bool := (stI s).all (fun z => decide (0 ≤ z))
theorem stB_no {s : St} {z : Int} (hz : z ∈ stI s) (h : z < 0) : stB s = false := by
  cases hb : stB s
  · rfl
  · have := of_decide_eq_true (List.all_eq_true.1 hb z hz); omega
theorem stB_yes {s : St} (h : ∀ z ∈ stI s, 0 ≤ z) : stB s = true := List.all_eq_true.2 fun z hz => decide_eq_true (h z hz)

set_option maxRecDepth 20000 in
set_option maxHeartbeats 2000000 in
theorem stateMayBe_any (s : St) (w : World) : Calls Tryz.prog 98 #[stV s] w fun e w' => e = .returned (.bool (stB s)) ∧ Below w.heap.size w w' := by
  have HNO : Hid (∀ z ∈ stI s, z < 0 → stB s = false) := fun z hz h => stB_no hz h
  have HYE : Hid ((∀ z ∈ stI s, 0 ≤ z) → stB s = true) := stB_yes
  have HM : Hid (stI s = [s.principal, s.due, s.rate, s.day, s.spare, s.count]) := rfl
  rw [HM.out] at HNO HYE
  unfold stV
  generalize stB s = b at *
  generalize s.principal = p at *
  generalize s.due = d at *
  generalize s.rate = r at *
  generalize s.day = y at *
  generalize s.spare = sp at *
  generalize s.count = c at *
  clear HM
  rcases (by omega : p < 0 ∨ (0 ≤ p ∧ d < 0) ∨ (0 ≤ p ∧ 0 ≤ d ∧ r < 0) ∨ (0 ≤ p ∧ 0 ≤ d ∧ 0 ≤ r ∧ y < 0) ∨ (0 ≤ p ∧ 0 ≤ d ∧ 0 ≤ r ∧ 0 ≤ y ∧ sp < 0) ∨ (0 ≤ p ∧ 0 ≤ d ∧ 0 ≤ r ∧ 0 ≤ y ∧ 0 ≤ sp ∧ c < 0) ∨ (0 ≤ p ∧ 0 ≤ d ∧ 0 ≤ r ∧ 0 ≤ y ∧ 0 ≤ sp ∧ 0 ≤ c)) with h | ⟨h0, h⟩ | ⟨h0, h1, h⟩ | ⟨h0, h1, h2, h⟩ | ⟨h0, h1, h2, h3, h⟩ | ⟨h0, h1, h2, h3, h4, h⟩ | ⟨h0, h1, h2, h3, h4, h⟩
  all_goals first | (have HV : Hid (b = false) := HNO.out _ (by simp) h) | (have HV : Hid (b = true) := HYE.out (fun z hz => by simp at hz; rcases hz with rfl | rfl | rfl | rfl | rfl | rfl <;> assumption))
  all_goals clear HNO HYE
  all_goals go_enter Tryz.func98, Tryz.ntmps98
  all_goals go_wp2_with fail
  all_goals go_ret
  all_goals exact ⟨by rw [HV.out]; first | rfl | (show Ending.returned (.bool (decide (0 ≤ c))) = _; rw [decide_eq_false (by omega)]), (Below.refl _ _).alloc (Nat.le_refl _) _⟩

set_option maxRecDepth 20000 in
set_option maxHeartbeats 4000000 in
theorem mayBeA_any (a : Acc) (w : World) : Calls Tryz.prog 91 #[accV a] w fun e w' => e = .returned (.bool (fitsB a)) ∧ Below w.heap.size w w' := by
  have HNF : Hid (¬ FitsA a → fitsB a = false) := fitsB_not
  have HYF : Hid (FitsA a → fitsB a = true) := fitsB_of
  have HLG := hid (fun wz => isSum_any a.log wz)
  have HPS := hid (fun z wz => isSum_any z wz)
  have HSM := hid (fun wz => stateMayBe_any a.st wz)
  obtain ⟨L, hL⟩ : ∃ L, L = w.heap.size := ⟨_, rfl⟩
  unfold accV
  unfold stV at HSM
  by_cases c1 : a.loan < 0
  · have HV : Hid (fitsB a = false) := HNF.out (fun h => by have := h.loan.1; omega)
    clear hL
    go_enter Tryz.func91, Tryz.ntmps91
    go_wp2_with fail
    go_ret
    exact ⟨by rw [HV.out]; rfl, (Below.refl _ _).alloc (Nat.le_refl _) _⟩
  by_cases c2 : 64 ≤ a.loan
  · have HV : Hid (fitsB a = false) := HNF.out (fun h => by have := h.loan.2; omega)
    clear hL
    go_enter Tryz.func91, Tryz.ntmps91
    go_wp2_with fail
    go_ret
    exact ⟨by rw [HV.out]; rfl, (Below.refl _ _).alloc (Nat.le_refl _) _⟩
  by_cases c3 : a.size < 0
  · have HV : Hid (fitsB a = false) := HNF.out (fun h => by have := h.size.1; omega)
    clear hL
    go_enter Tryz.func91, Tryz.ntmps91
    go_wp2_with fail
    go_ret
    exact ⟨by rw [HV.out]; rfl, (Below.refl _ _).alloc (Nat.le_refl _) _⟩
  by_cases c4 : 200 < a.size
  · have HV : Hid (fitsB a = false) := HNF.out (fun h => by have := h.size.2; omega)
    clear hL
    go_enter Tryz.func91, Tryz.ntmps91
    go_wp2_with fail
    go_ret
    exact ⟨by rw [HV.out]; rfl, (Below.refl _ _).alloc (Nat.le_refl _) _⟩
  have HC : Hid (0 ≤ a.loan ∧ a.loan ≤ 63 ∧ 0 ≤ a.size ∧ a.size ≤ 200) := ⟨by omega, by omega, by omega, by omega⟩
  cases hl : decide (0 ≤ a.log ∧ a.log ≤ 4092)
  · have HV : Hid (fitsB a = false) := HNF.out (fun h => by have := of_decide_eq_false hl; exact this (h.sums _ (by simp)))
    rw [hl] at HLG
    clear hL hl
    go_enter Tryz.func91, Tryz.ntmps91
    go_wp2_with fail
    refine (HLG.out _).mono ?_
    rintro e w1 ⟨rfl, rfl⟩
    go_wp2_with fail
    go_ret
    exact ⟨by rw [HV.out]; rfl, (Below.refl _ _).alloc (Nat.le_refl _) _⟩
  · have HLB : Hid (Bd a.log) := of_decide_eq_true (p := 0 ≤ a.log ∧ a.log ≤ 4092) hl
    rw [hl] at HLG
    clear hl
    go_enter Tryz.func91, Tryz.ntmps91
    go_wp2_with fail
    refine (HLG.out _).mono ?_
    rintro e w1 ⟨rfl, hw1⟩
    rw [← hL]
    have HBA : Hid (BlkA w1 L a) := by show BlkA _ _ _; rw [hw1, hL]; exact BlkA.new w a
    have HB1 : Hid (Below w.heap.size w w1) := by show Below _ _ _; rw [hw1]; exact (Below.refl _ _).alloc (Nat.le_refl _) _
    clear hw1 hL c1 c2 c3 c4
    go_wp2_with fail
    go_loop [3] (fun i => ∃ k : Nat, k ≤ 6 ∧ i = .int .i64 (k : Int) ∧ Hid (∀ j (h : j < a.path.length), j < k → Bd a.path[j])) (fun i => 6 - (intOf i).toNat)
    case atStart => exact ⟨0, Nat.zero_le _, rfl, fun j _ h => by omega⟩
    case round =>
      obtain ⟨k, hk, rfl, HA⟩ := hrel
      by_cases hlt : k < 6
      · have hkl : k < a.path.length := hlt
        have hp := HBA.out.path k hlt
        have hLw : L < w1.heap.size := World.block_lt_of_cell? _ _ hp
        have i1 : (0 : Int) ≤ (k : Int) := by omega
        have i2 : (k : Int) < 6 := by omega
        have HPZ := hid (fun wz => HPS.out (a.path[k]'hlt) wz)
        cases hz : decide (0 ≤ a.path[k]'hlt ∧ a.path[k]'hlt ≤ 4092)
        · have HV : Hid (fitsB a = false) := HNF.out (fun h => by have := of_decide_eq_false hz; exact this (h.sums _ (List.mem_cons_of_mem _ (List.getElem_mem hkl))))
          rw [hz] at HPZ
          clear hz
          generalize a.path[k]'hlt = z at *
          go_wp2_with fail
          refine (HPZ.out _).mono ?_
          rintro e w2 ⟨rfl, rfl⟩
          go_wp2_with fail
          go_ret
          exact ⟨by rw [HV.out]; rfl, HB1.out⟩
        · have HA2 : Hid (∀ j (h : j < a.path.length), j < k + 1 → Bd a.path[j]) := fun j h hj => by
            by_cases hjk : j < k
            · exact HA.out j h hjk
            · obtain rfl : j = k := by omega
              exact of_decide_eq_true (p := 0 ≤ a.path[j]'hlt ∧ a.path[j]'hlt ≤ 4092) hz
          rw [hz] at HPZ
          clear hz
          generalize a.path[k]'hlt = z at *
          go_wp2_with fail
          refine (HPZ.out _).mono ?_
          rintro e w2 ⟨rfl, rfl⟩
          go_wp2_with fail
          go_round
          case rel => exact ⟨k + 1, by omega, by go_num, HA2⟩
          case measure => simp [intOf]; omega
      · have HF : Hid (fitsB a = stB a.st) := by
          show _ = _
          cases hb : stB a.st
          · refine HNF.out fun h => ?_
            have := stB_yes h.st
            rw [hb] at this; cases this
          · refine HYF.out ⟨fun z hz => of_decide_eq_true (List.all_eq_true.1 hb z hz), fun z hz => ?_, ⟨HC.out.1, HC.out.2.1⟩, ⟨HC.out.2.2.1, HC.out.2.2.2⟩⟩
            rcases List.mem_cons.1 hz with rfl | hz
            · exact HLB.out
            · obtain ⟨j, hj, rfl⟩ := List.getElem_of_mem hz
              exact HA.out j hj (by have : j < 6 := hj; omega)
        have x1 : w1.cell? ⟨L, 1, none⟩ = some (.int .i64 a.st.principal) := HBA.out.cell 1 _ rfl
        have x2 : w1.cell? ⟨L, 2, none⟩ = some (.int .i64 a.st.due) := HBA.out.cell 2 _ rfl
        have x3 : w1.cell? ⟨L, 3, none⟩ = some (.int .i64 a.st.rate) := HBA.out.cell 3 _ rfl
        have x4 : w1.cell? ⟨L, 4, none⟩ = some (.int .i64 a.st.day) := HBA.out.cell 4 _ rfl
        have x5 : w1.cell? ⟨L, 5, none⟩ = some (.int .i64 a.st.spare) := HBA.out.cell 5 _ rfl
        have x6 : w1.cell? ⟨L, 6, none⟩ = some (.int .i64 a.st.count) := HBA.out.cell 6 _ rfl
        clear HA
        go_wp2_with fail
        refine (HSM.out _).mono ?_
        rintro e w2 ⟨rfl, hb2⟩
        rw [← HF.out]
        go_wp2_with fail
        go_ret
        exact ⟨rfl, kept HB1.out hb2⟩

end Go.Proofs.YtedblhcehlbbmaaGreatDoor


/-
  CONTRACT: accounts.Texts.
-/
namespace Go.Proofs.YtedblhcehlbbmaaGreatDoor
set_option maxRecDepth 20000
open Go.RowKit

/-- The block L holds eight texts. -/
def txC (x : Nat → ByteArray) : Array Value := #[.string (x 0), .string (x 1), .string (x 2), .string (x 3), .string (x 4), .string (x 5), .string (x 6), .string (x 7)]
def BlkT (w : World) (L : Nat) (x : Nat → ByteArray) : Prop := w.heap[L]? = some (.cells (txC x) 128 (0, 0))
theorem BlkT.new (w : World) (x : Nat → ByteArray) : BlkT (w.alloc (.cells (txC x) 128)) w.heap.size x := heap_alloc_new w _
theorem BlkT.kept {w w' : World} {L : Nat} {x : Nat → ByteArray} (h : BlkT w L x) (hb : Below w.heap.size w w') : BlkT w' L x := by unfold BlkT at *; rw [hb.block L (lt_of_block h)]; exact h
theorem BlkT.cell {w : World} {L : Nat} {x : Nat → ByteArray} (h : BlkT w L x) (i : Nat) (hi : i < 8) : w.cell? ⟨L, i, none⟩ = some (.string (x i)) := by
  unfold BlkT at h
  rcases (by omega : i = 0 ∨ i = 1 ∨ i = 2 ∨ i = 3 ∨ i = 4 ∨ i = 5 ∨ i = 6 ∨ i = 7) with rfl | rfl | rfl | rfl | rfl | rfl | rfl | rfl <;> simp [World.cell?, h, txC]
theorem BlkT.free {w : World} {L : Nat} {x : Nat → ByteArray} (h : BlkT w L x) (i : Nat) : w.frozen? ⟨L, i, none⟩ = false := by
  unfold BlkT at h
  simp [World.frozen?, h]
def updT (x : Nat → ByteArray) (i : Nat) (t : ByteArray) : Nat → ByteArray := fun j => if j = i then t else x j
theorem BlkT.put {w : World} {L : Nat} {x : Nat → ByteArray} (h : BlkT w L x) (i : Nat) (hi : i < 8) (t : ByteArray) : BlkT (w.setCell ⟨L, i, none⟩ (.string t)) L (updT x i t) := by
  unfold BlkT at *
  rw [blk_setCell h]
  rcases (by omega : i = 0 ∨ i = 1 ∨ i = 2 ∨ i = 3 ∨ i = 4 ∨ i = 5 ∨ i = 6 ∨ i = 7) with rfl | rfl | rfl | rfl | rfl | rfl | rfl | rfl <;> rfl
theorem BlkT.other {w : World} {L M i : Nat} {x : Nat → ByteArray} {v : Value} (h : BlkT w L x) (hne : L ≠ M) : BlkT (w.setCell ⟨M, i, none⟩ v) L x := by
  unfold BlkT at *
  rw [Below.heap_setCell _ _ _ _ hne]; exact h
theorem BlkA.other {w : World} {L M i : Nat} {a : Acc} {v : Value} (h : BlkA w L a) (hne : L ≠ M) : BlkA (w.setCell ⟨M, i, none⟩ v) L a := by
  unfold BlkA at *
  rw [Below.heap_setCell _ _ _ _ hne]; exact h
/-- The texts up to depth k. -/
def upT (a : Acc) (k : Nat) : Nat → ByteArray := fun i => if i ≤ k then bs (accT a i) else ⟨#[]⟩
theorem upT_zero (a : Acc) : updT (fun _ => ⟨#[]⟩) 0 (bs (stT a.st)) = upT a 0 := by
  funext j
  unfold updT upT
  by_cases h : j = 0
  · subst h; rfl
  · rw [if_neg h, if_neg (by omega)]
theorem upT_succ (a : Acc) (k : Nat) : updT (upT a k) (k + 1) (bs (accT a (k + 1))) = upT a (k + 1) := by
  funext j
  unfold updT upT
  by_cases h : j = k + 1
  · subst h; rw [if_pos rfl, if_pos (Nat.le_refl _)]
  · rw [if_neg h]
    by_cases h2 : j ≤ k
    · rw [if_pos h2, if_pos (by omega)]
    · rw [if_neg h2, if_neg (by omega)]
/-- All eight. -/
def txF (a : Acc) : Nat → ByteArray := fun i => bs (textA a i)
def txV (a : Acc) : Value := .agg (txC (txF a))
theorem upT_last (a : Acc) : txC (updT (upT a 6) 7 (bs (headT a.size a.log (accX a 6)))) = txC (txF a) := rfl
theorem BlkT.all {w : World} {L : Nat} {x : Nat → ByteArray} (h : BlkT w L x) (y : Nat → ByteArray) : BlkT ((((((((w.setCell ⟨L, 0, none⟩ (.string (y 0))).setCell ⟨L, 1, none⟩ (.string (y 1))).setCell ⟨L, 2, none⟩ (.string (y 2))).setCell ⟨L, 3, none⟩ (.string (y 3))).setCell ⟨L, 4, none⟩ (.string (y 4))).setCell ⟨L, 5, none⟩ (.string (y 5))).setCell ⟨L, 6, none⟩ (.string (y 6))).setCell ⟨L, 7, none⟩ (.string (y 7))) L y := by
  have h8 := (((((((h.put 0 (by omega) (y 0)).put 1 (by omega) (y 1)).put 2 (by omega) (y 2)).put 3 (by omega) (y 3)).put 4 (by omega) (y 4)).put 5 (by omega) (y 5)).put 6 (by omega) (y 6)).put 7 (by omega) (y 7)
  have e : txC (updT (updT (updT (updT (updT (updT (updT (updT x 0 (y 0)) 1 (y 1)) 2 (y 2)) 3 (y 3)) 4 (y 4)) 5 (y 5)) 6 (y 6)) 7 (y 7)) = txC y := rfl
  unfold BlkT at *
  rw [e] at h8
  exact h8
theorem Tryz.infoT : (Tryz.prog.info? 128).map (·.size) = some 8 := by kernel_rfl
theorem ret_texts {fn : Func} {p : Tmp} (h : fn.results = #[.cell p 128]) {tmps : Array Value} {w : World} {L : Nat} {x : Nat → ByteArray} (hp : tmps.getD p undef = .pointer (some ⟨L, 0, none⟩)) (hb : BlkT w L x) :
    (results fn tmps).run Tryz.prog w = .ok (.agg (txC x)) w :=
  results_cell_row h tmps w L 128 _ (0, 0) _ hp hb Tryz.underlying128 rfl Tryz.infoT

set_option maxRecDepth 20000 in
set_option maxHeartbeats 4000000 in
theorem textsA_any (a : Acc) (w : World) (hf : FitsA a) (h64 : Acc64 a) (ht : TabOk w) :
    Calls Tryz.prog 93 #[accV a] w fun e w' => e = .returned (txV a) ∧ Below w.heap.size w w' := by
  have HFT := hid hf
  have HST : Hid (∀ wz, Below w.heap.size w wz → Calls Tryz.prog 89 #[stV a.st] wz fun r w' => r = .returned (.string (bs (stT a.st))) ∧ Below wz.heap.size wz w') := fun wz hz => stateText_any a.st wz h64.2.1 (ht.kept hz)
  have HLN : Hid (∀ d, (accT a d).length ≤ 133) := fun d => by
    cases d with
    | zero => exact length_stT a.st h64.2.1
    | succ d => rw [accT]; split <;> (rw [length_pairT]; omega)
  have HSM : Hid (∀ d wz, Calls Tryz.prog 49 #[.string (bs (accT a d))] wz fun e w2 => e = .returned (.int .i64 (accX a d)) ∧ w2 = wz) := fun d wz => by
    have := sum_any (bs (accT a d)) wz (by rw [size_bs]; have := HLN.out d; unfold maxLen; omega)
    rw [toList_bs] at this
    exact this
  clear hf h64 ht
  obtain ⟨L, hL⟩ : ∃ L, L = w.heap.size := ⟨_, rfl⟩
  unfold accV
  unfold stV at HST
  go_enter Tryz.func93, Tryz.ntmps93
  go_wp2_with fail
  refine (HST.out _ (((( Below.refl _ _).alloc (Nat.le_refl _) _).alloc (by simp) _).alloc (by simp; omega) _)).mono ?_
  rintro e w1 ⟨rfl, hb1⟩
  rw [← hL]
  have HBA : Hid (BlkA w1 L a) := by
    show BlkA _ _ _
    rw [hL]
    exact (((BlkA.new w a).kept ((Below.refl _ _).alloc (Nat.le_refl _) _)).kept ((Below.refl _ _).alloc (Nat.le_refl _) _)).kept hb1
  have HBR : Hid (BlkT w1 (L + 1) (fun _ => ⟨#[]⟩)) := by
    have := BlkT.new (w.alloc (.cells (accC a) 36)) (fun _ => ⟨#[]⟩)
    rw [show (w.alloc (.cells (accC a) 36)).heap.size = L + 1 by simp [hL]] at this
    exact (this.kept ((Below.refl _ _).alloc (Nat.le_refl _) _)).kept hb1
  have HBT : Hid (BlkT w1 (L + 1 + 1) (fun _ => ⟨#[]⟩)) := by
    have := BlkT.new ((w.alloc (.cells (accC a) 36)).alloc (.cells (txC (fun _ => ⟨#[]⟩)) 128)) (fun _ => ⟨#[]⟩)
    rw [show ((w.alloc (.cells (accC a) 36)).alloc (.cells (txC (fun _ => ⟨#[]⟩)) 128)).heap.size = L + 1 + 1 by simp [hL]] at this
    exact this.kept hb1
  have hk1 : Below w.heap.size w w1 := kept ((((Below.refl _ _).alloc (Nat.le_refl _) _).alloc (by simp) _).alloc (by simp; omega) _) hb1
  have HLW : Hid (w.heap.size ≤ L) := by show _ ≤ _; rw [hL]; exact Nat.le_refl _
  have HLW2 : Hid (w.heap.size ≤ L + 1 + 1) := by have := HLW.out; show _ ≤ _; omega
  have HLW3 : Hid (w.heap.size ≤ L + 1) := by have := HLW.out; show _ ≤ _; omega
  clear hb1 hL HST
  have x0 : w1.cell? ⟨L, 0, none⟩ = some (.int .i64 a.loan) := HBA.out.cell 0 _ rfl
  have xt : w1.cell? ⟨L + 1 + 1, 0, none⟩ = some (.string ⟨#[]⟩) := HBT.out.cell 0 (by omega)
  have ft := HBT.out.free 0
  have HT0 : Hid (bs (stT a.st) = bs (accT a 0)) := rfl
  rw [HT0.out]
  obtain ⟨t0, HT1⟩ : ∃ t0, Hid (t0 = bs (accT a 0)) := ⟨_, rfl⟩
  rw [← HT1.out]
  have HUZ : Hid (updT (fun _ => ⟨#[]⟩) 0 t0 = upT a 0) := by show _ = _; rw [HT1.out]; exact upT_zero a
  go_wp2_with fail
  go_loopw [4, 5, 6, 7] (fun t pl d _ wr => ∃ k : Nat, k ≤ 6 ∧ d = .int .i64 (k : Int) ∧ t = .string (bs (accT a k)) ∧ pl = .int .i64 (a.loan / 2 ^ k) ∧ Hid (BlkA wr L a) ∧ Hid (BlkT wr (L + 1) (fun _ => ⟨#[]⟩)) ∧ Hid (BlkT wr (L + 1 + 1) (upT a k)) ∧ Below w.heap.size w wr) (fun _ _ d _ _ => 6 - (intOf d).toNat)
  case atStart => exact ⟨0, Nat.zero_le _, rfl, by rw [HT1.out], by simp, HBA.out.other (by omega), HBR.out.other (by omega), by show BlkT _ _ _; rw [← HUZ.out]; exact HBT.out.put 0 (by omega) t0, hk1.setCell HLW2.out _⟩
  case round =>
    obtain ⟨k, hk, rfl, rfl, rfl, HA, HR, HT, hbel⟩ := hrel
    clear x0 xt ft HBA HBR HBT hk1 HUZ HT1 HT0
    by_cases hlt : k < 6
    · have hp := HA.out.path k hlt
      have hpb : Bd (a.path[k]'hlt) := HFT.out.sums _ (List.mem_cons_of_mem _ (List.getElem_mem (show k < a.path.length from hlt)))
      have HSU := hid (fun wz => HSM.out k wz)
      have hxb := accX_bd a k
      have HLS := hid (half_pow a.loan k)
      have hl0 := (HFT.out.up k).1
      have hl1 := (HFT.out.up k).2
      have HUP := hid (upT_succ a k)
      have HAT : Hid (accT a (k + 1) = if a.loan / 2 ^ k % 2 = 0 then pairT (accX a k) (a.path.getD k 0) else pairT (a.path.getD k 0) (accX a k)) := rfl
      rw [show a.path.getD k 0 = a.path[k]'hlt from by rw [List.getD_eq_getElem?_getD, List.getElem?_eq_getElem (show k < a.path.length from hlt)]; rfl] at HAT
      generalize bs (accT a k) = tk at *
      generalize a.path[k]'hlt = z at *
      generalize accX a k = x at *
      generalize a.loan / 2 ^ k = lo at *
      generalize upT a k = uk at *
      have i1 : (0 : Int) ≤ (k : Int) := by omega
      have i2 : (k : Int) < 6 := by omega
      have hLw : L < wr.heap.size := World.block_lt_of_cell? _ _ hp
      by_cases hev : lo % 2 = 0
      · rw [if_pos hev] at HAT
        have HPT : Hid (∀ wz, Calls Tryz.prog 90 #[.int .i64 x, .int .i64 z] wz fun e w' => e = .returned (.string (bs (accT a (k + 1)))) ∧ Below wz.heap.size wz w') := fun wz => by rw [HAT.out]; exact pairText_any x z wz hxb hpb
        obtain ⟨tn, HTN⟩ : ∃ tn, Hid (tn = bs (accT a (k + 1))) := ⟨_, rfl⟩
        rw [← HTN.out] at HPT HUP
        have t1 : (lo % 2 == 0) = true := by simp; omega
        clear hev HAT hxb hpb
        go_wp2_with fail
        refine (HSU.out _).mono ?_
        rintro e w2 ⟨rfl, hw2⟩
        subst hw2
        go_wp2_with fail
        refine (HPT.out _).mono ?_
        rintro e w3 ⟨rfl, hb3⟩
        have hk3 := kept hbel hb3
        have HT3 := hid (HT.out.kept hb3)
        have HA3 := hid (HA.out.kept hb3)
        have HR3 := hid (HR.out.kept hb3)
        have fk := HT3.out.free (k + 1)
        have ck := HT3.out.cell (k + 1) (by omega)
        clear hb3 hp hLw
        go_wp2_with fail
        refine ⟨⟨k + 1, by omega, by go_num, by rw [HTN.out], by rw [HLS.out], HA3.out.other (by omega), HR3.out.other (by omega), ?_, hk3.setCell HLW2.out _⟩, by simp [intOf]; omega⟩
        show BlkT _ _ _
        rw [← HUP.out]
        exact HT3.out.put (k + 1) (by omega) tn
      · rw [if_neg hev] at HAT
        have HPT : Hid (∀ wz, Calls Tryz.prog 90 #[.int .i64 z, .int .i64 x] wz fun e w' => e = .returned (.string (bs (accT a (k + 1)))) ∧ Below wz.heap.size wz w') := fun wz => by rw [HAT.out]; exact pairText_any z x wz hpb hxb
        obtain ⟨tn, HTN⟩ : ∃ tn, Hid (tn = bs (accT a (k + 1))) := ⟨_, rfl⟩
        rw [← HTN.out] at HPT HUP
        have t1 : (lo % 2 == 0) = false := by simp; omega
        clear hev HAT hxb hpb
        go_wp2_with fail
        refine (HSU.out _).mono ?_
        rintro e w2 ⟨rfl, hw2⟩
        subst hw2
        go_wp2_with fail
        refine (HPT.out _).mono ?_
        rintro e w3 ⟨rfl, hb3⟩
        have hk3 := kept hbel hb3
        have HT3 := hid (HT.out.kept hb3)
        have HA3 := hid (HA.out.kept hb3)
        have HR3 := hid (HR.out.kept hb3)
        have fk := HT3.out.free (k + 1)
        have ck := HT3.out.cell (k + 1) (by omega)
        clear hb3 hp hLw
        go_wp2_with fail
        refine ⟨⟨k + 1, by omega, by go_num, by rw [HTN.out], by rw [HLS.out], HA3.out.other (by omega), HR3.out.other (by omega), ?_, hk3.setCell HLW2.out _⟩, by simp [intOf]; omega⟩
        show BlkT _ _ _
        rw [← HUP.out]
        exact HT3.out.put (k + 1) (by omega) tn
    · obtain rfl : k = 6 := by omega
      have hs := HFT.out.size
      have hlb : Bd a.log := HFT.out.sums _ (by simp)
      have hxb := accX_bd a 6
      have HSU := hid (fun wz => HSM.out 6 wz)
      have HHT : Hid (∀ wz, Calls Tryz.prog 48 #[.int .i64 a.size, .int .i64 a.log, .int .i64 (accX a 6)] wz fun e w' => e = .returned (.string (txF a 7)) ∧ Below wz.heap.size wz w') := fun wz => headText_any a.size a.log (accX a 6) wz hs hlb hxb
      have HUL : Hid (txC (updT (upT a 6) 7 (txF a 7)) = txC (txF a)) := upT_last a
      have HTV : Hid (txV a = .agg (txC (txF a))) := rfl
      have x7 : wr.cell? ⟨L, 7, none⟩ = some (.int .i64 a.size) := HA.out.cell 7 _ rfl
      have x8 : wr.cell? ⟨L, 8, none⟩ = some (.int .i64 a.log) := HA.out.cell 8 _ rfl
      generalize bs (accT a 6) = tk at *
      generalize accX a 6 = x at *
      generalize txF a = tf at *
      generalize upT a 6 = uk at *
      generalize hh : tf 7 = hd at *
      have HHD := hid hh
      clear hh hs hlb hxb hk hlt HSM HLN HFT
      go_wp2_with fail
      refine (HSU.out _).mono ?_
      rintro e w2 ⟨rfl, hw2⟩
      subst hw2
      go_wp2_with fail
      refine (HHT.out _).mono ?_
      rintro e w3 ⟨rfl, hb3⟩
      have hk3 := kept hbel hb3
      have HT3 := hid (HT.out.kept hb3)
      have HR3 := hid (HR.out.kept hb3)
      clear hb3 x7 x8 HA HT HR hbel HSU HHT
      have f7 := HT3.out.free 7
      have c0 := HT3.out.cell 0 (by omega)
      have c1 := HT3.out.cell 1 (by omega)
      have c2 := HT3.out.cell 2 (by omega)
      have c3 := HT3.out.cell 3 (by omega)
      have c4 := HT3.out.cell 4 (by omega)
      have c5 := HT3.out.cell 5 (by omega)
      have c6 := HT3.out.cell 6 (by omega)
      have c7 := HT3.out.cell 7 (by omega)
      have g0 := HR3.out.free 0
      have g1 := HR3.out.free 1
      have g2 := HR3.out.free 2
      have g3 := HR3.out.free 3
      have g4 := HR3.out.free 4
      have g5 := HR3.out.free 5
      have g6 := HR3.out.free 6
      have g7 := HR3.out.free 7
      have r0 := HR3.out.cell 0 (by omega)
      have r1 := HR3.out.cell 1 (by omega)
      have r2 := HR3.out.cell 2 (by omega)
      have r3 := HR3.out.cell 3 (by omega)
      have r4 := HR3.out.cell 4 (by omega)
      have r5 := HR3.out.cell 5 (by omega)
      have r6 := HR3.out.cell 6 (by omega)
      have r7 := HR3.out.cell 7 (by omega)
      go_wp2_with fail
      (try simp only [Exit.inBlock, Exit.then])
      refine bodyPost_ret (ret_texts rfl (L := L + 1) (x := updT uk 7 hd) rfl ((HR3.out.other (by omega)).all (updT uk 7 hd))) rfl ⟨by rw [HTV.out, ← HUL.out], ?_⟩
      exact ((((((((hk3.setCell HLW2.out _).setCell HLW3.out _).setCell HLW3.out _).setCell HLW3.out _).setCell HLW3.out _).setCell HLW3.out _).setCell HLW3.out _).setCell HLW3.out _).setCell HLW3.out _

end Go.Proofs.YtedblhcehlbbmaaGreatDoor


/-
  CONTRACTS: accounts.Shows; lender.Accepts.
-/
namespace Go.Proofs.YtedblhcehlbbmaaGreatDoor
set_option maxRecDepth 20000
open Go.RowKit

set_option maxRecDepth 20000 in
set_option maxHeartbeats 2000000 in
theorem shows_any (a : Acc) (w : World) (hf : FitsA a) (h64 : Acc64 a) (ht : TabOk w) :
    Calls Tryz.prog 92 #[accV a] w fun e w' => e = .returned (.int .i64 (accTop a)) ∧ Below w.heap.size w w' := by
  have HTX : Hid (∀ wz, Below w.heap.size w wz → Calls Tryz.prog 93 #[accV a] wz fun e w' => e = .returned (txV a) ∧ Below wz.heap.size wz w') := fun wz hz => textsA_any a wz hf h64 (ht.kept hz)
  have HS : Hid (∀ wz, Calls Tryz.prog 49 #[.string (txF a 7)] wz fun e w2 => e = .returned (.int .i64 (accTop a)) ∧ w2 = wz) := fun wz => by
    have := sum_any (bs (headT a.size a.log (accX a 6))) wz (by rw [size_bs, length_headT]; decide)
    rw [toList_bs] at this
    exact this
  unfold txV txC at HTX
  generalize txF a = x at HTX HS
  generalize accTop a = tp at *
  unfold accV at *
  clear hf h64 ht
  go_enter Tryz.func92, Tryz.ntmps92
  go_wp2_with fail
  refine (HTX.out _ ((Below.refl _ _).alloc (Nat.le_refl _) _)).mono ?_
  rintro e w1 ⟨rfl, hb1⟩
  have hk1 : Below w.heap.size w w1 := kept ((Below.refl _ _).alloc (Nat.le_refl _) _) hb1
  clear hb1
  go_wp2_with fail
  refine (HS.out _).mono ?_
  rintro e w2 ⟨rfl, rfl⟩
  go_wp2_with fail
  go_ret
  exact ⟨rfl, hk1.alloc hk1.size _⟩

set_option maxRecDepth 20000 in
set_option maxHeartbeats 2000000 in
theorem accepts_any (top : Int) (a : Acc) (w : World) (h64 : Acc64 a) (ht : TabOk w) :
    Calls Tryz.prog 77 #[.int .i64 top, accV a] w fun e w' => e = .returned (.bool (accB top a)) ∧ Below w.heap.size w w' := by
  have HM := hid (fun wz => mayBeA_any a wz)
  obtain ⟨L, hL⟩ : ∃ L, L = w.heap.size := ⟨_, rfl⟩
  cases hf : fitsB a
  · have HV : Hid (accB top a = false) := by show _ = _; unfold accB; rw [hf, Bool.false_and]
    rw [hf] at HM
    unfold accV at *
    clear hf hL h64 ht
    go_enter Tryz.func77, Tryz.ntmps77
    go_wp2_with fail
    refine (HM.out _).mono ?_
    rintro e w1 ⟨rfl, hb1⟩
    go_wp2_with fail
    go_ret
    exact ⟨by rw [HV.out]; rfl, kept ((Below.refl _ _).alloc (Nat.le_refl _) _) hb1⟩
  · have HV : Hid (accB top a = decide (accTop a = top)) := by show _ = _; unfold accB; rw [hf, Bool.true_and]
    have HSH : Hid (∀ wz, Below w.heap.size w wz → Calls Tryz.prog 92 #[accV a] wz fun e w' => e = .returned (.int .i64 (accTop a)) ∧ Below wz.heap.size wz w') := fun wz hz => shows_any a wz (fitsB_true hf) h64 (ht.kept hz)
    rw [hf] at HM
    generalize accTop a = tp at *
    unfold accV at *
    clear hf h64 ht
    go_enter Tryz.func77, Tryz.ntmps77
    go_wp2_with fail
    refine (HM.out _).mono ?_
    rintro e w1 ⟨rfl, hb1⟩
    rw [← hL]
    have HBA : Hid (BlkA w1 L a) := by show BlkA _ _ _; rw [hL]; exact BlkA.kept (BlkA.new w a) hb1
    have hk1 : Below w.heap.size w w1 := kept ((Below.refl _ _).alloc (Nat.le_refl _) _) hb1
    clear hb1 hL
    have x0 : w1.cell? ⟨L, 0, none⟩ = some (.int .i64 a.loan) := HBA.out.cell 0 _ rfl
    have x1 : w1.cell? ⟨L, 1, none⟩ = some (.int .i64 a.st.principal) := HBA.out.cell 1 _ rfl
    have x2 : w1.cell? ⟨L, 2, none⟩ = some (.int .i64 a.st.due) := HBA.out.cell 2 _ rfl
    have x3 : w1.cell? ⟨L, 3, none⟩ = some (.int .i64 a.st.rate) := HBA.out.cell 3 _ rfl
    have x4 : w1.cell? ⟨L, 4, none⟩ = some (.int .i64 a.st.day) := HBA.out.cell 4 _ rfl
    have x5 : w1.cell? ⟨L, 5, none⟩ = some (.int .i64 a.st.spare) := HBA.out.cell 5 _ rfl
    have x6 : w1.cell? ⟨L, 6, none⟩ = some (.int .i64 a.st.count) := HBA.out.cell 6 _ rfl
    have x7 : w1.cell? ⟨L, 7, none⟩ = some (.int .i64 a.size) := HBA.out.cell 7 _ rfl
    have x8 : w1.cell? ⟨L, 8, none⟩ = some (.int .i64 a.log) := HBA.out.cell 8 _ rfl
    have x9 : w1.cell? ⟨L, 9, none⟩ = some (.int .i64 a.p0) := HBA.out.cell 9 _ rfl
    have x10 : w1.cell? ⟨L, 10, none⟩ = some (.int .i64 a.p1) := HBA.out.cell 10 _ rfl
    have x11 : w1.cell? ⟨L, 11, none⟩ = some (.int .i64 a.p2) := HBA.out.cell 11 _ rfl
    have x12 : w1.cell? ⟨L, 12, none⟩ = some (.int .i64 a.p3) := HBA.out.cell 12 _ rfl
    have x13 : w1.cell? ⟨L, 13, none⟩ = some (.int .i64 a.p4) := HBA.out.cell 13 _ rfl
    have x14 : w1.cell? ⟨L, 14, none⟩ = some (.int .i64 a.p5) := HBA.out.cell 14 _ rfl
    go_wp2_with fail
    refine (HSH.out _ hk1).mono ?_
    rintro e w2 ⟨rfl, hb2⟩
    go_wp2_with fail
    go_ret
    exact ⟨by rw [HV.out]; rfl, kept hk1 hb2⟩

end Go.Proofs.YtedblhcehlbbmaaGreatDoor


/-
  CONTRACT: twins.OfAccount.
-/
namespace Go.Proofs.YtedblhcehlbbmaaGreatDoor
set_option maxRecDepth 20000
open Go.RowKit

set_option maxRecDepth 20000 in
set_option maxHeartbeats 4000000 in
theorem ofAccount_any (a b : Acc) (w : World) (ha : FitsA a) (ha64 : Acc64 a) (hb : FitsA b) (hb64 : Acc64 b) (ht : TabOk w) :
    Calls Tryz.prog 78 #[accV a, accV b] w fun e w' => e = .returned (.tuple #[.string (bs (textA a (downA a b 7))), .string (bs (textA b (downA a b 7)))]) ∧ Below w.heap.size w w' := by
  have HTA : Hid (∀ wz, Below w.heap.size w wz → Calls Tryz.prog 93 #[accV a] wz fun e w' => e = .returned (txV a) ∧ Below wz.heap.size wz w') := fun wz hz => textsA_any a wz ha ha64 (ht.kept hz)
  have HTB : Hid (∀ wz, Below w.heap.size w wz → Calls Tryz.prog 93 #[accV b] wz fun e w' => e = .returned (txV b) ∧ Below wz.heap.size wz w') := fun wz hz => textsA_any b wz hb hb64 (ht.kept hz)
  clear ha ha64 hb hb64 ht
  have HD : Hid (∀ n, downA a b (n + 1) = if textA a (n + 1) = textA b (n + 1) then downA a b n else n + 1) := fun n => rfl
  have HXA : Hid (∀ i, txF a i = bs (textA a i)) := fun i => rfl
  have HXB : Hid (∀ i, txF b i = bs (textA b i)) := fun i => rfl
  obtain ⟨X, HX⟩ : ∃ X, Hid (X = bs (textA a (downA a b 7))) := ⟨_, rfl⟩
  obtain ⟨Y, HY⟩ : ∃ Y, Hid (Y = bs (textA b (downA a b 7))) := ⟨_, rfl⟩
  rw [← HX.out, ← HY.out]
  obtain ⟨L, hL⟩ : ∃ L, L = w.heap.size := ⟨_, rfl⟩
  unfold accV txV at *
  unfold txC at HTA HTB
  generalize txF a = xa at *
  generalize txF b = xb at *
  go_enter Tryz.func78, Tryz.ntmps78
  go_wp2_with fail
  refine (HTA.out _ (((Below.refl _ _).alloc (Nat.le_refl _) _).alloc (by simp) _)).mono ?_
  rintro e w1 ⟨rfl, hb1⟩
  rw [← hL]
  have HBB : Hid (BlkA w1 (L + 1) b) := by
    have := BlkA.new (w.alloc (.cells (accC a) 36)) b
    rw [show (w.alloc (.cells (accC a) 36)).heap.size = L + 1 by simp [hL]] at this
    exact this.kept hb1
  have hk1 : Below w.heap.size w w1 := kept (((Below.refl _ _).alloc (Nat.le_refl _) _).alloc (by simp) _) hb1
  clear hb1 hL HTA
  obtain ⟨G, hG⟩ : ∃ G, G = w1.heap.size := ⟨_, rfl⟩
  have hlt1 : L + 1 < w1.heap.size := lt_of_block HBB.out
  have x0 : w1.cell? ⟨L + 1, 0, none⟩ = some (.int .i64 b.loan) := HBB.out.cell 0 _ rfl
  have x1 : w1.cell? ⟨L + 1, 1, none⟩ = some (.int .i64 b.st.principal) := HBB.out.cell 1 _ rfl
  have x2 : w1.cell? ⟨L + 1, 2, none⟩ = some (.int .i64 b.st.due) := HBB.out.cell 2 _ rfl
  have x3 : w1.cell? ⟨L + 1, 3, none⟩ = some (.int .i64 b.st.rate) := HBB.out.cell 3 _ rfl
  have x4 : w1.cell? ⟨L + 1, 4, none⟩ = some (.int .i64 b.st.day) := HBB.out.cell 4 _ rfl
  have x5 : w1.cell? ⟨L + 1, 5, none⟩ = some (.int .i64 b.st.spare) := HBB.out.cell 5 _ rfl
  have x6 : w1.cell? ⟨L + 1, 6, none⟩ = some (.int .i64 b.st.count) := HBB.out.cell 6 _ rfl
  have x7 : w1.cell? ⟨L + 1, 7, none⟩ = some (.int .i64 b.size) := HBB.out.cell 7 _ rfl
  have x8 : w1.cell? ⟨L + 1, 8, none⟩ = some (.int .i64 b.log) := HBB.out.cell 8 _ rfl
  have x9 : w1.cell? ⟨L + 1, 9, none⟩ = some (.int .i64 b.p0) := HBB.out.cell 9 _ rfl
  have x10 : w1.cell? ⟨L + 1, 10, none⟩ = some (.int .i64 b.p1) := HBB.out.cell 10 _ rfl
  have x11 : w1.cell? ⟨L + 1, 11, none⟩ = some (.int .i64 b.p2) := HBB.out.cell 11 _ rfl
  have x12 : w1.cell? ⟨L + 1, 12, none⟩ = some (.int .i64 b.p3) := HBB.out.cell 12 _ rfl
  have x13 : w1.cell? ⟨L + 1, 13, none⟩ = some (.int .i64 b.p4) := HBB.out.cell 13 _ rfl
  have x14 : w1.cell? ⟨L + 1, 14, none⟩ = some (.int .i64 b.p5) := HBB.out.cell 14 _ rfl
  go_wp2_with fail
  rw [← hG]
  refine (HTB.out _ (hk1.alloc hk1.size _)).mono ?_
  rintro e w2 ⟨rfl, hb2⟩
  have HB1 : Hid (BlkT w2 G xa) := by
    show BlkT _ _ _
    rw [hG]; exact (BlkT.new w1 xa).kept hb2
  have hk2 : Below w.heap.size w w2 := kept (hk1.alloc hk1.size _) hb2
  clear hb2 x0 x1 x2 x3 x4 x5 x6 x7 x8 x9 x10 x11 x12 x13 x14 HTB HBB hG hk1 hlt1
  go_wp2_with fail
  obtain ⟨H, hH⟩ : ∃ H, H = w2.heap.size := ⟨_, rfl⟩
  rw [← hH]
  have HB2 : Hid (BlkT (w2.alloc (.cells (txC xb) 128)) H xb) := by show BlkT _ _ _; rw [hH]; exact BlkT.new w2 xb
  have HB3 : Hid (BlkT (w2.alloc (.cells (txC xb) 128)) G xa) := HB1.out.kept ((Below.refl _ _).alloc (Nat.le_refl _) _)
  have HK3 : Hid (Below w.heap.size w (w2.alloc (.cells (txC xb) 128))) := hk2.alloc hk2.size _
  unfold txC at HB2 HB3 HK3
  generalize World.alloc w2 _ = w3 at *
  clear HB1 hk2 hH
  go_loopw [8] (fun i wr => ∃ k : Nat, k ≤ 7 ∧ i = .int .i64 (k : Int) ∧ Hid (downA a b 7 = downA a b k) ∧ Hid (BlkT wr G xa) ∧ Hid (BlkT wr H xb) ∧ Below w.heap.size w wr) (fun i _ => (intOf i).toNat)
  case atStart => exact ⟨7, Nat.le_refl _, rfl, rfl, HB3, HB2, HK3.out⟩
  case round =>
    obtain ⟨k, hk, rfl, HDK, HA, HB, hbel⟩ := hrel
    have ca := HA.out.cell k (by omega)
    have cb := HB.out.cell k (by omega)
    have hGw : G < wr.heap.size := lt_of_block HA.out
    have hHw : H < wr.heap.size := lt_of_block HB.out
    have i1 : (0 : Int) ≤ (k : Int) := by omega
    have i2 : (k : Int) < 8 := by omega
    have HVA := hid (HXA.out k)
    have HVB := hid (HXB.out k)
    by_cases h0 : k = 0
    · subst h0
      rw [show downA a b 0 = 0 from rfl] at HDK
      rw [HDK.out, ← HVA.out] at HX
      rw [HDK.out, ← HVB.out] at HY
      rw [← HX.out] at ca
      rw [← HY.out] at cb
      rw [show ((0 : Nat) : Int) = 0 from rfl]
      clear i1 i2 hk HVA HVB
      go_wp2_with fail
      go_quiet (fail)
      have hb4 : Below wr.heap.size wr (wr.drewN nq) := below_drewN (Below.refl _ _) _
      generalize wr.drewN nq = w4 at hb4 ⊢
      have hk4 := kept hbel hb4
      have ca4 := cell_kept ca hb4
      have cb4 := cell_kept cb hb4
      have hG4 : G < w4.heap.size := Nat.lt_of_lt_of_le hGw hb4.size
      have hH4 : H < w4.heap.size := Nat.lt_of_lt_of_le hHw hb4.size
      clear ca cb hGw hHw hb4 hbel HA HB
      go_wp2_with fail
      go_quiet (fail)
      go_wp2_with fail
      go_ret2
      exact ⟨rfl, below_drewN hk4 _⟩
    · have t0 : 0 < k := by omega
      have t0d : decide (0 < k) = true := decide_eq_true t0
      clear h0
      by_cases he : xa k = xb k
      · have HD2 : Hid (downA a b 7 = downA a b (k - 1)) := by
          show _ = _
          have := HD.out (k - 1)
          rw [show k - 1 + 1 = k by omega] at this
          rw [HDK.out, this, if_pos (bs_inj (by rw [← HVA.out, ← HVB.out, he]))]
        rw [← he] at cb
        generalize xa k = sa at *
        clear hk HVA HVB HDK HD HXA HXB HX HY he
        go_wp2_with fail
        go_quiet (fail)
        have hb4 : Below wr.heap.size wr (wr.drewN nq) := below_drewN (Below.refl _ _) _
        generalize wr.drewN nq = w4 at hb4 ⊢
        have hk4 := kept hbel hb4
        have HA4 := hid (HA.out.kept hb4)
        have HB4 := hid (HB.out.kept hb4)
        clear ca cb hGw hHw hb4 hbel HA HB
        go_wp2_with fail
        exact ⟨⟨k - 1, by omega, by rw [show ((k - 1 : Nat) : Int) = (k : Int) - 1 by omega], HD2, HA4, HB4, hk4⟩, by simp [intOf]; omega⟩
      · have HD2 : Hid (downA a b 7 = k) := by
          show _ = _
          have := HD.out (k - 1)
          rw [show k - 1 + 1 = k by omega] at this
          rw [HDK.out, this, if_neg (fun h => he (by rw [HVA.out, HVB.out, h]))]
        have hne := bne_str he
        rw [HD2.out, ← HVA.out] at HX
        rw [HD2.out, ← HVB.out] at HY
        rw [← HX.out] at ca hne
        rw [← HY.out] at cb hne
        clear hk HVA HVB HDK HD HXA HXB he HD2
        go_wp2_with fail
        go_quiet (fail)
        have hb4 : Below wr.heap.size wr (wr.drewN nq) := below_drewN (Below.refl _ _) _
        generalize wr.drewN nq = w4 at hb4 ⊢
        have hk4 := kept hbel hb4
        have ca4 := cell_kept ca hb4
        have cb4 := cell_kept cb hb4
        have hG4 : G < w4.heap.size := Nat.lt_of_lt_of_le hGw hb4.size
        have hH4 : H < w4.heap.size := Nat.lt_of_lt_of_le hHw hb4.size
        clear ca cb hGw hHw hb4 hbel HA HB
        go_wp2_with fail
        go_quiet (fail)
        go_wp2_with fail
        go_ret2
        exact ⟨rfl, below_drewN hk4 _⟩

end Go.Proofs.YtedblhcehlbbmaaGreatDoor


/-
  CONTRACTS: lenderref.numbers, state, stated, joined (M).
-/
namespace Go.Proofs.YtedblhcehlbbmaaGreatDoor
set_option maxRecDepth 20000
open Go.RowKit

set_option maxHeartbeats 2000000 in
theorem rnumbers_any (n : Nat) (a : Option Addr) (zs : List Int) (cap : Nat) (w : World) (hn : zs.length = n) (hz : Ints w a zs) (h1 : 1 ≤ n) (h6 : n ≤ 6) (h64 : ∀ z ∈ zs, In64 z) (ht : TabOk w) :
    Calls Tryz.prog 71 #[.slice a n cap] w fun e w' => e = .returned (.string (bs (numT zs))) ∧ Below w.heap.size w w' := by
  have HN := hid hn; have HZ := hid hz; have H64 := hid h64; have HT := hid ht
  have hl0 : 0 < zs.length := by omega
  obtain ⟨b, off, rfl, hc⟩ := hz.at hl0
  have c0 := hc 0 hl0
  rw [Nat.add_zero] at c0
  have H1 : Hid (zs.take 1 = [zs[0]]) := by
    show _ = _
    rw [List.take_succ_eq_append_getElem hl0]; rfl
  have hz0 := H64.out _ (List.getElem_mem hl0)
  have HI0 := hid (itoa_any zs[0] w hz0 ht)
  have hli := Lib.itoa_length_le zs[0] hz0.1 hz0.2
  generalize zs[0] = z0 at *
  clear hc hn hz h64 ht hl0 hz0
  have i0 : (0 : Int) < (n : Int) := by omega
  go_enter Tryz.func71, Tryz.ntmps71
  go_wp2_with fail
  refine HI0.out.mono ?_
  rintro e w1 ⟨rfl, hb1⟩
  clear c0
  go_wp2_with fail
  go_loopw [3, 4] (fun t i wr => ∃ k : Nat, 1 ≤ k ∧ k ≤ n ∧ i = .int .i64 (k : Int) ∧ t = .string (bs (numT (zs.take k))) ∧ Below w.heap.size w wr) (fun _ i _ => n - (intOf i).toNat)
  case atStart => exact ⟨1, Nat.le_refl _, h1, rfl, by rw [H1.out, numT_one], hb1⟩
  case round =>
    obtain ⟨k, hk1, hk, rfl, rfl, hbel⟩ := hrel
    by_cases hlt : k < n
    · have hkl : k < zs.length := by rw [HN.out]; exact hlt
      obtain ⟨b', off', hbb, hc⟩ := (HZ.out.kept hbel).at (by omega)
      cases hbb
      have h0 := hc k hkl
      have HE : Hid (zs.take (k + 1) = zs.take k ++ [zs[k]]) := List.take_succ_eq_append_getElem hkl
      have hz := H64.out _ (List.getElem_mem hkl)
      have hlk := length_numT (zs.take k) (fun z hz => H64.out z (List.mem_of_mem_take hz))
      have hli := Lib.itoa_length_le zs[k] hz.1 hz.2
      have HI : Hid (∀ w', Below w.heap.size w w' → Calls Tryz.prog 86 #[.int .i64 zs[k]] w' fun e w2 => e = .returned (.string (bs (Lib.itoa zs[k]))) ∧ Below w'.heap.size w' w2) := fun w' hb => itoa_any _ w' hz (HT.out.kept hb)
      have HTK : Hid ((zs.take k).length = k) := by show _ = _; rw [List.length_take]; omega
      rw [HTK.out] at hlk
      generalize zs[k] = z at *
      have z1 : (bs (numT (zs.take k))).size ≤ 132 := by rw [size_bs]; omega
      have z2 : (bs (Lib.itoa z)).size ≤ 21 := by rw [size_bs]; exact hli
      have HX : Hid (bs (numT (zs.take k)) ++ bs [32] ++ bs (Lib.itoa z) = bs (numT (zs.take (k + 1)))) := by
        show _ = _
        rw [HE.out, numT_snoc _ _ (fun h => by have := HTK.out; rw [h] at this; simp at this; omega), bs_append, bs_append]
      clear hc hkl hz hlk hli
      generalize bs (numT (zs.take k)) = t0 at *
      generalize bs (Lib.itoa z) = t1 at *
      go_wp2_with fail
      refine (HI.out _ hbel).mono ?_
      rintro e w2 ⟨rfl, hb2⟩
      have hk2 := kept hbel hb2
      go_wp2_with fail
      go_roundw
      case rel => exact ⟨k + 1, by omega, by omega, by go_num, by rw [← HX.out]; rfl, hk2⟩
      case measure => simp [intOf]; omega
    · have HX : Hid (zs.take k = zs) := List.take_of_length_le (by rw [HN.out]; omega)
      rw [HX.out]
      obtain ⟨t0, HT0⟩ : ∃ t0, Hid (t0 = bs (numT zs)) := ⟨_, rfl⟩
      rw [← HT0.out]
      go_wp2_with fail
      go_ret
      exact ⟨by rw [← HT0.out]; rfl, hbel⟩

theorem Ints.six (w : World) (s : St) : Ints (w.alloc (.cells #[.int .i64 s.principal, .int .i64 s.due, .int .i64 s.rate, .int .i64 s.day, .int .i64 s.spare, .int .i64 s.count] 3)) (some ⟨w.heap.size, 0, none⟩) (stI s) := by
  refine .inr ⟨w.heap.size, 0, rfl, fun i hi => ?_⟩
  rw [World.cell?_alloc_mark]
  match i, hi with
  | 0, _ => rfl
  | 1, _ => rfl
  | 2, _ => rfl
  | 3, _ => rfl
  | 4, _ => rfl
  | 5, _ => rfl
  | i + 6, hi => exact absurd hi (by simp only [stI, List.length_cons, List.length_nil]; omega)
theorem rnum6_any (s : St) (g : Nat) (w : World) (h : St64 s) (ht : TabOk w) (hg : g = w.heap.size) :
    Calls Tryz.prog 71 #[.slice (some ⟨g, 0, none⟩) 6 6] (w.alloc (.cells #[.int .i64 s.principal, .int .i64 s.due, .int .i64 s.rate, .int .i64 s.day, .int .i64 s.spare, .int .i64 s.count] 3)) fun r w2 => r = .returned (.string (bs (numT (stI s)))) ∧ Below w.heap.size w w2 := by
  subst hg
  exact (rnumbers_any 6 _ (stI s) 6 _ rfl (Ints.six w s) (by omega) (by omega) h (ht.kept ((Below.refl _ _).alloc (Nat.le_refl _) _))).mono fun r w2 ⟨h1, h2⟩ => ⟨h1, kept ((Below.refl _ _).alloc (Nat.le_refl _) _) h2⟩

set_option maxHeartbeats 2000000 in
theorem rstate_any (s : St) (w : World) (h : St64 s) (ht : TabOk w) :
    Calls Tryz.prog 81 #[stV s] w fun r w' => r = .returned (.string (bs (stT s))) ∧ Below w.heap.size w w' := by
  have HD : Hid (∀ w', Below w.heap.size w w' → ∀ g, g = w'.heap.size → Calls Tryz.prog 71 #[.slice (some ⟨g, 0, none⟩) 6 6] (w'.alloc (.cells #[.int .i64 s.principal, .int .i64 s.due, .int .i64 s.rate, .int .i64 s.day, .int .i64 s.spare, .int .i64 s.count] 3)) fun r w2 => r = .returned (.string (bs (numT (stI s)))) ∧ Below w'.heap.size w' w2) := fun w' hb g hg =>
    rnum6_any s g w' h (ht.kept hb) hg
  have z1 : (bs (numT (stI s))).size ≤ 132 := by rw [size_bs]; exact length_numT (stI s) h
  have HX := hid (st_str s)
  generalize bs (stT s) = u at *
  generalize bs (numT (stI s)) = t at *
  unfold stV
  clear h
  go_enter Tryz.func81, Tryz.ntmps81
  go_wp2_with fail
  refine (HD.out _ ((Below.refl _ _).alloc (Nat.le_refl _) _) _ (by simp)).mono ?_
  rintro e w1 ⟨rfl, hb1⟩
  go_wp2_with fail
  go_ret
  exact ⟨by rw [← HX.out]; rfl, kept ((Below.refl _ _).alloc (Nat.le_refl _) _) hb1⟩

set_option maxHeartbeats 2000000 in
theorem rstated_any (s : St) (w : World) (h : St64 s) (ht : TabOk w) :
    Calls Tryz.prog 75 #[stV s] w fun r w' => r = .returned (.int .i64 (sm (stT s))) ∧ Below w.heap.size w w' := by
  have HD : Hid (∀ w', Below w.heap.size w w' → Calls Tryz.prog 81 #[stV s] w' fun r w2 => r = .returned (.string (bs (stT s))) ∧ Below w'.heap.size w' w2) := fun w' hb => rstate_any s w' h (ht.kept hb)
  have HS : Hid (∀ w', Calls Tryz.prog 51 #[.string (bs (stT s))] w' fun e w2 => e = .returned (.int .i64 (sm (stT s))) ∧ Below w'.heap.size w' w2) := fun w' => by
    have := rsum_any (bs (stT s)) w' (by rw [size_bs]; have := length_stT s h; unfold maxLen; omega)
    rw [toList_bs] at this
    exact this
  generalize bs (stT s) = u at *
  generalize sm (stT s) = y at *
  unfold stV at *
  clear h
  go_enter Tryz.func75, Tryz.ntmps75
  go_wp2_with fail
  refine (HD.out _ ((Below.refl _ _).alloc (Nat.le_refl _) _)).mono ?_
  rintro e w1 ⟨rfl, hb1⟩
  go_wp2_with fail
  refine (HS.out _).mono ?_
  rintro e w2 ⟨rfl, hb2⟩
  go_wp2_with fail
  go_ret
  exact ⟨rfl, kept (kept ((Below.refl _ _).alloc (Nat.le_refl _) _) hb1) hb2⟩

set_option maxHeartbeats 400000 in
theorem joinedM_any (a b : Int) (w : World) (ha : Bd a) (hb : Bd b) :
    Calls Tryz.prog 76 #[.string ⟨#[77]⟩, .int .i64 a, .int .i64 b] w fun e w' => e = .returned (.int .i64 (sm (pairT a b))) ∧ Below w.heap.size w w' := by
  have z1 : (bs (two a)).size = 2 := size_bs _
  have z2 : (bs (two b)).size = 2 := size_bs _
  go_enter Tryz.func76, Tryz.ntmps76
  go_wp2_with fail
  refine (two_any a _ ha.1 (by have := ha.2; omega)).mono ?_
  rintro e w1 ⟨rfl, hb1⟩
  go_wp2_with fail
  refine (two_any b _ hb.1 (by have := hb.2; omega)).mono ?_
  rintro e w2 ⟨rfl, hb2⟩
  go_wp2_with fail
  rw [pair_str]
  refine (rsum_any _ _ (by rw [size_bs, length_pairT]; decide)).mono ?_
  rintro e w3 ⟨rfl, hb3⟩
  go_wp2_with fail
  go_ret
  exact ⟨ret_int (by rw [toList_bs]), kept (kept hb1 hb2) hb3⟩

end Go.Proofs.YtedblhcehlbbmaaGreatDoor


/-
  CONTRACTS: lenderref.fits, Accepts.
-/
namespace Go.Proofs.YtedblhcehlbbmaaGreatDoor
set_option maxRecDepth 20000
open Go.RowKit

set_option maxRecDepth 20000 in
set_option maxHeartbeats 4000000 in
theorem fits_any (a : Acc) (w : World) : Calls Tryz.prog 94 #[accV a] w fun e w' => e = .returned (.bool (fitsB a)) ∧ Below w.heap.size w w' := by
  obtain ⟨L, hL⟩ : ∃ L, L = w.heap.size := ⟨_, rfl⟩
  unfold accV
  go_enter Tryz.func94, Tryz.ntmps94
  go_wp2_with fail
  rw [← hL]
  generalize hw1 : World.alloc (World.alloc w _) _ = w1
  have HBA : Hid (BlkA w1 L a) := by
    show BlkA _ _ _
    rw [← hw1, hL]
    exact BlkA.kept (BlkA.new w a) ((Below.refl _ _).alloc (Nat.le_refl _) _)
  have HIN : Hid (Ints w1 (some ⟨L + 1, 0, none⟩) (stI a.st)) := by
    show Ints _ _ _
    have := Ints.six (w.alloc (.cells (accC a) 36)) a.st
    rw [show (w.alloc (.cells (accC a) 36)).heap.size = L + 1 by simp [hL]] at this
    rw [← hw1]
    exact this
  have HB1 : Hid (Below w.heap.size w w1) := by show Below _ _ _; rw [← hw1]; exact ((Below.refl _ _).alloc (Nat.le_refl _) _).alloc (by simp) _
  clear hw1 hL
  go_loop [2, 4] (fun _ i => ∃ k : Nat, k ≤ 6 ∧ i = .int .i64 (k : Int) ∧ Hid (∀ j (h : j < (stI a.st).length), j < k → 0 ≤ (stI a.st)[j])) (fun _ i => 6 - (intOf i).toNat)
  case atStart => exact ⟨0, Nat.zero_le _, rfl, fun j _ h => by omega⟩
  case round =>
    obtain ⟨k, hk, rfl, HA⟩ := hrel
    by_cases hlt : k < 6
    · have hkl : k < (stI a.st).length := hlt
      obtain ⟨b, off, hb0, hc⟩ := HIN.out.at (by show 0 < 6; omega)
      cases hb0
      have h0 := hc k hkl
      rw [Nat.zero_add] at h0
      have i1 : (0 : Int) ≤ (k : Int) := by omega
      have i2 : (k : Int) < 6 := by omega
      by_cases hneg : (stI a.st)[k] < 0
      · have HNF : Hid (fitsB a = false) := fitsB_not fun h => by have := h.st _ (List.getElem_mem hkl); omega
        generalize (stI a.st)[k] = z at *
        clear hc hkl
        go_wp2_with fail
        go_ret
        exact ⟨by rw [HNF.out]; rfl, HB1.out⟩
      · have HA2 : Hid (∀ j (h : j < (stI a.st).length), j < k + 1 → 0 ≤ (stI a.st)[j]) := fun j h hj => by
          by_cases hjk : j < k
          · exact HA.out j h hjk
          · obtain rfl : j = k := by omega
            omega
        generalize (stI a.st)[k] = z at *
        clear hc hkl
        go_wp2_with fail
        go_round
        case rel => exact ⟨k + 1, by omega, by go_num, HA2⟩
        case measure => simp [intOf]; omega
    · have HST : Hid (∀ z ∈ stI a.st, 0 ≤ z) := fun z hz => by
        obtain ⟨j, hj, rfl⟩ := List.getElem_of_mem hz
        exact HA.out j hj (by have : j < 6 := hj; omega)
      have hlog : w1.cell? ⟨L, 8, none⟩ = some (.int .i64 a.log) := HBA.out.cell 8 _ rfl
      clear HA HIN
      go_wp2_with fail
      obtain ⟨G2, hG2⟩ : ∃ G, G = w1.heap.size := ⟨_, rfl⟩
      rw [← hG2]
      have HO0 : Hid (Own (w1.alloc (.cells #[.int .i64 a.log] 3)) G2 (.slice (some ⟨G2, 0, none⟩) 1 1) (a.log :: a.path.take 0)) := by
        rw [hG2]
        exact ⟨rfl, .inr ⟨w1.heap.size, 1, #[.int .i64 a.log], rfl, Nat.le_refl _, heap_alloc_new w1 _, Nat.le_refl _, by decide, rfl, rfl⟩⟩
      have HBA2 := hid (HBA.out.kept ((Below.refl _ _).alloc (Nat.le_refl _) (.cells #[.int .i64 a.log] 3)))
      have HB2 := hid (HB1.out.alloc HB1.out.size (.cells #[.int .i64 a.log] 3))
      have HLG : Hid (L < G2 ∧ w.heap.size ≤ G2) := ⟨by rw [hG2]; exact lt_of_block HBA.out, by rw [hG2]; exact HB1.out.size⟩
      have hG3 : G2 ≤ (w1.alloc (.cells #[.int .i64 a.log] 3)).heap.size := by rw [hG2]; simp
      generalize World.alloc w1 _ = w2 at *
      clear hlog HBA HB1 hG2
      go_loopw [5, 6] (fun v i wr => ∃ k : Nat, k ≤ 6 ∧ i = .int .i64 (k : Int) ∧ Hid (Own wr G2 v (a.log :: a.path.take k)) ∧ Below G2 w2 wr) (fun _ i _ => 6 - (intOf i).toNat)
      case atStart => exact ⟨0, Nat.zero_le _, rfl, HO0, Below.refl _ _⟩
      case round =>
        obtain ⟨k, hk, rfl, HO, hbel⟩ := hrel
        have hszr := hbel.size
        have HBA : Hid (BlkA wr L a) := by
          have := HBA2.out
          unfold BlkA at this
          show BlkA _ _ _
          unfold BlkA
          rw [hbel.block L HLG.out.1]
          exact this
        have hG4 : G2 ≤ wr.heap.size := Nat.le_trans hG3 hszr
        by_cases hlt : k < 6
        · have hp := HBA.out.path k hlt
          have HE : Hid (a.log :: a.path.take (k + 1) = (a.log :: a.path.take k) ++ [a.path[k]'hlt]) := by
            show _ = _
            rw [List.take_succ_eq_append_getElem (show k < a.path.length from hlt)]; rfl
          have HKL : Hid ((a.log :: a.path.take k).length ≤ 1000000) := by show _ ≤ _; rw [List.length_cons, List.length_take, Acc.path_len]; omega
          generalize a.path[k]'hlt = z at *
          obtain ⟨c0, cp0, rfl, _, _, _⟩ := HO.out.form
          have i1 : (0 : Int) ≤ (k : Int) := by omega
          have i2 : (k : Int) < 6 := by omega
          have hLw : L < wr.heap.size := World.block_lt_of_cell? _ _ hp
          go_wp2_with (at_builtin; refine wpList_app rfl _ _ rfl G2 _ _ z rfl (HO.out.alloc _) wr.heap.size 1 rfl (cell_alloc_one _ _ _) HKL.out (by simp; omega) ?_)
          intro v' w3 hO3 hb3
          have HO3 : Hid (Own w3 G2 v' (a.log :: a.path.take (k + 1))) := by show Own _ _ _ _; rw [HE.out]; exact hO3
          have hk3 : Below G2 w2 w3 := (hbel.alloc hG4 _).trans hb3
          obtain ⟨c3, cp3, hv3, _, _, _⟩ := HO3.out.form
          clear hO3 hb3 hp
          go_wp2_with fail
          go_roundw
          case rel => exact ⟨k + 1, by omega, by go_num, HO3, hk3⟩
          case measure => simp [intOf]; omega
        · have HX : Hid (a.path.take k = a.path) := List.take_of_length_le (by rw [Acc.path_len]; omega)
          rw [HX.out] at HO
          obtain ⟨c0, cp0, rfl, _, _, hI⟩ := HO.out.form
          have HSM := hid (sums_any 7 c0 (a.log :: a.path) cp0 wr rfl (by omega) hI)
          have hbw : Below w.heap.size w wr := HB2.out.trans (hbel.mono HLG.out.2)
          have x0 : wr.cell? ⟨L, 0, none⟩ = some (.int .i64 a.loan) := HBA.out.cell 0 _ rfl
          have x7 : wr.cell? ⟨L, 7, none⟩ = some (.int .i64 a.size) := HBA.out.cell 7 _ rfl
          have HF : Hid (fitsB a = (bdL (a.log :: a.path) && decide (0 ≤ a.loan ∧ a.loan ≤ 63) && decide (0 ≤ a.size ∧ a.size ≤ 200))) := by
            show _ = _
            have : (stI a.st).all (fun z => decide (0 ≤ z)) = true := List.all_eq_true.2 fun z hz => decide_eq_true (HST.out z hz)
            unfold fitsB
            rw [this, Bool.true_and]; rfl
          clear hI HO HBA HBA2 HO0 HB2 HLG
          generalize bdL (a.log :: a.path) = bb at HSM HF
          generalize a.loan = lo at x0 HF ⊢
          generalize a.size = sz at x7 HF ⊢
          go_wp2_with fail
          refine HSM.out.mono ?_
          rintro e w4 ⟨rfl, rfl⟩
          cases bb
          · go_wp2_with fail
            go_ret
            exact ⟨by rw [HF.out]; rfl, hbw⟩
          · by_cases q0 : 0 ≤ lo
            · by_cases q1 : lo ≤ 63
              · by_cases q2 : 0 ≤ sz
                · by_cases q3 : sz ≤ 200
                  · have HV : Hid (fitsB a = true) := by show _ = _; rw [HF.out, decide_eq_true ⟨q0, q1⟩, decide_eq_true ⟨q2, q3⟩]; rfl
                    go_wp2_with fail
                    go_ret
                    exact ⟨by rw [HV.out]; rfl, hbw⟩
                  · have HV : Hid (fitsB a = false) := by show _ = _; rw [HF.out, decide_eq_false (p := 0 ≤ sz ∧ sz ≤ 200) (fun h => q3 h.2), Bool.and_false]
                    go_wp2_with fail
                    go_ret
                    exact ⟨by rw [HV.out]; show Ending.returned (.bool (decide (sz ≤ 200))) = _; rw [decide_eq_false (Int.not_le.2 q3)], hbw⟩
                · have HV : Hid (fitsB a = false) := by show _ = _; rw [HF.out, decide_eq_false (p := 0 ≤ sz ∧ sz ≤ 200) (fun h => q2 h.1), Bool.and_false]
                  go_wp2_with fail
                  go_ret
                  exact ⟨by rw [HV.out]; rfl, hbw⟩
              · have HV : Hid (fitsB a = false) := by show _ = _; rw [HF.out, decide_eq_false (p := 0 ≤ lo ∧ lo ≤ 63) (fun h => q1 h.2), Bool.and_false, Bool.false_and]
                go_wp2_with fail
                go_ret
                exact ⟨by rw [HV.out]; rfl, hbw⟩
            · have HV : Hid (fitsB a = false) := by show _ = _; rw [HF.out, decide_eq_false (p := 0 ≤ lo ∧ lo ≤ 63) (fun h => q0 h.1), Bool.and_false, Bool.false_and]
              go_wp2_with fail
              go_ret
              exact ⟨by rw [HV.out]; rfl, hbw⟩

theorem headSum_any (n l m : Int) (w : World) : Calls Tryz.prog 51 #[.string (bs (headT n l m))] w fun e w' => e = .returned (.int .i64 (sm (headT n l m))) ∧ Below w.heap.size w w' := by
  have := rsum_any (bs (headT n l m)) w (by rw [size_bs, length_headT]; decide)
  rw [toList_bs] at this
  exact this

set_option maxRecDepth 20000 in
set_option maxHeartbeats 4000000 in
theorem raccepts_any (top : Int) (a : Acc) (w : World) (h : Acc64 a) (ht : TabOk w) : Calls Tryz.prog 79 #[.int .i64 top, accV a] w fun e w' => e = .returned (.bool (accB top a)) ∧ Below w.heap.size w w' := by
  have HF := hid (fun w => fits_any a w)
  have HT := hid ht
  have H64 := hid h
  clear h ht
  obtain ⟨L, hL⟩ : ∃ L, L = w.heap.size := ⟨_, rfl⟩
  unfold accV at *
  cases hf : fitsB a
  · have HV : Hid (accB top a = false) := by show _ = _; unfold accB; rw [hf, Bool.false_and]
    rw [hf] at HF
    clear hf hL
    go_enter Tryz.func79, Tryz.ntmps79
    go_wp2_with fail
    refine (HF.out _).mono ?_
    rintro e w1 ⟨rfl, hb1⟩
    go_wp2_with fail
    go_ret
    exact ⟨by rw [HV.out]; rfl, kept ((Below.refl _ _).alloc (Nat.le_refl _) _) hb1⟩
  · have HV : Hid (accB top a = decide (accTop a = top)) := by show _ = _; unfold accB; rw [hf, Bool.true_and]
    have HFT := hid (fitsB_true hf)
    rw [hf] at HF
    clear hf
    go_enter Tryz.func79, Tryz.ntmps79
    go_wp2_with fail
    refine (HF.out _).mono ?_
    rintro e w1 ⟨rfl, hb1⟩
    rw [← hL]
    have HBA : Hid (BlkA w1 L a) := by show BlkA _ _ _; rw [hL]; exact BlkA.kept (BlkA.new w a) hb1
    have hk1 : Below w.heap.size w w1 := kept ((Below.refl _ _).alloc (Nat.le_refl _) _) hb1
    clear hb1 hL
    have x0 : w1.cell? ⟨L, 0, none⟩ = some (.int .i64 a.loan) := HBA.out.cell 0 _ rfl
    have x1 : w1.cell? ⟨L, 1, none⟩ = some (.int .i64 a.st.principal) := HBA.out.cell 1 _ rfl
    have x2 : w1.cell? ⟨L, 2, none⟩ = some (.int .i64 a.st.due) := HBA.out.cell 2 _ rfl
    have x3 : w1.cell? ⟨L, 3, none⟩ = some (.int .i64 a.st.rate) := HBA.out.cell 3 _ rfl
    have x4 : w1.cell? ⟨L, 4, none⟩ = some (.int .i64 a.st.day) := HBA.out.cell 4 _ rfl
    have x5 : w1.cell? ⟨L, 5, none⟩ = some (.int .i64 a.st.spare) := HBA.out.cell 5 _ rfl
    have x6 : w1.cell? ⟨L, 6, none⟩ = some (.int .i64 a.st.count) := HBA.out.cell 6 _ rfl
    have HST := hid (rstated_any a.st w1 H64.out.2.1 (HT.out.kept hk1))
    unfold stV at HST
    go_wp2_with fail
    refine HST.out.mono ?_
    rintro e w2 ⟨rfl, hb2⟩
    have HBA2 := hid (HBA.out.kept hb2)
    have hk2 := kept hk1 hb2
    have x0 : w2.cell? ⟨L, 0, none⟩ = some (.int .i64 a.loan) := HBA2.out.cell 0 _ rfl
    clear x1 x2 x3 x4 x5 x6 HBA HST hb2 hk1
    go_wp2_with fail
    have HX0 : Hid (sm (stT a.st) = accX a 0) := rfl
    rw [HX0.out]
    go_loopw [6, 7, 8] (fun x l d wr => ∃ k : Nat, k ≤ 6 ∧ d = .int .i64 (k : Int) ∧ x = .int .i64 (accX a k) ∧ l = .int .i64 (a.loan / 2 ^ k) ∧ Below w2.heap.size w2 wr) (fun _ _ d _ => 6 - (intOf d).toNat)
    case atStart => exact ⟨0, Nat.zero_le _, rfl, rfl, by simp, Below.refl _ _⟩
    case round =>
      obtain ⟨k, hk, rfl, rfl, rfl, hbel⟩ := hrel
      have HBA := hid (HBA2.out.kept hbel)
      clear x0
      by_cases hlt : k < 6
      · have hp := HBA.out.path k hlt
        have hpb : Bd (a.path[k]'hlt) := HFT.out.sums _ (List.mem_cons_of_mem _ (List.getElem_mem (show k < a.path.length from hlt)))
        have HXS := hid (accX_succ a k)
        rw [show a.path.getD k 0 = a.path[k]'hlt from by rw [List.getD_eq_getElem?_getD, List.getElem?_eq_getElem (show k < a.path.length from hlt)]; rfl] at HXS
        have hxb := accX_bd a k
        have HLS := hid (half_pow a.loan k)
        have hl0 := (HFT.out.up k).1
        have hl1 := (HFT.out.up k).2
        generalize a.path[k]'hlt = z at *
        generalize accX a k = x at *
        generalize a.loan / 2 ^ k = lo at *
        have i1 : (0 : Int) ≤ (k : Int) := by omega
        have i2 : (k : Int) < 6 := by omega
        have hLw : L < wr.heap.size := World.block_lt_of_cell? _ _ hp
        by_cases hev : lo % 2 = 0
        · rw [if_pos hev] at HXS
          have HJ := hid (joinedM_any x z wr hxb hpb)
          rw [← HXS.out] at HJ
          have t1 : (lo % 2 == 0) = true := by simp; omega
          clear hev
          go_wp2_with fail
          refine HJ.out.mono ?_
          rintro e w3 ⟨rfl, hb3⟩
          go_wp2_with fail
          go_roundw
          case rel => exact ⟨k + 1, by omega, by go_num, rfl, by rw [HLS.out], kept hbel hb3⟩
          case measure => simp [intOf]; omega
        · rw [if_neg hev] at HXS
          have HJ := hid (joinedM_any z x wr hpb hxb)
          rw [← HXS.out] at HJ
          have t1 : (lo % 2 == 0) = false := by simp; omega
          clear hev
          go_wp2_with fail
          refine HJ.out.mono ?_
          rintro e w3 ⟨rfl, hb3⟩
          go_wp2_with fail
          go_roundw
          case rel => exact ⟨k + 1, by omega, by go_num, rfl, by rw [HLS.out], kept hbel hb3⟩
          case measure => simp [intOf]; omega
      · obtain rfl : k = 6 := by omega
        have x7 : wr.cell? ⟨L, 7, none⟩ = some (.int .i64 a.size) := HBA.out.cell 7 _ rfl
        have x8 : wr.cell? ⟨L, 8, none⟩ = some (.int .i64 a.log) := HBA.out.cell 8 _ rfl
        have hs := HFT.out.size
        have hlb : Bd a.log := HFT.out.sums _ (by simp)
        have hxb := accX_bd a 6
        have HHS := hid (fun w => headSum_any a.size a.log (accX a 6) w)
        have HTP : Hid (sm (headT a.size a.log (accX a 6)) = accTop a) := rfl
        have HHD := hid (head_str a.size a.log (accX a 6))
        rw [HTP.out] at HHS
        have z1 : (bs (two a.size)).size = 2 := size_bs _
        have z2 : (bs (two a.log)).size = 2 := size_bs _
        have z3 : (bs (two (accX a 6))).size = 2 := size_bs _
        have hLw : L < wr.heap.size := World.block_lt_of_cell? _ _ x7
        have s0 := hs.1
        have s1 : a.size ≤ 65535 := by omega
        have l0 := hlb.1
        have l1 : a.log ≤ 65535 := by have := hlb.2; omega
        have y0 := hxb.1
        have y1 : accX a 6 ≤ 65535 := by have := hxb.2; omega
        clear hs hlb hxb
        generalize accTop a = tp at HHS HV HTP
        generalize accX a 6 = x at *
        generalize bs (headT a.size a.log x) = hd at *
        generalize a.size = sz at *
        generalize a.log = lg at *
        clear HBA HBA2 HF H64 HT HX0 hk
        go_wp2_with fail
        go_region_held3 (fun w' => w'.cell? ⟨L, 7, none⟩ = some (.int .i64 sz) ∧ w'.cell? ⟨L, 8, none⟩ = some (.int .i64 lg) ∧ Below wr.heap.size wr w') ((go_split_ands; refine ⟨?_, ?_, ?_⟩ <;> first | exact x7 | exact x8 | exact (Below.refl _ _).drew | exact cell_kept (by assumption) hb5 | exact kept (by assumption) hb5)) (first | (go_at_call 52; refine (two_any _ _ (by assumption) (by assumption)).mono ?_; rintro e w5 ⟨rfl, hb5⟩) | (go_at_call 51; rw [HHD.out]; refine (HHS.out _).mono ?_; rintro e w5 ⟨rfl, hb5⟩))
        have hbz : Below wr.heap.size wr w5 := (by assumption : w5.cell? ⟨L, 7, none⟩ = some (.int .i64 sz) ∧ w5.cell? ⟨L, 8, none⟩ = some (.int .i64 lg) ∧ Below wr.heap.size wr w5).2.2
        go_wp2_with fail
        go_ret
        exact ⟨by rw [HV.out]; rfl, kept (kept hk2 hbel) hbz⟩

end Go.Proofs.YtedblhcehlbbmaaGreatDoor

import Derived.Test.YtedblhcehlbbmaaGreatDoorWalkRefState
import Derived.Test.YtedblhcehlbbmaaGreatDoorJWalkRefLog
import Derived.Test.YtedblhcehlbbmaaGreatDoorJWalkAccount
import Derived.Test.YtedblhcehlbbmaaGreatDoorStepAcc
import Derived.WalkKit
import Derived.WalkSpells
import Derived.WalkLawsBesides
import Derived.Deep.Cut
import Derived.Deep.CutRange
import Derived.Deep.CutBlock
import Derived.Laws.BitsLemmas
import Derived.Deep.RegionHeld3
/-
  THE DOCUMENT's BOOK: lenderref.Account.
-/
namespace Go.Proofs.YtedblhcehlbbmaaGreatDoor
set_option maxRecDepth 20000
open Go.RowKit

theorem OwnS.keptD {w w' : World} {B : Nat} {v : Value} {l : List ByteArray} (h : OwnS w B v l) (hb : Below w.heap.size w w') : OwnS w' B v l := OwnS.kept h hb
/-- An account with its first k sums. -/
def accK (es : List Ev) (l k : Nat) : Acc := ⟨(l : Int), stOf es (l : Int), (es.length : Int), logOf es, if 0 < k then sideL (stF es) l 0 else 0, if 1 < k then sideL (stF es) l 1 else 0, if 2 < k then sideL (stF es) l 2 else 0, if 3 < k then sideL (stF es) l 3 else 0, if 4 < k then sideL (stF es) l 4 else 0, if 5 < k then sideL (stF es) l 5 else 0⟩
theorem accK_six (es : List Ev) (l : Nat) : accK es l 6 = accOf es l := rfl
theorem accK_zero (es : List Ev) (l : Nat) : accK es l 0 = ⟨(l : Int), stOf es (l : Int), (es.length : Int), logOf es, 0, 0, 0, 0, 0, 0⟩ := rfl
theorem accK_put {w : World} {L : Nat} {es : List Ev} {l k : Nat} (hk : k < 6) (h : BlkA w L (accK es l k)) : BlkA (w.setCell ⟨L, 9 + k, none⟩ (.int .i64 (sideL (stF es) l k))) L (accK es l (k + 1)) := by
  unfold BlkA at *
  rw [blk_setCell h]
  rcases (by omega : k = 0 ∨ k = 1 ∨ k = 2 ∨ k = 3 ∨ k = 4 ∨ k = 5) with rfl | rfl | rfl | rfl | rfl | rfl <;> rfl

theorem BlkA.drewA {w : World} {L : Nat} {a : Acc} (h : BlkA w L a) : BlkA w.drew L a := h
theorem BlkA.zs {w : World} {L : Nat} (h : BlkA w L zA) : w.cell? ⟨L, 0, none⟩ = some (.int .i64 0) ∧ w.cell? ⟨L, 1, none⟩ = some (.int .i64 0) ∧ w.cell? ⟨L, 2, none⟩ = some (.int .i64 0) ∧ w.cell? ⟨L, 3, none⟩ = some (.int .i64 0) ∧ w.cell? ⟨L, 4, none⟩ = some (.int .i64 0) ∧ w.cell? ⟨L, 5, none⟩ = some (.int .i64 0) ∧ w.cell? ⟨L, 6, none⟩ = some (.int .i64 0) ∧ w.cell? ⟨L, 7, none⟩ = some (.int .i64 0) ∧ w.cell? ⟨L, 8, none⟩ = some (.int .i64 0) ∧ w.cell? ⟨L, 9, none⟩ = some (.int .i64 0) ∧ w.cell? ⟨L, 10, none⟩ = some (.int .i64 0) ∧ w.cell? ⟨L, 11, none⟩ = some (.int .i64 0) ∧ w.cell? ⟨L, 12, none⟩ = some (.int .i64 0) ∧ w.cell? ⟨L, 13, none⟩ = some (.int .i64 0) ∧ w.cell? ⟨L, 14, none⟩ = some (.int .i64 0) ∧ w.frozen? ⟨L, 0, none⟩ = false ∧ w.frozen? ⟨L, 1, none⟩ = false ∧ w.frozen? ⟨L, 2, none⟩ = false ∧ w.frozen? ⟨L, 3, none⟩ = false ∧ w.frozen? ⟨L, 4, none⟩ = false ∧ w.frozen? ⟨L, 5, none⟩ = false ∧ w.frozen? ⟨L, 6, none⟩ = false ∧ w.frozen? ⟨L, 7, none⟩ = false ∧ w.frozen? ⟨L, 8, none⟩ = false ∧ w.frozen? ⟨L, 9, none⟩ = false ∧ w.frozen? ⟨L, 10, none⟩ = false ∧ w.frozen? ⟨L, 11, none⟩ = false ∧ w.frozen? ⟨L, 12, none⟩ = false ∧ w.frozen? ⟨L, 13, none⟩ = false ∧ w.frozen? ⟨L, 14, none⟩ = false :=
  ⟨h.cell 0 _ rfl, h.cell 1 _ rfl, h.cell 2 _ rfl, h.cell 3 _ rfl, h.cell 4 _ rfl, h.cell 5 _ rfl, h.cell 6 _ rfl, h.cell 7 _ rfl, h.cell 8 _ rfl, h.cell 9 _ rfl, h.cell 10 _ rfl, h.cell 11 _ rfl, h.cell 12 _ rfl, h.cell 13 _ rfl, h.cell 14 _ rfl, h.free 0, h.free 1, h.free 2, h.free 3, h.free 4, h.free 5, h.free 6, h.free 7, h.free 8, h.free 9, h.free 10, h.free 11, h.free 12, h.free 13, h.free 14⟩

theorem side_at : ∀ l : Nat, l < 64 → ∀ k : Nat, k < 6 → wrap64 (bits BinOp.xor IntKind.i64 ((l : Int) / 2 ^ k) 1 * 2 ^ k) = ((nextTo (l / 2 ^ k) * 2 ^ k : Nat) : Int) ∧ nextTo (l / 2 ^ k) * 2 ^ k + 2 ^ k ≤ 64 := by decide +kernel
theorem ret_acc {fn : Func} {p : Tmp} (h : fn.results = #[.cell p 36]) {tmps : Array Value} {w : World} {L : Nat} {a : Acc} (hp : tmps.getD p undef = .pointer (some ⟨L, 0, none⟩)) (hb : BlkA w L a) :
    (results fn tmps).run Tryz.prog w = .ok (accV a) w :=
  results_cell_row h tmps w L 36 _ (0, 0) _ hp hb Tryz.underlying36 rfl Tryz.infoAcc
theorem BlkA.otherR {w : World} {L M : Nat} {a : Acc} (h : BlkA w L a) (hne : L ≠ M) (i : Nat) (v : Value) : BlkA (w.setCell ⟨M, i, none⟩ v) L a := by
  unfold BlkA at *; rw [Below.heap_setCell _ _ _ _ hne]; exact h
theorem acc_meet1 {w w1 w5 : World} {L : Nat} (A : Acc) (hk1 : Below w.heap.size w w1) (hk5 : Below w1.heap.size w1 w5) (HB1 : BlkA w1 L zA) :
    ∃ M, Value.pointer (some ⟨w5.heap.size, 0, none⟩) = .pointer (some ⟨M, 0, none⟩) ∧ Hid (BlkA (w5.alloc (.cells #[.int .i64 A.loan, .int .i64 A.st.principal, .int .i64 A.st.due, .int .i64 A.st.rate, .int .i64 A.st.day, .int .i64 A.st.spare, .int .i64 A.st.count, .int .i64 A.size, .int .i64 A.log, .int .i64 A.p0, .int .i64 A.p1, .int .i64 A.p2, .int .i64 A.p3, .int .i64 A.p4, .int .i64 A.p5] 36)) M A) ∧ Hid (BlkA (w5.alloc (.cells #[.int .i64 A.loan, .int .i64 A.st.principal, .int .i64 A.st.due, .int .i64 A.st.rate, .int .i64 A.st.day, .int .i64 A.st.spare, .int .i64 A.st.count, .int .i64 A.size, .int .i64 A.log, .int .i64 A.p0, .int .i64 A.p1, .int .i64 A.p2, .int .i64 A.p3, .int .i64 A.p4, .int .i64 A.p5] 36)) L zA) ∧ Hid (L < M) ∧ Below w.heap.size w (w5.alloc (.cells #[.int .i64 A.loan, .int .i64 A.st.principal, .int .i64 A.st.due, .int .i64 A.st.rate, .int .i64 A.st.day, .int .i64 A.st.spare, .int .i64 A.st.count, .int .i64 A.size, .int .i64 A.log, .int .i64 A.p0, .int .i64 A.p1, .int .i64 A.p2, .int .i64 A.p3, .int .i64 A.p4, .int .i64 A.p5] 36)) :=
  ⟨w5.heap.size, rfl, BlkA.new w5 A, (HB1.kept hk5).kept ((Below.refl _ _).alloc (Nat.le_refl _) _), Nat.lt_of_lt_of_le (lt_of_block HB1) hk5.size, kept hk1 (hk5.alloc hk5.size _)⟩
theorem acc_meet2 {w w1 w5 : World} {L M : Nat} {Z : Acc} (A : Acc) (hk1 : Below w.heap.size w w1) (hk5 : Below w1.heap.size w1 w5) (HB1 : BlkA w1 L zA) (HM : BlkA w5 M Z) (HMB : w1.heap.size ≤ M) :
    ∃ M', Value.pointer (some ⟨M, 0, none⟩) = .pointer (some ⟨M', 0, none⟩) ∧ Hid (BlkA (((((((((((((((w5.setCell ⟨M, 0, none⟩ (.int .i64 A.loan)).setCell ⟨M, 1, none⟩ (.int .i64 A.st.principal)).setCell ⟨M, 2, none⟩ (.int .i64 A.st.due)).setCell ⟨M, 3, none⟩ (.int .i64 A.st.rate)).setCell ⟨M, 4, none⟩ (.int .i64 A.st.day)).setCell ⟨M, 5, none⟩ (.int .i64 A.st.spare)).setCell ⟨M, 6, none⟩ (.int .i64 A.st.count)).setCell ⟨M, 7, none⟩ (.int .i64 A.size)).setCell ⟨M, 8, none⟩ (.int .i64 A.log)).setCell ⟨M, 9, none⟩ (.int .i64 A.p0)).setCell ⟨M, 10, none⟩ (.int .i64 A.p1)).setCell ⟨M, 11, none⟩ (.int .i64 A.p2)).setCell ⟨M, 12, none⟩ (.int .i64 A.p3)).setCell ⟨M, 13, none⟩ (.int .i64 A.p4)).setCell ⟨M, 14, none⟩ (.int .i64 A.p5)) M' A) ∧ Hid (BlkA (((((((((((((((w5.setCell ⟨M, 0, none⟩ (.int .i64 A.loan)).setCell ⟨M, 1, none⟩ (.int .i64 A.st.principal)).setCell ⟨M, 2, none⟩ (.int .i64 A.st.due)).setCell ⟨M, 3, none⟩ (.int .i64 A.st.rate)).setCell ⟨M, 4, none⟩ (.int .i64 A.st.day)).setCell ⟨M, 5, none⟩ (.int .i64 A.st.spare)).setCell ⟨M, 6, none⟩ (.int .i64 A.st.count)).setCell ⟨M, 7, none⟩ (.int .i64 A.size)).setCell ⟨M, 8, none⟩ (.int .i64 A.log)).setCell ⟨M, 9, none⟩ (.int .i64 A.p0)).setCell ⟨M, 10, none⟩ (.int .i64 A.p1)).setCell ⟨M, 11, none⟩ (.int .i64 A.p2)).setCell ⟨M, 12, none⟩ (.int .i64 A.p3)).setCell ⟨M, 13, none⟩ (.int .i64 A.p4)).setCell ⟨M, 14, none⟩ (.int .i64 A.p5)) L zA) ∧ Hid (L < M') ∧ Below w.heap.size w (((((((((((((((w5.setCell ⟨M, 0, none⟩ (.int .i64 A.loan)).setCell ⟨M, 1, none⟩ (.int .i64 A.st.principal)).setCell ⟨M, 2, none⟩ (.int .i64 A.st.due)).setCell ⟨M, 3, none⟩ (.int .i64 A.st.rate)).setCell ⟨M, 4, none⟩ (.int .i64 A.st.day)).setCell ⟨M, 5, none⟩ (.int .i64 A.st.spare)).setCell ⟨M, 6, none⟩ (.int .i64 A.st.count)).setCell ⟨M, 7, none⟩ (.int .i64 A.size)).setCell ⟨M, 8, none⟩ (.int .i64 A.log)).setCell ⟨M, 9, none⟩ (.int .i64 A.p0)).setCell ⟨M, 10, none⟩ (.int .i64 A.p1)).setCell ⟨M, 11, none⟩ (.int .i64 A.p2)).setCell ⟨M, 12, none⟩ (.int .i64 A.p3)).setCell ⟨M, 13, none⟩ (.int .i64 A.p4)).setCell ⟨M, 14, none⟩ (.int .i64 A.p5)) :=
  ⟨M, rfl, BlkA.all HM A, HB1.kept (chain_below hk5 HMB), Nat.lt_of_lt_of_le (lt_of_block HB1) HMB, kept hk1 (chain_below hk5 HMB)⟩

set_option maxRecDepth 20000 in
set_option maxHeartbeats 16000000 in
theorem raccount_any (w : World) (S : Nat → Prop) (ad : Addr) (es : List Ev) (l : Nat) (hl : l < 64) (h : RRep w S (.pointer (some ad)) es) (ht : TabOk w) :
    Calls Tryz.prog 28 #[.pointer (some ad), .int .i64 (l : Int)] w fun r w' => r = .returned (accV (accOf es l)) ∧ Below w.heap.size w w' := by
  have T := rstate_spec w S (.pointer (some ad)) es h
  have hh := h
  have hlt := h.lt
  obtain ⟨p, u, hv, hp, hu, _, hg, _⟩ := h
  cases hv
  obtain ⟨a, cap, rfl, _, _, _, _⟩ := hu.form
  have h200 := hg.1
  have HCP : Hid (∀ wz, Below w.heap.size w wz → wz.cell? ⟨p, 0, none⟩ = some (.slice a es.length cap)) := fun wz hz => cell_kept (cell_one hp) hz
  have hpl := lt_of_block hp
  have HST : Hid (∀ wz, Below w.heap.size w wz → Calls Tryz.prog 20 #[.pointer (some ⟨p, 0, none⟩), .int .i64 (l : Int)] wz fun r w' => r = .returned (stV (stOf es (l : Int))) ∧ Below wz.heap.size wz w') := fun wz hz => T wz (l : Int) hz ⟨by omega, by omega⟩
  have HLG : Hid (∀ wz, Below w.heap.size w wz → Calls Tryz.prog 23 #[.pointer (some ⟨p, 0, none⟩)] wz fun r w' => ∃ u, r = .returned u ∧ OwnS w' wz.heap.size u (entriesB es) ∧ Below wz.heap.size wz w') := fun wz hz => rlog_any wz S _ es (hh.stay (fun k hk => hz.block k (hlt k hk))) (ht.kept hz)
  have HRT : Hid (∀ wz B v, OwnS wz B v (entriesB es) → Calls Tryz.prog 41 #[v] wz fun e w' => e = .returned (.int .i64 (logOf es)) ∧ Below wz.heap.size wz w') := fun wz B v hO => by
    obtain ⟨a1, c1, rfl, _, _, hS1⟩ := hO.form
    have := rroot_any (entriesB es).length a1 (entriesB es) c1 wz rfl hS1 (by rw [entriesB_len]; exact h200) (entriesB_40 es hg)
    rw [show rootS (entriesB es) = logOf es from rfl] at this
    exact this
  have HOV : Hid (∀ (d j : Nat), d < 6 → j * 2 ^ d + 2 ^ d ≤ 64 → ∀ wz, Below w.heap.size w wz → Calls Tryz.prog 50 #[.pointer (some ⟨p, 0, none⟩), .int .i64 (d : Int), .int .i64 ((j * 2 ^ d : Nat) : Int)] wz fun r w' => r = .returned (.int .i64 (mapL (stF es) d j)) ∧ Below wz.heap.size wz w') := fun d j hd hj wz hz =>
    rover_any w ⟨p, 0, none⟩ es T ht hg d (Nat.le_of_lt hd) j wz hj hz
  obtain ⟨s0, HS0⟩ : ∃ s0, Hid (s0 = stOf es (l : Int)) := ⟨_, rfl⟩
  obtain ⟨lg, HLG0⟩ : ∃ lg, Hid (lg = logOf es) := ⟨_, rfl⟩
  rw [← HLG0.out] at HRT
  rw [← HS0.out] at HST
  unfold stV at HST
  obtain ⟨N, hN⟩ : ∃ N, N = es.length := ⟨_, rfl⟩
  have HN : Hid ((N : Int) = (es.length : Int)) := by show _ = _; rw [hN]
  rw [← hN] at HCP h200
  clear hp hu hg ht hN hh hlt T
  obtain ⟨L, hL⟩ : ∃ L, L = w.heap.size := ⟨_, rfl⟩
  go_enter Tryz.func28, Tryz.ntmps28
  go_upto_region 1 with fail
  rw [← hL]
  have HB1 : Hid (BlkA (w.alloc (.cells (accC zA) 36)) L zA) := by show BlkA _ _ _; rw [hL]; exact BlkA.new w zA
  have hk1 : Below w.heap.size w (w.alloc (.cells (accC zA) 36)) := (Below.refl _ _).alloc (Nat.le_refl _) _
  unfold accC zA zS at HB1 hk1
  simp only at HB1 hk1
  generalize World.alloc w _ = w1 at *
  have HLW : Hid (w.heap.size ≤ L) := by show _ ≤ _; rw [hL]; exact Nat.le_refl _
  clear hL
  have hc1 := HCP.out w1 hk1
  go_cut [5] from 8 to 20 (fun v wx => ∃ M, v = .pointer (some ⟨M, 0, none⟩) ∧ Hid (BlkA wx M ⟨(l : Int), s0, (N : Int), lg, 0, 0, 0, 0, 0, 0⟩) ∧ Hid (BlkA wx L zA) ∧ Hid (L < M) ∧ Below w.heap.size w wx)
  case first =>
    go_region_held3 (fun w' => w'.cell? ⟨p, 0, none⟩ = some (.slice a N cap) ∧ Below w1.heap.size w1 w') ((first | with_reducible exact ⟨cell_kept hc1 (chain_below hk5 HMB), chain_below hk5 HMB⟩ | with_reducible exact ⟨cell_kept hc1 hk5, hk5⟩ | with_reducible exact ⟨cell_kept hc1 (hk5.alloc hk5.size _), hk5.alloc hk5.size _⟩ | with_reducible exact ⟨drew_cell hc1, drew_below _⟩ | with_reducible exact ⟨cell_kept hc1 (drew_alloc _ _), drew_alloc _ _⟩)) (first | (go_at_call 20; refine (HST.out _ (by go_split_ands; exact kept hk1 (by assumption))).mono ?_; rintro e w5 ⟨rfl, hb5⟩; have hk5 : Below w1.heap.size w1 w5 := (by go_split_ands; exact kept (by assumption) hb5); (first | (have hOL := (by with_reducible exact OwnS.kept hOL hb5)) | (have hOL := (by with_reducible exact OwnS.kept (OwnS.alloc hOL _) hb5)) | skip); (first | (have HM := (by with_reducible exact BlkA.kept HM hb5); skip) | (have HM : BlkA w5 _ zA := (by first | with_reducible exact BlkA.kept (BlkA.new0 _) hb5 | with_reducible exact BlkA.kept (BlkA.drewA (BlkA.new0 _)) hb5); have HMB := ge_of (w1 := w1) HM (by first | with_reducible exact Below.refl _ _ | with_reducible exact (Below.refl _ _).drew | assumption); skip) | skip)) | (go_at_call 23; refine (HLG.out _ (by go_split_ands; exact kept hk1 (by assumption))).mono ?_; rintro e w5 ⟨vL, rfl, hOL, hb5⟩; have hk5 : Below w1.heap.size w1 w5 := (by go_split_ands; exact kept (by assumption) hb5); (first | (have HM := (by with_reducible exact BlkA.kept HM hb5); skip) | (have HM : BlkA w5 _ zA := (by first | with_reducible exact BlkA.kept (BlkA.new0 _) hb5 | with_reducible exact BlkA.kept (BlkA.drewA (BlkA.new0 _)) hb5); have HMB := ge_of (w1 := w1) HM (by first | with_reducible exact Below.refl _ _ | with_reducible exact (Below.refl _ _).drew | assumption); skip) | skip)) | (go_at_call 41; refine (HRT.out _ _ _ (by first | with_reducible exact hOL | with_reducible exact OwnS.alloc hOL _)).mono ?_; rintro e w5 ⟨rfl, hb5⟩; have hk5 : Below w1.heap.size w1 w5 := (by go_split_ands; exact kept (by assumption) hb5); (first | (have HM := (by with_reducible exact BlkA.kept HM hb5); obtain ⟨y0, y1, y2, y3, y4, y5, y6, y7, y8, y9, y10, y11, y12, y13, y14, g0, g1, g2, g3, g4, g5, g6, g7, g8, g9, g10, g11, g12, g13, g14⟩ := HM.zs; skip) | (have HM : BlkA w5 _ zA := (by first | with_reducible exact BlkA.kept (BlkA.new0 _) hb5 | with_reducible exact BlkA.kept (BlkA.drewA (BlkA.new0 _)) hb5); have HMB := ge_of (w1 := w1) HM (by first | with_reducible exact Below.refl _ _ | with_reducible exact (Below.refl _ _).drew | assumption); obtain ⟨y0, y1, y2, y3, y4, y5, y6, y7, y8, y9, y10, y11, y12, y13, y14, g0, g1, g2, g3, g4, g5, g6, g7, g8, g9, g10, g11, g12, g13, g14⟩ := HM.zs; skip) | skip)))
    all_goals go_step
    all_goals go_step
    all_goals go_meet
    · exact acc_meet1 ⟨(l : Int), s0, (N : Int), lg, 0, 0, 0, 0, 0, 0⟩ hk1 hk5 HB1.out
    all_goals exact acc_meet2 ⟨(l : Int), s0, (N : Int), lg, 0, 0, 0, 0, 0, 0⟩ hk1 hk5 HB1.out HM HMB
  case rest =>
    obtain ⟨M, rfl, HA, HZ, HLM, hb7⟩ := hcut
    have HA0 : Hid (BlkA wc M (accK es l 0)) := by
      show BlkA _ _ _
      rw [accK_zero, ← HS0.out, ← HLG0.out, ← HN.out]
      exact HA.out
    clear HA HB1 hk1 hc1 HST HLG HRT HS0 HLG0 HN
    go_wp2_with fail
    go_loopw [6, 7] (fun d _ wr => ∃ k : Nat, k ≤ 6 ∧ d = .int .i64 (k : Int) ∧ Hid (BlkA wr M (accK es l k)) ∧ Hid (BlkA wr L zA) ∧ Below w.heap.size w wr) (fun d _ _ => 6 - (intOf d).toNat)
    case atStart => exact ⟨0, Nat.zero_le _, rfl, HA0, HZ, hb7⟩
    case round =>
      obtain ⟨k, hk, rfl, HAk, HZk, hbk⟩ := hrel
      clear HA0 HZ hb7
      by_cases hlt : k < 6
      · have i1 : (0 : Int) ≤ (k : Int) := by omega
        have i2 : (k : Int) < 6 := by omega
        have hl0 : (0 : Int) ≤ (l : Int) := by omega
        have HSD := hid (side_at l hl k hlt)
        have hML : M < wr.heap.size := lt_of_block HAk.out
        obtain ⟨z, hz⟩ : ∃ z, wr.cell? ⟨M, 9 + k, none⟩ = some (.int .i64 z) := ⟨_, HAk.out.path k hlt⟩
        have hfz := HAk.out.free (9 + k)
        go_wp2_with fail
        rw [HSD.out.1]
        refine (HOV.out k (nextTo (l / 2 ^ k)) hlt HSD.out.2 _ hbk).mono ?_
        rintro e w8 ⟨rfl, hb8⟩
        have HA8 := hid (accK_put hlt (HAk.out.kept hb8))
        have HZ8 : Hid (BlkA (w8.setCell ⟨M, 9 + k, none⟩ (.int .i64 (sideL (stF es) l k))) L zA) := (HZk.out.kept hb8).otherR (by have := HLM.out; omega) _ _
        have HB8 : Hid (Below w.heap.size w (w8.setCell ⟨M, 9 + k, none⟩ (.int .i64 (sideL (stF es) l k)))) := (kept hbk hb8).setCell (by have := HLM.out; have := HLW.out; show _ ≤ M; omega) _
        have hz8 := cell_kept hz hb8
        have hf8 : w8.frozen? ⟨M, 9 + k, none⟩ = false := (HAk.out.kept hb8).free _
        have hM8 : M < w8.heap.size := Nat.lt_of_lt_of_le hML hb8.size
        rw [show mapL (stF es) k (nextTo (l / 2 ^ k)) = sideL (stF es) l k from rfl]
        generalize sideL (stF es) l k = sd at *
        clear hz hfz hML hb8 HSD HAk HZk hbk
        go_wp2_with fail
        go_roundw
        case rel => exact ⟨k + 1, by omega, by go_num, HA8, HZ8, HB8.out⟩
        case measure => simp [intOf]; omega
      · obtain rfl : k = 6 := by omega
        rw [accK_six] at HAk
        obtain ⟨A, hA⟩ : ∃ A, A = accOf es l := ⟨_, rfl⟩
        rw [← hA] at HAk
        have HAE := hid hA
        have hne : ¬ L = M := by have := HLM.out; omega
        have hne2 : ¬ M = L := by have := HLM.out; omega
        have l1 : L < wr.heap.size := lt_of_block HZk.out
        have l2 : M < wr.heap.size := lt_of_block HAk.out
        have e0 : wr.cell? ⟨M, 0, none⟩ = some (.int .i64 A.loan) := HAk.out.cell 0 _ rfl
        have e1 : wr.cell? ⟨M, 1, none⟩ = some (.int .i64 A.st.principal) := HAk.out.cell 1 _ rfl
        have e2 : wr.cell? ⟨M, 2, none⟩ = some (.int .i64 A.st.due) := HAk.out.cell 2 _ rfl
        have e3 : wr.cell? ⟨M, 3, none⟩ = some (.int .i64 A.st.rate) := HAk.out.cell 3 _ rfl
        have e4 : wr.cell? ⟨M, 4, none⟩ = some (.int .i64 A.st.day) := HAk.out.cell 4 _ rfl
        have e5 : wr.cell? ⟨M, 5, none⟩ = some (.int .i64 A.st.spare) := HAk.out.cell 5 _ rfl
        have e6 : wr.cell? ⟨M, 6, none⟩ = some (.int .i64 A.st.count) := HAk.out.cell 6 _ rfl
        have e7 : wr.cell? ⟨M, 7, none⟩ = some (.int .i64 A.size) := HAk.out.cell 7 _ rfl
        have e8 : wr.cell? ⟨M, 8, none⟩ = some (.int .i64 A.log) := HAk.out.cell 8 _ rfl
        have e9 : wr.cell? ⟨M, 9, none⟩ = some (.int .i64 A.p0) := HAk.out.cell 9 _ rfl
        have e10 : wr.cell? ⟨M, 10, none⟩ = some (.int .i64 A.p1) := HAk.out.cell 10 _ rfl
        have e11 : wr.cell? ⟨M, 11, none⟩ = some (.int .i64 A.p2) := HAk.out.cell 11 _ rfl
        have e12 : wr.cell? ⟨M, 12, none⟩ = some (.int .i64 A.p3) := HAk.out.cell 12 _ rfl
        have e13 : wr.cell? ⟨M, 13, none⟩ = some (.int .i64 A.p4) := HAk.out.cell 13 _ rfl
        have e14 : wr.cell? ⟨M, 14, none⟩ = some (.int .i64 A.p5) := HAk.out.cell 14 _ rfl
        have d0 : wr.cell? ⟨L, 0, none⟩ = some (.int .i64 0) := HZk.out.cell 0 _ rfl
        have d1 : wr.cell? ⟨L, 1, none⟩ = some (.int .i64 0) := HZk.out.cell 1 _ rfl
        have d2 : wr.cell? ⟨L, 2, none⟩ = some (.int .i64 0) := HZk.out.cell 2 _ rfl
        have d3 : wr.cell? ⟨L, 3, none⟩ = some (.int .i64 0) := HZk.out.cell 3 _ rfl
        have d4 : wr.cell? ⟨L, 4, none⟩ = some (.int .i64 0) := HZk.out.cell 4 _ rfl
        have d5 : wr.cell? ⟨L, 5, none⟩ = some (.int .i64 0) := HZk.out.cell 5 _ rfl
        have d6 : wr.cell? ⟨L, 6, none⟩ = some (.int .i64 0) := HZk.out.cell 6 _ rfl
        have d7 : wr.cell? ⟨L, 7, none⟩ = some (.int .i64 0) := HZk.out.cell 7 _ rfl
        have d8 : wr.cell? ⟨L, 8, none⟩ = some (.int .i64 0) := HZk.out.cell 8 _ rfl
        have d9 : wr.cell? ⟨L, 9, none⟩ = some (.int .i64 0) := HZk.out.cell 9 _ rfl
        have d10 : wr.cell? ⟨L, 10, none⟩ = some (.int .i64 0) := HZk.out.cell 10 _ rfl
        have d11 : wr.cell? ⟨L, 11, none⟩ = some (.int .i64 0) := HZk.out.cell 11 _ rfl
        have d12 : wr.cell? ⟨L, 12, none⟩ = some (.int .i64 0) := HZk.out.cell 12 _ rfl
        have d13 : wr.cell? ⟨L, 13, none⟩ = some (.int .i64 0) := HZk.out.cell 13 _ rfl
        have d14 : wr.cell? ⟨L, 14, none⟩ = some (.int .i64 0) := HZk.out.cell 14 _ rfl
        have g0 := HZk.out.free 0
        have g1 := HZk.out.free 1
        have g2 := HZk.out.free 2
        have g3 := HZk.out.free 3
        have g4 := HZk.out.free 4
        have g5 := HZk.out.free 5
        have g6 := HZk.out.free 6
        have g7 := HZk.out.free 7
        have g8 := HZk.out.free 8
        have g9 := HZk.out.free 9
        have g10 := HZk.out.free 10
        have g11 := HZk.out.free 11
        have g12 := HZk.out.free 12
        have g13 := HZk.out.free 13
        have g14 := HZk.out.free 14
        clear hA HOV HCP
        go_wp2_with fail
        refine bodyPost_ret (ret_acc rfl (L := L) (a := A) rfl (HZk.out.all A)) rfl ⟨by rw [HAE.out], putAcc_below hbk L A HLW.out⟩

end Go.Proofs.YtedblhcehlbbmaaGreatDoor

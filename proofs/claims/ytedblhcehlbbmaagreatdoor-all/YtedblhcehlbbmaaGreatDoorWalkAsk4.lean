import Derived.Test.YtedblhcehlbbmaaGreatDoorJSpecWorld
import Derived.WalkKit
import Derived.WalkSpells
import Derived.WalkLawsBesides
import Derived.Deep.RegionHeld3
import Derived.Deep.QuietTactic
import Derived.BigQuiet
import Derived.Deep.Cut
import Derived.Deep.CutRange
import Derived.Deep.CutBlock
/-
  A QUERY OF A BOOK: lenderlaw.World.asked: Lie of the document's account with another state.
-/
namespace Go.Proofs.YtedblhcehlbbmaaGreatDoor
set_option maxRecDepth 20000
open Go.RowKit

attribute [local go_sem ↓] run_eql_acc run_eql_zA

set_option maxHeartbeats 8000000 in
theorem asked_shown (w : World) (Wb g n cap : Nat) (o : OpI) (s : Shf) (hI : AskIn w Wb g n cap o s) (hk : o.kind = 9) :
    Calls Tryz.prog 9 #[.pointer (some ⟨Wb, 0, none⟩), opV o] w fun r w' => r = .returned (.bool true) ∧ AskedOk w s w' := by
  have HI := hid hI
  have hn1 := hI.few
  have hn0 := hI.pos
  have HPK : Hid (∀ wz, Calls Tryz.prog 17 #[.int .i64 o.a, .int .i64 (n : Int)] wz fun e w' => e = .returned (.int .i64 ((pickI o.a n : Nat) : Int)) ∧ w' = wz) := fun wz => lpick_any o.a n wz hI.o64.2.1 hI.pos (by have := hI.few; omega)
  obtain ⟨p, hp⟩ : ∃ p, p = pickI o.a n := ⟨_, rfl⟩
  have hpn : p < n := by rw [hp]; exact pickI_lt _ _ hI.pos
  have i1 : (0 : Int) ≤ (p : Int) := by omega
  have i2 : (p : Int) < (n : Int) := by omega
  rw [← hp] at HPK
  have HP := hid hp
  have HKD := hid hk
  clear hp hI
  obtain ⟨A, hA⟩ : ∃ A, A = w.heap.size := ⟨_, rfl⟩
  unfold opV opC
  rw [hk]
  go_enter Tryz.func9, Tryz.ntmps9
  go_upto_region 1 with fail
  rw [← hA]
  have HO1 : Hid (BlkO (w.alloc (.cells (opC o) 39)) A o) := by show BlkO _ _ _; rw [hA]; exact BlkO.new w o
  have hk1 : Below w.heap.size w (w.alloc (.cells (opC o) 39)) := (Below.refl _ _).alloc (Nat.le_refl _) _
  unfold opC at HO1 hk1
  rw [hk] at HO1 hk1
  generalize World.alloc w _ = w1 at *
  generalize Value.agg _ = OV
  have cO1 : w1.cell? ⟨A, 1, none⟩ = some (.int .i64 o.a) := HO1.out.cell 1 _ rfl
  have cW := cell_kept HI.out.top hk1
  have cR : w1.cell? ⟨g, p, none⟩ = some (.pointer (some ⟨s.L, 0, none⟩)) := by rw [HP.out]; exact cell_kept HI.out.row hk1
  have HAW : Hid (w.heap.size ≤ A) := by show _ ≤ _; rw [hA]; exact Nat.le_refl _
  clear hA hk
  go_quiet ((go_at_call 17; exact Calls.quiet_of_same (HPK.out _)))
  have hk2 := below_drewN hk1 nq
  have HO2 : Hid (BlkO (w1.drewN nq) A o) := HO1.out
  clear cO1 cW cR HPK HO1 hk1
  generalize w1.drewN nq = w2 at *
  clear i1 i2
  go_upto_region 2 with fail
  have cB : w2.cell? ⟨A, 2, none⟩ = some (.int .i64 o.b) := HO2.out.cell 2 _ rfl
  go_cut [6] from 31 to 38 (fun v wx => v = .bool (thereB o.b) ∧ wx = w2)
  case first =>
    by_cases h0 : 0 ≤ o.b
    · by_cases h1 : o.b < 64
      · have HT : Hid (thereB o.b = true) := by show _ = _; unfold thereB; rw [decide_eq_true h0, decide_eq_true h1]; rfl
        go_wp2_with fail
        go_meet
        exact ⟨by rw [HT.out], rfl⟩
      · have HT : Hid (thereB o.b = false) := by show _ = _; unfold thereB; rw [decide_eq_true h0, decide_eq_false h1]; rfl
        go_wp2_with fail
        go_meet
        exact ⟨by rw [HT.out], rfl⟩
    · have HT : Hid (thereB o.b = false) := by show _ = _; unfold thereB; rw [decide_eq_false h0]; rfl
      go_wp2_with fail
      go_meet
      exact ⟨by rw [HT.out], rfl⟩
  case rest =>
  obtain ⟨rfl, hwc⟩ := hcut
  have hwc2 := hwc.symm
  clear hwc
  subst hwc2
  have cK : w2.cell? ⟨A, 0, none⟩ = some (.int .i64 9) := by rw [← HKD.out]; exact HO2.out.cell 0 _ rfl
  have HS2 := hid (HI.out.sh.kept hk2)
  have HTB := hid (HI.out.tab.kept hk2)
  have lA : A < w2.heap.size := HO2.out.lt
  have lL : s.L < w2.heap.size := HS2.out.blk.lt
  have cS0 : w2.cell? ⟨s.L, 0, none⟩ = some (.pointer (some s.bd)) := HS2.out.blk.cell 0 _ rfl
  have cS1 : w2.cell? ⟨s.L, 1, none⟩ = some (.pointer (some s.rd)) := HS2.out.blk.cell 1 _ rfl
  obtain ⟨l, hl⟩ : ∃ l, l = pickI o.b 64 := ⟨_, rfl⟩
  have hl64 : l < 64 := by rw [hl]; exact pickI_lt _ _ (by omega)
  have HPB : Hid (∀ wz, Calls Tryz.prog 17 #[.int .i64 o.b, .int .i64 64] wz fun e w' => e = .returned (.int .i64 ((l : Nat) : Int)) ∧ w' = wz) := fun wz => by rw [hl]; exact lpick_any o.b 64 wz HI.out.o64.2.2.1 (by omega) (by omega)
  obtain ⟨X, HX⟩ : ∃ X, Hid (X = accOf s.es l) := ⟨_, rfl⟩
  have HSA : Hid (∀ wz, Below w2.heap.size w2 wz → Calls Tryz.prog 28 #[.pointer (some s.rd), .int .i64 ((l : Nat) : Int)] wz fun r w' => r = .returned (accV X) ∧ Below wz.heap.size wz w') := fun wz hz => by
    rw [HX.out]
    exact raccount_any wz s.R s.rd s.es l hl64 (HS2.out.kept hz).ref (HTB.out.kept hz)
  have H64 : Hid (Acc64 X) := by show Acc64 _; rw [HX.out]; exact accOf_64 s.es l hl64 HS2.out.good
  unfold accV at HSA
  clear cS0 hl HX
  go_upto_region 28 with fail
  go_cut [15] from 166 to 173 (fun v wx => ∃ M, v = .pointer (some ⟨M, 0, none⟩) ∧ Hid (BlkA wx M X) ∧ Hid (w2.heap.size ≤ M) ∧ Below w2.heap.size w2 wx)
  case first =>
    go_region_held3 (fun w' => w'.cell? ⟨s.L, 1, none⟩ = some (.pointer (some s.rd)) ∧ w'.cell? ⟨A, 2, none⟩ = some (.int .i64 o.b) ∧ Below w2.heap.size w2 w') ((first | with_reducible exact ⟨cell_kept cS1 (chain_below hk5 HMB), cell_kept cB (chain_below hk5 HMB), chain_below hk5 HMB⟩ | with_reducible exact ⟨cell_kept cS1 hk5, cell_kept cB hk5, hk5⟩ | with_reducible exact ⟨cell_kept cS1 (hk5.alloc hk5.size _), cell_kept cB (hk5.alloc hk5.size _), hk5.alloc hk5.size _⟩ | with_reducible exact ⟨drew_cell cS1, drew_cell cB, drew_below _⟩ | with_reducible exact ⟨cell_kept cS1 (drew_alloc _ _), cell_kept cB (drew_alloc _ _), drew_alloc _ _⟩)) (first | (go_at_call 17; refine (HPB.out _).mono ?_; rintro ee w4 ⟨rfl, rfl⟩) | (go_at_call 28; refine (HSA.out _ (by go_split_ands; assumption)).mono ?_; rintro ee w5 ⟨rfl, hb5⟩; have hk5 : Below w2.heap.size w2 w5 := (by go_split_ands; exact kept (by assumption) hb5); (first | (have HM : BlkA w5 _ zA := (by first | with_reducible exact BlkA.kept (BlkA.new0 _) hb5 | with_reducible exact BlkA.kept (BlkA.drewA (BlkA.new0 _)) hb5); have HMB := ge_of (w1 := w2) HM (by first | with_reducible exact Below.refl _ _ | with_reducible exact (Below.refl _ _).drew | assumption); obtain ⟨y0, y1, y2, y3, y4, y5, y6, y7, y8, y9, y10, y11, y12, y13, y14, g0, g1, g2, g3, g4, g5, g6, g7, g8, g9, g10, g11, g12, g13, g14⟩ := HM.zs; skip) | skip)))
    all_goals go_step
    all_goals go_step
    all_goals go_meet
    · obtain ⟨M, h1, _, h2⟩ := ac_meet1 (E := .bool true) X hk5
      exact ⟨M, h1, h2⟩
    all_goals (obtain ⟨M, h1, _, h2⟩ := ac_meet2 (E := .bool true) X hk5 HM HMB; exact ⟨M, h1, h2⟩)
  case rest =>
  obtain ⟨M, rfl, HM, HMB, hb3⟩ := hcut
  obtain ⟨w3, hw3⟩ : ∃ w3, w3 = wc := ⟨_, rfl⟩
  subst hw3
  have HS3 := hid (HS2.out.kept hb3)
  have HO3 := hid (HO2.out.kept hb3)
  have l3 : M < w3.heap.size := lt_of_block HM.out
  have l2 : A < w3.heap.size := HO3.out.lt
  have l1 : s.L < w3.heap.size := HS3.out.blk.lt
  have hne : ¬ A = M := by have := HMB.out; have := HO2.out.lt; omega
  have hne2 : ¬ M = A := fun h => hne h.symm
  obtain ⟨T, HT⟩ : ∃ T, Hid (T = o.acc.st) := ⟨_, rfl⟩
  have t0 : w3.cell? ⟨A, 8, none⟩ = some (.int .i64 T.principal) := by rw [HT.out]; exact HO3.out.cell 8 _ rfl
  have t1 : w3.cell? ⟨A, 9, none⟩ = some (.int .i64 T.due) := by rw [HT.out]; exact HO3.out.cell 9 _ rfl
  have t2 : w3.cell? ⟨A, 10, none⟩ = some (.int .i64 T.rate) := by rw [HT.out]; exact HO3.out.cell 10 _ rfl
  have t3 : w3.cell? ⟨A, 11, none⟩ = some (.int .i64 T.day) := by rw [HT.out]; exact HO3.out.cell 11 _ rfl
  have t4 : w3.cell? ⟨A, 12, none⟩ = some (.int .i64 T.spare) := by rw [HT.out]; exact HO3.out.cell 12 _ rfl
  have t5 : w3.cell? ⟨A, 13, none⟩ = some (.int .i64 T.count) := by rw [HT.out]; exact HO3.out.cell 13 _ rfl
  have z0 : w3.cell? ⟨M, 0, none⟩ = some (.int .i64 X.loan) := HM.out.cell 0 _ rfl
  have z1 : w3.cell? ⟨M, 1, none⟩ = some (.int .i64 X.st.principal) := HM.out.cell 1 _ rfl
  have z2 : w3.cell? ⟨M, 2, none⟩ = some (.int .i64 X.st.due) := HM.out.cell 2 _ rfl
  have z3 : w3.cell? ⟨M, 3, none⟩ = some (.int .i64 X.st.rate) := HM.out.cell 3 _ rfl
  have z4 : w3.cell? ⟨M, 4, none⟩ = some (.int .i64 X.st.day) := HM.out.cell 4 _ rfl
  have z5 : w3.cell? ⟨M, 5, none⟩ = some (.int .i64 X.st.spare) := HM.out.cell 5 _ rfl
  have z6 : w3.cell? ⟨M, 6, none⟩ = some (.int .i64 X.st.count) := HM.out.cell 6 _ rfl
  have z7 : w3.cell? ⟨M, 7, none⟩ = some (.int .i64 X.size) := HM.out.cell 7 _ rfl
  have z8 : w3.cell? ⟨M, 8, none⟩ = some (.int .i64 X.log) := HM.out.cell 8 _ rfl
  have z9 : w3.cell? ⟨M, 9, none⟩ = some (.int .i64 X.p0) := HM.out.cell 9 _ rfl
  have z10 : w3.cell? ⟨M, 10, none⟩ = some (.int .i64 X.p1) := HM.out.cell 10 _ rfl
  have z11 : w3.cell? ⟨M, 11, none⟩ = some (.int .i64 X.p2) := HM.out.cell 11 _ rfl
  have z12 : w3.cell? ⟨M, 12, none⟩ = some (.int .i64 X.p3) := HM.out.cell 12 _ rfl
  have z13 : w3.cell? ⟨M, 13, none⟩ = some (.int .i64 X.p4) := HM.out.cell 13 _ rfl
  have z14 : w3.cell? ⟨M, 14, none⟩ = some (.int .i64 X.p5) := HM.out.cell 14 _ rfl
  have g1 := HM.out.free 1
  have g2 := HM.out.free 2
  have g3 := HM.out.free 3
  have g4 := HM.out.free 4
  have g5 := HM.out.free 5
  have g6 := HM.out.free 6
  obtain ⟨w0, ht0, hb0, hL0⟩ := HI.out.base
  have HT0 := hid ht0
  have HB0 := hid hb0
  have HL0 : Hid (w0.heap.size ≤ s.L) := hL0
  clear cS1 cB cK lA lL HSA ht0 hb0 hL0
  go_upto_region 30 with fail
  have HM4 := hid (HM.out.withSt T)
  have HB4 := hid (six_below1 (t := T) hb3 HMB.out)
  generalize World.setCell (World.setCell _ _ _) ⟨M, 6, none⟩ _ = w4 at *
  clear t0 t1 t2 t3 t4 t5 z0 z1 z2 z3 z4 z5 z6 z7 z8 z9 z10 z11 z12 z13 z14 g1 g2 g3 g4 g5 g6 hb3 l1 l2 l3 HM hne hne2
  obtain ⟨Y, hY⟩ : ∃ Y, Y = Go.Proofs.YtedblhcehlbbmaaGreatDoor.withSt X T := ⟨_, rfl⟩
  have HY : Hid (Acc64 Y) := by show Acc64 _; rw [hY, HT.out]; exact withSt_64 H64.out HI.out.o64.2.2.2.2
  rw [← hY] at HM4
  have HS4 := hid (HS2.out.kept HB4.out)
  have HK4 := hid (kept hk2 HB4.out)
  have l1 : s.L < w4.heap.size := HS4.out.blk.lt
  have l3 : M < w4.heap.size := lt_of_block HM4.out
  have z0 : w4.cell? ⟨M, 0, none⟩ = some (.int .i64 Y.loan) := HM4.out.cell 0 _ rfl
  have z1 : w4.cell? ⟨M, 1, none⟩ = some (.int .i64 Y.st.principal) := HM4.out.cell 1 _ rfl
  have z2 : w4.cell? ⟨M, 2, none⟩ = some (.int .i64 Y.st.due) := HM4.out.cell 2 _ rfl
  have z3 : w4.cell? ⟨M, 3, none⟩ = some (.int .i64 Y.st.rate) := HM4.out.cell 3 _ rfl
  have z4 : w4.cell? ⟨M, 4, none⟩ = some (.int .i64 Y.st.day) := HM4.out.cell 4 _ rfl
  have z5 : w4.cell? ⟨M, 5, none⟩ = some (.int .i64 Y.st.spare) := HM4.out.cell 5 _ rfl
  have z6 : w4.cell? ⟨M, 6, none⟩ = some (.int .i64 Y.st.count) := HM4.out.cell 6 _ rfl
  have z7 : w4.cell? ⟨M, 7, none⟩ = some (.int .i64 Y.size) := HM4.out.cell 7 _ rfl
  have z8 : w4.cell? ⟨M, 8, none⟩ = some (.int .i64 Y.log) := HM4.out.cell 8 _ rfl
  have z9 : w4.cell? ⟨M, 9, none⟩ = some (.int .i64 Y.p0) := HM4.out.cell 9 _ rfl
  have z10 : w4.cell? ⟨M, 10, none⟩ = some (.int .i64 Y.p1) := HM4.out.cell 10 _ rfl
  have z11 : w4.cell? ⟨M, 11, none⟩ = some (.int .i64 Y.p2) := HM4.out.cell 11 _ rfl
  have z12 : w4.cell? ⟨M, 12, none⟩ = some (.int .i64 Y.p3) := HM4.out.cell 12 _ rfl
  have z13 : w4.cell? ⟨M, 13, none⟩ = some (.int .i64 Y.p4) := HM4.out.cell 13 _ rfl
  have z14 : w4.cell? ⟨M, 14, none⟩ = some (.int .i64 Y.p5) := HM4.out.cell 14 _ rfl
  have HLL := hid (lieLaw_any w4 s.S s.R s.L s.bd s.rd s.es s.q s.a s.x s.y Y HS4.out.blk HS4.out.book HS4.out.ref HS4.out.nS HS4.out.nR HS4.out.ask HY.out w0 HT0.out (HB0.out.trans (HK4.out.mono HB0.out.size)) HL0.out)
  unfold accV at HLL
  clear hY
  go_wp2_with fail
  refine HLL.out.mono ?_
  rintro ee w6 ⟨rfl, ⟨q', a', x', y', hB', hQ'⟩, hbs⟩
  have HFI := hid (AskedOk.of_lie HS4.out HK4.out hB' hQ' hbs)
  clear hB' hQ' hbs HLL z0 z1 z2 z3 z4 z5 z6 z7 z8 z9 z10 z11 z12 z13 z14
  go_wp2_with fail
  go_ret
  exact ⟨rfl, HFI.out⟩

end Go.Proofs.YtedblhcehlbbmaaGreatDoor

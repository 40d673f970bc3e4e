import Derived.Test.YtedblhcehlbbmaaGreatDoorJSpecWorld
import Derived.WalkKit
import Derived.WalkSpells
import Derived.WalkLawsBesides
import Derived.Deep.RegionHeld3
import Derived.Deep.QuietTactic
import Derived.BigQuiet
import Derived.Deep.Cut
import Derived.Deep.CutRange
import Derived.Deep.CutBlock
/-
  A QUERY OF A BOOK: lenderlaw.World.asked: Account.
-/
namespace Go.Proofs.YtedblhcehlbbmaaGreatDoor
set_option maxRecDepth 20000
open Go.RowKit

attribute [local go_sem ↓] run_eql_acc run_eql_zA

set_option maxHeartbeats 8000000 in
theorem asked_account (w : World) (Wb g n cap : Nat) (o : OpI) (s : Shf) (hI : AskIn w Wb g n cap o s) (hk : o.kind = 7) (hth : thereB o.b = true) :
    Calls Tryz.prog 9 #[.pointer (some ⟨Wb, 0, none⟩), opV o] w fun r w' => r = .returned (.bool true) ∧ AskedOk w s w' := by
  have HI := hid hI
  have hn1 := hI.few
  have hn0 := hI.pos
  have HPK : Hid (∀ wz, Calls Tryz.prog 17 #[.int .i64 o.a, .int .i64 (n : Int)] wz fun e w' => e = .returned (.int .i64 ((pickI o.a n : Nat) : Int)) ∧ w' = wz) := fun wz => lpick_any o.a n wz hI.o64.2.1 hI.pos (by have := hI.few; omega)
  obtain ⟨p, hp⟩ : ∃ p, p = pickI o.a n := ⟨_, rfl⟩
  have hpn : p < n := by rw [hp]; exact pickI_lt _ _ hI.pos
  have i1 : (0 : Int) ≤ (p : Int) := by omega
  have i2 : (p : Int) < (n : Int) := by omega
  rw [← hp] at HPK
  have HP := hid hp
  have HKD := hid hk
  clear hp hI
  obtain ⟨A, hA⟩ : ∃ A, A = w.heap.size := ⟨_, rfl⟩
  unfold opV opC
  rw [hk]
  go_enter Tryz.func9, Tryz.ntmps9
  go_upto_region 1 with fail
  rw [← hA]
  have HO1 : Hid (BlkO (w.alloc (.cells (opC o) 39)) A o) := by show BlkO _ _ _; rw [hA]; exact BlkO.new w o
  have hk1 : Below w.heap.size w (w.alloc (.cells (opC o) 39)) := (Below.refl _ _).alloc (Nat.le_refl _) _
  unfold opC at HO1 hk1
  rw [hk] at HO1 hk1
  generalize World.alloc w _ = w1 at *
  generalize Value.agg _ = OV
  have cO1 : w1.cell? ⟨A, 1, none⟩ = some (.int .i64 o.a) := HO1.out.cell 1 _ rfl
  have cW := cell_kept HI.out.top hk1
  have cR : w1.cell? ⟨g, p, none⟩ = some (.pointer (some ⟨s.L, 0, none⟩)) := by rw [HP.out]; exact cell_kept HI.out.row hk1
  have HAW : Hid (w.heap.size ≤ A) := by show _ ≤ _; rw [hA]; exact Nat.le_refl _
  clear hA hk
  go_quiet ((go_at_call 17; exact Calls.quiet_of_same (HPK.out _)))
  have hk2 := below_drewN hk1 nq
  have HO2 : Hid (BlkO (w1.drewN nq) A o) := HO1.out
  clear cO1 cW cR HPK HO1 hk1
  generalize w1.drewN nq = w2 at *
  clear i1 i2
  go_upto_region 2 with fail
  have cB : w2.cell? ⟨A, 2, none⟩ = some (.int .i64 o.b) := HO2.out.cell 2 _ rfl
  go_cut [6] from 31 to 38 (fun v wx => v = .bool (thereB o.b) ∧ wx = w2)
  case first =>
    by_cases h0 : 0 ≤ o.b
    · by_cases h1 : o.b < 64
      · have HT : Hid (thereB o.b = true) := by show _ = _; unfold thereB; rw [decide_eq_true h0, decide_eq_true h1]; rfl
        go_wp2_with fail
        go_meet
        exact ⟨by rw [HT.out], rfl⟩
      · have HT : Hid (thereB o.b = false) := by show _ = _; unfold thereB; rw [decide_eq_true h0, decide_eq_false h1]; rfl
        go_wp2_with fail
        go_meet
        exact ⟨by rw [HT.out], rfl⟩
    · have HT : Hid (thereB o.b = false) := by show _ = _; unfold thereB; rw [decide_eq_false h0]; rfl
      go_wp2_with fail
      go_meet
      exact ⟨by rw [HT.out], rfl⟩
  case rest =>
  obtain ⟨rfl, hwc⟩ := hcut
  have hwc2 := hwc.symm
  clear hwc
  subst hwc2
  have cK : w2.cell? ⟨A, 0, none⟩ = some (.int .i64 7) := by rw [← HKD.out]; exact HO2.out.cell 0 _ rfl
  have HS2 := hid (HI.out.sh.kept hk2)
  have HTB := hid (HI.out.tab.kept hk2)
  have lA : A < w2.heap.size := HO2.out.lt
  have lL : s.L < w2.heap.size := HS2.out.blk.lt
  have cS0 : w2.cell? ⟨s.L, 0, none⟩ = some (.pointer (some s.bd)) := HS2.out.blk.cell 0 _ rfl
  have cS1 : w2.cell? ⟨s.L, 1, none⟩ = some (.pointer (some s.rd)) := HS2.out.blk.cell 1 _ rfl
  have HSA : Hid (∀ wz, Below w2.heap.size w2 wz → Calls Tryz.prog 27 #[.pointer (some s.bd), .int .i64 o.b] wz fun r w' => r = .returned (.tuple #[accV (if 0 ≤ o.b ∧ o.b ≤ 63 then accOf s.es o.b.toNat else zA), .int .i64 (if 0 ≤ o.b ∧ o.b ≤ 63 then 0 else 1)]) ∧ Below wz.heap.size wz w') := fun wz hz => account_any wz s.S _ s.es o.b (HS2.out.kept hz).book (HTB.out.kept hz)
  rw [hth]
  have HBR : Hid (0 ≤ o.b ∧ o.b ≤ 63) := thereB_true hth
  rw [if_pos HBR.out, if_pos HBR.out] at HSA
  obtain ⟨X, HX⟩ : ∃ X, Hid (X = accOf s.es o.b.toNat) := ⟨_, rfl⟩
  rw [← HX.out] at HSA
  clear hth
  unfold accV at HSA
  clear cS1
  go_upto_region 21 with fail
  go_cut [13, 14] from 126 to 135 (fun v e wx => ∃ M, v = .pointer (some ⟨M, 0, none⟩) ∧ e = .int .i64 0 ∧ Hid (BlkA wx M X) ∧ Hid (w2.heap.size ≤ M) ∧ Below w2.heap.size w2 wx)
  case first =>
    go_region_held3 (fun w' => w'.cell? ⟨s.L, 0, none⟩ = some (.pointer (some s.bd)) ∧ w'.cell? ⟨A, 2, none⟩ = some (.int .i64 o.b) ∧ Below w2.heap.size w2 w') ((first | with_reducible exact ⟨cell_kept cS0 (chain_below hk5 HMB), cell_kept cB (chain_below hk5 HMB), chain_below hk5 HMB⟩ | with_reducible exact ⟨cell_kept cS0 hk5, cell_kept cB hk5, hk5⟩ | with_reducible exact ⟨cell_kept cS0 (hk5.alloc hk5.size _), cell_kept cB (hk5.alloc hk5.size _), hk5.alloc hk5.size _⟩ | with_reducible exact ⟨drew_cell cS0, drew_cell cB, drew_below _⟩ | with_reducible exact ⟨cell_kept cS0 (drew_alloc _ _), cell_kept cB (drew_alloc _ _), drew_alloc _ _⟩)) (first | (go_at_call 27; refine (HSA.out _ (by go_split_ands; assumption)).mono ?_; rintro ee w5 ⟨rfl, hb5⟩; have hk5 : Below w2.heap.size w2 w5 := (by go_split_ands; exact kept (by assumption) hb5); (first | (have HM : BlkA w5 _ zA := (by first | with_reducible exact BlkA.kept (BlkA.new0 _) hb5 | with_reducible exact BlkA.kept (BlkA.drewA (BlkA.new0 _)) hb5); have HMB := ge_of (w1 := w2) HM (by first | with_reducible exact Below.refl _ _ | with_reducible exact (Below.refl _ _).drew | assumption); obtain ⟨y0, y1, y2, y3, y4, y5, y6, y7, y8, y9, y10, y11, y12, y13, y14, g0, g1, g2, g3, g4, g5, g6, g7, g8, g9, g10, g11, g12, g13, g14⟩ := HM.zs; skip) | skip)))
    all_goals go_step
    all_goals go_step
    all_goals go_meet
    · exact ac_meet1 X hk5
    all_goals exact ac_meet2 X hk5 HM HMB
  case rest =>
  obtain ⟨M, rfl, rfl, HM, _, hb3⟩ := hcut
  obtain ⟨w3, hw3⟩ : ∃ w3, w3 = wc := ⟨_, rfl⟩
  subst hw3
  have HS3 := hid (HS2.out.kept hb3)
  have HO3 := hid (HO2.out.kept hb3)
  have HT3 := hid (HTB.out.kept hb3)
  have HB3 := hid (kept hk2 hb3)
  have l3 : M < w3.heap.size := lt_of_block HM.out
  clear hb3 cS0 cB cK lA lL HSA
  have c1 : w3.cell? ⟨s.L, 1, none⟩ = some (.pointer (some s.rd)) := HS3.out.blk.cell 1 _ rfl
  have cB3 : w3.cell? ⟨A, 2, none⟩ = some (.int .i64 o.b) := HO3.out.cell 2 _ rfl
  have HRS : Hid (∀ wz, Below w3.heap.size w3 wz → Calls Tryz.prog 28 #[.pointer (some s.rd), .int .i64 o.b] wz fun r w' => r = .returned (accV X) ∧ Below wz.heap.size wz w') := fun wz hz => by
    have h := raccount_any wz s.R s.rd s.es o.b.toNat (by have := HBR.out; omega) (HS3.out.kept hz).ref (HT3.out.kept hz)
    rw [Int.toNat_of_nonneg HBR.out.1] at h
    rw [HX.out]; exact h
  unfold accV at HRS
  have l1 : s.L < w3.heap.size := HS3.out.blk.lt
  have l2 : A < w3.heap.size := HO3.out.lt
  have z0 : w3.cell? ⟨M, 0, none⟩ = some (.int .i64 X.loan) := HM.out.cell 0 _ rfl
  have z1 : w3.cell? ⟨M, 1, none⟩ = some (.int .i64 X.st.principal) := HM.out.cell 1 _ rfl
  have z2 : w3.cell? ⟨M, 2, none⟩ = some (.int .i64 X.st.due) := HM.out.cell 2 _ rfl
  have z3 : w3.cell? ⟨M, 3, none⟩ = some (.int .i64 X.st.rate) := HM.out.cell 3 _ rfl
  have z4 : w3.cell? ⟨M, 4, none⟩ = some (.int .i64 X.st.day) := HM.out.cell 4 _ rfl
  have z5 : w3.cell? ⟨M, 5, none⟩ = some (.int .i64 X.st.spare) := HM.out.cell 5 _ rfl
  have z6 : w3.cell? ⟨M, 6, none⟩ = some (.int .i64 X.st.count) := HM.out.cell 6 _ rfl
  have z7 : w3.cell? ⟨M, 7, none⟩ = some (.int .i64 X.size) := HM.out.cell 7 _ rfl
  have z8 : w3.cell? ⟨M, 8, none⟩ = some (.int .i64 X.log) := HM.out.cell 8 _ rfl
  have z9 : w3.cell? ⟨M, 9, none⟩ = some (.int .i64 X.p0) := HM.out.cell 9 _ rfl
  have z10 : w3.cell? ⟨M, 10, none⟩ = some (.int .i64 X.p1) := HM.out.cell 10 _ rfl
  have z11 : w3.cell? ⟨M, 11, none⟩ = some (.int .i64 X.p2) := HM.out.cell 11 _ rfl
  have z12 : w3.cell? ⟨M, 12, none⟩ = some (.int .i64 X.p3) := HM.out.cell 12 _ rfl
  have z13 : w3.cell? ⟨M, 13, none⟩ = some (.int .i64 X.p4) := HM.out.cell 13 _ rfl
  have z14 : w3.cell? ⟨M, 14, none⟩ = some (.int .i64 X.p5) := HM.out.cell 14 _ rfl
  have hself : accEq X X = true := accEq_self X
  clear HM HX
  go_upto_region 24 with fail
  go_region_held3 (fun w' => w'.cell? ⟨M, 0, none⟩ = some (.int .i64 X.loan) ∧ w'.cell? ⟨M, 1, none⟩ = some (.int .i64 X.st.principal) ∧ w'.cell? ⟨M, 2, none⟩ = some (.int .i64 X.st.due) ∧ w'.cell? ⟨M, 3, none⟩ = some (.int .i64 X.st.rate) ∧ w'.cell? ⟨M, 4, none⟩ = some (.int .i64 X.st.day) ∧ w'.cell? ⟨M, 5, none⟩ = some (.int .i64 X.st.spare) ∧ w'.cell? ⟨M, 6, none⟩ = some (.int .i64 X.st.count) ∧ w'.cell? ⟨M, 7, none⟩ = some (.int .i64 X.size) ∧ w'.cell? ⟨M, 8, none⟩ = some (.int .i64 X.log) ∧ w'.cell? ⟨M, 9, none⟩ = some (.int .i64 X.p0) ∧ w'.cell? ⟨M, 10, none⟩ = some (.int .i64 X.p1) ∧ w'.cell? ⟨M, 11, none⟩ = some (.int .i64 X.p2) ∧ w'.cell? ⟨M, 12, none⟩ = some (.int .i64 X.p3) ∧ w'.cell? ⟨M, 13, none⟩ = some (.int .i64 X.p4) ∧ w'.cell? ⟨M, 14, none⟩ = some (.int .i64 X.p5) ∧ w'.cell? ⟨s.L, 1, none⟩ = some (.pointer (some s.rd)) ∧ w'.cell? ⟨A, 2, none⟩ = some (.int .i64 o.b)) ((go_split_ands; refine ⟨?_, ?_, ?_, ?_, ?_, ?_, ?_, ?_, ?_, ?_, ?_, ?_, ?_, ?_, ?_, ?_, ?_⟩ <;> first | (with_reducible exact drew_cellS (by assumption)) | exact cell_kept (by assumption) hb5)) (first | (go_at_call 28; refine (HRS.out _ (by exact (Below.refl _ _).drew)).mono ?_; rintro ee w5 ⟨rfl, hb5⟩))
  go_wp2_with fail
  go_ret
  exact ⟨rfl, AskedOk.of_below HI.out.sh (kept HB3.out (kept (Below.refl _ _).drew hb5))⟩

set_option maxHeartbeats 8000000 in
theorem asked_account0 (w : World) (Wb g n cap : Nat) (o : OpI) (s : Shf) (hI : AskIn w Wb g n cap o s) (hk : o.kind = 7) (hth : thereB o.b = false) :
    Calls Tryz.prog 9 #[.pointer (some ⟨Wb, 0, none⟩), opV o] w fun r w' => r = .returned (.bool true) ∧ AskedOk w s w' := by
  have HI := hid hI
  have hn1 := hI.few
  have hn0 := hI.pos
  have HPK : Hid (∀ wz, Calls Tryz.prog 17 #[.int .i64 o.a, .int .i64 (n : Int)] wz fun e w' => e = .returned (.int .i64 ((pickI o.a n : Nat) : Int)) ∧ w' = wz) := fun wz => lpick_any o.a n wz hI.o64.2.1 hI.pos (by have := hI.few; omega)
  obtain ⟨p, hp⟩ : ∃ p, p = pickI o.a n := ⟨_, rfl⟩
  have hpn : p < n := by rw [hp]; exact pickI_lt _ _ hI.pos
  have i1 : (0 : Int) ≤ (p : Int) := by omega
  have i2 : (p : Int) < (n : Int) := by omega
  rw [← hp] at HPK
  have HP := hid hp
  have HKD := hid hk
  clear hp hI
  obtain ⟨A, hA⟩ : ∃ A, A = w.heap.size := ⟨_, rfl⟩
  unfold opV opC
  rw [hk]
  go_enter Tryz.func9, Tryz.ntmps9
  go_upto_region 1 with fail
  rw [← hA]
  have HO1 : Hid (BlkO (w.alloc (.cells (opC o) 39)) A o) := by show BlkO _ _ _; rw [hA]; exact BlkO.new w o
  have hk1 : Below w.heap.size w (w.alloc (.cells (opC o) 39)) := (Below.refl _ _).alloc (Nat.le_refl _) _
  unfold opC at HO1 hk1
  rw [hk] at HO1 hk1
  generalize World.alloc w _ = w1 at *
  generalize Value.agg _ = OV
  have cO1 : w1.cell? ⟨A, 1, none⟩ = some (.int .i64 o.a) := HO1.out.cell 1 _ rfl
  have cW := cell_kept HI.out.top hk1
  have cR : w1.cell? ⟨g, p, none⟩ = some (.pointer (some ⟨s.L, 0, none⟩)) := by rw [HP.out]; exact cell_kept HI.out.row hk1
  have HAW : Hid (w.heap.size ≤ A) := by show _ ≤ _; rw [hA]; exact Nat.le_refl _
  clear hA hk
  go_quiet ((go_at_call 17; exact Calls.quiet_of_same (HPK.out _)))
  have hk2 := below_drewN hk1 nq
  have HO2 : Hid (BlkO (w1.drewN nq) A o) := HO1.out
  clear cO1 cW cR HPK HO1 hk1
  generalize w1.drewN nq = w2 at *
  clear i1 i2
  go_upto_region 2 with fail
  have cB : w2.cell? ⟨A, 2, none⟩ = some (.int .i64 o.b) := HO2.out.cell 2 _ rfl
  go_cut [6] from 31 to 38 (fun v wx => v = .bool (thereB o.b) ∧ wx = w2)
  case first =>
    by_cases h0 : 0 ≤ o.b
    · by_cases h1 : o.b < 64
      · have HT : Hid (thereB o.b = true) := by show _ = _; unfold thereB; rw [decide_eq_true h0, decide_eq_true h1]; rfl
        go_wp2_with fail
        go_meet
        exact ⟨by rw [HT.out], rfl⟩
      · have HT : Hid (thereB o.b = false) := by show _ = _; unfold thereB; rw [decide_eq_true h0, decide_eq_false h1]; rfl
        go_wp2_with fail
        go_meet
        exact ⟨by rw [HT.out], rfl⟩
    · have HT : Hid (thereB o.b = false) := by show _ = _; unfold thereB; rw [decide_eq_false h0]; rfl
      go_wp2_with fail
      go_meet
      exact ⟨by rw [HT.out], rfl⟩
  case rest =>
  obtain ⟨rfl, hwc⟩ := hcut
  have hwc2 := hwc.symm
  clear hwc
  subst hwc2
  have cK : w2.cell? ⟨A, 0, none⟩ = some (.int .i64 7) := by rw [← HKD.out]; exact HO2.out.cell 0 _ rfl
  have HS2 := hid (HI.out.sh.kept hk2)
  have HTB := hid (HI.out.tab.kept hk2)
  have lA : A < w2.heap.size := HO2.out.lt
  have lL : s.L < w2.heap.size := HS2.out.blk.lt
  have cS0 : w2.cell? ⟨s.L, 0, none⟩ = some (.pointer (some s.bd)) := HS2.out.blk.cell 0 _ rfl
  have cS1 : w2.cell? ⟨s.L, 1, none⟩ = some (.pointer (some s.rd)) := HS2.out.blk.cell 1 _ rfl
  have HSA : Hid (∀ wz, Below w2.heap.size w2 wz → Calls Tryz.prog 27 #[.pointer (some s.bd), .int .i64 o.b] wz fun r w' => r = .returned (.tuple #[accV (if 0 ≤ o.b ∧ o.b ≤ 63 then accOf s.es o.b.toNat else zA), .int .i64 (if 0 ≤ o.b ∧ o.b ≤ 63 then 0 else 1)]) ∧ Below wz.heap.size wz w') := fun wz hz => account_any wz s.S _ s.es o.b (HS2.out.kept hz).book (HTB.out.kept hz)
  rw [hth]
  have HBR : Hid (¬ (0 ≤ o.b ∧ o.b ≤ 63)) := thereB_false hth
  rw [if_neg HBR.out, if_neg HBR.out] at HSA
  obtain ⟨X, HX⟩ : ∃ X, Hid (X = zA) := ⟨_, rfl⟩
  rw [← HX.out] at HSA
  clear hth
  unfold accV at HSA
  clear cS1
  go_upto_region 21 with fail
  go_cut [13, 14] from 126 to 135 (fun v e wx => ∃ M, v = .pointer (some ⟨M, 0, none⟩) ∧ e = .int .i64 1 ∧ Hid (BlkA wx M X) ∧ Hid (w2.heap.size ≤ M) ∧ Below w2.heap.size w2 wx)
  case first =>
    go_region_held3 (fun w' => w'.cell? ⟨s.L, 0, none⟩ = some (.pointer (some s.bd)) ∧ w'.cell? ⟨A, 2, none⟩ = some (.int .i64 o.b) ∧ Below w2.heap.size w2 w') ((first | with_reducible exact ⟨cell_kept cS0 (chain_below hk5 HMB), cell_kept cB (chain_below hk5 HMB), chain_below hk5 HMB⟩ | with_reducible exact ⟨cell_kept cS0 hk5, cell_kept cB hk5, hk5⟩ | with_reducible exact ⟨cell_kept cS0 (hk5.alloc hk5.size _), cell_kept cB (hk5.alloc hk5.size _), hk5.alloc hk5.size _⟩ | with_reducible exact ⟨drew_cell cS0, drew_cell cB, drew_below _⟩ | with_reducible exact ⟨cell_kept cS0 (drew_alloc _ _), cell_kept cB (drew_alloc _ _), drew_alloc _ _⟩)) (first | (go_at_call 27; refine (HSA.out _ (by go_split_ands; assumption)).mono ?_; rintro ee w5 ⟨rfl, hb5⟩; have hk5 : Below w2.heap.size w2 w5 := (by go_split_ands; exact kept (by assumption) hb5); (first | (have HM : BlkA w5 _ zA := (by first | with_reducible exact BlkA.kept (BlkA.new0 _) hb5 | with_reducible exact BlkA.kept (BlkA.drewA (BlkA.new0 _)) hb5); have HMB := ge_of (w1 := w2) HM (by first | with_reducible exact Below.refl _ _ | with_reducible exact (Below.refl _ _).drew | assumption); obtain ⟨y0, y1, y2, y3, y4, y5, y6, y7, y8, y9, y10, y11, y12, y13, y14, g0, g1, g2, g3, g4, g5, g6, g7, g8, g9, g10, g11, g12, g13, g14⟩ := HM.zs; skip) | skip)))
    all_goals go_step
    all_goals go_step
    all_goals go_meet
    · exact ac_meet1 X hk5
    all_goals exact ac_meet2 X hk5 HM HMB
  case rest =>
  obtain ⟨M, rfl, rfl, HM, _, hb3⟩ := hcut
  obtain ⟨w3, hw3⟩ : ∃ w3, w3 = wc := ⟨_, rfl⟩
  subst hw3
  have HS3 := hid (HS2.out.kept hb3)
  have HO3 := hid (HO2.out.kept hb3)
  have HT3 := hid (HTB.out.kept hb3)
  have HB3 := hid (kept hk2 hb3)
  have l3 : M < w3.heap.size := lt_of_block HM.out
  clear hb3 cS0 cB cK lA lL HSA
  have z0 : w3.cell? ⟨M, 0, none⟩ = some (.int .i64 X.loan) := HM.out.cell 0 _ rfl
  have z1 : w3.cell? ⟨M, 1, none⟩ = some (.int .i64 X.st.principal) := HM.out.cell 1 _ rfl
  have z2 : w3.cell? ⟨M, 2, none⟩ = some (.int .i64 X.st.due) := HM.out.cell 2 _ rfl
  have z3 : w3.cell? ⟨M, 3, none⟩ = some (.int .i64 X.st.rate) := HM.out.cell 3 _ rfl
  have z4 : w3.cell? ⟨M, 4, none⟩ = some (.int .i64 X.st.day) := HM.out.cell 4 _ rfl
  have z5 : w3.cell? ⟨M, 5, none⟩ = some (.int .i64 X.st.spare) := HM.out.cell 5 _ rfl
  have z6 : w3.cell? ⟨M, 6, none⟩ = some (.int .i64 X.st.count) := HM.out.cell 6 _ rfl
  have z7 : w3.cell? ⟨M, 7, none⟩ = some (.int .i64 X.size) := HM.out.cell 7 _ rfl
  have z8 : w3.cell? ⟨M, 8, none⟩ = some (.int .i64 X.log) := HM.out.cell 8 _ rfl
  have z9 : w3.cell? ⟨M, 9, none⟩ = some (.int .i64 X.p0) := HM.out.cell 9 _ rfl
  have z10 : w3.cell? ⟨M, 10, none⟩ = some (.int .i64 X.p1) := HM.out.cell 10 _ rfl
  have z11 : w3.cell? ⟨M, 11, none⟩ = some (.int .i64 X.p2) := HM.out.cell 11 _ rfl
  have z12 : w3.cell? ⟨M, 12, none⟩ = some (.int .i64 X.p3) := HM.out.cell 12 _ rfl
  have z13 : w3.cell? ⟨M, 13, none⟩ = some (.int .i64 X.p4) := HM.out.cell 13 _ rfl
  have z14 : w3.cell? ⟨M, 14, none⟩ = some (.int .i64 X.p5) := HM.out.cell 14 _ rfl
  rw [HX.out] at z0 z1 z2 z3 z4 z5 z6 z7 z8 z9 z10 z11 z12 z13 z14
  unfold zA zS at z0 z1 z2 z3 z4 z5 z6 z7 z8 z9 z10 z11 z12 z13 z14
  simp only at z0 z1 z2 z3 z4 z5 z6 z7 z8 z9 z10 z11 z12 z13 z14
  clear HM HX
  go_wp2_with fail
  go_ret
  exact ⟨rfl, AskedOk.of_below HI.out.sh HB3.out⟩

end Go.Proofs.YtedblhcehlbbmaaGreatDoor

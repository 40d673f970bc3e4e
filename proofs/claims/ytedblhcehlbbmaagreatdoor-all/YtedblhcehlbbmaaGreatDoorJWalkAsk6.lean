import Derived.Test.YtedblhcehlbbmaaGreatDoorJSpecWI
import Derived.Test.YtedblhcehlbbmaaGreatDoorWalkTakeTexts
import Derived.Test.YtedblhcehlbbmaaGreatDoorJSpecWorld
import Derived.Test.YtedblhcehlbbmaaGreatDoorWalkAsk3
import Derived.Test.YtedblhcehlbbmaaGreatDoorWalkAsk4
import Derived.WalkKit
import Derived.WalkSpells
import Derived.WalkLawsBesides
import Derived.Deep.RegionHeld3
import Derived.Deep.QuietTactic
import Derived.BigQuiet
import Derived.Deep.Cut
import Derived.Deep.CutRange
import Derived.Deep.CutBlock
import Derived.Laws.Rows
/-
  A QUERY OF A BOOK: lenderlaw.World.asked: Log.
-/
namespace Go.Proofs.YtedblhcehlbbmaaGreatDoor
set_option maxRecDepth 20000
open Go.RowKit

set_option maxHeartbeats 8000000 in
theorem asked_log (w : World) (Wb g n cap : Nat) (o : OpI) (s : Shf) (hI : AskIn w Wb g n cap o s) (w0 : World) (own : Nat → Nat) (G : Gh) (hWI : WI w0 w Wb own G) (hls : G.ls.length ≤ 1000000000000) (hk : o.kind = 5) :
    Calls Tryz.prog 9 #[.pointer (some ⟨Wb, 0, none⟩), opV o] w fun r w' => r = .returned (.bool true) ∧ ∃ own' G', WI w0 w' Wb own' G' ∧ G'.sh = G.sh ∧ G'.ls.length = G.ls.length + 1 ∧ G'.ps = G.ps := by
  have HI := hid hI
  have hn1 := hI.few
  have hn0 := hI.pos
  have HPK : Hid (∀ wz, Calls Tryz.prog 17 #[.int .i64 o.a, .int .i64 (n : Int)] wz fun e w' => e = .returned (.int .i64 ((pickI o.a n : Nat) : Int)) ∧ w' = wz) := fun wz => lpick_any o.a n wz hI.o64.2.1 hI.pos (by have := hI.few; omega)
  obtain ⟨p, hp⟩ : ∃ p, p = pickI o.a n := ⟨_, rfl⟩
  have hpn : p < n := by rw [hp]; exact pickI_lt _ _ hI.pos
  have i1 : (0 : Int) ≤ (p : Int) := by omega
  have i2 : (p : Int) < (n : Int) := by omega
  rw [← hp] at HPK
  have HP := hid hp
  have HKD := hid hk
  clear hp hI
  obtain ⟨A, hA⟩ : ∃ A, A = w.heap.size := ⟨_, rfl⟩
  unfold opV opC
  rw [hk]
  go_enter Tryz.func9, Tryz.ntmps9
  go_upto_region 1 with fail
  rw [← hA]
  have HO1 : Hid (BlkO (w.alloc (.cells (opC o) 39)) A o) := by show BlkO _ _ _; rw [hA]; exact BlkO.new w o
  have hk1 : Below w.heap.size w (w.alloc (.cells (opC o) 39)) := (Below.refl _ _).alloc (Nat.le_refl _) _
  unfold opC at HO1 hk1
  rw [hk] at HO1 hk1
  generalize World.alloc w _ = w1 at *
  generalize Value.agg _ = OV
  have cO1 : w1.cell? ⟨A, 1, none⟩ = some (.int .i64 o.a) := HO1.out.cell 1 _ rfl
  have cW := cell_kept HI.out.top hk1
  have cR : w1.cell? ⟨g, p, none⟩ = some (.pointer (some ⟨s.L, 0, none⟩)) := by rw [HP.out]; exact cell_kept HI.out.row hk1
  have HAW : Hid (w.heap.size ≤ A) := by show _ ≤ _; rw [hA]; exact Nat.le_refl _
  clear hA hk
  go_quiet ((go_at_call 17; exact Calls.quiet_of_same (HPK.out _)))
  have hk2 := below_drewN hk1 nq
  have HO2 : Hid (BlkO (w1.drewN nq) A o) := HO1.out
  clear cO1 cW cR HPK HO1 hk1
  generalize w1.drewN nq = w2 at *
  clear i1 i2
  go_upto_region 2 with fail
  have cB : w2.cell? ⟨A, 2, none⟩ = some (.int .i64 o.b) := HO2.out.cell 2 _ rfl
  go_cut [6] from 31 to 38 (fun v wx => v = .bool (thereB o.b) ∧ wx = w2)
  case first =>
    by_cases h0 : 0 ≤ o.b
    · by_cases h1 : o.b < 64
      · have HT : Hid (thereB o.b = true) := by show _ = _; unfold thereB; rw [decide_eq_true h0, decide_eq_true h1]; rfl
        go_wp2_with fail
        go_meet
        exact ⟨by rw [HT.out], rfl⟩
      · have HT : Hid (thereB o.b = false) := by show _ = _; unfold thereB; rw [decide_eq_true h0, decide_eq_false h1]; rfl
        go_wp2_with fail
        go_meet
        exact ⟨by rw [HT.out], rfl⟩
    · have HT : Hid (thereB o.b = false) := by show _ = _; unfold thereB; rw [decide_eq_false h0]; rfl
      go_wp2_with fail
      go_meet
      exact ⟨by rw [HT.out], rfl⟩
  case rest =>
  obtain ⟨rfl, hwc⟩ := hcut
  have hwc2 := hwc.symm
  clear hwc
  subst hwc2
  have cK : w2.cell? ⟨A, 0, none⟩ = some (.int .i64 5) := by rw [← HKD.out]; exact HO2.out.cell 0 _ rfl
  have HS2 := hid (HI.out.sh.kept hk2)
  have HTB := hid (HI.out.tab.kept hk2)
  have lA : A < w2.heap.size := HO2.out.lt
  have lL : s.L < w2.heap.size := HS2.out.blk.lt
  have cS0 : w2.cell? ⟨s.L, 0, none⟩ = some (.pointer (some s.bd)) := HS2.out.blk.cell 0 _ rfl
  have cS1 : w2.cell? ⟨s.L, 1, none⟩ = some (.pointer (some s.rd)) := HS2.out.blk.cell 1 _ rfl
  have HWI := hid hWI
  have HLS := hid hls
  have HGS : Hid (G.gs.length ≤ 3000000000000) := by show _ ≤ _; have := hWI.lenG; omega
  clear hWI hls
  go_wp2_with fail
  refine (log_any w2 s.S _ s.es HS2.out.book HTB.out).mono ?_
  rintro ee w3 ⟨u, rfl, hO3, hb3⟩
  have HS3 := hid (HS2.out.kept hb3)
  have HT3 := hid (HTB.out.kept hb3)
  have HB3 := hid (kept hk2 hb3)
  have HO3 := hid hO3
  have HN : Hid ((entriesB s.es).length ≤ 200) := by show _ ≤ _; rw [entriesB_len]; exact HS2.out.len
  have c1 : w3.cell? ⟨s.L, 1, none⟩ = some (.pointer (some s.rd)) := HS3.out.blk.cell 1 _ rfl
  have l3 : s.L < w3.heap.size := HS3.out.blk.lt
  have HLE : Hid (w.heap.size ≤ w2.heap.size) := hk2.size
  clear cS0 cS1 cB cK lA lL hO3 hb3 hk2
  go_wp2_with fail
  refine (rlog_any w3 s.R _ s.es HS3.out.ref HT3.out).mono ?_
  rintro ee w4 ⟨u2, rfl, hO4, hb4⟩
  have HO4 := hid (HO3.out.kept hb4)
  have HB4 := hid (kept HB3.out hb4)
  obtain ⟨a1, cp1, hu1, _, _, hs1⟩ := HO4.out.form
  obtain ⟨a2, cp2, hu2, _, _, hs2⟩ := hO4.form
  have HSM := hid (sameTexts_any (entriesB s.es).length (entriesB s.es).length a1 a2 (entriesB s.es) (entriesB s.es) cp1 cp2 w4 rfl rfl hs1 hs2 (by have := HN.out; omega) (by have := HN.out; omega))
  clear hO4 hb4 hs1 hs2 c1 l3
  subst hu1
  subst hu2
  go_wp2_with fail
  refine HSM.out.mono ?_
  rintro ee w5 ⟨rfl, hb5⟩
  rw [show sameB (entriesB s.es) (entriesB s.es) = true from decide_eq_true rfl]
  have HB5 := hid (kept HB4.out hb5)
  have HO5 := hid (HO4.out.kept hb5)
  have HW5 := hid (HWI.out.kept (own' := tagN own w.heap.size 8) HB5.out (fun k hk => tagN_old hk))
  have HTT := hid (takeTexts_any w5 (tagN own w.heap.size 8) Wb G.vb G.vl G.vg G.vp G.vy _ G.ls G.gs (entriesB s.es) HW5.out.top HW5.out.topT HW5.out.rl HW5.out.rlT HW5.out.rg HW5.out.rgT (HO5.out.mono (Nat.zero_le _)) (fun b hb => tagN_new (Nat.le_trans HLE.out (HO5.out.lt b hb).1)) (by have := HN.out; omega) HLS.out HGS.out)
  clear hb5 HSM
  go_wp2_with fail
  refine HTT.out.mono ?_
  rintro ee w6 ⟨rfl, vl, vg, g1, g2, g3, own', hTk⟩
  have HFI := hid (HW5.out.taken (by have := HN.out; omega) hTk)
  clear hTk HTT
  go_wp2_with fail
  go_ret
  exact ⟨rfl, HFI.out⟩

end Go.Proofs.YtedblhcehlbbmaaGreatDoor


/-
  A STEP OF THE SCRIPT on a book: every query and every event.
-/
namespace Go.Proofs.YtedblhcehlbbmaaGreatDoor
set_option maxRecDepth 20000
open Go.RowKit

theorem Tryz.infoOp : (Tryz.prog.info? 39).map (·.size) = some 23 := by kernel_rfl
/-- What a step leaves. -/
def StepOk (w0 : World) (Wb : Nat) (N : Nat) (w' : World) : Prop := ∃ own' G', WI w0 w' Wb own' G' ∧ Few G' (N + 1) ∧ 0 < G'.sh.length
theorem StepOk.asked {w0 w w' : World} {Wb : Nat} {own : Nat → Nat} {G : Gh} {N i : Nat} {s : Shf} (h : WI w0 w Wb own G) (hf : Few G N) (hpos : 0 < G.sh.length) (hs : G.sh[i]? = some s) (ha : AskedOk w s w') : StepOk w0 Wb N w' := by
  obtain ⟨own', G', h1, h2, h3, h4⟩ := h.asked hs ha
  obtain ⟨f1, f2, f3⟩ := hf
  exact ⟨own', G', h1, ⟨by omega, by rw [h3]; omega, by rw [h4]; omega⟩, by omega⟩
theorem asked_any (w0 w : World) (Wb : Nat) (own : Nat → Nat) (G : Gh) (o : OpI) (N : Nat) (hWI : WI w0 w Wb own G) (h64 : Op64 o) (hpos : 0 < G.sh.length) (hf : Few G N) (hN : N ≤ 1000000000000) (h2 : 2 ≤ o.kind) (h9 : o.kind ≤ 9) :
    Calls Tryz.prog 9 #[.pointer (some ⟨Wb, 0, none⟩), opV o] w fun r w' => r = .returned (.bool true) ∧ StepOk w0 Wb N w' := by
  obtain ⟨g, cap, s, hvb, hs, hI⟩ := hWI.askIn o h64 hpos (by have := hf.1; omega)
  have fin : ∀ (r : Ending) (w' : World), (r = .returned (.bool true) ∧ AskedOk w s w') → r = .returned (.bool true) ∧ StepOk w0 Wb N w' := fun r w' h => ⟨h.1, StepOk.asked hWI hf hpos hs h.2⟩
  rcases (by omega : o.kind = 2 ∨ o.kind = 3 ∨ o.kind = 4 ∨ o.kind = 5 ∨ o.kind = 6 ∨ o.kind = 7 ∨ o.kind = 8 ∨ o.kind = 9) with hk | hk | hk | hk | hk | hk | hk | hk
  · by_cases hz : addN s.es (mayB o.ev) o.ev.day = 0
    · exact (asked_add0 w Wb g _ cap o s hI hk hz).mono fin
    · exact (asked_add1 w Wb g _ cap o s hI hk hz).mono fin
  · exact (asked_size w Wb g _ cap o s hI hk).mono fin
  · cases hth : thereB o.b
    · exact (asked_state0 w Wb g _ cap o s hI hk hth).mono fin
    · exact (asked_state w Wb g _ cap o s hI hk hth).mono fin
  · refine (asked_log w Wb g _ cap o s hI w0 own G hWI (by have := hf.2.1; omega) hk).mono fun r w' h => ⟨h.1, ?_⟩
    obtain ⟨own', G', h1, h2, h3, h4⟩ := h.2
    obtain ⟨f1, f2, f3⟩ := hf
    exact ⟨own', G', h1, ⟨by rw [h2]; omega, by omega, by rw [h4]; omega⟩, by rw [h2]; exact hpos⟩
  · exact (asked_head w Wb g _ cap o s hI hk).mono fin
  · cases hth : thereB o.b
    · exact (asked_account0 w Wb g _ cap o s hI hk hth).mono fin
    · exact (asked_account w Wb g _ cap o s hI hk hth).mono fin
  · exact (asked_lie w Wb g _ cap o s hI hk).mono fin
  · exact (asked_shown w Wb g _ cap o s hI hk).mono fin

set_option maxRecDepth 20000 in
set_option maxHeartbeats 8000000 in
theorem step_idle (w0 w : World) (Wb : Nat) (own : Nat → Nat) (G : Gh) (o : OpI) (hWI : WI w0 w Wb own G) (hpos : 0 < G.sh.length) (hfew : G.sh.length ≤ 1000000000000) (h1 : ¬ o.kind = 1) (h10 : ¬ o.kind = 10) (h11 : ¬ o.kind = 11) (h12 : ¬ o.kind = 12) (hno : o.kind < 2 ∨ 9 < o.kind) :
    Calls Tryz.prog 5 #[.pointer (some ⟨Wb, 0, none⟩), opV o] w fun r w' => r = .returned (.bool true) ∧ WI w0 w' Wb own G := by
  have HWI := hid hWI
  have hl := length_shV G.sh
  obtain ⟨ab, cb, hvb, _, _⟩ := row_form hWI.rb
  have q0 : w.cell? ⟨Wb, 0, none⟩ = some (.slice ab (shV G.sh).length cb) := by rw [← hvb]; have := hWI.top; simp [World.cell?, this]
  have lW : Wb < w.heap.size := lt_of_block hWI.top
  rw [hl] at q0
  generalize G.sh.length = n at *
  have t0 : ((n : Int) == 0) = false := by simp; omega
  have t1 : (o.kind == 1) = false := by simpa using h1
  have t10 : (o.kind == 10) = false := by simpa using h10
  have t11 : (o.kind == 11) = false := by simpa using h11
  have t12 : (o.kind == 12) = false := by simpa using h12
  generalize hK : o.kind = kd at *
  have HK := hid hK
  clear hWI hvb hl h1 h10 h11 h12 hK
  unfold opV opC
  rw [HK.out]
  rcases hno with hno | hno
  · go_enter Tryz.func5, Tryz.ntmps5
    go_wp2_with fail
    go_ret
    exact ⟨rfl, HWI.out.kept ((Below.refl _ _).alloc (Nat.le_refl _) _) (fun _ _ => rfl)⟩
  · have hno2 : ¬ kd < 2 := by omega
    go_enter Tryz.func5, Tryz.ntmps5
    go_wp2_with fail
    go_ret
    exact ⟨rfl, HWI.out.kept ((Below.refl _ _).alloc (Nat.le_refl _) _) (fun _ _ => rfl)⟩

set_option maxRecDepth 20000 in
set_option maxHeartbeats 8000000 in
theorem step_asked (w0 w : World) (Wb : Nat) (own : Nat → Nat) (G : Gh) (o : OpI) (N : Nat) (hWI : WI w0 w Wb own G) (h64 : Op64 o) (hpos : 0 < G.sh.length) (hf : Few G N) (hN : N ≤ 1000000000000) (h2 : 2 ≤ o.kind) (h9 : o.kind ≤ 9) :
    Calls Tryz.prog 5 #[.pointer (some ⟨Wb, 0, none⟩), opV o] w fun r w' => r = .returned (.bool true) ∧ StepOk w0 Wb N w' := by
  have HAS : Hid (∀ wz, Below w.heap.size w wz → Calls Tryz.prog 9 #[.pointer (some ⟨Wb, 0, none⟩), opV o] wz fun r w' => r = .returned (.bool true) ∧ StepOk w0 Wb N w') := fun wz hz => asked_any w0 wz Wb own G o N (hWI.kept hz (fun _ _ => rfl)) h64 hpos hf hN h2 h9
  have hl := length_shV G.sh
  obtain ⟨ab, cb, hvb, _, _⟩ := row_form hWI.rb
  have q0 : w.cell? ⟨Wb, 0, none⟩ = some (.slice ab (shV G.sh).length cb) := by rw [← hvb]; have := hWI.top; simp [World.cell?, this]
  have lW : Wb < w.heap.size := lt_of_block hWI.top
  have hfew : G.sh.length ≤ 1000000000000 := by have := hf.1; omega
  rw [hl] at q0
  generalize G.sh.length = n at *
  have t0 : ((n : Int) == 0) = false := by simp; omega
  have t1 : (o.kind == 1) = false := by simp; omega
  have t10 : (o.kind == 10) = false := by simp; omega
  have t11 : (o.kind == 11) = false := by simp; omega
  have t12 : (o.kind == 12) = false := by simp; omega
  have t2 : ¬ o.kind < 2 := by omega
  have t9 : ¬ 9 < o.kind := by omega
  clear hWI hvb hl hf h64
  obtain ⟨A, hA⟩ : ∃ A, A = w.heap.size := ⟨_, rfl⟩
  unfold opV at HAS
  unfold opV opC
  go_enter Tryz.func5, Tryz.ntmps5
  go_upto_region 1 with fail
  rw [← hA]
  have HO1 : Hid (BlkO (w.alloc (.cells (opC o) 39)) A o) := by show BlkO _ _ _; rw [hA]; exact BlkO.new w o
  have hk1 : Below w.heap.size w (w.alloc (.cells (opC o) 39)) := (Below.refl _ _).alloc (Nat.le_refl _) _
  unfold opC at HO1 hk1
  generalize World.alloc w _ = w1 at *
  generalize Value.agg _ = OV
  have cK : w1.cell? ⟨A, 0, none⟩ = some (.int .i64 o.kind) := HO1.out.cell 0 _ rfl
  have cW := cell_kept q0 hk1
  have lA : A < w1.heap.size := HO1.out.lt
  clear q0 lW hA
  go_upto_region 14 with fail
  clear cK cW t0 t1 t2 t9 t10 t11 t12
  go_wp2_with (refine wpList_load_row rfl 39 (.tmp 3) rfl A rfl 39 (opC o) (0, 0) _ HO1.out Tryz.underlying39 rfl Tryz.infoOp ?_)
  refine (HAS.out _ hk1).mono ?_
  rintro ee w3 ⟨rfl, h3⟩
  have H3 := hid h3
  clear h3
  go_wp2_with fail
  go_ret
  exact ⟨rfl, H3.out⟩

end Go.Proofs.YtedblhcehlbbmaaGreatDoor

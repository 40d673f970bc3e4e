import Derived.Test.YtedblhcehlbbmaaGreatDoorJWalkRefLog
import Derived.Test.YtedblhcehlbbmaaGreatDoorJWalkLoans
import Derived.WalkKit
import Derived.WalkSpells
import Derived.WalkLawsBesides
import Derived.Deep.Cut
import Derived.Deep.CutRange
import Derived.Deep.CutBlock
/-
  THE DOCUMENT's BOOK: lenderref.State.
-/
namespace Go.Proofs.YtedblhcehlbbmaaGreatDoor
set_option maxRecDepth 20000
open Go.RowKit

theorem use_exit (t : St) (hD : useD t = 0) (hP : 0 ≤ t.principal) (hS : 0 ≤ t.spare) (h : ¬ 0 < t.principal ∨ ¬ 1000000 ≤ t.spare) : useS t = t := by
  have hu : useU t = 0 := by
    unfold useU
    rw [hD]
    split <;> omega
  unfold useS
  rw [hu, hD]
  cases t
  simp
theorem use_step (t : St) (u : Int) (hD : useD t = 0) (hP : 0 ≤ t.principal) (hS : 0 ≤ t.spare) (hu : u = if t.principal < t.spare / 1000000 then t.principal else t.spare / 1000000) :
    useS ⟨t.principal - u, t.due, t.rate, t.day, t.spare - u * 1000000, t.count⟩ = useS t ∧ useD ⟨t.principal - u, t.due, t.rate, t.day, t.spare - u * 1000000, t.count⟩ = 0 := by
  have hu2 : useU t = u := by unfold useU; rw [hD, hu, Int.sub_zero]
  have hu0 : 0 ≤ u ∧ u ≤ t.principal ∧ u * 1000000 ≤ t.spare := by split at hu <;> omega
  have hD2 : useD ⟨t.principal - u, t.due, t.rate, t.day, t.spare - u * 1000000, t.count⟩ = 0 := by
    unfold useD at *
    simp only
    split at hD <;> split <;> omega
  refine ⟨?_, hD2⟩
  rw [use_exit _ hD2 (by show 0 ≤ t.principal - u; omega) (by show 0 ≤ t.spare - u * 1000000; omega) (by show ¬ 0 < t.principal - u ∨ ¬ 1000000 ≤ t.spare - u * 1000000; split at hu <;> omega)]
  unfold useS
  rw [hu2, hD, Int.sub_zero, Int.sub_zero]
theorem use_less (t : St) (h : t.spare < t.due) (hP : 0 ≤ t.principal) : useS ⟨t.principal, t.due - t.spare, t.rate, t.day, 0, t.count⟩ = useS t ∧ useD ⟨t.principal, t.due - t.spare, t.rate, t.day, 0, t.count⟩ = 0 := by
  have hD : useD t = t.spare := by unfold useD; rw [if_pos h]
  have hD2 : useD ⟨t.principal, t.due - t.spare, t.rate, t.day, 0, t.count⟩ = 0 := by unfold useD; simp only; split <;> omega
  refine ⟨?_, hD2⟩
  rw [use_exit _ hD2 hP (Int.le_refl _) (.inr (by show ¬ (1000000 : Int) ≤ 0; omega))]
  have hu : useU t = 0 := by unfold useU; rw [hD]; split <;> omega
  unfold useS
  rw [hD, hu]
  simp
theorem use_more (t : St) (h : ¬ t.spare < t.due) : useS ⟨t.principal, 0, t.rate, t.day, t.spare - t.due, t.count⟩ = useS t ∧ useD ⟨t.principal, 0, t.rate, t.day, t.spare - t.due, t.count⟩ = 0 := by
  have hD : useD t = t.due := by unfold useD; rw [if_neg h]
  have hD2 : useD ⟨t.principal, 0, t.rate, t.day, t.spare - t.due, t.count⟩ = 0 := by unfold useD; simp only; split <;> omega
  refine ⟨?_, hD2⟩
  have e1 : useU ⟨t.principal, 0, t.rate, t.day, t.spare - t.due, t.count⟩ = useU t := by unfold useU; rw [hD2, hD]; simp only [Int.sub_zero]
  unfold useS
  rw [e1, hD, hD2]
  simp
theorem Blk.skip {w : World} {L M i : Nat} {s : St} {v : Value} (h : Blk w L s) (hne : L ≠ M) : Blk (w.setCell ⟨M, i, none⟩ v) L s := h.of (Below.heap_setCell _ _ _ _ hne)
/-- The principal in a state's block. -/
def prinAt (w : World) (L : Nat) : Nat := (intOf ((w.cell? ⟨L, 0, none⟩).getD undef)).toNat
theorem prinAt_blk {w : World} {L : Nat} {s : St} (h : Blk w L s) : prinAt w L = s.principal.toNat := by
  unfold prinAt
  rw [h.six.1]; rfl

set_option maxRecDepth 20000 in
set_option maxHeartbeats 8000000 in
theorem rstateB_any (w : World) (S : Nat → Prop) (v : Value) (es : List Ev) (loan : Int) (h : RRep w S v es) :
    Calls Tryz.prog 20 #[v, .int .i64 loan] w fun r w' => r = .returned (stV (stOf es loan)) ∧ Below w.heap.size w w' := by
  obtain ⟨p, u, rfl, hp, hu, _, hg, _⟩ := h
  obtain ⟨a, cap, rfl, _, _, hE, hlt⟩ := hu.form
  have hpl := lt_of_block hp
  have HP : Hid (∀ wz, Below w.heap.size w wz → wz.cell? ⟨p, 0, none⟩ = some (.slice a es.length cap)) := fun wz hz => cell_kept (cell_one hp) hz
  have HS := hid hE; have HLT := hid hlt; have HG := hid hg
  obtain ⟨n, hn⟩ : ∃ n, n = es.length := ⟨_, rfl⟩
  have h200 : n ≤ 200 := by rw [hn]; exact hg.1
  have HN : Hid (es.length = n) := hn.symm
  rw [← hn] at HP
  clear hp hu hg hE hlt hn
  go_enter Tryz.func20, Tryz.ntmps20
  go_wp2_with fail
  obtain ⟨L1, hL1⟩ : ∃ L, L = w.heap.size := ⟨_, rfl⟩
  have HB0 := hid (Blk.new (w.alloc (.cells #[.int .i64 zS.principal, .int .i64 zS.due, .int .i64 zS.rate, .int .i64 zS.day, .int .i64 zS.spare, .int .i64 zS.count] 33)) zS)
  have HB1 : Hid (Blk ((w.alloc (.cells #[.int .i64 zS.principal, .int .i64 zS.due, .int .i64 zS.rate, .int .i64 zS.day, .int .i64 zS.spare, .int .i64 zS.count] 33)).alloc (.cells #[.int .i64 zS.principal, .int .i64 zS.due, .int .i64 zS.rate, .int .i64 zS.day, .int .i64 zS.spare, .int .i64 zS.count] 33)) L1 zS) := by
    show Blk _ _ _
    rw [hL1]
    exact (Blk.new w zS).of (Below.heap_alloc _ _ _ (by simp))
  rw [show (w.alloc (.cells #[.int .i64 zS.principal, .int .i64 zS.due, .int .i64 zS.rate, .int .i64 zS.day, .int .i64 zS.spare, .int .i64 zS.count] 33)).heap.size = L1 + 1 by simp [hL1]] at HB0
  rw [← hL1]
  have HLL : Hid (w.heap.size ≤ L1) := by show _ ≤ _; rw [hL1]; exact Nat.le_refl _
  have HLL2 : Hid (w.heap.size ≤ L1 + 1) := by have := HLL.out; show _ ≤ _; omega
  have hpL : p < L1 := by omega
  clear hL1
  go_loopw [6, 7, 8] (fun i _ _ wr => ∃ k : Nat, k ≤ n ∧ i = .int .i64 (k : Int) ∧ Hid (Blk wr (L1 + 1) (stOf (es.take k) loan)) ∧ Hid (Blk wr L1 zS) ∧ Below w.heap.size w wr) (fun i _ _ _ => n - (intOf i).toNat)
  case atStart =>
    refine ⟨0, Nat.zero_le _, rfl, HB0, HB1, ?_⟩
    exact ((Below.refl _ _).alloc (Nat.le_refl _) _).alloc (by simp) _
  case round =>
    obtain ⟨k, hk, rfl, HBK, HB1, hbel⟩ := hrel
    have hcp := HP.out wr hbel
    by_cases hlt : k < n
    · have hkl : k < es.length := by rw [HN.out]; exact hlt
      obtain ⟨b, rfl, hc⟩ := (HS.out.under hbel HLT.out).at (by omega)
      have hbw := HLT.out b rfl
      obtain ⟨h0, h1, h2, h3⟩ := hc k hkl
      have hmid := good_mid es k hkl HG.out
      have HSN := hid (stOf_snoc (es.take k) es[k] loan)
      rw [← takeE_snoc es k hkl] at HSN
      have hbs := bd_of (es.take k) loan (HG.out.take k)
      have hB := hbs.1.mono (HG.out.take k).1
      have hdd : (stOf (es.take k) loan).day ≤ (es[k]).day := by have := hbs.2; have := hmid.2.1; omega
      have hmay := hmid.1
      clear hc hmid hbs HB0
      generalize es[k] = e at *
      clear hkl
      have i1 : (0 : Int) ≤ (k : Int) := by omega
      have i2 : (k : Int) < (n : Int) := by omega
      have hl1 : L1 + 1 < wr.heap.size := lt_of_block HBK.out
      by_cases hl : e.loan = loan
      · rw [if_pos hl, stepS_use] at HSN
        have hx := hB.prod (by omega) (e.day - (stOf (es.take k) loan).day) (by omega)
        have ha := hmay.amount
        have hkk := hmay.2.1
        have hdy := hmay.2.2.2
        generalize stOf (es.take k) loan = s at *
        obtain ⟨P, DD, R, D, SP, CO⟩ := s
        obtain ⟨el, ek, ea, ed⟩ := e
        obtain ⟨a1, a2, a3, a4, a5, a6, a7, a8, a9, a10, a11, a12⟩ := hB
        simp only at *
        obtain ⟨t, HT⟩ : ∃ t, Hid (t = preS ⟨P, DD, R, D, SP, CO⟩ ⟨el, ek, ea, ed⟩) := ⟨_, rfl⟩
        rw [← HT.out] at HSN
        have HTB : Hid (0 ≤ t.principal ∧ t.principal ≤ 30000000000 ∧ 0 ≤ t.due ∧ t.due ≤ 400000000000000000 ∧ 0 ≤ t.spare ∧ t.spare ≤ 30000000000000000) := by
          show _ ∧ _
          rw [HT.out]
          simp only [preS, prinS, dueS, spareS]
          refine ⟨?_, ?_, ?_, ?_, ?_, ?_⟩ <;> (try split) <;> omega
        have hw1 : IntKind.i64.wrap (P * R) = P * R := wrap_id _ (by omega) (by omega)
        have hw2 : IntKind.i64.wrap (ed - D) = ed - D := wrap_id _ (by omega) (by omega)
        have hw3 : IntKind.i64.wrap (P * R * (ed - D)) = P * R * (ed - D) := wrap_id _ (by omega) (by omega)
        have hw4 : IntKind.i64.wrap (DD + P * R * (ed - D)) = DD + P * R * (ed - D) := wrap_id _ (by omega) (by omega)
        have hw5 : IntKind.i64.wrap (CO + 1) = CO + 1 := wrap_id _ (by omega) (by omega)
        have hw6 : IntKind.i64.wrap (P + ea) = P + ea := wrap_id _ (by omega) (by omega)
        have hw7 : IntKind.i64.wrap (ea * 1000000) = ea * 1000000 := wrap_id _ (by omega) (by omega)
        have hw8 : IntKind.i64.wrap (SP + ea * 1000000) = SP + ea * 1000000 := wrap_id _ (by omega) (by omega)
        have hk3 : ek = 0 ∨ ek = 1 ∨ ek = 2 := by omega
        clear hx ha hkk hdy hmay hdd a1 a2 a3 a4 a5 a6 a7 a8 a9 a10 a11 a12
        have iel : (el != loan) = false := by simp; exact hl
        clear hl
        obtain ⟨x0, x1, x2, x3, x4, x5⟩ := HBK.out.six
        have f0 := HBK.out.free 0
        have f1 := HBK.out.free 1
        have f2 := HBK.out.free 2
        have f3 := HBK.out.free 3
        have f4 := HBK.out.free 4
        have f5 := HBK.out.free 5
        rcases hk3 with rfl | rfl | rfl
        all_goals go_upto_region 16 with fail
        all_goals generalize hwq : World.alloc _ _ = wq
        all_goals have HBQ : Hid (Blk wq (L1 + 1) t) := by
                    rw [HT.out, ← hwq]
                    refine Blk.kept ?_ ((Below.refl _ _).alloc (Nat.le_refl _) _)
                    exact blk_setCell (blk_setCell (blk_setCell (blk_setCell HBK.out)))
        all_goals have HZQ : Hid (Blk wq L1 zS) := by
                    rw [← hwq]
                    exact Blk.kept ((((HB1.out.skip (by omega)).skip (by omega)).skip (by omega)).skip (by omega)) ((Below.refl _ _).alloc (Nat.le_refl _) _)
        all_goals have hbq : Below w.heap.size w wq := by
                    rw [← hwq]
                    exact ((((hbel.setCell HLL2.out _).setCell HLL2.out _).setCell HLL2.out _).setCell HLL2.out _).alloc (by simp; exact hbel.size) _
        all_goals clear hwq x0 x1 x2 x3 x4 x5 f0 f1 f2 f3 f4 f5 hw1 hw2 hw3 hw4 hw5 hw6 hw7 hw8 HBK HB1 h0 h1 h2 h3 iel HT hcp hl1
        all_goals obtain ⟨b1, b2, b3, b4, b5, b6⟩ := HTB.out
        all_goals have hl1 : L1 + 1 < wq.heap.size := lt_of_block HBQ.out
        all_goals obtain ⟨y0, y1, y2, y3, y4, y5⟩ := HBQ.out.six
        all_goals have g1 := HBQ.out.free 1
        all_goals have g4 := HBQ.out.free 4
        all_goals by_cases hsp : t.spare < t.due
        all_goals first
          | (have hwa : IntKind.i64.wrap (t.due - t.spare) = t.due - t.spare := wrap_id _ (by omega) (by omega)
             have HUS := hid (use_less t hsp b1)
             obtain ⟨t2, HT2⟩ : ∃ t2 : St, Hid (t2 = ⟨t.principal, t.due - t.spare, t.rate, t.day, 0, t.count⟩) := ⟨_, rfl⟩)
          | (have hwa : IntKind.i64.wrap (t.spare - t.due) = t.spare - t.due := wrap_id _ (by omega) (by omega)
             have HUS := hid (use_more t hsp)
             obtain ⟨t2, HT2⟩ : ∃ t2 : St, Hid (t2 = ⟨t.principal, 0, t.rate, t.day, t.spare - t.due, t.count⟩) := ⟨_, rfl⟩)
        all_goals rw [← HT2.out] at HUS
        all_goals have HB2 : Hid (0 ≤ t2.principal ∧ t2.principal ≤ 30000000000 ∧ 0 ≤ t2.spare ∧ t2.spare ≤ 30000000000000000) := by
                    rw [HT2.out]
                    exact ⟨by simp only; omega, by simp only; omega, by simp only; omega, by simp only; omega⟩
        all_goals clear b1 b2 b3 b4 b5 b6 HTB
        all_goals go_wp2_with fail
        all_goals generalize hwz : World.setCell (World.setCell wq _ _) _ _ = wz
        all_goals have HBZ : Hid (Blk wz (L1 + 1) t2) := by
                    rw [HT2.out, ← hwz]
                    exact blk_setCell (blk_setCell HBQ.out)
        all_goals have HZZ : Hid (Blk wz L1 zS) := by
                    rw [← hwz]
                    exact (HZQ.out.skip (by omega)).skip (by omega)
        all_goals have hbz : Below w.heap.size w wz := by
                    rw [← hwz]
                    exact (hbq.setCell HLL2.out _).setCell HLL2.out _
        all_goals rw [← HUS.out.1] at HSN
        all_goals have HUD : Hid (useD t2 = 0) := HUS.out.2
        all_goals clear hwz y0 y1 y2 y3 y4 y5 g1 g4 HBQ HZQ hbq HT2 HUS hwa hsp hl1
        all_goals (
          go_loopw [8] (fun _ wi => ∃ t3, Hid (Blk wi (L1 + 1) t3) ∧ Hid (useS t3 = useS t2) ∧ Hid (useD t3 = 0) ∧ Hid (0 ≤ t3.principal ∧ t3.principal ≤ 30000000000 ∧ 0 ≤ t3.spare ∧ t3.spare ≤ 30000000000000000) ∧ Hid (Blk wi L1 zS) ∧ Below w.heap.size w wi) (fun _ wi => prinAt wi (L1 + 1))
          case atStart => exact ⟨t2, HBZ, rfl, HUD, HB2, HZZ, hbz⟩
          case round =>
            obtain ⟨t3, HB3, HU3, HD3, HN3, HZ3, hb3⟩ := hrel
            clear HBZ HUD HB2 HZZ hbz
            have hl1 : L1 + 1 < wr.heap.size := lt_of_block HB3.out
            have HPA := hid (prinAt_blk HB3.out)
            obtain ⟨y0, y1, y2, y3, y4, y5⟩ := HB3.out.six
            have g0 := HB3.out.free 0
            have g4 := HB3.out.free 4
            obtain ⟨n1, n2, n3, n4⟩ := HN3.out
            by_cases c1 : 0 < t3.principal
            · by_cases c2 : 1000000 ≤ t3.spare
              · obtain ⟨u, hu⟩ : ∃ u, u = if t3.principal < t3.spare / 1000000 then t3.principal else t3.spare / 1000000 := ⟨_, rfl⟩
                have HUS := hid (use_step t3 u HD3.out n1 n3 hu)
                have hu0 : 1 ≤ u ∧ u ≤ t3.principal ∧ u * 1000000 ≤ t3.spare := by split at hu <;> omega
                obtain ⟨t4, HT4⟩ : ∃ t4 : St, Hid (t4 = ⟨t3.principal - u, t3.due, t3.rate, t3.day, t3.spare - u * 1000000, t3.count⟩) := ⟨_, rfl⟩
                rw [← HT4.out] at HUS
                have HN4 : Hid (0 ≤ t4.principal ∧ t4.principal ≤ 30000000000 ∧ 0 ≤ t4.spare ∧ t4.spare ≤ 30000000000000000) := by
                  rw [HT4.out]
                  exact ⟨by simp only; omega, by simp only; omega, by simp only; omega, by simp only; omega⟩
                have HME : Hid (t4.principal.toNat < t3.principal.toNat) := by
                  rw [HT4.out]
                  show (t3.principal - u).toNat < t3.principal.toNat
                  omega
                have HDN : Hid (∀ wz, Blk wz (L1 + 1) t4 → Blk wz L1 zS → Below w.heap.size w wz → (∃ t3, Hid (Blk wz (L1 + 1) t3) ∧ Hid (useS t3 = useS t2) ∧ Hid (useD t3 = 0) ∧ Hid (0 ≤ t3.principal ∧ t3.principal ≤ 30000000000 ∧ 0 ≤ t3.spare ∧ t3.spare ≤ 30000000000000000) ∧ Hid (Blk wz L1 zS) ∧ Below w.heap.size w wz) ∧ prinAt wz (L1 + 1) < prinAt wr (L1 + 1)) := fun wz h1 h2 h3 =>
                  ⟨⟨t4, h1, HUS.out.1.trans HU3.out, HUS.out.2, HN4, h2, h3⟩, by rw [prinAt_blk h1, HPA.out]; exact HME.out⟩
                have hwp : IntKind.i64.wrap (t3.principal - u) = t3.principal - u := wrap_id _ (by omega) (by omega)
                have hwm : IntKind.i64.wrap (u * 1000000) = u * 1000000 := wrap_id _ (by omega) (by omega)
                have hws : IntKind.i64.wrap (t3.spare - u * 1000000) = t3.spare - u * 1000000 := wrap_id _ (by omega) (by omega)
                clear HN3 HU3 HD3 HN4 HME HUS HPA hu0
                by_cases c3 : t3.principal < t3.spare / 1000000
                · rw [if_pos c3] at hu
                  subst hu
                  go_wp2_with fail
                  exact HDN.out _ (by rw [HT4.out, Int.sub_self]; exact blk_setCell (blk_setCell HB3.out)) ((HZ3.out.skip (by omega)).skip (by omega)) ((hb3.setCell HLL2.out _).setCell HLL2.out _)
                · rw [if_neg c3] at hu
                  subst hu
                  go_wp2_with fail
                  exact HDN.out _ (by rw [HT4.out]; exact blk_setCell (blk_setCell HB3.out)) ((HZ3.out.skip (by omega)).skip (by omega)) ((hb3.setCell HLL2.out _).setCell HLL2.out _)
              · have HTE : Hid (stOf (es.take (k + 1)) loan = t3) := by
                  show _ = _
                  rw [HSN.out, ← HU3.out, use_exit t3 HD3.out n1 n3 (.inr c2)]
                clear HN3 HU3 HD3 HPA n1 n2 n3 n4
                go_wp2_with fail
                exact ⟨⟨k + 1, by omega, by go_num, by show Blk _ _ _; rw [HTE.out]; exact HB3.out, HZ3, hb3⟩, by simp [intOf]; omega⟩
            · have HTE : Hid (stOf (es.take (k + 1)) loan = t3) := by
                show _ = _
                rw [HSN.out, ← HU3.out, use_exit t3 HD3.out n1 n3 (.inl c1)]
              clear HN3 HU3 HD3 HPA n1 n2 n3 n4
              go_wp2_with fail
              exact ⟨⟨k + 1, by omega, by go_num, by show Blk _ _ _; rw [HTE.out]; exact HB3.out, HZ3, hb3⟩, by simp [intOf]; omega⟩)
      · rw [if_neg hl] at HSN
        have iel : (e.loan != loan) = true := by simp; exact hl
        obtain ⟨el, ek, ea, ed⟩ := e
        simp only at *
        rw [← HSN.out] at HBK
        clear hl hB hdd hmay
        go_wp2_with fail
        exact ⟨⟨k + 1, by omega, by go_num, HBK.out.kept ((Below.refl _ _).alloc (Nat.le_refl _) _), HB1.out.kept ((Below.refl _ _).alloc (Nat.le_refl _) _), hbel.alloc hbel.size _⟩, by simp [intOf]; omega⟩
    · have HE : Hid (es.take k = es) := List.take_of_length_le (by rw [HN.out]; omega)
      rw [HE.out] at HBK
      obtain ⟨s, HSE⟩ : ∃ s, Hid (s = stOf es loan) := ⟨_, rfl⟩
      rw [← HSE.out] at HBK
      have i2 : ¬ (k : Int) < (n : Int) := by omega
      obtain ⟨x0, x1, x2, x3, x4, x5⟩ := HBK.out.six
      obtain ⟨y0, y1, y2, y3, y4, y5⟩ := HB1.out.six
      have f0 := HB1.out.free 0
      have f1 := HB1.out.free 1
      have f2 := HB1.out.free 2
      have f3 := HB1.out.free 3
      have f4 := HB1.out.free 4
      have f5 := HB1.out.free 5
      go_wp2_with fail
      (try simp only [Exit.inBlock, Exit.then])
      refine bodyPost_ret (ret_state rfl (L := L1) (s := s) rfl (put6_blk HB1.out s)) rfl ⟨by rw [HSE.out], put6_below hbel L1 s HLL.out⟩

theorem rstate_spec (w : World) (S : Nat → Prop) (v : Value) (es : List Ev) (h : RRep w S v es) : RStateSpec w v es := fun wz loan hz _ => rstateB_any wz S v es loan (h.stay fun k hk => hz.block k (h.lt k hk))

end Go.Proofs.YtedblhcehlbbmaaGreatDoor

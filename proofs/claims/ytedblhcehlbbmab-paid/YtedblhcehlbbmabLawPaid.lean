/-
  lenderkeep.Paid, out of what a book's calls answer: the law's own part.
-/
import Derived.Test.YtedblhcehlbbmabLawApart
import Derived.WalkKit
import Derived.WalkSpells
import Derived.WalkLawsBesides
import Derived.Deep.QuietTactic
import Derived.BigQuiet
import Derived.Deep.Cut
import Derived.Deep.CutRange
import Derived.Deep.CutBlock
namespace Go.Proofs.Ytedblhcehlbbmab
open Go.RowKit

/-- The law's reckoning behind some events: lent, paid and due, beside the loan's state. -/
structure Reck (n : Nat) (LE PA DU : Int) (s : St) : Prop where
  inv : PaidI LE PA DU s
  l0 : 0 ≤ LE
  l1 : LE ≤ (n : Int) * 100000000
  p0 : 0 ≤ PA
  p1 : PA ≤ (n : Int) * 100000000
  d0 : 0 ≤ DU
  d1 : DU ≤ 20000000000000 * s.day
theorem Reck.zero : Reck 0 0 0 0 zS := ⟨PaidI.zero, by omega, by omega, by omega, by omega, by omega, by simp [zS]⟩
theorem Reck.mono {n m : Nat} {LE PA DU : Int} {s : St} (h : Reck n LE PA DU s) (hm : n ≤ m) : Reck m LE PA DU s := by
  obtain ⟨h0, h1, h2, h3, h4, h5, h6⟩ := h
  exact ⟨h0, h1, by omega, h3, by omega, h5, h6⟩
theorem Reck.step {n : Nat} {LE PA DU : Int} {s : St} {e : Ev} (h : Reck n LE PA DU s) (hb : BdS 200 s) (hm : MayE e) (hd : s.day ≤ e.day) :
    Reck (n + 1) (if e.kind = 0 then LE + e.amount else LE) (if e.kind = 1 then PA + e.amount else PA) (DU + s.principal * s.rate * (e.day - s.day)) (stepS s e) := by
  have hx := hb.prod (by omega) (e.day - s.day) (by omega)
  have ha := hm.amount
  obtain ⟨h0, h1, h2, h3, h4, h5, h6⟩ := h
  refine ⟨h0.step, ?_, ?_, ?_, ?_, ?_, ?_⟩
  · split <;> omega
  · split <;> omega
  · split <;> omega
  · split <;> omega
  · have := hx.2.2.1; omega
  · have := hx.2.2.2; show _ ≤ 20000000000000 * e.day; omega

theorem use3 {SP DD P : Int} (h0 : 0 ≤ SP) (h1 : 0 ≤ DD) (h2 : 0 ≤ P) (h : ¬ (0 < SP ∧ 0 < DD) ∧ ¬ (1000000 ≤ SP ∧ 0 < P)) : SP = 0 ∨ (0 < SP ∧ SP < 1000000 ∧ DD = 0) ∨ (1000000 ≤ SP ∧ DD = 0 ∧ P = 0) := by omega
theorem le6 {k N : Nat} {x : Int} (h : x ≤ ((k + 1 : Nat) : Int) * 100000000) (h1 : k < N) (h2 : N ≤ 60) : x ≤ 6000000000 := by omega
theorem le17 {x d : Int} (h : x ≤ 20000000000000 * d) (h1 : d ≤ 10000) : x ≤ 200000000000000000 := by omega
theorem wraps6 {PA LE P SP DU DD : Int} (a1 : 0 ≤ PA) (a2 : PA ≤ 6000000000) (b1 : 0 ≤ LE) (b2 : LE ≤ 6000000000) (c1 : 0 ≤ P) (c2 : P ≤ 20000000000) (d1 : 0 ≤ SP) (d2 : SP ≤ 20000000000000000) (e1 : 0 ≤ DU) (e2 : DU ≤ 200000000000000000) (f1 : 0 ≤ DD) (f2 : DD ≤ 200000000000000000) :
    IntKind.i64.wrap (PA * 1000000) = PA * 1000000 ∧ IntKind.i64.wrap (LE - P) = LE - P ∧ IntKind.i64.wrap ((LE - P) * 1000000) = (LE - P) * 1000000 ∧ IntKind.i64.wrap (SP + (LE - P) * 1000000) = SP + (LE - P) * 1000000 ∧ IntKind.i64.wrap (SP + (LE - P) * 1000000 + DU) = SP + (LE - P) * 1000000 + DU ∧ IntKind.i64.wrap (SP + (LE - P) * 1000000 + DU - DD) = SP + (LE - P) * 1000000 + DU - DD :=
  ⟨wrap_id _ (by omega) (by omega), wrap_id _ (by omega) (by omega), wrap_id _ (by omega) (by omega), wrap_id _ (by omega) (by omega), wrap_id _ (by omega) (by omega), wrap_id _ (by omega) (by omega)⟩
theorem bne_of {x y : Int} (h : x = y) : (x != y) = false := by subst h; simp

theorem wrap_succ {k N : Nat} (h : k < N) (h2 : N ≤ 60) : Value.int IntKind.i64 (wrap64 ((k : Int) + 1)) = .int .i64 ((k + 1 : Nat) : Int) := by
  have : wrap64 ((k : Int) + 1) = (k : Int) + 1 := by unfold wrap64; omega
  rw [this]; simp
theorem meas_succ {k N : Nat} (h : k < N) (h2 : N ≤ 60) : N - (intOf (Value.int .i64 (wrap64 ((k : Int) + 1)))).toNat < N - (intOf (Value.int .i64 (k : Int))).toNat := by
  rw [wrap_succ h h2]; simp [intOf]; omega

set_option maxRecDepth 20000 in
set_option maxHeartbeats 40000000 in
theorem lawpaid_any {Rep : World → (Nat → Prop) → Value → List Ev → Prop} (n : Nat) (a : Option Addr) (zs : List Int) (cap : Nat) (c : Int) (w : World) (T : BookSpec w Rep) (hn : zs.length = n) (hz : Ints w a zs) (hr : n * 8 ≤ 140737488351232) (h64 : ∀ z ∈ zs, In64 z) (hc0 : -9223372036854775808 ≤ c) (hc1 : c ≤ 9223372036854775807) :
    Calls Try.prog 6 #[.slice a n cap, .int .i64 c] w fun e w' => e = .returned (.bool true) ∧ Below w.heap.size w w' := by
  have HEV := hid (events_any n a zs cap w hn hz hr h64)
  have TC := hid T
  clear hn hz h64 T
  go_enter Try.func6, Try.ntmps6
  go_wp2_with fail
  refine HEV.out.mono ?_
  rintro e w1 ⟨v1, rfl, hown1, hb1⟩
  have hg := evs_good zs
  have h60 := length_evs zs
  generalize evs zs = es at hown1 hg h60
  obtain ⟨a1, c1, rfl, _, _, hS1, hlt1⟩ := hown1.form
  obtain ⟨N, hN⟩ : ∃ N, N = es.length := ⟨_, rfl⟩
  rw [← hN] at h60 ⊢
  have HN : Hid (es.length = N) := hN.symm
  have HS1 := hid hS1; have HLT1 := hid hlt1; have HG := hid hg
  clear hown1 hS1 hlt1 hg HEV hN
  go_wp2_with fail
  refine (TC.out.new w1 hb1).mono ?_
  rintro e w2 ⟨v, S0, rfl, hrep, hS0, hb2⟩
  obtain ⟨ad, rfl⟩ := TC.out.ptr hrep
  have HR0 := hid hrep
  have HS0 := hid hS0
  have HL0 := hid (TC.out.lt hrep)
  clear hrep hS0
  go_wp2_with fail
  refine (pick_any c 4 _ (by omega) (by omega) hc0 hc1).mono ?_
  rintro e w2' ⟨rfl, rfl⟩
  have hp := pickN_lt c 4 (by omega)
  generalize pickN c 4 = p at hp ⊢
  have HB2 := hid hb2
  have hsz2 := hb2.size
  go_wp2_with fail
  obtain ⟨loan, hloan⟩ : ∃ loan : Nat, loan = p * 21 := ⟨_, rfl⟩
  have hl63 : loan ≤ 63 := by omega
  rw [show (p : Int) * 21 = (loan : Int) by omega]
  clear hloan hp hb2
  obtain ⟨L, hL⟩ : ∃ L, L = w2'.heap.size := ⟨_, rfl⟩
  rw [← hL]
  have HLL := hid hL
  clear hL
  go_loopw [8, 9, 10, 12, 13, 14, 15, 16, 17] (fun lent paid due cnt i _ _ _ _ wr => ∃ (k : Nat) (LE PA DU : Int) (S : Nat → Prop), k ≤ N ∧ i = .int .i64 (k : Int) ∧ lent = .int .i64 LE ∧ paid = .int .i64 PA ∧ due = .int .i64 DU ∧ cnt = .int .i64 ((ownE (es.take k) (loan : Int)).length : Int) ∧ Hid (Reck k LE PA DU (stOf (es.take k) (loan : Int))) ∧
      Hid (Blk wr L (stOf (es.take k) (loan : Int))) ∧
      Hid (Rep wr S (.pointer (some ad)) (es.take k) ∧ ¬ S L ∧ ∀ j, S j → w1.heap.size ≤ j) ∧ Below w1.heap.size w1 wr) (fun _ _ _ _ i _ _ _ _ _ => N - (intOf i).toNat)
  case atStart =>
    refine ⟨0, 0, 0, 0, S0, Nat.zero_le _, rfl, rfl, rfl, rfl, rfl, Reck.zero, ?_, ?_, ?_⟩
    · show Blk _ _ zS
      rw [HLL.out]
      exact Blk.new w2' zS
    · refine ⟨TC.out.stay HR0.out (by simp) (fun k hk => Below.heap_alloc _ _ k (HL0.out k hk)), fun h => ?_, HS0.out⟩
      have := HL0.out _ h
      have := HLL.out
      omega
    · exact HB2.out.alloc hsz2 _
  case round =>
    obtain ⟨k, LE, PA, DU, S, hk, rfl, rfl, rfl, rfl, rfl, HRE, HSX, HRP, hbel⟩ := hrel
    have hszr := hbel.size
    have k1 : Below w.heap.size w wr := hb1.trans (hbel.mono hb1.size)
    by_cases hlt : k < N
    · have hkl : k < es.length := by rw [HN.out]; exact hlt
      obtain ⟨b, rfl, hc⟩ := (HS1.out.under hbel HLT1.out).at (by omega)
      have hbw := HLT1.out b rfl
      obtain ⟨h0, h1, h2, h3⟩ := hc k hkl
      have hmid := good_mid es k hkl HG.out
      have HTK := hid (takeE_snoc es k hkl)
      have HSN := hid (stOf_snoc (es.take k) es[k] (loan : Int))
      have HON := hid (ownE_snoc (es.take k) es[k] (loan : Int))
      have hbs := bd_of (es.take k) (loan : Int) (HG.out.take k)
      have hb200 := hbs.1.mono (HG.out.take k).1
      have hsd : (stOf (es.take k) (loan : Int)).day ≤ es[k].day := by have := hbs.2; have := hmid.2.1; omega
      have HADD : Hid (Calls Try.prog 21 #[.pointer (some ad), evV es[k]] wr fun r w' => r = .returned (.int .i64 0) ∧ ∃ S', Rep w' S' (.pointer (some ad)) (es.take (k + 1)) ∧ (∀ j, S' j → S j ∨ wr.heap.size ≤ j) ∧ Besides S wr w') := by
        have := TC.out.add wr S (.pointer (some ad)) (es.take k) es[k] k1 HRP.out.1 hmid.1.in64
        unfold addL at this
        rw [mayB_of hmid.1, addN_ok hmid.2.2 hmid.2.1, if_pos rfl, ← HTK.out] at this
        exact this
      have hol : (ownE (es.take k) (loan : Int)).length ≤ 60 := by
        have := List.length_filter_le (fun e => decide (Ev.loan e = (loan : Int))) (es.take k)
        unfold ownE; rw [List.length_take] at this; omega
      have HCT := hid (count_of (es.take (k + 1)) (loan : Int))
      have HCELL : Hid (∀ w', Below w1.heap.size w1 w' → w'.cell? ⟨b, k * 4, none⟩ = some (.int .i64 es[k].loan) ∧ w'.cell? ⟨b, k * 4 + 1, none⟩ = some (.int .i64 es[k].kind) ∧ w'.cell? ⟨b, k * 4 + 2, none⟩ = some (.int .i64 es[k].amount) ∧ w'.cell? ⟨b, k * 4 + 3, none⟩ = some (.int .i64 es[k].day)) := fun w' h => by
        obtain ⟨b', hb', hc'⟩ := (HS1.out.under h HLT1.out).at (by omega)
        cases hb'
        exact hc' k hkl
      have HSTEP := hid (fun (_ : es[k].loan = (loan : Int)) => HRE.out.step hb200 hmid.1 hsd)
      have HUSE := hid (fun (_ : es[k].loan = (loan : Int)) => spare_used hbs.1 hmid.2.2 hmid.1 hsd)
      have HBD' := hid (bd200 (es.take (k + 1)) (loan : Int) (HG.out.take (k + 1)))
      unfold evV at HADD
      have hmk := hmid.1
      generalize es[k] = e at *
      have HMK := hid hmk
      obtain ⟨el, ek, ea, ed⟩ := e
      simp only at h0 h1 h2 h3 HADD hsd HCELL
      clear hc hkl hmid hmk
      go_wp2_with fail
      refine HADD.out.mono ?_
      rintro e w3 ⟨rfl, S', hrep3, hS3, hbes⟩
      have hb3 := hbes.below hszr HRP.out.2.2
      have hbel3 := hbel.trans hb3
      have hLr : L < wr.heap.size := HSX.out.lt
      have hblk : w3.heap[L]? = wr.heap[L]? := hbes.block L hLr HRP.out.2.1
      have HSX3 : Hid (Blk w3 L (stOf (es.take k) (loan : Int))) := HSX.out.of hblk
      have HRP3 : Hid (Rep w3 S' (.pointer (some ad)) (es.take (k + 1)) ∧ ¬ S' L ∧ ∀ j, S' j → w1.heap.size ≤ j) := by
        refine ⟨hrep3, fun h => ?_, fun j hj => ?_⟩
        · rcases hS3 L h with h | h
          · exact HRP.out.2.1 h
          · omega
        · rcases hS3 j hj with h | h
          · exact HRP.out.2.2 j h
          · omega
      obtain ⟨g0, g1, g2, g3⟩ := HCELL.out w3 hbel3
      have hsz3 := hb3.size
      have hs13 : w1.heap.size ≤ w3.heap.size := Nat.le_trans hszr hsz3
      clear hrep3 hS3 hbes hblk h0 h1 h2 h3 HADD HSX HRP hb3
      by_cases hl : el = (loan : Int)
      · have HRE2 := hid (HSTEP.out hl)
        have HUS2 := hid (HUSE.out hl)
        rw [if_pos hl] at HSN HON
        rw [← HTK.out] at HSN HON
        rw [← HSN.out] at HRE2 HUS2
        have hrt : (stOf (es.take (k + 1)) (loan : Int)).rate = if ek = 2 then ea else (stOf (es.take k) (loan : Int)).rate := by rw [HSN.out]; rfl
        have hdt : (stOf (es.take (k + 1)) (loan : Int)).day = ed := by rw [HSN.out]; rfl
        have hct : (stOf (es.take (k + 1)) (loan : Int)).count = ((ownE (es.take k) (loan : Int)).length : Int) + 1 := by rw [HCT.out, HON.out, List.length_append]; simp
        have HL2 : Hid ((ownE (es.take (k + 1)) (loan : Int)).length = (ownE (es.take k) (loan : Int)).length + 1) := by show _ = _; rw [HON.out, List.length_append]; rfl
        have k3 : Below w.heap.size w w3 := hb1.trans (hbel3.mono hb1.size)
        have HST : Hid (∀ w4, Below w3.heap.size w3 w4 → Calls Try.prog 22 #[.pointer (some ad), .int .i64 (loan : Int)] w4 fun r w' => r = .returned (.tuple #[stV (stOf (es.take (k + 1)) (loan : Int)), .int .i64 0]) ∧ Below w4.heap.size w4 w') := fun w4 h => by
          have := TC.out.state w4 S' (.pointer (some ad)) (es.take (k + 1)) (loan : Int) (kept k3 h) (TC.out.stay HRP3.out.1 h.size (fun j hj => h.block j (TC.out.lt HRP3.out.1 j hj))) ⟨by omega, by omega⟩
          rw [if_pos ⟨by omega, by omega⟩, if_pos ⟨by omega, by omega⟩] at this
          exact this
        unfold stV at HST
        have hed := HMK.out.2.2.2
        have hek := HMK.out.2.1
        have hea := HMK.out.amount
        have HB200 := hid hb200
        have hb' := HBD'.out
        have HREF : Hid (∀ x, stOf (es.take k) (loan : Int) = x → True) := fun _ _ => trivial
        generalize (ownE (es.take k) (loan : Int)).length = M at hol HL2 hct ⊢
        have HSE : Hid (stOf (es.take (k + 1)) (loan : Int) = stOf (es.take (k + 1)) (loan : Int)) := rfl
        generalize hs' : stOf (es.take (k + 1)) (loan : Int) = s' at HRE2 HUS2 hrt hdt hct HST hb'
        have HS' := hid hs'
        generalize stOf (es.take k) (loan : Int) = s at HRE2 HSX3 HB200 hrt hsd
        obtain ⟨P, DD, R, D, SP, CO⟩ := s
        obtain ⟨P', DD', R', D', SP', CO'⟩ := s'
        simp only at HRE2 HUS2 hrt hdt hct HST HSX3 hsd hed hek hea
        have hx := HB200.out.prod (by omega) (ed - D) (by omega)
        have hbD0 := HB200.out.y0
        have hbD1 := HB200.out.y1
        have hq := HRE2.out
        have hp' := HRE.out
        obtain ⟨hP0, hP1, hD0, hD1, hR0, hR1, hy0, hy1, hS0, hS1, hC0, hC1⟩ := hb'
        simp only at hx hbD0 hbD1 hP0 hP1 hD0 hD1 hS0 hS1
        subst hdt
        subst hct
        subst hl
        clear HSTEP HUSE HBD' hbs hb200 HTK HSN HON HCT HMK HREF HSE hs' hR0 hR1 hC0 hC1
        have hw1 : IntKind.i64.wrap (P * R) = P * R := wrap_id _ (by omega) (by omega)
        have hw3 : IntKind.i64.wrap (P * R * (D' - D)) = P * R * (D' - D) := wrap_id _ (by omega) (by omega)
        have hDU0 := hp'.d0
        have hDU1 := hp'.d1
        have hDU2 := hq.d1
        have hw4 : IntKind.i64.wrap (DU + P * R * (D' - D)) = DU + P * R * (D' - D) := wrap_id _ (by omega) (by omega)
        obtain ⟨x0, x1, x2, x3, x4, x5⟩ := HSX3.out.six
        have HRT := hid hrt
        clear hp' hq hrt
        go_wp2_with fail
        go_quiet (fail)
        clear x0 x1 x2 x3 x4 x5 g0 g1 g2 g3 hw1 hw3 hw4
        have HXX := hid hx.2.2
        generalize P * R * (D' - D) = X at HRE2 hDU2 HXX ⊢
        clear hx
        go_wp2_with fail
        refine (HST.out _ (below_drewN (Below.refl _ _) _)).mono ?_
        rintro e w5 ⟨rfl, hb5⟩
        have k5 : Below w3.heap.size w3 w5 := kept (below_drewN (Below.refl _ _) _) hb5
        have hbel5 := hbel3.trans (k5.mono hs13)
        have HB5 := hid (HSX3.out.kept k5)
        obtain ⟨x0, x1, x2, x3, x4, x5⟩ := HB5.out.six
        obtain ⟨g0, g1, g2, g3⟩ := HCELL.out w5 hbel5
        have hL5 : L < w5.heap.size := World.block_lt_of_cell? _ _ x0
        have hb5' : b < w5.heap.size := World.block_lt_of_cell? _ _ g0
        have HR2 := HRE2.out
        have r0 := HR2.inv
        have q1 := le6 HR2.l1 hlt h60
        have q2 := le6 HR2.p1 hlt h60
        have q3 : DU + X ≤ 200000000000000000 := le17 HR2.d1 hed.2
        have q4 := HR2.l0
        have q5 := HR2.p0
        have q6 := HR2.d0
        unfold PaidI at r0
        simp only at r0
        have huse := use3 hS0 hD0 hP0 HUS2.out
        have HUSE3 := hid huse
        have hL1 : w1.heap.size ≤ L := by have := HLL.out; omega
        have hk3 : ek = 0 ∨ ek = 1 ∨ ek = 2 := by omega
        have HK3 := hid hk3
        have hle0 := HRE.out.l0
        have hpa0 := HRE.out.p0
        have hle1 : LE ≤ 6000000000 := by have := HRE.out.l1; omega
        have hpa1 : PA ≤ 6000000000 := by have := HRE.out.p1; omega
        clear HR2 huse hk3 x0 x1 x3 x4 x5
        go_upto_region 21 with fail
        generalize hw6 : World.alloc w5 _ = w6
        have hb6 : Below w5.heap.size w5 w6 := by rw [← hw6]; exact (Below.refl _ _).alloc (Nat.le_refl _) _
        have hn6 : Blk w6 w5.heap.size ⟨P', DD', R', D', SP', (M : Int) + 1⟩ := by rw [← hw6]; exact Blk.new w5 ⟨P', DD', R', D', SP', (M : Int) + 1⟩
        have HN6 := hid hn6
        have HB6 := hid (HB5.out.kept hb6)
        have k6 := kept k5 hb6
        have hbel6 := hbel3.trans (k6.mono hs13)
        clear hw6 hn6 g0 g1 g2 g3 x2
        obtain ⟨g0, g1, g2, g3⟩ := HCELL.out w6 hbel6
        obtain ⟨y0, y1, y2, y3, y4, y5⟩ := HB6.out.six
        generalize w5.heap.size = DB at HN6 ⊢
        obtain ⟨LE2, hLE2⟩ : ∃ LE2, LE2 = if ek = 0 then LE + ea else LE := ⟨_, rfl⟩
        obtain ⟨PA2, hPA2⟩ : ∃ PA2, PA2 = if ek = 1 then PA + ea else PA := ⟨_, rfl⟩
        rw [← hLE2, ← hPA2] at HRE2 r0
        rw [← hLE2] at q1 q4
        rw [← hPA2] at q2 q5
        have HLE2 := hid hLE2
        have HPA2 := hid hPA2
        have R0 := hid r0
        clear hLE2 hPA2 r0
        go_cut [17] from 28 to 176 (fun rate wx => rate = .int .i64 R ∧ wx = w6)
        case first =>
          go_wp2_with fail
          go_meet
          case rel => exact ⟨rfl, rfl⟩
        case rest =>
          obtain ⟨rfl, rfl⟩ := hcut
          apply_assumption
          refine wp_seq_k ?_
          intro K hK
          go_cut [8, 9, 17] from 28 to 176 (fun lent paid rate wx => lent = .int .i64 LE2 ∧ paid = .int .i64 PA2 ∧ rate = .int .i64 R' ∧ wx = wc)
          case first =>
            rcases HK3.out with rfl | rfl | rfl
            · go_wp2_with fail
              go_meet
              case rel => exact ⟨by rw [HLE2.out]; simp, by rw [HPA2.out]; simp, by rw [HRT.out]; simp, rfl⟩
            · go_wp2_with fail
              go_meet
              case rel => exact ⟨by rw [HLE2.out]; simp, by rw [HPA2.out]; simp, by rw [HRT.out]; simp, rfl⟩
            · go_wp2_with fail
              go_meet
              case rel => exact ⟨by rw [HLE2.out]; simp, by rw [HPA2.out]; simp, by rw [HRT.out]; simp, rfl⟩
          case rest =>
            obtain ⟨rfl, rfl, rfl, rfl⟩ := hcut
            clear HLE2 HPA2 HRT HK3 g0 g1 g2 hle0 hle1 hpa0 hpa1 hea hek y0 y1 y2 y3 y4 y5
            have hne := bne_of R0.out
            obtain ⟨z0, z1, z2, z3, z4, z5⟩ := HN6.out.six
            simp only at z0 z1 z2 z3 z4 z5
            obtain ⟨w6, hw6⟩ : ∃ w6, w6 = wc := ⟨_, rfl⟩
            subst hw6
            go_upto_region 28 with fail
            go_cut [141] from 28 to 176 (fun c wx => c = .bool false ∧ Below w6.heap.size w6 wx)
            case first =>
              go_quiet (fail)
              go_wp2_with fail
              go_meet
              case rel => exact ⟨by rw [decide_eq_false (Int.not_lt.2 hP0), decide_eq_false (Int.not_lt.2 hD0), decide_eq_false (Int.not_lt.2 hS0)]; rfl, below_drewN (Below.refl _ _) _⟩
            case rest =>
            obtain ⟨rfl, hb7⟩ := hcut
            obtain ⟨w7, hw7⟩ : ∃ w7, w7 = wc := ⟨_, rfl⟩
            subst hw7
            have hB7 := HB6.out.kept hb7
            have HN7 := hid (HN6.out.kept hb7)
            have k7 := kept k6 hb7
            have HBK := hid (put6_blk hB7 ⟨P', DD', R', D', SP', (M : Int) + 1⟩)
            have HBW := hid (put6_below (hbel3.trans (k7.mono hs13)) L ⟨P', DD', R', D', SP', (M : Int) + 1⟩ hL1)
            have HRP6 : Hid (Rep (put6 w7 L ⟨P', DD', R', D', SP', (M : Int) + 1⟩) S' (.pointer (some ad)) (es.take (k + 1)) ∧ ¬ S' L ∧ ∀ j, S' j → w1.heap.size ≤ j) := by
              refine ⟨TC.out.stay HRP3.out.1 (Nat.le_trans k7.size (put6_below (Below.refl 0 w7) L _ (Nat.zero_le _)).size) (fun j hj => ?_), HRP3.out.2⟩
              have hjl : j ≠ L := fun e => HRP3.out.2.1 (e ▸ hj)
              rw [put6_other _ _ _ _ hjl]
              exact k7.block j (TC.out.lt HRP3.out.1 j hj)
            have HB7 := hid hB7
            clear z0 z1 z2 z3 z4 z5 g3 hB7 hb7 k7 hb6 k6 hbel6
            obtain ⟨z0, z1, z2, z3, z4, z5⟩ := HN7.out.six
            simp only at z0 z1 z2 z3 z4 z5
            obtain ⟨v1, v2, v3, v4, v5, v6⟩ := wraps6 q5 q2 q4 q1 hP0 (by simpa using hP1) hS0 (by simpa using hS1) q6 q3 hD0 (le17 hD1 hed.2)
            clear hDU0 hDU1 hDU2 hed hsd hbD0 hbD1 hy0 hy1 hol q1 q2 q3 q4 q5 q6 hP1 hS1 hD1 hb5 hb5' hL5 k5 hbel5
            have HLT := hid hlt
            have H60 := hid h60
            have HPP := hid hP0
            have HDD := hid hD0
            have HSS := hid hS0
            clear hL1 hs13 hszr hsz3 hsz2 hlt h60 hk hl63 hr hc0 hc1 hLr hP0 hD0 hS0 hbw
            go_upto_region 32 with fail
            clear hne v1 v2 v3 v4 v5 v6
            go_cut [175] from 28 to 176 (fun c wx => c = .bool false ∧ wx = w7)
            case first =>
              clear HRE2 HBK HBW HRP6 HS' HL2 HB7 HCELL HST HUS2 HSX3 HRP3 HB200 HRE
              rcases HUSE3.out with rfl | ⟨hu1, hu2, rfl⟩ | ⟨hu1, rfl, rfl⟩
              · go_wp2_with fail
                go_meet
                case rel => exact ⟨rfl, rfl⟩
              · have i1 : ¬ 1000000 ≤ SP' := Int.not_le.2 hu2
                clear hu2
                go_wp2_with fail
                go_meet
                case rel => first | exact ⟨rfl, rfl⟩ | exact ⟨by rw [decide_eq_false i1]; rfl, rfl⟩ | exact ⟨by simp, rfl⟩
              · have i1 : 0 < SP' := Int.lt_of_lt_of_le (by decide) hu1
                go_wp2_with fail
                go_meet
                case rel => first | exact ⟨rfl, rfl⟩ | exact ⟨by simp, rfl⟩
            case rest =>
              obtain ⟨rfl, rfl⟩ := hcut
              obtain ⟨y0, y1, y2, y3, y4, y5⟩ := HB7.out.six
              simp only at y0 y1 y2 y3 y4 y5
              have f0 := HB7.out.free 0
              have f1 := HB7.out.free 1
              have f2 := HB7.out.free 2
              have f3 := HB7.out.free 3
              have f4 := HB7.out.free 4
              have f5 := HB7.out.free 5
              go_wp2_with fail
              refine ⟨⟨k + 1, LE2, PA2, DU + X, S', HLT.out, wrap_succ HLT.out H60.out, rfl, rfl, rfl, ?_, ?_, ?_, HRP6, HBW.out⟩, meas_succ HLT.out H60.out⟩
              · rw [HL2.out]; rfl
              · rw [HS'.out]; exact HRE2
              · rw [HS'.out]; exact HBK
      · rw [if_neg hl] at HSN HON
        rw [← HTK.out] at HSN HON
        have i1 : (el == (loan : Int)) = false := by simp; exact hl
        have i1' : (el != (loan : Int)) = true := by simp; exact hl
        have HRE2 : Hid (Reck (k + 1) LE PA DU (stOf (es.take (k + 1)) (loan : Int))) := by show Reck _ _ _ _ _; rw [HSN.out]; exact HRE.out.mono (by omega)
        rw [← HSN.out] at HSX3
        have HL2 : Hid ((ownE (es.take (k + 1)) (loan : Int)).length = (ownE (es.take k) (loan : Int)).length) := by show _ = _; rw [HON.out]
        generalize (ownE (es.take k) (loan : Int)).length = M at hol HL2 ⊢
        clear hl HSTEP HUSE HBD' HCELL hbs hb200 hsd HTK HSN HON HCT HRE
        go_wp2_with fail
        go_roundw
        case rel => exact ⟨k + 1, LE, PA, DU, S', by omega, by go_num, rfl, rfl, rfl, by rw [HL2.out], HRE2, HSX3, HRP3, hbel3⟩
        case measure => simp [intOf]; omega
    · have HE : Hid (es.take k = es) := List.take_of_length_le (by rw [HN.out]; omega)
      have hrep := HRP.out.1
      rw [HE.out] at hrep
      have HSZ := hid (TC.out.size wr S (.pointer (some ad)) es k1 hrep)
      rw [HN.out] at HSZ
      clear hrep HRP HSX HRE HE
      go_wp2_with fail
      refine HSZ.out.mono ?_
      rintro e w3 ⟨rfl, hb3⟩
      go_wp2_with fail
      go_ret
      exact ⟨by simp, kept k1 hb3⟩

end Go.Proofs.Ytedblhcehlbbmab

import Derived.Test.YtedblhcehlbbmaaGreatDoorJWalkHand
import Derived.Test.YtedblhcehlbbmaaGreatDoorWalkBlk
import Derived.WalkKit
import Derived.WalkSpells
import Derived.WalkLawsBesides
/-
  CONTRACTS: package loans: lesser, used, next, MayBe, State.
-/
namespace Go.Proofs.YtedblhcehlbbmaaGreatDoor
set_option maxRecDepth 20000
open Go.RowKit

theorem lesser_any (a b : Int) (w : World) : Calls Tryz.prog 95 #[.int .i64 a, .int .i64 b] w fun e w' => e = .returned (.int .i64 (if a < b then a else b)) ∧ w' = w := by
  by_cases h : a < b
  · rw [if_pos h]
    go_enter Tryz.func95, Tryz.ntmps95
    go_wp2_with fail
    go_ret
    exact ⟨rfl, rfl⟩
  · rw [if_neg h]
    go_enter Tryz.func95, Tryz.ntmps95
    go_wp2_with fail
    go_ret
    exact ⟨rfl, rfl⟩

set_option maxRecDepth 20000 in
set_option maxHeartbeats 2000000 in
theorem used_any (P D R Y SP C d u Q : Int) (w : World) (hd : d = if SP < D then SP else D) (hq : Q = SP - d) (hu : u = if P < Q / 1000000 then P else Q / 1000000) (hP0 : 0 ≤ P) (hP1 : P ≤ 30000000000) (hD0 : 0 ≤ D) (hD1 : D ≤ 400000000000000000) (hS0 : 0 ≤ SP) (hS1 : SP ≤ 30000000000000000) :
    Calls Tryz.prog 84 #[.agg #[.int .i64 P, .int .i64 D, .int .i64 R, .int .i64 Y, .int .i64 SP, .int .i64 C]] w fun e w' => e = .returned (.agg #[.int .i64 (P - u), .int .i64 (D - d), .int .i64 R, .int .i64 Y, .int .i64 (Q - u * 1000000), .int .i64 C]) ∧ Below w.heap.size w w' := by
  have hd0 : 0 ≤ d ∧ d ≤ SP ∧ d ≤ D := by split at hd <;> omega
  have hu0 : 0 ≤ u ∧ u ≤ P ∧ u * 1000000 ≤ Q := by split at hu <;> omega
  have hw1 : IntKind.i64.wrap (SP - d) = Q := by rw [hq]; exact wrap_id _ (by omega) (by omega)
  have hw2 : IntKind.i64.wrap (D - d) = D - d := wrap_id _ (by omega) (by omega)
  have hw3 : IntKind.i64.wrap (P - u) = P - u := wrap_id _ (by omega) (by omega)
  have hw4 : IntKind.i64.wrap (u * 1000000) = u * 1000000 := wrap_id _ (by omega) (by omega)
  have hw5 : IntKind.i64.wrap (Q - u * 1000000) = Q - u * 1000000 := wrap_id _ (by omega) (by omega)
  have hq0 : 0 ≤ Q := by omega
  have hq1 : Q ≤ 30000000000000000 := by omega
  have HD := hid hd
  have HU := hid hu
  clear hd hu hq
  go_enter Tryz.func84, Tryz.ntmps84
  go_wp2_with fail
  refine (lesser_any SP D _).mono ?_
  rintro e w1 ⟨rfl, rfl⟩
  rw [← HD.out]
  go_wp2_with fail
  refine (lesser_any P (Q / 1000000) _).mono ?_
  rintro e w1 ⟨rfl, rfl⟩
  rw [← HU.out]
  go_wp2_with fail
  (try simp only [Exit.inBlock, Exit.then])
  refine bodyPost_ret (ret_state rfl (L := w.heap.size + 1) (s := ⟨P - u, D - d, R, Y, Q - u * 1000000, C⟩) rfl ?_) rfl ⟨rfl, ?_⟩
  · exact Blk.made _ (by simp) (Below.refl _ _)
  · exact ((Below.refl _ _).alloc (Nat.le_refl _) _).alloc (by simp) _

/-- A state once what is spare has been used; a state behind an event, ahead of that. -/
def useD (s : St) : Int := if s.spare < s.due then s.spare else s.due
def useU (s : St) : Int := if s.principal < (s.spare - useD s) / 1000000 then s.principal else (s.spare - useD s) / 1000000
def useS (s : St) : St := ⟨s.principal - useU s, s.due - useD s, s.rate, s.day, s.spare - useD s - useU s * 1000000, s.count⟩
def preS (s : St) (e : Ev) : St := ⟨prinS s e, dueS s e, rateS s e, e.day, spareS s e, s.count + 1⟩
theorem stepS_use (s : St) (e : Ev) : stepS s e = useS (preS s e) := rfl
theorem used_st (s : St) (w : World) (hP0 : 0 ≤ s.principal) (hP1 : s.principal ≤ 30000000000) (hD0 : 0 ≤ s.due) (hD1 : s.due ≤ 400000000000000000) (hS0 : 0 ≤ s.spare) (hS1 : s.spare ≤ 30000000000000000) :
    Calls Tryz.prog 84 #[stV s] w fun e w' => e = .returned (stV (useS s)) ∧ Below w.heap.size w w' :=
  used_any s.principal s.due s.rate s.day s.spare s.count (useD s) (useU s) (s.spare - useD s) w rfl rfl rfl hP0 hP1 hD0 hD1 hS0 hS1

set_option maxRecDepth 20000 in
set_option maxHeartbeats 2000000 in
theorem next_any (s : St) (e : Ev) (w : World) (h : BdS 200 s) (hm : MayE e) (hd : s.day ≤ e.day) :
    Calls Tryz.prog 69 #[stV s, evV e] w fun r w' => r = .returned (stV (stepS s e)) ∧ Below w.heap.size w w' := by
  have hx := h.prod (by omega) (e.day - s.day) (by omega)
  have ha := hm.amount
  have hk := hm.2.1
  have hdy := hm.2.2.2
  have HU : Hid (∀ w, Calls Tryz.prog 84 #[stV (preS s e)] w fun r w' => r = .returned (stV (stepS s e)) ∧ Below w.heap.size w w') := fun w => by
    rw [stepS_use]
    obtain ⟨a1, a2, a3, a4, a5, a6, a7, a8, a9, a10, a11, a12⟩ := h
    refine used_st (preS s e) w ?_ ?_ ?_ ?_ ?_ ?_ <;> simp only [preS, prinS, dueS, spareS] <;> (try split) <;> omega
  have hr : ∃ t, t = stepS s e := ⟨_, rfl⟩
  obtain ⟨t, ht⟩ := hr
  rw [← ht] at HU ⊢
  clear ht
  unfold stV evV at *
  obtain ⟨P, DD, R, D, SP, CO⟩ := s
  obtain ⟨el, ek, ea, ed⟩ := e
  obtain ⟨a1, a2, a3, a4, a5, a6, a7, a8, a9, a10, a11, a12⟩ := h
  simp only [preS, prinS, dueS, spareS, rateS] at *
  have hw1 : IntKind.i64.wrap (P * R) = P * R := wrap_id _ (by omega) (by omega)
  have hw2 : IntKind.i64.wrap (ed - D) = ed - D := wrap_id _ (by omega) (by omega)
  have hw3 : IntKind.i64.wrap (P * R * (ed - D)) = P * R * (ed - D) := wrap_id _ (by omega) (by omega)
  have hw4 : IntKind.i64.wrap (DD + P * R * (ed - D)) = DD + P * R * (ed - D) := wrap_id _ (by omega) (by omega)
  have hw5 : IntKind.i64.wrap (CO + 1) = CO + 1 := wrap_id _ (by omega) (by omega)
  have hw6 : IntKind.i64.wrap (P + ea) = P + ea := wrap_id _ (by omega) (by omega)
  have hw7 : IntKind.i64.wrap (ea * 1000000) = ea * 1000000 := wrap_id _ (by omega) (by omega)
  have hw8 : IntKind.i64.wrap (SP + ea * 1000000) = SP + ea * 1000000 := wrap_id _ (by omega) (by omega)
  have hk3 : ek = 0 ∨ ek = 1 ∨ ek = 2 := by omega
  clear hx ha hk hdy hm hd a1 a2 a3 a4 a5 a6 a7 a8 a9 a10 a11 a12
  rcases hk3 with rfl | rfl | rfl
  · simp only [reduceIte, show ¬ ((0 : Int) = 1) by omega, show ¬ ((0 : Int) = 2) by omega] at HU
    clear hw7 hw8
    go_enter Tryz.func69, Tryz.ntmps69
    go_wp2_with fail
    refine (HU.out _).mono ?_
    rintro e w1 ⟨rfl, hb1⟩
    have hBk : Blk w1 (w.heap.size + 1 + 1) zS := by simpa using Blk.kept (Blk.new _ zS) hb1
    have hk1 : Below w.heap.size w w1 := kept ((((Below.refl _ _).alloc (Nat.le_refl _) _).alloc (by simp) _).alloc (by simp; omega) _) hb1
    have hL : w.heap.size ≤ w.heap.size + 1 + 1 := by omega
    clear hb1
    generalize w.heap.size + 1 + 1 = L at hBk hL ⊢
    obtain ⟨x0, x1, x2, x3, x4, x5⟩ := hBk.six
    have f0 := hBk.free 0
    have f1 := hBk.free 1
    have f2 := hBk.free 2
    have f3 := hBk.free 3
    have f4 := hBk.free 4
    have f5 := hBk.free 5
    go_wp2_with fail
    (try simp only [Exit.inBlock, Exit.then])
    refine bodyPost_ret (ret_state rfl (L := L) (s := t) rfl (put6_blk hBk t)) rfl ⟨rfl, put6_below hk1 L t hL⟩
  · simp only [reduceIte, show ¬ ((1 : Int) = 0) by omega, show ¬ ((1 : Int) = 2) by omega] at HU
    clear hw6
    go_enter Tryz.func69, Tryz.ntmps69
    go_wp2_with fail
    refine (HU.out _).mono ?_
    rintro e w1 ⟨rfl, hb1⟩
    have hBk : Blk w1 (w.heap.size + 1 + 1) zS := by simpa using Blk.kept (Blk.new _ zS) hb1
    have hk1 : Below w.heap.size w w1 := kept ((((Below.refl _ _).alloc (Nat.le_refl _) _).alloc (by simp) _).alloc (by simp; omega) _) hb1
    have hL : w.heap.size ≤ w.heap.size + 1 + 1 := by omega
    clear hb1
    generalize w.heap.size + 1 + 1 = L at hBk hL ⊢
    obtain ⟨x0, x1, x2, x3, x4, x5⟩ := hBk.six
    have f0 := hBk.free 0
    have f1 := hBk.free 1
    have f2 := hBk.free 2
    have f3 := hBk.free 3
    have f4 := hBk.free 4
    have f5 := hBk.free 5
    go_wp2_with fail
    (try simp only [Exit.inBlock, Exit.then])
    refine bodyPost_ret (ret_state rfl (L := L) (s := t) rfl (put6_blk hBk t)) rfl ⟨rfl, put6_below hk1 L t hL⟩
  · simp only [reduceIte, show ¬ ((2 : Int) = 0) by omega, show ¬ ((2 : Int) = 1) by omega] at HU
    clear hw6 hw7 hw8
    go_enter Tryz.func69, Tryz.ntmps69
    go_wp2_with fail
    refine (HU.out _).mono ?_
    rintro e w1 ⟨rfl, hb1⟩
    have hBk : Blk w1 (w.heap.size + 1 + 1) zS := by simpa using Blk.kept (Blk.new _ zS) hb1
    have hk1 : Below w.heap.size w w1 := kept ((((Below.refl _ _).alloc (Nat.le_refl _) _).alloc (by simp) _).alloc (by simp; omega) _) hb1
    have hL : w.heap.size ≤ w.heap.size + 1 + 1 := by omega
    clear hb1
    generalize w.heap.size + 1 + 1 = L at hBk hL ⊢
    obtain ⟨x0, x1, x2, x3, x4, x5⟩ := hBk.six
    have f0 := hBk.free 0
    have f1 := hBk.free 1
    have f2 := hBk.free 2
    have f3 := hBk.free 3
    have f4 := hBk.free 4
    have f5 := hBk.free 5
    go_wp2_with fail
    (try simp only [Exit.inBlock, Exit.then])
    refine bodyPost_ret (ret_state rfl (L := L) (s := t) rfl (put6_blk hBk t)) rfl ⟨rfl, put6_below hk1 L t hL⟩

theorem mayB_not {e : Ev} (h : ¬ MayE e) : mayB e = false := by
  cases hb : mayB e
  · rfl
  · exact absurd (mayB_out hb) h

theorem mayBe_any (e : Ev) (w : World) : Calls Tryz.prog 60 #[evV e] w fun r w' => r = .returned (.bool (mayB e)) ∧ Below w.heap.size w w' := by
  obtain ⟨el, ek, ea, ed⟩ := e
  unfold evV
  by_cases h1 : el < 0
  · rw [mayB_not (fun h => by have := h.1; simp only at this; omega)]
    go_enter Tryz.func60, Tryz.ntmps60
    go_wp2_with fail
    go_ret
    exact ⟨rfl, (Below.refl _ _).alloc (Nat.le_refl _) _⟩
  by_cases h2 : 64 ≤ el
  · rw [mayB_not (fun h => by have := h.1; simp only at this; omega)]
    go_enter Tryz.func60, Tryz.ntmps60
    go_wp2_with fail
    go_ret
    exact ⟨rfl, (Below.refl _ _).alloc (Nat.le_refl _) _⟩
  by_cases h3 : ed < 0
  · rw [mayB_not (fun h => by have := h.2.2.2; simp only at this; omega)]
    go_enter Tryz.func60, Tryz.ntmps60
    go_wp2_with fail
    go_ret
    exact ⟨rfl, (Below.refl _ _).alloc (Nat.le_refl _) _⟩
  by_cases h4 : 10000 < ed
  · rw [mayB_not (fun h => by have := h.2.2.2; simp only at this; omega)]
    go_enter Tryz.func60, Tryz.ntmps60
    go_wp2_with fail
    go_ret
    exact ⟨rfl, (Below.refl _ _).alloc (Nat.le_refl _) _⟩
  by_cases k2 : ek = 2
  · subst k2
    by_cases h5 : 0 ≤ ea
    · by_cases h6 : ea ≤ 1000
      · rw [mayB_of ⟨by simp only; omega, by simp only; omega, by simp only [reduceIte]; omega, by simp only; omega⟩]
        go_enter Tryz.func60, Tryz.ntmps60
        go_wp2_with fail
        go_ret
        exact ⟨rfl, (Below.refl _ _).alloc (Nat.le_refl _) _⟩
      · rw [mayB_not (fun h => by have := h.2.2.1; simp only [reduceIte] at this; omega)]
        go_enter Tryz.func60, Tryz.ntmps60
        go_wp2_with fail
        go_ret
        exact ⟨rfl, (Below.refl _ _).alloc (Nat.le_refl _) _⟩
    · rw [mayB_not (fun h => by have := h.2.2.1; simp only [reduceIte] at this; omega)]
      go_enter Tryz.func60, Tryz.ntmps60
      go_wp2_with fail
      go_ret
      exact ⟨rfl, (Below.refl _ _).alloc (Nat.le_refl _) _⟩
  by_cases k01 : ek = 0 ∨ ek = 1
  · by_cases h5 : 1 ≤ ea
    · by_cases h6 : ea ≤ 100000000
      · rw [mayB_of ⟨by simp only; omega, by simp only; omega, by simp only [if_neg k2]; omega, by simp only; omega⟩]
        clear k2
        rcases k01 with rfl | rfl <;>
          (go_enter Tryz.func60, Tryz.ntmps60
           go_wp2_with fail
           go_ret
           exact ⟨rfl, (Below.refl _ _).alloc (Nat.le_refl _) _⟩)
      · rw [mayB_not (fun h => by have := h.2.2.1; simp only [if_neg k2] at this; omega)]
        clear k2
        rcases k01 with rfl | rfl <;>
          (go_enter Tryz.func60, Tryz.ntmps60
           go_wp2_with fail
           go_ret
           exact ⟨rfl, (Below.refl _ _).alloc (Nat.le_refl _) _⟩)
    · rw [mayB_not (fun h => by have := h.2.2.1; simp only [if_neg k2] at this; omega)]
      clear k2
      rcases k01 with rfl | rfl <;>
        (go_enter Tryz.func60, Tryz.ntmps60
         go_wp2_with fail
         go_ret
         exact ⟨rfl, (Below.refl _ _).alloc (Nat.le_refl _) _⟩)
  · rw [mayB_not (fun h => by have := h.2.1; simp only at this; omega)]
    have i0 : (ek == 0) = false := by simp; omega
    have i1 : (ek == 1) = false := by simp; omega
    have i2 : (ek == 2) = false := by simp; omega
    clear k2 k01
    go_enter Tryz.func60, Tryz.ntmps60
    go_wp2_with fail
    go_ret
    exact ⟨rfl, (Below.refl _ _).alloc (Nat.le_refl _) _⟩

end Go.Proofs.YtedblhcehlbbmaaGreatDoor


/-
  CONTRACT: loans.State: a loan's state behind events.
-/
namespace Go.Proofs.YtedblhcehlbbmaaGreatDoor
set_option maxRecDepth 20000
open Go.RowKit

set_option maxRecDepth 20000 in
set_option maxHeartbeats 2000000 in
theorem loansState_any (n : Nat) (a : Option Addr) (es : List Ev) (cap : Nat) (loan : Int) (w : World) (hn : es.length = n) (hs : Evs w a es) (hlt : ∀ b, a = some ⟨b, 0, none⟩ → b < w.heap.size) (hg : GoodE es) :
    Calls Tryz.prog 42 #[.slice a n cap, .int .i64 loan] w fun r w' => r = .returned (stV (stOf es loan)) ∧ Below w.heap.size w w' := by
  have HN := hid hn; have HS := hid hs; have HLT := hid hlt; have HG := hid hg
  have h200 : n ≤ 200 := by rw [← hn]; exact hg.1
  clear hn hs hlt hg
  go_enter Tryz.func42, Tryz.ntmps42
  go_wp2_with fail
  obtain ⟨L1, hL1⟩ : ∃ L, L = w.heap.size := ⟨_, rfl⟩
  have HB0 := hid (Blk.new (w.alloc (.cells #[.int .i64 zS.principal, .int .i64 zS.due, .int .i64 zS.rate, .int .i64 zS.day, .int .i64 zS.spare, .int .i64 zS.count] 33)) zS)
  have HB1 : Hid (Blk ((w.alloc (.cells #[.int .i64 zS.principal, .int .i64 zS.due, .int .i64 zS.rate, .int .i64 zS.day, .int .i64 zS.spare, .int .i64 zS.count] 33)).alloc (.cells #[.int .i64 zS.principal, .int .i64 zS.due, .int .i64 zS.rate, .int .i64 zS.day, .int .i64 zS.spare, .int .i64 zS.count] 33)) L1 zS) := by
    show Blk _ _ _
    rw [hL1]
    exact (Blk.new w zS).of (Below.heap_alloc _ _ _ (by simp))
  rw [show (w.alloc (.cells #[.int .i64 zS.principal, .int .i64 zS.due, .int .i64 zS.rate, .int .i64 zS.day, .int .i64 zS.spare, .int .i64 zS.count] 33)).heap.size = L1 + 1 by simp [hL1]] at HB0
  rw [← hL1]
  have HLL := hid hL1
  clear hL1
  go_loopw [6] (fun i wr => ∃ k : Nat, k ≤ n ∧ i = .int .i64 (k : Int) ∧ Hid (Blk wr (L1 + 1) (stOf (es.take k) loan)) ∧ Hid (Blk wr L1 zS) ∧ Below w.heap.size w wr) (fun i _ => n - (intOf i).toNat)
  case atStart =>
    refine ⟨0, Nat.zero_le _, rfl, HB0, HB1, ?_⟩
    exact ((Below.refl _ _).alloc (Nat.le_refl _) _).alloc (by simp) _
  case round =>
    obtain ⟨k, hk, rfl, HBK, HB1, hbel⟩ := hrel
    have hszr := hbel.size
    by_cases hlt : k < n
    · have hkl : k < es.length := by rw [HN.out]; exact hlt
      obtain ⟨b, rfl, hc⟩ := (HS.out.under hbel HLT.out).at (by omega)
      have hbw := HLT.out b rfl
      obtain ⟨h0, h1, h2, h3⟩ := hc k hkl
      have hmid := good_mid es k hkl HG.out
      have HSN := hid (stOf_snoc (es.take k) es[k] loan)
      rw [← takeE_snoc es k hkl] at HSN
      have hbs := bd_of (es.take k) loan (HG.out.take k)
      have HNX := hid (fun w => next_any (stOf (es.take k) loan) es[k] w (hbs.1.mono (HG.out.take k).1) hmid.1 (by have := hbs.2; have := hmid.2.1; omega))
      clear hc hmid hbs HB0
      generalize es[k] = e at *
      clear hkl
      obtain ⟨el, ek, ea, ed⟩ := e
      simp only at h0 h1 h2 h3 HSN
      by_cases hl : el = loan
      · rw [if_pos hl] at HSN
        rw [← HSN.out] at HNX
        obtain ⟨s', HSE⟩ : ∃ s', Hid (s' = stOf (es.take (k + 1)) loan) := ⟨_, rfl⟩
        rw [← HSE.out] at HNX HSN
        generalize stOf (es.take k) loan = s at HNX HBK HSN
        subst hl
        unfold stV evV at HNX
        simp only at HNX
        obtain ⟨x0, x1, x2, x3, x4, x5⟩ := HBK.out.six
        go_wp2_with fail
        go_region_with (go_at_call 69; refine (HNX.out _).mono ?_; rintro e w2 ⟨rfl, hb2⟩; have hb3 : Below wr.heap.size wr w2 := kept (by repeat' (first | exact Below.refl _ _ | refine Below.drew ?_)) hb2; have HB3 := hid (HBK.out.kept hb3); obtain ⟨y0, y1, y2, y3, y4, y5⟩ := HB3.out.six; have f0 := HB3.out.free 0; have f1 := HB3.out.free 1; have f2 := HB3.out.free 2; have f3 := HB3.out.free 3; have f4 := HB3.out.free 4; have f5 := HB3.out.free 5)
        all_goals (
          have HP : Hid (Blk (put6 w2 (L1 + 1) s') (L1 + 1) (stOf (es.take (k + 1)) el)) := by
            show Blk _ _ _
            rw [← HSE.out]
            exact put6_blk HB3.out s'
          have HQ := hid ((HB1.out.kept hb3).of (put6_other w2 (L1 + 1) s' L1 (by omega)))
          have HW := put6_below (kept hbel hb3) (L1 + 1) s' (by have := HLL.out; omega)
          clear x0 x1 x2 x3 x4 x5 h0 h1 h2 h3 hb2
          go_wp2_with fail
          go_roundw
          case rel => exact ⟨k + 1, by omega, by go_num, HP, HQ, HW⟩
          case measure => simp [intOf]; omega)
      · rw [if_neg hl] at HSN
        rw [← HSN.out] at HBK
        have i1 : (el == loan) = false := by simp; exact hl
        clear HNX hl
        go_wp2_with fail
        go_roundw
        case rel => exact ⟨k + 1, by omega, by go_num, HBK, HB1, hbel⟩
        case measure => simp [intOf]; omega
    · have HE : Hid (es.take k = es) := List.take_of_length_le (by rw [HN.out]; omega)
      rw [HE.out] at HBK
      obtain ⟨s, HSE⟩ : ∃ s, Hid (s = stOf es loan) := ⟨_, rfl⟩
      rw [← HSE.out] at HBK
      obtain ⟨x0, x1, x2, x3, x4, x5⟩ := HBK.out.six
      obtain ⟨y0, y1, y2, y3, y4, y5⟩ := HB1.out.six
      have f0 := HB1.out.free 0
      have f1 := HB1.out.free 1
      have f2 := HB1.out.free 2
      have f3 := HB1.out.free 3
      have f4 := HB1.out.free 4
      have f5 := HB1.out.free 5
      go_wp2_with fail
      (try simp only [Exit.inBlock, Exit.then])
      refine bodyPost_ret (ret_state rfl (L := L1) (s := s) rfl (put6_blk HB1.out s)) rfl ⟨by rw [HSE.out], put6_below hbel L1 s (by have := HLL.out; omega)⟩

end Go.Proofs.YtedblhcehlbbmaaGreatDoor

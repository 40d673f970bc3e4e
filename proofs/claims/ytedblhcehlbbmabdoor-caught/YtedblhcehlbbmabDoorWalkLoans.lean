/-
  CONTRACTS: package loans: lesser, used, next, MayBe, State.
-/
import Derived.Test.YtedblhcehlbbmabDoorWalkKept
import Derived.Test.YtedblhcehlbbmabDoorWalkBlk
import Derived.WalkKit
import Derived.WalkSpells
import Derived.WalkLawsBesides
namespace Go.Proofs.YtedblhcehlbbmabDoor
open Go.RowKit

theorem lesser_any (a b : Int) (w : World) : Calls Tryd.prog 58 #[.int .i64 a, .int .i64 b] w fun e w' => e = .returned (.int .i64 (if a < b then a else b)) ∧ w' = w := by
  by_cases h : a < b
  · rw [if_pos h]
    go_enter Tryd.func58, Tryd.ntmps58
    go_wp2_with fail
    go_ret
    exact ⟨rfl, rfl⟩
  · rw [if_neg h]
    go_enter Tryd.func58, Tryd.ntmps58
    go_wp2_with fail
    go_ret
    exact ⟨rfl, rfl⟩

set_option maxRecDepth 20000 in
set_option maxHeartbeats 2000000 in
theorem used_any (P D R Y SP C d u Q : Int) (w : World) (hd : d = if SP < D then SP else D) (hq : Q = SP - d) (hu : u = if P < Q / 1000000 then P else Q / 1000000) (hP0 : 0 ≤ P) (hP1 : P ≤ 30000000000) (hD0 : 0 ≤ D) (hD1 : D ≤ 400000000000000000) (hS0 : 0 ≤ SP) (hS1 : SP ≤ 30000000000000000) :
    Calls Tryd.prog 56 #[.agg #[.int .i64 P, .int .i64 D, .int .i64 R, .int .i64 Y, .int .i64 SP, .int .i64 C]] w fun e w' => e = .returned (.agg #[.int .i64 (P - u), .int .i64 (D - d), .int .i64 R, .int .i64 Y, .int .i64 (Q - u * 1000000), .int .i64 C]) ∧ Below w.heap.size w w' := by
  have hd0 : 0 ≤ d ∧ d ≤ SP ∧ d ≤ D := by split at hd <;> omega
  have hu0 : 0 ≤ u ∧ u ≤ P ∧ u * 1000000 ≤ Q := by split at hu <;> omega
  have hw1 : IntKind.i64.wrap (SP - d) = Q := by rw [hq]; exact wrap_id _ (by omega) (by omega)
  have hw2 : IntKind.i64.wrap (D - d) = D - d := wrap_id _ (by omega) (by omega)
  have hw3 : IntKind.i64.wrap (P - u) = P - u := wrap_id _ (by omega) (by omega)
  have hw4 : IntKind.i64.wrap (u * 1000000) = u * 1000000 := wrap_id _ (by omega) (by omega)
  have hw5 : IntKind.i64.wrap (Q - u * 1000000) = Q - u * 1000000 := wrap_id _ (by omega) (by omega)
  have hq0 : 0 ≤ Q := by omega
  have hq1 : Q ≤ 30000000000000000 := by omega
  have HD := hid hd
  have HU := hid hu
  clear hd hu hq
  go_enter Tryd.func56, Tryd.ntmps56
  go_wp2_with fail
  refine (lesser_any SP D _).mono ?_
  rintro e w1 ⟨rfl, rfl⟩
  rw [← HD.out]
  go_wp2_with fail
  refine (lesser_any P (Q / 1000000) _).mono ?_
  rintro e w1 ⟨rfl, rfl⟩
  rw [← HU.out]
  go_wp2_with fail
  (try simp only [Exit.inBlock, Exit.then])
  refine bodyPost_ret (ret_state rfl (L := w.heap.size + 1) (s := ⟨P - u, D - d, R, Y, Q - u * 1000000, C⟩) rfl ?_) rfl ⟨rfl, ?_⟩
  · exact Blk.made _ (by simp) (Below.refl _ _)
  · exact ((Below.refl _ _).alloc (Nat.le_refl _) _).alloc (by simp) _

/-- A state once what is spare has been used; a state behind an event, ahead of that. -/
def useD (s : St) : Int := if s.spare < s.due then s.spare else s.due
def useU (s : St) : Int := if s.principal < (s.spare - useD s) / 1000000 then s.principal else (s.spare - useD s) / 1000000
def useS (s : St) : St := ⟨s.principal - useU s, s.due - useD s, s.rate, s.day, s.spare - useD s - useU s * 1000000, s.count⟩
def preS (s : St) (e : Ev) : St := ⟨prinS s e, dueS s e, rateS s e, e.day, spareS s e, s.count + 1⟩
theorem stepS_use (s : St) (e : Ev) : stepS s e = useS (preS s e) := rfl
theorem used_st (s : St) (w : World) (hP0 : 0 ≤ s.principal) (hP1 : s.principal ≤ 30000000000) (hD0 : 0 ≤ s.due) (hD1 : s.due ≤ 400000000000000000) (hS0 : 0 ≤ s.spare) (hS1 : s.spare ≤ 30000000000000000) :
    Calls Tryd.prog 56 #[stV s] w fun e w' => e = .returned (stV (useS s)) ∧ Below w.heap.size w w' :=
  used_any s.principal s.due s.rate s.day s.spare s.count (useD s) (useU s) (s.spare - useD s) w rfl rfl rfl hP0 hP1 hD0 hD1 hS0 hS1

set_option maxRecDepth 20000 in
set_option maxHeartbeats 2000000 in
theorem next_any (s : St) (e : Ev) (w : World) (h : BdS 200 s) (hm : MayE e) (hd : s.day ≤ e.day) :
    Calls Tryd.prog 52 #[stV s, evV e] w fun r w' => r = .returned (stV (stepS s e)) ∧ Below w.heap.size w w' := by
  have hx := h.prod (by omega) (e.day - s.day) (by omega)
  have ha := hm.amount
  have hk := hm.2.1
  have hdy := hm.2.2.2
  have HU : Hid (∀ w, Calls Tryd.prog 56 #[stV (preS s e)] w fun r w' => r = .returned (stV (stepS s e)) ∧ Below w.heap.size w w') := fun w => by
    rw [stepS_use]
    obtain ⟨a1, a2, a3, a4, a5, a6, a7, a8, a9, a10, a11, a12⟩ := h
    refine used_st (preS s e) w ?_ ?_ ?_ ?_ ?_ ?_ <;> simp only [preS, prinS, dueS, spareS] <;> (try split) <;> omega
  have hr : ∃ t, t = stepS s e := ⟨_, rfl⟩
  obtain ⟨t, ht⟩ := hr
  rw [← ht] at HU ⊢
  clear ht
  unfold stV evV at *
  obtain ⟨P, DD, R, D, SP, CO⟩ := s
  obtain ⟨el, ek, ea, ed⟩ := e
  obtain ⟨a1, a2, a3, a4, a5, a6, a7, a8, a9, a10, a11, a12⟩ := h
  simp only [preS, prinS, dueS, spareS, rateS] at *
  have hw1 : IntKind.i64.wrap (P * R) = P * R := wrap_id _ (by omega) (by omega)
  have hw2 : IntKind.i64.wrap (ed - D) = ed - D := wrap_id _ (by omega) (by omega)
  have hw3 : IntKind.i64.wrap (P * R * (ed - D)) = P * R * (ed - D) := wrap_id _ (by omega) (by omega)
  have hw4 : IntKind.i64.wrap (DD + P * R * (ed - D)) = DD + P * R * (ed - D) := wrap_id _ (by omega) (by omega)
  have hw5 : IntKind.i64.wrap (CO + 1) = CO + 1 := wrap_id _ (by omega) (by omega)
  have hw6 : IntKind.i64.wrap (P + ea) = P + ea := wrap_id _ (by omega) (by omega)
  have hw7 : IntKind.i64.wrap (ea * 1000000) = ea * 1000000 := wrap_id _ (by omega) (by omega)
  have hw8 : IntKind.i64.wrap (SP + ea * 1000000) = SP + ea * 1000000 := wrap_id _ (by omega) (by omega)
  have hk3 : ek = 0 ∨ ek = 1 ∨ ek = 2 := by omega
  clear hx ha hk hdy hm hd a1 a2 a3 a4 a5 a6 a7 a8 a9 a10 a11 a12
  rcases hk3 with rfl | rfl | rfl
  · simp only [reduceIte, show ¬ ((0 : Int) = 1) by omega, show ¬ ((0 : Int) = 2) by omega] at HU
    clear hw7 hw8
    go_enter Tryd.func52, Tryd.ntmps52
    go_wp2_with fail
    refine (HU.out _).mono ?_
    rintro e w1 ⟨rfl, hb1⟩
    have hBk : Blk w1 (w.heap.size + 1 + 1) zS := by simpa using Blk.kept (Blk.new _ zS) hb1
    have hk1 : Below w.heap.size w w1 := kept ((((Below.refl _ _).alloc (Nat.le_refl _) _).alloc (by simp) _).alloc (by simp; omega) _) hb1
    have hL : w.heap.size ≤ w.heap.size + 1 + 1 := by omega
    clear hb1
    generalize w.heap.size + 1 + 1 = L at hBk hL ⊢
    obtain ⟨x0, x1, x2, x3, x4, x5⟩ := hBk.six
    have f0 := hBk.free 0
    have f1 := hBk.free 1
    have f2 := hBk.free 2
    have f3 := hBk.free 3
    have f4 := hBk.free 4
    have f5 := hBk.free 5
    go_wp2_with fail
    (try simp only [Exit.inBlock, Exit.then])
    refine bodyPost_ret (ret_state rfl (L := L) (s := t) rfl (put6_blk hBk t)) rfl ⟨rfl, put6_below hk1 L t hL⟩
  · simp only [reduceIte, show ¬ ((1 : Int) = 0) by omega, show ¬ ((1 : Int) = 2) by omega] at HU
    clear hw6
    go_enter Tryd.func52, Tryd.ntmps52
    go_wp2_with fail
    refine (HU.out _).mono ?_
    rintro e w1 ⟨rfl, hb1⟩
    have hBk : Blk w1 (w.heap.size + 1 + 1) zS := by simpa using Blk.kept (Blk.new _ zS) hb1
    have hk1 : Below w.heap.size w w1 := kept ((((Below.refl _ _).alloc (Nat.le_refl _) _).alloc (by simp) _).alloc (by simp; omega) _) hb1
    have hL : w.heap.size ≤ w.heap.size + 1 + 1 := by omega
    clear hb1
    generalize w.heap.size + 1 + 1 = L at hBk hL ⊢
    obtain ⟨x0, x1, x2, x3, x4, x5⟩ := hBk.six
    have f0 := hBk.free 0
    have f1 := hBk.free 1
    have f2 := hBk.free 2
    have f3 := hBk.free 3
    have f4 := hBk.free 4
    have f5 := hBk.free 5
    go_wp2_with fail
    (try simp only [Exit.inBlock, Exit.then])
    refine bodyPost_ret (ret_state rfl (L := L) (s := t) rfl (put6_blk hBk t)) rfl ⟨rfl, put6_below hk1 L t hL⟩
  · simp only [reduceIte, show ¬ ((2 : Int) = 0) by omega, show ¬ ((2 : Int) = 1) by omega] at HU
    clear hw6 hw7 hw8
    go_enter Tryd.func52, Tryd.ntmps52
    go_wp2_with fail
    refine (HU.out _).mono ?_
    rintro e w1 ⟨rfl, hb1⟩
    have hBk : Blk w1 (w.heap.size + 1 + 1) zS := by simpa using Blk.kept (Blk.new _ zS) hb1
    have hk1 : Below w.heap.size w w1 := kept ((((Below.refl _ _).alloc (Nat.le_refl _) _).alloc (by simp) _).alloc (by simp; omega) _) hb1
    have hL : w.heap.size ≤ w.heap.size + 1 + 1 := by omega
    clear hb1
    generalize w.heap.size + 1 + 1 = L at hBk hL ⊢
    obtain ⟨x0, x1, x2, x3, x4, x5⟩ := hBk.six
    have f0 := hBk.free 0
    have f1 := hBk.free 1
    have f2 := hBk.free 2
    have f3 := hBk.free 3
    have f4 := hBk.free 4
    have f5 := hBk.free 5
    go_wp2_with fail
    (try simp only [Exit.inBlock, Exit.then])
    refine bodyPost_ret (ret_state rfl (L := L) (s := t) rfl (put6_blk hBk t)) rfl ⟨rfl, put6_below hk1 L t hL⟩

theorem mayB_not {e : Ev} (h : ¬ MayE e) : mayB e = false := by
  cases hb : mayB e
  · rfl
  · exact absurd (mayB_out hb) h

theorem mayBe_any (e : Ev) (w : World) : Calls Tryd.prog 39 #[evV e] w fun r w' => r = .returned (.bool (mayB e)) ∧ Below w.heap.size w w' := by
  obtain ⟨el, ek, ea, ed⟩ := e
  unfold evV
  by_cases h1 : el < 0
  · rw [mayB_not (fun h => by have := h.1; simp only at this; omega)]
    go_enter Tryd.func39, Tryd.ntmps39
    go_wp2_with fail
    go_ret
    exact ⟨rfl, (Below.refl _ _).alloc (Nat.le_refl _) _⟩
  by_cases h2 : 64 ≤ el
  · rw [mayB_not (fun h => by have := h.1; simp only at this; omega)]
    go_enter Tryd.func39, Tryd.ntmps39
    go_wp2_with fail
    go_ret
    exact ⟨rfl, (Below.refl _ _).alloc (Nat.le_refl _) _⟩
  by_cases h3 : ed < 0
  · rw [mayB_not (fun h => by have := h.2.2.2; simp only at this; omega)]
    go_enter Tryd.func39, Tryd.ntmps39
    go_wp2_with fail
    go_ret
    exact ⟨rfl, (Below.refl _ _).alloc (Nat.le_refl _) _⟩
  by_cases h4 : 10000 < ed
  · rw [mayB_not (fun h => by have := h.2.2.2; simp only at this; omega)]
    go_enter Tryd.func39, Tryd.ntmps39
    go_wp2_with fail
    go_ret
    exact ⟨rfl, (Below.refl _ _).alloc (Nat.le_refl _) _⟩
  by_cases k2 : ek = 2
  · subst k2
    by_cases h5 : 0 ≤ ea
    · by_cases h6 : ea ≤ 1000
      · rw [mayB_of ⟨by simp only; omega, by simp only; omega, by simp only [reduceIte]; omega, by simp only; omega⟩]
        go_enter Tryd.func39, Tryd.ntmps39
        go_wp2_with fail
        go_ret
        exact ⟨rfl, (Below.refl _ _).alloc (Nat.le_refl _) _⟩
      · rw [mayB_not (fun h => by have := h.2.2.1; simp only [reduceIte] at this; omega)]
        go_enter Tryd.func39, Tryd.ntmps39
        go_wp2_with fail
        go_ret
        exact ⟨rfl, (Below.refl _ _).alloc (Nat.le_refl _) _⟩
    · rw [mayB_not (fun h => by have := h.2.2.1; simp only [reduceIte] at this; omega)]
      go_enter Tryd.func39, Tryd.ntmps39
      go_wp2_with fail
      go_ret
      exact ⟨rfl, (Below.refl _ _).alloc (Nat.le_refl _) _⟩
  by_cases k01 : ek = 0 ∨ ek = 1
  · by_cases h5 : 1 ≤ ea
    · by_cases h6 : ea ≤ 100000000
      · rw [mayB_of ⟨by simp only; omega, by simp only; omega, by simp only [if_neg k2]; omega, by simp only; omega⟩]
        clear k2
        rcases k01 with rfl | rfl <;>
          (go_enter Tryd.func39, Tryd.ntmps39
           go_wp2_with fail
           go_ret
           exact ⟨rfl, (Below.refl _ _).alloc (Nat.le_refl _) _⟩)
      · rw [mayB_not (fun h => by have := h.2.2.1; simp only [if_neg k2] at this; omega)]
        clear k2
        rcases k01 with rfl | rfl <;>
          (go_enter Tryd.func39, Tryd.ntmps39
           go_wp2_with fail
           go_ret
           exact ⟨rfl, (Below.refl _ _).alloc (Nat.le_refl _) _⟩)
    · rw [mayB_not (fun h => by have := h.2.2.1; simp only [if_neg k2] at this; omega)]
      clear k2
      rcases k01 with rfl | rfl <;>
        (go_enter Tryd.func39, Tryd.ntmps39
         go_wp2_with fail
         go_ret
         exact ⟨rfl, (Below.refl _ _).alloc (Nat.le_refl _) _⟩)
  · rw [mayB_not (fun h => by have := h.2.1; simp only at this; omega)]
    have i0 : (ek == 0) = false := by simp; omega
    have i1 : (ek == 1) = false := by simp; omega
    have i2 : (ek == 2) = false := by simp; omega
    clear k2 k01
    go_enter Tryd.func39, Tryd.ntmps39
    go_wp2_with fail
    go_ret
    exact ⟨rfl, (Below.refl _ _).alloc (Nat.le_refl _) _⟩

end Go.Proofs.YtedblhcehlbbmabDoor

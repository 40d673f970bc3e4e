import Derived.Test.YtedblhcehlbbmaaGreatDoorWalkBook
import Derived.WalkKit
import Derived.WalkSpells
import Derived.WalkLawsBesides
import Derived.Deep.AppendLies
import Derived.Deep.RegionLaw
import Derived.Deep.QuietTactic
import Derived.BigQuiet
/-
  THE DOCUMENT's BOOK: lenderref.may, Add.
-/
namespace Go.Proofs.YtedblhcehlbbmaaGreatDoor
set_option maxRecDepth 20000
open Go.RowKit

/-- In the world w the pointer v holds the document's book with these events, in the blocks S. -/
def RRep (w : World) (S : Nat → Prop) (v : Value) (es : List Ev) : Prop :=
  ∃ (p : Nat) (u : Value), v = .pointer (some ⟨p, 0, none⟩) ∧ w.heap[p]? = some (.cells #[u] 48 (0, 0)) ∧ OwnE w 0 u es ∧ u.ownBlock ≠ some p ∧ GoodE es ∧ ∀ k, S k ↔ k = p ∨ u.ownBlock = some k
theorem RRep.lt {w : World} {S : Nat → Prop} {v : Value} {es : List Ev} (h : RRep w S v es) (k : Nat) (hk : S k) : k < w.heap.size := by
  obtain ⟨p, u, rfl, hp, hu, _, _, hS⟩ := h
  rcases (hS k).1 hk with rfl | h
  · exact lt_of_block hp
  · exact (hu.lt k h).2
theorem RRep.stay {w w' : World} {S : Nat → Prop} {v : Value} {es : List Ev} (h : RRep w S v es) (hb : ∀ k, S k → w'.heap[k]? = w.heap[k]?) : RRep w' S v es := by
  obtain ⟨p, u, rfl, hp, hu, hne, hg, hS⟩ := h
  exact ⟨p, u, rfl, by rw [hb p ((hS p).2 (.inl rfl))]; exact hp, hu.stay (fun k hk => hb k ((hS k).2 (.inr hk))), hne, hg, hS⟩

set_option maxHeartbeats 2000000 in
theorem rmay_any (e : Ev) (w : World) : Calls Tryz.prog 61 #[evV e] w fun r w' => r = .returned (.bool (mayB e)) ∧ Below w.heap.size w w' := by
  obtain ⟨el, ek, ea, ed⟩ := e
  unfold evV
  by_cases k2 : ek = 2
  · subst k2
    by_cases c0 : 0 ≤ el
    case neg =>
      rw [mayB_not (fun h => by have := h.1; simp only at this; omega)]
      go_enter Tryz.func61, Tryz.ntmps61
      go_wp2_with fail
      go_ret
      exact ⟨rfl, (Below.refl _ _).alloc (Nat.le_refl _) _⟩
    case pos =>
    by_cases c1 : el ≤ 63
    case neg =>
      rw [mayB_not (fun h => by have := h.1; simp only at this; omega)]
      go_enter Tryz.func61, Tryz.ntmps61
      go_wp2_with fail
      go_ret
      exact ⟨rfl, (Below.refl _ _).alloc (Nat.le_refl _) _⟩
    case pos =>
    by_cases c2 : 0 ≤ ea
    case neg =>
      rw [mayB_not (fun h => by have := h.2.2.1; simp only [reduceIte] at this; omega)]
      go_enter Tryz.func61, Tryz.ntmps61
      go_wp2_with fail
      go_ret
      exact ⟨rfl, (Below.refl _ _).alloc (Nat.le_refl _) _⟩
    case pos =>
    by_cases c3 : ea ≤ 1000
    case neg =>
      rw [mayB_not (fun h => by have := h.2.2.1; simp only [reduceIte] at this; omega)]
      go_enter Tryz.func61, Tryz.ntmps61
      go_wp2_with fail
      go_ret
      exact ⟨rfl, (Below.refl _ _).alloc (Nat.le_refl _) _⟩
    case pos =>
    by_cases c4 : 0 ≤ ed
    case neg =>
      rw [mayB_not (fun h => by have := h.2.2.2; simp only at this; omega)]
      go_enter Tryz.func61, Tryz.ntmps61
      go_wp2_with fail
      go_ret
      exact ⟨rfl, (Below.refl _ _).alloc (Nat.le_refl _) _⟩
    case pos =>
    by_cases c5 : ed ≤ 10000
    case neg =>
      rw [mayB_not (fun h => by have := h.2.2.2; simp only at this; omega)]
      go_enter Tryz.func61, Tryz.ntmps61
      go_wp2_with fail
      go_ret
      exact ⟨rfl, (Below.refl _ _).alloc (Nat.le_refl _) _⟩
    case pos =>
    rw [mayB_of ⟨by simp only; omega, by simp only; omega, by simp only [reduceIte]; omega, by simp only; omega⟩]
    go_enter Tryz.func61, Tryz.ntmps61
    go_wp2_with fail
    go_ret
    exact ⟨rfl, (Below.refl _ _).alloc (Nat.le_refl _) _⟩
  · have t2 : (ek == 2) = false := by simp; exact k2
    by_cases c0 : 0 ≤ el
    case neg =>
      rw [mayB_not (fun h => by have := h.1; simp only at this; omega)]
      clear k2
      go_enter Tryz.func61, Tryz.ntmps61
      go_wp2_with fail
      go_ret
      exact ⟨rfl, (Below.refl _ _).alloc (Nat.le_refl _) _⟩
    case pos =>
    by_cases c1 : el ≤ 63
    case neg =>
      rw [mayB_not (fun h => by have := h.1; simp only at this; omega)]
      clear k2
      go_enter Tryz.func61, Tryz.ntmps61
      go_wp2_with fail
      go_ret
      exact ⟨rfl, (Below.refl _ _).alloc (Nat.le_refl _) _⟩
    case pos =>
    by_cases c2 : 0 ≤ ek
    case neg =>
      rw [mayB_not (fun h => by have := h.2.1; simp only at this; omega)]
      clear k2
      go_enter Tryz.func61, Tryz.ntmps61
      go_wp2_with fail
      go_ret
      exact ⟨rfl, (Below.refl _ _).alloc (Nat.le_refl _) _⟩
    case pos =>
    by_cases c3 : ek ≤ 2
    case neg =>
      rw [mayB_not (fun h => by have := h.2.1; simp only at this; omega)]
      clear k2
      go_enter Tryz.func61, Tryz.ntmps61
      go_wp2_with fail
      go_ret
      exact ⟨rfl, (Below.refl _ _).alloc (Nat.le_refl _) _⟩
    case pos =>
    by_cases c4 : 1 ≤ ea
    case neg =>
      rw [mayB_not (fun h => by have := h.2.2.1; simp only [if_neg k2] at this; omega)]
      clear k2
      go_enter Tryz.func61, Tryz.ntmps61
      go_wp2_with fail
      go_ret
      exact ⟨rfl, (Below.refl _ _).alloc (Nat.le_refl _) _⟩
    case pos =>
    by_cases c5 : ea ≤ 100000000
    case neg =>
      rw [mayB_not (fun h => by have := h.2.2.1; simp only [if_neg k2] at this; omega)]
      clear k2
      go_enter Tryz.func61, Tryz.ntmps61
      go_wp2_with fail
      go_ret
      exact ⟨rfl, (Below.refl _ _).alloc (Nat.le_refl _) _⟩
    case pos =>
    by_cases c6 : 0 ≤ ed
    case neg =>
      rw [mayB_not (fun h => by have := h.2.2.2; simp only at this; omega)]
      clear k2
      go_enter Tryz.func61, Tryz.ntmps61
      go_wp2_with fail
      go_ret
      exact ⟨rfl, (Below.refl _ _).alloc (Nat.le_refl _) _⟩
    case pos =>
    by_cases c7 : ed ≤ 10000
    case neg =>
      rw [mayB_not (fun h => by have := h.2.2.2; simp only at this; omega)]
      clear k2
      go_enter Tryz.func61, Tryz.ntmps61
      go_wp2_with fail
      go_ret
      exact ⟨rfl, (Below.refl _ _).alloc (Nat.le_refl _) _⟩
    case pos =>
    rw [mayB_of ⟨by simp only; omega, by simp only; omega, by simp only [if_neg k2]; omega, by simp only; omega⟩]
    clear k2
    go_enter Tryz.func61, Tryz.ntmps61
    go_wp2_with fail
    go_ret
    exact ⟨rfl, (Below.refl _ _).alloc (Nat.le_refl _) _⟩

theorem rsame_book {w w' : World} {S : Nat → Prop} {v : Value} {es : List Ev} (h : RRep w S v es) (hb : Below w.heap.size w w') : ∃ S', RRep w' S' v es ∧ (∀ k, S' k → S k ∨ w.heap.size ≤ k) ∧ Besides S w w' :=
  ⟨S, h.stay (fun k hk => hb.block k (h.lt k hk)), fun _ hk => .inl hk, Besides.of_below hb⟩


theorem radd_at {w W w' : World} {p : Nat} {u : Value} (hkW : Below w.heap.size w W) (hp : w.heap[p]? = some (.cells #[u] 48 (0, 0))) (hne : u.ownBlock ≠ some p) (hG : W.grownBy w' u.ownBlock) : w'.heap[p]? = some (.cells #[u] 48 (0, 0)) := by
  have hpl := lt_of_block hp
  have := hkW.size
  rw [hG.block p (by omega) (Ne.symm hne), hkW.block p hpl]
  exact hp
theorem radd_after {w W w' : World} {S : Nat → Prop} {p : Nat} {u u' : Value} {es : List Ev} {e : Ev} (hkW : Below w.heap.size w W) (hp : w.heap[p]? = some (.cells #[u] 48 (0, 0))) (hne : u.ownBlock ≠ some p) (hS : ∀ k, S k ↔ k = p ∨ u.ownBlock = some k) (hgs : GoodE (es ++ [e]))
    (hO : OwnE w' 0 u' (es ++ [e])) (hG : W.grownBy w' u.ownBlock) (hat : u'.ownBlock = u.ownBlock ∨ u'.ownBlock = some W.heap.size) :
    ∃ S', RRep (w'.setCell ⟨p, 0, none⟩ u') S' (.pointer (some ⟨p, 0, none⟩)) (es ++ [e]) ∧ (∀ k, S' k → S k ∨ w.heap.size ≤ k) ∧ Besides S w (w'.setCell ⟨p, 0, none⟩ u') := by
  have hpl := lt_of_block hp
  have hsz := hkW.size
  have hp' := radd_at hkW hp hne hG
  have hne' : u'.ownBlock ≠ some p := by
    rcases hat with h | h
    · rw [h]; exact hne
    · rw [h]; intro h; cases h; omega
  refine ⟨fun k => k = p ∨ u'.ownBlock = some k, ⟨p, u', rfl, blk_setCell hp', hO.stay (fun k hk => ?_), hne', hgs, fun k => Iff.rfl⟩, ?_, ?_⟩
  · exact Below.heap_setCell _ _ _ _ (fun h => hne' (by rw [hk, h]))
  · intro k hk
    rcases hk with rfl | hk
    · exact .inl ((hS k).2 (.inl rfl))
    · rcases hat with h | h
      · exact .inl ((hS k).2 (.inr (by rw [← h]; exact hk)))
      · rw [h] at hk; cases hk; exact .inr hsz
  · have h0 : Below 0 w' (w'.setCell ⟨p, 0, none⟩ u') := (Below.refl _ _).setCell (Nat.zero_le _) _
    refine ⟨by rw [h0.os, hG.os, hkW.os], by rw [h0.tape, hG.tape, hkW.tape], by rw [h0.output, hG.output, hkW.output], Nat.le_trans hsz (Nat.le_trans hG.size h0.size), fun k hk hn => ?_⟩
    rw [Below.heap_setCell _ _ _ _ (fun h => hn ((hS k).2 (.inl h))), hG.block k (by omega) (fun h => hn ((hS k).2 (.inr h.symm))), hkW.block k hk]

set_option maxRecDepth 20000 in
set_option maxHeartbeats 2000000 in
theorem radd_full (w : World) (S : Nat → Prop) (v : Value) (es : List Ev) (e : Ev) (h : RRep w S v es) (hl : 200 ≤ es.length) :
    Calls Tryz.prog 31 #[v, evV e] w fun r w' => r = .returned (.int .i64 6) ∧ Below w.heap.size w w' := by
  obtain ⟨p, u, rfl, hp, hu, _, hg, _⟩ := h
  have hpl := lt_of_block hp
  obtain ⟨a, cap, rfl, _, _, hE, hlt⟩ := hu.form
  have hc := cell_one hp
  have h200 := hg.1
  have HM := hid (fun w => rmay_any e w)
  generalize mayB e = b at HM
  clear hp hu hg hE hlt
  generalize es.length = n at *
  obtain rfl : n = 200 := by omega
  unfold evV at *
  go_enter Tryz.func31, Tryz.ntmps31
  go_wp2_with fail
  refine (HM.out _).mono ?_
  rintro e w1 ⟨rfl, hb1⟩
  have hk1 : Below w.heap.size w w1 := kept ((Below.refl _ _).alloc (Nat.le_refl _) _) hb1
  go_wp2_with fail
  go_ret
  exact ⟨rfl, hk1⟩

set_option maxRecDepth 20000 in
set_option maxHeartbeats 2000000 in
theorem radd_bad (w : World) (S : Nat → Prop) (v : Value) (es : List Ev) (e : Ev) (h : RRep w S v es) (hl : es.length < 200) (hm : mayB e = false) :
    Calls Tryz.prog 31 #[v, evV e] w fun r w' => r = .returned (.int .i64 4) ∧ Below w.heap.size w w' := by
  obtain ⟨p, u, rfl, hp, hu, _, hg, _⟩ := h
  have hpl := lt_of_block hp
  obtain ⟨a, cap, rfl, _, _, hE, hlt⟩ := hu.form
  have hc := cell_one hp
  have HM := hid (fun w => rmay_any e w)
  rw [hm] at HM
  clear hp hu hg hE hlt hm
  generalize es.length = n at *
  have t200 : ((n : Int) == 200) = false := by simp; omega
  unfold evV at *
  go_enter Tryz.func31, Tryz.ntmps31
  go_wp2_with fail
  refine (HM.out _).mono ?_
  rintro e w1 ⟨rfl, hb1⟩
  have hk1 : Below w.heap.size w w1 := kept ((Below.refl _ _).alloc (Nat.le_refl _) _) hb1
  go_wp2_with fail
  go_ret
  exact ⟨rfl, hk1⟩

set_option maxRecDepth 20000 in
set_option maxHeartbeats 2000000 in
theorem radd_day (w : World) (S : Nat → Prop) (v : Value) (q : List Ev) (x e : Ev) (h : RRep w S v (q ++ [x])) (hl : (q ++ [x]).length < 200) (hm : mayB e = true) (hd : e.day < x.day) :
    Calls Tryz.prog 31 #[v, evV e] w fun r w' => r = .returned (.int .i64 5) ∧ Below w.heap.size w w' := by
  obtain ⟨p, u, rfl, hp, hu, _, hg, _⟩ := h
  have hpl := lt_of_block hp
  have hlen : (q ++ [x]).length = q.length + 1 := by simp
  obtain ⟨a, cap, rfl, _, _, hE, hlt⟩ := hu.form
  obtain ⟨b, rfl, hcs⟩ := hE.at (by omega)
  have hbl := hlt b rfl
  have hx3 := (hcs q.length (by omega)).2.2.2
  rw [show (q ++ [x])[q.length]'(by omega) = x by simp] at hx3
  rw [hlen] at hp hl
  rw [hlen] at hu
  have HM := hid (fun w => rmay_any e w)
  rw [hm] at HM
  obtain ⟨el, ek, ea, ed⟩ := e
  generalize x.day = xd at *
  generalize q.length = m at *
  clear hu hg hlt hm hcs hE hlen
  have t200 : ((m : Int) + 1 == 200) = false := by simp; omega
  unfold evV at *
  simp only at hd HM
  go_enter Tryz.func31, Tryz.ntmps31
  have hc := cell_one hp
  go_wp2_with fail
  refine (HM.out _).mono ?_
  rintro e w1 ⟨rfl, hb1⟩
  have hk1 : Below w.heap.size w w1 := kept ((Below.refl _ _).alloc (Nat.le_refl _) _) hb1
  obtain ⟨_, _, _, z3⟩ := cell_four w (.int .i64 el) (.int .i64 ek) (.int .i64 ea) (.int .i64 ed) 31
  have y3 := cell_kept z3 hb1
  have c1 := cell_kept hc hk1
  have x1 := cell_kept hx3 hk1
  have hdg : decide ((0 : Int) < (m : Int) + 1) = true := by simp
  clear hb1 z3 hc hx3
  go_wp2_with fail
  go_quiet (fail)
  go_wp2_with fail
  go_ret
  exact ⟨rfl, below_drewN hk1 _⟩

set_option maxRecDepth 20000 in
set_option maxHeartbeats 2000000 in
theorem radd_ok (w : World) (S : Nat → Prop) (v : Value) (q : List Ev) (x e : Ev) (h : RRep w S v (q ++ [x])) (hl : (q ++ [x]).length < 200) (hm : mayB e = true) (hd : ¬ e.day < x.day) :
    Calls Tryz.prog 31 #[v, evV e] w fun r w' => r = .returned (.int .i64 0) ∧ ∃ S', RRep w' S' v (q ++ [x] ++ [e]) ∧ (∀ k, S' k → S k ∨ w.heap.size ≤ k) ∧ Besides S w w' := by
  obtain ⟨p, u, rfl, hp, hu, hne, hg, hS⟩ := h
  have hpl := lt_of_block hp
  have hlen : (q ++ [x]).length = q.length + 1 := by simp
  obtain ⟨a, cap, hfm, _, _, hE, hlt⟩ := hu.form
  obtain ⟨b, rfl, hcs⟩ := hE.at (by omega)
  have hbl := hlt b rfl
  have hx3 := (hcs q.length (by omega)).2.2.2
  rw [show (q ++ [x])[q.length]'(by omega) = x by simp] at hx3
  rw [hlen] at hl hfm
  have HM := hid (fun w => rmay_any e w)
  rw [hm] at HM
  have HOW : Hid (∀ W, Below w.heap.size w W → OwnE W 0 u (q ++ [x])) := fun W hb => hu.stay (fun k hk => hb.block k (hu.lt k hk).2)
  have HL := hid hlen
  have HGS : Hid (GoodE (q ++ [x] ++ [e])) := hg.snoc (by rw [hlen]; exact hl) (mayB_out hm) (by rw [lastD_snoc]; omega)
  obtain ⟨el, ek, ea, ed⟩ := e
  generalize x.day = xd at *
  generalize q.length = m at *
  clear hu hlt hm hcs hE hlen hg
  have t200 : ((m : Int) + 1 == 200) = false := by simp; omega
  unfold evV at *
  simp only at hd HM
  have hc := cell_one hp
  rw [hfm] at hc
  have HP := hid hp
  have HNE := hid hne
  have HSS := hid hS
  have HFM := hid hfm
  clear hp hne hS hfm
  go_enter Tryz.func31, Tryz.ntmps31
  go_wp2_with fail
  refine (HM.out _).mono ?_
  rintro e w1 ⟨rfl, hb1⟩
  have hk1 : Below w.heap.size w w1 := kept ((Below.refl _ _).alloc (Nat.le_refl _) _) hb1
  obtain ⟨z0, z1, z2, z3⟩ := cell_four w (.int .i64 el) (.int .i64 ek) (.int .i64 ea) (.int .i64 ed) 31
  have y0 := cell_kept z0 hb1
  have y1 := cell_kept z1 hb1
  have y2 := cell_kept z2 hb1
  have y3 := cell_kept z3 hb1
  have c1 := cell_kept hc hk1
  have x1 := cell_kept hx3 hk1
  have hdg : decide ((0 : Int) < (m : Int) + 1) = true := by simp
  clear hb1 z0 z1 z2 z3 hc hx3
  go_wp2_with fail
  go_quiet (fail)
  have hk2 := below_drewN hk1 nq
  have hq : ∀ a, (w1.drewN nq).cell? a = w1.cell? a := fun _ => rfl
  rw [← hq] at y0 y1 y2 y3 c1
  clear hq x1 hdg
  generalize w1.drewN nq = w2 at y0 y1 y2 y3 c1 hk2 ⊢
  clear hk1
  have hLb := World.block_lt_of_cell? _ _ y0
  have hpL := World.block_lt_of_cell? _ _ c1
  go_wp2_with fail
  go_region_law ((refine step_appE (by rfl) _ _ (by rfl) u (q ++ [x]) ⟨el, ek, ea, ed⟩ (by rw [HFM.out]; rfl) (HOW.out _ (kept hk2 (by repeat' (first | exact Below.refl _ _ | refine Below.drew ?_ | refine Below.alloc ?_ (by simp) _)))) _ _ (by rfl) (by go_simp) (by go_simp) (by go_simp) (by go_simp) (by rw [HL.out]; omega) ?_; intro v' w' hO hG hat; have HAF := hid (radd_after (kept hk2 (by repeat' (first | exact Below.refl _ _ | refine Below.drew ?_ | refine Below.alloc ?_ (by simp) _))) HP.out HNE.out HSS.out HGS.out hO hG hat); obtain ⟨a2, k2, rfl, _, _, _, _⟩ := hO.form; have hpb := radd_at (kept hk2 (by repeat' (first | exact Below.refl _ _ | refine Below.drew ?_ | refine Below.alloc ?_ (by simp) _))) HP.out HNE.out hG; have cc := cell_one hpb; have ff := free_one hpb; clear hpb hO hG hat))
  all_goals (
    go_wp2_with fail
    go_ret
    have hAF := HAF.out
    rw [show (q ++ [x] ++ [(⟨el, ek, ea, ed⟩ : Ev)]).length = q.length + 2 by simp] at hAF
    exact ⟨rfl, hAF⟩)

set_option maxRecDepth 20000 in
set_option maxHeartbeats 2000000 in
theorem radd_ok0 (w : World) (S : Nat → Prop) (v : Value) (e : Ev) (h : RRep w S v []) (hm : mayB e = true) :
    Calls Tryz.prog 31 #[v, evV e] w fun r w' => r = .returned (.int .i64 0) ∧ ∃ S', RRep w' S' v ([] ++ [e]) ∧ (∀ k, S' k → S k ∨ w.heap.size ≤ k) ∧ Besides S w w' := by
  obtain ⟨p, u, rfl, hp, hu, hne, hg, hS⟩ := h
  have hpl := lt_of_block hp
  obtain ⟨a, cap, hfm, _, _, _, _⟩ := hu.form
  simp only [List.length_nil] at hfm
  have HM := hid (fun w => rmay_any e w)
  rw [hm] at HM
  have HOW : Hid (∀ W, Below w.heap.size w W → OwnE W 0 u []) := fun W hb => hu.stay (fun k hk => hb.block k (hu.lt k hk).2)
  have HGS : Hid (GoodE ([] ++ [e])) := hg.snoc (by simp) (mayB_out hm) (by rw [lastD_nil]; exact (mayB_out hm).2.2.2.1)
  obtain ⟨el, ek, ea, ed⟩ := e
  clear hu hm hg
  unfold evV at *
  simp only at HM
  have hc := cell_one hp
  rw [hfm] at hc
  have HP := hid hp
  have HNE := hid hne
  have HSS := hid hS
  have HFM := hid hfm
  clear hp hne hS hfm
  go_enter Tryz.func31, Tryz.ntmps31
  go_wp2_with fail
  refine (HM.out _).mono ?_
  rintro e w1 ⟨rfl, hb1⟩
  have hk1 : Below w.heap.size w w1 := kept ((Below.refl _ _).alloc (Nat.le_refl _) _) hb1
  obtain ⟨z0, z1, z2, z3⟩ := cell_four w (.int .i64 el) (.int .i64 ek) (.int .i64 ea) (.int .i64 ed) 31
  have y0 := cell_kept z0 hb1
  have y1 := cell_kept z1 hb1
  have y2 := cell_kept z2 hb1
  have y3 := cell_kept z3 hb1
  have c1 := cell_kept hc hk1
  clear hb1 z0 z1 z2 z3 hc
  go_wp2_with fail
  go_quiet (fail)
  have hk2 := below_drewN hk1 nq
  have hq : ∀ a, (w1.drewN nq).cell? a = w1.cell? a := fun _ => rfl
  rw [← hq] at y0 y1 y2 y3 c1
  clear hq
  generalize w1.drewN nq = w2 at y0 y1 y2 y3 c1 hk2 ⊢
  clear hk1
  have hLb := World.block_lt_of_cell? _ _ y0
  have hpL := World.block_lt_of_cell? _ _ c1
  go_wp2_with fail
  go_region_law ((refine step_appE (by rfl) _ _ (by rfl) u [] ⟨el, ek, ea, ed⟩ (by rw [HFM.out]; rfl) (HOW.out _ (kept hk2 (by repeat' (first | exact Below.refl _ _ | refine Below.drew ?_ | refine Below.alloc ?_ (by simp) _)))) _ _ (by rfl) (by go_simp) (by go_simp) (by go_simp) (by go_simp) (by simp) ?_; intro v' w' hO hG hat; have HAF := hid (radd_after (kept hk2 (by repeat' (first | exact Below.refl _ _ | refine Below.drew ?_ | refine Below.alloc ?_ (by simp) _))) HP.out HNE.out HSS.out HGS.out hO hG hat); obtain ⟨a2, k2, rfl, _, _, _, _⟩ := hO.form; have hpb := radd_at (kept hk2 (by repeat' (first | exact Below.refl _ _ | refine Below.drew ?_ | refine Below.alloc ?_ (by simp) _))) HP.out HNE.out hG; have cc := cell_one hpb; have ff := free_one hpb; clear hpb hO hG hat))
  all_goals (
    go_wp2_with fail
    go_ret
    exact ⟨rfl, HAF.out⟩)

theorem radd_any (w : World) (S : Nat → Prop) (v : Value) (es : List Ev) (e : Ev) (h : RRep w S v es) :
    Calls Tryz.prog 31 #[v, evV e] w fun r w' => r = .returned (.int .i64 (addN es (mayB e) e.day)) ∧ ∃ S', RRep w' S' v (addL es e) ∧ (∀ k, S' k → S k ∨ w.heap.size ≤ k) ∧ Besides S w w' := by
  by_cases hf : 200 ≤ es.length
  · have ha : addN es (mayB e) e.day = 6 := by unfold addN; rw [if_pos hf]
    rw [addL_same (by rw [ha]; omega), ha]
    exact (radd_full w S v es e h hf).mono fun r w' ⟨h1, h2⟩ => ⟨h1, rsame_book h h2⟩
  · cases hm : mayB e
    · have ha : addN es false e.day = 4 := by unfold addN; rw [if_neg hf, if_pos rfl]
      rw [addL_same (by rw [hm, ha]; omega), ha]
      exact (radd_bad w S v es e h (by omega) hm).mono fun r w' ⟨h1, h2⟩ => ⟨h1, rsame_book h h2⟩
    · rcases List.eq_nil_or_concat es with rfl | ⟨q, x, rfl⟩
      · have hy := (mayB_out hm).2.2.2.1
        have ha : addN [] true e.day = 0 := addN_ok (by simp) (by rw [lastD_nil]; exact hy)
        have hL : addL [] e = [] ++ [e] := by unfold addL; rw [hm, ha, if_pos rfl]
        rw [hL, ha]
        exact radd_ok0 w S v e h hm
      · rw [List.concat_eq_append] at *
        by_cases hd : e.day < x.day
        · have ha : addN (q ++ [x]) true e.day = 5 := by unfold addN; rw [if_neg hf, if_neg (by simp), lastD_snoc, if_pos hd]
          rw [addL_same (by rw [hm, ha]; omega), ha]
          exact (radd_day w S v q x e h (by omega) hm hd).mono fun r w' ⟨h1, h2⟩ => ⟨h1, rsame_book h h2⟩
        · have ha : addN (q ++ [x]) true e.day = 0 := addN_ok (by omega) (by rw [lastD_snoc]; omega)
          have hL : addL (q ++ [x]) e = q ++ [x] ++ [e] := by unfold addL; rw [hm, ha, if_pos rfl]
          rw [hL, ha]
          exact radd_ok w S v q x e h (by omega) hm hd

end Go.Proofs.YtedblhcehlbbmaaGreatDoor

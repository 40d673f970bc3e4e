import Derived.Test.YtedblhcehlbbmaaGreatDoorJWalkLoans
import Derived.WalkKit
import Derived.WalkSpells
import Derived.WalkLawsBesides
import Derived.Deep.AppendLies
import Derived.Deep.RegionLaw
import Derived.Deep.QuietTactic
import Derived.BigQuiet
/-
  THE BOOK: New, Add, Size, State: 'book_spec'.
-/
namespace Go.Proofs.YtedblhcehlbbmaaGreatDoor
set_option maxRecDepth 20000
open Go.RowKit

/-- In the world w the pointer v holds a book with these events, in the blocks S. -/
def Rep (w : World) (S : Nat → Prop) (v : Value) (es : List Ev) : Prop :=
  ∃ (p : Nat) (u : Value), v = .pointer (some ⟨p, 0, none⟩) ∧ w.heap[p]? = some (.cells #[u] 56 (0, 0)) ∧ OwnE w 0 u es ∧ u.ownBlock ≠ some p ∧ GoodE es ∧ ∀ k, S k ↔ k = p ∨ u.ownBlock = some k
theorem OwnE.stay {w w' : World} {u : Value} {l : List Ev} (h : OwnE w 0 u l) (hb : ∀ k, u.ownBlock = some k → w'.heap[k]? = w.heap[k]?) : OwnE w' 0 u l := by
  obtain ⟨h1, h2⟩ := h
  refine ⟨h1, ?_⟩
  rcases h2 with h2 | ⟨g, cap, cur, rfl, e2, e3, e4⟩
  · exact .inl h2
  · exact .inr ⟨g, cap, cur, rfl, e2, by rw [hb g rfl]; exact e3, e4⟩
theorem Rep.lt {w : World} {S : Nat → Prop} {v : Value} {es : List Ev} (h : Rep w S v es) (k : Nat) (hk : S k) : k < w.heap.size := by
  obtain ⟨p, u, rfl, hp, hu, _, _, hS⟩ := h
  rcases (hS k).1 hk with rfl | h
  · exact lt_of_block hp
  · exact (hu.lt k h).2
theorem Rep.stay {w w' : World} {S : Nat → Prop} {v : Value} {es : List Ev} (h : Rep w S v es) (hb : ∀ k, S k → w'.heap[k]? = w.heap[k]?) : Rep w' S v es := by
  obtain ⟨p, u, rfl, hp, hu, hne, hg, hS⟩ := h
  exact ⟨p, u, rfl, by rw [hb p ((hS p).2 (.inl rfl))]; exact hp, hu.stay (fun k hk => hb k ((hS k).2 (.inr hk))), hne, hg, hS⟩
theorem cell_one {w : World} {p : Nat} {u : Value} {t : TypeId} (h : w.heap[p]? = some (.cells #[u] t (0, 0))) : w.cell? ⟨p, 0, none⟩ = some u := by simp [World.cell?, h]
theorem free_one {w : World} {p : Nat} {u : Value} {t : TypeId} (h : w.heap[p]? = some (.cells #[u] t (0, 0))) : w.frozen? ⟨p, 0, none⟩ = false := by simp [World.frozen?, h]

theorem new_any (w : World) : Calls Tryz.prog 7 #[] w fun r w' => ∃ v S, r = .returned v ∧ Rep w' S v [] ∧ (∀ k, S k → w.heap.size ≤ k) ∧ Below w.heap.size w w' := by
  go_enter Tryz.func7, Tryz.ntmps7
  go_wp2_with fail
  go_ret
  refine ⟨.pointer (some ⟨w.heap.size, 0, none⟩), fun k => k = w.heap.size, rfl, ⟨w.heap.size, .slice none 0 0, rfl, heap_alloc_new _ _, OwnE.nil _ _, (fun h => by cases h), GoodE.nil, fun k => ⟨.inl, fun h => ?_⟩⟩, fun k hk => by rw [hk]; exact Nat.le_refl _, (Below.refl _ _).alloc (Nat.le_refl _) _⟩
  rcases h with h | h
  · exact h
  · cases h

theorem size_any (w : World) (S : Nat → Prop) (v : Value) (es : List Ev) (h : Rep w S v es) :
    Calls Tryz.prog 18 #[v] w fun r w' => r = .returned (.int .i64 (es.length : Int)) ∧ Below w.heap.size w w' := by
  obtain ⟨p, u, rfl, hp, hu, _, hg, _⟩ := h
  have h200 := hg.1
  obtain ⟨a, cap, rfl, _, _, _, _⟩ := hu.form
  have hc := cell_one hp
  clear hp hu hg
  generalize es.length = n at *
  go_enter Tryz.func18, Tryz.ntmps18
  go_wp2_with fail
  go_ret
  exact ⟨rfl, Below.refl _ _⟩

theorem state_any (w : World) (S : Nat → Prop) (v : Value) (es : List Ev) (loan : Int) (h : Rep w S v es) :
    Calls Tryz.prog 19 #[v, .int .i64 loan] w fun r w' => r = .returned (.tuple #[stV (if 0 ≤ loan ∧ loan ≤ 63 then stOf es loan else zS), .int .i64 (if 0 ≤ loan ∧ loan ≤ 63 then 0 else 1)]) ∧ Below w.heap.size w w' := by
  obtain ⟨p, u, rfl, hp, hu, _, hg, _⟩ := h
  have hpl := lt_of_block hp
  obtain ⟨a, cap, rfl, _, _, hE, hlt⟩ := hu.form
  have hc := cell_one hp
  clear hp hu
  by_cases h0 : 0 ≤ loan
  · by_cases h1 : loan ≤ 63
    · rw [if_pos ⟨h0, h1⟩, if_pos ⟨h0, h1⟩]
      have i0 : ¬ loan < 0 := by omega
      have i1 : ¬ 64 ≤ loan := by omega
      have HST : Hid (∀ w', Below w.heap.size w w' → Calls Tryz.prog 42 #[.slice a es.length cap, .int .i64 loan] w' fun r w2 => r = .returned (stV (stOf es loan)) ∧ Below w'.heap.size w' w2) := fun w' hb => loansState_any es.length a es cap loan w' rfl (hE.under hb hlt) (fun b h => Nat.lt_of_lt_of_le (hlt b h) hb.size) hg
      clear hE hlt hg
      generalize stOf es loan = s at *
      generalize es.length = n at *
      unfold stV at HST
      go_enter Tryz.func19, Tryz.ntmps19
      go_wp2_with fail
      refine (HST.out _ ((Below.refl _ _).alloc (Nat.le_refl _) _)).mono ?_
      rintro e w1 ⟨rfl, hb1⟩
      have hB : Blk w1 w.heap.size zS := Blk.kept (Blk.new w zS) hb1
      have hk1 : Below w.heap.size w w1 := kept ((Below.refl _ _).alloc (Nat.le_refl _) _) hb1
      clear hb1
      obtain ⟨x0, x1, x2, x3, x4, x5⟩ := hB.six
      have f0 := hB.free 0
      have f1 := hB.free 1
      have f2 := hB.free 2
      have f3 := hB.free 3
      have f4 := hB.free 4
      have f5 := hB.free 5
      go_wp2_with fail
      (try simp only [Exit.inBlock, Exit.then])
      refine bodyPost_ret (ret_state2 rfl (L := w.heap.size) (s := s) rfl (put6_blk hB s)) rfl ⟨rfl, put6_below hk1 w.heap.size s (Nat.le_refl _)⟩
    · have hn : ¬ (0 ≤ loan ∧ loan ≤ 63) := by omega
      rw [if_neg hn, if_neg hn]
      have i0 : ¬ loan < 0 := by omega
      have i1 : 64 ≤ loan := by omega
      clear hn hE hlt hg
      go_enter Tryz.func19, Tryz.ntmps19
      go_wp2_with fail
      (try simp only [Exit.inBlock, Exit.then])
      refine bodyPost_ret (ret_state2 rfl (L := w.heap.size) (s := zS) rfl (Blk.new w zS)) rfl ⟨rfl, (Below.refl _ _).alloc (Nat.le_refl _) _⟩
  · have hn : ¬ (0 ≤ loan ∧ loan ≤ 63) := by omega
    rw [if_neg hn, if_neg hn]
    have i0 : loan < 0 := by omega
    clear hn hE hlt hg
    go_enter Tryz.func19, Tryz.ntmps19
    go_wp2_with fail
    (try simp only [Exit.inBlock, Exit.then])
    refine bodyPost_ret (ret_state2 rfl (L := w.heap.size) (s := zS) rfl (Blk.new w zS)) rfl ⟨rfl, (Below.refl _ _).alloc (Nat.le_refl _) _⟩

theorem addL_same {es : List Ev} {e : Ev} (h : addN es (mayB e) e.day ≠ 0) : addL es e = es := by unfold addL; rw [if_neg h]
theorem same_book {w w' : World} {S : Nat → Prop} {v : Value} {es : List Ev} (h : Rep w S v es) (hb : Below w.heap.size w w') : ∃ S', Rep w' S' v es ∧ (∀ k, S' k → S k ∨ w.heap.size ≤ k) ∧ Besides S w w' :=
  ⟨S, h.stay (fun k hk => hb.block k (h.lt k hk)), fun _ hk => .inl hk, Besides.of_below hb⟩

/-- 'l = append(l, e)' at a step of a region that draws its order; besides, where the new slice lies. -/
theorem step_appE {w : World} {ops : Array Oper} {o : Oper} {a : Act} {K : Act → World → Prop} {Q : Exit → Act → World → Prop} {E : Prop} (hgd : o.guard = none) (s x : Operand)
    (ho : o.op = .call { callee := .builtin .append, args := #[s, x], argTypes := #[46, 46] })
    (v : Value) (l : List Ev) (t : Ev) (hs : a.eval s = v) (hown : OwnE w 0 v l) (g : Nat) (c : Nat) (hx : a.eval x = .slice (some ⟨g, 0, none⟩) 1 c)
    (h0 : w.cell? ⟨g, 0, none⟩ = some (.int .i64 t.loan)) (h1 : w.cell? ⟨g, 1, none⟩ = some (.int .i64 t.kind)) (h2 : w.cell? ⟨g, 2, none⟩ = some (.int .i64 t.amount)) (h3 : w.cell? ⟨g, 3, none⟩ = some (.int .i64 t.day))
    (hlen : l.length ≤ 1000000)
    (h : ∀ v' w', OwnE w' 0 v' (l ++ [t]) → w.grownBy w' v.ownBlock → (v'.ownBlock = v.ownBlock ∨ v'.ownBlock = some w.heap.size) → K (a.put o.dst v') w') :
    if Region.wanted o (yielded ops a.tmps) = true then Oper.wp Tryz.prog o a w K Q else E := by
  obtain ⟨i0, hi, hz0, hz1, hz2⟩ := info_parts Tryz.infoEvent
  refine step_append_lies _ hgd s x 46 ho 0 31 i0 (.agg #[.int .i64 0, .int .i64 0, .int .i64 0, .int .i64 0]) 4 32 Tryz.underlying46 hi hz0 hz1 hz2 rfl (by decide) v l.length (ecs l) hs hown ⟨g, 0, none⟩ 1 c (ecells t) hx rfl ?_ ?_ (by omega) (by unfold maxLen; omega) (by omega) (Nat.zero_le _) w.heap.size rfl ?_
  · intro j u hj
    match j, hj with
    | 0, hj => simp [ecells] at hj; subst hj; simpa [Addr.add] using h0
    | 1, hj => simp [ecells] at hj; subst hj; simpa [Addr.add] using h1
    | 2, hj => simp [ecells] at hj; subst hj; simpa [Addr.add] using h2
    | 3, hj => simp [ecells] at hj; subst hj; simpa [Addr.add] using h3
    | j + 4, hj => simp [ecells] at hj
  · intro u hu; simp [ecells] at hu; rcases hu with rfl | rfl | rfl | rfl <;> rfl
  · intro g' cap' w' h1 h2 hat _
    refine h _ w' ?_ h2 (by rcases hat with h | h; exact .inl h.symm; exact .inr (by rw [h]; rfl))
    unfold OwnE
    rw [ecs_append, List.length_append]
    have e : ecs [t] = ecells t := by simp [ecs]
    rw [e]
    exact h1

theorem add_at {w W w' : World} {p : Nat} {u : Value} (hkW : Below w.heap.size w W) (hp : w.heap[p]? = some (.cells #[u] 56 (0, 0))) (hne : u.ownBlock ≠ some p) (hG : W.grownBy w' u.ownBlock) : w'.heap[p]? = some (.cells #[u] 56 (0, 0)) := by
  have hpl := lt_of_block hp
  have := hkW.size
  rw [hG.block p (by omega) (Ne.symm hne), hkW.block p hpl]
  exact hp
theorem add_after {w W w' : World} {S : Nat → Prop} {p : Nat} {u u' : Value} {es : List Ev} {e : Ev} (hkW : Below w.heap.size w W) (hp : w.heap[p]? = some (.cells #[u] 56 (0, 0))) (hne : u.ownBlock ≠ some p) (hS : ∀ k, S k ↔ k = p ∨ u.ownBlock = some k) (hgs : GoodE (es ++ [e]))
    (hO : OwnE w' 0 u' (es ++ [e])) (hG : W.grownBy w' u.ownBlock) (hat : u'.ownBlock = u.ownBlock ∨ u'.ownBlock = some W.heap.size) :
    ∃ S', Rep (w'.setCell ⟨p, 0, none⟩ u') S' (.pointer (some ⟨p, 0, none⟩)) (es ++ [e]) ∧ (∀ k, S' k → S k ∨ w.heap.size ≤ k) ∧ Besides S w (w'.setCell ⟨p, 0, none⟩ u') := by
  have hpl := lt_of_block hp
  have hsz := hkW.size
  have hp' := add_at hkW hp hne hG
  have hne' : u'.ownBlock ≠ some p := by
    rcases hat with h | h
    · rw [h]; exact hne
    · rw [h]; intro h; cases h; omega
  refine ⟨fun k => k = p ∨ u'.ownBlock = some k, ⟨p, u', rfl, blk_setCell hp', hO.stay (fun k hk => ?_), hne', hgs, fun k => Iff.rfl⟩, ?_, ?_⟩
  · exact Below.heap_setCell _ _ _ _ (fun h => hne' (by rw [hk, h]))
  · intro k hk
    rcases hk with rfl | hk
    · exact .inl ((hS k).2 (.inl rfl))
    · rcases hat with h | h
      · exact .inl ((hS k).2 (.inr (by rw [← h]; exact hk)))
      · rw [h] at hk; cases hk; exact .inr hsz
  · have h0 : Below 0 w' (w'.setCell ⟨p, 0, none⟩ u') := (Below.refl _ _).setCell (Nat.zero_le _) _
    refine ⟨by rw [h0.os, hG.os, hkW.os], by rw [h0.tape, hG.tape, hkW.tape], by rw [h0.output, hG.output, hkW.output], Nat.le_trans hsz (Nat.le_trans hG.size h0.size), fun k hk hn => ?_⟩
    rw [Below.heap_setCell _ _ _ _ (fun h => hn ((hS k).2 (.inl h))), hG.block k (by omega) (fun h => hn ((hS k).2 (.inr h.symm))), hkW.block k hk]

set_option maxRecDepth 20000 in
set_option maxHeartbeats 2000000 in
theorem add_full (w : World) (S : Nat → Prop) (v : Value) (es : List Ev) (e : Ev) (h : Rep w S v es) (hl : 200 ≤ es.length) :
    Calls Tryz.prog 30 #[v, evV e] w fun r w' => r = .returned (.int .i64 6) ∧ Below w.heap.size w w' := by
  obtain ⟨p, u, rfl, hp, hu, _, hg, _⟩ := h
  have hpl := lt_of_block hp
  obtain ⟨a, cap, rfl, _, _, hE, hlt⟩ := hu.form
  have hc := cell_one hp
  have h200 := hg.1
  clear hp hu hg hE hlt
  generalize es.length = n at *
  unfold evV
  go_enter Tryz.func30, Tryz.ntmps30
  go_wp2_with fail
  go_ret
  exact ⟨rfl, (Below.refl _ _).alloc (Nat.le_refl _) _⟩

set_option maxRecDepth 20000 in
set_option maxHeartbeats 2000000 in
theorem add_bad (w : World) (S : Nat → Prop) (v : Value) (es : List Ev) (e : Ev) (h : Rep w S v es) (hl : es.length < 200) (hm : mayB e = false) :
    Calls Tryz.prog 30 #[v, evV e] w fun r w' => r = .returned (.int .i64 4) ∧ Below w.heap.size w w' := by
  obtain ⟨p, u, rfl, hp, hu, _, hg, _⟩ := h
  have hpl := lt_of_block hp
  obtain ⟨a, cap, rfl, _, _, hE, hlt⟩ := hu.form
  have hc := cell_one hp
  have HM := hid (fun w => mayBe_any e w)
  rw [hm] at HM
  clear hp hu hg hE hlt hm
  generalize es.length = n at *
  unfold evV at *
  go_enter Tryz.func30, Tryz.ntmps30
  go_wp2_with fail
  refine (HM.out _).mono ?_
  rintro e w1 ⟨rfl, hb1⟩
  have hk1 : Below w.heap.size w w1 := kept ((Below.refl _ _).alloc (Nat.le_refl _) _) hb1
  go_wp2_with fail
  go_ret
  exact ⟨rfl, hk1⟩

set_option maxRecDepth 20000 in
set_option maxHeartbeats 2000000 in
theorem add_day (w : World) (S : Nat → Prop) (v : Value) (q : List Ev) (x e : Ev) (h : Rep w S v (q ++ [x])) (hl : (q ++ [x]).length < 200) (hm : mayB e = true) (hd : e.day < x.day) :
    Calls Tryz.prog 30 #[v, evV e] w fun r w' => r = .returned (.int .i64 5) ∧ Below w.heap.size w w' := by
  obtain ⟨p, u, rfl, hp, hu, _, hg, _⟩ := h
  have hpl := lt_of_block hp
  have hlen : (q ++ [x]).length = q.length + 1 := by simp
  obtain ⟨a, cap, rfl, _, _, hE, hlt⟩ := hu.form
  obtain ⟨b, rfl, hcs⟩ := hE.at (by omega)
  have hbl := hlt b rfl
  have hx3 := (hcs q.length (by omega)).2.2.2
  rw [show (q ++ [x])[q.length]'(by omega) = x by simp] at hx3
  rw [hlen] at hp hl
  rw [hlen] at hu
  have HM := hid (fun w => mayBe_any e w)
  rw [hm] at HM
  obtain ⟨el, ek, ea, ed⟩ := e
  generalize x.day = xd at *
  generalize q.length = m at *
  clear hu hg hlt hm hcs hE hlen
  unfold evV at *
  simp only at hd HM
  go_enter Tryz.func30, Tryz.ntmps30
  have hc := cell_one hp
  go_wp2_with fail
  refine (HM.out _).mono ?_
  rintro e w1 ⟨rfl, hb1⟩
  have hk1 : Below w.heap.size w w1 := kept ((Below.refl _ _).alloc (Nat.le_refl _) _) hb1
  obtain ⟨_, _, _, z3⟩ := cell_four w (.int .i64 el) (.int .i64 ek) (.int .i64 ea) (.int .i64 ed) 31
  have y3 := cell_kept z3 hb1
  have c1 := cell_kept hc hk1
  have x1 := cell_kept hx3 hk1
  have hdg : decide ((0 : Int) < (m : Int) + 1) = true := by simp
  clear hb1 z3 hc hx3
  go_wp2_with fail
  go_quiet (fail)
  go_wp2_with fail
  go_ret
  exact ⟨rfl, below_drewN hk1 _⟩

set_option maxRecDepth 20000 in
set_option maxHeartbeats 2000000 in
theorem add_ok (w : World) (S : Nat → Prop) (v : Value) (q : List Ev) (x e : Ev) (h : Rep w S v (q ++ [x])) (hl : (q ++ [x]).length < 200) (hm : mayB e = true) (hd : ¬ e.day < x.day) :
    Calls Tryz.prog 30 #[v, evV e] w fun r w' => r = .returned (.int .i64 0) ∧ ∃ S', Rep w' S' v (q ++ [x] ++ [e]) ∧ (∀ k, S' k → S k ∨ w.heap.size ≤ k) ∧ Besides S w w' := by
  obtain ⟨p, u, rfl, hp, hu, hne, hg, hS⟩ := h
  have hpl := lt_of_block hp
  have hlen : (q ++ [x]).length = q.length + 1 := by simp
  obtain ⟨a, cap, hfm, _, _, hE, hlt⟩ := hu.form
  obtain ⟨b, rfl, hcs⟩ := hE.at (by omega)
  have hbl := hlt b rfl
  have hx3 := (hcs q.length (by omega)).2.2.2
  rw [show (q ++ [x])[q.length]'(by omega) = x by simp] at hx3
  rw [hlen] at hl hfm
  have HM := hid (fun w => mayBe_any e w)
  rw [hm] at HM
  have HOW : Hid (∀ W, Below w.heap.size w W → OwnE W 0 u (q ++ [x])) := fun W hb => hu.stay (fun k hk => hb.block k (hu.lt k hk).2)
  have HL := hid hlen
  have HGS : Hid (GoodE (q ++ [x] ++ [e])) := hg.snoc (by rw [hlen]; exact hl) (mayB_out hm) (by rw [lastD_snoc]; omega)
  obtain ⟨el, ek, ea, ed⟩ := e
  generalize x.day = xd at *
  generalize q.length = m at *
  clear hu hlt hm hcs hE hlen hg
  unfold evV at *
  simp only at hd HM
  have hc := cell_one hp
  rw [hfm] at hc
  have HP := hid hp
  have HNE := hid hne
  have HSS := hid hS
  have HFM := hid hfm
  clear hp hne hS hfm
  go_enter Tryz.func30, Tryz.ntmps30
  go_wp2_with fail
  refine (HM.out _).mono ?_
  rintro e w1 ⟨rfl, hb1⟩
  have hk1 : Below w.heap.size w w1 := kept ((Below.refl _ _).alloc (Nat.le_refl _) _) hb1
  obtain ⟨z0, z1, z2, z3⟩ := cell_four w (.int .i64 el) (.int .i64 ek) (.int .i64 ea) (.int .i64 ed) 31
  have y0 := cell_kept z0 hb1
  have y1 := cell_kept z1 hb1
  have y2 := cell_kept z2 hb1
  have y3 := cell_kept z3 hb1
  have c1 := cell_kept hc hk1
  have x1 := cell_kept hx3 hk1
  have hdg : decide ((0 : Int) < (m : Int) + 1) = true := by simp
  clear hb1 z0 z1 z2 z3 hc hx3
  go_wp2_with fail
  go_quiet (fail)
  have hk2 := below_drewN hk1 nq
  have hq : ∀ a, (w1.drewN nq).cell? a = w1.cell? a := fun _ => rfl
  rw [← hq] at y0 y1 y2 y3 c1
  clear hq x1 hdg
  generalize w1.drewN nq = w2 at y0 y1 y2 y3 c1 hk2 ⊢
  clear hk1
  have hLb := World.block_lt_of_cell? _ _ y0
  have hpL := World.block_lt_of_cell? _ _ c1
  go_wp2_with fail
  go_region_law ((refine step_appE (by rfl) _ _ (by rfl) u (q ++ [x]) ⟨el, ek, ea, ed⟩ (by rw [HFM.out]; rfl) (HOW.out _ (kept hk2 (by repeat' (first | exact Below.refl _ _ | refine Below.drew ?_ | refine Below.alloc ?_ (by simp) _)))) _ _ (by rfl) (by go_simp) (by go_simp) (by go_simp) (by go_simp) (by rw [HL.out]; omega) ?_; intro v' w' hO hG hat; have HAF := hid (add_after (kept hk2 (by repeat' (first | exact Below.refl _ _ | refine Below.drew ?_ | refine Below.alloc ?_ (by simp) _))) HP.out HNE.out HSS.out HGS.out hO hG hat); obtain ⟨a2, k2, rfl, _, _, _, _⟩ := hO.form; have hpb := add_at (kept hk2 (by repeat' (first | exact Below.refl _ _ | refine Below.drew ?_ | refine Below.alloc ?_ (by simp) _))) HP.out HNE.out hG; have cc := cell_one hpb; have ff := free_one hpb; clear hpb hO hG hat))
  all_goals (
    go_wp2_with fail
    go_ret
    have hAF := HAF.out
    rw [show (q ++ [x] ++ [(⟨el, ek, ea, ed⟩ : Ev)]).length = q.length + 2 by simp] at hAF
    exact ⟨rfl, hAF⟩)

set_option maxRecDepth 20000 in
set_option maxHeartbeats 2000000 in
theorem add_ok0 (w : World) (S : Nat → Prop) (v : Value) (e : Ev) (h : Rep w S v []) (hm : mayB e = true) :
    Calls Tryz.prog 30 #[v, evV e] w fun r w' => r = .returned (.int .i64 0) ∧ ∃ S', Rep w' S' v ([] ++ [e]) ∧ (∀ k, S' k → S k ∨ w.heap.size ≤ k) ∧ Besides S w w' := by
  obtain ⟨p, u, rfl, hp, hu, hne, hg, hS⟩ := h
  have hpl := lt_of_block hp
  obtain ⟨a, cap, hfm, _, _, _, _⟩ := hu.form
  simp only [List.length_nil] at hfm
  have HM := hid (fun w => mayBe_any e w)
  rw [hm] at HM
  have HOW : Hid (∀ W, Below w.heap.size w W → OwnE W 0 u []) := fun W hb => hu.stay (fun k hk => hb.block k (hu.lt k hk).2)
  have HGS : Hid (GoodE ([] ++ [e])) := hg.snoc (by simp) (mayB_out hm) (by rw [lastD_nil]; exact (mayB_out hm).2.2.2.1)
  obtain ⟨el, ek, ea, ed⟩ := e
  clear hu hm hg
  unfold evV at *
  simp only at HM
  have hc := cell_one hp
  rw [hfm] at hc
  have HP := hid hp
  have HNE := hid hne
  have HSS := hid hS
  have HFM := hid hfm
  clear hp hne hS hfm
  go_enter Tryz.func30, Tryz.ntmps30
  go_wp2_with fail
  refine (HM.out _).mono ?_
  rintro e w1 ⟨rfl, hb1⟩
  have hk1 : Below w.heap.size w w1 := kept ((Below.refl _ _).alloc (Nat.le_refl _) _) hb1
  obtain ⟨z0, z1, z2, z3⟩ := cell_four w (.int .i64 el) (.int .i64 ek) (.int .i64 ea) (.int .i64 ed) 31
  have y0 := cell_kept z0 hb1
  have y1 := cell_kept z1 hb1
  have y2 := cell_kept z2 hb1
  have y3 := cell_kept z3 hb1
  have c1 := cell_kept hc hk1
  clear hb1 z0 z1 z2 z3 hc
  go_wp2_with fail
  go_quiet (fail)
  have hk2 := below_drewN hk1 nq
  have hq : ∀ a, (w1.drewN nq).cell? a = w1.cell? a := fun _ => rfl
  rw [← hq] at y0 y1 y2 y3 c1
  clear hq
  generalize w1.drewN nq = w2 at y0 y1 y2 y3 c1 hk2 ⊢
  clear hk1
  have hLb := World.block_lt_of_cell? _ _ y0
  have hpL := World.block_lt_of_cell? _ _ c1
  go_wp2_with fail
  go_region_law ((refine step_appE (by rfl) _ _ (by rfl) u [] ⟨el, ek, ea, ed⟩ (by rw [HFM.out]; rfl) (HOW.out _ (kept hk2 (by repeat' (first | exact Below.refl _ _ | refine Below.drew ?_ | refine Below.alloc ?_ (by simp) _)))) _ _ (by rfl) (by go_simp) (by go_simp) (by go_simp) (by go_simp) (by simp) ?_; intro v' w' hO hG hat; have HAF := hid (add_after (kept hk2 (by repeat' (first | exact Below.refl _ _ | refine Below.drew ?_ | refine Below.alloc ?_ (by simp) _))) HP.out HNE.out HSS.out HGS.out hO hG hat); obtain ⟨a2, k2, rfl, _, _, _, _⟩ := hO.form; have hpb := add_at (kept hk2 (by repeat' (first | exact Below.refl _ _ | refine Below.drew ?_ | refine Below.alloc ?_ (by simp) _))) HP.out HNE.out hG; have cc := cell_one hpb; have ff := free_one hpb; clear hpb hO hG hat))
  all_goals (
    go_wp2_with fail
    go_ret
    exact ⟨rfl, HAF.out⟩)

theorem add_any (w : World) (S : Nat → Prop) (v : Value) (es : List Ev) (e : Ev) (h : Rep w S v es) :
    Calls Tryz.prog 30 #[v, evV e] w fun r w' => r = .returned (.int .i64 (addN es (mayB e) e.day)) ∧ ∃ S', Rep w' S' v (addL es e) ∧ (∀ k, S' k → S k ∨ w.heap.size ≤ k) ∧ Besides S w w' := by
  by_cases hf : 200 ≤ es.length
  · have ha : addN es (mayB e) e.day = 6 := by unfold addN; rw [if_pos hf]
    rw [addL_same (by rw [ha]; omega), ha]
    exact (add_full w S v es e h hf).mono fun r w' ⟨h1, h2⟩ => ⟨h1, same_book h h2⟩
  · cases hm : mayB e
    · have ha : addN es false e.day = 4 := by unfold addN; rw [if_neg hf, if_pos rfl]
      rw [addL_same (by rw [hm, ha]; omega), ha]
      exact (add_bad w S v es e h (by omega) hm).mono fun r w' ⟨h1, h2⟩ => ⟨h1, same_book h h2⟩
    · rcases List.eq_nil_or_concat es with rfl | ⟨q, x, rfl⟩
      · have hy := (mayB_out hm).2.2.2.1
        have ha : addN [] true e.day = 0 := addN_ok (by simp) (by rw [lastD_nil]; exact hy)
        have hL : addL [] e = [] ++ [e] := by unfold addL; rw [hm, ha, if_pos rfl]
        rw [hL, ha]
        exact add_ok0 w S v e h hm
      · rw [List.concat_eq_append] at *
        by_cases hd : e.day < x.day
        · have ha : addN (q ++ [x]) true e.day = 5 := by unfold addN; rw [if_neg hf, if_neg (by simp), lastD_snoc, if_pos hd]
          rw [addL_same (by rw [hm, ha]; omega), ha]
          exact (add_day w S v q x e h (by omega) hm hd).mono fun r w' ⟨h1, h2⟩ => ⟨h1, same_book h h2⟩
        · have ha : addN (q ++ [x]) true e.day = 0 := addN_ok (by omega) (by rw [lastD_snoc]; omega)
          have hL : addL (q ++ [x]) e = q ++ [x] ++ [e] := by unfold addL; rw [hm, ha, if_pos rfl]
          rw [hL, ha]
          exact add_ok w S v q x e h (by omega) hm hd

/-- WHAT THE BOOK'S CALLS ANSWER. -/
theorem book_spec : ∀ w0, BookSpec w0 Rep := fun w0 =>
  { lt := fun h => h.lt
    stay := fun h _ hb => h.stay hb
    ptr := fun h => by obtain ⟨p, _, rfl, _⟩ := h; exact ⟨_, rfl⟩
    good := fun h => by obtain ⟨_, _, _, _, _, _, hg, _⟩ := h; exact hg
    new := fun w _ => new_any w
    add := fun w S v es e _ h _ => add_any w S v es e h
    size := fun w S v es _ h => size_any w S v es h
    state := fun w S v es loan _ h _ => state_any w S v es loan h }

end Go.Proofs.YtedblhcehlbbmaaGreatDoor

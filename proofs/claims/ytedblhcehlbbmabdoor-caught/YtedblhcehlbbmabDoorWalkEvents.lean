/-
  CONTRACT: lenderkeep.events: a list of events of the call's own.
-/
import Derived.Test.YtedblhcehlbbmabDoorWalkHand
import Derived.Test.YtedblhcehlbbmabDoorWalkPick
import Derived.Test.YtedblhcehlbbmabDoorSpecBook
import Derived.WalkKit
import Derived.WalkSpells
import Derived.WalkLawsBesides
namespace Go.Proofs.YtedblhcehlbbmabDoor
open Go.RowKit

/-- The i-th event of raw numbers, the day so far being d. -/
def evU (zs : List Int) (i : Nat) : Nat := pickN (zs.getD (3 * i) 0) 1099511627776
def evD (zs : List Int) (i : Nat) : Nat := pickN (zs.getD (3 * i + 1) 0) 100
def evA (zs : List Int) (i : Nat) (n : Nat) : Nat := pickN (zs.getD (3 * i + 2) 0) n
def evAm (zs : List Int) (i : Nat) : Nat :=
  if evU zs i / 4 % 3 = 2 then evA zs i 1001 else if evU zs i / 12 % 2 = 0 then 1 + evA zs i 300 else 1 + evA zs i 100000000
/-- The day ahead of the i-th event. -/
def evDay (zs : List Int) : Nat → Nat
  | 0 => 0
  | i + 1 => evDay zs i + evD zs i
def evAt (zs : List Int) (i : Nat) : Ev := ⟨((evU zs i % 4 * 21 : Nat) : Int), ((evU zs i / 4 % 3 : Nat) : Int), (evAm zs i : Int), (evDay zs (i + 1) : Int)⟩
def evTo (zs : List Int) : Nat → List Ev
  | 0 => []
  | i + 1 => evTo zs i ++ [evAt zs i]
/-- How many events there are. -/
def evK (n : Nat) : Nat := if n / 3 < 60 then n / 3 else 60
def evs (zs : List Int) : List Ev := evTo zs (evK zs.length)
theorem length_evTo (zs : List Int) (k : Nat) : (evTo zs k).length = k := by
  induction k with
  | zero => rfl
  | succ k ih => rw [evTo, List.length_append, ih]; rfl
theorem length_evs (zs : List Int) : (evs zs).length ≤ 60 := by unfold evs evK; rw [length_evTo]; split <;> omega
theorem evDay_le (zs : List Int) (k : Nat) : evDay zs k ≤ 99 * k := by
  induction k with
  | zero => simp [evDay]
  | succ k ih =>
    have := pickN_lt (zs.getD (3 * k + 1) 0) 100 (by omega)
    rw [evDay]; unfold evD; omega
theorem evAt_may (zs : List Int) (i : Nat) (h : i < 60) : MayE (evAt zs i) := by
  have h1 := evDay_le zs (i + 1)
  have h2 := pickN_lt (zs.getD (3 * i + 2) 0) 1001 (by omega)
  have h3 := pickN_lt (zs.getD (3 * i + 2) 0) 300 (by omega)
  have h4 := pickN_lt (zs.getD (3 * i + 2) 0) 100000000 (by omega)
  refine ⟨?_, ?_, ?_, ?_⟩
  · simp only [evAt]; omega
  · simp only [evAt]; omega
  · by_cases hk : evU zs i / 4 % 3 = 2
    · have hk' : (evAt zs i).kind = 2 := by simp only [evAt]; omega
      rw [if_pos hk', if_pos hk']
      simp only [evAt]
      unfold evAm evA
      rw [if_pos hk]; omega
    · have hk' : ¬ (evAt zs i).kind = 2 := by simp only [evAt]; omega
      rw [if_neg hk', if_neg hk']
      simp only [evAt]
      unfold evAm evA
      rw [if_neg hk]; split <;> omega
  · simp only [evAt]; omega
theorem evTo_last (zs : List Int) (k : Nat) : lastD (evTo zs k) = (evDay zs k : Int) := by
  cases k with
  | zero => rfl
  | succ k => rw [evTo, lastD_snoc]; rfl
theorem evTo_good (zs : List Int) (k : Nat) (h : k ≤ 60) : GoodE (evTo zs k) := by
  induction k with
  | zero => exact GoodE.nil
  | succ k ih =>
    rw [evTo]
    refine (ih (by omega)).snoc (by rw [length_evTo]; omega) (evAt_may zs k (by omega)) ?_
    rw [evTo_last]
    simp only [evAt, evDay]; omega
theorem evs_good (zs : List Int) : GoodE (evs zs) := evTo_good zs _ (by unfold evK; split <;> omega)

theorem Tryd.infoEvent : (Tryd.prog.info? 54).map (fun i => (i.zero, i.size, i.bytes)) = some (some (.agg #[.int .i64 0, .int .i64 0, .int .i64 0, .int .i64 0]), 4, 32) := by kernel_rfl

/-- An event's cells. -/
def ecells (e : Ev) : List Value := [.int .i64 e.loan, .int .i64 e.kind, .int .i64 e.amount, .int .i64 e.day]
def ecs (es : List Ev) : List Value := es.flatMap ecells
theorem ecs_append (a b : List Ev) : ecs (a ++ b) = ecs a ++ ecs b := by simp [ecs]
theorem length_ecs (es : List Ev) : (ecs es).length = es.length * 4 := by
  induction es with
  | nil => rfl
  | cons t ts ih => unfold ecs at *; rw [List.flatMap_cons, List.length_append, ih]; simp [ecells]; omega
theorem ecs_at (es : List Ev) (i : Nat) (h : i < es.length) : (ecs es)[4 * i]? = some (.int .i64 es[i].loan) ∧ (ecs es)[4 * i + 1]? = some (.int .i64 es[i].kind) ∧ (ecs es)[4 * i + 2]? = some (.int .i64 es[i].amount) ∧ (ecs es)[4 * i + 3]? = some (.int .i64 es[i].day) := by
  induction es generalizing i with
  | nil => simp at h
  | cons t ts ih =>
    cases i with
    | zero => simp [ecs, ecells]
    | succ i =>
      have := ih i (by simp at h; omega)
      have e : ecs (t :: ts) = ecells t ++ ecs ts := by simp [ecs]
      have hl : (ecells t).length = 4 := rfl
      rw [e, List.getElem?_append_right (by omega), List.getElem?_append_right (by omega), List.getElem?_append_right (by omega), List.getElem?_append_right (by omega), hl, show 4 * (i + 1) - 4 = 4 * i by omega, show 4 * (i + 1) + 1 - 4 = 4 * i + 1 by omega, show 4 * (i + 1) + 2 - 4 = 4 * i + 2 by omega, show 4 * (i + 1) + 3 - 4 = 4 * i + 3 by omega]
      exact this

/-- The slice v is the call's own (from block B on) and holds these events. -/
def OwnE (w : World) (B : Nat) (v : Value) (es : List Ev) : Prop := w.ownsRow B 54 4 v es.length (ecs es)
theorem OwnE.nil (w : World) (B : Nat) : OwnE w B (.slice none 0 0) [] := World.ownsRow_nil _ _ _ _
theorem OwnE.alloc {w : World} {B : Nat} {v : Value} {l : List Ev} (h : OwnE w B v l) (o : Obj) : OwnE (w.alloc o) B v l := World.ownsRow.alloc h o
theorem OwnE.kept {w w' : World} {B : Nat} {v : Value} {l : List Ev} (h : OwnE w B v l) (hb : Below w.heap.size w w') : OwnE w' B v l := by
  obtain ⟨h1, h2⟩ := h
  refine ⟨h1, ?_⟩
  rcases h2 with h2 | ⟨g, cap, cur, e1, e2, e3, e4⟩
  · exact .inl h2
  · have hg : g < w.heap.size := by
      rcases Nat.lt_or_ge g w.heap.size with h | h
      · exact h
      · rw [Array.getElem?_eq_none h] at e3; cases e3
    exact .inr ⟨g, cap, cur, e1, e2, by rw [hb.block g hg]; exact e3, e4⟩

/-- The slice at this address holds these events. -/
def Evs (w : World) (a : Option Addr) (es : List Ev) : Prop :=
  es = [] ∨ ∃ b, a = some ⟨b, 0, none⟩ ∧ ∀ i (h : i < es.length), w.cell? ⟨b, i * 4, none⟩ = some (.int .i64 es[i].loan) ∧ w.cell? ⟨b, i * 4 + 1, none⟩ = some (.int .i64 es[i].kind) ∧ w.cell? ⟨b, i * 4 + 2, none⟩ = some (.int .i64 es[i].amount) ∧ w.cell? ⟨b, i * 4 + 3, none⟩ = some (.int .i64 es[i].day)
theorem Evs.at {w : World} {a : Option Addr} {es : List Ev} (h : Evs w a es) (hp : 0 < es.length) :
    ∃ b, a = some ⟨b, 0, none⟩ ∧ ∀ i (h : i < es.length), w.cell? ⟨b, i * 4, none⟩ = some (.int .i64 es[i].loan) ∧ w.cell? ⟨b, i * 4 + 1, none⟩ = some (.int .i64 es[i].kind) ∧ w.cell? ⟨b, i * 4 + 2, none⟩ = some (.int .i64 es[i].amount) ∧ w.cell? ⟨b, i * 4 + 3, none⟩ = some (.int .i64 es[i].day) := by
  rcases h with rfl | h
  · simp at hp
  · exact h
theorem Evs.lt {w : World} {a : Option Addr} {es : List Ev} (h : Evs w a es) (hp : 0 < es.length) : ∃ b, a = some ⟨b, 0, none⟩ ∧ b < w.heap.size := by
  obtain ⟨b, ha, hc⟩ := h.at hp
  exact ⟨b, ha, World.block_lt_of_cell? _ _ (hc 0 hp).1⟩
/-- Under a bound that is above the list's block. -/
theorem Evs.under {w w' : World} {a : Option Addr} {es : List Ev} {B : Nat} (h : Evs w a es) (hb : Below B w w') (hl : ∀ b, a = some ⟨b, 0, none⟩ → b < B) : Evs w' a es := by
  rcases h with h | ⟨b, ha, hc⟩
  · exact .inl h
  · refine .inr ⟨b, ha, fun i hi => ?_⟩
    have hlt := hl b ha
    obtain ⟨h1, h2, h3, h4⟩ := hc i hi
    exact ⟨by rw [hb.cell hlt]; exact h1, by rw [hb.cell hlt]; exact h2, by rw [hb.cell hlt]; exact h3, by rw [hb.cell hlt]; exact h4⟩
theorem OwnE.form {w : World} {B : Nat} {v : Value} {l : List Ev} (h : OwnE w B v l) : ∃ a cap, v = .slice a l.length cap ∧ l.length ≤ cap ∧ cap ≤ maxLen ∧ Evs w a l ∧ (∀ b, a = some ⟨b, 0, none⟩ → b < w.heap.size) := by
  have hh := h
  obtain ⟨h1, h2⟩ := h
  rcases h2 with ⟨rfl, h2⟩ | ⟨g, cap, cur, rfl, e2, e3, e4, e5, e6, e7⟩
  · rw [h2]; exact ⟨none, 0, rfl, Nat.le_refl _, Nat.zero_le _, .inl (List.eq_nil_of_length_eq_zero h2), fun b hb => by cases hb⟩
  · have hg : g < w.heap.size := by
      rcases Nat.lt_or_ge g w.heap.size with h | h
      · exact h
      · rw [Array.getElem?_eq_none h] at e3; cases e3
    refine ⟨_, cap, rfl, e4, e5, .inr ⟨g, rfl, fun i hi => ?_⟩, fun b hb => by cases hb; exact hg⟩
    have c := ecs_at l i hi
    have cc : ∀ j u, (ecs l)[j]? = some u → w.cell? ⟨g, j, none⟩ = some u := fun j u hj => by
      have := World.ownsRow.cells hh (g := g) rfl j u hj
      by_cases h0 : j = 0
      · subst h0; simpa [Addr.add] using this
      · simpa [Addr.add, h0] using this
    refine ⟨cc _ _ ?_, cc _ _ ?_, cc _ _ ?_, cc _ _ ?_⟩
    · rw [Nat.mul_comm]; exact c.1
    · rw [Nat.mul_comm]; exact c.2.1
    · rw [Nat.mul_comm]; exact c.2.2.1
    · rw [Nat.mul_comm]; exact c.2.2.2

/-- 'l = append(l, e)': l the call's own, e one event, laid in a block of its own first. -/
theorem wpList_appE {w : World} {ops : Array Oper} {rest : List Oper} {o : Oper} {a : Act} {Q : Exit → Act → World → Prop} (hgd : o.guard = none) (s x : Operand)
    (ho : o.op = .call { callee := .builtin .append, args := #[s, x], argTypes := #[23, 23] })
    (B : Nat) (v : Value) (l : List Ev) (t : Ev) (hs : a.eval s = v) (hown : OwnE w B v l) (g : Nat) (c : Nat) (hx : a.eval x = .slice (some ⟨g, 0, none⟩) 1 c)
    (h0 : w.cell? ⟨g, 0, none⟩ = some (.int .i64 t.loan)) (h1 : w.cell? ⟨g, 1, none⟩ = some (.int .i64 t.kind)) (h2 : w.cell? ⟨g, 2, none⟩ = some (.int .i64 t.amount)) (h3 : w.cell? ⟨g, 3, none⟩ = some (.int .i64 t.day))
    (hlen : l.length ≤ 1000000) (hB : B ≤ w.heap.size)
    (h : ∀ v' w', OwnE w' B v' (l ++ [t]) → Below B w w' → w.grownBy w' v.ownBlock → wpList Tryd.prog ops Q rest (a.put o.dst v') w') : wpList Tryd.prog ops Q (o :: rest) a w := by
  obtain ⟨i0, hi, hz0, hz1, hz2⟩ := info_parts Tryd.infoEvent
  refine wpList_append_own _ hgd s x 23 ho B 54 i0 (.agg #[.int .i64 0, .int .i64 0, .int .i64 0, .int .i64 0]) 4 32 Tryd.underlying23 hi hz0 hz1 hz2 rfl (by decide) v l.length (ecs l) hs hown ⟨g, 0, none⟩ 1 c (ecells t) hx rfl ?_ ?_ (by unfold maxLen; omega) (by omega) hB ?_
  · intro j u hj
    match j, hj with
    | 0, hj => simp [ecells] at hj; subst hj; simpa [Addr.add] using h0
    | 1, hj => simp [ecells] at hj; subst hj; simpa [Addr.add] using h1
    | 2, hj => simp [ecells] at hj; subst hj; simpa [Addr.add] using h2
    | 3, hj => simp [ecells] at hj; subst hj; simpa [Addr.add] using h3
    | j + 4, hj => simp [ecells] at hj
  · intro u hu; simp [ecells] at hu; rcases hu with rfl | rfl | rfl | rfl <;> rfl
  · intro v' w' h1 h2 _
    refine h v' w' ?_ ((Below.refl _ _).grown h2 hB (fun k hk => (hown.lt k hk).1)) h2
    unfold OwnE
    rw [ecs_append, List.length_append]
    have e : ecs [t] = ecells t := by simp [ecs]
    rw [e]
    exact h1

theorem cell_four (w : World) (x y z u : Value) (t : TypeId) : (w.alloc (.cells #[x, y, z, u] t)).cell? ⟨w.heap.size, 0, none⟩ = some x ∧ (w.alloc (.cells #[x, y, z, u] t)).cell? ⟨w.heap.size, 1, none⟩ = some y ∧ (w.alloc (.cells #[x, y, z, u] t)).cell? ⟨w.heap.size, 2, none⟩ = some z ∧ (w.alloc (.cells #[x, y, z, u] t)).cell? ⟨w.heap.size, 3, none⟩ = some u := by
  refine ⟨?_, ?_, ?_, ?_⟩ <;> rw [World.cell?_alloc_mark] <;> rfl

theorem cell_four' (w : World) (X : Obj) (x y z u : Value) (t : TypeId) : ((w.alloc X).alloc (.cells #[x, y, z, u] t)).cell? ⟨w.heap.size + 1, 0, none⟩ = some x ∧ ((w.alloc X).alloc (.cells #[x, y, z, u] t)).cell? ⟨w.heap.size + 1, 1, none⟩ = some y ∧ ((w.alloc X).alloc (.cells #[x, y, z, u] t)).cell? ⟨w.heap.size + 1, 2, none⟩ = some z ∧ ((w.alloc X).alloc (.cells #[x, y, z, u] t)).cell? ⟨w.heap.size + 1, 3, none⟩ = some u := by
  have h := cell_four (w.alloc X) x y z u t
  rw [show (w.alloc X).heap.size = w.heap.size + 1 by simp] at h
  exact h

set_option maxRecDepth 20000 in
set_option maxHeartbeats 2000000 in
theorem events_any (n : Nat) (a : Option Addr) (zs : List Int) (cap : Nat) (w : World) (hn : zs.length = n) (hz : Ints w a zs) (hr : n * 8 ≤ 140737488351232) (h64 : ∀ z ∈ zs, In64 z) :
    Calls Tryd.prog 5 #[.slice a n cap] w fun e w' => ∃ v, e = .returned v ∧ OwnE w' w.heap.size v (evs zs) ∧ Below w.heap.size w w' := by
  have HN := hid hn; have HZ := hid hz; have H64 := hid h64
  clear hn hz h64
  go_enter Tryd.func5, Tryd.ntmps5
  go_wp2_with fail
  go_loopw [3, 4, 5, 6, 7] (fun v day i _ _ wr => ∃ k : Nat, k ≤ 60 ∧ 3 * k ≤ n ∧ i = .int .i64 ((3 * k : Nat) : Int) ∧ day = .int .i64 (evDay zs k : Int) ∧ Hid (OwnE wr w.heap.size v (evTo zs k)) ∧ Below w.heap.size w wr) (fun _ _ i _ _ _ => 300 - (intOf i).toNat)
  case atStart => exact ⟨0, by omega, by omega, rfl, rfl, OwnE.nil _ _, Below.refl _ _⟩
  case round =>
    obtain ⟨k, hk, hkn, rfl, rfl, HO, hbel⟩ := hrel
    by_cases hlt : 3 * k + 2 < n ∧ k < 60
    · obtain ⟨hlt, hk60⟩ := hlt
      have hlen := HN.out
      obtain ⟨b, off, rfl, hc⟩ := (HZ.out.kept hbel).at (by omega)
      have hc0 := hc (3 * k) (by omega)
      have hc1 := hc (3 * k + 1) (by omega)
      have hc2 := hc (3 * k + 2) (by omega)
      have g0 : zs.getD (3 * k) 0 = zs[3 * k] := by rw [List.getD_eq_getElem?_getD, List.getElem?_eq_getElem (by omega)]; rfl
      have g1 : zs.getD (3 * k + 1) 0 = zs[3 * k + 1] := by rw [List.getD_eq_getElem?_getD, List.getElem?_eq_getElem (by omega)]; rfl
      have g2 : zs.getD (3 * k + 2) 0 = zs[3 * k + 2] := by rw [List.getD_eq_getElem?_getD, List.getElem?_eq_getElem (by omega)]; rfl
      have z0 := H64.out _ (List.getElem_mem (show 3 * k < zs.length by omega))
      have z1 := H64.out _ (List.getElem_mem (show 3 * k + 1 < zs.length by omega))
      have z2 := H64.out _ (List.getElem_mem (show 3 * k + 2 < zs.length by omega))
      have HU : Hid (evU zs k = pickN zs[3 * k] 1099511627776) := by show _ = _; unfold evU; rw [g0]
      have HD : Hid (evD zs k = pickN zs[3 * k + 1] 100) := by show _ = _; unfold evD; rw [g1]
      have HA : Hid (∀ n, evA zs k n = pickN zs[3 * k + 2] n) := fun n => by unfold evA; rw [g2]
      have hday := evDay_le zs k
      have HT := hid (show evTo zs (k + 1) = evTo zs k ++ [evAt zs k] from rfl)
      have HDY := hid (show evDay zs (k + 1) = evDay zs k + evD zs k from rfl)
      have HTL := hid (length_evTo zs k)
      have hu := pickN_lt zs[3 * k] 1099511627776 (by omega)
      have hd := pickN_lt zs[3 * k + 1] 100 (by omega)
      have ha1 := pickN_lt zs[3 * k + 2] 100000000 (by omega)
      have ha2 := pickN_lt zs[3 * k + 2] 300 (by omega)
      have ha3 := pickN_lt zs[3 * k + 2] 1001 (by omega)
      have P0 := hid (fun w1 => pick_any zs[3 * k] 1099511627776 w1 (by omega) (by omega) z0.1 z0.2)
      have P1 := hid (fun w1 => pick_any zs[3 * k + 1] 100 w1 (by omega) (by omega) z1.1 z1.2)
      have P2 := hid (fun w1 => pick_any zs[3 * k + 2] 100000000 w1 (by omega) (by omega) z2.1 z2.2)
      have P3 := hid (fun w1 => pick_any zs[3 * k + 2] 300 w1 (by omega) (by omega) z2.1 z2.2)
      have P4 := hid (fun w1 => pick_any zs[3 * k + 2] 1001 w1 (by omega) (by omega) z2.1 z2.2)
      generalize zs[3 * k] = x0 at *
      generalize zs[3 * k + 1] = x1 at *
      generalize zs[3 * k + 2] = x2 at *
      clear g0 g1 g2 z0 z1 z2 hlen
      obtain ⟨j, hj⟩ : ∃ j, j = 3 * k := ⟨_, rfl⟩
      rw [← hj] at hc0 hc1 hc2 hlt ⊢
      have i1 : (j : Int) + 2 < (n : Int) := by omega
      have i2 : (j : Int) < 180 := by omega
      have i3 : (0 : Int) ≤ (j : Int) := by omega
      have i4 : (j : Int) < (n : Int) := by omega
      have i5 : (j : Int) + 1 < (n : Int) := by omega
      have HJ := hid hj
      clear hj hc
      generalize pickN x0 1099511627776 = U at *
      generalize pickN x1 100 = D at *
      go_wp2_with fail
      refine (P0.out _).mono ?_
      rintro e w1 ⟨rfl, rfl⟩
      go_wp2_with fail
      refine (P1.out _).mono ?_
      rintro e w2 ⟨rfl, rfl⟩
      have hblt : b < w2.heap.size := World.block_lt_of_cell? _ _ hc0
      have hu' : (U : Int) < 1099511627776 := by omega
      have HUL := hid hu
      clear hu
      go_wp2_with fail
      refine (P2.out _).mono ?_
      rintro e w3 ⟨rfl, rfl⟩
      have HLO : Hid (((U % 4 * 21 : Nat) : Int) = (U : Int) % 4 * 21) := by show _ = _; omega
      have HKI : Hid (((U / 4 % 3 : Nat) : Int) = (U : Int) / 4 % 3) := by show _ = _; omega
      rw [← HLO.out, ← HKI.out]
      have hkd : U / 4 % 3 < 3 := by omega
      have HEV0 : Hid (∀ am : Nat, evAm zs k = am → evAt zs k = ⟨((U % 4 * 21 : Nat) : Int), ((U / 4 % 3 : Nat) : Int), (am : Int), ((evDay zs k + D : Nat) : Int)⟩) := fun am h => by
        unfold evAt; rw [HU.out, h, HDY.out, HD.out]
      have HAM : Hid (evAm zs k = if U / 4 % 3 = 2 then pickN x2 1001 else if U / 12 % 2 = 0 then 1 + pickN x2 300 else 1 + pickN x2 100000000) := by
        show _ = _; unfold evAm; rw [HU.out, HA.out, HA.out, HA.out]
      generalize U % 4 * 21 = LO at HLO HEV0 ⊢
      generalize U / 4 % 3 = KI at HKI HAM hkd HEV0 ⊢
      generalize pickN x2 100000000 = A1 at *
      generalize pickN x2 300 = A2 at *
      generalize pickN x2 1001 = A3 at *
      obtain ⟨dy, hdy⟩ : ∃ dy, dy = evDay zs k + D := ⟨_, rfl⟩
      rw [show ((evDay zs k : Int) + (D : Int)) = (dy : Int) by omega]
      rw [← hdy] at HEV0
      have HDY2 := hid hdy
      have hsz := hbel.size
      clear hdy
      by_cases h12 : U / 12 % 2 = 0
      · have e1 : (U : Int) / 12 % 2 = 0 := by omega
        have H12 := hid h12
        clear h12
        by_cases hk2 : KI = 2
        · have HK2 := hid hk2
          have HAE := hid (HEV0.out (A3) (by rw [HAM.out, if_pos HK2.out]))
          have e2 : ((KI : Int) == 2) = true := by simp; omega
          clear hk2
          go_wp2_with fail
          refine (P3.out _).mono ?_
          rintro e w4 ⟨rfl, rfl⟩
          go_wp2_with fail
          refine (P4.out _).mono ?_
          rintro e w5 ⟨rfl, rfl⟩
          go_wp2_with (at_builtin; refine wpList_appE rfl _ _ rfl w.heap.size _ _ ⟨(LO : Int), (KI : Int), (A3 : Int), (dy : Int)⟩ rfl ((HO.out.alloc _).alloc _) (w2.heap.size + 1) 1 rfl (cell_four' _ _ _ _ _ _ _).1 (cell_four' _ _ _ _ _ _ _).2.1 (cell_four' _ _ _ _ _ _ _).2.2.1 (cell_four' _ _ _ _ _ _ _).2.2.2 (by have := HTL.out; omega) (by simp; omega) ?_)
          intro v6 w6 hown6 hb6 _
          have hbel6 : Below w.heap.size w w6 := ((hbel.alloc (by omega) _).alloc (by simp; omega) _).trans hb6
          have HO6 : Hid (OwnE w6 w.heap.size v6 (evTo zs (k + 1))) := by show OwnE _ _ _ _; rw [HT.out, HAE.out]; exact hown6
          clear hown6 hb6
          go_wp2_with fail
          go_roundw
          case rel => exact ⟨k + 1, by omega, by have := HJ.out; omega, by have := HJ.out; go_num, by rw [HDY.out, HD.out, HDY2.out], HO6, hbel6⟩
          case measure => simp [intOf]; omega
        · have HK2 := hid hk2
          have HAE := hid (HEV0.out (1 + A2) (by rw [HAM.out, if_neg HK2.out, if_pos H12.out]))
          have e2 : ((KI : Int) == 2) = false := by simp; omega
          clear hk2
          go_wp2_with fail
          refine (P3.out _).mono ?_
          rintro e w4 ⟨rfl, rfl⟩
          go_wp2_with (at_builtin; refine wpList_appE rfl _ _ rfl w.heap.size _ _ ⟨(LO : Int), (KI : Int), 1 + (A2 : Int), (dy : Int)⟩ rfl ((HO.out.alloc _).alloc _) (w2.heap.size + 1) 1 rfl (cell_four' _ _ _ _ _ _ _).1 (cell_four' _ _ _ _ _ _ _).2.1 (cell_four' _ _ _ _ _ _ _).2.2.1 (cell_four' _ _ _ _ _ _ _).2.2.2 (by have := HTL.out; omega) (by simp; omega) ?_)
          intro v6 w6 hown6 hb6 _
          have hbel6 : Below w.heap.size w w6 := ((hbel.alloc (by omega) _).alloc (by simp; omega) _).trans hb6
          have HO6 : Hid (OwnE w6 w.heap.size v6 (evTo zs (k + 1))) := by show OwnE _ _ _ _; rw [HT.out, HAE.out]; exact hown6
          clear hown6 hb6
          go_wp2_with fail
          go_roundw
          case rel => exact ⟨k + 1, by omega, by have := HJ.out; omega, by have := HJ.out; go_num, by rw [HDY.out, HD.out, HDY2.out], HO6, hbel6⟩
          case measure => simp [intOf]; omega
      · have e1 : ((U : Int) / 12 % 2 == 0) = false := by simp; omega
        have H12 := hid h12
        clear h12
        by_cases hk2 : KI = 2
        · have HK2 := hid hk2
          have HAE := hid (HEV0.out (A3) (by rw [HAM.out, if_pos HK2.out]))
          have e2 : ((KI : Int) == 2) = true := by simp; omega
          clear hk2
          go_wp2_with fail
          refine (P4.out _).mono ?_
          rintro e w5 ⟨rfl, rfl⟩
          go_wp2_with (at_builtin; refine wpList_appE rfl _ _ rfl w.heap.size _ _ ⟨(LO : Int), (KI : Int), (A3 : Int), (dy : Int)⟩ rfl ((HO.out.alloc _).alloc _) (w2.heap.size + 1) 1 rfl (cell_four' _ _ _ _ _ _ _).1 (cell_four' _ _ _ _ _ _ _).2.1 (cell_four' _ _ _ _ _ _ _).2.2.1 (cell_four' _ _ _ _ _ _ _).2.2.2 (by have := HTL.out; omega) (by simp; omega) ?_)
          intro v6 w6 hown6 hb6 _
          have hbel6 : Below w.heap.size w w6 := ((hbel.alloc (by omega) _).alloc (by simp; omega) _).trans hb6
          have HO6 : Hid (OwnE w6 w.heap.size v6 (evTo zs (k + 1))) := by show OwnE _ _ _ _; rw [HT.out, HAE.out]; exact hown6
          clear hown6 hb6
          go_wp2_with fail
          go_roundw
          case rel => exact ⟨k + 1, by omega, by have := HJ.out; omega, by have := HJ.out; go_num, by rw [HDY.out, HD.out, HDY2.out], HO6, hbel6⟩
          case measure => simp [intOf]; omega
        · have HK2 := hid hk2
          have HAE := hid (HEV0.out (1 + A1) (by rw [HAM.out, if_neg HK2.out, if_neg H12.out]))
          have e2 : ((KI : Int) == 2) = false := by simp; omega
          clear hk2
          go_wp2_with (at_builtin; refine wpList_appE rfl _ _ rfl w.heap.size _ _ ⟨(LO : Int), (KI : Int), 1 + (A1 : Int), (dy : Int)⟩ rfl ((HO.out.alloc _).alloc _) (w2.heap.size + 1) 1 rfl (cell_four' _ _ _ _ _ _ _).1 (cell_four' _ _ _ _ _ _ _).2.1 (cell_four' _ _ _ _ _ _ _).2.2.1 (cell_four' _ _ _ _ _ _ _).2.2.2 (by have := HTL.out; omega) (by simp; omega) ?_)
          intro v6 w6 hown6 hb6 _
          have hbel6 : Below w.heap.size w w6 := ((hbel.alloc (by omega) _).alloc (by simp; omega) _).trans hb6
          have HO6 : Hid (OwnE w6 w.heap.size v6 (evTo zs (k + 1))) := by show OwnE _ _ _ _; rw [HT.out, HAE.out]; exact hown6
          clear hown6 hb6
          go_wp2_with fail
          go_roundw
          case rel => exact ⟨k + 1, by omega, by have := HJ.out; omega, by have := HJ.out; go_num, by rw [HDY.out, HD.out, HDY2.out], HO6, hbel6⟩
          case measure => simp [intOf]; omega
    · have HE : Hid (k = evK n) := by show _ = _; unfold evK; split <;> omega
      have HLN := HN.out
      by_cases h60 : k < 60
      · have i1 : ¬ ((3 * k : Nat) : Int) + 2 < (n : Int) := by omega
        clear HLN
        go_wp2_with fail
        go_ret
        exact ⟨_, rfl, by unfold evs; rw [HN.out, ← HE.out]; exact HO.out, hbel⟩
      · obtain rfl : k = 60 := by omega
        clear HLN
        by_cases hm : (182 : Int) < (n : Int)
        · go_wp2_with fail
          go_ret
          exact ⟨_, rfl, by unfold evs; rw [HN.out, ← HE.out]; exact HO.out, hbel⟩
        · go_wp2_with fail
          go_ret
          exact ⟨_, rfl, by unfold evs; rw [HN.out, ← HE.out]; exact HO.out, hbel⟩

end Go.Proofs.YtedblhcehlbbmabDoor

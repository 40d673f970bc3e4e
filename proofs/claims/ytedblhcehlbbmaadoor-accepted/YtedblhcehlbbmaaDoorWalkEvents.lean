/-
  CONTRACT: lenderkeep.events: a list of events of the call's own.
-/
import Derived.Test.YtedblhcehlbbmaaDoorWalkHand
import Derived.Test.YtedblhcehlbbmaaDoorWalkPick
import Derived.Test.YtedblhcehlbbmaaDoorSpecBook
import Derived.WalkKit
import Derived.WalkSpells
import Derived.WalkLawsBesides
namespace Go.Proofs.YtedblhcehlbbmaaDoor
open Go.RowKit

/-- The i-th event of raw numbers, the day so far being d. -/
def evU (zs : List Int) (i : Nat) : Nat := pickN (zs.getD (3 * i) 0) 1099511627776
def evD (zs : List Int) (i : Nat) : Nat := pickN (zs.getD (3 * i + 1) 0) 100
def evA (zs : List Int) (i : Nat) (n : Nat) : Nat := pickN (zs.getD (3 * i + 2) 0) n
def evAm (zs : List Int) (i : Nat) : Nat :=
  if evU zs i / 4 % 3 = 2 then evA zs i 1001 else if evU zs i / 12 % 2 = 0 then 1 + evA zs i 300 else 1 + evA zs i 100000000
/-- The day ahead of the i-th event. -/
def evDay (zs : List Int) : Nat → Nat
  | 0 => 0
  | i + 1 => evDay zs i + evD zs i
def evAt (zs : List Int) (i : Nat) : Ev := ⟨((evU zs i % 4 * 21 : Nat) : Int), ((evU zs i / 4 % 3 : Nat) : Int), (evAm zs i : Int), (evDay zs (i + 1) : Int)⟩
def evTo (zs : List Int) : Nat → List Ev
  | 0 => []
  | i + 1 => evTo zs i ++ [evAt zs i]
/-- How many events there are. -/
def evK (n : Nat) : Nat := if n / 3 < 60 then n / 3 else 60
def evs (zs : List Int) : List Ev := evTo zs (evK zs.length)
theorem length_evTo (zs : List Int) (k : Nat) : (evTo zs k).length = k := by
  induction k with
  | zero => rfl
  | succ k ih => rw [evTo, List.length_append, ih]; rfl
theorem length_evs (zs : List Int) : (evs zs).length ≤ 60 := by unfold evs evK; rw [length_evTo]; split <;> omega
theorem evDay_le (zs : List Int) (k : Nat) : evDay zs k ≤ 99 * k := by
  induction k with
  | zero => simp [evDay]
  | succ k ih =>
    have := pickN_lt (zs.getD (3 * k + 1) 0) 100 (by omega)
    rw [evDay]; unfold evD; omega
theorem evAt_may (zs : List Int) (i : Nat) (h : i < 60) : MayE (evAt zs i) := by
  have h1 := evDay_le zs (i + 1)
  have h2 := pickN_lt (zs.getD (3 * i + 2) 0) 1001 (by omega)
  have h3 := pickN_lt (zs.getD (3 * i + 2) 0) 300 (by omega)
  have h4 := pickN_lt (zs.getD (3 * i + 2) 0) 100000000 (by omega)
  refine ⟨?_, ?_, ?_, ?_⟩
  · simp only [evAt]; omega
  · simp only [evAt]; omega
  · by_cases hk : evU zs i / 4 % 3 = 2
    · have hk' : (evAt zs i).kind = 2 := by simp only [evAt]; omega
      rw [if_pos hk', if_pos hk']
      simp only [evAt]
      unfold evAm evA
      rw [if_pos hk]; omega
    · have hk' : ¬ (evAt zs i).kind = 2 := by simp only [evAt]; omega
      rw [if_neg hk', if_neg hk']
      simp only [evAt]
      unfold evAm evA
      rw [if_neg hk]; split <;> omega
  · simp only [evAt]; omega
theorem evTo_last (zs : List Int) (k : Nat) : lastD (evTo zs k) = (evDay zs k : Int) := by
  cases k with
  | zero => rfl
  | succ k => rw [evTo, lastD_snoc]; rfl
theorem evTo_good (zs : List Int) (k : Nat) (h : k ≤ 60) : GoodE (evTo zs k) := by
  induction k with
  | zero => exact GoodE.nil
  | succ k ih =>
    rw [evTo]
    refine (ih (by omega)).snoc (by rw [length_evTo]; omega) (evAt_may zs k (by omega)) ?_
    rw [evTo_last]
    simp only [evAt, evDay]; omega
theorem evs_good (zs : List Int) : GoodE (evs zs) := evTo_good zs _ (by unfold evK; split <;> omega)

theorem Tryd.infoEvent : (Tryd.prog.info? 48).map (fun i => (i.zero, i.size, i.bytes)) = some (some (.agg #[.int .i64 0, .int .i64 0, .int .i64 0, .int .i64 0]), 4, 32) := by kernel_rfl

/-- An event's cells. -/
def ecells (e : Ev) : List Value := [.int .i64 e.loan, .int .i64 e.kind, .int .i64 e.amount, .int .i64 e.day]
def ecs (es : List Ev) : List Value := es.flatMap ecells
theorem ecs_append (a b : List Ev) : ecs (a ++ b) = ecs a ++ ecs b := by simp [ecs]
theorem length_ecs (es : List Ev) : (ecs es).length = es.length * 4 := by
  induction es with
  | nil => rfl
  | cons t ts ih => unfold ecs at *; rw [List.flatMap_cons, List.length_append, ih]; simp [ecells]; omega
theorem ecs_at (es : List Ev) (i : Nat) (h : i < es.length) : (ecs es)[4 * i]? = some (.int .i64 es[i].loan) ∧ (ecs es)[4 * i + 1]? = some (.int .i64 es[i].kind) ∧ (ecs es)[4 * i + 2]? = some (.int .i64 es[i].amount) ∧ (ecs es)[4 * i + 3]? = some (.int .i64 es[i].day) := by
  induction es generalizing i with
  | nil => simp at h
  | cons t ts ih =>
    cases i with
    | zero => simp [ecs, ecells]
    | succ i =>
      have := ih i (by simp at h; omega)
      have e : ecs (t :: ts) = ecells t ++ ecs ts := by simp [ecs]
      have hl : (ecells t).length = 4 := rfl
      rw [e, List.getElem?_append_right (by omega), List.getElem?_append_right (by omega), List.getElem?_append_right (by omega), List.getElem?_append_right (by omega), hl, show 4 * (i + 1) - 4 = 4 * i by omega, show 4 * (i + 1) + 1 - 4 = 4 * i + 1 by omega, show 4 * (i + 1) + 2 - 4 = 4 * i + 2 by omega, show 4 * (i + 1) + 3 - 4 = 4 * i + 3 by omega]
      exact this

/-- The slice v is the call's own (from block B on) and holds these events. -/
def OwnE (w : World) (B : Nat) (v : Value) (es : List Ev) : Prop := w.ownsRow B 48 4 v es.length (ecs es)
theorem OwnE.nil (w : World) (B : Nat) : OwnE w B (.slice none 0 0) [] := World.ownsRow_nil _ _ _ _
theorem OwnE.alloc {w : World} {B : Nat} {v : Value} {l : List Ev} (h : OwnE w B v l) (o : Obj) : OwnE (w.alloc o) B v l := World.ownsRow.alloc h o
theorem OwnE.kept {w w' : World} {B : Nat} {v : Value} {l : List Ev} (h : OwnE w B v l) (hb : Below w.heap.size w w') : OwnE w' B v l := by
  obtain ⟨h1, h2⟩ := h
  refine ⟨h1, ?_⟩
  rcases h2 with h2 | ⟨g, cap, cur, e1, e2, e3, e4⟩
  · exact .inl h2
  · have hg : g < w.heap.size := by
      rcases Nat.lt_or_ge g w.heap.size with h | h
      · exact h
      · rw [Array.getElem?_eq_none h] at e3; cases e3
    exact .inr ⟨g, cap, cur, e1, e2, by rw [hb.block g hg]; exact e3, e4⟩

/-- The slice at this address holds these events. -/
def Evs (w : World) (a : Option Addr) (es : List Ev) : Prop :=
  es = [] ∨ ∃ b, a = some ⟨b, 0, none⟩ ∧ ∀ i (h : i < es.length), w.cell? ⟨b, i * 4, none⟩ = some (.int .i64 es[i].loan) ∧ w.cell? ⟨b, i * 4 + 1, none⟩ = some (.int .i64 es[i].kind) ∧ w.cell? ⟨b, i * 4 + 2, none⟩ = some (.int .i64 es[i].amount) ∧ w.cell? ⟨b, i * 4 + 3, none⟩ = some (.int .i64 es[i].day)
theorem Evs.at {w : World} {a : Option Addr} {es : List Ev} (h : Evs w a es) (hp : 0 < es.length) :
    ∃ b, a = some ⟨b, 0, none⟩ ∧ ∀ i (h : i < es.length), w.cell? ⟨b, i * 4, none⟩ = some (.int .i64 es[i].loan) ∧ w.cell? ⟨b, i * 4 + 1, none⟩ = some (.int .i64 es[i].kind) ∧ w.cell? ⟨b, i * 4 + 2, none⟩ = some (.int .i64 es[i].amount) ∧ w.cell? ⟨b, i * 4 + 3, none⟩ = some (.int .i64 es[i].day) := by
  rcases h with rfl | h
  · simp at hp
  · exact h
theorem Evs.lt {w : World} {a : Option Addr} {es : List Ev} (h : Evs w a es) (hp : 0 < es.length) : ∃ b, a = some ⟨b, 0, none⟩ ∧ b < w.heap.size := by
  obtain ⟨b, ha, hc⟩ := h.at hp
  exact ⟨b, ha, World.block_lt_of_cell? _ _ (hc 0 hp).1⟩
/-- Under a bound that is above the list's block. -/
theorem Evs.under {w w' : World} {a : Option Addr} {es : List Ev} {B : Nat} (h : Evs w a es) (hb : Below B w w') (hl : ∀ b, a = some ⟨b, 0, none⟩ → b < B) : Evs w' a es := by
  rcases h with h | ⟨b, ha, hc⟩
  · exact .inl h
  · refine .inr ⟨b, ha, fun i hi => ?_⟩
    have hlt := hl b ha
    obtain ⟨h1, h2, h3, h4⟩ := hc i hi
    exact ⟨by rw [hb.cell hlt]; exact h1, by rw [hb.cell hlt]; exact h2, by rw [hb.cell hlt]; exact h3, by rw [hb.cell hlt]; exact h4⟩
theorem OwnE.form {w : World} {B : Nat} {v : Value} {l : List Ev} (h : OwnE w B v l) : ∃ a cap, v = .slice a l.length cap ∧ l.length ≤ cap ∧ cap ≤ maxLen ∧ Evs w a l ∧ (∀ b, a = some ⟨b, 0, none⟩ → b < w.heap.size) := by
  have hh := h
  obtain ⟨h1, h2⟩ := h
  rcases h2 with ⟨rfl, h2⟩ | ⟨g, cap, cur, rfl, e2, e3, e4, e5, e6, e7⟩
  · rw [h2]; exact ⟨none, 0, rfl, Nat.le_refl _, Nat.zero_le _, .inl (List.eq_nil_of_length_eq_zero h2), fun b hb => by cases hb⟩
  · have hg : g < w.heap.size := by
      rcases Nat.lt_or_ge g w.heap.size with h | h
      · exact h
      · rw [Array.getElem?_eq_none h] at e3; cases e3
    refine ⟨_, cap, rfl, e4, e5, .inr ⟨g, rfl, fun i hi => ?_⟩, fun b hb => by cases hb; exact hg⟩
    have c := ecs_at l i hi
    have cc : ∀ j u, (ecs l)[j]? = some u → w.cell? ⟨g, j, none⟩ = some u := fun j u hj => by
      have := World.ownsRow.cells hh (g := g) rfl j u hj
      by_cases h0 : j = 0
      · subst h0; simpa [Addr.add] using this
      · simpa [Addr.add, h0] using this
    refine ⟨cc _ _ ?_, cc _ _ ?_, cc _ _ ?_, cc _ _ ?_⟩
    · rw [Nat.mul_comm]; exact c.1
    · rw [Nat.mul_comm]; exact c.2.1
    · rw [Nat.mul_comm]; exact c.2.2.1
    · rw [Nat.mul_comm]; exact c.2.2.2

/-- 'l = append(l, e)': l the call's own, e one event, laid in a block of its own first. -/
theorem wpList_appE {w : World} {ops : Array Oper} {rest : List Oper} {o : Oper} {a : Act} {Q : Exit → Act → World → Prop} (hgd : o.guard = none) (s x : Operand)
    (ho : o.op = .call { callee := .builtin .append, args := #[s, x], argTypes := #[49, 49] })
    (B : Nat) (v : Value) (l : List Ev) (t : Ev) (hs : a.eval s = v) (hown : OwnE w B v l) (g : Nat) (c : Nat) (hx : a.eval x = .slice (some ⟨g, 0, none⟩) 1 c)
    (h0 : w.cell? ⟨g, 0, none⟩ = some (.int .i64 t.loan)) (h1 : w.cell? ⟨g, 1, none⟩ = some (.int .i64 t.kind)) (h2 : w.cell? ⟨g, 2, none⟩ = some (.int .i64 t.amount)) (h3 : w.cell? ⟨g, 3, none⟩ = some (.int .i64 t.day))
    (hlen : l.length ≤ 1000000) (hB : B ≤ w.heap.size)
    (h : ∀ v' w', OwnE w' B v' (l ++ [t]) → Below B w w' → w.grownBy w' v.ownBlock → wpList Tryd.prog ops Q rest (a.put o.dst v') w') : wpList Tryd.prog ops Q (o :: rest) a w := by
  obtain ⟨i0, hi, hz0, hz1, hz2⟩ := info_parts Tryd.infoEvent
  refine wpList_append_own _ hgd s x 49 ho B 48 i0 (.agg #[.int .i64 0, .int .i64 0, .int .i64 0, .int .i64 0]) 4 32 Tryd.underlying49 hi hz0 hz1 hz2 rfl (by decide) v l.length (ecs l) hs hown ⟨g, 0, none⟩ 1 c (ecells t) hx rfl ?_ ?_ (by unfold maxLen; omega) (by omega) hB ?_
  · intro j u hj
    match j, hj with
    | 0, hj => simp [ecells] at hj; subst hj; simpa [Addr.add] using h0
    | 1, hj => simp [ecells] at hj; subst hj; simpa [Addr.add] using h1
    | 2, hj => simp [ecells] at hj; subst hj; simpa [Addr.add] using h2
    | 3, hj => simp [ecells] at hj; subst hj; simpa [Addr.add] using h3
    | j + 4, hj => simp [ecells] at hj
  · intro u hu; simp [ecells] at hu; rcases hu with rfl | rfl | rfl | rfl <;> rfl
  · intro v' w' h1 h2 _
    refine h v' w' ?_ ((Below.refl _ _).grown h2 hB (fun k hk => (hown.lt k hk).1)) h2
    unfold OwnE
    rw [ecs_append, List.length_append]
    have e : ecs [t] = ecells t := by simp [ecs]
    rw [e]
    exact h1

theorem cell_four (w : World) (x y z u : Value) (t : TypeId) : (w.alloc (.cells #[x, y, z, u] t)).cell? ⟨w.heap.size, 0, none⟩ = some x ∧ (w.alloc (.cells #[x, y, z, u] t)).cell? ⟨w.heap.size, 1, none⟩ = some y ∧ (w.alloc (.cells #[x, y, z, u] t)).cell? ⟨w.heap.size, 2, none⟩ = some z ∧ (w.alloc (.cells #[x, y, z, u] t)).cell? ⟨w.heap.size, 3, none⟩ = some u := by
  refine ⟨?_, ?_, ?_, ?_⟩ <;> rw [World.cell?_alloc_mark] <;> rfl

theorem cell_four' (w : World) (X : Obj) (x y z u : Value) (t : TypeId) : ((w.alloc X).alloc (.cells #[x, y, z, u] t)).cell? ⟨w.heap.size + 1, 0, none⟩ = some x ∧ ((w.alloc X).alloc (.cells #[x, y, z, u] t)).cell? ⟨w.heap.size + 1, 1, none⟩ = some y ∧ ((w.alloc X).alloc (.cells #[x, y, z, u] t)).cell? ⟨w.heap.size + 1, 2, none⟩ = some z ∧ ((w.alloc X).alloc (.cells #[x, y, z, u] t)).cell? ⟨w.heap.size + 1, 3, none⟩ = some u := by
  have h := cell_four (w.alloc X) x y z u t
  rw [show (w.alloc X).heap.size = w.heap.size + 1 by simp] at h
  exact h

end Go.Proofs.YtedblhcehlbbmaaDoor

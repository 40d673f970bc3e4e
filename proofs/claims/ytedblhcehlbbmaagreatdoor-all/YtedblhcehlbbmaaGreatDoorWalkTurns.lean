import Derived.Test.YtedblhcehlbbmaaGreatDoorJWalkHand
import Derived.Test.YtedblhcehlbbmaaGreatDoorJMathSum
import Derived.WalkKit
import Derived.WalkSpells
import Derived.WalkLawsBesides
/-
  CONTRACTS: lenderref.turns, a list of structs of the call's own.
-/
namespace Go.Proofs.YtedblhcehlbbmaaGreatDoor
set_option maxRecDepth 20000
open Go.RowKit

theorem Tryz.infoTurn : (Tryz.prog.info? 108).map (fun i => (i.zero, i.size, i.bytes)) = some (some (.agg #[.bool false, .int .i64 0, .int .i64 0]), 3, 24) := by kernel_rfl

/-- A turn's cells. -/
def tcells (t : Turn) : List Value := [.bool t.left, .int .i64 (t.lo : Int), .int .i64 (t.hi : Int)]
def tv (ts : List Turn) : List Value := ts.flatMap tcells
theorem tv_append (a b : List Turn) : tv (a ++ b) = tv a ++ tv b := by simp [tv]
theorem length_tv (ts : List Turn) : (tv ts).length = ts.length * 3 := by
  induction ts with
  | nil => rfl
  | cons t ts ih => unfold tv at *; rw [List.flatMap_cons, List.length_append, ih]; simp [tcells]; omega
theorem tv_at (ts : List Turn) (i : Nat) (h : i < ts.length) : (tv ts)[3 * i]? = some (.bool ts[i].left) ∧ (tv ts)[3 * i + 1]? = some (.int .i64 (ts[i].lo : Int)) ∧ (tv ts)[3 * i + 2]? = some (.int .i64 (ts[i].hi : Int)) := by
  induction ts generalizing i with
  | nil => simp at h
  | cons t ts ih =>
    cases i with
    | zero => simp [tv, tcells]
    | succ i =>
      have := ih i (by simp at h; omega)
      have e : tv (t :: ts) = tcells t ++ tv ts := by simp [tv]
      have hl : (tcells t).length = 3 := rfl
      rw [e, List.getElem?_append_right (by omega), List.getElem?_append_right (by omega), List.getElem?_append_right (by omega), hl, show 3 * (i + 1) - 3 = 3 * i by omega, show 3 * (i + 1) + 1 - 3 = 3 * i + 1 by omega, show 3 * (i + 1) + 2 - 3 = 3 * i + 2 by omega]
      exact this

/-- The slice v is the call's own (from block B on) and holds these turns. -/
def OwnT (w : World) (B : Nat) (v : Value) (ts : List Turn) : Prop := w.ownsRow B 108 3 v ts.length (tv ts)
theorem OwnT.nil (w : World) (B : Nat) : OwnT w B (.slice none 0 0) [] := World.ownsRow_nil _ _ _ _
theorem OwnT.alloc {w : World} {B : Nat} {v : Value} {l : List Turn} (h : OwnT w B v l) (o : Obj) : OwnT (w.alloc o) B v l := World.ownsRow.alloc h o
theorem OwnT.kept {w w' : World} {B : Nat} {v : Value} {l : List Turn} (h : OwnT w B v l) (hb : Below w.heap.size w w') : OwnT w' B v l := by
  obtain ⟨h1, h2⟩ := h
  refine ⟨h1, ?_⟩
  rcases h2 with h2 | ⟨g, cap, cur, e1, e2, e3, e4⟩
  · exact .inl h2
  · have hg : g < w.heap.size := by
      rcases Nat.lt_or_ge g w.heap.size with h | h
      · exact h
      · rw [Array.getElem?_eq_none h] at e3; cases e3
    exact .inr ⟨g, cap, cur, e1, e2, by rw [hb.block g hg]; exact e3, e4⟩

/-- The slice at this address holds these turns. -/
def Turns (w : World) (a : Option Addr) (ts : List Turn) : Prop :=
  ts = [] ∨ ∃ b, a = some ⟨b, 0, none⟩ ∧ ∀ i (h : i < ts.length), w.cell? ⟨b, i * 3, none⟩ = some (.bool ts[i].left) ∧ w.cell? ⟨b, i * 3 + 1, none⟩ = some (.int .i64 (ts[i].lo : Int)) ∧ w.cell? ⟨b, i * 3 + 2, none⟩ = some (.int .i64 (ts[i].hi : Int))
theorem Turns.at {w : World} {a : Option Addr} {ts : List Turn} (h : Turns w a ts) (hp : 0 < ts.length) :
    ∃ b, a = some ⟨b, 0, none⟩ ∧ ∀ i (h : i < ts.length), w.cell? ⟨b, i * 3, none⟩ = some (.bool ts[i].left) ∧ w.cell? ⟨b, i * 3 + 1, none⟩ = some (.int .i64 (ts[i].lo : Int)) ∧ w.cell? ⟨b, i * 3 + 2, none⟩ = some (.int .i64 (ts[i].hi : Int)) := by
  rcases h with rfl | h
  · simp at hp
  · exact h
theorem Turns.kept {w w' : World} {a : Option Addr} {ts : List Turn} (h : Turns w a ts) (hb : Below w.heap.size w w') : Turns w' a ts := by
  rcases h with h | ⟨b, ha, hc⟩
  · exact .inl h
  · refine .inr ⟨b, ha, fun i hi => ?_⟩
    obtain ⟨h1, h2, h3⟩ := hc i hi
    exact ⟨by rw [hb.cell (World.block_lt_of_cell? _ _ h1)]; exact h1, by rw [hb.cell (World.block_lt_of_cell? _ _ h2)]; exact h2, by rw [hb.cell (World.block_lt_of_cell? _ _ h3)]; exact h3⟩
theorem OwnT.form {w : World} {B : Nat} {v : Value} {l : List Turn} (h : OwnT w B v l) : ∃ a cap, v = .slice a l.length cap ∧ l.length ≤ cap ∧ cap ≤ maxLen ∧ Turns w a l := by
  have hh := h
  obtain ⟨h1, h2⟩ := h
  rcases h2 with ⟨rfl, h2⟩ | ⟨g, cap, cur, rfl, e2, e3, e4, e5, e6, e7⟩
  · rw [h2]; exact ⟨none, 0, rfl, Nat.le_refl _, Nat.zero_le _, .inl (List.eq_nil_of_length_eq_zero h2)⟩
  · refine ⟨_, cap, rfl, e4, e5, .inr ⟨g, rfl, fun i hi => ?_⟩⟩
    have c := tv_at l i hi
    have cc : ∀ j u, (tv l)[j]? = some u → w.cell? ⟨g, j, none⟩ = some u := fun j u hj => by
      have := World.ownsRow.cells hh (g := g) rfl j u hj
      by_cases h0 : j = 0
      · subst h0; simpa [Addr.add] using this
      · simpa [Addr.add, h0] using this
    refine ⟨cc _ _ ?_, cc _ _ ?_, cc _ _ ?_⟩
    · rw [Nat.mul_comm]; exact c.1
    · rw [Nat.mul_comm]; exact c.2.1
    · rw [Nat.mul_comm]; exact c.2.2

/-- 'out = append(out, t)': out the call's own, t one turn, laid in a block of its own first. -/
theorem wpList_appT {w : World} {ops : Array Oper} {rest : List Oper} {o : Oper} {a : Act} {Q : Exit → Act → World → Prop} (hgd : o.guard = none) (s x : Operand)
    (ho : o.op = .call { callee := .builtin .append, args := #[s, x], argTypes := #[104, 104] })
    (B : Nat) (v : Value) (l : List Turn) (t : Turn) (hs : a.eval s = v) (hown : OwnT w B v l) (g : Nat) (c : Nat) (hx : a.eval x = .slice (some ⟨g, 0, none⟩) 1 c)
    (h0 : w.cell? ⟨g, 0, none⟩ = some (.bool t.left)) (h1 : w.cell? ⟨g, 1, none⟩ = some (.int .i64 (t.lo : Int))) (h2 : w.cell? ⟨g, 2, none⟩ = some (.int .i64 (t.hi : Int)))
    (hlen : l.length ≤ 1000000) (hB : B ≤ w.heap.size)
    (h : ∀ v' w', OwnT w' B v' (l ++ [t]) → Below B w w' → wpList Tryz.prog ops Q rest (a.put o.dst v') w') : wpList Tryz.prog ops Q (o :: rest) a w := by
  obtain ⟨i0, hi, hz0, hz1, hz2⟩ := info_parts Tryz.infoTurn
  refine wpList_append_own _ hgd s x 104 ho B 108 i0 (.agg #[.bool false, .int .i64 0, .int .i64 0]) 3 24 Tryz.underlying104 hi hz0 hz1 hz2 rfl (by decide) v l.length (tv l) hs hown ⟨g, 0, none⟩ 1 c (tcells t) hx rfl ?_ ?_ (by unfold maxLen; omega) (by omega) hB ?_
  · intro j u hj
    match j, hj with
    | 0, hj => simp [tcells] at hj; subst hj; simpa [Addr.add] using h0
    | 1, hj => simp [tcells] at hj; subst hj; simpa [Addr.add] using h1
    | 2, hj => simp [tcells] at hj; subst hj; simpa [Addr.add] using h2
    | j + 3, hj => simp [tcells] at hj
  · intro u hu; simp [tcells] at hu; rcases hu with rfl | rfl | rfl <;> rfl
  · intro v' w' h1 h2 _
    refine h v' w' ?_ ((Below.refl _ _).grown h2 hB (fun k hk => (hown.lt k hk).1))
    unfold OwnT
    rw [tv_append, List.length_append]
    have e : tv [t] = tcells t := by simp [tv]
    rw [e]
    exact h1

theorem cell_three (w : World) (x y z : Value) (t : TypeId) : (w.alloc (.cells #[x, y, z] t)).cell? ⟨w.heap.size, 0, none⟩ = some x ∧ (w.alloc (.cells #[x, y, z] t)).cell? ⟨w.heap.size, 1, none⟩ = some y ∧ (w.alloc (.cells #[x, y, z] t)).cell? ⟨w.heap.size, 2, none⟩ = some z := by
  refine ⟨?_, ?_, ?_⟩ <;> rw [World.cell?_alloc_mark] <;> rfl

set_option maxHeartbeats 2000000 in
theorem turns_any (m n : Nat) (w : World) (h1 : 1 ≤ m) (h2 : m ≤ n) (h200 : n ≤ 200) :
    Calls Tryz.prog 67 #[.int .i64 (m : Int), .int .i64 (n : Int)] w fun e w' =>
      ∃ v, e = .returned (.tuple #[v, .bool (turnR m 0 n true).2.1, .int .i64 ((turnR m 0 n true).2.2 : Int)]) ∧ OwnT w' w.heap.size v (turnR m 0 n true).1 ∧ Below w.heap.size w w' := by
  have HT : Hid ((turnR m 0 n true).1.length ≤ n) := by have := (turnR_in n m 0 n true (by omega) (by omega) h2).2.1; show _ ≤ _; omega
  go_enter Tryz.func67, Tryz.ntmps67
  go_wp2
  go_loopw [7, 8, 9, 10] (fun v lo hi b wr => ∃ (l h : Nat) (c : Bool) (done : List Turn), lo = .int .i64 (l : Int) ∧ hi = .int .i64 (h : Int) ∧ b = .bool c ∧ l < m ∧ m ≤ h ∧ h ≤ n ∧ Hid (done ++ (turnR m l h c).1 = (turnR m 0 n true).1 ∧ (turnR m l h c).2 = (turnR m 0 n true).2) ∧ OwnT wr w.heap.size v done ∧ Below w.heap.size w wr) (fun _ lo hi _ _ => (intOf hi).toNat - (intOf lo).toNat)
  case atStart => exact ⟨0, n, true, [], rfl, rfl, rfl, by omega, h2, Nat.le_refl _, ⟨rfl, rfl⟩, OwnT.nil _ _, Below.refl _ _⟩
  case round =>
    obtain ⟨l, h, c, done, rfl, rfl, rfl, hl, hh, hn, HD, hown, hbel⟩ := hrel
    by_cases he : h = m
    · have HD3 : Hid (done = (turnR m 0 n true).1 ∧ (c, l) = (turnR m 0 n true).2) := by
        have HD2 := HD.out
        rw [he, turnR_end] at HD2
        simp only [List.append_nil] at HD2
        exact HD2
      have hne : ((h : Int) != (m : Int)) = false := by simp; omega
      clear HD he
      go_wp2_with fail
      go_ret3
      refine ⟨_, ?_, by rw [← HD3.out.1]; exact hown, hbel⟩
      rw [← HD3.out.2]
      rfl
    · have hne : ((h : Int) != (m : Int)) = true := by simp; omega
      obtain ⟨wo, rfl⟩ : ∃ wo : World, wo = wr := ⟨_, rfl⟩
      go_wp2_with fail
      go_loop [11] (fun t => ∃ k : Nat, Hid (∃ j, k = 2 ^ j) ∧ 0 < k ∧ k < h - l ∧ t = .int .i64 (k : Int)) (fun t => n - (intOf t).toNat)
      case atStart => exact ⟨1, ⟨0, rfl⟩, by omega, by omega, rfl⟩
      case round =>
        obtain ⟨k, HJ, hk0, hk, rfl⟩ := hrel
        by_cases hlt : 2 * (k : Int) < (h : Int) - (l : Int)
        · go_wp2_with fail
          go_round
          case rel => exact ⟨2 * k, by obtain ⟨j, hj⟩ := HJ.out; exact ⟨j + 1, by rw [hj, Nat.pow_succ, Nat.mul_comm]⟩, by omega, by omega, by go_num⟩
          case measure => simp [intOf]; omega
        · have hc : IsCut (h - l) k := ⟨HJ.out, hk, by omega⟩
          by_cases hik : m ≤ l + k
          · have HR := hid (turnR_le m l h k c hl (by omega) hc hik)
            have hik' : (m : Int) ≤ (l : Int) + (k : Int) := by omega
            have HOWN := hid hown
            have hdl : Hid (done.length ≤ 1000000) := by have := HT.out; have e := HD.out.1; rw [← e, List.length_append] at this; show _ ≤ _; omega
            have hsz := hbel.size
            have hc3 := hid (cell_three wo (.bool true) (.int .i64 ((l : Int) + (k : Int))) (.int .i64 (h : Int)) 108)
            clear hown
            go_wp2_with (at_builtin; refine wpList_appT rfl _ _ rfl w.heap.size _ done ⟨true, l + k, h⟩ rfl (HOWN.out.alloc _) wo.heap.size 1 rfl hc3.out.1 hc3.out.2.1 hc3.out.2.2 hdl.out (by simp; omega) ?_)
            intro v' w2 hown2 hb2
            have hbel2 : Below w.heap.size w w2 := (hbel.alloc (by omega) _).trans hb2
            have HD2 : Hid ((done ++ [⟨true, l + k, h⟩]) ++ (turnR m l (l + k) c).1 = (turnR m 0 n true).1 ∧ (turnR m l (l + k) c).2 = (turnR m 0 n true).2) := by
              have e := HD.out
              rw [HR.out] at e
              exact ⟨by rw [← e.1, List.append_assoc]; rfl, e.2⟩
            have HOWN2 := hid hown2
            clear hown2 hb2 HOWN hc3
            go_wp2_with fail
            go_roundw
            case rel => exact ⟨l, l + k, c, _, rfl, by go_num, rfl, hl, hik, by omega, HD2, HOWN2.out, hbel2⟩
            case measure => simp [intOf]; omega
          · have HR := hid (turnR_gt m l h k c (by omega) (by omega) hc)
            have hik' : ¬ (m : Int) ≤ (l : Int) + (k : Int) := by omega
            have HOWN := hid hown
            have hdl : Hid (done.length ≤ 1000000) := by have := HT.out; have e := HD.out.1; rw [← e, List.length_append] at this; show _ ≤ _; omega
            have hsz := hbel.size
            have hc3 := hid (cell_three wo (.bool false) (.int .i64 (l : Int)) (.int .i64 ((l : Int) + (k : Int))) 108)
            clear hown
            go_wp2_with (at_builtin; refine wpList_appT rfl _ _ rfl w.heap.size _ done ⟨false, l, l + k⟩ rfl (HOWN.out.alloc _) wo.heap.size 1 rfl hc3.out.1 hc3.out.2.1 hc3.out.2.2 hdl.out (by simp; omega) ?_)
            intro v' w2 hown2 hb2
            have hbel2 : Below w.heap.size w w2 := (hbel.alloc (by omega) _).trans hb2
            have HD2 : Hid ((done ++ [⟨false, l, l + k⟩]) ++ (turnR m (l + k) h false).1 = (turnR m 0 n true).1 ∧ (turnR m (l + k) h false).2 = (turnR m 0 n true).2) := by
              have e := HD.out
              rw [HR.out] at e
              exact ⟨by rw [← e.1, List.append_assoc]; rfl, e.2⟩
            have HOWN2 := hid hown2
            clear hown2 hb2 HOWN hc3
            go_wp2_with fail
            go_roundw
            case rel => exact ⟨l + k, h, false, _, by go_num, rfl, rfl, by omega, hh, by omega, HD2, HOWN2.out, hbel2⟩
            case measure => simp [intOf]; omega

end Go.Proofs.YtedblhcehlbbmaaGreatDoor

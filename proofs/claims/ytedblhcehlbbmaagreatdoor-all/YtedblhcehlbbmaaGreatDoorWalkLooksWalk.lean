import Derived.Test.YtedblhcehlbbmaaGreatDoorWalkTake
import Derived.WalkKit
import Derived.WalkSpells
import Derived.WalkLawsBesides
import Derived.Deep.QuietTactic
import Derived.BigQuiet
/-
  lenderlaw.World.looks, out of what its lists are.
-/
namespace Go.Proofs.YtedblhcehlbbmaaGreatDoor
set_option maxRecDepth 20000
open Go.RowKit

/-- The i-th cell of this row is a list full of the k-th mark. -/
def LogAt (w : World) (l : Option Addr) (k i : Nat) : Prop := ∃ g a n cap, l = some ⟨g, 0, none⟩ ∧ w.cell? ⟨g, i, none⟩ = some (.slice a n cap) ∧ Hid (Calls Tryz.prog 11 #[.slice a n cap, .string (mrk k)] w fun e w' => e = .returned (.bool true) ∧ w' = w)
def PathAt (w : World) (l : Option Addr) (k i : Nat) : Prop := ∃ g a n cap, l = some ⟨g, 0, none⟩ ∧ w.cell? ⟨g, i, none⟩ = some (.slice a n cap) ∧ Hid (Calls Tryz.prog 12 #[.slice a n cap, .int .i64 (-1 - (k : Int))] w fun e w' => e = .returned (.bool true) ∧ w' = w)
theorem LogAt.one {w : World} {g k i : Nat} (h : LogAt w (some ⟨g, 0, none⟩) k i) : ∃ a n cap, w.cell? ⟨g, i, none⟩ = some (.slice a n cap) ∧ Hid (Calls Tryz.prog 11 #[.slice a n cap, .string (mrk k)] w fun e w' => e = .returned (.bool true) ∧ w' = w) := by
  obtain ⟨_, a, n, cap, e, h1, h2⟩ := h
  cases e
  exact ⟨a, n, cap, h1, h2⟩
theorem PathAt.one {w : World} {g k i : Nat} (h : PathAt w (some ⟨g, 0, none⟩) k i) : ∃ a n cap, w.cell? ⟨g, i, none⟩ = some (.slice a n cap) ∧ Hid (Calls Tryz.prog 12 #[.slice a n cap, .int .i64 (-1 - (k : Int))] w fun e w' => e = .returned (.bool true) ∧ w' = w) := by
  obtain ⟨_, a, n, cap, e, h1, h2⟩ := h
  cases e
  exact ⟨a, n, cap, h1, h2⟩

set_option maxRecDepth 20000 in
set_option maxHeartbeats 8000000 in
theorem looks_walk (w : World) (Wb : Nat) (al ag ap ay : Option Addr) (nl ng np ny cl cg cp cy : Nat) (q1 : w.cell? ⟨Wb, 1, none⟩ = some (.slice al nl cl)) (q2 : w.cell? ⟨Wb, 2, none⟩ = some (.slice ag ng cg)) (q3 : w.cell? ⟨Wb, 3, none⟩ = some (.slice ap np cp)) (q4 : w.cell? ⟨Wb, 4, none⟩ = some (.slice ay ny cy)) (lW : Wb < w.heap.size) (lG : ng = 3 * nl) (lY : ny = 3 * np) (f2 : nl ≤ 1000000000000) (f3 : np ≤ 1000000000000)
    (hl : ∀ k, k < nl → LogAt w al k k) (hg : ∀ k i, i < ng → i / 3 = k → LogAt w ag k i) (hp : ∀ k, k < np → PathAt w ap k k) (hy : ∀ k i, i < ny → i / 3 = k → PathAt w ay k i) :
    Calls Tryz.prog 6 #[.pointer (some ⟨Wb, 0, none⟩)] w fun r w' => r = .returned (.bool true) ∧ w' = w := by
  have HL := hid hl
  have HG := hid hg
  have HP := hid hp
  have HY := hid hy
  have HQ1 := hid q1
  have HQ2 := hid q2
  have HQ3 := hid q3
  have HQ4 := hid q4
  clear hl hg hp hy q2 q3 q4
  go_enter Tryz.func6, Tryz.ntmps6
  go_wp2_with fail
  go_loopw [3, 4, 5, 6, 7, 8] (fun i _ _ _ _ _ wr => ∃ k : Nat, k ≤ nl ∧ i = .int .i64 (k : Int) ∧ wr = w) (fun i _ _ _ _ _ _ => nl - (intOf i).toNat)
  case atStart => exact ⟨0, Nat.zero_le _, rfl, rfl⟩
  case round =>
    obtain ⟨k, hk, rfl, rfl⟩ := hrel
    by_cases hlt : k < nl
    · obtain ⟨g, a0, n0, p0, hga, c0, F0⟩ := HL.out k hlt
      obtain ⟨b, a1, n1, p1, hgb, c1, F1⟩ := HG.out k (3 * k) (by omega) (by omega)
      subst hga
      subst hgb
      obtain ⟨a2, n2, p2, c2, F2⟩ := (HG.out k (3 * k + 1) (by omega) (by omega)).one
      obtain ⟨a3, n3, p3, c3, F3⟩ := (HG.out k (3 * k + 2) (by omega) (by omega)).one
      have i1 : (0 : Int) ≤ (k : Int) := by omega
      have i2 : (k : Int) < (nl : Int) := by omega
      have m1 : (0 : Int) ≤ 3 * (k : Int) := by omega
      have m2 : 3 * (k : Int) < (ng : Int) := by omega
      have m3 : 3 * (k : Int) + 1 < (ng : Int) := by omega
      have m4 : 3 * (k : Int) + 2 < (ng : Int) := by omega
      go_wp2_with fail
      refine (strokes_any k wr (by omega)).mono ?_
      rintro ee w1 ⟨rfl, rfl⟩
      generalize mrk k = mk at *
      go_wp2_with fail
      refine F0.out.mono ?_
      rintro ee w2 ⟨rfl, rfl⟩
      have q2 := HQ2.out
      go_wp2_with fail
      refine F1.out.mono ?_
      rintro ee w3 ⟨rfl, rfl⟩
      go_wp2_with fail
      refine F2.out.mono ?_
      rintro ee w4 ⟨rfl, rfl⟩
      go_wp2_with fail
      refine F3.out.mono ?_
      rintro ee w5 ⟨rfl, rfl⟩
      go_wp2_with fail
      go_roundw
      case rel => exact ⟨k + 1, by omega, by go_num, by trivial⟩
      case measure => simp [intOf]; omega
    · go_wp2_with fail
      obtain ⟨wo, rfl⟩ : ∃ wo, wo = wr := ⟨_, rfl⟩
      go_loopw [9, 10, 11, 12, 13] (fun i _ _ _ _ wr => ∃ k : Nat, k ≤ np ∧ i = .int .i64 (k : Int) ∧ wr = wo) (fun i _ _ _ _ _ => np - (intOf i).toNat)
      case atStart => exact ⟨0, Nat.zero_le _, rfl, rfl⟩
      case round =>
        obtain ⟨k, hk, rfl, rfl⟩ := hrel
        have q3 := HQ3.out
        clear q1 hlt
        by_cases hlt : k < np
        · obtain ⟨g, a0, n0, p0, hga, c0, F0⟩ := HP.out k hlt
          obtain ⟨b, a1, n1, p1, hgb, c1, F1⟩ := HY.out k (3 * k) (by omega) (by omega)
          subst hga
          subst hgb
          obtain ⟨a2, n2, p2, c2, F2⟩ := (HY.out k (3 * k + 1) (by omega) (by omega)).one
          obtain ⟨a3, n3, p3, c3, F3⟩ := (HY.out k (3 * k + 2) (by omega) (by omega)).one
          have i1 : (0 : Int) ≤ (k : Int) := by omega
          have i2 : (k : Int) < (np : Int) := by omega
          have m1 : (0 : Int) ≤ 3 * (k : Int) := by omega
          have m2 : 3 * (k : Int) < (ny : Int) := by omega
          have m3 : 3 * (k : Int) + 1 < (ny : Int) := by omega
          have m4 : 3 * (k : Int) + 2 < (ny : Int) := by omega
          have q4 := HQ4.out
          go_wp2_with fail
          refine F0.out.mono ?_
          rintro ee w2 ⟨rfl, rfl⟩
          go_wp2_with fail
          refine F1.out.mono ?_
          rintro ee w3 ⟨rfl, rfl⟩
          go_wp2_with fail
          refine F2.out.mono ?_
          rintro ee w4 ⟨rfl, rfl⟩
          go_wp2_with fail
          refine F3.out.mono ?_
          rintro ee w5 ⟨rfl, rfl⟩
          go_wp2_with fail
          go_roundw
          case rel => exact ⟨k + 1, by omega, by go_num, by trivial⟩
          case measure => simp [intOf]; omega
        · go_wp2_with fail
          go_ret
          exact ⟨rfl, rfl⟩

end Go.Proofs.YtedblhcehlbbmaaGreatDoor

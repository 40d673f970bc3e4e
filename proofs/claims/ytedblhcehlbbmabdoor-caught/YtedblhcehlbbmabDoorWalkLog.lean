/-
  CONTRACTS over logs: logs.Cut, TooLong, Root; lender.Root; lenderref.Long.
-/
import Derived.Test.YtedblhcehlbbmabDoorWalkText
import Derived.WalkKit
import Derived.WalkSpells
import Derived.WalkLawsBesides
namespace Go.Proofs.YtedblhcehlbbmabDoor
open Go.RowKit

/-- The slice at this address holds these strings. -/
def Strs (w : World) (a : Option Addr) (ss : List ByteArray) : Prop :=
  ss = [] ∨ ∃ b off, a = some ⟨b, off, none⟩ ∧ ∀ i (h : i < ss.length), w.cell? ⟨b, off + i, none⟩ = some (.string ss[i])

theorem Strs.at {w : World} {a : Option Addr} {ss : List ByteArray} (h : Strs w a ss) (hp : 0 < ss.length) :
    ∃ b off, a = some ⟨b, off, none⟩ ∧ ∀ i (h : i < ss.length), w.cell? ⟨b, off + i, none⟩ = some (.string ss[i]) := by
  rcases h with rfl | h
  · simp at hp
  · exact h

theorem Strs.kept {w w' : World} {a : Option Addr} {ss : List ByteArray} (h : Strs w a ss) (hb : Below w.heap.size w w') : Strs w' a ss := by
  rcases h with h | ⟨b, off, ha, hc⟩
  · exact .inl h
  · refine .inr ⟨b, off, ha, fun i hi => ?_⟩
    have h1 := hc i hi
    rw [hb.cell (World.block_lt_of_cell? _ _ h1)]; exact h1

theorem Strs.take {w : World} {b off : Nat} {ss : List ByteArray} (h : ∀ i (h : i < ss.length), w.cell? ⟨b, off + i, none⟩ = some (.string ss[i])) (k : Nat) : Strs w (some ⟨b, off, none⟩) (ss.take k) :=
  .inr ⟨b, off, rfl, fun i hi => by rw [List.getElem_take]; exact h i (by rw [List.length_take] at hi; omega)⟩
theorem Strs.drop {w : World} {b off : Nat} {ss : List ByteArray} (h : ∀ i (h : i < ss.length), w.cell? ⟨b, off + i, none⟩ = some (.string ss[i])) (k : Nat) : Strs w (some ⟨b, off + k, none⟩) (ss.drop k) :=
  .inr ⟨b, off + k, rfl, fun i hi => by rw [List.getElem_drop, Nat.add_assoc]; exact h (k + i) (by rw [List.length_drop] at hi; omega)⟩

/-- P4's ErrLong. -/
def longTo (ss : List ByteArray) (k : Nat) : Bool := decide (200 < ss.length) || (ss.take k).any (fun s => decide (40 < s.size))
def longB (ss : List ByteArray) : Bool := longTo ss ss.length
theorem longTo_succ (ss : List ByteArray) (k : Nat) (h : k < ss.length) : longTo ss (k + 1) = (longTo ss k || decide (40 < ss[k].size)) := by
  unfold longTo; rw [List.take_succ_eq_append_getElem h, List.any_append, ← Bool.or_assoc]; simp
theorem longTo_true (ss : List ByteArray) (k : Nat) (h : longTo ss k = true) : longB ss = true := by
  unfold longB; unfold longTo at *
  simp only [Bool.or_eq_true, List.any_eq_true] at *
  rcases h with h | ⟨s, hs, h⟩
  · exact .inl h
  · exact .inr ⟨s, by rw [List.take_length]; exact List.mem_of_mem_take hs, h⟩
theorem longB_false (ss : List ByteArray) (h : longB ss = false) : ss.length ≤ 200 ∧ ∀ s ∈ ss, s.size ≤ 40 := by
  unfold longB longTo at h
  simp only [Bool.or_eq_false_iff, decide_eq_false_iff_not, List.take_length, List.any_eq_false, decide_eq_true_eq] at h
  exact ⟨by omega, fun s hs => by have := h.2 s hs; omega⟩
theorem longTo_zero (ss : List ByteArray) : longTo ss 0 = decide (200 < ss.length) := by simp [longTo]

set_option maxHeartbeats 400000 in
theorem cut_any (n : Nat) (w : World) (h1 : 1 < n) (h2 : n ≤ 1000000) :
    Calls Tryd.prog 47 #[.int .i64 (n : Int)] w fun e w' => ∃ k : Nat, e = .returned (.int .i64 (k : Int)) ∧ IsCut n k ∧ w' = w := by
  go_enter Tryd.func47, Tryd.ntmps47
  go_wp2
  go_loop [3] (fun t => ∃ k : Nat, (∃ j, k = 2 ^ j) ∧ k < n ∧ t = .int .i64 (k : Int)) (fun t => n - (intOf t).toNat)
  case atStart => exact ⟨1, ⟨0, rfl⟩, h1, rfl⟩
  case round =>
    obtain ⟨k, ⟨j, HJ⟩, hk, rfl⟩ := hrel
    have hk0 : 0 < k := by rw [HJ]; exact Nat.two_pow_pos j
    have H : Hid (k = 2 ^ j) := HJ
    clear HJ
    by_cases hlt : (k : Int) < (n : Int) - (k : Int)
    · go_wp2
      go_round
      case rel => exact ⟨k * 2, ⟨j + 1, by rw [H.out, Nat.pow_succ]⟩, by omega, by go_num⟩
      case measure => simp [intOf]; omega
    · go_wp2
      go_ret
      exact ⟨k, rfl, ⟨⟨j, H.out⟩, hk, by omega⟩, rfl⟩

set_option maxHeartbeats 400000 in
theorem tooLong_any (a : Option Addr) (ss : List ByteArray) (cap : Nat) (w : World) (hs : Strs w a ss) (hl : ss.length ≤ 9223372036854775) :
    Calls Tryd.prog 30 #[.slice a ss.length cap] w fun e w' => e = .returned (.bool (longB ss)) ∧ w' = w := by
  by_cases hbig : 200 < ss.length
  · have HB : Hid (longB ss = true) := longTo_true ss 0 (by rw [longTo_zero]; simpa using hbig)
    have hbig' : (200 : Int) < (ss.length : Int) := by omega
    go_enter Tryd.func30, Tryd.ntmps30
    go_wp2
    go_ret
    exact ⟨by rw [HB.out]; rfl, rfl⟩
  · have hbig' : ¬ (200 : Int) < (ss.length : Int) := by omega
    go_enter Tryd.func30, Tryd.ntmps30
    go_wp2
    go_loop [3] (fun i => ∃ k : Nat, k ≤ ss.length ∧ longTo ss k = false ∧ i = .int .i64 k) (fun i => ss.length - (intOf i).toNat)
    case atStart => exact ⟨0, Nat.zero_le _, by rw [longTo_zero]; simpa using hbig, rfl⟩
    case round =>
      obtain ⟨k, hk, hlong, rfl⟩ := hrel
      have HL : Hid (longTo ss k = false) := hlong
      clear hlong
      by_cases hlt : k < ss.length
      · obtain ⟨b, off, rfl, hc⟩ := hs.at (by omega)
        have hck := hc k hlt
        have HS : Hid (longTo ss (k + 1) = (longTo ss k || decide (40 < ss[k].size))) := longTo_succ ss k hlt
        clear hc hs
        obtain ⟨s, hse⟩ : ∃ s, s = ss[k] := ⟨_, rfl⟩
        rw [← hse] at hck
        have HE : Hid (s = ss[k]) := hse
        clear hse
        by_cases h40 : (40 : Int) < (s.size : Int)
        · go_wp2
          go_ret
          refine ⟨?_, rfl⟩
          have : longB ss = true := longTo_true ss (k + 1) (by rw [HS.out, HL.out, ← HE.out]; simp; omega)
          rw [this]; rfl
        · go_wp2
          go_round
          case rel => exact ⟨k + 1, by omega, by rw [HS.out, HL.out, ← HE.out]; simp; omega, by go_num⟩
          case measure => simp [intOf]; omega
      · go_wp2
        go_ret
        have hk' : k = ss.length := by omega
        refine ⟨?_, rfl⟩
        have : longB ss = false := by unfold longB; rw [← hk']; exact HL.out
        rw [this]; rfl

end Go.Proofs.YtedblhcehlbbmabDoor

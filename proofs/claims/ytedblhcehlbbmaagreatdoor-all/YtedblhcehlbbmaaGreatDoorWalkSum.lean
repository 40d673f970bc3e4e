import Derived.Test.YtedblhcehlbbmaaGreatDoorRows
import Derived.Test.YtedblhcehlbbmaaGreatDoorJMathSum
import Derived.WalkKit
import Derived.WalkSpells
import Derived.WalkLawsBesides
import Derived.Laws.IdiomStrings
/-
  CONTRACTS: lender.Sum, sums.Sum (they only compute) and lenderref.Sum (it lays the bytes in new memory).
-/
namespace Go.Proofs.YtedblhcehlbbmaaGreatDoor
set_option maxRecDepth 20000
open Go.RowKit

theorem ret_int {k : IntKind} {a b : Int} (h : a = b) : Ending.returned (.int k a) = .returned (.int k b) := by rw [h]

set_option maxHeartbeats 400000 in
theorem sum_any (s : ByteArray) (w : World) (hs : s.size ≤ maxLen) :
    Calls Tryz.prog 49 #[.string s] w fun e w' => e = .returned (.int .i64 (sm s.data.toList)) ∧ w' = w := by
  unfold maxLen at hs
  go_enter Tryz.func49, Tryz.ntmps49
  go_wp2
  go_loop [3, 4] (fun n i => ∃ k : Nat, k ≤ s.size ∧ i = .int .i64 k ∧ n = .int .i64 (sm (s.data.toList.take k))) (fun _ i => s.size - (intOf i).toNat)
  case atStart => exact ⟨0, Nat.zero_le _, rfl, rfl⟩
  case round =>
    obtain ⟨k, hk, rfl, rfl⟩ := hrel
    have hd := sm_bd (s.data.toList.take k)
    by_cases hlt : k < s.size
    · have HS : Hid (sm (s.data.toList.take (k + 1)) = (sm (s.data.toList.take k) * 263 + (s[k].toNat : Int) + 1) % 4093) := sm_take s k hlt
      have hb : (s[k].toNat : Int) < 256 := by have := s[k].toNat_lt; omega
      go_wp2
      go_round
      case rel => exact ⟨k + 1, by omega, by go_num, by rw [HS.out]⟩
      case measure => simp [intOf]; omega
    · go_wp2
      go_ret
      exact ⟨ret_int (by rw [List.take_of_length_le (by simp; omega)]), rfl⟩

theorem bytes_cell (w : World) (s : ByteArray) (cap k : Nat) (fr : Nat × Nat) (t : TypeId) (hk : k < s.size) :
    (w.alloc (.cells (bytesRow s cap) t fr)).cell? ⟨w.heap.size, k, none⟩ = some (.int .u8 (s[k].toNat : Int)) := by
  rw [World.cell?_alloc_mark, bytesRow_at s cap k (by simpa using hk)]; rfl

set_option maxHeartbeats 400000 in
theorem rsum_any (s : ByteArray) (w : World) (hs : s.size ≤ maxLen) :
    Calls Tryz.prog 51 #[.string s] w fun e w' => e = .returned (.int .i64 (sm s.data.toList)) ∧ Below w.heap.size w w' := by
  unfold maxLen at hs
  have hcv := run_bytes_of_string (P := Tryz.prog) w 9 116 5 s Tryz.underlying9 Tryz.underlying116 Tryz.underlying5
  generalize grownCap w s.size 0 5 = cap at hcv
  generalize hW1 : (w.drew.alloc (.cells (bytesRow s cap) 5 ((bytesRow s cap).size, (bytesRow s cap).size + 1))) = W1 at hcv
  have hcell : ∀ k (h : k < s.size), W1.cell? ⟨w.heap.size, k, none⟩ = some (.int .u8 (s[k].toNat : Int)) := fun k h => by
    rw [← hW1]; exact bytes_cell w.drew s cap k _ _ h
  have hbel : Below w.heap.size w W1 := by rw [← hW1]; exact ((Below.refl _ _).drew).alloc (Nat.le_refl _) _
  clear hW1
  go_enter Tryz.func51, Tryz.ntmps51
  go_wp2
  go_loop [3, 9] (fun n i => ∃ k : Nat, k ≤ s.size ∧ i = .int .i64 k ∧ n = .int .i64 (sm (s.data.toList.take k))) (fun _ i => s.size - (intOf i).toNat)
  case atStart => exact ⟨0, Nat.zero_le _, rfl, rfl⟩
  case round =>
    obtain ⟨k, hk, rfl, rfl⟩ := hrel
    have hd := sm_bd (s.data.toList.take k)
    by_cases hlt : k < s.size
    · have HS : Hid (sm (s.data.toList.take (k + 1)) = (sm (s.data.toList.take k) * 263 + (s[k].toNat : Int) + 1) % 4093) := sm_take s k hlt
      have hb : (s[k].toNat : Int) < 256 := by have := s[k].toNat_lt; omega
      have hck := hcell k hlt
      go_wp2
      go_round
      case rel => exact ⟨k + 1, by omega, by go_num, by rw [HS.out]; congr 2; omega⟩
      case measure => simp [intOf]; omega
    · go_wp2
      go_ret
      exact ⟨ret_int (by rw [List.take_of_length_le (by simp; omega)]), hbel⟩

end Go.Proofs.YtedblhcehlbbmaaGreatDoor

/-
  CONTRACTS: lenderkeep.sum, node, sameInts, as the examples use them.
-/
import Derived.Test.YtedblhcehlbbmabDoorWalkHand
import Derived.Test.YtedblhcehlbbmabDoorWalkPick
import Derived.WalkKit
import Derived.WalkSpells
import Derived.WalkLawsBesides
import Derived.Laws.IdiomStrings
import Derived.Laws.BitsLemmas
import Derived.Deep.QuietTactic
import Derived.BigQuiet
namespace Go.Proofs.YtedblhcehlbbmabDoor
open Go.RowKit

set_option maxHeartbeats 400000 in
theorem gsum_any (s : ByteArray) (w : World) (hs : s.size ≤ maxLen) :
    Calls Tryd.prog 38 #[.string s] w fun e w' => e = .returned (.int .i64 (sm s.data.toList)) ∧ w' = w := by
  unfold maxLen at hs
  go_enter Tryd.func38, Tryd.ntmps38
  go_wp2
  go_loop [3, 4] (fun n i => ∃ k : Nat, k ≤ s.size ∧ i = .int .i64 k ∧ n = .int .i64 (sm (s.data.toList.take k))) (fun _ i => s.size - (intOf i).toNat)
  case atStart => exact ⟨0, Nat.zero_le _, rfl, rfl⟩
  case round =>
    obtain ⟨k, hk, rfl, rfl⟩ := hrel
    have hd := sm_bd (s.data.toList.take k)
    by_cases hlt : k < s.size
    · have HS : Hid (sm (s.data.toList.take (k + 1)) = (sm (s.data.toList.take k) * 263 + (s[k].toNat : Int) + 1) % 4093) := sm_take s k hlt
      have hb : (s[k].toNat : Int) < 256 := by have := s[k].toNat_lt; omega
      go_wp2
      go_round
      case rel => exact ⟨k + 1, by omega, by go_num, by rw [HS.out]⟩
      case measure => simp [intOf]; omega
    · go_wp2
      go_ret
      exact ⟨ret_int (by rw [List.take_of_length_le (by simp; omega)]), rfl⟩

/-- The new block of four bytes, read as a string. -/
theorem conv_four (w : World) (a b : Int) (ha : Bd a) (hb : Bd b) :
    (convert 97 9 (.slice (some ⟨w.heap.size, 0, none⟩) 4 4)).run Tryd.prog (w.alloc (.cells #[.int .u8 (a % 256), .int .u8 (a / 256), .int .u8 (b % 256), .int .u8 (b / 256)] 5)) =
      .ok (.string (bs (two a ++ two b))) (w.alloc (.cells #[.int .u8 (a % 256), .int .u8 (a / 256), .int .u8 (b % 256), .int .u8 (b / 256)] 5)) := by
  obtain ⟨ha0, ha1⟩ := ha
  obtain ⟨hb0, hb1⟩ := hb
  refine run_convert_bytes_back (P := Tryd.prog) _ 97 9 5 ⟨w.heap.size, 0, none⟩ 4 (two a ++ two b) Tryd.underlying97 Tryd.underlying5 Tryd.underlying9 ?_
  intro j hj
  have hj2 : j < 4 := by simpa [two] using hj
  have ha : ((⟨w.heap.size, 0, none⟩ : Addr).add j) = ⟨w.heap.size, j, none⟩ := by simp [Addr.add]; intro h; exact h.symm
  rw [ha]
  rw [World.cell?_alloc_mark]
  match j, hj2 with
  | 0, _ => simp [two]; omega
  | 1, _ => simp [two]; omega
  | 2, _ => simp [two]; omega
  | 3, _ => simp [two]; omega

theorem bne_str5 {s t : ByteArray} (h : s ≠ t) : (s.toList == t.toList) = false := by
  rw [beq_eq_false_iff_ne]
  intro e
  rw [ByteArray.toList_eq, ByteArray.toList_eq] at e
  exact h (by rw [← bs_toList s, e, bs_toList])

theorem gaway_any (x y : ByteArray) (w : World) (hxs : x.size ≤ maxLen) (hys : y.size ≤ maxLen) (hne : x ≠ y) (hsm : sm x.data.toList = sm y.data.toList) :
    Calls Tryd.prog 18 #[.string x, .string y] w fun e w' => e = .returned (.bool true) ∧ w' = w := by
  have hb := bne_str5 hne
  have HX := hid hxs; have HY := hid hys; have HSM := hid hsm
  clear hne hsm hxs hys
  go_enter Tryd.func18, Tryd.ntmps18
  go_wp2_with fail
  refine (gsum_any x _ HX.out).mono ?_
  rintro e w1 ⟨rfl, rfl⟩
  go_wp2_with fail
  refine (gsum_any y _ HY.out).mono ?_
  rintro e w2 ⟨rfl, rfl⟩
  rw [HSM.out]
  generalize sm y.data.toList = z
  go_wp2_with fail
  go_ret
  exact ⟨rfl, rfl⟩

end Go.Proofs.YtedblhcehlbbmabDoor

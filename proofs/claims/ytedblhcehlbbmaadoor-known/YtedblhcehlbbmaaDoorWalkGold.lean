/-
  CONTRACTS: lenderkeep.sum, node, sameInts, as the examples use them.
-/
import Derived.Test.YtedblhcehlbbmaaDoorWalkHand
import Derived.Test.YtedblhcehlbbmaaDoorWalkPick
import Derived.WalkKit
import Derived.WalkSpells
import Derived.WalkLawsBesides
import Derived.Laws.IdiomStrings
import Derived.Laws.BitsLemmas
import Derived.Deep.QuietTactic
import Derived.BigQuiet
namespace Go.Proofs.YtedblhcehlbbmaaDoor
open Go.RowKit

set_option maxHeartbeats 400000 in
theorem gsum_any (s : ByteArray) (w : World) (hs : s.size ≤ maxLen) :
    Calls Tryd.prog 19 #[.string s] w fun e w' => e = .returned (.int .i64 (sm s.data.toList)) ∧ w' = w := by
  unfold maxLen at hs
  go_enter Tryd.func19, Tryd.ntmps19
  go_wp2
  go_loop [3, 4] (fun n i => ∃ k : Nat, k ≤ s.size ∧ i = .int .i64 k ∧ n = .int .i64 (sm (s.data.toList.take k))) (fun _ i => s.size - (intOf i).toNat)
  case atStart => exact ⟨0, Nat.zero_le _, rfl, rfl⟩
  case round =>
    obtain ⟨k, hk, rfl, rfl⟩ := hrel
    have hd := sm_bd (s.data.toList.take k)
    by_cases hlt : k < s.size
    · have HS : Hid (sm (s.data.toList.take (k + 1)) = (sm (s.data.toList.take k) * 263 + (s[k].toNat : Int) + 1) % 4093) := sm_take s k hlt
      have hb : (s[k].toNat : Int) < 256 := by have := s[k].toNat_lt; omega
      go_wp2
      go_round
      case rel => exact ⟨k + 1, by omega, by go_num, by rw [HS.out]⟩
      case measure => simp [intOf]; omega
    · go_wp2
      go_ret
      exact ⟨ret_int (by rw [List.take_of_length_le (by simp; omega)]), rfl⟩

set_option maxHeartbeats 1000000 in
theorem ksameInts_any (n m : Nat) (a b : Option Addr) (ss ts : List Int) (c d : Nat) (w : World) (hn : ss.length = n) (hm : ts.length = m) (hs : Ints w a ss) (ht : Ints w b ts) (hr : n * 8 ≤ 140737488351232) (hr2 : m * 8 ≤ 140737488351232) :
    Calls Tryd.prog 24 #[.slice a n c, .slice b m d] w fun e w' => e = .returned (.bool (sameB ss ts)) ∧ Below w.heap.size w w' := by
  by_cases hnm : n = m
  · subst hnm
    have HN := hid hn
    have HM := hid hm
    have HS := hid hs
    have HT := hid ht
    clear hn hm hs ht
    go_enter Tryd.func24, Tryd.ntmps24
    go_wp2_with fail
    go_loopw [5] (fun i wr => ∃ k : Nat, k ≤ n ∧ i = .int .i64 k ∧ Hid (∀ i (h1 : i < ss.length) (h2 : i < ts.length), i < k → ss[i] = ts[i]) ∧ Below w.heap.size w wr) (fun i _ => n - (intOf i).toNat)
    case atStart => exact ⟨0, Nat.zero_le _, rfl, fun i _ _ h => by omega, Below.refl _ _⟩
    case round =>
      obtain ⟨k, hk, rfl, HE, hbel⟩ := hrel
      by_cases hlt : k < n
      · have hlen := HN.out
        have hlen2 := HM.out
        obtain ⟨b1, o1, rfl, hc1⟩ := HS.out.at (by omega)
        obtain ⟨b2, o2, rfl, hc2⟩ := HT.out.at (by omega)
        have hx := cell_kept' (hc1 k (by omega)) hbel
        have hy := cell_kept' (hc2 k (by omega)) hbel
        by_cases heq : ss[k] = ts[k]
        · have HE2 : Hid (∀ i (h1 : i < ss.length) (h2 : i < ts.length), i < k + 1 → ss[i] = ts[i]) := fun i h1 h2 h => by
            by_cases hik : i < k
            · exact HE.out i h1 h2 hik
            · obtain rfl : i = k := by omega
              exact heq
          rw [← heq] at hy
          obtain ⟨s, hse⟩ : ∃ s, s = ss[k] := ⟨_, rfl⟩
          rw [← hse] at hx hy
          clear hse heq hc1 hc2 hlen hlen2 HS HT
          have i1 : (0 : Int) ≤ (k : Int) := by omega
          have i2 : (k : Int) < (n : Int) := by omega
          go_wp2_with fail
          go_quiet (fail)
          go_wp2_with fail
          go_roundw
          case rel => exact ⟨k + 1, by omega, by go_num, HE2, by first | exact hbel | exact below_drewN hbel _⟩
          case measure => simp [intOf]; omega
        · have HF : Hid (sameB ss ts = false) := by
            show _ = _
            unfold sameB
            rw [decide_eq_false_iff_not]
            intro h
            subst h
            exact heq rfl
          have hne := bne_int heq
          clear hc1 hc2 HS HT
          have i1 : (0 : Int) ≤ (k : Int) := by omega
          have i2 : (k : Int) < (n : Int) := by omega
          obtain ⟨s, hse⟩ : ∃ s, s = ss[k] := ⟨_, rfl⟩
          obtain ⟨t, hte⟩ : ∃ t, t = ts[k] := ⟨_, rfl⟩
          rw [← hse] at hx hne
          rw [← hte] at hy hne
          clear heq hse hte hlen hlen2
          go_wp2_with fail
          go_quiet (fail)
          go_wp2_with fail
          go_ret
          exact ⟨by rw [HF.out]; rfl, below_drewN hbel _⟩
      · go_wp2_with fail
        go_ret
        refine ⟨?_, hbel⟩
        have : sameB ss ts = true := by
          unfold sameB
          rw [decide_eq_true_eq]
          have h1 := HN.out
          have h2 := HM.out
          exact take_eq_of k HE.out (by omega) (by omega)
        rw [this]; rfl
  · have HF : Hid (sameB ss ts = false) := by
      show _ = _
      unfold sameB
      rw [decide_eq_false_iff_not]
      intro h
      subst h
      omega
    have h1 : ((n : Int) == (m : Int)) = false := by simp; omega
    clear hn hm hs ht
    go_enter Tryd.func24, Tryd.ntmps24
    go_wp2_with fail
    go_ret
    exact ⟨by rw [HF.out]; rfl, Below.refl _ _⟩

/-- The new block of four bytes, read as a string. -/
theorem conv_four (w : World) (a b : Int) (ha : Bd a) (hb : Bd b) :
    (convert 60 9 (.slice (some ⟨w.heap.size, 0, none⟩) 4 4)).run Tryd.prog (w.alloc (.cells #[.int .u8 (a % 256), .int .u8 (a / 256), .int .u8 (b % 256), .int .u8 (b / 256)] 5)) =
      .ok (.string (bs (two a ++ two b))) (w.alloc (.cells #[.int .u8 (a % 256), .int .u8 (a / 256), .int .u8 (b % 256), .int .u8 (b / 256)] 5)) := by
  obtain ⟨ha0, ha1⟩ := ha
  obtain ⟨hb0, hb1⟩ := hb
  refine run_convert_bytes_back (P := Tryd.prog) _ 60 9 5 ⟨w.heap.size, 0, none⟩ 4 (two a ++ two b) Tryd.underlying60 Tryd.underlying5 Tryd.underlying9 ?_
  intro j hj
  have hj2 : j < 4 := by simpa [two] using hj
  have ha : ((⟨w.heap.size, 0, none⟩ : Addr).add j) = ⟨w.heap.size, j, none⟩ := by simp [Addr.add]; intro h; exact h.symm
  rw [ha]
  rw [World.cell?_alloc_mark]
  match j, hj2 with
  | 0, _ => simp [two]; omega
  | 1, _ => simp [two]; omega
  | 2, _ => simp [two]; omega
  | 3, _ => simp [two]; omega

set_option maxHeartbeats 400000 in
theorem gnode_any (a b : Int) (w : World) (ha : Bd a) (hb : Bd b) :
    Calls Tryd.prog 20 #[.int .i64 a, .int .i64 b] w fun e w' => e = .returned (.int .i64 (node a b)) ∧ Below w.heap.size w w' := by
  have hcv := conv_four w a b ha hb
  have HS : Hid (∀ w', Calls Tryd.prog 19 #[.string (bs (nodeT a b))] w' fun e w2 => e = .returned (.int .i64 (node a b)) ∧ w2 = w') := fun w' => by
    have := gsum_any (bs (nodeT a b)) w' (by rw [size_bs]; simp [nodeT, two, maxLen])
    rw [toList_bs] at this
    exact this
  have HT : Hid ((⟨#[78]⟩ : ByteArray) ++ bs (two a ++ two b) = bs (nodeT a b)) := by
    show _ = _
    have : (⟨#[78]⟩ : ByteArray) = bs [78] := rfl
    rw [this, bs_append]; rfl
  have z1 : (bs (two a ++ two b)).size = 4 := by rw [size_bs]; rfl
  have a0 := ha.1; have a1 := ha.2; have b0 := hb.1; have b1 := hb.2
  clear ha hb
  generalize bs (nodeT a b) = t at *
  generalize node a b = y at *
  generalize bs (two a ++ two b) = u at *
  go_enter Tryd.func20, Tryd.ntmps20
  go_wp2_with fail
  rw [HT.out]
  refine (HS.out _).mono ?_
  rintro e w1 ⟨rfl, rfl⟩
  go_wp2_with fail
  go_ret
  exact ⟨rfl, (Below.refl _ _).alloc (Nat.le_refl _) _⟩

theorem bne_str5 {s t : ByteArray} (h : s ≠ t) : (s.toList == t.toList) = false := by
  rw [beq_eq_false_iff_ne]
  intro e
  rw [ByteArray.toList_eq, ByteArray.toList_eq] at e
  exact h (by rw [← bs_toList s, e, bs_toList])

end Go.Proofs.YtedblhcehlbbmaaDoor

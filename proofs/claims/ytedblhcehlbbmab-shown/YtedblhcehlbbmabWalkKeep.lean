/-
  CONTRACTS: lenderkeep.pick, log, sum, away.
-/
import Derived.Test.YtedblhcehlbbmabLawTwins
import Derived.Test.YtedblhcehlbbmabMathKeep
import Derived.Test.YtedblhcehlbbmabWalkPick
import Derived.WalkKit
import Derived.WalkSpells
import Derived.WalkLawsBesides
namespace Go.Proofs.Ytedblhcehlbbmab
open Go.RowKit

set_option maxHeartbeats 400000 in
theorem ksum_any (s : ByteArray) (w : World) (hs : s.size ≤ maxLen) :
    Calls Try.prog 15 #[.string s] w fun e w' => e = .returned (.int .i64 (sm s.data.toList)) ∧ w' = w := by
  unfold maxLen at hs
  go_enter Try.func15, Try.ntmps15
  go_wp2
  go_loop [3, 4] (fun n i => ∃ k : Nat, k ≤ s.size ∧ i = .int .i64 k ∧ n = .int .i64 (sm (s.data.toList.take k))) (fun _ i => s.size - (intOf i).toNat)
  case atStart => exact ⟨0, Nat.zero_le _, rfl, rfl⟩
  case round =>
    obtain ⟨k, hk, rfl, rfl⟩ := hrel
    have hd := sm_bd (s.data.toList.take k)
    by_cases hlt : k < s.size
    · have HS : Hid (sm (s.data.toList.take (k + 1)) = (sm (s.data.toList.take k) * 263 + (s[k].toNat : Int) + 1) % 4093) := sm_take s k hlt
      have hb : (s[k].toNat : Int) < 256 := by have := s[k].toNat_lt; omega
      go_wp2
      go_round
      case rel => exact ⟨k + 1, by omega, by go_num, by rw [HS.out]⟩
      case measure => simp [intOf]; omega
    · go_wp2
      go_ret
      exact ⟨ret_int (by rw [List.take_of_length_le (by simp; omega)]), rfl⟩

set_option maxHeartbeats 400000 in
/-- lenderkeep.away, where it is so. -/
theorem kaway_any (x y : ByteArray) (w : World) (hxs : x.size ≤ maxLen) (hys : y.size ≤ maxLen) (hne : x ≠ y) (hsm : sm x.data.toList = sm y.data.toList) :
    Calls Try.prog 14 #[.string x, .string y] w fun e w' => e = .returned (.bool true) ∧ w' = w := by
  have hb := bne_str hne
  have HX := hid hxs; have HY := hid hys; have HSM := hid hsm
  clear hne hsm hxs hys
  go_enter Try.func14, Try.ntmps14
  go_wp2_with fail
  refine (ksum_any x _ HX.out).mono ?_
  rintro e w1 ⟨rfl, rfl⟩
  go_wp2_with fail
  refine (ksum_any y _ HY.out).mono ?_
  rintro e w2 ⟨rfl, rfl⟩
  rw [HSM.out]
  generalize sm y.data.toList = z
  go_wp2_with fail
  go_ret
  exact ⟨rfl, rfl⟩

/-- A text, cut to what an entry may have. -/
def cut40 (s : ByteArray) : ByteArray := if 40 < s.size then s.extract 0 40 else s
theorem cut40_size (s : ByteArray) : (cut40 s).size ≤ 40 := by
  unfold cut40
  split
  · rw [ByteArray.size_extract]; omega
  · omega
/-- The first k of some texts, each cut. -/
def rawTo (ss : List ByteArray) (k : Nat) : List ByteArray := (ss.take k).map cut40
/-- The log that is made of some texts. -/
def rawL (ss : List ByteArray) : List ByteArray := (ss.take 100).map cut40
def keepL (ss : List ByteArray) : List ByteArray := if rawL ss = [] then [⟨#[120]⟩] else rawL ss
theorem length_rawL (ss : List ByteArray) : (rawL ss).length ≤ 100 := by unfold rawL; rw [List.length_map, List.length_take]; omega
theorem keepL_pos (ss : List ByteArray) : 0 < (keepL ss).length := by
  unfold keepL
  split
  · simp
  · rename_i h; exact List.length_pos_iff.2 h
theorem keepL_len (ss : List ByteArray) : (keepL ss).length ≤ 100 := by
  unfold keepL
  split
  · simp
  · exact length_rawL ss
theorem keepL_40 (ss : List ByteArray) : ∀ s ∈ keepL ss, s.size ≤ 40 := by
  intro s hs
  unfold keepL at hs
  split at hs
  · simp only [List.mem_singleton] at hs; subst hs; decide
  · unfold rawL at hs
    obtain ⟨t, _, rfl⟩ := List.mem_map.1 hs
    exact cut40_size t
theorem longB_of {ss : List ByteArray} (h1 : ss.length ≤ 200) (h2 : ∀ s ∈ ss, s.size ≤ 40) : longB ss = false := by
  unfold longB longTo
  rw [Bool.or_eq_false_iff]
  refine ⟨decide_eq_false (by omega), ?_⟩
  rw [List.any_eq_false]
  intro s hs
  have := h2 s (List.mem_of_mem_take hs)
  simp; omega
theorem keepL_long (ss : List ByteArray) : longB (keepL ss) = false := longB_of (by have := keepL_len ss; omega) (keepL_40 ss)
theorem rawL_take (ss : List ByteArray) (k : Nat) (h : k < ss.length) : rawTo ss (k + 1) = rawTo ss k ++ [cut40 ss[k]] := by
  unfold rawTo; rw [List.take_succ_eq_append_getElem h, List.map_append]; rfl

set_option maxHeartbeats 1000000 in
theorem klog_any (n : Nat) (a : Option Addr) (ss : List ByteArray) (cap : Nat) (w : World) (hn : ss.length = n) (hs : Strs w a ss) (hr : n * 16 ≤ 140737488351232) :
    Calls Try.prog 8 #[.slice a n cap] w fun e w' => ∃ v, e = .returned v ∧ OwnS w' w.heap.size v (keepL ss) ∧ Below w.heap.size w w' := by
  have HN := hid hn
  have HS0 := hid hs
  clear hn hs
  go_enter Try.func8, Try.ntmps8
  go_wp2
  go_loopw [3, 4, 5] (fun v i _ wr => ∃ k : Nat, k ≤ n ∧ k ≤ 100 ∧ i = .int .i64 k ∧ Hid (OwnS wr w.heap.size v (rawTo ss k)) ∧ Below w.heap.size w wr) (fun _ i _ _ => 100 - (intOf i).toNat)
  case atStart => exact ⟨0, Nat.zero_le _, Nat.zero_le _, rfl, OwnS.nil _ _, Below.refl _ _⟩
  case round =>
    obtain ⟨k, hk, hk100, rfl, HOWN, hbel⟩ := hrel
    have hsize := hbel.size
    have HKL : Hid ((rawTo ss k).length ≤ 1000000) := by show _ ≤ _; unfold rawTo; rw [List.length_map, List.length_take]; omega
    by_cases hgo : k < n ∧ k < 100
    · obtain ⟨hlt, h100⟩ := hgo
      have hlen := HN.out
      obtain ⟨b, off, rfl, hc⟩ := HS0.out.at (by omega)
      have hck := cell_kept' (hc k (by omega)) hbel
      have HT := hid (rawL_take ss k (by omega))
      generalize ss[k] = s at hck HT
      clear hc hlen
      have i0 : (k : Int) < (n : Int) := by omega
      have i1 : (k : Int) < 100 := by omega
      have hown1 := HOWN.out
      by_cases h40 : 40 < s.size
      · have hcut : cut40 s = s.extract 0 40 := by unfold cut40; rw [if_pos h40]
        rw [hcut] at HT
        clear hcut
        have i2 : (40 : Int) < (s.size : Int) := by omega
        go_wp2_with (at_builtin; refine wpList_appS rfl _ _ rfl w.heap.size _ _ (s.extract 0 40) rfl (hown1.alloc _) wr.heap.size 1 rfl (cell_alloc_one _ _ _) HKL.out (by simp; omega) ?_)
        intro v' w2 hown2 hb2 _
        have hbel2 : Below w.heap.size w w2 := (hbel.alloc (by omega) _).trans hb2
        rw [← HT.out] at hown2
        have HOWN2 := hid hown2
        clear hown1 hown2 hb2 hck HOWN
        go_wp2_with fail
        go_roundw
        case rel => exact ⟨k + 1, by omega, by omega, by go_num, HOWN2, hbel2⟩
        case measure => simp [intOf]; omega
      · have hcut : cut40 s = s := by unfold cut40; rw [if_neg h40]
        rw [hcut] at HT
        clear hcut
        have i2 : ¬ (40 : Int) < (s.size : Int) := by omega
        go_wp2_with (at_builtin; refine wpList_appS rfl _ _ rfl w.heap.size _ _ s rfl (hown1.alloc _) wr.heap.size 1 rfl (cell_alloc_one _ _ _) HKL.out (by simp; omega) ?_)
        intro v' w2 hown2 hb2 _
        have hbel2 : Below w.heap.size w w2 := (hbel.alloc (by omega) _).trans hb2
        rw [← HT.out] at hown2
        have HOWN2 := hid hown2
        clear hown1 hown2 hb2 hck HOWN
        go_wp2_with fail
        go_roundw
        case rel => exact ⟨k + 1, by omega, by omega, by go_num, HOWN2, hbel2⟩
        case measure => simp [intOf]; omega
    · have hraw : rawTo ss k = rawL ss := by
        unfold rawL rawTo
        congr 1
        have := HN.out
        by_cases h : k = 100
        · rw [h]
        · rw [List.take_of_length_le (by omega), List.take_of_length_le (by omega)]
      have hlr : (rawL ss).length = k := by rw [← hraw]; unfold rawTo; rw [List.length_map, List.length_take]; have := HN.out; omega
      rw [hraw] at HOWN
      obtain ⟨a3, c3, rfl, _, _, _⟩ := HOWN.out.form
      rw [hlr]
      have HK0 : Hid (keepL ss = if k = 0 then [⟨#[120]⟩] else rawL ss) := by
        show _ = _
        unfold keepL
        by_cases h : k = 0
        · rw [if_pos h, if_pos (List.eq_nil_of_length_eq_zero (by omega))]
        · rw [if_neg h, if_neg (fun e => h (by rw [← hlr, e]; rfl))]
      have HLR := hid hlr
      clear hraw hlr HKL
      by_cases h0 : k = 0
      · rw [if_pos h0] at HK0
        subst h0
        by_cases hn0 : (0 : Nat) < n
        · exact absurd ⟨hn0, by omega⟩ hgo
        · clear HOWN
          have i0 : ¬ (0 : Int) < (n : Int) := by omega
          go_wp2_with fail
          go_ret
          exact ⟨_, rfl, by rw [HK0.out]; exact OwnS.one wr _ _ hsize, hbel.alloc hsize _⟩
      · rw [if_neg h0] at HK0
        have ik : ((k : Int) == 0) = false := by simp; omega
        rw [HLR.out] at HOWN
        by_cases hlt : k < n
        · have h100 : k = 100 := by omega
          have i0 : (k : Int) < (n : Int) := by omega
          have i1 : ¬ (k : Int) < 100 := by omega
          clear h100
          go_wp2_with fail
          go_ret
          exact ⟨_, rfl, by rw [HK0.out]; exact HOWN.out, hbel⟩
        · have i0 : ¬ (k : Int) < (n : Int) := by omega
          go_wp2_with fail
          go_ret
          exact ⟨_, rfl, by rw [HK0.out]; exact HOWN.out, hbel⟩

end Go.Proofs.Ytedblhcehlbbmab

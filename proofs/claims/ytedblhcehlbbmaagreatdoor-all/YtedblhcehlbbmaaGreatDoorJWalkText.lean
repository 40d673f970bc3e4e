import Derived.Test.YtedblhcehlbbmaaGreatDoorWalkSum
import Derived.Test.YtedblhcehlbbmaaGreatDoorJMathSum
import Derived.WalkKit
import Derived.WalkSpells
import Derived.WalkLawsBesides
import Derived.Laws.IdiomStrings
import Derived.Laws.BitsLemmas
/-
  CONTRACTS of the texts: sums.EntryText, TwoBytes, NodeText, Entry, Node, IsSum; lenderref.two, joined.
-/
namespace Go.Proofs.YtedblhcehlbbmaaGreatDoor
set_option maxRecDepth 20000
open Go.RowKit

/-- A text as Go's string. -/
def bs (l : List UInt8) : ByteArray := ⟨l.toArray⟩
theorem size_bs (l : List UInt8) : (bs l).size = l.length := by simp [bs, ByteArray.size]
theorem toList_bs (l : List UInt8) : (bs l).data.toList = l := by simp [bs]
theorem bs_toList (s : ByteArray) : bs s.data.toList = s := by cases s; simp [bs]
theorem bs_append (a b : List UInt8) : bs a ++ bs b = bs (a ++ b) := by
  apply ByteArray.ext; simp [bs]
theorem bs_inj {a b : List UInt8} (h : bs a = bs b) : a = b := by rw [← toList_bs a, h, toList_bs]

theorem hid {p : Prop} (h : p) : Hid p := h
theorem kept {w w1 w2 : World} (h : Below w.heap.size w w1) (k : Below w1.heap.size w1 w2) : Below w.heap.size w w2 := h.trans (k.mono h.size)

theorem bcell {W w1 : World} (hb : Below W.heap.size W w1) : (∀ b o, b < W.heap.size → w1.cell? ⟨b, o, none⟩ = W.cell? ⟨b, o, none⟩) :=
  fun b o h => hb.cell (p := ⟨b, o, none⟩) h
theorem cell_kept {w w1 : World} {p : Addr} {v : Value} (h : w.cell? p = some v) (hb : Below w.heap.size w w1) : w1.cell? p = some v := by
  rw [hb.cell (World.block_lt_of_cell? _ _ h)]; exact h
theorem cell_kept' {w w1 : World} {p : Addr} {v : Value} (h : w.cell? p = some v) (hb : Below w.heap.size w w1) : w1.cell? p = some v := cell_kept h hb
theorem wrap_id (x : Int) (h0 : -9223372036854775808 ≤ x) (h1 : x ≤ 9223372036854775807) : IntKind.i64.wrap x = x := by rw [IntKind.wrap_i64]; omega

theorem i64_and255 (n : Int) : bits .and .i64 n 255 = n % 256 := by
  have h255 : (BitVec.ofInt 64 255).toNat = 2 ^ 8 - 1 := by decide
  have key : (BitVec.ofInt 64 n &&& BitVec.ofInt 64 255).toNat = (n % ((2 ^ 64 : Nat) : Int)).toNat % 2 ^ 8 := by
    rw [BitVec.toNat_and, BitVec.toNat_ofInt, h255, Nat.and_two_pow_sub_one_eq_mod]
  show IntKind.i64.wrap ((BitVec.ofInt 64 n &&& BitVec.ofInt 64 255).toNat : Nat) = n % 256
  rw [key, IntKind.wrap_i64]
  omega

/-- The new block of two bytes, read as a string. -/
theorem conv_two (w : World) (n : Int) (h0 : 0 ≤ n) (h1 : n ≤ 65535) :
    (convert 116 9 (.slice (some ⟨w.heap.size, 0, none⟩) 2 2)).run Tryz.prog (w.alloc (.cells #[.int .u8 (n % 256), .int .u8 (n / 256)] 5)) =
      .ok (.string (bs (two n))) (w.alloc (.cells #[.int .u8 (n % 256), .int .u8 (n / 256)] 5)) := by
  refine run_convert_bytes_back (P := Tryz.prog) _ 116 9 5 ⟨w.heap.size, 0, none⟩ 2 (two n) Tryz.underlying116 Tryz.underlying5 Tryz.underlying9 ?_
  intro j hj
  have hj2 : j < 2 := by simpa [two] using hj
  have ha : ((⟨w.heap.size, 0, none⟩ : Addr).add j) = ⟨w.heap.size, j, none⟩ := by simp [Addr.add]; intro h; exact h.symm
  rw [ha]
  rw [World.cell?_alloc_mark]
  match j, hj2 with
  | 0, _ => simp [two]; omega
  | 1, _ => simp [two]; omega

set_option maxHeartbeats 400000 in
theorem twoBytes_any (n : Int) (w : World) (h0 : 0 ≤ n) (h1 : n ≤ 65535) :
    Calls Tryz.prog 74 #[.int .i64 n] w fun e w' => e = .returned (.string (bs (two n))) ∧ Below w.heap.size w w' := by
  have hcv := conv_two w n h0 h1
  go_enter Tryz.func74, Tryz.ntmps74
  go_wp2
  go_ret
  exact ⟨rfl, (Below.refl _ _).alloc (Nat.le_refl _) _⟩

set_option maxHeartbeats 400000 in
theorem two_any (n : Int) (w : World) (h0 : 0 ≤ n) (h1 : n ≤ 65535) :
    Calls Tryz.prog 52 #[.int .i64 n] w fun e w' => e = .returned (.string (bs (two n))) ∧ Below w.heap.size w w' := by
  have hcv := conv_two w n h0 h1
  have hb1 : bits .and .i64 n 255 = n % 256 := i64_and255 n
  have hb2 : bits .and .i64 (n / 256) 255 = n / 256 := by rw [i64_and255]; omega
  go_enter Tryz.func52, Tryz.ntmps52
  go_wp2
  go_ret
  exact ⟨rfl, (Below.refl _ _).alloc (Nat.le_refl _) _⟩

theorem ent_str (s : ByteArray) : (⟨#[69]⟩ : ByteArray) ++ s = bs (entT s.data.toList) := by
  have : (⟨#[69]⟩ : ByteArray) = bs [69] := rfl
  rw [this]
  conv => lhs; rw [← bs_toList s]
  rw [bs_append]; rfl
theorem node_str (a b : Int) : ((⟨#[78]⟩ : ByteArray) ++ bs (two a)) ++ bs (two b) = bs (nodeT a b) := by
  have : (⟨#[78]⟩ : ByteArray) = bs [78] := rfl
  rw [this, bs_append, bs_append]; rfl

set_option maxHeartbeats 400000 in
theorem entryText_any (s : ByteArray) (w : World) (hs : s.size ≤ 1000000) :
    Calls Tryz.prog 87 #[.string s] w fun e w' => e = .returned (.string (bs (entT s.data.toList))) ∧ w' = w := by
  go_enter Tryz.func87, Tryz.ntmps87
  go_wp2
  go_ret
  exact ⟨by rw [ent_str]; rfl, rfl⟩

set_option maxHeartbeats 400000 in
theorem nodeText_any (a b : Int) (w : World) (ha : Bd a) (hb : Bd b) :
    Calls Tryz.prog 88 #[.int .i64 a, .int .i64 b] w fun e w' => e = .returned (.string (bs (nodeT a b))) ∧ Below w.heap.size w w' := by
  have z1 : (bs (two a)).size = 2 := size_bs _
  have z2 : (bs (two b)).size = 2 := size_bs _
  go_enter Tryz.func88, Tryz.ntmps88
  go_wp2_with fail
  refine (twoBytes_any a _ ha.1 (by have := ha.2; omega)).mono ?_
  rintro e w1 ⟨rfl, hb1⟩
  go_wp2_with fail
  refine (twoBytes_any b _ hb.1 (by have := hb.2; omega)).mono ?_
  rintro e w2 ⟨rfl, hb2⟩
  go_wp2_with fail
  go_ret
  exact ⟨by rw [node_str]; rfl, kept hb1 hb2⟩

set_option maxHeartbeats 400000 in
theorem joined_any (a b : Int) (w : World) (ha : Bd a) (hb : Bd b) :
    Calls Tryz.prog 76 #[.string ⟨#[78]⟩, .int .i64 a, .int .i64 b] w fun e w' => e = .returned (.int .i64 (node a b)) ∧ Below w.heap.size w w' := by
  have z1 : (bs (two a)).size = 2 := size_bs _
  have z2 : (bs (two b)).size = 2 := size_bs _
  go_enter Tryz.func76, Tryz.ntmps76
  go_wp2_with fail
  refine (two_any a _ ha.1 (by have := ha.2; omega)).mono ?_
  rintro e w1 ⟨rfl, hb1⟩
  go_wp2_with fail
  refine (two_any b _ hb.1 (by have := hb.2; omega)).mono ?_
  rintro e w2 ⟨rfl, hb2⟩
  go_wp2_with fail
  rw [node_str]
  refine (rsum_any _ _ (by rw [size_bs, length_nodeT]; decide)).mono ?_
  rintro e w3 ⟨rfl, hb3⟩
  go_wp2_with fail
  go_ret
  exact ⟨ret_int (by rw [toList_bs]; rfl), kept (kept hb1 hb2) hb3⟩

set_option maxHeartbeats 400000 in
theorem isSum_any (n : Int) (w : World) :
    Calls Tryz.prog 97 #[.int .i64 n] w fun e w' => e = .returned (.bool (decide (0 ≤ n ∧ n ≤ 4092))) ∧ w' = w := by
  by_cases h0 : 0 ≤ n
  · by_cases h1 : n < 4093
    · go_enter Tryz.func97, Tryz.ntmps97
      go_wp2
      go_ret
      exact ⟨by simp; omega, rfl⟩
    · go_enter Tryz.func97, Tryz.ntmps97
      go_wp2
      go_ret
      exact ⟨by simp; omega, rfl⟩
  · go_enter Tryz.func97, Tryz.ntmps97
    go_wp2
    go_ret
    exact ⟨by simp; omega, rfl⟩

end Go.Proofs.YtedblhcehlbbmaaGreatDoor


/-
  CONTRACTS over logs: logs.Cut, TooLong, Root; lender.Root; lenderref.Long.
-/
namespace Go.Proofs.YtedblhcehlbbmaaGreatDoor
set_option maxRecDepth 20000
open Go.RowKit

/-- The slice at this address holds these strings. -/
def Strs (w : World) (a : Option Addr) (ss : List ByteArray) : Prop :=
  ss = [] ∨ ∃ b off, a = some ⟨b, off, none⟩ ∧ ∀ i (h : i < ss.length), w.cell? ⟨b, off + i, none⟩ = some (.string ss[i])

theorem Strs.at {w : World} {a : Option Addr} {ss : List ByteArray} (h : Strs w a ss) (hp : 0 < ss.length) :
    ∃ b off, a = some ⟨b, off, none⟩ ∧ ∀ i (h : i < ss.length), w.cell? ⟨b, off + i, none⟩ = some (.string ss[i]) := by
  rcases h with rfl | h
  · simp at hp
  · exact h

theorem Strs.kept {w w' : World} {a : Option Addr} {ss : List ByteArray} (h : Strs w a ss) (hb : Below w.heap.size w w') : Strs w' a ss := by
  rcases h with h | ⟨b, off, ha, hc⟩
  · exact .inl h
  · refine .inr ⟨b, off, ha, fun i hi => ?_⟩
    have h1 := hc i hi
    rw [hb.cell (World.block_lt_of_cell? _ _ h1)]; exact h1

theorem Strs.take {w : World} {b off : Nat} {ss : List ByteArray} (h : ∀ i (h : i < ss.length), w.cell? ⟨b, off + i, none⟩ = some (.string ss[i])) (k : Nat) : Strs w (some ⟨b, off, none⟩) (ss.take k) :=
  .inr ⟨b, off, rfl, fun i hi => by rw [List.getElem_take]; exact h i (by rw [List.length_take] at hi; omega)⟩
theorem Strs.drop {w : World} {b off : Nat} {ss : List ByteArray} (h : ∀ i (h : i < ss.length), w.cell? ⟨b, off + i, none⟩ = some (.string ss[i])) (k : Nat) : Strs w (some ⟨b, off + k, none⟩) (ss.drop k) :=
  .inr ⟨b, off + k, rfl, fun i hi => by rw [List.getElem_drop, Nat.add_assoc]; exact h (k + i) (by rw [List.length_drop] at hi; omega)⟩

/-- P4's ErrLong. -/
def longTo (ss : List ByteArray) (k : Nat) : Bool := decide (200 < ss.length) || (ss.take k).any (fun s => decide (40 < s.size))
def longB (ss : List ByteArray) : Bool := longTo ss ss.length
theorem longTo_succ (ss : List ByteArray) (k : Nat) (h : k < ss.length) : longTo ss (k + 1) = (longTo ss k || decide (40 < ss[k].size)) := by
  unfold longTo; rw [List.take_succ_eq_append_getElem h, List.any_append, ← Bool.or_assoc]; simp
theorem longTo_true (ss : List ByteArray) (k : Nat) (h : longTo ss k = true) : longB ss = true := by
  unfold longB; unfold longTo at *
  simp only [Bool.or_eq_true, List.any_eq_true] at *
  rcases h with h | ⟨s, hs, h⟩
  · exact .inl h
  · exact .inr ⟨s, by rw [List.take_length]; exact List.mem_of_mem_take hs, h⟩
theorem longB_false (ss : List ByteArray) (h : longB ss = false) : ss.length ≤ 200 ∧ ∀ s ∈ ss, s.size ≤ 40 := by
  unfold longB longTo at h
  simp only [Bool.or_eq_false_iff, decide_eq_false_iff_not, List.take_length, List.any_eq_false, decide_eq_true_eq] at h
  exact ⟨by omega, fun s hs => by have := h.2 s hs; omega⟩
theorem longTo_zero (ss : List ByteArray) : longTo ss 0 = decide (200 < ss.length) := by simp [longTo]

set_option maxHeartbeats 400000 in
theorem cut_any (n : Nat) (w : World) (h1 : 1 < n) (h2 : n ≤ 1000000) :
    Calls Tryz.prog 82 #[.int .i64 (n : Int)] w fun e w' => ∃ k : Nat, e = .returned (.int .i64 (k : Int)) ∧ IsCut n k ∧ w' = w := by
  go_enter Tryz.func82, Tryz.ntmps82
  go_wp2
  go_loop [3] (fun t => ∃ k : Nat, (∃ j, k = 2 ^ j) ∧ k < n ∧ t = .int .i64 (k : Int)) (fun t => n - (intOf t).toNat)
  case atStart => exact ⟨1, ⟨0, rfl⟩, h1, rfl⟩
  case round =>
    obtain ⟨k, ⟨j, HJ⟩, hk, rfl⟩ := hrel
    have hk0 : 0 < k := by rw [HJ]; exact Nat.two_pow_pos j
    have H : Hid (k = 2 ^ j) := HJ
    clear HJ
    by_cases hlt : (k : Int) < (n : Int) - (k : Int)
    · go_wp2
      go_round
      case rel => exact ⟨k * 2, ⟨j + 1, by rw [H.out, Nat.pow_succ]⟩, by omega, by go_num⟩
      case measure => simp [intOf]; omega
    · go_wp2
      go_ret
      exact ⟨k, rfl, ⟨⟨j, H.out⟩, hk, by omega⟩, rfl⟩

set_option maxHeartbeats 400000 in
theorem tooLong_any (a : Option Addr) (ss : List ByteArray) (cap : Nat) (w : World) (hs : Strs w a ss) (hl : ss.length ≤ 9223372036854775) :
    Calls Tryz.prog 62 #[.slice a ss.length cap] w fun e w' => e = .returned (.bool (longB ss)) ∧ w' = w := by
  by_cases hbig : 200 < ss.length
  · have HB : Hid (longB ss = true) := longTo_true ss 0 (by rw [longTo_zero]; simpa using hbig)
    have hbig' : (200 : Int) < (ss.length : Int) := by omega
    go_enter Tryz.func62, Tryz.ntmps62
    go_wp2
    go_ret
    exact ⟨by rw [HB.out]; rfl, rfl⟩
  · have hbig' : ¬ (200 : Int) < (ss.length : Int) := by omega
    go_enter Tryz.func62, Tryz.ntmps62
    go_wp2
    go_loop [3] (fun i => ∃ k : Nat, k ≤ ss.length ∧ longTo ss k = false ∧ i = .int .i64 k) (fun i => ss.length - (intOf i).toNat)
    case atStart => exact ⟨0, Nat.zero_le _, by rw [longTo_zero]; simpa using hbig, rfl⟩
    case round =>
      obtain ⟨k, hk, hlong, rfl⟩ := hrel
      have HL : Hid (longTo ss k = false) := hlong
      clear hlong
      by_cases hlt : k < ss.length
      · obtain ⟨b, off, rfl, hc⟩ := hs.at (by omega)
        have hck := hc k hlt
        have HS : Hid (longTo ss (k + 1) = (longTo ss k || decide (40 < ss[k].size))) := longTo_succ ss k hlt
        clear hc hs
        obtain ⟨s, hse⟩ : ∃ s, s = ss[k] := ⟨_, rfl⟩
        rw [← hse] at hck
        have HE : Hid (s = ss[k]) := hse
        clear hse
        by_cases h40 : (40 : Int) < (s.size : Int)
        · go_wp2
          go_ret
          refine ⟨?_, rfl⟩
          have : longB ss = true := longTo_true ss (k + 1) (by rw [HS.out, HL.out, ← HE.out]; simp; omega)
          rw [this]; rfl
        · go_wp2
          go_round
          case rel => exact ⟨k + 1, by omega, by rw [HS.out, HL.out, ← HE.out]; simp; omega, by go_num⟩
          case measure => simp [intOf]; omega
      · go_wp2
        go_ret
        have hk' : k = ss.length := by omega
        refine ⟨?_, rfl⟩
        have : longB ss = false := by unfold longB; rw [← hk']; exact HL.out
        rw [this]; rfl

set_option maxHeartbeats 400000 in
theorem long_any (a : Option Addr) (ss : List ByteArray) (cap : Nat) (w : World) (hs : Strs w a ss) (hl : ss.length ≤ 9223372036854775) :
    Calls Tryz.prog 35 #[.slice a ss.length cap] w fun e w' => e = .returned (.bool (longB ss)) ∧ w' = w := by
  have H0 : Hid (longTo ss 0 = decide (200 < ss.length)) := longTo_zero ss
  go_enter Tryz.func35, Tryz.ntmps35
  go_wp2
  go_loop [3, 4] (fun l i => ∃ (k : Nat) (L : Bool), k ≤ ss.length ∧ Hid (longTo ss k = L) ∧ l = .bool L ∧ i = .int .i64 k) (fun _ i => ss.length - (intOf i).toNat)
  case atStart => exact ⟨0, _, Nat.zero_le _, H0, by congr 1; rw [Bool.eq_iff_iff]; simp; omega, rfl⟩
  case round =>
    obtain ⟨k, L, hk, HL, rfl, rfl⟩ := hrel
    by_cases hlt : k < ss.length
    · cases L with
      | true =>
        have hlt' : (k : Int) < (ss.length : Int) := by omega
        go_wp2
        go_ret
        have : longB ss = true := longTo_true ss k HL.out
        exact ⟨by rw [this]; rfl, rfl⟩
      | false =>
        obtain ⟨b, off, rfl, hc⟩ := hs.at (by omega)
        have hck := hc k hlt
        have HS : Hid (longTo ss (k + 1) = (longTo ss k || decide (40 < ss[k].size))) := longTo_succ ss k hlt
        clear hc hs
        obtain ⟨s, hse⟩ : ∃ s, s = ss[k] := ⟨_, rfl⟩
        rw [← hse] at hck
        have HE : Hid (s = ss[k]) := hse
        clear hse
        go_wp2
        go_round
        case rel => exact ⟨k + 1, decide ((40 : Int) < (s.size : Int)), by omega, by show _ = _; rw [HS.out, HL.out, ← HE.out, Bool.eq_iff_iff]; simp; omega, rfl, by go_num⟩
        case measure => simp [intOf]; omega
    · have hk' : k = ss.length := by omega
      have hlt' : decide ((k : Int) < (ss.length : Int)) = false := by simp; omega
      go_wp2
      go_ret
      have : longB ss = L := by unfold longB; rw [← hk']; exact HL.out
      exact ⟨by rw [this]; rfl, rfl⟩

end Go.Proofs.YtedblhcehlbbmaaGreatDoor


/-
  CONTRACTS: logs.Text and logs.Root (they call one another), lender.Root.
-/
namespace Go.Proofs.YtedblhcehlbbmaaGreatDoor
set_option maxRecDepth 20000
open Go.RowKit

/-- The sum that stands for an entry. -/
def entS (s : ByteArray) : Int := ent s.data.toList
/-- The sums of the entries. -/
def lvs (ss : List ByteArray) : List Int := ss.map entS
theorem lvs_bd (ss : List ByteArray) : ∀ x ∈ lvs ss, Bd x := by
  intro x hx
  obtain ⟨s, _, rfl⟩ := List.mem_map.1 hx
  exact ent_bd _
theorem length_lvs (ss : List ByteArray) : (lvs ss).length = ss.length := by simp [lvs]
theorem lvs_take (ss : List ByteArray) (k : Nat) : lvs (ss.take k) = (lvs ss).take k := by simp [lvs]
theorem lvs_drop (ss : List ByteArray) (k : Nat) : lvs (ss.drop k) = (lvs ss).drop k := by simp [lvs]
/-- The root of a log. -/
def rootS (ss : List ByteArray) : Int := top (lvs ss)
theorem rootS_bd (ss : List ByteArray) : Bd (rootS ss) := top_bd _ (lvs_bd ss)
theorem rootS_cut (ss : List ByteArray) (k : Nat) (h : IsCut ss.length k) : rootS ss = node (rootS (ss.take k)) (rootS (ss.drop k)) := by
  unfold rootS; rw [lvs_take, lvs_drop]; exact top_cut _ _ _ (length_lvs ss) h
theorem rootS_nil : rootS [] = 0 := top_nil
theorem rootS_one (s : ByteArray) : rootS [s] = entS s := top_one _

/-- The text whose sum is the root of a log. -/
def textS (ss : List ByteArray) : List UInt8 := match ss with
  | [] => []
  | [s] => entT s.data.toList
  | s :: t :: r => nodeT (rootS ((s :: t :: r).take (cutN (r.length + 2)))) (rootS ((s :: t :: r).drop (cutN (r.length + 2))))
theorem textS_cut (ss : List ByteArray) (k : Nat) (h : IsCut ss.length k) : textS ss = nodeT (rootS (ss.take k)) (rootS (ss.drop k)) := by
  match ss, h with
  | [], h => have := h.pos.2; simp at this
  | [s], h => have := h.pos.2; simp at this
  | s :: t :: r, h =>
    have e : cutN (r.length + 2) = k := cutN_of (by simpa using h)
    simp only [textS, e]
theorem sm_textS (ss : List ByteArray) : sm (textS ss) = rootS ss := by
  by_cases h : 1 < ss.length
  · have hc := cutN_is ss.length h
    rw [textS_cut ss _ hc, rootS_cut ss _ hc]; rfl
  · match ss, h with
    | [], _ => rw [rootS_nil]; rfl
    | [s], _ => rw [rootS_one]; rfl
    | s :: t :: r, h => simp at h
theorem length_textS (ss : List ByteArray) (h40 : ∀ s ∈ ss, s.size ≤ 40) : (textS ss).length ≤ 41 := by
  by_cases h : 1 < ss.length
  · rw [textS_cut ss _ (cutN_is ss.length h), length_nodeT]; omega
  · match ss, h with
    | [], _ => simp [textS]
    | [s], _ => have := h40 s (by simp); simp only [textS, length_entT, Array.length_toList]; show s.size + 1 ≤ 41; omega
    | s :: t :: r, h => simp at h

set_option maxHeartbeats 400000 in
/-- logs.Root, out of what logs.Text answers. -/
theorem root_of {n : Nat} {a : Option Addr} {ss : List ByteArray} {cap : Nat} {w : World} (h40 : ∀ s ∈ ss, s.size ≤ 40)
    (h : Calls Tryz.prog 72 #[.slice a n cap] w fun e w' => e = .returned (.string (bs (textS ss))) ∧ Below w.heap.size w w') :
    Calls Tryz.prog 45 #[.slice a n cap] w fun e w' => e = .returned (.int .i64 (rootS ss)) ∧ Below w.heap.size w w' := by
  have HT := hid h
  have HL := hid (length_textS ss h40)
  have HS := hid (sm_textS ss)
  clear h h40
  generalize textS ss = t at HT HL HS
  go_enter Tryz.func45, Tryz.ntmps45
  go_wp2_with fail
  refine HT.out.mono ?_
  rintro e w1 ⟨rfl, hb1⟩
  go_wp2_with fail
  refine (sum_any _ _ (by rw [size_bs]; have := HL.out; unfold maxLen; omega)).mono ?_
  rintro e w2 ⟨rfl, rfl⟩
  go_wp2_with fail
  go_ret
  exact ⟨ret_int (by rw [toList_bs, HS.out]), hb1⟩

set_option maxHeartbeats 1000000 in
theorem text_any (m : Nat) : ∀ (n : Nat) (a : Option Addr) (ss : List ByteArray) (cap : Nat) (w : World), ss.length = n → n ≤ m → Strs w a ss → n ≤ 200 → (∀ s ∈ ss, s.size ≤ 40) → n ≤ cap → cap ≤ maxLen →
    Calls Tryz.prog 72 #[.slice a n cap] w fun e w' => e = .returned (.string (bs (textS ss))) ∧ Below w.heap.size w w' := by
  induction m with
  | zero =>
    intro n a ss cap w hn hm hs h200 h40 hcap hmax
    obtain rfl : n = 0 := by omega
    obtain rfl : ss = [] := List.eq_nil_of_length_eq_zero hn
    go_enter Tryz.func72, Tryz.ntmps72
    go_wp2_with fail
    go_ret
    exact ⟨rfl, Below.refl _ _⟩
  | succ m ih =>
    intro n a ss cap w hn hm hs h200 h40 hcap hmax
    have IH := hid ih
    clear ih
    by_cases h0 : n = 0
    · exact IH.out n a ss cap w hn (by omega) hs h200 h40 hcap hmax
    unfold maxLen at hmax
    by_cases h1 : n = 1
    · subst h1
      obtain ⟨s, rfl⟩ : ∃ s, ss = [s] := by
        match ss, hn with
        | [s], _ => exact ⟨s, rfl⟩
      obtain ⟨b, off, rfl, hc⟩ := hs.at (by simp)
      have hc0 := hc 0 (by simp)
      simp only [Nat.add_zero, List.getElem_cons_zero] at hc0
      have hsz := h40 s (by simp)
      clear hc hs
      go_enter Tryz.func72, Tryz.ntmps72
      go_wp2_with fail
      refine (entryText_any s _ (by omega)).mono ?_
      rintro e w1 ⟨rfl, rfl⟩
      go_wp2_with fail
      go_ret
      exact ⟨rfl, Below.refl _ _⟩
    · obtain ⟨b, off, rfl, hc⟩ := hs.at (by omega)
      have HC := hid hc
      have HN : Hid (ss.length = n) := hn
      have H40 := hid h40
      have hn0 : ((n : Int) == 0) = false := by simp; omega
      have hn1 : ((n : Int) == 1) = false := by simp; omega
      have hn2 : 1 < n := by omega
      clear hn hc hs h40
      go_enter Tryz.func72, Tryz.ntmps72
      go_wp2_with fail
      refine (cut_any n _ hn2 (by omega)).mono ?_
      rintro e w1 ⟨k, rfl, hk, rfl⟩
      have hk1 := hk.2.1
      have hk2 := hk.pos.1
      have hk3 := hk.2.2
      go_wp2_with fail
      refine (root_of (fun s hs => H40.out s (List.mem_of_mem_take hs)) (IH.out k _ (ss.take k) cap _ (by rw [List.length_take]; have := HN.out; omega) (by omega) (Strs.take HC.out k) (by omega) (fun s hs => H40.out s (List.mem_of_mem_take hs)) (by omega) (by unfold maxLen; omega))).mono ?_
      rintro e w2 ⟨rfl, hb2⟩
      go_wp2_with fail
      refine (root_of (fun s hs => H40.out s (List.mem_of_mem_drop hs)) (IH.out (n - k) _ (ss.drop k) (cap - k) _ (by rw [List.length_drop]; have := HN.out; omega) (by omega) ((Strs.drop HC.out k).kept hb2) (by omega) (fun s hs => H40.out s (List.mem_of_mem_drop hs)) (by omega) (by unfold maxLen; omega))).mono ?_
      rintro e w3 ⟨rfl, hb3⟩
      go_wp2_with fail
      refine (nodeText_any _ _ _ (rootS_bd _) (rootS_bd _)).mono ?_
      rintro e w4 ⟨rfl, hb4⟩
      have HX := hid (textS_cut ss k (by rw [HN.out]; exact hk))
      go_wp2_with fail
      go_ret
      exact ⟨by rw [HX.out]; rfl, kept (kept hb2 hb3) hb4⟩

theorem root_any (m : Nat) (n : Nat) (a : Option Addr) (ss : List ByteArray) (cap : Nat) (w : World) (hn : ss.length = n) (hm : n ≤ m) (hs : Strs w a ss) (h200 : n ≤ 200) (h40 : ∀ s ∈ ss, s.size ≤ 40) (hcap : n ≤ cap) (hmax : cap ≤ maxLen) :
    Calls Tryz.prog 45 #[.slice a n cap] w fun e w' => e = .returned (.int .i64 (rootS ss)) ∧ Below w.heap.size w w' :=
  root_of h40 (text_any m n a ss cap w hn hm hs h200 h40 hcap hmax)

/-- lender.Root: P4. -/
theorem lroot_any (n : Nat) (a : Option Addr) (ss : List ByteArray) (cap : Nat) (w : World) (hn : ss.length = n) (hs : Strs w a ss) (hl : n ≤ 9223372036854775) (hcap : n ≤ cap) (hmax : cap ≤ maxLen) :
    Calls Tryz.prog 40 #[.slice a n cap] w fun e w' =>
      e = .returned (.tuple #[.int .i64 (if longB ss then 0 else rootS ss), .int .i64 (if longB ss then 2 else 0)]) ∧ Below w.heap.size w w' := by
  by_cases hL : longB ss = true
  · have HL : Hid (longB ss = true) := hL
    go_enter Tryz.func40, Tryz.ntmps40
    go_wp2_with fail
    refine ((by have := tooLong_any a ss cap w hs (by omega); rwa [hn] at this : Calls _ _ _ _ _)).mono ?_
    rintro e w1 ⟨rfl, rfl⟩
    go_wp2_with fail
    go_ret2
    exact ⟨by simp, Below.refl _ _⟩
  · have hL : longB ss = false := by simpa using hL
    have HL : Hid (longB ss = false) := hL
    have hb := longB_false ss hL
    go_enter Tryz.func40, Tryz.ntmps40
    go_wp2_with fail
    refine ((by have := tooLong_any a ss cap w hs (by omega); rwa [hn] at this : Calls _ _ _ _ _)).mono ?_
    rintro e w1 ⟨rfl, rfl⟩
    go_wp2_with fail
    refine (root_any n n a ss cap _ hn (Nat.le_refl _) hs (by omega) hb.2 hcap hmax).mono ?_
    rintro e w2 ⟨rfl, hb2⟩
    go_wp2_with fail
    go_ret2
    exact ⟨by simp, hb2⟩

end Go.Proofs.YtedblhcehlbbmaaGreatDoor


/-
  CONTRACT: lenderkeep.pick.
-/
namespace Go.Proofs.YtedblhcehlbbmaaGreatDoor
set_option maxRecDepth 20000
open Go.RowKit

theorem int_bounds {n : Int} (h : (Lit.int .i64 n).wf = true) : -9223372036854775808 ≤ n ∧ n ≤ 9223372036854775807 := by
  simp [Lit.wf, IntKind.min, IntKind.max, IntKind.signed, IntKind.bits] at h
  omega
/-- Which of n things a number speaks of. -/
def pickN (c : Int) (n : Nat) : Nat := ((if c < 0 then -(c + 1) else c) % (n : Int)).toNat
theorem pickN_lt (c : Int) (n : Nat) (h : 0 < n) : pickN c n < n := by
  unfold pickN
  have := Int.emod_lt_of_pos (if c < 0 then -(c + 1) else c) (show (0 : Int) < (n : Int) by omega)
  have := Int.emod_nonneg (if c < 0 then -(c + 1) else c) (show (n : Int) ≠ 0 by omega)
  omega

end Go.Proofs.YtedblhcehlbbmaaGreatDoor


/-
  WHAT A BOOK'S CALLS ANSWER (stage 4: New, Add, Size, State): the laws are proved out of this; the program's own part proves it.
-/
namespace Go.Proofs.YtedblhcehlbbmaaGreatDoor
set_option maxRecDepth 20000
open Go.RowKit

/-- All but some blocks is as it was. -/
structure Besides (S : Nat → Prop) (w w' : World) : Prop where
  os : w'.os = w.os
  tape : w'.tape = w.tape
  output : w'.output = w.output
  size : w.heap.size ≤ w'.heap.size
  block : ∀ k, k < w.heap.size → ¬ S k → w'.heap[k]? = w.heap[k]?
theorem Besides.below {S : Nat → Prop} {w w' : World} {B : Nat} (h : Besides S w w') (hB : B ≤ w.heap.size) (hS : ∀ k, S k → B ≤ k) : Below B w w' :=
  ⟨h.os, h.tape, h.output, h.size, fun k hk => h.block k (by omega) (fun hs => by have := hS k hs; omega)⟩
theorem Besides.of_below {S : Nat → Prop} {w w' : World} (h : Below w.heap.size w w') : Besides S w w' := ⟨h.os, h.tape, h.output, h.size, fun k hk _ => h.block k hk⟩

/-- An event as Go's value; a state. -/
def evV (e : Ev) : Value := .agg #[.int .i64 e.loan, .int .i64 e.kind, .int .i64 e.amount, .int .i64 e.day]
def stV (s : St) : Value := .agg #[.int .i64 s.principal, .int .i64 s.due, .int .i64 s.rate, .int .i64 s.day, .int .i64 s.spare, .int .i64 s.count]
/-- May an event be? -/
def mayB (e : Ev) : Bool := decide (0 ≤ e.loan ∧ e.loan ≤ 63) && decide (0 ≤ e.kind ∧ e.kind ≤ 2) && decide ((if e.kind = 2 then 0 else 1) ≤ e.amount ∧ e.amount ≤ (if e.kind = 2 then 1000 else 100000000)) && decide (0 ≤ e.day ∧ e.day ≤ 10000)
theorem mayB_of {e : Ev} (h : MayE e) : mayB e = true := by
  obtain ⟨h1, h2, h3, h4⟩ := h
  unfold mayB
  rw [decide_eq_true h1, decide_eq_true h2, decide_eq_true h3, decide_eq_true h4]; rfl
theorem mayB_out {e : Ev} (h : mayB e = true) : MayE e := by
  unfold mayB at h
  rw [Bool.and_eq_true, Bool.and_eq_true, Bool.and_eq_true, decide_eq_true_eq, decide_eq_true_eq, decide_eq_true_eq, decide_eq_true_eq] at h
  exact ⟨h.1.1.1, h.1.1.2, h.1.2, h.2⟩
/-- Numbers that an int may be. -/
def In64 (n : Int) : Prop := -9223372036854775808 ≤ n ∧ n ≤ 9223372036854775807
def Ev64 (e : Ev) : Prop := In64 e.loan ∧ In64 e.kind ∧ In64 e.amount ∧ In64 e.day
theorem MayE.in64 {e : Ev} (h : MayE e) : Ev64 e := by
  have := h.amount
  obtain ⟨h1, h2, _, h4⟩ := h
  unfold Ev64 In64
  omega
/-- What Add makes of the events. -/
def addL (es : List Ev) (e : Ev) : List Ev := if addN es (mayB e) e.day = 0 then es ++ [e] else es

/-- What a book's calls answer, from the start world w0 on. 'Rep w S v es': in the world w the pointer v holds a book with these events, in the blocks S. -/
structure BookSpec (w0 : World) (Rep : World → (Nat → Prop) → Value → List Ev → Prop) : Prop where
  lt : ∀ {w : World} {S : Nat → Prop} {v : Value} {es : List Ev}, Rep w S v es → ∀ k, S k → k < w.heap.size
  stay : ∀ {w w' : World} {S : Nat → Prop} {v : Value} {es : List Ev}, Rep w S v es → w.heap.size ≤ w'.heap.size → (∀ k, S k → w'.heap[k]? = w.heap[k]?) → Rep w' S v es
  ptr : ∀ {w : World} {S : Nat → Prop} {v : Value} {es : List Ev}, Rep w S v es → ∃ a, v = .pointer (some a)
  good : ∀ {w : World} {S : Nat → Prop} {v : Value} {es : List Ev}, Rep w S v es → GoodE es
  new : ∀ (w : World), Below w0.heap.size w0 w → Calls Tryz.prog 7 #[] w fun r w' => ∃ v S, r = .returned v ∧ Rep w' S v [] ∧ (∀ k, S k → w.heap.size ≤ k) ∧ Below w.heap.size w w'
  add : ∀ (w : World) (S : Nat → Prop) (v : Value) (es : List Ev) (e : Ev), Below w0.heap.size w0 w → Rep w S v es → Ev64 e →
    Calls Tryz.prog 30 #[v, evV e] w fun r w' => r = .returned (.int .i64 (addN es (mayB e) e.day)) ∧ ∃ S', Rep w' S' v (addL es e) ∧ (∀ k, S' k → S k ∨ w.heap.size ≤ k) ∧ Besides S w w'
  size : ∀ (w : World) (S : Nat → Prop) (v : Value) (es : List Ev), Below w0.heap.size w0 w → Rep w S v es →
    Calls Tryz.prog 18 #[v] w fun r w' => r = .returned (.int .i64 (es.length : Int)) ∧ Below w.heap.size w w'
  state : ∀ (w : World) (S : Nat → Prop) (v : Value) (es : List Ev) (loan : Int), Below w0.heap.size w0 w → Rep w S v es → In64 loan →
    Calls Tryz.prog 19 #[v, .int .i64 loan] w fun r w' => r = .returned (.tuple #[stV (if 0 ≤ loan ∧ loan ≤ 63 then stOf es loan else zS), .int .i64 (if 0 ≤ loan ∧ loan ≤ 63 then 0 else 1)]) ∧ Below w.heap.size w w'

/-- A book whose blocks all lie from B on. -/
def RepB (Rep : World → (Nat → Prop) → Value → List Ev → Prop) (B : Nat) (w : World) (v : Value) (es : List Ev) : Prop := ∃ S, Rep w S v es ∧ ∀ k, S k → B ≤ k
section
variable {w0 : World} {Rep : World → (Nat → Prop) → Value → List Ev → Prop}
theorem BookSpec.keptB (T : BookSpec w0 Rep) {B : Nat} {w w' : World} {v : Value} {es : List Ev} (h : RepB Rep B w v es) (hb : Below w.heap.size w w') : RepB Rep B w' v es := by
  obtain ⟨S, h1, h2⟩ := h
  exact ⟨S, T.stay h1 hb.size (fun k hk => hb.block k (T.lt h1 k hk)), h2⟩
theorem BookSpec.newB (T : BookSpec w0 Rep) (w : World) (h : Below w0.heap.size w0 w) : Calls Tryz.prog 7 #[] w fun r w' => ∃ a, r = .returned (.pointer (some a)) ∧ RepB Rep w.heap.size w' (.pointer (some a)) [] ∧ Below w.heap.size w w' := by
  refine (T.new w h).mono ?_
  rintro r w' ⟨v, S, rfl, h1, h2, h3⟩
  obtain ⟨a, rfl⟩ := T.ptr h1
  exact ⟨a, rfl, ⟨S, h1, h2⟩, h3⟩
theorem BookSpec.addB (T : BookSpec w0 Rep) (B : Nat) (w : World) (v : Value) (es : List Ev) (e : Ev) (h : Below w0.heap.size w0 w) (hr : RepB Rep B w v es) (he : Ev64 e) (hB : B ≤ w.heap.size) :
    Calls Tryz.prog 30 #[v, evV e] w fun r w' => r = .returned (.int .i64 (addN es (mayB e) e.day)) ∧ RepB Rep B w' v (addL es e) ∧ Below B w w' := by
  obtain ⟨S, h1, h2⟩ := hr
  refine (T.add w S v es e h h1 he).mono ?_
  rintro r w' ⟨rfl, S', h3, h4, h5⟩
  exact ⟨rfl, ⟨S', h3, fun k hk => by
    rcases h4 k hk with h | h
    · exact h2 k h
    · omega⟩, h5.below hB h2⟩
theorem BookSpec.addOk (T : BookSpec w0 Rep) (B : Nat) (w : World) (v : Value) (es : List Ev) (e : Ev) (h : Below w0.heap.size w0 w) (hr : RepB Rep B w v es) (hB : B ≤ w.heap.size) (hl : es.length < 200) (hm : MayE e) (hd : lastD es ≤ e.day) :
    Calls Tryz.prog 30 #[v, evV e] w fun r w' => r = .returned (.int .i64 0) ∧ RepB Rep B w' v (es ++ [e]) ∧ Below B w w' := by
  have := T.addB B w v es e h hr hm.in64 hB
  unfold addL at this
  rw [mayB_of hm, addN_ok hl hd, if_pos rfl] at this
  exact this
theorem BookSpec.sizeB (T : BookSpec w0 Rep) (B : Nat) (w : World) (v : Value) (es : List Ev) (h : Below w0.heap.size w0 w) (hr : RepB Rep B w v es) :
    Calls Tryz.prog 18 #[v] w fun r w' => r = .returned (.int .i64 (es.length : Int)) ∧ Below w.heap.size w w' := by
  obtain ⟨S, h1, _⟩ := hr
  exact T.size w S v es h h1
theorem BookSpec.stateB (T : BookSpec w0 Rep) (B : Nat) (w : World) (v : Value) (es : List Ev) (loan : Int) (h : Below w0.heap.size w0 w) (hr : RepB Rep B w v es) (h0 : 0 ≤ loan) (h1 : loan ≤ 63) :
    Calls Tryz.prog 19 #[v, .int .i64 loan] w fun r w' => r = .returned (.tuple #[stV (stOf es loan), .int .i64 0]) ∧ Below w.heap.size w w' := by
  obtain ⟨S, h3, _⟩ := hr
  have := T.state w S v es loan h h3 ⟨by omega, by omega⟩
  rw [if_pos ⟨h0, h1⟩, if_pos ⟨h0, h1⟩] at this
  exact this
end

end Go.Proofs.YtedblhcehlbbmaaGreatDoor

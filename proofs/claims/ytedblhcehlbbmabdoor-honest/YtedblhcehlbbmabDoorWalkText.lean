/-
  CONTRACTS of the texts: sums.EntryText, TwoBytes, NodeText, Entry, Node, IsSum; lenderref.two, joined.
-/
import Derived.Test.YtedblhcehlbbmabDoorWalkSum
import Derived.Test.YtedblhcehlbbmabDoorMathTree
import Derived.WalkKit
import Derived.WalkSpells
import Derived.WalkLawsBesides
import Derived.Laws.IdiomStrings
import Derived.Laws.BitsLemmas
namespace Go.Proofs.YtedblhcehlbbmabDoor
open Go.RowKit

/-- A text as Go's string. -/
def bs (l : List UInt8) : ByteArray := ⟨l.toArray⟩
theorem size_bs (l : List UInt8) : (bs l).size = l.length := by simp [bs, ByteArray.size]
theorem toList_bs (l : List UInt8) : (bs l).data.toList = l := by simp [bs]
theorem bs_toList (s : ByteArray) : bs s.data.toList = s := by cases s; simp [bs]
theorem bs_append (a b : List UInt8) : bs a ++ bs b = bs (a ++ b) := by
  apply ByteArray.ext; simp [bs]
theorem bs_inj {a b : List UInt8} (h : bs a = bs b) : a = b := by rw [← toList_bs a, h, toList_bs]

theorem hid {p : Prop} (h : p) : Hid p := h
theorem kept {w w1 w2 : World} (h : Below w.heap.size w w1) (k : Below w1.heap.size w1 w2) : Below w.heap.size w w2 := h.trans (k.mono h.size)

theorem bcell {W w1 : World} (hb : Below W.heap.size W w1) : (∀ b o, b < W.heap.size → w1.cell? ⟨b, o, none⟩ = W.cell? ⟨b, o, none⟩) :=
  fun b o h => hb.cell (p := ⟨b, o, none⟩) h
theorem cell_kept {w w1 : World} {p : Addr} {v : Value} (h : w.cell? p = some v) (hb : Below w.heap.size w w1) : w1.cell? p = some v := by
  rw [hb.cell (World.block_lt_of_cell? _ _ h)]; exact h
theorem cell_kept' {w w1 : World} {p : Addr} {v : Value} (h : w.cell? p = some v) (hb : Below w.heap.size w w1) : w1.cell? p = some v := cell_kept h hb
theorem wrap_id (x : Int) (h0 : -9223372036854775808 ≤ x) (h1 : x ≤ 9223372036854775807) : IntKind.i64.wrap x = x := by rw [IntKind.wrap_i64]; omega

theorem i64_and255 (n : Int) : bits .and .i64 n 255 = n % 256 := by
  have h255 : (BitVec.ofInt 64 255).toNat = 2 ^ 8 - 1 := by decide
  have key : (BitVec.ofInt 64 n &&& BitVec.ofInt 64 255).toNat = (n % ((2 ^ 64 : Nat) : Int)).toNat % 2 ^ 8 := by
    rw [BitVec.toNat_and, BitVec.toNat_ofInt, h255, Nat.and_two_pow_sub_one_eq_mod]
  show IntKind.i64.wrap ((BitVec.ofInt 64 n &&& BitVec.ofInt 64 255).toNat : Nat) = n % 256
  rw [key, IntKind.wrap_i64]
  omega

/-- The new block of two bytes, read as a string. -/
theorem conv_two (w : World) (n : Int) (h0 : 0 ≤ n) (h1 : n ≤ 65535) :
    (convert 97 9 (.slice (some ⟨w.heap.size, 0, none⟩) 2 2)).run Tryd.prog (w.alloc (.cells #[.int .u8 (n % 256), .int .u8 (n / 256)] 5)) =
      .ok (.string (bs (two n))) (w.alloc (.cells #[.int .u8 (n % 256), .int .u8 (n / 256)] 5)) := by
  refine run_convert_bytes_back (P := Tryd.prog) _ 97 9 5 ⟨w.heap.size, 0, none⟩ 2 (two n) Tryd.underlying97 Tryd.underlying5 Tryd.underlying9 ?_
  intro j hj
  have hj2 : j < 2 := by simpa [two] using hj
  have ha : ((⟨w.heap.size, 0, none⟩ : Addr).add j) = ⟨w.heap.size, j, none⟩ := by simp [Addr.add]; intro h; exact h.symm
  rw [ha]
  rw [World.cell?_alloc_mark]
  match j, hj2 with
  | 0, _ => simp [two]; omega
  | 1, _ => simp [two]; omega

set_option maxHeartbeats 400000 in
theorem twoBytes_any (n : Int) (w : World) (h0 : 0 ≤ n) (h1 : n ≤ 65535) :
    Calls Tryd.prog 43 #[.int .i64 n] w fun e w' => e = .returned (.string (bs (two n))) ∧ Below w.heap.size w w' := by
  have hcv := conv_two w n h0 h1
  go_enter Tryd.func43, Tryd.ntmps43
  go_wp2
  go_ret
  exact ⟨rfl, (Below.refl _ _).alloc (Nat.le_refl _) _⟩

theorem ent_str (s : ByteArray) : (⟨#[69]⟩ : ByteArray) ++ s = bs (entT s.data.toList) := by
  have : (⟨#[69]⟩ : ByteArray) = bs [69] := rfl
  rw [this]
  conv => lhs; rw [← bs_toList s]
  rw [bs_append]; rfl
theorem node_str (a b : Int) : ((⟨#[78]⟩ : ByteArray) ++ bs (two a)) ++ bs (two b) = bs (nodeT a b) := by
  have : (⟨#[78]⟩ : ByteArray) = bs [78] := rfl
  rw [this, bs_append, bs_append]; rfl

set_option maxHeartbeats 400000 in
theorem entryText_any (s : ByteArray) (w : World) (hs : s.size ≤ 1000000) :
    Calls Tryd.prog 32 #[.string s] w fun e w' => e = .returned (.string (bs (entT s.data.toList))) ∧ w' = w := by
  go_enter Tryd.func32, Tryd.ntmps32
  go_wp2
  go_ret
  exact ⟨by rw [ent_str]; rfl, rfl⟩

set_option maxHeartbeats 400000 in
theorem nodeText_any (a b : Int) (w : World) (ha : Bd a) (hb : Bd b) :
    Calls Tryd.prog 48 #[.int .i64 a, .int .i64 b] w fun e w' => e = .returned (.string (bs (nodeT a b))) ∧ Below w.heap.size w w' := by
  have z1 : (bs (two a)).size = 2 := size_bs _
  have z2 : (bs (two b)).size = 2 := size_bs _
  go_enter Tryd.func48, Tryd.ntmps48
  go_wp2_with fail
  refine (twoBytes_any a _ ha.1 (by have := ha.2; omega)).mono ?_
  rintro e w1 ⟨rfl, hb1⟩
  go_wp2_with fail
  refine (twoBytes_any b _ hb.1 (by have := hb.2; omega)).mono ?_
  rintro e w2 ⟨rfl, hb2⟩
  go_wp2_with fail
  go_ret
  exact ⟨by rw [node_str]; rfl, kept hb1 hb2⟩

set_option maxHeartbeats 400000 in
theorem node_any (a b : Int) (w : World) (ha : Bd a) (hb : Bd b) :
    Calls Tryd.prog 51 #[.int .i64 a, .int .i64 b] w fun e w' => e = .returned (.int .i64 (node a b)) ∧ Below w.heap.size w w' := by
  go_enter Tryd.func51, Tryd.ntmps51
  go_wp2_with fail
  refine (nodeText_any a b _ ha hb).mono ?_
  rintro e w1 ⟨rfl, hb1⟩
  go_wp2_with fail
  refine (sum_any _ _ (by rw [size_bs, length_nodeT]; decide)).mono ?_
  rintro e w2 ⟨rfl, rfl⟩
  go_wp2_with fail
  go_ret
  exact ⟨ret_int (by rw [toList_bs]; rfl), hb1⟩

set_option maxHeartbeats 400000 in
theorem isSum_any (n : Int) (w : World) :
    Calls Tryd.prog 44 #[.int .i64 n] w fun e w' => e = .returned (.bool (decide (0 ≤ n ∧ n ≤ 4092))) ∧ w' = w := by
  by_cases h0 : 0 ≤ n
  · by_cases h1 : n < 4093
    · go_enter Tryd.func44, Tryd.ntmps44
      go_wp2
      go_ret
      exact ⟨by simp; omega, rfl⟩
    · go_enter Tryd.func44, Tryd.ntmps44
      go_wp2
      go_ret
      exact ⟨by simp; omega, rfl⟩
  · go_enter Tryd.func44, Tryd.ntmps44
    go_wp2
    go_ret
    exact ⟨by simp; omega, rfl⟩

end Go.Proofs.YtedblhcehlbbmabDoor

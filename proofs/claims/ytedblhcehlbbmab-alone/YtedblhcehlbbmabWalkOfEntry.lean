/-
  CONTRACTS: twins.OfEntry, the two ways on which it calls itself (out of what that call answers).
-/
import Derived.Test.YtedblhcehlbbmabWalkWithin
import Derived.WalkKit
import Derived.WalkSpells
import Derived.WalkLawsBesides
import Derived.Deep.QuietTactic
import Derived.BigQuiet
import Derived.Deep.RegionHeld3
import Derived.Deep.DrawnRows
namespace Go.Proofs.Ytedblhcehlbbmab
open Go.RowKit

set_option maxHeartbeats 1000000 in
theorem ofEntry_left (n i l k : Nat) (ent : ByteArray) (bk off bz oz : Nat) (T X Y : ByteArray) (cap cap2 : Nat) (w : World) (hik : i < k) (hk : IsCut n k) (h200 : n ≤ 200) (he : ent.size ≤ 40) (h1 : 1 ≤ l) (hr : l ≤ 17592186043904) (hcap : n ≤ cap) (hcap2 : l ≤ cap2)
    (HL : Hid (Calls Try.prog 29 #[.int .i64 (n : Int), .int .i64 (i : Int), .string (bs (entT ent.data.toList)), .slice (some ⟨bz, oz, none⟩) l cap2] w fun e w' => e = .returned (.tuple #[.string T, .bool true]) ∧ Below w.heap.size w w'))
    (HTX : Hid (∀ w1, Below w.heap.size w w1 → Calls Try.prog 38 #[.slice (some ⟨bk, off, none⟩) n cap] w1 fun e w' => e = .returned (.string T) ∧ Below w1.heap.size w1 w'))
    (HW : Hid (∀ w1, Below w.heap.size w w1 → Calls Try.prog 31 #[.slice (some ⟨bk, off, none⟩) k cap, .int .i64 (i : Int), .string ent, .slice (some ⟨bz, oz, none⟩) (l - 1) cap2] w1 fun e w' => e = .returned (.tuple #[.string X, .string Y]) ∧ Below w1.heap.size w1 w')) :
    Calls Try.prog 31 #[.slice (some ⟨bk, off, none⟩) n cap, .int .i64 (i : Int), .string ent, .slice (some ⟨bz, oz, none⟩) l cap2] w fun e w' => e = .returned (.tuple #[.string X, .string Y]) ∧ Below w.heap.size w w' := by
  have HET := hid (fun w1 => entryText_any ent w1 (by omega))
  have hka := hk.2.1
  have hkp := hk.pos
  have HK := hid hk
  have i1 : ((l : Int) == 0) = false := by simp; omega
  have i2 : ¬ (n : Int) ≤ 1 := by omega
  have i3 : (1 : Int) ≤ (l : Int) := by omega
  have b1 : (0 : Int) ≤ (k : Int) := by omega
  have b3 : (0 : Int) ≤ (l : Int) - 1 := by omega
  have b4 : (l : Int) - 1 ≤ (cap2 : Int) := by omega
  have b2 : (k : Int) ≤ (cap : Int) := by omega
  have b5 : k ≤ cap := by omega
  have HCU := hid (fun w1 => cut_any n w1 (by omega) (by omega))
  have HL0 : Hid (1 ≤ l) := h1
  clear hk hkp h1
  generalize entT ent.data.toList = ET at HL HET
  go_enter Try.func31, Try.ntmps31
  go_wp2_with fail
  refine (HET.out _).mono ?_
  rintro e w1 ⟨rfl, rfl⟩
  go_wp2_with fail
  refine HL.out.mono ?_
  rintro e w2 ⟨rfl, hb2⟩
  go_wp2_with fail
  refine (HTX.out _ hb2).mono ?_
  rintro e w3 ⟨rfl, hb3⟩
  have hk3 := kept hb2 hb3
  go_wp2_with fail
  refine (HCU.out _).mono ?_
  rintro e w4 ⟨k', rfl, hk', rfl⟩
  obtain rfl : k' = k := hk'.unique HK.out
  clear hk' HET HL HTX HCU HL0
  go_wp2_with fail
  go_region_held3 (fun w' => Below w4.heap.size w4 w') ((go_split_ands; first | exact (Below.refl _ _).drew | exact kept (by assumption) hb5)) (first | (go_at_call 31; refine (HW.out _ (by go_split_ands; exact kept hk3 (by assumption))).mono ?_; rintro e w5 ⟨rfl, hb5⟩))
  go_wp2_with fail
  go_ret2
  go_split_ands
  exact ⟨rfl, kept hk3 (by assumption)⟩

set_option maxHeartbeats 1000000 in
theorem ofEntry_right (n i l k : Nat) (ent : ByteArray) (bk off bz oz : Nat) (T X Y : ByteArray) (cap cap2 : Nat) (w : World) (hi : i < n) (hik : ¬ i < k) (hk : IsCut n k) (h200 : n ≤ 200) (he : ent.size ≤ 40) (h1 : 1 ≤ l) (hr : l ≤ 17592186043904) (hcap : n ≤ cap) (hcap2 : l ≤ cap2)
    (HL : Hid (Calls Try.prog 29 #[.int .i64 (n : Int), .int .i64 (i : Int), .string (bs (entT ent.data.toList)), .slice (some ⟨bz, oz, none⟩) l cap2] w fun e w' => e = .returned (.tuple #[.string T, .bool true]) ∧ Below w.heap.size w w'))
    (HTX : Hid (∀ w1, Below w.heap.size w w1 → Calls Try.prog 38 #[.slice (some ⟨bk, off, none⟩) n cap] w1 fun e w' => e = .returned (.string T) ∧ Below w1.heap.size w1 w'))
    (HW : Hid (∀ w1, Below w.heap.size w w1 → Calls Try.prog 31 #[.slice (some ⟨bk, off + k, none⟩) (n - k) (cap - k), .int .i64 ((i : Int) - (k : Int)), .string ent, .slice (some ⟨bz, oz, none⟩) (l - 1) cap2] w1 fun e w' => e = .returned (.tuple #[.string X, .string Y]) ∧ Below w1.heap.size w1 w')) :
    Calls Try.prog 31 #[.slice (some ⟨bk, off, none⟩) n cap, .int .i64 (i : Int), .string ent, .slice (some ⟨bz, oz, none⟩) l cap2] w fun e w' => e = .returned (.tuple #[.string X, .string Y]) ∧ Below w.heap.size w w' := by
  have HET := hid (fun w1 => entryText_any ent w1 (by omega))
  have hka := hk.2.1
  have hkp := hk.pos
  have HK := hid hk
  have i1 : ((l : Int) == 0) = false := by simp; omega
  have i2 : ¬ (n : Int) ≤ 1 := by omega
  have i3 : (1 : Int) ≤ (l : Int) := by omega
  have b1 : (0 : Int) ≤ (k : Int) := by omega
  have b3 : (0 : Int) ≤ (l : Int) - 1 := by omega
  have b4 : (l : Int) - 1 ≤ (cap2 : Int) := by omega
  have b6 : (k : Int) ≤ (n : Int) := by omega
  have b7 : (n : Int) ≤ (cap : Int) := by omega
  have b8 : ¬ cap = k := by omega
  have b9 : ¬ (i : Int) < (k : Int) := by omega
  have hwr : IntKind.i64.wrap ((i : Int) - (k : Int)) = (i : Int) - (k : Int) := wrap_id _ (by omega) (by omega)
  have HCU := hid (fun w1 => cut_any n w1 (by omega) (by omega))
  have HL0 : Hid (1 ≤ l) := h1
  clear hk hkp h1
  generalize entT ent.data.toList = ET at HL HET
  go_enter Try.func31, Try.ntmps31
  go_wp2_with fail
  refine (HET.out _).mono ?_
  rintro e w1 ⟨rfl, rfl⟩
  go_wp2_with fail
  refine HL.out.mono ?_
  rintro e w2 ⟨rfl, hb2⟩
  go_wp2_with fail
  refine (HTX.out _ hb2).mono ?_
  rintro e w3 ⟨rfl, hb3⟩
  have hk3 := kept hb2 hb3
  go_wp2_with fail
  refine (HCU.out _).mono ?_
  rintro e w4 ⟨k', rfl, hk', rfl⟩
  obtain rfl : k' = k := hk'.unique HK.out
  clear hk' HET HL HTX HCU HL0
  go_wp2_with fail
  go_region_held3 (fun w' => Below w4.heap.size w4 w') ((go_split_ands; first | exact (Below.refl _ _).drew | exact kept (by assumption) hb5)) (first | (go_at_call 31; refine (HW.out _ (by go_split_ands; exact kept hk3 (by assumption))).mono ?_; rintro e w5 ⟨rfl, hb5⟩))
  go_wp2_with fail
  go_ret2
  go_split_ands
  exact ⟨rfl, kept hk3 (by assumption)⟩

end Go.Proofs.Ytedblhcehlbbmab

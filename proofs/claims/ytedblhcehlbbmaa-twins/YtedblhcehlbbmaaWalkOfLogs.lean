/-
  CONTRACTS: twins.OfLogs, way by way (out of what its calls answer).
-/
import Derived.Test.YtedblhcehlbbmaaWalkOfRoots
import Derived.WalkKit
import Derived.WalkSpells
import Derived.WalkLawsBesides
namespace Go.Proofs.Ytedblhcehlbbmaa
open Go.RowKit

set_option maxRecDepth 20000 in
set_option maxHeartbeats 1000000 in
/-- b is no longer than a. -/
theorem ofLogs_end (n m l : Nat) (wh : Bool) (a b d : Option Addr) (X Y : ByteArray) (ca cb cd : Nat) (w : World) (h : m ≤ n)
    (HW : Hid (Calls Try.prog 68 #[.slice a n ca, .slice b m cb] w fun e w' => e = .returned (.tuple #[.string X, .string Y]) ∧ Below w.heap.size w w')) :
    Calls Try.prog 53 #[.slice a n ca, .slice b m cb, .bool wh, .slice d l cd] w fun e w' => e = .returned (.tuple #[.string X, .string Y]) ∧ Below w.heap.size w w' := by
  have i1 : (m : Int) ≤ (n : Int) := by omega
  go_enter Try.func53, Try.ntmps53
  go_wp2_with fail
  refine HW.out.mono ?_
  rintro e w1 ⟨rfl, hb1⟩
  go_wp2_with fail
  go_ret2
  exact ⟨rfl, hb1⟩

set_option maxRecDepth 20000 in
set_option maxHeartbeats 1000000 in
/-- The path is empty. -/
theorem ofLogs_nil (n m : Nat) (wh : Bool) (a b d : Option Addr) (X Y : ByteArray) (ca cb cd : Nat) (w : World) (h : n < m)
    (HW : Hid (Calls Try.prog 68 #[.slice a n ca, .slice b m cb] w fun e w' => e = .returned (.tuple #[.string X, .string Y]) ∧ Below w.heap.size w w')) :
    Calls Try.prog 53 #[.slice a n ca, .slice b m cb, .bool wh, .slice d 0 cd] w fun e w' => e = .returned (.tuple #[.string X, .string Y]) ∧ Below w.heap.size w w' := by
  have i1 : (n : Int) < (m : Int) := by omega
  go_enter Try.func53, Try.ntmps53
  go_wp2_with fail
  refine HW.out.mono ?_
  rintro e w1 ⟨rfl, hb1⟩
  go_wp2_with fail
  go_ret2
  exact ⟨rfl, hb1⟩

set_option maxRecDepth 20000 in
set_option maxHeartbeats 2000000 in
theorem ofLogs_L1 (n m l k : Nat) (bk1 off1 bk2 off2 bz oz : Nat) (wh : Bool) (p x y old : Int) (ok : Bool) (S T : ByteArray) (ca cb cd : Nat) (w : World) (hnm : n < m) (hk : IsCut m k) (hnk : n ≤ k) (h200 : m ≤ 200) (h1 : 1 ≤ l) (hr : l ≤ 17592186043904) (hcb : m ≤ cb) (hcd : l ≤ cd) (hp : w.cell? ⟨bz, oz + (l - 1), none⟩ = some (.int .i64 p))
    (HR : Hid (∀ w1, Below w.heap.size w w1 → Calls Try.prog 33 #[.slice (some ⟨bk1, off1, none⟩) n ca] w1 fun e w' => e = .returned (.int .i64 old) ∧ Below w1.heap.size w1 w'))
    (HJ : Hid (∀ w1, Below w.heap.size w w1 → Calls Try.prog 46 #[.int .i64 (n : Int), .int .i64 (k : Int), .int .i64 old, .bool wh, .slice (some ⟨bz, oz, none⟩) (l - 1) cd] w1 fun e w' => e = .returned (.tuple #[.int .i64 x, .int .i64 y, .bool ok]) ∧ Below w1.heap.size w1 w'))
    (HN : Hid (∀ w1, Below w.heap.size w w1 → Calls Try.prog 61 #[.int .i64 y, .int .i64 p] w1 fun e w' => e = .returned (.string S) ∧ Below w1.heap.size w1 w'))
    (HT : Hid (∀ w1, Below w.heap.size w w1 → Calls Try.prog 56 #[.slice (some ⟨bk2, off2, none⟩) m cb] w1 fun e w' => e = .returned (.string T) ∧ Below w1.heap.size w1 w'))
    (hne : S ≠ T) :
    Calls Try.prog 53 #[.slice (some ⟨bk1, off1, none⟩) n ca, .slice (some ⟨bk2, off2, none⟩) m cb, .bool wh, .slice (some ⟨bz, oz, none⟩) l cd] w fun e w' => e = .returned (.tuple #[.string S, .string T]) ∧ Below w.heap.size w w' := by
  have hka := hk.2.1
  have hkp := hk.pos
  have HK := hid hk
  have HP := hid hp
  have HCU := hid (fun w1 => cut_any m w1 (by omega) (by omega))
  have i0 : (n : Int) < (m : Int) := by omega
  have i1 : ((l : Int) == 0) = false := by simp; omega
  have i3 : (1 : Int) ≤ (l : Int) := by omega
  have b1 : (0 : Int) ≤ (k : Int) := by omega
  have b3 : (0 : Int) ≤ (l : Int) - 1 := by omega
  have b4 : (l : Int) - 1 ≤ (cd : Int) := by omega
  have b5 : (l : Int) - 1 < (l : Int) := by omega
  have hnk' : (n : Int) ≤ (k : Int) := by omega
  have b6 : (k : Int) ≤ (cb : Int) := by omega
  have b7 : k ≤ cb := by omega
  have hbn := bne_str hne
  clear hk hkp hp
  go_enter Try.func53, Try.ntmps53
  have hp0 := HP.out
  go_wp2_with fail
  refine (HCU.out _).mono ?_
  rintro e w1 ⟨k', rfl, hk', rfl⟩
  obtain rfl : k' = k := hk'.unique HK.out
  clear hk' HCU hp0
  go_wp2_with fail
  refine (HR.out _ (Below.refl _ _)).mono ?_
  rintro e w2 ⟨rfl, hb2⟩
  clear HR
  go_wp2_with fail
  refine (HJ.out _ hb2).mono ?_
  rintro e w3 ⟨rfl, hb3⟩
  have hk3 := kept hb2 hb3
  clear HJ
  go_wp2_with fail
  refine (HN.out _ hk3).mono ?_
  rintro e w4 ⟨rfl, hb4⟩
  have hk4 := kept hk3 hb4
  clear HN
  go_wp2_with fail
  refine (HT.out _ hk4).mono ?_
  rintro e w5 ⟨rfl, hb5⟩
  have hk5 := kept hk4 hb5
  clear HT
  go_wp2_with fail
  go_ret2
  exact ⟨rfl, hk5⟩

set_option maxRecDepth 20000 in
set_option maxHeartbeats 2000000 in
theorem ofLogs_L2 (n m l k : Nat) (bk1 off1 bk2 off2 bz oz : Nat) (wh : Bool) (p x y old : Int) (ok : Bool) (T X Y : ByteArray) (ca cb cd : Nat) (w : World) (hnm : n < m) (hk : IsCut m k) (hnk : n ≤ k) (h200 : m ≤ 200) (h1 : 1 ≤ l) (hr : l ≤ 17592186043904) (hcb : m ≤ cb) (hcd : l ≤ cd) (hp : w.cell? ⟨bz, oz + (l - 1), none⟩ = some (.int .i64 p))
    (HR : Hid (∀ w1, Below w.heap.size w w1 → Calls Try.prog 33 #[.slice (some ⟨bk1, off1, none⟩) n ca] w1 fun e w' => e = .returned (.int .i64 old) ∧ Below w1.heap.size w1 w'))
    (HJ : Hid (∀ w1, Below w.heap.size w w1 → Calls Try.prog 46 #[.int .i64 (n : Int), .int .i64 (k : Int), .int .i64 old, .bool wh, .slice (some ⟨bz, oz, none⟩) (l - 1) cd] w1 fun e w' => e = .returned (.tuple #[.int .i64 x, .int .i64 y, .bool ok]) ∧ Below w1.heap.size w1 w'))
    (HN : Hid (∀ w1, Below w.heap.size w w1 → Calls Try.prog 61 #[.int .i64 y, .int .i64 p] w1 fun e w' => e = .returned (.string T) ∧ Below w1.heap.size w1 w'))
    (HT : Hid (∀ w1, Below w.heap.size w w1 → Calls Try.prog 56 #[.slice (some ⟨bk2, off2, none⟩) m cb] w1 fun e w' => e = .returned (.string T) ∧ Below w1.heap.size w1 w'))
    (HW : Hid (∀ w1, Below w.heap.size w w1 → Calls Try.prog 53 #[.slice (some ⟨bk1, off1, none⟩) n ca, .slice (some ⟨bk2, off2, none⟩) k cb, .bool wh, .slice (some ⟨bz, oz, none⟩) (l - 1) cd] w1 fun e w' => e = .returned (.tuple #[.string X, .string Y]) ∧ Below w1.heap.size w1 w')) :
    Calls Try.prog 53 #[.slice (some ⟨bk1, off1, none⟩) n ca, .slice (some ⟨bk2, off2, none⟩) m cb, .bool wh, .slice (some ⟨bz, oz, none⟩) l cd] w fun e w' => e = .returned (.tuple #[.string X, .string Y]) ∧ Below w.heap.size w w' := by
  have hka := hk.2.1
  have hkp := hk.pos
  have HK := hid hk
  have HP := hid hp
  have HCU := hid (fun w1 => cut_any m w1 (by omega) (by omega))
  have i0 : (n : Int) < (m : Int) := by omega
  have i1 : ((l : Int) == 0) = false := by simp; omega
  have i3 : (1 : Int) ≤ (l : Int) := by omega
  have b1 : (0 : Int) ≤ (k : Int) := by omega
  have b3 : (0 : Int) ≤ (l : Int) - 1 := by omega
  have b4 : (l : Int) - 1 ≤ (cd : Int) := by omega
  have b5 : (l : Int) - 1 < (l : Int) := by omega
  have hnk' : (n : Int) ≤ (k : Int) := by omega
  have b6 : (k : Int) ≤ (cb : Int) := by omega
  have b7 : k ≤ cb := by omega
  clear hk hkp hp
  go_enter Try.func53, Try.ntmps53
  have hp0 := HP.out
  go_wp2_with fail
  refine (HCU.out _).mono ?_
  rintro e w1 ⟨k', rfl, hk', rfl⟩
  obtain rfl : k' = k := hk'.unique HK.out
  clear hk' HCU hp0
  go_wp2_with fail
  refine (HR.out _ (Below.refl _ _)).mono ?_
  rintro e w2 ⟨rfl, hb2⟩
  clear HR
  go_wp2_with fail
  refine (HJ.out _ hb2).mono ?_
  rintro e w3 ⟨rfl, hb3⟩
  have hk3 := kept hb2 hb3
  clear HJ
  go_wp2_with fail
  refine (HN.out _ hk3).mono ?_
  rintro e w4 ⟨rfl, hb4⟩
  have hk4 := kept hk3 hb4
  clear HN
  go_wp2_with fail
  refine (HT.out _ hk4).mono ?_
  rintro e w5 ⟨rfl, hb5⟩
  have hk5 := kept hk4 hb5
  clear HT
  go_wp2_with fail
  go_region_held3 (fun w' => Below w5.heap.size w5 w') ((go_split_ands; first | exact (Below.refl _ _).drew | exact kept (by assumption) hb6)) (first | (go_at_call 53; refine (HW.out _ (by go_split_ands; exact kept hk5 (by assumption))).mono ?_; rintro e w6 ⟨rfl, hb6⟩))
  go_split_ands
  go_wp2_with fail
  go_ret2
  exact ⟨rfl, kept hk5 (by assumption)⟩

set_option maxRecDepth 20000 in
set_option maxHeartbeats 2000000 in
theorem ofLogs_R1 (n m l k : Nat) (bk1 off1 bk2 off2 bz oz : Nat) (wh : Bool) (p x y old : Int) (ok : Bool) (S T : ByteArray) (ca cb cd : Nat) (w : World) (hnm : n < m) (hk : IsCut m k) (hnk : k < n) (h200 : m ≤ 200) (h1 : 1 ≤ l) (hr : l ≤ 17592186043904) (hca : n ≤ ca) (hcb : m ≤ cb) (hcd : l ≤ cd) (hp : w.cell? ⟨bz, oz + (l - 1), none⟩ = some (.int .i64 p))
    (HR : Hid (∀ w1, Below w.heap.size w w1 → Calls Try.prog 33 #[.slice (some ⟨bk1, off1, none⟩) n ca] w1 fun e w' => e = .returned (.int .i64 old) ∧ Below w1.heap.size w1 w'))
    (HJ : Hid (∀ w1, Below w.heap.size w w1 → Calls Try.prog 46 #[.int .i64 ((n : Int) - (k : Int)), .int .i64 ((m : Int) - (k : Int)), .int .i64 old, .bool false, .slice (some ⟨bz, oz, none⟩) (l - 1) cd] w1 fun e w' => e = .returned (.tuple #[.int .i64 x, .int .i64 y, .bool ok]) ∧ Below w1.heap.size w1 w'))
    (HN : Hid (∀ w1, Below w.heap.size w w1 → Calls Try.prog 61 #[.int .i64 p, .int .i64 x] w1 fun e w' => e = .returned (.string S) ∧ Below w1.heap.size w1 w'))
    (HT : Hid (∀ w1, Below w.heap.size w w1 → Calls Try.prog 56 #[.slice (some ⟨bk1, off1, none⟩) n ca] w1 fun e w' => e = .returned (.string T) ∧ Below w1.heap.size w1 w'))
    (hne : S ≠ T) :
    Calls Try.prog 53 #[.slice (some ⟨bk1, off1, none⟩) n ca, .slice (some ⟨bk2, off2, none⟩) m cb, .bool wh, .slice (some ⟨bz, oz, none⟩) l cd] w fun e w' => e = .returned (.tuple #[.string S, .string T]) ∧ Below w.heap.size w w' := by
  have hka := hk.2.1
  have hkp := hk.pos
  have HK := hid hk
  have HP := hid hp
  have HCU := hid (fun w1 => cut_any m w1 (by omega) (by omega))
  have i0 : (n : Int) < (m : Int) := by omega
  have i1 : ((l : Int) == 0) = false := by simp; omega
  have i3 : (1 : Int) ≤ (l : Int) := by omega
  have b1 : (0 : Int) ≤ (k : Int) := by omega
  have b3 : (0 : Int) ≤ (l : Int) - 1 := by omega
  have b4 : (l : Int) - 1 ≤ (cd : Int) := by omega
  have b5 : (l : Int) - 1 < (l : Int) := by omega
  have hnk' : (k : Int) < (n : Int) := by omega
  have b6 : (k : Int) ≤ (n : Int) := by omega
  have b7 : (k : Int) ≤ (m : Int) := by omega
  have b8 : (k : Int) ≤ (ca : Int) := by omega
  have b9 : (k : Int) ≤ (cb : Int) := by omega
  have b10 : k ≤ ca := by omega
  have b11 : k ≤ cb := by omega
  have b12 : (n : Int) ≤ (ca : Int) := by omega
  have b13 : (m : Int) ≤ (cb : Int) := by omega
  have b14 : ¬ ca = k := by omega
  have b15 : ¬ cb = k := by omega
  have hbn := bne_str hne
  clear hk hkp hp
  go_enter Try.func53, Try.ntmps53
  have hp0 := HP.out
  go_wp2_with fail
  refine (HCU.out _).mono ?_
  rintro e w1 ⟨k', rfl, hk', rfl⟩
  obtain rfl : k' = k := hk'.unique HK.out
  clear hk' HCU hp0
  go_wp2_with fail
  refine (HR.out _ (Below.refl _ _)).mono ?_
  rintro e w2 ⟨rfl, hb2⟩
  clear HR
  go_wp2_with fail
  refine (HJ.out _ hb2).mono ?_
  rintro e w3 ⟨rfl, hb3⟩
  have hk3 := kept hb2 hb3
  clear HJ
  go_wp2_with fail
  refine (HN.out _ hk3).mono ?_
  rintro e w4 ⟨rfl, hb4⟩
  have hk4 := kept hk3 hb4
  clear HN
  go_wp2_with fail
  refine (HT.out _ hk4).mono ?_
  rintro e w5 ⟨rfl, hb5⟩
  have hk5 := kept hk4 hb5
  clear HT
  go_wp2_with fail
  go_ret2
  exact ⟨rfl, hk5⟩

set_option maxRecDepth 20000 in
set_option maxHeartbeats 2000000 in
theorem ofLogs_R2 (n m l k : Nat) (bk1 off1 bk2 off2 bz oz : Nat) (wh : Bool) (p x y old : Int) (ok : Bool) (S T U : ByteArray) (ca cb cd : Nat) (w : World) (hnm : n < m) (hk : IsCut m k) (hnk : k < n) (h200 : m ≤ 200) (h1 : 1 ≤ l) (hr : l ≤ 17592186043904) (hca : n ≤ ca) (hcb : m ≤ cb) (hcd : l ≤ cd) (hp : w.cell? ⟨bz, oz + (l - 1), none⟩ = some (.int .i64 p))
    (HR : Hid (∀ w1, Below w.heap.size w w1 → Calls Try.prog 33 #[.slice (some ⟨bk1, off1, none⟩) n ca] w1 fun e w' => e = .returned (.int .i64 old) ∧ Below w1.heap.size w1 w'))
    (HJ : Hid (∀ w1, Below w.heap.size w w1 → Calls Try.prog 46 #[.int .i64 ((n : Int) - (k : Int)), .int .i64 ((m : Int) - (k : Int)), .int .i64 old, .bool false, .slice (some ⟨bz, oz, none⟩) (l - 1) cd] w1 fun e w' => e = .returned (.tuple #[.int .i64 x, .int .i64 y, .bool ok]) ∧ Below w1.heap.size w1 w'))
    (HN : Hid (∀ w1, Below w.heap.size w w1 → Calls Try.prog 61 #[.int .i64 p, .int .i64 x] w1 fun e w' => e = .returned (.string U) ∧ Below w1.heap.size w1 w'))
    (HT : Hid (∀ w1, Below w.heap.size w w1 → Calls Try.prog 56 #[.slice (some ⟨bk1, off1, none⟩) n ca] w1 fun e w' => e = .returned (.string U) ∧ Below w1.heap.size w1 w'))
    (HN2 : Hid (∀ w1, Below w.heap.size w w1 → Calls Try.prog 61 #[.int .i64 p, .int .i64 y] w1 fun e w' => e = .returned (.string S) ∧ Below w1.heap.size w1 w'))
    (HT2 : Hid (∀ w1, Below w.heap.size w w1 → Calls Try.prog 56 #[.slice (some ⟨bk2, off2, none⟩) m cb] w1 fun e w' => e = .returned (.string T) ∧ Below w1.heap.size w1 w'))
    (hne : S ≠ T) :
    Calls Try.prog 53 #[.slice (some ⟨bk1, off1, none⟩) n ca, .slice (some ⟨bk2, off2, none⟩) m cb, .bool wh, .slice (some ⟨bz, oz, none⟩) l cd] w fun e w' => e = .returned (.tuple #[.string S, .string T]) ∧ Below w.heap.size w w' := by
  have hka := hk.2.1
  have hkp := hk.pos
  have HK := hid hk
  have HP := hid hp
  have HCU := hid (fun w1 => cut_any m w1 (by omega) (by omega))
  have i0 : (n : Int) < (m : Int) := by omega
  have i1 : ((l : Int) == 0) = false := by simp; omega
  have i3 : (1 : Int) ≤ (l : Int) := by omega
  have b1 : (0 : Int) ≤ (k : Int) := by omega
  have b3 : (0 : Int) ≤ (l : Int) - 1 := by omega
  have b4 : (l : Int) - 1 ≤ (cd : Int) := by omega
  have b5 : (l : Int) - 1 < (l : Int) := by omega
  have hnk' : (k : Int) < (n : Int) := by omega
  have b6 : (k : Int) ≤ (n : Int) := by omega
  have b7 : (k : Int) ≤ (m : Int) := by omega
  have b8 : (k : Int) ≤ (ca : Int) := by omega
  have b9 : (k : Int) ≤ (cb : Int) := by omega
  have b10 : k ≤ ca := by omega
  have b11 : k ≤ cb := by omega
  have b12 : (n : Int) ≤ (ca : Int) := by omega
  have b13 : (m : Int) ≤ (cb : Int) := by omega
  have b14 : ¬ ca = k := by omega
  have b15 : ¬ cb = k := by omega
  have hbn := bne_str hne
  clear hk hkp hp
  go_enter Try.func53, Try.ntmps53
  have hp0 := HP.out
  go_wp2_with fail
  refine (HCU.out _).mono ?_
  rintro e w1 ⟨k', rfl, hk', rfl⟩
  obtain rfl : k' = k := hk'.unique HK.out
  clear hk' HCU hp0
  go_wp2_with fail
  refine (HR.out _ (Below.refl _ _)).mono ?_
  rintro e w2 ⟨rfl, hb2⟩
  clear HR
  go_wp2_with fail
  refine (HJ.out _ hb2).mono ?_
  rintro e w3 ⟨rfl, hb3⟩
  have hk3 := kept hb2 hb3
  clear HJ
  go_wp2_with fail
  refine (HN.out _ hk3).mono ?_
  rintro e w4 ⟨rfl, hb4⟩
  have hk4 := kept hk3 hb4
  clear HN
  go_wp2_with fail
  refine (HT.out _ hk4).mono ?_
  rintro e w5 ⟨rfl, hb5⟩
  have hk5 := kept hk4 hb5
  clear HT
  go_wp2_with fail
  refine (HN2.out _ hk5).mono ?_
  rintro e w6 ⟨rfl, hb6⟩
  have hk6 := kept hk5 hb6
  clear HN2
  go_wp2_with fail
  refine (HT2.out _ hk6).mono ?_
  rintro e w7 ⟨rfl, hb7⟩
  have hk7 := kept hk6 hb7
  clear HT2
  go_wp2_with fail
  go_ret2
  exact ⟨rfl, hk7⟩

set_option maxRecDepth 20000 in
set_option maxHeartbeats 2000000 in
theorem ofLogs_R3 (n m l k : Nat) (bk1 off1 bk2 off2 bz oz : Nat) (wh : Bool) (p x y old : Int) (ok : Bool) (T U X Y : ByteArray) (ca cb cd : Nat) (w : World) (hnm : n < m) (hk : IsCut m k) (hnk : k < n) (h200 : m ≤ 200) (h1 : 1 ≤ l) (hr : l ≤ 17592186043904) (hca : n ≤ ca) (hcb : m ≤ cb) (hcd : l ≤ cd) (hp : w.cell? ⟨bz, oz + (l - 1), none⟩ = some (.int .i64 p))
    (HR : Hid (∀ w1, Below w.heap.size w w1 → Calls Try.prog 33 #[.slice (some ⟨bk1, off1, none⟩) n ca] w1 fun e w' => e = .returned (.int .i64 old) ∧ Below w1.heap.size w1 w'))
    (HJ : Hid (∀ w1, Below w.heap.size w w1 → Calls Try.prog 46 #[.int .i64 ((n : Int) - (k : Int)), .int .i64 ((m : Int) - (k : Int)), .int .i64 old, .bool false, .slice (some ⟨bz, oz, none⟩) (l - 1) cd] w1 fun e w' => e = .returned (.tuple #[.int .i64 x, .int .i64 y, .bool ok]) ∧ Below w1.heap.size w1 w'))
    (HN : Hid (∀ w1, Below w.heap.size w w1 → Calls Try.prog 61 #[.int .i64 p, .int .i64 x] w1 fun e w' => e = .returned (.string U) ∧ Below w1.heap.size w1 w'))
    (HT : Hid (∀ w1, Below w.heap.size w w1 → Calls Try.prog 56 #[.slice (some ⟨bk1, off1, none⟩) n ca] w1 fun e w' => e = .returned (.string U) ∧ Below w1.heap.size w1 w'))
    (HN2 : Hid (∀ w1, Below w.heap.size w w1 → Calls Try.prog 61 #[.int .i64 p, .int .i64 y] w1 fun e w' => e = .returned (.string T) ∧ Below w1.heap.size w1 w'))
    (HT2 : Hid (∀ w1, Below w.heap.size w w1 → Calls Try.prog 56 #[.slice (some ⟨bk2, off2, none⟩) m cb] w1 fun e w' => e = .returned (.string T) ∧ Below w1.heap.size w1 w'))
    (HB : Hid (∀ w1, Below w.heap.size w w1 → Calls Try.prog 52 #[.slice (some ⟨bk1, off1, none⟩) k ca, .slice (some ⟨bk2, off2, none⟩) k cb] w1 fun e w' => e = .returned (.bool false) ∧ Below w1.heap.size w1 w'))
    (HW : Hid (∀ w1, Below w.heap.size w w1 → Calls Try.prog 68 #[.slice (some ⟨bk1, off1, none⟩) k ca, .slice (some ⟨bk2, off2, none⟩) k cb] w1 fun e w' => e = .returned (.tuple #[.string X, .string Y]) ∧ Below w1.heap.size w1 w')) :
    Calls Try.prog 53 #[.slice (some ⟨bk1, off1, none⟩) n ca, .slice (some ⟨bk2, off2, none⟩) m cb, .bool wh, .slice (some ⟨bz, oz, none⟩) l cd] w fun e w' => e = .returned (.tuple #[.string X, .string Y]) ∧ Below w.heap.size w w' := by
  have hka := hk.2.1
  have hkp := hk.pos
  have HK := hid hk
  have HP := hid hp
  have HCU := hid (fun w1 => cut_any m w1 (by omega) (by omega))
  have i0 : (n : Int) < (m : Int) := by omega
  have i1 : ((l : Int) == 0) = false := by simp; omega
  have i3 : (1 : Int) ≤ (l : Int) := by omega
  have b1 : (0 : Int) ≤ (k : Int) := by omega
  have b3 : (0 : Int) ≤ (l : Int) - 1 := by omega
  have b4 : (l : Int) - 1 ≤ (cd : Int) := by omega
  have b5 : (l : Int) - 1 < (l : Int) := by omega
  have hnk' : (k : Int) < (n : Int) := by omega
  have b6 : (k : Int) ≤ (n : Int) := by omega
  have b7 : (k : Int) ≤ (m : Int) := by omega
  have b8 : (k : Int) ≤ (ca : Int) := by omega
  have b9 : (k : Int) ≤ (cb : Int) := by omega
  have b10 : k ≤ ca := by omega
  have b11 : k ≤ cb := by omega
  have b12 : (n : Int) ≤ (ca : Int) := by omega
  have b13 : (m : Int) ≤ (cb : Int) := by omega
  have b14 : ¬ ca = k := by omega
  have b15 : ¬ cb = k := by omega
  clear hk hkp hp
  go_enter Try.func53, Try.ntmps53
  have hp0 := HP.out
  go_wp2_with fail
  refine (HCU.out _).mono ?_
  rintro e w1 ⟨k', rfl, hk', rfl⟩
  obtain rfl : k' = k := hk'.unique HK.out
  clear hk' HCU hp0
  go_wp2_with fail
  refine (HR.out _ (Below.refl _ _)).mono ?_
  rintro e w2 ⟨rfl, hb2⟩
  clear HR
  go_wp2_with fail
  refine (HJ.out _ hb2).mono ?_
  rintro e w3 ⟨rfl, hb3⟩
  have hk3 := kept hb2 hb3
  clear HJ
  go_wp2_with fail
  refine (HN.out _ hk3).mono ?_
  rintro e w4 ⟨rfl, hb4⟩
  have hk4 := kept hk3 hb4
  clear HN
  go_wp2_with fail
  refine (HT.out _ hk4).mono ?_
  rintro e w5 ⟨rfl, hb5⟩
  have hk5 := kept hk4 hb5
  clear HT
  go_wp2_with fail
  refine (HN2.out _ hk5).mono ?_
  rintro e w6 ⟨rfl, hb6⟩
  have hk6 := kept hk5 hb6
  clear HN2
  go_wp2_with fail
  refine (HT2.out _ hk6).mono ?_
  rintro e w7 ⟨rfl, hb7⟩
  have hk7 := kept hk6 hb7
  clear HT2
  go_wp2_with fail
  go_region_held3 (fun w' => Below w7.heap.size w7 w') ((go_split_ands; first | exact (Below.refl _ _).drew | exact kept (by assumption) hb8)) (first | (go_at_call 52; refine (HB.out _ (by go_split_ands; exact kept hk7 (by assumption))).mono ?_; rintro e w8 ⟨rfl, hb8⟩))
  go_split_ands
  have hk8 : Below w1.heap.size w1 w8 := kept hk7 (by assumption)
  clear HB
  go_wp2_with fail
  go_region_held3 (fun w' => Below w8.heap.size w8 w') ((go_split_ands; first | exact (Below.refl _ _).drew | exact kept (by assumption) hb9)) (first | (go_at_call 68; refine (HW.out _ (by go_split_ands; exact kept hk8 (by assumption))).mono ?_; rintro e w9 ⟨rfl, hb9⟩))
  go_split_ands
  go_wp2_with fail
  go_ret2
  exact ⟨rfl, kept hk8 (by assumption)⟩

set_option maxRecDepth 20000 in
set_option maxHeartbeats 2000000 in
theorem ofLogs_R4 (n m l k : Nat) (bk1 off1 bk2 off2 bz oz : Nat) (wh : Bool) (p x y old : Int) (ok : Bool) (T U X Y : ByteArray) (ca cb cd : Nat) (w : World) (hnm : n < m) (hk : IsCut m k) (hnk : k < n) (h200 : m ≤ 200) (h1 : 1 ≤ l) (hr : l ≤ 17592186043904) (hca : n ≤ ca) (hcb : m ≤ cb) (hcd : l ≤ cd) (hp : w.cell? ⟨bz, oz + (l - 1), none⟩ = some (.int .i64 p))
    (HR : Hid (∀ w1, Below w.heap.size w w1 → Calls Try.prog 33 #[.slice (some ⟨bk1, off1, none⟩) n ca] w1 fun e w' => e = .returned (.int .i64 old) ∧ Below w1.heap.size w1 w'))
    (HJ : Hid (∀ w1, Below w.heap.size w w1 → Calls Try.prog 46 #[.int .i64 ((n : Int) - (k : Int)), .int .i64 ((m : Int) - (k : Int)), .int .i64 old, .bool false, .slice (some ⟨bz, oz, none⟩) (l - 1) cd] w1 fun e w' => e = .returned (.tuple #[.int .i64 x, .int .i64 y, .bool ok]) ∧ Below w1.heap.size w1 w'))
    (HN : Hid (∀ w1, Below w.heap.size w w1 → Calls Try.prog 61 #[.int .i64 p, .int .i64 x] w1 fun e w' => e = .returned (.string U) ∧ Below w1.heap.size w1 w'))
    (HT : Hid (∀ w1, Below w.heap.size w w1 → Calls Try.prog 56 #[.slice (some ⟨bk1, off1, none⟩) n ca] w1 fun e w' => e = .returned (.string U) ∧ Below w1.heap.size w1 w'))
    (HN2 : Hid (∀ w1, Below w.heap.size w w1 → Calls Try.prog 61 #[.int .i64 p, .int .i64 y] w1 fun e w' => e = .returned (.string T) ∧ Below w1.heap.size w1 w'))
    (HT2 : Hid (∀ w1, Below w.heap.size w w1 → Calls Try.prog 56 #[.slice (some ⟨bk2, off2, none⟩) m cb] w1 fun e w' => e = .returned (.string T) ∧ Below w1.heap.size w1 w'))
    (HB : Hid (∀ w1, Below w.heap.size w w1 → Calls Try.prog 52 #[.slice (some ⟨bk1, off1, none⟩) k ca, .slice (some ⟨bk2, off2, none⟩) k cb] w1 fun e w' => e = .returned (.bool true) ∧ Below w1.heap.size w1 w'))
    (HW : Hid (∀ w1, Below w.heap.size w w1 → Calls Try.prog 53 #[.slice (some ⟨bk1, off1 + k, none⟩) (n - k) (ca - k), .slice (some ⟨bk2, off2 + k, none⟩) (m - k) (cb - k), .bool false, .slice (some ⟨bz, oz, none⟩) (l - 1) cd] w1 fun e w' => e = .returned (.tuple #[.string X, .string Y]) ∧ Below w1.heap.size w1 w')) :
    Calls Try.prog 53 #[.slice (some ⟨bk1, off1, none⟩) n ca, .slice (some ⟨bk2, off2, none⟩) m cb, .bool wh, .slice (some ⟨bz, oz, none⟩) l cd] w fun e w' => e = .returned (.tuple #[.string X, .string Y]) ∧ Below w.heap.size w w' := by
  have hka := hk.2.1
  have hkp := hk.pos
  have HK := hid hk
  have HP := hid hp
  have HCU := hid (fun w1 => cut_any m w1 (by omega) (by omega))
  have i0 : (n : Int) < (m : Int) := by omega
  have i1 : ((l : Int) == 0) = false := by simp; omega
  have i3 : (1 : Int) ≤ (l : Int) := by omega
  have b1 : (0 : Int) ≤ (k : Int) := by omega
  have b3 : (0 : Int) ≤ (l : Int) - 1 := by omega
  have b4 : (l : Int) - 1 ≤ (cd : Int) := by omega
  have b5 : (l : Int) - 1 < (l : Int) := by omega
  have hnk' : (k : Int) < (n : Int) := by omega
  have b6 : (k : Int) ≤ (n : Int) := by omega
  have b7 : (k : Int) ≤ (m : Int) := by omega
  have b8 : (k : Int) ≤ (ca : Int) := by omega
  have b9 : (k : Int) ≤ (cb : Int) := by omega
  have b10 : k ≤ ca := by omega
  have b11 : k ≤ cb := by omega
  have b12 : (n : Int) ≤ (ca : Int) := by omega
  have b13 : (m : Int) ≤ (cb : Int) := by omega
  have b14 : ¬ ca = k := by omega
  have b15 : ¬ cb = k := by omega
  clear hk hkp hp
  go_enter Try.func53, Try.ntmps53
  have hp0 := HP.out
  go_wp2_with fail
  refine (HCU.out _).mono ?_
  rintro e w1 ⟨k', rfl, hk', rfl⟩
  obtain rfl : k' = k := hk'.unique HK.out
  clear hk' HCU hp0
  go_wp2_with fail
  refine (HR.out _ (Below.refl _ _)).mono ?_
  rintro e w2 ⟨rfl, hb2⟩
  clear HR
  go_wp2_with fail
  refine (HJ.out _ hb2).mono ?_
  rintro e w3 ⟨rfl, hb3⟩
  have hk3 := kept hb2 hb3
  clear HJ
  go_wp2_with fail
  refine (HN.out _ hk3).mono ?_
  rintro e w4 ⟨rfl, hb4⟩
  have hk4 := kept hk3 hb4
  clear HN
  go_wp2_with fail
  refine (HT.out _ hk4).mono ?_
  rintro e w5 ⟨rfl, hb5⟩
  have hk5 := kept hk4 hb5
  clear HT
  go_wp2_with fail
  refine (HN2.out _ hk5).mono ?_
  rintro e w6 ⟨rfl, hb6⟩
  have hk6 := kept hk5 hb6
  clear HN2
  go_wp2_with fail
  refine (HT2.out _ hk6).mono ?_
  rintro e w7 ⟨rfl, hb7⟩
  have hk7 := kept hk6 hb7
  clear HT2
  go_wp2_with fail
  go_region_held3 (fun w' => Below w7.heap.size w7 w') ((go_split_ands; first | exact (Below.refl _ _).drew | exact kept (by assumption) hb8)) (first | (go_at_call 52; refine (HB.out _ (by go_split_ands; exact kept hk7 (by assumption))).mono ?_; rintro e w8 ⟨rfl, hb8⟩))
  go_split_ands
  have hk8 : Below w1.heap.size w1 w8 := kept hk7 (by assumption)
  clear HB
  go_wp2_with fail
  go_region_held3 (fun w' => Below w8.heap.size w8 w') ((go_split_ands; first | exact (Below.refl _ _).drew | exact kept (by assumption) hb9)) (first | (go_at_call 53; refine (HW.out _ (by go_split_ands; exact kept hk8 (by assumption))).mono ?_; rintro e w9 ⟨rfl, hb9⟩))
  go_split_ands
  go_wp2_with fail
  go_ret2
  exact ⟨rfl, kept hk8 (by assumption)⟩

end Go.Proofs.Ytedblhcehlbbmaa

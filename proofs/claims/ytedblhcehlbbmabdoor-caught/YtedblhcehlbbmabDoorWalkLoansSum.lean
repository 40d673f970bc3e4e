/-
  CONTRACTS: loans.Text, Sum: the loans' sum, by halves.
-/
import Derived.Test.YtedblhcehlbbmabDoorWalkStateText
import Derived.WalkKit
import Derived.WalkSpells
import Derived.WalkLawsBesides
namespace Go.Proofs.YtedblhcehlbbmabDoor
open Go.RowKit

/-- In block b, from cell o on, lie n states: f j, f (j + 1) .. -/
def Sts (w : World) (b o n : Nat) (f : Nat → St) (j : Nat) : Prop := ∀ i, i < n →
  w.cell? ⟨b, o + i * 6, none⟩ = some (.int .i64 (f (j + i)).principal) ∧ w.cell? ⟨b, o + i * 6 + 1, none⟩ = some (.int .i64 (f (j + i)).due) ∧ w.cell? ⟨b, o + i * 6 + 2, none⟩ = some (.int .i64 (f (j + i)).rate) ∧
  w.cell? ⟨b, o + i * 6 + 3, none⟩ = some (.int .i64 (f (j + i)).day) ∧ w.cell? ⟨b, o + i * 6 + 4, none⟩ = some (.int .i64 (f (j + i)).spare) ∧ w.cell? ⟨b, o + i * 6 + 5, none⟩ = some (.int .i64 (f (j + i)).count)
theorem Sts.kept {w w' : World} {b o n j : Nat} {f : Nat → St} (h : Sts w b o n f j) (hb : Below w.heap.size w w') : Sts w' b o n f j := fun i hi => by
  obtain ⟨h0, h1, h2, h3, h4, h5⟩ := h i hi
  exact ⟨cell_kept h0 hb, cell_kept h1 hb, cell_kept h2 hb, cell_kept h3 hb, cell_kept h4 hb, cell_kept h5 hb⟩
theorem Sts.first {w : World} {b o n j : Nat} {f : Nat → St} (m : Nat) (hm : m ≤ n) (h : Sts w b o n f j) : Sts w b o m f j := fun i hi => h i (by omega)
theorem Sts.rest {w : World} {b o n j : Nat} {f : Nat → St} (m : Nat) (h : Sts w b o n f j) : Sts w b (o + m * 6) (n - m) f (j + m) := fun i hi => by
  have := h (m + i) (by omega)
  rw [show o + (m + i) * 6 = o + m * 6 + i * 6 by omega, show j + (m + i) = j + m + i by omega] at this
  exact this
/-- The text at depth d, the j-th. -/
def mapT (f : Nat → St) : Nat → Nat → List UInt8
  | 0, j => stT (f j)
  | d + 1, j => pairT (mapL f d (2 * j)) (mapL f d (2 * j + 1))
theorem mapL_T (f : Nat → St) (d j : Nat) : mapL f d j = sm (mapT f d j) := by cases d <;> rfl
theorem length_mapT (f : Nat → St) (d j : Nat) (h : ∀ j, St64 (f j)) : (mapT f d j).length ≤ 133 := by
  cases d with
  | zero => exact length_stT _ (h j)
  | succ d => rw [mapT, length_pairT]; omega

theorem pow_two_mul (j d : Nat) : j * 2 ^ (d + 1) = 2 * j * 2 ^ d := by rw [Nat.pow_succ, Nat.mul_comm (2 ^ d) 2, ← Nat.mul_assoc, Nat.mul_comm j 2]

set_option maxHeartbeats 2000000 in
theorem sumS_of (a : Option Addr) (n cap : Nat) (t : List UInt8) (w : World) (hl : t.length ≤ 133)
    (h : Calls Tryd.prog 42 #[.slice a n cap] w fun e w' => e = .returned (.string (bs t)) ∧ Below w.heap.size w w') :
    Calls Tryd.prog 24 #[.slice a n cap] w fun e w' => e = .returned (.int .i64 (sm t)) ∧ Below w.heap.size w w' := by
  have HT := hid h
  have HS : Hid (∀ w', Calls Tryd.prog 26 #[.string (bs t)] w' fun e w2 => e = .returned (.int .i64 (sm t)) ∧ w2 = w') := fun w' => by
    have := sum_any (bs t) w' (by rw [size_bs]; unfold maxLen; omega)
    rw [toList_bs] at this
    exact this
  generalize bs t = u at *
  generalize sm t = y at *
  clear h
  go_enter Tryd.func24, Tryd.ntmps24
  go_wp2_with fail
  refine HT.out.mono ?_
  rintro e w1 ⟨rfl, hb1⟩
  go_wp2_with fail
  refine (HS.out _).mono ?_
  rintro e w2 ⟨rfl, rfl⟩
  go_wp2_with fail
  go_ret
  exact ⟨rfl, hb1⟩

set_option maxHeartbeats 4000000 in
theorem textS_any (f : Nat → St) (hf : ∀ j, St64 (f j)) (d : Nat) (hd : d ≤ 6) : ∀ (b o cap j : Nat) (w : World), Sts w b o (2 ^ d) f (j * 2 ^ d) → 2 ^ d ≤ cap → cap ≤ maxLen → TabOk w →
    Calls Tryd.prog 42 #[.slice (some ⟨b, o, none⟩) (2 ^ d) cap] w fun e w' => e = .returned (.string (bs (mapT f d j))) ∧ Below w.heap.size w w' := by
  induction d with
  | zero =>
    intro b o cap j w hs hcap hmax ht
    obtain ⟨h0, h1, h2, h3, h4, h5⟩ := hs 0 (by omega)
    simp only [Nat.zero_mul, Nat.add_zero, Nat.pow_zero, Nat.mul_one] at h0 h1 h2 h3 h4 h5 ⊢
    have HT := hid (stateText_any (f j) w (hf j) ht)
    unfold stV at HT
    rw [show mapT f 0 j = stT (f j) from rfl]
    generalize bs (stT (f j)) = t at *
    generalize f j = s at *
    clear hs hcap ht
    go_enter Tryd.func42, Tryd.ntmps42
    go_wp2_with fail
    refine HT.out.mono ?_
    rintro e w1 ⟨rfl, hb1⟩
    go_wp2_with fail
    go_ret
    exact ⟨rfl, hb1⟩
  | succ d ih =>
    intro b o cap j w hs hcap hmax ht
    have hp : 2 ^ (d + 1) = 2 ^ d + 2 ^ d := by rw [Nat.pow_succ]; omega
    have hp1 : 1 ≤ 2 ^ d := Nat.one_le_two_pow
    have hp2 : 2 ^ d ≤ 32 := by
      have : 2 ^ d ≤ 2 ^ 5 := Nat.pow_le_pow_right (by omega) (by omega)
      omega
    have HS1 : Hid (∀ wz, Below w.heap.size w wz → Calls Tryd.prog 24 #[.slice (some ⟨b, o, none⟩) (2 ^ d) cap] wz fun e w' => e = .returned (.int .i64 (mapL f d (2 * j))) ∧ Below wz.heap.size wz w') := fun wz hz => by
      rw [mapL_T]
      refine sumS_of _ _ _ _ wz (length_mapT f d _ hf) (ih (by omega) b o cap (2 * j) wz ?_ (by omega) hmax (ht.kept hz))
      have := (hs.kept hz).first (2 ^ d) (by omega)
      rw [pow_two_mul] at this
      exact this
    have HS2 : Hid (∀ wz, Below w.heap.size w wz → Calls Tryd.prog 24 #[.slice (some ⟨b, o + 2 ^ d * 6, none⟩) (2 ^ d) (cap - 2 ^ d)] wz fun e w' => e = .returned (.int .i64 (mapL f d (2 * j + 1))) ∧ Below wz.heap.size wz w') := fun wz hz => by
      rw [mapL_T]
      refine sumS_of _ _ _ _ wz (length_mapT f d _ hf) (ih (by omega) b (o + 2 ^ d * 6) (cap - 2 ^ d) (2 * j + 1) wz ?_ (by omega) (by omega) (ht.kept hz))
      have := (hs.kept hz).rest (2 ^ d)
      rw [show 2 ^ (d + 1) - 2 ^ d = 2 ^ d by omega, show j * 2 ^ (d + 1) + 2 ^ d = (2 * j + 1) * 2 ^ d by rw [pow_two_mul, Nat.add_mul, Nat.one_mul]] at this
      exact this
    have b1 := mapL_bd f d (2 * j)
    have b2 := mapL_bd f d (2 * j + 1)
    have HP := hid (fun w => pairText_any (mapL f d (2 * j)) (mapL f d (2 * j + 1)) w b1 b2)
    rw [show mapT f (d + 1) j = pairT (mapL f d (2 * j)) (mapL f d (2 * j + 1)) from rfl]
    generalize mapL f d (2 * j) = x1 at *
    generalize mapL f d (2 * j + 1) = x2 at *
    generalize bs (pairT x1 x2) = t at *
    rw [hp] at hcap ⊢
    generalize 2 ^ d = m at *
    clear hs ih ht hp b1 b2
    have HMX := hid hmax
    clear hmax
    go_enter Tryd.func42, Tryd.ntmps42
    go_wp2_with fail
    rw [show (m + m) / 2 = m by omega, show ((m : Int) + (m : Int)) / 2 = (m : Int) by omega]
    refine (HS1.out _ (Below.refl _ _)).mono ?_
    rintro e w1 ⟨rfl, hb1⟩
    have i1 : (0 : Int) ≤ (m : Int) := by omega
    have i2 : (m : Int) ≤ (m : Int) + (m : Int) := by omega
    have i3 : ¬ cap = m := by omega
    have i4 : (m : Int) + (m : Int) ≤ (cap : Int) := by omega
    go_wp2_with fail
    refine (HS2.out _ hb1).mono ?_
    rintro e w2 ⟨rfl, hb2⟩
    go_wp2_with fail
    refine (HP.out _).mono ?_
    rintro e w3 ⟨rfl, hb3⟩
    go_wp2_with fail
    go_ret
    exact ⟨rfl, kept (kept hb1 hb2) hb3⟩

end Go.Proofs.YtedblhcehlbbmabDoor

/-
  CONTRACTS: lenderref.Within.
-/
import Derived.Test.YtedblhcehlbbmaaWalkWithin
import Derived.WalkKit
import Derived.WalkSpells
import Derived.WalkLawsBesides
namespace Go.Proofs.Ytedblhcehlbbmaa
open Go.RowKit

theorem withinB_bad {root n i : Int} {e : ByteArray} {zs : List Int} (h : bdL zs = false) : withinB root n i e zs = false := by
  unfold withinB leadO
  rw [h]
  simp

set_option maxHeartbeats 2000000 in
theorem rwithin_out (root n i : Int) (l : Nat) (ent : ByteArray) (a : Option Addr) (zs : List Int) (cap : Nat) (w : World) (hs : ent.size ≤ maxLen) (hl : zs.length = l) (hr : l ≤ 17592186043904) (hz : Ints w a zs)
    (h : ¬ (bdL zs = true ∧ 1 ≤ n ∧ n ≤ 200 ∧ 0 ≤ i ∧ i < n ∧ ent.size ≤ 40)) :
    Calls Try.prog 22 #[.int .i64 root, .int .i64 n, .int .i64 i, .string ent, .slice a l cap] w fun e w' => e = .returned (.bool (withinB root n i ent zs)) ∧ w' = w := by
  have HC := hid (sums_any l a zs cap w hl hr hz)
  unfold maxLen at hs
  clear hl hz
  cases hb : bdL zs with
  | false =>
    have HF := hid (withinB_bad (root := root) (n := n) (i := i) (e := ent) hb)
    rw [hb] at HC
    clear h hb
    go_enter Try.func22, Try.ntmps22
    go_wp2_with fail
    refine HC.out.mono ?_
    rintro e w1 ⟨rfl, rfl⟩
    go_wp2_with fail
    go_ret
    exact ⟨by rw [HF.out]; rfl, rfl⟩
  | true =>
    have h' : ¬ (1 ≤ n ∧ n ≤ 200 ∧ 0 ≤ i ∧ i < n ∧ ent.size ≤ 40) := fun hh => h ⟨hb, hh⟩
    have HF := hid (withinB_out (root := root) (zs := zs) h')
    have H := hid h'
    rw [hb] at HC
    clear h hb h'
    by_cases h1 : n < 1
    · go_enter Try.func22, Try.ntmps22
      go_wp2_with fail
      refine HC.out.mono ?_
      rintro e w1 ⟨rfl, rfl⟩
      go_wp2_with fail
      go_ret
      exact ⟨by rw [HF.out]; rfl, rfl⟩
    by_cases h2 : 200 < n
    · go_enter Try.func22, Try.ntmps22
      go_wp2_with fail
      refine HC.out.mono ?_
      rintro e w1 ⟨rfl, rfl⟩
      go_wp2_with fail
      go_ret
      exact ⟨by rw [HF.out]; rfl, rfl⟩
    by_cases h3 : i < 0
    · go_enter Try.func22, Try.ntmps22
      go_wp2_with fail
      refine HC.out.mono ?_
      rintro e w1 ⟨rfl, rfl⟩
      go_wp2_with fail
      go_ret
      exact ⟨by rw [HF.out]; rfl, rfl⟩
    by_cases h4 : n ≤ i
    · go_enter Try.func22, Try.ntmps22
      go_wp2_with fail
      refine HC.out.mono ?_
      rintro e w1 ⟨rfl, rfl⟩
      go_wp2_with fail
      go_ret
      exact ⟨by rw [HF.out]; rfl, rfl⟩
    have h5 : (40 : Int) < (ent.size : Int) := by have := H.out; omega
    go_enter Try.func22, Try.ntmps22
    go_wp2_with fail
    refine HC.out.mono ?_
    rintro e w1 ⟨rfl, rfl⟩
    go_wp2_with fail
    go_ret
    exact ⟨by rw [HF.out]; rfl, rfl⟩

theorem drop_cons {α : Type} (l : List α) (k : Nat) (h : k < l.length) : l.drop k = l[k] :: l.drop (k + 1) := List.drop_eq_getElem_cons h

set_option maxHeartbeats 4000000 in
theorem rwithin_in (root : Int) (n i l : Nat) (ent : ByteArray) (a : Option Addr) (zs : List Int) (cap : Nat) (w : World) (h1 : 1 ≤ n) (h2 : n ≤ 200) (h3 : i < n) (h4 : ent.size ≤ 40) (hl : zs.length = l) (hr : l ≤ 17592186043904) (hz : Ints w a zs) (hb : bdL zs = true) :
    Calls Try.prog 22 #[.int .i64 root, .int .i64 (n : Int), .int .i64 (i : Int), .string ent, .slice a l cap] w fun e w' => e = .returned (.bool (withinB root n i ent zs)) ∧ Below w.heap.size w w' := by
  have HB : Hid (withinB root n i ent zs = decide (leadR n i (entS ent) zs = some root)) := by
    show _ = _
    rw [withinB_in (root := root) (zs := zs) h1 h2 h3 h4]
    unfold leadO
    rw [hb]; simp
  have HC := hid (sums_any l a zs cap w hl hr hz)
  have HBD := hid (fun k (hk : k < zs.length) => bdL_mem hb k hk)
  rw [hb] at HC
  have HL := hid hl
  have HZ := hid hz
  have i1 : ¬ (n : Int) < 1 := by omega
  have i2 : ¬ (200 : Int) < (n : Int) := by omega
  have i3 : ¬ (i : Int) < 0 := by omega
  have i4 : (i : Int) < (n : Int) := by omega
  have i5 : ¬ (40 : Int) < (ent.size : Int) := by omega
  clear hl hz hb
  go_enter Try.func22, Try.ntmps22
  go_wp2_with fail
  refine HC.out.mono ?_
  rintro e w1 ⟨rfl, rfl⟩
  go_wp2_with fail
  rw [ent_str]
  refine (rsum_any _ _ (by rw [size_bs, length_entT]; simp; unfold maxLen; omega)).mono ?_
  rintro e w2 ⟨rfl, hb2⟩
  rw [toList_bs]
  go_wp2_with fail
  go_loopw [1, 2, 12, 13, 14] (fun vn vi vx vt _ wr => ∃ (n' i' t : Nat) (x' : Int), vn = .int .i64 (n' : Int) ∧ vi = .int .i64 (i' : Int) ∧ vx = .int .i64 x' ∧ vt = .int .i64 (t : Int) ∧ 1 ≤ n' ∧ n' ≤ 200 ∧ i' < n' ∧ t ≤ l ∧ Bd x' ∧ Hid (leadR n' i' x' (zs.drop t) = leadR n i (entS ent) zs) ∧ Below w1.heap.size w1 wr) (fun vn _ _ _ _ _ => (intOf vn).toNat)
  case atStart => exact ⟨n, i, 0, entS ent, rfl, rfl, rfl, rfl, h1, h2, h3, Nat.zero_le _, ent_bd _, rfl, hb2⟩
  case round =>
    obtain ⟨n', i', t, x', rfl, rfl, rfl, rfl, hn1, hn2, hi, ht, hx, HE, hbel⟩ := hrel
    by_cases hn : 1 < n'
    · have hn' : (1 : Int) < (n' : Int) := by omega
      by_cases ha : i' % 2 = 0 ∧ i' + 1 = n'
      · have HA := hid (leadR_alone n' i' x' (zs.drop t) hn ha)
        have hp1 : ((i' : Int) % 2 == 0) = true := by simp; omega
        have hp2 : ((i' : Int) + 1 == (n' : Int)) = true := by simp; omega
        have HH := hid ha
        clear ha
        go_wp2_with fail
        go_roundw
        case rel => exact ⟨(n' + 1) / 2, i' / 2, t, x', by go_num, by go_num, rfl, rfl, by omega, by omega, by omega, ht, hx, HA.out.symm.trans HE.out, hbel⟩
        case measure => simp [intOf]; omega
      · have hnal : (i' % 2 = 1 ∨ i' + 1 ≠ n') := by omega
        by_cases htl : t < l
        · have hkz : t < zs.length := by rw [HL.out]; exact htl
          obtain ⟨b, off, rfl, hc⟩ := HZ.out.at (by omega)
          have hck := cell_kept' (hc t hkz) hbel
          have hyb := HBD.out t hkz
          have hdc := drop_cons zs t hkz
          generalize zs[t] = y at hck hyb hdc
          have HA := hid (leadR_cons n' i' x' y (zs.drop (t + 1)) hn ha)
          rw [hdc] at HE
          have htl' : ((t : Int) == (l : Int)) = false := by simp; omega
          clear hc hkz hdc
          by_cases hev : i' % 2 = 0
          · have hp1 : ((i' : Int) % 2 == 0) = true := by simp; omega
            have hp2 : ((i' : Int) + 1 == (n' : Int)) = false := by simp; omega
            have hp3 : ((i' : Int) % 2 == 1) = false := by simp; omega
            rw [if_pos hev] at HA
            clear ha hnal hev
            go_wp2_with fail
            refine (joined_any x' y _ hx hyb).mono ?_
            rintro e w3 ⟨rfl, hb3⟩
            have hnb := node_bd x' y
            have HZb := hid (show leadR ((n' + 1) / 2) (i' / 2) (node x' y) (zs.drop (t + 1)) = leadR n i (entS ent) zs from HA.out.symm.trans HE.out)
            generalize node x' y = z at HZb hnb ⊢
            have hsz := hbel.size
            have hbel3 : Below w1.heap.size w1 w3 := hbel.trans (hb3.mono hsz)
            clear hck HA HE hb3
            go_wp2_with fail
            go_roundw
            case rel => exact ⟨(n' + 1) / 2, i' / 2, t + 1, z, by go_num, by go_num, rfl, by go_num, by omega, by omega, by omega, by omega, hnb, HZb, hbel3⟩
            case measure => simp [intOf]; omega
          · have hp1 : ((i' : Int) % 2 == 0) = false := by simp; omega
            have hp3 : ((i' : Int) % 2 == 1) = true := by simp; omega
            rw [if_neg hev] at HA
            clear ha hnal hev
            go_wp2_with fail
            refine (joined_any y x' _ hyb hx).mono ?_
            rintro e w3 ⟨rfl, hb3⟩
            have hnb := node_bd y x'
            have HZb := hid (show leadR ((n' + 1) / 2) (i' / 2) (node y x') (zs.drop (t + 1)) = leadR n i (entS ent) zs from HA.out.symm.trans HE.out)
            generalize node y x' = z at HZb hnb ⊢
            have hsz := hbel.size
            have hbel3 : Below w1.heap.size w1 w3 := hbel.trans (hb3.mono hsz)
            clear hck HA HE hb3
            go_wp2_with fail
            go_roundw
            case rel => exact ⟨(n' + 1) / 2, i' / 2, t + 1, z, by go_num, by go_num, rfl, by go_num, by omega, by omega, by omega, by omega, hnb, HZb, hbel3⟩
            case measure => simp [intOf]; omega
        · have htl' : ((t : Int) == (l : Int)) = true := by simp; omega
          have HF : Hid (withinB root n i ent zs = false) := by
            show _ = _
            rw [HB.out, ← HE.out, List.drop_eq_nil_of_le (by rw [HL.out]; omega), leadR_nil n' i' x' hn ha]
            simp
          clear ha
          by_cases hev : i' % 2 = 0
          · have hp1 : ((i' : Int) % 2 == 0) = true := by simp; omega
            have hp2 : ((i' : Int) + 1 == (n' : Int)) = false := by simp; omega
            clear hnal hev
            go_wp2_with fail
            go_ret
            exact ⟨by rw [HF.out]; rfl, hbel⟩
          · have hp1 : ((i' : Int) % 2 == 0) = false := by simp; omega
            clear hnal hev
            go_wp2_with fail
            go_ret
            exact ⟨by rw [HF.out]; rfl, hbel⟩
    · have HE1 := hid (HE.out.symm.trans (leadR_one n' i' x' (zs.drop t) (by omega)))
      by_cases htl : t = l
      · have htl' : ((t : Int) == (l : Int)) = true := by simp; omega
        have HR : Hid (withinB root n i ent zs = (x' == root)) := by
          show _ = _
          rw [HB.out, HE1.out, if_pos (List.drop_eq_nil_of_le (by rw [HL.out]; omega)), Bool.eq_iff_iff]; simp
        clear htl
        go_wp2_with fail
        go_ret
        exact ⟨by rw [HR.out]; rfl, hbel⟩
      · have htl' : ((t : Int) == (l : Int)) = false := by simp; omega
        have HR : Hid (withinB root n i ent zs = false) := by
          show _ = _
          rw [HB.out, HE1.out, if_neg (fun e => by have := congrArg List.length e; rw [List.length_drop, HL.out] at this; simp at this; omega)]; simp
        clear htl
        go_wp2_with fail
        go_ret
        exact ⟨by rw [HR.out]; rfl, hbel⟩

theorem lwithin_any (root n i : Int) (l : Nat) (ent : ByteArray) (a : Option Addr) (zs : List Int) (cap : Nat) (w : World) (hs : ent.size ≤ maxLen) (hl : zs.length = l) (hr : l ≤ 17592186043904) (hz : Ints w a zs) (hcap : l ≤ cap) (hmax : cap ≤ maxLen) :
    Calls Try.prog 20 #[.int .i64 root, .int .i64 n, .int .i64 i, .string ent, .slice a l cap] w fun e w' => e = .returned (.bool (withinB root n i ent zs)) ∧ Below w.heap.size w w' := by
  by_cases h : 1 ≤ n ∧ n ≤ 200 ∧ 0 ≤ i ∧ i < n ∧ ent.size ≤ 40
  · obtain ⟨h1, h2, h3, h4, h5⟩ := h
    obtain ⟨n', rfl⟩ : ∃ k : Nat, n = (k : Int) := ⟨n.toNat, by omega⟩
    obtain ⟨i', rfl⟩ : ∃ k : Nat, i = (k : Int) := ⟨i.toNat, by omega⟩
    exact lwithin_in root n' i' l ent a zs cap w (by omega) (by omega) (by omega) h5 hl hr hz hcap hmax
  · exact (lwithin_out root n i ent _ zs w hs h).mono fun e w' ⟨he, hw⟩ => ⟨he, by subst hw; exact Below.refl _ _⟩

theorem rwithin_any (root n i : Int) (l : Nat) (ent : ByteArray) (a : Option Addr) (zs : List Int) (cap : Nat) (w : World) (hs : ent.size ≤ maxLen) (hl : zs.length = l) (hr : l ≤ 17592186043904) (hz : Ints w a zs) :
    Calls Try.prog 22 #[.int .i64 root, .int .i64 n, .int .i64 i, .string ent, .slice a l cap] w fun e w' => e = .returned (.bool (withinB root n i ent zs)) ∧ Below w.heap.size w w' := by
  by_cases h : bdL zs = true ∧ 1 ≤ n ∧ n ≤ 200 ∧ 0 ≤ i ∧ i < n ∧ ent.size ≤ 40
  · obtain ⟨hb, h1, h2, h3, h4, h5⟩ := h
    obtain ⟨n', rfl⟩ : ∃ k : Nat, n = (k : Int) := ⟨n.toNat, by omega⟩
    obtain ⟨i', rfl⟩ : ∃ k : Nat, i = (k : Int) := ⟨i.toNat, by omega⟩
    exact rwithin_in root n' i' l ent a zs cap w (by omega) (by omega) (by omega) h5 hl hr hz hb
  · exact (rwithin_out root n i l ent a zs cap w hs hl hr hz h).mono fun e w' ⟨he, hw⟩ => ⟨he, by subst hw; exact Below.refl _ _⟩

end Go.Proofs.Ytedblhcehlbbmaa

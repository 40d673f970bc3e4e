/-
  CONTRACTS: logs.Begins; twins.ofRoots (it calls itself); and that what it answers is two texts with one sum.
-/
import Derived.Test.YtedblhcehlbbmaaWalkTwin
import Derived.Test.YtedblhcehlbbmaaWalkGrowTexts
import Derived.WalkKit
import Derived.WalkSpells
import Derived.WalkLawsBesides
namespace Go.Proofs.Ytedblhcehlbbmaa
open Go.RowKit

set_option maxHeartbeats 1000000 in
/-- logs.Begins. -/
theorem lbegins_any (n m : Nat) (a b : Option Addr) (aa bb : List ByteArray) (c d : Nat) (w : World) (hn : aa.length = n) (hm : bb.length = m) (hs : Strs w a aa) (ht : Strs w b bb) (hr : n ≤ 200) (hr2 : m ≤ 200) :
    Calls Try.prog 52 #[.slice a n c, .slice b m d] w fun e w' => e = .returned (.bool (beginsB aa bb)) ∧ Below w.heap.size w w' := by
  by_cases hnm : n ≤ m
  · have HN := hid hn
    have HM := hid hm
    have HS := hid hs
    have HT := hid ht
    have i0 : ¬ (m : Int) < (n : Int) := by omega
    clear hn hm hs ht
    go_enter Try.func52, Try.ntmps52
    go_wp2_with fail
    go_loopw [5] (fun i wr => ∃ (k : Nat), k ≤ n ∧ i = .int .i64 (k : Int) ∧ Hid (∀ i (h1 : i < aa.length) (h2 : i < bb.length), i < k → aa[i] = bb[i]) ∧ Below w.heap.size w wr) (fun i _ => n + 1 - (intOf i).toNat)
    case atStart => exact ⟨0, Nat.zero_le _, rfl, fun i _ _ h => by omega, Below.refl _ _⟩
    case round =>
      obtain ⟨k, hk, rfl, HE, hbel⟩ := hrel
      by_cases hlt : k < n
      · have hlen := HN.out
        have hlen2 := HM.out
        obtain ⟨b1, o1, rfl, hc1⟩ := HS.out.at (by omega)
        obtain ⟨b2, o2, rfl, hc2⟩ := HT.out.at (by omega)
        have hx := cell_kept' (hc1 k (by omega)) hbel
        have hy := cell_kept' (hc2 k (by omega)) hbel
        by_cases heq : aa[k] = bb[k]
        · have HE2 : Hid (∀ i (h1 : i < aa.length) (h2 : i < bb.length), i < k + 1 → aa[i] = bb[i]) := fun i h1 h2 h => by
            by_cases hik : i < k
            · exact HE.out i h1 h2 hik
            · obtain rfl : i = k := by omega
              exact heq
          rw [← heq] at hy
          generalize aa[k] = s at hx hy
          clear heq hc1 hc2 hlen hlen2 HS HT
          have i1 : (0 : Int) ≤ (k : Int) := by omega
          have i2 : (k : Int) < (n : Int) := by omega
          have i3 : (k : Int) < (m : Int) := by omega
          go_wp2_with fail
          go_quiet (fail)
          go_wp2_with fail
          go_roundw
          case rel => exact ⟨k + 1, by omega, by go_num, HE2, by first | exact hbel | exact below_drewN hbel _⟩
          case measure => simp [intOf]; omega
        · have HE2 : Hid (beginsB aa bb = false) := begins_not k (by omega) (by omega) heq
          have hne := bne_str heq
          clear hc1 hc2 HS HT
          have i1 : (0 : Int) ≤ (k : Int) := by omega
          have i2 : (k : Int) < (n : Int) := by omega
          have i3 : (k : Int) < (m : Int) := by omega
          generalize aa[k] = s at hx hne
          generalize bb[k] = t at hy hne
          clear heq hlen hlen2
          go_wp2_with fail
          go_quiet (fail)
          go_wp2_with fail
          go_ret
          exact ⟨by rw [HE2.out]; rfl, by first | exact hbel | exact below_drewN hbel _⟩
      · have HF : Hid (beginsB aa bb = true) := begins_of (by have := HN.out; have := HM.out; omega) (fun i h1 h2 => HE.out i h1 h2 (by have := HN.out; omega))
        go_wp2_with fail
        go_ret
        exact ⟨by rw [HF.out]; rfl, hbel⟩
  · have HF : Hid (beginsB aa bb = false) := begins_long (by omega)
    have i0 : (m : Int) < (n : Int) := by omega
    clear hn hm hs ht
    go_enter Try.func52, Try.ntmps52
    go_wp2_with fail
    go_ret
    exact ⟨by rw [HF.out]; rfl, Below.refl _ _⟩

theorem beginsB_same {a b : List ByteArray} (h : a.length = b.length) : beginsB a b = true ↔ a = b := by
  unfold beginsB; rw [decide_eq_true_eq, List.take_of_length_le (by omega)]

/-- What twins.ofRoots answers. -/
def ofRts : Nat → List ByteArray → List ByteArray → List UInt8 × List UInt8
  | 0, a, b => (textS a, textS b)
  | f + 1, a, b =>
    if textS a = textS b ∧ 1 < a.length ∧ a.length = b.length then
      (if beginsB (a.take (cutN a.length)) (b.take (cutN a.length)) = true then ofRts f (a.drop (cutN a.length)) (b.drop (cutN a.length)) else ofRts f (a.take (cutN a.length)) (b.take (cutN a.length)))
    else (textS a, textS b)
theorem ofRts_here {f : Nat} {a b : List ByteArray} (h : ¬ (textS a = textS b ∧ 1 < a.length ∧ a.length = b.length)) : ofRts (f + 1) a b = (textS a, textS b) := by rw [ofRts, if_neg h]
theorem ofRts_left {f k : Nat} {a b : List ByteArray} (h : textS a = textS b) (hl : a.length = b.length) (hc : IsCut a.length k) (hb : beginsB (a.take k) (b.take k) = false) : ofRts (f + 1) a b = ofRts f (a.take k) (b.take k) := by
  rw [ofRts, if_pos ⟨h, hc.pos.2, hl⟩, cutN_of hc, if_neg (by rw [hb]; simp)]
theorem ofRts_right {f k : Nat} {a b : List ByteArray} (h : textS a = textS b) (hl : a.length = b.length) (hc : IsCut a.length k) (hb : beginsB (a.take k) (b.take k) = true) : ofRts (f + 1) a b = ofRts f (a.drop k) (b.drop k) := by
  rw [ofRts, if_pos ⟨h, hc.pos.2, hl⟩, cutN_of hc, if_pos hb]

/-- Two logs of one length and one root that are not the same. -/
theorem ofRts_away (f : Nat) : ∀ (a b : List ByteArray), a.length ≤ f → a.length = b.length → rootS a = rootS b → a ≠ b →
    (ofRts f a b).1 ∈ logT (esOf a) ∧ (ofRts f a b).2 ∈ logT (esOf b) ∧ Two (ofRts f a b).1 (ofRts f a b).2 := by
  induction f with
  | zero =>
    intro a b hf hl hr hne
    exact absurd ((List.eq_nil_of_length_eq_zero (by omega)).trans (List.eq_nil_of_length_eq_zero (by omega)).symm) hne
  | succ f ih =>
    intro a b hf hl hr hne
    have h0 : 0 < a.length := by
      rcases Nat.eq_zero_or_pos a.length with h | h
      · exact absurd ((List.eq_nil_of_length_eq_zero h).trans (List.eq_nil_of_length_eq_zero (by omega)).symm) hne
      · exact h
    by_cases hg : textS a = textS b ∧ 1 < a.length ∧ a.length = b.length
    · have hc := cutN_is a.length hg.2.1
      have hp := hc.pos
      have hlt := hc.2.1
      generalize cutN a.length = k at hc hp hlt
      have hcb : IsCut b.length k := by rw [← hl]; exact hc
      have hn := hg.1
      rw [textS_cut a k hc, textS_cut b k hcb] at hn
      obtain ⟨e1, e2⟩ := nodeT_inj (rootS_bd _) (rootS_bd _) (rootS_bd _) (rootS_bd _) hn
      have hlt' : (a.take k).length = (b.take k).length := by rw [List.length_take, List.length_take]; omega
      cases hb : beginsB (a.take k) (b.take k) with
      | true =>
        rw [ofRts_right hg.1 hl hc hb]
        have ht := (beginsB_same hlt').1 hb
        have hd : a.drop k ≠ b.drop k := fun h => hne (by rw [← List.take_append_drop k a, ht, h, List.take_append_drop])
        obtain ⟨h1, h2, h3⟩ := ih (a.drop k) (b.drop k) (by rw [List.length_drop]; omega) (by rw [List.length_drop, List.length_drop]; omega) e2 hd
        exact ⟨(logS_cut a k hc _).2 (.inr (.inr h1)), (logS_cut b k hcb _).2 (.inr (.inr h2)), h3⟩
      | false =>
        rw [ofRts_left hg.1 hl hc hb]
        have ht : a.take k ≠ b.take k := fun h => by rw [(beginsB_same hlt').2 h] at hb; cases hb
        obtain ⟨h1, h2, h3⟩ := ih (a.take k) (b.take k) (by rw [List.length_take]; omega) hlt' e1 ht
        exact ⟨(logS_cut a k hc _).2 (.inr (.inl h1)), (logS_cut b k hcb _).2 (.inr (.inl h2)), h3⟩
    · rw [ofRts_here hg]
      refine ⟨textS_mem a h0, textS_mem b (by omega), ?_, by rw [sm_textS, sm_textS]; exact hr⟩
      intro he
      have he : textS a = textS b := he
      have h1 : ¬ 1 < a.length := fun h => hg ⟨he, h, hl⟩
      match a, b, hl, h0, h1 with
      | [s], [t], _, _, _ =>
        have e2 : entT s.data.toList = entT t.data.toList := he
        exact hne (by rw [← bs_toList s, entT_inj e2, bs_toList])
      | s :: t :: r, _, _, _, h => simp at h

set_option maxHeartbeats 1000000 in
theorem ofRoots_left (n k : Nat) (bk1 off1 bk2 off2 : Nat) (T X Y : ByteArray) (c1 c2 : Nat) (w : World) (hk : IsCut n k) (h200 : n ≤ 200) (hc1 : n ≤ c1) (hc2 : n ≤ c2)
    (HT1 : Hid (Calls Try.prog 56 #[.slice (some ⟨bk1, off1, none⟩) n c1] w fun e w' => e = .returned (.string T) ∧ Below w.heap.size w w'))
    (HT2 : Hid (∀ w1, Below w.heap.size w w1 → Calls Try.prog 56 #[.slice (some ⟨bk2, off2, none⟩) n c2] w1 fun e w' => e = .returned (.string T) ∧ Below w1.heap.size w1 w'))
    (HB : Hid (∀ w1, Below w.heap.size w w1 → Calls Try.prog 52 #[.slice (some ⟨bk1, off1, none⟩) k c1, .slice (some ⟨bk2, off2, none⟩) k c2] w1 fun e w' => e = .returned (.bool false) ∧ Below w1.heap.size w1 w'))
    (HW : Hid (∀ w1, Below w.heap.size w w1 → Calls Try.prog 68 #[.slice (some ⟨bk1, off1, none⟩) k c1, .slice (some ⟨bk2, off2, none⟩) k c2] w1 fun e w' => e = .returned (.tuple #[.string X, .string Y]) ∧ Below w1.heap.size w1 w')) :
    Calls Try.prog 68 #[.slice (some ⟨bk1, off1, none⟩) n c1, .slice (some ⟨bk2, off2, none⟩) n c2] w fun e w' => e = .returned (.tuple #[.string X, .string Y]) ∧ Below w.heap.size w w' := by
  have hka := hk.2.1
  have hkp := hk.pos
  have HK := hid hk
  have i2 : ¬ (n : Int) ≤ 1 := by omega
  have b1 : (0 : Int) ≤ (k : Int) := by omega
  have b2 : (k : Int) ≤ (c1 : Int) := by omega
  have b3 : (k : Int) ≤ (c2 : Int) := by omega
  have b4 : k ≤ c1 := by omega
  have b5 : k ≤ c2 := by omega
  have b6 : (k : Int) ≤ (n : Int) := by omega
  have b7 : (n : Int) ≤ (c1 : Int) := by omega
  have b8 : (n : Int) ≤ (c2 : Int) := by omega
  have b9 : ¬ c1 = k := by omega
  have b10 : ¬ c2 = k := by omega
  have HCU := hid (fun w1 => cut_any n w1 (by omega) (by omega))
  clear hk hkp
  go_enter Try.func68, Try.ntmps68
  go_wp2_with fail
  refine HT1.out.mono ?_
  rintro e w1 ⟨rfl, hb1⟩
  go_wp2_with fail
  refine (HT2.out _ hb1).mono ?_
  rintro e w2 ⟨rfl, hb2⟩
  have hk2 := kept hb1 hb2
  go_wp2_with fail
  refine (HCU.out _).mono ?_
  rintro e w3 ⟨k', rfl, hk', rfl⟩
  obtain rfl : k' = k := hk'.unique HK.out
  clear hk' HT1 HT2 HCU
  go_wp2_with fail
  go_region_held3 (fun w' => Below w3.heap.size w3 w') ((go_split_ands; first | exact (Below.refl _ _).drew | exact kept (by assumption) hb4)) (first | (go_at_call 52; refine (HB.out _ (by go_split_ands; exact kept hk2 (by assumption))).mono ?_; rintro e w4 ⟨rfl, hb4⟩))
  go_split_ands
  have hk4 : Below w.heap.size w w4 := kept hk2 (by assumption)
  clear HB
  go_wp2_with fail
  go_region_held3 (fun w' => Below w4.heap.size w4 w') ((go_split_ands; first | exact (Below.refl _ _).drew | exact kept (by assumption) hb5)) (first | (go_at_call 68; refine (HW.out _ (by go_split_ands; exact kept hk4 (by assumption))).mono ?_; rintro e w5 ⟨rfl, hb5⟩))
  go_wp2_with fail
  go_ret2
  go_split_ands
  exact ⟨rfl, kept hk4 (by assumption)⟩

set_option maxHeartbeats 1000000 in
theorem ofRoots_right (n k : Nat) (bk1 off1 bk2 off2 : Nat) (T X Y : ByteArray) (c1 c2 : Nat) (w : World) (hk : IsCut n k) (h200 : n ≤ 200) (hc1 : n ≤ c1) (hc2 : n ≤ c2)
    (HT1 : Hid (Calls Try.prog 56 #[.slice (some ⟨bk1, off1, none⟩) n c1] w fun e w' => e = .returned (.string T) ∧ Below w.heap.size w w'))
    (HT2 : Hid (∀ w1, Below w.heap.size w w1 → Calls Try.prog 56 #[.slice (some ⟨bk2, off2, none⟩) n c2] w1 fun e w' => e = .returned (.string T) ∧ Below w1.heap.size w1 w'))
    (HB : Hid (∀ w1, Below w.heap.size w w1 → Calls Try.prog 52 #[.slice (some ⟨bk1, off1, none⟩) k c1, .slice (some ⟨bk2, off2, none⟩) k c2] w1 fun e w' => e = .returned (.bool true) ∧ Below w1.heap.size w1 w'))
    (HW : Hid (∀ w1, Below w.heap.size w w1 → Calls Try.prog 68 #[.slice (some ⟨bk1, off1 + k, none⟩) (n - k) (c1 - k), .slice (some ⟨bk2, off2 + k, none⟩) (n - k) (c2 - k)] w1 fun e w' => e = .returned (.tuple #[.string X, .string Y]) ∧ Below w1.heap.size w1 w')) :
    Calls Try.prog 68 #[.slice (some ⟨bk1, off1, none⟩) n c1, .slice (some ⟨bk2, off2, none⟩) n c2] w fun e w' => e = .returned (.tuple #[.string X, .string Y]) ∧ Below w.heap.size w w' := by
  have hka := hk.2.1
  have hkp := hk.pos
  have HK := hid hk
  have i2 : ¬ (n : Int) ≤ 1 := by omega
  have b1 : (0 : Int) ≤ (k : Int) := by omega
  have b2 : (k : Int) ≤ (c1 : Int) := by omega
  have b3 : (k : Int) ≤ (c2 : Int) := by omega
  have b4 : k ≤ c1 := by omega
  have b5 : k ≤ c2 := by omega
  have b6 : (k : Int) ≤ (n : Int) := by omega
  have b7 : (n : Int) ≤ (c1 : Int) := by omega
  have b8 : (n : Int) ≤ (c2 : Int) := by omega
  have b9 : ¬ c1 = k := by omega
  have b10 : ¬ c2 = k := by omega
  have HCU := hid (fun w1 => cut_any n w1 (by omega) (by omega))
  clear hk hkp
  go_enter Try.func68, Try.ntmps68
  go_wp2_with fail
  refine HT1.out.mono ?_
  rintro e w1 ⟨rfl, hb1⟩
  go_wp2_with fail
  refine (HT2.out _ hb1).mono ?_
  rintro e w2 ⟨rfl, hb2⟩
  have hk2 := kept hb1 hb2
  go_wp2_with fail
  refine (HCU.out _).mono ?_
  rintro e w3 ⟨k', rfl, hk', rfl⟩
  obtain rfl : k' = k := hk'.unique HK.out
  clear hk' HT1 HT2 HCU
  go_wp2_with fail
  go_region_held3 (fun w' => Below w3.heap.size w3 w') ((go_split_ands; first | exact (Below.refl _ _).drew | exact kept (by assumption) hb4)) (first | (go_at_call 52; refine (HB.out _ (by go_split_ands; exact kept hk2 (by assumption))).mono ?_; rintro e w4 ⟨rfl, hb4⟩))
  go_split_ands
  have hk4 : Below w.heap.size w w4 := kept hk2 (by assumption)
  clear HB
  go_wp2_with fail
  go_region_held3 (fun w' => Below w4.heap.size w4 w') ((go_split_ands; first | exact (Below.refl _ _).drew | exact kept (by assumption) hb5)) (first | (go_at_call 68; refine (HW.out _ (by go_split_ands; exact kept hk4 (by assumption))).mono ?_; rintro e w5 ⟨rfl, hb5⟩))
  go_wp2_with fail
  go_ret2
  go_split_ands
  exact ⟨rfl, kept hk4 (by assumption)⟩

set_option maxHeartbeats 1000000 in
theorem ofRoots_any (f : Nat) : ∀ (n m : Nat) (a b : Option Addr) (aa bb : List ByteArray) (c1 c2 : Nat) (w : World), aa.length = n → bb.length = m → n ≤ f → n ≤ 200 → m ≤ 200 → (∀ s ∈ aa, s.size ≤ 40) → (∀ s ∈ bb, s.size ≤ 40) → Strs w a aa → Strs w b bb → n ≤ c1 → c1 ≤ maxLen → m ≤ c2 → c2 ≤ maxLen →
    Calls Try.prog 68 #[.slice a n c1, .slice b m c2] w fun e w' => e = .returned (.tuple #[.string (bs (ofRts f aa bb).1), .string (bs (ofRts f aa bb).2)]) ∧ Below w.heap.size w w' := by
  induction f with
  | zero =>
    intro n m a b aa bb c1 c2 w hn hm hf h200 h200' h40 h40' hs ht hc1 hm1 hc2 hm2
    have HT1 := hid (text_any n n a aa c1 w hn (Nat.le_refl _) hs h200 h40 hc1 hm1)
    have HT2 := hid (fun w1 (h : Below w.heap.size w w1) => text_any m m b bb c2 w1 hm (Nat.le_refl _) (ht.kept h) h200' h40' hc2 hm2)
    have i1 : (n : Int) ≤ 1 := by omega
    show Calls _ _ _ _ fun e w' => e = .returned (.tuple #[.string (bs (textS aa)), .string (bs (textS bb))]) ∧ _
    generalize textS aa = T1 at HT1
    generalize textS bb = T2 at HT2
    clear hs ht hn hm h40 h40'
    by_cases hT : bs T1 = bs T2
    · rw [hT] at HT1 ⊢
      go_enter Try.func68, Try.ntmps68
      go_wp2_with fail
      refine HT1.out.mono ?_
      rintro e w1 ⟨rfl, hb1⟩
      go_wp2_with fail
      refine (HT2.out _ hb1).mono ?_
      rintro e w2 ⟨rfl, hb2⟩
      go_wp2_with fail
      go_ret2
      exact ⟨rfl, kept hb1 hb2⟩
    · have hbn := bne_str hT
      clear hT
      go_enter Try.func68, Try.ntmps68
      go_wp2_with fail
      refine HT1.out.mono ?_
      rintro e w1 ⟨rfl, hb1⟩
      go_wp2_with fail
      refine (HT2.out _ hb1).mono ?_
      rintro e w2 ⟨rfl, hb2⟩
      go_wp2_with fail
      go_ret2
      exact ⟨rfl, kept hb1 hb2⟩
  | succ f ih =>
    intro n m a b aa bb c1 c2 w hn hm hf h200 h200' h40 h40' hs ht hc1 hm1 hc2 hm2
    have HT1 := hid (text_any n n a aa c1 w hn (Nat.le_refl _) hs h200 h40 hc1 hm1)
    have HT2 := hid (fun w1 (h : Below w.heap.size w w1) => text_any m m b bb c2 w1 hm (Nat.le_refl _) (ht.kept h) h200' h40' hc2 hm2)
    by_cases hT : textS aa = textS bb
    · by_cases h1 : n ≤ 1
      · rw [ofRts_here (fun h => by omega)]
        have i1 : (n : Int) ≤ 1 := by omega
        simp only
        rw [← hT] at HT2 ⊢
        generalize textS aa = T at HT1 HT2
        clear hs ht hn hm h40 h40' hT ih h1
        go_enter Try.func68, Try.ntmps68
        go_wp2_with fail
        refine HT1.out.mono ?_
        rintro e w1 ⟨rfl, hb1⟩
        go_wp2_with fail
        refine (HT2.out _ hb1).mono ?_
        rintro e w2 ⟨rfl, hb2⟩
        go_wp2_with fail
        go_ret2
        exact ⟨rfl, kept hb1 hb2⟩
      · by_cases hnm : n = m
        · subst hnm
          have hk : IsCut n (cutN n) := cutN_is n (by omega)
          generalize cutN n = k at hk
          have hka := hk.2.1
          have hkp := hk.pos.1
          have hk' : IsCut aa.length k := by rw [hn]; exact hk
          obtain ⟨bk1, off1, rfl, hc1s⟩ := hs.at (by omega)
          obtain ⟨bk2, off2, rfl, hc2s⟩ := ht.at (by omega)
          have HB := hid (fun w1 (h : Below w.heap.size w w1) => lbegins_any k k (some ⟨bk1, off1, none⟩) (some ⟨bk2, off2, none⟩) (aa.take k) (bb.take k) c1 c2 w1 (by rw [List.length_take]; omega) (by rw [List.length_take]; omega) ((Strs.take hc1s k).kept h) ((Strs.take hc2s k).kept h) (by omega) (by omega))
          rw [← hT] at HT2
          cases hb : beginsB (aa.take k) (bb.take k) with
          | false =>
            rw [hb] at HB
            rw [ofRts_left hT (by omega) hk' hb]
            exact ofRoots_left n k bk1 off1 bk2 off2 (bs (textS aa)) _ _ c1 c2 w hk h200 hc1 hc2 HT1 HT2 HB
              (fun w1 h => ih k k (some ⟨bk1, off1, none⟩) (some ⟨bk2, off2, none⟩) (aa.take k) (bb.take k) c1 c2 w1 (by rw [List.length_take]; omega) (by rw [List.length_take]; omega) (by omega) (by omega) (by omega) (fun s hs => h40 s (List.mem_of_mem_take hs)) (fun s hs => h40' s (List.mem_of_mem_take hs)) ((Strs.take hc1s k).kept h) ((Strs.take hc2s k).kept h) (by omega) hm1 (by omega) hm2)
          | true =>
            rw [hb] at HB
            rw [ofRts_right hT (by omega) hk' hb]
            exact ofRoots_right n k bk1 off1 bk2 off2 (bs (textS aa)) _ _ c1 c2 w hk h200 hc1 hc2 HT1 HT2 HB
              (fun w1 h => ih (n - k) (n - k) (some ⟨bk1, off1 + k, none⟩) (some ⟨bk2, off2 + k, none⟩) (aa.drop k) (bb.drop k) (c1 - k) (c2 - k) w1 (by rw [List.length_drop]; omega) (by rw [List.length_drop]; omega) (by omega) (by omega) (by omega) (fun s hs => h40 s (List.mem_of_mem_drop hs)) (fun s hs => h40' s (List.mem_of_mem_drop hs)) ((Strs.drop hc1s k).kept h) ((Strs.drop hc2s k).kept h) (by omega) (by omega) (by omega) (by omega))
        · rw [ofRts_here (fun h => by omega)]
          have i1 : ¬ (n : Int) ≤ 1 := by omega
          have i2 : ((n : Int) != (m : Int)) = true := by simp; omega
          simp only
          rw [← hT] at HT2 ⊢
          generalize textS aa = T at HT1 HT2
          clear hs ht hn hm h40 h40' hT ih h1 hnm
          go_enter Try.func68, Try.ntmps68
          go_wp2_with fail
          refine HT1.out.mono ?_
          rintro e w1 ⟨rfl, hb1⟩
          go_wp2_with fail
          refine (HT2.out _ hb1).mono ?_
          rintro e w2 ⟨rfl, hb2⟩
          go_wp2_with fail
          go_ret2
          exact ⟨rfl, kept hb1 hb2⟩
    · rw [ofRts_here (fun h => hT h.1)]
      have hbn := bne_str (fun e => hT (bs_inj e) : bs (textS aa) ≠ bs (textS bb))
      simp only
      generalize textS aa = T1 at HT1 hbn
      generalize textS bb = T2 at HT2 hbn
      clear hs ht hn hm h40 h40' hT ih
      go_enter Try.func68, Try.ntmps68
      go_wp2_with fail
      refine HT1.out.mono ?_
      rintro e w1 ⟨rfl, hb1⟩
      go_wp2_with fail
      refine (HT2.out _ hb1).mono ?_
      rintro e w2 ⟨rfl, hb2⟩
      go_wp2_with fail
      go_ret2
      exact ⟨rfl, kept hb1 hb2⟩

end Go.Proofs.Ytedblhcehlbbmaa

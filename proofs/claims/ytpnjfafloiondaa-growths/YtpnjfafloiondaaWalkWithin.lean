/-
  CONTRACTS: logs.Leads (it calls itself), lender.Within; lenderref.sums, Within.
-/
import Derived.Test.YtpnjfafloiondaaWalkHand
import Derived.WalkKit
import Derived.WalkSpells
import Derived.WalkLawsBesides
namespace Go.Proofs.Ytpnjfafloiondaa
open Go.RowKit

def isSumB (p : Int) : Bool := decide (0 ≤ p ∧ p ≤ 4092)
/-- All numbers of a path are sums. -/
def bdL (zs : List Int) : Bool := zs.all isSumB
theorem bdL_snoc (q : List Int) (p : Int) : bdL (q ++ [p]) = (bdL q && isSumB p) := by simp [bdL]
theorem bdL_take (zs : List Int) (k : Nat) (h : k < zs.length) : bdL (zs.take (k + 1)) = (bdL (zs.take k) && isSumB zs[k]) := by
  rw [List.take_succ_eq_append_getElem h, bdL_snoc]
theorem isSumB_true {p : Int} (h : isSumB p = true) : Bd p := by unfold isSumB at h; exact of_decide_eq_true (p := 0 ≤ p ∧ p ≤ 4092) h
theorem bdL_mem {zs : List Int} (h : bdL zs = true) (i : Nat) (hi : i < zs.length) : Bd zs[i] := isSumB_true (List.all_eq_true.1 h _ (List.getElem_mem hi))
theorem bdL_false_take (zs : List Int) (k : Nat) (h : bdL (zs.take k) = false) : bdL zs = false := by
  unfold bdL at *
  rw [List.all_eq_false] at *
  obtain ⟨x, hx, h⟩ := h
  exact ⟨x, List.mem_of_mem_take hx, h⟩

/-- What a path leads to. -/
def leadO (n i : Nat) (x : Int) (zs : List Int) : Option Int := if bdL zs = true then leadR n i x zs else none

theorem leadR_bd (n : Nat) : ∀ (i : Nat) (x : Int) (zs : List Int) (y : Int), Bd x → leadR n i x zs = some y → Bd y := by
  induction n using Nat.strongRecOn with
  | ind n ih =>
    intro i x zs y hx h
    by_cases h1 : n ≤ 1
    · rw [leadR_one _ _ _ _ h1] at h
      split at h
      · cases h; exact hx
      · cases h
    · by_cases ha : i % 2 = 0 ∧ i + 1 = n
      · rw [leadR_alone _ _ _ _ (by omega) ha] at h
        exact ih _ (by omega) _ _ _ _ hx h
      · cases zs with
        | nil => rw [leadR_nil _ _ _ (by omega) ha] at h; cases h
        | cons p r =>
          rw [leadR_cons _ _ _ _ _ (by omega) ha] at h
          refine ih _ (by omega) _ _ _ _ ?_ h
          split <;> exact node_bd _ _
theorem leadO_bd {n i : Nat} {x : Int} {zs : List Int} {y : Int} (hx : Bd x) (h : leadO n i x zs = some y) : Bd y := by
  unfold leadO at h
  split at h
  · exact leadR_bd _ _ _ _ _ hx h
  · cases h

theorem leadO_snoc {n k i : Nat} {x p : Int} {q : List Int} (hc : IsCut n k) (hi : i < n) :
    leadO n i x (q ++ [p]) = if isSumB p = true then (if i < k then (leadO k i x q).map (fun y => node y p) else (leadO (n - k) (i - k) x q).map (fun y => node p y)) else none := by
  unfold leadO
  rw [bdL_snoc, lead_cut n k i x p q hc hi]
  cases isSumB p <;> cases bdL q <;> simp
theorem leadO_bad {n i : Nat} {x p : Int} {q : List Int} (h : isSumB p = false) : leadO n i x (q ++ [p]) = none := by
  unfold leadO; rw [bdL_snoc, h]; simp
theorem leadO_nil {n i : Nat} {x : Int} (h1 : 1 < n) (hi : i < n) : leadO n i x [] = none := by
  unfold leadO; rw [lead_cut_nil n i x h1 hi]; simp
theorem leadO_one {n i : Nat} {x : Int} (zs : List Int) (h : n ≤ 1) : leadO n i x zs = if zs = [] then some x else none := by
  unfold leadO; rw [leadR_one _ _ _ _ h]
  by_cases hz : zs = []
  · subst hz; rfl
  · rw [if_neg hz]; simp

theorem snoc_of (zs : List Int) (l : Nat) (h : zs.length = l + 1) : ∃ q p, zs = q ++ [p] ∧ q.length = l := by
  rcases List.eq_nil_or_concat zs with rfl | ⟨q, p, rfl⟩
  · simp at h
  · exact ⟨q, p, by rw [List.concat_eq_append], by simpa using h⟩

/-- The value of an answer 'number, whether'. -/
def optV (o : Option Int) : Value := .tuple #[.int .i64 (o.getD 0), .bool o.isSome]

theorem optV_some (y : Int) : optV (some y) = .tuple #[.int .i64 y, .bool true] := rfl

set_option maxHeartbeats 2000000 in
theorem leads_any (m : Nat) : ∀ (n i l : Nat) (x : Int) (a : Option Addr) (zs : List Int) (cap : Nat) (w : World), 1 ≤ n → n ≤ m → n ≤ 200 → i < n → zs.length = l → l ≤ 17592186043904 → Bd x → Ints w a zs → l ≤ cap → cap ≤ maxLen →
    Calls Try.prog 34 #[.int .i64 (n : Int), .int .i64 (i : Int), .int .i64 x, .slice a l cap] w fun e w' => e = .returned (optV (leadO n i x zs)) ∧ Below w.heap.size w w' := by
  induction m with
  | zero => intro n i l x a zs cap w h1 hm; omega
  | succ m ih =>
    intro n i l x a zs cap w h1 hm h200 hi hl hr hx hz hcap hmax
    have IH := hid ih
    clear ih
    have HL := hid hl
    have HZ := hid hz
    unfold maxLen at hmax
    clear hl hz
    by_cases hn1 : n = 1
    · subst hn1
      by_cases hl0 : l = 0
      · subst hl0
        have HO : Hid (leadO 1 i x zs = some x) := by show _ = _; rw [leadO_one _ (Nat.le_refl _), if_pos (List.eq_nil_of_length_eq_zero HL.out)]
        go_enter Try.func34, Try.ntmps34
        go_wp2_with fail
        go_ret2
        exact ⟨by rw [HO.out]; rfl, Below.refl _ _⟩
      · have HO : Hid (leadO 1 i x zs = none) := by
          show _ = _
          rw [leadO_one _ (Nat.le_refl _), if_neg (fun e => by have := HL.out; rw [e] at this; simp at this; omega)]
        have hl0' : ((l : Int) == 0) = false := by simp; omega
        go_enter Try.func34, Try.ntmps34
        go_wp2_with fail
        go_ret2
        exact ⟨by rw [HO.out]; rfl, Below.refl _ _⟩
    · have hn1' : ((n : Int) == 1) = false := by simp; omega
      have hn2 : ¬ (n : Int) ≤ 1 := by omega
      by_cases hl0 : l = 0
      · subst hl0
        have HO : Hid (leadO n i x zs = none) := by
          show _ = _
          rw [List.eq_nil_of_length_eq_zero HL.out, leadO_nil (by omega) hi]
        go_enter Try.func34, Try.ntmps34
        go_wp2_with fail
        go_ret2
        exact ⟨by rw [HO.out]; rfl, Below.refl _ _⟩
      · have hl0' : ((l : Int) == 0) = false := by simp; omega
        obtain ⟨q, p, hqp, hq⟩ := snoc_of zs (l - 1) (by rw [HL.out]; omega)
        subst hqp
        obtain ⟨b, off, rfl, hc⟩ := HZ.out.at (by have := HL.out; omega)
        have hcl : w.cell? ⟨b, off + (l - 1), none⟩ = some (.int .i64 p) := by
          rw [hc (l - 1) (by have := HL.out; omega)]
          rw [List.getElem_append_right (by omega)]
          simp [hq]
        have hqi : Ints w (some ⟨b, off, none⟩) q := .inr ⟨b, off, rfl, fun j hj => by
          rw [hc j (by have := HL.out; omega), List.getElem_append_left hj]⟩
        have HQ := hid hq
        have HQI := hid hqi
        clear hc hqi hq HZ
        have hs1 := isSum_any p w
        cases hsp : isSumB p with
        | false =>
          have HO : Hid (leadO n i x (q ++ [p]) = none) := by
            exact leadO_bad hsp
          unfold isSumB at hsp
          rw [hsp] at hs1
          have HS1 := hid hs1
          clear hs1 hsp
          go_enter Try.func34, Try.ntmps34
          go_wp2_with fail
          refine HS1.out.mono ?_
          rintro e w1 ⟨rfl, rfl⟩
          go_wp2_with fail
          go_ret2
          exact ⟨by rw [HO.out]; rfl, Below.refl _ _⟩
        | true =>
          have hpb := isSumB_true hsp
          have HSP := hid hsp
          unfold isSumB at hsp
          rw [hsp] at hs1
          have HS1 := hid hs1
          clear hs1 hsp
          go_enter Try.func34, Try.ntmps34
          go_wp2_with fail
          refine HS1.out.mono ?_
          rintro e w1 ⟨rfl, rfl⟩
          go_wp2_with fail
          refine (cut_any n _ (by omega) (by omega)).mono ?_
          rintro e w2 ⟨k, rfl, hk, rfl⟩
          have HO := hid (leadO_snoc (x := x) (p := p) (q := q) hk hi)
          have hk1 := hk.2.1
          have hk2 := hk.pos.1
          by_cases hik : i < k
          · have HW := hid (IH.out k i (l - 1) x (some ⟨b, off, none⟩) q cap w2 (by omega) (by omega) (by omega) hik HQ.out (by omega) hx HQI.out (by omega) (by unfold maxLen; omega))
            rw [if_pos HSP.out, if_pos hik] at HO
            cases ho : leadO k i x q with
            | none =>
              rw [ho] at HO HW
              have HO' : Hid (leadO n i x (q ++ [p]) = none) := HO
              have HW' : Hid (Calls Try.prog 34 #[.int .i64 (k : Int), .int .i64 (i : Int), .int .i64 x, .slice (some ⟨b, off, none⟩) (l - 1) cap] w2 fun e w' => e = .returned (.tuple #[.int .i64 0, .bool false]) ∧ Below w2.heap.size w2 w') := HW
              clear HO HW ho HSP HS1
              go_wp2_with fail
              refine HW'.out.mono ?_
              rintro e w3 ⟨rfl, hb3⟩
              go_wp2_with fail
              go_ret2
              exact ⟨by rw [HO'.out]; rfl, hb3⟩
            | some y =>
              have hyb := leadO_bd hx ho
              rw [ho] at HO HW
              have HO' : Hid (leadO n i x (q ++ [p]) = some (node y p)) := HO
              have HW' : Hid (Calls Try.prog 34 #[.int .i64 (k : Int), .int .i64 (i : Int), .int .i64 x, .slice (some ⟨b, off, none⟩) (l - 1) cap] w2 fun e w' => e = .returned (.tuple #[.int .i64 y, .bool true]) ∧ Below w2.heap.size w2 w') := HW
              clear HO HW ho HSP HS1
              go_wp2_with fail
              refine HW'.out.mono ?_
              rintro e w3 ⟨rfl, hb3⟩
              go_wp2_with fail
              refine (node_any y p _ hyb hpb).mono ?_
              rintro e w4 ⟨rfl, hb4⟩
              generalize node y p = z at HO' ⊢
              go_wp2_with fail
              go_ret2
              exact ⟨by rw [HO'.out]; rfl, kept hb3 hb4⟩
          · have hik' : ¬ (i : Int) < (k : Int) := by omega
            have HW := hid (IH.out (n - k) (i - k) (l - 1) x (some ⟨b, off, none⟩) q cap w2 (by omega) (by omega) (by omega) (by omega) HQ.out (by omega) hx HQI.out (by omega) (by unfold maxLen; omega))
            rw [if_pos HSP.out, if_neg hik] at HO
            rw [show (((n - k : Nat)) : Int) = (n : Int) - (k : Int) from by omega, show (((i - k : Nat)) : Int) = (i : Int) - (k : Int) from by omega] at HW
            cases ho : leadO (n - k) (i - k) x q with
            | none =>
              rw [ho] at HO HW
              have HO' : Hid (leadO n i x (q ++ [p]) = none) := HO
              have HW' : Hid (Calls Try.prog 34 #[.int .i64 ((n : Int) - (k : Int)), .int .i64 ((i : Int) - (k : Int)), .int .i64 x, .slice (some ⟨b, off, none⟩) (l - 1) cap] w2 fun e w' => e = .returned (.tuple #[.int .i64 0, .bool false]) ∧ Below w2.heap.size w2 w') := HW
              clear HO HW ho HSP HS1
              go_wp2_with fail
              refine HW'.out.mono ?_
              rintro e w3 ⟨rfl, hb3⟩
              go_wp2_with fail
              go_ret2
              exact ⟨by rw [HO'.out]; rfl, hb3⟩
            | some y =>
              have hyb := leadO_bd hx ho
              rw [ho] at HO HW
              have HO' : Hid (leadO n i x (q ++ [p]) = some (node p y)) := HO
              have HW' : Hid (Calls Try.prog 34 #[.int .i64 ((n : Int) - (k : Int)), .int .i64 ((i : Int) - (k : Int)), .int .i64 x, .slice (some ⟨b, off, none⟩) (l - 1) cap] w2 fun e w' => e = .returned (.tuple #[.int .i64 y, .bool true]) ∧ Below w2.heap.size w2 w') := HW
              clear HO HW ho HSP HS1
              go_wp2_with fail
              refine HW'.out.mono ?_
              rintro e w3 ⟨rfl, hb3⟩
              go_wp2_with fail
              refine (node_any p y _ hpb hyb).mono ?_
              rintro e w4 ⟨rfl, hb4⟩
              generalize node p y = z at HO' ⊢
              go_wp2_with fail
              go_ret2
              exact ⟨by rw [HO'.out]; rfl, kept hb3 hb4⟩

set_option maxHeartbeats 1000000 in
theorem sums_any (l : Nat) (a : Option Addr) (zs : List Int) (cap : Nat) (w : World) (hl : zs.length = l) (hr : l ≤ 17592186043904) (hz : Ints w a zs) :
    Calls Try.prog 35 #[.slice a l cap] w fun e w' => e = .returned (.bool (bdL zs)) ∧ w' = w := by
  have HL := hid hl
  have HZ := hid hz
  clear hl hz
  go_enter Try.func35, Try.ntmps35
  go_wp2
  go_loop [3] (fun i => ∃ k : Nat, k ≤ l ∧ Hid (bdL (zs.take k) = true) ∧ i = .int .i64 k) (fun i => l - (intOf i).toNat)
  case atStart => exact ⟨0, Nat.zero_le _, rfl, rfl⟩
  case round =>
    obtain ⟨k, hk, HK, rfl⟩ := hrel
    by_cases hlt : k < l
    · have hkz : k < zs.length := by rw [HL.out]; exact hlt
      obtain ⟨b, off, rfl, hc⟩ := HZ.out.at (by omega)
      have hck := hc k hkz
      have HT := hid (bdL_take zs k hkz)
      generalize zs[k] = z at hck HT
      clear hc hkz
      by_cases h0 : z < 0
      · have HF : Hid (bdL zs = false) := bdL_false_take zs (k + 1) (by rw [HT.out, HK.out]; simp [isSumB]; omega)
        go_wp2
        go_ret
        exact ⟨by rw [HF.out]; rfl, rfl⟩
      · by_cases h1 : 4092 < z
        · have HF : Hid (bdL zs = false) := bdL_false_take zs (k + 1) (by rw [HT.out, HK.out]; simp [isSumB]; omega)
          go_wp2
          go_ret
          exact ⟨by rw [HF.out]; rfl, rfl⟩
        · have HN : Hid (bdL (zs.take (k + 1)) = true) := by show _ = _; rw [HT.out, HK.out]; simp [isSumB]; omega
          go_wp2
          go_round
          case rel => exact ⟨k + 1, by omega, HN, by go_num⟩
          case measure => simp [intOf]; omega
    · go_wp2
      go_ret
      refine ⟨?_, rfl⟩
      have := HK.out
      rw [List.take_of_length_le (by rw [HL.out]; omega)] at this
      rw [this]; rfl

/-- P6, as a Bool. -/
def withinB (root n i : Int) (e : ByteArray) (zs : List Int) : Bool := decide (1 ≤ n ∧ n ≤ 200 ∧ 0 ≤ i ∧ i < n ∧ e.size ≤ 40) && decide (leadO n.toNat i.toNat (entS e) zs = some root)
theorem withinB_out {root n i : Int} {e : ByteArray} {zs : List Int} (h : ¬ (1 ≤ n ∧ n ≤ 200 ∧ 0 ≤ i ∧ i < n ∧ e.size ≤ 40)) : withinB root n i e zs = false := by
  unfold withinB; rw [decide_eq_false h, Bool.false_and]
theorem withinB_in {root : Int} {n i : Nat} {e : ByteArray} {zs : List Int} (h1 : 1 ≤ n) (h2 : n ≤ 200) (h3 : i < n) (h4 : e.size ≤ 40) : withinB root (n : Int) (i : Int) e zs = decide (leadO n i (entS e) zs = some root) := by
  unfold withinB
  rw [Int.toNat_natCast, Int.toNat_natCast, decide_eq_true (show 1 ≤ (n : Int) ∧ (n : Int) ≤ 200 ∧ 0 ≤ (i : Int) ∧ (i : Int) < (n : Int) ∧ e.size ≤ 40 from ⟨by omega, by omega, by omega, by omega, h4⟩), Bool.true_and]

set_option maxHeartbeats 1000000 in
theorem lwithin_out (root n i : Int) (ent : ByteArray) (v : Value) (zs : List Int) (w : World) (hs : ent.size ≤ maxLen) (h : ¬ (1 ≤ n ∧ n ≤ 200 ∧ 0 ≤ i ∧ i < n ∧ ent.size ≤ 40)) :
    Calls Try.prog 18 #[.int .i64 root, .int .i64 n, .int .i64 i, .string ent, v] w fun e w' => e = .returned (.bool (withinB root n i ent zs)) ∧ w' = w := by
  have HF := hid (withinB_out (root := root) (zs := zs) h)
  have H := hid h
  unfold maxLen at hs
  clear h
  by_cases h1 : n < 1
  · go_enter Try.func18, Try.ntmps18
    go_wp2_with fail
    go_ret
    exact ⟨by rw [HF.out]; rfl, rfl⟩
  by_cases h2 : 200 < n
  · go_enter Try.func18, Try.ntmps18
    go_wp2_with fail
    go_ret
    exact ⟨by rw [HF.out]; rfl, rfl⟩
  by_cases h3 : i < 0
  · go_enter Try.func18, Try.ntmps18
    go_wp2_with fail
    go_ret
    exact ⟨by rw [HF.out]; rfl, rfl⟩
  by_cases h4 : n ≤ i
  · go_enter Try.func18, Try.ntmps18
    go_wp2_with fail
    go_ret
    exact ⟨by rw [HF.out]; rfl, rfl⟩
  have h5 : (40 : Int) < (ent.size : Int) := by have := H.out; omega
  go_enter Try.func18, Try.ntmps18
  go_wp2_with fail
  go_ret
  exact ⟨by rw [HF.out]; rfl, rfl⟩

set_option maxHeartbeats 1000000 in
theorem lwithin_in (root : Int) (n i l : Nat) (ent : ByteArray) (a : Option Addr) (zs : List Int) (cap : Nat) (w : World) (h1 : 1 ≤ n) (h2 : n ≤ 200) (h3 : i < n) (h4 : ent.size ≤ 40) (hl : zs.length = l) (hr : l ≤ 17592186043904) (hz : Ints w a zs) (hcap : l ≤ cap) (hmax : cap ≤ maxLen) :
    Calls Try.prog 18 #[.int .i64 root, .int .i64 (n : Int), .int .i64 (i : Int), .string ent, .slice a l cap] w fun e w' => e = .returned (.bool (withinB root n i ent zs)) ∧ Below w.heap.size w w' := by
  have HB := hid (withinB_in (root := root) (zs := zs) h1 h2 h3 h4)
  have HW := hid (leads_any n n i l (entS ent) a zs cap w h1 (Nat.le_refl _) h2 h3 hl hr (ent_bd _) hz hcap hmax)
  have i1 : ¬ (n : Int) < 1 := by omega
  have i2 : ¬ (200 : Int) < (n : Int) := by omega
  have i3 : ¬ (i : Int) < 0 := by omega
  have i4 : (i : Int) < (n : Int) := by omega
  have i5 : ¬ (40 : Int) < (ent.size : Int) := by omega
  clear hl hz
  cases ho : leadO n i (entS ent) zs with
  | none =>
    rw [ho] at HB HW
    have HB' : Hid (withinB root n i ent zs = false) := HB.out.trans (decide_eq_false (by simp))
    have HW' : Hid (Calls Try.prog 34 #[.int .i64 (n : Int), .int .i64 (i : Int), .int .i64 (entS ent), .slice a l cap] w fun e w' => e = .returned (.tuple #[.int .i64 0, .bool false]) ∧ Below w.heap.size w w') := HW
    clear HB HW ho
    go_enter Try.func18, Try.ntmps18
    go_wp2_with fail
    refine (entry_any ent _ (by omega)).mono ?_
    rintro e w1 ⟨rfl, rfl⟩
    go_wp2_with fail
    refine HW'.out.mono ?_
    rintro e w2 ⟨rfl, hb2⟩
    go_wp2_with fail
    go_ret
    exact ⟨by rw [HB'.out]; rfl, hb2⟩
  | some y =>
    rw [ho] at HB HW
    have HB' : Hid (withinB root n i ent zs = (y == root)) := HB.out.trans (by rw [Bool.eq_iff_iff]; simp)
    have HW' : Hid (Calls Try.prog 34 #[.int .i64 (n : Int), .int .i64 (i : Int), .int .i64 (entS ent), .slice a l cap] w fun e w' => e = .returned (.tuple #[.int .i64 y, .bool true]) ∧ Below w.heap.size w w') := HW
    clear HB HW ho
    go_enter Try.func18, Try.ntmps18
    go_wp2_with fail
    refine (entry_any ent _ (by omega)).mono ?_
    rintro e w1 ⟨rfl, rfl⟩
    go_wp2_with fail
    refine HW'.out.mono ?_
    rintro e w2 ⟨rfl, hb2⟩
    go_wp2_with fail
    go_ret
    exact ⟨by rw [HB'.out]; rfl, hb2⟩

end Go.Proofs.Ytpnjfafloiondaa

/-
  CONTRACTS: logs.Leads (it calls itself), lender.Within; lenderref.sums, Within.
-/
import Derived.Test.YtedblhcehlbbmabDoorWalkHand
import Derived.WalkKit
import Derived.WalkSpells
import Derived.WalkLawsBesides
namespace Go.Proofs.YtedblhcehlbbmabDoor
open Go.RowKit

def isSumB (p : Int) : Bool := decide (0 ≤ p ∧ p ≤ 4092)
/-- All numbers of a path are sums. -/
def bdL (zs : List Int) : Bool := zs.all isSumB
theorem bdL_snoc (q : List Int) (p : Int) : bdL (q ++ [p]) = (bdL q && isSumB p) := by simp [bdL]
theorem bdL_take (zs : List Int) (k : Nat) (h : k < zs.length) : bdL (zs.take (k + 1)) = (bdL (zs.take k) && isSumB zs[k]) := by
  rw [List.take_succ_eq_append_getElem h, bdL_snoc]
theorem isSumB_true {p : Int} (h : isSumB p = true) : Bd p := by unfold isSumB at h; exact of_decide_eq_true (p := 0 ≤ p ∧ p ≤ 4092) h
theorem bdL_mem {zs : List Int} (h : bdL zs = true) (i : Nat) (hi : i < zs.length) : Bd zs[i] := isSumB_true (List.all_eq_true.1 h _ (List.getElem_mem hi))
theorem bdL_false_take (zs : List Int) (k : Nat) (h : bdL (zs.take k) = false) : bdL zs = false := by
  unfold bdL at *
  rw [List.all_eq_false] at *
  obtain ⟨x, hx, h⟩ := h
  exact ⟨x, List.mem_of_mem_take hx, h⟩

/-- What a path leads to. -/
def leadO (n i : Nat) (x : Int) (zs : List Int) : Option Int := if bdL zs = true then leadR n i x zs else none

theorem leadR_bd (n : Nat) : ∀ (i : Nat) (x : Int) (zs : List Int) (y : Int), Bd x → leadR n i x zs = some y → Bd y := by
  induction n using Nat.strongRecOn with
  | ind n ih =>
    intro i x zs y hx h
    by_cases h1 : n ≤ 1
    · rw [leadR_one _ _ _ _ h1] at h
      split at h
      · cases h; exact hx
      · cases h
    · by_cases ha : i % 2 = 0 ∧ i + 1 = n
      · rw [leadR_alone _ _ _ _ (by omega) ha] at h
        exact ih _ (by omega) _ _ _ _ hx h
      · cases zs with
        | nil => rw [leadR_nil _ _ _ (by omega) ha] at h; cases h
        | cons p r =>
          rw [leadR_cons _ _ _ _ _ (by omega) ha] at h
          refine ih _ (by omega) _ _ _ _ ?_ h
          split <;> exact node_bd _ _
theorem leadO_bd {n i : Nat} {x : Int} {zs : List Int} {y : Int} (hx : Bd x) (h : leadO n i x zs = some y) : Bd y := by
  unfold leadO at h
  split at h
  · exact leadR_bd _ _ _ _ _ hx h
  · cases h

theorem leadO_snoc {n k i : Nat} {x p : Int} {q : List Int} (hc : IsCut n k) (hi : i < n) :
    leadO n i x (q ++ [p]) = if isSumB p = true then (if i < k then (leadO k i x q).map (fun y => node y p) else (leadO (n - k) (i - k) x q).map (fun y => node p y)) else none := by
  unfold leadO
  rw [bdL_snoc, lead_cut n k i x p q hc hi]
  cases isSumB p <;> cases bdL q <;> simp
theorem leadO_bad {n i : Nat} {x p : Int} {q : List Int} (h : isSumB p = false) : leadO n i x (q ++ [p]) = none := by
  unfold leadO; rw [bdL_snoc, h]; simp
theorem leadO_nil {n i : Nat} {x : Int} (h1 : 1 < n) (hi : i < n) : leadO n i x [] = none := by
  unfold leadO; rw [lead_cut_nil n i x h1 hi]; simp
theorem leadO_one {n i : Nat} {x : Int} (zs : List Int) (h : n ≤ 1) : leadO n i x zs = if zs = [] then some x else none := by
  unfold leadO; rw [leadR_one _ _ _ _ h]
  by_cases hz : zs = []
  · subst hz; rfl
  · rw [if_neg hz]; simp

theorem snoc_of (zs : List Int) (l : Nat) (h : zs.length = l + 1) : ∃ q p, zs = q ++ [p] ∧ q.length = l := by
  rcases List.eq_nil_or_concat zs with rfl | ⟨q, p, rfl⟩
  · simp at h
  · exact ⟨q, p, by rw [List.concat_eq_append], by simpa using h⟩

/-- The value of an answer 'number, whether'. -/
def optV (o : Option Int) : Value := .tuple #[.int .i64 (o.getD 0), .bool o.isSome]

theorem optV_some (y : Int) : optV (some y) = .tuple #[.int .i64 y, .bool true] := rfl

/-- The text whose sum a path leads to, from the sum of a text. -/
def leadTx (n i : Nat) (t : List UInt8) (zs : List Int) : Option (List UInt8) :=
  if n ≤ 1 then (if zs = [] then some t else none) else
  if zs = [] then none else
  if isSumB (zs.getLastD 0) = true then
    (if i < cutN n then (leadO (cutN n) i (sm t) zs.dropLast).map (fun y => nodeT y (zs.getLastD 0)) else (leadO (n - cutN n) (i - cutN n) (sm t) zs.dropLast).map (fun y => nodeT (zs.getLastD 0) y))
  else none
theorem leadTx_one {n i : Nat} {t : List UInt8} (zs : List Int) (h : n ≤ 1) : leadTx n i t zs = if zs = [] then some t else none := by unfold leadTx; rw [if_pos h]
theorem leadTx_nil {n i : Nat} {t : List UInt8} (h : 1 < n) : leadTx n i t [] = none := by unfold leadTx; rw [if_neg (by omega), if_pos rfl]
theorem leadTx_snoc {n k i : Nat} {t : List UInt8} {p : Int} {q : List Int} (hc : IsCut n k) :
    leadTx n i t (q ++ [p]) = if isSumB p = true then (if i < k then (leadO k i (sm t) q).map (fun y => nodeT y p) else (leadO (n - k) (i - k) (sm t) q).map (fun y => nodeT p y)) else none := by
  have h1 := hc.pos.2
  unfold leadTx
  rw [if_neg (by omega), if_neg (by simp), cutN_of hc, List.dropLast_concat, show (q ++ [p]).getLastD 0 = p by simp]
theorem leadTx_bad {n i : Nat} {t : List UInt8} {p : Int} {q : List Int} (h1 : 1 < n) (h : isSumB p = false) : leadTx n i t (q ++ [p]) = none := by
  rw [leadTx_snoc (cutN_is n h1), h]; simp
theorem map_node_l (o : Option Int) (p : Int) : (o.map (fun y => nodeT y p)).map sm = o.map (fun y => node y p) := by
  cases o with
  | none => rfl
  | some y => simp only [Option.map_some, node]
theorem map_node_r (o : Option Int) (p : Int) : (o.map (fun y => nodeT p y)).map sm = o.map (fun y => node p y) := by
  cases o with
  | none => rfl
  | some y => simp only [Option.map_some, node]
theorem sm_leadTx {n i : Nat} {t : List UInt8} {zs : List Int} (hi : i < n) : (leadTx n i t zs).map sm = leadO n i (sm t) zs := by
  by_cases h1 : n ≤ 1
  · rw [leadTx_one _ h1, leadO_one _ h1]; split <;> rfl
  · rcases List.eq_nil_or_concat zs with rfl | ⟨q, p, rfl⟩
    · rw [leadTx_nil (by omega), leadO_nil (by omega) hi]; rfl
    · rw [List.concat_eq_append, leadTx_snoc (cutN_is n (by omega)), leadO_snoc (cutN_is n (by omega)) hi]
      split
      · split
        · exact map_node_l _ _
        · exact map_node_r _ _
      · rfl
theorem length_leadTx {n i : Nat} {t u : List UInt8} {zs : List Int} (h : leadTx n i t zs = some u) : u.length ≤ t.length + 5 := by
  by_cases h1 : n ≤ 1
  · rw [leadTx_one _ h1] at h
    split at h
    · cases h; omega
    · cases h
  · rcases List.eq_nil_or_concat zs with rfl | ⟨q, p, rfl⟩
    · rw [leadTx_nil (by omega)] at h; cases h
    · rw [List.concat_eq_append, leadTx_snoc (cutN_is n (by omega))] at h
      split at h
      · split at h
        · obtain ⟨y, _, rfl⟩ := Option.map_eq_some_iff.1 h
          rw [length_nodeT]; omega
        · obtain ⟨y, _, rfl⟩ := Option.map_eq_some_iff.1 h
          rw [length_nodeT]; omega
      · cases h
theorem leadTx_none {n i : Nat} {t : List UInt8} {zs : List Int} (hi : i < n) (h : leadTx n i t zs = none) : leadO n i (sm t) zs = none := by rw [← sm_leadTx hi, h]; rfl
theorem leadTx_some {n i : Nat} {t u : List UInt8} {zs : List Int} (hi : i < n) (h : leadTx n i t zs = some u) : leadO n i (sm t) zs = some (sm u) := by rw [← sm_leadTx hi, h]; rfl

/-- The value of an answer 'text, whether'. -/
def optT (o : Option (List UInt8)) : Value := .tuple #[.string (bs (o.getD [])), .bool o.isSome]

set_option maxHeartbeats 2000000 in
theorem leads_any (m : Nat) : ∀ (n i l : Nat) (t : List UInt8) (a : Option Addr) (zs : List Int) (cap : Nat) (w : World), 1 ≤ n → n ≤ m → n ≤ 200 → i < n → zs.length = l → l ≤ 17592186043904 → t.length ≤ 1000000 → Ints w a zs → l ≤ cap → cap ≤ maxLen →
    Calls Tryd.prog 33 #[.int .i64 (n : Int), .int .i64 (i : Int), .string (bs t), .slice a l cap] w fun e w' => e = .returned (optT (leadTx n i t zs)) ∧ Below w.heap.size w w' := by
  induction m with
  | zero => intro n i l t a zs cap w h1 hm; omega
  | succ m ih =>
    intro n i l t a zs cap w h1 hm h200 hi hl hr ht hz hcap hmax
    have IH := hid ih
    clear ih
    have HL := hid hl
    have HZ := hid hz
    have HT := hid ht
    unfold maxLen at hmax
    clear hl hz ht
    by_cases hn1 : n = 1
    · subst hn1
      by_cases hl0 : l = 0
      · subst hl0
        have HO : Hid (leadTx 1 i t zs = some t) := by show _ = _; rw [leadTx_one _ (Nat.le_refl _), if_pos (List.eq_nil_of_length_eq_zero HL.out)]
        go_enter Tryd.func33, Tryd.ntmps33
        go_wp2_with fail
        go_ret2
        exact ⟨by rw [HO.out]; rfl, Below.refl _ _⟩
      · have HO : Hid (leadTx 1 i t zs = none) := by
          show _ = _
          rw [leadTx_one _ (Nat.le_refl _), if_neg (fun e => by have := HL.out; rw [e] at this; simp at this; omega)]
        have hl0' : ((l : Int) == 0) = false := by simp; omega
        go_enter Tryd.func33, Tryd.ntmps33
        go_wp2_with fail
        go_ret2
        exact ⟨by rw [HO.out]; rfl, Below.refl _ _⟩
    · have hn1' : ((n : Int) == 1) = false := by simp; omega
      have hn2 : ¬ (n : Int) ≤ 1 := by omega
      by_cases hl0 : l = 0
      · subst hl0
        have HO : Hid (leadTx n i t zs = none) := by
          show _ = _
          rw [List.eq_nil_of_length_eq_zero HL.out, leadTx_nil (by omega)]
        go_enter Tryd.func33, Tryd.ntmps33
        go_wp2_with fail
        go_ret2
        exact ⟨by rw [HO.out]; rfl, Below.refl _ _⟩
      · have hl0' : ((l : Int) == 0) = false := by simp; omega
        obtain ⟨q, p, hqp, hq⟩ := snoc_of zs (l - 1) (by rw [HL.out]; omega)
        subst hqp
        obtain ⟨b, off, rfl, hc⟩ := HZ.out.at (by have := HL.out; omega)
        have hcl : w.cell? ⟨b, off + (l - 1), none⟩ = some (.int .i64 p) := by
          rw [hc (l - 1) (by have := HL.out; omega)]
          rw [List.getElem_append_right (by omega)]
          simp [hq]
        have hqi : Ints w (some ⟨b, off, none⟩) q := .inr ⟨b, off, rfl, fun j hj => by
          rw [hc j (by have := HL.out; omega), List.getElem_append_left hj]⟩
        have HQ := hid hq
        have HQI := hid hqi
        clear hc hqi hq HZ
        have hs1 := isSum_any p w
        cases hsp : isSumB p with
        | false =>
          have HO : Hid (leadTx n i t (q ++ [p]) = none) := by
            exact leadTx_bad (by omega) hsp
          unfold isSumB at hsp
          rw [hsp] at hs1
          have HS1 := hid hs1
          clear hs1 hsp
          go_enter Tryd.func33, Tryd.ntmps33
          go_wp2_with fail
          refine HS1.out.mono ?_
          rintro e w1 ⟨rfl, rfl⟩
          go_wp2_with fail
          go_ret2
          exact ⟨by rw [HO.out]; rfl, Below.refl _ _⟩
        | true =>
          have hpb := isSumB_true hsp
          have HSP := hid hsp
          unfold isSumB at hsp
          rw [hsp] at hs1
          have HS1 := hid hs1
          clear hs1 hsp
          go_enter Tryd.func33, Tryd.ntmps33
          go_wp2_with fail
          refine HS1.out.mono ?_
          rintro e w1 ⟨rfl, rfl⟩
          go_wp2_with fail
          refine (cut_any n _ (by omega) (by omega)).mono ?_
          rintro e w2 ⟨k, rfl, hk, rfl⟩
          have HO := hid (leadTx_snoc (i := i) (t := t) (p := p) (q := q) hk)
          have hk1 := hk.2.1
          have hk2 := hk.pos.1
          by_cases hik : i < k
          · have HW := hid (IH.out k i (l - 1) t (some ⟨b, off, none⟩) q cap w2 (by omega) (by omega) (by omega) hik HQ.out (by omega) HT.out HQI.out (by omega) (by unfold maxLen; omega))
            rw [if_pos HSP.out, if_pos hik] at HO
            cases ho : leadTx k i t q with
            | none =>
              have ho' := leadTx_none hik ho
              rw [ho'] at HO
              rw [ho] at HW
              have HO' : Hid (leadTx n i t (q ++ [p]) = none) := HO
              have HW' : Hid (Calls Tryd.prog 33 #[.int .i64 (k : Int), .int .i64 (i : Int), .string (bs t), .slice (some ⟨b, off, none⟩) (l - 1) cap] w2 fun e w' => e = .returned (.tuple #[.string ⟨#[]⟩, .bool false]) ∧ Below w2.heap.size w2 w') := HW
              clear HO HW ho ho' HSP HS1
              go_wp2_with fail
              refine HW'.out.mono ?_
              rintro e w3 ⟨rfl, hb3⟩
              go_wp2_with fail
              go_ret2
              exact ⟨by rw [HO'.out]; rfl, hb3⟩
            | some u =>
              have ho' := leadTx_some hik ho
              have HU : Hid (u.length ≤ 1000005) := by show _ ≤ _; have := length_leadTx ho; have := HT.out; omega
              rw [ho'] at HO
              rw [ho] at HW
              have HO' : Hid (leadTx n i t (q ++ [p]) = some (nodeT (sm u) p)) := HO
              have HW' : Hid (Calls Tryd.prog 33 #[.int .i64 (k : Int), .int .i64 (i : Int), .string (bs t), .slice (some ⟨b, off, none⟩) (l - 1) cap] w2 fun e w' => e = .returned (.tuple #[.string (bs u), .bool true]) ∧ Below w2.heap.size w2 w') := HW
              clear HO HW ho ho' HSP HS1
              go_wp2_with fail
              refine HW'.out.mono ?_
              rintro e w3 ⟨rfl, hb3⟩
              go_wp2_with fail
              refine (sum_any _ _ (by rw [size_bs]; have := HU.out; unfold maxLen; omega)).mono ?_
              rintro e w4 ⟨rfl, rfl⟩
              rw [toList_bs]
              have hyb : Bd (sm u) := sm_bd _
              generalize sm u = y at HO' hyb ⊢
              go_wp2_with fail
              refine (nodeText_any y p _ hyb hpb).mono ?_
              rintro e w5 ⟨rfl, hb5⟩
              generalize nodeT y p = z at HO' ⊢
              go_wp2_with fail
              go_ret2
              exact ⟨by rw [HO'.out]; rfl, kept hb3 hb5⟩
          · have hik' : ¬ (i : Int) < (k : Int) := by omega
            have HW := hid (IH.out (n - k) (i - k) (l - 1) t (some ⟨b, off, none⟩) q cap w2 (by omega) (by omega) (by omega) (by omega) HQ.out (by omega) HT.out HQI.out (by omega) (by unfold maxLen; omega))
            rw [if_pos HSP.out, if_neg hik] at HO
            rw [show (((n - k : Nat)) : Int) = (n : Int) - (k : Int) from by omega, show (((i - k : Nat)) : Int) = (i : Int) - (k : Int) from by omega] at HW
            cases ho : leadTx (n - k) (i - k) t q with
            | none =>
              have ho' := leadTx_none (by omega) ho
              rw [ho'] at HO
              rw [ho] at HW
              have HO' : Hid (leadTx n i t (q ++ [p]) = none) := HO
              have HW' : Hid (Calls Tryd.prog 33 #[.int .i64 ((n : Int) - (k : Int)), .int .i64 ((i : Int) - (k : Int)), .string (bs t), .slice (some ⟨b, off, none⟩) (l - 1) cap] w2 fun e w' => e = .returned (.tuple #[.string ⟨#[]⟩, .bool false]) ∧ Below w2.heap.size w2 w') := HW
              clear HO HW ho ho' HSP HS1
              go_wp2_with fail
              refine HW'.out.mono ?_
              rintro e w3 ⟨rfl, hb3⟩
              go_wp2_with fail
              go_ret2
              exact ⟨by rw [HO'.out]; rfl, hb3⟩
            | some u =>
              have ho' := leadTx_some (by omega) ho
              have HU : Hid (u.length ≤ 1000005) := by show _ ≤ _; have := length_leadTx ho; have := HT.out; omega
              rw [ho'] at HO
              rw [ho] at HW
              have HO' : Hid (leadTx n i t (q ++ [p]) = some (nodeT p (sm u))) := HO
              have HW' : Hid (Calls Tryd.prog 33 #[.int .i64 ((n : Int) - (k : Int)), .int .i64 ((i : Int) - (k : Int)), .string (bs t), .slice (some ⟨b, off, none⟩) (l - 1) cap] w2 fun e w' => e = .returned (.tuple #[.string (bs u), .bool true]) ∧ Below w2.heap.size w2 w') := HW
              clear HO HW ho ho' HSP HS1
              go_wp2_with fail
              refine HW'.out.mono ?_
              rintro e w3 ⟨rfl, hb3⟩
              go_wp2_with fail
              refine (sum_any _ _ (by rw [size_bs]; have := HU.out; unfold maxLen; omega)).mono ?_
              rintro e w4 ⟨rfl, rfl⟩
              rw [toList_bs]
              have hyb : Bd (sm u) := sm_bd _
              generalize sm u = y at HO' hyb ⊢
              go_wp2_with fail
              refine (nodeText_any p y _ hpb hyb).mono ?_
              rintro e w5 ⟨rfl, hb5⟩
              generalize nodeT p y = z at HO' ⊢
              go_wp2_with fail
              go_ret2
              exact ⟨by rw [HO'.out]; rfl, kept hb3 hb5⟩

/-- P6, as a Bool. -/
def withinB (root n i : Int) (e : ByteArray) (zs : List Int) : Bool := decide (1 ≤ n ∧ n ≤ 200 ∧ 0 ≤ i ∧ i < n ∧ e.size ≤ 40) && decide (leadO n.toNat i.toNat (entS e) zs = some root)
theorem withinB_out {root n i : Int} {e : ByteArray} {zs : List Int} (h : ¬ (1 ≤ n ∧ n ≤ 200 ∧ 0 ≤ i ∧ i < n ∧ e.size ≤ 40)) : withinB root n i e zs = false := by
  unfold withinB; rw [decide_eq_false h, Bool.false_and]
theorem withinB_in {root : Int} {n i : Nat} {e : ByteArray} {zs : List Int} (h1 : 1 ≤ n) (h2 : n ≤ 200) (h3 : i < n) (h4 : e.size ≤ 40) : withinB root (n : Int) (i : Int) e zs = decide (leadO n i (entS e) zs = some root) := by
  unfold withinB
  rw [Int.toNat_natCast, Int.toNat_natCast, decide_eq_true (show 1 ≤ (n : Int) ∧ (n : Int) ≤ 200 ∧ 0 ≤ (i : Int) ∧ (i : Int) < (n : Int) ∧ e.size ≤ 40 from ⟨by omega, by omega, by omega, by omega, h4⟩), Bool.true_and]

set_option maxHeartbeats 1000000 in
theorem lwithin_out (root n i : Int) (ent : ByteArray) (v : Value) (zs : List Int) (w : World) (hs : ent.size ≤ maxLen) (h : ¬ (1 ≤ n ∧ n ≤ 200 ∧ 0 ≤ i ∧ i < n ∧ ent.size ≤ 40)) :
    Calls Tryd.prog 13 #[.int .i64 root, .int .i64 n, .int .i64 i, .string ent, v] w fun e w' => e = .returned (.bool (withinB root n i ent zs)) ∧ w' = w := by
  have HF := hid (withinB_out (root := root) (zs := zs) h)
  have H := hid h
  unfold maxLen at hs
  clear h
  by_cases h1 : n < 1
  · go_enter Tryd.func13, Tryd.ntmps13
    go_wp2_with fail
    go_ret
    exact ⟨by rw [HF.out]; rfl, rfl⟩
  by_cases h2 : 200 < n
  · go_enter Tryd.func13, Tryd.ntmps13
    go_wp2_with fail
    go_ret
    exact ⟨by rw [HF.out]; rfl, rfl⟩
  by_cases h3 : i < 0
  · go_enter Tryd.func13, Tryd.ntmps13
    go_wp2_with fail
    go_ret
    exact ⟨by rw [HF.out]; rfl, rfl⟩
  by_cases h4 : n ≤ i
  · go_enter Tryd.func13, Tryd.ntmps13
    go_wp2_with fail
    go_ret
    exact ⟨by rw [HF.out]; rfl, rfl⟩
  have h5 : (40 : Int) < (ent.size : Int) := by have := H.out; omega
  go_enter Tryd.func13, Tryd.ntmps13
  go_wp2_with fail
  go_ret
  exact ⟨by rw [HF.out]; rfl, rfl⟩

set_option maxHeartbeats 1000000 in
theorem lwithin_in (root : Int) (n i l : Nat) (ent : ByteArray) (a : Option Addr) (zs : List Int) (cap : Nat) (w : World) (h1 : 1 ≤ n) (h2 : n ≤ 200) (h3 : i < n) (h4 : ent.size ≤ 40) (hl : zs.length = l) (hr : l ≤ 17592186043904) (hz : Ints w a zs) (hcap : l ≤ cap) (hmax : cap ≤ maxLen) :
    Calls Tryd.prog 13 #[.int .i64 root, .int .i64 (n : Int), .int .i64 (i : Int), .string ent, .slice a l cap] w fun e w' => e = .returned (.bool (withinB root n i ent zs)) ∧ Below w.heap.size w w' := by
  have HB := hid (withinB_in (root := root) (zs := zs) h1 h2 h3 h4)
  have HW := hid (leads_any n n i l (entT ent.data.toList) a zs cap w h1 (Nat.le_refl _) h2 h3 hl hr (by rw [length_entT]; simp; omega) hz hcap hmax)
  have i1 : ¬ (n : Int) < 1 := by omega
  have i2 : ¬ (200 : Int) < (n : Int) := by omega
  have i3 : ¬ (i : Int) < 0 := by omega
  have i4 : (i : Int) < (n : Int) := by omega
  have i5 : ¬ (40 : Int) < (ent.size : Int) := by omega
  clear hl hz
  cases ho : leadTx n i (entT ent.data.toList) zs with
  | none =>
    have ho' : leadO n i (entS ent) zs = none := leadTx_none h3 ho
    rw [ho'] at HB
    rw [ho] at HW
    have HB' : Hid (withinB root n i ent zs = false) := HB.out.trans (decide_eq_false (by simp))
    have HW' : Hid (Calls Tryd.prog 33 #[.int .i64 (n : Int), .int .i64 (i : Int), .string (bs (entT ent.data.toList)), .slice a l cap] w fun e w' => e = .returned (.tuple #[.string ⟨#[]⟩, .bool false]) ∧ Below w.heap.size w w') := HW
    clear HB HW ho ho'
    go_enter Tryd.func13, Tryd.ntmps13
    go_wp2_with fail
    refine (entryText_any ent _ (by omega)).mono ?_
    rintro e w1 ⟨rfl, rfl⟩
    go_wp2_with fail
    refine HW'.out.mono ?_
    rintro e w2 ⟨rfl, hb2⟩
    go_wp2_with fail
    go_ret
    exact ⟨by rw [HB'.out]; rfl, hb2⟩
  | some u =>
    have ho' : leadO n i (entS ent) zs = some (sm u) := leadTx_some h3 ho
    have HU : Hid (u.length ≤ 1000) := by show _ ≤ _; have := length_leadTx ho; rw [length_entT] at this; simp at this; omega
    rw [ho'] at HB
    rw [ho] at HW
    have HB' : Hid (withinB root n i ent zs = (sm u == root)) := HB.out.trans (by rw [Bool.eq_iff_iff]; simp)
    have HW' : Hid (Calls Tryd.prog 33 #[.int .i64 (n : Int), .int .i64 (i : Int), .string (bs (entT ent.data.toList)), .slice a l cap] w fun e w' => e = .returned (.tuple #[.string (bs u), .bool true]) ∧ Below w.heap.size w w') := HW
    clear HB HW ho ho'
    go_enter Tryd.func13, Tryd.ntmps13
    go_wp2_with fail
    refine (entryText_any ent _ (by omega)).mono ?_
    rintro e w1 ⟨rfl, rfl⟩
    go_wp2_with fail
    refine HW'.out.mono ?_
    rintro e w2 ⟨rfl, hb2⟩
    go_wp2_with fail
    refine (sum_any _ _ (by rw [size_bs]; have := HU.out; unfold maxLen; omega)).mono ?_
    rintro e w3 ⟨rfl, rfl⟩
    rw [toList_bs]
    generalize sm u = y at HB' ⊢
    go_wp2_with fail
    go_ret
    exact ⟨by rw [HB'.out]; rfl, hb2⟩

end Go.Proofs.YtedblhcehlbbmabDoor

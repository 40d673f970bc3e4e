/-
  CONTRACTS: lenderref.fits, Accepts.
-/
import Derived.Test.YtedblhcehlbbmaaDoorWalkRefAcc
import Derived.Test.YtedblhcehlbbmaaDoorBlkAcc
import Derived.WalkKit
import Derived.WalkSpells
import Derived.WalkLawsBesides
import Derived.Deep.QuietTactic
import Derived.BigQuiet
import Derived.Deep.RegionHeld3
namespace Go.Proofs.YtedblhcehlbbmaaDoor
open Go.RowKit

set_option maxRecDepth 20000 in
set_option maxHeartbeats 4000000 in
theorem fits_any (a : Acc) (w : World) : Calls Tryd.prog 14 #[accV a] w fun e w' => e = .returned (.bool (fitsB a)) ∧ Below w.heap.size w w' := by
  obtain ⟨L, hL⟩ : ∃ L, L = w.heap.size := ⟨_, rfl⟩
  unfold accV
  go_enter Tryd.func14, Tryd.ntmps14
  go_wp2_with fail
  rw [← hL]
  generalize hw1 : World.alloc (World.alloc w _) _ = w1
  have HBA : Hid (BlkA w1 L a) := by
    show BlkA _ _ _
    rw [← hw1, hL]
    exact BlkA.kept (BlkA.new w a) ((Below.refl _ _).alloc (Nat.le_refl _) _)
  have HIN : Hid (Ints w1 (some ⟨L + 1, 0, none⟩) (stI a.st)) := by
    show Ints _ _ _
    have := Ints.six (w.alloc (.cells (accC a) 26)) a.st
    rw [show (w.alloc (.cells (accC a) 26)).heap.size = L + 1 by simp [hL]] at this
    rw [← hw1]
    exact this
  have HB1 : Hid (Below w.heap.size w w1) := by show Below _ _ _; rw [← hw1]; exact ((Below.refl _ _).alloc (Nat.le_refl _) _).alloc (by simp) _
  clear hw1 hL
  go_loop [2, 4] (fun _ i => ∃ k : Nat, k ≤ 6 ∧ i = .int .i64 (k : Int) ∧ Hid (∀ j (h : j < (stI a.st).length), j < k → 0 ≤ (stI a.st)[j])) (fun _ i => 6 - (intOf i).toNat)
  case atStart => exact ⟨0, Nat.zero_le _, rfl, fun j _ h => by omega⟩
  case round =>
    obtain ⟨k, hk, rfl, HA⟩ := hrel
    by_cases hlt : k < 6
    · have hkl : k < (stI a.st).length := hlt
      obtain ⟨b, off, hb0, hc⟩ := HIN.out.at (by show 0 < 6; omega)
      cases hb0
      have h0 := hc k hkl
      rw [Nat.zero_add] at h0
      have i1 : (0 : Int) ≤ (k : Int) := by omega
      have i2 : (k : Int) < 6 := by omega
      by_cases hneg : (stI a.st)[k] < 0
      · have HNF : Hid (fitsB a = false) := fitsB_not fun h => by have := h.st _ (List.getElem_mem hkl); omega
        generalize (stI a.st)[k] = z at *
        clear hc hkl
        go_wp2_with fail
        go_ret
        exact ⟨by rw [HNF.out]; rfl, HB1.out⟩
      · have HA2 : Hid (∀ j (h : j < (stI a.st).length), j < k + 1 → 0 ≤ (stI a.st)[j]) := fun j h hj => by
          by_cases hjk : j < k
          · exact HA.out j h hjk
          · obtain rfl : j = k := by omega
            omega
        generalize (stI a.st)[k] = z at *
        clear hc hkl
        go_wp2_with fail
        go_round
        case rel => exact ⟨k + 1, by omega, by go_num, HA2⟩
        case measure => simp [intOf]; omega
    · have HST : Hid (∀ z ∈ stI a.st, 0 ≤ z) := fun z hz => by
        obtain ⟨j, hj, rfl⟩ := List.getElem_of_mem hz
        exact HA.out j hj (by have : j < 6 := hj; omega)
      have hlog : w1.cell? ⟨L, 8, none⟩ = some (.int .i64 a.log) := HBA.out.cell 8 _ rfl
      clear HA HIN
      go_wp2_with fail
      obtain ⟨G2, hG2⟩ : ∃ G, G = w1.heap.size := ⟨_, rfl⟩
      rw [← hG2]
      have HO0 : Hid (Own (w1.alloc (.cells #[.int .i64 a.log] 3)) G2 (.slice (some ⟨G2, 0, none⟩) 1 1) (a.log :: a.path.take 0)) := by
        rw [hG2]
        exact ⟨rfl, .inr ⟨w1.heap.size, 1, #[.int .i64 a.log], rfl, Nat.le_refl _, heap_alloc_new w1 _, Nat.le_refl _, by decide, rfl, rfl⟩⟩
      have HBA2 := hid (HBA.out.kept ((Below.refl _ _).alloc (Nat.le_refl _) (.cells #[.int .i64 a.log] 3)))
      have HB2 := hid (HB1.out.alloc HB1.out.size (.cells #[.int .i64 a.log] 3))
      have HLG : Hid (L < G2 ∧ w.heap.size ≤ G2) := ⟨by rw [hG2]; exact lt_of_block HBA.out, by rw [hG2]; exact HB1.out.size⟩
      have hG3 : G2 ≤ (w1.alloc (.cells #[.int .i64 a.log] 3)).heap.size := by rw [hG2]; simp
      generalize World.alloc w1 _ = w2 at *
      clear hlog HBA HB1 hG2
      go_loopw [5, 6] (fun v i wr => ∃ k : Nat, k ≤ 6 ∧ i = .int .i64 (k : Int) ∧ Hid (Own wr G2 v (a.log :: a.path.take k)) ∧ Below G2 w2 wr) (fun _ i _ => 6 - (intOf i).toNat)
      case atStart => exact ⟨0, Nat.zero_le _, rfl, HO0, Below.refl _ _⟩
      case round =>
        obtain ⟨k, hk, rfl, HO, hbel⟩ := hrel
        have hszr := hbel.size
        have HBA : Hid (BlkA wr L a) := by
          have := HBA2.out
          unfold BlkA at this
          show BlkA _ _ _
          unfold BlkA
          rw [hbel.block L HLG.out.1]
          exact this
        have hG4 : G2 ≤ wr.heap.size := Nat.le_trans hG3 hszr
        by_cases hlt : k < 6
        · have hp := HBA.out.path k hlt
          have HE : Hid (a.log :: a.path.take (k + 1) = (a.log :: a.path.take k) ++ [a.path[k]'hlt]) := by
            show _ = _
            rw [List.take_succ_eq_append_getElem (show k < a.path.length from hlt)]; rfl
          have HKL : Hid ((a.log :: a.path.take k).length ≤ 1000000) := by show _ ≤ _; rw [List.length_cons, List.length_take, Acc.path_len]; omega
          generalize a.path[k]'hlt = z at *
          obtain ⟨c0, cp0, rfl, _, _, _⟩ := HO.out.form
          have i1 : (0 : Int) ≤ (k : Int) := by omega
          have i2 : (k : Int) < 6 := by omega
          have hLw : L < wr.heap.size := World.block_lt_of_cell? _ _ hp
          go_wp2_with (at_builtin; refine wpList_app rfl _ _ rfl G2 _ _ z rfl (HO.out.alloc _) wr.heap.size 1 rfl (cell_alloc_one _ _ _) HKL.out (by simp; omega) ?_)
          intro v' w3 hO3 hb3
          have HO3 : Hid (Own w3 G2 v' (a.log :: a.path.take (k + 1))) := by show Own _ _ _ _; rw [HE.out]; exact hO3
          have hk3 : Below G2 w2 w3 := (hbel.alloc hG4 _).trans hb3
          obtain ⟨c3, cp3, hv3, _, _, _⟩ := HO3.out.form
          clear hO3 hb3 hp
          go_wp2_with fail
          go_roundw
          case rel => exact ⟨k + 1, by omega, by go_num, HO3, hk3⟩
          case measure => simp [intOf]; omega
        · have HX : Hid (a.path.take k = a.path) := List.take_of_length_le (by rw [Acc.path_len]; omega)
          rw [HX.out] at HO
          obtain ⟨c0, cp0, rfl, _, _, hI⟩ := HO.out.form
          have HSM := hid (sums_any 7 c0 (a.log :: a.path) cp0 wr rfl (by omega) hI)
          have hbw : Below w.heap.size w wr := HB2.out.trans (hbel.mono HLG.out.2)
          have x0 : wr.cell? ⟨L, 0, none⟩ = some (.int .i64 a.loan) := HBA.out.cell 0 _ rfl
          have x7 : wr.cell? ⟨L, 7, none⟩ = some (.int .i64 a.size) := HBA.out.cell 7 _ rfl
          have HF : Hid (fitsB a = (bdL (a.log :: a.path) && decide (0 ≤ a.loan ∧ a.loan ≤ 63) && decide (0 ≤ a.size ∧ a.size ≤ 200))) := by
            show _ = _
            have : (stI a.st).all (fun z => decide (0 ≤ z)) = true := List.all_eq_true.2 fun z hz => decide_eq_true (HST.out z hz)
            unfold fitsB
            rw [this, Bool.true_and]; rfl
          clear hI HO HBA HBA2 HO0 HB2 HLG
          generalize bdL (a.log :: a.path) = bb at HSM HF
          generalize a.loan = lo at x0 HF ⊢
          generalize a.size = sz at x7 HF ⊢
          go_wp2_with fail
          refine HSM.out.mono ?_
          rintro e w4 ⟨rfl, rfl⟩
          cases bb
          · go_wp2_with fail
            go_ret
            exact ⟨by rw [HF.out]; rfl, hbw⟩
          · by_cases q0 : 0 ≤ lo
            · by_cases q1 : lo ≤ 63
              · by_cases q2 : 0 ≤ sz
                · by_cases q3 : sz ≤ 200
                  · have HV : Hid (fitsB a = true) := by show _ = _; rw [HF.out, decide_eq_true ⟨q0, q1⟩, decide_eq_true ⟨q2, q3⟩]; rfl
                    go_wp2_with fail
                    go_ret
                    exact ⟨by rw [HV.out]; rfl, hbw⟩
                  · have HV : Hid (fitsB a = false) := by show _ = _; rw [HF.out, decide_eq_false (p := 0 ≤ sz ∧ sz ≤ 200) (fun h => q3 h.2), Bool.and_false]
                    go_wp2_with fail
                    go_ret
                    exact ⟨by rw [HV.out]; show Ending.returned (.bool (decide (sz ≤ 200))) = _; rw [decide_eq_false (Int.not_le.2 q3)], hbw⟩
                · have HV : Hid (fitsB a = false) := by show _ = _; rw [HF.out, decide_eq_false (p := 0 ≤ sz ∧ sz ≤ 200) (fun h => q2 h.1), Bool.and_false]
                  go_wp2_with fail
                  go_ret
                  exact ⟨by rw [HV.out]; rfl, hbw⟩
              · have HV : Hid (fitsB a = false) := by show _ = _; rw [HF.out, decide_eq_false (p := 0 ≤ lo ∧ lo ≤ 63) (fun h => q1 h.2), Bool.and_false, Bool.false_and]
                go_wp2_with fail
                go_ret
                exact ⟨by rw [HV.out]; rfl, hbw⟩
            · have HV : Hid (fitsB a = false) := by show _ = _; rw [HF.out, decide_eq_false (p := 0 ≤ lo ∧ lo ≤ 63) (fun h => q0 h.1), Bool.and_false, Bool.false_and]
              go_wp2_with fail
              go_ret
              exact ⟨by rw [HV.out]; rfl, hbw⟩

theorem headSum_any (n l m : Int) (w : World) : Calls Tryd.prog 17 #[.string (bs (headT n l m))] w fun e w' => e = .returned (.int .i64 (sm (headT n l m))) ∧ Below w.heap.size w w' := by
  have := rsum_any (bs (headT n l m)) w (by rw [size_bs, length_headT]; decide)
  rw [toList_bs] at this
  exact this

set_option maxRecDepth 20000 in
set_option maxHeartbeats 4000000 in
theorem raccepts_any (top : Int) (a : Acc) (w : World) (h : Acc64 a) (ht : TabOk w) : Calls Tryd.prog 6 #[.int .i64 top, accV a] w fun e w' => e = .returned (.bool (accB top a)) ∧ Below w.heap.size w w' := by
  have HF := hid (fun w => fits_any a w)
  have HT := hid ht
  have H64 := hid h
  clear h ht
  obtain ⟨L, hL⟩ : ∃ L, L = w.heap.size := ⟨_, rfl⟩
  unfold accV at *
  cases hf : fitsB a
  · have HV : Hid (accB top a = false) := by show _ = _; unfold accB; rw [hf, Bool.false_and]
    rw [hf] at HF
    clear hf hL
    go_enter Tryd.func6, Tryd.ntmps6
    go_wp2_with fail
    refine (HF.out _).mono ?_
    rintro e w1 ⟨rfl, hb1⟩
    go_wp2_with fail
    go_ret
    exact ⟨by rw [HV.out]; rfl, kept ((Below.refl _ _).alloc (Nat.le_refl _) _) hb1⟩
  · have HV : Hid (accB top a = decide (accTop a = top)) := by show _ = _; unfold accB; rw [hf, Bool.true_and]
    have HFT := hid (fitsB_true hf)
    rw [hf] at HF
    clear hf
    go_enter Tryd.func6, Tryd.ntmps6
    go_wp2_with fail
    refine (HF.out _).mono ?_
    rintro e w1 ⟨rfl, hb1⟩
    rw [← hL]
    have HBA : Hid (BlkA w1 L a) := by show BlkA _ _ _; rw [hL]; exact BlkA.kept (BlkA.new w a) hb1
    have hk1 : Below w.heap.size w w1 := kept ((Below.refl _ _).alloc (Nat.le_refl _) _) hb1
    clear hb1 hL
    have x0 : w1.cell? ⟨L, 0, none⟩ = some (.int .i64 a.loan) := HBA.out.cell 0 _ rfl
    have x1 : w1.cell? ⟨L, 1, none⟩ = some (.int .i64 a.st.principal) := HBA.out.cell 1 _ rfl
    have x2 : w1.cell? ⟨L, 2, none⟩ = some (.int .i64 a.st.due) := HBA.out.cell 2 _ rfl
    have x3 : w1.cell? ⟨L, 3, none⟩ = some (.int .i64 a.st.rate) := HBA.out.cell 3 _ rfl
    have x4 : w1.cell? ⟨L, 4, none⟩ = some (.int .i64 a.st.day) := HBA.out.cell 4 _ rfl
    have x5 : w1.cell? ⟨L, 5, none⟩ = some (.int .i64 a.st.spare) := HBA.out.cell 5 _ rfl
    have x6 : w1.cell? ⟨L, 6, none⟩ = some (.int .i64 a.st.count) := HBA.out.cell 6 _ rfl
    have HST := hid (rstated_any a.st w1 H64.out.2.1 (HT.out.kept hk1))
    unfold stV at HST
    go_wp2_with fail
    refine HST.out.mono ?_
    rintro e w2 ⟨rfl, hb2⟩
    have HBA2 := hid (HBA.out.kept hb2)
    have hk2 := kept hk1 hb2
    have x0 : w2.cell? ⟨L, 0, none⟩ = some (.int .i64 a.loan) := HBA2.out.cell 0 _ rfl
    clear x1 x2 x3 x4 x5 x6 HBA HST hb2 hk1
    go_wp2_with fail
    have HX0 : Hid (sm (stT a.st) = accX a 0) := rfl
    rw [HX0.out]
    go_loopw [6, 7, 8] (fun x l d wr => ∃ k : Nat, k ≤ 6 ∧ d = .int .i64 (k : Int) ∧ x = .int .i64 (accX a k) ∧ l = .int .i64 (a.loan / 2 ^ k) ∧ Below w2.heap.size w2 wr) (fun _ _ d _ => 6 - (intOf d).toNat)
    case atStart => exact ⟨0, Nat.zero_le _, rfl, rfl, by simp, Below.refl _ _⟩
    case round =>
      obtain ⟨k, hk, rfl, rfl, rfl, hbel⟩ := hrel
      have HBA := hid (HBA2.out.kept hbel)
      clear x0
      by_cases hlt : k < 6
      · have hp := HBA.out.path k hlt
        have hpb : Bd (a.path[k]'hlt) := HFT.out.sums _ (List.mem_cons_of_mem _ (List.getElem_mem (show k < a.path.length from hlt)))
        have HXS := hid (accX_succ a k)
        rw [show a.path.getD k 0 = a.path[k]'hlt from by rw [List.getD_eq_getElem?_getD, List.getElem?_eq_getElem (show k < a.path.length from hlt)]; rfl] at HXS
        have hxb := accX_bd a k
        have HLS := hid (half_pow a.loan k)
        have hl0 := (HFT.out.up k).1
        have hl1 := (HFT.out.up k).2
        generalize a.path[k]'hlt = z at *
        generalize accX a k = x at *
        generalize a.loan / 2 ^ k = lo at *
        have i1 : (0 : Int) ≤ (k : Int) := by omega
        have i2 : (k : Int) < 6 := by omega
        have hLw : L < wr.heap.size := World.block_lt_of_cell? _ _ hp
        by_cases hev : lo % 2 = 0
        · rw [if_pos hev] at HXS
          have HJ := hid (joinedM_any x z wr hxb hpb)
          rw [← HXS.out] at HJ
          have t1 : (lo % 2 == 0) = true := by simp; omega
          clear hev
          go_wp2_with fail
          refine HJ.out.mono ?_
          rintro e w3 ⟨rfl, hb3⟩
          go_wp2_with fail
          go_roundw
          case rel => exact ⟨k + 1, by omega, by go_num, rfl, by rw [HLS.out], kept hbel hb3⟩
          case measure => simp [intOf]; omega
        · rw [if_neg hev] at HXS
          have HJ := hid (joinedM_any z x wr hpb hxb)
          rw [← HXS.out] at HJ
          have t1 : (lo % 2 == 0) = false := by simp; omega
          clear hev
          go_wp2_with fail
          refine HJ.out.mono ?_
          rintro e w3 ⟨rfl, hb3⟩
          go_wp2_with fail
          go_roundw
          case rel => exact ⟨k + 1, by omega, by go_num, rfl, by rw [HLS.out], kept hbel hb3⟩
          case measure => simp [intOf]; omega
      · obtain rfl : k = 6 := by omega
        have x7 : wr.cell? ⟨L, 7, none⟩ = some (.int .i64 a.size) := HBA.out.cell 7 _ rfl
        have x8 : wr.cell? ⟨L, 8, none⟩ = some (.int .i64 a.log) := HBA.out.cell 8 _ rfl
        have hs := HFT.out.size
        have hlb : Bd a.log := HFT.out.sums _ (by simp)
        have hxb := accX_bd a 6
        have HHS := hid (fun w => headSum_any a.size a.log (accX a 6) w)
        have HTP : Hid (sm (headT a.size a.log (accX a 6)) = accTop a) := rfl
        have HHD := hid (head_str a.size a.log (accX a 6))
        rw [HTP.out] at HHS
        have z1 : (bs (two a.size)).size = 2 := size_bs _
        have z2 : (bs (two a.log)).size = 2 := size_bs _
        have z3 : (bs (two (accX a 6))).size = 2 := size_bs _
        have hLw : L < wr.heap.size := World.block_lt_of_cell? _ _ x7
        have s0 := hs.1
        have s1 : a.size ≤ 65535 := by omega
        have l0 := hlb.1
        have l1 : a.log ≤ 65535 := by have := hlb.2; omega
        have y0 := hxb.1
        have y1 : accX a 6 ≤ 65535 := by have := hxb.2; omega
        clear hs hlb hxb
        generalize accTop a = tp at HHS HV HTP
        generalize accX a 6 = x at *
        generalize bs (headT a.size a.log x) = hd at *
        generalize a.size = sz at *
        generalize a.log = lg at *
        clear HBA HBA2 HF H64 HT HX0 hk
        go_wp2_with fail
        go_region_held3 (fun w' => w'.cell? ⟨L, 7, none⟩ = some (.int .i64 sz) ∧ w'.cell? ⟨L, 8, none⟩ = some (.int .i64 lg) ∧ Below wr.heap.size wr w') ((go_split_ands; refine ⟨?_, ?_, ?_⟩ <;> first | exact x7 | exact x8 | exact (Below.refl _ _).drew | exact cell_kept (by assumption) hb5 | exact kept (by assumption) hb5)) (first | (go_at_call 18; refine (two_any _ _ (by assumption) (by assumption)).mono ?_; rintro e w5 ⟨rfl, hb5⟩) | (go_at_call 17; rw [HHD.out]; refine (HHS.out _).mono ?_; rintro e w5 ⟨rfl, hb5⟩))
        have hbz : Below wr.heap.size wr w5 := (by assumption : w5.cell? ⟨L, 7, none⟩ = some (.int .i64 sz) ∧ w5.cell? ⟨L, 8, none⟩ = some (.int .i64 lg) ∧ Below wr.heap.size wr w5).2.2
        go_wp2_with fail
        go_ret
        exact ⟨by rw [HV.out]; rfl, kept (kept hk2 hbel) hbz⟩

end Go.Proofs.YtedblhcehlbbmaaDoor

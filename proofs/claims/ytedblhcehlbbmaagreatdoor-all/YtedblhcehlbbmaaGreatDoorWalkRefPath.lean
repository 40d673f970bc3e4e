import Derived.Test.YtedblhcehlbbmaaGreatDoorWalkPath
import Derived.WalkKit
import Derived.WalkSpells
import Derived.WalkLawsBesides
/-
  CONTRACTS: lenderref.Path; lenderlaw.path.
-/
namespace Go.Proofs.YtedblhcehlbbmaaGreatDoor
set_option maxRecDepth 20000
open Go.RowKit

/-- What is owned from C on stays as it was while a row below C grows. -/
theorem Own.grown {w w' : World} {C : Nat} {v u : Value} {l : List Int} (h : Own w C v l) (hg : w.grownBy w' u.ownBlock) (hu : ∀ g, u.ownBlock = some g → g < C) : Own w' C v l := by
  refine World.ownsRow.kept h hg ?_
  rcases hv : v.ownBlock with _ | k
  · exact .inl rfl
  · refine .inr fun e => ?_
    have h1 := (World.ownsRow.lt h k hv).1
    have h2 := hu k e.symm
    omega
theorem Own.lt {w : World} {B : Nat} {v : Value} {l : List Int} (h : Own w B v l) : ∀ g, v.ownBlock = some g → g < w.heap.size := fun g hg => (World.ownsRow.lt h g hg).2

theorem stepR_some (xs : List Int) (i : Nat) (h : beside i < xs.length) : stepR xs i = [xs[beside i]] := by
  unfold stepR; rw [List.getElem?_eq_getElem h]; rfl
theorem stepR_none (xs : List Int) (i : Nat) (h : xs.length ≤ beside i) : stepR xs i = [] := by
  unfold stepR; rw [List.getElem?_eq_none h]; rfl
theorem beside_odd (i : Nat) (h : i % 2 = 1) : beside i = i - 1 := by unfold beside; rw [if_pos h]
theorem beside_even (i : Nat) (h : i % 2 = 0) : beside i = i + 1 := by unfold beside; rw [if_neg (by omega)]

set_option maxHeartbeats 2000000 in
theorem rpath_any (n i0 : Nat) (a : Option Addr) (ss : List ByteArray) (cap : Nat) (w : World) (hn : ss.length = n) (hi : i0 < n) (hs : Strs w a ss) (h200 : n ≤ 200) (h40 : ∀ s ∈ ss, s.size ≤ 40) :
    Calls Tryz.prog 37 #[.slice a n cap, .int .i64 (i0 : Int)] w fun e w' => ∃ v, e = .returned v ∧ Own w' w.heap.size v (pathR (lvs ss) i0) ∧ Below w.heap.size w w' := by
  have HLV := hid (leaves_any n a ss cap w hn hs h200 h40)
  have hlv : (lvs ss).length = n := by rw [length_lvs, hn]
  have hpl := hid (path_len ss i0)
  clear hs h40 hn
  go_enter Tryz.func37, Tryz.ntmps37
  go_wp2_with fail
  refine HLV.out.mono ?_
  rintro e w1 ⟨v, rfl, hown, hb1⟩
  have HOWN1 := hid hown
  have HB1 := hid hb1
  have HLL := hid hlv
  clear hown hlv hb1
  go_wp2_with fail
  go_loopw [1, 5, 6, 7] (fun i out row _ wr => ∃ (j C : Nat) (ys done : List Int), i = .int .i64 (j : Int) ∧ j ≤ 200 ∧ Hid (j < ys.length ∧ ys.length ≤ 200 ∧ (∀ x ∈ ys, Bd x) ∧ done ++ pathR ys j = pathR (lvs ss) i0 ∧ (∀ g, out.ownBlock = some g → g < C) ∧ w.heap.size ≤ C ∧ Own wr C row ys ∧ Own wr w.heap.size out done ∧ Below w.heap.size w wr)) (fun _ _ row _ _ => lenOf row)
  case atStart =>
    exact ⟨i0, w.heap.size, lvs ss, [], rfl, by omega, by rw [HLL.out]; exact hi, by rw [HLL.out]; exact h200, lvs_bd ss, rfl, (fun g hg => by simp [Value.ownBlock] at hg), Nat.le_refl _, HOWN1.out, Own.nil _ _, HB1.out⟩
  case round =>
    obtain ⟨j, C, ys, done, rfl, hj200, HREL⟩ := hrel
    obtain ⟨hjy, hy200, hybd, hdone, hblk, hC, hrow, hout, hbel⟩ := HREL.out
    obtain ⟨a2, cap2, rfl, hl2, hc2, hi2⟩ := hrow.form
    obtain ⟨m, hm⟩ : ∃ m, m = ys.length := ⟨_, rfl⟩
    rw [← hm] at hjy hy200 hrow hl2 ⊢
    have HM := hid hm
    have HYB := hid hybd; have HD := hid hdone; have HBLK := hid hblk; have HROW := hid hrow; have HOUT := hid hout; have HI2 := hid hi2
    have HDL : Hid (done.length ≤ 1000000) := by
      have h1 := congrArg List.length hdone
      rw [List.length_append] at h1
      have := hpl.out
      have := HLL.out
      rw [length_lvs] at this
      show _ ≤ _
      omega
    have hsz := hbel.size
    clear hm hybd hdone hblk hrow hout hi2 HREL
    by_cases h1 : 1 < m
    · have h1' : (1 : Int) < (m : Int) := by omega
      by_cases hodd : j % 2 = 1
      · have hpar : ((j : Int) % 2 == 1) = true := by simp; omega
        have hlt : beside j < ys.length := by rw [beside_odd j hodd, ← HM.out]; omega
        obtain ⟨b, off, rfl, hc⟩ := HI2.out.at (by omega)
        have hcb := hc (beside j) hlt
        have HST := hid (stepR_some ys j hlt)
        have HPM := hid (pathR_more ys j (by rw [← HM.out]; exact h1))
        generalize ys[beside j] = x at hcb HST
        rw [beside_odd j hodd] at hcb
        clear hc hlt
        have hout1 := HOUT.out
        go_wp2_with (at_builtin; refine wpList_app2 rfl _ _ rfl w.heap.size _ _ x rfl (hout1.alloc _) wr.heap.size 1 rfl (cell_alloc_one _ _ _) HDL.out (by simp; omega) ?_)
        intro v' w2 hout2 hb2 hgr
        have hw2 : Below w.heap.size w w2 := (hbel.alloc (by omega) _).trans hb2
        have hrow2 := (HROW.out.alloc _).grown hgr HBLK.out
        have hlt2 := hout2.lt
        obtain ⟨a3, cap3, e3, _, _, hi3⟩ := hrow2.form
        have HI3 : Hid (Ints w2 (some ⟨b, off, none⟩) ys) := by cases e3; exact hi3
        have HOUT2 := hid hout2; have HROW2 := hid hrow2; have HLT2 := hid hlt2
        clear hout1 hout2 hrow2 hlt2 hi3 e3 hcb hgr hb2 HI2 HROW HOUT
        go_wp2_with fail
        refine (raised_any m _ ys cap2 _ HM.out.symm HI3.out (by omega) HYB.out).mono ?_
        rintro e w3 ⟨v3, rfl, hown3, hb3⟩
        have hsz2 := hw2.size
        have hlr : (raise ys).length = (m + 1) / 2 := by rw [length_raise, ← HM.out]
        have HLR := hid hlr
        have HR := hid (show j / 2 < (raise ys).length ∧ (raise ys).length ≤ 200 ∧ (∀ x ∈ raise ys, Bd x) ∧ (done ++ [x]) ++ pathR (raise ys) (j / 2) = pathR (lvs ss) i0 ∧ (∀ g, v'.ownBlock = some g → g < w2.heap.size) ∧ w.heap.size ≤ w2.heap.size ∧ Own w3 w2.heap.size v3 (raise ys) ∧ Own w3 w.heap.size v' (done ++ [x]) ∧ Below w.heap.size w w3 from
          ⟨by rw [hlr]; omega, by rw [hlr]; omega, raise_bd _ HYB.out, by rw [← HD.out, HPM.out, HST.out, List.append_assoc], HLT2.out, hsz2, hown3, HOUT2.out.kept hb3, hw2.trans (hb3.mono hsz2)⟩)
        obtain ⟨a4, cap4, rfl, _, _, _⟩ := hown3.form
        clear hown3 hb3 hlr HOUT2 HROW2 HLT2
        go_wp2_with fail
        go_roundw
        case rel => exact ⟨j / 2, w2.heap.size, raise ys, done ++ [x], by first | rfl | go_num, by omega, HR.out⟩
        case measure => simp [lenOf]; have := HLR.out; omega
      · have hpar : ((j : Int) % 2 == 1) = false := by simp; omega
        by_cases hin : j + 1 < m
        · have hlt : beside j < ys.length := by rw [beside_even j (by omega), ← HM.out]; omega
          obtain ⟨b, off, rfl, hc⟩ := HI2.out.at (by omega)
          have hcb := hc (beside j) hlt
          have HST := hid (stepR_some ys j hlt)
          have HPM := hid (pathR_more ys j (by rw [← HM.out]; exact h1))
          generalize ys[beside j] = x at hcb HST
          rw [beside_even j (by omega)] at hcb
          have hin' : (j : Int) + 1 < (m : Int) := by omega
          clear hc hlt
          have hout1 := HOUT.out
          go_wp2_with (at_builtin; refine wpList_app2 rfl _ _ rfl w.heap.size _ _ x rfl (hout1.alloc _) wr.heap.size 1 rfl (cell_alloc_one _ _ _) HDL.out (by simp; omega) ?_)
          intro v' w2 hout2 hb2 hgr
          have hw2 : Below w.heap.size w w2 := (hbel.alloc (by omega) _).trans hb2
          have hrow2 := (HROW.out.alloc _).grown hgr HBLK.out
          have hlt2 := hout2.lt
          obtain ⟨a3, cap3, e3, _, _, hi3⟩ := hrow2.form
          have HI3 : Hid (Ints w2 (some ⟨b, off, none⟩) ys) := by cases e3; exact hi3
          have HOUT2 := hid hout2; have HROW2 := hid hrow2; have HLT2 := hid hlt2
          clear hout1 hout2 hrow2 hlt2 hi3 e3 hcb hgr hb2 HI2 HROW HOUT
          go_wp2_with fail
          refine (raised_any m _ ys cap2 _ HM.out.symm HI3.out (by omega) HYB.out).mono ?_
          rintro e w3 ⟨v3, rfl, hown3, hb3⟩
          have hsz2 := hw2.size
          have hlr : (raise ys).length = (m + 1) / 2 := by rw [length_raise, ← HM.out]
          have HLR := hid hlr
          have HR := hid (show j / 2 < (raise ys).length ∧ (raise ys).length ≤ 200 ∧ (∀ x ∈ raise ys, Bd x) ∧ (done ++ [x]) ++ pathR (raise ys) (j / 2) = pathR (lvs ss) i0 ∧ (∀ g, v'.ownBlock = some g → g < w2.heap.size) ∧ w.heap.size ≤ w2.heap.size ∧ Own w3 w2.heap.size v3 (raise ys) ∧ Own w3 w.heap.size v' (done ++ [x]) ∧ Below w.heap.size w w3 from
            ⟨by rw [hlr]; omega, by rw [hlr]; omega, raise_bd _ HYB.out, by rw [← HD.out, HPM.out, HST.out, List.append_assoc], HLT2.out, hsz2, hown3, HOUT2.out.kept hb3, hw2.trans (hb3.mono hsz2)⟩)
          obtain ⟨a4, cap4, rfl, _, _, _⟩ := hown3.form
          clear hown3 hb3 hlr HOUT2 HROW2 HLT2
          go_wp2_with fail
          go_roundw
          case rel => exact ⟨j / 2, w2.heap.size, raise ys, done ++ [x], by first | rfl | go_num, by omega, HR.out⟩
          case measure => simp [lenOf]; have := HLR.out; omega
        · have HST := hid (stepR_none ys j (by rw [beside_even j (by omega), ← HM.out]; omega))
          have HPM := hid (pathR_more ys j (by rw [← HM.out]; exact h1))
          have hin' : ¬ (j : Int) + 1 < (m : Int) := by omega
          go_wp2_with fail
          refine (raised_any m _ ys cap2 _ HM.out.symm HI2.out (by omega) HYB.out).mono ?_
          rintro e w3 ⟨v3, rfl, hown3, hb3⟩
          have hlr : (raise ys).length = (m + 1) / 2 := by rw [length_raise, ← HM.out]
          have HLR := hid hlr
          have HR := hid (show j / 2 < (raise ys).length ∧ (raise ys).length ≤ 200 ∧ (∀ x ∈ raise ys, Bd x) ∧ done ++ pathR (raise ys) (j / 2) = pathR (lvs ss) i0 ∧ (∀ g, _ = some g → g < wr.heap.size) ∧ w.heap.size ≤ wr.heap.size ∧ Own w3 wr.heap.size v3 (raise ys) ∧ Own w3 w.heap.size _ done ∧ Below w.heap.size w w3 from
            ⟨by rw [hlr]; omega, by rw [hlr]; omega, raise_bd _ HYB.out, by rw [← HD.out, HPM.out, HST.out, List.nil_append], HOUT.out.lt, hsz, hown3, HOUT.out.kept hb3, hbel.trans (hb3.mono hsz)⟩)
          obtain ⟨a4, cap4, rfl, _, _, _⟩ := hown3.form
          clear hown3 hb3 hlr HOUT HROW HI2
          go_wp2_with fail
          go_roundw
          case rel => exact ⟨j / 2, wr.heap.size, raise ys, done, by first | rfl | go_num, by omega, HR.out⟩
          case measure => simp [lenOf]; have := HLR.out; omega
    · obtain rfl : m = 1 := by omega
      have HPS := hid (pathR_short ys j (by rw [← HM.out]; omega))
      go_wp2_with fail
      go_ret
      refine ⟨_, rfl, ?_, hbel⟩
      rw [← HD.out, HPS.out, List.append_nil]
      exact HOUT.out
end Go.Proofs.YtedblhcehlbbmaaGreatDoor

import Derived.Test.YtedblhcehlbbmaaGreatDoorWalkRefPath
import Derived.Test.YtedblhcehlbbmaaGreatDoorWalkRefFurther
import Derived.WalkKit
import Derived.WalkSpells
import Derived.WalkLawsBesides
import Derived.Lib.SliceRun
/-
  THE SCRIPT's CALLS ON LISTS: lenderlaw.path, further, Roots: what comes out, and whose it is.
-/
namespace Go.Proofs.YtedblhcehlbbmaaGreatDoor
set_option maxRecDepth 20000
open Go.RowKit

theorem nil_ints (w : World) : (binOp .eql 54 (.slice none 0 0) (.slice none 0 0)).run Tryz.prog w = .ok (.bool true) w :=
  Lib.run_eql_slice_nil w 54 3 none 0 0 0 0 Tryz.underlying54

set_option maxRecDepth 20000 in
set_option maxHeartbeats 2000000 in
theorem lawPath (n : Nat) (i : Int) (a : Option Addr) (ss : List ByteArray) (cap : Nat) (w : World) (hn : ss.length = n) (hs : Strs w a ss) (hr : n * 16 ≤ 140737488351232) :
    Calls Tryz.prog 13 #[.slice a n cap, .int .i64 i] w fun e w' => ∃ v xs, e = .returned (.tuple #[v, .bool true]) ∧ Own w' w.heap.size v xs ∧ xs.length ≤ 1000 ∧ Below w.heap.size w w' := by
  have HN := hid hn
  have HS := hid hs
  have hnn := nil_ints
  clear hn hs
  by_cases hL : longB ss = true
  · go_enter Tryz.func13, Tryz.ntmps13
    go_wp2_with fail
    refine (texts_any n a ss cap _ HN.out HS.out hr).mono ?_
    rintro e w1 ⟨g, rfl, hg, hm1, hm2, hb1⟩
    have ho : Strs w1 (some ⟨g, 0, none⟩) ss := .inr ⟨g, 0, rfl, fun i hi => by rw [Nat.zero_add]; exact hg i hi⟩
    have HO := hid ho; have HG := hid hg; have HM1 := hid hm1; have HM2 := hid hm2
    clear ho hg hm1 hm2
    go_wp2_with fail
    refine (lpath_long n i _ ss (n + 2) _ HN.out HO.out (by omega) hL).mono ?_
    rintro e w2 ⟨rfl, hb2⟩
    go_wp2_with fail
    refine (stillTexts_any n g a ss cap _ HN.out (fun i hi => cell_kept (HG.out i hi) hb2) (cell_kept HM1.out hb2) (cell_kept HM2.out hb2) (HS.out.kept (kept hb1 hb2)) hr).mono ?_
    rintro e w3 ⟨rfl, hb3⟩
    have hlong := long_any a ss cap w3 (HS.out.kept (kept (kept hb1 hb2) hb3)) (by have := HN.out; omega)
    rw [HN.out, hL] at hlong
    have HLONG := hid hlong
    clear hlong
    go_wp2_with fail
    refine HLONG.out.mono ?_
    rintro e w4 ⟨rfl, rfl⟩
    go_wp2_with fail
    go_ret2
    exact ⟨_, [], rfl, Own.nil _ _, by simp, kept (kept hb1 hb2) hb3⟩
  · have hL : longB ss = false := by simpa using hL
    have hbb := hid (longB_false ss hL)
    by_cases hi : i < 0 ∨ (n : Int) ≤ i
    · have HI := hid hi
      clear hi
      go_enter Tryz.func13, Tryz.ntmps13
      go_wp2_with fail
      refine (texts_any n a ss cap _ HN.out HS.out hr).mono ?_
      rintro e w1 ⟨g, rfl, hg, hm1, hm2, hb1⟩
      have ho : Strs w1 (some ⟨g, 0, none⟩) ss := .inr ⟨g, 0, rfl, fun i hi => by rw [Nat.zero_add]; exact hg i hi⟩
      have HO := hid ho; have HG := hid hg; have HM1 := hid hm1; have HM2 := hid hm2
      clear ho hg hm1 hm2
      go_wp2_with fail
      refine (lpath_arg n i _ ss (n + 2) _ HN.out HO.out (by omega) hL HI.out).mono ?_
      rintro e w2 ⟨rfl, hb2⟩
      go_wp2_with fail
      refine (stillTexts_any n g a ss cap _ HN.out (fun i hi => cell_kept (HG.out i hi) hb2) (cell_kept HM1.out hb2) (cell_kept HM2.out hb2) (HS.out.kept (kept hb1 hb2)) hr).mono ?_
      rintro e w3 ⟨rfl, hb3⟩
      have hlong := long_any a ss cap w3 (HS.out.kept (kept (kept hb1 hb2) hb3)) (by have := HN.out; omega)
      rw [HN.out, hL] at hlong
      have HLONG := hid hlong
      clear hlong
      go_wp2_with fail
      refine HLONG.out.mono ?_
      rintro e w4 ⟨rfl, rfl⟩
      rcases HI.out with h0 | h1
      · go_wp2_with fail
        go_ret2
        exact ⟨_, [], rfl, Own.nil _ _, by simp, kept (kept hb1 hb2) hb3⟩
      · have h0 : ¬ i < 0 := by omega
        go_wp2_with fail
        go_ret2
        exact ⟨_, [], rfl, Own.nil _ _, by simp, kept (kept hb1 hb2) hb3⟩
    · obtain ⟨k, rfl⟩ : ∃ k : Nat, i = (k : Int) := ⟨i.toNat, by omega⟩
      have hk : k < n := by omega
      have h0 : (0 : Int) ≤ (k : Int) := by omega
      have h1 : (k : Int) < (n : Int) := by omega
      clear hi
      go_enter Tryz.func13, Tryz.ntmps13
      go_wp2_with fail
      refine (texts_any n a ss cap _ HN.out HS.out hr).mono ?_
      rintro e w1 ⟨g, rfl, hg, hm1, hm2, hb1⟩
      have ho : Strs w1 (some ⟨g, 0, none⟩) ss := .inr ⟨g, 0, rfl, fun i hi => by rw [Nat.zero_add]; exact hg i hi⟩
      have HO := hid ho; have HG := hid hg; have HM1 := hid hm1; have HM2 := hid hm2
      clear ho hg hm1 hm2
      go_wp2_with fail
      refine (lpath_ok n k _ ss (n + 2) _ HN.out HO.out hL hk (by omega) (by unfold maxLen; omega)).mono ?_
      rintro e w2 ⟨v2, rfl, hown2, hb2⟩
      have HOWN2 := hid hown2
      clear hown2
      go_wp2_with fail
      refine (stillTexts_any n g a ss cap _ HN.out (fun i hi => cell_kept (HG.out i hi) hb2) (cell_kept HM1.out hb2) (cell_kept HM2.out hb2) (HS.out.kept (kept hb1 hb2)) hr).mono ?_
      rintro e w3 ⟨rfl, hb3⟩
      have hS3 := hid (HS.out.kept (kept (kept hb1 hb2) hb3))
      have hlong := long_any a ss cap w3 hS3.out (by have := HN.out; omega)
      rw [HN.out, hL] at hlong
      have HLONG := hid hlong
      clear hlong
      go_wp2_with fail
      refine HLONG.out.mono ?_
      rintro e w4 ⟨rfl, rfl⟩
      go_wp2_with fail
      refine (rpath_any n k a ss cap _ HN.out hk hS3.out (by have := hbb.out.1; have := HN.out; omega) hbb.out.2).mono ?_
      rintro e w5 ⟨v5, rfl, hown5, hb5⟩
      have HOU := hid (HOWN2.out.kept (kept hb3 hb5))
      obtain ⟨a2, c2, rfl, _, _, hi2⟩ := HOU.out.form
      obtain ⟨a5, c5, rfl, _, _, hi5⟩ := hown5.form
      have hpl := hid (path_len ss k)
      have HI2 := hid hi2; have HI5 := hid hi5
      clear hown5 hi2 hi5 HOWN2
      go_wp2_with fail
      refine (sameInts_any _ _ a2 a5 _ _ c2 c5 _ rfl rfl HI2.out HI5.out (by have := hpl.out; have := HN.out; omega) (by have := hpl.out; have := HN.out; omega)).mono ?_
      rintro e w6 ⟨rfl, hb6⟩
      have hT : sameB (pathR (lvs ss) k) (pathR (lvs ss) k) = true := by unfold sameB; exact decide_eq_true rfl
      go_wp2_with fail
      go_ret2
      exact ⟨_, pathR (lvs ss) k, rfl, (HOU.out.kept hb6).mono hb1.size, by have := hbb.out.1; have := hpl.out; have := HN.out; omega, kept (kept (kept (kept hb1 hb2) hb3) hb5) hb6⟩

set_option maxRecDepth 20000 in
set_option maxHeartbeats 2000000 in
theorem lawFurther (n : Nat) (i : Int) (a : Option Addr) (ss : List ByteArray) (cap : Nat) (w : World) (hn : ss.length = n) (hs : Strs w a ss) (hcap : n ≤ cap) (hr : n * 16 ≤ 140737488351232) :
    Calls Tryz.prog 15 #[.slice a n cap, .int .i64 i] w fun e w' => ∃ v xs, e = .returned (.tuple #[v, .bool true]) ∧ Own w' w.heap.size v xs ∧ xs.length ≤ 1000 ∧ Below w.heap.size w w' := by
  have HN := hid hn
  have HS := hid hs
  have hnn := nil_ints
  clear hn hs
  by_cases hL : longB ss = true
  · go_enter Tryz.func15, Tryz.ntmps15
    go_wp2_with fail
    refine (texts_any n a ss cap _ HN.out HS.out hr).mono ?_
    rintro e w1 ⟨g, rfl, hg, hm1, hm2, hb1⟩
    have ho : Strs w1 (some ⟨g, 0, none⟩) ss := .inr ⟨g, 0, rfl, fun i hi => by rw [Nat.zero_add]; exact hg i hi⟩
    have HO := hid ho; have HG := hid hg; have HM1 := hid hm1; have HM2 := hid hm2
    clear ho hg hm1 hm2
    go_wp2_with fail
    refine (lfurther_long n i _ ss (n + 2) _ HN.out HO.out (by omega) hL).mono ?_
    rintro e w2 ⟨rfl, hb2⟩
    go_wp2_with fail
    refine (stillTexts_any n g a ss cap _ HN.out (fun i hi => cell_kept (HG.out i hi) hb2) (cell_kept HM1.out hb2) (cell_kept HM2.out hb2) (HS.out.kept (kept hb1 hb2)) hr).mono ?_
    rintro e w3 ⟨rfl, hb3⟩
    have hlong := long_any a ss cap w3 (HS.out.kept (kept (kept hb1 hb2) hb3)) (by have := HN.out; omega)
    rw [HN.out, hL] at hlong
    have HLONG := hid hlong
    clear hlong
    go_wp2_with fail
    refine HLONG.out.mono ?_
    rintro e w4 ⟨rfl, rfl⟩
    go_wp2_with fail
    go_ret2
    exact ⟨_, [], rfl, Own.nil _ _, by simp, kept (kept hb1 hb2) hb3⟩
  · have hL : longB ss = false := by simpa using hL
    have hbb := hid (longB_false ss hL)
    by_cases hi : i < 1 ∨ (n : Int) < i
    · have HI := hid hi
      clear hi
      go_enter Tryz.func15, Tryz.ntmps15
      go_wp2_with fail
      refine (texts_any n a ss cap _ HN.out HS.out hr).mono ?_
      rintro e w1 ⟨g, rfl, hg, hm1, hm2, hb1⟩
      have ho : Strs w1 (some ⟨g, 0, none⟩) ss := .inr ⟨g, 0, rfl, fun i hi => by rw [Nat.zero_add]; exact hg i hi⟩
      have HO := hid ho; have HG := hid hg; have HM1 := hid hm1; have HM2 := hid hm2
      clear ho hg hm1 hm2
      go_wp2_with fail
      refine (lfurther_arg n i _ ss (n + 2) _ HN.out HO.out (by omega) hL HI.out).mono ?_
      rintro e w2 ⟨rfl, hb2⟩
      go_wp2_with fail
      refine (stillTexts_any n g a ss cap _ HN.out (fun i hi => cell_kept (HG.out i hi) hb2) (cell_kept HM1.out hb2) (cell_kept HM2.out hb2) (HS.out.kept (kept hb1 hb2)) hr).mono ?_
      rintro e w3 ⟨rfl, hb3⟩
      have hlong := long_any a ss cap w3 (HS.out.kept (kept (kept hb1 hb2) hb3)) (by have := HN.out; omega)
      rw [HN.out, hL] at hlong
      have HLONG := hid hlong
      clear hlong
      go_wp2_with fail
      refine HLONG.out.mono ?_
      rintro e w4 ⟨rfl, rfl⟩
      rcases HI.out with h0 | h1
      · go_wp2_with fail
        go_ret2
        exact ⟨_, [], rfl, Own.nil _ _, by simp, kept (kept hb1 hb2) hb3⟩
      · have h0 : ¬ i < 1 := by omega
        go_wp2_with fail
        go_ret2
        exact ⟨_, [], rfl, Own.nil _ _, by simp, kept (kept hb1 hb2) hb3⟩
    · obtain ⟨k, rfl⟩ : ∃ k : Nat, i = (k : Int) := ⟨i.toNat, by omega⟩
      have hk1 : 1 ≤ k := by omega
      have hk : k ≤ n := by omega
      have h0 : ¬ (k : Int) < 1 := by omega
      have h1 : ¬ (n : Int) < (k : Int) := by omega
      clear hi
      go_enter Tryz.func15, Tryz.ntmps15
      go_wp2_with fail
      refine (texts_any n a ss cap _ HN.out HS.out hr).mono ?_
      rintro e w1 ⟨g, rfl, hg, hm1, hm2, hb1⟩
      have ho : Strs w1 (some ⟨g, 0, none⟩) ss := .inr ⟨g, 0, rfl, fun i hi => by rw [Nat.zero_add]; exact hg i hi⟩
      have HO := hid ho; have HG := hid hg; have HM1 := hid hm1; have HM2 := hid hm2
      clear ho hg hm1 hm2
      go_wp2_with fail
      refine (lfurther_ok n k _ ss (n + 2) _ HN.out HO.out hL hk1 hk (by omega) (by unfold maxLen; omega)).mono ?_
      rintro e w2 ⟨v2, rfl, hown2, hb2⟩
      have HOWN2 := hid hown2
      clear hown2
      go_wp2_with fail
      refine (stillTexts_any n g a ss cap _ HN.out (fun i hi => cell_kept (HG.out i hi) hb2) (cell_kept HM1.out hb2) (cell_kept HM2.out hb2) (HS.out.kept (kept hb1 hb2)) hr).mono ?_
      rintro e w3 ⟨rfl, hb3⟩
      have hS3 := hid (HS.out.kept (kept (kept hb1 hb2) hb3))
      have hlong := long_any a ss cap w3 hS3.out (by have := HN.out; omega)
      rw [HN.out, hL] at hlong
      have HLONG := hid hlong
      clear hlong
      go_wp2_with fail
      refine HLONG.out.mono ?_
      rintro e w4 ⟨rfl, rfl⟩
      go_wp2_with fail
      refine (rfurther_any n k a ss cap _ HN.out hk1 hk hS3.out (by have := hbb.out.1; have := HN.out; omega) hbb.out.2 hcap).mono ?_
      rintro e w5 ⟨v5, rfl, hown5, hb5⟩
      have HOU := hid (HOWN2.out.kept (kept hb3 hb5))
      obtain ⟨a2, c2, rfl, _, _, hi2⟩ := HOU.out.form
      obtain ⟨a5, c5, rfl, _, _, hi5⟩ := hown5.form
      have hpl := hid (furS_len ss k true)
      have HI2 := hid hi2; have HI5 := hid hi5
      clear hown5 hi2 hi5 HOWN2
      go_wp2_with fail
      refine (sameInts_any _ _ a2 a5 _ _ c2 c5 _ rfl rfl HI2.out HI5.out (by have := hpl.out; have := HN.out; omega) (by have := hpl.out; have := HN.out; omega)).mono ?_
      rintro e w6 ⟨rfl, hb6⟩
      have hT : sameB (furS ss k true) (furS ss k true) = true := by unfold sameB; exact decide_eq_true rfl
      go_wp2_with fail
      go_ret2
      exact ⟨_, furS ss k true, rfl, (HOU.out.kept hb6).mono hb1.size, by have := hbb.out.1; have := hpl.out; have := HN.out; omega, kept (kept (kept (kept hb1 hb2) hb3) hb5) hb6⟩

set_option maxRecDepth 20000 in
set_option maxHeartbeats 1000000 in
theorem lawRoots (n : Nat) (a : Option Addr) (ss : List ByteArray) (cap : Nat) (w : World) (hn : ss.length = n) (hs : Strs w a ss) (hr : n * 16 ≤ 140737488351232) :
    Calls Tryz.prog 16 #[.slice a n cap] w fun e w' => e = .returned (.bool true) ∧ Below w.heap.size w w' := by
  have HN := hid hn
  have HS := hid hs
  clear hn hs
  by_cases hL : longB ss = true
  · go_enter Tryz.func16, Tryz.ntmps16
    go_wp2_with fail
    refine (texts_any n a ss cap _ HN.out HS.out hr).mono ?_
    rintro e w1 ⟨g, rfl, hg, hm1, hm2, hb1⟩
    have ho : Strs w1 (some ⟨g, 0, none⟩) ss := .inr ⟨g, 0, rfl, fun i hi => by rw [Nat.zero_add]; exact hg i hi⟩
    have HO := hid ho; have HG := hid hg; have HM1 := hid hm1; have HM2 := hid hm2
    clear ho hg hm1 hm2
    go_wp2_with fail
    refine (lroot_any n _ ss (n + 2) _ HN.out HO.out (by omega) (by omega) (by unfold maxLen; omega)).mono ?_
    rintro e w2 ⟨rfl, hb2⟩
    go_wp2_with fail
    refine (stillTexts_any n g a ss cap _ HN.out (fun i hi => cell_kept (HG.out i hi) hb2) (cell_kept HM1.out hb2) (cell_kept HM2.out hb2) (HS.out.kept (kept hb1 hb2)) hr).mono ?_
    rintro e w3 ⟨rfl, hb3⟩
    have hlong := long_any a ss cap w3 (HS.out.kept (kept (kept hb1 hb2) hb3)) (by have := HN.out; omega)
    rw [HN.out] at hlong
    have HLONG := hid hlong
    clear hlong
    go_wp2_with fail
    refine HLONG.out.mono ?_
    rintro e w4 ⟨rfl, rfl⟩
    go_wp2_with fail
    go_ret
    exact ⟨by simp, kept (kept hb1 hb2) hb3⟩
  · have hL : longB ss = false := by simpa using hL
    have hbb := hid (longB_false ss hL)
    go_enter Tryz.func16, Tryz.ntmps16
    go_wp2_with fail
    refine (texts_any n a ss cap _ HN.out HS.out hr).mono ?_
    rintro e w1 ⟨g, rfl, hg, hm1, hm2, hb1⟩
    have ho : Strs w1 (some ⟨g, 0, none⟩) ss := .inr ⟨g, 0, rfl, fun i hi => by rw [Nat.zero_add]; exact hg i hi⟩
    have HO := hid ho; have HG := hid hg; have HM1 := hid hm1; have HM2 := hid hm2
    clear ho hg hm1 hm2
    go_wp2_with fail
    refine (lroot_any n _ ss (n + 2) _ HN.out HO.out (by omega) (by omega) (by unfold maxLen; omega)).mono ?_
    rintro e w2 ⟨rfl, hb2⟩
    go_wp2_with fail
    refine (stillTexts_any n g a ss cap _ HN.out (fun i hi => cell_kept (HG.out i hi) hb2) (cell_kept HM1.out hb2) (cell_kept HM2.out hb2) (HS.out.kept (kept hb1 hb2)) hr).mono ?_
    rintro e w3 ⟨rfl, hb3⟩
    have hS3 := hid (HS.out.kept (kept (kept hb1 hb2) hb3))
    have hlong := long_any a ss cap w3 hS3.out (by have := HN.out; omega)
    rw [HN.out] at hlong
    have HLONG := hid hlong
    clear hlong
    go_wp2_with fail
    refine HLONG.out.mono ?_
    rintro e w4 ⟨rfl, rfl⟩
    go_wp2_with fail
    refine (rroot_any n a ss cap _ HN.out hS3.out (by have := hbb.out.1; have := HN.out; omega) hbb.out.2).mono ?_
    rintro e w5 ⟨rfl, hb5⟩
    go_wp2_with fail
    go_ret
    exact ⟨by simp, kept (kept (kept hb1 hb2) hb3) hb5⟩

end Go.Proofs.YtedblhcehlbbmaaGreatDoor

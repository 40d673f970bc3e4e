/-
  'Rows.PathsSaid', out of the contracts.
-/
import Derived.Test.YtedblhcehlbbmaaRows
import Derived.Test.YtedblhcehlbbmaaOpens
import Derived.Test.YtedblhcehlbbmaaWalkRefPath
import Derived.Lib.SliceRun
namespace Go.Proofs.Ytedblhcehlbbmaa.paths
open Go.ChangeShapes Go.WideShapes Go.ChangeAt Go.RowKit

theorem nil_nil (w : World) : (binOp .eql 32 (.slice none 0 0) (.slice none 0 0)).run Try.prog w = .ok (.bool true) w :=
  Lib.run_eql_slice_nil w 32 3 none 0 0 0 0 Try.underlying32

set_option maxHeartbeats 2000000 in
theorem lawPath (n : Nat) (i : Int) (a : Option Addr) (ss : List ByteArray) (cap : Nat) (w : World) (hn : ss.length = n) (hs : Strs w a ss) (hr : n * 16 ≤ 140737488351232) :
    Calls Try.prog 18 #[.slice a n cap, .int .i64 i] w fun e w' => ∃ v, e = .returned (.tuple #[v, .bool true]) ∧ Below w.heap.size w w' := by
  have HN := hid hn
  have HS := hid hs
  have hnn := nil_nil
  clear hn hs
  by_cases hL : longB ss = true
  · go_enter Try.func18, Try.ntmps18
    go_wp2_with fail
    refine (texts_any n a ss cap _ HN.out HS.out hr).mono ?_
    rintro e w1 ⟨g, rfl, hg, hm1, hm2, hb1⟩
    have ho : Strs w1 (some ⟨g, 0, none⟩) ss := .inr ⟨g, 0, rfl, fun i hi => by rw [Nat.zero_add]; exact hg i hi⟩
    have HO := hid ho; have HG := hid hg; have HM1 := hid hm1; have HM2 := hid hm2
    clear ho hg hm1 hm2
    go_wp2_with fail
    refine (lpath_long n i _ ss (n + 2) _ HN.out HO.out (by omega) hL).mono ?_
    rintro e w2 ⟨rfl, hb2⟩
    go_wp2_with fail
    refine (stillTexts_any n g a ss cap _ HN.out (fun i hi => cell_kept (HG.out i hi) hb2) (cell_kept HM1.out hb2) (cell_kept HM2.out hb2) (HS.out.kept (kept hb1 hb2)) hr).mono ?_
    rintro e w3 ⟨rfl, hb3⟩
    have hlong := long_any a ss cap w3 (HS.out.kept (kept (kept hb1 hb2) hb3)) (by have := HN.out; omega)
    rw [HN.out, hL] at hlong
    have HLONG := hid hlong
    clear hlong
    go_wp2_with fail
    refine HLONG.out.mono ?_
    rintro e w4 ⟨rfl, rfl⟩
    go_wp2_with fail
    go_ret2
    exact ⟨_, rfl, kept (kept hb1 hb2) hb3⟩
  · have hL : longB ss = false := by simpa using hL
    have hbb := hid (longB_false ss hL)
    by_cases hi : i < 0 ∨ (n : Int) ≤ i
    · have HI := hid hi
      clear hi
      go_enter Try.func18, Try.ntmps18
      go_wp2_with fail
      refine (texts_any n a ss cap _ HN.out HS.out hr).mono ?_
      rintro e w1 ⟨g, rfl, hg, hm1, hm2, hb1⟩
      have ho : Strs w1 (some ⟨g, 0, none⟩) ss := .inr ⟨g, 0, rfl, fun i hi => by rw [Nat.zero_add]; exact hg i hi⟩
      have HO := hid ho; have HG := hid hg; have HM1 := hid hm1; have HM2 := hid hm2
      clear ho hg hm1 hm2
      go_wp2_with fail
      refine (lpath_arg n i _ ss (n + 2) _ HN.out HO.out (by omega) hL HI.out).mono ?_
      rintro e w2 ⟨rfl, hb2⟩
      go_wp2_with fail
      refine (stillTexts_any n g a ss cap _ HN.out (fun i hi => cell_kept (HG.out i hi) hb2) (cell_kept HM1.out hb2) (cell_kept HM2.out hb2) (HS.out.kept (kept hb1 hb2)) hr).mono ?_
      rintro e w3 ⟨rfl, hb3⟩
      have hlong := long_any a ss cap w3 (HS.out.kept (kept (kept hb1 hb2) hb3)) (by have := HN.out; omega)
      rw [HN.out, hL] at hlong
      have HLONG := hid hlong
      clear hlong
      go_wp2_with fail
      refine HLONG.out.mono ?_
      rintro e w4 ⟨rfl, rfl⟩
      rcases HI.out with h0 | h1
      · go_wp2_with fail
        go_ret2
        exact ⟨_, rfl, kept (kept hb1 hb2) hb3⟩
      · have h0 : ¬ i < 0 := by omega
        go_wp2_with fail
        go_ret2
        exact ⟨_, rfl, kept (kept hb1 hb2) hb3⟩
    · obtain ⟨k, rfl⟩ : ∃ k : Nat, i = (k : Int) := ⟨i.toNat, by omega⟩
      have hk : k < n := by omega
      have h0 : (0 : Int) ≤ (k : Int) := by omega
      have h1 : (k : Int) < (n : Int) := by omega
      clear hi
      go_enter Try.func18, Try.ntmps18
      go_wp2_with fail
      refine (texts_any n a ss cap _ HN.out HS.out hr).mono ?_
      rintro e w1 ⟨g, rfl, hg, hm1, hm2, hb1⟩
      have ho : Strs w1 (some ⟨g, 0, none⟩) ss := .inr ⟨g, 0, rfl, fun i hi => by rw [Nat.zero_add]; exact hg i hi⟩
      have HO := hid ho; have HG := hid hg; have HM1 := hid hm1; have HM2 := hid hm2
      clear ho hg hm1 hm2
      go_wp2_with fail
      refine (lpath_ok n k _ ss (n + 2) _ HN.out HO.out hL hk (by omega) (by unfold maxLen; omega)).mono ?_
      rintro e w2 ⟨v2, rfl, hown2, hb2⟩
      have HOWN2 := hid hown2
      clear hown2
      go_wp2_with fail
      refine (stillTexts_any n g a ss cap _ HN.out (fun i hi => cell_kept (HG.out i hi) hb2) (cell_kept HM1.out hb2) (cell_kept HM2.out hb2) (HS.out.kept (kept hb1 hb2)) hr).mono ?_
      rintro e w3 ⟨rfl, hb3⟩
      have hS3 := hid (HS.out.kept (kept (kept hb1 hb2) hb3))
      have hlong := long_any a ss cap w3 hS3.out (by have := HN.out; omega)
      rw [HN.out, hL] at hlong
      have HLONG := hid hlong
      clear hlong
      go_wp2_with fail
      refine HLONG.out.mono ?_
      rintro e w4 ⟨rfl, rfl⟩
      go_wp2_with fail
      refine (rpath_any n k a ss cap _ HN.out hk hS3.out (by have := hbb.out.1; have := HN.out; omega) hbb.out.2).mono ?_
      rintro e w5 ⟨v5, rfl, hown5, hb5⟩
      obtain ⟨a2, c2, rfl, _, _, hi2⟩ := (HOWN2.out.kept (kept hb3 hb5)).form
      obtain ⟨a5, c5, rfl, _, _, hi5⟩ := hown5.form
      have hpl := hid (path_len ss k)
      have HI2 := hid hi2; have HI5 := hid hi5
      clear hown5 hi2 hi5 HOWN2
      go_wp2_with fail
      refine (sameInts_any _ _ a2 a5 _ _ c2 c5 _ rfl rfl HI2.out HI5.out (by have := hpl.out; have := HN.out; omega) (by have := hpl.out; have := HN.out; omega)).mono ?_
      rintro e w6 ⟨rfl, hb6⟩
      have hT : sameB (pathR (lvs ss) k) (pathR (lvs ss) k) = true := by unfold sameB; exact decide_eq_true rfl
      go_wp2_with fail
      go_ret2
      exact ⟨_, rfl, kept (kept (kept (kept hb1 hb2) hb3) hb5) hb6⟩

set_option maxHeartbeats 1000000 in
theorem walk (n : Nat) (i : Int) (a : Option Addr) (ss : List ByteArray) (cap : Nat) (w : World) (hn : ss.length = n) (hs : Strs w a ss) (hr : n * 16 ≤ 140737488351232) :
    Calls Try.prog 5 #[.slice a n cap, .int .i64 i] w fun e w' => e = .returned (.bool true) ∧ Below w.heap.size w w' := by
  have HC := hid (lawPath n i a ss cap w hn hs hr)
  clear hn hs
  go_enter Try.func5, Try.ntmps5
  go_wp2_with fail
  refine HC.out.mono ?_
  rintro e w1 ⟨v, rfl, hb1⟩
  go_wp2_with fail
  go_ret
  exact ⟨rfl, hb1⟩

set_option maxRecDepth 100000 in
theorem lifted (os : Os) (started : os.Started) (H : Type) (enc : TypeId × Value → H) :
    ReturnsInHanded {} Try.checked os 5 .any (Rows.pathsSpec.pre6 enc Try.prog Try.f5 Rows.pathsRow.domain false) (Rows.pathsSpec.post enc Try.prog Try.f5 false true false false) := by
  refine returnsInHanded_of_change_sized (C := Try.checked) Try.own started (by kernel_rfl) Try.func5
    (ChangeSpec.witness6 (enc := enc) (C := Try.checked) false ⟨#[], #[.slice none 0 0, .int .i64 0], []⟩ 8 (by kernel_rfl) (by kernel_rfl) (by kernel_rfl) (by kernel_rfl)) ?_
  intro W base args ds gs before hval0 hW hcnd hsz0 _
  have hval : ∀ (j : Nat) t v, Try.f5.params[j]? = some t → args[j]? = some v → Value.okWide Try.prog W .any base t v := hval0
  have hsz : (DataW.weightsEach Try.prog (Try.f5.params.toList ++ Rows.pathsSpec.plain.varTypes Try.prog) (ds ++ gs)).all (· ≤ reachBytes) = true := hsz0
  have hW' := hW
  obtain ⟨p, q, hA0, hV, rfl, hfz, hnd⟩ := hW
  have hA : DataW.TrodAll enc Try.prog W 0 (fun _ => true) true Try.f5.params.toList args.toList ds p := hA0
  rw [Try.params5] at hA hval hsz
  obtain ⟨v0, vs0, d0, ds0, p0, q0, hargs, rfl, rfl, h0, r0⟩ := trodAll_cons hA
  obtain ⟨v1, vs1, d1, ds1, p1, q1, rfl, rfl, rfl, h1, r1⟩ := trodAll_cons r0
  obtain ⟨rfl, rfl, rfl⟩ := trodAll_nil r1
  obtain rfl : args = #[v0, v1] := by cases args; simp_all
  obtain ⟨rfl, rfl⟩ := trodVars_none hV
  obtain ⟨a0, len0, cap0, rfl⟩ := okWide_slice Try.underlying24 (hval 0 24 v0 rfl rfl)
  obtain ⟨a1, rfl, rfl, rfl, w1⟩ := open_int Try.underlying3 (hval 1 3 v1 rfl rfl) h1
  have k0 := h0
  have lt0 : ∀ x ∈ p0, x.block < W.heap.size := by obtain ⟨m, hm⟩ := k0; exact DataW.trod_lt m _ _ _ hm
  obtain ⟨fuel, hf⟩ := h0
  obtain ⟨hl, hm, ⟨ss, hss, hS⟩, hx⟩ := open_texts (by simpa [Value.cells] using hf)
  have hreach : len0 * 16 ≤ 140737488351232 := by
    rcases hx with ⟨_, rfl⟩ | ⟨elems, spare, he, hel⟩
    · omega
    · simp only at he
      subst he
      have := sized_slice hsz (j := 0) (t := 24) (e := 9) rfl rfl Try.underlying24
      rw [Try.bytesStr] at this
      simp only [reachBytes] at this
      omega
  clear hA0 hval0 hsz0
  refine (walk len0 a1 a0 ss cap0 W hss hS hreach).mono fun e W' ⟨he, bel⟩ => ?_
  subst he
  exact ⟨_, rfl, _, _, _, [], _, [], hW', trodAll_mk1 (shut_bool Try.underlying4 _), (trodAll_cons_mk (Below.trod Try.laidOut (by kernel_rfl) (of_decide_eq_true (by kernel_rfl)) k0 bel lt0) (trodAll_cons_mk (shut_int Try.underlying3 w1) trodAll_mk0)), rfl, bel.frame _, fun h => by cases h⟩

theorem over : Rows.pathsRow.holds Try.pinned (OpenSpec.ofChange Rows.pathsSpec) :=
  OpenClaim.holds_of_wide 5 Try.f5 rfl rfl rfl rfl rfl rfl rfl ⟨rfl, rfl, rfl, rfl, rfl⟩ rfl rfl rfl rfl rfl (by kernel_rfl) Try.func5 (by kernel_rfl)
    (of_decide_eq_true (by kernel_rfl)) (by unfold Func.isWrapper; first | (rw [if_pos (by decide +kernel)]; kernel_rfl) | (rw [if_neg (by decide +kernel)]; exact ⟨rfl, rfl⟩))
    (fun os started H enc _ => lifted os started H enc)

end Go.Proofs.Ytedblhcehlbbmaa.paths
namespace Go.Proofs.Ytedblhcehlbbmaa

/-- THE STATEMENT. -/
theorem paths_holds : Rows.PathsSaid := paths.over

end Go.Proofs.Ytedblhcehlbbmaa

/-
  'Rows.RootsSaid', out of the contracts.
-/
import Derived.Test.YtedblhcehlbbmaaRows
import Derived.Test.YtedblhcehlbbmaaOpens
namespace Go.Proofs.Ytedblhcehlbbmaa.roots
open Go.ChangeShapes Go.WideShapes Go.ChangeAt Go.RowKit

set_option maxHeartbeats 1000000 in
theorem walk (n : Nat) (a : Option Addr) (ss : List ByteArray) (cap : Nat) (w : World) (hn : ss.length = n) (hs : Strs w a ss) (hr : n * 16 ≤ 140737488351232) :
    Calls Try.prog 4 #[.slice a n cap] w fun e w' => e = .returned (.bool true) ∧ Below w.heap.size w w' := by
  have HN := hid hn
  have HS := hid hs
  clear hn hs
  by_cases hL : longB ss = true
  · go_enter Try.func4, Try.ntmps4
    go_wp2_with fail
    refine (texts_any n a ss cap _ HN.out HS.out hr).mono ?_
    rintro e w1 ⟨g, rfl, hg, hm1, hm2, hb1⟩
    have ho : Strs w1 (some ⟨g, 0, none⟩) ss := .inr ⟨g, 0, rfl, fun i hi => by rw [Nat.zero_add]; exact hg i hi⟩
    have HO := hid ho; have HG := hid hg; have HM1 := hid hm1; have HM2 := hid hm2
    clear ho hg hm1 hm2
    go_wp2_with fail
    refine (lroot_any n _ ss (n + 2) _ HN.out HO.out (by omega) (by omega) (by unfold maxLen; omega)).mono ?_
    rintro e w2 ⟨rfl, hb2⟩
    go_wp2_with fail
    refine (stillTexts_any n g a ss cap _ HN.out (fun i hi => cell_kept (HG.out i hi) hb2) (cell_kept HM1.out hb2) (cell_kept HM2.out hb2) (HS.out.kept (kept hb1 hb2)) hr).mono ?_
    rintro e w3 ⟨rfl, hb3⟩
    have hlong := long_any a ss cap w3 (HS.out.kept (kept (kept hb1 hb2) hb3)) (by have := HN.out; omega)
    rw [HN.out] at hlong
    have HLONG := hid hlong
    clear hlong
    go_wp2_with fail
    refine HLONG.out.mono ?_
    rintro e w4 ⟨rfl, rfl⟩
    go_wp2_with fail
    go_ret
    exact ⟨by simp, kept (kept hb1 hb2) hb3⟩
  · have hL : longB ss = false := by simpa using hL
    have hbb := hid (longB_false ss hL)
    go_enter Try.func4, Try.ntmps4
    go_wp2_with fail
    refine (texts_any n a ss cap _ HN.out HS.out hr).mono ?_
    rintro e w1 ⟨g, rfl, hg, hm1, hm2, hb1⟩
    have ho : Strs w1 (some ⟨g, 0, none⟩) ss := .inr ⟨g, 0, rfl, fun i hi => by rw [Nat.zero_add]; exact hg i hi⟩
    have HO := hid ho; have HG := hid hg; have HM1 := hid hm1; have HM2 := hid hm2
    clear ho hg hm1 hm2
    go_wp2_with fail
    refine (lroot_any n _ ss (n + 2) _ HN.out HO.out (by omega) (by omega) (by unfold maxLen; omega)).mono ?_
    rintro e w2 ⟨rfl, hb2⟩
    go_wp2_with fail
    refine (stillTexts_any n g a ss cap _ HN.out (fun i hi => cell_kept (HG.out i hi) hb2) (cell_kept HM1.out hb2) (cell_kept HM2.out hb2) (HS.out.kept (kept hb1 hb2)) hr).mono ?_
    rintro e w3 ⟨rfl, hb3⟩
    have hS3 := hid (HS.out.kept (kept (kept hb1 hb2) hb3))
    have hlong := long_any a ss cap w3 hS3.out (by have := HN.out; omega)
    rw [HN.out] at hlong
    have HLONG := hid hlong
    clear hlong
    go_wp2_with fail
    refine HLONG.out.mono ?_
    rintro e w4 ⟨rfl, rfl⟩
    go_wp2_with fail
    refine (rroot_any n a ss cap _ HN.out hS3.out (by have := hbb.out.1; have := HN.out; omega) hbb.out.2).mono ?_
    rintro e w5 ⟨rfl, hb5⟩
    go_wp2_with fail
    go_ret
    exact ⟨by simp, kept (kept (kept hb1 hb2) hb3) hb5⟩

set_option maxRecDepth 100000 in
theorem lifted (os : Os) (started : os.Started) (H : Type) (enc : TypeId × Value → H) :
    ReturnsInHanded {} Try.checked os 4 .any (Rows.rootsSpec.pre6 enc Try.prog Try.f4 Rows.rootsRow.domain false) (Rows.rootsSpec.post enc Try.prog Try.f4 false true false false) := by
  refine returnsInHanded_of_change_sized (C := Try.checked) Try.own started (by kernel_rfl) Try.func4
    (ChangeSpec.witness6 (enc := enc) (C := Try.checked) false ⟨#[], #[.slice none 0 0], []⟩ 8 (by kernel_rfl) (by kernel_rfl) (by kernel_rfl) (by kernel_rfl)) ?_
  intro W base args ds gs before hval0 hW hcnd hsz0 _
  have hval : ∀ (j : Nat) t v, Try.f4.params[j]? = some t → args[j]? = some v → Value.okWide Try.prog W .any base t v := hval0
  have hsz : (DataW.weightsEach Try.prog (Try.f4.params.toList ++ Rows.rootsSpec.plain.varTypes Try.prog) (ds ++ gs)).all (· ≤ reachBytes) = true := hsz0
  have hW' := hW
  obtain ⟨p, q, hA0, hV, rfl, hfz, hnd⟩ := hW
  have hA : DataW.TrodAll enc Try.prog W 0 (fun _ => true) true Try.f4.params.toList args.toList ds p := hA0
  rw [Try.params4] at hA hval hsz
  obtain ⟨v0, vs0, d0, ds0, p0, q0, hargs, rfl, rfl, h0, r0⟩ := trodAll_cons hA
  obtain ⟨rfl, rfl, rfl⟩ := trodAll_nil r0
  obtain rfl : args = #[v0] := by cases args; simp_all
  obtain ⟨rfl, rfl⟩ := trodVars_none hV
  obtain ⟨a0, len0, cap0, rfl⟩ := okWide_slice Try.underlying24 (hval 0 24 v0 rfl rfl)
  have k0 := h0
  have lt0 : ∀ x ∈ p0, x.block < W.heap.size := by obtain ⟨m, hm⟩ := k0; exact DataW.trod_lt m _ _ _ hm
  obtain ⟨fuel, hf⟩ := h0
  obtain ⟨hl, hm, ⟨ss, hss, hS⟩, hx⟩ := open_texts (by simpa [Value.cells] using hf)
  have hreach : len0 * 16 ≤ 140737488351232 := by
    rcases hx with ⟨_, rfl⟩ | ⟨elems, spare, he, hel⟩
    · omega
    · simp only at he
      subst he
      have := sized_slice hsz (j := 0) (t := 24) (e := 9) rfl rfl Try.underlying24
      rw [Try.bytesStr] at this
      simp only [reachBytes] at this
      omega
  clear hA0 hval0 hsz0
  refine (walk len0 a0 ss cap0 W hss hS hreach).mono fun e W' ⟨he, bel⟩ => ?_
  subst he
  exact ⟨_, rfl, _, _, _, [], _, [], hW', trodAll_mk1 (shut_bool Try.underlying4 _), (trodAll_cons_mk (Below.trod Try.laidOut (by kernel_rfl) (of_decide_eq_true (by kernel_rfl)) k0 bel lt0) trodAll_mk0), rfl, bel.frame _, fun h => by cases h⟩

theorem over : Rows.rootsRow.holds Try.pinned (OpenSpec.ofChange Rows.rootsSpec) :=
  OpenClaim.holds_of_wide 4 Try.f4 rfl rfl rfl rfl rfl rfl rfl ⟨rfl, rfl, rfl, rfl, rfl⟩ rfl rfl rfl rfl rfl (by kernel_rfl) Try.func4 (by kernel_rfl)
    (of_decide_eq_true (by kernel_rfl)) (by unfold Func.isWrapper; first | (rw [if_pos (by decide +kernel)]; kernel_rfl) | (rw [if_neg (by decide +kernel)]; exact ⟨rfl, rfl⟩))
    (fun os started H enc _ => lifted os started H enc)

end Go.Proofs.Ytedblhcehlbbmaa.roots
namespace Go.Proofs.Ytedblhcehlbbmaa

/-- THE STATEMENT. -/
theorem roots_holds : Rows.RootsSaid := roots.over

end Go.Proofs.Ytedblhcehlbbmaa

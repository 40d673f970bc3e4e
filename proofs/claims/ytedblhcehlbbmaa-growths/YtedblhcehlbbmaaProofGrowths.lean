/-
  'Rows.GrowthsSaid', out of the contracts.
-/
import Derived.Test.YtedblhcehlbbmaaRows
import Derived.Test.YtedblhcehlbbmaaOpens
import Derived.Test.YtedblhcehlbbmaaWalkRefGrows
namespace Go.Proofs.Ytedblhcehlbbmaa.growths
open Go.ChangeShapes Go.WideShapes Go.ChangeAt Go.RowKit

set_option maxHeartbeats 1000000 in
theorem walk (old m root n : Int) (l : Nat) (a : Option Addr) (zs : List Int) (cap : Nat) (w : World) (hl : zs.length = l) (hr : l * 8 ≤ 140737488351232) (hz : Ints w a zs) :
    Calls Try.prog 8 #[.int .i64 old, .int .i64 m, .int .i64 root, .int .i64 n, .slice a l cap] w fun e w' => e = .returned (.bool true) ∧ Below w.heap.size w w' := by
  have HL := hid hl
  have HZ := hid hz
  clear hl hz
  go_enter Try.func8, Try.ntmps8
  go_wp2_with fail
  refine (ints_any l a zs cap _ HL.out HZ.out hr).mono ?_
  rintro e w1 ⟨g, rfl, hg, hm1, hm2, hb1⟩
  have ho : Ints w1 (some ⟨g, 0, none⟩) zs := .inr ⟨g, 0, rfl, fun i hi => by rw [Nat.zero_add]; exact hg i hi⟩
  have HO := hid ho; have HG := hid hg; have HM1 := hid hm1; have HM2 := hid hm2
  clear ho hg hm1 hm2
  go_wp2_with fail
  refine (lgrows_any old m root n l _ zs (l + 2) _ HL.out (by omega) HO.out (by omega) (by unfold maxLen; omega)).mono ?_
  rintro e w2 ⟨rfl, hb2⟩
  go_wp2_with fail
  refine (stillInts_any l g a zs cap _ HL.out (fun i hi => cell_kept (HG.out i hi) hb2) (cell_kept HM1.out hb2) (cell_kept HM2.out hb2) (HZ.out.kept (kept hb1 hb2)) hr).mono ?_
  rintro e w3 ⟨rfl, hb3⟩
  have HZ3 := hid (HZ.out.kept (kept (kept hb1 hb2) hb3))
  go_wp2_with fail
  refine (rgrows_any old m root n l a zs cap _ HL.out (by omega) HZ3.out).mono ?_
  rintro e w4 ⟨rfl, hb4⟩
  go_wp2_with fail
  go_ret
  exact ⟨by simp, kept (kept (kept hb1 hb2) hb3) hb4⟩

set_option maxRecDepth 100000 in
theorem lifted (os : Os) (started : os.Started) (H : Type) (enc : TypeId × Value → H) :
    ReturnsInHanded {} Try.checked os 8 .any (Rows.growthsSpec.pre6 enc Try.prog Try.f8 Rows.growthsRow.domain false) (Rows.growthsSpec.post enc Try.prog Try.f8 false true false false) := by
  refine returnsInHanded_of_change_sized (C := Try.checked) Try.own started (by kernel_rfl) Try.func8
    (ChangeSpec.witness6 (enc := enc) (C := Try.checked) false ⟨#[], #[.int .i64 0, .int .i64 0, .int .i64 0, .int .i64 0, .slice none 0 0], []⟩ 8 (by kernel_rfl) (by kernel_rfl) (by kernel_rfl) (by kernel_rfl)) ?_
  intro W base args ds gs before hval0 hW hcnd hsz0 _
  have hval : ∀ (j : Nat) t v, Try.f8.params[j]? = some t → args[j]? = some v → Value.okWide Try.prog W .any base t v := hval0
  have hsz : (DataW.weightsEach Try.prog (Try.f8.params.toList ++ Rows.growthsSpec.plain.varTypes Try.prog) (ds ++ gs)).all (· ≤ reachBytes) = true := hsz0
  have hW' := hW
  obtain ⟨p, q, hA0, hV, rfl, hfz, hnd⟩ := hW
  have hA : DataW.TrodAll enc Try.prog W 0 (fun _ => true) true Try.f8.params.toList args.toList ds p := hA0
  rw [Try.params8] at hA hval hsz
  obtain ⟨v0, vs0, d0, ds0, p0, q0, hargs, rfl, rfl, h0, r0⟩ := trodAll_cons hA
  obtain ⟨v1, vs1, d1, ds1, p1, q1, rfl, rfl, rfl, h1, r1⟩ := trodAll_cons r0
  obtain ⟨v2, vs2, d2, ds2, p2, q2, rfl, rfl, rfl, h2, r2⟩ := trodAll_cons r1
  obtain ⟨v3, vs3, d3, ds3, p3, q3, rfl, rfl, rfl, h3, r3⟩ := trodAll_cons r2
  obtain ⟨v4, vs4, d4, ds4, p4, q4, rfl, rfl, rfl, h4, r4⟩ := trodAll_cons r3
  obtain ⟨rfl, rfl, rfl⟩ := trodAll_nil r4
  obtain rfl : args = #[v0, v1, v2, v3, v4] := by cases args; simp_all
  obtain ⟨rfl, rfl⟩ := trodVars_none hV
  obtain ⟨a0, rfl, rfl, rfl, w0⟩ := open_int Try.underlying3 (hval 0 3 v0 rfl rfl) h0
  obtain ⟨a1, rfl, rfl, rfl, w1⟩ := open_int Try.underlying3 (hval 1 3 v1 rfl rfl) h1
  obtain ⟨a2, rfl, rfl, rfl, w2⟩ := open_int Try.underlying3 (hval 2 3 v2 rfl rfl) h2
  obtain ⟨a3, rfl, rfl, rfl, w3⟩ := open_int Try.underlying3 (hval 3 3 v3 rfl rfl) h3
  obtain ⟨a4, len4, cap4, rfl⟩ := okWide_slice Try.underlying32 (hval 4 32 v4 rfl rfl)
  have k4 := h4
  have lt4 : ∀ x ∈ p4, x.block < W.heap.size := by obtain ⟨m, hm⟩ := k4; exact DataW.trod_lt m _ _ _ hm
  obtain ⟨fuel, hf⟩ := h4
  obtain ⟨hl, hm, ⟨zs, hzs, hZ, _⟩, hx⟩ := open_nums (by simpa [Value.cells] using hf)
  have hreach : len4 * 8 ≤ 140737488351232 := by
    rcases hx with ⟨_, rfl⟩ | ⟨elems, spare, he, hel⟩
    · omega
    · simp only at he
      subst he
      have := sized_slice hsz (j := 4) (t := 32) (e := 3) rfl rfl Try.underlying32
      rw [Try.bytesInt] at this
      simp only [reachBytes] at this
      omega
  clear hA0 hval0 hsz0
  refine (walk a0 a1 a2 a3 len4 a4 zs cap4 W hzs hreach hZ).mono fun e W' ⟨he, bel⟩ => ?_
  subst he
  exact ⟨_, rfl, _, _, _, [], _, [], hW', trodAll_mk1 (shut_bool Try.underlying4 _), (trodAll_cons_mk (shut_int Try.underlying3 w0) (trodAll_cons_mk (shut_int Try.underlying3 w1) (trodAll_cons_mk (shut_int Try.underlying3 w2) (trodAll_cons_mk (shut_int Try.underlying3 w3) (trodAll_cons_mk (Below.trod Try.laidOut (by kernel_rfl) (of_decide_eq_true (by kernel_rfl)) k4 bel lt4) trodAll_mk0))))), rfl, bel.frame _, fun h => by cases h⟩

theorem over : Rows.growthsRow.holds Try.pinned (OpenSpec.ofChange Rows.growthsSpec) :=
  OpenClaim.holds_of_wide 8 Try.f8 rfl rfl rfl rfl rfl rfl rfl ⟨rfl, rfl, rfl, rfl, rfl⟩ rfl rfl rfl rfl rfl (by kernel_rfl) Try.func8 (by kernel_rfl)
    (of_decide_eq_true (by kernel_rfl)) (by unfold Func.isWrapper; first | (rw [if_pos (by decide +kernel)]; kernel_rfl) | (rw [if_neg (by decide +kernel)]; exact ⟨rfl, rfl⟩))
    (fun os started H enc _ => lifted os started H enc)

end Go.Proofs.Ytedblhcehlbbmaa.growths
namespace Go.Proofs.Ytedblhcehlbbmaa

/-- THE STATEMENT. -/
theorem growths_holds : Rows.GrowthsSaid := growths.over

end Go.Proofs.Ytedblhcehlbbmaa

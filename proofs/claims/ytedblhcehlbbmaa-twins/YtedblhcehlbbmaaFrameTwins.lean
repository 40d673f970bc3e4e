/-
  'Rows.TwinsSaid', out of what a call of Twins answers.
-/
import Derived.Test.YtedblhcehlbbmaaRows
import Derived.Test.YtedblhcehlbbmaaOpens
import Derived.Test.YtedblhcehlbbmaaLawTwins
namespace Go.Proofs.Ytedblhcehlbbmaa.twinslaw
open Go.ChangeShapes Go.WideShapes Go.ChangeAt Go.RowKit
open Go.ChangeMaps (open_string shut_string)

set_option maxRecDepth 100000 in
theorem lifted {f : List ByteArray → List ByteArray → List Int → ByteArray × ByteArray × Int} (T : TwinsSpec f) (os : Os) (started : os.Started) (H : Type) (enc : TypeId × Value → H) :
    ReturnsInHanded {} Try.checked os 10 .any (Rows.twinsSpec.pre6 enc Try.prog Try.f10 Rows.twinsRow.domain false) (Rows.twinsSpec.post enc Try.prog Try.f10 false true false false) := by
  refine returnsInHanded_of_change_sized (C := Try.checked) Try.own started (by kernel_rfl) Try.func10
    (ChangeSpec.witness6 (enc := enc) (C := Try.checked) false ⟨#[], #[.slice none 0 0, .slice none 0 0, .slice none 0 0], []⟩ 8 (by kernel_rfl) (by kernel_rfl) (by kernel_rfl) (by kernel_rfl)) ?_
  intro W base args ds gs before hval0 hW hcnd hsz0 _
  have hval : ∀ (j : Nat) t v, Try.f10.params[j]? = some t → args[j]? = some v → Value.okWide Try.prog W .any base t v := hval0
  have hsz : (DataW.weightsEach Try.prog (Try.f10.params.toList ++ Rows.twinsSpec.plain.varTypes Try.prog) (ds ++ gs)).all (· ≤ reachBytes) = true := hsz0
  have hW' := hW
  obtain ⟨p, q, hA0, hV, rfl, hfz, hnd⟩ := hW
  have hA : DataW.TrodAll enc Try.prog W 0 (fun _ => true) true Try.f10.params.toList args.toList ds p := hA0
  rw [Try.params10] at hA hval hsz
  obtain ⟨v0, vs0, d0, ds0, p0, q0, hargs, rfl, rfl, h0, r0⟩ := trodAll_cons hA
  obtain ⟨v1, vs1, d1, ds1, p1, q1, rfl, rfl, rfl, h1, r1⟩ := trodAll_cons r0
  obtain ⟨v2, vs2, d2, ds2, p2, q2, rfl, rfl, rfl, h2, r2⟩ := trodAll_cons r1
  obtain ⟨rfl, rfl, rfl⟩ := trodAll_nil r2
  obtain rfl : args = #[v0, v1, v2] := by cases args; simp_all
  obtain ⟨rfl, rfl⟩ := trodVars_none hV
  obtain ⟨a0, len0, cap0, rfl⟩ := okWide_slice Try.underlying24 (hval 0 24 v0 rfl rfl)
  obtain ⟨a1, len1, cap1, rfl⟩ := okWide_slice Try.underlying24 (hval 1 24 v1 rfl rfl)
  obtain ⟨a3, len3, cap3, rfl⟩ := okWide_slice Try.underlying32 (hval 2 32 v2 rfl rfl)
  have k0 := h0
  have k1 := h1
  have k3 := h2
  have lt0 : ∀ x ∈ p0, x.block < W.heap.size := by obtain ⟨m, hm⟩ := k0; exact DataW.trod_lt m _ _ _ hm
  have lt1 : ∀ x ∈ p1, x.block < W.heap.size := by obtain ⟨m, hm⟩ := k1; exact DataW.trod_lt m _ _ _ hm
  have lt3 : ∀ x ∈ p2, x.block < W.heap.size := by obtain ⟨m, hm⟩ := k3; exact DataW.trod_lt m _ _ _ hm
  obtain ⟨fuel0, hf0⟩ := h0
  obtain ⟨hl0, hm0, ⟨ss, hss, hS⟩, hx0⟩ := open_texts (by simpa [Value.cells] using hf0)
  obtain ⟨fuel1, hf1⟩ := h1
  obtain ⟨hl1, hm1, ⟨tt, htt, hS1⟩, hx1⟩ := open_texts (by simpa [Value.cells] using hf1)
  obtain ⟨fuel3, hf3⟩ := h2
  obtain ⟨hl3, hm3, ⟨zs, hzs, hZ, _⟩, hx3⟩ := open_nums (by simpa [Value.cells] using hf3)
  have hreach0 : len0 * 16 ≤ 140737488351232 := by
    rcases hx0 with ⟨_, rfl⟩ | ⟨elems, spare, he, hel⟩
    · omega
    · simp only at he
      subst he
      have := sized_slice hsz (j := 0) (t := 24) (e := 9) rfl rfl Try.underlying24
      rw [Try.bytesStr] at this
      simp only [reachBytes] at this
      omega
  have hreach1 : len1 * 16 ≤ 140737488351232 := by
    rcases hx1 with ⟨_, rfl⟩ | ⟨elems, spare, he, hel⟩
    · omega
    · simp only at he
      subst he
      have := sized_slice hsz (j := 1) (t := 24) (e := 9) rfl rfl Try.underlying24
      rw [Try.bytesStr] at this
      simp only [reachBytes] at this
      omega
  have hreach3 : len3 * 8 ≤ 140737488351232 := by
    rcases hx3 with ⟨_, rfl⟩ | ⟨elems, spare, he, hel⟩
    · omega
    · simp only at he
      subst he
      have := sized_slice hsz (j := 2) (t := 32) (e := 3) rfl rfl Try.underlying32
      rw [Try.bytesInt] at this
      simp only [reachBytes] at this
      omega
  clear hA0 hval0 hsz0
  refine (lawtwins_any T len0 len1 len3 a0 a1 a3 ss tt zs cap0 cap1 cap3 W hss htt hzs hS hS1 hZ hreach0 hreach1 hreach3 hl0 hm0 hl1 hm1 hl3 hm3).mono fun e W' ⟨he, bel⟩ => ?_
  subst he
  exact ⟨_, rfl, _, _, _, [], _, [], hW', trodAll_mk1 (shut_bool Try.underlying4 _), (trodAll_cons_mk (Below.trod Try.laidOut (by kernel_rfl) (of_decide_eq_true (by kernel_rfl)) k0 bel lt0) (trodAll_cons_mk (Below.trod Try.laidOut (by kernel_rfl) (of_decide_eq_true (by kernel_rfl)) k1 bel lt1) (trodAll_cons_mk (Below.trod Try.laidOut (by kernel_rfl) (of_decide_eq_true (by kernel_rfl)) k3 bel lt3) trodAll_mk0))), rfl, bel.frame _, fun h => by cases h⟩

theorem over {f : List ByteArray → List ByteArray → List Int → ByteArray × ByteArray × Int} (T : TwinsSpec f) : Rows.twinsRow.holds Try.pinned (OpenSpec.ofChange Rows.twinsSpec) :=
  OpenClaim.holds_of_wide 10 Try.f10 rfl rfl rfl rfl rfl rfl rfl ⟨rfl, rfl, rfl, rfl, rfl⟩ rfl rfl rfl rfl rfl (by kernel_rfl) Try.func10 (by kernel_rfl)
    (of_decide_eq_true (by kernel_rfl)) (by unfold Func.isWrapper; first | (rw [if_pos (by decide +kernel)]; kernel_rfl) | (rw [if_neg (by decide +kernel)]; exact ⟨rfl, rfl⟩))
    (fun os started H enc _ => lifted T os started H enc)

end Go.Proofs.Ytedblhcehlbbmaa.twinslaw

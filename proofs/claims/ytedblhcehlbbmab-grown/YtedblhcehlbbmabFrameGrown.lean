/-
  'Rows.GrownSaid', out of what a call of Twins answers.
-/
import Derived.Test.YtedblhcehlbbmabRows
import Derived.Test.YtedblhcehlbbmabOpens
import Derived.Test.YtedblhcehlbbmabLawGrown
namespace Go.Proofs.Ytedblhcehlbbmab.grownlaw
open Go.ChangeShapes Go.WideShapes Go.ChangeAt Go.RowKit
open Go.ChangeMaps (open_string shut_string)

set_option maxRecDepth 100000 in
theorem lifted {f : List ByteArray → List ByteArray → List Int → ByteArray × ByteArray × Int} (T : TwinsSpec f) (os : Os) (started : os.Started) (H : Type) (enc : TypeId × Value → H) :
    ReturnsInHanded {} Try.checked os 5 .any (Rows.grownSpec.pre6 enc Try.prog Try.f5 Rows.grownRow.domain false) (Rows.grownSpec.post enc Try.prog Try.f5 false true false false) := by
  refine returnsInHanded_of_change_sized (C := Try.checked) Try.own started (by kernel_rfl) Try.func5
    (ChangeSpec.witness6 (enc := enc) (C := Try.checked) false ⟨#[], #[.slice none 0 0, .slice none 0 0, .int .i64 0, .slice none 0 0], []⟩ 8 (by kernel_rfl) (by kernel_rfl) (by kernel_rfl) (by kernel_rfl)) ?_
  intro W base args ds gs before hval0 hW hcnd hsz0 _
  have hval : ∀ (j : Nat) t v, Try.f5.params[j]? = some t → args[j]? = some v → Value.okWide Try.prog W .any base t v := hval0
  have hsz : (DataW.weightsEach Try.prog (Try.f5.params.toList ++ Rows.grownSpec.plain.varTypes Try.prog) (ds ++ gs)).all (· ≤ reachBytes) = true := hsz0
  have hW' := hW
  obtain ⟨p, q, hA0, hV, rfl, hfz, hnd⟩ := hW
  have hA : DataW.TrodAll enc Try.prog W 0 (fun _ => true) true Try.f5.params.toList args.toList ds p := hA0
  rw [Try.params5] at hA hval hsz
  obtain ⟨v0, vs0, d0, ds0, p0, q0, hargs, rfl, rfl, h0, r0⟩ := trodAll_cons hA
  obtain ⟨v1, vs1, d1, ds1, p1, q1, rfl, rfl, rfl, h1, r1⟩ := trodAll_cons r0
  obtain ⟨v2, vs2, d2, ds2, p2, q2, rfl, rfl, rfl, h2, r2⟩ := trodAll_cons r1
  obtain ⟨v3, vs3, d3, ds3, p3, q3, rfl, rfl, rfl, h3, r3⟩ := trodAll_cons r2
  obtain ⟨rfl, rfl, rfl⟩ := trodAll_nil r3
  obtain rfl : args = #[v0, v1, v2, v3] := by cases args; simp_all
  obtain ⟨rfl, rfl⟩ := trodVars_none hV
  obtain ⟨a0, len0, cap0, rfl⟩ := okWide_slice Try.underlying22 (hval 0 22 v0 rfl rfl)
  obtain ⟨a1, len1, cap1, rfl⟩ := okWide_slice Try.underlying22 (hval 1 22 v1 rfl rfl)
  obtain ⟨a2, rfl, rfl, rfl, w2⟩ := open_int Try.underlying3 (hval 2 3 v2 rfl rfl) h2
  obtain ⟨a3, len3, cap3, rfl⟩ := okWide_slice Try.underlying23 (hval 3 23 v3 rfl rfl)
  have k0 := h0
  have k1 := h1
  have k3 := h3
  have lt0 : ∀ x ∈ p0, x.block < W.heap.size := by obtain ⟨m, hm⟩ := k0; exact DataW.trod_lt m _ _ _ hm
  have lt1 : ∀ x ∈ p1, x.block < W.heap.size := by obtain ⟨m, hm⟩ := k1; exact DataW.trod_lt m _ _ _ hm
  have lt3 : ∀ x ∈ p3, x.block < W.heap.size := by obtain ⟨m, hm⟩ := k3; exact DataW.trod_lt m _ _ _ hm
  obtain ⟨fuel0, hf0⟩ := h0
  obtain ⟨hl0, hm0, ⟨ss, hss, hS⟩, hx0⟩ := open_texts (by simpa [Value.cells] using hf0)
  obtain ⟨fuel1, hf1⟩ := h1
  obtain ⟨hl1, hm1, ⟨tt, htt, hS1⟩, hx1⟩ := open_texts (by simpa [Value.cells] using hf1)
  obtain ⟨fuel3, hf3⟩ := h3
  obtain ⟨hl3, hm3, ⟨zs, hzs, hZ, _⟩, hx3⟩ := open_nums (by simpa [Value.cells] using hf3)
  have hreach0 : len0 * 16 ≤ 140737488351232 := by
    rcases hx0 with ⟨_, rfl⟩ | ⟨elems, spare, he, hel⟩
    · omega
    · simp only at he
      subst he
      have := sized_slice hsz (j := 0) (t := 22) (e := 9) rfl rfl Try.underlying22
      rw [Try.bytesStr] at this
      simp only [reachBytes] at this
      omega
  have hreach1 : len1 * 16 ≤ 140737488351232 := by
    rcases hx1 with ⟨_, rfl⟩ | ⟨elems, spare, he, hel⟩
    · omega
    · simp only at he
      subst he
      have := sized_slice hsz (j := 1) (t := 22) (e := 9) rfl rfl Try.underlying22
      rw [Try.bytesStr] at this
      simp only [reachBytes] at this
      omega
  have hreach3 : len3 * 8 ≤ 140737488351232 := by
    rcases hx3 with ⟨_, rfl⟩ | ⟨elems, spare, he, hel⟩
    · omega
    · simp only at he
      subst he
      have := sized_slice hsz (j := 3) (t := 23) (e := 3) rfl rfl Try.underlying23
      rw [Try.bytesInt] at this
      simp only [reachBytes] at this
      omega
  have bd2 := int_bounds w2
  clear hA0 hval0 hsz0
  refine (lawgrown_any T len0 len1 len3 a2 a0 a1 a3 ss tt zs cap0 cap1 cap3 W hss htt hzs hS hS1 hZ hreach0 hreach1 hreach3 hl3 hm3 bd2.1 bd2.2).mono fun e W' ⟨he, bel⟩ => ?_
  subst he
  exact ⟨_, rfl, _, _, _, [], _, [], hW', trodAll_mk1 (shut_bool Try.underlying4 _), (trodAll_cons_mk (Below.trod Try.laidOut (by kernel_rfl) (of_decide_eq_true (by kernel_rfl)) k0 bel lt0) (trodAll_cons_mk (Below.trod Try.laidOut (by kernel_rfl) (of_decide_eq_true (by kernel_rfl)) k1 bel lt1) (trodAll_cons_mk (shut_int Try.underlying3 w2) (trodAll_cons_mk (Below.trod Try.laidOut (by kernel_rfl) (of_decide_eq_true (by kernel_rfl)) k3 bel lt3) trodAll_mk0)))), rfl, bel.frame _, fun h => by cases h⟩

theorem over {f : List ByteArray → List ByteArray → List Int → ByteArray × ByteArray × Int} (T : TwinsSpec f) : Rows.grownRow.holds Try.pinned (OpenSpec.ofChange Rows.grownSpec) :=
  OpenClaim.holds_of_wide 5 Try.f5 rfl rfl rfl rfl rfl rfl rfl ⟨rfl, rfl, rfl, rfl, rfl⟩ rfl rfl rfl rfl rfl (by kernel_rfl) Try.func5 (by kernel_rfl)
    (of_decide_eq_true (by kernel_rfl)) (by unfold Func.isWrapper; first | (rw [if_pos (by decide +kernel)]; kernel_rfl) | (rw [if_neg (by decide +kernel)]; exact ⟨rfl, rfl⟩))
    (fun os started H enc _ => lifted T os started H enc)

end Go.Proofs.Ytedblhcehlbbmab.grownlaw

/-
  'Rows.PaidSaid', out of what a book's calls answer.
-/
import Derived.Test.YtedblhcehlbbmabRows
import Derived.Test.YtedblhcehlbbmabOpens
import Derived.Test.YtedblhcehlbbmabLawPaid
namespace Go.Proofs.Ytedblhcehlbbmab.paidlaw
open Go.ChangeShapes Go.WideShapes Go.ChangeAt Go.RowKit

set_option maxRecDepth 100000 in
theorem lifted {Rep : World → (Nat → Prop) → Value → List Ev → Prop} (T : ∀ w0, BookSpec w0 Rep) (os : Os) (started : os.Started) (H : Type) (enc : TypeId × Value → H) :
    ReturnsInHanded {} Try.checked os 6 .any (Rows.paidSpec.pre6 enc Try.prog Try.f6 Rows.paidRow.domain false) (Rows.paidSpec.post enc Try.prog Try.f6 false true false false) := by
  refine returnsInHanded_of_change_sized (C := Try.checked) Try.own started (by kernel_rfl) Try.func6
    (ChangeSpec.witness6 (enc := enc) (C := Try.checked) false ⟨#[], #[.slice none 0 0, .int .i64 0], []⟩ 8 (by kernel_rfl) (by kernel_rfl) (by kernel_rfl) (by kernel_rfl)) ?_
  intro W base args ds gs before hval0 hW hcnd hsz0 _
  have hval : ∀ (j : Nat) t v, Try.f6.params[j]? = some t → args[j]? = some v → Value.okWide Try.prog W .any base t v := hval0
  have hsz : (DataW.weightsEach Try.prog (Try.f6.params.toList ++ Rows.paidSpec.plain.varTypes Try.prog) (ds ++ gs)).all (· ≤ reachBytes) = true := hsz0
  have hW' := hW
  obtain ⟨p, q, hA0, hV, rfl, hfz, hnd⟩ := hW
  have hA : DataW.TrodAll enc Try.prog W 0 (fun _ => true) true Try.f6.params.toList args.toList ds p := hA0
  rw [Try.params6] at hA hval hsz
  obtain ⟨v0, vs0, d0, ds0, p0, q0, hargs, rfl, rfl, h0, r0⟩ := trodAll_cons hA
  obtain ⟨v1, vs1, d1, ds1, p1, q1, rfl, rfl, rfl, h1, r1⟩ := trodAll_cons r0
  obtain ⟨rfl, rfl, rfl⟩ := trodAll_nil r1
  obtain rfl : args = #[v0, v1] := by cases args; simp_all
  obtain ⟨rfl, rfl⟩ := trodVars_none hV
  obtain ⟨a0, len0, cap0, rfl⟩ := okWide_slice Try.underlying23 (hval 0 23 v0 rfl rfl)
  obtain ⟨a1, rfl, rfl, rfl, w1⟩ := open_int Try.underlying3 (hval 1 3 v1 rfl rfl) h1
  have k0 := h0
  have lt0 : ∀ x ∈ p0, x.block < W.heap.size := by obtain ⟨m, hm⟩ := k0; exact DataW.trod_lt m _ _ _ hm
  obtain ⟨fuel0, hf0⟩ := h0
  obtain ⟨hl0, hm0, ⟨zs, hzs, hZ, hwf⟩, hx0⟩ := open_nums (by simpa [Value.cells] using hf0)
  have hreach0 : len0 * 8 ≤ 140737488351232 := by
    rcases hx0 with ⟨_, rfl⟩ | ⟨elems, spare, he, hel⟩
    · omega
    · simp only at he
      subst he
      have := sized_slice hsz (j := 0) (t := 23) (e := 3) rfl rfl Try.underlying23
      rw [Try.bytesInt] at this
      simp only [reachBytes] at this
      omega
  have bd1 := int_bounds w1
  have h64 : ∀ z ∈ zs, In64 z := fun z hz => int_bounds (hwf z hz)
  clear hA0 hval0 hsz0
  refine (lawpaid_any len0 a0 zs cap0 a1 W (T W) hzs hZ hreach0 h64 bd1.1 bd1.2).mono fun e W' ⟨he, bel⟩ => ?_
  subst he
  exact ⟨_, rfl, _, _, _, [], _, [], hW', trodAll_mk1 (shut_bool Try.underlying4 _), (trodAll_cons_mk (Below.trod Try.laidOut (by kernel_rfl) (of_decide_eq_true (by kernel_rfl)) k0 bel lt0) (trodAll_cons_mk (shut_int Try.underlying3 w1) trodAll_mk0)), rfl, bel.frame _, fun h => by cases h⟩

theorem over {Rep : World → (Nat → Prop) → Value → List Ev → Prop} (T : ∀ w0, BookSpec w0 Rep) : Rows.paidRow.holds Try.pinned (OpenSpec.ofChange Rows.paidSpec) :=
  OpenClaim.holds_of_wide 6 Try.f6 rfl rfl rfl rfl rfl rfl rfl ⟨rfl, rfl, rfl, rfl, rfl⟩ rfl rfl rfl rfl rfl (by kernel_rfl) Try.func6 (by kernel_rfl)
    (of_decide_eq_true (by kernel_rfl)) (by unfold Func.isWrapper; first | (rw [if_pos (by decide +kernel)]; kernel_rfl) | (rw [if_neg (by decide +kernel)]; exact ⟨rfl, rfl⟩))
    (fun os started H enc _ => lifted T os started H enc)

end Go.Proofs.Ytedblhcehlbbmab.paidlaw

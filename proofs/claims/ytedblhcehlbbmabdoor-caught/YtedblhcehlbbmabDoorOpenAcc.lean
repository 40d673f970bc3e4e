/-
  AN ACCOUNT AS AN ARGUMENT, opened.
-/
import Derived.Test.YtedblhcehlbbmabDoorDoor
import Derived.Test.YtedblhcehlbbmabDoorMathAcc
namespace Go.Proofs.YtedblhcehlbbmabDoor
open Go.ChangeShapes Go.WideShapes Go.ChangeAt Go.RowKit

theorem accCells : Tryd.prog.cellsOf 35 = 15 := by kernel_rfl
theorem accTypes : Tryd.prog.cellTypes Tryd.prog.depth 35 = some (List.replicate 15 3) := by kernel_rfl
set_option maxRecDepth 20000 in
theorem int_of {w : World} {r : Reach} {b : Nat} {v : Value} (h : Cell.okWide Tryd.prog w r b 3 v) : ∃ n, v = .int .i64 n ∧ In64 n := by
  cases v <;> simp [Cell.okWide, Cell.ok, Tryd.underlying3] at h
  obtain ⟨rfl, h⟩ := h
  refine ⟨_, rfl, ?_⟩
  simpa [IntKind.has, IntKind.min, IntKind.max, IntKind.signed, IntKind.bits, In64] using h
set_option maxRecDepth 20000 in
theorem open_acc {w : World} {r : Reach} {b : Nat} {v : Value} (h : Value.okWide Tryd.prog w r b 35 v) : ∃ a, v = accV a ∧ Acc64 a := by
  unfold Value.okWide at h
  rw [Tryd.underlying35] at h
  obtain ⟨cs, rfl, hsz, ts, hts, _, hc⟩ := h
  rw [accTypes] at hts
  cases hts
  rw [accCells] at hsz
  have key : ∀ i (hi : i < 15), ∃ n, cs[i]? = some (.int .i64 n) ∧ In64 n := fun i hi => by
    have hlt : i < cs.size := by omega
    obtain ⟨u, hu, hok⟩ := hc i cs[i] (Array.getElem?_eq_getElem hlt)
    rw [List.length_replicate, Nat.mod_eq_of_lt hi, List.getElem?_replicate, if_pos hi] at hu
    cases hu
    obtain ⟨n, h1, h2⟩ := int_of hok
    exact ⟨n, by rw [Array.getElem?_eq_getElem hlt, h1], h2⟩
  obtain ⟨n0, e0, b0⟩ := key 0 (by omega)
  obtain ⟨n1, e1, b1⟩ := key 1 (by omega)
  obtain ⟨n2, e2, b2⟩ := key 2 (by omega)
  obtain ⟨n3, e3, b3⟩ := key 3 (by omega)
  obtain ⟨n4, e4, b4⟩ := key 4 (by omega)
  obtain ⟨n5, e5, b5⟩ := key 5 (by omega)
  obtain ⟨n6, e6, b6⟩ := key 6 (by omega)
  obtain ⟨n7, e7, b7⟩ := key 7 (by omega)
  obtain ⟨n8, e8, b8⟩ := key 8 (by omega)
  obtain ⟨n9, e9, b9⟩ := key 9 (by omega)
  obtain ⟨n10, e10, b10⟩ := key 10 (by omega)
  obtain ⟨n11, e11, b11⟩ := key 11 (by omega)
  obtain ⟨n12, e12, b12⟩ := key 12 (by omega)
  obtain ⟨n13, e13, b13⟩ := key 13 (by omega)
  obtain ⟨n14, e14, b14⟩ := key 14 (by omega)
  clear key hc
  refine ⟨⟨n0, ⟨n1, n2, n3, n4, n5, n6⟩, n7, n8, n9, n10, n11, n12, n13, n14⟩, ?_, b0, ?_, b7, b8, ?_⟩
  · obtain ⟨l⟩ := cs
    match l, hsz with
    | [c0, c1, c2, c3, c4, c5, c6, c7, c8, c9, c10, c11, c12, c13, c14], _ =>
      simp at e0 e1 e2 e3 e4 e5 e6 e7 e8 e9 e10 e11 e12 e13 e14
      subst e0; subst e1; subst e2; subst e3; subst e4; subst e5; subst e6; subst e7; subst e8; subst e9; subst e10; subst e11; subst e12; subst e13; subst e14
      rfl
  · intro z hz
    simp only [stI, List.mem_cons, List.not_mem_nil, or_false] at hz
    rcases hz with rfl | rfl | rfl | rfl | rfl | rfl <;> assumption
  · intro z hz
    simp only [Acc.path, List.mem_cons, List.not_mem_nil, or_false] at hz
    rcases hz with rfl | rfl | rfl | rfl | rfl | rfl <;> assumption

end Go.Proofs.YtedblhcehlbbmabDoor

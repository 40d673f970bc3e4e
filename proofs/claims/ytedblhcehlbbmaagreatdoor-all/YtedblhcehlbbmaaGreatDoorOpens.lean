import Derived.Test.YtedblhcehlbbmaaGreatDoorJWalkHand
import Derived.WalkKit
import Derived.ProofKit
import Derived.OpenShut
import Derived.ShutString
import Derived.ChangeOld
import Derived.Below
import Derived.SizedLaws
import Derived.Deep.Strs
/-
  ARGUMENTS OPENED: a []string and a []int that came in, as the contracts ask for them.
-/
namespace Go.Proofs.YtedblhcehlbbmaaGreatDoor
set_option maxRecDepth 20000
open Go.ChangeShapes Go.WideShapes Go.ChangeAt Go.RowKit

theorem Tryz.own : ownKnob Tryz.prog.godebug = none := by kernel_rfl
theorem Tryz.laidOut : laidOutB Tryz.prog = true := by kernel_rfl
theorem Tryz.cellsStr : Tryz.prog.cellsOf 9 = 1 := by kernel_rfl
theorem Tryz.cellsInt : Tryz.prog.cellsOf 3 = 1 := by kernel_rfl
theorem Tryz.bytesStr : Tryz.prog.bytesOf 9 = 16 := by kernel_rfl
theorem Tryz.bytesInt : Tryz.prog.bytesOf 3 = 8 := by kernel_rfl

variable {H : Type} {enc : TypeId × Value → H}

/-- A []string that came in. -/
theorem open_texts {W : World} {a : Option Addr} {len cap fuel : Nat} {x : DataW H × List MemPlace} (hf : DataW.trod enc Tryz.prog W 0 (fun _ => true) true fuel 37 [.slice a len cap] = some x) :
    len ≤ cap ∧ cap ≤ maxLen ∧ (∃ ss : List ByteArray, ss.length = len ∧ Strs W a ss) ∧ (x.1 = .nil ∧ len = 0 ∨ ∃ elems spare, x.1 = .slice elems spare ∧ elems.length = len) := by
  rcases Deep.open_strs Tryz.underlying37 Tryz.underlying9 Tryz.cellsStr hf with ⟨hcs, hx⟩ | ⟨ad, l, c, m, Sx, hcs, _, hl, hm, hmm, hx, hcell⟩
  · cases hcs
    exact ⟨Nat.le_refl _, Nat.zero_le _, ⟨[], rfl, .inl rfl⟩, .inl ⟨by rw [hx], rfl⟩⟩
  · cases hcs
    simp at hmm
    subst hmm
    refine ⟨hl, hm, ⟨(List.range len).map Sx, by simp, ?_⟩, .inr ⟨_, _, by rw [hx], by simp⟩⟩
    by_cases h0 : len = 0
    · exact .inl (by simp [h0])
    · obtain ⟨b, off, spot⟩ := ad
      have hspot : spot = none := by simpa [Addr.add] using World.cell?_spot (hcell 0 (by omega)).1
      subst hspot
      refine .inr ⟨b, off, rfl, fun i hi => ?_⟩
      have hi' : i < len := by simpa using hi
      rw [← add_plain, (hcell i (by omega)).1]
      simp

/-- A []int that came in. -/
theorem open_nums {W : World} {a : Option Addr} {len cap fuel : Nat} {x : DataW H × List MemPlace} (hf : DataW.trod enc Tryz.prog W 0 (fun _ => true) true fuel 54 [.slice a len cap] = some x) :
    len ≤ cap ∧ cap ≤ maxLen ∧ (∃ zs : List Int, zs.length = len ∧ Ints W a zs ∧ ∀ z ∈ zs, (Lit.int .i64 z).wf = true) ∧ (x.1 = .nil ∧ len = 0 ∨ ∃ elems spare, x.1 = .slice elems spare ∧ elems.length = len) := by
  rcases open_ints Tryz.underlying54 Tryz.underlying3 Tryz.cellsInt hf with ⟨hcs, hx⟩ | ⟨ad, l, c, zs, hcs, _, hl, hm, hz, hx, hcell, hwz⟩
  · cases hcs
    exact ⟨Nat.le_refl _, Nat.zero_le _, ⟨[], rfl, .inl rfl, by simp⟩, .inl ⟨by rw [hx], rfl⟩⟩
  · cases hcs
    simp at hz
    refine ⟨hl, hm, ⟨zs.take len, by simp; omega, ?_, fun z hz => hwz z (List.mem_of_mem_take hz)⟩, .inr ⟨_, _, by rw [hx], by simp [lits]; omega⟩⟩
    by_cases h0 : len = 0
    · exact .inl (by simp [h0])
    · obtain ⟨b, off, rfl, hc⟩ := ints_at hcell (by omega)
      refine .inr ⟨b, off, rfl, fun i hi => ?_⟩
      have hi' : i < zs.length := by simp at hi; omega
      rw [hc i hi']
      simp [List.getD_eq_getElem?_getD, List.getElem?_eq_getElem hi']

end Go.Proofs.YtedblhcehlbbmaaGreatDoor

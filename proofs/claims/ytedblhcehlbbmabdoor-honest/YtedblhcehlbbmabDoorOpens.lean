/-
  ARGUMENTS OPENED: a []string and a []int that came in, as the contracts ask for them.
-/
import Derived.Test.YtedblhcehlbbmabDoorWalkHand
import Derived.WalkKit
import Derived.ProofKit
import Derived.OpenShut
import Derived.ShutString
import Derived.ChangeOld
import Derived.Below
import Derived.SizedLaws
import Derived.Deep.Strs
namespace Go.Proofs.YtedblhcehlbbmabDoor
open Go.ChangeShapes Go.WideShapes Go.ChangeAt Go.RowKit

theorem Tryd.own : ownKnob Tryd.prog.godebug = none := by kernel_rfl
theorem Tryd.laidOut : laidOutB Tryd.prog = true := by kernel_rfl
theorem Tryd.cellsStr : Tryd.prog.cellsOf 9 = 1 := by kernel_rfl
theorem Tryd.cellsInt : Tryd.prog.cellsOf 3 = 1 := by kernel_rfl
theorem Tryd.bytesStr : Tryd.prog.bytesOf 9 = 16 := by kernel_rfl
theorem Tryd.bytesInt : Tryd.prog.bytesOf 3 = 8 := by kernel_rfl

variable {H : Type} {enc : TypeId × Value → H}

/-- A []string that came in. -/
theorem open_texts {W : World} {a : Option Addr} {len cap fuel : Nat} {x : DataW H × List MemPlace} (hf : DataW.trod enc Tryd.prog W 0 (fun _ => true) true fuel 40 [.slice a len cap] = some x) :
    len ≤ cap ∧ cap ≤ maxLen ∧ (∃ ss : List ByteArray, ss.length = len ∧ Strs W a ss) ∧ (x.1 = .nil ∧ len = 0 ∨ ∃ elems spare, x.1 = .slice elems spare ∧ elems.length = len) := by
  rcases Deep.open_strs Tryd.underlying40 Tryd.underlying9 Tryd.cellsStr hf with ⟨hcs, hx⟩ | ⟨ad, l, c, m, Sx, hcs, _, hl, hm, hmm, hx, hcell⟩
  · cases hcs
    exact ⟨Nat.le_refl _, Nat.zero_le _, ⟨[], rfl, .inl rfl⟩, .inl ⟨by rw [hx], rfl⟩⟩
  · cases hcs
    simp at hmm
    subst hmm
    refine ⟨hl, hm, ⟨(List.range len).map Sx, by simp, ?_⟩, .inr ⟨_, _, by rw [hx], by simp⟩⟩
    by_cases h0 : len = 0
    · exact .inl (by simp [h0])
    · obtain ⟨b, off, spot⟩ := ad
      have hspot : spot = none := by simpa [Addr.add] using World.cell?_spot (hcell 0 (by omega)).1
      subst hspot
      refine .inr ⟨b, off, rfl, fun i hi => ?_⟩
      have hi' : i < len := by simpa using hi
      rw [← add_plain, (hcell i (by omega)).1]
      simp

/-- A []int that came in. -/
theorem open_nums {W : World} {a : Option Addr} {len cap fuel : Nat} {x : DataW H × List MemPlace} (hf : DataW.trod enc Tryd.prog W 0 (fun _ => true) true fuel 22 [.slice a len cap] = some x) :
    len ≤ cap ∧ cap ≤ maxLen ∧ (∃ zs : List Int, zs.length = len ∧ Ints W a zs ∧ ∀ z ∈ zs, (Lit.int .i64 z).wf = true) ∧ (x.1 = .nil ∧ len = 0 ∨ ∃ elems spare, x.1 = .slice elems spare ∧ elems.length = len) := by
  rcases open_ints Tryd.underlying22 Tryd.underlying3 Tryd.cellsInt hf with ⟨hcs, hx⟩ | ⟨ad, l, c, zs, hcs, _, hl, hm, hz, hx, hcell, hwz⟩
  · cases hcs
    exact ⟨Nat.le_refl _, Nat.zero_le _, ⟨[], rfl, .inl rfl, by simp⟩, .inl ⟨by rw [hx], rfl⟩⟩
  · cases hcs
    simp at hz
    refine ⟨hl, hm, ⟨zs.take len, by simp; omega, ?_, fun z hz => hwz z (List.mem_of_mem_take hz)⟩, .inr ⟨_, _, by rw [hx], by simp [lits]; omega⟩⟩
    by_cases h0 : len = 0
    · exact .inl (by simp [h0])
    · obtain ⟨b, off, rfl, hc⟩ := ints_at hcell (by omega)
      refine .inr ⟨b, off, rfl, fun i hi => ?_⟩
      have hi' : i < zs.length := by simp at hi; omega
      rw [hc i hi']
      simp [List.getD_eq_getElem?_getD, List.getElem?_eq_getElem hi']

end Go.Proofs.YtedblhcehlbbmabDoor

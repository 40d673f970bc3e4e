/-
  CONTRACTS: lenderref.Within.
-/
import Derived.Test.YtedblhcehlbbmabWalkWithin
import Derived.WalkKit
import Derived.WalkSpells
import Derived.WalkLawsBesides
namespace Go.Proofs.Ytedblhcehlbbmab
open Go.RowKit

theorem withinB_bad {root n i : Int} {e : ByteArray} {zs : List Int} (h : bdL zs = false) : withinB root n i e zs = false := by
  unfold withinB leadO
  rw [h]
  simp

theorem drop_cons {α : Type} (l : List α) (k : Nat) (h : k < l.length) : l.drop k = l[k] :: l.drop (k + 1) := List.drop_eq_getElem_cons h

theorem lwithin_any (root n i : Int) (l : Nat) (ent : ByteArray) (a : Option Addr) (zs : List Int) (cap : Nat) (w : World) (hs : ent.size ≤ maxLen) (hl : zs.length = l) (hr : l ≤ 17592186043904) (hz : Ints w a zs) (hcap : l ≤ cap) (hmax : cap ≤ maxLen) :
    Calls Try.prog 12 #[.int .i64 root, .int .i64 n, .int .i64 i, .string ent, .slice a l cap] w fun e w' => e = .returned (.bool (withinB root n i ent zs)) ∧ Below w.heap.size w w' := by
  by_cases h : 1 ≤ n ∧ n ≤ 200 ∧ 0 ≤ i ∧ i < n ∧ ent.size ≤ 40
  · obtain ⟨h1, h2, h3, h4, h5⟩ := h
    obtain ⟨n', rfl⟩ : ∃ k : Nat, n = (k : Int) := ⟨n.toNat, by omega⟩
    obtain ⟨i', rfl⟩ : ∃ k : Nat, i = (k : Int) := ⟨i.toNat, by omega⟩
    exact lwithin_in root n' i' l ent a zs cap w (by omega) (by omega) (by omega) h5 hl hr hz hcap hmax
  · exact (lwithin_out root n i ent _ zs w hs h).mono fun e w' ⟨he, hw⟩ => ⟨he, by subst hw; exact Below.refl _ _⟩

end Go.Proofs.Ytedblhcehlbbmab

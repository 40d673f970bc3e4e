/-
  CONTRACTS of what hands lists over and looks at them behind the call: lenderlaw.texts, sameTexts, stillTexts; ints, sameInts, stillInts.
-/
import Derived.Test.YtedblhcehlbbmabDoorWalkRef
import Derived.WalkKit
import Derived.WalkSpells
import Derived.WalkLawsBesides
import Derived.Laws.CopyOwn
import Derived.Deep.QuietTactic
import Derived.BigQuiet
namespace Go.Proofs.YtedblhcehlbbmabDoor
open Go.RowKit

theorem Tryd.infoStr : (Tryd.prog.info? 9).map (fun i => (i.zero, i.size, i.bytes)) = some (some (.string ⟨#[]⟩), 1, 16) := by kernel_rfl
theorem Tryd.sizeInt : (Tryd.prog.info? 3).map (·.size) = some 1 := by kernel_rfl
theorem Tryd.sizeStr : (Tryd.prog.info? 9).map (·.size) = some 1 := by kernel_rfl

/-- Strings, as values. -/
def sv (l : List ByteArray) : List Value := l.map Value.string
theorem length_sv (l : List ByteArray) : (sv l).length = l.length := by simp [sv]
def zeroStrs (n : Nat) : List Value := List.replicate n (.string ⟨#[]⟩)

theorem made_block {w1 : World} {B g n : Nat} {z : Value} {e : TypeId} (h : w1.ownsRow B e 1 (.slice (some ⟨g, 0, none⟩) n n) n (madeCells #[z] n).toList) : w1.heap[g]? = some (.cells (List.replicate n z).toArray e (0, 0)) := by
  obtain ⟨_, h2⟩ := h
  rcases h2 with ⟨h2, _⟩ | ⟨g', cap, cur, h1, _, h3, _, _, h6, h7⟩
  · cases h2
  · cases h1
    rw [toList_madeCells_one, Nat.mul_one] at h7
    rw [List.take_of_length_le (by simp; omega)] at h7
    rw [h3, ← h7]

theorem block_cell {w : World} {g : Nat} {l : List Value} {t : TypeId} (h : w.heap[g]? = some (.cells l.toArray t (0, 0))) (i : Nat) : w.cell? ⟨g, i, none⟩ = l[i]? := by
  simp [World.cell?, h]
theorem block_free {w : World} {g : Nat} {l : List Value} {t : TypeId} (h : w.heap[g]? = some (.cells l.toArray t (0, 0))) (i : Nat) : w.frozen? ⟨g, i, none⟩ = false := by
  simp [World.frozen?, h]

/-- The row behind the copy: what was copied, then two zero cells. -/
theorem splice_head {α : Type} (z : α) (n : Nat) (l : List α) (hl : l.length = n) : splice (List.replicate (n + 2) z) 0 l = l ++ [z, z] := by
  subst hl
  unfold splice
  have e : l.length + 2 - (0 + l.length) = 2 := by omega
  rw [List.take_zero, List.drop_replicate, List.nil_append, e]; rfl

theorem min_len (n : Nat) : n = Nat.min n (n + 2) := (Nat.min_eq_left (by omega)).symm

theorem two_stores {w2 : World} {g n : Nat} {u v x1 x2 : Value} (c1 : w2.cell? ⟨g, n, none⟩ = some x1) (c2 : w2.cell? ⟨g, n + 1, none⟩ = some x2) :
    ((w2.setCell ⟨g, n, none⟩ u).setCell ⟨g, n + 1, none⟩ v).cell? ⟨g, n, none⟩ = some u ∧ ((w2.setCell ⟨g, n, none⟩ u).setCell ⟨g, n + 1, none⟩ v).cell? ⟨g, n + 1, none⟩ = some v ∧
      ∀ i, i < n → ((w2.setCell ⟨g, n, none⟩ u).setCell ⟨g, n + 1, none⟩ v).cell? ⟨g, i, none⟩ = w2.cell? ⟨g, i, none⟩ := by
  have e1 : (w2.setCell ⟨g, n, none⟩ u).cell? ⟨g, n + 1, none⟩ = some x2 := by rw [World.cell?_setCell_other _ _ _ _ (by simp)]; exact c2
  refine ⟨?_, World.cell?_setCell_same _ _ _ e1, fun i hi => ?_⟩
  · rw [World.cell?_setCell_other _ _ _ _ (by simp), World.cell?_setCell_same _ _ _ c1]
  · rw [World.cell?_setCell_other _ _ _ _ (by intro e; cases e; omega), World.cell?_setCell_other _ _ _ _ (by intro e; cases e; omega)]

/-- Whether two lists are the same. -/
def sameB {α : Type} [DecidableEq α] (a b : List α) : Bool := decide (a = b)
theorem take_eq_of {α : Type} {a b : List α} (n : Nat) (h : ∀ i (h1 : i < a.length) (h2 : i < b.length), i < n → a[i] = b[i]) (hl : a.length = b.length) (hn : a.length ≤ n) : a = b :=
  List.ext_getElem hl (fun i h1 h2 => h i h1 h2 (by omega))

theorem bne_str {s t : ByteArray} (h : s ≠ t) : (s.toList == t.toList) = false := by
  rw [beq_eq_false_iff_ne]
  intro e
  rw [ByteArray.toList_eq, ByteArray.toList_eq] at e
  exact h (by rw [← bs_toList s, e, bs_toList])
theorem bne_int {s t : Int} (h : s ≠ t) : (s == t) = false := by simpa using h

end Go.Proofs.YtedblhcehlbbmabDoor

/-
  CONTRACTS: lenderref.turns, a list of structs of the call's own.
-/
import Derived.Test.YtedblhcehlbbmabDoorWalkHand
import Derived.Test.YtedblhcehlbbmabDoorMathJoin
import Derived.WalkKit
import Derived.WalkSpells
import Derived.WalkLawsBesides
namespace Go.Proofs.YtedblhcehlbbmabDoor
open Go.RowKit

/-- A turn's cells. -/
def tcells (t : Turn) : List Value := [.bool t.left, .int .i64 (t.lo : Int), .int .i64 (t.hi : Int)]
def tv (ts : List Turn) : List Value := ts.flatMap tcells
theorem tv_append (a b : List Turn) : tv (a ++ b) = tv a ++ tv b := by simp [tv]
theorem length_tv (ts : List Turn) : (tv ts).length = ts.length * 3 := by
  induction ts with
  | nil => rfl
  | cons t ts ih => unfold tv at *; rw [List.flatMap_cons, List.length_append, ih]; simp [tcells]; omega
theorem tv_at (ts : List Turn) (i : Nat) (h : i < ts.length) : (tv ts)[3 * i]? = some (.bool ts[i].left) ∧ (tv ts)[3 * i + 1]? = some (.int .i64 (ts[i].lo : Int)) ∧ (tv ts)[3 * i + 2]? = some (.int .i64 (ts[i].hi : Int)) := by
  induction ts generalizing i with
  | nil => simp at h
  | cons t ts ih =>
    cases i with
    | zero => simp [tv, tcells]
    | succ i =>
      have := ih i (by simp at h; omega)
      have e : tv (t :: ts) = tcells t ++ tv ts := by simp [tv]
      have hl : (tcells t).length = 3 := rfl
      rw [e, List.getElem?_append_right (by omega), List.getElem?_append_right (by omega), List.getElem?_append_right (by omega), hl, show 3 * (i + 1) - 3 = 3 * i by omega, show 3 * (i + 1) + 1 - 3 = 3 * i + 1 by omega, show 3 * (i + 1) + 2 - 3 = 3 * i + 2 by omega]
      exact this

/-- The slice at this address holds these turns. -/
def Turns (w : World) (a : Option Addr) (ts : List Turn) : Prop :=
  ts = [] ∨ ∃ b, a = some ⟨b, 0, none⟩ ∧ ∀ i (h : i < ts.length), w.cell? ⟨b, i * 3, none⟩ = some (.bool ts[i].left) ∧ w.cell? ⟨b, i * 3 + 1, none⟩ = some (.int .i64 (ts[i].lo : Int)) ∧ w.cell? ⟨b, i * 3 + 2, none⟩ = some (.int .i64 (ts[i].hi : Int))
theorem Turns.at {w : World} {a : Option Addr} {ts : List Turn} (h : Turns w a ts) (hp : 0 < ts.length) :
    ∃ b, a = some ⟨b, 0, none⟩ ∧ ∀ i (h : i < ts.length), w.cell? ⟨b, i * 3, none⟩ = some (.bool ts[i].left) ∧ w.cell? ⟨b, i * 3 + 1, none⟩ = some (.int .i64 (ts[i].lo : Int)) ∧ w.cell? ⟨b, i * 3 + 2, none⟩ = some (.int .i64 (ts[i].hi : Int)) := by
  rcases h with rfl | h
  · simp at hp
  · exact h
theorem Turns.kept {w w' : World} {a : Option Addr} {ts : List Turn} (h : Turns w a ts) (hb : Below w.heap.size w w') : Turns w' a ts := by
  rcases h with h | ⟨b, ha, hc⟩
  · exact .inl h
  · refine .inr ⟨b, ha, fun i hi => ?_⟩
    obtain ⟨h1, h2, h3⟩ := hc i hi
    exact ⟨by rw [hb.cell (World.block_lt_of_cell? _ _ h1)]; exact h1, by rw [hb.cell (World.block_lt_of_cell? _ _ h2)]; exact h2, by rw [hb.cell (World.block_lt_of_cell? _ _ h3)]; exact h3⟩
theorem cell_three (w : World) (x y z : Value) (t : TypeId) : (w.alloc (.cells #[x, y, z] t)).cell? ⟨w.heap.size, 0, none⟩ = some x ∧ (w.alloc (.cells #[x, y, z] t)).cell? ⟨w.heap.size, 1, none⟩ = some y ∧ (w.alloc (.cells #[x, y, z] t)).cell? ⟨w.heap.size, 2, none⟩ = some z := by
  refine ⟨?_, ?_, ?_⟩ <;> rw [World.cell?_alloc_mark] <;> rfl

end Go.Proofs.YtedblhcehlbbmabDoor

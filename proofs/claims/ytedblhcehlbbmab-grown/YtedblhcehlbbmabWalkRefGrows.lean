/-
  CONTRACTS: lenderref.Grows.
-/
import Derived.Test.YtedblhcehlbbmabWalkTurns
import Derived.Test.YtedblhcehlbbmabWalkGrows
import Derived.WalkKit
import Derived.WalkSpells
import Derived.WalkLawsBesides
import Derived.Deep.QuietTactic
import Derived.BigQuiet
import Derived.Deep.RegionHeld3
import Derived.Deep.DrawnRows
namespace Go.Proofs.Ytedblhcehlbbmab
open Go.RowKit

theorem growT_step (ts : List Turn) (ps : List Int) (x : Int) (r : Nat) (h : r < ts.length) (hp : r < ps.length) :
    growT (ts.drop r) (ps.drop r) x = if ts[r].left = true then ((growT (ts.drop (r + 1)) (ps.drop (r + 1)) x).1, node (growT (ts.drop (r + 1)) (ps.drop (r + 1)) x).2 ps[r]) else (node ps[r] (growT (ts.drop (r + 1)) (ps.drop (r + 1)) x).1, node ps[r] (growT (ts.drop (r + 1)) (ps.drop (r + 1)) x).2) := by
  rw [List.drop_eq_getElem_cons h, List.drop_eq_getElem_cons hp, growT]
theorem growT_end (ts : List Turn) (ps : List Int) (x : Int) : growT (ts.drop ts.length) ps x = (x, x) := by
  rw [List.drop_length, growT]

theorem joinO_out {old : Int} {zs : List Int} {m n : Nat} (h : ¬ (bdL zs = true ∧ 0 ≤ old ∧ old ≤ 4092)) : joinO m n old true zs = none := by
  unfold joinO
  rw [if_neg]
  intro hb
  rw [Bool.and_eq_true] at hb
  have := isSumB_true hb.1
  exact h ⟨hb.2, this.1, this.2⟩
theorem growsB_out2 {old m root n : Int} {zs : List Int} (h : ¬ (bdL zs = true ∧ 0 ≤ old ∧ old ≤ 4092)) : growsB old m root n zs = false := by
  unfold growsB; rw [joinO_out h, decide_eq_false (p := none = some (old, root)) (by simp), Bool.and_false]

/-- The two numbers before the turns from r on are left: the sums so far. -/
def growTo (ts : List Turn) (zs : List Int) (x : Int) (r : Nat) : Int × Int := growT (ts.drop r) (zs.reverse.drop r) x
theorem growTo_bd (ts : List Turn) (zs : List Int) (x : Int) (r : Nat) (h : Bd x) : Bd (growTo ts zs x r).1 ∧ Bd (growTo ts zs x r).2 := growT_bd _ _ _ h
theorem growTo_end (ts : List Turn) (zs : List Int) (x : Int) : growTo ts zs x ts.length = (x, x) := growT_end _ _ _
theorem growTo_left (ts : List Turn) (zs : List Int) (x : Int) (r : Nat) (h : r < ts.length) (hp : r < zs.length) (hb : ts[r].left = true) :
    growTo ts zs x r = ((growTo ts zs x (r + 1)).1, node (growTo ts zs x (r + 1)).2 zs[zs.length - 1 - r]) := by
  unfold growTo
  rw [growT_step ts zs.reverse x r h (by simpa using hp), if_pos hb, List.getElem_reverse]
theorem growTo_right (ts : List Turn) (zs : List Int) (x : Int) (r : Nat) (h : r < ts.length) (hp : r < zs.length) (hb : ts[r].left = false) :
    growTo ts zs x r = (node zs[zs.length - 1 - r] (growTo ts zs x (r + 1)).1, node zs[zs.length - 1 - r] (growTo ts zs x (r + 1)).2) := by
  unfold growTo
  rw [growT_step ts zs.reverse x r h (by simpa using hp), if_neg (by simp [hb]), List.getElem_reverse]
theorem joinO_whole {m n : Nat} {old : Int} {zs : List Int} {ts : List Turn} {lo : Nat} (ho : isSumB old = true) (hb : bdL zs = true) (h1 : 1 ≤ m) (h2 : m ≤ n) (ht : turnR m 0 n true = (ts, true, lo)) :
    joinO m n old true zs = if zs.length = ts.length then some (growTo ts zs old 0) else none := by
  unfold joinO
  rw [ho, hb, Bool.and_true, if_pos rfl, joinR_all m n old _ h1 h2, ht]
  unfold joinT growTo
  simp
theorem joinO_part {m n : Nat} {old : Int} {zs : List Int} {ts : List Turn} {lo : Nat} (ho : isSumB old = true) (hb : bdL zs = true) (h1 : 1 ≤ m) (h2 : m ≤ n) (ht : turnR m 0 n true = (ts, false, lo)) :
    joinO m n old true zs = if zs.length = ts.length + 1 then some (growTo ts zs (zs.headD 0) 0) else none := by
  unfold joinO
  rw [ho, hb, Bool.and_true, if_pos rfl, joinR_all m n old _ h1 h2, ht]
  unfold joinT growTo
  have e : zs.reverse.getLastD 0 = zs.headD 0 := by cases zs <;> simp
  simp only [Bool.false_eq_true, if_false, List.length_reverse, List.drop_zero, e]

theorem growsB_pair {old root : Int} {q : Int × Int} {o : Option (Int × Int)} (h : o = some q) : decide (o = some (old, root)) = (q.1 == old && q.2 == root) := growsB_some h
theorem growTo_step (ts : List Turn) (zs : List Int) (x : Int) (j k : Nat) (h : j < ts.length) (hk : k + (j + 1) = zs.length) (hkz : k < zs.length) :
    (ts[j].left = true → growTo ts zs x j = ((growTo ts zs x (j + 1)).1, node (growTo ts zs x (j + 1)).2 zs[k])) ∧ (ts[j].left = false → growTo ts zs x j = (node zs[k] (growTo ts zs x (j + 1)).1, node zs[k] (growTo ts zs x (j + 1)).2)) := by
  obtain rfl : k = zs.length - 1 - j := by omega
  exact ⟨growTo_left ts zs x j h (by omega), growTo_right ts zs x j h (by omega)⟩

end Go.Proofs.Ytedblhcehlbbmab

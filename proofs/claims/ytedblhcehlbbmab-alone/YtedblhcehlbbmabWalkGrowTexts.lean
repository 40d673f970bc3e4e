/-
  CONTRACTS: lenderref.GrowTexts, lenderref.Begins.
-/
import Derived.Test.YtedblhcehlbbmabWalkTexts
import Derived.Test.YtedblhcehlbbmabWalkRefGrows
import Derived.WalkKit
import Derived.WalkSpells
import Derived.WalkLawsBesides
namespace Go.Proofs.Ytedblhcehlbbmab
open Go.RowKit

theorem growT_more (z : Int) : ∀ (ts : List Turn) (ps : List Int) (x : Int), ts.length ≤ ps.length → growT ts (ps ++ [z]) x = growT ts ps x
  | [], _, _, _ => by simp [growT]
  | _ :: _, [], _, h => by simp at h
  | t :: ts, p :: ps, x, h => by
    simp only [List.cons_append, growT]
    rw [growT_more z ts ps x (by simp at h; omega)]
theorem growTT_more (z : Int) : ∀ (ts : List Turn) (ps : List Int) (x : Int), ts.length ≤ ps.length → growTT ts (ps ++ [z]) x = growTT ts ps x
  | [], _, _, _ => by simp [growTT]
  | _ :: _, [], _, h => by simp at h
  | t :: ts, p :: ps, x, h => by
    simp only [List.cons_append, growTT]
    rw [growTT_more z ts ps x (by simp at h; omega), growT_more z ts ps x (by simp at h; omega)]

/-- The texts of Grows' check, as Go's strings. -/
def gtx (m n : Nat) (old : Int) (zs : List Int) : List ByteArray := (growTx m 0 n old true zs.reverse).map bs
/-- The texts of the turns from r on. -/
def gto (ts : List Turn) (qs : List Int) (x : Int) (r : Nat) : List ByteArray := (growTT (ts.drop r) (qs.reverse.drop r) x).map bs
theorem gto_end (ts : List Turn) (qs : List Int) (x : Int) : gto ts qs x ts.length = [] := by unfold gto; rw [List.drop_length]; simp [growTT]
theorem length_growTT : ∀ (ts : List Turn) (ps : List Int) (x : Int), (growTT ts ps x).length ≤ 2 * ts.length
  | [], _, _ => by simp [growTT]
  | _ :: _, [], _ => by simp [growTT]
  | t :: ts, p :: ps, x => by
    have := length_growTT ts ps x
    simp only [growTT, List.length_append, List.length_cons]
    split <;> simp <;> omega
theorem length_gto (ts : List Turn) (qs : List Int) (x : Int) (r : Nat) : (gto ts qs x r).length ≤ 2 * ts.length := by
  unfold gto
  have := length_growTT (ts.drop r) (qs.reverse.drop r) x
  rw [List.length_drop] at this
  rw [List.length_map]; omega
theorem gto_step (ts : List Turn) (qs : List Int) (x : Int) (j k : Nat) (h : j < ts.length) (hk : k + (j + 1) = qs.length) (hkz : k < qs.length) :
    (ts[j].left = true → gto ts qs x j = gto ts qs x (j + 1) ++ [bs (nodeT (growTo ts qs x (j + 1)).2 qs[k])]) ∧
    (ts[j].left = false → gto ts qs x j = (gto ts qs x (j + 1) ++ [bs (nodeT qs[k] (growTo ts qs x (j + 1)).1)]) ++ [bs (nodeT qs[k] (growTo ts qs x (j + 1)).2)]) := by
  obtain rfl : k = qs.length - 1 - j := by omega
  have hp : j < qs.reverse.length := by simp; omega
  have e : gto ts qs x j = (growTT (ts.drop (j + 1)) (qs.reverse.drop (j + 1)) x ++ (if ts[j].left = true then [nodeT (growT (ts.drop (j + 1)) (qs.reverse.drop (j + 1)) x).2 qs[qs.length - 1 - j]] else [nodeT qs[qs.length - 1 - j] (growT (ts.drop (j + 1)) (qs.reverse.drop (j + 1)) x).1, nodeT qs[qs.length - 1 - j] (growT (ts.drop (j + 1)) (qs.reverse.drop (j + 1)) x).2])).map bs := by
    unfold gto
    rw [List.drop_eq_getElem_cons h, List.drop_eq_getElem_cons hp, growTT, List.getElem_reverse]
  constructor
  · intro hb; rw [e, if_pos hb]; simp [gto, growTo]
  · intro hb; rw [e, if_neg (by simp [hb])]; simp [gto, growTo]
theorem gtx_whole {m n : Nat} {old : Int} {zs : List Int} {ts : List Turn} {lo : Nat} (ht : turnR m 0 n true = (ts, true, lo)) : gtx m n old zs = gto ts zs old 0 := by
  unfold gtx gto growTx startOf; rw [ht]; rfl
theorem gtx_part {m n : Nat} {old z : Int} {qs : List Int} {ts : List Turn} {lo : Nat} (ht : turnR m 0 n true = (ts, false, lo)) (hl : qs.length = ts.length) : gtx m n old (z :: qs) = gto ts qs z 0 := by
  unfold gtx gto growTx startOf
  rw [ht]
  simp only [List.reverse_cons, Bool.false_eq_true, if_false, List.drop_zero]
  rw [growTT_more z ts qs.reverse _ (by simp [hl])]
  simp

theorem turnR_part {m n lo : Nat} {ts : List Turn} (h1 : 1 ≤ m) (h2 : m ≤ n) (ht : turnR m 0 n true = (ts, false, lo)) : 0 < ts.length := by
  by_cases he : n = m
  · subst he; rw [turnR_end] at ht; cases ht
  · have hc := cutN_is (n - 0) (by omega)
    by_cases hk : m ≤ 0 + cutN (n - 0)
    · rw [turnR_le m 0 n _ true (by omega) (by omega) hc hk] at ht
      obtain ⟨e, _⟩ := Prod.mk.inj ht
      rw [← e]; simp
    · rw [turnR_gt m 0 n _ true (by omega) (by omega) hc] at ht
      obtain ⟨e, _⟩ := Prod.mk.inj ht
      rw [← e]; simp

/-- Is a log the beginning of another? -/
def beginsB (aa bb : List ByteArray) : Bool := decide (aa = bb.take aa.length)
theorem begins_of {aa bb : List ByteArray} (hl : aa.length ≤ bb.length) (h : ∀ i (h1 : i < aa.length) (h2 : i < bb.length), aa[i] = bb[i]) : beginsB aa bb = true := by
  unfold beginsB
  refine decide_eq_true (List.ext_getElem (by rw [List.length_take]; omega) fun i h1 h2 => ?_)
  rw [List.getElem_take]; exact h i h1 (by omega)
theorem begins_long {aa bb : List ByteArray} (hl : bb.length < aa.length) : beginsB aa bb = false := by
  unfold beginsB
  refine decide_eq_false fun h => ?_
  have := congrArg List.length h
  rw [List.length_take] at this; omega
theorem begins_not {aa bb : List ByteArray} (i : Nat) (h1 : i < aa.length) (h2 : i < bb.length) (h : aa[i] ≠ bb[i]) : beginsB aa bb = false := by
  unfold beginsB
  refine decide_eq_false fun e => h ?_
  have e2 : aa[i]? = (bb.take aa.length)[i]? := by rw [← e]
  rw [List.getElem?_eq_getElem h1, List.getElem?_take_of_lt h1, List.getElem?_eq_getElem h2] at e2
  exact Option.some.inj e2

end Go.Proofs.Ytedblhcehlbbmab

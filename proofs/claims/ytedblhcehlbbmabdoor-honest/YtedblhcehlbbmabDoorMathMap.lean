/-
  THE PLAIN MATHEMATICS OF THE HEAD: the loans' sum, the book's own account, what is calm.
-/
import Derived.Test.YtedblhcehlbbmabDoorMathAcc
namespace Go.Proofs.YtedblhcehlbbmabDoor

/-- The sum at depth d, the j-th. -/
def mapL (f : Nat → St) : Nat → Nat → Int
  | 0, j => sm (stT (f j))
  | d + 1, j => sm (pairT (mapL f d (2 * j)) (mapL f d (2 * j + 1)))
theorem mapL_bd (f : Nat → St) (d j : Nat) : Bd (mapL f d j) := by cases d <;> exact sm_bd _
def stF (es : List Ev) (j : Nat) : St := stOf es (j : Int)
/-- The head. -/
def logOf (es : List Ev) : Int := rootS (entriesB es)
def mapOf (es : List Ev) : Int := mapL (stF es) 6 0
def topOf (es : List Ev) : Int := sm (headT (es.length : Int) (logOf es) (mapOf es))
theorem logOf_bd (es : List Ev) : Bd (logOf es) := rootS_bd _
theorem topOf_bd (es : List Ev) : Bd (topOf es) := sm_bd _
/-- The one beside the j-th. -/
def nextTo (j : Nat) : Nat := if j % 2 = 0 then j + 1 else j - 1
/-- The sum at depth d beside the loan's own. -/
def sideL (f : Nat → St) (l d : Nat) : Int := mapL f d (nextTo (l / 2 ^ d))
/-- The book's own account. -/
def accOf (es : List Ev) (l : Nat) : Acc := ⟨(l : Int), stOf es (l : Int), (es.length : Int), logOf es, sideL (stF es) l 0, sideL (stF es) l 1, sideL (stF es) l 2, sideL (stF es) l 3, sideL (stF es) l 4, sideL (stF es) l 5⟩
theorem accOf_path (es : List Ev) (l d : Nat) (h : d < 6) : (accOf es l).path.getD d 0 = sideL (stF es) l d := by
  match d, h with
  | 0, _ => rfl
  | 1, _ => rfl
  | 2, _ => rfl
  | 3, _ => rfl
  | 4, _ => rfl
  | 5, _ => rfl
theorem cast_div (l d : Nat) : ((l : Int) / 2 ^ d) = ((l / 2 ^ d : Nat) : Int) := by simp
theorem half_nat (l d : Nat) : l / 2 ^ (d + 1) = l / 2 ^ d / 2 := by rw [Nat.pow_succ, Nat.div_div_eq_div_mul]
theorem accOf_X (es : List Ev) (l d : Nat) (h : d ≤ 6) : accX (accOf es l) d = mapL (stF es) d (l / 2 ^ d) := by
  induction d with
  | zero => simp [accX, accT, accOf, mapL, stF]
  | succ d ih =>
    rw [accX_succ, ih (by omega), accOf_path es l d (by omega), half_nat]
    have e : (accOf es l).loan / 2 ^ d = ((l / 2 ^ d : Nat) : Int) := cast_div l d
    rw [e]
    unfold sideL
    generalize l / 2 ^ d = j
    by_cases hj : j % 2 = 0
    · rw [if_pos (by omega)]
      unfold nextTo
      rw [if_pos hj]
      have h2 : 2 * (j / 2) = j := by omega
      show _ = sm (pairT (mapL (stF es) d (2 * (j / 2))) (mapL (stF es) d (2 * (j / 2) + 1)))
      rw [h2]
    · rw [if_neg (by omega)]
      unfold nextTo
      rw [if_neg hj]
      have h2 : 2 * (j / 2) + 1 = j := by omega
      have h3 : 2 * (j / 2) = j - 1 := by omega
      show _ = sm (pairT (mapL (stF es) d (2 * (j / 2))) (mapL (stF es) d (2 * (j / 2) + 1)))
      rw [h2, h3]
theorem accOf_fits (es : List Ev) (l : Nat) (hl : l < 64) (hg : GoodE es) : FitsA (accOf es l) := by
  have hb := bd200 es (l : Int) hg
  refine ⟨fun z hz => ?_, fun z hz => ?_, ⟨?_, ?_⟩, ⟨?_, ?_⟩⟩
  · simp only [accOf, stI, List.mem_cons, List.not_mem_nil, or_false] at hz
    rcases hz with rfl | rfl | rfl | rfl | rfl | rfl
    · exact hb.p0
    · exact hb.d0
    · exact hb.r0
    · exact hb.y0
    · exact hb.s0
    · exact hb.c0
  · simp only [accOf, Acc.path, List.mem_cons, List.not_mem_nil, or_false] at hz
    rcases hz with rfl | rfl | rfl | rfl | rfl | rfl | rfl
    · exact logOf_bd es
    all_goals exact mapL_bd _ _ _
  · show (0 : Int) ≤ (l : Int); omega
  · show (l : Int) ≤ 63; omega
  · show (0 : Int) ≤ (es.length : Int); omega
  · show (es.length : Int) ≤ 200; have := hg.1; omega
/-- P14: the account shows the head's top. -/
theorem accOf_ok (es : List Ev) (l : Nat) (hl : l < 64) (hg : GoodE es) : accB (topOf es) (accOf es l) = true := by
  unfold accB
  rw [fitsB_of (accOf_fits es l hl hg), Bool.true_and, decide_eq_true_eq]
  unfold accTop
  rw [accOf_X es l 6 (by omega), show l / 2 ^ 6 = 0 by omega]
  rfl
theorem st64_of (es : List Ev) (loan : Int) (hg : GoodE es) : St64 (stOf es loan) := by
  have hb := bd200 es loan hg
  obtain ⟨a1, a2, a3, a4, a5, a6, a7, a8, a9, a10, a11, a12⟩ := hb
  intro z hz
  simp only [stI, List.mem_cons, List.not_mem_nil, or_false] at hz
  unfold In64
  rcases hz with rfl | rfl | rfl | rfl | rfl | rfl <;> omega
theorem bd_64 {z : Int} (h : Bd z) : In64 z := by obtain ⟨h1, h2⟩ := h; exact ⟨by omega, by omega⟩
theorem accOf_64 (es : List Ev) (l : Nat) (hl : l < 64) (hg : GoodE es) : Acc64 (accOf es l) := by
  have h200 := hg.1
  refine ⟨⟨?_, ?_⟩, st64_of es _ hg, ⟨?_, ?_⟩, bd_64 (logOf_bd es), fun z hz => ?_⟩
  · show _ ≤ (l : Int); omega
  · show (l : Int) ≤ _; omega
  · show _ ≤ (es.length : Int); omega
  · show (es.length : Int) ≤ _; omega
  · exact bd_64 ((accOf_fits es l hl hg).sums z (List.mem_cons_of_mem _ hz))

/-- Is there nothing to give away? -/
def sameA (es : List Ev) (a : Acc) : Bool := decide (a.size = (es.length : Int)) && decide (a.log = logOf es) && decide (stI a.st = stI (stOf es a.loan))
def calmB (es : List Ev) (a : Acc) : Bool := !accB (topOf es) a || sameA es a
/-- The texts of an account; of a book. -/
def accTs (a : Acc) : List (List UInt8) := [accT a 0, accT a 1, accT a 2, accT a 3, accT a 4, accT a 5, accT a 6, headT a.size a.log (accX a 6)]
def BookT (es : List Ev) (t : List UInt8) : Prop := (∃ j, j < 64 ∧ t = stT (stF es j)) ∨ (∃ d j, d < 6 ∧ j < 2 ^ (5 - d) ∧ t = pairT (mapL (stF es) d (2 * j)) (mapL (stF es) d (2 * j + 1))) ∨ t = headT (es.length : Int) (logOf es) (mapOf es)
/-- Two texts that give every false account away. -/
structure LieOk (lx ly : List Ev → Acc → List UInt8) : Prop where
  ne : ∀ es a, GoodE es → Acc64 a → calmB es a = false → lx es a ≠ ly es a
  eq : ∀ es a, GoodE es → Acc64 a → calmB es a = false → sm (lx es a) = sm (ly es a)
  acc : ∀ es a, GoodE es → Acc64 a → calmB es a = false → lx es a ∈ accTs a
  book : ∀ es a, GoodE es → Acc64 a → calmB es a = false → BookT es (ly es a)
theorem length_accTs (a : Acc) (h : Acc64 a) : ∀ t ∈ accTs a, t.length ≤ 133 := by
  have hp : ∀ d, (accT a (d + 1)).length = 5 := fun d => by rw [accT]; split <;> rfl
  intro t ht
  simp only [accTs, List.mem_cons, List.not_mem_nil, or_false] at ht
  rcases ht with rfl | rfl | rfl | rfl | rfl | rfl | rfl | rfl
  · exact length_stT a.st h.2.1
  all_goals first
    | (rw [hp]; omega)
    | (rw [length_headT]; omega)
theorem length_BookT (es : List Ev) (t : List UInt8) (hg : GoodE es) (h : BookT es t) : t.length ≤ 133 := by
  rcases h with ⟨j, _, rfl⟩ | ⟨d, j, _, _, rfl⟩ | rfl
  · exact length_stT _ (st64_of es _ hg)
  · rw [length_pairT]; omega
  · rw [length_headT]; omega

end Go.Proofs.YtedblhcehlbbmabDoor

/-
  THE PLAIN MATHEMATICS OF AN ACCOUNT AND OF THE LOANS' SUM.
-/
import Derived.Test.YtedblhcehlbbmabDoorWalkDigits
namespace Go.Proofs.YtedblhcehlbbmabDoor

/-- An account. -/
structure Acc where
  loan : Int
  st : St
  size : Int
  log : Int
  p0 : Int
  p1 : Int
  p2 : Int
  p3 : Int
  p4 : Int
  p5 : Int
def Acc.path (a : Acc) : List Int := [a.p0, a.p1, a.p2, a.p3, a.p4, a.p5]
theorem Acc.path_len (a : Acc) : a.path.length = 6 := rfl
def accV (a : Acc) : Value := .agg #[.int .i64 a.loan, .int .i64 a.st.principal, .int .i64 a.st.due, .int .i64 a.st.rate, .int .i64 a.st.day, .int .i64 a.st.spare, .int .i64 a.st.count, .int .i64 a.size, .int .i64 a.log, .int .i64 a.p0, .int .i64 a.p1, .int .i64 a.p2, .int .i64 a.p3, .int .i64 a.p4, .int .i64 a.p5]
def stI (s : St) : List Int := [s.principal, s.due, s.rate, s.day, s.spare, s.count]
/-- Numbers that an int may be. -/
def St64 (s : St) : Prop := ∀ z ∈ stI s, In64 z
def Acc64 (a : Acc) : Prop := In64 a.loan ∧ St64 a.st ∧ In64 a.size ∧ In64 a.log ∧ ∀ z ∈ a.path, In64 z

/-- The texts: of a state, of two neighbours, of the head. -/
def stT (s : St) : List UInt8 := 83 :: numT (stI s)
def pairT (x y : Int) : List UInt8 := 77 :: (two x ++ two y)
def headT (n l m : Int) : List UInt8 := 72 :: (two n ++ two l ++ two m)
/-- The text at depth d on the way from an account's state. -/
def accT (a : Acc) : Nat → List UInt8
  | 0 => stT a.st
  | d + 1 => if a.loan / 2 ^ d % 2 = 0 then pairT (sm (accT a d)) (a.path.getD d 0) else pairT (a.path.getD d 0) (sm (accT a d))
def accX (a : Acc) (d : Nat) : Int := sm (accT a d)
theorem accX_bd (a : Acc) (d : Nat) : Bd (accX a d) := sm_bd _
theorem accX_succ (a : Acc) (d : Nat) : accX a (d + 1) = if a.loan / 2 ^ d % 2 = 0 then sm (pairT (accX a d) (a.path.getD d 0)) else sm (pairT (a.path.getD d 0) (accX a d)) := by
  unfold accX; rw [accT]; split <;> rfl
/-- What an account shows. -/
def accTop (a : Acc) : Int := sm (headT a.size a.log (accX a 6))
/-- May an account's numbers be? -/
def fitsB (a : Acc) : Bool := (stI a.st).all (fun z => decide (0 ≤ z)) && (a.log :: a.path).all (fun z => decide (0 ≤ z ∧ z ≤ 4092)) && decide (0 ≤ a.loan ∧ a.loan ≤ 63) && decide (0 ≤ a.size ∧ a.size ≤ 200)
/-- Is an account accepted under this top? -/
def accB (top : Int) (a : Acc) : Bool := fitsB a && decide (accTop a = top)
structure FitsA (a : Acc) : Prop where
  st : ∀ z ∈ stI a.st, 0 ≤ z
  sums : ∀ z ∈ a.log :: a.path, Bd z
  loan : 0 ≤ a.loan ∧ a.loan ≤ 63
  size : 0 ≤ a.size ∧ a.size ≤ 200
theorem fitsB_true {a : Acc} (h : fitsB a = true) : FitsA a := by
  unfold fitsB at h
  rw [Bool.and_eq_true, Bool.and_eq_true, Bool.and_eq_true, decide_eq_true_eq, decide_eq_true_eq, List.all_eq_true, List.all_eq_true] at h
  exact ⟨fun z hz => of_decide_eq_true (h.1.1.1 z hz), fun z hz => of_decide_eq_true (p := 0 ≤ z ∧ z ≤ 4092) (h.1.1.2 z hz), h.1.2, h.2⟩
theorem fitsB_of {a : Acc} (h : FitsA a) : fitsB a = true := by
  unfold fitsB
  rw [Bool.and_eq_true, Bool.and_eq_true, Bool.and_eq_true, decide_eq_true_eq, decide_eq_true_eq, List.all_eq_true, List.all_eq_true]
  exact ⟨⟨⟨fun z hz => decide_eq_true (h.st z hz), fun z hz => decide_eq_true (h.sums z hz)⟩, h.loan⟩, h.size⟩
theorem fitsB_not {a : Acc} (h : ¬ FitsA a) : fitsB a = false := by
  cases hb : fitsB a
  · rfl
  · exact absurd (fitsB_true hb) h

theorem half_pow (x : Int) (k : Nat) : x / 2 ^ (k + 1) = x / 2 ^ k / 2 := by
  rw [Int.pow_succ]
  exact (Int.ediv_ediv_of_nonneg (Int.le_of_lt (Int.pow_pos (by omega)))).symm
theorem FitsA.up {a : Acc} (h : FitsA a) (k : Nat) : 0 ≤ a.loan / 2 ^ k ∧ a.loan / 2 ^ k ≤ 63 :=
  ⟨Int.ediv_nonneg h.loan.1 (Int.le_of_lt (Int.pow_pos (by omega))), Int.le_trans (Int.ediv_le_self _ h.loan.1) h.loan.2⟩
theorem length_stT (s : St) (h : St64 s) : (stT s).length ≤ 133 := by
  have := length_numT (stI s) h
  unfold stT
  rw [List.length_cons]
  have : (stI s).length = 6 := rfl
  omega
theorem length_pairT (x y : Int) : (pairT x y).length = 5 := rfl
theorem length_headT (n l m : Int) : (headT n l m).length = 7 := rfl
theorem pair_str (x y : Int) : ((⟨#[77]⟩ : ByteArray) ++ bs (two x)) ++ bs (two y) = bs (pairT x y) := by
  have : (⟨#[77]⟩ : ByteArray) = bs [77] := rfl
  rw [this, bs_append, bs_append]; rfl
theorem head_str (n l m : Int) : (((⟨#[72]⟩ : ByteArray) ++ bs (two n)) ++ bs (two l)) ++ bs (two m) = bs (headT n l m) := by
  have : (⟨#[72]⟩ : ByteArray) = bs [72] := rfl
  rw [this, bs_append, bs_append, bs_append]; rfl
theorem st_str (s : St) : (⟨#[83]⟩ : ByteArray) ++ bs (numT (stI s)) = bs (stT s) := by
  have : (⟨#[83]⟩ : ByteArray) = bs [83] := rfl
  rw [this, bs_append]; rfl

end Go.Proofs.YtedblhcehlbbmabDoor

/-
  THE PLAIN MATHEMATICS OF A BOOK: events, a loan's state, what Add answers, how great the numbers grow. Nothing of the translation is imported.
-/
import Derived.Test.YtedblhcehlbbmabDoorMathSum
namespace Go.Proofs.YtedblhcehlbbmabDoor

/-- An event. -/
structure Ev where
  loan : Int
  kind : Int
  amount : Int
  day : Int
/-- A loan's state. -/
structure St where
  principal : Int
  due : Int
  rate : Int
  day : Int
  spare : Int
  count : Int

/-- The state at the beginning. -/
def zS : St := ⟨0, 0, 0, 0, 0, 0⟩
/-- What an event makes of the state, step by step. -/
def dueS (s : St) (e : Ev) : Int := s.due + s.principal * s.rate * (e.day - s.day)
def prinS (s : St) (e : Ev) : Int := if e.kind = 0 then s.principal + e.amount else s.principal
def rateS (s : St) (e : Ev) : Int := if e.kind = 2 then e.amount else s.rate
def spareS (s : St) (e : Ev) : Int := if e.kind = 1 then s.spare + e.amount * 1000000 else s.spare
def dS (s : St) (e : Ev) : Int := if spareS s e < dueS s e then spareS s e else dueS s e
def uS (s : St) (e : Ev) : Int := if prinS s e < (spareS s e - dS s e) / 1000000 then prinS s e else (spareS s e - dS s e) / 1000000
def stepS (s : St) (e : Ev) : St := ⟨prinS s e - uS s e, dueS s e - dS s e, rateS s e, e.day, spareS s e - dS s e - uS s e * 1000000, s.count + 1⟩

/-- A loan's own events. -/
def ownE (es : List Ev) (loan : Int) : List Ev := es.filter fun e => decide (e.loan = loan)
/-- A loan's state behind these events. -/
def stOf (es : List Ev) (loan : Int) : St := (ownE es loan).foldl stepS zS
theorem ownE_snoc (es : List Ev) (e : Ev) (loan : Int) : ownE (es ++ [e]) loan = if e.loan = loan then ownE es loan ++ [e] else ownE es loan := by
  unfold ownE
  rw [List.filter_append]
  split
  · rename_i h; simp [h]
  · rename_i h; simp [h]
theorem stOf_nil (loan : Int) : stOf [] loan = zS := rfl
theorem stOf_snoc (es : List Ev) (e : Ev) (loan : Int) : stOf (es ++ [e]) loan = if e.loan = loan then stepS (stOf es loan) e else stOf es loan := by
  unfold stOf
  rw [ownE_snoc]
  split
  · rw [List.foldl_append]; rfl
  · rfl
theorem ownE_own (es : List Ev) (loan : Int) : ownE (ownE es loan) loan = ownE es loan := by
  unfold ownE; rw [List.filter_filter]; simp
theorem stOf_own (es : List Ev) (loan : Int) : stOf (ownE es loan) loan = stOf es loan := by
  unfold stOf; rw [ownE_own]
theorem ownE_sub (es : List Ev) (loan : Int) : ∀ e ∈ ownE es loan, e ∈ es ∧ e.loan = loan := by
  intro e he
  unfold ownE at he
  rw [List.mem_filter] at he
  exact ⟨he.1, of_decide_eq_true he.2⟩

/-- May an event be? -/
def MayE (e : Ev) : Prop := (0 ≤ e.loan ∧ e.loan ≤ 63) ∧ (0 ≤ e.kind ∧ e.kind ≤ 2) ∧ ((if e.kind = 2 then 0 else 1) ≤ e.amount ∧ e.amount ≤ (if e.kind = 2 then 1000 else 100000000)) ∧ (0 ≤ e.day ∧ e.day ≤ 10000)
theorem MayE.amount {e : Ev} (h : MayE e) : 0 ≤ e.amount ∧ e.amount ≤ 100000000 ∧ (e.kind = 2 → e.amount ≤ 1000) := by
  obtain ⟨_, _, ⟨h1, h2⟩, _⟩ := h
  split at h1
  · rename_i hk; rw [if_pos hk] at h2; exact ⟨h1, by omega, fun _ => h2⟩
  · rename_i hk; rw [if_neg hk] at h2; exact ⟨by omega, h2, fun h => absurd h hk⟩
/-- The day of the last event. -/
def lastD (es : List Ev) : Int := match es.getLast? with
  | none => 0
  | some e => e.day
theorem lastD_snoc (es : List Ev) (e : Ev) : lastD (es ++ [e]) = e.day := by simp [lastD]
theorem lastD_nil : lastD [] = 0 := rfl

/-- What a book may have taken. -/
def GoodE (es : List Ev) : Prop := es.length ≤ 200 ∧ (∀ e ∈ es, MayE e) ∧ es.Pairwise (fun a b => a.day ≤ b.day)
theorem GoodE.nil : GoodE [] := ⟨by simp, by simp, List.Pairwise.nil⟩
theorem GoodE.pre {es fs : List Ev} (h : GoodE (es ++ fs)) : GoodE es := by
  obtain ⟨h1, h2, h3⟩ := h
  exact ⟨by rw [List.length_append] at h1; omega, fun e he => h2 e (List.mem_append_left _ he), (List.pairwise_append.1 h3).1⟩
theorem GoodE.take {es : List Ev} (h : GoodE es) (k : Nat) : GoodE (es.take k) := by
  rw [← List.take_append_drop k es] at h; exact h.pre
theorem GoodE.own {es : List Ev} (h : GoodE es) (loan : Int) : GoodE (ownE es loan) := by
  obtain ⟨h1, h2, h3⟩ := h
  exact ⟨Nat.le_trans (List.length_filter_le _ _) h1, fun e he => h2 e (ownE_sub es loan e he).1, h3.filter _⟩
theorem GoodE.last {es : List Ev} (h : GoodE es) : ∀ e ∈ es, e.day ≤ lastD es := by
  rcases List.eq_nil_or_concat es with rfl | ⟨q, x, rfl⟩
  · intro e he; cases he
  · rw [List.concat_eq_append] at *
    intro e he
    rw [lastD_snoc]
    rcases List.mem_append.1 he with he | he
    · exact (List.pairwise_append.1 h.2.2).2.2 e he x (by simp)
    · simp only [List.mem_singleton] at he; rw [he]; omega
theorem GoodE.last_bd {es : List Ev} (h : GoodE es) : 0 ≤ lastD es ∧ lastD es ≤ 10000 := by
  rcases List.eq_nil_or_concat es with rfl | ⟨q, x, rfl⟩
  · rw [lastD_nil]; omega
  · rw [List.concat_eq_append] at *
    rw [lastD_snoc]
    exact (h.2.1 x (by simp)).2.2.2
theorem GoodE.snoc {es : List Ev} {e : Ev} (h : GoodE es) (hl : es.length < 200) (hm : MayE e) (hd : lastD es ≤ e.day) : GoodE (es ++ [e]) := by
  refine ⟨by rw [List.length_append]; simp; omega, ?_, ?_⟩
  · intro x hx
    rcases List.mem_append.1 hx with hx | hx
    · exact h.2.1 x hx
    · simp only [List.mem_singleton] at hx; rw [hx]; exact hm
  · refine List.pairwise_append.2 ⟨h.2.2, by simp, fun a ha b hb => ?_⟩
    simp only [List.mem_singleton] at hb
    rw [hb]
    have := h.last a ha
    omega
theorem GoodE.mid {es fs : List Ev} {e : Ev} (h : GoodE (es ++ e :: fs)) : es.length < 200 ∧ MayE e ∧ lastD es ≤ e.day := by
  obtain ⟨h1, h2, h3⟩ := h
  refine ⟨by rw [List.length_append, List.length_cons] at h1; omega, h2 e (by simp), ?_⟩
  rcases List.eq_nil_or_concat es with rfl | ⟨q, x, rfl⟩
  · rw [lastD_nil]; exact (h2 e (by simp)).2.2.2.1
  · rw [List.concat_eq_append] at *
    rw [lastD_snoc]
    exact (List.pairwise_append.1 h3).2.2 x (by simp) e (by simp)

/-- What Add answers. -/
def addN (es : List Ev) (may : Bool) (day : Int) : Int := if 200 ≤ es.length then 6 else if may = false then 4 else if day < lastD es then 5 else 0
theorem addN_ok {es : List Ev} {day : Int} (h1 : es.length < 200) (h3 : lastD es ≤ day) : addN es true day = 0 := by
  unfold addN; rw [if_neg (by omega), if_neg (by simp), if_neg (by omega)]

/-- How great a state's numbers are, behind n events. -/
structure BdS (n : Nat) (s : St) : Prop where
  p0 : 0 ≤ s.principal
  p1 : s.principal ≤ (n : Int) * 100000000
  d0 : 0 ≤ s.due
  d1 : s.due ≤ 20000000000000 * s.day
  r0 : 0 ≤ s.rate
  r1 : s.rate ≤ 1000
  y0 : 0 ≤ s.day
  y1 : s.day ≤ 10000
  s0 : 0 ≤ s.spare
  s1 : s.spare ≤ (n : Int) * 100000000000000
  c0 : 0 ≤ s.count
  c1 : s.count ≤ (n : Int)
theorem BdS.zero : BdS 0 zS := by constructor <;> simp [zS]
theorem BdS.mono {n m : Nat} {s : St} (h : BdS n s) (hm : n ≤ m) : BdS m s := by
  obtain ⟨a1, a2, a3, a4, a5, a6, a7, a8, a9, a10, a11, a12⟩ := h
  constructor <;> omega
/-- What is due for the days. -/
theorem BdS.prod {n : Nat} {s : St} (h : BdS n s) (hn : n ≤ 200) (t : Int) (h0 : 0 ≤ t) : 0 ≤ s.principal * s.rate ∧ s.principal * s.rate ≤ 20000000000000 ∧ 0 ≤ s.principal * s.rate * t ∧ s.principal * s.rate * t ≤ 20000000000000 * t := by
  have e0 : 0 ≤ s.principal * s.rate := Int.mul_nonneg h.p0 h.r0
  have hp : s.principal ≤ 20000000000 := by have := h.p1; omega
  have e1 : s.principal * s.rate ≤ 20000000000 * 1000 := Int.mul_le_mul hp h.r1 h.r0 (by omega)
  have e2 : s.principal * s.rate ≤ 20000000000000 := by omega
  exact ⟨e0, e2, Int.mul_nonneg e0 h0, Int.mul_le_mul_of_nonneg_right e2 h0⟩
theorem BdS.step {n : Nat} {s : St} {e : Ev} (h : BdS n s) (hn : n < 200) (hm : MayE e) (hd : s.day ≤ e.day) : BdS (n + 1) (stepS s e) := by
  have hx := h.prod (by omega) (e.day - s.day) (by omega)
  obtain ⟨a1, a2, a3, a4, a5, a6, a7, a8, a9, a10, a11, a12⟩ := h
  have ha := hm.amount
  have hdy := hm.2.2.2
  unfold stepS uS dS spareS rateS prinS dueS
  generalize s.principal * s.rate * (e.day - s.day) = x at hx
  constructor <;> simp only <;> (repeat' split) <;> omega
theorem bd_of (es : List Ev) (loan : Int) (h : GoodE es) : BdS es.length (stOf es loan) ∧ (stOf es loan).day ≤ lastD es := by
  obtain ⟨n, hn⟩ : ∃ n, n = es.length := ⟨_, rfl⟩
  induction n generalizing es with
  | zero =>
    obtain rfl := List.eq_nil_of_length_eq_zero hn.symm
    rw [stOf_nil]
    exact ⟨BdS.zero, by simp [zS, lastD_nil]⟩
  | succ n ih =>
    rcases List.eq_nil_or_concat es with rfl | ⟨q, x, rfl⟩
    · simp at hn
    · rw [List.concat_eq_append] at *
      rw [List.length_append] at hn
      have hq := ih q h.pre (by simpa using hn)
      have hmid := h.mid
      rw [stOf_snoc, lastD_snoc, List.length_append]
      split
      · exact ⟨hq.1.step (by have := hmid.1; omega) hmid.2.1 (by have := hmid.2.2; omega), Int.le_refl _⟩
      · exact ⟨hq.1.mono (by simp), by have := hmid.2.2; omega⟩
theorem bd200 (es : List Ev) (loan : Int) (h : GoodE es) : BdS 200 (stOf es loan) := (bd_of es loan h).1.mono h.1
theorem count_of (es : List Ev) (loan : Int) : (stOf es loan).count = ((ownE es loan).length : Int) := by
  unfold stOf
  generalize ownE es loan = l
  have : ∀ (l : List Ev) (s : St), (l.foldl stepS s).count = s.count + (l.length : Int) := by
    intro l
    induction l with
    | nil => intro s; simp
    | cons a l ih => intro s; rw [List.foldl_cons, ih]; simp [stepS]; omega
  rw [this]; simp [zS]

/-- P12's reckoning: nothing is lost. -/
def PaidI (lent paid due : Int) (s : St) : Prop := paid * 1000000 = s.spare + (lent - s.principal) * 1000000 + due - s.due
theorem PaidI.zero : PaidI 0 0 0 zS := by simp [PaidI, zS]
theorem PaidI.step {lent paid due : Int} {s : St} {e : Ev} (h : PaidI lent paid due s) :
    PaidI (if e.kind = 0 then lent + e.amount else lent) (if e.kind = 1 then paid + e.amount else paid) (due + s.principal * s.rate * (e.day - s.day)) (stepS s e) := by
  unfold PaidI at *
  unfold stepS uS dS spareS rateS prinS dueS
  generalize s.principal * s.rate * (e.day - s.day) = x
  simp only
  (repeat' split) <;> omega
theorem used (sp du pr : Int) (h1 : 0 ≤ sp) (h2 : 0 ≤ du) (h3 : 0 ≤ pr) (d u : Int) (hd : d = if sp < du then sp else du) (hu : u = if pr < (sp - d) / 1000000 then pr else (sp - d) / 1000000) :
    ¬ (0 < sp - d - u * 1000000 ∧ 0 < du - d) ∧ ¬ (1000000 ≤ sp - d - u * 1000000 ∧ 0 < pr - u) := by
  by_cases h : sp < du
  · rw [if_pos h] at hd
    subst hd
    by_cases h' : pr < (d - d) / 1000000
    · rw [if_pos h'] at hu; omega
    · rw [if_neg h'] at hu; omega
  · rw [if_neg h] at hd
    subst hd
    by_cases h' : pr < (sp - d) / 1000000
    · rw [if_pos h'] at hu; omega
    · rw [if_neg h'] at hu; omega
theorem spare_used {n : Nat} {s : St} {e : Ev} (h : BdS n s) (hn : n < 200) (hm : MayE e) (hd : s.day ≤ e.day) : ¬ (0 < (stepS s e).spare ∧ 0 < (stepS s e).due) ∧ ¬ (1000000 ≤ (stepS s e).spare ∧ 0 < (stepS s e).principal) := by
  have hx := h.prod (by omega) (e.day - s.day) (by omega)
  have ha := hm.amount
  have h1 : 0 ≤ spareS s e := by unfold spareS; have := h.s0; split <;> omega
  have h2 : 0 ≤ dueS s e := by unfold dueS; have := h.d0; have := hx.2.2.1; omega
  have h3 : 0 ≤ prinS s e := by unfold prinS; have := h.p0; split <;> omega
  exact used (spareS s e) (dueS s e) (prinS s e) h1 h2 h3 (dS s e) (uS s e) rfl rfl

end Go.Proofs.YtedblhcehlbbmabDoor

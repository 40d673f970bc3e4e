/-
  THE PLAIN MATHEMATICS OF ROOTS AND PATHS: a row at a time from the entries upwards is the same as cutting at the greatest power of two. Nothing of the translation is imported.
-/
import Derived.Test.YtedblhcehlbbmabDoorMathSum
namespace Go.Proofs.YtedblhcehlbbmabDoor

/-- A number in two bytes, low one first. -/
def two (n : Int) : List UInt8 := [UInt8.ofNat (n % 256).toNat, UInt8.ofNat (n / 256).toNat]
def entT (e : List UInt8) : List UInt8 := 69 :: e
def nodeT (a b : Int) : List UInt8 := 78 :: (two a ++ two b)
def ent (e : List UInt8) : Int := sm (entT e)
def node (a b : Int) : Int := sm (nodeT a b)

theorem ent_bd (e : List UInt8) : 0 ≤ ent e ∧ ent e ≤ 4092 := sm_bd _
theorem node_bd (a b : Int) : 0 ≤ node a b ∧ node a b ≤ 4092 := sm_bd _
theorem length_two (n : Int) : (two n).length = 2 := rfl
theorem length_nodeT (a b : Int) : (nodeT a b).length = 5 := rfl
theorem length_entT (e : List UInt8) : (entT e).length = e.length + 1 := rfl

/-- The row above. -/
def raise : List Int → List Int
  | a :: b :: r => node a b :: raise r
  | [a] => [a]
  | [] => []

theorem length_raise : ∀ l : List Int, (raise l).length = (l.length + 1) / 2
  | a :: b :: r => by simp only [raise, List.length_cons, length_raise r]; omega
  | [a] => by simp [raise]
  | [] => by simp [raise]

theorem raise_append : ∀ (m : Nat) (xs ys : List Int), xs.length = 2 * m → raise (xs ++ ys) = raise xs ++ raise ys
  | 0, xs, ys, h => by obtain rfl : xs = [] := List.eq_nil_of_length_eq_zero (by omega); rfl
  | m + 1, [], ys, h => by simp at h
  | m + 1, [a], ys, h => by simp at h; omega
  | m + 1, a :: b :: r, ys, h => by
    simp only [List.cons_append, raise]
    rw [raise_append m r ys (by simp at h; omega)]

theorem raise_pair : ∀ (k : Nat) (l : List Int) (h : 2 * k + 1 < l.length), (raise l)[k]? = some (node l[2 * k] l[2 * k + 1])
  | 0, a :: b :: r, _ => rfl
  | k + 1, a :: b :: r, h => by
    have := raise_pair k r (by simp at h; omega)
    simp only [raise, List.getElem?_cons_succ, this]
    rfl
  | k, [a], h => by simp at h
  | k, [], h => by simp at h
theorem raise_last : ∀ (k : Nat) (l : List Int) (h : 2 * k + 1 = l.length), (raise l)[k]? = some l[2 * k]
  | 0, [a], _ => rfl
  | k + 1, a :: b :: r, h => by
    have := raise_last k r (by simp at h; omega)
    simp only [raise, List.getElem?_cons_succ, this]
    rfl
  | 0, a :: b :: r, h => by simp at h
  | k + 1, [a], h => by simp at h
  | k, [], h => by simp at h
theorem take_succ_of {α : Type} (l : List α) (k : Nat) (x : α) (h : l[k]? = some x) : l.take (k + 1) = l.take k ++ [x] := by
  obtain ⟨hk, rfl⟩ := List.getElem?_eq_some_iff.1 h
  exact List.take_succ_eq_append_getElem hk

/-- The top of a row, with so many rows to go at most. -/
def topF : Nat → List Int → Int
  | 0, l => l.headD 0
  | f + 1, l => if l.length ≤ 1 then l.headD 0 else topF f (raise l)
/-- The top of a row. -/
def top (l : List Int) : Int := topF l.length l
theorem topF_eq (f : Nat) : ∀ (g : Nat) (l : List Int), l.length ≤ f → l.length ≤ g → topF f l = topF g l := by
  induction f with
  | zero =>
    intro g l hf hg
    obtain rfl : l = [] := List.eq_nil_of_length_eq_zero (by omega)
    cases g <;> rfl
  | succ f ih =>
    intro g l hf hg
    cases g with
    | zero => obtain rfl : l = [] := List.eq_nil_of_length_eq_zero (by omega); rfl
    | succ g =>
      simp only [topF]
      by_cases h : l.length ≤ 1
      · rw [if_pos h, if_pos h]
      · rw [if_neg h, if_neg h]
        exact ih g (raise l) (by rw [length_raise]; omega) (by rw [length_raise]; omega)

theorem top_nil : top [] = 0 := rfl
theorem top_one (a : Int) : top [a] = a := rfl
theorem top_more (l : List Int) (h : 1 < l.length) : top l = top (raise l) := by
  unfold top
  obtain ⟨f, hf⟩ : ∃ f, l.length = f + 1 := ⟨l.length - 1, by omega⟩
  rw [hf, topF, if_neg (by omega)]
  exact topF_eq _ _ _ (by rw [length_raise]; omega) (Nat.le_refl _)
theorem raise_short (l : List Int) (h : l.length ≤ 1) : raise l = l := by
  match l, h with
  | [], _ => rfl
  | [a], _ => rfl
theorem top_raise (l : List Int) : top (raise l) = top l := by
  by_cases h : 1 < l.length
  · rw [top_more l h]
  · rw [raise_short l (by omega)]

def Bd (x : Int) : Prop := 0 ≤ x ∧ x ≤ 4092
theorem raise_bd : ∀ l : List Int, (∀ x ∈ l, Bd x) → ∀ x ∈ raise l, Bd x
  | a :: b :: r, h => by
    intro x hx
    simp only [raise, List.mem_cons] at hx
    rcases hx with rfl | hx
    · exact node_bd _ _
    · exact raise_bd r (fun y hy => h y (by simp [hy])) x hx
  | [a], h => h
  | [], h => h
theorem top_bd_of (n : Nat) : ∀ l : List Int, l.length ≤ n → (∀ x ∈ l, Bd x) → Bd (top l) := by
  induction n with
  | zero =>
    intro l hn h
    obtain rfl : l = [] := List.eq_nil_of_length_eq_zero (by omega)
    rw [top_nil]; exact ⟨by omega, by omega⟩
  | succ n ih =>
    intro l hn h
    by_cases hl : 1 < l.length
    · rw [top_more l hl]
      exact ih (raise l) (by rw [length_raise]; omega) (raise_bd l h)
    · match l, hl with
      | [], _ => rw [top_nil]; exact ⟨by omega, by omega⟩
      | [a], _ => rw [top_one]; exact h a (by simp)
      | a :: b :: r, hl => simp at hl
theorem top_bd (l : List Int) (h : ∀ x ∈ l, Bd x) : Bd (top l) := top_bd_of _ l (Nat.le_refl _) h

/-- k is the greatest power of two below n. -/
def IsCut (n k : Nat) : Prop := (∃ j, k = 2 ^ j) ∧ k < n ∧ n ≤ 2 * k

theorem IsCut.pos {n k : Nat} (h : IsCut n k) : 0 < k ∧ 1 < n := by
  obtain ⟨⟨j, rfl⟩, h1, h2⟩ := h
  have : 0 < 2 ^ j := Nat.two_pow_pos j
  omega

theorem IsCut.half {n k : Nat} (h : IsCut n k) (hn : 2 < n) : ∃ k', k = 2 * k' ∧ IsCut ((n + 1) / 2) k' := by
  obtain ⟨⟨j, rfl⟩, h1, h2⟩ := h
  match j, h1, h2 with
  | 0, h1, h2 => simp at h2; omega
  | j + 1, h1, h2 =>
    rw [Nat.pow_succ] at h1 h2 ⊢
    exact ⟨2 ^ j, by omega, ⟨j, rfl⟩, by omega, by omega⟩

theorem IsCut.unique {n k k' : Nat} (h : IsCut n k) (h' : IsCut n k') : k = k' := by
  obtain ⟨⟨j, rfl⟩, h1, h2⟩ := h
  obtain ⟨⟨j', rfl⟩, h1', h2'⟩ := h'
  have key : ∀ a b : Nat, a < b → 2 * 2 ^ a ≤ 2 ^ b := fun a b hab => by
    have := Nat.pow_le_pow_right (n := 2) (by omega) (show a + 1 ≤ b from hab)
    rw [Nat.pow_succ] at this; omega
  rcases Nat.lt_trichotomy j j' with hj | rfl | hj
  · have := key _ _ hj; omega
  · rfl
  · have := key _ _ hj; omega

theorem raise_cut (xs : List Int) (k' : Nat) (hk : 2 * k' ≤ xs.length) : (raise xs).take k' = raise (xs.take (2 * k')) ∧ (raise xs).drop k' = raise (xs.drop (2 * k')) := by
  have hl : (xs.take (2 * k')).length = 2 * k' := by rw [List.length_take]; omega
  have e : raise xs = raise (xs.take (2 * k')) ++ raise (xs.drop (2 * k')) := by
    rw [← raise_append k' _ _ hl, List.take_append_drop]
  have hr : (raise (xs.take (2 * k'))).length = k' := by rw [length_raise, hl]; omega
  constructor
  · rw [e, List.take_left' hr]
  · rw [e, List.drop_left' hr]

theorem two_of_length {α : Type} (xs : List α) (h : xs.length = 2) : ∃ a b, xs = [a, b] := by
  match xs, h with
  | [a, b], _ => exact ⟨a, b, rfl⟩

theorem cut_two {k : Nat} (h : IsCut 2 k) : k = 1 := by
  obtain ⟨_, h1, h2⟩ := h; omega

theorem top_cut (n : Nat) : ∀ (xs : List Int) (k : Nat), xs.length = n → IsCut n k → top xs = node (top (xs.take k)) (top (xs.drop k)) := by
  induction n using Nat.strongRecOn with
  | ind n ih =>
    intro xs k hn hc
    have hp := hc.pos
    by_cases h2 : n = 2
    · subst h2
      obtain rfl := cut_two hc
      obtain ⟨a, b, rfl⟩ := two_of_length xs hn
      rw [top_more _ (by simp)]
      simp [raise, top_one]
    · obtain ⟨k', rfl, hc'⟩ := hc.half (by omega)
      have hlt := hc.2.1
      rw [top_more xs (by omega), ih ((n + 1) / 2) (by omega) (raise xs) k' (by rw [length_raise, hn]) hc', (raise_cut xs k' (by omega)).1, (raise_cut xs k' (by omega)).2, top_raise, top_raise]

/-- What stands beside place i in a row. -/
def beside (i : Nat) : Nat := if i % 2 = 1 then i - 1 else i + 1
def stepR (xs : List Int) (i : Nat) : List Int := (xs[beside i]?).toList
/-- The path of place i, with so many rows to go at most. -/
def pathF : Nat → List Int → Nat → List Int
  | 0, _, _ => []
  | f + 1, xs, i => if xs.length ≤ 1 then [] else stepR xs i ++ pathF f (raise xs) (i / 2)
/-- The path of place i, a row at a time. -/
def pathR (xs : List Int) (i : Nat) : List Int := pathF xs.length xs i
theorem pathF_eq (f : Nat) : ∀ (g : Nat) (xs : List Int) (i : Nat), xs.length ≤ f → xs.length ≤ g → pathF f xs i = pathF g xs i := by
  induction f with
  | zero =>
    intro g xs i hf hg
    cases g with
    | zero => rfl
    | succ g => simp only [pathF]; rw [if_pos (by omega)]
  | succ f ih =>
    intro g xs i hf hg
    cases g with
    | zero => simp only [pathF]; rw [if_pos (by omega)]
    | succ g =>
      simp only [pathF]
      by_cases h : xs.length ≤ 1
      · rw [if_pos h, if_pos h]
      · rw [if_neg h, if_neg h, ih g (raise xs) (i / 2) (by rw [length_raise]; omega) (by rw [length_raise]; omega)]

theorem pathR_short (xs : List Int) (i : Nat) (h : xs.length ≤ 1) : pathR xs i = [] := by
  unfold pathR
  cases hl : xs.length with
  | zero => rfl
  | succ f => simp only [pathF]; rw [if_pos h]
theorem pathR_more (xs : List Int) (i : Nat) (h : 1 < xs.length) : pathR xs i = stepR xs i ++ pathR (raise xs) (i / 2) := by
  unfold pathR
  obtain ⟨f, hf⟩ : ∃ f, xs.length = f + 1 := ⟨xs.length - 1, by omega⟩
  rw [hf, pathF, if_neg (by omega), pathF_eq f (raise xs).length (raise xs) (i / 2) (by rw [length_raise]; omega) (Nat.le_refl _)]
theorem pathR_step (xs : List Int) (i : Nat) (h : i < xs.length) : pathR xs i = stepR xs i ++ pathR (raise xs) (i / 2) := by
  by_cases hl : 1 < xs.length
  · exact pathR_more xs i hl
  · have hi : i = 0 := by omega
    subst hi
    have hs : stepR xs 0 = [] := by unfold stepR beside; rw [List.getElem?_eq_none (by simp; omega)]; rfl
    rw [pathR_short xs 0 (by omega), hs, pathR_short _ _ (by rw [length_raise]; omega)]; rfl

theorem path_cut (n : Nat) : ∀ (xs : List Int) (k i : Nat), xs.length = n → IsCut n k → i < n →
    pathR xs i = if i < k then pathR (xs.take k) i ++ [top (xs.drop k)] else pathR (xs.drop k) (i - k) ++ [top (xs.take k)] := by
  induction n using Nat.strongRecOn with
  | ind n ih =>
    intro xs k i hn hc hi
    have hp := hc.pos
    by_cases h2 : n = 2
    · subst h2
      obtain rfl := cut_two hc
      obtain ⟨a, b, rfl⟩ := two_of_length xs hn
      rw [pathR_more _ _ (by simp), pathR_short _ _ (by rw [length_raise]; simp)]
      match i, hi with
      | 0, _ => simp [stepR, beside, pathR_short, top_one]
      | 1, _ => simp [stepR, beside, pathR_short, top_one]
    · obtain ⟨k', rfl, hc'⟩ := hc.half (by omega)
      have hlt := hc.2.1
      have hp' := hc'.pos
      rw [pathR_more xs i (by omega), ih ((n + 1) / 2) (by omega) (raise xs) k' (i / 2) (by rw [length_raise, hn]) hc' (by omega), (raise_cut xs k' (by omega)).1, (raise_cut xs k' (by omega)).2, top_raise, top_raise]
      by_cases hk : i < 2 * k'
      · rw [if_pos (by omega), if_pos hk, pathR_step (xs.take (2 * k')) i (by rw [List.length_take]; omega), ← List.append_assoc]
        congr 1; congr 1
        unfold stepR
        rw [List.getElem?_take_of_lt (by unfold beside; split <;> omega)]
      · rw [if_neg (by omega), if_neg hk, pathR_step (xs.drop (2 * k')) (i - 2 * k') (by rw [List.length_drop]; omega), ← List.append_assoc]
        have e1 : (i - 2 * k') / 2 = i / 2 - k' := by omega
        rw [e1]
        congr 1; congr 1
        unfold stepR
        rw [List.getElem?_drop]
        congr 2
        unfold beside
        by_cases ho : i % 2 = 1
        · rw [if_pos ho, if_pos (by omega)]; omega
        · rw [if_neg ho, if_neg (by omega)]; omega

theorem path_bd_of (n : Nat) : ∀ (xs : List Int) (i : Nat), xs.length ≤ n → (∀ x ∈ xs, Bd x) → ∀ x ∈ pathR xs i, Bd x := by
  induction n with
  | zero => intro xs i hn h; rw [pathR_short xs i (by omega)]; simp
  | succ n ih =>
    intro xs i hn h
    by_cases hl : 1 < xs.length
    · rw [pathR_more xs i hl]
      intro x hx
      rcases List.mem_append.1 hx with hx | hx
      · unfold stepR at hx
        rw [Option.mem_toList] at hx
        exact h x (List.mem_of_getElem? hx)
      · exact ih (raise xs) (i / 2) (by rw [length_raise]; omega) (raise_bd xs h) x hx
    · rw [pathR_short xs i (by omega)]; simp
theorem path_bd (xs : List Int) (i : Nat) (h : ∀ x ∈ xs, Bd x) : ∀ x ∈ pathR xs i, Bd x := path_bd_of _ xs i (Nat.le_refl _) h

theorem length_stepR (xs : List Int) (i : Nat) : (stepR xs i).length ≤ 1 := by
  unfold stepR; cases xs[beside i]? <;> simp
theorem length_pathR_of (n : Nat) : ∀ (xs : List Int) (i : Nat), xs.length ≤ n → (pathR xs i).length ≤ xs.length - 1 := by
  induction n with
  | zero => intro xs i hn; rw [pathR_short xs i (by omega)]; simp
  | succ n ih =>
    intro xs i hn
    by_cases hl : 1 < xs.length
    · rw [pathR_more xs i hl, List.length_append]
      have h1 := length_stepR xs i
      have h2 := ih (raise xs) (i / 2) (by rw [length_raise]; omega)
      rw [length_raise] at h2
      omega
    · rw [pathR_short xs i (by omega)]; simp
theorem length_pathR (xs : List Int) (i : Nat) : (pathR xs i).length ≤ xs.length - 1 := length_pathR_of _ xs i (Nat.le_refl _)

/-- What a path leads to, with so many rows to go at most. -/
def leadF : Nat → Nat → Nat → Int → List Int → Option Int
  | 0, _, _, x, path => if path = [] then some x else none
  | f + 1, n, i, x, path =>
    if n ≤ 1 then (if path = [] then some x else none)
    else if i % 2 = 0 ∧ i + 1 = n then leadF f ((n + 1) / 2) (i / 2) x path
    else match path with
      | [] => none
      | p :: r => leadF f ((n + 1) / 2) (i / 2) (if i % 2 = 0 then node x p else node p x) r
/-- What a path leads to, a row at a time. -/
def leadR (n i : Nat) (x : Int) (path : List Int) : Option Int := leadF n n i x path
theorem leadF_eq (f : Nat) : ∀ (g n i : Nat) (x : Int) (path : List Int), n ≤ f → n ≤ g → leadF f n i x path = leadF g n i x path := by
  induction f with
  | zero =>
    intro g n i x path hf hg
    cases g with
    | zero => rfl
    | succ g => simp only [leadF]; rw [if_pos (show n ≤ 1 by omega)]
  | succ f ih =>
    intro g n i x path hf hg
    cases g with
    | zero => simp only [leadF]; rw [if_pos (show n ≤ 1 by omega)]
    | succ g =>
      simp only [leadF]
      by_cases h1 : n ≤ 1
      · rw [if_pos h1, if_pos h1]
      · rw [if_neg h1, if_neg h1]
        by_cases ha : i % 2 = 0 ∧ i + 1 = n
        · rw [if_pos ha, if_pos ha]
          exact ih g _ _ _ _ (by omega) (by omega)
        · rw [if_neg ha, if_neg ha]
          cases path with
          | nil => rfl
          | cons p r => exact ih g _ _ _ _ (by omega) (by omega)

theorem leadR_one (n i : Nat) (x : Int) (path : List Int) (h : n ≤ 1) : leadR n i x path = if path = [] then some x else none := by
  unfold leadR
  cases n with
  | zero => rfl
  | succ n => simp only [leadF]; rw [if_pos h]
theorem leadR_alone (n i : Nat) (x : Int) (path : List Int) (h : 1 < n) (ha : i % 2 = 0 ∧ i + 1 = n) : leadR n i x path = leadR ((n + 1) / 2) (i / 2) x path := by
  unfold leadR
  obtain ⟨f, rfl⟩ : ∃ f, n = f + 1 := ⟨n - 1, by omega⟩
  simp only [leadF]
  rw [if_neg (show ¬ f + 1 ≤ 1 by omega), if_pos ha]
  exact leadF_eq _ _ _ _ _ _ (by omega) (Nat.le_refl _)
theorem leadR_nil (n i : Nat) (x : Int) (h : 1 < n) (ha : ¬ (i % 2 = 0 ∧ i + 1 = n)) : leadR n i x [] = none := by
  unfold leadR
  obtain ⟨f, rfl⟩ : ∃ f, n = f + 1 := ⟨n - 1, by omega⟩
  simp only [leadF]
  rw [if_neg (show ¬ f + 1 ≤ 1 by omega), if_neg ha]
theorem leadR_cons (n i : Nat) (x p : Int) (r : List Int) (h : 1 < n) (ha : ¬ (i % 2 = 0 ∧ i + 1 = n)) :
    leadR n i x (p :: r) = leadR ((n + 1) / 2) (i / 2) (if i % 2 = 0 then node x p else node p x) r := by
  unfold leadR
  obtain ⟨f, rfl⟩ : ∃ f, n = f + 1 := ⟨n - 1, by omega⟩
  simp only [leadF]
  rw [if_neg (show ¬ f + 1 ≤ 1 by omega), if_neg ha]
  exact leadF_eq _ _ _ _ _ _ (by omega) (Nat.le_refl _)

/-- The last number of a path is that of the first cut. -/
theorem lead_cut_nil (n : Nat) : ∀ (i : Nat) (x : Int), 1 < n → i < n → leadR n i x [] = none := by
  induction n using Nat.strongRecOn with
  | ind n ih =>
    intro i x h1 hi
    by_cases ha : i % 2 = 0 ∧ i + 1 = n
    · rw [leadR_alone n i x [] h1 ha]
      by_cases h2 : n = 2
      · omega
      · exact ih _ (by omega) _ _ (by omega) (by omega)
    · exact leadR_nil n i x h1 ha

theorem lead_cut (n : Nat) : ∀ (k i : Nat) (x p : Int) (q : List Int), IsCut n k → i < n →
    leadR n i x (q ++ [p]) = if i < k then (leadR k i x q).map (fun y => node y p) else (leadR (n - k) (i - k) x q).map (fun y => node p y) := by
  induction n using Nat.strongRecOn with
  | ind n ih =>
    intro k i x p q hc hi
    have hp := hc.pos
    by_cases h2 : n = 2
    · subst h2
      obtain rfl := cut_two hc
      match i, hi with
      | 0, _ =>
        cases q with
        | nil => rw [List.nil_append, leadR_cons _ _ _ _ _ (by omega) (by omega)]; simp [leadR_one]
        | cons a q => rw [List.cons_append, leadR_cons _ _ _ _ _ (by omega) (by omega)]; simp [leadR_one]
      | 1, _ =>
        cases q with
        | nil => rw [List.nil_append, leadR_cons _ _ _ _ _ (by omega) (by omega)]; simp [leadR_one]
        | cons a q => rw [List.cons_append, leadR_cons _ _ _ _ _ (by omega) (by omega)]; simp [leadR_one]
    · obtain ⟨k', rfl, hc'⟩ := hc.half (by omega)
      have hlt := hc.2.1
      have hp' := hc'.pos
      by_cases ha : i % 2 = 0 ∧ i + 1 = n
      · rw [leadR_alone n i x _ hp.2 ha, ih _ (by omega) k' (i / 2) x p q hc' (by omega), if_neg (by omega), if_neg (by omega)]
        by_cases h3 : n - 2 * k' = 1
        · rw [leadR_one _ _ _ _ (show (n + 1) / 2 - k' ≤ 1 by omega), leadR_one _ _ _ _ (show n - 2 * k' ≤ 1 by omega)]
        · rw [leadR_alone (n - 2 * k') (i - 2 * k') x q (by omega) (by omega), show (n - 2 * k' + 1) / 2 = (n + 1) / 2 - k' by omega, show (i - 2 * k') / 2 = i / 2 - k' by omega]
      · cases q with
        | nil =>
          rw [List.nil_append, leadR_cons n i x p [] hp.2 ha, lead_cut_nil _ _ _ (by omega) (by omega)]
          by_cases hk : i < 2 * k'
          · rw [if_pos hk, lead_cut_nil _ _ _ (by omega) hk]; rfl
          · rw [if_neg hk, lead_cut_nil _ _ _ (by omega) (by omega)]; rfl
        | cons a q =>
          rw [List.cons_append, leadR_cons n i x a _ hp.2 ha, ih _ (by omega) k' (i / 2) _ p q hc' (by omega)]
          by_cases hk : i < 2 * k'
          · rw [if_pos (by omega), if_pos hk, leadR_cons (2 * k') i x a q (by omega) (by omega), show (2 * k' + 1) / 2 = k' by omega]
          · rw [if_neg (by omega), if_neg hk, leadR_cons (n - 2 * k') (i - 2 * k') x a q (by omega) (by omega), show (n - 2 * k' + 1) / 2 = (n + 1) / 2 - k' by omega, show (i - 2 * k') / 2 = i / 2 - k' by omega,
              show (i - 2 * k') % 2 = i % 2 by omega]

end Go.Proofs.YtedblhcehlbbmabDoor

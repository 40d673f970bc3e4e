import Derived.WalkKit
/-
  THE PLAIN MATHEMATICS OF THE SUM (DOC.md, 'The sum'). Nothing of the translation is imported.
-/
namespace Go.Proofs.YtedblhcehlbbmaaGreatDoor
set_option maxRecDepth 20000

/-- One byte more. -/
def smStep (s : Int) (b : UInt8) : Int := (s * 263 + (b.toNat : Int) + 1) % 4093
/-- The sum of a text. -/
def sm (l : List UInt8) : Int := l.foldl smStep 0

theorem sm_nil : sm [] = 0 := rfl
theorem sm_snoc (l : List UInt8) (c : UInt8) : sm (l ++ [c]) = (sm l * 263 + (c.toNat : Int) + 1) % 4093 := by
  unfold sm; rw [List.foldl_append]; rfl
theorem sm_bd (l : List UInt8) : 0 ≤ sm l ∧ sm l ≤ 4092 := by
  rcases List.eq_nil_or_concat l with rfl | ⟨l', c, rfl⟩
  · simp [sm_nil]
  · rw [List.concat_eq_append, sm_snoc]; omega
theorem take_snoc (s : ByteArray) (k : Nat) (h : k < s.size) : s.data.toList.take (k + 1) = s.data.toList.take k ++ [s[k]] := by
  rw [List.take_succ_eq_append_getElem (by simpa using h)]; rfl
theorem sm_take (s : ByteArray) (k : Nat) (h : k < s.size) : sm (s.data.toList.take (k + 1)) = (sm (s.data.toList.take k) * 263 + (s[k].toNat : Int) + 1) % 4093 := by
  rw [take_snoc s k h, sm_snoc]
theorem take_all (s : ByteArray) : s.data.toList.take s.size = s.data.toList := List.take_of_length_le (by simp)

end Go.Proofs.YtedblhcehlbbmaaGreatDoor


/-
  THE PLAIN MATHEMATICS OF ROOTS AND PATHS: a row at a time from the entries upwards is the same as cutting at the greatest power of two. Nothing of the translation is imported.
-/
namespace Go.Proofs.YtedblhcehlbbmaaGreatDoor
set_option maxRecDepth 20000

/-- A number in two bytes, low one first. -/
def two (n : Int) : List UInt8 := [UInt8.ofNat (n % 256).toNat, UInt8.ofNat (n / 256).toNat]
def entT (e : List UInt8) : List UInt8 := 69 :: e
def nodeT (a b : Int) : List UInt8 := 78 :: (two a ++ two b)
def ent (e : List UInt8) : Int := sm (entT e)
def node (a b : Int) : Int := sm (nodeT a b)

theorem ent_bd (e : List UInt8) : 0 ≤ ent e ∧ ent e ≤ 4092 := sm_bd _
theorem node_bd (a b : Int) : 0 ≤ node a b ∧ node a b ≤ 4092 := sm_bd _
theorem length_two (n : Int) : (two n).length = 2 := rfl
theorem length_nodeT (a b : Int) : (nodeT a b).length = 5 := rfl
theorem length_entT (e : List UInt8) : (entT e).length = e.length + 1 := rfl

/-- The row above. -/
def raise : List Int → List Int
  | a :: b :: r => node a b :: raise r
  | [a] => [a]
  | [] => []

theorem length_raise : ∀ l : List Int, (raise l).length = (l.length + 1) / 2
  | a :: b :: r => by simp only [raise, List.length_cons, length_raise r]; omega
  | [a] => by simp [raise]
  | [] => by simp [raise]

theorem raise_append : ∀ (m : Nat) (xs ys : List Int), xs.length = 2 * m → raise (xs ++ ys) = raise xs ++ raise ys
  | 0, xs, ys, h => by obtain rfl : xs = [] := List.eq_nil_of_length_eq_zero (by omega); rfl
  | m + 1, [], ys, h => by simp at h
  | m + 1, [a], ys, h => by simp at h; omega
  | m + 1, a :: b :: r, ys, h => by
    simp only [List.cons_append, raise]
    rw [raise_append m r ys (by simp at h; omega)]

theorem raise_pair : ∀ (k : Nat) (l : List Int) (h : 2 * k + 1 < l.length), (raise l)[k]? = some (node l[2 * k] l[2 * k + 1])
  | 0, a :: b :: r, _ => rfl
  | k + 1, a :: b :: r, h => by
    have := raise_pair k r (by simp at h; omega)
    simp only [raise, List.getElem?_cons_succ, this]
    rfl
  | k, [a], h => by simp at h
  | k, [], h => by simp at h
theorem raise_last : ∀ (k : Nat) (l : List Int) (h : 2 * k + 1 = l.length), (raise l)[k]? = some l[2 * k]
  | 0, [a], _ => rfl
  | k + 1, a :: b :: r, h => by
    have := raise_last k r (by simp at h; omega)
    simp only [raise, List.getElem?_cons_succ, this]
    rfl
  | 0, a :: b :: r, h => by simp at h
  | k + 1, [a], h => by simp at h
  | k, [], h => by simp at h
theorem take_succ_of {α : Type} (l : List α) (k : Nat) (x : α) (h : l[k]? = some x) : l.take (k + 1) = l.take k ++ [x] := by
  obtain ⟨hk, rfl⟩ := List.getElem?_eq_some_iff.1 h
  exact List.take_succ_eq_append_getElem hk

/-- The top of a row, with so many rows to go at most. -/
def topF : Nat → List Int → Int
  | 0, l => l.headD 0
  | f + 1, l => if l.length ≤ 1 then l.headD 0 else topF f (raise l)
/-- The top of a row. -/
def top (l : List Int) : Int := topF l.length l
theorem topF_eq (f : Nat) : ∀ (g : Nat) (l : List Int), l.length ≤ f → l.length ≤ g → topF f l = topF g l := by
  induction f with
  | zero =>
    intro g l hf hg
    obtain rfl : l = [] := List.eq_nil_of_length_eq_zero (by omega)
    cases g <;> rfl
  | succ f ih =>
    intro g l hf hg
    cases g with
    | zero => obtain rfl : l = [] := List.eq_nil_of_length_eq_zero (by omega); rfl
    | succ g =>
      simp only [topF]
      by_cases h : l.length ≤ 1
      · rw [if_pos h, if_pos h]
      · rw [if_neg h, if_neg h]
        exact ih g (raise l) (by rw [length_raise]; omega) (by rw [length_raise]; omega)

theorem top_nil : top [] = 0 := rfl
theorem top_one (a : Int) : top [a] = a := rfl
theorem top_more (l : List Int) (h : 1 < l.length) : top l = top (raise l) := by
  unfold top
  obtain ⟨f, hf⟩ : ∃ f, l.length = f + 1 := ⟨l.length - 1, by omega⟩
  rw [hf, topF, if_neg (by omega)]
  exact topF_eq _ _ _ (by rw [length_raise]; omega) (Nat.le_refl _)
theorem raise_short (l : List Int) (h : l.length ≤ 1) : raise l = l := by
  match l, h with
  | [], _ => rfl
  | [a], _ => rfl
theorem top_raise (l : List Int) : top (raise l) = top l := by
  by_cases h : 1 < l.length
  · rw [top_more l h]
  · rw [raise_short l (by omega)]

def Bd (x : Int) : Prop := 0 ≤ x ∧ x ≤ 4092
theorem raise_bd : ∀ l : List Int, (∀ x ∈ l, Bd x) → ∀ x ∈ raise l, Bd x
  | a :: b :: r, h => by
    intro x hx
    simp only [raise, List.mem_cons] at hx
    rcases hx with rfl | hx
    · exact node_bd _ _
    · exact raise_bd r (fun y hy => h y (by simp [hy])) x hx
  | [a], h => h
  | [], h => h
theorem top_bd_of (n : Nat) : ∀ l : List Int, l.length ≤ n → (∀ x ∈ l, Bd x) → Bd (top l) := by
  induction n with
  | zero =>
    intro l hn h
    obtain rfl : l = [] := List.eq_nil_of_length_eq_zero (by omega)
    rw [top_nil]; exact ⟨by omega, by omega⟩
  | succ n ih =>
    intro l hn h
    by_cases hl : 1 < l.length
    · rw [top_more l hl]
      exact ih (raise l) (by rw [length_raise]; omega) (raise_bd l h)
    · match l, hl with
      | [], _ => rw [top_nil]; exact ⟨by omega, by omega⟩
      | [a], _ => rw [top_one]; exact h a (by simp)
      | a :: b :: r, hl => simp at hl
theorem top_bd (l : List Int) (h : ∀ x ∈ l, Bd x) : Bd (top l) := top_bd_of _ l (Nat.le_refl _) h

/-- k is the greatest power of two below n. -/
def IsCut (n k : Nat) : Prop := (∃ j, k = 2 ^ j) ∧ k < n ∧ n ≤ 2 * k

theorem IsCut.pos {n k : Nat} (h : IsCut n k) : 0 < k ∧ 1 < n := by
  obtain ⟨⟨j, rfl⟩, h1, h2⟩ := h
  have : 0 < 2 ^ j := Nat.two_pow_pos j
  omega

theorem IsCut.half {n k : Nat} (h : IsCut n k) (hn : 2 < n) : ∃ k', k = 2 * k' ∧ IsCut ((n + 1) / 2) k' := by
  obtain ⟨⟨j, rfl⟩, h1, h2⟩ := h
  match j, h1, h2 with
  | 0, h1, h2 => simp at h2; omega
  | j + 1, h1, h2 =>
    rw [Nat.pow_succ] at h1 h2 ⊢
    exact ⟨2 ^ j, by omega, ⟨j, rfl⟩, by omega, by omega⟩

theorem IsCut.unique {n k k' : Nat} (h : IsCut n k) (h' : IsCut n k') : k = k' := by
  obtain ⟨⟨j, rfl⟩, h1, h2⟩ := h
  obtain ⟨⟨j', rfl⟩, h1', h2'⟩ := h'
  have key : ∀ a b : Nat, a < b → 2 * 2 ^ a ≤ 2 ^ b := fun a b hab => by
    have := Nat.pow_le_pow_right (n := 2) (by omega) (show a + 1 ≤ b from hab)
    rw [Nat.pow_succ] at this; omega
  rcases Nat.lt_trichotomy j j' with hj | rfl | hj
  · have := key _ _ hj; omega
  · rfl
  · have := key _ _ hj; omega

theorem raise_cut (xs : List Int) (k' : Nat) (hk : 2 * k' ≤ xs.length) : (raise xs).take k' = raise (xs.take (2 * k')) ∧ (raise xs).drop k' = raise (xs.drop (2 * k')) := by
  have hl : (xs.take (2 * k')).length = 2 * k' := by rw [List.length_take]; omega
  have e : raise xs = raise (xs.take (2 * k')) ++ raise (xs.drop (2 * k')) := by
    rw [← raise_append k' _ _ hl, List.take_append_drop]
  have hr : (raise (xs.take (2 * k'))).length = k' := by rw [length_raise, hl]; omega
  constructor
  · rw [e, List.take_left' hr]
  · rw [e, List.drop_left' hr]

theorem two_of_length {α : Type} (xs : List α) (h : xs.length = 2) : ∃ a b, xs = [a, b] := by
  match xs, h with
  | [a, b], _ => exact ⟨a, b, rfl⟩

theorem cut_two {k : Nat} (h : IsCut 2 k) : k = 1 := by
  obtain ⟨_, h1, h2⟩ := h; omega

theorem top_cut (n : Nat) : ∀ (xs : List Int) (k : Nat), xs.length = n → IsCut n k → top xs = node (top (xs.take k)) (top (xs.drop k)) := by
  induction n using Nat.strongRecOn with
  | ind n ih =>
    intro xs k hn hc
    have hp := hc.pos
    by_cases h2 : n = 2
    · subst h2
      obtain rfl := cut_two hc
      obtain ⟨a, b, rfl⟩ := two_of_length xs hn
      rw [top_more _ (by simp)]
      simp [raise, top_one]
    · obtain ⟨k', rfl, hc'⟩ := hc.half (by omega)
      have hlt := hc.2.1
      rw [top_more xs (by omega), ih ((n + 1) / 2) (by omega) (raise xs) k' (by rw [length_raise, hn]) hc', (raise_cut xs k' (by omega)).1, (raise_cut xs k' (by omega)).2, top_raise, top_raise]

/-- What stands beside place i in a row. -/
def beside (i : Nat) : Nat := if i % 2 = 1 then i - 1 else i + 1
def stepR (xs : List Int) (i : Nat) : List Int := (xs[beside i]?).toList
/-- The path of place i, with so many rows to go at most. -/
def pathF : Nat → List Int → Nat → List Int
  | 0, _, _ => []
  | f + 1, xs, i => if xs.length ≤ 1 then [] else stepR xs i ++ pathF f (raise xs) (i / 2)
/-- The path of place i, a row at a time. -/
def pathR (xs : List Int) (i : Nat) : List Int := pathF xs.length xs i
theorem pathF_eq (f : Nat) : ∀ (g : Nat) (xs : List Int) (i : Nat), xs.length ≤ f → xs.length ≤ g → pathF f xs i = pathF g xs i := by
  induction f with
  | zero =>
    intro g xs i hf hg
    cases g with
    | zero => rfl
    | succ g => simp only [pathF]; rw [if_pos (by omega)]
  | succ f ih =>
    intro g xs i hf hg
    cases g with
    | zero => simp only [pathF]; rw [if_pos (by omega)]
    | succ g =>
      simp only [pathF]
      by_cases h : xs.length ≤ 1
      · rw [if_pos h, if_pos h]
      · rw [if_neg h, if_neg h, ih g (raise xs) (i / 2) (by rw [length_raise]; omega) (by rw [length_raise]; omega)]

theorem pathR_short (xs : List Int) (i : Nat) (h : xs.length ≤ 1) : pathR xs i = [] := by
  unfold pathR
  cases hl : xs.length with
  | zero => rfl
  | succ f => simp only [pathF]; rw [if_pos h]
theorem pathR_more (xs : List Int) (i : Nat) (h : 1 < xs.length) : pathR xs i = stepR xs i ++ pathR (raise xs) (i / 2) := by
  unfold pathR
  obtain ⟨f, hf⟩ : ∃ f, xs.length = f + 1 := ⟨xs.length - 1, by omega⟩
  rw [hf, pathF, if_neg (by omega), pathF_eq f (raise xs).length (raise xs) (i / 2) (by rw [length_raise]; omega) (Nat.le_refl _)]
theorem pathR_step (xs : List Int) (i : Nat) (h : i < xs.length) : pathR xs i = stepR xs i ++ pathR (raise xs) (i / 2) := by
  by_cases hl : 1 < xs.length
  · exact pathR_more xs i hl
  · have hi : i = 0 := by omega
    subst hi
    have hs : stepR xs 0 = [] := by unfold stepR beside; rw [List.getElem?_eq_none (by simp; omega)]; rfl
    rw [pathR_short xs 0 (by omega), hs, pathR_short _ _ (by rw [length_raise]; omega)]; rfl

theorem path_cut (n : Nat) : ∀ (xs : List Int) (k i : Nat), xs.length = n → IsCut n k → i < n →
    pathR xs i = if i < k then pathR (xs.take k) i ++ [top (xs.drop k)] else pathR (xs.drop k) (i - k) ++ [top (xs.take k)] := by
  induction n using Nat.strongRecOn with
  | ind n ih =>
    intro xs k i hn hc hi
    have hp := hc.pos
    by_cases h2 : n = 2
    · subst h2
      obtain rfl := cut_two hc
      obtain ⟨a, b, rfl⟩ := two_of_length xs hn
      rw [pathR_more _ _ (by simp), pathR_short _ _ (by rw [length_raise]; simp)]
      match i, hi with
      | 0, _ => simp [stepR, beside, pathR_short, top_one]
      | 1, _ => simp [stepR, beside, pathR_short, top_one]
    · obtain ⟨k', rfl, hc'⟩ := hc.half (by omega)
      have hlt := hc.2.1
      have hp' := hc'.pos
      rw [pathR_more xs i (by omega), ih ((n + 1) / 2) (by omega) (raise xs) k' (i / 2) (by rw [length_raise, hn]) hc' (by omega), (raise_cut xs k' (by omega)).1, (raise_cut xs k' (by omega)).2, top_raise, top_raise]
      by_cases hk : i < 2 * k'
      · rw [if_pos (by omega), if_pos hk, pathR_step (xs.take (2 * k')) i (by rw [List.length_take]; omega), ← List.append_assoc]
        congr 1; congr 1
        unfold stepR
        rw [List.getElem?_take_of_lt (by unfold beside; split <;> omega)]
      · rw [if_neg (by omega), if_neg hk, pathR_step (xs.drop (2 * k')) (i - 2 * k') (by rw [List.length_drop]; omega), ← List.append_assoc]
        have e1 : (i - 2 * k') / 2 = i / 2 - k' := by omega
        rw [e1]
        congr 1; congr 1
        unfold stepR
        rw [List.getElem?_drop]
        congr 2
        unfold beside
        by_cases ho : i % 2 = 1
        · rw [if_pos ho, if_pos (by omega)]; omega
        · rw [if_neg ho, if_neg (by omega)]; omega

theorem path_bd_of (n : Nat) : ∀ (xs : List Int) (i : Nat), xs.length ≤ n → (∀ x ∈ xs, Bd x) → ∀ x ∈ pathR xs i, Bd x := by
  induction n with
  | zero => intro xs i hn h; rw [pathR_short xs i (by omega)]; simp
  | succ n ih =>
    intro xs i hn h
    by_cases hl : 1 < xs.length
    · rw [pathR_more xs i hl]
      intro x hx
      rcases List.mem_append.1 hx with hx | hx
      · unfold stepR at hx
        rw [Option.mem_toList] at hx
        exact h x (List.mem_of_getElem? hx)
      · exact ih (raise xs) (i / 2) (by rw [length_raise]; omega) (raise_bd xs h) x hx
    · rw [pathR_short xs i (by omega)]; simp
theorem path_bd (xs : List Int) (i : Nat) (h : ∀ x ∈ xs, Bd x) : ∀ x ∈ pathR xs i, Bd x := path_bd_of _ xs i (Nat.le_refl _) h

theorem length_stepR (xs : List Int) (i : Nat) : (stepR xs i).length ≤ 1 := by
  unfold stepR; cases xs[beside i]? <;> simp
theorem length_pathR_of (n : Nat) : ∀ (xs : List Int) (i : Nat), xs.length ≤ n → (pathR xs i).length ≤ xs.length - 1 := by
  induction n with
  | zero => intro xs i hn; rw [pathR_short xs i (by omega)]; simp
  | succ n ih =>
    intro xs i hn
    by_cases hl : 1 < xs.length
    · rw [pathR_more xs i hl, List.length_append]
      have h1 := length_stepR xs i
      have h2 := ih (raise xs) (i / 2) (by rw [length_raise]; omega)
      rw [length_raise] at h2
      omega
    · rw [pathR_short xs i (by omega)]; simp
theorem length_pathR (xs : List Int) (i : Nat) : (pathR xs i).length ≤ xs.length - 1 := length_pathR_of _ xs i (Nat.le_refl _)

/-- What a path leads to, with so many rows to go at most. -/
def leadF : Nat → Nat → Nat → Int → List Int → Option Int
  | 0, _, _, x, path => if path = [] then some x else none
  | f + 1, n, i, x, path =>
    if n ≤ 1 then (if path = [] then some x else none)
    else if i % 2 = 0 ∧ i + 1 = n then leadF f ((n + 1) / 2) (i / 2) x path
    else match path with
      | [] => none
      | p :: r => leadF f ((n + 1) / 2) (i / 2) (if i % 2 = 0 then node x p else node p x) r
/-- What a path leads to, a row at a time. -/
def leadR (n i : Nat) (x : Int) (path : List Int) : Option Int := leadF n n i x path
theorem leadF_eq (f : Nat) : ∀ (g n i : Nat) (x : Int) (path : List Int), n ≤ f → n ≤ g → leadF f n i x path = leadF g n i x path := by
  induction f with
  | zero =>
    intro g n i x path hf hg
    cases g with
    | zero => rfl
    | succ g => simp only [leadF]; rw [if_pos (show n ≤ 1 by omega)]
  | succ f ih =>
    intro g n i x path hf hg
    cases g with
    | zero => simp only [leadF]; rw [if_pos (show n ≤ 1 by omega)]
    | succ g =>
      simp only [leadF]
      by_cases h1 : n ≤ 1
      · rw [if_pos h1, if_pos h1]
      · rw [if_neg h1, if_neg h1]
        by_cases ha : i % 2 = 0 ∧ i + 1 = n
        · rw [if_pos ha, if_pos ha]
          exact ih g _ _ _ _ (by omega) (by omega)
        · rw [if_neg ha, if_neg ha]
          cases path with
          | nil => rfl
          | cons p r => exact ih g _ _ _ _ (by omega) (by omega)

theorem leadR_one (n i : Nat) (x : Int) (path : List Int) (h : n ≤ 1) : leadR n i x path = if path = [] then some x else none := by
  unfold leadR
  cases n with
  | zero => rfl
  | succ n => simp only [leadF]; rw [if_pos h]
theorem leadR_alone (n i : Nat) (x : Int) (path : List Int) (h : 1 < n) (ha : i % 2 = 0 ∧ i + 1 = n) : leadR n i x path = leadR ((n + 1) / 2) (i / 2) x path := by
  unfold leadR
  obtain ⟨f, rfl⟩ : ∃ f, n = f + 1 := ⟨n - 1, by omega⟩
  simp only [leadF]
  rw [if_neg (show ¬ f + 1 ≤ 1 by omega), if_pos ha]
  exact leadF_eq _ _ _ _ _ _ (by omega) (Nat.le_refl _)
theorem leadR_nil (n i : Nat) (x : Int) (h : 1 < n) (ha : ¬ (i % 2 = 0 ∧ i + 1 = n)) : leadR n i x [] = none := by
  unfold leadR
  obtain ⟨f, rfl⟩ : ∃ f, n = f + 1 := ⟨n - 1, by omega⟩
  simp only [leadF]
  rw [if_neg (show ¬ f + 1 ≤ 1 by omega), if_neg ha]
theorem leadR_cons (n i : Nat) (x p : Int) (r : List Int) (h : 1 < n) (ha : ¬ (i % 2 = 0 ∧ i + 1 = n)) :
    leadR n i x (p :: r) = leadR ((n + 1) / 2) (i / 2) (if i % 2 = 0 then node x p else node p x) r := by
  unfold leadR
  obtain ⟨f, rfl⟩ : ∃ f, n = f + 1 := ⟨n - 1, by omega⟩
  simp only [leadF]
  rw [if_neg (show ¬ f + 1 ≤ 1 by omega), if_neg ha]
  exact leadF_eq _ _ _ _ _ _ (by omega) (Nat.le_refl _)

/-- The last number of a path is that of the first cut. -/
theorem lead_cut_nil (n : Nat) : ∀ (i : Nat) (x : Int), 1 < n → i < n → leadR n i x [] = none := by
  induction n using Nat.strongRecOn with
  | ind n ih =>
    intro i x h1 hi
    by_cases ha : i % 2 = 0 ∧ i + 1 = n
    · rw [leadR_alone n i x [] h1 ha]
      by_cases h2 : n = 2
      · omega
      · exact ih _ (by omega) _ _ (by omega) (by omega)
    · exact leadR_nil n i x h1 ha

theorem lead_cut (n : Nat) : ∀ (k i : Nat) (x p : Int) (q : List Int), IsCut n k → i < n →
    leadR n i x (q ++ [p]) = if i < k then (leadR k i x q).map (fun y => node y p) else (leadR (n - k) (i - k) x q).map (fun y => node p y) := by
  induction n using Nat.strongRecOn with
  | ind n ih =>
    intro k i x p q hc hi
    have hp := hc.pos
    by_cases h2 : n = 2
    · subst h2
      obtain rfl := cut_two hc
      match i, hi with
      | 0, _ =>
        cases q with
        | nil => rw [List.nil_append, leadR_cons _ _ _ _ _ (by omega) (by omega)]; simp [leadR_one]
        | cons a q => rw [List.cons_append, leadR_cons _ _ _ _ _ (by omega) (by omega)]; simp [leadR_one]
      | 1, _ =>
        cases q with
        | nil => rw [List.nil_append, leadR_cons _ _ _ _ _ (by omega) (by omega)]; simp [leadR_one]
        | cons a q => rw [List.cons_append, leadR_cons _ _ _ _ _ (by omega) (by omega)]; simp [leadR_one]
    · obtain ⟨k', rfl, hc'⟩ := hc.half (by omega)
      have hlt := hc.2.1
      have hp' := hc'.pos
      by_cases ha : i % 2 = 0 ∧ i + 1 = n
      · rw [leadR_alone n i x _ hp.2 ha, ih _ (by omega) k' (i / 2) x p q hc' (by omega), if_neg (by omega), if_neg (by omega)]
        by_cases h3 : n - 2 * k' = 1
        · rw [leadR_one _ _ _ _ (show (n + 1) / 2 - k' ≤ 1 by omega), leadR_one _ _ _ _ (show n - 2 * k' ≤ 1 by omega)]
        · rw [leadR_alone (n - 2 * k') (i - 2 * k') x q (by omega) (by omega), show (n - 2 * k' + 1) / 2 = (n + 1) / 2 - k' by omega, show (i - 2 * k') / 2 = i / 2 - k' by omega]
      · cases q with
        | nil =>
          rw [List.nil_append, leadR_cons n i x p [] hp.2 ha, lead_cut_nil _ _ _ (by omega) (by omega)]
          by_cases hk : i < 2 * k'
          · rw [if_pos hk, lead_cut_nil _ _ _ (by omega) hk]; rfl
          · rw [if_neg hk, lead_cut_nil _ _ _ (by omega) (by omega)]; rfl
        | cons a q =>
          rw [List.cons_append, leadR_cons n i x a _ hp.2 ha, ih _ (by omega) k' (i / 2) _ p q hc' (by omega)]
          by_cases hk : i < 2 * k'
          · rw [if_pos (by omega), if_pos hk, leadR_cons (2 * k') i x a q (by omega) (by omega), show (2 * k' + 1) / 2 = k' by omega]
          · rw [if_neg (by omega), if_neg hk, leadR_cons (n - 2 * k') (i - 2 * k') x a q (by omega) (by omega), show (n - 2 * k' + 1) / 2 = (n + 1) / 2 - k' by omega, show (i - 2 * k') / 2 = i / 2 - k' by omega,
              show (i - 2 * k') % 2 = i % 2 by omega]

end Go.Proofs.YtedblhcehlbbmaaGreatDoor


/-
  THE PLAIN MATHEMATICS OF BEGINNINGS: the path that joins a log's beginning with the whole, by cutting, and by the list of turns from the whole down to where the beginning ends. Nothing of the translation is imported.
-/
namespace Go.Proofs.YtedblhcehlbbmaaGreatDoor
set_option maxRecDepth 20000

/-- Where n entries are cut. -/
def cutN (n : Nat) : Nat := 2 ^ Nat.log2 (n - 1)
theorem cutN_is (n : Nat) (h : 1 < n) : IsCut n (cutN n) := by
  have h0 : n - 1 ≠ 0 := by omega
  have h1 : 2 ^ Nat.log2 (n - 1) ≤ n - 1 := Nat.log2_self_le h0
  have h2 : n - 1 < 2 ^ (Nat.log2 (n - 1) + 1) := Nat.lt_log2_self
  rw [Nat.pow_succ] at h2
  exact ⟨⟨_, rfl⟩, by unfold cutN; omega, by unfold cutN; omega⟩
theorem cutN_of {n k : Nat} (h : IsCut n k) : cutN n = k := (cutN_is n h.pos.2).unique h

/-- A part of a list. -/
def part {α : Type} (l : List α) (lo hi : Nat) : List α := (l.drop lo).take (hi - lo)
theorem length_part {α : Type} (l : List α) (lo hi : Nat) (h : hi ≤ l.length) : (part l lo hi).length = hi - lo := by
  unfold part; rw [List.length_take, List.length_drop]; omega
theorem part_take {α : Type} (l : List α) (lo hi k : Nat) (h : lo + k ≤ hi) : (part l lo hi).take k = part l lo (lo + k) := by
  unfold part; rw [List.take_take]; congr 1; omega
theorem part_drop {α : Type} (l : List α) (lo hi k : Nat) : (part l lo hi).drop k = part l (lo + k) hi := by
  unfold part; rw [List.drop_take, List.drop_drop]; congr 1; omega
theorem part_all {α : Type} (l : List α) : part l 0 l.length = l := by unfold part; simp

/-- Further, by cutting: of a list of entries' sums, with so many cuts to go at most. -/
def furF : Nat → List Int → Nat → Bool → List Int
  | 0, _, _, _ => []
  | f + 1, xs, m, whole =>
    if xs.length ≤ m then (if whole = true then [] else [top xs])
    else if m ≤ cutN xs.length then furF f (xs.take (cutN xs.length)) m whole ++ [top (xs.drop (cutN xs.length))]
    else furF f (xs.drop (cutN xs.length)) (m - cutN xs.length) false ++ [top (xs.take (cutN xs.length))]
def furR (xs : List Int) (m : Nat) (whole : Bool) : List Int := furF xs.length xs m whole

theorem furF_eq (f : Nat) : ∀ (g : Nat) (xs : List Int) (m : Nat) (b : Bool), 1 ≤ m → 1 ≤ xs.length → xs.length ≤ f → xs.length ≤ g → furF f xs m b = furF g xs m b := by
  induction f with
  | zero => intro g xs m b _ h1 h2; omega
  | succ f ih =>
    intro g xs m b hm h1 hf hg
    cases g with
    | zero => omega
    | succ g =>
      simp only [furF]
      by_cases he : xs.length ≤ m
      · rw [if_pos he, if_pos he]
      · rw [if_neg he, if_neg he]
        have hc := cutN_is xs.length (by omega)
        have hp := hc.pos
        have hl := hc.2.1
        by_cases hk : m ≤ cutN xs.length
        · rw [if_pos hk, if_pos hk, ih g _ _ _ hm (by rw [List.length_take]; omega) (by rw [List.length_take]; omega) (by rw [List.length_take]; omega)]
        · rw [if_neg hk, if_neg hk, ih g _ _ _ (by omega) (by rw [List.length_drop]; omega) (by rw [List.length_drop]; omega) (by rw [List.length_drop]; omega)]

theorem furR_end (xs : List Int) (m : Nat) (b : Bool) (h : xs.length ≤ m) (h1 : 1 ≤ xs.length) : furR xs m b = if b = true then [] else [top xs] := by
  unfold furR
  obtain ⟨f, hf⟩ : ∃ f, xs.length = f + 1 := ⟨xs.length - 1, by omega⟩
  rw [hf, furF, if_pos h]
theorem furR_le (xs : List Int) (m k : Nat) (b : Bool) (hm : 1 ≤ m) (hc : IsCut xs.length k) (hk : m ≤ k) : furR xs m b = furR (xs.take k) m b ++ [top (xs.drop k)] := by
  have hp := hc.pos
  have hl := hc.2.1
  unfold furR
  obtain ⟨f, hf⟩ : ∃ f, xs.length = f + 1 := ⟨xs.length - 1, by omega⟩
  rw [hf, furF, if_neg (by omega), cutN_of hc, if_pos hk, furF_eq f (xs.take k).length (xs.take k) m b hm (by rw [List.length_take]; omega) (by rw [List.length_take]; omega) (Nat.le_refl _)]
theorem furR_gt (xs : List Int) (m k : Nat) (b : Bool) (hc : IsCut xs.length k) (hk : k < m) (hm : m < xs.length) : furR xs m b = furR (xs.drop k) (m - k) false ++ [top (xs.take k)] := by
  have hp := hc.pos
  have hl := hc.2.1
  unfold furR
  obtain ⟨f, hf⟩ : ∃ f, xs.length = f + 1 := ⟨xs.length - 1, by omega⟩
  rw [hf, furF, if_neg (by omega), cutN_of hc, if_neg (by omega), furF_eq f (xs.drop k).length (xs.drop k) (m - k) false (by omega) (by rw [List.length_drop]; omega) (by rw [List.length_drop]; omega) (Nat.le_refl _)]

theorem length_furF (f : Nat) : ∀ (xs : List Int) (m : Nat) (b : Bool), (furF f xs m b).length ≤ f := by
  induction f with
  | zero => intro xs m b; simp [furF]
  | succ f ih =>
    intro xs m b
    simp only [furF]
    split
    · split <;> simp
    · split
      · have := ih (xs.take (cutN xs.length)) m b; simp; omega
      · have := ih (xs.drop (cutN xs.length)) (m - cutN xs.length) false; simp; omega
theorem length_furR (xs : List Int) (m : Nat) (b : Bool) : (furR xs m b).length ≤ xs.length := length_furF _ _ _ _

/-- A turn: to the left? from where to where the other part goes. -/
structure Turn where
  left : Bool
  lo : Nat
  hi : Nat

/-- The turns, and whether the part behind them is the old log as a whole, and from where it goes. -/
def turnF : Nat → Nat → Nat → Nat → Bool → List Turn × Bool × Nat
  | 0, _, lo, _, b => ([], b, lo)
  | f + 1, m, lo, hi, b =>
    if hi ≤ m then ([], b, lo)
    else if m ≤ lo + cutN (hi - lo) then
      (⟨true, lo + cutN (hi - lo), hi⟩ :: (turnF f m lo (lo + cutN (hi - lo)) b).1, (turnF f m lo (lo + cutN (hi - lo)) b).2)
    else (⟨false, lo, lo + cutN (hi - lo)⟩ :: (turnF f m (lo + cutN (hi - lo)) hi false).1, (turnF f m (lo + cutN (hi - lo)) hi false).2)
def turnR (m lo hi : Nat) (b : Bool) : List Turn × Bool × Nat := turnF (hi - lo) m lo hi b

theorem turnF_eq (f : Nat) : ∀ (g m lo hi : Nat) (b : Bool), lo < m → m ≤ hi → hi - lo ≤ f → hi - lo ≤ g → turnF f m lo hi b = turnF g m lo hi b := by
  induction f with
  | zero => intro g m lo hi b h1 h2 hf; omega
  | succ f ih =>
    intro g m lo hi b h1 h2 hf hg
    cases g with
    | zero => omega
    | succ g =>
      simp only [turnF]
      by_cases he : hi ≤ m
      · rw [if_pos he, if_pos he]
      · rw [if_neg he, if_neg he]
        have hc := cutN_is (hi - lo) (by omega)
        have hp := hc.pos
        have hl := hc.2.1
        by_cases hk : m ≤ lo + cutN (hi - lo)
        · rw [if_pos hk, if_pos hk, ih g _ _ _ _ h1 hk (by omega) (by omega)]
        · rw [if_neg hk, if_neg hk, ih g _ _ _ _ (by omega) h2 (by omega) (by omega)]

theorem turnR_end (m lo : Nat) (b : Bool) : turnR m lo m b = ([], b, lo) := by
  unfold turnR
  cases m - lo with
  | zero => rfl
  | succ f => rw [turnF, if_pos (Nat.le_refl _)]
theorem turnR_le (m lo hi k : Nat) (b : Bool) (h1 : lo < m) (h2 : m < hi) (hc : IsCut (hi - lo) k) (hk : m ≤ lo + k) :
    turnR m lo hi b = (⟨true, lo + k, hi⟩ :: (turnR m lo (lo + k) b).1, (turnR m lo (lo + k) b).2) := by
  have hl := hc.2.1
  unfold turnR
  obtain ⟨f, hf⟩ : ∃ f, hi - lo = f + 1 := ⟨hi - lo - 1, by omega⟩
  rw [turnF_eq (hi - lo) (f + 1) m lo hi b h1 (by omega) (Nat.le_refl _) (by omega), turnF, if_neg (by omega), cutN_of hc, if_pos hk,
    turnF_eq f (lo + k - lo) m lo (lo + k) b h1 hk (by omega) (Nat.le_refl _)]
theorem turnR_gt (m lo hi k : Nat) (b : Bool) (h1 : lo + k < m) (h2 : m < hi) (hc : IsCut (hi - lo) k) :
    turnR m lo hi b = (⟨false, lo, lo + k⟩ :: (turnR m (lo + k) hi false).1, (turnR m (lo + k) hi false).2) := by
  have hl := hc.2.1
  have hp := hc.pos
  unfold turnR
  obtain ⟨f, hf⟩ : ∃ f, hi - lo = f + 1 := ⟨hi - lo - 1, by omega⟩
  rw [turnF_eq (hi - lo) (f + 1) m lo hi b (by omega) (by omega) (Nat.le_refl _) (by omega), turnF, if_neg (by omega), cutN_of hc, if_neg (by omega),
    turnF_eq f (hi - (lo + k)) m (lo + k) hi false h1 (by omega) (by omega) (Nat.le_refl _)]

/-- All turns lie within the log; there are no more of them than entries; the part behind them begins ahead of m. -/
theorem turnR_in (n : Nat) : ∀ (m lo hi : Nat) (b : Bool), hi - lo ≤ n → lo < m → m ≤ hi →
    (∀ t ∈ (turnR m lo hi b).1, t.lo < t.hi ∧ t.hi ≤ hi) ∧ (turnR m lo hi b).1.length ≤ hi - lo - 1 ∧ (turnR m lo hi b).2.2 < m := by
  induction n with
  | zero => intro m lo hi b h; omega
  | succ n ih =>
    intro m lo hi b hn h1 h2
    by_cases he : hi = m
    · subst he; rw [turnR_end]; exact ⟨by simp, by simp, h1⟩
    · have hc := cutN_is (hi - lo) (by omega)
      have hp := hc.pos
      have hl := hc.2.1
      generalize cutN (hi - lo) = k at hc hp hl
      by_cases hk : m ≤ lo + k
      · rw [turnR_le m lo hi k b h1 (by omega) hc hk]
        obtain ⟨i1, i2, i3⟩ := ih m lo (lo + k) b (by omega) h1 hk
        refine ⟨fun t ht => ?_, by simp only [List.length_cons]; omega, i3⟩
        rcases List.mem_cons.1 ht with rfl | ht
        · exact ⟨by show lo + k < hi; omega, Nat.le_refl _⟩
        · have := i1 t ht; omega
      · rw [turnR_gt m lo hi k b (by omega) (by omega) hc]
        obtain ⟨i1, i2, i3⟩ := ih m (lo + k) hi false (by omega) (by omega) h2
        refine ⟨fun t ht => ?_, by simp only [List.length_cons]; omega, i3⟩
        rcases List.mem_cons.1 ht with rfl | ht
        · exact ⟨by show lo < lo + k; omega, by show lo + k ≤ hi; omega⟩
        · exact i1 t ht

/-- What Further answers, out of the turns. -/
def furT (xs : List Int) (m : Nat) (r : List Turn × Bool × Nat) : List Int :=
  (if r.2.1 = true then [] else [top (part xs r.2.2 m)]) ++ (r.1.map fun t => top (part xs t.lo t.hi)).reverse

theorem furR_turns (n : Nat) : ∀ (xs : List Int) (m lo hi : Nat) (b : Bool), hi - lo ≤ n → lo < m → m ≤ hi → hi ≤ xs.length →
    furR (part xs lo hi) (m - lo) b = furT xs m (turnR m lo hi b) := by
  induction n with
  | zero => intro xs m lo hi b h; omega
  | succ n ih =>
    intro xs m lo hi b hn h1 h2 h3
    have hpl := length_part xs lo hi h3
    by_cases he : hi = m
    · subst he; rw [turnR_end, furR_end _ _ _ (by omega) (by omega)]; simp [furT]
    · have hc := cutN_is (hi - lo) (by omega)
      have hp := hc.pos
      have hl := hc.2.1
      generalize cutN (hi - lo) = k at hc hp hl
      by_cases hk : m ≤ lo + k
      · rw [turnR_le m lo hi k b h1 (by omega) hc hk, furR_le _ _ k b (by omega) (by rw [hpl]; exact hc) (by omega), part_take _ _ _ _ (by omega), part_drop, ih xs m lo (lo + k) b (by omega) h1 hk (by omega)]
        simp [furT]
      · rw [turnR_gt m lo hi k b (by omega) (by omega) hc, furR_gt _ _ k b (by rw [hpl]; exact hc) (by omega) (by omega), part_take _ _ _ _ (by omega), part_drop, show m - lo - k = m - (lo + k) by omega, ih xs m (lo + k) hi false (by omega) (by omega) h2 h3]
        simp [furT]
theorem furR_all (xs : List Int) (m : Nat) (h1 : 1 ≤ m) (h2 : m ≤ xs.length) : furR xs m true = furT xs m (turnR m 0 xs.length true) := by
  have := furR_turns xs.length xs m 0 xs.length true (by omega) (by omega) h2 (Nat.le_refl _)
  rwa [part_all, Nat.sub_zero] at this

/-- Of a path of just one number, this twice. -/
def lone : List Int → Option (Int × Int)
  | [p] => some (p, p)
  | _ => none
/-- What a path joins; the path is given from its last number on. -/
def joinF : Nat → Nat → Nat → Int → Bool → List Int → Option (Int × Int)
  | 0, _, _, _, _, _ => none
  | f + 1, m, n, old, b, ps =>
    if n ≤ m then (if b = true then (if ps = [] then some (old, old) else none) else lone ps)
    else match ps with
      | [] => none
      | p :: r => if m ≤ cutN n then (joinF f m (cutN n) old b r).map (fun q => (q.1, node q.2 p))
        else (joinF f (m - cutN n) (n - cutN n) old false r).map (fun q => (node p q.1, node p q.2))
def joinR (m n : Nat) (old : Int) (b : Bool) (ps : List Int) : Option (Int × Int) := joinF n m n old b ps

theorem joinF_eq (f : Nat) : ∀ (g m n : Nat) (old : Int) (b : Bool) (ps : List Int), 1 ≤ m → m ≤ n → n ≤ f → n ≤ g → joinF f m n old b ps = joinF g m n old b ps := by
  induction f with
  | zero => intro g m n old b ps h1 h2 hf; omega
  | succ f ih =>
    intro g m n old b ps h1 h2 hf hg
    cases g with
    | zero => omega
    | succ g =>
      simp only [joinF]
      by_cases he : n ≤ m
      · rw [if_pos he, if_pos he]
      · rw [if_neg he, if_neg he]
        have hc := cutN_is n (by omega)
        have hp := hc.pos
        have hl := hc.2.1
        cases ps with
        | nil => rfl
        | cons p r =>
          by_cases hk : m ≤ cutN n
          · simp only [if_pos hk]; rw [ih g m (cutN n) old b r h1 hk (by omega) (by omega)]
          · simp only [if_neg hk]; rw [ih g (m - cutN n) (n - cutN n) old false r (by omega) (by omega) (by omega) (by omega)]

theorem joinR_end (m : Nat) (old : Int) (b : Bool) (ps : List Int) (h : 1 ≤ m) :
    joinR m m old b ps = if b = true then (if ps = [] then some (old, old) else none) else lone ps := by
  unfold joinR
  obtain ⟨f, rfl⟩ : ∃ f, m = f + 1 := ⟨m - 1, by omega⟩
  cases ps <;> rw [joinF, if_pos (Nat.le_refl _)]
theorem joinR_nil (m n : Nat) (old : Int) (b : Bool) (h : m < n) : joinR m n old b [] = none := by
  unfold joinR
  obtain ⟨f, rfl⟩ : ∃ f, n = f + 1 := ⟨n - 1, by omega⟩
  rw [joinF, if_neg (by omega)]
theorem joinR_le (m n k : Nat) (old p : Int) (b : Bool) (r : List Int) (h1 : 1 ≤ m) (hc : IsCut n k) (hk : m ≤ k) :
    joinR m n old b (p :: r) = (joinR m k old b r).map (fun q => (q.1, node q.2 p)) := by
  have hl := hc.2.1
  unfold joinR
  obtain ⟨f, hf⟩ : ∃ f, n = f + 1 := ⟨n - 1, by omega⟩
  rw [joinF_eq n (f + 1) m n old b _ h1 (by omega) (Nat.le_refl _) (by omega), joinF, if_neg (by omega), cutN_of hc]
  simp only [if_pos hk]
  rw [joinF_eq f k m k old b r h1 hk (by omega) (Nat.le_refl _)]
theorem joinR_gt (m n k : Nat) (old p : Int) (b : Bool) (r : List Int) (hc : IsCut n k) (hk : k < m) (hm : m < n) :
    joinR m n old b (p :: r) = (joinR (m - k) (n - k) old false r).map (fun q => (node p q.1, node p q.2)) := by
  have hl := hc.2.1
  have hp := hc.pos
  unfold joinR
  obtain ⟨f, hf⟩ : ∃ f, n = f + 1 := ⟨n - 1, by omega⟩
  rw [joinF_eq n (f + 1) m n old b _ (by omega) (by omega) (Nat.le_refl _) (by omega), joinF, if_neg (by omega), cutN_of hc]
  simp only [if_neg (show ¬ m ≤ k by omega)]
  rw [joinF_eq f (n - k) (m - k) (n - k) old false r (by omega) (by omega) (by omega) (Nat.le_refl _)]

/-- The two sums along the turns, from the inmost outwards; the path is given from its last number on. -/
def growT : List Turn → List Int → Int → Int × Int
  | [], _, x => (x, x)
  | _ :: _, [], x => (x, x)
  | t :: ts, p :: ps, x => if t.left = true then ((growT ts ps x).1, node (growT ts ps x).2 p) else (node p (growT ts ps x).1, node p (growT ts ps x).2)

/-- What a path joins, out of the turns. -/
def joinT (old : Int) (ps : List Int) (r : List Turn × Bool × Nat) : Option (Int × Int) :=
  if r.2.1 = true then (if ps.length = r.1.length then some (growT r.1 ps old) else none)
  else (if ps.length = r.1.length + 1 then some (growT r.1 ps (ps.getLastD 0)) else none)

theorem joinR_turns (f : Nat) : ∀ (m lo hi : Nat) (old : Int) (b : Bool) (ps : List Int), hi - lo ≤ f → lo < m → m ≤ hi →
    joinR (m - lo) (hi - lo) old b ps = joinT old ps (turnR m lo hi b) := by
  induction f with
  | zero => intro m lo hi old b ps h; omega
  | succ f ih =>
    intro m lo hi old b ps hf h1 h2
    by_cases he : hi = m
    · subst he
      rw [turnR_end, joinR_end _ _ _ _ (by omega)]
      cases b with
      | true =>
        cases ps with
        | nil => simp [joinT, growT]
        | cons p r => simp [joinT]
      | false =>
        match ps with
        | [] => simp [joinT, lone]
        | [p] => simp [joinT, growT, lone]
        | p :: q :: r => simp [joinT, lone]
    · have hc := cutN_is (hi - lo) (by omega)
      have hp := hc.pos
      have hl := hc.2.1
      generalize cutN (hi - lo) = k at hc hp hl
      by_cases hk : m ≤ lo + k
      · rw [turnR_le m lo hi k b h1 (by omega) hc hk]
        cases ps with
        | nil => rw [joinR_nil _ _ _ _ (by omega)]; simp [joinT]
        | cons p r =>
          rw [joinR_le _ _ k old p b r (by omega) hc (by omega)]
          have e := ih m lo (lo + k) old b r (by omega) h1 hk
          rw [Nat.add_sub_cancel_left] at e
          rw [e]
          unfold joinT
          generalize turnR m lo (lo + k) b = t
          obtain ⟨ts, b', l⟩ := t
          simp only
          cases b' with
          | true => by_cases hlen : r.length = ts.length <;> simp [hlen, growT]
          | false =>
            by_cases hlen : r.length = ts.length + 1
            · have : r ≠ [] := fun e => by simp [e] at hlen
              simp only [hlen, List.length_cons, if_pos, growT]
              cases r with
              | nil => exact absurd rfl this
              | cons a s => simp
            · simp [hlen]
      · rw [turnR_gt m lo hi k b (by omega) (by omega) hc]
        cases ps with
        | nil => rw [joinR_nil _ _ _ _ (by omega)]; simp [joinT]
        | cons p r =>
          rw [joinR_gt _ _ k old p b r hc (by omega) (by omega)]
          have e := ih m (lo + k) hi old false r (by omega) (by omega) h2
          rw [show m - lo - k = m - (lo + k) by omega, show hi - lo - k = hi - (lo + k) by omega, e]
          unfold joinT
          generalize turnR m (lo + k) hi false = t
          obtain ⟨ts, b', l⟩ := t
          simp only
          cases b' with
          | true => by_cases hlen : r.length = ts.length <;> simp [hlen, growT]
          | false =>
            by_cases hlen : r.length = ts.length + 1
            · have : r ≠ [] := fun e => by simp [e] at hlen
              simp only [hlen, List.length_cons, if_pos, growT]
              cases r with
              | nil => exact absurd rfl this
              | cons a s => simp
            · simp [hlen]
theorem joinR_all (m n : Nat) (old : Int) (ps : List Int) (h1 : 1 ≤ m) (h2 : m ≤ n) : joinR m n old true ps = joinT old ps (turnR m 0 n true) :=
  joinR_turns n m 0 n old true ps (by omega) (by omega) h2

theorem growT_bd : ∀ (ts : List Turn) (ps : List Int) (x : Int), Bd x → Bd (growT ts ps x).1 ∧ Bd (growT ts ps x).2
  | [], _, x, h => ⟨h, h⟩
  | _ :: _, [], x, h => ⟨h, h⟩
  | t :: ts, p :: ps, x, h => by
    have ih := growT_bd ts ps x h
    simp only [growT]
    split
    · exact ⟨ih.1, node_bd _ _⟩
    · exact ⟨node_bd _ _, node_bd _ _⟩
theorem joinF_bd (f : Nat) : ∀ (m n : Nat) (old : Int) (b : Bool) (ps : List Int) (q : Int × Int), Bd old → (∀ p ∈ ps, Bd p) → joinF f m n old b ps = some q → Bd q.1 ∧ Bd q.2 := by
  induction f with
  | zero => intro m n old b ps q _ _ h; simp [joinF] at h
  | succ f ih =>
    intro m n old b ps q ho hps h
    simp only [joinF] at h
    split at h
    · split at h
      · split at h
        · cases h; exact ⟨ho, ho⟩
        · cases h
      · unfold lone at h
        split at h
        · cases h; exact ⟨hps _ (by simp), hps _ (by simp)⟩
        · cases h
    · split at h
      · cases h
      · rename_i p r
        split at h
        · rw [Option.map_eq_some_iff] at h
          obtain ⟨s, hs, rfl⟩ := h
          have := ih _ _ _ _ _ _ ho (fun x hx => hps x (by simp [hx])) hs
          exact ⟨this.1, node_bd _ _⟩
        · rw [Option.map_eq_some_iff] at h
          obtain ⟨s, hs, rfl⟩ := h
          exact ⟨node_bd _ _, node_bd _ _⟩
theorem joinR_bd {m n : Nat} {old : Int} {b : Bool} {ps : List Int} {q : Int × Int} (ho : Bd old) (hps : ∀ p ∈ ps, Bd p) (h : joinR m n old b ps = some q) : Bd q.1 ∧ Bd q.2 := joinF_bd _ _ _ _ _ _ _ ho hps h

end Go.Proofs.YtedblhcehlbbmaaGreatDoor


/-
  THE PLAIN MATHEMATICS OF A BOOK: events, a loan's state, what Add answers, how great the numbers grow. Nothing of the translation is imported.
-/
namespace Go.Proofs.YtedblhcehlbbmaaGreatDoor
set_option maxRecDepth 20000

/-- An event. -/
structure Ev where
  loan : Int
  kind : Int
  amount : Int
  day : Int
/-- A loan's state. -/
structure St where
  principal : Int
  due : Int
  rate : Int
  day : Int
  spare : Int
  count : Int

/-- The state at the beginning. -/
def zS : St := ⟨0, 0, 0, 0, 0, 0⟩
/-- What an event makes of the state, step by step. -/
def dueS (s : St) (e : Ev) : Int := s.due + s.principal * s.rate * (e.day - s.day)
def prinS (s : St) (e : Ev) : Int := if e.kind = 0 then s.principal + e.amount else s.principal
def rateS (s : St) (e : Ev) : Int := if e.kind = 2 then e.amount else s.rate
def spareS (s : St) (e : Ev) : Int := if e.kind = 1 then s.spare + e.amount * 1000000 else s.spare
def dS (s : St) (e : Ev) : Int := if spareS s e < dueS s e then spareS s e else dueS s e
def uS (s : St) (e : Ev) : Int := if prinS s e < (spareS s e - dS s e) / 1000000 then prinS s e else (spareS s e - dS s e) / 1000000
def stepS (s : St) (e : Ev) : St := ⟨prinS s e - uS s e, dueS s e - dS s e, rateS s e, e.day, spareS s e - dS s e - uS s e * 1000000, s.count + 1⟩

/-- A loan's own events. -/
def ownE (es : List Ev) (loan : Int) : List Ev := es.filter fun e => decide (e.loan = loan)
/-- A loan's state behind these events. -/
def stOf (es : List Ev) (loan : Int) : St := (ownE es loan).foldl stepS zS
theorem ownE_snoc (es : List Ev) (e : Ev) (loan : Int) : ownE (es ++ [e]) loan = if e.loan = loan then ownE es loan ++ [e] else ownE es loan := by
  unfold ownE
  rw [List.filter_append]
  split
  · rename_i h; simp [h]
  · rename_i h; simp [h]
theorem stOf_nil (loan : Int) : stOf [] loan = zS := rfl
theorem stOf_snoc (es : List Ev) (e : Ev) (loan : Int) : stOf (es ++ [e]) loan = if e.loan = loan then stepS (stOf es loan) e else stOf es loan := by
  unfold stOf
  rw [ownE_snoc]
  split
  · rw [List.foldl_append]; rfl
  · rfl
theorem ownE_own (es : List Ev) (loan : Int) : ownE (ownE es loan) loan = ownE es loan := by
  unfold ownE; rw [List.filter_filter]; simp
theorem stOf_own (es : List Ev) (loan : Int) : stOf (ownE es loan) loan = stOf es loan := by
  unfold stOf; rw [ownE_own]
theorem ownE_sub (es : List Ev) (loan : Int) : ∀ e ∈ ownE es loan, e ∈ es ∧ e.loan = loan := by
  intro e he
  unfold ownE at he
  rw [List.mem_filter] at he
  exact ⟨he.1, of_decide_eq_true he.2⟩

/-- May an event be? -/
def MayE (e : Ev) : Prop := (0 ≤ e.loan ∧ e.loan ≤ 63) ∧ (0 ≤ e.kind ∧ e.kind ≤ 2) ∧ ((if e.kind = 2 then 0 else 1) ≤ e.amount ∧ e.amount ≤ (if e.kind = 2 then 1000 else 100000000)) ∧ (0 ≤ e.day ∧ e.day ≤ 10000)
theorem MayE.amount {e : Ev} (h : MayE e) : 0 ≤ e.amount ∧ e.amount ≤ 100000000 ∧ (e.kind = 2 → e.amount ≤ 1000) := by
  obtain ⟨_, _, ⟨h1, h2⟩, _⟩ := h
  split at h1
  · rename_i hk; rw [if_pos hk] at h2; exact ⟨h1, by omega, fun _ => h2⟩
  · rename_i hk; rw [if_neg hk] at h2; exact ⟨by omega, h2, fun h => absurd h hk⟩
/-- The day of the last event. -/
def lastD (es : List Ev) : Int := match es.getLast? with
  | none => 0
  | some e => e.day
theorem lastD_snoc (es : List Ev) (e : Ev) : lastD (es ++ [e]) = e.day := by simp [lastD]
theorem lastD_nil : lastD [] = 0 := rfl

/-- What a book may have taken. -/
def GoodE (es : List Ev) : Prop := es.length ≤ 200 ∧ (∀ e ∈ es, MayE e) ∧ es.Pairwise (fun a b => a.day ≤ b.day)
theorem GoodE.nil : GoodE [] := ⟨by simp, by simp, List.Pairwise.nil⟩
theorem GoodE.pre {es fs : List Ev} (h : GoodE (es ++ fs)) : GoodE es := by
  obtain ⟨h1, h2, h3⟩ := h
  exact ⟨by rw [List.length_append] at h1; omega, fun e he => h2 e (List.mem_append_left _ he), (List.pairwise_append.1 h3).1⟩
theorem GoodE.take {es : List Ev} (h : GoodE es) (k : Nat) : GoodE (es.take k) := by
  rw [← List.take_append_drop k es] at h; exact h.pre
theorem GoodE.own {es : List Ev} (h : GoodE es) (loan : Int) : GoodE (ownE es loan) := by
  obtain ⟨h1, h2, h3⟩ := h
  exact ⟨Nat.le_trans (List.length_filter_le _ _) h1, fun e he => h2 e (ownE_sub es loan e he).1, h3.filter _⟩
theorem GoodE.last {es : List Ev} (h : GoodE es) : ∀ e ∈ es, e.day ≤ lastD es := by
  rcases List.eq_nil_or_concat es with rfl | ⟨q, x, rfl⟩
  · intro e he; cases he
  · rw [List.concat_eq_append] at *
    intro e he
    rw [lastD_snoc]
    rcases List.mem_append.1 he with he | he
    · exact (List.pairwise_append.1 h.2.2).2.2 e he x (by simp)
    · simp only [List.mem_singleton] at he; rw [he]; omega
theorem GoodE.last_bd {es : List Ev} (h : GoodE es) : 0 ≤ lastD es ∧ lastD es ≤ 10000 := by
  rcases List.eq_nil_or_concat es with rfl | ⟨q, x, rfl⟩
  · rw [lastD_nil]; omega
  · rw [List.concat_eq_append] at *
    rw [lastD_snoc]
    exact (h.2.1 x (by simp)).2.2.2
theorem GoodE.snoc {es : List Ev} {e : Ev} (h : GoodE es) (hl : es.length < 200) (hm : MayE e) (hd : lastD es ≤ e.day) : GoodE (es ++ [e]) := by
  refine ⟨by rw [List.length_append]; simp; omega, ?_, ?_⟩
  · intro x hx
    rcases List.mem_append.1 hx with hx | hx
    · exact h.2.1 x hx
    · simp only [List.mem_singleton] at hx; rw [hx]; exact hm
  · refine List.pairwise_append.2 ⟨h.2.2, by simp, fun a ha b hb => ?_⟩
    simp only [List.mem_singleton] at hb
    rw [hb]
    have := h.last a ha
    omega
theorem GoodE.mid {es fs : List Ev} {e : Ev} (h : GoodE (es ++ e :: fs)) : es.length < 200 ∧ MayE e ∧ lastD es ≤ e.day := by
  obtain ⟨h1, h2, h3⟩ := h
  refine ⟨by rw [List.length_append, List.length_cons] at h1; omega, h2 e (by simp), ?_⟩
  rcases List.eq_nil_or_concat es with rfl | ⟨q, x, rfl⟩
  · rw [lastD_nil]; exact (h2 e (by simp)).2.2.2.1
  · rw [List.concat_eq_append] at *
    rw [lastD_snoc]
    exact (List.pairwise_append.1 h3).2.2 x (by simp) e (by simp)

/-- What Add answers. -/
def addN (es : List Ev) (may : Bool) (day : Int) : Int := if 200 ≤ es.length then 6 else if may = false then 4 else if day < lastD es then 5 else 0
theorem addN_ok {es : List Ev} {day : Int} (h1 : es.length < 200) (h3 : lastD es ≤ day) : addN es true day = 0 := by
  unfold addN; rw [if_neg (by omega), if_neg (by simp), if_neg (by omega)]

/-- How great a state's numbers are, behind n events. -/
structure BdS (n : Nat) (s : St) : Prop where
  p0 : 0 ≤ s.principal
  p1 : s.principal ≤ (n : Int) * 100000000
  d0 : 0 ≤ s.due
  d1 : s.due ≤ 20000000000000 * s.day
  r0 : 0 ≤ s.rate
  r1 : s.rate ≤ 1000
  y0 : 0 ≤ s.day
  y1 : s.day ≤ 10000
  s0 : 0 ≤ s.spare
  s1 : s.spare ≤ (n : Int) * 100000000000000
  c0 : 0 ≤ s.count
  c1 : s.count ≤ (n : Int)
theorem BdS.zero : BdS 0 zS := by constructor <;> simp [zS]
theorem BdS.mono {n m : Nat} {s : St} (h : BdS n s) (hm : n ≤ m) : BdS m s := by
  obtain ⟨a1, a2, a3, a4, a5, a6, a7, a8, a9, a10, a11, a12⟩ := h
  constructor <;> omega
/-- What is due for the days. -/
theorem BdS.prod {n : Nat} {s : St} (h : BdS n s) (hn : n ≤ 200) (t : Int) (h0 : 0 ≤ t) : 0 ≤ s.principal * s.rate ∧ s.principal * s.rate ≤ 20000000000000 ∧ 0 ≤ s.principal * s.rate * t ∧ s.principal * s.rate * t ≤ 20000000000000 * t := by
  have e0 : 0 ≤ s.principal * s.rate := Int.mul_nonneg h.p0 h.r0
  have hp : s.principal ≤ 20000000000 := by have := h.p1; omega
  have e1 : s.principal * s.rate ≤ 20000000000 * 1000 := Int.mul_le_mul hp h.r1 h.r0 (by omega)
  have e2 : s.principal * s.rate ≤ 20000000000000 := by omega
  exact ⟨e0, e2, Int.mul_nonneg e0 h0, Int.mul_le_mul_of_nonneg_right e2 h0⟩
theorem BdS.step {n : Nat} {s : St} {e : Ev} (h : BdS n s) (hn : n < 200) (hm : MayE e) (hd : s.day ≤ e.day) : BdS (n + 1) (stepS s e) := by
  have hx := h.prod (by omega) (e.day - s.day) (by omega)
  obtain ⟨a1, a2, a3, a4, a5, a6, a7, a8, a9, a10, a11, a12⟩ := h
  have ha := hm.amount
  have hdy := hm.2.2.2
  unfold stepS uS dS spareS rateS prinS dueS
  generalize s.principal * s.rate * (e.day - s.day) = x at hx
  constructor <;> simp only <;> (repeat' split) <;> omega
theorem bd_of (es : List Ev) (loan : Int) (h : GoodE es) : BdS es.length (stOf es loan) ∧ (stOf es loan).day ≤ lastD es := by
  obtain ⟨n, hn⟩ : ∃ n, n = es.length := ⟨_, rfl⟩
  induction n generalizing es with
  | zero =>
    obtain rfl := List.eq_nil_of_length_eq_zero hn.symm
    rw [stOf_nil]
    exact ⟨BdS.zero, by simp [zS, lastD_nil]⟩
  | succ n ih =>
    rcases List.eq_nil_or_concat es with rfl | ⟨q, x, rfl⟩
    · simp at hn
    · rw [List.concat_eq_append] at *
      rw [List.length_append] at hn
      have hq := ih q h.pre (by simpa using hn)
      have hmid := h.mid
      rw [stOf_snoc, lastD_snoc, List.length_append]
      split
      · exact ⟨hq.1.step (by have := hmid.1; omega) hmid.2.1 (by have := hmid.2.2; omega), Int.le_refl _⟩
      · exact ⟨hq.1.mono (by simp), by have := hmid.2.2; omega⟩
theorem bd200 (es : List Ev) (loan : Int) (h : GoodE es) : BdS 200 (stOf es loan) := (bd_of es loan h).1.mono h.1
theorem count_of (es : List Ev) (loan : Int) : (stOf es loan).count = ((ownE es loan).length : Int) := by
  unfold stOf
  generalize ownE es loan = l
  have : ∀ (l : List Ev) (s : St), (l.foldl stepS s).count = s.count + (l.length : Int) := by
    intro l
    induction l with
    | nil => intro s; simp
    | cons a l ih => intro s; rw [List.foldl_cons, ih]; simp [stepS]; omega
  rw [this]; simp [zS]

/-- P12's reckoning: nothing is lost. -/
def PaidI (lent paid due : Int) (s : St) : Prop := paid * 1000000 = s.spare + (lent - s.principal) * 1000000 + due - s.due
theorem PaidI.zero : PaidI 0 0 0 zS := by simp [PaidI, zS]
theorem PaidI.step {lent paid due : Int} {s : St} {e : Ev} (h : PaidI lent paid due s) :
    PaidI (if e.kind = 0 then lent + e.amount else lent) (if e.kind = 1 then paid + e.amount else paid) (due + s.principal * s.rate * (e.day - s.day)) (stepS s e) := by
  unfold PaidI at *
  unfold stepS uS dS spareS rateS prinS dueS
  generalize s.principal * s.rate * (e.day - s.day) = x
  simp only
  (repeat' split) <;> omega
theorem used (sp du pr : Int) (h1 : 0 ≤ sp) (h2 : 0 ≤ du) (h3 : 0 ≤ pr) (d u : Int) (hd : d = if sp < du then sp else du) (hu : u = if pr < (sp - d) / 1000000 then pr else (sp - d) / 1000000) :
    ¬ (0 < sp - d - u * 1000000 ∧ 0 < du - d) ∧ ¬ (1000000 ≤ sp - d - u * 1000000 ∧ 0 < pr - u) := by
  by_cases h : sp < du
  · rw [if_pos h] at hd
    subst hd
    by_cases h' : pr < (d - d) / 1000000
    · rw [if_pos h'] at hu; omega
    · rw [if_neg h'] at hu; omega
  · rw [if_neg h] at hd
    subst hd
    by_cases h' : pr < (sp - d) / 1000000
    · rw [if_pos h'] at hu; omega
    · rw [if_neg h'] at hu; omega
theorem spare_used {n : Nat} {s : St} {e : Ev} (h : BdS n s) (hn : n < 200) (hm : MayE e) (hd : s.day ≤ e.day) : ¬ (0 < (stepS s e).spare ∧ 0 < (stepS s e).due) ∧ ¬ (1000000 ≤ (stepS s e).spare ∧ 0 < (stepS s e).principal) := by
  have hx := h.prod (by omega) (e.day - s.day) (by omega)
  have ha := hm.amount
  have h1 : 0 ≤ spareS s e := by unfold spareS; have := h.s0; split <;> omega
  have h2 : 0 ≤ dueS s e := by unfold dueS; have := h.d0; have := hx.2.2.1; omega
  have h3 : 0 ≤ prinS s e := by unfold prinS; have := h.p0; split <;> omega
  exact used (spareS s e) (dueS s e) (prinS s e) h1 h2 h3 (dS s e) (uS s e) rfl rfl

end Go.Proofs.YtedblhcehlbbmaaGreatDoor


/-
  THE PLAIN MATHEMATICS OF WHAT GIVES A FALSE PROOF AWAY: the texts of a log and of a check, by cutting and a row at a time; a false proof leaves two texts with one sum. Nothing of the translation is imported.
-/
namespace Go.Proofs.YtedblhcehlbbmaaGreatDoor
set_option maxRecDepth 20000

/-- Two bytes tell a number below 65536. -/
theorem two_inj {a b : Int} (ha : Bd a) (hb : Bd b) (h : two a = two b) : a = b := by
  unfold two at h
  have h1 := (List.cons.inj h).1
  have h2 := (List.cons.inj (List.cons.inj h).2).1
  obtain ⟨ha1, ha2⟩ := ha
  obtain ⟨hb1, hb2⟩ := hb
  have e1 : ((a % 256).toNat) % 256 = ((b % 256).toNat) % 256 := by
    have := congrArg UInt8.toNat h1
    simpa [UInt8.toNat_ofNat'] using this
  have e2 : ((a / 256).toNat) % 256 = ((b / 256).toNat) % 256 := by
    have := congrArg UInt8.toNat h2
    simpa [UInt8.toNat_ofNat'] using this
  omega
theorem nodeT_inj {a b c d : Int} (ha : Bd a) (hb : Bd b) (hc : Bd c) (hd : Bd d) (h : nodeT a b = nodeT c d) : a = c ∧ b = d := by
  unfold nodeT at h
  have h1 := (List.cons.inj h).2
  have h2 := List.append_inj h1 (by rw [length_two, length_two])
  exact ⟨two_inj ha hc h2.1, two_inj hb hd h2.2⟩
theorem entT_inj {a b : List UInt8} (h : entT a = entT b) : a = b := (List.cons.inj h).2

/-- Of a log, given by its entries: the sums of the entries. -/
def lvE (es : List (List UInt8)) : List Int := es.map ent
theorem lvE_bd (es : List (List UInt8)) : ∀ x ∈ lvE es, Bd x := by
  intro x hx
  obtain ⟨s, _, rfl⟩ := List.mem_map.1 hx
  exact ent_bd _
theorem length_lvE (es : List (List UInt8)) : (lvE es).length = es.length := by simp [lvE]
def rootE (es : List (List UInt8)) : Int := top (lvE es)
theorem rootE_bd (es : List (List UInt8)) : Bd (rootE es) := top_bd _ (lvE_bd es)
theorem rootE_one (e : List UInt8) : rootE [e] = ent e := top_one _
theorem rootE_cut (es : List (List UInt8)) (k : Nat) (h : IsCut es.length k) : rootE es = node (rootE (es.take k)) (rootE (es.drop k)) := by
  unfold rootE; rw [top_cut _ (lvE es) k (length_lvE es) h]; simp [lvE]

/-- The texts N.. of a row, a row at a time. -/
def rowT : List Int → List (List UInt8)
  | a :: b :: r => nodeT a b :: rowT r
  | _ => []
def rowsF : Nat → List Int → List (List UInt8)
  | 0, _ => []
  | f + 1, xs => if xs.length ≤ 1 then [] else rowT xs ++ rowsF f (raise xs)
def rowsR (xs : List Int) : List (List UInt8) := rowsF xs.length xs
theorem rowsF_eq (f : Nat) : ∀ (g : Nat) (xs : List Int), xs.length ≤ f → xs.length ≤ g → rowsF f xs = rowsF g xs := by
  induction f with
  | zero =>
    intro g xs hf hg
    cases g with
    | zero => rfl
    | succ g => simp only [rowsF]; rw [if_pos (by omega)]
  | succ f ih =>
    intro g xs hf hg
    cases g with
    | zero => simp only [rowsF]; rw [if_pos (by omega)]
    | succ g =>
      simp only [rowsF]
      by_cases h : xs.length ≤ 1
      · rw [if_pos h, if_pos h]
      · rw [if_neg h, if_neg h, ih g (raise xs) (by rw [length_raise]; omega) (by rw [length_raise]; omega)]
theorem rowsR_short (xs : List Int) (h : xs.length ≤ 1) : rowsR xs = [] := by
  unfold rowsR
  cases hl : xs.length with
  | zero => rfl
  | succ f => simp only [rowsF]; rw [if_pos h]
theorem rowsR_more (xs : List Int) (h : 1 < xs.length) : rowsR xs = rowT xs ++ rowsR (raise xs) := by
  unfold rowsR
  obtain ⟨f, hf⟩ : ∃ f, xs.length = f + 1 := ⟨xs.length - 1, by omega⟩
  rw [hf, rowsF, if_neg (by omega), rowsF_eq f (raise xs).length (raise xs) (by rw [length_raise]; omega) (Nat.le_refl _)]
theorem rowT_append : ∀ (m : Nat) (xs ys : List Int), xs.length = 2 * m → rowT (xs ++ ys) = rowT xs ++ rowT ys
  | 0, xs, ys, h => by obtain rfl : xs = [] := List.eq_nil_of_length_eq_zero (by omega); rfl
  | m + 1, [], ys, h => by simp at h
  | m + 1, [a], ys, h => by simp at h; omega
  | m + 1, a :: b :: r, ys, h => by
    simp only [List.cons_append, rowT]
    rw [rowT_append m r ys (by simp at h; omega)]
theorem rowT_short (xs : List Int) (h : xs.length ≤ 1) : rowT xs = [] := by
  match xs, h with
  | [], _ => rfl
  | [a], _ => rfl
theorem rowsR_step (xs : List Int) : rowsR xs = rowT xs ++ rowsR (raise xs) := by
  by_cases h : 1 < xs.length
  · exact rowsR_more xs h
  · rw [rowsR_short xs (by omega), rowT_short xs (by omega), rowsR_short _ (by rw [length_raise]; omega)]; rfl
theorem rowT_cut (xs : List Int) (k' : Nat) (hk : 2 * k' ≤ xs.length) : rowT xs = rowT (xs.take (2 * k')) ++ rowT (xs.drop (2 * k')) := by
  rw [← rowT_append k' _ _ (by rw [List.length_take]; omega), List.take_append_drop]

/-- The texts N.. of a row, by cutting: the same ones, in another order. -/
theorem rows_cut (n : Nat) : ∀ (xs : List Int) (k : Nat) (t : List UInt8), xs.length = n → IsCut n k →
    (t ∈ rowsR xs ↔ t = nodeT (top (xs.take k)) (top (xs.drop k)) ∨ t ∈ rowsR (xs.take k) ∨ t ∈ rowsR (xs.drop k)) := by
  induction n using Nat.strongRecOn with
  | ind n ih =>
    intro xs k t hn hc
    have hp := hc.pos
    by_cases h2 : n = 2
    · subst h2
      obtain rfl := cut_two hc
      obtain ⟨a, b, rfl⟩ := two_of_length xs hn
      rw [rowsR_more _ (by simp), rowsR_short (raise [a, b]) (by rw [length_raise]; simp), rowsR_short ([a, b].take 1) (by simp), rowsR_short ([a, b].drop 1) (by simp)]
      simp [rowT, top_one]
    · obtain ⟨k', rfl, hc'⟩ := hc.half (by omega)
      have hlt := hc.2.1
      rw [rowsR_more xs (by omega), List.mem_append, ih ((n + 1) / 2) (by omega) (raise xs) k' t (by rw [length_raise, hn]) hc', (raise_cut xs k' (by omega)).1, (raise_cut xs k' (by omega)).2, top_raise, top_raise, rowT_cut xs k' (by omega), List.mem_append,
        rowsR_step (xs.take (2 * k')), rowsR_step (xs.drop (2 * k')), List.mem_append, List.mem_append]
      constructor
      · rintro ((h | h) | h | h | h) <;> simp [h]
      · rintro (h | (h | h) | (h | h)) <;> simp [h]

/-- The texts of a log: E and each entry; and the texts N.. of its rows. -/
def logT (es : List (List UInt8)) : List (List UInt8) := es.map entT ++ rowsR (lvE es)
theorem logT_one (e : List UInt8) (t : List UInt8) : t ∈ logT [e] ↔ t = entT e := by
  unfold logT; rw [rowsR_short _ (by rw [length_lvE]; simp)]; simp
theorem logT_nil (t : List UInt8) : ¬ t ∈ logT [] := by
  unfold logT; rw [rowsR_short _ (by rw [length_lvE]; simp)]; simp
theorem logT_cut (es : List (List UInt8)) (k : Nat) (h : IsCut es.length k) (t : List UInt8) :
    t ∈ logT es ↔ t = nodeT (rootE (es.take k)) (rootE (es.drop k)) ∨ t ∈ logT (es.take k) ∨ t ∈ logT (es.drop k) := by
  unfold logT
  have e1 : lvE (es.take k) = (lvE es).take k := by simp [lvE]
  have e2 : lvE (es.drop k) = (lvE es).drop k := by simp [lvE]
  have e3 : es.map entT = (es.take k).map entT ++ (es.drop k).map entT := by rw [← List.map_append, List.take_append_drop]
  rw [List.mem_append, rows_cut es.length (lvE es) k t (length_lvE es) h, e3, List.mem_append, List.mem_append, List.mem_append, ← e1, ← e2]
  unfold rootE
  constructor
  · rintro ((h | h) | h | h | h) <;> simp only [h, true_or, or_true]
  · rintro (h | (h | h) | (h | h)) <;> simp only [h, true_or, or_true]

/-- The texts N.. of Within's check, a row at a time. -/
def stepsF : Nat → Nat → Nat → Int → List Int → List (List UInt8)
  | 0, _, _, _, _ => []
  | f + 1, n, i, x, path =>
    if n ≤ 1 then []
    else if i % 2 = 0 ∧ i + 1 = n then stepsF f ((n + 1) / 2) (i / 2) x path
    else match path with
      | [] => []
      | p :: r => (if i % 2 = 0 then nodeT x p else nodeT p x) :: stepsF f ((n + 1) / 2) (i / 2) (if i % 2 = 0 then node x p else node p x) r
def stepsR (n i : Nat) (x : Int) (path : List Int) : List (List UInt8) := stepsF n n i x path
theorem stepsF_eq (f : Nat) : ∀ (g n i : Nat) (x : Int) (path : List Int), n ≤ f → n ≤ g → stepsF f n i x path = stepsF g n i x path := by
  induction f with
  | zero =>
    intro g n i x path hf hg
    cases g with
    | zero => rfl
    | succ g => cases path <;> simp only [stepsF] <;> rw [if_pos (show n ≤ 1 by omega)]
  | succ f ih =>
    intro g n i x path hf hg
    cases g with
    | zero => cases path <;> simp only [stepsF] <;> rw [if_pos (show n ≤ 1 by omega)]
    | succ g =>
      by_cases h1 : n ≤ 1
      · cases path <;> simp only [stepsF] <;> rw [if_pos h1, if_pos h1]
      · by_cases ha : i % 2 = 0 ∧ i + 1 = n
        · cases path <;> simp only [stepsF] <;> rw [if_neg h1, if_neg h1, if_pos ha, if_pos ha] <;> exact ih g _ _ _ _ (by omega) (by omega)
        · cases path with
          | nil => simp only [stepsF]; rw [if_neg h1, if_neg h1, if_neg ha, if_neg ha]
          | cons p r =>
            simp only [stepsF]
            rw [if_neg h1, if_neg h1, if_neg ha, if_neg ha, ih g _ _ _ _ (by omega) (by omega)]
theorem stepsR_one (n i : Nat) (x : Int) (path : List Int) (h : n ≤ 1) : stepsR n i x path = [] := by
  unfold stepsR
  cases n with
  | zero => rfl
  | succ n => cases path <;> simp only [stepsF] <;> rw [if_pos h]
theorem stepsR_alone (n i : Nat) (x : Int) (path : List Int) (h : 1 < n) (ha : i % 2 = 0 ∧ i + 1 = n) : stepsR n i x path = stepsR ((n + 1) / 2) (i / 2) x path := by
  unfold stepsR
  obtain ⟨f, rfl⟩ : ∃ f, n = f + 1 := ⟨n - 1, by omega⟩
  rw [← stepsF_eq f ((f + 1 + 1) / 2) _ _ _ _ (by omega) (Nat.le_refl _)]
  cases path <;> simp only [stepsF] <;> rw [if_neg (show ¬ f + 1 ≤ 1 by omega), if_pos ha]
theorem stepsR_cons (n i : Nat) (x p : Int) (r : List Int) (h : 1 < n) (ha : ¬ (i % 2 = 0 ∧ i + 1 = n)) :
    stepsR n i x (p :: r) = (if i % 2 = 0 then nodeT x p else nodeT p x) :: stepsR ((n + 1) / 2) (i / 2) (if i % 2 = 0 then node x p else node p x) r := by
  unfold stepsR
  obtain ⟨f, rfl⟩ : ∃ f, n = f + 1 := ⟨n - 1, by omega⟩
  rw [← stepsF_eq f ((f + 1 + 1) / 2) _ _ _ _ (by omega) (Nat.le_refl _)]
  simp only [stepsF]
  rw [if_neg (show ¬ f + 1 ≤ 1 by omega), if_neg ha]

/-- By cutting: what comes last is the text at the first cut. -/
theorem steps_cut (n : Nat) : ∀ (k i : Nat) (x p y : Int) (q : List Int), IsCut n k → i < n →
    (i < k → leadR k i x q = some y → stepsR n i x (q ++ [p]) = stepsR k i x q ++ [nodeT y p]) ∧
    (k ≤ i → leadR (n - k) (i - k) x q = some y → stepsR n i x (q ++ [p]) = stepsR (n - k) (i - k) x q ++ [nodeT p y]) := by
  induction n using Nat.strongRecOn with
  | ind n ih =>
    intro k i x p y q hc hi
    have hp := hc.pos
    by_cases h2 : n = 2
    · subst h2
      obtain rfl := cut_two hc
      match i, hi with
      | 0, _ =>
        refine ⟨fun _ hl => ?_, fun h => absurd h (by omega)⟩
        rw [leadR_one _ _ _ _ (Nat.le_refl _)] at hl
        split at hl
        · rename_i hq
          cases hl
          subst hq
          rw [List.nil_append, stepsR_cons _ _ _ _ _ (by omega) (by omega), stepsR_one _ _ _ _ (by omega), stepsR_one _ _ _ _ (by omega)]; rfl
        · cases hl
      | 1, _ =>
        refine ⟨fun h => absurd h (by omega), fun _ hl => ?_⟩
        rw [leadR_one _ _ _ _ (by omega)] at hl
        split at hl
        · rename_i hq
          cases hl
          subst hq
          rw [List.nil_append, stepsR_cons _ _ _ _ _ (by omega) (by omega), stepsR_one _ _ _ _ (by omega), stepsR_one _ _ _ _ (by omega)]; rfl
        · cases hl
    · obtain ⟨k', rfl, hc'⟩ := hc.half (by omega)
      have hlt := hc.2.1
      have hp' := hc'.pos
      by_cases ha : i % 2 = 0 ∧ i + 1 = n
      · refine ⟨fun h => absurd h (by omega), fun _ hl => ?_⟩
        rw [stepsR_alone n i x _ hp.2 ha]
        by_cases h3 : n - 2 * k' = 1
        · rw [leadR_one _ _ _ _ (show n - 2 * k' ≤ 1 by omega)] at hl
          rw [(ih _ (by omega) k' (i / 2) x p y q hc' (by omega)).2 (by omega) (by rw [leadR_one _ _ _ _ (show (n + 1) / 2 - k' ≤ 1 by omega)]; exact hl), stepsR_one _ _ _ _ (show (n + 1) / 2 - k' ≤ 1 by omega), stepsR_one _ _ _ _ (show n - 2 * k' ≤ 1 by omega)]
        · rw [leadR_alone (n - 2 * k') (i - 2 * k') x q (by omega) (by omega), show (n - 2 * k' + 1) / 2 = (n + 1) / 2 - k' by omega, show (i - 2 * k') / 2 = i / 2 - k' by omega] at hl
          rw [(ih _ (by omega) k' (i / 2) x p y q hc' (by omega)).2 (by omega) hl, stepsR_alone (n - 2 * k') (i - 2 * k') x q (by omega) (by omega), show (n - 2 * k' + 1) / 2 = (n + 1) / 2 - k' by omega, show (i - 2 * k') / 2 = i / 2 - k' by omega]
      · cases q with
        | nil =>
          refine ⟨fun h hl => ?_, fun h hl => ?_⟩
          · rw [lead_cut_nil _ _ _ (by omega) h] at hl; cases hl
          · rw [lead_cut_nil _ _ _ (by omega) (by omega)] at hl; cases hl
        | cons a q =>
          have hs := stepsR_cons n i x a (q ++ [p]) hp.2 ha
          rw [List.cons_append, hs]
          refine ⟨fun h hl => ?_, fun h hl => ?_⟩
          · rw [leadR_cons (2 * k') i x a q (by omega) (by omega), show (2 * k' + 1) / 2 = k' by omega] at hl
            rw [(ih _ (by omega) k' (i / 2) _ p y q hc' (by omega)).1 (by omega) hl, stepsR_cons (2 * k') i x a q (by omega) (by omega), show (2 * k' + 1) / 2 = k' by omega]; rfl
          · rw [leadR_cons (n - 2 * k') (i - 2 * k') x a q (by omega) (by omega), show (n - 2 * k' + 1) / 2 = (n + 1) / 2 - k' by omega, show (i - 2 * k') / 2 = i / 2 - k' by omega, show (i - 2 * k') % 2 = i % 2 by omega] at hl
            rw [(ih _ (by omega) k' (i / 2) _ p y q hc' (by omega)).2 (by omega) hl, stepsR_cons (n - 2 * k') (i - 2 * k') x a q (by omega) (by omega), show (n - 2 * k' + 1) / 2 = (n + 1) / 2 - k' by omega, show (i - 2 * k') / 2 = i / 2 - k' by omega, show (i - 2 * k') % 2 = i % 2 by omega]; rfl

/-- The texts of Within's check. -/
def pathT (n i : Nat) (e : List UInt8) (path : List Int) : List (List UInt8) := entT e :: stepsR n i (ent e) path

theorem leadR_bd' (n : Nat) : ∀ (i : Nat) (x : Int) (zs : List Int) (y : Int), Bd x → leadR n i x zs = some y → Bd y := by
  induction n using Nat.strongRecOn with
  | ind n ih =>
    intro i x zs y hx h
    by_cases h1 : n ≤ 1
    · rw [leadR_one _ _ _ _ h1] at h
      split at h
      · cases h; exact hx
      · cases h
    · by_cases ha : i % 2 = 0 ∧ i + 1 = n
      · rw [leadR_alone _ _ _ _ (by omega) ha] at h
        exact ih _ (by omega) _ _ _ _ hx h
      · cases zs with
        | nil => rw [leadR_nil _ _ _ (by omega) ha] at h; cases h
        | cons p r =>
          rw [leadR_cons _ _ _ _ _ (by omega) ha] at h
          refine ih _ (by omega) _ _ _ _ ?_ h
          split <;> exact node_bd _ _

/-- Two texts that are not the same, with one sum. -/
def Two (t u : List UInt8) : Prop := t ≠ u ∧ sm t = sm u

theorem last_of (q : List Int) (h : q ≠ []) : ∃ r p, q = r ++ [p] := by
  rcases List.eq_nil_or_concat q with rfl | ⟨r, p, rfl⟩
  · exact absurd rfl h
  · exact ⟨r, p, by rw [List.concat_eq_append]⟩

/-- P9: a path that leads, from an entry that is not there, to the root: two texts, of the check and of the log. -/
theorem twin_there (n : Nat) : ∀ (es : List (List UInt8)) (i : Nat) (e : List UInt8) (path : List Int) (hi : i < es.length), es.length = n → (∀ p ∈ path, Bd p) → leadR n i (ent e) path = some (rootE es) → e ≠ es[i] →
    ∃ t ∈ pathT n i e path, ∃ u ∈ logT es, Two t u := by
  induction n using Nat.strongRecOn with
  | ind n ih =>
    intro es i e path hi hn hb hl hne
    by_cases h1 : n = 1
    · subst h1
      obtain ⟨e', rfl⟩ : ∃ e', es = [e'] := by
        match es, hn with
        | [e'], _ => exact ⟨e', rfl⟩
      have hi0 : i = 0 := by simp at hi; omega
      subst hi0
      rw [leadR_one _ _ _ _ (Nat.le_refl _)] at hl
      split at hl
      · rw [rootE_one] at hl
        refine ⟨entT e, by simp [pathT], entT e', (logT_one e' _).2 rfl, fun h => hne (entT_inj h), ?_⟩
        exact Option.some.inj hl
      · cases hl
    · have hc := cutN_is n (by omega)
      have hp := hc.pos
      have hlt := hc.2.1
      generalize cutN n = k at hc hp hlt
      by_cases hq : path = []
      · subst hq; rw [lead_cut_nil n i _ hp.2 (by omega)] at hl; cases hl
      · obtain ⟨q, p, rfl⟩ := last_of path hq
        have hbp : Bd p := hb p (by simp)
        have hbq : ∀ x ∈ q, Bd x := fun x hx => hb x (by simp [hx])
        have hcn : IsCut es.length k := by rw [hn]; exact hc
        rw [lead_cut n k i _ p q hc (by omega), rootE_cut es k hcn] at hl
        by_cases hk : i < k
        · rw [if_pos hk, Option.map_eq_some_iff] at hl
          obtain ⟨y, hy, hyn⟩ := hl
          have hst := (steps_cut n k i (ent e) p y q hc (by omega)).1 hk hy
          by_cases hsame : nodeT y p = nodeT (rootE (es.take k)) (rootE (es.drop k))
          · have hby : Bd y := leadR_bd' k i (ent e) q y (ent_bd _) hy
            obtain ⟨rfl, _⟩ := nodeT_inj hby hbp (rootE_bd _) (rootE_bd _) hsame
            have hlk : (es.take k).length = k := by rw [List.length_take]; omega
            obtain ⟨t, ht, u, hu, h2⟩ := ih k (by omega) (es.take k) i e q (by omega) hlk hbq hy (by rw [List.getElem_take]; exact hne)
            refine ⟨t, ?_, u, (logT_cut es k hcn u).2 (.inr (.inl hu)), h2⟩
            unfold pathT at ht ⊢
            rw [hst]
            rcases List.mem_cons.1 ht with rfl | ht
            · simp
            · simp [ht]
          · refine ⟨nodeT y p, ?_, _, (logT_cut es k hcn _).2 (.inl rfl), hsame, hyn⟩
            unfold pathT; rw [hst]; simp
        · rw [if_neg hk, Option.map_eq_some_iff] at hl
          obtain ⟨y, hy, hyn⟩ := hl
          have hst := (steps_cut n k i (ent e) p y q hc (by omega)).2 (by omega) hy
          by_cases hsame : nodeT p y = nodeT (rootE (es.take k)) (rootE (es.drop k))
          · have hby : Bd y := leadR_bd' (n - k) (i - k) (ent e) q y (ent_bd _) hy
            obtain ⟨_, rfl⟩ := nodeT_inj hbp hby (rootE_bd _) (rootE_bd _) hsame
            have hlk : (es.drop k).length = n - k := by rw [List.length_drop]; omega
            obtain ⟨t, ht, u, hu, h2⟩ := ih (n - k) (by omega) (es.drop k) (i - k) e q (by omega) hlk hbq hy (by
              rw [List.getElem_drop]
              have e1 : k + (i - k) = i := by omega
              simp only [e1]; exact hne)
            refine ⟨t, ?_, u, (logT_cut es k hcn u).2 (.inr (.inr hu)), h2⟩
            unfold pathT at ht ⊢
            rw [hst]
            rcases List.mem_cons.1 ht with rfl | ht
            · simp
            · simp [ht]
          · refine ⟨nodeT p y, ?_, _, (logT_cut es k hcn _).2 (.inl rfl), hsame, hyn⟩
            unfold pathT; rw [hst]; simp

/-- Two logs of one length with one root that are not the same. -/
theorem logs_two (n : Nat) : ∀ (a b : List (List UInt8)), a.length = n → b.length = n → rootE a = rootE b → a ≠ b → ∃ t ∈ logT a, ∃ u ∈ logT b, Two t u := by
  induction n using Nat.strongRecOn with
  | ind n ih =>
    intro a b ha hb hr hne
    by_cases h0 : n = 0
    · subst h0; exact absurd ((List.eq_nil_of_length_eq_zero ha).trans (List.eq_nil_of_length_eq_zero hb).symm) hne
    by_cases h1 : n = 1
    · subst h1
      match a, ha, b, hb with
      | [x], _, [y], _ =>
        rw [rootE_one, rootE_one] at hr
        exact ⟨entT x, (logT_one x _).2 rfl, entT y, (logT_one y _).2 rfl, fun h => hne (by rw [entT_inj h]), hr⟩
    · have hc := cutN_is n (by omega)
      have hp := hc.pos
      have hlt := hc.2.1
      generalize cutN n = k at hc hp hlt
      have hca : IsCut a.length k := by rw [ha]; exact hc
      have hcb : IsCut b.length k := by rw [hb]; exact hc
      rw [rootE_cut a k hca, rootE_cut b k hcb] at hr
      by_cases hsame : nodeT (rootE (a.take k)) (rootE (a.drop k)) = nodeT (rootE (b.take k)) (rootE (b.drop k))
      · obtain ⟨e1, e2⟩ := nodeT_inj (rootE_bd _) (rootE_bd _) (rootE_bd _) (rootE_bd _) hsame
        by_cases ht : a.take k = b.take k
        · have hd : a.drop k ≠ b.drop k := fun h => hne (by rw [← List.take_append_drop k a, ht, h, List.take_append_drop])
          obtain ⟨t, h1, u, h2, h3⟩ := ih (n - k) (by omega) (a.drop k) (b.drop k) (by rw [List.length_drop]; omega) (by rw [List.length_drop]; omega) e2 hd
          exact ⟨t, (logT_cut a k hca t).2 (.inr (.inr h1)), u, (logT_cut b k hcb u).2 (.inr (.inr h2)), h3⟩
        · obtain ⟨t, h1, u, h2, h3⟩ := ih k (by omega) (a.take k) (b.take k) (by rw [List.length_take]; omega) (by rw [List.length_take]; omega) e1 ht
          exact ⟨t, (logT_cut a k hca t).2 (.inr (.inl h1)), u, (logT_cut b k hcb u).2 (.inr (.inl h2)), h3⟩
      · exact ⟨_, (logT_cut a k hca _).2 (.inl rfl), _, (logT_cut b k hcb _).2 (.inl rfl), hsame, hr⟩

/-- The texts of Grows' check along the turns, from the inmost outwards; the path is given from its last number on. -/
def growTT : List Turn → List Int → Int → List (List UInt8)
  | [], _, _ => []
  | _ :: _, [], _ => []
  | t :: ts, p :: ps, x => growTT ts ps x ++ (if t.left = true then [nodeT (growT ts ps x).2 p] else [nodeT p (growT ts ps x).1, nodeT p (growT ts ps x).2])
/-- The sum from which a path goes on. -/
def startOf (old : Int) (b : Bool) (ps : List Int) : Int := if b = true then old else ps.getLastD 0
/-- The texts of Grows' check. -/
def growTx (m lo hi : Nat) (old : Int) (b : Bool) (ps : List Int) : List (List UInt8) := growTT (turnR m lo hi b).1 ps (startOf old (turnR m lo hi b).2.1 ps)

theorem startOf_cons (old p : Int) (b : Bool) (r : List Int) (h : b = true ∨ r ≠ []) : startOf old b (p :: r) = startOf old b r := by
  unfold startOf
  cases b with
  | true => rfl
  | false =>
    rcases h with h | h
    · cases h
    · cases r with
      | nil => exact absurd rfl h
      | cons a s => simp
theorem joinT_some {old : Int} {ps : List Int} {r : List Turn × Bool × Nat} {q : Int × Int} (h : joinT old ps r = some q) :
    q = growT r.1 ps (startOf old r.2.1 ps) ∧ ps.length = r.1.length + (if r.2.1 = true then 0 else 1) := by
  unfold joinT at h
  unfold startOf
  split at h
  · rename_i hb
    split at h
    · rename_i hl
      rw [if_pos hb, if_pos hb]
      exact ⟨(Option.some.inj h).symm, by omega⟩
    · cases h
  · rename_i hb
    split at h
    · rename_i hl
      rw [if_neg hb, if_neg hb]
      exact ⟨(Option.some.inj h).symm, by omega⟩
    · cases h

/-- By cutting. -/
theorem growTx_le (m lo hi k : Nat) (old p : Int) (b : Bool) (r : List Int) (x y : Int) (h1 : lo < m) (h2 : m < hi) (hc : IsCut (hi - lo) k) (hk : m ≤ lo + k) (hj : joinR (m - lo) k old b r = some (x, y)) :
    growTx m lo hi old b (p :: r) = growTx m lo (lo + k) old b r ++ [nodeT y p] := by
  have e := joinR_turns _ m lo (lo + k) old b r (Nat.le_refl _) h1 hk
  rw [Nat.add_sub_cancel_left, hj] at e
  obtain ⟨hq, hl⟩ := joinT_some e.symm
  unfold growTx
  rw [turnR_le m lo hi k b h1 h2 hc hk]
  generalize turnR m lo (lo + k) b = t at hq hl
  obtain ⟨ts, b', l⟩ := t
  simp only at hq hl ⊢
  rw [startOf_cons old p b' r (by
    cases b' with
    | true => exact .inl rfl
    | false => right; intro h; rw [h] at hl; simp at hl)]
  rw [growTT, if_pos rfl, ← hq]
theorem growTx_gt (m lo hi k : Nat) (old p : Int) (b : Bool) (r : List Int) (x y : Int) (h1 : lo + k < m) (h2 : m < hi) (hc : IsCut (hi - lo) k) (hj : joinR (m - (lo + k)) (hi - (lo + k)) old false r = some (x, y)) :
    growTx m lo hi old b (p :: r) = growTx m (lo + k) hi old false r ++ [nodeT p x, nodeT p y] := by
  have e := joinR_turns _ m (lo + k) hi old false r (Nat.le_refl _) h1 (by omega)
  rw [hj] at e
  obtain ⟨hq, hl⟩ := joinT_some e.symm
  unfold growTx
  rw [turnR_gt m lo hi k b h1 h2 hc]
  generalize turnR m (lo + k) hi false = t at hq hl
  obtain ⟨ts, b', l⟩ := t
  simp only at hq hl ⊢
  rw [startOf_cons old p b' r (by
    cases b' with
    | true => exact .inl rfl
    | false => right; intro h; rw [h] at hl; simp at hl)]
  rw [growTT, if_neg (by simp), ← hq]

/-- P10: a path that joins the root of a log that is not the beginning of another with the other's root: two texts of the logs and of the check. -/
theorem twins_there (f : Nat) : ∀ (a b : List (List UInt8)) (m lo hi : Nat) (old : Int) (w : Bool) (ps : List Int), hi - lo ≤ f → lo < m → m ≤ hi → a.length = m - lo → b.length = hi - lo → Bd old → (∀ p ∈ ps, Bd p) →
    joinR (m - lo) (hi - lo) old w ps = some (rootE a, rootE b) → a ≠ b.take (m - lo) →
    ∃ t u, (t ∈ logT a ∨ t ∈ logT b ∨ t ∈ growTx m lo hi old w ps) ∧ (u ∈ logT a ∨ u ∈ logT b ∨ u ∈ growTx m lo hi old w ps) ∧ Two t u := by
  induction f with
  | zero => intro a b m lo hi old w ps h; omega
  | succ f ih =>
    intro a b m lo hi old w ps hf h1 h2 ha hb ho hbd hj hne
    by_cases he : m = hi
    · subst he
      rw [List.take_of_length_le (by omega)] at hne
      have hr : rootE a = rootE b := by
        rw [joinR_end _ _ _ _ (by omega)] at hj
        split at hj
        · split at hj
          · have := Option.some.inj hj; rw [Prod.mk.injEq] at this; exact this.1.symm.trans this.2
          · cases hj
        · unfold lone at hj
          split at hj
          · have := Option.some.inj hj; rw [Prod.mk.injEq] at this; exact this.1.symm.trans this.2
          · cases hj
      obtain ⟨t, ht, u, hu, h3⟩ := logs_two (m - lo) a b ha hb hr hne
      exact ⟨t, u, .inl ht, .inr (.inl hu), h3⟩
    · have hc := cutN_is (hi - lo) (by omega)
      have hp := hc.pos
      have hlt := hc.2.1
      have hle := hc.2.2
      generalize cutN (hi - lo) = k at hc hp hlt hle
      have hcb : IsCut b.length k := by rw [hb]; exact hc
      cases ps with
      | nil => rw [joinR_nil _ _ _ _ (by omega)] at hj; cases hj
      | cons p r =>
        have hbp : Bd p := hbd p (by simp)
        have hbr : ∀ x ∈ r, Bd x := fun x hx => hbd x (by simp [hx])
        by_cases hk : m ≤ lo + k
        · rw [joinR_le _ _ k old p w r (by omega) hc (by omega), Option.map_eq_some_iff] at hj
          obtain ⟨⟨x, y⟩, hxy, hq⟩ := hj
          rw [Prod.mk.injEq] at hq
          obtain ⟨hx, hy⟩ := hq
          simp only at hx hy
          have hg := growTx_le m lo hi k old p w r x y h1 (by omega) hc hk hxy
          rw [rootE_cut b k hcb] at hy
          have hbxy : Bd x ∧ Bd y := joinR_bd ho hbr hxy
          by_cases hsame : nodeT y p = nodeT (rootE (b.take k)) (rootE (b.drop k))
          · obtain ⟨e1, _⟩ := nodeT_inj hbxy.2 hbp (rootE_bd _) (rootE_bd _) hsame
            have e2 : lo + k - lo = k := by omega
            obtain ⟨t, u, ht, hu, h3⟩ := ih a (b.take k) m lo (lo + k) old w r (by omega) h1 hk ha (by rw [List.length_take]; omega) ho hbr (by rw [e2, hxy, hx, e1]) (by
              rw [List.take_take, Nat.min_eq_left (by omega)]; exact hne)
            rw [hg]
            refine ⟨t, u, ?_, ?_, h3⟩
            · rcases ht with h | h | h
              · exact .inl h
              · exact .inr (.inl ((logT_cut b k hcb t).2 (.inr (.inl h))))
              · exact .inr (.inr (List.mem_append_left _ h))
            · rcases hu with h | h | h
              · exact .inl h
              · exact .inr (.inl ((logT_cut b k hcb u).2 (.inr (.inl h))))
              · exact .inr (.inr (List.mem_append_left _ h))
          · rw [hg]
            exact ⟨nodeT y p, _, .inr (.inr (by simp)), .inr (.inl ((logT_cut b k hcb _).2 (.inl rfl))), hsame, hy⟩
        · rw [joinR_gt _ _ k old p w r hc (by omega) (by omega), Option.map_eq_some_iff, show m - lo - k = m - (lo + k) by omega, show hi - lo - k = hi - (lo + k) by omega] at hj
          obtain ⟨⟨x, y⟩, hxy, hq⟩ := hj
          rw [Prod.mk.injEq] at hq
          obtain ⟨hx, hy⟩ := hq
          simp only at hx hy
          have hg := growTx_gt m lo hi k old p w r x y (by omega) (by omega) hc hxy
          have hca : IsCut a.length k := ⟨hc.1, by omega, by omega⟩
          rw [rootE_cut a k hca] at hx
          rw [rootE_cut b k hcb] at hy
          have hbxy : Bd x ∧ Bd y := joinR_bd ho hbr hxy
          by_cases hsa : nodeT p x = nodeT (rootE (a.take k)) (rootE (a.drop k))
          · by_cases hsb : nodeT p y = nodeT (rootE (b.take k)) (rootE (b.drop k))
            · obtain ⟨ea1, ea2⟩ := nodeT_inj hbp hbxy.1 (rootE_bd _) (rootE_bd _) hsa
              obtain ⟨eb1, eb2⟩ := nodeT_inj hbp hbxy.2 (rootE_bd _) (rootE_bd _) hsb
              by_cases hl : a.take k = b.take k
              · have hd : a.drop k ≠ (b.drop k).take (m - (lo + k)) := fun h => hne (by
                  rw [← List.take_append_drop k a, hl, h, ← List.take_append_drop k (b.take (m - lo)), List.take_take, Nat.min_eq_left (by omega), List.drop_take, show m - lo - k = m - (lo + k) by omega])
                obtain ⟨t, u, ht, hu, h3⟩ := ih (a.drop k) (b.drop k) m (lo + k) hi old false r (by omega) (by omega) (by omega) (by rw [List.length_drop]; omega) (by rw [List.length_drop]; omega) ho hbr (by rw [hxy, ea2, eb2]) hd
                rw [hg]
                refine ⟨t, u, ?_, ?_, h3⟩
                · rcases ht with h | h | h
                  · exact .inl ((logT_cut a k hca t).2 (.inr (.inr h)))
                  · exact .inr (.inl ((logT_cut b k hcb t).2 (.inr (.inr h))))
                  · exact .inr (.inr (List.mem_append_left _ h))
                · rcases hu with h | h | h
                  · exact .inl ((logT_cut a k hca u).2 (.inr (.inr h)))
                  · exact .inr (.inl ((logT_cut b k hcb u).2 (.inr (.inr h))))
                  · exact .inr (.inr (List.mem_append_left _ h))
              · obtain ⟨t, ht, u, hu, h3⟩ := logs_two k (a.take k) (b.take k) (by rw [List.length_take]; omega) (by rw [List.length_take]; omega) (ea1.symm.trans eb1) hl
                exact ⟨t, u, .inl ((logT_cut a k hca t).2 (.inr (.inl ht))), .inr (.inl ((logT_cut b k hcb u).2 (.inr (.inl hu)))), h3⟩
            · rw [hg]
              exact ⟨nodeT p y, _, .inr (.inr (by simp)), .inr (.inl ((logT_cut b k hcb _).2 (.inl rfl))), hsb, hy⟩
          · rw [hg]
            exact ⟨nodeT p x, _, .inr (.inr (by simp)), .inl ((logT_cut a k hca _).2 (.inl rfl)), hsa, hx⟩

end Go.Proofs.YtedblhcehlbbmaaGreatDoor


/-
  THE PLAIN MATHEMATICS OF GOOD PROOFS: Path's path leads to the root; Further's path joins the beginning's root with the whole's. Nothing of the translation is imported.
-/
namespace Go.Proofs.YtedblhcehlbbmaaGreatDoor
set_option maxRecDepth 20000

theorem path_leads (n : Nat) : ∀ (xs : List Int) (i : Nat) (h : i < xs.length), xs.length = n → leadR n i xs[i] (pathR xs i) = some (top xs) := by
  induction n using Nat.strongRecOn with
  | ind n ih =>
    intro xs i h hn
    by_cases h1 : n = 1
    · subst h1
      match xs, hn with
      | [a], _ =>
        have hi : i = 0 := by simp at h; omega
        subst hi
        rw [pathR_short _ _ (by simp), leadR_one _ _ _ _ (Nat.le_refl _), if_pos rfl, top_one]; rfl
    · have hc := cutN_is n (by omega)
      have hp := hc.pos
      have hlt := hc.2.1
      generalize cutN n = k at hc hp hlt
      rw [path_cut n xs k i hn hc (by omega), top_cut n xs k hn hc]
      by_cases hk : i < k
      · rw [if_pos hk, lead_cut n k i _ _ _ hc (by omega), if_pos hk]
        have hl : (xs.take k).length = k := by rw [List.length_take]; omega
        have e := ih k (by omega) (xs.take k) i (by omega) hl
        rw [List.getElem_take] at e
        rw [e]; rfl
      · rw [if_neg hk, lead_cut n k i _ _ _ hc (by omega), if_neg hk]
        have hl : (xs.drop k).length = n - k := by rw [List.length_drop]; omega
        have e := ih (n - k) (by omega) (xs.drop k) (i - k) (by omega) hl
        rw [List.getElem_drop] at e
        have e1 : k + (i - k) = i := by omega
        simp only [e1] at e
        rw [e]; rfl

theorem fur_joins (n : Nat) : ∀ (xs : List Int) (m : Nat) (b : Bool) (old : Int), xs.length = n → 1 ≤ m → m ≤ n → (b = true → old = top (xs.take m)) →
    joinR m n old b (furR xs m b).reverse = some (top (xs.take m), top xs) := by
  induction n using Nat.strongRecOn with
  | ind n ih =>
    intro xs m b old hn h1 h2 ho
    by_cases he : m = n
    · subst he
      rw [joinR_end _ _ _ _ h1, furR_end _ _ _ (by omega) (by omega)]
      rw [List.take_of_length_le (by omega)] at ho ⊢
      cases b with
      | true => rw [if_pos rfl, if_pos rfl, ho rfl]; rfl
      | false => rfl
    · have hc := cutN_is n (by omega)
      have hp := hc.pos
      have hlt := hc.2.1
      have hle := hc.2.2
      generalize cutN n = k at hc hp hlt hle
      have hcx : IsCut xs.length k := by rw [hn]; exact hc
      by_cases hk : m ≤ k
      · rw [furR_le xs m k b h1 hcx hk, List.reverse_append, List.reverse_singleton, List.singleton_append, joinR_le m n k old _ b _ h1 hc hk]
        have e := ih k (by omega) (xs.take k) m b old (by rw [List.length_take]; omega) h1 hk (fun hb => by rw [List.take_take, Nat.min_eq_left hk]; exact ho hb)
        rw [List.take_take, Nat.min_eq_left hk] at e
        rw [e, top_cut n xs k hn hc]; rfl
      · rw [furR_gt xs m k b hcx (by omega) (by omega), List.reverse_append, List.reverse_singleton, List.singleton_append, joinR_gt m n k old _ b _ hc (by omega) (by omega)]
        have e := ih (n - k) (by omega) (xs.drop k) (m - k) false old (by rw [List.length_drop]; omega) (by omega) (by omega) (fun hb => by cases hb)
        have hcm : IsCut m k := ⟨hc.1, by omega, by omega⟩
        have hlm : (xs.take m).length = m := by rw [List.length_take]; omega
        rw [e, top_cut n xs k hn hc, top_cut m (xs.take m) k hlm hcm, List.take_take, Nat.min_eq_left (by omega), List.drop_take]; rfl

theorem fur_bd (n : Nat) : ∀ (xs : List Int) (m : Nat) (b : Bool), xs.length = n → 1 ≤ m → m ≤ n → (∀ x ∈ xs, Bd x) → ∀ x ∈ furR xs m b, Bd x := by
  induction n using Nat.strongRecOn with
  | ind n ih =>
    intro xs m b hn h1 h2 hb x hx
    by_cases he : m = n
    · subst he
      rw [furR_end _ _ _ (by omega) (by omega)] at hx
      split at hx
      · simp at hx
      · simp only [List.mem_singleton] at hx; subst hx; exact top_bd _ hb
    · have hc := cutN_is n (by omega)
      have hp := hc.pos
      have hlt := hc.2.1
      generalize cutN n = k at hc hp hlt
      have hcx : IsCut xs.length k := by rw [hn]; exact hc
      by_cases hk : m ≤ k
      · rw [furR_le xs m k b h1 hcx hk] at hx
        rcases List.mem_append.1 hx with hx | hx
        · exact ih k (by omega) (xs.take k) m b (by rw [List.length_take]; omega) h1 hk (fun y hy => hb y (List.mem_of_mem_take hy)) x hx
        · simp only [List.mem_singleton] at hx; subst hx; exact top_bd _ (fun y hy => hb y (List.mem_of_mem_drop hy))
      · rw [furR_gt xs m k b hcx (by omega) (by omega)] at hx
        rcases List.mem_append.1 hx with hx | hx
        · exact ih (n - k) (by omega) (xs.drop k) (m - k) false (by rw [List.length_drop]; omega) (by omega) (by omega) (fun y hy => hb y (List.mem_of_mem_drop hy)) x hx
        · simp only [List.mem_singleton] at hx; subst hx; exact top_bd _ (fun y hy => hb y (List.mem_of_mem_take hy))

end Go.Proofs.YtedblhcehlbbmaaGreatDoor

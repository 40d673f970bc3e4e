/-
  THE PLAIN MATHEMATICS OF BEGINNINGS: the path that joins a log's beginning with the whole, by cutting, and by the list of turns from the whole down to where the beginning ends. Nothing of the translation is imported.
-/
import Derived.Test.YtedblhcehlbbmabDoorMathTree
namespace Go.Proofs.YtedblhcehlbbmabDoor

/-- Where n entries are cut. -/
def cutN (n : Nat) : Nat := 2 ^ Nat.log2 (n - 1)
theorem cutN_is (n : Nat) (h : 1 < n) : IsCut n (cutN n) := by
  have h0 : n - 1 ≠ 0 := by omega
  have h1 : 2 ^ Nat.log2 (n - 1) ≤ n - 1 := Nat.log2_self_le h0
  have h2 : n - 1 < 2 ^ (Nat.log2 (n - 1) + 1) := Nat.lt_log2_self
  rw [Nat.pow_succ] at h2
  exact ⟨⟨_, rfl⟩, by unfold cutN; omega, by unfold cutN; omega⟩
theorem cutN_of {n k : Nat} (h : IsCut n k) : cutN n = k := (cutN_is n h.pos.2).unique h

/-- A part of a list. -/
def part {α : Type} (l : List α) (lo hi : Nat) : List α := (l.drop lo).take (hi - lo)
theorem length_part {α : Type} (l : List α) (lo hi : Nat) (h : hi ≤ l.length) : (part l lo hi).length = hi - lo := by
  unfold part; rw [List.length_take, List.length_drop]; omega
theorem part_take {α : Type} (l : List α) (lo hi k : Nat) (h : lo + k ≤ hi) : (part l lo hi).take k = part l lo (lo + k) := by
  unfold part; rw [List.take_take]; congr 1; omega
theorem part_drop {α : Type} (l : List α) (lo hi k : Nat) : (part l lo hi).drop k = part l (lo + k) hi := by
  unfold part; rw [List.drop_take, List.drop_drop]; congr 1; omega
theorem part_all {α : Type} (l : List α) : part l 0 l.length = l := by unfold part; simp

/-- Further, by cutting: of a list of entries' sums, with so many cuts to go at most. -/
def furF : Nat → List Int → Nat → Bool → List Int
  | 0, _, _, _ => []
  | f + 1, xs, m, whole =>
    if xs.length ≤ m then (if whole = true then [] else [top xs])
    else if m ≤ cutN xs.length then furF f (xs.take (cutN xs.length)) m whole ++ [top (xs.drop (cutN xs.length))]
    else furF f (xs.drop (cutN xs.length)) (m - cutN xs.length) false ++ [top (xs.take (cutN xs.length))]
def furR (xs : List Int) (m : Nat) (whole : Bool) : List Int := furF xs.length xs m whole

theorem furF_eq (f : Nat) : ∀ (g : Nat) (xs : List Int) (m : Nat) (b : Bool), 1 ≤ m → 1 ≤ xs.length → xs.length ≤ f → xs.length ≤ g → furF f xs m b = furF g xs m b := by
  induction f with
  | zero => intro g xs m b _ h1 h2; omega
  | succ f ih =>
    intro g xs m b hm h1 hf hg
    cases g with
    | zero => omega
    | succ g =>
      simp only [furF]
      by_cases he : xs.length ≤ m
      · rw [if_pos he, if_pos he]
      · rw [if_neg he, if_neg he]
        have hc := cutN_is xs.length (by omega)
        have hp := hc.pos
        have hl := hc.2.1
        by_cases hk : m ≤ cutN xs.length
        · rw [if_pos hk, if_pos hk, ih g _ _ _ hm (by rw [List.length_take]; omega) (by rw [List.length_take]; omega) (by rw [List.length_take]; omega)]
        · rw [if_neg hk, if_neg hk, ih g _ _ _ (by omega) (by rw [List.length_drop]; omega) (by rw [List.length_drop]; omega) (by rw [List.length_drop]; omega)]

theorem furR_end (xs : List Int) (m : Nat) (b : Bool) (h : xs.length ≤ m) (h1 : 1 ≤ xs.length) : furR xs m b = if b = true then [] else [top xs] := by
  unfold furR
  obtain ⟨f, hf⟩ : ∃ f, xs.length = f + 1 := ⟨xs.length - 1, by omega⟩
  rw [hf, furF, if_pos h]
theorem furR_le (xs : List Int) (m k : Nat) (b : Bool) (hm : 1 ≤ m) (hc : IsCut xs.length k) (hk : m ≤ k) : furR xs m b = furR (xs.take k) m b ++ [top (xs.drop k)] := by
  have hp := hc.pos
  have hl := hc.2.1
  unfold furR
  obtain ⟨f, hf⟩ : ∃ f, xs.length = f + 1 := ⟨xs.length - 1, by omega⟩
  rw [hf, furF, if_neg (by omega), cutN_of hc, if_pos hk, furF_eq f (xs.take k).length (xs.take k) m b hm (by rw [List.length_take]; omega) (by rw [List.length_take]; omega) (Nat.le_refl _)]
theorem furR_gt (xs : List Int) (m k : Nat) (b : Bool) (hc : IsCut xs.length k) (hk : k < m) (hm : m < xs.length) : furR xs m b = furR (xs.drop k) (m - k) false ++ [top (xs.take k)] := by
  have hp := hc.pos
  have hl := hc.2.1
  unfold furR
  obtain ⟨f, hf⟩ : ∃ f, xs.length = f + 1 := ⟨xs.length - 1, by omega⟩
  rw [hf, furF, if_neg (by omega), cutN_of hc, if_neg (by omega), furF_eq f (xs.drop k).length (xs.drop k) (m - k) false (by omega) (by rw [List.length_drop]; omega) (by rw [List.length_drop]; omega) (Nat.le_refl _)]

theorem length_furF (f : Nat) : ∀ (xs : List Int) (m : Nat) (b : Bool), (furF f xs m b).length ≤ f := by
  induction f with
  | zero => intro xs m b; simp [furF]
  | succ f ih =>
    intro xs m b
    simp only [furF]
    split
    · split <;> simp
    · split
      · have := ih (xs.take (cutN xs.length)) m b; simp; omega
      · have := ih (xs.drop (cutN xs.length)) (m - cutN xs.length) false; simp; omega
theorem length_furR (xs : List Int) (m : Nat) (b : Bool) : (furR xs m b).length ≤ xs.length := length_furF _ _ _ _

/-- A turn: to the left? from where to where the other part goes. -/
structure Turn where
  left : Bool
  lo : Nat
  hi : Nat

/-- The turns, and whether the part behind them is the old log as a whole, and from where it goes. -/
def turnF : Nat → Nat → Nat → Nat → Bool → List Turn × Bool × Nat
  | 0, _, lo, _, b => ([], b, lo)
  | f + 1, m, lo, hi, b =>
    if hi ≤ m then ([], b, lo)
    else if m ≤ lo + cutN (hi - lo) then
      (⟨true, lo + cutN (hi - lo), hi⟩ :: (turnF f m lo (lo + cutN (hi - lo)) b).1, (turnF f m lo (lo + cutN (hi - lo)) b).2)
    else (⟨false, lo, lo + cutN (hi - lo)⟩ :: (turnF f m (lo + cutN (hi - lo)) hi false).1, (turnF f m (lo + cutN (hi - lo)) hi false).2)
def turnR (m lo hi : Nat) (b : Bool) : List Turn × Bool × Nat := turnF (hi - lo) m lo hi b

theorem turnF_eq (f : Nat) : ∀ (g m lo hi : Nat) (b : Bool), lo < m → m ≤ hi → hi - lo ≤ f → hi - lo ≤ g → turnF f m lo hi b = turnF g m lo hi b := by
  induction f with
  | zero => intro g m lo hi b h1 h2 hf; omega
  | succ f ih =>
    intro g m lo hi b h1 h2 hf hg
    cases g with
    | zero => omega
    | succ g =>
      simp only [turnF]
      by_cases he : hi ≤ m
      · rw [if_pos he, if_pos he]
      · rw [if_neg he, if_neg he]
        have hc := cutN_is (hi - lo) (by omega)
        have hp := hc.pos
        have hl := hc.2.1
        by_cases hk : m ≤ lo + cutN (hi - lo)
        · rw [if_pos hk, if_pos hk, ih g _ _ _ _ h1 hk (by omega) (by omega)]
        · rw [if_neg hk, if_neg hk, ih g _ _ _ _ (by omega) h2 (by omega) (by omega)]

theorem turnR_end (m lo : Nat) (b : Bool) : turnR m lo m b = ([], b, lo) := by
  unfold turnR
  cases m - lo with
  | zero => rfl
  | succ f => rw [turnF, if_pos (Nat.le_refl _)]
theorem turnR_le (m lo hi k : Nat) (b : Bool) (h1 : lo < m) (h2 : m < hi) (hc : IsCut (hi - lo) k) (hk : m ≤ lo + k) :
    turnR m lo hi b = (⟨true, lo + k, hi⟩ :: (turnR m lo (lo + k) b).1, (turnR m lo (lo + k) b).2) := by
  have hl := hc.2.1
  unfold turnR
  obtain ⟨f, hf⟩ : ∃ f, hi - lo = f + 1 := ⟨hi - lo - 1, by omega⟩
  rw [turnF_eq (hi - lo) (f + 1) m lo hi b h1 (by omega) (Nat.le_refl _) (by omega), turnF, if_neg (by omega), cutN_of hc, if_pos hk,
    turnF_eq f (lo + k - lo) m lo (lo + k) b h1 hk (by omega) (Nat.le_refl _)]
theorem turnR_gt (m lo hi k : Nat) (b : Bool) (h1 : lo + k < m) (h2 : m < hi) (hc : IsCut (hi - lo) k) :
    turnR m lo hi b = (⟨false, lo, lo + k⟩ :: (turnR m (lo + k) hi false).1, (turnR m (lo + k) hi false).2) := by
  have hl := hc.2.1
  have hp := hc.pos
  unfold turnR
  obtain ⟨f, hf⟩ : ∃ f, hi - lo = f + 1 := ⟨hi - lo - 1, by omega⟩
  rw [turnF_eq (hi - lo) (f + 1) m lo hi b (by omega) (by omega) (Nat.le_refl _) (by omega), turnF, if_neg (by omega), cutN_of hc, if_neg (by omega),
    turnF_eq f (hi - (lo + k)) m (lo + k) hi false h1 (by omega) (by omega) (Nat.le_refl _)]

/-- All turns lie within the log; there are no more of them than entries; the part behind them begins ahead of m. -/
theorem turnR_in (n : Nat) : ∀ (m lo hi : Nat) (b : Bool), hi - lo ≤ n → lo < m → m ≤ hi →
    (∀ t ∈ (turnR m lo hi b).1, t.lo < t.hi ∧ t.hi ≤ hi) ∧ (turnR m lo hi b).1.length ≤ hi - lo - 1 ∧ (turnR m lo hi b).2.2 < m := by
  induction n with
  | zero => intro m lo hi b h; omega
  | succ n ih =>
    intro m lo hi b hn h1 h2
    by_cases he : hi = m
    · subst he; rw [turnR_end]; exact ⟨by simp, by simp, h1⟩
    · have hc := cutN_is (hi - lo) (by omega)
      have hp := hc.pos
      have hl := hc.2.1
      generalize cutN (hi - lo) = k at hc hp hl
      by_cases hk : m ≤ lo + k
      · rw [turnR_le m lo hi k b h1 (by omega) hc hk]
        obtain ⟨i1, i2, i3⟩ := ih m lo (lo + k) b (by omega) h1 hk
        refine ⟨fun t ht => ?_, by simp only [List.length_cons]; omega, i3⟩
        rcases List.mem_cons.1 ht with rfl | ht
        · exact ⟨by show lo + k < hi; omega, Nat.le_refl _⟩
        · have := i1 t ht; omega
      · rw [turnR_gt m lo hi k b (by omega) (by omega) hc]
        obtain ⟨i1, i2, i3⟩ := ih m (lo + k) hi false (by omega) (by omega) h2
        refine ⟨fun t ht => ?_, by simp only [List.length_cons]; omega, i3⟩
        rcases List.mem_cons.1 ht with rfl | ht
        · exact ⟨by show lo < lo + k; omega, by show lo + k ≤ hi; omega⟩
        · exact i1 t ht

/-- What Further answers, out of the turns. -/
def furT (xs : List Int) (m : Nat) (r : List Turn × Bool × Nat) : List Int :=
  (if r.2.1 = true then [] else [top (part xs r.2.2 m)]) ++ (r.1.map fun t => top (part xs t.lo t.hi)).reverse

theorem furR_turns (n : Nat) : ∀ (xs : List Int) (m lo hi : Nat) (b : Bool), hi - lo ≤ n → lo < m → m ≤ hi → hi ≤ xs.length →
    furR (part xs lo hi) (m - lo) b = furT xs m (turnR m lo hi b) := by
  induction n with
  | zero => intro xs m lo hi b h; omega
  | succ n ih =>
    intro xs m lo hi b hn h1 h2 h3
    have hpl := length_part xs lo hi h3
    by_cases he : hi = m
    · subst he; rw [turnR_end, furR_end _ _ _ (by omega) (by omega)]; simp [furT]
    · have hc := cutN_is (hi - lo) (by omega)
      have hp := hc.pos
      have hl := hc.2.1
      generalize cutN (hi - lo) = k at hc hp hl
      by_cases hk : m ≤ lo + k
      · rw [turnR_le m lo hi k b h1 (by omega) hc hk, furR_le _ _ k b (by omega) (by rw [hpl]; exact hc) (by omega), part_take _ _ _ _ (by omega), part_drop, ih xs m lo (lo + k) b (by omega) h1 hk (by omega)]
        simp [furT]
      · rw [turnR_gt m lo hi k b (by omega) (by omega) hc, furR_gt _ _ k b (by rw [hpl]; exact hc) (by omega) (by omega), part_take _ _ _ _ (by omega), part_drop, show m - lo - k = m - (lo + k) by omega, ih xs m (lo + k) hi false (by omega) (by omega) h2 h3]
        simp [furT]
theorem furR_all (xs : List Int) (m : Nat) (h1 : 1 ≤ m) (h2 : m ≤ xs.length) : furR xs m true = furT xs m (turnR m 0 xs.length true) := by
  have := furR_turns xs.length xs m 0 xs.length true (by omega) (by omega) h2 (Nat.le_refl _)
  rwa [part_all, Nat.sub_zero] at this

/-- Of a path of just one number, this twice. -/
def lone : List Int → Option (Int × Int)
  | [p] => some (p, p)
  | _ => none
/-- What a path joins; the path is given from its last number on. -/
def joinF : Nat → Nat → Nat → Int → Bool → List Int → Option (Int × Int)
  | 0, _, _, _, _, _ => none
  | f + 1, m, n, old, b, ps =>
    if n ≤ m then (if b = true then (if ps = [] then some (old, old) else none) else lone ps)
    else match ps with
      | [] => none
      | p :: r => if m ≤ cutN n then (joinF f m (cutN n) old b r).map (fun q => (q.1, node q.2 p))
        else (joinF f (m - cutN n) (n - cutN n) old false r).map (fun q => (node p q.1, node p q.2))
def joinR (m n : Nat) (old : Int) (b : Bool) (ps : List Int) : Option (Int × Int) := joinF n m n old b ps

theorem joinF_eq (f : Nat) : ∀ (g m n : Nat) (old : Int) (b : Bool) (ps : List Int), 1 ≤ m → m ≤ n → n ≤ f → n ≤ g → joinF f m n old b ps = joinF g m n old b ps := by
  induction f with
  | zero => intro g m n old b ps h1 h2 hf; omega
  | succ f ih =>
    intro g m n old b ps h1 h2 hf hg
    cases g with
    | zero => omega
    | succ g =>
      simp only [joinF]
      by_cases he : n ≤ m
      · rw [if_pos he, if_pos he]
      · rw [if_neg he, if_neg he]
        have hc := cutN_is n (by omega)
        have hp := hc.pos
        have hl := hc.2.1
        cases ps with
        | nil => rfl
        | cons p r =>
          by_cases hk : m ≤ cutN n
          · simp only [if_pos hk]; rw [ih g m (cutN n) old b r h1 hk (by omega) (by omega)]
          · simp only [if_neg hk]; rw [ih g (m - cutN n) (n - cutN n) old false r (by omega) (by omega) (by omega) (by omega)]

theorem joinR_end (m : Nat) (old : Int) (b : Bool) (ps : List Int) (h : 1 ≤ m) :
    joinR m m old b ps = if b = true then (if ps = [] then some (old, old) else none) else lone ps := by
  unfold joinR
  obtain ⟨f, rfl⟩ : ∃ f, m = f + 1 := ⟨m - 1, by omega⟩
  cases ps <;> rw [joinF, if_pos (Nat.le_refl _)]
theorem joinR_nil (m n : Nat) (old : Int) (b : Bool) (h : m < n) : joinR m n old b [] = none := by
  unfold joinR
  obtain ⟨f, rfl⟩ : ∃ f, n = f + 1 := ⟨n - 1, by omega⟩
  rw [joinF, if_neg (by omega)]
theorem joinR_le (m n k : Nat) (old p : Int) (b : Bool) (r : List Int) (h1 : 1 ≤ m) (hc : IsCut n k) (hk : m ≤ k) :
    joinR m n old b (p :: r) = (joinR m k old b r).map (fun q => (q.1, node q.2 p)) := by
  have hl := hc.2.1
  unfold joinR
  obtain ⟨f, hf⟩ : ∃ f, n = f + 1 := ⟨n - 1, by omega⟩
  rw [joinF_eq n (f + 1) m n old b _ h1 (by omega) (Nat.le_refl _) (by omega), joinF, if_neg (by omega), cutN_of hc]
  simp only [if_pos hk]
  rw [joinF_eq f k m k old b r h1 hk (by omega) (Nat.le_refl _)]
theorem joinR_gt (m n k : Nat) (old p : Int) (b : Bool) (r : List Int) (hc : IsCut n k) (hk : k < m) (hm : m < n) :
    joinR m n old b (p :: r) = (joinR (m - k) (n - k) old false r).map (fun q => (node p q.1, node p q.2)) := by
  have hl := hc.2.1
  have hp := hc.pos
  unfold joinR
  obtain ⟨f, hf⟩ : ∃ f, n = f + 1 := ⟨n - 1, by omega⟩
  rw [joinF_eq n (f + 1) m n old b _ (by omega) (by omega) (Nat.le_refl _) (by omega), joinF, if_neg (by omega), cutN_of hc]
  simp only [if_neg (show ¬ m ≤ k by omega)]
  rw [joinF_eq f (n - k) (m - k) (n - k) old false r (by omega) (by omega) (by omega) (Nat.le_refl _)]

/-- The two sums along the turns, from the inmost outwards; the path is given from its last number on. -/
def growT : List Turn → List Int → Int → Int × Int
  | [], _, x => (x, x)
  | _ :: _, [], x => (x, x)
  | t :: ts, p :: ps, x => if t.left = true then ((growT ts ps x).1, node (growT ts ps x).2 p) else (node p (growT ts ps x).1, node p (growT ts ps x).2)

/-- What a path joins, out of the turns. -/
def joinT (old : Int) (ps : List Int) (r : List Turn × Bool × Nat) : Option (Int × Int) :=
  if r.2.1 = true then (if ps.length = r.1.length then some (growT r.1 ps old) else none)
  else (if ps.length = r.1.length + 1 then some (growT r.1 ps (ps.getLastD 0)) else none)

theorem joinR_turns (f : Nat) : ∀ (m lo hi : Nat) (old : Int) (b : Bool) (ps : List Int), hi - lo ≤ f → lo < m → m ≤ hi →
    joinR (m - lo) (hi - lo) old b ps = joinT old ps (turnR m lo hi b) := by
  induction f with
  | zero => intro m lo hi old b ps h; omega
  | succ f ih =>
    intro m lo hi old b ps hf h1 h2
    by_cases he : hi = m
    · subst he
      rw [turnR_end, joinR_end _ _ _ _ (by omega)]
      cases b with
      | true =>
        cases ps with
        | nil => simp [joinT, growT]
        | cons p r => simp [joinT]
      | false =>
        match ps with
        | [] => simp [joinT, lone]
        | [p] => simp [joinT, growT, lone]
        | p :: q :: r => simp [joinT, lone]
    · have hc := cutN_is (hi - lo) (by omega)
      have hp := hc.pos
      have hl := hc.2.1
      generalize cutN (hi - lo) = k at hc hp hl
      by_cases hk : m ≤ lo + k
      · rw [turnR_le m lo hi k b h1 (by omega) hc hk]
        cases ps with
        | nil => rw [joinR_nil _ _ _ _ (by omega)]; simp [joinT]
        | cons p r =>
          rw [joinR_le _ _ k old p b r (by omega) hc (by omega)]
          have e := ih m lo (lo + k) old b r (by omega) h1 hk
          rw [Nat.add_sub_cancel_left] at e
          rw [e]
          unfold joinT
          generalize turnR m lo (lo + k) b = t
          obtain ⟨ts, b', l⟩ := t
          simp only
          cases b' with
          | true => by_cases hlen : r.length = ts.length <;> simp [hlen, growT]
          | false =>
            by_cases hlen : r.length = ts.length + 1
            · have : r ≠ [] := fun e => by simp [e] at hlen
              simp only [hlen, List.length_cons, if_pos, growT]
              cases r with
              | nil => exact absurd rfl this
              | cons a s => simp
            · simp [hlen]
      · rw [turnR_gt m lo hi k b (by omega) (by omega) hc]
        cases ps with
        | nil => rw [joinR_nil _ _ _ _ (by omega)]; simp [joinT]
        | cons p r =>
          rw [joinR_gt _ _ k old p b r hc (by omega) (by omega)]
          have e := ih m (lo + k) hi old false r (by omega) (by omega) h2
          rw [show m - lo - k = m - (lo + k) by omega, show hi - lo - k = hi - (lo + k) by omega, e]
          unfold joinT
          generalize turnR m (lo + k) hi false = t
          obtain ⟨ts, b', l⟩ := t
          simp only
          cases b' with
          | true => by_cases hlen : r.length = ts.length <;> simp [hlen, growT]
          | false =>
            by_cases hlen : r.length = ts.length + 1
            · have : r ≠ [] := fun e => by simp [e] at hlen
              simp only [hlen, List.length_cons, if_pos, growT]
              cases r with
              | nil => exact absurd rfl this
              | cons a s => simp
            · simp [hlen]
theorem joinR_all (m n : Nat) (old : Int) (ps : List Int) (h1 : 1 ≤ m) (h2 : m ≤ n) : joinR m n old true ps = joinT old ps (turnR m 0 n true) :=
  joinR_turns n m 0 n old true ps (by omega) (by omega) h2

theorem growT_bd : ∀ (ts : List Turn) (ps : List Int) (x : Int), Bd x → Bd (growT ts ps x).1 ∧ Bd (growT ts ps x).2
  | [], _, x, h => ⟨h, h⟩
  | _ :: _, [], x, h => ⟨h, h⟩
  | t :: ts, p :: ps, x, h => by
    have ih := growT_bd ts ps x h
    simp only [growT]
    split
    · exact ⟨ih.1, node_bd _ _⟩
    · exact ⟨node_bd _ _, node_bd _ _⟩
theorem joinF_bd (f : Nat) : ∀ (m n : Nat) (old : Int) (b : Bool) (ps : List Int) (q : Int × Int), Bd old → (∀ p ∈ ps, Bd p) → joinF f m n old b ps = some q → Bd q.1 ∧ Bd q.2 := by
  induction f with
  | zero => intro m n old b ps q _ _ h; simp [joinF] at h
  | succ f ih =>
    intro m n old b ps q ho hps h
    simp only [joinF] at h
    split at h
    · split at h
      · split at h
        · cases h; exact ⟨ho, ho⟩
        · cases h
      · unfold lone at h
        split at h
        · cases h; exact ⟨hps _ (by simp), hps _ (by simp)⟩
        · cases h
    · split at h
      · cases h
      · rename_i p r
        split at h
        · rw [Option.map_eq_some_iff] at h
          obtain ⟨s, hs, rfl⟩ := h
          have := ih _ _ _ _ _ _ ho (fun x hx => hps x (by simp [hx])) hs
          exact ⟨this.1, node_bd _ _⟩
        · rw [Option.map_eq_some_iff] at h
          obtain ⟨s, hs, rfl⟩ := h
          exact ⟨node_bd _ _, node_bd _ _⟩
theorem joinR_bd {m n : Nat} {old : Int} {b : Bool} {ps : List Int} {q : Int × Int} (ho : Bd old) (hps : ∀ p ∈ ps, Bd p) (h : joinR m n old b ps = some q) : Bd q.1 ∧ Bd q.2 := joinF_bd _ _ _ _ _ _ _ ho hps h

end Go.Proofs.YtedblhcehlbbmabDoor

/-
  THE PLAIN MATHEMATICS OF WHAT GIVES A FALSE PROOF AWAY: the texts of a log and of a check, by cutting and a row at a time; a false proof leaves two texts with one sum. Nothing of the translation is imported.
-/
import Derived.Test.YtedblhcehlbbmabDoorMathJoin
namespace Go.Proofs.YtedblhcehlbbmabDoor

/-- Two bytes tell a number below 65536. -/
theorem two_inj {a b : Int} (ha : Bd a) (hb : Bd b) (h : two a = two b) : a = b := by
  unfold two at h
  have h1 := (List.cons.inj h).1
  have h2 := (List.cons.inj (List.cons.inj h).2).1
  obtain ⟨ha1, ha2⟩ := ha
  obtain ⟨hb1, hb2⟩ := hb
  have e1 : ((a % 256).toNat) % 256 = ((b % 256).toNat) % 256 := by
    have := congrArg UInt8.toNat h1
    simpa [UInt8.toNat_ofNat'] using this
  have e2 : ((a / 256).toNat) % 256 = ((b / 256).toNat) % 256 := by
    have := congrArg UInt8.toNat h2
    simpa [UInt8.toNat_ofNat'] using this
  omega
theorem nodeT_inj {a b c d : Int} (ha : Bd a) (hb : Bd b) (hc : Bd c) (hd : Bd d) (h : nodeT a b = nodeT c d) : a = c ∧ b = d := by
  unfold nodeT at h
  have h1 := (List.cons.inj h).2
  have h2 := List.append_inj h1 (by rw [length_two, length_two])
  exact ⟨two_inj ha hc h2.1, two_inj hb hd h2.2⟩
theorem entT_inj {a b : List UInt8} (h : entT a = entT b) : a = b := (List.cons.inj h).2

/-- Of a log, given by its entries: the sums of the entries. -/
def lvE (es : List (List UInt8)) : List Int := es.map ent
theorem lvE_bd (es : List (List UInt8)) : ∀ x ∈ lvE es, Bd x := by
  intro x hx
  obtain ⟨s, _, rfl⟩ := List.mem_map.1 hx
  exact ent_bd _
theorem length_lvE (es : List (List UInt8)) : (lvE es).length = es.length := by simp [lvE]
def rootE (es : List (List UInt8)) : Int := top (lvE es)
theorem rootE_bd (es : List (List UInt8)) : Bd (rootE es) := top_bd _ (lvE_bd es)
theorem rootE_one (e : List UInt8) : rootE [e] = ent e := top_one _
theorem rootE_cut (es : List (List UInt8)) (k : Nat) (h : IsCut es.length k) : rootE es = node (rootE (es.take k)) (rootE (es.drop k)) := by
  unfold rootE; rw [top_cut _ (lvE es) k (length_lvE es) h]; simp [lvE]

/-- The texts N.. of a row, a row at a time. -/
def rowT : List Int → List (List UInt8)
  | a :: b :: r => nodeT a b :: rowT r
  | _ => []
def rowsF : Nat → List Int → List (List UInt8)
  | 0, _ => []
  | f + 1, xs => if xs.length ≤ 1 then [] else rowT xs ++ rowsF f (raise xs)
def rowsR (xs : List Int) : List (List UInt8) := rowsF xs.length xs
theorem rowsF_eq (f : Nat) : ∀ (g : Nat) (xs : List Int), xs.length ≤ f → xs.length ≤ g → rowsF f xs = rowsF g xs := by
  induction f with
  | zero =>
    intro g xs hf hg
    cases g with
    | zero => rfl
    | succ g => simp only [rowsF]; rw [if_pos (by omega)]
  | succ f ih =>
    intro g xs hf hg
    cases g with
    | zero => simp only [rowsF]; rw [if_pos (by omega)]
    | succ g =>
      simp only [rowsF]
      by_cases h : xs.length ≤ 1
      · rw [if_pos h, if_pos h]
      · rw [if_neg h, if_neg h, ih g (raise xs) (by rw [length_raise]; omega) (by rw [length_raise]; omega)]
theorem rowsR_short (xs : List Int) (h : xs.length ≤ 1) : rowsR xs = [] := by
  unfold rowsR
  cases hl : xs.length with
  | zero => rfl
  | succ f => simp only [rowsF]; rw [if_pos h]
theorem rowsR_more (xs : List Int) (h : 1 < xs.length) : rowsR xs = rowT xs ++ rowsR (raise xs) := by
  unfold rowsR
  obtain ⟨f, hf⟩ : ∃ f, xs.length = f + 1 := ⟨xs.length - 1, by omega⟩
  rw [hf, rowsF, if_neg (by omega), rowsF_eq f (raise xs).length (raise xs) (by rw [length_raise]; omega) (Nat.le_refl _)]
theorem rowT_append : ∀ (m : Nat) (xs ys : List Int), xs.length = 2 * m → rowT (xs ++ ys) = rowT xs ++ rowT ys
  | 0, xs, ys, h => by obtain rfl : xs = [] := List.eq_nil_of_length_eq_zero (by omega); rfl
  | m + 1, [], ys, h => by simp at h
  | m + 1, [a], ys, h => by simp at h; omega
  | m + 1, a :: b :: r, ys, h => by
    simp only [List.cons_append, rowT]
    rw [rowT_append m r ys (by simp at h; omega)]
theorem rowT_short (xs : List Int) (h : xs.length ≤ 1) : rowT xs = [] := by
  match xs, h with
  | [], _ => rfl
  | [a], _ => rfl
theorem rowsR_step (xs : List Int) : rowsR xs = rowT xs ++ rowsR (raise xs) := by
  by_cases h : 1 < xs.length
  · exact rowsR_more xs h
  · rw [rowsR_short xs (by omega), rowT_short xs (by omega), rowsR_short _ (by rw [length_raise]; omega)]; rfl
theorem rowT_cut (xs : List Int) (k' : Nat) (hk : 2 * k' ≤ xs.length) : rowT xs = rowT (xs.take (2 * k')) ++ rowT (xs.drop (2 * k')) := by
  rw [← rowT_append k' _ _ (by rw [List.length_take]; omega), List.take_append_drop]

/-- The texts N.. of a row, by cutting: the same ones, in another order. -/
theorem rows_cut (n : Nat) : ∀ (xs : List Int) (k : Nat) (t : List UInt8), xs.length = n → IsCut n k →
    (t ∈ rowsR xs ↔ t = nodeT (top (xs.take k)) (top (xs.drop k)) ∨ t ∈ rowsR (xs.take k) ∨ t ∈ rowsR (xs.drop k)) := by
  induction n using Nat.strongRecOn with
  | ind n ih =>
    intro xs k t hn hc
    have hp := hc.pos
    by_cases h2 : n = 2
    · subst h2
      obtain rfl := cut_two hc
      obtain ⟨a, b, rfl⟩ := two_of_length xs hn
      rw [rowsR_more _ (by simp), rowsR_short (raise [a, b]) (by rw [length_raise]; simp), rowsR_short ([a, b].take 1) (by simp), rowsR_short ([a, b].drop 1) (by simp)]
      simp [rowT, top_one]
    · obtain ⟨k', rfl, hc'⟩ := hc.half (by omega)
      have hlt := hc.2.1
      rw [rowsR_more xs (by omega), List.mem_append, ih ((n + 1) / 2) (by omega) (raise xs) k' t (by rw [length_raise, hn]) hc', (raise_cut xs k' (by omega)).1, (raise_cut xs k' (by omega)).2, top_raise, top_raise, rowT_cut xs k' (by omega), List.mem_append,
        rowsR_step (xs.take (2 * k')), rowsR_step (xs.drop (2 * k')), List.mem_append, List.mem_append]
      constructor
      · rintro ((h | h) | h | h | h) <;> simp [h]
      · rintro (h | (h | h) | (h | h)) <;> simp [h]

/-- The texts of a log: E and each entry; and the texts N.. of its rows. -/
def logT (es : List (List UInt8)) : List (List UInt8) := es.map entT ++ rowsR (lvE es)
theorem logT_one (e : List UInt8) (t : List UInt8) : t ∈ logT [e] ↔ t = entT e := by
  unfold logT; rw [rowsR_short _ (by rw [length_lvE]; simp)]; simp
theorem logT_nil (t : List UInt8) : ¬ t ∈ logT [] := by
  unfold logT; rw [rowsR_short _ (by rw [length_lvE]; simp)]; simp
theorem logT_cut (es : List (List UInt8)) (k : Nat) (h : IsCut es.length k) (t : List UInt8) :
    t ∈ logT es ↔ t = nodeT (rootE (es.take k)) (rootE (es.drop k)) ∨ t ∈ logT (es.take k) ∨ t ∈ logT (es.drop k) := by
  unfold logT
  have e1 : lvE (es.take k) = (lvE es).take k := by simp [lvE]
  have e2 : lvE (es.drop k) = (lvE es).drop k := by simp [lvE]
  have e3 : es.map entT = (es.take k).map entT ++ (es.drop k).map entT := by rw [← List.map_append, List.take_append_drop]
  rw [List.mem_append, rows_cut es.length (lvE es) k t (length_lvE es) h, e3, List.mem_append, List.mem_append, List.mem_append, ← e1, ← e2]
  unfold rootE
  constructor
  · rintro ((h | h) | h | h | h) <;> simp only [h, true_or, or_true]
  · rintro (h | (h | h) | (h | h)) <;> simp only [h, true_or, or_true]

/-- The texts N.. of Within's check, a row at a time. -/
def stepsF : Nat → Nat → Nat → Int → List Int → List (List UInt8)
  | 0, _, _, _, _ => []
  | f + 1, n, i, x, path =>
    if n ≤ 1 then []
    else if i % 2 = 0 ∧ i + 1 = n then stepsF f ((n + 1) / 2) (i / 2) x path
    else match path with
      | [] => []
      | p :: r => (if i % 2 = 0 then nodeT x p else nodeT p x) :: stepsF f ((n + 1) / 2) (i / 2) (if i % 2 = 0 then node x p else node p x) r
def stepsR (n i : Nat) (x : Int) (path : List Int) : List (List UInt8) := stepsF n n i x path
theorem stepsF_eq (f : Nat) : ∀ (g n i : Nat) (x : Int) (path : List Int), n ≤ f → n ≤ g → stepsF f n i x path = stepsF g n i x path := by
  induction f with
  | zero =>
    intro g n i x path hf hg
    cases g with
    | zero => rfl
    | succ g => cases path <;> simp only [stepsF] <;> rw [if_pos (show n ≤ 1 by omega)]
  | succ f ih =>
    intro g n i x path hf hg
    cases g with
    | zero => cases path <;> simp only [stepsF] <;> rw [if_pos (show n ≤ 1 by omega)]
    | succ g =>
      by_cases h1 : n ≤ 1
      · cases path <;> simp only [stepsF] <;> rw [if_pos h1, if_pos h1]
      · by_cases ha : i % 2 = 0 ∧ i + 1 = n
        · cases path <;> simp only [stepsF] <;> rw [if_neg h1, if_neg h1, if_pos ha, if_pos ha] <;> exact ih g _ _ _ _ (by omega) (by omega)
        · cases path with
          | nil => simp only [stepsF]; rw [if_neg h1, if_neg h1, if_neg ha, if_neg ha]
          | cons p r =>
            simp only [stepsF]
            rw [if_neg h1, if_neg h1, if_neg ha, if_neg ha, ih g _ _ _ _ (by omega) (by omega)]
theorem stepsR_one (n i : Nat) (x : Int) (path : List Int) (h : n ≤ 1) : stepsR n i x path = [] := by
  unfold stepsR
  cases n with
  | zero => rfl
  | succ n => cases path <;> simp only [stepsF] <;> rw [if_pos h]
theorem stepsR_alone (n i : Nat) (x : Int) (path : List Int) (h : 1 < n) (ha : i % 2 = 0 ∧ i + 1 = n) : stepsR n i x path = stepsR ((n + 1) / 2) (i / 2) x path := by
  unfold stepsR
  obtain ⟨f, rfl⟩ : ∃ f, n = f + 1 := ⟨n - 1, by omega⟩
  rw [← stepsF_eq f ((f + 1 + 1) / 2) _ _ _ _ (by omega) (Nat.le_refl _)]
  cases path <;> simp only [stepsF] <;> rw [if_neg (show ¬ f + 1 ≤ 1 by omega), if_pos ha]
theorem stepsR_cons (n i : Nat) (x p : Int) (r : List Int) (h : 1 < n) (ha : ¬ (i % 2 = 0 ∧ i + 1 = n)) :
    stepsR n i x (p :: r) = (if i % 2 = 0 then nodeT x p else nodeT p x) :: stepsR ((n + 1) / 2) (i / 2) (if i % 2 = 0 then node x p else node p x) r := by
  unfold stepsR
  obtain ⟨f, rfl⟩ : ∃ f, n = f + 1 := ⟨n - 1, by omega⟩
  rw [← stepsF_eq f ((f + 1 + 1) / 2) _ _ _ _ (by omega) (Nat.le_refl _)]
  simp only [stepsF]
  rw [if_neg (show ¬ f + 1 ≤ 1 by omega), if_neg ha]

/-- By cutting: what comes last is the text at the first cut. -/
theorem steps_cut (n : Nat) : ∀ (k i : Nat) (x p y : Int) (q : List Int), IsCut n k → i < n →
    (i < k → leadR k i x q = some y → stepsR n i x (q ++ [p]) = stepsR k i x q ++ [nodeT y p]) ∧
    (k ≤ i → leadR (n - k) (i - k) x q = some y → stepsR n i x (q ++ [p]) = stepsR (n - k) (i - k) x q ++ [nodeT p y]) := by
  induction n using Nat.strongRecOn with
  | ind n ih =>
    intro k i x p y q hc hi
    have hp := hc.pos
    by_cases h2 : n = 2
    · subst h2
      obtain rfl := cut_two hc
      match i, hi with
      | 0, _ =>
        refine ⟨fun _ hl => ?_, fun h => absurd h (by omega)⟩
        rw [leadR_one _ _ _ _ (Nat.le_refl _)] at hl
        split at hl
        · rename_i hq
          cases hl
          subst hq
          rw [List.nil_append, stepsR_cons _ _ _ _ _ (by omega) (by omega), stepsR_one _ _ _ _ (by omega), stepsR_one _ _ _ _ (by omega)]; rfl
        · cases hl
      | 1, _ =>
        refine ⟨fun h => absurd h (by omega), fun _ hl => ?_⟩
        rw [leadR_one _ _ _ _ (by omega)] at hl
        split at hl
        · rename_i hq
          cases hl
          subst hq
          rw [List.nil_append, stepsR_cons _ _ _ _ _ (by omega) (by omega), stepsR_one _ _ _ _ (by omega), stepsR_one _ _ _ _ (by omega)]; rfl
        · cases hl
    · obtain ⟨k', rfl, hc'⟩ := hc.half (by omega)
      have hlt := hc.2.1
      have hp' := hc'.pos
      by_cases ha : i % 2 = 0 ∧ i + 1 = n
      · refine ⟨fun h => absurd h (by omega), fun _ hl => ?_⟩
        rw [stepsR_alone n i x _ hp.2 ha]
        by_cases h3 : n - 2 * k' = 1
        · rw [leadR_one _ _ _ _ (show n - 2 * k' ≤ 1 by omega)] at hl
          rw [(ih _ (by omega) k' (i / 2) x p y q hc' (by omega)).2 (by omega) (by rw [leadR_one _ _ _ _ (show (n + 1) / 2 - k' ≤ 1 by omega)]; exact hl), stepsR_one _ _ _ _ (show (n + 1) / 2 - k' ≤ 1 by omega), stepsR_one _ _ _ _ (show n - 2 * k' ≤ 1 by omega)]
        · rw [leadR_alone (n - 2 * k') (i - 2 * k') x q (by omega) (by omega), show (n - 2 * k' + 1) / 2 = (n + 1) / 2 - k' by omega, show (i - 2 * k') / 2 = i / 2 - k' by omega] at hl
          rw [(ih _ (by omega) k' (i / 2) x p y q hc' (by omega)).2 (by omega) hl, stepsR_alone (n - 2 * k') (i - 2 * k') x q (by omega) (by omega), show (n - 2 * k' + 1) / 2 = (n + 1) / 2 - k' by omega, show (i - 2 * k') / 2 = i / 2 - k' by omega]
      · cases q with
        | nil =>
          refine ⟨fun h hl => ?_, fun h hl => ?_⟩
          · rw [lead_cut_nil _ _ _ (by omega) h] at hl; cases hl
          · rw [lead_cut_nil _ _ _ (by omega) (by omega)] at hl; cases hl
        | cons a q =>
          have hs := stepsR_cons n i x a (q ++ [p]) hp.2 ha
          rw [List.cons_append, hs]
          refine ⟨fun h hl => ?_, fun h hl => ?_⟩
          · rw [leadR_cons (2 * k') i x a q (by omega) (by omega), show (2 * k' + 1) / 2 = k' by omega] at hl
            rw [(ih _ (by omega) k' (i / 2) _ p y q hc' (by omega)).1 (by omega) hl, stepsR_cons (2 * k') i x a q (by omega) (by omega), show (2 * k' + 1) / 2 = k' by omega]; rfl
          · rw [leadR_cons (n - 2 * k') (i - 2 * k') x a q (by omega) (by omega), show (n - 2 * k' + 1) / 2 = (n + 1) / 2 - k' by omega, show (i - 2 * k') / 2 = i / 2 - k' by omega, show (i - 2 * k') % 2 = i % 2 by omega] at hl
            rw [(ih _ (by omega) k' (i / 2) _ p y q hc' (by omega)).2 (by omega) hl, stepsR_cons (n - 2 * k') (i - 2 * k') x a q (by omega) (by omega), show (n - 2 * k' + 1) / 2 = (n + 1) / 2 - k' by omega, show (i - 2 * k') / 2 = i / 2 - k' by omega, show (i - 2 * k') % 2 = i % 2 by omega]; rfl

/-- The texts of Within's check. -/
def pathT (n i : Nat) (e : List UInt8) (path : List Int) : List (List UInt8) := entT e :: stepsR n i (ent e) path

theorem leadR_bd' (n : Nat) : ∀ (i : Nat) (x : Int) (zs : List Int) (y : Int), Bd x → leadR n i x zs = some y → Bd y := by
  induction n using Nat.strongRecOn with
  | ind n ih =>
    intro i x zs y hx h
    by_cases h1 : n ≤ 1
    · rw [leadR_one _ _ _ _ h1] at h
      split at h
      · cases h; exact hx
      · cases h
    · by_cases ha : i % 2 = 0 ∧ i + 1 = n
      · rw [leadR_alone _ _ _ _ (by omega) ha] at h
        exact ih _ (by omega) _ _ _ _ hx h
      · cases zs with
        | nil => rw [leadR_nil _ _ _ (by omega) ha] at h; cases h
        | cons p r =>
          rw [leadR_cons _ _ _ _ _ (by omega) ha] at h
          refine ih _ (by omega) _ _ _ _ ?_ h
          split <;> exact node_bd _ _

/-- Two texts that are not the same, with one sum. -/
def Two (t u : List UInt8) : Prop := t ≠ u ∧ sm t = sm u

theorem last_of (q : List Int) (h : q ≠ []) : ∃ r p, q = r ++ [p] := by
  rcases List.eq_nil_or_concat q with rfl | ⟨r, p, rfl⟩
  · exact absurd rfl h
  · exact ⟨r, p, by rw [List.concat_eq_append]⟩

/-- P9: a path that leads, from an entry that is not there, to the root: two texts, of the check and of the log. -/
theorem twin_there (n : Nat) : ∀ (es : List (List UInt8)) (i : Nat) (e : List UInt8) (path : List Int) (hi : i < es.length), es.length = n → (∀ p ∈ path, Bd p) → leadR n i (ent e) path = some (rootE es) → e ≠ es[i] →
    ∃ t ∈ pathT n i e path, ∃ u ∈ logT es, Two t u := by
  induction n using Nat.strongRecOn with
  | ind n ih =>
    intro es i e path hi hn hb hl hne
    by_cases h1 : n = 1
    · subst h1
      obtain ⟨e', rfl⟩ : ∃ e', es = [e'] := by
        match es, hn with
        | [e'], _ => exact ⟨e', rfl⟩
      have hi0 : i = 0 := by simp at hi; omega
      subst hi0
      rw [leadR_one _ _ _ _ (Nat.le_refl _)] at hl
      split at hl
      · rw [rootE_one] at hl
        refine ⟨entT e, by simp [pathT], entT e', (logT_one e' _).2 rfl, fun h => hne (entT_inj h), ?_⟩
        exact Option.some.inj hl
      · cases hl
    · have hc := cutN_is n (by omega)
      have hp := hc.pos
      have hlt := hc.2.1
      generalize cutN n = k at hc hp hlt
      by_cases hq : path = []
      · subst hq; rw [lead_cut_nil n i _ hp.2 (by omega)] at hl; cases hl
      · obtain ⟨q, p, rfl⟩ := last_of path hq
        have hbp : Bd p := hb p (by simp)
        have hbq : ∀ x ∈ q, Bd x := fun x hx => hb x (by simp [hx])
        have hcn : IsCut es.length k := by rw [hn]; exact hc
        rw [lead_cut n k i _ p q hc (by omega), rootE_cut es k hcn] at hl
        by_cases hk : i < k
        · rw [if_pos hk, Option.map_eq_some_iff] at hl
          obtain ⟨y, hy, hyn⟩ := hl
          have hst := (steps_cut n k i (ent e) p y q hc (by omega)).1 hk hy
          by_cases hsame : nodeT y p = nodeT (rootE (es.take k)) (rootE (es.drop k))
          · have hby : Bd y := leadR_bd' k i (ent e) q y (ent_bd _) hy
            obtain ⟨rfl, _⟩ := nodeT_inj hby hbp (rootE_bd _) (rootE_bd _) hsame
            have hlk : (es.take k).length = k := by rw [List.length_take]; omega
            obtain ⟨t, ht, u, hu, h2⟩ := ih k (by omega) (es.take k) i e q (by omega) hlk hbq hy (by rw [List.getElem_take]; exact hne)
            refine ⟨t, ?_, u, (logT_cut es k hcn u).2 (.inr (.inl hu)), h2⟩
            unfold pathT at ht ⊢
            rw [hst]
            rcases List.mem_cons.1 ht with rfl | ht
            · simp
            · simp [ht]
          · refine ⟨nodeT y p, ?_, _, (logT_cut es k hcn _).2 (.inl rfl), hsame, hyn⟩
            unfold pathT; rw [hst]; simp
        · rw [if_neg hk, Option.map_eq_some_iff] at hl
          obtain ⟨y, hy, hyn⟩ := hl
          have hst := (steps_cut n k i (ent e) p y q hc (by omega)).2 (by omega) hy
          by_cases hsame : nodeT p y = nodeT (rootE (es.take k)) (rootE (es.drop k))
          · have hby : Bd y := leadR_bd' (n - k) (i - k) (ent e) q y (ent_bd _) hy
            obtain ⟨_, rfl⟩ := nodeT_inj hbp hby (rootE_bd _) (rootE_bd _) hsame
            have hlk : (es.drop k).length = n - k := by rw [List.length_drop]; omega
            obtain ⟨t, ht, u, hu, h2⟩ := ih (n - k) (by omega) (es.drop k) (i - k) e q (by omega) hlk hbq hy (by
              rw [List.getElem_drop]
              have e1 : k + (i - k) = i := by omega
              simp only [e1]; exact hne)
            refine ⟨t, ?_, u, (logT_cut es k hcn u).2 (.inr (.inr hu)), h2⟩
            unfold pathT at ht ⊢
            rw [hst]
            rcases List.mem_cons.1 ht with rfl | ht
            · simp
            · simp [ht]
          · refine ⟨nodeT p y, ?_, _, (logT_cut es k hcn _).2 (.inl rfl), hsame, hyn⟩
            unfold pathT; rw [hst]; simp

/-- Two logs of one length with one root that are not the same. -/
theorem logs_two (n : Nat) : ∀ (a b : List (List UInt8)), a.length = n → b.length = n → rootE a = rootE b → a ≠ b → ∃ t ∈ logT a, ∃ u ∈ logT b, Two t u := by
  induction n using Nat.strongRecOn with
  | ind n ih =>
    intro a b ha hb hr hne
    by_cases h0 : n = 0
    · subst h0; exact absurd ((List.eq_nil_of_length_eq_zero ha).trans (List.eq_nil_of_length_eq_zero hb).symm) hne
    by_cases h1 : n = 1
    · subst h1
      match a, ha, b, hb with
      | [x], _, [y], _ =>
        rw [rootE_one, rootE_one] at hr
        exact ⟨entT x, (logT_one x _).2 rfl, entT y, (logT_one y _).2 rfl, fun h => hne (by rw [entT_inj h]), hr⟩
    · have hc := cutN_is n (by omega)
      have hp := hc.pos
      have hlt := hc.2.1
      generalize cutN n = k at hc hp hlt
      have hca : IsCut a.length k := by rw [ha]; exact hc
      have hcb : IsCut b.length k := by rw [hb]; exact hc
      rw [rootE_cut a k hca, rootE_cut b k hcb] at hr
      by_cases hsame : nodeT (rootE (a.take k)) (rootE (a.drop k)) = nodeT (rootE (b.take k)) (rootE (b.drop k))
      · obtain ⟨e1, e2⟩ := nodeT_inj (rootE_bd _) (rootE_bd _) (rootE_bd _) (rootE_bd _) hsame
        by_cases ht : a.take k = b.take k
        · have hd : a.drop k ≠ b.drop k := fun h => hne (by rw [← List.take_append_drop k a, ht, h, List.take_append_drop])
          obtain ⟨t, h1, u, h2, h3⟩ := ih (n - k) (by omega) (a.drop k) (b.drop k) (by rw [List.length_drop]; omega) (by rw [List.length_drop]; omega) e2 hd
          exact ⟨t, (logT_cut a k hca t).2 (.inr (.inr h1)), u, (logT_cut b k hcb u).2 (.inr (.inr h2)), h3⟩
        · obtain ⟨t, h1, u, h2, h3⟩ := ih k (by omega) (a.take k) (b.take k) (by rw [List.length_take]; omega) (by rw [List.length_take]; omega) e1 ht
          exact ⟨t, (logT_cut a k hca t).2 (.inr (.inl h1)), u, (logT_cut b k hcb u).2 (.inr (.inl h2)), h3⟩
      · exact ⟨_, (logT_cut a k hca _).2 (.inl rfl), _, (logT_cut b k hcb _).2 (.inl rfl), hsame, hr⟩

/-- The texts of Grows' check along the turns, from the inmost outwards; the path is given from its last number on. -/
def growTT : List Turn → List Int → Int → List (List UInt8)
  | [], _, _ => []
  | _ :: _, [], _ => []
  | t :: ts, p :: ps, x => growTT ts ps x ++ (if t.left = true then [nodeT (growT ts ps x).2 p] else [nodeT p (growT ts ps x).1, nodeT p (growT ts ps x).2])
/-- The sum from which a path goes on. -/
def startOf (old : Int) (b : Bool) (ps : List Int) : Int := if b = true then old else ps.getLastD 0
/-- The texts of Grows' check. -/
def growTx (m lo hi : Nat) (old : Int) (b : Bool) (ps : List Int) : List (List UInt8) := growTT (turnR m lo hi b).1 ps (startOf old (turnR m lo hi b).2.1 ps)

theorem startOf_cons (old p : Int) (b : Bool) (r : List Int) (h : b = true ∨ r ≠ []) : startOf old b (p :: r) = startOf old b r := by
  unfold startOf
  cases b with
  | true => rfl
  | false =>
    rcases h with h | h
    · cases h
    · cases r with
      | nil => exact absurd rfl h
      | cons a s => simp
theorem joinT_some {old : Int} {ps : List Int} {r : List Turn × Bool × Nat} {q : Int × Int} (h : joinT old ps r = some q) :
    q = growT r.1 ps (startOf old r.2.1 ps) ∧ ps.length = r.1.length + (if r.2.1 = true then 0 else 1) := by
  unfold joinT at h
  unfold startOf
  split at h
  · rename_i hb
    split at h
    · rename_i hl
      rw [if_pos hb, if_pos hb]
      exact ⟨(Option.some.inj h).symm, by omega⟩
    · cases h
  · rename_i hb
    split at h
    · rename_i hl
      rw [if_neg hb, if_neg hb]
      exact ⟨(Option.some.inj h).symm, by omega⟩
    · cases h

/-- By cutting. -/
theorem growTx_le (m lo hi k : Nat) (old p : Int) (b : Bool) (r : List Int) (x y : Int) (h1 : lo < m) (h2 : m < hi) (hc : IsCut (hi - lo) k) (hk : m ≤ lo + k) (hj : joinR (m - lo) k old b r = some (x, y)) :
    growTx m lo hi old b (p :: r) = growTx m lo (lo + k) old b r ++ [nodeT y p] := by
  have e := joinR_turns _ m lo (lo + k) old b r (Nat.le_refl _) h1 hk
  rw [Nat.add_sub_cancel_left, hj] at e
  obtain ⟨hq, hl⟩ := joinT_some e.symm
  unfold growTx
  rw [turnR_le m lo hi k b h1 h2 hc hk]
  generalize turnR m lo (lo + k) b = t at hq hl
  obtain ⟨ts, b', l⟩ := t
  simp only at hq hl ⊢
  rw [startOf_cons old p b' r (by
    cases b' with
    | true => exact .inl rfl
    | false => right; intro h; rw [h] at hl; simp at hl)]
  rw [growTT, if_pos rfl, ← hq]
theorem growTx_gt (m lo hi k : Nat) (old p : Int) (b : Bool) (r : List Int) (x y : Int) (h1 : lo + k < m) (h2 : m < hi) (hc : IsCut (hi - lo) k) (hj : joinR (m - (lo + k)) (hi - (lo + k)) old false r = some (x, y)) :
    growTx m lo hi old b (p :: r) = growTx m (lo + k) hi old false r ++ [nodeT p x, nodeT p y] := by
  have e := joinR_turns _ m (lo + k) hi old false r (Nat.le_refl _) h1 (by omega)
  rw [hj] at e
  obtain ⟨hq, hl⟩ := joinT_some e.symm
  unfold growTx
  rw [turnR_gt m lo hi k b h1 h2 hc]
  generalize turnR m (lo + k) hi false = t at hq hl
  obtain ⟨ts, b', l⟩ := t
  simp only at hq hl ⊢
  rw [startOf_cons old p b' r (by
    cases b' with
    | true => exact .inl rfl
    | false => right; intro h; rw [h] at hl; simp at hl)]
  rw [growTT, if_neg (by simp), ← hq]

/-- P10: a path that joins the root of a log that is not the beginning of another with the other's root: two texts of the logs and of the check. -/
theorem twins_there (f : Nat) : ∀ (a b : List (List UInt8)) (m lo hi : Nat) (old : Int) (w : Bool) (ps : List Int), hi - lo ≤ f → lo < m → m ≤ hi → a.length = m - lo → b.length = hi - lo → Bd old → (∀ p ∈ ps, Bd p) →
    joinR (m - lo) (hi - lo) old w ps = some (rootE a, rootE b) → a ≠ b.take (m - lo) →
    ∃ t u, (t ∈ logT a ∨ t ∈ logT b ∨ t ∈ growTx m lo hi old w ps) ∧ (u ∈ logT a ∨ u ∈ logT b ∨ u ∈ growTx m lo hi old w ps) ∧ Two t u := by
  induction f with
  | zero => intro a b m lo hi old w ps h; omega
  | succ f ih =>
    intro a b m lo hi old w ps hf h1 h2 ha hb ho hbd hj hne
    by_cases he : m = hi
    · subst he
      rw [List.take_of_length_le (by omega)] at hne
      have hr : rootE a = rootE b := by
        rw [joinR_end _ _ _ _ (by omega)] at hj
        split at hj
        · split at hj
          · have := Option.some.inj hj; rw [Prod.mk.injEq] at this; exact this.1.symm.trans this.2
          · cases hj
        · unfold lone at hj
          split at hj
          · have := Option.some.inj hj; rw [Prod.mk.injEq] at this; exact this.1.symm.trans this.2
          · cases hj
      obtain ⟨t, ht, u, hu, h3⟩ := logs_two (m - lo) a b ha hb hr hne
      exact ⟨t, u, .inl ht, .inr (.inl hu), h3⟩
    · have hc := cutN_is (hi - lo) (by omega)
      have hp := hc.pos
      have hlt := hc.2.1
      have hle := hc.2.2
      generalize cutN (hi - lo) = k at hc hp hlt hle
      have hcb : IsCut b.length k := by rw [hb]; exact hc
      cases ps with
      | nil => rw [joinR_nil _ _ _ _ (by omega)] at hj; cases hj
      | cons p r =>
        have hbp : Bd p := hbd p (by simp)
        have hbr : ∀ x ∈ r, Bd x := fun x hx => hbd x (by simp [hx])
        by_cases hk : m ≤ lo + k
        · rw [joinR_le _ _ k old p w r (by omega) hc (by omega), Option.map_eq_some_iff] at hj
          obtain ⟨⟨x, y⟩, hxy, hq⟩ := hj
          rw [Prod.mk.injEq] at hq
          obtain ⟨hx, hy⟩ := hq
          simp only at hx hy
          have hg := growTx_le m lo hi k old p w r x y h1 (by omega) hc hk hxy
          rw [rootE_cut b k hcb] at hy
          have hbxy : Bd x ∧ Bd y := joinR_bd ho hbr hxy
          by_cases hsame : nodeT y p = nodeT (rootE (b.take k)) (rootE (b.drop k))
          · obtain ⟨e1, _⟩ := nodeT_inj hbxy.2 hbp (rootE_bd _) (rootE_bd _) hsame
            have e2 : lo + k - lo = k := by omega
            obtain ⟨t, u, ht, hu, h3⟩ := ih a (b.take k) m lo (lo + k) old w r (by omega) h1 hk ha (by rw [List.length_take]; omega) ho hbr (by rw [e2, hxy, hx, e1]) (by
              rw [List.take_take, Nat.min_eq_left (by omega)]; exact hne)
            rw [hg]
            refine ⟨t, u, ?_, ?_, h3⟩
            · rcases ht with h | h | h
              · exact .inl h
              · exact .inr (.inl ((logT_cut b k hcb t).2 (.inr (.inl h))))
              · exact .inr (.inr (List.mem_append_left _ h))
            · rcases hu with h | h | h
              · exact .inl h
              · exact .inr (.inl ((logT_cut b k hcb u).2 (.inr (.inl h))))
              · exact .inr (.inr (List.mem_append_left _ h))
          · rw [hg]
            exact ⟨nodeT y p, _, .inr (.inr (by simp)), .inr (.inl ((logT_cut b k hcb _).2 (.inl rfl))), hsame, hy⟩
        · rw [joinR_gt _ _ k old p w r hc (by omega) (by omega), Option.map_eq_some_iff, show m - lo - k = m - (lo + k) by omega, show hi - lo - k = hi - (lo + k) by omega] at hj
          obtain ⟨⟨x, y⟩, hxy, hq⟩ := hj
          rw [Prod.mk.injEq] at hq
          obtain ⟨hx, hy⟩ := hq
          simp only at hx hy
          have hg := growTx_gt m lo hi k old p w r x y (by omega) (by omega) hc hxy
          have hca : IsCut a.length k := ⟨hc.1, by omega, by omega⟩
          rw [rootE_cut a k hca] at hx
          rw [rootE_cut b k hcb] at hy
          have hbxy : Bd x ∧ Bd y := joinR_bd ho hbr hxy
          by_cases hsa : nodeT p x = nodeT (rootE (a.take k)) (rootE (a.drop k))
          · by_cases hsb : nodeT p y = nodeT (rootE (b.take k)) (rootE (b.drop k))
            · obtain ⟨ea1, ea2⟩ := nodeT_inj hbp hbxy.1 (rootE_bd _) (rootE_bd _) hsa
              obtain ⟨eb1, eb2⟩ := nodeT_inj hbp hbxy.2 (rootE_bd _) (rootE_bd _) hsb
              by_cases hl : a.take k = b.take k
              · have hd : a.drop k ≠ (b.drop k).take (m - (lo + k)) := fun h => hne (by
                  rw [← List.take_append_drop k a, hl, h, ← List.take_append_drop k (b.take (m - lo)), List.take_take, Nat.min_eq_left (by omega), List.drop_take, show m - lo - k = m - (lo + k) by omega])
                obtain ⟨t, u, ht, hu, h3⟩ := ih (a.drop k) (b.drop k) m (lo + k) hi old false r (by omega) (by omega) (by omega) (by rw [List.length_drop]; omega) (by rw [List.length_drop]; omega) ho hbr (by rw [hxy, ea2, eb2]) hd
                rw [hg]
                refine ⟨t, u, ?_, ?_, h3⟩
                · rcases ht with h | h | h
                  · exact .inl ((logT_cut a k hca t).2 (.inr (.inr h)))
                  · exact .inr (.inl ((logT_cut b k hcb t).2 (.inr (.inr h))))
                  · exact .inr (.inr (List.mem_append_left _ h))
                · rcases hu with h | h | h
                  · exact .inl ((logT_cut a k hca u).2 (.inr (.inr h)))
                  · exact .inr (.inl ((logT_cut b k hcb u).2 (.inr (.inr h))))
                  · exact .inr (.inr (List.mem_append_left _ h))
              · obtain ⟨t, ht, u, hu, h3⟩ := logs_two k (a.take k) (b.take k) (by rw [List.length_take]; omega) (by rw [List.length_take]; omega) (ea1.symm.trans eb1) hl
                exact ⟨t, u, .inl ((logT_cut a k hca t).2 (.inr (.inl ht))), .inr (.inl ((logT_cut b k hcb u).2 (.inr (.inl hu)))), h3⟩
            · rw [hg]
              exact ⟨nodeT p y, _, .inr (.inr (by simp)), .inr (.inl ((logT_cut b k hcb _).2 (.inl rfl))), hsb, hy⟩
          · rw [hg]
            exact ⟨nodeT p x, _, .inr (.inr (by simp)), .inl ((logT_cut a k hca _).2 (.inl rfl)), hsa, hx⟩

end Go.Proofs.YtedblhcehlbbmabDoor

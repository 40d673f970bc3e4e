/-
  TEXTS TELL WHAT THEY ARE MADE OF: two bytes, numbers, states; where a false account and the book's part.
-/
import Derived.Test.YtedblhcehlbbmabDoorMathMap
namespace Go.Proofs.YtedblhcehlbbmabDoor

theorem two_inj5 {x y : Int} (hx : 0 ≤ x ∧ x ≤ 65535) (hy : 0 ≤ y ∧ y ≤ 65535) (h : two x = two y) : x = y := by
  unfold two at h
  simp only [List.cons.injEq, and_true] at h
  have e1 := congrArg UInt8.toNat h.1
  have e2 := congrArg UInt8.toNat h.2
  simp at e1 e2
  omega
theorem pairT_inj {a b c d : Int} (ha : Bd a) (hb : Bd b) (hc : Bd c) (hd : Bd d) (h : pairT a b = pairT c d) : a = c ∧ b = d := by
  unfold pairT at h
  rw [List.cons.injEq] at h
  have := List.append_inj h.2 rfl
  obtain ⟨a0, a1⟩ := ha
  obtain ⟨b0, b1⟩ := hb
  obtain ⟨c0, c1⟩ := hc
  obtain ⟨d0, d1⟩ := hd
  exact ⟨two_inj5 ⟨by omega, by omega⟩ ⟨by omega, by omega⟩ this.1, two_inj5 ⟨by omega, by omega⟩ ⟨by omega, by omega⟩ this.2⟩
theorem headT_inj {n l m n' l' m' : Int} (hn : 0 ≤ n ∧ n ≤ 200) (hl : Bd l) (hm : Bd m) (hn' : 0 ≤ n' ∧ n' ≤ 200) (hl' : Bd l') (hm' : Bd m') (h : headT n l m = headT n' l' m') : n = n' ∧ l = l' ∧ m = m' := by
  unfold headT at h
  rw [List.cons.injEq] at h
  have h1 := List.append_inj h.2 rfl
  have h2 := List.append_inj h1.1 rfl
  obtain ⟨l0, l1⟩ := hl
  obtain ⟨m0, m1⟩ := hm
  obtain ⟨l0', l1'⟩ := hl'
  obtain ⟨m0', m1'⟩ := hm'
  exact ⟨two_inj5 ⟨by omega, by omega⟩ ⟨by omega, by omega⟩ h2.1, two_inj5 ⟨by omega, by omega⟩ ⟨by omega, by omega⟩ h2.2, two_inj5 ⟨by omega, by omega⟩ ⟨by omega, by omega⟩ h1.2⟩

/-- The number that digits tell. -/
def valD (l : List UInt8) : Nat := l.foldl (fun s c => 10 * s + (c.toNat - 48)) 0
theorem valD_snoc (l : List UInt8) (c : UInt8) : valD (l ++ [c]) = 10 * valD l + (c.toNat - 48) := by unfold valD; rw [List.foldl_append]; rfl
theorem dig_toNat (k : Nat) (h : k < 10) : (UInt8.ofNat (48 + k)).toNat = 48 + k := by simp; omega
theorem dec_val (n : Nat) : ∀ u, u ≤ n → valD (Lib.decDigits u) = u ∧ (∀ c ∈ Lib.decDigits u, 48 ≤ c.toNat ∧ c.toNat ≤ 57) ∧ Lib.decDigits u ≠ [] := by
  induction n with
  | zero =>
    intro u hu
    obtain rfl : u = 0 := by omega
    rw [Lib.decDigits_one (by omega)]
    refine ⟨rfl, fun c hc => ?_, by simp⟩
    simp only [List.mem_singleton] at hc
    rw [hc, dig_toNat 0 (by omega)]; omega
  | succ n ih =>
    intro u hu
    by_cases h : u < 10
    · rw [Lib.decDigits_one h]
      refine ⟨?_, fun c hc => ?_, by simp⟩
      · have := valD_snoc [] (UInt8.ofNat (48 + u))
        rw [List.nil_append, dig_toNat u h] at this
        rw [this, show valD [] = 0 from rfl]; omega
      · simp only [List.mem_singleton] at hc
        rw [hc, dig_toNat u h]; omega
    · obtain ⟨h1, h2, h3⟩ := ih (u / 10) (by omega)
      rw [Lib.decDigits, dif_neg h]
      refine ⟨?_, fun c hc => ?_, by simp⟩
      · rw [valD_snoc, h1, dig_toNat _ (by omega)]; omega
      · rcases List.mem_append.1 hc with hc | hc
        · exact h2 c hc
        · simp only [List.mem_singleton] at hc
          rw [hc, dig_toNat _ (by omega)]; omega
theorem dec_inj {u v : Nat} (h : Lib.decDigits u = Lib.decDigits v) : u = v := by
  rw [← (dec_val u u (Nat.le_refl _)).1, h, (dec_val v v (Nat.le_refl _)).1]
theorem dec_head (u : Nat) (l : List UInt8) : Lib.decDigits u ≠ 45 :: l := fun h => by
  have := (dec_val u u (Nat.le_refl _)).2.1 45 (by rw [h]; simp)
  simp at this
theorem itoa_inj {x y : Int} (h : Lib.itoa x = Lib.itoa y) : x = y := by
  unfold Lib.itoa at h
  by_cases hx : x < 0
  · by_cases hy : y < 0
    · rw [if_pos hx, if_pos hy, List.cons.injEq] at h
      have := dec_inj h.2
      omega
    · rw [if_pos hx, if_neg hy] at h
      exact absurd h.symm (dec_head _ _)
  · by_cases hy : y < 0
    · rw [if_neg hx, if_pos hy] at h
      exact absurd h (dec_head _ _)
    · rw [if_neg hx, if_neg hy] at h
      have := dec_inj h
      omega
theorem itoa_no (x : Int) : ∀ c ∈ Lib.itoa x, c ≠ 32 := by
  intro c hc e
  subst e
  unfold Lib.itoa at hc
  split at hc
  · rcases List.mem_cons.1 hc with h | h
    · cases h
    · have := (dec_val _ _ (Nat.le_refl _)).2.1 32 h; simp at this
  · have := (dec_val _ _ (Nat.le_refl _)).2.1 32 hc; simp at this
/-- Up to the first blank. -/
theorem cut_blank {a b r s : List UInt8} (ha : ∀ c ∈ a, c ≠ 32) (hb : ∀ c ∈ b, c ≠ 32) (hr : r = [] ∨ ∃ t, r = 32 :: t) (hs : s = [] ∨ ∃ t, s = 32 :: t) (h : a ++ r = b ++ s) : a = b ∧ r = s := by
  induction a generalizing b with
  | nil =>
    cases b with
    | nil => exact ⟨rfl, h⟩
    | cons y b =>
      rcases hr with rfl | ⟨t, rfl⟩
      · simp at h
      · rw [List.nil_append, List.cons_append, List.cons.injEq] at h
        exact absurd h.1.symm (hb y (by simp))
  | cons x a ih =>
    cases b with
    | nil =>
      rcases hs with rfl | ⟨t, rfl⟩
      · simp at h
      · rw [List.nil_append, List.cons_append, List.cons.injEq] at h
        exact absurd h.1 (ha x (by simp))
    | cons y b =>
      rw [List.cons_append, List.cons_append, List.cons.injEq] at h
      have := ih (fun c hc => ha c (by simp [hc])) (fun c hc => hb c (by simp [hc])) h.2
      exact ⟨by rw [h.1, this.1], this.2⟩
theorem flat_form (zs : List Int) : (zs.flatMap fun y => (32 : UInt8) :: Lib.itoa y) = [] ∨ ∃ t, (zs.flatMap fun y => (32 : UInt8) :: Lib.itoa y) = 32 :: t := by
  cases zs with
  | nil => exact .inl rfl
  | cons y ys => exact .inr ⟨_, by rw [List.flatMap_cons, List.cons_append]⟩
theorem flat_inj : ∀ (zs ys : List Int), zs.length = ys.length → (zs.flatMap fun y => (32 : UInt8) :: Lib.itoa y) = (ys.flatMap fun y => (32 : UInt8) :: Lib.itoa y) → zs = ys
  | [], [], _, _ => rfl
  | z :: zs, [], h, _ => by simp at h
  | [], y :: ys, h, _ => by simp at h
  | z :: zs, y :: ys, hl, h => by
    rw [List.flatMap_cons, List.flatMap_cons, List.cons_append, List.cons_append, List.cons.injEq] at h
    have := cut_blank (itoa_no z) (itoa_no y) (flat_form zs) (flat_form ys) h.2
    rw [itoa_inj this.1, flat_inj zs ys (by simpa using hl) this.2]
theorem numT_inj (zs ys : List Int) (hl : zs.length = ys.length) (h : numT zs = numT ys) : zs = ys := by
  cases zs with
  | nil => cases ys with
    | nil => rfl
    | cons y ys => simp at hl
  | cons z zs => cases ys with
    | nil => simp at hl
    | cons y ys =>
      unfold numT at h
      have := cut_blank (itoa_no z) (itoa_no y) (flat_form zs) (flat_form ys) h
      rw [itoa_inj this.1, flat_inj zs ys (by simpa using hl) this.2]
theorem stT_inj {s t : St} (h : stT s = stT t) : stI s = stI t := by
  unfold stT at h
  rw [List.cons.injEq] at h
  exact numT_inj _ _ rfl h.2

/-- One depth down: where the texts are the same, so are the sums that they are made of. -/
theorem acc_down {a b : Acc} (ha : FitsA a) (hb : FitsA b) (hl : a.loan = b.loan) (d : Nat) (hd : d < 6) (h : accT a (d + 1) = accT b (d + 1)) : accX a d = accX b d := by
  have hpa : Bd (a.path.getD d 0) := ha.sums _ (by rw [List.getD_eq_getElem?_getD, List.getElem?_eq_getElem (show d < a.path.length from hd)]; exact List.mem_cons_of_mem _ (List.getElem_mem _))
  have hpb : Bd (b.path.getD d 0) := hb.sums _ (by rw [List.getD_eq_getElem?_getD, List.getElem?_eq_getElem (show d < b.path.length from hd)]; exact List.mem_cons_of_mem _ (List.getElem_mem _))
  rw [accT, accT, hl] at h
  split at h
  · exact (pairT_inj (accX_bd a d) hpa (accX_bd b d) hpb h).1
  · exact (pairT_inj hpa (accX_bd a d) hpb (accX_bd b d) h).2

/-- An account's d-th text (the eighth: the head's). -/
def textA (a : Acc) (d : Nat) : List UInt8 := if d = 7 then headT a.size a.log (accX a 6) else accT a d
theorem textA_mem (a : Acc) (d : Nat) (h : d ≤ 7) : textA a d ∈ accTs a := by
  unfold textA accTs
  match d, h with
  | 0, _ => simp
  | 1, _ => simp
  | 2, _ => simp
  | 3, _ => simp
  | 4, _ => simp
  | 5, _ => simp
  | 6, _ => simp
  | 7, _ => simp
theorem accOf_text (es : List Ev) (l d : Nat) (hd : d < 6) : accT (accOf es l) (d + 1) = pairT (mapL (stF es) d (2 * (l / 2 ^ (d + 1)))) (mapL (stF es) d (2 * (l / 2 ^ (d + 1)) + 1)) := by
  rw [accT, accOf_path es l d hd]
  have hX := accOf_X es l d (by omega)
  unfold accX at hX
  rw [hX, half_nat]
  have e : (accOf es l).loan / 2 ^ d = ((l / 2 ^ d : Nat) : Int) := cast_div l d
  rw [e]
  unfold sideL
  generalize l / 2 ^ d = j
  by_cases hj : j % 2 = 0
  · rw [if_pos (by omega)]
    unfold nextTo
    rw [if_pos hj]
    have h2 : 2 * (j / 2) = j := by omega
    rw [h2]
  · rw [if_neg (by omega)]
    unfold nextTo
    rw [if_neg hj]
    have h2 : 2 * (j / 2) + 1 = j := by omega
    have h3 : 2 * (j / 2) = j - 1 := by omega
    rw [h2, h3]
/-- The texts of the book's own account are the book's. -/
theorem textA_book (es : List Ev) (l d : Nat) (hl : l < 64) (hd : d ≤ 7) : BookT es (textA (accOf es l) d) := by
  unfold textA
  by_cases h7 : d = 7
  · rw [if_pos h7]
    refine .inr (.inr ?_)
    rw [accOf_X es l 6 (by omega), show l / 2 ^ 6 = 0 by omega]
    rfl
  · rw [if_neg h7]
    cases d with
    | zero => exact .inl ⟨l, hl, rfl⟩
    | succ d =>
      refine .inr (.inl ⟨d, l / 2 ^ (d + 1), by omega, ?_, accOf_text es l d (by omega)⟩)
      have hp : 2 ^ (d + 1) * 2 ^ (5 - d) = 64 := by rw [← Nat.pow_add, show d + 1 + (5 - d) = 6 by omega]
      exact Nat.div_lt_of_lt_mul (by rw [hp]; exact hl)
/-- P16: going down from the top: the first place where the account and the book part. -/
theorem lie_top (es : List Ev) (a : Acc) (hg : GoodE es) (hc : calmB es a = false) :
    FitsA a ∧ a.loan.toNat < 64 ∧ ∃ d, d ≤ 7 ∧ textA a d ≠ textA (accOf es a.loan.toNat) d ∧ sm (textA a d) = sm (textA (accOf es a.loan.toNat) d) ∧ ∀ e, d < e → e ≤ 7 → textA a e = textA (accOf es a.loan.toNat) e := by
  unfold calmB at hc
  rw [Bool.or_eq_false_iff] at hc
  obtain ⟨hok, hsm⟩ := hc
  have hok : accB (topOf es) a = true := by simpa using hok
  unfold accB at hok
  rw [Bool.and_eq_true, decide_eq_true_eq] at hok
  have hf := fitsB_true hok.1
  have hl0 := hf.loan
  have hl : a.loan.toNat < 64 := by omega
  refine ⟨hf, hl, ?_⟩
  have hlo : a.loan = (accOf es a.loan.toNat).loan := by show a.loan = ((a.loan.toNat : Nat) : Int); omega
  have hfo := accOf_fits es a.loan.toNat hl hg
  have hst : (accOf es a.loan.toNat).st = stOf es a.loan := by show stOf es ((a.loan.toNat : Nat) : Int) = _; rw [Int.toNat_of_nonneg hl0.1]
  have hown := accOf_ok es a.loan.toNat hl hg
  unfold accB at hown
  rw [Bool.and_eq_true, decide_eq_true_eq] at hown
  have htop : sm (textA a 7) = sm (textA (accOf es a.loan.toNat) 7) := by
    show accTop a = accTop _
    rw [hok.2, hown.2]
  have hs1 : (accOf es a.loan.toNat).size = (es.length : Int) := rfl
  have hs2 : (accOf es a.loan.toNat).log = logOf es := rfl
  generalize accOf es a.loan.toNat = b at *
  have hdown : ∀ d, d < 7 → textA a (d + 1) = textA b (d + 1) → sm (textA a d) = sm (textA b d) := by
    intro d hd h
    by_cases h6 : d = 6
    · subst h6
      exact (headT_inj hf.size (hf.sums _ (by simp)) (accX_bd a 6) hfo.size (hfo.sums _ (by simp)) (accX_bd b 6) h).2.2
    · have e1 : textA a (d + 1) = accT a (d + 1) := by unfold textA; rw [if_neg (by omega)]
      have e2 : textA b (d + 1) = accT b (d + 1) := by unfold textA; rw [if_neg (by omega)]
      have e3 : textA a d = accT a d := by unfold textA; rw [if_neg (by omega)]
      have e4 : textA b d = accT b d := by unfold textA; rw [if_neg (by omega)]
      rw [e1, e2] at h
      rw [e3, e4]
      exact acc_down hf hfo hlo d (by omega) h
  have hnot : ¬ (textA a 0 = textA b 0 ∧ textA a 7 = textA b 7) := by
    rintro ⟨h0, h7⟩
    have h1 := headT_inj hf.size (hf.sums _ (by simp)) (accX_bd a 6) hfo.size (hfo.sums _ (by simp)) (accX_bd b 6) h7
    have h2 := stT_inj (s := a.st) (t := b.st) h0
    rw [hst] at h2
    rw [hs1, hs2] at h1
    have : sameA es a = true := by
      unfold sameA
      rw [h1.1, h1.2.1, h2]; simp
    rw [this] at hsm
    cases hsm
  have key : ∀ k, k ≤ 7 → (∀ e, 7 - k < e → e ≤ 7 → textA a e = textA b e) → sm (textA a (7 - k)) = sm (textA b (7 - k)) → (∃ d, d ≤ 7 ∧ textA a d ≠ textA b d ∧ sm (textA a d) = sm (textA b d) ∧ ∀ e, d < e → e ≤ 7 → textA a e = textA b e) ∨ (∀ e, e ≤ 7 → textA a e = textA b e) := by
    intro k
    induction h : 7 - k generalizing k with
    | zero =>
      intro hk hall hsum
      by_cases hd : textA a 0 = textA b 0
      · refine .inr fun e he => ?_
        by_cases h0 : e = 0
        · rw [h0]; exact hd
        · exact hall e (by omega) he
      · exact .inl ⟨0, by omega, hd, hsum, fun e h1 h2 => hall e (by omega) h2⟩
    | succ n ih =>
      intro hk hall hsum
      by_cases hd : textA a (n + 1) = textA b (n + 1)
      · refine ih (k + 1) (by omega) (by omega) (fun e h1 h2 => ?_) (hdown n (by omega) hd)
        by_cases he : e = n + 1
        · rw [he]; exact hd
        · exact hall e (by omega) h2
      · exact .inl ⟨n + 1, by omega, hd, hsum, fun e h1 h2 => hall e (by omega) h2⟩
  rcases key 0 (by omega) (fun e h1 h2 => by omega) htop with h | h
  · exact h
  · exact absurd ⟨h 0 (by omega), h 7 (by omega)⟩ hnot

end Go.Proofs.YtedblhcehlbbmabDoor

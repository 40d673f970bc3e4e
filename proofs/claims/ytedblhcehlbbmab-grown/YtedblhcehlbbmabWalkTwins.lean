/-
  CONTRACTS: twins.OfLogs, lender.Twins; and that what they answer gives the proof away: twins_spec.
-/
import Derived.Test.YtedblhcehlbbmabLawTwins
import Derived.Test.YtedblhcehlbbmabWalkOfLogs
import Derived.WalkKit
import Derived.WalkSpells
import Derived.WalkLawsBesides
namespace Go.Proofs.Ytedblhcehlbbmab
open Go.RowKit

/-- The two sums of an answer of logs.Joins. -/
def fstO (o : Option (Int × Int)) : Int := (o.map Prod.fst).getD 0
def sndO (o : Option (Int × Int)) : Int := (o.map Prod.snd).getD 0
theorem fstO_bd {m n : Nat} {old : Int} {b : Bool} {zs : List Int} : Bd (fstO (joinO m n old b zs)) := by
  cases h : joinO m n old b zs with
  | none => exact ⟨by decide, by decide⟩
  | some q => exact (joinO_bd h).1
theorem sndO_bd {m n : Nat} {old : Int} {b : Bool} {zs : List Int} : Bd (sndO (joinO m n old b zs)) := by
  cases h : joinO m n old b zs with
  | none => exact ⟨by decide, by decide⟩
  | some q => exact (joinO_bd h).2

/-- What twins.OfLogs answers. -/
def ofLgs : Nat → List ByteArray → List ByteArray → Bool → List Int → List UInt8 × List UInt8
  | 0, a, b, _, _ => ofRts a.length a b
  | f + 1, a, b, wh, zs =>
    if b.length ≤ a.length ∨ zs = [] then ofRts a.length a b
    else if a.length ≤ cutN b.length then
      (if nodeT (sndO (joinO a.length (cutN b.length) (rootS a) wh zs.dropLast)) (zs.getLastD 0) = textS b then ofLgs f a (b.take (cutN b.length)) wh zs.dropLast
       else (nodeT (sndO (joinO a.length (cutN b.length) (rootS a) wh zs.dropLast)) (zs.getLastD 0), textS b))
    else
      (if nodeT (zs.getLastD 0) (fstO (joinO (a.length - cutN b.length) (b.length - cutN b.length) (rootS a) false zs.dropLast)) = textS a then
        (if nodeT (zs.getLastD 0) (sndO (joinO (a.length - cutN b.length) (b.length - cutN b.length) (rootS a) false zs.dropLast)) = textS b then
          (if beginsB (a.take (cutN b.length)) (b.take (cutN b.length)) = true then ofLgs f (a.drop (cutN b.length)) (b.drop (cutN b.length)) false zs.dropLast
           else ofRts (cutN b.length) (a.take (cutN b.length)) (b.take (cutN b.length)))
         else (nodeT (zs.getLastD 0) (sndO (joinO (a.length - cutN b.length) (b.length - cutN b.length) (rootS a) false zs.dropLast)), textS b))
       else (nodeT (zs.getLastD 0) (fstO (joinO (a.length - cutN b.length) (b.length - cutN b.length) (rootS a) false zs.dropLast)), textS a))
theorem last_snoc (q : List Int) (p : Int) : (q ++ [p]).getLastD 0 = p := by simp
theorem ofLgs_end {f : Nat} {a b : List ByteArray} {wh : Bool} {zs : List Int} (h : b.length ≤ a.length ∨ zs = []) : ofLgs f a b wh zs = ofRts a.length a b := by
  cases f with
  | zero => rfl
  | succ f => rw [ofLgs, if_pos h]
theorem ofLgs_L {f k : Nat} {a b : List ByteArray} {wh : Bool} {q : List Int} {p : Int} (h : a.length < b.length) (hc : IsCut b.length k) (hk : a.length ≤ k) :
    ofLgs (f + 1) a b wh (q ++ [p]) = if nodeT (sndO (joinO a.length k (rootS a) wh q)) p = textS b then ofLgs f a (b.take k) wh q else (nodeT (sndO (joinO a.length k (rootS a) wh q)) p, textS b) := by
  rw [ofLgs, if_neg (by simp; omega), cutN_of hc, if_pos hk, List.dropLast_concat, last_snoc]
theorem ofLgs_R {f k : Nat} {a b : List ByteArray} {wh : Bool} {q : List Int} {p : Int} (h : a.length < b.length) (hc : IsCut b.length k) (hk : ¬ a.length ≤ k) :
    ofLgs (f + 1) a b wh (q ++ [p]) = if nodeT p (fstO (joinO (a.length - k) (b.length - k) (rootS a) false q)) = textS a then
        (if nodeT p (sndO (joinO (a.length - k) (b.length - k) (rootS a) false q)) = textS b then
          (if beginsB (a.take k) (b.take k) = true then ofLgs f (a.drop k) (b.drop k) false q else ofRts k (a.take k) (b.take k))
         else (nodeT p (sndO (joinO (a.length - k) (b.length - k) (rootS a) false q)), textS b))
       else (nodeT p (fstO (joinO (a.length - k) (b.length - k) (rootS a) false q)), textS a) := by
  rw [ofLgs, if_neg (by simp; omega), cutN_of hc, if_neg hk, List.dropLast_concat, last_snoc]

set_option maxHeartbeats 1000000 in
theorem ofLogs_any (f : Nat) : ∀ (n m l : Nat) (wh : Bool) (a b d : Option Addr) (aa bb : List ByteArray) (zs : List Int) (ca cb cd : Nat) (w : World), aa.length = n → bb.length = m → zs.length = l → 1 ≤ n → m ≤ f → n ≤ 200 → m ≤ 200 → (∀ s ∈ aa, s.size ≤ 40) → (∀ s ∈ bb, s.size ≤ 40) → bdL zs = true → l ≤ 17592186043904 → Strs w a aa → Strs w b bb → Ints w d zs → n ≤ ca → ca ≤ maxLen → m ≤ cb → cb ≤ maxLen → l ≤ cd → cd ≤ maxLen →
    Calls Try.prog 35 #[.slice a n ca, .slice b m cb, .bool wh, .slice d l cd] w fun e w' => e = .returned (.tuple #[.string (bs (ofLgs f aa bb wh zs).1), .string (bs (ofLgs f aa bb wh zs).2)]) ∧ Below w.heap.size w w' := by
  induction f with
  | zero =>
    intro n m l wh a b d aa bb zs ca cb cd w hn hm hl h1 hf h200 h200' h40 h40' hbd hr hs ht hz hca hma hcb hmb hcd hmd
    rw [ofLgs_end (.inl (by omega)), hn]
    exact ofLogs_end n m l wh a b d _ _ ca cb cd w (by omega) (ofRoots_any n n m a b aa bb ca cb w hn hm (Nat.le_refl _) h200 h200' h40 h40' hs ht hca hma hcb hmb)
  | succ f ih =>
    intro n m l wh a b d aa bb zs ca cb cd w hn hm hl h1 hf h200 h200' h40 h40' hbd hr hs ht hz hca hma hcb hmb hcd hmd
    by_cases hmn : m ≤ n
    · rw [ofLgs_end (.inl (by omega)), hn]
      exact ofLogs_end n m l wh a b d _ _ ca cb cd w hmn (ofRoots_any n n m a b aa bb ca cb w hn hm (Nat.le_refl _) h200 h200' h40 h40' hs ht hca hma hcb hmb)
    by_cases hl0 : l = 0
    · subst hl0
      rw [ofLgs_end (.inr (List.eq_nil_of_length_eq_zero hl)), hn]
      exact ofLogs_nil n m wh a b d _ _ ca cb cd w (by omega) (ofRoots_any n n m a b aa bb ca cb w hn hm (Nat.le_refl _) h200 h200' h40 h40' hs ht hca hma hcb hmb)
    obtain ⟨q, p, rfl, hq⟩ := snoc_of zs (l - 1) (by omega)
    rw [bdL_snoc, Bool.and_eq_true] at hbd
    have hpb := isSumB_true hbd.2
    obtain ⟨bz, oz, rfl, hcz⟩ := hz.at (by omega)
    obtain ⟨bk1, off1, rfl, hc1⟩ := hs.at (by omega)
    obtain ⟨bk2, off2, rfl, hc2⟩ := ht.at (by omega)
    have hcp : w.cell? ⟨bz, oz + (l - 1), none⟩ = some (.int .i64 p) := by
      rw [hcz (l - 1) (by omega), List.getElem_append_right (by omega)]
      simp [hq]
    have hqi : Ints w (some ⟨bz, oz, none⟩) q := .inr ⟨bz, oz, rfl, fun j hj => by
      rw [hcz j (by omega), List.getElem_append_left hj]⟩
    have hk := cutN_is m (by omega)
    generalize cutN m = k at hk
    have hka := hk.2.1
    have hkp := hk.pos.1
    have hk2 := hk.2.2
    have hkb : IsCut bb.length k := by rw [hm]; exact hk
    have HR : Hid (∀ w1, Below w.heap.size w w1 → Calls Try.prog 26 #[.slice (some ⟨bk1, off1, none⟩) n ca] w1 fun e w' => e = .returned (.int .i64 (rootS aa)) ∧ Below w1.heap.size w1 w') := fun w1 h => root_any n n _ aa ca w1 hn (Nat.le_refl _) (hs.kept h) h200 h40 hca hma
    have HTA : Hid (∀ w1, Below w.heap.size w w1 → Calls Try.prog 38 #[.slice (some ⟨bk1, off1, none⟩) n ca] w1 fun e w' => e = .returned (.string (bs (textS aa))) ∧ Below w1.heap.size w1 w') := fun w1 h => text_any n n _ aa ca w1 hn (Nat.le_refl _) (hs.kept h) h200 h40 hca hma
    have HTB : Hid (∀ w1, Below w.heap.size w w1 → Calls Try.prog 38 #[.slice (some ⟨bk2, off2, none⟩) m cb] w1 fun e w' => e = .returned (.string (bs (textS bb))) ∧ Below w1.heap.size w1 w') := fun w1 h => text_any m m _ bb cb w1 hm (Nat.le_refl _) (ht.kept h) h200' h40' hcb hmb
    by_cases hnk : n ≤ k
    · have HJ : Hid (∀ w1, Below w.heap.size w w1 → Calls Try.prog 33 #[.int .i64 (n : Int), .int .i64 (k : Int), .int .i64 (rootS aa), .bool wh, .slice (some ⟨bz, oz, none⟩) (l - 1) cd] w1 fun e w' => e = .returned (.tuple #[.int .i64 (fstO (joinO n k (rootS aa) wh q)), .int .i64 (sndO (joinO n k (rootS aa) wh q)), .bool (joinO n k (rootS aa) wh q).isSome]) ∧ Below w1.heap.size w1 w') := fun w1 h =>
        joins_any k n k (l - 1) (rootS aa) wh (some ⟨bz, oz, none⟩) q cd w1 h1 hnk (Nat.le_refl _) (by omega) hq (by omega) (hqi.kept h) (by omega) hmd
      have hL := ofLgs_L (f := f) (wh := wh) (q := q) (p := p) (by omega : aa.length < bb.length) hkb (by omega)
      rw [hn] at hL
      have HNT : Hid (∀ w1, Below w.heap.size w w1 → Calls Try.prog 41 #[.int .i64 (sndO (joinO n k (rootS aa) wh q)), .int .i64 p] w1 fun e w' => e = .returned (.string (bs (nodeT (sndO (joinO n k (rootS aa) wh q)) p))) ∧ Below w1.heap.size w1 w') := fun w1 _ => nodeText_any _ _ w1 sndO_bd hpb
      by_cases hS : nodeT (sndO (joinO n k (rootS aa) wh q)) p = textS bb
      · rw [if_pos hS] at hL
        rw [hS] at HNT
        rw [hL]
        exact ofLogs_L2 n m l k bk1 off1 bk2 off2 bz oz wh p _ _ (rootS aa) _ (bs (textS bb)) _ _ ca cb cd w (by omega) hk hnk h200' (by omega) hr hcb hcd hcp HR HJ HNT HTB
          (fun w1 h => ih n k (l - 1) wh (some ⟨bk1, off1, none⟩) (some ⟨bk2, off2, none⟩) (some ⟨bz, oz, none⟩) aa (bb.take k) q ca cb cd w1 hn (by rw [List.length_take]; omega) hq h1 (by omega) h200 (by omega) h40 (fun s hs => h40' s (List.mem_of_mem_take hs)) hbd.1 (by omega) (hs.kept h) ((Strs.take hc2 k).kept h) (hqi.kept h) hca hma (by omega) hmb (by omega) hmd)
      · rw [if_neg hS] at hL
        rw [hL]
        exact ofLogs_L1 n m l k bk1 off1 bk2 off2 bz oz wh p _ _ (rootS aa) _ _ (bs (textS bb)) ca cb cd w (by omega) hk hnk h200' (by omega) hr hcb hcd hcp HR HJ HNT HTB (fun e => hS (bs_inj e))
    · have HJ : Hid (∀ w1, Below w.heap.size w w1 → Calls Try.prog 33 #[.int .i64 ((n : Int) - (k : Int)), .int .i64 ((m : Int) - (k : Int)), .int .i64 (rootS aa), .bool false, .slice (some ⟨bz, oz, none⟩) (l - 1) cd] w1 fun e w' => e = .returned (.tuple #[.int .i64 (fstO (joinO (n - k) (m - k) (rootS aa) false q)), .int .i64 (sndO (joinO (n - k) (m - k) (rootS aa) false q)), .bool (joinO (n - k) (m - k) (rootS aa) false q).isSome]) ∧ Below w1.heap.size w1 w') := fun w1 h => by
        have := joins_any (m - k) (n - k) (m - k) (l - 1) (rootS aa) false (some ⟨bz, oz, none⟩) q cd w1 (by omega) (by omega) (Nat.le_refl _) (by omega) hq (by omega) (hqi.kept h) (by omega) hmd
        rw [show (((n - k : Nat)) : Int) = (n : Int) - (k : Int) from by omega, show (((m - k : Nat)) : Int) = (m : Int) - (k : Int) from by omega] at this
        exact this
      have hL := ofLgs_R (f := f) (wh := wh) (q := q) (p := p) (by omega : aa.length < bb.length) hkb (by omega)
      rw [hn, hm] at hL
      have HN1 : Hid (∀ w1, Below w.heap.size w w1 → Calls Try.prog 41 #[.int .i64 p, .int .i64 (fstO (joinO (n - k) (m - k) (rootS aa) false q))] w1 fun e w' => e = .returned (.string (bs (nodeT p (fstO (joinO (n - k) (m - k) (rootS aa) false q))))) ∧ Below w1.heap.size w1 w') := fun w1 _ => nodeText_any _ _ w1 hpb fstO_bd
      have HN2 : Hid (∀ w1, Below w.heap.size w w1 → Calls Try.prog 41 #[.int .i64 p, .int .i64 (sndO (joinO (n - k) (m - k) (rootS aa) false q))] w1 fun e w' => e = .returned (.string (bs (nodeT p (sndO (joinO (n - k) (m - k) (rootS aa) false q))))) ∧ Below w1.heap.size w1 w') := fun w1 _ => nodeText_any _ _ w1 hpb sndO_bd
      by_cases hS : nodeT p (fstO (joinO (n - k) (m - k) (rootS aa) false q)) = textS aa
      · rw [if_pos hS] at hL
        rw [hS] at HN1
        by_cases hS2 : nodeT p (sndO (joinO (n - k) (m - k) (rootS aa) false q)) = textS bb
        · rw [if_pos hS2] at hL
          rw [hS2] at HN2
          have HB := hid (fun w1 (h : Below w.heap.size w w1) => lbegins_any k k (some ⟨bk1, off1, none⟩) (some ⟨bk2, off2, none⟩) (aa.take k) (bb.take k) ca cb w1 (by rw [List.length_take]; omega) (by rw [List.length_take]; omega) ((Strs.take hc1 k).kept h) ((Strs.take hc2 k).kept h) (by omega) (by omega))
          cases hb : beginsB (aa.take k) (bb.take k) with
          | true =>
            rw [hb] at HB
            rw [if_pos hb] at hL
            rw [hL]
            exact ofLogs_R4 n m l k bk1 off1 bk2 off2 bz oz wh p _ _ (rootS aa) _ (bs (textS bb)) (bs (textS aa)) _ _ ca cb cd w (by omega) hk (by omega) h200' (by omega) hr hca hcb hcd hcp HR HJ HN1 HTA HN2 HTB HB
              (fun w1 h => ih (n - k) (m - k) (l - 1) false (some ⟨bk1, off1 + k, none⟩) (some ⟨bk2, off2 + k, none⟩) (some ⟨bz, oz, none⟩) (aa.drop k) (bb.drop k) q (ca - k) (cb - k) cd w1 (by rw [List.length_drop]; omega) (by rw [List.length_drop]; omega) hq (by omega) (by omega) (by omega) (by omega) (fun s hs => h40 s (List.mem_of_mem_drop hs)) (fun s hs => h40' s (List.mem_of_mem_drop hs)) hbd.1 (by omega) ((Strs.drop hc1 k).kept h) ((Strs.drop hc2 k).kept h) (hqi.kept h) (by omega) (by omega) (by omega) (by omega) (by omega) hmd)
          | false =>
            rw [hb] at HB
            rw [if_neg (by rw [hb]; simp)] at hL
            rw [hL]
            exact ofLogs_R3 n m l k bk1 off1 bk2 off2 bz oz wh p _ _ (rootS aa) _ (bs (textS bb)) (bs (textS aa)) _ _ ca cb cd w (by omega) hk (by omega) h200' (by omega) hr hca hcb hcd hcp HR HJ HN1 HTA HN2 HTB HB
              (fun w1 h => ofRoots_any k k k (some ⟨bk1, off1, none⟩) (some ⟨bk2, off2, none⟩) (aa.take k) (bb.take k) ca cb w1 (by rw [List.length_take]; omega) (by rw [List.length_take]; omega) (Nat.le_refl _) (by omega) (by omega) (fun s hs => h40 s (List.mem_of_mem_take hs)) (fun s hs => h40' s (List.mem_of_mem_take hs)) ((Strs.take hc1 k).kept h) ((Strs.take hc2 k).kept h) (by omega) hma (by omega) hmb)
        · rw [if_neg hS2] at hL
          rw [hL]
          exact ofLogs_R2 n m l k bk1 off1 bk2 off2 bz oz wh p _ _ (rootS aa) _ _ (bs (textS bb)) (bs (textS aa)) ca cb cd w (by omega) hk (by omega) h200' (by omega) hr hca hcb hcd hcp HR HJ HN1 HTA HN2 HTB (fun e => hS2 (bs_inj e))
      · rw [if_neg hS] at hL
        rw [hL]
        exact ofLogs_R1 n m l k bk1 off1 bk2 off2 bz oz wh p _ _ (rootS aa) _ _ (bs (textS aa)) ca cb cd w (by omega) hk (by omega) h200' (by omega) hr hca hcb hcd hcp HR HJ HN1 HTA (fun e => hS (bs_inj e))

theorem joinF_false (f : Nat) : ∀ (m n : Nat) (old old' : Int) (ps : List Int), joinF f m n old false ps = joinF f m n old' false ps := by
  induction f with
  | zero => intro m n old old' ps; rfl
  | succ f ih =>
    intro m n old old' ps
    simp only [joinF]
    by_cases he : n ≤ m
    · rw [if_pos he, if_pos he]; rfl
    · rw [if_neg he, if_neg he]
      cases ps with
      | nil => rfl
      | cons p r =>
        by_cases hk : m ≤ cutN n
        · simp only [if_pos hk]; rw [ih m (cutN n) old old' r]
        · simp only [if_neg hk]; rw [ih (m - cutN n) (n - cutN n) old old' r]
theorem joinO_of {m n : Nat} {old old' : Int} {b : Bool} {zs : List Int} (ho : Bd old') (hz : bdL zs = true) (h : b = true → old = old') : joinO m n old' b zs = joinR m n old b zs.reverse := by
  have hs : isSumB old' = true := decide_eq_true ho
  unfold joinO
  rw [hs, hz]
  simp only [Bool.and_self, if_true]
  cases b with
  | true => rw [h rfl]
  | false => exact joinF_false _ _ _ _ _ _

/-- What OfLogs answers gives the proof away. -/
theorem ofLgs_away (f : Nat) : ∀ (aa bb : List ByteArray) (m lo hi : Nat) (old : Int) (wh : Bool) (zs : List Int), hi - lo ≤ f → lo < m → m ≤ hi → aa.length = m - lo → bb.length = hi - lo → Bd old → (wh = true → old = rootS aa) → bdL zs = true →
    joinR (m - lo) (hi - lo) old wh zs.reverse = some (rootS aa, rootS bb) → aa ≠ bb.take (m - lo) →
    ((ofLgs f aa bb wh zs).1 ∈ logT (esOf aa) ∨ (ofLgs f aa bb wh zs).1 ∈ logT (esOf bb) ∨ (ofLgs f aa bb wh zs).1 ∈ growTx m lo hi old wh zs.reverse) ∧
    ((ofLgs f aa bb wh zs).2 ∈ logT (esOf aa) ∨ (ofLgs f aa bb wh zs).2 ∈ logT (esOf bb) ∨ (ofLgs f aa bb wh zs).2 ∈ growTx m lo hi old wh zs.reverse) ∧ Two (ofLgs f aa bb wh zs).1 (ofLgs f aa bb wh zs).2 := by
  induction f with
  | zero => intro aa bb m lo hi old wh zs h; omega
  | succ f ih =>
    intro aa bb m lo hi old wh zs hf h1 h2 ha hb ho how hbd hj hne
    by_cases he : m = hi
    · subst he
      rw [List.take_of_length_le (by omega)] at hne
      have hr : rootS aa = rootS bb := by
        rw [joinR_end _ _ _ _ (by omega)] at hj
        split at hj
        · split at hj
          · have := Option.some.inj hj; rw [Prod.mk.injEq] at this; exact this.1.symm.trans this.2
          · cases hj
        · unfold lone at hj
          split at hj
          · have := Option.some.inj hj; rw [Prod.mk.injEq] at this; exact this.1.symm.trans this.2
          · cases hj
      rw [ofLgs_end (.inl (by omega))]
      obtain ⟨t1, t2, t3⟩ := ofRts_away aa.length aa bb (Nat.le_refl _) (by omega) hr hne
      exact ⟨.inl t1, .inr (.inl t2), t3⟩
    · have hc := cutN_is (hi - lo) (by omega)
      have hp := hc.pos
      have hlt := hc.2.1
      have hle := hc.2.2
      generalize cutN (hi - lo) = k at hc hp hlt hle
      have hcb : IsCut bb.length k := by rw [hb]; exact hc
      rcases List.eq_nil_or_concat zs with rfl | ⟨q, p, rfl⟩
      · rw [List.reverse_nil, joinR_nil _ _ _ _ (by omega)] at hj; cases hj
      rw [List.concat_eq_append] at *
      rw [List.reverse_append, List.reverse_singleton, List.singleton_append] at hj ⊢
      rw [bdL_snoc, Bool.and_eq_true] at hbd
      have hbp : Bd p := isSumB_true hbd.2
      have hbr : ∀ x ∈ q.reverse, Bd x := fun x hx => bdL_all hbd.1 x (by simpa using hx)
      by_cases hk : m ≤ lo + k
      · rw [joinR_le _ _ k old p wh q.reverse (by omega) hc (by omega), Option.map_eq_some_iff] at hj
        obtain ⟨⟨x, y⟩, hxy, hq⟩ := hj
        rw [Prod.mk.injEq] at hq
        obtain ⟨hx, hy⟩ := hq
        simp only at hx hy
        have hg := growTx_le m lo hi k old p wh q.reverse x y h1 (by omega) hc hk hxy
        have hbxy : Bd x ∧ Bd y := joinR_bd ho hbr hxy
        have hL := ofLgs_L (f := f) (wh := wh) (q := q) (p := p) (by omega : aa.length < bb.length) hcb (by omega)
        have hsn : sndO (joinO aa.length k (rootS aa) wh q) = y := by rw [ha, joinO_of (rootS_bd aa) hbd.1 how, hxy]; rfl
        rw [hsn] at hL
        rw [hL, hg]
        by_cases hsame : nodeT y p = textS bb
        · rw [if_pos hsame]
          have hsm := hsame
          rw [textS_cut bb k hcb] at hsm
          obtain ⟨e1, _⟩ := nodeT_inj hbxy.2 hbp (rootS_bd _) (rootS_bd _) hsm
          have e2 : lo + k - lo = k := by omega
          obtain ⟨t1, t2, t3⟩ := ih aa (bb.take k) m lo (lo + k) old wh q (by omega) h1 hk ha (by rw [List.length_take]; omega) ho how hbd.1 (by rw [e2, hxy, hx, e1]) (by
            rw [List.take_take, Nat.min_eq_left (by omega)]; exact hne)
          refine ⟨?_, ?_, t3⟩
          · rcases t1 with h | h | h
            · exact .inl h
            · exact .inr (.inl ((logS_cut bb k hcb _).2 (.inr (.inl h))))
            · exact .inr (.inr (List.mem_append_left _ h))
          · rcases t2 with h | h | h
            · exact .inl h
            · exact .inr (.inl ((logS_cut bb k hcb _).2 (.inr (.inl h))))
            · exact .inr (.inr (List.mem_append_left _ h))
        · rw [if_neg hsame]
          exact ⟨.inr (.inr (by simp)), .inr (.inl (textS_mem bb (by omega))), hsame, by rw [sm_textS]; exact hy⟩
      · rw [joinR_gt _ _ k old p wh q.reverse hc (by omega) (by omega), Option.map_eq_some_iff, show m - lo - k = m - (lo + k) by omega, show hi - lo - k = hi - (lo + k) by omega] at hj
        obtain ⟨⟨x, y⟩, hxy, hq⟩ := hj
        rw [Prod.mk.injEq] at hq
        obtain ⟨hx, hy⟩ := hq
        simp only at hx hy
        have hg := growTx_gt m lo hi k old p wh q.reverse x y (by omega) (by omega) hc hxy
        have hca : IsCut aa.length k := ⟨hc.1, by omega, by omega⟩
        have hbxy : Bd x ∧ Bd y := joinR_bd ho hbr hxy
        have hL := ofLgs_R (f := f) (wh := wh) (q := q) (p := p) (by omega : aa.length < bb.length) hcb (by omega)
        have hjo : joinO (aa.length - k) (bb.length - k) (rootS aa) false q = some (x, y) := by
          rw [ha, hb, show m - lo - k = m - (lo + k) by omega, show hi - lo - k = hi - (lo + k) by omega, joinO_of (rootS_bd aa) hbd.1 (fun h => by cases h), hxy]
        rw [hjo, show fstO (some (x, y)) = x from rfl, show sndO (some (x, y)) = y from rfl] at hL
        rw [hL, hg]
        by_cases hsa : nodeT p x = textS aa
        · rw [if_pos hsa]
          by_cases hsb : nodeT p y = textS bb
          · rw [if_pos hsb]
            have ea := hsa
            have eb := hsb
            rw [textS_cut aa k hca] at ea
            rw [textS_cut bb k hcb] at eb
            obtain ⟨ea1, ea2⟩ := nodeT_inj hbp hbxy.1 (rootS_bd _) (rootS_bd _) ea
            obtain ⟨eb1, eb2⟩ := nodeT_inj hbp hbxy.2 (rootS_bd _) (rootS_bd _) eb
            have hlt' : (aa.take k).length = (bb.take k).length := by rw [List.length_take, List.length_take]; omega
            cases hbg : beginsB (aa.take k) (bb.take k) with
            | true =>
              rw [if_pos rfl]
              have hl := (beginsB_same hlt').1 hbg
              have hd : aa.drop k ≠ (bb.drop k).take (m - (lo + k)) := fun h => hne (by
                rw [← List.take_append_drop k aa, hl, h, ← List.take_append_drop k (bb.take (m - lo)), List.take_take, Nat.min_eq_left (by omega), List.drop_take, show m - lo - k = m - (lo + k) by omega])
              obtain ⟨t1, t2, t3⟩ := ih (aa.drop k) (bb.drop k) m (lo + k) hi old false q (by omega) (by omega) (by omega) (by rw [List.length_drop]; omega) (by rw [List.length_drop]; omega) ho (fun h => by cases h) hbd.1 (by rw [hxy, ea2, eb2]) hd
              refine ⟨?_, ?_, t3⟩
              · rcases t1 with h | h | h
                · exact .inl ((logS_cut aa k hca _).2 (.inr (.inr h)))
                · exact .inr (.inl ((logS_cut bb k hcb _).2 (.inr (.inr h))))
                · exact .inr (.inr (List.mem_append_left _ h))
              · rcases t2 with h | h | h
                · exact .inl ((logS_cut aa k hca _).2 (.inr (.inr h)))
                · exact .inr (.inl ((logS_cut bb k hcb _).2 (.inr (.inr h))))
                · exact .inr (.inr (List.mem_append_left _ h))
            | false =>
              rw [if_neg (by simp)]
              have hl : aa.take k ≠ bb.take k := fun h => by rw [(beginsB_same hlt').2 h] at hbg; cases hbg
              obtain ⟨t1, t2, t3⟩ := ofRts_away k (aa.take k) (bb.take k) (by rw [List.length_take]; omega) hlt' (ea1.symm.trans eb1) hl
              exact ⟨.inl ((logS_cut aa k hca _).2 (.inr (.inl t1))), .inr (.inl ((logS_cut bb k hcb _).2 (.inr (.inl t2)))), t3⟩
          · rw [if_neg hsb]
            exact ⟨.inr (.inr (by simp)), .inr (.inl (textS_mem bb (by omega))), hsb, by rw [sm_textS]; exact hy⟩
        · rw [if_neg hsa]
          exact ⟨.inr (.inr (by simp)), .inl (textS_mem aa (by omega)), hsa, by rw [sm_textS]; exact hx⟩

/-- What Twins answers. -/
def twinsF (aa bb : List ByteArray) (zs : List Int) : ByteArray × ByteArray × Int :=
  if longB aa = true ∨ longB bb = true then (eS, eS, 2) else
  if growsB (rootS aa) (aa.length : Int) (rootS bb) (bb.length : Int) zs = false ∨ beginsB aa bb = true then (eS, eS, 3) else
  (bs (ofLgs bb.length aa bb true zs).1, bs (ofLgs bb.length aa bb true zs).2, 0)
theorem twinsF_long (aa bb : List ByteArray) (zs : List Int) (h : longB aa = true ∨ longB bb = true) : twinsF aa bb zs = (eS, eS, 2) := by unfold twinsF; rw [if_pos h]
theorem twinsF_calm (aa bb : List ByteArray) (zs : List Int) (h1 : longB aa = false) (h2 : longB bb = false) (hc : growsB (rootS aa) (aa.length : Int) (rootS bb) (bb.length : Int) zs = false ∨ beginsB aa bb = true) : twinsF aa bb zs = (eS, eS, 3) := by
  unfold twinsF; rw [if_neg (by rw [h1, h2]; simp), if_pos hc]
theorem twinsF_away (aa bb : List ByteArray) (zs : List Int) (h1 : longB aa = false) (h2 : longB bb = false) (hg : growsB (rootS aa) (aa.length : Int) (rootS bb) (bb.length : Int) zs = true) (hb : beginsB aa bb = false) :
    twinsF aa bb zs = (bs (ofLgs bb.length aa bb true zs).1, bs (ofLgs bb.length aa bb true zs).2, 0) := by
  unfold twinsF; rw [if_neg (by rw [h1, h2]; simp), if_neg (by rw [hg, hb]; simp)]

theorem growsB_parts {n m : Nat} {x y : Int} {zs : List Int} (h : growsB x (n : Int) y (m : Int) zs = true) : (1 ≤ n ∧ n ≤ m) ∧ joinO n m x true zs = some (x, y) ∧ bdL zs = true := by
  unfold growsB at h
  rw [Bool.and_eq_true, decide_eq_true_eq, decide_eq_true_eq, Int.toNat_natCast, Int.toNat_natCast] at h
  refine ⟨by omega, h.2, ?_⟩
  have := h.2
  unfold joinO at this
  split at this
  · rename_i h; rw [Bool.and_eq_true] at h; exact h.2
  · cases this

set_option maxHeartbeats 2000000 in
theorem ltwins_any (n m l : Nat) (a b d : Option Addr) (aa bb : List ByteArray) (zs : List Int) (ca cb cd : Nat) (w : World) (hn : aa.length = n) (hm : bb.length = m) (hl : zs.length = l) (hs : Strs w a aa) (ht : Strs w b bb) (hz : Ints w d zs)
    (hr : n * 16 ≤ 140737488351232) (hr2 : m * 16 ≤ 140737488351232) (hr3 : l * 8 ≤ 140737488351232) (hca : n ≤ ca) (hma : ca ≤ maxLen) (hcb : m ≤ cb) (hmb : cb ≤ maxLen) (hcd : l ≤ cd) (hmd : cd ≤ maxLen) :
    Calls Try.prog 18 #[.slice a n ca, .slice b m cb, .slice d l cd] w fun e w' => e = .returned (.tuple #[.string (twinsF aa bb zs).1, .string (twinsF aa bb zs).2.1, .int .i64 (twinsF aa bb zs).2.2]) ∧ Below w.heap.size w w' := by
  have hra := lroot_any n a aa ca w hn hs (by omega) hca hma
  have HRB := hid (fun w1 (h : Below w.heap.size w w1) => lroot_any m b bb cb w1 hm (ht.kept h) (by omega) hcb hmb)
  cases hLa : longB aa with
  | true =>
    rw [hLa, if_pos rfl, if_pos rfl] at hra
    rw [twinsF_long aa bb zs (.inl hLa)]
    have HRA := hid hra
    clear hra hs ht hz hn hm hl hLa HRB
    unfold eS
    go_enter Try.func18, Try.ntmps18
    go_wp2_with fail
    refine HRA.out.mono ?_
    rintro e w1 ⟨rfl, hb1⟩
    go_wp2_with fail
    go_ret3
    exact ⟨rfl, hb1⟩
  | false =>
    rw [hLa, if_neg (by simp), if_neg (by simp)] at hra
    have HRA := hid hra
    have hba := longB_false aa hLa
    clear hra
    cases hLb : longB bb with
    | true =>
      rw [hLb, if_pos rfl, if_pos rfl] at HRB
      rw [twinsF_long aa bb zs (.inr hLb)]
      clear hs ht hz hn hm hl hLa hLb hba
      unfold eS
      generalize rootS aa = ra at HRA
      go_enter Try.func18, Try.ntmps18
      go_wp2_with fail
      refine HRA.out.mono ?_
      rintro e w1 ⟨rfl, hb1⟩
      go_wp2_with fail
      refine (HRB.out _ hb1).mono ?_
      rintro e w2 ⟨rfl, hb2⟩
      go_wp2_with fail
      go_ret3
      exact ⟨rfl, kept hb1 hb2⟩
    | false =>
      rw [hLb, if_neg (by simp), if_neg (by simp)] at HRB
      have hbb := longB_false bb hLb
      have HG := hid (fun w1 (h : Below w.heap.size w w1) => lgrows_any (rootS aa) n (rootS bb) m l d zs cd w1 hl (by omega) (hz.kept h) hcd hmd)
      have HBG := hid (fun w1 (h : Below w.heap.size w w1) => lbegins_any n m a b aa bb ca cb w1 hn hm (hs.kept h) (ht.kept h) (by omega) (by omega))
      cases hg : growsB (rootS aa) (n : Int) (rootS bb) (m : Int) zs with
      | false =>
        rw [twinsF_calm aa bb zs hLa hLb (.inl (by rw [hn, hm]; exact hg))]
        rw [hg] at HG
        clear hs ht hz hn hm hl hLa hLb hba hbb hg HBG
        unfold eS
        generalize rootS aa = ra at HRA HG
        generalize rootS bb = rb at HRB HG
        go_enter Try.func18, Try.ntmps18
        go_wp2_with fail
        refine HRA.out.mono ?_
        rintro e w1 ⟨rfl, hb1⟩
        go_wp2_with fail
        refine (HRB.out _ hb1).mono ?_
        rintro e w2 ⟨rfl, hb2⟩
        go_wp2_with fail
        refine (HG.out _ (kept hb1 hb2)).mono ?_
        rintro e w3 ⟨rfl, hb3⟩
        go_wp2_with fail
        go_ret3
        exact ⟨rfl, kept (kept hb1 hb2) hb3⟩
      | true =>
        cases hbg : beginsB aa bb with
        | true =>
          rw [twinsF_calm aa bb zs hLa hLb (.inr hbg)]
          rw [hg] at HG
          rw [hbg] at HBG
          clear hs ht hz hn hm hl hLa hLb hba hbb hg hbg
          unfold eS
          generalize rootS aa = ra at HRA HG
          generalize rootS bb = rb at HRB HG
          go_enter Try.func18, Try.ntmps18
          go_wp2_with fail
          refine HRA.out.mono ?_
          rintro e w1 ⟨rfl, hb1⟩
          go_wp2_with fail
          refine (HRB.out _ hb1).mono ?_
          rintro e w2 ⟨rfl, hb2⟩
          go_wp2_with fail
          refine (HG.out _ (kept hb1 hb2)).mono ?_
          rintro e w3 ⟨rfl, hb3⟩
          go_wp2_with fail
          refine (HBG.out _ (kept (kept hb1 hb2) hb3)).mono ?_
          rintro e w4 ⟨rfl, hb4⟩
          go_wp2_with fail
          go_ret3
          exact ⟨rfl, kept (kept (kept hb1 hb2) hb3) hb4⟩
        | false =>
          rw [twinsF_away aa bb zs hLa hLb (by rw [hn, hm]; exact hg) hbg, hm]
          obtain ⟨⟨h1, h2⟩, hj, hbd⟩ := growsB_parts hg
          have HOF := hid (fun w1 (h : Below w.heap.size w w1) => ofLogs_any m n m l true a b d aa bb zs ca cb cd w1 hn hm hl h1 (Nat.le_refl _) (by omega) (by omega) hba.2 hbb.2 hbd (by omega) (hs.kept h) (ht.kept h) (hz.kept h) hca hma hcb hmb hcd hmd)
          rw [hg] at HG
          rw [hbg] at HBG
          generalize bs (ofLgs m aa bb true zs).1 = X at HOF ⊢
          generalize bs (ofLgs m aa bb true zs).2 = Y at HOF ⊢
          clear hs ht hz hn hm hl hLa hLb hba hbb hg hbg hj hbd
          generalize rootS aa = ra at HRA HG
          generalize rootS bb = rb at HRB HG
          go_enter Try.func18, Try.ntmps18
          go_wp2_with fail
          refine HRA.out.mono ?_
          rintro e w1 ⟨rfl, hb1⟩
          go_wp2_with fail
          refine (HRB.out _ hb1).mono ?_
          rintro e w2 ⟨rfl, hb2⟩
          go_wp2_with fail
          refine (HG.out _ (kept hb1 hb2)).mono ?_
          rintro e w3 ⟨rfl, hb3⟩
          go_wp2_with fail
          refine (HBG.out _ (kept (kept hb1 hb2) hb3)).mono ?_
          rintro e w4 ⟨rfl, hb4⟩
          have hk4 := kept (kept (kept hb1 hb2) hb3) hb4
          go_wp2_with fail
          refine (HOF.out _ hk4).mono ?_
          rintro e w5 ⟨rfl, hb5⟩
          go_wp2_with fail
          go_ret3
          exact ⟨rfl, kept hk4 hb5⟩

theorem twins_spec : TwinsSpec twinsF where
  call := fun n m l a b d aa bb zs ca cb cd w h1 h2 h3 h4 h5 h6 h7 h8 h9 h10 h11 h12 h13 h14 h15 => ltwins_any n m l a b d aa bb zs ca cb cd w h1 h2 h3 h4 h5 h6 h7 h8 h9 h10 h11 h12 h13 h14 h15
  long := twinsF_long
  calm := fun aa bb zs h1 h2 hc => twinsF_calm aa bb zs h1 h2 hc
  away := fun aa bb zs h1 h2 hg hb => by
    obtain ⟨⟨e1, e2⟩, hj, hbd⟩ := growsB_parts hg
    have hne : aa ≠ bb.take (aa.length - 0) := fun h => by
      unfold beginsB at hb
      rw [decide_eq_false_iff_not] at hb
      exact hb (by rw [Nat.sub_zero] at h; exact h)
    rw [joinO_of (rootS_bd aa) hbd (fun _ => rfl)] at hj
    obtain ⟨t1, t2, t3, t4⟩ := ofLgs_away bb.length aa bb aa.length 0 bb.length (rootS aa) true zs (by omega) (by omega) e2 (by omega) (by omega) (rootS_bd aa) (fun _ => rfl) hbd hj hne
    have lift : ∀ t, (t ∈ logT (esOf aa) ∨ t ∈ logT (esOf bb) ∨ t ∈ growTx aa.length 0 bb.length (rootS aa) true zs.reverse) → bs t ∈ ltx aa ++ ltx bb ++ gtx aa.length bb.length (rootS aa) zs := by
      intro t h
      rcases h with h | h | h
      · exact List.mem_append_left _ (List.mem_append_left _ (List.mem_map.2 ⟨_, h, rfl⟩))
      · exact List.mem_append_left _ (List.mem_append_right _ (List.mem_map.2 ⟨_, h, rfl⟩))
      · exact List.mem_append_right _ (List.mem_map.2 ⟨_, h, rfl⟩)
    refine ⟨bs (ofLgs bb.length aa bb true zs).1, bs (ofLgs bb.length aa bb true zs).2, lift _ t1, lift _ t2, twinsF_away aa bb zs h1 h2 hg hb, fun e => t3 (bs_inj e), ?_⟩
    rw [toList_bs, toList_bs]; exact t4

end Go.Proofs.Ytedblhcehlbbmab

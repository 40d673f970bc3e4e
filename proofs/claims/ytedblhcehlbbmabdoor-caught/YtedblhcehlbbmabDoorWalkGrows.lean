/-
  CONTRACTS: logs.begins, logs.Joins (it calls itself), lender.Grows.
-/
import Derived.Test.YtedblhcehlbbmabDoorWalkWithin
import Derived.Test.YtedblhcehlbbmabDoorMathJoin
import Derived.WalkKit
import Derived.WalkSpells
import Derived.WalkLawsBesides
namespace Go.Proofs.YtedblhcehlbbmabDoor
open Go.RowKit

theorem isSumB_any (n : Int) (w : World) : Calls Tryd.prog 44 #[.int .i64 n] w fun e w' => e = .returned (.bool (isSumB n)) ∧ w' = w := isSum_any n w

theorem bdL_all {zs : List Int} (h : bdL zs = true) : ∀ p ∈ zs, Bd p := fun p hp => isSumB_true (List.all_eq_true.1 h p hp)

/-- What a path joins. -/
def joinO (m n : Nat) (old : Int) (b : Bool) (zs : List Int) : Option (Int × Int) := if (isSumB old && bdL zs) = true then joinR m n old b zs.reverse else none
/-- From where a path goes on. -/
def beginO (old : Int) (b : Bool) (zs : List Int) : Option Int := if (isSumB old && bdL zs) = true then (if b = true then (if zs = [] then some old else none) else (if zs.length = 1 then some (zs.getD 0 0) else none)) else none
theorem joinO_end (m : Nat) (old : Int) (b : Bool) (zs : List Int) (h : 1 ≤ m) : joinO m m old b zs = (beginO old b zs).map (fun x => (x, x)) := by
  unfold joinO beginO
  split
  · rw [joinR_end _ _ _ _ h]
    cases b with
    | true =>
      cases zs with
      | nil => rfl
      | cons p q => simp
    | false =>
      match zs with
      | [] => rfl
      | [p] => rfl
      | p :: q :: r =>
        have hl : (p :: q :: r).reverse.length = r.length + 2 := by simp
        have : lone (p :: q :: r).reverse = none := by
          match (p :: q :: r).reverse, hl with
          | [], h => simp at h
          | [a], h => simp at h
          | a :: b :: c, _ => rfl
        rw [this]; simp
  · rfl
theorem joinO_nil {m n : Nat} {old : Int} {b : Bool} (h : m < n) : joinO m n old b [] = none := by
  unfold joinO; rw [List.reverse_nil, joinR_nil _ _ _ _ h]; simp
theorem joinO_bad {m n : Nat} {old p : Int} {b : Bool} {q : List Int} (h : isSumB p = false) : joinO m n old b (q ++ [p]) = none := by
  unfold joinO; rw [bdL_snoc, h]; simp
theorem joinO_le {m n k : Nat} {old p : Int} {b : Bool} {q : List Int} (h1 : 1 ≤ m) (hc : IsCut n k) (hk : m ≤ k) (hp : isSumB p = true) :
    joinO m n old b (q ++ [p]) = (joinO m k old b q).map (fun x => (x.1, node x.2 p)) := by
  unfold joinO
  rw [bdL_snoc, hp, Bool.and_true, List.reverse_append, List.reverse_singleton, List.singleton_append, joinR_le m n k old p b _ h1 hc hk]
  split <;> rfl
theorem joinO_gt {m n k : Nat} {old p : Int} {b : Bool} {q : List Int} (hc : IsCut n k) (hk : k < m) (hm : m < n) (hp : isSumB p = true) :
    joinO m n old b (q ++ [p]) = (joinO (m - k) (n - k) old false q).map (fun x => (node p x.1, node p x.2)) := by
  unfold joinO
  rw [bdL_snoc, hp, Bool.and_true, List.reverse_append, List.reverse_singleton, List.singleton_append, joinR_gt m n k old p b _ hc hk hm]
  split <;> rfl
theorem joinO_bd {m n : Nat} {old : Int} {b : Bool} {zs : List Int} {q : Int × Int} (h : joinO m n old b zs = some q) : Bd q.1 ∧ Bd q.2 := by
  unfold joinO at h
  split at h
  · rename_i hb
    rw [Bool.and_eq_true] at hb
    exact joinR_bd (isSumB_true hb.1) (fun p hp => bdL_all hb.2 p (by simpa using hp)) h
  · cases h

/-- The value of an answer 'number, number, whether'. -/
def optV2 (o : Option (Int × Int)) : Value := .tuple #[.int .i64 ((o.map Prod.fst).getD 0), .int .i64 ((o.map Prod.snd).getD 0), .bool o.isSome]

set_option maxHeartbeats 1000000 in
theorem begins_any (l : Nat) (old : Int) (b : Bool) (a : Option Addr) (zs : List Int) (cap : Nat) (w : World) (hl : zs.length = l) (hr : l ≤ 17592186043904) (hz : Ints w a zs) :
    Calls Tryd.prog 50 #[.int .i64 old, .bool b, .slice a l cap] w fun e w' => e = .returned (optV (beginO old b zs)) ∧ w' = w := by
  have HS := hid (isSumB_any old w)
  cases ho : isSumB old with
  | false =>
    have HO : Hid (beginO old b zs = none) := by show _ = _; unfold beginO; rw [ho]; rfl
    rw [ho] at HS
    clear hl hz ho
    go_enter Tryd.func50, Tryd.ntmps50
    go_wp2_with fail
    refine HS.out.mono ?_
    rintro e w1 ⟨rfl, rfl⟩
    go_wp2_with fail
    go_ret2
    exact ⟨by rw [HO.out]; rfl, rfl⟩
  | true =>
    rw [ho] at HS
    cases b with
    | true =>
      by_cases h0 : l = 0
      · have HO : Hid (beginO old true zs = some old) := by
          obtain rfl := List.eq_nil_of_length_eq_zero (hl.trans h0)
          show _ = _; unfold beginO; rw [ho]; rfl
        subst h0
        clear hl hz ho
        go_enter Tryd.func50, Tryd.ntmps50
        go_wp2_with fail
        refine HS.out.mono ?_
        rintro e w1 ⟨rfl, rfl⟩
        go_wp2_with fail
        go_ret2
        exact ⟨by rw [HO.out]; rfl, rfl⟩
      · have HO : Hid (beginO old true zs = none) := by
          show _ = _; unfold beginO
          split
          · rw [if_pos rfl, if_neg (fun e => h0 (by rw [← hl, e]; rfl))]
          · rfl
        have h0' : ((l : Int) == 0) = false := by simp; omega
        clear hl hz ho
        go_enter Tryd.func50, Tryd.ntmps50
        go_wp2_with fail
        refine HS.out.mono ?_
        rintro e w1 ⟨rfl, rfl⟩
        go_wp2_with fail
        go_ret2
        exact ⟨by rw [HO.out]; rfl, rfl⟩
    | false =>
      by_cases h1 : l = 1
      · subst h1
        obtain ⟨p, rfl⟩ : ∃ p, zs = [p] := by
          match zs, hl with
          | [p], _ => exact ⟨p, rfl⟩
        obtain ⟨bk, off, rfl, hc⟩ := hz.at (by simp)
        have hc0 := hc 0 (by simp)
        simp only [Nat.add_zero, List.getElem_cons_zero] at hc0
        have HP := hid (isSumB_any p w)
        clear hc hz
        cases hp : isSumB p with
        | true =>
          have HO : Hid (beginO old false [p] = some p) := by
            show _ = _; unfold beginO; rw [ho]; simp [bdL, hp]
          rw [hp] at HP
          clear hl ho hp
          go_enter Tryd.func50, Tryd.ntmps50
          go_wp2_with fail
          refine HS.out.mono ?_
          rintro e w1 ⟨rfl, rfl⟩
          go_wp2_with fail
          refine HP.out.mono ?_
          rintro e w2 ⟨rfl, rfl⟩
          go_wp2_with fail
          go_ret2
          exact ⟨by rw [HO.out]; rfl, rfl⟩
        | false =>
          have HO : Hid (beginO old false [p] = none) := by
            show _ = _; unfold beginO; rw [ho]; simp [bdL, hp]
          rw [hp] at HP
          clear hl ho hp
          go_enter Tryd.func50, Tryd.ntmps50
          go_wp2_with fail
          refine HS.out.mono ?_
          rintro e w1 ⟨rfl, rfl⟩
          go_wp2_with fail
          refine HP.out.mono ?_
          rintro e w2 ⟨rfl, rfl⟩
          go_wp2_with fail
          go_ret2
          exact ⟨by rw [HO.out]; rfl, rfl⟩
      · have HO : Hid (beginO old false zs = none) := by
          show _ = _; unfold beginO
          split
          · rw [if_neg (by simp), if_neg (by omega)]
          · rfl
        have h1' : ((l : Int) == 1) = false := by simp; omega
        clear hl hz ho
        go_enter Tryd.func50, Tryd.ntmps50
        go_wp2_with fail
        refine HS.out.mono ?_
        rintro e w1 ⟨rfl, rfl⟩
        go_wp2_with fail
        go_ret2
        exact ⟨by rw [HO.out]; rfl, rfl⟩

set_option maxHeartbeats 2000000 in
theorem joins_any (f : Nat) : ∀ (m n l : Nat) (old : Int) (b : Bool) (a : Option Addr) (zs : List Int) (cap : Nat) (w : World), 1 ≤ m → m ≤ n → n ≤ f → n ≤ 200 → zs.length = l → l ≤ 17592186043904 → Ints w a zs → l ≤ cap → cap ≤ maxLen →
    Calls Tryd.prog 35 #[.int .i64 (m : Int), .int .i64 (n : Int), .int .i64 old, .bool b, .slice a l cap] w fun e w' => e = .returned (optV2 (joinO m n old b zs)) ∧ Below w.heap.size w w' := by
  induction f with
  | zero => intro m n l old b a zs cap w h1 h2 hf; omega
  | succ f ih =>
    intro m n l old b a zs cap w h1 h2 hf h200 hl hr hz hcap hmax
    have IH := hid ih
    clear ih
    have i0 : ¬ (m : Int) < 1 := by omega
    by_cases he : m = n
    · subst he
      have HB := hid (begins_any l old b a zs cap w hl hr hz)
      have HE := hid (joinO_end m old b zs h1)
      clear hl hz
      have i1 : ¬ (m : Int) < (m : Int) := by omega
      cases ho : beginO old b zs with
      | none =>
        rw [ho] at HE HB
        have HB' : Hid (Calls Tryd.prog 50 #[.int .i64 old, .bool b, .slice a l cap] w fun e w' => e = .returned (.tuple #[.int .i64 0, .bool false]) ∧ w' = w) := HB
        clear HB ho
        go_enter Tryd.func35, Tryd.ntmps35
        go_wp2_with fail
        refine HB'.out.mono ?_
        rintro e w1 ⟨rfl, rfl⟩
        go_wp2_with fail
        go_ret3
        exact ⟨by rw [HE.out]; rfl, Below.refl _ _⟩
      | some x =>
        rw [ho] at HE HB
        have HB' : Hid (Calls Tryd.prog 50 #[.int .i64 old, .bool b, .slice a l cap] w fun e w' => e = .returned (.tuple #[.int .i64 x, .bool true]) ∧ w' = w) := HB
        clear HB ho
        go_enter Tryd.func35, Tryd.ntmps35
        go_wp2_with fail
        refine HB'.out.mono ?_
        rintro e w1 ⟨rfl, rfl⟩
        go_wp2_with fail
        go_ret3
        exact ⟨by rw [HE.out]; rfl, Below.refl _ _⟩
    · have i1 : ¬ (n : Int) < (m : Int) := by omega
      have i2 : ((m : Int) == (n : Int)) = false := by simp; omega
      have HL := hid hl
      have HZ := hid hz
      unfold maxLen at hmax
      clear hl hz
      by_cases hl0 : l = 0
      · subst hl0
        have HO : Hid (joinO m n old b zs = none) := by
          show _ = _
          rw [List.eq_nil_of_length_eq_zero HL.out, joinO_nil (by omega)]
        go_enter Tryd.func35, Tryd.ntmps35
        go_wp2_with fail
        go_ret3
        exact ⟨by rw [HO.out]; rfl, Below.refl _ _⟩
      · have hl0' : ((l : Int) == 0) = false := by simp; omega
        obtain ⟨q, p, hqp, hq⟩ := snoc_of zs (l - 1) (by rw [HL.out]; omega)
        subst hqp
        obtain ⟨bk, off, rfl, hc⟩ := HZ.out.at (by have := HL.out; omega)
        have hcl : w.cell? ⟨bk, off + (l - 1), none⟩ = some (.int .i64 p) := by
          rw [hc (l - 1) (by have := HL.out; omega)]
          rw [List.getElem_append_right (by omega)]
          simp [hq]
        have hqi : Ints w (some ⟨bk, off, none⟩) q := .inr ⟨bk, off, rfl, fun j hj => by
          rw [hc j (by have := HL.out; omega), List.getElem_append_left hj]⟩
        have HQ := hid hq
        have HQI := hid hqi
        clear hc hqi hq HZ
        have HS1 := hid (isSumB_any p w)
        cases hsp : isSumB p with
        | false =>
          have HO : Hid (joinO m n old b (q ++ [p]) = none) := joinO_bad hsp
          rw [hsp] at HS1
          clear hsp
          go_enter Tryd.func35, Tryd.ntmps35
          go_wp2_with fail
          refine HS1.out.mono ?_
          rintro e w1 ⟨rfl, rfl⟩
          go_wp2_with fail
          go_ret3
          exact ⟨by rw [HO.out]; rfl, Below.refl _ _⟩
        | true =>
          have hpb := isSumB_true hsp
          have HSP := hid hsp
          rw [hsp] at HS1
          clear hsp
          go_enter Tryd.func35, Tryd.ntmps35
          go_wp2_with fail
          refine HS1.out.mono ?_
          rintro e w1 ⟨rfl, rfl⟩
          go_wp2_with fail
          refine (cut_any n _ (by omega) (by omega)).mono ?_
          rintro e w2 ⟨k, rfl, hk, rfl⟩
          have hk1 := hk.2.1
          have hk2 := hk.pos.1
          by_cases hik : m ≤ k
          · have HO := hid (joinO_le (old := old) (p := p) (b := b) (q := q) h1 hk hik HSP.out)
            have HW := hid (IH.out m k (l - 1) old b (some ⟨bk, off, none⟩) q cap w2 h1 hik (by omega) (by omega) HQ.out (by omega) HQI.out (by omega) (by unfold maxLen; omega))
            have hik' : (m : Int) ≤ (k : Int) := by omega
            cases ho : joinO m k old b q with
            | none =>
              rw [ho] at HO HW
              have HW' : Hid (Calls Tryd.prog 35 #[.int .i64 (m : Int), .int .i64 (k : Int), .int .i64 old, .bool b, .slice (some ⟨bk, off, none⟩) (l - 1) cap] w2 fun e w' => e = .returned (.tuple #[.int .i64 0, .int .i64 0, .bool false]) ∧ Below w2.heap.size w2 w') := HW
              clear HW ho HSP HS1
              go_wp2_with fail
              refine HW'.out.mono ?_
              rintro e w3 ⟨rfl, hb3⟩
              go_wp2_with fail
              go_ret3
              exact ⟨by rw [HO.out]; rfl, hb3⟩
            | some xy =>
              obtain ⟨x, y⟩ := xy
              have hyb := joinO_bd ho
              rw [ho] at HO HW
              have HO' : Hid (joinO m n old b (q ++ [p]) = some (x, node y p)) := HO
              have HW' : Hid (Calls Tryd.prog 35 #[.int .i64 (m : Int), .int .i64 (k : Int), .int .i64 old, .bool b, .slice (some ⟨bk, off, none⟩) (l - 1) cap] w2 fun e w' => e = .returned (.tuple #[.int .i64 x, .int .i64 y, .bool true]) ∧ Below w2.heap.size w2 w') := HW
              clear HO HW ho HSP HS1
              go_wp2_with fail
              refine HW'.out.mono ?_
              rintro e w3 ⟨rfl, hb3⟩
              go_wp2_with fail
              refine (node_any y p _ hyb.2 hpb).mono ?_
              rintro e w4 ⟨rfl, hb4⟩
              generalize node y p = z at HO' ⊢
              go_wp2_with fail
              go_ret3
              exact ⟨by rw [HO'.out]; rfl, kept hb3 hb4⟩
          · have HO := hid (joinO_gt (m := m) (n := n) (old := old) (p := p) (b := b) (q := q) hk (by omega) (by omega) HSP.out)
            have HW := hid (IH.out (m - k) (n - k) (l - 1) old false (some ⟨bk, off, none⟩) q cap w2 (by omega) (by omega) (by omega) (by omega) HQ.out (by omega) HQI.out (by omega) (by unfold maxLen; omega))
            have hik' : ¬ (m : Int) ≤ (k : Int) := by omega
            have e1 : ((m - k : Nat) : Int) = (m : Int) - (k : Int) := by omega
            have e2 : ((n - k : Nat) : Int) = (n : Int) - (k : Int) := by omega
            rw [e1, e2] at HW
            clear e1 e2
            cases ho : joinO (m - k) (n - k) old false q with
            | none =>
              rw [ho] at HO HW
              have HW' : Hid (Calls Tryd.prog 35 #[.int .i64 ((m : Int) - (k : Int)), .int .i64 ((n : Int) - (k : Int)), .int .i64 old, .bool false, .slice (some ⟨bk, off, none⟩) (l - 1) cap] w2 fun e w' => e = .returned (.tuple #[.int .i64 0, .int .i64 0, .bool false]) ∧ Below w2.heap.size w2 w') := HW
              clear HW ho HSP HS1
              go_wp2_with fail
              refine HW'.out.mono ?_
              rintro e w3 ⟨rfl, hb3⟩
              go_wp2_with fail
              go_ret3
              exact ⟨by rw [HO.out]; rfl, hb3⟩
            | some xy =>
              obtain ⟨x, y⟩ := xy
              have hyb := joinO_bd ho
              rw [ho] at HO HW
              have HO' : Hid (joinO m n old b (q ++ [p]) = some (node p x, node p y)) := HO
              have HW' : Hid (Calls Tryd.prog 35 #[.int .i64 ((m : Int) - (k : Int)), .int .i64 ((n : Int) - (k : Int)), .int .i64 old, .bool false, .slice (some ⟨bk, off, none⟩) (l - 1) cap] w2 fun e w' => e = .returned (.tuple #[.int .i64 x, .int .i64 y, .bool true]) ∧ Below w2.heap.size w2 w') := HW
              clear HO HW ho HSP HS1
              go_wp2_with fail
              refine HW'.out.mono ?_
              rintro e w3 ⟨rfl, hb3⟩
              go_wp2_with fail
              refine (node_any p x _ hpb hyb.1).mono ?_
              rintro e w4 ⟨rfl, hb4⟩
              have HY := hid (fun w5 => node_any p y w5 hpb hyb.2)
              generalize node p x = z at HO' ⊢
              go_wp2_with fail
              refine (HY.out _).mono ?_
              rintro e w5 ⟨rfl, hb5⟩
              generalize node p y = z2 at HO' ⊢
              go_wp2_with fail
              go_ret3
              exact ⟨by rw [HO'.out]; rfl, kept (kept hb3 hb4) hb5⟩

/-- P8, as a Bool. -/
def growsB (old m root n : Int) (zs : List Int) : Bool := decide (1 ≤ m ∧ m ≤ n ∧ n ≤ 200) && decide (joinO m.toNat n.toNat old true zs = some (old, root))
theorem growsB_out {old m root n : Int} {zs : List Int} (h : ¬ (1 ≤ m ∧ m ≤ n ∧ n ≤ 200)) : growsB old m root n zs = false := by
  unfold growsB; rw [decide_eq_false h, Bool.false_and]
theorem growsB_in {old root : Int} {m n : Nat} {zs : List Int} (h1 : 1 ≤ m) (h2 : m ≤ n) (h3 : n ≤ 200) : growsB old (m : Int) root (n : Int) zs = decide (joinO m n old true zs = some (old, root)) := by
  unfold growsB
  rw [Int.toNat_natCast, Int.toNat_natCast, decide_eq_true (show 1 ≤ (m : Int) ∧ (m : Int) ≤ (n : Int) ∧ (n : Int) ≤ 200 from ⟨by omega, by omega, by omega⟩), Bool.true_and]
theorem growsB_some {old root x y : Int} {o : Option (Int × Int)} (h : o = some (x, y)) : decide (o = some (old, root)) = (x == old && y == root) := by
  rw [h, Bool.eq_iff_iff]; simp

set_option maxHeartbeats 1000000 in
theorem lgrows_out (old m root n : Int) (v : Value) (zs : List Int) (w : World) (h : ¬ (1 ≤ m ∧ m ≤ n ∧ n ≤ 200)) :
    Calls Tryd.prog 15 #[.int .i64 old, .int .i64 m, .int .i64 root, .int .i64 n, v] w fun e w' => e = .returned (.bool (growsB old m root n zs)) ∧ Below w.heap.size w w' := by
  have HF := hid (growsB_out (old := old) (root := root) (zs := zs) h)
  have H := hid h
  clear h
  by_cases h1 : m < 1
  · go_enter Tryd.func15, Tryd.ntmps15
    go_wp2_with fail
    go_ret
    exact ⟨by rw [HF.out]; rfl, Below.refl _ _⟩
  by_cases h2 : n < m
  · go_enter Tryd.func15, Tryd.ntmps15
    go_wp2_with fail
    go_ret
    exact ⟨by rw [HF.out]; rfl, Below.refl _ _⟩
  have h3 : 200 < n := by have := H.out; omega
  go_enter Tryd.func15, Tryd.ntmps15
  go_wp2_with fail
  go_ret
  exact ⟨by rw [HF.out]; rfl, Below.refl _ _⟩

set_option maxHeartbeats 1000000 in
theorem lgrows_in (old root : Int) (m n l : Nat) (a : Option Addr) (zs : List Int) (cap : Nat) (w : World) (h1 : 1 ≤ m) (h2 : m ≤ n) (h3 : n ≤ 200) (hl : zs.length = l) (hr : l ≤ 17592186043904) (hz : Ints w a zs) (hcap : l ≤ cap) (hmax : cap ≤ maxLen) :
    Calls Tryd.prog 15 #[.int .i64 old, .int .i64 (m : Int), .int .i64 root, .int .i64 (n : Int), .slice a l cap] w fun e w' => e = .returned (.bool (growsB old m root n zs)) ∧ Below w.heap.size w w' := by
  have HB := hid (growsB_in (old := old) (root := root) (zs := zs) h1 h2 h3)
  have HW := hid (joins_any n m n l old true a zs cap w h1 h2 (Nat.le_refl _) h3 hl hr hz hcap hmax)
  have i1 : ¬ (m : Int) < 1 := by omega
  have i2 : ¬ (n : Int) < (m : Int) := by omega
  have i3 : ¬ (200 : Int) < (n : Int) := by omega
  clear hl hz
  cases ho : joinO m n old true zs with
  | none =>
    have HB' : Hid (growsB old m root n zs = false) := HB.out.trans (decide_eq_false (by rw [ho]; simp))
    rw [ho] at HW
    have HW' : Hid (Calls Tryd.prog 35 #[.int .i64 (m : Int), .int .i64 (n : Int), .int .i64 old, .bool true, .slice a l cap] w fun e w' => e = .returned (.tuple #[.int .i64 0, .int .i64 0, .bool false]) ∧ Below w.heap.size w w') := HW
    clear HB HW ho
    go_enter Tryd.func15, Tryd.ntmps15
    go_wp2_with fail
    refine HW'.out.mono ?_
    rintro e w2 ⟨rfl, hb2⟩
    go_wp2_with fail
    go_ret
    exact ⟨by rw [HB'.out]; rfl, hb2⟩
  | some xy =>
    obtain ⟨x, y⟩ := xy
    have HB' : Hid (growsB old m root n zs = (x == old && y == root)) := HB.out.trans (growsB_some ho)
    rw [ho] at HW
    have HW' : Hid (Calls Tryd.prog 35 #[.int .i64 (m : Int), .int .i64 (n : Int), .int .i64 old, .bool true, .slice a l cap] w fun e w' => e = .returned (.tuple #[.int .i64 x, .int .i64 y, .bool true]) ∧ Below w.heap.size w w') := HW
    clear HB HW ho
    cases hx : (x == old) with
    | false =>
      rw [hx] at HB'
      go_enter Tryd.func15, Tryd.ntmps15
      go_wp2_with fail
      refine HW'.out.mono ?_
      rintro e w2 ⟨rfl, hb2⟩
      go_wp2_with fail
      go_ret
      exact ⟨by rw [HB'.out]; rfl, hb2⟩
    | true =>
      rw [hx] at HB'
      go_enter Tryd.func15, Tryd.ntmps15
      go_wp2_with fail
      refine HW'.out.mono ?_
      rintro e w2 ⟨rfl, hb2⟩
      go_wp2_with fail
      go_ret
      exact ⟨by rw [HB'.out]; rfl, hb2⟩

theorem lgrows_any (old m root n : Int) (l : Nat) (a : Option Addr) (zs : List Int) (cap : Nat) (w : World) (hl : zs.length = l) (hr : l ≤ 17592186043904) (hz : Ints w a zs) (hcap : l ≤ cap) (hmax : cap ≤ maxLen) :
    Calls Tryd.prog 15 #[.int .i64 old, .int .i64 m, .int .i64 root, .int .i64 n, .slice a l cap] w fun e w' => e = .returned (.bool (growsB old m root n zs)) ∧ Below w.heap.size w w' := by
  by_cases h : 1 ≤ m ∧ m ≤ n ∧ n ≤ 200
  · obtain ⟨h1, h2, h3⟩ := h
    obtain ⟨m', rfl⟩ : ∃ k : Nat, m = (k : Int) := ⟨m.toNat, by omega⟩
    obtain ⟨n', rfl⟩ : ∃ k : Nat, n = (k : Int) := ⟨n.toNat, by omega⟩
    exact lgrows_in old root m' n' l a zs cap w (by omega) (by omega) (by omega) hl hr hz hcap hmax
  · exact lgrows_out old m root n _ zs w h

end Go.Proofs.YtedblhcehlbbmabDoor

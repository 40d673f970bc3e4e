/-
  CONTRACTS: lenderref.GrowTexts, lenderref.Begins.
-/
import Derived.Test.YtedblhcehlbbmaaWalkTexts
import Derived.Test.YtedblhcehlbbmaaWalkRefGrows
import Derived.WalkKit
import Derived.WalkSpells
import Derived.WalkLawsBesides
namespace Go.Proofs.Ytedblhcehlbbmaa
open Go.RowKit

theorem growT_more (z : Int) : ∀ (ts : List Turn) (ps : List Int) (x : Int), ts.length ≤ ps.length → growT ts (ps ++ [z]) x = growT ts ps x
  | [], _, _, _ => by simp [growT]
  | _ :: _, [], _, h => by simp at h
  | t :: ts, p :: ps, x, h => by
    simp only [List.cons_append, growT]
    rw [growT_more z ts ps x (by simp at h; omega)]
theorem growTT_more (z : Int) : ∀ (ts : List Turn) (ps : List Int) (x : Int), ts.length ≤ ps.length → growTT ts (ps ++ [z]) x = growTT ts ps x
  | [], _, _, _ => by simp [growTT]
  | _ :: _, [], _, h => by simp at h
  | t :: ts, p :: ps, x, h => by
    simp only [List.cons_append, growTT]
    rw [growTT_more z ts ps x (by simp at h; omega), growT_more z ts ps x (by simp at h; omega)]

/-- The texts of Grows' check, as Go's strings. -/
def gtx (m n : Nat) (old : Int) (zs : List Int) : List ByteArray := (growTx m 0 n old true zs.reverse).map bs
/-- The texts of the turns from r on. -/
def gto (ts : List Turn) (qs : List Int) (x : Int) (r : Nat) : List ByteArray := (growTT (ts.drop r) (qs.reverse.drop r) x).map bs
theorem gto_end (ts : List Turn) (qs : List Int) (x : Int) : gto ts qs x ts.length = [] := by unfold gto; rw [List.drop_length]; simp [growTT]
theorem length_growTT : ∀ (ts : List Turn) (ps : List Int) (x : Int), (growTT ts ps x).length ≤ 2 * ts.length
  | [], _, _ => by simp [growTT]
  | _ :: _, [], _ => by simp [growTT]
  | t :: ts, p :: ps, x => by
    have := length_growTT ts ps x
    simp only [growTT, List.length_append, List.length_cons]
    split <;> simp <;> omega
theorem length_gto (ts : List Turn) (qs : List Int) (x : Int) (r : Nat) : (gto ts qs x r).length ≤ 2 * ts.length := by
  unfold gto
  have := length_growTT (ts.drop r) (qs.reverse.drop r) x
  rw [List.length_drop] at this
  rw [List.length_map]; omega
theorem gto_step (ts : List Turn) (qs : List Int) (x : Int) (j k : Nat) (h : j < ts.length) (hk : k + (j + 1) = qs.length) (hkz : k < qs.length) :
    (ts[j].left = true → gto ts qs x j = gto ts qs x (j + 1) ++ [bs (nodeT (growTo ts qs x (j + 1)).2 qs[k])]) ∧
    (ts[j].left = false → gto ts qs x j = (gto ts qs x (j + 1) ++ [bs (nodeT qs[k] (growTo ts qs x (j + 1)).1)]) ++ [bs (nodeT qs[k] (growTo ts qs x (j + 1)).2)]) := by
  obtain rfl : k = qs.length - 1 - j := by omega
  have hp : j < qs.reverse.length := by simp; omega
  have e : gto ts qs x j = (growTT (ts.drop (j + 1)) (qs.reverse.drop (j + 1)) x ++ (if ts[j].left = true then [nodeT (growT (ts.drop (j + 1)) (qs.reverse.drop (j + 1)) x).2 qs[qs.length - 1 - j]] else [nodeT qs[qs.length - 1 - j] (growT (ts.drop (j + 1)) (qs.reverse.drop (j + 1)) x).1, nodeT qs[qs.length - 1 - j] (growT (ts.drop (j + 1)) (qs.reverse.drop (j + 1)) x).2])).map bs := by
    unfold gto
    rw [List.drop_eq_getElem_cons h, List.drop_eq_getElem_cons hp, growTT, List.getElem_reverse]
  constructor
  · intro hb; rw [e, if_pos hb]; simp [gto, growTo]
  · intro hb; rw [e, if_neg (by simp [hb])]; simp [gto, growTo]
theorem gtx_whole {m n : Nat} {old : Int} {zs : List Int} {ts : List Turn} {lo : Nat} (ht : turnR m 0 n true = (ts, true, lo)) : gtx m n old zs = gto ts zs old 0 := by
  unfold gtx gto growTx startOf; rw [ht]; rfl
theorem gtx_part {m n : Nat} {old z : Int} {qs : List Int} {ts : List Turn} {lo : Nat} (ht : turnR m 0 n true = (ts, false, lo)) (hl : qs.length = ts.length) : gtx m n old (z :: qs) = gto ts qs z 0 := by
  unfold gtx gto growTx startOf
  rw [ht]
  simp only [List.reverse_cons, Bool.false_eq_true, if_false, List.drop_zero]
  rw [growTT_more z ts qs.reverse _ (by simp [hl])]
  simp

theorem turnR_part {m n lo : Nat} {ts : List Turn} (h1 : 1 ≤ m) (h2 : m ≤ n) (ht : turnR m 0 n true = (ts, false, lo)) : 0 < ts.length := by
  by_cases he : n = m
  · subst he; rw [turnR_end] at ht; cases ht
  · have hc := cutN_is (n - 0) (by omega)
    by_cases hk : m ≤ 0 + cutN (n - 0)
    · rw [turnR_le m 0 n _ true (by omega) (by omega) hc hk] at ht
      obtain ⟨e, _⟩ := Prod.mk.inj ht
      rw [← e]; simp
    · rw [turnR_gt m 0 n _ true (by omega) (by omega) hc] at ht
      obtain ⟨e, _⟩ := Prod.mk.inj ht
      rw [← e]; simp

set_option maxHeartbeats 4000000 in
theorem growTexts_any (old : Int) (m n l : Nat) (a : Option Addr) (zs : List Int) (cap : Nat) (w : World) (h1 : 1 ≤ m) (h2 : m ≤ n) (h3 : n ≤ 200) (ho : Bd old) (hbd : bdL zs = true) (hl : zs.length = l) (hr : l ≤ 17592186043904) (hz : Ints w a zs) (hcap : l ≤ cap) (hj : (joinO m n old true zs).isSome = true) :
    Calls Try.prog 55 #[.int .i64 old, .int .i64 (m : Int), .int .i64 (n : Int), .slice a l cap] w fun e w' => ∃ v, e = .returned v ∧ OwnS w' w.heap.size v (gtx m n old zs) ∧ Below w.heap.size w w' := by
  have hos : isSumB old = true := decide_eq_true ho
  have htl := (turnR_in n m 0 n true (by omega) (by omega) h2).2.1
  have HT := hid (turns_any m n w h1 h2 h3)
  cases htr : turnR m 0 n true with
  | mk ts r2 =>
  obtain ⟨whole, lo⟩ := r2
  rw [htr] at htl HT
  simp only at htl HT
  cases whole
  case' true =>
    have hlen : zs.length = ts.length := by
      rw [joinO_whole hos hbd h1 h2 htr] at hj
      split at hj
      · assumption
      · cases hj
    obtain ⟨qs, hqe⟩ : ∃ qs : List Int, qs = zs := ⟨_, rfl⟩
    obtain ⟨x0, hxe⟩ : ∃ x0 : Int, x0 = old := ⟨_, rfl⟩
    have HXE := hid hxe
    have HX : Hid (Bd x0) := by show Bd x0; rw [hxe]; exact ho
    have HG : Hid (gtx m n old zs = gto ts qs x0 0) := by show _ = _; rw [gtx_whole htr, hqe, hxe]
    have HQL : Hid (qs.length = ts.length) := by show _ = _; rw [hqe]; exact hlen
    have HQB : Hid (bdL qs = true) := by show _ = _; rw [hqe]; exact hbd
    have HQ : Hid (Ints w a qs) := by show Ints w a qs; rw [hqe]; exact hz
    have hlt : l = ts.length := by omega
    have HLT := hid hlt
    clear hz hl hbd hj hos htr hlen hqe hxe hlt
    go_enter Try.func55, Try.ntmps55
    go_wp2_with fail
    refine HT.out.mono ?_
    rintro e w2 ⟨v, rfl, hown, hb2⟩
    obtain ⟨at1, cap1, rfl, hc1, hm1, hi1⟩ := hown.form
    have HI1 := hid hi1
    clear hown hi1 HT
    go_wp2_with fail
    rw [show l = ts.length from HLT.out]
  case' false =>
    have hlen : zs.length = ts.length + 1 := by
      rw [joinO_part hos hbd h1 h2 htr] at hj
      split at hj
      · assumption
      · cases hj
    obtain ⟨z, qs, rfl⟩ : ∃ z qs, zs = z :: qs := by
      cases zs with
      | nil => simp at hlen
      | cons z q => exact ⟨z, q, rfl⟩
    have hql : qs.length = ts.length := by simpa using hlen
    obtain ⟨x0, hxe⟩ : ∃ x0 : Int, x0 = z := ⟨_, rfl⟩
    have HXE := hid hxe
    have HX : Hid (Bd x0) := by show Bd x0; rw [hxe]; exact bdL_all hbd z (by simp)
    have HG : Hid (gtx m n old (z :: qs) = gto ts qs x0 0) := by show _ = _; rw [gtx_part htr hql, hxe]
    have HQL : Hid (qs.length = ts.length) := hql
    have HQB : Hid (bdL qs = true) := by
      unfold bdL at hbd ⊢
      rw [List.all_cons, Bool.and_eq_true] at hbd
      exact hbd.2
    obtain ⟨b, off, rfl, hc⟩ := hz.at (by simp)
    have hc0 := hc 0 (by simp)
    rw [Nat.add_zero, List.getElem_cons_zero] at hc0
    have HC0 := hid hc0
    have hlt : l = ts.length + 1 := by simp at hl; omega
    have HQ : Hid (Ints w (some ⟨b, off + 1, none⟩) qs) := by
      refine .inr ⟨b, off + 1, rfl, fun i hi => ?_⟩
      have := hc (i + 1) (by simp; omega)
      rw [List.getElem_cons_succ] at this
      rw [Nat.add_assoc, Nat.add_comm 1 i]; exact this
    have htp := turnR_part h1 h2 htr
    have HLT := hid hlt
    have i8 : 0 < l := by omega
    have i9 : (1 : Int) ≤ (l : Int) := by omega
    have i10 : (l : Int) ≤ (cap : Int) := by omega
    have i11 : ¬ cap = 1 := by omega
    clear hz hl hbd hj hos htr hlen hxe hc hc0 hql hlt htp
    go_enter Try.func55, Try.ntmps55
    go_wp2_with fail
    refine HT.out.mono ?_
    rintro e w2 ⟨v, rfl, hown, hb2⟩
    have hc2 := cell_kept HC0.out hb2
    obtain ⟨at1, cap1, rfl, hc1, hm1, hi1⟩ := hown.form
    have HI1 := hid hi1
    clear hown hi1 HT
    go_wp2_with fail
    rw [show l - 1 = ts.length from by have := HLT.out; omega]
  all_goals
    go_loopw [9, 13, 14, 15, 16] (fun out x y i _ wr => ∃ r : Nat, r ≤ ts.length ∧ i = .int .i64 ((r : Int) - 1) ∧ x = .int .i64 (growTo ts qs x0 r).1 ∧ y = .int .i64 (growTo ts qs x0 r).2 ∧ Hid (OwnS wr w2.heap.size out (gto ts qs x0 r)) ∧ Below w2.heap.size w2 wr) (fun _ _ _ i _ _ => (intOf i + 1).toNat)
    case atStart => exact ⟨ts.length, Nat.le_refl _, rfl, by rw [growTo_end, HXE.out], by rw [growTo_end, HXE.out], by rw [gto_end]; exact OwnS.nil _ _, Below.refl _ _⟩
    case round =>
      obtain ⟨r, hrl, rfl, rfl, rfl, HO, hbel⟩ := hrel
      have hszr := hbel.size
      have hsz2 := hb2.size
      by_cases hr0 : r = 0
      · subst hr0
        go_wp2_with fail
        go_ret
        exact ⟨_, rfl, by rw [HG.out]; exact HO.out.mono hsz2, kept hb2 hbel⟩
      · obtain ⟨j, rfl⟩ : ∃ j, r = j + 1 := ⟨r - 1, by omega⟩
        obtain ⟨k, hk⟩ : ∃ k, k = ts.length - 1 - j := ⟨_, rfl⟩
        have hkz : k < qs.length := by have := HQL.out; omega
        obtain ⟨bz, oz, hae, hcz⟩ := (HQ.out.kept (kept hb2 hbel)).at (by omega)
        have hck := hcz k hkz
        have hpb := bdL_mem HQB.out k hkz
        obtain ⟨bt, hte, hct⟩ := (HI1.out.kept hbel).at (by omega)
        have hcl := (hct j (by omega)).1
        have HST := hid (growTo_step ts qs x0 j k (by omega) (by have := HQL.out; omega) hkz)
        have HGS := hid (gto_step ts qs x0 j k (by omega) (by have := HQL.out; omega) hkz)
        have hgb := growTo_bd ts qs x0 (j + 1) HX.out
        have HKL : Hid ((gto ts qs x0 (j + 1)).length ≤ 400) := by have := length_gto ts qs x0 (j + 1); show _ ≤ _; omega
        have hjt : j < ts.length := by omega
        generalize qs[k] = p at hck hpb HST HGS
        generalize ts[j].left = lf at hcl HST HGS
        cases hae
        cases hte
        subst hk
        clear hcz hct hkz
        rw [show (((j + 1 : Nat) : Int) - 1) = (j : Int) from by omega]
        have i20 : (0 : Int) ≤ (j : Int) := by omega
        have i21 : (j : Int) < (ts.length : Int) := by omega
        generalize (growTo ts qs x0 (j + 1)).1 = X at HST HGS hgb ⊢
        generalize (growTo ts qs x0 (j + 1)).2 = Y at HST HGS hgb ⊢
        cases lf with
        | true =>
          have HE := hid (HST.out.1 rfl)
          have HGE := hid (HGS.out.1 rfl)
          clear HST HGS
          go_wp2_with fail
          refine (knot_any _ _ _ hgb.2 hpb).mono ?_
          rintro e w3 ⟨rfl, hb3⟩
          have hown3 := HO.out.kept hb3
          have hsz3 := hb3.size
          have hbel3 : Below w2.heap.size w2 w3 := hbel.trans (hb3.mono hszr)
          have HJN := hid (fun w5 => joined_any Y p w5 hgb.2 hpb)
          generalize bs (nodeT Y p) = T at HGE ⊢
          clear hck hcl hb3
          go_wp2_with (at_builtin; refine wpList_appS rfl _ _ rfl w2.heap.size _ _ T rfl (hown3.alloc _) w3.heap.size 1 rfl (cell_alloc_one _ _ _) (by have := HKL.out; omega) (by simp; omega) ?_)
          intro v4 w4 hown4 hb4 _
          have hbel4 : Below w2.heap.size w2 w4 := (hbel3.alloc (by omega) _).trans hb4
          rw [← HGE.out] at hown4
          have HO4 := hid hown4
          clear hown3 hown4 hb4
          go_wp2_with fail
          refine (HJN.out _).mono ?_
          rintro e w5 ⟨rfl, hb5⟩
          have hsz4 := hbel4.size
          have hbel5 : Below w2.heap.size w2 w5 := hbel4.trans (hb5.mono hsz4)
          have HO5 := hid (HO4.out.kept hb5)
          generalize node Y p = Z at HE ⊢
          clear hb5
          go_wp2_with fail
          go_roundw
          case rel => exact ⟨j, by omega, rfl, by rw [HE.out], by rw [HE.out], HO5, hbel5⟩
          case measure => simp [intOf]
        | false =>
          have HE := hid (HST.out.2 rfl)
          have HGE := hid (HGS.out.2 rfl)
          clear HST HGS
          go_wp2_with fail
          refine (knot_any _ _ _ hpb hgb.1).mono ?_
          rintro e w3 ⟨rfl, hb3⟩
          have hown3 := HO.out.kept hb3
          have hsz3 := hb3.size
          have hbel3 : Below w2.heap.size w2 w3 := hbel.trans (hb3.mono hszr)
          have HKN := hid (fun w5 => knot_any p Y w5 hpb hgb.2)
          have HJN := hid (fun w5 => joined_any p X w5 hpb hgb.1)
          have HJN2 := hid (fun w5 => joined_any p Y w5 hpb hgb.2)
          generalize bs (nodeT p X) = T at HGE ⊢
          clear hck hcl hb3
          go_wp2_with (at_builtin; refine wpList_appS rfl _ _ rfl w2.heap.size _ _ T rfl (hown3.alloc _) w3.heap.size 1 rfl (cell_alloc_one _ _ _) (by have := HKL.out; omega) (by simp; omega) ?_)
          intro v4 w4 hown4 hb4 _
          have hbel4 : Below w2.heap.size w2 w4 := (hbel3.alloc (by omega) _).trans hb4
          have HO4 := hid hown4
          have hsz4 := hbel4.size
          clear hown3 hown4 hb4
          go_wp2_with fail
          refine (HKN.out _).mono ?_
          rintro e w5 ⟨rfl, hb5⟩
          have hown5 := HO4.out.kept hb5
          have hsz5 := hb5.size
          have hbel5 : Below w2.heap.size w2 w5 := hbel4.trans (hb5.mono hsz4)
          generalize bs (nodeT p Y) = T2 at HGE ⊢
          clear hb5
          go_wp2_with (at_builtin; refine wpList_appS rfl _ _ rfl w2.heap.size _ _ T2 rfl (hown5.alloc _) w5.heap.size 1 rfl (cell_alloc_one _ _ _) (by have := HKL.out; simp; omega) (by simp; omega) ?_)
          intro v6 w6 hown6 hb6 _
          have hbel6 : Below w2.heap.size w2 w6 := (hbel5.alloc (by omega) _).trans hb6
          have HO6 : Hid (OwnS w6 w2.heap.size v6 (gto ts qs x0 j)) := by show OwnS _ _ _ _; rw [HGE.out, List.append_assoc]; exact hown6
          have hsz6 := hbel6.size
          clear hown5 hown6 hb6
          go_wp2_with fail
          refine (HJN.out _).mono ?_
          rintro e w7 ⟨rfl, hb7⟩
          generalize node p X = Z at HE ⊢
          go_wp2_with fail
          refine (HJN2.out _).mono ?_
          rintro e w8 ⟨rfl, hb8⟩
          generalize node p Y = Z2 at HE ⊢
          have hbel8 : Below w2.heap.size w2 w8 := hbel6.trans ((kept hb7 hb8).mono hsz6)
          have HO8 := hid (HO6.out.kept (kept hb7 hb8))
          clear hb7 hb8
          go_wp2_with fail
          go_roundw
          case rel => exact ⟨j, by omega, rfl, by rw [HE.out], by rw [HE.out], HO8, hbel8⟩
          case measure => simp [intOf]

/-- Is a log the beginning of another? -/
def beginsB (aa bb : List ByteArray) : Bool := decide (aa = bb.take aa.length)
theorem begins_of {aa bb : List ByteArray} (hl : aa.length ≤ bb.length) (h : ∀ i (h1 : i < aa.length) (h2 : i < bb.length), aa[i] = bb[i]) : beginsB aa bb = true := by
  unfold beginsB
  refine decide_eq_true (List.ext_getElem (by rw [List.length_take]; omega) fun i h1 h2 => ?_)
  rw [List.getElem_take]; exact h i h1 (by omega)
theorem begins_long {aa bb : List ByteArray} (hl : bb.length < aa.length) : beginsB aa bb = false := by
  unfold beginsB
  refine decide_eq_false fun h => ?_
  have := congrArg List.length h
  rw [List.length_take] at this; omega
theorem begins_not {aa bb : List ByteArray} (i : Nat) (h1 : i < aa.length) (h2 : i < bb.length) (h : aa[i] ≠ bb[i]) : beginsB aa bb = false := by
  unfold beginsB
  refine decide_eq_false fun e => h ?_
  have e2 : aa[i]? = (bb.take aa.length)[i]? := by rw [← e]
  rw [List.getElem?_eq_getElem h1, List.getElem?_take_of_lt h1, List.getElem?_eq_getElem h2] at e2
  exact Option.some.inj e2

set_option maxHeartbeats 1000000 in
theorem rbegins_any (n m : Nat) (a b : Option Addr) (aa bb : List ByteArray) (c d : Nat) (w : World) (hn : aa.length = n) (hm : bb.length = m) (hs : Strs w a aa) (ht : Strs w b bb) (hr : n ≤ 200) (hr2 : m ≤ 200) :
    Calls Try.prog 54 #[.slice a n c, .slice b m d] w fun e w' => e = .returned (.bool (beginsB aa bb)) ∧ Below w.heap.size w w' := by
  by_cases hnm : n ≤ m
  · have HN := hid hn
    have HM := hid hm
    have HS := hid hs
    have HT := hid ht
    have i0 : (n : Int) ≤ (m : Int) := by omega
    clear hn hm hs ht
    go_enter Try.func54, Try.ntmps54
    go_wp2_with fail
    go_loopw [5, 6] (fun ok i wr => ∃ (k : Nat) (bo : Bool), k ≤ n ∧ i = .int .i64 (k : Int) ∧ ok = .bool bo ∧ Hid ((bo = true → ∀ i (h1 : i < aa.length) (h2 : i < bb.length), i < k → aa[i] = bb[i]) ∧ (bo = false → beginsB aa bb = false)) ∧ Below w.heap.size w wr) (fun _ i _ => n + 1 - (intOf i).toNat)
    case atStart => exact ⟨0, true, Nat.zero_le _, rfl, rfl, ⟨fun _ i _ _ h => by omega, fun h => by cases h⟩, Below.refl _ _⟩
    case round =>
      obtain ⟨k, bo, hk, rfl, rfl, HE, hbel⟩ := hrel
      cases bo with
      | false =>
        have HF := hid (HE.out.2 rfl)
        go_wp2_with fail
        go_ret
        exact ⟨by rw [HF.out]; rfl, hbel⟩
      | true =>
        by_cases hlt : k < n
        · have hlen := HN.out
          have hlen2 := HM.out
          obtain ⟨b1, o1, rfl, hc1⟩ := HS.out.at (by omega)
          obtain ⟨b2, o2, rfl, hc2⟩ := HT.out.at (by omega)
          have hx := cell_kept' (hc1 k (by omega)) hbel
          have hy := cell_kept' (hc2 k (by omega)) hbel
          by_cases heq : aa[k] = bb[k]
          · have HE2 : Hid (∀ i (h1 : i < aa.length) (h2 : i < bb.length), i < k + 1 → aa[i] = bb[i]) := fun i h1 h2 h => by
              by_cases hik : i < k
              · exact HE.out.1 rfl i h1 h2 hik
              · obtain rfl : i = k := by omega
                exact heq
            rw [← heq] at hy
            generalize aa[k] = s at hx hy
            clear heq hc1 hc2 hlen hlen2 HS HT
            have i1 : (0 : Int) ≤ (k : Int) := by omega
            have i2 : (k : Int) < (n : Int) := by omega
            have i3 : (k : Int) < (m : Int) := by omega
            go_wp2_with fail
            go_quiet (fail)
            go_wp2_with fail
            go_roundw
            case rel => exact ⟨k + 1, true, by omega, by go_num, rfl, ⟨fun _ => HE2.out, fun h => by cases h⟩, by first | exact hbel | exact below_drewN hbel _⟩
            case measure => simp [intOf]; omega
          · have HE2 : Hid (beginsB aa bb = false) := begins_not k (by omega) (by omega) heq
            have hne := bne_str heq
            clear hc1 hc2 HS HT
            have i1 : (0 : Int) ≤ (k : Int) := by omega
            have i2 : (k : Int) < (n : Int) := by omega
            have i3 : (k : Int) < (m : Int) := by omega
            generalize aa[k] = s at hx hne
            generalize bb[k] = t at hy hne
            clear heq hlen hlen2
            go_wp2_with fail
            go_quiet (fail)
            go_wp2_with fail
            go_roundw
            case rel => exact ⟨k + 1, false, by omega, by go_num, rfl, ⟨fun h => (by cases h), fun _ => HE2.out⟩, by first | exact hbel | exact below_drewN hbel _⟩
            case measure => simp [intOf]; omega
        · have HF : Hid (beginsB aa bb = true) := begins_of (by have := HN.out; have := HM.out; omega) (fun i h1 h2 => HE.out.1 rfl i h1 h2 (by have := HN.out; omega))
          go_wp2_with fail
          go_ret
          exact ⟨by rw [HF.out]; rfl, hbel⟩
  · have HF : Hid (beginsB aa bb = false) := begins_long (by omega)
    have i0 : ¬ (n : Int) ≤ (m : Int) := by omega
    clear hn hm hs ht
    go_enter Try.func54, Try.ntmps54
    go_wp2_with fail
    go_loopw [5, 6] (fun ok i wr => ok = .bool false ∧ Below w.heap.size w wr) (fun _ _ _ => 0)
    case atStart => exact ⟨rfl, Below.refl _ _⟩
    case round =>
      obtain ⟨rfl, hbel⟩ := hrel
      go_wp2_with fail
      go_ret
      exact ⟨by rw [HF.out]; rfl, hbel⟩

end Go.Proofs.Ytedblhcehlbbmaa

/-
  CONTRACTS: lenderref.PathTexts.
-/
import Derived.Test.YtedblhcehlbbmaaWalkTexts
import Derived.Test.YtedblhcehlbbmaaWalkRefWithin
import Derived.WalkKit
import Derived.WalkSpells
import Derived.WalkLawsBesides
namespace Go.Proofs.Ytedblhcehlbbmaa
open Go.RowKit

/-- The texts of Within's check, as Go's strings. -/
def ptx (n i : Nat) (ent : ByteArray) (zs : List Int) : List ByteArray := (pathT n i ent.data.toList zs).map bs
def stx (n i : Nat) (x : Int) (zs : List Int) : List ByteArray := (stepsR n i x zs).map bs
theorem ptx_eq (n i : Nat) (ent : ByteArray) (zs : List Int) : ptx n i ent zs = [bs (entT ent.data.toList)] ++ stx n i (entS ent) zs := rfl
theorem length_stepsF (f : Nat) : ∀ (n i : Nat) (x : Int) (zs : List Int), (stepsF f n i x zs).length ≤ f := by
  induction f with
  | zero => intro n i x zs; simp [stepsF]
  | succ f ih =>
    intro n i x zs
    cases zs with
    | nil =>
      simp only [stepsF]
      split
      · simp
      · split
        · have := ih ((n + 1) / 2) (i / 2) x []; omega
        · simp
    | cons p r =>
      simp only [stepsF]
      split
      · simp
      · split
        · have := ih ((n + 1) / 2) (i / 2) x (p :: r); omega
        · have := ih ((n + 1) / 2) (i / 2) (if i % 2 = 0 then node x p else node p x) r
          rw [List.length_cons]; omega
theorem length_ptx (n i : Nat) (ent : ByteArray) (zs : List Int) : (ptx n i ent zs).length ≤ n + 1 := by
  rw [ptx_eq]; unfold stx stepsR
  have := length_stepsF n n i (entS ent) zs
  simp; omega

set_option maxHeartbeats 2000000 in
theorem pathTexts_any (r : Int) (n i l : Nat) (ent : ByteArray) (a : Option Addr) (zs : List Int) (cap : Nat) (w : World) (h1 : 1 ≤ n) (h2 : n ≤ 200) (h3 : i < n) (h4 : ent.size ≤ 40) (hl : zs.length = l) (hr : l ≤ 17592186043904) (hz : Ints w a zs) (hb : bdL zs = true) (hlead : leadR n i (entS ent) zs = some r) :
    Calls Try.prog 50 #[.int .i64 (n : Int), .int .i64 (i : Int), .string ent, .slice a l cap] w fun e w' => ∃ v, e = .returned v ∧ OwnS w' w.heap.size v (ptx n i ent zs) ∧ Below w.heap.size w w' := by
  have HBD := hid (fun k (hk : k < zs.length) => bdL_mem hb k hk)
  have HL := hid hl
  have HZ := hid hz
  have HLD := hid hlead
  have HPL := hid (length_ptx n i ent zs)
  clear hl hz hb hlead
  have hsz41 : (bs (entT ent.data.toList)).size ≤ 41 := by rw [size_bs, length_entT]; simp; omega
  go_enter Try.func50, Try.ntmps50
  go_wp2_with fail
  rw [ent_str]
  have hown1 := OwnS.one w (bs (entT ent.data.toList)) w.heap.size (Nat.le_refl _)
  have hbel1 := (Below.refl w.heap.size w).alloc (Nat.le_refl _) (.cells #[.string (bs (entT ent.data.toList))] 9)
  refine (rsum_any _ _ (by unfold maxLen; omega)).mono ?_
  rintro e w2 ⟨rfl, hb2⟩
  rw [toList_bs]
  have HOWN2 := hid (hown1.kept hb2)
  have hbel2 : Below w.heap.size w w2 := hbel1.trans (hb2.mono (by simp))
  clear hown1 hbel1 hb2
  go_wp2_with fail
  go_loopw [0, 1, 9, 10, 11, 12, 13] (fun vn vi out vx vt _ _ wr => ∃ (n' i' t : Nat) (x' : Int) (done : List ByteArray), vn = .int .i64 (n' : Int) ∧ vi = .int .i64 (i' : Int) ∧ vx = .int .i64 x' ∧ vt = .int .i64 (t : Int) ∧ 1 ≤ n' ∧ n' ≤ 200 ∧ i' < n' ∧ t ≤ l ∧ Bd x' ∧ Hid (leadR n' i' x' (zs.drop t) = some r) ∧ Hid (done ++ stx n' i' x' (zs.drop t) = ptx n i ent zs) ∧ Hid (OwnS wr w.heap.size out done) ∧ Below w.heap.size w wr) (fun vn _ _ _ _ _ _ _ => (intOf vn).toNat)
  case atStart => exact ⟨n, i, 0, entS ent, _, rfl, rfl, rfl, rfl, h1, h2, h3, Nat.zero_le _, ent_bd _, HLD.out, (ptx_eq n i ent zs).symm, HOWN2, hbel2⟩
  case round =>
    obtain ⟨n', i', t, x', done, rfl, rfl, rfl, rfl, hn1, hn2, hi, ht, hx, HE, HD, HO, hbel⟩ := hrel
    have hszr := hbel.size
    have HKL : Hid (done.length ≤ 1000000) := by
      have := congrArg List.length HD.out
      rw [List.length_append] at this
      have := HPL.out
      show _ ≤ _; omega
    by_cases hn : 1 < n'
    · have hn' : (1 : Int) < (n' : Int) := by omega
      by_cases ha : i' % 2 = 0 ∧ i' + 1 = n'
      · have HA := hid (leadR_alone n' i' x' (zs.drop t) hn ha)
        have HA2 : Hid (done ++ stx ((n' + 1) / 2) (i' / 2) x' (zs.drop t) = ptx n i ent zs) := by
          have := HD.out
          unfold stx at this ⊢
          rw [stepsR_alone n' i' x' (zs.drop t) hn ha] at this
          exact this
        have hp1 : ((i' : Int) % 2 == 0) = true := by simp; omega
        have hp2 : ((i' : Int) + 1 == (n' : Int)) = true := by simp; omega
        clear ha
        go_wp2_with fail
        go_roundw
        case rel => exact ⟨(n' + 1) / 2, i' / 2, t, x', done, by go_num, by go_num, rfl, rfl, by omega, by omega, by omega, ht, hx, HA.out.symm.trans HE.out, HA2, HO, hbel⟩
        case measure => simp [intOf]; omega
      · have htl : t < l := by
          rcases Nat.lt_or_ge t l with h | h
          · exact h
          · have e := HE.out
            rw [List.drop_eq_nil_of_le (by rw [HL.out]; omega), leadR_nil n' i' x' hn ha] at e
            cases e
        have hkz : t < zs.length := by rw [HL.out]; exact htl
        obtain ⟨b, off, rfl, hc⟩ := HZ.out.at (by omega)
        have hck := cell_kept' (hc t hkz) hbel
        have hyb := HBD.out t hkz
        have hdc := drop_cons zs t hkz
        generalize zs[t] = y at hck hyb hdc
        have HA := hid (leadR_cons n' i' x' y (zs.drop (t + 1)) hn ha)
        have HB := hid (stepsR_cons n' i' x' y (zs.drop (t + 1)) hn ha)
        rw [hdc] at HE HD
        clear hc hkz hdc
        by_cases hev : i' % 2 = 0
        · have hp1 : ((i' : Int) % 2 == 0) = true := by simp; omega
          have hp2 : ((i' : Int) + 1 == (n' : Int)) = false := by simp; omega
          have hp3 : ((i' : Int) % 2 == 1) = false := by simp; omega
          rw [if_pos hev] at HA
          rw [if_pos hev, if_pos hev] at HB
          have HD2 : Hid ((done ++ [bs (nodeT x' y)]) ++ stx ((n' + 1) / 2) (i' / 2) (node x' y) (zs.drop (t + 1)) = ptx n i ent zs) := by
            have := HD.out
            unfold stx at this ⊢
            rw [HB.out] at this
            show _ = _
            rw [List.append_assoc]; exact this
          have HE2 := hid (HA.out.symm.trans HE.out)
          clear ha hev HA HB HE HD
          have hown1 := HO.out
          go_wp2_with fail
          refine (knot_any x' y _ hx hyb).mono ?_
          rintro e w3 ⟨rfl, hb3⟩
          have hown3 := HO.out.kept hb3
          have hsz3 := hb3.size
          have hbel3 : Below w.heap.size w w3 := hbel.trans (hb3.mono hszr)
          have hz5 : (bs (nodeT x' y)).size ≤ 41 := by rw [size_bs, length_nodeT]; omega
          have HSM : Hid (sm (bs (nodeT x' y)).data.toList = node x' y) := by show _ = _; rw [toList_bs]; rfl
          clear hown1 hck hb3
          generalize bs (nodeT x' y) = T at HD2 HSM hz5 ⊢
          go_wp2_with (at_builtin; refine wpList_appS rfl _ _ rfl w.heap.size _ _ T rfl (hown3.alloc _) w3.heap.size 1 rfl (cell_alloc_one _ _ _) HKL.out (by simp; omega) ?_)
          intro v4 w4 hown4 hb4 _
          have hbel4 : Below w.heap.size w w4 := (hbel3.alloc (by omega) _).trans hb4
          have HO4 := hid hown4
          clear hown3 hown4 hb4
          go_wp2_with fail
          refine (rsum_any T _ (by unfold maxLen; omega)).mono ?_
          rintro e w5 ⟨rfl, hb5⟩
          rw [HSM.out]
          have hnb := node_bd x' y
          generalize node x' y = z at HD2 HE2 hnb ⊢
          have hsz4 := hbel4.size
          have hbel5 : Below w.heap.size w w5 := hbel4.trans (hb5.mono hsz4)
          have HO5 := hid (HO4.out.kept hb5)
          clear hb5 HSM
          go_wp2_with fail
          go_roundw
          case rel => exact ⟨(n' + 1) / 2, i' / 2, t + 1, z, _, by go_num, by go_num, rfl, by go_num, by omega, by omega, by omega, by omega, hnb, HE2, HD2, HO5, hbel5⟩
          case measure => simp [intOf]; omega
        · have hp1 : ((i' : Int) % 2 == 0) = false := by simp; omega
          have hp3 : ((i' : Int) % 2 == 1) = true := by simp; omega
          rw [if_neg hev] at HA
          rw [if_neg hev, if_neg hev] at HB
          have HD2 : Hid ((done ++ [bs (nodeT y x')]) ++ stx ((n' + 1) / 2) (i' / 2) (node y x') (zs.drop (t + 1)) = ptx n i ent zs) := by
            have := HD.out
            unfold stx at this ⊢
            rw [HB.out] at this
            show _ = _
            rw [List.append_assoc]; exact this
          have HE2 := hid (HA.out.symm.trans HE.out)
          clear ha hev HA HB HE HD
          go_wp2_with fail
          refine (knot_any x' y _ hx hyb).mono ?_
          rintro e w3 ⟨rfl, hb3⟩
          have hck3 := cell_kept' hck hb3
          generalize bs (nodeT x' y) = T0
          go_wp2_with fail
          refine (knot_any y x' _ hyb hx).mono ?_
          rintro e w6 ⟨rfl, hb6⟩
          have hown3 := HO.out.kept (kept hb3 hb6)
          have hsz3 := (kept hb3 hb6).size
          have hbel3 : Below w.heap.size w w6 := hbel.trans ((kept hb3 hb6).mono hszr)
          have hz5 : (bs (nodeT y x')).size ≤ 41 := by rw [size_bs, length_nodeT]; omega
          have HSM : Hid (sm (bs (nodeT y x')).data.toList = node y x') := by show _ = _; rw [toList_bs]; rfl
          clear hck hck3 hb3 hb6
          generalize bs (nodeT y x') = T at HD2 HSM hz5 ⊢
          go_wp2_with (at_builtin; refine wpList_appS rfl _ _ rfl w.heap.size _ _ T rfl (hown3.alloc _) w6.heap.size 1 rfl (cell_alloc_one _ _ _) HKL.out (by simp; omega) ?_)
          intro v4 w4 hown4 hb4 _
          have hbel4 : Below w.heap.size w w4 := (hbel3.alloc (by omega) _).trans hb4
          have HO4 := hid hown4
          clear hown3 hown4 hb4
          go_wp2_with fail
          refine (rsum_any T _ (by unfold maxLen; omega)).mono ?_
          rintro e w5 ⟨rfl, hb5⟩
          rw [HSM.out]
          have hnb := node_bd y x'
          generalize node y x' = z at HD2 HE2 hnb ⊢
          have hsz4 := hbel4.size
          have hbel5 : Below w.heap.size w w5 := hbel4.trans (hb5.mono hsz4)
          have HO5 := hid (HO4.out.kept hb5)
          clear hb5 HSM
          go_wp2_with fail
          go_roundw
          case rel => exact ⟨(n' + 1) / 2, i' / 2, t + 1, z, _, by go_num, by go_num, rfl, by go_num, by omega, by omega, by omega, by omega, hnb, HE2, HD2, HO5, hbel5⟩
          case measure => simp [intOf]; omega
    · have hs1 : stx n' i' x' (zs.drop t) = [] := by unfold stx; rw [stepsR_one n' i' x' _ (by omega)]; rfl
      have HF : Hid (done = ptx n i ent zs) := by have := HD.out; rw [hs1, List.append_nil] at this; exact this
      clear hs1
      go_wp2_with fail
      go_ret
      exact ⟨_, rfl, by rw [← HF.out]; exact HO.out, hbel⟩

end Go.Proofs.Ytedblhcehlbbmaa

/-
  lenderkeep.Grown, out of what a call of Twins answers: the law's own part.
-/
import Derived.Test.YtedblhcehlbbmabWalkKeep
import Derived.Test.YtedblhcehlbbmabLawShown
import Derived.Test.YtedblhcehlbbmabWalkFurther
import Derived.WalkKit
import Derived.WalkSpells
import Derived.WalkLawsBesides
import Derived.Deep.QuietTactic
import Derived.BigQuiet
namespace Go.Proofs.Ytedblhcehlbbmab
open Go.RowKit

/-- Further's proof is good for each beginning. -/
theorem grows_own (L : List ByteArray) (m : Nat) (h1 : 1 ≤ m) (h2 : m ≤ L.length) (h200 : L.length ≤ 200) : growsB (rootS (L.take m)) (m : Int) (rootS L) (L.length : Int) (furS L m true) = true := by
  rw [growsB_in h1 h2 h200]
  unfold joinO furS
  have hb : bdL (furR (lvs L) m true) = true := bdL_of (fur_bd L.length (lvs L) m true (length_lvs L) h1 h2 (lvs_bd L))
  have ho : isSumB (rootS (L.take m)) = true := decide_eq_true (rootS_bd _)
  rw [hb, ho, Bool.and_true, if_pos rfl]
  have e := fur_joins L.length (lvs L) m true (rootS (L.take m)) (length_lvs L) h1 h2 (fun _ => by unfold rootS; rw [lvs_take])
  rw [e, ← lvs_take]
  exact decide_eq_true rfl

set_option maxHeartbeats 4000000 in
theorem lawgrown_any {f : List ByteArray → List ByteArray → List Int → ByteArray × ByteArray × Int} (T : TwinsSpec f) (n m0 l : Nat) (c : Int) (a b d : Option Addr) (ss tt : List ByteArray) (zs : List Int) (ca cb cd : Nat) (w : World) (hn : ss.length = n) (hm : tt.length = m0) (hl : zs.length = l) (hs : Strs w a ss) (ht : Strs w b tt) (hz : Ints w d zs)
    (hr : n * 16 ≤ 140737488351232) (hr2 : m0 * 16 ≤ 140737488351232) (hr3 : l * 8 ≤ 140737488351232) (hcd : l ≤ cd) (hmd : cd ≤ maxLen) (hc0 : -9223372036854775808 ≤ c) (hc1 : c ≤ 9223372036854775807) :
    Calls Try.prog 5 #[.slice a n ca, .slice b m0 cb, .int .i64 c, .slice d l cd] w fun e w' => e = .returned (.bool true) ∧ Below w.heap.size w w' := by
  have HZ := hid hz; have HL := hid hl; have TC := hid T; have HMD := hid hmd
  have HLG := hid (klog_any n a ss ca w hn hs hr)
  have HLG2 := hid (fun w1 (h : Below w.heap.size w w1) => klog_any m0 b tt cb w1 hm (ht.kept h) hr2)
  clear hn hm hl hs ht hz T hmd
  go_enter Try.func5, Try.ntmps5
  go_wp2_with fail
  refine HLG.out.mono ?_
  rintro e w1 ⟨v1, rfl, hown1, hb1⟩
  have hp := keepL_pos ss
  have h100 := keepL_len ss
  have H40 := hid (keepL_40 ss)
  have HLO := hid (keepL_long ss)
  generalize keepL ss = B at hown1 hp h100 H40 HLO
  obtain ⟨a1, c1, rfl, hlc1, hmc1, hS1⟩ := hown1.form
  have HS1 := hid hS1
  have HMC := hid hmc1
  obtain ⟨N, hN⟩ : ∃ N, N = B.length := ⟨_, rfl⟩
  rw [← hN] at hlc1 hp h100
  rw [← hN]
  have HN : Hid (B.length = N) := hN.symm
  clear hown1 hS1 HLG hmc1 hN
  go_wp2_with fail
  refine (HLG2.out w1 hb1).mono ?_
  rintro e w2 ⟨v2, rfl, hown2, hb2⟩
  have hp2 := keepL_pos tt
  have h1002 := keepL_len tt
  have H402 := hid (keepL_40 tt)
  have HLO2 := hid (keepL_long tt)
  generalize keepL tt = A at hown2 hp2 h1002 H402 HLO2
  obtain ⟨a2, c2, rfl, hlc2, hmc2, hS2⟩ := hown2.form
  have HS2 := hid hS2
  have HMC2 := hid hmc2
  obtain ⟨M, hM⟩ : ∃ M, M = A.length := ⟨_, rfl⟩
  rw [← hM] at hlc2 hp2 h1002
  rw [← hM]
  have HM : Hid (A.length = M) := hM.symm
  clear hown2 hS2 HLG2 hmc2 hM
  go_wp2_with fail
  refine (pick_any c N _ hp (by omega) hc0 hc1).mono ?_
  rintro e w3 ⟨rfl, rfl⟩
  have hi := pickN_lt c N hp
  generalize pickN c N = i at hi ⊢
  obtain ⟨b1, o1, rfl, hcB⟩ := HS1.out.at (by have := HN.out; omega)
  have hSB3 := HS1.out.kept hb2
  have HSB3 := hid hSB3
  clear hSB3
  have hLR := lroot_any N (some ⟨b1, o1, none⟩) B c1 w3 HN.out HSB3.out (by omega) hlc1 HMC.out
  rw [HLO.out] at hLR
  have HLR : Hid (Calls Try.prog 10 #[.slice (some ⟨b1, o1, none⟩) N c1] w3 fun e w' => e = .returned (.tuple #[.int .i64 (rootS B), .int .i64 0]) ∧ Below w3.heap.size w3 w') := hLR
  have hcB3 : ∀ i (h : i < B.length), w3.cell? ⟨b1, o1 + i, none⟩ = some (.string B[i]) := fun i h => cell_kept (hcB i h) hb2
  have HCB := hid hcB3
  clear hLR hcB hcB3
  have im : ((1 : Int) + (i : Int)) = ((i + 1 : Nat) : Int) := by omega
  have IM := hid im
  clear im
  go_wp2_with fail
  refine HLR.out.mono ?_
  rintro e w4 ⟨rfl, hb4⟩
  clear HLR
  rw [IM.out]
  obtain ⟨m, hmi⟩ : ∃ m, m = i + 1 := ⟨_, rfl⟩
  rw [← hmi]
  have h1m : 1 ≤ m := by omega
  have hmN : m ≤ N := by omega
  clear hmi IM hi
  have hlt40 : ∀ s ∈ B.take m, s.size ≤ 40 := fun s hs => H40.out s (List.mem_of_mem_take hs)
  have hLR2 := lroot_any m (some ⟨b1, o1, none⟩) (B.take m) c1 w4 (by rw [List.length_take]; have := HN.out; omega) ((Strs.take HCB.out m).kept hb4) (by omega) (by omega) HMC.out
  rw [longB_of (by rw [List.length_take]; have := HN.out; omega) hlt40] at hLR2
  have HLR2 : Hid (Calls Try.prog 10 #[.slice (some ⟨b1, o1, none⟩) m c1] w4 fun e w' => e = .returned (.tuple #[.int .i64 (rootS (B.take m)), .int .i64 0]) ∧ Below w4.heap.size w4 w') := hLR2
  clear hLR2 hlt40
  have i1 : (m : Int) ≤ (c1 : Int) := by omega
  have i2 : (0 : Int) ≤ (m : Int) := by omega
  go_wp2_with fail
  refine HLR2.out.mono ?_
  rintro e w5 ⟨rfl, hb5⟩
  clear HLR2
  have k35 := kept hb4 hb5
  go_wp2_with fail
  refine (lfurther_ok N m (some ⟨b1, o1, none⟩) B c1 w5 HN.out (HSB3.out.kept k35) HLO.out h1m hmN hlc1 HMC.out).mono ?_
  rintro e w6 ⟨v6, rfl, hown6, hb6⟩
  have k36 := kept k35 hb6
  have hgo := grows_own B m h1m (by rw [HN.out]; exact hmN) (by rw [HN.out]; omega)
  rw [HN.out] at hgo
  have hpl := furS_len B m true
  obtain ⟨a6, c6, rfl, hl6, hm6, hI6⟩ := hown6.form
  have HI6 := hid hI6
  generalize furS B m true = P at hgo hpl HI6 hl6
  obtain ⟨p, hpp⟩ : ∃ p, p = P.length := ⟨_, rfl⟩
  rw [← hpp] at hl6
  rw [← hpp]
  have HPL : Hid (P.length = p) := hpp.symm
  have hp200 : p ≤ 200 := by rw [hpp]; have := HN.out; omega
  have HGO := hid hgo
  have HMC6 := hid hm6
  clear hown6 hI6 hgo hpl hpp hm6
  go_wp2_with fail
  have hG1 := lgrows_any (rootS (B.take m)) m (rootS B) N p a6 P c6 w6 HPL.out (by omega) HI6.out hl6 HMC6.out
  rw [HGO.out] at hG1
  refine hG1.mono ?_
  rintro e w7 ⟨rfl, hb7⟩
  clear hG1
  have k37 := kept k36 hb7
  have hLR3 := lroot_any M a2 A c2 w7 HM.out (HS2.out.kept k37) (by omega) hlc2 HMC2.out
  rw [HLO2.out] at hLR3
  have HLR3 : Hid (Calls Try.prog 10 #[.slice a2 M c2] w7 fun e w' => e = .returned (.tuple #[.int .i64 (rootS A), .int .i64 0]) ∧ Below w7.heap.size w7 w') := hLR3
  clear hLR3
  generalize rootS (B.take m) = RM
  go_wp2_with fail
  refine HLR3.out.mono ?_
  rintro e w8 ⟨rfl, hb8⟩
  clear HLR3
  have k38 := kept k37 hb8
  have k08 : Below w.heap.size w w8 := kept (kept hb1 hb2) k38
  go_wp2_with fail
  refine (lgrows_any (rootS A) M (rootS B) N l d zs cd w8 HL.out (by omega) (HZ.out.kept k08) hcd HMD.out).mono ?_
  rintro e w9 ⟨rfl, hb9⟩
  have k39 := kept k38 hb9
  have k09 := kept k08 hb9
  obtain ⟨X, Y, E, hf⟩ : ∃ X Y E, f A B zs = (X, Y, E) := ⟨_, _, _, rfl⟩
  have hTC := TC.out.call M N l a2 (some ⟨b1, o1, none⟩) d A B zs c2 c1 cd w9 HM.out HN.out HL.out (HS2.out.kept k39) (HSB3.out.kept k39) (HZ.out.kept k09) (by omega) (by omega) hr3 hlc2 HMC2.out hlc1 HMC.out hcd HMD.out
  have hT1 := TC.out.calm A B zs HLO2.out HLO.out
  have hT2 := TC.out.away A B zs HLO2.out HLO.out
  rw [hf] at hTC hT1 hT2
  rw [HM.out, HN.out] at hT1 hT2
  have HTC := hid hTC; have HT1 := hid hT1; have HT2 := hid hT2
  clear hTC hT1 hT2 hf
  obtain ⟨G, hG⟩ : ∃ G, G = growsB (rootS A) (M : Int) (rootS B) (N : Int) zs := ⟨_, rfl⟩
  rw [← hG] at HT1 HT2
  rw [← hG]
  clear hG
  go_wp2_with fail
  refine HTC.out.mono ?_
  rintro e w10 ⟨rfl, hb10⟩
  have k310 := kept k39 hb10
  have k010 := kept k09 hb10
  have HSA10 := hid (HS2.out.kept k310)
  have HSB10 := hid (HSB3.out.kept k310)
  clear HTC
  have HSZ : Hid (∀ t ∈ ltx A ++ ltx B ++ gtx M N (rootS A) zs, t.size ≤ 1000000) := by
    intro t ht
    rcases List.mem_append.1 ht with ht | ht
    · rcases List.mem_append.1 ht with ht | ht
      · exact ltx_size ht H402.out
      · exact ltx_size ht H40.out
    · exact gtx_size ht
  go_wp2_with fail
  go_loopw [25, 26] (fun ok i wr => ∃ (k : Nat) (bo : Bool), k ≤ M ∧ i = .int .i64 (k : Int) ∧ ok = .bool bo ∧ Hid ((bo = true → M ≤ N ∧ ∀ i (h1 : i < A.length) (h2 : i < B.length), i < k → A[i] = B[i]) ∧ (bo = false → beginsB A B = false)) ∧ Below w10.heap.size w10 wr) (fun _ i _ => M + 1 - (intOf i).toNat)
  case atStart =>
    refine ⟨0, decide (M ≤ N), Nat.zero_le _, rfl, rfl, ⟨fun h => ⟨of_decide_eq_true h, fun i _ _ h => by omega⟩, fun h => ?_⟩, Below.refl _ _⟩
    have := of_decide_eq_false h
    exact begins_long (by have := HN.out; have := HM.out; omega)
  case round =>
    obtain ⟨k, bo, hk, rfl, rfl, HE, hbel⟩ := hrel
    have kfin := kept k010 hbel
    by_cases hgo : bo = true ∧ k < M
    · obtain ⟨rfl, hlt⟩ := hgo
      obtain ⟨hMN, heqs⟩ := HE.out.1 rfl
      have HEQ := hid heqs
      have HMN := hid hMN
      clear heqs
      have hlen := HM.out
      have hlen2 := HN.out
      obtain ⟨b2, o2, hae, hc1⟩ := HSA10.out.at (by omega)
      obtain ⟨b3, o3, hbe, hc2⟩ := HSB10.out.at (by omega)
      have hx := cell_kept' (hc1 k (by omega)) hbel
      have hy := cell_kept' (hc2 k (by omega)) hbel
      cases hbe
      subst hae
      have i1 : (0 : Int) ≤ (k : Int) := by omega
      have i2 : (k : Int) < (M : Int) := by omega
      have i3 : (k : Int) < (N : Int) := by omega
      by_cases heq : A[k]'(by omega) = B[k]'(by omega)
      · have HE2 : Hid (∀ i (h1 : i < A.length) (h2 : i < B.length), i < k + 1 → A[i] = B[i]) := fun i h1 h2 h => by
          by_cases hik : i < k
          · exact HEQ.out i h1 h2 hik
          · obtain rfl : i = k := by omega
            exact heq
        rw [← heq] at hy
        generalize A[k]'(by omega) = s at hx hy
        clear heq hc1 hc2 hlen hlen2 HT1 HT2 hMN
        go_wp2_with fail
        go_quiet (fail)
        go_wp2_with fail
        go_roundw
        case rel => exact ⟨k + 1, true, by omega, by go_num, rfl, ⟨fun _ => ⟨HMN.out, HE2.out⟩, fun h => (by cases h)⟩, by first | exact hbel | exact below_drewN hbel _⟩
        case measure => simp [intOf]; omega
      · have HE2 : Hid (beginsB A B = false) := begins_not k (by omega) (by omega) heq
        have hne := bne_str heq
        generalize A[k]'(by omega) = s at hx hne
        generalize B[k]'(by omega) = t at hy hne
        clear heq hc1 hc2 hlen hlen2 HT1 HT2 hMN
        go_wp2_with fail
        go_quiet (fail)
        go_wp2_with fail
        go_roundw
        case rel => exact ⟨k + 1, false, by omega, by go_num, rfl, ⟨fun h => (by cases h), fun _ => HE2.out⟩, by first | exact hbel | exact below_drewN hbel _⟩
        case measure => simp [intOf]; omega
    · have HBG : Hid (beginsB A B = bo) := by
        cases bo with
        | false => exact HE.out.2 rfl
        | true =>
          have h := HE.out.1 rfl
          exact begins_of (by have := HN.out; have := HM.out; omega) (fun i h1 h2 => h.2 i h1 h2 (by have := HM.out; have : ¬ k < M := fun hh => hgo ⟨rfl, hh⟩; omega))
      have hno : bo = true → ¬ (k : Int) < (M : Int) := fun hb hlt => hgo ⟨hb, by omega⟩
      clear hgo HE
      rw [HBG.out] at HT1 HT2
      cases G with
      | false =>
        have hx := HT1.out (.inl rfl)
        cases hx
        clear HT1 HT2
        unfold eS
        cases bo with
        | false =>
          clear hno
          go_wp2_with fail
          go_ret
          exact ⟨rfl, kfin⟩
        | true =>
          have hno2 := hno rfl
          clear hno
          go_wp2_with fail
          go_ret
          exact ⟨rfl, kfin⟩
      | true =>
        cases bo with
        | true =>
          have hx := HT1.out (.inr rfl)
          cases hx
          have hno2 := hno rfl
          clear HT1 HT2 hno
          unfold eS
          go_wp2_with fail
          go_ret
          exact ⟨rfl, kfin⟩
        | false =>
          obtain ⟨t, u, ht, hu, hx, hxy, hsm⟩ := HT2.out rfl rfl
          cases hx
          have HTS := hid (HSZ.out X ht)
          have HUS := hid (HSZ.out Y hu)
          have HXY := hid hxy; have HSM := hid hsm
          clear ht hu hxy hsm HT1 HT2 hno
          go_wp2_with fail
          refine (kaway_any X Y _ (by have := HTS.out; unfold maxLen; omega) (by have := HUS.out; unfold maxLen; omega) HXY.out HSM.out).mono ?_
          rintro e w11 ⟨rfl, rfl⟩
          go_wp2_with fail
          go_ret
          exact ⟨rfl, kfin⟩

end Go.Proofs.Ytedblhcehlbbmab

/-
  lenderkeep.Shown, out of what a call of Twin answers: the law's own part.
-/
import Derived.Test.YtedblhcehlbbmabWalkKeep
import Derived.Test.YtedblhcehlbbmabWalkPath
import Derived.WalkKit
import Derived.WalkSpells
import Derived.WalkLawsBesides
namespace Go.Proofs.Ytedblhcehlbbmab
open Go.RowKit

theorem bdL_of {zs : List Int} (h : ∀ x ∈ zs, Bd x) : bdL zs = true := by
  unfold bdL
  rw [List.all_eq_true]
  intro x hx
  exact decide_eq_true (h x hx)
/-- Path's proof of each entry is good for it. -/
theorem within_own (L : List ByteArray) (i : Nat) (h : i < L.length) (h200 : L.length ≤ 200) (h40 : ∀ s ∈ L, s.size ≤ 40) : withinB (rootS L) (L.length : Int) (i : Int) L[i] (pathR (lvs L) i) = true := by
  rw [withinB_in (by omega) h200 h (h40 _ (List.getElem_mem _))]
  unfold leadO
  rw [if_pos (bdL_of (path_bd _ _ (lvs_bd L)))]
  have e := path_leads L.length (lvs L) i (by rw [length_lvs]; exact h) (length_lvs L)
  have e2 : (lvs L)[i]'(by rw [length_lvs]; exact h) = entS L[i] := by simp [lvs]
  rw [e2] at e
  rw [e]
  exact decide_eq_true rfl
theorem within_40 {root n i : Int} {e : ByteArray} {zs : List Int} (h : withinB root n i e zs = true) : e.size ≤ 40 := by
  unfold withinB at h
  rw [Bool.and_eq_true, decide_eq_true_eq] at h
  exact h.1.2.2.2.2

set_option maxHeartbeats 2000000 in
theorem lawshown_any {f : List ByteArray → Int → ByteArray → List Int → ByteArray × ByteArray × Int} (T : TwinSpec f) (n l : Nat) (c : Int) (ent : ByteArray) (a b : Option Addr) (ss : List ByteArray) (zs : List Int) (cap cap2 : Nat) (w : World) (hn : ss.length = n) (hl : zs.length = l) (hs : Strs w a ss) (hz : Ints w b zs) (hr : n * 16 ≤ 140737488351232) (hr2 : l * 8 ≤ 140737488351232) (hcap2 : l ≤ cap2) (hmax2 : cap2 ≤ maxLen) (hes : ent.size ≤ maxLen) (hc0 : -9223372036854775808 ≤ c) (hc1 : c ≤ 9223372036854775807) :
    Calls Try.prog 3 #[.slice a n cap, .int .i64 c, .string ent, .slice b l cap2] w fun e w' => e = .returned (.bool true) ∧ Below w.heap.size w w' := by
  have HZ := hid hz; have HL := hid hl; have HES := hid hes; have TC := hid T; have HM2 := hid hmax2
  have HLG := hid (klog_any n a ss cap w hn hs hr)
  clear hn hl hs hz hes T hmax2
  go_enter Try.func3, Try.ntmps3
  go_wp2_with fail
  refine HLG.out.mono ?_
  rintro e w1 ⟨v1, rfl, hown1, hb1⟩
  have hp := keepL_pos ss
  have h100 := keepL_len ss
  have H40 := hid (keepL_40 ss)
  have HLO := hid (keepL_long ss)
  generalize keepL ss = L at hown1 hp h100 H40 HLO
  obtain ⟨a1, c1, rfl, hlc1, hmc1, hS1⟩ := hown1.form
  have HS1 := hid hS1
  have HMC := hid hmc1
  obtain ⟨N, hN⟩ : ∃ N, N = L.length := ⟨_, rfl⟩
  rw [← hN] at hlc1 hp h100
  rw [← hN]
  have HN : Hid (L.length = N) := hN.symm
  clear hown1 hS1 HLG hmc1 hN
  go_wp2_with fail
  refine (pick_any c N _ hp (by omega) hc0 hc1).mono ?_
  rintro e w2 ⟨rfl, rfl⟩
  have hi := pickN_lt c N hp
  generalize pickN c N = i at hi ⊢
  have hLR := lroot_any N a1 L c1 w2 HN.out HS1.out (by omega) hlc1 HMC.out
  rw [HLO.out] at hLR
  have HLR : Hid (Calls Try.prog 10 #[.slice a1 N c1] w2 fun e w' => e = .returned (.tuple #[.int .i64 (rootS L), .int .i64 0]) ∧ Below w2.heap.size w2 w') := hLR
  clear hLR
  go_wp2_with fail
  refine HLR.out.mono ?_
  rintro e w3 ⟨rfl, hb3⟩
  clear HLR
  have HS3 := hid (HS1.out.kept hb3)
  go_wp2_with fail
  refine (lpath_ok N i a1 L c1 w3 HN.out HS3.out HLO.out hi hlc1 HMC.out).mono ?_
  rintro e w4 ⟨v4, rfl, hown4, hb4⟩
  have hiL : i < L.length := by rw [HN.out]; exact hi
  have hown := within_own L i hiL (by rw [HN.out]; omega) H40.out
  rw [HN.out] at hown
  have hpl := path_len L i
  have HS4 := hid (HS3.out.kept hb4)
  obtain ⟨b1, o1, rfl, hcs⟩ := HS4.out.at (by omega)
  have hci := hcs i hiL
  have h40i := H40.out L[i] (List.getElem_mem _)
  obtain ⟨a4, c4, rfl, hl4, hm4, hI4⟩ := hown4.form
  have HI4 := hid hI4
  have HT1 := hid (TC.out.calm L i ent zs hiL HLO.out)
  have HT2 := hid (TC.out.away L i ent zs hiL HLO.out)
  rw [HN.out] at HT1 HT2
  generalize L[i] = s at hci hown h40i HT1 HT2
  generalize pathR (lvs L) i = P at hown hpl HI4 hl4
  obtain ⟨p, hpp⟩ : ∃ p, p = P.length := ⟨_, rfl⟩
  rw [← hpp] at hl4
  rw [← hpp]
  have HPL : Hid (P.length = p) := hpp.symm
  have hp200 : p ≤ 200 := by rw [hpp]; have := HN.out; omega
  have HOW := hid hown
  have HMC4 := hid hm4
  have HCI := hid hci
  clear hown4 hI4 hcs hown hpl hpp hiL hm4
  have i1 : (0 : Int) ≤ (i : Int) := by omega
  have i2 : (i : Int) < (N : Int) := by omega
  go_wp2_with fail
  have hW1 := lwithin_any (rootS L) N i p s a4 P c4 w4 (by unfold maxLen; omega) HPL.out (by omega) HI4.out hl4 HMC4.out
  rw [HOW.out] at hW1
  refine hW1.mono ?_
  rintro e w5 ⟨rfl, hb5⟩
  clear hW1
  have k5 : Below w.heap.size w w5 := kept (kept (kept hb1 hb3) hb4) hb5
  go_wp2_with fail
  refine (lwithin_any (rootS L) N i l ent b zs cap2 w5 HES.out HL.out (by omega) (HZ.out.kept k5) hcap2 HM2.out).mono ?_
  rintro e w6 ⟨rfl, hb6⟩
  have k6 := kept k5 hb6
  obtain ⟨X, Y, E, hf⟩ : ∃ X Y E, f L i ent zs = (X, Y, E) := ⟨_, _, _, rfl⟩
  have hTC := TC.out.call N l i ent (some ⟨b1, o1, none⟩) b L zs c1 cap2 w6 HN.out HL.out (HS4.out.kept (kept hb5 hb6)) (HZ.out.kept k6) (by omega) hr2 hlc1 HMC.out hcap2 HM2.out HES.out
  rw [hf] at hTC HT1 HT2
  have HTC := hid hTC
  clear hTC hf
  cases hw : withinB (rootS L) (N : Int) (i : Int) ent zs with
  | false =>
    have hx := HT1.out (.inl hw)
    cases hx
    clear hw
    go_wp2_with fail
    refine HTC.out.mono ?_
    rintro e w7 ⟨rfl, hb7⟩
    unfold eS
    go_wp2_with fail
    go_ret
    exact ⟨rfl, kept k6 hb7⟩
  | true =>
    have he40 := within_40 hw
    by_cases hes : ent = s
    · have hx := HT1.out (.inr hes)
      cases hx
      subst hes
      clear hw
      go_wp2_with fail
      refine HTC.out.mono ?_
      rintro e w7 ⟨rfl, hb7⟩
      have hci7 := cell_kept HCI.out (kept (kept hb5 hb6) hb7)
      unfold eS
      go_wp2_with fail
      go_ret
      exact ⟨rfl, kept k6 hb7⟩
    · obtain ⟨t, u, ht, hu, hx, hxy, hsm⟩ := HT2.out hw hes
      cases hx
      have HTS := hid (ptx_size ht he40)
      have HUS := hid (ltx_size hu H40.out)
      have hbe := bne_str hes
      have HXY := hid hxy; have HSM := hid hsm
      clear hw hes ht hu hxy hsm
      go_wp2_with fail
      refine HTC.out.mono ?_
      rintro e w7 ⟨rfl, hb7⟩
      have hci7 := cell_kept HCI.out (kept (kept hb5 hb6) hb7)
      go_wp2_with fail
      refine (kaway_any X Y _ (by have := HTS.out; unfold maxLen; omega) (by have := HUS.out; unfold maxLen; omega) HXY.out HSM.out).mono ?_
      rintro e w8 ⟨rfl, rfl⟩
      go_wp2_with fail
      go_ret
      exact ⟨rfl, kept k6 hb7⟩

end Go.Proofs.Ytedblhcehlbbmab

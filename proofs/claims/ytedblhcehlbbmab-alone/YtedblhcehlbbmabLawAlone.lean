/-
  lenderkeep.Alone, out of what a call of Twin answers: the law's own part.
-/
import Derived.Test.YtedblhcehlbbmabLawShown
import Derived.WalkKit
import Derived.WalkSpells
import Derived.WalkLawsBesides
import Derived.Deep.QuietTactic
import Derived.BigQuiet
namespace Go.Proofs.Ytedblhcehlbbmab
open Go.RowKit

/-- An entry with the same sum is shown by the same path. -/
theorem within_like {root : Int} {n i : Nat} {e s : ByteArray} {zs : List Int} (h : withinB root (n : Int) (i : Int) s zs = true) (he : e.size ≤ 40) (hs : entS e = entS s) : withinB root (n : Int) (i : Int) e zs = true := by
  unfold withinB at h ⊢
  rw [Bool.and_eq_true, decide_eq_true_eq, decide_eq_true_eq] at h ⊢
  rw [hs]
  exact ⟨⟨h.1.1, h.1.2.1, h.1.2.2.1, h.1.2.2.2.1, he⟩, h.2⟩

set_option maxHeartbeats 4000000 in
set_option maxRecDepth 20000 in
theorem lawalone_any {f : List ByteArray → Int → ByteArray → List Int → ByteArray × ByteArray × Int} (T : TwinSpec f) (n : Nat) (c d : Int) (ent : ByteArray) (a : Option Addr) (ss : List ByteArray) (cap : Nat) (w : World) (hn : ss.length = n) (hs : Strs w a ss) (hr : n * 16 ≤ 140737488351232) (hc0 : -9223372036854775808 ≤ c) (hc1 : c ≤ 9223372036854775807) (hd0 : -9223372036854775808 ≤ d) (hd1 : d ≤ 9223372036854775807) :
    Calls Try.prog 4 #[.slice a n cap, .int .i64 c, .int .i64 d, .string ent] w fun e w' => e = .returned (.bool true) ∧ Below w.heap.size w w' := by
  have TC := hid T
  have HLG := hid (klog_any n a ss cap w hn hs hr)
  clear hn hs T
  go_enter Try.func4, Try.ntmps4
  go_wp2_with fail
  refine HLG.out.mono ?_
  rintro e w1 ⟨v1, rfl, hown1, hb1⟩
  have hp := keepL_pos ss
  have h100 := keepL_len ss
  have H40 := hid (keepL_40 ss)
  have HLO := hid (keepL_long ss)
  generalize keepL ss = L at hown1 hp h100 H40 HLO
  obtain ⟨a1, c1, rfl, hlc1, hmc1, hS1⟩ := hown1.form
  have HS1 := hid hS1
  have HMC := hid hmc1
  obtain ⟨N, hN⟩ : ∃ N, N = L.length := ⟨_, rfl⟩
  rw [← hN] at hlc1 hp h100
  rw [← hN]
  have HN : Hid (L.length = N) := hN.symm
  clear hown1 hS1 HLG hmc1 hN
  go_wp2_with fail
  refine (pick_any c N _ hp (by omega) hc0 hc1).mono ?_
  rintro e w2 ⟨rfl, rfl⟩
  have hi := pickN_lt c N hp
  generalize pickN c N = i at hi ⊢
  go_wp2_with fail
  refine (pick_any d N _ hp (by omega) hd0 hd1).mono ?_
  rintro e w1 ⟨rfl, rfl⟩
  have hj := pickN_lt d N hp
  generalize pickN d N = j at hj ⊢
  obtain ⟨E, hE⟩ : ∃ E, E = cut40 ent := ⟨_, rfl⟩
  have hE40 : E.size ≤ 40 := by rw [hE]; exact cut40_size ent
  have hLR := lroot_any N a1 L c1 w1 HN.out HS1.out (by omega) hlc1 HMC.out
  rw [HLO.out] at hLR
  have HLR : Hid (Calls Try.prog 10 #[.slice a1 N c1] w1 fun e w' => e = .returned (.tuple #[.int .i64 (rootS L), .int .i64 0]) ∧ Below w1.heap.size w1 w') := hLR
  clear hLR
  by_cases h40 : 40 < ent.size
  case' pos =>
    have hcut : ent.extract 0 40 = E := by rw [hE]; unfold cut40; rw [if_pos h40]
    have HCUT := hid hcut
    have i1 : (40 : Int) < (ent.size : Int) := by omega
    clear hcut hE
    go_wp2_with fail
    rw [HCUT.out]
    clear HCUT i1 h40
  case' neg =>
    have hcut : E = ent := by rw [hE]; unfold cut40; rw [if_neg h40]
    have i1 : ¬ (40 : Int) < (ent.size : Int) := by omega
    clear hE
    subst hcut
    go_wp2_with fail
    clear i1 h40
  all_goals
    refine HLR.out.mono ?_
    rintro e w3 ⟨rfl, hb3⟩
    clear HLR
    have HS3 := hid (HS1.out.kept hb3)
    go_wp2_with fail
    refine (lpath_ok N i a1 L c1 w3 HN.out HS3.out HLO.out hi hlc1 HMC.out).mono ?_
    rintro e w4 ⟨v4, rfl, hown4, hb4⟩
    have hiL : i < L.length := by rw [HN.out]; exact hi
    have hjL : j < L.length := by rw [HN.out]; exact hj
    have hown := within_own L i hiL (by rw [HN.out]; omega) H40.out
    rw [HN.out] at hown
    have hpl := path_len L i
    have HS4 := hid (HS3.out.kept hb4)
    obtain ⟨b1, o1, rfl, hcs⟩ := HS4.out.at (by omega)
    have hci := hcs i hiL
    have hcj := hcs j hjL
    have h40i := H40.out L[i] (List.getElem_mem _)
    have h40j := H40.out L[j] (List.getElem_mem _)
    obtain ⟨a4, c4, rfl, hl4, hm4, hI4⟩ := hown4.form
    have HI4 := hid hI4
    have HT2 := hid (fun e zs => TC.out.away L i e zs hiL HLO.out)
    have HT3 := hid (fun e zs => TC.out.away L j e zs hjL HLO.out)
    rw [HN.out] at HT2 HT3
    have HIJ : Hid (i = j → L[i] = L[j]) := fun h => by subst h; rfl
    generalize L[i] = si at hci hown h40i HT2 HIJ
    generalize L[j] = sj at hcj h40j HT3 HIJ
    generalize pathR (lvs L) i = P at hown hpl HI4 hl4
    obtain ⟨p, hpp⟩ : ∃ p, p = P.length := ⟨_, rfl⟩
    rw [← hpp] at hl4
    rw [← hpp]
    have HPL : Hid (P.length = p) := hpp.symm
    have hp200 : p ≤ 200 := by rw [hpp]; have := HN.out; omega
    have HOW := hid hown
    have HMC4 := hid hm4
    have HCI := hid hci
    have HCJ := hid hcj
    have i1 : (0 : Int) ≤ (i : Int) := by omega
    have i2 : (i : Int) < (N : Int) := by omega
    have i3 : (0 : Int) ≤ (j : Int) := by omega
    have i4 : (j : Int) < (N : Int) := by omega
    clear hown4 hI4 hcs hown hpl hpp hiL hjL hm4 hcj
    go_wp2_with fail
    have hW1 := lwithin_any (rootS L) N i p si a4 P c4 w4 (by unfold maxLen; omega) HPL.out (by omega) HI4.out hl4 HMC4.out
    rw [HOW.out] at hW1
    refine hW1.mono ?_
    rintro e w5 ⟨rfl, hb5⟩
    clear hW1 hci
    go_wp2_with fail
    refine (lwithin_any (rootS L) N i p E a4 P c4 w5 (by unfold maxLen; omega) HPL.out (by omega) (HI4.out.kept hb5) hl4 HMC4.out).mono ?_
    rintro e w6 ⟨rfl, hb6⟩
    have k46 := kept hb5 hb6
    have hci6 := cell_kept HCI.out k46
    have hcj6 := cell_kept HCJ.out k46
    have z1 : ((⟨#[69]⟩ : ByteArray) ++ E).size ≤ maxLen := by rw [ent_str, size_bs, length_entT]; unfold maxLen; simp; omega
    have z2 : ((⟨#[69]⟩ : ByteArray) ++ si).size ≤ maxLen := by rw [ent_str, size_bs, length_entT]; unfold maxLen; simp; omega
    have Z1 := hid z1; have Z2 := hid z2
    clear z1 z2
    obtain ⟨G1, hG1⟩ : ∃ G1, G1 = withinB (rootS L) (N : Int) (i : Int) E P := ⟨_, rfl⟩
    rw [← hG1]
    have HG1 := hid hG1
    clear hG1
    go_wp2_with fail
    go_quiet (first | (go_at_call 15; refine Calls.quiet_of_same (ksum_any _ _ (by first | exact Z1.out | exact Z2.out))))
    obtain ⟨lk, hlk⟩ : ∃ lk, lk = (sm (69 :: E.data.toList) == sm (69 :: si.data.toList)) := ⟨_, rfl⟩
    rw [← hlk]
    have HLK : Hid (G1 = false → lk = false) := fun hg => by
      cases hl : lk with
      | false => rfl
      | true =>
        rw [hl] at hlk
        have e : entS E = entS si := of_decide_eq_true hlk.symm
        have := within_like HOW.out hE40 e
        rw [← HG1.out, hg] at this
        cases this
    have hb7 : Below w6.heap.size w6 (w6.drewN nq) := below_drewN (Below.refl _ _) _
    generalize w6.drewN nq = w7 at hb7 ⊢
    have k47 := kept k46 hb7
    have k07 : Below w.heap.size w w7 := kept (kept (kept hb1 hb3) hb4) k47
    have hci7 := cell_kept HCI.out k47
    have HAW : Hid (∀ (k : Nat) (sk e : ByteArray), (∀ zs, withinB (rootS L) (N : Int) (k : Int) e zs = true → e ≠ sk → ∃ t u, t ∈ ptx N k e zs ∧ u ∈ ltx L ∧ f L (k : Int) e zs = (t, u, 0) ∧ t ≠ u ∧ sm t.data.toList = sm u.data.toList) → e.size ≤ 40 → withinB (rootS L) (N : Int) (k : Int) e P = true → e ≠ sk → ∀ w', Below w4.heap.size w4 w' →
        ∃ t u, Calls Try.prog 13 #[.slice (some ⟨b1, o1, none⟩) N c1, .int .i64 (k : Int), .string e, .slice a4 p c4] w' (fun r w'' => r = .returned (.tuple #[.string t, .string u, .int .i64 0]) ∧ Below w'.heap.size w' w'') ∧
          ∀ w'', Calls Try.prog 14 #[.string t, .string u] w'' fun r w''' => r = .returned (.bool true) ∧ w''' = w'') := fun k sk e hT he40 hw hne w' hb => by
      obtain ⟨t, u, ht, hu, hx, hxy, hsm⟩ := hT P hw hne
      have hc := TC.out.call N p k e (some ⟨b1, o1, none⟩) a4 L P c1 c4 w' HN.out HPL.out (HS4.out.kept hb) (HI4.out.kept hb) (by omega) (by omega) hlc1 HMC.out hl4 HMC4.out (by unfold maxLen; omega)
      rw [hx] at hc
      refine ⟨t, u, hc, fun w'' => kaway_any t u w'' ?_ ?_ hxy hsm⟩
      · have := ptx_size ht he40; unfold maxLen; omega
      · have := ltx_size hu H40.out; unfold maxLen; omega
    clear hlk hci6 hcj6 hb7 k46
    cases G1
    case' false =>
      have hl := HLK.out rfl
      subst hl
      clear HLK
      go_wp2_with fail
      have k4X := k47
      have k0X := k07
      clear hci7
    case' true =>
      clear HLK
      by_cases hE : si = E
      case' pos =>
        subst hE
        cases lk
        all_goals
          go_wp2_with fail
          have k4X := k47
          have k0X := k07
          clear hci7
      case' neg =>
        have hbe := bne_str (Ne.symm hE)
        obtain ⟨t, u, hcall, haw⟩ := HAW.out i si E (HT2.out E) hE40 HG1.out.symm (Ne.symm hE) w7 k47
        have HCALL := hid hcall
        have HAWY := hid haw
        clear hcall haw hE
        cases lk
        all_goals
          go_wp2_with fail
          refine HCALL.out.mono ?_
          rintro e w8 ⟨rfl, hb8⟩
          go_wp2_with fail
          refine (HAWY.out _).mono ?_
          rintro e w9 ⟨rfl, rfl⟩
          have k4X := kept k47 hb8
          have k0X := kept k07 hb8
          clear HCALL HAWY hbe hci7
          have hciX := cell_kept HCI.out k4X
          go_wp2_with fail
          clear hciX
    all_goals
      refine (lwithin_any (rootS L) N j p si a4 P c4 _ (by unfold maxLen; omega) HPL.out (by omega) (HI4.out.kept k4X) hl4 HMC4.out).mono ?_
      rintro e w10 ⟨rfl, hb10⟩
      have k410 := kept k4X hb10
      have k010 := kept k0X hb10
      have hci10 := cell_kept HCI.out k410
      have hcj10 := cell_kept HCJ.out k410
      obtain ⟨G2, hG2⟩ : ∃ G2, G2 = withinB (rootS L) (N : Int) (j : Int) si P := ⟨_, rfl⟩
      rw [← hG2]
      have HG2 := hid hG2
      clear hG2 k4X k0X hb10
      cases G2 with
      | false =>
        have hij : ¬ i = j := fun h => by
          have e := HG2.out
          rw [← h, HOW.out] at e
          cases e
        have hijb : ((i : Int) != (j : Int)) = true := by simp; omega
        clear hij
        go_wp2_with fail
        go_quiet (fail)
        go_wp2_with fail
        go_ret
        exact ⟨rfl, below_drewN k010 _⟩
      | true =>
        by_cases hsj : sj = si
        · subst hsj
          go_wp2_with fail
          go_quiet (fail)
          go_wp2_with fail
          all_goals
            go_ret
            exact ⟨rfl, below_drewN k010 _⟩
        · have hbe2 := bne_str hsj
          go_wp2_with fail
          go_quiet (fail)
          have hb11 : Below w10.heap.size w10 (w10.drewN nq) := below_drewN (Below.refl _ _) _
          generalize w10.drewN nq = w11 at hb11 ⊢
          have k411 := kept k410 hb11
          have k011 := kept k010 hb11
          have hci11 := cell_kept HCI.out k411
          obtain ⟨t2, u2, hcall, haw⟩ := HAW.out j sj si (HT3.out si) h40i HG2.out.symm (Ne.symm hsj) w11 k411
          have HCALL2 := hid hcall
          have HAWY2 := hid haw
          clear hcall haw hsj hbe2 hci10 hcj10
          go_wp2_with fail
          refine HCALL2.out.mono ?_
          rintro e w12 ⟨rfl, hb12⟩
          go_wp2_with fail
          refine (HAWY2.out _).mono ?_
          rintro e w13 ⟨rfl, rfl⟩
          go_wp2_with fail
          go_ret
          exact ⟨rfl, kept k011 hb12⟩

end Go.Proofs.Ytedblhcehlbbmab

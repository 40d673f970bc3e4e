/-
  lenderkeep.Apart, out of what a book's calls answer: the law's own part.
-/
import Derived.Test.YtedblhcehlbbmabWalkKept
import Derived.Test.YtedblhcehlbbmabWalkBlk
import Derived.WalkKit
import Derived.WalkSpells
import Derived.WalkLawsBesides
namespace Go.Proofs.Ytedblhcehlbbmab
open Go.RowKit

set_option maxRecDepth 20000 in
set_option maxHeartbeats 2000000 in
theorem lawapart_any {Rep : World → (Nat → Prop) → Value → List Ev → Prop} (n : Nat) (a : Option Addr) (zs : List Int) (cap : Nat) (c : Int) (w : World) (T : BookSpec w Rep) (hn : zs.length = n) (hz : Ints w a zs) (hr : n * 8 ≤ 140737488351232) (h64 : ∀ z ∈ zs, In64 z) (hc0 : -9223372036854775808 ≤ c) (hc1 : c ≤ 9223372036854775807) :
    Calls Try.prog 7 #[.slice a n cap, .int .i64 c] w fun e w' => e = .returned (.bool true) ∧ Below w.heap.size w w' := by
  have HEV := hid (events_any n a zs cap w hn hz hr h64)
  have TC := hid T
  clear hn hz h64 T
  go_enter Try.func7, Try.ntmps7
  go_wp2_with fail
  refine HEV.out.mono ?_
  rintro e w1 ⟨v1, rfl, hown1, hb1⟩
  have hg := evs_good zs
  have h60 := length_evs zs
  generalize evs zs = es at hown1 hg h60
  obtain ⟨a1, c1, rfl, _, _, hS1, hlt1⟩ := hown1.form
  obtain ⟨N, hN⟩ : ∃ N, N = es.length := ⟨_, rfl⟩
  rw [← hN] at h60 ⊢
  have HN : Hid (es.length = N) := hN.symm
  have HS1 := hid hS1; have HLT1 := hid hlt1; have HG := hid hg
  clear hown1 hS1 hlt1 hg HEV hN
  go_wp2_with fail
  refine (pick_any c 4 _ (by omega) (by omega) hc0 hc1).mono ?_
  rintro e w1' ⟨rfl, rfl⟩
  have hp := pickN_lt c 4 (by omega)
  generalize pickN c 4 = p at hp ⊢
  go_wp2_with fail
  obtain ⟨loan, hloan⟩ : ∃ loan : Nat, loan = p * 21 := ⟨_, rfl⟩
  have hl63 : loan ≤ 63 := by omega
  rw [show (p : Int) * 21 = (loan : Int) by omega]
  clear hloan
  refine (kept_any TC.out N a1 es c1 (-1) w1' HN.out HS1.out HLT1.out hb1 HG.out).mono ?_
  rintro e w2 ⟨ad1, rfl, hr1, hb2⟩
  have HR1 := hid hr1
  have k2 := kept hb1 hb2
  have HS2 := hid (HS1.out.under hb2 HLT1.out)
  have s2 := hb2.size
  clear hr1
  go_wp2_with fail
  refine (kept_any TC.out N a1 es c1 (loan : Int) w2 HN.out HS2.out (fun b hb => by have := HLT1.out b hb; omega) k2 HG.out).mono ?_
  rintro e w3 ⟨ad2, rfl, hr2, hb3⟩
  have k3 := kept k2 hb3
  have HR2 := hid hr2
  have HR1' := hid (TC.out.keptB HR1.out hb3)
  have HS3 := hid (HS2.out.under hb3 (fun b hb => by have := HLT1.out b hb; omega))
  have HSE1 : Hid (selE es (-1) = es) := rfl
  have HSE2 : Hid (selE es (loan : Int) = ownE es (loan : Int)) := by show _ = _; unfold selE; rw [if_neg (by omega)]
  rw [HSE1.out] at HR1'
  rw [HSE2.out] at HR2
  have HCO := hid (count_of es (loan : Int))
  have HSO := hid (stOf_own es (loan : Int))
  clear hr2 HSE1 HSE2 HR1 HS2 HS1
  go_wp2_with fail
  go_loop [9, 10] (fun cn i => ∃ k : Nat, k ≤ N ∧ i = .int .i64 (k : Int) ∧ cn = .int .i64 ((ownE (es.take k) (loan : Int)).length : Int)) (fun _ i => N - (intOf i).toNat)
  case atStart => exact ⟨0, Nat.zero_le _, rfl, rfl⟩
  case round =>
    obtain ⟨k, hk, rfl, rfl⟩ := hrel
    by_cases hlt : k < N
    · have hkl : k < es.length := by rw [HN.out]; exact hlt
      obtain ⟨b, rfl, hc⟩ := HS3.out.at (by omega)
      have h0 := (hc k hkl).1
      have HTK := hid (takeE_snoc es k hkl)
      have HSN := hid (ownE_snoc (es.take k) es[k] (loan : Int))
      have hol : (ownE (es.take k) (loan : Int)).length ≤ 60 := by
        have := List.length_filter_le (fun e => decide (Ev.loan e = (loan : Int))) (es.take k)
        unfold ownE; rw [List.length_take] at this; omega
      generalize es[k] = e at h0 HTK HSN
      clear hc hkl
      by_cases hl : e.loan = (loan : Int)
      · rw [if_pos hl] at HSN
        rw [hl] at h0
        have HL2 : Hid ((ownE (es.take (k + 1)) (loan : Int)).length = (ownE (es.take k) (loan : Int)).length + 1) := by show _ = _; rw [HTK.out, HSN.out, List.length_append]; rfl
        generalize (ownE (es.take k) (loan : Int)).length = M at hol HL2 ⊢
        clear hl HTK HSN
        go_wp2_with fail
        go_round
        case rel => exact ⟨k + 1, by omega, by go_num, by rw [HL2.out]; go_num⟩
        case measure => simp [intOf]; omega
      · rw [if_neg hl] at HSN
        have HL2 : Hid ((ownE (es.take (k + 1)) (loan : Int)).length = (ownE (es.take k) (loan : Int)).length) := by show _ = _; rw [HTK.out, HSN.out]
        generalize (ownE (es.take k) (loan : Int)).length = M at hol HL2 ⊢
        have i1 : (e.loan == (loan : Int)) = false := by simp; exact hl
        generalize e.loan = el at h0 i1
        clear hl HTK HSN
        go_wp2_with fail
        go_round
        case rel => exact ⟨k + 1, by omega, by go_num, by rw [HL2.out]⟩
        case measure => simp [intOf]; omega
    · have HE : Hid (es.take k = es) := List.take_of_length_le (by rw [HN.out]; omega)
      rw [HE.out]
      obtain ⟨M, hM⟩ : ∃ M, M = (ownE es (loan : Int)).length := ⟨_, rfl⟩
      rw [← hM] at HCO ⊢
      have HST1 := hid (TC.out.stateB _ w3 _ es (loan : Int) k3 HR1'.out (by omega) (by omega))
      have HST2 := hid (fun w4 (h : Below w3.heap.size w3 w4) => TC.out.stateB _ w4 _ (ownE es (loan : Int)) (loan : Int) (kept k3 h) (TC.out.keptB HR2.out h) (by omega) (by omega))
      have HSZ1 := hid (fun w4 (h : Below w3.heap.size w3 w4) => TC.out.sizeB _ w4 _ es (kept k3 h) (TC.out.keptB HR1'.out h))
      have HSZ2 := hid (fun w4 (h : Below w3.heap.size w3 w4) => TC.out.sizeB _ w4 _ (ownE es (loan : Int)) (kept k3 h) (TC.out.keptB HR2.out h))
      rw [HSO.out] at HST2
      rw [HN.out] at HSZ1
      rw [← hM] at HSZ2
      generalize stOf es (loan : Int) = s at HST1 HST2 HCO
      obtain ⟨s1, s2', s3, s4, s5, s6⟩ := s
      unfold stV at HST1 HST2
      simp only at HST1 HST2 HCO
      have hs6 : s6 = (M : Int) := HCO.out
      subst hs6
      clear HCO HSO HR1' HR2 HS3 HE hM
      go_wp2_with fail
      refine HST1.out.mono ?_
      rintro e w4 ⟨rfl, hb4⟩
      go_wp2_with fail
      refine (HST2.out _ (hb4.alloc hb4.size _)).mono ?_
      rintro e w5 ⟨rfl, hb5⟩
      have HX5 := hid ((Six.new w4 s1 s2' s3 s4 s5 (M : Int) 46).kept hb5)
      have k5 : Below w3.heap.size w3 w5 := kept (hb4.alloc hb4.size _) hb5
      go_wp2_with fail
      refine (HSZ1.out _ (k5.alloc k5.size _)).mono ?_
      rintro e w6 ⟨rfl, hb6⟩
      have HX6 := hid ((HX5.out.kept ((Below.refl _ _).alloc (Nat.le_refl _) _)).kept hb6)
      have HY6 := hid ((Six.new w5 s1 s2' s3 s4 s5 (M : Int) 46).kept hb6)
      have k6 : Below w3.heap.size w3 w6 := kept (k5.alloc k5.size _) hb6
      clear HX5
      go_wp2_with fail
      refine (HSZ2.out _ k6).mono ?_
      rintro e w7 ⟨rfl, hb7⟩
      obtain ⟨x0, x1, x2, x3, x4, x5⟩ := HX6.out.kept hb7
      obtain ⟨y0, y1, y2, y3, y4, y5⟩ := HY6.out.kept hb7
      clear HX6 HY6 HST1 HST2 HSZ1 HSZ2
      go_wp2_with fail
      go_ret
      exact ⟨by simp, kept k3 (kept k6 hb7)⟩

end Go.Proofs.Ytedblhcehlbbmab

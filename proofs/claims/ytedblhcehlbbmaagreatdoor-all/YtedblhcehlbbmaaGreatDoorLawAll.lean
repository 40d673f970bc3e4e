import Derived.Test.YtedblhcehlbbmaaGreatDoorJOpenScript
import Derived.Test.YtedblhcehlbbmaaGreatDoorWalkStepList
import Derived.Test.YtedblhcehlbbmaaGreatDoorWalkLooks
import Derived.WalkKit
import Derived.WalkSpells
import Derived.WalkLawsBesides
import Derived.Deep.Cut
import Derived.Deep.MidRow
import Derived.Laws.Rows
/-
  ALL: the script, step by step, and the lists looked at behind each.
-/
namespace Go.Proofs.YtedblhcehlbbmaaGreatDoor
set_option maxRecDepth 20000
open Go.RowKit

theorem OpL.kept {w w' : World} {o : OpI} (h : OpL w o) (hb : Below w.heap.size w w') : OpL w' o := by
  obtain ⟨a, ss, cap, h1, h2, h3, h4⟩ := h
  exact ⟨a, ss, cap, h1, h2.kept hb, h3, h4⟩
/-- Any step. -/
theorem step_all (w0 w : World) (Wb : Nat) (own : Nat → Nat) (G : Gh) (o : OpI) (N : Nat) (hWI : WI w0 w Wb own G) (h64 : Op64 o) (hL : OpL w o) (hpos : 0 < G.sh.length) (hf : Few G N) (hN : N ≤ 1000000000000) :
    Calls Tryz.prog 5 #[.pointer (some ⟨Wb, 0, none⟩), opV o] w fun r w' => r = .returned (.bool true) ∧ StepOk w0 Wb N w' := by
  by_cases h10 : o.kind < 10
  · exact step_low w0 w Wb own G o N hWI h64 hpos hf hN h10
  · have hC : (o.kind = 10 ∨ o.kind = 11 ∨ o.kind = 12) → ∀ wz, Below w.heap.size w wz → Calls Tryz.prog 8 #[.pointer (some ⟨Wb, 0, none⟩), opV o] wz fun r w' => r = .returned (.bool true) ∧ StepOk w0 Wb N w' := fun hk wz hz => by
      obtain ⟨a, ss, cap, h1, h2, h3, h4⟩ := hL
      exact listed_any w0 wz Wb own G o N a ss cap (hWI.kept hz (fun _ _ => rfl)) h1 (h2.kept hz) h3 h4 hpos hf hN hk
    by_cases hA : o.kind = 10
    · exact step_path w0 w Wb o N hA (hC (.inl hA))
    · by_cases hB : o.kind = 11
      · exact step_further w0 w Wb o N hB (hC (.inr (.inl hB)))
      · by_cases hD : o.kind = 12
        · exact step_root w0 w Wb o N hD (hC (.inr (.inr hD)))
        · obtain ⟨f1, f2, f3⟩ := hf
          refine (step_idle w0 w Wb own G o hWI hpos (by omega) (by omega) hA hB hD (.inr (by omega))).mono fun r w' h => ⟨h.1, ?_⟩
          exact ⟨own, G, h.2, ⟨by omega, by omega, by omega⟩, hpos⟩

set_option maxRecDepth 20000 in
set_option maxHeartbeats 8000000 in
theorem lawall_any (n : Nat) (a : Option Addr) (os : List OpI) (cap : Nat) (w : World) (hn : os.length = n) (hs : Scr w a os) (h64 : ∀ o ∈ os, Op64 o) (hL : ∀ o ∈ os, OpL w o) (hr : n * 200 ≤ 140737488351232) (ht : TabOk w) :
    Calls Tryz.prog 4 #[.slice a n cap] w fun r w' => r = .returned (.bool true) ∧ Below w.heap.size w w' := by
  have HSC := hid hs
  have H64 := hid h64
  have HOL := hid hL
  have HN := hid hn
  have HT := hid ht
  have HWB := hid (WI.begin w ht)
  have HNEW : Hid (∀ wz own, WI w wz w.heap.size own g0 → Calls Tryz.prog 5 #[.pointer (some ⟨w.heap.size, 0, none⟩), opV opNew] wz fun r w' => r = .returned (.bool true) ∧ ∃ own' G', WI w w' w.heap.size own' G' ∧ G'.sh.length = g0.sh.length + 1 ∧ G'.ls = g0.ls ∧ G'.ps = g0.ps) := fun wz own h => step_new w wz w.heap.size own g0 opNew h rfl (by simp [g0])
  have HST : Hid (∀ wz own G o N, WI w wz w.heap.size own G → Op64 o → OpL w o → 0 < G.sh.length → Few G N → N ≤ 1000000000000 → Calls Tryz.prog 5 #[.pointer (some ⟨w.heap.size, 0, none⟩), .agg (opC o).toList.toArray] wz fun r w' => r = .returned (.bool true) ∧ StepOk w w.heap.size N w') := fun wz own G o N h1 h2 h3 h4 h5 h6 => by
    rw [Array.toArray_toList]
    exact step_all w wz w.heap.size own G o N h1 h2 (h3.kept h1.base) h4 h5 h6
  have HLK : Hid (∀ wz own G N, WI w wz w.heap.size own G → Few G N → N ≤ 1000000000000 → Calls Tryz.prog 6 #[.pointer (some ⟨w.heap.size, 0, none⟩)] wz fun r w' => r = .returned (.bool true) ∧ w' = wz) := fun wz own G N h1 h2 h3 => looks_any w wz w.heap.size own G N h1 h2 h3
  unfold opV opC opNew zA zS at HNEW
  simp only at HNEW
  obtain ⟨Wb, hW⟩ : ∃ Wb, Wb = w.heap.size := ⟨_, rfl⟩
  rw [← hW] at HNEW HST HWB HLK
  clear hs h64 hL hn ht
  go_enter Tryz.func4, Tryz.ntmps4
  go_wp2_with fail
  rw [← hW]
  refine (HNEW.out _ _ HWB.out).mono ?_
  rintro ee w1 ⟨rfl, own1, G1, hW1, hG1, hG2, hG3⟩
  have HW1 := hid hW1
  have HF1 : Hid (Few G1 1 ∧ 0 < G1.sh.length) := ⟨⟨by rw [hG1]; simp [g0], by rw [hG2]; simp [g0], by rw [hG3]; simp [g0]⟩, by rw [hG1]; omega⟩
  clear hW1 hG1 hG2 hG3 HWB HNEW hW
  generalize Value.agg _ = OV
  generalize Value.agg _ = OW
  go_wp2_with fail
  go_loopw [4, 5] (fun ok i wr => ∃ k : Nat, k ≤ n ∧ ok = .bool true ∧ i = .int .i64 (k : Int) ∧ Hid (∃ own G, WI w wr Wb own G ∧ Few G (k + 1) ∧ 0 < G.sh.length)) (fun _ i _ => n - (intOf i).toNat)
  case atStart => exact ⟨0, Nat.zero_le _, rfl, rfl, ⟨own1, G1, HW1.out, HF1.out.1, HF1.out.2⟩⟩
  case round =>
    obtain ⟨k, hk, rfl, rfl, HI⟩ := hrel
    obtain ⟨own, G, hI, hF, hP⟩ := HI.out
    have HII := hid hI
    have HFF := hid hF
    have HPP := hid hP
    clear HI hI hF hP HW1 HF1
    by_cases hlt : k < n
    · obtain ⟨b, off, rfl, hc⟩ := HSC.out.at (by have := HN.out; omega)
      have hkl : k < os.length := by have := HN.out; omega
      have HCR := hid (rangeAt_kept (hc k hkl) HII.out.base)
      have HO : Hid (Op64 os[k]) := H64.out _ (List.getElem_mem hkl)
      have HL : Hid (OpL w os[k]) := HOL.out _ (List.getElem_mem hkl)
      obtain ⟨o, ho⟩ : ∃ o, o = os[k] := ⟨_, rfl⟩
      rw [← ho] at HCR HO HL
      have c0 : wr.cell? ⟨b, off + k * 23, none⟩ = some (.int .i64 o.kind) := HCR.out 0 _ rfl
      have i1 : (0 : Int) ≤ (k : Int) := by omega
      have i2 : (k : Int) < (n : Int) := by omega
      have lb : b < wr.heap.size := World.block_lt_of_cell? _ _ c0
      clear hc hkl ho c0
      go_upto_region 6 with fail
      go_wp2_with (refine wpList_load_mid rfl 39 (.tmp 23) rfl b (off + k * 23) rfl (opC o).toList _ HCR.out Tryz.underlying39 rfl Tryz.infoOp ?_)
      refine (HST.out wr own G o (k + 1) HII.out HO.out HL.out HPP.out HFF.out (by omega)).mono ?_
      rintro ee w3 ⟨rfl, own3, G3, hI3, hF3, hP3⟩
      have HI3 := hid hI3
      have HF3 := hid hF3
      have HP3 := hid hP3
      clear hI3 hF3 hP3
      generalize Value.agg _ = OX
      go_wp2_with fail
      refine (HLK.out w3 own3 G3 (k + 1 + 1) HI3.out HF3.out (by omega)).mono ?_
      rintro ee w4 ⟨rfl, rfl⟩
      go_wp2_with fail
      go_roundw
      case rel => exact ⟨k + 1, by omega, rfl, by go_num, ⟨own3, G3, HI3.out, HF3.out, HP3.out⟩⟩
      case measure => simp [intOf]; omega
    · obtain rfl : k = n := by omega
      go_wp2_with fail
      go_ret
      exact ⟨rfl, HII.out.base⟩

end Go.Proofs.YtedblhcehlbbmaaGreatDoor

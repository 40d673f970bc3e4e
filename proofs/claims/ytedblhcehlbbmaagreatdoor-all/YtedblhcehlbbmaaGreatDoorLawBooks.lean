import Derived.Test.YtedblhcehlbbmaaGreatDoorJWalkAsk6
import Derived.WalkKit
import Derived.WalkSpells
import Derived.WalkLawsBesides
import Derived.Deep.Cut
import Derived.Deep.MidRow
import Derived.Laws.Rows
/-
  BOOKS: the script, step by step.
-/
namespace Go.Proofs.YtedblhcehlbbmaaGreatDoor
set_option maxRecDepth 20000
open Go.RowKit

/-- The slice at this address holds these steps. -/
def Scr (w : World) (a : Option Addr) (os : List OpI) : Prop :=
  os = [] ∨ ∃ b off, a = some ⟨b, off, none⟩ ∧ ∀ i (h : i < os.length), w.rangeAt b (off + i * 23) (opC os[i]).toList
theorem Scr.at {w : World} {a : Option Addr} {os : List OpI} (h : Scr w a os) (hp : 0 < os.length) : ∃ b off, a = some ⟨b, off, none⟩ ∧ ∀ i (h : i < os.length), w.rangeAt b (off + i * 23) (opC os[i]).toList := by
  rcases h with rfl | h
  · simp at hp
  · exact h
theorem rangeAt_kept {w w' : World} {b o : Nat} {cs : List Value} (h : w.rangeAt b o cs) (hb : Below w.heap.size w w') : w'.rangeAt b o cs := fun j v hv => by
  have h1 := h j v hv
  rw [hb.cell (World.block_lt_of_cell? _ _ h1)]; exact h1
/-- The world as it is made. -/
def g0 : Gh := ⟨.slice none 0 0, .slice none 0 0, .slice none 0 0, .slice none 0 0, .slice none 0 0, [], [], [], [], []⟩
theorem WI.begin (w : World) (ht : TabOk w) : WI w (w.alloc (.cells #[.slice none 0 0, .slice none 0 0, .slice none 0 0, .slice none 0 0, .slice none 0 0] 28)) w.heap.size (fun k => if k < w.heap.size then 7 else 0) g0 := by
  refine ⟨(Below.refl _ _).alloc (Nat.le_refl _) _, ht, fun k hk => if_pos hk, heap_alloc_new _ _, if_neg (by omega), World.ownsRow_nil _ _ _ _, fun b hb => (by cases hb), World.ownsRow_nil _ _ _ _, fun b hb => (by cases hb), World.ownsRow_nil _ _ _ _, fun b hb => (by cases hb), World.ownsRow_nil _ _ _ _, fun b hb => (by cases hb), World.ownsRow_nil _ _ _ _, fun b hb => (by cases hb), fun i s hs => (by simp [g0] at hs), rfl, rfl, fun k v hv => (by simp [g0] at hv), fun k v hv => (by simp [g0] at hv), fun k v hv => (by simp [g0] at hv), fun k v hv => (by simp [g0] at hv)⟩
/-- A new book. -/
def opNew : OpI := ⟨1, 0, 0, ⟨0, 0, 0, 0⟩, zA, .slice none 0 0⟩
/-- A step that is none on lists. -/
theorem step_low (w0 w : World) (Wb : Nat) (own : Nat → Nat) (G : Gh) (o : OpI) (N : Nat) (hWI : WI w0 w Wb own G) (h64 : Op64 o) (hpos : 0 < G.sh.length) (hf : Few G N) (hN : N ≤ 1000000000000) (h10 : o.kind < 10) :
    Calls Tryz.prog 5 #[.pointer (some ⟨Wb, 0, none⟩), opV o] w fun r w' => r = .returned (.bool true) ∧ StepOk w0 Wb N w' := by
  obtain ⟨f1, f2, f3⟩ := hf
  by_cases h1 : o.kind = 1
  · refine (step_new w0 w Wb own G o hWI h1 (by omega)).mono fun r w' h => ⟨h.1, ?_⟩
    obtain ⟨own', G', q1, q2, q3, q4⟩ := h.2
    exact ⟨own', G', q1, ⟨by omega, by rw [q3]; omega, by rw [q4]; omega⟩, by omega⟩
  · by_cases h2 : 2 ≤ o.kind
    · exact step_asked w0 w Wb own G o N hWI h64 hpos ⟨f1, f2, f3⟩ hN h2 (by omega)
    · refine (step_idle w0 w Wb own G o hWI hpos (by omega) h1 (by omega) (by omega) (by omega) (.inl (by omega))).mono fun r w' h => ⟨h.1, ?_⟩
      exact ⟨own, G, h.2, ⟨by omega, by omega, by omega⟩, hpos⟩

set_option maxRecDepth 20000 in
set_option maxHeartbeats 8000000 in
theorem lawbooks_any (n : Nat) (a : Option Addr) (os : List OpI) (cap : Nat) (w : World) (hn : os.length = n) (hs : Scr w a os) (h64 : ∀ o ∈ os, Op64 o) (hr : n * 200 ≤ 140737488351232) (ht : TabOk w) :
    Calls Tryz.prog 3 #[.slice a n cap] w fun r w' => r = .returned (.bool true) ∧ Below w.heap.size w w' := by
  have HSC := hid hs
  have H64 := hid h64
  have HN := hid hn
  have HT := hid ht
  have HWB := hid (WI.begin w ht)
  have HNEW : Hid (∀ wz own, WI w wz w.heap.size own g0 → Calls Tryz.prog 5 #[.pointer (some ⟨w.heap.size, 0, none⟩), opV opNew] wz fun r w' => r = .returned (.bool true) ∧ ∃ own' G', WI w w' w.heap.size own' G' ∧ G'.sh.length = g0.sh.length + 1 ∧ G'.ls = g0.ls ∧ G'.ps = g0.ps) := fun wz own h => step_new w wz w.heap.size own g0 opNew h rfl (by simp [g0])
  have HST : Hid (∀ wz own G o N, WI w wz w.heap.size own G → Op64 o → 0 < G.sh.length → Few G N → N ≤ 1000000000000 → o.kind < 10 → Calls Tryz.prog 5 #[.pointer (some ⟨w.heap.size, 0, none⟩), .agg (opC o).toList.toArray] wz fun r w' => r = .returned (.bool true) ∧ StepOk w w.heap.size N w') := fun wz own G o N h1 h2 h3 h4 h5 h6 => by
    rw [Array.toArray_toList]
    exact step_low w wz w.heap.size own G o N h1 h2 h3 h4 h5 h6
  unfold opV opC opNew zA zS at HNEW
  simp only at HNEW
  obtain ⟨Wb, hW⟩ : ∃ Wb, Wb = w.heap.size := ⟨_, rfl⟩
  rw [← hW] at HNEW HST HWB
  clear hs h64 hn ht
  go_enter Tryz.func3, Tryz.ntmps3
  go_wp2_with fail
  rw [← hW]
  refine (HNEW.out _ _ HWB.out).mono ?_
  rintro ee w1 ⟨rfl, own1, G1, hW1, hG1, hG2, hG3⟩
  have HW1 := hid hW1
  have HF1 : Hid (Few G1 1 ∧ 0 < G1.sh.length) := ⟨⟨by rw [hG1]; simp [g0], by rw [hG2]; simp [g0], by rw [hG3]; simp [g0]⟩, by rw [hG1]; omega⟩
  clear hW1 hG1 hG2 hG3 HWB HNEW hW
  generalize Value.agg _ = OV
  generalize Value.agg _ = OW
  go_wp2_with fail
  go_loopw [4, 5, 6] (fun ok i _ wr => ∃ k : Nat, k ≤ n ∧ ok = .bool true ∧ i = .int .i64 (k : Int) ∧ Hid (∃ own G, WI w wr Wb own G ∧ Few G (k + 1) ∧ 0 < G.sh.length)) (fun _ i _ _ => n - (intOf i).toNat)
  case atStart => exact ⟨0, Nat.zero_le _, rfl, rfl, ⟨own1, G1, HW1.out, HF1.out.1, HF1.out.2⟩⟩
  case round =>
    obtain ⟨k, hk, rfl, rfl, HI⟩ := hrel
    obtain ⟨own, G, hI, hF, hP⟩ := HI.out
    have HII := hid hI
    have HFF := hid hF
    have HPP := hid hP
    clear HI hI hF hP HW1 HF1
    by_cases hlt : k < n
    · obtain ⟨b, off, rfl, hc⟩ := HSC.out.at (by have := HN.out; omega)
      have hkl : k < os.length := by have := HN.out; omega
      have HCR := hid (rangeAt_kept (hc k hkl) HII.out.base)
      have HO : Hid (Op64 os[k]) := H64.out _ (List.getElem_mem hkl)
      obtain ⟨o, ho⟩ : ∃ o, o = os[k] := ⟨_, rfl⟩
      rw [← ho] at HCR HO
      have c0 : wr.cell? ⟨b, off + k * 23, none⟩ = some (.int .i64 o.kind) := HCR.out 0 _ rfl
      have i1 : (0 : Int) ≤ (k : Int) := by omega
      have i2 : (k : Int) < (n : Int) := by omega
      have lb : b < wr.heap.size := World.block_lt_of_cell? _ _ c0
      clear hc hkl ho
      go_upto_region 7 with fail
      clear c0
      by_cases h10 : o.kind < 10
      · go_wp2_with (refine wpList_load_mid rfl 39 (.tmp 31) rfl b (off + k * 23) rfl (opC o).toList _ HCR.out Tryz.underlying39 rfl Tryz.infoOp ?_)
        refine (HST.out wr own G o (k + 1) HII.out HO.out HPP.out HFF.out (by omega) h10).mono ?_
        rintro ee w3 ⟨rfl, h3⟩
        have H3 := hid h3
        clear h3
        generalize Value.agg _ = OX
        go_wp2_with fail
        go_roundw
        case rel => exact ⟨k + 1, by omega, rfl, by go_num, H3.out⟩
        case measure => simp [intOf]; omega
      · have HF2 : Hid (Few G (k + 1 + 1)) := by obtain ⟨f1, f2, f3⟩ := HFF.out; exact ⟨by omega, by omega, by omega⟩
        go_wp2_with fail
        go_roundw
        case rel => exact ⟨k + 1, by omega, rfl, by go_num, ⟨own, G, HII.out, HF2.out, HPP.out⟩⟩
        case measure => simp [intOf]; omega
    · obtain rfl : k = n := by omega
      go_wp2_with fail
      go_ret
      exact ⟨rfl, HII.out.base⟩

end Go.Proofs.YtedblhcehlbbmaaGreatDoor

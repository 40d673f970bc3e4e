import Derived.Test.YtedblhcehlbbmaaGreatDoorJWalkAsk6
import Derived.Test.YtedblhcehlbbmaaGreatDoorWalkListed
import Derived.WalkKit
import Derived.WalkSpells
import Derived.WalkLawsBesides
import Derived.Deep.Cut
import Derived.Laws.Rows
/-
  A STEP OF THE SCRIPT on a list of texts.
-/
namespace Go.Proofs.YtedblhcehlbbmaaGreatDoor
set_option maxRecDepth 20000
open Go.RowKit

theorem listed_any (w0 w : World) (Wb : Nat) (own : Nat → Nat) (G : Gh) (o : OpI) (N : Nat) (a : Option Addr) (ss : List ByteArray) (cap : Nat) (hWI : WI w0 w Wb own G) (hl : o.l = .slice a ss.length cap) (hs : Strs w a ss) (hcap : ss.length ≤ cap) (hr : ss.length * 16 ≤ 140737488351232) (hpos : 0 < G.sh.length) (hf : Few G N) (hN : N ≤ 1000000000000) (hk : o.kind = 10 ∨ o.kind = 11 ∨ o.kind = 12) :
    Calls Tryz.prog 8 #[.pointer (some ⟨Wb, 0, none⟩), opV o] w fun r w' => r = .returned (.bool true) ∧ StepOk w0 Wb N w' := by
  obtain ⟨f1, f2, f3⟩ := hf
  rcases hk with hk | hk | hk
  · refine (listed_path w0 w Wb own G o a ss cap hWI hl hs hcap hr (by omega) hk).mono fun r w' h => ⟨h.1, ?_⟩
    obtain ⟨own', G', h1, h2, h3, h4⟩ := h.2
    exact ⟨own', G', h1, ⟨by rw [h2]; omega, by rw [h3]; omega, by omega⟩, by rw [h2]; exact hpos⟩
  · refine (listed_further w0 w Wb own G o a ss cap hWI hl hs hcap hr (by omega) hk).mono fun r w' h => ⟨h.1, ?_⟩
    obtain ⟨own', G', h1, h2, h3, h4⟩ := h.2
    exact ⟨own', G', h1, ⟨by rw [h2]; omega, by rw [h3]; omega, by omega⟩, by rw [h2]; exact hpos⟩
  · refine (listed_root w0 w Wb own G o a ss cap hWI hl hs hcap hr (by omega) hk).mono fun r w' h => ⟨h.1, ?_⟩
    exact ⟨own, G, h.2, ⟨by omega, by omega, by omega⟩, hpos⟩

set_option maxRecDepth 20000 in
set_option maxHeartbeats 8000000 in
theorem step_path (w0 w : World) (Wb : Nat) (o : OpI) (N : Nat) (hk : o.kind = 10) (hC : ∀ wz, Below w.heap.size w wz → Calls Tryz.prog 8 #[.pointer (some ⟨Wb, 0, none⟩), opV o] wz fun r w' => r = .returned (.bool true) ∧ StepOk w0 Wb N w') :
    Calls Tryz.prog 5 #[.pointer (some ⟨Wb, 0, none⟩), opV o] w fun r w' => r = .returned (.bool true) ∧ StepOk w0 Wb N w' := by
  have HLI := hid hC
  have HKD := hid hk
  clear hC hk
  obtain ⟨A, hA⟩ : ∃ A, A = w.heap.size := ⟨_, rfl⟩
  unfold opV at HLI
  unfold opV opC
  go_enter Tryz.func5, Tryz.ntmps5
  go_upto_region 1 with fail
  rw [← hA]
  have HO1 : Hid (BlkO (w.alloc (.cells (opC o) 39)) A o) := by show BlkO _ _ _; rw [hA]; exact BlkO.new w o
  have hk1 : Below w.heap.size w (w.alloc (.cells (opC o) 39)) := (Below.refl _ _).alloc (Nat.le_refl _) _
  unfold opC at HO1 hk1
  generalize World.alloc w _ = w1 at *
  generalize Value.agg _ = OV
  have cK : w1.cell? ⟨A, 0, none⟩ = some (.int .i64 10) := by rw [← HKD.out]; exact HO1.out.cell 0 _ rfl
  have lA : A < w1.heap.size := HO1.out.lt
  have HK1 := hid hk1
  clear hA hk1
  go_upto_region 11 with fail
  clear cK
  go_wp2_with (refine wpList_load_row rfl 39 (.tmp 3) rfl A rfl 39 (opC o) (0, 0) _ HO1.out Tryz.underlying39 rfl Tryz.infoOp ?_)
  refine (HLI.out _ HK1.out).mono ?_
  rintro ee w3 ⟨rfl, h3⟩
  have H3 := hid h3
  clear h3
  go_wp2_with fail
  go_ret
  exact ⟨rfl, H3.out⟩

set_option maxRecDepth 20000 in
set_option maxHeartbeats 8000000 in
theorem step_further (w0 w : World) (Wb : Nat) (o : OpI) (N : Nat) (hk : o.kind = 11) (hC : ∀ wz, Below w.heap.size w wz → Calls Tryz.prog 8 #[.pointer (some ⟨Wb, 0, none⟩), opV o] wz fun r w' => r = .returned (.bool true) ∧ StepOk w0 Wb N w') :
    Calls Tryz.prog 5 #[.pointer (some ⟨Wb, 0, none⟩), opV o] w fun r w' => r = .returned (.bool true) ∧ StepOk w0 Wb N w' := by
  have HLI := hid hC
  have HKD := hid hk
  clear hC hk
  obtain ⟨A, hA⟩ : ∃ A, A = w.heap.size := ⟨_, rfl⟩
  unfold opV at HLI
  unfold opV opC
  go_enter Tryz.func5, Tryz.ntmps5
  go_upto_region 1 with fail
  rw [← hA]
  have HO1 : Hid (BlkO (w.alloc (.cells (opC o) 39)) A o) := by show BlkO _ _ _; rw [hA]; exact BlkO.new w o
  have hk1 : Below w.heap.size w (w.alloc (.cells (opC o) 39)) := (Below.refl _ _).alloc (Nat.le_refl _) _
  unfold opC at HO1 hk1
  generalize World.alloc w _ = w1 at *
  generalize Value.agg _ = OV
  have cK : w1.cell? ⟨A, 0, none⟩ = some (.int .i64 11) := by rw [← HKD.out]; exact HO1.out.cell 0 _ rfl
  have lA : A < w1.heap.size := HO1.out.lt
  have HK1 := hid hk1
  clear hA hk1
  go_upto_region 11 with fail
  clear cK
  go_wp2_with (refine wpList_load_row rfl 39 (.tmp 3) rfl A rfl 39 (opC o) (0, 0) _ HO1.out Tryz.underlying39 rfl Tryz.infoOp ?_)
  refine (HLI.out _ HK1.out).mono ?_
  rintro ee w3 ⟨rfl, h3⟩
  have H3 := hid h3
  clear h3
  go_wp2_with fail
  go_ret
  exact ⟨rfl, H3.out⟩

set_option maxRecDepth 20000 in
set_option maxHeartbeats 8000000 in
theorem step_root (w0 w : World) (Wb : Nat) (o : OpI) (N : Nat) (hk : o.kind = 12) (hC : ∀ wz, Below w.heap.size w wz → Calls Tryz.prog 8 #[.pointer (some ⟨Wb, 0, none⟩), opV o] wz fun r w' => r = .returned (.bool true) ∧ StepOk w0 Wb N w') :
    Calls Tryz.prog 5 #[.pointer (some ⟨Wb, 0, none⟩), opV o] w fun r w' => r = .returned (.bool true) ∧ StepOk w0 Wb N w' := by
  have HLI := hid hC
  have HKD := hid hk
  clear hC hk
  obtain ⟨A, hA⟩ : ∃ A, A = w.heap.size := ⟨_, rfl⟩
  unfold opV at HLI
  unfold opV opC
  go_enter Tryz.func5, Tryz.ntmps5
  go_upto_region 1 with fail
  rw [← hA]
  have HO1 : Hid (BlkO (w.alloc (.cells (opC o) 39)) A o) := by show BlkO _ _ _; rw [hA]; exact BlkO.new w o
  have hk1 : Below w.heap.size w (w.alloc (.cells (opC o) 39)) := (Below.refl _ _).alloc (Nat.le_refl _) _
  unfold opC at HO1 hk1
  generalize World.alloc w _ = w1 at *
  generalize Value.agg _ = OV
  have cK : w1.cell? ⟨A, 0, none⟩ = some (.int .i64 12) := by rw [← HKD.out]; exact HO1.out.cell 0 _ rfl
  have lA : A < w1.heap.size := HO1.out.lt
  have HK1 := hid hk1
  clear hA hk1
  go_upto_region 11 with fail
  clear cK
  go_wp2_with (refine wpList_load_row rfl 39 (.tmp 3) rfl A rfl 39 (opC o) (0, 0) _ HO1.out Tryz.underlying39 rfl Tryz.infoOp ?_)
  refine (HLI.out _ HK1.out).mono ?_
  rintro ee w3 ⟨rfl, h3⟩
  have H3 := hid h3
  clear h3
  go_wp2_with fail
  go_ret
  exact ⟨rfl, H3.out⟩

end Go.Proofs.YtedblhcehlbbmaaGreatDoor

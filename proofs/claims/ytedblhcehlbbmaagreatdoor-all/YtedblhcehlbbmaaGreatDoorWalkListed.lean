import Derived.Test.YtedblhcehlbbmaaGreatDoorJSpecWI
import Derived.Test.YtedblhcehlbbmaaGreatDoorWalkTakeInts
import Derived.Test.YtedblhcehlbbmaaGreatDoorWalkLists
import Derived.WalkKit
import Derived.WalkSpells
import Derived.WalkLawsBesides
import Derived.Deep.Cut
/-
  A STEP ON A LIST OF TEXTS: lenderlaw.World.listed.
-/
namespace Go.Proofs.YtedblhcehlbbmaaGreatDoor
set_option maxRecDepth 20000
open Go.RowKit

set_option maxRecDepth 20000 in
set_option maxHeartbeats 8000000 in
theorem listed_path (w0 w : World) (Wb : Nat) (own : Nat → Nat) (G : Gh) (o : OpI) (a : Option Addr) (ss : List ByteArray) (cap : Nat) (hWI : WI w0 w Wb own G) (hl : o.l = .slice a ss.length cap) (hs : Strs w a ss) (_hcap : ss.length ≤ cap) (hr : ss.length * 16 ≤ 140737488351232) (hps : G.ps.length ≤ 1000000000000) (hk : o.kind = 10) :
    Calls Tryz.prog 8 #[.pointer (some ⟨Wb, 0, none⟩), opV o] w fun r w' => r = .returned (.bool true) ∧ ∃ own' G', WI w0 w' Wb own' G' ∧ G'.sh = G.sh ∧ G'.ls = G.ls ∧ G'.ps.length = G.ps.length + 1 := by
  obtain ⟨n, hn⟩ : ∃ n, n = ss.length := ⟨_, rfl⟩
  have HCA : Hid (∀ wz, Below w.heap.size w wz → Calls Tryz.prog 13 #[.slice a n cap, .int .i64 o.a] wz fun e w' => ∃ v xs, e = .returned (.tuple #[v, .bool true]) ∧ Own w' w.heap.size v xs ∧ xs.length ≤ 1000 ∧ Below wz.heap.size wz w') := fun wz hz => by
    rw [hn]
    exact (lawPath ss.length o.a a ss cap wz rfl (hs.kept hz) hr).mono fun e w' h => by
      obtain ⟨v, xs, h1, h2, h3, h4⟩ := h
      exact ⟨v, xs, h1, h2.mono hz.size, h3, h4⟩
  have HL : Hid (o.l = .slice a n cap) := by show _ = _; rw [hn]; exact hl
  have HWI := hid hWI
  have HPS := hid hps
  have HYS : Hid (G.ys.length ≤ 3000000000000) := by show _ ≤ _; have := hWI.lenY; omega
  have HKD := hid hk
  clear hWI hl hs hr hps _hcap hn
  obtain ⟨A, hA⟩ : ∃ A, A = w.heap.size := ⟨_, rfl⟩
  unfold opV opC
  rw [hk]
  go_enter Tryz.func8, Tryz.ntmps8
  go_upto_region 1 with fail
  rw [← hA]
  have HO1 : Hid (BlkO (w.alloc (.cells (opC o) 39)) A o) := by show BlkO _ _ _; rw [hA]; exact BlkO.new w o
  have hk1 : Below w.heap.size w (w.alloc (.cells (opC o) 39)) := (Below.refl _ _).alloc (Nat.le_refl _) _
  unfold opC at HO1 hk1
  rw [hk] at HO1 hk1
  generalize World.alloc w _ = w1 at *
  generalize Value.agg _ = OV
  have cK : w1.cell? ⟨A, 0, none⟩ = some (.int .i64 10) := by rw [← HKD.out]; exact HO1.out.cell 0 _ rfl
  have cA : w1.cell? ⟨A, 1, none⟩ = some (.int .i64 o.a) := HO1.out.cell 1 _ rfl
  have cL : w1.cell? ⟨A, 22, none⟩ = some (.slice a n cap) := by rw [← HL.out]; exact HO1.out.cell 22 _ rfl
  have lA : A < w1.heap.size := HO1.out.lt
  have HK1 := hid hk1
  clear hA hk hk1
  go_wp2_with fail
  refine (HCA.out _ HK1.out).mono ?_
  rintro ee w2 ⟨v, xs, rfl, hO2, hx, hb2⟩
  have HB2 := hid (kept HK1.out hb2)
  have HX := hid hx
  have HW2 := hid (HWI.out.kept (own' := tagN own w.heap.size 8) HB2.out (fun k hk => tagN_old hk))
  have HTT := hid (takeInts_any w2 (tagN own w.heap.size 8) Wb G.vb G.vl G.vg G.vp G.vy v G.ps G.ys xs HW2.out.top HW2.out.topT HW2.out.rp HW2.out.rpT HW2.out.ry HW2.out.ryT (hO2.mono (Nat.zero_le _)) (fun b hb => tagN_new (World.ownsRow.lt hO2 b hb).1) hx HPS.out HYS.out)
  clear hO2 hx hb2 cK cA cL lA
  go_wp2_with fail
  refine HTT.out.mono ?_
  rintro ee w3 ⟨rfl, vl, vg, g1, g2, g3, own', hTk⟩
  have HFI := hid (HW2.out.takenI HX.out hTk)
  clear hTk HTT
  go_wp2_with fail
  go_ret
  exact ⟨rfl, HFI.out⟩

set_option maxRecDepth 20000 in
set_option maxHeartbeats 8000000 in
theorem listed_further (w0 w : World) (Wb : Nat) (own : Nat → Nat) (G : Gh) (o : OpI) (a : Option Addr) (ss : List ByteArray) (cap : Nat) (hWI : WI w0 w Wb own G) (hl : o.l = .slice a ss.length cap) (hs : Strs w a ss) (hcap : ss.length ≤ cap) (hr : ss.length * 16 ≤ 140737488351232) (hps : G.ps.length ≤ 1000000000000) (hk : o.kind = 11) :
    Calls Tryz.prog 8 #[.pointer (some ⟨Wb, 0, none⟩), opV o] w fun r w' => r = .returned (.bool true) ∧ ∃ own' G', WI w0 w' Wb own' G' ∧ G'.sh = G.sh ∧ G'.ls = G.ls ∧ G'.ps.length = G.ps.length + 1 := by
  obtain ⟨n, hn⟩ : ∃ n, n = ss.length := ⟨_, rfl⟩
  have HCA : Hid (∀ wz, Below w.heap.size w wz → Calls Tryz.prog 15 #[.slice a n cap, .int .i64 o.a] wz fun e w' => ∃ v xs, e = .returned (.tuple #[v, .bool true]) ∧ Own w' w.heap.size v xs ∧ xs.length ≤ 1000 ∧ Below wz.heap.size wz w') := fun wz hz => by
    rw [hn]
    exact (lawFurther ss.length o.a a ss cap wz rfl (hs.kept hz) hcap hr).mono fun e w' h => by
      obtain ⟨v, xs, h1, h2, h3, h4⟩ := h
      exact ⟨v, xs, h1, h2.mono hz.size, h3, h4⟩
  have HL : Hid (o.l = .slice a n cap) := by show _ = _; rw [hn]; exact hl
  have HWI := hid hWI
  have HPS := hid hps
  have HYS : Hid (G.ys.length ≤ 3000000000000) := by show _ ≤ _; have := hWI.lenY; omega
  have HKD := hid hk
  clear hWI hl hs hr hps hcap hn
  obtain ⟨A, hA⟩ : ∃ A, A = w.heap.size := ⟨_, rfl⟩
  unfold opV opC
  rw [hk]
  go_enter Tryz.func8, Tryz.ntmps8
  go_upto_region 1 with fail
  rw [← hA]
  have HO1 : Hid (BlkO (w.alloc (.cells (opC o) 39)) A o) := by show BlkO _ _ _; rw [hA]; exact BlkO.new w o
  have hk1 : Below w.heap.size w (w.alloc (.cells (opC o) 39)) := (Below.refl _ _).alloc (Nat.le_refl _) _
  unfold opC at HO1 hk1
  rw [hk] at HO1 hk1
  generalize World.alloc w _ = w1 at *
  generalize Value.agg _ = OV
  have cK : w1.cell? ⟨A, 0, none⟩ = some (.int .i64 11) := by rw [← HKD.out]; exact HO1.out.cell 0 _ rfl
  have cA : w1.cell? ⟨A, 1, none⟩ = some (.int .i64 o.a) := HO1.out.cell 1 _ rfl
  have cL : w1.cell? ⟨A, 22, none⟩ = some (.slice a n cap) := by rw [← HL.out]; exact HO1.out.cell 22 _ rfl
  have lA : A < w1.heap.size := HO1.out.lt
  have HK1 := hid hk1
  clear hA hk hk1
  go_wp2_with fail
  refine (HCA.out _ HK1.out).mono ?_
  rintro ee w2 ⟨v, xs, rfl, hO2, hx, hb2⟩
  have HB2 := hid (kept HK1.out hb2)
  have HX := hid hx
  have HW2 := hid (HWI.out.kept (own' := tagN own w.heap.size 8) HB2.out (fun k hk => tagN_old hk))
  have HTT := hid (takeInts_any w2 (tagN own w.heap.size 8) Wb G.vb G.vl G.vg G.vp G.vy v G.ps G.ys xs HW2.out.top HW2.out.topT HW2.out.rp HW2.out.rpT HW2.out.ry HW2.out.ryT (hO2.mono (Nat.zero_le _)) (fun b hb => tagN_new (World.ownsRow.lt hO2 b hb).1) hx HPS.out HYS.out)
  clear hO2 hx hb2 cK cA cL lA
  go_wp2_with fail
  refine HTT.out.mono ?_
  rintro ee w3 ⟨rfl, vl, vg, g1, g2, g3, own', hTk⟩
  have HFI := hid (HW2.out.takenI HX.out hTk)
  clear hTk HTT
  go_wp2_with fail
  go_ret
  exact ⟨rfl, HFI.out⟩

set_option maxRecDepth 20000 in
set_option maxHeartbeats 8000000 in
theorem listed_root (w0 w : World) (Wb : Nat) (own : Nat → Nat) (G : Gh) (o : OpI) (a : Option Addr) (ss : List ByteArray) (cap : Nat) (hWI : WI w0 w Wb own G) (hl : o.l = .slice a ss.length cap) (hs : Strs w a ss) (_hcap : ss.length ≤ cap) (hr : ss.length * 16 ≤ 140737488351232) (hps : G.ps.length ≤ 1000000000000) (hk : o.kind = 12) :
    Calls Tryz.prog 8 #[.pointer (some ⟨Wb, 0, none⟩), opV o] w fun r w' => r = .returned (.bool true) ∧ WI w0 w' Wb own G := by
  obtain ⟨n, hn⟩ : ∃ n, n = ss.length := ⟨_, rfl⟩
  have HCA : Hid (∀ wz, Below w.heap.size w wz → Calls Tryz.prog 16 #[.slice a n cap] wz fun e w' => e = .returned (.bool true) ∧ Below wz.heap.size wz w') := fun wz hz => by
    rw [hn]
    exact (lawRoots ss.length a ss cap wz rfl (hs.kept hz) hr).mono fun e w' h => h
  have HL : Hid (o.l = .slice a n cap) := by show _ = _; rw [hn]; exact hl
  have HWI := hid hWI
  have HPS := hid hps
  have HYS : Hid (G.ys.length ≤ 3000000000000) := by show _ ≤ _; have := hWI.lenY; omega
  have HKD := hid hk
  clear hWI hl hs hr hps _hcap hn
  obtain ⟨A, hA⟩ : ∃ A, A = w.heap.size := ⟨_, rfl⟩
  unfold opV opC
  rw [hk]
  go_enter Tryz.func8, Tryz.ntmps8
  go_upto_region 1 with fail
  rw [← hA]
  have HO1 : Hid (BlkO (w.alloc (.cells (opC o) 39)) A o) := by show BlkO _ _ _; rw [hA]; exact BlkO.new w o
  have hk1 : Below w.heap.size w (w.alloc (.cells (opC o) 39)) := (Below.refl _ _).alloc (Nat.le_refl _) _
  unfold opC at HO1 hk1
  rw [hk] at HO1 hk1
  generalize World.alloc w _ = w1 at *
  generalize Value.agg _ = OV
  have cK : w1.cell? ⟨A, 0, none⟩ = some (.int .i64 12) := by rw [← HKD.out]; exact HO1.out.cell 0 _ rfl
  have cA : w1.cell? ⟨A, 1, none⟩ = some (.int .i64 o.a) := HO1.out.cell 1 _ rfl
  have cL : w1.cell? ⟨A, 22, none⟩ = some (.slice a n cap) := by rw [← HL.out]; exact HO1.out.cell 22 _ rfl
  have lA : A < w1.heap.size := HO1.out.lt
  have HK1 := hid hk1
  clear hA hk hk1
  go_wp2_with fail
  refine (HCA.out _ HK1.out).mono ?_
  rintro ee w2 ⟨rfl, hb2⟩
  have HB2 := hid (kept HK1.out hb2)
  clear hb2
  go_wp2_with fail
  go_ret
  exact ⟨rfl, HWI.out.kept HB2.out (fun _ _ => rfl)⟩

end Go.Proofs.YtedblhcehlbbmaaGreatDoor

/-
  CONTRACT: loans.Path: the sums beside a loan's own.
-/
import Derived.Test.YtedblhcehlbbmabDoorWalkStates
import Derived.Test.YtedblhcehlbbmabDoorMathDown
import Derived.WalkKit
import Derived.WalkSpells
import Derived.WalkLawsBesides
namespace Go.Proofs.YtedblhcehlbbmabDoor
open Go.RowKit

/-- The block L holds six numbers. -/
def siC (x : Nat → Int) : Array Value := #[.int .i64 (x 0), .int .i64 (x 1), .int .i64 (x 2), .int .i64 (x 3), .int .i64 (x 4), .int .i64 (x 5)]
def Blk6 (w : World) (L : Nat) (x : Nat → Int) : Prop := w.heap[L]? = some (.cells (siC x) 33 (0, 0))
theorem Blk6.new (w : World) (x : Nat → Int) : Blk6 (w.alloc (.cells (siC x) 33)) w.heap.size x := heap_alloc_new w _
theorem Blk6.kept {w w' : World} {L : Nat} {x : Nat → Int} (h : Blk6 w L x) (hb : Below w.heap.size w w') : Blk6 w' L x := by unfold Blk6 at *; rw [hb.block L (lt_of_block h)]; exact h
theorem Blk6.cell {w : World} {L : Nat} {x : Nat → Int} (h : Blk6 w L x) (i : Nat) (hi : i < 6) : w.cell? ⟨L, i, none⟩ = some (.int .i64 (x i)) := by
  unfold Blk6 at h
  rcases (by omega : i = 0 ∨ i = 1 ∨ i = 2 ∨ i = 3 ∨ i = 4 ∨ i = 5) with rfl | rfl | rfl | rfl | rfl | rfl <;> simp [World.cell?, h, siC]
theorem Blk6.free {w : World} {L : Nat} {x : Nat → Int} (h : Blk6 w L x) (i : Nat) : w.frozen? ⟨L, i, none⟩ = false := by
  unfold Blk6 at h
  simp [World.frozen?, h]
def upd6 (x : Nat → Int) (i : Nat) (t : Int) : Nat → Int := fun j => if j = i then t else x j
theorem Blk6.put {w : World} {L : Nat} {x : Nat → Int} (h : Blk6 w L x) (i : Nat) (hi : i < 6) (t : Int) : Blk6 (w.setCell ⟨L, i, none⟩ (.int .i64 t)) L (upd6 x i t) := by
  unfold Blk6 at *
  rw [blk_setCell h]
  rcases (by omega : i = 0 ∨ i = 1 ∨ i = 2 ∨ i = 3 ∨ i = 4 ∨ i = 5) with rfl | rfl | rfl | rfl | rfl | rfl <;> rfl
theorem Blk6.other {w : World} {L M i : Nat} {x : Nat → Int} {v : Value} (h : Blk6 w L x) (hne : L ≠ M) : Blk6 (w.setCell ⟨M, i, none⟩ v) L x := by
  unfold Blk6 at *
  rw [Below.heap_setCell _ _ _ _ hne]; exact h
/-- The sums from depth k up. -/
def fromP (f : Nat → St) (l k : Nat) : Nat → Int := fun i => if k ≤ i then sideL f l i else 0
theorem fromP_down (f : Nat → St) (l k : Nat) : upd6 (fromP f l (k + 1)) k (sideL f l k) = fromP f l k := by
  funext j
  unfold upd6 fromP
  by_cases h : j = k
  · subst h; rw [if_pos rfl, if_pos (Nat.le_refl _)]
  · rw [if_neg h]
    by_cases h2 : k + 1 ≤ j
    · rw [if_pos h2, if_pos (by omega)]
    · rw [if_neg h2, if_neg (by omega)]
theorem siC_six (f : Nat → St) (l : Nat) : siC (fun _ => 0) = siC (fromP f l 6) := rfl
def pathV (f : Nat → St) (l : Nat) : Value := .agg (siC (sideL f l))
theorem siC_all (f : Nat → St) (l : Nat) : siC (fromP f l 0) = siC (sideL f l) := rfl
theorem Blk6.all {w : World} {L : Nat} {x : Nat → Int} (h : Blk6 w L x) (y : Nat → Int) : Blk6 ((((((w.setCell ⟨L, 0, none⟩ (.int .i64 (y 0))).setCell ⟨L, 1, none⟩ (.int .i64 (y 1))).setCell ⟨L, 2, none⟩ (.int .i64 (y 2))).setCell ⟨L, 3, none⟩ (.int .i64 (y 3))).setCell ⟨L, 4, none⟩ (.int .i64 (y 4))).setCell ⟨L, 5, none⟩ (.int .i64 (y 5))) L y := by
  have h8 := (((((h.put 0 (by omega) (y 0)).put 1 (by omega) (y 1)).put 2 (by omega) (y 2)).put 3 (by omega) (y 3)).put 4 (by omega) (y 4)).put 5 (by omega) (y 5)
  have e : siC (upd6 (upd6 (upd6 (upd6 (upd6 (upd6 x 0 (y 0)) 1 (y 1)) 2 (y 2)) 3 (y 3)) 4 (y 4)) 5 (y 5)) = siC y := rfl
  unfold Blk6 at *
  rw [e] at h8
  exact h8
theorem Tryd.info6 : (Tryd.prog.info? 33).map (·.size) = some 6 := by kernel_rfl
theorem ret_six {fn : Func} {p : Tmp} (h : fn.results = #[.cell p 33]) {tmps : Array Value} {w : World} {L : Nat} {x : Nat → Int} (hp : tmps.getD p undef = .pointer (some ⟨L, 0, none⟩)) (hb : Blk6 w L x) :
    (results fn tmps).run Tryd.prog w = .ok (.agg (siC x)) w :=
  results_cell_row h tmps w L 33 _ (0, 0) _ hp hb Tryd.underlying33 rfl Tryd.info6
theorem Sts.under {w w' : World} {B b o n j : Nat} {f : Nat → St} (h : Sts w b o n f j) (hb : Below B w w') (hlt : b < B) : Sts w' b o n f j := fun i hi => by
  have hc : ∀ o v, w.cell? ⟨b, o, none⟩ = some v → w'.cell? ⟨b, o, none⟩ = some v := fun o v h => by
    unfold World.cell? at *
    rw [hb.block b hlt]; exact h
  obtain ⟨h0, h1, h2, h3, h4, h5⟩ := h i hi
  exact ⟨hc _ _ h0, hc _ _ h1, hc _ _ h2, hc _ _ h3, hc _ _ h4, hc _ _ h5⟩

set_option maxRecDepth 20000 in
set_option maxHeartbeats 4000000 in
theorem loansPath_any (f : Nat → St) (hf : ∀ j, St64 (f j)) (g cap l : Nat) (w : World) (hl : l < 64) (hs : Sts w g 0 64 f 0) (hcap : 64 ≤ cap) (hmax : cap ≤ maxLen) (ht : TabOk w) :
    Calls Tryd.prog 27 #[.slice (some ⟨g, 0, none⟩) 64 cap, .int .i64 (l : Int)] w fun e w' => e = .returned (pathV f l) ∧ Below w.heap.size w w' := by
  have hg : g < w.heap.size := World.block_lt_of_cell? _ _ (hs 0 (by omega)).1
  have HS : Hid (∀ (d j o c : Nat) (wz : World), d ≤ 6 → Sts w g o (2 ^ d) f (j * 2 ^ d) → 2 ^ d ≤ c → c ≤ maxLen → Below w.heap.size w wz → Calls Tryd.prog 24 #[.slice (some ⟨g, o, none⟩) (2 ^ d) c] wz fun e w' => e = .returned (.int .i64 (mapL f d j)) ∧ Below wz.heap.size wz w') := fun d j o c wz hd h1 h2 h3 hz => by
    rw [mapL_T]
    exact sumS_of _ _ _ _ wz (length_mapT f d _ hf) (textS_any f hf d hd g o c j wz (h1.kept hz) h2 h3 (ht.kept hz))
  have HB0 := hid hs
  have HMX := hid hmax
  have HHG := hid hg
  clear hf ht hs hmax hg
  obtain ⟨L, hL⟩ : ∃ L, L = w.heap.size := ⟨_, rfl⟩
  go_enter Tryd.func27, Tryd.ntmps27
  go_wp2_with fail
  rw [← hL]
  have HR : Hid (Blk6 ((w.alloc (.cells (siC (fun _ => 0)) 33)).alloc (.cells (siC (fun _ => 0)) 33)) L (fun _ => 0)) := by
    show Blk6 _ _ _
    rw [hL]; exact (Blk6.new w _).kept ((Below.refl _ _).alloc (Nat.le_refl _) _)
  have HP : Hid (Blk6 ((w.alloc (.cells (siC (fun _ => 0)) 33)).alloc (.cells (siC (fun _ => 0)) 33)) (L + 1) (fromP f l 6)) := by
    have := Blk6.new (w.alloc (.cells (siC (fun _ => 0)) 33)) (fun _ => 0)
    rw [show (w.alloc (.cells (siC (fun _ => 0)) 33)).heap.size = L + 1 by simp [hL]] at this
    exact this
  have HB1 : Hid (Below w.heap.size w ((w.alloc (.cells (siC (fun _ => 0)) 33)).alloc (.cells (siC (fun _ => 0)) 33))) := ((Below.refl _ _).alloc (Nat.le_refl _) _).alloc (by simp) _
  unfold siC at HR HP HB1
  generalize World.alloc (World.alloc w _) _ = w1 at *
  have HLW : Hid (w.heap.size ≤ L) := by show _ ≤ _; rw [hL]; exact Nat.le_refl _
  have HLW2 : Hid (w.heap.size ≤ L + 1) := by have := HLW.out; show _ ≤ _; omega
  clear hL
  go_loopw [0, 1, 6, 7] (fun ss ll d _ wr => ∃ k : Nat, k ≤ 6 ∧ d = .int .i64 ((k : Int) - 1) ∧ ll = .int .i64 ((l % 2 ^ k : Nat) : Int) ∧ ∃ o c : Nat, ss = .slice (some ⟨g, o, none⟩) (2 ^ k) c ∧ Hid (Sts w g o (2 ^ k) f (l / 2 ^ k * 2 ^ k)) ∧ 2 ^ k ≤ c ∧ Hid (c ≤ maxLen) ∧ Hid (Blk6 wr L (fun _ => 0)) ∧ Hid (Blk6 wr (L + 1) (fromP f l k)) ∧ Below w.heap.size w wr) (fun _ _ d _ _ => (intOf d + 1).toNat)
  case atStart => exact ⟨6, Nat.le_refl _, rfl, by rw [Nat.mod_eq_of_lt hl], 0, cap, rfl, by rw [show l / 2 ^ 6 * 2 ^ 6 = 0 by omega]; exact HB0.out, hcap, HMX, HR, HP, HB1.out⟩
  case round =>
    obtain ⟨k, hk, rfl, rfl, o, c, rfl, HST, hc, HC, HR, HP, hbel⟩ := hrel
    cases k with
    | zero =>
      have HV : Hid (pathV f l = .agg (siC (fromP f l 0))) := rfl
      clear HST hc HC hk
      rw [show ((0 : Nat) : Int) - 1 = -1 from rfl]
      generalize fromP f l 0 = x at *
      have c0 := HP.out.cell 0 (by omega)
      have c1 := HP.out.cell 1 (by omega)
      have c2 := HP.out.cell 2 (by omega)
      have c3 := HP.out.cell 3 (by omega)
      have c4 := HP.out.cell 4 (by omega)
      have c5 := HP.out.cell 5 (by omega)
      have g0 := HR.out.free 0
      have g1 := HR.out.free 1
      have g2 := HR.out.free 2
      have g3 := HR.out.free 3
      have g4 := HR.out.free 4
      have g5 := HR.out.free 5
      have r0 := HR.out.cell 0 (by omega)
      have r1 := HR.out.cell 1 (by omega)
      have r2 := HR.out.cell 2 (by omega)
      have r3 := HR.out.cell 3 (by omega)
      have r4 := HR.out.cell 4 (by omega)
      have r5 := HR.out.cell 5 (by omega)
      go_wp2_with fail
      (try simp only [Exit.inBlock, Exit.then])
      refine bodyPost_ret (ret_six rfl (L := L) (x := x) rfl (HR.out.all x)) rfl ⟨by rw [HV.out], ?_⟩
      exact (((((hbel.setCell HLW.out _).setCell HLW.out _).setCell HLW.out _).setCell HLW.out _).setCell HLW.out _).setCell HLW.out _
    | succ d =>
      rw [show ((d + 1 : Nat) : Int) - 1 = (d : Int) by omega]
      have hp : 2 ^ (d + 1) = 2 ^ d + 2 ^ d := by rw [Nat.pow_succ]; omega
      have hp1 : 1 ≤ 2 ^ d := Nat.one_le_two_pow
      have hp2 : 2 ^ d ≤ 32 := by
        have : 2 ^ d ≤ 2 ^ 5 := Nat.pow_le_pow_right (by omega) (by omega)
        omega
      have HFD := hid (fromP_down f l d)
      have HSL : Hid (Sts w g o (2 ^ d) f (2 * (l / 2 ^ (d + 1)) * 2 ^ d)) := by
        have := HST.out.first (2 ^ d) (by omega)
        rw [pow_two_mul] at this
        exact this
      have HSH : Hid (Sts w g (o + 2 ^ d * 6) (2 ^ d) f ((2 * (l / 2 ^ (d + 1)) + 1) * 2 ^ d)) := by
        have := HST.out.rest (2 ^ d)
        rw [show 2 ^ (d + 1) - 2 ^ d = 2 ^ d by omega, show l / 2 ^ (d + 1) * 2 ^ (d + 1) + 2 ^ d = (2 * (l / 2 ^ (d + 1)) + 1) * 2 ^ d by rw [pow_two_mul, Nat.add_mul, Nat.one_mul]] at this
        exact this
      have HS1 : Hid (∀ wz, Below w.heap.size w wz → Calls Tryd.prog 24 #[.slice (some ⟨g, o, none⟩) (2 ^ d) c] wz fun e w' => e = .returned (.int .i64 (mapL f d (2 * (l / 2 ^ (d + 1))))) ∧ Below wz.heap.size wz w') := fun wz hz => HS.out d _ o c wz (by omega) HSL.out (by omega) HC.out hz
      have HS2 : Hid (∀ wz, Below w.heap.size w wz → Calls Tryd.prog 24 #[.slice (some ⟨g, o + 2 ^ d * 6, none⟩) (2 ^ d) (c - 2 ^ d)] wz fun e w' => e = .returned (.int .i64 (mapL f d (2 * (l / 2 ^ (d + 1)) + 1))) ∧ Below wz.heap.size wz w') := fun wz hz => HS.out d _ (o + 2 ^ d * 6) (c - 2 ^ d) wz (by omega) HSH.out (by omega) (by have := HC.out; omega) hz
      by_cases hlo : l % 2 ^ (d + 1) < 2 ^ d
      · have HB := hid (bit_lo l d (by omega) hlo)
        have HSD := hid (side_lo f l d (by omega) hlo)
        rw [← HSD.out] at HS2
        rw [← HB.out.1] at HSL
        generalize sideL f l d = sd at *
        generalize fromP f l (d + 1) = xk at *
        rw [hp] at hc hlo HB ⊢
        generalize l % (2 ^ d + 2 ^ d) = r at *
        have HRD : Hid (l % 2 ^ d = r) := HB.out.2
        obtain ⟨m, hm⟩ : ∃ m, m = 2 ^ d := ⟨_, rfl⟩
        have HM := hid hm
        rw [← hm] at hlo HSL HS2 hp1 hp2 hc ⊢
        clear hp hm HS HS1 HSH HST
        have i0 : (r : Int) < ((m : Int) + (m : Int)) / 2 := by omega
        have i1 : (0 : Int) ≤ (m : Int) := by omega
        have i2 : (m : Int) ≤ (m : Int) + (m : Int) := by omega
        have i3 : ¬ c = m := by omega
        have i4 : (m : Int) + (m : Int) ≤ (c : Int) := by omega
        have i5 : (0 : Int) ≤ (d : Int) := by omega
        have i6 : (d : Int) < 6 := by omega
        go_wp2_with fail
        rw [show (m + m) / 2 = m by omega, show ((m : Int) + (m : Int)) / 2 = (m : Int) by omega, show m + m - m = m by omega]
        refine (HS2.out _ hbel).mono ?_
        rintro e w2 ⟨rfl, hb2⟩
        have hk2 := kept hbel hb2
        have HP2 := hid (HP.out.kept hb2)
        have HR2 := hid (HR.out.kept hb2)
        have fd := HP2.out.free d
        have cd := HP2.out.cell d (by omega)
        clear hb2 HP HR i0 HS2
        go_wp2_with fail
        refine ⟨⟨d, by omega, rfl, by rw [HRD.out], o, c, by rw [HM.out], ?_, by rw [← HM.out]; omega, HC, HR2.out.other (by omega), ?_, hk2.setCell HLW2.out _⟩, by simp [intOf]⟩
        · show Sts _ _ _ _ _ _
          rw [← HM.out]; exact HSL.out
        · show Blk6 _ _ _
          rw [← HFD.out]; exact HP2.out.put d (by omega) sd
      · have HB := hid (bit_hi l d (by omega) hlo)
        have HSD := hid (side_hi f l d (by omega) hlo)
        rw [← HSD.out] at HS1
        rw [← HB.out.1] at HSH
        generalize sideL f l d = sd at *
        generalize fromP f l (d + 1) = xk at *
        have hrl : l % 2 ^ (d + 1) < 2 ^ (d + 1) := Nat.mod_lt _ (by omega)
        rw [hp] at hc hlo HB hrl ⊢
        generalize l % (2 ^ d + 2 ^ d) = r at *
        have HRD : Hid (l % 2 ^ d = r - 2 ^ d) := HB.out.2
        obtain ⟨m, hm⟩ : ∃ m, m = 2 ^ d := ⟨_, rfl⟩
        have HM := hid hm
        rw [← hm] at hlo HSH HS1 hp1 hp2 hc hrl ⊢
        clear hp hm HS HS2 HSL HST
        have i0 : ¬ (r : Int) < ((m : Int) + (m : Int)) / 2 := by omega
        have i1 : (0 : Int) ≤ (m : Int) := by omega
        have i2 : (m : Int) ≤ (m : Int) + (m : Int) := by omega
        have i3 : ¬ c = m := by omega
        have i4 : (m : Int) + (m : Int) ≤ (c : Int) := by omega
        have i5 : (0 : Int) ≤ (d : Int) := by omega
        have i6 : (d : Int) < 6 := by omega
        go_wp2_with fail
        rw [show (m + m) / 2 = m by omega, show ((m : Int) + (m : Int)) / 2 = (m : Int) by omega]
        refine (HS1.out _ hbel).mono ?_
        rintro e w2 ⟨rfl, hb2⟩
        have hk2 := kept hbel hb2
        have HP2 := hid (HP.out.kept hb2)
        have HR2 := hid (HR.out.kept hb2)
        have fd := HP2.out.free d
        have cd := HP2.out.cell d (by omega)
        clear hb2 HP HR i0 HS1
        go_wp2_with fail
        refine ⟨⟨d, by omega, rfl, by rw [HRD.out, ← HM.out, Int.ofNat_sub (by omega)], o + m * 6, c - m, by rw [HM.out], ?_, by rw [← HM.out]; omega, by have := HC.out; show _ ≤ _; omega, HR2.out.other (by omega), ?_, hk2.setCell HLW2.out _⟩, by simp [intOf]⟩
        · show Sts _ _ _ _ _ _
          rw [← HM.out]; exact HSH.out
        · show Blk6 _ _ _
          rw [← HFD.out]; exact HP2.out.put d (by omega) sd

end Go.Proofs.YtedblhcehlbbmabDoor

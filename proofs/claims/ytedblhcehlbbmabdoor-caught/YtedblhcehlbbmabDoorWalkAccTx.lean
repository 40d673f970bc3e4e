/-
  CONTRACT: accounts.Texts.
-/
import Derived.Test.YtedblhcehlbbmabDoorBlkAcc
import Derived.Test.YtedblhcehlbbmabDoorWalkStateText
import Derived.Test.YtedblhcehlbbmabDoorMathLie
import Derived.WalkKit
import Derived.WalkSpells
import Derived.WalkLawsBesides
import Derived.Laws.IdiomStrings
namespace Go.Proofs.YtedblhcehlbbmabDoor
open Go.RowKit

/-- The block L holds eight texts. -/
def txC (x : Nat → ByteArray) : Array Value := #[.string (x 0), .string (x 1), .string (x 2), .string (x 3), .string (x 4), .string (x 5), .string (x 6), .string (x 7)]
def BlkT (w : World) (L : Nat) (x : Nat → ByteArray) : Prop := w.heap[L]? = some (.cells (txC x) 87 (0, 0))
theorem BlkT.new (w : World) (x : Nat → ByteArray) : BlkT (w.alloc (.cells (txC x) 87)) w.heap.size x := heap_alloc_new w _
theorem BlkT.kept {w w' : World} {L : Nat} {x : Nat → ByteArray} (h : BlkT w L x) (hb : Below w.heap.size w w') : BlkT w' L x := by unfold BlkT at *; rw [hb.block L (lt_of_block h)]; exact h
theorem BlkT.cell {w : World} {L : Nat} {x : Nat → ByteArray} (h : BlkT w L x) (i : Nat) (hi : i < 8) : w.cell? ⟨L, i, none⟩ = some (.string (x i)) := by
  unfold BlkT at h
  rcases (by omega : i = 0 ∨ i = 1 ∨ i = 2 ∨ i = 3 ∨ i = 4 ∨ i = 5 ∨ i = 6 ∨ i = 7) with rfl | rfl | rfl | rfl | rfl | rfl | rfl | rfl <;> simp [World.cell?, h, txC]
theorem BlkT.free {w : World} {L : Nat} {x : Nat → ByteArray} (h : BlkT w L x) (i : Nat) : w.frozen? ⟨L, i, none⟩ = false := by
  unfold BlkT at h
  simp [World.frozen?, h]
def updT (x : Nat → ByteArray) (i : Nat) (t : ByteArray) : Nat → ByteArray := fun j => if j = i then t else x j
theorem BlkT.put {w : World} {L : Nat} {x : Nat → ByteArray} (h : BlkT w L x) (i : Nat) (hi : i < 8) (t : ByteArray) : BlkT (w.setCell ⟨L, i, none⟩ (.string t)) L (updT x i t) := by
  unfold BlkT at *
  rw [blk_setCell h]
  rcases (by omega : i = 0 ∨ i = 1 ∨ i = 2 ∨ i = 3 ∨ i = 4 ∨ i = 5 ∨ i = 6 ∨ i = 7) with rfl | rfl | rfl | rfl | rfl | rfl | rfl | rfl <;> rfl
theorem BlkT.other {w : World} {L M i : Nat} {x : Nat → ByteArray} {v : Value} (h : BlkT w L x) (hne : L ≠ M) : BlkT (w.setCell ⟨M, i, none⟩ v) L x := by
  unfold BlkT at *
  rw [Below.heap_setCell _ _ _ _ hne]; exact h
theorem BlkA.other {w : World} {L M i : Nat} {a : Acc} {v : Value} (h : BlkA w L a) (hne : L ≠ M) : BlkA (w.setCell ⟨M, i, none⟩ v) L a := by
  unfold BlkA at *
  rw [Below.heap_setCell _ _ _ _ hne]; exact h
/-- The texts up to depth k. -/
def upT (a : Acc) (k : Nat) : Nat → ByteArray := fun i => if i ≤ k then bs (accT a i) else ⟨#[]⟩
theorem upT_zero (a : Acc) : updT (fun _ => ⟨#[]⟩) 0 (bs (stT a.st)) = upT a 0 := by
  funext j
  unfold updT upT
  by_cases h : j = 0
  · subst h; rfl
  · rw [if_neg h, if_neg (by omega)]
theorem upT_succ (a : Acc) (k : Nat) : updT (upT a k) (k + 1) (bs (accT a (k + 1))) = upT a (k + 1) := by
  funext j
  unfold updT upT
  by_cases h : j = k + 1
  · subst h; rw [if_pos rfl, if_pos (Nat.le_refl _)]
  · rw [if_neg h]
    by_cases h2 : j ≤ k
    · rw [if_pos h2, if_pos (by omega)]
    · rw [if_neg h2, if_neg (by omega)]
/-- All eight. -/
def txF (a : Acc) : Nat → ByteArray := fun i => bs (textA a i)
def txV (a : Acc) : Value := .agg (txC (txF a))
theorem upT_last (a : Acc) : txC (updT (upT a 6) 7 (bs (headT a.size a.log (accX a 6)))) = txC (txF a) := rfl
theorem BlkT.all {w : World} {L : Nat} {x : Nat → ByteArray} (h : BlkT w L x) (y : Nat → ByteArray) : BlkT ((((((((w.setCell ⟨L, 0, none⟩ (.string (y 0))).setCell ⟨L, 1, none⟩ (.string (y 1))).setCell ⟨L, 2, none⟩ (.string (y 2))).setCell ⟨L, 3, none⟩ (.string (y 3))).setCell ⟨L, 4, none⟩ (.string (y 4))).setCell ⟨L, 5, none⟩ (.string (y 5))).setCell ⟨L, 6, none⟩ (.string (y 6))).setCell ⟨L, 7, none⟩ (.string (y 7))) L y := by
  have h8 := (((((((h.put 0 (by omega) (y 0)).put 1 (by omega) (y 1)).put 2 (by omega) (y 2)).put 3 (by omega) (y 3)).put 4 (by omega) (y 4)).put 5 (by omega) (y 5)).put 6 (by omega) (y 6)).put 7 (by omega) (y 7)
  have e : txC (updT (updT (updT (updT (updT (updT (updT (updT x 0 (y 0)) 1 (y 1)) 2 (y 2)) 3 (y 3)) 4 (y 4)) 5 (y 5)) 6 (y 6)) 7 (y 7)) = txC y := rfl
  unfold BlkT at *
  rw [e] at h8
  exact h8
theorem Tryd.infoT : (Tryd.prog.info? 87).map (·.size) = some 8 := by kernel_rfl
theorem ret_texts {fn : Func} {p : Tmp} (h : fn.results = #[.cell p 87]) {tmps : Array Value} {w : World} {L : Nat} {x : Nat → ByteArray} (hp : tmps.getD p undef = .pointer (some ⟨L, 0, none⟩)) (hb : BlkT w L x) :
    (results fn tmps).run Tryd.prog w = .ok (.agg (txC x)) w :=
  results_cell_row h tmps w L 87 _ (0, 0) _ hp hb Tryd.underlying87 rfl Tryd.infoT

set_option maxRecDepth 20000 in
set_option maxHeartbeats 4000000 in
theorem textsA_any (a : Acc) (w : World) (hf : FitsA a) (h64 : Acc64 a) (ht : TabOk w) :
    Calls Tryd.prog 46 #[accV a] w fun e w' => e = .returned (txV a) ∧ Below w.heap.size w w' := by
  have HFT := hid hf
  have HST : Hid (∀ wz, Below w.heap.size w wz → Calls Tryd.prog 54 #[stV a.st] wz fun r w' => r = .returned (.string (bs (stT a.st))) ∧ Below wz.heap.size wz w') := fun wz hz => stateText_any a.st wz h64.2.1 (ht.kept hz)
  have HLN : Hid (∀ d, (accT a d).length ≤ 133) := fun d => by
    cases d with
    | zero => exact length_stT a.st h64.2.1
    | succ d => rw [accT]; split <;> (rw [length_pairT]; omega)
  have HSM : Hid (∀ d wz, Calls Tryd.prog 26 #[.string (bs (accT a d))] wz fun e w2 => e = .returned (.int .i64 (accX a d)) ∧ w2 = wz) := fun d wz => by
    have := sum_any (bs (accT a d)) wz (by rw [size_bs]; have := HLN.out d; unfold maxLen; omega)
    rw [toList_bs] at this
    exact this
  clear hf h64 ht
  obtain ⟨L, hL⟩ : ∃ L, L = w.heap.size := ⟨_, rfl⟩
  unfold accV
  unfold stV at HST
  go_enter Tryd.func46, Tryd.ntmps46
  go_wp2_with fail
  refine (HST.out _ (((( Below.refl _ _).alloc (Nat.le_refl _) _).alloc (by simp) _).alloc (by simp; omega) _)).mono ?_
  rintro e w1 ⟨rfl, hb1⟩
  rw [← hL]
  have HBA : Hid (BlkA w1 L a) := by
    show BlkA _ _ _
    rw [hL]
    exact (((BlkA.new w a).kept ((Below.refl _ _).alloc (Nat.le_refl _) _)).kept ((Below.refl _ _).alloc (Nat.le_refl _) _)).kept hb1
  have HBR : Hid (BlkT w1 (L + 1) (fun _ => ⟨#[]⟩)) := by
    have := BlkT.new (w.alloc (.cells (accC a) 35)) (fun _ => ⟨#[]⟩)
    rw [show (w.alloc (.cells (accC a) 35)).heap.size = L + 1 by simp [hL]] at this
    exact (this.kept ((Below.refl _ _).alloc (Nat.le_refl _) _)).kept hb1
  have HBT : Hid (BlkT w1 (L + 1 + 1) (fun _ => ⟨#[]⟩)) := by
    have := BlkT.new ((w.alloc (.cells (accC a) 35)).alloc (.cells (txC (fun _ => ⟨#[]⟩)) 87)) (fun _ => ⟨#[]⟩)
    rw [show ((w.alloc (.cells (accC a) 35)).alloc (.cells (txC (fun _ => ⟨#[]⟩)) 87)).heap.size = L + 1 + 1 by simp [hL]] at this
    exact this.kept hb1
  have hk1 : Below w.heap.size w w1 := kept ((((Below.refl _ _).alloc (Nat.le_refl _) _).alloc (by simp) _).alloc (by simp; omega) _) hb1
  have HLW : Hid (w.heap.size ≤ L) := by show _ ≤ _; rw [hL]; exact Nat.le_refl _
  have HLW2 : Hid (w.heap.size ≤ L + 1 + 1) := by have := HLW.out; show _ ≤ _; omega
  have HLW3 : Hid (w.heap.size ≤ L + 1) := by have := HLW.out; show _ ≤ _; omega
  clear hb1 hL HST
  have x0 : w1.cell? ⟨L, 0, none⟩ = some (.int .i64 a.loan) := HBA.out.cell 0 _ rfl
  have xt : w1.cell? ⟨L + 1 + 1, 0, none⟩ = some (.string ⟨#[]⟩) := HBT.out.cell 0 (by omega)
  have ft := HBT.out.free 0
  have HT0 : Hid (bs (stT a.st) = bs (accT a 0)) := rfl
  rw [HT0.out]
  obtain ⟨t0, HT1⟩ : ∃ t0, Hid (t0 = bs (accT a 0)) := ⟨_, rfl⟩
  rw [← HT1.out]
  have HUZ : Hid (updT (fun _ => ⟨#[]⟩) 0 t0 = upT a 0) := by show _ = _; rw [HT1.out]; exact upT_zero a
  go_wp2_with fail
  go_loopw [4, 5, 6, 7] (fun t pl d _ wr => ∃ k : Nat, k ≤ 6 ∧ d = .int .i64 (k : Int) ∧ t = .string (bs (accT a k)) ∧ pl = .int .i64 (a.loan / 2 ^ k) ∧ Hid (BlkA wr L a) ∧ Hid (BlkT wr (L + 1) (fun _ => ⟨#[]⟩)) ∧ Hid (BlkT wr (L + 1 + 1) (upT a k)) ∧ Below w.heap.size w wr) (fun _ _ d _ _ => 6 - (intOf d).toNat)
  case atStart => exact ⟨0, Nat.zero_le _, rfl, by rw [HT1.out], by simp, HBA.out.other (by omega), HBR.out.other (by omega), by show BlkT _ _ _; rw [← HUZ.out]; exact HBT.out.put 0 (by omega) t0, hk1.setCell HLW2.out _⟩
  case round =>
    obtain ⟨k, hk, rfl, rfl, rfl, HA, HR, HT, hbel⟩ := hrel
    clear x0 xt ft HBA HBR HBT hk1 HUZ HT1 HT0
    by_cases hlt : k < 6
    · have hp := HA.out.path k hlt
      have hpb : Bd (a.path[k]'hlt) := HFT.out.sums _ (List.mem_cons_of_mem _ (List.getElem_mem (show k < a.path.length from hlt)))
      have HSU := hid (fun wz => HSM.out k wz)
      have hxb := accX_bd a k
      have HLS := hid (half_pow a.loan k)
      have hl0 := (HFT.out.up k).1
      have hl1 := (HFT.out.up k).2
      have HUP := hid (upT_succ a k)
      have HAT : Hid (accT a (k + 1) = if a.loan / 2 ^ k % 2 = 0 then pairT (accX a k) (a.path.getD k 0) else pairT (a.path.getD k 0) (accX a k)) := rfl
      rw [show a.path.getD k 0 = a.path[k]'hlt from by rw [List.getD_eq_getElem?_getD, List.getElem?_eq_getElem (show k < a.path.length from hlt)]; rfl] at HAT
      generalize bs (accT a k) = tk at *
      generalize a.path[k]'hlt = z at *
      generalize accX a k = x at *
      generalize a.loan / 2 ^ k = lo at *
      generalize upT a k = uk at *
      have i1 : (0 : Int) ≤ (k : Int) := by omega
      have i2 : (k : Int) < 6 := by omega
      have hLw : L < wr.heap.size := World.block_lt_of_cell? _ _ hp
      by_cases hev : lo % 2 = 0
      · rw [if_pos hev] at HAT
        have HPT : Hid (∀ wz, Calls Tryd.prog 55 #[.int .i64 x, .int .i64 z] wz fun e w' => e = .returned (.string (bs (accT a (k + 1)))) ∧ Below wz.heap.size wz w') := fun wz => by rw [HAT.out]; exact pairText_any x z wz hxb hpb
        obtain ⟨tn, HTN⟩ : ∃ tn, Hid (tn = bs (accT a (k + 1))) := ⟨_, rfl⟩
        rw [← HTN.out] at HPT HUP
        have t1 : (lo % 2 == 0) = true := by simp; omega
        clear hev HAT hxb hpb
        go_wp2_with fail
        refine (HSU.out _).mono ?_
        rintro e w2 ⟨rfl, hw2⟩
        subst hw2
        go_wp2_with fail
        refine (HPT.out _).mono ?_
        rintro e w3 ⟨rfl, hb3⟩
        have hk3 := kept hbel hb3
        have HT3 := hid (HT.out.kept hb3)
        have HA3 := hid (HA.out.kept hb3)
        have HR3 := hid (HR.out.kept hb3)
        have fk := HT3.out.free (k + 1)
        have ck := HT3.out.cell (k + 1) (by omega)
        clear hb3 hp hLw
        go_wp2_with fail
        refine ⟨⟨k + 1, by omega, by go_num, by rw [HTN.out], by rw [HLS.out], HA3.out.other (by omega), HR3.out.other (by omega), ?_, hk3.setCell HLW2.out _⟩, by simp [intOf]; omega⟩
        show BlkT _ _ _
        rw [← HUP.out]
        exact HT3.out.put (k + 1) (by omega) tn
      · rw [if_neg hev] at HAT
        have HPT : Hid (∀ wz, Calls Tryd.prog 55 #[.int .i64 z, .int .i64 x] wz fun e w' => e = .returned (.string (bs (accT a (k + 1)))) ∧ Below wz.heap.size wz w') := fun wz => by rw [HAT.out]; exact pairText_any z x wz hpb hxb
        obtain ⟨tn, HTN⟩ : ∃ tn, Hid (tn = bs (accT a (k + 1))) := ⟨_, rfl⟩
        rw [← HTN.out] at HPT HUP
        have t1 : (lo % 2 == 0) = false := by simp; omega
        clear hev HAT hxb hpb
        go_wp2_with fail
        refine (HSU.out _).mono ?_
        rintro e w2 ⟨rfl, hw2⟩
        subst hw2
        go_wp2_with fail
        refine (HPT.out _).mono ?_
        rintro e w3 ⟨rfl, hb3⟩
        have hk3 := kept hbel hb3
        have HT3 := hid (HT.out.kept hb3)
        have HA3 := hid (HA.out.kept hb3)
        have HR3 := hid (HR.out.kept hb3)
        have fk := HT3.out.free (k + 1)
        have ck := HT3.out.cell (k + 1) (by omega)
        clear hb3 hp hLw
        go_wp2_with fail
        refine ⟨⟨k + 1, by omega, by go_num, by rw [HTN.out], by rw [HLS.out], HA3.out.other (by omega), HR3.out.other (by omega), ?_, hk3.setCell HLW2.out _⟩, by simp [intOf]; omega⟩
        show BlkT _ _ _
        rw [← HUP.out]
        exact HT3.out.put (k + 1) (by omega) tn
    · obtain rfl : k = 6 := by omega
      have hs := HFT.out.size
      have hlb : Bd a.log := HFT.out.sums _ (by simp)
      have hxb := accX_bd a 6
      have HSU := hid (fun wz => HSM.out 6 wz)
      have HHT : Hid (∀ wz, Calls Tryd.prog 25 #[.int .i64 a.size, .int .i64 a.log, .int .i64 (accX a 6)] wz fun e w' => e = .returned (.string (txF a 7)) ∧ Below wz.heap.size wz w') := fun wz => headText_any a.size a.log (accX a 6) wz hs hlb hxb
      have HUL : Hid (txC (updT (upT a 6) 7 (txF a 7)) = txC (txF a)) := upT_last a
      have HTV : Hid (txV a = .agg (txC (txF a))) := rfl
      have x7 : wr.cell? ⟨L, 7, none⟩ = some (.int .i64 a.size) := HA.out.cell 7 _ rfl
      have x8 : wr.cell? ⟨L, 8, none⟩ = some (.int .i64 a.log) := HA.out.cell 8 _ rfl
      generalize bs (accT a 6) = tk at *
      generalize accX a 6 = x at *
      generalize txF a = tf at *
      generalize upT a 6 = uk at *
      generalize hh : tf 7 = hd at *
      have HHD := hid hh
      clear hh hs hlb hxb hk hlt HSM HLN HFT
      go_wp2_with fail
      refine (HSU.out _).mono ?_
      rintro e w2 ⟨rfl, hw2⟩
      subst hw2
      go_wp2_with fail
      refine (HHT.out _).mono ?_
      rintro e w3 ⟨rfl, hb3⟩
      have hk3 := kept hbel hb3
      have HT3 := hid (HT.out.kept hb3)
      have HR3 := hid (HR.out.kept hb3)
      clear hb3 x7 x8 HA HT HR hbel HSU HHT
      have f7 := HT3.out.free 7
      have c0 := HT3.out.cell 0 (by omega)
      have c1 := HT3.out.cell 1 (by omega)
      have c2 := HT3.out.cell 2 (by omega)
      have c3 := HT3.out.cell 3 (by omega)
      have c4 := HT3.out.cell 4 (by omega)
      have c5 := HT3.out.cell 5 (by omega)
      have c6 := HT3.out.cell 6 (by omega)
      have c7 := HT3.out.cell 7 (by omega)
      have g0 := HR3.out.free 0
      have g1 := HR3.out.free 1
      have g2 := HR3.out.free 2
      have g3 := HR3.out.free 3
      have g4 := HR3.out.free 4
      have g5 := HR3.out.free 5
      have g6 := HR3.out.free 6
      have g7 := HR3.out.free 7
      have r0 := HR3.out.cell 0 (by omega)
      have r1 := HR3.out.cell 1 (by omega)
      have r2 := HR3.out.cell 2 (by omega)
      have r3 := HR3.out.cell 3 (by omega)
      have r4 := HR3.out.cell 4 (by omega)
      have r5 := HR3.out.cell 5 (by omega)
      have r6 := HR3.out.cell 6 (by omega)
      have r7 := HR3.out.cell 7 (by omega)
      go_wp2_with fail
      (try simp only [Exit.inBlock, Exit.then])
      refine bodyPost_ret (ret_texts rfl (L := L + 1) (x := updT uk 7 hd) rfl ((HR3.out.other (by omega)).all (updT uk 7 hd))) rfl ⟨by rw [HTV.out, ← HUL.out], ?_⟩
      exact ((((((((hk3.setCell HLW2.out _).setCell HLW3.out _).setCell HLW3.out _).setCell HLW3.out _).setCell HLW3.out _).setCell HLW3.out _).setCell HLW3.out _).setCell HLW3.out _).setCell HLW3.out _

end Go.Proofs.YtedblhcehlbbmabDoor

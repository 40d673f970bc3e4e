/-
  CONTRACTS: accounts.stateMayBe, MayBe.
-/
import Derived.Test.YtedblhcehlbbmabDoorBlkAcc
import Derived.WalkKit
import Derived.WalkSpells
import Derived.WalkLawsBesides
import Derived.Laws.IdiomStrings
namespace Go.Proofs.YtedblhcehlbbmabDoor
open Go.RowKit

/-- May a state's numbers be? -/
def stB (s : St) : Bool := (stI s).all (fun z => decide (0 ≤ z))
theorem stB_no {s : St} {z : Int} (hz : z ∈ stI s) (h : z < 0) : stB s = false := by
  cases hb : stB s
  · rfl
  · have := of_decide_eq_true (List.all_eq_true.1 hb z hz); omega
theorem stB_yes {s : St} (h : ∀ z ∈ stI s, 0 ≤ z) : stB s = true := List.all_eq_true.2 fun z hz => decide_eq_true (h z hz)

set_option maxRecDepth 20000 in
set_option maxHeartbeats 2000000 in
theorem stateMayBe_any (s : St) (w : World) : Calls Tryd.prog 45 #[stV s] w fun e w' => e = .returned (.bool (stB s)) ∧ Below w.heap.size w w' := by
  have HNO : Hid (∀ z ∈ stI s, z < 0 → stB s = false) := fun z hz h => stB_no hz h
  have HYE : Hid ((∀ z ∈ stI s, 0 ≤ z) → stB s = true) := stB_yes
  have HM : Hid (stI s = [s.principal, s.due, s.rate, s.day, s.spare, s.count]) := rfl
  rw [HM.out] at HNO HYE
  unfold stV
  generalize stB s = b at *
  generalize s.principal = p at *
  generalize s.due = d at *
  generalize s.rate = r at *
  generalize s.day = y at *
  generalize s.spare = sp at *
  generalize s.count = c at *
  clear HM
  rcases (by omega : p < 0 ∨ (0 ≤ p ∧ d < 0) ∨ (0 ≤ p ∧ 0 ≤ d ∧ r < 0) ∨ (0 ≤ p ∧ 0 ≤ d ∧ 0 ≤ r ∧ y < 0) ∨ (0 ≤ p ∧ 0 ≤ d ∧ 0 ≤ r ∧ 0 ≤ y ∧ sp < 0) ∨ (0 ≤ p ∧ 0 ≤ d ∧ 0 ≤ r ∧ 0 ≤ y ∧ 0 ≤ sp ∧ c < 0) ∨ (0 ≤ p ∧ 0 ≤ d ∧ 0 ≤ r ∧ 0 ≤ y ∧ 0 ≤ sp ∧ 0 ≤ c)) with h | ⟨h0, h⟩ | ⟨h0, h1, h⟩ | ⟨h0, h1, h2, h⟩ | ⟨h0, h1, h2, h3, h⟩ | ⟨h0, h1, h2, h3, h4, h⟩ | ⟨h0, h1, h2, h3, h4, h⟩
  all_goals first | (have HV : Hid (b = false) := HNO.out _ (by simp) h) | (have HV : Hid (b = true) := HYE.out (fun z hz => by simp at hz; rcases hz with rfl | rfl | rfl | rfl | rfl | rfl <;> assumption))
  all_goals clear HNO HYE
  all_goals go_enter Tryd.func45, Tryd.ntmps45
  all_goals go_wp2_with fail
  all_goals go_ret
  all_goals exact ⟨by rw [HV.out]; first | rfl | (show Ending.returned (.bool (decide (0 ≤ c))) = _; rw [decide_eq_false (by omega)]), (Below.refl _ _).alloc (Nat.le_refl _) _⟩

set_option maxRecDepth 20000 in
set_option maxHeartbeats 4000000 in
theorem mayBeA_any (a : Acc) (w : World) : Calls Tryd.prog 28 #[accV a] w fun e w' => e = .returned (.bool (fitsB a)) ∧ Below w.heap.size w w' := by
  have HNF : Hid (¬ FitsA a → fitsB a = false) := fitsB_not
  have HYF : Hid (FitsA a → fitsB a = true) := fitsB_of
  have HLG := hid (fun wz => isSum_any a.log wz)
  have HPS := hid (fun z wz => isSum_any z wz)
  have HSM := hid (fun wz => stateMayBe_any a.st wz)
  obtain ⟨L, hL⟩ : ∃ L, L = w.heap.size := ⟨_, rfl⟩
  unfold accV
  unfold stV at HSM
  by_cases c1 : a.loan < 0
  · have HV : Hid (fitsB a = false) := HNF.out (fun h => by have := h.loan.1; omega)
    clear hL
    go_enter Tryd.func28, Tryd.ntmps28
    go_wp2_with fail
    go_ret
    exact ⟨by rw [HV.out]; rfl, (Below.refl _ _).alloc (Nat.le_refl _) _⟩
  by_cases c2 : 64 ≤ a.loan
  · have HV : Hid (fitsB a = false) := HNF.out (fun h => by have := h.loan.2; omega)
    clear hL
    go_enter Tryd.func28, Tryd.ntmps28
    go_wp2_with fail
    go_ret
    exact ⟨by rw [HV.out]; rfl, (Below.refl _ _).alloc (Nat.le_refl _) _⟩
  by_cases c3 : a.size < 0
  · have HV : Hid (fitsB a = false) := HNF.out (fun h => by have := h.size.1; omega)
    clear hL
    go_enter Tryd.func28, Tryd.ntmps28
    go_wp2_with fail
    go_ret
    exact ⟨by rw [HV.out]; rfl, (Below.refl _ _).alloc (Nat.le_refl _) _⟩
  by_cases c4 : 200 < a.size
  · have HV : Hid (fitsB a = false) := HNF.out (fun h => by have := h.size.2; omega)
    clear hL
    go_enter Tryd.func28, Tryd.ntmps28
    go_wp2_with fail
    go_ret
    exact ⟨by rw [HV.out]; rfl, (Below.refl _ _).alloc (Nat.le_refl _) _⟩
  have HC : Hid (0 ≤ a.loan ∧ a.loan ≤ 63 ∧ 0 ≤ a.size ∧ a.size ≤ 200) := ⟨by omega, by omega, by omega, by omega⟩
  cases hl : decide (0 ≤ a.log ∧ a.log ≤ 4092)
  · have HV : Hid (fitsB a = false) := HNF.out (fun h => by have := of_decide_eq_false hl; exact this (h.sums _ (by simp)))
    rw [hl] at HLG
    clear hL hl
    go_enter Tryd.func28, Tryd.ntmps28
    go_wp2_with fail
    refine (HLG.out _).mono ?_
    rintro e w1 ⟨rfl, rfl⟩
    go_wp2_with fail
    go_ret
    exact ⟨by rw [HV.out]; rfl, (Below.refl _ _).alloc (Nat.le_refl _) _⟩
  · have HLB : Hid (Bd a.log) := of_decide_eq_true (p := 0 ≤ a.log ∧ a.log ≤ 4092) hl
    rw [hl] at HLG
    clear hl
    go_enter Tryd.func28, Tryd.ntmps28
    go_wp2_with fail
    refine (HLG.out _).mono ?_
    rintro e w1 ⟨rfl, hw1⟩
    rw [← hL]
    have HBA : Hid (BlkA w1 L a) := by show BlkA _ _ _; rw [hw1, hL]; exact BlkA.new w a
    have HB1 : Hid (Below w.heap.size w w1) := by show Below _ _ _; rw [hw1]; exact (Below.refl _ _).alloc (Nat.le_refl _) _
    clear hw1 hL c1 c2 c3 c4
    go_wp2_with fail
    go_loop [3] (fun i => ∃ k : Nat, k ≤ 6 ∧ i = .int .i64 (k : Int) ∧ Hid (∀ j (h : j < a.path.length), j < k → Bd a.path[j])) (fun i => 6 - (intOf i).toNat)
    case atStart => exact ⟨0, Nat.zero_le _, rfl, fun j _ h => by omega⟩
    case round =>
      obtain ⟨k, hk, rfl, HA⟩ := hrel
      by_cases hlt : k < 6
      · have hkl : k < a.path.length := hlt
        have hp := HBA.out.path k hlt
        have hLw : L < w1.heap.size := World.block_lt_of_cell? _ _ hp
        have i1 : (0 : Int) ≤ (k : Int) := by omega
        have i2 : (k : Int) < 6 := by omega
        have HPZ := hid (fun wz => HPS.out (a.path[k]'hlt) wz)
        cases hz : decide (0 ≤ a.path[k]'hlt ∧ a.path[k]'hlt ≤ 4092)
        · have HV : Hid (fitsB a = false) := HNF.out (fun h => by have := of_decide_eq_false hz; exact this (h.sums _ (List.mem_cons_of_mem _ (List.getElem_mem hkl))))
          rw [hz] at HPZ
          clear hz
          generalize a.path[k]'hlt = z at *
          go_wp2_with fail
          refine (HPZ.out _).mono ?_
          rintro e w2 ⟨rfl, rfl⟩
          go_wp2_with fail
          go_ret
          exact ⟨by rw [HV.out]; rfl, HB1.out⟩
        · have HA2 : Hid (∀ j (h : j < a.path.length), j < k + 1 → Bd a.path[j]) := fun j h hj => by
            by_cases hjk : j < k
            · exact HA.out j h hjk
            · obtain rfl : j = k := by omega
              exact of_decide_eq_true (p := 0 ≤ a.path[j]'hlt ∧ a.path[j]'hlt ≤ 4092) hz
          rw [hz] at HPZ
          clear hz
          generalize a.path[k]'hlt = z at *
          go_wp2_with fail
          refine (HPZ.out _).mono ?_
          rintro e w2 ⟨rfl, rfl⟩
          go_wp2_with fail
          go_round
          case rel => exact ⟨k + 1, by omega, by go_num, HA2⟩
          case measure => simp [intOf]; omega
      · have HF : Hid (fitsB a = stB a.st) := by
          show _ = _
          cases hb : stB a.st
          · refine HNF.out fun h => ?_
            have := stB_yes h.st
            rw [hb] at this; cases this
          · refine HYF.out ⟨fun z hz => of_decide_eq_true (List.all_eq_true.1 hb z hz), fun z hz => ?_, ⟨HC.out.1, HC.out.2.1⟩, ⟨HC.out.2.2.1, HC.out.2.2.2⟩⟩
            rcases List.mem_cons.1 hz with rfl | hz
            · exact HLB.out
            · obtain ⟨j, hj, rfl⟩ := List.getElem_of_mem hz
              exact HA.out j hj (by have : j < 6 := hj; omega)
        have x1 : w1.cell? ⟨L, 1, none⟩ = some (.int .i64 a.st.principal) := HBA.out.cell 1 _ rfl
        have x2 : w1.cell? ⟨L, 2, none⟩ = some (.int .i64 a.st.due) := HBA.out.cell 2 _ rfl
        have x3 : w1.cell? ⟨L, 3, none⟩ = some (.int .i64 a.st.rate) := HBA.out.cell 3 _ rfl
        have x4 : w1.cell? ⟨L, 4, none⟩ = some (.int .i64 a.st.day) := HBA.out.cell 4 _ rfl
        have x5 : w1.cell? ⟨L, 5, none⟩ = some (.int .i64 a.st.spare) := HBA.out.cell 5 _ rfl
        have x6 : w1.cell? ⟨L, 6, none⟩ = some (.int .i64 a.st.count) := HBA.out.cell 6 _ rfl
        clear HA
        go_wp2_with fail
        refine (HSM.out _).mono ?_
        rintro e w2 ⟨rfl, hb2⟩
        rw [← HF.out]
        go_wp2_with fail
        go_ret
        exact ⟨rfl, kept HB1.out hb2⟩

end Go.Proofs.YtedblhcehlbbmabDoor

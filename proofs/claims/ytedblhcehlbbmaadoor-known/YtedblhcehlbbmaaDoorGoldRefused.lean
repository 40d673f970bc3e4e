/-
  lenderkeep.Known: refused.
-/
import Derived.Test.YtedblhcehlbbmaaDoorWalkDigits
import Derived.WalkKit
import Derived.WalkSpells
import Derived.WalkLawsBesides
namespace Go.Proofs.YtedblhcehlbbmaaDoor
open Go.RowKit

theorem Evs.of_block {w : World} {b : Nat} {es : List Ev} {t : TypeId} (h : w.heap[b]? = some (.cells (ecs es).toArray t (0, 0))) : Evs w (some ⟨b, 0, none⟩) es := by
  refine .inr ⟨b, rfl, fun i hi => ?_⟩
  obtain ⟨h0, h1, h2, h3⟩ := ecs_at es i hi
  rw [Nat.mul_comm] at h0 h1 h2 h3
  refine ⟨?_, ?_, ?_, ?_⟩ <;> simp [World.cell?, h, h0, h1, h2, h3]
def badE : List Ev := [⟨64, 0, 1, 0⟩, ⟨-1, 0, 1, 0⟩, ⟨0, 3, 1, 0⟩, ⟨0, -1, 1, 0⟩, ⟨0, 0, 0, 0⟩, ⟨0, 1, 0, 0⟩, ⟨0, 0, 100000001, 0⟩, ⟨0, 2, 1001, 0⟩, ⟨0, 2, -1, 0⟩, ⟨0, 0, 1, 10001⟩, ⟨0, 0, 1, -1⟩]
theorem badE_not : ∀ e ∈ badE, mayB e = false := by decide +kernel
theorem badE_64 (e : Ev) (h : e ∈ badE) : Ev64 e := by
  have : ∀ e ∈ badE, (-1 ≤ e.loan ∧ e.loan ≤ 64) ∧ (-1 ≤ e.kind ∧ e.kind ≤ 3) ∧ (-1 ≤ e.amount ∧ e.amount ≤ 100000001) ∧ (-1 ≤ e.day ∧ e.day ≤ 10001) := by decide +kernel
  have := this e h
  unfold Ev64 In64
  omega

set_option maxRecDepth 20000 in
set_option maxHeartbeats 4000000 in
theorem goldrefused_any (w : World) : Calls Tryd.prog 10 #[] w fun e w' => e = .returned (.bool true) ∧ Below w.heap.size w w' := by
  have TC := hid (book_spec w)
  go_enter Tryd.func10, Tryd.ntmps10
  go_wp2_with fail
  refine (TC.out.new w (Below.refl _ _)).mono ?_
  rintro e w1 ⟨v1, S1, rfl, hr1, hS1, hb1⟩
  obtain ⟨ad, rfl⟩ := TC.out.ptr hr1
  have HR1 := hid hr1
  have HL1 := hid (TC.out.lt hr1)
  have HS1 := hid hS1
  clear hr1 hS1
  go_wp2_with fail
  obtain ⟨G, hG⟩ : ∃ G, G = w1.heap.size := ⟨_, rfl⟩
  rw [← hG]
  generalize hw2 : World.alloc w1 _ = w2
  have hb2 : Below w1.heap.size w1 w2 := by rw [← hw2]; exact (Below.refl _ _).alloc (Nat.le_refl _) _
  have HE : Hid (Evs w2 (some ⟨G, 0, none⟩) badE) := by show Evs _ _ _; rw [← hw2, hG]; exact Evs.of_block (es := badE) (heap_alloc_new w1 _)
  have HR2 : Hid (Rep w2 S1 (.pointer (some ad)) [] ∧ ¬ S1 G ∧ ∀ j, S1 j → w.heap.size ≤ j) := ⟨TC.out.stay HR1.out hb2.size (fun k hk => hb2.block k (HL1.out k hk)), fun h => by have := HL1.out _ h; omega, HS1.out⟩
  have hk2 := kept hb1 hb2
  have hGl : G < w2.heap.size := by rw [← hw2, hG]; simp
  clear hw2 hG HR1 hb1 hb2 HL1 HS1
  go_loopw [0, 3, 4] (fun _ i _ wr => ∃ (k : Nat) (S : Nat → Prop), k ≤ 11 ∧ i = .int .i64 (k : Int) ∧ Hid (Rep wr S (.pointer (some ad)) [] ∧ ¬ S G ∧ ∀ j, S j → w.heap.size ≤ j) ∧ Hid (Evs wr (some ⟨G, 0, none⟩) badE) ∧ Below w.heap.size w wr ∧ G < wr.heap.size) (fun _ i _ _ => 11 - (intOf i).toNat)
  case atStart => exact ⟨0, S1, Nat.zero_le _, rfl, HR2, HE, hk2, hGl⟩
  case round =>
    obtain ⟨k, S, hk, rfl, HR, HEV, hbel, hGr⟩ := hrel
    have hszr := hbel.size
    clear HR2 HE hk2 hGl
    by_cases hlt : k < 11
    · have hkl : k < badE.length := hlt
      obtain ⟨b, hb0, hc⟩ := HEV.out.at (by show 0 < 11; omega)
      cases hb0
      obtain ⟨h0, h1, h2, h3⟩ := hc k hkl
      have hmem := List.getElem_mem hkl
      have HADD : Hid (Calls Tryd.prog 26 #[.pointer (some ad), evV badE[k]] wr fun r w' => r = .returned (.int .i64 4) ∧ ∃ S', Rep w' S' (.pointer (some ad)) [] ∧ (∀ k, S' k → S k ∨ wr.heap.size ≤ k) ∧ Besides S wr w') := by
        have := TC.out.add wr S (.pointer (some ad)) [] badE[k] hbel HR.out.1 (badE_64 _ hmem)
        unfold addL at this
        rw [badE_not _ hmem, show addN [] false badE[k].day = 4 from rfl, if_neg (by omega)] at this
        exact this
      unfold evV at HADD
      clear hmem hc
      generalize badE[k] = e at *
      obtain ⟨el, ek, ea, ed⟩ := e
      simp only at h0 h1 h2 h3 HADD
      clear hkl
      go_wp2_with fail
      refine HADD.out.mono ?_
      rintro e w3 ⟨rfl, S', hrep3, hS3, hbes⟩
      have hbel3 := hbel.trans (hbes.below hszr HR.out.2.2)
      have HEV3 : Hid (Evs w3 (some ⟨G, 0, none⟩) badE) := by
        rcases HEV.out with h | ⟨b', hb', hc'⟩
        · exact .inl h
        · cases hb'
          have hblk : w3.heap[G]? = wr.heap[G]? := hbes.block G hGr HR.out.2.1
          refine .inr ⟨G, rfl, fun i hi => ?_⟩
          obtain ⟨q0, q1, q2, q3⟩ := hc' i hi
          exact ⟨by rw [World.cell?_of_block hblk]; exact q0, by rw [World.cell?_of_block hblk]; exact q1, by rw [World.cell?_of_block hblk]; exact q2, by rw [World.cell?_of_block hblk]; exact q3⟩
      have HR3 : Hid (Rep w3 S' (.pointer (some ad)) [] ∧ ¬ S' G ∧ ∀ j, S' j → w.heap.size ≤ j) := by
        refine ⟨hrep3, fun h => ?_, fun j hj => ?_⟩
        · rcases hS3 G h with h | h
          · exact HR.out.2.1 h
          · omega
        · rcases hS3 j hj with h | h
          · exact HR.out.2.2 j h
          · omega
      have hGr3 : G < w3.heap.size := Nat.lt_of_lt_of_le hGr hbes.size
      clear hrep3 hS3 hbes h0 h1 h2 h3 HADD
      go_wp2_with fail
      go_roundw
      case rel => exact ⟨k + 1, S', by omega, by go_num, HR3, HEV3, hbel3, hGr3⟩
      case measure => simp [intOf]; omega
    · have HRB : Hid (RepB Rep w.heap.size wr (.pointer (some ad)) []) := ⟨S, HR.out.1, HR.out.2.2⟩
      have HA1 := hid (TC.out.addOk w.heap.size wr (.pointer (some ad)) [] ⟨0, 0, 1, 7⟩ hbel HRB.out hszr (by simp) (mayB_out (by rfl)) (by decide))
      clear HR HEV
      unfold evV at HA1
      simp only at HA1
      go_wp2_with fail
      refine HA1.out.mono ?_
      rintro e w3 ⟨rfl, hr3, hb3⟩
      have hbel3 := hbel.trans hb3
      have HA2 : Hid (Calls Tryd.prog 26 #[.pointer (some ad), evV ⟨1, 0, 1, 6⟩] w3 fun r w' => r = .returned (.int .i64 5) ∧ RepB Rep w.heap.size w' (.pointer (some ad)) [⟨0, 0, 1, 7⟩] ∧ Below w.heap.size w3 w') :=
        TC.out.addB w.heap.size w3 (.pointer (some ad)) [⟨0, 0, 1, 7⟩] ⟨1, 0, 1, 6⟩ hbel3 hr3 (MayE.in64 (mayB_out (by rfl))) hbel3.size
      unfold evV at HA2
      simp only at HA2
      clear hr3 HA1
      go_wp2_with fail
      refine HA2.out.mono ?_
      rintro e w4 ⟨rfl, hr4, hb4⟩
      have hbel4 := hbel3.trans hb4
      obtain ⟨S4, hr4, hS4⟩ := hr4
      have HST := hid (TC.out.state w4 S4 (.pointer (some ad)) [⟨0, 0, 1, 7⟩] 64 hbel4 hr4 ⟨by omega, by omega⟩)
      rw [if_neg (by omega), if_neg (by omega)] at HST
      have HR4 := hid hr4
      clear hr4 hS4 HA2
      unfold stV at HST
      go_wp2_with fail
      refine HST.out.mono ?_
      rintro e w5 ⟨rfl, hb5⟩
      have hbel5 := kept hbel4 hb5
      have HSZ : Hid (∀ wz, Below w4.heap.size w4 wz → Calls Tryd.prog 29 #[.pointer (some ad)] wz fun r w' => r = .returned (.int .i64 1) ∧ Below wz.heap.size wz w') := fun wz hz =>
        TC.out.size wz S4 (.pointer (some ad)) [⟨0, 0, 1, 7⟩] (kept hbel4 hz) (TC.out.stay HR4.out hz.size (fun j hj => hz.block j (TC.out.lt HR4.out j hj)))
      go_wp2_with fail
      refine (HSZ.out _ (hb5.alloc hb5.size _)).mono ?_
      rintro e w6 ⟨rfl, hb6⟩
      go_wp2_with fail
      go_ret
      exact ⟨rfl, kept (hbel5.alloc hbel5.size _) hb6⟩

end Go.Proofs.YtedblhcehlbbmaaDoor

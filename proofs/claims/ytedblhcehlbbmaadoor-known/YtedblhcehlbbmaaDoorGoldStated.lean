/-
  lenderkeep.Known: stated.
-/
import Derived.Test.YtedblhcehlbbmaaDoorGoldRefused
import Derived.WalkKit
import Derived.WalkSpells
import Derived.WalkLawsBesides
namespace Go.Proofs.YtedblhcehlbbmaaDoor
open Go.RowKit

def es3 : List Ev := [⟨9, 0, 100, 0⟩, ⟨9, 2, 500, 0⟩, ⟨9, 1, 60, 10⟩]
theorem es3_good : GoodE es3 := by
  refine ⟨by decide, fun e he => mayB_out ?_, by decide⟩
  have : ∀ e ∈ es3, mayB e = true := by decide +kernel
  exact this e he
theorem st_a : stOf es3 9 = ⟨41, 0, 500, 10, 500000, 3⟩ := by kernel_rfl
theorem st_b : stOf (es3 ++ [⟨9, 0, 9, 12⟩]) 9 = ⟨50, 0, 500, 12, 459000, 4⟩ := by kernel_rfl
theorem st_c : stOf [⟨5, 1, 7, 3⟩] 5 = ⟨0, 0, 0, 3, 7000000, 1⟩ := by kernel_rfl
theorem dec_small (n : Nat) (h : n < 10) : Lib.decDigits n = [UInt8.ofNat (48 + n)] := by rw [Lib.decDigits]; simp [h]
theorem entry_c : entriesB [⟨5, 1, 7, 3⟩] = [⟨#[53, 32, 49, 32, 55, 32, 51]⟩] := by
  have e : entryT ⟨5, 1, 7, 3⟩ = [53, 32, 49, 32, 55, 32, 51] := by
    unfold entryT evI numT Lib.itoa
    simp only [List.flatMap_cons, List.flatMap_nil]
    rw [if_neg (by omega), if_neg (by omega), if_neg (by omega), if_neg (by omega)]
    rw [show (5 : Int).toNat = 5 from rfl, show (1 : Int).toNat = 1 from rfl, show (7 : Int).toNat = 7 from rfl, show (3 : Int).toNat = 3 from rfl]
    rw [dec_small 5 (by omega), dec_small 1 (by omega), dec_small 7 (by omega), dec_small 3 (by omega)]
    rfl
  unfold entriesB
  rw [List.map_cons, List.map_nil, e]
  rfl
theorem Blk.besides {S : Nat → Prop} {w w' : World} {L : Nat} {s : St} (h : Blk w L s) (hb : Besides S w w') (hn : ¬ S L) : Blk w' L s := h.of (hb.block L h.lt hn)

set_option maxRecDepth 20000 in
set_option maxHeartbeats 4000000 in
theorem goldstated_any (w : World) (ht : TabOk w) : Calls Tryd.prog 9 #[] w fun e w' => e = .returned (.bool true) ∧ Below w.heap.size w w' := by
  have TC := hid (book_spec w)
  have HT := hid ht
  clear ht
  go_enter Tryd.func9, Tryd.ntmps9
  go_wp2_with fail
  refine (TC.out.new w (Below.refl _ _)).mono ?_
  rintro e w1 ⟨v1, S1, rfl, hr1, hS1, hb1⟩
  obtain ⟨ad, rfl⟩ := TC.out.ptr hr1
  have HR1 := hid hr1
  have HL1 := hid (TC.out.lt hr1)
  have HS1 := hid hS1
  clear hr1 hS1
  go_wp2_with fail
  refine (TC.out.new w1 hb1).mono ?_
  rintro e w2 ⟨v2, Sc, rfl, hr2, hS2, hb2⟩
  obtain ⟨ac, rfl⟩ := TC.out.ptr hr2
  have hk2 := kept hb1 hb2
  have HRB : Hid (Rep w2 S1 (.pointer (some ad)) [] ∧ (∀ j, S1 j → w.heap.size ≤ j) ∧ (∀ j, S1 j → ¬ Sc j) ∧ ∀ j, S1 j → j < w2.heap.size) := by
    have := hb2.size
    exact ⟨TC.out.stay HR1.out hb2.size (fun k hk => hb2.block k (HL1.out k hk)), HS1.out, fun j hj hc => by have := HL1.out j hj; have := hS2 j hc; omega, fun j hj => by have := HL1.out j hj; omega⟩
  have HRC := hid hr2
  have HLC := hid (TC.out.lt hr2)
  have HSC : Hid (∀ j, Sc j → w.heap.size ≤ j) := fun j hj => by have := hS2 j hj; have := hb1.size; omega
  clear hr2 hS2 HR1 HL1 HS1 hb1 hb2
  go_wp2_with fail
  obtain ⟨G, hG⟩ : ∃ G, G = w2.heap.size := ⟨_, rfl⟩
  rw [← hG]
  generalize hw3 : World.alloc w2 _ = w3
  have hb3 : Below w2.heap.size w2 w3 := by rw [← hw3]; exact (Below.refl _ _).alloc (Nat.le_refl _) _
  have HE : Hid (Evs w3 (some ⟨G, 0, none⟩) es3) := by show Evs _ _ _; rw [← hw3, hG]; exact Evs.of_block (es := es3) (heap_alloc_new w2 _)
  have HRB3 : Hid (Rep w3 S1 (.pointer (some ad)) (es3.take 0) ∧ ¬ S1 G ∧ (∀ j, S1 j → w.heap.size ≤ j) ∧ ∀ j, S1 j → ¬ Sc j) :=
    ⟨TC.out.stay HRB.out.1 hb3.size (fun k hk => hb3.block k (HRB.out.2.2.2 k hk)), fun h => by have := HRB.out.2.2.2 _ h; omega, HRB.out.2.1, HRB.out.2.2.1⟩
  have HRC3 : Hid (Rep w3 Sc (.pointer (some ac)) [] ∧ ∀ j, Sc j → j < G) := ⟨TC.out.stay HRC.out hb3.size (fun k hk => hb3.block k (HLC.out k hk)), fun j hj => by rw [hG]; exact HLC.out j hj⟩
  have hk3 := kept hk2 hb3
  have hGl : G < w3.heap.size := by rw [← hw3, hG]; simp
  clear hw3 hG HRB HRC HLC hk2 hb3
  go_loopw [0, 4, 5] (fun _ i _ wr => ∃ (k : Nat) (S : Nat → Prop), k ≤ 3 ∧ i = .int .i64 (k : Int) ∧ Hid (Rep wr S (.pointer (some ad)) (es3.take k) ∧ ¬ S G ∧ (∀ j, S j → w.heap.size ≤ j) ∧ ∀ j, S j → ¬ Sc j) ∧ Hid (Rep wr Sc (.pointer (some ac)) [] ∧ ∀ j, Sc j → j < G) ∧ Hid (Evs wr (some ⟨G, 0, none⟩) es3) ∧ Below w.heap.size w wr ∧ G < wr.heap.size) (fun _ i _ _ => 3 - (intOf i).toNat)
  case atStart => exact ⟨0, S1, Nat.zero_le _, rfl, HRB3, HRC3, HE, hk3, hGl⟩
  case round =>
    obtain ⟨k, S, hk, rfl, HR, HC, HEV, hbel, hGr⟩ := hrel
    have hszr := hbel.size
    clear HRB3 HRC3 HE hk3 hGl
    by_cases hlt : k < 3
    · have hkl : k < es3.length := hlt
      obtain ⟨b, hb0, hc⟩ := HEV.out.at (by show 0 < 3; omega)
      cases hb0
      obtain ⟨h0, h1, h2, h3⟩ := hc k hkl
      have hmid := good_mid es3 k hkl es3_good
      have HADD : Hid (Calls Tryd.prog 26 #[.pointer (some ad), evV es3[k]] wr fun r w' => r = .returned (.int .i64 0) ∧ ∃ S', Rep w' S' (.pointer (some ad)) (es3.take (k + 1)) ∧ (∀ k, S' k → S k ∨ wr.heap.size ≤ k) ∧ Besides S wr w') := by
        have := TC.out.add wr S (.pointer (some ad)) (es3.take k) es3[k] hbel HR.out.1 hmid.1.in64
        unfold addL at this
        rw [mayB_of hmid.1, addN_ok hmid.2.2 hmid.2.1, if_pos rfl, ← takeE_snoc es3 k hkl] at this
        exact this
      unfold evV at HADD
      clear hmid hc
      generalize es3[k] = e at *
      obtain ⟨el, ek, ea, ed⟩ := e
      simp only at h0 h1 h2 h3 HADD
      clear hkl
      go_wp2_with fail
      refine HADD.out.mono ?_
      rintro e w4 ⟨rfl, S', hrep4, hS4, hbes⟩
      have hbel4 := hbel.trans (hbes.below hszr HR.out.2.2.1)
      have HEV4 : Hid (Evs w4 (some ⟨G, 0, none⟩) es3) := by
        rcases HEV.out with h | ⟨b', hb', hc'⟩
        · exact .inl h
        · cases hb'
          have hblk : w4.heap[G]? = wr.heap[G]? := hbes.block G hGr HR.out.2.1
          refine .inr ⟨G, rfl, fun i hi => ?_⟩
          obtain ⟨q0, q1, q2, q3⟩ := hc' i hi
          exact ⟨by rw [World.cell?_of_block hblk]; exact q0, by rw [World.cell?_of_block hblk]; exact q1, by rw [World.cell?_of_block hblk]; exact q2, by rw [World.cell?_of_block hblk]; exact q3⟩
      have HC4 : Hid (Rep w4 Sc (.pointer (some ac)) [] ∧ ∀ j, Sc j → j < G) :=
        ⟨TC.out.stay HC.out.1 hbes.size (fun j hj => hbes.block j (by have := HC.out.2 j hj; omega) (fun hs => HR.out.2.2.2 j hs hj)), HC.out.2⟩
      have HR4 : Hid (Rep w4 S' (.pointer (some ad)) (es3.take (k + 1)) ∧ ¬ S' G ∧ (∀ j, S' j → w.heap.size ≤ j) ∧ ∀ j, S' j → ¬ Sc j) := by
        refine ⟨hrep4, fun h => ?_, fun j hj => ?_, fun j hj hc => ?_⟩
        · rcases hS4 G h with h | h
          · exact HR.out.2.1 h
          · omega
        · rcases hS4 j hj with h | h
          · exact HR.out.2.2.1 j h
          · omega
        · rcases hS4 j hj with h | h
          · exact HR.out.2.2.2 j h hc
          · have := HC.out.2 j hc; omega
      have hGr4 : G < w4.heap.size := Nat.lt_of_lt_of_le hGr hbes.size
      clear hrep4 hS4 hbes h0 h1 h2 h3 HADD
      go_wp2_with fail
      go_roundw
      case rel => exact ⟨k + 1, S', by omega, by go_num, HR4, HC4, HEV4, hbel4, hGr4⟩
      case measure => simp [intOf]; omega
    · obtain rfl : k = 3 := by omega
      have hr : Rep wr S (.pointer (some ad)) es3 := HR.out.1
      have HST1 := hid (TC.out.state wr S (.pointer (some ad)) es3 9 hbel hr ⟨by omega, by omega⟩)
      rw [if_pos ⟨by omega, by omega⟩, if_pos ⟨by omega, by omega⟩, st_a] at HST1
      unfold stV at HST1
      simp only at HST1
      clear HEV
      go_wp2_with fail
      refine HST1.out.mono ?_
      rintro e w4 ⟨rfl, hb4⟩
      have HRw : Hid (∀ wz, Below wr.heap.size wr wz → Rep wz S (.pointer (some ad)) es3) := fun wz hz => TC.out.stay hr hz.size (fun j hj => hz.block j (TC.out.lt hr j hj))
      have HSl : Hid (∀ j, S j → j < wr.heap.size) := TC.out.lt hr
      have HCw : Hid (∀ wz, Below wr.heap.size wr wz → Rep wz Sc (.pointer (some ac)) []) := fun wz hz => TC.out.stay HC.out.1 hz.size (fun j hj => hz.block j (by have := HC.out.2 j hj; omega))
      have HSS := hid HR.out.2.2
      have HCG := hid HC.out.2
      clear hr HR HC
      go_wp2_with fail
      obtain ⟨L6, hL6⟩ : ∃ L, L = w4.heap.size := ⟨_, rfl⟩
      rw [← hL6]
      generalize hw5 : World.alloc w4 _ = w5
      have hB6 : Blk w5 L6 ⟨41, 0, 500, 10, 500000, 3⟩ := by rw [← hw5, hL6]; exact Blk.new w4 ⟨41, 0, 500, 10, 500000, 3⟩
      have hb5 : Below wr.heap.size wr w5 := kept hb4 (by rw [← hw5]; exact (Below.refl _ _).alloc (Nat.le_refl _) _)
      have hLr : wr.heap.size ≤ L6 := by rw [hL6]; exact hb4.size
      clear hw5 hL6 hb4 HST1
      have hbel5 := kept hbel hb5
      have HADD2 : Hid (Calls Tryd.prog 26 #[.pointer (some ad), evV ⟨9, 0, 9, 12⟩] w5 fun r w' => r = .returned (.int .i64 0) ∧ ∃ S', Rep w' S' (.pointer (some ad)) (es3 ++ [⟨9, 0, 9, 12⟩]) ∧ (∀ k, S' k → S k ∨ w5.heap.size ≤ k) ∧ Besides S w5 w') := by
        have := TC.out.add w5 S (.pointer (some ad)) es3 ⟨9, 0, 9, 12⟩ hbel5 (HRw.out w5 hb5) (MayE.in64 (mayB_out (by rfl)))
        unfold addL at this
        rw [show addN es3 (mayB ⟨9, 0, 9, 12⟩) 12 = 0 by kernel_rfl, if_pos rfl] at this
        exact this
      unfold evV at HADD2
      simp only at HADD2
      refine HADD2.out.mono ?_
      rintro e w6 ⟨rfl, S6, hr6, hS6, hbes6⟩
      have HB6 := hid (hB6.besides hbes6 (fun h => by have := HSl.out _ h; omega))
      have HC6 : Hid (Rep w6 Sc (.pointer (some ac)) []) := TC.out.stay (HCw.out w5 hb5) hbes6.size (fun j hj => hbes6.block j (by have := HCG.out j hj; have := hb5.size; omega) (fun h => HSS.out.2 j h hj))
      have hbel6 := hbel5.trans (hbes6.below hbel5.size HSS.out.1)
      have hG6 : G < w6.heap.size := by have := hb5.size; have := hbes6.size; omega
      have hLG : G ≤ L6 := by omega
      have HST2 := hid (TC.out.state w6 S6 (.pointer (some ad)) (es3 ++ [⟨9, 0, 9, 12⟩]) 9 hbel6 hr6 ⟨by omega, by omega⟩)
      rw [if_pos ⟨by omega, by omega⟩, if_pos ⟨by omega, by omega⟩, st_b] at HST2
      unfold stV at HST2
      simp only at HST2
      clear hr6 hS6 hbes6 hB6 hb5 hLr HRw HSl HCw HSS hbel5 HADD2 hGr hszr hbel hk hlt
      go_wp2_with fail
      refine HST2.out.mono ?_
      rintro e w7 ⟨rfl, hb7⟩
      go_wp2_with fail
      obtain ⟨L9, hL9⟩ : ∃ L, L = w7.heap.size := ⟨_, rfl⟩
      rw [← hL9]
      generalize hw8 : World.alloc w7 _ = w8
      have hb8 : Below w6.heap.size w6 w8 := kept hb7 (by rw [← hw8]; exact (Below.refl _ _).alloc (Nat.le_refl _) _)
      have hB9 : Blk w8 L9 ⟨50, 0, 500, 12, 459000, 4⟩ := by rw [← hw8, hL9]; exact Blk.new w7 ⟨50, 0, 500, 12, 459000, 4⟩
      have hB6 := HB6.out.kept hb8
      have hL9G : G ≤ L9 := by rw [hL9]; have := hb7.size; omega
      have HC8 : Hid (Rep w8 Sc (.pointer (some ac)) []) := TC.out.stay HC6.out hb8.size (fun j hj => hb8.block j (by have := HCG.out j hj; omega))
      have hbel8 := kept hbel6 hb8
      clear hw8 hL9 hb7 HST2 HB6 HC6 hbel6
      have HADD3 : Hid (Calls Tryd.prog 26 #[.pointer (some ac), evV ⟨5, 1, 7, 3⟩] w8 fun r w' => r = .returned (.int .i64 0) ∧ ∃ S', Rep w' S' (.pointer (some ac)) [⟨5, 1, 7, 3⟩] ∧ (∀ k, S' k → Sc k ∨ w8.heap.size ≤ k) ∧ Besides Sc w8 w') := by
        have := TC.out.add w8 Sc (.pointer (some ac)) [] ⟨5, 1, 7, 3⟩ hbel8 HC8.out (MayE.in64 (mayB_out (by rfl)))
        unfold addL at this
        rw [show addN [] (mayB ⟨5, 1, 7, 3⟩) 3 = 0 by kernel_rfl, if_pos rfl] at this
        exact this
      unfold evV at HADD3
      simp only at HADD3
      refine HADD3.out.mono ?_
      rintro e w9 ⟨rfl, S9, hr9, hS9, hbes9⟩
      have HB6 := hid (hB6.besides hbes9 (fun h => by have := HCG.out _ h; omega))
      have HB9 := hid (hB9.besides hbes9 (fun h => by have := HCG.out _ h; omega))
      have hbel9 := hbel8.trans (hbes9.below hbel8.size HSC.out)
      have HST3 := hid (TC.out.state w9 S9 (.pointer (some ac)) [⟨5, 1, 7, 3⟩] 5 hbel9 hr9 ⟨by omega, by omega⟩)
      rw [if_pos ⟨by omega, by omega⟩, if_pos ⟨by omega, by omega⟩, st_c] at HST3
      unfold stV at HST3
      simp only at HST3
      have HRw : Hid (∀ wz, Below w9.heap.size w9 wz → Rep wz S9 (.pointer (some ac)) [⟨5, 1, 7, 3⟩]) := fun wz hz => TC.out.stay hr9 hz.size (fun j hj => hz.block j (TC.out.lt hr9 j hj))
      clear hr9 hS9 hbes9 hB6 hB9 HC8 hbel8 HADD3 HCG hb8 hG6 hLG hL9G
      go_wp2_with fail
      refine HST3.out.mono ?_
      rintro e w10 ⟨rfl, hb10⟩
      go_wp2_with fail
      obtain ⟨L12, hL12⟩ : ∃ L, L = w10.heap.size := ⟨_, rfl⟩
      rw [← hL12]
      generalize hw11 : World.alloc w10 _ = w11
      have hb11 : Below w9.heap.size w9 w11 := kept hb10 (by rw [← hw11]; exact (Below.refl _ _).alloc (Nat.le_refl _) _)
      have hB12 : Blk w11 L12 ⟨0, 0, 0, 3, 7000000, 1⟩ := by rw [← hw11, hL12]; exact Blk.new w10 ⟨0, 0, 0, 3, 7000000, 1⟩
      have hB6 := HB6.out.kept hb11
      have hB9 := HB9.out.kept hb11
      have hbel11 := kept hbel9 hb11
      have HLG := hid (log_any w11 S9 (.pointer (some ac)) [⟨5, 1, 7, 3⟩] (HRw.out w11 hb11) (HT.out.kept hbel11))
      rw [entry_c] at HLG
      clear hw11 hL12 hb10 HST3 HB6 HB9 HRw hbel9 hb11
      refine HLG.out.mono ?_
      rintro e w12 ⟨v, rfl, hO, hb12⟩
      obtain ⟨a12, c12, rfl, _, _, hStr⟩ := hO.form
      obtain ⟨b12, o12, rfl, hc12⟩ := hStr.at (by simp)
      have hcell := hc12 0 (by simp)
      simp only [List.getElem_cons_zero, Nat.add_zero] at hcell
      have HB6 := hid (hB6.kept hb12)
      have HB9 := hid (hB9.kept hb12)
      have HB12 := hid (hB12.kept hb12)
      have hbel12 := kept hbel11 hb12
      clear hO hStr hc12 hB6 hB9 hB12 hb12 hbel11 HLG
      obtain ⟨x0, x1, x2, x3, x4, x5⟩ := HB6.out.six
      obtain ⟨y0, y1, y2, y3, y4, y5⟩ := HB9.out.six
      obtain ⟨z0, z1, z2, z3, z4, z5⟩ := HB12.out.six
      simp only at x0 x1 x2 x3 x4 x5 y0 y1 y2 y3 y4 y5 z0 z1 z2 z3 z4 z5
      go_wp2_with fail
      go_ret
      exact ⟨rfl, hbel12⟩

end Go.Proofs.YtedblhcehlbbmaaDoor

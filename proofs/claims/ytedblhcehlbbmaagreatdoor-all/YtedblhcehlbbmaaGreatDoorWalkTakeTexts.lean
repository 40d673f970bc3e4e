import Derived.Test.YtedblhcehlbbmaaGreatDoorSpecTake
import Derived.WalkKit
import Derived.WalkSpells
import Derived.WalkLawsBesides
import Derived.Deep.Cut
/-
  A LIST IS ITS OWNER's: lenderlaw.World.takeTexts.
-/
namespace Go.Proofs.YtedblhcehlbbmaaGreatDoor
set_option maxRecDepth 20000
open Go.RowKit

theorem Tryz.infoSs : (Tryz.prog.info? 37).map (fun i => (i.zero, i.size, i.bytes)) = some (some (.slice none 0 0), 1, 24) := by kernel_rfl
set_option maxRecDepth 20000 in
set_option maxHeartbeats 8000000 in
theorem takeTexts_any (w : World) (own : Nat → Nat) (Wb : Nat) (c0 c1 c2 c3 c4 u : Value) (LS GS : List Value) (xs : List ByteArray)
    (htop : w.heap[Wb]? = some (.cells #[c0, c1, c2, c3, c4] 28 (0, 0))) (htopT : own Wb = 0) (hrl : w.ownsRow 0 37 1 c1 LS.length LS) (hrlT : ∀ b, c1.ownBlock = some b → own b = 2) (hrg : w.ownsRow 0 37 1 c2 GS.length GS) (hrgT : ∀ b, c2.ownBlock = some b → own b = 3)
    (hu : OwnS w 0 u xs) (huT : ∀ b, u.ownBlock = some b → own b = 8) (hxs : xs.length ≤ 1000) (hL : LS.length ≤ 1000000000000) (hG : GS.length ≤ 3000000000000) :
    Calls Tryz.prog 24 #[.pointer (some ⟨Wb, 0, none⟩), u] w fun r w' => r = .returned (.tuple #[]) ∧ ∃ vl vg g1 g2 g3 own', Tk 2 3 37 9 own w Wb #[c0, vl, vg, c3, c4] vl vg (LS ++ [u]) (GS ++ [g1] ++ [g2] ++ [g3]) (.string (mrk LS.length)) [(g3, xs.length + 3), (g2, xs.length + 2), (g1, xs.length + 1), (u, xs.length)] w' own' := by
  have HTG : Hid (Tags 2 3) := by show Tags _ _; unfold Tags; omega
  have HTP := hid htop
  have HTT := hid htopT
  have HRL := hid hrl
  have HRT := hid hrlT
  have HRG := hid hrg
  have HGT := hid hrgT
  have HUO := hid hu
  have HUT := hid huT
  obtain ⟨a, cap, hua, hcap1, hcap2, _⟩ := hu.form
  obtain ⟨al, cl, hvl, _, _⟩ := row_form hrl
  obtain ⟨n, hn⟩ : ∃ n, n = xs.length := ⟨_, rfl⟩
  have HN := hid hn
  have HUA := hid hua
  rw [← hn] at hxs hua hcap1
  obtain ⟨nl, hnl⟩ : ∃ nl, nl = LS.length := ⟨_, rfl⟩
  have HNL := hid hnl
  have hL0 := hL
  rw [← hnl] at hL0 hvl
  have lW : Wb < w.heap.size := lt_of_block htop
  have cT : w.cell? ⟨Wb, 1, none⟩ = some (.slice al nl cl) := by rw [← hvl]; simp [World.cell?, htop]
  have HVL := hid hvl
  have HL := hid hL
  have HG := hid hG
  have HST : Hid (∀ wz, Calls Tryz.prog 10 #[.int .i64 (nl : Int)] wz fun e w' => e = .returned (.string (mrk nl)) ∧ w' = wz) := fun wz => strokes_any nl wz hL0
  obtain ⟨y, hy⟩ : ∃ y, y = mrk nl := ⟨_, rfl⟩
  have HY := hid hy
  rw [← hy] at HST
  obtain ⟨ag, cg, hvg, _, _⟩ := row_form HRG.out
  obtain ⟨ng, hng⟩ : ∃ ng, ng = GS.length := ⟨_, rfl⟩
  have HNG := hid hng
  rw [← hng] at hvg
  unfold maxLen at hcap2
  clear htop htopT hrl hrlT hrg hrgT hu huT hn hnl hy hL hng HUA HVL
  subst hua
  subst hvl
  subst hvg
  obtain ⟨i0, hi, hz0, hz1, hz2⟩ := info_parts Tryz.infoStr
  obtain ⟨j0, ji, jz0, jz1, jz2⟩ := info_parts Tryz.infoSs
  go_enter Tryz.func24, Tryz.ntmps24
  go_wp2_with fail
  refine (HST.out _).mono ?_
  rintro ee wq ⟨rfl, hwq⟩
  have hwq2 := hwq.symm
  clear hwq
  subst hwq2
  go_wp2_with fail

  go_loopw [5] (fun i wr => ∃ k : Nat, k ≤ n ∧ i = .int .i64 (k : Int) ∧ Hid (Fill 9 w wr (.slice a n cap) n (sv xs) (.string y) k)) (fun i _ => n - (intOf i).toNat)
  case atStart => exact ⟨0, Nat.zero_le _, rfl, Fill.zero (by have h := HUO.out; unfold OwnS at h; rw [← HN.out] at h; exact h)⟩
  case round =>
    obtain ⟨k, hk, rfl, HF⟩ := hrel
    by_cases hlt : k < n
    · obtain ⟨g, cap', hu', ⟨z, hz⟩, hfz, hF'⟩ := HF.out.at hlt
      have hga : a = some ⟨g, 0, none⟩ := by cases hu'; rfl
      subst hga
      have HF' := hid hF'
      have i1 : (0 : Int) ≤ (k : Int) := by omega
      have i2 : (k : Int) < (n : Int) := by omega
      have lg : g < wr.heap.size := World.block_lt_of_cell? _ _ hz
      clear hF' hu' HF
      go_wp2_with fail
      go_roundw
      case rel => exact ⟨k + 1, by omega, by go_num, HF'⟩
      case measure => simp [intOf]; omega
    · obtain rfl : k = n := by omega
      have HA := hid (HF.out.all (by rw [length_sv]; exact HN.out.symm))
      obtain ⟨own1, HT1⟩ : ∃ own1, Hid (Tk 2 3 37 9 own w Wb #[c0, .slice al nl cl, .slice ag ng cg, c3, c4] (.slice al nl cl) (.slice ag ng cg) LS GS (.string y) [(.slice a k cap, k)] wr own1) := ⟨own, Tk.start HTG.out HTP.out HTT.out HRL.out HRT.out HRG.out HGT.out HA.out HUT.out HF.out.2⟩
      clear HA HF HTP HTT HRL HRT HRG HGT HUO HUT cT lW hlt hk HST
      go_wp2_with (at_builtin; refine wpList_appAll rfl _ _ 37 9 rfl i0 (.string ⟨#[]⟩) 16 Tryz.underlying37 hi hz0 hz1 hz2 rfl _ k (.string y) rfl (by exact ((HT1.out.alloc _).ls (Value.slice a k cap, k) (by simp)).1) wr.heap.size 1 1 rfl (by omega) (fun j hj => news1 _ _ _ j hj) rfl (by unfold maxLen; omega) (by omega) ?_)
      intro v1 w2 hg
      obtain ⟨h1, h2, h3, h4⟩ := hg
      obtain ⟨own2, HT2⟩ : ∃ own2, Hid (Tk 2 3 37 9 own w Wb #[c0, .slice al nl cl, .slice ag ng cg, c3, c4] (.slice al nl cl) (.slice ag ng cg) LS GS (.string y) [(v1, k + 1), (.slice a k cap, k)] w2 own2) := ⟨_, Tk.list (HT1.out.alloc _) HTG.out (by simp) (by simp) h1 h2 h3 h4⟩
      obtain ⟨a1, cp1, rfl, _, _⟩ := h1.form
      clear h1 h2 h3 h4 HT1
      go_wp2_with (at_builtin; refine wpList_appAll rfl _ _ 37 9 rfl i0 (.string ⟨#[]⟩) 16 Tryz.underlying37 hi hz0 hz1 hz2 rfl _ k (.string y) rfl (by exact ((HT2.out.alloc _).ls (Value.slice a k cap, k) (by simp)).1) w2.heap.size 2 2 rfl (by omega) (fun j hj => news2 _ _ _ j hj) rfl (by unfold maxLen; omega) (by omega) ?_)
      intro v2 w3 hg
      obtain ⟨h1, h2, h3, h4⟩ := hg
      obtain ⟨own3, HT3⟩ : ∃ own3, Hid (Tk 2 3 37 9 own w Wb #[c0, .slice al nl cl, .slice ag ng cg, c3, c4] (.slice al nl cl) (.slice ag ng cg) LS GS (.string y) [(v2, k + 2), (.slice a1 (k + 1) cp1, k + 1), (.slice a k cap, k)] w3 own3) := ⟨_, Tk.list (HT2.out.alloc _) HTG.out (by simp) (by simp) h1 h2 h3 h4⟩
      obtain ⟨a2, cp2, rfl, _, _⟩ := h1.form
      clear h1 h2 h3 h4 HT2
      go_wp2_with (at_builtin; refine wpList_appAll rfl _ _ 37 9 rfl i0 (.string ⟨#[]⟩) 16 Tryz.underlying37 hi hz0 hz1 hz2 rfl _ k (.string y) rfl (by exact ((HT3.out.alloc _).ls (Value.slice a k cap, k) (by simp)).1) w3.heap.size 3 3 rfl (by omega) (fun j hj => news3 _ _ _ j hj) rfl (by unfold maxLen; omega) (by omega) ?_)
      intro v3 w4 hg
      obtain ⟨h1, h2, h3, h4⟩ := hg
      obtain ⟨own4, HT4⟩ : ∃ own4, Hid (Tk 2 3 37 9 own w Wb #[c0, .slice al nl cl, .slice ag ng cg, c3, c4] (.slice al nl cl) (.slice ag ng cg) LS GS (.string y) [(v3, k + 3), (.slice a2 (k + 2) cp2, k + 2), (.slice a1 (k + 1) cp1, k + 1), (.slice a k cap, k)] w4 own4) := ⟨_, Tk.list (HT3.out.alloc _) HTG.out (by simp) (by simp) h1 h2 h3 h4⟩
      obtain ⟨a3, cp3, rfl, _, _⟩ := h1.form
      clear h1 h2 h3 h4 HT3
      have q1 : w4.cell? ⟨Wb, 1, none⟩ = some (.slice al nl cl) := HT4.out.cell 1 _ rfl
      have lW : Wb < w4.heap.size := lt_of_block HT4.out.top
      go_wp2_with (at_builtin; refine wpList_appRow rfl _ _ 25 37 rfl j0 (.slice none 0 0) 24 Tryz.underlying25 ji jz0 jz1 jz2 rfl (by omega) _ LS (.slice a k cap) rfl (by exact (HT4.out.alloc _).rl) w4.heap.size 1 rfl (cell_alloc_one _ _ _) rfl (by have := HL.out; omega) ?_)
      intro vl w5 hg
      obtain ⟨h1, h3, h4⟩ := hg
      obtain ⟨L1, HL1⟩ : ∃ L1, Hid (L1 = LS ++ [Value.slice a k cap]) := ⟨_, rfl⟩
      obtain ⟨own5, HT5⟩ : ∃ own5, Hid (Tk 2 3 37 9 own w Wb #[c0, .slice al nl cl, .slice ag ng cg, c3, c4] vl (.slice ag ng cg) L1 GS (.string y) [(.slice a3 (k + 3) cp3, k + 3), (.slice a2 (k + 2) cp2, k + 2), (.slice a1 (k + 1) cp1, k + 1), (.slice a k cap, k)] w5 own5) := ⟨_, by have h := Tk.rowL (HT4.out.alloc _) HTG.out h1 h3 h4; rw [← HL1.out] at h; exact h⟩
      obtain ⟨al', cl', hvl, _, _⟩ := row_form h1
      rw [List.length_append, List.length_singleton, ← HNL.out] at hvl
      subst hvl
      have q1 : w5.cell? ⟨Wb, 1, none⟩ = some (.slice al nl cl) := HT5.out.cell 1 _ rfl
      have f1 := HT5.out.free 1
      have lW : Wb < w5.heap.size := lt_of_block HT5.out.top
      clear h1 h3 h4 HT4
      go_upto_region 9 with fail
      have HT6 : Hid (Tk 2 3 37 9 own w Wb #[c0, .slice al' (nl + 1) cl', .slice ag ng cg, c3, c4] (.slice al' (nl + 1) cl') (.slice ag ng cg) L1 GS (.string y) [(.slice a3 (k + 3) cp3, k + 3), (.slice a2 (k + 2) cp2, k + 2), (.slice a1 (k + 1) cp1, k + 1), (.slice a k cap, k)] (w5.setCell ⟨Wb, 1, none⟩ (.slice al' (nl + 1) cl')) own5) := HT5.out.store HTG.out 1 _
      generalize w5.setCell ⟨Wb, 1, none⟩ _ = w6 at *
      clear HT5 q1 f1 lW
      have q1 : w6.cell? ⟨Wb, 2, none⟩ = some (.slice ag ng cg) := HT6.out.cell 2 _ rfl
      have lW : Wb < w6.heap.size := lt_of_block HT6.out.top
      go_wp2_with (at_builtin; refine wpList_appRow rfl _ _ 25 37 rfl j0 (.slice none 0 0) 24 Tryz.underlying25 ji jz0 jz1 jz2 rfl (by omega) _ GS (.slice a1 (k + 1) cp1) rfl (by exact (HT6.out.alloc _).rg) w6.heap.size 1 rfl (cell_alloc_one _ _ _) rfl (by have h1 := HG.out; have h2 := HNG.out; have h3 := HNG.out; omega) ?_)
      intro vg w7 hg
      obtain ⟨h1, h3, h4⟩ := hg
      obtain ⟨G1, HG1⟩ : ∃ G', Hid (G' = GS ++ [Value.slice a1 (k + 1) cp1]) := ⟨_, rfl⟩
      obtain ⟨own6, HT7⟩ : ∃ own6, Hid (Tk 2 3 37 9 own w Wb #[c0, .slice al' (nl + 1) cl', .slice ag ng cg, c3, c4] (.slice al' (nl + 1) cl') vg L1 G1 (.string y) [(.slice a3 (k + 3) cp3, k + 3), (.slice a2 (k + 2) cp2, k + 2), (.slice a1 (k + 1) cp1, k + 1), (.slice a k cap, k)] w7 own6) := ⟨_, by have h := Tk.rowG (HT6.out.alloc _) HTG.out h1 h3 h4; rw [← HG1.out] at h; exact h⟩
      obtain ⟨ag1, cg1, hvg, _, _⟩ := row_form h1
      rw [List.length_append, List.length_singleton, ← HNG.out] at hvg
      subst hvg
      have HN1 : Hid (ng + 1 = G1.length) := by show _ = _; rw [HG1.out, List.length_append, List.length_singleton, ← HNG.out]
      have q1 : w7.cell? ⟨Wb, 2, none⟩ = some (.slice ag ng cg) := HT7.out.cell 2 _ rfl
      have f1 := HT7.out.free 2
      have lW : Wb < w7.heap.size := lt_of_block HT7.out.top
      clear h1 h3 h4 HT6
      go_upto_region 10 with fail
      have HT8 : Hid (Tk 2 3 37 9 own w Wb #[c0, .slice al' (nl + 1) cl', .slice ag1 (ng + 1) cg1, c3, c4] (.slice al' (nl + 1) cl') (.slice ag1 (ng + 1) cg1) L1 G1 (.string y) [(.slice a3 (k + 3) cp3, k + 3), (.slice a2 (k + 2) cp2, k + 2), (.slice a1 (k + 1) cp1, k + 1), (.slice a k cap, k)] (w7.setCell ⟨Wb, 2, none⟩ (.slice ag1 (ng + 1) cg1)) own6) := HT7.out.store HTG.out 2 _
      generalize w7.setCell ⟨Wb, 2, none⟩ _ = w8 at *
      clear HT7 q1 f1 lW
      have q1 : w8.cell? ⟨Wb, 2, none⟩ = some (.slice ag1 (ng + 1) cg1) := HT8.out.cell 2 _ rfl
      have lW : Wb < w8.heap.size := lt_of_block HT8.out.top
      go_wp2_with (at_builtin; refine wpList_appRow rfl _ _ 25 37 rfl j0 (.slice none 0 0) 24 Tryz.underlying25 ji jz0 jz1 jz2 rfl (by omega) _ G1 (.slice a2 (k + 2) cp2) rfl (by exact (HT8.out.alloc _).rg) w8.heap.size 1 rfl (cell_alloc_one _ _ _) rfl (by have h1 := HG.out; have h2 := HNG.out; have h3 := HN1.out; omega) ?_)
      intro vg w9 hg
      obtain ⟨h1, h3, h4⟩ := hg
      obtain ⟨G2, HG2⟩ : ∃ G', Hid (G' = G1 ++ [Value.slice a2 (k + 2) cp2]) := ⟨_, rfl⟩
      obtain ⟨own7, HT9⟩ : ∃ own7, Hid (Tk 2 3 37 9 own w Wb #[c0, .slice al' (nl + 1) cl', .slice ag1 (ng + 1) cg1, c3, c4] (.slice al' (nl + 1) cl') vg L1 G2 (.string y) [(.slice a3 (k + 3) cp3, k + 3), (.slice a2 (k + 2) cp2, k + 2), (.slice a1 (k + 1) cp1, k + 1), (.slice a k cap, k)] w9 own7) := ⟨_, by have h := Tk.rowG (HT8.out.alloc _) HTG.out h1 h3 h4; rw [← HG2.out] at h; exact h⟩
      obtain ⟨ag2, cg2, hvg, _, _⟩ := row_form h1
      rw [List.length_append, List.length_singleton, ← HN1.out] at hvg
      subst hvg
      have HN2 : Hid (ng + 1 + 1 = G2.length) := by show _ = _; rw [HG2.out, List.length_append, List.length_singleton, ← HN1.out]
      have q1 : w9.cell? ⟨Wb, 2, none⟩ = some (.slice ag1 (ng + 1) cg1) := HT9.out.cell 2 _ rfl
      have f1 := HT9.out.free 2
      have lW : Wb < w9.heap.size := lt_of_block HT9.out.top
      clear h1 h3 h4 HT8
      go_upto_region 11 with fail
      have HT10 : Hid (Tk 2 3 37 9 own w Wb #[c0, .slice al' (nl + 1) cl', .slice ag2 (ng + 1 + 1) cg2, c3, c4] (.slice al' (nl + 1) cl') (.slice ag2 (ng + 1 + 1) cg2) L1 G2 (.string y) [(.slice a3 (k + 3) cp3, k + 3), (.slice a2 (k + 2) cp2, k + 2), (.slice a1 (k + 1) cp1, k + 1), (.slice a k cap, k)] (w9.setCell ⟨Wb, 2, none⟩ (.slice ag2 (ng + 1 + 1) cg2)) own7) := HT9.out.store HTG.out 2 _
      generalize w9.setCell ⟨Wb, 2, none⟩ _ = w10 at *
      clear HT9 q1 f1 lW
      have q1 : w10.cell? ⟨Wb, 2, none⟩ = some (.slice ag2 (ng + 1 + 1) cg2) := HT10.out.cell 2 _ rfl
      have lW : Wb < w10.heap.size := lt_of_block HT10.out.top
      go_wp2_with (at_builtin; refine wpList_appRow rfl _ _ 25 37 rfl j0 (.slice none 0 0) 24 Tryz.underlying25 ji jz0 jz1 jz2 rfl (by omega) _ G2 (.slice a3 (k + 3) cp3) rfl (by exact (HT10.out.alloc _).rg) w10.heap.size 1 rfl (cell_alloc_one _ _ _) rfl (by have h1 := HG.out; have h2 := HNG.out; have h3 := HN2.out; omega) ?_)
      intro vg w11 hg
      obtain ⟨h1, h3, h4⟩ := hg
      obtain ⟨G3, HG3⟩ : ∃ G', Hid (G' = G2 ++ [Value.slice a3 (k + 3) cp3]) := ⟨_, rfl⟩
      obtain ⟨own8, HT11⟩ : ∃ own8, Hid (Tk 2 3 37 9 own w Wb #[c0, .slice al' (nl + 1) cl', .slice ag2 (ng + 1 + 1) cg2, c3, c4] (.slice al' (nl + 1) cl') vg L1 G3 (.string y) [(.slice a3 (k + 3) cp3, k + 3), (.slice a2 (k + 2) cp2, k + 2), (.slice a1 (k + 1) cp1, k + 1), (.slice a k cap, k)] w11 own8) := ⟨_, by have h := Tk.rowG (HT10.out.alloc _) HTG.out h1 h3 h4; rw [← HG3.out] at h; exact h⟩
      obtain ⟨ag3, cg3, hvg, _, _⟩ := row_form h1
      rw [List.length_append, List.length_singleton, ← HN2.out] at hvg
      subst hvg
      have HN3 : Hid (ng + 1 + 1 + 1 = G3.length) := by show _ = _; rw [HG3.out, List.length_append, List.length_singleton, ← HN2.out]
      have q1 : w11.cell? ⟨Wb, 2, none⟩ = some (.slice ag2 (ng + 1 + 1) cg2) := HT11.out.cell 2 _ rfl
      have f1 := HT11.out.free 2
      have lW : Wb < w11.heap.size := lt_of_block HT11.out.top
      clear h1 h3 h4 HT10
      go_wp2_with fail
      have HT12 := HT11.out.store HTG.out 2 (.slice ag3 (ng + 1 + 1 + 1) cg3)
      rw [HG3.out, HG2.out, HG1.out, HL1.out] at HT12
      go_end0
      refine ⟨rfl, .slice al' (nl + 1) cl', .slice ag3 (ng + 1 + 1 + 1) cg3, .slice a1 (k + 1) cp1, .slice a2 (k + 2) cp2, .slice a3 (k + 3) cp3, own8, ?_⟩
      rw [← HNL.out, ← HN.out, ← HY.out]
      exact HT12

end Go.Proofs.YtedblhcehlbbmaaGreatDoor

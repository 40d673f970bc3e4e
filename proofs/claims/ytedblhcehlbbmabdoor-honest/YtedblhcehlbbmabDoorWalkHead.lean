/-
  CONTRACT: the book's Head.
-/
import Derived.Test.YtedblhcehlbbmabDoorWalkStates
import Derived.Test.YtedblhcehlbbmabDoorMathOwn
import Derived.Test.YtedblhcehlbbmabDoorSpecBook5
import Derived.WalkKit
import Derived.WalkSpells
import Derived.WalkLawsBesides
namespace Go.Proofs.YtedblhcehlbbmabDoor
open Go.RowKit

theorem Tryd.infoHead : (Tryd.prog.info? 29).map (·.size) = some 4 := by kernel_rfl
theorem ret_head {fn : Func} {p : Tmp} (h : fn.results = #[.cell p 29]) {tmps : Array Value} {w : World} {L : Nat} {x0 x1 x2 x3 : Int} (hp : tmps.getD p undef = .pointer (some ⟨L, 0, none⟩)) (hb : w.heap[L]? = some (.cells #[.int .i64 x0, .int .i64 x1, .int .i64 x2, .int .i64 x3] 29 (0, 0))) :
    (results fn tmps).run Tryd.prog w = .ok (.agg #[.int .i64 x0, .int .i64 x1, .int .i64 x2, .int .i64 x3]) w :=
  results_cell_row h tmps w L 29 _ (0, 0) _ hp hb Tryd.underlying29 rfl Tryd.infoHead

set_option maxRecDepth 20000 in
set_option maxHeartbeats 4000000 in
theorem head_any (w : World) (S : Nat → Prop) (v : Value) (es : List Ev) (h : Rep w S v es) (ht : TabOk w) :
    Calls Tryd.prog 8 #[v] w fun r w' => r = .returned (headV es) ∧ Below w.heap.size w w' := by
  obtain ⟨p, u, rfl, hp, hu, _, hg, _⟩ := h
  obtain ⟨a, cap, rfl, _, _, hE, hlt⟩ := hu.form
  have h200 := hg.1
  have HP : Hid (∀ wz, Below w.heap.size w wz → wz.cell? ⟨p, 0, none⟩ = some (.slice a es.length cap)) := fun wz hz => cell_kept (cell_one hp) hz
  have HEN : Hid (∀ wz, Below w.heap.size w wz → Calls Tryd.prog 21 #[.slice a es.length cap] wz fun e w' => ∃ v, e = .returned v ∧ OwnS w' wz.heap.size v (entriesB es) ∧ Below wz.heap.size wz w') := fun wz hz => entries_any es.length a es cap wz rfl (hE.under hz hlt) (fun b h => Nat.lt_of_lt_of_le (hlt b h) hz.size) hg (ht.kept hz)
  have HSS : Hid (∀ wz, Below w.heap.size w wz → Calls Tryd.prog 23 #[.slice a es.length cap] wz fun e w' => ∃ v, e = .returned v ∧ OwnSt w' wz.heap.size v (stF es) 64 ∧ Below wz.heap.size wz w') := fun wz hz => states_any es.length a es cap wz rfl (hE.under hz hlt) (fun b h => Nat.lt_of_lt_of_le (hlt b h) hz.size) hg
  have HT := hid ht
  have HG := hid hg
  have HH : Hid (headV es = .agg #[.int .i64 (es.length : Int), .int .i64 (logOf es), .int .i64 (mapOf es), .int .i64 (topOf es)]) := rfl
  have hb1 := logOf_bd es
  have hb2 : Bd (mapOf es) := mapL_bd _ _ _
  have HHT := hid (fun wz => headText_any (es.length : Int) (logOf es) (mapOf es) wz ⟨by omega, by omega⟩ hb1 hb2)
  have HTS : Hid (∀ wz, Calls Tryd.prog 26 #[.string (bs (headT (es.length : Int) (logOf es) (mapOf es)))] wz fun e w2 => e = .returned (.int .i64 (topOf es)) ∧ w2 = wz) := fun wz => by
    have := sum_any (bs (headT (es.length : Int) (logOf es) (mapOf es))) wz (by rw [size_bs, length_headT]; decide)
    rw [toList_bs] at this
    exact this
  obtain ⟨N, hN⟩ : ∃ N, N = es.length := ⟨_, rfl⟩
  have HN : Hid (es.length = N) := hN.symm
  rw [← hN] at HP HEN HSS HH HHT HTS h200
  obtain ⟨L2, hL2⟩ : ∃ L, L = w.heap.size := ⟨_, rfl⟩
  have hpl : p < w.heap.size := lt_of_block hp
  have hc := cell_one hp
  rw [← hN] at hc
  clear hp hu hE hlt hg ht hN hb1 hb2
  go_enter Tryd.func8, Tryd.ntmps8
  go_wp2_with fail
  refine (HEN.out _ ((Below.refl _ _).alloc (Nat.le_refl _) _)).mono ?_
  rintro e w1 ⟨v1, rfl, hO1, hb1⟩
  have hB : w1.heap[L2]? = some (.cells #[.int .i64 0, .int .i64 0, .int .i64 0, .int .i64 0] 29 (0, 0)) := by
    rw [hL2, hb1.block _ (by simp)]
    exact heap_alloc_new w _
  have hk1 : Below w.heap.size w w1 := kept ((Below.refl _ _).alloc (Nat.le_refl _) _) hb1
  rw [← hL2]
  have HL2 : Hid (w.heap.size ≤ L2) := by show _ ≤ _; rw [hL2]; exact Nat.le_refl _
  clear hb1 hL2 hc
  obtain ⟨a1, c1, rfl, hl1, hm1, hS1⟩ := hO1.form
  have HRT := hid (root_any (entriesB es).length (entriesB es).length a1 (entriesB es) c1 w1 rfl (Nat.le_refl _) hS1 (by rw [entriesB_len, HN.out]; exact h200) (entriesB_40 es HG.out) hl1 hm1)
  rw [entriesB_len, HN.out] at HRT ⊢
  clear hO1 hl1 hm1 hS1
  rw [show rootS (entriesB es) = logOf es from rfl] at HRT
  generalize logOf es = LG at *
  generalize hmp : mapOf es = MP at *
  generalize topOf es = TP at *
  have HMP := hid hmp
  clear hmp
  generalize bs (headT (N : Int) LG MP) = ht at *
  go_wp2_with fail
  refine HRT.out.mono ?_
  rintro e w2 ⟨rfl, hb2⟩
  have hk2 := kept hk1 hb2
  have hc2 := HP.out w2 hk2
  have hB2 : w2.heap[L2]? = some (.cells #[.int .i64 0, .int .i64 0, .int .i64 0, .int .i64 0] 29 (0, 0)) := by rw [hb2.block _ (lt_of_block hB)]; exact hB
  have HB2 := hid hB2
  clear hB hb2 hk1 HRT HEN hB2
  go_wp2_with fail
  refine (HSS.out _ hk2).mono ?_
  rintro e w3 ⟨v3, rfl, hO3, hb3⟩
  have hk3 := kept hk2 hb3
  have HB3 : Hid (w3.heap[L2]? = some (.cells #[.int .i64 0, .int .i64 0, .int .i64 0, .int .i64 0] 29 (0, 0))) := by show _ = _; rw [hb3.block _ (lt_of_block HB2.out)]; exact HB2.out
  obtain ⟨a3, c3, rfl, hl3, hm3, hS3⟩ := hO3.form
  obtain ⟨g3, rfl, hS3⟩ := hS3 (by omega)
  have HSM : Hid (Calls Tryd.prog 24 #[.slice (some ⟨g3, 0, none⟩) 64 c3] w3 fun e w' => e = .returned (.int .i64 MP) ∧ Below w3.heap.size w3 w') := by
    have h1 := textS_any (stF es) (fun j => st64_of es (j : Int) HG.out) 6 (by omega) g3 0 c3 0 w3 (by simpa using hS3) (by omega) hm3 (HT.out.kept hk3)
    have h2 := sumS_of _ _ _ _ w3 (length_mapT (stF es) 6 0 (fun j => st64_of es (j : Int) HG.out)) h1
    rw [← mapL_T] at h2
    rw [← HMP.out]
    exact h2
  clear hO3 hS3 hb3 hc2 HB2 HSS
  go_wp2_with fail
  refine HSM.out.mono ?_
  rintro e w4 ⟨rfl, hb4⟩
  have hk4 := kept hk3 hb4
  have HB4 : Hid (w4.heap[L2]? = some (.cells #[.int .i64 0, .int .i64 0, .int .i64 0, .int .i64 0] 29 (0, 0))) := by show _ = _; rw [hb4.block _ (lt_of_block HB3.out)]; exact HB3.out
  clear hb4 HB3 HSM
  go_wp2_with fail
  refine (HHT.out _).mono ?_
  rintro e w5 ⟨rfl, hb5⟩
  have hk5 := kept hk4 hb5
  have hB5 : w5.heap[L2]? = some (.cells #[.int .i64 0, .int .i64 0, .int .i64 0, .int .i64 0] 29 (0, 0)) := by rw [hb5.block _ (lt_of_block HB4.out)]; exact HB4.out
  have HB5 := hid hB5
  clear hb5 HB4 HHT
  go_wp2_with fail
  refine (HTS.out _).mono ?_
  rintro e w5' ⟨rfl, hw5⟩
  subst hw5
  have x0 : w5'.cell? ⟨L2, 0, none⟩ = some (.int .i64 0) := by simp [World.cell?, HB5.out]
  have x1 : w5'.cell? ⟨L2, 1, none⟩ = some (.int .i64 0) := by simp [World.cell?, HB5.out]
  have x2 : w5'.cell? ⟨L2, 2, none⟩ = some (.int .i64 0) := by simp [World.cell?, HB5.out]
  have x3 : w5'.cell? ⟨L2, 3, none⟩ = some (.int .i64 0) := by simp [World.cell?, HB5.out]
  have f0 : w5'.frozen? ⟨L2, 0, none⟩ = false := by simp [World.frozen?, HB5.out]
  have f1 : w5'.frozen? ⟨L2, 1, none⟩ = false := by simp [World.frozen?, HB5.out]
  have f2 : w5'.frozen? ⟨L2, 2, none⟩ = false := by simp [World.frozen?, HB5.out]
  have f3 : w5'.frozen? ⟨L2, 3, none⟩ = false := by simp [World.frozen?, HB5.out]
  clear hB5
  go_wp2_with fail
  (try simp only [Exit.inBlock, Exit.then])
  refine bodyPost_ret (ret_head rfl (L := L2) (x0 := (N : Int)) (x1 := LG) (x2 := MP) (x3 := TP) rfl ?_) rfl ⟨by rw [HH.out], ?_⟩
  · exact blk_setCell (blk_setCell (blk_setCell (blk_setCell HB5.out)))
  · exact (((hk5.setCell HL2.out _).setCell HL2.out _).setCell HL2.out _).setCell HL2.out _

end Go.Proofs.YtedblhcehlbbmabDoor

import Derived.Test.YtedblhcehlbbmaaGreatDoorWalkRefState
import Derived.Test.YtedblhcehlbbmaaGreatDoorJWalkRefLog
import Derived.Test.YtedblhcehlbbmaaGreatDoorJWalkAccount
import Derived.WalkKit
import Derived.WalkSpells
import Derived.WalkLawsBesides
import Derived.Deep.Cut
import Derived.Deep.CutRange
import Derived.Deep.CutBlock
/-
  THE DOCUMENT's BOOK: lenderref.Calm.
-/
namespace Go.Proofs.YtedblhcehlbbmaaGreatDoor
set_option maxRecDepth 20000
open Go.RowKit

theorem sameR_iff (es : List Ev) (a : Acc) : sameA es a = true ↔ a.size = (es.length : Int) ∧ a.log = logOf es ∧ a.st.principal = (stOf es a.loan).principal ∧ a.st.due = (stOf es a.loan).due ∧ a.st.rate = (stOf es a.loan).rate ∧ a.st.day = (stOf es a.loan).day ∧ a.st.spare = (stOf es a.loan).spare ∧ a.st.count = (stOf es a.loan).count := by
  unfold sameA
  rw [Bool.and_eq_true, Bool.and_eq_true, decide_eq_true_eq, decide_eq_true_eq, decide_eq_true_eq]
  unfold stI
  simp only [List.cons.injEq, and_true]
  exact ⟨fun h => ⟨h.1.1, h.1.2, h.2⟩, fun h => ⟨⟨h.1, h.2.1⟩, h.2.2⟩⟩

set_option maxRecDepth 20000 in
set_option maxHeartbeats 8000000 in
theorem rcalm_any (w : World) (S : Nat → Prop) (ad : Addr) (es : List Ev) (a : Acc) (h : RRep w S (.pointer (some ad)) es) (h64 : Acc64 a) (ht : TabOk w) :
    Calls Tryz.prog 55 #[.pointer (some ad), accV a] w fun r w' => r = .returned (.bool (calmB es a)) ∧ Below w.heap.size w w' := by
  have T := rstate_spec w S (.pointer (some ad)) es h
  have hst : ∀ wz, Below w.heap.size w wz → RRep wz S (.pointer (some ad)) es := fun wz hz => h.stay fun k hk => hz.block k (h.lt k hk)
  have HHD : Hid (∀ wz, Below w.heap.size w wz → Calls Tryz.prog 26 #[.pointer (some ad)] wz fun r w' => r = .returned (.agg #[.int .i64 (es.length : Int), .int .i64 (logOf es), .int .i64 (mapOf es), .int .i64 (topOf es)]) ∧ Below wz.heap.size wz w') := fun wz hz => rhead_any wz S ad es (hst wz hz) (rstate_spec wz S _ es (hst wz hz)) (ht.kept hz)
  have HAC : Hid (∀ wz, Below w.heap.size w wz → Calls Tryz.prog 79 #[.int .i64 (topOf es), accV a] wz fun r w' => r = .returned (.bool (accB (topOf es) a)) ∧ Below wz.heap.size wz w') := fun wz hz => raccepts_any (topOf es) a wz h64 (ht.kept hz)
  have HST : Hid (∀ wz, Below w.heap.size w wz → Calls Tryz.prog 20 #[.pointer (some ad), .int .i64 a.loan] wz fun r w' => r = .returned (stV (stOf es a.loan)) ∧ Below wz.heap.size wz w') := fun wz hz => T wz a.loan hz h64.1
  have HSA := hid (sameR_iff es a)
  clear T hst h ht h64
  obtain ⟨L, hL⟩ : ∃ L, L = w.heap.size := ⟨_, rfl⟩
  cases hok : accB (topOf es) a
  · have HC : Hid (calmB es a = true) := by show _ = _; unfold calmB; rw [hok]; rfl
    rw [hok] at HAC
    rw [HC.out]
    generalize topOf es = TP at *
    generalize logOf es = LG at *
    generalize mapOf es = MP at *
    generalize es.length = n at *
    unfold accV at *
    clear hok HST HSA
    go_enter Tryz.func55, Tryz.ntmps55
    go_wp2_with fail
    refine (HHD.out _ ((Below.refl _ _).alloc (Nat.le_refl _) _)).mono ?_
    rintro e w1 ⟨rfl, hb1⟩
    rw [← hL]
    have HB1 : Hid (BlkA w1 L a) := by show BlkA _ _ _; rw [hL]; exact (BlkA.new w a).kept hb1
    have hk1 : Below w.heap.size w w1 := kept ((Below.refl _ _).alloc (Nat.le_refl _) _) hb1
    have hl1 : L < w1.heap.size := lt_of_block HB1.out
    obtain ⟨G, hG⟩ : ∃ G, G = w1.heap.size := ⟨_, rfl⟩
    clear hb1 hL HHD
    have e0 : w1.cell? ⟨L, 0, none⟩ = some (.int .i64 a.loan) := HB1.out.cell 0 _ rfl
    have e1 : w1.cell? ⟨L, 1, none⟩ = some (.int .i64 a.st.principal) := HB1.out.cell 1 _ rfl
    have e2 : w1.cell? ⟨L, 2, none⟩ = some (.int .i64 a.st.due) := HB1.out.cell 2 _ rfl
    have e3 : w1.cell? ⟨L, 3, none⟩ = some (.int .i64 a.st.rate) := HB1.out.cell 3 _ rfl
    have e4 : w1.cell? ⟨L, 4, none⟩ = some (.int .i64 a.st.day) := HB1.out.cell 4 _ rfl
    have e5 : w1.cell? ⟨L, 5, none⟩ = some (.int .i64 a.st.spare) := HB1.out.cell 5 _ rfl
    have e6 : w1.cell? ⟨L, 6, none⟩ = some (.int .i64 a.st.count) := HB1.out.cell 6 _ rfl
    have e7 : w1.cell? ⟨L, 7, none⟩ = some (.int .i64 a.size) := HB1.out.cell 7 _ rfl
    have e8 : w1.cell? ⟨L, 8, none⟩ = some (.int .i64 a.log) := HB1.out.cell 8 _ rfl
    have e9 : w1.cell? ⟨L, 9, none⟩ = some (.int .i64 a.p0) := HB1.out.cell 9 _ rfl
    have e10 : w1.cell? ⟨L, 10, none⟩ = some (.int .i64 a.p1) := HB1.out.cell 10 _ rfl
    have e11 : w1.cell? ⟨L, 11, none⟩ = some (.int .i64 a.p2) := HB1.out.cell 11 _ rfl
    have e12 : w1.cell? ⟨L, 12, none⟩ = some (.int .i64 a.p3) := HB1.out.cell 12 _ rfl
    have e13 : w1.cell? ⟨L, 13, none⟩ = some (.int .i64 a.p4) := HB1.out.cell 13 _ rfl
    have e14 : w1.cell? ⟨L, 14, none⟩ = some (.int .i64 a.p5) := HB1.out.cell 14 _ rfl
    go_wp2_with fail
    rw [← hG]
    refine (HAC.out _ (hk1.alloc hk1.size _)).mono ?_
    rintro e w2 ⟨rfl, hb2⟩
    have HB2 : Hid (BlkA w2 L a) := (HB1.out.kept ((Below.refl _ _).alloc (Nat.le_refl _) _)).kept hb2
    have hk2 : Below w.heap.size w w2 := kept (hk1.alloc hk1.size _) hb2
    have HH2 : Hid (w2.heap[G]? = some (.cells #[.int .i64 (n : Int), .int .i64 LG, .int .i64 MP, .int .i64 TP] 71 (0, 0))) := by
      show _ = _
      rw [hG, hb2.block _ (by simp)]
      exact heap_alloc_new w1 _
    clear e0 e1 e2 e3 e4 e5 e6 e7 e8 e9 e10 e11 e12 e13 e14 HB1 hk1 hl1 hb2 HAC hG
    clear HH2
    go_wp2_with fail
    go_ret
    exact ⟨rfl, hk2⟩
  · rw [hok] at HAC
    cases hsm : sameA es a
    · have HC : Hid (calmB es a = false) := by show _ = _; unfold calmB; rw [hok, hsm]; rfl
      rw [HC.out]
      rw [hsm] at HSA
      generalize stOf es a.loan = s at *
      generalize topOf es = TP at *
      generalize logOf es = LG at *
      generalize mapOf es = MP at *
      generalize es.length = n at *
      have HNO : Hid (a.st.principal = s.principal → a.st.due = s.due → a.st.rate = s.rate → a.st.day = s.day → a.st.spare = s.spare → a.st.count = s.count → (a.size == (n : Int)) = true → (a.log == LG) = true → False) := fun a1 a2 a3 a4 a5 a6 a7 a8 => by
        have := HSA.out.2 ⟨eq_of_beq a7, eq_of_beq a8, a1, a2, a3, a4, a5, a6⟩
        cases this
      unfold accV stV at *
      clear hok hsm HSA
      go_enter Tryz.func55, Tryz.ntmps55
      go_wp2_with fail
      refine (HHD.out _ ((Below.refl _ _).alloc (Nat.le_refl _) _)).mono ?_
      rintro e w1 ⟨rfl, hb1⟩
      rw [← hL]
      have HB1 : Hid (BlkA w1 L a) := by show BlkA _ _ _; rw [hL]; exact (BlkA.new w a).kept hb1
      have hk1 : Below w.heap.size w w1 := kept ((Below.refl _ _).alloc (Nat.le_refl _) _) hb1
      have hl1 : L < w1.heap.size := lt_of_block HB1.out
      obtain ⟨G, hG⟩ : ∃ G, G = w1.heap.size := ⟨_, rfl⟩
      clear hb1 hL HHD
      have e0 : w1.cell? ⟨L, 0, none⟩ = some (.int .i64 a.loan) := HB1.out.cell 0 _ rfl
      have e1 : w1.cell? ⟨L, 1, none⟩ = some (.int .i64 a.st.principal) := HB1.out.cell 1 _ rfl
      have e2 : w1.cell? ⟨L, 2, none⟩ = some (.int .i64 a.st.due) := HB1.out.cell 2 _ rfl
      have e3 : w1.cell? ⟨L, 3, none⟩ = some (.int .i64 a.st.rate) := HB1.out.cell 3 _ rfl
      have e4 : w1.cell? ⟨L, 4, none⟩ = some (.int .i64 a.st.day) := HB1.out.cell 4 _ rfl
      have e5 : w1.cell? ⟨L, 5, none⟩ = some (.int .i64 a.st.spare) := HB1.out.cell 5 _ rfl
      have e6 : w1.cell? ⟨L, 6, none⟩ = some (.int .i64 a.st.count) := HB1.out.cell 6 _ rfl
      have e7 : w1.cell? ⟨L, 7, none⟩ = some (.int .i64 a.size) := HB1.out.cell 7 _ rfl
      have e8 : w1.cell? ⟨L, 8, none⟩ = some (.int .i64 a.log) := HB1.out.cell 8 _ rfl
      have e9 : w1.cell? ⟨L, 9, none⟩ = some (.int .i64 a.p0) := HB1.out.cell 9 _ rfl
      have e10 : w1.cell? ⟨L, 10, none⟩ = some (.int .i64 a.p1) := HB1.out.cell 10 _ rfl
      have e11 : w1.cell? ⟨L, 11, none⟩ = some (.int .i64 a.p2) := HB1.out.cell 11 _ rfl
      have e12 : w1.cell? ⟨L, 12, none⟩ = some (.int .i64 a.p3) := HB1.out.cell 12 _ rfl
      have e13 : w1.cell? ⟨L, 13, none⟩ = some (.int .i64 a.p4) := HB1.out.cell 13 _ rfl
      have e14 : w1.cell? ⟨L, 14, none⟩ = some (.int .i64 a.p5) := HB1.out.cell 14 _ rfl
      go_wp2_with fail
      rw [← hG]
      refine (HAC.out _ (hk1.alloc hk1.size _)).mono ?_
      rintro e w2 ⟨rfl, hb2⟩
      have HB2 : Hid (BlkA w2 L a) := (HB1.out.kept ((Below.refl _ _).alloc (Nat.le_refl _) _)).kept hb2
      have hk2 : Below w.heap.size w w2 := kept (hk1.alloc hk1.size _) hb2
      have HH2 : Hid (w2.heap[G]? = some (.cells #[.int .i64 (n : Int), .int .i64 LG, .int .i64 MP, .int .i64 TP] 71 (0, 0))) := by
        show _ = _
        rw [hG, hb2.block _ (by simp)]
        exact heap_alloc_new w1 _
      clear e0 e1 e2 e3 e4 e5 e6 e7 e8 e9 e10 e11 e12 e13 e14 HB1 hk1 hl1 hb2 HAC hG
      have hl2 : L < w2.heap.size := lt_of_block HB2.out
      have e0 : w2.cell? ⟨L, 0, none⟩ = some (.int .i64 a.loan) := HB2.out.cell 0 _ rfl
      go_wp2_with fail
      refine (HST.out _ hk2).mono ?_
      rintro e w3 ⟨rfl, hb3⟩
      have HB3 := hid (HB2.out.kept hb3)
      have hk3 := kept hk2 hb3
      have HH3 : Hid (w3.heap[G]? = some (.cells #[.int .i64 (n : Int), .int .i64 LG, .int .i64 MP, .int .i64 TP] 71 (0, 0))) := by
        show _ = _
        rw [hb3.block _ (lt_of_block HH2.out)]; exact HH2.out
      have hl3 : L < w3.heap.size := lt_of_block HB3.out
      have hl4 : G < w3.heap.size := lt_of_block HH3.out
      have h0 : w3.cell? ⟨G, 0, none⟩ = some (.int .i64 (n : Int)) := by simp [World.cell?, HH3.out]
      have h1 : w3.cell? ⟨G, 1, none⟩ = some (.int .i64 LG) := by simp [World.cell?, HH3.out]
      clear e0 HB2 hk2 hl2 hb3 HST HH2
      have e1 : w3.cell? ⟨L, 1, none⟩ = some (.int .i64 a.st.principal) := HB3.out.cell 1 _ rfl
      have e2 : w3.cell? ⟨L, 2, none⟩ = some (.int .i64 a.st.due) := HB3.out.cell 2 _ rfl
      have e3 : w3.cell? ⟨L, 3, none⟩ = some (.int .i64 a.st.rate) := HB3.out.cell 3 _ rfl
      have e4 : w3.cell? ⟨L, 4, none⟩ = some (.int .i64 a.st.day) := HB3.out.cell 4 _ rfl
      have e5 : w3.cell? ⟨L, 5, none⟩ = some (.int .i64 a.st.spare) := HB3.out.cell 5 _ rfl
      have e6 : w3.cell? ⟨L, 6, none⟩ = some (.int .i64 a.st.count) := HB3.out.cell 6 _ rfl
      have e7 : w3.cell? ⟨L, 7, none⟩ = some (.int .i64 a.size) := HB3.out.cell 7 _ rfl
      have e8 : w3.cell? ⟨L, 8, none⟩ = some (.int .i64 a.log) := HB3.out.cell 8 _ rfl
      go_wp2_with fail
      all_goals first
        | exact (HNO.out (by assumption) (by assumption) (by assumption) (by assumption) (by assumption) (by assumption) (by first | assumption | exact beq_iff_eq.2 (by assumption)) (by first | assumption | exact beq_iff_eq.2 (by assumption))).elim
        | (go_ret; exact ⟨rfl, hk3.alloc hk3.size _⟩)
    · have HC : Hid (calmB es a = true) := by show _ = _; unfold calmB; rw [hok, hsm]; rfl
      rw [HC.out]
      have HQ := hid (HSA.out.1 hsm)
      generalize stOf es a.loan = s at *
      generalize topOf es = TP at *
      generalize logOf es = LG at *
      generalize mapOf es = MP at *
      generalize es.length = n at *
      unfold accV stV at *
      rw [← HQ.out.2.2.1, ← HQ.out.2.2.2.1, ← HQ.out.2.2.2.2.1, ← HQ.out.2.2.2.2.2.1, ← HQ.out.2.2.2.2.2.2.1, ← HQ.out.2.2.2.2.2.2.2] at HST
      rw [← HQ.out.1, ← HQ.out.2.1] at HHD
      clear hok hsm HSA
      go_enter Tryz.func55, Tryz.ntmps55
      go_wp2_with fail
      refine (HHD.out _ ((Below.refl _ _).alloc (Nat.le_refl _) _)).mono ?_
      rintro e w1 ⟨rfl, hb1⟩
      rw [← hL]
      have HB1 : Hid (BlkA w1 L a) := by show BlkA _ _ _; rw [hL]; exact (BlkA.new w a).kept hb1
      have hk1 : Below w.heap.size w w1 := kept ((Below.refl _ _).alloc (Nat.le_refl _) _) hb1
      have hl1 : L < w1.heap.size := lt_of_block HB1.out
      obtain ⟨G, hG⟩ : ∃ G, G = w1.heap.size := ⟨_, rfl⟩
      clear hb1 hL HHD
      have e0 : w1.cell? ⟨L, 0, none⟩ = some (.int .i64 a.loan) := HB1.out.cell 0 _ rfl
      have e1 : w1.cell? ⟨L, 1, none⟩ = some (.int .i64 a.st.principal) := HB1.out.cell 1 _ rfl
      have e2 : w1.cell? ⟨L, 2, none⟩ = some (.int .i64 a.st.due) := HB1.out.cell 2 _ rfl
      have e3 : w1.cell? ⟨L, 3, none⟩ = some (.int .i64 a.st.rate) := HB1.out.cell 3 _ rfl
      have e4 : w1.cell? ⟨L, 4, none⟩ = some (.int .i64 a.st.day) := HB1.out.cell 4 _ rfl
      have e5 : w1.cell? ⟨L, 5, none⟩ = some (.int .i64 a.st.spare) := HB1.out.cell 5 _ rfl
      have e6 : w1.cell? ⟨L, 6, none⟩ = some (.int .i64 a.st.count) := HB1.out.cell 6 _ rfl
      have e7 : w1.cell? ⟨L, 7, none⟩ = some (.int .i64 a.size) := HB1.out.cell 7 _ rfl
      have e8 : w1.cell? ⟨L, 8, none⟩ = some (.int .i64 a.log) := HB1.out.cell 8 _ rfl
      have e9 : w1.cell? ⟨L, 9, none⟩ = some (.int .i64 a.p0) := HB1.out.cell 9 _ rfl
      have e10 : w1.cell? ⟨L, 10, none⟩ = some (.int .i64 a.p1) := HB1.out.cell 10 _ rfl
      have e11 : w1.cell? ⟨L, 11, none⟩ = some (.int .i64 a.p2) := HB1.out.cell 11 _ rfl
      have e12 : w1.cell? ⟨L, 12, none⟩ = some (.int .i64 a.p3) := HB1.out.cell 12 _ rfl
      have e13 : w1.cell? ⟨L, 13, none⟩ = some (.int .i64 a.p4) := HB1.out.cell 13 _ rfl
      have e14 : w1.cell? ⟨L, 14, none⟩ = some (.int .i64 a.p5) := HB1.out.cell 14 _ rfl
      go_wp2_with fail
      rw [← hG]
      refine (HAC.out _ (hk1.alloc hk1.size _)).mono ?_
      rintro e w2 ⟨rfl, hb2⟩
      have HB2 : Hid (BlkA w2 L a) := (HB1.out.kept ((Below.refl _ _).alloc (Nat.le_refl _) _)).kept hb2
      have hk2 : Below w.heap.size w w2 := kept (hk1.alloc hk1.size _) hb2
      have HH2 : Hid (w2.heap[G]? = some (.cells #[.int .i64 a.size, .int .i64 a.log, .int .i64 MP, .int .i64 TP] 71 (0, 0))) := by
        show _ = _
        rw [hG, hb2.block _ (by simp)]
        exact heap_alloc_new w1 _
      clear e0 e1 e2 e3 e4 e5 e6 e7 e8 e9 e10 e11 e12 e13 e14 HB1 hk1 hl1 hb2 HAC hG
      have hl2 : L < w2.heap.size := lt_of_block HB2.out
      have e0 : w2.cell? ⟨L, 0, none⟩ = some (.int .i64 a.loan) := HB2.out.cell 0 _ rfl
      go_wp2_with fail
      refine (HST.out _ hk2).mono ?_
      rintro e w3 ⟨rfl, hb3⟩
      have HB3 := hid (HB2.out.kept hb3)
      have hk3 := kept hk2 hb3
      have HH3 : Hid (w3.heap[G]? = some (.cells #[.int .i64 a.size, .int .i64 a.log, .int .i64 MP, .int .i64 TP] 71 (0, 0))) := by
        show _ = _
        rw [hb3.block _ (lt_of_block HH2.out)]; exact HH2.out
      have hl3 : L < w3.heap.size := lt_of_block HB3.out
      have hl4 : G < w3.heap.size := lt_of_block HH3.out
      have h0 : w3.cell? ⟨G, 0, none⟩ = some (.int .i64 a.size) := by simp [World.cell?, HH3.out]
      have h1 : w3.cell? ⟨G, 1, none⟩ = some (.int .i64 a.log) := by simp [World.cell?, HH3.out]
      clear e0 HB2 hk2 hl2 hb3 HST HH2
      have e1 : w3.cell? ⟨L, 1, none⟩ = some (.int .i64 a.st.principal) := HB3.out.cell 1 _ rfl
      have e2 : w3.cell? ⟨L, 2, none⟩ = some (.int .i64 a.st.due) := HB3.out.cell 2 _ rfl
      have e3 : w3.cell? ⟨L, 3, none⟩ = some (.int .i64 a.st.rate) := HB3.out.cell 3 _ rfl
      have e4 : w3.cell? ⟨L, 4, none⟩ = some (.int .i64 a.st.day) := HB3.out.cell 4 _ rfl
      have e5 : w3.cell? ⟨L, 5, none⟩ = some (.int .i64 a.st.spare) := HB3.out.cell 5 _ rfl
      have e6 : w3.cell? ⟨L, 6, none⟩ = some (.int .i64 a.st.count) := HB3.out.cell 6 _ rfl
      have e7 : w3.cell? ⟨L, 7, none⟩ = some (.int .i64 a.size) := HB3.out.cell 7 _ rfl
      have e8 : w3.cell? ⟨L, 8, none⟩ = some (.int .i64 a.log) := HB3.out.cell 8 _ rfl
      clear HQ
      go_wp2_with fail
      go_ret
      exact ⟨rfl, hk3.alloc hk3.size _⟩

end Go.Proofs.YtedblhcehlbbmaaGreatDoor

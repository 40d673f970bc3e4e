import Derived.Test.YtedblhcehlbbmaaGreatDoorJWalkAccount
import Derived.WalkKit
import Derived.WalkSpells
import Derived.WalkLawsBesides
import Derived.Deep.Cut
import Derived.Deep.CutRange
import Derived.Deep.CutBlock
/-
  THE BOOK, WHOLE: Lie; 'book_spec5', 'lie_ok'.
-/
namespace Go.Proofs.YtedblhcehlbbmaaGreatDoor
set_option maxRecDepth 20000
open Go.RowKit

theorem st_ext {s t : St} (h : stI s = stI t) : s = t := by
  cases s; cases t
  simp only [stI, List.cons.injEq, and_true] at h
  obtain ⟨rfl, rfl, rfl, rfl, rfl, rfl⟩ := h
  rfl
/-- Said by the book's own account. -/
theorem same_own (es : List Ev) (a : Acc) (hl : 0 ≤ a.loan) : sameA es a = true ↔ a.size = (accOf es a.loan.toNat).size ∧ a.log = (accOf es a.loan.toNat).log ∧ a.st = (accOf es a.loan.toNat).st := by
  have hst : (accOf es a.loan.toNat).st = stOf es a.loan := by show stOf es ((a.loan.toNat : Nat) : Int) = _; rw [Int.toNat_of_nonneg hl]
  unfold sameA
  rw [Bool.and_eq_true, Bool.and_eq_true, decide_eq_true_eq, decide_eq_true_eq, decide_eq_true_eq, hst]
  refine ⟨fun h => ⟨h.1.1, h.1.2, st_ext h.2⟩, fun h => ⟨⟨h.1, h.2.1⟩, by rw [h.2.2]⟩⟩

set_option maxRecDepth 20000 in
set_option maxHeartbeats 8000000 in
theorem lie_any (w : World) (S : Nat → Prop) (v : Value) (es : List Ev) (a : Acc) (h : Rep w S v es) (h64 : Acc64 a) (ht : TabOk w) :
    Calls Tryz.prog 54 #[v, accV a] w fun r w' => r = .returned (.tuple #[.string (if calmB es a = true then ⟨#[]⟩ else bs (lx es a)), .string (if calmB es a = true then ⟨#[]⟩ else bs (ly es a)), .int .i64 (if calmB es a = true then 3 else 0)]) ∧ Below w.heap.size w w' := by
  have HHD : Hid (∀ wz, Below w.heap.size w wz → Calls Tryz.prog 25 #[v] wz fun r w' => r = .returned (headV es) ∧ Below wz.heap.size wz w') := fun wz hz => head_any wz S v es (h.stay fun k hk => hz.block k (h.lt k hk)) (ht.kept hz)
  have HAC : Hid (∀ wz, Below w.heap.size w wz → Calls Tryz.prog 77 #[.int .i64 (topOf es), accV a] wz fun r w' => r = .returned (.bool (accB (topOf es) a)) ∧ Below wz.heap.size wz w') := fun wz hz => accepts_any (topOf es) a wz h64 (ht.kept hz)
  have HAO : Hid (∀ wz, Below w.heap.size w wz → Calls Tryz.prog 27 #[v, .int .i64 a.loan] wz fun r w' => r = .returned (.tuple #[accV (if 0 ≤ a.loan ∧ a.loan ≤ 63 then accOf es a.loan.toNat else zA), .int .i64 (if 0 ≤ a.loan ∧ a.loan ≤ 63 then 0 else 1)]) ∧ Below wz.heap.size wz w') := fun wz hz => account_any wz S v es a.loan (h.stay fun k hk => hz.block k (h.lt k hk)) (ht.kept hz)
  have HG : Hid (GoodE es) := by obtain ⟨_, _, _, _, _, _, hg, _⟩ := h; exact hg
  have HT := hid ht
  have H64 := hid h64
  obtain ⟨p, u, rfl, hp, _⟩ := h
  have hpl : p < w.heap.size := lt_of_block hp
  unfold headV at HHD
  clear hp ht h64
  obtain ⟨L, hL⟩ : ∃ L, L = w.heap.size := ⟨_, rfl⟩
  cases hok : accB (topOf es) a
  · have HC : Hid (calmB es a = true) := by show _ = _; unfold calmB; rw [hok]; rfl
    rw [hok] at HAC
    rw [HC.out, if_pos rfl, if_pos rfl, if_pos rfl]
    generalize topOf es = TP at *
    generalize logOf es = LG at *
    generalize mapOf es = MP at *
    generalize es.length = n at *
    unfold accV at *
    clear hok HAO
    go_enter Tryz.func54, Tryz.ntmps54
    go_wp2_with fail
    refine (HHD.out _ ((Below.refl _ _).alloc (Nat.le_refl _) _)).mono ?_
    rintro e w1 ⟨rfl, hb1⟩
    rw [← hL]
    have HB1 : Hid (BlkA w1 L a) := by show BlkA _ _ _; rw [hL]; exact (BlkA.new w a).kept hb1
    have hk1 : Below w.heap.size w w1 := kept ((Below.refl _ _).alloc (Nat.le_refl _) _) hb1
    have hl1 : L < w1.heap.size := lt_of_block HB1.out
    clear hb1 hL HHD
    have e0 : w1.cell? ⟨L, 0, none⟩ = some (.int .i64 a.loan) := HB1.out.cell 0 _ rfl
    have e1 : w1.cell? ⟨L, 1, none⟩ = some (.int .i64 a.st.principal) := HB1.out.cell 1 _ rfl
    have e2 : w1.cell? ⟨L, 2, none⟩ = some (.int .i64 a.st.due) := HB1.out.cell 2 _ rfl
    have e3 : w1.cell? ⟨L, 3, none⟩ = some (.int .i64 a.st.rate) := HB1.out.cell 3 _ rfl
    have e4 : w1.cell? ⟨L, 4, none⟩ = some (.int .i64 a.st.day) := HB1.out.cell 4 _ rfl
    have e5 : w1.cell? ⟨L, 5, none⟩ = some (.int .i64 a.st.spare) := HB1.out.cell 5 _ rfl
    have e6 : w1.cell? ⟨L, 6, none⟩ = some (.int .i64 a.st.count) := HB1.out.cell 6 _ rfl
    have e7 : w1.cell? ⟨L, 7, none⟩ = some (.int .i64 a.size) := HB1.out.cell 7 _ rfl
    have e8 : w1.cell? ⟨L, 8, none⟩ = some (.int .i64 a.log) := HB1.out.cell 8 _ rfl
    have e9 : w1.cell? ⟨L, 9, none⟩ = some (.int .i64 a.p0) := HB1.out.cell 9 _ rfl
    have e10 : w1.cell? ⟨L, 10, none⟩ = some (.int .i64 a.p1) := HB1.out.cell 10 _ rfl
    have e11 : w1.cell? ⟨L, 11, none⟩ = some (.int .i64 a.p2) := HB1.out.cell 11 _ rfl
    have e12 : w1.cell? ⟨L, 12, none⟩ = some (.int .i64 a.p3) := HB1.out.cell 12 _ rfl
    have e13 : w1.cell? ⟨L, 13, none⟩ = some (.int .i64 a.p4) := HB1.out.cell 13 _ rfl
    have e14 : w1.cell? ⟨L, 14, none⟩ = some (.int .i64 a.p5) := HB1.out.cell 14 _ rfl
    go_wp2_with fail
    refine (HAC.out _ (hk1.alloc hk1.size _)).mono ?_
    rintro e w2 ⟨rfl, hb2⟩
    have HB2 : Hid (BlkA w2 L a) := (HB1.out.kept ((Below.refl _ _).alloc (Nat.le_refl _) _)).kept hb2
    have hk2 : Below w.heap.size w w2 := kept (hk1.alloc hk1.size _) hb2
    clear e0 e1 e2 e3 e4 e5 e6 e7 e8 e9 e10 e11 e12 e13 e14 HB1 hk1 hl1 hb2 HAC
    go_wp2_with fail
    go_ret3
    exact ⟨rfl, hk2⟩
  · have HF : Hid (FitsA a) := by
      show FitsA a
      unfold accB at hok
      rw [Bool.and_eq_true] at hok
      exact fitsB_true hok.1
    have HLR : Hid (0 ≤ a.loan ∧ a.loan ≤ 63) := HF.out.loan
    rw [hok] at HAC
    rw [if_pos HLR.out, if_pos HLR.out] at HAO
    have HSO := hid (same_own es a HLR.out.1)
    have HOF : Hid (∀ wz, Below w.heap.size w wz → Calls Tryz.prog 78 #[accV a, accV (accOf es a.loan.toNat)] wz fun e w' => e = .returned (.tuple #[.string (bs (lx es a)), .string (bs (ly es a))]) ∧ Below wz.heap.size wz w') := fun wz hz =>
      ofAccount_any a (accOf es a.loan.toNat) wz HF.out H64.out (accOf_fits es _ (by have := HLR.out; omega) HG.out) (accOf_64 es _ (by have := HLR.out; omega) HG.out) (HT.out.kept hz)
    cases hsm : sameA es a
    · have HC : Hid (calmB es a = false) := by show _ = _; unfold calmB; rw [hok, hsm]; rfl
      rw [HC.out, if_neg (by decide), if_neg (by decide), if_neg (by decide)]
      rw [hsm] at HSO
      generalize bs (lx es a) = X at *
      generalize bs (ly es a) = Y at *
      generalize accOf es a.loan.toNat = A at *
      generalize topOf es = TP at *
      generalize logOf es = LG at *
      generalize mapOf es = MP at *
      generalize es.length = n at *
      have HNO : Hid (a.st.principal = A.st.principal → a.st.due = A.st.due → a.st.rate = A.st.rate → a.st.day = A.st.day → a.st.spare = A.st.spare → a.st.count = A.st.count → (a.size == A.size) = true → (a.log == A.log) = true → False) := fun a1 a2 a3 a4 a5 a6 a7 a8 => by
        have := HSO.out.2 ⟨eq_of_beq a7, eq_of_beq a8, st_ext (by unfold stI; rw [a1, a2, a3, a4, a5, a6])⟩
        cases this
      unfold accV at *
      clear hok hsm HSO HF HLR
      go_enter Tryz.func54, Tryz.ntmps54
      go_wp2_with fail
      refine (HHD.out _ ((Below.refl _ _).alloc (Nat.le_refl _) _)).mono ?_
      rintro e w1 ⟨rfl, hb1⟩
      rw [← hL]
      have HB1 : Hid (BlkA w1 L a) := by show BlkA _ _ _; rw [hL]; exact (BlkA.new w a).kept hb1
      have hk1 : Below w.heap.size w w1 := kept ((Below.refl _ _).alloc (Nat.le_refl _) _) hb1
      have hl1 : L < w1.heap.size := lt_of_block HB1.out
      clear hb1 hL HHD
      have e0 : w1.cell? ⟨L, 0, none⟩ = some (.int .i64 a.loan) := HB1.out.cell 0 _ rfl
      have e1 : w1.cell? ⟨L, 1, none⟩ = some (.int .i64 a.st.principal) := HB1.out.cell 1 _ rfl
      have e2 : w1.cell? ⟨L, 2, none⟩ = some (.int .i64 a.st.due) := HB1.out.cell 2 _ rfl
      have e3 : w1.cell? ⟨L, 3, none⟩ = some (.int .i64 a.st.rate) := HB1.out.cell 3 _ rfl
      have e4 : w1.cell? ⟨L, 4, none⟩ = some (.int .i64 a.st.day) := HB1.out.cell 4 _ rfl
      have e5 : w1.cell? ⟨L, 5, none⟩ = some (.int .i64 a.st.spare) := HB1.out.cell 5 _ rfl
      have e6 : w1.cell? ⟨L, 6, none⟩ = some (.int .i64 a.st.count) := HB1.out.cell 6 _ rfl
      have e7 : w1.cell? ⟨L, 7, none⟩ = some (.int .i64 a.size) := HB1.out.cell 7 _ rfl
      have e8 : w1.cell? ⟨L, 8, none⟩ = some (.int .i64 a.log) := HB1.out.cell 8 _ rfl
      have e9 : w1.cell? ⟨L, 9, none⟩ = some (.int .i64 a.p0) := HB1.out.cell 9 _ rfl
      have e10 : w1.cell? ⟨L, 10, none⟩ = some (.int .i64 a.p1) := HB1.out.cell 10 _ rfl
      have e11 : w1.cell? ⟨L, 11, none⟩ = some (.int .i64 a.p2) := HB1.out.cell 11 _ rfl
      have e12 : w1.cell? ⟨L, 12, none⟩ = some (.int .i64 a.p3) := HB1.out.cell 12 _ rfl
      have e13 : w1.cell? ⟨L, 13, none⟩ = some (.int .i64 a.p4) := HB1.out.cell 13 _ rfl
      have e14 : w1.cell? ⟨L, 14, none⟩ = some (.int .i64 a.p5) := HB1.out.cell 14 _ rfl
      go_wp2_with fail
      refine (HAC.out _ (hk1.alloc hk1.size _)).mono ?_
      rintro e w2 ⟨rfl, hb2⟩
      have HB2 : Hid (BlkA w2 L a) := (HB1.out.kept ((Below.refl _ _).alloc (Nat.le_refl _) _)).kept hb2
      have hk2 : Below w.heap.size w w2 := kept (hk1.alloc hk1.size _) hb2
      clear e0 e1 e2 e3 e4 e5 e6 e7 e8 e9 e10 e11 e12 e13 e14 HB1 hk1 hl1 hb2 HAC
      have hl2 : L < w2.heap.size := lt_of_block HB2.out
      have e0 : w2.cell? ⟨L, 0, none⟩ = some (.int .i64 a.loan) := HB2.out.cell 0 _ rfl
      go_wp2_with fail
      refine (HAO.out _ hk2).mono ?_
      rintro e w3 ⟨rfl, hb3⟩
      have HB3 := hid (HB2.out.kept hb3)
      have hk3 := kept hk2 hb3
      obtain ⟨O, hO⟩ : ∃ O, O = w3.heap.size := ⟨_, rfl⟩
      clear e0 HB2 hk2 hl2 hb3 HAO
      go_upto_region 5 with fail
      rw [← hO]
      have HB4 : Hid (BlkA (w3.alloc (.cells (accC A) 36)) L a) := HB3.out.kept ((Below.refl _ _).alloc (Nat.le_refl _) _)
      have HO4 : Hid (BlkA (w3.alloc (.cells (accC A) 36)) O A) := by show BlkA _ _ _; rw [hO]; exact BlkA.new w3 A
      have HK4 : Hid (Below w.heap.size w (w3.alloc (.cells (accC A) 36))) := hk3.alloc hk3.size _
      unfold accC at HB4 HO4 HK4
      generalize World.alloc w3 _ = w4 at *
      clear HB3 hk3 hO
      have l1 : L < w4.heap.size := lt_of_block HB4.out
      have l2 : O < w4.heap.size := lt_of_block HO4.out
      generalize Value.agg #[.int .i64 a.loan, .int .i64 a.st.principal, .int .i64 a.st.due, .int .i64 a.st.rate, .int .i64 a.st.day, .int .i64 a.st.spare, .int .i64 a.st.count, .int .i64 a.size, .int .i64 a.log, .int .i64 a.p0, .int .i64 a.p1, .int .i64 a.p2, .int .i64 a.p3, .int .i64 a.p4, .int .i64 a.p5] = VA
      go_cut [44] from 26 to 44 (fun c wx => c = .bool false ∧ wx = w4)
      case first =>
        have e1 : w4.cell? ⟨L, 1, none⟩ = some (.int .i64 a.st.principal) := HB4.out.cell 1 _ rfl
        have e2 : w4.cell? ⟨L, 2, none⟩ = some (.int .i64 a.st.due) := HB4.out.cell 2 _ rfl
        have e3 : w4.cell? ⟨L, 3, none⟩ = some (.int .i64 a.st.rate) := HB4.out.cell 3 _ rfl
        have e4 : w4.cell? ⟨L, 4, none⟩ = some (.int .i64 a.st.day) := HB4.out.cell 4 _ rfl
        have e5 : w4.cell? ⟨L, 5, none⟩ = some (.int .i64 a.st.spare) := HB4.out.cell 5 _ rfl
        have e6 : w4.cell? ⟨L, 6, none⟩ = some (.int .i64 a.st.count) := HB4.out.cell 6 _ rfl
        have e7 : w4.cell? ⟨L, 7, none⟩ = some (.int .i64 a.size) := HB4.out.cell 7 _ rfl
        have e8 : w4.cell? ⟨L, 8, none⟩ = some (.int .i64 a.log) := HB4.out.cell 8 _ rfl
        have o1 : w4.cell? ⟨O, 1, none⟩ = some (.int .i64 A.st.principal) := HO4.out.cell 1 _ rfl
        have o2 : w4.cell? ⟨O, 2, none⟩ = some (.int .i64 A.st.due) := HO4.out.cell 2 _ rfl
        have o3 : w4.cell? ⟨O, 3, none⟩ = some (.int .i64 A.st.rate) := HO4.out.cell 3 _ rfl
        have o4 : w4.cell? ⟨O, 4, none⟩ = some (.int .i64 A.st.day) := HO4.out.cell 4 _ rfl
        have o5 : w4.cell? ⟨O, 5, none⟩ = some (.int .i64 A.st.spare) := HO4.out.cell 5 _ rfl
        have o6 : w4.cell? ⟨O, 6, none⟩ = some (.int .i64 A.st.count) := HO4.out.cell 6 _ rfl
        have o7 : w4.cell? ⟨O, 7, none⟩ = some (.int .i64 A.size) := HO4.out.cell 7 _ rfl
        have o8 : w4.cell? ⟨O, 8, none⟩ = some (.int .i64 A.log) := HO4.out.cell 8 _ rfl
        go_wp2_with fail
        all_goals first
          | exact (HNO.out (by assumption) (by assumption) (by assumption) (by assumption) (by assumption) (by assumption) (by first | assumption | exact beq_iff_eq.2 (by assumption)) (by first | assumption | exact beq_iff_eq.2 (by assumption))).elim
          | (go_meet; exact ⟨rfl, rfl⟩)
      case rest =>
        obtain ⟨rfl, hwx⟩ := hcut
        rw [hwx]
        clear hwx
        have e0 : w4.cell? ⟨L, 0, none⟩ = some (.int .i64 a.loan) := HB4.out.cell 0 _ rfl
        have e1 : w4.cell? ⟨L, 1, none⟩ = some (.int .i64 a.st.principal) := HB4.out.cell 1 _ rfl
        have e2 : w4.cell? ⟨L, 2, none⟩ = some (.int .i64 a.st.due) := HB4.out.cell 2 _ rfl
        have e3 : w4.cell? ⟨L, 3, none⟩ = some (.int .i64 a.st.rate) := HB4.out.cell 3 _ rfl
        have e4 : w4.cell? ⟨L, 4, none⟩ = some (.int .i64 a.st.day) := HB4.out.cell 4 _ rfl
        have e5 : w4.cell? ⟨L, 5, none⟩ = some (.int .i64 a.st.spare) := HB4.out.cell 5 _ rfl
        have e6 : w4.cell? ⟨L, 6, none⟩ = some (.int .i64 a.st.count) := HB4.out.cell 6 _ rfl
        have e7 : w4.cell? ⟨L, 7, none⟩ = some (.int .i64 a.size) := HB4.out.cell 7 _ rfl
        have e8 : w4.cell? ⟨L, 8, none⟩ = some (.int .i64 a.log) := HB4.out.cell 8 _ rfl
        have e9 : w4.cell? ⟨L, 9, none⟩ = some (.int .i64 a.p0) := HB4.out.cell 9 _ rfl
        have e10 : w4.cell? ⟨L, 10, none⟩ = some (.int .i64 a.p1) := HB4.out.cell 10 _ rfl
        have e11 : w4.cell? ⟨L, 11, none⟩ = some (.int .i64 a.p2) := HB4.out.cell 11 _ rfl
        have e12 : w4.cell? ⟨L, 12, none⟩ = some (.int .i64 a.p3) := HB4.out.cell 12 _ rfl
        have e13 : w4.cell? ⟨L, 13, none⟩ = some (.int .i64 a.p4) := HB4.out.cell 13 _ rfl
        have e14 : w4.cell? ⟨L, 14, none⟩ = some (.int .i64 a.p5) := HB4.out.cell 14 _ rfl
        have o0 : w4.cell? ⟨O, 0, none⟩ = some (.int .i64 A.loan) := HO4.out.cell 0 _ rfl
        have o1 : w4.cell? ⟨O, 1, none⟩ = some (.int .i64 A.st.principal) := HO4.out.cell 1 _ rfl
        have o2 : w4.cell? ⟨O, 2, none⟩ = some (.int .i64 A.st.due) := HO4.out.cell 2 _ rfl
        have o3 : w4.cell? ⟨O, 3, none⟩ = some (.int .i64 A.st.rate) := HO4.out.cell 3 _ rfl
        have o4 : w4.cell? ⟨O, 4, none⟩ = some (.int .i64 A.st.day) := HO4.out.cell 4 _ rfl
        have o5 : w4.cell? ⟨O, 5, none⟩ = some (.int .i64 A.st.spare) := HO4.out.cell 5 _ rfl
        have o6 : w4.cell? ⟨O, 6, none⟩ = some (.int .i64 A.st.count) := HO4.out.cell 6 _ rfl
        have o7 : w4.cell? ⟨O, 7, none⟩ = some (.int .i64 A.size) := HO4.out.cell 7 _ rfl
        have o8 : w4.cell? ⟨O, 8, none⟩ = some (.int .i64 A.log) := HO4.out.cell 8 _ rfl
        have o9 : w4.cell? ⟨O, 9, none⟩ = some (.int .i64 A.p0) := HO4.out.cell 9 _ rfl
        have o10 : w4.cell? ⟨O, 10, none⟩ = some (.int .i64 A.p1) := HO4.out.cell 10 _ rfl
        have o11 : w4.cell? ⟨O, 11, none⟩ = some (.int .i64 A.p2) := HO4.out.cell 11 _ rfl
        have o12 : w4.cell? ⟨O, 12, none⟩ = some (.int .i64 A.p3) := HO4.out.cell 12 _ rfl
        have o13 : w4.cell? ⟨O, 13, none⟩ = some (.int .i64 A.p4) := HO4.out.cell 13 _ rfl
        have o14 : w4.cell? ⟨O, 14, none⟩ = some (.int .i64 A.p5) := HO4.out.cell 14 _ rfl
        go_wp2_with fail
        refine (HOF.out _ HK4.out).mono ?_
        rintro e w5 ⟨rfl, hb5⟩
        go_wp2_with fail
        go_ret3
        exact ⟨rfl, kept HK4.out hb5⟩
    · have HC : Hid (calmB es a = true) := by show _ = _; unfold calmB; rw [hok, hsm]; rfl
      rw [HC.out, if_pos rfl, if_pos rfl, if_pos rfl]
      have HQ := hid (HSO.out.1 hsm)
      generalize accOf es a.loan.toNat = A at *
      generalize topOf es = TP at *
      generalize logOf es = LG at *
      generalize mapOf es = MP at *
      generalize es.length = n at *
      unfold accV at *
      rw [← HQ.out.1, ← HQ.out.2.1, ← HQ.out.2.2] at HAO
      clear hok hsm HSO HF HLR HOF HQ
      go_enter Tryz.func54, Tryz.ntmps54
      go_wp2_with fail
      refine (HHD.out _ ((Below.refl _ _).alloc (Nat.le_refl _) _)).mono ?_
      rintro e w1 ⟨rfl, hb1⟩
      rw [← hL]
      have HB1 : Hid (BlkA w1 L a) := by show BlkA _ _ _; rw [hL]; exact (BlkA.new w a).kept hb1
      have hk1 : Below w.heap.size w w1 := kept ((Below.refl _ _).alloc (Nat.le_refl _) _) hb1
      have hl1 : L < w1.heap.size := lt_of_block HB1.out
      clear hb1 hL HHD
      have e0 : w1.cell? ⟨L, 0, none⟩ = some (.int .i64 a.loan) := HB1.out.cell 0 _ rfl
      have e1 : w1.cell? ⟨L, 1, none⟩ = some (.int .i64 a.st.principal) := HB1.out.cell 1 _ rfl
      have e2 : w1.cell? ⟨L, 2, none⟩ = some (.int .i64 a.st.due) := HB1.out.cell 2 _ rfl
      have e3 : w1.cell? ⟨L, 3, none⟩ = some (.int .i64 a.st.rate) := HB1.out.cell 3 _ rfl
      have e4 : w1.cell? ⟨L, 4, none⟩ = some (.int .i64 a.st.day) := HB1.out.cell 4 _ rfl
      have e5 : w1.cell? ⟨L, 5, none⟩ = some (.int .i64 a.st.spare) := HB1.out.cell 5 _ rfl
      have e6 : w1.cell? ⟨L, 6, none⟩ = some (.int .i64 a.st.count) := HB1.out.cell 6 _ rfl
      have e7 : w1.cell? ⟨L, 7, none⟩ = some (.int .i64 a.size) := HB1.out.cell 7 _ rfl
      have e8 : w1.cell? ⟨L, 8, none⟩ = some (.int .i64 a.log) := HB1.out.cell 8 _ rfl
      have e9 : w1.cell? ⟨L, 9, none⟩ = some (.int .i64 a.p0) := HB1.out.cell 9 _ rfl
      have e10 : w1.cell? ⟨L, 10, none⟩ = some (.int .i64 a.p1) := HB1.out.cell 10 _ rfl
      have e11 : w1.cell? ⟨L, 11, none⟩ = some (.int .i64 a.p2) := HB1.out.cell 11 _ rfl
      have e12 : w1.cell? ⟨L, 12, none⟩ = some (.int .i64 a.p3) := HB1.out.cell 12 _ rfl
      have e13 : w1.cell? ⟨L, 13, none⟩ = some (.int .i64 a.p4) := HB1.out.cell 13 _ rfl
      have e14 : w1.cell? ⟨L, 14, none⟩ = some (.int .i64 a.p5) := HB1.out.cell 14 _ rfl
      go_wp2_with fail
      refine (HAC.out _ (hk1.alloc hk1.size _)).mono ?_
      rintro e w2 ⟨rfl, hb2⟩
      have HB2 : Hid (BlkA w2 L a) := (HB1.out.kept ((Below.refl _ _).alloc (Nat.le_refl _) _)).kept hb2
      have hk2 : Below w.heap.size w w2 := kept (hk1.alloc hk1.size _) hb2
      clear e0 e1 e2 e3 e4 e5 e6 e7 e8 e9 e10 e11 e12 e13 e14 HB1 hk1 hl1 hb2 HAC
      have hl2 : L < w2.heap.size := lt_of_block HB2.out
      have e0 : w2.cell? ⟨L, 0, none⟩ = some (.int .i64 a.loan) := HB2.out.cell 0 _ rfl
      go_wp2_with fail
      refine (HAO.out _ hk2).mono ?_
      rintro e w3 ⟨rfl, hb3⟩
      have HB3 := hid (HB2.out.kept hb3)
      have hk3 := kept hk2 hb3
      have hl3 : L < w3.heap.size := lt_of_block HB3.out
      clear e0 HB2 hk2 hl2 hb3 HAO
      have e0 : w3.cell? ⟨L, 0, none⟩ = some (.int .i64 a.loan) := HB3.out.cell 0 _ rfl
      have e1 : w3.cell? ⟨L, 1, none⟩ = some (.int .i64 a.st.principal) := HB3.out.cell 1 _ rfl
      have e2 : w3.cell? ⟨L, 2, none⟩ = some (.int .i64 a.st.due) := HB3.out.cell 2 _ rfl
      have e3 : w3.cell? ⟨L, 3, none⟩ = some (.int .i64 a.st.rate) := HB3.out.cell 3 _ rfl
      have e4 : w3.cell? ⟨L, 4, none⟩ = some (.int .i64 a.st.day) := HB3.out.cell 4 _ rfl
      have e5 : w3.cell? ⟨L, 5, none⟩ = some (.int .i64 a.st.spare) := HB3.out.cell 5 _ rfl
      have e6 : w3.cell? ⟨L, 6, none⟩ = some (.int .i64 a.st.count) := HB3.out.cell 6 _ rfl
      have e7 : w3.cell? ⟨L, 7, none⟩ = some (.int .i64 a.size) := HB3.out.cell 7 _ rfl
      have e8 : w3.cell? ⟨L, 8, none⟩ = some (.int .i64 a.log) := HB3.out.cell 8 _ rfl
      have e9 : w3.cell? ⟨L, 9, none⟩ = some (.int .i64 a.p0) := HB3.out.cell 9 _ rfl
      have e10 : w3.cell? ⟨L, 10, none⟩ = some (.int .i64 a.p1) := HB3.out.cell 10 _ rfl
      have e11 : w3.cell? ⟨L, 11, none⟩ = some (.int .i64 a.p2) := HB3.out.cell 11 _ rfl
      have e12 : w3.cell? ⟨L, 12, none⟩ = some (.int .i64 a.p3) := HB3.out.cell 12 _ rfl
      have e13 : w3.cell? ⟨L, 13, none⟩ = some (.int .i64 a.p4) := HB3.out.cell 13 _ rfl
      have e14 : w3.cell? ⟨L, 14, none⟩ = some (.int .i64 a.p5) := HB3.out.cell 14 _ rfl
      go_wp2_with fail
      go_ret3
      exact ⟨rfl, hk3.alloc hk3.size _⟩

theorem book_spec5 : ∀ w0, TabOk w0 → BookSpec5 w0 Rep lx ly := fun w0 h0 =>
  { book_spec w0 with
    log := fun w S v es hb h => log_any w S v es h (h0.kept hb)
    head := fun w S v es hb h => head_any w S v es h (h0.kept hb)
    account := fun w S v es loan hb h _ => account_any w S v es loan h (h0.kept hb)
    accepts := fun w top a hb _ h64 => accepts_any top a w h64 (h0.kept hb)
    lie := fun w S v es a hb h h64 => lie_any w S v es a h h64 (h0.kept hb) }

end Go.Proofs.YtedblhcehlbbmaaGreatDoor

import Derived.Test.YtedblhcehlbbmaaGreatDoorJWalkRefTexts
import Derived.Test.YtedblhcehlbbmaaGreatDoorEqAcc
import Derived.Test.YtedblhcehlbbmaaGreatDoorWalkShelfCalm
import Derived.WalkKit
import Derived.WalkSpells
import Derived.WalkLawsBesides
import Derived.Deep.RegionHeld3
import Derived.Deep.QuietTactic
import Derived.BigQuiet
import Derived.Deep.Cut
import Derived.Deep.CutRange
import Derived.Deep.CutBlock
/-
  THE SCRIPT's SHELF: shelf.lie.
-/
namespace Go.Proofs.YtedblhcehlbbmaaGreatDoor
set_option maxRecDepth 20000
open Go.RowKit

attribute [local go_sem ↓] run_eql_acc

set_option maxRecDepth 20000 in
set_option maxHeartbeats 8000000 in
theorem lieLaw_lieB (w : World) (S R : Nat → Prop) (L : Nat) (bd rd : Addr) (es : List Ev) (a0 : Acc) (x0 y0 : ByteArray) (a : Acc)
    (hc : calmB es a = false) (hae : accEq a0 a = false) (hB : ShB w L (.pointer (some bd)) (.pointer (some rd)) true a0 x0 y0) (hb : Rep w S (.pointer (some bd)) es) (hr : RRep w R (.pointer (some rd)) es) (hsl : ¬ S L) (hrl : ¬ R L) (hq : AskOk es true a0 x0 y0) (h64 : Acc64 a) (w0 : World) (ht0 : TabOk w0) (hb0 : Below w0.heap.size w0 w) (hL0 : w0.heap.size ≤ L) :
    Calls Tryz.prog 29 #[.pointer (some ⟨L, 0, none⟩), accV a] w fun r w' => r = .returned (.bool true) ∧ (∃ q' a' x' y', ShB w' L (.pointer (some bd)) (.pointer (some rd)) q' a' x' y' ∧ AskOk es q' a' x' y') ∧ Besides (fun k => k = L) w w' := by
  have ht : TabOk w := ht0.kept hb0
  have HLI : Hid (∀ wz, Below w.heap.size w wz → Calls Tryz.prog 54 #[.pointer (some bd), accV a] wz fun r w' => r = .returned (.tuple #[.string (if calmB es a = true then ⟨#[]⟩ else bs (lx es a)), .string (if calmB es a = true then ⟨#[]⟩ else bs (ly es a)), .int .i64 (if calmB es a = true then 3 else 0)]) ∧ Below wz.heap.size wz w') := fun wz hz => lie_any wz S _ es a (hb.stay fun k hk => hz.block k (hb.lt k hk)) h64 (ht.kept hz)
  have HCA : Hid (∀ wz, Below w.heap.size w wz → Calls Tryz.prog 55 #[.pointer (some rd), accV a] wz fun r w' => r = .returned (.bool (calmB es a)) ∧ Below wz.heap.size wz w') := fun wz hz => rcalm_any wz R rd es a (hr.stay fun k hk => hz.block k (hr.lt k hk)) h64 (ht.kept hz)
  have HB0 := hid hB
  have HQ := hid hq
  have HT0 := hid ht0
  have HW0 := hid hb0
  have HL0 : Hid (w0.heap.size ≤ L) := hL0
  clear ht0 hb0 hL0
  obtain ⟨A, hA⟩ : ∃ A, A = w.heap.size := ⟨_, rfl⟩
  rw [hc] at HLI HCA
  simp only [Bool.false_eq_true, if_false] at HLI
  have HG : Hid (GoodE es) := by obtain ⟨_, _, _, _, _, _, hg, _⟩ := hb; exact hg
  have HLO := hid lie_ok
  have HCL := hid hc
  have H64 := hid h64
  have HBB := hid hb
  have HRR := hid hr
  have HSL : Hid (¬ S L) := hsl
  have HRL : Hid (¬ R L) := hrl
  generalize hX : bs (lx es a) = X at *
  generalize hY : bs (ly es a) = Y at *
  have HX := hid hX
  have HY := hid hY
  unfold accV at *
  clear hb hr hsl hrl hq h64 ht hB hc hX hY
  go_enter Tryz.func29, Tryz.ntmps29
  go_upto_region 1 with fail
  rw [← hA]
  have HA1 : Hid (BlkA (w.alloc (.cells (accC a) 36)) A a) := by show BlkA _ _ _; rw [hA]; exact BlkA.new w a
  have HB1 := hid (HB0.out.kept ((Below.refl _ _).alloc (Nat.le_refl _) (.cells (accC a) 36)))
  have hk1 : Below w.heap.size w (w.alloc (.cells (accC a) 36)) := (Below.refl _ _).alloc (Nat.le_refl _) _
  unfold accC at HA1 HB1 hk1
  generalize World.alloc w _ = w1 at *
  have HAW : Hid (w.heap.size ≤ A) := by show _ ≤ _; rw [hA]; exact Nat.le_refl _
  have HLA : Hid (L < A) := by show _ < _; rw [hA]; exact HB0.out.lt
  clear hA
  have l1 : L < w1.heap.size := HB1.out.lt
  have l2 : A < w1.heap.size := lt_of_block HA1.out
  have c0 : w1.cell? ⟨L, 0, none⟩ = some (.pointer (some bd)) := HB1.out.cell 0 _ rfl
  have e0 : w1.cell? ⟨A, 0, none⟩ = some (.int .i64 a.loan) := HA1.out.cell 0 _ rfl
  have e1 : w1.cell? ⟨A, 1, none⟩ = some (.int .i64 a.st.principal) := HA1.out.cell 1 _ rfl
  have e2 : w1.cell? ⟨A, 2, none⟩ = some (.int .i64 a.st.due) := HA1.out.cell 2 _ rfl
  have e3 : w1.cell? ⟨A, 3, none⟩ = some (.int .i64 a.st.rate) := HA1.out.cell 3 _ rfl
  have e4 : w1.cell? ⟨A, 4, none⟩ = some (.int .i64 a.st.day) := HA1.out.cell 4 _ rfl
  have e5 : w1.cell? ⟨A, 5, none⟩ = some (.int .i64 a.st.spare) := HA1.out.cell 5 _ rfl
  have e6 : w1.cell? ⟨A, 6, none⟩ = some (.int .i64 a.st.count) := HA1.out.cell 6 _ rfl
  have e7 : w1.cell? ⟨A, 7, none⟩ = some (.int .i64 a.size) := HA1.out.cell 7 _ rfl
  have e8 : w1.cell? ⟨A, 8, none⟩ = some (.int .i64 a.log) := HA1.out.cell 8 _ rfl
  have e9 : w1.cell? ⟨A, 9, none⟩ = some (.int .i64 a.p0) := HA1.out.cell 9 _ rfl
  have e10 : w1.cell? ⟨A, 10, none⟩ = some (.int .i64 a.p1) := HA1.out.cell 10 _ rfl
  have e11 : w1.cell? ⟨A, 11, none⟩ = some (.int .i64 a.p2) := HA1.out.cell 11 _ rfl
  have e12 : w1.cell? ⟨A, 12, none⟩ = some (.int .i64 a.p3) := HA1.out.cell 12 _ rfl
  have e13 : w1.cell? ⟨A, 13, none⟩ = some (.int .i64 a.p4) := HA1.out.cell 13 _ rfl
  have e14 : w1.cell? ⟨A, 14, none⟩ = some (.int .i64 a.p5) := HA1.out.cell 14 _ rfl
  go_region_held3 (fun w' => w'.cell? ⟨L, 0, none⟩ = some (.pointer (some bd)) ∧ w'.cell? ⟨A, 0, none⟩ = some (.int .i64 a.loan) ∧ w'.cell? ⟨A, 1, none⟩ = some (.int .i64 a.st.principal) ∧ w'.cell? ⟨A, 2, none⟩ = some (.int .i64 a.st.due) ∧ w'.cell? ⟨A, 3, none⟩ = some (.int .i64 a.st.rate) ∧ w'.cell? ⟨A, 4, none⟩ = some (.int .i64 a.st.day) ∧ w'.cell? ⟨A, 5, none⟩ = some (.int .i64 a.st.spare) ∧ w'.cell? ⟨A, 6, none⟩ = some (.int .i64 a.st.count) ∧ w'.cell? ⟨A, 7, none⟩ = some (.int .i64 a.size) ∧ w'.cell? ⟨A, 8, none⟩ = some (.int .i64 a.log) ∧ w'.cell? ⟨A, 9, none⟩ = some (.int .i64 a.p0) ∧ w'.cell? ⟨A, 10, none⟩ = some (.int .i64 a.p1) ∧ w'.cell? ⟨A, 11, none⟩ = some (.int .i64 a.p2) ∧ w'.cell? ⟨A, 12, none⟩ = some (.int .i64 a.p3) ∧ w'.cell? ⟨A, 13, none⟩ = some (.int .i64 a.p4) ∧ w'.cell? ⟨A, 14, none⟩ = some (.int .i64 a.p5)) ((go_split_ands; refine ⟨?_, ?_, ?_, ?_, ?_, ?_, ?_, ?_, ?_, ?_, ?_, ?_, ?_, ?_, ?_, ?_⟩ <;> first | (with_reducible exact drew_cellS (by assumption)) | exact cell_kept (by assumption) hb5)) (first | (go_at_call 54; refine (HLI.out _ (by exact hk1.drew)).mono ?_; rintro ee w5 ⟨rfl, hb5⟩))
  have hk5 : Below w1.heap.size w1 w5 := kept ((Below.refl _ _).drew) hb5
  have hkw5 := kept hk1 hk5
  have HA5 := hid (HA1.out.kept hk5)
  have HB5 := hid (HB1.out.kept hk5)
  clear l1 l2 c0 hb5 HB1 HA1 hk5
  clear e0 e1 e2 e3 e4 e5 e6 e7 e8 e9 e10 e11 e12 e13 e14
  have l1 : L < w5.heap.size := HB5.out.lt
  have l2 : A < w5.heap.size := lt_of_block HA5.out
  have c0 : w5.cell? ⟨L, 1, none⟩ = some (.pointer (some rd)) := HB5.out.cell 1 _ rfl
  have e0 : w5.cell? ⟨A, 0, none⟩ = some (.int .i64 a.loan) := HA5.out.cell 0 _ rfl
  have e1 : w5.cell? ⟨A, 1, none⟩ = some (.int .i64 a.st.principal) := HA5.out.cell 1 _ rfl
  have e2 : w5.cell? ⟨A, 2, none⟩ = some (.int .i64 a.st.due) := HA5.out.cell 2 _ rfl
  have e3 : w5.cell? ⟨A, 3, none⟩ = some (.int .i64 a.st.rate) := HA5.out.cell 3 _ rfl
  have e4 : w5.cell? ⟨A, 4, none⟩ = some (.int .i64 a.st.day) := HA5.out.cell 4 _ rfl
  have e5 : w5.cell? ⟨A, 5, none⟩ = some (.int .i64 a.st.spare) := HA5.out.cell 5 _ rfl
  have e6 : w5.cell? ⟨A, 6, none⟩ = some (.int .i64 a.st.count) := HA5.out.cell 6 _ rfl
  have e7 : w5.cell? ⟨A, 7, none⟩ = some (.int .i64 a.size) := HA5.out.cell 7 _ rfl
  have e8 : w5.cell? ⟨A, 8, none⟩ = some (.int .i64 a.log) := HA5.out.cell 8 _ rfl
  have e9 : w5.cell? ⟨A, 9, none⟩ = some (.int .i64 a.p0) := HA5.out.cell 9 _ rfl
  have e10 : w5.cell? ⟨A, 10, none⟩ = some (.int .i64 a.p1) := HA5.out.cell 10 _ rfl
  have e11 : w5.cell? ⟨A, 11, none⟩ = some (.int .i64 a.p2) := HA5.out.cell 11 _ rfl
  have e12 : w5.cell? ⟨A, 12, none⟩ = some (.int .i64 a.p3) := HA5.out.cell 12 _ rfl
  have e13 : w5.cell? ⟨A, 13, none⟩ = some (.int .i64 a.p4) := HA5.out.cell 13 _ rfl
  have e14 : w5.cell? ⟨A, 14, none⟩ = some (.int .i64 a.p5) := HA5.out.cell 14 _ rfl
  obtain ⟨w2, hw2⟩ : ∃ w2, w2 = w5 := ⟨_, rfl⟩
  rw [← hw2] at l1 l2 c0 HA5 HB5 hkw5 ⊢
  rw [← hw2] at e0
  rw [← hw2] at e1
  rw [← hw2] at e2
  rw [← hw2] at e3
  rw [← hw2] at e4
  rw [← hw2] at e5
  rw [← hw2] at e6
  rw [← hw2] at e7
  rw [← hw2] at e8
  rw [← hw2] at e9
  rw [← hw2] at e10
  rw [← hw2] at e11
  rw [← hw2] at e12
  rw [← hw2] at e13
  rw [← hw2] at e14
  clear hw2
  go_wp2_with fail
  go_region_held3 (fun w' => w'.cell? ⟨L, 1, none⟩ = some (.pointer (some rd)) ∧ w'.cell? ⟨A, 0, none⟩ = some (.int .i64 a.loan) ∧ w'.cell? ⟨A, 1, none⟩ = some (.int .i64 a.st.principal) ∧ w'.cell? ⟨A, 2, none⟩ = some (.int .i64 a.st.due) ∧ w'.cell? ⟨A, 3, none⟩ = some (.int .i64 a.st.rate) ∧ w'.cell? ⟨A, 4, none⟩ = some (.int .i64 a.st.day) ∧ w'.cell? ⟨A, 5, none⟩ = some (.int .i64 a.st.spare) ∧ w'.cell? ⟨A, 6, none⟩ = some (.int .i64 a.st.count) ∧ w'.cell? ⟨A, 7, none⟩ = some (.int .i64 a.size) ∧ w'.cell? ⟨A, 8, none⟩ = some (.int .i64 a.log) ∧ w'.cell? ⟨A, 9, none⟩ = some (.int .i64 a.p0) ∧ w'.cell? ⟨A, 10, none⟩ = some (.int .i64 a.p1) ∧ w'.cell? ⟨A, 11, none⟩ = some (.int .i64 a.p2) ∧ w'.cell? ⟨A, 12, none⟩ = some (.int .i64 a.p3) ∧ w'.cell? ⟨A, 13, none⟩ = some (.int .i64 a.p4) ∧ w'.cell? ⟨A, 14, none⟩ = some (.int .i64 a.p5)) ((go_split_ands; refine ⟨?_, ?_, ?_, ?_, ?_, ?_, ?_, ?_, ?_, ?_, ?_, ?_, ?_, ?_, ?_, ?_⟩ <;> first | (with_reducible exact drew_cellS (by assumption)) | exact cell_kept (by assumption) hb5)) (first | (go_at_call 55; refine (HCA.out _ (by exact hkw5.drew)).mono ?_; rintro ee w5 ⟨rfl, hb5⟩))
  have hk6 : Below w2.heap.size w2 w5 := kept ((Below.refl _ _).drew) hb5
  have hkw6 := kept hkw5 hk6
  have HA6 := hid (HA5.out.kept hk6)
  have HB6 := hid (HB5.out.kept hk6)
  clear l1 l2 c0 hb5 HB5 HA5 hk6 hkw5
  clear e0 e1 e2 e3 e4 e5 e6 e7 e8 e9 e10 e11 e12 e13 e14
  go_wp2_with fail
  have l1 : L < w5.heap.size := HB6.out.lt
  have l2 : A < w5.heap.size := lt_of_block HA6.out
  have HLE : Hid (∀ wz, wz.heap[L]? = w5.heap[L]? → ShB wz L (.pointer (some bd)) (.pointer (some rd)) true a0 x0 y0) := fun wz e => HB6.out.of e
  generalize hVA : Value.agg #[.int .i64 a.loan, .int .i64 a.st.principal, .int .i64 a.st.due, .int .i64 a.st.rate, .int .i64 a.st.day, .int .i64 a.st.spare, .int .i64 a.st.count, .int .i64 a.size, .int .i64 a.log, .int .i64 a.p0, .int .i64 a.p1, .int .i64 a.p2, .int .i64 a.p3, .int .i64 a.p4, .int .i64 a.p5] = VA
  have HVA := hid hVA
  clear hVA
  obtain ⟨w6, hw6⟩ : ∃ w6, w6 = w5 := ⟨_, rfl⟩
  rw [← hw6] at l1 l2 HA6 HB6 hkw6 HLE ⊢
  clear hw6
  go_cut [58] from 31 to 58 (fun c wx => c = .bool false ∧ Below w6.heap.size w6 wx)
  case first =>
    have c2 : w6.cell? ⟨L, 2, none⟩ = some (.bool true) := HB6.out.cell 2 _ rfl
    have HXY := hid (HQ.out rfl)
    have c18 : w6.cell? ⟨L, 18, none⟩ = some (.string x0) := HB6.out.cell 18 _ rfl
    have c19 : w6.cell? ⟨L, 19, none⟩ = some (.string y0) := HB6.out.cell 19 _ rfl
    have e0 : w6.cell? ⟨A, 0, none⟩ = some (.int .i64 a.loan) := HA6.out.cell 0 _ rfl
    have e1 : w6.cell? ⟨A, 1, none⟩ = some (.int .i64 a.st.principal) := HA6.out.cell 1 _ rfl
    have e2 : w6.cell? ⟨A, 2, none⟩ = some (.int .i64 a.st.due) := HA6.out.cell 2 _ rfl
    have e3 : w6.cell? ⟨A, 3, none⟩ = some (.int .i64 a.st.rate) := HA6.out.cell 3 _ rfl
    have e4 : w6.cell? ⟨A, 4, none⟩ = some (.int .i64 a.st.day) := HA6.out.cell 4 _ rfl
    have e5 : w6.cell? ⟨A, 5, none⟩ = some (.int .i64 a.st.spare) := HA6.out.cell 5 _ rfl
    have e6 : w6.cell? ⟨A, 6, none⟩ = some (.int .i64 a.st.count) := HA6.out.cell 6 _ rfl
    have e7 : w6.cell? ⟨A, 7, none⟩ = some (.int .i64 a.size) := HA6.out.cell 7 _ rfl
    have e8 : w6.cell? ⟨A, 8, none⟩ = some (.int .i64 a.log) := HA6.out.cell 8 _ rfl
    have e9 : w6.cell? ⟨A, 9, none⟩ = some (.int .i64 a.p0) := HA6.out.cell 9 _ rfl
    have e10 : w6.cell? ⟨A, 10, none⟩ = some (.int .i64 a.p1) := HA6.out.cell 10 _ rfl
    have e11 : w6.cell? ⟨A, 11, none⟩ = some (.int .i64 a.p2) := HA6.out.cell 11 _ rfl
    have e12 : w6.cell? ⟨A, 12, none⟩ = some (.int .i64 a.p3) := HA6.out.cell 12 _ rfl
    have e13 : w6.cell? ⟨A, 13, none⟩ = some (.int .i64 a.p4) := HA6.out.cell 13 _ rfl
    have e14 : w6.cell? ⟨A, 14, none⟩ = some (.int .i64 a.p5) := HA6.out.cell 14 _ rfl
    have d0 : w6.cell? ⟨L, 3, none⟩ = some (.int .i64 a0.loan) := HB6.out.cell 3 _ rfl
    have d1 : w6.cell? ⟨L, 4, none⟩ = some (.int .i64 a0.st.principal) := HB6.out.cell 4 _ rfl
    have d2 : w6.cell? ⟨L, 5, none⟩ = some (.int .i64 a0.st.due) := HB6.out.cell 5 _ rfl
    have d3 : w6.cell? ⟨L, 6, none⟩ = some (.int .i64 a0.st.rate) := HB6.out.cell 6 _ rfl
    have d4 : w6.cell? ⟨L, 7, none⟩ = some (.int .i64 a0.st.day) := HB6.out.cell 7 _ rfl
    have d5 : w6.cell? ⟨L, 8, none⟩ = some (.int .i64 a0.st.spare) := HB6.out.cell 8 _ rfl
    have d6 : w6.cell? ⟨L, 9, none⟩ = some (.int .i64 a0.st.count) := HB6.out.cell 9 _ rfl
    have d7 : w6.cell? ⟨L, 10, none⟩ = some (.int .i64 a0.size) := HB6.out.cell 10 _ rfl
    have d8 : w6.cell? ⟨L, 11, none⟩ = some (.int .i64 a0.log) := HB6.out.cell 11 _ rfl
    have d9 : w6.cell? ⟨L, 12, none⟩ = some (.int .i64 a0.p0) := HB6.out.cell 12 _ rfl
    have d10 : w6.cell? ⟨L, 13, none⟩ = some (.int .i64 a0.p1) := HB6.out.cell 13 _ rfl
    have d11 : w6.cell? ⟨L, 14, none⟩ = some (.int .i64 a0.p2) := HB6.out.cell 14 _ rfl
    have d12 : w6.cell? ⟨L, 15, none⟩ = some (.int .i64 a0.p3) := HB6.out.cell 15 _ rfl
    have d13 : w6.cell? ⟨L, 16, none⟩ = some (.int .i64 a0.p4) := HB6.out.cell 16 _ rfl
    have d14 : w6.cell? ⟨L, 17, none⟩ = some (.int .i64 a0.p5) := HB6.out.cell 17 _ rfl
    clear HXY HQ HLE HB6 HX HY HLI HB0 HCL HVA HCA HLO HG H64  HBB HRR HSL HRL
    go_quiet (fail)
    go_wp2_with fail
    go_meet
    case rel => exact ⟨rfl, below_drewN (Below.refl _ _) _⟩
  case rest =>
    obtain ⟨rfl, hb7⟩ := hcut
    obtain ⟨w7, hw7⟩ : ∃ w7, w7 = wc := ⟨_, rfl⟩
    rw [← hw7] at hb7 ⊢
    clear hw7
    have HA7 := hid (HA6.out.kept hb7)
    have HB7 := hid (HB6.out.kept hb7)
    have hkw7 := kept hkw6 hb7
    clear l1 l2 hb7 HA6 HB6 hkw6 HLE
    have l1 : L < w7.heap.size := HB7.out.lt
    have l2 : A < w7.heap.size := lt_of_block HA7.out
    have hne1 : ¬ A = L := by have := HLA.out; omega
    have hne2 : ¬ L = A := by have := HLA.out; omega
    have c2 : w7.cell? ⟨L, 2, none⟩ = some (.bool true) := HB7.out.cell 2 _ rfl
    have c18 : w7.cell? ⟨L, 18, none⟩ = some (.string x0) := HB7.out.cell 18 _ rfl
    have c19 : w7.cell? ⟨L, 19, none⟩ = some (.string y0) := HB7.out.cell 19 _ rfl
    have e0 : w7.cell? ⟨A, 0, none⟩ = some (.int .i64 a.loan) := HA7.out.cell 0 _ rfl
    have e1 : w7.cell? ⟨A, 1, none⟩ = some (.int .i64 a.st.principal) := HA7.out.cell 1 _ rfl
    have e2 : w7.cell? ⟨A, 2, none⟩ = some (.int .i64 a.st.due) := HA7.out.cell 2 _ rfl
    have e3 : w7.cell? ⟨A, 3, none⟩ = some (.int .i64 a.st.rate) := HA7.out.cell 3 _ rfl
    have e4 : w7.cell? ⟨A, 4, none⟩ = some (.int .i64 a.st.day) := HA7.out.cell 4 _ rfl
    have e5 : w7.cell? ⟨A, 5, none⟩ = some (.int .i64 a.st.spare) := HA7.out.cell 5 _ rfl
    have e6 : w7.cell? ⟨A, 6, none⟩ = some (.int .i64 a.st.count) := HA7.out.cell 6 _ rfl
    have e7 : w7.cell? ⟨A, 7, none⟩ = some (.int .i64 a.size) := HA7.out.cell 7 _ rfl
    have e8 : w7.cell? ⟨A, 8, none⟩ = some (.int .i64 a.log) := HA7.out.cell 8 _ rfl
    have e9 : w7.cell? ⟨A, 9, none⟩ = some (.int .i64 a.p0) := HA7.out.cell 9 _ rfl
    have e10 : w7.cell? ⟨A, 10, none⟩ = some (.int .i64 a.p1) := HA7.out.cell 10 _ rfl
    have e11 : w7.cell? ⟨A, 11, none⟩ = some (.int .i64 a.p2) := HA7.out.cell 11 _ rfl
    have e12 : w7.cell? ⟨A, 12, none⟩ = some (.int .i64 a.p3) := HA7.out.cell 12 _ rfl
    have e13 : w7.cell? ⟨A, 13, none⟩ = some (.int .i64 a.p4) := HA7.out.cell 13 _ rfl
    have e14 : w7.cell? ⟨A, 14, none⟩ = some (.int .i64 a.p5) := HA7.out.cell 14 _ rfl
    have d0 : w7.cell? ⟨L, 3, none⟩ = some (.int .i64 a0.loan) := HB7.out.cell 3 _ rfl
    have d1 : w7.cell? ⟨L, 4, none⟩ = some (.int .i64 a0.st.principal) := HB7.out.cell 4 _ rfl
    have d2 : w7.cell? ⟨L, 5, none⟩ = some (.int .i64 a0.st.due) := HB7.out.cell 5 _ rfl
    have d3 : w7.cell? ⟨L, 6, none⟩ = some (.int .i64 a0.st.rate) := HB7.out.cell 6 _ rfl
    have d4 : w7.cell? ⟨L, 7, none⟩ = some (.int .i64 a0.st.day) := HB7.out.cell 7 _ rfl
    have d5 : w7.cell? ⟨L, 8, none⟩ = some (.int .i64 a0.st.spare) := HB7.out.cell 8 _ rfl
    have d6 : w7.cell? ⟨L, 9, none⟩ = some (.int .i64 a0.st.count) := HB7.out.cell 9 _ rfl
    have d7 : w7.cell? ⟨L, 10, none⟩ = some (.int .i64 a0.size) := HB7.out.cell 10 _ rfl
    have d8 : w7.cell? ⟨L, 11, none⟩ = some (.int .i64 a0.log) := HB7.out.cell 11 _ rfl
    have d9 : w7.cell? ⟨L, 12, none⟩ = some (.int .i64 a0.p0) := HB7.out.cell 12 _ rfl
    have d10 : w7.cell? ⟨L, 13, none⟩ = some (.int .i64 a0.p1) := HB7.out.cell 13 _ rfl
    have d11 : w7.cell? ⟨L, 14, none⟩ = some (.int .i64 a0.p2) := HB7.out.cell 14 _ rfl
    have d12 : w7.cell? ⟨L, 15, none⟩ = some (.int .i64 a0.p3) := HB7.out.cell 15 _ rfl
    have d13 : w7.cell? ⟨L, 16, none⟩ = some (.int .i64 a0.p4) := HB7.out.cell 16 _ rfl
    have d14 : w7.cell? ⟨L, 17, none⟩ = some (.int .i64 a0.p5) := HB7.out.cell 17 _ rfl
    have g2 := HB7.out.free 2
    have g3 := HB7.out.free 3
    have g4 := HB7.out.free 4
    have g5 := HB7.out.free 5
    have g6 := HB7.out.free 6
    have g7 := HB7.out.free 7
    have g8 := HB7.out.free 8
    have g9 := HB7.out.free 9
    have g10 := HB7.out.free 10
    have g11 := HB7.out.free 11
    have g12 := HB7.out.free 12
    have g13 := HB7.out.free 13
    have g14 := HB7.out.free 14
    have g15 := HB7.out.free 15
    have g16 := HB7.out.free 16
    have g17 := HB7.out.free 17
    have g18 := HB7.out.free 18
    have g19 := HB7.out.free 19
    go_upto_region 11 with fail
    generalize hw8 : World.setCell (World.setCell _ _ _) ⟨L, 19, none⟩ (.string Y) = w8
    have HO8 : Hid (∀ k, k ≠ L → w8.heap[k]? = w7.heap[k]?) := by rw [← hw8]; exact putSh_other w7 L a X Y
    have HB8 : Hid (ShB w8 L (.pointer (some bd)) (.pointer (some rd)) true a X Y) := by rw [← hw8]; exact HB7.out.all a X Y
    have H78 : Hid (Below 0 w7 w8) := by rw [← hw8]; exact putSh_below (Below.refl _ _) (Nat.zero_le _)
    have HW8 : Hid (Below w0.heap.size w0 w8) := by rw [← hw8]; exact putSh_below (HW0.out.trans (hkw7.mono HW0.out.size)) HL0.out
    have HA8 : Hid (BlkA w8 A a) := by
      show BlkA _ _ _
      unfold BlkA
      rw [HO8.out A hne1]
      exact HA7.out
    clear e0 d0 e1 d1 e2 d2 e3 d3 e4 d4 e5 d5 e6 d6 e7 d7 e8 d8 e9 d9 e10 d10 e11 d11 e12 d12 e13 d13 e14 d14 g2 g3 g4 g5 g6 g7 g8 g9 g10 g11 g12 g13 g14 g15 g16 g17 g18 g19 c2 c18 c19 l1 l2
    clear hw8 HB7 HA7
    have HFF := hid (lie_top es a HG.out HCL.out).1
    have HTX : Hid (∀ wz, Below w8.heap.size w8 wz → Calls Tryz.prog 58 #[accV a] wz fun r w' => ∃ u, r = .returned u ∧ OwnS w' wz.heap.size u ((accTs a).map bs) ∧ Below wz.heap.size wz w') := fun wz hz => racctx_any a wz HFF.out H64.out ((HT0.out.kept HW8.out).kept hz)
    have HR8 : Hid (RRep w8 R (.pointer (some rd)) es) := HRR.out.stay fun k hk => by rw [HO8.out k (fun e => HRL.out (by rw [← e]; exact hk)), hkw7.block k (HRR.out.lt k hk)]
    have HBT : Hid (∀ wz, Below w8.heap.size w8 wz → Calls Tryz.prog 59 #[.pointer (some rd)] wz fun r w' => ∃ u, r = .returned u ∧ OwnS w' wz.heap.size u (bookL es) ∧ Below wz.heap.size wz w') := fun wz hz => rtexts_any wz R rd es (HR8.out.stay fun k hk => hz.block k (HR8.out.lt k hk)) ((HT0.out.kept HW8.out).kept hz)
    have HAW : Hid (∀ wz B B' uA uB, OwnS wz B uA ((accTs a).map bs) → OwnS wz B' uB (bookL es) → Calls Tryz.prog 57 #[.string X, .string Y, uA, uB] wz fun r w' => r = .returned (.bool true) ∧ Below wz.heap.size wz w') := fun wz B B' uA uB h1 h2 => by
      obtain ⟨aA, cA, rfl, _, _, hSA⟩ := h1.form
      obtain ⟨aB, cB, rfl, _, _, hSB⟩ := h2.form
      have hxa := HLO.out.acc es a HG.out H64.out HCL.out
      have hyb := HLO.out.book es a HG.out H64.out HCL.out
      have hlen := length_bookL es
      rw [← HX.out, ← HY.out]
      refine away_any _ _ aA aB ((accTs a).map bs) (bookL es) cA cB _ _ wz rfl rfl hSA hSB ?_ (by omega) (List.mem_map.2 ⟨_, hxa, rfl⟩) (mem_bookL es _ hyb) ?_ ?_ ?_ ?_
      · rw [List.length_map]
        show 8 ≤ 1000000
        omega
      · have := length_accTs a H64.out _ hxa
        rw [size_bs]; omega
      · have := length_BookT es _ HG.out hyb
        rw [size_bs]; omega
      · exact fun h => HLO.out.ne es a HG.out H64.out HCL.out (bs_inj h)
      · rw [toList_bs, toList_bs]; exact HLO.out.eq es a HG.out H64.out HCL.out
    unfold accV at HTX
    have l1 : L < w8.heap.size := HB8.out.lt
    have l2 : A < w8.heap.size := lt_of_block HA8.out
    have c1 : w8.cell? ⟨L, 1, none⟩ = some (.pointer (some rd)) := HB8.out.cell 1 _ rfl
    have e0 : w8.cell? ⟨A, 0, none⟩ = some (.int .i64 a.loan) := HA8.out.cell 0 _ rfl
    have e1 : w8.cell? ⟨A, 1, none⟩ = some (.int .i64 a.st.principal) := HA8.out.cell 1 _ rfl
    have e2 : w8.cell? ⟨A, 2, none⟩ = some (.int .i64 a.st.due) := HA8.out.cell 2 _ rfl
    have e3 : w8.cell? ⟨A, 3, none⟩ = some (.int .i64 a.st.rate) := HA8.out.cell 3 _ rfl
    have e4 : w8.cell? ⟨A, 4, none⟩ = some (.int .i64 a.st.day) := HA8.out.cell 4 _ rfl
    have e5 : w8.cell? ⟨A, 5, none⟩ = some (.int .i64 a.st.spare) := HA8.out.cell 5 _ rfl
    have e6 : w8.cell? ⟨A, 6, none⟩ = some (.int .i64 a.st.count) := HA8.out.cell 6 _ rfl
    have e7 : w8.cell? ⟨A, 7, none⟩ = some (.int .i64 a.size) := HA8.out.cell 7 _ rfl
    have e8 : w8.cell? ⟨A, 8, none⟩ = some (.int .i64 a.log) := HA8.out.cell 8 _ rfl
    have e9 : w8.cell? ⟨A, 9, none⟩ = some (.int .i64 a.p0) := HA8.out.cell 9 _ rfl
    have e10 : w8.cell? ⟨A, 10, none⟩ = some (.int .i64 a.p1) := HA8.out.cell 10 _ rfl
    have e11 : w8.cell? ⟨A, 11, none⟩ = some (.int .i64 a.p2) := HA8.out.cell 11 _ rfl
    have e12 : w8.cell? ⟨A, 12, none⟩ = some (.int .i64 a.p3) := HA8.out.cell 12 _ rfl
    have e13 : w8.cell? ⟨A, 13, none⟩ = some (.int .i64 a.p4) := HA8.out.cell 13 _ rfl
    have e14 : w8.cell? ⟨A, 14, none⟩ = some (.int .i64 a.p5) := HA8.out.cell 14 _ rfl
    have HVV := hid HVA.out
    rw [← HVV.out]
    go_region_held3 (fun w' => w'.cell? ⟨L, 1, none⟩ = some (.pointer (some rd)) ∧ w'.cell? ⟨A, 0, none⟩ = some (.int .i64 a.loan) ∧ w'.cell? ⟨A, 1, none⟩ = some (.int .i64 a.st.principal) ∧ w'.cell? ⟨A, 2, none⟩ = some (.int .i64 a.st.due) ∧ w'.cell? ⟨A, 3, none⟩ = some (.int .i64 a.st.rate) ∧ w'.cell? ⟨A, 4, none⟩ = some (.int .i64 a.st.day) ∧ w'.cell? ⟨A, 5, none⟩ = some (.int .i64 a.st.spare) ∧ w'.cell? ⟨A, 6, none⟩ = some (.int .i64 a.st.count) ∧ w'.cell? ⟨A, 7, none⟩ = some (.int .i64 a.size) ∧ w'.cell? ⟨A, 8, none⟩ = some (.int .i64 a.log) ∧ w'.cell? ⟨A, 9, none⟩ = some (.int .i64 a.p0) ∧ w'.cell? ⟨A, 10, none⟩ = some (.int .i64 a.p1) ∧ w'.cell? ⟨A, 11, none⟩ = some (.int .i64 a.p2) ∧ w'.cell? ⟨A, 12, none⟩ = some (.int .i64 a.p3) ∧ w'.cell? ⟨A, 13, none⟩ = some (.int .i64 a.p4) ∧ w'.cell? ⟨A, 14, none⟩ = some (.int .i64 a.p5)) ((go_split_ands; refine ⟨?_, ?_, ?_, ?_, ?_, ?_, ?_, ?_, ?_, ?_, ?_, ?_, ?_, ?_, ?_, ?_⟩ <;> first | (with_reducible exact drew_cellS (by assumption)) | exact cell_kept (by assumption) hb5)) (first | (go_at_call 58; refine (HTX.out _ (by first | exact hk5 | exact (Below.refl _ _).drew)).mono ?_; rintro ee w5 ⟨uA, rfl, hOA, hb5⟩; have hk5 : Below w8.heap.size w8 w5 := (by first | exact kept hk5 hb5 | exact kept ((Below.refl _ _).drew) hb5); (first | (have hOB := OwnS.kept hOB hb5) | skip)) | (go_at_call 59; refine (HBT.out _ (by first | exact hk5 | exact (Below.refl _ _).drew)).mono ?_; rintro ee w5 ⟨uB, rfl, hOB, hb5⟩; have hk5 : Below w8.heap.size w8 w5 := (by first | exact kept hk5 hb5 | exact kept ((Below.refl _ _).drew) hb5); (first | (have hOA := OwnS.kept hOA hb5) | skip)) | (go_at_call 57; refine (HAW.out _ _ _ _ _ hOA hOB).mono ?_; rintro ee w5 ⟨rfl, hb5⟩; have hk5 : Below w8.heap.size w8 w5 := (by first | exact kept hk5 hb5 | exact kept ((Below.refl _ _).drew) hb5); skip))
    all_goals go_wp2_with fail
    all_goals go_ret
    all_goals exact ⟨rfl, ⟨true, a, X, Y, HB8.out.kept hk5, fun _ => ⟨HX.out.symm, HY.out.symm⟩⟩, ⟨by rw [hk5.os, H78.out.os, hkw7.os], by rw [hk5.tape, H78.out.tape, hkw7.tape], by rw [hk5.output, H78.out.output, hkw7.output], Nat.le_trans hkw7.size (Nat.le_trans H78.out.size hk5.size), fun k hk hn => by rw [hk5.block k (Nat.lt_of_lt_of_le (Nat.lt_of_lt_of_le hk hkw7.size) H78.out.size), HO8.out k hn, hkw7.block k hk]⟩⟩

end Go.Proofs.YtedblhcehlbbmaaGreatDoor

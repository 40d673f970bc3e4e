import Derived.Test.YtedblhcehlbbmaaGreatDoorJWalkRefTexts
import Derived.Test.YtedblhcehlbbmaaGreatDoorEqAcc
import Derived.WalkKit
import Derived.WalkSpells
import Derived.WalkLawsBesides
import Derived.Deep.RegionHeld3
import Derived.Deep.QuietTactic
import Derived.BigQuiet
import Derived.Deep.Cut
import Derived.Deep.CutRange
import Derived.Deep.CutBlock
/-
  THE SCRIPT's SHELF: shelf.lie, where there is nothing to give away.
-/
namespace Go.Proofs.YtedblhcehlbbmaaGreatDoor
set_option maxRecDepth 20000
open Go.RowKit

attribute [local go_sem ↓] run_eql_acc
theorem drew_cellS {w : World} {p : Addr} {v : Value} (h : w.cell? p = some v) : w.drew.cell? p = some v := h

set_option maxRecDepth 20000 in
set_option maxHeartbeats 8000000 in
theorem lieLaw_calm (w : World) (S R : Nat → Prop) (L : Nat) (bd rd : Addr) (es : List Ev) (q : Bool) (a0 : Acc) (x0 y0 : ByteArray) (a : Acc)
    (hc : calmB es a = true) (hB : ShB w L (.pointer (some bd)) (.pointer (some rd)) q a0 x0 y0) (hb : Rep w S (.pointer (some bd)) es) (hr : RRep w R (.pointer (some rd)) es) (hq : AskOk es q a0 x0 y0) (h64 : Acc64 a) (w0 : World) (ht0 : TabOk w0) (hb0 : Below w0.heap.size w0 w) (hL0 : w0.heap.size ≤ L) :
    Calls Tryz.prog 29 #[.pointer (some ⟨L, 0, none⟩), accV a] w fun r w' => r = .returned (.bool true) ∧ (∃ q' a' x' y', ShB w' L (.pointer (some bd)) (.pointer (some rd)) q' a' x' y' ∧ AskOk es q' a' x' y') ∧ Besides (fun k => k = L) w w' := by
  have ht : TabOk w := ht0.kept hb0
  have HLI : Hid (∀ wz, Below w.heap.size w wz → Calls Tryz.prog 54 #[.pointer (some bd), accV a] wz fun r w' => r = .returned (.tuple #[.string (if calmB es a = true then ⟨#[]⟩ else bs (lx es a)), .string (if calmB es a = true then ⟨#[]⟩ else bs (ly es a)), .int .i64 (if calmB es a = true then 3 else 0)]) ∧ Below wz.heap.size wz w') := fun wz hz => lie_any wz S _ es a (hb.stay fun k hk => hz.block k (hb.lt k hk)) h64 (ht.kept hz)
  have HCA : Hid (∀ wz, Below w.heap.size w wz → Calls Tryz.prog 55 #[.pointer (some rd), accV a] wz fun r w' => r = .returned (.bool (calmB es a)) ∧ Below wz.heap.size wz w') := fun wz hz => rcalm_any wz R rd es a (hr.stay fun k hk => hz.block k (hr.lt k hk)) h64 (ht.kept hz)
  have HB0 := hid hB
  have HQ := hid hq
  have HT0 := hid ht0
  have HW0 := hid hb0
  have HL0 : Hid (w0.heap.size ≤ L) := hL0
  clear ht0 hb0 hL0
  obtain ⟨A, hA⟩ : ∃ A, A = w.heap.size := ⟨_, rfl⟩
  rw [hc] at HLI HCA
  simp only [if_true] at HLI
  unfold accV at *
  clear hb hr hq h64 ht hB
  go_enter Tryz.func29, Tryz.ntmps29
  go_upto_region 1 with fail
  rw [← hA]
  have HA1 : Hid (BlkA (w.alloc (.cells (accC a) 36)) A a) := by show BlkA _ _ _; rw [hA]; exact BlkA.new w a
  have HB1 := hid (HB0.out.kept ((Below.refl _ _).alloc (Nat.le_refl _) (.cells (accC a) 36)))
  have hk1 : Below w.heap.size w (w.alloc (.cells (accC a) 36)) := (Below.refl _ _).alloc (Nat.le_refl _) _
  unfold accC at HA1 HB1 hk1
  generalize World.alloc w _ = w1 at *
  have HAW : Hid (w.heap.size ≤ A) := by show _ ≤ _; rw [hA]; exact Nat.le_refl _
  have HLA : Hid (L < A) := by show _ < _; rw [hA]; exact HB0.out.lt
  clear hA
  have l1 : L < w1.heap.size := HB1.out.lt
  have l2 : A < w1.heap.size := lt_of_block HA1.out
  have c0 : w1.cell? ⟨L, 0, none⟩ = some (.pointer (some bd)) := HB1.out.cell 0 _ rfl
  have e0 : w1.cell? ⟨A, 0, none⟩ = some (.int .i64 a.loan) := HA1.out.cell 0 _ rfl
  have e1 : w1.cell? ⟨A, 1, none⟩ = some (.int .i64 a.st.principal) := HA1.out.cell 1 _ rfl
  have e2 : w1.cell? ⟨A, 2, none⟩ = some (.int .i64 a.st.due) := HA1.out.cell 2 _ rfl
  have e3 : w1.cell? ⟨A, 3, none⟩ = some (.int .i64 a.st.rate) := HA1.out.cell 3 _ rfl
  have e4 : w1.cell? ⟨A, 4, none⟩ = some (.int .i64 a.st.day) := HA1.out.cell 4 _ rfl
  have e5 : w1.cell? ⟨A, 5, none⟩ = some (.int .i64 a.st.spare) := HA1.out.cell 5 _ rfl
  have e6 : w1.cell? ⟨A, 6, none⟩ = some (.int .i64 a.st.count) := HA1.out.cell 6 _ rfl
  have e7 : w1.cell? ⟨A, 7, none⟩ = some (.int .i64 a.size) := HA1.out.cell 7 _ rfl
  have e8 : w1.cell? ⟨A, 8, none⟩ = some (.int .i64 a.log) := HA1.out.cell 8 _ rfl
  have e9 : w1.cell? ⟨A, 9, none⟩ = some (.int .i64 a.p0) := HA1.out.cell 9 _ rfl
  have e10 : w1.cell? ⟨A, 10, none⟩ = some (.int .i64 a.p1) := HA1.out.cell 10 _ rfl
  have e11 : w1.cell? ⟨A, 11, none⟩ = some (.int .i64 a.p2) := HA1.out.cell 11 _ rfl
  have e12 : w1.cell? ⟨A, 12, none⟩ = some (.int .i64 a.p3) := HA1.out.cell 12 _ rfl
  have e13 : w1.cell? ⟨A, 13, none⟩ = some (.int .i64 a.p4) := HA1.out.cell 13 _ rfl
  have e14 : w1.cell? ⟨A, 14, none⟩ = some (.int .i64 a.p5) := HA1.out.cell 14 _ rfl
  go_region_held3 (fun w' => w'.cell? ⟨L, 0, none⟩ = some (.pointer (some bd)) ∧ w'.cell? ⟨A, 0, none⟩ = some (.int .i64 a.loan) ∧ w'.cell? ⟨A, 1, none⟩ = some (.int .i64 a.st.principal) ∧ w'.cell? ⟨A, 2, none⟩ = some (.int .i64 a.st.due) ∧ w'.cell? ⟨A, 3, none⟩ = some (.int .i64 a.st.rate) ∧ w'.cell? ⟨A, 4, none⟩ = some (.int .i64 a.st.day) ∧ w'.cell? ⟨A, 5, none⟩ = some (.int .i64 a.st.spare) ∧ w'.cell? ⟨A, 6, none⟩ = some (.int .i64 a.st.count) ∧ w'.cell? ⟨A, 7, none⟩ = some (.int .i64 a.size) ∧ w'.cell? ⟨A, 8, none⟩ = some (.int .i64 a.log) ∧ w'.cell? ⟨A, 9, none⟩ = some (.int .i64 a.p0) ∧ w'.cell? ⟨A, 10, none⟩ = some (.int .i64 a.p1) ∧ w'.cell? ⟨A, 11, none⟩ = some (.int .i64 a.p2) ∧ w'.cell? ⟨A, 12, none⟩ = some (.int .i64 a.p3) ∧ w'.cell? ⟨A, 13, none⟩ = some (.int .i64 a.p4) ∧ w'.cell? ⟨A, 14, none⟩ = some (.int .i64 a.p5)) ((go_split_ands; refine ⟨?_, ?_, ?_, ?_, ?_, ?_, ?_, ?_, ?_, ?_, ?_, ?_, ?_, ?_, ?_, ?_⟩ <;> first | (with_reducible exact drew_cellS (by assumption)) | exact cell_kept (by assumption) hb5)) (first | (go_at_call 54; refine (HLI.out _ (by exact hk1.drew)).mono ?_; rintro ee w5 ⟨rfl, hb5⟩))
  have hk5 : Below w1.heap.size w1 w5 := kept ((Below.refl _ _).drew) hb5
  have hkw5 := kept hk1 hk5
  have HA5 := hid (HA1.out.kept hk5)
  have HB5 := hid (HB1.out.kept hk5)
  clear l1 l2 c0 hb5 HB1 HA1 hk5
  clear e0 e1 e2 e3 e4 e5 e6 e7 e8 e9 e10 e11 e12 e13 e14
  have l1 : L < w5.heap.size := HB5.out.lt
  have l2 : A < w5.heap.size := lt_of_block HA5.out
  have c0 : w5.cell? ⟨L, 1, none⟩ = some (.pointer (some rd)) := HB5.out.cell 1 _ rfl
  have e0 : w5.cell? ⟨A, 0, none⟩ = some (.int .i64 a.loan) := HA5.out.cell 0 _ rfl
  have e1 : w5.cell? ⟨A, 1, none⟩ = some (.int .i64 a.st.principal) := HA5.out.cell 1 _ rfl
  have e2 : w5.cell? ⟨A, 2, none⟩ = some (.int .i64 a.st.due) := HA5.out.cell 2 _ rfl
  have e3 : w5.cell? ⟨A, 3, none⟩ = some (.int .i64 a.st.rate) := HA5.out.cell 3 _ rfl
  have e4 : w5.cell? ⟨A, 4, none⟩ = some (.int .i64 a.st.day) := HA5.out.cell 4 _ rfl
  have e5 : w5.cell? ⟨A, 5, none⟩ = some (.int .i64 a.st.spare) := HA5.out.cell 5 _ rfl
  have e6 : w5.cell? ⟨A, 6, none⟩ = some (.int .i64 a.st.count) := HA5.out.cell 6 _ rfl
  have e7 : w5.cell? ⟨A, 7, none⟩ = some (.int .i64 a.size) := HA5.out.cell 7 _ rfl
  have e8 : w5.cell? ⟨A, 8, none⟩ = some (.int .i64 a.log) := HA5.out.cell 8 _ rfl
  have e9 : w5.cell? ⟨A, 9, none⟩ = some (.int .i64 a.p0) := HA5.out.cell 9 _ rfl
  have e10 : w5.cell? ⟨A, 10, none⟩ = some (.int .i64 a.p1) := HA5.out.cell 10 _ rfl
  have e11 : w5.cell? ⟨A, 11, none⟩ = some (.int .i64 a.p2) := HA5.out.cell 11 _ rfl
  have e12 : w5.cell? ⟨A, 12, none⟩ = some (.int .i64 a.p3) := HA5.out.cell 12 _ rfl
  have e13 : w5.cell? ⟨A, 13, none⟩ = some (.int .i64 a.p4) := HA5.out.cell 13 _ rfl
  have e14 : w5.cell? ⟨A, 14, none⟩ = some (.int .i64 a.p5) := HA5.out.cell 14 _ rfl
  obtain ⟨w2, hw2⟩ : ∃ w2, w2 = w5 := ⟨_, rfl⟩
  rw [← hw2] at l1 l2 c0 HA5 HB5 hkw5 ⊢
  rw [← hw2] at e0
  rw [← hw2] at e1
  rw [← hw2] at e2
  rw [← hw2] at e3
  rw [← hw2] at e4
  rw [← hw2] at e5
  rw [← hw2] at e6
  rw [← hw2] at e7
  rw [← hw2] at e8
  rw [← hw2] at e9
  rw [← hw2] at e10
  rw [← hw2] at e11
  rw [← hw2] at e12
  rw [← hw2] at e13
  rw [← hw2] at e14
  clear hw2
  go_wp2_with fail
  go_region_held3 (fun w' => w'.cell? ⟨L, 1, none⟩ = some (.pointer (some rd)) ∧ w'.cell? ⟨A, 0, none⟩ = some (.int .i64 a.loan) ∧ w'.cell? ⟨A, 1, none⟩ = some (.int .i64 a.st.principal) ∧ w'.cell? ⟨A, 2, none⟩ = some (.int .i64 a.st.due) ∧ w'.cell? ⟨A, 3, none⟩ = some (.int .i64 a.st.rate) ∧ w'.cell? ⟨A, 4, none⟩ = some (.int .i64 a.st.day) ∧ w'.cell? ⟨A, 5, none⟩ = some (.int .i64 a.st.spare) ∧ w'.cell? ⟨A, 6, none⟩ = some (.int .i64 a.st.count) ∧ w'.cell? ⟨A, 7, none⟩ = some (.int .i64 a.size) ∧ w'.cell? ⟨A, 8, none⟩ = some (.int .i64 a.log) ∧ w'.cell? ⟨A, 9, none⟩ = some (.int .i64 a.p0) ∧ w'.cell? ⟨A, 10, none⟩ = some (.int .i64 a.p1) ∧ w'.cell? ⟨A, 11, none⟩ = some (.int .i64 a.p2) ∧ w'.cell? ⟨A, 12, none⟩ = some (.int .i64 a.p3) ∧ w'.cell? ⟨A, 13, none⟩ = some (.int .i64 a.p4) ∧ w'.cell? ⟨A, 14, none⟩ = some (.int .i64 a.p5)) ((go_split_ands; refine ⟨?_, ?_, ?_, ?_, ?_, ?_, ?_, ?_, ?_, ?_, ?_, ?_, ?_, ?_, ?_, ?_⟩ <;> first | (with_reducible exact drew_cellS (by assumption)) | exact cell_kept (by assumption) hb5)) (first | (go_at_call 55; refine (HCA.out _ (by exact hkw5.drew)).mono ?_; rintro ee w5 ⟨rfl, hb5⟩))
  have hk6 : Below w2.heap.size w2 w5 := kept ((Below.refl _ _).drew) hb5
  have hkw6 := kept hkw5 hk6
  have HA6 := hid (HA5.out.kept hk6)
  have HB6 := hid (HB5.out.kept hk6)
  clear l1 l2 c0 hb5 HB5 HA5 hk6 hkw5
  clear e0 e1 e2 e3 e4 e5 e6 e7 e8 e9 e10 e11 e12 e13 e14
  go_wp2_with fail
  refine (none_calm _).mono ?_
  rintro ee w7 ⟨rfl, rfl⟩
  go_wp2_with fail
  go_ret
  exact ⟨rfl, ⟨q, a0, x0, y0, HB6.out, HQ.out⟩, Besides.of_below hkw6⟩


end Go.Proofs.YtedblhcehlbbmaaGreatDoor

/-
  CONTRACTS: accounts.Shows; lender.Accepts.
-/
import Derived.Test.YtedblhcehlbbmabDoorWalkMay
import Derived.Test.YtedblhcehlbbmabDoorWalkAccTx
import Derived.WalkKit
import Derived.WalkSpells
import Derived.WalkLawsBesides
import Derived.Laws.IdiomStrings
namespace Go.Proofs.YtedblhcehlbbmabDoor
open Go.RowKit

set_option maxRecDepth 20000 in
set_option maxHeartbeats 2000000 in
theorem shows_any (a : Acc) (w : World) (hf : FitsA a) (h64 : Acc64 a) (ht : TabOk w) :
    Calls Tryd.prog 29 #[accV a] w fun e w' => e = .returned (.int .i64 (accTop a)) ∧ Below w.heap.size w w' := by
  have HTX : Hid (∀ wz, Below w.heap.size w wz → Calls Tryd.prog 46 #[accV a] wz fun e w' => e = .returned (txV a) ∧ Below wz.heap.size wz w') := fun wz hz => textsA_any a wz hf h64 (ht.kept hz)
  have HS : Hid (∀ wz, Calls Tryd.prog 26 #[.string (txF a 7)] wz fun e w2 => e = .returned (.int .i64 (accTop a)) ∧ w2 = wz) := fun wz => by
    have := sum_any (bs (headT a.size a.log (accX a 6))) wz (by rw [size_bs, length_headT]; decide)
    rw [toList_bs] at this
    exact this
  unfold txV txC at HTX
  generalize txF a = x at HTX HS
  generalize accTop a = tp at *
  unfold accV at *
  clear hf h64 ht
  go_enter Tryd.func29, Tryd.ntmps29
  go_wp2_with fail
  refine (HTX.out _ ((Below.refl _ _).alloc (Nat.le_refl _) _)).mono ?_
  rintro e w1 ⟨rfl, hb1⟩
  have hk1 : Below w.heap.size w w1 := kept ((Below.refl _ _).alloc (Nat.le_refl _) _) hb1
  clear hb1
  go_wp2_with fail
  refine (HS.out _).mono ?_
  rintro e w2 ⟨rfl, rfl⟩
  go_wp2_with fail
  go_ret
  exact ⟨rfl, hk1.alloc hk1.size _⟩

set_option maxRecDepth 20000 in
set_option maxHeartbeats 2000000 in
theorem accepts_any (top : Int) (a : Acc) (w : World) (h64 : Acc64 a) (ht : TabOk w) :
    Calls Tryd.prog 10 #[.int .i64 top, accV a] w fun e w' => e = .returned (.bool (accB top a)) ∧ Below w.heap.size w w' := by
  have HM := hid (fun wz => mayBeA_any a wz)
  obtain ⟨L, hL⟩ : ∃ L, L = w.heap.size := ⟨_, rfl⟩
  cases hf : fitsB a
  · have HV : Hid (accB top a = false) := by show _ = _; unfold accB; rw [hf, Bool.false_and]
    rw [hf] at HM
    unfold accV at *
    clear hf hL h64 ht
    go_enter Tryd.func10, Tryd.ntmps10
    go_wp2_with fail
    refine (HM.out _).mono ?_
    rintro e w1 ⟨rfl, hb1⟩
    go_wp2_with fail
    go_ret
    exact ⟨by rw [HV.out]; rfl, kept ((Below.refl _ _).alloc (Nat.le_refl _) _) hb1⟩
  · have HV : Hid (accB top a = decide (accTop a = top)) := by show _ = _; unfold accB; rw [hf, Bool.true_and]
    have HSH : Hid (∀ wz, Below w.heap.size w wz → Calls Tryd.prog 29 #[accV a] wz fun e w' => e = .returned (.int .i64 (accTop a)) ∧ Below wz.heap.size wz w') := fun wz hz => shows_any a wz (fitsB_true hf) h64 (ht.kept hz)
    rw [hf] at HM
    generalize accTop a = tp at *
    unfold accV at *
    clear hf h64 ht
    go_enter Tryd.func10, Tryd.ntmps10
    go_wp2_with fail
    refine (HM.out _).mono ?_
    rintro e w1 ⟨rfl, hb1⟩
    rw [← hL]
    have HBA : Hid (BlkA w1 L a) := by show BlkA _ _ _; rw [hL]; exact BlkA.kept (BlkA.new w a) hb1
    have hk1 : Below w.heap.size w w1 := kept ((Below.refl _ _).alloc (Nat.le_refl _) _) hb1
    clear hb1 hL
    have x0 : w1.cell? ⟨L, 0, none⟩ = some (.int .i64 a.loan) := HBA.out.cell 0 _ rfl
    have x1 : w1.cell? ⟨L, 1, none⟩ = some (.int .i64 a.st.principal) := HBA.out.cell 1 _ rfl
    have x2 : w1.cell? ⟨L, 2, none⟩ = some (.int .i64 a.st.due) := HBA.out.cell 2 _ rfl
    have x3 : w1.cell? ⟨L, 3, none⟩ = some (.int .i64 a.st.rate) := HBA.out.cell 3 _ rfl
    have x4 : w1.cell? ⟨L, 4, none⟩ = some (.int .i64 a.st.day) := HBA.out.cell 4 _ rfl
    have x5 : w1.cell? ⟨L, 5, none⟩ = some (.int .i64 a.st.spare) := HBA.out.cell 5 _ rfl
    have x6 : w1.cell? ⟨L, 6, none⟩ = some (.int .i64 a.st.count) := HBA.out.cell 6 _ rfl
    have x7 : w1.cell? ⟨L, 7, none⟩ = some (.int .i64 a.size) := HBA.out.cell 7 _ rfl
    have x8 : w1.cell? ⟨L, 8, none⟩ = some (.int .i64 a.log) := HBA.out.cell 8 _ rfl
    have x9 : w1.cell? ⟨L, 9, none⟩ = some (.int .i64 a.p0) := HBA.out.cell 9 _ rfl
    have x10 : w1.cell? ⟨L, 10, none⟩ = some (.int .i64 a.p1) := HBA.out.cell 10 _ rfl
    have x11 : w1.cell? ⟨L, 11, none⟩ = some (.int .i64 a.p2) := HBA.out.cell 11 _ rfl
    have x12 : w1.cell? ⟨L, 12, none⟩ = some (.int .i64 a.p3) := HBA.out.cell 12 _ rfl
    have x13 : w1.cell? ⟨L, 13, none⟩ = some (.int .i64 a.p4) := HBA.out.cell 13 _ rfl
    have x14 : w1.cell? ⟨L, 14, none⟩ = some (.int .i64 a.p5) := HBA.out.cell 14 _ rfl
    go_wp2_with fail
    refine (HSH.out _ hk1).mono ?_
    rintro e w2 ⟨rfl, hb2⟩
    go_wp2_with fail
    go_ret
    exact ⟨by rw [HV.out]; rfl, kept hk1 hb2⟩

end Go.Proofs.YtedblhcehlbbmabDoor

/-
  lenderlaw.Accepted, out of what Accepts answers.
-/
import Derived.Test.YtedblhcehlbbmaaDoorWalkRefAccepts
import Derived.WalkKit
import Derived.WalkSpells
import Derived.WalkLawsBesides
namespace Go.Proofs.YtedblhcehlbbmaaDoor
open Go.RowKit

/-- What Accepts answers. -/
def AcceptsSpec : Prop := ∀ (top : Int) (a : Acc) (w : World), In64 top → Acc64 a → TabOk w →
  Calls Tryd.prog 5 #[.int .i64 top, accV a] w fun e w' => e = .returned (.bool (accB top a)) ∧ Below w.heap.size w w'

set_option maxHeartbeats 2000000 in
theorem lawaccepted_any (T : AcceptsSpec) (top : Int) (a : Acc) (w : World) (h1 : In64 top) (h2 : Acc64 a) (ht : TabOk w) :
    Calls Tryd.prog 3 #[.int .i64 top, accV a] w fun e w' => e = .returned (.bool true) ∧ Below w.heap.size w w' := by
  have HA : Hid (∀ w', Below w.heap.size w w' → Calls Tryd.prog 5 #[.int .i64 top, accV a] w' fun e w2 => e = .returned (.bool (accB top a)) ∧ Below w'.heap.size w' w2) := fun w' hb => T top a w' h1 h2 (ht.kept hb)
  have HR : Hid (∀ w', Below w.heap.size w w' → Calls Tryd.prog 6 #[.int .i64 top, accV a] w' fun e w2 => e = .returned (.bool (accB top a)) ∧ Below w'.heap.size w' w2) := fun w' hb => raccepts_any top a w' h2 (ht.kept hb)
  generalize accB top a = b at *
  clear T h1 h2 ht
  obtain ⟨L, hL⟩ : ∃ L, L = w.heap.size := ⟨_, rfl⟩
  unfold accV at *
  go_enter Tryd.func3, Tryd.ntmps3
  go_wp2_with fail
  refine (HA.out _ ((Below.refl _ _).alloc (Nat.le_refl _) _)).mono ?_
  rintro e w1 ⟨rfl, hb1⟩
  rw [← hL]
  have HBA : Hid (BlkA w1 L a) := by show BlkA _ _ _; rw [hL]; exact BlkA.kept (BlkA.new w a) hb1
  have hk1 : Below w.heap.size w w1 := kept ((Below.refl _ _).alloc (Nat.le_refl _) _) hb1
  clear hb1 hL
  have x0 : w1.cell? ⟨L, 0, none⟩ = some (.int .i64 a.loan) := HBA.out.cell 0 _ rfl
  have x1 : w1.cell? ⟨L, 1, none⟩ = some (.int .i64 a.st.principal) := HBA.out.cell 1 _ rfl
  have x2 : w1.cell? ⟨L, 2, none⟩ = some (.int .i64 a.st.due) := HBA.out.cell 2 _ rfl
  have x3 : w1.cell? ⟨L, 3, none⟩ = some (.int .i64 a.st.rate) := HBA.out.cell 3 _ rfl
  have x4 : w1.cell? ⟨L, 4, none⟩ = some (.int .i64 a.st.day) := HBA.out.cell 4 _ rfl
  have x5 : w1.cell? ⟨L, 5, none⟩ = some (.int .i64 a.st.spare) := HBA.out.cell 5 _ rfl
  have x6 : w1.cell? ⟨L, 6, none⟩ = some (.int .i64 a.st.count) := HBA.out.cell 6 _ rfl
  have x7 : w1.cell? ⟨L, 7, none⟩ = some (.int .i64 a.size) := HBA.out.cell 7 _ rfl
  have x8 : w1.cell? ⟨L, 8, none⟩ = some (.int .i64 a.log) := HBA.out.cell 8 _ rfl
  have x9 : w1.cell? ⟨L, 9, none⟩ = some (.int .i64 a.p0) := HBA.out.cell 9 _ rfl
  have x10 : w1.cell? ⟨L, 10, none⟩ = some (.int .i64 a.p1) := HBA.out.cell 10 _ rfl
  have x11 : w1.cell? ⟨L, 11, none⟩ = some (.int .i64 a.p2) := HBA.out.cell 11 _ rfl
  have x12 : w1.cell? ⟨L, 12, none⟩ = some (.int .i64 a.p3) := HBA.out.cell 12 _ rfl
  have x13 : w1.cell? ⟨L, 13, none⟩ = some (.int .i64 a.p4) := HBA.out.cell 13 _ rfl
  have x14 : w1.cell? ⟨L, 14, none⟩ = some (.int .i64 a.p5) := HBA.out.cell 14 _ rfl
  go_wp2_with fail
  refine (HR.out _ hk1).mono ?_
  rintro e w2 ⟨rfl, hb2⟩
  cases b
  · go_wp2_with fail
    go_ret
    exact ⟨rfl, kept hk1 hb2⟩
  · go_wp2_with fail
    go_ret
    exact ⟨rfl, kept hk1 hb2⟩

end Go.Proofs.YtedblhcehlbbmaaDoor

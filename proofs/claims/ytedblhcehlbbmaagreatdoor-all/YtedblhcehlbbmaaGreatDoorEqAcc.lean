import Derived.Test.YtedblhcehlbbmaaGreatDoorJWalkDigits
import Derived.Laws.StructEq
import Derived.WalkKit
import Derived.WalkSpells
/-
  TWO ACCOUNTS HELD AGAINST EACH OTHER: '==' over an array of six numbers.
-/
namespace Go.Proofs.YtedblhcehlbbmaaGreatDoor
set_option maxRecDepth 20000
open Go.RowKit

theorem Tryz.infoInt1 : (Tryz.prog.info? 3).map (·.size) = some 1 := by kernel_rfl
set_option maxHeartbeats 2000000 in
theorem run_equalIn_six (w : World) (d : Nat) (x0 x1 x2 x3 x4 x5 y0 y1 y2 y3 y4 y5 : Int) :
    (Op.equalIn (d + 2) 34 (.agg #[.int .i64 x0, .int .i64 x1, .int .i64 x2, .int .i64 x3, .int .i64 x4, .int .i64 x5]) (.agg #[.int .i64 y0, .int .i64 y1, .int .i64 y2, .int .i64 y3, .int .i64 y4, .int .i64 y5])).run Tryz.prog w
      = .ok (x0 == y0 && (x1 == y1 && (x2 == y2 && (x3 == y3 && (x4 == y4 && x5 == y5))))) w := by
  have hu : Tryz.prog.underlying 34 = some (.array 6 3) := Tryz.underlying34
  have hi : Tryz.prog.underlying 3 = some (.int .i64) := Tryz.underlying3
  rw [Op.equalIn]
  simp only [Sem.run_bind, run_underlying hu, Result.andThen_ok]
  have hp : ∀ (cs : Array Value) (i : Nat) (v : Value) (wz : World), cs[i]? = some v → (Go.part 3 cs i).run Tryz.prog wz = .ok v wz := fun cs i v wz h => by
    simp [Go.part, h]
  have he : ∀ (x y : Int) (wz : World), (Op.equalIn (d + 1) 3 (.int .i64 x) (.int .i64 y)).run Tryz.prog wz = .ok (x == y) wz := fun x y wz => run_equalIn_int wz d 3 .i64 .i64 x y hi
  have q0 : ∀ (x0 x1 x2 x3 x4 x5 : Int) wz, (Go.part 3 #[.int .i64 x0, .int .i64 x1, .int .i64 x2, .int .i64 x3, .int .i64 x4, .int .i64 x5] 0).run Tryz.prog wz = .ok (.int .i64 x0) wz := fun _ _ _ _ _ _ wz => hp _ _ _ wz rfl
  have q1 : ∀ (x0 x1 x2 x3 x4 x5 : Int) wz, (Go.part 3 #[.int .i64 x0, .int .i64 x1, .int .i64 x2, .int .i64 x3, .int .i64 x4, .int .i64 x5] 1).run Tryz.prog wz = .ok (.int .i64 x1) wz := fun _ _ _ _ _ _ wz => hp _ _ _ wz rfl
  have q2 : ∀ (x0 x1 x2 x3 x4 x5 : Int) wz, (Go.part 3 #[.int .i64 x0, .int .i64 x1, .int .i64 x2, .int .i64 x3, .int .i64 x4, .int .i64 x5] 2).run Tryz.prog wz = .ok (.int .i64 x2) wz := fun _ _ _ _ _ _ wz => hp _ _ _ wz rfl
  have q3 : ∀ (x0 x1 x2 x3 x4 x5 : Int) wz, (Go.part 3 #[.int .i64 x0, .int .i64 x1, .int .i64 x2, .int .i64 x3, .int .i64 x4, .int .i64 x5] 3).run Tryz.prog wz = .ok (.int .i64 x3) wz := fun _ _ _ _ _ _ wz => hp _ _ _ wz rfl
  have q4 : ∀ (x0 x1 x2 x3 x4 x5 : Int) wz, (Go.part 3 #[.int .i64 x0, .int .i64 x1, .int .i64 x2, .int .i64 x3, .int .i64 x4, .int .i64 x5] 4).run Tryz.prog wz = .ok (.int .i64 x4) wz := fun _ _ _ _ _ _ wz => hp _ _ _ wz rfl
  have q5 : ∀ (x0 x1 x2 x3 x4 x5 : Int) wz, (Go.part 3 #[.int .i64 x0, .int .i64 x1, .int .i64 x2, .int .i64 x3, .int .i64 x4, .int .i64 x5] 5).run Tryz.prog wz = .ok (.int .i64 x5) wz := fun _ _ _ _ _ _ wz => hp _ _ _ wz rfl
  clear hp
  simp [List.range', q0, q1, q2, q3, q4, q5, he]
  (repeat' split) <;> simp_all

attribute [local go_sem] run_equalIn_six
/-- Are two accounts the same? -/
def accEq (a b : Acc) : Bool := a.loan == b.loan && (a.st.principal == b.st.principal && (a.st.due == b.st.due && (a.st.rate == b.st.rate && (a.st.day == b.st.day && (a.st.spare == b.st.spare && (a.st.count == b.st.count && (a.size == b.size && (a.log == b.log && (a.p0 == b.p0 && (a.p1 == b.p1 && (a.p2 == b.p2 && (a.p3 == b.p3 && (a.p4 == b.p4 && (a.p5 == b.p5))))))))))))))
theorem accEq_self (a : Acc) : accEq a a = true := by unfold accEq; simp
theorem accEq_eq {a b : Acc} (h : accEq a b = true) : a = b := by
  unfold accEq at h
  simp only [Bool.and_eq_true, beq_iff_eq] at h
  obtain ⟨l, s, z, g, p0, p1, p2, p3, p4, p5⟩ := a
  obtain ⟨l', s', z', g', p0', p1', p2', p3', p4', p5'⟩ := b
  obtain ⟨⟩ := s
  obtain ⟨⟩ := s'
  simp only at h
  obtain ⟨rfl, rfl, rfl, rfl, rfl, rfl, rfl, rfl, rfl, rfl, rfl, rfl, rfl, rfl, rfl⟩ := h
  rfl
set_option maxRecDepth 20000 in
set_option maxHeartbeats 4000000 in
theorem run_eql_acc (w : World) (a b : Acc) : (binOp .eql 36 (.agg #[.int .i64 a.loan, .int .i64 a.st.principal, .int .i64 a.st.due, .int .i64 a.st.rate, .int .i64 a.st.day, .int .i64 a.st.spare, .int .i64 a.st.count, .int .i64 a.size, .int .i64 a.log, .int .i64 a.p0, .int .i64 a.p1, .int .i64 a.p2, .int .i64 a.p3, .int .i64 a.p4, .int .i64 a.p5]) (.agg #[.int .i64 b.loan, .int .i64 b.st.principal, .int .i64 b.st.due, .int .i64 b.st.rate, .int .i64 b.st.day, .int .i64 b.st.spare, .int .i64 b.st.count, .int .i64 b.size, .int .i64 b.log, .int .i64 b.p0, .int .i64 b.p1, .int .i64 b.p2, .int .i64 b.p3, .int .i64 b.p4, .int .i64 b.p5])).run Tryz.prog w = .ok (.bool (accEq a b)) w := by
  rw [run_eql_struct]
  go_simp
  cases h : accEq a b
  · unfold accEq at h
    (repeat' split) <;> simp_all
  · obtain rfl := accEq_eq h
    simp

end Go.Proofs.YtedblhcehlbbmaaGreatDoor

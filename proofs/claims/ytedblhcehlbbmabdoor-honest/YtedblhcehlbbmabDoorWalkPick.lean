/-
  CONTRACT: lenderkeep.pick.
-/
import Derived.Test.YtedblhcehlbbmabDoorWalkText
import Derived.WalkKit
import Derived.WalkSpells
import Derived.WalkLawsBesides
namespace Go.Proofs.YtedblhcehlbbmabDoor
open Go.RowKit

theorem int_bounds {n : Int} (h : (Lit.int .i64 n).wf = true) : -9223372036854775808 ≤ n ∧ n ≤ 9223372036854775807 := by
  simp [Lit.wf, IntKind.min, IntKind.max, IntKind.signed, IntKind.bits] at h
  omega
/-- Which of n things a number speaks of. -/
def pickN (c : Int) (n : Nat) : Nat := ((if c < 0 then -(c + 1) else c) % (n : Int)).toNat
theorem pickN_lt (c : Int) (n : Nat) (h : 0 < n) : pickN c n < n := by
  unfold pickN
  have := Int.emod_lt_of_pos (if c < 0 then -(c + 1) else c) (show (0 : Int) < (n : Int) by omega)
  have := Int.emod_nonneg (if c < 0 then -(c + 1) else c) (show (n : Int) ≠ 0 by omega)
  omega

set_option maxHeartbeats 400000 in
theorem pick_any (c : Int) (n : Nat) (w : World) (h : 0 < n) (hn : n ≤ 4611686018427387904) (h0 : -9223372036854775808 ≤ c) (h1 : c ≤ 9223372036854775807) :
    Calls Tryd.prog 7 #[.int .i64 c, .int .i64 (n : Int)] w fun e w' => e = .returned (.int .i64 (pickN c n : Int)) ∧ w' = w := by
  by_cases hc : c < 0
  · have HP : Hid ((pickN c n : Int) = (-(c + 1)) % (n : Int)) := by
      show _ = _
      unfold pickN
      rw [if_pos hc]
      have := Int.emod_nonneg (-(c + 1)) (show (n : Int) ≠ 0 by omega)
      omega
    have e0 : ((n : Int) == 0) = false := by simp; omega
    have e1 : IntKind.i64.wrap (c + 1) = c + 1 := wrap_id _ (by omega) (by omega)
    have e2 : IntKind.i64.wrap (-(c + 1)) = -(c + 1) := wrap_id _ (by omega) (by omega)
    have i1 : (0 : Int) ≤ -(c + 1) := by omega
    go_enter Tryd.func7, Tryd.ntmps7
    go_wp2_with fail
    go_ret
    refine ⟨ret_int ?_, rfl⟩
    rw [HP.out, ← Int.tmod_eq_emod_of_nonneg i1, Int.neg_tmod]
  · have HP : Hid ((pickN c n : Int) = c % (n : Int)) := by
      show _ = _
      unfold pickN
      rw [if_neg hc]
      have := Int.emod_nonneg c (show (n : Int) ≠ 0 by omega)
      omega
    have e0 : ((n : Int) == 0) = false := by simp; omega
    have i1 : (0 : Int) ≤ c := by omega
    go_enter Tryd.func7, Tryd.ntmps7
    go_wp2_with fail
    go_ret
    refine ⟨ret_int ?_, rfl⟩
    rw [HP.out]

end Go.Proofs.YtedblhcehlbbmabDoor

/-
  CONTRACTS: loans.StateText, PairText, HeadText.
-/
import Derived.Test.YtedblhcehlbbmabDoorMathMap
import Derived.WalkKit
import Derived.WalkSpells
import Derived.WalkLawsBesides
import Derived.Laws.IdiomStrings
namespace Go.Proofs.YtedblhcehlbbmabDoor
open Go.RowKit

theorem Ints.sixL (w : World) (s : St) : Ints (w.alloc (.cells #[.int .i64 s.principal, .int .i64 s.due, .int .i64 s.rate, .int .i64 s.day, .int .i64 s.spare, .int .i64 s.count] 3)) (some ⟨w.heap.size, 0, none⟩) (stI s) := by
  refine .inr ⟨w.heap.size, 0, rfl, fun i hi => ?_⟩
  rw [World.cell?_alloc_mark]
  match i, hi with
  | 0, _ => rfl
  | 1, _ => rfl
  | 2, _ => rfl
  | 3, _ => rfl
  | 4, _ => rfl
  | 5, _ => rfl
  | i + 6, hi => exact absurd hi (by simp only [stI, List.length_cons, List.length_nil]; omega)
theorem ints6_any (s : St) (g : Nat) (w : World) (h : St64 s) (ht : TabOk w) (hg : g = w.heap.size) :
    Calls Tryd.prog 53 #[.slice (some ⟨g, 0, none⟩) 6 6] (w.alloc (.cells #[.int .i64 s.principal, .int .i64 s.due, .int .i64 s.rate, .int .i64 s.day, .int .i64 s.spare, .int .i64 s.count] 3)) fun r w2 => r = .returned (.string (bs (numT (stI s)))) ∧ Below w.heap.size w w2 := by
  subst hg
  exact (inDigits_any 6 _ (stI s) 6 _ rfl (Ints.sixL w s) (by omega) h (ht.kept ((Below.refl _ _).alloc (Nat.le_refl _) _))).mono fun r w2 ⟨h1, h2⟩ => ⟨h1, kept ((Below.refl _ _).alloc (Nat.le_refl _) _) h2⟩

set_option maxHeartbeats 2000000 in
theorem stateText_any (s : St) (w : World) (h : St64 s) (ht : TabOk w) :
    Calls Tryd.prog 54 #[stV s] w fun r w' => r = .returned (.string (bs (stT s))) ∧ Below w.heap.size w w' := by
  have HD : Hid (∀ w', Below w.heap.size w w' → ∀ g, g = w'.heap.size → Calls Tryd.prog 53 #[.slice (some ⟨g, 0, none⟩) 6 6] (w'.alloc (.cells #[.int .i64 s.principal, .int .i64 s.due, .int .i64 s.rate, .int .i64 s.day, .int .i64 s.spare, .int .i64 s.count] 3)) fun r w2 => r = .returned (.string (bs (numT (stI s)))) ∧ Below w'.heap.size w' w2) := fun w' hb g hg =>
    ints6_any s g w' h (ht.kept hb) hg
  have z1 : (bs (numT (stI s))).size ≤ 132 := by rw [size_bs]; exact length_numT (stI s) h
  have HX := hid (st_str s)
  generalize bs (stT s) = u at *
  generalize bs (numT (stI s)) = t at *
  unfold stV
  clear h
  go_enter Tryd.func54, Tryd.ntmps54
  go_wp2_with fail
  refine (HD.out _ ((Below.refl _ _).alloc (Nat.le_refl _) _) _ (by simp)).mono ?_
  rintro e w1 ⟨rfl, hb1⟩
  go_wp2_with fail
  go_ret
  exact ⟨by rw [← HX.out]; rfl, kept ((Below.refl _ _).alloc (Nat.le_refl _) _) hb1⟩

set_option maxHeartbeats 400000 in
theorem pairText_any (a b : Int) (w : World) (ha : Bd a) (hb : Bd b) :
    Calls Tryd.prog 55 #[.int .i64 a, .int .i64 b] w fun e w' => e = .returned (.string (bs (pairT a b))) ∧ Below w.heap.size w w' := by
  have z1 : (bs (two a)).size = 2 := size_bs _
  have z2 : (bs (two b)).size = 2 := size_bs _
  go_enter Tryd.func55, Tryd.ntmps55
  go_wp2_with fail
  refine (twoBytes_any a _ ha.1 (by have := ha.2; omega)).mono ?_
  rintro e w1 ⟨rfl, hb1⟩
  go_wp2_with fail
  refine (twoBytes_any b _ hb.1 (by have := hb.2; omega)).mono ?_
  rintro e w2 ⟨rfl, hb2⟩
  go_wp2_with fail
  go_ret
  exact ⟨by rw [pair_str]; rfl, kept hb1 hb2⟩

set_option maxHeartbeats 400000 in
theorem headText_any (a b c : Int) (w : World) (ha : 0 ≤ a ∧ a ≤ 200) (hb : Bd b) (hc : Bd c) :
    Calls Tryd.prog 25 #[.int .i64 a, .int .i64 b, .int .i64 c] w fun e w' => e = .returned (.string (bs (headT a b c))) ∧ Below w.heap.size w w' := by
  have z1 : (bs (two a)).size = 2 := size_bs _
  have z2 : (bs (two b)).size = 2 := size_bs _
  have z3 : (bs (two c)).size = 2 := size_bs _
  go_enter Tryd.func25, Tryd.ntmps25
  go_wp2_with fail
  refine (twoBytes_any a _ ha.1 (by have := ha.2; omega)).mono ?_
  rintro e w1 ⟨rfl, hb1⟩
  go_wp2_with fail
  refine (twoBytes_any b _ hb.1 (by have := hb.2; omega)).mono ?_
  rintro e w2 ⟨rfl, hb2⟩
  go_wp2_with fail
  refine (twoBytes_any c _ hc.1 (by have := hc.2; omega)).mono ?_
  rintro e w3 ⟨rfl, hb3⟩
  go_wp2_with fail
  go_ret
  exact ⟨by rw [head_str]; rfl, kept (kept hb1 hb2) hb3⟩

end Go.Proofs.YtedblhcehlbbmabDoor

/-
  CONTRACTS: lenderref.numbers, state, stated, joined (M).
-/
import Derived.Test.YtedblhcehlbbmaaDoorMathAcc
import Derived.Test.YtedblhcehlbbmaaDoorWalkWithin
import Derived.WalkKit
import Derived.WalkSpells
import Derived.WalkLawsBesides
namespace Go.Proofs.YtedblhcehlbbmaaDoor
open Go.RowKit

set_option maxHeartbeats 2000000 in
theorem rnumbers_any (n : Nat) (a : Option Addr) (zs : List Int) (cap : Nat) (w : World) (hn : zs.length = n) (hz : Ints w a zs) (h1 : 1 ≤ n) (h6 : n ≤ 6) (h64 : ∀ z ∈ zs, In64 z) (ht : TabOk w) :
    Calls Tryd.prog 46 #[.slice a n cap] w fun e w' => e = .returned (.string (bs (numT zs))) ∧ Below w.heap.size w w' := by
  have HN := hid hn; have HZ := hid hz; have H64 := hid h64; have HT := hid ht
  have hl0 : 0 < zs.length := by omega
  obtain ⟨b, off, rfl, hc⟩ := hz.at hl0
  have c0 := hc 0 hl0
  rw [Nat.add_zero] at c0
  have H1 : Hid (zs.take 1 = [zs[0]]) := by
    show _ = _
    rw [List.take_succ_eq_append_getElem hl0]; rfl
  have hz0 := H64.out _ (List.getElem_mem hl0)
  have HI0 := hid (itoa_any zs[0] w hz0 ht)
  have hli := Lib.itoa_length_le zs[0] hz0.1 hz0.2
  generalize zs[0] = z0 at *
  clear hc hn hz h64 ht hl0 hz0
  have i0 : (0 : Int) < (n : Int) := by omega
  go_enter Tryd.func46, Tryd.ntmps46
  go_wp2_with fail
  refine HI0.out.mono ?_
  rintro e w1 ⟨rfl, hb1⟩
  clear c0
  go_wp2_with fail
  go_loopw [3, 4] (fun t i wr => ∃ k : Nat, 1 ≤ k ∧ k ≤ n ∧ i = .int .i64 (k : Int) ∧ t = .string (bs (numT (zs.take k))) ∧ Below w.heap.size w wr) (fun _ i _ => n - (intOf i).toNat)
  case atStart => exact ⟨1, Nat.le_refl _, h1, rfl, by rw [H1.out, numT_one], hb1⟩
  case round =>
    obtain ⟨k, hk1, hk, rfl, rfl, hbel⟩ := hrel
    by_cases hlt : k < n
    · have hkl : k < zs.length := by rw [HN.out]; exact hlt
      obtain ⟨b', off', hbb, hc⟩ := (HZ.out.kept hbel).at (by omega)
      cases hbb
      have h0 := hc k hkl
      have HE : Hid (zs.take (k + 1) = zs.take k ++ [zs[k]]) := List.take_succ_eq_append_getElem hkl
      have hz := H64.out _ (List.getElem_mem hkl)
      have hlk := length_numT (zs.take k) (fun z hz => H64.out z (List.mem_of_mem_take hz))
      have hli := Lib.itoa_length_le zs[k] hz.1 hz.2
      have HI : Hid (∀ w', Below w.heap.size w w' → Calls Tryd.prog 54 #[.int .i64 zs[k]] w' fun e w2 => e = .returned (.string (bs (Lib.itoa zs[k]))) ∧ Below w'.heap.size w' w2) := fun w' hb => itoa_any _ w' hz (HT.out.kept hb)
      have HTK : Hid ((zs.take k).length = k) := by show _ = _; rw [List.length_take]; omega
      rw [HTK.out] at hlk
      generalize zs[k] = z at *
      have z1 : (bs (numT (zs.take k))).size ≤ 132 := by rw [size_bs]; omega
      have z2 : (bs (Lib.itoa z)).size ≤ 21 := by rw [size_bs]; exact hli
      have HX : Hid (bs (numT (zs.take k)) ++ bs [32] ++ bs (Lib.itoa z) = bs (numT (zs.take (k + 1)))) := by
        show _ = _
        rw [HE.out, numT_snoc _ _ (fun h => by have := HTK.out; rw [h] at this; simp at this; omega), bs_append, bs_append]
      clear hc hkl hz hlk hli
      generalize bs (numT (zs.take k)) = t0 at *
      generalize bs (Lib.itoa z) = t1 at *
      go_wp2_with fail
      refine (HI.out _ hbel).mono ?_
      rintro e w2 ⟨rfl, hb2⟩
      have hk2 := kept hbel hb2
      go_wp2_with fail
      go_roundw
      case rel => exact ⟨k + 1, by omega, by omega, by go_num, by rw [← HX.out]; rfl, hk2⟩
      case measure => simp [intOf]; omega
    · have HX : Hid (zs.take k = zs) := List.take_of_length_le (by rw [HN.out]; omega)
      rw [HX.out]
      obtain ⟨t0, HT0⟩ : ∃ t0, Hid (t0 = bs (numT zs)) := ⟨_, rfl⟩
      rw [← HT0.out]
      go_wp2_with fail
      go_ret
      exact ⟨by rw [← HT0.out]; rfl, hbel⟩

theorem Ints.six (w : World) (s : St) : Ints (w.alloc (.cells #[.int .i64 s.principal, .int .i64 s.due, .int .i64 s.rate, .int .i64 s.day, .int .i64 s.spare, .int .i64 s.count] 3)) (some ⟨w.heap.size, 0, none⟩) (stI s) := by
  refine .inr ⟨w.heap.size, 0, rfl, fun i hi => ?_⟩
  rw [World.cell?_alloc_mark]
  match i, hi with
  | 0, _ => rfl
  | 1, _ => rfl
  | 2, _ => rfl
  | 3, _ => rfl
  | 4, _ => rfl
  | 5, _ => rfl
  | i + 6, hi => exact absurd hi (by simp only [stI, List.length_cons, List.length_nil]; omega)
theorem rnum6_any (s : St) (g : Nat) (w : World) (h : St64 s) (ht : TabOk w) (hg : g = w.heap.size) :
    Calls Tryd.prog 46 #[.slice (some ⟨g, 0, none⟩) 6 6] (w.alloc (.cells #[.int .i64 s.principal, .int .i64 s.due, .int .i64 s.rate, .int .i64 s.day, .int .i64 s.spare, .int .i64 s.count] 3)) fun r w2 => r = .returned (.string (bs (numT (stI s)))) ∧ Below w.heap.size w w2 := by
  subst hg
  exact (rnumbers_any 6 _ (stI s) 6 _ rfl (Ints.six w s) (by omega) (by omega) h (ht.kept ((Below.refl _ _).alloc (Nat.le_refl _) _))).mono fun r w2 ⟨h1, h2⟩ => ⟨h1, kept ((Below.refl _ _).alloc (Nat.le_refl _) _) h2⟩

set_option maxHeartbeats 2000000 in
theorem rstate_any (s : St) (w : World) (h : St64 s) (ht : TabOk w) :
    Calls Tryd.prog 35 #[stV s] w fun r w' => r = .returned (.string (bs (stT s))) ∧ Below w.heap.size w w' := by
  have HD : Hid (∀ w', Below w.heap.size w w' → ∀ g, g = w'.heap.size → Calls Tryd.prog 46 #[.slice (some ⟨g, 0, none⟩) 6 6] (w'.alloc (.cells #[.int .i64 s.principal, .int .i64 s.due, .int .i64 s.rate, .int .i64 s.day, .int .i64 s.spare, .int .i64 s.count] 3)) fun r w2 => r = .returned (.string (bs (numT (stI s)))) ∧ Below w'.heap.size w' w2) := fun w' hb g hg =>
    rnum6_any s g w' h (ht.kept hb) hg
  have z1 : (bs (numT (stI s))).size ≤ 132 := by rw [size_bs]; exact length_numT (stI s) h
  have HX := hid (st_str s)
  generalize bs (stT s) = u at *
  generalize bs (numT (stI s)) = t at *
  unfold stV
  clear h
  go_enter Tryd.func35, Tryd.ntmps35
  go_wp2_with fail
  refine (HD.out _ ((Below.refl _ _).alloc (Nat.le_refl _) _) _ (by simp)).mono ?_
  rintro e w1 ⟨rfl, hb1⟩
  go_wp2_with fail
  go_ret
  exact ⟨by rw [← HX.out]; rfl, kept ((Below.refl _ _).alloc (Nat.le_refl _) _) hb1⟩

set_option maxHeartbeats 2000000 in
theorem rstated_any (s : St) (w : World) (h : St64 s) (ht : TabOk w) :
    Calls Tryd.prog 15 #[stV s] w fun r w' => r = .returned (.int .i64 (sm (stT s))) ∧ Below w.heap.size w w' := by
  have HD : Hid (∀ w', Below w.heap.size w w' → Calls Tryd.prog 35 #[stV s] w' fun r w2 => r = .returned (.string (bs (stT s))) ∧ Below w'.heap.size w' w2) := fun w' hb => rstate_any s w' h (ht.kept hb)
  have HS : Hid (∀ w', Calls Tryd.prog 17 #[.string (bs (stT s))] w' fun e w2 => e = .returned (.int .i64 (sm (stT s))) ∧ Below w'.heap.size w' w2) := fun w' => by
    have := rsum_any (bs (stT s)) w' (by rw [size_bs]; have := length_stT s h; unfold maxLen; omega)
    rw [toList_bs] at this
    exact this
  generalize bs (stT s) = u at *
  generalize sm (stT s) = y at *
  unfold stV at *
  clear h
  go_enter Tryd.func15, Tryd.ntmps15
  go_wp2_with fail
  refine (HD.out _ ((Below.refl _ _).alloc (Nat.le_refl _) _)).mono ?_
  rintro e w1 ⟨rfl, hb1⟩
  go_wp2_with fail
  refine (HS.out _).mono ?_
  rintro e w2 ⟨rfl, hb2⟩
  go_wp2_with fail
  go_ret
  exact ⟨rfl, kept (kept ((Below.refl _ _).alloc (Nat.le_refl _) _) hb1) hb2⟩

set_option maxHeartbeats 400000 in
theorem joinedM_any (a b : Int) (w : World) (ha : Bd a) (hb : Bd b) :
    Calls Tryd.prog 16 #[.string ⟨#[77]⟩, .int .i64 a, .int .i64 b] w fun e w' => e = .returned (.int .i64 (sm (pairT a b))) ∧ Below w.heap.size w w' := by
  have z1 : (bs (two a)).size = 2 := size_bs _
  have z2 : (bs (two b)).size = 2 := size_bs _
  go_enter Tryd.func16, Tryd.ntmps16
  go_wp2_with fail
  refine (two_any a _ ha.1 (by have := ha.2; omega)).mono ?_
  rintro e w1 ⟨rfl, hb1⟩
  go_wp2_with fail
  refine (two_any b _ hb.1 (by have := hb.2; omega)).mono ?_
  rintro e w2 ⟨rfl, hb2⟩
  go_wp2_with fail
  rw [pair_str]
  refine (rsum_any _ _ (by rw [size_bs, length_pairT]; decide)).mono ?_
  rintro e w3 ⟨rfl, hb3⟩
  go_wp2_with fail
  go_ret
  exact ⟨ret_int (by rw [toList_bs]), kept (kept hb1 hb2) hb3⟩

end Go.Proofs.YtedblhcehlbbmaaDoor

import Derived.Test.YtedblhcehlbbmaaGreatDoorWalkRefBook
import Derived.Test.YtedblhcehlbbmaaGreatDoorJWalkAccount
import Derived.Test.YtedblhcehlbbmaaGreatDoorJWalkDigits
import Derived.Test.YtedblhcehlbbmaaGreatDoorWalkTexts
import Derived.WalkKit
import Derived.WalkSpells
import Derived.WalkLawsBesides
import Derived.Laws.BitsLemmas
import Derived.Laws.ResultCell
import Derived.Laws.Rows
import Derived.Deep.RegionHeld3
/-
  THE DOCUMENT's BOOK: lenderref.Entry, Log.
-/
namespace Go.Proofs.YtedblhcehlbbmaaGreatDoor
set_option maxRecDepth 20000
open Go.RowKit

theorem rints4_any (x y z u : Int) (g : Nat) (w : World) (hx : In64 x) (hy : In64 y) (hz : In64 z) (hu : In64 u) (ht : TabOk w) (hg : g = w.heap.size) :
    Calls Tryz.prog 71 #[.slice (some ⟨g, 0, none⟩) 4 4] (w.alloc (.cells #[.int .i64 x, .int .i64 y, .int .i64 z, .int .i64 u] 3)) fun r w2 => r = .returned (.string (bs (numT [x, y, z, u]))) ∧ Below w.heap.size w w2 := by
  subst hg
  refine (rnumbers_any 4 _ [x, y, z, u] 4 _ rfl (Ints.four w x y z u) (by omega) (by omega) (fun k hk => ?_) (ht.kept ((Below.refl _ _).alloc (Nat.le_refl _) _))).mono fun r w2 ⟨h1, h2⟩ => ⟨h1, kept ((Below.refl _ _).alloc (Nat.le_refl _) _) h2⟩
  simp only [List.mem_cons, List.not_mem_nil, or_false] at hk
  rcases hk with rfl | rfl | rfl | rfl
  · exact hx
  · exact hy
  · exact hz
  · exact hu

set_option maxHeartbeats 2000000 in
theorem rentryOf_any (e : Ev) (w : World) (h : Ev64 e) (ht : TabOk w) :
    Calls Tryz.prog 44 #[evV e] w fun r w' => r = .returned (.string (bs (entryT e))) ∧ Below w.heap.size w w' := by
  have HD : Hid (∀ w', Below w.heap.size w w' → ∀ g, g = w'.heap.size → Calls Tryz.prog 71 #[.slice (some ⟨g, 0, none⟩) 4 4] (w'.alloc (.cells #[.int .i64 e.loan, .int .i64 e.kind, .int .i64 e.amount, .int .i64 e.day] 3)) fun r w2 => r = .returned (.string (bs (entryT e))) ∧ Below w'.heap.size w' w2) := fun w' hb g hg =>
    rints4_any e.loan e.kind e.amount e.day g w' h.1 h.2.1 h.2.2.1 h.2.2.2 (ht.kept hb) hg
  generalize bs (entryT e) = t at *
  obtain ⟨el, ek, ea, ed⟩ := e
  unfold evV
  simp only at HD
  clear h
  go_enter Tryz.func44, Tryz.ntmps44
  go_wp2_with fail
  refine (HD.out _ ((Below.refl _ _).alloc (Nat.le_refl _) _) _ (by simp)).mono ?_
  rintro e w1 ⟨rfl, hb1⟩
  go_wp2_with fail
  go_ret
  exact ⟨rfl, kept ((Below.refl _ _).alloc (Nat.le_refl _) _) hb1⟩

set_option maxHeartbeats 4000000 in
theorem rlog_any (w : World) (S : Nat → Prop) (v : Value) (es : List Ev) (h : RRep w S v es) (ht : TabOk w) :
    Calls Tryz.prog 23 #[v] w fun r w' => ∃ u, r = .returned u ∧ OwnS w' w.heap.size u (entriesB es) ∧ Below w.heap.size w w' := by
  obtain ⟨p, u, rfl, hp, hu, _, hg, _⟩ := h
  obtain ⟨a, cap, rfl, _, _, hE, hlt⟩ := hu.form
  have HP : Hid (∀ wz, Below w.heap.size w wz → wz.cell? ⟨p, 0, none⟩ = some (.slice a es.length cap)) := fun wz hz => cell_kept (cell_one hp) hz
  have h200 := hg.1
  obtain ⟨n, hn⟩ : ∃ n, n = es.length := ⟨_, rfl⟩
  have HN : Hid (es.length = n) := hn.symm
  have HS := hid hE; have HLT := hid hlt; have HG := hid hg; have HT := hid ht
  rw [← hn] at HP h200
  clear hp hu hE hlt hg ht hn
  go_enter Tryz.func23, Tryz.ntmps23
  go_wp2_with fail
  go_loopw [3, 4, 5] (fun v i _ wr => ∃ k : Nat, k ≤ n ∧ i = .int .i64 (k : Int) ∧ Hid (OwnS wr w.heap.size v (entriesB (es.take k))) ∧ Below w.heap.size w wr) (fun _ i _ _ => n - (intOf i).toNat)
  case atStart => exact ⟨0, Nat.zero_le _, rfl, OwnS.nil _ _, Below.refl _ _⟩
  case round =>
    obtain ⟨k, hk, rfl, HO, hbel⟩ := hrel
    have hszr := hbel.size
    have hp := HP.out wr hbel
    by_cases hlt : k < n
    · have hkl : k < es.length := by rw [HN.out]; exact hlt
      obtain ⟨b, rfl, hc⟩ := (HS.out.under hbel HLT.out).at (by omega)
      obtain ⟨h0, h1, h2, h3⟩ := hc k hkl
      have HTK : Hid (entriesB (es.take (k + 1)) = entriesB (es.take k) ++ [bs (entryT es[k])]) := by show _ = _; unfold entriesB; rw [takeE_snoc es k hkl, List.map_append]; rfl
      have HLK : Hid ((entriesB (es.take k)).length ≤ 1000000) := by show _ ≤ _; unfold entriesB; rw [List.length_map, List.length_take]; omega
      have HEN : Hid (∀ w', Below w.heap.size w w' → Calls Tryz.prog 44 #[evV es[k]] w' fun r w2 => r = .returned (.string (bs (entryT es[k]))) ∧ Below w'.heap.size w' w2) := fun w' hb => rentryOf_any es[k] w' ((good_mid es k hkl HG.out).1.in64) (HT.out.kept hb)
      unfold evV at HEN
      generalize bs (entryT es[k]) = t at *
      generalize es[k] = e at *
      obtain ⟨el, ek, ea, ed⟩ := e
      simp only at h0 h1 h2 h3 HEN
      clear hc hkl
      obtain ⟨c0, cp0, rfl, _, _, _⟩ := HO.out.form
      go_wp2_with fail
      refine (HEN.out _ hbel).mono ?_
      rintro e w2 ⟨rfl, hb2⟩
      have hk2 := kept hbel hb2
      have HO2 := hid (HO.out.kept hb2)
      have hsz2 := hk2.size
      clear h0 h1 h2 h3
      go_wp2_with (at_builtin; refine wpList_appS rfl _ _ rfl w.heap.size _ _ t rfl (HO2.out.alloc _) w2.heap.size 1 rfl (cell_alloc_one _ _ _) HLK.out (by simp; omega) ?_)
      intro v' w3 hO3 hb3 _
      have HO3 : Hid (OwnS w3 w.heap.size v' (entriesB (es.take (k + 1)))) := by show OwnS _ _ _ _; rw [HTK.out]; exact hO3
      have hk3 : Below w.heap.size w w3 := (hk2.alloc hsz2 _).trans hb3
      obtain ⟨c3, cp3, hv3, _, _, _⟩ := HO3.out.form
      clear hO3 hb3
      go_wp2_with fail
      go_roundw
      case rel => exact ⟨k + 1, by omega, by go_num, HO3, hk3⟩
      case measure => simp [intOf]; omega
    · have HE : Hid (es.take k = es) := List.take_of_length_le (by rw [HN.out]; omega)
      rw [HE.out] at HO
      obtain ⟨c0, cp0, rfl, _, _, _⟩ := HO.out.form
      go_wp2_with fail
      go_ret
      exact ⟨_, rfl, HO.out, hbel⟩

end Go.Proofs.YtedblhcehlbbmaaGreatDoor


/-
  THE DOCUMENT's BOOK: lenderref.over, out of what State answers.
-/
namespace Go.Proofs.YtedblhcehlbbmaaGreatDoor
set_option maxRecDepth 20000
open Go.RowKit

/-- What lenderref's State answers, from the world w on. -/
def RStateSpec (w : World) (v : Value) (es : List Ev) : Prop := ∀ (wz : World) (loan : Int), Below w.heap.size w wz → In64 loan →
  Calls Tryz.prog 20 #[v, .int .i64 loan] wz fun r w' => r = .returned (stV (stOf es loan)) ∧ Below wz.heap.size wz w'

set_option maxHeartbeats 4000000 in
theorem rover_zero (w : World) (v : Value) (es : List Ev) (hv : ∃ a, v = .pointer (some a)) (T : RStateSpec w v es) (ht : TabOk w) (hg : GoodE es) (j : Nat) (hj : j < 64) (wz : World) (hz : Below w.heap.size w wz) :
    Calls Tryz.prog 50 #[v, .int .i64 0, .int .i64 (j : Int)] wz fun r w' => r = .returned (.int .i64 (mapL (stF es) 0 j)) ∧ Below wz.heap.size wz w' := by
  obtain ⟨a, rfl⟩ := hv
  have HS := hid (T wz (j : Int) hz ⟨by omega, by omega⟩)
  have HD : Hid (∀ w2, Below wz.heap.size wz w2 → Calls Tryz.prog 75 #[stV (stOf es (j : Int))] w2 fun r w' => r = .returned (.int .i64 (mapL (stF es) 0 j)) ∧ Below w2.heap.size w2 w') := fun w2 h2 => rstated_any (stOf es (j : Int)) w2 (st64_of es _ hg) (ht.kept (kept hz h2))
  generalize mapL (stF es) 0 j = y at *
  generalize stOf es (j : Int) = s at *
  unfold stV at *
  clear T ht hg
  go_enter Tryz.func50, Tryz.ntmps50
  go_wp2_with fail
  refine HS.out.mono ?_
  rintro e w1 ⟨rfl, hb1⟩
  go_wp2_with fail
  refine (HD.out _ hb1).mono ?_
  rintro e w2 ⟨rfl, hb2⟩
  go_wp2_with fail
  go_ret
  exact ⟨rfl, kept hb1 hb2⟩

set_option maxHeartbeats 4000000 in
theorem rover_up0 (a : Addr) (lo : Nat) (x y : Int) (wz : World) (hlo : lo ≤ 63) (hx : Bd x) (hy : Bd y)
    (h1 : ∀ w2, Below wz.heap.size wz w2 → Calls Tryz.prog 50 #[.pointer (some a), .int .i64 0, .int .i64 (lo : Int)] w2 fun r w' => r = .returned (.int .i64 x) ∧ Below w2.heap.size w2 w')
    (h2 : ∀ w2, Below wz.heap.size wz w2 → Calls Tryz.prog 50 #[.pointer (some a), .int .i64 0, .int .i64 ((lo : Int) + 1)] w2 fun r w' => r = .returned (.int .i64 y) ∧ Below w2.heap.size w2 w') :
    Calls Tryz.prog 50 #[.pointer (some a), .int .i64 1, .int .i64 (lo : Int)] wz fun r w' => r = .returned (.int .i64 (sm (pairT x y))) ∧ Below wz.heap.size wz w' := by
  have H1 := hid h1
  have H2 := hid h2
  have HJ := hid (fun w => joinedM_any x y w hx hy)
  generalize sm (pairT x y) = z at *
  clear h1 h2 hx hy
  go_enter Tryz.func50, Tryz.ntmps50
  go_wp2_with fail
  refine (H1.out _ (Below.refl _ _)).mono ?_
  rintro e w1 ⟨rfl, hb1⟩
  go_wp2_with fail
  refine (H2.out _ hb1).mono ?_
  rintro e w2 ⟨rfl, hb2⟩
  go_wp2_with fail
  refine (HJ.out _).mono ?_
  rintro e w3 ⟨rfl, hb3⟩
  go_wp2_with fail
  go_ret
  exact ⟨rfl, kept (kept hb1 hb2) hb3⟩

set_option maxHeartbeats 4000000 in
theorem rover_up1 (a : Addr) (lo : Nat) (x y : Int) (wz : World) (hlo : lo ≤ 63) (hx : Bd x) (hy : Bd y)
    (h1 : ∀ w2, Below wz.heap.size wz w2 → Calls Tryz.prog 50 #[.pointer (some a), .int .i64 1, .int .i64 (lo : Int)] w2 fun r w' => r = .returned (.int .i64 x) ∧ Below w2.heap.size w2 w')
    (h2 : ∀ w2, Below wz.heap.size wz w2 → Calls Tryz.prog 50 #[.pointer (some a), .int .i64 1, .int .i64 ((lo : Int) + 2)] w2 fun r w' => r = .returned (.int .i64 y) ∧ Below w2.heap.size w2 w') :
    Calls Tryz.prog 50 #[.pointer (some a), .int .i64 2, .int .i64 (lo : Int)] wz fun r w' => r = .returned (.int .i64 (sm (pairT x y))) ∧ Below wz.heap.size wz w' := by
  have H1 := hid h1
  have H2 := hid h2
  have HJ := hid (fun w => joinedM_any x y w hx hy)
  generalize sm (pairT x y) = z at *
  clear h1 h2 hx hy
  go_enter Tryz.func50, Tryz.ntmps50
  go_wp2_with fail
  refine (H1.out _ (Below.refl _ _)).mono ?_
  rintro e w1 ⟨rfl, hb1⟩
  go_wp2_with fail
  refine (H2.out _ hb1).mono ?_
  rintro e w2 ⟨rfl, hb2⟩
  go_wp2_with fail
  refine (HJ.out _).mono ?_
  rintro e w3 ⟨rfl, hb3⟩
  go_wp2_with fail
  go_ret
  exact ⟨rfl, kept (kept hb1 hb2) hb3⟩

set_option maxHeartbeats 4000000 in
theorem rover_up2 (a : Addr) (lo : Nat) (x y : Int) (wz : World) (hlo : lo ≤ 63) (hx : Bd x) (hy : Bd y)
    (h1 : ∀ w2, Below wz.heap.size wz w2 → Calls Tryz.prog 50 #[.pointer (some a), .int .i64 2, .int .i64 (lo : Int)] w2 fun r w' => r = .returned (.int .i64 x) ∧ Below w2.heap.size w2 w')
    (h2 : ∀ w2, Below wz.heap.size wz w2 → Calls Tryz.prog 50 #[.pointer (some a), .int .i64 2, .int .i64 ((lo : Int) + 4)] w2 fun r w' => r = .returned (.int .i64 y) ∧ Below w2.heap.size w2 w') :
    Calls Tryz.prog 50 #[.pointer (some a), .int .i64 3, .int .i64 (lo : Int)] wz fun r w' => r = .returned (.int .i64 (sm (pairT x y))) ∧ Below wz.heap.size wz w' := by
  have H1 := hid h1
  have H2 := hid h2
  have HJ := hid (fun w => joinedM_any x y w hx hy)
  generalize sm (pairT x y) = z at *
  clear h1 h2 hx hy
  go_enter Tryz.func50, Tryz.ntmps50
  go_wp2_with fail
  refine (H1.out _ (Below.refl _ _)).mono ?_
  rintro e w1 ⟨rfl, hb1⟩
  go_wp2_with fail
  refine (H2.out _ hb1).mono ?_
  rintro e w2 ⟨rfl, hb2⟩
  go_wp2_with fail
  refine (HJ.out _).mono ?_
  rintro e w3 ⟨rfl, hb3⟩
  go_wp2_with fail
  go_ret
  exact ⟨rfl, kept (kept hb1 hb2) hb3⟩

set_option maxHeartbeats 4000000 in
theorem rover_up3 (a : Addr) (lo : Nat) (x y : Int) (wz : World) (hlo : lo ≤ 63) (hx : Bd x) (hy : Bd y)
    (h1 : ∀ w2, Below wz.heap.size wz w2 → Calls Tryz.prog 50 #[.pointer (some a), .int .i64 3, .int .i64 (lo : Int)] w2 fun r w' => r = .returned (.int .i64 x) ∧ Below w2.heap.size w2 w')
    (h2 : ∀ w2, Below wz.heap.size wz w2 → Calls Tryz.prog 50 #[.pointer (some a), .int .i64 3, .int .i64 ((lo : Int) + 8)] w2 fun r w' => r = .returned (.int .i64 y) ∧ Below w2.heap.size w2 w') :
    Calls Tryz.prog 50 #[.pointer (some a), .int .i64 4, .int .i64 (lo : Int)] wz fun r w' => r = .returned (.int .i64 (sm (pairT x y))) ∧ Below wz.heap.size wz w' := by
  have H1 := hid h1
  have H2 := hid h2
  have HJ := hid (fun w => joinedM_any x y w hx hy)
  generalize sm (pairT x y) = z at *
  clear h1 h2 hx hy
  go_enter Tryz.func50, Tryz.ntmps50
  go_wp2_with fail
  refine (H1.out _ (Below.refl _ _)).mono ?_
  rintro e w1 ⟨rfl, hb1⟩
  go_wp2_with fail
  refine (H2.out _ hb1).mono ?_
  rintro e w2 ⟨rfl, hb2⟩
  go_wp2_with fail
  refine (HJ.out _).mono ?_
  rintro e w3 ⟨rfl, hb3⟩
  go_wp2_with fail
  go_ret
  exact ⟨rfl, kept (kept hb1 hb2) hb3⟩

set_option maxHeartbeats 4000000 in
theorem rover_up4 (a : Addr) (lo : Nat) (x y : Int) (wz : World) (hlo : lo ≤ 63) (hx : Bd x) (hy : Bd y)
    (h1 : ∀ w2, Below wz.heap.size wz w2 → Calls Tryz.prog 50 #[.pointer (some a), .int .i64 4, .int .i64 (lo : Int)] w2 fun r w' => r = .returned (.int .i64 x) ∧ Below w2.heap.size w2 w')
    (h2 : ∀ w2, Below wz.heap.size wz w2 → Calls Tryz.prog 50 #[.pointer (some a), .int .i64 4, .int .i64 ((lo : Int) + 16)] w2 fun r w' => r = .returned (.int .i64 y) ∧ Below w2.heap.size w2 w') :
    Calls Tryz.prog 50 #[.pointer (some a), .int .i64 5, .int .i64 (lo : Int)] wz fun r w' => r = .returned (.int .i64 (sm (pairT x y))) ∧ Below wz.heap.size wz w' := by
  have H1 := hid h1
  have H2 := hid h2
  have HJ := hid (fun w => joinedM_any x y w hx hy)
  generalize sm (pairT x y) = z at *
  clear h1 h2 hx hy
  go_enter Tryz.func50, Tryz.ntmps50
  go_wp2_with fail
  refine (H1.out _ (Below.refl _ _)).mono ?_
  rintro e w1 ⟨rfl, hb1⟩
  go_wp2_with fail
  refine (H2.out _ hb1).mono ?_
  rintro e w2 ⟨rfl, hb2⟩
  go_wp2_with fail
  refine (HJ.out _).mono ?_
  rintro e w3 ⟨rfl, hb3⟩
  go_wp2_with fail
  go_ret
  exact ⟨rfl, kept (kept hb1 hb2) hb3⟩

set_option maxHeartbeats 4000000 in
theorem rover_up5 (a : Addr) (lo : Nat) (x y : Int) (wz : World) (hlo : lo ≤ 63) (hx : Bd x) (hy : Bd y)
    (h1 : ∀ w2, Below wz.heap.size wz w2 → Calls Tryz.prog 50 #[.pointer (some a), .int .i64 5, .int .i64 (lo : Int)] w2 fun r w' => r = .returned (.int .i64 x) ∧ Below w2.heap.size w2 w')
    (h2 : ∀ w2, Below wz.heap.size wz w2 → Calls Tryz.prog 50 #[.pointer (some a), .int .i64 5, .int .i64 ((lo : Int) + 32)] w2 fun r w' => r = .returned (.int .i64 y) ∧ Below w2.heap.size w2 w') :
    Calls Tryz.prog 50 #[.pointer (some a), .int .i64 6, .int .i64 (lo : Int)] wz fun r w' => r = .returned (.int .i64 (sm (pairT x y))) ∧ Below wz.heap.size wz w' := by
  have H1 := hid h1
  have H2 := hid h2
  have HJ := hid (fun w => joinedM_any x y w hx hy)
  generalize sm (pairT x y) = z at *
  clear h1 h2 hx hy
  go_enter Tryz.func50, Tryz.ntmps50
  go_wp2_with fail
  refine (H1.out _ (Below.refl _ _)).mono ?_
  rintro e w1 ⟨rfl, hb1⟩
  go_wp2_with fail
  refine (H2.out _ hb1).mono ?_
  rintro e w2 ⟨rfl, hb2⟩
  go_wp2_with fail
  refine (HJ.out _).mono ?_
  rintro e w3 ⟨rfl, hb3⟩
  go_wp2_with fail
  go_ret
  exact ⟨rfl, kept (kept hb1 hb2) hb3⟩

set_option maxHeartbeats 2000000 in
/-- The sum over the loans from j * 2 ^ d on, 2 ^ d of them. -/
theorem rover_any (w : World) (a : Addr) (es : List Ev) (T : RStateSpec w (.pointer (some a)) es) (ht : TabOk w) (hg : GoodE es) (d : Nat) : d ≤ 6 → ∀ (j : Nat) (wz : World), j * 2 ^ d + 2 ^ d ≤ 64 → Below w.heap.size w wz →
    Calls Tryz.prog 50 #[.pointer (some a), .int .i64 (d : Int), .int .i64 ((j * 2 ^ d : Nat) : Int)] wz fun r w' => r = .returned (.int .i64 (mapL (stF es) d j)) ∧ Below wz.heap.size wz w' := by
  induction d with
  | zero =>
    intro _ j wz hj hz
    have := rover_zero w (.pointer (some a)) es ⟨a, rfl⟩ T ht hg j (by omega) wz hz
    simpa using this
  | succ d ih =>
    intro hd j wz hj hz
    have hp := Nat.one_le_two_pow (n := d)
    have e1 : j * 2 ^ (d + 1) = 2 * j * 2 ^ d := by rw [Nat.pow_succ, Nat.mul_comm (2 ^ d) 2, ← Nat.mul_assoc, Nat.mul_comm j 2]
    have e2 : 2 ^ (d + 1) = 2 ^ d + 2 ^ d := by rw [Nat.pow_succ]; omega
    have e3 : (2 * j + 1) * 2 ^ d = 2 * j * 2 ^ d + 2 ^ d := by rw [Nat.add_mul, Nat.one_mul]
    have h1 : ∀ w2, Below wz.heap.size wz w2 → Calls Tryz.prog 50 #[.pointer (some a), .int .i64 (d : Int), .int .i64 ((j * 2 ^ (d + 1) : Nat) : Int)] w2 fun r w' => r = .returned (.int .i64 (mapL (stF es) d (2 * j))) ∧ Below w2.heap.size w2 w' := fun w2 h2 => by
      rw [e1]
      exact ih (by omega) (2 * j) w2 (by omega) (kept hz h2)
    have h2 : ∀ w2, Below wz.heap.size wz w2 → Calls Tryz.prog 50 #[.pointer (some a), .int .i64 (d : Int), .int .i64 (((j * 2 ^ (d + 1) : Nat) : Int) + ((2 ^ d : Nat) : Int))] w2 fun r w' => r = .returned (.int .i64 (mapL (stF es) d (2 * j + 1))) ∧ Below w2.heap.size w2 w' := fun w2 h2 => by
      have := ih (by omega) (2 * j + 1) w2 (by omega) (kept hz h2)
      rw [e3, ← e1] at this
      rw [show (((j * 2 ^ (d + 1) : Nat) : Int) + ((2 ^ d : Nat) : Int)) = ((j * 2 ^ (d + 1) + 2 ^ d : Nat) : Int) by omega]
      exact this
    have hlo : j * 2 ^ (d + 1) ≤ 63 := by omega
    have b1 := mapL_bd (stF es) d (2 * j)
    have b2 := mapL_bd (stF es) d (2 * j + 1)
    rw [show mapL (stF es) (d + 1) j = sm (pairT (mapL (stF es) d (2 * j)) (mapL (stF es) d (2 * j + 1))) from rfl]
    generalize mapL (stF es) d (2 * j) = x at *
    generalize mapL (stF es) d (2 * j + 1) = y at *
    generalize j * 2 ^ (d + 1) = lo at *
    clear ih e1 e2 e3 hj
    have h6 : d = 0 ∨ d = 1 ∨ d = 2 ∨ d = 3 ∨ d = 4 ∨ d = 5 := by omega
    clear hd hp
    rcases h6 with rfl | rfl | rfl | rfl | rfl | rfl
    · exact rover_up0 a lo x y wz hlo b1 b2 (fun w2 hw => h1 w2 hw) (fun w2 hw => h2 w2 hw)
    · exact rover_up1 a lo x y wz hlo b1 b2 (fun w2 hw => h1 w2 hw) (fun w2 hw => h2 w2 hw)
    · exact rover_up2 a lo x y wz hlo b1 b2 (fun w2 hw => h1 w2 hw) (fun w2 hw => h2 w2 hw)
    · exact rover_up3 a lo x y wz hlo b1 b2 (fun w2 hw => h1 w2 hw) (fun w2 hw => h2 w2 hw)
    · exact rover_up4 a lo x y wz hlo b1 b2 (fun w2 hw => h1 w2 hw) (fun w2 hw => h2 w2 hw)
    · exact rover_up5 a lo x y wz hlo b1 b2 (fun w2 hw => h1 w2 hw) (fun w2 hw => h2 w2 hw)

end Go.Proofs.YtedblhcehlbbmaaGreatDoor


/-
  THE DOCUMENT's BOOK: lenderref.Head, out of what State answers.
-/
namespace Go.Proofs.YtedblhcehlbbmaaGreatDoor
set_option maxRecDepth 20000
open Go.RowKit

theorem Tryz.infoHeadR : (Tryz.prog.info? 71).map (·.size) = some 4 := by kernel_rfl
theorem ret_headR {fn : Func} {p : Tmp} (h : fn.results = #[.cell p 71]) {tmps : Array Value} {w : World} {L : Nat} {x0 x1 x2 x3 : Int} (hp : tmps.getD p undef = .pointer (some ⟨L, 0, none⟩)) (hb : w.heap[L]? = some (.cells #[.int .i64 x0, .int .i64 x1, .int .i64 x2, .int .i64 x3] 71 (0, 0))) :
    (results fn tmps).run Tryz.prog w = .ok (.agg #[.int .i64 x0, .int .i64 x1, .int .i64 x2, .int .i64 x3]) w :=
  results_cell_row h tmps w L 71 _ (0, 0) _ hp hb Tryz.underlying71 rfl Tryz.infoHeadR

set_option maxHeartbeats 4000000 in
theorem rhead_any (w : World) (S : Nat → Prop) (ad : Addr) (es : List Ev) (h : RRep w S (.pointer (some ad)) es) (T : RStateSpec w (.pointer (some ad)) es) (ht : TabOk w) :
    Calls Tryz.prog 26 #[.pointer (some ad)] w fun r w' => r = .returned (.agg #[.int .i64 (es.length : Int), .int .i64 (logOf es), .int .i64 (mapOf es), .int .i64 (topOf es)]) ∧ Below w.heap.size w w' := by
  have hh := h
  have hlt := h.lt
  obtain ⟨p, u, hv, hp, hu, _, hg, _⟩ := h
  cases hv
  obtain ⟨a, cap, rfl, _, _, _, _⟩ := hu.form
  have h200 := hg.1
  have hc := cell_one hp
  have hpl := lt_of_block hp
  have HLG : Hid (∀ wz, Below w.heap.size w wz → Calls Tryz.prog 23 #[.pointer (some ⟨p, 0, none⟩)] wz fun r w' => ∃ u, r = .returned u ∧ OwnS w' wz.heap.size u (entriesB es) ∧ Below wz.heap.size wz w') := fun wz hz => rlog_any wz S _ es (hh.stay (fun k hk => hz.block k (hlt k hk))) (ht.kept hz)
  have HOV : Hid (∀ wz, Below w.heap.size w wz → Calls Tryz.prog 50 #[.pointer (some ⟨p, 0, none⟩), .int .i64 6, .int .i64 0] wz fun r w' => r = .returned (.int .i64 (mapOf es)) ∧ Below wz.heap.size wz w') := fun wz hz => by
    have := rover_any w ⟨p, 0, none⟩ es T ht hg 6 (by omega) 0 wz (by omega) hz
    rw [show ((0 * 2 ^ 6 : Nat) : Int) = 0 from rfl] at this
    exact this
  have hb1 := logOf_bd es
  have hb2 : Bd (mapOf es) := mapL_bd _ _ _
  have HHS : Hid (∀ wz, Calls Tryz.prog 51 #[.string (bs (headT (es.length : Int) (logOf es) (mapOf es)))] wz fun e w' => e = .returned (.int .i64 (topOf es)) ∧ Below wz.heap.size wz w') := fun wz => by
    have := rsum_any (bs (headT (es.length : Int) (logOf es) (mapOf es))) wz (by rw [size_bs, length_headT]; decide)
    rw [toList_bs] at this
    exact this
  have HHD := hid (head_str (es.length : Int) (logOf es) (mapOf es))
  have HG := hid hg
  obtain ⟨N, hN⟩ : ∃ N, N = es.length := ⟨_, rfl⟩
  have HN : Hid (es.length = N) := hN.symm
  rw [← hN] at HHS HHD hc h200 ⊢
  obtain ⟨L2, hL2⟩ : ∃ L, L = w.heap.size := ⟨_, rfl⟩
  have l0 := hb1.1
  have l1 : logOf es ≤ 65535 := by have := hb1.2; omega
  have m0 := hb2.1
  have m1 : mapOf es ≤ 65535 := by have := hb2.2; omega
  clear hp hu hg ht hN hb1 hb2 hh hlt T
  have HRS : Hid (rootS (entriesB es) = logOf es) := rfl
  generalize logOf es = LG at *
  generalize mapOf es = MP at *
  generalize topOf es = TP at *
  have z1 : (bs (two (N : Int))).size = 2 := size_bs _
  have z2 : (bs (two LG)).size = 2 := size_bs _
  have z3 : (bs (two MP)).size = 2 := size_bs _
  generalize bs (headT (N : Int) LG MP) = hd at *
  go_enter Tryz.func26, Tryz.ntmps26
  go_wp2_with fail
  refine (HLG.out _ ((Below.refl _ _).alloc (Nat.le_refl _) _)).mono ?_
  rintro e w1 ⟨v1, rfl, hO1, hb1⟩
  have HB1 : Hid (w1.heap[L2]? = some (.cells #[.int .i64 0, .int .i64 0, .int .i64 0, .int .i64 0] 71 (0, 0))) := by
    show _ = _
    rw [hL2, hb1.block _ (by simp)]
    exact heap_alloc_new w _
  have hk1 : Below w.heap.size w w1 := kept ((Below.refl _ _).alloc (Nat.le_refl _) _) hb1
  rw [← hL2]
  have HL2 : Hid (w.heap.size ≤ L2) := by show _ ≤ _; rw [hL2]; exact Nat.le_refl _
  clear hb1 hL2 hc
  obtain ⟨a1, c1, rfl, _, _, hS1⟩ := hO1.form
  have HRT := hid (rroot_any (entriesB es).length a1 (entriesB es) c1 w1 rfl hS1 (by rw [entriesB_len, HN.out]; exact h200) (entriesB_40 es HG.out))
  rw [entriesB_len, HN.out, HRS.out] at HRT
  rw [entriesB_len, HN.out]
  clear hO1 hS1
  go_wp2_with fail
  refine HRT.out.mono ?_
  rintro e w2 ⟨rfl, hb2⟩
  have hk2 := kept hk1 hb2
  have HB2 : Hid (w2.heap[L2]? = some (.cells #[.int .i64 0, .int .i64 0, .int .i64 0, .int .i64 0] 71 (0, 0))) := by show _ = _; rw [hb2.block _ (lt_of_block HB1.out)]; exact HB1.out
  clear hb2 HB1 HRT HLG
  go_wp2_with fail
  refine (HOV.out _ hk2).mono ?_
  rintro e w3 ⟨rfl, hb3⟩
  have hk3 := kept hk2 hb3
  have HB3 : Hid (w3.heap[L2]? = some (.cells #[.int .i64 0, .int .i64 0, .int .i64 0, .int .i64 0] 71 (0, 0))) := by show _ = _; rw [hb3.block _ (lt_of_block HB2.out)]; exact HB2.out
  clear hb3 HB2 HOV
  go_wp2_with fail
  refine (two_any (N : Int) _ (by omega) (by omega)).mono ?_
  rintro e w4 ⟨rfl, hb4⟩
  go_wp2_with fail
  refine (two_any LG _ l0 l1).mono ?_
  rintro e w5 ⟨rfl, hb5⟩
  go_wp2_with fail
  refine (two_any MP _ m0 m1).mono ?_
  rintro e w6 ⟨rfl, hb6⟩
  go_wp2_with fail
  rw [HHD.out]
  refine (HHS.out _).mono ?_
  rintro e w7 ⟨rfl, hb7⟩
  have k37 := kept (kept (kept hb4 hb5) hb6) hb7
  have hk7 := kept hk3 k37
  have HB7 : Hid (w7.heap[L2]? = some (.cells #[.int .i64 0, .int .i64 0, .int .i64 0, .int .i64 0] 71 (0, 0))) := by show _ = _; rw [k37.block _ (lt_of_block HB3.out)]; exact HB3.out
  have x0 : w7.cell? ⟨L2, 0, none⟩ = some (.int .i64 0) := by simp [World.cell?, HB7.out]
  have x1 : w7.cell? ⟨L2, 1, none⟩ = some (.int .i64 0) := by simp [World.cell?, HB7.out]
  have x2 : w7.cell? ⟨L2, 2, none⟩ = some (.int .i64 0) := by simp [World.cell?, HB7.out]
  have x3 : w7.cell? ⟨L2, 3, none⟩ = some (.int .i64 0) := by simp [World.cell?, HB7.out]
  have f0 : w7.frozen? ⟨L2, 0, none⟩ = false := by simp [World.frozen?, HB7.out]
  have f1 : w7.frozen? ⟨L2, 1, none⟩ = false := by simp [World.frozen?, HB7.out]
  have f2 : w7.frozen? ⟨L2, 2, none⟩ = false := by simp [World.frozen?, HB7.out]
  have f3 : w7.frozen? ⟨L2, 3, none⟩ = false := by simp [World.frozen?, HB7.out]
  go_wp2_with fail
  (try simp only [Exit.inBlock, Exit.then])
  refine bodyPost_ret (ret_headR rfl (L := L2) (x0 := (N : Int)) (x1 := LG) (x2 := MP) (x3 := TP) rfl ?_) rfl ⟨rfl, ?_⟩
  · exact blk_setCell (blk_setCell (blk_setCell (blk_setCell HB7.out)))
  · exact (((hk7.setCell HL2.out _).setCell HL2.out _).setCell HL2.out _).setCell HL2.out _

end Go.Proofs.YtedblhcehlbbmaaGreatDoor


/-
  THE DOCUMENT's TEXTS: lenderref.AccountTexts.
-/
namespace Go.Proofs.YtedblhcehlbbmaaGreatDoor
set_option maxRecDepth 20000
open Go.RowKit

/-- The texts up to depth k, as a list. -/
def upL (a : Acc) : Nat → List ByteArray
  | 0 => [bs (accT a 0)]
  | k + 1 => upL a k ++ [bs (accT a (k + 1))]
theorem length_upL (a : Acc) (k : Nat) : (upL a k).length = k + 1 := by
  induction k with
  | zero => rfl
  | succ k ih => rw [upL, List.length_append, ih]; rfl
theorem upL_all (a : Acc) : upL a 6 ++ [bs (headT a.size a.log (accX a 6))] = (accTs a).map bs := rfl

theorem cell_below {w w' : World} {B L i : Nat} {v : Value} (h : w.cell? ⟨L, i, none⟩ = some v) (hb : Below B w w') (hL : L < B) : w'.cell? ⟨L, i, none⟩ = some v := by
  unfold World.cell? at *
  rw [hb.block L hL]; exact h

set_option maxRecDepth 20000 in
set_option maxHeartbeats 8000000 in
theorem racctx_any (a : Acc) (w : World) (hf : FitsA a) (h64 : Acc64 a) (ht : TabOk w) :
    Calls Tryz.prog 58 #[accV a] w fun r w' => ∃ u, r = .returned u ∧ OwnS w' w.heap.size u ((accTs a).map bs) ∧ Below w.heap.size w w' := by
  have HFT := hid hf
  have HST : Hid (∀ wz, Below w.heap.size w wz → Calls Tryz.prog 81 #[stV a.st] wz fun r w' => r = .returned (.string (bs (accT a 0))) ∧ Below wz.heap.size wz w') := fun wz hz => rstate_any a.st wz h64.2.1 (ht.kept hz)
  have HLN : Hid (∀ d, (accT a d).length ≤ 133) := fun d => by
    cases d with
    | zero => exact length_stT a.st h64.2.1
    | succ d => rw [accT]; split <;> (rw [length_pairT]; omega)
  have HSM : Hid (∀ d wz, Calls Tryz.prog 51 #[.string (bs (accT a d))] wz fun e w2 => e = .returned (.int .i64 (accX a d)) ∧ Below wz.heap.size wz w2) := fun d wz => by
    have := rsum_any (bs (accT a d)) wz (by rw [size_bs]; have := HLN.out d; unfold maxLen; omega)
    rw [toList_bs] at this
    exact this
  clear hf h64 ht
  obtain ⟨L, hL⟩ : ∃ L, L = w.heap.size := ⟨_, rfl⟩
  unfold accV
  unfold stV at HST
  go_enter Tryz.func58, Tryz.ntmps58
  go_wp2_with fail
  refine (HST.out _ ((Below.refl _ _).alloc (Nat.le_refl _) _)).mono ?_
  rintro e w2 ⟨rfl, hb2⟩
  rw [← hL]
  have HB2 : Hid (BlkA w2 L a) := by show BlkA _ _ _; rw [hL]; exact (BlkA.new w a).kept hb2
  have hk2 : Below w.heap.size w w2 := kept ((Below.refl _ _).alloc (Nat.le_refl _) _) hb2
  have HT0 : Hid (bs (accT a 0) = bs (accT a 0)) := rfl
  obtain ⟨t0, HT1⟩ : ∃ t0, Hid (t0 = bs (accT a 0)) := ⟨_, rfl⟩
  rw [← HT1.out]
  clear hb2 hL HST HT0
  go_wp2_with fail
  have HO0 : Hid (OwnS (w2.alloc (.cells #[.string t0] 9)) w2.heap.size (.slice (some ⟨w2.heap.size, 0, none⟩) 1 1) (upL a 0)) := by
    show OwnS _ _ _ _
    rw [show upL a 0 = [bs (accT a 0)] from rfl, ← HT1.out]
    exact OwnS.one w2 t0 w2.heap.size (Nat.le_refl _)
  have HB3 : Hid (BlkA (w2.alloc (.cells #[.string t0] 9)) L a) := HB2.out.kept ((Below.refl _ _).alloc (Nat.le_refl _) _)
  have HK3 : Hid (Below w2.heap.size w2 (w2.alloc (.cells #[.string t0] 9))) := (Below.refl _ _).alloc (Nat.le_refl _) _
  generalize World.alloc w2 _ = w3 at *
  go_loopw [3, 4, 5, 6] (fun t v d _ wr => ∃ k : Nat, k ≤ 6 ∧ d = .int .i64 (k : Int) ∧ t = .string (bs (accT a k)) ∧ Hid (OwnS wr w2.heap.size v (upL a k)) ∧ Below w2.heap.size w2 wr) (fun _ _ d _ _ => 6 - (intOf d).toNat)
  case atStart => exact ⟨0, Nat.zero_le _, rfl, by rw [HT1.out], HO0, HK3.out⟩
  case round =>
    obtain ⟨k, hk, rfl, rfl, HO, hbel⟩ := hrel
    have HBA := hid (HB2.out.kept hbel)
    have hszr := hbel.size
    clear HO0 HB3 HK3 HT1
    by_cases hlt : k < 6
    · have hp := HBA.out.path k hlt
      have hpb : Bd (a.path[k]'hlt) := HFT.out.sums _ (List.mem_cons_of_mem _ (List.getElem_mem (show k < a.path.length from hlt)))
      have HSU := hid (fun wz => HSM.out k wz)
      have hxb := accX_bd a k
      have hl0 := (HFT.out.up k).1
      have hl1 := (HFT.out.up k).2
      have x0 : wr.cell? ⟨L, 0, none⟩ = some (.int .i64 a.loan) := HBA.out.cell 0 _ rfl
      have HAT : Hid (accT a (k + 1) = if a.loan / 2 ^ k % 2 = 0 then pairT (accX a k) (a.path.getD k 0) else pairT (a.path.getD k 0) (accX a k)) := rfl
      rw [show a.path.getD k 0 = a.path[k]'hlt from by rw [List.getD_eq_getElem?_getD, List.getElem?_eq_getElem (show k < a.path.length from hlt)]; rfl] at HAT
      have HUL : Hid (upL a (k + 1) = upL a k ++ [bs (accT a (k + 1))]) := rfl
      have HKL : Hid ((upL a k).length ≤ 1000000) := by show _ ≤ _; rw [length_upL]; omega
      have hlo := HFT.out.loan
      generalize bs (accT a k) = tk at *
      generalize a.path[k]'hlt = z at *
      generalize accX a k = x at *
      have i1 : (0 : Int) ≤ (k : Int) := by omega
      have i2 : (k : Int) < 6 := by omega
      have hLw : L < wr.heap.size := World.block_lt_of_cell? _ _ hp
      have x1 : x ≤ 65535 := by have := hxb.2; omega
      have x2 := hxb.1
      have z1 : z ≤ 65535 := by have := hpb.2; omega
      have z2 := hpb.1
      have s1 : (bs (two x)).size = 2 := size_bs _
      have s2 : (bs (two z)).size = 2 := size_bs _
      obtain ⟨c0, cp0, rfl, _, _, _⟩ := HO.out.form
      clear hxb hpb
      go_wp2_with fail
      refine (HSU.out _).mono ?_
      rintro e w4 ⟨rfl, hb4⟩
      have hp4 := cell_kept hp hb4
      have x04 := cell_kept x0 hb4
      have hl4 : L < w4.heap.size := Nat.lt_of_lt_of_le hLw hb4.size
      clear hp x0 hLw
      go_wp2_with fail
      go_region_held3 (fun w' => w'.cell? ⟨L, 9 + k, none⟩ = some (.int .i64 z) ∧ Below w4.heap.size w4 w') ((go_split_ands; refine ⟨?_, ?_⟩ <;> first | exact hp4 | exact (Below.refl _ _).drew | exact cell_kept (by assumption) hb5 | exact kept (by assumption) hb5)) (first | (go_at_call 52; refine (two_any _ _ (by assumption) (by assumption)).mono ?_; rintro e w5 ⟨rfl, hb5⟩))
      have hq5 : w5.cell? ⟨L, 9 + k, none⟩ = some (.int .i64 z) ∧ Below w4.heap.size w4 w5 := by assumption
      have hp5 := hq5.1
      have x05 := cell_kept x04 hq5.2
      have hk5 := kept hb4 hq5.2
      have hl5 : L < w5.heap.size := Nat.lt_of_lt_of_le hl4 hq5.2.size
      rw [pair_str x z]
      clear hq5 hp4 x04 hl4 hb4
      have hk25 := kept hbel hk5
      have hs5 := hk25.size
      have HO5 := hid (HO.out.kept hk5)
      obtain ⟨tn, HTN⟩ : ∃ tn, Hid (tn = bs (accT a (k + 1))) := ⟨_, rfl⟩
      rw [← HTN.out] at HUL
      by_cases hev : a.loan / 2 ^ k % 2 = 0
      · rw [if_pos hev] at HAT
        rw [← HAT.out, ← HTN.out]
        have t1 : (a.loan / 2 ^ k % 2 == 1) = false := by simp; omega
        clear hev hp5 HO HAT
        go_wp2_with (at_builtin; refine wpList_appS rfl _ _ rfl w2.heap.size _ _ tn rfl (HO5.out.alloc _) w5.heap.size 1 rfl (cell_alloc_one _ _ _) HKL.out (by simp; omega) ?_)
        intro v' w6 hO6 hb6 _
        have HO6 : Hid (OwnS w6 w2.heap.size v' (upL a (k + 1))) := by show OwnS _ _ _ _; rw [HUL.out]; exact hO6
        have hk6 : Below w2.heap.size w2 w6 := (hk25.alloc hs5 _).trans hb6
        obtain ⟨c6, cp6, hv6, _, _, _⟩ := HO6.out.form
        clear hO6 hb6 x05 hk5
        go_wp2_with fail
        go_roundw
        case rel => exact ⟨k + 1, by omega, by go_num, by rw [HTN.out], HO6, hk6⟩
        case measure => simp [intOf]; omega
      · rw [if_neg hev] at HAT
        have t1 : (a.loan / 2 ^ k % 2 == 1) = true := by simp; omega
        obtain ⟨te, HTE⟩ : ∃ te, Hid (te = bs (pairT x z)) := ⟨_, rfl⟩
        rw [← HTE.out]
        clear hev HO HTE
        go_wp2_with fail
        refine (two_any z _ z2 z1).mono ?_
        rintro e w6 ⟨rfl, hb6⟩
        go_wp2_with fail
        refine (two_any x _ x2 x1).mono ?_
        rintro e w7 ⟨rfl, hb7⟩
        have hk7 := kept hb6 hb7
        have hk27 := kept hk25 hk7
        have hs7 := hk27.size
        have HO7 := hid (HO5.out.kept hk7)
        go_wp2_with (at_builtin; refine wpList_appS rfl _ _ rfl w2.heap.size _ _ _ rfl (HO7.out.alloc _) w7.heap.size 1 rfl (cell_alloc_one _ _ _) HKL.out (by simp; omega) ?_)
        intro v' w8 hO8 hb8 _
        rw [pair_str z x, ← HAT.out, ← HTN.out] at hO8
        have HO8 : Hid (OwnS w8 w2.heap.size v' (upL a (k + 1))) := by show OwnS _ _ _ _; rw [HUL.out]; exact hO8
        have hk8 : Below w2.heap.size w2 w8 := (hk27.alloc hs7 _).trans hb8
        obtain ⟨c8, cp8, hv8, _, _, _⟩ := HO8.out.form
        clear hO8 hb8 x05 hk5
        go_wp2_with fail
        go_roundw
        case rel => exact ⟨k + 1, by omega, by go_num, by rw [pair_str z x, ← HAT.out], HO8, hk8⟩
        case measure => simp [intOf]; omega
    · obtain rfl : k = 6 := by omega
      have hs := HFT.out.size
      have hlb : Bd a.log := HFT.out.sums _ (by simp)
      have hxb := accX_bd a 6
      have HSU := hid (fun wz => HSM.out 6 wz)
      have HHD := hid (head_str a.size a.log (accX a 6))
      have HUL := hid (upL_all a)
      have HKL : Hid ((upL a 6).length ≤ 1000000) := by show _ ≤ _; rw [length_upL]; omega
      have x7 : wr.cell? ⟨L, 7, none⟩ = some (.int .i64 a.size) := HBA.out.cell 7 _ rfl
      have x8 : wr.cell? ⟨L, 8, none⟩ = some (.int .i64 a.log) := HBA.out.cell 8 _ rfl
      have hLw : L < wr.heap.size := World.block_lt_of_cell? _ _ x7
      have s0 := hs.1
      have s1 : a.size ≤ 65535 := by omega
      have l0 := hlb.1
      have l1 : a.log ≤ 65535 := by have := hlb.2; omega
      have y0 := hxb.1
      have y1 : accX a 6 ≤ 65535 := by have := hxb.2; omega
      have z1 : (bs (two a.size)).size = 2 := size_bs _
      have z2 : (bs (two a.log)).size = 2 := size_bs _
      have z3 : (bs (two (accX a 6))).size = 2 := size_bs _
      clear hs hlb hxb
      generalize bs (accT a 6) = tk at *
      generalize accX a 6 = x at *
      generalize a.size = sz at *
      generalize a.log = lg at *
      obtain ⟨c0, cp0, rfl, _, _, _⟩ := HO.out.form
      go_wp2_with fail
      refine (HSU.out _).mono ?_
      rintro e w4 ⟨rfl, hb4⟩
      have x74 := cell_kept x7 hb4
      have x84 := cell_kept x8 hb4
      have hl4 : L < w4.heap.size := Nat.lt_of_lt_of_le hLw hb4.size
      have hk24 := kept hbel hb4
      have HO4 := hid (HO.out.kept hb4)
      clear x7 x8 hLw HO
      go_wp2_with fail
      have hL2 : L < w2.heap.size := lt_of_block HB2.out
      go_region_held3 (fun w' => w'.cell? ⟨L, 7, none⟩ = some (.int .i64 sz) ∧ w'.cell? ⟨L, 8, none⟩ = some (.int .i64 lg) ∧ Below w2.heap.size w2 w') ((go_split_ands; refine ⟨?_, ?_, ?_⟩ <;> first | exact x74 | exact x84 | exact hk24.drew | exact cell_kept x74 hk5 | exact cell_kept x84 hk5 | exact kept hk24 hk5 | exact cell_kept x74 (hk5.alloc hk5.size _) | exact cell_kept x84 (hk5.alloc hk5.size _) | exact (kept hk24 hk5).alloc (kept hk24 hk5).size _ | exact cell_below (cell_kept x74 (hk5.alloc hk5.size _)) hb6 hL2 | exact cell_below (cell_kept x84 (hk5.alloc hk5.size _)) hb6 hL2 | exact ((kept hk24 hk5).alloc (kept hk24 hk5).size _).trans hb6)) (first | (go_at_call 52; refine (two_any _ _ (by assumption) (by assumption)).mono ?_; rintro e w5 ⟨rfl, hb5⟩; have hk5 : Below w4.heap.size w4 w5 := (by first | exact kept ((Below.refl _ _).drew) hb5 | exact kept hk5 hb5)) | (refine step_appS (by rfl) _ _ (by rfl) w2.heap.size _ _ _ (by rfl) ((HO4.out.kept hk5).alloc _) w5.heap.size 1 (by rfl) (cell_alloc_one _ _ _) HKL.out (by have := (kept hk24 hk5).size; simp; omega) ?_; intro v6 w6 hown6 hb6 hgrow hat))
      rw [HHD.out, HUL.out] at hown6
      have hk26 : Below w2.heap.size w2 w6 := ((kept hk24 hk5).alloc (kept hk24 hk5).size _).trans hb6
      have HO6 := hid hown6
      obtain ⟨c6, cp6, hv6, _, _, _⟩ := HO6.out.form
      go_wp2_with fail
      go_ret
      exact ⟨_, rfl, HO6.out.mono hk2.size, hk2.trans (hk26.mono hk2.size)⟩

end Go.Proofs.YtedblhcehlbbmaaGreatDoor

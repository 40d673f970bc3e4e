/-
  CONTRACTS: numbers as texts: strconv.Itoa, loans.inDigits, Entry, Entries.
-/
import Derived.Test.YtedblhcehlbbmabDoorWalkBook
import Derived.Test.YtedblhcehlbbmabDoorWalkTexts
import Derived.Test.YtedblhcehlbbmabDoorShelf
import Derived.WalkKit
import Derived.WalkSpells
import Derived.WalkLawsBesides
import Derived.Laws.IdiomStrings
import Derived.Lib.AppendIntMem
import Derived.Lib.ItoaLen
namespace Go.Proofs.YtedblhcehlbbmabDoor
open Go.RowKit

/-- strconv's table lies in the world. -/
def TabOk (w : World) : Prop := Lib.TabIs Tryd.prog w "internal/strconv.uint64pow10" .u64 Lib.pow10Tab
theorem TabOk.kept {w w' : World} (h : TabOk w) (hb : Below w.heap.size w w') : TabOk w' := by
  unfold TabOk Lib.TabIs World.var? at *
  cases hg : Tryd.prog.globalNamed "internal/strconv.uint64pow10" with
  | none => rw [hg] at h; cases h
  | some g =>
    rw [hg] at h
    simp only [Option.bind_some] at h ⊢
    have hlt : g < w.heap.size := by
      rcases Nat.lt_or_ge g w.heap.size with hl | hl
      · exact hl
      · rw [Array.getElem?_eq_none hl] at h; cases h
    rw [hb.block g hlt]
    exact h

/-- A number's text; numbers' texts with a blank between each two. -/
def numT : List Int → List UInt8
  | [] => []
  | z :: zs => Lib.itoa z ++ zs.flatMap fun y => 32 :: Lib.itoa y
theorem numT_one (z : Int) : numT [z] = Lib.itoa z := by simp [numT]
theorem numT_snoc (zs : List Int) (y : Int) (h : zs ≠ []) : numT (zs ++ [y]) = numT zs ++ [32] ++ Lib.itoa y := by
  cases zs with
  | nil => exact absurd rfl h
  | cons z zs => simp [numT]

theorem itoa_any (n : Int) (w : World) (h : In64 n) (ht : TabOk w) : Calls Tryd.prog 57 #[.int .i64 n] w fun e w' => e = .returned (.string (bs (Lib.itoa n))) ∧ Below w.heap.size w w' := by
  refine (Tryd.strconv_Itoa n h.1 h.2 w ht).mono ?_
  rintro e w' ⟨rfl, k, os, rfl⟩
  exact ⟨rfl, Lib.below_grow _ _ (Nat.le_refl _) _ _⟩

theorem length_numT (zs : List Int) (h : ∀ z ∈ zs, In64 z) : (numT zs).length ≤ 22 * zs.length := by
  cases zs with
  | nil => simp [numT]
  | cons z zs =>
    have h0 := Lib.itoa_length_le z (h z (by simp)).1 (h z (by simp)).2
    have h1 : (zs.flatMap fun y => 32 :: Lib.itoa y).length ≤ 22 * zs.length := by
      have hh : ∀ y ∈ zs, In64 y := fun y hy => h y (by simp [hy])
      clear h h0
      induction zs with
      | nil => simp
      | cons y ys ih =>
        have h2 := Lib.itoa_length_le y (hh y (by simp)).1 (hh y (by simp)).2
        have h3 := ih (fun x hx => hh x (by simp [hx]))
        rw [List.flatMap_cons, List.length_append, List.length_cons, List.length_cons]
        omega
    unfold numT
    rw [List.length_append, List.length_cons]
    omega

set_option maxHeartbeats 2000000 in
theorem inDigits_any (n : Nat) (a : Option Addr) (zs : List Int) (cap : Nat) (w : World) (hn : zs.length = n) (hz : Ints w a zs) (h6 : n ≤ 6) (h64 : ∀ z ∈ zs, In64 z) (ht : TabOk w) :
    Calls Tryd.prog 53 #[.slice a n cap] w fun e w' => e = .returned (.string (bs (numT zs))) ∧ Below w.heap.size w w' := by
  have HN := hid hn; have HZ := hid hz; have H64 := hid h64; have HT := hid ht
  clear hn hz h64 ht
  go_enter Tryd.func53, Tryd.ntmps53
  go_wp2_with fail
  go_loopw [3, 4] (fun t i wr => ∃ k : Nat, k ≤ n ∧ i = .int .i64 (k : Int) ∧ t = .string (bs (numT (zs.take k))) ∧ Below w.heap.size w wr) (fun _ i _ => n - (intOf i).toNat)
  case atStart => exact ⟨0, Nat.zero_le _, rfl, rfl, Below.refl _ _⟩
  case round =>
    obtain ⟨k, hk, rfl, rfl, hbel⟩ := hrel
    by_cases hlt : k < n
    · have hkl : k < zs.length := by rw [HN.out]; exact hlt
      obtain ⟨b, off, rfl, hc⟩ := (HZ.out.kept hbel).at (by omega)
      have h0 := hc k hkl
      have HE : Hid (zs.take (k + 1) = zs.take k ++ [zs[k]]) := List.take_succ_eq_append_getElem hkl
      have hz := H64.out _ (List.getElem_mem hkl)
      have hlk := length_numT (zs.take k) (fun z hz => H64.out z (List.mem_of_mem_take hz))
      have hli := Lib.itoa_length_le zs[k] hz.1 hz.2
      have HI : Hid (∀ w', Below w.heap.size w w' → Calls Tryd.prog 57 #[.int .i64 zs[k]] w' fun e w2 => e = .returned (.string (bs (Lib.itoa zs[k]))) ∧ Below w'.heap.size w' w2) := fun w' hb => itoa_any _ w' hz (HT.out.kept hb)
      have HTK : Hid ((zs.take k).length = k) := by show _ = _; rw [List.length_take]; omega
      rw [HTK.out] at hlk
      generalize zs[k] = z at *
      have z1 : (bs (numT (zs.take k))).size ≤ 132 := by rw [size_bs]; omega
      have z2 : (bs (Lib.itoa z)).size ≤ 21 := by rw [size_bs]; exact hli
      clear hc hkl hz hlk hli
      by_cases hk0 : k = 0
      · subst hk0
        rw [Nat.add_zero] at h0
        have HX : Hid (bs (numT (zs.take 0)) ++ bs (Lib.itoa z) = bs (numT (zs.take (0 + 1)))) := by
          show _ = _
          rw [HE.out, List.take_zero, List.nil_append, numT_one, bs_append]; rfl
        generalize bs (numT (zs.take 0)) = t0 at *
        generalize bs (Lib.itoa z) = t1 at *
        go_wp2_with fail
        refine (HI.out _ hbel).mono ?_
        rintro e w2 ⟨rfl, hb2⟩
        have hk2 := kept hbel hb2
        go_wp2_with fail
        go_roundw
        case rel => exact ⟨1, by omega, by go_num, by rw [HX.out], hk2⟩
        case measure => simp [intOf]; omega
      · have HX : Hid (bs (numT (zs.take k)) ++ bs [32] ++ bs (Lib.itoa z) = bs (numT (zs.take (k + 1)))) := by
          show _ = _
          rw [HE.out, numT_snoc _ _ (fun h => by have := HTK.out; rw [h] at this; simp at this; omega), bs_append, bs_append]
        generalize bs (numT (zs.take k)) = t0 at *
        generalize bs (Lib.itoa z) = t1 at *
        go_wp2_with fail
        refine (HI.out _ hbel).mono ?_
        rintro e w2 ⟨rfl, hb2⟩
        have hk2 := kept hbel hb2
        go_wp2_with fail
        go_roundw
        case rel => exact ⟨k + 1, by omega, by go_num, by rw [← HX.out]; rfl, hk2⟩
        case measure => simp [intOf]; omega
    · have HX : Hid (zs.take k = zs) := List.take_of_length_le (by rw [HN.out]; omega)
      rw [HX.out]
      obtain ⟨t0, HT0⟩ : ∃ t0, Hid (t0 = bs (numT zs)) := ⟨_, rfl⟩
      rw [← HT0.out]
      go_wp2_with fail
      go_ret
      exact ⟨by rw [← HT0.out]; rfl, hbel⟩

def evI (e : Ev) : List Int := [e.loan, e.kind, e.amount, e.day]
/-- An event's entry. -/
def entryT (e : Ev) : List UInt8 := numT (evI e)
theorem Ints.four (w : World) (x y z u : Int) : Ints (w.alloc (.cells #[.int .i64 x, .int .i64 y, .int .i64 z, .int .i64 u] 3)) (some ⟨w.heap.size, 0, none⟩) [x, y, z, u] := by
  obtain ⟨h0, h1, h2, h3⟩ := cell_four w (.int .i64 x) (.int .i64 y) (.int .i64 z) (.int .i64 u) 3
  refine .inr ⟨w.heap.size, 0, rfl, fun i hi => ?_⟩
  match i, hi with
  | 0, _ => exact h0
  | 1, _ => exact h1
  | 2, _ => exact h2
  | 3, _ => exact h3
  | i + 4, hi => exact absurd hi (by simp only [List.length_cons, List.length_nil]; omega)

theorem ints4_any (x y z u : Int) (g : Nat) (w : World) (hx : In64 x) (hy : In64 y) (hz : In64 z) (hu : In64 u) (ht : TabOk w) (hg : g = w.heap.size) :
    Calls Tryd.prog 53 #[.slice (some ⟨g, 0, none⟩) 4 4] (w.alloc (.cells #[.int .i64 x, .int .i64 y, .int .i64 z, .int .i64 u] 3)) fun r w2 => r = .returned (.string (bs (numT [x, y, z, u]))) ∧ Below w.heap.size w w2 := by
  subst hg
  refine (inDigits_any 4 _ [x, y, z, u] 4 _ rfl (Ints.four w x y z u) (by omega) (fun k hk => ?_) (ht.kept ((Below.refl _ _).alloc (Nat.le_refl _) _))).mono fun r w2 ⟨h1, h2⟩ => ⟨h1, kept ((Below.refl _ _).alloc (Nat.le_refl _) _) h2⟩
  simp only [List.mem_cons, List.not_mem_nil, or_false] at hk
  rcases hk with rfl | rfl | rfl | rfl
  · exact hx
  · exact hy
  · exact hz
  · exact hu

set_option maxHeartbeats 2000000 in
theorem entryOf_any (e : Ev) (w : World) (h : Ev64 e) (ht : TabOk w) :
    Calls Tryd.prog 40 #[evV e] w fun r w' => r = .returned (.string (bs (entryT e))) ∧ Below w.heap.size w w' := by
  have HD : Hid (∀ w', Below w.heap.size w w' → ∀ g, g = w'.heap.size → Calls Tryd.prog 53 #[.slice (some ⟨g, 0, none⟩) 4 4] (w'.alloc (.cells #[.int .i64 e.loan, .int .i64 e.kind, .int .i64 e.amount, .int .i64 e.day] 3)) fun r w2 => r = .returned (.string (bs (entryT e))) ∧ Below w'.heap.size w' w2) := fun w' hb g hg =>
    ints4_any e.loan e.kind e.amount e.day g w' h.1 h.2.1 h.2.2.1 h.2.2.2 (ht.kept hb) hg
  generalize bs (entryT e) = t at *
  obtain ⟨el, ek, ea, ed⟩ := e
  unfold evV
  simp only at HD
  clear h
  go_enter Tryd.func40, Tryd.ntmps40
  go_wp2_with fail
  refine (HD.out _ ((Below.refl _ _).alloc (Nat.le_refl _) _) _ (by simp)).mono ?_
  rintro e w1 ⟨rfl, hb1⟩
  go_wp2_with fail
  go_ret
  exact ⟨rfl, kept ((Below.refl _ _).alloc (Nat.le_refl _) _) hb1⟩

/-- The entries of events. -/
def entriesB (es : List Ev) : List ByteArray := es.map fun e => bs (entryT e)

set_option maxHeartbeats 2000000 in
theorem entries_any (n : Nat) (a : Option Addr) (es : List Ev) (cap : Nat) (w : World) (hn : es.length = n) (hs : Evs w a es) (hlt : ∀ b, a = some ⟨b, 0, none⟩ → b < w.heap.size) (hg : GoodE es) (ht : TabOk w) :
    Calls Tryd.prog 21 #[.slice a n cap] w fun e w' => ∃ v, e = .returned v ∧ OwnS w' w.heap.size v (entriesB es) ∧ Below w.heap.size w w' := by
  have HN := hid hn; have HS := hid hs; have HLT := hid hlt; have HG := hid hg; have HT := hid ht
  have h200 : n ≤ 200 := by rw [← hn]; exact hg.1
  clear hn hs hlt hg ht
  go_enter Tryd.func21, Tryd.ntmps21
  go_wp2_with fail
  go_loopw [3, 4, 5] (fun v i _ wr => ∃ k : Nat, k ≤ n ∧ i = .int .i64 (k : Int) ∧ Hid (OwnS wr w.heap.size v (entriesB (es.take k))) ∧ Below w.heap.size w wr) (fun _ i _ _ => n - (intOf i).toNat)
  case atStart => exact ⟨0, Nat.zero_le _, rfl, World.ownsRow_made w #[] 0 (Nat.le_refl _) (Nat.zero_le _) rfl, (Below.refl _ _).alloc (Nat.le_refl _) _⟩
  case round =>
    obtain ⟨k, hk, rfl, HO, hbel⟩ := hrel
    have hszr := hbel.size
    by_cases hlt : k < n
    · have hkl : k < es.length := by rw [HN.out]; exact hlt
      obtain ⟨b, rfl, hc⟩ := (HS.out.under hbel HLT.out).at (by omega)
      obtain ⟨h0, h1, h2, h3⟩ := hc k hkl
      have HTK : Hid (entriesB (es.take (k + 1)) = entriesB (es.take k) ++ [bs (entryT es[k])]) := by show _ = _; unfold entriesB; rw [takeE_snoc es k hkl, List.map_append]; rfl
      have HLK : Hid ((entriesB (es.take k)).length ≤ 1000000) := by show _ ≤ _; unfold entriesB; rw [List.length_map, List.length_take]; omega
      have HEN : Hid (∀ w', Below w.heap.size w w' → Calls Tryd.prog 40 #[evV es[k]] w' fun r w2 => r = .returned (.string (bs (entryT es[k]))) ∧ Below w'.heap.size w' w2) := fun w' hb => entryOf_any es[k] w' ((good_mid es k hkl HG.out).1.in64) (HT.out.kept hb)
      unfold evV at HEN
      generalize bs (entryT es[k]) = t at *
      generalize es[k] = e at *
      obtain ⟨el, ek, ea, ed⟩ := e
      simp only at h0 h1 h2 h3 HEN
      clear hc hkl
      obtain ⟨c0, cp0, rfl, _, _, _⟩ := HO.out.form
      go_wp2_with fail
      refine (HEN.out _ hbel).mono ?_
      rintro e w2 ⟨rfl, hb2⟩
      have hk2 := kept hbel hb2
      have HO2 := hid (HO.out.kept hb2)
      have hsz2 := hk2.size
      clear h0 h1 h2 h3
      go_wp2_with (at_builtin; refine wpList_appS rfl _ _ rfl w.heap.size _ _ t rfl (HO2.out.alloc _) w2.heap.size 1 rfl (cell_alloc_one _ _ _) HLK.out (by simp; omega) ?_)
      intro v' w3 hO3 hb3 _
      have HO3 : Hid (OwnS w3 w.heap.size v' (entriesB (es.take (k + 1)))) := by show OwnS _ _ _ _; rw [HTK.out]; exact hO3
      have hk3 : Below w.heap.size w w3 := (hk2.alloc hsz2 _).trans hb3
      obtain ⟨c3, cp3, hv3, _, _, _⟩ := HO3.out.form
      clear hO3 hb3
      go_wp2_with fail
      go_roundw
      case rel => exact ⟨k + 1, by omega, by go_num, HO3, hk3⟩
      case measure => simp [intOf]; omega
    · have HE : Hid (es.take k = es) := List.take_of_length_le (by rw [HN.out]; omega)
      rw [HE.out] at HO
      obtain ⟨c0, cp0, rfl, _, _, _⟩ := HO.out.form
      go_wp2_with fail
      go_ret
      exact ⟨_, rfl, HO.out, hbel⟩

set_option maxHeartbeats 2000000 in
theorem log_any (w : World) (S : Nat → Prop) (v : Value) (es : List Ev) (h : Rep w S v es) (ht : TabOk w) :
    Calls Tryd.prog 11 #[v] w fun r w' => ∃ u, r = .returned u ∧ OwnS w' w.heap.size u (entriesB es) ∧ Below w.heap.size w w' := by
  obtain ⟨p, u, rfl, hp, hu, _, hg, _⟩ := h
  obtain ⟨a, cap, rfl, _, _, hE, hlt⟩ := hu.form
  have hc := cell_one hp
  have HEN := hid (entries_any es.length a es cap w rfl hE hlt hg ht)
  clear hp hu hE hlt hg
  generalize es.length = n at *
  go_enter Tryd.func11, Tryd.ntmps11
  go_wp2_with fail
  refine HEN.out.mono ?_
  rintro e w1 ⟨v1, rfl, hO, hb1⟩
  obtain ⟨c0, cp0, rfl, _, _, _⟩ := hO.form
  have HO := hid hO
  clear hO
  go_wp2_with fail
  go_ret
  exact ⟨_, rfl, HO.out, hb1⟩

end Go.Proofs.YtedblhcehlbbmabDoor

import Derived.Test.YtedblhcehlbbmaaGreatDoorWalkBook
import Derived.Test.YtedblhcehlbbmaaGreatDoorWalkTexts
import Derived.Test.YtedblhcehlbbmaaGreatDoorShelf
import Derived.Test.YtedblhcehlbbmaaGreatDoorJMathSum
import Derived.Test.YtedblhcehlbbmaaGreatDoorJWalkHand
import Derived.Test.YtedblhcehlbbmaaGreatDoorJWalkText
import Derived.WalkKit
import Derived.WalkSpells
import Derived.WalkLawsBesides
import Derived.Laws.IdiomStrings
import Derived.Lib.AppendIntMem
import Derived.Lib.ItoaLen
import Derived.Laws.ResultCell
import Derived.Laws.Rows
/-
  CONTRACTS: numbers as texts: strconv.Itoa, loans.inDigits, Entry, Entries.
-/
namespace Go.Proofs.YtedblhcehlbbmaaGreatDoor
set_option maxRecDepth 20000
open Go.RowKit

/-- strconv's table lies in the world. -/
def TabOk (w : World) : Prop := Lib.TabIs Tryz.prog w "internal/strconv.uint64pow10" .u64 Lib.pow10Tab
theorem TabOk.kept {w w' : World} (h : TabOk w) (hb : Below w.heap.size w w') : TabOk w' := by
  unfold TabOk Lib.TabIs World.var? at *
  cases hg : Tryz.prog.globalNamed "internal/strconv.uint64pow10" with
  | none => rw [hg] at h; cases h
  | some g =>
    rw [hg] at h
    simp only [Option.bind_some] at h ⊢
    have hlt : g < w.heap.size := by
      rcases Nat.lt_or_ge g w.heap.size with hl | hl
      · exact hl
      · rw [Array.getElem?_eq_none hl] at h; cases h
    rw [hb.block g hlt]
    exact h

/-- A number's text; numbers' texts with a blank between each two. -/
def numT : List Int → List UInt8
  | [] => []
  | z :: zs => Lib.itoa z ++ zs.flatMap fun y => 32 :: Lib.itoa y
theorem numT_one (z : Int) : numT [z] = Lib.itoa z := by simp [numT]
theorem numT_snoc (zs : List Int) (y : Int) (h : zs ≠ []) : numT (zs ++ [y]) = numT zs ++ [32] ++ Lib.itoa y := by
  cases zs with
  | nil => exact absurd rfl h
  | cons z zs => simp [numT]

theorem itoa_any (n : Int) (w : World) (h : In64 n) (ht : TabOk w) : Calls Tryz.prog 86 #[.int .i64 n] w fun e w' => e = .returned (.string (bs (Lib.itoa n))) ∧ Below w.heap.size w w' := by
  refine (Tryz.strconv_Itoa n h.1 h.2 w ht).mono ?_
  rintro e w' ⟨rfl, k, os, rfl⟩
  exact ⟨rfl, Lib.below_grow _ _ (Nat.le_refl _) _ _⟩

theorem length_numT (zs : List Int) (h : ∀ z ∈ zs, In64 z) : (numT zs).length ≤ 22 * zs.length := by
  cases zs with
  | nil => simp [numT]
  | cons z zs =>
    have h0 := Lib.itoa_length_le z (h z (by simp)).1 (h z (by simp)).2
    have h1 : (zs.flatMap fun y => 32 :: Lib.itoa y).length ≤ 22 * zs.length := by
      have hh : ∀ y ∈ zs, In64 y := fun y hy => h y (by simp [hy])
      clear h h0
      induction zs with
      | nil => simp
      | cons y ys ih =>
        have h2 := Lib.itoa_length_le y (hh y (by simp)).1 (hh y (by simp)).2
        have h3 := ih (fun x hx => hh x (by simp [hx]))
        rw [List.flatMap_cons, List.length_append, List.length_cons, List.length_cons]
        omega
    unfold numT
    rw [List.length_append, List.length_cons]
    omega

set_option maxHeartbeats 2000000 in
theorem inDigits_any (n : Nat) (a : Option Addr) (zs : List Int) (cap : Nat) (w : World) (hn : zs.length = n) (hz : Ints w a zs) (h6 : n ≤ 6) (h64 : ∀ z ∈ zs, In64 z) (ht : TabOk w) :
    Calls Tryz.prog 85 #[.slice a n cap] w fun e w' => e = .returned (.string (bs (numT zs))) ∧ Below w.heap.size w w' := by
  have HN := hid hn; have HZ := hid hz; have H64 := hid h64; have HT := hid ht
  clear hn hz h64 ht
  go_enter Tryz.func85, Tryz.ntmps85
  go_wp2_with fail
  go_loopw [3, 4] (fun t i wr => ∃ k : Nat, k ≤ n ∧ i = .int .i64 (k : Int) ∧ t = .string (bs (numT (zs.take k))) ∧ Below w.heap.size w wr) (fun _ i _ => n - (intOf i).toNat)
  case atStart => exact ⟨0, Nat.zero_le _, rfl, rfl, Below.refl _ _⟩
  case round =>
    obtain ⟨k, hk, rfl, rfl, hbel⟩ := hrel
    by_cases hlt : k < n
    · have hkl : k < zs.length := by rw [HN.out]; exact hlt
      obtain ⟨b, off, rfl, hc⟩ := (HZ.out.kept hbel).at (by omega)
      have h0 := hc k hkl
      have HE : Hid (zs.take (k + 1) = zs.take k ++ [zs[k]]) := List.take_succ_eq_append_getElem hkl
      have hz := H64.out _ (List.getElem_mem hkl)
      have hlk := length_numT (zs.take k) (fun z hz => H64.out z (List.mem_of_mem_take hz))
      have hli := Lib.itoa_length_le zs[k] hz.1 hz.2
      have HI : Hid (∀ w', Below w.heap.size w w' → Calls Tryz.prog 86 #[.int .i64 zs[k]] w' fun e w2 => e = .returned (.string (bs (Lib.itoa zs[k]))) ∧ Below w'.heap.size w' w2) := fun w' hb => itoa_any _ w' hz (HT.out.kept hb)
      have HTK : Hid ((zs.take k).length = k) := by show _ = _; rw [List.length_take]; omega
      rw [HTK.out] at hlk
      generalize zs[k] = z at *
      have z1 : (bs (numT (zs.take k))).size ≤ 132 := by rw [size_bs]; omega
      have z2 : (bs (Lib.itoa z)).size ≤ 21 := by rw [size_bs]; exact hli
      clear hc hkl hz hlk hli
      by_cases hk0 : k = 0
      · subst hk0
        rw [Nat.add_zero] at h0
        have HX : Hid (bs (numT (zs.take 0)) ++ bs (Lib.itoa z) = bs (numT (zs.take (0 + 1)))) := by
          show _ = _
          rw [HE.out, List.take_zero, List.nil_append, numT_one, bs_append]; rfl
        generalize bs (numT (zs.take 0)) = t0 at *
        generalize bs (Lib.itoa z) = t1 at *
        go_wp2_with fail
        refine (HI.out _ hbel).mono ?_
        rintro e w2 ⟨rfl, hb2⟩
        have hk2 := kept hbel hb2
        go_wp2_with fail
        go_roundw
        case rel => exact ⟨1, by omega, by go_num, by rw [HX.out], hk2⟩
        case measure => simp [intOf]; omega
      · have HX : Hid (bs (numT (zs.take k)) ++ bs [32] ++ bs (Lib.itoa z) = bs (numT (zs.take (k + 1)))) := by
          show _ = _
          rw [HE.out, numT_snoc _ _ (fun h => by have := HTK.out; rw [h] at this; simp at this; omega), bs_append, bs_append]
        generalize bs (numT (zs.take k)) = t0 at *
        generalize bs (Lib.itoa z) = t1 at *
        go_wp2_with fail
        refine (HI.out _ hbel).mono ?_
        rintro e w2 ⟨rfl, hb2⟩
        have hk2 := kept hbel hb2
        go_wp2_with fail
        go_roundw
        case rel => exact ⟨k + 1, by omega, by go_num, by rw [← HX.out]; rfl, hk2⟩
        case measure => simp [intOf]; omega
    · have HX : Hid (zs.take k = zs) := List.take_of_length_le (by rw [HN.out]; omega)
      rw [HX.out]
      obtain ⟨t0, HT0⟩ : ∃ t0, Hid (t0 = bs (numT zs)) := ⟨_, rfl⟩
      rw [← HT0.out]
      go_wp2_with fail
      go_ret
      exact ⟨by rw [← HT0.out]; rfl, hbel⟩

def evI (e : Ev) : List Int := [e.loan, e.kind, e.amount, e.day]
/-- An event's entry. -/
def entryT (e : Ev) : List UInt8 := numT (evI e)
theorem Ints.four (w : World) (x y z u : Int) : Ints (w.alloc (.cells #[.int .i64 x, .int .i64 y, .int .i64 z, .int .i64 u] 3)) (some ⟨w.heap.size, 0, none⟩) [x, y, z, u] := by
  obtain ⟨h0, h1, h2, h3⟩ := cell_four w (.int .i64 x) (.int .i64 y) (.int .i64 z) (.int .i64 u) 3
  refine .inr ⟨w.heap.size, 0, rfl, fun i hi => ?_⟩
  match i, hi with
  | 0, _ => exact h0
  | 1, _ => exact h1
  | 2, _ => exact h2
  | 3, _ => exact h3
  | i + 4, hi => exact absurd hi (by simp only [List.length_cons, List.length_nil]; omega)

theorem ints4_any (x y z u : Int) (g : Nat) (w : World) (hx : In64 x) (hy : In64 y) (hz : In64 z) (hu : In64 u) (ht : TabOk w) (hg : g = w.heap.size) :
    Calls Tryz.prog 85 #[.slice (some ⟨g, 0, none⟩) 4 4] (w.alloc (.cells #[.int .i64 x, .int .i64 y, .int .i64 z, .int .i64 u] 3)) fun r w2 => r = .returned (.string (bs (numT [x, y, z, u]))) ∧ Below w.heap.size w w2 := by
  subst hg
  refine (inDigits_any 4 _ [x, y, z, u] 4 _ rfl (Ints.four w x y z u) (by omega) (fun k hk => ?_) (ht.kept ((Below.refl _ _).alloc (Nat.le_refl _) _))).mono fun r w2 ⟨h1, h2⟩ => ⟨h1, kept ((Below.refl _ _).alloc (Nat.le_refl _) _) h2⟩
  simp only [List.mem_cons, List.not_mem_nil, or_false] at hk
  rcases hk with rfl | rfl | rfl | rfl
  · exact hx
  · exact hy
  · exact hz
  · exact hu

set_option maxHeartbeats 2000000 in
theorem entryOf_any (e : Ev) (w : World) (h : Ev64 e) (ht : TabOk w) :
    Calls Tryz.prog 70 #[evV e] w fun r w' => r = .returned (.string (bs (entryT e))) ∧ Below w.heap.size w w' := by
  have HD : Hid (∀ w', Below w.heap.size w w' → ∀ g, g = w'.heap.size → Calls Tryz.prog 85 #[.slice (some ⟨g, 0, none⟩) 4 4] (w'.alloc (.cells #[.int .i64 e.loan, .int .i64 e.kind, .int .i64 e.amount, .int .i64 e.day] 3)) fun r w2 => r = .returned (.string (bs (entryT e))) ∧ Below w'.heap.size w' w2) := fun w' hb g hg =>
    ints4_any e.loan e.kind e.amount e.day g w' h.1 h.2.1 h.2.2.1 h.2.2.2 (ht.kept hb) hg
  generalize bs (entryT e) = t at *
  obtain ⟨el, ek, ea, ed⟩ := e
  unfold evV
  simp only at HD
  clear h
  go_enter Tryz.func70, Tryz.ntmps70
  go_wp2_with fail
  refine (HD.out _ ((Below.refl _ _).alloc (Nat.le_refl _) _) _ (by simp)).mono ?_
  rintro e w1 ⟨rfl, hb1⟩
  go_wp2_with fail
  go_ret
  exact ⟨rfl, kept ((Below.refl _ _).alloc (Nat.le_refl _) _) hb1⟩

/-- The entries of events. -/
def entriesB (es : List Ev) : List ByteArray := es.map fun e => bs (entryT e)

set_option maxHeartbeats 2000000 in
theorem entries_any (n : Nat) (a : Option Addr) (es : List Ev) (cap : Nat) (w : World) (hn : es.length = n) (hs : Evs w a es) (hlt : ∀ b, a = some ⟨b, 0, none⟩ → b < w.heap.size) (hg : GoodE es) (ht : TabOk w) :
    Calls Tryz.prog 43 #[.slice a n cap] w fun e w' => ∃ v, e = .returned v ∧ OwnS w' w.heap.size v (entriesB es) ∧ Below w.heap.size w w' := by
  have HN := hid hn; have HS := hid hs; have HLT := hid hlt; have HG := hid hg; have HT := hid ht
  have h200 : n ≤ 200 := by rw [← hn]; exact hg.1
  clear hn hs hlt hg ht
  go_enter Tryz.func43, Tryz.ntmps43
  go_wp2_with fail
  go_loopw [3, 4, 5] (fun v i _ wr => ∃ k : Nat, k ≤ n ∧ i = .int .i64 (k : Int) ∧ Hid (OwnS wr w.heap.size v (entriesB (es.take k))) ∧ Below w.heap.size w wr) (fun _ i _ _ => n - (intOf i).toNat)
  case atStart => exact ⟨0, Nat.zero_le _, rfl, World.ownsRow_made w #[] 0 (Nat.le_refl _) (Nat.zero_le _) rfl, (Below.refl _ _).alloc (Nat.le_refl _) _⟩
  case round =>
    obtain ⟨k, hk, rfl, HO, hbel⟩ := hrel
    have hszr := hbel.size
    by_cases hlt : k < n
    · have hkl : k < es.length := by rw [HN.out]; exact hlt
      obtain ⟨b, rfl, hc⟩ := (HS.out.under hbel HLT.out).at (by omega)
      obtain ⟨h0, h1, h2, h3⟩ := hc k hkl
      have HTK : Hid (entriesB (es.take (k + 1)) = entriesB (es.take k) ++ [bs (entryT es[k])]) := by show _ = _; unfold entriesB; rw [takeE_snoc es k hkl, List.map_append]; rfl
      have HLK : Hid ((entriesB (es.take k)).length ≤ 1000000) := by show _ ≤ _; unfold entriesB; rw [List.length_map, List.length_take]; omega
      have HEN : Hid (∀ w', Below w.heap.size w w' → Calls Tryz.prog 70 #[evV es[k]] w' fun r w2 => r = .returned (.string (bs (entryT es[k]))) ∧ Below w'.heap.size w' w2) := fun w' hb => entryOf_any es[k] w' ((good_mid es k hkl HG.out).1.in64) (HT.out.kept hb)
      unfold evV at HEN
      generalize bs (entryT es[k]) = t at *
      generalize es[k] = e at *
      obtain ⟨el, ek, ea, ed⟩ := e
      simp only at h0 h1 h2 h3 HEN
      clear hc hkl
      obtain ⟨c0, cp0, rfl, _, _, _⟩ := HO.out.form
      go_wp2_with fail
      refine (HEN.out _ hbel).mono ?_
      rintro e w2 ⟨rfl, hb2⟩
      have hk2 := kept hbel hb2
      have HO2 := hid (HO.out.kept hb2)
      have hsz2 := hk2.size
      clear h0 h1 h2 h3
      go_wp2_with (at_builtin; refine wpList_appS rfl _ _ rfl w.heap.size _ _ t rfl (HO2.out.alloc _) w2.heap.size 1 rfl (cell_alloc_one _ _ _) HLK.out (by simp; omega) ?_)
      intro v' w3 hO3 hb3 _
      have HO3 : Hid (OwnS w3 w.heap.size v' (entriesB (es.take (k + 1)))) := by show OwnS _ _ _ _; rw [HTK.out]; exact hO3
      have hk3 : Below w.heap.size w w3 := (hk2.alloc hsz2 _).trans hb3
      obtain ⟨c3, cp3, hv3, _, _, _⟩ := HO3.out.form
      clear hO3 hb3
      go_wp2_with fail
      go_roundw
      case rel => exact ⟨k + 1, by omega, by go_num, HO3, hk3⟩
      case measure => simp [intOf]; omega
    · have HE : Hid (es.take k = es) := List.take_of_length_le (by rw [HN.out]; omega)
      rw [HE.out] at HO
      obtain ⟨c0, cp0, rfl, _, _, _⟩ := HO.out.form
      go_wp2_with fail
      go_ret
      exact ⟨_, rfl, HO.out, hbel⟩

set_option maxHeartbeats 2000000 in
theorem log_any (w : World) (S : Nat → Prop) (v : Value) (es : List Ev) (h : Rep w S v es) (ht : TabOk w) :
    Calls Tryz.prog 21 #[v] w fun r w' => ∃ u, r = .returned u ∧ OwnS w' w.heap.size u (entriesB es) ∧ Below w.heap.size w w' := by
  obtain ⟨p, u, rfl, hp, hu, _, hg, _⟩ := h
  obtain ⟨a, cap, rfl, _, _, hE, hlt⟩ := hu.form
  have hc := cell_one hp
  have HEN := hid (entries_any es.length a es cap w rfl hE hlt hg ht)
  clear hp hu hE hlt hg
  generalize es.length = n at *
  go_enter Tryz.func21, Tryz.ntmps21
  go_wp2_with fail
  refine HEN.out.mono ?_
  rintro e w1 ⟨v1, rfl, hO, hb1⟩
  obtain ⟨c0, cp0, rfl, _, _, _⟩ := hO.form
  have HO := hid hO
  clear hO
  go_wp2_with fail
  go_ret
  exact ⟨_, rfl, HO.out, hb1⟩

end Go.Proofs.YtedblhcehlbbmaaGreatDoor


/-
  THE PLAIN MATHEMATICS OF AN ACCOUNT AND OF THE LOANS' SUM.
-/
namespace Go.Proofs.YtedblhcehlbbmaaGreatDoor
set_option maxRecDepth 20000

/-- An account. -/
structure Acc where
  loan : Int
  st : St
  size : Int
  log : Int
  p0 : Int
  p1 : Int
  p2 : Int
  p3 : Int
  p4 : Int
  p5 : Int
def Acc.path (a : Acc) : List Int := [a.p0, a.p1, a.p2, a.p3, a.p4, a.p5]
theorem Acc.path_len (a : Acc) : a.path.length = 6 := rfl
def accV (a : Acc) : Value := .agg #[.int .i64 a.loan, .int .i64 a.st.principal, .int .i64 a.st.due, .int .i64 a.st.rate, .int .i64 a.st.day, .int .i64 a.st.spare, .int .i64 a.st.count, .int .i64 a.size, .int .i64 a.log, .int .i64 a.p0, .int .i64 a.p1, .int .i64 a.p2, .int .i64 a.p3, .int .i64 a.p4, .int .i64 a.p5]
def stI (s : St) : List Int := [s.principal, s.due, s.rate, s.day, s.spare, s.count]
/-- Numbers that an int may be. -/
def St64 (s : St) : Prop := ∀ z ∈ stI s, In64 z
def Acc64 (a : Acc) : Prop := In64 a.loan ∧ St64 a.st ∧ In64 a.size ∧ In64 a.log ∧ ∀ z ∈ a.path, In64 z

/-- The texts: of a state, of two neighbours, of the head. -/
def stT (s : St) : List UInt8 := 83 :: numT (stI s)
def pairT (x y : Int) : List UInt8 := 77 :: (two x ++ two y)
def headT (n l m : Int) : List UInt8 := 72 :: (two n ++ two l ++ two m)
/-- The text at depth d on the way from an account's state. -/
def accT (a : Acc) : Nat → List UInt8
  | 0 => stT a.st
  | d + 1 => if a.loan / 2 ^ d % 2 = 0 then pairT (sm (accT a d)) (a.path.getD d 0) else pairT (a.path.getD d 0) (sm (accT a d))
def accX (a : Acc) (d : Nat) : Int := sm (accT a d)
theorem accX_bd (a : Acc) (d : Nat) : Bd (accX a d) := sm_bd _
theorem accX_succ (a : Acc) (d : Nat) : accX a (d + 1) = if a.loan / 2 ^ d % 2 = 0 then sm (pairT (accX a d) (a.path.getD d 0)) else sm (pairT (a.path.getD d 0) (accX a d)) := by
  unfold accX; rw [accT]; split <;> rfl
/-- What an account shows. -/
def accTop (a : Acc) : Int := sm (headT a.size a.log (accX a 6))
/-- May an account's numbers be? -/
def fitsB (a : Acc) : Bool := (stI a.st).all (fun z => decide (0 ≤ z)) && (a.log :: a.path).all (fun z => decide (0 ≤ z ∧ z ≤ 4092)) && decide (0 ≤ a.loan ∧ a.loan ≤ 63) && decide (0 ≤ a.size ∧ a.size ≤ 200)
/-- Is an account accepted under this top? -/
def accB (top : Int) (a : Acc) : Bool := fitsB a && decide (accTop a = top)
structure FitsA (a : Acc) : Prop where
  st : ∀ z ∈ stI a.st, 0 ≤ z
  sums : ∀ z ∈ a.log :: a.path, Bd z
  loan : 0 ≤ a.loan ∧ a.loan ≤ 63
  size : 0 ≤ a.size ∧ a.size ≤ 200
theorem fitsB_true {a : Acc} (h : fitsB a = true) : FitsA a := by
  unfold fitsB at h
  rw [Bool.and_eq_true, Bool.and_eq_true, Bool.and_eq_true, decide_eq_true_eq, decide_eq_true_eq, List.all_eq_true, List.all_eq_true] at h
  exact ⟨fun z hz => of_decide_eq_true (h.1.1.1 z hz), fun z hz => of_decide_eq_true (p := 0 ≤ z ∧ z ≤ 4092) (h.1.1.2 z hz), h.1.2, h.2⟩
theorem fitsB_of {a : Acc} (h : FitsA a) : fitsB a = true := by
  unfold fitsB
  rw [Bool.and_eq_true, Bool.and_eq_true, Bool.and_eq_true, decide_eq_true_eq, decide_eq_true_eq, List.all_eq_true, List.all_eq_true]
  exact ⟨⟨⟨fun z hz => decide_eq_true (h.st z hz), fun z hz => decide_eq_true (h.sums z hz)⟩, h.loan⟩, h.size⟩
theorem fitsB_not {a : Acc} (h : ¬ FitsA a) : fitsB a = false := by
  cases hb : fitsB a
  · rfl
  · exact absurd (fitsB_true hb) h

theorem half_pow (x : Int) (k : Nat) : x / 2 ^ (k + 1) = x / 2 ^ k / 2 := by
  rw [Int.pow_succ]
  exact (Int.ediv_ediv_of_nonneg (Int.le_of_lt (Int.pow_pos (by omega)))).symm
theorem FitsA.up {a : Acc} (h : FitsA a) (k : Nat) : 0 ≤ a.loan / 2 ^ k ∧ a.loan / 2 ^ k ≤ 63 :=
  ⟨Int.ediv_nonneg h.loan.1 (Int.le_of_lt (Int.pow_pos (by omega))), Int.le_trans (Int.ediv_le_self _ h.loan.1) h.loan.2⟩
theorem length_stT (s : St) (h : St64 s) : (stT s).length ≤ 133 := by
  have := length_numT (stI s) h
  unfold stT
  rw [List.length_cons]
  have : (stI s).length = 6 := rfl
  omega
theorem length_pairT (x y : Int) : (pairT x y).length = 5 := rfl
theorem length_headT (n l m : Int) : (headT n l m).length = 7 := rfl
theorem pair_str (x y : Int) : ((⟨#[77]⟩ : ByteArray) ++ bs (two x)) ++ bs (two y) = bs (pairT x y) := by
  have : (⟨#[77]⟩ : ByteArray) = bs [77] := rfl
  rw [this, bs_append, bs_append]; rfl
theorem head_str (n l m : Int) : (((⟨#[72]⟩ : ByteArray) ++ bs (two n)) ++ bs (two l)) ++ bs (two m) = bs (headT n l m) := by
  have : (⟨#[72]⟩ : ByteArray) = bs [72] := rfl
  rw [this, bs_append, bs_append, bs_append]; rfl
theorem st_str (s : St) : (⟨#[83]⟩ : ByteArray) ++ bs (numT (stI s)) = bs (stT s) := by
  have : (⟨#[83]⟩ : ByteArray) = bs [83] := rfl
  rw [this, bs_append]; rfl

end Go.Proofs.YtedblhcehlbbmaaGreatDoor


/-
  THE PLAIN MATHEMATICS OF THE HEAD: the loans' sum, the book's own account, what is calm.
-/
namespace Go.Proofs.YtedblhcehlbbmaaGreatDoor
set_option maxRecDepth 20000

/-- The sum at depth d, the j-th. -/
def mapL (f : Nat → St) : Nat → Nat → Int
  | 0, j => sm (stT (f j))
  | d + 1, j => sm (pairT (mapL f d (2 * j)) (mapL f d (2 * j + 1)))
theorem mapL_bd (f : Nat → St) (d j : Nat) : Bd (mapL f d j) := by cases d <;> exact sm_bd _
def stF (es : List Ev) (j : Nat) : St := stOf es (j : Int)
/-- The head. -/
def logOf (es : List Ev) : Int := rootS (entriesB es)
def mapOf (es : List Ev) : Int := mapL (stF es) 6 0
def topOf (es : List Ev) : Int := sm (headT (es.length : Int) (logOf es) (mapOf es))
theorem logOf_bd (es : List Ev) : Bd (logOf es) := rootS_bd _
theorem topOf_bd (es : List Ev) : Bd (topOf es) := sm_bd _
/-- The one beside the j-th. -/
def nextTo (j : Nat) : Nat := if j % 2 = 0 then j + 1 else j - 1
/-- The sum at depth d beside the loan's own. -/
def sideL (f : Nat → St) (l d : Nat) : Int := mapL f d (nextTo (l / 2 ^ d))
/-- The book's own account. -/
def accOf (es : List Ev) (l : Nat) : Acc := ⟨(l : Int), stOf es (l : Int), (es.length : Int), logOf es, sideL (stF es) l 0, sideL (stF es) l 1, sideL (stF es) l 2, sideL (stF es) l 3, sideL (stF es) l 4, sideL (stF es) l 5⟩
theorem accOf_path (es : List Ev) (l d : Nat) (h : d < 6) : (accOf es l).path.getD d 0 = sideL (stF es) l d := by
  match d, h with
  | 0, _ => rfl
  | 1, _ => rfl
  | 2, _ => rfl
  | 3, _ => rfl
  | 4, _ => rfl
  | 5, _ => rfl
theorem cast_div (l d : Nat) : ((l : Int) / 2 ^ d) = ((l / 2 ^ d : Nat) : Int) := by simp
theorem half_nat (l d : Nat) : l / 2 ^ (d + 1) = l / 2 ^ d / 2 := by rw [Nat.pow_succ, Nat.div_div_eq_div_mul]
theorem accOf_X (es : List Ev) (l d : Nat) (h : d ≤ 6) : accX (accOf es l) d = mapL (stF es) d (l / 2 ^ d) := by
  induction d with
  | zero => simp [accX, accT, accOf, mapL, stF]
  | succ d ih =>
    rw [accX_succ, ih (by omega), accOf_path es l d (by omega), half_nat]
    have e : (accOf es l).loan / 2 ^ d = ((l / 2 ^ d : Nat) : Int) := cast_div l d
    rw [e]
    unfold sideL
    generalize l / 2 ^ d = j
    by_cases hj : j % 2 = 0
    · rw [if_pos (by omega)]
      unfold nextTo
      rw [if_pos hj]
      have h2 : 2 * (j / 2) = j := by omega
      show _ = sm (pairT (mapL (stF es) d (2 * (j / 2))) (mapL (stF es) d (2 * (j / 2) + 1)))
      rw [h2]
    · rw [if_neg (by omega)]
      unfold nextTo
      rw [if_neg hj]
      have h2 : 2 * (j / 2) + 1 = j := by omega
      have h3 : 2 * (j / 2) = j - 1 := by omega
      show _ = sm (pairT (mapL (stF es) d (2 * (j / 2))) (mapL (stF es) d (2 * (j / 2) + 1)))
      rw [h2, h3]
theorem accOf_fits (es : List Ev) (l : Nat) (hl : l < 64) (hg : GoodE es) : FitsA (accOf es l) := by
  have hb := bd200 es (l : Int) hg
  refine ⟨fun z hz => ?_, fun z hz => ?_, ⟨?_, ?_⟩, ⟨?_, ?_⟩⟩
  · simp only [accOf, stI, List.mem_cons, List.not_mem_nil, or_false] at hz
    rcases hz with rfl | rfl | rfl | rfl | rfl | rfl
    · exact hb.p0
    · exact hb.d0
    · exact hb.r0
    · exact hb.y0
    · exact hb.s0
    · exact hb.c0
  · simp only [accOf, Acc.path, List.mem_cons, List.not_mem_nil, or_false] at hz
    rcases hz with rfl | rfl | rfl | rfl | rfl | rfl | rfl
    · exact logOf_bd es
    all_goals exact mapL_bd _ _ _
  · show (0 : Int) ≤ (l : Int); omega
  · show (l : Int) ≤ 63; omega
  · show (0 : Int) ≤ (es.length : Int); omega
  · show (es.length : Int) ≤ 200; have := hg.1; omega
/-- P14: the account shows the head's top. -/
theorem accOf_ok (es : List Ev) (l : Nat) (hl : l < 64) (hg : GoodE es) : accB (topOf es) (accOf es l) = true := by
  unfold accB
  rw [fitsB_of (accOf_fits es l hl hg), Bool.true_and, decide_eq_true_eq]
  unfold accTop
  rw [accOf_X es l 6 (by omega), show l / 2 ^ 6 = 0 by omega]
  rfl
theorem st64_of (es : List Ev) (loan : Int) (hg : GoodE es) : St64 (stOf es loan) := by
  have hb := bd200 es loan hg
  obtain ⟨a1, a2, a3, a4, a5, a6, a7, a8, a9, a10, a11, a12⟩ := hb
  intro z hz
  simp only [stI, List.mem_cons, List.not_mem_nil, or_false] at hz
  unfold In64
  rcases hz with rfl | rfl | rfl | rfl | rfl | rfl <;> omega
theorem bd_64 {z : Int} (h : Bd z) : In64 z := by obtain ⟨h1, h2⟩ := h; exact ⟨by omega, by omega⟩
theorem accOf_64 (es : List Ev) (l : Nat) (hl : l < 64) (hg : GoodE es) : Acc64 (accOf es l) := by
  have h200 := hg.1
  refine ⟨⟨?_, ?_⟩, st64_of es _ hg, ⟨?_, ?_⟩, bd_64 (logOf_bd es), fun z hz => ?_⟩
  · show _ ≤ (l : Int); omega
  · show (l : Int) ≤ _; omega
  · show _ ≤ (es.length : Int); omega
  · show (es.length : Int) ≤ _; omega
  · exact bd_64 ((accOf_fits es l hl hg).sums z (List.mem_cons_of_mem _ hz))

/-- Is there nothing to give away? -/
def sameA (es : List Ev) (a : Acc) : Bool := decide (a.size = (es.length : Int)) && decide (a.log = logOf es) && decide (stI a.st = stI (stOf es a.loan))
def calmB (es : List Ev) (a : Acc) : Bool := !accB (topOf es) a || sameA es a
/-- The texts of an account; of a book. -/
def accTs (a : Acc) : List (List UInt8) := [accT a 0, accT a 1, accT a 2, accT a 3, accT a 4, accT a 5, accT a 6, headT a.size a.log (accX a 6)]
def BookT (es : List Ev) (t : List UInt8) : Prop := (∃ j, j < 64 ∧ t = stT (stF es j)) ∨ (∃ d j, d < 6 ∧ j < 2 ^ (5 - d) ∧ t = pairT (mapL (stF es) d (2 * j)) (mapL (stF es) d (2 * j + 1))) ∨ t = headT (es.length : Int) (logOf es) (mapOf es)
/-- Two texts that give every false account away. -/
structure LieOk (lx ly : List Ev → Acc → List UInt8) : Prop where
  ne : ∀ es a, GoodE es → Acc64 a → calmB es a = false → lx es a ≠ ly es a
  eq : ∀ es a, GoodE es → Acc64 a → calmB es a = false → sm (lx es a) = sm (ly es a)
  acc : ∀ es a, GoodE es → Acc64 a → calmB es a = false → lx es a ∈ accTs a
  book : ∀ es a, GoodE es → Acc64 a → calmB es a = false → BookT es (ly es a)
theorem length_accTs (a : Acc) (h : Acc64 a) : ∀ t ∈ accTs a, t.length ≤ 133 := by
  have hp : ∀ d, (accT a (d + 1)).length = 5 := fun d => by rw [accT]; split <;> rfl
  intro t ht
  simp only [accTs, List.mem_cons, List.not_mem_nil, or_false] at ht
  rcases ht with rfl | rfl | rfl | rfl | rfl | rfl | rfl | rfl
  · exact length_stT a.st h.2.1
  all_goals first
    | (rw [hp]; omega)
    | (rw [length_headT]; omega)
theorem length_BookT (es : List Ev) (t : List UInt8) (hg : GoodE es) (h : BookT es t) : t.length ≤ 133 := by
  rcases h with ⟨j, _, rfl⟩ | ⟨d, j, _, _, rfl⟩ | rfl
  · exact length_stT _ (st64_of es _ hg)
  · rw [length_pairT]; omega
  · rw [length_headT]; omega

end Go.Proofs.YtedblhcehlbbmaaGreatDoor


/-
  CONTRACTS: loans.StateText, PairText, HeadText.
-/
namespace Go.Proofs.YtedblhcehlbbmaaGreatDoor
set_option maxRecDepth 20000
open Go.RowKit

theorem Ints.sixL (w : World) (s : St) : Ints (w.alloc (.cells #[.int .i64 s.principal, .int .i64 s.due, .int .i64 s.rate, .int .i64 s.day, .int .i64 s.spare, .int .i64 s.count] 3)) (some ⟨w.heap.size, 0, none⟩) (stI s) := by
  refine .inr ⟨w.heap.size, 0, rfl, fun i hi => ?_⟩
  rw [World.cell?_alloc_mark]
  match i, hi with
  | 0, _ => rfl
  | 1, _ => rfl
  | 2, _ => rfl
  | 3, _ => rfl
  | 4, _ => rfl
  | 5, _ => rfl
  | i + 6, hi => exact absurd hi (by simp only [stI, List.length_cons, List.length_nil]; omega)
theorem ints6_any (s : St) (g : Nat) (w : World) (h : St64 s) (ht : TabOk w) (hg : g = w.heap.size) :
    Calls Tryz.prog 85 #[.slice (some ⟨g, 0, none⟩) 6 6] (w.alloc (.cells #[.int .i64 s.principal, .int .i64 s.due, .int .i64 s.rate, .int .i64 s.day, .int .i64 s.spare, .int .i64 s.count] 3)) fun r w2 => r = .returned (.string (bs (numT (stI s)))) ∧ Below w.heap.size w w2 := by
  subst hg
  exact (inDigits_any 6 _ (stI s) 6 _ rfl (Ints.sixL w s) (by omega) h (ht.kept ((Below.refl _ _).alloc (Nat.le_refl _) _))).mono fun r w2 ⟨h1, h2⟩ => ⟨h1, kept ((Below.refl _ _).alloc (Nat.le_refl _) _) h2⟩

set_option maxHeartbeats 2000000 in
theorem stateText_any (s : St) (w : World) (h : St64 s) (ht : TabOk w) :
    Calls Tryz.prog 89 #[stV s] w fun r w' => r = .returned (.string (bs (stT s))) ∧ Below w.heap.size w w' := by
  have HD : Hid (∀ w', Below w.heap.size w w' → ∀ g, g = w'.heap.size → Calls Tryz.prog 85 #[.slice (some ⟨g, 0, none⟩) 6 6] (w'.alloc (.cells #[.int .i64 s.principal, .int .i64 s.due, .int .i64 s.rate, .int .i64 s.day, .int .i64 s.spare, .int .i64 s.count] 3)) fun r w2 => r = .returned (.string (bs (numT (stI s)))) ∧ Below w'.heap.size w' w2) := fun w' hb g hg =>
    ints6_any s g w' h (ht.kept hb) hg
  have z1 : (bs (numT (stI s))).size ≤ 132 := by rw [size_bs]; exact length_numT (stI s) h
  have HX := hid (st_str s)
  generalize bs (stT s) = u at *
  generalize bs (numT (stI s)) = t at *
  unfold stV
  clear h
  go_enter Tryz.func89, Tryz.ntmps89
  go_wp2_with fail
  refine (HD.out _ ((Below.refl _ _).alloc (Nat.le_refl _) _) _ (by simp)).mono ?_
  rintro e w1 ⟨rfl, hb1⟩
  go_wp2_with fail
  go_ret
  exact ⟨by rw [← HX.out]; rfl, kept ((Below.refl _ _).alloc (Nat.le_refl _) _) hb1⟩

set_option maxHeartbeats 400000 in
theorem pairText_any (a b : Int) (w : World) (ha : Bd a) (hb : Bd b) :
    Calls Tryz.prog 90 #[.int .i64 a, .int .i64 b] w fun e w' => e = .returned (.string (bs (pairT a b))) ∧ Below w.heap.size w w' := by
  have z1 : (bs (two a)).size = 2 := size_bs _
  have z2 : (bs (two b)).size = 2 := size_bs _
  go_enter Tryz.func90, Tryz.ntmps90
  go_wp2_with fail
  refine (twoBytes_any a _ ha.1 (by have := ha.2; omega)).mono ?_
  rintro e w1 ⟨rfl, hb1⟩
  go_wp2_with fail
  refine (twoBytes_any b _ hb.1 (by have := hb.2; omega)).mono ?_
  rintro e w2 ⟨rfl, hb2⟩
  go_wp2_with fail
  go_ret
  exact ⟨by rw [pair_str]; rfl, kept hb1 hb2⟩

set_option maxHeartbeats 400000 in
theorem headText_any (a b c : Int) (w : World) (ha : 0 ≤ a ∧ a ≤ 200) (hb : Bd b) (hc : Bd c) :
    Calls Tryz.prog 48 #[.int .i64 a, .int .i64 b, .int .i64 c] w fun e w' => e = .returned (.string (bs (headT a b c))) ∧ Below w.heap.size w w' := by
  have z1 : (bs (two a)).size = 2 := size_bs _
  have z2 : (bs (two b)).size = 2 := size_bs _
  have z3 : (bs (two c)).size = 2 := size_bs _
  go_enter Tryz.func48, Tryz.ntmps48
  go_wp2_with fail
  refine (twoBytes_any a _ ha.1 (by have := ha.2; omega)).mono ?_
  rintro e w1 ⟨rfl, hb1⟩
  go_wp2_with fail
  refine (twoBytes_any b _ hb.1 (by have := hb.2; omega)).mono ?_
  rintro e w2 ⟨rfl, hb2⟩
  go_wp2_with fail
  refine (twoBytes_any c _ hc.1 (by have := hc.2; omega)).mono ?_
  rintro e w3 ⟨rfl, hb3⟩
  go_wp2_with fail
  go_ret
  exact ⟨by rw [head_str]; rfl, kept (kept hb1 hb2) hb3⟩

end Go.Proofs.YtedblhcehlbbmaaGreatDoor


/-
  CONTRACTS: loans.Text, Sum: the loans' sum, by halves.
-/
namespace Go.Proofs.YtedblhcehlbbmaaGreatDoor
set_option maxRecDepth 20000
open Go.RowKit

/-- In block b, from cell o on, lie n states: f j, f (j + 1) .. -/
def Sts (w : World) (b o n : Nat) (f : Nat → St) (j : Nat) : Prop := ∀ i, i < n →
  w.cell? ⟨b, o + i * 6, none⟩ = some (.int .i64 (f (j + i)).principal) ∧ w.cell? ⟨b, o + i * 6 + 1, none⟩ = some (.int .i64 (f (j + i)).due) ∧ w.cell? ⟨b, o + i * 6 + 2, none⟩ = some (.int .i64 (f (j + i)).rate) ∧
  w.cell? ⟨b, o + i * 6 + 3, none⟩ = some (.int .i64 (f (j + i)).day) ∧ w.cell? ⟨b, o + i * 6 + 4, none⟩ = some (.int .i64 (f (j + i)).spare) ∧ w.cell? ⟨b, o + i * 6 + 5, none⟩ = some (.int .i64 (f (j + i)).count)
theorem Sts.kept {w w' : World} {b o n j : Nat} {f : Nat → St} (h : Sts w b o n f j) (hb : Below w.heap.size w w') : Sts w' b o n f j := fun i hi => by
  obtain ⟨h0, h1, h2, h3, h4, h5⟩ := h i hi
  exact ⟨cell_kept h0 hb, cell_kept h1 hb, cell_kept h2 hb, cell_kept h3 hb, cell_kept h4 hb, cell_kept h5 hb⟩
theorem Sts.first {w : World} {b o n j : Nat} {f : Nat → St} (m : Nat) (hm : m ≤ n) (h : Sts w b o n f j) : Sts w b o m f j := fun i hi => h i (by omega)
theorem Sts.rest {w : World} {b o n j : Nat} {f : Nat → St} (m : Nat) (h : Sts w b o n f j) : Sts w b (o + m * 6) (n - m) f (j + m) := fun i hi => by
  have := h (m + i) (by omega)
  rw [show o + (m + i) * 6 = o + m * 6 + i * 6 by omega, show j + (m + i) = j + m + i by omega] at this
  exact this
/-- The text at depth d, the j-th. -/
def mapT (f : Nat → St) : Nat → Nat → List UInt8
  | 0, j => stT (f j)
  | d + 1, j => pairT (mapL f d (2 * j)) (mapL f d (2 * j + 1))
theorem mapL_T (f : Nat → St) (d j : Nat) : mapL f d j = sm (mapT f d j) := by cases d <;> rfl
theorem length_mapT (f : Nat → St) (d j : Nat) (h : ∀ j, St64 (f j)) : (mapT f d j).length ≤ 133 := by
  cases d with
  | zero => exact length_stT _ (h j)
  | succ d => rw [mapT, length_pairT]; omega

theorem pow_two_mul (j d : Nat) : j * 2 ^ (d + 1) = 2 * j * 2 ^ d := by rw [Nat.pow_succ, Nat.mul_comm (2 ^ d) 2, ← Nat.mul_assoc, Nat.mul_comm j 2]

set_option maxHeartbeats 2000000 in
theorem sumS_of (a : Option Addr) (n cap : Nat) (t : List UInt8) (w : World) (hl : t.length ≤ 133)
    (h : Calls Tryz.prog 73 #[.slice a n cap] w fun e w' => e = .returned (.string (bs t)) ∧ Below w.heap.size w w') :
    Calls Tryz.prog 47 #[.slice a n cap] w fun e w' => e = .returned (.int .i64 (sm t)) ∧ Below w.heap.size w w' := by
  have HT := hid h
  have HS : Hid (∀ w', Calls Tryz.prog 49 #[.string (bs t)] w' fun e w2 => e = .returned (.int .i64 (sm t)) ∧ w2 = w') := fun w' => by
    have := sum_any (bs t) w' (by rw [size_bs]; unfold maxLen; omega)
    rw [toList_bs] at this
    exact this
  generalize bs t = u at *
  generalize sm t = y at *
  clear h
  go_enter Tryz.func47, Tryz.ntmps47
  go_wp2_with fail
  refine HT.out.mono ?_
  rintro e w1 ⟨rfl, hb1⟩
  go_wp2_with fail
  refine (HS.out _).mono ?_
  rintro e w2 ⟨rfl, rfl⟩
  go_wp2_with fail
  go_ret
  exact ⟨rfl, hb1⟩

set_option maxHeartbeats 4000000 in
theorem textS_any (f : Nat → St) (hf : ∀ j, St64 (f j)) (d : Nat) (hd : d ≤ 6) : ∀ (b o cap j : Nat) (w : World), Sts w b o (2 ^ d) f (j * 2 ^ d) → 2 ^ d ≤ cap → cap ≤ maxLen → TabOk w →
    Calls Tryz.prog 73 #[.slice (some ⟨b, o, none⟩) (2 ^ d) cap] w fun e w' => e = .returned (.string (bs (mapT f d j))) ∧ Below w.heap.size w w' := by
  induction d with
  | zero =>
    intro b o cap j w hs hcap hmax ht
    obtain ⟨h0, h1, h2, h3, h4, h5⟩ := hs 0 (by omega)
    simp only [Nat.zero_mul, Nat.add_zero, Nat.pow_zero, Nat.mul_one] at h0 h1 h2 h3 h4 h5 ⊢
    have HT := hid (stateText_any (f j) w (hf j) ht)
    unfold stV at HT
    rw [show mapT f 0 j = stT (f j) from rfl]
    generalize bs (stT (f j)) = t at *
    generalize f j = s at *
    clear hs hcap ht
    go_enter Tryz.func73, Tryz.ntmps73
    go_wp2_with fail
    refine HT.out.mono ?_
    rintro e w1 ⟨rfl, hb1⟩
    go_wp2_with fail
    go_ret
    exact ⟨rfl, hb1⟩
  | succ d ih =>
    intro b o cap j w hs hcap hmax ht
    have hp : 2 ^ (d + 1) = 2 ^ d + 2 ^ d := by rw [Nat.pow_succ]; omega
    have hp1 : 1 ≤ 2 ^ d := Nat.one_le_two_pow
    have hp2 : 2 ^ d ≤ 32 := by
      have : 2 ^ d ≤ 2 ^ 5 := Nat.pow_le_pow_right (by omega) (by omega)
      omega
    have HS1 : Hid (∀ wz, Below w.heap.size w wz → Calls Tryz.prog 47 #[.slice (some ⟨b, o, none⟩) (2 ^ d) cap] wz fun e w' => e = .returned (.int .i64 (mapL f d (2 * j))) ∧ Below wz.heap.size wz w') := fun wz hz => by
      rw [mapL_T]
      refine sumS_of _ _ _ _ wz (length_mapT f d _ hf) (ih (by omega) b o cap (2 * j) wz ?_ (by omega) hmax (ht.kept hz))
      have := (hs.kept hz).first (2 ^ d) (by omega)
      rw [pow_two_mul] at this
      exact this
    have HS2 : Hid (∀ wz, Below w.heap.size w wz → Calls Tryz.prog 47 #[.slice (some ⟨b, o + 2 ^ d * 6, none⟩) (2 ^ d) (cap - 2 ^ d)] wz fun e w' => e = .returned (.int .i64 (mapL f d (2 * j + 1))) ∧ Below wz.heap.size wz w') := fun wz hz => by
      rw [mapL_T]
      refine sumS_of _ _ _ _ wz (length_mapT f d _ hf) (ih (by omega) b (o + 2 ^ d * 6) (cap - 2 ^ d) (2 * j + 1) wz ?_ (by omega) (by omega) (ht.kept hz))
      have := (hs.kept hz).rest (2 ^ d)
      rw [show 2 ^ (d + 1) - 2 ^ d = 2 ^ d by omega, show j * 2 ^ (d + 1) + 2 ^ d = (2 * j + 1) * 2 ^ d by rw [pow_two_mul, Nat.add_mul, Nat.one_mul]] at this
      exact this
    have b1 := mapL_bd f d (2 * j)
    have b2 := mapL_bd f d (2 * j + 1)
    have HP := hid (fun w => pairText_any (mapL f d (2 * j)) (mapL f d (2 * j + 1)) w b1 b2)
    rw [show mapT f (d + 1) j = pairT (mapL f d (2 * j)) (mapL f d (2 * j + 1)) from rfl]
    generalize mapL f d (2 * j) = x1 at *
    generalize mapL f d (2 * j + 1) = x2 at *
    generalize bs (pairT x1 x2) = t at *
    rw [hp] at hcap ⊢
    generalize 2 ^ d = m at *
    clear hs ih ht hp b1 b2
    have HMX := hid hmax
    clear hmax
    go_enter Tryz.func73, Tryz.ntmps73
    go_wp2_with fail
    rw [show (m + m) / 2 = m by omega, show ((m : Int) + (m : Int)) / 2 = (m : Int) by omega]
    refine (HS1.out _ (Below.refl _ _)).mono ?_
    rintro e w1 ⟨rfl, hb1⟩
    have i1 : (0 : Int) ≤ (m : Int) := by omega
    have i2 : (m : Int) ≤ (m : Int) + (m : Int) := by omega
    have i3 : ¬ cap = m := by omega
    have i4 : (m : Int) + (m : Int) ≤ (cap : Int) := by omega
    go_wp2_with fail
    refine (HS2.out _ hb1).mono ?_
    rintro e w2 ⟨rfl, hb2⟩
    go_wp2_with fail
    refine (HP.out _).mono ?_
    rintro e w3 ⟨rfl, hb3⟩
    go_wp2_with fail
    go_ret
    exact ⟨rfl, kept (kept hb1 hb2) hb3⟩

end Go.Proofs.YtedblhcehlbbmaaGreatDoor


/-
  CONTRACT: loans.States: the states of all loans.
-/
namespace Go.Proofs.YtedblhcehlbbmaaGreatDoor
set_option maxRecDepth 20000
open Go.RowKit

theorem Tryz.infoStateA : (Tryz.prog.info? 33).map (fun i => (i.zero, i.size, i.bytes)) = some (some (.agg #[.int .i64 0, .int .i64 0, .int .i64 0, .int .i64 0, .int .i64 0, .int .i64 0]), 6, 48) := by kernel_rfl
/-- A state's cells. -/
def scells (s : St) : List Value := [.int .i64 s.principal, .int .i64 s.due, .int .i64 s.rate, .int .i64 s.day, .int .i64 s.spare, .int .i64 s.count]
def scs (f : Nat → St) : Nat → List Value
  | 0 => []
  | n + 1 => scs f n ++ scells (f n)
theorem length_scs (f : Nat → St) (n : Nat) : (scs f n).length = n * 6 := by
  induction n with
  | zero => rfl
  | succ n ih => rw [scs, List.length_append, ih]; simp [scells]; omega
theorem scs_at (f : Nat → St) (n i k : Nat) (hi : i < n) (hk : k < 6) : (scs f n)[i * 6 + k]? = (scells (f i))[k]? := by
  induction n with
  | zero => omega
  | succ n ih =>
    rw [scs]
    by_cases h : i < n
    · rw [List.getElem?_append_left (by rw [length_scs]; omega), ih h]
    · obtain rfl : i = n := by omega
      rw [List.getElem?_append_right (by rw [length_scs]; omega), length_scs]
      congr 1; omega
/-- The slice v is the call's own (from block B on) and holds the states f 0 .. f (n - 1). -/
def OwnSt (w : World) (B : Nat) (v : Value) (f : Nat → St) (n : Nat) : Prop := w.ownsRow B 33 6 v n (scs f n)
theorem OwnSt.alloc {w : World} {B : Nat} {v : Value} {f : Nat → St} {n : Nat} (h : OwnSt w B v f n) (o : Obj) : OwnSt (w.alloc o) B v f n := World.ownsRow.alloc h o
theorem OwnSt.kept {w w' : World} {B : Nat} {v : Value} {f : Nat → St} {n : Nat} (h : OwnSt w B v f n) (hb : Below w.heap.size w w') : OwnSt w' B v f n := by
  obtain ⟨h1, h2⟩ := h
  refine ⟨h1, ?_⟩
  rcases h2 with h2 | ⟨g, cap, cur, e1, e2, e3, e4⟩
  · exact .inl h2
  · exact .inr ⟨g, cap, cur, e1, e2, by rw [hb.block g (lt_of_block e3)]; exact e3, e4⟩
theorem OwnSt.form {w : World} {B : Nat} {v : Value} {f : Nat → St} {n : Nat} (h : OwnSt w B v f n) : ∃ a cap, v = .slice a n cap ∧ n ≤ cap ∧ cap ≤ maxLen ∧ (0 < n → ∃ g, a = some ⟨g, 0, none⟩ ∧ Sts w g 0 n f 0) := by
  have hh := h
  obtain ⟨h1, h2⟩ := h
  rcases h2 with ⟨rfl, rfl⟩ | ⟨g, cap, cur, rfl, e2, e3, e4, e5, e6, e7⟩
  · exact ⟨none, 0, rfl, Nat.le_refl _, Nat.zero_le _, fun h => by omega⟩
  · refine ⟨_, cap, rfl, e4, e5, fun _ => ⟨g, rfl, fun i hi => ?_⟩⟩
    have hadd : ∀ q, (⟨g, 0, none⟩ : Addr).add q = ⟨g, q, none⟩ := fun q => by simp [Addr.add]; intro h; exact h.symm
    have cc : ∀ k u, k < 6 → (scells (f i))[k]? = some u → w.cell? ⟨g, i * 6 + k, none⟩ = some u := fun k u hk hu => by
      have := World.ownsRow.cells hh (g := g) rfl (i * 6 + k) u (by rw [scs_at f n i k hi hk]; exact hu)
      rw [hadd] at this
      exact this
    simp only [Nat.zero_add]
    exact ⟨cc 0 _ (by omega) rfl, cc 1 _ (by omega) rfl, cc 2 _ (by omega) rfl, cc 3 _ (by omega) rfl, cc 4 _ (by omega) rfl, cc 5 _ (by omega) rfl⟩
/-- 'l = append(l, s)': l the call's own, s one state, laid in a block of its own first. -/
theorem wpList_appSt {w : World} {ops : Array Oper} {rest : List Oper} {o : Oper} {a : Act} {Q : Exit → Act → World → Prop} (hgd : o.guard = none) (s x : Operand)
    (ho : o.op = .call { callee := .builtin .append, args := #[s, x], argTypes := #[89, 89] })
    (B : Nat) (v : Value) (f : Nat → St) (n : Nat) (hs : a.eval s = v) (hown : OwnSt w B v f n) (g : Nat) (c : Nat) (hx : a.eval x = .slice (some ⟨g, 0, none⟩) 1 c)
    (hb : Blk w g (f n)) (hlen : n ≤ 1000000) (hB : B ≤ w.heap.size)
    (h : ∀ v' w', OwnSt w' B v' f (n + 1) → Below B w w' → wpList Tryz.prog ops Q rest (a.put o.dst v') w') : wpList Tryz.prog ops Q (o :: rest) a w := by
  obtain ⟨i0, hi, hz0, hz1, hz2⟩ := info_parts Tryz.infoStateA
  obtain ⟨h0, h1, h2, h3, h4, h5⟩ := hb.six
  refine wpList_append_own _ hgd s x 89 ho B 33 i0 (.agg #[.int .i64 0, .int .i64 0, .int .i64 0, .int .i64 0, .int .i64 0, .int .i64 0]) 6 48 Tryz.underlying89 hi hz0 hz1 hz2 rfl (by decide) v n (scs f n) hs hown ⟨g, 0, none⟩ 1 c (scells (f n)) hx rfl ?_ ?_ (by unfold maxLen; omega) (by omega) hB ?_
  · intro j u hj
    match j, hj with
    | 0, hj => simp [scells] at hj; subst hj; simpa [Addr.add] using h0
    | 1, hj => simp [scells] at hj; subst hj; simpa [Addr.add] using h1
    | 2, hj => simp [scells] at hj; subst hj; simpa [Addr.add] using h2
    | 3, hj => simp [scells] at hj; subst hj; simpa [Addr.add] using h3
    | 4, hj => simp [scells] at hj; subst hj; simpa [Addr.add] using h4
    | 5, hj => simp [scells] at hj; subst hj; simpa [Addr.add] using h5
    | j + 6, hj => simp [scells] at hj
  · intro u hu; simp [scells] at hu; rcases hu with rfl | rfl | rfl | rfl | rfl | rfl <;> rfl
  · intro v' w' h1 h2 _
    exact h v' w' h1 ((Below.refl _ _).grown h2 hB (fun k hk => (hown.lt k hk).1))

set_option maxRecDepth 20000 in
set_option maxHeartbeats 4000000 in
theorem states_any (n : Nat) (a : Option Addr) (es : List Ev) (cap : Nat) (w : World) (hn : es.length = n) (hs : Evs w a es) (hlt : ∀ b, a = some ⟨b, 0, none⟩ → b < w.heap.size) (hg : GoodE es) :
    Calls Tryz.prog 46 #[.slice a n cap] w fun e w' => ∃ v, e = .returned v ∧ OwnSt w' w.heap.size v (stF es) 64 ∧ Below w.heap.size w w' := by
  have HST : Hid (∀ (k : Nat) (wz : World), Below w.heap.size w wz → Calls Tryz.prog 42 #[.slice a n cap, .int .i64 (k : Int)] wz fun r w2 => r = .returned (stV (stF es k)) ∧ Below wz.heap.size wz w2) := fun k wz hz =>
    loansState_any n a es cap (k : Int) wz hn (hs.under hz hlt) (fun b h => Nat.lt_of_lt_of_le (hlt b h) hz.size) hg
  unfold stV at HST
  clear hn hs hlt hg
  generalize stF es = f at *
  go_enter Tryz.func46, Tryz.ntmps46
  go_wp2_with fail
  go_loopw [3, 4, 5] (fun v i _ wr => ∃ k : Nat, k ≤ 64 ∧ i = .int .i64 (k : Int) ∧ Hid (OwnSt wr w.heap.size v f k) ∧ Below w.heap.size w wr) (fun _ i _ _ => 64 - (intOf i).toNat)
  case atStart => exact ⟨0, Nat.zero_le _, rfl, World.ownsRow_made w #[] 0 (Nat.le_refl _) (Nat.zero_le _) rfl, (Below.refl _ _).alloc (Nat.le_refl _) _⟩
  case round =>
    obtain ⟨k, hk, rfl, HO, hbel⟩ := hrel
    have hszr := hbel.size
    by_cases hlt : k < 64
    · obtain ⟨c0, cp0, rfl, _, _, _⟩ := HO.out.form
      have HS := hid (HST.out k wr hbel)
      go_wp2_with fail
      refine HS.out.mono ?_
      rintro e w2 ⟨rfl, hb2⟩
      have hk2 := kept hbel hb2
      have HO2 := hid (HO.out.kept hb2)
      have hsz2 := hk2.size
      have hB : ∀ X, Blk ((w2.alloc X).alloc (.cells #[.int .i64 (f k).principal, .int .i64 (f k).due, .int .i64 (f k).rate, .int .i64 (f k).day, .int .i64 (f k).spare, .int .i64 (f k).count] 33)) (w2.heap.size + 1) (f k) := fun X => by
        have := Blk.new (w2.alloc X) (f k)
        rw [show (w2.alloc X).heap.size = w2.heap.size + 1 by simp] at this
        exact this
      go_wp2_with (at_builtin; refine wpList_appSt rfl _ _ rfl w.heap.size _ f k rfl ((HO2.out.alloc _).alloc _) (w2.heap.size + 1) 1 rfl (hB _) (by omega) (by simp; omega) ?_)
      intro v' w3 hO3 hb3
      have HO3 := hid hO3
      have hk3 : Below w.heap.size w w3 := ((hk2.alloc hsz2 _).alloc (by simp; omega) _).trans hb3
      obtain ⟨c3, cp3, hv3, _, _, _⟩ := HO3.out.form
      clear hO3 hb3 hB
      go_wp2_with fail
      go_roundw
      case rel => exact ⟨k + 1, by omega, by go_num, HO3, hk3⟩
      case measure => simp [intOf]; omega
    · obtain rfl : k = 64 := by omega
      obtain ⟨c0, cp0, rfl, _, _, _⟩ := HO.out.form
      go_wp2_with fail
      go_ret
      exact ⟨_, rfl, HO.out, hbel⟩

end Go.Proofs.YtedblhcehlbbmaaGreatDoor


/-
  TEXTS TELL WHAT THEY ARE MADE OF: two bytes, numbers, states; where a false account and the book's part.
-/
namespace Go.Proofs.YtedblhcehlbbmaaGreatDoor
set_option maxRecDepth 20000

theorem two_inj5 {x y : Int} (hx : 0 ≤ x ∧ x ≤ 65535) (hy : 0 ≤ y ∧ y ≤ 65535) (h : two x = two y) : x = y := by
  unfold two at h
  simp only [List.cons.injEq, and_true] at h
  have e1 := congrArg UInt8.toNat h.1
  have e2 := congrArg UInt8.toNat h.2
  simp at e1 e2
  omega
theorem pairT_inj {a b c d : Int} (ha : Bd a) (hb : Bd b) (hc : Bd c) (hd : Bd d) (h : pairT a b = pairT c d) : a = c ∧ b = d := by
  unfold pairT at h
  rw [List.cons.injEq] at h
  have := List.append_inj h.2 rfl
  obtain ⟨a0, a1⟩ := ha
  obtain ⟨b0, b1⟩ := hb
  obtain ⟨c0, c1⟩ := hc
  obtain ⟨d0, d1⟩ := hd
  exact ⟨two_inj5 ⟨by omega, by omega⟩ ⟨by omega, by omega⟩ this.1, two_inj5 ⟨by omega, by omega⟩ ⟨by omega, by omega⟩ this.2⟩
theorem headT_inj {n l m n' l' m' : Int} (hn : 0 ≤ n ∧ n ≤ 200) (hl : Bd l) (hm : Bd m) (hn' : 0 ≤ n' ∧ n' ≤ 200) (hl' : Bd l') (hm' : Bd m') (h : headT n l m = headT n' l' m') : n = n' ∧ l = l' ∧ m = m' := by
  unfold headT at h
  rw [List.cons.injEq] at h
  have h1 := List.append_inj h.2 rfl
  have h2 := List.append_inj h1.1 rfl
  obtain ⟨l0, l1⟩ := hl
  obtain ⟨m0, m1⟩ := hm
  obtain ⟨l0', l1'⟩ := hl'
  obtain ⟨m0', m1'⟩ := hm'
  exact ⟨two_inj5 ⟨by omega, by omega⟩ ⟨by omega, by omega⟩ h2.1, two_inj5 ⟨by omega, by omega⟩ ⟨by omega, by omega⟩ h2.2, two_inj5 ⟨by omega, by omega⟩ ⟨by omega, by omega⟩ h1.2⟩

/-- The number that digits tell. -/
def valD (l : List UInt8) : Nat := l.foldl (fun s c => 10 * s + (c.toNat - 48)) 0
theorem valD_snoc (l : List UInt8) (c : UInt8) : valD (l ++ [c]) = 10 * valD l + (c.toNat - 48) := by unfold valD; rw [List.foldl_append]; rfl
theorem dig_toNat (k : Nat) (h : k < 10) : (UInt8.ofNat (48 + k)).toNat = 48 + k := by simp; omega
theorem dec_val (n : Nat) : ∀ u, u ≤ n → valD (Lib.decDigits u) = u ∧ (∀ c ∈ Lib.decDigits u, 48 ≤ c.toNat ∧ c.toNat ≤ 57) ∧ Lib.decDigits u ≠ [] := by
  induction n with
  | zero =>
    intro u hu
    obtain rfl : u = 0 := by omega
    rw [Lib.decDigits_one (by omega)]
    refine ⟨rfl, fun c hc => ?_, by simp⟩
    simp only [List.mem_singleton] at hc
    rw [hc, dig_toNat 0 (by omega)]; omega
  | succ n ih =>
    intro u hu
    by_cases h : u < 10
    · rw [Lib.decDigits_one h]
      refine ⟨?_, fun c hc => ?_, by simp⟩
      · have := valD_snoc [] (UInt8.ofNat (48 + u))
        rw [List.nil_append, dig_toNat u h] at this
        rw [this, show valD [] = 0 from rfl]; omega
      · simp only [List.mem_singleton] at hc
        rw [hc, dig_toNat u h]; omega
    · obtain ⟨h1, h2, h3⟩ := ih (u / 10) (by omega)
      rw [Lib.decDigits, dif_neg h]
      refine ⟨?_, fun c hc => ?_, by simp⟩
      · rw [valD_snoc, h1, dig_toNat _ (by omega)]; omega
      · rcases List.mem_append.1 hc with hc | hc
        · exact h2 c hc
        · simp only [List.mem_singleton] at hc
          rw [hc, dig_toNat _ (by omega)]; omega
theorem dec_inj {u v : Nat} (h : Lib.decDigits u = Lib.decDigits v) : u = v := by
  rw [← (dec_val u u (Nat.le_refl _)).1, h, (dec_val v v (Nat.le_refl _)).1]
theorem dec_head (u : Nat) (l : List UInt8) : Lib.decDigits u ≠ 45 :: l := fun h => by
  have := (dec_val u u (Nat.le_refl _)).2.1 45 (by rw [h]; simp)
  simp at this
theorem itoa_inj {x y : Int} (h : Lib.itoa x = Lib.itoa y) : x = y := by
  unfold Lib.itoa at h
  by_cases hx : x < 0
  · by_cases hy : y < 0
    · rw [if_pos hx, if_pos hy, List.cons.injEq] at h
      have := dec_inj h.2
      omega
    · rw [if_pos hx, if_neg hy] at h
      exact absurd h.symm (dec_head _ _)
  · by_cases hy : y < 0
    · rw [if_neg hx, if_pos hy] at h
      exact absurd h (dec_head _ _)
    · rw [if_neg hx, if_neg hy] at h
      have := dec_inj h
      omega
theorem itoa_no (x : Int) : ∀ c ∈ Lib.itoa x, c ≠ 32 := by
  intro c hc e
  subst e
  unfold Lib.itoa at hc
  split at hc
  · rcases List.mem_cons.1 hc with h | h
    · cases h
    · have := (dec_val _ _ (Nat.le_refl _)).2.1 32 h; simp at this
  · have := (dec_val _ _ (Nat.le_refl _)).2.1 32 hc; simp at this
/-- Up to the first blank. -/
theorem cut_blank {a b r s : List UInt8} (ha : ∀ c ∈ a, c ≠ 32) (hb : ∀ c ∈ b, c ≠ 32) (hr : r = [] ∨ ∃ t, r = 32 :: t) (hs : s = [] ∨ ∃ t, s = 32 :: t) (h : a ++ r = b ++ s) : a = b ∧ r = s := by
  induction a generalizing b with
  | nil =>
    cases b with
    | nil => exact ⟨rfl, h⟩
    | cons y b =>
      rcases hr with rfl | ⟨t, rfl⟩
      · simp at h
      · rw [List.nil_append, List.cons_append, List.cons.injEq] at h
        exact absurd h.1.symm (hb y (by simp))
  | cons x a ih =>
    cases b with
    | nil =>
      rcases hs with rfl | ⟨t, rfl⟩
      · simp at h
      · rw [List.nil_append, List.cons_append, List.cons.injEq] at h
        exact absurd h.1 (ha x (by simp))
    | cons y b =>
      rw [List.cons_append, List.cons_append, List.cons.injEq] at h
      have := ih (fun c hc => ha c (by simp [hc])) (fun c hc => hb c (by simp [hc])) h.2
      exact ⟨by rw [h.1, this.1], this.2⟩
theorem flat_form (zs : List Int) : (zs.flatMap fun y => (32 : UInt8) :: Lib.itoa y) = [] ∨ ∃ t, (zs.flatMap fun y => (32 : UInt8) :: Lib.itoa y) = 32 :: t := by
  cases zs with
  | nil => exact .inl rfl
  | cons y ys => exact .inr ⟨_, by rw [List.flatMap_cons, List.cons_append]⟩
theorem flat_inj : ∀ (zs ys : List Int), zs.length = ys.length → (zs.flatMap fun y => (32 : UInt8) :: Lib.itoa y) = (ys.flatMap fun y => (32 : UInt8) :: Lib.itoa y) → zs = ys
  | [], [], _, _ => rfl
  | z :: zs, [], h, _ => by simp at h
  | [], y :: ys, h, _ => by simp at h
  | z :: zs, y :: ys, hl, h => by
    rw [List.flatMap_cons, List.flatMap_cons, List.cons_append, List.cons_append, List.cons.injEq] at h
    have := cut_blank (itoa_no z) (itoa_no y) (flat_form zs) (flat_form ys) h.2
    rw [itoa_inj this.1, flat_inj zs ys (by simpa using hl) this.2]
theorem numT_inj (zs ys : List Int) (hl : zs.length = ys.length) (h : numT zs = numT ys) : zs = ys := by
  cases zs with
  | nil => cases ys with
    | nil => rfl
    | cons y ys => simp at hl
  | cons z zs => cases ys with
    | nil => simp at hl
    | cons y ys =>
      unfold numT at h
      have := cut_blank (itoa_no z) (itoa_no y) (flat_form zs) (flat_form ys) h
      rw [itoa_inj this.1, flat_inj zs ys (by simpa using hl) this.2]
theorem stT_inj {s t : St} (h : stT s = stT t) : stI s = stI t := by
  unfold stT at h
  rw [List.cons.injEq] at h
  exact numT_inj _ _ rfl h.2

/-- One depth down: where the texts are the same, so are the sums that they are made of. -/
theorem acc_down {a b : Acc} (ha : FitsA a) (hb : FitsA b) (hl : a.loan = b.loan) (d : Nat) (hd : d < 6) (h : accT a (d + 1) = accT b (d + 1)) : accX a d = accX b d := by
  have hpa : Bd (a.path.getD d 0) := ha.sums _ (by rw [List.getD_eq_getElem?_getD, List.getElem?_eq_getElem (show d < a.path.length from hd)]; exact List.mem_cons_of_mem _ (List.getElem_mem _))
  have hpb : Bd (b.path.getD d 0) := hb.sums _ (by rw [List.getD_eq_getElem?_getD, List.getElem?_eq_getElem (show d < b.path.length from hd)]; exact List.mem_cons_of_mem _ (List.getElem_mem _))
  rw [accT, accT, hl] at h
  split at h
  · exact (pairT_inj (accX_bd a d) hpa (accX_bd b d) hpb h).1
  · exact (pairT_inj hpa (accX_bd a d) hpb (accX_bd b d) h).2

/-- An account's d-th text (the eighth: the head's). -/
def textA (a : Acc) (d : Nat) : List UInt8 := if d = 7 then headT a.size a.log (accX a 6) else accT a d
theorem textA_mem (a : Acc) (d : Nat) (h : d ≤ 7) : textA a d ∈ accTs a := by
  unfold textA accTs
  match d, h with
  | 0, _ => simp
  | 1, _ => simp
  | 2, _ => simp
  | 3, _ => simp
  | 4, _ => simp
  | 5, _ => simp
  | 6, _ => simp
  | 7, _ => simp
theorem accOf_text (es : List Ev) (l d : Nat) (hd : d < 6) : accT (accOf es l) (d + 1) = pairT (mapL (stF es) d (2 * (l / 2 ^ (d + 1)))) (mapL (stF es) d (2 * (l / 2 ^ (d + 1)) + 1)) := by
  rw [accT, accOf_path es l d hd]
  have hX := accOf_X es l d (by omega)
  unfold accX at hX
  rw [hX, half_nat]
  have e : (accOf es l).loan / 2 ^ d = ((l / 2 ^ d : Nat) : Int) := cast_div l d
  rw [e]
  unfold sideL
  generalize l / 2 ^ d = j
  by_cases hj : j % 2 = 0
  · rw [if_pos (by omega)]
    unfold nextTo
    rw [if_pos hj]
    have h2 : 2 * (j / 2) = j := by omega
    rw [h2]
  · rw [if_neg (by omega)]
    unfold nextTo
    rw [if_neg hj]
    have h2 : 2 * (j / 2) + 1 = j := by omega
    have h3 : 2 * (j / 2) = j - 1 := by omega
    rw [h2, h3]
/-- The texts of the book's own account are the book's. -/
theorem textA_book (es : List Ev) (l d : Nat) (hl : l < 64) (hd : d ≤ 7) : BookT es (textA (accOf es l) d) := by
  unfold textA
  by_cases h7 : d = 7
  · rw [if_pos h7]
    refine .inr (.inr ?_)
    rw [accOf_X es l 6 (by omega), show l / 2 ^ 6 = 0 by omega]
    rfl
  · rw [if_neg h7]
    cases d with
    | zero => exact .inl ⟨l, hl, rfl⟩
    | succ d =>
      refine .inr (.inl ⟨d, l / 2 ^ (d + 1), by omega, ?_, accOf_text es l d (by omega)⟩)
      have hp : 2 ^ (d + 1) * 2 ^ (5 - d) = 64 := by rw [← Nat.pow_add, show d + 1 + (5 - d) = 6 by omega]
      exact Nat.div_lt_of_lt_mul (by rw [hp]; exact hl)
/-- P16: going down from the top: the first place where the account and the book part. -/
theorem lie_top (es : List Ev) (a : Acc) (hg : GoodE es) (hc : calmB es a = false) :
    FitsA a ∧ a.loan.toNat < 64 ∧ ∃ d, d ≤ 7 ∧ textA a d ≠ textA (accOf es a.loan.toNat) d ∧ sm (textA a d) = sm (textA (accOf es a.loan.toNat) d) ∧ ∀ e, d < e → e ≤ 7 → textA a e = textA (accOf es a.loan.toNat) e := by
  unfold calmB at hc
  rw [Bool.or_eq_false_iff] at hc
  obtain ⟨hok, hsm⟩ := hc
  have hok : accB (topOf es) a = true := by simpa using hok
  unfold accB at hok
  rw [Bool.and_eq_true, decide_eq_true_eq] at hok
  have hf := fitsB_true hok.1
  have hl0 := hf.loan
  have hl : a.loan.toNat < 64 := by omega
  refine ⟨hf, hl, ?_⟩
  have hlo : a.loan = (accOf es a.loan.toNat).loan := by show a.loan = ((a.loan.toNat : Nat) : Int); omega
  have hfo := accOf_fits es a.loan.toNat hl hg
  have hst : (accOf es a.loan.toNat).st = stOf es a.loan := by show stOf es ((a.loan.toNat : Nat) : Int) = _; rw [Int.toNat_of_nonneg hl0.1]
  have hown := accOf_ok es a.loan.toNat hl hg
  unfold accB at hown
  rw [Bool.and_eq_true, decide_eq_true_eq] at hown
  have htop : sm (textA a 7) = sm (textA (accOf es a.loan.toNat) 7) := by
    show accTop a = accTop _
    rw [hok.2, hown.2]
  have hs1 : (accOf es a.loan.toNat).size = (es.length : Int) := rfl
  have hs2 : (accOf es a.loan.toNat).log = logOf es := rfl
  generalize accOf es a.loan.toNat = b at *
  have hdown : ∀ d, d < 7 → textA a (d + 1) = textA b (d + 1) → sm (textA a d) = sm (textA b d) := by
    intro d hd h
    by_cases h6 : d = 6
    · subst h6
      exact (headT_inj hf.size (hf.sums _ (by simp)) (accX_bd a 6) hfo.size (hfo.sums _ (by simp)) (accX_bd b 6) h).2.2
    · have e1 : textA a (d + 1) = accT a (d + 1) := by unfold textA; rw [if_neg (by omega)]
      have e2 : textA b (d + 1) = accT b (d + 1) := by unfold textA; rw [if_neg (by omega)]
      have e3 : textA a d = accT a d := by unfold textA; rw [if_neg (by omega)]
      have e4 : textA b d = accT b d := by unfold textA; rw [if_neg (by omega)]
      rw [e1, e2] at h
      rw [e3, e4]
      exact acc_down hf hfo hlo d (by omega) h
  have hnot : ¬ (textA a 0 = textA b 0 ∧ textA a 7 = textA b 7) := by
    rintro ⟨h0, h7⟩
    have h1 := headT_inj hf.size (hf.sums _ (by simp)) (accX_bd a 6) hfo.size (hfo.sums _ (by simp)) (accX_bd b 6) h7
    have h2 := stT_inj (s := a.st) (t := b.st) h0
    rw [hst] at h2
    rw [hs1, hs2] at h1
    have : sameA es a = true := by
      unfold sameA
      rw [h1.1, h1.2.1, h2]; simp
    rw [this] at hsm
    cases hsm
  have key : ∀ k, k ≤ 7 → (∀ e, 7 - k < e → e ≤ 7 → textA a e = textA b e) → sm (textA a (7 - k)) = sm (textA b (7 - k)) → (∃ d, d ≤ 7 ∧ textA a d ≠ textA b d ∧ sm (textA a d) = sm (textA b d) ∧ ∀ e, d < e → e ≤ 7 → textA a e = textA b e) ∨ (∀ e, e ≤ 7 → textA a e = textA b e) := by
    intro k
    induction h : 7 - k generalizing k with
    | zero =>
      intro hk hall hsum
      by_cases hd : textA a 0 = textA b 0
      · refine .inr fun e he => ?_
        by_cases h0 : e = 0
        · rw [h0]; exact hd
        · exact hall e (by omega) he
      · exact .inl ⟨0, by omega, hd, hsum, fun e h1 h2 => hall e (by omega) h2⟩
    | succ n ih =>
      intro hk hall hsum
      by_cases hd : textA a (n + 1) = textA b (n + 1)
      · refine ih (k + 1) (by omega) (by omega) (fun e h1 h2 => ?_) (hdown n (by omega) hd)
        by_cases he : e = n + 1
        · rw [he]; exact hd
        · exact hall e (by omega) h2
      · exact .inl ⟨n + 1, by omega, hd, hsum, fun e h1 h2 => hall e (by omega) h2⟩
  rcases key 0 (by omega) (fun e h1 h2 => by omega) htop with h | h
  · exact h
  · exact absurd ⟨h 0 (by omega), h 7 (by omega)⟩ hnot

end Go.Proofs.YtedblhcehlbbmaaGreatDoor


/-
  THE TWO TEXTS THAT Lie ANSWERS: going down from the head's text; the bits of a loan.
-/
namespace Go.Proofs.YtedblhcehlbbmaaGreatDoor
set_option maxRecDepth 20000

/-- Going down from the n-th text: the first place where they part. -/
def downA (a b : Acc) : Nat → Nat
  | 0 => 0
  | n + 1 => if textA a (n + 1) = textA b (n + 1) then downA a b n else n + 1
theorem downA_le (a b : Acc) (n : Nat) : downA a b n ≤ n := by
  induction n with
  | zero => exact Nat.le_refl _
  | succ n ih => unfold downA; split <;> omega
theorem downA_at (a b : Acc) (d n : Nat) (hd : d ≤ n) (hne : textA a d ≠ textA b d) (hall : ∀ e, d < e → e ≤ n → textA a e = textA b e) : downA a b n = d := by
  induction n with
  | zero => obtain rfl : d = 0 := by omega
            rfl
  | succ n ih =>
    unfold downA
    by_cases h : d = n + 1
    · subst h; rw [if_neg hne]
    · rw [if_pos (hall (n + 1) (by omega) (by omega))]
      exact ih (by omega) (fun e h1 h2 => hall e h1 (by omega))
def lx (es : List Ev) (a : Acc) : List UInt8 := textA a (downA a (accOf es a.loan.toNat) 7)
def ly (es : List Ev) (a : Acc) : List UInt8 := textA (accOf es a.loan.toNat) (downA a (accOf es a.loan.toNat) 7)
theorem lie_ok : LieOk lx ly := by
  refine ⟨fun es a hg _ hc => ?_, fun es a hg _ hc => ?_, fun es a hg _ hc => ?_, fun es a hg _ hc => ?_⟩
  all_goals obtain ⟨_, hl, d, hd, hne, hsm, hall⟩ := lie_top es a hg hc
  all_goals have e := downA_at a _ d 7 hd hne hall
  all_goals simp only [lx, ly]
  all_goals rw [e]
  · exact hne
  · exact hsm
  · exact textA_mem a d hd
  · exact textA_book es _ d hl hd
theorem bit_lo (l d : Nat) (hd : d < 6) (h : l % 2 ^ (d + 1) < 2 ^ d) : l / 2 ^ d = 2 * (l / 2 ^ (d + 1)) ∧ l % 2 ^ d = l % 2 ^ (d + 1) := by
  rcases (by omega : d = 0 ∨ d = 1 ∨ d = 2 ∨ d = 3 ∨ d = 4 ∨ d = 5) with rfl | rfl | rfl | rfl | rfl | rfl <;> simp only [Nat.reduceAdd, Nat.reducePow] at h ⊢ <;> omega
theorem bit_hi (l d : Nat) (hd : d < 6) (h : ¬ l % 2 ^ (d + 1) < 2 ^ d) : l / 2 ^ d = 2 * (l / 2 ^ (d + 1)) + 1 ∧ l % 2 ^ d = l % 2 ^ (d + 1) - 2 ^ d := by
  rcases (by omega : d = 0 ∨ d = 1 ∨ d = 2 ∨ d = 3 ∨ d = 4 ∨ d = 5) with rfl | rfl | rfl | rfl | rfl | rfl <;> simp only [Nat.reduceAdd, Nat.reducePow] at h ⊢ <;> omega
theorem side_lo (f : Nat → St) (l d : Nat) (hd : d < 6) (h : l % 2 ^ (d + 1) < 2 ^ d) : sideL f l d = mapL f d (2 * (l / 2 ^ (d + 1)) + 1) := by
  unfold sideL nextTo
  rw [(bit_lo l d hd h).1, if_pos (by omega)]
theorem side_hi (f : Nat → St) (l d : Nat) (hd : d < 6) (h : ¬ l % 2 ^ (d + 1) < 2 ^ d) : sideL f l d = mapL f d (2 * (l / 2 ^ (d + 1))) := by
  unfold sideL nextTo
  rw [(bit_hi l d hd h).1, if_neg (by omega)]
  congr 1

end Go.Proofs.YtedblhcehlbbmaaGreatDoor


/-
  CONTRACT: loans.Path: the sums beside a loan's own.
-/
namespace Go.Proofs.YtedblhcehlbbmaaGreatDoor
set_option maxRecDepth 20000
open Go.RowKit

/-- The block L holds six numbers. -/
def siC (x : Nat → Int) : Array Value := #[.int .i64 (x 0), .int .i64 (x 1), .int .i64 (x 2), .int .i64 (x 3), .int .i64 (x 4), .int .i64 (x 5)]
def Blk6 (w : World) (L : Nat) (x : Nat → Int) : Prop := w.heap[L]? = some (.cells (siC x) 34 (0, 0))
theorem Blk6.new (w : World) (x : Nat → Int) : Blk6 (w.alloc (.cells (siC x) 34)) w.heap.size x := heap_alloc_new w _
theorem Blk6.kept {w w' : World} {L : Nat} {x : Nat → Int} (h : Blk6 w L x) (hb : Below w.heap.size w w') : Blk6 w' L x := by unfold Blk6 at *; rw [hb.block L (lt_of_block h)]; exact h
theorem Blk6.cell {w : World} {L : Nat} {x : Nat → Int} (h : Blk6 w L x) (i : Nat) (hi : i < 6) : w.cell? ⟨L, i, none⟩ = some (.int .i64 (x i)) := by
  unfold Blk6 at h
  rcases (by omega : i = 0 ∨ i = 1 ∨ i = 2 ∨ i = 3 ∨ i = 4 ∨ i = 5) with rfl | rfl | rfl | rfl | rfl | rfl <;> simp [World.cell?, h, siC]
theorem Blk6.free {w : World} {L : Nat} {x : Nat → Int} (h : Blk6 w L x) (i : Nat) : w.frozen? ⟨L, i, none⟩ = false := by
  unfold Blk6 at h
  simp [World.frozen?, h]
def upd6 (x : Nat → Int) (i : Nat) (t : Int) : Nat → Int := fun j => if j = i then t else x j
theorem Blk6.put {w : World} {L : Nat} {x : Nat → Int} (h : Blk6 w L x) (i : Nat) (hi : i < 6) (t : Int) : Blk6 (w.setCell ⟨L, i, none⟩ (.int .i64 t)) L (upd6 x i t) := by
  unfold Blk6 at *
  rw [blk_setCell h]
  rcases (by omega : i = 0 ∨ i = 1 ∨ i = 2 ∨ i = 3 ∨ i = 4 ∨ i = 5) with rfl | rfl | rfl | rfl | rfl | rfl <;> rfl
theorem Blk6.other {w : World} {L M i : Nat} {x : Nat → Int} {v : Value} (h : Blk6 w L x) (hne : L ≠ M) : Blk6 (w.setCell ⟨M, i, none⟩ v) L x := by
  unfold Blk6 at *
  rw [Below.heap_setCell _ _ _ _ hne]; exact h
/-- The sums from depth k up. -/
def fromP (f : Nat → St) (l k : Nat) : Nat → Int := fun i => if k ≤ i then sideL f l i else 0
theorem fromP_down (f : Nat → St) (l k : Nat) : upd6 (fromP f l (k + 1)) k (sideL f l k) = fromP f l k := by
  funext j
  unfold upd6 fromP
  by_cases h : j = k
  · subst h; rw [if_pos rfl, if_pos (Nat.le_refl _)]
  · rw [if_neg h]
    by_cases h2 : k + 1 ≤ j
    · rw [if_pos h2, if_pos (by omega)]
    · rw [if_neg h2, if_neg (by omega)]
theorem siC_six (f : Nat → St) (l : Nat) : siC (fun _ => 0) = siC (fromP f l 6) := rfl
def pathV (f : Nat → St) (l : Nat) : Value := .agg (siC (sideL f l))
theorem siC_all (f : Nat → St) (l : Nat) : siC (fromP f l 0) = siC (sideL f l) := rfl
theorem Blk6.all {w : World} {L : Nat} {x : Nat → Int} (h : Blk6 w L x) (y : Nat → Int) : Blk6 ((((((w.setCell ⟨L, 0, none⟩ (.int .i64 (y 0))).setCell ⟨L, 1, none⟩ (.int .i64 (y 1))).setCell ⟨L, 2, none⟩ (.int .i64 (y 2))).setCell ⟨L, 3, none⟩ (.int .i64 (y 3))).setCell ⟨L, 4, none⟩ (.int .i64 (y 4))).setCell ⟨L, 5, none⟩ (.int .i64 (y 5))) L y := by
  have h8 := (((((h.put 0 (by omega) (y 0)).put 1 (by omega) (y 1)).put 2 (by omega) (y 2)).put 3 (by omega) (y 3)).put 4 (by omega) (y 4)).put 5 (by omega) (y 5)
  have e : siC (upd6 (upd6 (upd6 (upd6 (upd6 (upd6 x 0 (y 0)) 1 (y 1)) 2 (y 2)) 3 (y 3)) 4 (y 4)) 5 (y 5)) = siC y := rfl
  unfold Blk6 at *
  rw [e] at h8
  exact h8
theorem Tryz.info6 : (Tryz.prog.info? 34).map (·.size) = some 6 := by kernel_rfl
theorem ret_six {fn : Func} {p : Tmp} (h : fn.results = #[.cell p 34]) {tmps : Array Value} {w : World} {L : Nat} {x : Nat → Int} (hp : tmps.getD p undef = .pointer (some ⟨L, 0, none⟩)) (hb : Blk6 w L x) :
    (results fn tmps).run Tryz.prog w = .ok (.agg (siC x)) w :=
  results_cell_row h tmps w L 34 _ (0, 0) _ hp hb Tryz.underlying34 rfl Tryz.info6
theorem Sts.under {w w' : World} {B b o n j : Nat} {f : Nat → St} (h : Sts w b o n f j) (hb : Below B w w') (hlt : b < B) : Sts w' b o n f j := fun i hi => by
  have hc : ∀ o v, w.cell? ⟨b, o, none⟩ = some v → w'.cell? ⟨b, o, none⟩ = some v := fun o v h => by
    unfold World.cell? at *
    rw [hb.block b hlt]; exact h
  obtain ⟨h0, h1, h2, h3, h4, h5⟩ := h i hi
  exact ⟨hc _ _ h0, hc _ _ h1, hc _ _ h2, hc _ _ h3, hc _ _ h4, hc _ _ h5⟩

set_option maxRecDepth 20000 in
set_option maxHeartbeats 4000000 in
theorem loansPath_any (f : Nat → St) (hf : ∀ j, St64 (f j)) (g cap l : Nat) (w : World) (hl : l < 64) (hs : Sts w g 0 64 f 0) (hcap : 64 ≤ cap) (hmax : cap ≤ maxLen) (ht : TabOk w) :
    Calls Tryz.prog 53 #[.slice (some ⟨g, 0, none⟩) 64 cap, .int .i64 (l : Int)] w fun e w' => e = .returned (pathV f l) ∧ Below w.heap.size w w' := by
  have hg : g < w.heap.size := World.block_lt_of_cell? _ _ (hs 0 (by omega)).1
  have HS : Hid (∀ (d j o c : Nat) (wz : World), d ≤ 6 → Sts w g o (2 ^ d) f (j * 2 ^ d) → 2 ^ d ≤ c → c ≤ maxLen → Below w.heap.size w wz → Calls Tryz.prog 47 #[.slice (some ⟨g, o, none⟩) (2 ^ d) c] wz fun e w' => e = .returned (.int .i64 (mapL f d j)) ∧ Below wz.heap.size wz w') := fun d j o c wz hd h1 h2 h3 hz => by
    rw [mapL_T]
    exact sumS_of _ _ _ _ wz (length_mapT f d _ hf) (textS_any f hf d hd g o c j wz (h1.kept hz) h2 h3 (ht.kept hz))
  have HB0 := hid hs
  have HMX := hid hmax
  have HHG := hid hg
  clear hf ht hs hmax hg
  obtain ⟨L, hL⟩ : ∃ L, L = w.heap.size := ⟨_, rfl⟩
  go_enter Tryz.func53, Tryz.ntmps53
  go_wp2_with fail
  rw [← hL]
  have HR : Hid (Blk6 ((w.alloc (.cells (siC (fun _ => 0)) 34)).alloc (.cells (siC (fun _ => 0)) 34)) L (fun _ => 0)) := by
    show Blk6 _ _ _
    rw [hL]; exact (Blk6.new w _).kept ((Below.refl _ _).alloc (Nat.le_refl _) _)
  have HP : Hid (Blk6 ((w.alloc (.cells (siC (fun _ => 0)) 34)).alloc (.cells (siC (fun _ => 0)) 34)) (L + 1) (fromP f l 6)) := by
    have := Blk6.new (w.alloc (.cells (siC (fun _ => 0)) 34)) (fun _ => 0)
    rw [show (w.alloc (.cells (siC (fun _ => 0)) 34)).heap.size = L + 1 by simp [hL]] at this
    exact this
  have HB1 : Hid (Below w.heap.size w ((w.alloc (.cells (siC (fun _ => 0)) 34)).alloc (.cells (siC (fun _ => 0)) 34))) := ((Below.refl _ _).alloc (Nat.le_refl _) _).alloc (by simp) _
  unfold siC at HR HP HB1
  generalize World.alloc (World.alloc w _) _ = w1 at *
  have HLW : Hid (w.heap.size ≤ L) := by show _ ≤ _; rw [hL]; exact Nat.le_refl _
  have HLW2 : Hid (w.heap.size ≤ L + 1) := by have := HLW.out; show _ ≤ _; omega
  clear hL
  go_loopw [0, 1, 6, 7] (fun ss ll d _ wr => ∃ k : Nat, k ≤ 6 ∧ d = .int .i64 ((k : Int) - 1) ∧ ll = .int .i64 ((l % 2 ^ k : Nat) : Int) ∧ ∃ o c : Nat, ss = .slice (some ⟨g, o, none⟩) (2 ^ k) c ∧ Hid (Sts w g o (2 ^ k) f (l / 2 ^ k * 2 ^ k)) ∧ 2 ^ k ≤ c ∧ Hid (c ≤ maxLen) ∧ Hid (Blk6 wr L (fun _ => 0)) ∧ Hid (Blk6 wr (L + 1) (fromP f l k)) ∧ Below w.heap.size w wr) (fun _ _ d _ _ => (intOf d + 1).toNat)
  case atStart => exact ⟨6, Nat.le_refl _, rfl, by rw [Nat.mod_eq_of_lt hl], 0, cap, rfl, by rw [show l / 2 ^ 6 * 2 ^ 6 = 0 by omega]; exact HB0.out, hcap, HMX, HR, HP, HB1.out⟩
  case round =>
    obtain ⟨k, hk, rfl, rfl, o, c, rfl, HST, hc, HC, HR, HP, hbel⟩ := hrel
    cases k with
    | zero =>
      have HV : Hid (pathV f l = .agg (siC (fromP f l 0))) := rfl
      clear HST hc HC hk
      rw [show ((0 : Nat) : Int) - 1 = -1 from rfl]
      generalize fromP f l 0 = x at *
      have c0 := HP.out.cell 0 (by omega)
      have c1 := HP.out.cell 1 (by omega)
      have c2 := HP.out.cell 2 (by omega)
      have c3 := HP.out.cell 3 (by omega)
      have c4 := HP.out.cell 4 (by omega)
      have c5 := HP.out.cell 5 (by omega)
      have g0 := HR.out.free 0
      have g1 := HR.out.free 1
      have g2 := HR.out.free 2
      have g3 := HR.out.free 3
      have g4 := HR.out.free 4
      have g5 := HR.out.free 5
      have r0 := HR.out.cell 0 (by omega)
      have r1 := HR.out.cell 1 (by omega)
      have r2 := HR.out.cell 2 (by omega)
      have r3 := HR.out.cell 3 (by omega)
      have r4 := HR.out.cell 4 (by omega)
      have r5 := HR.out.cell 5 (by omega)
      go_wp2_with fail
      (try simp only [Exit.inBlock, Exit.then])
      refine bodyPost_ret (ret_six rfl (L := L) (x := x) rfl (HR.out.all x)) rfl ⟨by rw [HV.out], ?_⟩
      exact (((((hbel.setCell HLW.out _).setCell HLW.out _).setCell HLW.out _).setCell HLW.out _).setCell HLW.out _).setCell HLW.out _
    | succ d =>
      rw [show ((d + 1 : Nat) : Int) - 1 = (d : Int) by omega]
      have hp : 2 ^ (d + 1) = 2 ^ d + 2 ^ d := by rw [Nat.pow_succ]; omega
      have hp1 : 1 ≤ 2 ^ d := Nat.one_le_two_pow
      have hp2 : 2 ^ d ≤ 32 := by
        have : 2 ^ d ≤ 2 ^ 5 := Nat.pow_le_pow_right (by omega) (by omega)
        omega
      have HFD := hid (fromP_down f l d)
      have HSL : Hid (Sts w g o (2 ^ d) f (2 * (l / 2 ^ (d + 1)) * 2 ^ d)) := by
        have := HST.out.first (2 ^ d) (by omega)
        rw [pow_two_mul] at this
        exact this
      have HSH : Hid (Sts w g (o + 2 ^ d * 6) (2 ^ d) f ((2 * (l / 2 ^ (d + 1)) + 1) * 2 ^ d)) := by
        have := HST.out.rest (2 ^ d)
        rw [show 2 ^ (d + 1) - 2 ^ d = 2 ^ d by omega, show l / 2 ^ (d + 1) * 2 ^ (d + 1) + 2 ^ d = (2 * (l / 2 ^ (d + 1)) + 1) * 2 ^ d by rw [pow_two_mul, Nat.add_mul, Nat.one_mul]] at this
        exact this
      have HS1 : Hid (∀ wz, Below w.heap.size w wz → Calls Tryz.prog 47 #[.slice (some ⟨g, o, none⟩) (2 ^ d) c] wz fun e w' => e = .returned (.int .i64 (mapL f d (2 * (l / 2 ^ (d + 1))))) ∧ Below wz.heap.size wz w') := fun wz hz => HS.out d _ o c wz (by omega) HSL.out (by omega) HC.out hz
      have HS2 : Hid (∀ wz, Below w.heap.size w wz → Calls Tryz.prog 47 #[.slice (some ⟨g, o + 2 ^ d * 6, none⟩) (2 ^ d) (c - 2 ^ d)] wz fun e w' => e = .returned (.int .i64 (mapL f d (2 * (l / 2 ^ (d + 1)) + 1))) ∧ Below wz.heap.size wz w') := fun wz hz => HS.out d _ (o + 2 ^ d * 6) (c - 2 ^ d) wz (by omega) HSH.out (by omega) (by have := HC.out; omega) hz
      by_cases hlo : l % 2 ^ (d + 1) < 2 ^ d
      · have HB := hid (bit_lo l d (by omega) hlo)
        have HSD := hid (side_lo f l d (by omega) hlo)
        rw [← HSD.out] at HS2
        rw [← HB.out.1] at HSL
        generalize sideL f l d = sd at *
        generalize fromP f l (d + 1) = xk at *
        rw [hp] at hc hlo HB ⊢
        generalize l % (2 ^ d + 2 ^ d) = r at *
        have HRD : Hid (l % 2 ^ d = r) := HB.out.2
        obtain ⟨m, hm⟩ : ∃ m, m = 2 ^ d := ⟨_, rfl⟩
        have HM := hid hm
        rw [← hm] at hlo HSL HS2 hp1 hp2 hc ⊢
        clear hp hm HS HS1 HSH HST
        have i0 : (r : Int) < ((m : Int) + (m : Int)) / 2 := by omega
        have i1 : (0 : Int) ≤ (m : Int) := by omega
        have i2 : (m : Int) ≤ (m : Int) + (m : Int) := by omega
        have i3 : ¬ c = m := by omega
        have i4 : (m : Int) + (m : Int) ≤ (c : Int) := by omega
        have i5 : (0 : Int) ≤ (d : Int) := by omega
        have i6 : (d : Int) < 6 := by omega
        go_wp2_with fail
        rw [show (m + m) / 2 = m by omega, show ((m : Int) + (m : Int)) / 2 = (m : Int) by omega, show m + m - m = m by omega]
        refine (HS2.out _ hbel).mono ?_
        rintro e w2 ⟨rfl, hb2⟩
        have hk2 := kept hbel hb2
        have HP2 := hid (HP.out.kept hb2)
        have HR2 := hid (HR.out.kept hb2)
        have fd := HP2.out.free d
        have cd := HP2.out.cell d (by omega)
        clear hb2 HP HR i0 HS2
        go_wp2_with fail
        refine ⟨⟨d, by omega, rfl, by rw [HRD.out], o, c, by rw [HM.out], ?_, by rw [← HM.out]; omega, HC, HR2.out.other (by omega), ?_, hk2.setCell HLW2.out _⟩, by simp [intOf]⟩
        · show Sts _ _ _ _ _ _
          rw [← HM.out]; exact HSL.out
        · show Blk6 _ _ _
          rw [← HFD.out]; exact HP2.out.put d (by omega) sd
      · have HB := hid (bit_hi l d (by omega) hlo)
        have HSD := hid (side_hi f l d (by omega) hlo)
        rw [← HSD.out] at HS1
        rw [← HB.out.1] at HSH
        generalize sideL f l d = sd at *
        generalize fromP f l (d + 1) = xk at *
        have hrl : l % 2 ^ (d + 1) < 2 ^ (d + 1) := Nat.mod_lt _ (by omega)
        rw [hp] at hc hlo HB hrl ⊢
        generalize l % (2 ^ d + 2 ^ d) = r at *
        have HRD : Hid (l % 2 ^ d = r - 2 ^ d) := HB.out.2
        obtain ⟨m, hm⟩ : ∃ m, m = 2 ^ d := ⟨_, rfl⟩
        have HM := hid hm
        rw [← hm] at hlo HSH HS1 hp1 hp2 hc hrl ⊢
        clear hp hm HS HS2 HSL HST
        have i0 : ¬ (r : Int) < ((m : Int) + (m : Int)) / 2 := by omega
        have i1 : (0 : Int) ≤ (m : Int) := by omega
        have i2 : (m : Int) ≤ (m : Int) + (m : Int) := by omega
        have i3 : ¬ c = m := by omega
        have i4 : (m : Int) + (m : Int) ≤ (c : Int) := by omega
        have i5 : (0 : Int) ≤ (d : Int) := by omega
        have i6 : (d : Int) < 6 := by omega
        go_wp2_with fail
        rw [show (m + m) / 2 = m by omega, show ((m : Int) + (m : Int)) / 2 = (m : Int) by omega]
        refine (HS1.out _ hbel).mono ?_
        rintro e w2 ⟨rfl, hb2⟩
        have hk2 := kept hbel hb2
        have HP2 := hid (HP.out.kept hb2)
        have HR2 := hid (HR.out.kept hb2)
        have fd := HP2.out.free d
        have cd := HP2.out.cell d (by omega)
        clear hb2 HP HR i0 HS1
        go_wp2_with fail
        refine ⟨⟨d, by omega, rfl, by rw [HRD.out, ← HM.out, Int.ofNat_sub (by omega)], o + m * 6, c - m, by rw [HM.out], ?_, by rw [← HM.out]; omega, by have := HC.out; show _ ≤ _; omega, HR2.out.other (by omega), ?_, hk2.setCell HLW2.out _⟩, by simp [intOf]⟩
        · show Sts _ _ _ _ _ _
          rw [← HM.out]; exact HSH.out
        · show Blk6 _ _ _
          rw [← HFD.out]; exact HP2.out.put d (by omega) sd

end Go.Proofs.YtedblhcehlbbmaaGreatDoor


/-
  A BOOK'S LOG IS A LOG: its entries are short; its own proofs are good.
-/
namespace Go.Proofs.YtedblhcehlbbmaaGreatDoor
set_option maxRecDepth 20000
open Go.RowKit

theorem bdL_of5 {zs : List Int} (h : ∀ x ∈ zs, Bd x) : bdL zs = true := by
  unfold bdL
  rw [List.all_eq_true]
  intro x hx
  exact decide_eq_true (h x hx)
theorem within_own5 (L : List ByteArray) (i : Nat) (h : i < L.length) (h200 : L.length ≤ 200) (h40 : ∀ s ∈ L, s.size ≤ 40) : withinB (rootS L) (L.length : Int) (i : Int) L[i] (pathR (lvs L) i) = true := by
  rw [withinB_in (by omega) h200 h (h40 _ (List.getElem_mem _))]
  unfold leadO
  rw [if_pos (bdL_of5 (path_bd _ _ (lvs_bd L)))]
  have e := path_leads L.length (lvs L) i (by rw [length_lvs]; exact h) (length_lvs L)
  have e2 : (lvs L)[i]'(by rw [length_lvs]; exact h) = entS L[i] := by simp [lvs]
  rw [e2] at e
  rw [e]
  exact decide_eq_true rfl
theorem grows_own5 (L : List ByteArray) (m : Nat) (h1 : 1 ≤ m) (h2 : m ≤ L.length) (h200 : L.length ≤ 200) : growsB (rootS (L.take m)) (m : Int) (rootS L) (L.length : Int) (furS L m true) = true := by
  rw [growsB_in h1 h2 h200]
  unfold joinO furS
  have hb : bdL (furR (lvs L) m true) = true := bdL_of5 (fur_bd L.length (lvs L) m true (length_lvs L) h1 h2 (lvs_bd L))
  have ho : isSumB (rootS (L.take m)) = true := decide_eq_true (rootS_bd _)
  rw [hb, ho, Bool.and_true, if_pos rfl]
  have e := fur_joins L.length (lvs L) m true (rootS (L.take m)) (length_lvs L) h1 h2 (fun _ => by unfold rootS; rw [lvs_take])
  rw [e, ← lvs_take]
  exact decide_eq_true rfl

theorem within_own6 (L : List ByteArray) (N i : Nat) (sx : ByteArray) (LG : Int) (hN : L.length = N) (h : L[i]? = some sx) (h200 : N ≤ 200) (h40 : ∀ s ∈ L, s.size ≤ 40) (hl : rootS L = LG) : withinB LG (N : Int) (i : Int) sx (pathR (lvs L) i) = true := by
  subst hN; subst hl
  have hi : i < L.length := by
    rcases Nat.lt_or_ge i L.length with h1 | h1
    · exact h1
    · rw [List.getElem?_eq_none h1] at h; cases h
  rw [List.getElem?_eq_getElem hi] at h
  cases h
  exact within_own5 L i hi h200 h40
theorem grows_own6 (L : List ByteArray) (N m : Nat) (LG LG2 : Int) (hN : L.length = N) (h1 : 1 ≤ m) (h2 : m ≤ N) (h200 : N ≤ 200) (hl : rootS L = LG) (hl2 : rootS (L.take m) = LG2) : growsB LG2 (m : Int) LG (N : Int) (furS L m true) = true := by
  subst hN; subst hl; subst hl2
  exact grows_own5 L m h1 h2 h200
theorem nDigits_le (k : Nat) : ∀ u : Nat, u < 10 ^ (k + 1) → Lib.nDigits u ≤ k + 1 := by
  induction k with
  | zero => intro u hu; rw [Lib.nDigits_small (by omega)]; omega
  | succ k ih =>
    intro u hu
    by_cases h : u < 10
    · rw [Lib.nDigits_small h]; omega
    · rw [Lib.nDigits_big h]
      have := ih (u / 10) (by rw [Nat.pow_succ] at hu; omega)
      omega
theorem itoa_le (k : Nat) (z : Int) (h0 : 0 ≤ z) (h1 : z < 10 ^ (k + 1)) : (Lib.itoa z).length ≤ k + 1 := by
  unfold Lib.itoa
  rw [if_neg (by omega), Lib.decDigits_length]
  refine nDigits_le k z.toNat ?_
  have : ((z.toNat : Nat) : Int) < ((10 ^ (k + 1) : Nat) : Int) := by rw [Int.toNat_of_nonneg h0]; simpa using h1
  exact Int.ofNat_lt.1 this
theorem entryT_le (e : Ev) (h : MayE e) : (entryT e).length ≤ 40 := by
  have ha := h.amount
  obtain ⟨hl, hk, _, hd⟩ := h
  have h1 := itoa_le 1 e.loan hl.1 (by have := hl.2; omega)
  have h2 := itoa_le 0 e.kind hk.1 (by have := hk.2; omega)
  have h3 := itoa_le 8 e.amount ha.1 (by have := ha.2.1; omega)
  have h4 := itoa_le 4 e.day hd.1 (by have := hd.2; omega)
  unfold entryT evI numT
  simp only [List.flatMap_cons, List.flatMap_nil, List.length_append, List.length_cons, List.length_nil]
  omega
theorem entriesB_len (es : List Ev) : (entriesB es).length = es.length := by unfold entriesB; rw [List.length_map]
theorem entriesB_40 (es : List Ev) (hg : GoodE es) : ∀ s ∈ entriesB es, s.size ≤ 40 := by
  intro s hs
  obtain ⟨e, he, rfl⟩ := List.mem_map.1 hs
  rw [size_bs]
  exact entryT_le e (hg.2.1 e he)
theorem entriesB_take (es : List Ev) (m : Nat) : entriesB (es.take m) = (entriesB es).take m := by unfold entriesB; rw [List.map_take]
theorem entriesB_long (es : List Ev) (hg : GoodE es) : longB (entriesB es) = false := by
  unfold longB longTo
  rw [Bool.or_eq_false_iff]
  refine ⟨decide_eq_false (by rw [entriesB_len]; have := hg.1; omega), ?_⟩
  rw [List.any_eq_false]
  intro s hs
  have := entriesB_40 es hg s (List.mem_of_mem_take hs)
  simp
  exact this

end Go.Proofs.YtedblhcehlbbmaaGreatDoor


/-
  WHAT A BOOK'S CALLS ANSWER (stage 5: Log, Head, Account, Accepts, Lie besides).
-/
namespace Go.Proofs.YtedblhcehlbbmaaGreatDoor
set_option maxRecDepth 20000
open Go.RowKit

def zA : Acc := ⟨0, zS, 0, 0, 0, 0, 0, 0, 0, 0⟩
def headV (es : List Ev) : Value := .agg #[.int .i64 (es.length : Int), .int .i64 (logOf es), .int .i64 (mapOf es), .int .i64 (topOf es)]
/-- From the start world w0 on, in which strconv's table lies. lx, ly: the two texts that Lie answers. -/
structure BookSpec5 (w0 : World) (Rep : World → (Nat → Prop) → Value → List Ev → Prop) (lx ly : List Ev → Acc → List UInt8) : Prop extends BookSpec w0 Rep where
  log : ∀ (w : World) (S : Nat → Prop) (v : Value) (es : List Ev), Below w0.heap.size w0 w → Rep w S v es →
    Calls Tryz.prog 21 #[v] w fun r w' => ∃ u, r = .returned u ∧ OwnS w' w.heap.size u (entriesB es) ∧ Below w.heap.size w w'
  head : ∀ (w : World) (S : Nat → Prop) (v : Value) (es : List Ev), Below w0.heap.size w0 w → Rep w S v es →
    Calls Tryz.prog 25 #[v] w fun r w' => r = .returned (headV es) ∧ Below w.heap.size w w'
  account : ∀ (w : World) (S : Nat → Prop) (v : Value) (es : List Ev) (loan : Int), Below w0.heap.size w0 w → Rep w S v es → In64 loan →
    Calls Tryz.prog 27 #[v, .int .i64 loan] w fun r w' => r = .returned (.tuple #[accV (if 0 ≤ loan ∧ loan ≤ 63 then accOf es loan.toNat else zA), .int .i64 (if 0 ≤ loan ∧ loan ≤ 63 then 0 else 1)]) ∧ Below w.heap.size w w'
  accepts : ∀ (w : World) (top : Int) (a : Acc), Below w0.heap.size w0 w → In64 top → Acc64 a →
    Calls Tryz.prog 77 #[.int .i64 top, accV a] w fun r w' => r = .returned (.bool (accB top a)) ∧ Below w.heap.size w w'
  lie : ∀ (w : World) (S : Nat → Prop) (v : Value) (es : List Ev) (a : Acc), Below w0.heap.size w0 w → Rep w S v es → Acc64 a →
    Calls Tryz.prog 54 #[v, accV a] w fun r w' => r = .returned (.tuple #[.string (if calmB es a = true then ⟨#[]⟩ else bs (lx es a)), .string (if calmB es a = true then ⟨#[]⟩ else bs (ly es a)), .int .i64 (if calmB es a = true then 3 else 0)]) ∧ Below w.heap.size w w'

end Go.Proofs.YtedblhcehlbbmaaGreatDoor


/-
  CONTRACT: the book's Head.
-/
namespace Go.Proofs.YtedblhcehlbbmaaGreatDoor
set_option maxRecDepth 20000
open Go.RowKit

theorem Tryz.infoHead : (Tryz.prog.info? 71).map (·.size) = some 4 := by kernel_rfl
theorem ret_head {fn : Func} {p : Tmp} (h : fn.results = #[.cell p 71]) {tmps : Array Value} {w : World} {L : Nat} {x0 x1 x2 x3 : Int} (hp : tmps.getD p undef = .pointer (some ⟨L, 0, none⟩)) (hb : w.heap[L]? = some (.cells #[.int .i64 x0, .int .i64 x1, .int .i64 x2, .int .i64 x3] 71 (0, 0))) :
    (results fn tmps).run Tryz.prog w = .ok (.agg #[.int .i64 x0, .int .i64 x1, .int .i64 x2, .int .i64 x3]) w :=
  results_cell_row h tmps w L 71 _ (0, 0) _ hp hb Tryz.underlying71 rfl Tryz.infoHead

set_option maxRecDepth 20000 in
set_option maxHeartbeats 4000000 in
theorem head_any (w : World) (S : Nat → Prop) (v : Value) (es : List Ev) (h : Rep w S v es) (ht : TabOk w) :
    Calls Tryz.prog 25 #[v] w fun r w' => r = .returned (headV es) ∧ Below w.heap.size w w' := by
  obtain ⟨p, u, rfl, hp, hu, _, hg, _⟩ := h
  obtain ⟨a, cap, rfl, _, _, hE, hlt⟩ := hu.form
  have h200 := hg.1
  have HP : Hid (∀ wz, Below w.heap.size w wz → wz.cell? ⟨p, 0, none⟩ = some (.slice a es.length cap)) := fun wz hz => cell_kept (cell_one hp) hz
  have HEN : Hid (∀ wz, Below w.heap.size w wz → Calls Tryz.prog 43 #[.slice a es.length cap] wz fun e w' => ∃ v, e = .returned v ∧ OwnS w' wz.heap.size v (entriesB es) ∧ Below wz.heap.size wz w') := fun wz hz => entries_any es.length a es cap wz rfl (hE.under hz hlt) (fun b h => Nat.lt_of_lt_of_le (hlt b h) hz.size) hg (ht.kept hz)
  have HSS : Hid (∀ wz, Below w.heap.size w wz → Calls Tryz.prog 46 #[.slice a es.length cap] wz fun e w' => ∃ v, e = .returned v ∧ OwnSt w' wz.heap.size v (stF es) 64 ∧ Below wz.heap.size wz w') := fun wz hz => states_any es.length a es cap wz rfl (hE.under hz hlt) (fun b h => Nat.lt_of_lt_of_le (hlt b h) hz.size) hg
  have HT := hid ht
  have HG := hid hg
  have HH : Hid (headV es = .agg #[.int .i64 (es.length : Int), .int .i64 (logOf es), .int .i64 (mapOf es), .int .i64 (topOf es)]) := rfl
  have hb1 := logOf_bd es
  have hb2 : Bd (mapOf es) := mapL_bd _ _ _
  have HHT := hid (fun wz => headText_any (es.length : Int) (logOf es) (mapOf es) wz ⟨by omega, by omega⟩ hb1 hb2)
  have HTS : Hid (∀ wz, Calls Tryz.prog 49 #[.string (bs (headT (es.length : Int) (logOf es) (mapOf es)))] wz fun e w2 => e = .returned (.int .i64 (topOf es)) ∧ w2 = wz) := fun wz => by
    have := sum_any (bs (headT (es.length : Int) (logOf es) (mapOf es))) wz (by rw [size_bs, length_headT]; decide)
    rw [toList_bs] at this
    exact this
  obtain ⟨N, hN⟩ : ∃ N, N = es.length := ⟨_, rfl⟩
  have HN : Hid (es.length = N) := hN.symm
  rw [← hN] at HP HEN HSS HH HHT HTS h200
  obtain ⟨L2, hL2⟩ : ∃ L, L = w.heap.size := ⟨_, rfl⟩
  have hpl : p < w.heap.size := lt_of_block hp
  have hc := cell_one hp
  rw [← hN] at hc
  clear hp hu hE hlt hg ht hN hb1 hb2
  go_enter Tryz.func25, Tryz.ntmps25
  go_wp2_with fail
  refine (HEN.out _ ((Below.refl _ _).alloc (Nat.le_refl _) _)).mono ?_
  rintro e w1 ⟨v1, rfl, hO1, hb1⟩
  have hB : w1.heap[L2]? = some (.cells #[.int .i64 0, .int .i64 0, .int .i64 0, .int .i64 0] 71 (0, 0)) := by
    rw [hL2, hb1.block _ (by simp)]
    exact heap_alloc_new w _
  have hk1 : Below w.heap.size w w1 := kept ((Below.refl _ _).alloc (Nat.le_refl _) _) hb1
  rw [← hL2]
  have HL2 : Hid (w.heap.size ≤ L2) := by show _ ≤ _; rw [hL2]; exact Nat.le_refl _
  clear hb1 hL2 hc
  obtain ⟨a1, c1, rfl, hl1, hm1, hS1⟩ := hO1.form
  have HRT := hid (root_any (entriesB es).length (entriesB es).length a1 (entriesB es) c1 w1 rfl (Nat.le_refl _) hS1 (by rw [entriesB_len, HN.out]; exact h200) (entriesB_40 es HG.out) hl1 hm1)
  rw [entriesB_len, HN.out] at HRT ⊢
  clear hO1 hl1 hm1 hS1
  rw [show rootS (entriesB es) = logOf es from rfl] at HRT
  generalize logOf es = LG at *
  generalize hmp : mapOf es = MP at *
  generalize topOf es = TP at *
  have HMP := hid hmp
  clear hmp
  generalize bs (headT (N : Int) LG MP) = ht at *
  go_wp2_with fail
  refine HRT.out.mono ?_
  rintro e w2 ⟨rfl, hb2⟩
  have hk2 := kept hk1 hb2
  have hc2 := HP.out w2 hk2
  have hB2 : w2.heap[L2]? = some (.cells #[.int .i64 0, .int .i64 0, .int .i64 0, .int .i64 0] 71 (0, 0)) := by rw [hb2.block _ (lt_of_block hB)]; exact hB
  have HB2 := hid hB2
  clear hB hb2 hk1 HRT HEN hB2
  go_wp2_with fail
  refine (HSS.out _ hk2).mono ?_
  rintro e w3 ⟨v3, rfl, hO3, hb3⟩
  have hk3 := kept hk2 hb3
  have HB3 : Hid (w3.heap[L2]? = some (.cells #[.int .i64 0, .int .i64 0, .int .i64 0, .int .i64 0] 71 (0, 0))) := by show _ = _; rw [hb3.block _ (lt_of_block HB2.out)]; exact HB2.out
  obtain ⟨a3, c3, rfl, hl3, hm3, hS3⟩ := hO3.form
  obtain ⟨g3, rfl, hS3⟩ := hS3 (by omega)
  have HSM : Hid (Calls Tryz.prog 47 #[.slice (some ⟨g3, 0, none⟩) 64 c3] w3 fun e w' => e = .returned (.int .i64 MP) ∧ Below w3.heap.size w3 w') := by
    have h1 := textS_any (stF es) (fun j => st64_of es (j : Int) HG.out) 6 (by omega) g3 0 c3 0 w3 (by simpa using hS3) (by omega) hm3 (HT.out.kept hk3)
    have h2 := sumS_of _ _ _ _ w3 (length_mapT (stF es) 6 0 (fun j => st64_of es (j : Int) HG.out)) h1
    rw [← mapL_T] at h2
    rw [← HMP.out]
    exact h2
  clear hO3 hS3 hb3 hc2 HB2 HSS
  go_wp2_with fail
  refine HSM.out.mono ?_
  rintro e w4 ⟨rfl, hb4⟩
  have hk4 := kept hk3 hb4
  have HB4 : Hid (w4.heap[L2]? = some (.cells #[.int .i64 0, .int .i64 0, .int .i64 0, .int .i64 0] 71 (0, 0))) := by show _ = _; rw [hb4.block _ (lt_of_block HB3.out)]; exact HB3.out
  clear hb4 HB3 HSM
  go_wp2_with fail
  refine (HHT.out _).mono ?_
  rintro e w5 ⟨rfl, hb5⟩
  have hk5 := kept hk4 hb5
  have hB5 : w5.heap[L2]? = some (.cells #[.int .i64 0, .int .i64 0, .int .i64 0, .int .i64 0] 71 (0, 0)) := by rw [hb5.block _ (lt_of_block HB4.out)]; exact HB4.out
  have HB5 := hid hB5
  clear hb5 HB4 HHT
  go_wp2_with fail
  refine (HTS.out _).mono ?_
  rintro e w5' ⟨rfl, hw5⟩
  subst hw5
  have x0 : w5'.cell? ⟨L2, 0, none⟩ = some (.int .i64 0) := by simp [World.cell?, HB5.out]
  have x1 : w5'.cell? ⟨L2, 1, none⟩ = some (.int .i64 0) := by simp [World.cell?, HB5.out]
  have x2 : w5'.cell? ⟨L2, 2, none⟩ = some (.int .i64 0) := by simp [World.cell?, HB5.out]
  have x3 : w5'.cell? ⟨L2, 3, none⟩ = some (.int .i64 0) := by simp [World.cell?, HB5.out]
  have f0 : w5'.frozen? ⟨L2, 0, none⟩ = false := by simp [World.frozen?, HB5.out]
  have f1 : w5'.frozen? ⟨L2, 1, none⟩ = false := by simp [World.frozen?, HB5.out]
  have f2 : w5'.frozen? ⟨L2, 2, none⟩ = false := by simp [World.frozen?, HB5.out]
  have f3 : w5'.frozen? ⟨L2, 3, none⟩ = false := by simp [World.frozen?, HB5.out]
  clear hB5
  go_wp2_with fail
  (try simp only [Exit.inBlock, Exit.then])
  refine bodyPost_ret (ret_head rfl (L := L2) (x0 := (N : Int)) (x1 := LG) (x2 := MP) (x3 := TP) rfl ?_) rfl ⟨by rw [HH.out], ?_⟩
  · exact blk_setCell (blk_setCell (blk_setCell (blk_setCell HB5.out)))
  · exact (((hk5.setCell HL2.out _).setCell HL2.out _).setCell HL2.out _).setCell HL2.out _

end Go.Proofs.YtedblhcehlbbmaaGreatDoor


/-
  AN ACCOUNT'S BLOCK: fifteen cells.
-/
namespace Go.Proofs.YtedblhcehlbbmaaGreatDoor
set_option maxRecDepth 20000
open Go.RowKit

/-- An account's cells. -/
def accC (a : Acc) : Array Value := #[.int .i64 a.loan, .int .i64 a.st.principal, .int .i64 a.st.due, .int .i64 a.st.rate, .int .i64 a.st.day, .int .i64 a.st.spare, .int .i64 a.st.count, .int .i64 a.size, .int .i64 a.log, .int .i64 a.p0, .int .i64 a.p1, .int .i64 a.p2, .int .i64 a.p3, .int .i64 a.p4, .int .i64 a.p5]
/-- The block L is an account's. -/
def BlkA (w : World) (L : Nat) (a : Acc) : Prop := w.heap[L]? = some (.cells (accC a) 36 (0, 0))
theorem BlkA.new (w : World) (a : Acc) : BlkA (w.alloc (.cells (accC a) 36)) w.heap.size a := heap_alloc_new w _
theorem BlkA.kept {w w' : World} {L : Nat} {a : Acc} (h : BlkA w L a) (hb : Below w.heap.size w w') : BlkA w' L a := by unfold BlkA at *; rw [hb.block L (lt_of_block h)]; exact h
theorem BlkA.cell {w : World} {L : Nat} {a : Acc} (h : BlkA w L a) (i : Nat) (v : Value) (hv : (accC a)[i]? = some v) : w.cell? ⟨L, i, none⟩ = some v := by
  unfold BlkA at h; simp [World.cell?, h, hv]
theorem BlkA.path {w : World} {L : Nat} {a : Acc} (h : BlkA w L a) (k : Nat) (hk : k < 6) : w.cell? ⟨L, 9 + k, none⟩ = some (.int .i64 (a.path[k]'hk)) := by
  refine h.cell _ _ ?_
  match k, hk with
  | 0, _ => rfl
  | 1, _ => rfl
  | 2, _ => rfl
  | 3, _ => rfl
  | 4, _ => rfl
  | 5, _ => rfl

end Go.Proofs.YtedblhcehlbbmaaGreatDoor

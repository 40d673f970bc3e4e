import Derived.Test.YtedblhcehlbbmaaGreatDoorWalkRef
import Derived.Test.YtedblhcehlbbmaaGreatDoorJWalkText
import Derived.Test.YtedblhcehlbbmaaGreatDoorJMathSum
import Derived.WalkKit
import Derived.WalkSpells
import Derived.WalkLawsBesides
import Derived.Laws.CopyOwn
import Derived.Deep.QuietTactic
import Derived.BigQuiet
/-
  CONTRACTS of what hands lists over and looks at them behind the call: lenderlaw.texts, sameTexts, stillTexts; ints, sameInts, stillInts.
-/
namespace Go.Proofs.YtedblhcehlbbmaaGreatDoor
set_option maxRecDepth 20000
open Go.RowKit

theorem Tryz.infoStr : (Tryz.prog.info? 9).map (fun i => (i.zero, i.size, i.bytes)) = some (some (.string ⟨#[]⟩), 1, 16) := by kernel_rfl
theorem Tryz.sizeInt : (Tryz.prog.info? 3).map (·.size) = some 1 := by kernel_rfl
theorem Tryz.sizeStr : (Tryz.prog.info? 9).map (·.size) = some 1 := by kernel_rfl

/-- Strings, as values. -/
def sv (l : List ByteArray) : List Value := l.map Value.string
theorem length_sv (l : List ByteArray) : (sv l).length = l.length := by simp [sv]
def zeroStrs (n : Nat) : List Value := List.replicate n (.string ⟨#[]⟩)

theorem made_block {w1 : World} {B g n : Nat} {z : Value} {e : TypeId} (h : w1.ownsRow B e 1 (.slice (some ⟨g, 0, none⟩) n n) n (madeCells #[z] n).toList) : w1.heap[g]? = some (.cells (List.replicate n z).toArray e (0, 0)) := by
  obtain ⟨_, h2⟩ := h
  rcases h2 with ⟨h2, _⟩ | ⟨g', cap, cur, h1, _, h3, _, _, h6, h7⟩
  · cases h2
  · cases h1
    rw [toList_madeCells_one, Nat.mul_one] at h7
    rw [List.take_of_length_le (by simp; omega)] at h7
    rw [h3, ← h7]

theorem block_cell {w : World} {g : Nat} {l : List Value} {t : TypeId} (h : w.heap[g]? = some (.cells l.toArray t (0, 0))) (i : Nat) : w.cell? ⟨g, i, none⟩ = l[i]? := by
  simp [World.cell?, h]
theorem block_free {w : World} {g : Nat} {l : List Value} {t : TypeId} (h : w.heap[g]? = some (.cells l.toArray t (0, 0))) (i : Nat) : w.frozen? ⟨g, i, none⟩ = false := by
  simp [World.frozen?, h]

/-- The row behind the copy: what was copied, then two zero cells. -/
theorem splice_head {α : Type} (z : α) (n : Nat) (l : List α) (hl : l.length = n) : splice (List.replicate (n + 2) z) 0 l = l ++ [z, z] := by
  subst hl
  unfold splice
  have e : l.length + 2 - (0 + l.length) = 2 := by omega
  rw [List.take_zero, List.drop_replicate, List.nil_append, e]; rfl

theorem min_len (n : Nat) : n = Nat.min n (n + 2) := (Nat.min_eq_left (by omega)).symm

theorem two_stores {w2 : World} {g n : Nat} {u v x1 x2 : Value} (c1 : w2.cell? ⟨g, n, none⟩ = some x1) (c2 : w2.cell? ⟨g, n + 1, none⟩ = some x2) :
    ((w2.setCell ⟨g, n, none⟩ u).setCell ⟨g, n + 1, none⟩ v).cell? ⟨g, n, none⟩ = some u ∧ ((w2.setCell ⟨g, n, none⟩ u).setCell ⟨g, n + 1, none⟩ v).cell? ⟨g, n + 1, none⟩ = some v ∧
      ∀ i, i < n → ((w2.setCell ⟨g, n, none⟩ u).setCell ⟨g, n + 1, none⟩ v).cell? ⟨g, i, none⟩ = w2.cell? ⟨g, i, none⟩ := by
  have e1 : (w2.setCell ⟨g, n, none⟩ u).cell? ⟨g, n + 1, none⟩ = some x2 := by rw [World.cell?_setCell_other _ _ _ _ (by simp)]; exact c2
  refine ⟨?_, World.cell?_setCell_same _ _ _ e1, fun i hi => ?_⟩
  · rw [World.cell?_setCell_other _ _ _ _ (by simp), World.cell?_setCell_same _ _ _ c1]
  · rw [World.cell?_setCell_other _ _ _ _ (by intro e; cases e; omega), World.cell?_setCell_other _ _ _ _ (by intro e; cases e; omega)]

set_option maxHeartbeats 1000000 in
theorem texts_any (n : Nat) (a : Option Addr) (ss : List ByteArray) (cap : Nat) (w : World) (hn : ss.length = n) (hs : Strs w a ss) (hr : n * 16 ≤ 140737488351232) :
    Calls Tryz.prog 32 #[.slice a n cap] w fun e w' => ∃ g, e = .returned (.slice (some ⟨g, 0, none⟩) n (n + 2)) ∧ (∀ i (h : i < ss.length), w'.cell? ⟨g, i, none⟩ = some (.string ss[i])) ∧
      w'.cell? ⟨g, n, none⟩ = some (.string ⟨#[45]⟩) ∧ w'.cell? ⟨g, n + 1, none⟩ = some (.string ⟨#[45]⟩) ∧ Below w.heap.size w w' := by
  obtain ⟨i0, hi, hz0, hz1, hz2⟩ := info_parts Tryz.infoStr
  have HN := hid hn
  have HS := hid hs
  clear hn hs
  go_enter Tryz.func32, Tryz.ntmps32
  go_wp2_with (at_make; refine wpList_make_full _ rfl _ _ 37 rfl w.heap.size 9 i0 (.string ⟨#[]⟩) 1 Tryz.underlying37 hi hz0 hz1 .i64 .i64 _ _ (n + 2) rfl rfl (by omega) (by omega) (by rw [hz2]; omega) (by unfold maxLen; omega) (Nat.le_refl _) ?_)
  intro w1 hown1 hg1
  have hblk := hid (made_block hown1)
  have hbel1 : Below w.heap.size w w1 := (Below.refl _ _).grown hg1 (Nat.le_refl _) (fun k hk => by cases hk)
  have hlen := HN.out
  have H1 : Hid ((sv ss).length = Nat.min n (n + 2)) := by show _ = _; rw [length_sv, hlen]; exact min_len n
  have H2 : Hid (0 < (sv ss).length → (some ⟨w.heap.size, 0, none⟩ : Option Addr) = some ⟨w.heap.size, 0, none⟩ ∧ ∃ ad, a = some ad ∧ ∀ j v, (sv ss)[j]? = some v → w1.cell? (ad.add j) = some v) := by
    intro hp
    refine ⟨rfl, ?_⟩
    obtain ⟨b, off, rfl, hc⟩ := HS.out.at (by rw [length_sv] at hp; omega)
    refine ⟨_, rfl, fun j v hj => ?_⟩
    rw [WideShapes.add_plain]
    obtain ⟨hjl, rfl⟩ := List.getElem?_eq_some_iff.1 hj
    have hj' : j < ss.length := by simpa [sv] using hjl
    rw [cell_kept (hc j hj') hbel1]
    simp [sv]
  have H3 : Hid (0 + (sv ss).length ≤ (List.replicate (n + 2) (Value.string ⟨#[]⟩)).length) := by show _ ≤ _; rw [length_sv]; simp; omega
  have H4 : Hid (∀ v ∈ sv ss, v.oneCell' = true) := by
    intro v hv
    obtain ⟨s, _, rfl⟩ := List.mem_map.1 hv
    rfl
  clear hown1 hg1 hlen
  go_wp2_with (refine wpList_copy_splice rfl (.tmp 10) (.tmp 11) 37 37 rfl 9 Tryz.underlying37 Tryz.sizeStr _ _ _ _ _ _ rfl rfl w.heap.size 0 _ 9 hblk.out (sv ss) H1.out H2.out H3.out H4.out w.heap.size w hbel1 (Nat.le_refl _) ?_)
  · intro w2 HG2 hbel2
    have hlen := HN.out
    have hg2 := HG2.out
    rw [splice_head _ n (sv ss) (by rw [length_sv, hlen])] at hg2
    have hfr := block_free hg2
    have hcl := block_cell hg2
    have HCL := hid hcl
    have hf1 := hfr n
    have hf2 := hfr (n + 1)
    have hc1 : w2.cell? ⟨w.heap.size, n, none⟩ = some (.string ⟨#[]⟩) := by rw [hcl, List.getElem?_append_right (by rw [length_sv]; omega)]; simp [length_sv, hlen]
    have hc2 : w2.cell? ⟨w.heap.size, n + 1, none⟩ = some (.string ⟨#[]⟩) := by rw [hcl, List.getElem?_append_right (by rw [length_sv]; omega)]; simp [length_sv, hlen]
    clear hg2 hfr hcl HG2 hblk hbel1 H1 H2 H3 H4
    have i5 : IntKind.i64.wrap ((n : Int) + 1) = (n : Int) + 1 := wrap_id _ (by omega) (by omega)
    clear hlen
    go_wp2_with fail
    go_ret
    have hts := two_stores (u := .string ⟨#[45]⟩) (v := .string ⟨#[45]⟩) hc1 hc2
    refine ⟨_, rfl, fun i hi => ?_, hts.1, hts.2.1, (hbel2.setCell (Nat.le_refl _) _).setCell (Nat.le_refl _) _⟩
    rw [hts.2.2 i (by have := HN.out; omega), HCL.out, List.getElem?_append_left (by rw [length_sv]; exact hi)]
    simp [sv, List.getElem?_eq_getElem hi]

/-- Whether two lists are the same. -/
def sameB {α : Type} [DecidableEq α] (a b : List α) : Bool := decide (a = b)
theorem take_eq_of {α : Type} {a b : List α} (n : Nat) (h : ∀ i (h1 : i < a.length) (h2 : i < b.length), i < n → a[i] = b[i]) (hl : a.length = b.length) (hn : a.length ≤ n) : a = b :=
  List.ext_getElem hl (fun i h1 h2 => h i h1 h2 (by omega))

theorem bne_str {s t : ByteArray} (h : s ≠ t) : (s.toList == t.toList) = false := by
  rw [beq_eq_false_iff_ne]
  intro e
  rw [ByteArray.toList_eq, ByteArray.toList_eq] at e
  exact h (by rw [← bs_toList s, e, bs_toList])
theorem bne_int {s t : Int} (h : s ≠ t) : (s == t) = false := by simpa using h

set_option maxHeartbeats 1000000 in
theorem sameTexts_any (n m : Nat) (a b : Option Addr) (ss ts : List ByteArray) (c d : Nat) (w : World) (hn : ss.length = n) (hm : ts.length = m) (hs : Strs w a ss) (ht : Strs w b ts) (hr : n * 16 ≤ 140737488351232) (hr2 : m * 16 ≤ 140737488351232) :
    Calls Tryz.prog 22 #[.slice a n c, .slice b m d] w fun e w' => e = .returned (.bool (sameB ss ts)) ∧ Below w.heap.size w w' := by
  by_cases hnm : n = m
  · subst hnm
    have HN := hid hn
    have HM := hid hm
    have HS := hid hs
    have HT := hid ht
    clear hn hm hs ht
    go_enter Tryz.func22, Tryz.ntmps22
    go_wp2_with fail
    go_loopw [5] (fun i wr => ∃ k : Nat, k ≤ n ∧ i = .int .i64 k ∧ Hid (∀ i (h1 : i < ss.length) (h2 : i < ts.length), i < k → ss[i] = ts[i]) ∧ Below w.heap.size w wr) (fun i _ => n - (intOf i).toNat)
    case atStart => exact ⟨0, Nat.zero_le _, rfl, fun i _ _ h => by omega, Below.refl _ _⟩
    case round =>
      obtain ⟨k, hk, rfl, HE, hbel⟩ := hrel
      by_cases hlt : k < n
      · have hlen := HN.out
        have hlen2 := HM.out
        obtain ⟨b1, o1, rfl, hc1⟩ := HS.out.at (by omega)
        obtain ⟨b2, o2, rfl, hc2⟩ := HT.out.at (by omega)
        have hx := cell_kept' (hc1 k (by omega)) hbel
        have hy := cell_kept' (hc2 k (by omega)) hbel
        by_cases heq : ss[k] = ts[k]
        · have HE2 : Hid (∀ i (h1 : i < ss.length) (h2 : i < ts.length), i < k + 1 → ss[i] = ts[i]) := fun i h1 h2 h => by
            by_cases hik : i < k
            · exact HE.out i h1 h2 hik
            · obtain rfl : i = k := by omega
              exact heq
          rw [← heq] at hy
          obtain ⟨s, hse⟩ : ∃ s, s = ss[k] := ⟨_, rfl⟩
          rw [← hse] at hx hy
          clear hse heq hc1 hc2 hlen hlen2 HS HT
          have i1 : (0 : Int) ≤ (k : Int) := by omega
          have i2 : (k : Int) < (n : Int) := by omega
          go_wp2_with fail
          go_quiet (fail)
          go_wp2_with fail
          go_roundw
          case rel => exact ⟨k + 1, by omega, by go_num, HE2, by first | exact hbel | exact below_drewN hbel _⟩
          case measure => simp [intOf]; omega
        · have HF : Hid (sameB ss ts = false) := by
            show _ = _
            unfold sameB
            rw [decide_eq_false_iff_not]
            intro h
            subst h
            exact heq rfl
          have hne := bne_str heq
          clear hc1 hc2 HS HT
          have i1 : (0 : Int) ≤ (k : Int) := by omega
          have i2 : (k : Int) < (n : Int) := by omega
          obtain ⟨s, hse⟩ : ∃ s, s = ss[k] := ⟨_, rfl⟩
          obtain ⟨t, hte⟩ : ∃ t, t = ts[k] := ⟨_, rfl⟩
          rw [← hse] at hx hne
          rw [← hte] at hy hne
          clear heq hse hte hlen hlen2
          go_wp2_with fail
          go_quiet (fail)
          go_wp2_with fail
          go_ret
          exact ⟨by rw [HF.out]; rfl, below_drewN hbel _⟩
      · go_wp2_with fail
        go_ret
        refine ⟨?_, hbel⟩
        have : sameB ss ts = true := by
          unfold sameB
          rw [decide_eq_true_eq]
          have h1 := HN.out
          have h2 := HM.out
          exact take_eq_of k HE.out (by omega) (by omega)
        rw [this]; rfl
  · have HF : Hid (sameB ss ts = false) := by
      show _ = _
      unfold sameB
      rw [decide_eq_false_iff_not]
      intro h
      subst h
      omega
    have h1 : ((n : Int) == (m : Int)) = false := by simp; omega
    clear hn hm hs ht
    go_enter Tryz.func22, Tryz.ntmps22
    go_wp2_with fail
    go_ret
    exact ⟨by rw [HF.out]; rfl, Below.refl _ _⟩

set_option maxHeartbeats 1000000 in
theorem stillTexts_any (n : Nat) (g : Nat) (a : Option Addr) (ss : List ByteArray) (cap : Nat) (w : World) (hn : ss.length = n) (hg : ∀ i (h : i < ss.length), w.cell? ⟨g, i, none⟩ = some (.string ss[i]))
    (h1 : w.cell? ⟨g, n, none⟩ = some (.string ⟨#[45]⟩)) (h2 : w.cell? ⟨g, n + 1, none⟩ = some (.string ⟨#[45]⟩)) (hs : Strs w a ss) (hr : n * 16 ≤ 140737488351232) :
    Calls Tryz.prog 34 #[.slice (some ⟨g, 0, none⟩) n (n + 2), .slice a n cap] w fun e w' => e = .returned (.bool true) ∧ Below w.heap.size w w' := by
  have ho : Strs w (some ⟨g, 0, none⟩) ss := .inr ⟨g, 0, rfl, fun i hi => by rw [Nat.zero_add]; exact hg i hi⟩
  have HC := hid (sameTexts_any n n (some ⟨g, 0, none⟩) a ss ss (n + 2) cap w hn hn ho hs hr hr)
  have hT : sameB ss ss = true := by unfold sameB; exact decide_eq_true rfl
  clear hn hg hs ho
  go_enter Tryz.func34, Tryz.ntmps34
  go_wp2_with fail
  refine HC.out.mono ?_
  rintro e w1 ⟨rfl, hb1⟩
  have h1' := cell_kept h1 hb1
  have h2' := cell_kept h2 hb1
  clear h1 h2
  have i5 : IntKind.i64.wrap ((n : Int) + 2) = (n : Int) + 2 := wrap_id _ (by omega) (by omega)
  go_wp2_with fail
  go_ret
  exact ⟨by simp, hb1⟩

set_option maxHeartbeats 1000000 in
theorem sameInts_any (n m : Nat) (a b : Option Addr) (ss ts : List Int) (c d : Nat) (w : World) (hn : ss.length = n) (hm : ts.length = m) (hs : Ints w a ss) (ht : Ints w b ts) (hr : n * 8 ≤ 140737488351232) (hr2 : m * 8 ≤ 140737488351232) :
    Calls Tryz.prog 36 #[.slice a n c, .slice b m d] w fun e w' => e = .returned (.bool (sameB ss ts)) ∧ Below w.heap.size w w' := by
  by_cases hnm : n = m
  · subst hnm
    have HN := hid hn
    have HM := hid hm
    have HS := hid hs
    have HT := hid ht
    clear hn hm hs ht
    go_enter Tryz.func36, Tryz.ntmps36
    go_wp2_with fail
    go_loopw [5] (fun i wr => ∃ k : Nat, k ≤ n ∧ i = .int .i64 k ∧ Hid (∀ i (h1 : i < ss.length) (h2 : i < ts.length), i < k → ss[i] = ts[i]) ∧ Below w.heap.size w wr) (fun i _ => n - (intOf i).toNat)
    case atStart => exact ⟨0, Nat.zero_le _, rfl, fun i _ _ h => by omega, Below.refl _ _⟩
    case round =>
      obtain ⟨k, hk, rfl, HE, hbel⟩ := hrel
      by_cases hlt : k < n
      · have hlen := HN.out
        have hlen2 := HM.out
        obtain ⟨b1, o1, rfl, hc1⟩ := HS.out.at (by omega)
        obtain ⟨b2, o2, rfl, hc2⟩ := HT.out.at (by omega)
        have hx := cell_kept' (hc1 k (by omega)) hbel
        have hy := cell_kept' (hc2 k (by omega)) hbel
        by_cases heq : ss[k] = ts[k]
        · have HE2 : Hid (∀ i (h1 : i < ss.length) (h2 : i < ts.length), i < k + 1 → ss[i] = ts[i]) := fun i h1 h2 h => by
            by_cases hik : i < k
            · exact HE.out i h1 h2 hik
            · obtain rfl : i = k := by omega
              exact heq
          rw [← heq] at hy
          obtain ⟨s, hse⟩ : ∃ s, s = ss[k] := ⟨_, rfl⟩
          rw [← hse] at hx hy
          clear hse heq hc1 hc2 hlen hlen2 HS HT
          have i1 : (0 : Int) ≤ (k : Int) := by omega
          have i2 : (k : Int) < (n : Int) := by omega
          go_wp2_with fail
          go_quiet (fail)
          go_wp2_with fail
          go_roundw
          case rel => exact ⟨k + 1, by omega, by go_num, HE2, by first | exact hbel | exact below_drewN hbel _⟩
          case measure => simp [intOf]; omega
        · have HF : Hid (sameB ss ts = false) := by
            show _ = _
            unfold sameB
            rw [decide_eq_false_iff_not]
            intro h
            subst h
            exact heq rfl
          have hne := bne_int heq
          clear hc1 hc2 HS HT
          have i1 : (0 : Int) ≤ (k : Int) := by omega
          have i2 : (k : Int) < (n : Int) := by omega
          obtain ⟨s, hse⟩ : ∃ s, s = ss[k] := ⟨_, rfl⟩
          obtain ⟨t, hte⟩ : ∃ t, t = ts[k] := ⟨_, rfl⟩
          rw [← hse] at hx hne
          rw [← hte] at hy hne
          clear heq hse hte hlen hlen2
          go_wp2_with fail
          go_quiet (fail)
          go_wp2_with fail
          go_ret
          exact ⟨by rw [HF.out]; rfl, below_drewN hbel _⟩
      · go_wp2_with fail
        go_ret
        refine ⟨?_, hbel⟩
        have : sameB ss ts = true := by
          unfold sameB
          rw [decide_eq_true_eq]
          have h1 := HN.out
          have h2 := HM.out
          exact take_eq_of k HE.out (by omega) (by omega)
        rw [this]; rfl
  · have HF : Hid (sameB ss ts = false) := by
      show _ = _
      unfold sameB
      rw [decide_eq_false_iff_not]
      intro h
      subst h
      omega
    have h1 : ((n : Int) == (m : Int)) = false := by simp; omega
    clear hn hm hs ht
    go_enter Tryz.func36, Tryz.ntmps36
    go_wp2_with fail
    go_ret
    exact ⟨by rw [HF.out]; rfl, Below.refl _ _⟩

end Go.Proofs.YtedblhcehlbbmaaGreatDoor


/-
  CONTRACT: lenderkeep.events: a list of events of the call's own.
-/
namespace Go.Proofs.YtedblhcehlbbmaaGreatDoor
set_option maxRecDepth 20000
open Go.RowKit

/-- The i-th event of raw numbers, the day so far being d. -/
def evU (zs : List Int) (i : Nat) : Nat := pickN (zs.getD (3 * i) 0) 1099511627776
def evD (zs : List Int) (i : Nat) : Nat := pickN (zs.getD (3 * i + 1) 0) 100
def evA (zs : List Int) (i : Nat) (n : Nat) : Nat := pickN (zs.getD (3 * i + 2) 0) n
def evAm (zs : List Int) (i : Nat) : Nat :=
  if evU zs i / 4 % 3 = 2 then evA zs i 1001 else if evU zs i / 12 % 2 = 0 then 1 + evA zs i 300 else 1 + evA zs i 100000000
/-- The day ahead of the i-th event. -/
def evDay (zs : List Int) : Nat → Nat
  | 0 => 0
  | i + 1 => evDay zs i + evD zs i
def evAt (zs : List Int) (i : Nat) : Ev := ⟨((evU zs i % 4 * 21 : Nat) : Int), ((evU zs i / 4 % 3 : Nat) : Int), (evAm zs i : Int), (evDay zs (i + 1) : Int)⟩
def evTo (zs : List Int) : Nat → List Ev
  | 0 => []
  | i + 1 => evTo zs i ++ [evAt zs i]
/-- How many events there are. -/
def evK (n : Nat) : Nat := if n / 3 < 60 then n / 3 else 60
def evs (zs : List Int) : List Ev := evTo zs (evK zs.length)
theorem length_evTo (zs : List Int) (k : Nat) : (evTo zs k).length = k := by
  induction k with
  | zero => rfl
  | succ k ih => rw [evTo, List.length_append, ih]; rfl
theorem length_evs (zs : List Int) : (evs zs).length ≤ 60 := by unfold evs evK; rw [length_evTo]; split <;> omega
theorem evDay_le (zs : List Int) (k : Nat) : evDay zs k ≤ 99 * k := by
  induction k with
  | zero => simp [evDay]
  | succ k ih =>
    have := pickN_lt (zs.getD (3 * k + 1) 0) 100 (by omega)
    rw [evDay]; unfold evD; omega
theorem evAt_may (zs : List Int) (i : Nat) (h : i < 60) : MayE (evAt zs i) := by
  have h1 := evDay_le zs (i + 1)
  have h2 := pickN_lt (zs.getD (3 * i + 2) 0) 1001 (by omega)
  have h3 := pickN_lt (zs.getD (3 * i + 2) 0) 300 (by omega)
  have h4 := pickN_lt (zs.getD (3 * i + 2) 0) 100000000 (by omega)
  refine ⟨?_, ?_, ?_, ?_⟩
  · simp only [evAt]; omega
  · simp only [evAt]; omega
  · by_cases hk : evU zs i / 4 % 3 = 2
    · have hk' : (evAt zs i).kind = 2 := by simp only [evAt]; omega
      rw [if_pos hk', if_pos hk']
      simp only [evAt]
      unfold evAm evA
      rw [if_pos hk]; omega
    · have hk' : ¬ (evAt zs i).kind = 2 := by simp only [evAt]; omega
      rw [if_neg hk', if_neg hk']
      simp only [evAt]
      unfold evAm evA
      rw [if_neg hk]; split <;> omega
  · simp only [evAt]; omega
theorem evTo_last (zs : List Int) (k : Nat) : lastD (evTo zs k) = (evDay zs k : Int) := by
  cases k with
  | zero => rfl
  | succ k => rw [evTo, lastD_snoc]; rfl
theorem evTo_good (zs : List Int) (k : Nat) (h : k ≤ 60) : GoodE (evTo zs k) := by
  induction k with
  | zero => exact GoodE.nil
  | succ k ih =>
    rw [evTo]
    refine (ih (by omega)).snoc (by rw [length_evTo]; omega) (evAt_may zs k (by omega)) ?_
    rw [evTo_last]
    simp only [evAt, evDay]; omega
theorem evs_good (zs : List Int) : GoodE (evs zs) := evTo_good zs _ (by unfold evK; split <;> omega)

theorem Tryz.infoEvent : (Tryz.prog.info? 31).map (fun i => (i.zero, i.size, i.bytes)) = some (some (.agg #[.int .i64 0, .int .i64 0, .int .i64 0, .int .i64 0]), 4, 32) := by kernel_rfl

/-- An event's cells. -/
def ecells (e : Ev) : List Value := [.int .i64 e.loan, .int .i64 e.kind, .int .i64 e.amount, .int .i64 e.day]
def ecs (es : List Ev) : List Value := es.flatMap ecells
theorem ecs_append (a b : List Ev) : ecs (a ++ b) = ecs a ++ ecs b := by simp [ecs]
theorem length_ecs (es : List Ev) : (ecs es).length = es.length * 4 := by
  induction es with
  | nil => rfl
  | cons t ts ih => unfold ecs at *; rw [List.flatMap_cons, List.length_append, ih]; simp [ecells]; omega
theorem ecs_at (es : List Ev) (i : Nat) (h : i < es.length) : (ecs es)[4 * i]? = some (.int .i64 es[i].loan) ∧ (ecs es)[4 * i + 1]? = some (.int .i64 es[i].kind) ∧ (ecs es)[4 * i + 2]? = some (.int .i64 es[i].amount) ∧ (ecs es)[4 * i + 3]? = some (.int .i64 es[i].day) := by
  induction es generalizing i with
  | nil => simp at h
  | cons t ts ih =>
    cases i with
    | zero => simp [ecs, ecells]
    | succ i =>
      have := ih i (by simp at h; omega)
      have e : ecs (t :: ts) = ecells t ++ ecs ts := by simp [ecs]
      have hl : (ecells t).length = 4 := rfl
      rw [e, List.getElem?_append_right (by omega), List.getElem?_append_right (by omega), List.getElem?_append_right (by omega), List.getElem?_append_right (by omega), hl, show 4 * (i + 1) - 4 = 4 * i by omega, show 4 * (i + 1) + 1 - 4 = 4 * i + 1 by omega, show 4 * (i + 1) + 2 - 4 = 4 * i + 2 by omega, show 4 * (i + 1) + 3 - 4 = 4 * i + 3 by omega]
      exact this

/-- The slice v is the call's own (from block B on) and holds these events. -/
def OwnE (w : World) (B : Nat) (v : Value) (es : List Ev) : Prop := w.ownsRow B 31 4 v es.length (ecs es)
theorem OwnE.nil (w : World) (B : Nat) : OwnE w B (.slice none 0 0) [] := World.ownsRow_nil _ _ _ _
theorem OwnE.alloc {w : World} {B : Nat} {v : Value} {l : List Ev} (h : OwnE w B v l) (o : Obj) : OwnE (w.alloc o) B v l := World.ownsRow.alloc h o
theorem OwnE.kept {w w' : World} {B : Nat} {v : Value} {l : List Ev} (h : OwnE w B v l) (hb : Below w.heap.size w w') : OwnE w' B v l := by
  obtain ⟨h1, h2⟩ := h
  refine ⟨h1, ?_⟩
  rcases h2 with h2 | ⟨g, cap, cur, e1, e2, e3, e4⟩
  · exact .inl h2
  · have hg : g < w.heap.size := by
      rcases Nat.lt_or_ge g w.heap.size with h | h
      · exact h
      · rw [Array.getElem?_eq_none h] at e3; cases e3
    exact .inr ⟨g, cap, cur, e1, e2, by rw [hb.block g hg]; exact e3, e4⟩

/-- The slice at this address holds these events. -/
def Evs (w : World) (a : Option Addr) (es : List Ev) : Prop :=
  es = [] ∨ ∃ b, a = some ⟨b, 0, none⟩ ∧ ∀ i (h : i < es.length), w.cell? ⟨b, i * 4, none⟩ = some (.int .i64 es[i].loan) ∧ w.cell? ⟨b, i * 4 + 1, none⟩ = some (.int .i64 es[i].kind) ∧ w.cell? ⟨b, i * 4 + 2, none⟩ = some (.int .i64 es[i].amount) ∧ w.cell? ⟨b, i * 4 + 3, none⟩ = some (.int .i64 es[i].day)
theorem Evs.at {w : World} {a : Option Addr} {es : List Ev} (h : Evs w a es) (hp : 0 < es.length) :
    ∃ b, a = some ⟨b, 0, none⟩ ∧ ∀ i (h : i < es.length), w.cell? ⟨b, i * 4, none⟩ = some (.int .i64 es[i].loan) ∧ w.cell? ⟨b, i * 4 + 1, none⟩ = some (.int .i64 es[i].kind) ∧ w.cell? ⟨b, i * 4 + 2, none⟩ = some (.int .i64 es[i].amount) ∧ w.cell? ⟨b, i * 4 + 3, none⟩ = some (.int .i64 es[i].day) := by
  rcases h with rfl | h
  · simp at hp
  · exact h
theorem Evs.lt {w : World} {a : Option Addr} {es : List Ev} (h : Evs w a es) (hp : 0 < es.length) : ∃ b, a = some ⟨b, 0, none⟩ ∧ b < w.heap.size := by
  obtain ⟨b, ha, hc⟩ := h.at hp
  exact ⟨b, ha, World.block_lt_of_cell? _ _ (hc 0 hp).1⟩
/-- Under a bound that is above the list's block. -/
theorem Evs.under {w w' : World} {a : Option Addr} {es : List Ev} {B : Nat} (h : Evs w a es) (hb : Below B w w') (hl : ∀ b, a = some ⟨b, 0, none⟩ → b < B) : Evs w' a es := by
  rcases h with h | ⟨b, ha, hc⟩
  · exact .inl h
  · refine .inr ⟨b, ha, fun i hi => ?_⟩
    have hlt := hl b ha
    obtain ⟨h1, h2, h3, h4⟩ := hc i hi
    exact ⟨by rw [hb.cell hlt]; exact h1, by rw [hb.cell hlt]; exact h2, by rw [hb.cell hlt]; exact h3, by rw [hb.cell hlt]; exact h4⟩
theorem OwnE.form {w : World} {B : Nat} {v : Value} {l : List Ev} (h : OwnE w B v l) : ∃ a cap, v = .slice a l.length cap ∧ l.length ≤ cap ∧ cap ≤ maxLen ∧ Evs w a l ∧ (∀ b, a = some ⟨b, 0, none⟩ → b < w.heap.size) := by
  have hh := h
  obtain ⟨h1, h2⟩ := h
  rcases h2 with ⟨rfl, h2⟩ | ⟨g, cap, cur, rfl, e2, e3, e4, e5, e6, e7⟩
  · rw [h2]; exact ⟨none, 0, rfl, Nat.le_refl _, Nat.zero_le _, .inl (List.eq_nil_of_length_eq_zero h2), fun b hb => by cases hb⟩
  · have hg : g < w.heap.size := by
      rcases Nat.lt_or_ge g w.heap.size with h | h
      · exact h
      · rw [Array.getElem?_eq_none h] at e3; cases e3
    refine ⟨_, cap, rfl, e4, e5, .inr ⟨g, rfl, fun i hi => ?_⟩, fun b hb => by cases hb; exact hg⟩
    have c := ecs_at l i hi
    have cc : ∀ j u, (ecs l)[j]? = some u → w.cell? ⟨g, j, none⟩ = some u := fun j u hj => by
      have := World.ownsRow.cells hh (g := g) rfl j u hj
      by_cases h0 : j = 0
      · subst h0; simpa [Addr.add] using this
      · simpa [Addr.add, h0] using this
    refine ⟨cc _ _ ?_, cc _ _ ?_, cc _ _ ?_, cc _ _ ?_⟩
    · rw [Nat.mul_comm]; exact c.1
    · rw [Nat.mul_comm]; exact c.2.1
    · rw [Nat.mul_comm]; exact c.2.2.1
    · rw [Nat.mul_comm]; exact c.2.2.2

/-- 'l = append(l, e)': l the call's own, e one event, laid in a block of its own first. -/
theorem wpList_appE {w : World} {ops : Array Oper} {rest : List Oper} {o : Oper} {a : Act} {Q : Exit → Act → World → Prop} (hgd : o.guard = none) (s x : Operand)
    (ho : o.op = .call { callee := .builtin .append, args := #[s, x], argTypes := #[46, 46] })
    (B : Nat) (v : Value) (l : List Ev) (t : Ev) (hs : a.eval s = v) (hown : OwnE w B v l) (g : Nat) (c : Nat) (hx : a.eval x = .slice (some ⟨g, 0, none⟩) 1 c)
    (h0 : w.cell? ⟨g, 0, none⟩ = some (.int .i64 t.loan)) (h1 : w.cell? ⟨g, 1, none⟩ = some (.int .i64 t.kind)) (h2 : w.cell? ⟨g, 2, none⟩ = some (.int .i64 t.amount)) (h3 : w.cell? ⟨g, 3, none⟩ = some (.int .i64 t.day))
    (hlen : l.length ≤ 1000000) (hB : B ≤ w.heap.size)
    (h : ∀ v' w', OwnE w' B v' (l ++ [t]) → Below B w w' → w.grownBy w' v.ownBlock → wpList Tryz.prog ops Q rest (a.put o.dst v') w') : wpList Tryz.prog ops Q (o :: rest) a w := by
  obtain ⟨i0, hi, hz0, hz1, hz2⟩ := info_parts Tryz.infoEvent
  refine wpList_append_own _ hgd s x 46 ho B 31 i0 (.agg #[.int .i64 0, .int .i64 0, .int .i64 0, .int .i64 0]) 4 32 Tryz.underlying46 hi hz0 hz1 hz2 rfl (by decide) v l.length (ecs l) hs hown ⟨g, 0, none⟩ 1 c (ecells t) hx rfl ?_ ?_ (by unfold maxLen; omega) (by omega) hB ?_
  · intro j u hj
    match j, hj with
    | 0, hj => simp [ecells] at hj; subst hj; simpa [Addr.add] using h0
    | 1, hj => simp [ecells] at hj; subst hj; simpa [Addr.add] using h1
    | 2, hj => simp [ecells] at hj; subst hj; simpa [Addr.add] using h2
    | 3, hj => simp [ecells] at hj; subst hj; simpa [Addr.add] using h3
    | j + 4, hj => simp [ecells] at hj
  · intro u hu; simp [ecells] at hu; rcases hu with rfl | rfl | rfl | rfl <;> rfl
  · intro v' w' h1 h2 _
    refine h v' w' ?_ ((Below.refl _ _).grown h2 hB (fun k hk => (hown.lt k hk).1)) h2
    unfold OwnE
    rw [ecs_append, List.length_append]
    have e : ecs [t] = ecells t := by simp [ecs]
    rw [e]
    exact h1

theorem cell_four (w : World) (x y z u : Value) (t : TypeId) : (w.alloc (.cells #[x, y, z, u] t)).cell? ⟨w.heap.size, 0, none⟩ = some x ∧ (w.alloc (.cells #[x, y, z, u] t)).cell? ⟨w.heap.size, 1, none⟩ = some y ∧ (w.alloc (.cells #[x, y, z, u] t)).cell? ⟨w.heap.size, 2, none⟩ = some z ∧ (w.alloc (.cells #[x, y, z, u] t)).cell? ⟨w.heap.size, 3, none⟩ = some u := by
  refine ⟨?_, ?_, ?_, ?_⟩ <;> rw [World.cell?_alloc_mark] <;> rfl

theorem cell_four' (w : World) (X : Obj) (x y z u : Value) (t : TypeId) : ((w.alloc X).alloc (.cells #[x, y, z, u] t)).cell? ⟨w.heap.size + 1, 0, none⟩ = some x ∧ ((w.alloc X).alloc (.cells #[x, y, z, u] t)).cell? ⟨w.heap.size + 1, 1, none⟩ = some y ∧ ((w.alloc X).alloc (.cells #[x, y, z, u] t)).cell? ⟨w.heap.size + 1, 2, none⟩ = some z ∧ ((w.alloc X).alloc (.cells #[x, y, z, u] t)).cell? ⟨w.heap.size + 1, 3, none⟩ = some u := by
  have h := cell_four (w.alloc X) x y z u t
  rw [show (w.alloc X).heap.size = w.heap.size + 1 by simp] at h
  exact h

end Go.Proofs.YtedblhcehlbbmaaGreatDoor


/-
  CONTRACT: lenderkeep.kept, out of what a book's calls answer.
-/
namespace Go.Proofs.YtedblhcehlbbmaaGreatDoor
set_option maxRecDepth 20000
open Go.RowKit

/-- The events that kept adds. -/
def selE (es : List Ev) (loan : Int) : List Ev := if loan < 0 then es else ownE es loan
theorem selE_snoc (es : List Ev) (e : Ev) (loan : Int) : selE (es ++ [e]) loan = if loan < 0 ∨ e.loan = loan then selE es loan ++ [e] else selE es loan := by
  unfold selE
  by_cases h : loan < 0
  · rw [if_pos h, if_pos h, if_pos (.inl h)]
  · rw [if_neg h, if_neg h, ownE_snoc]
    by_cases h2 : e.loan = loan
    · rw [if_pos h2, if_pos (.inr h2)]
    · rw [if_neg h2, if_neg (fun x => x.elim h h2)]
theorem selE_nil (loan : Int) : selE [] loan = [] := by unfold selE; split <;> rfl
theorem selE_len (es : List Ev) (loan : Int) : (selE es loan).length ≤ es.length := by
  unfold selE; split
  · exact Nat.le_refl _
  · exact List.length_filter_le _ _
theorem selE_last (es : List Ev) (loan : Int) (h : GoodE es) : lastD (selE es loan) ≤ lastD es := by
  have hsub : ∀ e ∈ selE es loan, e ∈ es := by
    intro e he
    unfold selE at he
    split at he
    · exact he
    · exact (ownE_sub es loan e he).1
  rcases List.eq_nil_or_concat (selE es loan) with h0 | ⟨q, x, h0⟩
  · rw [h0, lastD_nil]; exact h.last_bd.1
  · rw [List.concat_eq_append] at h0
    rw [h0, lastD_snoc]
    exact h.last x (hsub x (by rw [h0]; simp))
theorem takeE_snoc (es : List Ev) (k : Nat) (h : k < es.length) : es.take (k + 1) = es.take k ++ [es[k]] := List.take_succ_eq_append_getElem h
theorem good_mid (es : List Ev) (k : Nat) (h : k < es.length) (hg : GoodE es) : MayE es[k] ∧ lastD (es.take k) ≤ es[k].day ∧ (es.take k).length < 200 := by
  have e : es = es.take k ++ es[k] :: es.drop (k + 1) := by rw [List.getElem_cons_drop, List.take_append_drop]
  have h2 := hg
  rw [e] at h2
  have := h2.mid
  exact ⟨this.2.1, this.2.2, this.1⟩

end Go.Proofs.YtedblhcehlbbmaaGreatDoor


/-
  CONTRACTS: logs.Leads (it calls itself), lender.Within; lenderref.sums, Within.
-/
namespace Go.Proofs.YtedblhcehlbbmaaGreatDoor
set_option maxRecDepth 20000
open Go.RowKit

def isSumB (p : Int) : Bool := decide (0 ≤ p ∧ p ≤ 4092)
/-- All numbers of a path are sums. -/
def bdL (zs : List Int) : Bool := zs.all isSumB
theorem bdL_snoc (q : List Int) (p : Int) : bdL (q ++ [p]) = (bdL q && isSumB p) := by simp [bdL]
theorem bdL_take (zs : List Int) (k : Nat) (h : k < zs.length) : bdL (zs.take (k + 1)) = (bdL (zs.take k) && isSumB zs[k]) := by
  rw [List.take_succ_eq_append_getElem h, bdL_snoc]
theorem isSumB_true {p : Int} (h : isSumB p = true) : Bd p := by unfold isSumB at h; exact of_decide_eq_true (p := 0 ≤ p ∧ p ≤ 4092) h
theorem bdL_mem {zs : List Int} (h : bdL zs = true) (i : Nat) (hi : i < zs.length) : Bd zs[i] := isSumB_true (List.all_eq_true.1 h _ (List.getElem_mem hi))
theorem bdL_false_take (zs : List Int) (k : Nat) (h : bdL (zs.take k) = false) : bdL zs = false := by
  unfold bdL at *
  rw [List.all_eq_false] at *
  obtain ⟨x, hx, h⟩ := h
  exact ⟨x, List.mem_of_mem_take hx, h⟩

/-- What a path leads to. -/
def leadO (n i : Nat) (x : Int) (zs : List Int) : Option Int := if bdL zs = true then leadR n i x zs else none

theorem leadR_bd (n : Nat) : ∀ (i : Nat) (x : Int) (zs : List Int) (y : Int), Bd x → leadR n i x zs = some y → Bd y := by
  induction n using Nat.strongRecOn with
  | ind n ih =>
    intro i x zs y hx h
    by_cases h1 : n ≤ 1
    · rw [leadR_one _ _ _ _ h1] at h
      split at h
      · cases h; exact hx
      · cases h
    · by_cases ha : i % 2 = 0 ∧ i + 1 = n
      · rw [leadR_alone _ _ _ _ (by omega) ha] at h
        exact ih _ (by omega) _ _ _ _ hx h
      · cases zs with
        | nil => rw [leadR_nil _ _ _ (by omega) ha] at h; cases h
        | cons p r =>
          rw [leadR_cons _ _ _ _ _ (by omega) ha] at h
          refine ih _ (by omega) _ _ _ _ ?_ h
          split <;> exact node_bd _ _
theorem leadO_bd {n i : Nat} {x : Int} {zs : List Int} {y : Int} (hx : Bd x) (h : leadO n i x zs = some y) : Bd y := by
  unfold leadO at h
  split at h
  · exact leadR_bd _ _ _ _ _ hx h
  · cases h

theorem leadO_snoc {n k i : Nat} {x p : Int} {q : List Int} (hc : IsCut n k) (hi : i < n) :
    leadO n i x (q ++ [p]) = if isSumB p = true then (if i < k then (leadO k i x q).map (fun y => node y p) else (leadO (n - k) (i - k) x q).map (fun y => node p y)) else none := by
  unfold leadO
  rw [bdL_snoc, lead_cut n k i x p q hc hi]
  cases isSumB p <;> cases bdL q <;> simp
theorem leadO_bad {n i : Nat} {x p : Int} {q : List Int} (h : isSumB p = false) : leadO n i x (q ++ [p]) = none := by
  unfold leadO; rw [bdL_snoc, h]; simp
theorem leadO_nil {n i : Nat} {x : Int} (h1 : 1 < n) (hi : i < n) : leadO n i x [] = none := by
  unfold leadO; rw [lead_cut_nil n i x h1 hi]; simp
theorem leadO_one {n i : Nat} {x : Int} (zs : List Int) (h : n ≤ 1) : leadO n i x zs = if zs = [] then some x else none := by
  unfold leadO; rw [leadR_one _ _ _ _ h]
  by_cases hz : zs = []
  · subst hz; rfl
  · rw [if_neg hz]; simp

theorem snoc_of (zs : List Int) (l : Nat) (h : zs.length = l + 1) : ∃ q p, zs = q ++ [p] ∧ q.length = l := by
  rcases List.eq_nil_or_concat zs with rfl | ⟨q, p, rfl⟩
  · simp at h
  · exact ⟨q, p, by rw [List.concat_eq_append], by simpa using h⟩

/-- The value of an answer 'number, whether'. -/
def optV (o : Option Int) : Value := .tuple #[.int .i64 (o.getD 0), .bool o.isSome]

theorem optV_some (y : Int) : optV (some y) = .tuple #[.int .i64 y, .bool true] := rfl

/-- The text whose sum a path leads to, from the sum of a text. -/
def leadTx (n i : Nat) (t : List UInt8) (zs : List Int) : Option (List UInt8) :=
  if n ≤ 1 then (if zs = [] then some t else none) else
  if zs = [] then none else
  if isSumB (zs.getLastD 0) = true then
    (if i < cutN n then (leadO (cutN n) i (sm t) zs.dropLast).map (fun y => nodeT y (zs.getLastD 0)) else (leadO (n - cutN n) (i - cutN n) (sm t) zs.dropLast).map (fun y => nodeT (zs.getLastD 0) y))
  else none
theorem leadTx_one {n i : Nat} {t : List UInt8} (zs : List Int) (h : n ≤ 1) : leadTx n i t zs = if zs = [] then some t else none := by unfold leadTx; rw [if_pos h]
theorem leadTx_nil {n i : Nat} {t : List UInt8} (h : 1 < n) : leadTx n i t [] = none := by unfold leadTx; rw [if_neg (by omega), if_pos rfl]
theorem leadTx_snoc {n k i : Nat} {t : List UInt8} {p : Int} {q : List Int} (hc : IsCut n k) :
    leadTx n i t (q ++ [p]) = if isSumB p = true then (if i < k then (leadO k i (sm t) q).map (fun y => nodeT y p) else (leadO (n - k) (i - k) (sm t) q).map (fun y => nodeT p y)) else none := by
  have h1 := hc.pos.2
  unfold leadTx
  rw [if_neg (by omega), if_neg (by simp), cutN_of hc, List.dropLast_concat, show (q ++ [p]).getLastD 0 = p by simp]
theorem leadTx_bad {n i : Nat} {t : List UInt8} {p : Int} {q : List Int} (h1 : 1 < n) (h : isSumB p = false) : leadTx n i t (q ++ [p]) = none := by
  rw [leadTx_snoc (cutN_is n h1), h]; simp
theorem map_node_l (o : Option Int) (p : Int) : (o.map (fun y => nodeT y p)).map sm = o.map (fun y => node y p) := by
  cases o with
  | none => rfl
  | some y => simp only [Option.map_some, node]
theorem map_node_r (o : Option Int) (p : Int) : (o.map (fun y => nodeT p y)).map sm = o.map (fun y => node p y) := by
  cases o with
  | none => rfl
  | some y => simp only [Option.map_some, node]
theorem sm_leadTx {n i : Nat} {t : List UInt8} {zs : List Int} (hi : i < n) : (leadTx n i t zs).map sm = leadO n i (sm t) zs := by
  by_cases h1 : n ≤ 1
  · rw [leadTx_one _ h1, leadO_one _ h1]; split <;> rfl
  · rcases List.eq_nil_or_concat zs with rfl | ⟨q, p, rfl⟩
    · rw [leadTx_nil (by omega), leadO_nil (by omega) hi]; rfl
    · rw [List.concat_eq_append, leadTx_snoc (cutN_is n (by omega)), leadO_snoc (cutN_is n (by omega)) hi]
      split
      · split
        · exact map_node_l _ _
        · exact map_node_r _ _
      · rfl
theorem length_leadTx {n i : Nat} {t u : List UInt8} {zs : List Int} (h : leadTx n i t zs = some u) : u.length ≤ t.length + 5 := by
  by_cases h1 : n ≤ 1
  · rw [leadTx_one _ h1] at h
    split at h
    · cases h; omega
    · cases h
  · rcases List.eq_nil_or_concat zs with rfl | ⟨q, p, rfl⟩
    · rw [leadTx_nil (by omega)] at h; cases h
    · rw [List.concat_eq_append, leadTx_snoc (cutN_is n (by omega))] at h
      split at h
      · split at h
        · obtain ⟨y, _, rfl⟩ := Option.map_eq_some_iff.1 h
          rw [length_nodeT]; omega
        · obtain ⟨y, _, rfl⟩ := Option.map_eq_some_iff.1 h
          rw [length_nodeT]; omega
      · cases h
theorem leadTx_none {n i : Nat} {t : List UInt8} {zs : List Int} (hi : i < n) (h : leadTx n i t zs = none) : leadO n i (sm t) zs = none := by rw [← sm_leadTx hi, h]; rfl
theorem leadTx_some {n i : Nat} {t u : List UInt8} {zs : List Int} (hi : i < n) (h : leadTx n i t zs = some u) : leadO n i (sm t) zs = some (sm u) := by rw [← sm_leadTx hi, h]; rfl

/-- The value of an answer 'text, whether'. -/
def optT (o : Option (List UInt8)) : Value := .tuple #[.string (bs (o.getD [])), .bool o.isSome]

set_option maxHeartbeats 1000000 in
theorem sums_any (l : Nat) (a : Option Addr) (zs : List Int) (cap : Nat) (w : World) (hl : zs.length = l) (hr : l ≤ 17592186043904) (hz : Ints w a zs) :
    Calls Tryz.prog 99 #[.slice a l cap] w fun e w' => e = .returned (.bool (bdL zs)) ∧ w' = w := by
  have HL := hid hl
  have HZ := hid hz
  clear hl hz
  go_enter Tryz.func99, Tryz.ntmps99
  go_wp2
  go_loop [3] (fun i => ∃ k : Nat, k ≤ l ∧ Hid (bdL (zs.take k) = true) ∧ i = .int .i64 k) (fun i => l - (intOf i).toNat)
  case atStart => exact ⟨0, Nat.zero_le _, rfl, rfl⟩
  case round =>
    obtain ⟨k, hk, HK, rfl⟩ := hrel
    by_cases hlt : k < l
    · have hkz : k < zs.length := by rw [HL.out]; exact hlt
      obtain ⟨b, off, rfl, hc⟩ := HZ.out.at (by omega)
      have hck := hc k hkz
      have HT := hid (bdL_take zs k hkz)
      generalize zs[k] = z at hck HT
      clear hc hkz
      by_cases h0 : z < 0
      · have HF : Hid (bdL zs = false) := bdL_false_take zs (k + 1) (by rw [HT.out, HK.out]; simp [isSumB]; omega)
        go_wp2
        go_ret
        exact ⟨by rw [HF.out]; rfl, rfl⟩
      · by_cases h1 : 4092 < z
        · have HF : Hid (bdL zs = false) := bdL_false_take zs (k + 1) (by rw [HT.out, HK.out]; simp [isSumB]; omega)
          go_wp2
          go_ret
          exact ⟨by rw [HF.out]; rfl, rfl⟩
        · have HN : Hid (bdL (zs.take (k + 1)) = true) := by show _ = _; rw [HT.out, HK.out]; simp [isSumB]; omega
          go_wp2
          go_round
          case rel => exact ⟨k + 1, by omega, HN, by go_num⟩
          case measure => simp [intOf]; omega
    · go_wp2
      go_ret
      refine ⟨?_, rfl⟩
      have := HK.out
      rw [List.take_of_length_le (by rw [HL.out]; omega)] at this
      rw [this]; rfl

/-- P6, as a Bool. -/
def withinB (root n i : Int) (e : ByteArray) (zs : List Int) : Bool := decide (1 ≤ n ∧ n ≤ 200 ∧ 0 ≤ i ∧ i < n ∧ e.size ≤ 40) && decide (leadO n.toNat i.toNat (entS e) zs = some root)
theorem withinB_out {root n i : Int} {e : ByteArray} {zs : List Int} (h : ¬ (1 ≤ n ∧ n ≤ 200 ∧ 0 ≤ i ∧ i < n ∧ e.size ≤ 40)) : withinB root n i e zs = false := by
  unfold withinB; rw [decide_eq_false h, Bool.false_and]
theorem withinB_in {root : Int} {n i : Nat} {e : ByteArray} {zs : List Int} (h1 : 1 ≤ n) (h2 : n ≤ 200) (h3 : i < n) (h4 : e.size ≤ 40) : withinB root (n : Int) (i : Int) e zs = decide (leadO n i (entS e) zs = some root) := by
  unfold withinB
  rw [Int.toNat_natCast, Int.toNat_natCast, decide_eq_true (show 1 ≤ (n : Int) ∧ (n : Int) ≤ 200 ∧ 0 ≤ (i : Int) ∧ (i : Int) < (n : Int) ∧ e.size ≤ 40 from ⟨by omega, by omega, by omega, by omega, h4⟩), Bool.true_and]

end Go.Proofs.YtedblhcehlbbmaaGreatDoor


/-
  CONTRACTS: logs.begins, logs.Joins (it calls itself), lender.Grows.
-/
namespace Go.Proofs.YtedblhcehlbbmaaGreatDoor
set_option maxRecDepth 20000
open Go.RowKit

theorem isSumB_any (n : Int) (w : World) : Calls Tryz.prog 97 #[.int .i64 n] w fun e w' => e = .returned (.bool (isSumB n)) ∧ w' = w := isSum_any n w

theorem bdL_all {zs : List Int} (h : bdL zs = true) : ∀ p ∈ zs, Bd p := fun p hp => isSumB_true (List.all_eq_true.1 h p hp)

/-- What a path joins. -/
def joinO (m n : Nat) (old : Int) (b : Bool) (zs : List Int) : Option (Int × Int) := if (isSumB old && bdL zs) = true then joinR m n old b zs.reverse else none
/-- From where a path goes on. -/
def beginO (old : Int) (b : Bool) (zs : List Int) : Option Int := if (isSumB old && bdL zs) = true then (if b = true then (if zs = [] then some old else none) else (if zs.length = 1 then some (zs.getD 0 0) else none)) else none
theorem joinO_end (m : Nat) (old : Int) (b : Bool) (zs : List Int) (h : 1 ≤ m) : joinO m m old b zs = (beginO old b zs).map (fun x => (x, x)) := by
  unfold joinO beginO
  split
  · rw [joinR_end _ _ _ _ h]
    cases b with
    | true =>
      cases zs with
      | nil => rfl
      | cons p q => simp
    | false =>
      match zs with
      | [] => rfl
      | [p] => rfl
      | p :: q :: r =>
        have hl : (p :: q :: r).reverse.length = r.length + 2 := by simp
        have : lone (p :: q :: r).reverse = none := by
          match (p :: q :: r).reverse, hl with
          | [], h => simp at h
          | [a], h => simp at h
          | a :: b :: c, _ => rfl
        rw [this]; simp
  · rfl
theorem joinO_nil {m n : Nat} {old : Int} {b : Bool} (h : m < n) : joinO m n old b [] = none := by
  unfold joinO; rw [List.reverse_nil, joinR_nil _ _ _ _ h]; simp
theorem joinO_bad {m n : Nat} {old p : Int} {b : Bool} {q : List Int} (h : isSumB p = false) : joinO m n old b (q ++ [p]) = none := by
  unfold joinO; rw [bdL_snoc, h]; simp
theorem joinO_le {m n k : Nat} {old p : Int} {b : Bool} {q : List Int} (h1 : 1 ≤ m) (hc : IsCut n k) (hk : m ≤ k) (hp : isSumB p = true) :
    joinO m n old b (q ++ [p]) = (joinO m k old b q).map (fun x => (x.1, node x.2 p)) := by
  unfold joinO
  rw [bdL_snoc, hp, Bool.and_true, List.reverse_append, List.reverse_singleton, List.singleton_append, joinR_le m n k old p b _ h1 hc hk]
  split <;> rfl
theorem joinO_gt {m n k : Nat} {old p : Int} {b : Bool} {q : List Int} (hc : IsCut n k) (hk : k < m) (hm : m < n) (hp : isSumB p = true) :
    joinO m n old b (q ++ [p]) = (joinO (m - k) (n - k) old false q).map (fun x => (node p x.1, node p x.2)) := by
  unfold joinO
  rw [bdL_snoc, hp, Bool.and_true, List.reverse_append, List.reverse_singleton, List.singleton_append, joinR_gt m n k old p b _ hc hk hm]
  split <;> rfl
theorem joinO_bd {m n : Nat} {old : Int} {b : Bool} {zs : List Int} {q : Int × Int} (h : joinO m n old b zs = some q) : Bd q.1 ∧ Bd q.2 := by
  unfold joinO at h
  split at h
  · rename_i hb
    rw [Bool.and_eq_true] at hb
    exact joinR_bd (isSumB_true hb.1) (fun p hp => bdL_all hb.2 p (by simpa using hp)) h
  · cases h

/-- The value of an answer 'number, number, whether'. -/
def optV2 (o : Option (Int × Int)) : Value := .tuple #[.int .i64 ((o.map Prod.fst).getD 0), .int .i64 ((o.map Prod.snd).getD 0), .bool o.isSome]

/-- P8, as a Bool. -/
def growsB (old m root n : Int) (zs : List Int) : Bool := decide (1 ≤ m ∧ m ≤ n ∧ n ≤ 200) && decide (joinO m.toNat n.toNat old true zs = some (old, root))
theorem growsB_out {old m root n : Int} {zs : List Int} (h : ¬ (1 ≤ m ∧ m ≤ n ∧ n ≤ 200)) : growsB old m root n zs = false := by
  unfold growsB; rw [decide_eq_false h, Bool.false_and]
theorem growsB_in {old root : Int} {m n : Nat} {zs : List Int} (h1 : 1 ≤ m) (h2 : m ≤ n) (h3 : n ≤ 200) : growsB old (m : Int) root (n : Int) zs = decide (joinO m n old true zs = some (old, root)) := by
  unfold growsB
  rw [Int.toNat_natCast, Int.toNat_natCast, decide_eq_true (show 1 ≤ (m : Int) ∧ (m : Int) ≤ (n : Int) ∧ (n : Int) ≤ 200 from ⟨by omega, by omega, by omega⟩), Bool.true_and]
theorem growsB_some {old root x y : Int} {o : Option (Int × Int)} (h : o = some (x, y)) : decide (o = some (old, root)) = (x == old && y == root) := by
  rw [h, Bool.eq_iff_iff]; simp

end Go.Proofs.YtedblhcehlbbmaaGreatDoor


/-
  CONTRACTS: logs.known, logs.Further (it calls itself), lender.Further.
-/
namespace Go.Proofs.YtedblhcehlbbmaaGreatDoor
set_option maxRecDepth 20000
open Go.RowKit

/-- The path that joins the first m entries with the whole. -/
def furS (ss : List ByteArray) (m : Nat) (b : Bool) : List Int := furR (lvs ss) m b
theorem furS_len (ss : List ByteArray) (m : Nat) (b : Bool) : (furS ss m b).length ≤ ss.length := by
  have := length_furR (lvs ss) m b
  rw [length_lvs] at this; exact this
theorem furS_true (ss : List ByteArray) (m : Nat) (h : ss.length ≤ m) (h1 : 1 ≤ ss.length) : furS ss m true = [] := by
  unfold furS; rw [furR_end _ _ _ (by rw [length_lvs]; exact h) (by rw [length_lvs]; exact h1)]; rfl
theorem furS_false (ss : List ByteArray) (m : Nat) (h : ss.length ≤ m) (h1 : 1 ≤ ss.length) : furS ss m false = [rootS ss] := by
  unfold furS; rw [furR_end _ _ _ (by rw [length_lvs]; exact h) (by rw [length_lvs]; exact h1)]; rfl
theorem furS_le (ss : List ByteArray) (m k : Nat) (b : Bool) (hm : 1 ≤ m) (hc : IsCut ss.length k) (hk : m ≤ k) : furS ss m b = furS (ss.take k) m b ++ [rootS (ss.drop k)] := by
  unfold furS rootS; rw [furR_le _ _ k b hm (by rw [length_lvs]; exact hc) hk, lvs_take, lvs_drop]
theorem furS_gt (ss : List ByteArray) (m k : Nat) (b : Bool) (hc : IsCut ss.length k) (hk : k < m) (hm : m < ss.length) : furS ss m b = furS (ss.drop k) (m - k) false ++ [rootS (ss.take k)] := by
  unfold furS rootS; rw [furR_gt _ _ k b (by rw [length_lvs]; exact hc) hk (by rw [length_lvs]; exact hm), lvs_take, lvs_drop]

theorem Own.one (w : World) (x : Int) (B : Nat) (hB : B ≤ w.heap.size) : Own (w.alloc (.cells #[.int .i64 x] 3)) B (.slice (some ⟨w.heap.size, 0, none⟩) 1 1) [x] :=
  ⟨rfl, .inr ⟨w.heap.size, 1, #[.int .i64 x], rfl, hB, heap_alloc_new w _, Nat.le_refl _, by decide, rfl, rfl⟩⟩

set_option maxHeartbeats 1000000 in
theorem known_any (n : Nat) (b : Bool) (a : Option Addr) (ss : List ByteArray) (cap : Nat) (w : World) (hn : ss.length = n) (hs : Strs w a ss) (h200 : n ≤ 200) (h40 : ∀ s ∈ ss, s.size ≤ 40) (hcap : n ≤ cap) (hmax : cap ≤ maxLen) :
    Calls Tryz.prog 83 #[.slice a n cap, .bool b] w fun e w' => ∃ v, e = .returned v ∧ Own w' w.heap.size v (if b = true then [] else [rootS ss]) ∧ Below w.heap.size w w' := by
  cases b with
  | true =>
    clear hs
    go_enter Tryz.func83, Tryz.ntmps83
    go_wp2_with fail
    go_ret
    exact ⟨_, rfl, Own.nil _ _, Below.refl _ _⟩
  | false =>
    have HR := hid (root_any n n a ss cap w hn (Nat.le_refl _) hs h200 h40 hcap hmax)
    clear hs hn
    go_enter Tryz.func83, Tryz.ntmps83
    go_wp2_with fail
    refine HR.out.mono ?_
    rintro e w1 ⟨rfl, hb1⟩
    have hsz := hb1.size

    go_wp2_with fail
    go_ret
    exact ⟨_, rfl, Own.one w1 (rootS ss) _ hsz, hb1.alloc hsz _⟩

set_option maxHeartbeats 1000000 in
theorem further_any (f : Nat) : ∀ (n m : Nat) (b : Bool) (a : Option Addr) (ss : List ByteArray) (cap : Nat) (w : World), ss.length = n → n ≤ f → 1 ≤ m → m ≤ n → Strs w a ss → n ≤ 200 → (∀ s ∈ ss, s.size ≤ 40) → n ≤ cap → cap ≤ maxLen →
    Calls Tryz.prog 66 #[.slice a n cap, .int .i64 (m : Int), .bool b] w fun e w' => ∃ v, e = .returned v ∧ Own w' w.heap.size v (furS ss m b) ∧ Below w.heap.size w w' := by
  induction f with
  | zero => intro n m b a ss cap w hn hf h1 h2; omega
  | succ f ih =>
    intro n m b a ss cap w hn hf hm1 hmn hs h200 h40 hcap hmax
    have IH := hid ih
    clear ih
    by_cases he : m = n
    · subst he
      have HK := hid (known_any m b a ss cap w hn hs h200 h40 hcap hmax)
      have HP : Hid (furS ss m b = if b = true then [] else [rootS ss]) := by
        cases b with
        | true => exact furS_true ss m (by omega) (by omega)
        | false => exact furS_false ss m (by omega) (by omega)
      clear hs hn
      go_enter Tryz.func66, Tryz.ntmps66
      go_wp2_with fail
      refine HK.out.mono ?_
      rintro e w1 ⟨v, rfl, hown, hb1⟩
      rw [← HP.out] at hown
      have HOWN := hid hown
      clear hown
      go_wp2_with fail
      go_ret
      exact ⟨_, rfl, HOWN.out, hb1⟩
    · unfold maxLen at hmax
      obtain ⟨bk, off, rfl, hc⟩ := hs.at (by omega)
      have HC := hid hc
      have HN : Hid (ss.length = n) := hn
      have hn2 : 1 < n := by omega
      have i1 : ¬ (n : Int) ≤ (m : Int) := by omega
      have i2 : ¬ (n : Int) ≤ 1 := by omega
      have hpl := hid (furS_len ss m b)
      clear hn hc hs
      go_enter Tryz.func66, Tryz.ntmps66
      go_wp2_with fail
      refine (cut_any n _ hn2 (by omega)).mono ?_
      rintro e w1 ⟨k, rfl, hk, rfl⟩
      have hk1 := hk.2.1
      have hk2 := hk.pos.1
      have hk3 := hk.2.2
      by_cases hik : m ≤ k
      · have HP := hid (furS_le ss m k b hm1 (by rw [HN.out]; exact hk) hik)
        have hik' : (m : Int) ≤ (k : Int) := by omega
        go_wp2_with fail
        refine (IH.out k m b _ (ss.take k) cap _ (by rw [List.length_take]; have := HN.out; omega) (by omega) hm1 hik (Strs.take HC.out k) (by omega) (fun s hs => h40 s (List.mem_of_mem_take hs)) (by omega) (by unfold maxLen; omega)).mono ?_
        rintro e w2 ⟨v, rfl, hown, hb2⟩
        have HOWN := hid hown
        clear hown
        go_wp2_with fail
        refine (root_any (n - k) (n - k) _ (ss.drop k) (cap - k) _ (by rw [List.length_drop]; have := HN.out; omega) (by omega) ((Strs.drop HC.out k).kept hb2) (by omega) (fun s hs => h40 s (List.mem_of_mem_drop hs)) (by omega) (by unfold maxLen; omega)).mono ?_
        rintro e w3 ⟨rfl, hb3⟩
        have hown3 := HOWN.out.kept hb3
        have hs2 := hb2.size
        have hs3 := hb3.size
        have hln := hid (show (furS (ss.take k) m b).length ≤ 1000000 by have := furS_len (ss.take k) m b; rw [List.length_take] at this; omega)
        go_wp2_with (at_builtin; refine wpList_app rfl _ _ rfl w1.heap.size _ _ (rootS (ss.drop k)) rfl (hown3.alloc _) w3.heap.size 1 rfl (cell_alloc_one _ _ _) hln.out (by simp; omega) ?_)
        intro v' w4 hown4 hb4
        have hbel : Below w1.heap.size w1 w4 := (((kept hb2 hb3).alloc (by omega) _).trans hb4)
        rw [← HP.out] at hown4
        have HOWN4 := hid hown4
        clear hown4 hown3 hb4
        go_wp2_with fail
        go_ret
        exact ⟨_, rfl, HOWN4.out, hbel⟩
      · have HP := hid (furS_gt ss m k b (by rw [HN.out]; exact hk) (by omega) (by have := HN.out; omega))
        have hik' : ¬ (m : Int) ≤ (k : Int) := by omega
        go_wp2_with fail
        rw [show ((m : Int) - (k : Int)) = ((m - k : Nat) : Int) from by omega]
        refine (IH.out (n - k) (m - k) false _ (ss.drop k) (cap - k) _ (by rw [List.length_drop]; have := HN.out; omega) (by omega) (by omega) (by omega) (Strs.drop HC.out k) (by omega) (fun s hs => h40 s (List.mem_of_mem_drop hs)) (by omega) (by unfold maxLen; omega)).mono ?_
        rintro e w2 ⟨v, rfl, hown, hb2⟩
        have HOWN := hid hown
        clear hown
        go_wp2_with fail
        refine (root_any k k _ (ss.take k) cap _ (by rw [List.length_take]; have := HN.out; omega) (by omega) ((Strs.take HC.out k).kept hb2) (by omega) (fun s hs => h40 s (List.mem_of_mem_take hs)) (by omega) (by unfold maxLen; omega)).mono ?_
        rintro e w3 ⟨rfl, hb3⟩
        have hown3 := HOWN.out.kept hb3
        have hs2 := hb2.size
        have hs3 := hb3.size
        have hln := hid (show (furS (ss.drop k) (m - k) false).length ≤ 1000000 by have := furS_len (ss.drop k) (m - k) false; rw [List.length_drop] at this; have := HN.out; omega)
        go_wp2_with (at_builtin; refine wpList_app rfl _ _ rfl w1.heap.size _ _ (rootS (ss.take k)) rfl (hown3.alloc _) w3.heap.size 1 rfl (cell_alloc_one _ _ _) hln.out (by simp; omega) ?_)
        intro v' w4 hown4 hb4
        have hbel : Below w1.heap.size w1 w4 := (((kept hb2 hb3).alloc (by omega) _).trans hb4)
        rw [← HP.out] at hown4
        have HOWN4 := hid hown4
        clear hown4 hown3 hb4
        go_wp2_with fail
        go_ret
        exact ⟨_, rfl, HOWN4.out, hbel⟩

/-- lender.Further: P7. -/
theorem lfurther_long (n : Nat) (i : Int) (a : Option Addr) (ss : List ByteArray) (cap : Nat) (w : World) (hn : ss.length = n) (hs : Strs w a ss) (hl : n ≤ 9223372036854775) (hL : longB ss = true) :
    Calls Tryz.prog 38 #[.slice a n cap, .int .i64 i] w fun e w' => e = .returned (.tuple #[.slice none 0 0, .int .i64 2]) ∧ Below w.heap.size w w' := by
  have hT := hid (by have := tooLong_any a ss cap w hs (by omega); rwa [hn, hL] at this : Calls _ _ _ _ _)
  clear hn hs hL
  go_enter Tryz.func38, Tryz.ntmps38
  go_wp2_with fail
  refine hT.out.mono ?_
  rintro e w1 ⟨rfl, rfl⟩
  go_wp2_with fail
  go_ret2
  exact ⟨rfl, Below.refl _ _⟩

theorem lfurther_arg (n : Nat) (i : Int) (a : Option Addr) (ss : List ByteArray) (cap : Nat) (w : World) (hn : ss.length = n) (hs : Strs w a ss) (hl : n ≤ 9223372036854775) (hL : longB ss = false) (hi : i < 1 ∨ (n : Int) < i) :
    Calls Tryz.prog 38 #[.slice a n cap, .int .i64 i] w fun e w' => e = .returned (.tuple #[.slice none 0 0, .int .i64 1]) ∧ Below w.heap.size w w' := by
  have hT := hid (by have := tooLong_any a ss cap w hs (by omega); rwa [hn, hL] at this : Calls _ _ _ _ _)
  clear hn hs hL
  rcases hi with hi | hi
  · go_enter Tryz.func38, Tryz.ntmps38
    go_wp2_with fail
    refine hT.out.mono ?_
    rintro e w1 ⟨rfl, rfl⟩
    go_wp2_with fail
    go_ret2
    exact ⟨rfl, Below.refl _ _⟩
  · have h0 : ¬ i < 1 := by omega
    go_enter Tryz.func38, Tryz.ntmps38
    go_wp2_with fail
    refine hT.out.mono ?_
    rintro e w1 ⟨rfl, rfl⟩
    go_wp2_with fail
    go_ret2
    exact ⟨rfl, Below.refl _ _⟩

theorem lfurther_ok (n m : Nat) (a : Option Addr) (ss : List ByteArray) (cap : Nat) (w : World) (hn : ss.length = n) (hs : Strs w a ss) (hL : longB ss = false) (h1 : 1 ≤ m) (hm : m ≤ n) (hcap : n ≤ cap) (hmax : cap ≤ maxLen) :
    Calls Tryz.prog 38 #[.slice a n cap, .int .i64 (m : Int)] w fun e w' => ∃ v, e = .returned (.tuple #[v, .int .i64 0]) ∧ Own w' w.heap.size v (furS ss m true) ∧ Below w.heap.size w w' := by
  have hb := longB_false ss hL
  have hP := hid (further_any n n m true a ss cap w hn (Nat.le_refl _) h1 hm hs (by omega) hb.2 hcap hmax)
  have hT := hid (by have := tooLong_any a ss cap w hs (by omega); rwa [hn, hL] at this : Calls _ _ _ _ _)
  clear hn hs hL
  have i0 : ¬ (m : Int) < 1 := by omega
  have i1 : ¬ (n : Int) < (m : Int) := by omega
  go_enter Tryz.func38, Tryz.ntmps38
  go_wp2_with fail
  refine hT.out.mono ?_
  rintro e w1 ⟨rfl, rfl⟩
  go_wp2_with fail
  refine hP.out.mono ?_
  rintro e w2 ⟨v, rfl, hown, hb2⟩
  go_wp2_with fail
  go_ret2
  exact ⟨_, rfl, hown, hb2⟩

end Go.Proofs.YtedblhcehlbbmaaGreatDoor

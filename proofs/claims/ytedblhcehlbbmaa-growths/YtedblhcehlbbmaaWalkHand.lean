/-
  CONTRACTS of what hands lists over and looks at them behind the call: lenderlaw.texts, sameTexts, stillTexts; ints, sameInts, stillInts.
-/
import Derived.Test.YtedblhcehlbbmaaWalkRef
import Derived.WalkKit
import Derived.WalkSpells
import Derived.WalkLawsBesides
import Derived.Laws.CopyOwn
import Derived.Deep.QuietTactic
import Derived.BigQuiet
namespace Go.Proofs.Ytedblhcehlbbmaa
open Go.RowKit

theorem Try.infoStr : (Try.prog.info? 9).map (fun i => (i.zero, i.size, i.bytes)) = some (some (.string ⟨#[]⟩), 1, 16) := by kernel_rfl
theorem Try.sizeInt : (Try.prog.info? 3).map (·.size) = some 1 := by kernel_rfl
theorem Try.sizeStr : (Try.prog.info? 9).map (·.size) = some 1 := by kernel_rfl

/-- Strings, as values. -/
def sv (l : List ByteArray) : List Value := l.map Value.string
theorem length_sv (l : List ByteArray) : (sv l).length = l.length := by simp [sv]
def zeroStrs (n : Nat) : List Value := List.replicate n (.string ⟨#[]⟩)

theorem made_block {w1 : World} {B g n : Nat} {z : Value} {e : TypeId} (h : w1.ownsRow B e 1 (.slice (some ⟨g, 0, none⟩) n n) n (madeCells #[z] n).toList) : w1.heap[g]? = some (.cells (List.replicate n z).toArray e (0, 0)) := by
  obtain ⟨_, h2⟩ := h
  rcases h2 with ⟨h2, _⟩ | ⟨g', cap, cur, h1, _, h3, _, _, h6, h7⟩
  · cases h2
  · cases h1
    rw [toList_madeCells_one, Nat.mul_one] at h7
    rw [List.take_of_length_le (by simp; omega)] at h7
    rw [h3, ← h7]

theorem block_cell {w : World} {g : Nat} {l : List Value} {t : TypeId} (h : w.heap[g]? = some (.cells l.toArray t (0, 0))) (i : Nat) : w.cell? ⟨g, i, none⟩ = l[i]? := by
  simp [World.cell?, h]
theorem block_free {w : World} {g : Nat} {l : List Value} {t : TypeId} (h : w.heap[g]? = some (.cells l.toArray t (0, 0))) (i : Nat) : w.frozen? ⟨g, i, none⟩ = false := by
  simp [World.frozen?, h]

/-- The row behind the copy: what was copied, then two zero cells. -/
theorem splice_head {α : Type} (z : α) (n : Nat) (l : List α) (hl : l.length = n) : splice (List.replicate (n + 2) z) 0 l = l ++ [z, z] := by
  subst hl
  unfold splice
  have e : l.length + 2 - (0 + l.length) = 2 := by omega
  rw [List.take_zero, List.drop_replicate, List.nil_append, e]; rfl

theorem min_len (n : Nat) : n = Nat.min n (n + 2) := (Nat.min_eq_left (by omega)).symm

theorem two_stores {w2 : World} {g n : Nat} {u v x1 x2 : Value} (c1 : w2.cell? ⟨g, n, none⟩ = some x1) (c2 : w2.cell? ⟨g, n + 1, none⟩ = some x2) :
    ((w2.setCell ⟨g, n, none⟩ u).setCell ⟨g, n + 1, none⟩ v).cell? ⟨g, n, none⟩ = some u ∧ ((w2.setCell ⟨g, n, none⟩ u).setCell ⟨g, n + 1, none⟩ v).cell? ⟨g, n + 1, none⟩ = some v ∧
      ∀ i, i < n → ((w2.setCell ⟨g, n, none⟩ u).setCell ⟨g, n + 1, none⟩ v).cell? ⟨g, i, none⟩ = w2.cell? ⟨g, i, none⟩ := by
  have e1 : (w2.setCell ⟨g, n, none⟩ u).cell? ⟨g, n + 1, none⟩ = some x2 := by rw [World.cell?_setCell_other _ _ _ _ (by simp)]; exact c2
  refine ⟨?_, World.cell?_setCell_same _ _ _ e1, fun i hi => ?_⟩
  · rw [World.cell?_setCell_other _ _ _ _ (by simp), World.cell?_setCell_same _ _ _ c1]
  · rw [World.cell?_setCell_other _ _ _ _ (by intro e; cases e; omega), World.cell?_setCell_other _ _ _ _ (by intro e; cases e; omega)]

set_option maxHeartbeats 1000000 in
theorem texts_any (n : Nat) (a : Option Addr) (ss : List ByteArray) (cap : Nat) (w : World) (hn : ss.length = n) (hs : Strs w a ss) (hr : n * 16 ≤ 140737488351232) :
    Calls Try.prog 13 #[.slice a n cap] w fun e w' => ∃ g, e = .returned (.slice (some ⟨g, 0, none⟩) n (n + 2)) ∧ (∀ i (h : i < ss.length), w'.cell? ⟨g, i, none⟩ = some (.string ss[i])) ∧
      w'.cell? ⟨g, n, none⟩ = some (.string ⟨#[45]⟩) ∧ w'.cell? ⟨g, n + 1, none⟩ = some (.string ⟨#[45]⟩) ∧ Below w.heap.size w w' := by
  obtain ⟨i0, hi, hz0, hz1, hz2⟩ := info_parts Try.infoStr
  have HN := hid hn
  have HS := hid hs
  clear hn hs
  go_enter Try.func13, Try.ntmps13
  go_wp2_with (at_make; refine wpList_make_full _ rfl _ _ 24 rfl w.heap.size 9 i0 (.string ⟨#[]⟩) 1 Try.underlying24 hi hz0 hz1 .i64 .i64 _ _ (n + 2) rfl rfl (by omega) (by omega) (by rw [hz2]; omega) (by unfold maxLen; omega) (Nat.le_refl _) ?_)
  intro w1 hown1 hg1
  have hblk := hid (made_block hown1)
  have hbel1 : Below w.heap.size w w1 := (Below.refl _ _).grown hg1 (Nat.le_refl _) (fun k hk => by cases hk)
  have hlen := HN.out
  have H1 : Hid ((sv ss).length = Nat.min n (n + 2)) := by show _ = _; rw [length_sv, hlen]; exact min_len n
  have H2 : Hid (0 < (sv ss).length → (some ⟨w.heap.size, 0, none⟩ : Option Addr) = some ⟨w.heap.size, 0, none⟩ ∧ ∃ ad, a = some ad ∧ ∀ j v, (sv ss)[j]? = some v → w1.cell? (ad.add j) = some v) := by
    intro hp
    refine ⟨rfl, ?_⟩
    obtain ⟨b, off, rfl, hc⟩ := HS.out.at (by rw [length_sv] at hp; omega)
    refine ⟨_, rfl, fun j v hj => ?_⟩
    rw [WideShapes.add_plain]
    obtain ⟨hjl, rfl⟩ := List.getElem?_eq_some_iff.1 hj
    have hj' : j < ss.length := by simpa [sv] using hjl
    rw [cell_kept (hc j hj') hbel1]
    simp [sv]
  have H3 : Hid (0 + (sv ss).length ≤ (List.replicate (n + 2) (Value.string ⟨#[]⟩)).length) := by show _ ≤ _; rw [length_sv]; simp; omega
  have H4 : Hid (∀ v ∈ sv ss, v.oneCell' = true) := by
    intro v hv
    obtain ⟨s, _, rfl⟩ := List.mem_map.1 hv
    rfl
  clear hown1 hg1 hlen
  go_wp2_with (refine wpList_copy_splice rfl (.tmp 10) (.tmp 11) 24 24 rfl 9 Try.underlying24 Try.sizeStr _ _ _ _ _ _ rfl rfl w.heap.size 0 _ 9 hblk.out (sv ss) H1.out H2.out H3.out H4.out w.heap.size w hbel1 (Nat.le_refl _) ?_)
  · intro w2 HG2 hbel2
    have hlen := HN.out
    have hg2 := HG2.out
    rw [splice_head _ n (sv ss) (by rw [length_sv, hlen])] at hg2
    have hfr := block_free hg2
    have hcl := block_cell hg2
    have HCL := hid hcl
    have hf1 := hfr n
    have hf2 := hfr (n + 1)
    have hc1 : w2.cell? ⟨w.heap.size, n, none⟩ = some (.string ⟨#[]⟩) := by rw [hcl, List.getElem?_append_right (by rw [length_sv]; omega)]; simp [length_sv, hlen]
    have hc2 : w2.cell? ⟨w.heap.size, n + 1, none⟩ = some (.string ⟨#[]⟩) := by rw [hcl, List.getElem?_append_right (by rw [length_sv]; omega)]; simp [length_sv, hlen]
    clear hg2 hfr hcl HG2 hblk hbel1 H1 H2 H3 H4
    have i5 : IntKind.i64.wrap ((n : Int) + 1) = (n : Int) + 1 := wrap_id _ (by omega) (by omega)
    clear hlen
    go_wp2_with fail
    go_ret
    have hts := two_stores (u := .string ⟨#[45]⟩) (v := .string ⟨#[45]⟩) hc1 hc2
    refine ⟨_, rfl, fun i hi => ?_, hts.1, hts.2.1, (hbel2.setCell (Nat.le_refl _) _).setCell (Nat.le_refl _) _⟩
    rw [hts.2.2 i (by have := HN.out; omega), HCL.out, List.getElem?_append_left (by rw [length_sv]; exact hi)]
    simp [sv, List.getElem?_eq_getElem hi]

set_option maxHeartbeats 1000000 in
theorem ints_any (n : Nat) (a : Option Addr) (ss : List Int) (cap : Nat) (w : World) (hn : ss.length = n) (hs : Ints w a ss) (hr : n * 8 ≤ 140737488351232) :
    Calls Try.prog 19 #[.slice a n cap] w fun e w' => ∃ g, e = .returned (.slice (some ⟨g, 0, none⟩) n (n + 2)) ∧ (∀ i (h : i < ss.length), w'.cell? ⟨g, i, none⟩ = some (.int .i64 ss[i])) ∧
      w'.cell? ⟨g, n, none⟩ = some (.int .i64 (-77)) ∧ w'.cell? ⟨g, n + 1, none⟩ = some (.int .i64 (-77)) ∧ Below w.heap.size w w' := by
  obtain ⟨i0, hi, hz0, hz1, hz2⟩ := info_parts Try.infoInt
  have HN := hid hn
  have HS := hid hs
  clear hn hs
  go_enter Try.func19, Try.ntmps19
  go_wp2_with (at_make; refine wpList_make_full _ rfl _ _ 32 rfl w.heap.size 3 i0 (.int .i64 0) 1 Try.underlying32 hi hz0 hz1 .i64 .i64 _ _ (n + 2) rfl rfl (by omega) (by omega) (by rw [hz2]; omega) (by unfold maxLen; omega) (Nat.le_refl _) ?_)
  intro w1 hown1 hg1
  have hblk := hid (made_block hown1)
  have hbel1 : Below w.heap.size w w1 := (Below.refl _ _).grown hg1 (Nat.le_refl _) (fun k hk => by cases hk)
  have hlen := HN.out
  have H1 : Hid ((iv ss).length = Nat.min n (n + 2)) := by show _ = _; rw [length_iv, hlen]; exact min_len n
  have H2 : Hid (0 < (iv ss).length → (some ⟨w.heap.size, 0, none⟩ : Option Addr) = some ⟨w.heap.size, 0, none⟩ ∧ ∃ ad, a = some ad ∧ ∀ j v, (iv ss)[j]? = some v → w1.cell? (ad.add j) = some v) := by
    intro hp
    refine ⟨rfl, ?_⟩
    obtain ⟨b, off, rfl, hc⟩ := HS.out.at (by rw [length_iv] at hp; omega)
    refine ⟨_, rfl, fun j v hj => ?_⟩
    rw [WideShapes.add_plain]
    obtain ⟨hjl, rfl⟩ := List.getElem?_eq_some_iff.1 hj
    have hj' : j < ss.length := by simpa [iv] using hjl
    rw [cell_kept (hc j hj') hbel1]
    simp [iv]
  have H3 : Hid (0 + (iv ss).length ≤ (List.replicate (n + 2) (Value.int .i64 0)).length) := by show _ ≤ _; rw [length_iv]; simp; omega
  have H4 : Hid (∀ v ∈ iv ss, v.oneCell' = true) := by
    intro v hv
    obtain ⟨s, _, rfl⟩ := List.mem_map.1 hv
    rfl
  clear hown1 hg1 hlen
  go_wp2_with (refine wpList_copy_splice rfl (.tmp 10) (.tmp 11) 32 32 rfl 3 Try.underlying32 Try.sizeInt _ _ _ _ _ _ rfl rfl w.heap.size 0 _ 3 hblk.out (iv ss) H1.out H2.out H3.out H4.out w.heap.size w hbel1 (Nat.le_refl _) ?_)
  · intro w2 HG2 hbel2
    have hlen := HN.out
    have hg2 := HG2.out
    rw [splice_head _ n (iv ss) (by rw [length_iv, hlen])] at hg2
    have hfr := block_free hg2
    have hcl := block_cell hg2
    have HCL := hid hcl
    have hf1 := hfr n
    have hf2 := hfr (n + 1)
    have hc1 : w2.cell? ⟨w.heap.size, n, none⟩ = some (.int .i64 0) := by rw [hcl, List.getElem?_append_right (by rw [length_iv]; omega)]; simp [length_iv, hlen]
    have hc2 : w2.cell? ⟨w.heap.size, n + 1, none⟩ = some (.int .i64 0) := by rw [hcl, List.getElem?_append_right (by rw [length_iv]; omega)]; simp [length_iv, hlen]
    clear hg2 hfr hcl HG2 hblk hbel1 H1 H2 H3 H4
    have i5 : IntKind.i64.wrap ((n : Int) + 1) = (n : Int) + 1 := wrap_id _ (by omega) (by omega)
    clear hlen
    go_wp2_with fail
    go_ret
    have hts := two_stores (u := .int .i64 (-77)) (v := .int .i64 (-77)) hc1 hc2
    refine ⟨_, rfl, fun i hi => ?_, hts.1, hts.2.1, (hbel2.setCell (Nat.le_refl _) _).setCell (Nat.le_refl _) _⟩
    rw [hts.2.2 i (by have := HN.out; omega), HCL.out, List.getElem?_append_left (by rw [length_iv]; exact hi)]
    simp [iv, List.getElem?_eq_getElem hi]
/-- Whether two lists are the same. -/
def sameB {α : Type} [DecidableEq α] (a b : List α) : Bool := decide (a = b)
theorem take_eq_of {α : Type} {a b : List α} (n : Nat) (h : ∀ i (h1 : i < a.length) (h2 : i < b.length), i < n → a[i] = b[i]) (hl : a.length = b.length) (hn : a.length ≤ n) : a = b :=
  List.ext_getElem hl (fun i h1 h2 => h i h1 h2 (by omega))

theorem bne_str {s t : ByteArray} (h : s ≠ t) : (s.toList == t.toList) = false := by
  rw [beq_eq_false_iff_ne]
  intro e
  rw [ByteArray.toList_eq, ByteArray.toList_eq] at e
  exact h (by rw [← bs_toList s, e, bs_toList])
theorem bne_int {s t : Int} (h : s ≠ t) : (s == t) = false := by simpa using h

set_option maxHeartbeats 1000000 in
theorem sameTexts_any (n m : Nat) (a b : Option Addr) (ss ts : List ByteArray) (c d : Nat) (w : World) (hn : ss.length = n) (hm : ts.length = m) (hs : Strs w a ss) (ht : Strs w b ts) (hr : n * 16 ≤ 140737488351232) (hr2 : m * 16 ≤ 140737488351232) :
    Calls Try.prog 34 #[.slice a n c, .slice b m d] w fun e w' => e = .returned (.bool (sameB ss ts)) ∧ Below w.heap.size w w' := by
  by_cases hnm : n = m
  · subst hnm
    have HN := hid hn
    have HM := hid hm
    have HS := hid hs
    have HT := hid ht
    clear hn hm hs ht
    go_enter Try.func34, Try.ntmps34
    go_wp2_with fail
    go_loopw [5] (fun i wr => ∃ k : Nat, k ≤ n ∧ i = .int .i64 k ∧ Hid (∀ i (h1 : i < ss.length) (h2 : i < ts.length), i < k → ss[i] = ts[i]) ∧ Below w.heap.size w wr) (fun i _ => n - (intOf i).toNat)
    case atStart => exact ⟨0, Nat.zero_le _, rfl, fun i _ _ h => by omega, Below.refl _ _⟩
    case round =>
      obtain ⟨k, hk, rfl, HE, hbel⟩ := hrel
      by_cases hlt : k < n
      · have hlen := HN.out
        have hlen2 := HM.out
        obtain ⟨b1, o1, rfl, hc1⟩ := HS.out.at (by omega)
        obtain ⟨b2, o2, rfl, hc2⟩ := HT.out.at (by omega)
        have hx := cell_kept' (hc1 k (by omega)) hbel
        have hy := cell_kept' (hc2 k (by omega)) hbel
        by_cases heq : ss[k] = ts[k]
        · have HE2 : Hid (∀ i (h1 : i < ss.length) (h2 : i < ts.length), i < k + 1 → ss[i] = ts[i]) := fun i h1 h2 h => by
            by_cases hik : i < k
            · exact HE.out i h1 h2 hik
            · obtain rfl : i = k := by omega
              exact heq
          rw [← heq] at hy
          obtain ⟨s, hse⟩ : ∃ s, s = ss[k] := ⟨_, rfl⟩
          rw [← hse] at hx hy
          clear hse heq hc1 hc2 hlen hlen2 HS HT
          have i1 : (0 : Int) ≤ (k : Int) := by omega
          have i2 : (k : Int) < (n : Int) := by omega
          go_wp2_with fail
          go_quiet (fail)
          go_wp2_with fail
          go_roundw
          case rel => exact ⟨k + 1, by omega, by go_num, HE2, by first | exact hbel | exact below_drewN hbel _⟩
          case measure => simp [intOf]; omega
        · have HF : Hid (sameB ss ts = false) := by
            show _ = _
            unfold sameB
            rw [decide_eq_false_iff_not]
            intro h
            subst h
            exact heq rfl
          have hne := bne_str heq
          clear hc1 hc2 HS HT
          have i1 : (0 : Int) ≤ (k : Int) := by omega
          have i2 : (k : Int) < (n : Int) := by omega
          obtain ⟨s, hse⟩ : ∃ s, s = ss[k] := ⟨_, rfl⟩
          obtain ⟨t, hte⟩ : ∃ t, t = ts[k] := ⟨_, rfl⟩
          rw [← hse] at hx hne
          rw [← hte] at hy hne
          clear heq hse hte hlen hlen2
          go_wp2_with fail
          go_quiet (fail)
          go_wp2_with fail
          go_ret
          exact ⟨by rw [HF.out]; rfl, below_drewN hbel _⟩
      · go_wp2_with fail
        go_ret
        refine ⟨?_, hbel⟩
        have : sameB ss ts = true := by
          unfold sameB
          rw [decide_eq_true_eq]
          have h1 := HN.out
          have h2 := HM.out
          exact take_eq_of k HE.out (by omega) (by omega)
        rw [this]; rfl
  · have HF : Hid (sameB ss ts = false) := by
      show _ = _
      unfold sameB
      rw [decide_eq_false_iff_not]
      intro h
      subst h
      omega
    have h1 : ((n : Int) == (m : Int)) = false := by simp; omega
    clear hn hm hs ht
    go_enter Try.func34, Try.ntmps34
    go_wp2_with fail
    go_ret
    exact ⟨by rw [HF.out]; rfl, Below.refl _ _⟩

set_option maxHeartbeats 1000000 in
theorem stillTexts_any (n : Nat) (g : Nat) (a : Option Addr) (ss : List ByteArray) (cap : Nat) (w : World) (hn : ss.length = n) (hg : ∀ i (h : i < ss.length), w.cell? ⟨g, i, none⟩ = some (.string ss[i]))
    (h1 : w.cell? ⟨g, n, none⟩ = some (.string ⟨#[45]⟩)) (h2 : w.cell? ⟨g, n + 1, none⟩ = some (.string ⟨#[45]⟩)) (hs : Strs w a ss) (hr : n * 16 ≤ 140737488351232) :
    Calls Try.prog 15 #[.slice (some ⟨g, 0, none⟩) n (n + 2), .slice a n cap] w fun e w' => e = .returned (.bool true) ∧ Below w.heap.size w w' := by
  have ho : Strs w (some ⟨g, 0, none⟩) ss := .inr ⟨g, 0, rfl, fun i hi => by rw [Nat.zero_add]; exact hg i hi⟩
  have HC := hid (sameTexts_any n n (some ⟨g, 0, none⟩) a ss ss (n + 2) cap w hn hn ho hs hr hr)
  have hT : sameB ss ss = true := by unfold sameB; exact decide_eq_true rfl
  clear hn hg hs ho
  go_enter Try.func15, Try.ntmps15
  go_wp2_with fail
  refine HC.out.mono ?_
  rintro e w1 ⟨rfl, hb1⟩
  have h1' := cell_kept h1 hb1
  have h2' := cell_kept h2 hb1
  clear h1 h2
  have i5 : IntKind.i64.wrap ((n : Int) + 2) = (n : Int) + 2 := wrap_id _ (by omega) (by omega)
  go_wp2_with fail
  go_ret
  exact ⟨by simp, hb1⟩

set_option maxHeartbeats 1000000 in
theorem sameInts_any (n m : Nat) (a b : Option Addr) (ss ts : List Int) (c d : Nat) (w : World) (hn : ss.length = n) (hm : ts.length = m) (hs : Ints w a ss) (ht : Ints w b ts) (hr : n * 8 ≤ 140737488351232) (hr2 : m * 8 ≤ 140737488351232) :
    Calls Try.prog 38 #[.slice a n c, .slice b m d] w fun e w' => e = .returned (.bool (sameB ss ts)) ∧ Below w.heap.size w w' := by
  by_cases hnm : n = m
  · subst hnm
    have HN := hid hn
    have HM := hid hm
    have HS := hid hs
    have HT := hid ht
    clear hn hm hs ht
    go_enter Try.func38, Try.ntmps38
    go_wp2_with fail
    go_loopw [5] (fun i wr => ∃ k : Nat, k ≤ n ∧ i = .int .i64 k ∧ Hid (∀ i (h1 : i < ss.length) (h2 : i < ts.length), i < k → ss[i] = ts[i]) ∧ Below w.heap.size w wr) (fun i _ => n - (intOf i).toNat)
    case atStart => exact ⟨0, Nat.zero_le _, rfl, fun i _ _ h => by omega, Below.refl _ _⟩
    case round =>
      obtain ⟨k, hk, rfl, HE, hbel⟩ := hrel
      by_cases hlt : k < n
      · have hlen := HN.out
        have hlen2 := HM.out
        obtain ⟨b1, o1, rfl, hc1⟩ := HS.out.at (by omega)
        obtain ⟨b2, o2, rfl, hc2⟩ := HT.out.at (by omega)
        have hx := cell_kept' (hc1 k (by omega)) hbel
        have hy := cell_kept' (hc2 k (by omega)) hbel
        by_cases heq : ss[k] = ts[k]
        · have HE2 : Hid (∀ i (h1 : i < ss.length) (h2 : i < ts.length), i < k + 1 → ss[i] = ts[i]) := fun i h1 h2 h => by
            by_cases hik : i < k
            · exact HE.out i h1 h2 hik
            · obtain rfl : i = k := by omega
              exact heq
          rw [← heq] at hy
          obtain ⟨s, hse⟩ : ∃ s, s = ss[k] := ⟨_, rfl⟩
          rw [← hse] at hx hy
          clear hse heq hc1 hc2 hlen hlen2 HS HT
          have i1 : (0 : Int) ≤ (k : Int) := by omega
          have i2 : (k : Int) < (n : Int) := by omega
          go_wp2_with fail
          go_quiet (fail)
          go_wp2_with fail
          go_roundw
          case rel => exact ⟨k + 1, by omega, by go_num, HE2, by first | exact hbel | exact below_drewN hbel _⟩
          case measure => simp [intOf]; omega
        · have HF : Hid (sameB ss ts = false) := by
            show _ = _
            unfold sameB
            rw [decide_eq_false_iff_not]
            intro h
            subst h
            exact heq rfl
          have hne := bne_int heq
          clear hc1 hc2 HS HT
          have i1 : (0 : Int) ≤ (k : Int) := by omega
          have i2 : (k : Int) < (n : Int) := by omega
          obtain ⟨s, hse⟩ : ∃ s, s = ss[k] := ⟨_, rfl⟩
          obtain ⟨t, hte⟩ : ∃ t, t = ts[k] := ⟨_, rfl⟩
          rw [← hse] at hx hne
          rw [← hte] at hy hne
          clear heq hse hte hlen hlen2
          go_wp2_with fail
          go_quiet (fail)
          go_wp2_with fail
          go_ret
          exact ⟨by rw [HF.out]; rfl, below_drewN hbel _⟩
      · go_wp2_with fail
        go_ret
        refine ⟨?_, hbel⟩
        have : sameB ss ts = true := by
          unfold sameB
          rw [decide_eq_true_eq]
          have h1 := HN.out
          have h2 := HM.out
          exact take_eq_of k HE.out (by omega) (by omega)
        rw [this]; rfl
  · have HF : Hid (sameB ss ts = false) := by
      show _ = _
      unfold sameB
      rw [decide_eq_false_iff_not]
      intro h
      subst h
      omega
    have h1 : ((n : Int) == (m : Int)) = false := by simp; omega
    clear hn hm hs ht
    go_enter Try.func38, Try.ntmps38
    go_wp2_with fail
    go_ret
    exact ⟨by rw [HF.out]; rfl, Below.refl _ _⟩

set_option maxHeartbeats 1000000 in
theorem stillInts_any (n : Nat) (g : Nat) (a : Option Addr) (ss : List Int) (cap : Nat) (w : World) (hn : ss.length = n) (hg : ∀ i (h : i < ss.length), w.cell? ⟨g, i, none⟩ = some (.int .i64 ss[i]))
    (h1 : w.cell? ⟨g, n, none⟩ = some (.int .i64 (-77))) (h2 : w.cell? ⟨g, n + 1, none⟩ = some (.int .i64 (-77))) (hs : Ints w a ss) (hr : n * 8 ≤ 140737488351232) :
    Calls Try.prog 21 #[.slice (some ⟨g, 0, none⟩) n (n + 2), .slice a n cap] w fun e w' => e = .returned (.bool true) ∧ Below w.heap.size w w' := by
  have ho : Ints w (some ⟨g, 0, none⟩) ss := .inr ⟨g, 0, rfl, fun i hi => by rw [Nat.zero_add]; exact hg i hi⟩
  have HC := hid (sameInts_any n n (some ⟨g, 0, none⟩) a ss ss (n + 2) cap w hn hn ho hs hr hr)
  have hT : sameB ss ss = true := by unfold sameB; exact decide_eq_true rfl
  clear hn hg hs ho
  go_enter Try.func21, Try.ntmps21
  go_wp2_with fail
  refine HC.out.mono ?_
  rintro e w1 ⟨rfl, hb1⟩
  have h1' := cell_kept h1 hb1
  have h2' := cell_kept h2 hb1
  clear h1 h2
  have i5 : IntKind.i64.wrap ((n : Int) + 2) = (n : Int) + 2 := wrap_id _ (by omega) (by omega)
  go_wp2_with fail
  go_ret
  exact ⟨by simp, hb1⟩
end Go.Proofs.Ytedblhcehlbbmaa

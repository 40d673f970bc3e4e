/-
  CONTRACTS: lenderref.Grows.
-/
import Derived.Test.YtedblhcehlbbmaaWalkTurns
import Derived.Test.YtedblhcehlbbmaaWalkGrows
import Derived.WalkKit
import Derived.WalkSpells
import Derived.WalkLawsBesides
import Derived.Deep.QuietTactic
import Derived.BigQuiet
import Derived.Deep.RegionHeld3
import Derived.Deep.DrawnRows
namespace Go.Proofs.Ytedblhcehlbbmaa
open Go.RowKit

theorem growT_step (ts : List Turn) (ps : List Int) (x : Int) (r : Nat) (h : r < ts.length) (hp : r < ps.length) :
    growT (ts.drop r) (ps.drop r) x = if ts[r].left = true then ((growT (ts.drop (r + 1)) (ps.drop (r + 1)) x).1, node (growT (ts.drop (r + 1)) (ps.drop (r + 1)) x).2 ps[r]) else (node ps[r] (growT (ts.drop (r + 1)) (ps.drop (r + 1)) x).1, node ps[r] (growT (ts.drop (r + 1)) (ps.drop (r + 1)) x).2) := by
  rw [List.drop_eq_getElem_cons h, List.drop_eq_getElem_cons hp, growT]
theorem growT_end (ts : List Turn) (ps : List Int) (x : Int) : growT (ts.drop ts.length) ps x = (x, x) := by
  rw [List.drop_length, growT]

theorem joinO_out {old : Int} {zs : List Int} {m n : Nat} (h : ¬ (bdL zs = true ∧ 0 ≤ old ∧ old ≤ 4092)) : joinO m n old true zs = none := by
  unfold joinO
  rw [if_neg]
  intro hb
  rw [Bool.and_eq_true] at hb
  have := isSumB_true hb.1
  exact h ⟨hb.2, this.1, this.2⟩
theorem growsB_out2 {old m root n : Int} {zs : List Int} (h : ¬ (bdL zs = true ∧ 0 ≤ old ∧ old ≤ 4092)) : growsB old m root n zs = false := by
  unfold growsB; rw [joinO_out h, decide_eq_false (p := none = some (old, root)) (by simp), Bool.and_false]

set_option maxHeartbeats 1000000 in
theorem rgrows_out (old m root n : Int) (l : Nat) (a : Option Addr) (zs : List Int) (cap : Nat) (w : World) (hl : zs.length = l) (hr : l ≤ 17592186043904) (hz : Ints w a zs) (h : ¬ (bdL zs = true ∧ 0 ≤ old ∧ old ≤ 4092 ∧ 1 ≤ m ∧ m ≤ n ∧ n ≤ 200)) :
    Calls Try.prog 25 #[.int .i64 old, .int .i64 m, .int .i64 root, .int .i64 n, .slice a l cap] w fun e w' => e = .returned (.bool (growsB old m root n zs)) ∧ Below w.heap.size w w' := by
  have HF : Hid (growsB old m root n zs = false) := by
    by_cases h1 : bdL zs = true ∧ 0 ≤ old ∧ old ≤ 4092
    · exact growsB_out (fun h2 => h ⟨h1.1, h1.2.1, h1.2.2, h2⟩)
    · exact growsB_out2 h1
  have HS := hid (sums_any l a zs cap w hl hr hz)
  have H := hid h
  clear h hl hz
  cases hb : bdL zs with
  | false =>
    rw [hb] at HS
    clear hb
    go_enter Try.func25, Try.ntmps25
    go_wp2_with fail
    refine HS.out.mono ?_
    rintro e w1 ⟨rfl, rfl⟩
    go_wp2_with fail
    go_ret
    exact ⟨by rw [HF.out]; rfl, Below.refl _ _⟩
  | true =>
    rw [hb] at HS
    have H2 : Hid (¬ (0 ≤ old ∧ old ≤ 4092 ∧ 1 ≤ m ∧ m ≤ n ∧ n ≤ 200)) := fun h => H.out ⟨hb, h⟩
    clear hb H
    by_cases h1 : old < 0
    · go_enter Try.func25, Try.ntmps25
      go_wp2_with fail
      refine HS.out.mono ?_
      rintro e w1 ⟨rfl, rfl⟩
      go_wp2_with fail
      go_ret
      exact ⟨by rw [HF.out]; rfl, Below.refl _ _⟩
    by_cases h2 : 4092 < old
    · go_enter Try.func25, Try.ntmps25
      go_wp2_with fail
      refine HS.out.mono ?_
      rintro e w1 ⟨rfl, rfl⟩
      go_wp2_with fail
      go_ret
      exact ⟨by rw [HF.out]; rfl, Below.refl _ _⟩
    by_cases h3 : m < 1
    · go_enter Try.func25, Try.ntmps25
      go_wp2_with fail
      refine HS.out.mono ?_
      rintro e w1 ⟨rfl, rfl⟩
      go_wp2_with fail
      go_ret
      exact ⟨by rw [HF.out]; rfl, Below.refl _ _⟩
    by_cases h4 : n < m
    · go_enter Try.func25, Try.ntmps25
      go_wp2_with fail
      refine HS.out.mono ?_
      rintro e w1 ⟨rfl, rfl⟩
      go_wp2_with fail
      go_ret
      exact ⟨by rw [HF.out]; rfl, Below.refl _ _⟩
    have h5 : 200 < n := by have := H2.out; omega
    go_enter Try.func25, Try.ntmps25
    go_wp2_with fail
    refine HS.out.mono ?_
    rintro e w1 ⟨rfl, rfl⟩
    go_wp2_with fail
    go_ret
    exact ⟨by rw [HF.out]; rfl, Below.refl _ _⟩

/-- The two numbers before the turns from r on are left: the sums so far. -/
def growTo (ts : List Turn) (zs : List Int) (x : Int) (r : Nat) : Int × Int := growT (ts.drop r) (zs.reverse.drop r) x
theorem growTo_bd (ts : List Turn) (zs : List Int) (x : Int) (r : Nat) (h : Bd x) : Bd (growTo ts zs x r).1 ∧ Bd (growTo ts zs x r).2 := growT_bd _ _ _ h
theorem growTo_end (ts : List Turn) (zs : List Int) (x : Int) : growTo ts zs x ts.length = (x, x) := growT_end _ _ _
theorem growTo_left (ts : List Turn) (zs : List Int) (x : Int) (r : Nat) (h : r < ts.length) (hp : r < zs.length) (hb : ts[r].left = true) :
    growTo ts zs x r = ((growTo ts zs x (r + 1)).1, node (growTo ts zs x (r + 1)).2 zs[zs.length - 1 - r]) := by
  unfold growTo
  rw [growT_step ts zs.reverse x r h (by simpa using hp), if_pos hb, List.getElem_reverse]
theorem growTo_right (ts : List Turn) (zs : List Int) (x : Int) (r : Nat) (h : r < ts.length) (hp : r < zs.length) (hb : ts[r].left = false) :
    growTo ts zs x r = (node zs[zs.length - 1 - r] (growTo ts zs x (r + 1)).1, node zs[zs.length - 1 - r] (growTo ts zs x (r + 1)).2) := by
  unfold growTo
  rw [growT_step ts zs.reverse x r h (by simpa using hp), if_neg (by simp [hb]), List.getElem_reverse]
theorem joinO_whole {m n : Nat} {old : Int} {zs : List Int} {ts : List Turn} {lo : Nat} (ho : isSumB old = true) (hb : bdL zs = true) (h1 : 1 ≤ m) (h2 : m ≤ n) (ht : turnR m 0 n true = (ts, true, lo)) :
    joinO m n old true zs = if zs.length = ts.length then some (growTo ts zs old 0) else none := by
  unfold joinO
  rw [ho, hb, Bool.and_true, if_pos rfl, joinR_all m n old _ h1 h2, ht]
  unfold joinT growTo
  simp
theorem joinO_part {m n : Nat} {old : Int} {zs : List Int} {ts : List Turn} {lo : Nat} (ho : isSumB old = true) (hb : bdL zs = true) (h1 : 1 ≤ m) (h2 : m ≤ n) (ht : turnR m 0 n true = (ts, false, lo)) :
    joinO m n old true zs = if zs.length = ts.length + 1 then some (growTo ts zs (zs.headD 0) 0) else none := by
  unfold joinO
  rw [ho, hb, Bool.and_true, if_pos rfl, joinR_all m n old _ h1 h2, ht]
  unfold joinT growTo
  have e : zs.reverse.getLastD 0 = zs.headD 0 := by cases zs <;> simp
  simp only [Bool.false_eq_true, if_false, List.length_reverse, List.drop_zero, e]

theorem growsB_pair {old root : Int} {q : Int × Int} {o : Option (Int × Int)} (h : o = some q) : decide (o = some (old, root)) = (q.1 == old && q.2 == root) := growsB_some h
theorem growTo_step (ts : List Turn) (zs : List Int) (x : Int) (j k : Nat) (h : j < ts.length) (hk : k + (j + 1) = zs.length) (hkz : k < zs.length) :
    (ts[j].left = true → growTo ts zs x j = ((growTo ts zs x (j + 1)).1, node (growTo ts zs x (j + 1)).2 zs[k])) ∧ (ts[j].left = false → growTo ts zs x j = (node zs[k] (growTo ts zs x (j + 1)).1, node zs[k] (growTo ts zs x (j + 1)).2)) := by
  obtain rfl : k = zs.length - 1 - j := by omega
  exact ⟨growTo_left ts zs x j h (by omega), growTo_right ts zs x j h (by omega)⟩

set_option maxHeartbeats 2000000 in
theorem rgrows_bad1 (old root : Int) (m n l lo : Nat) (ts : List Turn) (a : Option Addr) (zs : List Int) (cap : Nat) (w : World) (h1 : 1 ≤ m) (h2 : m ≤ n) (h3 : n ≤ 200) (ho : 0 ≤ old ∧ old ≤ 4092) (hbd : bdL zs = true) (hl : zs.length = l) (hr : l ≤ 17592186043904) (hz : Ints w a zs) (htr : turnR m 0 n true = (ts, true, lo)) (hlen : ¬ l = ts.length) :
    Calls Try.prog 25 #[.int .i64 old, .int .i64 (m : Int), .int .i64 root, .int .i64 (n : Int), .slice a l cap] w fun e w' => e = .returned (.bool (growsB old m root n zs)) ∧ Below w.heap.size w w' := by
  have HB := hid (growsB_in (old := old) (root := root) (zs := zs) h1 h2 h3)
  have HS := hid (sums_any l a zs cap w hl hr hz)
  rw [hbd] at HS
  have HJ := hid (joinO_whole (old := old) (zs := zs) (decide_eq_true ho) hbd h1 h2 htr)
  have htl := (turnR_in n m 0 n true (by omega) (by omega) h2).2.1
  have HT := hid (turns_any m n w h1 h2 h3)
  rw [htr] at htl HT
  simp only at htl HT
  have HL := hid hl
  have HZ := hid hz
  have HBD := hid hbd
  clear hl hz hbd htr
  have i1 : ¬ old < 0 := by omega
  have i2 : ¬ 4092 < old := by omega
  have i3 : ¬ (m : Int) < 1 := by omega
  have i4 : ¬ (n : Int) < (m : Int) := by omega
  have i5 : ¬ (200 : Int) < (n : Int) := by omega
  have HF : Hid (growsB old m root n zs = false) := by
    show _ = _
    rw [HB.out, HJ.out, if_neg (by rw [HL.out]; exact hlen)]; simp
  have i6 : ((l : Int) != (ts.length : Int)) = true := by simp; omega
  go_enter Try.func25, Try.ntmps25
  go_wp2_with fail
  refine HS.out.mono ?_
  rintro e w1 ⟨rfl, rfl⟩
  go_wp2_with fail
  refine HT.out.mono ?_
  rintro e w2 ⟨v, rfl, hown, hb2⟩
  obtain ⟨at1, cap1, rfl, hc1, hm1, hi1⟩ := hown.form
  have HI1 := hid hi1
  clear hown hi1 HT
  go_wp2_with fail
  go_ret
  exact ⟨by rw [HF.out]; rfl, hb2⟩

set_option maxHeartbeats 2000000 in
theorem rgrows_bad2 (old root : Int) (m n l lo : Nat) (ts : List Turn) (a : Option Addr) (zs : List Int) (cap : Nat) (w : World) (h1 : 1 ≤ m) (h2 : m ≤ n) (h3 : n ≤ 200) (ho : 0 ≤ old ∧ old ≤ 4092) (hbd : bdL zs = true) (hl : zs.length = l) (hr : l ≤ 17592186043904) (hz : Ints w a zs) (htr : turnR m 0 n true = (ts, false, lo)) (hlen : ¬ l = ts.length + 1) (hl0 : l = 0) :
    Calls Try.prog 25 #[.int .i64 old, .int .i64 (m : Int), .int .i64 root, .int .i64 (n : Int), .slice a l cap] w fun e w' => e = .returned (.bool (growsB old m root n zs)) ∧ Below w.heap.size w w' := by
  have HB := hid (growsB_in (old := old) (root := root) (zs := zs) h1 h2 h3)
  have HS := hid (sums_any l a zs cap w hl hr hz)
  rw [hbd] at HS
  have HJ := hid (joinO_part (old := old) (zs := zs) (decide_eq_true ho) hbd h1 h2 htr)
  have htl := (turnR_in n m 0 n true (by omega) (by omega) h2).2.1
  have HT := hid (turns_any m n w h1 h2 h3)
  rw [htr] at htl HT
  simp only at htl HT
  have HL := hid hl
  have HZ := hid hz
  have HBD := hid hbd
  clear hl hz hbd htr
  have i1 : ¬ old < 0 := by omega
  have i2 : ¬ 4092 < old := by omega
  have i3 : ¬ (m : Int) < 1 := by omega
  have i4 : ¬ (n : Int) < (m : Int) := by omega
  have i5 : ¬ (200 : Int) < (n : Int) := by omega
  have HF : Hid (growsB old m root n zs = false) := by
    show _ = _
    rw [HB.out, HJ.out, if_neg (by rw [HL.out]; exact hlen)]; simp
  subst hl0
  go_enter Try.func25, Try.ntmps25
  go_wp2_with fail
  refine HS.out.mono ?_
  rintro e w1 ⟨rfl, rfl⟩
  go_wp2_with fail
  refine HT.out.mono ?_
  rintro e w2 ⟨v, rfl, hown, hb2⟩
  obtain ⟨at1, cap1, rfl, hc1, hm1, hi1⟩ := hown.form
  have HI1 := hid hi1
  clear hown hi1 HT
  go_wp2_with fail
  go_ret
  exact ⟨by rw [HF.out]; rfl, hb2⟩

set_option maxHeartbeats 2000000 in
theorem rgrows_bad3 (old root : Int) (m n l lo : Nat) (ts : List Turn) (a : Option Addr) (zs : List Int) (cap : Nat) (w : World) (h1 : 1 ≤ m) (h2 : m ≤ n) (h3 : n ≤ 200) (ho : 0 ≤ old ∧ old ≤ 4092) (hbd : bdL zs = true) (hl : zs.length = l) (hr : l ≤ 17592186043904) (hz : Ints w a zs) (htr : turnR m 0 n true = (ts, false, lo)) (hlen : ¬ l = ts.length + 1) (hl0 : ¬ l = 0) :
    Calls Try.prog 25 #[.int .i64 old, .int .i64 (m : Int), .int .i64 root, .int .i64 (n : Int), .slice a l cap] w fun e w' => e = .returned (.bool (growsB old m root n zs)) ∧ Below w.heap.size w w' := by
  have HB := hid (growsB_in (old := old) (root := root) (zs := zs) h1 h2 h3)
  have HS := hid (sums_any l a zs cap w hl hr hz)
  rw [hbd] at HS
  have HJ := hid (joinO_part (old := old) (zs := zs) (decide_eq_true ho) hbd h1 h2 htr)
  have htl := (turnR_in n m 0 n true (by omega) (by omega) h2).2.1
  have HT := hid (turns_any m n w h1 h2 h3)
  rw [htr] at htl HT
  simp only at htl HT
  have HL := hid hl
  have HZ := hid hz
  have HBD := hid hbd
  clear hl hz hbd htr
  have i1 : ¬ old < 0 := by omega
  have i2 : ¬ 4092 < old := by omega
  have i3 : ¬ (m : Int) < 1 := by omega
  have i4 : ¬ (n : Int) < (m : Int) := by omega
  have i5 : ¬ (200 : Int) < (n : Int) := by omega
  have HF : Hid (growsB old m root n zs = false) := by
    show _ = _
    rw [HB.out, HJ.out, if_neg (by rw [HL.out]; exact hlen)]; simp
  have i6 : ((l : Int) == 0) = false := by simp; omega
  have i7 : ((l : Int) - 1 != (ts.length : Int)) = true := by simp; omega
  have hzp : 0 < zs.length := by have := HL.out; omega
  obtain ⟨b, off, rfl, hc⟩ := HZ.out.at (by have := HL.out; omega)
  have hc0 := hc 0 (by have := HL.out; omega)
  generalize zs[0] = z at hc0
  rw [Nat.add_zero] at hc0
  have HC0 := hid hc0
  clear hc hc0 hzp
  go_enter Try.func25, Try.ntmps25
  go_wp2_with fail
  refine HS.out.mono ?_
  rintro e w1 ⟨rfl, rfl⟩
  go_wp2_with fail
  refine HT.out.mono ?_
  rintro e w2 ⟨v, rfl, hown, hb2⟩
  have hc2 := cell_kept HC0.out hb2
  obtain ⟨at1, cap1, rfl, hc1, hm1, hi1⟩ := hown.form
  have HI1 := hid hi1
  clear hown hi1 HT
  go_wp2_with fail
  go_ret
  exact ⟨by rw [HF.out]; rfl, hb2⟩

set_option maxHeartbeats 4000000 in
theorem rgrows_ok1 (old root : Int) (m n l lo : Nat) (ts : List Turn) (a : Option Addr) (zs : List Int) (cap : Nat) (w : World) (h1 : 1 ≤ m) (h2 : m ≤ n) (h3 : n ≤ 200) (ho : 0 ≤ old ∧ old ≤ 4092) (hbd : bdL zs = true) (hl : zs.length = l) (hr : l ≤ 17592186043904) (hz : Ints w a zs) (htr : turnR m 0 n true = (ts, true, lo)) (hlen : l = ts.length) :
    Calls Try.prog 25 #[.int .i64 old, .int .i64 (m : Int), .int .i64 root, .int .i64 (n : Int), .slice a l cap] w fun e w' => e = .returned (.bool (growsB old m root n zs)) ∧ Below w.heap.size w w' := by
  have HB := hid (growsB_in (old := old) (root := root) (zs := zs) h1 h2 h3)
  have HS := hid (sums_any l a zs cap w hl hr hz)
  rw [hbd] at HS
  have HJ := hid (joinO_whole (old := old) (zs := zs) (decide_eq_true ho) hbd h1 h2 htr)
  have htl := (turnR_in n m 0 n true (by omega) (by omega) h2).2.1
  have HT := hid (turns_any m n w h1 h2 h3)
  rw [htr] at htl HT
  simp only at htl HT
  have HL := hid hl
  have HZ := hid hz
  have HBD := hid hbd
  clear hl hz hbd htr
  have i1 : ¬ old < 0 := by omega
  have i2 : ¬ 4092 < old := by omega
  have i3 : ¬ (m : Int) < 1 := by omega
  have i4 : ¬ (n : Int) < (m : Int) := by omega
  have i5 : ¬ (200 : Int) < (n : Int) := by omega
  have HJ2 : Hid (joinO m n old true zs = some (growTo ts zs old 0)) := by show _ = _; rw [HJ.out, if_pos (by rw [HL.out]; exact hlen)]
  have i6 : ((l : Int) != (ts.length : Int)) = false := by simp; omega
  have hkl : Hid (0 + ts.length = l) := by show _ = _; omega
  obtain ⟨x0, hxe⟩ : ∃ x0, x0 = old := ⟨_, rfl⟩
  have HXE := hid hxe
  have HX : Hid (Bd x0) := by show Bd x0; rw [hxe]; exact ho
  have HJ3 : Hid (joinO m n old true zs = some (growTo ts zs x0 0)) := by show _ = _; rw [hxe]; exact HJ2.out
  clear hxe HJ HJ2 hlen
  go_enter Try.func25, Try.ntmps25
  go_wp2_with fail
  refine HS.out.mono ?_
  rintro e w1 ⟨rfl, rfl⟩
  go_wp2_with fail
  refine HT.out.mono ?_
  rintro e w2 ⟨v, rfl, hown, hb2⟩
  obtain ⟨at1, cap1, rfl, hc1, hm1, hi1⟩ := hown.form
  have HI1 := hid hi1
  clear hown hi1 HT
  go_wp2_with fail
  go_loopw [15, 16, 17, 18] (fun x at1 y i wr => ∃ r k : Nat, r ≤ ts.length ∧ Hid (k + r = l) ∧ at1 = .int .i64 (k : Int) ∧ i = .int .i64 ((r : Int) - 1) ∧ x = .int .i64 (growTo ts zs x0 r).1 ∧ y = .int .i64 (growTo ts zs x0 r).2 ∧ Below w2.heap.size w2 wr) (fun _ _ _ i _ => (intOf i + 1).toNat)
  case atStart => exact ⟨ts.length, _, Nat.le_refl _, hkl, rfl, rfl, by rw [growTo_end, HXE.out], by rw [growTo_end, HXE.out], Below.refl _ _⟩
  case round =>
    obtain ⟨r, k, hrl, HK, rfl, rfl, rfl, rfl, hbel⟩ := hrel
    by_cases hr0 : r = 0
    · subst hr0
      have HG := hid (HB.out.trans (growsB_pair (old := old) (root := root) HJ3.out))
      clear HB HJ3
      generalize (growTo ts zs x0 0).1 = X at HG ⊢
      generalize (growTo ts zs x0 0).2 = Y at HG ⊢
      cases hx : (X == old) with
      | false =>
        rw [hx] at HG
        go_wp2_with fail
        go_ret
        exact ⟨by rw [HG.out]; rfl, kept hb2 hbel⟩
      | true =>
        rw [hx] at HG
        go_wp2_with fail
        go_ret
        exact ⟨by rw [HG.out]; rfl, kept hb2 hbel⟩
    · obtain ⟨j, rfl⟩ : ∃ j, r = j + 1 := ⟨r - 1, by omega⟩
      have hkj := HK.out
      have hszr := hbel.size
      have hkz : k < zs.length := by have := HL.out; omega
      obtain ⟨bz, oz, hae, hcz⟩ := (HZ.out.kept (kept hb2 hbel)).at (by omega)
      have hck := hcz k hkz
      have hpb := bdL_mem HBD.out k hkz
      obtain ⟨bt, hte, hct⟩ := (HI1.out.kept hbel).at (by omega)
      have hcl := (hct j (by omega)).1
      have HST := hid (growTo_step ts zs x0 j k (by omega) (by have := HL.out; omega) hkz)
      have hgb := growTo_bd ts zs x0 (j + 1) HX.out
      have hjt : j < ts.length := by omega
      generalize zs[k] = p at hck hpb HST
      generalize ts[j].left = lf at hcl HST
      cases hae
      cases hte
      clear hcz hct hkz
      rw [show (((j + 1 : Nat) : Int) - 1) = (j : Int) from by omega]
      have i10 : (0 : Int) ≤ (j : Int) := by omega
      have i11 : (j : Int) < (ts.length : Int) := by omega
      have i12 : (0 : Int) ≤ (k : Int) := by omega
      have i13 : (k : Int) < (l : Int) := by omega
      have HK2 : Hid (k + 1 + j = l) := by show _ = _; omega
      clear hkj
      generalize (growTo ts zs x0 (j + 1)).1 = X at HST hgb ⊢
      generalize (growTo ts zs x0 (j + 1)).2 = Y at HST hgb ⊢
      cases lf with
      | true =>
        have HE := hid (HST.out.1 rfl)
        clear HST
        go_wp2_with fail
        refine (joined_any _ _ _ hgb.2 hpb).mono ?_
        rintro e w3 ⟨rfl, hb3⟩
        have hbel3 : Below w2.heap.size w2 w3 := hbel.trans (hb3.mono hszr)
        generalize node Y p = Z at HE ⊢
        clear hck hcl
        go_wp2_with fail
        go_roundw
        case rel => exact ⟨j, k + 1, by omega, HK2, by go_num, rfl, by rw [HE.out], by rw [HE.out], hbel3⟩
        case measure => simp [intOf]
      | false =>
        have HE := hid (HST.out.2 rfl)
        clear HST
        go_wp2_with fail
        refine (joined_any _ _ _ hpb hgb.1).mono ?_
        rintro e w3 ⟨rfl, hb3⟩
        have HY := hid (fun w4 => joined_any p Y w4 hpb hgb.2)
        generalize node p X = Z at HE ⊢
        clear hck hcl
        go_wp2_with fail
        refine (HY.out _).mono ?_
        rintro e w4 ⟨rfl, hb4⟩
        have hbel3 : Below w2.heap.size w2 w4 := hbel.trans ((kept hb3 hb4).mono hszr)
        generalize node p Y = Z2 at HE ⊢
        go_wp2_with fail
        go_roundw
        case rel => exact ⟨j, k + 1, by omega, HK2, by go_num, rfl, by rw [HE.out], by rw [HE.out], hbel3⟩
        case measure => simp [intOf]

set_option maxHeartbeats 4000000 in
theorem rgrows_ok2 (old root : Int) (m n l lo : Nat) (ts : List Turn) (a : Option Addr) (zs : List Int) (cap : Nat) (w : World) (h1 : 1 ≤ m) (h2 : m ≤ n) (h3 : n ≤ 200) (ho : 0 ≤ old ∧ old ≤ 4092) (hbd : bdL zs = true) (hl : zs.length = l) (hr : l ≤ 17592186043904) (hz : Ints w a zs) (htr : turnR m 0 n true = (ts, false, lo)) (hlen : l = ts.length + 1) :
    Calls Try.prog 25 #[.int .i64 old, .int .i64 (m : Int), .int .i64 root, .int .i64 (n : Int), .slice a l cap] w fun e w' => e = .returned (.bool (growsB old m root n zs)) ∧ Below w.heap.size w w' := by
  have HB := hid (growsB_in (old := old) (root := root) (zs := zs) h1 h2 h3)
  have HS := hid (sums_any l a zs cap w hl hr hz)
  rw [hbd] at HS
  have HJ := hid (joinO_part (old := old) (zs := zs) (decide_eq_true ho) hbd h1 h2 htr)
  have htl := (turnR_in n m 0 n true (by omega) (by omega) h2).2.1
  have HT := hid (turns_any m n w h1 h2 h3)
  rw [htr] at htl HT
  simp only at htl HT
  have HL := hid hl
  have HZ := hid hz
  have HBD := hid hbd
  clear hl hz hbd htr
  have i1 : ¬ old < 0 := by omega
  have i2 : ¬ 4092 < old := by omega
  have i3 : ¬ (m : Int) < 1 := by omega
  have i4 : ¬ (n : Int) < (m : Int) := by omega
  have i5 : ¬ (200 : Int) < (n : Int) := by omega
  have HJ2 : Hid (joinO m n old true zs = some (growTo ts zs (zs.headD 0) 0)) := by show _ = _; rw [HJ.out, if_pos (by rw [HL.out]; exact hlen)]
  have i6 : ((l : Int) == 0) = false := by simp; omega
  have i7 : ((l : Int) - 1 != (ts.length : Int)) = false := by simp; omega
  have hkl : Hid (1 + ts.length = l) := by show _ = _; omega
  have i8 : 0 < l := by omega
  have hzp : 0 < zs.length := by have := HL.out; omega
  obtain ⟨b, off, rfl, hc⟩ := HZ.out.at hzp
  have hc0 := hc 0 hzp
  have hh0 : zs.headD 0 = zs[0] := by
    cases zs with
    | nil => simp at hzp
    | cons z q => rfl
  have hx0 := bdL_mem HBD.out 0 hzp
  rw [hh0] at HJ2
  clear hh0
  generalize zs[0] = z at hc0 HJ2 hx0
  rw [Nat.add_zero] at hc0
  have HC0 := hid hc0
  obtain ⟨x0, hxe⟩ : ∃ x0, x0 = z := ⟨_, rfl⟩
  have HXE := hid hxe
  have HX : Hid (Bd x0) := by show Bd x0; rw [hxe]; exact hx0
  have HJ3 : Hid (joinO m n old true zs = some (growTo ts zs x0 0)) := by show _ = _; rw [hxe]; exact HJ2.out
  clear hxe HJ HJ2 hlen hc hc0 hzp hx0
  go_enter Try.func25, Try.ntmps25
  go_wp2_with fail
  refine HS.out.mono ?_
  rintro e w1 ⟨rfl, rfl⟩
  go_wp2_with fail
  refine HT.out.mono ?_
  rintro e w2 ⟨v, rfl, hown, hb2⟩
  have hc2 := cell_kept HC0.out hb2
  obtain ⟨at1, cap1, rfl, hc1, hm1, hi1⟩ := hown.form
  have HI1 := hid hi1
  clear hown hi1 HT
  go_wp2_with fail
  go_loopw [15, 16, 17, 18] (fun x at1 y i wr => ∃ r k : Nat, r ≤ ts.length ∧ Hid (k + r = l) ∧ at1 = .int .i64 (k : Int) ∧ i = .int .i64 ((r : Int) - 1) ∧ x = .int .i64 (growTo ts zs x0 r).1 ∧ y = .int .i64 (growTo ts zs x0 r).2 ∧ Below w2.heap.size w2 wr) (fun _ _ _ i _ => (intOf i + 1).toNat)
  case atStart => exact ⟨ts.length, _, Nat.le_refl _, hkl, rfl, rfl, by rw [growTo_end, HXE.out], by rw [growTo_end, HXE.out], Below.refl _ _⟩
  case round =>
    obtain ⟨r, k, hrl, HK, rfl, rfl, rfl, rfl, hbel⟩ := hrel
    by_cases hr0 : r = 0
    · subst hr0
      have HG := hid (HB.out.trans (growsB_pair (old := old) (root := root) HJ3.out))
      clear HB HJ3
      generalize (growTo ts zs x0 0).1 = X at HG ⊢
      generalize (growTo ts zs x0 0).2 = Y at HG ⊢
      cases hx : (X == old) with
      | false =>
        rw [hx] at HG
        go_wp2_with fail
        go_ret
        exact ⟨by rw [HG.out]; rfl, kept hb2 hbel⟩
      | true =>
        rw [hx] at HG
        go_wp2_with fail
        go_ret
        exact ⟨by rw [HG.out]; rfl, kept hb2 hbel⟩
    · obtain ⟨j, rfl⟩ : ∃ j, r = j + 1 := ⟨r - 1, by omega⟩
      have hkj := HK.out
      have hszr := hbel.size
      have hkz : k < zs.length := by have := HL.out; omega
      obtain ⟨bz, oz, hae, hcz⟩ := (HZ.out.kept (kept hb2 hbel)).at (by omega)
      have hck := hcz k hkz
      have hpb := bdL_mem HBD.out k hkz
      obtain ⟨bt, hte, hct⟩ := (HI1.out.kept hbel).at (by omega)
      have hcl := (hct j (by omega)).1
      have HST := hid (growTo_step ts zs x0 j k (by omega) (by have := HL.out; omega) hkz)
      have hgb := growTo_bd ts zs x0 (j + 1) HX.out
      have hjt : j < ts.length := by omega
      generalize zs[k] = p at hck hpb HST
      generalize ts[j].left = lf at hcl HST
      cases hae
      cases hte
      clear hcz hct hkz
      rw [show (((j + 1 : Nat) : Int) - 1) = (j : Int) from by omega]
      have i10 : (0 : Int) ≤ (j : Int) := by omega
      have i11 : (j : Int) < (ts.length : Int) := by omega
      have i12 : (0 : Int) ≤ (k : Int) := by omega
      have i13 : (k : Int) < (l : Int) := by omega
      have HK2 : Hid (k + 1 + j = l) := by show _ = _; omega
      clear hkj
      generalize (growTo ts zs x0 (j + 1)).1 = X at HST hgb ⊢
      generalize (growTo ts zs x0 (j + 1)).2 = Y at HST hgb ⊢
      cases lf with
      | true =>
        have HE := hid (HST.out.1 rfl)
        clear HST
        go_wp2_with fail
        refine (joined_any _ _ _ hgb.2 hpb).mono ?_
        rintro e w3 ⟨rfl, hb3⟩
        have hbel3 : Below w2.heap.size w2 w3 := hbel.trans (hb3.mono hszr)
        generalize node Y p = Z at HE ⊢
        clear hck hcl
        go_wp2_with fail
        go_roundw
        case rel => exact ⟨j, k + 1, by omega, HK2, by go_num, rfl, by rw [HE.out], by rw [HE.out], hbel3⟩
        case measure => simp [intOf]
      | false =>
        have HE := hid (HST.out.2 rfl)
        clear HST
        go_wp2_with fail
        refine (joined_any _ _ _ hpb hgb.1).mono ?_
        rintro e w3 ⟨rfl, hb3⟩
        have HY := hid (fun w4 => joined_any p Y w4 hpb hgb.2)
        generalize node p X = Z at HE ⊢
        clear hck hcl
        go_wp2_with fail
        refine (HY.out _).mono ?_
        rintro e w4 ⟨rfl, hb4⟩
        have hbel3 : Below w2.heap.size w2 w4 := hbel.trans ((kept hb3 hb4).mono hszr)
        generalize node p Y = Z2 at HE ⊢
        go_wp2_with fail
        go_roundw
        case rel => exact ⟨j, k + 1, by omega, HK2, by go_num, rfl, by rw [HE.out], by rw [HE.out], hbel3⟩
        case measure => simp [intOf]

theorem rgrows_any (old m root n : Int) (l : Nat) (a : Option Addr) (zs : List Int) (cap : Nat) (w : World) (hl : zs.length = l) (hr : l ≤ 17592186043904) (hz : Ints w a zs) :
    Calls Try.prog 25 #[.int .i64 old, .int .i64 m, .int .i64 root, .int .i64 n, .slice a l cap] w fun e w' => e = .returned (.bool (growsB old m root n zs)) ∧ Below w.heap.size w w' := by
  by_cases h : bdL zs = true ∧ 0 ≤ old ∧ old ≤ 4092 ∧ 1 ≤ m ∧ m ≤ n ∧ n ≤ 200
  · obtain ⟨hb, o1, o2, h1, h2, h3⟩ := h
    obtain ⟨m', rfl⟩ : ∃ k : Nat, m = (k : Int) := ⟨m.toNat, by omega⟩
    obtain ⟨n', rfl⟩ : ∃ k : Nat, n = (k : Int) := ⟨n.toNat, by omega⟩
    cases htr : turnR m' 0 n' true with
    | mk ts r2 =>
      obtain ⟨whole, lo⟩ := r2
      cases whole with
      | true =>
        by_cases hlen : l = ts.length
        · exact rgrows_ok1 old root m' n' l lo ts a zs cap w (by omega) (by omega) (by omega) ⟨o1, o2⟩ hb hl hr hz htr hlen
        · exact rgrows_bad1 old root m' n' l lo ts a zs cap w (by omega) (by omega) (by omega) ⟨o1, o2⟩ hb hl hr hz htr hlen
      | false =>
        by_cases hlen : l = ts.length + 1
        · exact rgrows_ok2 old root m' n' l lo ts a zs cap w (by omega) (by omega) (by omega) ⟨o1, o2⟩ hb hl hr hz htr hlen
        · by_cases hl0 : l = 0
          · exact rgrows_bad2 old root m' n' l lo ts a zs cap w (by omega) (by omega) (by omega) ⟨o1, o2⟩ hb hl hr hz htr hlen hl0
          · exact rgrows_bad3 old root m' n' l lo ts a zs cap w (by omega) (by omega) (by omega) ⟨o1, o2⟩ hb hl hr hz htr hlen hl0
  · exact rgrows_out old m root n l a zs cap w hl hr hz h

end Go.Proofs.Ytedblhcehlbbmaa

import Derived.Test.YtedblhcehlbbmaaGreatDoorJWalkText
import Derived.WalkKit
import Derived.WalkSpells
import Derived.WalkLawsBesides
import Derived.Deep.QuietTactic
import Derived.BigQuiet
import Derived.Deep.RegionHeld3
import Derived.Deep.DrawnRows
/-
  CONTRACTS of the document's answer: lenderref.leaves, raised, top, Root.
-/
namespace Go.Proofs.YtedblhcehlbbmaaGreatDoor
set_option maxRecDepth 20000
open Go.RowKit

theorem Tryz.infoInt : (Tryz.prog.info? 3).map (fun i => (i.zero, i.size, i.bytes)) = some (some (.int .i64 0), 1, 8) := by kernel_rfl

/-- A row of numbers, as values. -/
def iv (l : List Int) : List Value := l.map (Value.int .i64)
theorem length_iv (l : List Int) : (iv l).length = l.length := by simp [iv]
theorem iv_append (a b : List Int) : iv (a ++ b) = iv a ++ iv b := by simp [iv]

theorem cell_alloc_one (w : World) (x : Value) (t : TypeId) : (w.alloc (.cells #[x] t)).cell? ⟨w.heap.size, 0, none⟩ = some x := by rw [World.cell?_alloc_mark]; rfl

/-- The slice v is the call's own (from block B on) and holds these numbers. -/
def Own (w : World) (B : Nat) (v : Value) (l : List Int) : Prop := w.ownsRow B 3 1 v l.length (iv l)

theorem Own.kept {w w' : World} {B : Nat} {v : Value} {l : List Int} (h : Own w B v l) (hb : Below w.heap.size w w') : Own w' B v l := by
  obtain ⟨h1, h2⟩ := h
  refine ⟨h1, ?_⟩
  rcases h2 with h2 | ⟨g, cap, cur, e1, e2, e3, e4⟩
  · exact .inl h2
  · have hg : g < w.heap.size := by
      rcases Nat.lt_or_ge g w.heap.size with h | h
      · exact h
      · rw [Array.getElem?_eq_none h] at e3; cases e3
    exact .inr ⟨g, cap, cur, e1, e2, by rw [hb.block g hg]; exact e3, e4⟩

theorem Own.alloc {w : World} {B : Nat} {v : Value} {l : List Int} (h : Own w B v l) (o : Obj) : Own (w.alloc o) B v l := World.ownsRow.alloc h o
theorem Own.nil (w : World) (B : Nat) : Own w B (.slice none 0 0) [] := World.ownsRow_nil _ _ _ _
theorem Own.mono {w : World} {B B' : Nat} {v : Value} {l : List Int} (h : Own w B v l) (hB : B' ≤ B) : Own w B' v l := by
  obtain ⟨h1, h2⟩ := h
  refine ⟨h1, ?_⟩
  rcases h2 with h2 | ⟨g, cap, cur, e1, e2, e3⟩
  · exact .inl h2
  · exact .inr ⟨g, cap, cur, e1, by omega, e3⟩

/-- 'out = append(out, x)': out the call's own, x one number, laid in a block of its own first. -/
theorem wpList_app2 {w : World} {ops : Array Oper} {rest : List Oper} {o : Oper} {a : Act} {Q : Exit → Act → World → Prop} (hgd : o.guard = none) (s x : Operand)
    (ho : o.op = .call { callee := .builtin .append, args := #[s, x], argTypes := #[54, 54] })
    (B : Nat) (v : Value) (l : List Int) (n : Int) (hs : a.eval s = v) (hown : Own w B v l) (g : Nat) (c : Nat) (hx : a.eval x = .slice (some ⟨g, 0, none⟩) 1 c) (hcell : w.cell? ⟨g, 0, none⟩ = some (.int .i64 n))
    (hlen : l.length ≤ 1000000) (hB : B ≤ w.heap.size)
    (h : ∀ v' w', Own w' B v' (l ++ [n]) → Below B w w' → w.grownBy w' v.ownBlock → wpList Tryz.prog ops Q rest (a.put o.dst v') w') : wpList Tryz.prog ops Q (o :: rest) a w := by
  obtain ⟨i0, hi, hz0, hz1, hz2⟩ := info_parts Tryz.infoInt
  refine wpList_append_own _ hgd s x 54 ho B 3 i0 (.int .i64 0) 1 8 Tryz.underlying54 hi hz0 hz1 hz2 rfl (by decide) v l.length (iv l) hs hown ⟨g, 0, none⟩ 1 c [.int .i64 n] hx rfl ?_ ?_ (by unfold maxLen; omega) (by omega) hB ?_
  · intro j u hj
    match j, hj with
    | 0, hj => simp at hj; subst hj; simpa [Addr.add] using hcell
  · intro u hu; simp at hu; subst hu; rfl
  · intro v' w' h1 h2 _
    refine h v' w' ?_ ((Below.refl _ _).grown h2 hB (fun k hk => (hown.lt k hk).1)) h2
    unfold Own
    rw [iv_append, List.length_append]
    exact h1
theorem wpList_app {w : World} {ops : Array Oper} {rest : List Oper} {o : Oper} {a : Act} {Q : Exit → Act → World → Prop} (hgd : o.guard = none) (s x : Operand)
    (ho : o.op = .call { callee := .builtin .append, args := #[s, x], argTypes := #[54, 54] })
    (B : Nat) (v : Value) (l : List Int) (n : Int) (hs : a.eval s = v) (hown : Own w B v l) (g : Nat) (c : Nat) (hx : a.eval x = .slice (some ⟨g, 0, none⟩) 1 c) (hcell : w.cell? ⟨g, 0, none⟩ = some (.int .i64 n))
    (hlen : l.length ≤ 1000000) (hB : B ≤ w.heap.size)
    (h : ∀ v' w', Own w' B v' (l ++ [n]) → Below B w w' → wpList Tryz.prog ops Q rest (a.put o.dst v') w') : wpList Tryz.prog ops Q (o :: rest) a w :=
  wpList_app2 hgd s x ho B v l n hs hown g c hx hcell hlen hB (fun v' w' h1 h2 _ => h v' w' h1 h2)

theorem lvs_take_succ (ss : List ByteArray) (k : Nat) (h : k < ss.length) : (lvs ss).take (k + 1) = (lvs ss).take k ++ [entS ss[k]] := by
  rw [List.take_succ_eq_append_getElem (by rw [length_lvs]; omega)]; simp [lvs]

set_option maxHeartbeats 1000000 in
theorem leaves_any (n : Nat) (a : Option Addr) (ss : List ByteArray) (cap : Nat) (w : World) (hn : ss.length = n) (hs : Strs w a ss) (h200 : n ≤ 200) (h40 : ∀ s ∈ ss, s.size ≤ 40) :
    Calls Tryz.prog 64 #[.slice a n cap] w fun e w' => ∃ v, e = .returned v ∧ Own w' w.heap.size v (lvs ss) ∧ Below w.heap.size w w' := by
  have HN := hid hn
  clear hn
  go_enter Tryz.func64, Tryz.ntmps64
  go_wp2
  go_loopw [3, 4] (fun v i wr => ∃ k : Nat, k ≤ n ∧ i = .int .i64 k ∧ Own wr w.heap.size v ((lvs ss).take k) ∧ Below w.heap.size w wr) (fun _ i _ => n - (intOf i).toNat)
  case atStart => exact ⟨0, Nat.zero_le _, rfl, Own.nil _ _, Below.refl _ _⟩
  case round =>
    obtain ⟨k, hk, rfl, hown, hbel⟩ := hrel
    by_cases hlt : k < n
    · have hlen := HN.out
      obtain ⟨b, off, rfl, hc⟩ := hs.at (by omega)
      have hck := hc k (by omega)
      have hsz := h40 ss[k] (List.getElem_mem _)
      have hck' : wr.cell? ⟨b, off + k, none⟩ = some (.string ss[k]) := by rw [hbel.cell (World.block_lt_of_cell? _ _ hck)]; exact hck
      have HS := hid (lvs_take_succ ss k (by omega))
      obtain ⟨s, hse⟩ : ∃ s, s = ss[k] := ⟨_, rfl⟩
      rw [← hse] at hck' hsz HS
      have HKL : Hid (((lvs ss).take k).length ≤ 1000000) := by show _ ≤ _; rw [List.length_take, length_lvs]; omega
      have HOWN := hid hown
      clear hck hc hs hse hlen hown h40
      go_wp2_with fail
      rw [ent_str]
      refine (rsum_any _ _ (by rw [size_bs, length_entT]; simp; unfold maxLen; omega)).mono ?_
      rintro e w1 ⟨rfl, hb1⟩
      rw [toList_bs]
      have hown1 := HOWN.out.kept hb1
      have hsize := hbel.size
      have hsize1 := hb1.size
      go_wp2_with (at_builtin; refine wpList_app rfl _ _ rfl w.heap.size _ _ (entS s) rfl (hown1.alloc _) w1.heap.size 1 rfl (cell_alloc_one _ _ _) HKL.out (by simp; omega) ?_)
      intro v' w2 hown2 hb2
      have hbel2 : Below w.heap.size w w2 := (((hbel.trans (hb1.mono hsize)).alloc (by omega) _).trans hb2)
      have hown2' : Own w2 w.heap.size v' ((lvs ss).take (k + 1)) := by rw [HS.out]; exact hown2
      clear hown1 hown2 hb2
      go_wp2
      go_roundw
      case rel => exact ⟨k + 1, by omega, by go_num, hown2', hbel2⟩
      case measure => simp [intOf]; omega
    · go_wp2_with fail
      go_ret
      refine ⟨_, rfl, ?_, hbel⟩
      rw [List.take_of_length_le (by rw [length_lvs]; have := HN.out; omega)] at hown
      exact hown

/-- The slice at this address holds these numbers. -/
def Ints (w : World) (a : Option Addr) (zs : List Int) : Prop :=
  zs = [] ∨ ∃ b off, a = some ⟨b, off, none⟩ ∧ ∀ i (h : i < zs.length), w.cell? ⟨b, off + i, none⟩ = some (.int .i64 zs[i])
theorem Ints.at {w : World} {a : Option Addr} {zs : List Int} (h : Ints w a zs) (hp : 0 < zs.length) :
    ∃ b off, a = some ⟨b, off, none⟩ ∧ ∀ i (h : i < zs.length), w.cell? ⟨b, off + i, none⟩ = some (.int .i64 zs[i]) := by
  rcases h with rfl | h
  · simp at hp
  · exact h
theorem Ints.kept {w w' : World} {a : Option Addr} {zs : List Int} (h : Ints w a zs) (hb : Below w.heap.size w w') : Ints w' a zs := by
  rcases h with h | ⟨b, off, ha, hc⟩
  · exact .inl h
  · refine .inr ⟨b, off, ha, fun i hi => ?_⟩
    have h1 := hc i hi
    rw [hb.cell (World.block_lt_of_cell? _ _ h1)]; exact h1
/-- A slice's length: for a loop's measure. -/
def lenOf : Value → Nat | .slice _ n _ => n | _ => 0
theorem Own.form {w : World} {B : Nat} {v : Value} {l : List Int} (h : Own w B v l) : ∃ a cap, v = .slice a l.length cap ∧ l.length ≤ cap ∧ cap ≤ maxLen ∧ Ints w a l := by
  obtain ⟨h1, h2⟩ := h
  rcases h2 with ⟨rfl, h2⟩ | ⟨g, cap, cur, rfl, e2, e3, e4, e5, e6, e7⟩
  · rw [h2]; exact ⟨none, 0, rfl, Nat.le_refl _, Nat.zero_le _, .inl (List.eq_nil_of_length_eq_zero h2)⟩
  · refine ⟨_, cap, rfl, e4, e5, .inr ⟨g, 0, rfl, fun i hi => ?_⟩⟩
    have hh : w.ownsRow B 3 1 (.slice (some ⟨g, 0, none⟩) l.length cap) l.length (iv l) := ⟨h1, .inr ⟨g, cap, cur, rfl, e2, e3, e4, e5, e6, e7⟩⟩
    rw [Nat.zero_add, hh.cellAt i (by omega)]
    simp [iv, List.getElem?_eq_getElem hi]

set_option maxHeartbeats 1000000 in
theorem raised_any (n : Nat) (a : Option Addr) (zs : List Int) (cap : Nat) (w : World) (hn : zs.length = n) (hs : Ints w a zs) (h200 : n ≤ 1000) (hbd : ∀ x ∈ zs, Bd x) :
    Calls Tryz.prog 65 #[.slice a n cap] w fun e w' => ∃ v, e = .returned v ∧ Own w' w.heap.size v (raise zs) ∧ Below w.heap.size w w' := by
  have HN := hid hn
  clear hn
  go_enter Tryz.func65, Tryz.ntmps65
  go_wp2
  go_loopw [3, 4] (fun v i wr => ∃ k j : Nat, j ≤ n + 1 ∧ i = .int .i64 j ∧ Hid (j = 2 * k) ∧ Own wr w.heap.size v ((raise zs).take k) ∧ Below w.heap.size w wr) (fun _ i _ => n + 1 - (intOf i).toNat)
  case atStart => exact ⟨0, 0, Nat.zero_le _, rfl, rfl, Own.nil _ _, Below.refl _ _⟩
  case round =>
    obtain ⟨k, j, hk, rfl, HJ, hown, hbel⟩ := hrel
    have hlen := HN.out
    have hj := HJ.out
    have HKL : Hid (((raise zs).take k).length ≤ 1000000) := by show _ ≤ _; rw [List.length_take, length_raise]; omega
    have HOWN := hid hown
    have hsize := hbel.size
    by_cases hlt : j + 1 < n
    · obtain ⟨b, off, rfl, hc⟩ := hs.at (by omega)
      have hc1 := hc j (by omega)
      have hc2 := hc (j + 1) (by omega)
      have hc1' : wr.cell? ⟨b, off + j, none⟩ = some (.int .i64 zs[j]) := by rw [hbel.cell (World.block_lt_of_cell? _ _ hc1)]; exact hc1
      have hc2' : wr.cell? ⟨b, off + (j + 1), none⟩ = some (.int .i64 zs[j + 1]) := by rw [hbel.cell (World.block_lt_of_cell? _ _ hc2)]; exact hc2
      have HS : Hid ((raise zs).take (k + 1) = (raise zs).take k ++ [node zs[j] zs[j + 1]]) := by
        have := take_succ_of _ _ _ (raise_pair k zs (by omega))
        show _ = _
        subst hj
        exact this
      have hx := hbd zs[j] (List.getElem_mem _)
      have hy := hbd zs[j + 1] (List.getElem_mem _)
      obtain ⟨x, hxe⟩ : ∃ x, x = zs[j] := ⟨_, rfl⟩
      obtain ⟨y, hye⟩ : ∃ y, y = zs[j + 1] := ⟨_, rfl⟩
      rw [← hxe] at hc1' hx HS
      rw [← hye] at hc2' hy HS
      clear hc1 hc2 hc hs hxe hye hlen hown hbd hj
      have i1 : (0 : Int) ≤ (j : Int) := by omega
      have i2 : (j : Int) < (n : Int) := by omega
      have i3 : (j : Int) + 1 < (n : Int) := by omega
      have i4 : (0 : Int) ≤ (j : Int) + 1 := by omega
      have i5 : IntKind.i64.wrap ((j : Int) + 1) = (j : Int) + 1 := wrap_id _ (by omega) (by omega)
      have hbw : b < wr.heap.size := World.block_lt_of_cell? _ _ hc1'
      go_wp2_with fail
      go_region_held3 (fun w' => w'.cell? ⟨b, off + j, none⟩ = some (.int .i64 x) ∧ w'.cell? ⟨b, off + (j + 1), none⟩ = some (.int .i64 y) ∧ Below wr.heap.size wr w') ((go_split_ands; refine ⟨?_, ?_, ?_⟩ <;> first | exact hc1' | exact hc2' | exact (Below.refl _ _).drew | exact cell_kept (by assumption) hb1 | exact kept (by assumption) hb1)) (first | (go_at_call 76; refine (joined_any _ _ _ hx hy).mono ?_; rintro e w1 ⟨rfl, hb1⟩))
      have hb2 : Below wr.heap.size wr w1 := kept ((Below.refl _ _).drew) hb1
      have hown1 := HOWN.out.kept hb2
      have hsize1 := hb2.size
      clear hb1
      go_wp2_with (at_builtin; refine wpList_app rfl _ _ rfl w.heap.size _ _ (node x y) rfl (hown1.alloc _) w1.heap.size 1 rfl (cell_alloc_one _ _ _) HKL.out (by simp; omega) ?_)
      intro v' w2 hown2 hb3
      have hbel2 : Below w.heap.size w w2 := (((hbel.trans (hb2.mono hsize)).alloc (by omega) _).trans hb3)
      have hown2' : Own w2 w.heap.size v' ((raise zs).take (k + 1)) := by rw [HS.out]; exact hown2
      clear hown1 hown2 hb3 hc1' hc2'
      go_wp2
      go_roundw
      case rel => exact ⟨k + 1, j + 2, by omega, by go_num, by have := HJ.out; show _ = _; omega, hown2', hbel2⟩
      case measure => simp [intOf]; omega
    · by_cases hlt2 : j < n
      · obtain ⟨b, off, rfl, hc⟩ := hs.at (by omega)
        have hc1 := hc j (by omega)
        have hc1' : wr.cell? ⟨b, off + j, none⟩ = some (.int .i64 zs[j]) := by rw [hbel.cell (World.block_lt_of_cell? _ _ hc1)]; exact hc1
        have HS : Hid ((raise zs).take (k + 1) = (raise zs).take k ++ [zs[j]]) := by
          have := take_succ_of _ _ _ (raise_last k zs (by omega))
          show _ = _
          subst hj
          exact this
        obtain ⟨x, hxe⟩ : ∃ x, x = zs[j] := ⟨_, rfl⟩
        rw [← hxe] at hc1' HS
        clear hc1 hc hs hxe hlen hown hbd hj
        have i3 : ¬ (j : Int) + 1 < (n : Int) := by omega
        have hown1 := HOWN.out
        go_wp2_with (at_builtin; refine wpList_app rfl _ _ rfl w.heap.size _ _ x rfl (hown1.alloc _) wr.heap.size 1 rfl (cell_alloc_one _ _ _) HKL.out (by simp; omega) ?_)
        intro v' w2 hown2 hb3
        have hbel2 : Below w.heap.size w w2 := ((hbel.alloc (by omega) _).trans hb3)
        have hown2' : Own w2 w.heap.size v' ((raise zs).take (k + 1)) := by rw [HS.out]; exact hown2
        clear hown1 hown2 hb3 hc1'
        go_wp2
        go_roundw
        case rel => exact ⟨k + 1, j + 2, by omega, by go_num, by have := HJ.out; show _ = _; omega, hown2', hbel2⟩
        case measure => simp [intOf]; omega
      · go_wp2_with fail
        go_ret
        refine ⟨_, rfl, ?_, hbel⟩
        rw [List.take_of_length_le (by rw [length_raise]; omega)] at hown
        exact hown

theorem top_short (l : List Int) (h : l.length = 1) : ∃ x, l = [x] := by
  match l, h with
  | [x], _ => exact ⟨x, rfl⟩

set_option maxHeartbeats 1000000 in
theorem top_any (n : Nat) (a : Option Addr) (zs : List Int) (cap : Nat) (w : World) (hn : zs.length = n) (hs : Ints w a zs) (h200 : n ≤ 1000) (hbd : ∀ x ∈ zs, Bd x) :
    Calls Tryz.prog 68 #[.slice a n cap] w fun e w' => e = .returned (.int .i64 (top zs)) ∧ Below w.heap.size w w' := by
  by_cases h0 : n = 0
  · subst h0
    obtain rfl : zs = [] := List.eq_nil_of_length_eq_zero hn
    go_enter Tryz.func68, Tryz.ntmps68
    go_wp2_with fail
    go_ret
    exact ⟨ret_int top_nil.symm, Below.refl _ _⟩
  · have hn0 : ((n : Int) == 0) = false := by simp; omega
    have HN := hid hn
    have HS := hid hs
    have HB := hid hbd
    clear hn hs hbd
    go_enter Tryz.func68, Tryz.ntmps68
    go_wp2_with fail
    go_loopw [0] (fun v wr => ∃ (ys : List Int) (m : Nat) (a : Option Addr) (cap : Nat), v = .slice a m cap ∧ 0 < m ∧ m ≤ 1000 ∧ Hid (ys.length = m) ∧ Hid (Ints wr a ys) ∧ Hid (∀ x ∈ ys, Bd x) ∧ Hid (top ys = top zs) ∧ Below w.heap.size w wr) (fun v _ => lenOf v)
    case atStart => exact ⟨zs, n, a, cap, rfl, by omega, h200, HN, HS, HB, rfl, Below.refl _ _⟩
    case round =>
      obtain ⟨ys, m, a1, cap1, rfl, hm0, hm1, HL, HI, HBd, HT, hbel⟩ := hrel
      by_cases h1 : 1 < m
      · have h1' : (1 : Int) < (m : Int) := by omega
        go_wp2_with fail
        refine (raised_any m a1 ys cap1 _ HL.out HI.out hm1 HBd.out).mono ?_
        rintro e w1 ⟨v, rfl, hown, hb1⟩
        obtain ⟨a2, cap2, rfl, hl2, hc2, hi2⟩ := hown.form
        have hlr : (raise ys).length = (m + 1) / 2 := by rw [length_raise, HL.out]
        have hsz := hbel.size
        go_wp2_with fail
        go_roundw
        case rel => exact ⟨raise ys, _, a2, cap2, rfl, by omega, by omega, hlr, hi2, raise_bd _ HBd.out, (by show _ = _; rw [top_raise]; exact HT.out), hbel.trans (hb1.mono hsz)⟩
        case measure => simp [lenOf]; omega
      · obtain rfl : m = 1 := by omega
        obtain ⟨x, rfl⟩ := top_short ys HL.out
        obtain ⟨b, off, rfl, hc⟩ := HI.out.at (by simp)
        have hc0 := hc 0 (by simp)
        simp only [Nat.add_zero, List.getElem_cons_zero] at hc0
        clear hc
        go_wp2_with fail
        go_ret
        exact ⟨ret_int (by rw [← HT.out, top_one]), hbel⟩

set_option maxHeartbeats 400000 in
theorem rroot_any (n : Nat) (a : Option Addr) (ss : List ByteArray) (cap : Nat) (w : World) (hn : ss.length = n) (hs : Strs w a ss) (h200 : n ≤ 200) (h40 : ∀ s ∈ ss, s.size ≤ 40) :
    Calls Tryz.prog 41 #[.slice a n cap] w fun e w' => e = .returned (.int .i64 (rootS ss)) ∧ Below w.heap.size w w' := by
  go_enter Tryz.func41, Tryz.ntmps41
  go_wp2_with fail
  refine (leaves_any n a ss cap _ hn hs h200 h40).mono ?_
  rintro e w1 ⟨v, rfl, hown, hb1⟩
  obtain ⟨a2, cap2, rfl, hl2, hc2, hi2⟩ := hown.form
  have hlr : (lvs ss).length = n := by rw [length_lvs, hn]
  go_wp2_with fail
  refine (top_any n a2 (lvs ss) cap2 _ hlr hi2 (by omega) (lvs_bd ss)).mono ?_
  rintro e w2 ⟨rfl, hb2⟩
  go_wp2_with fail
  go_ret
  exact ⟨rfl, kept hb1 hb2⟩

end Go.Proofs.YtedblhcehlbbmaaGreatDoor

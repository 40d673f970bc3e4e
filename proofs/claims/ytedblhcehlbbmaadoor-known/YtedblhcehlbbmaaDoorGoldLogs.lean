/-
  lenderkeep.Known: logs.
-/
import Derived.Test.YtedblhcehlbbmaaDoorWalkGold
import Derived.Test.YtedblhcehlbbmaaDoorWalkPath
import Derived.Test.YtedblhcehlbbmaaDoorWalkFurther
import Derived.WalkKit
import Derived.WalkSpells
import Derived.WalkLawsBesides
namespace Go.Proofs.YtedblhcehlbbmaaDoor
open Go.RowKit

theorem sumLit (s : ByteArray) (n : Int) (w : World) (hs : s.size ≤ maxLen) (h : sm s.data.toList = n) :
    Calls Tryd.prog 19 #[.string s] w fun e w' => e = .returned (.int .i64 n) ∧ w' = w := by
  subst h; exact gsum_any s w hs
theorem nodeLit (a b n : Int) (w : World) (ha : Bd a) (hb : Bd b) (h : node a b = n) :
    Calls Tryd.prog 20 #[.int .i64 a, .int .i64 b] w fun e w' => e = .returned (.int .i64 n) ∧ Below w.heap.size w w' := by
  subst h; exact gnode_any a b w ha hb
theorem rootLit (n : Nat) (a : Option Addr) (ss : List ByteArray) (cap : Nat) (y : Int) (w : World) (hn : ss.length = n) (hs : Strs w a ss) (hl : n ≤ 200) (hcap : n ≤ cap) (hmax : cap ≤ 1000) (hL : longB ss = false) (h : rootS ss = y) :
    Calls Tryd.prog 21 #[.slice a n cap] w fun e w' => e = .returned (.tuple #[.int .i64 y, .int .i64 0]) ∧ Below w.heap.size w w' := by
  have := lroot_any n a ss cap w hn hs (by omega) hcap (by unfold maxLen; omega)
  rw [hL] at this
  subst h
  simpa using this
theorem pathLit (n i : Nat) (z : Int) (a : Option Addr) (ss : List ByteArray) (cap : Nat) (l : List Int) (w : World) (hn : ss.length = n) (hs : Strs w a ss) (hi : i < n) (hcap : n ≤ cap) (hmax : cap ≤ 1000) (hL : longB ss = false) (hz : z = (i : Int)) (h : pathR (lvs ss) i = l) (k : Nat) (hk : l.length = k) :
    Calls Tryd.prog 22 #[.slice a n cap, .int .i64 z] w fun e w' => ∃ a2 c2, e = .returned (.tuple #[.slice a2 k c2, .int .i64 0]) ∧ Ints w' a2 l ∧ Below w.heap.size w w' := by
  subst hz; subst h; subst hk
  refine (lpath_ok n i a ss cap w hn hs hL hi hcap (by unfold maxLen; omega)).mono ?_
  rintro e w' ⟨v, rfl, hO, hb⟩
  obtain ⟨a2, c2, rfl, _, _, hI⟩ := hO.form
  exact ⟨a2, c2, rfl, hI, hb⟩
theorem furLit (n m : Nat) (z : Int) (a : Option Addr) (ss : List ByteArray) (cap : Nat) (l : List Int) (w : World) (hn : ss.length = n) (hs : Strs w a ss) (h1 : 1 ≤ m) (hm : m ≤ n) (hcap : n ≤ cap) (hmax : cap ≤ 1000) (hL : longB ss = false) (hz : z = (m : Int)) (h : furS ss m true = l) (k : Nat) (hk : l.length = k) :
    Calls Tryd.prog 23 #[.slice a n cap, .int .i64 z] w fun e w' => ∃ a2 c2, e = .returned (.tuple #[.slice a2 k c2, .int .i64 0]) ∧ Ints w' a2 l ∧ Below w.heap.size w w' := by
  subst hz; subst h; subst hk
  refine (lfurther_ok n m a ss cap w hn hs hL h1 hm hcap (by unfold maxLen; omega)).mono ?_
  rintro e w' ⟨v, rfl, hO, hb⟩
  obtain ⟨a2, c2, rfl, _, _, hI⟩ := hO.form
  exact ⟨a2, c2, rfl, hI, hb⟩
theorem sameLit (n m : Nat) (a b : Option Addr) (ss ts : List Int) (c d : Nat) (w : World) (hn : ss.length = n) (hm : ts.length = m) (hs : Ints w a ss) (ht : Ints w b ts) (hr : n ≤ 200) (hr2 : m ≤ 200) (h : ss = ts) :
    Calls Tryd.prog 24 #[.slice a n c, .slice b m d] w fun e w' => e = .returned (.bool true) ∧ Below w.heap.size w w' := by
  have := ksameInts_any n m a b ss ts c d w hn hm hs ht (by omega) (by omega)
  rw [show sameB ss ts = true by unfold sameB; rw [h]; simp] at this
  exact this
def bx : ByteArray := ⟨#[120]⟩
def by_ : ByteArray := ⟨#[121]⟩
def bz : ByteArray := ⟨#[122]⟩
def bv : ByteArray := ⟨#[118]⟩
def bw : ByteArray := ⟨#[119]⟩
theorem Strs.pre {w : World} {b : Nat} {ss : List ByteArray} (k : Nat) (h : Strs w (some ⟨b, 0, none⟩) ss) : Strs w (some ⟨b, 0, none⟩) (ss.take k) := by
  rcases h with rfl | ⟨b', o', hb, hc⟩
  · exact .inl (by simp)
  · cases hb
    exact .inr ⟨b, 0, rfl, fun i hi => by rw [hc i (by rw [List.length_take] at hi; omega), List.getElem_take]⟩
theorem Strs.of_block {w : World} {b : Nat} {ss : List ByteArray} {t : TypeId} (h : w.heap[b]? = some (.cells (ss.map Value.string).toArray t (0, 0))) : Strs w (some ⟨b, 0, none⟩) ss :=
  .inr ⟨b, 0, rfl, fun i hi => by simp [World.cell?, h, List.getElem?_eq_getElem hi]⟩
theorem Ints.of_block {w : World} {b : Nat} {zs : List Int} {t : TypeId} (h : w.heap[b]? = some (.cells (zs.map (Value.int .i64)).toArray t (0, 0))) : Ints w (some ⟨b, 0, none⟩) zs :=
  .inr ⟨b, 0, rfl, fun i hi => by simp [World.cell?, h, List.getElem?_eq_getElem hi]⟩

set_option maxRecDepth 20000 in
set_option maxHeartbeats 4000000 in
theorem goldlogs_any (w : World) : Calls Tryd.prog 8 #[] w fun e w' => e = .returned (.bool true) ∧ Below w.heap.size w w' := by
  obtain ⟨B, hB⟩ : ∃ B, B = w.heap.size := ⟨_, rfl⟩
  go_enter Tryd.func8, Tryd.ntmps8
  go_wp2_with fail
  rw [← hB]
  generalize hw0 : World.alloc w _ = w0
  have HK0 : Hid (Below w.heap.size w w0) := by show Below _ _ _; rw [← hw0]; exact (Below.refl _ _).alloc (Nat.le_refl _) _
  have hs0 : Strs w0 (some ⟨B, 0, none⟩) [bx, by_, bz] := by rw [← hw0, hB]; exact Strs.of_block (heap_alloc_new w _)
  have HS : Hid (∀ w', Below w0.heap.size w0 w' → Strs w' (some ⟨B, 0, none⟩) [bx, by_, bz]) := fun w' hb => hs0.kept hb
  clear hw0 hs0 hB
  have HB0 := hid (Below.refl w0.heap.size w0)
  refine (sumLit ⟨#[69, 120]⟩ 2159 _ (by decide) (by rfl)).mono ?_
  rintro e w1 ⟨rfl, rfl⟩
  go_wp2_with fail
  refine (sumLit ⟨#[69, 121]⟩ 2160 _ (by decide) (by rfl)).mono ?_
  rintro e w1 ⟨rfl, rfl⟩
  go_wp2_with fail
  refine (sumLit ⟨#[69, 122]⟩ 2161 _ (by decide) (by rfl)).mono ?_
  rintro e w1 ⟨rfl, rfl⟩
  go_wp2_with fail
  refine (nodeLit 2159 2160 2443 _ ⟨by omega, by omega⟩ ⟨by omega, by omega⟩ (by rfl)).mono ?_
  rintro e w2 ⟨rfl, hb2⟩
  have HB2 := hid hb2
  clear hb2 HB0
  go_wp2_with fail
  refine (rootLit 0 none [] 0 0 _ rfl (.inl rfl) (by omega) (by omega) (by omega) rfl rfl).mono ?_
  rintro e w3 ⟨rfl, b3⟩
  have HB3 := hid (kept HB2.out b3)
  clear b3
  go_wp2_with fail
  refine (rootLit 1 _ [bx] 3 2159 _ rfl ((HS.out _ HB3.out).pre 1) (by omega) (by omega) (by omega) (by rfl) (by rfl)).mono ?_
  rintro e w4 ⟨rfl, b4⟩
  have HB4 := hid (kept HB3.out b4)
  clear b4
  go_wp2_with fail
  refine (rootLit 3 _ [bx, by_, bz] 3 1239 _ rfl (HS.out _ HB4.out) (by omega) (by omega) (by omega) (by rfl) (by rfl)).mono ?_
  rintro e w5 ⟨rfl, b5⟩
  have HB5 := hid (kept HB4.out b5)
  clear b5
  go_wp2_with fail
  refine (pathLit 3 0 0 _ [bx, by_, bz] 3 [2160, 2161] _ rfl (HS.out _ HB5.out) (by omega) (by omega) (by omega) (by rfl) rfl (by rfl) 2 rfl).mono ?_
  rintro e w6 ⟨a6, c6, rfl, hP, b6⟩
  have HB6 := hid (kept HB5.out b6)
  have HP := hid hP
  clear b6
  go_wp2_with fail
  refine (pathLit 3 2 2 _ [bx, by_, bz] 3 [2443] _ rfl (HS.out _ HB6.out) (by omega) (by omega) (by omega) (by rfl) rfl (by rfl) 1 rfl).mono ?_
  rintro e w7 ⟨a7, c7, rfl, hQ, b7⟩
  have HB7 := hid (kept HB6.out b7)
  have HP := hid (HP.out.kept b7)
  have HQ := hid hQ
  clear b7
  go_wp2_with fail
  refine (furLit 3 1 1 _ [bx, by_, bz] 3 [2160, 2161] _ rfl (HS.out _ HB7.out) (by omega) (by omega) (by omega) (by omega) (by rfl) rfl (by rfl) 2 rfl).mono ?_
  rintro e w8 ⟨a8, c8, rfl, hA, b8⟩
  have HB8 := hid (kept HB7.out b8)
  have HP := hid (HP.out.kept b8)
  have HQ := hid (HQ.out.kept b8)
  have HA := hid hA
  clear b8
  go_wp2_with fail
  refine (furLit 3 2 2 _ [bx, by_, bz] 3 [2161] _ rfl (HS.out _ HB8.out) (by omega) (by omega) (by omega) (by omega) (by rfl) rfl (by rfl) 1 rfl).mono ?_
  rintro e w9 ⟨a9, c9, rfl, hBB, b9⟩
  have HB9 := hid (kept HB8.out b9)
  have HP := hid (HP.out.kept b9)
  have HQ := hid (HQ.out.kept b9)
  have HA := hid (HA.out.kept b9)
  have HBB := hid hBB
  clear b9
  go_wp2_with fail
  refine (furLit 3 3 3 _ [bx, by_, bz] 3 ([] : List Int) _ rfl (HS.out _ HB9.out) (by omega) (by omega) (by omega) (by omega) (by rfl) rfl (by rfl) 0 rfl).mono ?_
  rintro e w10 ⟨a10, c10, rfl, hC, b10⟩
  have HB10 := hid (kept HB9.out b10)
  have HP := hid (HP.out.kept b10)
  have HQ := hid (HQ.out.kept b10)
  have HA := hid (HA.out.kept b10)
  have HBB := hid (HBB.out.kept b10)
  have HC := hid hC
  clear b10
  go_wp2_with fail
  refine (nodeLit 2443 2161 1239 _ ⟨by omega, by omega⟩ ⟨by omega, by omega⟩ (by rfl)).mono ?_
  rintro e w11 ⟨rfl, b11⟩
  have HB11 := hid (kept HB10.out b11)
  have HP := hid (HP.out.kept b11)
  have HQ := hid (HQ.out.kept b11)
  have HA := hid (HA.out.kept b11)
  have HBB := hid (HBB.out.kept b11)
  have HC := hid (HC.out.kept b11)
  clear b11
  go_wp2_with fail
  refine (sameLit 2 2 _ _ [2160, 2161] [2160, 2161] _ _ _ rfl rfl (HP.out.kept ((Below.refl _ _).alloc (Nat.le_refl _) _)) (Ints.of_block (heap_alloc_new _ _)) (by omega) (by omega) rfl).mono ?_
  rintro e w12 ⟨rfl, d12⟩
  have b12 := kept ((Below.refl _ _).alloc (Nat.le_refl _) _) d12
  clear d12
  have HB12 := hid (kept HB11.out b12)
  have HP := hid (HP.out.kept b12)
  have HQ := hid (HQ.out.kept b12)
  have HA := hid (HA.out.kept b12)
  have HBB := hid (HBB.out.kept b12)
  have HC := hid (HC.out.kept b12)
  clear b12
  go_wp2_with fail
  refine (sameLit 1 1 _ _ [2443] [2443] _ _ _ rfl rfl (HQ.out.kept ((Below.refl _ _).alloc (Nat.le_refl _) _)) (Ints.of_block (heap_alloc_new _ _)) (by omega) (by omega) rfl).mono ?_
  rintro e w13 ⟨rfl, d13⟩
  have b13 := kept ((Below.refl _ _).alloc (Nat.le_refl _) _) d13
  clear d13
  have HB13 := hid (kept HB12.out b13)
  have HP := hid (HP.out.kept b13)
  have HQ := hid (HQ.out.kept b13)
  have HA := hid (HA.out.kept b13)
  have HBB := hid (HBB.out.kept b13)
  have HC := hid (HC.out.kept b13)
  clear b13
  go_wp2_with fail
  refine (sameLit 2 2 _ _ [2160, 2161] [2160, 2161] _ _ _ rfl rfl (HA.out.kept ((Below.refl _ _).alloc (Nat.le_refl _) _)) (Ints.of_block (heap_alloc_new _ _)) (by omega) (by omega) rfl).mono ?_
  rintro e w14 ⟨rfl, d14⟩
  have b14 := kept ((Below.refl _ _).alloc (Nat.le_refl _) _) d14
  clear d14
  have HB14 := hid (kept HB13.out b14)
  have HP := hid (HP.out.kept b14)
  have HQ := hid (HQ.out.kept b14)
  have HA := hid (HA.out.kept b14)
  have HBB := hid (HBB.out.kept b14)
  have HC := hid (HC.out.kept b14)
  clear b14
  go_wp2_with fail
  refine (sameLit 1 1 _ _ [2161] [2161] _ _ _ rfl rfl (HBB.out.kept ((Below.refl _ _).alloc (Nat.le_refl _) _)) (Ints.of_block (heap_alloc_new _ _)) (by omega) (by omega) rfl).mono ?_
  rintro e w15 ⟨rfl, d15⟩
  have b15 := kept ((Below.refl _ _).alloc (Nat.le_refl _) _) d15
  clear d15
  have HB15 := hid (kept HB14.out b15)
  have HP := hid (HP.out.kept b15)
  have HQ := hid (HQ.out.kept b15)
  have HA := hid (HA.out.kept b15)
  have HBB := hid (HBB.out.kept b15)
  have HC := hid (HC.out.kept b15)
  clear b15
  go_wp2_with fail
  obtain ⟨B5, hB5⟩ : ∃ B5, B5 = w15.heap.size := ⟨_, rfl⟩
  rw [← hB5]
  have hs5 : Strs (w15.alloc (.cells #[.string ⟨#[118]⟩, .string ⟨#[119]⟩, .string ⟨#[120]⟩, .string ⟨#[121]⟩, .string ⟨#[122]⟩] 9)) (some ⟨B5, 0, none⟩) [bv, bw, bx, by_, bz] := by rw [hB5]; exact Strs.of_block (ss := [bv, bw, bx, by_, bz]) (heap_alloc_new _ _)
  refine (furLit 5 3 3 _ [bv, bw, bx, by_, bz] 5 [2159, 2160, 1700, 2161] _ rfl hs5 (by omega) (by omega) (by omega) (by omega) (by rfl) rfl (by rfl) 4 rfl).mono ?_
  rintro e w16 ⟨a16, c16, rfl, hD, d16⟩
  have b16 := kept ((Below.refl _ _).alloc (Nat.le_refl _) _) d16
  clear d16 hs5 hB5
  have HB16 := hid (kept HB15.out b16)
  have HP := hid (HP.out.kept b16)
  have HQ := hid (HQ.out.kept b16)
  have HA := hid (HA.out.kept b16)
  have HBB := hid (HBB.out.kept b16)
  have HC := hid (HC.out.kept b16)
  have HD := hid hD
  go_wp2_with fail
  refine (sumLit ⟨#[69, 118]⟩ 2157 _ (by decide) (by rfl)).mono ?_
  rintro e wz ⟨rfl, hwz⟩
  subst hwz
  go_wp2_with fail
  refine (sumLit ⟨#[69, 119]⟩ 2158 _ (by decide) (by rfl)).mono ?_
  rintro e wz ⟨rfl, hwz⟩
  subst hwz
  clear b16
  go_wp2_with fail
  refine (nodeLit 2157 2158 1700 _ ⟨by omega, by omega⟩ ⟨by omega, by omega⟩ (by rfl)).mono ?_
  rintro e w17 ⟨rfl, b17⟩
  have HB17 := hid (kept HB16.out b17)
  have HP := hid (HP.out.kept b17)
  have HQ := hid (HQ.out.kept b17)
  have HA := hid (HA.out.kept b17)
  have HBB := hid (HBB.out.kept b17)
  have HC := hid (HC.out.kept b17)
  have HD := hid (HD.out.kept b17)
  clear b17
  go_wp2_with fail
  refine (sameLit 4 4 _ _ [2159, 2160, 1700, 2161] [2159, 2160, 1700, 2161] _ _ _ rfl rfl (HD.out.kept ((Below.refl _ _).alloc (Nat.le_refl _) _)) (Ints.of_block (heap_alloc_new _ _)) (by omega) (by omega) rfl).mono ?_
  rintro e w18 ⟨rfl, d18⟩
  have b18 := kept ((Below.refl _ _).alloc (Nat.le_refl _) _) d18
  clear d18
  have HB18 := hid (kept HB17.out b18)
  have HP := hid (HP.out.kept b18)
  have HQ := hid (HQ.out.kept b18)
  have HA := hid (HA.out.kept b18)
  have HBB := hid (HBB.out.kept b18)
  have HC := hid (HC.out.kept b18)
  have HD := hid (HD.out.kept b18)
  clear b18
  go_wp2_with fail
  go_ret
  exact ⟨rfl, kept HK0.out HB18.out⟩

end Go.Proofs.YtedblhcehlbbmaaDoor

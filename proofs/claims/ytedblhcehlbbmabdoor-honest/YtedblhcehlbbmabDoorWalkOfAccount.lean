/-
  CONTRACT: twins.OfAccount.
-/
import Derived.Test.YtedblhcehlbbmabDoorWalkAccTx
import Derived.Test.YtedblhcehlbbmabDoorMathDown
import Derived.WalkKit
import Derived.WalkSpells
import Derived.WalkLawsBesides
import Derived.Laws.IdiomStrings
import Derived.Deep.QuietTactic
import Derived.BigQuiet
namespace Go.Proofs.YtedblhcehlbbmabDoor
open Go.RowKit

set_option maxRecDepth 20000 in
set_option maxHeartbeats 4000000 in
theorem ofAccount_any (a b : Acc) (w : World) (ha : FitsA a) (ha64 : Acc64 a) (hb : FitsA b) (hb64 : Acc64 b) (ht : TabOk w) :
    Calls Tryd.prog 36 #[accV a, accV b] w fun e w' => e = .returned (.tuple #[.string (bs (textA a (downA a b 7))), .string (bs (textA b (downA a b 7)))]) ∧ Below w.heap.size w w' := by
  have HTA : Hid (∀ wz, Below w.heap.size w wz → Calls Tryd.prog 46 #[accV a] wz fun e w' => e = .returned (txV a) ∧ Below wz.heap.size wz w') := fun wz hz => textsA_any a wz ha ha64 (ht.kept hz)
  have HTB : Hid (∀ wz, Below w.heap.size w wz → Calls Tryd.prog 46 #[accV b] wz fun e w' => e = .returned (txV b) ∧ Below wz.heap.size wz w') := fun wz hz => textsA_any b wz hb hb64 (ht.kept hz)
  clear ha ha64 hb hb64 ht
  have HD : Hid (∀ n, downA a b (n + 1) = if textA a (n + 1) = textA b (n + 1) then downA a b n else n + 1) := fun n => rfl
  have HXA : Hid (∀ i, txF a i = bs (textA a i)) := fun i => rfl
  have HXB : Hid (∀ i, txF b i = bs (textA b i)) := fun i => rfl
  obtain ⟨X, HX⟩ : ∃ X, Hid (X = bs (textA a (downA a b 7))) := ⟨_, rfl⟩
  obtain ⟨Y, HY⟩ : ∃ Y, Hid (Y = bs (textA b (downA a b 7))) := ⟨_, rfl⟩
  rw [← HX.out, ← HY.out]
  obtain ⟨L, hL⟩ : ∃ L, L = w.heap.size := ⟨_, rfl⟩
  unfold accV txV at *
  unfold txC at HTA HTB
  generalize txF a = xa at *
  generalize txF b = xb at *
  go_enter Tryd.func36, Tryd.ntmps36
  go_wp2_with fail
  refine (HTA.out _ (((Below.refl _ _).alloc (Nat.le_refl _) _).alloc (by simp) _)).mono ?_
  rintro e w1 ⟨rfl, hb1⟩
  rw [← hL]
  have HBB : Hid (BlkA w1 (L + 1) b) := by
    have := BlkA.new (w.alloc (.cells (accC a) 35)) b
    rw [show (w.alloc (.cells (accC a) 35)).heap.size = L + 1 by simp [hL]] at this
    exact this.kept hb1
  have hk1 : Below w.heap.size w w1 := kept (((Below.refl _ _).alloc (Nat.le_refl _) _).alloc (by simp) _) hb1
  clear hb1 hL HTA
  obtain ⟨G, hG⟩ : ∃ G, G = w1.heap.size := ⟨_, rfl⟩
  have hlt1 : L + 1 < w1.heap.size := lt_of_block HBB.out
  have x0 : w1.cell? ⟨L + 1, 0, none⟩ = some (.int .i64 b.loan) := HBB.out.cell 0 _ rfl
  have x1 : w1.cell? ⟨L + 1, 1, none⟩ = some (.int .i64 b.st.principal) := HBB.out.cell 1 _ rfl
  have x2 : w1.cell? ⟨L + 1, 2, none⟩ = some (.int .i64 b.st.due) := HBB.out.cell 2 _ rfl
  have x3 : w1.cell? ⟨L + 1, 3, none⟩ = some (.int .i64 b.st.rate) := HBB.out.cell 3 _ rfl
  have x4 : w1.cell? ⟨L + 1, 4, none⟩ = some (.int .i64 b.st.day) := HBB.out.cell 4 _ rfl
  have x5 : w1.cell? ⟨L + 1, 5, none⟩ = some (.int .i64 b.st.spare) := HBB.out.cell 5 _ rfl
  have x6 : w1.cell? ⟨L + 1, 6, none⟩ = some (.int .i64 b.st.count) := HBB.out.cell 6 _ rfl
  have x7 : w1.cell? ⟨L + 1, 7, none⟩ = some (.int .i64 b.size) := HBB.out.cell 7 _ rfl
  have x8 : w1.cell? ⟨L + 1, 8, none⟩ = some (.int .i64 b.log) := HBB.out.cell 8 _ rfl
  have x9 : w1.cell? ⟨L + 1, 9, none⟩ = some (.int .i64 b.p0) := HBB.out.cell 9 _ rfl
  have x10 : w1.cell? ⟨L + 1, 10, none⟩ = some (.int .i64 b.p1) := HBB.out.cell 10 _ rfl
  have x11 : w1.cell? ⟨L + 1, 11, none⟩ = some (.int .i64 b.p2) := HBB.out.cell 11 _ rfl
  have x12 : w1.cell? ⟨L + 1, 12, none⟩ = some (.int .i64 b.p3) := HBB.out.cell 12 _ rfl
  have x13 : w1.cell? ⟨L + 1, 13, none⟩ = some (.int .i64 b.p4) := HBB.out.cell 13 _ rfl
  have x14 : w1.cell? ⟨L + 1, 14, none⟩ = some (.int .i64 b.p5) := HBB.out.cell 14 _ rfl
  go_wp2_with fail
  rw [← hG]
  refine (HTB.out _ (hk1.alloc hk1.size _)).mono ?_
  rintro e w2 ⟨rfl, hb2⟩
  have HB1 : Hid (BlkT w2 G xa) := by
    show BlkT _ _ _
    rw [hG]; exact (BlkT.new w1 xa).kept hb2
  have hk2 : Below w.heap.size w w2 := kept (hk1.alloc hk1.size _) hb2
  clear hb2 x0 x1 x2 x3 x4 x5 x6 x7 x8 x9 x10 x11 x12 x13 x14 HTB HBB hG hk1 hlt1
  go_wp2_with fail
  obtain ⟨H, hH⟩ : ∃ H, H = w2.heap.size := ⟨_, rfl⟩
  rw [← hH]
  have HB2 : Hid (BlkT (w2.alloc (.cells (txC xb) 87)) H xb) := by show BlkT _ _ _; rw [hH]; exact BlkT.new w2 xb
  have HB3 : Hid (BlkT (w2.alloc (.cells (txC xb) 87)) G xa) := HB1.out.kept ((Below.refl _ _).alloc (Nat.le_refl _) _)
  have HK3 : Hid (Below w.heap.size w (w2.alloc (.cells (txC xb) 87))) := hk2.alloc hk2.size _
  unfold txC at HB2 HB3 HK3
  generalize World.alloc w2 _ = w3 at *
  clear HB1 hk2 hH
  go_loopw [8] (fun i wr => ∃ k : Nat, k ≤ 7 ∧ i = .int .i64 (k : Int) ∧ Hid (downA a b 7 = downA a b k) ∧ Hid (BlkT wr G xa) ∧ Hid (BlkT wr H xb) ∧ Below w.heap.size w wr) (fun i _ => (intOf i).toNat)
  case atStart => exact ⟨7, Nat.le_refl _, rfl, rfl, HB3, HB2, HK3.out⟩
  case round =>
    obtain ⟨k, hk, rfl, HDK, HA, HB, hbel⟩ := hrel
    have ca := HA.out.cell k (by omega)
    have cb := HB.out.cell k (by omega)
    have hGw : G < wr.heap.size := lt_of_block HA.out
    have hHw : H < wr.heap.size := lt_of_block HB.out
    have i1 : (0 : Int) ≤ (k : Int) := by omega
    have i2 : (k : Int) < 8 := by omega
    have HVA := hid (HXA.out k)
    have HVB := hid (HXB.out k)
    by_cases h0 : k = 0
    · subst h0
      rw [show downA a b 0 = 0 from rfl] at HDK
      rw [HDK.out, ← HVA.out] at HX
      rw [HDK.out, ← HVB.out] at HY
      rw [← HX.out] at ca
      rw [← HY.out] at cb
      rw [show ((0 : Nat) : Int) = 0 from rfl]
      clear i1 i2 hk HVA HVB
      go_wp2_with fail
      go_quiet (fail)
      have hb4 : Below wr.heap.size wr (wr.drewN nq) := below_drewN (Below.refl _ _) _
      generalize wr.drewN nq = w4 at hb4 ⊢
      have hk4 := kept hbel hb4
      have ca4 := cell_kept ca hb4
      have cb4 := cell_kept cb hb4
      have hG4 : G < w4.heap.size := Nat.lt_of_lt_of_le hGw hb4.size
      have hH4 : H < w4.heap.size := Nat.lt_of_lt_of_le hHw hb4.size
      clear ca cb hGw hHw hb4 hbel HA HB
      go_wp2_with fail
      go_quiet (fail)
      go_wp2_with fail
      go_ret2
      exact ⟨rfl, below_drewN hk4 _⟩
    · have t0 : 0 < k := by omega
      have t0d : decide (0 < k) = true := decide_eq_true t0
      clear h0
      by_cases he : xa k = xb k
      · have HD2 : Hid (downA a b 7 = downA a b (k - 1)) := by
          show _ = _
          have := HD.out (k - 1)
          rw [show k - 1 + 1 = k by omega] at this
          rw [HDK.out, this, if_pos (bs_inj (by rw [← HVA.out, ← HVB.out, he]))]
        rw [← he] at cb
        generalize xa k = sa at *
        clear hk HVA HVB HDK HD HXA HXB HX HY he
        go_wp2_with fail
        go_quiet (fail)
        have hb4 : Below wr.heap.size wr (wr.drewN nq) := below_drewN (Below.refl _ _) _
        generalize wr.drewN nq = w4 at hb4 ⊢
        have hk4 := kept hbel hb4
        have HA4 := hid (HA.out.kept hb4)
        have HB4 := hid (HB.out.kept hb4)
        clear ca cb hGw hHw hb4 hbel HA HB
        go_wp2_with fail
        exact ⟨⟨k - 1, by omega, by rw [show ((k - 1 : Nat) : Int) = (k : Int) - 1 by omega], HD2, HA4, HB4, hk4⟩, by simp [intOf]; omega⟩
      · have HD2 : Hid (downA a b 7 = k) := by
          show _ = _
          have := HD.out (k - 1)
          rw [show k - 1 + 1 = k by omega] at this
          rw [HDK.out, this, if_neg (fun h => he (by rw [HVA.out, HVB.out, h]))]
        have hne := bne_str he
        rw [HD2.out, ← HVA.out] at HX
        rw [HD2.out, ← HVB.out] at HY
        rw [← HX.out] at ca hne
        rw [← HY.out] at cb hne
        clear hk HVA HVB HDK HD HXA HXB he HD2
        go_wp2_with fail
        go_quiet (fail)
        have hb4 : Below wr.heap.size wr (wr.drewN nq) := below_drewN (Below.refl _ _) _
        generalize wr.drewN nq = w4 at hb4 ⊢
        have hk4 := kept hbel hb4
        have ca4 := cell_kept ca hb4
        have cb4 := cell_kept cb hb4
        have hG4 : G < w4.heap.size := Nat.lt_of_lt_of_le hGw hb4.size
        have hH4 : H < w4.heap.size := Nat.lt_of_lt_of_le hHw hb4.size
        clear ca cb hGw hHw hb4 hbel HA HB
        go_wp2_with fail
        go_quiet (fail)
        go_wp2_with fail
        go_ret2
        exact ⟨rfl, below_drewN hk4 _⟩

end Go.Proofs.YtedblhcehlbbmabDoor

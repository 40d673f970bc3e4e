/-
  CONTRACT: loans.State: a loan's state behind events.
-/
import Derived.Test.YtedblhcehlbbmabDoorWalkLoans
import Derived.WalkKit
import Derived.WalkSpells
import Derived.WalkLawsBesides
namespace Go.Proofs.YtedblhcehlbbmabDoor
open Go.RowKit

set_option maxRecDepth 20000 in
set_option maxHeartbeats 2000000 in
theorem loansState_any (n : Nat) (a : Option Addr) (es : List Ev) (cap : Nat) (loan : Int) (w : World) (hn : es.length = n) (hs : Evs w a es) (hlt : ∀ b, a = some ⟨b, 0, none⟩ → b < w.heap.size) (hg : GoodE es) :
    Calls Tryd.prog 37 #[.slice a n cap, .int .i64 loan] w fun r w' => r = .returned (stV (stOf es loan)) ∧ Below w.heap.size w w' := by
  have HN := hid hn; have HS := hid hs; have HLT := hid hlt; have HG := hid hg
  have h200 : n ≤ 200 := by rw [← hn]; exact hg.1
  clear hn hs hlt hg
  go_enter Tryd.func37, Tryd.ntmps37
  go_wp2_with fail
  obtain ⟨L1, hL1⟩ : ∃ L, L = w.heap.size := ⟨_, rfl⟩
  have HB0 := hid (Blk.new (w.alloc (.cells #[.int .i64 zS.principal, .int .i64 zS.due, .int .i64 zS.rate, .int .i64 zS.day, .int .i64 zS.spare, .int .i64 zS.count] 32)) zS)
  have HB1 : Hid (Blk ((w.alloc (.cells #[.int .i64 zS.principal, .int .i64 zS.due, .int .i64 zS.rate, .int .i64 zS.day, .int .i64 zS.spare, .int .i64 zS.count] 32)).alloc (.cells #[.int .i64 zS.principal, .int .i64 zS.due, .int .i64 zS.rate, .int .i64 zS.day, .int .i64 zS.spare, .int .i64 zS.count] 32)) L1 zS) := by
    show Blk _ _ _
    rw [hL1]
    exact (Blk.new w zS).of (Below.heap_alloc _ _ _ (by simp))
  rw [show (w.alloc (.cells #[.int .i64 zS.principal, .int .i64 zS.due, .int .i64 zS.rate, .int .i64 zS.day, .int .i64 zS.spare, .int .i64 zS.count] 32)).heap.size = L1 + 1 by simp [hL1]] at HB0
  rw [← hL1]
  have HLL := hid hL1
  clear hL1
  go_loopw [6] (fun i wr => ∃ k : Nat, k ≤ n ∧ i = .int .i64 (k : Int) ∧ Hid (Blk wr (L1 + 1) (stOf (es.take k) loan)) ∧ Hid (Blk wr L1 zS) ∧ Below w.heap.size w wr) (fun i _ => n - (intOf i).toNat)
  case atStart =>
    refine ⟨0, Nat.zero_le _, rfl, HB0, HB1, ?_⟩
    exact ((Below.refl _ _).alloc (Nat.le_refl _) _).alloc (by simp) _
  case round =>
    obtain ⟨k, hk, rfl, HBK, HB1, hbel⟩ := hrel
    have hszr := hbel.size
    by_cases hlt : k < n
    · have hkl : k < es.length := by rw [HN.out]; exact hlt
      obtain ⟨b, rfl, hc⟩ := (HS.out.under hbel HLT.out).at (by omega)
      have hbw := HLT.out b rfl
      obtain ⟨h0, h1, h2, h3⟩ := hc k hkl
      have hmid := good_mid es k hkl HG.out
      have HSN := hid (stOf_snoc (es.take k) es[k] loan)
      rw [← takeE_snoc es k hkl] at HSN
      have hbs := bd_of (es.take k) loan (HG.out.take k)
      have HNX := hid (fun w => next_any (stOf (es.take k) loan) es[k] w (hbs.1.mono (HG.out.take k).1) hmid.1 (by have := hbs.2; have := hmid.2.1; omega))
      clear hc hmid hbs HB0
      generalize es[k] = e at *
      clear hkl
      obtain ⟨el, ek, ea, ed⟩ := e
      simp only at h0 h1 h2 h3 HSN
      by_cases hl : el = loan
      · rw [if_pos hl] at HSN
        rw [← HSN.out] at HNX
        obtain ⟨s', HSE⟩ : ∃ s', Hid (s' = stOf (es.take (k + 1)) loan) := ⟨_, rfl⟩
        rw [← HSE.out] at HNX HSN
        generalize stOf (es.take k) loan = s at HNX HBK HSN
        subst hl
        unfold stV evV at HNX
        simp only at HNX
        obtain ⟨x0, x1, x2, x3, x4, x5⟩ := HBK.out.six
        go_wp2_with fail
        go_region_with (go_at_call 52; refine (HNX.out _).mono ?_; rintro e w2 ⟨rfl, hb2⟩; have hb3 : Below wr.heap.size wr w2 := kept (by repeat' (first | exact Below.refl _ _ | refine Below.drew ?_)) hb2; have HB3 := hid (HBK.out.kept hb3); obtain ⟨y0, y1, y2, y3, y4, y5⟩ := HB3.out.six; have f0 := HB3.out.free 0; have f1 := HB3.out.free 1; have f2 := HB3.out.free 2; have f3 := HB3.out.free 3; have f4 := HB3.out.free 4; have f5 := HB3.out.free 5)
        all_goals (
          have HP : Hid (Blk (put6 w2 (L1 + 1) s') (L1 + 1) (stOf (es.take (k + 1)) el)) := by
            show Blk _ _ _
            rw [← HSE.out]
            exact put6_blk HB3.out s'
          have HQ := hid ((HB1.out.kept hb3).of (put6_other w2 (L1 + 1) s' L1 (by omega)))
          have HW := put6_below (kept hbel hb3) (L1 + 1) s' (by have := HLL.out; omega)
          clear x0 x1 x2 x3 x4 x5 h0 h1 h2 h3 hb2
          go_wp2_with fail
          go_roundw
          case rel => exact ⟨k + 1, by omega, by go_num, HP, HQ, HW⟩
          case measure => simp [intOf]; omega)
      · rw [if_neg hl] at HSN
        rw [← HSN.out] at HBK
        have i1 : (el == loan) = false := by simp; exact hl
        clear HNX hl
        go_wp2_with fail
        go_roundw
        case rel => exact ⟨k + 1, by omega, by go_num, HBK, HB1, hbel⟩
        case measure => simp [intOf]; omega
    · have HE : Hid (es.take k = es) := List.take_of_length_le (by rw [HN.out]; omega)
      rw [HE.out] at HBK
      obtain ⟨s, HSE⟩ : ∃ s, Hid (s = stOf es loan) := ⟨_, rfl⟩
      rw [← HSE.out] at HBK
      obtain ⟨x0, x1, x2, x3, x4, x5⟩ := HBK.out.six
      obtain ⟨y0, y1, y2, y3, y4, y5⟩ := HB1.out.six
      have f0 := HB1.out.free 0
      have f1 := HB1.out.free 1
      have f2 := HB1.out.free 2
      have f3 := HB1.out.free 3
      have f4 := HB1.out.free 4
      have f5 := HB1.out.free 5
      go_wp2_with fail
      (try simp only [Exit.inBlock, Exit.then])
      refine bodyPost_ret (ret_state rfl (L := L1) (s := s) rfl (put6_blk HB1.out s)) rfl ⟨by rw [HSE.out], put6_below hbel L1 s (by have := HLL.out; omega)⟩

end Go.Proofs.YtedblhcehlbbmabDoor

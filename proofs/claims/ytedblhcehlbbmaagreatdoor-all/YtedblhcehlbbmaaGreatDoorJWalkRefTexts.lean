import Derived.Test.YtedblhcehlbbmaaGreatDoorWalkRefState
import Derived.Test.YtedblhcehlbbmaaGreatDoorJWalkRefLog
import Derived.Test.YtedblhcehlbbmaaGreatDoorWalkBook5
import Derived.Test.YtedblhcehlbbmaaGreatDoorWalkRefCalm
import Derived.WalkKit
import Derived.WalkSpells
import Derived.WalkLawsBesides
import Derived.Deep.RegionHeld3
import Derived.Laws.BitsLemmas
import Derived.Deep.QuietTactic
import Derived.BigQuiet
import Derived.Deep.Cut
import Derived.Deep.CutRange
import Derived.Deep.CutBlock
/-
  THE DOCUMENT's BOOK: lenderref.Texts.
-/
namespace Go.Proofs.YtedblhcehlbbmaaGreatDoor
set_option maxRecDepth 20000
open Go.RowKit

/-- The texts of a book, as lenderref lists them. -/
def stL (es : List Ev) : Nat → List ByteArray
  | 0 => []
  | j + 1 => stL es j ++ [bs (stT (stF es j))]
def pairB (es : List Ev) (d j : Nat) : ByteArray := bs (pairT (mapL (stF es) d (2 * j)) (mapL (stF es) d (2 * j + 1)))
def rowD (es : List Ev) (d : Nat) : Nat → List ByteArray
  | 0 => []
  | j + 1 => rowD es d j ++ [pairB es d j]
def rowsD (es : List Ev) : Nat → List ByteArray
  | 0 => stL es 64
  | d + 1 => rowsD es d ++ rowD es d (2 ^ (5 - d))
def bookL (es : List Ev) : List ByteArray := rowsD es 6 ++ [bs (headT (es.length : Int) (logOf es) (mapOf es))]
theorem length_stL (es : List Ev) (j : Nat) : (stL es j).length = j := by
  induction j with
  | zero => rfl
  | succ j ih => rw [stL, List.length_append, ih]; rfl
theorem length_rowD (es : List Ev) (d j : Nat) : (rowD es d j).length = j := by
  induction j with
  | zero => rfl
  | succ j ih => rw [rowD, List.length_append, ih]; rfl
theorem length_rowsD (es : List Ev) (d : Nat) : (rowsD es d).length ≤ 64 + 32 * d := by
  induction d with
  | zero => rw [rowsD, length_stL]; omega
  | succ d ih =>
    have : 2 ^ (5 - d) ≤ 2 ^ 5 := Nat.pow_le_pow_right (by omega) (by omega)
    rw [rowsD, List.length_append, length_rowD]; omega
theorem mem_stL (es : List Ev) (n j : Nat) (h : j < n) : bs (stT (stF es j)) ∈ stL es n := by
  induction n with
  | zero => omega
  | succ n ih =>
    rw [stL]
    by_cases hj : j < n
    · exact List.mem_append_left _ (ih hj)
    · obtain rfl : j = n := by omega
      simp
theorem mem_rowD (es : List Ev) (d n j : Nat) (h : j < n) : pairB es d j ∈ rowD es d n := by
  induction n with
  | zero => omega
  | succ n ih =>
    rw [rowD]
    by_cases hj : j < n
    · exact List.mem_append_left _ (ih hj)
    · obtain rfl : j = n := by omega
      simp
theorem mem_rowsD0 (es : List Ev) (n : Nat) : ∀ t ∈ stL es 64, t ∈ rowsD es n := by
  induction n with
  | zero => exact fun t h => h
  | succ n ih => exact fun t h => List.mem_append_left _ (ih t h)
theorem mem_rowsD (es : List Ev) (n d : Nat) (h : d < n) : ∀ t ∈ rowD es d (2 ^ (5 - d)), t ∈ rowsD es n := by
  induction n with
  | zero => omega
  | succ n ih =>
    intro t ht
    rw [rowsD]
    by_cases hd : d < n
    · exact List.mem_append_left _ (ih hd t ht)
    · obtain rfl : d = n := by omega
      exact List.mem_append_right _ ht
theorem mem_bookL (es : List Ev) (t : List UInt8) (h : BookT es t) : bs t ∈ bookL es := by
  unfold bookL
  rcases h with ⟨j, hj, rfl⟩ | ⟨d, j, hd, hj, rfl⟩ | rfl
  · exact List.mem_append_left _ (mem_rowsD0 es 6 _ (mem_stL es 64 j hj))
  · exact List.mem_append_left _ (mem_rowsD es 6 d hd _ (mem_rowD es d _ j hj))
  · simp
theorem length_bookL (es : List Ev) : (bookL es).length ≤ 300 := by
  have := length_rowsD es 6
  unfold bookL
  rw [List.length_append]
  simp; omega

set_option maxRecDepth 20000 in
set_option maxHeartbeats 8000000 in
theorem rtexts_any (w : World) (S : Nat → Prop) (ad : Addr) (es : List Ev) (h : RRep w S (.pointer (some ad)) es) (ht : TabOk w) :
    Calls Tryz.prog 59 #[.pointer (some ad)] w fun r w' => ∃ u, r = .returned u ∧ OwnS w' w.heap.size u (bookL es) ∧ Below w.heap.size w w' := by
  have T := rstate_spec w S (.pointer (some ad)) es h
  have hst : ∀ wz, Below w.heap.size w wz → RRep wz S (.pointer (some ad)) es := fun wz hz => h.stay fun k hk => hz.block k (h.lt k hk)
  have hg : GoodE es := by obtain ⟨_, _, _, _, _, _, hg, _⟩ := h; exact hg
  have HHD : Hid (∀ wz, Below w.heap.size w wz → Calls Tryz.prog 26 #[.pointer (some ad)] wz fun r w' => r = .returned (.agg #[.int .i64 (es.length : Int), .int .i64 (logOf es), .int .i64 (mapOf es), .int .i64 (topOf es)]) ∧ Below wz.heap.size wz w') := fun wz hz => rhead_any wz S ad es (hst wz hz) (rstate_spec wz S _ es (hst wz hz)) (ht.kept hz)
  have HSA : Hid (∀ (j : Nat) wz, j < 64 → Below w.heap.size w wz → Calls Tryz.prog 20 #[.pointer (some ad), .int .i64 (j : Int)] wz fun r w' => r = .returned (stV (stF es j)) ∧ Below wz.heap.size wz w') := fun j wz hj hz => T wz (j : Int) hz ⟨by omega, by omega⟩
  have HTX : Hid (∀ (j : Nat) wz, Below w.heap.size w wz → Calls Tryz.prog 81 #[stV (stF es j)] wz fun r w' => r = .returned (.string (bs (stT (stF es j)))) ∧ Below wz.heap.size wz w') := fun j wz hz => rstate_any (stF es j) wz (st64_of es _ hg) (ht.kept hz)
  have HOV : Hid (∀ (d j : Nat), d < 6 → j * 2 ^ d + 2 ^ d ≤ 64 → ∀ wz, Below w.heap.size w wz → Calls Tryz.prog 50 #[.pointer (some ad), .int .i64 (d : Int), .int .i64 ((j * 2 ^ d : Nat) : Int)] wz fun r w' => r = .returned (.int .i64 (mapL (stF es) d j)) ∧ Below wz.heap.size wz w') := fun d j hd hj wz hz => rover_any w ad es T ht hg d (Nat.le_of_lt hd) j wz hj hz
  have h200 := hg.1
  clear T hst hg h ht
  unfold stV at HSA HTX
  go_enter Tryz.func59, Tryz.ntmps59
  go_wp2_with fail
  go_loopw [3, 4, 5] (fun v i _ wr => ∃ k : Nat, k ≤ 64 ∧ i = .int .i64 (k : Int) ∧ Hid (OwnS wr w.heap.size v (stL es k)) ∧ Below w.heap.size w wr) (fun _ i _ _ => 64 - (intOf i).toNat)
  case atStart => exact ⟨0, Nat.zero_le _, rfl, OwnS.nil _ _, Below.refl _ _⟩
  case round =>
    obtain ⟨k, hk, rfl, HO, hbel⟩ := hrel
    by_cases hlt : k < 64
    · obtain ⟨c0, cp0, rfl, _, _, _⟩ := HO.out.form
      have HS1 := hid (HSA.out k wr hlt hbel)
      have HT1 := hid (fun wz => HTX.out k wz)
      have HSL : Hid (stL es (k + 1) = stL es k ++ [bs (stT (stF es k))]) := rfl
      have HKL : Hid ((stL es k).length ≤ 1000000) := by show _ ≤ _; rw [length_stL]; omega
      generalize stF es k = s at *
      generalize bs (stT s) = t at *
      go_wp2_with fail
      refine HS1.out.mono ?_
      rintro e w1 ⟨rfl, hb1⟩
      have hk1 := kept hbel hb1
      go_wp2_with fail
      refine (HT1.out _ hk1).mono ?_
      rintro e w2 ⟨rfl, hb2⟩
      have hk2 := kept hk1 hb2
      have hs2 := hk2.size
      have HO2 := hid ((HO.out.kept hb1).kept hb2)
      go_wp2_with (at_builtin; refine wpList_appS rfl _ _ rfl w.heap.size _ _ t rfl (HO2.out.alloc _) w2.heap.size 1 rfl (cell_alloc_one _ _ _) HKL.out (by simp; omega) ?_)
      intro v' w3 hO3 hb3 _
      have HO3 : Hid (OwnS w3 w.heap.size v' (stL es (k + 1))) := by show OwnS _ _ _ _; rw [HSL.out]; exact hO3
      have hk3 : Below w.heap.size w w3 := (hk2.alloc hs2 _).trans hb3
      obtain ⟨c3, cp3, hv3, _, _, _⟩ := HO3.out.form
      clear hO3 hb3 hb1 hb2
      go_wp2_with fail
      go_roundw
      case rel => exact ⟨k + 1, by omega, by go_num, HO3, hk3⟩
      case measure => simp [intOf]; omega
    · obtain rfl : k = 64 := by omega
      rw [show ((64 : Nat) : Int) = 64 from rfl]
      clear HSA HTX
      obtain ⟨c0, cp0, rfl, _, _, _⟩ := HO.out.form
      have HO1 : Hid (OwnS wr w.heap.size (.slice c0 (stL es 64).length cp0) (rowsD es 0)) := HO
      have HB1 := hid hbel
      clear HO hbel
      generalize (stL es 64).length = n0 at *
      obtain ⟨w1, hw1⟩ : ∃ w1, w1 = wr := ⟨_, rfl⟩
      rw [← hw1] at HO1 HB1 ⊢
      clear hw1
      go_wp2_with fail
      go_loopw [3, 6, 7, 8, 9] (fun v d _ _ _ wr => ∃ e : Nat, e ≤ 6 ∧ d = .int .i64 ((e : Int) + 1) ∧ Hid (OwnS wr w.heap.size v (rowsD es e)) ∧ Below w.heap.size w wr) (fun _ d _ _ _ _ => 7 - (intOf d).toNat)
      case atStart => exact ⟨0, Nat.zero_le _, rfl, HO1, HB1.out⟩
      case round =>
        obtain ⟨e, he, rfl, HO, hbel⟩ := hrel
        clear HO1 HB1
        by_cases hlt : e < 6
        · obtain ⟨c1, cp1, rfl, _, _, _⟩ := HO.out.form
          generalize (rowsD es e).length = n1 at *
          obtain ⟨w2, hw2⟩ : ∃ w2, w2 = wr := ⟨_, rfl⟩
          rw [← hw2] at HO hbel ⊢
          clear hw2
          have HOI : Hid (OwnS w2 w.heap.size (.slice c1 n1 cp1) (rowsD es e ++ rowD es e 0)) := by show OwnS _ _ _ _; rw [rowD, List.append_nil]; exact HO.out
          have HBI := hid hbel
          clear HO hbel
          have i1 : (e : Int) + 1 ≤ 6 := by omega
          have hcm : 2 ^ (5 - e) * (2 ^ e + 2 ^ e) = 64 := by
            rcases (by omega : e = 0 ∨ e = 1 ∨ e = 2 ∨ e = 3 ∨ e = 4 ∨ e = 5) with rfl | rfl | rfl | rfl | rfl | rfl <;> rfl
          have hm1 : 1 ≤ 2 ^ e := Nat.one_le_two_pow
          have hm2 : 2 ^ e ≤ 32 := by
            have : 2 ^ e ≤ 2 ^ 5 := Nat.pow_le_pow_right (by omega) (by omega)
            omega
          have HOV1 : Hid (∀ (j : Nat), j * 2 ^ e + 2 ^ e ≤ 64 → ∀ wz, Below w.heap.size w wz → Calls Tryz.prog 50 #[.pointer (some ad), .int .i64 (e : Int), .int .i64 ((j * 2 ^ e : Nat) : Int)] wz fun r w' => r = .returned (.int .i64 (mapL (stF es) e j)) ∧ Below wz.heap.size wz w') := fun j hj wz hz => HOV.out e j hlt hj wz hz
          have HRL := hid (length_rowsD es e)
          obtain ⟨c, hc⟩ : ∃ c, c = 2 ^ (5 - e) := ⟨_, rfl⟩
          have HCC := hid hc
          have hc32 : c ≤ 32 := by
            have : 2 ^ (5 - e) ≤ 2 ^ 5 := Nat.pow_le_pow_right (by omega) (by omega)
            omega
          rw [← hc] at hcm
          have HCM := hid hcm
          clear hc hcm HOV
          have HPW : Hid (((2 : Int) ^ e) = ((2 ^ e : Nat) : Int)) := by show _ = _; simp
          obtain ⟨m, hm⟩ : ∃ m, m = 2 ^ e := ⟨_, rfl⟩
          rw [← hm] at HOV1 HCM hm1 hm2 HPW
          clear hm
          go_wp2_with fail
          go_loopw [3, 7, 8, 9] (fun v l _ _ wr => ∃ j lo : Nat, j ≤ c ∧ Hid (lo = j * (m + m)) ∧ l = .int .i64 (lo : Int) ∧ Hid (OwnS wr w.heap.size v (rowsD es e ++ rowD es e j)) ∧ Below w.heap.size w wr) (fun _ l _ _ _ => 64 - (intOf l).toNat)
          case atStart => exact ⟨0, 0, Nat.zero_le _, by show _ = _; simp, rfl, HOI, HBI.out⟩
          case round =>
            obtain ⟨j, lo, hj, HLO, rfl, HO, hbel⟩ := hrel
            clear HOI HBI
            obtain ⟨dl, HDL⟩ : ∃ dl, Hid (dl = rowsD es e ++ rowD es e j) := ⟨_, rfl⟩
            rw [← HDL.out] at HO
            obtain ⟨c2, cp2, rfl, _, _, _⟩ := HO.out.form
            by_cases hjc : j < c
            · have hlo : lo + m + m ≤ 64 := by
                have h1 := HLO.out
                have h2 := HCM.out
                have h3 : (j + 1) * (m + m) ≤ c * (m + m) := Nat.mul_le_mul_right _ hjc
                rw [Nat.add_mul, Nat.one_mul, ← h1, h2] at h3
                omega
              have e1 : 2 * j * m = lo := by rw [HLO.out, Nat.mul_add, Nat.mul_comm 2 j, Nat.mul_assoc, Nat.two_mul, Nat.mul_add]
              have HX := hid (HOV1.out (2 * j) (by rw [e1]; omega))
              have HY := hid (HOV1.out (2 * j + 1) (by rw [Nat.add_mul, Nat.one_mul, e1]; omega))
              rw [e1] at HX
              rw [show (2 * j + 1) * m = lo + m by rw [Nat.add_mul, Nat.one_mul, e1]] at HY
              have bx := mapL_bd (stF es) e (2 * j)
              have by' := mapL_bd (stF es) e (2 * j + 1)
              have HRD : Hid (rowD es e (j + 1) = rowD es e j ++ [bs (pairT (mapL (stF es) e (2 * j)) (mapL (stF es) e (2 * j + 1)))]) := rfl
              have HKL : Hid (dl.length ≤ 1000000) := by
                have := HRL.out
                show _ ≤ _
                rw [HDL.out, List.length_append, length_rowD]; omega
              generalize mapL (stF es) e (2 * j) = x at *
              generalize mapL (stF es) e (2 * j + 1) = y at *
              have x1 : x ≤ 65535 := by have := bx.2; omega
              have x0 := bx.1
              have y1 : y ≤ 65535 := by have := by'.2; omega
              have y0 := by'.1
              have s1 : (bs (two x)).size = 2 := size_bs _
              have s2 : (bs (two y)).size = 2 := size_bs _
              have i0 : (lo : Int) < 64 := by omega
              have HWE : Hid (wrap64 ((2 : Int) ^ e) = (m : Int)) := by show _ = _; rw [HPW.out]; unfold wrap64; omega
              have HWE2 : Hid (wrap64 ((2 : Int) ^ (e + 1)) = (m : Int) + (m : Int)) := by show _ = _; rw [Int.pow_succ, HPW.out]; unfold wrap64; omega
              have HWL2 : Hid (wrap64 ((lo : Int) + ((m : Int) + (m : Int))) = ((lo + m + m : Nat) : Int)) := by show _ = _; unfold wrap64; omega
              have HWL : Hid (wrap64 ((lo : Int) + (m : Int)) = ((lo + m : Nat) : Int)) := by show _ = _; unfold wrap64; omega
              have i3 : (e : Int) < 6 := by omega
              clear e1 bx by'
              go_wp2_with fail
              refine (HX.out _ hbel).mono ?_
              rintro ee w3 ⟨rfl, hb3⟩
              have hk3 := kept hbel hb3
              go_wp2_with fail
              rw [HWE.out, HWL.out]
              refine (HY.out _ hk3).mono ?_
              rintro ee w4 ⟨rfl, hb4⟩
              have hk4 := kept hk3 hb4
              go_wp2_with fail
              refine (two_any x _ x0 x1).mono ?_
              rintro ee w5 ⟨rfl, hb5⟩
              go_wp2_with fail
              refine (two_any y _ y0 y1).mono ?_
              rintro ee w6 ⟨rfl, hb6⟩
              have hk36 := kept (kept (kept hb3 hb4) hb5) hb6
              have hk6 := kept hbel hk36
              have hs6 := hk6.size
              have HO6 := hid (HO.out.kept hk36)
              clear hb3 hb4 hb5 hb6 hk3 hk4
              go_wp2_with (at_builtin; refine wpList_appS rfl _ _ rfl w.heap.size _ _ _ rfl (HO6.out.alloc _) w6.heap.size 1 rfl (cell_alloc_one _ _ _) HKL.out (by simp; omega) ?_)
              intro v' w7 hO7 hb7 _
              rw [pair_str x y, HDL.out, List.append_assoc, ← HRD.out] at hO7
              have HO7 := hid hO7
              have hk7 : Below w.heap.size w w7 := (hk6.alloc hs6 _).trans hb7
              obtain ⟨c7, cp7, hv7, _, _, _⟩ := HO7.out.form
              have HLO2 : Hid (lo + m + m = (j + 1) * (m + m)) := by show _ = _; rw [Nat.add_mul, Nat.one_mul, ← HLO.out, Nat.add_assoc]
              clear hO7 hb7 hk36 HO HO6
              go_wp2_with fail
              rw [HWE2.out, HWL2.out]
              go_roundw
              case rel => exact ⟨j + 1, lo + m + m, by omega, HLO2, rfl, HO7, hk7⟩
              case measure => simp [intOf]; omega
            · obtain rfl : j = c := by omega
              have hl64 : lo = 64 := by rw [HLO.out, HCM.out]
              subst hl64
              rw [show ((64 : Nat) : Int) = 64 from rfl]
              have HO7 : Hid (OwnS wr w.heap.size (.slice c2 dl.length cp2) (rowsD es (e + 1))) := by
                show OwnS _ _ _ _
                rw [show rowsD es (e + 1) = rowsD es e ++ rowD es e (2 ^ (5 - e)) from rfl, ← HCC.out, ← HDL.out]
                exact HO.out
              clear HO HDL HLO HCM HCC HPW
              go_wp2_with fail
              exact ⟨⟨e + 1, by omega, by go_num, HO7, hbel⟩, by simp [intOf]; omega⟩
        · obtain rfl : e = 6 := by omega
          rw [show ((6 : Nat) : Int) + 1 = 7 from rfl]
          obtain ⟨dl, HDL⟩ : ∃ dl, Hid (dl = rowsD es 6) := ⟨_, rfl⟩
          rw [← HDL.out] at HO
          have HKL : Hid (dl.length ≤ 1000000) := by
            have := length_rowsD es 6
            show _ ≤ _
            rw [HDL.out]; omega
          have HBL : Hid (dl ++ [bs (headT (es.length : Int) (logOf es) (mapOf es))] = bookL es) := by show _ = _; rw [HDL.out]; rfl
          have HHS := hid (head_str (es.length : Int) (logOf es) (mapOf es))
          have hlb := logOf_bd es
          have hmb : Bd (mapOf es) := mapL_bd _ _ _
          have HH1 := hid (HHD.out wr hbel)
          obtain ⟨c1, cp1, rfl, _, _, _⟩ := HO.out.form
          clear HHD HOV HDL
          generalize logOf es = LG at *
          generalize mapOf es = MP at *
          generalize topOf es = TP at *
          generalize es.length = N at *
          have s0 : (0 : Int) ≤ (N : Int) := by omega
          have s1 : (N : Int) ≤ 65535 := by omega
          have l0 := hlb.1
          have l1 : LG ≤ 65535 := by have := hlb.2; omega
          have m0 := hmb.1
          have m1 : MP ≤ 65535 := by have := hmb.2; omega
          have z1 : (bs (two (N : Int))).size = 2 := size_bs _
          have z2 : (bs (two LG)).size = 2 := size_bs _
          have z3 : (bs (two MP)).size = 2 := size_bs _
          clear hlb hmb h200
          go_wp2_with fail
          refine HH1.out.mono ?_
          rintro ee w3 ⟨rfl, hb3⟩
          have hk3 := kept hbel hb3
          have HO3 := hid (HO.out.kept hb3)
          clear HH1 HO hb3
          go_wp2_with fail
          obtain ⟨G, hG⟩ : ∃ G, G = w3.heap.size := ⟨_, rfl⟩
          rw [← hG]
          have hs3 := hk3.size
          have HB4 : Hid ((w3.alloc (.cells #[.int .i64 (N : Int), .int .i64 LG, .int .i64 MP, .int .i64 TP] 71)).heap[G]? = some (.cells #[.int .i64 (N : Int), .int .i64 LG, .int .i64 MP, .int .i64 TP] 71 (0, 0))) := by show _ = _; rw [hG]; exact heap_alloc_new w3 _
          have hk4 : Below w.heap.size w (w3.alloc (.cells #[.int .i64 (N : Int), .int .i64 LG, .int .i64 MP, .int .i64 TP] 71)) := hk3.alloc hs3 _
          have HO4 := hid (HO3.out.alloc (.cells #[.int .i64 (N : Int), .int .i64 LG, .int .i64 MP, .int .i64 TP] 71))
          have HGG : Hid (∀ k, (Value.slice c1 dl.length cp1).ownBlock = some k → k < G) := fun k hk => by rw [hG]; exact (HO3.out.lt k hk).2
          generalize World.alloc w3 _ = w4 at *
          clear hG hs3 HO3 hk3
          have x0 : w4.cell? ⟨G, 0, none⟩ = some (.int .i64 (N : Int)) := by simp [World.cell?, HB4.out]
          have x1 : w4.cell? ⟨G, 1, none⟩ = some (.int .i64 LG) := by simp [World.cell?, HB4.out]
          have x2 : w4.cell? ⟨G, 2, none⟩ = some (.int .i64 MP) := by simp [World.cell?, HB4.out]
          have hg4 : G < w4.heap.size := lt_of_block HB4.out
          have hne : some G ≠ (Value.slice c1 dl.length cp1).ownBlock := fun h => by have := HGG.out _ h.symm; omega
          go_region_held3 (fun w' => w'.cell? ⟨G, 0, none⟩ = some (.int .i64 (N : Int)) ∧ w'.cell? ⟨G, 1, none⟩ = some (.int .i64 LG) ∧ w'.cell? ⟨G, 2, none⟩ = some (.int .i64 MP)) ((go_split_ands; refine ⟨?_, ?_, ?_⟩ <;> first | exact x0 | exact x1 | exact x2 | exact cell_kept x0 hk5 | exact cell_kept x1 hk5 | exact cell_kept x2 hk5 | exact cell_kept x0 (hk5.alloc hk5.size _) | exact cell_kept x1 (hk5.alloc hk5.size _) | exact cell_kept x2 (hk5.alloc hk5.size _) | exact hgrow.cell (cell_kept x0 (hk5.alloc hk5.size _)) hne | exact hgrow.cell (cell_kept x1 (hk5.alloc hk5.size _)) hne | exact hgrow.cell (cell_kept x2 (hk5.alloc hk5.size _)) hne | exact hgrow.cell (by assumption) hne)) (first | (go_at_call 52; refine (two_any _ _ (by assumption) (by assumption)).mono ?_; rintro ee w5 ⟨rfl, hb5⟩; have hk5 : Below w4.heap.size w4 w5 := (by first | exact kept ((Below.refl _ _).drew) hb5 | exact kept hk5 hb5)) | (refine step_appS (by rfl) _ _ (by rfl) w.heap.size _ _ _ (by rfl) ((HO4.out.kept hk5).alloc _) w5.heap.size 1 (by rfl) (cell_alloc_one _ _ _) HKL.out (by have := (kept hk4 hk5).size; simp; omega) ?_; intro v6 w6 hown6 hb6 hgrow hat))
          rw [HHS.out, HBL.out] at hown6
          have hk6 : Below w.heap.size w w6 := ((kept hk4 hk5).alloc (kept hk4 hk5).size _).trans hb6
          have HO6 := hid hown6
          obtain ⟨c6, cp6, hv6, _, _, _⟩ := HO6.out.form
          go_wp2_with fail
          go_ret
          exact ⟨_, rfl, HO6.out, hk6⟩

end Go.Proofs.YtedblhcehlbbmaaGreatDoor


/-
  THE SCRIPT's SHELF: a book, the document's, what Lie was asked last. Contracts: lenderlaw.pick, none, shelf.lie.
-/
namespace Go.Proofs.YtedblhcehlbbmaaGreatDoor
set_option maxRecDepth 20000
open Go.RowKit

/-- A shelf's cells. -/
def shC (bv rv : Value) (q : Bool) (a : Acc) (x y : ByteArray) : Array Value := #[bv, rv, .bool q, .int .i64 a.loan, .int .i64 a.st.principal, .int .i64 a.st.due, .int .i64 a.st.rate, .int .i64 a.st.day, .int .i64 a.st.spare, .int .i64 a.st.count, .int .i64 a.size, .int .i64 a.log, .int .i64 a.p0, .int .i64 a.p1, .int .i64 a.p2, .int .i64 a.p3, .int .i64 a.p4, .int .i64 a.p5, .string x, .string y]
/-- The block L is a shelf's. -/
def ShB (w : World) (L : Nat) (bv rv : Value) (q : Bool) (a : Acc) (x y : ByteArray) : Prop := w.heap[L]? = some (.cells (shC bv rv q a x y) 50 (0, 0))
theorem ShB.lt {w : World} {L : Nat} {bv rv : Value} {q : Bool} {a : Acc} {x y : ByteArray} (h : ShB w L bv rv q a x y) : L < w.heap.size := lt_of_block h
theorem ShB.of {w w' : World} {L : Nat} {bv rv : Value} {q : Bool} {a : Acc} {x y : ByteArray} (h : ShB w L bv rv q a x y) (e : w'.heap[L]? = w.heap[L]?) : ShB w' L bv rv q a x y := by unfold ShB at *; rw [e]; exact h
theorem ShB.kept {w w' : World} {L : Nat} {bv rv : Value} {q : Bool} {a : Acc} {x y : ByteArray} (h : ShB w L bv rv q a x y) (hb : Below w.heap.size w w') : ShB w' L bv rv q a x y := h.of (hb.block L h.lt)
theorem ShB.cell {w : World} {L : Nat} {bv rv : Value} {q : Bool} {a : Acc} {x y : ByteArray} (h : ShB w L bv rv q a x y) (i : Nat) (v : Value) (hv : (shC bv rv q a x y)[i]? = some v) : w.cell? ⟨L, i, none⟩ = some v := by
  unfold ShB at h; simp [World.cell?, h, hv]
theorem ShB.free {w : World} {L : Nat} {bv rv : Value} {q : Bool} {a : Acc} {x y : ByteArray} (h : ShB w L bv rv q a x y) (i : Nat) : w.frozen? ⟨L, i, none⟩ = false := by
  unfold ShB at h; simp [World.frozen?, h]
/-- The whole of what was asked and answered, written. -/
def putSh (w : World) (L : Nat) (a : Acc) (x y : ByteArray) : World := ((((((((((((((((((w.setCell ⟨L, 2, none⟩ (.bool true)).setCell ⟨L, 3, none⟩ (.int .i64 a.loan)).setCell ⟨L, 4, none⟩ (.int .i64 a.st.principal)).setCell ⟨L, 5, none⟩ (.int .i64 a.st.due)).setCell ⟨L, 6, none⟩ (.int .i64 a.st.rate)).setCell ⟨L, 7, none⟩ (.int .i64 a.st.day)).setCell ⟨L, 8, none⟩ (.int .i64 a.st.spare)).setCell ⟨L, 9, none⟩ (.int .i64 a.st.count)).setCell ⟨L, 10, none⟩ (.int .i64 a.size)).setCell ⟨L, 11, none⟩ (.int .i64 a.log)).setCell ⟨L, 12, none⟩ (.int .i64 a.p0)).setCell ⟨L, 13, none⟩ (.int .i64 a.p1)).setCell ⟨L, 14, none⟩ (.int .i64 a.p2)).setCell ⟨L, 15, none⟩ (.int .i64 a.p3)).setCell ⟨L, 16, none⟩ (.int .i64 a.p4)).setCell ⟨L, 17, none⟩ (.int .i64 a.p5)).setCell ⟨L, 18, none⟩ (.string x)).setCell ⟨L, 19, none⟩ (.string y))
set_option maxHeartbeats 2000000 in
theorem ShB.all {w : World} {L : Nat} {bv rv : Value} {q : Bool} {a0 : Acc} {x0 y0 : ByteArray} (h : ShB w L bv rv q a0 x0 y0) (a : Acc) (x y : ByteArray) : ShB (putSh w L a x y) L bv rv true a x y := by
  unfold ShB shC at h
  have h1 : (w.setCell ⟨L, 2, none⟩ (.bool true)).heap[L]? = some (.cells #[bv, rv, .bool true, .int .i64 a0.loan, .int .i64 a0.st.principal, .int .i64 a0.st.due, .int .i64 a0.st.rate, .int .i64 a0.st.day, .int .i64 a0.st.spare, .int .i64 a0.st.count, .int .i64 a0.size, .int .i64 a0.log, .int .i64 a0.p0, .int .i64 a0.p1, .int .i64 a0.p2, .int .i64 a0.p3, .int .i64 a0.p4, .int .i64 a0.p5, .string x0, .string y0] 50 (0, 0)) := blk_setCell h
  have h2 : ((w.setCell ⟨L, 2, none⟩ (.bool true)).setCell ⟨L, 3, none⟩ (.int .i64 a.loan)).heap[L]? = some (.cells #[bv, rv, .bool true, .int .i64 a.loan, .int .i64 a0.st.principal, .int .i64 a0.st.due, .int .i64 a0.st.rate, .int .i64 a0.st.day, .int .i64 a0.st.spare, .int .i64 a0.st.count, .int .i64 a0.size, .int .i64 a0.log, .int .i64 a0.p0, .int .i64 a0.p1, .int .i64 a0.p2, .int .i64 a0.p3, .int .i64 a0.p4, .int .i64 a0.p5, .string x0, .string y0] 50 (0, 0)) := blk_setCell h1
  have h3 : (((w.setCell ⟨L, 2, none⟩ (.bool true)).setCell ⟨L, 3, none⟩ (.int .i64 a.loan)).setCell ⟨L, 4, none⟩ (.int .i64 a.st.principal)).heap[L]? = some (.cells #[bv, rv, .bool true, .int .i64 a.loan, .int .i64 a.st.principal, .int .i64 a0.st.due, .int .i64 a0.st.rate, .int .i64 a0.st.day, .int .i64 a0.st.spare, .int .i64 a0.st.count, .int .i64 a0.size, .int .i64 a0.log, .int .i64 a0.p0, .int .i64 a0.p1, .int .i64 a0.p2, .int .i64 a0.p3, .int .i64 a0.p4, .int .i64 a0.p5, .string x0, .string y0] 50 (0, 0)) := blk_setCell h2
  have h4 : ((((w.setCell ⟨L, 2, none⟩ (.bool true)).setCell ⟨L, 3, none⟩ (.int .i64 a.loan)).setCell ⟨L, 4, none⟩ (.int .i64 a.st.principal)).setCell ⟨L, 5, none⟩ (.int .i64 a.st.due)).heap[L]? = some (.cells #[bv, rv, .bool true, .int .i64 a.loan, .int .i64 a.st.principal, .int .i64 a.st.due, .int .i64 a0.st.rate, .int .i64 a0.st.day, .int .i64 a0.st.spare, .int .i64 a0.st.count, .int .i64 a0.size, .int .i64 a0.log, .int .i64 a0.p0, .int .i64 a0.p1, .int .i64 a0.p2, .int .i64 a0.p3, .int .i64 a0.p4, .int .i64 a0.p5, .string x0, .string y0] 50 (0, 0)) := blk_setCell h3
  have h5 : (((((w.setCell ⟨L, 2, none⟩ (.bool true)).setCell ⟨L, 3, none⟩ (.int .i64 a.loan)).setCell ⟨L, 4, none⟩ (.int .i64 a.st.principal)).setCell ⟨L, 5, none⟩ (.int .i64 a.st.due)).setCell ⟨L, 6, none⟩ (.int .i64 a.st.rate)).heap[L]? = some (.cells #[bv, rv, .bool true, .int .i64 a.loan, .int .i64 a.st.principal, .int .i64 a.st.due, .int .i64 a.st.rate, .int .i64 a0.st.day, .int .i64 a0.st.spare, .int .i64 a0.st.count, .int .i64 a0.size, .int .i64 a0.log, .int .i64 a0.p0, .int .i64 a0.p1, .int .i64 a0.p2, .int .i64 a0.p3, .int .i64 a0.p4, .int .i64 a0.p5, .string x0, .string y0] 50 (0, 0)) := blk_setCell h4
  have h6 : ((((((w.setCell ⟨L, 2, none⟩ (.bool true)).setCell ⟨L, 3, none⟩ (.int .i64 a.loan)).setCell ⟨L, 4, none⟩ (.int .i64 a.st.principal)).setCell ⟨L, 5, none⟩ (.int .i64 a.st.due)).setCell ⟨L, 6, none⟩ (.int .i64 a.st.rate)).setCell ⟨L, 7, none⟩ (.int .i64 a.st.day)).heap[L]? = some (.cells #[bv, rv, .bool true, .int .i64 a.loan, .int .i64 a.st.principal, .int .i64 a.st.due, .int .i64 a.st.rate, .int .i64 a.st.day, .int .i64 a0.st.spare, .int .i64 a0.st.count, .int .i64 a0.size, .int .i64 a0.log, .int .i64 a0.p0, .int .i64 a0.p1, .int .i64 a0.p2, .int .i64 a0.p3, .int .i64 a0.p4, .int .i64 a0.p5, .string x0, .string y0] 50 (0, 0)) := blk_setCell h5
  have h7 : (((((((w.setCell ⟨L, 2, none⟩ (.bool true)).setCell ⟨L, 3, none⟩ (.int .i64 a.loan)).setCell ⟨L, 4, none⟩ (.int .i64 a.st.principal)).setCell ⟨L, 5, none⟩ (.int .i64 a.st.due)).setCell ⟨L, 6, none⟩ (.int .i64 a.st.rate)).setCell ⟨L, 7, none⟩ (.int .i64 a.st.day)).setCell ⟨L, 8, none⟩ (.int .i64 a.st.spare)).heap[L]? = some (.cells #[bv, rv, .bool true, .int .i64 a.loan, .int .i64 a.st.principal, .int .i64 a.st.due, .int .i64 a.st.rate, .int .i64 a.st.day, .int .i64 a.st.spare, .int .i64 a0.st.count, .int .i64 a0.size, .int .i64 a0.log, .int .i64 a0.p0, .int .i64 a0.p1, .int .i64 a0.p2, .int .i64 a0.p3, .int .i64 a0.p4, .int .i64 a0.p5, .string x0, .string y0] 50 (0, 0)) := blk_setCell h6
  have h8 : ((((((((w.setCell ⟨L, 2, none⟩ (.bool true)).setCell ⟨L, 3, none⟩ (.int .i64 a.loan)).setCell ⟨L, 4, none⟩ (.int .i64 a.st.principal)).setCell ⟨L, 5, none⟩ (.int .i64 a.st.due)).setCell ⟨L, 6, none⟩ (.int .i64 a.st.rate)).setCell ⟨L, 7, none⟩ (.int .i64 a.st.day)).setCell ⟨L, 8, none⟩ (.int .i64 a.st.spare)).setCell ⟨L, 9, none⟩ (.int .i64 a.st.count)).heap[L]? = some (.cells #[bv, rv, .bool true, .int .i64 a.loan, .int .i64 a.st.principal, .int .i64 a.st.due, .int .i64 a.st.rate, .int .i64 a.st.day, .int .i64 a.st.spare, .int .i64 a.st.count, .int .i64 a0.size, .int .i64 a0.log, .int .i64 a0.p0, .int .i64 a0.p1, .int .i64 a0.p2, .int .i64 a0.p3, .int .i64 a0.p4, .int .i64 a0.p5, .string x0, .string y0] 50 (0, 0)) := blk_setCell h7
  have h9 : (((((((((w.setCell ⟨L, 2, none⟩ (.bool true)).setCell ⟨L, 3, none⟩ (.int .i64 a.loan)).setCell ⟨L, 4, none⟩ (.int .i64 a.st.principal)).setCell ⟨L, 5, none⟩ (.int .i64 a.st.due)).setCell ⟨L, 6, none⟩ (.int .i64 a.st.rate)).setCell ⟨L, 7, none⟩ (.int .i64 a.st.day)).setCell ⟨L, 8, none⟩ (.int .i64 a.st.spare)).setCell ⟨L, 9, none⟩ (.int .i64 a.st.count)).setCell ⟨L, 10, none⟩ (.int .i64 a.size)).heap[L]? = some (.cells #[bv, rv, .bool true, .int .i64 a.loan, .int .i64 a.st.principal, .int .i64 a.st.due, .int .i64 a.st.rate, .int .i64 a.st.day, .int .i64 a.st.spare, .int .i64 a.st.count, .int .i64 a.size, .int .i64 a0.log, .int .i64 a0.p0, .int .i64 a0.p1, .int .i64 a0.p2, .int .i64 a0.p3, .int .i64 a0.p4, .int .i64 a0.p5, .string x0, .string y0] 50 (0, 0)) := blk_setCell h8
  have h10 : ((((((((((w.setCell ⟨L, 2, none⟩ (.bool true)).setCell ⟨L, 3, none⟩ (.int .i64 a.loan)).setCell ⟨L, 4, none⟩ (.int .i64 a.st.principal)).setCell ⟨L, 5, none⟩ (.int .i64 a.st.due)).setCell ⟨L, 6, none⟩ (.int .i64 a.st.rate)).setCell ⟨L, 7, none⟩ (.int .i64 a.st.day)).setCell ⟨L, 8, none⟩ (.int .i64 a.st.spare)).setCell ⟨L, 9, none⟩ (.int .i64 a.st.count)).setCell ⟨L, 10, none⟩ (.int .i64 a.size)).setCell ⟨L, 11, none⟩ (.int .i64 a.log)).heap[L]? = some (.cells #[bv, rv, .bool true, .int .i64 a.loan, .int .i64 a.st.principal, .int .i64 a.st.due, .int .i64 a.st.rate, .int .i64 a.st.day, .int .i64 a.st.spare, .int .i64 a.st.count, .int .i64 a.size, .int .i64 a.log, .int .i64 a0.p0, .int .i64 a0.p1, .int .i64 a0.p2, .int .i64 a0.p3, .int .i64 a0.p4, .int .i64 a0.p5, .string x0, .string y0] 50 (0, 0)) := blk_setCell h9
  have h11 : (((((((((((w.setCell ⟨L, 2, none⟩ (.bool true)).setCell ⟨L, 3, none⟩ (.int .i64 a.loan)).setCell ⟨L, 4, none⟩ (.int .i64 a.st.principal)).setCell ⟨L, 5, none⟩ (.int .i64 a.st.due)).setCell ⟨L, 6, none⟩ (.int .i64 a.st.rate)).setCell ⟨L, 7, none⟩ (.int .i64 a.st.day)).setCell ⟨L, 8, none⟩ (.int .i64 a.st.spare)).setCell ⟨L, 9, none⟩ (.int .i64 a.st.count)).setCell ⟨L, 10, none⟩ (.int .i64 a.size)).setCell ⟨L, 11, none⟩ (.int .i64 a.log)).setCell ⟨L, 12, none⟩ (.int .i64 a.p0)).heap[L]? = some (.cells #[bv, rv, .bool true, .int .i64 a.loan, .int .i64 a.st.principal, .int .i64 a.st.due, .int .i64 a.st.rate, .int .i64 a.st.day, .int .i64 a.st.spare, .int .i64 a.st.count, .int .i64 a.size, .int .i64 a.log, .int .i64 a.p0, .int .i64 a0.p1, .int .i64 a0.p2, .int .i64 a0.p3, .int .i64 a0.p4, .int .i64 a0.p5, .string x0, .string y0] 50 (0, 0)) := blk_setCell h10
  have h12 : ((((((((((((w.setCell ⟨L, 2, none⟩ (.bool true)).setCell ⟨L, 3, none⟩ (.int .i64 a.loan)).setCell ⟨L, 4, none⟩ (.int .i64 a.st.principal)).setCell ⟨L, 5, none⟩ (.int .i64 a.st.due)).setCell ⟨L, 6, none⟩ (.int .i64 a.st.rate)).setCell ⟨L, 7, none⟩ (.int .i64 a.st.day)).setCell ⟨L, 8, none⟩ (.int .i64 a.st.spare)).setCell ⟨L, 9, none⟩ (.int .i64 a.st.count)).setCell ⟨L, 10, none⟩ (.int .i64 a.size)).setCell ⟨L, 11, none⟩ (.int .i64 a.log)).setCell ⟨L, 12, none⟩ (.int .i64 a.p0)).setCell ⟨L, 13, none⟩ (.int .i64 a.p1)).heap[L]? = some (.cells #[bv, rv, .bool true, .int .i64 a.loan, .int .i64 a.st.principal, .int .i64 a.st.due, .int .i64 a.st.rate, .int .i64 a.st.day, .int .i64 a.st.spare, .int .i64 a.st.count, .int .i64 a.size, .int .i64 a.log, .int .i64 a.p0, .int .i64 a.p1, .int .i64 a0.p2, .int .i64 a0.p3, .int .i64 a0.p4, .int .i64 a0.p5, .string x0, .string y0] 50 (0, 0)) := blk_setCell h11
  have h13 : (((((((((((((w.setCell ⟨L, 2, none⟩ (.bool true)).setCell ⟨L, 3, none⟩ (.int .i64 a.loan)).setCell ⟨L, 4, none⟩ (.int .i64 a.st.principal)).setCell ⟨L, 5, none⟩ (.int .i64 a.st.due)).setCell ⟨L, 6, none⟩ (.int .i64 a.st.rate)).setCell ⟨L, 7, none⟩ (.int .i64 a.st.day)).setCell ⟨L, 8, none⟩ (.int .i64 a.st.spare)).setCell ⟨L, 9, none⟩ (.int .i64 a.st.count)).setCell ⟨L, 10, none⟩ (.int .i64 a.size)).setCell ⟨L, 11, none⟩ (.int .i64 a.log)).setCell ⟨L, 12, none⟩ (.int .i64 a.p0)).setCell ⟨L, 13, none⟩ (.int .i64 a.p1)).setCell ⟨L, 14, none⟩ (.int .i64 a.p2)).heap[L]? = some (.cells #[bv, rv, .bool true, .int .i64 a.loan, .int .i64 a.st.principal, .int .i64 a.st.due, .int .i64 a.st.rate, .int .i64 a.st.day, .int .i64 a.st.spare, .int .i64 a.st.count, .int .i64 a.size, .int .i64 a.log, .int .i64 a.p0, .int .i64 a.p1, .int .i64 a.p2, .int .i64 a0.p3, .int .i64 a0.p4, .int .i64 a0.p5, .string x0, .string y0] 50 (0, 0)) := blk_setCell h12
  have h14 : ((((((((((((((w.setCell ⟨L, 2, none⟩ (.bool true)).setCell ⟨L, 3, none⟩ (.int .i64 a.loan)).setCell ⟨L, 4, none⟩ (.int .i64 a.st.principal)).setCell ⟨L, 5, none⟩ (.int .i64 a.st.due)).setCell ⟨L, 6, none⟩ (.int .i64 a.st.rate)).setCell ⟨L, 7, none⟩ (.int .i64 a.st.day)).setCell ⟨L, 8, none⟩ (.int .i64 a.st.spare)).setCell ⟨L, 9, none⟩ (.int .i64 a.st.count)).setCell ⟨L, 10, none⟩ (.int .i64 a.size)).setCell ⟨L, 11, none⟩ (.int .i64 a.log)).setCell ⟨L, 12, none⟩ (.int .i64 a.p0)).setCell ⟨L, 13, none⟩ (.int .i64 a.p1)).setCell ⟨L, 14, none⟩ (.int .i64 a.p2)).setCell ⟨L, 15, none⟩ (.int .i64 a.p3)).heap[L]? = some (.cells #[bv, rv, .bool true, .int .i64 a.loan, .int .i64 a.st.principal, .int .i64 a.st.due, .int .i64 a.st.rate, .int .i64 a.st.day, .int .i64 a.st.spare, .int .i64 a.st.count, .int .i64 a.size, .int .i64 a.log, .int .i64 a.p0, .int .i64 a.p1, .int .i64 a.p2, .int .i64 a.p3, .int .i64 a0.p4, .int .i64 a0.p5, .string x0, .string y0] 50 (0, 0)) := blk_setCell h13
  have h15 : (((((((((((((((w.setCell ⟨L, 2, none⟩ (.bool true)).setCell ⟨L, 3, none⟩ (.int .i64 a.loan)).setCell ⟨L, 4, none⟩ (.int .i64 a.st.principal)).setCell ⟨L, 5, none⟩ (.int .i64 a.st.due)).setCell ⟨L, 6, none⟩ (.int .i64 a.st.rate)).setCell ⟨L, 7, none⟩ (.int .i64 a.st.day)).setCell ⟨L, 8, none⟩ (.int .i64 a.st.spare)).setCell ⟨L, 9, none⟩ (.int .i64 a.st.count)).setCell ⟨L, 10, none⟩ (.int .i64 a.size)).setCell ⟨L, 11, none⟩ (.int .i64 a.log)).setCell ⟨L, 12, none⟩ (.int .i64 a.p0)).setCell ⟨L, 13, none⟩ (.int .i64 a.p1)).setCell ⟨L, 14, none⟩ (.int .i64 a.p2)).setCell ⟨L, 15, none⟩ (.int .i64 a.p3)).setCell ⟨L, 16, none⟩ (.int .i64 a.p4)).heap[L]? = some (.cells #[bv, rv, .bool true, .int .i64 a.loan, .int .i64 a.st.principal, .int .i64 a.st.due, .int .i64 a.st.rate, .int .i64 a.st.day, .int .i64 a.st.spare, .int .i64 a.st.count, .int .i64 a.size, .int .i64 a.log, .int .i64 a.p0, .int .i64 a.p1, .int .i64 a.p2, .int .i64 a.p3, .int .i64 a.p4, .int .i64 a0.p5, .string x0, .string y0] 50 (0, 0)) := blk_setCell h14
  have h16 : ((((((((((((((((w.setCell ⟨L, 2, none⟩ (.bool true)).setCell ⟨L, 3, none⟩ (.int .i64 a.loan)).setCell ⟨L, 4, none⟩ (.int .i64 a.st.principal)).setCell ⟨L, 5, none⟩ (.int .i64 a.st.due)).setCell ⟨L, 6, none⟩ (.int .i64 a.st.rate)).setCell ⟨L, 7, none⟩ (.int .i64 a.st.day)).setCell ⟨L, 8, none⟩ (.int .i64 a.st.spare)).setCell ⟨L, 9, none⟩ (.int .i64 a.st.count)).setCell ⟨L, 10, none⟩ (.int .i64 a.size)).setCell ⟨L, 11, none⟩ (.int .i64 a.log)).setCell ⟨L, 12, none⟩ (.int .i64 a.p0)).setCell ⟨L, 13, none⟩ (.int .i64 a.p1)).setCell ⟨L, 14, none⟩ (.int .i64 a.p2)).setCell ⟨L, 15, none⟩ (.int .i64 a.p3)).setCell ⟨L, 16, none⟩ (.int .i64 a.p4)).setCell ⟨L, 17, none⟩ (.int .i64 a.p5)).heap[L]? = some (.cells #[bv, rv, .bool true, .int .i64 a.loan, .int .i64 a.st.principal, .int .i64 a.st.due, .int .i64 a.st.rate, .int .i64 a.st.day, .int .i64 a.st.spare, .int .i64 a.st.count, .int .i64 a.size, .int .i64 a.log, .int .i64 a.p0, .int .i64 a.p1, .int .i64 a.p2, .int .i64 a.p3, .int .i64 a.p4, .int .i64 a.p5, .string x0, .string y0] 50 (0, 0)) := blk_setCell h15
  have h17 : (((((((((((((((((w.setCell ⟨L, 2, none⟩ (.bool true)).setCell ⟨L, 3, none⟩ (.int .i64 a.loan)).setCell ⟨L, 4, none⟩ (.int .i64 a.st.principal)).setCell ⟨L, 5, none⟩ (.int .i64 a.st.due)).setCell ⟨L, 6, none⟩ (.int .i64 a.st.rate)).setCell ⟨L, 7, none⟩ (.int .i64 a.st.day)).setCell ⟨L, 8, none⟩ (.int .i64 a.st.spare)).setCell ⟨L, 9, none⟩ (.int .i64 a.st.count)).setCell ⟨L, 10, none⟩ (.int .i64 a.size)).setCell ⟨L, 11, none⟩ (.int .i64 a.log)).setCell ⟨L, 12, none⟩ (.int .i64 a.p0)).setCell ⟨L, 13, none⟩ (.int .i64 a.p1)).setCell ⟨L, 14, none⟩ (.int .i64 a.p2)).setCell ⟨L, 15, none⟩ (.int .i64 a.p3)).setCell ⟨L, 16, none⟩ (.int .i64 a.p4)).setCell ⟨L, 17, none⟩ (.int .i64 a.p5)).setCell ⟨L, 18, none⟩ (.string x)).heap[L]? = some (.cells #[bv, rv, .bool true, .int .i64 a.loan, .int .i64 a.st.principal, .int .i64 a.st.due, .int .i64 a.st.rate, .int .i64 a.st.day, .int .i64 a.st.spare, .int .i64 a.st.count, .int .i64 a.size, .int .i64 a.log, .int .i64 a.p0, .int .i64 a.p1, .int .i64 a.p2, .int .i64 a.p3, .int .i64 a.p4, .int .i64 a.p5, .string x, .string y0] 50 (0, 0)) := blk_setCell h16
  have h18 : ((((((((((((((((((w.setCell ⟨L, 2, none⟩ (.bool true)).setCell ⟨L, 3, none⟩ (.int .i64 a.loan)).setCell ⟨L, 4, none⟩ (.int .i64 a.st.principal)).setCell ⟨L, 5, none⟩ (.int .i64 a.st.due)).setCell ⟨L, 6, none⟩ (.int .i64 a.st.rate)).setCell ⟨L, 7, none⟩ (.int .i64 a.st.day)).setCell ⟨L, 8, none⟩ (.int .i64 a.st.spare)).setCell ⟨L, 9, none⟩ (.int .i64 a.st.count)).setCell ⟨L, 10, none⟩ (.int .i64 a.size)).setCell ⟨L, 11, none⟩ (.int .i64 a.log)).setCell ⟨L, 12, none⟩ (.int .i64 a.p0)).setCell ⟨L, 13, none⟩ (.int .i64 a.p1)).setCell ⟨L, 14, none⟩ (.int .i64 a.p2)).setCell ⟨L, 15, none⟩ (.int .i64 a.p3)).setCell ⟨L, 16, none⟩ (.int .i64 a.p4)).setCell ⟨L, 17, none⟩ (.int .i64 a.p5)).setCell ⟨L, 18, none⟩ (.string x)).setCell ⟨L, 19, none⟩ (.string y)).heap[L]? = some (.cells #[bv, rv, .bool true, .int .i64 a.loan, .int .i64 a.st.principal, .int .i64 a.st.due, .int .i64 a.st.rate, .int .i64 a.st.day, .int .i64 a.st.spare, .int .i64 a.st.count, .int .i64 a.size, .int .i64 a.log, .int .i64 a.p0, .int .i64 a.p1, .int .i64 a.p2, .int .i64 a.p3, .int .i64 a.p4, .int .i64 a.p5, .string x, .string y] 50 (0, 0)) := blk_setCell h17
  exact h18
theorem putSh_below {B L : Nat} {w0 w : World} {a : Acc} {x y : ByteArray} (h : Below B w0 w) (hM : B ≤ L) : Below B w0 (putSh w L a x y) := ((((((((((((((((((h.setCell hM _).setCell hM _).setCell hM _).setCell hM _).setCell hM _).setCell hM _).setCell hM _).setCell hM _).setCell hM _).setCell hM _).setCell hM _).setCell hM _).setCell hM _).setCell hM _).setCell hM _).setCell hM _).setCell hM _).setCell hM _)
theorem putSh_other (w : World) (L : Nat) (a : Acc) (x y : ByteArray) (k : Nat) (h : k ≠ L) : (putSh w L a x y).heap[k]? = w.heap[k]? := by
  unfold putSh
  rw [Below.heap_setCell _ _ _ _ h, Below.heap_setCell _ _ _ _ h, Below.heap_setCell _ _ _ _ h, Below.heap_setCell _ _ _ _ h, Below.heap_setCell _ _ _ _ h, Below.heap_setCell _ _ _ _ h, Below.heap_setCell _ _ _ _ h, Below.heap_setCell _ _ _ _ h, Below.heap_setCell _ _ _ _ h, Below.heap_setCell _ _ _ _ h, Below.heap_setCell _ _ _ _ h, Below.heap_setCell _ _ _ _ h, Below.heap_setCell _ _ _ _ h, Below.heap_setCell _ _ _ _ h, Below.heap_setCell _ _ _ _ h, Below.heap_setCell _ _ _ _ h, Below.heap_setCell _ _ _ _ h, Below.heap_setCell _ _ _ _ h]
/-- What was answered when it was asked last. -/
def AskOk (es : List Ev) (q : Bool) (a : Acc) (x y : ByteArray) : Prop := q = true → x = bs (lx es a) ∧ y = bs (ly es a)

/-- Which of n things. -/
def pickI (c : Int) (n : Nat) : Nat := (if c < 0 then -(c + 1) else c).toNat % n
theorem pickI_lt (c : Int) (n : Nat) (h : 0 < n) : pickI c n < n := Nat.mod_lt _ h
set_option maxHeartbeats 2000000 in
theorem lpick_any (c : Int) (n : Nat) (w : World) (hc : In64 c) (hn : 0 < n) (hn2 : n ≤ 9223372036854775807) : Calls Tryz.prog 17 #[.int .i64 c, .int .i64 (n : Int)] w fun e w' => e = .returned (.int .i64 ((pickI c n : Nat) : Int)) ∧ w' = w := by
  obtain ⟨c0, c1⟩ := hc
  have hz : ((n : Int) == 0) = false := by simp; omega
  by_cases h : c < 0
  · have HV : Hid (((pickI c n : Nat) : Int) = (-(c + 1)) % (n : Int)) := by
      show _ = _
      unfold pickI
      rw [if_pos h, Int.natCast_emod, Int.toNat_of_nonneg (by omega)]
    have hw : IntKind.i64.wrap (c + 1) = c + 1 := wrap_id _ (by omega) (by omega)
    have hw2 : IntKind.i64.wrap (-(c + 1)) = -(c + 1) := wrap_id _ (by omega) (by omega)
    have h0 : 0 ≤ -(c + 1) := by omega
    go_enter Tryz.func17, Tryz.ntmps17
    go_wp2_with fail
    go_ret
    exact ⟨by rw [HV.out, ← Int.tmod_eq_emod_of_nonneg h0, Int.neg_tmod]; rfl, rfl⟩
  · have HV : Hid (((pickI c n : Nat) : Int) = c % (n : Int)) := by
      show _ = _
      unfold pickI
      rw [if_neg h, Int.natCast_emod, Int.toNat_of_nonneg (by omega)]
    have h0 : 0 ≤ c := by omega
    go_enter Tryz.func17, Tryz.ntmps17
    go_wp2_with fail
    go_ret
    exact ⟨by rw [HV.out]; rfl, rfl⟩

set_option maxHeartbeats 2000000 in
theorem none_calm (w : World) : Calls Tryz.prog 56 #[.string ⟨#[]⟩, .string ⟨#[]⟩, .int .i64 3, .int .i64 3] w fun e w' => e = .returned (.bool true) ∧ w' = w := by
  go_enter Tryz.func56, Tryz.ntmps56
  go_wp2_with fail
  go_ret
  exact ⟨rfl, rfl⟩

end Go.Proofs.YtedblhcehlbbmaaGreatDoor

/-
  lenderkeep.Honest, out of what a book's calls answer.
-/
import Derived.Test.YtedblhcehlbbmabDoorMathOwn
import Derived.Test.YtedblhcehlbbmabDoorSpecBook5
import Derived.Test.YtedblhcehlbbmabDoorWalkPath
import Derived.Test.YtedblhcehlbbmabDoorWalkFurther
import Derived.Test.YtedblhcehlbbmabDoorWalkKept
import Derived.Test.YtedblhcehlbbmabDoorWalkPick
import Derived.WalkKit
import Derived.WalkSpells
import Derived.WalkLawsBesides
import Derived.Deep.RegionHeld3
namespace Go.Proofs.YtedblhcehlbbmabDoor
open Go.RowKit

theorem selE_all (es : List Ev) : selE es (-1) = es := by unfold selE; rw [if_pos (by omega)]
theorem Evs.take {w : World} {a : Option Addr} {es : List Ev} (m : Nat) (h : Evs w a es) : Evs w a (es.take m) := by
  rcases h with rfl | ⟨b, ha, hc⟩
  · exact .inl (by simp)
  · exact .inr ⟨b, ha, fun i hi => by
      have hi' : i < es.length := by rw [List.length_take] at hi; omega
      rw [List.getElem_take]
      exact hc i hi'⟩
/-- The block L is a head's. -/
def BlkH (w : World) (L : Nat) (x0 x1 x2 x3 : Int) : Prop := w.heap[L]? = some (.cells #[.int .i64 x0, .int .i64 x1, .int .i64 x2, .int .i64 x3] 29 (0, 0))
theorem BlkH.new (w : World) (x0 x1 x2 x3 : Int) : BlkH (w.alloc (.cells #[.int .i64 x0, .int .i64 x1, .int .i64 x2, .int .i64 x3] 29)) w.heap.size x0 x1 x2 x3 := heap_alloc_new w _
theorem BlkH.kept {w w' : World} {L : Nat} {x0 x1 x2 x3 : Int} (h : BlkH w L x0 x1 x2 x3) (hb : Below w.heap.size w w') : BlkH w' L x0 x1 x2 x3 := by unfold BlkH at *; rw [hb.block L (lt_of_block h)]; exact h
theorem BlkH.cells {w : World} {L : Nat} {x0 x1 x2 x3 : Int} (h : BlkH w L x0 x1 x2 x3) : w.cell? ⟨L, 0, none⟩ = some (.int .i64 x0) ∧ w.cell? ⟨L, 1, none⟩ = some (.int .i64 x1) ∧ w.cell? ⟨L, 3, none⟩ = some (.int .i64 x3) := by
  unfold BlkH at h
  refine ⟨?_, ?_, ?_⟩ <;> simp [World.cell?, h]
theorem head_num {Rep : World → (Nat → Prop) → Value → List Ev → Prop} {lx ly : List Ev → Acc → List UInt8} {w0 : World} (T : BookSpec5 w0 Rep lx ly) (w : World) (S : Nat → Prop) (v : Value) (es : List Ev) (N : Nat) (LG MP TP : Int) (hw : Below w0.heap.size w0 w) (h : Rep w S v es) (hn : es.length = N) (h1 : logOf es = LG) (h2 : mapOf es = MP) (h3 : topOf es = TP) :
    Calls Tryd.prog 8 #[v] w fun r w' => r = .returned (.agg #[.int .i64 (N : Int), .int .i64 LG, .int .i64 MP, .int .i64 TP]) ∧ Below w.heap.size w w' := by
  subst hn; subst h1; subst h2; subst h3
  exact T.head w S v es hw h

set_option maxRecDepth 20000 in
set_option maxHeartbeats 8000000 in
theorem lawhonest_any {Rep : World → (Nat → Prop) → Value → List Ev → Prop} {lx ly : List Ev → Acc → List UInt8} (n : Nat) (a : Option Addr) (zs : List Int) (cap : Nat) (c d : Int) (w : World) (T : BookSpec5 w Rep lx ly) (hn : zs.length = n) (hz : Ints w a zs) (hr : n * 8 ≤ 140737488351232) (h64 : ∀ z ∈ zs, In64 z) (hc : In64 c) (hd : In64 d) :
    Calls Tryd.prog 3 #[.slice a n cap, .int .i64 c, .int .i64 d] w fun e w' => e = .returned (.bool true) ∧ Below w.heap.size w w' := by
  have HEV := hid (events_any n a zs cap w hn hz hr h64)
  have TC := hid T
  have HC := hid hc
  have HD := hid hd
  clear hn hz h64 T hc hd
  go_enter Tryd.func3, Tryd.ntmps3
  go_wp2_with fail
  refine HEV.out.mono ?_
  rintro e w1 ⟨v1, rfl, hown1, hb1⟩
  have hg := evs_good zs
  have h60 := length_evs zs
  generalize evs zs = es at hown1 hg h60
  obtain ⟨a1, c1, rfl, hlc, hmc, hS1, hlt1⟩ := hown1.form
  have HAD : Hid (a1 = none ∧ c1 = 0 ∨ ∃ g, a1 = some ⟨g, 0, none⟩) := by
    obtain ⟨_, h⟩ := hown1
    rcases h with ⟨h, _⟩ | ⟨g, _, _, h, _⟩
    · rw [Value.slice.injEq] at h; exact .inl ⟨h.1, h.2.2⟩
    · rw [Value.slice.injEq] at h; exact .inr ⟨g, h.1⟩
  obtain ⟨N, hN⟩ : ∃ N, N = es.length := ⟨_, rfl⟩
  rw [← hN] at h60 hlc ⊢
  have HN : Hid (es.length = N) := hN.symm
  have HS1 := hid hS1; have HLT1 := hid hlt1; have HG := hid hg; have HMC := hid hmc
  clear hown1 hS1 hlt1 hg HEV hN hmc
  have HK1 := hid (kept_any TC.out.toBookSpec N a1 es c1 (-1) w1 HN.out HS1.out HLT1.out hb1 HG.out)
  rw [selE_all] at HK1
  go_wp2_with fail
  refine HK1.out.mono ?_
  rintro e w2 ⟨ad1, rfl, hr1, hb2⟩
  have HR1 := hid hr1
  have k2 := kept hb1 hb2
  clear hr1 HK1
  have HPK := hid (pick_any c (N + 1) w2 (by omega) (by omega) HC.out.1 HC.out.2)
  have hm := pickN_lt c (N + 1) (by omega)
  generalize pickN c (N + 1) = m at hm HPK
  rw [show ((N + 1 : Nat) : Int) = (N : Int) + 1 by omega] at HPK
  go_wp2_with fail
  refine HPK.out.mono ?_
  rintro e w2' ⟨rfl, hw2⟩
  subst hw2
  have HGM := hid (HG.out.take m)
  have HLM : Hid ((es.take m).length = m) := by show _ = _; rw [List.length_take, HN.out]; omega
  have HS2 := hid (HS1.out.under hb2 HLT1.out)
  have HLT2 : Hid (∀ b, a1 = some ⟨b, 0, none⟩ → b < w2'.heap.size) := fun b hb => Nat.lt_of_lt_of_le (HLT1.out b hb) hb2.size
  have HK2 := hid (kept_any TC.out.toBookSpec m a1 (es.take m) c1 (-1) w2' HLM.out (HS2.out.take m) HLT2.out k2 HGM.out)
  rw [selE_all] at HK2
  have i1 : (m : Int) ≤ (c1 : Int) := by omega
  have i2 : (0 : Int) ≤ (m : Int) := by omega
  clear HPK HS1 HLT1
  have HKK : Hid (a1 = none → c1 = 0 ∧ N = 0 ∧ m = 0) := fun h => by
    rcases HAD.out with ⟨_, h2⟩ | ⟨g, h2⟩
    · exact ⟨h2, by omega, by omega⟩
    · rw [h2] at h; cases h
  have HAA : Hid (a1 = none ∨ ∃ g, a1 = some ⟨g, 0, none⟩) := by
    rcases HAD.out with ⟨h, _⟩ | h
    · exact .inl h
    · exact .inr h
  clear HAD
  rcases HAA.out with h | ⟨g, h⟩
  · obtain ⟨h1, h2, h3⟩ := HKK.out h
    subst h; subst h1; subst h2; subst h3
    go_wp2_with fail
    refine HK2.out.mono ?_
    rintro e w3 ⟨ad2, rfl, hr2, hb3⟩
    have k3 := kept k2 hb3
    obtain ⟨S1, hr1, _⟩ := TC.out.toBookSpec.keptB HR1.out hb3
    obtain ⟨S2, hr2, _⟩ := hr2
    have HW1 : Hid (∀ wz, Below w3.heap.size w3 wz → Rep wz S1 (.pointer (some ad1)) es) := fun wz hz => TC.out.stay hr1 hz.size (fun j hj => hz.block j (TC.out.lt hr1 j hj))
    have HW2 : Hid (∀ wz, Below w3.heap.size w3 wz → Rep wz S2 (.pointer (some ad2)) (es.take 0)) := fun wz hz => TC.out.stay hr2 hz.size (fun j hj => hz.block j (TC.out.lt hr2 j hj))
    clear hr1 hr2 HR1 HK2 hb3
    obtain ⟨LG, HLG⟩ : ∃ x, Hid (logOf es = x) := ⟨_, rfl⟩
    obtain ⟨MP, HMP⟩ : ∃ x, Hid (mapOf es = x) := ⟨_, rfl⟩
    obtain ⟨TP, HTP⟩ : ∃ x, Hid (topOf es = x) := ⟨_, rfl⟩
    obtain ⟨LG2, HLG2⟩ : ∃ x, Hid (logOf (es.take 0) = x) := ⟨_, rfl⟩
    obtain ⟨MP2, HMP2⟩ : ∃ x, Hid (mapOf (es.take 0) = x) := ⟨_, rfl⟩
    obtain ⟨TP2, HTP2⟩ : ∃ x, Hid (topOf (es.take 0) = x) := ⟨_, rfl⟩
    go_wp2_with fail
    refine (head_num TC.out w3 S1 _ es 0 LG MP TP k3 (HW1.out w3 (Below.refl _ _)) HN.out HLG.out HMP.out HTP.out).mono ?_
    rintro e w4 ⟨rfl, hb4⟩
    go_wp2_with fail
    obtain ⟨L11, hL11⟩ : ∃ L, L = w4.heap.size := ⟨_, rfl⟩
    rw [← hL11]
    generalize hw5 : World.alloc w4 _ = w5
    have hb5 : Below w3.heap.size w3 w5 := kept hb4 (by rw [← hw5]; exact (Below.refl _ _).alloc (Nat.le_refl _) _)
    have HBH : Hid (BlkH w5 L11 (0 : Nat) LG MP TP) := by show BlkH _ _ _ _ _ _; rw [← hw5, hL11]; exact BlkH.new w4 _ _ _ _
    clear hw5 hL11 hb4
    refine (head_num TC.out w5 S2 _ (es.take 0) 0 LG2 MP2 TP2 (kept k3 hb5) (HW2.out w5 hb5) HLM.out HLG2.out HMP2.out HTP2.out).mono ?_
    rintro e w6 ⟨rfl, hb6⟩
    go_wp2_with fail
    obtain ⟨L12, hL12⟩ : ∃ L, L = w6.heap.size := ⟨_, rfl⟩
    rw [← hL12]
    generalize hw7 : World.alloc w6 _ = w7
    have hb7 : Below w5.heap.size w5 w7 := kept hb6 (by rw [← hw7]; exact (Below.refl _ _).alloc (Nat.le_refl _) _)
    have HBG : Hid (BlkH w7 L12 (0 : Nat) LG2 MP2 TP2) := by show BlkH _ _ _ _ _ _; rw [← hw7, hL12]; exact BlkH.new w6 _ _ _ _
    have HBH := hid (HBH.out.kept hb7)
    have hb37 := kept hb5 hb7
    clear hw7 hL12 hb6 hb7 hb5
    refine (pick_any d 64 _ (by omega) (by omega) HD.out.1 HD.out.2).mono ?_
    rintro e w7' ⟨rfl, hw7'⟩
    subst hw7'
    have hq := pickN_lt d 64 (by omega)
    generalize pickN d 64 = q at hq ⊢
    have HAC0 := hid (TC.out.account w7' S1 (.pointer (some ad1)) es (q : Int) (kept k3 hb37) (HW1.out w7' hb37) ⟨by omega, by omega⟩)
    rw [if_pos ⟨by omega, by omega⟩, if_pos ⟨by omega, by omega⟩, Int.toNat_natCast] at HAC0
    have HOK := hid (accOf_ok es q hq HG.out)
    have HA64 := hid (accOf_64 es q hq HG.out)
    rw [HTP.out] at HOK
    generalize accOf es q = ac at HAC0 HOK HA64
    unfold accV at HAC0
    go_wp2_with fail
    refine HAC0.out.mono ?_
    rintro e w8 ⟨rfl, hb8⟩
    have xt := (HBH.out.kept hb8).cells.2.2
    have hL11 : L11 < w8.heap.size := World.block_lt_of_cell? _ _ xt
    go_wp2_with fail
    clear xt hL11
    obtain ⟨L13, hL13⟩ : ∃ L, L = w8.heap.size := ⟨_, rfl⟩
    rw [← hL13]
    generalize hw9 : World.alloc w8 _ = w9
    have hb9 : Below w7'.heap.size w7' w9 := kept hb8 (by rw [← hw9]; exact (Below.refl _ _).alloc (Nat.le_refl _) _)
    have HBH := hid (HBH.out.kept hb9)
    have HBG := hid (HBG.out.kept hb9)
    have hb39 := kept hb37 hb9
    clear hw9 hL13 hb8 hb9 hb37 HAC0
    have HT64 : Hid (In64 TP) := by show In64 _; rw [← HTP.out]; exact bd_64 (topOf_bd es)
    have HAP := hid (TC.out.accepts w9 TP ac (kept k3 hb39) HT64.out HA64.out)
    rw [HOK.out] at HAP
    unfold accV at HAP
    refine HAP.out.mono ?_
    rintro e w10 ⟨rfl, hb10⟩
    have HBH := hid (HBH.out.kept hb10)
    have HBG := hid (HBG.out.kept hb10)
    have hb310 := kept hb39 hb10
    have HLO := hid (TC.out.log w10 S1 (.pointer (some ad1)) es (kept k3 hb310) (HW1.out w10 hb310))
    clear hb39 hb10 HAP HA64 HOK HT64
    go_wp2_with fail
    refine HLO.out.mono ?_
    rintro e w11 ⟨v11, rfl, hO, hb11⟩
    obtain ⟨a11, c11, rfl, hlc11, hmc11, hStr⟩ := hO.form
    rw [entriesB_len, HN.out] at hlc11 ⊢
    have HBH := hid (HBH.out.kept hb11)
    have HBG := hid (HBG.out.kept hb11)
    have k11 := kept (kept k3 hb310) hb11
    have HSTR := hid hStr
    have HMC11 := hid hmc11
    clear hO hStr hb11 hb310 HLO hmc11 HW1 HW2
    obtain ⟨x0, x1, x3⟩ := HBH.out.cells
    obtain ⟨y0, y1, y3⟩ := HBG.out.cells
    go_wp2_with fail
    go_ret
    exact ⟨rfl, k11⟩
  · subst h
    go_wp2_with fail
    refine HK2.out.mono ?_
    rintro e w3 ⟨ad2, rfl, hr2, hb3⟩
    have k3 := kept k2 hb3
    obtain ⟨S1, hr1, _⟩ := TC.out.toBookSpec.keptB HR1.out hb3
    obtain ⟨S2, hr2, _⟩ := hr2
    have HW1 : Hid (∀ wz, Below w3.heap.size w3 wz → Rep wz S1 (.pointer (some ad1)) es) := fun wz hz => TC.out.stay hr1 hz.size (fun j hj => hz.block j (TC.out.lt hr1 j hj))
    have HW2 : Hid (∀ wz, Below w3.heap.size w3 wz → Rep wz S2 (.pointer (some ad2)) (es.take m)) := fun wz hz => TC.out.stay hr2 hz.size (fun j hj => hz.block j (TC.out.lt hr2 j hj))
    clear hr1 hr2 HR1 HK2 hb3
    obtain ⟨LG, HLG⟩ : ∃ x, Hid (logOf es = x) := ⟨_, rfl⟩
    obtain ⟨MP, HMP⟩ : ∃ x, Hid (mapOf es = x) := ⟨_, rfl⟩
    obtain ⟨TP, HTP⟩ : ∃ x, Hid (topOf es = x) := ⟨_, rfl⟩
    obtain ⟨LG2, HLG2⟩ : ∃ x, Hid (logOf (es.take m) = x) := ⟨_, rfl⟩
    obtain ⟨MP2, HMP2⟩ : ∃ x, Hid (mapOf (es.take m) = x) := ⟨_, rfl⟩
    obtain ⟨TP2, HTP2⟩ : ∃ x, Hid (topOf (es.take m) = x) := ⟨_, rfl⟩
    go_wp2_with fail
    refine (head_num TC.out w3 S1 _ es N LG MP TP k3 (HW1.out w3 (Below.refl _ _)) HN.out HLG.out HMP.out HTP.out).mono ?_
    rintro e w4 ⟨rfl, hb4⟩
    go_wp2_with fail
    obtain ⟨L11, hL11⟩ : ∃ L, L = w4.heap.size := ⟨_, rfl⟩
    rw [← hL11]
    generalize hw5 : World.alloc w4 _ = w5
    have hb5 : Below w3.heap.size w3 w5 := kept hb4 (by rw [← hw5]; exact (Below.refl _ _).alloc (Nat.le_refl _) _)
    have HBH : Hid (BlkH w5 L11 (N : Nat) LG MP TP) := by show BlkH _ _ _ _ _ _; rw [← hw5, hL11]; exact BlkH.new w4 _ _ _ _
    clear hw5 hL11 hb4
    refine (head_num TC.out w5 S2 _ (es.take m) m LG2 MP2 TP2 (kept k3 hb5) (HW2.out w5 hb5) HLM.out HLG2.out HMP2.out HTP2.out).mono ?_
    rintro e w6 ⟨rfl, hb6⟩
    go_wp2_with fail
    obtain ⟨L12, hL12⟩ : ∃ L, L = w6.heap.size := ⟨_, rfl⟩
    rw [← hL12]
    generalize hw7 : World.alloc w6 _ = w7
    have hb7 : Below w5.heap.size w5 w7 := kept hb6 (by rw [← hw7]; exact (Below.refl _ _).alloc (Nat.le_refl _) _)
    have HBG : Hid (BlkH w7 L12 (m : Nat) LG2 MP2 TP2) := by show BlkH _ _ _ _ _ _; rw [← hw7, hL12]; exact BlkH.new w6 _ _ _ _
    have HBH := hid (HBH.out.kept hb7)
    have hb37 := kept hb5 hb7
    clear hw7 hL12 hb6 hb7 hb5
    refine (pick_any d 64 _ (by omega) (by omega) HD.out.1 HD.out.2).mono ?_
    rintro e w7' ⟨rfl, hw7'⟩
    subst hw7'
    have hq := pickN_lt d 64 (by omega)
    generalize pickN d 64 = q at hq ⊢
    have HAC0 := hid (TC.out.account w7' S1 (.pointer (some ad1)) es (q : Int) (kept k3 hb37) (HW1.out w7' hb37) ⟨by omega, by omega⟩)
    rw [if_pos ⟨by omega, by omega⟩, if_pos ⟨by omega, by omega⟩, Int.toNat_natCast] at HAC0
    have HOK := hid (accOf_ok es q hq HG.out)
    have HA64 := hid (accOf_64 es q hq HG.out)
    rw [HTP.out] at HOK
    generalize accOf es q = ac at HAC0 HOK HA64
    unfold accV at HAC0
    go_wp2_with fail
    refine HAC0.out.mono ?_
    rintro e w8 ⟨rfl, hb8⟩
    have xt := (HBH.out.kept hb8).cells.2.2
    have hL11 : L11 < w8.heap.size := World.block_lt_of_cell? _ _ xt
    go_wp2_with fail
    clear xt hL11
    obtain ⟨L13, hL13⟩ : ∃ L, L = w8.heap.size := ⟨_, rfl⟩
    rw [← hL13]
    generalize hw9 : World.alloc w8 _ = w9
    have hb9 : Below w7'.heap.size w7' w9 := kept hb8 (by rw [← hw9]; exact (Below.refl _ _).alloc (Nat.le_refl _) _)
    have HBH := hid (HBH.out.kept hb9)
    have HBG := hid (HBG.out.kept hb9)
    have hb39 := kept hb37 hb9
    clear hw9 hL13 hb8 hb9 hb37 HAC0
    have HT64 : Hid (In64 TP) := by show In64 _; rw [← HTP.out]; exact bd_64 (topOf_bd es)
    have HAP := hid (TC.out.accepts w9 TP ac (kept k3 hb39) HT64.out HA64.out)
    rw [HOK.out] at HAP
    unfold accV at HAP
    refine HAP.out.mono ?_
    rintro e w10 ⟨rfl, hb10⟩
    have HBH := hid (HBH.out.kept hb10)
    have HBG := hid (HBG.out.kept hb10)
    have hb310 := kept hb39 hb10
    have HLO := hid (TC.out.log w10 S1 (.pointer (some ad1)) es (kept k3 hb310) (HW1.out w10 hb310))
    clear hb39 hb10 HAP HA64 HOK HT64
    go_wp2_with fail
    refine HLO.out.mono ?_
    rintro e w11 ⟨v11, rfl, hO, hb11⟩
    obtain ⟨a11, c11, rfl, hlc11, hmc11, hStr⟩ := hO.form
    rw [entriesB_len, HN.out] at hlc11 ⊢
    have HBH := hid (HBH.out.kept hb11)
    have HBG := hid (HBG.out.kept hb11)
    have k11 := kept (kept k3 hb310) hb11
    have HSTR := hid hStr
    have HMC11 := hid hmc11
    clear hO hStr hb11 hb310 HLO hmc11 HW1 HW2
    obtain ⟨x0, x1, x3⟩ := HBH.out.cells
    obtain ⟨y0, y1, y3⟩ := HBG.out.cells
    by_cases hN0 : N = 0
    · subst hN0
      obtain rfl : m = 0 := by omega
      go_wp2_with fail
      go_ret
      exact ⟨rfl, k11⟩
    · have t1 : ((N : Int) == 0) = false := by simp; omega
      have hNp : 0 < N := by omega
      clear hN0
      go_wp2_with fail
      refine (pick_any d N _ hNp (by omega) HD.out.1 HD.out.2).mono ?_
      rintro e w11' ⟨rfl, hw11'⟩
      subst hw11'
      have hi := pickN_lt d N hNp
      generalize pickN d N = i at hi ⊢
      have HEL : Hid ((entriesB es).length = N) := by show _ = _; rw [entriesB_len]; exact HN.out
      have HPA := hid (lpath_ok N i a11 (entriesB es) c11 w11' HEL.out HSTR.out (entriesB_long es HG.out) hi hlc11 HMC11.out)
      go_wp2_with fail
      refine HPA.out.mono ?_
      rintro e w12 ⟨v12, rfl, hO12, hb12⟩
      obtain ⟨a12, c12, rfl, hlc12, hmc12, hI12⟩ := hO12.form
      have HST12 := hid (HSTR.out.kept hb12)
      have HBH := hid (HBH.out.kept hb12)
      have HBG := hid (HBG.out.kept hb12)
      have k12 := kept k11 hb12
      obtain ⟨bl, ol, rfl, hcl⟩ := HST12.out.at (by rw [HEL.out]; exact hNp)
      have hil : i < (entriesB es).length := by rw [HEL.out]; exact hi
      have hs := hcl i hil
      have HSX : Hid ((entriesB es)[i]? = some (entriesB es)[i]) := List.getElem?_eq_getElem hil
      generalize (entriesB es)[i] = sx at hs HSX
      have HS40 := entriesB_40 es HG.out sx (List.mem_of_getElem? HSX.out)
      have HWO := hid (within_own6 (entriesB es) N i sx LG HEL.out HSX.out (by omega) (entriesB_40 es HG.out) HLG.out)
      have hpl := length_pathR (lvs (entriesB es)) i
      rw [length_lvs, HEL.out] at hpl
      have HFU : Hid (rootS ((entriesB es).take m) = LG2) := by show _ = _; rw [← entriesB_take]; exact HLG2.out
      generalize pathR (lvs (entriesB es)) i = P at *
      clear hcl hil hO12 HPA
      have HLL : Hid (P.length = P.length) := rfl
      generalize hpe : P.length = pl at hlc12 hpl
      have HPE := hid hpe
      clear hpe
      have HWI := hid (fun wz (hz : Below w12.heap.size w12 wz) => lwithin_in LG N i pl sx a12 P c12 wz (by omega) (by omega) hi HS40 HPE.out (by omega) (hI12.kept hz) hlc12 hmc12)
      rw [HWO.out] at HWI
      have z1 : (0 : Int) ≤ (i : Int) := by omega
      have z2 : (i : Int) < (N : Int) := by omega
      obtain ⟨x0, x1, x3⟩ := HBH.out.cells
      have hLb : L11 < w12.heap.size := World.block_lt_of_cell? _ _ x1
      have hbb : bl < w12.heap.size := World.block_lt_of_cell? _ _ hs
      clear x0 x3 y0 y1 y3
      go_wp2_with fail
      go_region_held3 (fun w' => w'.cell? ⟨L11, 1, none⟩ = some (.int .i64 LG) ∧ w'.cell? ⟨bl, ol + i, none⟩ = some (.string sx) ∧ Below w12.heap.size w12 w') ((go_split_ands; refine ⟨?_, ?_, ?_⟩ <;> first | exact x1 | exact hs | exact (Below.refl _ _).drew | exact cell_kept (by assumption) hb13 | exact kept (by assumption) hb13)) (first | (go_at_call 13; refine (HWI.out _ (by go_split_ands; assumption)).mono ?_; rintro e w13 ⟨rfl, hb13⟩))
      have hbz : Below w12.heap.size w12 w13 := (by assumption : w13.cell? ⟨L11, 1, none⟩ = some (.int .i64 LG) ∧ w13.cell? ⟨bl, ol + i, none⟩ = some (.string sx) ∧ Below w12.heap.size w12 w13).2.2
      have HST13 := hid (HST12.out.kept hbz)
      have HBH := hid (HBH.out.kept hbz)
      have HBG := hid (HBG.out.kept hbz)
      have k13 := kept k12 hbz
      obtain ⟨x0, x1, x3⟩ := HBH.out.cells
      obtain ⟨y0, y1, y3⟩ := HBG.out.cells
      clear x0 x3 y0 y3
      by_cases hm0 : m = 0
      · subst hm0
        have hz0 : LG2 = 0 := by rw [← HFU.out, List.take_zero]; exact rootS_nil
        subst hz0
        go_wp2_with fail
        go_ret
        exact ⟨rfl, k13⟩
      · have t2 : ((m : Int) == 0) = false := by simp; omega
        have hm1 : 1 ≤ m := by omega
        clear hm0
        have HFR := hid (lfurther_ok N m (some ⟨bl, ol, none⟩) (entriesB es) c11 w13 HEL.out HST13.out (entriesB_long es HG.out) hm1 (by omega) hlc11 HMC11.out)
        have HGO := hid (grows_own6 (entriesB es) N m LG LG2 HEL.out hm1 (by omega) (by omega) HLG.out HFU.out)
        have hfl := furS_len (entriesB es) m true
        rw [HEL.out] at hfl
        generalize furS (entriesB es) m true = F at *
        go_wp2_with fail
        refine HFR.out.mono ?_
        rintro e w14 ⟨v14, rfl, hO14, hb14⟩
        obtain ⟨a14, c14, rfl, hlc14, hmc14, hI14⟩ := hO14.form
        have HBH := hid (HBH.out.kept hb14)
        have HBG := hid (HBG.out.kept hb14)
        have k14 := kept k13 hb14
        obtain ⟨u0, u1, u3⟩ := HBH.out.cells
        obtain ⟨t0, t1', t3⟩ := HBG.out.cells
        generalize hfe : F.length = fl at hlc14 hfl ⊢
        have HGR := hid (lgrows_in LG2 LG m N fl a14 F c14 w14 hm1 (by omega) (by omega) hfe (by omega) hI14 hlc14 hmc14)
        rw [HGO.out] at HGR
        clear u0 u3 t0 t3 hO14 HFR hfe hI14
        go_wp2_with fail
        refine HGR.out.mono ?_
        rintro e w15 ⟨rfl, hb15⟩
        go_wp2_with fail
        go_ret
        exact ⟨rfl, kept k14 hb15⟩

end Go.Proofs.YtedblhcehlbbmabDoor

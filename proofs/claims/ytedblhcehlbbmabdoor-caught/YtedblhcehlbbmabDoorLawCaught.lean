/-
  lenderkeep.Caught, out of what a book's calls answer.
-/
import Derived.Test.YtedblhcehlbbmabDoorLawHonest
import Derived.Test.YtedblhcehlbbmabDoorWalkGold
import Derived.Test.YtedblhcehlbbmabDoorOpenAcc
import Derived.WalkKit
import Derived.WalkSpells
import Derived.WalkLawsBesides
import Derived.Deep.QuietTactic
import Derived.BigQuiet
import Derived.Deep.Cut
import Derived.Deep.CutRange
import Derived.Deep.CutBlock
namespace Go.Proofs.YtedblhcehlbbmabDoor
open Go.RowKit

/-- An account's cells. -/
def accK (a : Acc) : Array Value := #[.int .i64 a.loan, .int .i64 a.st.principal, .int .i64 a.st.due, .int .i64 a.st.rate, .int .i64 a.st.day, .int .i64 a.st.spare, .int .i64 a.st.count, .int .i64 a.size, .int .i64 a.log, .int .i64 a.p0, .int .i64 a.p1, .int .i64 a.p2, .int .i64 a.p3, .int .i64 a.p4, .int .i64 a.p5]
/-- The block L is an account's, and free to be written. -/
def BlkK (w : World) (L : Nat) (a : Acc) : Prop := w.heap[L]? = some (.cells (accK a) 35 (0, 0))
theorem BlkK.new (w : World) (a : Acc) : BlkK (w.alloc (.cells (accK a) 35)) w.heap.size a := heap_alloc_new w _
theorem BlkK.of {w w' : World} {L : Nat} {a : Acc} (h : BlkK w L a) (e : w'.heap[L]? = w.heap[L]?) : BlkK w' L a := by unfold BlkK at *; rw [e]; exact h
theorem BlkK.lt {w : World} {L : Nat} {a : Acc} (h : BlkK w L a) : L < w.heap.size := lt_of_block h
theorem BlkK.kept {w w' : World} {L : Nat} {a : Acc} (h : BlkK w L a) (hb : Below w.heap.size w w') : BlkK w' L a := h.of (hb.block L h.lt)
theorem BlkK.cell {w : World} {L : Nat} {a : Acc} (h : BlkK w L a) (i : Nat) (v : Value) (hv : (accK a)[i]? = some v) : w.cell? ⟨L, i, none⟩ = some v := by
  unfold BlkK at h; simp [World.cell?, h, hv]
theorem BlkK.free {w : World} {L : Nat} {a : Acc} (h : BlkK w L a) (i : Nat) : w.frozen? ⟨L, i, none⟩ = false := by
  unfold BlkK at h; simp [World.frozen?, h]
theorem BlkH.of {w w' : World} {L : Nat} {x0 x1 x2 x3 : Int} (h : BlkH w L x0 x1 x2 x3) (e : w'.heap[L]? = w.heap[L]?) : BlkH w' L x0 x1 x2 x3 := by unfold BlkH at *; rw [e]; exact h
theorem BlkH.lt {w : World} {L : Nat} {x0 x1 x2 x3 : Int} (h : BlkH w L x0 x1 x2 x3) : L < w.heap.size := lt_of_block h
/-- The account with another state. -/
def withSt (a : Acc) (s : St) : Acc := ⟨a.loan, s, a.size, a.log, a.p0, a.p1, a.p2, a.p3, a.p4, a.p5⟩
theorem withSt_64 {a : Acc} {s : St} (h : Acc64 a) (hs : St64 s) : Acc64 (withSt a s) := ⟨h.1, hs, h.2.2.1, h.2.2.2.1, h.2.2.2.2⟩
def putS (w : World) (L : Nat) (t : St) : World := (((((w.setCell ⟨L, 1, none⟩ (.int .i64 t.principal)).setCell ⟨L, 2, none⟩ (.int .i64 t.due)).setCell ⟨L, 3, none⟩ (.int .i64 t.rate)).setCell ⟨L, 4, none⟩ (.int .i64 t.day)).setCell ⟨L, 5, none⟩ (.int .i64 t.spare)).setCell ⟨L, 6, none⟩ (.int .i64 t.count)
theorem putS_blk {w : World} {L : Nat} {a : Acc} (h : BlkK w L a) (t : St) : BlkK (putS w L t) L (withSt a t) := by
  unfold BlkK at *
  exact blk_setCell (blk_setCell (blk_setCell (blk_setCell (blk_setCell (blk_setCell h)))))
theorem putS_other (w : World) (L : Nat) (t : St) (k : Nat) (h : k ≠ L) : (putS w L t).heap[k]? = w.heap[k]? := by
  unfold putS
  rw [Below.heap_setCell _ _ _ _ h, Below.heap_setCell _ _ _ _ h, Below.heap_setCell _ _ _ _ h, Below.heap_setCell _ _ _ _ h, Below.heap_setCell _ _ _ _ h, Below.heap_setCell _ _ _ _ h]
theorem putS_below {B : Nat} {a w : World} (h : Below B a w) (L : Nat) (t : St) (hB : B ≤ L) : Below B a (putS w L t) :=
  (((((h.setCell hB _).setCell hB _).setCell hB _).setCell hB _).setCell hB _).setCell hB _
def putA (w : World) (L : Nat) (t : Acc) : World :=
  ((((((((((((((w.setCell ⟨L, 0, none⟩ (.int .i64 t.loan)).setCell ⟨L, 1, none⟩ (.int .i64 t.st.principal)).setCell ⟨L, 2, none⟩ (.int .i64 t.st.due)).setCell ⟨L, 3, none⟩ (.int .i64 t.st.rate)).setCell ⟨L, 4, none⟩ (.int .i64 t.st.day)).setCell ⟨L, 5, none⟩ (.int .i64 t.st.spare)).setCell ⟨L, 6, none⟩ (.int .i64 t.st.count)).setCell ⟨L, 7, none⟩ (.int .i64 t.size)).setCell ⟨L, 8, none⟩ (.int .i64 t.log)).setCell ⟨L, 9, none⟩ (.int .i64 t.p0)).setCell ⟨L, 10, none⟩ (.int .i64 t.p1)).setCell ⟨L, 11, none⟩ (.int .i64 t.p2)).setCell ⟨L, 12, none⟩ (.int .i64 t.p3)).setCell ⟨L, 13, none⟩ (.int .i64 t.p4)).setCell ⟨L, 14, none⟩ (.int .i64 t.p5)
theorem putA_blk {w : World} {L : Nat} {a : Acc} (h : BlkK w L a) (t : Acc) : BlkK (putA w L t) L t := by
  unfold BlkK at *
  refine (blk_setCell (blk_setCell (blk_setCell (blk_setCell (blk_setCell (blk_setCell (blk_setCell (blk_setCell (blk_setCell (blk_setCell (blk_setCell (blk_setCell (blk_setCell (blk_setCell (blk_setCell h))))))))))))))).trans ?_
  simp [accK]
theorem putA_other (w : World) (L : Nat) (t : Acc) (k : Nat) (h : k ≠ L) : (putA w L t).heap[k]? = w.heap[k]? := by
  unfold putA
  rw [Below.heap_setCell _ _ _ _ h, Below.heap_setCell _ _ _ _ h, Below.heap_setCell _ _ _ _ h, Below.heap_setCell _ _ _ _ h, Below.heap_setCell _ _ _ _ h, Below.heap_setCell _ _ _ _ h, Below.heap_setCell _ _ _ _ h, Below.heap_setCell _ _ _ _ h, Below.heap_setCell _ _ _ _ h, Below.heap_setCell _ _ _ _ h, Below.heap_setCell _ _ _ _ h, Below.heap_setCell _ _ _ _ h, Below.heap_setCell _ _ _ _ h, Below.heap_setCell _ _ _ _ h, Below.heap_setCell _ _ _ _ h]
theorem putA_below {B : Nat} {a w : World} (h : Below B a w) (L : Nat) (t : Acc) (hB : B ≤ L) : Below B a (putA w L t) :=
  ((((((((((((((h.setCell hB _).setCell hB _).setCell hB _).setCell hB _).setCell hB _).setCell hB _).setCell hB _).setCell hB _).setCell hB _).setCell hB _).setCell hB _).setCell hB _).setCell hB _).setCell hB _).setCell hB _

theorem sameA_iff (es : List Ev) (a : Acc) (N : Nat) (LG : Int) (s : St) (hn : es.length = N) (hl : logOf es = LG) (hs : stOf es a.loan = s) : sameA es a = true ↔ (a.st.principal = s.principal ∧ a.st.due = s.due ∧ a.st.rate = s.rate ∧ a.st.day = s.day ∧ a.st.spare = s.spare ∧ a.st.count = s.count ∧ a.size = (N : Int) ∧ a.log = LG) := by
  subst hn; subst hl; subst hs
  unfold sameA
  rw [Bool.and_eq_true, Bool.and_eq_true, decide_eq_true_eq, decide_eq_true_eq, decide_eq_true_eq]
  simp only [stI, List.cons.injEq, and_true]
  constructor
  · rintro ⟨⟨h1, h2⟩, h3, h4, h5, h6, h7, h8⟩; exact ⟨h3, h4, h5, h6, h7, h8, h1, h2⟩
  · rintro ⟨h3, h4, h5, h6, h7, h8, h1, h2⟩; exact ⟨⟨h1, h2⟩, h3, h4, h5, h6, h7, h8⟩

set_option maxRecDepth 20000 in
set_option maxHeartbeats 8000000 in
theorem lawcaught_any {Rep : World → (Nat → Prop) → Value → List Ev → Prop} {lx ly : List Ev → Acc → List UInt8} (LO : LieOk lx ly) (n : Nat) (a : Option Addr) (zs : List Int) (cap : Nat) (ac : Acc) (own : Bool) (c : Int) (w : World) (T : BookSpec5 w Rep lx ly) (hn : zs.length = n) (hz : Ints w a zs) (hr : n * 8 ≤ 140737488351232) (h64 : ∀ z ∈ zs, In64 z) (ha : Acc64 ac) (hc : In64 c) :
    Calls Tryd.prog 4 #[.slice a n cap, accV ac, .bool own, .int .i64 c] w fun e w' => e = .returned (.bool true) ∧ Below w.heap.size w w' := by
  have HEV : Hid (∀ w', Below w.heap.size w w' → Calls Tryd.prog 5 #[.slice a n cap] w' fun e w2 => ∃ v, e = .returned v ∧ OwnE w2 w'.heap.size v (evs zs) ∧ Below w'.heap.size w' w2) := fun w' hb => events_any n a zs cap w' hn (hz.kept hb) hr h64
  have TC := hid T
  have HC := hid hc
  have HA := hid ha
  have HLO := hid LO
  clear hn hz h64 T hc ha LO
  obtain ⟨L5, hL5⟩ : ∃ L, L = w.heap.size := ⟨_, rfl⟩
  unfold accV
  go_enter Tryd.func4, Tryd.ntmps4
  go_wp2_with fail
  rw [← hL5]
  generalize hw0 : World.alloc w _ = w0
  have HB5 : Hid (BlkK w0 L5 ac) := by show BlkK _ _ _; rw [← hw0, hL5]; exact BlkK.new w ac
  have hk0 : Below w.heap.size w w0 := by rw [← hw0]; exact (Below.refl _ _).alloc (Nat.le_refl _) _
  have HL5 : Hid (w.heap.size ≤ L5) := by show _ ≤ _; rw [hL5]; exact Nat.le_refl _
  clear hw0 hL5
  refine (HEV.out w0 hk0).mono ?_
  rintro e w1 ⟨v1, rfl, hown1, hb1⟩
  have hg := evs_good zs
  have h60 := length_evs zs
  generalize evs zs = es at hown1 hg h60
  obtain ⟨a1, c1, rfl, hlc, hmc, hS1, hlt1⟩ := hown1.form
  obtain ⟨N, hN⟩ : ∃ N, N = es.length := ⟨_, rfl⟩
  rw [← hN] at h60 hlc ⊢
  have HN : Hid (es.length = N) := hN.symm
  have HG := hid hg
  have k1 := kept hk0 hb1
  have HB5 := hid (HB5.out.kept hb1)
  have HK1 := hid (kept_any TC.out.toBookSpec N a1 es c1 (-1) w1 HN.out hS1 hlt1 k1 HG.out)
  rw [selE_all] at HK1
  clear hown1 hS1 hlt1 hg HEV hN hmc hb1 hk0
  go_wp2_with fail
  refine HK1.out.mono ?_
  rintro e w2 ⟨ad1, rfl, hr1, hb2⟩
  obtain ⟨S1, hr1, hS1⟩ := hr1
  have k2 := kept k1 hb2
  have HS5 : Hid (¬ S1 L5) := fun h => by have := hS1 _ h; have := HB5.out.lt; omega
  have HB5 := hid (HB5.out.kept hb2)
  have HL52 := hid HB5.out.lt
  have HR2 := hid hr1
  have HLT := hid (TC.out.lt hr1)
  clear hr1 HK1 hb2 hS1
  obtain ⟨LG, HLG⟩ : ∃ x, Hid (logOf es = x) := ⟨_, rfl⟩
  obtain ⟨MP, HMP⟩ : ∃ x, Hid (mapOf es = x) := ⟨_, rfl⟩
  obtain ⟨TP, HTP⟩ : ∃ x, Hid (topOf es = x) := ⟨_, rfl⟩
  go_wp2_with fail
  refine (head_num TC.out w2 S1 _ es N LG MP TP k2 HR2.out HN.out HLG.out HMP.out HTP.out).mono ?_
  rintro e w4 ⟨rfl, hb4⟩
  go_wp2_with fail
  obtain ⟨L11, hL11⟩ : ∃ L, L = w4.heap.size := ⟨_, rfl⟩
  rw [← hL11]
  generalize hw5 : World.alloc w4 _ = w5
  have hb5 : Below w2.heap.size w2 w5 := kept hb4 (by rw [← hw5]; exact (Below.refl _ _).alloc (Nat.le_refl _) _)
  have HBH : Hid (BlkH w5 L11 (N : Nat) LG MP TP) := by show BlkH _ _ _ _ _ _; rw [← hw5, hL11]; exact BlkH.new w4 _ _ _ _
  have HB5 := hid (HB5.out.kept hb5)
  have HL11 : Hid (w2.heap.size ≤ L11) := by show _ ≤ _; rw [hL11]; exact hb4.size
  have HBHl := hid HBH.out.lt
  have k5 := kept k2 hb5
  have HR5 : Hid (Rep w5 S1 (.pointer (some ad1)) es) := TC.out.stay HR2.out hb5.size (fun j hj => hb5.block j (HLT.out j hj))
  have HLT5 : Hid (∀ j, S1 j → j < w2.heap.size) := HLT.out
  have h25 := hb5.size
  clear hw5 hL11 hb4 HR2 HLT
  refine (pick_any c 64 _ (by omega) (by omega) HC.out.1 HC.out.2).mono ?_
  rintro e w5' ⟨rfl, hw5'⟩
  subst hw5'
  have hq := pickN_lt c 64 (by omega)
  generalize pickN c 64 = q at hq ⊢
  have HAC0 := hid (TC.out.account w5' S1 (.pointer (some ad1)) es (q : Int) k5 HR5.out ⟨by omega, by omega⟩)
  rw [if_pos ⟨by omega, by omega⟩, if_pos ⟨by omega, by omega⟩, Int.toNat_natCast] at HAC0
  have HOK := hid (accOf_ok es q hq HG.out)
  have HA64 := hid (accOf_64 es q hq HG.out)
  rw [HTP.out] at HOK
  generalize accOf es q = mi at HAC0 HOK HA64
  unfold accV at HAC0
  go_wp2_with fail
  refine HAC0.out.mono ?_
  rintro e w8 ⟨rfl, hb8⟩
  have xt := (HBH.out.kept hb8).cells.2.2
  have hL11 : L11 < w8.heap.size := World.block_lt_of_cell? _ _ xt
  go_wp2_with fail
  clear xt hL11
  obtain ⟨L12, hL12⟩ : ∃ L, L = w8.heap.size := ⟨_, rfl⟩
  rw [← hL12]
  generalize hw9 : World.alloc w8 _ = w9
  have hb9 : Below w5'.heap.size w5' w9 := kept hb8 (by rw [← hw9]; exact (Below.refl _ _).alloc (Nat.le_refl _) _)
  have HBM : Hid (BlkK w9 L12 mi) := by show BlkK _ _ _; rw [← hw9, hL12]; exact BlkK.new w8 mi
  have HBH := hid (HBH.out.kept hb9)
  have HB5 := hid (HB5.out.kept hb9)
  have HL12 : Hid (w5'.heap.size ≤ L12) := by show _ ≤ _; rw [hL12]; exact hb8.size
  have k9 := kept k5 hb9
  have HR9 : Hid (Rep w9 S1 (.pointer (some ad1)) es) := TC.out.stay HR5.out hb9.size (fun j hj => hb9.block j (by have := HLT5.out j hj; omega))
  have HNE : Hid (L12 ≠ L5 ∧ L12 ≠ L11 ∧ L11 ≠ L5 ∧ ¬ S1 L12 ∧ ¬ S1 L11) := by
    have h1 := HL12.out
    have h2 := HL11.out
    have h3 := HL52.out
    exact ⟨by omega, by have := HBHl.out; omega, by omega, fun h => by have := HLT5.out _ h; omega, fun h => by have := HLT5.out _ h; omega⟩
  have HT64 : Hid (In64 TP) := by show In64 _; rw [← HTP.out]; exact bd_64 (topOf_bd es)
  have HAP := hid (TC.out.accepts w9 TP mi k9 HT64.out HA64.out)
  rw [HOK.out] at HAP
  unfold accV at HAP
  clear hw9 hL12 hb8 hb9 HAC0 hb5 h25 HR5
  refine HAP.out.mono ?_
  rintro e w10 ⟨rfl, hb10⟩
  have HBH := hid (HBH.out.kept hb10)
  have HB5 := hid (HB5.out.kept hb10)
  have HBM := hid (HBM.out.kept hb10)
  have k10 := kept k9 hb10
  have HR10 : Hid (Rep w10 S1 (.pointer (some ad1)) es) := TC.out.stay HR9.out hb10.size (fun j hj => hb10.block j (TC.out.lt HR9.out j hj))
  clear HAP HOK hb10 HR9 k9
  cases own
  · skip
    have t3 := HBH.out.cells.2.2
    have e0 : w10.cell? ⟨L5, 0, none⟩ = some (.int .i64 ac.loan) := HB5.out.cell 0 _ rfl
    have e1 : w10.cell? ⟨L5, 1, none⟩ = some (.int .i64 ac.st.principal) := HB5.out.cell 1 _ rfl
    have e2 : w10.cell? ⟨L5, 2, none⟩ = some (.int .i64 ac.st.due) := HB5.out.cell 2 _ rfl
    have e3 : w10.cell? ⟨L5, 3, none⟩ = some (.int .i64 ac.st.rate) := HB5.out.cell 3 _ rfl
    have e4 : w10.cell? ⟨L5, 4, none⟩ = some (.int .i64 ac.st.day) := HB5.out.cell 4 _ rfl
    have e5 : w10.cell? ⟨L5, 5, none⟩ = some (.int .i64 ac.st.spare) := HB5.out.cell 5 _ rfl
    have e6 : w10.cell? ⟨L5, 6, none⟩ = some (.int .i64 ac.st.count) := HB5.out.cell 6 _ rfl
    have e7 : w10.cell? ⟨L5, 7, none⟩ = some (.int .i64 ac.size) := HB5.out.cell 7 _ rfl
    have e8 : w10.cell? ⟨L5, 8, none⟩ = some (.int .i64 ac.log) := HB5.out.cell 8 _ rfl
    have e9 : w10.cell? ⟨L5, 9, none⟩ = some (.int .i64 ac.p0) := HB5.out.cell 9 _ rfl
    have e10 : w10.cell? ⟨L5, 10, none⟩ = some (.int .i64 ac.p1) := HB5.out.cell 10 _ rfl
    have e11 : w10.cell? ⟨L5, 11, none⟩ = some (.int .i64 ac.p2) := HB5.out.cell 11 _ rfl
    have e12 : w10.cell? ⟨L5, 12, none⟩ = some (.int .i64 ac.p3) := HB5.out.cell 12 _ rfl
    have e13 : w10.cell? ⟨L5, 13, none⟩ = some (.int .i64 ac.p4) := HB5.out.cell 13 _ rfl
    have e14 : w10.cell? ⟨L5, 14, none⟩ = some (.int .i64 ac.p5) := HB5.out.cell 14 _ rfl
    have HAP2 := hid (TC.out.accepts w10 TP ac k10 HT64.out HA.out)
    have HLI : Hid (∀ wz, Below w10.heap.size w10 wz → Calls Tryd.prog 16 #[.pointer (some ad1), accV ac] wz fun r w' => r = .returned (.tuple #[.string (if calmB es ac = true then ⟨#[]⟩ else bs (lx es ac)), .string (if calmB es ac = true then ⟨#[]⟩ else bs (ly es ac)), .int .i64 (if calmB es ac = true then 3 else 0)]) ∧ Below wz.heap.size wz w') := fun wz hz =>
      TC.out.lie wz S1 (.pointer (some ad1)) es ac (kept k10 hz) (TC.out.stay HR10.out hz.size (fun j hj => hz.block j (TC.out.lt HR10.out j hj))) HA.out
    unfold accV at HAP2 HLI
    go_wp2_with fail
    refine HAP2.out.mono ?_
    rintro e w11 ⟨rfl, hb11⟩
    have HB5 := hid (HB5.out.kept hb11)
    have HBH := hid (HBH.out.kept hb11)
    have k11 := kept k10 hb11
    clear e0 e1 e2 e3 e4 e5 e6 e7 e8 e9 e10 e11 e12 e13 e14 t3 HAP2
    have e0 : w11.cell? ⟨L5, 0, none⟩ = some (.int .i64 ac.loan) := HB5.out.cell 0 _ rfl
    have e1 : w11.cell? ⟨L5, 1, none⟩ = some (.int .i64 ac.st.principal) := HB5.out.cell 1 _ rfl
    have e2 : w11.cell? ⟨L5, 2, none⟩ = some (.int .i64 ac.st.due) := HB5.out.cell 2 _ rfl
    have e3 : w11.cell? ⟨L5, 3, none⟩ = some (.int .i64 ac.st.rate) := HB5.out.cell 3 _ rfl
    have e4 : w11.cell? ⟨L5, 4, none⟩ = some (.int .i64 ac.st.day) := HB5.out.cell 4 _ rfl
    have e5 : w11.cell? ⟨L5, 5, none⟩ = some (.int .i64 ac.st.spare) := HB5.out.cell 5 _ rfl
    have e6 : w11.cell? ⟨L5, 6, none⟩ = some (.int .i64 ac.st.count) := HB5.out.cell 6 _ rfl
    have e7 : w11.cell? ⟨L5, 7, none⟩ = some (.int .i64 ac.size) := HB5.out.cell 7 _ rfl
    have e8 : w11.cell? ⟨L5, 8, none⟩ = some (.int .i64 ac.log) := HB5.out.cell 8 _ rfl
    have e9 : w11.cell? ⟨L5, 9, none⟩ = some (.int .i64 ac.p0) := HB5.out.cell 9 _ rfl
    have e10 : w11.cell? ⟨L5, 10, none⟩ = some (.int .i64 ac.p1) := HB5.out.cell 10 _ rfl
    have e11 : w11.cell? ⟨L5, 11, none⟩ = some (.int .i64 ac.p2) := HB5.out.cell 11 _ rfl
    have e12 : w11.cell? ⟨L5, 12, none⟩ = some (.int .i64 ac.p3) := HB5.out.cell 12 _ rfl
    have e13 : w11.cell? ⟨L5, 13, none⟩ = some (.int .i64 ac.p4) := HB5.out.cell 13 _ rfl
    have e14 : w11.cell? ⟨L5, 14, none⟩ = some (.int .i64 ac.p5) := HB5.out.cell 14 _ rfl
    cases hok : accB TP ac
    · have HCA : Hid (calmB es ac = true) := by show _ = _; unfold calmB; rw [HTP.out, hok]; rfl
      rw [HCA.out] at HLI
      simp only [if_true] at HLI
      go_wp2_with fail
      refine (HLI.out w11 hb11).mono ?_
      rintro e w12 ⟨rfl, hb12⟩
      go_wp2_with fail
      go_ret
      exact ⟨rfl, kept k11 hb12⟩
    · have HFT := hid (fitsB_true (a := ac) (by unfold accB at hok; rw [Bool.and_eq_true] at hok; exact hok.1))
      have HST : Hid (∀ wz, Below w10.heap.size w10 wz → Calls Tryd.prog 17 #[.pointer (some ad1), .int .i64 ac.loan] wz fun r w' => r = .returned (.tuple #[stV (stOf es ac.loan), .int .i64 0]) ∧ Below wz.heap.size wz w') := fun wz hz => by
        have := TC.out.state wz S1 (.pointer (some ad1)) es ac.loan (kept k10 hz) (TC.out.stay HR10.out hz.size (fun j hj => hz.block j (TC.out.lt HR10.out j hj))) HA.out.1
        rw [if_pos HFT.out.loan, if_pos HFT.out.loan] at this
        exact this
      have HSAM := hid (sameA_iff es ac N LG (stOf es ac.loan) HN.out HLG.out rfl)
      obtain ⟨s, HSS⟩ : ∃ s, Hid (s = stOf es ac.loan) := ⟨_, rfl⟩
      rw [← HSS.out] at HST HSAM
      unfold stV at HST
      cases hsm : sameA es ac
      · have HCA : Hid (calmB es ac = false) := by show _ = _; unfold calmB; rw [HTP.out, hok, hsm]; rfl
        have HNEQ := hid (HLO.out.ne es ac HG.out HA.out HCA.out)
        have HEQ := hid (HLO.out.eq es ac HG.out HA.out HCA.out)
        have HLX := hid (length_accTs ac HA.out _ (HLO.out.acc es ac HG.out HA.out HCA.out))
        have HLY := hid (length_BookT es _ HG.out (HLO.out.book es ac HG.out HA.out HCA.out))
        have HNO : Hid (ac.st.principal = s.principal → ac.st.due = s.due → ac.st.rate = s.rate → ac.st.day = s.day → ac.st.spare = s.spare → ac.st.count = s.count → (ac.size == (N : Int)) = true → (ac.log == LG) = true → False) := fun a1 a2 a3 a4 a5 a6 a7 a8 => by
          have := HSAM.out.2 ⟨a1, a2, a3, a4, a5, a6, eq_of_beq a7, eq_of_beq a8⟩
          rw [hsm] at this
          cases this
        rw [HCA.out] at HLI
        simp only [Bool.false_eq_true, if_false] at HLI
        have HAW := hid (fun wz => gaway_any (bs (lx es ac)) (bs (ly es ac)) wz (by rw [size_bs]; have := HLX.out; unfold maxLen; omega) (by rw [size_bs]; have := HLY.out; unfold maxLen; omega) (fun h => HNEQ.out (bs_inj h)) (by rw [toList_bs, toList_bs]; exact HEQ.out))
        generalize bs (lx es ac) = tx at *
        generalize bs (ly es ac) = ty at *
        clear HNEQ HEQ HLX HLY HSAM hsm hok
        go_wp2_with fail
        refine (HLI.out w11 hb11).mono ?_
        rintro e w12 ⟨rfl, hb12⟩
        have HB5 := hid (HB5.out.kept hb12)
        have HBH := hid (HBH.out.kept hb12)
        have k12 := kept k11 hb12
        clear e0 e1 e2 e3 e4 e5 e6 e7 e8 e9 e10 e11 e12 e13 e14 HLI
        have e0 : w12.cell? ⟨L5, 0, none⟩ = some (.int .i64 ac.loan) := HB5.out.cell 0 _ rfl
        go_wp2_with fail
        refine (HST.out w12 (kept hb11 hb12)).mono ?_
        rintro e w13 ⟨rfl, hb13⟩
        have HB5 := hid (HB5.out.kept hb13)
        have HBH := hid (HBH.out.kept hb13)
        have k13 := kept k12 hb13
        clear e0 HST
        obtain ⟨h0, h1, _⟩ := HBH.out.cells
        have hl5 := HB5.out.lt
        have hl11 := HBH.out.lt
        have e1 : w13.cell? ⟨L5, 1, none⟩ = some (.int .i64 ac.st.principal) := HB5.out.cell 1 _ rfl
        have e2 : w13.cell? ⟨L5, 2, none⟩ = some (.int .i64 ac.st.due) := HB5.out.cell 2 _ rfl
        have e3 : w13.cell? ⟨L5, 3, none⟩ = some (.int .i64 ac.st.rate) := HB5.out.cell 3 _ rfl
        have e4 : w13.cell? ⟨L5, 4, none⟩ = some (.int .i64 ac.st.day) := HB5.out.cell 4 _ rfl
        have e5 : w13.cell? ⟨L5, 5, none⟩ = some (.int .i64 ac.st.spare) := HB5.out.cell 5 _ rfl
        have e6 : w13.cell? ⟨L5, 6, none⟩ = some (.int .i64 ac.st.count) := HB5.out.cell 6 _ rfl
        have e7 : w13.cell? ⟨L5, 7, none⟩ = some (.int .i64 ac.size) := HB5.out.cell 7 _ rfl
        have e8 : w13.cell? ⟨L5, 8, none⟩ = some (.int .i64 ac.log) := HB5.out.cell 8 _ rfl
        go_wp2_with fail
        all_goals first
          | exact (HNO.out (by assumption) (by assumption) (by assumption) (by assumption) (by assumption) (by assumption) (by first | assumption | exact beq_iff_eq.2 (by assumption)) (by first | assumption | exact beq_iff_eq.2 (by assumption))).elim
          | (go_at_call 18
             refine (HAW.out _).mono ?_
             rintro e wz ⟨rfl, rfl⟩
             go_wp2_with fail
             go_ret
             exact ⟨rfl, k13.alloc k13.size _⟩)
      · have HCA : Hid (calmB es ac = true) := by show _ = _; unfold calmB; rw [hsm, Bool.or_true]
        obtain ⟨q1, q2, q3, q4, q5, q6, q7, q8⟩ := HSAM.out.1 hsm
        rw [← q1, ← q2, ← q3, ← q4, ← q5, ← q6] at HST
        have HQ7 := hid q7
        have HQ8 := hid q8
        rw [HCA.out] at HLI
        simp only [if_true] at HLI
        clear HSAM hsm hok q1 q2 q3 q4 q5 q6 q7 q8
        go_wp2_with fail
        refine (HLI.out w11 hb11).mono ?_
        rintro e w12 ⟨rfl, hb12⟩
        have HB5 := hid (HB5.out.kept hb12)
        have HBH := hid (HBH.out.kept hb12)
        have k12 := kept k11 hb12
        clear e0 e1 e2 e3 e4 e5 e6 e7 e8 e9 e10 e11 e12 e13 e14 HLI
        have e0 : w12.cell? ⟨L5, 0, none⟩ = some (.int .i64 ac.loan) := HB5.out.cell 0 _ rfl
        go_wp2_with fail
        refine (HST.out w12 (kept hb11 hb12)).mono ?_
        rintro e w13 ⟨rfl, hb13⟩
        have HB5 := hid (HB5.out.kept hb13)
        have HBH := hid (HBH.out.kept hb13)
        have k13 := kept k12 hb13
        clear e0 HST
        obtain ⟨h0, h1, _⟩ := HBH.out.cells
        rw [← HQ7.out] at h0
        rw [← HQ8.out] at h1
        have hl5 := HB5.out.lt
        have hl11 := HBH.out.lt
        have e1 : w13.cell? ⟨L5, 1, none⟩ = some (.int .i64 ac.st.principal) := HB5.out.cell 1 _ rfl
        have e2 : w13.cell? ⟨L5, 2, none⟩ = some (.int .i64 ac.st.due) := HB5.out.cell 2 _ rfl
        have e3 : w13.cell? ⟨L5, 3, none⟩ = some (.int .i64 ac.st.rate) := HB5.out.cell 3 _ rfl
        have e4 : w13.cell? ⟨L5, 4, none⟩ = some (.int .i64 ac.st.day) := HB5.out.cell 4 _ rfl
        have e5 : w13.cell? ⟨L5, 5, none⟩ = some (.int .i64 ac.st.spare) := HB5.out.cell 5 _ rfl
        have e6 : w13.cell? ⟨L5, 6, none⟩ = some (.int .i64 ac.st.count) := HB5.out.cell 6 _ rfl
        have e7 : w13.cell? ⟨L5, 7, none⟩ = some (.int .i64 ac.size) := HB5.out.cell 7 _ rfl
        have e8 : w13.cell? ⟨L5, 8, none⟩ = some (.int .i64 ac.log) := HB5.out.cell 8 _ rfl
        go_wp2_with fail
        go_ret
        exact ⟨rfl, k13.alloc k13.size _⟩
  · skip
    have m0 : w10.cell? ⟨L12, 0, none⟩ = some (.int .i64 mi.loan) := HBM.out.cell 0 _ rfl
    have m1 : w10.cell? ⟨L12, 1, none⟩ = some (.int .i64 mi.st.principal) := HBM.out.cell 1 _ rfl
    have m2 : w10.cell? ⟨L12, 2, none⟩ = some (.int .i64 mi.st.due) := HBM.out.cell 2 _ rfl
    have m3 : w10.cell? ⟨L12, 3, none⟩ = some (.int .i64 mi.st.rate) := HBM.out.cell 3 _ rfl
    have m4 : w10.cell? ⟨L12, 4, none⟩ = some (.int .i64 mi.st.day) := HBM.out.cell 4 _ rfl
    have m5 : w10.cell? ⟨L12, 5, none⟩ = some (.int .i64 mi.st.spare) := HBM.out.cell 5 _ rfl
    have m6 : w10.cell? ⟨L12, 6, none⟩ = some (.int .i64 mi.st.count) := HBM.out.cell 6 _ rfl
    have m7 : w10.cell? ⟨L12, 7, none⟩ = some (.int .i64 mi.size) := HBM.out.cell 7 _ rfl
    have m8 : w10.cell? ⟨L12, 8, none⟩ = some (.int .i64 mi.log) := HBM.out.cell 8 _ rfl
    have m9 : w10.cell? ⟨L12, 9, none⟩ = some (.int .i64 mi.p0) := HBM.out.cell 9 _ rfl
    have m10 : w10.cell? ⟨L12, 10, none⟩ = some (.int .i64 mi.p1) := HBM.out.cell 10 _ rfl
    have m11 : w10.cell? ⟨L12, 11, none⟩ = some (.int .i64 mi.p2) := HBM.out.cell 11 _ rfl
    have m12 : w10.cell? ⟨L12, 12, none⟩ = some (.int .i64 mi.p3) := HBM.out.cell 12 _ rfl
    have m13 : w10.cell? ⟨L12, 13, none⟩ = some (.int .i64 mi.p4) := HBM.out.cell 13 _ rfl
    have m14 : w10.cell? ⟨L12, 14, none⟩ = some (.int .i64 mi.p5) := HBM.out.cell 14 _ rfl
    have f1 := HBM.out.free 1
    have f2 := HBM.out.free 2
    have f3 := HBM.out.free 3
    have f4 := HBM.out.free 4
    have f5 := HBM.out.free 5
    have f6 := HBM.out.free 6
    have e1 : w10.cell? ⟨L5, 1, none⟩ = some (.int .i64 ac.st.principal) := HB5.out.cell 1 _ rfl
    have e2 : w10.cell? ⟨L5, 2, none⟩ = some (.int .i64 ac.st.due) := HB5.out.cell 2 _ rfl
    have e3 : w10.cell? ⟨L5, 3, none⟩ = some (.int .i64 ac.st.rate) := HB5.out.cell 3 _ rfl
    have e4 : w10.cell? ⟨L5, 4, none⟩ = some (.int .i64 ac.st.day) := HB5.out.cell 4 _ rfl
    have e5 : w10.cell? ⟨L5, 5, none⟩ = some (.int .i64 ac.st.spare) := HB5.out.cell 5 _ rfl
    have e6 : w10.cell? ⟨L5, 6, none⟩ = some (.int .i64 ac.st.count) := HB5.out.cell 6 _ rfl
    go_upto_region 12 with fail
    clear m0 m1 m2 m3 m4 m5 m6 m7 m8 m9 m10 m11 m12 m13 m14 f1 f2 f3 f4 f5 f6 e1 e2 e3 e4 e5 e6
    obtain ⟨y, HY⟩ : ∃ y, Hid (y = withSt mi ac.st) := ⟨_, rfl⟩
    have HY64 : Hid (Acc64 y) := by show Acc64 _; rw [HY.out]; exact withSt_64 HA64.out HA.out.2.1
    change Code.wp _ _ _ _ (putS w10 L12 ac.st)
    obtain ⟨wa, HWA⟩ : ∃ wa, Hid (wa = putS w10 L12 ac.st) := ⟨_, rfl⟩
    rw [← HWA.out]
    have HBMa : Hid (BlkK wa L12 y) := by show BlkK _ _ _; rw [HWA.out, HY.out]; exact putS_blk HBM.out ac.st
    have HB5a : Hid (BlkK wa L5 ac) := by show BlkK _ _ _; rw [HWA.out]; exact HB5.out.of (putS_other _ _ _ _ (Ne.symm HNE.out.1))
    have HBHa : Hid (BlkH wa L11 (N : Nat) LG MP TP) := by show BlkH _ _ _ _ _ _; rw [HWA.out]; exact HBH.out.of (putS_other _ _ _ _ (Ne.symm HNE.out.2.1))
    have HRa : Hid (Rep wa S1 (.pointer (some ad1)) es) := by
      show Rep _ _ _ _
      rw [HWA.out]
      exact TC.out.stay HR10.out (putS_below (Below.refl 0 w10) L12 ac.st (Nat.zero_le _)).size (fun k hk => putS_other _ _ _ _ (fun h => HNE.out.2.2.2.1 (h ▸ hk)))
    have ka : Below w.heap.size w wa := by
      rw [HWA.out]
      exact putS_below k10 L12 ac.st (by have := HL12.out; have := k5.size; omega)
    clear HWA HBM HB5 HBH HR10 k10
    have m0 : wa.cell? ⟨L12, 0, none⟩ = some (.int .i64 y.loan) := HBMa.out.cell 0 _ rfl
    have m1 : wa.cell? ⟨L12, 1, none⟩ = some (.int .i64 y.st.principal) := HBMa.out.cell 1 _ rfl
    have m2 : wa.cell? ⟨L12, 2, none⟩ = some (.int .i64 y.st.due) := HBMa.out.cell 2 _ rfl
    have m3 : wa.cell? ⟨L12, 3, none⟩ = some (.int .i64 y.st.rate) := HBMa.out.cell 3 _ rfl
    have m4 : wa.cell? ⟨L12, 4, none⟩ = some (.int .i64 y.st.day) := HBMa.out.cell 4 _ rfl
    have m5 : wa.cell? ⟨L12, 5, none⟩ = some (.int .i64 y.st.spare) := HBMa.out.cell 5 _ rfl
    have m6 : wa.cell? ⟨L12, 6, none⟩ = some (.int .i64 y.st.count) := HBMa.out.cell 6 _ rfl
    have m7 : wa.cell? ⟨L12, 7, none⟩ = some (.int .i64 y.size) := HBMa.out.cell 7 _ rfl
    have m8 : wa.cell? ⟨L12, 8, none⟩ = some (.int .i64 y.log) := HBMa.out.cell 8 _ rfl
    have m9 : wa.cell? ⟨L12, 9, none⟩ = some (.int .i64 y.p0) := HBMa.out.cell 9 _ rfl
    have m10 : wa.cell? ⟨L12, 10, none⟩ = some (.int .i64 y.p1) := HBMa.out.cell 10 _ rfl
    have m11 : wa.cell? ⟨L12, 11, none⟩ = some (.int .i64 y.p2) := HBMa.out.cell 11 _ rfl
    have m12 : wa.cell? ⟨L12, 12, none⟩ = some (.int .i64 y.p3) := HBMa.out.cell 12 _ rfl
    have m13 : wa.cell? ⟨L12, 13, none⟩ = some (.int .i64 y.p4) := HBMa.out.cell 13 _ rfl
    have m14 : wa.cell? ⟨L12, 14, none⟩ = some (.int .i64 y.p5) := HBMa.out.cell 14 _ rfl
    have e0 : wa.cell? ⟨L5, 0, none⟩ = some (.int .i64 ac.loan) := HB5a.out.cell 0 _ rfl
    have e1 : wa.cell? ⟨L5, 1, none⟩ = some (.int .i64 ac.st.principal) := HB5a.out.cell 1 _ rfl
    have e2 : wa.cell? ⟨L5, 2, none⟩ = some (.int .i64 ac.st.due) := HB5a.out.cell 2 _ rfl
    have e3 : wa.cell? ⟨L5, 3, none⟩ = some (.int .i64 ac.st.rate) := HB5a.out.cell 3 _ rfl
    have e4 : wa.cell? ⟨L5, 4, none⟩ = some (.int .i64 ac.st.day) := HB5a.out.cell 4 _ rfl
    have e5 : wa.cell? ⟨L5, 5, none⟩ = some (.int .i64 ac.st.spare) := HB5a.out.cell 5 _ rfl
    have e6 : wa.cell? ⟨L5, 6, none⟩ = some (.int .i64 ac.st.count) := HB5a.out.cell 6 _ rfl
    have e7 : wa.cell? ⟨L5, 7, none⟩ = some (.int .i64 ac.size) := HB5a.out.cell 7 _ rfl
    have e8 : wa.cell? ⟨L5, 8, none⟩ = some (.int .i64 ac.log) := HB5a.out.cell 8 _ rfl
    have e9 : wa.cell? ⟨L5, 9, none⟩ = some (.int .i64 ac.p0) := HB5a.out.cell 9 _ rfl
    have e10 : wa.cell? ⟨L5, 10, none⟩ = some (.int .i64 ac.p1) := HB5a.out.cell 10 _ rfl
    have e11 : wa.cell? ⟨L5, 11, none⟩ = some (.int .i64 ac.p2) := HB5a.out.cell 11 _ rfl
    have e12 : wa.cell? ⟨L5, 12, none⟩ = some (.int .i64 ac.p3) := HB5a.out.cell 12 _ rfl
    have e13 : wa.cell? ⟨L5, 13, none⟩ = some (.int .i64 ac.p4) := HB5a.out.cell 13 _ rfl
    have e14 : wa.cell? ⟨L5, 14, none⟩ = some (.int .i64 ac.p5) := HB5a.out.cell 14 _ rfl
    have f0 := HB5a.out.free 0
    have f1 := HB5a.out.free 1
    have f2 := HB5a.out.free 2
    have f3 := HB5a.out.free 3
    have f4 := HB5a.out.free 4
    have f5 := HB5a.out.free 5
    have f6 := HB5a.out.free 6
    have f7 := HB5a.out.free 7
    have f8 := HB5a.out.free 8
    have f9 := HB5a.out.free 9
    have f10 := HB5a.out.free 10
    have f11 := HB5a.out.free 11
    have f12 := HB5a.out.free 12
    have f13 := HB5a.out.free 13
    have f14 := HB5a.out.free 14
    go_upto_region 13 with fail
    clear m0 m1 m2 m3 m4 m5 m6 m7 m8 m9 m10 m11 m12 m13 m14 f0 f1 f2 f3 f4 f5 f6 f7 f8 f9 f10 f11 f12 f13 f14 e0 e1 e2 e3 e4 e5 e6 e7 e8 e9 e10 e11 e12 e13 e14
    change Code.wp _ _ _ _ (putA wa L5 y)
    obtain ⟨wb, HWB⟩ : ∃ wb, Hid (wb = putA wa L5 y) := ⟨_, rfl⟩
    rw [← HWB.out]
    have HB5 : Hid (BlkK wb L5 y) := by show BlkK _ _ _; rw [HWB.out]; exact putA_blk HB5a.out y
    have HBH : Hid (BlkH wb L11 (N : Nat) LG MP TP) := by show BlkH _ _ _ _ _ _; rw [HWB.out]; exact HBHa.out.of (putA_other _ _ _ _ HNE.out.2.2.1)
    have HRb : Hid (Rep wb S1 (.pointer (some ad1)) es) := by
      show Rep _ _ _ _
      rw [HWB.out]
      exact TC.out.stay HRa.out (putA_below (Below.refl 0 wa) L5 y (Nat.zero_le _)).size (fun k hk => putA_other _ _ _ _ (fun h => HS5.out (h ▸ hk)))
    have kb : Below w.heap.size w wb := by
      rw [HWB.out]
      exact putA_below ka L5 y HL5.out
    clear HWB HBMa HB5a HBHa HRa ka
    have t3 := HBH.out.cells.2.2
    have e0 : wb.cell? ⟨L5, 0, none⟩ = some (.int .i64 y.loan) := HB5.out.cell 0 _ rfl
    have e1 : wb.cell? ⟨L5, 1, none⟩ = some (.int .i64 y.st.principal) := HB5.out.cell 1 _ rfl
    have e2 : wb.cell? ⟨L5, 2, none⟩ = some (.int .i64 y.st.due) := HB5.out.cell 2 _ rfl
    have e3 : wb.cell? ⟨L5, 3, none⟩ = some (.int .i64 y.st.rate) := HB5.out.cell 3 _ rfl
    have e4 : wb.cell? ⟨L5, 4, none⟩ = some (.int .i64 y.st.day) := HB5.out.cell 4 _ rfl
    have e5 : wb.cell? ⟨L5, 5, none⟩ = some (.int .i64 y.st.spare) := HB5.out.cell 5 _ rfl
    have e6 : wb.cell? ⟨L5, 6, none⟩ = some (.int .i64 y.st.count) := HB5.out.cell 6 _ rfl
    have e7 : wb.cell? ⟨L5, 7, none⟩ = some (.int .i64 y.size) := HB5.out.cell 7 _ rfl
    have e8 : wb.cell? ⟨L5, 8, none⟩ = some (.int .i64 y.log) := HB5.out.cell 8 _ rfl
    have e9 : wb.cell? ⟨L5, 9, none⟩ = some (.int .i64 y.p0) := HB5.out.cell 9 _ rfl
    have e10 : wb.cell? ⟨L5, 10, none⟩ = some (.int .i64 y.p1) := HB5.out.cell 10 _ rfl
    have e11 : wb.cell? ⟨L5, 11, none⟩ = some (.int .i64 y.p2) := HB5.out.cell 11 _ rfl
    have e12 : wb.cell? ⟨L5, 12, none⟩ = some (.int .i64 y.p3) := HB5.out.cell 12 _ rfl
    have e13 : wb.cell? ⟨L5, 13, none⟩ = some (.int .i64 y.p4) := HB5.out.cell 13 _ rfl
    have e14 : wb.cell? ⟨L5, 14, none⟩ = some (.int .i64 y.p5) := HB5.out.cell 14 _ rfl
    have HAP2 := hid (TC.out.accepts wb TP y kb HT64.out HY64.out)
    have HLI : Hid (∀ wz, Below wb.heap.size wb wz → Calls Tryd.prog 16 #[.pointer (some ad1), accV y] wz fun r w' => r = .returned (.tuple #[.string (if calmB es y = true then ⟨#[]⟩ else bs (lx es y)), .string (if calmB es y = true then ⟨#[]⟩ else bs (ly es y)), .int .i64 (if calmB es y = true then 3 else 0)]) ∧ Below wz.heap.size wz w') := fun wz hz =>
      TC.out.lie wz S1 (.pointer (some ad1)) es y (kept kb hz) (TC.out.stay HRb.out hz.size (fun j hj => hz.block j (TC.out.lt HRb.out j hj))) HY64.out
    unfold accV at HAP2 HLI
    go_wp2_with fail
    refine HAP2.out.mono ?_
    rintro e w11 ⟨rfl, hb11⟩
    have HB5 := hid (HB5.out.kept hb11)
    have HBH := hid (HBH.out.kept hb11)
    have k11 := kept kb hb11
    clear e0 e1 e2 e3 e4 e5 e6 e7 e8 e9 e10 e11 e12 e13 e14 t3 HAP2
    have e0 : w11.cell? ⟨L5, 0, none⟩ = some (.int .i64 y.loan) := HB5.out.cell 0 _ rfl
    have e1 : w11.cell? ⟨L5, 1, none⟩ = some (.int .i64 y.st.principal) := HB5.out.cell 1 _ rfl
    have e2 : w11.cell? ⟨L5, 2, none⟩ = some (.int .i64 y.st.due) := HB5.out.cell 2 _ rfl
    have e3 : w11.cell? ⟨L5, 3, none⟩ = some (.int .i64 y.st.rate) := HB5.out.cell 3 _ rfl
    have e4 : w11.cell? ⟨L5, 4, none⟩ = some (.int .i64 y.st.day) := HB5.out.cell 4 _ rfl
    have e5 : w11.cell? ⟨L5, 5, none⟩ = some (.int .i64 y.st.spare) := HB5.out.cell 5 _ rfl
    have e6 : w11.cell? ⟨L5, 6, none⟩ = some (.int .i64 y.st.count) := HB5.out.cell 6 _ rfl
    have e7 : w11.cell? ⟨L5, 7, none⟩ = some (.int .i64 y.size) := HB5.out.cell 7 _ rfl
    have e8 : w11.cell? ⟨L5, 8, none⟩ = some (.int .i64 y.log) := HB5.out.cell 8 _ rfl
    have e9 : w11.cell? ⟨L5, 9, none⟩ = some (.int .i64 y.p0) := HB5.out.cell 9 _ rfl
    have e10 : w11.cell? ⟨L5, 10, none⟩ = some (.int .i64 y.p1) := HB5.out.cell 10 _ rfl
    have e11 : w11.cell? ⟨L5, 11, none⟩ = some (.int .i64 y.p2) := HB5.out.cell 11 _ rfl
    have e12 : w11.cell? ⟨L5, 12, none⟩ = some (.int .i64 y.p3) := HB5.out.cell 12 _ rfl
    have e13 : w11.cell? ⟨L5, 13, none⟩ = some (.int .i64 y.p4) := HB5.out.cell 13 _ rfl
    have e14 : w11.cell? ⟨L5, 14, none⟩ = some (.int .i64 y.p5) := HB5.out.cell 14 _ rfl
    cases hok : accB TP y
    · have HCA : Hid (calmB es y = true) := by show _ = _; unfold calmB; rw [HTP.out, hok]; rfl
      rw [HCA.out] at HLI
      simp only [if_true] at HLI
      go_wp2_with fail
      refine (HLI.out w11 hb11).mono ?_
      rintro e w12 ⟨rfl, hb12⟩
      go_wp2_with fail
      go_ret
      exact ⟨rfl, kept k11 hb12⟩
    · have HFT := hid (fitsB_true (a := y) (by unfold accB at hok; rw [Bool.and_eq_true] at hok; exact hok.1))
      have HST : Hid (∀ wz, Below wb.heap.size wb wz → Calls Tryd.prog 17 #[.pointer (some ad1), .int .i64 y.loan] wz fun r w' => r = .returned (.tuple #[stV (stOf es y.loan), .int .i64 0]) ∧ Below wz.heap.size wz w') := fun wz hz => by
        have := TC.out.state wz S1 (.pointer (some ad1)) es y.loan (kept kb hz) (TC.out.stay HRb.out hz.size (fun j hj => hz.block j (TC.out.lt HRb.out j hj))) HY64.out.1
        rw [if_pos HFT.out.loan, if_pos HFT.out.loan] at this
        exact this
      have HSAM := hid (sameA_iff es y N LG (stOf es y.loan) HN.out HLG.out rfl)
      obtain ⟨s, HSS⟩ : ∃ s, Hid (s = stOf es y.loan) := ⟨_, rfl⟩
      rw [← HSS.out] at HST HSAM
      unfold stV at HST
      cases hsm : sameA es y
      · have HCA : Hid (calmB es y = false) := by show _ = _; unfold calmB; rw [HTP.out, hok, hsm]; rfl
        have HNEQ := hid (HLO.out.ne es y HG.out HY64.out HCA.out)
        have HEQ := hid (HLO.out.eq es y HG.out HY64.out HCA.out)
        have HLX := hid (length_accTs y HY64.out _ (HLO.out.acc es y HG.out HY64.out HCA.out))
        have HLY := hid (length_BookT es _ HG.out (HLO.out.book es y HG.out HY64.out HCA.out))
        have HNO : Hid (y.st.principal = s.principal → y.st.due = s.due → y.st.rate = s.rate → y.st.day = s.day → y.st.spare = s.spare → y.st.count = s.count → (y.size == (N : Int)) = true → (y.log == LG) = true → False) := fun a1 a2 a3 a4 a5 a6 a7 a8 => by
          have := HSAM.out.2 ⟨a1, a2, a3, a4, a5, a6, eq_of_beq a7, eq_of_beq a8⟩
          rw [hsm] at this
          cases this
        rw [HCA.out] at HLI
        simp only [Bool.false_eq_true, if_false] at HLI
        have HAW := hid (fun wz => gaway_any (bs (lx es y)) (bs (ly es y)) wz (by rw [size_bs]; have := HLX.out; unfold maxLen; omega) (by rw [size_bs]; have := HLY.out; unfold maxLen; omega) (fun h => HNEQ.out (bs_inj h)) (by rw [toList_bs, toList_bs]; exact HEQ.out))
        generalize bs (lx es y) = tx at *
        generalize bs (ly es y) = ty at *
        clear HNEQ HEQ HLX HLY HSAM hsm hok
        go_wp2_with fail
        refine (HLI.out w11 hb11).mono ?_
        rintro e w12 ⟨rfl, hb12⟩
        have HB5 := hid (HB5.out.kept hb12)
        have HBH := hid (HBH.out.kept hb12)
        have k12 := kept k11 hb12
        clear e0 e1 e2 e3 e4 e5 e6 e7 e8 e9 e10 e11 e12 e13 e14 HLI
        have e0 : w12.cell? ⟨L5, 0, none⟩ = some (.int .i64 y.loan) := HB5.out.cell 0 _ rfl
        go_wp2_with fail
        refine (HST.out w12 (kept hb11 hb12)).mono ?_
        rintro e w13 ⟨rfl, hb13⟩
        have HB5 := hid (HB5.out.kept hb13)
        have HBH := hid (HBH.out.kept hb13)
        have k13 := kept k12 hb13
        clear e0 HST
        obtain ⟨h0, h1, _⟩ := HBH.out.cells
        have hl5 := HB5.out.lt
        have hl11 := HBH.out.lt
        have e1 : w13.cell? ⟨L5, 1, none⟩ = some (.int .i64 y.st.principal) := HB5.out.cell 1 _ rfl
        have e2 : w13.cell? ⟨L5, 2, none⟩ = some (.int .i64 y.st.due) := HB5.out.cell 2 _ rfl
        have e3 : w13.cell? ⟨L5, 3, none⟩ = some (.int .i64 y.st.rate) := HB5.out.cell 3 _ rfl
        have e4 : w13.cell? ⟨L5, 4, none⟩ = some (.int .i64 y.st.day) := HB5.out.cell 4 _ rfl
        have e5 : w13.cell? ⟨L5, 5, none⟩ = some (.int .i64 y.st.spare) := HB5.out.cell 5 _ rfl
        have e6 : w13.cell? ⟨L5, 6, none⟩ = some (.int .i64 y.st.count) := HB5.out.cell 6 _ rfl
        have e7 : w13.cell? ⟨L5, 7, none⟩ = some (.int .i64 y.size) := HB5.out.cell 7 _ rfl
        have e8 : w13.cell? ⟨L5, 8, none⟩ = some (.int .i64 y.log) := HB5.out.cell 8 _ rfl
        go_wp2_with fail
        all_goals first
          | exact (HNO.out (by assumption) (by assumption) (by assumption) (by assumption) (by assumption) (by assumption) (by first | assumption | exact beq_iff_eq.2 (by assumption)) (by first | assumption | exact beq_iff_eq.2 (by assumption))).elim
          | (go_at_call 18
             refine (HAW.out _).mono ?_
             rintro e wz ⟨rfl, rfl⟩
             go_wp2_with fail
             go_ret
             exact ⟨rfl, k13.alloc k13.size _⟩)
      · have HCA : Hid (calmB es y = true) := by show _ = _; unfold calmB; rw [hsm, Bool.or_true]
        obtain ⟨q1, q2, q3, q4, q5, q6, q7, q8⟩ := HSAM.out.1 hsm
        rw [← q1, ← q2, ← q3, ← q4, ← q5, ← q6] at HST
        have HQ7 := hid q7
        have HQ8 := hid q8
        rw [HCA.out] at HLI
        simp only [if_true] at HLI
        clear HSAM hsm hok q1 q2 q3 q4 q5 q6 q7 q8
        go_wp2_with fail
        refine (HLI.out w11 hb11).mono ?_
        rintro e w12 ⟨rfl, hb12⟩
        have HB5 := hid (HB5.out.kept hb12)
        have HBH := hid (HBH.out.kept hb12)
        have k12 := kept k11 hb12
        clear e0 e1 e2 e3 e4 e5 e6 e7 e8 e9 e10 e11 e12 e13 e14 HLI
        have e0 : w12.cell? ⟨L5, 0, none⟩ = some (.int .i64 y.loan) := HB5.out.cell 0 _ rfl
        go_wp2_with fail
        refine (HST.out w12 (kept hb11 hb12)).mono ?_
        rintro e w13 ⟨rfl, hb13⟩
        have HB5 := hid (HB5.out.kept hb13)
        have HBH := hid (HBH.out.kept hb13)
        have k13 := kept k12 hb13
        clear e0 HST
        obtain ⟨h0, h1, _⟩ := HBH.out.cells
        rw [← HQ7.out] at h0
        rw [← HQ8.out] at h1
        have hl5 := HB5.out.lt
        have hl11 := HBH.out.lt
        have e1 : w13.cell? ⟨L5, 1, none⟩ = some (.int .i64 y.st.principal) := HB5.out.cell 1 _ rfl
        have e2 : w13.cell? ⟨L5, 2, none⟩ = some (.int .i64 y.st.due) := HB5.out.cell 2 _ rfl
        have e3 : w13.cell? ⟨L5, 3, none⟩ = some (.int .i64 y.st.rate) := HB5.out.cell 3 _ rfl
        have e4 : w13.cell? ⟨L5, 4, none⟩ = some (.int .i64 y.st.day) := HB5.out.cell 4 _ rfl
        have e5 : w13.cell? ⟨L5, 5, none⟩ = some (.int .i64 y.st.spare) := HB5.out.cell 5 _ rfl
        have e6 : w13.cell? ⟨L5, 6, none⟩ = some (.int .i64 y.st.count) := HB5.out.cell 6 _ rfl
        have e7 : w13.cell? ⟨L5, 7, none⟩ = some (.int .i64 y.size) := HB5.out.cell 7 _ rfl
        have e8 : w13.cell? ⟨L5, 8, none⟩ = some (.int .i64 y.log) := HB5.out.cell 8 _ rfl
        go_wp2_with fail
        go_ret
        exact ⟨rfl, k13.alloc k13.size _⟩

end Go.Proofs.YtedblhcehlbbmabDoor

import Derived.Test.YtedblhcehlbbmaaGreatDoorWalkTurns
import Derived.Test.YtedblhcehlbbmaaGreatDoorJWalkHand
import Derived.WalkKit
import Derived.WalkSpells
import Derived.WalkLawsBesides
import Derived.Deep.QuietTactic
import Derived.BigQuiet
import Derived.Deep.RegionHeld3
import Derived.Deep.DrawnRows
/-
  CONTRACTS: lenderref.Further.
-/
namespace Go.Proofs.YtedblhcehlbbmaaGreatDoor
set_option maxRecDepth 20000
open Go.RowKit

theorem lvs_part (ss : List ByteArray) (lo hi : Nat) : part (lvs ss) lo hi = lvs (part ss lo hi) := by unfold part; rw [lvs_take, lvs_drop]
/-- The root of the part for which a turn stands. -/
def rootT (ss : List ByteArray) (t : Turn) : Int := rootS (part ss t.lo t.hi)
theorem Strs.part {w : World} {b off : Nat} {ss : List ByteArray} (h : ∀ i (h : i < ss.length), w.cell? ⟨b, off + i, none⟩ = some (.string ss[i])) (lo hi : Nat) : Strs w (some ⟨b, off + lo, none⟩) (Go.Proofs.YtedblhcehlbbmaaGreatDoor.part ss lo hi) :=
  .inr ⟨b, off + lo, rfl, fun i hi => by
    unfold Go.Proofs.YtedblhcehlbbmaaGreatDoor.part at hi ⊢
    rw [List.getElem_take, List.getElem_drop, Nat.add_assoc]; exact h (lo + i) (by rw [List.length_take, List.length_drop] at hi; omega)⟩
theorem mem_part {α : Type} {l : List α} {lo hi : Nat} {x : α} (h : x ∈ part l lo hi) : x ∈ l := List.mem_of_mem_drop (List.mem_of_mem_take h)
/-- The answer, as far as the turns from r on are done. -/
def furTo (ss : List ByteArray) (base : List Int) (ts : List Turn) (r : Nat) : List Int := base ++ ((ts.drop r).map (rootT ss)).reverse
theorem furTo_step (ss : List ByteArray) (base : List Int) (ts : List Turn) (r : Nat) (h : r < ts.length) : furTo ss base ts r = furTo ss base ts (r + 1) ++ [rootT ss ts[r]] := by
  unfold furTo; rw [List.drop_eq_getElem_cons h, List.map_cons, List.reverse_cons, List.append_assoc]
theorem furTo_len (ss : List ByteArray) (base : List Int) (ts : List Turn) (r : Nat) : (furTo ss base ts r).length ≤ base.length + ts.length := by
  unfold furTo; simp
theorem furTo_end (ss : List ByteArray) (base : List Int) (ts : List Turn) : furTo ss base ts ts.length = base := by unfold furTo; simp
theorem furTo_all (ss : List ByteArray) (m : Nat) (h1 : 1 ≤ m) (h2 : m ≤ ss.length) :
    furS ss m true = furTo ss (if (turnR m 0 ss.length true).2.1 = true then [] else [rootS (part ss (turnR m 0 ss.length true).2.2 m)]) (turnR m 0 ss.length true).1 0 := by
  unfold furS
  rw [furR_all _ _ h1 (by rw [length_lvs]; exact h2), length_lvs]
  unfold furTo furT
  congr 1
  · rw [lvs_part]; rfl
  · rw [List.drop_zero]; congr 1
    apply List.map_congr_left
    intro t _
    rw [lvs_part]; rfl

set_option maxHeartbeats 2000000 in
theorem rfurther_any (n m : Nat) (a : Option Addr) (ss : List ByteArray) (cap : Nat) (w : World) (hn : ss.length = n) (h1 : 1 ≤ m) (h2 : m ≤ n) (hs : Strs w a ss) (h200 : n ≤ 200) (h40 : ∀ s ∈ ss, s.size ≤ 40) (hcap : n ≤ cap) :
    Calls Tryz.prog 39 #[.slice a n cap, .int .i64 (m : Int)] w fun e w' => ∃ v, e = .returned v ∧ Own w' w.heap.size v (furS ss m true) ∧ Below w.heap.size w w' := by
  obtain ⟨b, off, rfl, hc⟩ := hs.at (by omega)
  have HC := hid hc
  have HA := hid (furTo_all ss m h1 (by omega))
  have hin := turnR_in n m 0 n true (by omega) (by omega) h2
  have HT := hid (turns_any m n w h1 h2 h200)
  rw [hn] at HA
  have HN := hid hn
  clear hn hs hc
  generalize turnR m 0 n true = r at HA hin HT
  obtain ⟨ts, whole, lo⟩ := r
  simp only at HA hin HT
  obtain ⟨hin, htl, hlo⟩ := hin
  have HIN := hid hin
  clear hin
  have HRT : Hid (∀ w2 : World, Below w.heap.size w w2 → Calls Tryz.prog 41 #[.slice (some ⟨b, off + lo, none⟩) (m - lo) (cap - lo)] w2 fun e w' => e = .returned (.int .i64 (rootS (part ss lo m))) ∧ Below w2.heap.size w2 w') := fun w2 hb2 =>
    rroot_any (m - lo) _ (part ss lo m) (cap - lo) w2 (length_part ss lo m (by have := HN.out; omega)) ((Strs.part HC.out lo m).kept hb2) (by omega) (fun s hs => h40 s (mem_part hs))
  have i1 : (lo : Int) ≤ (m : Int) := by omega
  have i2 : (m : Int) ≤ (cap : Int) := by omega
  go_enter Tryz.func39, Tryz.ntmps39
  go_wp2_with fail
  refine HT.out.mono ?_
  rintro e w1 ⟨v, rfl, hown, hb1⟩
  obtain ⟨at1, cap1, rfl, hc1, hm1, hi1⟩ := hown.form
  have HI1 := hid hi1
  clear hown hi1 HT
  have hsz1 := hb1.size
  cases whole
  case' true =>
    simp only [if_true] at HA
    obtain ⟨base, hbase⟩ : ∃ base : List Int, base = [] := ⟨_, rfl⟩
    rw [← hbase] at HA
    have HB : Hid (base.length ≤ 1) := by show _ ≤ _; rw [hbase]; simp
    go_wp2_with fail
    have HO : Hid (Own w1 w1.heap.size (.slice none 0 0) base) := by show Own _ _ _ _; rw [hbase]; exact Own.nil _ _
    have hb2 := Below.refl w1.heap.size w1
    clear hbase
  case' false =>
    simp only [Bool.false_eq_true, if_false] at HA
    obtain ⟨base, hbase⟩ : ∃ base : List Int, base = [rootS (part ss lo m)] := ⟨_, rfl⟩
    rw [← hbase] at HA
    have HB : Hid (base.length ≤ 1) := by show _ ≤ _; rw [hbase]; simp
    have HBE := hid hbase
    clear hbase
    go_wp2_with fail
    refine (HRT.out w1 hb1).mono ?_
    rintro e w2 ⟨rfl, hb2⟩
    have hsz2 := hb2.size
    have hown2 := Own.nil w2 w1.heap.size
    go_wp2_with (at_builtin; refine wpList_app rfl _ _ rfl w1.heap.size _ _ (rootS (part ss lo m)) rfl (hown2.alloc _) w2.heap.size 1 rfl (cell_alloc_one _ _ _) (by simp) (by simp; omega) ?_)
    intro v3 w3 hown3 hb3
    have hb4 : Below w1.heap.size w1 w3 := (hb2.alloc hsz2 _).trans hb3
    rw [← HBE.out] at hown3
    have HO := hid hown3
    clear hown2 hown3 hb3 hb2 HBE hsz2
    rename Below w1.heap.size w1 w3 => hb2
    go_wp2_with fail
  all_goals
    go_loopw [8, 10] (fun out i wr => ∃ r : Nat, r ≤ ts.length ∧ i = .int .i64 ((r : Int) - 1) ∧ Hid (Own wr w1.heap.size out (furTo ss base ts r)) ∧ Below w1.heap.size w1 wr) (fun _ i _ => (intOf i + 1).toNat)
    case atStart => exact ⟨ts.length, Nat.le_refl _, rfl, by rw [furTo_end]; exact HO, hb2⟩
    case round =>
      obtain ⟨r, hr, rfl, HOWN, hbel⟩ := hrel
      have hszr := hbel.size
      by_cases hr0 : r = 0
      · subst hr0
        go_wp2_with fail
        go_ret
        exact ⟨_, rfl, by rw [HA.out]; exact HOWN.out.mono hsz1, kept hb1 hbel⟩
      · obtain ⟨j, rfl⟩ : ∃ j, r = j + 1 := ⟨r - 1, by omega⟩
        obtain ⟨bt, rfl, hct⟩ := (HI1.out.kept hbel).at (by omega)
        obtain ⟨_, hcl, hch⟩ := hct j (by omega)
        have hjt := HIN.out ts[j] (List.getElem_mem _)
        have HS := hid (furTo_step ss base ts j (by omega))
        have HL := hid (furTo_len ss base ts (j + 1))
        have hrt : rootT ss ts[j] = rootS (part ss ts[j].lo ts[j].hi) := rfl
        rw [hrt] at HS
        clear hrt hct
        generalize ts[j].lo = tl at hcl hjt HS
        generalize ts[j].hi = th at hch hjt HS
        have HW := hid (fun (w2 : World) (hb2 : Below w.heap.size w w2) =>
          rroot_any (th - tl) _ (part ss tl th) (cap - tl) w2 (length_part ss tl th (by have := HN.out; omega)) ((Strs.part HC.out tl th).kept hb2) (by omega) (fun s hs => h40 s (mem_part hs)))
        have i3 : (tl : Int) ≤ (th : Int) := by omega
        have i4 : (th : Int) ≤ (cap : Int) := by omega
        have hkw := kept hb1 hbel
        rw [show (((j + 1 : Nat) : Int) - 1) = (j : Int) from by omega]
        have i5 : (0 : Int) ≤ (j : Int) := by omega
        have i6 : (j : Int) < (ts.length : Int) := by omega
        have i7 : ¬ cap = tl := by omega
        go_wp2_with fail
        go_region_held3 (fun w' => w'.cell? ⟨bt, j * 3 + 1, none⟩ = some (.int .i64 (tl : Int)) ∧ w'.cell? ⟨bt, j * 3 + 2, none⟩ = some (.int .i64 (th : Int)) ∧ Below wr.heap.size wr w') ((go_split_ands; refine ⟨?_, ?_, ?_⟩ <;> first | exact hcl | exact hch | exact (Below.refl _ _).drew | exact cell_kept (by assumption) hb5 | exact kept (by assumption) hb5)) (first | (go_at_call 41; (try rw [if_neg i7]); refine (HW.out _ (by go_split_ands; exact kept hkw (by assumption))).mono ?_; rintro e w5 ⟨rfl, hb5⟩))
        have hb6 : Below wr.heap.size wr w5 := kept ((Below.refl _ _).drew) hb5
        have hown5 := HOWN.out.kept hb6
        have hsz5 := hb6.size
        have hln := hid (show (furTo ss base ts (j + 1)).length ≤ 1000000 by have := HL.out; have := HB.out; omega)
        clear hb5
        go_wp2_with (at_builtin; refine wpList_app rfl _ _ rfl w1.heap.size _ _ (rootS (part ss tl th)) rfl (hown5.alloc _) w5.heap.size 1 rfl (cell_alloc_one _ _ _) hln.out (by simp; omega) ?_)
        intro v7 w7 hown7 hb7
        have hbel7 : Below w1.heap.size w1 w7 := (((hbel.trans (hb6.mono hszr)).alloc (by omega) _).trans hb7)
        rw [← HS.out] at hown7
        have HOWN7 := hid hown7
        clear hown5 hown7 hb7 hcl hch
        go_wp2_with fail
        go_roundw
        case rel => exact ⟨j, by omega, rfl, HOWN7, hbel7⟩
        case measure => simp [intOf]

end Go.Proofs.YtedblhcehlbbmaaGreatDoor

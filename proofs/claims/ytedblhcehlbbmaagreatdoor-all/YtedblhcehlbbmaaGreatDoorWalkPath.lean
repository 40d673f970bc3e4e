import Derived.Test.YtedblhcehlbbmaaGreatDoorJWalkHand
import Derived.WalkKit
import Derived.WalkSpells
import Derived.WalkLawsBesides
/-
  CONTRACTS: logs.Path (it calls itself), lender.Path; lenderref.Path; lenderlaw.path.
-/
namespace Go.Proofs.YtedblhcehlbbmaaGreatDoor
set_option maxRecDepth 20000
open Go.RowKit

theorem path_len (ss : List ByteArray) (i : Nat) : (pathR (lvs ss) i).length ≤ ss.length := by
  have := length_pathR (lvs ss) i
  rw [length_lvs] at this; omega
theorem pathS_lt (ss : List ByteArray) (k i : Nat) (h : IsCut ss.length k) (hi : i < k) : pathR (lvs ss) i = pathR (lvs (ss.take k)) i ++ [rootS (ss.drop k)] := by
  rw [path_cut _ _ _ _ (length_lvs ss) h (by have := h.2.1; omega), if_pos hi, lvs_take]; unfold rootS; rw [lvs_drop]
theorem pathS_ge (ss : List ByteArray) (k i : Nat) (h : IsCut ss.length k) (hi : k ≤ i) (hn : i < ss.length) : pathR (lvs ss) i = pathR (lvs (ss.drop k)) (i - k) ++ [rootS (ss.take k)] := by
  rw [path_cut _ _ _ _ (length_lvs ss) h hn, if_neg (by omega), lvs_drop]; unfold rootS; rw [lvs_take]

set_option maxHeartbeats 1000000 in
theorem path_any (m : Nat) : ∀ (n i : Nat) (a : Option Addr) (ss : List ByteArray) (cap : Nat) (w : World), ss.length = n → n ≤ m → i < n → Strs w a ss → n ≤ 200 → (∀ s ∈ ss, s.size ≤ 40) → n ≤ cap → cap ≤ maxLen →
    Calls Tryz.prog 63 #[.slice a n cap, .int .i64 (i : Int)] w fun e w' => ∃ v, e = .returned v ∧ Own w' w.heap.size v (pathR (lvs ss) i) ∧ Below w.heap.size w w' := by
  induction m with
  | zero => intro n i a ss cap w hn hm hi; omega
  | succ m ih =>
    intro n i a ss cap w hn hm hi hs h200 h40 hcap hmax
    have IH := hid ih
    clear ih
    unfold maxLen at hmax
    by_cases h1 : n = 1
    · subst h1
      have HP : Hid (pathR (lvs ss) i = []) := pathR_short _ _ (by rw [length_lvs]; omega)
      clear hs hn
      go_enter Tryz.func63, Tryz.ntmps63
      go_wp2_with fail
      go_ret
      exact ⟨_, rfl, by rw [HP.out]; exact Own.nil _ _, Below.refl _ _⟩
    · obtain ⟨b, off, rfl, hc⟩ := hs.at (by omega)
      have HC := hid hc
      have HN : Hid (ss.length = n) := hn
      have hn1 : (1 : Int) < (n : Int) := by omega
      have hn2 : 1 < n := by omega
      have hpl := hid (path_len ss i)
      clear hn hc hs
      go_enter Tryz.func63, Tryz.ntmps63
      go_wp2_with fail
      refine (cut_any n _ hn2 (by omega)).mono ?_
      rintro e w1 ⟨k, rfl, hk, rfl⟩
      have hk1 := hk.2.1
      have hk2 := hk.pos.1
      have hk3 := hk.2.2
      by_cases hik : i < k
      · have HP := hid (pathS_lt ss k i (by rw [HN.out]; exact hk) hik)
        go_wp2_with fail
        refine (IH.out k i _ (ss.take k) cap _ (by rw [List.length_take]; have := HN.out; omega) (by omega) hik (Strs.take HC.out k) (by omega) (fun s hs => h40 s (List.mem_of_mem_take hs)) (by omega) (by unfold maxLen; omega)).mono ?_
        rintro e w2 ⟨v, rfl, hown, hb2⟩
        have HOWN := hid hown
        clear hown
        go_wp2_with fail
        refine (root_any (n - k) (n - k) _ (ss.drop k) (cap - k) _ (by rw [List.length_drop]; have := HN.out; omega) (by omega) ((Strs.drop HC.out k).kept hb2) (by omega) (fun s hs => h40 s (List.mem_of_mem_drop hs)) (by omega) (by unfold maxLen; omega)).mono ?_
        rintro e w3 ⟨rfl, hb3⟩
        have hown3 := HOWN.out.kept hb3
        have hs2 := hb2.size
        have hs3 := hb3.size
        have hln := hid (show (pathR (lvs (ss.take k)) i).length ≤ 1000000 by have := path_len (ss.take k) i; rw [List.length_take] at this; omega)
        go_wp2_with (at_builtin; refine wpList_app rfl _ _ rfl w1.heap.size _ _ (rootS (ss.drop k)) rfl (hown3.alloc _) w3.heap.size 1 rfl (cell_alloc_one _ _ _) hln.out (by simp; omega) ?_)
        intro v' w4 hown4 hb4
        have hbel : Below w1.heap.size w1 w4 := (((kept hb2 hb3).alloc (by omega) _).trans hb4)
        rw [← HP.out] at hown4
        have HOWN4 := hid hown4
        clear hown4 hown3 hb4
        go_wp2_with fail
        go_ret
        exact ⟨_, rfl, HOWN4.out, hbel⟩
      · have HP := hid (pathS_ge ss k i (by rw [HN.out]; exact hk) (by omega) (by rw [HN.out]; exact hi))
        have hik' : ¬ (i : Int) < (k : Int) := by omega
        go_wp2_with fail
        rw [show ((i : Int) - (k : Int)) = ((i - k : Nat) : Int) from by omega]
        refine (IH.out (n - k) (i - k) _ (ss.drop k) (cap - k) _ (by rw [List.length_drop]; have := HN.out; omega) (by omega) (by omega) (Strs.drop HC.out k) (by omega) (fun s hs => h40 s (List.mem_of_mem_drop hs)) (by omega) (by unfold maxLen; omega)).mono ?_
        rintro e w2 ⟨v, rfl, hown, hb2⟩
        have HOWN := hid hown
        clear hown
        go_wp2_with fail
        refine (root_any k k _ (ss.take k) cap _ (by rw [List.length_take]; have := HN.out; omega) (by omega) ((Strs.take HC.out k).kept hb2) (by omega) (fun s hs => h40 s (List.mem_of_mem_take hs)) (by omega) (by unfold maxLen; omega)).mono ?_
        rintro e w3 ⟨rfl, hb3⟩
        have hown3 := HOWN.out.kept hb3
        have hs2 := hb2.size
        have hs3 := hb3.size
        have hln := hid (show (pathR (lvs (ss.drop k)) (i - k)).length ≤ 1000000 by have := path_len (ss.drop k) (i - k); rw [List.length_drop] at this; have := HN.out; omega)
        go_wp2_with (at_builtin; refine wpList_app rfl _ _ rfl w1.heap.size _ _ (rootS (ss.take k)) rfl (hown3.alloc _) w3.heap.size 1 rfl (cell_alloc_one _ _ _) hln.out (by simp; omega) ?_)
        intro v' w4 hown4 hb4
        have hbel : Below w1.heap.size w1 w4 := (((kept hb2 hb3).alloc (by omega) _).trans hb4)
        rw [← HP.out] at hown4
        have HOWN4 := hid hown4
        clear hown4 hown3 hb4
        go_wp2_with fail
        go_ret
        exact ⟨_, rfl, HOWN4.out, hbel⟩

/-- lender.Path: P5. -/
theorem lpath_long (n : Nat) (i : Int) (a : Option Addr) (ss : List ByteArray) (cap : Nat) (w : World) (hn : ss.length = n) (hs : Strs w a ss) (hl : n ≤ 9223372036854775) (hL : longB ss = true) :
    Calls Tryz.prog 33 #[.slice a n cap, .int .i64 i] w fun e w' => e = .returned (.tuple #[.slice none 0 0, .int .i64 2]) ∧ Below w.heap.size w w' := by
  have hT := hid (by have := tooLong_any a ss cap w hs (by omega); rwa [hn, hL] at this : Calls _ _ _ _ _)
  clear hn hs hL
  go_enter Tryz.func33, Tryz.ntmps33
  go_wp2_with fail
  refine hT.out.mono ?_
  rintro e w1 ⟨rfl, rfl⟩
  go_wp2_with fail
  go_ret2
  exact ⟨rfl, Below.refl _ _⟩

theorem lpath_arg (n : Nat) (i : Int) (a : Option Addr) (ss : List ByteArray) (cap : Nat) (w : World) (hn : ss.length = n) (hs : Strs w a ss) (hl : n ≤ 9223372036854775) (hL : longB ss = false) (hi : i < 0 ∨ (n : Int) ≤ i) :
    Calls Tryz.prog 33 #[.slice a n cap, .int .i64 i] w fun e w' => e = .returned (.tuple #[.slice none 0 0, .int .i64 1]) ∧ Below w.heap.size w w' := by
  have hT := hid (by have := tooLong_any a ss cap w hs (by omega); rwa [hn, hL] at this : Calls _ _ _ _ _)
  clear hn hs hL
  rcases hi with hi | hi
  · go_enter Tryz.func33, Tryz.ntmps33
    go_wp2_with fail
    refine hT.out.mono ?_
    rintro e w1 ⟨rfl, rfl⟩
    go_wp2_with fail
    go_ret2
    exact ⟨rfl, Below.refl _ _⟩
  · have h0 : ¬ i < 0 := by omega
    go_enter Tryz.func33, Tryz.ntmps33
    go_wp2_with fail
    refine hT.out.mono ?_
    rintro e w1 ⟨rfl, rfl⟩
    go_wp2_with fail
    go_ret2
    exact ⟨rfl, Below.refl _ _⟩

theorem lpath_ok (n i : Nat) (a : Option Addr) (ss : List ByteArray) (cap : Nat) (w : World) (hn : ss.length = n) (hs : Strs w a ss) (hL : longB ss = false) (hi : i < n) (hcap : n ≤ cap) (hmax : cap ≤ maxLen) :
    Calls Tryz.prog 33 #[.slice a n cap, .int .i64 (i : Int)] w fun e w' => ∃ v, e = .returned (.tuple #[v, .int .i64 0]) ∧ Own w' w.heap.size v (pathR (lvs ss) i) ∧ Below w.heap.size w w' := by
  have hb := longB_false ss hL
  have hP := hid (path_any n n i a ss cap w hn (Nat.le_refl _) hi hs (by omega) hb.2 hcap hmax)
  have hT := hid (by have := tooLong_any a ss cap w hs (by omega); rwa [hn, hL] at this : Calls _ _ _ _ _)
  clear hn hs hL
  have h0 : (0 : Int) ≤ (i : Int) := by omega
  have h1 : (i : Int) < (n : Int) := by omega
  go_enter Tryz.func33, Tryz.ntmps33
  go_wp2_with fail
  refine hT.out.mono ?_
  rintro e w1 ⟨rfl, rfl⟩
  go_wp2_with fail
  refine hP.out.mono ?_
  rintro e w2 ⟨v, rfl, hown, hb2⟩
  go_wp2_with fail
  go_ret2
  exact ⟨_, rfl, hown, hb2⟩

end Go.Proofs.YtedblhcehlbbmaaGreatDoor

/-
  CONTRACTS: logs.known, logs.Further (it calls itself), lender.Further.
-/
import Derived.Test.YtedblhcehlbbmabDoorWalkHand
import Derived.Test.YtedblhcehlbbmabDoorMathJoin
import Derived.WalkKit
import Derived.WalkSpells
import Derived.WalkLawsBesides
namespace Go.Proofs.YtedblhcehlbbmabDoor
open Go.RowKit

/-- The path that joins the first m entries with the whole. -/
def furS (ss : List ByteArray) (m : Nat) (b : Bool) : List Int := furR (lvs ss) m b
theorem furS_len (ss : List ByteArray) (m : Nat) (b : Bool) : (furS ss m b).length ≤ ss.length := by
  have := length_furR (lvs ss) m b
  rw [length_lvs] at this; exact this
theorem furS_true (ss : List ByteArray) (m : Nat) (h : ss.length ≤ m) (h1 : 1 ≤ ss.length) : furS ss m true = [] := by
  unfold furS; rw [furR_end _ _ _ (by rw [length_lvs]; exact h) (by rw [length_lvs]; exact h1)]; rfl
theorem furS_false (ss : List ByteArray) (m : Nat) (h : ss.length ≤ m) (h1 : 1 ≤ ss.length) : furS ss m false = [rootS ss] := by
  unfold furS; rw [furR_end _ _ _ (by rw [length_lvs]; exact h) (by rw [length_lvs]; exact h1)]; rfl
theorem furS_le (ss : List ByteArray) (m k : Nat) (b : Bool) (hm : 1 ≤ m) (hc : IsCut ss.length k) (hk : m ≤ k) : furS ss m b = furS (ss.take k) m b ++ [rootS (ss.drop k)] := by
  unfold furS rootS; rw [furR_le _ _ k b hm (by rw [length_lvs]; exact hc) hk, lvs_take, lvs_drop]
theorem furS_gt (ss : List ByteArray) (m k : Nat) (b : Bool) (hc : IsCut ss.length k) (hk : k < m) (hm : m < ss.length) : furS ss m b = furS (ss.drop k) (m - k) false ++ [rootS (ss.take k)] := by
  unfold furS rootS; rw [furR_gt _ _ k b (by rw [length_lvs]; exact hc) hk (by rw [length_lvs]; exact hm), lvs_take, lvs_drop]

theorem Own.one (w : World) (x : Int) (B : Nat) (hB : B ≤ w.heap.size) : Own (w.alloc (.cells #[.int .i64 x] 3)) B (.slice (some ⟨w.heap.size, 0, none⟩) 1 1) [x] :=
  ⟨rfl, .inr ⟨w.heap.size, 1, #[.int .i64 x], rfl, hB, heap_alloc_new w _, Nat.le_refl _, by decide, rfl, rfl⟩⟩

set_option maxHeartbeats 1000000 in
theorem known_any (n : Nat) (b : Bool) (a : Option Addr) (ss : List ByteArray) (cap : Nat) (w : World) (hn : ss.length = n) (hs : Strs w a ss) (h200 : n ≤ 200) (h40 : ∀ s ∈ ss, s.size ≤ 40) (hcap : n ≤ cap) (hmax : cap ≤ maxLen) :
    Calls Tryd.prog 49 #[.slice a n cap, .bool b] w fun e w' => ∃ v, e = .returned v ∧ Own w' w.heap.size v (if b = true then [] else [rootS ss]) ∧ Below w.heap.size w w' := by
  cases b with
  | true =>
    clear hs
    go_enter Tryd.func49, Tryd.ntmps49
    go_wp2_with fail
    go_ret
    exact ⟨_, rfl, Own.nil _ _, Below.refl _ _⟩
  | false =>
    have HR := hid (root_any n n a ss cap w hn (Nat.le_refl _) hs h200 h40 hcap hmax)
    clear hs hn
    go_enter Tryd.func49, Tryd.ntmps49
    go_wp2_with fail
    refine HR.out.mono ?_
    rintro e w1 ⟨rfl, hb1⟩
    have hsz := hb1.size

    go_wp2_with fail
    go_ret
    exact ⟨_, rfl, Own.one w1 (rootS ss) _ hsz, hb1.alloc hsz _⟩

set_option maxHeartbeats 1000000 in
theorem further_any (f : Nat) : ∀ (n m : Nat) (b : Bool) (a : Option Addr) (ss : List ByteArray) (cap : Nat) (w : World), ss.length = n → n ≤ f → 1 ≤ m → m ≤ n → Strs w a ss → n ≤ 200 → (∀ s ∈ ss, s.size ≤ 40) → n ≤ cap → cap ≤ maxLen →
    Calls Tryd.prog 34 #[.slice a n cap, .int .i64 (m : Int), .bool b] w fun e w' => ∃ v, e = .returned v ∧ Own w' w.heap.size v (furS ss m b) ∧ Below w.heap.size w w' := by
  induction f with
  | zero => intro n m b a ss cap w hn hf h1 h2; omega
  | succ f ih =>
    intro n m b a ss cap w hn hf hm1 hmn hs h200 h40 hcap hmax
    have IH := hid ih
    clear ih
    by_cases he : m = n
    · subst he
      have HK := hid (known_any m b a ss cap w hn hs h200 h40 hcap hmax)
      have HP : Hid (furS ss m b = if b = true then [] else [rootS ss]) := by
        cases b with
        | true => exact furS_true ss m (by omega) (by omega)
        | false => exact furS_false ss m (by omega) (by omega)
      clear hs hn
      go_enter Tryd.func34, Tryd.ntmps34
      go_wp2_with fail
      refine HK.out.mono ?_
      rintro e w1 ⟨v, rfl, hown, hb1⟩
      rw [← HP.out] at hown
      have HOWN := hid hown
      clear hown
      go_wp2_with fail
      go_ret
      exact ⟨_, rfl, HOWN.out, hb1⟩
    · unfold maxLen at hmax
      obtain ⟨bk, off, rfl, hc⟩ := hs.at (by omega)
      have HC := hid hc
      have HN : Hid (ss.length = n) := hn
      have hn2 : 1 < n := by omega
      have i1 : ¬ (n : Int) ≤ (m : Int) := by omega
      have i2 : ¬ (n : Int) ≤ 1 := by omega
      have hpl := hid (furS_len ss m b)
      clear hn hc hs
      go_enter Tryd.func34, Tryd.ntmps34
      go_wp2_with fail
      refine (cut_any n _ hn2 (by omega)).mono ?_
      rintro e w1 ⟨k, rfl, hk, rfl⟩
      have hk1 := hk.2.1
      have hk2 := hk.pos.1
      have hk3 := hk.2.2
      by_cases hik : m ≤ k
      · have HP := hid (furS_le ss m k b hm1 (by rw [HN.out]; exact hk) hik)
        have hik' : (m : Int) ≤ (k : Int) := by omega
        go_wp2_with fail
        refine (IH.out k m b _ (ss.take k) cap _ (by rw [List.length_take]; have := HN.out; omega) (by omega) hm1 hik (Strs.take HC.out k) (by omega) (fun s hs => h40 s (List.mem_of_mem_take hs)) (by omega) (by unfold maxLen; omega)).mono ?_
        rintro e w2 ⟨v, rfl, hown, hb2⟩
        have HOWN := hid hown
        clear hown
        go_wp2_with fail
        refine (root_any (n - k) (n - k) _ (ss.drop k) (cap - k) _ (by rw [List.length_drop]; have := HN.out; omega) (by omega) ((Strs.drop HC.out k).kept hb2) (by omega) (fun s hs => h40 s (List.mem_of_mem_drop hs)) (by omega) (by unfold maxLen; omega)).mono ?_
        rintro e w3 ⟨rfl, hb3⟩
        have hown3 := HOWN.out.kept hb3
        have hs2 := hb2.size
        have hs3 := hb3.size
        have hln := hid (show (furS (ss.take k) m b).length ≤ 1000000 by have := furS_len (ss.take k) m b; rw [List.length_take] at this; omega)
        go_wp2_with (at_builtin; refine wpList_app rfl _ _ rfl w1.heap.size _ _ (rootS (ss.drop k)) rfl (hown3.alloc _) w3.heap.size 1 rfl (cell_alloc_one _ _ _) hln.out (by simp; omega) ?_)
        intro v' w4 hown4 hb4
        have hbel : Below w1.heap.size w1 w4 := (((kept hb2 hb3).alloc (by omega) _).trans hb4)
        rw [← HP.out] at hown4
        have HOWN4 := hid hown4
        clear hown4 hown3 hb4
        go_wp2_with fail
        go_ret
        exact ⟨_, rfl, HOWN4.out, hbel⟩
      · have HP := hid (furS_gt ss m k b (by rw [HN.out]; exact hk) (by omega) (by have := HN.out; omega))
        have hik' : ¬ (m : Int) ≤ (k : Int) := by omega
        go_wp2_with fail
        rw [show ((m : Int) - (k : Int)) = ((m - k : Nat) : Int) from by omega]
        refine (IH.out (n - k) (m - k) false _ (ss.drop k) (cap - k) _ (by rw [List.length_drop]; have := HN.out; omega) (by omega) (by omega) (by omega) (Strs.drop HC.out k) (by omega) (fun s hs => h40 s (List.mem_of_mem_drop hs)) (by omega) (by unfold maxLen; omega)).mono ?_
        rintro e w2 ⟨v, rfl, hown, hb2⟩
        have HOWN := hid hown
        clear hown
        go_wp2_with fail
        refine (root_any k k _ (ss.take k) cap _ (by rw [List.length_take]; have := HN.out; omega) (by omega) ((Strs.take HC.out k).kept hb2) (by omega) (fun s hs => h40 s (List.mem_of_mem_take hs)) (by omega) (by unfold maxLen; omega)).mono ?_
        rintro e w3 ⟨rfl, hb3⟩
        have hown3 := HOWN.out.kept hb3
        have hs2 := hb2.size
        have hs3 := hb3.size
        have hln := hid (show (furS (ss.drop k) (m - k) false).length ≤ 1000000 by have := furS_len (ss.drop k) (m - k) false; rw [List.length_drop] at this; have := HN.out; omega)
        go_wp2_with (at_builtin; refine wpList_app rfl _ _ rfl w1.heap.size _ _ (rootS (ss.take k)) rfl (hown3.alloc _) w3.heap.size 1 rfl (cell_alloc_one _ _ _) hln.out (by simp; omega) ?_)
        intro v' w4 hown4 hb4
        have hbel : Below w1.heap.size w1 w4 := (((kept hb2 hb3).alloc (by omega) _).trans hb4)
        rw [← HP.out] at hown4
        have HOWN4 := hid hown4
        clear hown4 hown3 hb4
        go_wp2_with fail
        go_ret
        exact ⟨_, rfl, HOWN4.out, hbel⟩

/-- lender.Further: P7. -/
theorem lfurther_long (n : Nat) (i : Int) (a : Option Addr) (ss : List ByteArray) (cap : Nat) (w : World) (hn : ss.length = n) (hs : Strs w a ss) (hl : n ≤ 9223372036854775) (hL : longB ss = true) :
    Calls Tryd.prog 14 #[.slice a n cap, .int .i64 i] w fun e w' => e = .returned (.tuple #[.slice none 0 0, .int .i64 2]) ∧ Below w.heap.size w w' := by
  have hT := hid (by have := tooLong_any a ss cap w hs (by omega); rwa [hn, hL] at this : Calls _ _ _ _ _)
  clear hn hs hL
  go_enter Tryd.func14, Tryd.ntmps14
  go_wp2_with fail
  refine hT.out.mono ?_
  rintro e w1 ⟨rfl, rfl⟩
  go_wp2_with fail
  go_ret2
  exact ⟨rfl, Below.refl _ _⟩

theorem lfurther_arg (n : Nat) (i : Int) (a : Option Addr) (ss : List ByteArray) (cap : Nat) (w : World) (hn : ss.length = n) (hs : Strs w a ss) (hl : n ≤ 9223372036854775) (hL : longB ss = false) (hi : i < 1 ∨ (n : Int) < i) :
    Calls Tryd.prog 14 #[.slice a n cap, .int .i64 i] w fun e w' => e = .returned (.tuple #[.slice none 0 0, .int .i64 1]) ∧ Below w.heap.size w w' := by
  have hT := hid (by have := tooLong_any a ss cap w hs (by omega); rwa [hn, hL] at this : Calls _ _ _ _ _)
  clear hn hs hL
  rcases hi with hi | hi
  · go_enter Tryd.func14, Tryd.ntmps14
    go_wp2_with fail
    refine hT.out.mono ?_
    rintro e w1 ⟨rfl, rfl⟩
    go_wp2_with fail
    go_ret2
    exact ⟨rfl, Below.refl _ _⟩
  · have h0 : ¬ i < 1 := by omega
    go_enter Tryd.func14, Tryd.ntmps14
    go_wp2_with fail
    refine hT.out.mono ?_
    rintro e w1 ⟨rfl, rfl⟩
    go_wp2_with fail
    go_ret2
    exact ⟨rfl, Below.refl _ _⟩

theorem lfurther_ok (n m : Nat) (a : Option Addr) (ss : List ByteArray) (cap : Nat) (w : World) (hn : ss.length = n) (hs : Strs w a ss) (hL : longB ss = false) (h1 : 1 ≤ m) (hm : m ≤ n) (hcap : n ≤ cap) (hmax : cap ≤ maxLen) :
    Calls Tryd.prog 14 #[.slice a n cap, .int .i64 (m : Int)] w fun e w' => ∃ v, e = .returned (.tuple #[v, .int .i64 0]) ∧ Own w' w.heap.size v (furS ss m true) ∧ Below w.heap.size w w' := by
  have hb := longB_false ss hL
  have hP := hid (further_any n n m true a ss cap w hn (Nat.le_refl _) h1 hm hs (by omega) hb.2 hcap hmax)
  have hT := hid (by have := tooLong_any a ss cap w hs (by omega); rwa [hn, hL] at this : Calls _ _ _ _ _)
  clear hn hs hL
  have i0 : ¬ (m : Int) < 1 := by omega
  have i1 : ¬ (n : Int) < (m : Int) := by omega
  go_enter Tryd.func14, Tryd.ntmps14
  go_wp2_with fail
  refine hT.out.mono ?_
  rintro e w1 ⟨rfl, rfl⟩
  go_wp2_with fail
  refine hP.out.mono ?_
  rintro e w2 ⟨v, rfl, hown, hb2⟩
  go_wp2_with fail
  go_ret2
  exact ⟨_, rfl, hown, hb2⟩

end Go.Proofs.YtedblhcehlbbmabDoor

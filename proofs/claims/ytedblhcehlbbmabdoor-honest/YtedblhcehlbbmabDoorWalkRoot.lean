/-
  CONTRACTS: logs.Text and logs.Root (they call one another), lender.Root.
-/
import Derived.Test.YtedblhcehlbbmabDoorWalkLog
import Derived.Test.YtedblhcehlbbmabDoorMathJoin
import Derived.WalkKit
import Derived.WalkSpells
import Derived.WalkLawsBesides
namespace Go.Proofs.YtedblhcehlbbmabDoor
open Go.RowKit

/-- The sum that stands for an entry. -/
def entS (s : ByteArray) : Int := ent s.data.toList
/-- The sums of the entries. -/
def lvs (ss : List ByteArray) : List Int := ss.map entS
theorem lvs_bd (ss : List ByteArray) : ∀ x ∈ lvs ss, Bd x := by
  intro x hx
  obtain ⟨s, _, rfl⟩ := List.mem_map.1 hx
  exact ent_bd _
theorem length_lvs (ss : List ByteArray) : (lvs ss).length = ss.length := by simp [lvs]
theorem lvs_take (ss : List ByteArray) (k : Nat) : lvs (ss.take k) = (lvs ss).take k := by simp [lvs]
theorem lvs_drop (ss : List ByteArray) (k : Nat) : lvs (ss.drop k) = (lvs ss).drop k := by simp [lvs]
/-- The root of a log. -/
def rootS (ss : List ByteArray) : Int := top (lvs ss)
theorem rootS_bd (ss : List ByteArray) : Bd (rootS ss) := top_bd _ (lvs_bd ss)
theorem rootS_cut (ss : List ByteArray) (k : Nat) (h : IsCut ss.length k) : rootS ss = node (rootS (ss.take k)) (rootS (ss.drop k)) := by
  unfold rootS; rw [lvs_take, lvs_drop]; exact top_cut _ _ _ (length_lvs ss) h
theorem rootS_nil : rootS [] = 0 := top_nil
theorem rootS_one (s : ByteArray) : rootS [s] = entS s := top_one _

/-- The text whose sum is the root of a log. -/
def textS (ss : List ByteArray) : List UInt8 := match ss with
  | [] => []
  | [s] => entT s.data.toList
  | s :: t :: r => nodeT (rootS ((s :: t :: r).take (cutN (r.length + 2)))) (rootS ((s :: t :: r).drop (cutN (r.length + 2))))
theorem textS_cut (ss : List ByteArray) (k : Nat) (h : IsCut ss.length k) : textS ss = nodeT (rootS (ss.take k)) (rootS (ss.drop k)) := by
  match ss, h with
  | [], h => have := h.pos.2; simp at this
  | [s], h => have := h.pos.2; simp at this
  | s :: t :: r, h =>
    have e : cutN (r.length + 2) = k := cutN_of (by simpa using h)
    simp only [textS, e]
theorem sm_textS (ss : List ByteArray) : sm (textS ss) = rootS ss := by
  by_cases h : 1 < ss.length
  · have hc := cutN_is ss.length h
    rw [textS_cut ss _ hc, rootS_cut ss _ hc]; rfl
  · match ss, h with
    | [], _ => rw [rootS_nil]; rfl
    | [s], _ => rw [rootS_one]; rfl
    | s :: t :: r, h => simp at h
theorem length_textS (ss : List ByteArray) (h40 : ∀ s ∈ ss, s.size ≤ 40) : (textS ss).length ≤ 41 := by
  by_cases h : 1 < ss.length
  · rw [textS_cut ss _ (cutN_is ss.length h), length_nodeT]; omega
  · match ss, h with
    | [], _ => simp [textS]
    | [s], _ => have := h40 s (by simp); simp only [textS, length_entT, Array.length_toList]; show s.size + 1 ≤ 41; omega
    | s :: t :: r, h => simp at h

set_option maxHeartbeats 400000 in
/-- logs.Root, out of what logs.Text answers. -/
theorem root_of {n : Nat} {a : Option Addr} {ss : List ByteArray} {cap : Nat} {w : World} (h40 : ∀ s ∈ ss, s.size ≤ 40)
    (h : Calls Tryd.prog 41 #[.slice a n cap] w fun e w' => e = .returned (.string (bs (textS ss))) ∧ Below w.heap.size w w') :
    Calls Tryd.prog 22 #[.slice a n cap] w fun e w' => e = .returned (.int .i64 (rootS ss)) ∧ Below w.heap.size w w' := by
  have HT := hid h
  have HL := hid (length_textS ss h40)
  have HS := hid (sm_textS ss)
  clear h h40
  generalize textS ss = t at HT HL HS
  go_enter Tryd.func22, Tryd.ntmps22
  go_wp2_with fail
  refine HT.out.mono ?_
  rintro e w1 ⟨rfl, hb1⟩
  go_wp2_with fail
  refine (sum_any _ _ (by rw [size_bs]; have := HL.out; unfold maxLen; omega)).mono ?_
  rintro e w2 ⟨rfl, rfl⟩
  go_wp2_with fail
  go_ret
  exact ⟨ret_int (by rw [toList_bs, HS.out]), hb1⟩

set_option maxHeartbeats 1000000 in
theorem text_any (m : Nat) : ∀ (n : Nat) (a : Option Addr) (ss : List ByteArray) (cap : Nat) (w : World), ss.length = n → n ≤ m → Strs w a ss → n ≤ 200 → (∀ s ∈ ss, s.size ≤ 40) → n ≤ cap → cap ≤ maxLen →
    Calls Tryd.prog 41 #[.slice a n cap] w fun e w' => e = .returned (.string (bs (textS ss))) ∧ Below w.heap.size w w' := by
  induction m with
  | zero =>
    intro n a ss cap w hn hm hs h200 h40 hcap hmax
    obtain rfl : n = 0 := by omega
    obtain rfl : ss = [] := List.eq_nil_of_length_eq_zero hn
    go_enter Tryd.func41, Tryd.ntmps41
    go_wp2_with fail
    go_ret
    exact ⟨rfl, Below.refl _ _⟩
  | succ m ih =>
    intro n a ss cap w hn hm hs h200 h40 hcap hmax
    have IH := hid ih
    clear ih
    by_cases h0 : n = 0
    · exact IH.out n a ss cap w hn (by omega) hs h200 h40 hcap hmax
    unfold maxLen at hmax
    by_cases h1 : n = 1
    · subst h1
      obtain ⟨s, rfl⟩ : ∃ s, ss = [s] := by
        match ss, hn with
        | [s], _ => exact ⟨s, rfl⟩
      obtain ⟨b, off, rfl, hc⟩ := hs.at (by simp)
      have hc0 := hc 0 (by simp)
      simp only [Nat.add_zero, List.getElem_cons_zero] at hc0
      have hsz := h40 s (by simp)
      clear hc hs
      go_enter Tryd.func41, Tryd.ntmps41
      go_wp2_with fail
      refine (entryText_any s _ (by omega)).mono ?_
      rintro e w1 ⟨rfl, rfl⟩
      go_wp2_with fail
      go_ret
      exact ⟨rfl, Below.refl _ _⟩
    · obtain ⟨b, off, rfl, hc⟩ := hs.at (by omega)
      have HC := hid hc
      have HN : Hid (ss.length = n) := hn
      have H40 := hid h40
      have hn0 : ((n : Int) == 0) = false := by simp; omega
      have hn1 : ((n : Int) == 1) = false := by simp; omega
      have hn2 : 1 < n := by omega
      clear hn hc hs h40
      go_enter Tryd.func41, Tryd.ntmps41
      go_wp2_with fail
      refine (cut_any n _ hn2 (by omega)).mono ?_
      rintro e w1 ⟨k, rfl, hk, rfl⟩
      have hk1 := hk.2.1
      have hk2 := hk.pos.1
      have hk3 := hk.2.2
      go_wp2_with fail
      refine (root_of (fun s hs => H40.out s (List.mem_of_mem_take hs)) (IH.out k _ (ss.take k) cap _ (by rw [List.length_take]; have := HN.out; omega) (by omega) (Strs.take HC.out k) (by omega) (fun s hs => H40.out s (List.mem_of_mem_take hs)) (by omega) (by unfold maxLen; omega))).mono ?_
      rintro e w2 ⟨rfl, hb2⟩
      go_wp2_with fail
      refine (root_of (fun s hs => H40.out s (List.mem_of_mem_drop hs)) (IH.out (n - k) _ (ss.drop k) (cap - k) _ (by rw [List.length_drop]; have := HN.out; omega) (by omega) ((Strs.drop HC.out k).kept hb2) (by omega) (fun s hs => H40.out s (List.mem_of_mem_drop hs)) (by omega) (by unfold maxLen; omega))).mono ?_
      rintro e w3 ⟨rfl, hb3⟩
      go_wp2_with fail
      refine (nodeText_any _ _ _ (rootS_bd _) (rootS_bd _)).mono ?_
      rintro e w4 ⟨rfl, hb4⟩
      have HX := hid (textS_cut ss k (by rw [HN.out]; exact hk))
      go_wp2_with fail
      go_ret
      exact ⟨by rw [HX.out]; rfl, kept (kept hb2 hb3) hb4⟩

theorem root_any (m : Nat) (n : Nat) (a : Option Addr) (ss : List ByteArray) (cap : Nat) (w : World) (hn : ss.length = n) (hm : n ≤ m) (hs : Strs w a ss) (h200 : n ≤ 200) (h40 : ∀ s ∈ ss, s.size ≤ 40) (hcap : n ≤ cap) (hmax : cap ≤ maxLen) :
    Calls Tryd.prog 22 #[.slice a n cap] w fun e w' => e = .returned (.int .i64 (rootS ss)) ∧ Below w.heap.size w w' :=
  root_of h40 (text_any m n a ss cap w hn hm hs h200 h40 hcap hmax)

end Go.Proofs.YtedblhcehlbbmabDoor

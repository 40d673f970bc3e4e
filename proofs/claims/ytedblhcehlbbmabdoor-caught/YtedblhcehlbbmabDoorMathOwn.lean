/-
  A BOOK'S LOG IS A LOG: its entries are short; its own proofs are good.
-/
import Derived.Test.YtedblhcehlbbmabDoorMathMap
import Derived.Test.YtedblhcehlbbmabDoorMathKeep
import Derived.Test.YtedblhcehlbbmabDoorWalkWithin
import Derived.Test.YtedblhcehlbbmabDoorWalkGrows
import Derived.Test.YtedblhcehlbbmabDoorWalkFurther
import Derived.WalkKit
import Derived.WalkSpells
import Derived.WalkLawsBesides
namespace Go.Proofs.YtedblhcehlbbmabDoor
open Go.RowKit

theorem bdL_of5 {zs : List Int} (h : ∀ x ∈ zs, Bd x) : bdL zs = true := by
  unfold bdL
  rw [List.all_eq_true]
  intro x hx
  exact decide_eq_true (h x hx)
theorem within_own5 (L : List ByteArray) (i : Nat) (h : i < L.length) (h200 : L.length ≤ 200) (h40 : ∀ s ∈ L, s.size ≤ 40) : withinB (rootS L) (L.length : Int) (i : Int) L[i] (pathR (lvs L) i) = true := by
  rw [withinB_in (by omega) h200 h (h40 _ (List.getElem_mem _))]
  unfold leadO
  rw [if_pos (bdL_of5 (path_bd _ _ (lvs_bd L)))]
  have e := path_leads L.length (lvs L) i (by rw [length_lvs]; exact h) (length_lvs L)
  have e2 : (lvs L)[i]'(by rw [length_lvs]; exact h) = entS L[i] := by simp [lvs]
  rw [e2] at e
  rw [e]
  exact decide_eq_true rfl
theorem grows_own5 (L : List ByteArray) (m : Nat) (h1 : 1 ≤ m) (h2 : m ≤ L.length) (h200 : L.length ≤ 200) : growsB (rootS (L.take m)) (m : Int) (rootS L) (L.length : Int) (furS L m true) = true := by
  rw [growsB_in h1 h2 h200]
  unfold joinO furS
  have hb : bdL (furR (lvs L) m true) = true := bdL_of5 (fur_bd L.length (lvs L) m true (length_lvs L) h1 h2 (lvs_bd L))
  have ho : isSumB (rootS (L.take m)) = true := decide_eq_true (rootS_bd _)
  rw [hb, ho, Bool.and_true, if_pos rfl]
  have e := fur_joins L.length (lvs L) m true (rootS (L.take m)) (length_lvs L) h1 h2 (fun _ => by unfold rootS; rw [lvs_take])
  rw [e, ← lvs_take]
  exact decide_eq_true rfl

theorem within_own6 (L : List ByteArray) (N i : Nat) (sx : ByteArray) (LG : Int) (hN : L.length = N) (h : L[i]? = some sx) (h200 : N ≤ 200) (h40 : ∀ s ∈ L, s.size ≤ 40) (hl : rootS L = LG) : withinB LG (N : Int) (i : Int) sx (pathR (lvs L) i) = true := by
  subst hN; subst hl
  have hi : i < L.length := by
    rcases Nat.lt_or_ge i L.length with h1 | h1
    · exact h1
    · rw [List.getElem?_eq_none h1] at h; cases h
  rw [List.getElem?_eq_getElem hi] at h
  cases h
  exact within_own5 L i hi h200 h40
theorem grows_own6 (L : List ByteArray) (N m : Nat) (LG LG2 : Int) (hN : L.length = N) (h1 : 1 ≤ m) (h2 : m ≤ N) (h200 : N ≤ 200) (hl : rootS L = LG) (hl2 : rootS (L.take m) = LG2) : growsB LG2 (m : Int) LG (N : Int) (furS L m true) = true := by
  subst hN; subst hl; subst hl2
  exact grows_own5 L m h1 h2 h200
theorem nDigits_le (k : Nat) : ∀ u : Nat, u < 10 ^ (k + 1) → Lib.nDigits u ≤ k + 1 := by
  induction k with
  | zero => intro u hu; rw [Lib.nDigits_small (by omega)]; omega
  | succ k ih =>
    intro u hu
    by_cases h : u < 10
    · rw [Lib.nDigits_small h]; omega
    · rw [Lib.nDigits_big h]
      have := ih (u / 10) (by rw [Nat.pow_succ] at hu; omega)
      omega
theorem itoa_le (k : Nat) (z : Int) (h0 : 0 ≤ z) (h1 : z < 10 ^ (k + 1)) : (Lib.itoa z).length ≤ k + 1 := by
  unfold Lib.itoa
  rw [if_neg (by omega), Lib.decDigits_length]
  refine nDigits_le k z.toNat ?_
  have : ((z.toNat : Nat) : Int) < ((10 ^ (k + 1) : Nat) : Int) := by rw [Int.toNat_of_nonneg h0]; simpa using h1
  exact Int.ofNat_lt.1 this
theorem entryT_le (e : Ev) (h : MayE e) : (entryT e).length ≤ 40 := by
  have ha := h.amount
  obtain ⟨hl, hk, _, hd⟩ := h
  have h1 := itoa_le 1 e.loan hl.1 (by have := hl.2; omega)
  have h2 := itoa_le 0 e.kind hk.1 (by have := hk.2; omega)
  have h3 := itoa_le 8 e.amount ha.1 (by have := ha.2.1; omega)
  have h4 := itoa_le 4 e.day hd.1 (by have := hd.2; omega)
  unfold entryT evI numT
  simp only [List.flatMap_cons, List.flatMap_nil, List.length_append, List.length_cons, List.length_nil]
  omega
theorem entriesB_len (es : List Ev) : (entriesB es).length = es.length := by unfold entriesB; rw [List.length_map]
theorem entriesB_40 (es : List Ev) (hg : GoodE es) : ∀ s ∈ entriesB es, s.size ≤ 40 := by
  intro s hs
  obtain ⟨e, he, rfl⟩ := List.mem_map.1 hs
  rw [size_bs]
  exact entryT_le e (hg.2.1 e he)
theorem entriesB_take (es : List Ev) (m : Nat) : entriesB (es.take m) = (entriesB es).take m := by unfold entriesB; rw [List.map_take]
theorem entriesB_long (es : List Ev) (hg : GoodE es) : longB (entriesB es) = false := by
  unfold longB longTo
  rw [Bool.or_eq_false_iff]
  refine ⟨decide_eq_false (by rw [entriesB_len]; have := hg.1; omega), ?_⟩
  rw [List.any_eq_false]
  intro s hs
  have := entriesB_40 es hg s (List.mem_of_mem_take hs)
  simp
  exact this

end Go.Proofs.YtedblhcehlbbmabDoor

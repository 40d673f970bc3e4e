/-
  lenderlaw.Twin, out of what a call of Twin answers (TwinSpec): the law's own part.
-/
import Derived.Test.YtedblhcehlbbmabOpens
import Derived.Test.YtedblhcehlbbmabWalkPathTexts
import Derived.WalkKit
import Derived.WalkSpells
import Derived.WalkLawsBesides
namespace Go.Proofs.Ytedblhcehlbbmab
open Go.RowKit

/-- The empty text. -/
def eS : ByteArray := ⟨#[]⟩

/-- What a call of Twin answers: the two texts and the error, as a function of what it is given. -/
structure TwinSpec (f : List ByteArray → Int → ByteArray → List Int → ByteArray × ByteArray × Int) : Prop where
  call : ∀ (n l : Nat) (i : Int) (ent : ByteArray) (a b : Option Addr) (ss : List ByteArray) (zs : List Int) (cap cap2 : Nat) (w : World), ss.length = n → zs.length = l → Strs w a ss → Ints w b zs → n * 16 ≤ 140737488351232 → l * 8 ≤ 140737488351232 → n ≤ cap → cap ≤ maxLen → l ≤ cap2 → cap2 ≤ maxLen → ent.size ≤ maxLen →
    Calls Try.prog 13 #[.slice a n cap, .int .i64 i, .string ent, .slice b l cap2] w fun e w' => e = .returned (.tuple #[.string (f ss i ent zs).1, .string (f ss i ent zs).2.1, .int .i64 (f ss i ent zs).2.2]) ∧ Below w.heap.size w w'
  long : ∀ (ss : List ByteArray) (i : Int) (ent : ByteArray) (zs : List Int), longB ss = true → f ss i ent zs = (eS, eS, 2)
  arg : ∀ (ss : List ByteArray) (i : Int) (ent : ByteArray) (zs : List Int), longB ss = false → (i < 0 ∨ (ss.length : Int) ≤ i) → f ss i ent zs = (eS, eS, 1)
  calm : ∀ (ss : List ByteArray) (i : Nat) (ent : ByteArray) (zs : List Int) (h : i < ss.length), longB ss = false → (withinB (rootS ss) (ss.length : Int) (i : Int) ent zs = false ∨ ent = ss[i]) → f ss i ent zs = (eS, eS, 3)
  away : ∀ (ss : List ByteArray) (i : Nat) (ent : ByteArray) (zs : List Int) (h : i < ss.length), longB ss = false → withinB (rootS ss) (ss.length : Int) (i : Int) ent zs = true → ent ≠ ss[i] →
    ∃ t u, t ∈ ptx ss.length i ent zs ∧ u ∈ ltx ss ∧ f ss i ent zs = (t, u, 0) ∧ t ≠ u ∧ sm t.data.toList = sm u.data.toList

theorem ptx_size {n i : Nat} {ent : ByteArray} {zs : List Int} {t : ByteArray} (h : t ∈ ptx n i ent zs) (h40 : ent.size ≤ 40) : t.size ≤ 1000000 := by
  rw [ptx_eq] at h
  rcases List.mem_append.1 h with h | h
  · simp only [List.mem_singleton] at h
    subst h
    rw [size_bs, length_entT]; simp; omega
  · unfold stx at h
    obtain ⟨b, hb, rfl⟩ := List.mem_map.1 h
    have : ∀ f n i (x : Int) zs, ∀ b ∈ stepsF f n i x zs, b.length = 5 := by
      intro f
      induction f with
      | zero => intro n i x zs b hb; simp [stepsF] at hb
      | succ f ih =>
        intro n i x zs b hb
        cases zs with
        | nil =>
          simp only [stepsF] at hb
          split at hb
          · simp at hb
          · split at hb
            · exact ih _ _ _ _ b hb
            · simp at hb
        | cons p r =>
          simp only [stepsF] at hb
          split at hb
          · simp at hb
          · split at hb
            · exact ih _ _ _ _ b hb
            · rcases List.mem_cons.1 hb with rfl | hb
              · split <;> rfl
              · exact ih _ _ _ _ b hb
    rw [size_bs, this _ _ _ _ _ b hb]; decide
theorem rowT_five : ∀ (xs : List Int), ∀ b ∈ rowT xs, b.length = 5
  | a :: c :: r, b, h => by
    simp only [rowT] at h
    rcases List.mem_cons.1 h with rfl | h
    · rfl
    · exact rowT_five r b h
  | [a], b, h => by simp [rowT] at h
  | [], b, h => by simp [rowT] at h
theorem ltx_size {ss : List ByteArray} {t : ByteArray} (h : t ∈ ltx ss) (h40 : ∀ s ∈ ss, s.size ≤ 40) : t.size ≤ 1000000 := by
  rw [ltx_eq] at h
  rcases List.mem_append.1 h with h | h
  · obtain ⟨s, hs, rfl⟩ := List.mem_map.1 h
    have := h40 s hs
    rw [size_bs, length_entT]; simp; omega
  · unfold rtx rowsR at h
    obtain ⟨b, hb, rfl⟩ := List.mem_map.1 h
    have : ∀ f (xs : List Int), ∀ b ∈ rowsF f xs, b.length = 5 := by
      intro f
      induction f with
      | zero => intro xs b hb; simp [rowsF] at hb
      | succ f ih =>
        intro xs b hb
        simp only [rowsF] at hb
        split at hb
        · simp at hb
        · rcases List.mem_append.1 hb with hb | hb
          · exact rowT_five xs b hb
          · exact ih _ b hb
    rw [size_bs, this _ _ b hb]; decide

theorem ints_nil (w : World) : Ints w none [] := .inl rfl

end Go.Proofs.Ytedblhcehlbbmab

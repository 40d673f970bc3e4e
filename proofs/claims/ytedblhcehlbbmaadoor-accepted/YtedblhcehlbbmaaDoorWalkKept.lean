/-
  CONTRACT: lenderkeep.kept, out of what a book's calls answer.
-/
import Derived.Test.YtedblhcehlbbmaaDoorWalkEvents
import Derived.WalkKit
import Derived.WalkSpells
import Derived.WalkLawsBesides
namespace Go.Proofs.YtedblhcehlbbmaaDoor
open Go.RowKit

/-- The events that kept adds. -/
def selE (es : List Ev) (loan : Int) : List Ev := if loan < 0 then es else ownE es loan
theorem selE_snoc (es : List Ev) (e : Ev) (loan : Int) : selE (es ++ [e]) loan = if loan < 0 ∨ e.loan = loan then selE es loan ++ [e] else selE es loan := by
  unfold selE
  by_cases h : loan < 0
  · rw [if_pos h, if_pos h, if_pos (.inl h)]
  · rw [if_neg h, if_neg h, ownE_snoc]
    by_cases h2 : e.loan = loan
    · rw [if_pos h2, if_pos (.inr h2)]
    · rw [if_neg h2, if_neg (fun x => x.elim h h2)]
theorem selE_nil (loan : Int) : selE [] loan = [] := by unfold selE; split <;> rfl
theorem selE_len (es : List Ev) (loan : Int) : (selE es loan).length ≤ es.length := by
  unfold selE; split
  · exact Nat.le_refl _
  · exact List.length_filter_le _ _
theorem selE_last (es : List Ev) (loan : Int) (h : GoodE es) : lastD (selE es loan) ≤ lastD es := by
  have hsub : ∀ e ∈ selE es loan, e ∈ es := by
    intro e he
    unfold selE at he
    split at he
    · exact he
    · exact (ownE_sub es loan e he).1
  rcases List.eq_nil_or_concat (selE es loan) with h0 | ⟨q, x, h0⟩
  · rw [h0, lastD_nil]; exact h.last_bd.1
  · rw [List.concat_eq_append] at h0
    rw [h0, lastD_snoc]
    exact h.last x (hsub x (by rw [h0]; simp))
theorem takeE_snoc (es : List Ev) (k : Nat) (h : k < es.length) : es.take (k + 1) = es.take k ++ [es[k]] := List.take_succ_eq_append_getElem h
theorem good_mid (es : List Ev) (k : Nat) (h : k < es.length) (hg : GoodE es) : MayE es[k] ∧ lastD (es.take k) ≤ es[k].day ∧ (es.take k).length < 200 := by
  have e : es = es.take k ++ es[k] :: es.drop (k + 1) := by rw [List.getElem_cons_drop, List.take_append_drop]
  have h2 := hg
  rw [e] at h2
  have := h2.mid
  exact ⟨this.2.1, this.2.2, this.1⟩

end Go.Proofs.YtedblhcehlbbmaaDoor

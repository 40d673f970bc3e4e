/-
  CONTRACT: lenderkeep.kept, out of what a book's calls answer.
-/
import Derived.Test.YtedblhcehlbbmabDoorWalkEvents
import Derived.WalkKit
import Derived.WalkSpells
import Derived.WalkLawsBesides
namespace Go.Proofs.YtedblhcehlbbmabDoor
open Go.RowKit

/-- The events that kept adds. -/
def selE (es : List Ev) (loan : Int) : List Ev := if loan < 0 then es else ownE es loan
theorem selE_snoc (es : List Ev) (e : Ev) (loan : Int) : selE (es ++ [e]) loan = if loan < 0 ∨ e.loan = loan then selE es loan ++ [e] else selE es loan := by
  unfold selE
  by_cases h : loan < 0
  · rw [if_pos h, if_pos h, if_pos (.inl h)]
  · rw [if_neg h, if_neg h, ownE_snoc]
    by_cases h2 : e.loan = loan
    · rw [if_pos h2, if_pos (.inr h2)]
    · rw [if_neg h2, if_neg (fun x => x.elim h h2)]
theorem selE_nil (loan : Int) : selE [] loan = [] := by unfold selE; split <;> rfl
theorem selE_len (es : List Ev) (loan : Int) : (selE es loan).length ≤ es.length := by
  unfold selE; split
  · exact Nat.le_refl _
  · exact List.length_filter_le _ _
theorem selE_last (es : List Ev) (loan : Int) (h : GoodE es) : lastD (selE es loan) ≤ lastD es := by
  have hsub : ∀ e ∈ selE es loan, e ∈ es := by
    intro e he
    unfold selE at he
    split at he
    · exact he
    · exact (ownE_sub es loan e he).1
  rcases List.eq_nil_or_concat (selE es loan) with h0 | ⟨q, x, h0⟩
  · rw [h0, lastD_nil]; exact h.last_bd.1
  · rw [List.concat_eq_append] at h0
    rw [h0, lastD_snoc]
    exact h.last x (hsub x (by rw [h0]; simp))
theorem takeE_snoc (es : List Ev) (k : Nat) (h : k < es.length) : es.take (k + 1) = es.take k ++ [es[k]] := List.take_succ_eq_append_getElem h
theorem good_mid (es : List Ev) (k : Nat) (h : k < es.length) (hg : GoodE es) : MayE es[k] ∧ lastD (es.take k) ≤ es[k].day ∧ (es.take k).length < 200 := by
  have e : es = es.take k ++ es[k] :: es.drop (k + 1) := by rw [List.getElem_cons_drop, List.take_append_drop]
  have h2 := hg
  rw [e] at h2
  have := h2.mid
  exact ⟨this.2.1, this.2.2, this.1⟩

set_option maxRecDepth 20000 in
set_option maxHeartbeats 2000000 in
theorem kept_any {w0 : World} {Rep : World → (Nat → Prop) → Value → List Ev → Prop} (T : BookSpec w0 Rep) (n : Nat) (a : Option Addr) (es : List Ev) (cap : Nat) (loan : Int) (w : World) (hn : es.length = n) (hs : Evs w a es) (hlt : ∀ b, a = some ⟨b, 0, none⟩ → b < w.heap.size) (hk : Below w0.heap.size w0 w) (hg : GoodE es) :
    Calls Tryd.prog 6 #[.slice a n cap, .int .i64 loan] w fun e w' => ∃ ad, e = .returned (.pointer (some ad)) ∧ RepB Rep w.heap.size w' (.pointer (some ad)) (selE es loan) ∧ Below w.heap.size w w' := by
  have HN := hid hn; have HS := hid hs; have HLT := hid hlt; have HG := hid hg; have TC := hid T
  have HNW := hid (T.newB w hk)
  have h200 : n ≤ 200 := by rw [← hn]; exact hg.1
  have hsz0 := hk.size
  clear hn hs hlt hg T
  go_enter Tryd.func6, Tryd.ntmps6
  go_wp2_with fail
  refine HNW.out.mono ?_
  rintro e w1 ⟨ad, rfl, hrep, hb1⟩
  have HR1 := hid hrep
  clear hrep
  go_wp2_with fail
  go_loopw [6, 7] (fun i _ wr => ∃ k : Nat, k ≤ n ∧ i = .int .i64 (k : Int) ∧ Hid (RepB Rep w.heap.size wr (.pointer (some ad)) (selE (es.take k) loan)) ∧ Below w.heap.size w wr) (fun i _ _ => n - (intOf i).toNat)
  case atStart => exact ⟨0, Nat.zero_le _, rfl, by rw [List.take_zero, selE_nil]; exact HR1.out, hb1⟩
  case round =>
    obtain ⟨k, hkn, rfl, HR, hbel⟩ := hrel
    by_cases hlt : k < n
    · have hlen := HN.out
      have hkl : k < es.length := by omega
      obtain ⟨b, rfl, hc⟩ := (HS.out.under hbel HLT.out).at (by omega)
      obtain ⟨h0, h1, h2, h3⟩ := hc k hkl
      have hmid := good_mid es k hkl HG.out
      have HTK := hid (takeE_snoc es k hkl)
      have HSN := hid (selE_snoc (es.take k) es[k] loan)
      have hls := selE_last (es.take k) loan (HG.out.take k)
      have hln := selE_len (es.take k) loan
      have hszr := hbel.size
      have HADD := hid (TC.out.addOk w.heap.size wr (.pointer (some ad)) (selE (es.take k) loan) es[k] (hk.trans (hbel.mono hsz0)) HR.out hszr (by omega) hmid.1 (by omega))
      unfold evV at HADD
      clear hmid hls hln hc hlen HLT HS
      generalize es[k] = e at h0 h1 h2 h3 HTK HSN HADD
      obtain ⟨el, ek, ea, ed⟩ := e
      simp only at h0 h1 h2 h3 HTK HSN HADD
      by_cases hl0 : loan < 0
      · have i1 : ¬ (0 : Int) ≤ loan := by omega
        rw [if_pos (.inl hl0)] at HSN
        clear hkl
        go_wp2_with fail
        refine HADD.out.mono ?_
        rintro e w2 ⟨rfl, hrep2, hb2⟩
        have HR2 : Hid (RepB Rep w.heap.size w2 (.pointer (some ad)) (selE (es.take (k + 1)) loan)) := by show RepB _ _ _ _ _; rw [HTK.out, HSN.out]; exact hrep2
        have hbel2 := hbel.trans hb2
        clear hrep2
        go_wp2_with fail
        go_roundw
        case rel => exact ⟨k + 1, by omega, by go_num, HR2, hbel2⟩
        case measure => simp [intOf]; omega
      · by_cases hl1 : el = loan
        · have i1 : (0 : Int) ≤ loan := by omega
          rw [if_pos (.inr hl1)] at HSN
          subst hl1
          clear hkl
          go_wp2_with fail
          refine HADD.out.mono ?_
          rintro e w2 ⟨rfl, hrep2, hb2⟩
          have HR2 : Hid (RepB Rep w.heap.size w2 (.pointer (some ad)) (selE (es.take (k + 1)) el)) := by show RepB _ _ _ _ _; rw [HTK.out, HSN.out]; exact hrep2
          have hbel2 := hbel.trans hb2
          clear hrep2
          go_wp2_with fail
          go_roundw
          case rel => exact ⟨k + 1, by omega, by go_num, HR2, hbel2⟩
          case measure => simp [intOf]; omega
        · have i1 : (0 : Int) ≤ loan := by omega
          have i2 : (el != loan) = true := by simp; exact hl1
          rw [if_neg (fun x => x.elim hl0 hl1)] at HSN
          have HR2 : Hid (RepB Rep w.heap.size wr (.pointer (some ad)) (selE (es.take (k + 1)) loan)) := by show RepB _ _ _ _ _; rw [HTK.out, HSN.out]; exact HR.out
          clear hkl hl1
          go_wp2_with fail
          go_roundw
          case rel => exact ⟨k + 1, by omega, by go_num, HR2, hbel⟩
          case measure => simp [intOf]; omega
    · have HE : Hid (RepB Rep w.heap.size wr (.pointer (some ad)) (selE es loan)) := by
        have := HR.out
        rw [List.take_of_length_le (by rw [HN.out]; omega)] at this
        exact this
      go_wp2_with fail
      go_ret
      exact ⟨_, rfl, HE.out, hbel⟩

end Go.Proofs.YtedblhcehlbbmabDoor

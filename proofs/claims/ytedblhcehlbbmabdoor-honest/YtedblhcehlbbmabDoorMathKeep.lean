/-
  THE PLAIN MATHEMATICS OF GOOD PROOFS: Path's path leads to the root; Further's path joins the beginning's root with the whole's. Nothing of the translation is imported.
-/
import Derived.Test.YtedblhcehlbbmabDoorMathTwin
namespace Go.Proofs.YtedblhcehlbbmabDoor

theorem path_leads (n : Nat) : ∀ (xs : List Int) (i : Nat) (h : i < xs.length), xs.length = n → leadR n i xs[i] (pathR xs i) = some (top xs) := by
  induction n using Nat.strongRecOn with
  | ind n ih =>
    intro xs i h hn
    by_cases h1 : n = 1
    · subst h1
      match xs, hn with
      | [a], _ =>
        have hi : i = 0 := by simp at h; omega
        subst hi
        rw [pathR_short _ _ (by simp), leadR_one _ _ _ _ (Nat.le_refl _), if_pos rfl, top_one]; rfl
    · have hc := cutN_is n (by omega)
      have hp := hc.pos
      have hlt := hc.2.1
      generalize cutN n = k at hc hp hlt
      rw [path_cut n xs k i hn hc (by omega), top_cut n xs k hn hc]
      by_cases hk : i < k
      · rw [if_pos hk, lead_cut n k i _ _ _ hc (by omega), if_pos hk]
        have hl : (xs.take k).length = k := by rw [List.length_take]; omega
        have e := ih k (by omega) (xs.take k) i (by omega) hl
        rw [List.getElem_take] at e
        rw [e]; rfl
      · rw [if_neg hk, lead_cut n k i _ _ _ hc (by omega), if_neg hk]
        have hl : (xs.drop k).length = n - k := by rw [List.length_drop]; omega
        have e := ih (n - k) (by omega) (xs.drop k) (i - k) (by omega) hl
        rw [List.getElem_drop] at e
        have e1 : k + (i - k) = i := by omega
        simp only [e1] at e
        rw [e]; rfl

theorem fur_joins (n : Nat) : ∀ (xs : List Int) (m : Nat) (b : Bool) (old : Int), xs.length = n → 1 ≤ m → m ≤ n → (b = true → old = top (xs.take m)) →
    joinR m n old b (furR xs m b).reverse = some (top (xs.take m), top xs) := by
  induction n using Nat.strongRecOn with
  | ind n ih =>
    intro xs m b old hn h1 h2 ho
    by_cases he : m = n
    · subst he
      rw [joinR_end _ _ _ _ h1, furR_end _ _ _ (by omega) (by omega)]
      rw [List.take_of_length_le (by omega)] at ho ⊢
      cases b with
      | true => rw [if_pos rfl, if_pos rfl, ho rfl]; rfl
      | false => rfl
    · have hc := cutN_is n (by omega)
      have hp := hc.pos
      have hlt := hc.2.1
      have hle := hc.2.2
      generalize cutN n = k at hc hp hlt hle
      have hcx : IsCut xs.length k := by rw [hn]; exact hc
      by_cases hk : m ≤ k
      · rw [furR_le xs m k b h1 hcx hk, List.reverse_append, List.reverse_singleton, List.singleton_append, joinR_le m n k old _ b _ h1 hc hk]
        have e := ih k (by omega) (xs.take k) m b old (by rw [List.length_take]; omega) h1 hk (fun hb => by rw [List.take_take, Nat.min_eq_left hk]; exact ho hb)
        rw [List.take_take, Nat.min_eq_left hk] at e
        rw [e, top_cut n xs k hn hc]; rfl
      · rw [furR_gt xs m k b hcx (by omega) (by omega), List.reverse_append, List.reverse_singleton, List.singleton_append, joinR_gt m n k old _ b _ hc (by omega) (by omega)]
        have e := ih (n - k) (by omega) (xs.drop k) (m - k) false old (by rw [List.length_drop]; omega) (by omega) (by omega) (fun hb => by cases hb)
        have hcm : IsCut m k := ⟨hc.1, by omega, by omega⟩
        have hlm : (xs.take m).length = m := by rw [List.length_take]; omega
        rw [e, top_cut n xs k hn hc, top_cut m (xs.take m) k hlm hcm, List.take_take, Nat.min_eq_left (by omega), List.drop_take]; rfl

theorem fur_bd (n : Nat) : ∀ (xs : List Int) (m : Nat) (b : Bool), xs.length = n → 1 ≤ m → m ≤ n → (∀ x ∈ xs, Bd x) → ∀ x ∈ furR xs m b, Bd x := by
  induction n using Nat.strongRecOn with
  | ind n ih =>
    intro xs m b hn h1 h2 hb x hx
    by_cases he : m = n
    · subst he
      rw [furR_end _ _ _ (by omega) (by omega)] at hx
      split at hx
      · simp at hx
      · simp only [List.mem_singleton] at hx; subst hx; exact top_bd _ hb
    · have hc := cutN_is n (by omega)
      have hp := hc.pos
      have hlt := hc.2.1
      generalize cutN n = k at hc hp hlt
      have hcx : IsCut xs.length k := by rw [hn]; exact hc
      by_cases hk : m ≤ k
      · rw [furR_le xs m k b h1 hcx hk] at hx
        rcases List.mem_append.1 hx with hx | hx
        · exact ih k (by omega) (xs.take k) m b (by rw [List.length_take]; omega) h1 hk (fun y hy => hb y (List.mem_of_mem_take hy)) x hx
        · simp only [List.mem_singleton] at hx; subst hx; exact top_bd _ (fun y hy => hb y (List.mem_of_mem_drop hy))
      · rw [furR_gt xs m k b hcx (by omega) (by omega)] at hx
        rcases List.mem_append.1 hx with hx | hx
        · exact ih (n - k) (by omega) (xs.drop k) (m - k) false (by rw [List.length_drop]; omega) (by omega) (by omega) (fun y hy => hb y (List.mem_of_mem_drop hy)) x hx
        · simp only [List.mem_singleton] at hx; subst hx; exact top_bd _ (fun y hy => hb y (List.mem_of_mem_take hy))

end Go.Proofs.YtedblhcehlbbmabDoor

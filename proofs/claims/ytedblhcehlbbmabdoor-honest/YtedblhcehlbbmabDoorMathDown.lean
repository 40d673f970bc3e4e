/-
  THE TWO TEXTS THAT Lie ANSWERS: going down from the head's text; the bits of a loan.
-/
import Derived.Test.YtedblhcehlbbmabDoorMathLie
namespace Go.Proofs.YtedblhcehlbbmabDoor

/-- Going down from the n-th text: the first place where they part. -/
def downA (a b : Acc) : Nat → Nat
  | 0 => 0
  | n + 1 => if textA a (n + 1) = textA b (n + 1) then downA a b n else n + 1
theorem downA_le (a b : Acc) (n : Nat) : downA a b n ≤ n := by
  induction n with
  | zero => exact Nat.le_refl _
  | succ n ih => unfold downA; split <;> omega
theorem downA_at (a b : Acc) (d n : Nat) (hd : d ≤ n) (hne : textA a d ≠ textA b d) (hall : ∀ e, d < e → e ≤ n → textA a e = textA b e) : downA a b n = d := by
  induction n with
  | zero => obtain rfl : d = 0 := by omega
            rfl
  | succ n ih =>
    unfold downA
    by_cases h : d = n + 1
    · subst h; rw [if_neg hne]
    · rw [if_pos (hall (n + 1) (by omega) (by omega))]
      exact ih (by omega) (fun e h1 h2 => hall e h1 (by omega))
def lx (es : List Ev) (a : Acc) : List UInt8 := textA a (downA a (accOf es a.loan.toNat) 7)
def ly (es : List Ev) (a : Acc) : List UInt8 := textA (accOf es a.loan.toNat) (downA a (accOf es a.loan.toNat) 7)
theorem lie_ok : LieOk lx ly := by
  refine ⟨fun es a hg _ hc => ?_, fun es a hg _ hc => ?_, fun es a hg _ hc => ?_, fun es a hg _ hc => ?_⟩
  all_goals obtain ⟨_, hl, d, hd, hne, hsm, hall⟩ := lie_top es a hg hc
  all_goals have e := downA_at a _ d 7 hd hne hall
  all_goals simp only [lx, ly]
  all_goals rw [e]
  · exact hne
  · exact hsm
  · exact textA_mem a d hd
  · exact textA_book es _ d hl hd
theorem bit_lo (l d : Nat) (hd : d < 6) (h : l % 2 ^ (d + 1) < 2 ^ d) : l / 2 ^ d = 2 * (l / 2 ^ (d + 1)) ∧ l % 2 ^ d = l % 2 ^ (d + 1) := by
  rcases (by omega : d = 0 ∨ d = 1 ∨ d = 2 ∨ d = 3 ∨ d = 4 ∨ d = 5) with rfl | rfl | rfl | rfl | rfl | rfl <;> simp only [Nat.reduceAdd, Nat.reducePow] at h ⊢ <;> omega
theorem bit_hi (l d : Nat) (hd : d < 6) (h : ¬ l % 2 ^ (d + 1) < 2 ^ d) : l / 2 ^ d = 2 * (l / 2 ^ (d + 1)) + 1 ∧ l % 2 ^ d = l % 2 ^ (d + 1) - 2 ^ d := by
  rcases (by omega : d = 0 ∨ d = 1 ∨ d = 2 ∨ d = 3 ∨ d = 4 ∨ d = 5) with rfl | rfl | rfl | rfl | rfl | rfl <;> simp only [Nat.reduceAdd, Nat.reducePow] at h ⊢ <;> omega
theorem side_lo (f : Nat → St) (l d : Nat) (hd : d < 6) (h : l % 2 ^ (d + 1) < 2 ^ d) : sideL f l d = mapL f d (2 * (l / 2 ^ (d + 1)) + 1) := by
  unfold sideL nextTo
  rw [(bit_lo l d hd h).1, if_pos (by omega)]
theorem side_hi (f : Nat → St) (l d : Nat) (hd : d < 6) (h : ¬ l % 2 ^ (d + 1) < 2 ^ d) : sideL f l d = mapL f d (2 * (l / 2 ^ (d + 1))) := by
  unfold sideL nextTo
  rw [(bit_hi l d hd h).1, if_neg (by omega)]
  congr 1

end Go.Proofs.YtedblhcehlbbmabDoor

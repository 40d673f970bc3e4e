/-
  THE PLAIN MATHEMATICS OF THE SUM (DOC.md, 'The sum'). Nothing of the translation is imported.
-/
import Derived.WalkKit
namespace Go.Proofs.YtedblhcehlbbmabDoor

/-- One byte more. -/
def smStep (s : Int) (b : UInt8) : Int := (s * 263 + (b.toNat : Int) + 1) % 4093
/-- The sum of a text. -/
def sm (l : List UInt8) : Int := l.foldl smStep 0

theorem sm_nil : sm [] = 0 := rfl
theorem sm_snoc (l : List UInt8) (c : UInt8) : sm (l ++ [c]) = (sm l * 263 + (c.toNat : Int) + 1) % 4093 := by
  unfold sm; rw [List.foldl_append]; rfl
theorem sm_bd (l : List UInt8) : 0 ≤ sm l ∧ sm l ≤ 4092 := by
  rcases List.eq_nil_or_concat l with rfl | ⟨l', c, rfl⟩
  · simp [sm_nil]
  · rw [List.concat_eq_append, sm_snoc]; omega
theorem take_snoc (s : ByteArray) (k : Nat) (h : k < s.size) : s.data.toList.take (k + 1) = s.data.toList.take k ++ [s[k]] := by
  rw [List.take_succ_eq_append_getElem (by simpa using h)]; rfl
theorem sm_take (s : ByteArray) (k : Nat) (h : k < s.size) : sm (s.data.toList.take (k + 1)) = (sm (s.data.toList.take k) * 263 + (s[k].toNat : Int) + 1) % 4093 := by
  rw [take_snoc s k h, sm_snoc]
theorem take_all (s : ByteArray) : s.data.toList.take s.size = s.data.toList := List.take_of_length_le (by simp)

end Go.Proofs.YtedblhcehlbbmabDoor

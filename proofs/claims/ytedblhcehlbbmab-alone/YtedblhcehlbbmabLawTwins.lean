/-
  lenderlaw.Twins, out of what a call of Twins answers (TwinsSpec): the law's own part.
-/
import Derived.Test.YtedblhcehlbbmabLawTwin
import Derived.Test.YtedblhcehlbbmabWalkGrowTexts
import Derived.Laws.AppendOwnNone
import Derived.WalkKit
import Derived.WalkSpells
import Derived.WalkLawsBesides
namespace Go.Proofs.Ytedblhcehlbbmab
open Go.RowKit

/-- 'out = append(out, us...)': both lists of the call's own. -/
theorem wpList_catS {w : World} {ops : Array Oper} {rest : List Oper} {o : Oper} {a : Act} {Q : Exit → Act → World → Prop} (hgd : o.guard = none) (s x : Operand)
    (ho : o.op = .call { callee := .builtin .append, args := #[s, x], argTypes := #[22, 22] })
    (B B' : Nat) (v vx : Value) (l us : List ByteArray) (hs : a.eval s = v) (hown : OwnS w B v l) (hx : a.eval x = vx) (hxo : OwnS w B' vx us)
    (hlen : l.length + us.length ≤ 1000000) (hB : B ≤ w.heap.size)
    (h : ∀ v' w', OwnS w' B v' (l ++ us) → Below B w w' → w.grownBy w' v.ownBlock → wpList Try.prog ops Q rest (a.put o.dst v') w') : wpList Try.prog ops Q (o :: rest) a w := by
  obtain ⟨i0, hi, hz0, hz1, hz2⟩ := info_parts Try.infoStr
  have hxo' := hxo
  obtain ⟨h1, h2⟩ := hxo
  rcases h2 with ⟨rfl, h2⟩ | ⟨g, cap, cur, rfl, e2, e3, e4, e5, e6, e7⟩
  · obtain rfl : us = [] := List.eq_nil_of_length_eq_zero h2
    refine wpList_append_own_none hgd s x 22 ho B 9 i0 1 Try.underlying22 hi v l.length (sv l) hs hown hx (h v w (by rw [List.append_nil]; exact hown) (Below.refl _ _) ⟨rfl, rfl, rfl, Nat.le_refl _, fun _ _ _ => rfl⟩)
  · refine wpList_append_own _ hgd s x 22 ho B 9 i0 (.string ⟨#[]⟩) 1 16 Try.underlying22 hi hz0 hz1 hz2 rfl (by decide) v l.length (sv l) hs hown ⟨g, 0, none⟩ us.length cap (sv us) hx (by rw [length_sv, Nat.mul_one]) ?_ ?_ (by unfold maxLen; omega) (by omega) hB ?_
    · intro j u hj
      exact World.ownsRow.cells hxo' (g := g) rfl j u hj
    · intro u hu
      obtain ⟨s, _, rfl⟩ := List.mem_map.1 hu
      rfl
    · intro v' w' h1 h2 _
      refine h v' w' ?_ ((Below.refl _ _).grown h2 hB (fun k hk => (hown.lt k hk).1)) h2
      unfold OwnS
      rw [sv_append, List.length_append]
      exact h1

/-- What a call of Twins answers: the two texts and the error, as a function of what it is given. -/
structure TwinsSpec (f : List ByteArray → List ByteArray → List Int → ByteArray × ByteArray × Int) : Prop where
  call : ∀ (n m l : Nat) (a b d : Option Addr) (aa bb : List ByteArray) (zs : List Int) (ca cb cd : Nat) (w : World), aa.length = n → bb.length = m → zs.length = l → Strs w a aa → Strs w b bb → Ints w d zs → n * 16 ≤ 140737488351232 → m * 16 ≤ 140737488351232 → l * 8 ≤ 140737488351232 → n ≤ ca → ca ≤ maxLen → m ≤ cb → cb ≤ maxLen → l ≤ cd → cd ≤ maxLen →
    Calls Try.prog 18 #[.slice a n ca, .slice b m cb, .slice d l cd] w fun e w' => e = .returned (.tuple #[.string (f aa bb zs).1, .string (f aa bb zs).2.1, .int .i64 (f aa bb zs).2.2]) ∧ Below w.heap.size w w'
  long : ∀ (aa bb : List ByteArray) (zs : List Int), longB aa = true ∨ longB bb = true → f aa bb zs = (eS, eS, 2)
  calm : ∀ (aa bb : List ByteArray) (zs : List Int), longB aa = false → longB bb = false → (growsB (rootS aa) (aa.length : Int) (rootS bb) (bb.length : Int) zs = false ∨ beginsB aa bb = true) → f aa bb zs = (eS, eS, 3)
  away : ∀ (aa bb : List ByteArray) (zs : List Int), longB aa = false → longB bb = false → growsB (rootS aa) (aa.length : Int) (rootS bb) (bb.length : Int) zs = true → beginsB aa bb = false →
    ∃ t u, t ∈ ltx aa ++ ltx bb ++ gtx aa.length bb.length (rootS aa) zs ∧ u ∈ ltx aa ++ ltx bb ++ gtx aa.length bb.length (rootS aa) zs ∧ f aa bb zs = (t, u, 0) ∧ t ≠ u ∧ sm t.data.toList = sm u.data.toList

theorem growTT_five : ∀ (ts : List Turn) (ps : List Int) (x : Int), ∀ b ∈ growTT ts ps x, b.length = 5
  | [], _, _, b, h => by simp [growTT] at h
  | _ :: _, [], _, b, h => by simp [growTT] at h
  | t :: ts, p :: ps, x, b, h => by
    simp only [growTT] at h
    rcases List.mem_append.1 h with h | h
    · exact growTT_five ts ps x b h
    · split at h
      · simp only [List.mem_singleton] at h; subst h; rfl
      · simp only [List.mem_cons, List.not_mem_nil, or_false] at h
        rcases h with rfl | rfl <;> rfl
theorem gtx_size {m n : Nat} {old : Int} {zs : List Int} {t : ByteArray} (h : t ∈ gtx m n old zs) : t.size ≤ 1000000 := by
  unfold gtx growTx at h
  obtain ⟨b, hb, rfl⟩ := List.mem_map.1 h
  rw [size_bs, growTT_five _ _ _ b hb]; decide
theorem length_gtx (m n : Nat) (old : Int) (zs : List Int) (h1 : 1 ≤ m) (h2 : m ≤ n) : (gtx m n old zs).length ≤ 2 * n := by
  unfold gtx growTx
  rw [List.length_map]
  have := length_growTT (turnR m 0 n true).1 zs.reverse (startOf (rootS []) (turnR m 0 n true).2.1 zs.reverse)
  have h3 := (turnR_in n m 0 n true (by omega) (by omega) h2).2.1
  have := length_growTT (turnR m 0 n true).1 zs.reverse (startOf old (turnR m 0 n true).2.1 zs.reverse)
  omega

end Go.Proofs.Ytedblhcehlbbmab

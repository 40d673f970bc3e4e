import Derived.Test.YtedblhcehlbbmaaGreatDoorJWalkHand
import Derived.Test.YtedblhcehlbbmaaGreatDoorJMathSum
import Derived.WalkKit
import Derived.WalkSpells
import Derived.WalkLawsBesides
import Derived.Deep.QuietTactic
import Derived.BigQuiet
import Derived.Deep.RegionHeld3
import Derived.Deep.DrawnRows
import Derived.Deep.AppendLies
/-
  CONTRACTS: lists of texts: lenderref.among, Away, knot, LogTexts, PathTexts.
-/
namespace Go.Proofs.YtedblhcehlbbmaaGreatDoor
set_option maxRecDepth 20000
open Go.RowKit

theorem sv_append (a b : List ByteArray) : sv (a ++ b) = sv a ++ sv b := by simp [sv]
/-- The slice v is the call's own (from block B on) and holds these texts. -/
def OwnS (w : World) (B : Nat) (v : Value) (l : List ByteArray) : Prop := w.ownsRow B 9 1 v l.length (sv l)
theorem OwnS.nil (w : World) (B : Nat) : OwnS w B (.slice none 0 0) [] := World.ownsRow_nil _ _ _ _
theorem OwnS.alloc {w : World} {B : Nat} {v : Value} {l : List ByteArray} (h : OwnS w B v l) (o : Obj) : OwnS (w.alloc o) B v l := World.ownsRow.alloc h o
theorem OwnS.kept {w w' : World} {B : Nat} {v : Value} {l : List ByteArray} (h : OwnS w B v l) (hb : Below w.heap.size w w') : OwnS w' B v l := by
  obtain ⟨h1, h2⟩ := h
  refine ⟨h1, ?_⟩
  rcases h2 with h2 | ⟨g, cap, cur, e1, e2, e3, e4⟩
  · exact .inl h2
  · have hg : g < w.heap.size := by
      rcases Nat.lt_or_ge g w.heap.size with h | h
      · exact h
      · rw [Array.getElem?_eq_none h] at e3; cases e3
    exact .inr ⟨g, cap, cur, e1, e2, by rw [hb.block g hg]; exact e3, e4⟩
theorem OwnS.mono {w : World} {B B' : Nat} {v : Value} {l : List ByteArray} (h : OwnS w B v l) (hB : B' ≤ B) : OwnS w B' v l := by
  obtain ⟨h1, h2⟩ := h
  refine ⟨h1, ?_⟩
  rcases h2 with h2 | ⟨g, cap, cur, e1, e2, e3⟩
  · exact .inl h2
  · exact .inr ⟨g, cap, cur, e1, by omega, e3⟩
theorem OwnS.form {w : World} {B : Nat} {v : Value} {l : List ByteArray} (h : OwnS w B v l) : ∃ a cap, v = .slice a l.length cap ∧ l.length ≤ cap ∧ cap ≤ maxLen ∧ Strs w a l := by
  have hh := h
  obtain ⟨h1, h2⟩ := h
  rcases h2 with ⟨rfl, h2⟩ | ⟨g, cap, cur, rfl, e2, e3, e4, e5, e6, e7⟩
  · rw [h2]; exact ⟨none, 0, rfl, Nat.le_refl _, Nat.zero_le _, .inl (List.eq_nil_of_length_eq_zero h2)⟩
  · refine ⟨_, cap, rfl, e4, e5, .inr ⟨g, 0, rfl, fun i hi => ?_⟩⟩
    rw [Nat.zero_add, World.ownsRow.cellAt hh i (by omega)]
    simp [sv, List.getElem?_eq_getElem hi]
/-- A row of the call's own that another row's append does not touch. -/
theorem OwnS.grown {w w' : World} {B : Nat} {v : Value} {l : List ByteArray} {row : Option Nat} (h : OwnS w B v l) (hg : w.grownBy w' row) (hne : ∀ k, v.ownBlock = some k → some k ≠ row) : OwnS w' B v l := by
  obtain ⟨h1, h2⟩ := h
  refine ⟨h1, ?_⟩
  rcases h2 with h2 | ⟨g, cap, cur, e1, e2, e3, e4⟩
  · exact .inl h2
  · have hgl : g < w.heap.size := by
      rcases Nat.lt_or_ge g w.heap.size with h | h
      · exact h
      · rw [Array.getElem?_eq_none h] at e3; cases e3
    exact .inr ⟨g, cap, cur, e1, e2, by rw [hg.block g hgl (hne g (by rw [e1]; rfl))]; exact e3, e4⟩
theorem Own.apart {w w' : World} {B : Nat} {v : Value} {l : List Int} {row : Option Nat} (h : Own w B v l) (hg : w.grownBy w' row) (hne : ∀ k, v.ownBlock = some k → some k ≠ row) : Own w' B v l := by
  obtain ⟨h1, h2⟩ := h
  refine ⟨h1, ?_⟩
  rcases h2 with h2 | ⟨g, cap, cur, e1, e2, e3, e4⟩
  · exact .inl h2
  · have hgl : g < w.heap.size := by
      rcases Nat.lt_or_ge g w.heap.size with h | h
      · exact h
      · rw [Array.getElem?_eq_none h] at e3; cases e3
    exact .inr ⟨g, cap, cur, e1, e2, by rw [hg.block g hgl (hne g (by rw [e1]; rfl))]; exact e3, e4⟩
theorem OwnS.lt {w : World} {B : Nat} {v : Value} {l : List ByteArray} (h : OwnS w B v l) : ∀ k, v.ownBlock = some k → B ≤ k ∧ k < w.heap.size := World.ownsRow.lt h
theorem OwnS.one (w : World) (x : ByteArray) (B : Nat) (hB : B ≤ w.heap.size) : OwnS (w.alloc (.cells #[.string x] 9)) B (.slice (some ⟨w.heap.size, 0, none⟩) 1 1) [x] :=
  ⟨rfl, .inr ⟨w.heap.size, 1, #[.string x], rfl, hB, heap_alloc_new w _, Nat.le_refl _, by decide, rfl, rfl⟩⟩

/-- 'out = append(out, s)': out the call's own, s one text, laid in a block of its own first. -/
theorem wpList_appS {w : World} {ops : Array Oper} {rest : List Oper} {o : Oper} {a : Act} {Q : Exit → Act → World → Prop} (hgd : o.guard = none) (s x : Operand)
    (ho : o.op = .call { callee := .builtin .append, args := #[s, x], argTypes := #[37, 37] })
    (B : Nat) (v : Value) (l : List ByteArray) (t : ByteArray) (hs : a.eval s = v) (hown : OwnS w B v l) (g : Nat) (c : Nat) (hx : a.eval x = .slice (some ⟨g, 0, none⟩) 1 c) (hcell : w.cell? ⟨g, 0, none⟩ = some (.string t))
    (hlen : l.length ≤ 1000000) (hB : B ≤ w.heap.size)
    (h : ∀ v' w', OwnS w' B v' (l ++ [t]) → Below B w w' → w.grownBy w' v.ownBlock → wpList Tryz.prog ops Q rest (a.put o.dst v') w') : wpList Tryz.prog ops Q (o :: rest) a w := by
  obtain ⟨i0, hi, hz0, hz1, hz2⟩ := info_parts Tryz.infoStr
  refine wpList_append_own _ hgd s x 37 ho B 9 i0 (.string ⟨#[]⟩) 1 16 Tryz.underlying37 hi hz0 hz1 hz2 rfl (by decide) v l.length (sv l) hs hown ⟨g, 0, none⟩ 1 c [.string t] hx rfl ?_ ?_ (by unfold maxLen; omega) (by omega) hB ?_
  · intro j u hj
    match j, hj with
    | 0, hj => simp at hj; subst hj; simpa [Addr.add] using hcell
  · intro u hu; simp at hu; subst hu; rfl
  · intro v' w' h1 h2 _
    refine h v' w' ?_ ((Below.refl _ _).grown h2 hB (fun k hk => (hown.lt k hk).1)) h2
    unfold OwnS
    rw [sv_append, List.length_append]
    exact h1

/-- The same at a step of a region that draws its order; besides, where the new slice lies. -/
theorem step_appS {w : World} {ops : Array Oper} {o : Oper} {a : Act} {K : Act → World → Prop} {Q : Exit → Act → World → Prop} {E : Prop} (hgd : o.guard = none) (s x : Operand)
    (ho : o.op = .call { callee := .builtin .append, args := #[s, x], argTypes := #[37, 37] })
    (B : Nat) (v : Value) (l : List ByteArray) (t : ByteArray) (hs : a.eval s = v) (hown : OwnS w B v l) (g : Nat) (c : Nat) (hx : a.eval x = .slice (some ⟨g, 0, none⟩) 1 c) (hcell : w.cell? ⟨g, 0, none⟩ = some (.string t))
    (hlen : l.length ≤ 1000000) (hB : B ≤ w.heap.size)
    (h : ∀ v' w', OwnS w' B v' (l ++ [t]) → Below B w w' → w.grownBy w' v.ownBlock → (v'.ownBlock = v.ownBlock ∨ v'.ownBlock = some w.heap.size) → K (a.put o.dst v') w') :
    if Region.wanted o (yielded ops a.tmps) = true then Oper.wp Tryz.prog o a w K Q else E := by
  obtain ⟨i0, hi, hz0, hz1, hz2⟩ := info_parts Tryz.infoStr
  refine step_append_lies _ hgd s x 37 ho B 9 i0 (.string ⟨#[]⟩) 1 16 Tryz.underlying37 hi hz0 hz1 hz2 rfl (by decide) v l.length (sv l) hs hown ⟨g, 0, none⟩ 1 c [.string t] hx rfl ?_ ?_ (by omega) (by unfold maxLen; omega) (by omega) hB w.heap.size rfl ?_
  · intro j u hj
    match j, hj with
    | 0, hj => simp at hj; subst hj; simpa [Addr.add] using hcell
  · intro u hu; simp at hu; subst hu; rfl
  · intro g' cap' w' h1 h2 hat _
    refine h _ w' ?_ ((Below.refl _ _).grown h2 hB (fun k hk => (hown.lt k hk).1)) h2 (by rcases hat with h | h; exact .inl h.symm; exact .inr (by rw [h]; rfl))
    unfold OwnS
    rw [sv_append, List.length_append]
    exact h1

/-- lenderref.among, where the text is there. -/
theorem among_any (n : Nat) (a : Option Addr) (ts : List ByteArray) (cap : Nat) (s : ByteArray) (w : World) (hn : ts.length = n) (hs : Strs w a ts) (hr : n ≤ 1000000) (hin : s ∈ ts) :
    Calls Tryz.prog 80 #[.slice a n cap, .string s] w fun e w' => e = .returned (.bool true) ∧ w' = w := by
  obtain ⟨j, hj, hjs⟩ := List.getElem_of_mem hin
  obtain ⟨b, off, rfl, hc⟩ := hs.at (by omega)
  have HC := hid hc
  have HN := hid hn
  have HJ := hid hjs
  have hjn : j < n := by omega
  clear hc hs hin hjs
  go_enter Tryz.func80, Tryz.ntmps80
  go_wp2
  go_loop [5] (fun i => ∃ k : Nat, k ≤ j ∧ i = .int .i64 k) (fun i => n - (intOf i).toNat)
  case atStart => exact ⟨0, Nat.zero_le _, rfl⟩
  case round =>
    obtain ⟨k, hk, rfl⟩ := hrel
    have hck := HC.out k (by omega)
    by_cases he : ts[k]'(by omega) = s
    · rw [he] at hck
      clear he hn
      go_wp2
      go_ret
      exact ⟨rfl, rfl⟩
    · have hkj : k ≠ j := fun e => by subst e; exact he HJ.out
      have hne := bne_str he
      generalize ts[k]'(by omega) = z at hck hne
      clear he hn
      go_wp2
      go_round
      case rel => exact ⟨k + 1, by omega, by go_num⟩
      case measure => simp [intOf]; omega

set_option maxHeartbeats 400000 in
/-- lenderref.Away, where it is so. -/
theorem away_any (n m : Nat) (a b : Option Addr) (ts us : List ByteArray) (cap cap2 : Nat) (x y : ByteArray) (w : World) (hn : ts.length = n) (hm : us.length = m) (hs : Strs w a ts) (hu : Strs w b us) (hr : n ≤ 1000000) (hr2 : m ≤ 1000000) (hx : x ∈ ts) (hy : y ∈ us)
    (hxs : x.size ≤ 1000000) (hys : y.size ≤ 1000000) (hne : x ≠ y) (hsm : sm x.data.toList = sm y.data.toList) :
    Calls Tryz.prog 57 #[.string x, .string y, .slice a n cap, .slice b m cap2] w fun e w' => e = .returned (.bool true) ∧ Below w.heap.size w w' := by
  have hb := bne_str hne
  have HS := hid hs; have HU := hid hu; have HN := hid hn; have HM := hid hm; have HX := hid hx; have HY := hid hy; have HSM := hid hsm
  clear hs hu hn hm hx hy hne hsm
  go_enter Tryz.func57, Tryz.ntmps57
  go_wp2_with fail
  refine (rsum_any x _ (by unfold maxLen; omega)).mono ?_
  rintro e w1 ⟨rfl, hb1⟩
  go_wp2_with fail
  refine (rsum_any y _ (by unfold maxLen; omega)).mono ?_
  rintro e w2 ⟨rfl, hb2⟩
  rw [HSM.out]
  generalize sm y.data.toList = z
  go_wp2_with fail
  refine (among_any n a ts cap x _ HN.out (HS.out.kept (kept hb1 hb2)) hr HX.out).mono ?_
  rintro e w3 ⟨rfl, rfl⟩
  go_wp2_with fail
  refine (among_any m b us cap2 y _ HM.out (HU.out.kept (kept hb1 hb2)) hr2 HY.out).mono ?_
  rintro e w4 ⟨rfl, rfl⟩
  go_wp2_with fail
  go_ret
  exact ⟨rfl, kept hb1 hb2⟩

/-- The texts of a log, as Go's strings. -/
def esOf (ss : List ByteArray) : List (List UInt8) := ss.map (·.data.toList)
theorem lvE_esOf (ss : List ByteArray) : lvE (esOf ss) = lvs ss := by simp [lvE, esOf, lvs, entS]
def etx (ss : List ByteArray) : List ByteArray := ss.map fun s => bs (entT s.data.toList)
def rtx (xs : List Int) : List ByteArray := (rowsR xs).map bs
def rowB (xs : List Int) : List ByteArray := (rowT xs).map bs
def ltx (ss : List ByteArray) : List ByteArray := (logT (esOf ss)).map bs
theorem ltx_eq (ss : List ByteArray) : ltx ss = etx ss ++ rtx (lvs ss) := by
  unfold ltx logT etx rtx; rw [lvE_esOf]; simp [esOf]
theorem rtx_short (xs : List Int) (h : xs.length ≤ 1) : rtx xs = [] := by unfold rtx; rw [rowsR_short xs h]; rfl
theorem rtx_more (xs : List Int) (h : 1 < xs.length) : rtx xs = rowB xs ++ rtx (raise xs) := by unfold rtx rowB; rw [rowsR_more xs h, List.map_append]
theorem length_rowT : ∀ xs : List Int, (rowT xs).length = xs.length / 2
  | a :: b :: r => by simp only [rowT, List.length_cons, length_rowT r]; omega
  | [a] => by simp [rowT]
  | [] => by simp [rowT]
theorem rowT_at : ∀ (k : Nat) (l : List Int) (h : 2 * k + 1 < l.length), (rowT l)[k]? = some (nodeT l[2 * k] l[2 * k + 1])
  | 0, a :: b :: r, _ => rfl
  | k + 1, a :: b :: r, h => by
    have := rowT_at k r (by simp at h; omega)
    simp only [rowT, List.getElem?_cons_succ, this]
    rfl
  | k, [a], h => by simp at h
  | k, [], h => by simp at h
theorem length_rowB (xs : List Int) : (rowB xs).length = xs.length / 2 := by unfold rowB; rw [List.length_map, length_rowT]
theorem rowB_take (k : Nat) (l : List Int) (h : 2 * k + 1 < l.length) : (rowB l).take (k + 1) = (rowB l).take k ++ [bs (nodeT l[2 * k] l[2 * k + 1])] := by
  apply take_succ_of
  unfold rowB; rw [List.getElem?_map, rowT_at k l h]; rfl
theorem etx_take (ss : List ByteArray) (k : Nat) (h : k < ss.length) : (etx ss).take (k + 1) = (etx ss).take k ++ [bs (entT ss[k].data.toList)] := by
  rw [List.take_succ_eq_append_getElem (by simp [etx]; omega)]; simp [etx]
theorem length_etx (ss : List ByteArray) : (etx ss).length = ss.length := by simp [etx]
theorem length_rowsF (f : Nat) : ∀ xs : List Int, (rowsF f xs).length ≤ xs.length := by
  induction f with
  | zero => intro xs; simp [rowsF]
  | succ f ih =>
    intro xs
    simp only [rowsF]
    split
    · simp
    · have := ih (raise xs)
      rw [length_raise] at this
      rw [List.length_append, length_rowT]
      omega
theorem length_rtx (xs : List Int) : (rtx xs).length ≤ xs.length := by unfold rtx rowsR; rw [List.length_map]; exact length_rowsF _ _
theorem length_ltx (ss : List ByteArray) : (ltx ss).length ≤ 2 * ss.length := by
  rw [ltx_eq, List.length_append, length_etx]
  have := length_rtx (lvs ss)
  rw [length_lvs] at this
  omega

end Go.Proofs.YtedblhcehlbbmaaGreatDoor

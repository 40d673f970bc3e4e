/-
  CONTRACTS: lists of texts: lenderref.among, Away, knot, LogTexts, PathTexts.
-/
import Derived.Test.YtedblhcehlbbmaaWalkHand
import Derived.Test.YtedblhcehlbbmaaMathTwin
import Derived.WalkKit
import Derived.WalkSpells
import Derived.WalkLawsBesides
import Derived.Deep.QuietTactic
import Derived.BigQuiet
import Derived.Deep.RegionHeld3
import Derived.Deep.DrawnRows
import Derived.Deep.AppendLies
namespace Go.Proofs.Ytedblhcehlbbmaa
open Go.RowKit

theorem sv_append (a b : List ByteArray) : sv (a ++ b) = sv a ++ sv b := by simp [sv]
/-- The slice v is the call's own (from block B on) and holds these texts. -/
def OwnS (w : World) (B : Nat) (v : Value) (l : List ByteArray) : Prop := w.ownsRow B 9 1 v l.length (sv l)
theorem OwnS.nil (w : World) (B : Nat) : OwnS w B (.slice none 0 0) [] := World.ownsRow_nil _ _ _ _
theorem OwnS.alloc {w : World} {B : Nat} {v : Value} {l : List ByteArray} (h : OwnS w B v l) (o : Obj) : OwnS (w.alloc o) B v l := World.ownsRow.alloc h o
theorem OwnS.kept {w w' : World} {B : Nat} {v : Value} {l : List ByteArray} (h : OwnS w B v l) (hb : Below w.heap.size w w') : OwnS w' B v l := by
  obtain ⟨h1, h2⟩ := h
  refine ⟨h1, ?_⟩
  rcases h2 with h2 | ⟨g, cap, cur, e1, e2, e3, e4⟩
  · exact .inl h2
  · have hg : g < w.heap.size := by
      rcases Nat.lt_or_ge g w.heap.size with h | h
      · exact h
      · rw [Array.getElem?_eq_none h] at e3; cases e3
    exact .inr ⟨g, cap, cur, e1, e2, by rw [hb.block g hg]; exact e3, e4⟩
theorem OwnS.mono {w : World} {B B' : Nat} {v : Value} {l : List ByteArray} (h : OwnS w B v l) (hB : B' ≤ B) : OwnS w B' v l := by
  obtain ⟨h1, h2⟩ := h
  refine ⟨h1, ?_⟩
  rcases h2 with h2 | ⟨g, cap, cur, e1, e2, e3⟩
  · exact .inl h2
  · exact .inr ⟨g, cap, cur, e1, by omega, e3⟩
theorem OwnS.form {w : World} {B : Nat} {v : Value} {l : List ByteArray} (h : OwnS w B v l) : ∃ a cap, v = .slice a l.length cap ∧ l.length ≤ cap ∧ cap ≤ maxLen ∧ Strs w a l := by
  have hh := h
  obtain ⟨h1, h2⟩ := h
  rcases h2 with ⟨rfl, h2⟩ | ⟨g, cap, cur, rfl, e2, e3, e4, e5, e6, e7⟩
  · rw [h2]; exact ⟨none, 0, rfl, Nat.le_refl _, Nat.zero_le _, .inl (List.eq_nil_of_length_eq_zero h2)⟩
  · refine ⟨_, cap, rfl, e4, e5, .inr ⟨g, 0, rfl, fun i hi => ?_⟩⟩
    rw [Nat.zero_add, World.ownsRow.cellAt hh i (by omega)]
    simp [sv, List.getElem?_eq_getElem hi]
/-- A row of the call's own that another row's append does not touch. -/
theorem OwnS.grown {w w' : World} {B : Nat} {v : Value} {l : List ByteArray} {row : Option Nat} (h : OwnS w B v l) (hg : w.grownBy w' row) (hne : ∀ k, v.ownBlock = some k → some k ≠ row) : OwnS w' B v l := by
  obtain ⟨h1, h2⟩ := h
  refine ⟨h1, ?_⟩
  rcases h2 with h2 | ⟨g, cap, cur, e1, e2, e3, e4⟩
  · exact .inl h2
  · have hgl : g < w.heap.size := by
      rcases Nat.lt_or_ge g w.heap.size with h | h
      · exact h
      · rw [Array.getElem?_eq_none h] at e3; cases e3
    exact .inr ⟨g, cap, cur, e1, e2, by rw [hg.block g hgl (hne g (by rw [e1]; rfl))]; exact e3, e4⟩
theorem Own.apart {w w' : World} {B : Nat} {v : Value} {l : List Int} {row : Option Nat} (h : Own w B v l) (hg : w.grownBy w' row) (hne : ∀ k, v.ownBlock = some k → some k ≠ row) : Own w' B v l := by
  obtain ⟨h1, h2⟩ := h
  refine ⟨h1, ?_⟩
  rcases h2 with h2 | ⟨g, cap, cur, e1, e2, e3, e4⟩
  · exact .inl h2
  · have hgl : g < w.heap.size := by
      rcases Nat.lt_or_ge g w.heap.size with h | h
      · exact h
      · rw [Array.getElem?_eq_none h] at e3; cases e3
    exact .inr ⟨g, cap, cur, e1, e2, by rw [hg.block g hgl (hne g (by rw [e1]; rfl))]; exact e3, e4⟩
theorem OwnS.lt {w : World} {B : Nat} {v : Value} {l : List ByteArray} (h : OwnS w B v l) : ∀ k, v.ownBlock = some k → B ≤ k ∧ k < w.heap.size := World.ownsRow.lt h
theorem OwnS.one (w : World) (x : ByteArray) (B : Nat) (hB : B ≤ w.heap.size) : OwnS (w.alloc (.cells #[.string x] 9)) B (.slice (some ⟨w.heap.size, 0, none⟩) 1 1) [x] :=
  ⟨rfl, .inr ⟨w.heap.size, 1, #[.string x], rfl, hB, heap_alloc_new w _, Nat.le_refl _, by decide, rfl, rfl⟩⟩

/-- 'out = append(out, s)': out the call's own, s one text, laid in a block of its own first. -/
theorem wpList_appS {w : World} {ops : Array Oper} {rest : List Oper} {o : Oper} {a : Act} {Q : Exit → Act → World → Prop} (hgd : o.guard = none) (s x : Operand)
    (ho : o.op = .call { callee := .builtin .append, args := #[s, x], argTypes := #[24, 24] })
    (B : Nat) (v : Value) (l : List ByteArray) (t : ByteArray) (hs : a.eval s = v) (hown : OwnS w B v l) (g : Nat) (c : Nat) (hx : a.eval x = .slice (some ⟨g, 0, none⟩) 1 c) (hcell : w.cell? ⟨g, 0, none⟩ = some (.string t))
    (hlen : l.length ≤ 1000000) (hB : B ≤ w.heap.size)
    (h : ∀ v' w', OwnS w' B v' (l ++ [t]) → Below B w w' → w.grownBy w' v.ownBlock → wpList Try.prog ops Q rest (a.put o.dst v') w') : wpList Try.prog ops Q (o :: rest) a w := by
  obtain ⟨i0, hi, hz0, hz1, hz2⟩ := info_parts Try.infoStr
  refine wpList_append_own _ hgd s x 24 ho B 9 i0 (.string ⟨#[]⟩) 1 16 Try.underlying24 hi hz0 hz1 hz2 rfl (by decide) v l.length (sv l) hs hown ⟨g, 0, none⟩ 1 c [.string t] hx rfl ?_ ?_ (by unfold maxLen; omega) (by omega) hB ?_
  · intro j u hj
    match j, hj with
    | 0, hj => simp at hj; subst hj; simpa [Addr.add] using hcell
  · intro u hu; simp at hu; subst hu; rfl
  · intro v' w' h1 h2 _
    refine h v' w' ?_ ((Below.refl _ _).grown h2 hB (fun k hk => (hown.lt k hk).1)) h2
    unfold OwnS
    rw [sv_append, List.length_append]
    exact h1

/-- The same at a step of a region that draws its order; besides, where the new slice lies. -/
theorem step_appS {w : World} {ops : Array Oper} {o : Oper} {a : Act} {K : Act → World → Prop} {Q : Exit → Act → World → Prop} {E : Prop} (hgd : o.guard = none) (s x : Operand)
    (ho : o.op = .call { callee := .builtin .append, args := #[s, x], argTypes := #[24, 24] })
    (B : Nat) (v : Value) (l : List ByteArray) (t : ByteArray) (hs : a.eval s = v) (hown : OwnS w B v l) (g : Nat) (c : Nat) (hx : a.eval x = .slice (some ⟨g, 0, none⟩) 1 c) (hcell : w.cell? ⟨g, 0, none⟩ = some (.string t))
    (hlen : l.length ≤ 1000000) (hB : B ≤ w.heap.size)
    (h : ∀ v' w', OwnS w' B v' (l ++ [t]) → Below B w w' → w.grownBy w' v.ownBlock → (v'.ownBlock = v.ownBlock ∨ v'.ownBlock = some w.heap.size) → K (a.put o.dst v') w') :
    if Region.wanted o (yielded ops a.tmps) = true then Oper.wp Try.prog o a w K Q else E := by
  obtain ⟨i0, hi, hz0, hz1, hz2⟩ := info_parts Try.infoStr
  refine step_append_lies _ hgd s x 24 ho B 9 i0 (.string ⟨#[]⟩) 1 16 Try.underlying24 hi hz0 hz1 hz2 rfl (by decide) v l.length (sv l) hs hown ⟨g, 0, none⟩ 1 c [.string t] hx rfl ?_ ?_ (by omega) (by unfold maxLen; omega) (by omega) hB w.heap.size rfl ?_
  · intro j u hj
    match j, hj with
    | 0, hj => simp at hj; subst hj; simpa [Addr.add] using hcell
  · intro u hu; simp at hu; subst hu; rfl
  · intro g' cap' w' h1 h2 hat _
    refine h _ w' ?_ ((Below.refl _ _).grown h2 hB (fun k hk => (hown.lt k hk).1)) h2 (by rcases hat with h | h; exact .inl h.symm; exact .inr (by rw [h]; rfl))
    unfold OwnS
    rw [sv_append, List.length_append]
    exact h1

/-- lenderref.among, where the text is there. -/
theorem among_any (n : Nat) (a : Option Addr) (ts : List ByteArray) (cap : Nat) (s : ByteArray) (w : World) (hn : ts.length = n) (hs : Strs w a ts) (hr : n ≤ 1000000) (hin : s ∈ ts) :
    Calls Try.prog 66 #[.slice a n cap, .string s] w fun e w' => e = .returned (.bool true) ∧ w' = w := by
  obtain ⟨j, hj, hjs⟩ := List.getElem_of_mem hin
  obtain ⟨b, off, rfl, hc⟩ := hs.at (by omega)
  have HC := hid hc
  have HN := hid hn
  have HJ := hid hjs
  have hjn : j < n := by omega
  clear hc hs hin hjs
  go_enter Try.func66, Try.ntmps66
  go_wp2
  go_loop [5] (fun i => ∃ k : Nat, k ≤ j ∧ i = .int .i64 k) (fun i => n - (intOf i).toNat)
  case atStart => exact ⟨0, Nat.zero_le _, rfl⟩
  case round =>
    obtain ⟨k, hk, rfl⟩ := hrel
    have hck := HC.out k (by omega)
    by_cases he : ts[k]'(by omega) = s
    · rw [he] at hck
      clear he hn
      go_wp2
      go_ret
      exact ⟨rfl, rfl⟩
    · have hkj : k ≠ j := fun e => by subst e; exact he HJ.out
      have hne := bne_str he
      generalize ts[k]'(by omega) = z at hck hne
      clear he hn
      go_wp2
      go_round
      case rel => exact ⟨k + 1, by omega, by go_num⟩
      case measure => simp [intOf]; omega

set_option maxHeartbeats 400000 in
/-- lenderref.Away, where it is so. -/
theorem away_any (n m : Nat) (a b : Option Addr) (ts us : List ByteArray) (cap cap2 : Nat) (x y : ByteArray) (w : World) (hn : ts.length = n) (hm : us.length = m) (hs : Strs w a ts) (hu : Strs w b us) (hr : n ≤ 1000000) (hr2 : m ≤ 1000000) (hx : x ∈ ts) (hy : y ∈ us)
    (hxs : x.size ≤ 1000000) (hys : y.size ≤ 1000000) (hne : x ≠ y) (hsm : sm x.data.toList = sm y.data.toList) :
    Calls Try.prog 49 #[.string x, .string y, .slice a n cap, .slice b m cap2] w fun e w' => e = .returned (.bool true) ∧ Below w.heap.size w w' := by
  have hb := bne_str hne
  have HS := hid hs; have HU := hid hu; have HN := hid hn; have HM := hid hm; have HX := hid hx; have HY := hid hy; have HSM := hid hsm
  clear hs hu hn hm hx hy hne hsm
  go_enter Try.func49, Try.ntmps49
  go_wp2_with fail
  refine (rsum_any x _ (by unfold maxLen; omega)).mono ?_
  rintro e w1 ⟨rfl, hb1⟩
  go_wp2_with fail
  refine (rsum_any y _ (by unfold maxLen; omega)).mono ?_
  rintro e w2 ⟨rfl, hb2⟩
  rw [HSM.out]
  generalize sm y.data.toList = z
  go_wp2_with fail
  refine (among_any n a ts cap x _ HN.out (HS.out.kept (kept hb1 hb2)) hr HX.out).mono ?_
  rintro e w3 ⟨rfl, rfl⟩
  go_wp2_with fail
  refine (among_any m b us cap2 y _ HM.out (HU.out.kept (kept hb1 hb2)) hr2 HY.out).mono ?_
  rintro e w4 ⟨rfl, rfl⟩
  go_wp2_with fail
  go_ret
  exact ⟨rfl, kept hb1 hb2⟩

set_option maxHeartbeats 400000 in
theorem knot_any (a b : Int) (w : World) (ha : Bd a) (hb : Bd b) :
    Calls Try.prog 67 #[.int .i64 a, .int .i64 b] w fun e w' => e = .returned (.string (bs (nodeT a b))) ∧ Below w.heap.size w w' := by
  have z1 : (bs (two a)).size = 2 := size_bs _
  have z2 : (bs (two b)).size = 2 := size_bs _
  go_enter Try.func67, Try.ntmps67
  go_wp2_with fail
  refine (two_any a _ ha.1 (by have := ha.2; omega)).mono ?_
  rintro e w1 ⟨rfl, hb1⟩
  go_wp2_with fail
  refine (two_any b _ hb.1 (by have := hb.2; omega)).mono ?_
  rintro e w2 ⟨rfl, hb2⟩
  go_wp2_with fail
  go_ret
  exact ⟨by rw [← node_str]; rfl, kept hb1 hb2⟩

/-- The texts of a log, as Go's strings. -/
def esOf (ss : List ByteArray) : List (List UInt8) := ss.map (·.data.toList)
theorem lvE_esOf (ss : List ByteArray) : lvE (esOf ss) = lvs ss := by simp [lvE, esOf, lvs, entS]
def etx (ss : List ByteArray) : List ByteArray := ss.map fun s => bs (entT s.data.toList)
def rtx (xs : List Int) : List ByteArray := (rowsR xs).map bs
def rowB (xs : List Int) : List ByteArray := (rowT xs).map bs
def ltx (ss : List ByteArray) : List ByteArray := (logT (esOf ss)).map bs
theorem ltx_eq (ss : List ByteArray) : ltx ss = etx ss ++ rtx (lvs ss) := by
  unfold ltx logT etx rtx; rw [lvE_esOf]; simp [esOf]
theorem rtx_short (xs : List Int) (h : xs.length ≤ 1) : rtx xs = [] := by unfold rtx; rw [rowsR_short xs h]; rfl
theorem rtx_more (xs : List Int) (h : 1 < xs.length) : rtx xs = rowB xs ++ rtx (raise xs) := by unfold rtx rowB; rw [rowsR_more xs h, List.map_append]
theorem length_rowT : ∀ xs : List Int, (rowT xs).length = xs.length / 2
  | a :: b :: r => by simp only [rowT, List.length_cons, length_rowT r]; omega
  | [a] => by simp [rowT]
  | [] => by simp [rowT]
theorem rowT_at : ∀ (k : Nat) (l : List Int) (h : 2 * k + 1 < l.length), (rowT l)[k]? = some (nodeT l[2 * k] l[2 * k + 1])
  | 0, a :: b :: r, _ => rfl
  | k + 1, a :: b :: r, h => by
    have := rowT_at k r (by simp at h; omega)
    simp only [rowT, List.getElem?_cons_succ, this]
    rfl
  | k, [a], h => by simp at h
  | k, [], h => by simp at h
theorem length_rowB (xs : List Int) : (rowB xs).length = xs.length / 2 := by unfold rowB; rw [List.length_map, length_rowT]
theorem rowB_take (k : Nat) (l : List Int) (h : 2 * k + 1 < l.length) : (rowB l).take (k + 1) = (rowB l).take k ++ [bs (nodeT l[2 * k] l[2 * k + 1])] := by
  apply take_succ_of
  unfold rowB; rw [List.getElem?_map, rowT_at k l h]; rfl
theorem etx_take (ss : List ByteArray) (k : Nat) (h : k < ss.length) : (etx ss).take (k + 1) = (etx ss).take k ++ [bs (entT ss[k].data.toList)] := by
  rw [List.take_succ_eq_append_getElem (by simp [etx]; omega)]; simp [etx]
theorem length_etx (ss : List ByteArray) : (etx ss).length = ss.length := by simp [etx]
theorem length_rowsF (f : Nat) : ∀ xs : List Int, (rowsF f xs).length ≤ xs.length := by
  induction f with
  | zero => intro xs; simp [rowsF]
  | succ f ih =>
    intro xs
    simp only [rowsF]
    split
    · simp
    · have := ih (raise xs)
      rw [length_raise] at this
      rw [List.length_append, length_rowT]
      omega
theorem length_rtx (xs : List Int) : (rtx xs).length ≤ xs.length := by unfold rtx rowsR; rw [List.length_map]; exact length_rowsF _ _
theorem length_ltx (ss : List ByteArray) : (ltx ss).length ≤ 2 * ss.length := by
  rw [ltx_eq, List.length_append, length_etx]
  have := length_rtx (lvs ss)
  rw [length_lvs] at this
  omega

set_option maxHeartbeats 2000000 in
theorem logTexts_any (n : Nat) (a : Option Addr) (ss : List ByteArray) (cap : Nat) (w : World) (hn : ss.length = n) (hs : Strs w a ss) (h200 : n ≤ 200) (h40 : ∀ s ∈ ss, s.size ≤ 40) :
    Calls Try.prog 51 #[.slice a n cap] w fun e w' => ∃ v, e = .returned v ∧ OwnS w' w.heap.size v (ltx ss) ∧ Below w.heap.size w w' := by
  have HN := hid hn
  have HS0 := hid hs
  have H40 := hid h40
  clear hn hs h40
  go_enter Try.func51, Try.ntmps51
  go_wp2
  go_loopw [3, 4] (fun v i wr => ∃ k : Nat, k ≤ n ∧ i = .int .i64 k ∧ OwnS wr w.heap.size v ((etx ss).take k) ∧ Below w.heap.size w wr) (fun _ i _ => n - (intOf i).toNat)
  case atStart => exact ⟨0, Nat.zero_le _, rfl, OwnS.nil _ _, Below.refl _ _⟩
  case round =>
    obtain ⟨k, hk, rfl, hown, hbel⟩ := hrel
    have hsize := hbel.size
    by_cases hlt : k < n
    · have hlen := HN.out
      obtain ⟨b, off, rfl, hc⟩ := HS0.out.at (by omega)
      have hck := hc k (by omega)
      have hsz := H40.out ss[k] (List.getElem_mem _)
      have hck' : wr.cell? ⟨b, off + k, none⟩ = some (.string ss[k]) := by rw [hbel.cell (World.block_lt_of_cell? _ _ hck)]; exact hck
      have HS := hid (etx_take ss k (by omega))
      generalize ss[k] = s at hck' hsz HS
      have HKL : Hid (((etx ss).take k).length ≤ 1000000) := by show _ ≤ _; rw [List.length_take, length_etx]; omega
      have HOWN := hid hown
      clear hck hc hlen hown
      have hown1 := HOWN.out
      go_wp2_with (at_builtin; rw [ent_str]; refine wpList_appS rfl _ _ rfl w.heap.size _ _ (bs (entT s.data.toList)) rfl (hown1.alloc _) wr.heap.size 1 rfl (cell_alloc_one _ _ _) HKL.out (by simp; omega) ?_)
      intro v' w2 hown2 hb2 _
      have hbel2 : Below w.heap.size w w2 := (hbel.alloc (by omega) _).trans hb2
      rw [← HS.out] at hown2
      have HOWN2 := hid hown2
      clear hown1 hown2 hb2 hck' HOWN
      go_wp2_with fail
      go_roundw
      case rel => exact ⟨k + 1, by omega, by go_num, HOWN2.out, hbel2⟩
      case measure => simp [intOf]; omega
    · have HE : Hid ((etx ss).take k = etx ss) := List.take_of_length_le (by rw [length_etx]; have := HN.out; omega)
      have HLV := hid (leaves_any n a ss cap wr HN.out (HS0.out.kept hbel) h200 H40.out)
      have hlt0 := hown.lt
      have HOWN := hid hown
      clear hown
      go_wp2_with fail
      refine HLV.out.mono ?_
      rintro e w1 ⟨v1, rfl, hown1, hb1⟩
      have hown1s := HOWN.out.kept hb1
      rw [HE.out] at hown1s
      have HR0 := hid (show (lvs ss).length ≤ 200 ∧ (∀ x ∈ lvs ss, Bd x) ∧ etx ss ++ rtx (lvs ss) = ltx ss ∧ (∀ g, _ = some g → g < wr.heap.size) ∧ w.heap.size ≤ wr.heap.size ∧ Own w1 wr.heap.size v1 (lvs ss) ∧ OwnS w1 w.heap.size _ (etx ss) ∧ Below w.heap.size w w1 from
        ⟨by rw [length_lvs]; have := HN.out; omega, lvs_bd ss, (ltx_eq ss).symm, fun g hg => (hlt0 g hg).2, hsize, hown1, hown1s, hbel.trans (hb1.mono hsize)⟩)
      clear hown1 hown1s hlt0 hb1 HOWN HE HLV
      go_wp2_with fail
      go_loopw [3, 5, 6] (fun out row _ wr => ∃ (C : Nat) (ys : List Int) (done : List ByteArray), Hid (ys.length ≤ 200 ∧ (∀ x ∈ ys, Bd x) ∧ done ++ rtx ys = ltx ss ∧ (∀ g, out.ownBlock = some g → g < C) ∧ w.heap.size ≤ C ∧ Own wr C row ys ∧ OwnS wr w.heap.size out done ∧ Below w.heap.size w wr)) (fun _ row _ _ => lenOf row)
      case atStart => exact ⟨wr.heap.size, lvs ss, etx ss, HR0⟩
      case round =>
        obtain ⟨C, ys, done, HR⟩ := hrel
        obtain ⟨hyl, hyb, hd, hog, hC, hrow, hout, hbel2⟩ := HR.out
        obtain ⟨a2, cap2, rfl, hc2, hm2, hi2⟩ := hrow.form
        have HYB := hid hyb; have HD := hid hd; have HROW := hid hrow; have HOUT := hid hout; have HI2 := hid hi2
        clear HR HR0 hyb hd hrow hout hi2
        by_cases h1 : ys.length ≤ 1
        · have HE : Hid (rtx ys = []) := rtx_short ys h1
          have h1' : ¬ (1 : Int) < (ys.length : Int) := by omega
          go_wp2_with fail
          go_ret
          refine ⟨_, rfl, ?_, hbel2⟩
          rw [← HD.out, HE.out, List.append_nil]
          exact HOUT.out
        · have h1' : (1 : Int) < (ys.length : Int) := by omega
          obtain ⟨wo, rfl⟩ : ∃ wo : World, wo = wr := ⟨_, rfl⟩
          have HAP : Hid (∀ g h, u3.ownBlock = some g → (Value.slice a2 ys.length cap2).ownBlock = some h → g ≠ h) := fun g h hg hh => by
            have e1 := hog g hg
            have e2 := (HROW.out.lt h hh).1
            omega
          clear hog
          go_wp2_with fail
          go_loopw [3, 6] (fun out i w2 => ∃ k2 j : Nat, i = .int .i64 (j : Int) ∧ j ≤ ys.length ∧ Hid (j = 2 * k2) ∧ Hid (OwnS w2 w.heap.size out (done ++ (rowB ys).take k2) ∧ Own w2 C (.slice a2 ys.length cap2) ys ∧ (∀ g h, out.ownBlock = some g → (Value.slice a2 ys.length cap2).ownBlock = some h → g ≠ h)) ∧ Below w.heap.size w w2) (fun _ i _ => ys.length + 1 - (intOf i).toNat)
          case atStart => exact ⟨0, 0, rfl, Nat.zero_le _, rfl, ⟨by rw [List.take_zero, List.append_nil]; exact HOUT.out, HROW.out, HAP.out⟩, hbel2⟩
          case round =>
            obtain ⟨k2, j, rfl, hj, HJ, HO, hbel3⟩ := hrel
            have hsz3 := hbel3.size
            by_cases hlt2 : j + 1 < ys.length
            · have hjk := HJ.out
              obtain ⟨hos, hrw, hap⟩ := HO.out
              obtain ⟨a4, c4, e4, _, _, hi4⟩ := hrw.form
              have hi5 : Ints wr a2 ys := by cases e4; exact hi4
              obtain ⟨b2, o2, hae, hcy⟩ := hi5.at (by omega)
              have hc1 := hcy j (by omega)
              have hc3 := hcy (j + 1) (by omega)
              have hx := HYB.out ys[j] (List.getElem_mem _)
              have hy := HYB.out ys[j + 1] (List.getElem_mem _)
              have HS : Hid ((rowB ys).take (k2 + 1) = (rowB ys).take k2 ++ [bs (nodeT ys[j] ys[j + 1])]) := by
                have := rowB_take k2 ys (by omega)
                show _ = _
                subst hjk
                exact this
              have HKL : Hid ((done ++ (rowB ys).take k2).length ≤ 1000000) := by
                have e := congrArg List.length HD.out
                have e2 := length_ltx ss
                rw [List.length_append] at e
                show _ ≤ _
                rw [List.length_append, List.length_take, length_rowB]
                have := HN.out
                omega
              generalize ys[j] = x at hc1 hx HS
              generalize ys[j + 1] = y at hc3 hy HS
              subst hae
              have hne : some b2 ≠ u3.ownBlock := fun e => hap b2 b2 e.symm rfl rfl
              have HOS := hid hos; have HRW := hid hrw; have HAP3 := hid hap
              clear hos hrw hap hcy hi4 hi5 e4 hjk HO
              have i1 : (0 : Int) ≤ (j : Int) := by omega
              have i2 : (j : Int) < (ys.length : Int) := by omega
              have i3 : (j : Int) + 1 < (ys.length : Int) := by omega
              have i4 : (0 : Int) ≤ (j : Int) + 1 := by omega
              have i5 : IntKind.i64.wrap ((j : Int) + 1) = (j : Int) + 1 := wrap_id _ (by omega) (by omega)
              go_wp2_with fail
              go_region_held3 (fun w' => w'.cell? ⟨b2, o2 + j, none⟩ = some (.int .i64 x) ∧ w'.cell? ⟨b2, o2 + (j + 1), none⟩ = some (.int .i64 y))
                ((first | go_keep | (go_split_ands; refine ⟨?_, ?_⟩ <;> first | exact cell_kept (by assumption) hb5 | exact hgrow.cell (by assumption) hne)))
                (first | (go_at_call 67; refine (knot_any _ _ _ hx hy).mono ?_; rintro e w5 ⟨rfl, hb5⟩) | (refine step_appS (by rfl) _ _ (by rfl) w.heap.size _ _ (bs (nodeT x y)) (by rfl) ((HOS.out.kept (kept ((Below.refl _ _).drew) hb5)).alloc _) w5.heap.size 1 (by rfl) (cell_alloc_one _ _ _) HKL.out (by have := hb5.size; simp at this ⊢; omega) ?_; intro v6 w6 hown6 hb6 hgrow hat))
              have hb7 : Below wr.heap.size wr w5 := kept ((Below.refl _ _).drew) hb5
              have hs5 := hb7.size
              have hbel6 : Below w.heap.size w w6 := ((hbel3.trans (hb7.mono hsz3)).alloc (by omega) _).trans hb6
              have hlb := (HRW.out.lt b2 rfl).2
              have hrow6 := Own.apart ((HRW.out.kept hb7).alloc _) hgrow (fun k hk e => hne (by cases hk; exact e))
              have hap6 : ∀ g h, v6.ownBlock = some g → (Value.slice (some ⟨b2, o2, none⟩) ys.length cap2).ownBlock = some h → g ≠ h := fun g h hg hh => by
                cases hh
                rcases hat with e | e
                · exact HAP3.out g b2 (e.symm.trans hg) rfl
                · rw [e] at hg
                  cases hg
                  simp
                  omega
              have HO6 : Hid (OwnS w6 w.heap.size v6 (done ++ (rowB ys).take (k2 + 1)) ∧ Own w6 C (.slice (some ⟨b2, o2, none⟩) ys.length cap2) ys ∧ (∀ g h, v6.ownBlock = some g → (Value.slice (some ⟨b2, o2, none⟩) ys.length cap2).ownBlock = some h → g ≠ h)) :=
                ⟨by rw [HS.out, ← List.append_assoc]; exact hown6, hrow6, hap6⟩
              have HJ6 : Hid (j + 2 = 2 * (k2 + 1)) := by have := HJ.out; show _ = _; omega
              clear hown6 hb6 hgrow hat hrow6 hap6 hb5 hb7 hc1 hc3 HOS HRW HAP3 HS hne
              go_wp2_with fail
              go_roundw
              case rel => exact ⟨k2 + 1, j + 2, by go_num, by omega, HJ6, HO6, hbel6⟩
              case measure => simp [intOf]; omega
            · obtain ⟨hos, hrw, _⟩ := HO.out
              have hjk := HJ.out
              rw [List.take_of_length_le (by rw [length_rowB]; omega)] at hos
              obtain ⟨a4, c4, e4, _, _, hi4⟩ := hrw.form
              have hi5 : Ints wr a2 ys := by cases e4; exact hi4
              have HRS := hid (raised_any ys.length a2 ys cap2 wr rfl hi5 (by omega) HYB.out)
              have hlo := hos.lt
              have HOS := hid hos
              have HMR := hid (rtx_more ys (by omega))
              clear hos hrw hi4 hi5 e4 hjk HO
              have i3 : ¬ (j : Int) + 1 < (ys.length : Int) := by omega
              go_wp2_with fail
              refine HRS.out.mono ?_
              rintro e w7 ⟨v7, rfl, hown7, hb7⟩
              have hlr : (raise ys).length = (ys.length + 1) / 2 := length_raise ys
              have HR7 := hid (show (raise ys).length ≤ 200 ∧ (∀ x ∈ raise ys, Bd x) ∧ (done ++ rowB ys) ++ rtx (raise ys) = ltx ss ∧ (∀ g, _ = some g → g < wr.heap.size) ∧ w.heap.size ≤ wr.heap.size ∧ Own w7 wr.heap.size v7 (raise ys) ∧ OwnS w7 w.heap.size _ (done ++ rowB ys) ∧ Below w.heap.size w w7 from
                ⟨by omega, raise_bd ys HYB.out, by rw [List.append_assoc, ← HMR.out]; exact HD.out, fun g hg => (hlo g hg).2, hsz3, hown7, HOS.out.kept hb7, hbel3.trans (hb7.mono hsz3)⟩)
              have HLR := hid hlr
              obtain ⟨a8, c8, rfl, _, _, _⟩ := hown7.form
              clear hlr hown7 hb7 HOS hlo HRS
              go_wp2_with fail
              go_roundw
              case rel => exact ⟨wr.heap.size, raise ys, done ++ rowB ys, HR7⟩
              case measure => simp [lenOf]; have := HLR.out; omega

end Go.Proofs.Ytedblhcehlbbmaa

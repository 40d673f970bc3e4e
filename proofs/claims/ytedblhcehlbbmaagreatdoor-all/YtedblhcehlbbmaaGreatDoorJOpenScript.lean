import Derived.Test.YtedblhcehlbbmaaGreatDoorDoor
import Derived.Test.YtedblhcehlbbmaaGreatDoorLawBooks
import Derived.Deep.Slices
import Derived.Deep.Strs
import Derived.SizedLaws
import Derived.OpenShut
/-
  A SCRIPT AS AN ARGUMENT, opened: steps of numbers, and a list of texts each.
-/
namespace Go.Proofs.YtedblhcehlbbmaaGreatDoor
set_option maxRecDepth 20000
open Go.ChangeShapes Go.WideShapes Go.ChangeAt Go.RowKit

theorem Tryz.cellsOp : Tryz.prog.cellsOf 39 = 23 := by kernel_rfl
theorem Tryz.cellsEv : Tryz.prog.cellsOf 31 = 4 := by kernel_rfl
theorem Tryz.cellsAc : Tryz.prog.cellsOf 36 = 15 := by kernel_rfl
theorem Tryz.cellsSt : Tryz.prog.cellsOf 33 = 6 := by kernel_rfl
theorem Tryz.cellsSix : Tryz.prog.cellsOf 34 = 6 := by kernel_rfl
theorem Tryz.cellsTs : Tryz.prog.cellsOf 37 = 1 := by kernel_rfl
theorem Tryz.bytesOp : Tryz.prog.bytesOf 39 = 200 := by kernel_rfl

theorem part_at {cs : List Value} {o k j : Nat} {v : Value} (h : ((cs.drop o).take k)[j]? = some v) : cs[o + j]? = some v := by
  rw [List.getElem?_take] at h
  split at h
  · rw [List.getElem?_drop] at h; exact h
  · cases h
section
variable {H : Type} {enc : TypeId × Value → H} {W : World} {base : Nat} {sp : Nat → Bool} {held : Bool}
/-- The cells from o on, k of them, are numbers. -/
def NumsAt (cs : List Value) (o k : Nat) : Prop := ∀ j, j < k → ∃ n, cs[o + j]? = some (.int .i64 n) ∧ In64 n
theorem NumsAt.part {cs : List Value} {o k o' k' : Nat} (h : NumsAt ((cs.drop o).take k) o' k') : NumsAt cs (o + o') k' := fun j hj => by
  obtain ⟨n, h1, h2⟩ := h j hj
  exact ⟨n, by rw [Nat.add_assoc]; exact part_at h1, h2⟩
theorem nums_int {fuel : Nat} {cs : List Value} {o : Nat} {y : Option (DataW H × List MemPlace)} (h : DataW.trod enc Tryz.prog W base sp held fuel 3 ((cs.drop o).take (Tryz.prog.cellsOf 3)) = y) (hy : y ≠ none) : NumsAt cs o 1 := by
  cases y with
  | none => exact (hy rfl).elim
  | some y =>
    obtain ⟨n, h1, _, h3⟩ := DataW.trod_int Tryz.underlying3 h
    intro j hj
    obtain rfl : j = 0 := by omega
    refine ⟨n, ?_, int_bounds h3⟩
    exact part_at (k := Tryz.prog.cellsOf 3) (by rw [h1]; rfl)
theorem some_of {α : Type} {l : List α} {n i : Nat} (h : l.length = n) (hi : i < n) : l[i]? ≠ none := by rw [List.getElem?_eq_getElem (by omega)]; simp
theorem nums_event {fuel : Nat} {cs : List Value} {x : DataW H × List MemPlace} (h : DataW.trod enc Tryz.prog W base sp held fuel 31 cs = some x) : NumsAt cs 0 4 := by
  obtain ⟨xs, n, _, _, _, hl, hf⟩ := DataW.trod_struct Tryz.underlying31 h
  have hl4 : xs.length = 4 := hl
  have q0 := nums_int (hf 0 _ rfl) (some_of hl4 (by omega))
  have q1 := nums_int (hf 1 _ rfl) (some_of hl4 (by omega))
  have q2 := nums_int (hf 2 _ rfl) (some_of hl4 (by omega))
  have q3 := nums_int (hf 3 _ rfl) (some_of hl4 (by omega))
  intro j hj
  rcases (by omega : j = 0 ∨ j = 1 ∨ j = 2 ∨ j = 3) with rfl | rfl | rfl | rfl
  · exact q0 0 (by omega)
  · exact q1 0 (by omega)
  · exact q2 0 (by omega)
  · exact q3 0 (by omega)
theorem nums_state {fuel : Nat} {cs : List Value} {x : DataW H × List MemPlace} (h : DataW.trod enc Tryz.prog W base sp held fuel 33 cs = some x) : NumsAt cs 0 6 := by
  obtain ⟨xs, n, _, _, _, hl, hf⟩ := DataW.trod_struct Tryz.underlying33 h
  have hl6 : xs.length = 6 := hl
  have q0 := nums_int (hf 0 _ rfl) (some_of hl6 (by omega))
  have q1 := nums_int (hf 1 _ rfl) (some_of hl6 (by omega))
  have q2 := nums_int (hf 2 _ rfl) (some_of hl6 (by omega))
  have q3 := nums_int (hf 3 _ rfl) (some_of hl6 (by omega))
  have q4 := nums_int (hf 4 _ rfl) (some_of hl6 (by omega))
  have q5 := nums_int (hf 5 _ rfl) (some_of hl6 (by omega))
  intro j hj
  rcases (by omega : j = 0 ∨ j = 1 ∨ j = 2 ∨ j = 3 ∨ j = 4 ∨ j = 5) with rfl | rfl | rfl | rfl | rfl | rfl
  · exact q0 0 (by omega)
  · exact q1 0 (by omega)
  · exact q2 0 (by omega)
  · exact q3 0 (by omega)
  · exact q4 0 (by omega)
  · exact q5 0 (by omega)
theorem nums_six {fuel : Nat} {cs : List Value} {x : DataW H × List MemPlace} (h : DataW.trod enc Tryz.prog W base sp held fuel 34 cs = some x) : NumsAt cs 0 6 := by
  obtain ⟨xs, n, _, _, _, hl, hf⟩ := DataW.trod_array Tryz.underlying34 h
  intro j hj
  have q := nums_int (hf j hj) (some_of hl hj)
  obtain ⟨n, h1, h2⟩ := q 0 (by omega)
  rw [Tryz.cellsInt, Nat.mul_one, Nat.add_zero] at h1
  exact ⟨n, by rw [Nat.zero_add]; exact h1, h2⟩
theorem nums_account {fuel : Nat} {cs : List Value} {x : DataW H × List MemPlace} (h : DataW.trod enc Tryz.prog W base sp held fuel 36 cs = some x) : NumsAt cs 0 15 := by
  obtain ⟨xs, n, _, _, _, hl, hf⟩ := DataW.trod_struct Tryz.underlying36 h
  have hl5 : xs.length = 5 := hl
  have q0 := nums_int (hf 0 _ rfl) (some_of hl5 (by omega))
  have q2 := nums_int (hf 2 _ rfl) (some_of hl5 (by omega))
  have q3 := nums_int (hf 3 _ rfl) (some_of hl5 (by omega))
  have q1 : NumsAt cs 1 6 := by
    have e := hf 1 _ rfl
    rw [List.getElem?_eq_getElem (by omega)] at e
    exact (nums_state e).part
  have q4 : NumsAt cs 9 6 := by
    have e := hf 4 _ rfl
    rw [List.getElem?_eq_getElem (by omega)] at e
    exact (nums_six e).part
  intro j hj
  rcases (by omega : j = 0 ∨ (1 ≤ j ∧ j < 7) ∨ j = 7 ∨ j = 8 ∨ (9 ≤ j ∧ j < 15)) with rfl | hh | rfl | rfl | hh
  · exact q0 0 (by omega)
  · have := q1 (j - 1) (by omega); rw [show 1 + (j - 1) = 0 + j by omega] at this; exact this
  · exact q2 0 (by omega)
  · exact q3 0 (by omega)
  · have := q4 (j - 9) (by omega); rw [show 9 + (j - 9) = 0 + j by omega] at this; exact this

/-- A step's list of texts. -/
def OpL (w : World) (o : OpI) : Prop := ∃ a ss cap, o.l = .slice a ss.length cap ∧ Strs w a ss ∧ ss.length ≤ cap ∧ ss.length * 16 ≤ 140737488351232
theorem nums_op {fuel : Nat} {cs : List Value} {x : DataW H × List MemPlace} (h : DataW.trod enc Tryz.prog W base sp held fuel 39 cs = some x) :
    cs.length = 23 ∧ NumsAt cs 0 22 ∧ ∃ m v y, cs[22]? = some v ∧ DataW.trod enc Tryz.prog W base sp held m 37 [v] = some y ∧ ∀ k ∈ y.1.weights Tryz.prog 37, k ∈ x.1.weights Tryz.prog 39 := by
  obtain ⟨xs, n, _, hx, hlen, hl, hf⟩ := DataW.trod_struct Tryz.underlying39 h
  rw [Tryz.cellsOp] at hlen
  have hl6 : xs.length = 6 := hl
  have q0 := nums_int (hf 0 _ rfl) (some_of hl6 (by omega))
  have q1 := nums_int (hf 1 _ rfl) (some_of hl6 (by omega))
  have q2 := nums_int (hf 2 _ rfl) (some_of hl6 (by omega))
  have q3 : NumsAt cs 3 4 := by
    have e := hf 3 _ rfl
    rw [List.getElem?_eq_getElem (by omega)] at e
    exact (nums_event e).part
  have q4 : NumsAt cs 7 15 := by
    have e := hf 4 _ rfl
    rw [List.getElem?_eq_getElem (by omega)] at e
    exact (nums_account e).part
  have e5 := hf 5 _ rfl
  rw [List.getElem?_eq_getElem (by omega)] at e5
  have e5' : DataW.trod enc Tryz.prog W base sp held n 37 ((cs.drop 22).take 1) = some xs[5] := by
    have e6 : DataW.trod enc Tryz.prog W base sp held n 37 ((cs.drop 22).take (Tryz.prog.cellsOf 37)) = some xs[5] := e5
    rw [Tryz.cellsTs] at e6
    exact e6
  refine ⟨hlen, ?_, n, cs[22], xs[5], List.getElem?_eq_getElem (by omega), ?_, ?_⟩
  · intro j hj
    rcases (by omega : j = 0 ∨ j = 1 ∨ j = 2 ∨ (3 ≤ j ∧ j < 7) ∨ (7 ≤ j ∧ j < 22)) with rfl | rfl | rfl | hh | hh
    · exact q0 0 (by omega)
    · exact q1 0 (by omega)
    · exact q2 0 (by omega)
    · have := q3 (j - 3) (by omega); rw [show 3 + (j - 3) = 0 + j by omega] at this; exact this
    · have := q4 (j - 7) (by omega); rw [show 7 + (j - 7) = 0 + j by omega] at this; exact this
  · rw [List.drop_eq_getElem_cons (by omega)] at e5'
    exact e5'
  · intro k hk
    rw [hx]
    show k ∈ DataW.weights Tryz.prog 39 (.agg (xs.map (·.1)))
    unfold DataW.weights
    rw [Tryz.underlying39]
    refine DataW.weights_mem_each (j := 5) (t := 37) rfl ?_ k hk
    rw [List.getElem?_map, List.getElem?_eq_getElem (by omega)]
    rfl
end
theorem op_of {cs : List Value} (hl : cs.length = 23) (hn : NumsAt cs 0 22) {v : Value} (hv : cs[22]? = some v) : ∃ o : OpI, cs = (opC o).toList ∧ Op64 o ∧ o.l = v := by
  obtain ⟨n0, e0, b0⟩ := hn 0 (by omega)
  obtain ⟨n1, e1, b1⟩ := hn 1 (by omega)
  obtain ⟨n2, e2, b2⟩ := hn 2 (by omega)
  obtain ⟨n3, e3, b3⟩ := hn 3 (by omega)
  obtain ⟨n4, e4, b4⟩ := hn 4 (by omega)
  obtain ⟨n5, e5, b5⟩ := hn 5 (by omega)
  obtain ⟨n6, e6, b6⟩ := hn 6 (by omega)
  obtain ⟨n7, e7, b7⟩ := hn 7 (by omega)
  obtain ⟨n8, e8, b8⟩ := hn 8 (by omega)
  obtain ⟨n9, e9, b9⟩ := hn 9 (by omega)
  obtain ⟨n10, e10, b10⟩ := hn 10 (by omega)
  obtain ⟨n11, e11, b11⟩ := hn 11 (by omega)
  obtain ⟨n12, e12, b12⟩ := hn 12 (by omega)
  obtain ⟨n13, e13, b13⟩ := hn 13 (by omega)
  obtain ⟨n14, e14, b14⟩ := hn 14 (by omega)
  obtain ⟨n15, e15, b15⟩ := hn 15 (by omega)
  obtain ⟨n16, e16, b16⟩ := hn 16 (by omega)
  obtain ⟨n17, e17, b17⟩ := hn 17 (by omega)
  obtain ⟨n18, e18, b18⟩ := hn 18 (by omega)
  obtain ⟨n19, e19, b19⟩ := hn 19 (by omega)
  obtain ⟨n20, e20, b20⟩ := hn 20 (by omega)
  obtain ⟨n21, e21, b21⟩ := hn 21 (by omega)
  refine ⟨⟨n0, n1, n2, ⟨n3, n4, n5, n6⟩, ⟨n7, ⟨n8, n9, n10, n11, n12, n13⟩, n14, n15, n16, n17, n18, n19, n20, n21⟩, v⟩, ?_, ⟨b0, b1, b2, ⟨b3, b4, b5, b6⟩, b7, ?_, b14, b15, ?_⟩, rfl⟩
  · match cs, hl with
    | [c0, c1, c2, c3, c4, c5, c6, c7, c8, c9, c10, c11, c12, c13, c14, c15, c16, c17, c18, c19, c20, c21, c22], _ =>
      simp at e0 e1 e2 e3 e4 e5 e6 e7 e8 e9 e10 e11 e12 e13 e14 e15 e16 e17 e18 e19 e20 e21 hv
      subst e0; subst e1; subst e2; subst e3; subst e4; subst e5; subst e6; subst e7; subst e8; subst e9; subst e10; subst e11; subst e12; subst e13; subst e14; subst e15; subst e16; subst e17; subst e18; subst e19; subst e20; subst e21; subst hv
      rfl
  · intro z hz
    simp only [stI, List.mem_cons, List.not_mem_nil, or_false] at hz
    rcases hz with rfl | rfl | rfl | rfl | rfl | rfl <;> assumption
  · intro z hz
    simp only [Acc.path, List.mem_cons, List.not_mem_nil, or_false] at hz
    rcases hz with rfl | rfl | rfl | rfl | rfl | rfl <;> assumption
theorem weights_mem_all {H : Type} {P : Program} {e : TypeId} {d : DataW H} : ∀ {l : List (DataW H)}, d ∈ l → ∀ n ∈ d.weights P e, n ∈ DataW.weightsAll P e l
  | d0 :: l, h, n, hn => by
    rw [DataW.weightsAll]
    rcases List.mem_cons.1 h with rfl | h
    · exact List.mem_append_left _ hn
    · exact List.mem_append_right _ (weights_mem_all h n hn)

set_option maxHeartbeats 1000000 in
/-- A script that came in. -/
theorem open_script {H : Type} {enc : TypeId × Value → H} {W : World} {a : Option Addr} {len cap fuel : Nat} {x : DataW H × List MemPlace} (hf : DataW.trod enc Tryz.prog W 0 (fun _ => true) true fuel 22 [.slice a len cap] = some x)
    (hw : ∀ k ∈ x.1.weights Tryz.prog 22, k ≤ reachBytes) :
    ∃ os : List OpI, os.length = len ∧ Scr W a os ∧ (∀ o ∈ os, Op64 o) ∧ (∀ o ∈ os, OpL W o) ∧ len * 200 ≤ 140737488351232 := by
  rcases Deep.open_slice Tryz.underlying22 hf with ⟨hcs, hx⟩ | ⟨ad, l, c, m, n, D, Pl, hcs, _, hl, hm, hmm, hx, hcell⟩
  · cases hcs
    exact ⟨[], rfl, .inl rfl, by simp, by simp, by omega⟩
  · cases hcs
    simp at hmm
    subst hmm
    have hw0 : ∀ k ∈ DataW.weights Tryz.prog 22 (.slice ((List.range len).map D) ((List.range (m - len)).map fun j => D (len + j))), k ≤ reachBytes := by rw [hx] at hw; exact hw
    unfold DataW.weights at hw0
    rw [Tryz.underlying22] at hw0
    simp only at hw0
    have hsize : len * 200 ≤ 140737488351232 := by
      have := hw0 _ (List.mem_cons_self)
      rw [Tryz.bytesOp] at this
      simp only [List.length_map, List.length_range, reachBytes] at this
      omega
    have one : ∀ i, i < len → ∃ o : OpI, W.rangeAt ad.block (ad.off + i * 23) (opC o).toList ∧ Op64 o ∧ OpL W o ∧ ad.spot = none := fun i hi => by
      obtain ⟨cs', h1, h2⟩ := hcell i (by omega)
      obtain ⟨h3, h4, k, v, y, h5, h6, h7⟩ := nums_op h2
      obtain ⟨o, rfl, h8, h9⟩ := op_of h3 h4 h5
      rw [Tryz.cellsOp] at h1
      obtain ⟨_, _, hc⟩ := World.cells?_some h1
      have hspot : ad.spot = none := by
        obtain ⟨cs0, g1, _⟩ := hcell 0 (by omega)
        rw [Tryz.cellsOp] at g1
        obtain ⟨_, gl, gc⟩ := World.cells?_some g1
        have h := gc 0 (by omega)
        rw [List.getElem?_eq_getElem (by omega)] at h
        simpa [Addr.add] using World.cell?_spot h
      refine ⟨o, ?_, h8, ?_, hspot⟩
      · intro j u hj
        have hjl : j < 23 := by
          rcases Nat.lt_or_ge j 23 with h | h
          · exact h
          · rw [List.getElem?_eq_none (by omega)] at hj; cases hj
        have := hc j hjl
        rw [hj] at this
        obtain ⟨b, off, spot⟩ := ad
        simp only at hspot
        subst hspot
        rw [Addr.add_lit, Addr.add_lit] at this
        exact this
      · obtain ⟨a', n', cp', hv⟩ : ∃ a' n' cp', v = .slice a' n' cp' := by
          rcases Deep.open_strs Tryz.underlying37 Tryz.underlying9 Tryz.cellsStr h6 with ⟨hcs, _⟩ | ⟨ad', l', c', _, _, hcs, _⟩
          · cases hcs; exact ⟨_, _, _, rfl⟩
          · cases hcs; exact ⟨_, _, _, rfl⟩
        subst hv
        obtain ⟨hlc, _, ⟨ss, hss, hS⟩, hy⟩ := open_texts h6
        subst hss
        refine ⟨a', ss, cp', h9, hS, hlc, ?_⟩
        rcases hy with ⟨_, h0⟩ | ⟨elems, spare, he, hel⟩
        · omega
        · have hmem : (elems.length + spare.length) * 16 ∈ y.1.weights Tryz.prog 37 := by
            rw [he]
            unfold DataW.weights
            rw [Tryz.underlying37]
            show (elems.length + spare.length) * 16 ∈ (elems.length + spare.length) * Tryz.prog.bytesOf 9 :: _
            rw [Tryz.bytesStr]
            exact List.mem_cons_self
          have := hw0 _ (List.mem_cons_of_mem _ (List.mem_append_left _ (weights_mem_all (List.mem_map.2 ⟨i, List.mem_range.2 hi, rfl⟩) _ (h7 _ hmem))))
          simp only [reachBytes] at this
          omega
    haveI : Inhabited OpI := ⟨opNew⟩
    obtain ⟨f, hf'⟩ := Deep.choose_lt one
    refine ⟨(List.range len).map f, by simp, ?_, ?_, ?_, hsize⟩
    · by_cases h0 : len = 0
      · exact .inl (by simp [h0])
      · refine .inr ⟨ad.block, ad.off, ?_, fun i hi => ?_⟩
        · have := (hf' 0 (by omega)).2.2.2
          obtain ⟨b, off, spot⟩ := ad
          simp only at this
          rw [this]
        · have hi' : i < len := by simpa using hi
          have := (hf' i hi').1
          simpa using this
    · intro o ho
      obtain ⟨i, hi, rfl⟩ := List.mem_map.1 ho
      exact (hf' i (List.mem_range.1 hi)).2.1
    · intro o ho
      obtain ⟨i, hi, rfl⟩ := List.mem_map.1 ho
      exact (hf' i (List.mem_range.1 hi)).2.2.1

end Go.Proofs.YtedblhcehlbbmaaGreatDoor


/-
  'Rows.BooksSaid'.
-/
namespace Go.Proofs.YtedblhcehlbbmaaGreatDoor.bookslaw
set_option maxRecDepth 20000
open Go.ChangeShapes Go.WideShapes Go.ChangeAt Go.RowKit

set_option maxRecDepth 100000 in
theorem lifted (os : Os) (started : os.Started) (H : Type) (enc : TypeId × Value → H) :
    ReturnsInHanded {} Tryz.checked os 3 .any (fun w args => (Rows.booksSpec.pre enc Tryz.prog Tryz.f3 [] false w args ∧ laidMetH Tryz.prog laid3 w) ∧ sizedMet enc Tryz.prog Tryz.f3 (OpenSpec.ofChange Rows.booksSpec) false w args)
      (Rows.booksSpec.post enc Tryz.prog Tryz.f3 false true false false) := by
  refine returnsInHanded_of_change_and (C := Tryz.checked) (X := fun w _ => laidMetH Tryz.prog laid3 w) (fun _ _ _ hh h => h.of_heap hh) Tryz.own started (by kernel_rfl) Tryz.func3
    (ChangeSpec.witness_shaped (enc := enc) (C := Tryz.checked) (os := os) (X := fun w _ => laidMetH Tryz.prog laid3 w) false (World.doorLaid Tryz.prog 400 os) #[.slice none 0 0] 8 rfl (World.shaped_of_RefB (by kernel_rfl) (by kernel_rfl)) (by kernel_rfl) (by kernel_rfl) (by kernel_rfl) (door_met os _)) ?_
  intro W base args ds gs before hval0 hW _ hsz0 hL _
  have hval : ∀ (j : Nat) t v, Tryz.f3.params[j]? = some t → args[j]? = some v → Value.okWide Tryz.prog W .any base t v := hval0
  have hsz : (DataW.weightsEach Tryz.prog (Tryz.f3.params.toList ++ Rows.booksSpec.plain.varTypes Tryz.prog) (ds ++ gs)).all (· ≤ reachBytes) = true := hsz0
  have hW' := hW
  obtain ⟨p, q, hA0, hV, rfl, hfz, hnd⟩ := hW
  have hA : DataW.TrodAll enc Tryz.prog W 0 (fun _ => true) true Tryz.f3.params.toList args.toList ds p := hA0
  rw [Tryz.params3] at hA hval hsz
  obtain ⟨v0, vs0, d0, ds0, p0, q0, hargs, rfl, rfl, h0, r0⟩ := trodAll_cons hA
  obtain ⟨rfl, rfl, rfl⟩ := trodAll_nil r0
  obtain rfl : args = #[v0] := by cases args; simp_all
  obtain ⟨rfl, rfl⟩ := trodVars_none hV
  obtain ⟨a0, len0, cap0, rfl⟩ := okWide_slice Tryz.underlying22 (hval 0 22 v0 rfl rfl)
  have k0 := h0
  have lt0 : ∀ x ∈ p0, x.block < W.heap.size := by obtain ⟨m, hm⟩ := k0; exact DataW.trod_lt m _ _ _ hm
  obtain ⟨fuel0, hf0⟩ := h0
  obtain ⟨ss, hss, hS, h64, hOL, hreach0⟩ := open_script (by simpa [Value.cells] using hf0) (fun k hk => by
    have := List.all_eq_true.1 hsz _ (DataW.weights_mem_each (j := 0) (t := 22) (d := d0) rfl rfl k hk)
    simpa using this)
  clear hA0 hval0 hsz0
  refine (lawbooks_any len0 a0 ss cap0 W hss hS h64 hreach0 (tab_of hL)).mono fun e W' ⟨he, bel⟩ => ?_
  subst he
  exact ⟨_, rfl, _, _, _, [], _, [], hW', trodAll_mk1 (shut_bool Tryz.underlying4 _), (trodAll_cons_mk (Below.trod Tryz.laidOut (by kernel_rfl) (of_decide_eq_true (by kernel_rfl)) k0 bel lt0) trodAll_mk0), rfl, bel.frame _, fun h => by cases h⟩

theorem over : Rows.BooksSaid :=
  OpenClaim.holds_of_wide 3 Tryz.f3 rfl rfl rfl rfl rfl rfl rfl ⟨rfl, rfl, rfl, rfl, rfl⟩ rfl rfl rfl rfl rfl (by kernel_rfl) Tryz.func3 (by kernel_rfl)
    (of_decide_eq_true (by kernel_rfl)) (by unfold Func.isWrapper; first | (rw [if_pos (by decide +kernel)]; kernel_rfl) | (rw [if_neg (by decide +kernel)]; exact ⟨rfl, rfl⟩))
    (fun os started H enc _ => lifted os started H enc)

end Go.Proofs.YtedblhcehlbbmaaGreatDoor.bookslaw

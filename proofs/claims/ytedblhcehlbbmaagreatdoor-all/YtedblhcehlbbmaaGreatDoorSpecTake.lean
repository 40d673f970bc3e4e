import Derived.Test.YtedblhcehlbbmaaGreatDoorWalkTake
import Derived.Test.YtedblhcehlbbmaaGreatDoorWalkBlk
import Derived.WalkKit
import Derived.WalkSpells
import Derived.WalkLawsBesides
/-
  A LIST THAT IS TAKEN: what lies where while its owner writes it full and lets it grow.
-/
namespace Go.Proofs.YtedblhcehlbbmaaGreatDoor
set_option maxRecDepth 20000
open Go.RowKit

def GrewRow (E : TypeId) (w : World) (v : Value) (xs : List Value) (x1 v' : Value) (w' : World) : Prop :=
  w'.ownsRow 0 E 1 v' (xs ++ [x1]).length (xs ++ [x1]) ∧ w.grownBy w' v.ownBlock ∧ (v'.ownBlock = v.ownBlock ∨ v'.ownBlock = some w.heap.size)
/-- 'append(v, x)': v a row of the world's own, of one-cell elements. -/
theorem wpList_appRow {w : World} {ops : Array Oper} {rest : List Oper} {o : Oper} {a : Act} {Q : Exit → Act → World → Prop} (hgd : o.guard = none) (s x : Operand) (t E : TypeId)
    (ho : o.op = .call { callee := .builtin .append, args := #[s, x], argTypes := #[t, t] })
    (i0 : TypeInfo) (z : Value) (bytes : Nat) (ht : Tryz.prog.underlying t = some (.slice E)) (hi : Tryz.prog.info? E = some i0) (hz0 : i0.zero = some z) (hz1 : i0.size = 1) (hz2 : i0.bytes = bytes) (hzs : z.cells.size = 1) (hby : bytes ≤ 24)
    (v : Value) (xs : List Value) (x1 : Value) (hs : a.eval s = v) (hown : w.ownsRow 0 E 1 v xs.length xs) (g c : Nat) (hx : a.eval x = .slice (some ⟨g, 0, none⟩) 1 c) (hcell : w.cell? ⟨g, 0, none⟩ = some x1) (h1 : x1.oneCell' = true) (hfew : xs.length ≤ 4000000000000)
    (h : ∀ v' w', GrewRow E w v xs x1 v' w' → wpList Tryz.prog ops Q rest (a.put o.dst v') w') :
    wpList Tryz.prog ops Q (o :: rest) a w := by
  refine wpList_append_lies _ hgd s x t ho 0 E i0 z 1 bytes ht hi hz0 hz1 hz2 hzs (by decide) v xs.length xs hs hown ⟨g, 0, none⟩ 1 c [x1] hx rfl ?_ ?_ (by omega) (by unfold maxLen; omega) ?_ (Nat.zero_le _) w.heap.size rfl ?_
  · intro j u hj
    match j, hj with
    | 0, hj => simp at hj; subst hj; simpa [Addr.add] using hcell
  · intro u hu; simp at hu; subst hu; exact h1
  · have : (xs.length + 1) * bytes ≤ 4000000000001 * 24 := Nat.mul_le_mul (by omega) hby
    omega
  · intro g' cap' w' h2 h3 hat _
    exact h _ w' ⟨by rw [List.length_append]; exact h2, h3, by rcases hat with h | h; exact .inl h.symm; exact .inr (by rw [h]; rfl)⟩
theorem row_form {w : World} {E : TypeId} {v : Value} {xs : List Value} (h : w.ownsRow 0 E 1 v xs.length xs) : ∃ a cap, v = .slice a xs.length cap ∧ xs.length ≤ cap ∧ cap ≤ maxLen := by
  rcases h.2 with ⟨rfl, h0⟩ | ⟨g, cap, cur, rfl, _, _, h1, h2, _⟩
  · rw [h0]; exact ⟨none, 0, rfl, Nat.le_refl _, Nat.zero_le _⟩
  · exact ⟨_, cap, rfl, h1, h2⟩

theorem news1 (w : World) (v : Value) (t : TypeId) (j : Nat) (hj : j < 1) : (w.alloc (.cells #[v] t)).cell? ⟨w.heap.size, j, none⟩ = some v := by
  obtain rfl : j = 0 := by omega
  rw [World.cell?_alloc_mark]; rfl
theorem news2 (w : World) (v : Value) (t : TypeId) (j : Nat) (hj : j < 2) : (w.alloc (.cells #[v, v] t)).cell? ⟨w.heap.size, j, none⟩ = some v := by
  rcases (by omega : j = 0 ∨ j = 1) with rfl | rfl <;> rw [World.cell?_alloc_mark] <;> rfl
theorem news3 (w : World) (v : Value) (t : TypeId) (j : Nat) (hj : j < 3) : (w.alloc (.cells #[v, v, v] t)).cell? ⟨w.heap.size, j, none⟩ = some v := by
  rcases (by omega : j = 0 ∨ j = 1 ∨ j = 2) with rfl | rfl | rfl <;> rw [World.cell?_alloc_mark] <;> rfl

/-- The world's block, its two rows of lists, and the lists of this taking, as they lie in w; 'own' says whose a block is: 0 the world's own, tl, tg the rows, 8 the lists that are being taken. w0, own0: as the taking began. -/
structure Tk (tl tg : Nat) (EL E : TypeId) (own0 : Nat → Nat) (w0 : World) (Wb : Nat) (c : Array Value) (vl vg : Value) (LS GS : List Value) (y : Value) (ls : List (Value × Nat)) (w : World) (own : Nat → Nat) : Prop where
  os : w.os = w0.os
  tape : w.tape = w0.tape
  output : w.output = w0.output
  size : w0.heap.size ≤ w.heap.size
  fr : ∀ k, k < w0.heap.size → own0 k ≠ 0 → own0 k ≠ tl → own0 k ≠ tg → own0 k ≠ 8 → w.heap[k]? = w0.heap[k]?
  ow : ∀ k, k < w0.heap.size → own k = own0 k
  top : w.heap[Wb]? = some (.cells c 28 (0, 0))
  topT : own Wb = 0
  rl : w.ownsRow 0 EL 1 vl LS.length LS
  rlT : ∀ b, vl.ownBlock = some b → own b = tl
  rg : w.ownsRow 0 EL 1 vg GS.length GS
  rgT : ∀ b, vg.ownBlock = some b → own b = tg
  ls : ∀ p ∈ ls, AllR E w p.1 p.2 y ∧ ∀ b, p.1.ownBlock = some b → own b = 8
/-- Tags that are apart. -/
def Tags (tl tg : Nat) : Prop := tl ≠ 0 ∧ tg ≠ 0 ∧ tl ≠ tg ∧ tl ≠ 8 ∧ tg ≠ 8
section
variable {tl tg : Nat} {EL E : TypeId} {own0 own : Nat → Nat} {w0 w w' : World} {Wb : Nat} {c : Array Value} {vl vg : Value} {LS GS : List Value} {y : Value} {ls : List (Value × Nat)}
theorem AllR.lt {v : Value} {n : Nat} (h : AllR E w v n y) (b : Nat) (hb : v.ownBlock = some b) : b < w.heap.size := (World.ownsRow.lt h b hb).2
theorem row_stay {v : Value} {xs : List Value} {row : Option Nat} {t : Nat} (h : w.ownsRow 0 EL 1 v xs.length xs) (hg : w.grownBy w' row) (hv : ∀ b, v.ownBlock = some b → own b ≠ t) (hr : ∀ b, row = some b → own b = t) : w'.ownsRow 0 EL 1 v xs.length xs := by
  refine h.kept hg ?_
  cases hb : v.ownBlock with
  | none => exact .inl rfl
  | some b => exact .inr fun e => hv b hb (hr b e.symm)
theorem Tk.alloc (h : Tk tl tg EL E own0 w0 Wb c vl vg LS GS y ls w own) (o : Obj) : Tk tl tg EL E own0 w0 Wb c vl vg LS GS y ls (w.alloc o) own := by
  have hk : Below w.heap.size w (w.alloc o) := (Below.refl _ _).alloc (Nat.le_refl _) _
  exact ⟨hk.os.trans h.os, hk.tape.trans h.tape, hk.output.trans h.output, Nat.le_trans h.size hk.size, fun k h1 h2 h3 h4 h5 => (hk.block k (Nat.lt_of_lt_of_le h1 h.size)).trans (h.fr k h1 h2 h3 h4 h5), h.ow,
    by rw [hk.block _ (lt_of_block h.top)]; exact h.top, h.topT, h.rl.alloc o, h.rlT, h.rg.alloc o, h.rgT, fun p hp => ⟨World.ownsRow.alloc (h.ls p hp).1 o, (h.ls p hp).2⟩⟩
/-- Blocks that are new are t's. -/
def tagN (own : Nat → Nat) (n t : Nat) : Nat → Nat := fun k => if k < n then own k else t
theorem tagN_old {n t k : Nat} (h : k < n) : tagN own n t k = own k := if_pos h
theorem tagN_new {n t k : Nat} (h : n ≤ k) : tagN own n t k = t := if_neg (by omega)
theorem tagN_of {n t t' : Nat} {v : Value} (h : ∀ b, v.ownBlock = some b → own b = t') (hl : ∀ b, v.ownBlock = some b → b < n) : ∀ b, v.ownBlock = some b → tagN own n t b = t' := fun b hb => by rw [tagN_old (hl b hb)]; exact h b hb
theorem tagN_at {n t : Nat} {v v' : Value} (h : ∀ b, v.ownBlock = some b → own b = t) (hl : ∀ b, v.ownBlock = some b → b < n) (hat : v'.ownBlock = v.ownBlock ∨ ∃ b, v'.ownBlock = some b ∧ n ≤ b) : ∀ b, v'.ownBlock = some b → tagN own n t b = t := fun b hb => by
  rcases hat with e | ⟨b', e, h'⟩
  · exact tagN_of h hl b (by rw [← e]; exact hb)
  · rw [e] at hb; cases hb; exact tagN_new h'
/-- A list of the taking has grown by marks. -/
theorem Tk.list (h : Tk tl tg EL E own0 w0 Wb c vl vg LS GS y ls w own) (ht : Tags tl tg) {v v' : Value} {n m : Nat} (hv : (v, n) ∈ ls) (hle : ∀ p ∈ ls, p.2 ≤ n + m) (h1 : AllR E w' v' (n + m) y) (h2 : ∀ u j, j ≤ n + m → AllR E w u j y → AllR E w' u j y) (h3 : w.grownBy w' v.ownBlock) (h4 : v'.ownBlock = v.ownBlock ∨ ∃ b, v'.ownBlock = some b ∧ w.heap.size ≤ b) :
    Tk tl tg EL E own0 w0 Wb c vl vg LS GS y ((v', n + m) :: ls) w' (tagN own w.heap.size 8) := by
  obtain ⟨t1, t2, t3, t4, t5⟩ := ht
  have hvT := (h.ls _ hv).2
  have hvl : ∀ b, v.ownBlock = some b → b < w.heap.size := (h.ls _ hv).1.lt
  refine ⟨h3.os.trans h.os, h3.tape.trans h.tape, h3.output.trans h.output, Nat.le_trans h.size h3.size, ?_, ?_, ?_, ?_, row_stay (own := own) (t := 8) h.rl h3 (fun b hb => by rw [h.rlT b hb]; exact t4) (fun b hb => hvT b hb), tagN_of h.rlT (fun b hb => (World.ownsRow.lt h.rl b hb).2), row_stay (own := own) (t := 8) h.rg h3 (fun b hb => by rw [h.rgT b hb]; exact t5) (fun b hb => hvT b hb), tagN_of h.rgT (fun b hb => (World.ownsRow.lt h.rg b hb).2), ?_⟩
  · intro k g1 g2 g3 g4 g5
    rw [h3.block k (Nat.lt_of_lt_of_le g1 h.size) (fun e => g5 (by rw [← h.ow k g1]; exact hvT k e.symm))]
    exact h.fr k g1 g2 g3 g4 g5
  · intro k hk
    rw [tagN_old (Nat.lt_of_lt_of_le hk h.size)]; exact h.ow k hk
  · rw [h3.block _ (lt_of_block h.top) (fun e => by have := hvT _ e.symm; rw [h.topT] at this; cases this)]
    exact h.top
  · rw [tagN_old (lt_of_block h.top)]; exact h.topT
  · intro p hp
    rcases List.mem_cons.1 hp with rfl | hp
    · exact ⟨h1, tagN_at hvT hvl h4⟩
    · exact ⟨h2 _ _ (hle p hp) (h.ls p hp).1, tagN_of (h.ls p hp).2 (h.ls p hp).1.lt⟩
/-- The first row has grown. -/
theorem Tk.rowL (h : Tk tl tg EL E own0 w0 Wb c vl vg LS GS y ls w own) (ht : Tags tl tg) {vl' x : Value} (h1 : w'.ownsRow 0 EL 1 vl' (LS ++ [x]).length (LS ++ [x])) (h3 : w.grownBy w' vl.ownBlock) (h4 : vl'.ownBlock = vl.ownBlock ∨ vl'.ownBlock = some w.heap.size) :
    Tk tl tg EL E own0 w0 Wb c vl' vg (LS ++ [x]) GS y ls w' (tagN own w.heap.size tl) := by
  obtain ⟨t1, t2, t3, t4, t5⟩ := ht
  refine ⟨h3.os.trans h.os, h3.tape.trans h.tape, h3.output.trans h.output, Nat.le_trans h.size h3.size, ?_, ?_, ?_, ?_, h1, tagN_at h.rlT (fun b hb => (World.ownsRow.lt h.rl b hb).2) (match h4 with | .inl e => .inl e | .inr e => .inr ⟨_, e, Nat.le_refl _⟩), row_stay (own := own) (t := tl) h.rg h3 (fun b hb => by rw [h.rgT b hb]; exact Ne.symm t3) (fun b hb => h.rlT b hb), tagN_of h.rgT (fun b hb => (World.ownsRow.lt h.rg b hb).2), ?_⟩
  · intro k g1 g2 g3 g4 g5
    rw [h3.block k (Nat.lt_of_lt_of_le g1 h.size) (fun e => g3 (by rw [← h.ow k g1]; exact h.rlT k e.symm))]
    exact h.fr k g1 g2 g3 g4 g5
  · intro k hk
    rw [tagN_old (Nat.lt_of_lt_of_le hk h.size)]; exact h.ow k hk
  · rw [h3.block _ (lt_of_block h.top) (fun e => by have := h.rlT _ e.symm; rw [h.topT] at this; exact t1 this.symm)]
    exact h.top
  · rw [tagN_old (lt_of_block h.top)]; exact h.topT
  · intro p hp
    refine ⟨(h.ls p hp).1.kept h3 ?_, tagN_of (h.ls p hp).2 (h.ls p hp).1.lt⟩
    cases hb : p.1.ownBlock with
    | none => exact .inl rfl
    | some b => exact .inr fun e => t4 (by rw [← h.rlT b e.symm]; exact (h.ls p hp).2 b hb)
/-- The second row has grown. -/
theorem Tk.rowG (h : Tk tl tg EL E own0 w0 Wb c vl vg LS GS y ls w own) (ht : Tags tl tg) {vg' x : Value} (h1 : w'.ownsRow 0 EL 1 vg' (GS ++ [x]).length (GS ++ [x])) (h3 : w.grownBy w' vg.ownBlock) (h4 : vg'.ownBlock = vg.ownBlock ∨ vg'.ownBlock = some w.heap.size) :
    Tk tl tg EL E own0 w0 Wb c vl vg' LS (GS ++ [x]) y ls w' (tagN own w.heap.size tg) := by
  obtain ⟨t1, t2, t3, t4, t5⟩ := ht
  refine ⟨h3.os.trans h.os, h3.tape.trans h.tape, h3.output.trans h.output, Nat.le_trans h.size h3.size, ?_, ?_, ?_, ?_, row_stay (own := own) (t := tg) h.rl h3 (fun b hb => by rw [h.rlT b hb]; exact t3) (fun b hb => h.rgT b hb), tagN_of h.rlT (fun b hb => (World.ownsRow.lt h.rl b hb).2), h1, tagN_at h.rgT (fun b hb => (World.ownsRow.lt h.rg b hb).2) (match h4 with | .inl e => .inl e | .inr e => .inr ⟨_, e, Nat.le_refl _⟩), ?_⟩
  · intro k g1 g2 g3 g4 g5
    rw [h3.block k (Nat.lt_of_lt_of_le g1 h.size) (fun e => g4 (by rw [← h.ow k g1]; exact h.rgT k e.symm))]
    exact h.fr k g1 g2 g3 g4 g5
  · intro k hk
    rw [tagN_old (Nat.lt_of_lt_of_le hk h.size)]; exact h.ow k hk
  · rw [h3.block _ (lt_of_block h.top) (fun e => by have := h.rgT _ e.symm; rw [h.topT] at this; exact t2 this.symm)]
    exact h.top
  · rw [tagN_old (lt_of_block h.top)]; exact h.topT
  · intro p hp
    refine ⟨(h.ls p hp).1.kept h3 ?_, tagN_of (h.ls p hp).2 (h.ls p hp).1.lt⟩
    cases hb : p.1.ownBlock with
    | none => exact .inl rfl
    | some b => exact .inr fun e => t5 (by rw [← h.rgT b e.symm]; exact (h.ls p hp).2 b hb)
theorem row_other {v : Value} {n : Nat} {xs : List Value} {i : Nat} {u : Value} (h : w.ownsRow 0 E 1 v n xs) (hn : ∀ b, v.ownBlock = some b → b ≠ Wb) : (w.setCell ⟨Wb, i, none⟩ u).ownsRow 0 E 1 v n xs := by
  obtain ⟨h1, h2⟩ := h
  refine ⟨h1, ?_⟩
  rcases h2 with h2 | ⟨g, cap, cur, e1, e2, e3, e4⟩
  · exact .inl h2
  · exact .inr ⟨g, cap, cur, e1, e2, by rw [Below.heap_setCell _ _ _ _ (hn g (by rw [e1]; rfl))]; exact e3, e4⟩
/-- A cell of the world's block is written. -/
theorem Tk.store (h : Tk tl tg EL E own0 w0 Wb c vl vg LS GS y ls w own) (ht : Tags tl tg) (i : Nat) (u : Value) : Tk tl tg EL E own0 w0 Wb (c.setIfInBounds i u) vl vg LS GS y ls (w.setCell ⟨Wb, i, none⟩ u) own := by
  obtain ⟨t1, t2, t3, t4, t5⟩ := ht
  have h0 : Below 0 w (w.setCell ⟨Wb, i, none⟩ u) := (Below.refl _ _).setCell (Nat.zero_le _) _
  refine ⟨h0.os.trans h.os, h0.tape.trans h.tape, h0.output.trans h.output, Nat.le_trans h.size h0.size, ?_, h.ow, blk_setCell h.top, h.topT, row_other h.rl (fun b hb e => t1 (by rw [← h.rlT b hb, e]; exact h.topT)), h.rlT, row_other h.rg (fun b hb e => t2 (by rw [← h.rgT b hb, e]; exact h.topT)), h.rgT, ?_⟩
  · intro k g1 g2 g3 g4 g5
    rw [Below.heap_setCell _ _ _ _ (fun e => g2 (by rw [← h.ow k g1, e]; exact h.topT))]
    exact h.fr k g1 g2 g3 g4 g5
  · intro p hp
    refine ⟨row_other (h.ls p hp).1 (fun b hb e => ?_), (h.ls p hp).2⟩
    have h8 := (h.ls p hp).2 b hb
    rw [e, h.topT] at h8
    cases h8
/-- The beginning: the list has been written full. -/
theorem Tk.start {u : Value} {n : Nat} (ht : Tags tl tg) (htop : w0.heap[Wb]? = some (.cells c 28 (0, 0))) (htopT : own0 Wb = 0) (hrl : w0.ownsRow 0 EL 1 vl LS.length LS) (hrlT : ∀ b, vl.ownBlock = some b → own0 b = tl) (hrg : w0.ownsRow 0 EL 1 vg GS.length GS) (hrgT : ∀ b, vg.ownBlock = some b → own0 b = tg)
    (hu : AllR E w u n y) (huT : ∀ b, u.ownBlock = some b → own0 b = 8) (hg : w0.grownBy w u.ownBlock) : Tk tl tg EL E own0 w0 Wb c vl vg LS GS y [(u, n)] w own0 := by
  obtain ⟨t1, t2, t3, t4, t5⟩ := ht
  refine ⟨hg.os, hg.tape, hg.output, hg.size, ?_, fun _ _ => rfl, ?_, htopT, row_stay (own := own0) (t := 8) hrl hg (fun b hb => by rw [hrlT b hb]; exact t4) huT, hrlT, row_stay (own := own0) (t := 8) hrg hg (fun b hb => by rw [hrgT b hb]; exact t5) huT, hrgT, ?_⟩
  · intro k g1 _ _ _ g5
    exact hg.block k g1 (fun e => g5 (huT k e.symm))
  · rw [hg.block _ (lt_of_block htop) (fun e => by have := huT _ e.symm; rw [htopT] at this; cases this)]
    exact htop
  · intro p hp
    cases List.mem_singleton.1 hp
    exact ⟨hu, huT⟩
theorem Tk.cell (h : Tk tl tg EL E own0 w0 Wb c vl vg LS GS y ls w own) (i : Nat) (v : Value) (hv : c[i]? = some v) : w.cell? ⟨Wb, i, none⟩ = some v := by
  have := h.top; simp [World.cell?, this, hv]
theorem Tk.free (h : Tk tl tg EL E own0 w0 Wb c vl vg LS GS y ls w own) (i : Nat) : w.frozen? ⟨Wb, i, none⟩ = false := by
  have := h.top; simp [World.frozen?, this]
end

/-- A list as its owner writes it full. -/
def Fill (E : TypeId) (w wr : World) (u : Value) (n : Nat) (xs : List Value) (y : Value) (k : Nat) : Prop := wr.ownsRow 0 E 1 u n (List.replicate k y ++ xs.drop k) ∧ w.grownBy wr u.ownBlock
theorem Fill.zero {E : TypeId} {w : World} {u : Value} {n : Nat} {xs : List Value} {y : Value} (h : w.ownsRow 0 E 1 u n xs) : Fill E w w u n xs y 0 := ⟨by simpa using h, World.grownBy.refl _ _⟩
theorem Fill.all {E : TypeId} {w wr : World} {u : Value} {n : Nat} {xs : List Value} {y : Value} (h : Fill E w wr u n xs y n) (hl : xs.length = n) : AllR E wr u n y := by
  have := h.1
  rw [List.drop_eq_nil_of_le (by omega), List.append_nil] at this
  exact this
theorem Fill.at {E : TypeId} {w wr : World} {u : Value} {n : Nat} {xs : List Value} {y : Value} {k : Nat} (h : Fill E w wr u n xs y k) (hk : k < n) :
    ∃ g cap, u = .slice (some ⟨g, 0, none⟩) n cap ∧ (∃ z, wr.cell? ⟨g, k, none⟩ = some z) ∧ wr.frozen? ⟨g, k, none⟩ = false ∧ Fill E w (wr.setCell ⟨g, k, none⟩ y) u n xs y (k + 1) := by
  obtain ⟨h1, h2⟩ := h
  obtain ⟨g, cap, rfl, _, _⟩ := World.ownsRow.form h1 (by omega)
  have hl := h1.1
  rw [List.length_append, List.length_replicate, List.length_drop] at hl
  have hc := World.ownsRow.cellAt h1 k (by omega)
  have hst := World.ownsRow.stored h1 k y
  refine ⟨g, cap, rfl, ?_, World.ownsRow.frozenAt h1 k, ?_, ?_⟩
  · rw [List.getElem?_append_right (by simp), List.length_replicate, Nat.sub_self, List.getElem?_drop, Nat.add_zero, List.getElem?_eq_getElem (by omega)] at hc
    exact ⟨_, hc⟩
  · have e : (List.replicate k y ++ xs.drop k).set k y = List.replicate (k + 1) y ++ xs.drop (k + 1) := by
      rw [List.set_append_right _ _ (by simp), List.length_replicate, Nat.sub_self, List.replicate_succ', List.append_assoc]
      congr 1
      rw [List.drop_eq_getElem_cons (by omega)]
      rfl
    rw [← e]; exact hst.1
  · exact ⟨hst.2.os.trans h2.os, hst.2.tape.trans h2.tape, hst.2.output.trans h2.output, Nat.le_trans h2.size hst.2.size, fun k' hk' hn => (hst.2.block k' (Nat.lt_of_lt_of_le hk' h2.size) hn).trans (h2.block k' hk' hn)⟩

end Go.Proofs.YtedblhcehlbbmaaGreatDoor

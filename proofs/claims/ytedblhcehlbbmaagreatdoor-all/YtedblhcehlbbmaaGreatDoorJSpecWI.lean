import Derived.Test.YtedblhcehlbbmaaGreatDoorJSpecWorld
import Derived.Test.YtedblhcehlbbmaaGreatDoorSpecTake
import Derived.WalkKit
import Derived.WalkSpells
import Derived.WalkLawsBesides
import Derived.Deep.Cut
/-
  THE SCRIPT's WORLD WHOLE: books and lists; what stays when something of it is written.
-/
namespace Go.Proofs.YtedblhcehlbbmaaGreatDoor
set_option maxRecDepth 20000
open Go.RowKit

/-- What the world's five fields hold; the shelves; the lists of texts, their grown ones, the lists of numbers, their grown ones. -/
structure Gh where
  vb : Value
  vl : Value
  vg : Value
  vp : Value
  vy : Value
  sh : List Shf
  ls : List Value
  gs : List Value
  ps : List Value
  ys : List Value
def shV (l : List Shf) : List Value := l.map fun s => Value.pointer (some ⟨s.L, 0, none⟩)
theorem length_shV (l : List Shf) : (shV l).length = l.length := by simp [shV]
/-- A list that came out, full of its mark. -/
def FullR (E : TypeId) (w : World) (own : Nat → Nat) (y v : Value) : Prop := ∃ n, n ≤ 1003 ∧ AllR E w v n y ∧ ∀ b, v.ownBlock = some b → own b = 6
/-- The i-th shelf. -/
structure ShI (w : World) (own : Nat → Nat) (i : Nat) (s : Shf) : Prop where
  ok : ShOk w s
  tL : own s.L = 10 + 3 * i
  tS : ∀ k, s.S k → own k = 11 + 3 * i
  tR : ∀ k, s.R k → own k = 12 + 3 * i
/-- Whose a block is: 0 the world's own block; 1 to 5 its rows; 6 the lists that came out; 7 what was there before; 10 + 3i, 11 + 3i, 12 + 3i: the i-th shelf, its book, the document's. -/
structure WI (w0 w : World) (Wb : Nat) (own : Nat → Nat) (G : Gh) : Prop where
  base : Below w0.heap.size w0 w
  tab : TabOk w0
  out : ∀ k, k < w0.heap.size → own k = 7
  top : w.heap[Wb]? = some (.cells #[G.vb, G.vl, G.vg, G.vp, G.vy] 28 (0, 0))
  topT : own Wb = 0
  rb : w.ownsRow 0 44 1 G.vb (shV G.sh).length (shV G.sh)
  rbT : ∀ b, G.vb.ownBlock = some b → own b = 1
  rl : w.ownsRow 0 37 1 G.vl G.ls.length G.ls
  rlT : ∀ b, G.vl.ownBlock = some b → own b = 2
  rg : w.ownsRow 0 37 1 G.vg G.gs.length G.gs
  rgT : ∀ b, G.vg.ownBlock = some b → own b = 3
  rp : w.ownsRow 0 54 1 G.vp G.ps.length G.ps
  rpT : ∀ b, G.vp.ownBlock = some b → own b = 4
  ry : w.ownsRow 0 54 1 G.vy G.ys.length G.ys
  ryT : ∀ b, G.vy.ownBlock = some b → own b = 5
  sh : ∀ (i : Nat) s, G.sh[i]? = some s → ShI w own i s
  lenG : G.gs.length = 3 * G.ls.length
  lenY : G.ys.length = 3 * G.ps.length
  ls : ∀ (k : Nat) v, G.ls[k]? = some v → FullR 9 w own (.string (mrk k)) v
  gs : ∀ (k : Nat) v, G.gs[k]? = some v → FullR 9 w own (.string (mrk (k / 3))) v
  ps : ∀ (k : Nat) v, G.ps[k]? = some v → FullR 3 w own (.int .i64 (-1 - (k : Int))) v
  ys : ∀ (k : Nat) v, G.ys[k]? = some v → FullR 3 w own (.int .i64 (-1 - ((k / 3 : Nat) : Int))) v
/-- How many there are. -/
def Few (G : Gh) (N : Nat) : Prop := G.sh.length ≤ N ∧ G.ls.length ≤ N ∧ G.ps.length ≤ N

/-- All but the blocks of the owners T is as it was, and whose it was. -/
structure Keep (own own' : Nat → Nat) (T : Nat → Prop) (w w' : World) : Prop where
  os : w'.os = w.os
  tape : w'.tape = w.tape
  output : w'.output = w.output
  size : w.heap.size ≤ w'.heap.size
  blk : ∀ k, k < w.heap.size → ¬ T (own k) → w'.heap[k]? = w.heap[k]? ∧ own' k = own k
section
variable {own own' : Nat → Nat} {T : Nat → Prop} {w w' : World}
theorem Keep.rowAt (h : Keep own own' T w w') {E : TypeId} {v : Value} {n : Nat} {xs : List Value} {t : Nat} (hr : w.ownsRow 0 E 1 v n xs) (ht : ∀ b, v.ownBlock = some b → own b = t) (hT : ¬ T t) : w'.ownsRow 0 E 1 v n xs := by
  obtain ⟨h1, h2⟩ := hr
  refine ⟨h1, ?_⟩
  rcases h2 with h2 | ⟨g, cap, cur, rfl, e2, e3, e4⟩
  · exact .inl h2
  · exact .inr ⟨g, cap, cur, rfl, e2, by rw [(h.blk g (lt_of_block e3) (by rw [ht g rfl]; exact hT)).1]; exact e3, e4⟩
theorem Keep.tagAt (h : Keep own own' T w w') {E : TypeId} {v : Value} {n : Nat} {xs : List Value} {t : Nat} (hr : w.ownsRow 0 E 1 v n xs) (ht : ∀ b, v.ownBlock = some b → own b = t) (hT : ¬ T t) : ∀ b, v.ownBlock = some b → own' b = t := fun b hb => by
  rw [(h.blk b (World.ownsRow.lt hr b hb).2 (by rw [ht b hb]; exact hT)).2]; exact ht b hb
theorem Keep.full (h : Keep own own' T w w') {E : TypeId} {y v : Value} (hf : FullR E w own y v) (hT : ¬ T 6) : FullR E w' own' y v := by
  obtain ⟨n, h1, h2, h3⟩ := hf
  exact ⟨n, h1, h.rowAt h2 h3 hT, h.tagAt h2 h3 hT⟩
theorem Keep.sh (h : Keep own own' T w w') {i : Nat} {s : Shf} (hs : ShI w own i s) (h1 : ¬ T (10 + 3 * i)) (h2 : ¬ T (11 + 3 * i)) (h3 : ¬ T (12 + 3 * i)) : ShI w' own' i s := by
  have hL := h.blk s.L hs.ok.blk.lt (by rw [hs.tL]; exact h1)
  have hS : ∀ k, s.S k → w'.heap[k]? = w.heap[k]? ∧ own' k = own k := fun k hk => h.blk k (hs.ok.book.lt k hk) (by rw [hs.tS k hk]; exact h2)
  have hR : ∀ k, s.R k → w'.heap[k]? = w.heap[k]? ∧ own' k = own k := fun k hk => h.blk k (hs.ok.ref.lt k hk) (by rw [hs.tR k hk]; exact h3)
  refine ⟨hs.ok.stay fun k hk => ?_, by rw [hL.2]; exact hs.tL, fun k hk => by rw [(hS k hk).2]; exact hs.tS k hk, fun k hk => by rw [(hR k hk).2]; exact hs.tR k hk⟩
  rcases hk with rfl | hk | hk
  · exact hL.1
  · exact (hS k hk).1
  · exact (hR k hk).1
theorem Keep.base (h : Keep own own' T w w') {w0 : World} (hb : Below w0.heap.size w0 w) (ho : ∀ k, k < w0.heap.size → own k = 7) (hT : ¬ T 7) : Below w0.heap.size w0 w' :=
  ⟨h.os.trans hb.os, h.tape.trans hb.tape, h.output.trans hb.output, Nat.le_trans hb.size h.size, fun k hk => ((h.blk k (Nat.lt_of_lt_of_le hk hb.size) (by rw [ho k hk]; exact hT)).1).trans (hb.block k hk)⟩
theorem Keep.out (h : Keep own own' T w w') {w0 : World} (hb : Below w0.heap.size w0 w) (ho : ∀ k, k < w0.heap.size → own k = 7) (hT : ¬ T 7) : ∀ k, k < w0.heap.size → own' k = 7 := fun k hk => by
  rw [(h.blk k (Nat.lt_of_lt_of_le hk hb.size) (by rw [ho k hk]; exact hT)).2]; exact ho k hk
theorem Keep.below (hb : Below w.heap.size w w') (ho : ∀ k, k < w.heap.size → own' k = own k) (T : Nat → Prop) : Keep own own' T w w' :=
  ⟨hb.os, hb.tape, hb.output, hb.size, fun k hk _ => ⟨hb.block k hk, ho k hk⟩⟩
end

/-- Only new blocks: all stands. -/
theorem WI.kept {w0 w w' : World} {Wb : Nat} {own own' : Nat → Nat} {G : Gh} (h : WI w0 w Wb own G) (hb : Below w.heap.size w w') (ho : ∀ k, k < w.heap.size → own' k = own k) : WI w0 w' Wb own' G := by
  have K : Keep own own' (fun _ => False) w w' := Keep.below hb ho _
  have hW := lt_of_block h.top
  exact ⟨K.base h.base h.out id, h.tab, K.out h.base h.out id, by rw [hb.block _ hW]; exact h.top, by rw [ho _ hW]; exact h.topT, K.rowAt h.rb h.rbT id, K.tagAt h.rb h.rbT id, K.rowAt h.rl h.rlT id, K.tagAt h.rl h.rlT id, K.rowAt h.rg h.rgT id, K.tagAt h.rg h.rgT id, K.rowAt h.rp h.rpT id, K.tagAt h.rp h.rpT id, K.rowAt h.ry h.ryT id, K.tagAt h.ry h.ryT id,
    fun i s hs => K.sh (h.sh i s hs) id id id, h.lenG, h.lenY, fun k v hv => K.full (h.ls k v hv) id, fun k v hv => K.full (h.gs k v hv) id, fun k v hv => K.full (h.ps k v hv) id, fun k v hv => K.full (h.ys k v hv) id⟩

/-- A step on the i-th shelf. -/
theorem WI.asked {w0 w w' : World} {Wb : Nat} {own : Nat → Nat} {G : Gh} (h : WI w0 w Wb own G) {i : Nat} {s : Shf} (hs : G.sh[i]? = some s) (ha : AskedOk w s w') : ∃ own' G', WI w0 w' Wb own' G' ∧ G'.sh.length = G.sh.length ∧ G'.ls = G.ls ∧ G'.ps = G.ps := by
  classical
  obtain ⟨s', hok, hL, hS, hR, hb⟩ := ha
  have hI := h.sh i s hs
  have hil : i < G.sh.length := by
    rcases Nat.lt_or_ge i G.sh.length with hh | hh
    · exact hh
    · rw [List.getElem?_eq_none hh] at hs; cases hs
  obtain ⟨own', hown⟩ : ∃ own' : Nat → Nat, own' = fun k => if k < w.heap.size then own k else if s'.S k then 11 + 3 * i else 12 + 3 * i := ⟨_, rfl⟩
  have ho : ∀ k, k < w.heap.size → own' k = own k := fun k hk => by rw [hown]; exact if_pos hk
  have K : Keep own own' (fun t => t = 10 + 3 * i ∨ t = 11 + 3 * i ∨ t = 12 + 3 * i) w w' := by
    refine ⟨hb.os, hb.tape, hb.output, hb.size, fun k hk hn => ⟨hb.block k hk (fun hc => hn ?_), ho k hk⟩⟩
    rcases hc with rfl | hc | hc
    · exact .inl hI.tL
    · exact .inr (.inl (hI.tS k hc))
    · exact .inr (.inr (hI.tR k hc))
  have hW := lt_of_block h.top
  have hsh : shV (G.sh.set i s') = shV G.sh := by
    unfold shV
    rw [List.map_set]
    apply List.ext_getElem?
    intro j
    rw [List.getElem?_set]
    by_cases hj : i = j
    · subst hj
      have hsi : G.sh[i] = s := by rw [List.getElem?_eq_getElem hil] at hs; exact Option.some.inj hs
      rw [if_pos rfl, List.getElem?_map, List.getElem?_eq_getElem hil, hsi, hL]
      simp [hil]
    · rw [if_neg hj]
  refine ⟨own', { G with sh := G.sh.set i s' }, ⟨K.base h.base h.out (by omega), h.tab, K.out h.base h.out (by omega), ?_, ?_, by rw [hsh]; exact K.rowAt h.rb h.rbT (by omega), K.tagAt h.rb h.rbT (by omega), K.rowAt h.rl h.rlT (by omega), K.tagAt h.rl h.rlT (by omega), K.rowAt h.rg h.rgT (by omega), K.tagAt h.rg h.rgT (by omega), K.rowAt h.rp h.rpT (by omega), K.tagAt h.rp h.rpT (by omega), K.rowAt h.ry h.ryT (by omega), K.tagAt h.ry h.ryT (by omega), ?_, h.lenG, h.lenY, fun k v hv => K.full (h.ls k v hv) (by omega), fun k v hv => K.full (h.gs k v hv) (by omega), fun k v hv => K.full (h.ps k v hv) (by omega), fun k v hv => K.full (h.ys k v hv) (by omega)⟩, by simp, rfl, rfl⟩
  · rw [(K.blk Wb hW (by rw [h.topT]; omega)).1]; exact h.top
  · rw [ho _ hW]; exact h.topT
  · intro j t ht
    rw [List.getElem?_set] at ht
    by_cases hj : i = j
    · subst hj
      rw [if_pos rfl, if_pos hil] at ht
      cases ht
      refine ⟨hok, by rw [hL, ho _ hI.ok.blk.lt]; exact hI.tL, fun k hk => ?_, fun k hk => ?_⟩
      · rcases hS k hk with hk' | hk'
        · rw [ho _ (hI.ok.book.lt k hk')]; exact hI.tS k hk'
        · rw [hown]
          show (if k < w.heap.size then own k else if s'.S k then 11 + 3 * i else 12 + 3 * i) = _
          rw [if_neg (by omega), if_pos hk]
      · rcases hR k hk with hk' | hk'
        · rw [ho _ (hI.ok.ref.lt k hk')]; exact hI.tR k hk'
        · rw [hown]
          show (if k < w.heap.size then own k else if s'.S k then 11 + 3 * i else 12 + 3 * i) = _
          rw [if_neg (by omega), if_neg (fun hc => hok.apart k hc hk)]
    · rw [if_neg hj] at ht
      exact K.sh (h.sh j t ht) (by omega) (by omega) (by omega)

end Go.Proofs.YtedblhcehlbbmaaGreatDoor


/-
  THE SCRIPT's WORLD: a list more, a book more.
-/
namespace Go.Proofs.YtedblhcehlbbmaaGreatDoor
set_option maxRecDepth 20000
open Go.RowKit

theorem get_snoc {l : List Value} {x v : Value} {k : Nat} (h : (l ++ [x])[k]? = some v) : l[k]? = some v ∨ (k = l.length ∧ v = x) := by
  rcases Nat.lt_trichotomy k l.length with hk | hk | hk
  · rw [List.getElem?_append_left hk] at h; exact .inl h
  · rw [hk, List.getElem?_append_right (Nat.le_refl _), Nat.sub_self] at h
    simp at h
    exact .inr ⟨hk, h.symm⟩
  · rw [List.getElem?_eq_none (by simp; omega)] at h; cases h
theorem get_snoc3 {l : List Value} {x y z v : Value} {k : Nat} (h : (l ++ [x] ++ [y] ++ [z])[k]? = some v) : l[k]? = some v ∨ (k = l.length ∧ v = x) ∨ (k = l.length + 1 ∧ v = y) ∨ (k = l.length + 2 ∧ v = z) := by
  rcases get_snoc h with h | ⟨h, h'⟩
  · rcases get_snoc h with h | ⟨h, h'⟩
    · rcases get_snoc h with h | h
      · exact .inl h
      · exact .inr (.inl h)
    · simp at h
      exact .inr (.inr (.inl ⟨h, h'⟩))
  · simp at h
    exact .inr (.inr (.inr ⟨h, h'⟩))
/-- The lists that were being taken are taken. -/
def tagL (own : Nat → Nat) : Nat → Nat := fun k => if own k = 8 then 6 else own k
theorem tagL_8 {own : Nat → Nat} {k : Nat} (h : own k = 8) : tagL own k = 6 := if_pos h
theorem tagL_ne {own : Nat → Nat} {k t : Nat} (h : own k = t) (ht : t ≠ 8) : tagL own k = t := by unfold tagL; rw [if_neg (by rw [h]; exact ht)]; exact h
theorem Tk.keep {tl tg : Nat} {EL E : TypeId} {own0 own : Nat → Nat} {w0 w : World} {Wb : Nat} {c : Array Value} {vl vg : Value} {LS GS : List Value} {y : Value} {ls : List (Value × Nat)} (h : Tk tl tg EL E own0 w0 Wb c vl vg LS GS y ls w own) :
    Keep own0 (tagL own) (fun t => t = 0 ∨ t = tl ∨ t = tg ∨ t = 8) w0 w :=
  ⟨h.os, h.tape, h.output, h.size, fun k hk hn => ⟨h.fr k hk (fun e => hn (.inl e)) (fun e => hn (.inr (.inl e))) (fun e => hn (.inr (.inr (.inl e)))) (fun e => hn (.inr (.inr (.inr e)))), tagL_ne (h.ow k hk) (fun e => hn (.inr (.inr (.inr e))))⟩⟩
theorem Tk.full {tl tg : Nat} {EL E : TypeId} {own0 own : Nat → Nat} {w0 w : World} {Wb : Nat} {c : Array Value} {vl vg : Value} {LS GS : List Value} {y : Value} {ls : List (Value × Nat)} (h : Tk tl tg EL E own0 w0 Wb c vl vg LS GS y ls w own) {v : Value} {n : Nat} (hv : (v, n) ∈ ls) (hn : n ≤ 1003) : FullR E w (tagL own) y v :=
  ⟨n, hn, (h.ls _ hv).1, fun b hb => tagL_8 ((h.ls _ hv).2 b hb)⟩

theorem WI.taken {w0 w w' : World} {Wb : Nat} {own own' : Nat → Nat} {G : Gh} {vl vg u g1 g2 g3 : Value} {n : Nat} (h : WI w0 w Wb own G) (hn : n ≤ 1000)
    (t : Tk 2 3 37 9 own w Wb #[G.vb, vl, vg, G.vp, G.vy] vl vg (G.ls ++ [u]) (G.gs ++ [g1] ++ [g2] ++ [g3]) (.string (mrk G.ls.length)) [(g3, n + 3), (g2, n + 2), (g1, n + 1), (u, n)] w' own') :
    ∃ own'' G', WI w0 w' Wb own'' G' ∧ G'.sh = G.sh ∧ G'.ls.length = G.ls.length + 1 ∧ G'.ps = G.ps := by
  have K := t.keep
  refine ⟨tagL own', { G with vl := vl, vg := vg, ls := G.ls ++ [u], gs := G.gs ++ [g1] ++ [g2] ++ [g3] }, ⟨K.base h.base h.out (by omega), h.tab, K.out h.base h.out (by omega), t.top, tagL_ne t.topT (by omega), K.rowAt h.rb h.rbT (by omega), K.tagAt h.rb h.rbT (by omega), t.rl, fun b hb => tagL_ne (t.rlT b hb) (by omega), t.rg, fun b hb => tagL_ne (t.rgT b hb) (by omega), K.rowAt h.rp h.rpT (by omega), K.tagAt h.rp h.rpT (by omega), K.rowAt h.ry h.ryT (by omega), K.tagAt h.ry h.ryT (by omega), fun i s hs => K.sh (h.sh i s hs) (by omega) (by omega) (by omega), ?_, h.lenY, ?_, ?_, fun k v hv => K.full (h.ps k v hv) (by omega), fun k v hv => K.full (h.ys k v hv) (by omega)⟩, rfl, by simp, rfl⟩
  · have := h.lenG
    simp only [List.length_append, List.length_singleton]
    omega
  · intro k v hv
    rcases get_snoc hv with hv | ⟨rfl, rfl⟩
    · exact K.full (h.ls k v hv) (by omega)
    · exact t.full (n := n) (by simp) (by omega)
  · intro k v hv
    have hl := h.lenG
    rcases get_snoc3 hv with hv | ⟨hk, rfl⟩ | ⟨hk, rfl⟩ | ⟨hk, rfl⟩
    · exact K.full (h.gs k v hv) (by omega)
    · rw [show k / 3 = G.ls.length by omega]; exact t.full (n := n + 1) (by simp) (by omega)
    · rw [show k / 3 = G.ls.length by omega]; exact t.full (n := n + 2) (by simp) (by omega)
    · rw [show k / 3 = G.ls.length by omega]; exact t.full (n := n + 3) (by simp) (by omega)

theorem WI.takenI {w0 w w' : World} {Wb : Nat} {own own' : Nat → Nat} {G : Gh} {vl vg u g1 g2 g3 : Value} {n : Nat} (h : WI w0 w Wb own G) (hn : n ≤ 1000)
    (t : Tk 4 5 54 3 own w Wb #[G.vb, G.vl, G.vg, vl, vg] vl vg (G.ps ++ [u]) (G.ys ++ [g1] ++ [g2] ++ [g3]) (.int .i64 (-1 - (G.ps.length : Int))) [(g3, n + 3), (g2, n + 2), (g1, n + 1), (u, n)] w' own') :
    ∃ own'' G', WI w0 w' Wb own'' G' ∧ G'.sh = G.sh ∧ G'.ls = G.ls ∧ G'.ps.length = G.ps.length + 1 := by
  have K := t.keep
  refine ⟨tagL own', { G with vp := vl, vy := vg, ps := G.ps ++ [u], ys := G.ys ++ [g1] ++ [g2] ++ [g3] }, ⟨K.base h.base h.out (by omega), h.tab, K.out h.base h.out (by omega), t.top, tagL_ne t.topT (by omega), K.rowAt h.rb h.rbT (by omega), K.tagAt h.rb h.rbT (by omega), K.rowAt h.rl h.rlT (by omega), K.tagAt h.rl h.rlT (by omega), K.rowAt h.rg h.rgT (by omega), K.tagAt h.rg h.rgT (by omega), t.rl, fun b hb => tagL_ne (t.rlT b hb) (by omega), t.rg, fun b hb => tagL_ne (t.rgT b hb) (by omega), fun i s hs => K.sh (h.sh i s hs) (by omega) (by omega) (by omega), h.lenG, ?_, fun k v hv => K.full (h.ls k v hv) (by omega), fun k v hv => K.full (h.gs k v hv) (by omega), ?_, ?_⟩, rfl, rfl, by simp⟩
  · have := h.lenY
    simp only [List.length_append, List.length_singleton]
    omega
  · intro k v hv
    rcases get_snoc hv with hv | ⟨rfl, rfl⟩
    · exact K.full (h.ps k v hv) (by omega)
    · exact t.full (n := n) (by simp) (by omega)
  · intro k v hv
    have hl := h.lenY
    rcases get_snoc3 hv with hv | ⟨hk, rfl⟩ | ⟨hk, rfl⟩ | ⟨hk, rfl⟩
    · exact K.full (h.ys k v hv) (by omega)
    · rw [show k / 3 = G.ps.length by omega]; exact t.full (n := n + 1) (by simp) (by omega)
    · rw [show k / 3 = G.ps.length by omega]; exact t.full (n := n + 2) (by simp) (by omega)
    · rw [show k / 3 = G.ps.length by omega]; exact t.full (n := n + 3) (by simp) (by omega)

/-- A shelf of new blocks, put behind the others. -/
theorem WI.more {w0 w w2 w3 : World} {Wb : Nat} {own : Nat → Nat} {G : Gh} {s : Shf} {vb : Value} (h : WI w0 w Wb own G) (hb : Below w.heap.size w w2) (hs : ShOk w2 s) (hn : ∀ k, s.own k → w.heap.size ≤ k)
    (hg : GrewRow 44 w2 G.vb (shV G.sh) (.pointer (some ⟨s.L, 0, none⟩)) vb w3) :
    ∃ own' G', WI w0 (w3.setCell ⟨Wb, 0, none⟩ vb) Wb own' G' ∧ G'.sh.length = G.sh.length + 1 ∧ G'.ls = G.ls ∧ G'.ps = G.ps := by
  classical
  obtain ⟨g1, g2, g3⟩ := hg
  have h2 := h.kept hb (own' := own) (fun _ _ => rfl)
  have hW := lt_of_block h.top
  have hW2 := lt_of_block h2.top
  have z1 := hb.size
  have z2 := g2.size
  obtain ⟨own', hown⟩ : ∃ own' : Nat → Nat, own' = fun k => if k < w.heap.size then own k else if k = s.L then 10 + 3 * G.sh.length else if s.S k then 11 + 3 * G.sh.length else if s.R k then 12 + 3 * G.sh.length else 1 := ⟨_, rfl⟩
  have ho : ∀ k, k < w.heap.size → own' k = own k := fun k hk => by rw [hown]; exact if_pos hk
  have e0 : Below 0 w3 (w3.setCell ⟨Wb, 0, none⟩ vb) := (Below.refl _ _).setCell (Nat.zero_le _) _
  have hvb : ∀ b, G.vb.ownBlock = some b → b < w.heap.size ∧ own b = 1 := fun b hb' => ⟨(World.ownsRow.lt h.rb b hb').2, h.rbT b hb'⟩
  have hold : ∀ k, k < w2.heap.size → own k ≠ 1 ∨ w.heap.size ≤ k → k ≠ Wb → (w3.setCell ⟨Wb, 0, none⟩ vb).heap[k]? = w2.heap[k]? := fun k hk h1 h2' => by
    rw [Below.heap_setCell _ _ _ _ h2', g2.block k hk (fun e => ?_)]
    have := hvb k e.symm
    omega
  have K : Keep own own' (fun t => t = 0 ∨ t = 1) w (w3.setCell ⟨Wb, 0, none⟩ vb) := by
    refine ⟨by rw [e0.os, g2.os, hb.os], by rw [e0.tape, g2.tape, hb.tape], by rw [e0.output, g2.output, hb.output], Nat.le_trans z1 (Nat.le_trans z2 e0.size), fun k hk hnt => ⟨?_, ho k hk⟩⟩
    rw [hold k (by omega) (.inl fun e => hnt (.inr e)) (fun e => hnt (.inl (by rw [e]; exact h.topT))), hb.block k hk]
  have hWs : ∀ k, s.own k → k ≠ Wb := fun k hk e => by have := hn k hk; omega
  have hsk : ShOk (w3.setCell ⟨Wb, 0, none⟩ vb) s := hs.stay fun k hk => hold k (hs.lt k hk) (.inr (hn k hk)) (hWs k hk)
  have hvbW : ∀ b, vb.ownBlock = some b → b ≠ Wb := fun b hb' e => by
    subst e
    rcases g3 with e | e
    · rw [e] at hb'
      have := (hvb b hb').2
      rw [h.topT] at this
      cases this
    · rw [e] at hb'
      cases hb'
      omega
  have hsv : shV (G.sh ++ [s]) = shV G.sh ++ [.pointer (some ⟨s.L, 0, none⟩)] := by unfold shV; rw [List.map_append]; rfl
  refine ⟨own', { G with vb := vb, sh := G.sh ++ [s] }, ⟨K.base h.base h.out (by omega), h.tab, K.out h.base h.out (by omega), ?_, by rw [ho _ hW]; exact h.topT, by rw [hsv]; exact row_other g1 hvbW, ?_, K.rowAt h.rl h.rlT (by omega), K.tagAt h.rl h.rlT (by omega), K.rowAt h.rg h.rgT (by omega), K.tagAt h.rg h.rgT (by omega), K.rowAt h.rp h.rpT (by omega), K.tagAt h.rp h.rpT (by omega), K.rowAt h.ry h.ryT (by omega), K.tagAt h.ry h.ryT (by omega), ?_, h.lenG, h.lenY, fun k v hv => K.full (h.ls k v hv) (by omega), fun k v hv => K.full (h.gs k v hv) (by omega), fun k v hv => K.full (h.ps k v hv) (by omega), fun k v hv => K.full (h.ys k v hv) (by omega)⟩, by simp, rfl, rfl⟩
  · have h3 : w3.heap[Wb]? = some (.cells #[G.vb, G.vl, G.vg, G.vp, G.vy] 28 (0, 0)) := by
      rw [g2.block Wb hW2 (fun e => by have := (hvb Wb e.symm).2; rw [h.topT] at this; cases this)]
      exact h2.top
    exact blk_setCell h3
  · intro b hb'
    rcases g3 with e | e
    · rw [e] at hb'
      rw [ho b (hvb b hb').1]; exact (hvb b hb').2
    · rw [e] at hb'
      cases hb'
      rw [hown]
      show (if w2.heap.size < w.heap.size then own w2.heap.size else if w2.heap.size = s.L then 10 + 3 * G.sh.length else if s.S w2.heap.size then 11 + 3 * G.sh.length else if s.R w2.heap.size then 12 + 3 * G.sh.length else 1) = 1
      have q1 := hs.blk.lt
      rw [if_neg (by omega), if_neg (by omega), if_neg (fun hc => by have := hs.book.lt _ hc; omega), if_neg (fun hc => by have := hs.ref.lt _ hc; omega)]
  · intro i t ht
    rcases Nat.lt_trichotomy i G.sh.length with hi | hi | hi
    · rw [List.getElem?_append_left hi] at ht
      exact K.sh (h.sh i t ht) (by omega) (by omega) (by omega)
    · subst hi
      rw [List.getElem?_append_right (Nat.le_refl _), Nat.sub_self] at ht
      simp at ht
      subst ht
      have hnew : ∀ k, s.own k → ¬ k < w.heap.size := fun k hk => by have := hn k hk; omega
      refine ⟨hsk, ?_, fun k hk => ?_, fun k hk => ?_⟩
      · rw [hown]
        show (if s.L < w.heap.size then own s.L else if s.L = s.L then 10 + 3 * G.sh.length else _) = _
        rw [if_neg (hnew _ (.inl rfl)), if_pos rfl]
      · rw [hown]
        show (if k < w.heap.size then own k else if k = s.L then 10 + 3 * G.sh.length else if s.S k then 11 + 3 * G.sh.length else _) = _
        rw [if_neg (hnew _ (.inr (.inl hk))), if_neg (fun e => hs.nS (by rw [← e]; exact hk)), if_pos hk]
      · rw [hown]
        show (if k < w.heap.size then own k else if k = s.L then 10 + 3 * G.sh.length else if s.S k then 11 + 3 * G.sh.length else if s.R k then 12 + 3 * G.sh.length else 1) = _
        rw [if_neg (hnew _ (.inr (.inr hk))), if_neg (fun e => hs.nR (by rw [← e]; exact hk)), if_neg (fun hc => hs.apart k hc hk), if_pos hk]
    · rw [List.getElem?_eq_none (by simp; omega)] at ht; cases ht

/-- The books as 'asked' meets them. -/
theorem WI.askIn {w0 w : World} {Wb : Nat} {own : Nat → Nat} {G : Gh} (h : WI w0 w Wb own G) (o : OpI) (h64 : Op64 o) (hpos : 0 < G.sh.length) (hfew : G.sh.length ≤ 1000000000000) :
    ∃ g cap s, G.vb = .slice (some ⟨g, 0, none⟩) G.sh.length cap ∧ G.sh[pickI o.a G.sh.length]? = some s ∧ AskIn w Wb g G.sh.length cap o s := by
  have hl := length_shV G.sh
  obtain ⟨g, cap, hv, _, _⟩ := World.ownsRow.form h.rb (by omega)
  have hp := pickI_lt o.a G.sh.length hpos
  have hrow := h.rb
  rw [hv] at hrow
  have hc := World.ownsRow.cellAt hrow (pickI o.a G.sh.length) (by omega)
  unfold shV at hc
  rw [List.getElem?_map, List.getElem?_eq_getElem hp] at hc
  have hI := h.sh _ _ (List.getElem?_eq_getElem hp)
  refine ⟨g, cap, G.sh[pickI o.a G.sh.length], by rw [hv, hl], List.getElem?_eq_getElem hp, ⟨?_, hpos, hfew, hc, hI.ok, ⟨w0, h.tab, h.base, ?_⟩, h64⟩⟩
  · have ht := h.top
    rw [hv, hl] at ht
    simp [World.cell?, ht]
  · rcases Nat.lt_or_ge (G.sh[pickI o.a G.sh.length]).L w0.heap.size with hh | hh
    · have := h.out _ hh
      rw [hI.tL] at this
      omega
    · exact hh

end Go.Proofs.YtedblhcehlbbmaaGreatDoor


/-
  A STEP OF THE SCRIPT: a book more.
-/
namespace Go.Proofs.YtedblhcehlbbmaaGreatDoor
set_option maxRecDepth 20000
open Go.RowKit

theorem Tryz.infoSh : (Tryz.prog.info? 44).map (fun i => (i.zero, i.size, i.bytes)) = some (some (.pointer none), 1, 8) := by kernel_rfl
theorem goodE_nil {w : World} {S : Nat → Prop} {v : Value} (h : Rep w S v []) : GoodE [] := by obtain ⟨_, _, _, _, _, _, hg, _⟩ := h; exact hg
/-- The three blocks that are made for a shelf. -/
def shW (w2 : World) (bd : Addr) : World := ((w2.alloc (.cells #[.slice none 0 0] 48)).alloc (.cells (shC (.pointer (some bd)) (.pointer (some ⟨w2.heap.size, 0, none⟩)) false zA ⟨#[]⟩ ⟨#[]⟩) 50)).alloc (.cells #[.pointer (some ⟨w2.heap.size + 1, 0, none⟩)] 44)
theorem shW_below (w2 : World) (bd : Addr) : Below w2.heap.size w2 (shW w2 bd) := (((Below.refl _ _).alloc (Nat.le_refl _) _).alloc (by simp) _).alloc (by simp; omega) _
theorem shW_size (w2 : World) (bd : Addr) : (shW w2 bd).heap.size = w2.heap.size + 3 := by unfold shW; simp
theorem shW_0 (w2 : World) (bd : Addr) : (shW w2 bd).heap[w2.heap.size]? = some (.cells #[.slice none 0 0] 48 (0, 0)) := by
  have h1 := heap_alloc_new w2 (.cells #[.slice none 0 0] 48)
  have k1 : Below (w2.alloc (.cells #[.slice none 0 0] 48)).heap.size (w2.alloc (.cells #[.slice none 0 0] 48)) (shW w2 bd) := ((Below.refl _ _).alloc (Nat.le_refl _) _).alloc (by simp) _
  rw [k1.block _ (by simp)]; exact h1
theorem shW_1 (w2 : World) (bd : Addr) : (shW w2 bd).heap[w2.heap.size + 1]? = some (.cells (shC (.pointer (some bd)) (.pointer (some ⟨w2.heap.size, 0, none⟩)) false zA ⟨#[]⟩ ⟨#[]⟩) 50 (0, 0)) := by
  have h1 := heap_alloc_new (w2.alloc (.cells #[.slice none 0 0] 48)) (.cells (shC (.pointer (some bd)) (.pointer (some ⟨w2.heap.size, 0, none⟩)) false zA ⟨#[]⟩ ⟨#[]⟩) 50)
  rw [show (w2.alloc (.cells #[.slice none 0 0] 48)).heap.size = w2.heap.size + 1 by simp] at h1
  have k1 : Below (w2.heap.size + 2) ((w2.alloc (.cells #[.slice none 0 0] 48)).alloc (.cells (shC (.pointer (some bd)) (.pointer (some ⟨w2.heap.size, 0, none⟩)) false zA ⟨#[]⟩ ⟨#[]⟩) 50)) (shW w2 bd) := (Below.refl _ _).alloc (by simp) _
  rw [k1.block _ (by omega)]; exact h1
theorem shW_2 (w2 : World) (bd : Addr) : (shW w2 bd).cell? ⟨w2.heap.size + 2, 0, none⟩ = some (.pointer (some ⟨w2.heap.size + 1, 0, none⟩)) := by
  have h1 := cell_alloc_one ((w2.alloc (.cells #[.slice none 0 0] 48)).alloc (.cells (shC (.pointer (some bd)) (.pointer (some ⟨w2.heap.size, 0, none⟩)) false zA ⟨#[]⟩ ⟨#[]⟩) 50)) (.pointer (some ⟨w2.heap.size + 1, 0, none⟩)) 44
  rw [show ((w2.alloc (.cells #[.slice none 0 0] 48)).alloc (.cells (shC (.pointer (some bd)) (.pointer (some ⟨w2.heap.size, 0, none⟩)) false zA ⟨#[]⟩ ⟨#[]⟩) 50)).heap.size = w2.heap.size + 2 by simp] at h1
  exact h1
theorem new_shelf {w2 : World} {S : Nat → Prop} {bd : Addr} (hr : Rep w2 S (.pointer (some bd)) []) : ShOk (shW w2 bd) ⟨w2.heap.size + 1, bd, ⟨w2.heap.size, 0, none⟩, S, fun k => k = w2.heap.size, [], false, zA, ⟨#[]⟩, ⟨#[]⟩⟩ := by
  refine ⟨shW_1 w2 bd, hr.stay (fun k hk => (shW_below w2 bd).block k (hr.lt k hk)), ⟨w2.heap.size, .slice none 0 0, rfl, shW_0 w2 bd, World.ownsRow_nil _ _ _ _, by simp [Value.ownBlock], goodE_nil hr, fun k => by simp [Value.ownBlock]⟩, fun h => ?_, fun h => ?_, fun k h1 h2 => ?_, fun h => by cases h⟩
  · have := hr.lt _ h
    simp at this
    omega
  · simp at h
  · have := hr.lt _ h1
    simp only at h2
    omega

set_option maxRecDepth 20000 in
set_option maxHeartbeats 8000000 in
theorem step_new (w0 w : World) (Wb : Nat) (own : Nat → Nat) (G : Gh) (o : OpI) (hWI : WI w0 w Wb own G) (hk : o.kind = 1) (hfew : G.sh.length ≤ 1000000000000) :
    Calls Tryz.prog 5 #[.pointer (some ⟨Wb, 0, none⟩), opV o] w fun r w' => r = .returned (.bool true) ∧ ∃ own' G', WI w0 w' Wb own' G' ∧ G'.sh.length = G.sh.length + 1 ∧ G'.ls = G.ls ∧ G'.ps = G.ps := by
  have HWI := hid hWI
  have HF := hid hfew
  obtain ⟨i0, hi, hz0, hz1, hz2⟩ := info_parts Tryz.infoSh
  clear hWI hfew
  unfold opV opC
  rw [hk]
  go_enter Tryz.func5, Tryz.ntmps5
  go_wp2_with fail
  generalize Value.agg _ = OV
  generalize hW1 : World.alloc w _ = w1
  have hk1 : Below w.heap.size w w1 := by rw [← hW1]; exact (Below.refl _ _).alloc (Nat.le_refl _) _
  clear hW1 hk
  refine (new_any w1).mono ?_
  rintro ee w2 ⟨v, S, rfl, hRep, hS, hb2⟩
  obtain ⟨pb, hv⟩ : ∃ pb, v = .pointer (some ⟨pb, 0, none⟩) := by obtain ⟨p, u, rfl, _⟩ := hRep; exact ⟨p, rfl⟩
  subst hv
  have HR := hid hRep
  have HSN : Hid (∀ k, S k → w.heap.size ≤ k) := fun k hk => Nat.le_trans hk1.size (hS k hk)
  have HB2 := hid (kept hk1 hb2)
  have HW2 := hid (HWI.out.kept (own' := own) HB2.out (fun _ _ => rfl))
  obtain ⟨ab, cb, hvb, _, _⟩ := row_form HW2.out.rb
  have q0 : w2.cell? ⟨Wb, 0, none⟩ = some (.slice ab (shV G.sh).length cb) := by rw [← hvb]; have := HW2.out.top; simp [World.cell?, this]
  have lW : Wb < w2.heap.size := lt_of_block HW2.out.top
  have HVB := hid hvb
  have HKW : Hid (Below w2.heap.size w2 (shW w2 ⟨pb, 0, none⟩)) := shW_below _ _
  have HNS := hid (new_shelf hRep)
  clear hRep hS hb2 hvb hk1
  go_wp2_with (at_builtin; refine wpList_appRow rfl _ _ 24 44 rfl i0 (.pointer none) 8 Tryz.underlying24 hi hz0 hz1 hz2 rfl (by omega) _ (shV G.sh) (.pointer (some ⟨w2.heap.size + 1, 0, none⟩)) rfl (by rw [← HVB.out]; exact ((HW2.out.rb.alloc _).alloc _).alloc _) (w2.heap.size + 2) 1 rfl (shW_2 w2 ⟨pb, 0, none⟩) rfl (by have := HF.out; rw [length_shV]; omega) ?_)
  intro vb w3 hg
  have HGR : Hid (GrewRow 44 (shW w2 ⟨pb, 0, none⟩) G.vb (shV G.sh) (.pointer (some ⟨w2.heap.size + 1, 0, none⟩)) vb w3) := by
    show GrewRow _ _ _ _ _ _ _
    rw [HVB.out]
    exact hg
  clear hg
  have hT3 : w3.heap[Wb]? = some (.cells #[G.vb, G.vl, G.vg, G.vp, G.vy] 28 (0, 0)) := by
    rw [HGR.out.2.1.block Wb (Nat.lt_of_lt_of_le lW HKW.out.size) (fun e => by have := HW2.out.rbT Wb e.symm; rw [HW2.out.topT] at this; cases this), HKW.out.block Wb lW]
    exact HW2.out.top
  obtain ⟨av, cv, hvb, _, _⟩ := row_form HGR.out.1
  generalize (shV G.sh ++ [Value.pointer (some ⟨w2.heap.size + 1, 0, none⟩)]).length = nv at hvb
  have HFI := hid (HWI.out.more (kept HB2.out HKW.out) HNS.out (fun k hk => by
    have hle := HB2.out.size
    rcases hk with rfl | hk | hk
    · show _ ≤ w2.heap.size + 1; omega
    · exact HSN.out k hk
    · have hk' : k = w2.heap.size := hk
      omega) HGR.out)
  subst hvb
  have q3 : w3.cell? ⟨Wb, 0, none⟩ = some G.vb := by simp [World.cell?, hT3]
  have f3 : w3.frozen? ⟨Wb, 0, none⟩ = false := by simp [World.frozen?, hT3]
  have l3 : Wb < w3.heap.size := lt_of_block hT3
  clear hT3 q0 lW HGR
  go_wp2_with fail
  go_ret
  exact ⟨rfl, HFI.out⟩

end Go.Proofs.YtedblhcehlbbmaaGreatDoor

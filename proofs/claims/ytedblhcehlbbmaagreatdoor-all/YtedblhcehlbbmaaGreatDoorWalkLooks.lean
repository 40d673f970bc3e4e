import Derived.Test.YtedblhcehlbbmaaGreatDoorJSpecWI
import Derived.Test.YtedblhcehlbbmaaGreatDoorWalkLooksWalk
import Derived.WalkKit
import Derived.WalkSpells
import Derived.WalkLawsBesides
/-
  THE LISTS THAT CAME OUT read as their owner left them: lenderlaw.World.looks.
-/
namespace Go.Proofs.YtedblhcehlbbmaaGreatDoor
set_option maxRecDepth 20000
open Go.RowKit

theorem row_get {w : World} {E : TypeId} {v : Value} {xs : List Value} (h : w.ownsRow 0 E 1 v xs.length xs) {k : Nat} (hk : k < xs.length) : ∃ g cap, v = .slice (some ⟨g, 0, none⟩) xs.length cap ∧ w.cell? ⟨g, k, none⟩ = some xs[k] := by
  obtain ⟨g, cap, hv, _, _⟩ := World.ownsRow.form h (by omega)
  have hr := h
  rw [hv] at hr
  exact ⟨g, cap, hv, by rw [World.ownsRow.cellAt hr k (by omega)]; exact List.getElem?_eq_getElem hk⟩
theorem FullR.texts {w : World} {own : Nat → Nat} {x : ByteArray} {v : Value} (h : FullR 9 w own (.string x) v) : ∃ a n cap, v = .slice a n cap ∧ Strs w a (List.replicate n x) ∧ n ≤ 1000000 := by
  obtain ⟨n, hn, hr, _⟩ := h
  have ho : OwnS w 0 v (List.replicate n x) := by
    unfold OwnS sv
    rw [List.map_replicate, List.length_replicate]
    exact hr
  obtain ⟨a, cap, hv, _, _, hs⟩ := ho.form
  exact ⟨a, n, cap, by rw [hv, List.length_replicate], hs, by omega⟩
theorem FullR.nums {w : World} {own : Nat → Nat} {x : Int} {v : Value} (h : FullR 3 w own (.int .i64 x) v) : ∃ a n cap, v = .slice a n cap ∧ Ints w a (List.replicate n x) ∧ n ≤ 1000000 := by
  obtain ⟨n, hn, hr, _⟩ := h
  have ho : Own w 0 v (List.replicate n x) := by
    unfold Own iv
    rw [List.map_replicate, List.length_replicate]
    exact hr
  obtain ⟨a, cap, hv, _, _, hs⟩ := ho.form
  exact ⟨a, n, cap, by rw [hv, List.length_replicate], hs, by omega⟩
section
variable {w0 w : World} {Wb : Nat} {own : Nat → Nat} {G : Gh}
theorem WI.logAt (h : WI w0 w Wb own G) {k : Nat} (hk : k < G.ls.length) : ∃ g c a n cap, G.vl = .slice (some ⟨g, 0, none⟩) G.ls.length c ∧ w.cell? ⟨g, k, none⟩ = some (.slice a n cap) ∧ Strs w a (List.replicate n (mrk k)) ∧ n ≤ 1000000 := by
  obtain ⟨g, c, h1, h2⟩ := row_get h.rl hk
  obtain ⟨a, n, cap, h3, h4, h5⟩ := (h.ls k _ (List.getElem?_eq_getElem hk)).texts
  exact ⟨g, c, a, n, cap, h1, by rw [h2, h3], h4, h5⟩
theorem WI.grownAt (h : WI w0 w Wb own G) {k j : Nat} (hk : j < G.gs.length) (hj : j / 3 = k) : ∃ g c a n cap, G.vg = .slice (some ⟨g, 0, none⟩) G.gs.length c ∧ w.cell? ⟨g, j, none⟩ = some (.slice a n cap) ∧ Strs w a (List.replicate n (mrk k)) ∧ n ≤ 1000000 := by
  obtain ⟨g, c, h1, h2⟩ := row_get h.rg hk
  obtain ⟨a, n, cap, h3, h4, h5⟩ := (h.gs j _ (List.getElem?_eq_getElem hk)).texts
  rw [hj] at h4
  exact ⟨g, c, a, n, cap, h1, by rw [h2, h3], h4, h5⟩
theorem WI.pathAt (h : WI w0 w Wb own G) {k : Nat} (hk : k < G.ps.length) : ∃ g c a n cap, G.vp = .slice (some ⟨g, 0, none⟩) G.ps.length c ∧ w.cell? ⟨g, k, none⟩ = some (.slice a n cap) ∧ Ints w a (List.replicate n (-1 - (k : Int))) ∧ n ≤ 1000000 := by
  obtain ⟨g, c, h1, h2⟩ := row_get h.rp hk
  obtain ⟨a, n, cap, h3, h4, h5⟩ := (h.ps k _ (List.getElem?_eq_getElem hk)).nums
  exact ⟨g, c, a, n, cap, h1, by rw [h2, h3], h4, h5⟩
theorem WI.wayAt (h : WI w0 w Wb own G) {k j : Nat} (hk : j < G.ys.length) (hj : j / 3 = k) : ∃ g c a n cap, G.vy = .slice (some ⟨g, 0, none⟩) G.ys.length c ∧ w.cell? ⟨g, j, none⟩ = some (.slice a n cap) ∧ Ints w a (List.replicate n (-1 - (k : Int))) ∧ n ≤ 1000000 := by
  obtain ⟨g, c, h1, h2⟩ := row_get h.ry hk
  obtain ⟨a, n, cap, h3, h4, h5⟩ := (h.ys j _ (List.getElem?_eq_getElem hk)).nums
  rw [hj] at h4
  exact ⟨g, c, a, n, cap, h1, by rw [h2, h3], h4, h5⟩
end

theorem looks_any (w0 w : World) (Wb : Nat) (own : Nat → Nat) (G : Gh) (N : Nat) (hWI : WI w0 w Wb own G) (hf : Few G N) (hN : N ≤ 1000000000000) :
    Calls Tryz.prog 6 #[.pointer (some ⟨Wb, 0, none⟩)] w fun r w' => r = .returned (.bool true) ∧ w' = w := by
  obtain ⟨_, f2, f3⟩ := hf
  obtain ⟨al, cl, hvl, _, _⟩ := row_form hWI.rl
  obtain ⟨ag, cg, hvg, _, _⟩ := row_form hWI.rg
  obtain ⟨ap, cp, hvp, _, _⟩ := row_form hWI.rp
  obtain ⟨ay, cy, hvy, _, _⟩ := row_form hWI.ry
  have ht := hWI.top
  refine looks_walk w Wb al ag ap ay G.ls.length G.gs.length G.ps.length G.ys.length cl cg cp cy (by rw [← hvl]; simp [World.cell?, ht]) (by rw [← hvg]; simp [World.cell?, ht]) (by rw [← hvp]; simp [World.cell?, ht]) (by rw [← hvy]; simp [World.cell?, ht]) (lt_of_block ht) hWI.lenG hWI.lenY (by omega) (by omega) ?_ ?_ ?_ ?_
  · intro k hk
    obtain ⟨g, c, a, n, cap, h1, h2, h3, h4⟩ := hWI.logAt hk
    rw [hvl] at h1
    cases h1
    exact ⟨g, a, n, cap, rfl, h2, full_any n a cap _ w h3 h4⟩
  · intro k i hk hi
    obtain ⟨g, c, a, n, cap, h1, h2, h3, h4⟩ := hWI.grownAt hk hi
    rw [hvg] at h1
    cases h1
    exact ⟨g, a, n, cap, rfl, h2, full_any n a cap _ w h3 h4⟩
  · intro k hk
    obtain ⟨g, c, a, n, cap, h1, h2, h3, h4⟩ := hWI.pathAt hk
    rw [hvp] at h1
    cases h1
    exact ⟨g, a, n, cap, rfl, h2, fullInts_any n a cap _ w h3 h4⟩
  · intro k i hk hi
    obtain ⟨g, c, a, n, cap, h1, h2, h3, h4⟩ := hWI.wayAt hk hi
    rw [hvy] at h1
    cases h1
    exact ⟨g, a, n, cap, rfl, h2, fullInts_any n a cap _ w h3 h4⟩

end Go.Proofs.YtedblhcehlbbmaaGreatDoor

import Derived.Test.YtedblhcehlbbmaaGreatDoorWalkTexts
import Derived.Test.YtedblhcehlbbmaaGreatDoorJWalkText
import Derived.WalkKit
import Derived.WalkSpells
import Derived.WalkLawsBesides
import Derived.ArgAppend
import Derived.Deep.AppendLies
/-
  THE SCRIPT's LISTS: strokes, full, fullInts; a list that is full of one mark, grown.
-/
namespace Go.Proofs.YtedblhcehlbbmaaGreatDoor
set_option maxRecDepth 20000
open Go.RowKit

/-- The k-th mark. -/
def mrk (k : Nat) : ByteArray := bs (List.replicate (k + 1) 47)
theorem size_mrk (k : Nat) : (mrk k).size = k + 1 := by unfold mrk; rw [size_bs, List.length_replicate]
theorem mrk_succ (k : Nat) : mrk k ++ (⟨#[47]⟩ : ByteArray) = mrk (k + 1) := by
  unfold mrk
  rw [show (⟨#[47]⟩ : ByteArray) = bs [47] from rfl, bs_append, List.replicate_succ' (n := k + 1)]

set_option maxHeartbeats 2000000 in
theorem strokes_any (n : Nat) (w : World) (hn : n ≤ 1000000000000) : Calls Tryz.prog 10 #[.int .i64 (n : Int)] w fun e w' => e = .returned (.string (mrk n)) ∧ w' = w := by
  go_enter Tryz.func10, Tryz.ntmps10
  go_wp2_with fail
  go_loop [3, 4] (fun s i => ∃ k : Nat, k ≤ n ∧ i = .int .i64 (k : Int) ∧ s = .string (mrk k)) (fun _ i => n - (intOf i).toNat)
  case atStart => exact ⟨0, Nat.zero_le _, rfl, rfl⟩
  case round =>
    obtain ⟨k, hk, rfl, rfl⟩ := hrel
    have HS := hid (mrk_succ k)
    have hsz := size_mrk k
    generalize hT : mrk k = t at *
    have HT := hid hT
    clear hT
    have hs1 : t.size ≤ 1000000000001 := by omega
    by_cases hlt : k < n
    · have h1 := run_string_add_sum (P := Tryz.prog) (w := w) t ⟨#[47]⟩ (by show t.size + 1 ≤ _; omega)
      clear hsz
      go_wp2_with fail
      go_round
      case rel => exact ⟨k + 1, by omega, by go_num, by rw [← HS.out]⟩
      case measure => simp [intOf]; omega
    · obtain rfl : k = n := by omega
      go_wp2_with fail
      go_ret
      exact ⟨by rw [HT.out]; rfl, rfl⟩

theorem rep_at {w : World} {b off n : Nat} {x : ByteArray} (h : ∀ i (h : i < (List.replicate n x).length), w.cell? ⟨b, off + i, none⟩ = some (.string (List.replicate n x)[i])) (k : Nat) (hk : k < n) : w.cell? ⟨b, off + k, none⟩ = some (.string x) := by
  rw [h k (by simpa using hk)]; simp
set_option maxHeartbeats 2000000 in
theorem full_any (n : Nat) (a : Option Addr) (cap : Nat) (x : ByteArray) (w : World) (hs : Strs w a (List.replicate n x)) (hn : n ≤ 1000000) :
    Calls Tryz.prog 11 #[.slice a n cap, .string x] w fun e w' => e = .returned (.bool true) ∧ w' = w := by
  have HS := hid hs
  clear hs
  go_enter Tryz.func11, Tryz.ntmps11
  go_wp2_with fail
  go_loop [5] (fun i => ∃ k : Nat, k ≤ n ∧ i = .int .i64 (k : Int)) (fun i => n - (intOf i).toNat)
  case atStart => exact ⟨0, Nat.zero_le _, rfl⟩
  case round =>
    obtain ⟨k, hk, rfl⟩ := hrel
    by_cases hlt : k < n
    · obtain ⟨b, off, rfl, hc⟩ := HS.out.at (by simpa using (by omega : 0 < n))
      have hx := rep_at hc k hlt
      have i1 : (0 : Int) ≤ (k : Int) := by omega
      have i2 : (k : Int) < (n : Int) := by omega
      clear hc
      go_wp2_with fail
      go_round
      case rel => exact ⟨k + 1, by omega, by go_num⟩
      case measure => simp [intOf]; omega
    · go_wp2_with fail
      go_ret
      exact ⟨rfl, rfl⟩
theorem rep_atI {w : World} {b off n : Nat} {x : Int} (h : ∀ i (h : i < (List.replicate n x).length), w.cell? ⟨b, off + i, none⟩ = some (.int .i64 (List.replicate n x)[i])) (k : Nat) (hk : k < n) : w.cell? ⟨b, off + k, none⟩ = some (.int .i64 x) := by
  rw [h k (by simpa using hk)]; simp
set_option maxHeartbeats 2000000 in
theorem fullInts_any (n : Nat) (a : Option Addr) (cap : Nat) (x : Int) (w : World) (hs : Ints w a (List.replicate n x)) (hn : n ≤ 1000000) :
    Calls Tryz.prog 12 #[.slice a n cap, .int .i64 x] w fun e w' => e = .returned (.bool true) ∧ w' = w := by
  have HS := hid hs
  clear hs
  go_enter Tryz.func12, Tryz.ntmps12
  go_wp2_with fail
  go_loop [5] (fun i => ∃ k : Nat, k ≤ n ∧ i = .int .i64 (k : Int)) (fun i => n - (intOf i).toNat)
  case atStart => exact ⟨0, Nat.zero_le _, rfl⟩
  case round =>
    obtain ⟨k, hk, rfl⟩ := hrel
    by_cases hlt : k < n
    · obtain ⟨b, off, rfl, hc⟩ := HS.out.at (by simpa using (by omega : 0 < n))
      have hx := rep_atI hc k hlt
      have i1 : (0 : Int) ≤ (k : Int) := by omega
      have i2 : (k : Int) < (n : Int) := by omega
      clear hc
      go_wp2_with fail
      go_round
      case rel => exact ⟨k + 1, by omega, by go_num⟩
      case measure => simp [intOf]; omega
    · go_wp2_with fail
      go_ret
      exact ⟨rfl, rfl⟩

/-- The slice v holds n times the value y, in a row of its own. -/
def AllR (E : TypeId) (w : World) (v : Value) (n : Nat) (y : Value) : Prop := w.ownsRow 0 E 1 v n (List.replicate n y)
theorem AllR.kept {E : TypeId} {w w' : World} {v : Value} {n : Nat} {y : Value} {row : Option Nat} (h : AllR E w v n y) (hg : w.grownBy w' row) (hne : v.ownBlock = none ∨ v.ownBlock ≠ row) : AllR E w' v n y := World.ownsRow.kept h hg hne
theorem AllR.form {E : TypeId} {w : World} {v : Value} {n : Nat} {y : Value} (h : AllR E w v n y) : ∃ a cap, v = .slice a n cap ∧ n ≤ cap ∧ cap ≤ maxLen := by
  rcases h.2 with ⟨rfl, h0⟩ | ⟨g, cap, cur, rfl, _, _, h1, h2, _⟩
  · rw [h0]; exact ⟨none, 0, rfl, Nat.le_refl _, Nat.zero_le _⟩
  · exact ⟨_, cap, rfl, h1, h2⟩
theorem AllR.same {E : TypeId} {w w' : World} {g cap n : Nat} {v : Value} {j : Nat} {y : Value} (h : AllR E w' (.slice (some ⟨g, 0, none⟩) n cap) n y) (h0 : AllR E w (.slice (some ⟨g, 0, none⟩) 0 cap) 0 y) (hv : AllR E w v j y) (hb : v.ownBlock = some g) (hj : j ≤ n) : AllR E w' v j y := by
  rcases hv.2 with ⟨rfl, _⟩ | ⟨g1, cap1, cur1, rfl, q1, q2, q3, q4, q5, q6⟩
  · simp [Value.ownBlock] at hb
  · simp [Value.ownBlock] at hb
    subst hb
    rcases h.2 with ⟨e, _⟩ | ⟨g2, cap2, cur2, e, r1, r2, r3, r4, r5, r6⟩
    · cases e
    · cases e
      rcases h0.2 with ⟨e, _⟩ | ⟨g3, cap3, cur3, e, s1, s2, s3, s4, s5, s6⟩
      · cases e
      · cases e
        rw [q2] at s2
        cases s2
        have hcc : cap1 = cap := by omega
        subst hcc
        refine ⟨by simp, .inr ⟨g1, cap1, cur2, rfl, Nat.zero_le _, r2, q3, q4, r5, ?_⟩⟩
        have : (cur2.toList.take (n * 1)).take (j * 1) = List.replicate j y := by rw [r6, List.take_replicate]; congr 1; omega
        rw [List.take_take] at this
        rw [← this]; congr 1; omega

/-- What such an append leaves. -/
def GrewAll (E : TypeId) (w : World) (v : Value) (n m : Nat) (y v' : Value) (w' : World) : Prop :=
  AllR E w' v' (n + m) y ∧ (∀ u j, j ≤ n + m → AllR E w u j y → AllR E w' u j y) ∧ w.grownBy w' v.ownBlock ∧ (v'.ownBlock = v.ownBlock ∨ ∃ b, v'.ownBlock = some b ∧ w.heap.size ≤ b)
/-- 'append(v, y, .., y)': v a row of marks: the new row; and every row of marks that is no longer than it is as it was. -/
theorem wpList_appAll {w : World} {ops : Array Oper} {rest : List Oper} {o : Oper} {a : Act} {Q : Exit → Act → World → Prop} (hgd : o.guard = none) (s x : Operand) (t E : TypeId)
    (ho : o.op = .call { callee := .builtin .append, args := #[s, x], argTypes := #[t, t] })
    (i0 : TypeInfo) (z : Value) (bytes : Nat) (ht : Tryz.prog.underlying t = some (.slice E)) (hi : Tryz.prog.info? E = some i0) (hz0 : i0.zero = some z) (hz1 : i0.size = 1) (hz2 : i0.bytes = bytes) (hzs : z.cells.size = 1)
    (v : Value) (n : Nat) (y : Value) (hs : a.eval s = v) (hown : AllR E w v n y) (g m c : Nat) (hx : a.eval x = .slice (some ⟨g, 0, none⟩) m c) (hm : 0 < m) (hnews : ∀ j, j < m → w.cell? ⟨g, j, none⟩ = some y) (hy : y.oneCell' = true)
    (h63 : n + m ≤ maxLen) (hb : (n + m) * bytes ≤ 140737488355328)
    (h : ∀ v' w', GrewAll E w v n m y v' w' → wpList Tryz.prog ops Q rest (a.put o.dst v') w') :
    wpList Tryz.prog ops Q (o :: rest) a w := by
  have hnw : ∀ j u, (List.replicate m y)[j]? = some u → w.cell? ((⟨g, 0, none⟩ : Addr).add j) = some u := fun j u hj => by
    rw [List.getElem?_replicate] at hj
    split at hj
    · cases hj
      rename_i hlt
      rw [Addr.add_lit, Nat.zero_add]; exact hnews j hlt
    · cases hj
  have h1c : ∀ u ∈ List.replicate m y, u.oneCell' = true := fun u hu => by rw [List.eq_of_mem_replicate hu]; exact hy
  have hrep : List.replicate n y ++ List.replicate m y = List.replicate (n + m) y := by rw [List.replicate_append_replicate]
  have grow : ∀ v' w', w'.ownsRow w.heap.size E 1 v' (n + m) (List.replicate n y ++ List.replicate m y) → w.grownBy w' none → wpList Tryz.prog ops Q rest (a.put o.dst v') w' := fun v' w' h1 h2 => by
    rw [hrep] at h1
    refine h v' w' ⟨?_, ?_, ?_, ?_⟩
    · obtain ⟨k1, k2⟩ := h1
      refine ⟨k1, ?_⟩
      rcases k2 with k2 | ⟨g', cap', cur', q1, q2, q3⟩
      · exact .inl k2
      · exact .inr ⟨g', cap', cur', q1, Nat.zero_le _, q3⟩
    · intro u j _ hu
      exact hu.kept h2 (by cases u.ownBlock with | none => exact .inl rfl | some k => exact .inr (by simp))
    · exact ⟨h2.os, h2.tape, h2.output, h2.size, fun k hk _ => h2.block k hk (by simp)⟩
    · obtain ⟨g', cap', rfl, q2, _⟩ := World.ownsRow.form h1 (by omega)
      exact .inr ⟨g', rfl, q2⟩
  rcases hown.2 with ⟨hv, hn⟩ | ⟨g1, cap1, cur1, hv, q1, q2, q3, q4, q5, q6⟩
  · refine wpList_append_grows w hgd s x t ho E i0 z 1 bytes ht hi hz0 hz1 hz2 hzs (by decide) none n 0 (List.replicate n y) (by rw [hs, hv, hn]) (fun _ => ⟨hn, rfl⟩) (by simp) (fun b hb => by cases hb) ⟨g, 0, none⟩ m c (List.replicate m y) hx (by simp) hnw h1c (by omega) h63 hb grow
  · by_cases hr : n + m ≤ cap1
    · refine wpList_append_fits w hgd s x t ho 0 E i0 1 ht hi hz1 g1 n cap1 (List.replicate n y) (by rw [hs, hv]) (by rw [← hv]; exact hown) ⟨g, 0, none⟩ m c (List.replicate m y) hx (by simp) hnw h1c hr ?_
      intro w' h1 h2
      rw [hrep] at h1
      refine h _ w' ⟨h1, ?_, by rw [hv]; exact h2, .inl (by rw [hv]; rfl)⟩
      intro u j hj hu
      by_cases hb' : u.ownBlock = some g1
      · refine AllR.same h1 ?_ hu hb' hj
        exact ⟨rfl, .inr ⟨g1, cap1, cur1, rfl, Nat.zero_le _, q2, Nat.zero_le _, q4, q5, by simp⟩⟩
      · exact hu.kept h2 (.inr hb')
    · refine wpList_append_grows w hgd s x t ho E i0 z 1 bytes ht hi hz0 hz1 hz2 hzs (by decide) (some ⟨g1, 0, none⟩) n cap1 (List.replicate n y) (by rw [hs, hv]) (fun h => by cases h) (by simp) ?_ ⟨g, 0, none⟩ m c (List.replicate m y) hx (by simp) hnw h1c (by omega) h63 hb grow
      intro b hb' j u hj
      cases hb'
      rw [hv] at hown
      have hlt : j < n := by
        rcases Nat.lt_or_ge j n with h | h
        · exact h
        · rw [List.getElem?_eq_none (by simpa using h)] at hj; cases hj
      have := World.ownsRow.cellAt hown j (by omega)
      rw [hj] at this
      rw [Addr.add_lit, Nat.zero_add]; exact this

end Go.Proofs.YtedblhcehlbbmaaGreatDoor

/-
  CONTRACT: loans.States: the states of all loans.
-/
import Derived.Test.YtedblhcehlbbmabDoorWalkLoansSum
import Derived.WalkKit
import Derived.WalkSpells
import Derived.WalkLawsBesides
namespace Go.Proofs.YtedblhcehlbbmabDoor
open Go.RowKit

theorem Tryd.infoStateA : (Tryd.prog.info? 32).map (fun i => (i.zero, i.size, i.bytes)) = some (some (.agg #[.int .i64 0, .int .i64 0, .int .i64 0, .int .i64 0, .int .i64 0, .int .i64 0]), 6, 48) := by kernel_rfl
/-- A state's cells. -/
def scells (s : St) : List Value := [.int .i64 s.principal, .int .i64 s.due, .int .i64 s.rate, .int .i64 s.day, .int .i64 s.spare, .int .i64 s.count]
def scs (f : Nat → St) : Nat → List Value
  | 0 => []
  | n + 1 => scs f n ++ scells (f n)
theorem length_scs (f : Nat → St) (n : Nat) : (scs f n).length = n * 6 := by
  induction n with
  | zero => rfl
  | succ n ih => rw [scs, List.length_append, ih]; simp [scells]; omega
theorem scs_at (f : Nat → St) (n i k : Nat) (hi : i < n) (hk : k < 6) : (scs f n)[i * 6 + k]? = (scells (f i))[k]? := by
  induction n with
  | zero => omega
  | succ n ih =>
    rw [scs]
    by_cases h : i < n
    · rw [List.getElem?_append_left (by rw [length_scs]; omega), ih h]
    · obtain rfl : i = n := by omega
      rw [List.getElem?_append_right (by rw [length_scs]; omega), length_scs]
      congr 1; omega
/-- The slice v is the call's own (from block B on) and holds the states f 0 .. f (n - 1). -/
def OwnSt (w : World) (B : Nat) (v : Value) (f : Nat → St) (n : Nat) : Prop := w.ownsRow B 32 6 v n (scs f n)
theorem OwnSt.alloc {w : World} {B : Nat} {v : Value} {f : Nat → St} {n : Nat} (h : OwnSt w B v f n) (o : Obj) : OwnSt (w.alloc o) B v f n := World.ownsRow.alloc h o
theorem OwnSt.kept {w w' : World} {B : Nat} {v : Value} {f : Nat → St} {n : Nat} (h : OwnSt w B v f n) (hb : Below w.heap.size w w') : OwnSt w' B v f n := by
  obtain ⟨h1, h2⟩ := h
  refine ⟨h1, ?_⟩
  rcases h2 with h2 | ⟨g, cap, cur, e1, e2, e3, e4⟩
  · exact .inl h2
  · exact .inr ⟨g, cap, cur, e1, e2, by rw [hb.block g (lt_of_block e3)]; exact e3, e4⟩
theorem OwnSt.form {w : World} {B : Nat} {v : Value} {f : Nat → St} {n : Nat} (h : OwnSt w B v f n) : ∃ a cap, v = .slice a n cap ∧ n ≤ cap ∧ cap ≤ maxLen ∧ (0 < n → ∃ g, a = some ⟨g, 0, none⟩ ∧ Sts w g 0 n f 0) := by
  have hh := h
  obtain ⟨h1, h2⟩ := h
  rcases h2 with ⟨rfl, rfl⟩ | ⟨g, cap, cur, rfl, e2, e3, e4, e5, e6, e7⟩
  · exact ⟨none, 0, rfl, Nat.le_refl _, Nat.zero_le _, fun h => by omega⟩
  · refine ⟨_, cap, rfl, e4, e5, fun _ => ⟨g, rfl, fun i hi => ?_⟩⟩
    have hadd : ∀ q, (⟨g, 0, none⟩ : Addr).add q = ⟨g, q, none⟩ := fun q => by simp [Addr.add]; intro h; exact h.symm
    have cc : ∀ k u, k < 6 → (scells (f i))[k]? = some u → w.cell? ⟨g, i * 6 + k, none⟩ = some u := fun k u hk hu => by
      have := World.ownsRow.cells hh (g := g) rfl (i * 6 + k) u (by rw [scs_at f n i k hi hk]; exact hu)
      rw [hadd] at this
      exact this
    simp only [Nat.zero_add]
    exact ⟨cc 0 _ (by omega) rfl, cc 1 _ (by omega) rfl, cc 2 _ (by omega) rfl, cc 3 _ (by omega) rfl, cc 4 _ (by omega) rfl, cc 5 _ (by omega) rfl⟩
/-- 'l = append(l, s)': l the call's own, s one state, laid in a block of its own first. -/
theorem wpList_appSt {w : World} {ops : Array Oper} {rest : List Oper} {o : Oper} {a : Act} {Q : Exit → Act → World → Prop} (hgd : o.guard = none) (s x : Operand)
    (ho : o.op = .call { callee := .builtin .append, args := #[s, x], argTypes := #[61, 61] })
    (B : Nat) (v : Value) (f : Nat → St) (n : Nat) (hs : a.eval s = v) (hown : OwnSt w B v f n) (g : Nat) (c : Nat) (hx : a.eval x = .slice (some ⟨g, 0, none⟩) 1 c)
    (hb : Blk w g (f n)) (hlen : n ≤ 1000000) (hB : B ≤ w.heap.size)
    (h : ∀ v' w', OwnSt w' B v' f (n + 1) → Below B w w' → wpList Tryd.prog ops Q rest (a.put o.dst v') w') : wpList Tryd.prog ops Q (o :: rest) a w := by
  obtain ⟨i0, hi, hz0, hz1, hz2⟩ := info_parts Tryd.infoStateA
  obtain ⟨h0, h1, h2, h3, h4, h5⟩ := hb.six
  refine wpList_append_own _ hgd s x 61 ho B 32 i0 (.agg #[.int .i64 0, .int .i64 0, .int .i64 0, .int .i64 0, .int .i64 0, .int .i64 0]) 6 48 Tryd.underlying61 hi hz0 hz1 hz2 rfl (by decide) v n (scs f n) hs hown ⟨g, 0, none⟩ 1 c (scells (f n)) hx rfl ?_ ?_ (by unfold maxLen; omega) (by omega) hB ?_
  · intro j u hj
    match j, hj with
    | 0, hj => simp [scells] at hj; subst hj; simpa [Addr.add] using h0
    | 1, hj => simp [scells] at hj; subst hj; simpa [Addr.add] using h1
    | 2, hj => simp [scells] at hj; subst hj; simpa [Addr.add] using h2
    | 3, hj => simp [scells] at hj; subst hj; simpa [Addr.add] using h3
    | 4, hj => simp [scells] at hj; subst hj; simpa [Addr.add] using h4
    | 5, hj => simp [scells] at hj; subst hj; simpa [Addr.add] using h5
    | j + 6, hj => simp [scells] at hj
  · intro u hu; simp [scells] at hu; rcases hu with rfl | rfl | rfl | rfl | rfl | rfl <;> rfl
  · intro v' w' h1 h2 _
    exact h v' w' h1 ((Below.refl _ _).grown h2 hB (fun k hk => (hown.lt k hk).1))

set_option maxRecDepth 20000 in
set_option maxHeartbeats 4000000 in
theorem states_any (n : Nat) (a : Option Addr) (es : List Ev) (cap : Nat) (w : World) (hn : es.length = n) (hs : Evs w a es) (hlt : ∀ b, a = some ⟨b, 0, none⟩ → b < w.heap.size) (hg : GoodE es) :
    Calls Tryd.prog 23 #[.slice a n cap] w fun e w' => ∃ v, e = .returned v ∧ OwnSt w' w.heap.size v (stF es) 64 ∧ Below w.heap.size w w' := by
  have HST : Hid (∀ (k : Nat) (wz : World), Below w.heap.size w wz → Calls Tryd.prog 37 #[.slice a n cap, .int .i64 (k : Int)] wz fun r w2 => r = .returned (stV (stF es k)) ∧ Below wz.heap.size wz w2) := fun k wz hz =>
    loansState_any n a es cap (k : Int) wz hn (hs.under hz hlt) (fun b h => Nat.lt_of_lt_of_le (hlt b h) hz.size) hg
  unfold stV at HST
  clear hn hs hlt hg
  generalize stF es = f at *
  go_enter Tryd.func23, Tryd.ntmps23
  go_wp2_with fail
  go_loopw [3, 4, 5] (fun v i _ wr => ∃ k : Nat, k ≤ 64 ∧ i = .int .i64 (k : Int) ∧ Hid (OwnSt wr w.heap.size v f k) ∧ Below w.heap.size w wr) (fun _ i _ _ => 64 - (intOf i).toNat)
  case atStart => exact ⟨0, Nat.zero_le _, rfl, World.ownsRow_made w #[] 0 (Nat.le_refl _) (Nat.zero_le _) rfl, (Below.refl _ _).alloc (Nat.le_refl _) _⟩
  case round =>
    obtain ⟨k, hk, rfl, HO, hbel⟩ := hrel
    have hszr := hbel.size
    by_cases hlt : k < 64
    · obtain ⟨c0, cp0, rfl, _, _, _⟩ := HO.out.form
      have HS := hid (HST.out k wr hbel)
      go_wp2_with fail
      refine HS.out.mono ?_
      rintro e w2 ⟨rfl, hb2⟩
      have hk2 := kept hbel hb2
      have HO2 := hid (HO.out.kept hb2)
      have hsz2 := hk2.size
      have hB : ∀ X, Blk ((w2.alloc X).alloc (.cells #[.int .i64 (f k).principal, .int .i64 (f k).due, .int .i64 (f k).rate, .int .i64 (f k).day, .int .i64 (f k).spare, .int .i64 (f k).count] 32)) (w2.heap.size + 1) (f k) := fun X => by
        have := Blk.new (w2.alloc X) (f k)
        rw [show (w2.alloc X).heap.size = w2.heap.size + 1 by simp] at this
        exact this
      go_wp2_with (at_builtin; refine wpList_appSt rfl _ _ rfl w.heap.size _ f k rfl ((HO2.out.alloc _).alloc _) (w2.heap.size + 1) 1 rfl (hB _) (by omega) (by simp; omega) ?_)
      intro v' w3 hO3 hb3
      have HO3 := hid hO3
      have hk3 : Below w.heap.size w w3 := ((hk2.alloc hsz2 _).alloc (by simp; omega) _).trans hb3
      obtain ⟨c3, cp3, hv3, _, _, _⟩ := HO3.out.form
      clear hO3 hb3 hB
      go_wp2_with fail
      go_roundw
      case rel => exact ⟨k + 1, by omega, by go_num, HO3, hk3⟩
      case measure => simp [intOf]; omega
    · obtain rfl : k = 64 := by omega
      obtain ⟨c0, cp0, rfl, _, _, _⟩ := HO.out.form
      go_wp2_with fail
      go_ret
      exact ⟨_, rfl, HO.out, hbel⟩

end Go.Proofs.YtedblhcehlbbmabDoor

/-
  lenderlaw.Twins, out of what a call of Twins answers (TwinsSpec): the law's own part.
-/
import Derived.Test.YtedblhcehlbbmaaLawTwin
import Derived.Test.YtedblhcehlbbmaaWalkGrowTexts
import Derived.Laws.AppendOwnNone
import Derived.WalkKit
import Derived.WalkSpells
import Derived.WalkLawsBesides
namespace Go.Proofs.Ytedblhcehlbbmaa
open Go.RowKit

/-- 'out = append(out, us...)': both lists of the call's own. -/
theorem wpList_catS {w : World} {ops : Array Oper} {rest : List Oper} {o : Oper} {a : Act} {Q : Exit → Act → World → Prop} (hgd : o.guard = none) (s x : Operand)
    (ho : o.op = .call { callee := .builtin .append, args := #[s, x], argTypes := #[24, 24] })
    (B B' : Nat) (v vx : Value) (l us : List ByteArray) (hs : a.eval s = v) (hown : OwnS w B v l) (hx : a.eval x = vx) (hxo : OwnS w B' vx us)
    (hlen : l.length + us.length ≤ 1000000) (hB : B ≤ w.heap.size)
    (h : ∀ v' w', OwnS w' B v' (l ++ us) → Below B w w' → w.grownBy w' v.ownBlock → wpList Try.prog ops Q rest (a.put o.dst v') w') : wpList Try.prog ops Q (o :: rest) a w := by
  obtain ⟨i0, hi, hz0, hz1, hz2⟩ := info_parts Try.infoStr
  have hxo' := hxo
  obtain ⟨h1, h2⟩ := hxo
  rcases h2 with ⟨rfl, h2⟩ | ⟨g, cap, cur, rfl, e2, e3, e4, e5, e6, e7⟩
  · obtain rfl : us = [] := List.eq_nil_of_length_eq_zero h2
    refine wpList_append_own_none hgd s x 24 ho B 9 i0 1 Try.underlying24 hi v l.length (sv l) hs hown hx (h v w (by rw [List.append_nil]; exact hown) (Below.refl _ _) ⟨rfl, rfl, rfl, Nat.le_refl _, fun _ _ _ => rfl⟩)
  · refine wpList_append_own _ hgd s x 24 ho B 9 i0 (.string ⟨#[]⟩) 1 16 Try.underlying24 hi hz0 hz1 hz2 rfl (by decide) v l.length (sv l) hs hown ⟨g, 0, none⟩ us.length cap (sv us) hx (by rw [length_sv, Nat.mul_one]) ?_ ?_ (by unfold maxLen; omega) (by omega) hB ?_
    · intro j u hj
      exact World.ownsRow.cells hxo' (g := g) rfl j u hj
    · intro u hu
      obtain ⟨s, _, rfl⟩ := List.mem_map.1 hu
      rfl
    · intro v' w' h1 h2 _
      refine h v' w' ?_ ((Below.refl _ _).grown h2 hB (fun k hk => (hown.lt k hk).1)) h2
      unfold OwnS
      rw [sv_append, List.length_append]
      exact h1

/-- What a call of Twins answers: the two texts and the error, as a function of what it is given. -/
structure TwinsSpec (f : List ByteArray → List ByteArray → List Int → ByteArray × ByteArray × Int) : Prop where
  call : ∀ (n m l : Nat) (a b d : Option Addr) (aa bb : List ByteArray) (zs : List Int) (ca cb cd : Nat) (w : World), aa.length = n → bb.length = m → zs.length = l → Strs w a aa → Strs w b bb → Ints w d zs → n * 16 ≤ 140737488351232 → m * 16 ≤ 140737488351232 → l * 8 ≤ 140737488351232 → n ≤ ca → ca ≤ maxLen → m ≤ cb → cb ≤ maxLen → l ≤ cd → cd ≤ maxLen →
    Calls Try.prog 29 #[.slice a n ca, .slice b m cb, .slice d l cd] w fun e w' => e = .returned (.tuple #[.string (f aa bb zs).1, .string (f aa bb zs).2.1, .int .i64 (f aa bb zs).2.2]) ∧ Below w.heap.size w w'
  long : ∀ (aa bb : List ByteArray) (zs : List Int), longB aa = true ∨ longB bb = true → f aa bb zs = (eS, eS, 2)
  calm : ∀ (aa bb : List ByteArray) (zs : List Int), longB aa = false → longB bb = false → (growsB (rootS aa) (aa.length : Int) (rootS bb) (bb.length : Int) zs = false ∨ beginsB aa bb = true) → f aa bb zs = (eS, eS, 3)
  away : ∀ (aa bb : List ByteArray) (zs : List Int), longB aa = false → longB bb = false → growsB (rootS aa) (aa.length : Int) (rootS bb) (bb.length : Int) zs = true → beginsB aa bb = false →
    ∃ t u, t ∈ ltx aa ++ ltx bb ++ gtx aa.length bb.length (rootS aa) zs ∧ u ∈ ltx aa ++ ltx bb ++ gtx aa.length bb.length (rootS aa) zs ∧ f aa bb zs = (t, u, 0) ∧ t ≠ u ∧ sm t.data.toList = sm u.data.toList

theorem growTT_five : ∀ (ts : List Turn) (ps : List Int) (x : Int), ∀ b ∈ growTT ts ps x, b.length = 5
  | [], _, _, b, h => by simp [growTT] at h
  | _ :: _, [], _, b, h => by simp [growTT] at h
  | t :: ts, p :: ps, x, b, h => by
    simp only [growTT] at h
    rcases List.mem_append.1 h with h | h
    · exact growTT_five ts ps x b h
    · split at h
      · simp only [List.mem_singleton] at h; subst h; rfl
      · simp only [List.mem_cons, List.not_mem_nil, or_false] at h
        rcases h with rfl | rfl <;> rfl
theorem gtx_size {m n : Nat} {old : Int} {zs : List Int} {t : ByteArray} (h : t ∈ gtx m n old zs) : t.size ≤ 1000000 := by
  unfold gtx growTx at h
  obtain ⟨b, hb, rfl⟩ := List.mem_map.1 h
  rw [size_bs, growTT_five _ _ _ b hb]; decide
theorem length_gtx (m n : Nat) (old : Int) (zs : List Int) (h1 : 1 ≤ m) (h2 : m ≤ n) : (gtx m n old zs).length ≤ 2 * n := by
  unfold gtx growTx
  rw [List.length_map]
  have := length_growTT (turnR m 0 n true).1 zs.reverse (startOf (rootS []) (turnR m 0 n true).2.1 zs.reverse)
  have h3 := (turnR_in n m 0 n true (by omega) (by omega) h2).2.1
  have := length_growTT (turnR m 0 n true).1 zs.reverse (startOf old (turnR m 0 n true).2.1 zs.reverse)
  omega

set_option maxHeartbeats 1000000 in
theorem lawtwins_calm (n m l : Nat) (a b d : Option Addr) (aa bb : List ByteArray) (zs : List Int) (ca cb cd : Nat) (w : World) (hn : aa.length = n) (hm : bb.length = m) (hl : zs.length = l) (hs : Strs w a aa) (ht : Strs w b bb) (hz : Ints w d zs) (hr : l ≤ 17592186043904) (h200 : n ≤ 200) (h200' : m ≤ 200) (h40 : ∀ s ∈ aa, s.size ≤ 40) (h40' : ∀ s ∈ bb, s.size ≤ 40)
    (hc : growsB (rootS aa) (n : Int) (rootS bb) (m : Int) zs = false ∨ beginsB aa bb = true) :
    Calls Try.prog 30 #[.slice a n ca, .slice b m cb, .slice d l cd, .string eS, .string eS, .int .i64 3] w fun e w' => e = .returned (.bool true) ∧ Below w.heap.size w w' := by
  have HRA := hid (rroot_any n a aa ca w hn hs h200 h40)
  have HRB := hid (fun w1 (h : Below w.heap.size w w1) => rroot_any m b bb cb w1 hm (ht.kept h) h200' h40')
  have HG := hid (fun w1 (h : Below w.heap.size w w1) => rgrows_any (rootS aa) n (rootS bb) m l d zs cd w1 hl hr (hz.kept h))
  have HBG := hid (fun w1 (h : Below w.heap.size w w1) => rbegins_any n m a b aa bb ca cb w1 hn hm (hs.kept h) (ht.kept h) h200 h200')
  have HNO := hid (none_any 3)
  have HC := hid hc
  clear hs ht hz hn hm hl hc
  cases hg : growsB (rootS aa) (n : Int) (rootS bb) (m : Int) zs with
  | false =>
    rw [hg] at HG
    clear hg
    go_enter Try.func30, Try.ntmps30
    go_wp2_with fail
    refine HRA.out.mono ?_
    rintro e w1 ⟨rfl, hb1⟩
    go_wp2_with fail
    refine (HRB.out _ hb1).mono ?_
    rintro e w2 ⟨rfl, hb2⟩
    go_wp2_with fail
    refine (HG.out _ (kept hb1 hb2)).mono ?_
    rintro e w3 ⟨rfl, hb3⟩
    go_wp2_with fail
    refine (HBG.out _ (kept (kept hb1 hb2) hb3)).mono ?_
    rintro e w4 ⟨rfl, hb4⟩
    generalize beginsB aa bb = bg
    go_wp2_with fail
    refine (HNO.out _).mono ?_
    rintro e w5 ⟨rfl, rfl⟩
    go_wp2_with fail
    go_ret
    exact ⟨rfl, kept (kept (kept hb1 hb2) hb3) hb4⟩
  | true =>
    have hbg : beginsB aa bb = true := by
      rcases HC.out with h | h
      · rw [hg] at h; cases h
      · exact h
    rw [hg] at HG
    rw [hbg] at HBG
    clear hg hbg
    go_enter Try.func30, Try.ntmps30
    go_wp2_with fail
    refine HRA.out.mono ?_
    rintro e w1 ⟨rfl, hb1⟩
    go_wp2_with fail
    refine (HRB.out _ hb1).mono ?_
    rintro e w2 ⟨rfl, hb2⟩
    go_wp2_with fail
    refine (HG.out _ (kept hb1 hb2)).mono ?_
    rintro e w3 ⟨rfl, hb3⟩
    go_wp2_with fail
    refine (HBG.out _ (kept (kept hb1 hb2) hb3)).mono ?_
    rintro e w4 ⟨rfl, hb4⟩
    go_wp2_with fail
    refine (HNO.out _).mono ?_
    rintro e w5 ⟨rfl, rfl⟩
    go_wp2_with fail
    go_ret
    exact ⟨rfl, kept (kept (kept hb1 hb2) hb3) hb4⟩

set_option maxHeartbeats 2000000 in
theorem lawtwins_away (n m l : Nat) (x y : ByteArray) (a b d : Option Addr) (aa bb : List ByteArray) (zs : List Int) (ca cb cd : Nat) (w : World) (hn : aa.length = n) (hm : bb.length = m) (hl : zs.length = l) (hs : Strs w a aa) (ht : Strs w b bb) (hz : Ints w d zs) (hr : l ≤ 17592186043904) (hcd : l ≤ cd) (h200 : n ≤ 200) (h200' : m ≤ 200) (h40 : ∀ s ∈ aa, s.size ≤ 40) (h40' : ∀ s ∈ bb, s.size ≤ 40)
    (hg : growsB (rootS aa) (n : Int) (rootS bb) (m : Int) zs = true) (hbg : beginsB aa bb = false) (hx : x ∈ ltx aa ++ ltx bb ++ gtx n m (rootS aa) zs) (hy : y ∈ ltx aa ++ ltx bb ++ gtx n m (rootS aa) zs) (hxy : x ≠ y) (hsm : sm x.data.toList = sm y.data.toList) :
    Calls Try.prog 30 #[.slice a n ca, .slice b m cb, .slice d l cd, .string x, .string y, .int .i64 0] w fun e w' => e = .returned (.bool true) ∧ Below w.heap.size w w' := by
  have hparts : (1 ≤ n ∧ n ≤ m) ∧ joinO n m (rootS aa) true zs = some (rootS aa, rootS bb) := by
    have := hg
    unfold growsB at this
    rw [Bool.and_eq_true, decide_eq_true_eq, decide_eq_true_eq, Int.toNat_natCast, Int.toNat_natCast] at this
    exact ⟨by omega, this.2⟩
  have hbd : bdL zs = true := by
    have := hparts.2
    unfold joinO at this
    split at this
    · rename_i h; rw [Bool.and_eq_true] at h; exact h.2
    · cases this
  have HRA := hid (rroot_any n a aa ca w hn hs h200 h40)
  have HRB := hid (fun w1 (h : Below w.heap.size w w1) => rroot_any m b bb cb w1 hm (ht.kept h) h200' h40')
  have HG := hid (fun w1 (h : Below w.heap.size w w1) => rgrows_any (rootS aa) n (rootS bb) m l d zs cd w1 hl hr (hz.kept h))
  have HBG := hid (fun w1 (h : Below w.heap.size w w1) => rbegins_any n m a b aa bb ca cb w1 hn hm (hs.kept h) (ht.kept h) h200 h200')
  rw [hg] at HG
  rw [hbg] at HBG
  have HLA := hid (fun w1 (h : Below w.heap.size w w1) => logTexts_any n a aa ca w1 hn (hs.kept h) h200 h40)
  have HLB := hid (fun w1 (h : Below w.heap.size w w1) => logTexts_any m b bb cb w1 hm (ht.kept h) h200' h40')
  have HGT := hid (fun w1 (h : Below w.heap.size w w1) => growTexts_any (rootS aa) n m l d zs cd w1 hparts.1.1 hparts.1.2 h200' (rootS_bd aa) hbd hl hr (hz.kept h) hcd (by rw [hparts.2]; rfl))
  have hsz : ∀ t ∈ ltx aa ++ ltx bb ++ gtx n m (rootS aa) zs, t.size ≤ 1000000 := by
    intro t ht
    rcases List.mem_append.1 ht with ht | ht
    · rcases List.mem_append.1 ht with ht | ht
      · exact ltx_size ht h40
      · exact ltx_size ht h40'
    · exact gtx_size ht
  have HXS := hid (hsz x hx)
  have HYS := hid (hsz y hy)
  have HL1 : Hid ((ltx aa).length ≤ 400) := by have := length_ltx aa; show _ ≤ _; omega
  have HL2 : Hid ((ltx bb).length ≤ 400) := by have := length_ltx bb; show _ ≤ _; omega
  have HL3 : Hid ((gtx n m (rootS aa) zs).length ≤ 400) := by have := length_gtx n m (rootS aa) zs hparts.1.1 hparts.1.2; show _ ≤ _; omega
  rw [List.append_assoc] at hx hy
  have HX := hid hx; have HY := hid hy; have HXY := hid hxy; have HSM := hid hsm
  clear hs ht hz hn hm hl hg hbg hparts hbd hsz hx hy hxy hsm
  generalize ltx aa = LA at HLA HX HY HL1
  generalize ltx bb = LB at HLB HX HY HL2
  generalize gtx n m (rootS aa) zs = LG at HGT HX HY HL3
  go_enter Try.func30, Try.ntmps30
  go_wp2_with fail
  refine HRA.out.mono ?_
  rintro e w1 ⟨rfl, hb1⟩
  go_wp2_with fail
  refine (HRB.out _ hb1).mono ?_
  rintro e w2 ⟨rfl, hb2⟩
  have k2 := kept hb1 hb2
  go_wp2_with fail
  refine (HG.out _ k2).mono ?_
  rintro e w3 ⟨rfl, hb3⟩
  have k3 := kept k2 hb3
  go_wp2_with fail
  refine (HBG.out _ k3).mono ?_
  rintro e w4 ⟨rfl, hb4⟩
  have k4 := kept k3 hb4
  go_wp2_with fail
  refine (HLA.out _ k4).mono ?_
  rintro e w5 ⟨v5, rfl, hown5, hb5⟩
  have k5 := kept k4 hb5
  have HO5 := hid hown5
  clear hown5
  go_wp2_with fail
  refine (HLB.out _ k5).mono ?_
  rintro e w6 ⟨v6, rfl, hown6, hb6⟩
  have k6 := kept k5 hb6
  have HO6 := hid hown6
  clear hown6
  go_wp2_with fail
  refine (HGT.out _ k6).mono ?_
  rintro e w7 ⟨v7, rfl, hown7, hb7⟩
  have k7 := kept k6 hb7
  have s4 := k4.size; have s5 := hb5.size; have s6 := hb6.size; have s7 := hb7.size
  have hap : ∀ g, v7.ownBlock = some g → some g ≠ v5.ownBlock := fun g hg e => by
    have e1 := (hown7.lt g hg).1
    have e2 := (HO5.out.lt g e.symm).2
    omega
  have hown5 := HO5.out.kept (kept hb6 hb7)
  have hown6 := HO6.out.kept hb7
  have HO7 := hid hown7
  have HAP := hid hap
  clear hown7 hap
  go_wp2_with (at_builtin; refine wpList_catS rfl _ _ rfl w4.heap.size w5.heap.size _ _ _ _ rfl hown5 rfl hown6 (by have := HL1.out; have := HL2.out; omega) (by omega) ?_)
  intro v8 w8 hown8 hb8 hgr8
  have hown7 := HO7.out.grown hgr8 HAP.out
  have k8 : Below w.heap.size w w8 := k7.trans (hb8.mono s4)
  have s8 := hb8.size
  clear hown5 hown6
  go_wp2_with (at_builtin; refine wpList_catS rfl _ _ rfl w4.heap.size w6.heap.size _ _ _ _ rfl hown8 rfl hown7 (by have := HL1.out; have := HL2.out; have := HL3.out; simp; omega) (by omega) ?_)
  intro v9 w9 hown9 hb9 hgr9
  have k9 : Below w.heap.size w w9 := k8.trans (hb9.mono s4)
  have hown10 : OwnS w9 w4.heap.size v9 (LA ++ (LB ++ LG)) := by first | exact hown9 | (rw [List.append_assoc] at hown9; exact hown9)
  have HLL : Hid ((LA ++ (LB ++ LG)).length ≤ 1200) := by show _ ≤ _; rw [List.length_append, List.length_append]; have := HL1.out; have := HL2.out; have := HL3.out; omega
  generalize LA ++ (LB ++ LG) = LL at hown10 HX HY HLL
  obtain ⟨a9, c9, rfl, _, _, hi9⟩ := hown10.form
  have HI9 := hid hi9
  clear hown8 hown7 hown9 hown10 hi9 hgr8 hgr9
  go_wp2_with fail
  refine (away_any _ _ a9 a9 _ _ c9 c9 x y _ rfl rfl HI9.out HI9.out (by have := HLL.out; omega) (by have := HLL.out; omega) HX.out HY.out HXS.out HYS.out HXY.out HSM.out).mono ?_
  rintro e w10 ⟨rfl, hb10⟩
  go_wp2_with fail
  go_ret
  exact ⟨rfl, kept k9 hb10⟩

set_option maxHeartbeats 2000000 in
theorem lawtwins_any {f : List ByteArray → List ByteArray → List Int → ByteArray × ByteArray × Int} (T : TwinsSpec f) (n m l : Nat) (a b d : Option Addr) (aa bb : List ByteArray) (zs : List Int) (ca cb cd : Nat) (w : World) (hn : aa.length = n) (hm : bb.length = m) (hl : zs.length = l) (hs : Strs w a aa) (ht : Strs w b bb) (hz : Ints w d zs)
    (hr : n * 16 ≤ 140737488351232) (hr2 : m * 16 ≤ 140737488351232) (hr3 : l * 8 ≤ 140737488351232) (hca : n ≤ ca) (hma : ca ≤ maxLen) (hcb : m ≤ cb) (hmb : cb ≤ maxLen) (hcd : l ≤ cd) (hmd : cd ≤ maxLen) :
    Calls Try.prog 10 #[.slice a n ca, .slice b m cb, .slice d l cd] w fun e w' => e = .returned (.bool true) ∧ Below w.heap.size w w' := by
  have HN := hid hn; have HM := hid hm; have HL := hid hl; have HS := hid hs; have HT := hid ht; have HZ := hid hz
  have TC := hid T
  have HMA := hid hma; have HMB := hid hmb; have HMD := hid hmd
  clear hn hm hl hs ht hz T hma hmb hmd
  obtain ⟨X, Y, E, hf⟩ : ∃ X Y E, f aa bb zs = (X, Y, E) := ⟨_, _, _, rfl⟩
  have HF := hid hf
  have TC2 : Hid (∀ (a b d : Option Addr) (ca cb cd : Nat) (w : World), Strs w a aa → Strs w b bb → Ints w d zs → n ≤ ca → ca ≤ maxLen → m ≤ cb → cb ≤ maxLen → l ≤ cd → cd ≤ maxLen →
      Calls Try.prog 29 #[.slice a n ca, .slice b m cb, .slice d l cd] w fun e w' => e = .returned (.tuple #[.string X, .string Y, .int .i64 E]) ∧ Below w.heap.size w w') := fun a b d ca cb cd w h1 h2 h3 h4 h5 h6 h7 h8 h9 => by
    have := TC.out.call n m l a b d aa bb zs ca cb cd w HN.out HM.out HL.out h1 h2 h3 hr hr2 hr3 h4 h5 h6 h7 h8 h9
    rw [hf] at this
    exact this
  have TC3 : Hid (∀ (w : World), Strs w a aa → Strs w b bb → ∃ x y e, Calls Try.prog 29 #[.slice b m cb, .slice a n ca, .slice none 0 0] w fun r w' => r = .returned (.tuple #[.string x, .string y, .int .i64 e]) ∧ Below w.heap.size w w') := fun w h h' =>
    ⟨_, _, _, TC.out.call m n 0 b a none bb aa [] cb ca 0 w HM.out HN.out rfl h' h (.inl rfl) hr2 hr (by omega) hcb HMB.out hca HMA.out (by omega) (by unfold maxLen; omega)⟩
  clear hf
  go_enter Try.func10, Try.ntmps10
  go_wp2_with fail
  refine (texts_any n a aa ca _ HN.out HS.out hr).mono ?_
  rintro e w1 ⟨g, rfl, hg, hm1, hm2, hb1⟩
  have HG := hid hg; have HG1 := hid hm1; have HG2 := hid hm2
  clear hg hm1 hm2
  go_wp2_with fail
  refine (texts_any m b bb cb _ HM.out (HT.out.kept hb1) hr2).mono ?_
  rintro e w2 ⟨k, rfl, hk, hk1, hk2, hb2⟩
  have HK := hid hk; have HK1 := hid hk1; have HK2 := hid hk2
  clear hk hk1 hk2
  have k02 := kept hb1 hb2
  go_wp2_with fail
  refine (ints_any l d zs cd _ HL.out (HZ.out.kept k02) hr3).mono ?_
  rintro e w3 ⟨q, rfl, hq, hq1, hq2, hb3⟩
  have HQ := hid hq; have HQ1 := hid hq1; have HQ2 := hid hq2
  clear hq hq1 hq2
  have k03 := kept k02 hb3
  have k13 := kept hb2 hb3
  have HOA : Hid (Strs w3 (some ⟨g, 0, none⟩) aa) := .inr ⟨g, 0, rfl, fun i hi => by rw [Nat.zero_add]; exact cell_kept (HG.out i hi) k13⟩
  have HOB : Hid (Strs w3 (some ⟨k, 0, none⟩) bb) := .inr ⟨k, 0, rfl, fun i hi => by rw [Nat.zero_add]; exact cell_kept (HK.out i hi) hb3⟩
  have HOZ : Hid (Ints w3 (some ⟨q, 0, none⟩) zs) := .inr ⟨q, 0, rfl, fun i hi => by rw [Nat.zero_add]; exact HQ.out i hi⟩
  go_wp2_with fail
  refine (TC2.out _ _ _ (n + 2) (m + 2) (l + 2) w3 HOA.out HOB.out HOZ.out (by omega) (by unfold maxLen; omega) (by omega) (by unfold maxLen; omega) (by omega) (by unfold maxLen; omega)).mono ?_
  rintro e w4 ⟨rfl, hb4⟩
  have k04 := kept k03 hb4
  have k14 := kept k13 hb4
  have k24 := kept hb3 hb4
  go_wp2_with fail
  refine (stillTexts_any n g a aa ca _ HN.out (fun i hi => cell_kept (HG.out i hi) k14) (cell_kept HG1.out k14) (cell_kept HG2.out k14) (HS.out.kept k04) hr).mono ?_
  rintro e w5 ⟨rfl, hb5⟩
  have k05 := kept k04 hb5
  have k25 := kept k24 hb5
  have k35 := kept hb4 hb5
  go_wp2_with fail
  refine (stillTexts_any m k b bb cb _ HM.out (fun i hi => cell_kept (HK.out i hi) k25) (cell_kept HK1.out k25) (cell_kept HK2.out k25) (HT.out.kept k05) hr2).mono ?_
  rintro e w6 ⟨rfl, hb6⟩
  have k06 := kept k05 hb6
  have k36 := kept k35 hb6
  go_wp2_with fail
  refine (stillInts_any l q d zs cd _ HL.out (fun i hi => cell_kept (HQ.out i hi) k36) (cell_kept HQ1.out k36) (cell_kept HQ2.out k36) (HZ.out.kept k06) hr3).mono ?_
  rintro e w7 ⟨rfl, hb7⟩
  have k07 := kept k06 hb7
  obtain ⟨x0, y0, e0, hcall⟩ := TC3.out w7 (HS.out.kept k07) (HT.out.kept k07)
  have HC7 := hid hcall
  clear hcall
  go_wp2_with fail
  refine HC7.out.mono ?_
  rintro e w8 ⟨rfl, hb8⟩
  have k08 := kept k07 hb8
  clear HC7
  go_wp2_with fail
  refine (TC2.out _ _ _ ca cb cd w8 (HS.out.kept k08) (HT.out.kept k08) (HZ.out.kept k08) hca HMA.out hcb HMB.out hcd HMD.out).mono ?_
  rintro e w9 ⟨rfl, hb9⟩
  have k09 := kept k08 hb9
  have HS9 := hid (HS.out.kept k09)
  have HT9 := hid (HT.out.kept k09)
  have HZ9 := hid (HZ.out.kept k09)
  have hlong := long_any a aa ca w9 HS9.out (by have := HN.out; omega)
  rw [HN.out] at hlong
  have HLO := hid hlong
  have hlong2 := long_any b bb cb w9 HT9.out (by have := HM.out; omega)
  rw [HM.out] at hlong2
  have HLO2 := hid hlong2
  clear hlong hlong2
  cases hL : longB aa with
  | true =>
    have hx := TC.out.long aa bb zs (.inl hL)
    rw [HF.out] at hx
    cases hx
    rw [hL] at HLO
    clear hL
    generalize longB bb = lb at HLO2
    go_wp2_with fail
    refine HLO.out.mono ?_
    rintro e w10 ⟨rfl, rfl⟩
    go_wp2_with fail
    refine HLO2.out.mono ?_
    rintro e w10 ⟨rfl, rfl⟩
    go_wp2_with fail
    refine (none_any 2 _).mono ?_
    rintro e w11 ⟨rfl, rfl⟩
    go_wp2_with fail
    go_ret
    exact ⟨rfl, k09⟩
  | false =>
    cases hL2 : longB bb with
    | true =>
      have hx := TC.out.long aa bb zs (.inr hL2)
      rw [HF.out] at hx
      cases hx
      rw [hL] at HLO
      rw [hL2] at HLO2
      clear hL hL2
      go_wp2_with fail
      refine HLO.out.mono ?_
      rintro e w10 ⟨rfl, rfl⟩
      go_wp2_with fail
      refine HLO2.out.mono ?_
      rintro e w10 ⟨rfl, rfl⟩
      go_wp2_with fail
      refine (none_any 2 _).mono ?_
      rintro e w11 ⟨rfl, rfl⟩
      go_wp2_with fail
      go_ret
      exact ⟨rfl, k09⟩
    | false =>
      have hbb := longB_false aa hL
      have hbb2 := longB_false bb hL2
      have hT : Calls Try.prog 30 #[.slice a n ca, .slice b m cb, .slice d l cd, .string X, .string Y, .int .i64 E] w9 fun e w' => e = .returned (.bool true) ∧ Below w9.heap.size w9 w' := by
        by_cases hc : growsB (rootS aa) (n : Int) (rootS bb) (m : Int) zs = false ∨ beginsB aa bb = true
        · have hx := TC.out.calm aa bb zs hL hL2 (by rw [HN.out, HM.out]; exact hc)
          rw [HF.out] at hx
          cases hx
          exact lawtwins_calm n m l a b d aa bb zs ca cb cd w9 HN.out HM.out HL.out HS9.out HT9.out HZ9.out (by omega) (by have := HN.out; omega) (by have := HM.out; omega) hbb.2 hbb2.2 hc
        · have hw : growsB (rootS aa) (n : Int) (rootS bb) (m : Int) zs = true := by
            cases h : growsB (rootS aa) (n : Int) (rootS bb) (m : Int) zs with
            | true => rfl
            | false => exact absurd (.inl h) hc
          have hne : beginsB aa bb = false := by
            cases h : beginsB aa bb with
            | false => rfl
            | true => exact absurd (.inr h) hc
          obtain ⟨t, u, ht, hu, hx, hxy, hsm⟩ := TC.out.away aa bb zs hL hL2 (by rw [HN.out, HM.out]; exact hw) hne
          rw [HF.out] at hx
          cases hx
          rw [HN.out, HM.out] at ht hu
          exact lawtwins_away n m l X Y a b d aa bb zs ca cb cd w9 HN.out HM.out HL.out HS9.out HT9.out HZ9.out (by omega) hcd (by have := HN.out; omega) (by have := HM.out; omega) hbb.2 hbb2.2 hw hne ht hu hxy hsm
      have HTW := hid hT
      rw [hL] at HLO
      rw [hL2] at HLO2
      clear hL hL2 hT hbb hbb2
      go_wp2_with fail
      refine HLO.out.mono ?_
      rintro e w10 ⟨rfl, rfl⟩
      go_wp2_with fail
      refine HLO2.out.mono ?_
      rintro e w10 ⟨rfl, rfl⟩
      go_wp2_with fail
      refine HTW.out.mono ?_
      rintro e w11 ⟨rfl, hb11⟩
      go_wp2_with fail
      go_ret
      exact ⟨rfl, kept k09 hb11⟩

end Go.Proofs.Ytedblhcehlbbmaa

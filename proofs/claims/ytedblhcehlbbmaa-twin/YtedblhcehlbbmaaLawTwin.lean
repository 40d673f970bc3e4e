/-
  lenderlaw.Twin, out of what a call of Twin answers (TwinSpec): the law's own part.
-/
import Derived.Test.YtedblhcehlbbmaaOpens
import Derived.Test.YtedblhcehlbbmaaWalkPathTexts
import Derived.WalkKit
import Derived.WalkSpells
import Derived.WalkLawsBesides
namespace Go.Proofs.Ytedblhcehlbbmaa
open Go.RowKit

/-- The empty text. -/
def eS : ByteArray := ⟨#[]⟩

/-- What a call of Twin answers: the two texts and the error, as a function of what it is given. -/
structure TwinSpec (f : List ByteArray → Int → ByteArray → List Int → ByteArray × ByteArray × Int) : Prop where
  call : ∀ (n l : Nat) (i : Int) (ent : ByteArray) (a b : Option Addr) (ss : List ByteArray) (zs : List Int) (cap cap2 : Nat) (w : World), ss.length = n → zs.length = l → Strs w a ss → Ints w b zs → n * 16 ≤ 140737488351232 → l * 8 ≤ 140737488351232 → n ≤ cap → cap ≤ maxLen → l ≤ cap2 → cap2 ≤ maxLen → ent.size ≤ maxLen →
    Calls Try.prog 26 #[.slice a n cap, .int .i64 i, .string ent, .slice b l cap2] w fun e w' => e = .returned (.tuple #[.string (f ss i ent zs).1, .string (f ss i ent zs).2.1, .int .i64 (f ss i ent zs).2.2]) ∧ Below w.heap.size w w'
  long : ∀ (ss : List ByteArray) (i : Int) (ent : ByteArray) (zs : List Int), longB ss = true → f ss i ent zs = (eS, eS, 2)
  arg : ∀ (ss : List ByteArray) (i : Int) (ent : ByteArray) (zs : List Int), longB ss = false → (i < 0 ∨ (ss.length : Int) ≤ i) → f ss i ent zs = (eS, eS, 1)
  calm : ∀ (ss : List ByteArray) (i : Nat) (ent : ByteArray) (zs : List Int) (h : i < ss.length), longB ss = false → (withinB (rootS ss) (ss.length : Int) (i : Int) ent zs = false ∨ ent = ss[i]) → f ss i ent zs = (eS, eS, 3)
  away : ∀ (ss : List ByteArray) (i : Nat) (ent : ByteArray) (zs : List Int) (h : i < ss.length), longB ss = false → withinB (rootS ss) (ss.length : Int) (i : Int) ent zs = true → ent ≠ ss[i] →
    ∃ t u, t ∈ ptx ss.length i ent zs ∧ u ∈ ltx ss ∧ f ss i ent zs = (t, u, 0) ∧ t ≠ u ∧ sm t.data.toList = sm u.data.toList

theorem ptx_size {n i : Nat} {ent : ByteArray} {zs : List Int} {t : ByteArray} (h : t ∈ ptx n i ent zs) (h40 : ent.size ≤ 40) : t.size ≤ 1000000 := by
  rw [ptx_eq] at h
  rcases List.mem_append.1 h with h | h
  · simp only [List.mem_singleton] at h
    subst h
    rw [size_bs, length_entT]; simp; omega
  · unfold stx at h
    obtain ⟨b, hb, rfl⟩ := List.mem_map.1 h
    have : ∀ f n i (x : Int) zs, ∀ b ∈ stepsF f n i x zs, b.length = 5 := by
      intro f
      induction f with
      | zero => intro n i x zs b hb; simp [stepsF] at hb
      | succ f ih =>
        intro n i x zs b hb
        cases zs with
        | nil =>
          simp only [stepsF] at hb
          split at hb
          · simp at hb
          · split at hb
            · exact ih _ _ _ _ b hb
            · simp at hb
        | cons p r =>
          simp only [stepsF] at hb
          split at hb
          · simp at hb
          · split at hb
            · exact ih _ _ _ _ b hb
            · rcases List.mem_cons.1 hb with rfl | hb
              · split <;> rfl
              · exact ih _ _ _ _ b hb
    rw [size_bs, this _ _ _ _ _ b hb]; decide
theorem rowT_five : ∀ (xs : List Int), ∀ b ∈ rowT xs, b.length = 5
  | a :: c :: r, b, h => by
    simp only [rowT] at h
    rcases List.mem_cons.1 h with rfl | h
    · rfl
    · exact rowT_five r b h
  | [a], b, h => by simp [rowT] at h
  | [], b, h => by simp [rowT] at h
theorem ltx_size {ss : List ByteArray} {t : ByteArray} (h : t ∈ ltx ss) (h40 : ∀ s ∈ ss, s.size ≤ 40) : t.size ≤ 1000000 := by
  rw [ltx_eq] at h
  rcases List.mem_append.1 h with h | h
  · obtain ⟨s, hs, rfl⟩ := List.mem_map.1 h
    have := h40 s hs
    rw [size_bs, length_entT]; simp; omega
  · unfold rtx rowsR at h
    obtain ⟨b, hb, rfl⟩ := List.mem_map.1 h
    have : ∀ f (xs : List Int), ∀ b ∈ rowsF f xs, b.length = 5 := by
      intro f
      induction f with
      | zero => intro xs b hb; simp [rowsF] at hb
      | succ f ih =>
        intro xs b hb
        simp only [rowsF] at hb
        split at hb
        · simp at hb
        · rcases List.mem_append.1 hb with hb | hb
          · exact rowT_five xs b hb
          · exact ih _ b hb
    rw [size_bs, this _ _ b hb]; decide

set_option maxHeartbeats 400000 in
theorem none_any (e : Int) (w : World) : Calls Try.prog 27 #[.string eS, .string eS, .int .i64 e, .int .i64 e] w fun r w' => r = .returned (.bool true) ∧ w' = w := by
  unfold eS
  go_enter Try.func27, Try.ntmps27
  go_wp2_with fail
  go_ret
  exact ⟨rfl, rfl⟩

set_option maxHeartbeats 1000000 in
theorem lawtwin_calm (n i l : Nat) (ent : ByteArray) (a b : Option Addr) (ss : List ByteArray) (zs : List Int) (cap cap2 : Nat) (w : World) (hn : ss.length = n) (hl : zs.length = l) (hs : Strs w a ss) (hz : Ints w b zs) (hi : i < n) (hi2 : i < ss.length) (hr : l ≤ 17592186043904) (h200 : n ≤ 200) (h40 : ∀ s ∈ ss, s.size ≤ 40) (hes : ent.size ≤ maxLen)
    (hc : withinB (rootS ss) (n : Int) (i : Int) ent zs = false ∨ ent = ss[i]) :
    Calls Try.prog 28 #[.slice a n cap, .int .i64 (i : Int), .string ent, .slice b l cap2, .string eS, .string eS, .int .i64 3] w fun e w' => e = .returned (.bool true) ∧ Below w.heap.size w w' := by
  have HRT := hid (rroot_any n a ss cap w hn hs h200 h40)
  have HW := hid (fun w1 (h : Below w.heap.size w w1) => rwithin_any (rootS ss) n i l ent b zs cap2 w1 hes hl hr (hz.kept h))
  have HNO := hid (none_any 3)
  obtain ⟨bk, off, rfl, hcs⟩ := hs.at (by omega)
  have hci := hcs i hi2
  cases hw : withinB (rootS ss) (n : Int) (i : Int) ent zs with
  | false =>
    rw [hw] at HW
    clear hs hz hcs hci hc hw hn hl
    go_enter Try.func28, Try.ntmps28
    go_wp2_with fail
    refine HRT.out.mono ?_
    rintro e w1 ⟨rfl, hb1⟩
    go_wp2_with fail
    refine (HW.out _ hb1).mono ?_
    rintro e w2 ⟨rfl, hb2⟩
    go_wp2_with fail
    refine (HNO.out _).mono ?_
    rintro e w3 ⟨rfl, rfl⟩
    go_wp2_with fail
    go_ret
    exact ⟨rfl, kept hb1 hb2⟩
  | true =>
    rw [hw] at HW
    have hei : ent = ss[i] := by
      rcases hc with h | h
      · rw [hw] at h; cases h
      · exact h
    rw [← hei] at hci
    have HCI := hid hci
    clear hs hz hcs hci hc hw hn hl hei hi2
    have i1 : (0 : Int) ≤ (i : Int) := by omega
    have i2 : (i : Int) < (n : Int) := by omega
    go_enter Try.func28, Try.ntmps28
    go_wp2_with fail
    refine HRT.out.mono ?_
    rintro e w1 ⟨rfl, hb1⟩
    go_wp2_with fail
    refine (HW.out _ hb1).mono ?_
    rintro e w2 ⟨rfl, hb2⟩
    have hc2 := cell_kept HCI.out (kept hb1 hb2)
    go_wp2_with fail
    refine (HNO.out _).mono ?_
    rintro e w3 ⟨rfl, rfl⟩
    go_wp2_with fail
    go_ret
    exact ⟨rfl, kept hb1 hb2⟩

set_option maxHeartbeats 1000000 in
theorem lawtwin_away (n i l : Nat) (ent x y : ByteArray) (a b : Option Addr) (ss : List ByteArray) (zs : List Int) (cap cap2 : Nat) (w : World) (hn : ss.length = n) (hl : zs.length = l) (hs : Strs w a ss) (hz : Ints w b zs) (hi : i < n) (hi2 : i < ss.length) (hr : l ≤ 17592186043904) (h200 : n ≤ 200) (h40 : ∀ s ∈ ss, s.size ≤ 40) (hes : ent.size ≤ maxLen)
    (hw : withinB (rootS ss) (n : Int) (i : Int) ent zs = true) (hne : ent ≠ ss[i]) (hx : x ∈ ptx n i ent zs) (hy : y ∈ ltx ss) (hxy : x ≠ y) (hsm : sm x.data.toList = sm y.data.toList) :
    Calls Try.prog 28 #[.slice a n cap, .int .i64 (i : Int), .string ent, .slice b l cap2, .string x, .string y, .int .i64 0] w fun e w' => e = .returned (.bool true) ∧ Below w.heap.size w w' := by
  have HRT := hid (rroot_any n a ss cap w hn hs h200 h40)
  have HW := hid (fun w1 (h : Below w.heap.size w w1) => rwithin_any (rootS ss) n i l ent b zs cap2 w1 hes hl hr (hz.kept h))
  rw [hw] at HW
  have hparts : ent.size ≤ 40 ∧ leadO n i (entS ent) zs = some (rootS ss) := by
    unfold withinB at hw
    rw [Bool.and_eq_true, decide_eq_true_eq, decide_eq_true_eq, Int.toNat_natCast, Int.toNat_natCast] at hw
    exact ⟨hw.1.2.2.2.2, hw.2⟩
  obtain ⟨he40, hlead⟩ := hparts
  have hlb : bdL zs = true ∧ leadR n i (entS ent) zs = some (rootS ss) := by
    unfold leadO at hlead
    split at hlead
    · rename_i h; exact ⟨h, hlead⟩
    · cases hlead
  have HPT := hid (fun w1 (h : Below w.heap.size w w1) => pathTexts_any (rootS ss) n i l ent b zs cap2 w1 (by omega) h200 hi he40 hl hr (hz.kept h) hlb.1 hlb.2)
  have HLT := hid (fun w1 (h : Below w.heap.size w w1) => logTexts_any n a ss cap w1 hn (hs.kept h) h200 h40)
  have HXS := hid (ptx_size hx he40)
  have HYS := hid (ltx_size hy h40)
  have HPL := hid (length_ptx n i ent zs)
  have HLL := hid (length_ltx ss)
  have HX := hid hx; have HY := hid hy; have HXY := hid hxy; have HSM := hid hsm; have HN := hid hn
  obtain ⟨bk, off, rfl, hcs⟩ := hs.at (by omega)
  have hci := hcs i hi2
  have hbn := bne_str hne
  generalize ss[i] = si at hci hbn
  have HCI := hid hci
  clear hs hz hcs hci hw hn hl hne hlead hlb hx hy hxy hsm he40 hi2
  have i1 : (0 : Int) ≤ (i : Int) := by omega
  have i2 : (i : Int) < (n : Int) := by omega
  go_enter Try.func28, Try.ntmps28
  go_wp2_with fail
  refine HRT.out.mono ?_
  rintro e w1 ⟨rfl, hb1⟩
  go_wp2_with fail
  refine (HW.out _ hb1).mono ?_
  rintro e w2 ⟨rfl, hb2⟩
  have hc2 := cell_kept HCI.out (kept hb1 hb2)
  go_wp2_with fail
  refine (HPT.out _ (kept hb1 hb2)).mono ?_
  rintro e w3 ⟨v3, rfl, hown3, hb3⟩
  have HO3 := hid hown3
  clear hown3 hc2
  go_wp2_with fail
  refine (HLT.out _ (kept (kept hb1 hb2) hb3)).mono ?_
  rintro e w4 ⟨v4, rfl, hown4, hb4⟩
  obtain ⟨a3, c3, rfl, _, _, hi3⟩ := (HO3.out.kept hb4).form
  obtain ⟨a4, c4, rfl, _, _, hi4⟩ := hown4.form
  have HI3 := hid hi3; have HI4 := hid hi4
  clear hown4 hi3 hi4 HO3
  go_wp2_with fail
  refine (away_any _ _ a3 a4 _ _ c3 c4 x y _ rfl rfl HI3.out HI4.out (by have := HPL.out; omega) (by have := HLL.out; have := HN.out; omega) HX.out HY.out HXS.out HYS.out HXY.out HSM.out).mono ?_
  rintro e w5 ⟨rfl, hb5⟩
  go_wp2_with fail
  go_ret
  exact ⟨rfl, kept (kept (kept (kept hb1 hb2) hb3) hb4) hb5⟩

theorem ints_nil (w : World) : Ints w none [] := .inl rfl

set_option maxHeartbeats 2000000 in
theorem lawtwin_any {f : List ByteArray → Int → ByteArray → List Int → ByteArray × ByteArray × Int} (T : TwinSpec f) (n l : Nat) (i : Int) (ent : ByteArray) (a b : Option Addr) (ss : List ByteArray) (zs : List Int) (cap cap2 : Nat) (w : World) (hn : ss.length = n) (hl : zs.length = l) (hs : Strs w a ss) (hz : Ints w b zs) (hr : n * 16 ≤ 140737488351232) (hr2 : l * 8 ≤ 140737488351232) (hcap : n ≤ cap) (hmax : cap ≤ maxLen) (hcap2 : l ≤ cap2) (hmax2 : cap2 ≤ maxLen) (hes : ent.size ≤ maxLen) :
    Calls Try.prog 9 #[.slice a n cap, .int .i64 i, .string ent, .slice b l cap2] w fun e w' => e = .returned (.bool true) ∧ Below w.heap.size w w' := by
  have HN := hid hn; have HL := hid hl; have HS := hid hs; have HZ := hid hz; have HES := hid hes
  have TC := hid T
  have HM := hid hmax; have HM2 := hid hmax2
  clear hn hl hs hz hes T hmax hmax2
  obtain ⟨X, Y, E, hf⟩ : ∃ X Y E, f ss i ent zs = (X, Y, E) := ⟨_, _, _, rfl⟩
  have HF := hid hf
  have TC2 : Hid (∀ (a b : Option Addr) (cap cap2 : Nat) (w : World), Strs w a ss → Ints w b zs → n ≤ cap → cap ≤ maxLen → l ≤ cap2 → cap2 ≤ maxLen →
      Calls Try.prog 26 #[.slice a n cap, .int .i64 i, .string ent, .slice b l cap2] w fun e w' => e = .returned (.tuple #[.string X, .string Y, .int .i64 E]) ∧ Below w.heap.size w w') := fun a b cap cap2 w h1 h2 h3 h4 h5 h6 => by
    have := TC.out.call n l i ent a b ss zs cap cap2 w HN.out HL.out h1 h2 hr hr2 h3 h4 h5 h6 HES.out
    rw [hf] at this
    exact this
  have TC3 : Hid (∀ (w : World), Strs w a ss → ∃ x y e, Calls Try.prog 26 #[.slice a n cap, .int .i64 0, .string ⟨#[]⟩, .slice none 0 0] w fun r w' => r = .returned (.tuple #[.string x, .string y, .int .i64 e]) ∧ Below w.heap.size w w') := fun w h =>
    ⟨_, _, _, TC.out.call n 0 0 ⟨#[]⟩ a none ss [] cap 0 w HN.out rfl h (.inl rfl) hr (by omega) hcap HM.out (by omega) (by unfold maxLen; omega) (by show 0 ≤ _; omega)⟩
  clear hf
  go_enter Try.func9, Try.ntmps9
  go_wp2_with fail
  refine (texts_any n a ss cap _ HN.out HS.out hr).mono ?_
  rintro e w1 ⟨g, rfl, hg, hm1, hm2, hb1⟩
  have HG := hid hg; have HG1 := hid hm1; have HG2 := hid hm2
  clear hg hm1 hm2
  go_wp2_with fail
  refine (ints_any l b zs cap2 _ HL.out (HZ.out.kept hb1) hr2).mono ?_
  rintro e w2 ⟨q, rfl, hq, hq1, hq2, hb2⟩
  have HQ := hid hq; have HQ1 := hid hq1; have HQ2 := hid hq2
  clear hq hq1 hq2
  have HO : Hid (Strs w2 (some ⟨g, 0, none⟩) ss) := .inr ⟨g, 0, rfl, fun i hi => by rw [Nat.zero_add]; exact cell_kept (HG.out i hi) hb2⟩
  have HP : Hid (Ints w2 (some ⟨q, 0, none⟩) zs) := .inr ⟨q, 0, rfl, fun i hi => by rw [Nat.zero_add]; exact HQ.out i hi⟩
  go_wp2_with fail
  refine (TC2.out _ _ (n + 2) (l + 2) w2 HO.out HP.out (by omega) (by unfold maxLen; omega) (by omega) (by unfold maxLen; omega)).mono ?_
  rintro e w3 ⟨rfl, hb3⟩
  have hk13 := kept hb2 hb3
  have hk03 := kept hb1 hk13
  go_wp2_with fail
  refine (stillTexts_any n g a ss cap _ HN.out (fun i hi => cell_kept (HG.out i hi) hk13) (cell_kept HG1.out hk13) (cell_kept HG2.out hk13) (HS.out.kept hk03) hr).mono ?_
  rintro e w4 ⟨rfl, hb4⟩
  have hk24 := kept hb3 hb4
  have hk04 := kept hk03 hb4
  go_wp2_with fail
  refine (stillInts_any l q b zs cap2 _ HL.out (fun i hi => cell_kept (HQ.out i hi) hk24) (cell_kept HQ1.out hk24) (cell_kept HQ2.out hk24) (HZ.out.kept hk04) hr2).mono ?_
  rintro e w5 ⟨rfl, hb5⟩
  have hk05 := kept hk04 hb5
  obtain ⟨x0, y0, e0, hcall⟩ := TC3.out w5 (HS.out.kept hk05)
  have HC5 := hid hcall
  clear hcall
  go_wp2_with fail
  refine HC5.out.mono ?_
  rintro e w6 ⟨rfl, hb6⟩
  have hk06 := kept hk05 hb6
  clear HC5
  go_wp2_with fail
  refine (TC2.out _ _ cap cap2 w6 (HS.out.kept hk06) (HZ.out.kept hk06) hcap HM.out hcap2 HM2.out).mono ?_
  rintro e w7 ⟨rfl, hb7⟩
  have hk07 := kept hk06 hb7
  have HS7 := hid (HS.out.kept hk07)
  have HZ7 := hid (HZ.out.kept hk07)
  have hlong := long_any a ss cap w7 HS7.out (by have := HN.out; omega)
  rw [HN.out] at hlong
  have HLO := hid hlong
  clear hlong
  cases hL : longB ss with
  | true =>
    have hx := TC.out.long ss i ent zs hL
    rw [HF.out] at hx
    cases hx
    rw [hL] at HLO
    clear hL
    go_wp2_with fail
    refine HLO.out.mono ?_
    rintro e w8 ⟨rfl, rfl⟩
    go_wp2_with fail
    refine (none_any 2 _).mono ?_
    rintro e w9 ⟨rfl, rfl⟩
    go_wp2_with fail
    go_ret
    exact ⟨rfl, hk07⟩
  | false =>
    have hbb := longB_false ss hL
    rw [hL] at HLO
    by_cases hi : i < 0 ∨ (n : Int) ≤ i
    · have hx := TC.out.arg ss i ent zs hL (by rw [HN.out]; exact hi)
      rw [HF.out] at hx
      cases hx
      clear hL
      rcases hi with h0 | h0
      · go_wp2_with fail
        refine HLO.out.mono ?_
        rintro e w8 ⟨rfl, rfl⟩
        go_wp2_with fail
        refine (none_any 1 _).mono ?_
        rintro e w9 ⟨rfl, rfl⟩
        go_wp2_with fail
        go_ret
        exact ⟨rfl, hk07⟩
      · have h1 : ¬ i < 0 := by omega
        go_wp2_with fail
        refine HLO.out.mono ?_
        rintro e w8 ⟨rfl, rfl⟩
        go_wp2_with fail
        refine (none_any 1 _).mono ?_
        rintro e w9 ⟨rfl, rfl⟩
        go_wp2_with fail
        go_ret
        exact ⟨rfl, hk07⟩
    · obtain ⟨k, rfl⟩ : ∃ k : Nat, i = (k : Int) := ⟨i.toNat, by omega⟩
      have hk : k < n := by omega
      have hk2 : k < ss.length := by rw [HN.out]; exact hk
      have i1 : ¬ (k : Int) < 0 := by omega
      have i2 : ¬ (n : Int) ≤ (k : Int) := by omega
      have hT : Calls Try.prog 28 #[.slice a n cap, .int .i64 (k : Int), .string ent, .slice b l cap2, .string X, .string Y, .int .i64 E] w7 fun e w' => e = .returned (.bool true) ∧ Below w7.heap.size w7 w' := by
        by_cases hc : withinB (rootS ss) (n : Int) (k : Int) ent zs = false ∨ ent = ss[k]
        · have hx := TC.out.calm ss k ent zs hk2 hL (by rw [HN.out]; exact hc)
          rw [HF.out] at hx
          cases hx
          exact lawtwin_calm n k l ent a b ss zs cap cap2 w7 HN.out HL.out HS7.out HZ7.out hk hk2 (by omega) (by have := HN.out; omega) hbb.2 HES.out hc
        · have hw : withinB (rootS ss) (n : Int) (k : Int) ent zs = true := by
            cases h : withinB (rootS ss) (n : Int) (k : Int) ent zs with
            | true => rfl
            | false => exact absurd (.inl h) hc
          have hne : ent ≠ ss[k] := fun h => hc (.inr h)
          obtain ⟨t, u, ht, hu, hx, hxy, hsm⟩ := TC.out.away ss k ent zs hk2 hL (by rw [HN.out]; exact hw) hne
          rw [HF.out] at hx
          cases hx
          exact lawtwin_away n k l ent X Y a b ss zs cap cap2 w7 HN.out HL.out HS7.out HZ7.out hk hk2 (by omega) (by have := HN.out; omega) hbb.2 HES.out hw hne (by rw [← HN.out]; exact ht) hu hxy hsm
      have HTW := hid hT
      clear hL hi hT hk2 hbb
      go_wp2_with fail
      refine HLO.out.mono ?_
      rintro e w8 ⟨rfl, rfl⟩
      go_wp2_with fail
      refine HTW.out.mono ?_
      rintro e w9 ⟨rfl, hb9⟩
      go_wp2_with fail
      go_ret
      exact ⟨rfl, kept hk07 hb9⟩

end Go.Proofs.Ytedblhcehlbbmaa

/-
  CONTRACTS: twins.OfEntry (it calls itself), lender.Twin; and that what they answer gives the proof away: twin_spec.
-/
import Derived.Test.YtedblhcehlbbmabLawTwin
import Derived.Test.YtedblhcehlbbmabWalkOfEntry
import Derived.WalkKit
import Derived.WalkSpells
import Derived.WalkLawsBesides
namespace Go.Proofs.Ytedblhcehlbbmab
open Go.RowKit

/-- Root and texts of a log, over bytes. -/
theorem rootE_esOf (ss : List ByteArray) : rootE (esOf ss) = rootS ss := by unfold rootE rootS; rw [lvE_esOf]
theorem length_esOf (ss : List ByteArray) : (esOf ss).length = ss.length := by simp [esOf]
theorem esOf_take (ss : List ByteArray) (k : Nat) : esOf (ss.take k) = (esOf ss).take k := by simp [esOf]
theorem esOf_drop (ss : List ByteArray) (k : Nat) : esOf (ss.drop k) = (esOf ss).drop k := by simp [esOf]
theorem esOf_inj {a b : List ByteArray} (h : esOf a = esOf b) : a = b := by
  have := congrArg (List.map bs) h
  simp only [esOf, List.map_map] at this
  have e : (bs ∘ fun s : ByteArray => s.data.toList) = id := by funext s; exact bs_toList s
  rwa [e, List.map_id, List.map_id] at this
theorem logS_cut (ss : List ByteArray) (k : Nat) (h : IsCut ss.length k) (t : List UInt8) :
    t ∈ logT (esOf ss) ↔ t = textS ss ∨ t ∈ logT (esOf (ss.take k)) ∨ t ∈ logT (esOf (ss.drop k)) := by
  rw [logT_cut (esOf ss) k (by rw [length_esOf]; exact h), textS_cut ss k h, esOf_take, esOf_drop, ← esOf_take, ← esOf_drop, rootE_esOf, rootE_esOf]
theorem textS_mem (ss : List ByteArray) (h : 0 < ss.length) : textS ss ∈ logT (esOf ss) := by
  by_cases h1 : 1 < ss.length
  · exact (logS_cut ss _ (cutN_is _ h1) _).2 (.inl rfl)
  · match ss, h, h1 with
    | [s], _, _ => exact (logT_one _ _).2 rfl
    | s :: t :: r, _, h => simp at h
theorem leadO_R {n i : Nat} {x y : Int} {zs : List Int} (h : leadO n i x zs = some y) : bdL zs = true ∧ leadR n i x zs = some y := by
  unfold leadO at h
  split at h
  · rename_i hb; exact ⟨hb, h⟩
  · cases h

/-- What twins.OfEntry answers. -/
def ofEnt : Nat → List ByteArray → Nat → ByteArray → List Int → List UInt8 × List UInt8
  | 0, ss, i, e, zs => ((leadTx ss.length i (entT e.data.toList) zs).getD [], textS ss)
  | f + 1, ss, i, e, zs =>
    if leadTx ss.length i (entT e.data.toList) zs = some (textS ss) ∧ 1 < ss.length then
      (if i < cutN ss.length then ofEnt f (ss.take (cutN ss.length)) i e zs.dropLast else ofEnt f (ss.drop (cutN ss.length)) (i - cutN ss.length) e zs.dropLast)
    else ((leadTx ss.length i (entT e.data.toList) zs).getD [], textS ss)
theorem ofEnt_here {f : Nat} {ss : List ByteArray} {i : Nat} {e : ByteArray} {zs : List Int} (h : ¬ (leadTx ss.length i (entT e.data.toList) zs = some (textS ss) ∧ 1 < ss.length)) :
    ofEnt (f + 1) ss i e zs = ((leadTx ss.length i (entT e.data.toList) zs).getD [], textS ss) := by rw [ofEnt, if_neg h]
theorem ofEnt_left {f k : Nat} {ss : List ByteArray} {i : Nat} {e : ByteArray} {q : List Int} {p : Int} (h : leadTx ss.length i (entT e.data.toList) (q ++ [p]) = some (textS ss)) (hc : IsCut ss.length k) (hk : i < k) :
    ofEnt (f + 1) ss i e (q ++ [p]) = ofEnt f (ss.take k) i e q := by rw [ofEnt, if_pos ⟨h, hc.pos.2⟩, cutN_of hc, if_pos hk, List.dropLast_concat]
theorem ofEnt_right {f k : Nat} {ss : List ByteArray} {i : Nat} {e : ByteArray} {q : List Int} {p : Int} (h : leadTx ss.length i (entT e.data.toList) (q ++ [p]) = some (textS ss)) (hc : IsCut ss.length k) (hk : ¬ i < k) :
    ofEnt (f + 1) ss i e (q ++ [p]) = ofEnt f (ss.drop k) (i - k) e q := by rw [ofEnt, if_pos ⟨h, hc.pos.2⟩, cutN_of hc, if_neg hk, List.dropLast_concat]

theorem leadTx_mem {n i : Nat} {e u : List UInt8} {zs : List Int} (hi : i < n) (h : leadTx n i (entT e) zs = some u) : u ∈ pathT n i e zs := by
  by_cases h1 : n ≤ 1
  · rw [leadTx_one _ h1] at h
    split at h
    · cases h; simp [pathT]
    · cases h
  · rcases List.eq_nil_or_concat zs with rfl | ⟨q, p, rfl⟩
    · rw [leadTx_nil (by omega)] at h; cases h
    · have hc := cutN_is n (by omega)
      rw [List.concat_eq_append] at h ⊢
      rw [leadTx_snoc hc] at h
      split at h
      · split at h
        · rename_i hk
          obtain ⟨y, hy, rfl⟩ := Option.map_eq_some_iff.1 h
          unfold pathT
          rw [(steps_cut n _ i (ent e) p y q hc hi).1 hk (leadO_R hy).2]; simp
        · rename_i hk
          obtain ⟨y, hy, rfl⟩ := Option.map_eq_some_iff.1 h
          unfold pathT
          rw [(steps_cut n _ i (ent e) p y q hc hi).2 (by omega) (leadO_R hy).2]; simp
      · cases h

/-- What OfEntry answers gives the proof away. -/
theorem ofEnt_away (f : Nat) : ∀ (ss : List ByteArray) (i : Nat) (e : ByteArray) (zs : List Int) (hi : i < ss.length), ss.length ≤ f → leadO ss.length i (entS e) zs = some (rootS ss) → e ≠ ss[i] →
    (ofEnt f ss i e zs).1 ∈ pathT ss.length i e.data.toList zs ∧ (ofEnt f ss i e zs).2 ∈ logT (esOf ss) ∧ Two (ofEnt f ss i e zs).1 (ofEnt f ss i e zs).2 := by
  induction f with
  | zero => intro ss i e zs hi hf; omega
  | succ f ih =>
    intro ss i e zs hi hf hl hne
    have hm := sm_leadTx (t := entT e.data.toList) (zs := zs) hi
    rw [show sm (entT e.data.toList) = entS e from rfl, hl] at hm
    obtain ⟨u, hu, hsu⟩ := Option.map_eq_some_iff.1 hm
    by_cases hg : leadTx ss.length i (entT e.data.toList) zs = some (textS ss) ∧ 1 < ss.length
    · have hc := cutN_is ss.length hg.2
      have hp := hc.pos
      have hlt := hc.2.1
      generalize cutN ss.length = k at hc hp hlt
      rcases List.eq_nil_or_concat zs with rfl | ⟨q, p, rfl⟩
      · rw [leadTx_nil (by omega)] at hu; cases hu
      rw [List.concat_eq_append] at *
      have hg1 := hg.1
      rw [leadTx_snoc hc] at hg1
      have hpb : Bd p := by
        have := (leadO_R hl).1
        rw [bdL_snoc, Bool.and_eq_true] at this
        exact isSumB_true this.2
      split at hg1
      · split at hg1
        · rename_i hk
          obtain ⟨y, hy, hn⟩ := Option.map_eq_some_iff.1 hg1
          rw [textS_cut ss k hc] at hn
          obtain ⟨rfl, _⟩ := nodeT_inj (leadO_bd (ent_bd _) hy) hpb (rootS_bd _) (rootS_bd _) hn
          have hlk : (ss.take k).length = k := by rw [List.length_take]; omega
          have hst := (steps_cut ss.length k i (entS e) p _ q hc hi).1 hk (leadO_R hy).2
          rw [ofEnt_left hg.1 hc hk]
          have := ih (ss.take k) i e q (by omega) (by omega) (by rw [hlk]; exact hy) (by rw [List.getElem_take]; exact hne)
          rw [hlk] at this
          obtain ⟨h1, h2, h3⟩ := this
          refine ⟨?_, (logS_cut ss k hc _).2 (.inr (.inl h2)), h3⟩
          unfold pathT at h1 ⊢
          rw [show ent e.data.toList = entS e from rfl] at h1 ⊢
          rw [hst]
          rcases List.mem_cons.1 h1 with h | h
          · rw [h]; simp
          · exact List.mem_cons_of_mem _ (List.mem_append_left _ h)
        · rename_i hk
          obtain ⟨y, hy, hn⟩ := Option.map_eq_some_iff.1 hg1
          rw [textS_cut ss k hc] at hn
          obtain ⟨_, rfl⟩ := nodeT_inj hpb (leadO_bd (ent_bd _) hy) (rootS_bd _) (rootS_bd _) hn
          have hlk : (ss.drop k).length = ss.length - k := by rw [List.length_drop]
          have hst := (steps_cut ss.length k i (entS e) p _ q hc hi).2 (by omega) (leadO_R hy).2
          rw [ofEnt_right hg.1 hc hk]
          have := ih (ss.drop k) (i - k) e q (by omega) (by omega) (by rw [hlk]; exact hy) (by
            rw [List.getElem_drop]
            have e1 : k + (i - k) = i := by omega
            simp only [e1]; exact hne)
          rw [hlk] at this
          obtain ⟨h1, h2, h3⟩ := this
          refine ⟨?_, (logS_cut ss k hc _).2 (.inr (.inr h2)), h3⟩
          unfold pathT at h1 ⊢
          rw [show ent e.data.toList = entS e from rfl] at h1 ⊢
          rw [hst]
          rcases List.mem_cons.1 h1 with h | h
          · rw [h]; simp
          · exact List.mem_cons_of_mem _ (List.mem_append_left _ h)
      · cases hg1
    · rw [ofEnt_here hg, hu]
      refine ⟨leadTx_mem hi hu, textS_mem ss (by omega), ?_, by rw [sm_textS]; exact hsu⟩
      intro he
      have he : u = textS ss := he
      rw [he] at hu
      have h1 : ss.length = 1 := by
        have : ¬ 1 < ss.length := fun h => hg ⟨hu, h⟩
        omega
      match ss, h1 with
      | [s], _ =>
        rw [leadTx_one _ (show [s].length ≤ 1 from Nat.le_refl _)] at hu
        split at hu
        · have e2 : entT e.data.toList = entT s.data.toList := Option.some.inj hu
          have e3 := entT_inj e2
          have hi0 : i = 0 := by simp at hi; omega
          subst hi0
          exact hne (by rw [List.getElem_cons_zero, ← bs_toList e, e3, bs_toList])
        · cases hu

set_option maxHeartbeats 2000000 in
theorem ofEntry_any (f : Nat) : ∀ (n i l : Nat) (ent : ByteArray) (a b : Option Addr) (ss : List ByteArray) (zs : List Int) (cap cap2 : Nat) (w : World), ss.length = n → zs.length = l → i < n → n ≤ f → n ≤ 200 → (∀ s ∈ ss, s.size ≤ 40) → ent.size ≤ 40 → l ≤ 17592186043904 → Strs w a ss → Ints w b zs → n ≤ cap → cap ≤ maxLen → l ≤ cap2 → cap2 ≤ maxLen →
    Calls Try.prog 31 #[.slice a n cap, .int .i64 (i : Int), .string ent, .slice b l cap2] w fun e w' => e = .returned (.tuple #[.string (bs (ofEnt f ss i ent zs).1), .string (bs (ofEnt f ss i ent zs).2)]) ∧ Below w.heap.size w w' := by
  induction f with
  | zero => intro n i l ent a b ss zs cap cap2 w hn hl hi hf; omega
  | succ f ih =>
    intro n i l ent a b ss zs cap cap2 w hn hl hi hf h200 h40 he hr hs hz hcap hmax hcap2 hmax2
    have IH := hid ih
    clear ih
    have HLD := hid (leads_any n n i l (entT ent.data.toList) b zs cap2 w (by omega) (Nat.le_refl _) h200 hi hl hr (by rw [length_entT]; simp; omega) hz hcap2 hmax2)
    have HTX := hid (fun w1 (h : Below w.heap.size w w1) => text_any n n a ss cap w1 hn (Nat.le_refl _) (hs.kept h) h200 h40 hcap hmax)
    have HET := hid (fun w1 => entryText_any ent w1 (by omega))
    have HN := hid hn; have HL := hid hl; have HS := hid hs; have HZ := hid hz; have H40 := hid h40
    have HH := hid (ofEnt_here (f := f) (ss := ss) (i := i) (e := ent) (zs := zs))
    have HLF := hid (fun (k : Nat) (q : List Int) (p : Int) (h : zs = q ++ [p]) => ofEnt_left (f := f) (k := k) (ss := ss) (i := i) (e := ent) (q := q) (p := p))
    have HRF := hid (fun (k : Nat) (q : List Int) (p : Int) (h : zs = q ++ [p]) => ofEnt_right (f := f) (k := k) (ss := ss) (i := i) (e := ent) (q := q) (p := p))
    rw [hn] at HH HLF HRF
    unfold maxLen at hmax hmax2
    clear hn hl hs hz h40
    cases ho : leadTx n i (entT ent.data.toList) zs with
    | none =>
      rw [ho] at HLD HH
      have HO := hid (HH.out (fun h => by cases h.1))
      have HL' : Hid (Calls Try.prog 29 #[.int .i64 (n : Int), .int .i64 (i : Int), .string (bs (entT ent.data.toList)), .slice b l cap2] w fun e w' => e = .returned (.tuple #[.string ⟨#[]⟩, .bool false]) ∧ Below w.heap.size w w') := HLD
      clear HLD HH HLF HRF ho
      go_enter Try.func31, Try.ntmps31
      go_wp2_with fail
      refine (HET.out _).mono ?_
      rintro e w1 ⟨rfl, rfl⟩
      go_wp2_with fail
      refine HL'.out.mono ?_
      rintro e w2 ⟨rfl, hb2⟩
      go_wp2_with fail
      refine (HTX.out _ hb2).mono ?_
      rintro e w3 ⟨rfl, hb3⟩
      generalize textS ss = T at HO
      go_wp2_with fail
      go_ret2
      exact ⟨by rw [HO.out]; rfl, kept hb2 hb3⟩
    | some u =>
      rw [ho] at HLD HH
      have HL' : Hid (Calls Try.prog 29 #[.int .i64 (n : Int), .int .i64 (i : Int), .string (bs (entT ent.data.toList)), .slice b l cap2] w fun e w' => e = .returned (.tuple #[.string (bs u), .bool true]) ∧ Below w.heap.size w w') := HLD
      clear HLD
      by_cases hu : u = textS ss
      · subst hu
        by_cases h1 : n = 1
        · subst h1
          have HO := hid (HH.out (fun h => by omega))
          clear HH HLF HRF ho
          generalize textS ss = T at HO HL' HTX
          go_enter Try.func31, Try.ntmps31
          go_wp2_with fail
          refine (HET.out _).mono ?_
          rintro e w1 ⟨rfl, rfl⟩
          go_wp2_with fail
          refine HL'.out.mono ?_
          rintro e w2 ⟨rfl, hb2⟩
          go_wp2_with fail
          refine (HTX.out _ hb2).mono ?_
          rintro e w3 ⟨rfl, hb3⟩
          go_wp2_with fail
          go_ret2
          exact ⟨by rw [HO.out]; rfl, kept hb2 hb3⟩
        · have hl0 : l ≠ 0 := fun e => by
            subst e
            rw [List.eq_nil_of_length_eq_zero HL.out, leadTx_nil (by omega)] at ho; cases ho
          obtain ⟨q, p, hqp, hq⟩ := snoc_of zs (l - 1) (by rw [HL.out]; omega)
          have HO1 := hid (fun (k : Nat) => HLF.out k q p hqp)
          have HO2 := hid (fun (k : Nat) => HRF.out k q p hqp)
          clear HLF HRF HH
          rw [hqp] at ho
          obtain ⟨bz, oz, rfl, hcz⟩ := HZ.out.at (by have := HL.out; omega)
          obtain ⟨bk, off, rfl, hcs⟩ := HS.out.at (by have := HN.out; omega)
          have HQI : Hid (Ints w (some ⟨bz, oz, none⟩) q) := .inr ⟨bz, oz, rfl, fun j hj => by
            subst hqp
            rw [hcz j (by have := HL.out; omega), List.getElem_append_left hj]⟩
          have HCS := hid hcs
          have hk := cutN_is n (by omega)
          generalize cutN n = k at hk
          have hka := hk.2.1
          have hkp := hk.pos.1
          by_cases hik : i < k
          · have hx := HO1.out k ho hk hik
            rw [hqp, hx]
            exact ofEntry_left n i l k ent bk off bz oz (bs (textS ss)) (bs (ofEnt f (ss.take k) i ent q).1) (bs (ofEnt f (ss.take k) i ent q).2) cap cap2 w hik hk h200 he (by omega) hr hcap hcap2 HL' HTX
              (fun w5 h => IH.out k i (l - 1) ent (some ⟨bk, off, none⟩) (some ⟨bz, oz, none⟩) (ss.take k) q cap cap2 w5 (by rw [List.length_take]; have := HN.out; omega) hq hik (by omega) (by omega) (fun s hs => H40.out s (List.mem_of_mem_take hs)) he (by omega) ((Strs.take HCS.out k).kept h) (HQI.out.kept h) (by omega) (by unfold maxLen; omega) (by omega) (by unfold maxLen; omega))
          · have hx := HO2.out k ho hk hik
            rw [hqp, hx]
            refine ofEntry_right n i l k ent bk off bz oz (bs (textS ss)) (bs (ofEnt f (ss.drop k) (i - k) ent q).1) (bs (ofEnt f (ss.drop k) (i - k) ent q).2) cap cap2 w hi hik hk h200 he (by omega) hr hcap hcap2 HL' HTX
              (fun w5 h => ?_)
            have := IH.out (n - k) (i - k) (l - 1) ent (some ⟨bk, off + k, none⟩) (some ⟨bz, oz, none⟩) (ss.drop k) q (cap - k) cap2 w5 (by rw [List.length_drop]; have := HN.out; omega) hq (by omega) (by omega) (by omega) (fun s hs => H40.out s (List.mem_of_mem_drop hs)) he (by omega) ((Strs.drop HCS.out k).kept h) (HQI.out.kept h) (by omega) (by unfold maxLen; omega) (by omega) (by unfold maxLen; omega)
            rw [show (((i - k : Nat)) : Int) = (i : Int) - (k : Int) from by omega] at this
            exact this
      · have HO := hid (HH.out (fun h => hu (Option.some.inj h.1)))
        have hbn := bne_str (fun e => hu (bs_inj e) : bs u ≠ bs (textS ss))
        clear HH HLF HRF ho hu
        generalize textS ss = T at HO hbn HTX
        go_enter Try.func31, Try.ntmps31
        go_wp2_with fail
        refine (HET.out _).mono ?_
        rintro e w1 ⟨rfl, rfl⟩
        go_wp2_with fail
        refine HL'.out.mono ?_
        rintro e w2 ⟨rfl, hb2⟩
        go_wp2_with fail
        refine (HTX.out _ hb2).mono ?_
        rintro e w3 ⟨rfl, hb3⟩
        go_wp2_with fail
        go_ret2
        exact ⟨by rw [HO.out]; rfl, kept hb2 hb3⟩

/-- What Twin answers. -/
def twinF (ss : List ByteArray) (i : Int) (ent : ByteArray) (zs : List Int) : ByteArray × ByteArray × Int :=
  if longB ss = true then (eS, eS, 2) else
  if i < 0 ∨ (ss.length : Int) ≤ i then (eS, eS, 1) else
  if ss[i.toNat]? = some ent ∨ withinB (rootS ss) (ss.length : Int) i ent zs = false then (eS, eS, 3) else
  (bs (ofEnt ss.length ss i.toNat ent zs).1, bs (ofEnt ss.length ss i.toNat ent zs).2, 0)

theorem twinF_long (ss : List ByteArray) (i : Int) (ent : ByteArray) (zs : List Int) (h : longB ss = true) : twinF ss i ent zs = (eS, eS, 2) := by unfold twinF; rw [if_pos h]
theorem twinF_arg (ss : List ByteArray) (i : Int) (ent : ByteArray) (zs : List Int) (h : longB ss = false) (hi : i < 0 ∨ (ss.length : Int) ≤ i) : twinF ss i ent zs = (eS, eS, 1) := by
  unfold twinF; rw [if_neg (by rw [h]; simp), if_pos hi]
theorem twinF_calm (ss : List ByteArray) (i : Nat) (ent : ByteArray) (zs : List Int) (hi : i < ss.length) (h : longB ss = false) (hc : withinB (rootS ss) (ss.length : Int) (i : Int) ent zs = false ∨ ent = ss[i]) : twinF ss i ent zs = (eS, eS, 3) := by
  unfold twinF
  rw [if_neg (by rw [h]; simp), if_neg (by omega), if_pos]
  rcases hc with h | h
  · exact .inr h
  · left; rw [Int.toNat_natCast, List.getElem?_eq_getElem hi, h]
theorem twinF_away (ss : List ByteArray) (i : Nat) (ent : ByteArray) (zs : List Int) (hi : i < ss.length) (h : longB ss = false) (hw : withinB (rootS ss) (ss.length : Int) (i : Int) ent zs = true) (hne : ent ≠ ss[i]) :
    twinF ss i ent zs = (bs (ofEnt ss.length ss i ent zs).1, bs (ofEnt ss.length ss i ent zs).2, 0) := by
  unfold twinF
  rw [if_neg (by rw [h]; simp), if_neg (by omega), if_neg]
  · rw [Int.toNat_natCast]
  · rintro (h | h)
    · rw [Int.toNat_natCast, List.getElem?_eq_getElem hi] at h
      exact hne (Option.some.inj h).symm
    · rw [hw] at h; cases h

set_option maxHeartbeats 2000000 in
theorem ltwin_any (n l : Nat) (i : Int) (ent : ByteArray) (a b : Option Addr) (ss : List ByteArray) (zs : List Int) (cap cap2 : Nat) (w : World) (hn : ss.length = n) (hl : zs.length = l) (hs : Strs w a ss) (hz : Ints w b zs) (hr : n * 16 ≤ 140737488351232) (hr2 : l * 8 ≤ 140737488351232) (hcap : n ≤ cap) (hmax : cap ≤ maxLen) (hcap2 : l ≤ cap2) (hmax2 : cap2 ≤ maxLen) (hes : ent.size ≤ maxLen) :
    Calls Try.prog 13 #[.slice a n cap, .int .i64 i, .string ent, .slice b l cap2] w fun e w' => e = .returned (.tuple #[.string (twinF ss i ent zs).1, .string (twinF ss i ent zs).2.1, .int .i64 (twinF ss i ent zs).2.2]) ∧ Below w.heap.size w w' := by
  have hrt := lroot_any n a ss cap w hn hs (by omega) hcap hmax
  cases hL : longB ss with
  | true =>
    rw [hL, if_pos rfl, if_pos rfl] at hrt
    rw [twinF_long ss i ent zs hL]
    have HRT := hid hrt
    clear hrt hs hz hn hl hL
    unfold eS
    go_enter Try.func13, Try.ntmps13
    go_wp2_with fail
    refine HRT.out.mono ?_
    rintro e w1 ⟨rfl, hb1⟩
    go_wp2_with fail
    go_ret3
    exact ⟨rfl, hb1⟩
  | false =>
    have hbb := longB_false ss hL
    rw [hL, if_neg (by simp), if_neg (by simp)] at hrt
    have HRT := hid hrt
    clear hrt
    by_cases hi : i < 0 ∨ (n : Int) ≤ i
    · rw [twinF_arg ss i ent zs hL (by rw [hn]; exact hi)]
      clear hs hz hn hl hL hbb
      unfold eS
      rcases hi with h0 | h0
      · go_enter Try.func13, Try.ntmps13
        go_wp2_with fail
        refine HRT.out.mono ?_
        rintro e w1 ⟨rfl, hb1⟩
        go_wp2_with fail
        go_ret3
        exact ⟨rfl, hb1⟩
      · have h1 : ¬ i < 0 := by omega
        go_enter Try.func13, Try.ntmps13
        go_wp2_with fail
        refine HRT.out.mono ?_
        rintro e w1 ⟨rfl, hb1⟩
        go_wp2_with fail
        go_ret3
        exact ⟨rfl, hb1⟩
    · obtain ⟨j, rfl⟩ : ∃ j : Nat, i = (j : Int) := ⟨i.toNat, by omega⟩
      have hj : j < n := by omega
      have hj2 : j < ss.length := by omega
      have i1 : ¬ (j : Int) < 0 := by omega
      have i2 : (j : Int) < (n : Int) := by omega
      have i3 : (0 : Int) ≤ (j : Int) := by omega
      have HW := hid (fun w1 (h : Below w.heap.size w w1) => lwithin_any (rootS ss) n j l ent b zs cap2 w1 hes hl (by omega) (hz.kept h) hcap2 hmax2)
      obtain ⟨bk, off, rfl, hcs⟩ := hs.at (by omega)
      have hcj := hcs j hj2
      by_cases he : ent = ss[j]
      · rw [twinF_calm ss j ent zs hj2 hL (.inr he)]
        rw [← he] at hcj
        have HC := hid hcj
        clear hs hz hn hl hL hbb hcs hcj he hi hj2
        unfold eS
        go_enter Try.func13, Try.ntmps13
        go_wp2_with fail
        refine HRT.out.mono ?_
        rintro e w1 ⟨rfl, hb1⟩
        have hc1 := cell_kept HC.out hb1
        go_wp2_with fail
        go_ret3
        exact ⟨rfl, hb1⟩
      · have hbn := bne_str he
        cases hw : withinB (rootS ss) (n : Int) (j : Int) ent zs with
        | false =>
          rw [twinF_calm ss j ent zs hj2 hL (.inl (by rw [hn]; exact hw))]
          rw [hw] at HW
          generalize ss[j] = sj at hcj hbn
          have HC := hid hcj
          clear hs hz hn hl hL hbb hcs hcj he hi hj2 hw
          unfold eS
          go_enter Try.func13, Try.ntmps13
          go_wp2_with fail
          refine HRT.out.mono ?_
          rintro e w1 ⟨rfl, hb1⟩
          have hc1 := cell_kept HC.out hb1
          go_wp2_with fail
          refine (HW.out _ hb1).mono ?_
          rintro e w2 ⟨rfl, hb2⟩
          go_wp2_with fail
          go_ret3
          exact ⟨rfl, kept hb1 hb2⟩
        | true =>
          rw [twinF_away ss j ent zs hj2 hL (by rw [hn]; exact hw) he]
          have he40 : ent.size ≤ 40 := by
            have := hw
            unfold withinB at this
            rw [Bool.and_eq_true, decide_eq_true_eq] at this
            exact this.1.2.2.2.2
          have HOF := hid (fun w1 (h : Below w.heap.size w w1) => ofEntry_any n n j l ent (some ⟨bk, off, none⟩) b ss zs cap cap2 w1 hn hl hj (Nat.le_refl _) (by omega) hbb.2 he40 (by omega) (hs.kept h) (hz.kept h) hcap hmax hcap2 hmax2)
          rw [hn]
          rw [hw] at HW
          generalize ss[j] = sj at hcj hbn
          generalize bs (ofEnt n ss j ent zs).1 = X at HOF ⊢
          generalize bs (ofEnt n ss j ent zs).2 = Y at HOF ⊢
          have HC := hid hcj
          clear hs hz hn hl hL hbb hcs hcj he hi hj2 hw he40
          go_enter Try.func13, Try.ntmps13
          go_wp2_with fail
          refine HRT.out.mono ?_
          rintro e w1 ⟨rfl, hb1⟩
          have hc1 := cell_kept HC.out hb1
          go_wp2_with fail
          refine (HW.out _ hb1).mono ?_
          rintro e w2 ⟨rfl, hb2⟩
          go_wp2_with fail
          refine (HOF.out _ (kept hb1 hb2)).mono ?_
          rintro e w3 ⟨rfl, hb3⟩
          go_wp2_with fail
          go_ret3
          exact ⟨rfl, kept (kept hb1 hb2) hb3⟩

theorem twin_spec : TwinSpec twinF where
  call := fun n l i ent a b ss zs cap cap2 w h1 h2 h3 h4 h5 h6 h7 h8 h9 h10 h11 => ltwin_any n l i ent a b ss zs cap cap2 w h1 h2 h3 h4 h5 h6 h7 h8 h9 h10 h11
  long := twinF_long
  arg := twinF_arg
  calm := fun ss i ent zs h h1 h2 => twinF_calm ss i ent zs h h1 h2
  away := fun ss i ent zs h h1 hw hne => by
    have hl : leadO ss.length i (entS ent) zs = some (rootS ss) := by
      have := hw
      unfold withinB at this
      rw [Bool.and_eq_true, decide_eq_true_eq, decide_eq_true_eq, Int.toNat_natCast, Int.toNat_natCast] at this
      exact this.2
    obtain ⟨m1, m2, m3, m4⟩ := ofEnt_away ss.length ss i ent zs h (Nat.le_refl _) hl hne
    refine ⟨bs (ofEnt ss.length ss i ent zs).1, bs (ofEnt ss.length ss i ent zs).2, List.mem_map.2 ⟨_, m1, rfl⟩, List.mem_map.2 ⟨_, m2, rfl⟩, twinF_away ss i ent zs h h1 hw hne, fun e => m3 (bs_inj e), ?_⟩
    rw [toList_bs, toList_bs]; exact m4

end Go.Proofs.Ytedblhcehlbbmab

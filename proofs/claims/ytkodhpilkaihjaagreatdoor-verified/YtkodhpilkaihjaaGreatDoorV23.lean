/- Parts. -/
import Derived.Test.YtkodhpilkaihjaaGreatDoorV14
import Derived.Test.YtkodhpilkaihjaaGreatDoorV20
import Derived.Test.YtkodhpilkaihjaaGreatDoorV22
import Derived.Test.YtkodhpilkaihjaaGreatDoorV16
import Derived.Test.YtkodhpilkaihjaaGreatDoorV00
namespace Go.Proofs.YtkodhpilkaihjaaGreatDoor
open Go.RowKit LS
attribute [local go_sem] asNumberSelector asNegativeSelector asPairSelector asGroupSelector asWindowSelector asSelectorSelector
theorem readQ_wfV {l : List UInt8} {t : Tr} (h : readQ l = .ok t) : wfT t ∧ isNil t = false ∧ wT t ≤ 100000 := by
  unfold readQ at h
  by_cases hl : 300 < l.length
  · rw [if_pos hl] at h; cases h
  · rw [if_neg hl] at h
    have h1 := lexAll_len l (l.length + 1) 0 (Nat.zero_le _)
    have h2 := lexAll_tw l (by omega) (l.length + 1) 0
    cases hp : parse (10 * (lexAll l (l.length + 1) 0).length + 5) false 0 .nil (lexAll l (l.length + 1) 0) 0 with
    | error e => rw [hp] at h; cases h
    | ok z =>
      obtain ⟨t', r⟩ := z
      rw [hp] at h
      have hw := parse_wf _ _ _ _ _ _ _ (fun e => by cases e) hp
      simp only at h
      by_cases h0 : (hd r).kind = 0
      · rw [if_pos h0] at h
        by_cases hk : kindT t' = 0
        · rw [if_pos hk] at h; cases h
        · rw [if_neg hk] at h
          injection h with h
          subst h
          refine ⟨hw.1, hw.2.1, ?_⟩
          have h3 := hw.2.2
          rw [if_neg (by decide)] at h3
          simp only at h3
          omega
      · rw [if_neg h0] at h; cases h
theorem Vars.sentsV {w : World} {A : Nat → Addr} {m : Int} (h : Vars w A m) : Sents w (A 0) (A 1) (A 2) (A 3) :=
  ⟨h.sent _ (by decide), h.sent _ (by decide), h.sent _ (by decide), h.sent _ (by decide)⟩
theorem RdIs.errShape {w : World} {lg sy dp tp : Addr} {r : Except (Nat × Nat) Tr} {pv v : Value} {x : Nat × Nat} (hr : r = .error x) (h : RdIs w lg sy dp tp r pv v) : ∃ ty u, v = .iface ty u := by
  subst hr
  rcases h with ⟨_, rfl⟩ | ⟨_, rfl⟩ | ⟨_, he⟩ | ⟨_, he⟩
  · exact ⟨_, _, rfl⟩
  · exact ⟨_, _, rfl⟩
  · obtain ⟨fa, rfl⟩ := ErrAt.shape he; exact ⟨_, _, rfl⟩
  · obtain ⟨fa, rfl⟩ := ErrAt.shape he; exact ⟨_, _, rfl⟩
def SelR (w : World) (r : Option (Nd × Nat)) (v : Value) (ok : Bool) : Prop := match r with
  | some a => ok = true ∧ PickV w a v
  | none => ok = false ∧ PickZ v
theorem SelR.mkNone {w : World} {r : Option (Nd × Nat)} {v : Value} {ok : Bool} (hr : r = none) (h : ok = false ∧ PickZ v) : SelR w r v ok := by subst hr; exact h
theorem SelR.mkSome {w : World} {r : Option (Nd × Nat)} {v : Value} {ok : Bool} {a : Nd × Nat} (hr : r = some a) (h : ok = true ∧ PickV w a v) : SelR w r v ok := by subst hr; exact h
theorem selQ_err {l : List UInt8} {x : Nat × Nat} (h : readQ l = .error x) : selQ l = none := by unfold selQ; rw [h]
theorem selQ_kind {l : List UInt8} {x y : Nat} {a : Nd} {p q : Tr} (h : readQ l = .ok (.node x y a p q)) (hk : a.kind ≠ 1) : selQ l = none := by
  unfold selQ; rw [h]; simp only; rw [if_neg (fun e => hk e.1)]
theorem selQ_sel {l : List UInt8} {x y : Nat} {a : Nd} {p q : Tr} (h : readQ l = .ok (.node x y a p q)) (hk : a.kind = 1) : selQ l = if selS a = l then some a else none := by
  unfold selQ; rw [h]; simp only
  by_cases e : selS a = l
  · rw [if_pos ⟨hk, e⟩, if_pos e]
  · rw [if_neg (fun h => e h.2), if_neg e]
theorem set3_self (w : World) (a : Nat) (x y z : Value) : w.grownBy (set3 w a x y z) (some a) := grown_set (grown_set (grown_set (grown_refl w (some a)) (Or.inl rfl) _) (Or.inl rfl) _) (Or.inl rfl) _
theorem set3_below {w0 w : World} {a : Nat} (h : Below w0.heap.size w0 w) (ha : w0.heap.size ≤ a) (x y z : Value) : Below w0.heap.size w0 (set3 w a x y z) :=
  ((h.setCell (p := ⟨a, 0, none⟩) ha _).setCell (p := ⟨a, 1, none⟩) ha _).setCell (p := ⟨a, 2, none⟩) ha _
theorem suffix_one (y : List UInt8) (c : UInt8) : Lib.hasSuffix y [c] = decide (y.getLast? = some c) := by
  rw [Bool.eq_iff_iff, decide_eq_true_iff]
  unfold Lib.hasSuffix
  rw [List.isSuffixOf_iff_suffix]
  constructor
  · rintro ⟨z, rfl⟩; simp
  · intro h
    obtain ⟨z, hz⟩ := List.getLast?_eq_some_iff.1 h
    exact ⟨z, hz.symm⟩
theorem pick_none {t : List UInt8} (h : LS.cut 91 t = none) : pickQ t = (selQ t).map fun a => (a, 0) := by
  have : LS.seek 91 t = none := by
    unfold LS.cut at h; cases hs : LS.seek 91 t with
    | none => rfl
    | some i => rw [hs] at h; cases h
  unfold pickQ; rw [this]
theorem pick_cut {t x y : List UInt8} (h : LS.cut 91 t = some (x, y)) : pickQ t = if Lib.hasSuffix y [93] = true then (match number 1000 y.dropLast with
      | some n => if n = 0 then none else (selQ x).map fun a => (a, n)
      | none => none) else none := by
  cases hs : LS.seek 91 t with
  | none => unfold LS.cut at h; rw [hs] at h; cases h
  | some i =>
    unfold LS.cut at h
    rw [hs] at h
    simp only [Option.map_some] at h
    injection h with h
    injection h with h1 h2
    have hl : t.getLast? = some 93 ↔ y.getLast? = some 93 := by
      obtain ⟨a, b, rfl, rfl, _⟩ := seek_some hs
      have hy : y = b := by
        rw [← h2, List.drop_append]
        simp
      rw [hy]
      cases b with
      | nil => simp
      | cons c b => rw [List.getLast?_append, List.getLast?_cons_cons]; simp
    unfold pickQ
    rw [hs]
    simp only
    rw [h1, h2, suffix_one]
    by_cases e : t.getLast? = some 93
    · rw [if_pos e, if_pos (by simpa using hl.1 e)]
      cases number 1000 y.dropLast <;> rfl
    · rw [if_neg e, if_neg (by simpa using fun e' => e (hl.2 e'))]
theorem trim_one {y : List UInt8} {c : UInt8} (h : Lib.hasSuffix y [c] = true) : Lib.trimSuffix y [c] = y.dropLast := by
  unfold Lib.trimSuffix; rw [if_pos h, List.dropLast_eq_take]; rfl
set_option maxRecDepth 100000 in
set_option maxHeartbeats 16000000 in
theorem rdsel_any (s : ByteArray) (A : Nat → Addr) (m : Int) (w : World) (hs : s.size ≤ 70000) (hv : Vars w A m) (ht : PowTab w) (hB : 20 ≤ w.heap.size) :
    Calls Tryz.prog 197 #[.string s] w fun e w' => ∃ v ok, e = .returned (.tuple #[v, .bool ok]) ∧ Hid (SelR w' (pickQ (bl s)) v ok) ∧ Below w.heap.size w w' := by
  have HV := hid hv
  have HT := hid ht
  have HBn := hid hB
  clear hv ht hB
  go_enter Tryz.func197, Tryz.ntmps197
  go_wp2_with fail
  refine calls_gen fun W hW => ?_
  have hbW : Below w.heap.size w W := by rw [hW]; exact (Below.refl _ _).alloc (Nat.le_refl _) _
  have HBW := hid hbW
  have HXW : Hid (BAt W w.heap.size [.string ⟨#[]⟩, .slice none 0 0, .int .i64 0] 294) := hid (by rw [hW]; exact Go.Deep.blk_alloc_new _ _)
  clear hW hbW
  cases hcut : LS.cut 91 (bl s) with
  | none =>
    refine (cut_miss_big m W hs (HV.out.below HBW.out).max hcut).mono ?_
    rintro e w1 ⟨a, b, rfl, HAB, nd, hw1⟩
    have hb1 : Below W.heap.size W w1 := by rw [hw1]; exact below_drewN _ _ _
    have HB1 : Hid (Below w.heap.size w w1) := hid (HBW.out.trans (hb1.mono HBW.out.size))
    have HX1 := hid (HXW.out.below hb1)
    have HPQ : Hid (pickQ (bl s) = (selQ (bl a)).map fun z => (z, 0)) := hid (by rw [pick_none hcut, HAB.out.1])
    have has : a.size ≤ 70000 := by rw [size_of_bl HAB.out.1, bl_length]; exact hs
    clear hb1 hw1 hcut HAB HXW
    go_wp2_with fail
    have HSN := hid ((HV.out.below HB1.out).sentsV)
    refine (sRead_any a w1 (by omega) HSN.out).mono ?_
    rintro e w2 ⟨pv, v, rfl, hres, hb2⟩
    have HB2 : Hid (Below w.heap.size w w2) := hid (HB1.out.trans (hb2.mono HB1.out.size))
    have HX2 := hid (HX1.out.below hb2)
    have hx2 := HX2.out.lt
    clear hb2 HX1 HB1 HSN
    have f0 := HX2.out.frozen 0
    have f1 := HX2.out.frozen 1
    have f2 := HX2.out.frozen 2
    have c0 := HX2.out.cell 0
    have c1 := HX2.out.cell 1
    have c2 := HX2.out.cell 2
    simp only [List.getElem?_cons_zero, List.getElem?_cons_succ] at c0 c1 c2
    cases hq : readQ (bl a) with
    | error x =>
      have HPN : Hid (pickQ (bl s) = none) := hid (by rw [HPQ.out, selQ_err hq]; rfl)
      obtain ⟨ty, u, rfl⟩ := RdIs.errShape hq hres.out
      clear hres hq HPQ
      go_wp2
      change bodyPost _ _ _ _ _ (set3 w2 w.heap.size (.string ⟨#[]⟩) (.slice none 0 0) (.int .i64 0))
      have st := set3_at HX2.out (x := (.string ⟨#[]⟩)) (y := (.slice none 0 0)) (z := (.int .i64 0))
      have s0 := st.cell 0
      have s1 := st.cell 1
      have s2 := st.cell 2
      simp only [List.getElem?_cons_zero, List.getElem?_cons_succ] at s0 s1 s2
      have HBX := hid (set3_below HB2.out (Nat.le_refl _) (.string ⟨#[]⟩) (.slice none 0 0) (.int .i64 0))
      generalize set3 w2 w.heap.size (.string ⟨#[]⟩) (.slice none 0 0) (.int .i64 0) = WX at *
      exact bodyPost_ret (v := .tuple #[.agg #[.string ⟨#[]⟩, .slice none 0 0, .int .i64 0], .bool false]) (by simp [results, Tryz.results197, go_sem, s0, s1, s2]) rfl ⟨_, _, rfl, hid (SelR.mkNone HPN.out ⟨rfl, rfl⟩), HBX.out⟩
    | ok t =>
      rw [hq] at hres
      obtain ⟨rfl, hpv⟩ := hres.out
      obtain ⟨hwf, hnil, hwt⟩ := readQ_wfV hq
      cases t with
      | nil => cases hnil
      | node x y nd l r =>
        have HPV := hid hpv
        have HWF := hid (And.intro hwf hwt)
        rcases hpv with ⟨hk, rfl⟩ | ⟨hk, nm, la, ln, lc, rfl, h1, h2⟩ | ⟨hk, wd, nm, la, ln, lc, rfl, _⟩ | ⟨hk, z, rfl, _⟩ | ⟨hk, wd, la, ln, lc, z, rfl, _⟩ | ⟨hk, z1, z2, rfl, _⟩
        case inr.inl =>
          have HSL := hid (selQ_sel hq hk)
          have HK1 := hid hk
          have HNM := hid h1
          have HCV := hid h2
          clear hres hq hwf hnil hwt hk h1 h2
          go_wp2_with fail
          refine calls_gen fun W3 hW3 => ?_
          have hb3 : Below w2.heap.size w2 W3 := by rw [hW3]; exact (Below.refl _ _).alloc (Nat.le_refl _) _
          have HB3 : Hid (Below w.heap.size w W3) := hid (HB2.out.trans (hb3.mono HB2.out.size))
          have HX3 := hid (HX2.out.below hb3)
          have HF3 : Hid (BAt W3 w2.heap.size [.string nm, .slice la ln lc] 281) := hid (by rw [hW3]; exact Go.Deep.blk_alloc_new _ _)
          have HPV3 := hid (HPV.out.below hb3)
          have HCV3 := hid (HCV.out.below hb3)
          clear hW3 hb3 HPV HCV c0 c1 c2 f0 f1 f2
          refine (sPrint_any HWF.out.1 HWF.out.2 W3 _ HPV3.out (HT.out.low HB3.out HBn.out) (Nat.le_trans HBn.out HB3.out.size)).mono ?_
          rintro e w4 ⟨tx, rfl, HTX, hb4⟩
          have HB4 : Hid (Below w.heap.size w w4) := hid (HB3.out.trans (hb4.mono HB3.out.size))
          have HX4 := hid (HX3.out.below hb4)
          have HF4 := hid (HF3.out.below hb4)
          have HCV4 := hid (HCV3.out.below hb4)
          have HTS : Hid (bl tx = selS nd) := hid (by rw [HTX.out, printT_one]; unfold coreS; rw [if_neg (by rw [HK1.out]; decide), if_pos HK1.out])
          clear hb4 HB3 HX3 HF3 HPV3 HCV3 HTX
          have d0 := HF4.out.cell 0
          have d1 := HF4.out.cell 1
          simp only [List.getElem?_cons_zero, List.getElem?_cons_succ] at d0 d1
          have HX2 := HX4
          have HB2 := HB4
          have f0 := HX4.out.frozen 0
          have f1 := HX4.out.frozen 1
          have f2 := HX4.out.frozen 2
          have c0 := HX4.out.cell 0
          have c1 := HX4.out.cell 1
          have c2 := HX4.out.cell 2
          simp only [List.getElem?_cons_zero, List.getElem?_cons_succ] at c0 c1 c2
          have hx4 := HX4.out.lt
          by_cases he : tx = a
          · subst he
            have hne : (tx.toList != tx.toList) = false := by simp
            have HPS : Hid (pickQ (bl s) = some (nd, 0)) := hid (by rw [HPQ.out, HSL.out, if_pos HTS.out.symm]; rfl)
            clear HPQ HSL
            go_wp2
            change bodyPost _ _ _ _ _ (set3 w4 w.heap.size (.string nm) (.slice la ln lc) (.int .i64 (0 : Nat)))
            have st := set3_at HX2.out (x := (.string nm)) (y := (.slice la ln lc)) (z := (.int .i64 (0 : Nat)))
            have s0 := st.cell 0
            have s1 := st.cell 1
            have s2 := st.cell 2
            simp only [List.getElem?_cons_zero, List.getElem?_cons_succ] at s0 s1 s2
            have HBX := hid (set3_below HB2.out (Nat.le_refl _) (.string nm) (.slice la ln lc) (.int .i64 (0 : Nat)))
            have HCX := hid (HCV4.out.kept (set3_self w4 w.heap.size (.string nm) (.slice la ln lc) (.int .i64 (0 : Nat))) HX4.out (by decide))
            generalize set3 w4 w.heap.size (.string nm) (.slice la ln lc) (.int .i64 (0 : Nat)) = WX at *
            exact bodyPost_ret (v := .tuple #[.agg #[.string nm, .slice la ln lc, .int .i64 (0 : Nat)], .bool true]) (by simp [results, Tryz.results197, go_sem, s0, s1, s2]) rfl ⟨_, _, rfl, hid (SelR.mkSome HPS.out ⟨rfl, ⟨nm, la, ln, lc, nd, 0⟩, rfl, rfl, HNM.out, HCX.out⟩), HBX.out⟩
          · have hne : (tx.toList == a.toList) = false := by
              rw [beq_eq_false_iff_ne, toList_bl, toList_bl]; intro e; exact he (bl_inj e)
            have HPN : Hid (pickQ (bl s) = none) := hid (by rw [HPQ.out, HSL.out, if_neg (by intro e; exact he (bl_inj (HTS.out.trans e)))]; rfl)
            clear HPQ HSL he
            go_wp2
            change bodyPost _ _ _ _ _ (set3 w4 w.heap.size (.string ⟨#[]⟩) (.slice none 0 0) (.int .i64 0))
            have st := set3_at HX2.out (x := (.string ⟨#[]⟩)) (y := (.slice none 0 0)) (z := (.int .i64 0))
            have s0 := st.cell 0
            have s1 := st.cell 1
            have s2 := st.cell 2
            simp only [List.getElem?_cons_zero, List.getElem?_cons_succ] at s0 s1 s2
            have HBX := hid (set3_below HB2.out (Nat.le_refl _) (.string ⟨#[]⟩) (.slice none 0 0) (.int .i64 0))
            generalize set3 w4 w.heap.size (.string ⟨#[]⟩) (.slice none 0 0) (.int .i64 0) = WX at *
            exact bodyPost_ret (v := .tuple #[.agg #[.string ⟨#[]⟩, .slice none 0 0, .int .i64 0], .bool false]) (by simp [results, Tryz.results197, go_sem, s0, s1, s2]) rfl ⟨_, _, rfl, hid (SelR.mkNone HPN.out ⟨rfl, rfl⟩), HBX.out⟩
        all_goals
          have HPN : Hid (pickQ (bl s) = none) := hid (by rw [HPQ.out, selQ_kind hq (by omega)]; rfl)
          clear hres hq HPQ hwf hnil hwt hk HPV
          go_wp2
          change bodyPost _ _ _ _ _ ((set3 w2 w.heap.size (.string ⟨#[]⟩) (.slice none 0 0) (.int .i64 0)).alloc (.cells #[.string ByteArray.empty, .slice none 0 0] 281))
          have st := (set3_at HX2.out (x := (.string ⟨#[]⟩)) (y := (.slice none 0 0)) (z := (.int .i64 0))).below ((Below.refl _ _).alloc (Nat.le_refl _) (.cells #[.string ByteArray.empty, .slice none 0 0] 281))
          have s0 := st.cell 0
          have s1 := st.cell 1
          have s2 := st.cell 2
          simp only [List.getElem?_cons_zero, List.getElem?_cons_succ] at s0 s1 s2
          have HBX := hid ((set3_below HB2.out (Nat.le_refl _) (.string ⟨#[]⟩) (.slice none 0 0) (.int .i64 0)).alloc (set3_below HB2.out (Nat.le_refl _) (.string ⟨#[]⟩) (.slice none 0 0) (.int .i64 0)).size (.cells #[.string ByteArray.empty, .slice none 0 0] 281))
          generalize (set3 w2 w.heap.size (.string ⟨#[]⟩) (.slice none 0 0) (.int .i64 0)).alloc (.cells #[.string ByteArray.empty, .slice none 0 0] 281) = WX at *
          exact bodyPost_ret (v := .tuple #[.agg #[.string ⟨#[]⟩, .slice none 0 0, .int .i64 0], .bool false]) (by simp [results, Tryz.results197, go_sem, s0, s1, s2]) rfl ⟨_, _, rfl, hid (SelR.mkNone HPN.out ⟨rfl, rfl⟩), HBX.out⟩
  | some xy =>
    obtain ⟨x, y⟩ := xy
    refine (cut_hit_big m W hs (HV.out.below HBW.out).max hcut).mono ?_
    rintro e w1 ⟨a, b, rfl, HAB, nd, hw1⟩
    have hb1 : Below W.heap.size W w1 := by rw [hw1]; exact below_drewN _ _ _
    have HB1 : Hid (Below w.heap.size w w1) := hid (HBW.out.trans (hb1.mono HBW.out.size))
    have HX1 := hid (HXW.out.below hb1)
    have has : a.size ≤ 70000 ∧ b.size ≤ 70000 := by
      have h9 := HAB.out
      rw [LS.cut] at hcut
      cases hsk : LS.seek 91 (bl s) with
      | none => rw [hsk] at hcut; cases hcut
      | some i =>
        rw [hsk] at hcut
        simp only [Option.map_some] at hcut
        injection hcut with hcut
        injection hcut with e1 e2
        rw [size_of_bl h9.1, size_of_bl h9.2, ← e1, ← e2, List.length_take, List.length_drop, bl_length]
        omega
    have hbs := has.2
    have has := has.1
    have HPC := hid (pick_cut hcut)
    clear hb1 hw1 hcut HXW
    go_wp2_with fail
    refine (Tryz.strings_CutSuffix b ⟨#[93]⟩ w1 (by omega)).mono ?_
    rintro e wq ⟨rfl, rfl⟩
    have HBL : Hid (bl b = y) := hid HAB.out.2
    have HAL : Hid (bl a = x) := hid HAB.out.1
    rw [show b.data.toList = y from HBL.out, show (⟨#[93]⟩ : ByteArray).data.toList = [93] from rfl]
    have hyl : y.length ≤ 70000 := by rw [← HBL.out, bl_length]; exact hbs
    clear HAB
    cases hsf : Lib.hasSuffix y [93] with
    | false =>
      have HPN : Hid (pickQ (bl s) = none) := hid (by rw [HPC.out, if_neg (by rw [hsf]; simp)])
      have hnum : Hid (∀ W', Calls Tryz.prog 118 #[.string ⟨(Lib.trimSuffix y [93]).toArray⟩, .int .i64 (1000 : Nat)] W' _) := hid (fun W' => wNumber_big ⟨(Lib.trimSuffix y [93]).toArray⟩ 1000 W' (by
        rw [← bl_length, bl_mk]; unfold Lib.trimSuffix; rw [hsf]; simpa using hyl) (by decide) (by decide))
      generalize (⟨(Lib.trimSuffix y [93]).toArray⟩ : ByteArray) = dg at *
      have HX2 := HX1
      have HB2 := HB1
      have hx2 := HX1.out.lt
      have f0 := HX1.out.frozen 0
      have f1 := HX1.out.frozen 1
      have f2 := HX1.out.frozen 2
      have c0 := HX1.out.cell 0
      have c1 := HX1.out.cell 1
      have c2 := HX1.out.cell 2
      simp only [List.getElem?_cons_zero, List.getElem?_cons_succ] at c0 c1 c2
      clear HPC hsf
      go_wp2_with fail
      refine (hnum.out _).mono ?_
      rintro e wq2 ⟨rfl, rfl⟩
      have hnt : ∃ (v : Int) (o : Bool), numT 1000 (bl dg) = .tuple #[.int .i64 v, .bool o] := ⟨_, _, rfl⟩
      obtain ⟨nv, no, hnt⟩ := hnt
      rw [hnt]
      clear hnt hnum
      go_wp2
      change bodyPost _ _ _ _ _ (set3 wq2 w.heap.size (.string ⟨#[]⟩) (.slice none 0 0) (.int .i64 0))
      have st := set3_at HX2.out (x := (.string ⟨#[]⟩)) (y := (.slice none 0 0)) (z := (.int .i64 0))
      have s0 := st.cell 0
      have s1 := st.cell 1
      have s2 := st.cell 2
      simp only [List.getElem?_cons_zero, List.getElem?_cons_succ] at s0 s1 s2
      have HBX := hid (set3_below HB2.out (Nat.le_refl _) (.string ⟨#[]⟩) (.slice none 0 0) (.int .i64 0))
      generalize set3 wq2 w.heap.size (.string ⟨#[]⟩) (.slice none 0 0) (.int .i64 0) = WX at *
      exact bodyPost_ret (v := .tuple #[.agg #[.string ⟨#[]⟩, .slice none 0 0, .int .i64 0], .bool false]) (by simp [results, Tryz.results197, go_sem, s0, s1, s2]) rfl ⟨_, _, rfl, hid (SelR.mkNone HPN.out ⟨rfl, rfl⟩), HBX.out⟩
    | true =>
      rw [trim_one hsf]
      have HPC2 : Hid (pickQ (bl s) = match number 1000 y.dropLast with
        | some n => if n = 0 then none else (selQ x).map fun a => (a, n)
        | none => none) := hid (by rw [HPC.out, if_pos hsf])
      have hnum : Hid (∀ W', Calls Tryz.prog 118 #[.string ⟨y.dropLast.toArray⟩, .int .i64 (1000 : Nat)] W' _) := hid (fun W' => wNumber_big ⟨y.dropLast.toArray⟩ 1000 W' (by
        rw [← bl_length, bl_mk, List.length_dropLast]; omega) (by decide) (by decide))
      have hx1 := HX1.out.lt
      clear HPC hsf
      go_wp2_with fail
      refine (hnum.out _).mono ?_
      rintro e wq2 ⟨rfl, rfl⟩
      rw [bl_mk]
      cases hnm : number 1000 y.dropLast with
      | none =>
        rw [numT_none hnm]
        have HPN : Hid (pickQ (bl s) = none) := hid (by rw [HPC2.out, hnm])
        have HX2 := HX1
        have HB2 := HB1
        have f0 := HX1.out.frozen 0
        have f1 := HX1.out.frozen 1
        have f2 := HX1.out.frozen 2
        have c0 := HX1.out.cell 0
        have c1 := HX1.out.cell 1
        have c2 := HX1.out.cell 2
        simp only [List.getElem?_cons_zero, List.getElem?_cons_succ] at c0 c1 c2
        clear hnm HPC2
        go_wp2
        change bodyPost _ _ _ _ _ (set3 wq2 w.heap.size (.string ⟨#[]⟩) (.slice none 0 0) (.int .i64 0))
        have st := set3_at HX2.out (x := (.string ⟨#[]⟩)) (y := (.slice none 0 0)) (z := (.int .i64 0))
        have s0 := st.cell 0
        have s1 := st.cell 1
        have s2 := st.cell 2
        simp only [List.getElem?_cons_zero, List.getElem?_cons_succ] at s0 s1 s2
        have HBX := hid (set3_below HB2.out (Nat.le_refl _) (.string ⟨#[]⟩) (.slice none 0 0) (.int .i64 0))
        generalize set3 wq2 w.heap.size (.string ⟨#[]⟩) (.slice none 0 0) (.int .i64 0) = WX at *
        exact bodyPost_ret (v := .tuple #[.agg #[.string ⟨#[]⟩, .slice none 0 0, .int .i64 0], .bool false]) (by simp [results, Tryz.results197, go_sem, s0, s1, s2]) rfl ⟨_, _, rfl, hid (SelR.mkNone HPN.out ⟨rfl, rfl⟩), HBX.out⟩
      | some n =>
        rw [numT_some hnm]
        by_cases hn0 : n = 0
        · subst hn0
          have HPN : Hid (pickQ (bl s) = none) := hid (by rw [HPC2.out, hnm]; rfl)
          have HX2 := HX1
          have HB2 := HB1
          have f0 := HX1.out.frozen 0
          have f1 := HX1.out.frozen 1
          have f2 := HX1.out.frozen 2
          have c0 := HX1.out.cell 0
          have c1 := HX1.out.cell 1
          have c2 := HX1.out.cell 2
          simp only [List.getElem?_cons_zero, List.getElem?_cons_succ] at c0 c1 c2
          clear hnm HPC2
          go_wp2
          change bodyPost _ _ _ _ _ (set3 wq2 w.heap.size (.string ⟨#[]⟩) (.slice none 0 0) (.int .i64 0))
          have st := set3_at HX2.out (x := (.string ⟨#[]⟩)) (y := (.slice none 0 0)) (z := (.int .i64 0))
          have s0 := st.cell 0
          have s1 := st.cell 1
          have s2 := st.cell 2
          simp only [List.getElem?_cons_zero, List.getElem?_cons_succ] at s0 s1 s2
          have HBX := hid (set3_below HB2.out (Nat.le_refl _) (.string ⟨#[]⟩) (.slice none 0 0) (.int .i64 0))
          generalize set3 wq2 w.heap.size (.string ⟨#[]⟩) (.slice none 0 0) (.int .i64 0) = WX at *
          exact bodyPost_ret (v := .tuple #[.agg #[.string ⟨#[]⟩, .slice none 0 0, .int .i64 0], .bool false]) (by simp [results, Tryz.results197, go_sem, s0, s1, s2]) rfl ⟨_, _, rfl, hid (SelR.mkNone HPN.out ⟨rfl, rfl⟩), HBX.out⟩
        · have hn1 : ((n : Int) == 0) = false := by rw [beq_eq_false_iff_ne]; omega
          have HPQ : Hid (pickQ (bl s) = (selQ (bl a)).map fun z => (z, n)) := hid (by rw [HPC2.out, hnm, HAL.out]; simp only; rw [if_neg hn0])
          clear hnm HPC2 hn0 hnum
          obtain ⟨w1, hw1e⟩ : ∃ w1, w1 = wq2 := ⟨_, rfl⟩
          subst hw1e
          go_wp2_with fail
          have HSN := hid ((HV.out.below HB1.out).sentsV)
          refine (sRead_any a w1 (by omega) HSN.out).mono ?_
          rintro e w2 ⟨pv, v, rfl, hres, hb2⟩
          have HB2 : Hid (Below w.heap.size w w2) := hid (HB1.out.trans (hb2.mono HB1.out.size))
          have HX2 := hid (HX1.out.below hb2)
          have hx2 := HX2.out.lt
          clear hb2 HX1 HB1 HSN
          have f0 := HX2.out.frozen 0
          have f1 := HX2.out.frozen 1
          have f2 := HX2.out.frozen 2
          have c0 := HX2.out.cell 0
          have c1 := HX2.out.cell 1
          have c2 := HX2.out.cell 2
          simp only [List.getElem?_cons_zero, List.getElem?_cons_succ] at c0 c1 c2
          cases hq : readQ (bl a) with
          | error x =>
            have HPN : Hid (pickQ (bl s) = none) := hid (by rw [HPQ.out, selQ_err hq]; rfl)
            obtain ⟨ty, u, rfl⟩ := RdIs.errShape hq hres.out
            clear hres hq HPQ
            go_wp2
            change bodyPost _ _ _ _ _ (set3 w2 w.heap.size (.string ⟨#[]⟩) (.slice none 0 0) (.int .i64 0))
            have st := set3_at HX2.out (x := (.string ⟨#[]⟩)) (y := (.slice none 0 0)) (z := (.int .i64 0))
            have s0 := st.cell 0
            have s1 := st.cell 1
            have s2 := st.cell 2
            simp only [List.getElem?_cons_zero, List.getElem?_cons_succ] at s0 s1 s2
            have HBX := hid (set3_below HB2.out (Nat.le_refl _) (.string ⟨#[]⟩) (.slice none 0 0) (.int .i64 0))
            generalize set3 w2 w.heap.size (.string ⟨#[]⟩) (.slice none 0 0) (.int .i64 0) = WX at *
            exact bodyPost_ret (v := .tuple #[.agg #[.string ⟨#[]⟩, .slice none 0 0, .int .i64 0], .bool false]) (by simp [results, Tryz.results197, go_sem, s0, s1, s2]) rfl ⟨_, _, rfl, hid (SelR.mkNone HPN.out ⟨rfl, rfl⟩), HBX.out⟩
          | ok t =>
            rw [hq] at hres
            obtain ⟨rfl, hpv⟩ := hres.out
            obtain ⟨hwf, hnil, hwt⟩ := readQ_wfV hq
            cases t with
            | nil => cases hnil
            | node x y nd l r =>
              have HPV := hid hpv
              have HWF := hid (And.intro hwf hwt)
              rcases hpv with ⟨hk, rfl⟩ | ⟨hk, nm, la, ln, lc, rfl, h1, h2⟩ | ⟨hk, wd, nm, la, ln, lc, rfl, _⟩ | ⟨hk, z, rfl, _⟩ | ⟨hk, wd, la, ln, lc, z, rfl, _⟩ | ⟨hk, z1, z2, rfl, _⟩
              case inr.inl =>
                have HSL := hid (selQ_sel hq hk)
                have HK1 := hid hk
                have HNM := hid h1
                have HCV := hid h2
                clear hres hq hwf hnil hwt hk h1 h2
                go_wp2_with fail
                refine calls_gen fun W3 hW3 => ?_
                have hb3 : Below w2.heap.size w2 W3 := by rw [hW3]; exact (Below.refl _ _).alloc (Nat.le_refl _) _
                have HB3 : Hid (Below w.heap.size w W3) := hid (HB2.out.trans (hb3.mono HB2.out.size))
                have HX3 := hid (HX2.out.below hb3)
                have HF3 : Hid (BAt W3 w2.heap.size [.string nm, .slice la ln lc] 281) := hid (by rw [hW3]; exact Go.Deep.blk_alloc_new _ _)
                have HPV3 := hid (HPV.out.below hb3)
                have HCV3 := hid (HCV.out.below hb3)
                clear hW3 hb3 HPV HCV c0 c1 c2 f0 f1 f2
                refine (sPrint_any HWF.out.1 HWF.out.2 W3 _ HPV3.out (HT.out.low HB3.out HBn.out) (Nat.le_trans HBn.out HB3.out.size)).mono ?_
                rintro e w4 ⟨tx, rfl, HTX, hb4⟩
                have HB4 : Hid (Below w.heap.size w w4) := hid (HB3.out.trans (hb4.mono HB3.out.size))
                have HX4 := hid (HX3.out.below hb4)
                have HF4 := hid (HF3.out.below hb4)
                have HCV4 := hid (HCV3.out.below hb4)
                have HTS : Hid (bl tx = selS nd) := hid (by rw [HTX.out, printT_one]; unfold coreS; rw [if_neg (by rw [HK1.out]; decide), if_pos HK1.out])
                clear hb4 HB3 HX3 HF3 HPV3 HCV3 HTX
                have d0 := HF4.out.cell 0
                have d1 := HF4.out.cell 1
                simp only [List.getElem?_cons_zero, List.getElem?_cons_succ] at d0 d1
                have HX2 := HX4
                have HB2 := HB4
                have f0 := HX4.out.frozen 0
                have f1 := HX4.out.frozen 1
                have f2 := HX4.out.frozen 2
                have c0 := HX4.out.cell 0
                have c1 := HX4.out.cell 1
                have c2 := HX4.out.cell 2
                simp only [List.getElem?_cons_zero, List.getElem?_cons_succ] at c0 c1 c2
                have hx4 := HX4.out.lt
                by_cases he : tx = a
                · subst he
                  have hne : (tx.toList != tx.toList) = false := by simp
                  have HPS : Hid (pickQ (bl s) = some (nd, n)) := hid (by rw [HPQ.out, HSL.out, if_pos HTS.out.symm]; rfl)
                  clear HPQ HSL
                  go_wp2
                  change bodyPost _ _ _ _ _ (set3 w4 w.heap.size (.string nm) (.slice la ln lc) (.int .i64 (n : Nat)))
                  have st := set3_at HX2.out (x := (.string nm)) (y := (.slice la ln lc)) (z := (.int .i64 (n : Nat)))
                  have s0 := st.cell 0
                  have s1 := st.cell 1
                  have s2 := st.cell 2
                  simp only [List.getElem?_cons_zero, List.getElem?_cons_succ] at s0 s1 s2
                  have HBX := hid (set3_below HB2.out (Nat.le_refl _) (.string nm) (.slice la ln lc) (.int .i64 (n : Nat)))
                  have HCX := hid (HCV4.out.kept (set3_self w4 w.heap.size (.string nm) (.slice la ln lc) (.int .i64 (n : Nat))) HX4.out (by decide))
                  generalize set3 w4 w.heap.size (.string nm) (.slice la ln lc) (.int .i64 (n : Nat)) = WX at *
                  exact bodyPost_ret (v := .tuple #[.agg #[.string nm, .slice la ln lc, .int .i64 (n : Nat)], .bool true]) (by simp [results, Tryz.results197, go_sem, s0, s1, s2]) rfl ⟨_, _, rfl, hid (SelR.mkSome HPS.out ⟨rfl, ⟨nm, la, ln, lc, nd, n⟩, rfl, rfl, HNM.out, HCX.out⟩), HBX.out⟩
                · have hne : (tx.toList == a.toList) = false := by
                    rw [beq_eq_false_iff_ne, toList_bl, toList_bl]; intro e; exact he (bl_inj e)
                  have HPN : Hid (pickQ (bl s) = none) := hid (by rw [HPQ.out, HSL.out, if_neg (by intro e; exact he (bl_inj (HTS.out.trans e)))]; rfl)
                  clear HPQ HSL he
                  go_wp2
                  change bodyPost _ _ _ _ _ (set3 w4 w.heap.size (.string ⟨#[]⟩) (.slice none 0 0) (.int .i64 0))
                  have st := set3_at HX2.out (x := (.string ⟨#[]⟩)) (y := (.slice none 0 0)) (z := (.int .i64 0))
                  have s0 := st.cell 0
                  have s1 := st.cell 1
                  have s2 := st.cell 2
                  simp only [List.getElem?_cons_zero, List.getElem?_cons_succ] at s0 s1 s2
                  have HBX := hid (set3_below HB2.out (Nat.le_refl _) (.string ⟨#[]⟩) (.slice none 0 0) (.int .i64 0))
                  generalize set3 w4 w.heap.size (.string ⟨#[]⟩) (.slice none 0 0) (.int .i64 0) = WX at *
                  exact bodyPost_ret (v := .tuple #[.agg #[.string ⟨#[]⟩, .slice none 0 0, .int .i64 0], .bool false]) (by simp [results, Tryz.results197, go_sem, s0, s1, s2]) rfl ⟨_, _, rfl, hid (SelR.mkNone HPN.out ⟨rfl, rfl⟩), HBX.out⟩
              all_goals
                have HPN : Hid (pickQ (bl s) = none) := hid (by rw [HPQ.out, selQ_kind hq (by omega)]; rfl)
                clear hres hq HPQ hwf hnil hwt hk HPV
                go_wp2
                change bodyPost _ _ _ _ _ ((set3 w2 w.heap.size (.string ⟨#[]⟩) (.slice none 0 0) (.int .i64 0)).alloc (.cells #[.string ByteArray.empty, .slice none 0 0] 281))
                have st := (set3_at HX2.out (x := (.string ⟨#[]⟩)) (y := (.slice none 0 0)) (z := (.int .i64 0))).below ((Below.refl _ _).alloc (Nat.le_refl _) (.cells #[.string ByteArray.empty, .slice none 0 0] 281))
                have s0 := st.cell 0
                have s1 := st.cell 1
                have s2 := st.cell 2
                simp only [List.getElem?_cons_zero, List.getElem?_cons_succ] at s0 s1 s2
                have HBX := hid ((set3_below HB2.out (Nat.le_refl _) (.string ⟨#[]⟩) (.slice none 0 0) (.int .i64 0)).alloc (set3_below HB2.out (Nat.le_refl _) (.string ⟨#[]⟩) (.slice none 0 0) (.int .i64 0)).size (.cells #[.string ByteArray.empty, .slice none 0 0] 281))
                generalize (set3 w2 w.heap.size (.string ⟨#[]⟩) (.slice none 0 0) (.int .i64 0)).alloc (.cells #[.string ByteArray.empty, .slice none 0 0] 281) = WX at *
                exact bodyPost_ret (v := .tuple #[.agg #[.string ⟨#[]⟩, .slice none 0 0, .int .i64 0], .bool false]) (by simp [results, Tryz.results197, go_sem, s0, s1, s2]) rfl ⟨_, _, rfl, hid (SelR.mkNone HPN.out ⟨rfl, rfl⟩), HBX.out⟩
end Go.Proofs.YtkodhpilkaihjaaGreatDoor

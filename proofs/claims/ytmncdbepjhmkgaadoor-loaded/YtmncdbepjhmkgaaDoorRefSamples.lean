/- What the document's own reader of samples answers. -/
import Derived.Test.YtmncdbepjhmkgaaDoorRefLabels
import Derived.Test.YtmncdbepjhmkgaaDoorSamP
namespace Go.Proofs.YtmncdbepjhmkgaaDoor
open Go.RowKit LS

theorem Tryd.infoRSample : (Tryd.prog.info? 98).map (fun i => (i.zero, i.size, i.bytes)) = some (some (.agg #[.int .i64 0, .int .i64 0]), 2, 16) := by kernel_rfl

/-- Is the sample good, in the document's words: the time, the value, the sign. -/
theorem sample_of {x a d : List UInt8} {t v : Int} {less : Bool} {d' : List UInt8} (hc : cut 58 x = some (a, d)) (hst : strip 45 d = (d', less)) (ht : numI 1000000 a = t) (hv : numI 1000000000 d' = v) :
    (0 ≤ t ∧ 0 ≤ v ∧ (less = true → v ≠ 0) → sample x = some t.toNat) ∧ ((t < 0 ∨ v < 0 ∨ (less = true ∧ v = 0)) → sample x = none) := by
  constructor
  · rintro ⟨h1, h2, h3⟩
    unfold sample
    rw [hc]
    simp only [number_of_numI ht h1]
    have : valueOk d = true := by
      unfold valueOk; rw [hst]; simp only [number_of_numI hv h2]
      cases less
      · rfl
      · have := h3 rfl; simp; omega
    rw [this]; rfl
  · intro h
    unfold sample
    rw [hc]
    cases hn : number 1000000 a with
    | none => simp only [hn]
    | some tm =>
      rw [numI_some hn] at ht
      have : valueOk d = false := by
        unfold valueOk; rw [hst]
        rcases h with h | h | ⟨h, h'⟩
        · omega
        · simp only [number_none_of hv h]
        · simp only [number_of_numI hv (by omega)]; subst h; subst h'; rfl
      simp [hn, this]
theorem strip_dash {d : ByteArray} (h1 : 0 < d.size) (h : d[0].toNat = 45) : strip 45 (bl d) = (bl (d.extract 1 d.size), true) := by
  have e := drop_cons d 0 h1
  rw [List.drop_zero] at e
  have e2 : bl (d.extract 1 d.size) = (bl d).drop 1 := by rw [bl_extract, List.take_of_length_le (by rw [bl_length]; exact Nat.le_refl _)]
  have e3 : d[0] = 45 := UInt8.toNat_inj.1 h
  rw [e2, e, e3]; rfl
theorem strip_no {d : ByteArray} (h : d.size < 1 ∨ ∃ h1 : 0 < d.size, d[0].toNat ≠ 45) : strip 45 (bl d) = (bl d, false) := by
  rcases h with h | ⟨h1, h⟩
  · have : bl d = [] := List.length_eq_zero_iff.1 (by rw [bl_length]; omega)
    rw [this]; rfl
  · have e := drop_cons d 0 h1
    rw [List.drop_zero] at e
    have e3 : (d[0] == 45) = false := by
      rw [beq_eq_false_iff_ne]; intro hh; rw [hh] at h; exact h rfl
    rw [e]; simp [strip, e3]

set_option maxRecDepth 100000 in
set_option maxHeartbeats 4000000 in
theorem rSamples_loop (s : ByteArray) (t0 : List UInt8) (w : World) (hs : s.size ≤ 6000) (hne : s.toList.isEmpty = false) (Hst : Hid (bl s = 32 :: t0)) :
    Calls Tryd.prog 23 #[.string s] w fun e w' => ∃ (a : Option Addr) (n cap : Nat) (ok : Bool), e = .returned (.tuple #[.slice a n cap, .bool ok]) ∧
      Hid ((ok = true ∧ samplesAcc (-1) 0 (split 32 t0) = some n) ∨ (ok = false ∧ samplesAcc (-1) 0 (split 32 t0) = none)) ∧ Hid (ok = true → w'.ownsRow w.heap.size 98 2 (.slice a n cap) n (flatP ((split 32 t0).map smV))) ∧ Below w.heap.size w w' := by
  obtain ⟨i0, hi, hz0, hz1, hz2⟩ := info_parts Tryd.infoRSample
  have HS : Hid (split 32 (bl s) = [] :: split 32 t0) := hid (by rw [Hst.out, split_hit])
  go_enter Tryd.func23, Tryd.ntmps23
  go_wp2_with fail
  refine (rSplit_of s 32 _ _ rfl hs).mono ?_
  rintro e w1 ⟨g, n, cp, bs, rfl, hn, hg0, hgl, hcells, hsp, hb1⟩
  have HN : Hid (n = bs.length) := hn
  have hn6 : n ≤ 6001 := by
    have := split_length 32 (bl s); rw [← hsp.out, List.length_map, bl_length] at this; omega
  have HN2 : Hid (n = (split 32 t0).length + 1) := hid (by
    rw [hn, show bs.length = (split 32 (bl s)).length by rw [← hsp.out, List.length_map], HS.out]; rfl)
  have hn1 : 1 ≤ n := by rw [HN2.out]; omega
  clear hn
  have hb0 : 0 < bs.length := by rw [← HN.out]; exact hn1
  have hc0 : w1.cell? ⟨g, 0, none⟩ = some (.string bs[0]) := hcells.out 0 hb0
  have he0 : bs[0].toList.isEmpty = true := by
    rw [toList_bl, map_bl_get hsp.out 0 hb0, HS.out]; rfl
  generalize bs[0] = s0 at hc0 he0
  go_wp2
  go_loopw [4, 6, 7] (fun v last i wr => ∃ (k : Nat) (L : Int), k + 1 ≤ n ∧ i = .int .i64 ((k : Int) + 1) ∧ last = .int .i64 L ∧ -1 ≤ L ∧ L ≤ 1000000 ∧ wr.ownsRow w1.heap.size 98 2 v k (flatP (((split 32 t0).map smV).take k)) ∧ Hid (samplesAcc (-1) 0 (split 32 t0) = samplesAcc L k ((split 32 t0).drop k)) ∧ Below w1.heap.size w1 wr)
    (fun _ _ i _ => n - (intOf i).toNat)
  case atStart => exact ⟨0, -1, hn1, rfl, rfl, by omega, by omega, World.ownsRow_nil _ _ _ _, rfl, Below.refl _ _⟩
  case round =>
    obtain ⟨k, L, hk, rfl, rfl, hL1, hL2, hown, HA, hbr⟩ := hrel
    have hwr : w1.heap.size ≤ wr.heap.size := hbr.size
    by_cases hlt : k + 1 < n
    · have hkb : k + 1 < bs.length := by rw [← HN.out]; exact hlt
      have hkl : k < (split 32 t0).length := by have := HN2.out; omega
      have hck : wr.cell? ⟨g, k + 1, none⟩ = some (.string bs[k + 1]) := (hbr.cell (p := ⟨g, k + 1, none⟩) hgl).trans (hcells.out (k + 1) hkb)
      have HK : Hid (bl bs[k + 1] = (split 32 t0).getD k []) := hid (by
        rw [map_bl_get hsp.out (k + 1) hkb, HS.out]; rfl)
      have hsk6 : bs[k + 1].size ≤ 6000 := by
        have h1 := split_getD_le 32 t0 k hkl
        have h2 : s.size = t0.length + 1 := by rw [size_of_bl Hst.out]; rfl
        rw [size_of_bl HK.out]; omega
      generalize bs[k + 1] = sk at hck HK hsk6
      cases hc : LS.seek 58 (bl sk) with
      | none =>
        have HF : Hid (samplesAcc (-1) 0 (split 32 t0) = none) := hid (by
          rw [HA.out]; refine samplesAcc_bad hkl HK.out (Or.inl ?_); unfold sample; rw [cut_seek_none hc])
        have HC : Hid (LS.seek 58 (bl sk) = none) := hc
        clear hc
        go_wp2_with fail
        refine (seek_none_any (c := 58) _ _ rfl hsk6 HC.out).mono ?_
        rintro e w2 ⟨rfl, hw2⟩
        subst hw2
        go_wp2
        go_ret2
        exact ⟨none, 0, 0, false, rfl, Or.inr ⟨rfl, HF.out⟩, hid (fun h => by cases h), hb1.trans (hbr.mono hb1.size)⟩
      | some p =>
        have hp : p < sk.size := by rw [← bl_length]; exact seek_lt hc
        have hcut := cut_seek hc
        have HC : Hid (LS.seek 58 (bl sk) = some p) := hc
        clear hc
        have e1 : bl (sk.extract 0 p) = (bl sk).take p := by rw [bl_extract]; simp
        have e2 : bl (sk.extract (p + 1) sk.size) = (bl sk).drop (p + 1) := by rw [bl_extract, List.take_of_length_le (by rw [bl_length]; exact Nat.le_refl _)]
        rw [← e1, ← e2] at hcut
        have hx6 : (sk.extract 0 p).size ≤ 6000 := by rw [← bl_length, e1, List.length_take, bl_length]; omega
        have hy6 : (sk.extract (p + 1) sk.size).size ≤ 6000 := by rw [← bl_length, e2, List.length_drop, bl_length]; omega
        clear e1 e2
        have hp1 : p ≤ sk.size := Nat.le_of_lt hp
        have hp2 : p + 1 ≤ sk.size := hp
        have hp3 : (p : Int) + 1 ≤ (sk.size : Int) := by omega
        go_wp2_with fail
        refine (seek_some_any (c := 58) _ _ rfl hsk6 HC.out).mono ?_
        rintro e w2 ⟨rfl, hw2⟩
        subst hw2
        have HCut : Hid _ := hcut
        clear hcut
        go_wp2_with fail
        refine (rNumber_of 1000000 _ _ rfl hx6 (by omega)).mono ?_
        rintro e w3 ⟨rfl, hw3⟩
        subst hw3
        have hT := numI_bounds 1000000 (bl (sk.extract 0 p))
        obtain ⟨T, hTe⟩ : ∃ T, numI 1000000 (bl (sk.extract 0 p)) = T := ⟨_, rfl⟩
        rw [hTe] at hT ⊢
        have HT : Hid _ := hTe
        clear hTe
        obtain ⟨d, hd⟩ : ∃ d, sk.extract (p + 1) sk.size = d := ⟨_, rfl⟩
        rw [hd] at hy6 HCut
        have hD : (∃ h1 : 0 < d.size, ((d[0].toNat : Int) == 45) = true) ∨ (∃ h1 : 0 < d.size, ((d[0].toNat : Int) == 45) = false) ∨ ¬ 0 < d.size := by
          by_cases h1 : 0 < d.size
          · cases h2 : ((d[0].toNat : Int) == 45)
            · exact Or.inr (Or.inl ⟨h1, h2⟩)
            · exact Or.inl ⟨h1, h2⟩
          · exact Or.inr (Or.inr h1)
        rcases hD with ⟨h1, h2⟩ | ⟨h1, h2⟩ | h1
        · have HSt : Hid (strip 45 (bl d) = (bl (d.extract 1 d.size), true)) := strip_dash h1 (by have := beq_iff_eq.1 h2; omega)
          have hd6 : (d.extract 1 d.size).size ≤ 6000 := by rw [ByteArray.size_extract]; omega
          go_wp2_with fail
          refine (rNumber_of 1000000000 _ _ rfl hd6 (by omega)).mono ?_
          rintro e w4 ⟨rfl, hw4⟩
          subst hw4
          have hV := numI_bounds 1000000000 (bl (d.extract 1 d.size))
          obtain ⟨V, hVe⟩ : ∃ V, numI 1000000000 (bl (d.extract 1 d.size)) = V := ⟨_, rfl⟩
          rw [hVe] at hV ⊢
          have HV : Hid _ := hVe
          clear hVe
          have hS := sample_of HCut.out HSt.out HT.out HV.out
          have HSg : Hid _ := hS.1
          have HSb : Hid _ := hS.2
          have HFP := hid (flatP_step hkl HK.out (t := T) (v := -V) ((smV_of HCut.out HSt.out HT.out HV.out).trans rfl))
          clear hS
          by_cases hgood : 0 ≤ T ∧ 0 ≤ V ∧ L < T ∧ V ≠ 0
          · obtain ⟨q1, q2, q3, q4⟩ := hgood
            have HF : Hid (samplesAcc (-1) 0 (split 32 t0) = samplesAcc T (k + 1) ((split 32 t0).drop (k + 1))) := hid (by
              rw [HA.out]
              have hh := samplesAcc_cons (n := k) (last := L) hkl HK.out (HSg.out ⟨q1, q2, fun _ => q4⟩) (by omega)
              rw [hh, Int.toNat_of_nonneg q1])
            have q5 : ¬ T < 0 := by omega
            have q6 : ¬ V < 0 := by omega
            have q7 : ¬ T ≤ L := by omega
            have q8 : (V == 0) = false := by rw [beq_eq_false_iff_ne]; exact q4
            clear q4
            go_wp2_with (at_builtin; refine wpList_append_own _ rfl (.tmp 84) (.tmp 88) 42 rfl w1.heap.size 98 i0 (.agg #[.int .i64 0, .int .i64 0]) 2 16 Tryd.underlying42 hi hz0 hz1 hz2 rfl (by decide) _ _ _ rfl (hown.alloc _) ⟨w4.heap.size, 0, none⟩ 1 1 [.int .i64 T, .int .i64 (-V)] rfl rfl ?c1 ?c2 ?c3 ?c4 ?c5 ?_)
            case c1 => exact cells_two (by simp) (by simp)
            case c2 => intro u hu; simp at hu; rcases hu with rfl | rfl <;> rfl
            case c3 => unfold maxLen; omega
            case c4 => omega
            case c5 => simp; omega
            intro v' w5 hown5 hgrow _
            rw [← HFP.out] at hown5
            have hb5 : Below w1.heap.size w1 w5 := (hbr.alloc hwr _).grown hgrow (by simp; omega) (fun q hq => (hown.lt q hq).1)
            clear hown hgrow
            go_wp2
            go_roundw
            case rel => exact ⟨k + 1, T, by omega, by go_num, rfl, by omega, by omega, hown5, HF, hb5⟩
            case measure => simp [intOf]; omega
          · have HF : Hid (samplesAcc (-1) 0 (split 32 t0) = none) := hid (by
              rw [HA.out]
              refine samplesAcc_bad hkl HK.out ?_
              by_cases hx : 0 ≤ T ∧ 0 ≤ V ∧ V ≠ 0
              · exact Or.inr ⟨T.toNat, HSg.out ⟨hx.1, hx.2.1, fun _ => hx.2.2⟩, by rw [Int.toNat_of_nonneg hx.1]; omega⟩
              · refine Or.inl (HSb.out ?_)
                by_cases hy : T < 0
                · exact Or.inl hy
                · by_cases hz : V < 0
                  · exact Or.inr (Or.inl hz)
                  · exact Or.inr (Or.inr ⟨rfl, by omega⟩))
            have hways : T < 0 ∨ (0 ≤ T ∧ V < 0) ∨ (0 ≤ T ∧ 0 ≤ V ∧ T ≤ L) ∨ (0 ≤ T ∧ 0 ≤ V ∧ ¬ T ≤ L ∧ (V == 0) = true) := by
              by_cases hy : T < 0
              · exact Or.inl hy
              · by_cases hz : V < 0
                · exact Or.inr (Or.inl ⟨by omega, hz⟩)
                · by_cases ha : T ≤ L
                  · exact Or.inr (Or.inr (Or.inl ⟨by omega, by omega, ha⟩))
                  · exact Or.inr (Or.inr (Or.inr ⟨by omega, by omega, ha, by rw [beq_iff_eq]; omega⟩))
            clear hgood
            rcases hways with q1 | ⟨q1, q2⟩ | ⟨q1, q2, q3⟩ | ⟨q1, q2, q3, q4⟩
            all_goals
              go_wp2
              go_ret2
              exact ⟨none, 0, 0, false, rfl, Or.inr ⟨rfl, HF.out⟩, hid (fun h => by cases h), hb1.trans (hbr.mono hb1.size)⟩
        · have HSt : Hid (strip 45 (bl d) = (bl d, false)) := strip_no (Or.inr ⟨h1, by have := beq_eq_false_iff_ne.1 h2; omega⟩)
          have hd6 : d.size ≤ 6000 := hy6
          go_wp2_with fail
          refine (rNumber_of 1000000000 _ _ rfl hd6 (by omega)).mono ?_
          rintro e w4 ⟨rfl, hw4⟩
          subst hw4
          have hV := numI_bounds 1000000000 (bl d)
          obtain ⟨V, hVe⟩ : ∃ V, numI 1000000000 (bl d) = V := ⟨_, rfl⟩
          rw [hVe] at hV ⊢
          have HV : Hid _ := hVe
          clear hVe
          have hS := sample_of HCut.out HSt.out HT.out HV.out
          have HSg : Hid _ := hS.1
          have HSb : Hid _ := hS.2
          have HFP := hid (flatP_step hkl HK.out (t := T) (v := V) ((smV_of HCut.out HSt.out HT.out HV.out).trans rfl))
          clear hS
          by_cases hgood : 0 ≤ T ∧ 0 ≤ V ∧ L < T
          · obtain ⟨q1, q2, q3⟩ := hgood
            have HF : Hid (samplesAcc (-1) 0 (split 32 t0) = samplesAcc T (k + 1) ((split 32 t0).drop (k + 1))) := hid (by
              rw [HA.out]
              have hh := samplesAcc_cons (n := k) (last := L) hkl HK.out (HSg.out ⟨q1, q2, fun h => by cases h⟩) (by omega)
              rw [hh, Int.toNat_of_nonneg q1])
            have q5 : ¬ T < 0 := by omega
            have q6 : ¬ V < 0 := by omega
            have q7 : ¬ T ≤ L := by omega
            go_wp2_with (at_builtin; refine wpList_append_own _ rfl (.tmp 84) (.tmp 88) 42 rfl w1.heap.size 98 i0 (.agg #[.int .i64 0, .int .i64 0]) 2 16 Tryd.underlying42 hi hz0 hz1 hz2 rfl (by decide) _ _ _ rfl (hown.alloc _) ⟨w4.heap.size, 0, none⟩ 1 1 [.int .i64 T, .int .i64 V] rfl rfl ?c1 ?c2 ?c3 ?c4 ?c5 ?_)
            case c1 => exact cells_two (by simp) (by simp)
            case c2 => intro u hu; simp at hu; rcases hu with rfl | rfl <;> rfl
            case c3 => unfold maxLen; omega
            case c4 => omega
            case c5 => simp; omega
            intro v' w5 hown5 hgrow _
            rw [← HFP.out] at hown5
            have hb5 : Below w1.heap.size w1 w5 := (hbr.alloc hwr _).grown hgrow (by simp; omega) (fun q hq => (hown.lt q hq).1)
            clear hown hgrow
            go_wp2
            go_roundw
            case rel => exact ⟨k + 1, T, by omega, by go_num, rfl, by omega, by omega, hown5, HF, hb5⟩
            case measure => simp [intOf]; omega
          · have HF : Hid (samplesAcc (-1) 0 (split 32 t0) = none) := hid (by
              rw [HA.out]
              refine samplesAcc_bad hkl HK.out ?_
              by_cases hx : 0 ≤ T ∧ 0 ≤ V
              · exact Or.inr ⟨T.toNat, HSg.out ⟨hx.1, hx.2, fun h => by cases h⟩, by rw [Int.toNat_of_nonneg hx.1]; omega⟩
              · refine Or.inl (HSb.out ?_)
                by_cases hy : T < 0
                · exact Or.inl hy
                · by_cases hz : V < 0
                  · exact Or.inr (Or.inl hz)
                  · omega)
            have hways : T < 0 ∨ (0 ≤ T ∧ V < 0) ∨ (0 ≤ T ∧ 0 ≤ V ∧ T ≤ L) := by
              by_cases hy : T < 0
              · exact Or.inl hy
              · by_cases hz : V < 0
                · exact Or.inr (Or.inl ⟨by omega, hz⟩)
                · exact Or.inr (Or.inr ⟨by omega, by omega, by omega⟩)
            clear hgood
            rcases hways with q1 | ⟨q1, q2⟩ | ⟨q1, q2, q3⟩
            all_goals
              go_wp2
              go_ret2
              exact ⟨none, 0, 0, false, rfl, Or.inr ⟨rfl, HF.out⟩, hid (fun h => by cases h), hb1.trans (hbr.mono hb1.size)⟩
        · have HSt : Hid (strip 45 (bl d) = (bl d, false)) := strip_no (Or.inl (by omega))
          have hd6 : d.size ≤ 6000 := hy6
          go_wp2_with fail
          refine (rNumber_of 1000000000 _ _ rfl hd6 (by omega)).mono ?_
          rintro e w4 ⟨rfl, hw4⟩
          subst hw4
          have hV := numI_bounds 1000000000 (bl d)
          obtain ⟨V, hVe⟩ : ∃ V, numI 1000000000 (bl d) = V := ⟨_, rfl⟩
          rw [hVe] at hV ⊢
          have HV : Hid _ := hVe
          clear hVe
          have hS := sample_of HCut.out HSt.out HT.out HV.out
          have HSg : Hid _ := hS.1
          have HSb : Hid _ := hS.2
          have HFP := hid (flatP_step hkl HK.out (t := T) (v := V) ((smV_of HCut.out HSt.out HT.out HV.out).trans rfl))
          clear hS
          by_cases hgood : 0 ≤ T ∧ 0 ≤ V ∧ L < T
          · obtain ⟨q1, q2, q3⟩ := hgood
            have HF : Hid (samplesAcc (-1) 0 (split 32 t0) = samplesAcc T (k + 1) ((split 32 t0).drop (k + 1))) := hid (by
              rw [HA.out]
              have hh := samplesAcc_cons (n := k) (last := L) hkl HK.out (HSg.out ⟨q1, q2, fun h => by cases h⟩) (by omega)
              rw [hh, Int.toNat_of_nonneg q1])
            have q5 : ¬ T < 0 := by omega
            have q6 : ¬ V < 0 := by omega
            have q7 : ¬ T ≤ L := by omega
            go_wp2_with (at_builtin; refine wpList_append_own _ rfl (.tmp 84) (.tmp 88) 42 rfl w1.heap.size 98 i0 (.agg #[.int .i64 0, .int .i64 0]) 2 16 Tryd.underlying42 hi hz0 hz1 hz2 rfl (by decide) _ _ _ rfl (hown.alloc _) ⟨w4.heap.size, 0, none⟩ 1 1 [.int .i64 T, .int .i64 V] rfl rfl ?c1 ?c2 ?c3 ?c4 ?c5 ?_)
            case c1 => exact cells_two (by simp) (by simp)
            case c2 => intro u hu; simp at hu; rcases hu with rfl | rfl <;> rfl
            case c3 => unfold maxLen; omega
            case c4 => omega
            case c5 => simp; omega
            intro v' w5 hown5 hgrow _
            rw [← HFP.out] at hown5
            have hb5 : Below w1.heap.size w1 w5 := (hbr.alloc hwr _).grown hgrow (by simp; omega) (fun q hq => (hown.lt q hq).1)
            clear hown hgrow
            go_wp2
            go_roundw
            case rel => exact ⟨k + 1, T, by omega, by go_num, rfl, by omega, by omega, hown5, HF, hb5⟩
            case measure => simp [intOf]; omega
          · have HF : Hid (samplesAcc (-1) 0 (split 32 t0) = none) := hid (by
              rw [HA.out]
              refine samplesAcc_bad hkl HK.out ?_
              by_cases hx : 0 ≤ T ∧ 0 ≤ V
              · exact Or.inr ⟨T.toNat, HSg.out ⟨hx.1, hx.2, fun h => by cases h⟩, by rw [Int.toNat_of_nonneg hx.1]; omega⟩
              · refine Or.inl (HSb.out ?_)
                by_cases hy : T < 0
                · exact Or.inl hy
                · by_cases hz : V < 0
                  · exact Or.inr (Or.inl hz)
                  · omega)
            have hways : T < 0 ∨ (0 ≤ T ∧ V < 0) ∨ (0 ≤ T ∧ 0 ≤ V ∧ T ≤ L) := by
              by_cases hy : T < 0
              · exact Or.inl hy
              · by_cases hz : V < 0
                · exact Or.inr (Or.inl ⟨by omega, hz⟩)
                · exact Or.inr (Or.inr ⟨by omega, by omega, by omega⟩)
            clear hgood
            rcases hways with q1 | ⟨q1, q2⟩ | ⟨q1, q2, q3⟩
            all_goals
              go_wp2
              go_ret2
              exact ⟨none, 0, 0, false, rfl, Or.inr ⟨rfl, HF.out⟩, hid (fun h => by cases h), hb1.trans (hbr.mono hb1.size)⟩
    · have HF : Hid (samplesAcc (-1) 0 (split 32 t0) = some k) := hid (by
        rw [HA.out]; exact samplesAcc_end (by have := HN2.out; omega))
      obtain ⟨av, cp, hv⟩ := own_shape hown
      rw [hv] at hown
      rw [hv]
      have HOW : Hid (wr.ownsRow w.heap.size 98 2 (.slice av k cp) k (flatP ((split 32 t0).map smV))) := hid (by
        rw [List.take_of_length_le (by rw [List.length_map]; have := HN2.out; omega)] at hown
        exact hown.mono hb1.size)
      clear hown
      go_wp2
      go_ret2
      exact ⟨av, k, cp, true, rfl, Or.inl ⟨rfl, HF.out⟩, hid (fun _ => HOW.out), hb1.trans (hbr.mono hb1.size)⟩
end Go.Proofs.YtmncdbepjhmkgaaDoor

/- Parts of the proof, joined: QPrAr -/
import Derived.Test.YtmncdbepjhmkgaaGreatDoorJ20
import Derived.Deep.QuietTactic
/- A part, printed: the four operators. -/
namespace Go.Proofs.YtmncdbepjhmkgaaGreatDoor
open Go.RowKit LS

theorem quiet_one {P : Program} {ops : Array Oper} {C : World → Prop} {Q : Act → Prop} {o : Oper} {rest : List Oper} {a : Act} {v : Value} (hg : o.guard = none) (h : ∀ w, C w → o.quietAt P a C w v) (hK : wpQuiet P ops C Q rest (a.put o.dst v)) : wpQuiet P ops C Q (o :: rest) a := by
  refine wpQuiet_step fun K hk => ?_
  rw [if_pos (by simp [Region.wanted, hg])]
  exact ⟨v, h, hk _ hK⟩
theorem wp_region_quiet_C {P : Program} {C : World → Prop} {id : Nat} {Q : Exit → Act → World → Prop} {a : Act} {w : World} {l : List Oper} (hm : P.follows .mixedOrders = true) (hB : Region.lexB .any l.toArray = true) (hC : C { w with drawn := w.drawn + 1 })
    (h : wpQuiet P l.toArray C (fun a' => ∀ w', C w' → Q .normal a' w') l a) : (Code.region id l.toArray true).wp P Q a w :=
  wp_region_quiet (C := C) hm hB hC (by simpa using h)
set_option maxRecDepth 100000 in
set_option maxHeartbeats 4000000 in
theorem pr_arith {b : Nat} {pv : Value} {n : Nat} {xs : List Value} {x y : Nat} {nd : Nd} {l r : Tr} (hwf : wfT (.node x y nd l r)) (hwt : wT (.node x y nd l r) ≤ 100000) (ihl : isNil l = false → PrC b pv n xs l) (ihr : isNil r = false → PrC b pv n xs r) (hk : nd.kind = 4) : PrC b pv n xs (.node x y nd l r) := by
  intro i must w hrow hrep hmust
  obtain ⟨g, cp, p, a, c, rfl, hgl, hi, hp, ha, hc, hrl, hrr, c0, c1, c2, c3, c4, c5, c6, c7⟩ := Rep.at hrow.own hrep
  have hcell := hrow.cell
  obtain ⟨W, hW⟩ : ∃ W, W = w.alloc (.cells #[.int .i64 p.k, .int .i64 p.n, .int .i64 p.op, .string p.nm, .slice p.ca p.cn p.cc, .slice p.ba p.bn p.bc, .int .i64 p.a, .int .i64 p.b] 80) := ⟨_, rfl⟩
  have hbW : Below w.heap.size w W := by rw [hW]; exact (Below.refl _ _).alloc (Nat.le_refl _) _
  have hzW : W.heap.size = w.heap.size + 1 := by rw [hW, Go.Deep.nblk_alloc]
  have HW : Hid (W = w.alloc (.cells #[.int .i64 p.k, .int .i64 p.n, .int .i64 p.op, .string p.nm, .slice p.ca p.cn p.cc, .slice p.ba p.bn p.bc, .int .i64 p.a, .int .i64 p.b] 80)) := hW
  have HP : Hid (PAt W w.heap.size p) := hid (by rw [hW]; exact Go.Deep.blk_alloc_new _ _)
  have HRW : Hid (RowAt W b (.slice (some ⟨g, 0, none⟩) n cp) n xs) := hrow.below hbW
  have HL : Hid (Rep W xs l a) := Rep.below hbW l a hrl
  have HR : Hid (Rep W xs r c) := Rep.below hbW r c hrr
  have HC : Hid (CondsAre W 0 p nd.conds) := hp.2.2.2.2.1.below hbW
  have HN : Hid (NamesAre W 0 p nd.by_) := hp.2.2.2.2.2.below hbW
  have HBW : Hid (Below w.heap.size w W) := hbW
  have HWF : Hid (wfT (.node x y nd l r)) := hwf
  have hlen := printT_len (.node x y nd l r) must hwf
  have HF : Hid (p.k = nd.kind ∧ p.n = nd.n ∧ p.op = nd.op ∧ bl p.nm = nd.name ∧ p.a = a ∧ p.b = c) := ⟨hp.1, hp.2.1, hp.2.2.1, hp.2.2.2.1, ha, hc⟩
  have hwt2 : ownW nd + wT l + wT r ≤ 100000 := hwt
  have HIL : Hid (isNil l = false → PrC b (.slice (some ⟨g, 0, none⟩) n cp) n xs l) := ihl
  have HIR : Hid (isNil r = false → PrC b (.slice (some ⟨g, 0, none⟩) n cp) n xs r) := ihr
  have HPT : Hid (printT (.node x y nd l r) must = wrapS (decide (tightT nd < must)) (coreS nd (printT l) (printT r))) := rfl
  have HCL : Hid ((coreS nd (printT l) (printT r)).length ≤ 100000) := hid (by
    have := coreS_len hwf.2.2.2.2.2.1 (pl := printT l) (pr := printT r) (x := wT l) (y := wT r) (fun m => printT_len l m hwf.2.2.2.2.2.2.2.2.2.2.1) (fun m => printT_len r m hwf.2.2.2.2.2.2.2.2.2.2.2)
    omega)
  have HLN : Hid ((printT (.node x y nd l r) must).length ≤ 100000) := hid (Nat.le_trans hlen hwt)
  have hk6 : nd.kind ≤ 6 := hwf.1
  clear hp hrow hrep hW hbW hrl hrr hwf ihl ihr ha hc hlen hwt
  obtain ⟨q0, q1, q2, q3, q4, q5, q6, q7⟩ := PAt.all HP.out
  go_enter Tryz.func13, Tryz.ntmps13
  go_upto_block 0 with fail
  rw [← HW.out]
  clear c0 c1 c2 c3 c4 c5 c6 c7 hcell HW
  go_cut [8] from 9 to 107 (fun s8 wx => ∃ rr : ByteArray, s8 = .string rr ∧ Hid (bl rr = coreS nd (printT l) (printT r)) ∧ Hid (Below W.heap.size W wx))
  case first =>
    have hbd : Below W.heap.size W W.drew := (Below.refl _ _).drew
    have HRWd : Hid (RowAt W.drew b (.slice (some ⟨g, 0, none⟩) n cp) n xs) := HRW.out.below hbd
    have HLd : Hid (Rep W.drew xs l a) := Rep.below hbd l a HL.out
    have HRd : Hid (Rep W.drew xs r c) := Rep.below hbd r c HR.out
    clear hbd
    have hk3 : p.k = 4 := by rw [HF.out.1, hk]; rfl
    have hop3 : nd.op ≤ 3 := HWF.out.2.2.1 hk
    have HCS : Hid (coreS nd (printT l) (printT r) = printT l (tightT nd) ++ [32] ++ opS nd.op ++ [32] ++ printT r (tightT nd + 1)) := hid (by unfold coreS; rw [if_neg (by omega), if_neg (by omega), if_neg (by omega), if_neg (by omega), if_neg (by omega), if_neg (by omega)])
    have hnl : isNil l = false := HWF.out.2.2.2.2.2.2.1 (by omega)
    have hnr : isNil r = false := HWF.out.2.2.2.2.2.2.2.1 (Or.inl hk)
    have HPL : Hid (PrC b (.slice (some ⟨g, 0, none⟩) n cp) n xs l) := HIL.out hnl
    have HPR : Hid (PrC b (.slice (some ⟨g, 0, none⟩) n cp) n xs r) := HIR.out hnr
    have htl := tightT_le nd
    have HTI : Hid (tightT nd = if nd.op < 2 then 2 else 3) := hid (by unfold tightT; rw [if_neg (by omega), if_pos hk])
    clear hk hnl hnr HIL HIR
    go_wp2_with fail
    rw [← hk3]
    refine (tight_any p nd _ HF.out.1 HF.out.2.2.1).mono ?_
    rintro e w0 ⟨rfl, hb0⟩
    have HB0 : Hid (Below W.heap.size W w0) := hb0
    clear q0 q1 q2 q3 q4 q5 q6 q7 hb0
    have h4 : nd.op = 0 ∨ nd.op = 1 ∨ nd.op = 2 ∨ nd.op = 3 := by omega
    have HOP : Hid (p.op = nd.op) := HF.out.2.2.1
    obtain ⟨tt, htt⟩ : ∃ tt, tt = tightT nd := ⟨_, rfl⟩
    rw [← htt] at htl HCS HTI ⊢
    clear htt
    obtain ⟨r1, hr1⟩ : ∃ r1 : ByteArray, r1 = ⟨(printT l tt).toArray⟩ := ⟨_, rfl⟩
    obtain ⟨r2, hr2⟩ : ∃ r2 : ByteArray, r2 = ⟨(printT r (tt + 1)).toArray⟩ := ⟨_, rfl⟩
    have HQ1 : Hid (bl r1 = printT l tt ∧ r1.size ≤ 100000) := hid (by
      have e : bl r1 = printT l tt := by rw [hr1, bl_mk]
      have := printT_len l tt HWF.out.2.2.2.2.2.2.2.2.2.2.1
      exact ⟨e, by rw [size_of_bl e]; omega⟩)
    have HQ2 : Hid (bl r2 = printT r (tt + 1) ∧ r2.size ≤ 100000) := hid (by
      have e : bl r2 = printT r (tt + 1) := by rw [hr2, bl_mk]
      have := printT_len r (tt + 1) HWF.out.2.2.2.2.2.2.2.2.2.2.2
      exact ⟨e, by rw [size_of_bl e]; omega⟩)
    have HC1 : Hid (∀ (ti : Int) w', ti = tt → Below W.heap.size W w' → Calls Tryz.prog 13 #[.pointer (some ⟨b, 0, none⟩), .int .i64 a, .int .i64 ti] w' fun e w'' => e = .returned (.string r1) ∧ Below W.heap.size W w'') := hid (by
      rintro ti w' rfl hw'
      refine (HPL.out a tt w' (HRW.out.below hw') (Rep.below hw' l a HL.out) (by omega)).mono ?_
      rintro e w'' ⟨rr, rfl, _, hrr, hb⟩
      exact ⟨by rw [bl_inj (hrr.out.trans HQ1.out.1.symm)], hw'.trans (hb.mono hw'.size)⟩)
    have HC2 : Hid (∀ (ti : Int) w', ti = (tt + 1 : Nat) → Below W.heap.size W w' → Calls Tryz.prog 13 #[.pointer (some ⟨b, 0, none⟩), .int .i64 c, .int .i64 ti] w' fun e w'' => e = .returned (.string r2) ∧ Below W.heap.size W w'') := hid (by
      rintro ti w' rfl hw'
      refine (HPR.out c (tt + 1) w' (HRW.out.below hw') (Rep.below hw' r c HR.out) (by omega)).mono ?_
      rintro e w'' ⟨rr, rfl, _, hrr, hb⟩
      exact ⟨by rw [bl_inj (hrr.out.trans HQ2.out.1.symm)], hw'.trans (hb.mono hw'.size)⟩)
    have HCE : Hid (∀ w', Below W.heap.size W w' → w'.cell? ⟨w.heap.size, 2, none⟩ = some (.int .i64 nd.op) ∧ w'.cell? ⟨w.heap.size, 6, none⟩ = some (.int .i64 a) ∧ w'.cell? ⟨w.heap.size, 7, none⟩ = some (.int .i64 c)) := hid (by
      intro w' hw'
      obtain ⟨_, _, k2, _, _, _, k6, k7⟩ := PAt.all (PAt.kept HP.out (hw'.block _ (PAt.lt HP.out)))
      exact ⟨by rw [k2, HOP.out], by rw [k6, HF.out.2.2.2.2.1], by rw [k7, HF.out.2.2.2.2.2]⟩)
    clear hr1 hr2 hzW
    go_upto_region 18 with fail
    generalize nd.op = oo at *
    rcases h4 with rfl | rfl | rfl | rfl
    · obtain rfl : tt = 2 := HTI.out
      have hw1 : IntKind.i64.wrap 1 = 1 := rfl
      have hw2 : IntKind.i64.wrap 3 = 3 := rfl
      have hex : (⟨#[43, 45, 42, 47]⟩ : ByteArray).extract 0 1 = ⟨#[43]⟩ := by decide
      have HSG : Hid (opS 0 = [43]) := rfl
      have a1 : ∀ W, (Op.stringOp .add r1 ⟨#[32]⟩).run Tryz.prog W = .ok (.string (r1 ++ ⟨#[32]⟩)) W := fun W => run_string_add_sum W _ _ (by show r1.size + 1 ≤ _; have := HQ1.out.2; omega)
      have a2 : ∀ W, (Op.stringOp .add (r1 ++ ⟨#[32]⟩) ⟨#[43]⟩).run Tryz.prog W = .ok (.string ((r1 ++ ⟨#[32]⟩) ++ ⟨#[43]⟩)) W := fun W => run_string_add_sum W _ _ (by rw [ByteArray.size_append]; show r1.size + 1 + 1 ≤ _; have := HQ1.out.2; omega)
      have a3 : ∀ W, (Op.stringOp .add ((r1 ++ ⟨#[32]⟩) ++ ⟨#[43]⟩) ⟨#[32]⟩).run Tryz.prog W = .ok (.string (((r1 ++ ⟨#[32]⟩) ++ ⟨#[43]⟩) ++ ⟨#[32]⟩)) W := fun W => run_string_add_sum W _ _ (by rw [ByteArray.size_append, ByteArray.size_append]; show r1.size + 1 + 1 + 1 ≤ _; have := HQ1.out.2; omega)
      have a4 : ∀ W, (Op.stringOp .add (((r1 ++ ⟨#[32]⟩) ++ ⟨#[43]⟩) ++ ⟨#[32]⟩) r2).run Tryz.prog W = .ok (.string ((((r1 ++ ⟨#[32]⟩) ++ ⟨#[43]⟩) ++ ⟨#[32]⟩) ++ r2)) W := fun W => run_string_add_sum W _ _ (by rw [ByteArray.size_append, ByteArray.size_append, ByteArray.size_append]; show r1.size + 1 + 1 + 1 + r2.size ≤ _; have := HQ1.out.2; have := HQ2.out.2; omega)
      refine wp_region_quiet_C (C := fun w' => Below W.heap.size W w') (by kernel_rfl) (by kernel_rfl) HB0.out.drew ?_
      repeat
        (apply quiet_one rfl
         · intro w' hC
           obtain ⟨d2, d6, d7⟩ := HCE.out w' hC
           go_simp
           first
             | (go_at_call_of 13 (Value.int IntKind.i64 (a : Int)); exact HC1.out _ w' (by first | rfl | omega) hC)
             | (go_at_call_of 13 (Value.int IntKind.i64 (c : Int)); exact HC2.out _ w' (by first | rfl | omega) hC)
             | rfl
         try go_simp)
      refine wpQuiet_nil ?_
      intro w' hC
      have HB2 : Hid (Below W.heap.size W w') := hC
      clear hC
      go_wp2
      go_meet
      exact ⟨_, rfl, hid (by rw [HCS.out, HSG.out, bl_app, bl_app, bl_app, bl_app, HQ1.out.1, HQ2.out.1]; rfl), HB2⟩
    · obtain rfl : tt = 2 := HTI.out
      have hw1 : IntKind.i64.wrap 2 = 2 := rfl
      have hw2 : IntKind.i64.wrap 3 = 3 := rfl
      have hex : (⟨#[43, 45, 42, 47]⟩ : ByteArray).extract 1 2 = ⟨#[45]⟩ := by decide
      have HSG : Hid (opS 1 = [45]) := rfl
      have a1 : ∀ W, (Op.stringOp .add r1 ⟨#[32]⟩).run Tryz.prog W = .ok (.string (r1 ++ ⟨#[32]⟩)) W := fun W => run_string_add_sum W _ _ (by show r1.size + 1 ≤ _; have := HQ1.out.2; omega)
      have a2 : ∀ W, (Op.stringOp .add (r1 ++ ⟨#[32]⟩) ⟨#[45]⟩).run Tryz.prog W = .ok (.string ((r1 ++ ⟨#[32]⟩) ++ ⟨#[45]⟩)) W := fun W => run_string_add_sum W _ _ (by rw [ByteArray.size_append]; show r1.size + 1 + 1 ≤ _; have := HQ1.out.2; omega)
      have a3 : ∀ W, (Op.stringOp .add ((r1 ++ ⟨#[32]⟩) ++ ⟨#[45]⟩) ⟨#[32]⟩).run Tryz.prog W = .ok (.string (((r1 ++ ⟨#[32]⟩) ++ ⟨#[45]⟩) ++ ⟨#[32]⟩)) W := fun W => run_string_add_sum W _ _ (by rw [ByteArray.size_append, ByteArray.size_append]; show r1.size + 1 + 1 + 1 ≤ _; have := HQ1.out.2; omega)
      have a4 : ∀ W, (Op.stringOp .add (((r1 ++ ⟨#[32]⟩) ++ ⟨#[45]⟩) ++ ⟨#[32]⟩) r2).run Tryz.prog W = .ok (.string ((((r1 ++ ⟨#[32]⟩) ++ ⟨#[45]⟩) ++ ⟨#[32]⟩) ++ r2)) W := fun W => run_string_add_sum W _ _ (by rw [ByteArray.size_append, ByteArray.size_append, ByteArray.size_append]; show r1.size + 1 + 1 + 1 + r2.size ≤ _; have := HQ1.out.2; have := HQ2.out.2; omega)
      refine wp_region_quiet_C (C := fun w' => Below W.heap.size W w') (by kernel_rfl) (by kernel_rfl) HB0.out.drew ?_
      repeat
        (apply quiet_one rfl
         · intro w' hC
           obtain ⟨d2, d6, d7⟩ := HCE.out w' hC
           go_simp
           first
             | (go_at_call_of 13 (Value.int IntKind.i64 (a : Int)); exact HC1.out _ w' (by first | rfl | omega) hC)
             | (go_at_call_of 13 (Value.int IntKind.i64 (c : Int)); exact HC2.out _ w' (by first | rfl | omega) hC)
             | rfl
         try go_simp)
      refine wpQuiet_nil ?_
      intro w' hC
      have HB2 : Hid (Below W.heap.size W w') := hC
      clear hC
      go_wp2
      go_meet
      exact ⟨_, rfl, hid (by rw [HCS.out, HSG.out, bl_app, bl_app, bl_app, bl_app, HQ1.out.1, HQ2.out.1]; rfl), HB2⟩
    · obtain rfl : tt = 3 := HTI.out
      have hw1 : IntKind.i64.wrap 3 = 3 := rfl
      have hw2 : IntKind.i64.wrap 4 = 4 := rfl
      have hex : (⟨#[43, 45, 42, 47]⟩ : ByteArray).extract 2 3 = ⟨#[42]⟩ := by decide
      have HSG : Hid (opS 2 = [42]) := rfl
      have a1 : ∀ W, (Op.stringOp .add r1 ⟨#[32]⟩).run Tryz.prog W = .ok (.string (r1 ++ ⟨#[32]⟩)) W := fun W => run_string_add_sum W _ _ (by show r1.size + 1 ≤ _; have := HQ1.out.2; omega)
      have a2 : ∀ W, (Op.stringOp .add (r1 ++ ⟨#[32]⟩) ⟨#[42]⟩).run Tryz.prog W = .ok (.string ((r1 ++ ⟨#[32]⟩) ++ ⟨#[42]⟩)) W := fun W => run_string_add_sum W _ _ (by rw [ByteArray.size_append]; show r1.size + 1 + 1 ≤ _; have := HQ1.out.2; omega)
      have a3 : ∀ W, (Op.stringOp .add ((r1 ++ ⟨#[32]⟩) ++ ⟨#[42]⟩) ⟨#[32]⟩).run Tryz.prog W = .ok (.string (((r1 ++ ⟨#[32]⟩) ++ ⟨#[42]⟩) ++ ⟨#[32]⟩)) W := fun W => run_string_add_sum W _ _ (by rw [ByteArray.size_append, ByteArray.size_append]; show r1.size + 1 + 1 + 1 ≤ _; have := HQ1.out.2; omega)
      have a4 : ∀ W, (Op.stringOp .add (((r1 ++ ⟨#[32]⟩) ++ ⟨#[42]⟩) ++ ⟨#[32]⟩) r2).run Tryz.prog W = .ok (.string ((((r1 ++ ⟨#[32]⟩) ++ ⟨#[42]⟩) ++ ⟨#[32]⟩) ++ r2)) W := fun W => run_string_add_sum W _ _ (by rw [ByteArray.size_append, ByteArray.size_append, ByteArray.size_append]; show r1.size + 1 + 1 + 1 + r2.size ≤ _; have := HQ1.out.2; have := HQ2.out.2; omega)
      refine wp_region_quiet_C (C := fun w' => Below W.heap.size W w') (by kernel_rfl) (by kernel_rfl) HB0.out.drew ?_
      repeat
        (apply quiet_one rfl
         · intro w' hC
           obtain ⟨d2, d6, d7⟩ := HCE.out w' hC
           go_simp
           first
             | (go_at_call_of 13 (Value.int IntKind.i64 (a : Int)); exact HC1.out _ w' (by first | rfl | omega) hC)
             | (go_at_call_of 13 (Value.int IntKind.i64 (c : Int)); exact HC2.out _ w' (by first | rfl | omega) hC)
             | rfl
         try go_simp)
      refine wpQuiet_nil ?_
      intro w' hC
      have HB2 : Hid (Below W.heap.size W w') := hC
      clear hC
      go_wp2
      go_meet
      exact ⟨_, rfl, hid (by rw [HCS.out, HSG.out, bl_app, bl_app, bl_app, bl_app, HQ1.out.1, HQ2.out.1]; rfl), HB2⟩
    · obtain rfl : tt = 3 := HTI.out
      have hw1 : IntKind.i64.wrap 4 = 4 := rfl
      have hw2 : IntKind.i64.wrap 4 = 4 := rfl
      have hex : (⟨#[43, 45, 42, 47]⟩ : ByteArray).extract 3 4 = ⟨#[47]⟩ := by decide
      have HSG : Hid (opS 3 = [47]) := rfl
      have a1 : ∀ W, (Op.stringOp .add r1 ⟨#[32]⟩).run Tryz.prog W = .ok (.string (r1 ++ ⟨#[32]⟩)) W := fun W => run_string_add_sum W _ _ (by show r1.size + 1 ≤ _; have := HQ1.out.2; omega)
      have a2 : ∀ W, (Op.stringOp .add (r1 ++ ⟨#[32]⟩) ⟨#[47]⟩).run Tryz.prog W = .ok (.string ((r1 ++ ⟨#[32]⟩) ++ ⟨#[47]⟩)) W := fun W => run_string_add_sum W _ _ (by rw [ByteArray.size_append]; show r1.size + 1 + 1 ≤ _; have := HQ1.out.2; omega)
      have a3 : ∀ W, (Op.stringOp .add ((r1 ++ ⟨#[32]⟩) ++ ⟨#[47]⟩) ⟨#[32]⟩).run Tryz.prog W = .ok (.string (((r1 ++ ⟨#[32]⟩) ++ ⟨#[47]⟩) ++ ⟨#[32]⟩)) W := fun W => run_string_add_sum W _ _ (by rw [ByteArray.size_append, ByteArray.size_append]; show r1.size + 1 + 1 + 1 ≤ _; have := HQ1.out.2; omega)
      have a4 : ∀ W, (Op.stringOp .add (((r1 ++ ⟨#[32]⟩) ++ ⟨#[47]⟩) ++ ⟨#[32]⟩) r2).run Tryz.prog W = .ok (.string ((((r1 ++ ⟨#[32]⟩) ++ ⟨#[47]⟩) ++ ⟨#[32]⟩) ++ r2)) W := fun W => run_string_add_sum W _ _ (by rw [ByteArray.size_append, ByteArray.size_append, ByteArray.size_append]; show r1.size + 1 + 1 + 1 + r2.size ≤ _; have := HQ1.out.2; have := HQ2.out.2; omega)
      refine wp_region_quiet_C (C := fun w' => Below W.heap.size W w') (by kernel_rfl) (by kernel_rfl) HB0.out.drew ?_
      repeat
        (apply quiet_one rfl
         · intro w' hC
           obtain ⟨d2, d6, d7⟩ := HCE.out w' hC
           go_simp
           first
             | (go_at_call_of 13 (Value.int IntKind.i64 (a : Int)); exact HC1.out _ w' (by first | rfl | omega) hC)
             | (go_at_call_of 13 (Value.int IntKind.i64 (c : Int)); exact HC2.out _ w' (by first | rfl | omega) hC)
             | rfl
         try go_simp)
      refine wpQuiet_nil ?_
      intro w' hC
      have HB2 : Hid (Below W.heap.size W w') := hC
      clear hC
      go_wp2
      go_meet
      exact ⟨_, rfl, hid (by rw [HCS.out, HSG.out, bl_app, bl_app, bl_app, bl_app, HQ1.out.1, HQ2.out.1]; rfl), HB2⟩
  case rest =>
  obtain ⟨rr, rfl, Hrr, HB⟩ := hcut
  have hzc := HB.out.size
  have HP2 : Hid (PAt wc w.heap.size p) := PAt.kept HP.out (HB.out.block _ (by omega))
  clear q0 q1 q2 q3 q4 q5 q6 q7
  obtain ⟨q0, q1, q2, q3, q4, q5, q6, q7⟩ := PAt.all HP2.out
  go_wp2_with fail
  refine (tight_any p nd _ HF.out.1 HF.out.2.2.1).mono ?_
  rintro e w2 ⟨rfl, hb2⟩
  have HB2 : Hid (Below w.heap.size w w2) := HBW.out.trans ((HB.out.trans (hb2.mono hzc)).mono (by omega))
  have hrs : rr.size ≤ 100000 := by rw [size_of_bl Hrr.out]; exact HCL.out
  clear hb2
  by_cases htm : (tightT nd : Int) < must
  · have HD : Hid (printT (.node x y nd l r) must = [40] ++ coreS nd (printT l) (printT r) ++ [41]) := hid (by rw [HPT.out, decide_eq_true (show tightT nd < must by omega)]; rfl)
    have z1 : (⟨#[40]⟩ ++ rr : ByteArray).size = 1 + rr.size := by rw [ByteArray.size_append]; rfl
    have a1 : ∀ W, (Op.stringOp .add ⟨#[40]⟩ rr).run Tryz.prog W = .ok (.string (⟨#[40]⟩ ++ rr)) W := fun W => run_string_add_sum W _ _ (by show 1 + rr.size ≤ _; omega)
    have a2 : ∀ W, (Op.stringOp .add (⟨#[40]⟩ ++ rr) ⟨#[41]⟩).run Tryz.prog W = .ok (.string ((⟨#[40]⟩ ++ rr) ++ ⟨#[41]⟩)) W := fun W => run_string_add_sum W _ _ (by rw [z1]; show _ + 1 ≤ _; omega)
    have HE : Hid (bl ((⟨#[40]⟩ ++ rr) ++ ⟨#[41]⟩) = printT (.node x y nd l r) must) := hid (by rw [HD.out, bl_app, bl_app, Hrr.out]; rfl)
    clear z1
    go_wp2
    go_ret
    exact ⟨_, rfl, by rw [size_of_bl HE.out]; exact HLN.out, HE, HB2.out⟩
  · have HD : Hid (printT (.node x y nd l r) must = coreS nd (printT l) (printT r)) := hid (by rw [HPT.out, decide_eq_false (show ¬ tightT nd < must by omega)]; rfl)
    go_wp2
    go_ret
    exact ⟨_, rfl, hrs, by rw [HD.out]; exact Hrr, HB2.out⟩
end Go.Proofs.YtmncdbepjhmkgaaGreatDoor

/- Parts of the proof, joined: QPrGrp -/
import Derived.Test.YtmncdbepjhmkgaaGreatDoorJ23
/- A part, printed: groups. -/
namespace Go.Proofs.YtmncdbepjhmkgaaGreatDoor
open Go.RowKit LS

theorem nw_all {ns : List (List UInt8)} : ns.length ≤ nw ns ∧ ∀ x ∈ ns, x.length ≤ nw ns := by
  induction ns with
  | nil => exact ⟨Nat.le_refl _, fun x h => nomatch h⟩
  | cons a l ih =>
    refine ⟨by simp [nw]; omega, ?_⟩
    intro x hx
    rcases List.mem_cons.1 hx with rfl | h
    · simp [nw]; omega
    · have := ih.2 x h; simp [nw]; omega
theorem names_small {bs : List ByteArray} {ns : List (List UInt8)} (h : bs.map bl = ns) (hn : nw ns ≤ 100000) : bs.length ≤ 100001 ∧ ∀ q ∈ bs, q.size ≤ 100000 := by
  obtain ⟨h1, h2⟩ := nw_all (ns := ns)
  have hl : (bs.map bl).length = ns.length := by rw [h]
  rw [List.length_map] at hl
  refine ⟨by omega, ?_⟩
  intro q hq
  have := h2 (bl q) (by rw [← h]; exact List.mem_map.2 ⟨q, hq, rfl⟩)
  rw [bl_length] at this
  omega
set_option linter.unusedSimpArgs false in
set_option maxRecDepth 100000 in
set_option maxHeartbeats 8000000 in
theorem pr_group {b : Nat} {pv : Value} {n : Nat} {xs : List Value} {x y : Nat} {nd : Nd} {l r : Tr} (hwf : wfT (.node x y nd l r)) (hwt : wT (.node x y nd l r) ≤ 100000) (ihl : isNil l = false → PrC b pv n xs l) (ihr : isNil r = false → PrC b pv n xs r) (hk : nd.kind = 5) : PrC b pv n xs (.node x y nd l r) := by
  intro i must w hrow hrep hmust
  obtain ⟨g, cp, p, a, c, rfl, hgl, hi, hp, ha, hc, hrl, hrr, c0, c1, c2, c3, c4, c5, c6, c7⟩ := Rep.at hrow.own hrep
  have hcell := hrow.cell
  obtain ⟨W, hW⟩ : ∃ W, W = w.alloc (.cells #[.int .i64 p.k, .int .i64 p.n, .int .i64 p.op, .string p.nm, .slice p.ca p.cn p.cc, .slice p.ba p.bn p.bc, .int .i64 p.a, .int .i64 p.b] 80) := ⟨_, rfl⟩
  have hbW : Below w.heap.size w W := by rw [hW]; exact (Below.refl _ _).alloc (Nat.le_refl _) _
  have hzW : W.heap.size = w.heap.size + 1 := by rw [hW, Go.Deep.nblk_alloc]
  have HW : Hid (W = w.alloc (.cells #[.int .i64 p.k, .int .i64 p.n, .int .i64 p.op, .string p.nm, .slice p.ca p.cn p.cc, .slice p.ba p.bn p.bc, .int .i64 p.a, .int .i64 p.b] 80)) := hW
  have HP : Hid (PAt W w.heap.size p) := hid (by rw [hW]; exact Go.Deep.blk_alloc_new _ _)
  have HRW : Hid (RowAt W b (.slice (some ⟨g, 0, none⟩) n cp) n xs) := hrow.below hbW
  have HL : Hid (Rep W xs l a) := Rep.below hbW l a hrl
  have HR : Hid (Rep W xs r c) := Rep.below hbW r c hrr
  have HC : Hid (CondsAre W 0 p nd.conds) := hp.2.2.2.2.1.below hbW
  have HN : Hid (NamesAre W 0 p nd.by_) := hp.2.2.2.2.2.below hbW
  have HBW : Hid (Below w.heap.size w W) := hbW
  have HWF : Hid (wfT (.node x y nd l r)) := hwf
  have hlen := printT_len (.node x y nd l r) must hwf
  have HF : Hid (p.k = nd.kind ∧ p.n = nd.n ∧ p.op = nd.op ∧ bl p.nm = nd.name ∧ p.a = a ∧ p.b = c) := ⟨hp.1, hp.2.1, hp.2.2.1, hp.2.2.2.1, ha, hc⟩
  have hwt2 : ownW nd + wT l + wT r ≤ 100000 := hwt
  have HIL : Hid (isNil l = false → PrC b (.slice (some ⟨g, 0, none⟩) n cp) n xs l) := ihl
  have HIR : Hid (isNil r = false → PrC b (.slice (some ⟨g, 0, none⟩) n cp) n xs r) := ihr
  have HPT : Hid (printT (.node x y nd l r) must = wrapS (decide (tightT nd < must)) (coreS nd (printT l) (printT r))) := rfl
  have HCL : Hid ((coreS nd (printT l) (printT r)).length ≤ 100000) := hid (by
    have := coreS_len hwf.2.2.2.2.2.1 (pl := printT l) (pr := printT r) (x := wT l) (y := wT r) (fun m => printT_len l m hwf.2.2.2.2.2.2.2.2.2.2.1) (fun m => printT_len r m hwf.2.2.2.2.2.2.2.2.2.2.2)
    omega)
  have HLN : Hid ((printT (.node x y nd l r) must).length ≤ 100000) := hid (Nat.le_trans hlen hwt)
  have hk6 : nd.kind ≤ 6 := hwf.1
  clear hp hrow hrep hW hbW hrl hrr hwf ihl ihr ha hc hlen hwt
  obtain ⟨q0, q1, q2, q3, q4, q5, q6, q7⟩ := PAt.all HP.out
  go_enter Tryz.func13, Tryz.ntmps13
  go_upto_block 0 with fail
  rw [← HW.out]
  clear c0 c1 c2 c3 c4 c5 c6 c7 hcell HW
  go_cut [8] from 9 to 107 (fun s8 wx => ∃ rr : ByteArray, s8 = .string rr ∧ Hid (bl rr = coreS nd (printT l) (printT r)) ∧ Hid (Below W.heap.size W wx))
  case first =>
    have hbd : Below W.heap.size W W.drew := (Below.refl _ _).drew
    have HRWd : Hid (RowAt W.drew b (.slice (some ⟨g, 0, none⟩) n cp) n xs) := HRW.out.below hbd
    have HLd : Hid (Rep W.drew xs l a) := Rep.below hbd l a HL.out
    have HRd : Hid (Rep W.drew xs r c) := Rep.below hbd r c HR.out
    clear hbd
    have hk3 : p.k = 5 := by rw [HF.out.1, hk]; rfl
    have hop4 : nd.op ≤ 3 := HWF.out.2.2.2.1 hk
    have HCS : Hid (coreS nd (printT l) (printT r) = groupWords.getD nd.op [] ++ [32, 98, 121, 32, 40] ++ commas nd.by_ ++ [41, 32, 40] ++ printT l 1 ++ [41]) := hid (by unfold coreS; rw [if_neg (by omega), if_neg (by omega), if_neg (by omega), if_neg (by omega), if_pos hk])
    have hnl : isNil l = false := HWF.out.2.2.2.2.2.2.1 (by omega)
    have HPL : Hid (PrC b (.slice (some ⟨g, 0, none⟩) n cp) n xs l) := HIL.out hnl
    have hbd : Below W.heap.size W W.drew := (Below.refl _ _).drew
    obtain ⟨ns, hns, hno, hnb⟩ := NamesAre.zero (HN.out.below hbd)
    have HNO : Hid (W.drew.ownsRow 0 9 1 (.slice p.ba ns.length p.bc) ns.length (ns.map .string)) := hno
    have HNB : Hid (ns.map bl = nd.by_) := hnb
    have HNS : Hid (p.bn = ns.length) := hns
    have HNW : Hid (nw nd.by_ ≤ 100000) := hid (by unfold ownW at hwt2; omega)
    have HNL : Hid (ns.length ≤ 100001 ∧ ∀ q ∈ ns, q.size ≤ 100000) := hid (names_small HNB.out HNW.out)
    have HPd : Hid (PAt W.drew w.heap.size p) := HP
    have HOP : Hid (p.op = nd.op) := HF.out.2.2.1
    have HAA : Hid (p.a = a) := HF.out.2.2.2.2.1
    rw [HOP.out] at q2
    rw [hns] at q5
    rw [HAA.out] at q6
    clear hk hbd hns hno hnb hnl HIL HIR
    obtain ⟨oo, hoo⟩ : ∃ oo : Nat, oo = nd.op := ⟨_, rfl⟩
    rw [← hoo] at q2 hop4
    have HOO : Hid (oo = nd.op) := hoo
    clear hoo
    obtain ⟨x1, hx1⟩ : ∃ x1 : ByteArray, x1 = ⟨(groupWords.getD oo []).toArray⟩ := ⟨_, rfl⟩
    obtain ⟨r2, hr2⟩ : ∃ r2 : ByteArray, r2 = ⟨(commas nd.by_).toArray⟩ := ⟨_, rfl⟩
    obtain ⟨r3, hr3⟩ : ∃ r3 : ByteArray, r3 = ⟨(printT l 1).toArray⟩ := ⟨_, rfl⟩
    have HX1 : Hid (bl x1 = groupWords.getD oo []) := hid (by rw [hx1, bl_mk])
    have HR2 : Hid (bl r2 = commas nd.by_) := hid (by rw [hr2, bl_mk])
    have HR3 : Hid (bl r3 = printT l 1) := hid (by rw [hr3, bl_mk])
    have z1 : x1.size ≤ 5 := by rw [size_of_bl HX1.out]; exact getD_len groupWords (by decide) oo
    have z2 : r2.size ≤ 100000 := by rw [size_of_bl HR2.out]; exact Nat.le_trans (commas_len _) HNW.out
    have z3 : r3.size ≤ 100000 := by rw [size_of_bl HR3.out]; have := printT_len l 1 HWF.out.2.2.2.2.2.2.2.2.2.2.1; omega
    clear hx1 hr2 hr3
    have HSPL : Hid (∀ w', Below W.heap.size W w' → Calls Tryz.prog 30 #[.string ⟨#[115, 117, 109, 32, 109, 97, 120, 32, 109, 105, 110, 32, 99, 111, 117, 110, 116]⟩, .int .u8 32] w' fun e w'' => ∃ g1 cp1, e = .returned (.slice (some ⟨g1, 0, none⟩) 4 cp1) ∧ g1 < w''.heap.size ∧ w''.cell? ⟨g1, oo, none⟩ = some (.string x1) ∧ Below W.heap.size W w'') := hid (by
      intro w' hw'
      refine (rSplit_of _ 32 _ _ rfl (by decide)).mono ?_
      rintro e w1 ⟨g1, n1, cp1, bs, rfl, hn1, hg0, hgl1, hcells, hsp, hb1⟩
      rw [groups_split] at hsp
      have hlen1 : n1 = 4 := by rw [hn1, ← List.length_map (f := bl), hsp.out]; rfl
      have hob : oo < bs.length := by omega
      have e1 := hcells.out oo hob
      rw [show bs[oo] = x1 from bl_inj ((map_bl_get hsp.out oo hob).trans HX1.out.symm)] at e1
      exact ⟨g1, cp1, by rw [hlen1], hgl1, e1, hw'.trans (hb1.mono hw'.size)⟩)
    have HJN : Hid (∀ w', Below W.heap.size W w' → Calls Tryz.prog 31 #[.slice p.ba ns.length p.bc] w' fun e w'' => e = .returned (.string r2) ∧ w'' = w') := hid (by
      intro w' hw'
      refine (joined_any _ _ 0 ns w' (own_below (show W.ownsRow 0 9 1 (.slice p.ba ns.length p.bc) ns.length (ns.map .string) from HNO.out) hw') HNL.out.1 HNL.out.2).mono ?_
      rintro e w2 ⟨q2, rfl, _, hq2, rfl⟩
      have HQ2 : bl q2 = commas nd.by_ := by rw [hq2.out, joinTo_commas _ _ (by rw [List.length_map]; exact Nat.le_refl _), List.take_of_length_le (by rw [List.length_map]; exact Nat.le_refl _), HNB.out]
      exact ⟨by rw [bl_inj (HQ2.trans HR2.out.symm)], rfl⟩)
    have HPR : Hid (∀ w', Below W.heap.size W w' → Calls Tryz.prog 13 #[.pointer (some ⟨b, 0, none⟩), .int .i64 a, .int .i64 1] w' fun e w'' => e = .returned (.string r3) ∧ Below w'.heap.size w' w'') := hid (by
      intro w' hw'
      refine (HPL.out a 1 w' (HRW.out.below hw') (Rep.below hw' l a HL.out) (by decide)).mono ?_
      rintro e w3 ⟨q3, rfl, _, hq3, hb3⟩
      exact ⟨by rw [bl_inj (hq3.out.trans HR3.out.symm)], hb3⟩)
    have HKP : Hid (∀ w', Below W.heap.size W w' → w'.cell? ⟨w.heap.size, 2, none⟩ = some (.int .i64 oo) ∧ w'.cell? ⟨w.heap.size, 5, none⟩ = some (.slice p.ba ns.length p.bc) ∧ w'.cell? ⟨w.heap.size, 6, none⟩ = some (.int .i64 a)) := hid (by
      intro w' hw'
      obtain ⟨_, _, k2, _, _, k5, k6, _⟩ := PAt.all (PAt.kept HP.out (hw'.block _ (PAt.lt HP.out)))
      rw [HOP.out, ← HOO.out] at k2
      rw [HNS.out] at k5
      rw [HAA.out] at k6
      exact ⟨k2, k5, k6⟩)
    have HBd : Hid (Below W.heap.size W W.drew) := hid ((Below.refl _ _).drew)
    have hop5 : (oo : Int) < 4 := by omega
    have hop0 : (0 : Int) ≤ (oo : Int) := by omega
    have a1 : ∀ W, (Op.stringOp .add x1 ⟨#[32, 98, 121, 32, 40]⟩).run Tryz.prog W = .ok (.string (x1 ++ ⟨#[32, 98, 121, 32, 40]⟩)) W := fun W => run_string_add_sum W _ _ (by show x1.size + 5 ≤ _; omega)
    have y1 : (x1 ++ ⟨#[32, 98, 121, 32, 40]⟩ : ByteArray).size = x1.size + 5 := by rw [ByteArray.size_append]; rfl
    have y2 : ((x1 ++ ⟨#[32, 98, 121, 32, 40]⟩) ++ r2 : ByteArray).size = x1.size + 5 + r2.size := by rw [ByteArray.size_append, y1]
    have y3 : (((x1 ++ ⟨#[32, 98, 121, 32, 40]⟩) ++ r2) ++ ⟨#[41, 32, 40]⟩ : ByteArray).size = x1.size + 5 + r2.size + 3 := by rw [ByteArray.size_append, y2]; rfl
    have y4 : ((((x1 ++ ⟨#[32, 98, 121, 32, 40]⟩) ++ r2) ++ ⟨#[41, 32, 40]⟩) ++ r3 : ByteArray).size = x1.size + 5 + r2.size + 3 + r3.size := by rw [ByteArray.size_append, y3]
    have a2 : ∀ W, (Op.stringOp .add (x1 ++ ⟨#[32, 98, 121, 32, 40]⟩) r2).run Tryz.prog W = .ok (.string ((x1 ++ ⟨#[32, 98, 121, 32, 40]⟩) ++ r2)) W := fun W => run_string_add_sum W _ _ (by omega)
    have a3 : ∀ W, (Op.stringOp .add ((x1 ++ ⟨#[32, 98, 121, 32, 40]⟩) ++ r2) ⟨#[41, 32, 40]⟩).run Tryz.prog W = .ok (.string (((x1 ++ ⟨#[32, 98, 121, 32, 40]⟩) ++ r2) ++ ⟨#[41, 32, 40]⟩)) W := fun W => run_string_add_sum W _ _ (by rw [y2]; show _ + 3 ≤ _; omega)
    have a4 : ∀ W, (Op.stringOp .add (((x1 ++ ⟨#[32, 98, 121, 32, 40]⟩) ++ r2) ++ ⟨#[41, 32, 40]⟩) r3).run Tryz.prog W = .ok (.string ((((x1 ++ ⟨#[32, 98, 121, 32, 40]⟩) ++ r2) ++ ⟨#[41, 32, 40]⟩) ++ r3)) W := fun W => run_string_add_sum W _ _ (by omega)
    have a5 : ∀ W, (Op.stringOp .add ((((x1 ++ ⟨#[32, 98, 121, 32, 40]⟩) ++ r2) ++ ⟨#[41, 32, 40]⟩) ++ r3) ⟨#[41]⟩).run Tryz.prog W = .ok (.string (((((x1 ++ ⟨#[32, 98, 121, 32, 40]⟩) ++ r2) ++ ⟨#[41, 32, 40]⟩) ++ r3) ++ ⟨#[41]⟩)) W := fun W => run_string_add_sum W _ _ (by rw [y4]; show _ + 1 ≤ _; omega)
    clear y1 y2 y3 y4 z1 z2 z3 HRWd HLd HRd HPd
    go_upto_region 13 with fail
    refine wp_region_held_drew (S := fun w' => w'.cell? ⟨w.heap.size, 2, none⟩ = some (.int .i64 oo) ∧ w'.cell? ⟨w.heap.size, 5, none⟩ = some (.slice p.ba ns.length p.bc) ∧ w'.cell? ⟨w.heap.size, 6, none⟩ = some (.int .i64 a)) (by kernel_rfl) (HKP.out _ HBd.out) (fun hHeld => ?_)
    refine takeH (i := 1) (d := 55) (v := ?v1_0) rfl rfl (by kernel_rfl) (by kernel_rfl) (by kernel_rfl) (fun _ _ _ h => h) (Or.inl ⟨by rfl, ?hy1_0⟩) hHeld ?rs1_0
    case hy1_0 =>
      intro w hSw
      go_simp
      try with_reducible rfl
    case rs1_0 =>
    try simp only [Act.put, List.setIfInBounds_toArray, List.set_cons_zero, List.set_cons_succ]
    refine takeH (i := 2) (d := 56) (v := ?v2_1) rfl rfl (by kernel_rfl) (by kernel_rfl) (by kernel_rfl) (fun _ _ _ h => h) (Or.inl ⟨by rfl, ?hy2_1⟩) hHeld ?rs2_1
    case hy2_1 =>
      intro w hSw
      go_simp
      try with_reducible rfl
    case rs2_1 =>
    try simp only [Act.put, List.setIfInBounds_toArray, List.set_cons_zero, List.set_cons_succ]
    refine takeH (i := 6) (d := 60) (v := ?v6_2) rfl rfl (by kernel_rfl) (by kernel_rfl) (by kernel_rfl) (fun _ _ _ h => h) (Or.inl ⟨by rfl, ?hy6_2⟩) hHeld ?rs6_2
    case hy6_2 =>
      intro w hSw
      go_simp
      try with_reducible rfl
    case rs6_2 =>
    try simp only [Act.put, List.setIfInBounds_toArray, List.set_cons_zero, List.set_cons_succ]
    refine takeH (i := 7) (d := 61) (v := ?v7_3) rfl rfl (by kernel_rfl) (by kernel_rfl) (by kernel_rfl) (fun _ _ _ h => h) (Or.inl ⟨by rfl, ?hy7_3⟩) hHeld ?rs7_3
    case hy7_3 =>
      intro w hSw
      go_simp
      try with_reducible rfl
    case rs7_3 =>
    try simp only [Act.put, List.setIfInBounds_toArray, List.set_cons_zero, List.set_cons_succ]
    refine takeH (i := 11) (d := 65) (v := ?v11_4) rfl rfl (by kernel_rfl) (by kernel_rfl) (by kernel_rfl) (fun _ _ _ h => h) (Or.inl ⟨by rfl, ?hy11_4⟩) hHeld ?rs11_4
    case hy11_4 =>
      intro w hSw
      go_simp
      try with_reducible rfl
    case rs11_4 =>
    try simp only [Act.put, List.setIfInBounds_toArray, List.set_cons_zero, List.set_cons_succ]
    refine takeH (i := 12) (d := 66) (v := ?v12_5) rfl rfl (by kernel_rfl) (by kernel_rfl) (by kernel_rfl) (fun _ _ _ h => h) (Or.inl ⟨by rfl, ?hy12_5⟩) hHeld ?rs12_5
    case hy12_5 =>
      intro w hSw
      go_simp
      try with_reducible rfl
    case rs12_5 =>
    try simp only [Act.put, List.setIfInBounds_toArray, List.set_cons_zero, List.set_cons_succ]
    refine takeH (i := 13) (d := 67) (v := ?v13_6) rfl rfl (by kernel_rfl) (by kernel_rfl) (by kernel_rfl) (fun _ _ _ h => h) (Or.inl ⟨by rfl, ?hy13_6⟩) hHeld ?rs13_6
    case hy13_6 =>
      intro w hSw
      go_simp
      try with_reducible rfl
    case rs13_6 =>
    try simp only [Act.put, List.setIfInBounds_toArray, List.set_cons_zero, List.set_cons_succ]
    refine wpAnyH_ready (rs := [0]) (by kernel_rfl) (by simp) ?_
    refine AllReadyH.cons (o := _) rfl (fun K hK => ?_) AllReadyH.nil
    go_simp
    refine (HSPL.out _ HBd.out).mono ?_
    rintro e w1 ⟨g1, cp1, rfl, hgl1, e1, hb1⟩
    have HB1 : Hid (Below W.heap.size W w1) := hb1
    clear hb1
    go_simp
    refine hK.out _ _ (HKP.out _ HB1.out) (fun hHeld => ?_)
    clear hK K
    try simp only [Act.put, List.setIfInBounds_toArray, List.set_cons_zero, List.set_cons_succ]
    refine wpAnyH_sub (S := fun w' => w'.cell? ⟨g1, oo, none⟩ = some (.string x1) ∧ w'.cell? ⟨w.heap.size, 2, none⟩ = some (.int .i64 oo) ∧ w'.cell? ⟨w.heap.size, 5, none⟩ = some (.slice p.ba ns.length p.bc) ∧ w'.cell? ⟨w.heap.size, 6, none⟩ = some (.int .i64 a)) (fun _ h => h.2) ?_
    clear hHeld
    have hHeld : w1.cell? ⟨g1, oo, none⟩ = some (.string x1) ∧ _ := ⟨e1, HKP.out _ HB1.out⟩
    refine takeH (i := 3) (d := 57) (v := ?v3_7) rfl rfl (by kernel_rfl) (by kernel_rfl) (by kernel_rfl) (fun _ _ _ h => h) (Or.inl ⟨by rfl, ?hy3_7⟩) hHeld ?rs3_7
    case hy3_7 =>
      intro w hSw
      go_simp
      try with_reducible rfl
    case rs3_7 =>
    try simp only [Act.put, List.setIfInBounds_toArray, List.set_cons_zero, List.set_cons_succ]
    refine takeH (i := 4) (d := 58) (v := ?v4_8) rfl rfl (by kernel_rfl) (by kernel_rfl) (by kernel_rfl) (fun _ _ _ h => h) (Or.inl ⟨by rfl, ?hy4_8⟩) hHeld ?rs4_8
    case hy4_8 =>
      intro w hSw
      go_simp
      try with_reducible rfl
    case rs4_8 =>
    try simp only [Act.put, List.setIfInBounds_toArray, List.set_cons_zero, List.set_cons_succ]
    refine takeH (i := 5) (d := 59) (v := ?v5_9) rfl rfl (by kernel_rfl) (by kernel_rfl) (by kernel_rfl) (fun _ _ _ h => h) (Or.inl ⟨by rfl, ?hy5_9⟩) hHeld ?rs5_9
    case hy5_9 =>
      intro w hSw
      go_simp
      try with_reducible rfl
    case rs5_9 =>
    try simp only [Act.put, List.setIfInBounds_toArray, List.set_cons_zero, List.set_cons_succ]
    refine wpAnyH_ready (rs := [8]) (by kernel_rfl) (by simp) ?_
    refine AllReadyH.cons (o := _) rfl (fun K hK => ?_) AllReadyH.nil
    go_simp
    refine (HJN.out _ HB1.out).mono ?_
    rintro e w2 ⟨rfl, hw2⟩
    subst hw2
    go_simp
    refine hK.out _ _ ⟨e1, HKP.out _ HB1.out⟩ (fun hHeld => ?_)
    clear hK K
    try simp only [Act.put, List.setIfInBounds_toArray, List.set_cons_zero, List.set_cons_succ]
    refine takeH (i := 9) (d := 63) (v := ?v9_10) rfl rfl (by kernel_rfl) (by kernel_rfl) (by kernel_rfl) (fun _ _ _ h => h) (Or.inl ⟨by rfl, ?hy9_10⟩) hHeld ?rs9_10
    case hy9_10 =>
      intro w hSw
      go_simp
      try with_reducible rfl
    case rs9_10 =>
    try simp only [Act.put, List.setIfInBounds_toArray, List.set_cons_zero, List.set_cons_succ]
    refine takeH (i := 10) (d := 64) (v := ?v10_11) rfl rfl (by kernel_rfl) (by kernel_rfl) (by kernel_rfl) (fun _ _ _ h => h) (Or.inl ⟨by rfl, ?hy10_11⟩) hHeld ?rs10_11
    case hy10_11 =>
      intro w hSw
      go_simp
      try with_reducible rfl
    case rs10_11 =>
    try simp only [Act.put, List.setIfInBounds_toArray, List.set_cons_zero, List.set_cons_succ]
    refine wpAnyH_ready (rs := [14]) (by kernel_rfl) (by simp) ?_
    refine AllReadyH.cons (o := _) rfl (fun K hK => ?_) AllReadyH.nil
    go_simp
    refine (HPR.out _ HB1.out).mono ?_
    rintro e w3 ⟨rfl, hb3⟩
    have e3 := (hb3.cell (p := ⟨g1, oo, none⟩) hgl1).trans e1
    have HB3 : Hid (Below W.heap.size W w3) := HB1.out.trans (hb3.mono HB1.out.size)
    clear hb3
    go_simp
    refine hK.out _ _ ⟨e3, HKP.out _ HB3.out⟩ (fun hHeld => ?_)
    clear hK K
    try simp only [Act.put, List.setIfInBounds_toArray, List.set_cons_zero, List.set_cons_succ]
    refine takeH (i := 15) (d := 69) (v := ?v15_12) rfl rfl (by kernel_rfl) (by kernel_rfl) (by kernel_rfl) (fun _ _ _ h => h) (Or.inl ⟨by rfl, ?hy15_12⟩) hHeld ?rs15_12
    case hy15_12 =>
      intro w hSw
      go_simp
      try with_reducible rfl
    case rs15_12 =>
    try simp only [Act.put, List.setIfInBounds_toArray, List.set_cons_zero, List.set_cons_succ]
    refine takeH (i := 16) (d := 70) (v := ?v16_13) rfl rfl (by kernel_rfl) (by kernel_rfl) (by kernel_rfl) (fun _ _ _ h => h) (Or.inl ⟨by rfl, ?hy16_13⟩) hHeld ?rs16_13
    case hy16_13 =>
      intro w hSw
      go_simp
      try with_reducible rfl
    case rs16_13 =>
    try simp only [Act.put, List.setIfInBounds_toArray, List.set_cons_zero, List.set_cons_succ]
    refine takeH (i := 17) (d := 8) (v := ?v17_14) rfl rfl (by kernel_rfl) (by kernel_rfl) (by kernel_rfl) (fun _ _ _ h => h) (Or.inl ⟨by rfl, ?hy17_14⟩) hHeld ?rs17_14
    case hy17_14 =>
      intro w hSw
      go_simp
      try with_reducible rfl
    case rs17_14 =>
    try simp only [Act.put, List.setIfInBounds_toArray, List.set_cons_zero, List.set_cons_succ]
    refine wpAnyH_done (by kernel_rfl) ?_ _
    go_wp2
    go_meet
    exact ⟨_, rfl, hid (by rw [HCS.out, ← HOO.out, bl_app, bl_app, bl_app, bl_app, bl_app, HX1.out, HR2.out, HR3.out]; rfl), HB3⟩
  case rest =>
  obtain ⟨rr, rfl, Hrr, HB⟩ := hcut
  have hzc := HB.out.size
  have HP2 : Hid (PAt wc w.heap.size p) := PAt.kept HP.out (HB.out.block _ (by omega))
  clear q0 q1 q2 q3 q4 q5 q6 q7
  obtain ⟨q0, q1, q2, q3, q4, q5, q6, q7⟩ := PAt.all HP2.out
  go_wp2_with fail
  refine (tight_any p nd _ HF.out.1 HF.out.2.2.1).mono ?_
  rintro e w2 ⟨rfl, hb2⟩
  have HB2 : Hid (Below w.heap.size w w2) := HBW.out.trans ((HB.out.trans (hb2.mono hzc)).mono (by omega))
  have hrs : rr.size ≤ 100000 := by rw [size_of_bl Hrr.out]; exact HCL.out
  clear hb2
  by_cases htm : (tightT nd : Int) < must
  · have HD : Hid (printT (.node x y nd l r) must = [40] ++ coreS nd (printT l) (printT r) ++ [41]) := hid (by rw [HPT.out, decide_eq_true (show tightT nd < must by omega)]; rfl)
    have z1 : (⟨#[40]⟩ ++ rr : ByteArray).size = 1 + rr.size := by rw [ByteArray.size_append]; rfl
    have a1 : ∀ W, (Op.stringOp .add ⟨#[40]⟩ rr).run Tryz.prog W = .ok (.string (⟨#[40]⟩ ++ rr)) W := fun W => run_string_add_sum W _ _ (by show 1 + rr.size ≤ _; omega)
    have a2 : ∀ W, (Op.stringOp .add (⟨#[40]⟩ ++ rr) ⟨#[41]⟩).run Tryz.prog W = .ok (.string ((⟨#[40]⟩ ++ rr) ++ ⟨#[41]⟩)) W := fun W => run_string_add_sum W _ _ (by rw [z1]; show _ + 1 ≤ _; omega)
    have HE : Hid (bl ((⟨#[40]⟩ ++ rr) ++ ⟨#[41]⟩) = printT (.node x y nd l r) must) := hid (by rw [HD.out, bl_app, bl_app, Hrr.out]; rfl)
    clear z1
    go_wp2
    go_ret
    exact ⟨_, rfl, by rw [size_of_bl HE.out]; exact HLN.out, HE, HB2.out⟩
  · have HD : Hid (printT (.node x y nd l r) must = coreS nd (printT l) (printT r)) := hid (by rw [HPT.out, decide_eq_false (show ¬ tightT nd < must by omega)]; rfl)
    go_wp2
    go_ret
    exact ⟨_, rfl, hrs, by rw [HD.out]; exact Hrr, HB2.out⟩
end Go.Proofs.YtmncdbepjhmkgaaGreatDoor

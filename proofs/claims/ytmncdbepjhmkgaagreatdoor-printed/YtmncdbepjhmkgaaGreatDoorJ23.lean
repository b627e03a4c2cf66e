/- Parts of the proof, joined: QPrWin -/
import Derived.Test.YtmncdbepjhmkgaaGreatDoorJ20
import Derived.Deep.RegionHeld3
import Derived.Deep.DrawnRows
/- A part, printed: windows. -/
namespace Go.Proofs.YtmncdbepjhmkgaaGreatDoor
open Go.RowKit LS
attribute [local go_sem ↓] Go.wp_at_zero Go.wp_at_succ

theorem takeH {P : Program} {md : Region.Mode} {ops : Array Oper} {Q : Exit → Act → World → Prop} {S : World → Prop} {i d : Nat} {oi : Oper} {v : Value} {fuel : Nat} {listed : Array Bool} {a : Act} {w : World} (hi : ops[i]? = some oi) (hd : oi.dst = some d)
    (hs : Region.noSelect ops = true) (hf : Region.free md ops listed i = true) (hr : (Region.ready md ops listed).contains i = true)
    (hQ : ∀ c a w, Q (.panic c) (a.put oi.dst v) w → Q (.panic c) a w) (hy : YieldsIf P ops S oi v a) (hS : S w)
    (h : wpAnyH P md ops Q S fuel (listed.setIfInBounds i true) { a with tmps := a.tmps.setIfInBounds d v } w) : wpAnyH P md ops Q S (fuel + 1) listed a w :=
  wpAnyH_take hi hs hf hr hQ hy hS (by rw [hd]; exact h)
theorem wpAnyH_sub {P : Program} {md : Region.Mode} {ops : Array Oper} {Q : Exit → Act → World → Prop} {S S' : World → Prop} (hS : ∀ w, S w → S' w) : ∀ {fuel : Nat} {listed : Array Bool} {a : Act} {w : World}, wpAnyH P md ops Q S fuel listed a w → wpAnyH P md ops Q S' fuel listed a w
  | 0, _, _, _, h => h
  | _ + 1, _, _, _, h => ⟨h.1, fun i hi => wpOp_mono (fun _ _ h' => ⟨hS _ h'.1, wpAnyH_sub hS h'.2⟩) (h.2 i hi)⟩
set_option linter.unusedSimpArgs false in
set_option maxRecDepth 100000 in
set_option maxHeartbeats 8000000 in
theorem pr_win {b : Nat} {pv : Value} {n : Nat} {xs : List Value} {x y : Nat} {nd : Nd} {l r : Tr} (hwf : wfT (.node x y nd l r)) (hwt : wT (.node x y nd l r) ≤ 100000) (ihl : isNil l = false → PrC b pv n xs l) (ihr : isNil r = false → PrC b pv n xs r) (hk : nd.kind = 2) : PrC b pv n xs (.node x y nd l r) := by
  intro i must w hrow hrep hmust
  obtain ⟨g, cp, p, a, c, rfl, hgl, hi, hp, ha, hc, hrl, hrr, c0, c1, c2, c3, c4, c5, c6, c7⟩ := Rep.at hrow.own hrep
  have hcell := hrow.cell
  obtain ⟨W, hW⟩ : ∃ W, W = w.alloc (.cells #[.int .i64 p.k, .int .i64 p.n, .int .i64 p.op, .string p.nm, .slice p.ca p.cn p.cc, .slice p.ba p.bn p.bc, .int .i64 p.a, .int .i64 p.b] 80) := ⟨_, rfl⟩
  have hbW : Below w.heap.size w W := by rw [hW]; exact (Below.refl _ _).alloc (Nat.le_refl _) _
  have hzW : W.heap.size = w.heap.size + 1 := by rw [hW, Go.Deep.nblk_alloc]
  have HW : Hid (W = w.alloc (.cells #[.int .i64 p.k, .int .i64 p.n, .int .i64 p.op, .string p.nm, .slice p.ca p.cn p.cc, .slice p.ba p.bn p.bc, .int .i64 p.a, .int .i64 p.b] 80)) := hW
  have HP : Hid (PAt W w.heap.size p) := hid (by rw [hW]; exact Go.Deep.blk_alloc_new _ _)
  have HRW : Hid (RowAt W b (.slice (some ⟨g, 0, none⟩) n cp) n xs) := hrow.below hbW
  have HL : Hid (Rep W xs l a) := Rep.below hbW l a hrl
  have HR : Hid (Rep W xs r c) := Rep.below hbW r c hrr
  have HC : Hid (CondsAre W 0 p nd.conds) := hp.2.2.2.2.1.below hbW
  have HN : Hid (NamesAre W 0 p nd.by_) := hp.2.2.2.2.2.below hbW
  have HBW : Hid (Below w.heap.size w W) := hbW
  have HWF : Hid (wfT (.node x y nd l r)) := hwf
  have hlen := printT_len (.node x y nd l r) must hwf
  have HF : Hid (p.k = nd.kind ∧ p.n = nd.n ∧ p.op = nd.op ∧ bl p.nm = nd.name ∧ p.a = a ∧ p.b = c) := ⟨hp.1, hp.2.1, hp.2.2.1, hp.2.2.2.1, ha, hc⟩
  have hwt2 : ownW nd + wT l + wT r ≤ 100000 := hwt
  have HIL : Hid (isNil l = false → PrC b (.slice (some ⟨g, 0, none⟩) n cp) n xs l) := ihl
  have HIR : Hid (isNil r = false → PrC b (.slice (some ⟨g, 0, none⟩) n cp) n xs r) := ihr
  have HPT : Hid (printT (.node x y nd l r) must = wrapS (decide (tightT nd < must)) (coreS nd (printT l) (printT r))) := rfl
  have HCL : Hid ((coreS nd (printT l) (printT r)).length ≤ 100000) := hid (by
    have := coreS_len hwf.2.2.2.2.2.1 (pl := printT l) (pr := printT r) (x := wT l) (y := wT r) (fun m => printT_len l m hwf.2.2.2.2.2.2.2.2.2.2.1) (fun m => printT_len r m hwf.2.2.2.2.2.2.2.2.2.2.2)
    omega)
  have HLN : Hid ((printT (.node x y nd l r) must).length ≤ 100000) := hid (Nat.le_trans hlen hwt)
  have hk6 : nd.kind ≤ 6 := hwf.1
  clear hp hrow hrep hW hbW hrl hrr hwf ihl ihr ha hc hlen hwt
  obtain ⟨q0, q1, q2, q3, q4, q5, q6, q7⟩ := PAt.all HP.out
  go_enter Tryz.func13, Tryz.ntmps13
  go_upto_block 0 with fail
  rw [← HW.out]
  clear c0 c1 c2 c3 c4 c5 c6 c7 hcell HW
  go_cut [8] from 9 to 107 (fun s8 wx => ∃ rr : ByteArray, s8 = .string rr ∧ Hid (bl rr = coreS nd (printT l) (printT r)) ∧ Hid (Below W.heap.size W wx))
  case first =>
    have hbd : Below W.heap.size W W.drew := (Below.refl _ _).drew
    have HRWd : Hid (RowAt W.drew b (.slice (some ⟨g, 0, none⟩) n cp) n xs) := HRW.out.below hbd
    have HLd : Hid (Rep W.drew xs l a) := Rep.below hbd l a HL.out
    have HRd : Hid (Rep W.drew xs r c) := Rep.below hbd r c HR.out
    clear hbd
    have hk3 : p.k = 2 := by rw [HF.out.1, hk]; rfl
    have hop4 : nd.op ≤ 4 := HWF.out.2.1
    obtain ⟨m, hm⟩ : ∃ m : Nat, m = nd.n.toNat := ⟨_, rfl⟩
    have HCS : Hid (coreS nd (printT l) (printT r) = overWords.getD nd.op [] ++ [40] ++ selS nd ++ [91] ++ decS m ++ [93, 41]) := hid (by unfold coreS; rw [if_neg (by omega), if_neg (by omega), if_pos hk, hm])
    have hn0 : p.n = (m : Int) := by rw [HF.out.2.1, hm]; have := HWF.out.2.2.2.2.1; omega
    have HN1 : Hid (m ≤ 1000000000) := hid (by have := HWF.out.2.2.2.2.2.1; omega)
    have HSZ : Hid (nd.name.length + cw nd.conds ≤ 200000) := hid (by unfold ownW at hwt2; omega)
    have hbd : Below W.heap.size W W.drew := (Below.refl _ _).drew
    have HCd : Hid (CondsAre W.drew 0 p nd.conds) := HC.out.below hbd
    have HPd : Hid (PAt W.drew w.heap.size p) := HP
    have HOP : Hid (p.op = nd.op) := HF.out.2.2.1
    have HNM : Hid (bl p.nm = nd.name) := HF.out.2.2.2.1
    rw [HOP.out] at q2
    rw [hn0] at q1
    have HN0 : Hid (p.n = (m : Int)) := hn0
    rw [hk3] at q0
    have HK3 : Hid (p.k = 2) := hk3
    clear hk hm hn0 hbd
    obtain ⟨oo, hoo⟩ : ∃ oo : Nat, oo = nd.op := ⟨_, rfl⟩
    rw [← hoo] at q2 hop4
    have HOO : Hid (oo = nd.op) := hoo
    clear hoo
    obtain ⟨x1, hx1⟩ : ∃ x1 : ByteArray, x1 = ⟨(overWords.getD oo []).toArray⟩ := ⟨_, rfl⟩
    obtain ⟨r2, hr2⟩ : ∃ r2 : ByteArray, r2 = ⟨(selS nd).toArray⟩ := ⟨_, rfl⟩
    obtain ⟨r3, hr3⟩ : ∃ r3 : ByteArray, r3 = ⟨(decS m).toArray⟩ := ⟨_, rfl⟩
    have HX1 : Hid (bl x1 = overWords.getD oo []) := hid (by rw [hx1, bl_mk])
    have HR2 : Hid (bl r2 = selS nd) := hid (by rw [hr2, bl_mk])
    have HR3 : Hid (bl r3 = decS m) := hid (by rw [hr3, bl_mk])
    have z1 : x1.size ≤ 5 := by rw [size_of_bl HX1.out]; exact getD_len overWords (by decide) oo
    have z2 : r2.size ≤ 200002 := by rw [size_of_bl HR2.out]; have := selS_len nd; have := HSZ.out; omega
    have z3 : r3.size ≤ 10 := by rw [size_of_bl HR3.out]; exact decS_len 9 _ (by have := HN1.out; have : (10 : Nat) ^ 10 = 10000000000 := by decide
                                                                                 omega)
    clear hx1 hr2 hr3
    have HSPL : Hid (∀ w', Below W.heap.size W w' → Calls Tryz.prog 30 #[.string ⟨#[116, 111, 116, 97, 108, 32, 112, 101, 97, 107, 32, 108, 111, 119, 32, 115, 105, 122, 101, 32, 114, 105, 115, 101]⟩, .int .u8 32] w' fun e w'' => ∃ g1 cp1, e = .returned (.slice (some ⟨g1, 0, none⟩) 5 cp1) ∧ g1 < w''.heap.size ∧ w''.cell? ⟨g1, oo, none⟩ = some (.string x1) ∧ Below W.heap.size W w'') := hid (by
      intro w' hw'
      refine (rSplit_of _ 32 _ _ rfl (by decide)).mono ?_
      rintro e w1 ⟨g1, n1, cp1, bs, rfl, hn1, hg0, hgl1, hcells, hsp, hb1⟩
      rw [overs_split] at hsp
      have hlen1 : n1 = 5 := by rw [hn1, ← List.length_map (f := bl), hsp.out]; rfl
      have hob : oo < bs.length := by omega
      have e1 := hcells.out oo hob
      rw [show bs[oo] = x1 from bl_inj ((map_bl_get hsp.out oo hob).trans HX1.out.symm)] at e1
      exact ⟨g1, cp1, by rw [hlen1], hgl1, e1, hw'.trans (hb1.mono hw'.size)⟩)
    have HSEL : Hid (∀ w', Below W.heap.size W w' → Calls Tryz.prog 29 #[.agg #[.int .i64 2, .int .i64 m, .int .i64 oo, .string p.nm, .slice p.ca p.cn p.cc, .slice p.ba p.bn p.bc, .int .i64 p.a, .int .i64 p.b]] w' fun e w'' => e = .returned (.string r2) ∧ Below w'.heap.size w' w'') := hid (by
      intro w' hw'
      have hsel := selText_any w' p nd HNM.out (HC.out.below hw') HSZ.out
      rw [HK3.out, HN0.out, HOP.out, ← HOO.out] at hsel
      refine hsel.mono ?_
      rintro e w2 ⟨q2, rfl, _, hq2, hb2⟩
      exact ⟨by rw [bl_inj (hq2.out.trans HR2.out.symm)], hb2⟩)
    have HDEC : Hid (∀ w', Calls Tryz.prog 28 #[.int .i64 m] w' fun e w'' => e = .returned (.string r3) ∧ Below w'.heap.size w' w'') := hid (by
      intro w'
      refine (decimal_any m w' HN1.out).mono ?_
      rintro e w3 ⟨q3, rfl, _, hq3, hb3⟩
      exact ⟨by rw [bl_inj (hq3.out.trans HR3.out.symm)], hb3⟩)
    have HKP : Hid (∀ w', Below W.heap.size W w' → w'.cell? ⟨w.heap.size, 0, none⟩ = some (.int .i64 2) ∧ w'.cell? ⟨w.heap.size, 1, none⟩ = some (.int .i64 m) ∧ w'.cell? ⟨w.heap.size, 2, none⟩ = some (.int .i64 oo) ∧ w'.cell? ⟨w.heap.size, 3, none⟩ = some (.string p.nm) ∧ w'.cell? ⟨w.heap.size, 4, none⟩ = some (.slice p.ca p.cn p.cc) ∧ w'.cell? ⟨w.heap.size, 5, none⟩ = some (.slice p.ba p.bn p.bc) ∧ w'.cell? ⟨w.heap.size, 6, none⟩ = some (.int .i64 p.a) ∧ w'.cell? ⟨w.heap.size, 7, none⟩ = some (.int .i64 p.b)) := hid (by
      intro w' hw'
      obtain ⟨k0, k1, k2, k3, k4, k5, k6, k7⟩ := PAt.all (PAt.kept HP.out (hw'.block _ (PAt.lt HP.out)))
      rw [HK3.out] at k0
      rw [HN0.out] at k1
      rw [HOP.out, ← HOO.out] at k2
      exact ⟨k0, k1, k2, k3, k4, k5, k6, k7⟩)
    have HBd : Hid (Below W.heap.size W W.drew) := hid ((Below.refl _ _).drew)
    have hop5 : (oo : Int) < 5 := by omega
    have hop0 : (0 : Int) ≤ (oo : Int) := by omega
    have a1 : ∀ W, (Op.stringOp .add x1 ⟨#[40]⟩).run Tryz.prog W = .ok (.string (x1 ++ ⟨#[40]⟩)) W := fun W => run_string_add_sum W _ _ (by show x1.size + 1 ≤ _; omega)
    have y1 : (x1 ++ ⟨#[40]⟩ : ByteArray).size = x1.size + 1 := by rw [ByteArray.size_append]; rfl
    have y2 : ((x1 ++ ⟨#[40]⟩) ++ r2 : ByteArray).size = x1.size + 1 + r2.size := by rw [ByteArray.size_append, y1]
    have y3 : (((x1 ++ ⟨#[40]⟩) ++ r2) ++ ⟨#[91]⟩ : ByteArray).size = x1.size + 1 + r2.size + 1 := by rw [ByteArray.size_append, y2]; rfl
    have y4 : ((((x1 ++ ⟨#[40]⟩) ++ r2) ++ ⟨#[91]⟩) ++ r3 : ByteArray).size = x1.size + 1 + r2.size + 1 + r3.size := by rw [ByteArray.size_append, y3]
    have a2 : ∀ W, (Op.stringOp .add (x1 ++ ⟨#[40]⟩) r2).run Tryz.prog W = .ok (.string ((x1 ++ ⟨#[40]⟩) ++ r2)) W := fun W => run_string_add_sum W _ _ (by omega)
    have a3 : ∀ W, (Op.stringOp .add ((x1 ++ ⟨#[40]⟩) ++ r2) ⟨#[91]⟩).run Tryz.prog W = .ok (.string (((x1 ++ ⟨#[40]⟩) ++ r2) ++ ⟨#[91]⟩)) W := fun W => run_string_add_sum W _ _ (by rw [y2]; show _ + 1 ≤ _; omega)
    have a4 : ∀ W, (Op.stringOp .add (((x1 ++ ⟨#[40]⟩) ++ r2) ++ ⟨#[91]⟩) r3).run Tryz.prog W = .ok (.string ((((x1 ++ ⟨#[40]⟩) ++ r2) ++ ⟨#[91]⟩) ++ r3)) W := fun W => run_string_add_sum W _ _ (by omega)
    have a5 : ∀ W, (Op.stringOp .add ((((x1 ++ ⟨#[40]⟩) ++ r2) ++ ⟨#[91]⟩) ++ r3) ⟨#[93, 41]⟩).run Tryz.prog W = .ok (.string (((((x1 ++ ⟨#[40]⟩) ++ r2) ++ ⟨#[91]⟩) ++ r3) ++ ⟨#[93, 41]⟩)) W := fun W => run_string_add_sum W _ _ (by rw [y4]; show _ + 2 ≤ _; omega)
    clear y1 y2 y3 y4 z1 z2 z3 HRWd HLd HRd HCd HPd HIL HIR
    go_upto_region 9 with fail
    refine wp_region_held_drew (S := fun w' => w'.cell? ⟨w.heap.size, 0, none⟩ = some (.int .i64 2) ∧ w'.cell? ⟨w.heap.size, 1, none⟩ = some (.int .i64 m) ∧ w'.cell? ⟨w.heap.size, 2, none⟩ = some (.int .i64 oo) ∧ w'.cell? ⟨w.heap.size, 3, none⟩ = some (.string p.nm) ∧ w'.cell? ⟨w.heap.size, 4, none⟩ = some (.slice p.ca p.cn p.cc) ∧ w'.cell? ⟨w.heap.size, 5, none⟩ = some (.slice p.ba p.bn p.bc) ∧ w'.cell? ⟨w.heap.size, 6, none⟩ = some (.int .i64 p.a) ∧ w'.cell? ⟨w.heap.size, 7, none⟩ = some (.int .i64 p.b)) (by kernel_rfl) (HKP.out _ HBd.out) (fun hHeld => ?_)
    refine takeH (i := 1) (d := 31) (v := ?v1_0) rfl rfl (by kernel_rfl) (by kernel_rfl) (by kernel_rfl) (fun _ _ _ h => h) (Or.inl ⟨by rfl, ?hy1_0⟩) hHeld ?rs1_0
    case hy1_0 =>
      intro w hSw
      go_simp
      try with_reducible rfl
    case rs1_0 =>
    try simp only [Act.put, List.setIfInBounds_toArray, List.set_cons_zero, List.set_cons_succ]
    refine takeH (i := 2) (d := 32) (v := ?v2_1) rfl rfl (by kernel_rfl) (by kernel_rfl) (by kernel_rfl) (fun _ _ _ h => h) (Or.inl ⟨by rfl, ?hy2_1⟩) hHeld ?rs2_1
    case hy2_1 =>
      intro w hSw
      go_simp
      try with_reducible rfl
    case rs2_1 =>
    try simp only [Act.put, List.setIfInBounds_toArray, List.set_cons_zero, List.set_cons_succ]
    refine takeH (i := 6) (d := 36) (v := ?v6_2) rfl rfl (by kernel_rfl) (by kernel_rfl) (by kernel_rfl) (fun _ _ _ h => h) (Or.inl ⟨by rfl, ?hy6_2⟩) hHeld ?rs6_2
    case hy6_2 =>
      intro w hSw
      go_simp
      try with_reducible rfl
    case rs6_2 =>
    try simp only [Act.put, List.setIfInBounds_toArray, List.set_cons_zero, List.set_cons_succ]
    refine takeH (i := 10) (d := 40) (v := ?v10_3) rfl rfl (by kernel_rfl) (by kernel_rfl) (by kernel_rfl) (fun _ _ _ h => h) (Or.inl ⟨by rfl, ?hy10_3⟩) hHeld ?rs10_3
    case hy10_3 =>
      intro w hSw
      go_simp
      try with_reducible rfl
    case rs10_3 =>
    try simp only [Act.put, List.setIfInBounds_toArray, List.set_cons_zero, List.set_cons_succ]
    refine takeH (i := 11) (d := 41) (v := ?v11_4) rfl rfl (by kernel_rfl) (by kernel_rfl) (by kernel_rfl) (fun _ _ _ h => h) (Or.inl ⟨by rfl, ?hy11_4⟩) hHeld ?rs11_4
    case hy11_4 =>
      intro w hSw
      go_simp
      try with_reducible rfl
    case rs11_4 =>
    try simp only [Act.put, List.setIfInBounds_toArray, List.set_cons_zero, List.set_cons_succ]
    refine wpAnyH_ready (rs := [0]) (by kernel_rfl) (by simp) ?_
    refine AllReadyH.cons (o := _) rfl (fun K hK => ?_) AllReadyH.nil
    go_simp
    refine (HSPL.out _ HBd.out).mono ?_
    rintro e w1 ⟨g1, cp1, rfl, hgl1, e1, hb1⟩
    have HB1 : Hid (Below W.heap.size W w1) := hb1
    clear hb1
    go_simp
    refine hK.out _ _ (HKP.out _ HB1.out) (fun hHeld => ?_)
    clear hK K
    try simp only [Act.put, List.setIfInBounds_toArray, List.set_cons_zero, List.set_cons_succ]
    refine wpAnyH_sub (S := fun w' => w'.cell? ⟨g1, oo, none⟩ = some (.string x1) ∧ w'.cell? ⟨w.heap.size, 0, none⟩ = some (.int .i64 2) ∧ w'.cell? ⟨w.heap.size, 1, none⟩ = some (.int .i64 m) ∧ w'.cell? ⟨w.heap.size, 2, none⟩ = some (.int .i64 oo) ∧ w'.cell? ⟨w.heap.size, 3, none⟩ = some (.string p.nm) ∧ w'.cell? ⟨w.heap.size, 4, none⟩ = some (.slice p.ca p.cn p.cc) ∧ w'.cell? ⟨w.heap.size, 5, none⟩ = some (.slice p.ba p.bn p.bc) ∧ w'.cell? ⟨w.heap.size, 6, none⟩ = some (.int .i64 p.a) ∧ w'.cell? ⟨w.heap.size, 7, none⟩ = some (.int .i64 p.b)) (fun _ h => h.2) ?_
    clear hHeld
    have hHeld : w1.cell? ⟨g1, oo, none⟩ = some (.string x1) ∧ _ := ⟨e1, HKP.out _ HB1.out⟩
    refine takeH (i := 3) (d := 33) (v := ?v3_5) rfl rfl (by kernel_rfl) (by kernel_rfl) (by kernel_rfl) (fun _ _ _ h => h) (Or.inl ⟨by rfl, ?hy3_5⟩) hHeld ?rs3_5
    case hy3_5 =>
      intro w hSw
      go_simp
      try with_reducible rfl
    case rs3_5 =>
    try simp only [Act.put, List.setIfInBounds_toArray, List.set_cons_zero, List.set_cons_succ]
    refine takeH (i := 4) (d := 34) (v := ?v4_6) rfl rfl (by kernel_rfl) (by kernel_rfl) (by kernel_rfl) (fun _ _ _ h => h) (Or.inl ⟨by rfl, ?hy4_6⟩) hHeld ?rs4_6
    case hy4_6 =>
      intro w hSw
      go_simp
      try with_reducible rfl
    case rs4_6 =>
    try simp only [Act.put, List.setIfInBounds_toArray, List.set_cons_zero, List.set_cons_succ]
    refine takeH (i := 5) (d := 35) (v := ?v5_7) rfl rfl (by kernel_rfl) (by kernel_rfl) (by kernel_rfl) (fun _ _ _ h => h) (Or.inl ⟨by rfl, ?hy5_7⟩) hHeld ?rs5_7
    case hy5_7 =>
      intro w hSw
      go_simp
      try with_reducible rfl
    case rs5_7 =>
    try simp only [Act.put, List.setIfInBounds_toArray, List.set_cons_zero, List.set_cons_succ]
    refine wpAnyH_ready (rs := [7]) (by kernel_rfl) (by simp) ?_
    refine AllReadyH.cons (o := _) rfl (fun K hK => ?_) AllReadyH.nil
    go_simp
    refine (HSEL.out _ HB1.out).mono ?_
    rintro e w2 ⟨rfl, hb2⟩
    have e2 : w2.cell? ⟨g1, oo, none⟩ = some (.string x1) := (hb2.cell (p := ⟨g1, oo, none⟩) hgl1).trans e1
    have hgl2 : g1 < w2.heap.size := Nat.lt_of_lt_of_le hgl1 hb2.size
    have HB2 : Hid (Below W.heap.size W w2) := HB1.out.trans (hb2.mono HB1.out.size)
    clear hb2
    go_simp
    refine hK.out _ _ ⟨e2, HKP.out _ HB2.out⟩ (fun hHeld => ?_)
    clear hK K
    try simp only [Act.put, List.setIfInBounds_toArray, List.set_cons_zero, List.set_cons_succ]
    refine takeH (i := 8) (d := 38) (v := ?v8_8) rfl rfl (by kernel_rfl) (by kernel_rfl) (by kernel_rfl) (fun _ _ _ h => h) (Or.inl ⟨by rfl, ?hy8_8⟩) hHeld ?rs8_8
    case hy8_8 =>
      intro w hSw
      go_simp
      try with_reducible rfl
    case rs8_8 =>
    try simp only [Act.put, List.setIfInBounds_toArray, List.set_cons_zero, List.set_cons_succ]
    refine takeH (i := 9) (d := 39) (v := ?v9_9) rfl rfl (by kernel_rfl) (by kernel_rfl) (by kernel_rfl) (fun _ _ _ h => h) (Or.inl ⟨by rfl, ?hy9_9⟩) hHeld ?rs9_9
    case hy9_9 =>
      intro w hSw
      go_simp
      try with_reducible rfl
    case rs9_9 =>
    try simp only [Act.put, List.setIfInBounds_toArray, List.set_cons_zero, List.set_cons_succ]
    refine wpAnyH_ready (rs := [12]) (by kernel_rfl) (by simp) ?_
    refine AllReadyH.cons (o := _) rfl (fun K hK => ?_) AllReadyH.nil
    go_simp
    refine (HDEC.out _).mono ?_
    rintro e w3 ⟨rfl, hb3⟩
    have e3 : w3.cell? ⟨g1, oo, none⟩ = some (.string x1) := (hb3.cell (p := ⟨g1, oo, none⟩) hgl2).trans e2
    have HB3 : Hid (Below W.heap.size W w3) := HB2.out.trans (hb3.mono HB2.out.size)
    clear hb3
    go_simp
    refine hK.out _ _ ⟨e3, HKP.out _ HB3.out⟩ (fun hHeld => ?_)
    clear hK K
    try simp only [Act.put, List.setIfInBounds_toArray, List.set_cons_zero, List.set_cons_succ]
    refine takeH (i := 13) (d := 43) (v := ?v13_10) rfl rfl (by kernel_rfl) (by kernel_rfl) (by kernel_rfl) (fun _ _ _ h => h) (Or.inl ⟨by rfl, ?hy13_10⟩) hHeld ?rs13_10
    case hy13_10 =>
      intro w hSw
      go_simp
      try with_reducible rfl
    case rs13_10 =>
    try simp only [Act.put, List.setIfInBounds_toArray, List.set_cons_zero, List.set_cons_succ]
    refine takeH (i := 14) (d := 44) (v := ?v14_11) rfl rfl (by kernel_rfl) (by kernel_rfl) (by kernel_rfl) (fun _ _ _ h => h) (Or.inl ⟨by rfl, ?hy14_11⟩) hHeld ?rs14_11
    case hy14_11 =>
      intro w hSw
      go_simp
      try with_reducible rfl
    case rs14_11 =>
    try simp only [Act.put, List.setIfInBounds_toArray, List.set_cons_zero, List.set_cons_succ]
    refine takeH (i := 15) (d := 8) (v := ?v15_12) rfl rfl (by kernel_rfl) (by kernel_rfl) (by kernel_rfl) (fun _ _ _ h => h) (Or.inl ⟨by rfl, ?hy15_12⟩) hHeld ?rs15_12
    case hy15_12 =>
      intro w hSw
      go_simp
      try with_reducible rfl
    case rs15_12 =>
    try simp only [Act.put, List.setIfInBounds_toArray, List.set_cons_zero, List.set_cons_succ]
    refine wpAnyH_done (by kernel_rfl) ?_ _
    go_wp2
    go_meet
    exact ⟨_, rfl, hid (by rw [HCS.out, ← HOO.out, bl_app, bl_app, bl_app, bl_app, bl_app, HX1.out, HR2.out, HR3.out]; rfl), HB3⟩
  case rest =>
  obtain ⟨rr, rfl, Hrr, HB⟩ := hcut
  have hzc := HB.out.size
  have HP2 : Hid (PAt wc w.heap.size p) := PAt.kept HP.out (HB.out.block _ (by omega))
  clear q0 q1 q2 q3 q4 q5 q6 q7
  obtain ⟨q0, q1, q2, q3, q4, q5, q6, q7⟩ := PAt.all HP2.out
  go_wp2_with fail
  refine (tight_any p nd _ HF.out.1 HF.out.2.2.1).mono ?_
  rintro e w2 ⟨rfl, hb2⟩
  have HB2 : Hid (Below w.heap.size w w2) := HBW.out.trans ((HB.out.trans (hb2.mono hzc)).mono (by omega))
  have hrs : rr.size ≤ 100000 := by rw [size_of_bl Hrr.out]; exact HCL.out
  clear hb2
  by_cases htm : (tightT nd : Int) < must
  · have HD : Hid (printT (.node x y nd l r) must = [40] ++ coreS nd (printT l) (printT r) ++ [41]) := hid (by rw [HPT.out, decide_eq_true (show tightT nd < must by omega)]; rfl)
    have z1 : (⟨#[40]⟩ ++ rr : ByteArray).size = 1 + rr.size := by rw [ByteArray.size_append]; rfl
    have a1 : ∀ W, (Op.stringOp .add ⟨#[40]⟩ rr).run Tryz.prog W = .ok (.string (⟨#[40]⟩ ++ rr)) W := fun W => run_string_add_sum W _ _ (by show 1 + rr.size ≤ _; omega)
    have a2 : ∀ W, (Op.stringOp .add (⟨#[40]⟩ ++ rr) ⟨#[41]⟩).run Tryz.prog W = .ok (.string ((⟨#[40]⟩ ++ rr) ++ ⟨#[41]⟩)) W := fun W => run_string_add_sum W _ _ (by rw [z1]; show _ + 1 ≤ _; omega)
    have HE : Hid (bl ((⟨#[40]⟩ ++ rr) ++ ⟨#[41]⟩) = printT (.node x y nd l r) must) := hid (by rw [HD.out, bl_app, bl_app, Hrr.out]; rfl)
    clear z1
    go_wp2
    go_ret
    exact ⟨_, rfl, by rw [size_of_bl HE.out]; exact HLN.out, HE, HB2.out⟩
  · have HD : Hid (printT (.node x y nd l r) must = coreS nd (printT l) (printT r)) := hid (by rw [HPT.out, decide_eq_false (show ¬ tightT nd < must by omega)]; rfl)
    go_wp2
    go_ret
    exact ⟨_, rfl, hrs, by rw [HD.out]; exact Hrr, HB2.out⟩
end Go.Proofs.YtmncdbepjhmkgaaGreatDoor

/- Parts of the proof, joined: QPrA -/
import Derived.Test.YtmncdbepjhmkgaaGreatDoorJ19
import Derived.Test.YtmncdbepjhmkgaaGreatDoorJ18
import Derived.Test.YtmncdbepjhmkgaaGreatDoorJ09
import Derived.Deep.CutBlock
/- A part, printed: the document's own way: numbers, selectors, negatives. -/
namespace Go.Proofs.YtmncdbepjhmkgaaGreatDoor
open Go.RowKit LS

theorem NamesAre.zero {w : World} {p : PV} {ns : List (List UInt8)} (h : NamesAre w 0 p ns) : ∃ bs : List ByteArray, p.bn = bs.length ∧ w.ownsRow 0 9 1 (.slice p.ba bs.length p.bc) bs.length (bs.map .string) ∧ bs.map bl = ns := by
  obtain ⟨bs, h1, h2⟩ := h
  obtain ⟨av, cp, hv⟩ := own_shape h1
  injection hv with _ hv _
  exact ⟨bs, hv, by rw [← hv]; rw [← hv] at h1; exact h1, h2⟩
/-- what a printing call hands back. -/
def PrC (b : Nat) (pv : Value) (n : Nat) (xs : List Value) (t : Tr) : Prop := ∀ (i must : Nat) (w : World), RowAt w b pv n xs → Rep w xs t i → must ≤ 5 →
    Calls Tryz.prog 13 #[.pointer (some ⟨b, 0, none⟩), .int .i64 i, .int .i64 must] w fun e w' => ∃ r : ByteArray, e = .returned (.string r) ∧ r.size ≤ 100000 ∧ Hid (bl r = printT t must) ∧ Below w.heap.size w w'
theorem tightT_le (a : Nd) : tightT a ≤ 4 := by unfold tightT; split <;> (try split) <;> (try split) <;> omega
set_option maxRecDepth 100000 in
set_option maxHeartbeats 4000000 in
theorem pr_num {b : Nat} {pv : Value} {n : Nat} {xs : List Value} {x y : Nat} {nd : Nd} {l r : Tr} (hwf : wfT (.node x y nd l r)) (hwt : wT (.node x y nd l r) ≤ 100000) (ihl : isNil l = false → PrC b pv n xs l) (ihr : isNil r = false → PrC b pv n xs r) (hk : nd.kind = 0) : PrC b pv n xs (.node x y nd l r) := by
  intro i must w hrow hrep hmust
  obtain ⟨g, cp, p, a, c, rfl, hgl, hi, hp, ha, hc, hrl, hrr, c0, c1, c2, c3, c4, c5, c6, c7⟩ := Rep.at hrow.own hrep
  have hcell := hrow.cell
  obtain ⟨W, hW⟩ : ∃ W, W = w.alloc (.cells #[.int .i64 p.k, .int .i64 p.n, .int .i64 p.op, .string p.nm, .slice p.ca p.cn p.cc, .slice p.ba p.bn p.bc, .int .i64 p.a, .int .i64 p.b] 80) := ⟨_, rfl⟩
  have hbW : Below w.heap.size w W := by rw [hW]; exact (Below.refl _ _).alloc (Nat.le_refl _) _
  have hzW : W.heap.size = w.heap.size + 1 := by rw [hW, Go.Deep.nblk_alloc]
  have HW : Hid (W = w.alloc (.cells #[.int .i64 p.k, .int .i64 p.n, .int .i64 p.op, .string p.nm, .slice p.ca p.cn p.cc, .slice p.ba p.bn p.bc, .int .i64 p.a, .int .i64 p.b] 80)) := hW
  have HP : Hid (PAt W w.heap.size p) := hid (by rw [hW]; exact Go.Deep.blk_alloc_new _ _)
  have HRW : Hid (RowAt W b (.slice (some ⟨g, 0, none⟩) n cp) n xs) := hrow.below hbW
  have HL : Hid (Rep W xs l a) := Rep.below hbW l a hrl
  have HR : Hid (Rep W xs r c) := Rep.below hbW r c hrr
  have HC : Hid (CondsAre W 0 p nd.conds) := hp.2.2.2.2.1.below hbW
  have HN : Hid (NamesAre W 0 p nd.by_) := hp.2.2.2.2.2.below hbW
  have HBW : Hid (Below w.heap.size w W) := hbW
  have HWF : Hid (wfT (.node x y nd l r)) := hwf
  have hlen := printT_len (.node x y nd l r) must hwf
  have HF : Hid (p.k = nd.kind ∧ p.n = nd.n ∧ p.op = nd.op ∧ bl p.nm = nd.name ∧ p.a = a ∧ p.b = c) := ⟨hp.1, hp.2.1, hp.2.2.1, hp.2.2.2.1, ha, hc⟩
  have hwt2 : ownW nd + wT l + wT r ≤ 100000 := hwt
  have HIL : Hid (isNil l = false → PrC b (.slice (some ⟨g, 0, none⟩) n cp) n xs l) := ihl
  have HIR : Hid (isNil r = false → PrC b (.slice (some ⟨g, 0, none⟩) n cp) n xs r) := ihr
  have HPT : Hid (printT (.node x y nd l r) must = wrapS (decide (tightT nd < must)) (coreS nd (printT l) (printT r))) := rfl
  have HCL : Hid ((coreS nd (printT l) (printT r)).length ≤ 100000) := hid (by
    have := coreS_len hwf.2.2.2.2.2.1 (pl := printT l) (pr := printT r) (x := wT l) (y := wT r) (fun m => printT_len l m hwf.2.2.2.2.2.2.2.2.2.2.1) (fun m => printT_len r m hwf.2.2.2.2.2.2.2.2.2.2.2)
    omega)
  have HLN : Hid ((printT (.node x y nd l r) must).length ≤ 100000) := hid (Nat.le_trans hlen hwt)
  have hk6 : nd.kind ≤ 6 := hwf.1
  clear hp hrow hrep hW hbW hrl hrr hwf ihl ihr ha hc hlen hwt
  obtain ⟨q0, q1, q2, q3, q4, q5, q6, q7⟩ := PAt.all HP.out
  go_enter Tryz.func13, Tryz.ntmps13
  go_upto_block 0 with fail
  rw [← HW.out]
  clear c0 c1 c2 c3 c4 c5 c6 c7 hcell HW
  go_cut [8] from 9 to 107 (fun s8 wx => ∃ rr : ByteArray, s8 = .string rr ∧ Hid (bl rr = coreS nd (printT l) (printT r)) ∧ Hid (Below W.heap.size W wx))
  case first =>
    have hbd : Below W.heap.size W W.drew := (Below.refl _ _).drew
    have HRWd : Hid (RowAt W.drew b (.slice (some ⟨g, 0, none⟩) n cp) n xs) := HRW.out.below hbd
    have HLd : Hid (Rep W.drew xs l a) := Rep.below hbd l a HL.out
    have HRd : Hid (Rep W.drew xs r c) := Rep.below hbd r c HR.out
    clear hbd
    have hk3 : p.k = 0 := by rw [HF.out.1, hk]; rfl
    obtain ⟨m, hm⟩ : ∃ m : Nat, m = nd.n.toNat := ⟨_, rfl⟩
    have HCS : Hid (coreS nd (printT l) (printT r) = decS m) := hid (by unfold coreS; rw [if_pos hk, hm])
    have hn0 : p.n = (m : Int) := by rw [HF.out.2.1, hm]; have := HWF.out.2.2.2.2.1; omega
    have HN1 : Hid (m ≤ 1000000000) := hid (by have := HWF.out.2.2.2.2.2.1; omega)
    clear hk hm
    go_wp2_with fail
    refine (decimal_any m _ HN1.out).mono ?_
    rintro e w1 ⟨r1, rfl, _, hr1, hb1⟩
    have HB1 : Hid (Below W.heap.size W w1) := hb1
    clear hb1
    go_wp2
    go_meet
    exact ⟨r1, rfl, by rw [HCS.out]; exact hr1, HB1⟩
  case rest =>
  obtain ⟨rr, rfl, Hrr, HB⟩ := hcut
  have hzc := HB.out.size
  have HP2 : Hid (PAt wc w.heap.size p) := PAt.kept HP.out (HB.out.block _ (by omega))
  clear q0 q1 q2 q3 q4 q5 q6 q7
  obtain ⟨q0, q1, q2, q3, q4, q5, q6, q7⟩ := PAt.all HP2.out
  go_wp2_with fail
  refine (tight_any p nd _ HF.out.1 HF.out.2.2.1).mono ?_
  rintro e w2 ⟨rfl, hb2⟩
  have HB2 : Hid (Below w.heap.size w w2) := HBW.out.trans ((HB.out.trans (hb2.mono hzc)).mono (by omega))
  have hrs : rr.size ≤ 100000 := by rw [size_of_bl Hrr.out]; exact HCL.out
  clear hb2
  by_cases htm : (tightT nd : Int) < must
  · have HD : Hid (printT (.node x y nd l r) must = [40] ++ coreS nd (printT l) (printT r) ++ [41]) := hid (by rw [HPT.out, decide_eq_true (show tightT nd < must by omega)]; rfl)
    have z1 : (⟨#[40]⟩ ++ rr : ByteArray).size = 1 + rr.size := by rw [ByteArray.size_append]; rfl
    have a1 : ∀ W, (Op.stringOp .add ⟨#[40]⟩ rr).run Tryz.prog W = .ok (.string (⟨#[40]⟩ ++ rr)) W := fun W => run_string_add_sum W _ _ (by show 1 + rr.size ≤ _; omega)
    have a2 : ∀ W, (Op.stringOp .add (⟨#[40]⟩ ++ rr) ⟨#[41]⟩).run Tryz.prog W = .ok (.string ((⟨#[40]⟩ ++ rr) ++ ⟨#[41]⟩)) W := fun W => run_string_add_sum W _ _ (by rw [z1]; show _ + 1 ≤ _; omega)
    have HE : Hid (bl ((⟨#[40]⟩ ++ rr) ++ ⟨#[41]⟩) = printT (.node x y nd l r) must) := hid (by rw [HD.out, bl_app, bl_app, Hrr.out]; rfl)
    clear z1
    go_wp2
    go_ret
    exact ⟨_, rfl, by rw [size_of_bl HE.out]; exact HLN.out, HE, HB2.out⟩
  · have HD : Hid (printT (.node x y nd l r) must = coreS nd (printT l) (printT r)) := hid (by rw [HPT.out, decide_eq_false (show ¬ tightT nd < must by omega)]; rfl)
    go_wp2
    go_ret
    exact ⟨_, rfl, hrs, by rw [HD.out]; exact Hrr, HB2.out⟩
set_option maxRecDepth 100000 in
set_option maxHeartbeats 4000000 in
theorem pr_sel {b : Nat} {pv : Value} {n : Nat} {xs : List Value} {x y : Nat} {nd : Nd} {l r : Tr} (hwf : wfT (.node x y nd l r)) (hwt : wT (.node x y nd l r) ≤ 100000) (ihl : isNil l = false → PrC b pv n xs l) (ihr : isNil r = false → PrC b pv n xs r) (hk : nd.kind = 1) : PrC b pv n xs (.node x y nd l r) := by
  intro i must w hrow hrep hmust
  obtain ⟨g, cp, p, a, c, rfl, hgl, hi, hp, ha, hc, hrl, hrr, c0, c1, c2, c3, c4, c5, c6, c7⟩ := Rep.at hrow.own hrep
  have hcell := hrow.cell
  obtain ⟨W, hW⟩ : ∃ W, W = w.alloc (.cells #[.int .i64 p.k, .int .i64 p.n, .int .i64 p.op, .string p.nm, .slice p.ca p.cn p.cc, .slice p.ba p.bn p.bc, .int .i64 p.a, .int .i64 p.b] 80) := ⟨_, rfl⟩
  have hbW : Below w.heap.size w W := by rw [hW]; exact (Below.refl _ _).alloc (Nat.le_refl _) _
  have hzW : W.heap.size = w.heap.size + 1 := by rw [hW, Go.Deep.nblk_alloc]
  have HW : Hid (W = w.alloc (.cells #[.int .i64 p.k, .int .i64 p.n, .int .i64 p.op, .string p.nm, .slice p.ca p.cn p.cc, .slice p.ba p.bn p.bc, .int .i64 p.a, .int .i64 p.b] 80)) := hW
  have HP : Hid (PAt W w.heap.size p) := hid (by rw [hW]; exact Go.Deep.blk_alloc_new _ _)
  have HRW : Hid (RowAt W b (.slice (some ⟨g, 0, none⟩) n cp) n xs) := hrow.below hbW
  have HL : Hid (Rep W xs l a) := Rep.below hbW l a hrl
  have HR : Hid (Rep W xs r c) := Rep.below hbW r c hrr
  have HC : Hid (CondsAre W 0 p nd.conds) := hp.2.2.2.2.1.below hbW
  have HN : Hid (NamesAre W 0 p nd.by_) := hp.2.2.2.2.2.below hbW
  have HBW : Hid (Below w.heap.size w W) := hbW
  have HWF : Hid (wfT (.node x y nd l r)) := hwf
  have hlen := printT_len (.node x y nd l r) must hwf
  have HF : Hid (p.k = nd.kind ∧ p.n = nd.n ∧ p.op = nd.op ∧ bl p.nm = nd.name ∧ p.a = a ∧ p.b = c) := ⟨hp.1, hp.2.1, hp.2.2.1, hp.2.2.2.1, ha, hc⟩
  have hwt2 : ownW nd + wT l + wT r ≤ 100000 := hwt
  have HIL : Hid (isNil l = false → PrC b (.slice (some ⟨g, 0, none⟩) n cp) n xs l) := ihl
  have HIR : Hid (isNil r = false → PrC b (.slice (some ⟨g, 0, none⟩) n cp) n xs r) := ihr
  have HPT : Hid (printT (.node x y nd l r) must = wrapS (decide (tightT nd < must)) (coreS nd (printT l) (printT r))) := rfl
  have HCL : Hid ((coreS nd (printT l) (printT r)).length ≤ 100000) := hid (by
    have := coreS_len hwf.2.2.2.2.2.1 (pl := printT l) (pr := printT r) (x := wT l) (y := wT r) (fun m => printT_len l m hwf.2.2.2.2.2.2.2.2.2.2.1) (fun m => printT_len r m hwf.2.2.2.2.2.2.2.2.2.2.2)
    omega)
  have HLN : Hid ((printT (.node x y nd l r) must).length ≤ 100000) := hid (Nat.le_trans hlen hwt)
  have hk6 : nd.kind ≤ 6 := hwf.1
  clear hp hrow hrep hW hbW hrl hrr hwf ihl ihr ha hc hlen hwt
  obtain ⟨q0, q1, q2, q3, q4, q5, q6, q7⟩ := PAt.all HP.out
  go_enter Tryz.func13, Tryz.ntmps13
  go_upto_block 0 with fail
  rw [← HW.out]
  clear c0 c1 c2 c3 c4 c5 c6 c7 hcell HW
  go_cut [8] from 9 to 107 (fun s8 wx => ∃ rr : ByteArray, s8 = .string rr ∧ Hid (bl rr = coreS nd (printT l) (printT r)) ∧ Hid (Below W.heap.size W wx))
  case first =>
    have hbd : Below W.heap.size W W.drew := (Below.refl _ _).drew
    have HRWd : Hid (RowAt W.drew b (.slice (some ⟨g, 0, none⟩) n cp) n xs) := HRW.out.below hbd
    have HLd : Hid (Rep W.drew xs l a) := Rep.below hbd l a HL.out
    have HRd : Hid (Rep W.drew xs r c) := Rep.below hbd r c HR.out
    clear hbd
    have hk3 : p.k = 1 := by rw [HF.out.1, hk]; rfl
    have HCS : Hid (coreS nd (printT l) (printT r) = selS nd) := hid (by unfold coreS; rw [if_neg (by omega), if_pos hk])
    have hsz : nd.name.length + cw nd.conds ≤ 200000 := by unfold ownW at hwt2; omega
    clear hk
    go_wp2_with fail
    rw [← hk3]
    refine (selText_any _ p nd HF.out.2.2.2.1 HC.out hsz).mono ?_
    rintro e w1 ⟨r1, rfl, _, hr1, hb1⟩
    have HB1 : Hid (Below W.heap.size W w1) := hb1
    clear hb1
    go_wp2
    go_meet
    exact ⟨r1, rfl, by rw [HCS.out]; exact hr1, HB1⟩
  case rest =>
  obtain ⟨rr, rfl, Hrr, HB⟩ := hcut
  have hzc := HB.out.size
  have HP2 : Hid (PAt wc w.heap.size p) := PAt.kept HP.out (HB.out.block _ (by omega))
  clear q0 q1 q2 q3 q4 q5 q6 q7
  obtain ⟨q0, q1, q2, q3, q4, q5, q6, q7⟩ := PAt.all HP2.out
  go_wp2_with fail
  refine (tight_any p nd _ HF.out.1 HF.out.2.2.1).mono ?_
  rintro e w2 ⟨rfl, hb2⟩
  have HB2 : Hid (Below w.heap.size w w2) := HBW.out.trans ((HB.out.trans (hb2.mono hzc)).mono (by omega))
  have hrs : rr.size ≤ 100000 := by rw [size_of_bl Hrr.out]; exact HCL.out
  clear hb2
  by_cases htm : (tightT nd : Int) < must
  · have HD : Hid (printT (.node x y nd l r) must = [40] ++ coreS nd (printT l) (printT r) ++ [41]) := hid (by rw [HPT.out, decide_eq_true (show tightT nd < must by omega)]; rfl)
    have z1 : (⟨#[40]⟩ ++ rr : ByteArray).size = 1 + rr.size := by rw [ByteArray.size_append]; rfl
    have a1 : ∀ W, (Op.stringOp .add ⟨#[40]⟩ rr).run Tryz.prog W = .ok (.string (⟨#[40]⟩ ++ rr)) W := fun W => run_string_add_sum W _ _ (by show 1 + rr.size ≤ _; omega)
    have a2 : ∀ W, (Op.stringOp .add (⟨#[40]⟩ ++ rr) ⟨#[41]⟩).run Tryz.prog W = .ok (.string ((⟨#[40]⟩ ++ rr) ++ ⟨#[41]⟩)) W := fun W => run_string_add_sum W _ _ (by rw [z1]; show _ + 1 ≤ _; omega)
    have HE : Hid (bl ((⟨#[40]⟩ ++ rr) ++ ⟨#[41]⟩) = printT (.node x y nd l r) must) := hid (by rw [HD.out, bl_app, bl_app, Hrr.out]; rfl)
    clear z1
    go_wp2
    go_ret
    exact ⟨_, rfl, by rw [size_of_bl HE.out]; exact HLN.out, HE, HB2.out⟩
  · have HD : Hid (printT (.node x y nd l r) must = coreS nd (printT l) (printT r)) := hid (by rw [HPT.out, decide_eq_false (show ¬ tightT nd < must by omega)]; rfl)
    go_wp2
    go_ret
    exact ⟨_, rfl, hrs, by rw [HD.out]; exact Hrr, HB2.out⟩
set_option maxRecDepth 100000 in
set_option maxHeartbeats 4000000 in
theorem pr_neg {b : Nat} {pv : Value} {n : Nat} {xs : List Value} {x y : Nat} {nd : Nd} {l r : Tr} (hwf : wfT (.node x y nd l r)) (hwt : wT (.node x y nd l r) ≤ 100000) (ihl : isNil l = false → PrC b pv n xs l) (ihr : isNil r = false → PrC b pv n xs r) (hk : nd.kind = 3) : PrC b pv n xs (.node x y nd l r) := by
  intro i must w hrow hrep hmust
  obtain ⟨g, cp, p, a, c, rfl, hgl, hi, hp, ha, hc, hrl, hrr, c0, c1, c2, c3, c4, c5, c6, c7⟩ := Rep.at hrow.own hrep
  have hcell := hrow.cell
  obtain ⟨W, hW⟩ : ∃ W, W = w.alloc (.cells #[.int .i64 p.k, .int .i64 p.n, .int .i64 p.op, .string p.nm, .slice p.ca p.cn p.cc, .slice p.ba p.bn p.bc, .int .i64 p.a, .int .i64 p.b] 80) := ⟨_, rfl⟩
  have hbW : Below w.heap.size w W := by rw [hW]; exact (Below.refl _ _).alloc (Nat.le_refl _) _
  have hzW : W.heap.size = w.heap.size + 1 := by rw [hW, Go.Deep.nblk_alloc]
  have HW : Hid (W = w.alloc (.cells #[.int .i64 p.k, .int .i64 p.n, .int .i64 p.op, .string p.nm, .slice p.ca p.cn p.cc, .slice p.ba p.bn p.bc, .int .i64 p.a, .int .i64 p.b] 80)) := hW
  have HP : Hid (PAt W w.heap.size p) := hid (by rw [hW]; exact Go.Deep.blk_alloc_new _ _)
  have HRW : Hid (RowAt W b (.slice (some ⟨g, 0, none⟩) n cp) n xs) := hrow.below hbW
  have HL : Hid (Rep W xs l a) := Rep.below hbW l a hrl
  have HR : Hid (Rep W xs r c) := Rep.below hbW r c hrr
  have HC : Hid (CondsAre W 0 p nd.conds) := hp.2.2.2.2.1.below hbW
  have HN : Hid (NamesAre W 0 p nd.by_) := hp.2.2.2.2.2.below hbW
  have HBW : Hid (Below w.heap.size w W) := hbW
  have HWF : Hid (wfT (.node x y nd l r)) := hwf
  have hlen := printT_len (.node x y nd l r) must hwf
  have HF : Hid (p.k = nd.kind ∧ p.n = nd.n ∧ p.op = nd.op ∧ bl p.nm = nd.name ∧ p.a = a ∧ p.b = c) := ⟨hp.1, hp.2.1, hp.2.2.1, hp.2.2.2.1, ha, hc⟩
  have hwt2 : ownW nd + wT l + wT r ≤ 100000 := hwt
  have HIL : Hid (isNil l = false → PrC b (.slice (some ⟨g, 0, none⟩) n cp) n xs l) := ihl
  have HIR : Hid (isNil r = false → PrC b (.slice (some ⟨g, 0, none⟩) n cp) n xs r) := ihr
  have HPT : Hid (printT (.node x y nd l r) must = wrapS (decide (tightT nd < must)) (coreS nd (printT l) (printT r))) := rfl
  have HCL : Hid ((coreS nd (printT l) (printT r)).length ≤ 100000) := hid (by
    have := coreS_len hwf.2.2.2.2.2.1 (pl := printT l) (pr := printT r) (x := wT l) (y := wT r) (fun m => printT_len l m hwf.2.2.2.2.2.2.2.2.2.2.1) (fun m => printT_len r m hwf.2.2.2.2.2.2.2.2.2.2.2)
    omega)
  have HLN : Hid ((printT (.node x y nd l r) must).length ≤ 100000) := hid (Nat.le_trans hlen hwt)
  have hk6 : nd.kind ≤ 6 := hwf.1
  clear hp hrow hrep hW hbW hrl hrr hwf ihl ihr ha hc hlen hwt
  obtain ⟨q0, q1, q2, q3, q4, q5, q6, q7⟩ := PAt.all HP.out
  go_enter Tryz.func13, Tryz.ntmps13
  go_upto_block 0 with fail
  rw [← HW.out]
  clear c0 c1 c2 c3 c4 c5 c6 c7 hcell HW
  go_cut [8] from 9 to 107 (fun s8 wx => ∃ rr : ByteArray, s8 = .string rr ∧ Hid (bl rr = coreS nd (printT l) (printT r)) ∧ Hid (Below W.heap.size W wx))
  case first =>
    have hbd : Below W.heap.size W W.drew := (Below.refl _ _).drew
    have HRWd : Hid (RowAt W.drew b (.slice (some ⟨g, 0, none⟩) n cp) n xs) := HRW.out.below hbd
    have HLd : Hid (Rep W.drew xs l a) := Rep.below hbd l a HL.out
    have HRd : Hid (Rep W.drew xs r c) := Rep.below hbd r c HR.out
    clear hbd
    have hk3 : p.k = 3 := by rw [HF.out.1, hk]; rfl
    have HCS : Hid (coreS nd (printT l) (printT r) = [45] ++ printT l 4) := hid (by unfold coreS; rw [if_neg (by omega), if_neg (by omega), if_neg (by omega), if_pos hk])
    have hnl : isNil l = false := HWF.out.2.2.2.2.2.2.1 (by omega)
    clear hk
    go_wp2_with fail
    rw [HF.out.2.2.2.2.1]
    refine (HIL.out hnl a 4 W HRW.out HL.out (by decide)).mono ?_
    rintro e w1 ⟨r1, rfl, hs1, hr1, hb1⟩
    have HB1 : Hid (Below W.heap.size W w1) := hb1
    have a1 : ∀ W, (Op.stringOp .add ⟨#[45]⟩ r1).run Tryz.prog W = .ok (.string (⟨#[45]⟩ ++ r1)) W := fun W => run_string_add_sum W _ _ (by show 1 + r1.size ≤ _; omega)
    clear hb1
    go_wp2
    go_meet
    exact ⟨_, rfl, hid (by rw [HCS.out, bl_app, hr1.out]; rfl), HB1⟩
  case rest =>
  obtain ⟨rr, rfl, Hrr, HB⟩ := hcut
  have hzc := HB.out.size
  have HP2 : Hid (PAt wc w.heap.size p) := PAt.kept HP.out (HB.out.block _ (by omega))
  clear q0 q1 q2 q3 q4 q5 q6 q7
  obtain ⟨q0, q1, q2, q3, q4, q5, q6, q7⟩ := PAt.all HP2.out
  go_wp2_with fail
  refine (tight_any p nd _ HF.out.1 HF.out.2.2.1).mono ?_
  rintro e w2 ⟨rfl, hb2⟩
  have HB2 : Hid (Below w.heap.size w w2) := HBW.out.trans ((HB.out.trans (hb2.mono hzc)).mono (by omega))
  have hrs : rr.size ≤ 100000 := by rw [size_of_bl Hrr.out]; exact HCL.out
  clear hb2
  by_cases htm : (tightT nd : Int) < must
  · have HD : Hid (printT (.node x y nd l r) must = [40] ++ coreS nd (printT l) (printT r) ++ [41]) := hid (by rw [HPT.out, decide_eq_true (show tightT nd < must by omega)]; rfl)
    have z1 : (⟨#[40]⟩ ++ rr : ByteArray).size = 1 + rr.size := by rw [ByteArray.size_append]; rfl
    have a1 : ∀ W, (Op.stringOp .add ⟨#[40]⟩ rr).run Tryz.prog W = .ok (.string (⟨#[40]⟩ ++ rr)) W := fun W => run_string_add_sum W _ _ (by show 1 + rr.size ≤ _; omega)
    have a2 : ∀ W, (Op.stringOp .add (⟨#[40]⟩ ++ rr) ⟨#[41]⟩).run Tryz.prog W = .ok (.string ((⟨#[40]⟩ ++ rr) ++ ⟨#[41]⟩)) W := fun W => run_string_add_sum W _ _ (by rw [z1]; show _ + 1 ≤ _; omega)
    have HE : Hid (bl ((⟨#[40]⟩ ++ rr) ++ ⟨#[41]⟩) = printT (.node x y nd l r) must) := hid (by rw [HD.out, bl_app, bl_app, Hrr.out]; rfl)
    clear z1
    go_wp2
    go_ret
    exact ⟨_, rfl, by rw [size_of_bl HE.out]; exact HLN.out, HE, HB2.out⟩
  · have HD : Hid (printT (.node x y nd l r) must = coreS nd (printT l) (printT r)) := hid (by rw [HPT.out, decide_eq_false (show ¬ tightT nd < must by omega)]; rfl)
    go_wp2
    go_ret
    exact ⟨_, rfl, hrs, by rw [HD.out]; exact Hrr, HB2.out⟩
end Go.Proofs.YtmncdbepjhmkgaaGreatDoor

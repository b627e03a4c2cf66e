/- Parts of the proof, joined: DWr4 -/
import Derived.Test.YtmncdbepjhmkgaaGreatDoorJ42
/- Parts, printed by the program. -/
namespace Go.Proofs.YtmncdbepjhmkgaaGreatDoor
open Go.RowKit LS
attribute [local go_sem ↓] Go.wp_at_zero Go.wp_at_succ
attribute [local go_sem] asNumberNumber asNumberNegative asNumberPair asNumberGroup asNumberWindow asNumberSelector asNegativeNumber asNegativeNegative asNegativePair asNegativeGroup asNegativeWindow asNegativeSelector asPairNumber asPairNegative asPairPair asPairGroup asPairWindow asPairSelector asGroupNumber asGroupNegative asGroupPair asGroupGroup asGroupWindow asGroupSelector asWindowNumber asWindowNegative asWindowPair asWindowGroup asWindowWindow asWindowSelector asSelectorNumber asSelectorNegative asSelectorPair asSelectorGroup asSelectorWindow asSelectorSelector

theorem coreS_num {a : Nd} (h : a.kind = 0) (pl pr : Nat → List UInt8) : coreS a pl pr = decS a.n.toNat := by unfold coreS; rw [if_pos h]
theorem coreS_sel {a : Nd} (h : a.kind = 1) (pl pr : Nat → List UInt8) : coreS a pl pr = selS a := by unfold coreS; rw [if_neg (by omega), if_pos h]
theorem coreS_win {a : Nd} (h : a.kind = 2) (pl pr : Nat → List UInt8) : coreS a pl pr = overWords.getD a.op [] ++ [40] ++ selS a ++ [91] ++ decS a.n.toNat ++ [93, 41] := by unfold coreS; rw [if_neg (by omega), if_neg (by omega), if_pos h]
theorem coreS_neg {a : Nd} (h : a.kind = 3) (pl pr : Nat → List UInt8) : coreS a pl pr = [45] ++ pl 4 := by unfold coreS; rw [if_neg (by omega), if_neg (by omega), if_neg (by omega), if_pos h]
theorem coreS_grp {a : Nd} (h : a.kind = 5) (pl pr : Nat → List UInt8) : coreS a pl pr = groupWords.getD a.op [] ++ [32, 98, 121, 32, 40] ++ commas a.by_ ++ [41, 32, 40] ++ pl 1 ++ [41] := by unfold coreS; rw [if_neg (by omega), if_neg (by omega), if_neg (by omega), if_neg (by omega), if_pos h]
theorem dec_len {n : Int} (h : n ≤ 1000000000) : (decS n.toNat).length ≤ 10 := by
  refine decS_len 9 _ ?_
  have h1 : n.toNat ≤ 1000000000 := by omega
  have h2 : (10 : Nat) ^ 10 = 10000000000 := by decide
  omega
set_option maxRecDepth 100000 in
set_option maxHeartbeats 8000000 in
theorem wr_num {x y : Nat} {a : Nd} {p q : Tr} (hwf : wfT (.node x y a p q)) (hk : a.kind = 0) (w : World) (B b : Nat) (l : List UInt8) (hw : WB w B b l) (ht : PowTab w) (hB : 18 ≤ B) (hl : l.length + wT (.node x y a p q) ≤ big) :
    Calls Tryz.prog 22 #[.pointer (some ⟨b, 0, none⟩), .iface 101 (.agg #[.int .i64 a.n])] w fun e w' => e = .returned (.tuple #[]) ∧ Hid (WB w' B b (l ++ printT (.node x y a p q) 1)) ∧ Hid (WK B b w w') := by
  have HX : Hid (printT (.node x y a p q) 1 = decS a.n.toNat) := hid (by rw [printT_one, coreS_num hk])
  have HW : Hid (WB w B b l) := hw
  have HT : Hid (PowTab w) := ht
  have HB : Hid (18 ≤ B) := hB
  have HN : Hid (0 ≤ a.n ∧ a.n ≤ 1000000000) := ⟨hwf.2.2.2.2.1, hwf.2.2.2.2.2.1⟩
  have HL : Hid (l.length + 24 ≤ big) := hid (by have h1 : ownW a + wT p + wT q = wT (.node x y a p q) := rfl; unfold ownW at h1; omega)
  obtain ⟨n, hn⟩ : ∃ n, n = a.n := ⟨_, rfl⟩
  rw [← hn] at HN HX ⊢
  clear hw ht hB hl hwf hk hn
  go_enter Tryz.func22, Tryz.ntmps22
  go_wp2_with fail
  refine calls_gen fun W hW => ?_
  have hbW : Below w.heap.size w W := by rw [hW]; exact (Below.refl _ _).alloc (Nat.le_refl _) _
  have HWW : Hid (WB W B b l) := HW.out.below hbW
  have HKW : Hid (WK B b w W) := WK.below hbW HW.out.le
  have HTW : Hid (PowTab W) := HT.out.low HKW.out.low HB.out
  clear hW hbW
  refine (itoa_t HTW.out n HN.out.1 HN.out.2).mono ?_
  rintro e w1 ⟨s, rfl, hs, hb1⟩
  have HW1 : Hid (WB w1 B b l) := HWW.out.below hb1
  have HK1 : Hid (WK B b w w1) := HKW.out.trans (WK.below hb1 HWW.out.le)
  clear hb1
  go_wp2_with fail
  refine (put_t HW1.out s (by rw [size_of_bl hs.out]; have := dec_len HN.out.2; have := HL.out; omega)).mono ?_
  rintro e w2 ⟨rfl, HW2, HK2'⟩
  have HK2 : Hid (WK B b w w2) := HK1.out.trans HK2'.out
  clear HK2'
  go_wp2
  go_end0
  exact ⟨rfl, by rw [HX.out, ← hs.out]; exact HW2, HK2⟩
set_option maxRecDepth 100000 in
set_option maxHeartbeats 8000000 in
theorem wr_sel {x y : Nat} {a : Nd} {p q : Tr} (hk : a.kind = 1) (nm : ByteArray) (la : Option Addr) (ln lc : Nat) (w : World) (hnm : bl nm = a.name) (hc : CondsV w (.slice la ln lc) a.conds) (B b : Nat) (l : List UInt8) (hw : WB w B b l) (hl : l.length + wT (.node x y a p q) ≤ big) :
    Calls Tryz.prog 22 #[.pointer (some ⟨b, 0, none⟩), .iface 130 (.agg #[.string nm, .slice la ln lc])] w fun e w' => e = .returned (.tuple #[]) ∧ Hid (WB w' B b (l ++ printT (.node x y a p q) 1)) ∧ Hid (WK B b w w') := by
  have HX : Hid (printT (.node x y a p q) 1 = selS a) := hid (by rw [printT_one, coreS_sel hk])
  have HW : Hid (WB w B b l) := hw
  have HNM : Hid (bl nm = a.name) := hnm
  have HC : Hid (CondsV w (.slice la ln lc) a.conds) := hc
  have HL : Hid (l.length + a.name.length + cw a.conds + 10 ≤ big) := hid (by have h1 : ownW a + wT p + wT q = wT (.node x y a p q) := rfl; unfold ownW at h1; omega)
  clear hw hl hk hnm hc
  go_enter Tryz.func22, Tryz.ntmps22
  go_wp2_with fail
  refine calls_gen fun W hW => ?_
  have hbW : Below w.heap.size w W := by rw [hW]; exact (Below.refl _ _).alloc (Nat.le_refl _) _
  have HWW : Hid (WB W B b l) := HW.out.below hbW
  have HKW : Hid (WK B b w W) := WK.below hbW HW.out.le
  have HCW : Hid (CondsV W (.slice la ln lc) a.conds) := HC.out.below hbW
  clear hW hbW
  refine (wsel_t HWW.out nm la ln lc a HNM.out HCW.out HL.out).mono ?_
  rintro e w2 ⟨rfl, HW2, HK2'⟩
  have HK2 : Hid (WK B b w w2) := HKW.out.trans HK2'.out
  clear HK2'
  go_wp2
  go_end0
  exact ⟨rfl, by rw [HX.out]; exact HW2, HK2⟩
set_option maxRecDepth 100000 in
set_option maxHeartbeats 8000000 in
theorem wr_win {x y : Nat} {a : Nd} {p q : Tr} (hwf : wfT (.node x y a p q)) (hk : a.kind = 2) (wd nm : ByteArray) (la : Option Addr) (ln lc : Nat) (w : World) (hwd : bl wd = overWords.getD a.op []) (hnm : bl nm = a.name) (hc : CondsV w (.slice la ln lc) a.conds) (B b : Nat) (l : List UInt8) (hw : WB w B b l) (ht : PowTab w) (hB : 18 ≤ B) (hl : l.length + wT (.node x y a p q) ≤ big) :
    Calls Tryz.prog 22 #[.pointer (some ⟨b, 0, none⟩), .iface 132 (.agg #[.string wd, .string nm, .slice la ln lc, .int .i64 a.n])] w fun e w' => e = .returned (.tuple #[]) ∧ Hid (WB w' B b (l ++ printT (.node x y a p q) 1)) ∧ Hid (WK B b w w') := by
  have HX : Hid (printT (.node x y a p q) 1 = bl wd ++ [40] ++ selS a ++ [91] ++ decS a.n.toNat ++ [93, 41]) := hid (by rw [printT_one, coreS_win hk, hwd])
  have HW : Hid (WB w B b l) := hw
  have HT : Hid (PowTab w) := ht
  have HB : Hid (18 ≤ B) := hB
  have HN : Hid (0 ≤ a.n ∧ a.n ≤ 1000000000) := ⟨hwf.2.2.2.2.1, hwf.2.2.2.2.2.1⟩
  have HNM : Hid (bl nm = a.name) := hnm
  have HC : Hid (CondsV w (.slice la ln lc) a.conds) := hc
  have hwl : wd.size ≤ 5 := by rw [size_of_bl hwd]; exact getD_len overWords (by decide) a.op
  have HL : Hid (l.length + a.name.length + cw a.conds + 24 ≤ big) := hid (by have h1 : ownW a + wT p + wT q = wT (.node x y a p q) := rfl; unfold ownW at h1; omega)
  have HSL : Hid ((selS a).length ≤ a.name.length + cw a.conds + 2) := hid (selS_len a)
  obtain ⟨n, hn⟩ : ∃ n, n = a.n := ⟨_, rfl⟩
  rw [← hn] at HN HX ⊢
  have a1 : ∀ W, (Op.stringOp .add wd ⟨#[40]⟩).run Tryz.prog W = .ok (.string (wd ++ ⟨#[40]⟩)) W := fun W => run_string_add_sum W _ _ (by show wd.size + 1 ≤ _; omega)
  have HS1 : Hid ((wd ++ ⟨#[40]⟩ : ByteArray).size = wd.size + 1) := hid (by rw [ByteArray.size_append]; rfl)
  clear hw ht hB hl hwf hk hn hwd hnm hc
  go_enter Tryz.func22, Tryz.ntmps22
  go_upto_region 20 with fail
  refine wp_gen fun W hW => ?_
  have hbW : Below w.heap.size w W := by rw [hW]; exact (Below.refl _ _).alloc (Nat.le_refl _) _
  have HP0 : Hid (BAt W w.heap.size [.string wd, .string nm, .slice la ln lc, .int .i64 n] 132) := hid (by rw [hW]; exact Go.Deep.blk_alloc_new _ _)
  have HWW : Hid (WB W B b l) := HW.out.below hbW
  have HKW : Hid (WK B b w W) := WK.below hbW HW.out.le
  have HCW : Hid (CondsV W (.slice la ln lc) a.conds) := HC.out.below hbW
  clear hW hbW
  have p0 := HP0.out.cell 0
  simp only [List.getElem?_cons_zero] at p0
  go_wp2_with fail
  refine (put_t HWW.out _ (by rw [HS1.out]; have := HL.out; omega)).mono ?_
  rintro e w1 ⟨rfl, HW1, HK1'⟩
  have HK1 : Hid (WK B b w w1) := HKW.out.trans HK1'.out
  have HP1 := hid (WK.bat HWW.out HK1'.out HP0.out (by decide) (by decide))
  have HC1 : Hid (CondsV w1 (.slice la ln lc) a.conds) := hid (HCW.out.wrote HWW.out HK1'.out)
  clear HK1' p0 HP0 HWW HKW HCW
  have p1 := HP1.out.cell 1
  have p2 := HP1.out.cell 2
  simp only [List.getElem?_cons_zero, List.getElem?_cons_succ] at p1 p2
  go_wp2_with fail
  refine (wsel_t HW1.out nm la ln lc a HNM.out HC1.out (by rw [List.length_append, bl_length, HS1.out]; have := HL.out; omega)).mono ?_
  rintro e w2 ⟨rfl, HW2, HK2'⟩
  have HK2 : Hid (WK B b w w2) := HK1.out.trans HK2'.out
  have HP2 := hid (WK.bat HW1.out HK2'.out HP1.out (by decide) (by decide))
  have HT2 : Hid (PowTab w2) := HT.out.low HK2.out.low HB.out
  clear HK2' p1 p2 HP1 HW1 HK1 HC1
  have p3 := HP2.out.cell 3
  simp only [List.getElem?_cons_zero, List.getElem?_cons_succ] at p3
  go_wp2_with fail
  refine (itoa_t HT2.out n HN.out.1 HN.out.2).mono ?_
  rintro e w3 ⟨s, rfl, hs, hb3⟩
  have HW3 := hid (HW2.out.below hb3)
  have HK3 : Hid (WK B b w w3) := HK2.out.trans (WK.below hb3 HW2.out.le)
  have hss : s.size ≤ 10 := by rw [size_of_bl hs.out]; exact dec_len HN.out.2
  have b1 : ∀ W, (Op.stringOp .add ⟨#[91]⟩ s).run Tryz.prog W = .ok (.string (⟨#[91]⟩ ++ s)) W := fun W => run_string_add_sum W _ _ (by show 1 + s.size ≤ _; omega)
  have HS2 : Hid ((⟨#[91]⟩ ++ s : ByteArray).size = 1 + s.size) := hid (by rw [ByteArray.size_append]; rfl)
  have b2 : ∀ W, (Op.stringOp .add (⟨#[91]⟩ ++ s) ⟨#[93, 41]⟩).run Tryz.prog W = .ok (.string ((⟨#[91]⟩ ++ s) ++ ⟨#[93, 41]⟩)) W := fun W => run_string_add_sum W _ _ (by rw [HS2.out]; show _ + 2 ≤ _; omega)
  have HS3 : Hid (((⟨#[91]⟩ ++ s) ++ ⟨#[93, 41]⟩ : ByteArray).size = 1 + s.size + 2) := hid (by rw [ByteArray.size_append, HS2.out]; rfl)
  clear hb3 p3 HW2 HK2 HT2
  go_wp2_with fail
  refine (put_t HW3.out _ (by rw [HS3.out]; simp only [List.length_append, bl_length]; rw [HS1.out]; have := HL.out; have := HSL.out; omega)).mono ?_
  rintro e w4 ⟨rfl, HW4, HK4'⟩
  have HK4 : Hid (WK B b w w4) := HK3.out.trans HK4'.out
  have HW5 : Hid (WB w4 B b (l ++ printT (.node x y a p q) 1)) := hid (by
    rw [HX.out, ← hs.out]
    have := HW4.out
    rw [bl_app, bl_app, bl_app] at this
    simp only [List.append_assoc] at this ⊢
    exact this)
  clear HK4' HW4
  go_wp2
  go_end0
  exact ⟨rfl, HW5, HK4⟩
set_option maxRecDepth 100000 in
set_option maxHeartbeats 8000000 in
theorem wr_neg {x y : Nat} {a : Nd} {p q : Tr} (hk : a.kind = 3) (ih : WW p) (w : World) (z : Value) (hz : PartV w p z) (B b : Nat) (l : List UInt8) (hw : WB w B b l) (ht : PowTab w) (hB : 18 ≤ B) (hl : l.length + wT (.node x y a p q) ≤ big) :
    Calls Tryz.prog 22 #[.pointer (some ⟨b, 0, none⟩), .iface 103 (.agg #[z])] w fun e w' => e = .returned (.tuple #[]) ∧ Hid (WB w' B b (l ++ printT (.node x y a p q) 1)) ∧ Hid (WK B b w w') := by
  have HX : Hid (printT (.node x y a p q) 1 = [45] ++ printT p 4) := hid (by rw [printT_one, coreS_neg hk])
  have HW : Hid (WB w B b l) := hw
  have HT : Hid (PowTab w) := ht
  have HB : Hid (18 ≤ B) := hB
  have HL : Hid (l.length + 24 + wT p ≤ big) := hid (by have h1 : ownW a + wT p + wT q = wT (.node x y a p q) := rfl; unfold ownW at h1; omega)
  have HZ : Hid (PartV w p z) := hz
  obtain ⟨ty, u, hsh⟩ := PartV.shape hz
  subst hsh
  clear hw ht hB hl hk hz
  go_enter Tryz.func22, Tryz.ntmps22
  go_upto_region 6 with fail
  refine wp_gen fun W hW => ?_
  have hbW : Below w.heap.size w W := by rw [hW]; exact (Below.refl _ _).alloc (Nat.le_refl _) _
  have HP0 : Hid (BAt W w.heap.size [.iface ty u] 103) := hid (by rw [hW]; exact Go.Deep.blk_alloc_new _ _)
  have HWW : Hid (WB W B b l) := HW.out.below hbW
  have HKW : Hid (WK B b w W) := WK.below hbW HW.out.le
  have HZW : Hid (PartV W p (.iface ty u)) := HZ.out.below hbW
  clear hW hbW
  go_wp2_with fail
  refine (put_t HWW.out ⟨#[45]⟩ (by have := HL.out; show _ + 1 ≤ _; omega)).mono ?_
  rintro e w1 ⟨rfl, HW1, HK1'⟩
  have HK1 : Hid (WK B b w w1) := HKW.out.trans HK1'.out
  have HP1 := hid (WK.bat HWW.out HK1'.out HP0.out (by decide) (by decide))
  have HZ1 : Hid (PartV w1 p (.iface ty u)) := hid (PartV.wrote HWW.out HK1'.out HZW.out)
  have HT1 : Hid (PowTab w1) := HT.out.low HK1.out.low HB.out
  clear HK1' HP0 HWW HKW HZW
  have p0 := HP1.out.cell 0
  simp only [List.getElem?_cons_zero] at p0
  go_wp2_with fail
  refine (ih w1 _ B b _ 3 HZ1.out HW1.out HT1.out HB.out (by rw [List.length_append, bl_length]; have := HL.out; show _ + 1 + _ + 2 ≤ _; omega)).mono ?_
  rintro e w2 ⟨rfl, HW2, HK2'⟩
  have HK2 : Hid (WK B b w w2) := HK1.out.trans HK2'.out
  have HW3 : Hid (WB w2 B b (l ++ printT (.node x y a p q) 1)) := hid (by rw [HX.out, ← List.append_assoc]; exact HW2.out)
  clear HK2' HW2
  go_wp2
  go_end0
  exact ⟨rfl, HW3, HK2⟩
end Go.Proofs.YtmncdbepjhmkgaaGreatDoor

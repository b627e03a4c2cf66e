/- Parts. -/
import Derived.Test.YtpbemaaghbbocaaGreatDoorA41
import Derived.Test.YtpbemaaghbbocaaGreatDoorA39
namespace Go.Proofs.YtpbemaaghbbocaaGreatDoor
open Go.RowKit LS
attribute [local go_sem ↓] Go.wp_at_zero Go.wp_at_succ
attribute [local go_sem] asNumberNumber asNumberNegative asNumberPair asNumberGroup asNumberWindow asNumberSelector asNegativeNumber asNegativeNegative asNegativePair asNegativeGroup asNegativeWindow asNegativeSelector asPairNumber asPairNegative asPairPair asPairGroup asPairWindow asPairSelector asGroupNumber asGroupNegative asGroupPair asGroupGroup asGroupWindow asGroupSelector asWindowNumber asWindowNegative asWindowPair asWindowGroup asWindowWindow asWindowSelector asSelectorNumber asSelectorNegative asSelectorPair asSelectorGroup asSelectorWindow asSelectorSelector
theorem sign_len (o : Nat) : (signOf o).length ≤ 2 := by
  unfold signOf; split <;> (try split) <;> (try split) <;> (try split) <;> simp
set_option maxRecDepth 100000 in
set_option maxHeartbeats 8000000 in
theorem wr_pair {x y : Nat} {a : Nd} {p q : Tr} (hwf : wfT (.node x y a p q)) (hk : a.kind = 4 ∨ a.kind = 6) (ihp : WW p) (ihq : WW q) (w : World) (z1 z2 : Value) (hz1 : PartV w p z1) (hz2 : PartV w q z2) (B b : Nat) (l : List UInt8) (hw : WB w B b l) (ht : PowTab w) (hB : 20 ≤ B) (hl : l.length + wT (.node x y a p q) ≤ big) :
    Calls Tryz.prog 38 #[.pointer (some ⟨b, 0, none⟩), .iface 149 (.agg #[.int .i64 (opNo a), z1, z2])] w fun e w' => e = .returned (.tuple #[]) ∧ Hid (WB w' B b (l ++ printT (.node x y a p q) 1)) ∧ Hid (WK B b w w') := by
  obtain ⟨o, hoe⟩ : ∃ o, o = opNo a := ⟨_, rfl⟩
  have htr := tight_rank hk hwf.2.2.1
  have HX : Hid (printT (.node x y a p q) 1 = printT p (rankOf o + 1) ++ [32] ++ signOf o ++ [32] ++ printT q (rankOf o + 1 + 1)) := hid (by rw [printT_one, core_pair hk hwf.2.2.1, hoe, htr.1])
  have ho4 : o ≤ 4 := by rw [hoe]; exact htr.2
  have HPL : Hid ((printT p (rankOf o + 1)).length ≤ wT p) := hid (printT_len p _ hwf.2.2.2.2.2.2.2.2.2.2.1)
  rw [← hoe]
  have HW : Hid (WB w B b l) := hw
  have HT : Hid (PowTab w) := ht
  have HB : Hid (20 ≤ B) := hB
  have HL : Hid (l.length + 24 + wT p + wT q ≤ big) := hid (by have h1 : ownW a + wT p + wT q = wT (.node x y a p q) := rfl; unfold ownW at h1; omega)
  have HZ1 : Hid (PartV w p z1) := hz1
  have HZ2 : Hid (PartV w q z2) := hz2
  obtain ⟨t1, u1, hsh1⟩ := PartV.shape hz1
  obtain ⟨t2, u2, hsh2⟩ := PartV.shape hz2
  subst hsh1 hsh2
  obtain ⟨sg, hsg⟩ : ∃ sg : ByteArray, sg = ⟨(signOf o).toArray⟩ := ⟨_, rfl⟩
  have HSG : Hid (⟨(signOf o).toArray⟩ = sg) := hsg.symm
  have HSB : Hid (bl sg = signOf o) := hid (by rw [hsg, bl_mk])
  have hss : sg.size ≤ 2 := by rw [size_of_bl HSB.out]; exact sign_len o
  have hrk : rankOf o ≤ 2 := by unfold rankOf; split <;> (try split) <;> omega
  have a1 : ∀ W, (Op.stringOp .add ⟨#[32]⟩ sg).run Tryz.prog W = .ok (.string (⟨#[32]⟩ ++ sg)) W := fun W => run_string_add_sum W _ _ (by show 1 + sg.size ≤ _; omega)
  have HS1 : Hid ((⟨#[32]⟩ ++ sg : ByteArray).size = 1 + sg.size) := hid (by rw [ByteArray.size_append]; rfl)
  have a2 : ∀ W, (Op.stringOp .add (⟨#[32]⟩ ++ sg) ⟨#[32]⟩).run Tryz.prog W = .ok (.string ((⟨#[32]⟩ ++ sg) ++ ⟨#[32]⟩)) W := fun W => run_string_add_sum W _ _ (by rw [HS1.out]; show _ + 1 ≤ _; omega)
  have HS2 : Hid (((⟨#[32]⟩ ++ sg) ++ ⟨#[32]⟩ : ByteArray).size = 1 + sg.size + 1) := hid (by rw [ByteArray.size_append, HS1.out]; rfl)
  obtain ⟨rr, hrr⟩ : ∃ rr, rr = rankOf o := ⟨_, rfl⟩
  rw [← hrr] at HX HPL hrk
  have HRR : Hid (∀ W, Calls Tryz.prog 80 #[.agg #[.int .i64 o, .iface t1 u1, .iface t2 u2]] W fun e w' => e = .returned (.int .i64 rr) ∧ Below W.heap.size W w') := hid (fun W => by rw [hrr]; exact rankP W o ho4 t1 t2 u1 u2)
  have HPC : Hid (∀ (w' : World) (l' : List UInt8), PartV w' p (.iface t1 u1) → WB w' B b l' → PowTab w' → l'.length + wT p + 2 ≤ big → Calls Tryz.prog 79 #[.pointer (some ⟨b, 0, none⟩), .iface t1 u1, .int .i64 (rr : Int)] w' fun e w'' => e = .returned (.tuple #[]) ∧ Hid (WB w'' B b (l' ++ printT p (rr + 1))) ∧ Hid (WK B b w' w'')) := hid (fun w' l' h1 h2 h3 h4 => ihp w' _ B b l' rr h1 h2 h3 HB.out h4)
  have HQC : Hid (∀ (w' : World) (l' : List UInt8), PartV w' q (.iface t2 u2) → WB w' B b l' → PowTab w' → l'.length + wT q + 2 ≤ big → Calls Tryz.prog 79 #[.pointer (some ⟨b, 0, none⟩), .iface t2 u2, .int .i64 ((rr : Int) + 1)] w' fun e w'' => e = .returned (.tuple #[]) ∧ Hid (WB w'' B b (l' ++ printT q (rr + 1 + 1))) ∧ Hid (WK B b w' w'')) := hid (fun w' l' h1 h2 h3 h4 => ihq w' _ B b l' (rr + 1) h1 h2 h3 HB.out h4)
  have hwr : IntKind.i64.wrap ((rr : Int) + 1) = (rr : Int) + 1 := by rcases (by omega : rr = 0 ∨ rr = 1 ∨ rr = 2) with h | h | h <;> rw [h] <;> rfl
  clear hw ht hB hl hk hz1 hz2 hwf hoe htr hsg hrr ihp ihq
  go_enter Tryz.func38, Tryz.ntmps38
  go_upto_region 10 with fail
  refine wp_gen fun W hW => ?_
  have hbW : Below w.heap.size w W := by rw [hW]; exact (Below.refl _ _).alloc (Nat.le_refl _) _
  have HP0 : Hid (BAt W w.heap.size [.int .i64 o, .iface t1 u1, .iface t2 u2] 149) := hid (by rw [hW]; exact Go.Deep.blk_alloc_new _ _)
  have HWW : Hid (WB W B b l) := HW.out.below hbW
  have HKW : Hid (WK B b w W) := WK.below hbW HW.out.le
  have HZ1W : Hid (PartV W p (.iface t1 u1)) := HZ1.out.below hbW
  have HZ2W : Hid (PartV W q (.iface t2 u2)) := HZ2.out.below hbW
  clear hW hbW
  have p0 := HP0.out.cell 0
  have p1 := HP0.out.cell 1
  have p2 := HP0.out.cell 2
  simp only [List.getElem?_cons_zero, List.getElem?_cons_succ] at p0 p1 p2
  go_region_held3 (fun w' => w'.cell? ⟨w.heap.size, 0, none⟩ = some (.int .i64 o) ∧ w'.cell? ⟨w.heap.size, 1, none⟩ = some (.iface t1 u1) ∧ w'.cell? ⟨w.heap.size, 2, none⟩ = some (.iface t2 u2)) (first | exact ⟨e0, e1, e2⟩ | exact ⟨d0, d1, d2⟩ | exact ⟨p0, p1, p2⟩ | go_keep) (first
    | (go_at_call 80
       refine (HRR.out _).mono ?_
       rintro e w5 ⟨rfl, hb5⟩
       have HB5 : Hid (Below W.heap.size W w5) := hid ⟨hb5.os, hb5.tape, hb5.output, hb5.size, hb5.block⟩
       have HP5 := hid (HP0.out.below HB5.out)
       have d0 := HP5.out.cell 0
       have d1 := HP5.out.cell 1
       have d2 := HP5.out.cell 2
       simp only [List.getElem?_cons_zero, List.getElem?_cons_succ] at d0 d1 d2
       have HK5 : Hid (WK B b w w5) := HKW.out.trans (WK.below HB5.out HWW.out.le)
       clear hb5)
    | (go_at_call 79
       refine (HPC.out w5 l (HZ1W.out.below HB5.out) (HWW.out.below HB5.out) (HT.out.low HK5.out.low HB.out) (by have := HL.out; omega)).mono ?_
       rintro e w6 ⟨rfl, HW6, HK6'⟩
       have HP6 := hid (WK.bat (HWW.out.below HB5.out) HK6'.out HP5.out (by decide) (by decide))
       have e0 := HP6.out.cell 0
       have e1 := HP6.out.cell 1
       have e2 := HP6.out.cell 2
       simp only [List.getElem?_cons_zero, List.getElem?_cons_succ] at e0 e1 e2
       have HK6 : Hid (WK B b w w6) := HK5.out.trans HK6'.out
       have HZ6 : Hid (PartV w6 q (.iface t2 u2)) := hid (PartV.wrote (HWW.out.below HB5.out) HK6'.out (HZ2W.out.below HB5.out))
       clear HK6'))
  clear p0 p1 p2 d0 d1 d2 HP5 HB5 HK5
  go_wp2_with (go_at_call 81; refine (sign_any o ho4 _).mono ?_; rintro e wq ⟨rfl, rfl⟩; rw [HSG.out])
  refine (put_t HW6.out _ (by rw [HS2.out, List.length_append]; have := HL.out; have := HPL.out; omega)).mono ?_
  rintro e w7 ⟨rfl, HW7, HK7'⟩
  have HK7 : Hid (WK B b w w7) := HK6.out.trans HK7'.out
  have HP7 := hid (WK.bat HW6.out HK7'.out HP6.out (by decide) (by decide))
  have HZ7 : Hid (PartV w7 q (.iface t2 u2)) := hid (PartV.wrote HW6.out HK7'.out HZ6.out)
  clear HK7' e0 e1 e2
  have p0 := HP7.out.cell 0
  have p1 := HP7.out.cell 1
  have p2 := HP7.out.cell 2
  simp only [List.getElem?_cons_zero, List.getElem?_cons_succ] at p0 p1 p2
  go_upto_region 12 with fail
  go_region_held3 (fun w' => w'.cell? ⟨w.heap.size, 0, none⟩ = some (.int .i64 o) ∧ w'.cell? ⟨w.heap.size, 1, none⟩ = some (.iface t1 u1) ∧ w'.cell? ⟨w.heap.size, 2, none⟩ = some (.iface t2 u2)) (first | exact ⟨e0, e1, e2⟩ | exact ⟨d0, d1, d2⟩ | exact ⟨p0, p1, p2⟩ | go_keep) (first
    | (go_at_call 80
       refine (HRR.out _).mono ?_
       rintro e w8 ⟨rfl, hb8⟩
       have HB8 : Hid (Below w7.heap.size w7 w8) := hid ⟨hb8.os, hb8.tape, hb8.output, hb8.size, hb8.block⟩
       have HP8 := hid (HP7.out.below HB8.out)
       have d0 := HP8.out.cell 0
       have d1 := HP8.out.cell 1
       have d2 := HP8.out.cell 2
       simp only [List.getElem?_cons_zero, List.getElem?_cons_succ] at d0 d1 d2
       have HK8 : Hid (WK B b w w8) := HK7.out.trans (WK.below HB8.out HW7.out.le)
       clear hb8)
    | (go_at_call 79
       refine (HQC.out w8 _ (HZ7.out.below HB8.out) (HW7.out.below HB8.out) (HT.out.low HK8.out.low HB.out) (by simp only [List.length_append, bl_length]; rw [HS2.out]; have := HL.out; have := HPL.out; omega)).mono ?_
       rintro e w9 ⟨rfl, HW9, HK9'⟩
       have HP9 := hid (WK.bat (HW7.out.below HB8.out) HK9'.out HP8.out (by decide) (by decide))
       have e0 := HP9.out.cell 0
       have e1 := HP9.out.cell 1
       have e2 := HP9.out.cell 2
       simp only [List.getElem?_cons_zero, List.getElem?_cons_succ] at e0 e1 e2
       have HK9 : Hid (WK B b w w9) := HK8.out.trans HK9'.out
       clear HK9'))
  have HWX : Hid (WB w9 B b (l ++ printT (.node x y a p q) 1)) := hid (by
    rw [HX.out, ← HSB.out]
    have := HW9.out
    rw [bl_app, bl_app] at this
    simp only [List.append_assoc] at this ⊢
    exact this)
  go_wp2
  go_end0
  exact ⟨rfl, HWX, HK9⟩
set_option maxRecDepth 100000 in
set_option maxHeartbeats 8000000 in
theorem wr_group {x y : Nat} {a : Nd} {p q : Tr} (hwf : wfT (.node x y a p q)) (hk : a.kind = 5) (ih : WC p) (wd : ByteArray) (la : Option Addr) (ln lc : Nat) (w : World) (z : Value) (hwd : bl wd = groupWords.getD a.op []) (hns : NamesV w (.slice la ln lc) a.by_) (hz : PartV w p z) (B b : Nat) (l : List UInt8) (hw : WB w B b l) (ht : PowTab w) (hB : 20 ≤ B) (hl : l.length + wT (.node x y a p q) ≤ big) :
    Calls Tryz.prog 38 #[.pointer (some ⟨b, 0, none⟩), .iface 156 (.agg #[.string wd, .slice la ln lc, z])] w fun e w' => e = .returned (.tuple #[]) ∧ Hid (WB w' B b (l ++ printT (.node x y a p q) 1)) ∧ Hid (WK B b w w') := by
  have HX : Hid (printT (.node x y a p q) 1 = bl wd ++ [32, 98, 121, 32, 40] ++ commas a.by_ ++ [41, 32, 40] ++ printT p 1 ++ [41]) := hid (by rw [printT_one, coreS_grp hk, hwd])
  have HPL : Hid ((printT p 1).length ≤ wT p) := hid (printT_len p _ hwf.2.2.2.2.2.2.2.2.2.2.1)
  have HW : Hid (WB w B b l) := hw
  have HT : Hid (PowTab w) := ht
  have HB : Hid (20 ≤ B) := hB
  have HL : Hid (l.length + 24 + nw a.by_ + wT p ≤ big) := hid (by have h1 : ownW a + wT p + wT q = wT (.node x y a p q) := rfl; unfold ownW at h1; omega)
  have HZ : Hid (PartV w p z) := hz
  have HNS : Hid (NamesV w (.slice la ln lc) a.by_) := hns
  have hwl : wd.size ≤ 5 := by rw [size_of_bl hwd]; exact getD_len groupWords (by decide) a.op
  obtain ⟨ty, u, hsh⟩ := PartV.shape hz
  subst hsh
  obtain ⟨js, hjs⟩ : ∃ js : ByteArray, js = ⟨(commas a.by_).toArray⟩ := ⟨_, rfl⟩
  have HJB : Hid (bl js = commas a.by_) := hid (by rw [hjs, bl_mk])
  have HJL : Hid (js.size ≤ nw a.by_) := hid (by rw [size_of_bl HJB.out]; exact commas_len _)
  have hjl : js.size ≤ 1000000 := by have h1 := HJL.out; have h2 := HL.out; unfold big at h2; omega
  have a1 : ∀ W, (Op.stringOp .add wd ⟨#[32, 98, 121, 32, 40]⟩).run Tryz.prog W = .ok (.string (wd ++ ⟨#[32, 98, 121, 32, 40]⟩)) W := fun W => run_string_add_sum W _ _ (by show wd.size + 5 ≤ _; omega)
  have HS1 : Hid ((wd ++ ⟨#[32, 98, 121, 32, 40]⟩ : ByteArray).size = wd.size + 5) := hid (by rw [ByteArray.size_append]; rfl)
  have a2 : ∀ W, (Op.stringOp .add (wd ++ ⟨#[32, 98, 121, 32, 40]⟩) js).run Tryz.prog W = .ok (.string ((wd ++ ⟨#[32, 98, 121, 32, 40]⟩) ++ js)) W := fun W => run_string_add_sum W _ _ (by rw [HS1.out]; omega)
  have HS2 : Hid (((wd ++ ⟨#[32, 98, 121, 32, 40]⟩) ++ js : ByteArray).size = wd.size + 5 + js.size) := hid (by rw [ByteArray.size_append, HS1.out])
  have a3 : ∀ W, (Op.stringOp .add ((wd ++ ⟨#[32, 98, 121, 32, 40]⟩) ++ js) ⟨#[41, 32, 40]⟩).run Tryz.prog W = .ok (.string (((wd ++ ⟨#[32, 98, 121, 32, 40]⟩) ++ js) ++ ⟨#[41, 32, 40]⟩)) W := fun W => run_string_add_sum W _ _ (by rw [HS2.out]; show _ + 3 ≤ _; omega)
  have HS3 : Hid ((((wd ++ ⟨#[32, 98, 121, 32, 40]⟩) ++ js) ++ ⟨#[41, 32, 40]⟩ : ByteArray).size = wd.size + 5 + js.size + 3) := hid (by rw [ByteArray.size_append, HS2.out]; rfl)
  clear hw ht hB hl hk hz hwf hwd hns hjs
  go_enter Tryz.func38, Tryz.ntmps38
  go_upto_region 15 with fail
  refine wp_gen fun W hW => ?_
  have hbW : Below w.heap.size w W := by rw [hW]; exact (Below.refl _ _).alloc (Nat.le_refl _) _
  have HP0 : Hid (BAt W w.heap.size [.string wd, .slice la ln lc, .iface ty u] 156) := hid (by rw [hW]; exact Go.Deep.blk_alloc_new _ _)
  have HWW : Hid (WB W B b l) := HW.out.below hbW
  have HKW : Hid (WK B b w W) := WK.below hbW HW.out.le
  have HZW : Hid (PartV W p (.iface ty u)) := HZ.out.below hbW
  have HNW : Hid (NamesV W (.slice la ln lc) a.by_) := HNS.out.below hbW
  clear hW hbW
  have p0 := HP0.out.cell 0
  have p1 := HP0.out.cell 1
  have p2 := HP0.out.cell 2
  simp only [List.getElem?_cons_zero, List.getElem?_cons_succ] at p0 p1 p2
  have HJC : Hid (∀ w', Below W.heap.size W w' → Calls Tryz.prog 82 #[.slice la ln lc, .string ⟨#[44]⟩] w' fun e w'' => e = .returned (.string js) ∧ Below w'.heap.size w' w'') := hid (by
    intro w' hw'
    refine (join_t la ln lc a.by_ (HNW.out.below hw') (by have h2 := HL.out; unfold big at h2; omega)).mono ?_
    rintro e w'' ⟨s, rfl, hs, hb⟩
    exact ⟨by rw [bl_inj (hs.out.trans HJB.out.symm)], hb⟩)
  have HBD : Hid (Below W.heap.size W W.drew) := hid ((Below.refl _ _).drew)
  go_region_held3 (fun w' => w'.cell? ⟨w.heap.size, 0, none⟩ = some (.string wd) ∧ w'.cell? ⟨w.heap.size, 1, none⟩ = some (.slice la ln lc) ∧ w'.cell? ⟨w.heap.size, 2, none⟩ = some (.iface ty u)) (first | exact ⟨e0, e1, e2⟩ | exact ⟨d0, d1, d2⟩ | exact ⟨p0, p1, p2⟩ | go_keep) (first
    | (go_at_call 82
       refine (HJC.out _ HBD.out).mono ?_
       rintro e w5 ⟨rfl, hb5⟩
       have HB5 : Hid (Below W.heap.size W w5) := hid ⟨hb5.os, hb5.tape, hb5.output, hb5.size, hb5.block⟩
       have HP5 := hid (HP0.out.below HB5.out)
       have d0 := HP5.out.cell 0
       have d1 := HP5.out.cell 1
       have d2 := HP5.out.cell 2
       simp only [List.getElem?_cons_zero, List.getElem?_cons_succ] at d0 d1 d2
       have HK5 : Hid (WK B b w w5) := HKW.out.trans (WK.below HB5.out HWW.out.le)
       clear hb5)
    | (go_at_call 77
       refine (put_t (HWW.out.below HB5.out) _ (by rw [HS3.out]; have := HL.out; have := HJL.out; omega)).mono ?_
       rintro e w6 ⟨rfl, HW6, HK6'⟩
       have HP6 := hid (WK.bat (HWW.out.below HB5.out) HK6'.out HP5.out (by decide) (by decide))
       have e0 := HP6.out.cell 0
       have e1 := HP6.out.cell 1
       have e2 := HP6.out.cell 2
       simp only [List.getElem?_cons_zero, List.getElem?_cons_succ] at e0 e1 e2
       have HK6 : Hid (WK B b w w6) := HK5.out.trans HK6'.out
       have HZ6 : Hid (PartV w6 p (.iface ty u)) := hid (PartV.wrote (HWW.out.below HB5.out) HK6'.out (HZW.out.below HB5.out))
       clear HK6'))
  clear p0 p1 p2 d0 d1 d2 HP5 HB5 HK5 HJC
  go_wp2_with fail
  refine (ih w6 _ B b _ HZ6.out HW6.out (HT.out.low HK6.out.low HB.out) HB.out (by rw [List.length_append, bl_length, HS3.out]; have := HL.out; have := HJL.out; omega)).mono ?_
  rintro e w7 ⟨rfl, HW7, HK7'⟩
  have HK7 : Hid (WK B b w w7) := HK6.out.trans HK7'.out
  clear HK7' e0 e1 e2
  go_wp2_with fail
  refine (put_t HW7.out ⟨#[41]⟩ (by simp only [List.length_append, bl_length]; rw [HS3.out]; show _ + 1 ≤ _; have := HL.out; have := HJL.out; have := HPL.out; omega)).mono ?_
  rintro e w8 ⟨rfl, HW8, HK8'⟩
  have HK8 : Hid (WK B b w w8) := HK7.out.trans HK8'.out
  have HWX : Hid (WB w8 B b (l ++ printT (.node x y a p q) 1)) := hid (by
    rw [HX.out, ← HJB.out]
    have := HW8.out
    rw [bl_app, bl_app, bl_app] at this
    simp only [List.append_assoc] at this ⊢
    exact this)
  clear HK8'
  go_wp2
  go_end0
  exact ⟨rfl, HWX, HK8⟩
theorem write_any : ∀ t : Tr, wfT t → WC t
  | .nil, _ => fun _ _ _ _ _ h => h.elim
  | .node x y a p q, hwf => by
    have ihp : WC p := write_any p hwf.2.2.2.2.2.2.2.2.2.2.1
    have ihq : WC q := write_any q hwf.2.2.2.2.2.2.2.2.2.2.2
    have iwp : WW p := within_t hwf.2.2.2.2.2.2.2.2.2.2.1 ihp
    have iwq : WW q := within_t hwf.2.2.2.2.2.2.2.2.2.2.2 ihq
    intro w v B b l hp hw ht hB hl
    rcases hp with ⟨hk, rfl⟩ | ⟨hk, nm, la, ln, lc, rfl, h1, h2⟩ | ⟨hk, wd, nm, la, ln, lc, rfl, h1, h2, h3⟩ | ⟨hk, z, rfl, hz⟩ | ⟨hk, wd, la, ln, lc, z, rfl, h1, h2, hz⟩ | ⟨hk, z1, z2, rfl, hz1, hz2⟩
    · exact wr_num hwf hk w B b l hw ht hB hl
    · exact wr_sel hk nm la ln lc w h1 h2 B b l hw hl
    · exact wr_win hwf hk wd nm la ln lc w h1 h2 h3 B b l hw ht hB hl
    · exact wr_neg hk iwp w z hz B b l hw ht hB hl
    · exact wr_group hwf hk ihp wd la ln lc w z h1 h2 hz B b l hw ht hB hl
    · exact wr_pair hwf hk iwp iwq w z1 z2 hz1 hz2 B b l hw ht hB hl
set_option maxRecDepth 100000 in
set_option maxHeartbeats 4000000 in
theorem sPrint_any {t : Tr} (hwf : wfT t) (hwt : wT t ≤ 100000) (w : World) (v : Value) (hp : PartV w t v) (ht : PowTab w) (hB : 20 ≤ w.heap.size) :
    Calls Tryz.prog 22 #[v] w fun e w' => ∃ s : ByteArray, e = .returned (.string s) ∧ Hid (bl s = printT t 1) ∧ Below w.heap.size w w' := by
  have HWC : Hid (WC t) := write_any t hwf
  have HP : Hid (PartV w t v) := hp
  have HT : Hid (PowTab w) := ht
  have HB : Hid (20 ≤ w.heap.size) := hB
  have HL : Hid (wT t ≤ 100000) := hwt
  obtain ⟨ty, u, hsh⟩ := PartV.shape hp
  subst hsh
  clear hp ht hB hwt hwf
  go_enter Tryz.func22, Tryz.ntmps22
  go_wp2_with fail
  refine calls_gen fun W hW => ?_
  have hbW : Below w.heap.size w W := by rw [hW]; exact (Below.refl _ _).alloc (Nat.le_refl _) _
  have HWW : Hid (WB W w.heap.size w.heap.size []) := hid ⟨Or.inl ⟨Nat.le_refl _, .slice none 0 0, by rw [hW]; exact Go.Deep.blk_alloc_new _ _, ⟨rfl, Or.inl ⟨rfl, rfl⟩⟩, by simp [Value.ownBlock]⟩, hbW.size⟩
  have HBW : Hid (Below w.heap.size w W) := hbW
  have HPW : Hid (PartV W t (.iface ty u)) := HP.out.below hbW
  have HTW : Hid (PowTab W) := HT.out.low hbW HB.out
  clear hW hbW
  refine (HWC.out W _ w.heap.size w.heap.size [] HPW.out HWW.out HTW.out HB.out (by have := HL.out; unfold big; simp; omega)).mono ?_
  rintro e w1 ⟨rfl, HW1, HK1⟩
  have HB1 : Hid (Below w.heap.size w w1) := HBW.out.trans HK1.out.low
  go_wp2_with fail
  refine (Tryz.Builder_String_any_f w.heap.size w.heap.size _ w1 HW1.out.bd HW1.out.le).mono ?_
  rintro e w2 ⟨rfl, _, hb2⟩
  have HB2 : Hid (Below w.heap.size w w2) := HB1.out.trans hb2
  clear hb2
  go_wp2
  go_ret
  exact ⟨_, rfl, hid (by rw [bl_mk]), HB2.out⟩
end Go.Proofs.YtpbemaaghbbocaaGreatDoor
namespace Go.Proofs.YtpbemaaghbbocaaGreatDoor
open Go.RowKit LS
set_option maxRecDepth 100000 in
set_option maxHeartbeats 4000000 in
theorem gPrint_any (s : ByteArray) (A : Nat → Addr) (m : Int) (w : World) (hv : Vars w A m) (ht : PowTab w) (hB : 20 ≤ w.heap.size) (hlim : s.size ≤ 9223372036854775807) :
    Calls Tryz.prog 9 #[.string s] w fun e w' => ∃ (r : ByteArray) (c p : Nat), e = .returned (.tuple #[.string r, .int .i64 c, .int .i64 p]) ∧ Hid (printQ (bl s) = (bl r, c, p)) ∧ Hid ((∃ t, readQ (bl s) = .ok t) ∨ c ≠ 0) ∧ Below w.heap.size w w' := by
  have HR : Hid (Calls Tryz.prog 19 #[.string s] w _) := sRead_any s w hlim hv.sents
  have HV : Hid (Vars w A m) := hv
  have HT : Hid (PowTab w) := ht
  have HBn : Hid (20 ≤ w.heap.size) := hB
  clear hv ht hB
  go_enter Tryz.func9, Tryz.ntmps9
  go_wp2_with fail
  refine HR.out.mono ?_
  rintro e w1 ⟨pv, v, rfl, hres, hb1⟩
  have HB1 : Hid (Below w.heap.size w w1) := hb1
  have HV1 : Hid (Vars w1 A m) := HV.out.below hb1
  have HT1 : Hid (PowTab w1) := HT.out.low hb1 HBn.out
  have HB1n : Hid (20 ≤ w1.heap.size) := Nat.le_trans HBn.out hb1.size
  clear hb1 HR
  cases hq : readQ (bl s) with
  | ok t =>
    rw [hq] at hres
    obtain ⟨rfl, hpv⟩ := hres.out
    obtain ⟨hwf, hnil, hwt⟩ := readQ_wf hq
    have HQ : Hid (printQ (bl s) = (printT t 1, 0, 0)) := hid (by unfold printQ; rw [hq])
    have HX : Hid (∃ t, readQ (bl s) = .ok t) := hid ⟨t, hq⟩
    have HC : Hid (Calls Tryz.prog 22 #[pv] w1 _) := sPrint_any hwf hwt w1 pv hpv HT1.out HB1n.out
    obtain ⟨ty, u, hsh⟩ := PartV.shape hpv
    subst hsh
    clear hres hq hpv hwf hnil hwt
    go_wp2_with fail
    refine HC.out.mono ?_
    rintro e w2 ⟨r, rfl, hr, hb2⟩
    have HB2 : Hid (Below w.heap.size w w2) := HB1.out.trans (hb2.mono HB1.out.size)
    clear hb2 HC
    go_wp2
    go_ret3
    exact ⟨r, 0, 0, rfl, hid (by rw [HQ.out, hr.out]), hid (Or.inl HX.out), HB2.out⟩
  | error x =>
    rw [hq] at hres
    have HQ : Hid (printQ (bl s) = ([], x.1, x.2)) := hid (by unfold printQ; rw [hq])
    clear hq
    rcases hres.out with ⟨rfl, rfl⟩ | ⟨rfl, rfl⟩ | ⟨hx, he⟩ | ⟨hx, he⟩
    · clear hres
      go_wp2_with fail
      refine (number_long A m _ HV1.out).mono ?_
      rintro e wq ⟨rfl, rfl⟩
      go_wp2_with fail
      refine (place_bare A m _ _ HV1.out).mono ?_
      rintro e w2 ⟨rfl, hb2⟩
      have HB2 : Hid (Below w.heap.size w w2) := HB1.out.trans (hb2.mono HB1.out.size)
      clear hb2
      go_wp2
      go_ret3
      exact ⟨⟨#[]⟩, 1, 0, rfl, HQ, hid (Or.inr (by decide)), HB2.out⟩
    · clear hres
      go_wp2_with fail
      refine (number_type A m _ HV1.out).mono ?_
      rintro e wq ⟨rfl, rfl⟩
      go_wp2_with fail
      refine (place_bare A m _ _ HV1.out).mono ?_
      rintro e w2 ⟨rfl, hb2⟩
      have HB2 : Hid (Below w.heap.size w w2) := HB1.out.trans (hb2.mono HB1.out.size)
      clear hb2
      go_wp2
      go_ret3
      exact ⟨⟨#[]⟩, 4, 0, rfl, HQ, hid (Or.inr (by decide)), HB2.out⟩
    · obtain ⟨x1, x2⟩ := x
      simp only at hx he
      subst hx
      obtain ⟨fa, rfl, hc1, hc2⟩ := he.cells
      clear hres he
      have HC1 : Hid (w1.cell? ⟨fa, 1, none⟩ = some (.int .i64 x2)) := hc1
      have HC2 := hid hc2
      clear hc1 hc2
      go_wp2_with fail
      refine (number_syntax A m _ HV1.out fa HC2.out).mono ?_
      rintro e wq ⟨rfl, rfl⟩
      go_wp2_with fail
      refine (place_fault A m fa x2 _ HV1.out HC1.out).mono ?_
      rintro e w2 ⟨rfl, hb2⟩
      have HB2 : Hid (Below w.heap.size w w2) := HB1.out.trans (hb2.mono HB1.out.size)
      clear hb2
      go_wp2
      go_ret3
      exact ⟨⟨#[]⟩, 2, x2, rfl, HQ, hid (Or.inr (by decide)), HB2.out⟩
    · obtain ⟨x1, x2⟩ := x
      simp only at hx he
      subst hx
      obtain ⟨fa, rfl, hc1, hc2⟩ := he.cells
      clear hres he
      have HC1 : Hid (w1.cell? ⟨fa, 1, none⟩ = some (.int .i64 x2)) := hc1
      have HC2 := hid hc2
      clear hc1 hc2
      go_wp2_with fail
      refine (number_deep A m _ HV1.out fa HC2.out).mono ?_
      rintro e wq ⟨rfl, rfl⟩
      go_wp2_with fail
      refine (place_fault A m fa x2 _ HV1.out HC1.out).mono ?_
      rintro e w2 ⟨rfl, hb2⟩
      have HB2 : Hid (Below w.heap.size w w2) := HB1.out.trans (hb2.mono HB1.out.size)
      clear hb2
      go_wp2
      go_ret3
      exact ⟨⟨#[]⟩, 3, x2, rfl, HQ, hid (Or.inr (by decide)), HB2.out⟩
set_option linter.unusedSimpArgs false in
set_option maxRecDepth 100000 in
set_option maxHeartbeats 8000000 in
theorem evaluate_any (q s : ByteArray) (f l st : Int) (A : Nat → Addr) (m : Int) (w : World) (hv : Vars w A m) (ht : PowTab w) (hB : 20 ≤ w.heap.size) (hq : q.size ≤ 9223372036854775807) (hs : s.size ≤ maxLen) :
    Calls Tryz.prog 23 #[.string q, .string s, .agg #[.int .i64 f, .int .i64 l, .int .i64 st]] w fun e w' => ∃ (r : ByteArray) (err : Value) (c p : Nat), e = .returned (.tuple #[.string r, err]) ∧ Hid (EvErr w' A err c p) ∧ Hid (evalQ (bl q) (bl s) f l st = (bl r, c, p)) ∧ Below w.heap.size w w' := by
  have HRD : Hid (∀ W, Below w.heap.size w W → Calls Tryz.prog 19 #[.string q] W _) := hid (fun W hb => sRead_any q W hq (hv.below hb).sents)
  have HLD : Hid (∀ W, Below w.heap.size w W → Calls Tryz.prog 24 #[.string s] W _) := hid (fun W hb => sread_any s A m W (hv.below hb) hs)
  have HTD : Hid (∀ W, Below w.heap.size w W → Calls Tryz.prog 40 #[.agg #[.int .i64 f, .int .i64 l, .int .i64 st]] W _) := hid (fun W hb => ptimes_any f l st (A 7) W ((hv.below hb).sent _ (by decide)))
  have HT : Hid (PowTab w) := ht
  have HBn : Hid (20 ≤ w.heap.size) := hB
  clear hv ht hB hq hs
  go_enter Tryz.func23, Tryz.ntmps23
  go_wp2_with fail
  refine calls_gen fun W hW => ?_
  have hbW : Below w.heap.size w W := by rw [hW]; exact (Below.refl _ _).alloc (Nat.le_refl _) _
  have HBX : Hid (BAt W w.heap.size [.int .i64 f, .int .i64 l, .int .i64 st] 23) := hid (by rw [hW]; exact Go.Deep.blk_alloc_new _ _)
  refine (HRD.out W hbW).mono ?_
  rintro e w1 ⟨pv, v, rfl, hres, hb1⟩
  have HB1 : Hid (Below w.heap.size w w1) := hid (hbW.trans (hb1.mono hbW.size))
  have HBX1 := hid (HBX.out.below hb1)
  clear hb1 HRD hbW hW HBX
  cases hq : readQ (bl q) with
  | error x =>
    obtain ⟨he, ty, u, rfl⟩ := EvErr.rd hq hres.out
    have HE := hid he
    have HQ : Hid (evalQ (bl q) (bl s) f l st = ([], x.1, x.2)) := hid (by unfold evalQ; rw [hq])
    clear hres hq he
    go_wp2
    go_ret2
    exact ⟨_, _, _, _, rfl, HE, HQ, HB1.out⟩
  | ok t =>
    rw [hq] at hres
    obtain ⟨rfl, hpv⟩ := hres.out
    obtain ⟨ty, u, rfl⟩ := hpv.shape
    have HPV := hid hpv
    have HWF := hid (readQ_wf hq)
    have HWN := hid (readQ_win hq)
    have HEQ : Hid (∀ x, (if (loadRes (bl s)).1 ≠ 0 then ([], (loadRes (bl s)).1, (loadRes (bl s)).2) else match timesV f l st with
      | none => ([], 8, 0)
      | some ts => (joinN (ts.map (lineAt (storeS (bl s)) t)), 0, 0)) = x → evalQ (bl q) (bl s) f l st = x) := hid (fun x hx => by unfold evalQ; rw [hq]; exact hx)
    clear hres hq hpv
    go_wp2_with fail
    refine (HLD.out w1 HB1.out).mono ?_
    rintro e w2 ⟨sv, err, rfl, HLE, hb2, HRV⟩
    have HB2 : Hid (Below w.heap.size w w2) := hid (HB1.out.trans (hb2.mono HB1.out.size))
    have HPV2 := hid (HPV.out.keepsC (KeepsC.below hb2))
    have HBX2 := hid (HBX1.out.below hb2)
    clear hb2 HLD HBX1 HPV HB1
    rcases EvErr.ld HLE.out with ⟨h0, rfl⟩ | ⟨h0, he, ty', u', rfl⟩
    · obtain ⟨ss, hsto, hser, hdst, hlen⟩ := (HRV.out h0).sto h0
      obtain ⟨sa, scp, rfl⟩ := own_shape hsto.row
      have HSP := hid hsto
      have HSR := hid hser
      have HDS := hid hdst
      have HLN := hid hlen
      have H0 := hid h0
      clear HLE HRV hsto hser hdst hlen h0
      have x0 := HBX2.out.cell 0
      have x1 := HBX2.out.cell 1
      have x2 := HBX2.out.cell 2
      simp only [List.getElem?_cons_zero, List.getElem?_cons_succ] at x0 x1 x2
      go_wp2_with fail
      clear x0 x1 x2
      refine (HTD.out w2 HB2.out).mono ?_
      rintro e w3 ⟨tv, ev, rfl, HTP, hb3⟩
      have HB3 : Hid (Below w.heap.size w w3) := hid (HB2.out.trans (hb3.mono HB2.out.size))
      have HPV3 := hid (HPV2.out.keepsC (KeepsC.below hb3))
      have HSP3 := hid (HSP.out.below hb3)
      clear hb3 HTD HPV2 HSP HBX2 HB2
      rcases HTP.out with ⟨h1, rfl, rfl⟩ | ⟨ts, h1, h2, h3, rfl, h4⟩
      · have HQ : Hid (evalQ (bl q) (bl s) f l st = ([], 8, 0)) := hid (HEQ.out _ (by rw [if_neg (by rw [H0.out]; simp), h1]))
        clear HTP h1
        go_wp2
        go_ret2
        exact ⟨_, _, 8, 0, rfl, hid (Or.inr (Or.inr (Or.inr (Or.inr (Or.inl ⟨rfl, rfl, rfl⟩))))), HQ, HB3.out⟩
      · obtain ⟨ta, tcp, rfl⟩ := own_shape h4
        have HQ : Hid (evalQ (bl q) (bl s) f l st = (joinN (ts.map (lineAt (ss.map Srs.ser) t)), 0, 0)) := hid (HEQ.out _ (by rw [if_neg (by rw [H0.out]; simp), h1, HSR.out]))
        have HAN : Hid (Calls Tryz.prog 41 #[.iface ty u, .slice sa ss.length scp, .slice ta ts.length tcp] w3 _) := hid (answer_any t ts ss (.iface ty u) (.slice sa ss.length scp) (.slice ta ts.length tcp) w3 h2 h3 h4 HPV3.out HSP3.out
          (fun x mb gb tm a b => says_any a b HDS.out HLN.out t HWF.out.1 HWF.out.2.2 HWN.out.1 HWF.out.2.1 HWN.out.2)
          (fun tm => (say_ok HDS.out tm t).mono (by rw [List.length_map]; exact HLN.out)) (HT.out.low HB3.out HBn.out) (Nat.le_trans HBn.out HB3.out.size))
        clear HTP h1 h2 h3 h4
        go_wp2_with fail
        refine HAN.out.mono ?_
        rintro e w4 ⟨r4, rfl, HR4, hb4⟩
        have HB4 : Hid (Below w.heap.size w w4) := hid (HB3.out.trans (hb4.mono HB3.out.size))
        clear hb4 HAN
        go_wp2
        go_ret2
        exact ⟨r4, _, 0, 0, rfl, hid (Or.inl ⟨rfl, rfl, rfl⟩), hid (by rw [HQ.out, HR4.out]), HB4.out⟩
    · have HE := hid he
      have HQ : Hid (evalQ (bl q) (bl s) f l st = ([], (loadRes (bl s)).1, (loadRes (bl s)).2)) := hid (HEQ.out _ (by rw [if_pos h0]))
      clear HLE HRV he h0
      go_wp2
      go_ret2
      exact ⟨_, _, _, _, rfl, HE, HQ, HB2.out⟩
end Go.Proofs.YtpbemaaghbbocaaGreatDoor

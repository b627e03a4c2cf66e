/- Parts. -/
import Derived.Test.YtkodhpilkaihjaaGreatDoorV21
import Derived.Test.YtkodhpilkaihjaaGreatDoorV00
import Derived.Lib.SplitLaws
import Derived.Lib.IndexMore
import Derived.Test.YtkodhpilkaihjaaGreatDoorVX
namespace Go.Proofs.YtkodhpilkaihjaaGreatDoor
open Go.RowKit LS
attribute [local go_sem ↓] Go.wp_at_zero Go.wp_at_succ
attribute [local go_sem] asNumberNumber asNumberNegative asNumberPair asNumberGroup asNumberWindow asNumberSelector asNegativeNumber asNegativeNegative asNegativePair asNegativeGroup asNegativeWindow asNegativeSelector asPairNumber asPairNegative asPairPair asPairGroup asPairWindow asPairSelector asGroupNumber asGroupNegative asGroupPair asGroupGroup asGroupWindow asGroupSelector asWindowNumber asWindowNegative asWindowPair asWindowGroup asWindowWindow asWindowSelector asSelectorNumber asSelectorNegative asSelectorPair asSelectorGroup asSelectorWindow asSelectorSelector
theorem coreS_num{a:Nd}(h:a.kind=0)(pl pr:Nat→List UInt8):coreS a pl pr=decS a.n.toNat:=by unfold coreS;rw[if_pos h]
theorem coreS_sel{a:Nd}(h:a.kind=1)(pl pr:Nat→List UInt8):coreS a pl pr=selS a:=by unfold coreS;rw[if_neg (by omega),if_pos h]
theorem coreS_win{a:Nd}(h:a.kind=2)(pl pr:Nat→List UInt8):coreS a pl pr=overWords.getD a.op []++[40]++selS a++[91]++decS a.n.toNat++[93,41]:=by unfold coreS;rw[if_neg (by omega),if_neg (by omega),if_pos h]
theorem coreS_neg{a:Nd}(h:a.kind=3)(pl pr:Nat→List UInt8):coreS a pl pr=[45]++pl 4:=by unfold coreS;rw[if_neg (by omega),if_neg (by omega),if_neg (by omega),if_pos h]
theorem coreS_grp{a:Nd}(h:a.kind=5)(pl pr:Nat→List UInt8):coreS a pl pr=groupWords.getD a.op []++[32,98,121,32,40]++commas a.by_++[41,32,40]++pl 1++[41]:=by unfold coreS;rw[if_neg (by omega),if_neg (by omega),if_neg (by omega),if_neg (by omega),if_pos h]
theorem dec_len{n:Int}(h:n≤1000000000):(decS n.toNat).length≤10:=by
 refine decS_len 9 _ ?_
 have h1:n.toNat≤1000000000:=by omega
 have h2:(10:Nat) ^ 10=10000000000:=by decide
 omega
set_option maxRecDepth 100000 in
set_option maxHeartbeats 8000000 in
theorem wr_num{x y:Nat}{a:Nd}{p q:Tr}(hwf:wfT (.node x y a p q))(hk:a.kind=0)(w:World)(B b:Nat)(l:List UInt8)(hw:WB w B b l)(ht:PowTab w)(hB:20≤B)(hl:l.length+wT (.node x y a p q)≤big) :
  Calls Tryz.prog 72 #[.pointer (some ⟨b,0,none⟩),.iface 270 (.agg #[.int .i64 a.n])] w fun e w'=>e=.returned (.tuple #[])∧Hid (WB w' B b (l++printT (.node x y a p q) 1))∧Hid (WK B b w w'):=by
 have HX:Hid (printT (.node x y a p q) 1=decS a.n.toNat):=hid (by rw[printT_one,coreS_num hk])
 have HW:Hid (WB w B b l):=hw
 have HT:Hid (PowTab w):=ht
 have HB:Hid (20≤B):=hB
 have HN:Hid (0≤a.n∧a.n≤1000000000):=⟨hwf.2.2.2.2.1,hwf.2.2.2.2.2.1⟩
 have HL:Hid (l.length+24≤big):=hid (by have h1:ownW a+wT p+wT q=wT (.node x y a p q):=rfl;unfold ownW at h1;omega)
 obtain⟨n,hn⟩:∃n,n=a.n:=⟨_,rfl⟩
 rw[←hn]at HN HX ⊢
 clear hw ht hB hl hwf hk hn
 go_enter Tryz.func72,Tryz.ntmps72
 go_wp2_with fail
 refine calls_gen fun W hW=>?_
 have hbW:Below w.heap.size w W:=by rw[hW];exact(Below.refl _ _).alloc (Nat.le_refl _) _
 have HWW:Hid (WB W B b l):=HW.out.below hbW
 have HKW:Hid (WK B b w W):=WK.below hbW HW.out.le
 have HTW:Hid (PowTab W):=HT.out.low HKW.out.low HB.out
 clear hW hbW
 refine(itoa_t HTW.out n HN.out.1 HN.out.2).mono ?_
 rintro e w1 ⟨s,rfl,hs,hb1⟩
 have HW1:Hid (WB w1 B b l):=HWW.out.below hb1
 have HK1:Hid (WK B b w w1):=HKW.out.trans (WK.below hb1 HWW.out.le)
 clear hb1
 go_wp2_with fail
 refine(put_t HW1.out s (by rw[size_of_bl hs.out];have:=dec_len HN.out.2;have:=HL.out;omega)).mono ?_
 rintro e w2 ⟨rfl,HW2,HK2'⟩
 have HK2:Hid (WK B b w w2):=HK1.out.trans HK2'.out
 clear HK2'
 go_wp2
 go_end0
 exact⟨rfl,by rw[HX.out,←hs.out];exact HW2,HK2⟩
set_option maxRecDepth 100000 in
set_option maxHeartbeats 8000000 in
theorem wr_sel{x y:Nat}{a:Nd}{p q:Tr}(hk:a.kind=1)(nm:ByteArray)(la:Option Addr)(ln lc:Nat)(w:World)(hnm:bl nm=a.name)(hc:CondsV w (.slice la ln lc) a.conds)(B b:Nat)(l:List UInt8)(hw:WB w B b l)(hl:l.length+wT (.node x y a p q)≤big) :
  Calls Tryz.prog 72 #[.pointer (some ⟨b,0,none⟩),.iface 281 (.agg #[.string nm,.slice la ln lc])] w fun e w'=>e=.returned (.tuple #[])∧Hid (WB w' B b (l++printT (.node x y a p q) 1))∧Hid (WK B b w w'):=by
 have HX:Hid (printT (.node x y a p q) 1=selS a):=hid (by rw[printT_one,coreS_sel hk])
 have HW:Hid (WB w B b l):=hw
 have HNM:Hid (bl nm=a.name):=hnm
 have HC:Hid (CondsV w (.slice la ln lc) a.conds):=hc
 have HL:Hid (l.length+a.name.length+cw a.conds+10≤big):=hid (by have h1:ownW a+wT p+wT q=wT (.node x y a p q):=rfl;unfold ownW at h1;omega)
 clear hw hl hk hnm hc
 go_enter Tryz.func72,Tryz.ntmps72
 go_wp2_with fail
 refine calls_gen fun W hW=>?_
 have hbW:Below w.heap.size w W:=by rw[hW];exact(Below.refl _ _).alloc (Nat.le_refl _) _
 have HWW:Hid (WB W B b l):=HW.out.below hbW
 have HKW:Hid (WK B b w W):=WK.below hbW HW.out.le
 have HCW:Hid (CondsV W (.slice la ln lc) a.conds):=HC.out.below hbW
 clear hW hbW
 refine(wsel_t HWW.out nm la ln lc a HNM.out HCW.out HL.out).mono ?_
 rintro e w2 ⟨rfl,HW2,HK2'⟩
 have HK2:Hid (WK B b w w2):=HKW.out.trans HK2'.out
 clear HK2'
 go_wp2
 go_end0
 exact⟨rfl,by rw[HX.out];exact HW2,HK2⟩
set_option maxRecDepth 100000 in
set_option maxHeartbeats 8000000 in
theorem wr_win{x y:Nat}{a:Nd}{p q:Tr}(hwf:wfT (.node x y a p q))(hk:a.kind=2)(wd nm:ByteArray)(la:Option Addr)(ln lc:Nat)(w:World)(hwd:bl wd=overWords.getD a.op [])(hnm:bl nm=a.name)(hc:CondsV w (.slice la ln lc) a.conds)(B b:Nat)(l:List UInt8)(hw:WB w B b l)(ht:PowTab w)(hB:20≤B)(hl:l.length+wT (.node x y a p q)≤big) :
  Calls Tryz.prog 72 #[.pointer (some ⟨b,0,none⟩),.iface 283 (.agg #[.string wd,.string nm,.slice la ln lc,.int .i64 a.n])] w fun e w'=>e=.returned (.tuple #[])∧Hid (WB w' B b (l++printT (.node x y a p q) 1))∧Hid (WK B b w w'):=by
 have HX:Hid (printT (.node x y a p q) 1=bl wd++[40]++selS a++[91]++decS a.n.toNat++[93,41]):=hid (by rw[printT_one,coreS_win hk,hwd])
 have HW:Hid (WB w B b l):=hw
 have HT:Hid (PowTab w):=ht
 have HB:Hid (20≤B):=hB
 have HN:Hid (0≤a.n∧a.n≤1000000000):=⟨hwf.2.2.2.2.1,hwf.2.2.2.2.2.1⟩
 have HNM:Hid (bl nm=a.name):=hnm
 have HC:Hid (CondsV w (.slice la ln lc) a.conds):=hc
 have hwl:wd.size≤5:=by rw[size_of_bl hwd];exact getD_len overWords (by decide) a.op
 have HL:Hid (l.length+a.name.length+cw a.conds+24≤big):=hid (by have h1:ownW a+wT p+wT q=wT (.node x y a p q):=rfl;unfold ownW at h1;omega)
 have HSL:Hid ((selS a).length≤a.name.length+cw a.conds+2):=hid (selS_len a)
 obtain⟨n,hn⟩:∃n,n=a.n:=⟨_,rfl⟩
 rw[←hn]at HN HX ⊢
 have a1:∀W,(Op.stringOp .add wd ⟨#[40]⟩).run Tryz.prog W=.ok (.string (wd++⟨#[40]⟩)) W:=fun W=>run_string_add_sum W _ _ (by show wd.size+1≤_;omega)
 have HS1:Hid ((wd++⟨#[40]⟩:ByteArray).size=wd.size+1):=hid (by rw[ByteArray.size_append];rfl)
 clear hw ht hB hl hwf hk hn hwd hnm hc
 go_enter Tryz.func72,Tryz.ntmps72
 go_upto_region 20 with fail
 refine wp_gen fun W hW=>?_
 have hbW:Below w.heap.size w W:=by rw[hW];exact(Below.refl _ _).alloc (Nat.le_refl _) _
 have HP0:Hid (BAt W w.heap.size [.string wd,.string nm,.slice la ln lc,.int .i64 n] 283):=hid (by rw[hW];exact Go.Deep.blk_alloc_new _ _)
 have HWW:Hid (WB W B b l):=HW.out.below hbW
 have HKW:Hid (WK B b w W):=WK.below hbW HW.out.le
 have HCW:Hid (CondsV W (.slice la ln lc) a.conds):=HC.out.below hbW
 clear hW hbW
 have p0:=HP0.out.cell 0
 simp only[List.getElem?_cons_zero]at p0
 go_wp2_with fail
 refine(put_t HWW.out _ (by rw[HS1.out];have:=HL.out;omega)).mono ?_
 rintro e w1 ⟨rfl,HW1,HK1'⟩
 have HK1:Hid (WK B b w w1):=HKW.out.trans HK1'.out
 have HP1:=hid (WK.bat HWW.out HK1'.out HP0.out (by decide) (by decide))
 have HC1:Hid (CondsV w1 (.slice la ln lc) a.conds):=hid (HCW.out.wrote HWW.out HK1'.out)
 clear HK1' p0 HP0 HWW HKW HCW
 have p1:=HP1.out.cell 1
 have p2:=HP1.out.cell 2
 simp only[List.getElem?_cons_zero,List.getElem?_cons_succ]at p1 p2
 go_wp2_with fail
 refine(wsel_t HW1.out nm la ln lc a HNM.out HC1.out (by rw[List.length_append,bl_length,HS1.out];have:=HL.out;omega)).mono ?_
 rintro e w2 ⟨rfl,HW2,HK2'⟩
 have HK2:Hid (WK B b w w2):=HK1.out.trans HK2'.out
 have HP2:=hid (WK.bat HW1.out HK2'.out HP1.out (by decide) (by decide))
 have HT2:Hid (PowTab w2):=HT.out.low HK2.out.low HB.out
 clear HK2' p1 p2 HP1 HW1 HK1 HC1
 have p3:=HP2.out.cell 3
 simp only[List.getElem?_cons_zero,List.getElem?_cons_succ]at p3
 go_wp2_with fail
 refine(itoa_t HT2.out n HN.out.1 HN.out.2).mono ?_
 rintro e w3 ⟨s,rfl,hs,hb3⟩
 have HW3:=hid (HW2.out.below hb3)
 have HK3:Hid (WK B b w w3):=HK2.out.trans (WK.below hb3 HW2.out.le)
 have hss:s.size≤10:=by rw[size_of_bl hs.out];exact dec_len HN.out.2
 have b1:∀W,(Op.stringOp .add ⟨#[91]⟩ s).run Tryz.prog W=.ok (.string (⟨#[91]⟩++s)) W:=fun W=>run_string_add_sum W _ _ (by show 1+s.size≤_;omega)
 have HS2:Hid ((⟨#[91]⟩++s:ByteArray).size=1+s.size):=hid (by rw[ByteArray.size_append];rfl)
 have b2:∀W,(Op.stringOp .add (⟨#[91]⟩++s) ⟨#[93,41]⟩).run Tryz.prog W=.ok (.string ((⟨#[91]⟩++s)++⟨#[93,41]⟩)) W:=fun W=>run_string_add_sum W _ _ (by rw[HS2.out];show _+2≤_;omega)
 have HS3:Hid (((⟨#[91]⟩++s)++⟨#[93,41]⟩:ByteArray).size=1+s.size+2):=hid (by rw[ByteArray.size_append,HS2.out];rfl)
 clear hb3 p3 HW2 HK2 HT2
 go_wp2_with fail
 refine(put_t HW3.out _ (by rw[HS3.out];simp only[List.length_append,bl_length];rw[HS1.out];have:=HL.out;have:=HSL.out;omega)).mono ?_
 rintro e w4 ⟨rfl,HW4,HK4'⟩
 have HK4:Hid (WK B b w w4):=HK3.out.trans HK4'.out
 have HW5:Hid (WB w4 B b (l++printT (.node x y a p q) 1)):=hid (by
  rw[HX.out,←hs.out]
  have:=HW4.out
  rw[bl_app,bl_app,bl_app]at this
  simp only[List.append_assoc]at this ⊢
  exact this)
 clear HK4' HW4
 go_wp2
 go_end0
 exact⟨rfl,HW5,HK4⟩
set_option maxRecDepth 100000 in
set_option maxHeartbeats 8000000 in
theorem wr_neg{x y:Nat}{a:Nd}{p q:Tr}(hk:a.kind=3)(ih:WW p)(w:World)(z:Value)(hz:PartV w p z)(B b:Nat)(l:List UInt8)(hw:WB w B b l)(ht:PowTab w)(hB:20≤B)(hl:l.length+wT (.node x y a p q)≤big) :
  Calls Tryz.prog 72 #[.pointer (some ⟨b,0,none⟩),.iface 272 (.agg #[z])] w fun e w'=>e=.returned (.tuple #[])∧Hid (WB w' B b (l++printT (.node x y a p q) 1))∧Hid (WK B b w w'):=by
 have HX:Hid (printT (.node x y a p q) 1=[45]++printT p 4):=hid (by rw[printT_one,coreS_neg hk])
 have HW:Hid (WB w B b l):=hw
 have HT:Hid (PowTab w):=ht
 have HB:Hid (20≤B):=hB
 have HL:Hid (l.length+24+wT p≤big):=hid (by have h1:ownW a+wT p+wT q=wT (.node x y a p q):=rfl;unfold ownW at h1;omega)
 have HZ:Hid (PartV w p z):=hz
 obtain⟨ty,u,hsh⟩:=PartV.shape hz
 subst hsh
 clear hw ht hB hl hk hz
 go_enter Tryz.func72,Tryz.ntmps72
 go_upto_region 6 with fail
 refine wp_gen fun W hW=>?_
 have hbW:Below w.heap.size w W:=by rw[hW];exact(Below.refl _ _).alloc (Nat.le_refl _) _
 have HP0:Hid (BAt W w.heap.size [.iface ty u] 272):=hid (by rw[hW];exact Go.Deep.blk_alloc_new _ _)
 have HWW:Hid (WB W B b l):=HW.out.below hbW
 have HKW:Hid (WK B b w W):=WK.below hbW HW.out.le
 have HZW:Hid (PartV W p (.iface ty u)):=HZ.out.below hbW
 clear hW hbW
 go_wp2_with fail
 refine(put_t HWW.out ⟨#[45]⟩ (by have:=HL.out;show _+1≤_;omega)).mono ?_
 rintro e w1 ⟨rfl,HW1,HK1'⟩
 have HK1:Hid (WK B b w w1):=HKW.out.trans HK1'.out
 have HP1:=hid (WK.bat HWW.out HK1'.out HP0.out (by decide) (by decide))
 have HZ1:Hid (PartV w1 p (.iface ty u)):=hid (PartV.wrote HWW.out HK1'.out HZW.out)
 have HT1:Hid (PowTab w1):=HT.out.low HK1.out.low HB.out
 clear HK1' HP0 HWW HKW HZW
 have p0:=HP1.out.cell 0
 simp only[List.getElem?_cons_zero]at p0
 go_wp2_with fail
 refine(ih w1 _ B b _ 3 HZ1.out HW1.out HT1.out HB.out (by rw[List.length_append,bl_length];have:=HL.out;show _+1+_+2≤_;omega)).mono ?_
 rintro e w2 ⟨rfl,HW2,HK2'⟩
 have HK2:Hid (WK B b w w2):=HK1.out.trans HK2'.out
 have HW3:Hid (WB w2 B b (l++printT (.node x y a p q) 1)):=hid (by rw[HX.out,←List.append_assoc];exact HW2.out)
 clear HK2' HW2
 go_wp2
 go_end0
 exact⟨rfl,HW3,HK2⟩
end Go.Proofs.YtkodhpilkaihjaaGreatDoor
namespace Go.Proofs.YtkodhpilkaihjaaGreatDoor
open Go.RowKit LS
attribute [local go_sem ↓] Go.wp_at_zero Go.wp_at_succ
attribute [local go_sem] asNumberNumber asNumberNegative asNumberPair asNumberGroup asNumberWindow asNumberSelector asNegativeNumber asNegativeNegative asNegativePair asNegativeGroup asNegativeWindow asNegativeSelector asPairNumber asPairNegative asPairPair asPairGroup asPairWindow asPairSelector asGroupNumber asGroupNegative asGroupPair asGroupGroup asGroupWindow asGroupSelector asWindowNumber asWindowNegative asWindowPair asWindowGroup asWindowWindow asWindowSelector asSelectorNumber asSelectorNegative asSelectorPair asSelectorGroup asSelectorWindow asSelectorSelector
theorem sign_len(o:Nat):(signOf o).length≤2:=by
 unfold signOf;split <;> (try split) <;> (try split) <;> (try split) <;> simp
set_option maxRecDepth 100000 in
set_option maxHeartbeats 8000000 in
theorem wr_pair{x y:Nat}{a:Nd}{p q:Tr}(hwf:wfT (.node x y a p q))(hk:a.kind=4∨a.kind=6)(ihp:WW p)(ihq:WW q)(w:World)(z1 z2:Value)(hz1:PartV w p z1)(hz2:PartV w q z2)(B b:Nat)(l:List UInt8)(hw:WB w B b l)(ht:PowTab w)(hB:20≤B)(hl:l.length+wT (.node x y a p q)≤big) :
  Calls Tryz.prog 72 #[.pointer (some ⟨b,0,none⟩),.iface 268 (.agg #[.int .i64 (opNo a),z1,z2])] w fun e w'=>e=.returned (.tuple #[])∧Hid (WB w' B b (l++printT (.node x y a p q) 1))∧Hid (WK B b w w'):=by
 obtain⟨o,hoe⟩:∃o,o=opNo a:=⟨_,rfl⟩
 have htr:=tight_rank hk hwf.2.2.1
 have HX:Hid (printT (.node x y a p q) 1=printT p (rankOf o+1)++[32]++signOf o++[32]++printT q (rankOf o+1+1)):=hid (by rw[printT_one,core_pair hk hwf.2.2.1,hoe,htr.1])
 have ho4:o≤4:=by rw[hoe];exact htr.2
 have HPL:Hid ((printT p (rankOf o+1)).length≤wT p):=hid (printT_len p _ hwf.2.2.2.2.2.2.2.2.2.2.1)
 rw[←hoe]
 have HW:Hid (WB w B b l):=hw
 have HT:Hid (PowTab w):=ht
 have HB:Hid (20≤B):=hB
 have HL:Hid (l.length+24+wT p+wT q≤big):=hid (by have h1:ownW a+wT p+wT q=wT (.node x y a p q):=rfl;unfold ownW at h1;omega)
 have HZ1:Hid (PartV w p z1):=hz1
 have HZ2:Hid (PartV w q z2):=hz2
 obtain⟨t1,u1,hsh1⟩:=PartV.shape hz1
 obtain⟨t2,u2,hsh2⟩:=PartV.shape hz2
 subst hsh1 hsh2
 obtain⟨sg,hsg⟩:∃sg:ByteArray,sg=⟨(signOf o).toArray⟩:=⟨_,rfl⟩
 have HSG:Hid (⟨(signOf o).toArray⟩=sg):=hsg.symm
 have HSB:Hid (bl sg=signOf o):=hid (by rw[hsg,bl_mk])
 have hss:sg.size≤2:=by rw[size_of_bl HSB.out];exact sign_len o
 have hrk:rankOf o≤2:=by unfold rankOf;split <;> (try split) <;> omega
 have a1:∀W,(Op.stringOp .add ⟨#[32]⟩ sg).run Tryz.prog W=.ok (.string (⟨#[32]⟩++sg)) W:=fun W=>run_string_add_sum W _ _ (by show 1+sg.size≤_;omega)
 have HS1:Hid ((⟨#[32]⟩++sg:ByteArray).size=1+sg.size):=hid (by rw[ByteArray.size_append];rfl)
 have a2:∀W,(Op.stringOp .add (⟨#[32]⟩++sg) ⟨#[32]⟩).run Tryz.prog W=.ok (.string ((⟨#[32]⟩++sg)++⟨#[32]⟩)) W:=fun W=>run_string_add_sum W _ _ (by rw[HS1.out];show _+1≤_;omega)
 have HS2:Hid (((⟨#[32]⟩++sg)++⟨#[32]⟩:ByteArray).size=1+sg.size+1):=hid (by rw[ByteArray.size_append,HS1.out];rfl)
 obtain⟨rr,hrr⟩:∃rr,rr=rankOf o:=⟨_,rfl⟩
 rw[←hrr]at HX HPL hrk
 have HRR:Hid (∀W,Calls Tryz.prog 132 #[.agg #[.int .i64 o,.iface t1 u1,.iface t2 u2]] W fun e w'=>e=.returned (.int .i64 rr)∧Below W.heap.size W w'):=hid (fun W=>by rw[hrr];exact rankP W o ho4 t1 t2 u1 u2)
 have HPC:Hid (∀(w':World) (l':List UInt8),PartV w' p (.iface t1 u1)→WB w' B b l'→PowTab w'→l'.length+wT p+2≤big→Calls Tryz.prog 131 #[.pointer (some ⟨b,0,none⟩),.iface t1 u1,.int .i64 (rr:Int)] w' fun e w''=>e=.returned (.tuple #[])∧Hid (WB w'' B b (l'++printT p (rr+1)))∧Hid (WK B b w' w'')):=hid (fun w' l' h1 h2 h3 h4=>ihp w' _ B b l' rr h1 h2 h3 HB.out h4)
 have HQC:Hid (∀(w':World) (l':List UInt8),PartV w' q (.iface t2 u2)→WB w' B b l'→PowTab w'→l'.length+wT q+2≤big→Calls Tryz.prog 131 #[.pointer (some ⟨b,0,none⟩),.iface t2 u2,.int .i64 ((rr:Int)+1)] w' fun e w''=>e=.returned (.tuple #[])∧Hid (WB w'' B b (l'++printT q (rr+1+1)))∧Hid (WK B b w' w'')):=hid (fun w' l' h1 h2 h3 h4=>ihq w' _ B b l' (rr+1) h1 h2 h3 HB.out h4)
 have hwr:IntKind.i64.wrap ((rr:Int)+1)=(rr:Int)+1:=by rcases(by omega:rr=0∨rr=1∨rr=2)with h|h|h <;> rw[h] <;> rfl
 clear hw ht hB hl hk hz1 hz2 hwf hoe htr hsg hrr ihp ihq
 go_enter Tryz.func72,Tryz.ntmps72
 go_upto_region 10 with fail
 refine wp_gen fun W hW=>?_
 have hbW:Below w.heap.size w W:=by rw[hW];exact(Below.refl _ _).alloc (Nat.le_refl _) _
 have HP0:Hid (BAt W w.heap.size [.int .i64 o,.iface t1 u1,.iface t2 u2] 268):=hid (by rw[hW];exact Go.Deep.blk_alloc_new _ _)
 have HWW:Hid (WB W B b l):=HW.out.below hbW
 have HKW:Hid (WK B b w W):=WK.below hbW HW.out.le
 have HZ1W:Hid (PartV W p (.iface t1 u1)):=HZ1.out.below hbW
 have HZ2W:Hid (PartV W q (.iface t2 u2)):=HZ2.out.below hbW
 clear hW hbW
 have p0:=HP0.out.cell 0
 have p1:=HP0.out.cell 1
 have p2:=HP0.out.cell 2
 simp only[List.getElem?_cons_zero,List.getElem?_cons_succ]at p0 p1 p2
 go_region_held3 (fun w' => w'.cell? ⟨w.heap.size, 0, none⟩ = some (.int .i64 o) ∧ w'.cell? ⟨w.heap.size, 1, none⟩ = some (.iface t1 u1) ∧ w'.cell? ⟨w.heap.size, 2, none⟩ = some (.iface t2 u2)) (first | exact ⟨e0, e1, e2⟩ | exact ⟨d0, d1, d2⟩ | exact ⟨p0, p1, p2⟩ | go_keep) (first
   | (go_at_call 132
      refine(HRR.out _).mono ?_
      rintro e w5 ⟨rfl,hb5⟩
      have HB5:Hid (Below W.heap.size W w5):=hid ⟨hb5.os,hb5.tape,hb5.output,hb5.size,hb5.block⟩
      have HP5:=hid (HP0.out.below HB5.out)
      have d0:=HP5.out.cell 0
      have d1:=HP5.out.cell 1
      have d2:=HP5.out.cell 2
      simp only[List.getElem?_cons_zero,List.getElem?_cons_succ]at d0 d1 d2
      have HK5:Hid (WK B b w w5):=HKW.out.trans (WK.below HB5.out HWW.out.le)
      clear hb5)
   | (go_at_call 131
      refine(HPC.out w5 l (HZ1W.out.below HB5.out) (HWW.out.below HB5.out) (HT.out.low HK5.out.low HB.out) (by have:=HL.out;omega)).mono ?_
      rintro e w6 ⟨rfl,HW6,HK6'⟩
      have HP6:=hid (WK.bat (HWW.out.below HB5.out) HK6'.out HP5.out (by decide) (by decide))
      have e0:=HP6.out.cell 0
      have e1:=HP6.out.cell 1
      have e2:=HP6.out.cell 2
      simp only[List.getElem?_cons_zero,List.getElem?_cons_succ]at e0 e1 e2
      have HK6:Hid (WK B b w w6):=HK5.out.trans HK6'.out
      have HZ6:Hid (PartV w6 q (.iface t2 u2)):=hid (PartV.wrote (HWW.out.below HB5.out) HK6'.out (HZ2W.out.below HB5.out))
      clear HK6'))
 clear p0 p1 p2 d0 d1 d2 HP5 HB5 HK5
 go_wp2_with (go_at_call 133;refine(sign_any o ho4 _).mono ?_;rintro e wq ⟨rfl,rfl⟩;rw[HSG.out])
 refine(put_t HW6.out _ (by rw[HS2.out,List.length_append];have:=HL.out;have:=HPL.out;omega)).mono ?_
 rintro e w7 ⟨rfl,HW7,HK7'⟩
 have HK7:Hid (WK B b w w7):=HK6.out.trans HK7'.out
 have HP7:=hid (WK.bat HW6.out HK7'.out HP6.out (by decide) (by decide))
 have HZ7:Hid (PartV w7 q (.iface t2 u2)):=hid (PartV.wrote HW6.out HK7'.out HZ6.out)
 clear HK7' e0 e1 e2
 have p0:=HP7.out.cell 0
 have p1:=HP7.out.cell 1
 have p2:=HP7.out.cell 2
 simp only[List.getElem?_cons_zero,List.getElem?_cons_succ]at p0 p1 p2
 go_upto_region 12 with fail
 go_region_held3 (fun w' => w'.cell? ⟨w.heap.size, 0, none⟩ = some (.int .i64 o) ∧ w'.cell? ⟨w.heap.size, 1, none⟩ = some (.iface t1 u1) ∧ w'.cell? ⟨w.heap.size, 2, none⟩ = some (.iface t2 u2)) (first | exact ⟨e0, e1, e2⟩ | exact ⟨d0, d1, d2⟩ | exact ⟨p0, p1, p2⟩ | go_keep) (first
   | (go_at_call 132
      refine(HRR.out _).mono ?_
      rintro e w8 ⟨rfl,hb8⟩
      have HB8:Hid (Below w7.heap.size w7 w8):=hid ⟨hb8.os,hb8.tape,hb8.output,hb8.size,hb8.block⟩
      have HP8:=hid (HP7.out.below HB8.out)
      have d0:=HP8.out.cell 0
      have d1:=HP8.out.cell 1
      have d2:=HP8.out.cell 2
      simp only[List.getElem?_cons_zero,List.getElem?_cons_succ]at d0 d1 d2
      have HK8:Hid (WK B b w w8):=HK7.out.trans (WK.below HB8.out HW7.out.le)
      clear hb8)
   | (go_at_call 131
      refine(HQC.out w8 _ (HZ7.out.below HB8.out) (HW7.out.below HB8.out) (HT.out.low HK8.out.low HB.out) (by simp only[List.length_append,bl_length];rw[HS2.out];have:=HL.out;have:=HPL.out;omega)).mono ?_
      rintro e w9 ⟨rfl,HW9,HK9'⟩
      have HP9:=hid (WK.bat (HW7.out.below HB8.out) HK9'.out HP8.out (by decide) (by decide))
      have e0:=HP9.out.cell 0
      have e1:=HP9.out.cell 1
      have e2:=HP9.out.cell 2
      simp only[List.getElem?_cons_zero,List.getElem?_cons_succ]at e0 e1 e2
      have HK9:Hid (WK B b w w9):=HK8.out.trans HK9'.out
      clear HK9'))
 have HWX:Hid (WB w9 B b (l++printT (.node x y a p q) 1)):=hid (by
  rw[HX.out,←HSB.out]
  have:=HW9.out
  rw[bl_app,bl_app]at this
  simp only[List.append_assoc]at this ⊢
  exact this)
 go_wp2
 go_end0
 exact⟨rfl,HWX,HK9⟩
set_option maxRecDepth 100000 in
set_option maxHeartbeats 8000000 in
theorem wr_group{x y:Nat}{a:Nd}{p q:Tr}(hwf:wfT (.node x y a p q))(hk:a.kind=5)(ih:WC p)(wd:ByteArray)(la:Option Addr)(ln lc:Nat)(w:World)(z:Value)(hwd:bl wd=groupWords.getD a.op [])(hns:NamesV w (.slice la ln lc) a.by_)(hz:PartV w p z)(B b:Nat)(l:List UInt8)(hw:WB w B b l)(ht:PowTab w)(hB:20≤B)(hl:l.length+wT (.node x y a p q)≤big) :
  Calls Tryz.prog 72 #[.pointer (some ⟨b,0,none⟩),.iface 274 (.agg #[.string wd,.slice la ln lc,z])] w fun e w'=>e=.returned (.tuple #[])∧Hid (WB w' B b (l++printT (.node x y a p q) 1))∧Hid (WK B b w w'):=by
 have HX:Hid (printT (.node x y a p q) 1=bl wd++[32,98,121,32,40]++commas a.by_++[41,32,40]++printT p 1++[41]):=hid (by rw[printT_one,coreS_grp hk,hwd])
 have HPL:Hid ((printT p 1).length≤wT p):=hid (printT_len p _ hwf.2.2.2.2.2.2.2.2.2.2.1)
 have HW:Hid (WB w B b l):=hw
 have HT:Hid (PowTab w):=ht
 have HB:Hid (20≤B):=hB
 have HL:Hid (l.length+24+nw a.by_+wT p≤big):=hid (by have h1:ownW a+wT p+wT q=wT (.node x y a p q):=rfl;unfold ownW at h1;omega)
 have HZ:Hid (PartV w p z):=hz
 have HNS:Hid (NamesV w (.slice la ln lc) a.by_):=hns
 have hwl:wd.size≤5:=by rw[size_of_bl hwd];exact getD_len groupWords (by decide) a.op
 obtain⟨ty,u,hsh⟩:=PartV.shape hz
 subst hsh
 obtain⟨js,hjs⟩:∃js:ByteArray,js=⟨(commas a.by_).toArray⟩:=⟨_,rfl⟩
 have HJB:Hid (bl js=commas a.by_):=hid (by rw[hjs,bl_mk])
 have HJL:Hid (js.size≤nw a.by_):=hid (by rw[size_of_bl HJB.out];exact commas_len _)
 have hjl:js.size≤1000000:=by have h1:=HJL.out;have h2:=HL.out;unfold big at h2;omega
 have a1:∀W,(Op.stringOp .add wd ⟨#[32,98,121,32,40]⟩).run Tryz.prog W=.ok (.string (wd++⟨#[32,98,121,32,40]⟩)) W:=fun W=>run_string_add_sum W _ _ (by show wd.size+5≤_;omega)
 have HS1:Hid ((wd++⟨#[32,98,121,32,40]⟩:ByteArray).size=wd.size+5):=hid (by rw[ByteArray.size_append];rfl)
 have a2:∀W,(Op.stringOp .add (wd++⟨#[32,98,121,32,40]⟩) js).run Tryz.prog W=.ok (.string ((wd++⟨#[32,98,121,32,40]⟩)++js)) W:=fun W=>run_string_add_sum W _ _ (by rw[HS1.out];omega)
 have HS2:Hid (((wd++⟨#[32,98,121,32,40]⟩)++js:ByteArray).size=wd.size+5+js.size):=hid (by rw[ByteArray.size_append,HS1.out])
 have a3:∀W,(Op.stringOp .add ((wd++⟨#[32,98,121,32,40]⟩)++js) ⟨#[41,32,40]⟩).run Tryz.prog W=.ok (.string (((wd++⟨#[32,98,121,32,40]⟩)++js)++⟨#[41,32,40]⟩)) W:=fun W=>run_string_add_sum W _ _ (by rw[HS2.out];show _+3≤_;omega)
 have HS3:Hid ((((wd++⟨#[32,98,121,32,40]⟩)++js)++⟨#[41,32,40]⟩:ByteArray).size=wd.size+5+js.size+3):=hid (by rw[ByteArray.size_append,HS2.out];rfl)
 clear hw ht hB hl hk hz hwf hwd hns hjs
 go_enter Tryz.func72,Tryz.ntmps72
 go_upto_region 15 with fail
 refine wp_gen fun W hW=>?_
 have hbW:Below w.heap.size w W:=by rw[hW];exact(Below.refl _ _).alloc (Nat.le_refl _) _
 have HP0:Hid (BAt W w.heap.size [.string wd,.slice la ln lc,.iface ty u] 274):=hid (by rw[hW];exact Go.Deep.blk_alloc_new _ _)
 have HWW:Hid (WB W B b l):=HW.out.below hbW
 have HKW:Hid (WK B b w W):=WK.below hbW HW.out.le
 have HZW:Hid (PartV W p (.iface ty u)):=HZ.out.below hbW
 have HNW:Hid (NamesV W (.slice la ln lc) a.by_):=HNS.out.below hbW
 clear hW hbW
 have p0:=HP0.out.cell 0
 have p1:=HP0.out.cell 1
 have p2:=HP0.out.cell 2
 simp only[List.getElem?_cons_zero,List.getElem?_cons_succ]at p0 p1 p2
 have HJC : Hid (∀ w', Below W.heap.size W w' → Calls Tryz.prog 96 #[.slice la ln lc, .string ⟨#[44]⟩] w' fun e w'' => e = .returned (.string js) ∧ Below w'.heap.size w' w'') := hid (by
   intro w' hw'
   refine(join_t la ln lc a.by_ (HNW.out.below hw') (by have h2:=HL.out;unfold big at h2;omega)).mono ?_
   rintro e w'' ⟨s,rfl,hs,hb⟩
   exact⟨by rw[bl_inj (hs.out.trans HJB.out.symm)],hb⟩)
 have HBD:Hid (Below W.heap.size W W.drew):=hid ((Below.refl _ _).drew)
 go_region_held3 (fun w' => w'.cell? ⟨w.heap.size, 0, none⟩ = some (.string wd) ∧ w'.cell? ⟨w.heap.size, 1, none⟩ = some (.slice la ln lc) ∧ w'.cell? ⟨w.heap.size, 2, none⟩ = some (.iface ty u)) (first | exact ⟨e0, e1, e2⟩ | exact ⟨d0, d1, d2⟩ | exact ⟨p0, p1, p2⟩ | go_keep) (first
   | (go_at_call 96
      refine(HJC.out _ HBD.out).mono ?_
      rintro e w5 ⟨rfl,hb5⟩
      have HB5:Hid (Below W.heap.size W w5):=hid ⟨hb5.os,hb5.tape,hb5.output,hb5.size,hb5.block⟩
      have HP5:=hid (HP0.out.below HB5.out)
      have d0:=HP5.out.cell 0
      have d1:=HP5.out.cell 1
      have d2:=HP5.out.cell 2
      simp only[List.getElem?_cons_zero,List.getElem?_cons_succ]at d0 d1 d2
      have HK5:Hid (WK B b w w5):=HKW.out.trans (WK.below HB5.out HWW.out.le)
      clear hb5)
   | (go_at_call 129
      refine(put_t (HWW.out.below HB5.out) _ (by rw[HS3.out];have:=HL.out;have:=HJL.out;omega)).mono ?_
      rintro e w6 ⟨rfl,HW6,HK6'⟩
      have HP6:=hid (WK.bat (HWW.out.below HB5.out) HK6'.out HP5.out (by decide) (by decide))
      have e0:=HP6.out.cell 0
      have e1:=HP6.out.cell 1
      have e2:=HP6.out.cell 2
      simp only[List.getElem?_cons_zero,List.getElem?_cons_succ]at e0 e1 e2
      have HK6:Hid (WK B b w w6):=HK5.out.trans HK6'.out
      have HZ6:Hid (PartV w6 p (.iface ty u)):=hid (PartV.wrote (HWW.out.below HB5.out) HK6'.out (HZW.out.below HB5.out))
      clear HK6'))
 clear p0 p1 p2 d0 d1 d2 HP5 HB5 HK5 HJC
 go_wp2_with fail
 refine(ih w6 _ B b _ HZ6.out HW6.out (HT.out.low HK6.out.low HB.out) HB.out (by rw[List.length_append,bl_length,HS3.out];have:=HL.out;have:=HJL.out;omega)).mono ?_
 rintro e w7 ⟨rfl,HW7,HK7'⟩
 have HK7:Hid (WK B b w w7):=HK6.out.trans HK7'.out
 clear HK7' e0 e1 e2
 go_wp2_with fail
 refine(put_t HW7.out ⟨#[41]⟩ (by simp only[List.length_append,bl_length];rw[HS3.out];show _+1≤_;have:=HL.out;have:=HJL.out;have:=HPL.out;omega)).mono ?_
 rintro e w8 ⟨rfl,HW8,HK8'⟩
 have HK8:Hid (WK B b w w8):=HK7.out.trans HK8'.out
 have HWX:Hid (WB w8 B b (l++printT (.node x y a p q) 1)):=hid (by
  rw[HX.out,←HJB.out]
  have:=HW8.out
  rw[bl_app,bl_app,bl_app]at this
  simp only[List.append_assoc]at this ⊢
  exact this)
 clear HK8'
 go_wp2
 go_end0
 exact⟨rfl,HWX,HK8⟩
theorem write_any:∀t:Tr,wfT t→WC t
 | .nil,_=>fun _ _ _ _ _ h=>h.elim
 | .node x y a p q, hwf => by
   have ihp:WC p:=write_any p hwf.2.2.2.2.2.2.2.2.2.2.1
   have ihq:WC q:=write_any q hwf.2.2.2.2.2.2.2.2.2.2.2
   have iwp:WW p:=within_t hwf.2.2.2.2.2.2.2.2.2.2.1 ihp
   have iwq:WW q:=within_t hwf.2.2.2.2.2.2.2.2.2.2.2 ihq
   intro w v B b l hp hw ht hB hl
   rcases hp with ⟨hk,rfl⟩|⟨hk,nm,la,ln,lc,rfl,h1,h2⟩|⟨hk,wd,nm,la,ln,lc,rfl,h1,h2,h3⟩|⟨hk,z,rfl,hz⟩|⟨hk,wd,la,ln,lc,z,rfl,h1,h2,hz⟩|⟨hk,z1,z2,rfl,hz1,hz2⟩
   · exact wr_num hwf hk w B b l hw ht hB hl
   · exact wr_sel hk nm la ln lc w h1 h2 B b l hw hl
   · exact wr_win hwf hk wd nm la ln lc w h1 h2 h3 B b l hw ht hB hl
   · exact wr_neg hk iwp w z hz B b l hw ht hB hl
   · exact wr_group hwf hk ihp wd la ln lc w z h1 h2 hz B b l hw ht hB hl
   · exact wr_pair hwf hk iwp iwq w z1 z2 hz1 hz2 B b l hw ht hB hl
set_option maxRecDepth 100000 in
set_option maxHeartbeats 4000000 in
theorem sPrint_any{t:Tr}(hwf:wfT t)(hwt:wT t≤100000)(w:World)(v:Value)(hp:PartV w t v)(ht:PowTab w)(hB:20≤w.heap.size) :
  Calls Tryz.prog 37 #[v] w fun e w'=>∃s:ByteArray,e=.returned (.string s)∧Hid (bl s=printT t 1)∧Below w.heap.size w w':=by
 have HWC:Hid (WC t):=write_any t hwf
 have HP:Hid (PartV w t v):=hp
 have HT:Hid (PowTab w):=ht
 have HB:Hid (20≤w.heap.size):=hB
 have HL:Hid (wT t≤100000):=hwt
 obtain⟨ty,u,hsh⟩:=PartV.shape hp
 subst hsh
 clear hp ht hB hwt hwf
 go_enter Tryz.func37,Tryz.ntmps37
 go_wp2_with fail
 refine calls_gen fun W hW=>?_
 have hbW:Below w.heap.size w W:=by rw[hW];exact(Below.refl _ _).alloc (Nat.le_refl _) _
 have HWW:Hid (WB W w.heap.size w.heap.size []):=hid ⟨Or.inl ⟨Nat.le_refl _,.slice none 0 0,by rw[hW];exact Go.Deep.blk_alloc_new _ _,⟨rfl,Or.inl ⟨rfl,rfl⟩⟩,by simp[Value.ownBlock]⟩,hbW.size⟩
 have HBW:Hid (Below w.heap.size w W):=hbW
 have HPW:Hid (PartV W t (.iface ty u)):=HP.out.below hbW
 have HTW:Hid (PowTab W):=HT.out.low hbW HB.out
 clear hW hbW
 refine(HWC.out W _ w.heap.size w.heap.size [] HPW.out HWW.out HTW.out HB.out (by have:=HL.out;unfold big;simp;omega)).mono ?_
 rintro e w1 ⟨rfl,HW1,HK1⟩
 have HB1:Hid (Below w.heap.size w w1):=HBW.out.trans HK1.out.low
 go_wp2_with fail
 refine(Tryz.Builder_String_any_f w.heap.size w.heap.size _ w1 HW1.out.bd HW1.out.le).mono ?_
 rintro e w2 ⟨rfl,_,hb2⟩
 have HB2:Hid (Below w.heap.size w w2):=HB1.out.trans hb2
 clear hb2
 go_wp2
 go_ret
 exact⟨_,rfl,hid (by rw[bl_mk]),HB2.out⟩
end Go.Proofs.YtkodhpilkaihjaaGreatDoor
namespace Go.Proofs.YtkodhpilkaihjaaGreatDoor.LS
open Go Go.RowKit
theorem index_one (c : UInt8) (l : List UInt8) : Lib.index l [c] = match seek c l with | none => -1 | some i => (i : Int) := by
  induction l with
  | nil=>rfl
  | cons b l ih=>
    unfold Lib.index seek
    by_cases hb:b=c
    · subst hb;simp[List.isPrefixOf]
    · have h1:[c].isPrefixOf (b::l)=false:=by simp[List.isPrefixOf,Ne.symm hb]
      have h2:(b == c)=false:=by simp[hb]
      rw[if_neg (by simp[h1]),ih,h2]
      cases seek c l with
      | none=>rfl
      | some i=>
        have h3:¬(((i:Int) == -1)=true):=by simp
        simp only[Bool.false_eq_true,if_false,Option.map_some]
        rw[if_neg h3];rfl
theorem libcut_some{c:UInt8}{l x y:List UInt8}(h:cut c l=some (x,y)):Lib.cut l [c]=(x,y,true):=by
 unfold cut at h
 cases hs:seek c l with
 | none=>rw[hs]at h;cases h
 | some i=>
  rw[hs]at h
  simp only[Option.map_some,Option.some.injEq,Prod.mk.injEq]at h
  unfold Lib.cut
  rw[index_one,hs]
  simp only[List.length_singleton,Int.toNat_natCast]
  rw[if_pos (by omega),h.1,h.2]
theorem libcut_none{c:UInt8}{l:List UInt8}(h:cut c l=none):Lib.cut l [c]=(l,[],false):=by
 unfold cut at h
 cases hs:seek c l with
 | some i=>rw[hs]at h;cases h
 | none=>
  unfold Lib.cut
  rw[index_one,hs]
  rfl
theorem splitK_one(c:UInt8):∀(n:Nat) (l:List UInt8),l.length≤n→Lib.splitK [c] 0 (Lib.count l [c]) l=split c l:=by
 intro n
 induction n with
 | zero=>
  intro l hl
  obtain rfl:l=[]:=List.length_eq_zero_iff.1 (by omega)
  rw[Lib.count_miss rfl];rfl
 | succ n ih=>
  intro l hl
  cases hs:seek c l with
  | none=>
   rw[Lib.count_miss (by rw[index_one,hs])]
   have hn:=(seek_none_iff c l).1 hs
   have:=split_append c l [] hn
   rw[List.append_nil]at this
   rw[this];simp[Lib.splitK,split,pre]
  | some i=>
   obtain⟨a,b,rfl,rfl,hn⟩:=seek_some hs
   have hi:Lib.index (a++c::b) [c]=(a.length:Int):=by rw[index_one,hs]
   rw[Lib.count_hit (by simp) hi]
   have e1:(a++c::b).drop (a.length + [c].length)=b:=by simp
   rw[e1,Nat.add_comm,Lib.splitK,if_neg (by rw[hi];simp),hi]
   rw[show((a.length:Int)).toNat=a.length by omega,e1,ih b (by simp at hl;omega),split_append c a _ hn,split_hit]
   simp[pre]
structure Entry where
 at_:Nat
 name:List UInt8
 inside:List UInt8
 count:Nat
end Go.Proofs.YtkodhpilkaihjaaGreatDoor.LS
namespace Go.Proofs.YtkodhpilkaihjaaGreatDoor
open Go.RowKit LS
theorem cut_hit_big{c:UInt8}{s:ByteArray}{x y:List UInt8}(m:Int)(w:World)(hs:s.size≤70000)(hm:w.cell? ⟨14,0,none⟩=some (.int .i64 m))(h:cut c (bl s)=some (x,y)) :
  Calls Tryz.prog 91 #[.string s,.string ⟨#[c]⟩] w fun e w'=>∃a b:ByteArray,e=.returned (.tuple #[.string a,.string b,.bool true])∧Hid (bl a=x∧bl b=y)∧∃n,w'=w.drewN n:=by
 refine(Tryz.strings_Cut s ⟨#[c]⟩ m w (by omega) hm).mono ?_
 rintro e w' ⟨rfl,hw⟩
 have e1:Lib.cut s.data.toList (⟨#[c]⟩:ByteArray).data.toList=(x,y,true):=libcut_some h
 rw[e1]
 exact⟨_,_,rfl,⟨bl_mk x,bl_mk y⟩,hw⟩
theorem cut_miss_big{c:UInt8}{s:ByteArray}(m:Int)(w:World)(hs:s.size≤70000)(hm:w.cell? ⟨14,0,none⟩=some (.int .i64 m))(h:cut c (bl s)=none) :
  Calls Tryz.prog 91 #[.string s,.string ⟨#[c]⟩] w fun e w'=>∃a b:ByteArray,e=.returned (.tuple #[.string a,.string b,.bool false])∧Hid (bl a=bl s∧bl b=[])∧∃n,w'=w.drewN n:=by
 refine(Tryz.strings_Cut s ⟨#[c]⟩ m w (by omega) hm).mono ?_
 rintro e w' ⟨rfl,hw⟩
 have e1:Lib.cut s.data.toList (⟨#[c]⟩:ByteArray).data.toList=(bl s,[],false):=libcut_none h
 rw[e1]
 exact⟨_,_,rfl,⟨bl_mk _,bl_mk _⟩,hw⟩
def StrRow(w:World)(g:Nat)(ps:List (List UInt8)):Prop:=g<w.heap.size∧∀i,i<ps.length→∃s:ByteArray,w.cell? ⟨g,i,none⟩=some (.string s)∧bl s=ps.getD i []
theorem StrRow.below{w w':World}{g:Nat}{ps:List (List UInt8)}{B:Nat}(h:StrRow w g ps)(hb:Below B w w')(hB:g<B):StrRow w' g ps:=
 ⟨Nat.lt_of_lt_of_le h.1 hb.size, fun i hi => by
   obtain⟨s,h1,h2⟩:=h.2 i hi
   exact⟨s,(hb.cell (p:=⟨g,i,none⟩) hB).trans h1,h2⟩⟩
end Go.Proofs.YtkodhpilkaihjaaGreatDoor

/- Parts. -/
import Derived.Test.YtcdgkkfipdoeeaaGreatDoorT20
import Derived.Test.YtcdgkkfipdoeeaaGreatDoorT19
set_option maxRecDepth 100000
set_option maxHeartbeats 8000000
namespace Go.Proofs.YtcdgkkfipdoeeaaGreatDoor
open Go.RowKit LS
attribute [local go_sem ↓] Go.wp_at_zero Go.wp_at_succ
attribute [local go_sem] Zgp Zji Zjj Zjh Zjl Zjk Zgo Zgn Zje Zjd Zjg Zjf Zfy Zfx Zfz Zjm Zjo Zjn Zgl Zgk Zgm Zgj Zjc Zjb Zgy Zgx Zgz Zgw ZgA Zjp Zgs Zgr Zgt Zgq Zgv Zgu
theorem Zr6{a:Nd}(h:a.kind=0)(pl pr:Nat->List UInt8):Zbk a pl pr=decS a.n.toNat:=by unfold Zbk;rw[if_pos h]
theorem Zr7{a:Nd}(h:a.kind=1)(pl pr:Nat->List UInt8):Zbk a pl pr=selS a:=by unfold Zbk;rw[if_neg (by omega),if_pos h]
theorem Zr8{a:Nd}(h:a.kind=2)(pl pr:Nat->List UInt8):Zbk a pl pr=ZV.getD a.op []++[40]++selS a++[91]++decS a.n.toNat++[93,41]:=by unfold Zbk;rw[if_neg (by omega),if_neg (by omega),if_pos h]
theorem Zr5{a:Nd}(h:a.kind=3)(pl pr:Nat->List UInt8):Zbk a pl pr=[45]++pl 4:=by unfold Zbk;rw[if_neg (by omega),if_neg (by omega),if_neg (by omega),if_pos h]
theorem Zr4{a:Nd}(h:a.kind=5)(pl pr:Nat->List UInt8):Zbk a pl pr=ZG.getD a.op []++[32,98,121,32,40]++commas a.by_++[41,32,40]++pl 1++[41]:=by unfold Zbk;rw[if_neg (by omega),if_neg (by omega),if_neg (by omega),if_neg (by omega),if_pos h]
theorem ZmK{n:Int}(h:n<=1000000000):(decS n.toNat).length<=10:=by
 refine ZgO 9 _ ?_
 have h1:n.toNat<=1000000000:=by omega
 have h2:(10:Nat) ^ 10=10000000000:=by decide
 omega
theorem Zz5{x y:Nat}{a:Nd}{p q:Tr}(hwf:wfT (.node x y a p q))(hk:a.kind=0)(w:World)(B b:Nat)(l:List UInt8)(hw:WB w B b l)(ht:Zu w)(hB:20<=B)(hl:l.length+wT (.node x y a p q)<=big) :
  Calls Tryz.prog 34 #[.pointer (some ⟨b,0,none⟩),.iface 119 (.agg #[.int .i64 a.n])] w fun e w'=>e=.returned (.tuple #[])/\Hid (WB w' B b (l++Zm (.node x y a p q) 1))/\Hid (WK B b w w'):=by
 have HX:Hid (Zm (.node x y a p q) 1=decS a.n.toNat):=hid (by rw[ZeB,Zr6 hk])
 have HW:Hid (WB w B b l):=hw
 have HT:Hid (Zu w):=ht
 have HB:Hid (20<=B):=hB
 have HN:Hid (0<=a.n/\a.n<=1000000000):=⟨hwf.2.2.2.2.1,hwf.2.2.2.2.2.1⟩
 have HL:Hid (l.length+24<=big):=hid (by have h1:ownW a+wT p+wT q=wT (.node x y a p q):=rfl;unfold ownW at h1;omega)
 obtain⟨n,hn⟩:∃n,n=a.n:=⟨_,rfl⟩
 rw[<-hn]at HN HX ⊢
 clear hw ht hB hl hwf hk hn
 go_enter Tryz.func34,Tryz.ntmps34
 go_wp2_with fail
 refine ZK fun W hW=>?_
 have hbW:Below w.heap.size w W:=by rw[hW];exact Zbal
 have HWW:Hid (WB W B b l):=HW.below hbW
 have HKW:Hid (WK B b w W):=WK.below hbW HW.le
 have HTW:Hid (Zu W):=HT.low HKW.low HB.out
 clear hW hbW
 refine(Zkg HTW.out n HN.1 HN.2).mono ?_
 rintro e w1 ⟨s,rfl,hs,hb1⟩
 have HW1:Hid (WB w1 B b l):=HWW.below hb1
 have HK1:Hid (WK B b w w1):=HKW.trans (WK.below hb1 HWW.le)
 clear hb1
 go_wp2_with fail
 refine(ZcR HW1.out s (by rw[Z7 hs.out];have:=ZmK HN.2;have:=HL.out;omega)).mono ?_
 rintro e w2 ⟨rfl,HW2,HK2'⟩
 have HK2:Hid (WK B b w w2):=HK1.trans HK2'.out
 clear HK2'
 go_wp2
 go_end0
 exact⟨rfl,by rw[HX.out,<-hs.out];exact HW2,HK2⟩
theorem Zz7{x y:Nat}{a:Nd}{p q:Tr}(hk:a.kind=1)(nm:ByteArray)(la:Option Addr)(ln lc:Nat)(w:World)(hnm:bl nm=a.name)(hc:ZI w (.slice la ln lc) a.conds)(B b:Nat)(l:List UInt8)(hw:WB w B b l)(hl:l.length+wT (.node x y a p q)<=big) :
  Calls Tryz.prog 34 #[.pointer (some ⟨b,0,none⟩),.iface 148 (.agg #[.string nm,.slice la ln lc])] w fun e w'=>e=.returned (.tuple #[])/\Hid (WB w' B b (l++Zm (.node x y a p q) 1))/\Hid (WK B b w w'):=by
 have HX:Hid (Zm (.node x y a p q) 1=selS a):=hid (by rw[ZeB,Zr7 hk])
 have HW:Hid (WB w B b l):=hw
 have HNM:Hid (bl nm=a.name):=hnm
 have HC:Hid (ZI w (.slice la ln lc) a.conds):=hc
 have HL:Hid (l.length+a.name.length+cw a.conds+10<=big):=hid (by have h1:ownW a+wT p+wT q=wT (.node x y a p q):=rfl;unfold ownW at h1;omega)
 clear hw hl hk hnm hc
 go_enter Tryz.func34,Tryz.ntmps34
 go_wp2_with fail
 refine ZK fun W hW=>?_
 have hbW:Below w.heap.size w W:=by rw[hW];exact Zbal
 have HWW:Hid (WB W B b l):=HW.below hbW
 have HKW:Hid (WK B b w W):=WK.below hbW HW.le
 have HCW:Hid (ZI W (.slice la ln lc) a.conds):=HC.below hbW
 clear hW hbW
 refine(ZqB HWW.out nm la ln lc a HNM.out HCW.out HL.out).mono ?_
 rintro e w2 ⟨rfl,HW2,HK2'⟩
 have HK2:Hid (WK B b w w2):=HKW.trans HK2'.out
 clear HK2'
 go_wp2
 go_end0
 exact⟨rfl,by rw[HX.out];exact HW2,HK2⟩
theorem Zz8{x y:Nat}{a:Nd}{p q:Tr}(hwf:wfT (.node x y a p q))(hk:a.kind=2)(wd nm:ByteArray)(la:Option Addr)(ln lc:Nat)(w:World)(hwd:bl wd=ZV.getD a.op [])(hnm:bl nm=a.name)(hc:ZI w (.slice la ln lc) a.conds)(B b:Nat)(l:List UInt8)(hw:WB w B b l)(ht:Zu w)(hB:20<=B)(hl:l.length+wT (.node x y a p q)<=big) :
  Calls Tryz.prog 34 #[.pointer (some ⟨b,0,none⟩),.iface 150 (.agg #[.string wd,.string nm,.slice la ln lc,.int .i64 a.n])] w fun e w'=>e=.returned (.tuple #[])/\Hid (WB w' B b (l++Zm (.node x y a p q) 1))/\Hid (WK B b w w'):=by
 have HX:Hid (Zm (.node x y a p q) 1=bl wd++[40]++selS a++[91]++decS a.n.toNat++[93,41]):=hid (by rw[ZeB,Zr8 hk,hwd])
 have HW:Hid (WB w B b l):=hw
 have HT:Hid (Zu w):=ht
 have HB:Hid (20<=B):=hB
 have HN:Hid (0<=a.n/\a.n<=1000000000):=⟨hwf.2.2.2.2.1,hwf.2.2.2.2.2.1⟩
 have HNM:Hid (bl nm=a.name):=hnm
 have HC:Hid (ZI w (.slice la ln lc) a.conds):=hc
 have hwl:wd.size<=5:=by rw[Z7 hwd];exact ZgT ZV (by decide) a.op
 have HL:Hid (l.length+a.name.length+cw a.conds+24<=big):=hid (by have h1:ownW a+wT p+wT q=wT (.node x y a p q):=rfl;unfold ownW at h1;omega)
 have HSL:Hid ((selS a).length<=a.name.length+cw a.conds+2):=hid (Zpp a)
 obtain⟨n,hn⟩:∃n,n=a.n:=⟨_,rfl⟩
 rw[<-hn]at HN HX ⊢
 have a1:∀W,(Op.stringOp .add wd ⟨#[40]⟩).run Tryz.prog W=.ok (.string (wd++⟨#[40]⟩)) W:=fun W=>run_string_add_sum W _ _ (by show wd.size+1<=_;omega)
 have HS1:Hid ((wd++⟨#[40]⟩:ByteArray).size=wd.size+1):=hid (by rw[ByteArray.size_append];rfl)
 clear hw ht hB hl hwf hk hn hwd hnm hc
 go_enter Tryz.func34,Tryz.ntmps34
 go_upto_region 20 with fail
 refine Z9 fun W hW=>?_
 have hbW:Below w.heap.size w W:=by rw[hW];exact Zbal
 have HP0:Hid (BAt W w.heap.size [.string wd,.string nm,.slice la ln lc,.int .i64 n] 150):=hid (by rw[hW];exact Go.Deep.blk_alloc_new _ _)
 have HWW:Hid (WB W B b l):=HW.below hbW
 have HKW:Hid (WK B b w W):=WK.below hbW HW.le
 have HCW:Hid (ZI W (.slice la ln lc) a.conds):=HC.below hbW
 clear hW hbW
 have p0:=HP0.cell 0
 simp only[List.getElem?_cons_zero]at p0
 go_wp2_with fail
 refine(ZcR HWW.out _ (by rw[HS1.out];have:=HL.out;omega)).mono ?_
 rintro e w1 ⟨rfl,HW1,HK1'⟩
 have HK1:Hid (WK B b w w1):=HKW.trans HK1'.out
 have HP1:=hid (WK.bat HWW.out HK1'.out HP0.out (by decide) (by decide))
 have HC1:Hid (ZI w1 (.slice la ln lc) a.conds):=hid (HCW.wrote HWW.out HK1'.out)
 clear HK1' p0 HP0 HWW HKW HCW
 have p1:=HP1.cell 1
 have p2:=HP1.cell 2
 simp only[Zget]at p1 p2
 go_wp2_with fail
 refine(ZqB HW1.out nm la ln lc a HNM.out HC1.out (by rw[List.length_append,Zi,HS1.out];have:=HL.out;omega)).mono ?_
 rintro e w2 ⟨rfl,HW2,HK2'⟩
 have HK2:Hid (WK B b w w2):=HK1.trans HK2'.out
 have HP2:=hid (WK.bat HW1.out HK2'.out HP1.out (by decide) (by decide))
 have HT2:Hid (Zu w2):=HT.low HK2.low HB.out
 clear HK2' p1 p2 HP1 HW1 HK1 HC1
 have p3:=HP2.cell 3
 simp only[Zget]at p3
 go_wp2_with fail
 refine(Zkg HT2.out n HN.1 HN.2).mono ?_
 rintro e w3 ⟨s,rfl,hs,hb3⟩
 have HW3:=hid (HW2.below hb3)
 have HK3:Hid (WK B b w w3):=HK2.trans (WK.below hb3 HW2.le)
 have hss:s.size<=10:=by rw[Z7 hs.out];exact ZmK HN.2
 have b1:∀W,(Op.stringOp .add ⟨#[91]⟩ s).run Tryz.prog W=.ok (.string (⟨#[91]⟩++s)) W:=fun W=>run_string_add_sum W _ _ (by show 1+s.size<=_;omega)
 have HS2:Hid ((⟨#[91]⟩++s:ByteArray).size=1+s.size):=hid (by rw[ByteArray.size_append];rfl)
 have b2:∀W,(Op.stringOp .add (⟨#[91]⟩++s) ⟨#[93,41]⟩).run Tryz.prog W=.ok (.string ((⟨#[91]⟩++s)++⟨#[93,41]⟩)) W:=fun W=>run_string_add_sum W _ _ (by rw[HS2.out];show _+2<=_;omega)
 have HS3:Hid (((⟨#[91]⟩++s)++⟨#[93,41]⟩:ByteArray).size=1+s.size+2):=hid (by rw[ByteArray.size_append,HS2.out];rfl)
 clear hb3 p3 HW2 HK2 HT2
 go_wp2_with fail
 refine(ZcR HW3.out _ (by rw[HS3.out];simp only[List.length_append,Zi];rw[HS1.out];have:=HL.out;have:=HSL.out;omega)).mono ?_
 rintro e w4 ⟨rfl,HW4,HK4'⟩
 have HK4:Hid (WK B b w w4):=HK3.trans HK4'.out
 have HW5:Hid (WB w4 B b (l++Zm (.node x y a p q) 1)):=hid (by
  rw[HX.out,<-hs.out]
  have:=HW4.out
  rw[Zce,Zce,Zce]at this
  simp only[List.append_assoc]at this ⊢
  exact this)
 clear HK4' HW4
 go_wp2
 go_end0
 exact⟨rfl,HW5,HK4⟩
theorem Zz4{x y:Nat}{a:Nd}{p q:Tr}(hk:a.kind=3)(ih:WW p)(w:World)(z:Value)(hz:Ze w p z)(B b:Nat)(l:List UInt8)(hw:WB w B b l)(ht:Zu w)(hB:20<=B)(hl:l.length+wT (.node x y a p q)<=big) :
  Calls Tryz.prog 34 #[.pointer (some ⟨b,0,none⟩),.iface 121 (.agg #[z])] w fun e w'=>e=.returned (.tuple #[])/\Hid (WB w' B b (l++Zm (.node x y a p q) 1))/\Hid (WK B b w w'):=by
 have HX:Hid (Zm (.node x y a p q) 1=[45]++Zm p 4):=hid (by rw[ZeB,Zr5 hk])
 have HW:Hid (WB w B b l):=hw
 have HT:Hid (Zu w):=ht
 have HB:Hid (20<=B):=hB
 have HL:Hid (l.length+24+wT p<=big):=hid (by have h1:ownW a+wT p+wT q=wT (.node x y a p q):=rfl;unfold ownW at h1;omega)
 have HZ:Hid (Ze w p z):=hz
 obtain⟨ty,u,hsh⟩:=Ze.shape hz
 subst hsh
 clear hw ht hB hl hk hz
 go_enter Tryz.func34,Tryz.ntmps34
 go_upto_region 6 with fail
 refine Z9 fun W hW=>?_
 have hbW:Below w.heap.size w W:=by rw[hW];exact Zbal
 have HP0:Hid (BAt W w.heap.size [.iface ty u] 121):=hid (by rw[hW];exact Go.Deep.blk_alloc_new _ _)
 have HWW:Hid (WB W B b l):=HW.below hbW
 have HKW:Hid (WK B b w W):=WK.below hbW HW.le
 have HZW:Hid (Ze W p (.iface ty u)):=HZ.below hbW
 clear hW hbW
 go_wp2_with fail
 refine(ZcR HWW.out ⟨#[45]⟩ (by have:=HL.out;show _+1<=_;omega)).mono ?_
 rintro e w1 ⟨rfl,HW1,HK1'⟩
 have HK1:Hid (WK B b w w1):=HKW.trans HK1'.out
 have HP1:=hid (WK.bat HWW.out HK1'.out HP0.out (by decide) (by decide))
 have HZ1:Hid (Ze w1 p (.iface ty u)):=hid (Ze.wrote HWW.out HK1'.out HZW.out)
 have HT1:Hid (Zu w1):=HT.low HK1.low HB.out
 clear HK1' HP0 HWW HKW HZW
 have p0:=HP1.cell 0
 simp only[List.getElem?_cons_zero]at p0
 go_wp2_with fail
 refine(ih w1 _ B b _ 3 HZ1.out HW1.out HT1.out HB.out (by rw[List.length_append,Zi];have:=HL.out;show _+1+_+2<=_;omega)).mono ?_
 rintro e w2 ⟨rfl,HW2,HK2'⟩
 have HK2:Hid (WK B b w w2):=HK1.trans HK2'.out
 have HW3:Hid (WB w2 B b (l++Zm (.node x y a p q) 1)):=hid (by rw[HX.out,<-List.append_assoc];exact HW2.out)
 clear HK2' HW2
 go_wp2
 go_end0
 exact⟨rfl,HW3,HK2⟩
end Go.Proofs.YtcdgkkfipdoeeaaGreatDoor
namespace Go.Proofs.YtcdgkkfipdoeeaaGreatDoor
open Go.RowKit LS
attribute [local go_sem ↓] Go.wp_at_zero Go.wp_at_succ
attribute [local go_sem] Zgp Zji Zjj Zjh Zjl Zjk Zgo Zgn Zje Zjd Zjg Zjf Zfy Zfx Zfz Zjm Zjo Zjn Zgl Zgk Zgm Zgj Zjc Zjb Zgy Zgx Zgz Zgw ZgA Zjp Zgs Zgr Zgt Zgq Zgv Zgu
theorem ZxH(o:Nat):(Zeg o).length<=2:=by
 unfold Zeg;split <;> (try split) <;> (try split) <;> (try split) <;> simp
theorem Zz6{x y:Nat}{a:Nd}{p q:Tr}(hwf:wfT (.node x y a p q))(hk:a.kind=4∨a.kind=6)(ihp:WW p)(ihq:WW q)(w:World)(z1 z2:Value)(hz1:Ze w p z1)(hz2:Ze w q z2)(B b:Nat)(l:List UInt8)(hw:WB w B b l)(ht:Zu w)(hB:20<=B)(hl:l.length+wT (.node x y a p q)<=big) :
  Calls Tryz.prog 34 #[.pointer (some ⟨b,0,none⟩),.iface 116 (.agg #[.int .i64 (opNo a),z1,z2])] w fun e w'=>e=.returned (.tuple #[])/\Hid (WB w' B b (l++Zm (.node x y a p q) 1))/\Hid (WK B b w w'):=by
 obtain⟨o,hoe⟩:∃o,o=opNo a:=⟨_,rfl⟩
 have htr:=ZpT hk hwf.2.2.1
 have HX:Hid (Zm (.node x y a p q) 1=Zm p (ZcS o+1)++[32]++Zeg o++[32]++Zm q (ZcS o+1+1)):=hid (by rw[ZeB,Zr9 hk hwf.2.2.1,hoe,htr.1])
 have ho4:o<=4:=by rw[hoe];exact htr.2
 have HPL:Hid ((Zm p (ZcS o+1)).length<=wT p):=hid (ZeA p _ hwf.2.2.2.2.2.2.2.2.2.2.1)
 rw[<-hoe]
 have HW:Hid (WB w B b l):=hw
 have HT:Hid (Zu w):=ht
 have HB:Hid (20<=B):=hB
 have HL:Hid (l.length+24+wT p+wT q<=big):=hid (by have h1:ownW a+wT p+wT q=wT (.node x y a p q):=rfl;unfold ownW at h1;omega)
 have HZ1:Hid (Ze w p z1):=hz1
 have HZ2:Hid (Ze w q z2):=hz2
 obtain⟨t1,u1,hsh1⟩:=Ze.shape hz1
 obtain⟨t2,u2,hsh2⟩:=Ze.shape hz2
 subst hsh1 hsh2
 obtain⟨sg,hsg⟩:∃sg:ByteArray,sg=⟨(Zeg o).toArray⟩:=⟨_,rfl⟩
 have HSG:Hid (⟨(Zeg o).toArray⟩=sg):=hsg.symm
 have HSB:Hid (bl sg=Zeg o):=hid (by rw[hsg,Zbv])
 have hss:sg.size<=2:=by rw[Z7 HSB.out];exact ZxH o
 have hrk:ZcS o<=2:=by unfold ZcS;split <;> (try split) <;> omega
 have a1:∀W,(Op.stringOp .add ⟨#[32]⟩ sg).run Tryz.prog W=.ok (.string (⟨#[32]⟩++sg)) W:=fun W=>run_string_add_sum W _ _ (by show 1+sg.size<=_;omega)
 have HS1:Hid ((⟨#[32]⟩++sg:ByteArray).size=1+sg.size):=hid (by rw[ByteArray.size_append];rfl)
 have a2:∀W,(Op.stringOp .add (⟨#[32]⟩++sg) ⟨#[32]⟩).run Tryz.prog W=.ok (.string ((⟨#[32]⟩++sg)++⟨#[32]⟩)) W:=fun W=>run_string_add_sum W _ _ (by rw[HS1.out];show _+1<=_;omega)
 have HS2:Hid (((⟨#[32]⟩++sg)++⟨#[32]⟩:ByteArray).size=1+sg.size+1):=hid (by rw[ByteArray.size_append,HS1.out];rfl)
 obtain⟨rr,hrr⟩:∃rr,rr=ZcS o:=⟨_,rfl⟩
 rw[<-hrr]at HX HPL hrk
 have HRR:Hid (∀W,Calls Tryz.prog 66 #[.agg #[.int .i64 o,.iface t1 u1,.iface t2 u2]] W fun e w'=>e=.returned (.int .i64 rr)/\Below W.heap.size W w'):=hid (fun W=>by rw[hrr];exact Zo5 W o ho4 t1 t2 u1 u2)
 have HPC:Hid (∀(w':World) (l':List UInt8),Ze w' p (.iface t1 u1)->WB w' B b l'->Zu w'->l'.length+wT p+2<=big->Calls Tryz.prog 65 #[.pointer (some ⟨b,0,none⟩),.iface t1 u1,.int .i64 (rr:Int)] w' fun e w''=>e=.returned (.tuple #[])/\Hid (WB w'' B b (l'++Zm p (rr+1)))/\Hid (WK B b w' w'')):=hid (fun w' l' h1 h2 h3 h4=>ihp w' _ B b l' rr h1 h2 h3 HB.out h4)
 have HQC:Hid (∀(w':World) (l':List UInt8),Ze w' q (.iface t2 u2)->WB w' B b l'->Zu w'->l'.length+wT q+2<=big->Calls Tryz.prog 65 #[.pointer (some ⟨b,0,none⟩),.iface t2 u2,.int .i64 ((rr:Int)+1)] w' fun e w''=>e=.returned (.tuple #[])/\Hid (WB w'' B b (l'++Zm q (rr+1+1)))/\Hid (WK B b w' w'')):=hid (fun w' l' h1 h2 h3 h4=>ihq w' _ B b l' (rr+1) h1 h2 h3 HB.out h4)
 have hwr:IntKind.i64.wrap ((rr:Int)+1)=(rr:Int)+1:=by rcases(by omega:rr=0∨rr=1∨rr=2)with h|h|h <;> rw[h] <;> rfl
 clear hw ht hB hl hk hz1 hz2 hwf hoe htr hsg hrr ihp ihq
 go_enter Tryz.func34,Tryz.ntmps34
 go_upto_region 10 with fail
 refine Z9 fun W hW=>?_
 have hbW:Below w.heap.size w W:=by rw[hW];exact Zbal
 have HP0:Hid (BAt W w.heap.size [.int .i64 o,.iface t1 u1,.iface t2 u2] 116):=hid (by rw[hW];exact Go.Deep.blk_alloc_new _ _)
 have HWW:Hid (WB W B b l):=HW.below hbW
 have HKW:Hid (WK B b w W):=WK.below hbW HW.le
 have HZ1W:Hid (Ze W p (.iface t1 u1)):=HZ1.below hbW
 have HZ2W:Hid (Ze W q (.iface t2 u2)):=HZ2.below hbW
 clear hW hbW
 have p0:=HP0.cell 0
 have p1:=HP0.cell 1
 have p2:=HP0.cell 2
 simp only[Zget]at p0 p1 p2
 go_region_held3 (fun w' => w'.cell? ⟨w.heap.size, 0, none⟩ = some (.int .i64 o) /\ w'.cell? ⟨w.heap.size, 1, none⟩ = some (.iface t1 u1) /\ w'.cell? ⟨w.heap.size, 2, none⟩ = some (.iface t2 u2)) (first | exact ⟨e0, e1, e2⟩ | exact ⟨d0, d1, d2⟩ | exact ⟨p0, p1, p2⟩ | go_keep) (first
   | (go_at_call 66
      refine(HRR.out _).mono ?_
      rintro e w5 ⟨rfl,hb5⟩
      have HB5:Hid (Below W.heap.size W w5):=hid ⟨hb5.os,hb5.tape,hb5.output,hb5.size,hb5.block⟩
      have HP5:=hid (HP0.below HB5.out)
      have d0:=HP5.cell 0
      have d1:=HP5.cell 1
      have d2:=HP5.cell 2
      simp only[Zget]at d0 d1 d2
      have HK5:Hid (WK B b w w5):=HKW.trans (WK.below HB5.out HWW.le)
      clear hb5)
   | (go_at_call 65
      refine(HPC.out w5 l (HZ1W.below HB5.out) (HWW.below HB5.out) (HT.low HK5.low HB.out) (by have:=HL.out;omega)).mono ?_
      rintro e w6 ⟨rfl,HW6,HK6'⟩
      have HP6:=hid (WK.bat (HWW.below HB5.out) HK6'.out HP5.out (by decide) (by decide))
      have e0:=HP6.cell 0
      have e1:=HP6.cell 1
      have e2:=HP6.cell 2
      simp only[Zget]at e0 e1 e2
      have HK6:Hid (WK B b w w6):=HK5.trans HK6'.out
      have HZ6:Hid (Ze w6 q (.iface t2 u2)):=hid (Ze.wrote (HWW.below HB5.out) HK6'.out (HZ2W.below HB5.out))
      clear HK6'))
 clear p0 p1 p2 d0 d1 d2 HP5 HB5 HK5
 go_wp2_with (go_at_call 67;refine(ZxG o ho4 _).mono ?_;rintro e wq ⟨rfl,rfl⟩;rw[HSG.out])
 refine(ZcR HW6.out _ (by rw[HS2.out,List.length_append];have:=HL.out;have:=HPL.out;omega)).mono ?_
 rintro e w7 ⟨rfl,HW7,HK7'⟩
 have HK7:Hid (WK B b w w7):=HK6.trans HK7'.out
 have HP7:=hid (WK.bat HW6.out HK7'.out HP6.out (by decide) (by decide))
 have HZ7:Hid (Ze w7 q (.iface t2 u2)):=hid (Ze.wrote HW6.out HK7'.out HZ6.out)
 clear HK7' e0 e1 e2
 have p0:=HP7.cell 0
 have p1:=HP7.cell 1
 have p2:=HP7.cell 2
 simp only[Zget]at p0 p1 p2
 go_upto_region 12 with fail
 go_region_held3 (fun w' => w'.cell? ⟨w.heap.size, 0, none⟩ = some (.int .i64 o) /\ w'.cell? ⟨w.heap.size, 1, none⟩ = some (.iface t1 u1) /\ w'.cell? ⟨w.heap.size, 2, none⟩ = some (.iface t2 u2)) (first | exact ⟨e0, e1, e2⟩ | exact ⟨d0, d1, d2⟩ | exact ⟨p0, p1, p2⟩ | go_keep) (first
   | (go_at_call 66
      refine(HRR.out _).mono ?_
      rintro e w8 ⟨rfl,hb8⟩
      have HB8:Hid (Below w7.heap.size w7 w8):=hid ⟨hb8.os,hb8.tape,hb8.output,hb8.size,hb8.block⟩
      have HP8:=hid (HP7.below HB8.out)
      have d0:=HP8.cell 0
      have d1:=HP8.cell 1
      have d2:=HP8.cell 2
      simp only[Zget]at d0 d1 d2
      have HK8:Hid (WK B b w w8):=HK7.trans (WK.below HB8.out HW7.le)
      clear hb8)
   | (go_at_call 65
      refine(HQC.out w8 _ (HZ7.below HB8.out) (HW7.below HB8.out) (HT.low HK8.low HB.out) (by simp only[List.length_append,Zi];rw[HS2.out];have:=HL.out;have:=HPL.out;omega)).mono ?_
      rintro e w9 ⟨rfl,HW9,HK9'⟩
      have HP9:=hid (WK.bat (HW7.below HB8.out) HK9'.out HP8.out (by decide) (by decide))
      have e0:=HP9.cell 0
      have e1:=HP9.cell 1
      have e2:=HP9.cell 2
      simp only[Zget]at e0 e1 e2
      have HK9:Hid (WK B b w w9):=HK8.trans HK9'.out
      clear HK9'))
 have HWX:Hid (WB w9 B b (l++Zm (.node x y a p q) 1)):=hid (by
  rw[HX.out,<-HSB.out]
  have:=HW9.out
  rw[Zce,Zce]at this
  simp only[List.append_assoc]at this ⊢
  exact this)
 go_wp2
 go_end0
 exact⟨rfl,HWX,HK9⟩
theorem Zz3{x y:Nat}{a:Nd}{p q:Tr}(hwf:wfT (.node x y a p q))(hk:a.kind=5)(ih:WC p)(wd:ByteArray)(la:Option Addr)(ln lc:Nat)(w:World)(z:Value)(hwd:bl wd=ZG.getD a.op [])(hns:Z4 w (.slice la ln lc) a.by_)(hz:Ze w p z)(B b:Nat)(l:List UInt8)(hw:WB w B b l)(ht:Zu w)(hB:20<=B)(hl:l.length+wT (.node x y a p q)<=big) :
  Calls Tryz.prog 34 #[.pointer (some ⟨b,0,none⟩),.iface 124 (.agg #[.string wd,.slice la ln lc,z])] w fun e w'=>e=.returned (.tuple #[])/\Hid (WB w' B b (l++Zm (.node x y a p q) 1))/\Hid (WK B b w w'):=by
 have HX:Hid (Zm (.node x y a p q) 1=bl wd++[32,98,121,32,40]++commas a.by_++[41,32,40]++Zm p 1++[41]):=hid (by rw[ZeB,Zr4 hk,hwd])
 have HPL:Hid ((Zm p 1).length<=wT p):=hid (ZeA p _ hwf.2.2.2.2.2.2.2.2.2.2.1)
 have HW:Hid (WB w B b l):=hw
 have HT:Hid (Zu w):=ht
 have HB:Hid (20<=B):=hB
 have HL:Hid (l.length+24+nw a.by_+wT p<=big):=hid (by have h1:ownW a+wT p+wT q=wT (.node x y a p q):=rfl;unfold ownW at h1;omega)
 have HZ:Hid (Ze w p z):=hz
 have HNS:Hid (Z4 w (.slice la ln lc) a.by_):=hns
 have hwl:wd.size<=5:=by rw[Z7 hwd];exact ZgT ZG (by decide) a.op
 obtain⟨ty,u,hsh⟩:=Ze.shape hz
 subst hsh
 obtain⟨js,hjs⟩:∃js:ByteArray,js=⟨(commas a.by_).toArray⟩:=⟨_,rfl⟩
 have HJB:Hid (bl js=commas a.by_):=hid (by rw[hjs,Zbv])
 have HJL:Hid (js.size<=nw a.by_):=hid (by rw[Z7 HJB.out];exact Zeq _)
 have hjl:js.size<=1000000:=by have h1:=HJL.out;have h2:=HL.out;unfold big at h2;omega
 have a1:∀W,(Op.stringOp .add wd ⟨#[32,98,121,32,40]⟩).run Tryz.prog W=.ok (.string (wd++⟨#[32,98,121,32,40]⟩)) W:=fun W=>run_string_add_sum W _ _ (by show wd.size+5<=_;omega)
 have HS1:Hid ((wd++⟨#[32,98,121,32,40]⟩:ByteArray).size=wd.size+5):=hid (by rw[ByteArray.size_append];rfl)
 have a2:∀W,(Op.stringOp .add (wd++⟨#[32,98,121,32,40]⟩) js).run Tryz.prog W=.ok (.string ((wd++⟨#[32,98,121,32,40]⟩)++js)) W:=fun W=>run_string_add_sum W _ _ (by rw[HS1.out];omega)
 have HS2:Hid (((wd++⟨#[32,98,121,32,40]⟩)++js:ByteArray).size=wd.size+5+js.size):=hid (by rw[ByteArray.size_append,HS1.out])
 have a3:∀W,(Op.stringOp .add ((wd++⟨#[32,98,121,32,40]⟩)++js) ⟨#[41,32,40]⟩).run Tryz.prog W=.ok (.string (((wd++⟨#[32,98,121,32,40]⟩)++js)++⟨#[41,32,40]⟩)) W:=fun W=>run_string_add_sum W _ _ (by rw[HS2.out];show _+3<=_;omega)
 have HS3:Hid ((((wd++⟨#[32,98,121,32,40]⟩)++js)++⟨#[41,32,40]⟩:ByteArray).size=wd.size+5+js.size+3):=hid (by rw[ByteArray.size_append,HS2.out];rfl)
 clear hw ht hB hl hk hz hwf hwd hns hjs
 go_enter Tryz.func34,Tryz.ntmps34
 go_upto_region 15 with fail
 refine Z9 fun W hW=>?_
 have hbW:Below w.heap.size w W:=by rw[hW];exact Zbal
 have HP0:Hid (BAt W w.heap.size [.string wd,.slice la ln lc,.iface ty u] 124):=hid (by rw[hW];exact Go.Deep.blk_alloc_new _ _)
 have HWW:Hid (WB W B b l):=HW.below hbW
 have HKW:Hid (WK B b w W):=WK.below hbW HW.le
 have HZW:Hid (Ze W p (.iface ty u)):=HZ.below hbW
 have HNW:Hid (Z4 W (.slice la ln lc) a.by_):=HNS.below hbW
 clear hW hbW
 have p0:=HP0.cell 0
 have p1:=HP0.cell 1
 have p2:=HP0.cell 2
 simp only[Zget]at p0 p1 p2
 have HJC : Hid (∀ w', Below W.heap.size W w' -> Calls Tryz.prog 68 #[.slice la ln lc, .string ⟨#[44]⟩] w' fun e w'' => e = .returned (.string js) /\ Below w'.heap.size w' w'') := hid (by
   intro w' hw'
   refine(Zki la ln lc a.by_ (HNW.below hw') (by have h2:=HL.out;unfold big at h2;omega)).mono ?_
   rintro e w'' ⟨s,rfl,hs,hb⟩
   exact⟨by rw[ZeN (hs.trans HJB.symm)],hb⟩)
 have HBD:Hid (Below W.heap.size W W.drew):=hid ((Below.refl _ _).drew)
 go_region_held3 (fun w' => w'.cell? ⟨w.heap.size, 0, none⟩ = some (.string wd) /\ w'.cell? ⟨w.heap.size, 1, none⟩ = some (.slice la ln lc) /\ w'.cell? ⟨w.heap.size, 2, none⟩ = some (.iface ty u)) (first | exact ⟨e0, e1, e2⟩ | exact ⟨d0, d1, d2⟩ | exact ⟨p0, p1, p2⟩ | go_keep) (first
   | (go_at_call 68
      refine(HJC.out _ HBD.out).mono ?_
      rintro e w5 ⟨rfl,hb5⟩
      have HB5:Hid (Below W.heap.size W w5):=hid ⟨hb5.os,hb5.tape,hb5.output,hb5.size,hb5.block⟩
      have HP5:=hid (HP0.below HB5.out)
      have d0:=HP5.cell 0
      have d1:=HP5.cell 1
      have d2:=HP5.cell 2
      simp only[Zget]at d0 d1 d2
      have HK5:Hid (WK B b w w5):=HKW.trans (WK.below HB5.out HWW.le)
      clear hb5)
   | (go_at_call 63
      refine(ZcR (HWW.below HB5.out) _ (by rw[HS3.out];have:=HL.out;have:=HJL.out;omega)).mono ?_
      rintro e w6 ⟨rfl,HW6,HK6'⟩
      have HP6:=hid (WK.bat (HWW.below HB5.out) HK6'.out HP5.out (by decide) (by decide))
      have e0:=HP6.cell 0
      have e1:=HP6.cell 1
      have e2:=HP6.cell 2
      simp only[Zget]at e0 e1 e2
      have HK6:Hid (WK B b w w6):=HK5.trans HK6'.out
      have HZ6:Hid (Ze w6 p (.iface ty u)):=hid (Ze.wrote (HWW.below HB5.out) HK6'.out (HZW.below HB5.out))
      clear HK6'))
 clear p0 p1 p2 d0 d1 d2 HP5 HB5 HK5 HJC
 go_wp2_with fail
 refine(ih w6 _ B b _ HZ6.out HW6.out (HT.low HK6.low HB.out) HB.out (by rw[List.length_append,Zi,HS3.out];have:=HL.out;have:=HJL.out;omega)).mono ?_
 rintro e w7 ⟨rfl,HW7,HK7'⟩
 have HK7:Hid (WK B b w w7):=HK6.trans HK7'.out
 clear HK7' e0 e1 e2
 go_wp2_with fail
 refine(ZcR HW7.out ⟨#[41]⟩ (by simp only[List.length_append,Zi];rw[HS3.out];show _+1<=_;have:=HL.out;have:=HJL.out;have:=HPL.out;omega)).mono ?_
 rintro e w8 ⟨rfl,HW8,HK8'⟩
 have HK8:Hid (WK B b w w8):=HK7.trans HK8'.out
 have HWX:Hid (WB w8 B b (l++Zm (.node x y a p q) 1)):=hid (by
  rw[HX.out,<-HJB.out]
  have:=HW8.out
  rw[Zce,Zce,Zce]at this
  simp only[List.append_assoc]at this ⊢
  exact this)
 clear HK8'
 go_wp2
 go_end0
 exact⟨rfl,HWX,HK8⟩
theorem ZlI:∀t:Tr,wfT t->WC t
 | .nil,_=>fun _ _ _ _ _ h=>h.elim
 | .node x y a p q, hwf => by
   have ihp:WC p:=ZlI p hwf.2.2.2.2.2.2.2.2.2.2.1
   have ihq:WC q:=ZlI q hwf.2.2.2.2.2.2.2.2.2.2.2
   have iwp:WW p:=Zqk hwf.2.2.2.2.2.2.2.2.2.2.1 ihp
   have iwq:WW q:=Zqk hwf.2.2.2.2.2.2.2.2.2.2.2 ihq
   intro w v B b l hp hw ht hB hl
   rcases hp with ⟨hk,rfl⟩|⟨hk,nm,la,ln,lc,rfl,h1,h2⟩|⟨hk,wd,nm,la,ln,lc,rfl,h1,h2,h3⟩|⟨hk,z,rfl,hz⟩|⟨hk,wd,la,ln,lc,z,rfl,h1,h2,hz⟩|⟨hk,z1,z2,rfl,hz1,hz2⟩
   · exact Zz5 hwf hk w B b l hw ht hB hl
   · exact Zz7 hk nm la ln lc w h1 h2 B b l hw hl
   · exact Zz8 hwf hk wd nm la ln lc w h1 h2 h3 B b l hw ht hB hl
   · exact Zz4 hk iwp w z hz B b l hw ht hB hl
   · exact Zz3 hwf hk ihp wd la ln lc w z h1 h2 hz B b l hw ht hB hl
   · exact Zz6 hwf hk iwp iwq w z1 z2 hz1 hz2 B b l hw ht hB hl
theorem Zpi{t:Tr}(hwf:wfT t)(hwt:wT t<=100000)(w:World)(v:Value)(hp:Ze w t v)(ht:Zu w)(hB:20<=w.heap.size) :
  Calls Tryz.prog 20 #[v] w fun e w'=>∃s:ByteArray,e=.returned (.string s)/\Hid (bl s=Zm t 1)/\Below w.heap.size w w':=by
 have HWC:Hid (WC t):=ZlI t hwf
 have HP:Hid (Ze w t v):=hp
 have HT:Hid (Zu w):=ht
 have HB:Hid (20<=w.heap.size):=hB
 have HL:Hid (wT t<=100000):=hwt
 obtain⟨ty,u,hsh⟩:=Ze.shape hp
 subst hsh
 clear hp ht hB hwt hwf
 go_enter Tryz.func20,Tryz.ntmps20
 go_wp2_with fail
 refine ZK fun W hW=>?_
 have hbW:Below w.heap.size w W:=by rw[hW];exact Zbal
 have HWW:Hid (WB W w.heap.size w.heap.size []):=hid ⟨Or.inl ⟨Nat.le_refl _,.slice none 0 0,by rw[hW];exact Go.Deep.blk_alloc_new _ _,⟨rfl,Or.inl ⟨rfl,rfl⟩⟩,by simp[Value.ownBlock]⟩,hbW.size⟩
 have HBW:Hid (Below w.heap.size w W):=hbW
 have HPW:Hid (Ze W t (.iface ty u)):=HP.below hbW
 have HTW:Hid (Zu W):=HT.low hbW HB.out
 clear hW hbW
 refine(HWC.out W _ w.heap.size w.heap.size [] HPW.out HWW.out HTW.out HB.out (by have:=HL.out;unfold big;simp;omega)).mono ?_
 rintro e w1 ⟨rfl,HW1,HK1⟩
 have HB1:Hid (Below w.heap.size w w1):=HBW.trans HK1.low
 go_wp2_with fail
 refine(Tryz.Builder_String_any_f w.heap.size w.heap.size _ w1 HW1.bd HW1.le).mono ?_
 rintro e w2 ⟨rfl,_,hb2⟩
 have HB2:Hid (Below w.heap.size w w2):=HB1.trans hb2
 clear hb2
 go_wp2
 go_ret
 exact⟨_,rfl,hid (by rw[Zbv]),HB2.out⟩
end Go.Proofs.YtcdgkkfipdoeeaaGreatDoor
namespace Go.Proofs.YtcdgkkfipdoeeaaGreatDoor
open Go.RowKit LS
section
variable {w0 w w' w1 w2:World} {X:GX} {nv uv sv rv nv' uv' sv' rv':Value} {sl sl':List SelC} {rl rl':List RowC} {g g':Gq} {T:TypeId} {x n:Nat}
theorem Zjw(a b:ByteArray):bl (a++b)=bl a++bl b:=by simp[bl]
structure SelW (y:Nd×Nat):Prop where
 wf:wfT (Z6 y.1)
 kind:y.1.kind=1
 wt:wT (Z6 y.1)<=100000
 len:y.2<=1000000000
theorem Zpr(y:Nd×Nat)(hk:y.1.kind=1):Zm (Z6 y.1) 1=selS y.1:=by
 obtain⟨a,k⟩:=y
 have hk:a.kind=1:=hk
 show Zdn (decide (ZC a<1)) (Zbk a _ _)=_
 have ht:ZC a=4:=by unfold ZC;rw[if_neg (by omega),if_neg (by omega)]
 rw[ht]
 show Zbk a _ _=_
 unfold Zbk
 rw[if_neg (by omega),if_pos hk]
theorem ZtC (w : World) (nm : ByteArray) (la : Option Addr) (ln lc k : Nat) : Calls Tryz.prog 116 #[.agg #[.string nm, .slice la ln lc, .int .i64 k]] w fun e w' => e = .returned (.bool (decide (0 < k))) /\ Below w.heap.size w w' := by
  go_enter Tryz.func116,Tryz.ntmps116
  go_wp2
  all_goals
    go_ret
    refine⟨ZdR ?_,belB⟩
    first|rfl|(rw[Bool.eq_iff_iff];simp;done)|(rw[Bool.eq_iff_iff];simp;omega)
theorem Zpq(w:World)(s:SelC)(y:Nd×Nat)(hs:ZdW w s y)(hw:SelW y)(ht:Zu w)(hB:20<=w.heap.size) :
  Calls Tryz.prog 72 #[.agg #[.string s.1,.slice s.2.1 s.2.2.1 s.2.2.2.1,.int .i64 (s.2.2.2.2:Nat)]] w fun e w'=>∃r:ByteArray,e=.returned (.string r)/\Hid (bl r=ZM y)/\Hid (r.size<=200000)/\Below w.heap.size w w':=by
 obtain⟨nm,la,ln,lc,k⟩:=s
 obtain⟨h1,h2,h3⟩:=hs
 simp only at h1 h2 h3
 have HPV:Hid (Ze w (Z6 y.1) (.iface 148 (.agg #[.string nm,.slice la ln lc]))):=hid (Or.inr (Or.inl ⟨hw.kind,nm,la,ln,lc,rfl,h1,h2⟩))
 have HT:=hid ht
 have HBn:=hid hB
 have HW:=hid hw
 have HST:Hid (ZM y=Zm (Z6 y.1) 1++(if 0<k then [91]++decS k++[93] else [])):=hid (by rw[Zpr y hw.kind,h3];rfl)
 have hk6:k<=1000000000:=by rw[h3];exact hw.len
 have HLN:=hid (ZeA (Z6 y.1) 1 hw.wf)
 clear h1 h2 h3 ht hB hw
 simp only
 go_enter Tryz.func72,Tryz.ntmps72
 go_wp2_with fail
 refine ZK fun W0 hW0=>?_
 have hb0:Below w.heap.size w W0:=by rw[hW0];exact belB
 have HB0:Hid (BAt W0 w.heap.size [.string nm,.slice la ln lc,.int .i64 k] 156):=hid (by rw[hW0];exact(show BAt _ _ _ _ from Go.Deep.blk_alloc_new w _))
 have HBB:=hid hb0
 clear hW0 hb0
 obtain⟨qb,hqb⟩:∃qb,w.heap.size=qb:=⟨_,rfl⟩
 have HQW:=hid hqb
 rw[hqb]at HB0 ⊢
 clear hqb
 refine(Zpi HW.wf HW.wt W0 _ (HPV.below HBB.out) (HT.low HBB.out HBn.out) (Nat.le_trans HBn.out HBB.size)).mono ?_
 rintro e w1 ⟨r,rfl,HR,hb1⟩
 have HB1:=hid (HB0.below hb1)
 have HBB1:=hid (HBB.trans (hb1.mono HBB.size))
 have hrs:r.size<=100000:=by rw[Z7 HR.out];exact Nat.le_trans HLN.out HW.wt
 clear hb1 HB0 HBB
 have q0:w1.cell? ⟨qb,0,none⟩=some (.string nm):=HB1.cell 0
 have q1:w1.cell? ⟨qb,1,none⟩=some (.slice la ln lc):=HB1.cell 1
 have q2:w1.cell? ⟨qb,2,none⟩=some (.int .i64 k):=HB1.cell 2
 have hql:=HB1.lt
 have HIR:=hid (ZtC w1 nm la ln lc k)
 go_wp2_with fail
 refine HIR.mono ?_
 rintro e w2 ⟨rfl,hb2⟩
 have HB2:=hid (HB1.below hb2)
 have HBB2:=hid (HBB1.trans (hb2.mono HBB1.size))
 clear hb2 HB1 HBB1 q0 q1 q2 hql HIR
 by_cases hk0:0<k
 ·rw[decide_eq_true hk0]
  have q2:w2.cell? ⟨qb,2,none⟩=some (.int .i64 k):=HB2.cell 2
  have hql:=HB2.lt
  have HIT:=hid (Zkg (HT.low HBB2.out HBn.out) (k:Int) (by omega) (by omega))
  go_wp2_with fail
  refine HIT.mono ?_
  rintro e w3 ⟨ds,rfl,HD,hb3⟩
  have HBB3:=hid (HBB2.trans (hb3.mono HBB2.size))
  have hds:ds.size<=10:=by
   rw[Z7 HD.out,show((k:Int)).toNat=k from rfl]
   exact ZgO 9 k (by have:(10:Nat) ^ 10=10000000000:=(by decide);omega)
  clear hb3 HIT HB2 HBB2 q2 hql
  go_wp2
  go_ret
  refine⟨_,rfl,hid ?_,hid ?_,HBB3.out⟩
  ·rw[HST.out,if_pos hk0,Zjw,Zjw,Zjw,HR.out,HD.out]
   rfl
  ·simp
   have:(⟨#[91]⟩:ByteArray).size=1:=rfl
   have:(⟨#[93]⟩:ByteArray).size=1:=rfl
   omega
 ·rw[decide_eq_false hk0]
  go_wp2
  go_ret
  exact⟨r,rfl,hid (by rw[HST.out,if_neg hk0,List.append_nil];exact HR.out),hid (by omega),HBB2.out⟩
theorem Tryz.infoSelC:(Tryz.prog.info? 156).map (fun i=>(i.zero,i.size,i.bytes))=some (some (.agg #[.string ByteArray.empty,.slice none 0 0,.int .i64 0]),3,48):=by kernel_rfl
theorem ZgW(a:List UInt8):∀(l:List (List UInt8)) (z:List UInt8),idx z l=none->idx a (l++[z])=if a=z then some l.length else idx a l
 | [], z, _ => by
   by_cases h:z=a
   · subst h;simp[idx]
   · simp[idx,h,Ne.symm h]
 | y :: l, z, h => by
   unfold idx at h
   by_cases e:y=z
   · rw[if_pos e]at h;cases h
   · rw[if_neg e]at h
     have h' : idx z l = none := by cases hi : idx z l with
       | none=>rfl
       | some i=>rw[hi]at h;cases h
     rw[List.cons_append,idx,idx,ZgW a l z h']
     by_cases e2:y=a
     · subst e2;simp[e]
     · simp only[e2,if_false]
       by_cases e3:a=z
       · simp[e3]
       · simp[e3]
theorem ZhU{z:List UInt8} : ∀ {l:List (List UInt8)} {i:Nat},idx z l=some i->i<l.length
 | [],i,h=>by cases h
 | y :: l, i, h => by
   unfold idx at h
   by_cases e:y=z
   · rw[if_pos e]at h;injection h with h;subst h;simp
   · rw[if_neg e]at h
     cases hi:idx z l with
     | none=>rw[hi]at h;cases h
     | some j=>rw[hi]at h;injection h with h;subst h;have:=ZhU hi;simp;omega
theorem ZpK(a b:ByteArray)(h:Value.string a=Value.string b):a=b:=by injection h
theorem Zwi{y:Nd×Nat}{i:Nat}(h:idx (ZM y) (g.sels.map ZM)=some i):Zx y g=addQ ⟨1,i,none,none⟩ g:=by unfold Zx;rw[h]
theorem Zwh{y:Nd×Nat}(h:idx (ZM y) (g.sels.map ZM)=none):Zx y g=addQ ⟨1,(g.sels.length:Nat),none,none⟩ { g with sels:=g.sels++[y] }:=by unfold Zx;rw[h]
theorem ZoY(h:GW w0 w X g)(s:SelC)(y:Nd×Nat)(hs:ZdW w0 s y)(hw:SelW y)(ht:Zu w)(hB:20<=w.heap.size)(hl:g.nodes.length<=500000)(hsl:g.sels.length<=500000) :
  Calls Tryz.prog 123 #[.pointer (some ⟨X.gb,0,none⟩),.agg #[.string s.1,.slice s.2.1 s.2.2.1 s.2.2.2.1,.int .i64 (s.2.2.2.2:Nat)]] w fun e w'=>e=.returned (.int .i64 ((Zx y g).1:Nat))/\Hid (GP w0 w w' X (Zx y g).2):=by
 obtain⟨nv,uv,sv,rv,sl,rl,hI⟩:=h
 obtain⟨f,hj,hf⟩:=hI.j
 have HI:=hid hI
 have HF:=hid hf
 have HJ:=hid hj
 have HS:=hid hs
 have HW:=hid hw
 have HT:=hid ht
 have HBn:=hid hB
 clear hI hf hj hs hw ht hB
 go_enter Tryz.func123,Tryz.ntmps123
 go_wp2_with fail
 refine ZK fun W0 hW0=>?_
 have hb0:Below w.heap.size w W0:=by rw[hW0];exact belB
 have HB0:Hid (BAt W0 w.heap.size (ZcC s) 156):=hid (by rw[hW0];exact(show BAt _ _ _ _ from Go.Deep.blk_alloc_new w _))
 have HBB:=hid hb0
 have HNQ : Hid (∀ k, sv.ownBlock = some k -> k ≠ w.heap.size) := hid (fun k hk e => by
   have:=(HJ.sel.lt k hk).2
   omega)
 clear hW0 hb0
 obtain⟨qb,hqb⟩:∃qb,w.heap.size=qb:=⟨_,rfl⟩
 have HQW:=hid hqb
 rw[hqb]at HB0 HNQ ⊢
 clear hqb
 have hs0:ZdW W0 s y:=⟨HS.1,HS.2.1.below (by
  have h1:=HJ.bel.trans (HBB.mono HJ.bel.size)
  exact h1),HS.2.2⟩
 refine(Zpq W0 s y hs0 HW.out (HT.low HBB.out HBn.out) (Nat.le_trans HBn.out HBB.size)).mono ?_
 rintro e w1 ⟨tx,rfl,HTX,HTS,hb1⟩
 have HBB1:=hid (HBB.trans (hb1.mono HBB.size))
 have HB1:=hid (HB0.below hb1)
 have HJ1:Hid (GJ w0 w1 X nv uv sv rv sl rl g _ f _ _):=hid (HJ.below HBB1.out)
 have HK1:=hid (KT.below HBB1.out)
 clear hb1 HB0 HBB hs0 HJ
 obtain⟨kl,hkl⟩:=ZpL (s:=tx) (by have:=HTS.out;unfold maxLen;omega)
 have HKL:=hid hkl
 have hlk:=HJ1.smp.look strK Tryz.underlying174 HKL.out w1 rfl
 have b7:w1.cell? ⟨X.gb,7,none⟩=some (.map (some X.sm)):=HJ1.box.cell 7
 have hgl:=HJ1.box.lt
 unfold idxV at hlk
 rw[HTX.out]at hlk
 clear hkl
 cases hix:idx (ZM y) (g.sels.map ZM)with
 | some i=>
  have hil:i<g.sels.length:=by have:=ZhU hix;simpa using this
  rw[hix]at hlk
  simp only[Option.map_some,Option.getD_some,Option.isSome_some,Int.ofNat_eq_natCast]at hlk
  have HQ:=hid (Zwi hix)
  have HA:=hid (GW.add (w0:=w0) (w:=w1) (X:=X) (g:=g) ⟨_,_,_,_,_,_,⟨⟨f,HJ1.out,HF.out⟩,HI.ulen,HI.nok,HI.ubd⟩⟩ ⟨1,(i:Nat),none,none⟩ (Zio (by decide) (by omega) (by omega)) hl)
  simp only[nI]at HA
  go_wp2_with fail
  refine HA.mono ?_
  rintro e w2 ⟨rfl,HP2⟩
  go_wp2
  go_ret
  rw[HQ.out]
  exact⟨rfl,hid (GP.step HK1.out HP2.out)⟩
 | none=>
  rw[hix]at hlk
  simp only[Option.map_none,Option.getD_none,Option.isSome_none]at hlk
  have HQ:=hid (Zwh hix)
  obtain⟨sa,sc,hsv⟩:=Zv HJ1.sel
  subst hsv
  obtain⟨L,hL⟩:∃L,L=g.sels.length:=⟨_,rfl⟩
  have HL:=hid hL
  rw[<-hL]at hsl HJ1 HNQ
  have HIX:=hid hix
  clear hL hix
  have HLM:Hid ((g.sels.map ZM).length=L):=hid (by rw[List.length_map];exact HL.symm)
  have hg1:idxV (g.sels.map ZM++[ZM y]) tx=some (L:Int):=by
   unfold idxV
   rw[ZgW _ _ _ HIX.out,HTX.out,if_pos rfl,HLM.out];rfl
  have hg2 : ∀ a', a' ≠ tx -> idxV (g.sels.map ZM ++ [ZM y]) a' = idxV (g.sels.map ZM) a' := fun a' ha => by
    unfold idxV
    rw[ZgW _ _ _ HIX.out,if_neg (fun e=>ha (ZeN (e.trans HTX.symm)))]
  obtain⟨w2,hup,hm2,hgr2⟩:=HJ1.smp.put strK Tryz.underlying174 ZpK (by rw[HLM.out];omega) HKL.out (v:=L) (Zgc (by omega)) hg1 hg2 w1 rfl
  have HJ2:=hid (HJ1.smPut hgr2 (ss':=g.sels.map ZM++[ZM y]) (by rw[List.length_append];exact hm2)).1
  have HK2:Hid (KT w w2):=hid (HK1.trans (HJ1.smPut hgr2 (ss':=g.sels.map ZM++[ZM y]) (by rw[List.length_append];exact hm2)).2)
  have HB2 : Hid (BAt w2 qb (ZcC s) 156) := hid (HB1.grown hgr2 (fun e => by
    obtain⟨es,cl,ho⟩:=HJ1.smp.obj
    injection e with e
    exact ZbO ho (show w1.heap[X.sm]?=_ by rw[<-e];exact HB1.out) rfl))
  have b5:w1.cell? ⟨X.gb,5,none⟩=some (.slice sa L sc):=HJ1.box.cell 5
  clear hg1 hg2 hm2 hgr2
  obtain⟨i0,hi,hz0,hz1,hz2⟩:=info_parts Tryz.infoSelC
  go_upto_region 6 with fail
  clear hlk hup b5 b7 hgl HJ1 HK1 HB1
  have HJ4:Hid (GJ w0 w2.drew X nv uv (.slice sa L sc) rv sl rl g _ f _ _):=hid (HJ2.below (Below.refl _ _).drew)
  have HK4:Hid (KT w w2.drew):=hid (HK2.trans (KT.below (Below.refl _ _).drew))
  have HB4:Hid (BAt w2.drew qb (ZcC s) 156):=HB2
  refine Zcm 10 (fun w'=>w'.cell? ⟨X.gb,5,none⟩=some (.slice sa L sc)/\w'.cell? ⟨qb,0,none⟩=some (.string s.1)/\w'.cell? ⟨qb,1,none⟩=some (.slice s.2.1 s.2.2.1 s.2.2.2.1)/\w'.cell? ⟨qb,2,none⟩=some (.int .i64 (s.2.2.2.2:Nat))) (by kernel_rfl) ⟨HJ4.box.cell 5,HB4.cell 0,HB4.cell 1,HB4.cell 2⟩ (fun hHeld=>?_)
  clear HJ2 HK2 HB2
  refine Zd 0 hHeld (h:=?_)
  refine Zd 1 hHeld (h:=?_)
  refine Zd 2 hHeld (h:=?_)
  refine Zd 3 hHeld (h:=?_)
  refine Zd 4 hHeld (h:=?_)
  refine Zd 5 hHeld (h:=?_)
  generalize w2.drew=w3 at *
  have HJA:Hid (∀o,GJ w0 (w3.alloc o) X nv uv (.slice sa L sc) rv sl rl g _ f _ _):=hid (fun o=>HJ4.below Zbal)
  have HBA:Hid (∀o,BAt (w3.alloc o) qb (ZcC s) 156):=hid (fun o=>HB4.below Zbal)
  have HOA:Hid (∀o,(w3.alloc o).ownsRow X.base 156 3 (.slice sa L sc) L (sl.flatMap ZcC)):=hid (fun o=>by have:=(HJA.out o).sel;rwa [<-HL.out]at this)
  have HKA:Hid (∀o,KT w (w3.alloc o)):=hid (fun o=>HK4.trans (KT.below Zbal))
  have HBS:Hid (X.base<=w3.heap.size):=hid (by have h1:=HJ4.bel.size;have:=HJ4.bas.1;omega)
  clear HJ4 HK4 HB4
  refine Zbr (i:=6) (by kernel_rfl) rfl (fun K hK=>?_)
  go_simp
  refine hK.out _ _ ⟨(HJA.out _).box.cell 5,(HBA.out _).cell 0,(HBA.out _).cell 1,(HBA.out _).cell 2⟩ (fun hHeld=>?_)
  clear hK K
  try simp only[Act.put,Zset]
  refine Zbr (i:=7) (by kernel_rfl) rfl (fun K hK=>?_)
  refine Ze3 rfl (.tmp 36) (.tmp 38) 55 rfl X.base 156 i0 _ 3 48 Tryz.underlying55 hi hz0 hz1 hz2 rfl (by decide) (.slice sa L sc) L (sl.flatMap ZcC) (by simp[Act.eval]) (HOA.out _) ⟨w3.heap.size,0,none⟩ 1 1 (ZcC s) (by simp[Act.eval]) rfl Zjz ?h3 ?h4 ?h5 ?h6 ?_
  case h3=>intro u hu;simp[ZcC]at hu;rcases hu with rfl|rfl|rfl <;> rfl
  case h4=>unfold maxLen;omega
  case h5=>omega
  case h6=>have:=HBS.out;simp;omega
  intro v1 w4 hown1 hgrow1 hat1
  obtain⟨g1,cp1,hv1⟩:=ZW hown1 (by omega)
  subst hv1
  obtain⟨hb4,hj4,hk4⟩:=(HJA.out _).selApp s y HS.out hgrow1 (by rw[<-HL.out];exact hown1)
  have HB5:=hid hb4
  have HJ5:=hid hj4
  have HK5:=hid ((HKA.out _).trans hk4)
  have hq4:BAt w4 qb (ZcC s) 156:=(HBA.out _).grown hgrow1 (fun e=>HNQ.out qb e.symm rfl)
  have HQ5:=hid hq4
  clear hown1 hgrow1 hat1 hb4 hj4 hk4 hq4 HJA HBA HOA HKA
  refine hK.out _ _ ⟨HB5.cell 5,HQ5.cell 0,HQ5.cell 1,HQ5.cell 2⟩ (fun hHeld=>?_)
  clear hK K
  refine Zd 8 hHeld (h:=?_)
  refine Zd 9 hHeld (h:=?_)
  refine Zcq (by kernel_rfl) (by kernel_rfl) rfl (by kernel_rfl) (fun K hK=>?_)
  have e1:=HB5.frozen 5
  have e2:=hHeld.1
  have e3:=HB5.lt
  go_simp
  refine hK.out _ _ ?_
  clear hK K e1 e2 e3 hHeld HB5 HQ5
  generalize w4.setCell ⟨X.gb,5,none⟩ (.slice (some ⟨g1,0,none⟩) (L+1) cp1)=w5 at *
  have HA:=hid (GW.add (w0:=w0) (w:=w5) (X:=X) (g:={ g with sels:=g.sels++[y] }) ⟨_,_,_,_,_,_,⟨⟨f,by have:=HJ5.out;rw[show(g.sels++[y]).map ZM=g.sels.map ZM++[ZM y] by simp];exact this,HF.out⟩,HI.ulen,HI.nok,HI.ubd⟩⟩ ⟨1,(L:Nat),none,none⟩ (Zio (by decide) (by omega) (by omega)) hl)
  simp only[nI]at HA
  clear hi hz0 hz1 hz2
  go_wp2_with fail
  refine HA.mono ?_
  rintro e w6 ⟨rfl,HP6⟩
  go_wp2
  go_ret
  rw[HQ.out,<-HL.out]
  exact⟨rfl,hid (GP.step HK5.out HP6.out)⟩
end
end Go.Proofs.YtcdgkkfipdoeeaaGreatDoor

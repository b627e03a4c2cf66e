/- Parts. -/
import Derived.Test.YtkodhpilkaihjaaGreatDoorF24
import Derived.Test.YtkodhpilkaihjaaGreatDoorF23
import Derived.Test.YtkodhpilkaihjaaGreatDoorF00
import Derived.Test.YtkodhpilkaihjaaGreatDoorF10
import Derived.Test.YtkodhpilkaihjaaGreatDoorF17
import Derived.Test.YtkodhpilkaihjaaGreatDoorF03
set_option maxRecDepth 100000
set_option maxHeartbeats 8000000
set_option linter.unusedSimpArgs false
namespace Go.Proofs.YtkodhpilkaihjaaGreatDoor
open Go.RowKit LS
attribute [local go_sem ↓] Go.wp_at_zero Go.wp_at_succ
attribute [local go_sem] ZgC ZhV ZhW ZhU ZhX ZgD ZgA Zgz ZhS ZhR ZhT ZgB ZfL ZfK ZfM ZhY ZhZ ZgE Zgw Zgv Zgx Zgu ZhQ Zgy ZgM ZgL ZgN ZgK ZgP ZgO ZgH ZgG ZgI ZgF ZgJ ZfN
theorem ZuC(o:Nat):(Zd4 o).length<=2:=by
 unfold Zd4;split <;> (try split) <;> (try split) <;> (try split) <;> simp
theorem Zwd{x y:Nat}{a:Nd}{p q:Tr}(hwf:wfT (.node x y a p q))(hk:a.kind=4∨a.kind=6)(ihp:WW p)(ihq:WW q)(w:World)(z1 z2:Value)(hz1:Zd w p z1)(hz2:Zd w q z2)(B b:Nat)(l:List UInt8)(hw:WB w B b l)(ht:Zx w)(hB:20<=B)(hl:l.length+wT (.node x y a p q)<=big) :
  Calls Tryz.prog 72 #[.pointer (some ⟨b,0,none⟩),.iface 268 (.agg #[.int .i64 (opNo a),z1,z2])] w fun e w'=>e=.returned (.tuple #[])/\Hid (WB w' B b (l++ZD (.node x y a p q) 1))/\Hid (WK B b w w'):=by
 obtain⟨o,hoe⟩:∃o,o=opNo a:=⟨_,rfl⟩
 have htr:=ZmQ hk hwf.2.2.1
 have HX:Hid (ZD (.node x y a p q) 1=ZD p (ZcS o+1)++[32]++Zd4 o++[32]++ZD q (ZcS o+1+1)):=hid (by rw[ZdI,ZoH hk hwf.2.2.1,hoe,htr.1])
 have ho4:o<=4:=by rw[hoe];exact htr.2
 have HPL:Hid ((ZD p (ZcS o+1)).length<=wT p):=hid (Zfy p _ hwf.2.2.2.2.2.2.2.2.2.2.1)
 rw[<-hoe]
 have HW:Hid (WB w B b l):=hw
 have HT:Hid (Zx w):=ht
 have HB:Hid (20<=B):=hB
 have HL:Hid (l.length+24+wT p+wT q<=big):=hid (by have h1:ownW a+wT p+wT q=wT (.node x y a p q):=rfl;unfold ownW at h1;omega)
 have HZ1:Hid (Zd w p z1):=hz1
 have HZ2:Hid (Zd w q z2):=hz2
 obtain⟨t1,u1,hsh1⟩:=Zd.shape hz1
 obtain⟨t2,u2,hsh2⟩:=Zd.shape hz2
 subst hsh1 hsh2
 obtain⟨sg,hsg⟩:∃sg:ByteArray,sg=⟨(Zd4 o).toArray⟩:=⟨_,rfl⟩
 have HSG:Hid (⟨(Zd4 o).toArray⟩=sg):=hsg.symm
 have HSB:Hid (bl sg=Zd4 o):=hid (by rw[hsg,Zbu])
 have hss:sg.size<=2:=by rw[ZO HSB.out];exact ZuC o
 have hrk:ZcS o<=2:=by unfold ZcS;split <;> (try split) <;> omega
 have a1:∀W,(Op.stringOp .add ⟨#[32]⟩ sg).run Tryz.prog W=.ok (.string (⟨#[32]⟩++sg)) W:=fun W=>run_string_add_sum W _ _ (by show 1+sg.size<=_;omega)
 have HS1:Hid ((⟨#[32]⟩++sg:ByteArray).size=1+sg.size):=hid (by rw[ByteArray.size_append];rfl)
 have a2:∀W,(Op.stringOp .add (⟨#[32]⟩++sg) ⟨#[32]⟩).run Tryz.prog W=.ok (.string ((⟨#[32]⟩++sg)++⟨#[32]⟩)) W:=fun W=>run_string_add_sum W _ _ (by rw[HS1.out];show _+1<=_;omega)
 have HS2:Hid (((⟨#[32]⟩++sg)++⟨#[32]⟩:ByteArray).size=1+sg.size+1):=hid (by rw[ByteArray.size_append,HS1.out];rfl)
 obtain⟨rr,hrr⟩:∃rr,rr=ZcS o:=⟨_,rfl⟩
 rw[<-hrr]at HX HPL hrk
 have HRR:Hid (∀W,Calls Tryz.prog 132 #[.agg #[.int .i64 o,.iface t1 u1,.iface t2 u2]] W fun e w'=>e=.returned (.int .i64 rr)/\Below W.heap.size W w'):=hid (fun W=>by rw[hrr];exact Zl9 W o ho4 t1 t2 u1 u2)
 have HPC:Hid (∀(w':World) (l':List UInt8),Zd w' p (.iface t1 u1)->WB w' B b l'->Zx w'->l'.length+wT p+2<=big->Calls Tryz.prog 131 #[.pointer (some ⟨b,0,none⟩),.iface t1 u1,.int .i64 (rr:Int)] w' fun e w''=>e=.returned (.tuple #[])/\Hid (WB w'' B b (l'++ZD p (rr+1)))/\Hid (WK B b w' w'')):=hid (fun w' l' h1 h2 h3 h4=>ihp w' _ B b l' rr h1 h2 h3 HB.out h4)
 have HQC:Hid (∀(w':World) (l':List UInt8),Zd w' q (.iface t2 u2)->WB w' B b l'->Zx w'->l'.length+wT q+2<=big->Calls Tryz.prog 131 #[.pointer (some ⟨b,0,none⟩),.iface t2 u2,.int .i64 ((rr:Int)+1)] w' fun e w''=>e=.returned (.tuple #[])/\Hid (WB w'' B b (l'++ZD q (rr+1+1)))/\Hid (WK B b w' w'')):=hid (fun w' l' h1 h2 h3 h4=>ihq w' _ B b l' (rr+1) h1 h2 h3 HB.out h4)
 have hwr:IntKind.i64.wrap ((rr:Int)+1)=(rr:Int)+1:=by rcases(by omega:rr=0∨rr=1∨rr=2)with h|h|h <;> rw[h] <;> rfl
 clear hw ht hB hl hk hz1 hz2 hwf hoe htr hsg hrr ihp ihq
 go_enter Tryz.func72,Tryz.ntmps72
 go_upto_region 10 with fail
 refine ZK fun W hW=>?_
 have hbW:Below w.heap.size w W:=by rw[hW];exact Zbal
 have HP0:Hid (BAt W w.heap.size [.int .i64 o,.iface t1 u1,.iface t2 u2] 268):=hid (by rw[hW];exact Go.Deep.blk_alloc_new _ _)
 have HWW:Hid (WB W B b l):=HW.below hbW
 have HKW:Hid (WK B b w W):=WK.below hbW HW.le
 have HZ1W:Hid (Zd W p (.iface t1 u1)):=HZ1.below hbW
 have HZ2W:Hid (Zd W q (.iface t2 u2)):=HZ2.below hbW
 clear hW hbW
 have p0:=HP0.cell 0
 have p1:=HP0.cell 1
 have p2:=HP0.cell 2
 simp only[Zget]at p0 p1 p2
 go_region_held3 (fun w' => w'.cell? ⟨w.heap.size, 0, none⟩ = some (.int .i64 o) /\ w'.cell? ⟨w.heap.size, 1, none⟩ = some (.iface t1 u1) /\ w'.cell? ⟨w.heap.size, 2, none⟩ = some (.iface t2 u2)) (first | exact ⟨e0, e1, e2⟩ | exact ⟨d0, d1, d2⟩ | exact ⟨p0, p1, p2⟩ | go_keep) (first
   | (go_at_call 132
      refine(HRR.out _).mono ?_
      rintro e w5 ⟨rfl,hb5⟩
      have HB5:Hid (Below W.heap.size W w5):=hid ⟨hb5.os,hb5.tape,hb5.output,hb5.size,hb5.block⟩
      have HP5:=hid (HP0.below HB5.out)
      have d0:=HP5.cell 0
      have d1:=HP5.cell 1
      have d2:=HP5.cell 2
      simp only[Zget]at d0 d1 d2
      have HK5:Hid (WK B b w w5):=HKW.trans (WK.below HB5.out HWW.le)
      clear hb5)
   | (go_at_call 131
      refine(HPC.out w5 l (HZ1W.below HB5.out) (HWW.below HB5.out) (HT.low HK5.low HB.out) (by have:=HL.out;omega)).mono ?_
      rintro e w6 ⟨rfl,HW6,HK6'⟩
      have HP6:=hid (WK.bat (HWW.below HB5.out) HK6'.out HP5.out (by decide) (by decide))
      have e0:=HP6.cell 0
      have e1:=HP6.cell 1
      have e2:=HP6.cell 2
      simp only[Zget]at e0 e1 e2
      have HK6:Hid (WK B b w w6):=HK5.trans HK6'.out
      have HZ6:Hid (Zd w6 q (.iface t2 u2)):=hid (Zd.wrote (HWW.below HB5.out) HK6'.out (HZ2W.below HB5.out))
      clear HK6'))
 clear p0 p1 p2 d0 d1 d2 HP5 HB5 HK5
 go_wp2_with (go_at_call 133;refine(ZuB o ho4 _).mono ?_;rintro e wq ⟨rfl,rfl⟩;rw[HSG.out])
 refine(ZcR HW6.out _ (by rw[HS2.out,List.length_append];have:=HL.out;have:=HPL.out;omega)).mono ?_
 rintro e w7 ⟨rfl,HW7,HK7'⟩
 have HK7:Hid (WK B b w w7):=HK6.trans HK7'.out
 have HP7:=hid (WK.bat HW6.out HK7'.out HP6.out (by decide) (by decide))
 have HZ7:Hid (Zd w7 q (.iface t2 u2)):=hid (Zd.wrote HW6.out HK7'.out HZ6.out)
 clear HK7' e0 e1 e2
 have p0:=HP7.cell 0
 have p1:=HP7.cell 1
 have p2:=HP7.cell 2
 simp only[Zget]at p0 p1 p2
 go_upto_region 12 with fail
 go_region_held3 (fun w' => w'.cell? ⟨w.heap.size, 0, none⟩ = some (.int .i64 o) /\ w'.cell? ⟨w.heap.size, 1, none⟩ = some (.iface t1 u1) /\ w'.cell? ⟨w.heap.size, 2, none⟩ = some (.iface t2 u2)) (first | exact ⟨e0, e1, e2⟩ | exact ⟨d0, d1, d2⟩ | exact ⟨p0, p1, p2⟩ | go_keep) (first
   | (go_at_call 132
      refine(HRR.out _).mono ?_
      rintro e w8 ⟨rfl,hb8⟩
      have HB8:Hid (Below w7.heap.size w7 w8):=hid ⟨hb8.os,hb8.tape,hb8.output,hb8.size,hb8.block⟩
      have HP8:=hid (HP7.below HB8.out)
      have d0:=HP8.cell 0
      have d1:=HP8.cell 1
      have d2:=HP8.cell 2
      simp only[Zget]at d0 d1 d2
      have HK8:Hid (WK B b w w8):=HK7.trans (WK.below HB8.out HW7.le)
      clear hb8)
   | (go_at_call 131
      refine(HQC.out w8 _ (HZ7.below HB8.out) (HW7.below HB8.out) (HT.low HK8.low HB.out) (by simp only[List.length_append,Ze];rw[HS2.out];have:=HL.out;have:=HPL.out;omega)).mono ?_
      rintro e w9 ⟨rfl,HW9,HK9'⟩
      have HP9:=hid (WK.bat (HW7.below HB8.out) HK9'.out HP8.out (by decide) (by decide))
      have e0:=HP9.cell 0
      have e1:=HP9.cell 1
      have e2:=HP9.cell 2
      simp only[Zget]at e0 e1 e2
      have HK9:Hid (WK B b w w9):=HK8.trans HK9'.out
      clear HK9'))
 have HWX:Hid (WB w9 B b (l++ZD (.node x y a p q) 1)):=hid (by
  rw[HX.out,<-HSB.out]
  have:=HW9.out
  rw[Zcs,Zcs]at this
  simp only[List.append_assoc]at this ⊢
  exact this)
 go_wp2
 go_end0
 exact⟨rfl,HWX,HK9⟩
theorem Zwa{x y:Nat}{a:Nd}{p q:Tr}(hwf:wfT (.node x y a p q))(hk:a.kind=5)(ih:WC p)(wd:ByteArray)(la:Option Addr)(ln lc:Nat)(w:World)(z:Value)(hwd:bl wd=Zbp.getD a.op [])(hns:ZbP w (.slice la ln lc) a.by_)(hz:Zd w p z)(B b:Nat)(l:List UInt8)(hw:WB w B b l)(ht:Zx w)(hB:20<=B)(hl:l.length+wT (.node x y a p q)<=big) :
  Calls Tryz.prog 72 #[.pointer (some ⟨b,0,none⟩),.iface 274 (.agg #[.string wd,.slice la ln lc,z])] w fun e w'=>e=.returned (.tuple #[])/\Hid (WB w' B b (l++ZD (.node x y a p q) 1))/\Hid (WK B b w w'):=by
 have HX:Hid (ZD (.node x y a p q) 1=bl wd++[32,98,121,32,40]++commas a.by_++[41,32,40]++ZD p 1++[41]):=hid (by rw[ZdI,ZoC hk,hwd])
 have HPL:Hid ((ZD p 1).length<=wT p):=hid (Zfy p _ hwf.2.2.2.2.2.2.2.2.2.2.1)
 have HW:Hid (WB w B b l):=hw
 have HT:Hid (Zx w):=ht
 have HB:Hid (20<=B):=hB
 have HL:Hid (l.length+24+nw a.by_+wT p<=big):=hid (by have h1:ownW a+wT p+wT q=wT (.node x y a p q):=rfl;unfold ownW at h1;omega)
 have HZ:Hid (Zd w p z):=hz
 have HNS:Hid (ZbP w (.slice la ln lc) a.by_):=hns
 have hwl:wd.size<=5:=by rw[ZO hwd];exact ZfX Zbp (by decide) a.op
 obtain⟨ty,u,hsh⟩:=Zd.shape hz
 subst hsh
 obtain⟨js,hjs⟩:∃js:ByteArray,js=⟨(commas a.by_).toArray⟩:=⟨_,rfl⟩
 have HJB:Hid (bl js=commas a.by_):=hid (by rw[hjs,Zbu])
 have HJL:Hid (js.size<=nw a.by_):=hid (by rw[ZO HJB.out];exact Zfh _)
 have hjl:js.size<=1000000:=by have h1:=HJL.out;have h2:=HL.out;unfold big at h2;omega
 have a1:∀W,(Op.stringOp .add wd ⟨#[32,98,121,32,40]⟩).run Tryz.prog W=.ok (.string (wd++⟨#[32,98,121,32,40]⟩)) W:=fun W=>run_string_add_sum W _ _ (by show wd.size+5<=_;omega)
 have HS1:Hid ((wd++⟨#[32,98,121,32,40]⟩:ByteArray).size=wd.size+5):=hid (by rw[ByteArray.size_append];rfl)
 have a2:∀W,(Op.stringOp .add (wd++⟨#[32,98,121,32,40]⟩) js).run Tryz.prog W=.ok (.string ((wd++⟨#[32,98,121,32,40]⟩)++js)) W:=fun W=>run_string_add_sum W _ _ (by rw[HS1.out];omega)
 have HS2:Hid (((wd++⟨#[32,98,121,32,40]⟩)++js:ByteArray).size=wd.size+5+js.size):=hid (by rw[ByteArray.size_append,HS1.out])
 have a3:∀W,(Op.stringOp .add ((wd++⟨#[32,98,121,32,40]⟩)++js) ⟨#[41,32,40]⟩).run Tryz.prog W=.ok (.string (((wd++⟨#[32,98,121,32,40]⟩)++js)++⟨#[41,32,40]⟩)) W:=fun W=>run_string_add_sum W _ _ (by rw[HS2.out];show _+3<=_;omega)
 have HS3:Hid ((((wd++⟨#[32,98,121,32,40]⟩)++js)++⟨#[41,32,40]⟩:ByteArray).size=wd.size+5+js.size+3):=hid (by rw[ByteArray.size_append,HS2.out];rfl)
 clear hw ht hB hl hk hz hwf hwd hns hjs
 go_enter Tryz.func72,Tryz.ntmps72
 go_upto_region 15 with fail
 refine ZK fun W hW=>?_
 have hbW:Below w.heap.size w W:=by rw[hW];exact Zbal
 have HP0:Hid (BAt W w.heap.size [.string wd,.slice la ln lc,.iface ty u] 274):=hid (by rw[hW];exact Go.Deep.blk_alloc_new _ _)
 have HWW:Hid (WB W B b l):=HW.below hbW
 have HKW:Hid (WK B b w W):=WK.below hbW HW.le
 have HZW:Hid (Zd W p (.iface ty u)):=HZ.below hbW
 have HNW:Hid (ZbP W (.slice la ln lc) a.by_):=HNS.below hbW
 clear hW hbW
 have p0:=HP0.cell 0
 have p1:=HP0.cell 1
 have p2:=HP0.cell 2
 simp only[Zget]at p0 p1 p2
 have HJC : Hid (∀ w', Below W.heap.size W w' -> Calls Tryz.prog 96 #[.slice la ln lc, .string ⟨#[44]⟩] w' fun e w'' => e = .returned (.string js) /\ Below w'.heap.size w' w'') := hid (by
   intro w' hw'
   refine(Zqi la ln lc a.by_ (HNW.below hw') (by have h2:=HL.out;unfold big at h2;omega)).mono ?_
   rintro e w'' ⟨s,rfl,hs,hb⟩
   exact⟨by rw[Zc9 (hs.trans HJB.symm)],hb⟩)
 have HBD:Hid (Below W.heap.size W W.drew):=hid ((Below.refl _ _).drew)
 go_region_held3 (fun w' => w'.cell? ⟨w.heap.size, 0, none⟩ = some (.string wd) /\ w'.cell? ⟨w.heap.size, 1, none⟩ = some (.slice la ln lc) /\ w'.cell? ⟨w.heap.size, 2, none⟩ = some (.iface ty u)) (first | exact ⟨e0, e1, e2⟩ | exact ⟨d0, d1, d2⟩ | exact ⟨p0, p1, p2⟩ | go_keep) (first
   | (go_at_call 96
      refine(HJC.out _ HBD.out).mono ?_
      rintro e w5 ⟨rfl,hb5⟩
      have HB5:Hid (Below W.heap.size W w5):=hid ⟨hb5.os,hb5.tape,hb5.output,hb5.size,hb5.block⟩
      have HP5:=hid (HP0.below HB5.out)
      have d0:=HP5.cell 0
      have d1:=HP5.cell 1
      have d2:=HP5.cell 2
      simp only[Zget]at d0 d1 d2
      have HK5:Hid (WK B b w w5):=HKW.trans (WK.below HB5.out HWW.le)
      clear hb5)
   | (go_at_call 129
      refine(ZcR (HWW.below HB5.out) _ (by rw[HS3.out];have:=HL.out;have:=HJL.out;omega)).mono ?_
      rintro e w6 ⟨rfl,HW6,HK6'⟩
      have HP6:=hid (WK.bat (HWW.below HB5.out) HK6'.out HP5.out (by decide) (by decide))
      have e0:=HP6.cell 0
      have e1:=HP6.cell 1
      have e2:=HP6.cell 2
      simp only[Zget]at e0 e1 e2
      have HK6:Hid (WK B b w w6):=HK5.trans HK6'.out
      have HZ6:Hid (Zd w6 p (.iface ty u)):=hid (Zd.wrote (HWW.below HB5.out) HK6'.out (HZW.below HB5.out))
      clear HK6'))
 clear p0 p1 p2 d0 d1 d2 HP5 HB5 HK5 HJC
 go_wp2_with fail
 refine(ih w6 _ B b _ HZ6.out HW6.out (HT.low HK6.low HB.out) HB.out (by rw[List.length_append,Ze,HS3.out];have:=HL.out;have:=HJL.out;omega)).mono ?_
 rintro e w7 ⟨rfl,HW7,HK7'⟩
 have HK7:Hid (WK B b w w7):=HK6.trans HK7'.out
 clear HK7' e0 e1 e2
 go_wp2_with fail
 refine(ZcR HW7.out ⟨#[41]⟩ (by simp only[List.length_append,Ze];rw[HS3.out];show _+1<=_;have:=HL.out;have:=HJL.out;have:=HPL.out;omega)).mono ?_
 rintro e w8 ⟨rfl,HW8,HK8'⟩
 have HK8:Hid (WK B b w w8):=HK7.trans HK8'.out
 have HWX:Hid (WB w8 B b (l++ZD (.node x y a p q) 1)):=hid (by
  rw[HX.out,<-HJB.out]
  have:=HW8.out
  rw[Zcs,Zcs,Zcs]at this
  simp only[List.append_assoc]at this ⊢
  exact this)
 clear HK8'
 go_wp2
 go_end0
 exact⟨rfl,HWX,HK8⟩
theorem Zjw:∀t:Tr,wfT t->WC t
 | .nil,_=>fun _ _ _ _ _ h=>h.elim
 | .node x y a p q, hwf => by
   have ihp:WC p:=Zjw p hwf.2.2.2.2.2.2.2.2.2.2.1
   have ihq:WC q:=Zjw q hwf.2.2.2.2.2.2.2.2.2.2.2
   have iwp:WW p:=Zng hwf.2.2.2.2.2.2.2.2.2.2.1 ihp
   have iwq:WW q:=Zng hwf.2.2.2.2.2.2.2.2.2.2.2 ihq
   intro w v B b l hp hw ht hB hl
   rcases hp with ⟨hk,rfl⟩|⟨hk,nm,la,ln,lc,rfl,h1,h2⟩|⟨hk,wd,nm,la,ln,lc,rfl,h1,h2,h3⟩|⟨hk,z,rfl,hz⟩|⟨hk,wd,la,ln,lc,z,rfl,h1,h2,hz⟩|⟨hk,z1,z2,rfl,hz1,hz2⟩
   · exact Zwc hwf hk w B b l hw ht hB hl
   · exact Zwe hk nm la ln lc w h1 h2 B b l hw hl
   · exact Zwf hwf hk wd nm la ln lc w h1 h2 h3 B b l hw ht hB hl
   · exact Zwb hk iwp w z hz B b l hw ht hB hl
   · exact Zwa hwf hk ihp wd la ln lc w z h1 h2 hz B b l hw ht hB hl
   · exact Zwd hwf hk iwp iwq w z1 z2 hz1 hz2 B b l hw ht hB hl
theorem Zi7{t:Tr}(hwf:wfT t)(hwt:wT t<=100000)(w:World)(v:Value)(hp:Zd w t v)(ht:Zx w)(hB:20<=w.heap.size) :
  Calls Tryz.prog 37 #[v] w fun e w'=>∃s:ByteArray,e=.returned (.string s)/\Hid (bl s=ZD t 1)/\Below w.heap.size w w':=by
 have HWC:Hid (WC t):=Zjw t hwf
 have HP:Hid (Zd w t v):=hp
 have HT:Hid (Zx w):=ht
 have HB:Hid (20<=w.heap.size):=hB
 have HL:Hid (wT t<=100000):=hwt
 obtain⟨ty,u,hsh⟩:=Zd.shape hp
 subst hsh
 clear hp ht hB hwt hwf
 go_enter Tryz.func37,Tryz.ntmps37
 go_wp2_with fail
 refine Zn fun W hW=>?_
 have hbW:Below w.heap.size w W:=by rw[hW];exact Zbal
 have HWW:Hid (WB W w.heap.size w.heap.size []):=hid ⟨Or.inl ⟨Nat.le_refl _,.slice none 0 0,by rw[hW];exact Go.Deep.blk_alloc_new _ _,⟨rfl,Or.inl ⟨rfl,rfl⟩⟩,by simp[Value.ownBlock]⟩,hbW.size⟩
 have HBW:Hid (Below w.heap.size w W):=hbW
 have HPW:Hid (Zd W t (.iface ty u)):=HP.below hbW
 have HTW:Hid (Zx W):=HT.low hbW HB.out
 clear hW hbW
 refine(HWC.out W _ w.heap.size w.heap.size [] HPW.out HWW.out HTW.out HB.out (by have:=HL.out;unfold big;simp;omega)).mono ?_
 rintro e w1 ⟨rfl,HW1,HK1⟩
 have HB1:Hid (Below w.heap.size w w1):=HBW.trans HK1.low
 go_wp2_with fail
 refine(Tryz.Builder_String_any_f w.heap.size w.heap.size _ w1 HW1.bd HW1.le).mono ?_
 rintro e w2 ⟨rfl,_,hb2⟩
 have HB2:Hid (Below w.heap.size w w2):=HB1.trans hb2
 clear hb2
 go_wp2
 go_ret
 exact⟨_,rfl,hid (by rw[Zbu]),HB2.out⟩
end Go.Proofs.YtkodhpilkaihjaaGreatDoor
namespace Go.Proofs.YtkodhpilkaihjaaGreatDoor
open Go.RowKit LS
theorem Zpx(s:ByteArray)(A:Nat->Addr)(m:Int)(w:World)(hv:Vars w A m)(ht:Zx w)(hB:20<=w.heap.size)(hlim:s.size<=9223372036854775807) :
  Calls Tryz.prog 20 #[.string s] w fun e w'=>∃(r:ByteArray) (c p:Nat),e=.returned (.tuple #[.string r,.int .i64 c,.int .i64 p])/\Hid (Zfx (bl s)=(bl r,c,p))/\Hid ((∃t,Z4 (bl s)=.ok t)∨c≠0)/\Below w.heap.size w w':=by
 have HR:Hid (Calls Tryz.prog 36 #[.string s] w _):=Zho s w hlim hv.sents
 have HV:Hid (Vars w A m):=hv
 have HT:Hid (Zx w):=ht
 have HBn:Hid (20<=w.heap.size):=hB
 clear hv ht hB
 go_enter Tryz.func20,Tryz.ntmps20
 go_wp2_with fail
 refine HR.mono ?_
 rintro e w1 ⟨pv,v,rfl,hres,hb1⟩
 have HB1:Hid (Below w.heap.size w w1):=hb1
 have HV1:Hid (Vars w1 A m):=HV.below hb1
 have HT1:Hid (Zx w1):=HT.low hb1 HBn.out
 have HB1n:Hid (20<=w1.heap.size):=Nat.le_trans HBn.out hb1.size
 clear hb1 HR
 cases hq:Z4 (bl s)with
 | ok t=>
  rw[hq]at hres
  obtain⟨rfl,hpv⟩:=hres.out
  obtain⟨hwf,hnil,hwt⟩:=Zmb hq
  have HQ:Hid (Zfx (bl s)=(ZD t 1,0,0)):=hid (by unfold Zfx;rw[hq])
  have HX:Hid (∃t,Z4 (bl s)=.ok t):=hid ⟨t,hq⟩
  have HC:Hid (Calls Tryz.prog 37 #[pv] w1 _):=Zi7 hwf hwt w1 pv hpv HT1.out HB1n.out
  obtain⟨ty,u,hsh⟩:=Zd.shape hpv
  subst hsh
  clear hres hq hpv hwf hnil hwt
  go_wp2_with fail
  refine HC.mono ?_
  rintro e w2 ⟨r,rfl,hr,hb2⟩
  have HB2:Hid (Below w.heap.size w w2):=HB1.trans (hb2.mono HB1.size)
  clear hb2 HC
  go_wp2
  go_ret3
  exact⟨r,0,0,rfl,hid (by rw[HQ.out,hr.out]),hid (Or.inl HX.out),HB2.out⟩
 | error x=>
  rw[hq]at hres
  have HQ:Hid (Zfx (bl s)=([],x.1,x.2)):=hid (by unfold Zfx;rw[hq])
  clear hq
  rcases hres.out with ⟨rfl,rfl⟩|⟨rfl,rfl⟩|⟨hx,he⟩|⟨hx,he⟩
  ·clear hres
   go_wp2_with fail
   refine(Zhj A m _ HV1.out).mono ?_
   rintro e wq ⟨rfl,rfl⟩
   go_wp2_with fail
   refine(Zde A m _ _ HV1.out).mono ?_
   rintro e w2 ⟨rfl,hb2⟩
   have HB2:Hid (Below w.heap.size w w2):=HB1.trans (hb2.mono HB1.size)
   clear hb2
   go_wp2
   go_ret3
   exact⟨⟨#[]⟩,1,0,rfl,HQ,hid (Or.inr (by decide)),HB2.out⟩
  ·clear hres
   go_wp2_with fail
   refine(ZlU A m _ HV1.out).mono ?_
   rintro e wq ⟨rfl,rfl⟩
   go_wp2_with fail
   refine(Zde A m _ _ HV1.out).mono ?_
   rintro e w2 ⟨rfl,hb2⟩
   have HB2:Hid (Below w.heap.size w w2):=HB1.trans (hb2.mono HB1.size)
   clear hb2
   go_wp2
   go_ret3
   exact⟨⟨#[]⟩,4,0,rfl,HQ,hid (Or.inr (by decide)),HB2.out⟩
  ·obtain⟨x1,x2⟩:=x
   simp only at hx he
   subst hx
   obtain⟨fa,rfl,hc1,hc2⟩:=he.cells
   clear hres he
   have HC1:Hid (w1.cell? ⟨fa,1,none⟩=some (.int .i64 x2)):=hc1
   have HC2:=hid hc2
   clear hc1 hc2
   go_wp2_with fail
   refine(ZlS A m _ HV1.out fa HC2.out).mono ?_
   rintro e wq ⟨rfl,rfl⟩
   go_wp2_with fail
   refine(Zdf A m fa x2 _ HV1.out HC1.out).mono ?_
   rintro e w2 ⟨rfl,hb2⟩
   have HB2:Hid (Below w.heap.size w w2):=HB1.trans (hb2.mono HB1.size)
   clear hb2
   go_wp2
   go_ret3
   exact⟨⟨#[]⟩,2,x2,rfl,HQ,hid (Or.inr (by decide)),HB2.out⟩
  ·obtain⟨x1,x2⟩:=x
   simp only at hx he
   subst hx
   obtain⟨fa,rfl,hc1,hc2⟩:=he.cells
   clear hres he
   have HC1:Hid (w1.cell? ⟨fa,1,none⟩=some (.int .i64 x2)):=hc1
   have HC2:=hid hc2
   clear hc1 hc2
   go_wp2_with fail
   refine(ZlO A m _ HV1.out fa HC2.out).mono ?_
   rintro e wq ⟨rfl,rfl⟩
   go_wp2_with fail
   refine(Zdf A m fa x2 _ HV1.out HC1.out).mono ?_
   rintro e w2 ⟨rfl,hb2⟩
   have HB2:Hid (Below w.heap.size w w2):=HB1.trans (hb2.mono HB1.size)
   clear hb2
   go_wp2
   go_ret3
   exact⟨⟨#[]⟩,3,x2,rfl,HQ,hid (Or.inr (by decide)),HB2.out⟩
theorem Zo0(q s:ByteArray)(f l st:Int)(A:Nat->Addr)(m:Int)(w:World)(hv:Vars w A m)(ht:Zx w)(hB:20<=w.heap.size)(hq:q.size<=9223372036854775807)(hs:s.size<=maxLen) :
  Calls Tryz.prog 25 #[.string q,.string s,.agg #[.int .i64 f,.int .i64 l,.int .i64 st]] w fun e w'=>∃(r:ByteArray) (err:Value) (c p:Nat),e=.returned (.tuple #[.string r,err])/\Hid (Zer w' A err c p)/\Hid (Zdn (bl q) (bl s) f l st=(bl r,c,p))/\Below w.heap.size w w':=by
 have HRD:Hid (∀W,Below w.heap.size w W->Calls Tryz.prog 36 #[.string q] W _):=hid (fun W hb=>Zho q W hq (hv.below hb).sents)
 have HLD:Hid (∀W,Below w.heap.size w W->Calls Tryz.prog 24 #[.string s] W _):=hid (fun W hb=>ZmG s A m W (hv.below hb) hs)
 have HTD:Hid (∀W,Below w.heap.size w W->Calls Tryz.prog 46 #[.agg #[.int .i64 f,.int .i64 l,.int .i64 st]] W _):=hid (fun W hb=>Zl8 f l st (A 7) W ((hv.below hb).sent _ (by decide)))
 have HT:Hid (Zx w):=ht
 have HBn:Hid (20<=w.heap.size):=hB
 clear hv ht hB hq hs
 go_enter Tryz.func25,Tryz.ntmps25
 go_wp2_with fail
 refine Zn fun W hW=>?_
 have hbW:Below w.heap.size w W:=by rw[hW];exact Zbal
 have HBX:Hid (BAt W w.heap.size [.int .i64 f,.int .i64 l,.int .i64 st] 26):=hid (by rw[hW];exact Go.Deep.blk_alloc_new _ _)
 refine(HRD.out W hbW).mono ?_
 rintro e w1 ⟨pv,v,rfl,hres,hb1⟩
 have HB1:Hid (Below w.heap.size w w1):=hid (hbW.trans (hb1.mono hbW.size))
 have HBX1:=hid (HBX.below hb1)
 clear hb1 HRD hbW hW HBX
 cases hq:Z4 (bl q)with
 | error x=>
  obtain⟨he,ty,u,rfl⟩:=Zer.rd hq hres.out
  have HE:=hid he
  have HQ:Hid (Zdn (bl q) (bl s) f l st=([],x.1,x.2)):=hid (by unfold Zdn;rw[hq])
  clear hres hq he
  go_wp2
  go_ret2
  exact⟨_,_,_,_,rfl,HE,HQ,HB1.out⟩
 | ok t=>
  rw[hq]at hres
  obtain⟨rfl,hpv⟩:=hres.out
  obtain⟨ty,u,rfl⟩:=hpv.shape
  have HPV:=hid hpv
  have HWF:=hid (Zmb hq)
  have HWN:=hid (ZtP hq)
  have HEQ:Hid (∀x,(if (Zy (bl s)).1≠0 then ([],(Zy (bl s)).1,(Zy (bl s)).2)else match Zb9 f l st with
   | none=>([],8,0)
   | some ts=>(ZbJ (ts.map (Zd2 (ZdN (bl s)) t)),0,0))=x->Zdn (bl q) (bl s) f l st=x):=hid (fun x hx=>by unfold Zdn;rw[hq];exact hx)
  clear hres hq hpv
  go_wp2_with fail
  refine(HLD.out w1 HB1.out).mono ?_
  rintro e w2 ⟨sv,err,rfl,HLE,hb2,HRV⟩
  have HB2:Hid (Below w.heap.size w w2):=hid (HB1.trans (hb2.mono HB1.size))
  have HPV2:=hid (HPV.keepsC (Zh.below hb2))
  have HBX2:=hid (HBX1.below hb2)
  clear hb2 HLD HBX1 HPV HB1
  rcases Zer.ld HLE.out with ⟨h0,rfl⟩|⟨h0,he,ty',u',rfl⟩
  ·obtain⟨ss,hsto,hser,hdst,hlen⟩:=(HRV.out h0).sto h0
   obtain⟨sa,scp,rfl⟩:=Zr hsto.row
   have HSP:=hid hsto
   have HSR:=hid hser
   have HDS:=hid hdst
   have HLN:=hid hlen
   have H0:=hid h0
   clear HLE HRV hsto hser hdst hlen h0
   have x0:=HBX2.cell 0
   have x1:=HBX2.cell 1
   have x2:=HBX2.cell 2
   simp only[Zget]at x0 x1 x2
   go_wp2_with fail
   clear x0 x1 x2
   refine(HTD.out w2 HB2.out).mono ?_
   rintro e w3 ⟨tv,ev,rfl,HTP,hb3⟩
   have HB3:Hid (Below w.heap.size w w3):=hid (HB2.trans (hb3.mono HB2.size))
   have HPV3:=hid (HPV2.keepsC (Zh.below hb3))
   have HSP3:=hid (HSP.below hb3)
   clear hb3 HTD HPV2 HSP HBX2 HB2
   rcases HTP.out with ⟨h1,rfl,rfl⟩|⟨ts,h1,h2,h3,rfl,h4⟩
   ·have HQ:Hid (Zdn (bl q) (bl s) f l st=([],8,0)):=hid (HEQ.out _ (by rw[if_neg (by rw[H0.out];simp),h1]))
    clear HTP h1
    go_wp2
    go_ret2
    exact⟨_,_,8,0,rfl,hid (Or.inr (Or.inr (Or.inr (Or.inr (Or.inl ⟨rfl,rfl,rfl⟩))))),HQ,HB3.out⟩
   ·obtain⟨ta,tcp,rfl⟩:=Zr h4
    have HQ:Hid (Zdn (bl q) (bl s) f l st=(ZbJ (ts.map (Zd2 (ss.map Srs.ser) t)),0,0)):=hid (HEQ.out _ (by rw[if_neg (by rw[H0.out];simp),h1,HSR.out]))
    have HAN:Hid (Calls Tryz.prog 47 #[.iface ty u,.slice sa ss.length scp,.slice ta ts.length tcp] w3 _):=hid (ZnC t ts ss (.iface ty u) (.slice sa ss.length scp) (.slice ta ts.length tcp) w3 h2 h3 h4 HPV3.out HSP3.out
     (fun x mb gb tm a b=>Zi8 a b HDS.out HLN.out t HWF.1 HWF.2.2 HWN.1 HWF.2.1 HWN.2)
     (fun tm=>(Zhq HDS.out tm t).mono (by rw[List.length_map];exact HLN.out)) (HT.low HB3.out HBn.out) (Nat.le_trans HBn.out HB3.size))
    clear HTP h1 h2 h3 h4
    go_wp2_with fail
    refine HAN.mono ?_
    rintro e w4 ⟨r4,rfl,HR4,hb4⟩
    have HB4:Hid (Below w.heap.size w w4):=hid (HB3.trans (hb4.mono HB3.size))
    clear hb4 HAN
    go_wp2
    go_ret2
    exact⟨r4,_,0,0,rfl,hid (Or.inl ⟨rfl,rfl,rfl⟩),hid (by rw[HQ.out,HR4.out]),HB4.out⟩
  ·have HE:=hid he
   have HQ:Hid (Zdn (bl q) (bl s) f l st=([],(Zy (bl s)).1,(Zy (bl s)).2)):=hid (HEQ.out _ (by rw[if_pos h0]))
   clear HLE HRV he h0
   go_wp2
   go_ret2
   exact⟨_,_,_,_,rfl,HE,HQ,HB2.out⟩
theorem ZkK(q s:ByteArray)(f l st:Int)(A:Nat->Addr)(m:Int)(w:World)(hv:Vars w A m)(ht:Zx w)(hB:20<=w.heap.size)(hq:q.size<=9223372036854775807)(hs:s.size<=maxLen) :
  Calls Tryz.prog 12 #[.string q,.string s,.agg #[.int .i64 f,.int .i64 l,.int .i64 st]] w fun e w'=>∃(r:ByteArray) (c p:Nat),e=.returned (.tuple #[.string r,.int .i64 c,.int .i64 p])/\Hid (Zdn (bl q) (bl s) f l st=(bl r,c,p))/\Below w.heap.size w w':=by
 have HV:Hid (Vars w A m):=hv
 have HE:Hid (∀W,Below w.heap.size w W->Calls Tryz.prog 25 #[.string q,.string s,.agg #[.int .i64 f,.int .i64 l,.int .i64 st]] W _):=hid (fun W hb=>Zo0 q s f l st A m W (hv.below hb) (ht.low hb hB) (Nat.le_trans hB hb.size) hq hs)
 clear hv ht hB hq hs
 go_enter Tryz.func12,Tryz.ntmps12
 go_wp2_with fail
 refine Zn fun W hW=>?_
 have hbW:Below w.heap.size w W:=by rw[hW];exact Zbal
 refine(HE.out W hbW).mono ?_
 rintro e w1 ⟨r,err,c,p,rfl,HER,HQ,hb1⟩
 have HB1:Hid (Below w.heap.size w w1):=hid (hbW.trans (hb1.mono hbW.size))
 have HV1:=hid (HV.below HB1.out)
 clear hb1 hbW hW HE HV
 rcases HER.out with ⟨rfl,rfl,rfl⟩|⟨rfl,rfl,rfl⟩|⟨rfl,rfl,rfl⟩|⟨rfl,rfl,rfl⟩|⟨rfl,rfl,rfl⟩|⟨fa,rfl,h1,h⟩
 ·clear HER
  go_wp2_with fail
  refine(Zf5 A m _ HV1.out).mono ?_
  rintro e wq ⟨rfl,rfl⟩
  go_wp2_with fail
  refine(Zf9 _).mono ?_
  rintro e w2 ⟨rfl,hb2⟩
  have HB2:Hid (Below w.heap.size w w2):=hid (HB1.trans (hb2.mono HB1.size))
  clear hb2
  go_wp2
  go_ret3
  exact⟨r,_,_,rfl,HQ,HB2.out⟩
 ·clear HER
  go_wp2_with fail
  refine(Zhj A m _ HV1.out).mono ?_
  rintro e wq ⟨rfl,rfl⟩
  go_wp2_with fail
  refine(Zde A m _ _ HV1.out).mono ?_
  rintro e w2 ⟨rfl,hb2⟩
  have HB2:Hid (Below w.heap.size w w2):=hid (HB1.trans (hb2.mono HB1.size))
  clear hb2
  go_wp2
  go_ret3
  exact⟨r,_,_,rfl,HQ,HB2.out⟩
 ·clear HER
  go_wp2_with fail
  refine(ZlU A m _ HV1.out).mono ?_
  rintro e wq ⟨rfl,rfl⟩
  go_wp2_with fail
  refine(Zde A m _ _ HV1.out).mono ?_
  rintro e w2 ⟨rfl,hb2⟩
  have HB2:Hid (Below w.heap.size w w2):=hid (HB1.trans (hb2.mono HB1.size))
  clear hb2
  go_wp2
  go_ret3
  exact⟨r,_,_,rfl,HQ,HB2.out⟩
 ·clear HER
  go_wp2_with fail
  refine(ZiM A m _ HV1.out).mono ?_
  rintro e wq ⟨rfl,rfl⟩
  go_wp2_with fail
  refine(Zde A m _ _ HV1.out).mono ?_
  rintro e w2 ⟨rfl,hb2⟩
  have HB2:Hid (Below w.heap.size w w2):=hid (HB1.trans (hb2.mono HB1.size))
  clear hb2
  go_wp2
  go_ret3
  exact⟨r,_,_,rfl,HQ,HB2.out⟩
 ·clear HER
  go_wp2_with fail
  refine(ZlT A m _ HV1.out).mono ?_
  rintro e wq ⟨rfl,rfl⟩
  go_wp2_with fail
  refine(Zde A m _ _ HV1.out).mono ?_
  rintro e w2 ⟨rfl,hb2⟩
  have HB2:Hid (Below w.heap.size w w2):=hid (HB1.trans (hb2.mono HB1.size))
  clear hb2
  go_wp2
  go_ret3
  exact⟨r,_,_,rfl,HQ,HB2.out⟩
 ·have HC1:Hid (w1.cell? ⟨fa,1,none⟩=some (.int .i64 p)):=h1
  clear HER h1
  rcases h with ⟨rfl,h2⟩|⟨rfl,h2⟩|⟨rfl,h2⟩|⟨rfl,h2⟩
  ·have HC2:=hid h2
   clear h2
   go_wp2_with fail
   refine(ZlS A m _ HV1.out fa HC2.out).mono ?_
   rintro e wq ⟨rfl,rfl⟩
   go_wp2_with fail
   refine(Zdf A m fa p _ HV1.out HC1.out).mono ?_
   rintro e w2 ⟨rfl,hb2⟩
   have HB2:Hid (Below w.heap.size w w2):=hid (HB1.trans (hb2.mono HB1.size))
   clear hb2
   go_wp2
   go_ret3
   exact⟨r,_,_,rfl,HQ,HB2.out⟩
  ·have HC2:=hid h2
   clear h2
   go_wp2_with fail
   refine(ZlO A m _ HV1.out fa HC2.out).mono ?_
   rintro e wq ⟨rfl,rfl⟩
   go_wp2_with fail
   refine(Zdf A m fa p _ HV1.out HC1.out).mono ?_
   rintro e w2 ⟨rfl,hb2⟩
   have HB2:Hid (Below w.heap.size w w2):=hid (HB1.trans (hb2.mono HB1.size))
   clear hb2
   go_wp2
   go_ret3
   exact⟨r,_,_,rfl,HQ,HB2.out⟩
  ·have HC2:=hid h2
   clear h2
   go_wp2_with fail
   refine(ZiN A m _ HV1.out fa HC2.out).mono ?_
   rintro e wq ⟨rfl,rfl⟩
   go_wp2_with fail
   refine(Zdf A m fa p _ HV1.out HC1.out).mono ?_
   rintro e w2 ⟨rfl,hb2⟩
   have HB2:Hid (Below w.heap.size w w2):=hid (HB1.trans (hb2.mono HB1.size))
   clear hb2
   go_wp2
   go_ret3
   exact⟨r,_,_,rfl,HQ,HB2.out⟩
  ·have HC2:=hid h2
   clear h2
   go_wp2_with fail
   refine(ZiO A m _ HV1.out fa HC2.out).mono ?_
   rintro e wq ⟨rfl,rfl⟩
   go_wp2_with fail
   refine(Zdf A m fa p _ HV1.out HC1.out).mono ?_
   rintro e w2 ⟨rfl,hb2⟩
   have HB2:Hid (Below w.heap.size w w2):=hid (HB1.trans (hb2.mono HB1.size))
   clear hb2
   go_wp2
   go_ret3
   exact⟨r,_,_,rfl,HQ,HB2.out⟩
def awQ:List UInt8:=[97,43,98,42,99]
def awP:List UInt8:=[97,32,43,32,98,32,42,32,99]
def awE:List UInt8:=[99,32,43,32,100]
def awS:List UInt8:=[99,123,104,61,97,125,32,49,58,53,32,52,58,56,10,99,123,104,61,98,125,32,52,58,50,10,100,123,104,61,97,125,32,52,58,51]
def awA:List UInt8:=[49,10,52,32,123,104,61,97,125,49,49]
theorem ZnN:Zfx awQ=(awP,0,0):=by kernel_rfl
theorem ZnM:Zdn awE awS 1 4 3=(awA,0,0):=by kernel_rfl
theorem Zfe{r:ByteArray}{l:List UInt8}(h:bl r=l):r=⟨l.toArray⟩:=Zc9 (by rw[h,Zbu])
theorem ZnO(A:Nat->Addr)(m:Int)(w:World)(hv:Vars w A m)(ht:Zx w)(hB:20<=w.heap.size) :
  Calls Tryz.prog 9 #[] w fun e w'=>e=.returned (.bool true)/\Below w.heap.size w w':=by
 have HP : Hid (∀ W, Below w.heap.size w W -> Calls Tryz.prog 20 #[.string ⟨awQ.toArray⟩] W fun e w' => e = .returned (.tuple #[.string ⟨awP.toArray⟩, .int .i64 0, .int .i64 0]) /\ Below W.heap.size W w') := hid (fun W hb => (Zpx ⟨awQ.toArray⟩ A m W (hv.below hb) (ht.low hb hB) (Nat.le_trans hB hb.size) (by decide)).mono (fun e w' ⟨r, c, p, h1, h2, _, h4⟩ => by
   have h:=h2.out
   rw[Zbu,ZnN]at h
   injection h with k1 k2
   injection k2 with k2 k3
   subst k2 k3
   rw[Zfe k1.symm]at h1
   exact⟨h1,h4⟩))
 have HE : Hid (∀ W, Below w.heap.size w W -> Calls Tryz.prog 12 #[.string ⟨awE.toArray⟩, .string ⟨awS.toArray⟩, .agg #[.int .i64 1, .int .i64 4, .int .i64 3]] W fun e w' => e = .returned (.tuple #[.string ⟨awA.toArray⟩, .int .i64 0, .int .i64 0]) /\ Below W.heap.size W w') := hid (fun W hb => (ZkK ⟨awE.toArray⟩ ⟨awS.toArray⟩ 1 4 3 A m W (hv.below hb) (ht.low hb hB) (Nat.le_trans hB hb.size) (by decide) (by decide)).mono (fun e w' ⟨r, c, p, h1, h2, h4⟩ => by
   have h:=h2.out
   rw[Zbu,Zbu,ZnM]at h
   injection h with k1 k2
   injection k2 with k2 k3
   subst k2 k3
   rw[Zfe k1.symm]at h1
   exact⟨h1,h4⟩))
 clear hv ht hB
 go_enter Tryz.func9,Tryz.ntmps9
 go_wp2_with fail
 refine Zn fun W hW=>?_
 have hbW:Below w.heap.size w W:=by rw[hW];exact Below.refl _ _
 refine(HP.out W hbW).mono ?_
 rintro e w1 ⟨rfl,hb1⟩
 have HB1:Hid (Below w.heap.size w w1):=hid (hbW.trans (hb1.mono hbW.size))
 clear hb1 hbW hW HP
 go_wp2_with fail
 refine Zn fun W hW=>?_
 have hbW:Below w.heap.size w W:=by rw[hW];exact HB1.out
 refine(HE.out W hbW).mono ?_
 rintro e w2 ⟨rfl,hb2⟩
 have HB2:Hid (Below w.heap.size w w2):=hid (hbW.trans (hb2.mono hbW.size))
 clear hb2 hbW hW HE HB1
 go_wp2
 go_ret
 exact⟨rfl,HB2.out⟩
def Zdd(c n:Int):Int:=if c<0 then -((c+1).tmod n)else c % n
theorem Zfw(c n:Int)(hn:1<=n):0<=Zdd c n/\Zdd c n<n:=by
 unfold Zdd
 split
 ·rw[<-Int.neg_tmod,Int.tmod_eq_emod_of_nonneg (by omega)]
  exact⟨Int.emod_nonneg _ (by omega),Int.emod_lt_of_pos _ (by omega)⟩
 ·exact⟨Int.emod_nonneg _ (by omega),Int.emod_lt_of_pos _ (by omega)⟩
theorem ZiX(c n:Int)(hc1 : -9223372036854775808<=c)(hc2:c<=9223372036854775807)(hn1:1<=n)(hn2:n<=9223372036854775807)(w:World) :
  Calls Tryz.prog 14 #[.int .i64 c,.int .i64 n] w fun e w'=>e=.returned (.int .i64 (Zdd c n))/\w'=w:=by
 have hr:=Zfw c n hn1
 have hn3:¬n=0:=by omega
 go_enter Tryz.func14,Tryz.ntmps14
 by_cases h:c<0
 ·have e:Zdd c n=-((c+1).tmod n):=by unfold Zdd;rw[if_pos h]
  rw[e]at hr
  rw[e]
  go_wp2
  go_ret
  exact⟨rfl,rfl⟩
 ·have e:Zdd c n=c % n:=by unfold Zdd;rw[if_neg h]
  rw[e]at hr
  rw[e]
  go_wp2
  go_ret
  exact⟨rfl,rfl⟩
end Go.Proofs.YtkodhpilkaihjaaGreatDoor

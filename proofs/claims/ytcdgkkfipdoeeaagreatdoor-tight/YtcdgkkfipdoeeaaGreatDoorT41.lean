/- Parts. -/
import Derived.Test.YtcdgkkfipdoeeaaGreatDoorT40
set_option maxRecDepth 100000
set_option maxHeartbeats 8000000
namespace Go.Proofs.YtcdgkkfipdoeeaaGreatDoor
open Go.RowKit LS
theorem in3(a c:List UInt8)(p:ByteArray)(t:Tr)(h:bl p=Zm t 1):bl ((⟨a.toArray⟩++p)++⟨c.toArray⟩:ByteArray)=a++Zm t 1++c:=Zre a _ c p h
theorem sz3(a b c:ByteArray):(a++b++c).size=a.size+b.size+c.size:=by simp[ByteArray.size_append]
theorem sz3b(a b p:ByteArray)(hp:p.size<=100000)(h:a.size+b.size<=1000):(a++p++b).size<=9223372036854775807:=by rw[sz3];omega
theorem sz5(a b c p:ByteArray)(hp:p.size<=100000)(h:a.size+b.size+c.size<=1000):(a++p++b++p++c).size<=9223372036854775807:=by rw[sz3,sz3];omega
theorem in5(a b c:List UInt8)(p:ByteArray)(t:Tr)(h:bl p=Zm t 1):bl ((⟨a.toArray⟩++p)++⟨b.toArray⟩++p++⟨c.toArray⟩:ByteArray)=a++Zm t 1++b++Zm t 1++c:=by
 rw[Zce,Zce,in3 a b p t h,h,Zbv]
theorem Zyw(q:ByteArray)(fl:Int)(A:Nat->Addr)(m:Int)(w:World)(hv:Vars w A m)(ht:Zu w)(hB:20<=w.heap.size)(hq:q.size<=9223372036854775807)(hf1 : -9223372036854775808<=fl)(hf2:fl<=9223372036854775807) :
  Calls Tryz.prog 4 #[.string q,.int .i64 fl] w fun e w'=>e=.returned (.bool true)/\Below w.heap.size w w':=by
 have HA:Hid (∀W,Below w.heap.size w W->Calls Tryz.prog 6 #[] W _):=hid (fun W hb=>Zq5 A m W (hv.below hb) (ht.low hb hB) (Nat.le_trans hB hb.size))
 have HP:Hid (∀(p:ByteArray) W,p.size<=9223372036854775807->Below w.heap.size w W->Calls Tryz.prog 7 #[.string p] W _):=hid (fun p W hp hb=>Znm p A m W (hv.below hb) (ht.low hb hB) (Nat.le_trans hB hb.size) hp)
 have HC:Hid (∀(p:ByteArray) (f:Nat) W,p.size<=9223372036854775807->Below w.heap.size w W->Calls Tryz.prog 8 #[.string p,.int .i64 f] W _):=hid (fun p f W hp hb=>ZjE p f A m W (hv.below hb) (ht.low hb hB) (Nat.le_trans hB hb.size) hp)
 have HF : Hid (∀ (f n : Nat) (a b : ByteArray) W, 1 <= n -> Fd f n (bl a) (bl b) -> a.size <= 9223372036854775807 -> b.size <= 9223372036854775807 -> Below w.heap.size w W -> Calls Tryz.prog 14 #[.int .i64 f, .string a, .string b] W fun e w' => e = .returned (.bool true) /\ Below W.heap.size W w') := hid (fun f n a b W hn hfd ha hb hbW => by
   obtain⟨⟨ra,p,h1,h2⟩,q,h3⟩:=hfd
   exact Zs0 f a b A m W (hv.below hbW) (ht.low hbW hB) (Nat.le_trans hB hbW.size) ha hb n p q hn ra h1 h2 h3)
 obtain⟨f,hf⟩:∃f:Nat,Zef fl 8=f:=⟨(Zef fl 8).toNat,by have:=Zk6 fl 8 (by omega);omega⟩
 have hf7:f<=7:=by have:=Zk6 fl 8 (by omega);omega
 have HPF:Hid (∀W,Calls Tryz.prog 9 #[.int .i64 fl,.int .i64 8] W fun e w'=>e=.returned (.int .i64 (f:Int))/\w'=W):=hid (fun W=>by rw[<-hf];exact Zwj fl 8 hf1 hf2 (by decide) (by decide) W)
 have HQ0:=hid hq
 have HF7:=hid hf7
 clear hv ht hB hq hf hf1 hf2
 go_enter Tryz.func4,Tryz.ntmps4
 go_wp2_with fail
 refine ZK fun W hW=>?_
 have hbW:Below w.heap.size w W:=by rw[hW];exact Below.refl _ _
 refine(HA.out W hbW).mono ?_
 rintro e w1 ⟨rfl,hb1⟩
 have HB1:Hid (Below w.heap.size w w1):=hid (hbW.trans (hb1.mono hbW.size))
 clear hb1 hbW hW HA
 go_wp2_with fail
 refine(HPF.out _).mono ?_
 rintro e wq ⟨rfl,rfl⟩
 clear HPF
 go_wp2_with fail
 refine(HP.out q _ HQ0.out HB1.out).mono ?_
 rintro e w2 ⟨p,c,at_,rfl,HPQ,HPX,hb2⟩
 have HB2:Hid (Below w.heap.size w w2):=hid (HB1.trans (hb2.mono HB1.size))
 clear hb2 HB1
 cases hr:ZB (bl q)with
 | error x=>
  have k1:Zdy (bl q)=([],x.1,x.2):=by unfold Zdy;rw[hr]
  have k1':=HPQ.symm.trans k1
  injection k1' with a1 a2
  injection a2 with a2 a3
  have hc:c≠0:=by
   rcases HPX.out with ⟨t,ht⟩|h
   ·rw[hr]at ht;cases ht
   ·exact h
  obtain rfl:p=⟨#[]⟩:=Zju a1
  have hne:((c:Int) != 0)=true:=by rw[bne_iff_ne];omega
  clear HPQ HPX k1 a1 a2 a3 hr HP HC HF
  go_wp2
  go_ret
  exact⟨by simp,HB2.out⟩
 | ok t=>
  have hp1:Zdy (bl q)=(Zm t 1,0,0):=by unfold Zdy;rw[hr]
  have k1':=HPQ.symm.trans hp1
  injection k1' with a1 a2
  injection a2 with a2 a3
  subst a2 a3
  have hwt:=Zdz hr
  have hps:p.size<=100000:=by
   rw[<-Zi,a1]
   exact Nat.le_trans (ZeA t 1 hwt.1) hwt.2.2
  have hrp:=Zw2 hr
  have HPS:=hid hps
  have HPR:=hid (Zo3 hr)
  have HWT:=hid hwt
  have HBP:=hid a1
  rw[<-a1,Zi]at hrp
  have HRP:=hid hrp
  clear hp1 a1 hwt hrp hr hps HPQ HPX
  go_wp2_with fail
  refine(HC.out p f w2 (Nat.le_trans HPS.out (by decide)) HB2.out).mono ?_
  rintro e w3 ⟨code,g,gat,rfl,HCQ,hb3⟩
  have HB3:Hid (Below w.heap.size w w3):=hid (HB2.trans (hb3.mono HB2.size))
  clear hb3 HB2
  by_cases hlong:300<p.size
  ·have hr1:ZB (bl p)=.error (1,0):=by rw[HRP.out,if_pos hlong]
   have k1:Zbe (bl p) f=([],1,0):=by unfold Zbe;rw[hr1]
   have k1':=HCQ.symm.trans k1
   injection k1' with a1 a2
   injection a2 with a2 a3
   subst a2 a3
   have hlt:(300:Int)<p.size:=by omega
   clear HCQ HRP k1 a1 hr1 HP HC HF
   go_wp2
   go_ret
   exact⟨by simp,HB3.out⟩
  ·have hr1:ZB (bl p)=.ok t:=by rw[HRP.out,if_neg hlong]
   have k1:=ZhC hr1 HF7.out
   have k1':=HCQ.symm.trans k1
   injection k1' with a1 a2
   injection a2 with a2 a3
   subst a2 a3
   have hin:=ZhB hr1 f
   have hpos:=(ZgL hr1 f).2
   rw[<-Zhz]at hin
   have HIN:Hid (ZbM (bl code)=some ((LS.codeOf t f).ins.length,offQ (LS.codeOf t f))):=hid (by rw[a1];exact hin)
   have HCS:Hid (code.size<=100000000000):=hid (by have:=ZhD k1;rw[<-a1,Zi]at this;exact this)
   have HA1:=hid a1
   have HR1:=hid hr1
   obtain⟨n,hn⟩:∃n,(LS.codeOf t f).ins.length=n:=⟨_,rfl⟩
   obtain⟨off,hoff⟩:∃n,offQ (LS.codeOf t f)=n:=⟨_,rfl⟩
   have HN:=hid hn
   have HOFF:=hid hoff
   rw[hn,hoff]at HIN
   have hn1:1<=n:=by omega
   have hn2:n<=3110:=by omega
   clear HCQ HRP k1 a1 hr1 hin hpos hn hoff
   go_wp2_with fail
   refine(ZgX code (by have:=HCS.out;omega) _).mono ?_
   rintro e w4 ⟨n4,p4,rfl,HX4,hb4⟩
   have HB4:=hid (HB3.trans (hb4.mono HB3.size))
   obtain⟨rfl,rfl⟩:n4=n/\p4=off:=by
    rcases HX4.out with h|⟨q,h,h3,h4⟩
    ·rw[HIN.out]at h;cases h.1
    ·rw[HIN.out]at h;injection h with h;subst h;exact⟨h3,h4⟩
   clear hb4 HX4 HB3
   have hnz:¬((n:Int)<1):=by omega
   have hps:=HPS.out
   go_wp2_with fail
   refine(HP.out _ _ (sz3b _ _ _ hps (by decide)) HB4.out).mono ?_
   rintro e w5 ⟨r5,kd,p5,rfl,HPQ5,_,hb5⟩
   have HB5:=hid (HB4.trans (hb5.mono HB4.size))
   have HK : Hid (kd = 4 -> Zf t = 1) := hid (fun h4 => by
     subst h4
     refine ZvO HPR.1 HPR.2 (r:=bl r5) (p:=p5) ?_
     rw[<-HPQ5.out,in3 [40] [41,32,111,114,32,120] p t HBP.out]
     unfold brT Zdn
     simp)
   clear hb5 HB4 HPQ5
   have i0:=ZfH code p4 (by have:=ZnC HIN.out;rw[Zi]at this;omega)
   have hf0:(0:Int)<=f:=by omega
   have HTH : Hid (4 <= f -> ∀ W, Calls Tryz.prog 15 #[.string code] W fun e w' => e = .returned (.bool true) /\ Below W.heap.size W w') := hid (fun h4 W => Zyt code n p4 HIN.out hn1 (by have := HCS.out; omega) (by
     have:=ZrT HR1.out h4
     rw[HN.out,HOFF.out,<-HA1.out]at this
     exact this) W)
   by_cases hsc:f % 2=1/\kd=4
   case' pos=>
    obtain⟨hodd,rfl⟩:=hsc
    have hoz:(f:Int) % 2=1:=by omega
    have hsb:=Zxs HR1.out hodd (HK.out rfl)
    have hb0:(bl code).getD p4 0=0:=by rw[HA1.out,<-HOFF.out];exact hsb.2
    have hn1z:(n:Int)=1:=by have:=HN.out;have:=hsb.1;omega
    have HN1:=hid hn1z
    have HFA:=hid (ZsX HPR.1 HWT.1 HWT.2.1 (HK.out rfl) HF7.out hodd)
    have h00:(((0:UInt8).toNat:Nat):Int)=0:=rfl
    rw[hb0,h00]at i0
    clear hb0 hsb h00
    go_wp2_with fail
    clear hn1z
    refine(HF.out f 3 ⟨#[120,32,43,32,49]⟩ _ _ (by decide) (by rw[in3 [120,32,43,32,40] [41] p t HBP.out];exact HFA.1) (by decide) (sz3b _ _ _ hps (by decide)) HB5.out).mono ?_
    rintro e w6 ⟨rfl,hb6⟩
    have HB6:=hid (HB5.trans (hb6.mono HB5.size))
    clear hb6
    go_wp2_with fail
    refine(HF.out f 3 ⟨#[49,32,42,32,120]⟩ _ _ (by decide) (by rw[in3 [40] [41,32,42,32,120] p t HBP.out];exact HFA.2.1) (by decide) (sz3b _ _ _ hps (by decide)) HB6.out).mono ?_
    rintro e w7 ⟨rfl,hb7⟩
    have HB7:=hid (HB6.trans (hb7.mono HB6.size))
    clear hb7
    go_wp2_with fail
    refine(HF.out f 4 ⟨#[115,117,109,32,98,121,32,40,41,32,40,120,32,45,32,49,41]⟩ _ _ (by decide) (by rw[in3 [115,117,109,32,98,121,32,40,41,32,40,120,32,45,32,40] [41,41] p t HBP.out];exact HFA.2.2.1) (by decide) (sz3b _ _ _ hps (by decide)) HB7.out).mono ?_
    rintro e w8 ⟨rfl,hb8⟩
    have HB8:=hid (HB7.trans (hb8.mono HB7.size))
    clear hb8
    go_wp2_with fail
    refine(HF.out f 6 ⟨#[120,32,111,114,32,49,32,47,32,121]⟩ _ _ (by decide) (by rw[in3 [120,32,111,114,32,40] [41,32,47,32,121] p t HBP.out];exact HFA.2.2.2) (by decide) (sz3b _ _ _ hps (by decide)) HB8.out).mono ?_
    rintro e w9 ⟨rfl,hb9⟩
    have HB9:=hid (HB8.trans (hb9.mono HB8.size))
    clear hb9 HB5 HB6 HB7 HB8 HFA hoz hodd i0 hnz
   case' neg=>
    have hk4:f % 2=1->¬((kd:Int)=4):=fun h h2=>hsc ⟨h,by omega⟩
    by_cases hodd:f % 2=1
    case' pos=>
     have hoz:(f:Int) % 2=1:=by omega
     have hk4z:=hk4 hodd
    case' neg=>have hoz:(f:Int) % 2=0:=by omega
    all_goals clear hk4
   all_goals by_cases h4:4<=f
   all_goals first
    | (have h4z : (4 : Int) <= f := by omega
       go_wp2_with fail
       refine(HTH.out h4 _).mono ?_
       rintro e wa ⟨rfl,hba⟩
       have HBA:Hid (Below w.heap.size w wa):=by first|exact hid (HB9.trans (hba.mono HB9.size))|exact hid (HB5.trans (hba.mono HB5.size))
       clear hba
       go_wp2_with fail)
    | (have h4z : ¬ (4 : Int) <= f := by omega
       go_wp2_with fail)
   all_goals refine(HC.out _ f _ (sz5 _ _ _ _ hps (by decide)) (by first|exact HBA.out|exact HB9.out|exact HB5.out)).mono ?_
   all_goals rintro e wb ⟨tw,h,ph,rfl,HCT,hbb⟩
   all_goals have HBB:Hid (Below w.heap.size w wb):=by first|exact hid (HBA.trans (hbb.mono HBA.size))|exact hid (HB9.trans (hbb.mono HB9.size))|exact hid (HB5.trans (hbb.mono HB5.size))
   all_goals have HTS:=hid (ZhD HCT.out)
   all_goals clear hbb
   all_goals go_wp2_with fail
   all_goals refine(Zwo p (by omega) _).mono ?_
   all_goals rintro e wc ⟨rfl,rfl⟩
   all_goals generalize Zdx (bl p)=pl
   all_goals clear HP HC HF HTH
   all_goals rcases Nat.mod_two_eq_zero_or_one (f / 2)with hs|hs
   all_goals first
    | (have hsz : (f : Int) / 2 % 2 = 0 := by omega
       go_wp2
       go_ret
       exact⟨rfl,HBB.out⟩)
    | (have hsz : (f : Int) / 2 % 2 = 1 := by omega
       cases pl with
       | true=>
         go_wp2
         go_ret
         exact⟨rfl,HBB.out⟩
       | false=>
         by_cases h1:h=1
         · subst h1
           go_wp2
           go_ret
           exact⟨rfl,HBB.out⟩
         · have h1z:¬((h:Int)=1):=by omega
           by_cases h3:h=3
           · subst h3
             go_wp2
             go_ret
             exact⟨rfl,HBB.out⟩
           · have h3z:¬((h:Int)=3):=by omega
             have HTA:=hid (Zzd HR1.out HF7.out hs (by rw[<-in5 [40] [41,32,43,32,40] [41] p t HBP.out];exact HCT.out) h1 h3)
             have h0:=HTA.1
             subst h0
             obtain⟨m5,q5,g1,g2,g3⟩:=HTA.2
             rw[HN.out]at g3
             have HG1:=hid g1
             have g2z:(1:Int)<=m5:=by omega
             have g3z:(m5:Int)<=n+4:=by omega
             have g4z:(n:Int)<=3110:=by omega
             clear g1 g2 g3 HTA h1 h3 HCT
             go_wp2_with fail
             refine(ZgX tw (by have:=HTS.out;rw[Zi]at this;omega) _).mono ?_
             rintro e wd ⟨n5,p6,rfl,HX5,hbd⟩
             have HBD:=hid (HBB.trans (hbd.mono HBB.size))
             have hn5:n5=m5:=by
               rcases HX5.out with h|⟨q,h,h3,h4⟩
               · rw[HG1.out]at h;cases h.1
               · rw[HG1.out]at h;injection h with h;subst h;exact h3
             subst hn5
             clear hbd HX5 HG1
             go_wp2
             go_ret
             exact⟨by first|rfl|(simp;done)|(have:=HN1.out;simp;omega),HBD.out⟩)
end Go.Proofs.YtcdgkkfipdoeeaaGreatDoor

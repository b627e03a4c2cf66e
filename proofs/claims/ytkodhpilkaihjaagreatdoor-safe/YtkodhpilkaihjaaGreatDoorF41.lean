/- Parts. -/
import Derived.Test.YtkodhpilkaihjaaGreatDoorF40
import Derived.Test.YtkodhpilkaihjaaGreatDoorF35
import Derived.Test.YtkodhpilkaihjaaGreatDoorF22
import Derived.Test.YtkodhpilkaihjaaGreatDoorF17
import Derived.Test.YtkodhpilkaihjaaGreatDoorF36
import Derived.Test.YtkodhpilkaihjaaGreatDoorF26
set_option maxRecDepth 100000
set_option maxHeartbeats 16000000
set_option linter.unusedSimpArgs false
namespace Go.Proofs.YtkodhpilkaihjaaGreatDoor
open Go.RowKit LS
theorem LookP.mk'{w:World}{A:Nat->Addr}{m:Int}{c:CodeQ}{l:List UInt8}{a0 a1 a2 a3:Option Addr}{n0 n1 n2 n3 e0 e1 e2 e3:Nat}(hv:Vars w A m)(hn:20<=w.heap.size)(hc:CodV w c (.agg #[.slice a0 n0 e0,.slice a1 n1 e1,.slice a2 n2 e2,.slice a3 n3 e3]))(hl:Zbg l=.ok c) :
  (n0=c.consts.length/\n1=c.picks.length/\n2=c.groups.length/\n3=c.ins.length)/\LookP w A m c a0 a1 a2 a3 e0 e1 e2 e3:=by
 obtain⟨cv,pv,gv,iv,e,h⟩:=hc
 injection e with e
 injection e with e
 simp only[List.cons.injEq,and_true]at e
 obtain⟨rfl,rfl,rfl,rfl⟩:=e
 obtain⟨b0,f0,h0⟩:=h.cs.shape
 obtain⟨b1,f1,h1⟩:=h.ps.shape
 obtain⟨b2,f2,h2⟩:=h.gs.shape
 obtain⟨b3,f3,h3⟩:=h.is.shape
 injection h0 with _ h0 _
 injection h1 with _ h1 _
 injection h2 with _ h2 _
 injection h3 with _ h3 _
 subst h0 h1 h2 h3
 exact⟨⟨rfl,rfl,rfl,rfl⟩,hv,hn,h,(Zif hl).1,(Zif hl).2⟩
theorem Zll(s:ByteArray)(A:Nat->Addr)(m:Int)(w:World)(hv:Vars w A m)(ht:Zx w)(hB:20<=w.heap.size)(hs:s.size<=maxLen) :
  Calls Tryz.prog 21 #[.string s] w fun e w'=>∃v n err,e=.returned (.tuple #[v,n,err])/\Hid (Zb5 w' A (Zbj (bl s)) v n err)/\CodZ v/\Below w.heap.size w w':=by
 have HPR:Hid (∀W,Below w.heap.size w W->Calls Tryz.prog 38 #[.string s] W _):=hid (fun W hb=>Zts s A m W (hv.below hb) (ht.low hb hB) (Nat.le_trans hB hb.size) hs)
 have HV:=hid hv
 have HGN:=hid hB
 clear hv ht hB hs
 go_enter Tryz.func21,Tryz.ntmps21
 go_wp2_with fail
 refine Zn fun W hW=>?_
 have hbW:Below w.heap.size w W:=by rw[hW];exact Zbal.alloc (by simp) _
 have HXW:Hid (BAt W w.heap.size [.slice none 0 0,.slice none 0 0,.slice none 0 0,.slice none 0 0] 58):=hid (by
  rw[hW];exact(Zbal.block _ (by simp)).trans (Go.Deep.blk_alloc_new _ _))
 have HZW:Hid (BAt W (w.heap.size+1) [.int .i64 0,.int .i64 0] 31):=hid (by
  rw[hW];have:=Go.Deep.blk_alloc_new (w.alloc (.cells #[.slice none 0 0,.slice none 0 0,.slice none 0 0,.slice none 0 0] 58)) (.cells #[.int .i64 0,.int .i64 0] 31);rwa [Go.Deep.nblk_alloc]at this)
 have HBW:=hid hbW
 clear hW hbW
 refine(HPR.out W HBW.out).mono ?_
 rintro e w1 ⟨v,err,rfl,HC,hb1⟩
 have HB1:Hid (Below w.heap.size w w1):=hid (HBW.trans (hb1.mono HBW.size))
 have HX1:=hid (HXW.below hb1)
 have HZ1:=hid (HZW.below hb1)
 clear hb1 HXW HZW HBW
 cases hd:Zbg (bl s)with
 | error x=>
  have HLQ:Hid (Zbj (bl s)=.error x):=hid (by unfold Zbj;rw[hd])
  have HBD:Hid (BadV w1 A x err):=hid (by
   have h:=HC.out
   rw[hd]at h
   rcases h.2 with h|h
   ·exact Or.inl ⟨h.1,h.2.pl⟩
   ·exact Or.inr (Or.inl h))
  obtain rfl:v=.agg #[.slice none 0 0,.slice none 0 0,.slice none 0 0,.slice none 0 0]:=by
   have h:=HC.out
   rw[hd]at h
   exact h.1
  have HOC:Hid (Zb5 w1 A (Zbj (bl s)) (.agg #[.slice none 0 0,.slice none 0 0,.slice none 0 0,.slice none 0 0]) (.agg #[.int .i64 0,.int .i64 0]) err):=hid (Zb5.mkErr HLQ.out ⟨rfl,HBD.out⟩)
  have HOE:=hid (ZlY (b:=w.heap.size) (d:=w.heap.size+1) HOC.out HB1.out (Nat.le_refl _) (Nat.le_add_right _ _) (by omega) HX1.out HZ1.out (.slice none 0 0) (.slice none 0 0) (.slice none 0 0) (.slice none 0 0) (.int .i64 0) (.int .i64 0))
  have hx1l:=HX1.lt
  have hz1l:=HZ1.lt
  have f0:=HX1.frozen 0
  have f1:=HX1.frozen 1
  have f2:=HX1.frozen 2
  have f3:=HX1.frozen 3
  have c0:=HX1.cell 0
  have c1:=HX1.cell 1
  have c2:=HX1.cell 2
  have c3:=HX1.cell 3
  have i0:=HZ1.frozen 0
  have i1:=HZ1.frozen 1
  have j0:=HZ1.cell 0
  have j1:=HZ1.cell 1
  simp only[Zget]at c0 c1 c2 c3 j0 j1
  have hsh:=HBD.shape
  clear HC hd HBD HLQ HOC
  rcases hsh with ⟨fa,rfl⟩|rfl
  all_goals
   go_wp2
   change bodyPost _ _ _ _ _ ((set2 (set4 w1 w.heap.size (.slice none 0 0) (.slice none 0 0) (.slice none 0 0) (.slice none 0 0)) (w.heap.size+1) (.int .i64 0) (.int .i64 0)).alloc (.cells #[.slice none 0 0,.slice none 0 0,.slice none 0 0,.slice none 0 0] 58))
   clear f0 f1 f2 f3 c0 c1 c2 c3 i0 i1 j0 j1
   generalize set2 (set4 w1 w.heap.size (.slice none 0 0) (.slice none 0 0) (.slice none 0 0) (.slice none 0 0)) (w.heap.size+1) (.int .i64 0) (.int .i64 0)=WY at *
   have hbY:Below WY.heap.size WY (WY.alloc (.cells #[.slice none 0 0,.slice none 0 0,.slice none 0 0,.slice none 0 0] 58)):=Zbal
   have HBX:=hid (HOE.ob.trans (hbY.mono HOE.ob.size))
   have HO2:=hid (HOE.oc.below hbY)
   have sx:=HOE.ox.below hbY
   have sy:=HOE.oy.below hbY
   have s0:=sx.cell 0
   have s1:=sx.cell 1
   have s2:=sx.cell 2
   have s3:=sx.cell 3
   have t0:=sy.cell 0
   have t1:=sy.cell 1
   simp only[Zget]at s0 s1 s2 s3 t0 t1
   generalize WY.alloc (.cells #[.slice none 0 0,.slice none 0 0,.slice none 0 0,.slice none 0 0] 58)=WX at *
  ·exact bodyPost_ret (v:=.tuple #[.agg #[.slice none 0 0,.slice none 0 0,.slice none 0 0,.slice none 0 0],.agg #[.int .i64 0,.int .i64 0],.iface 115 (.pointer (some ⟨fa,0,none⟩))]) (by simp[results,Tryz.results21,go_sem,s0,s1,s2,s3,t0,t1]) rfl ⟨_,_,_,rfl,HO2,⟨_,_,_,_,_,_,_,_,_,_,_,_,rfl⟩,HBX.out⟩
  ·exact bodyPost_ret (v:=.tuple #[.agg #[.slice none 0 0,.slice none 0 0,.slice none 0 0,.slice none 0 0],.agg #[.int .i64 0,.int .i64 0],.iface 491 (.pointer (some (A 9)))]) (by simp[results,Tryz.results21,go_sem,s0,s1,s2,s3,t0,t1]) rfl ⟨_,_,_,rfl,HO2,⟨_,_,_,_,_,_,_,_,_,_,_,_,rfl⟩,HBX.out⟩
 | ok c=>
  obtain⟨rfl,hcv⟩:err=.nilIface/\CodV w1 c v:=by
   have h:=HC.out
   rw[hd]at h
   exact h
  obtain⟨a0,a1,a2,a3,n0,n1,n2,n3,e0,e1,e2,e3,rfl⟩:=hcv.shape
  have HCV:=hid hcv
  have HLK : Hid (∀ W, Below w1.heap.size w1 W -> Calls Tryz.prog 39 #[.agg #[.slice a0 n0 e0, .slice a1 n1 e1, .slice a2 n2 e2, .slice a3 n3 e3]] W fun e w' => ∃ v err, e = .returned (.tuple #[v, err]) /\ Hid (Zec w' A (Zcq c) v err) /\ Below W.heap.size W w') := hid (fun W hb => by
    obtain⟨⟨rfl,rfl,rfl,rfl⟩,hp⟩:=LookP.mk' (HV.below ((HB1.trans (hb.mono HB1.size)))) (Nat.le_trans HGN.out (Nat.le_trans HB1.size hb.size)) (hcv.below hb) hd
    exact ZrO W A m c a0 a1 a2 a3 e0 e1 e2 e3 hp)
  have HLQ:Hid (Zbj (bl s)=match Zcq c with|.error e=>.error e|.ok x=>.ok (c,x)):=hid (by unfold Zbj;rw[hd];rfl)
  have hx1l:=HX1.lt
  have hz1l:=HZ1.lt
  clear HC hd hcv
  go_wp2_with fail
  refine Zn fun W2 hW2=>?_
  have hb2:Below w1.heap.size w1 W2:=by rw[hW2];exact Zbal
  have HQ2:Hid (BAt W2 w1.heap.size [.slice a0 n0 e0,.slice a1 n1 e1,.slice a2 n2 e2,.slice a3 n3 e3] 58):=hid (by rw[hW2];exact Go.Deep.blk_alloc_new _ _)
  have HB2:Hid (Below w.heap.size w W2):=hid (HB1.trans (hb2.mono HB1.size))
  have HX2:=hid (HX1.below hb2)
  have HZ2:=hid (HZ1.below hb2)
  have HC2:=hid (HCV.below hb2)
  clear hW2 HX1 HZ1 HCV HB1
  refine(HLK.out W2 hb2).mono ?_
  rintro e w3 ⟨nv,er,rfl,HLC,hb3⟩
  have HB3:Hid (Below w.heap.size w w3):=hid (HB2.trans (hb3.mono HB2.size))
  have HX3:=hid (HX2.below hb3)
  have HZ3:=hid (HZ2.below hb3)
  have HQ3:=hid (HQ2.below hb3)
  have HC3:=hid (HC2.below hb3)
  clear hb2 hb3 HX2 HZ2 HQ2 HC2 HB2 HLK HPR
  obtain⟨mm,sn,rfl,HOC⟩:∃(mm sn:Nat),nv=.agg #[.int .i64 mm,.int .i64 sn]/\Hid (Zb5 w3 A (Zbj (bl s)) (.agg #[.slice a0 n0 e0,.slice a1 n1 e1,.slice a2 n2 e2,.slice a3 n3 e3]) (.agg #[.int .i64 mm,.int .i64 sn]) er):=by
   have h:=HLC.out
   cases hq:Zcq c with
   | ok x=>
    rw[hq]at h
    obtain⟨rfl,rfl⟩:=h
    exact⟨_,_,rfl,hid (Zb5.mkOk (x:=(c,x)) (by rw[HLQ.out,hq]) ⟨HC3.out,rfl,rfl⟩)⟩
   | error x=>
    rw[hq]at h
    obtain⟨rfl,h⟩:=h
    refine⟨0,0,rfl,hid (Zb5.mkErr (x:=x) (by rw[HLQ.out,hq]) ⟨rfl,?_⟩)⟩
    rcases h with h|h
    ·exact Or.inr (Or.inr (Or.inl h))
    ·exact Or.inr (Or.inr (Or.inr h))
  clear HLC HLQ HC3
  have hx3l:=HX3.lt
  have hz3l:=HZ3.lt
  have hq3l:=HQ3.lt
  have f0:=HX3.frozen 0
  have f1:=HX3.frozen 1
  have f2:=HX3.frozen 2
  have f3:=HX3.frozen 3
  have c0:=HX3.cell 0
  have c1:=HX3.cell 1
  have c2:=HX3.cell 2
  have c3:=HX3.cell 3
  have i0:=HZ3.frozen 0
  have i1:=HZ3.frozen 1
  have j0:=HZ3.cell 0
  have j1:=HZ3.cell 1
  have q0:=HQ3.cell 0
  have q1:=HQ3.cell 1
  have q2:=HQ3.cell 2
  have q3:=HQ3.cell 3
  simp only[Zget]at c0 c1 c2 c3 j0 j1 q0 q1 q2 q3
  go_wp2_with fail
  have hxd:w1.heap.size≠w.heap.size:=by omega
  have hxd':w.heap.size≠w1.heap.size:=by omega
  have hxe:w1.heap.size≠w.heap.size+1:=by omega
  have hxe':w.heap.size+1≠w1.heap.size:=by omega
  have HOE:=hid (ZlY (b:=w.heap.size) (d:=w.heap.size+1) HOC.out HB3.out (Nat.le_refl _) (Nat.le_add_right _ _) (by omega) HX3.out HZ3.out (.slice a0 n0 e0) (.slice a1 n1 e1) (.slice a2 n2 e2) (.slice a3 n3 e3) (.int .i64 mm) (.int .i64 sn))
  clear HOC HX3 HZ3 HQ3
  go_region
  all_goals
   go_wp2
   change bodyPost _ _ _ _ _ ((set2 (set4 w3 w.heap.size (.slice a0 n0 e0) (.slice a1 n1 e1) (.slice a2 n2 e2) (.slice a3 n3 e3)) (w.heap.size+1) (.int .i64 mm) (.int .i64 sn)).alloc (.cells #[.int .i64 mm,.int .i64 sn] 31)).drew
   clear f0 f1 f2 f3 c0 c1 c2 c3 i0 i1 j0 j1 q0 q1 q2 q3
   generalize set2 (set4 w3 w.heap.size (.slice a0 n0 e0) (.slice a1 n1 e1) (.slice a2 n2 e2) (.slice a3 n3 e3)) (w.heap.size+1) (.int .i64 mm) (.int .i64 sn)=WY at *
   have hbY:Below WY.heap.size WY (WY.alloc (.cells #[.int .i64 mm,.int .i64 sn] 31)).drew:=Zbal.drew
   have HBX:=hid (HOE.ob.trans (hbY.mono HOE.ob.size))
   have HO2:=hid (HOE.oc.below hbY)
   have sx:=HOE.ox.below hbY
   have sy:=HOE.oy.below hbY
   have s0:=sx.cell 0
   have s1:=sx.cell 1
   have s2:=sx.cell 2
   have s3:=sx.cell 3
   have t0:=sy.cell 0
   have t1:=sy.cell 1
   simp only[Zget]at s0 s1 s2 s3 t0 t1
   generalize(WY.alloc (.cells #[.int .i64 mm,.int .i64 sn] 31)).drew=WX at *
   exact bodyPost_ret (v:=.tuple #[.agg #[.slice a0 n0 e0,.slice a1 n1 e1,.slice a2 n2 e2,.slice a3 n3 e3],.agg #[.int .i64 mm,.int .i64 sn],er]) (by simp[results,Tryz.results21,go_sem,s0,s1,s2,s3,t0,t1]) rfl ⟨_,_,_,rfl,HO2,⟨_,_,_,_,_,_,_,_,_,_,_,_,rfl⟩,HBX.out⟩
def verR(r:Except (Nat×Nat) (CodeQ×Nat×Nat)):Nat×Nat×Nat×Nat:=match r with
 | .ok x=>(x.2.1,x.2.2,0,0)
 | .error x=>(0,0,x.1,x.2)
def Asks(w:World)(err:Value)(c p:Nat):Prop:=∀W,Below w.heap.size w W->Calls Tryz.prog 22 #[err] W (fun e w'=>e=.returned (.int .i64 c)/\w'=W)/\Calls Tryz.prog 23 #[err] W (fun e w'=>e=.returned (.int .i64 p)/\Below W.heap.size W w')
theorem BadV.asks{w:World}{A:Nat->Addr}{m:Int}{x:Nat×Nat}{err:Value}(h:BadV w A x err)(hv:Vars w A m):Asks w err x.1 x.2:=by
 intro W hb
 obtain⟨x1,x2⟩:=x
 have hv':=hv.below hb
 rcases h.below hb with ⟨hx,fa,rfl,h1,h2⟩|⟨hx,rfl⟩|⟨hx,fa,rfl,h1,h2⟩|⟨hx,fa,rfl,h1,h2⟩
 ·simp only at hx;subst hx
  exact⟨Zso A m W hv' fa h2,Zdf A m fa _ W hv' h1⟩
 ·injection hx with hx1 hx2;subst hx1 hx2
  exact⟨Zss A m W hv',Zde A m _ W hv'⟩
 ·simp only at hx;subst hx
  exact⟨Zsq A m W hv' fa h2,Zdf A m fa _ W hv' h1⟩
 ·simp only at hx;subst hx
  exact⟨Zsr A m W hv' fa h2,Zdf A m fa _ W hv' h1⟩
theorem Zb5.asks{w:World}{A:Nat->Addr}{m:Int}{r:Except (Nat×Nat) (CodeQ×Nat×Nat)}{v n err:Value}(h:Zb5 w A r v n err)(hv:Vars w A m) :
  ∃a b c p:Nat,n=.agg #[.int .i64 a,.int .i64 b]/\Hid (verR r=(a,b,c,p))/\Hid (Asks w err c p):=by
 cases r with
 | ok x=>
  obtain⟨_,rfl,rfl⟩:=h
  exact⟨_,_,0,0,rfl,hid rfl,hid (fun W hb=>⟨Zf5 A m W (hv.below hb),Zf9 W⟩)⟩
 | error x=>
  obtain⟨rfl,h⟩:=h
  exact⟨0,0,x.1,x.2,rfl,hid rfl,hid (h.asks hv)⟩
theorem Zpy(s:ByteArray)(A:Nat->Addr)(m:Int)(w:World)(hv:Vars w A m)(ht:Zx w)(hB:20<=w.heap.size)(hs:s.size<=maxLen) :
  Calls Tryz.prog 10 #[.string s] w fun e w'=>∃a b c p:Nat,e=.returned (.tuple #[.agg #[.int .i64 a,.int .i64 b],.int .i64 c,.int .i64 p])/\Hid (verR (Zbj (bl s))=(a,b,c,p))/\Below w.heap.size w w':=by
 have HLO:Hid (∀W,Below w.heap.size w W->Calls Tryz.prog 21 #[.string s] W _):=hid (fun W hb=>Zll s A m W (hv.below hb) (ht.low hb hB) (Nat.le_trans hB hb.size) hs)
 have HV:=hid hv
 clear hv ht hB hs
 go_enter Tryz.func10,Tryz.ntmps10
 go_wp2_with fail
 refine Zn fun W hW=>?_
 have hbW:Below w.heap.size w W:=by rw[hW];exact Zbal
 have HZW:Hid (BAt W w.heap.size [.int .i64 0,.int .i64 0] 31):=hid (by rw[hW];exact Go.Deep.blk_alloc_new _ _)
 have HBW:=hid hbW
 clear hW hbW
 refine(HLO.out W HBW.out).mono ?_
 rintro e w1 ⟨v,n,err,rfl,HC,⟨a0,a1,a2,a3,n0,n1,n2,n3,e0,e1,e2,e3,rfl⟩,hb1⟩
 have HB1:Hid (Below w.heap.size w w1):=hid (HBW.trans (hb1.mono HBW.size))
 have HZ1:=hid (HZW.below hb1)
 clear hb1 HZW HBW HLO
 obtain⟨a,b,c,p,rfl,HR,HA⟩:=HC.asks (HV.below HB1.out)
 have hz1l:=HZ1.lt
 clear HC
 go_upto_region 2 with fail
 refine ZK fun W2 hW2=>?_
 have hb2:Below w1.heap.size w1 W2:=by rw[hW2];exact Zbal.alloc (by simp) _
 have HQ2:Hid (BAt W2 (w1.heap.size+1) [.int .i64 a,.int .i64 b] 31):=hid (by
  rw[hW2];have:=Go.Deep.blk_alloc_new (w1.alloc (.cells #[.slice a0 n0 e0,.slice a1 n1 e1,.slice a2 n2 e2,.slice a3 n3 e3] 58)) (.cells #[.int .i64 a,.int .i64 b] 31);rwa [Go.Deep.nblk_alloc]at this)
 have HB2:Hid (Below w.heap.size w W2):=hid (HB1.trans (hb2.mono HB1.size))
 have HZ2:=hid (HZ1.below hb2)
 have HNU:Hid (Calls Tryz.prog 22 #[err] W2.drew _):=hid (HA.out W2.drew hb2.drew).1
 have HPL:Hid (Calls Tryz.prog 23 #[err] W2.drew _):=hid (HA.out W2.drew hb2.drew).2
 have hq2l:=HQ2.lt
 have HZD:=hid (HZ2.below ((Below.refl _ _).drew))
 have HQD:=hid (HQ2.below ((Below.refl _ _).drew))
 have HBD:=hid HB2.drew
 have r0:=HQD.cell 0
 have r1:=HQD.cell 1
 have r0':=HQ2.cell 0
 have r1':=HQ2.cell 1
 simp only[Zget]at r0 r1 r0' r1'
 have hne:¬w1.heap.size+1=w.heap.size:=by omega
 have hne':¬w.heap.size=w1.heap.size+1:=by omega
 clear hW2 hb2 HA HZ1 HB1 HB2 HZ2 HQ2
 go_region_with (first
   | (go_at_call 22;refine HNU.mono ?_;rintro e wq ⟨rfl,rfl⟩)
   | (go_at_call 23
      refine HPL.mono ?_
      rintro e w5 ⟨rfl,hb5⟩
      have HB5:Hid (Below w.heap.size w w5):=hid (HBD.trans (hb5.mono HBD.size))
      have HZ5:=hid (HZD.below hb5)
      have HQ5:=hid (HQD.below hb5)
      have p0:=HQ5.cell 0
      have p1:=HQ5.cell 1
      simp only[Zget]at p0 p1
      have z0:=HZ5.cell 0
      have z1:=HZ5.cell 1
      simp only[Zget]at z0 z1
      have f0:=HZ5.frozen 0
      have f1:=HZ5.frozen 1
      clear hb5))
 all_goals
  go_wp2
  change bodyPost _ _ _ _ _ (set2 w5 w.heap.size (.int .i64 a) (.int .i64 b))
  have st:=Zds HZ5.out (x:=.int .i64 a) (y:=.int .i64 b)
  have s0:=st.cell 0
  have s1:=st.cell 1
  simp only[Zget]at s0 s1
  have HBX:=hid (Zgf (w0:=w) (a:=w.heap.size) HB5.out (Nat.le_refl _) (.int .i64 a) (.int .i64 b))
  clear z0 z1 f0 f1 p0 p1
  generalize set2 w5 w.heap.size (.int .i64 a) (.int .i64 b)=WX at *
  exact bodyPost_ret (v:=.tuple #[.agg #[.int .i64 a,.int .i64 b],.int .i64 c,.int .i64 p]) (by simp[results,Tryz.results10,go_sem,s0,s1]) rfl ⟨a,b,c,p,rfl,HR,HBX.out⟩
def Zb6(cd s:List UInt8)(f l st fuel:Int):List UInt8×Nat×Nat:=match Zbj cd with
 | .error x=>([],x.1,x.2)
 | .ok y => if (Zy s).1 ≠ 0 then ([], (Zy s).1, (Zy s).2) else match Zb9 f l st with
   | none=>([],8,0)
   | some ts => if fuel < 0 ∨ 1000000 < fuel then ([], 13, 0) else match Zbo (ZdN s) y.1 fuel.toNat ts with
     | none=>([],13,0)
     | some z=>(ZbJ z.1,0,0)
theorem ZrU{l:List UInt8}{y:CodeQ×Nat×Nat}(h:Zbj l=.ok y):CodeB y.1/\∃L,Flow y.1 L:=by
 unfold Zbj at h
 cases hd:Zbg l with
 | error e=>rw[hd]at h;cases h
 | ok c=>
  rw[hd]at h
  simp only at h
  cases hv:Zcq c with
  | error e=>rw[hv]at h;cases h
  | ok x=>
   rw[hv]at h
   injection h with h;subst h
   exact⟨ZoL hd,ZvT hv⟩
def Zmk:Option (List (List UInt8)×Nat)->List UInt8×Nat×Nat
 | none=>([],13,0)
 | some z=>(ZbJ z.1,0,0)
theorem Zkw{cd s:List UInt8}{f l st:Int}(fuel:Int){y:CodeQ×Nat×Nat}{ts:List Int}(h:Zbj cd=.ok y)(hl:(Zy s).1=0)(ht:Zb9 f l st=some ts):Zb6 cd s f l st fuel=Zmk (if fuel<0∨1000000<fuel then none else Zbo (ZdN s) y.1 fuel.toNat ts):=by
 unfold Zb6
 rw[h]
 simp only
 rw[if_neg (by rw[hl];simp),ht]
 simp only
 by_cases hf:fuel<0∨1000000<fuel
 ·rw[if_pos hf,if_pos hf];rfl
 ·rw[if_neg hf,if_neg hf]
  cases Zbo (ZdN s) y.1 fuel.toNat ts <;> rfl
theorem Zdx.asks{w:World}{A:Nat->Addr}{m:Int}{v:Value}{r:Nat×Nat}(h:Zdx w A v r)(hv:Vars w A m):Asks w v r.1 r.2:=by
 intro W hb
 have hv':=hv.below hb
 have mv:∀ {fa i:Nat} {u:Value},w.cell? ⟨fa,i,none⟩=some u->W.cell? ⟨fa,i,none⟩=some u:=fun {fa i u} h=>(hb.cell (p:=⟨fa,i,none⟩) (World.block_lt_of_cell? _ _ h)).trans h
 rcases h with ⟨rfl,rfl⟩|⟨rfl,rfl⟩|⟨rfl,rfl⟩|⟨i,fa,rfl,rfl,h1,h2⟩|⟨i,fa,rfl,rfl,h1,h2⟩
 ·exact⟨Zf5 A m W hv',Zf9 W⟩
 ·exact⟨Zhj A m W hv',Zde A m _ W hv'⟩
 ·exact⟨ZiM A m W hv',Zde A m _ W hv'⟩
 ·exact⟨ZiN A m W hv' fa (mv h2),Zdf A m fa _ W hv' (mv h1)⟩
 ·exact⟨ZiO A m W hv' fa (mv h2),Zdf A m fa _ W hv' (mv h1)⟩
theorem Zdx.shape{w:World}{A:Nat->Addr}{v:Value}{r:Nat×Nat}(h:Zdx w A v r)(h0:r.1≠0):∃ty u,v=.iface ty u:=by
 rcases h with ⟨rfl,rfl⟩|⟨rfl,rfl⟩|⟨rfl,rfl⟩|⟨i,fa,rfl,rfl,h1,h2⟩|⟨i,fa,rfl,rfl,h1,h2⟩
 ·exact absurd rfl h0
 ·exact⟨_,_,rfl⟩
 ·exact⟨_,_,rfl⟩
 ·exact⟨_,_,rfl⟩
 ·exact⟨_,_,rfl⟩
theorem Asks.below{w w':World}{err:Value}{c p:Nat}(h:Asks w err c p)(hb:Below w.heap.size w w'):Asks w' err c p:=fun W hW=>h W (hb.trans (hW.mono hb.size))
theorem ZrS{l:List UInt8}{y:CodeQ×Nat×Nat}(h:Zbj l=.ok y):y.1.ins.length<=65535/\∀x∈y.1.ins,x.1<=13/\x.2<65536:=by
 unfold Zbj at h
 cases hd:Zbg l with
 | error e=>rw[hd]at h;cases h
 | ok c=>
  rw[hd]at h
  simp only at h
  cases hv:Zcq c with
  | error e=>rw[hv]at h;cases h
  | ok x=>
   rw[hv]at h
   injection h with h;subst h
   exact Zif hd
theorem Zo5(q s:ByteArray)(f l st fuel:Int)(A:Nat->Addr)(m:Int)(w:World)(hv:Vars w A m)(ht:Zx w)(hB:20<=w.heap.size)(hq:q.size<=maxLen)(hs:s.size<=maxLen) :
  Calls Tryz.prog 26 #[.string q,.string s,.agg #[.int .i64 f,.int .i64 l,.int .i64 st],.int .i64 fuel] w fun e w'=>∃(r:ByteArray) (err:Value) (c p:Nat),e=.returned (.tuple #[.string r,err])/\Hid (Asks w' err c p)/\Hid (Zb6 (bl q) (bl s) f l st fuel=(bl r,c,p))/\Below w.heap.size w w':=by
 have HLO:Hid (∀W,Below w.heap.size w W->Calls Tryz.prog 21 #[.string q] W _):=hid (fun W hb=>Zll q A m W (hv.below hb) (ht.low hb hB) (Nat.le_trans hB hb.size) hq)
 have HLD:Hid (∀W,Below w.heap.size w W->Calls Tryz.prog 24 #[.string s] W _):=hid (fun W hb=>ZmG s A m W (hv.below hb) hs)
 have HTD:Hid (∀W,Below w.heap.size w W->Calls Tryz.prog 46 #[.agg #[.int .i64 f,.int .i64 l,.int .i64 st]] W _):=hid (fun W hb=>Zl8 f l st (A 7) W ((hv.below hb).sent _ (by decide)))
 have HV:=hid hv
 have HT:Hid (Zx w):=ht
 have HBn:Hid (20<=w.heap.size):=hB
 clear hv ht hB hq hs
 go_enter Tryz.func26,Tryz.ntmps26
 go_wp2_with fail
 refine Zn fun W hW=>?_
 have hbW:Below w.heap.size w W:=by rw[hW];exact Zbal
 have HBX:Hid (BAt W w.heap.size [.int .i64 f,.int .i64 l,.int .i64 st] 26):=hid (by rw[hW];exact Go.Deep.blk_alloc_new _ _)
 refine(HLO.out W hbW).mono ?_
 rintro e w1 ⟨v,n,err,rfl,HC,⟨a0,a1,a2,a3,n0,n1,n2,n3,e0,e1,e2,e3,rfl⟩,hb1⟩
 have HB1:Hid (Below w.heap.size w w1):=hid (hbW.trans (hb1.mono hbW.size))
 have HBX1:=hid (HBX.below hb1)
 clear hb1 HLO hbW hW HBX
 obtain⟨a,b,c,p,rfl,HR,HA⟩:=HC.asks (HV.below HB1.out)
 go_upto_region 2 with fail
 refine ZK fun W2 hW2=>?_
 have hb2:Below w1.heap.size w1 W2:=by rw[hW2];exact Zbal.alloc (by simp) _
 have HQ2:Hid (BAt W2 w1.heap.size [.slice a0 n0 e0,.slice a1 n1 e1,.slice a2 n2 e2,.slice a3 n3 e3] 58):=hid (by
  rw[hW2];exact(Zbal.block _ (by simp)).trans (Go.Deep.blk_alloc_new _ _))
 have HB2:Hid (Below w.heap.size w W2):=hid (HB1.trans (hb2.mono HB1.size))
 have HBX2:=hid (HBX1.below hb2)
 have HA2:=hid (HA.below hb2)
 have HC2:=hid (HC.below hb2)
 clear hb2 hW2 HA HC HBX1
 generalize w1.heap.size=xb at HQ2 ⊢
 generalize w.heap.size=sb at HBX2 ⊢
 cases hlk:Zbj (bl q)with
 | error x=>
  have HEX:Hid (Zb6 (bl q) (bl s) f l st fuel=([],x.1,x.2)):=hid (by unfold Zb6;rw[hlk])
  have hc2:=HC2.out
  rw[hlk]at hc2 HR
  have hr2:(0,0,x.1,x.2)=(a,b,c,p):=HR.out
  injection hr2 with _ hr2
  injection hr2 with _ hr2
  injection hr2 with hr3 hr4
  subst hr3 hr4
  rcases BadV.shape hc2.2 with ⟨fa,rfl⟩|rfl
  ·clear hc2 HC2 HR
   go_wp2
   go_ret2
   exact⟨_,_,_,_,rfl,HA2,HEX,HB2.out⟩
  ·clear hc2 HC2 HR
   go_wp2
   go_ret2
   exact⟨_,_,_,_,rfl,HA2,HEX,HB2.out⟩
 | ok y=>
  have hc2:=HC2.out
  rw[hlk]at hc2
  obtain⟨hcod,_,rfl⟩:=hc2
  have HCOD:=hid hcod
  have HLK:=hid hlk
  have HEQ:Hid (∀z,(if (Zy (bl s)).1≠0 then ([],(Zy (bl s)).1,(Zy (bl s)).2)else match Zb9 f l st with
   | none=>([],8,0)
   | some ts => if fuel < 0 ∨ 1000000 < fuel then ([], 13, 0) else match Zbo (ZdN (bl s)) y.1 fuel.toNat ts with
     | none=>([],13,0)
     | some z=>(ZbJ z.1,0,0))=z->Zb6 (bl q) (bl s) f l st fuel=z):=hid (fun z hz=>by unfold Zb6;rw[hlk];exact hz)
  clear hcod hlk HC2 HR HA2
  go_wp2_with fail
  refine(HLD.out W2 HB2.out).mono ?_
  rintro e w2 ⟨sv,err,rfl,HLE,hb2,HRV⟩
  have HB3:Hid (Below w.heap.size w w2):=hid (HB2.trans (hb2.mono HB2.size))
  have HBX3:=hid (HBX2.below hb2)
  have HQ3:=hid (HQ2.below hb2)
  have HCOD3:Hid (CodV w2 y.1 (.agg #[.slice a0 n0 e0,.slice a1 n1 e1,.slice a2 n2 e2,.slice a3 n3 e3])):=hid (by obtain⟨cv,pv,gv,iv,h1,h2⟩:=HCOD.out;exact⟨cv,pv,gv,iv,h1,h2.below hb2⟩)
  have HAS:Hid (Asks w2 err (Zy (bl s)).1 (Zy (bl s)).2):=hid (HLE.asks (HV.below HB3.out))
  clear hb2 HLD HBX2 HQ2 HCOD HB2
  by_cases h0:(Zy (bl s)).1=0
  ·have hnil:err=.nilIface:=by
    rcases Zer.ld HLE.out with ⟨_,h⟩|⟨h,_⟩
    ·exact h
    ·exact absurd h0 h
   subst hnil
   obtain⟨ss,hsto,hser,hdst,hlen⟩:=(HRV.out h0).sto h0
   obtain⟨sa,scp,rfl⟩:=Zr hsto.row
   have HSP:=hid hsto
   have HSR:=hid hser
   have HDS:=hid hdst
   have H0:=hid h0
   clear HLE HRV hsto hser hdst hlen h0 HAS
   have x0:=HBX3.cell 0
   have x1:=HBX3.cell 1
   have x2:=HBX3.cell 2
   simp only[Zget]at x0 x1 x2
   have hxl:=HBX3.lt
   go_wp2_with fail
   clear x0 x1 x2 hxl
   refine(HTD.out w2 HB3.out).mono ?_
   rintro e w3 ⟨tv,ev,rfl,HTP,hb3⟩
   have HB4:Hid (Below w.heap.size w w3):=hid (HB3.trans (hb3.mono HB3.size))
   have HSP4:=hid (HSP.below hb3)
   have HQ4:=hid (HQ3.below hb3)
   have HCOD4:Hid (CodV w3 y.1 (.agg #[.slice a0 n0 e0,.slice a1 n1 e1,.slice a2 n2 e2,.slice a3 n3 e3])):=hid (by obtain⟨cv,pv,gv,iv,h1,h2⟩:=HCOD3.out;exact⟨cv,pv,gv,iv,h1,h2.below hb3⟩)
   clear hb3 HTD HSP HBX3 HB3 HQ3 HCOD3
   rcases HTP.out with ⟨h1,rfl,rfl⟩|⟨ts,h1,h2,h3,rfl,h4⟩
   ·have HEX:Hid (Zb6 (bl q) (bl s) f l st fuel=([],8,0)):=hid (HEQ.out _ (by rw[if_neg (by rw[H0.out];simp),h1]))
    have HAT:Hid (Asks w3 (.iface 491 (.pointer (some (A 7)))) 8 0):=hid (fun W hb=>⟨ZlT A m W ((HV.below HB4.out).below hb),Zde A m _ W ((HV.below HB4.out).below hb)⟩)
    clear HTP h1
    go_wp2
    go_ret2
    exact⟨_,_,8,0,rfl,HAT,HEX,HB4.out⟩
   ·obtain⟨ta,tcp,rfl⟩:=Zr h4
    obtain⟨o,ho⟩:∃o,o=(if fuel<0∨1000000<fuel then none else Zbo (ss.map Srs.ser) y.1 fuel.toNat ts):=⟨_,rfl⟩
    have HEX:Hid (Zb6 (bl q) (bl s) f l st fuel=Zmk o):=hid (by rw[ho,HSR.out];exact Zkw fuel HLK.out H0.out h1)
    have HRUN : Hid (Calls Tryz.prog 48 #[.agg #[.slice a0 n0 e0, .slice a1 n1 e1, .slice a2 n2 e2, .slice a3 n3 e3], .slice sa ss.length scp, .slice ta ts.length tcp, .int .i64 fuel] w3 fun e w' => ∃ r err, e = .returned (.tuple #[.string r, err]) /\ Hid (RunC A o r err) /\ Below w3.heap.size w3 w') := hid (by
      obtain⟨cv,pv,gv,iv,hve,hcv⟩:=HCOD4.out
      injection hve with hve
      have h5:=congrArg Array.toList hve
      simp only[List.cons.injEq,and_true]at h5
      obtain⟨rfl,rfl,rfl,rfl⟩:=h5
      obtain⟨hcb,L,hfl⟩:=ZrU HLK.out
      have hin:=ZrS HLK.out
      rw[ho]
      exact Ztu y.1 L ss ts fuel _ _ _ _ _ _ A m w3 (HV.below HB4.out) ⟨hcv,HSP4.out,HDS.out⟩ hcb hfl hin.1 hin.2 h2 h3 h4 (HT.low HB4.out HBn.out) (Nat.le_trans HBn.out HB4.size))
    have HV4:=hid (HV.below HB4.out)
    have x0:=HQ4.cell 0
    have x1:=HQ4.cell 1
    have x2:=HQ4.cell 2
    have x3:=HQ4.cell 3
    simp only[Zget]at x0 x1 x2 x3
    have hxl:=HQ4.lt
    clear HTP h1 h2 h3 h4 ho
    go_wp2_with fail
    clear x0 x1 x2 x3 hxl
    refine HRUN.mono ?_
    rintro e w4 ⟨r4,err4,rfl,HR4,hb4⟩
    have HB5:Hid (Below w.heap.size w w4):=hid (HB4.trans (hb4.mono HB4.size))
    have HV5:=hid (HV4.below hb4)
    clear hb4 HRUN
    cases o with
    | none=>
     obtain⟨rfl,rfl⟩:=HR4.out
     have HAT:Hid (Asks w4 (.iface 491 (.pointer (some (A 12)))) 13 0):=hid (fun W hb=>⟨Zsp A m W (HV5.below hb),Zde A m _ W (HV5.below hb)⟩)
     go_wp2
     go_ret2
     exact⟨_,_,13,0,rfl,HAT,HEX,HB5.out⟩
    | some z=>
     obtain⟨h6,rfl⟩:=HR4.out
     have HAT:Hid (Asks w4 .nilIface 0 0):=hid (fun W hb=>⟨Zf5 A m W (HV5.below hb),Zf9 W⟩)
     have HEX2:Hid (Zb6 (bl q) (bl s) f l st fuel=(bl r4,0,0)):=hid (by rw[HEX.out,h6];rfl)
     clear h6
     go_wp2
     go_ret2
     exact⟨_,_,0,0,rfl,HAT,HEX2,HB5.out⟩
  ·have HEX:Hid (Zb6 (bl q) (bl s) f l st fuel=([],(Zy (bl s)).1,(Zy (bl s)).2)):=hid (HEQ.out _ (by rw[if_pos h0]))
   obtain⟨ty,u,rfl⟩:=HLE.shape h0
   clear HLE HRV h0
   go_wp2
   go_ret2
   exact⟨_,_,_,_,rfl,HAS,HEX,HB3.out⟩
theorem Zpu(q s:ByteArray)(f l st fuel:Int)(A:Nat->Addr)(m:Int)(w:World)(hv:Vars w A m)(ht:Zx w)(hB:20<=w.heap.size)(hq:q.size<=maxLen)(hs:s.size<=maxLen) :
  Calls Tryz.prog 13 #[.string q,.string s,.agg #[.int .i64 f,.int .i64 l,.int .i64 st],.int .i64 fuel] w fun e w'=>∃(r:ByteArray) (c p:Nat),e=.returned (.tuple #[.string r,.int .i64 c,.int .i64 p])/\Hid (Zb6 (bl q) (bl s) f l st fuel=(bl r,c,p))/\Below w.heap.size w w':=by
 have HE:Hid (∀W,Below w.heap.size w W->Calls Tryz.prog 26 #[.string q,.string s,.agg #[.int .i64 f,.int .i64 l,.int .i64 st],.int .i64 fuel] W _):=hid (fun W hb=>Zo5 q s f l st fuel A m W (hv.below hb) (ht.low hb hB) (Nat.le_trans hB hb.size) hq hs)
 clear hv ht hB hq hs
 go_enter Tryz.func13,Tryz.ntmps13
 go_wp2_with fail
 refine Zn fun W hW=>?_
 have hbW:Below w.heap.size w W:=by rw[hW];exact Zbal
 refine(HE.out W hbW).mono ?_
 rintro e w1 ⟨r,err,c,p,rfl,HA,HQ,hb1⟩
 have HB1:Hid (Below w.heap.size w w1):=hid (hbW.trans (hb1.mono hbW.size))
 clear hb1 hbW hW HE
 have HN:=hid (HA.out w1 (Below.refl _ _)).1
 have HP:=hid (fun W hb=>(HA.out W hb).2)
 clear HA
 go_wp2_with fail
 refine HN.mono ?_
 rintro e wq ⟨rfl,rfl⟩
 go_wp2_with fail
 refine(HP.out _ (Below.refl _ _)).mono ?_
 rintro e w2 ⟨rfl,hb2⟩
 have HB2:Hid (Below w.heap.size w w2):=hid (HB1.trans (hb2.mono HB1.size))
 clear hb2
 go_wp2
 go_ret3
 exact⟨r,_,_,rfl,HQ,HB2.out⟩
end Go.Proofs.YtkodhpilkaihjaaGreatDoor
namespace Go.Proofs.YtkodhpilkaihjaaGreatDoor.LS
open Go Go.RowKit
theorem ZjA{a b c:Nat}(h:a ^^^ c=b ^^^ c):a=b:=by
 have h1:=congrArg (· ^^^ c) h
 simpa [Nat.xor_assoc] using h1
theorem ZjL{a b:Nat}(ha:a<4294967296)(hb:b<4294967296)(h:a / 2 ^^^ 3988292384=b / 2):False:=by
 have h1:a / 2 ^^^ b / 2<2 ^ 31:=Nat.xor_lt_two_pow (by omega) (by omega)
 rw[<-h,<-Nat.xor_assoc,Nat.xor_self,Nat.zero_xor]at h1
 omega
theorem ZnY{a b:Nat}(ha:a<4294967296)(hb:b<4294967296)(h:bitS a=bitS b):a=b:=by
 unfold bitS at h
 by_cases h1:a % 2=1
 ·by_cases h2:b % 2=1
  ·rw[if_pos h1,if_pos h2]at h
   have:=ZjA h
   omega
  ·rw[if_pos h1,if_neg h2]at h
   exact(ZjL ha hb h).elim
 ·by_cases h2:b % 2=1
  ·rw[if_neg h1,if_pos h2]at h
   exact(ZjL hb ha h.symm).elim
  ·rw[if_neg h1,if_neg h2]at h
   omega
theorem Zh3{a b:Nat}(ha:a<4294967296)(hb:b<4294967296):∀k,ZcD k a=ZcD k b->a=b
 | 0,h=>h
 | k+1,h=>Zh3 ha hb k (ZnY (Zfc ha k) (Zfc hb k) h)
theorem Zod{a b:Nat}(ha:a<4294967296)(hb:b<4294967296)(hne:a≠b)(c:UInt8):Zdl a c≠Zdl b c:=fun h=>hne (ZjA (Zh3 (Ze9 ha c) (Ze9 hb c) 8 h))
theorem Zoe {a : Nat} (ha : a < 4294967296) {c d : UInt8} (hne : c ≠ d) : Zdl a c ≠ Zdl a d := fun h => hne (by
  have h1:=Zh3 (Ze9 ha c) (Ze9 ha d) 8 h
  rw[Nat.xor_comm,Nat.xor_comm a]at h1
  exact UInt8.toNat_inj.1 (ZjA h1))
theorem ZgX:∀(l:List UInt8) {a:Nat},a<4294967296->l.foldl Zdl a<4294967296
 | [],_,h=>h
 | c::l,_,h=>ZgX l (Zfg h c)
theorem ZkJ:∀(l:List UInt8) {a b:Nat},a<4294967296->b<4294967296->a≠b->l.foldl Zdl a≠l.foldl Zdl b
 | [],_,_,_,_,h=>h
 | c::l,_,_,ha,hb,h=>ZkJ l (Zfg ha c) (Zfg hb c) (Zod ha hb h c)
theorem Zu7(p r:List UInt8){c d:UInt8}(hne:c≠d):sumQ (p++c::r)≠sumQ (p++d::r):=by
 have e:∀x:UInt8,sumL (p++x::r)=r.foldl Zdl (Zdl (sumL p) x):=fun x=>by unfold sumL;rw[List.foldl_append];rfl
 have hp:sumL p<4294967296:=ZgX p (by decide)
 have h1:=ZkJ r (Zfg hp c) (Zfg hp d) (Zoe hp hne)
 rw[<-e,<-e]at h1
 have h2:sumL (p++c::r)<4294967296:=ZgX _ (by decide)
 have h3:sumL (p++d::r)<4294967296:=ZgX _ (by decide)
 unfold sumQ
 omega
theorem Zig{l:List UInt8}{c:CodeQ}(h:Zbg l=.ok c):∃n,n+4=l.length/\back (l.drop n)=sumQ (l.take n):=by
 unfold Zbg at h
 cases hn:Zcy l with
 | error e=>rw[hn]at h;cases h
 | ok n=>
  rw[hn]at h
  simp only at h
  cases h1:many (Zbw l) 9 n.1 with
  | error e=>rw[h1]at h;cases h
  | ok cs=>
   rw[h1]at h
   simp only at h
   cases h2:many (Zbz l) cs.2 n.2.1 with
   | error e=>rw[h2]at h;cases h
   | ok ps=>
    rw[h2]at h
    simp only at h
    cases h3:many (Zbx l) ps.2 n.2.2.1 with
    | error e=>rw[h3]at h;cases h
    | ok gs=>
     rw[h3]at h
     simp only at h
     cases h4:many (Zbi l) gs.2 n.2.2.2 with
     | error e=>rw[h4]at h;cases h
     | ok is=>
      rw[h4]at h
      simp only at h
      split at h
      ·cases h
      ·split at h
       ·cases h
       ·split at h
        ·cases h
        ·rename_i k1 k2 k3
         exact⟨is.2,by omega,Decidable.not_not.1 k3⟩
theorem ZoN{p r:List UInt8}{c d:UInt8}(hne:c≠d){x y:CodeQ}(h:Zbg (p++c::r)=.ok x)(k:Zbg (p++d::r)=.ok y):False:=by
 obtain⟨n,h1,h2⟩:=Zig h
 obtain⟨m,k1,k2⟩:=Zig k
 have hl:(p++c::r).length=p.length+(r.length+1):=by rw[List.length_append,List.length_cons]
 have kl:(p++d::r).length=p.length+(r.length+1):=by rw[List.length_append,List.length_cons]
 obtain rfl:m=n:=by omega
 by_cases hp:p.length<m
 ·obtain⟨j,rfl⟩:∃j,m=p.length+(j+1):=⟨m - p.length - 1,by omega⟩
  rw[List.drop_length_add_append,List.drop_succ_cons,List.take_length_add_append,List.take_succ_cons]at h2 k2
  exact Zu7 p (r.take j) hne (h2.symm.trans k2)
 ·rw[List.take_append_of_le_length (by omega),List.drop_append_of_le_length (by omega)]at h2 k2
  have h3:back (p.drop m++c::r)=back (p.drop m++d::r):=h2.trans k2.symm
  have h4:p.drop m++c::r=p.drop m++d::r:=by
   rw[<-Zkh (p.drop m++c::r),<-Zkh (p.drop m++d::r),h3]
   simp
  have h5:=List.append_cancel_left h4
  injection h5 with h5 _
  exact hne h5
theorem ZrV{p r:List UInt8}{c d:UInt8}(hne:c≠d){y:CodeQ×Nat×Nat}(h:Zbj (p++c::r)=.ok y):∃e,Zbj (p++d::r)=.error e:=by
 cases hd:Zbg (p++d::r)with
 | error e=>exact⟨e,by unfold Zbj;rw[hd]⟩
 | ok z=>
  unfold Zbj at h
  cases hc:Zbg (p++c::r)with
  | error e=>rw[hc]at h;cases h
  | ok x=>exact(ZoN hne hc hd).elim
end Go.Proofs.YtkodhpilkaihjaaGreatDoor.LS

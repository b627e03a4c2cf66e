/- Parts. -/
import Derived.Test.YtcdgkkfipdoeeaaGreatDoorT26
import Derived.Test.YtcdgkkfipdoeeaaGreatDoorT02
import Derived.Deep.LoopGhost
import Derived.Test.YtcdgkkfipdoeeaaGreatDoorT19
set_option maxRecDepth 100000
set_option maxHeartbeats 8000000
namespace Go.Proofs.YtcdgkkfipdoeeaaGreatDoor
open Go.RowKit LS
theorem Zkb{w:List UInt8} : ∀ {l:List (List UInt8)} {g:Nat},idx w l=some g->l.getD g []=w
 | [],_,h=>by cases h
 | x :: l, g, h => by
   unfold idx at h
   by_cases hx:x=w
   · rw[if_pos hx]at h
     injection h with h
     subst h;exact hx
   · rw[if_neg hx]at h
     cases hi:idx w l with
     | none=>rw[hi]at h;cases h
     | some j=>
       rw[hi]at h
       injection h with h
       subst h
       exact Zkb (l:=l) hi
theorem Zq9{p:PTok}{t:Tok}(h:Zc1 p t)(hw:Zdg t)(hk:t.kind<=5):ZgB p=Zda t:=by
 have m1:=Zdv h hw hk (s:=⟨#[45]⟩) (by decide) (by decide)
 have m2:=Zdv h hw hk (s:=⟨#[40]⟩) (by decide) (by decide)
 have hx:p.tx.toList=t.txt:=by rw[ZbH];exact h.2.2.1
 unfold ZgB Zda
 have hp:=Zey hk
 have h1:=h.1
 by_cases k1:t.kind=1
 ·have e:((p.kd:Int) == 0)=true:=by rw[h1,hp.2.2.2.1.2 k1];rfl
  rw[e,k1];simp
 ·have e:((p.kd:Int) == 0)=false:=by
   rw[beq_eq_false_iff_ne];intro e
   exact k1 (hp.2.2.2.1.1 (by omega))
  rw[e,beq_eq_false_iff_ne.2 k1]
  by_cases k2:t.kind=2
  ·have e2:((p.kd:Int) == 1)=true:=by rw[h1,hp.2.1.2 k2];rfl
   have z1:isT [45] t=false:=by rw[<-show ZQ p ⟨#[45]⟩=isT [45] t from m1];unfold ZQ;rw[h1,hp.2.1.2 k2];rfl
   have z2:isT [40] t=false:=by rw[<-show ZQ p ⟨#[40]⟩=isT [40] t from m2];unfold ZQ;rw[h1,hp.2.1.2 k2];rfl
   rw[e2,z1,z2,k2,hx]
   unfold isT
   rw[k2]
   simp[wOr,wBy]
  ·have e2:((p.kd:Int) == 1)=false:=by
    rw[beq_eq_false_iff_ne];intro e
    exact k2 (hp.2.1.1 (by omega))
   rw[e2,beq_eq_false_iff_ne.2 k2,show ZQ p ⟨#[45]⟩=isT [45] t from m1,show ZQ p ⟨#[40]⟩=isT [40] t from m2]
   simp
theorem Ztt{rec:Nat->List Tok->Nat->Out Tr}{ts:List Tok}{d:Nat}(h:(hd ts).kind=1):Zbd rec ts d=.ok (Z6 ⟨0,0,numV (hd ts).txt,[],[],[]⟩,ts.tail):=if_pos h
theorem Zts {rec : Nat -> List Tok -> Nat -> Out Tr} {ts : List Tok} {d : Nat} (h : ¬ (hd ts).kind = 1) (h2 : isT [45] (hd ts) = true) : Zbd rec ts d = bnd (rec 3 ts.tail d) fun a r => .ok (.node 0 0 (nd0 3 0) a .nil, r) := by
  unfold Zbd;rw[if_neg h,if_pos h2]
theorem Ztx{rec:Nat->List Tok->Nat->Out Tr}{ts:List Tok}{d:Nat}(h:¬(hd ts).kind=1)(h2:¬isT [45] (hd ts)=true)(h3:isT [40] (hd ts)=true):Zbd rec ts d=Z3 rec ts d:=by
 unfold Zbd;rw[if_neg h,if_neg h2,if_pos h3]
theorem Ztq{rec:Nat->List Tok->Nat->Out Tr}{ts:List Tok}{d g:Nat}(h:¬(hd ts).kind=1)(h2:¬isT [45] (hd ts)=true)(h3:¬isT [40] (hd ts)=true)(h4:idx (hd ts).txt ZG=some g):Zbd rec ts d=Zb0 rec g ts.tail d:=by
 unfold Zbd;rw[if_neg h,if_neg h2,if_neg h3,h4]
theorem Ztw{rec:Nat->List Tok->Nat->Out Tr}{ts:List Tok}{d o:Nat}(h:¬(hd ts).kind=1)(h2:¬isT [45] (hd ts)=true)(h3:¬isT [40] (hd ts)=true)(h4:idx (hd ts).txt ZG=none)(h5:idx (hd ts).txt ZV=some o):Zbd rec ts d=winP o ts.tail:=by
 unfold Zbd;rw[if_neg h,if_neg h2,if_neg h3,h4];simp only;rw[h5]
theorem Ztv {rec : Nat -> List Tok -> Nat -> Out Tr} {ts : List Tok} {d : Nat} (h : ¬ (hd ts).kind = 1) (h2 : ¬ isT [45] (hd ts) = true) (h3 : ¬ isT [40] (hd ts) = true) (h4 : idx (hd ts).txt ZG = none) (h5 : idx (hd ts).txt ZV = none) : Zbd rec ts d = bnd (selP ts) fun p r => .ok (Z6 p, r) := by
  unfold Zbd;rw[if_neg h,if_neg h2,if_neg h3,h4];simp only;rw[h5]
theorem Zx2{t:Tok}(h:Zda t=true):¬(t.kind=0∨t.kind=5):=by
 rintro(h0|h0)
 all_goals
  unfold Zda isT at h
  rw[h0]at h
  simp at h
theorem ZsF{rec:Nat->List Tok->Nat->Out Tr}{m:Nat}
  (hfa:Zeo 51 (fun d=>[.int .i64 (d+1:Nat)]) (rec 3) (fun ts=>ts.length<m))
  (hbr:Zeo 103 (fun d=>[.int .i64 (d+1:Nat)]) (Z3 rec) (fun ts=>ts.length<=m)) :
  Zeo 51 (fun d=>[.int .i64 (d+1:Nat)]) (ZbZ rec) (fun ts=>ts.length<=m):=by
 intro w R k ts deep h hdp hts
 have H:Hid (RK w R k ts):=h
 have HD:Hid (deep<=20):=hdp
 have HM:Hid (ts.length<=m):=hts
 have hbl:R.b<w.heap.size:=(Array.getElem?_eq_some_iff.1 h.rd.cells).1
 clear h hts
 go_enter Tryz.func51,Tryz.ntmps51
 go_wp2_with fail
 refine(ZdU H.out).mono ?_
 rintro e w1 ⟨⟨kd,at_,tx,tv⟩,rfl,ht,hb1⟩
 have HG1:Hid (w.grownBy w1 (some R.b)):=ZR hb1
 have HK1:Hid (RK w1 R k ts):=H.below hb1
 clear hb1
 go_upto_region 2 with fail
 refine Z9 fun W2 hW2=>?_
 have hb2:Below w1.heap.size w1 W2:=by rw[hW2];exact Zbal
 have HT2:Hid (BAt W2 w1.heap.size [.int .i64 kd,.int .i64 at_,.string tx,.int .i64 tv] 74):=hid (by rw[hW2];exact Go.Deep.blk_alloc_new _ _)
 have HG2:Hid (w.grownBy W2 (some R.b)):=Zy HG1.out (ZR hb2)
 have HK2:Hid (RK W2 R k ts):=HK1.below hb2
 have hz1:R.b<w1.heap.size:=by have:=HG1.size;omega
 have HWF:=hid HK2.wf.head
 clear hW2 hb2 HG1 HK1
 have t0:=HT2.cell 0
 have t1:=HT2.cell 1
 have t2:=HT2.cell 2
 have t3:=HT2.cell 3
 simp only[Zget]at t0 t1 t2 t3
 go_wp2_with fail
 refine(Zq8 ⟨kd,at_,tx,tv⟩ W2).mono ?_
 rintro e w3 ⟨rfl,hb3⟩
 rw[Zq9 ht.out HWF.1 HWF.2.2]
 have HT3:=hid (HT2.below hb3)
 have HG3:Hid (w.grownBy w3 (some R.b)):=Zy HG2.out (ZR hb3)
 have HK3:Hid (RK w3 R k ts):=HK2.below hb3
 clear hb3 HT2 HG2 HK2 t0 t1 t2 t3
 cases hst:Zda (LS.hd ts)
 ·have HPE:Hid (ZbZ rec ts deep=.error (2,(LS.hd ts).at_)):=hid (by unfold ZbZ;rw[if_neg (by rw[hst];decide)])
  clear hst
  go_wp2_with fail
  refine(ZeP HK3.out).mono ?_
  rintro e wE ⟨v,rfl,HE,hbE⟩
  obtain⟨fa,rfl⟩:=HE.shape
  have HGE:Hid (w.grownBy wE (some R.b)):=Zy HG3.out (ZR hbE)
  clear hbE
  go_wp2
  go_ret2
  exact⟨_,_,rfl,Or.inl rfl,by rw[HPE.out];exact HE,HGE.out⟩
 ·have HLV:Hid (¬((LS.hd ts).kind=0∨(LS.hd ts).kind=5)):=Zx2 hst
  by_cases hd20:deep=20
  ·have HPE:Hid (ZbZ rec ts deep=.error (3,(LS.hd ts).at_)):=hid (by unfold ZbZ;rw[if_pos hst,if_pos hd20])
   subst hd20
   have t1:=HT3.cell 1
   simp only[Zget]at t1
   have hdg:=HK3.dp
   clear hst
   go_wp2_with fail
   refine(Zl1 _ _ _).mono ?_
   rintro e wE ⟨rfl,hwE⟩
   have HE:Hid (Zba wE R (3,(LS.hd ts).at_) (.iface 81 (.pointer (some ⟨w3.heap.size,0,none⟩)))):=hid (Or.inr ⟨rfl,w3.heap.size,rfl,by rw[hwE];refine(Go.Deep.blk_alloc_new _ _).trans ?_;rw[show(at_:Int)=((LS.hd ts).at_:Int) from congrArg _ ht.2.1]⟩)
   have HGE:Hid (w.grownBy wE (some R.b)):=hid (by rw[hwE];exact Zdi HG3.out _)
   clear hwE
   go_wp2
   go_ret2
   exact⟨_,_,rfl,Or.inl rfl,by rw[HPE.out];exact HE,HGE.out⟩
  ·have hd19:deep<=19:=by omega
   have HPF:Hid (ZbZ rec ts deep=Zbd rec ts (deep+1)):=hid (by unfold ZbZ;rw[if_pos hst,if_neg hd20])
   obtain⟨rc0,rc1,rfz,rcx⟩:=HK3.rd.all
   have hlt:=HK3.lt
   have hln:=HK3.len
   clear rcx hst hd20
   have t0:=HT3.cell 0
   have t1:=HT3.cell 1
   have t2:=HT3.cell 2
   have t3:=HT3.cell 3
   simp only[Zget]at t0 t1 t2 t3
   by_cases hk1:(LS.hd ts).kind=1
   ·have hkd:kd=0:=by have:=ht.1;rw[hk1]at this;exact this
    subst hkd
    have HTV:Hid ((tv:Int)=numV (LS.hd ts).txt):=ht.2.2.2 hk1
    have HPI:Hid (ZbZ rec ts deep=.ok (Z6 ⟨0,0,numV (LS.hd ts).txt,[],[],[]⟩,ts.tail)):=hid (by rw[HPF.out,Ztt hk1])
    clear hk1
    go_upto_region 8 with fail
    refine Z9 fun W8 hW8=>?_
    have HK8:Hid (RK W8 R (k+1) ts.tail):=hid (by rw[hW8];exact HK3.step HLV.out)
    have HG8:Hid (w.grownBy W8 (some R.b)):=hid (by rw[hW8];exact Zbm HG3.out (Or.inl rfl) _)
    have HT8:Hid (BAt W8 w1.heap.size [.int .i64 (0:Nat),.int .i64 at_,.string tx,.int .i64 tv] 74):=hid (by rw[hW8];exact HT3.other (by show w1.heap.size≠R.b;omega) _)
    clear hW8 rc0 rc1 rfz t0 t1 t2 t3
    have t3:=HT8.cell 3
    simp only[Zget]at t3
    go_wp2
    go_ret2
    exact⟨_,_,rfl,Or.inr ⟨_,_,rfl⟩,by rw[HPI.out];exact⟨rfl,⟨_,HK8.out⟩,Or.inl ⟨rfl,by rw[<-HTV.out];rfl⟩⟩,HG8.out⟩
   ·have hkd:((kd:Int) == 0)=false:=by
     rw[beq_eq_false_iff_ne];intro e
     exact hk1 ((Zey HWF.2.2).2.2.2.1.1 (by have:=ht.1;simp only at this;omega))
    have HK1N:Hid (¬(LS.hd ts).kind=1):=hk1
    clear hk1
    go_wp2_with fail
    refine(Zfj ht.out HWF.1 HWF.2.2 ⟨#[45]⟩ (by decide) (by decide) w3).mono ?_
    rintro e w4 ⟨rfl,hb4⟩
    have HT4:=hid (HT3.below hb4)
    have HG4:Hid (w.grownBy w4 (some R.b)):=Zy HG3.out (ZR hb4)
    have HK4:Hid (RK w4 R k ts):=HK3.below hb4
    clear hb4 HT3 HG3 HK3 t0 t1 t2 t3 rc0 rc1 rfz
    obtain⟨rc0,rc1,rfz,rcx⟩:=HK4.rd.all
    have t0:=HT4.cell 0
    have t1:=HT4.cell 1
    have t2:=HT4.cell 2
    have t3:=HT4.cell 3
    simp only[Zget]at t0 t1 t2 t3
    clear rcx
    by_cases hmn:isT [45] (LS.hd ts)=true
    ·rw[show isT (bl ⟨#[45]⟩) (LS.hd ts)=true from hmn]
     have HPI:Hid (ZbZ rec ts deep=bnd (rec 3 ts.tail (deep+1)) fun a r=>.ok (.node 0 0 (nd0 3 0) a .nil,r)):=hid (by rw[HPF.out,Zts HK1N.out hmn])
     clear hmn
     go_upto_region 11 with fail
     refine Z9 fun W8 hW8=>?_
     have HK8:Hid (RK W8 R (k+1) ts.tail):=hid (by rw[hW8];exact HK4.step HLV.out)
     have HG8:Hid (w.grownBy W8 (some R.b)):=hid (by rw[hW8];exact Zbm HG4.out (Or.inl rfl) _)
     clear hW8 rc0 rc1 rfz t0 t1 t2 t3 HK4 HG4 HT4
     go_wp2_with fail
     refine(hfa W8 R (k+1) ts.tail (deep+1) HK8.out (by omega) (by show ts.tail.length<m;have:=H.pos;have:=HM.out;rw[List.length_tail];omega)).mono ?_
     rintro e w9 ⟨pv,v,rfl,hif,hres,hg9⟩
     have HG9:Hid (w.grownBy w9 (some R.b)):=Zy HG8.out hg9
     clear hg9
     rcases hif with rfl|⟨ty,u,rfl⟩
     all_goals
      go_wp2
      go_ret2
      refine⟨_,_,rfl,Or.inr ⟨_,_,rfl⟩,?_,HG9.out⟩
      rw[HPI.out]
      cases hrp:rec 3 ts.tail (deep+1)with
      | error er=>exact hres.err hrp
      | ok pr=>
       obtain⟨t,r3⟩:=pr
       obtain⟨h1,h2,h3⟩:=hres.good hrp
       exact⟨h1,h2,Or.inr (Or.inr (Or.inr (Or.inl ⟨rfl,_,rfl,h3⟩)))⟩
    ·rw[show isT (bl ⟨#[45]⟩) (LS.hd ts)=false from Bool.eq_false_iff.2 hmn]
     have HMN:Hid (¬isT [45] (LS.hd ts)=true):=hmn
     clear hmn
     go_wp2_with fail
     refine(Zfj ht.out HWF.1 HWF.2.2 ⟨#[40]⟩ (by decide) (by decide) w4).mono ?_
     rintro e w5 ⟨rfl,hb5⟩
     have HT5:=hid (HT4.below hb5)
     have HG5:Hid (w.grownBy w5 (some R.b)):=Zy HG4.out (ZR hb5)
     have HK5:Hid (RK w5 R k ts):=HK4.below hb5
     clear hb5 HT4 HG4 HK4 t0 t1 t2 t3 rc0 rc1 rfz
     obtain⟨rc0,rc1,rfz,rcx⟩:=HK5.rd.all
     have t2:=HT5.cell 2
     simp only[Zget]at t2
     clear rcx
     by_cases hop:isT [40] (LS.hd ts)=true
     ·rw[show isT (bl ⟨#[40]⟩) (LS.hd ts)=true from hop]
      have HPI:Hid (ZbZ rec ts deep=Z3 rec ts (deep+1)):=hid (by rw[HPF.out,Ztx HK1N.out HMN.out hop])
      clear hop
      go_wp2_with fail
      refine(hbr w5 R k ts (deep+1) HK5.out (by omega) HM.out).mono ?_
      rintro e w9 ⟨pv,v,rfl,hif,hres,hg9⟩
      have HG9:Hid (w.grownBy w9 (some R.b)):=Zy HG5.out hg9
      have HIF:Hid (ZdX pv):=hif
      clear hg9 hif
      go_wp2
      go_ret2
      exact⟨_,_,rfl,HIF.out,by rw[HPI.out];exact hres,HG9.out⟩
     ·rw[show isT (bl ⟨#[40]⟩) (LS.hd ts)=false from Bool.eq_false_iff.2 hop]
      have HOPN:Hid (¬isT [40] (LS.hd ts)=true):=hop
      have HTX:Hid (bl tx=(LS.hd ts).txt):=ht.2.2.1
      clear hop
      go_wp2_with fail
      refine(ZnD tx _).mono ?_
      rintro e wq ⟨rfl,rfl⟩
      rw[HTX.out]
      cases hgi:idx (LS.hd ts).txt ZG with
      | some g=>
       have HPI:Hid (ZbZ rec ts deep=Zb0 rec g ts.tail (deep+1)):=hid (by rw[HPF.out,Ztq HK1N.out HMN.out HOPN.out hgi])
       have HWD:Hid (bl tx=ZG.getD g []):=hid (by rw[Zkb hgi,HTX.out])
       rw[show(some g).isSome=true from rfl]
       clear hgi
       go_upto_region 17 with fail
       refine Z9 fun W8 hW8=>?_
       have HK8:Hid (RK W8 R (k+1) ts.tail):=hid (by rw[hW8];exact HK5.step HLV.out)
       have HG8:Hid (w.grownBy W8 (some R.b)):=hid (by rw[hW8];exact Zbm HG5.out (Or.inl rfl) _)
       have HT8:Hid (BAt W8 w1.heap.size [.int .i64 kd,.int .i64 at_,.string tx,.int .i64 tv] 74):=hid (by rw[hW8];exact HT5.other (by show w1.heap.size≠R.b;omega) _)
       clear hW8 rc0 rc1 rfz t2 HK5 HG5 HT5
       have t2:=HT8.cell 2
       simp only[Zget]at t2
       go_wp2_with fail
       refine(Zte hbr tx g HWD.out W8 R (k+1) ts.tail (deep+1) HK8.out (by omega) (by show ts.tail.length<=m;have:=HM.out;rw[List.length_tail];omega)).mono ?_
       rintro e w9 ⟨pv,v,rfl,hif,hres,hg9⟩
       have HG9:Hid (w.grownBy w9 (some R.b)):=Zy HG8.out hg9
       have HIF:Hid (ZdX pv):=hif
       clear hg9 hif
       go_wp2
       go_ret2
       exact⟨_,_,rfl,HIF.out,by rw[HPI.out];exact hres,HG9.out⟩
      | none=>
       rw[show(none:Option Nat).isSome=false from rfl]
       have HGN:Hid (idx (LS.hd ts).txt ZG=none):=hgi
       clear hgi
       go_wp2_with fail
       refine(ZnE tx _).mono ?_
       rintro e wq ⟨rfl,rfl⟩
       rw[HTX.out]
       cases hoi:idx (LS.hd ts).txt ZV with
       | some o=>
        have HPI:Hid (ZbZ rec ts deep=winP o ts.tail):=hid (by rw[HPF.out,Ztw HK1N.out HMN.out HOPN.out HGN.out hoi])
        have HWD:Hid (bl tx=ZV.getD o []):=hid (by rw[Zkb hoi,HTX.out])
        rw[show(some o).isSome=true from rfl]
        clear hoi
        go_upto_region 20 with fail
        refine Z9 fun W8 hW8=>?_
        have HK8:Hid (RK W8 R (k+1) ts.tail):=hid (by rw[hW8];exact HK5.step HLV.out)
        have HG8:Hid (w.grownBy W8 (some R.b)):=hid (by rw[hW8];exact Zbm HG5.out (Or.inl rfl) _)
        have HT8:Hid (BAt W8 w1.heap.size [.int .i64 kd,.int .i64 at_,.string tx,.int .i64 tv] 74):=hid (by rw[hW8];exact HT5.other (by show w1.heap.size≠R.b;omega) _)
        clear hW8 rc0 rc1 rfz t2 HK5 HG5 HT5
        have t2:=HT8.cell 2
        simp only[Zget]at t2
        go_wp2_with fail
        refine(ZzU HK8.out tx o HWD.out).mono ?_
        rintro e w9 ⟨pv,v,rfl,hif,hres,hg9⟩
        have HG9:Hid (w.grownBy w9 (some R.b)):=Zy HG8.out hg9
        have HIF:Hid (ZdX pv):=hif
        clear hg9 hif
        go_wp2
        go_ret2
        exact⟨_,_,rfl,HIF.out,by rw[HPI.out];exact hres,HG9.out⟩
       | none=>
        rw[show(none:Option Nat).isSome=false from rfl]
        have HPI:Hid (ZbZ rec ts deep=bnd (selP ts) fun p r=>.ok (Z6 p,r)):=hid (by rw[HPF.out,Ztv HK1N.out HMN.out HOPN.out HGN.out hoi])
        clear hoi
        go_wp2_with fail
        refine(Zpt HK5.out).mono ?_
        rintro e w9 ⟨nm,la,ln,lc,v,rfl,hres,hg9⟩
        have HG9:Hid (w.grownBy w9 (some R.b)):=Zy HG5.out hg9
        clear hg9
        go_wp2
        go_ret2
        refine⟨_,_,rfl,Or.inr ⟨_,_,rfl⟩,?_,HG9.out⟩
        rw[HPI.out]
        cases hsp:selP ts with
        | error er=>exact hres.err hsp
        | ok pr=>
         obtain⟨nd,r3⟩:=pr
         obtain⟨h1,h2,h3,h4⟩:=hres.good hsp
         exact⟨h1,h2,Or.inr (Or.inl ⟨(ZiX hsp).2.1,nm,la,ln,lc,rfl,h3,h4⟩)⟩
theorem ZvM{p:PTok}{u:Tok}(h:Zc1 p u)(hw:Zdg u)(hk:u.kind<=5){lv:Nat}(hl:lv<=2){kd op:Nat}(ho:LS.opAt lv u=some (kd,op)):∃j,opOf p=some j/\j<=4/\ZcS j=lv/\opNo (nd0 kd op)=j/\(kd=4∨kd=6)/\¬(u.kind=0∨u.kind=5):=by
 have m0:ZcY p ⟨#[111,114]⟩=isT wOr u:=ZlH h hw hk (s:=⟨#[111,114]⟩) (by decide) (by decide)
 have m1:ZQ p ⟨#[43]⟩=isT [43] u:=Zdv h hw hk (s:=⟨#[43]⟩) (by decide) (by decide)
 have m2:ZQ p ⟨#[45]⟩=isT [45] u:=Zdv h hw hk (s:=⟨#[45]⟩) (by decide) (by decide)
 have m3:ZQ p ⟨#[42]⟩=isT [42] u:=Zdv h hw hk (s:=⟨#[42]⟩) (by decide) (by decide)
 have m4:ZQ p ⟨#[47]⟩=isT [47] u:=Zdv h hw hk (s:=⟨#[47]⟩) (by decide) (by decide)
 unfold opOf
 rw[m0,m1,m2,m3,m4]
 unfold LS.opAt at ho
 rcases(by omega:lv=0∨lv=1∨lv=2)with rfl|rfl|rfl
 ·by_cases a:isT wOr u=true
  ·rw[if_pos rfl,if_pos a]at ho
   injection ho with ho;injection ho with h1 h2;subst h1 h2
   rw[if_pos a]
   exact⟨0,rfl,by decide,rfl,rfl,Or.inr rfl,ZdL a⟩
  ·rw[if_pos rfl,if_neg a]at ho;cases ho
 ·rw[if_neg (by decide),if_pos rfl]at ho
  by_cases a:isT [43] u=true
  ·rw[if_pos a]at ho
   injection ho with ho;injection ho with h1 h2;subst h1 h2
   rw[Zev a (u:=wOr) (by decide),if_neg (by decide),if_pos a]
   exact⟨1,rfl,by decide,rfl,rfl,Or.inl rfl,ZdL a⟩
  ·rw[if_neg a]at ho
   by_cases b:isT [45] u=true
   ·rw[if_pos b]at ho
    injection ho with ho;injection ho with h1 h2;subst h1 h2
    rw[Zev b (u:=wOr) (by decide),if_neg (by decide),if_neg a,if_pos b]
    exact⟨2,rfl,by decide,rfl,rfl,Or.inl rfl,ZdL b⟩
   ·rw[if_neg b]at ho;cases ho
 ·rw[if_neg (by decide),if_neg (by decide)]at ho
  by_cases a:isT [42] u=true
  ·rw[if_pos a]at ho
   injection ho with ho;injection ho with h1 h2;subst h1 h2
   rw[Zev a (u:=wOr) (by decide),if_neg (by decide),Zev a (u:=[43]) (by decide),if_neg (by decide),Zev a (u:=[45]) (by decide),if_neg (by decide),if_pos a]
   exact⟨3,rfl,by decide,rfl,rfl,Or.inl rfl,ZdL a⟩
  ·rw[if_neg a]at ho
   by_cases b:isT [47] u=true
   ·rw[if_pos b]at ho
    injection ho with ho;injection ho with h1 h2;subst h1 h2
    rw[Zev b (u:=wOr) (by decide),if_neg (by decide),Zev b (u:=[43]) (by decide),if_neg (by decide),Zev b (u:=[45]) (by decide),if_neg (by decide),if_neg a,if_pos b]
    exact⟨4,rfl,by decide,rfl,rfl,Or.inl rfl,ZdL b⟩
   ·rw[if_neg b]at ho;cases ho
theorem ZvK{p:PTok}{u:Tok}(h:Zc1 p u)(hw:Zdg u)(hk:u.kind<=5){lv:Nat}(hl:lv<=2)(ho:LS.opAt lv u=none):opOf p=none∨∃j,opOf p=some j/\j<=4/\ZcS j≠lv:=by
 have m0:ZcY p ⟨#[111,114]⟩=isT wOr u:=ZlH h hw hk (s:=⟨#[111,114]⟩) (by decide) (by decide)
 have m1:ZQ p ⟨#[43]⟩=isT [43] u:=Zdv h hw hk (s:=⟨#[43]⟩) (by decide) (by decide)
 have m2:ZQ p ⟨#[45]⟩=isT [45] u:=Zdv h hw hk (s:=⟨#[45]⟩) (by decide) (by decide)
 have m3:ZQ p ⟨#[42]⟩=isT [42] u:=Zdv h hw hk (s:=⟨#[42]⟩) (by decide) (by decide)
 have m4:ZQ p ⟨#[47]⟩=isT [47] u:=Zdv h hw hk (s:=⟨#[47]⟩) (by decide) (by decide)
 unfold opOf
 rw[m0,m1,m2,m3,m4]
 unfold LS.opAt at ho
 generalize isT wOr u=b0 at *
 generalize isT [43] u=b1 at *
 generalize isT [45] u=b2 at *
 generalize isT [42] u=b3 at *
 generalize isT [47] u=b4 at *
 rcases (by omega : lv = 0 ∨ lv = 1 ∨ lv = 2) with rfl | rfl | rfl <;> cases b0 <;> cases b1 <;> cases b2 <;> cases b3 <;> cases b4 <;> first
   | exact Or.inl rfl
   | exact Or.inr ⟨0,rfl,by decide,by decide⟩
   | exact Or.inr ⟨1,rfl,by decide,by decide⟩
   | exact Or.inr ⟨2,rfl,by decide,by decide⟩
   | exact Or.inr ⟨3,rfl,by decide,by decide⟩
   | exact Or.inr ⟨4,rfl,by decide,by decide⟩
   | cases ho
theorem Zv8 {n lv : Nat} {ts : List Tok} {deep : Nat} (h : lv ≠ 3) : Zj (n + 1) false lv .nil ts deep = bnd (Zj n false (lv + 1) .nil ts deep) fun a r => Zj n true lv a r deep := by
  show(if lv=3 then _ else _)=_
  rw[if_neg h]
theorem Zv7 {n : Nat} {ts : List Tok} {deep : Nat} : Zj (n + 1) false 3 .nil ts deep = ZbZ (fun lv ts d => Zj n false lv .nil ts d) ts deep := by
  show(if 3=3 then _ else _)=_
  rw[if_pos rfl]
theorem Zwa{n lv:Nat}{a:Tr}{ts:List Tok}{deep:Nat}(h:LS.opAt lv (hd ts)=none):Zj (n+1) true lv a ts deep=.ok (a,ts):=by
 show(match LS.opAt lv (hd ts)with|none=>_|some p=>_)=_
 rw[h]
theorem Zv9 {n lv : Nat} {a : Tr} {ts : List Tok} {deep : Nat} {p : Nat × Nat} (h : LS.opAt lv (hd ts) = some p) : Zj (n + 1) true lv a ts deep = bnd (Zj n false (lv + 1) .nil ts.tail deep) fun b r => Zj n true lv (.node 0 0 (nd0 p.1 p.2) a b) r deep := by
  show(match LS.opAt lv (hd ts)with|none=>_|some p=>_)=_
  rw[h]
def RP(lv n:Nat):Prop:=Zeo 28 (fun d=>[.int .i64 lv,.int .i64 (d+1:Nat)]) (fun ts d=>Zj n false lv .nil ts d) (fun ts=>10*ts.length+5<=n+lv)
def RF(n:Nat):Prop:=Zeo 51 (fun d=>[.int .i64 (d+1:Nat)]) (fun ts d=>Zj n false 3 .nil ts d) (fun ts=>10*ts.length+2<=n)
theorem Zwb{n:Nat}(hf:RF n):RP 3 n:=by
 intro w R k ts deep h hd hts
 have HC:Hid (Calls Tryz.prog 51 #[.pointer (some ⟨R.b,0,none⟩),.int .i64 (deep+1:Nat)] w _):=hf w R k ts deep h hd (by show 10*ts.length+2<=n;have h':10*ts.length+5<=n+3:=hts;omega)
 clear h hd hts hf
 go_enter Tryz.func28,Tryz.ntmps28
 go_wp2_with fail
 refine HC.mono ?_
 rintro e w1 ⟨pv,v,rfl,hif,hres,hg⟩
 have HIF:Hid (ZdX pv):=hif
 have HG:Hid (w.grownBy w1 (some R.b)):=hg
 clear hif hg
 go_wp2
 go_ret2
 exact⟨_,_,rfl,HIF.out,hres,HG.out⟩
theorem Zwc{n lv:Nat}(hlv:lv<=2)(hp:∀m,m<=n->RP (lv+1) m):RP lv (n+1):=by
 intro w R k ts deep h hd hts
 have H:Hid (RK w R k ts):=h
 have HD:Hid (deep<=20):=hd
 have hts':10*ts.length+5<=n+1+lv:=hts
 have hbl:R.b<w.heap.size:=(Array.getElem?_eq_some_iff.1 h.rd.cells).1
 have HC:Hid (∀m,m<=n->∀(w:World) (k:Nat) (ts:List Tok),RK w R k ts->10*ts.length+5<=m+(lv+1)->Calls Tryz.prog 28 #[.pointer (some ⟨R.b,0,none⟩),.int .i64 ((lv:Int)+1),.int .i64 ((deep:Int)+1)] w fun e w'=>∃(pv v:Value),e=.returned (.tuple #[pv,v])/\ZdX pv/\Hid (Res R (fun w' t=>Ze w' t pv) w' (Zj m false (lv+1) .nil ts deep) v)/\w.grownBy w' (some R.b)):=hid (fun m hm w k ts h1 h2=>hp m hm w R k ts deep h1 hd h2)
 have h3:((lv:Int) == 3)=false:=by rw[beq_eq_false_iff_ne];omega
 obtain⟨PR,hPR⟩:∃PR,PR=Zj (n+1) false lv .nil ts deep:=⟨_,rfl⟩
 have HPR:Hid (PR=bnd (Zj n false (lv+1) .nil ts deep) fun a r=>Zj n true lv a r deep):=hid (by rw[hPR,Zv8 (by omega)])
 show Calls _ _ _ _ (fun e w'=>∃(pv v:Value),e=.returned (.tuple #[pv,v])/\ZdX pv/\Hid (Res R (fun w' t=>Ze w' t pv) w' (Zj (n+1) false lv .nil ts deep) v)/\w.grownBy w' (some R.b))
 rw[<-hPR]
 clear h hd hts hp hPR
 go_enter Tryz.func28,Tryz.ntmps28
 go_wp2_with fail
 refine(HC.out n (Nat.le_refl _) w k ts H.out (by omega)).mono ?_
 rintro e w1 ⟨pv,v,rfl,hif,hres,hg⟩
 have HG1:Hid (w.grownBy w1 (some R.b)):=hg
 clear hg
 cases hrp:Zj n false (lv+1) .nil ts deep with
 | error er=>
  have HE:=hid (hres.err hrp)
  obtain⟨fa,rfl⟩:=HE.shape
  have HPE:Hid (PR=.error er):=hid (by rw[HPR.out,hrp];rfl)
  clear hres hrp
  go_wp2
  go_ret2
  exact⟨_,_,rfl,Or.inl rfl,by rw[HPE.out];exact HE,HG1.out⟩
 | ok pr=>
  obtain⟨a0,r0⟩:=pr
  obtain⟨rfl,⟨k1,hk1⟩,hv⟩:=hres.good hrp
  have HK1:Hid (RK w1 R k1 r0):=hk1
  have HV1:Hid (Ze w1 a0 pv):=hv
  have HP1:Hid (Zj n true lv a0 r0 deep=PR):=hid (by rw[HPR.out,hrp];rfl)
  have hlen:r0.length+1<=ts.length:=ZfU n false (lv+1) .nil ts deep _ hrp
  clear hres hrp hk1 hv HPR hif
  go_wp2
  go_loopg [8] r0.length (fun g v8 wr=>∃(a:Tr) (r:List Tok) (k2 m:Nat),g=r.length/\Hid (Ze wr a v8)/\Hid (RK wr R k2 r)/\Hid (10*r.length+5<=m/\m<=n/\Zj m true lv a r deep=PR)/\Hid (w.grownBy wr (some R.b)))
  case atStart=>exact⟨a0,r0,k1,n,rfl,HV1,HK1,⟨by omega,Nat.le_refl _,HP1.out⟩,HG1⟩
  case round=>
   obtain⟨a,r,k2,m,hgr,HV,HK,HN,HG⟩:=hrel
   clear HV1 HK1 HP1 HG1
   obtain⟨m,rfl⟩:∃m',m=m'+1:=⟨m - 1,by have:=HN.1;omega⟩
   obtain⟨ty,u,hsh⟩:=Ze.shape HV.out
   subst hsh
   go_wp2_with fail
   refine(ZdU HK.out).mono ?_
   rintro e w2 ⟨⟨kd,at_,tx,tv⟩,rfl,ht,hb2⟩
   have HK2:Hid (RK w2 R k2 r):=HK.below hb2
   have HV2:Hid (Ze w2 a (.iface ty u)):=HV.below hb2
   have HG2:Hid (w.grownBy w2 (some R.b)):=Zy HG.out (ZR hb2)
   have HWF:=hid HK2.wf.head
   clear hb2 HK HV HG
   go_wp2_with fail
   refine(ZvN ⟨kd,at_,tx,tv⟩ _).mono ?_
   rintro e w3 ⟨rfl,hb3⟩
   have HK3:Hid (RK w3 R k2 r):=HK2.below hb3
   have HV3:Hid (Ze w3 a (.iface ty u)):=HV2.below hb3
   have HG3:Hid (w.grownBy w3 (some R.b)):=Zy HG2.out (ZR hb3)
   clear hb3 HK2 HV2 HG2
   cases hop:LS.opAt lv (LS.hd r)with
   | none=>
    have HPL:Hid (PR=.ok (a,r)):=hid (by rw[<-HN.2.2,Zwa hop])
    rcases ZvK ht.out HWF.1 HWF.2.2 hlv hop with ho|⟨j,ho,hj4,hrk⟩
    ·rw[ho]
     clear hop ho
     go_wp2
     go_ret2
     exact⟨_,_,rfl,Or.inr ⟨_,_,rfl⟩,by rw[HPL.out];exact⟨rfl,⟨_,HK3.out⟩,HV3.out⟩,HG3.out⟩
    ·rw[ho]
     have hr2:((ZcS j:Int) != lv)=true:=by rw[bne_iff_ne];omega
     rw[show(some j).getD 0=j from rfl,show(some j).isSome=true from rfl]
     clear hop ho
     go_wp2_with (go_at_call 53;refine(Zlg j hj4 _).mono ?_;rintro e wq ⟨rfl,rfl⟩)
     go_ret2
     exact⟨_,_,rfl,Or.inr ⟨_,_,rfl⟩,by rw[HPL.out];exact⟨rfl,⟨_,HK3.out⟩,HV3.out⟩,HG3.out⟩
   | some p=>
    obtain⟨j,ho,hj4,hrk,hno,hk46,hdead⟩:=ZvM ht.out HWF.1 HWF.2.2 hlv hop
    have HPL:Hid ((bnd (Zj m false (lv+1) .nil r.tail deep) fun b r=>Zj m true lv (.node 0 0 (nd0 p.1 p.2) a b) r deep)=PR):=hid (by rw[<-HN.2.2,Zv9 hop])
    have HNO:Hid (opNo (nd0 p.1 p.2)=j/\(p.1=4∨p.1=6)):=⟨hno,hk46⟩
    have HDE:Hid (¬((LS.hd r).kind=0∨(LS.hd r).kind=5)):=hdead
    have hr2:((ZcS j:Int) != lv)=false:=by rw[bne_eq_false_iff_eq];omega
    rw[ho,show(some j).getD 0=j from rfl,show(some j).isSome=true from rfl]
    obtain⟨rc0,rc1,rfz,rcx⟩:=HK3.rd.all
    have hlt:=HK3.lt
    have hln:=HK3.len
    have hm1:=HN.1
    have hm2:=HN.2.1
    clear hop ho hno hk46 hdead rcx
    go_upto_region 10 with (go_at_call 53;refine(Zlg j hj4 _).mono ?_;rintro e wq ⟨rfl,rfl⟩)
    refine Z9 fun W8 hW8=>?_
    have HK8:Hid (RK W8 R (k2+1) r.tail):=hid (by rw[hW8];exact HK3.step HDE.out)
    have HG8:Hid (w.grownBy W8 (some R.b)):=hid (by rw[hW8];exact Zbm HG3.out (Or.inl rfl) _)
    have HV8:Hid (Ze W8 a (.iface ty u)):=hid (by rw[hW8];exact HV3.read HK3.out (Zbm (Zfi _ _) (Or.inl rfl) _))
    have hpos:=HK3.pos
    have hpos8:=HK8.pos
    rw[List.length_tail]at hpos8
    clear hW8 rc0 rc1 rfz HK3 HG3 HV3
    go_wp2_with fail
    refine(HC.out m (by omega) W8 (k2+1) r.tail HK8.out (by rw[List.length_tail];omega)).mono ?_
    rintro e w9 ⟨pv,v,rfl,hif,hres,hg9⟩
    have HG9:Hid (w.grownBy w9 (some R.b)):=Zy HG8.out hg9
    have HV9:Hid (Ze w9 a (.iface ty u)):=HV8.read HK8.out hg9
    clear hg9 HG8 HV8
    cases hrp:Zj m false (lv+1) .nil r.tail deep with
    | error er=>
     have HE:=hid (hres.err hrp)
     obtain⟨fa,rfl⟩:=HE.shape
     have HPE:Hid (PR=.error er):=hid (by rw[<-HPL.out,hrp];rfl)
     clear hres hrp
     go_wp2
     go_ret2
     exact⟨_,_,rfl,Or.inl rfl,by rw[HPE.out];exact HE,HG9.out⟩
    | ok pr=>
     obtain⟨b,y⟩:=pr
     obtain⟨rfl,⟨k9,hk9⟩,hv9⟩:=hres.good hrp
     have HK9:Hid (RK w9 R k9 y):=hk9
     have HW9:Hid (Ze w9 b pv):=hv9
     have HP9:Hid (Zj m true lv (.node 0 0 (nd0 p.1 p.2) a b) y deep=PR):=hid (by rw[<-HPL.out,hrp];rfl)
     have hylen:=ZfU m false (lv+1) .nil r.tail deep _ hrp
     simp only[List.length_tail,Bool.false_eq_true,if_false]at hylen
     obtain⟨ty2,u2,hsh2⟩:=Ze.shape hv9
     subst hsh2
     have HV10:Hid (Ze w9 (.node 0 0 (nd0 p.1 p.2) a b) (.iface 116 (.agg #[.int .i64 j,.iface ty u,.iface ty2 u2]))):=hid (Or.inr (Or.inr (Or.inr (Or.inr (Or.inr ⟨HNO.2,_,_,by rw[HNO.1],HV9.out,HW9.out⟩)))))
     clear hres hrp hk9 hv9 hif HPL
     go_wp2
     go_roundg y.length
     case measure=>omega
     case rel=>exact⟨_,y,k9,m,rfl,HV10,HK9,⟨by omega,by omega,HP9.out⟩,HG9⟩
theorem ZlX:∀n,(∀lv,lv<=3->∀m,m<=n->RP lv m)/\(∀m,m<=n->RF m)
 | 0 => by
   constructor
   · intro lv hlv m hm w R k ts deep _ _ hts
     exact absurd (show 10*ts.length+5<=m+lv from hts) (by omega)
   · intro m hm w R k ts deep _ _ hts
     exact absurd (show 10*ts.length+2<=m from hts) (by omega)
 | n + 1 => by
   obtain⟨ih1,ih2⟩:=ZlX n
   have hf:RF (n+1):=by
     intro w R k ts deep h hd hts
     have hts':10*ts.length+2<=n+1:=hts
     show Calls _ _ _ _ (fun e w'=>∃(pv v:Value),e=.returned (.tuple #[pv,v])/\ZdX pv/\Hid (Res R (fun w' t=>Ze w' t pv) w' (Zj (n+1) false 3 .nil ts deep) v)/\w.grownBy w' (some R.b))
     rw[Zv7]
     refine ZsF (rec:=fun lv ts d=>Zj n false lv .nil ts d) (m:=ts.length) ?_ (Zrl ?_) w R k ts deep h hd (Nat.le_refl _)
     · intro w R k ts2 deep h hd h2
       exact ih2 n (Nat.le_refl _) w R k ts2 deep h hd (by show 10*ts2.length+2<=n;have h3:ts2.length<ts.length:=h2;omega)
     · intro w R k ts2 deep h hd h2
       exact ih1 0 (by omega) n (Nat.le_refl _) w R k ts2 deep h hd (by show 10*ts2.length+5<=n+0;have h3:ts2.length<ts.length:=h2;omega)
   constructor
   · intro lv hlv m hm
     by_cases h0:m<=n
     · exact ih1 lv hlv m h0
     · obtain rfl:m=n+1:=by omega
       by_cases h3:lv=3
       · subst h3;exact Zwb hf
       · exact Zwc (by omega) (fun m hm=>ih1 (lv+1) (by omega) m hm)
   · intro m hm
     by_cases h0:m<=n
     · exact ih2 m h0
     · obtain rfl:m=n+1:=by omega
       exact hf
attribute [local go_sem] Zgp Zji Zjj Zjh Zjl Zjk Zgo Zgn Zje Zjd Zjg Zjf Zfy Zfx Zfz Zjm Zjo Zjn Zgl Zgk Zgm Zgj Zjc Zjb Zgy Zgx Zgz Zgw ZgA Zjp Zgs Zgr Zgt Zgq Zgv Zgu
def KR(tp:Addr)(t:Tr)(kd:Int)(err:Value):Prop:=(Zf t=0/\err=.iface 432 (.pointer (some tp)))∨(Zf t=1/\kd=0/\err=.nilIface)∨(Zf t=2/\kd=1/\err=.nilIface)
def ZeI(w:World)(tp:Addr):Prop:=w.cell? ⟨3,0,none⟩=some (.iface 432 (.pointer (some tp)))
theorem ZeI.below{w w':World}{tp:Addr}(h:ZeI w tp)(hb:Below w.heap.size w w'):ZeI w' tp:=(hb.cell (p:=⟨_,0,none⟩) (World.block_lt_of_cell? _ _ h)).trans h
def KC(t:Tr):Prop:=∀(w:World) (v:Value) (tp:Addr),Ze w t v->ZeI w tp->
 Calls Tryz.prog 31 #[v] w fun e w'=>∃(kd:Int) (err:Value),e=.returned (.tuple #[.int .i64 kd,err])/\Hid (KR tp t kd err)/\Below w.heap.size w w'
theorem ZzN{t:Tr}(h:KC t)(w:World)(v:Value)(tp:Addr)(hv:Ze w t v)(ht:ZeI w tp) :
  Calls Tryz.prog 55 #[v] w fun e w'=>∃err:Value,e=.returned err/\Hid ((Zf t=2/\err=.nilIface)∨(Zf t≠2/\err=.iface 432 (.pointer (some tp))))/\Below w.heap.size w w':=by
 have HC:Hid (Calls Tryz.prog 31 #[v] w _):=h w v tp hv ht
 have HT:Hid (ZeI w tp):=ht
 obtain⟨ty,u,rfl⟩:=Ze.shape hv
 clear h hv ht
 go_enter Tryz.func55,Tryz.ntmps55
 go_wp2_with fail
 refine HC.mono ?_
 rintro e w1 ⟨kd,err,rfl,hk,hb⟩
 have HB:Hid (Below w.heap.size w w1):=hb
 have htc:w1.cell? ⟨3,0,none⟩=some (.iface 432 (.pointer (some tp))):=HT.below hb
 clear hb HC
 rcases hk.out with ⟨h0,rfl⟩|⟨h0,rfl,rfl⟩|⟨h0,rfl,rfl⟩
 ·have H0:Hid (Zf t=0):=h0
  clear hk h0
  go_wp2
  go_ret
  exact⟨_,rfl,Or.inr ⟨by rw[H0.out];decide,rfl⟩,HB.out⟩
 ·have H0:Hid (Zf t=1):=h0
  clear hk h0
  go_wp2
  go_ret
  exact⟨_,rfl,Or.inr ⟨by rw[H0.out];decide,rfl⟩,HB.out⟩
 ·have H0:Hid (Zf t=2):=h0
  clear hk h0
  go_wp2
  go_ret
  exact⟨_,rfl,Or.inl ⟨H0.out,rfl⟩,HB.out⟩
theorem ZtO{x y:Nat}{a:Nd}{l r:Tr}(h:a.kind=4∨a.kind=6):Zf (.node x y a l r)=if Zf l=0∨Zf r=0∨(a.kind=6/\Zf l+Zf r≠4)then 0 else if Zf l+Zf r=2 then 1 else 2:=by
 show(if a.kind=0 then _ else _)=_
 rw[if_neg (by omega),if_neg (by omega),if_neg (by omega),if_neg (by omega)]
theorem ZtT{x y:Nat}{a:Nd}{l r:Tr}(hk:a.kind=4∨a.kind=6)(hl:KC l)(hr:KC r)(w:World)(vl vr:Value)(tp:Addr)(hvl:Ze w l vl)(hvr:Ze w r vr)(ht:ZeI w tp) :
  Calls Tryz.prog 56 #[.agg #[.int .i64 (opNo a),vl,vr]] w fun e w'=>∃(kd:Int) (err:Value),e=.returned (.tuple #[.int .i64 kd,err])/\Hid (KR tp (.node x y a l r) kd err)/\Below w.heap.size w w':=by
 obtain⟨tyl,ul,rfl⟩:=Ze.shape hvl
 obtain⟨tyr,ur,rfl⟩:=Ze.shape hvr
 have HKT:=hid (ZtO (x:=x) (y:=y) (l:=l) (r:=r) hk)
 have HVR:Hid (Ze w r (.iface tyr ur)):=hvr
 have HT:Hid (ZeI w tp):=ht
 obtain⟨o,ho⟩:∃o,o=opNo a:=⟨_,rfl⟩
 have hop:(a.kind=6/\((o:Int) == 0)=true)∨(a.kind=4/\((o:Int) == 0)=false):=by
  rcases hk with h|h
  ·right
   refine⟨h,?_⟩
   rw[beq_eq_false_iff_ne,ho];unfold opNo;rw[if_neg (by omega)];omega
  ·left
   refine⟨h,?_⟩
   rw[ho];unfold opNo;rw[if_pos h];rfl
 rw[<-ho]
 have HC0:Hid (∀(W:World),Below w.heap.size w W->Calls Tryz.prog 31 #[.iface tyl ul] W fun e w'=>∃(kd:Int) (err:Value),e=.returned (.tuple #[.int .i64 kd,err])/\Hid (KR tp l kd err)/\Below W.heap.size W w'):=hid (fun W hW=>hl W _ tp (hvl.below hW) (ht.below hW))
 have HC1:Hid (∀(W:World),Below w.heap.size w W->Calls Tryz.prog 31 #[.iface tyr ur] W fun e w'=>∃(kd:Int) (err:Value),e=.returned (.tuple #[.int .i64 kd,err])/\Hid (KR tp r kd err)/\Below W.heap.size W w'):=hid (fun W hW=>hr W _ tp (hvr.below hW) (ht.below hW))
 clear hvl hvr ht hl hr hk ho
 go_enter Tryz.func56,Tryz.ntmps56
 go_upto_region 1 with fail
 refine Z9 fun W0 hW0=>?_
 have HB0:Hid (Below w.heap.size w W0):=hid (by rw[hW0];exact Zbal)
 have HP0:Hid (BAt W0 w.heap.size [.int .i64 o,.iface tyl ul,.iface tyr ur] 116):=hid (by rw[hW0];exact Go.Deep.blk_alloc_new _ _)
 clear hW0
 have p0:=HP0.cell 0
 have p1:=HP0.cell 1
 have p2:=HP0.cell 2
 simp only[Zget]at p0 p1 p2
 go_wp2_with fail
 refine(HC0.out W0 HB0.out).mono ?_
 rintro e w1 ⟨kd,err,rfl,hkl,hb1⟩
 have HB1:Hid (Below w.heap.size w w1):=HB0.trans (hb1.mono HB0.size)
 have HP1:=hid (HP0.below hb1)
 clear hb1 HB0 HP0 p0 p1 p2
 have p0:=HP1.cell 0
 have p1:=HP1.cell 1
 have p2:=HP1.cell 2
 simp only[Zget]at p0 p1 p2
 rcases hkl.out with ⟨hl0,rfl⟩|⟨hl0,rfl,rfl⟩|⟨hl0,rfl,rfl⟩
 ·have HR:Hid (Zf (.node x y a l r)=0):=hid (by rw[HKT.out,if_pos (Or.inl hl0)])
  clear hkl hl0
  go_wp2
  go_ret2
  exact⟨_,_,rfl,Or.inl ⟨HR.out,rfl⟩,HB1.out⟩
 all_goals
  have HL0:=hid hl0
  clear hkl hl0
  go_wp2_with fail
  refine(HC1.out w1 HB1.out).mono ?_
  rintro e w2 ⟨kd2,err2,rfl,hkr,hb2⟩
  have HB2:Hid (Below w.heap.size w w2):=HB1.trans (hb2.mono HB1.size)
  have HP2:=hid (HP1.below hb2)
  have htc:w2.cell? ⟨3,0,none⟩=some (.iface 432 (.pointer (some tp))):=HT.below HB2.out
  clear hb2 HB1 HP1 p0 p1 p2
  have p0:=HP2.cell 0
  simp only[List.getElem?_cons_zero]at p0
  rcases hkr.out with ⟨hr0,rfl⟩|⟨hr0,rfl,rfl⟩|⟨hr0,rfl,rfl⟩
  ·have HR:Hid (Zf (.node x y a l r)=0):=hid (by rw[HKT.out,if_pos (Or.inr (Or.inl hr0))])
   clear hkr hr0
   go_wp2
   go_ret2
   exact⟨_,_,rfl,Or.inl ⟨HR.out,rfl⟩,HB2.out⟩
  all_goals
   have HR0:=hid hr0
   clear hkr hr0
   rcases hop with ⟨ha,ho⟩|⟨ha,ho⟩
   all_goals
    have HKX:=hid (show Zf (.node x y a l r)=_ by rw[HKT.out,HL0.out,HR0.out,ha])
    clear ha
    first
     | (go_wp2
        go_ret2
        exact⟨_,_,rfl,by first|exact Or.inr (Or.inl ⟨by rw[HKX.out];rfl,rfl,rfl⟩)|exact Or.inr (Or.inr ⟨by rw[HKX.out];rfl,rfl,rfl⟩)|exact Or.inl ⟨by rw[HKX.out];rfl,rfl⟩,HB2.out⟩)
     | (go_wp2
        go_region
        all_goals
          go_wp2
          go_ret2
          exact⟨_,_,rfl,Or.inl ⟨by rw[HKX.out];rfl,rfl⟩,by exact⟨HB2.os,HB2.tape,HB2.output,HB2.size,HB2.block⟩⟩)
theorem Zkj:∀t:Tr,KC t
 | .nil=>fun _ _ _ h=>h.elim
 | .node x y a l r => by
   have ihl:=Zkj l
   have ihr:=Zkj r
   intro w v tp hv ht
   rcases hv with ⟨hk,rfl⟩|⟨hk,nm,la,ln,lc,rfl,_⟩|⟨hk,wd,nm,la,ln,lc,rfl,_⟩|⟨hk,z,rfl,hz⟩|⟨hk,wd,la,ln,lc,z,rfl,_,_,hz⟩|⟨hk,z1,z2,rfl,hz1,hz2⟩
   · have HK:Hid (Zf (.node x y a l r)=1):=hid (by show(if a.kind=0 then _ else _)=_;rw[if_pos hk])
     clear ihl ihr hk ht
     go_enter Tryz.func31,Tryz.ntmps31
     go_wp2
     go_ret2
     exact⟨_,_,rfl,Or.inr (Or.inl ⟨HK.out,rfl,rfl⟩),belB⟩
   · have HK:Hid (Zf (.node x y a l r)=2):=hid (by show(if a.kind=0 then _ else _)=_;rw[if_neg (by omega),if_pos (Or.inl hk)])
     clear ihl ihr hk ht
     go_enter Tryz.func31,Tryz.ntmps31
     go_wp2
     go_ret2
     exact⟨_,_,rfl,Or.inr (Or.inr ⟨HK.out,rfl,rfl⟩),belB⟩
   · have HK:Hid (Zf (.node x y a l r)=2):=hid (by show(if a.kind=0 then _ else _)=_;rw[if_neg (by omega),if_pos (Or.inr hk)])
     clear ihl ihr hk ht
     go_enter Tryz.func31,Tryz.ntmps31
     go_wp2
     go_ret2
     exact⟨_,_,rfl,Or.inr (Or.inr ⟨HK.out,rfl,rfl⟩),belB⟩
   · have HK:Hid (Zf (.node x y a l r)=Zf l):=hid (by show(if a.kind=0 then _ else _)=_;rw[if_neg (by omega),if_neg (by omega),if_pos hk])
     obtain⟨ty,u,rfl⟩:=Ze.shape hz
     have HC:Hid (∀W,Below w.heap.size w W->Calls Tryz.prog 31 #[.iface ty u] W fun e w'=>∃(kd:Int) (err:Value),e=.returned (.tuple #[.int .i64 kd,err])/\Hid (KR tp l kd err)/\Below W.heap.size W w'):=hid (fun W hW=>ihl W _ tp (hz.below hW) (ht.below hW))
     clear ihl ihr hk ht hz
     go_enter Tryz.func31,Tryz.ntmps31
     go_wp2_with fail
     refine ZK fun W hW=>?_
     have HB:Hid (Below w.heap.size w W):=hid (by rw[hW];exact belB)
     clear hW
     refine(HC.out W HB.out).mono ?_
     rintro e w1 ⟨kd,err,rfl,hkr,hb⟩
     have HB1:Hid (Below w.heap.size w w1):=HB.trans (hb.mono HB.size)
     clear hb
     go_wp2
     go_ret2
     exact⟨_,_,rfl,by unfold KR;rw[HK.out];exact hkr,HB1.out⟩
   · have HK:Hid (Zf (.node x y a l r)=if Zf l=2 then 2 else 0):=hid (by show(if a.kind=0 then _ else _)=_;rw[if_neg (by omega),if_neg (by omega),if_neg (by omega),if_pos hk])
     obtain⟨ty,u,rfl⟩:=Ze.shape hz
     have HC:Hid (∀W,Below w.heap.size w W->Calls Tryz.prog 55 #[.iface ty u] W fun e w'=>∃err:Value,e=.returned err/\Hid ((Zf l=2/\err=.nilIface)∨(Zf l≠2/\err=.iface 432 (.pointer (some tp))))/\Below W.heap.size W w'):=hid (fun W hW=>ZzN ihl W _ tp (hz.below hW) (ht.below hW))
     clear ihl ihr hk ht hz
     go_enter Tryz.func31,Tryz.ntmps31
     go_wp2_with fail
     refine ZK fun W hW=>?_
     have HB:Hid (Below w.heap.size w W):=hid (by rw[hW];exact belB)
     clear hW
     refine(HC.out W HB.out).mono ?_
     rintro e w1 ⟨err,rfl,hkr,hb⟩
     have HB1:Hid (Below w.heap.size w w1):=HB.trans (hb.mono HB.size)
     clear hb
     go_wp2
     go_ret2
     refine⟨_,_,rfl,?_,HB1.out⟩
     rcases hkr.out with ⟨h2,he⟩|⟨h2,he⟩
     · exact Or.inr (Or.inr ⟨by rw[HK.out,if_pos h2],rfl,he⟩)
     · exact Or.inl ⟨by rw[HK.out,if_neg h2],he⟩
   · obtain⟨ty,u,rfl⟩:=Ze.shape hz1
     obtain⟨ty2,u2,rfl⟩:=Ze.shape hz2
     have HC:Hid (∀W,Below w.heap.size w W->Calls Tryz.prog 56 #[.agg #[.int .i64 (opNo a),.iface ty u,.iface ty2 u2]] W fun e w'=>∃(kd:Int) (err:Value),e=.returned (.tuple #[.int .i64 kd,err])/\Hid (KR tp (.node x y a l r) kd err)/\Below W.heap.size W w'):=hid (fun W hW=>ZtT hk ihl ihr W _ _ tp (hz1.below hW) (hz2.below hW) (ht.below hW))
     clear ihl ihr hk ht hz1 hz2
     go_enter Tryz.func31,Tryz.ntmps31
     go_wp2_with fail
     refine ZK fun W hW=>?_
     have HB:Hid (Below w.heap.size w W):=hid (by rw[hW];exact belB)
     clear hW
     refine(HC.out W HB.out).mono ?_
     rintro e w1 ⟨kd,err,rfl,hkr,hb⟩
     have HB1:Hid (Below w.heap.size w w1):=HB.trans (hb.mono HB.size)
     clear hb
     go_wp2
     go_ret2
     exact⟨_,_,rfl,hkr,HB1.out⟩
end Go.Proofs.YtcdgkkfipdoeeaaGreatDoor

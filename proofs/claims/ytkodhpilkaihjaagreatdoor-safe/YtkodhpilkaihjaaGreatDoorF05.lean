/- Parts. -/
import Derived.Test.YtkodhpilkaihjaaGreatDoorF04
import Derived.Test.YtkodhpilkaihjaaGreatDoorF03
set_option maxRecDepth 100000
set_option maxHeartbeats 4000000
namespace Go.Proofs.YtkodhpilkaihjaaGreatDoor
open Go.RowKit LS
theorem Z6.grown{w w':World}{R:RS}{e:Nat×Nat}{v:Value}(h:Z6 w R e v){b:Nat}(hg:w.grownBy w' (some b)){c:Array Value}{t:TypeId}{fr:Nat×Nat}(hq:w.heap[b]?=some (.cells c t fr))(ht:t≠119):Z6 w' R e v:=by
 rcases h with ⟨h1,h2⟩|⟨h1,h2⟩
 ·exact Or.inl ⟨h1,h2.grown hg hq ht⟩
 ·exact Or.inr ⟨h1,h2.grown hg hq ht⟩
def BAt(w:World)(a:Nat)(c:List Value)(t:TypeId):Prop:=w.heap[a]?=some (.cells ⟨c⟩ t (0,0))
theorem BAt.cell{w:World}{a:Nat}{c:List Value}{t:TypeId}(h:BAt w a c t)(i:Nat):w.cell? ⟨a,i,none⟩=c[i]?:=by
 unfold BAt at h;simp[World.cell?,h]
theorem BAt.frozen{w:World}{a:Nat}{c:List Value}{t:TypeId}(h:BAt w a c t)(i:Nat):w.frozen? ⟨a,i,none⟩=false:=by
 unfold BAt at h;simp[World.frozen?,h]
theorem BAt.lt{w:World}{a:Nat}{c:List Value}{t:TypeId}(h:BAt w a c t):a<w.heap.size:=(Array.getElem?_eq_some_iff.1 h).1
theorem BAt.grown{w w':World}{a:Nat}{c:List Value}{t:TypeId}{r:Option Nat}(h:BAt w a c t)(hg:w.grownBy w' r)(hn:some a≠r):BAt w' a c t:=(hg.block a h.lt hn).trans h
theorem BAt.below{w w':World}{a:Nat}{c:List Value}{t:TypeId}(h:BAt w a c t)(hb:Below w.heap.size w w'):BAt w' a c t:=(hb.block a h.lt).trans h
theorem BAt.other{w:World}{a:Nat}{c:List Value}{t:TypeId}(h:BAt w a c t){p:Addr}(hp:a≠p.block)(v:Value):BAt (w.setCell p v) a c t:=(Go.Deep.blk_setCell_other _ _ _ _ hp).trans h
def set3(w:World)(a:Nat)(x y z:Value):World:=((w.setCell ⟨a,0,none⟩ x).setCell ⟨a,1,none⟩ y).setCell ⟨a,2,none⟩ z
theorem Zb7{w:World}{a:Nat}{p q r x y z:Value}{t:TypeId}(h:BAt w a [p,q,r] t):BAt (set3 w a x y z) a [x,y,z] t:=by
 unfold BAt at h
 unfold BAt set3
 simp only[World.setCell,Array.getElem?_modify,h,if_true,Option.map_some];rfl
theorem ZmA(w:World)(a:Nat)(x y z:Value){b:Nat}(hb:b≠a):(set3 w a x y z).heap[b]?=w.heap[b]?:=by
 unfold set3
 rw[Go.Deep.blk_setCell_other _ _ _ _ hb,Go.Deep.blk_setCell_other _ _ _ _ hb,Go.Deep.blk_setCell_other _ _ _ _ hb]
theorem Zeo{w0 w:World}{a b:Nat}(h:w0.grownBy w (some b))(ha:w0.heap.size<=a)(x y z:Value):w0.grownBy (set3 w a x y z) (some b):=
 Zo (Zo (Zo h (Or.inr ha) _) (Or.inr ha) _) (Or.inr ha) _
theorem RK.fresh{w0 w w':World}{R:RS}{k0 k:Nat}{ts0 ts:List Tok}(h0:RK w0 R k0 ts0)(h:RK w R k ts){a:Nat}(ha:w0.heap.size<=a)(hg:∀j,j≠a->w'.heap[j]?=w.heap[j]?):RK w' R k ts:=by
 refine h.blocks (fun j _ hj=>hg j ?_)
 have h1:=(Array.getElem?_eq_some_iff.1 h0.rd.cells).1
 have h2:=ZbX h0.rd.own
 have h3:=World.block_lt_of_cell? _ _ h0.sy
 have h4:=World.block_lt_of_cell? _ _ h0.dp
 have h3':1<w0.heap.size:=h3
 have h4':2<w0.heap.size:=h4
 rcases hj with rfl|rfl|rfl|rfl <;> omega
theorem Z6.set3{w:World}{R:RS}{e:Nat×Nat}{v:Value}(h:Z6 w R e v){a:Nat}{c:List Value}{t:TypeId}(hq:BAt w a c t)(ht:t≠119)(x y z:Value):Z6 (set3 w a x y z) R e v:=by
 refine h.grown (b:=a) ?_ hq ht
 exact Zo (Zo (Zo (Zbc w (some a)) (Or.inl rfl) _) (Or.inl rfl) _) (Or.inl rfl) _
theorem ZeE{k:Nat}{ts:List Tok}(h:(hd ts).kind=k):ZH k ts=.ok ((hd ts).txt,ts.tail):=if_pos h
theorem ZeV{k:Nat}{ts:List Tok}(h:¬(hd ts).kind=k):ZH k ts=.error (2,(hd ts).at_):=if_neg h
theorem Zf1{s:List UInt8}{t:Tok}(h:isT s t=true):t.txt=s:=by
 unfold isT at h
 rw[Bool.and_eq_true,beq_iff_eq]at h
 exact h.2
theorem Zei{s u:List UInt8}{t:Tok}(h:isT s t=true)(hne:s≠u):isT u t=false:=by
 have:=Zf1 h
 unfold isT
 rw[this,beq_eq_false_iff_ne.2 hne,Bool.and_false]
theorem ZK{P:Program}{c:Code}{Q:Exit->Act->World->Prop}{a:Act}{w:World}(h:∀W,W=w->Code.wp P c Q a W):Code.wp P c Q a w:=h w rfl
theorem Zn{P:Program}{f:FuncId}{args:Array Value}{w:World}{Q:Ending->World->Prop}(h:∀W,W=w->Calls P f args W Q):Calls P f args w Q:=h w rfl
theorem Zj5{w:World}{R:RS}{k:Nat}{ts:List Tok}(h:RK w R k ts) :
  Calls Tryz.prog 240 #[.pointer (some ⟨R.b,0,none⟩)] w fun e w'=>∃(x:ByteArray) (ng:Bool) (y:ByteArray) (v:Value),e=.returned (.tuple #[.agg #[.string x,.bool ng,.string y],v])/\Hid (Res R (fun _ c=>bl x=c.1/\bl y=c.2.1/\ng=c.2.2) w' (ZS ts) v)/\w.grownBy w' (some R.b):=by
 have H:Hid (RK w R k ts):=h
 have hbl:R.b<w.heap.size:=(Array.getElem?_eq_some_iff.1 h.rd.cells).1
 clear h
 go_enter Tryz.func240,Tryz.ntmps240
 go_wp2_with fail
 refine Zn fun W0 hW0=>?_
 have HK0:Hid (RK W0 R k ts):=hid (by rw[hW0];exact H.below Zbal)
 have HC0:Hid (BAt W0 w.heap.size [.string ByteArray.empty,.bool false,.string ByteArray.empty] 379):=hid (by rw[hW0];exact Go.Deep.blk_alloc_new _ _)
 have HG0:Hid (w.grownBy W0 (some R.b)):=hid (by rw[hW0];exact ZbE (Zbc _ _) _)
 clear hW0
 refine(ZhA HK0.out).mono ?_
 rintro e w1 ⟨x,v,rfl,hres,hg⟩
 have HC1:Hid (BAt w1 w.heap.size [.string ByteArray.empty,.bool false,.string ByteArray.empty] 379):=HC0.grown hg (by simp;omega)
 have HG1:Hid (w.grownBy w1 (some R.b)):=Zf HG0.out hg
 clear hg
 by_cases hk2:(hd ts).kind=2
 ·rw[ZeE hk2]at hres
  obtain⟨rfl,⟨k1,hk1⟩,hx⟩:=hres.out
  have HK1:Hid (RK w1 R k1 ts.tail):=hk1
  have HX:Hid (bl x=(hd ts).txt):=hx
  clear hres hk1 hx
  go_wp2_with fail
  refine(ZdO HK1.out).mono ?_
  rintro e w2 ⟨⟨kd,at_,tx,tv⟩,rfl,ht,hb2⟩
  have HC2:=hid (HC1.below hb2)
  have HG2:Hid (w.grownBy w2 (some R.b)):=Zf HG1.out (Zu hb2)
  have HK2:Hid (RK w2 R k1 ts.tail):=HK1.below hb2
  clear hb2
  go_wp2_with fail
  refine Zn fun W1 hW1=>?_
  have hb1:Below w2.heap.size w2 W1:=by rw[hW1];exact Zbal
  have HS1:Hid (BAt W1 w2.heap.size [.int .i64 kd,.int .i64 at_,.string tx,.int .i64 tv] 167):=hid (by rw[hW1];exact Go.Deep.blk_alloc_new _ _)
  have HCW:=hid (HC2.below hb1)
  have HGW:Hid (w.grownBy W1 (some R.b)):=Zf HG2.out (Zu hb1)
  have HKW:Hid (RK W1 R k1 ts.tail):=HK2.below hb1
  clear hb1 hW1
  refine(ZeS ht.out HKW.wf.head.1 HKW.wf.head.2.2 ⟨#[61]⟩ (by decide) (by decide) W1).mono ?_
  rintro e w3 ⟨rfl,hb3⟩
  have HS3:=hid (HS1.below hb3)
  have HC3:=hid (HCW.below hb3)
  have HG3:Hid (w.grownBy w3 (some R.b)):=Zf HGW.out (Zu hb3)
  have HK3:Hid (RK w3 R k1 ts.tail):=HKW.below hb3
  clear hb3 HS1 HCW HGW HKW
  by_cases hA:isT [61] (hd ts.tail)=true
  ·rw[show isT (bl ⟨#[61]⟩) (hd ts.tail)=true from hA]
   have htx:tx=⟨#[61]⟩:=Zc9 (ht.2.2.1.trans (Zf1 hA))
   subst htx
   have HD:Hid (¬((hd ts.tail).kind=0∨(hd ts.tail).kind=5)):=ZdD hA
   have HXP:Hid (ZS ts=bnd (ZH 3 ts.tail.tail) fun b r=>.ok (((hd ts).txt,b,false),r)):=hid (by unfold ZS;rw[ZeE hk2];show bnd (Zd5 ts.tail) _=_;unfold Zd5;rw[if_neg (by rw[Zei hA (by decide)];decide)];unfold Zp;rw[if_pos hA];rfl)
   have HK4:=HK3
   have HG4:=HG3
   have HC4:=HC3
   have HS4:=HS3
   clear HK3 HG3 HC3 HS3
   clear hA
   obtain⟨rc0,rc1,rfz,_⟩:=HK4.rd.all
   have hlt:=HK4.lt
   have hln:=HK4.len
   go_wp2_with fail
   refine Zn fun W4 hW4=>?_
   have HK5:Hid (RK W4 R (k1+1) ts.tail.tail):=hid (by rw[hW4];exact HK4.step HD.out)
   have HG5:Hid (w.grownBy W4 (some R.b)):=hid (by rw[hW4];exact Zo HG4.out (Or.inl rfl) _)
   have HC5:Hid (BAt W4 w.heap.size [.string ByteArray.empty,.bool false,.string ByteArray.empty] 379):=hid (by rw[hW4];exact HC4.other (by show w.heap.size≠R.b;omega) _)
   have HS5:Hid (BAt W4 w2.heap.size [.int .i64 kd,.int .i64 at_,.string ⟨#[61]⟩,.int .i64 tv] 167):=hid (by rw[hW4];exact HS4.other (by show w2.heap.size≠R.b;have:=HG2.size;omega) _)
   clear hW4 rc0 rc1 rfz
   refine(ZdO HK5.out).mono ?_
   rintro e w5 ⟨⟨kd2,at2,tx2,tv2⟩,rfl,ht2,hb5⟩
   have HC6:=hid (HC5.below hb5)
   have HS6:=hid (HS5.below hb5)
   have HG6:Hid (w.grownBy w5 (some R.b)):=Zf HG5.out (Zu hb5)
   have HK6:Hid (RK w5 R (k1+1) ts.tail.tail):=HK5.below hb5
   clear hb5 HK5 HG5 HC5 HS5
   go_upto_region 9 with fail
   refine ZK fun W6 hW6=>?_
   have hb6:Below w5.heap.size w5 W6:=by rw[hW6];exact Zbal
   have HT7:Hid (BAt W6 w5.heap.size [.int .i64 kd2,.int .i64 at2,.string tx2,.int .i64 tv2] 167):=hid (by rw[hW6];exact Go.Deep.blk_alloc_new _ _)
   have HC7:=hid (HC6.below hb6)
   have HS7:=hid (HS6.below hb6)
   have HG7:Hid (w.grownBy W6 (some R.b)):=Zf HG6.out (Zu hb6)
   have HK7:Hid (RK W6 R (k1+1) ts.tail.tail):=HK6.below hb6
   have hz5:R.b<w5.heap.size:=by have:=HG6.size;omega
   clear hW6 hb6 HC6 HS6 HK6 HG6
   have t0:=HT7.cell 0
   simp only[List.getElem?_cons_zero]at t0
   by_cases hk3:(hd ts.tail.tail).kind=3
   ·have hkd:kd2=2:=by have:=ht2.1;rw[hk3]at this;exact this
    subst hkd
    have HXC:Hid (ZS ts=.ok (((hd ts).txt,(hd ts.tail.tail).txt,false),ts.tail.tail.tail)):=hid (by rw[HXP.out,ZeE hk3];rfl)
    have HTX:Hid (bl tx2=(hd ts.tail.tail).txt):=ht2.2.2.1
    obtain⟨rc0,rc1,rfz,_⟩:=HK7.rd.all
    have hlt2:=HK7.lt
    go_upto_region 12 with fail
    refine ZK fun W8 hW8=>?_
    have HK8:Hid (RK W8 R (k1+1+1) ts.tail.tail.tail):=hid (by rw[hW8];exact HK7.step (by omega))
    have HG8:Hid (w.grownBy W8 (some R.b)):=hid (by rw[hW8];exact Zo HG7.out (Or.inl rfl) _)
    have HC8:Hid (BAt W8 w.heap.size [.string ByteArray.empty,.bool false,.string ByteArray.empty] 379):=hid (by rw[hW8];exact HC7.other (by show w.heap.size≠R.b;omega) _)
    have HS8:Hid (BAt W8 w2.heap.size [.int .i64 kd,.int .i64 at_,.string ⟨#[61]⟩,.int .i64 tv] 167):=hid (by rw[hW8];exact HS7.other (by show w2.heap.size≠R.b;have:=HG2.size;omega) _)
    have HT8:Hid (BAt W8 w5.heap.size [.int .i64 2,.int .i64 at2,.string tx2,.int .i64 tv2] 167):=hid (by rw[hW8];exact HT7.other (by show w5.heap.size≠R.b;omega) _)
    clear hW8 rc0 rc1 rfz t0
    have f0:=HC8.frozen 0
    have f1:=HC8.frozen 1
    have f2:=HC8.frozen 2
    have c0:=HC8.cell 0
    have c1:=HC8.cell 1
    have c2:=HC8.cell 2
    have d2:=HS8.cell 2
    have e2:=HT8.cell 2
    simp only[Zget]at c0 c1 c2 d2 e2
    go_wp2
    change bodyPost _ _ _ _ _ (set3 W8 w.heap.size (.string x) (.bool false) (.string tx2))
    have s:=Zb7 HC8.out (x:=.string x) (y:=.bool false) (z:=.string tx2)
    have s0:=s.cell 0
    have s1:=s.cell 1
    have s2:=s.cell 2
    simp only[Zget]at s0 s1 s2
    have HKX:Hid (RK (set3 W8 w.heap.size (.string x) (.bool false) (.string tx2)) R (k1+1+1) ts.tail.tail.tail):=hid (RK.fresh H.out HK8.out (Nat.le_refl _) (fun j hj=>ZmA _ _ _ _ _ hj))
    have HGX:Hid (w.grownBy (set3 W8 w.heap.size (.string x) (.bool false) (.string tx2)) (some R.b)):=Zeo HG8.out (Nat.le_refl _) _ _ _
    generalize set3 W8 w.heap.size (.string x) (.bool false) (.string tx2)=WX at *
    exact bodyPost_ret (v:=.tuple #[.agg #[.string x,.bool false,.string tx2],.nilIface]) (by simp[results,Tryz.results240,go_sem,s0,s1,s2]) rfl ⟨_,_,_,_,rfl,by rw[HXC.out];exact⟨rfl,⟨_,HKX.out⟩,HX.out,HTX.out,rfl⟩,HGX.out⟩
   ·have hkd:((kd2:Int) != 2)=true:=by
     rw[bne_iff_ne];intro e
     exact hk3 ((Zen HK7.wf.head.2.2).2.2.1.1 (by have:=ht2.1;simp only at this;omega))
    have HPE:Hid (ZS ts=.error (2,(hd ts.tail.tail).at_)):=hid (by rw[HXP.out,ZeV hk3];rfl)
    go_wp2_with fail
    refine(Zey HK7.out).mono ?_
    rintro e wE ⟨v,rfl,HE,hbE⟩
    obtain⟨fa,rfl⟩:=HE.shape
    have HCE:=hid (HC7.below hbE)
    have HGE:Hid (w.grownBy wE (some R.b)):=Zf HG7.out (Zu hbE)
    clear hbE
    have f0:=HCE.frozen 0
    have f1:=HCE.frozen 1
    have f2:=HCE.frozen 2
    have c0:=HCE.cell 0
    have c1:=HCE.cell 1
    have c2:=HCE.cell 2
    simp only[Zget]at c0 c1 c2
    go_wp2
    change bodyPost _ _ _ _ _ (set3 wE w.heap.size (.string ⟨#[]⟩) (.bool false) (.string ⟨#[]⟩))
    have s:=Zb7 HCE.out (x:=.string ⟨#[]⟩) (y:=.bool false) (z:=.string ⟨#[]⟩)
    have s0:=s.cell 0
    have s1:=s.cell 1
    have s2:=s.cell 2
    simp only[Zget]at s0 s1 s2
    have HE2:Hid (Z6 (set3 wE w.heap.size (.string ⟨#[]⟩) (.bool false) (.string ⟨#[]⟩)) R (2,(hd ts.tail.tail).at_) (.iface 115 (.pointer (some ⟨fa,0,none⟩)))):=HE.set3 HCE.out (by decide) _ _ _
    have HGX:Hid (w.grownBy (set3 wE w.heap.size (.string ⟨#[]⟩) (.bool false) (.string ⟨#[]⟩)) (some R.b)):=Zeo HGE.out (Nat.le_refl _) _ _ _
    generalize set3 wE w.heap.size (.string ⟨#[]⟩) (.bool false) (.string ⟨#[]⟩)=WX at *
    exact bodyPost_ret (v:=.tuple #[.agg #[.string ⟨#[]⟩,.bool false,.string ⟨#[]⟩],.iface 115 (.pointer (some ⟨fa,0,none⟩))]) (by simp[results,Tryz.results240,go_sem,s0,s1,s2]) rfl ⟨_,_,_,_,rfl,by rw[HPE.out];exact HE2,HGX.out⟩
  ·rw[show isT (bl ⟨#[61]⟩) (hd ts.tail)=false from Bool.eq_false_iff.2 hA]
   have d0:=HS3.cell 0
   have d1:=HS3.cell 1
   have d2:=HS3.cell 2
   have d3:=HS3.cell 3
   simp only[Zget]at d0 d1 d2 d3
   go_wp2_with fail
   clear d0 d1 d2 d3
   refine(ZeS ht.out HK3.wf.head.1 HK3.wf.head.2.2 ⟨#[33,61]⟩ (by decide) (by decide) w3).mono ?_
   rintro e w4 ⟨rfl,hb4⟩
   have HS4:=hid (HS3.below hb4)
   have HC4:=hid (HC3.below hb4)
   have HG4:Hid (w.grownBy w4 (some R.b)):=Zf HG3.out (Zu hb4)
   have HK4:Hid (RK w4 R k1 ts.tail):=HK3.below hb4
   clear hb4 HS3 HC3 HG3 HK3
   by_cases hB:isT [33,61] (hd ts.tail)=true
   ·rw[show isT (bl ⟨#[33,61]⟩) (hd ts.tail)=true from hB]
    have htx:tx=⟨#[33,61]⟩:=Zc9 (ht.2.2.1.trans (Zf1 hB))
    subst htx
    have HD:Hid (¬((hd ts.tail).kind=0∨(hd ts.tail).kind=5)):=ZdD hB
    have HXP:Hid (ZS ts=bnd (ZH 3 ts.tail.tail) fun b r=>.ok (((hd ts).txt,b,true),r)):=hid (by unfold ZS;rw[ZeE hk2];show bnd (Zd5 ts.tail) _=_;unfold Zd5;rw[if_pos hB];rfl)
    clear hA hB
    obtain⟨rc0,rc1,rfz,_⟩:=HK4.rd.all
    have hlt:=HK4.lt
    have hln:=HK4.len
    go_wp2_with fail
    refine Zn fun W4 hW4=>?_
    have HK5:Hid (RK W4 R (k1+1) ts.tail.tail):=hid (by rw[hW4];exact HK4.step HD.out)
    have HG5:Hid (w.grownBy W4 (some R.b)):=hid (by rw[hW4];exact Zo HG4.out (Or.inl rfl) _)
    have HC5:Hid (BAt W4 w.heap.size [.string ByteArray.empty,.bool false,.string ByteArray.empty] 379):=hid (by rw[hW4];exact HC4.other (by show w.heap.size≠R.b;omega) _)
    have HS5:Hid (BAt W4 w2.heap.size [.int .i64 kd,.int .i64 at_,.string ⟨#[33,61]⟩,.int .i64 tv] 167):=hid (by rw[hW4];exact HS4.other (by show w2.heap.size≠R.b;have:=HG2.size;omega) _)
    clear hW4 rc0 rc1 rfz
    refine(ZdO HK5.out).mono ?_
    rintro e w5 ⟨⟨kd2,at2,tx2,tv2⟩,rfl,ht2,hb5⟩
    have HC6:=hid (HC5.below hb5)
    have HS6:=hid (HS5.below hb5)
    have HG6:Hid (w.grownBy w5 (some R.b)):=Zf HG5.out (Zu hb5)
    have HK6:Hid (RK w5 R (k1+1) ts.tail.tail):=HK5.below hb5
    clear hb5 HK5 HG5 HC5 HS5
    go_upto_region 9 with fail
    refine ZK fun W6 hW6=>?_
    have hb6:Below w5.heap.size w5 W6:=by rw[hW6];exact Zbal
    have HT7:Hid (BAt W6 w5.heap.size [.int .i64 kd2,.int .i64 at2,.string tx2,.int .i64 tv2] 167):=hid (by rw[hW6];exact Go.Deep.blk_alloc_new _ _)
    have HC7:=hid (HC6.below hb6)
    have HS7:=hid (HS6.below hb6)
    have HG7:Hid (w.grownBy W6 (some R.b)):=Zf HG6.out (Zu hb6)
    have HK7:Hid (RK W6 R (k1+1) ts.tail.tail):=HK6.below hb6
    have hz5:R.b<w5.heap.size:=by have:=HG6.size;omega
    clear hW6 hb6 HC6 HS6 HK6 HG6
    have t0:=HT7.cell 0
    simp only[List.getElem?_cons_zero]at t0
    by_cases hk3:(hd ts.tail.tail).kind=3
    ·have hkd:kd2=2:=by have:=ht2.1;rw[hk3]at this;exact this
     subst hkd
     have HXC:Hid (ZS ts=.ok (((hd ts).txt,(hd ts.tail.tail).txt,true),ts.tail.tail.tail)):=hid (by rw[HXP.out,ZeE hk3];rfl)
     have HTX:Hid (bl tx2=(hd ts.tail.tail).txt):=ht2.2.2.1
     obtain⟨rc0,rc1,rfz,_⟩:=HK7.rd.all
     have hlt2:=HK7.lt
     go_upto_region 12 with fail
     refine ZK fun W8 hW8=>?_
     have HK8:Hid (RK W8 R (k1+1+1) ts.tail.tail.tail):=hid (by rw[hW8];exact HK7.step (by omega))
     have HG8:Hid (w.grownBy W8 (some R.b)):=hid (by rw[hW8];exact Zo HG7.out (Or.inl rfl) _)
     have HC8:Hid (BAt W8 w.heap.size [.string ByteArray.empty,.bool false,.string ByteArray.empty] 379):=hid (by rw[hW8];exact HC7.other (by show w.heap.size≠R.b;omega) _)
     have HS8:Hid (BAt W8 w2.heap.size [.int .i64 kd,.int .i64 at_,.string ⟨#[33,61]⟩,.int .i64 tv] 167):=hid (by rw[hW8];exact HS7.other (by show w2.heap.size≠R.b;have:=HG2.size;omega) _)
     have HT8:Hid (BAt W8 w5.heap.size [.int .i64 2,.int .i64 at2,.string tx2,.int .i64 tv2] 167):=hid (by rw[hW8];exact HT7.other (by show w5.heap.size≠R.b;omega) _)
     clear hW8 rc0 rc1 rfz t0
     have f0:=HC8.frozen 0
     have f1:=HC8.frozen 1
     have f2:=HC8.frozen 2
     have c0:=HC8.cell 0
     have c1:=HC8.cell 1
     have c2:=HC8.cell 2
     have d2:=HS8.cell 2
     have e2:=HT8.cell 2
     simp only[Zget]at c0 c1 c2 d2 e2
     go_wp2
     change bodyPost _ _ _ _ _ (set3 W8 w.heap.size (.string x) (.bool true) (.string tx2))
     have s:=Zb7 HC8.out (x:=.string x) (y:=.bool true) (z:=.string tx2)
     have s0:=s.cell 0
     have s1:=s.cell 1
     have s2:=s.cell 2
     simp only[Zget]at s0 s1 s2
     have HKX:Hid (RK (set3 W8 w.heap.size (.string x) (.bool true) (.string tx2)) R (k1+1+1) ts.tail.tail.tail):=hid (RK.fresh H.out HK8.out (Nat.le_refl _) (fun j hj=>ZmA _ _ _ _ _ hj))
     have HGX:Hid (w.grownBy (set3 W8 w.heap.size (.string x) (.bool true) (.string tx2)) (some R.b)):=Zeo HG8.out (Nat.le_refl _) _ _ _
     generalize set3 W8 w.heap.size (.string x) (.bool true) (.string tx2)=WX at *
     exact bodyPost_ret (v:=.tuple #[.agg #[.string x,.bool true,.string tx2],.nilIface]) (by simp[results,Tryz.results240,go_sem,s0,s1,s2]) rfl ⟨_,_,_,_,rfl,by rw[HXC.out];exact⟨rfl,⟨_,HKX.out⟩,HX.out,HTX.out,rfl⟩,HGX.out⟩
    ·have hkd:((kd2:Int) != 2)=true:=by
      rw[bne_iff_ne];intro e
      exact hk3 ((Zen HK7.wf.head.2.2).2.2.1.1 (by have:=ht2.1;simp only at this;omega))
     have HPE:Hid (ZS ts=.error (2,(hd ts.tail.tail).at_)):=hid (by rw[HXP.out,ZeV hk3];rfl)
     go_wp2_with fail
     refine(Zey HK7.out).mono ?_
     rintro e wE ⟨v,rfl,HE,hbE⟩
     obtain⟨fa,rfl⟩:=HE.shape
     have HCE:=hid (HC7.below hbE)
     have HGE:Hid (w.grownBy wE (some R.b)):=Zf HG7.out (Zu hbE)
     clear hbE
     have f0:=HCE.frozen 0
     have f1:=HCE.frozen 1
     have f2:=HCE.frozen 2
     have c0:=HCE.cell 0
     have c1:=HCE.cell 1
     have c2:=HCE.cell 2
     simp only[Zget]at c0 c1 c2
     go_wp2
     change bodyPost _ _ _ _ _ (set3 wE w.heap.size (.string ⟨#[]⟩) (.bool false) (.string ⟨#[]⟩))
     have s:=Zb7 HCE.out (x:=.string ⟨#[]⟩) (y:=.bool false) (z:=.string ⟨#[]⟩)
     have s0:=s.cell 0
     have s1:=s.cell 1
     have s2:=s.cell 2
     simp only[Zget]at s0 s1 s2
     have HE2:Hid (Z6 (set3 wE w.heap.size (.string ⟨#[]⟩) (.bool false) (.string ⟨#[]⟩)) R (2,(hd ts.tail.tail).at_) (.iface 115 (.pointer (some ⟨fa,0,none⟩)))):=HE.set3 HCE.out (by decide) _ _ _
     have HGX:Hid (w.grownBy (set3 wE w.heap.size (.string ⟨#[]⟩) (.bool false) (.string ⟨#[]⟩)) (some R.b)):=Zeo HGE.out (Nat.le_refl _) _ _ _
     generalize set3 wE w.heap.size (.string ⟨#[]⟩) (.bool false) (.string ⟨#[]⟩)=WX at *
     exact bodyPost_ret (v:=.tuple #[.agg #[.string ⟨#[]⟩,.bool false,.string ⟨#[]⟩],.iface 115 (.pointer (some ⟨fa,0,none⟩))]) (by simp[results,Tryz.results240,go_sem,s0,s1,s2]) rfl ⟨_,_,_,_,rfl,by rw[HPE.out];exact HE2,HGX.out⟩
   ·rw[show isT (bl ⟨#[33,61]⟩) (hd ts.tail)=false from Bool.eq_false_iff.2 hB]
    have HPE:Hid (ZS ts=.error (2,(hd ts.tail).at_)):=hid (by unfold ZS;rw[ZeE hk2];show bnd (Zd5 ts.tail) _=_;unfold Zd5;rw[if_neg hB];unfold Zp;rw[if_neg hA];rfl)
    clear hA hB
    go_wp2_with fail
    refine(Zey HK4.out).mono ?_
    rintro e wE ⟨v,rfl,HE,hbE⟩
    obtain⟨fa,rfl⟩:=HE.shape
    have HCE:=hid (HC4.below hbE)
    have HGE:Hid (w.grownBy wE (some R.b)):=Zf HG4.out (Zu hbE)
    clear hbE
    have f0:=HCE.frozen 0
    have f1:=HCE.frozen 1
    have f2:=HCE.frozen 2
    have c0:=HCE.cell 0
    have c1:=HCE.cell 1
    have c2:=HCE.cell 2
    simp only[Zget]at c0 c1 c2
    go_wp2
    change bodyPost _ _ _ _ _ (set3 wE w.heap.size (.string ⟨#[]⟩) (.bool false) (.string ⟨#[]⟩))
    have s:=Zb7 HCE.out (x:=.string ⟨#[]⟩) (y:=.bool false) (z:=.string ⟨#[]⟩)
    have s0:=s.cell 0
    have s1:=s.cell 1
    have s2:=s.cell 2
    simp only[Zget]at s0 s1 s2
    have HE2:Hid (Z6 (set3 wE w.heap.size (.string ⟨#[]⟩) (.bool false) (.string ⟨#[]⟩)) R (2,(hd ts.tail).at_) (.iface 115 (.pointer (some ⟨fa,0,none⟩)))):=HE.set3 HCE.out (by decide) _ _ _
    have HGX:Hid (w.grownBy (set3 wE w.heap.size (.string ⟨#[]⟩) (.bool false) (.string ⟨#[]⟩)) (some R.b)):=Zeo HGE.out (Nat.le_refl _) _ _ _
    generalize set3 wE w.heap.size (.string ⟨#[]⟩) (.bool false) (.string ⟨#[]⟩)=WX at *
    exact bodyPost_ret (v:=.tuple #[.agg #[.string ⟨#[]⟩,.bool false,.string ⟨#[]⟩],.iface 115 (.pointer (some ⟨fa,0,none⟩))]) (by simp[results,Tryz.results240,go_sem,s0,s1,s2]) rfl ⟨_,_,_,_,rfl,by rw[HPE.out];exact HE2,HGX.out⟩
 ·rw[ZeV hk2]at hres
  obtain⟨fa,rfl⟩:=hres.shape
  have HE:Hid (Z6 w1 R (2,(hd ts).at_) _):=hres.out
  have HP:Hid (ZS ts=.error (2,(hd ts).at_)):=hid (by unfold ZS;rw[ZeV hk2];rfl)
  have f0:=HC1.frozen 0
  have f1:=HC1.frozen 1
  have f2:=HC1.frozen 2
  have c0:=HC1.cell 0
  have c1:=HC1.cell 1
  have c2:=HC1.cell 2
  simp only[Zget]at c0 c1 c2
  clear hres
  go_wp2
  change bodyPost _ _ _ _ _ (set3 w1 w.heap.size (.string ⟨#[]⟩) (.bool false) (.string ⟨#[]⟩))
  have s:=Zb7 HC1.out (x:=.string ⟨#[]⟩) (y:=.bool false) (z:=.string ⟨#[]⟩)
  have s0:=s.cell 0
  have s1:=s.cell 1
  have s2:=s.cell 2
  simp only[Zget]at s0 s1 s2
  have HE2:Hid (Z6 (set3 w1 w.heap.size (.string ⟨#[]⟩) (.bool false) (.string ⟨#[]⟩)) R (2,(hd ts).at_) (.iface 115 (.pointer (some ⟨fa,0,none⟩)))):=HE.set3 HC1.out (by decide) _ _ _
  have HG2:Hid (w.grownBy (set3 w1 w.heap.size (.string ⟨#[]⟩) (.bool false) (.string ⟨#[]⟩)) (some R.b)):=Zeo HG1.out (Nat.le_refl _) _ _ _
  generalize set3 w1 w.heap.size (.string ⟨#[]⟩) (.bool false) (.string ⟨#[]⟩)=WX at *
  exact bodyPost_ret (v:=.tuple #[.agg #[.string ⟨#[]⟩,.bool false,.string ⟨#[]⟩],.iface 115 (.pointer (some ⟨fa,0,none⟩))]) (by simp[results,Tryz.results240,go_sem,s0,s1,s2]) rfl ⟨_,_,_,_,rfl,by rw[HP.out];exact HE2,HG2.out⟩
theorem Zq{α β:Type}{x:Out α}{f:α->List Tok->Out β}{z:β×List Tok}(h:bnd x f=.ok z):∃a t,x=.ok (a,t)/\f a t=.ok z:=by
 cases x with
 | error e=>cases h
 | ok y=>exact⟨y.1,y.2,rfl,h⟩
theorem ZiG{α:Type}{item:List Tok->Out α}{close:List UInt8}(hl:∀t z,item t=.ok z->z.2.length+1<=t.length):∀(n:Nat) (acc:List α) (ts:List Tok) (z:List α×List Tok),ZM item close n acc ts=.ok z->z.2.length+1<=ts.length
 | 0,_,_,_,h=>by cases h
 | n + 1, acc, ts, z, h => by
   have h':(if isT close (hd ts)then .ok (acc,ts.tail)else bnd (if acc.isEmpty then .ok ((),ts)else Zp [44] ts) fun _ r=>bnd (item r) fun a r=>ZM item close n (acc++[a]) r)=.ok z:=h
   cases hc:isT close (hd ts)
   · rw[hc]at h'
     obtain⟨_,t1,h1,h2⟩:=Zq (x:=if acc.isEmpty then .ok ((),ts)else Zp [44] ts) h'
     obtain⟨a,t2,h3,h4⟩:=Zq h2
     have l1:t1.length<=ts.length:=by
       split at h1
       · injection h1 with h1;injection h1 with _ h1;subst h1;exact Nat.le_refl _
       · have:=Zd6 h1;simp at this;omega
     have l2:=hl t1 _ h3
     have l3:=ZiG hl n _ _ _ h4
     simp at l2
     omega
   · rw[hc]at h'
     injection h' with h';subst h'
     have:=Zqc hc
     show ts.tail.length+1<=ts.length
     omega
theorem Zqr(k:Nat)(hk:k≠0):∀t z,ZH k t=.ok z->z.2.length+1<=t.length:=fun _ _ h=>Nat.le_of_eq (Zg3 hk h).1
theorem Zmt{ts:List Tok}{z:Nd×List Tok}(h:selP ts=.ok z):z.2.length+1<=ts.length:=by
 unfold selP at h
 obtain⟨a,t,h1,h2⟩:=Zq h
 have l1:t.length+1=ts.length:=by
  unfold Zel at h1
  split at h1
  ·cases h1
  ·exact(Zg3 (by decide) h1).1
 split at h2
 ·obtain⟨cs,t2,h3,h4⟩:=Zq h2
  have l2:=ZiG Zj3 _ _ _ _ h3
  injection h4 with h4;subst h4
  have:t.tail.length<=t.length:=by simp
  simp at l2 ⊢
  omega
 ·injection h2 with h2;subst h2;simp;omega
theorem Zv2{o:Nat}{ts:List Tok}{z:Tr×List Tok}(h:winP o ts=.ok z):z.2.length+1<=ts.length:=by
 unfold winP at h
 obtain⟨_,t1,h1,h⟩:=Zq h
 obtain⟨_,t2,h2,h⟩:=Zq h
 obtain⟨_,t3,h3,h⟩:=Zq h
 obtain⟨_,t4,h4,h⟩:=Zq h
 obtain⟨_,t5,h5,h⟩:=Zq h
 obtain⟨_,t6,h6,h⟩:=Zq h
 injection h with h;subst h
 have a1:=Zd6 h1
 have a2:=Zmt h2
 have a3:=Zd6 h3
 have a4:t4.length<=t3.length:=by
  unfold ZdK at h4
  split at h4
  ·injection h4 with h4;injection h4 with _ h4;subst h4;simp
  ·cases h4
 have a5:=Zd6 h5
 have a6:=Zd6 h6
 simp at a1 a2 a3 a5 a6 ⊢
 omega
theorem Znf{rec:Nat->List Tok->Nat->Out Tr}(hr:∀lv t d z,rec lv t d=.ok z->z.2.length+1<=t.length){ts:List Tok}{deep:Nat}{z:Tr×List Tok}(h:ZbU rec ts deep=.ok z):z.2.length+1<=ts.length:=by
 unfold ZbU at h
 obtain⟨_,t1,h1,h⟩:=Zq h
 obtain⟨_,t2,h2,h⟩:=Zq h
 obtain⟨_,t3,h3,h⟩:=Zq h
 injection h with h;subst h
 have a1:=Zd6 h1
 have a2:=hr _ _ _ _ h2
 have a3:=Zd6 h3
 simp at a1 a2 a3 ⊢
 omega
theorem ZpH{rec:Nat->List Tok->Nat->Out Tr}(hr:∀lv t d z,rec lv t d=.ok z->z.2.length+1<=t.length){g:Nat}{ts:List Tok}{deep:Nat}{z:Tr×List Tok}(h:Zcw rec g ts deep=.ok z):z.2.length+1<=ts.length:=by
 unfold Zcw at h
 obtain⟨_,t1,h1,h⟩:=Zq h
 obtain⟨_,t2,h2,h⟩:=Zq h
 obtain⟨_,t3,h3,h⟩:=Zq h
 obtain⟨_,t4,h4,h⟩:=Zq h
 injection h with h;subst h
 have a1:=Zd6 h1
 have a2:=Zd6 h2
 have a3:=ZiG (Zqr 2 (by decide)) _ _ _ _ h3
 have a4:=Znf hr h4
 simp at a1 a2 a3 a4 ⊢
 omega
theorem Zp1{rec:Nat->List Tok->Nat->Out Tr}(hr:∀lv t d z,rec lv t d=.ok z->z.2.length+1<=t.length){ts:List Tok}{deep:Nat}{z:Tr×List Tok}(h:Zce rec ts deep=.ok z):z.2.length+1<=ts.length:=by
 unfold Zce at h
 have ht:ts.tail.length<=ts.length:=by simp
 split at h
 ·rename_i hk
  injection h with h;subst h
  cases ts with
  | nil=>exact absurd hk (by decide)
  | cons t r=>exact Nat.le_refl _
 ·split at h
  ·obtain⟨_,t1,h1,h⟩:=Zq h
   injection h with h;subst h
   have:=hr _ _ _ _ h1
   simp at this ⊢
   omega
  ·split at h
   ·exact Znf hr h
   ·split at h
    ·have:=ZpH hr h;omega
    ·split at h
     ·have:=Zv2 h;omega
     ·obtain⟨_,t1,h1,h⟩:=Zq h
      injection h with h;subst h
      exact Zmt h1
theorem Zfv:∀(n:Nat) (m:Bool) (lv:Nat) (a:Tr) (ts:List Tok) (deep:Nat) (z:Tr×List Tok),Zz n m lv a ts deep=.ok z->z.2.length+(if m then 0 else 1)<=ts.length
 | 0,_,_,_,_,_,_,h=>by cases h
 | n + 1, false, lv, a, ts, deep, z, h => by
   have hr:∀lv t d z,Zz n false lv .nil t d=.ok z->z.2.length+1<=t.length:=fun lv t d z h=>Zfv n false lv .nil t d z h
   unfold Zz at h
   split at h
   · unfold Zcj at h
     split at h
     · split at h
       · cases h
       · exact Zp1 hr h
     · cases h
   · obtain⟨b,t1,h1,h2⟩:=Zq h
     have l1:=hr _ _ _ _ h1
     have l2:=Zfv n true lv b t1 deep z h2
     simp at l1 l2 ⊢
     omega
 | n + 1, true, lv, a, ts, deep, z, h => by
   unfold Zz at h
   split at h
   · injection h with h;subst h;simp
   · obtain⟨b,t1,h1,h2⟩:=Zq h
     have l1:=Zfv n false _ _ _ _ _ h1
     have l2:=Zfv n true lv _ t1 deep z h2
     simp at l1 l2 ⊢
     omega
theorem Tryz.infoStr:(Tryz.prog.info? 9).map (fun i=>(i.zero,i.size,i.bytes))=some (some (.string ByteArray.empty),1,16):=by kernel_rfl
end Go.Proofs.YtkodhpilkaihjaaGreatDoor

/- Parts. -/
import Derived.Test.YtkodhpilkaihjaaGreatDoorV07
import Derived.Test.YtkodhpilkaihjaaGreatDoorV05
import Derived.Test.YtkodhpilkaihjaaGreatDoorV06
import Derived.Test.YtkodhpilkaihjaaGreatDoorV04
namespace Go.Proofs.YtkodhpilkaihjaaGreatDoor
open Go.RowKit LS
theorem ErrIs.grown{w w':World}{R:RS}{e:Nat×Nat}{v:Value}(h:ErrIs w R e v){b:Nat}(hg:w.grownBy w' (some b)){c:Array Value}{t:TypeId}{fr:Nat×Nat}(hq:w.heap[b]?=some (.cells c t fr))(ht:t≠119):ErrIs w' R e v:=by
 rcases h with ⟨h1,h2⟩|⟨h1,h2⟩
 ·exact Or.inl ⟨h1,h2.grown hg hq ht⟩
 ·exact Or.inr ⟨h1,h2.grown hg hq ht⟩
def BAt(w:World)(a:Nat)(c:List Value)(t:TypeId):Prop:=w.heap[a]?=some (.cells ⟨c⟩ t (0,0))
theorem BAt.cell{w:World}{a:Nat}{c:List Value}{t:TypeId}(h:BAt w a c t)(i:Nat):w.cell? ⟨a,i,none⟩=c[i]?:=by
 unfold BAt at h;simp[World.cell?,h]
theorem BAt.frozen{w:World}{a:Nat}{c:List Value}{t:TypeId}(h:BAt w a c t)(i:Nat):w.frozen? ⟨a,i,none⟩=false:=by
 unfold BAt at h;simp[World.frozen?,h]
theorem BAt.lt{w:World}{a:Nat}{c:List Value}{t:TypeId}(h:BAt w a c t):a<w.heap.size:=(Array.getElem?_eq_some_iff.1 h).1
theorem BAt.grown{w w':World}{a:Nat}{c:List Value}{t:TypeId}{r:Option Nat}(h:BAt w a c t)(hg:w.grownBy w' r)(hn:some a≠r):BAt w' a c t:=(hg.block a h.lt hn).trans h
theorem BAt.below{w w':World}{a:Nat}{c:List Value}{t:TypeId}(h:BAt w a c t)(hb:Below w.heap.size w w'):BAt w' a c t:=(hb.block a h.lt).trans h
theorem BAt.other{w:World}{a:Nat}{c:List Value}{t:TypeId}(h:BAt w a c t){p:Addr}(hp:a≠p.block)(v:Value):BAt (w.setCell p v) a c t:=(Go.Deep.blk_setCell_other _ _ _ _ hp).trans h
def set3(w:World)(a:Nat)(x y z:Value):World:=((w.setCell ⟨a,0,none⟩ x).setCell ⟨a,1,none⟩ y).setCell ⟨a,2,none⟩ z
theorem set3_at{w:World}{a:Nat}{p q r x y z:Value}{t:TypeId}(h:BAt w a [p,q,r] t):BAt (set3 w a x y z) a [x,y,z] t:=by
 unfold BAt at h
 unfold BAt set3
 simp only[World.setCell,Array.getElem?_modify,h,if_true,Option.map_some];rfl
theorem set3_other(w:World)(a:Nat)(x y z:Value){b:Nat}(hb:b≠a):(set3 w a x y z).heap[b]?=w.heap[b]?:=by
 unfold set3
 rw[Go.Deep.blk_setCell_other _ _ _ _ hb,Go.Deep.blk_setCell_other _ _ _ _ hb,Go.Deep.blk_setCell_other _ _ _ _ hb]
theorem set3_grown{w0 w:World}{a b:Nat}(h:w0.grownBy w (some b))(ha:w0.heap.size≤a)(x y z:Value):w0.grownBy (set3 w a x y z) (some b):=
 grown_set (grown_set (grown_set h (Or.inr ha) _) (Or.inr ha) _) (Or.inr ha) _
theorem RK.fresh{w0 w w':World}{R:RS}{k0 k:Nat}{ts0 ts:List Tok}(h0:RK w0 R k0 ts0)(h:RK w R k ts){a:Nat}(ha:w0.heap.size≤a)(hg:∀j,j≠a→w'.heap[j]?=w.heap[j]?):RK w' R k ts:=by
 refine h.blocks (fun j _ hj=>hg j ?_)
 have h1:=(Array.getElem?_eq_some_iff.1 h0.rd.cells).1
 have h2:=own_lt h0.rd.own
 have h3:=World.block_lt_of_cell? _ _ h0.sy
 have h4:=World.block_lt_of_cell? _ _ h0.dp
 have h3':1<w0.heap.size:=h3
 have h4':2<w0.heap.size:=h4
 rcases hj with rfl|rfl|rfl|rfl <;> omega
theorem ErrIs.set3{w:World}{R:RS}{e:Nat×Nat}{v:Value}(h:ErrIs w R e v){a:Nat}{c:List Value}{t:TypeId}(hq:BAt w a c t)(ht:t≠119)(x y z:Value):ErrIs (set3 w a x y z) R e v:=by
 refine h.grown (b:=a) ?_ hq ht
 exact grown_set (grown_set (grown_set (grown_refl w (some a)) (Or.inl rfl) _) (Or.inl rfl) _) (Or.inl rfl) _
theorem kindP_pos{k:Nat}{ts:List Tok}(h:(hd ts).kind=k):kindP k ts=.ok ((hd ts).txt,ts.tail):=if_pos h
theorem kindP_neg{k:Nat}{ts:List Tok}(h:¬(hd ts).kind=k):kindP k ts=.error (2,(hd ts).at_):=if_neg h
theorem isT_txt{s:List UInt8}{t:Tok}(h:isT s t=true):t.txt=s:=by
 unfold isT at h
 rw[Bool.and_eq_true,beq_iff_eq]at h
 exact h.2
theorem isT_other{s u:List UInt8}{t:Tok}(h:isT s t=true)(hne:s≠u):isT u t=false:=by
 have:=isT_txt h
 unfold isT
 rw[this,beq_eq_false_iff_ne.2 hne,Bool.and_false]
theorem wp_gen{P:Program}{c:Code}{Q:Exit→Act→World→Prop}{a:Act}{w:World}(h:∀W,W=w→Code.wp P c Q a W):Code.wp P c Q a w:=h w rfl
theorem calls_gen{P:Program}{f:FuncId}{args:Array Value}{w:World}{Q:Ending→World→Prop}(h:∀W,W=w→Calls P f args W Q):Calls P f args w Q:=h w rfl
set_option maxRecDepth 100000 in
set_option maxHeartbeats 4000000 in
theorem condition_t{w:World}{R:RS}{k:Nat}{ts:List Tok}(h:RK w R k ts) :
  Calls Tryz.prog 240 #[.pointer (some ⟨R.b,0,none⟩)] w fun e w'=>∃(x:ByteArray) (ng:Bool) (y:ByteArray) (v:Value),e=.returned (.tuple #[.agg #[.string x,.bool ng,.string y],v])∧Hid (Res R (fun _ c=>bl x=c.1∧bl y=c.2.1∧ng=c.2.2) w' (condP ts) v)∧w.grownBy w' (some R.b):=by
 have H:Hid (RK w R k ts):=h
 have hbl:R.b<w.heap.size:=(Array.getElem?_eq_some_iff.1 h.rd.cells).1
 clear h
 go_enter Tryz.func240,Tryz.ntmps240
 go_wp2_with fail
 refine calls_gen fun W0 hW0=>?_
 have HK0:Hid (RK W0 R k ts):=hid (by rw[hW0];exact H.out.below ((Below.refl _ _).alloc (Nat.le_refl _) _))
 have HC0:Hid (BAt W0 w.heap.size [.string ByteArray.empty,.bool false,.string ByteArray.empty] 379):=hid (by rw[hW0];exact Go.Deep.blk_alloc_new _ _)
 have HG0:Hid (w.grownBy W0 (some R.b)):=hid (by rw[hW0];exact grown_alloc (grown_refl _ _) _)
 clear hW0
 refine(takeName_t HK0.out).mono ?_
 rintro e w1 ⟨x,v,rfl,hres,hg⟩
 have HC1:Hid (BAt w1 w.heap.size [.string ByteArray.empty,.bool false,.string ByteArray.empty] 379):=HC0.out.grown hg (by simp;omega)
 have HG1:Hid (w.grownBy w1 (some R.b)):=grown_trans HG0.out hg
 clear hg
 by_cases hk2:(hd ts).kind=2
 ·rw[kindP_pos hk2]at hres
  obtain⟨rfl,⟨k1,hk1⟩,hx⟩:=hres.out
  have HK1:Hid (RK w1 R k1 ts.tail):=hk1
  have HX:Hid (bl x=(hd ts).txt):=hx
  clear hres hk1 hx
  go_wp2_with fail
  refine(token_t HK1.out).mono ?_
  rintro e w2 ⟨⟨kd,at_,tx,tv⟩,rfl,ht,hb2⟩
  have HC2:=hid (HC1.out.below hb2)
  have HG2:Hid (w.grownBy w2 (some R.b)):=grown_trans HG1.out (grown_of_below hb2)
  have HK2:Hid (RK w2 R k1 ts.tail):=HK1.out.below hb2
  clear hb2
  go_wp2_with fail
  refine calls_gen fun W1 hW1=>?_
  have hb1:Below w2.heap.size w2 W1:=by rw[hW1];exact(Below.refl _ _).alloc (Nat.le_refl _) _
  have HS1:Hid (BAt W1 w2.heap.size [.int .i64 kd,.int .i64 at_,.string tx,.int .i64 tv] 167):=hid (by rw[hW1];exact Go.Deep.blk_alloc_new _ _)
  have HCW:=hid (HC2.out.below hb1)
  have HGW:Hid (w.grownBy W1 (some R.b)):=grown_trans HG2.out (grown_of_below hb1)
  have HKW:Hid (RK W1 R k1 ts.tail):=HK2.out.below hb1
  clear hb1 hW1
  refine(isMark_t ht.out HKW.out.wf.head.1 HKW.out.wf.head.2.2 ⟨#[61]⟩ (by decide) (by decide) W1).mono ?_
  rintro e w3 ⟨rfl,hb3⟩
  have HS3:=hid (HS1.out.below hb3)
  have HC3:=hid (HCW.out.below hb3)
  have HG3:Hid (w.grownBy w3 (some R.b)):=grown_trans HGW.out (grown_of_below hb3)
  have HK3:Hid (RK w3 R k1 ts.tail):=HKW.out.below hb3
  clear hb3 HS1 HCW HGW HKW
  by_cases hA:isT [61] (hd ts.tail)=true
  ·rw[show isT (bl ⟨#[61]⟩) (hd ts.tail)=true from hA]
   have htx:tx=⟨#[61]⟩:=bl_inj (ht.out.2.2.1.trans (isT_txt hA))
   subst htx
   have HD:Hid (¬((hd ts.tail).kind=0∨(hd ts.tail).kind=5)):=isT_dead hA
   have HXP:Hid (condP ts=bnd (kindP 3 ts.tail.tail) fun b r=>.ok (((hd ts).txt,b,false),r)):=hid (by unfold condP;rw[kindP_pos hk2];show bnd (signP ts.tail) _=_;unfold signP;rw[if_neg (by rw[isT_other hA (by decide)];decide)];unfold takeP;rw[if_pos hA];rfl)
   have HK4:=HK3
   have HG4:=HG3
   have HC4:=HC3
   have HS4:=HS3
   clear HK3 HG3 HC3 HS3
   clear hA
   obtain⟨rc0,rc1,rfz,_⟩:=HK4.out.rd.all
   have hlt:=HK4.out.lt
   have hln:=HK4.out.len
   go_wp2_with fail
   refine calls_gen fun W4 hW4=>?_
   have HK5:Hid (RK W4 R (k1+1) ts.tail.tail):=hid (by rw[hW4];exact HK4.out.step HD.out)
   have HG5:Hid (w.grownBy W4 (some R.b)):=hid (by rw[hW4];exact grown_set HG4.out (Or.inl rfl) _)
   have HC5:Hid (BAt W4 w.heap.size [.string ByteArray.empty,.bool false,.string ByteArray.empty] 379):=hid (by rw[hW4];exact HC4.out.other (by show w.heap.size≠R.b;omega) _)
   have HS5:Hid (BAt W4 w2.heap.size [.int .i64 kd,.int .i64 at_,.string ⟨#[61]⟩,.int .i64 tv] 167):=hid (by rw[hW4];exact HS4.out.other (by show w2.heap.size≠R.b;have:=HG2.out.size;omega) _)
   clear hW4 rc0 rc1 rfz
   refine(token_t HK5.out).mono ?_
   rintro e w5 ⟨⟨kd2,at2,tx2,tv2⟩,rfl,ht2,hb5⟩
   have HC6:=hid (HC5.out.below hb5)
   have HS6:=hid (HS5.out.below hb5)
   have HG6:Hid (w.grownBy w5 (some R.b)):=grown_trans HG5.out (grown_of_below hb5)
   have HK6:Hid (RK w5 R (k1+1) ts.tail.tail):=HK5.out.below hb5
   clear hb5 HK5 HG5 HC5 HS5
   go_upto_region 9 with fail
   refine wp_gen fun W6 hW6=>?_
   have hb6:Below w5.heap.size w5 W6:=by rw[hW6];exact(Below.refl _ _).alloc (Nat.le_refl _) _
   have HT7:Hid (BAt W6 w5.heap.size [.int .i64 kd2,.int .i64 at2,.string tx2,.int .i64 tv2] 167):=hid (by rw[hW6];exact Go.Deep.blk_alloc_new _ _)
   have HC7:=hid (HC6.out.below hb6)
   have HS7:=hid (HS6.out.below hb6)
   have HG7:Hid (w.grownBy W6 (some R.b)):=grown_trans HG6.out (grown_of_below hb6)
   have HK7:Hid (RK W6 R (k1+1) ts.tail.tail):=HK6.out.below hb6
   have hz5:R.b<w5.heap.size:=by have:=HG6.out.size;omega
   clear hW6 hb6 HC6 HS6 HK6 HG6
   have t0:=HT7.out.cell 0
   simp only[List.getElem?_cons_zero]at t0
   by_cases hk3:(hd ts.tail.tail).kind=3
   ·have hkd:kd2=2:=by have:=ht2.out.1;rw[hk3]at this;exact this
    subst hkd
    have HXC:Hid (condP ts=.ok (((hd ts).txt,(hd ts.tail.tail).txt,false),ts.tail.tail.tail)):=hid (by rw[HXP.out,kindP_pos hk3];rfl)
    have HTX:Hid (bl tx2=(hd ts.tail.tail).txt):=ht2.out.2.2.1
    obtain⟨rc0,rc1,rfz,_⟩:=HK7.out.rd.all
    have hlt2:=HK7.out.lt
    go_upto_region 12 with fail
    refine wp_gen fun W8 hW8=>?_
    have HK8:Hid (RK W8 R (k1+1+1) ts.tail.tail.tail):=hid (by rw[hW8];exact HK7.out.step (by omega))
    have HG8:Hid (w.grownBy W8 (some R.b)):=hid (by rw[hW8];exact grown_set HG7.out (Or.inl rfl) _)
    have HC8:Hid (BAt W8 w.heap.size [.string ByteArray.empty,.bool false,.string ByteArray.empty] 379):=hid (by rw[hW8];exact HC7.out.other (by show w.heap.size≠R.b;omega) _)
    have HS8:Hid (BAt W8 w2.heap.size [.int .i64 kd,.int .i64 at_,.string ⟨#[61]⟩,.int .i64 tv] 167):=hid (by rw[hW8];exact HS7.out.other (by show w2.heap.size≠R.b;have:=HG2.out.size;omega) _)
    have HT8:Hid (BAt W8 w5.heap.size [.int .i64 2,.int .i64 at2,.string tx2,.int .i64 tv2] 167):=hid (by rw[hW8];exact HT7.out.other (by show w5.heap.size≠R.b;omega) _)
    clear hW8 rc0 rc1 rfz t0
    have f0:=HC8.out.frozen 0
    have f1:=HC8.out.frozen 1
    have f2:=HC8.out.frozen 2
    have c0:=HC8.out.cell 0
    have c1:=HC8.out.cell 1
    have c2:=HC8.out.cell 2
    have d2:=HS8.out.cell 2
    have e2:=HT8.out.cell 2
    simp only[List.getElem?_cons_zero,List.getElem?_cons_succ]at c0 c1 c2 d2 e2
    go_wp2
    change bodyPost _ _ _ _ _ (set3 W8 w.heap.size (.string x) (.bool false) (.string tx2))
    have s:=set3_at HC8.out (x:=.string x) (y:=.bool false) (z:=.string tx2)
    have s0:=s.cell 0
    have s1:=s.cell 1
    have s2:=s.cell 2
    simp only[List.getElem?_cons_zero,List.getElem?_cons_succ]at s0 s1 s2
    have HKX:Hid (RK (set3 W8 w.heap.size (.string x) (.bool false) (.string tx2)) R (k1+1+1) ts.tail.tail.tail):=hid (RK.fresh H.out HK8.out (Nat.le_refl _) (fun j hj=>set3_other _ _ _ _ _ hj))
    have HGX:Hid (w.grownBy (set3 W8 w.heap.size (.string x) (.bool false) (.string tx2)) (some R.b)):=set3_grown HG8.out (Nat.le_refl _) _ _ _
    generalize set3 W8 w.heap.size (.string x) (.bool false) (.string tx2)=WX at *
    exact bodyPost_ret (v:=.tuple #[.agg #[.string x,.bool false,.string tx2],.nilIface]) (by simp[results,Tryz.results240,go_sem,s0,s1,s2]) rfl ⟨_,_,_,_,rfl,by rw[HXC.out];exact⟨rfl,⟨_,HKX.out⟩,HX.out,HTX.out,rfl⟩,HGX.out⟩
   ·have hkd:((kd2:Int) != 2)=true:=by
     rw[bne_iff_ne];intro e
     exact hk3 ((pk_mark HK7.out.wf.head.2.2).2.2.1.1 (by have:=ht2.out.1;simp only at this;omega))
    have HPE:Hid (condP ts=.error (2,(hd ts.tail.tail).at_)):=hid (by rw[HXP.out,kindP_neg hk3];rfl)
    go_wp2_with fail
    refine(cannotStand_t HK7.out).mono ?_
    rintro e wE ⟨v,rfl,HE,hbE⟩
    obtain⟨fa,rfl⟩:=HE.out.shape
    have HCE:=hid (HC7.out.below hbE)
    have HGE:Hid (w.grownBy wE (some R.b)):=grown_trans HG7.out (grown_of_below hbE)
    clear hbE
    have f0:=HCE.out.frozen 0
    have f1:=HCE.out.frozen 1
    have f2:=HCE.out.frozen 2
    have c0:=HCE.out.cell 0
    have c1:=HCE.out.cell 1
    have c2:=HCE.out.cell 2
    simp only[List.getElem?_cons_zero,List.getElem?_cons_succ]at c0 c1 c2
    go_wp2
    change bodyPost _ _ _ _ _ (set3 wE w.heap.size (.string ⟨#[]⟩) (.bool false) (.string ⟨#[]⟩))
    have s:=set3_at HCE.out (x:=.string ⟨#[]⟩) (y:=.bool false) (z:=.string ⟨#[]⟩)
    have s0:=s.cell 0
    have s1:=s.cell 1
    have s2:=s.cell 2
    simp only[List.getElem?_cons_zero,List.getElem?_cons_succ]at s0 s1 s2
    have HE2:Hid (ErrIs (set3 wE w.heap.size (.string ⟨#[]⟩) (.bool false) (.string ⟨#[]⟩)) R (2,(hd ts.tail.tail).at_) (.iface 115 (.pointer (some ⟨fa,0,none⟩)))):=HE.out.set3 HCE.out (by decide) _ _ _
    have HGX:Hid (w.grownBy (set3 wE w.heap.size (.string ⟨#[]⟩) (.bool false) (.string ⟨#[]⟩)) (some R.b)):=set3_grown HGE.out (Nat.le_refl _) _ _ _
    generalize set3 wE w.heap.size (.string ⟨#[]⟩) (.bool false) (.string ⟨#[]⟩)=WX at *
    exact bodyPost_ret (v:=.tuple #[.agg #[.string ⟨#[]⟩,.bool false,.string ⟨#[]⟩],.iface 115 (.pointer (some ⟨fa,0,none⟩))]) (by simp[results,Tryz.results240,go_sem,s0,s1,s2]) rfl ⟨_,_,_,_,rfl,by rw[HPE.out];exact HE2,HGX.out⟩
  ·rw[show isT (bl ⟨#[61]⟩) (hd ts.tail)=false from Bool.eq_false_iff.2 hA]
   have d0:=HS3.out.cell 0
   have d1:=HS3.out.cell 1
   have d2:=HS3.out.cell 2
   have d3:=HS3.out.cell 3
   simp only[List.getElem?_cons_zero,List.getElem?_cons_succ]at d0 d1 d2 d3
   go_wp2_with fail
   clear d0 d1 d2 d3
   refine(isMark_t ht.out HK3.out.wf.head.1 HK3.out.wf.head.2.2 ⟨#[33,61]⟩ (by decide) (by decide) w3).mono ?_
   rintro e w4 ⟨rfl,hb4⟩
   have HS4:=hid (HS3.out.below hb4)
   have HC4:=hid (HC3.out.below hb4)
   have HG4:Hid (w.grownBy w4 (some R.b)):=grown_trans HG3.out (grown_of_below hb4)
   have HK4:Hid (RK w4 R k1 ts.tail):=HK3.out.below hb4
   clear hb4 HS3 HC3 HG3 HK3
   by_cases hB:isT [33,61] (hd ts.tail)=true
   ·rw[show isT (bl ⟨#[33,61]⟩) (hd ts.tail)=true from hB]
    have htx:tx=⟨#[33,61]⟩:=bl_inj (ht.out.2.2.1.trans (isT_txt hB))
    subst htx
    have HD:Hid (¬((hd ts.tail).kind=0∨(hd ts.tail).kind=5)):=isT_dead hB
    have HXP:Hid (condP ts=bnd (kindP 3 ts.tail.tail) fun b r=>.ok (((hd ts).txt,b,true),r)):=hid (by unfold condP;rw[kindP_pos hk2];show bnd (signP ts.tail) _=_;unfold signP;rw[if_pos hB];rfl)
    clear hA hB
    obtain⟨rc0,rc1,rfz,_⟩:=HK4.out.rd.all
    have hlt:=HK4.out.lt
    have hln:=HK4.out.len
    go_wp2_with fail
    refine calls_gen fun W4 hW4=>?_
    have HK5:Hid (RK W4 R (k1+1) ts.tail.tail):=hid (by rw[hW4];exact HK4.out.step HD.out)
    have HG5:Hid (w.grownBy W4 (some R.b)):=hid (by rw[hW4];exact grown_set HG4.out (Or.inl rfl) _)
    have HC5:Hid (BAt W4 w.heap.size [.string ByteArray.empty,.bool false,.string ByteArray.empty] 379):=hid (by rw[hW4];exact HC4.out.other (by show w.heap.size≠R.b;omega) _)
    have HS5:Hid (BAt W4 w2.heap.size [.int .i64 kd,.int .i64 at_,.string ⟨#[33,61]⟩,.int .i64 tv] 167):=hid (by rw[hW4];exact HS4.out.other (by show w2.heap.size≠R.b;have:=HG2.out.size;omega) _)
    clear hW4 rc0 rc1 rfz
    refine(token_t HK5.out).mono ?_
    rintro e w5 ⟨⟨kd2,at2,tx2,tv2⟩,rfl,ht2,hb5⟩
    have HC6:=hid (HC5.out.below hb5)
    have HS6:=hid (HS5.out.below hb5)
    have HG6:Hid (w.grownBy w5 (some R.b)):=grown_trans HG5.out (grown_of_below hb5)
    have HK6:Hid (RK w5 R (k1+1) ts.tail.tail):=HK5.out.below hb5
    clear hb5 HK5 HG5 HC5 HS5
    go_upto_region 9 with fail
    refine wp_gen fun W6 hW6=>?_
    have hb6:Below w5.heap.size w5 W6:=by rw[hW6];exact(Below.refl _ _).alloc (Nat.le_refl _) _
    have HT7:Hid (BAt W6 w5.heap.size [.int .i64 kd2,.int .i64 at2,.string tx2,.int .i64 tv2] 167):=hid (by rw[hW6];exact Go.Deep.blk_alloc_new _ _)
    have HC7:=hid (HC6.out.below hb6)
    have HS7:=hid (HS6.out.below hb6)
    have HG7:Hid (w.grownBy W6 (some R.b)):=grown_trans HG6.out (grown_of_below hb6)
    have HK7:Hid (RK W6 R (k1+1) ts.tail.tail):=HK6.out.below hb6
    have hz5:R.b<w5.heap.size:=by have:=HG6.out.size;omega
    clear hW6 hb6 HC6 HS6 HK6 HG6
    have t0:=HT7.out.cell 0
    simp only[List.getElem?_cons_zero]at t0
    by_cases hk3:(hd ts.tail.tail).kind=3
    ·have hkd:kd2=2:=by have:=ht2.out.1;rw[hk3]at this;exact this
     subst hkd
     have HXC:Hid (condP ts=.ok (((hd ts).txt,(hd ts.tail.tail).txt,true),ts.tail.tail.tail)):=hid (by rw[HXP.out,kindP_pos hk3];rfl)
     have HTX:Hid (bl tx2=(hd ts.tail.tail).txt):=ht2.out.2.2.1
     obtain⟨rc0,rc1,rfz,_⟩:=HK7.out.rd.all
     have hlt2:=HK7.out.lt
     go_upto_region 12 with fail
     refine wp_gen fun W8 hW8=>?_
     have HK8:Hid (RK W8 R (k1+1+1) ts.tail.tail.tail):=hid (by rw[hW8];exact HK7.out.step (by omega))
     have HG8:Hid (w.grownBy W8 (some R.b)):=hid (by rw[hW8];exact grown_set HG7.out (Or.inl rfl) _)
     have HC8:Hid (BAt W8 w.heap.size [.string ByteArray.empty,.bool false,.string ByteArray.empty] 379):=hid (by rw[hW8];exact HC7.out.other (by show w.heap.size≠R.b;omega) _)
     have HS8:Hid (BAt W8 w2.heap.size [.int .i64 kd,.int .i64 at_,.string ⟨#[33,61]⟩,.int .i64 tv] 167):=hid (by rw[hW8];exact HS7.out.other (by show w2.heap.size≠R.b;have:=HG2.out.size;omega) _)
     have HT8:Hid (BAt W8 w5.heap.size [.int .i64 2,.int .i64 at2,.string tx2,.int .i64 tv2] 167):=hid (by rw[hW8];exact HT7.out.other (by show w5.heap.size≠R.b;omega) _)
     clear hW8 rc0 rc1 rfz t0
     have f0:=HC8.out.frozen 0
     have f1:=HC8.out.frozen 1
     have f2:=HC8.out.frozen 2
     have c0:=HC8.out.cell 0
     have c1:=HC8.out.cell 1
     have c2:=HC8.out.cell 2
     have d2:=HS8.out.cell 2
     have e2:=HT8.out.cell 2
     simp only[List.getElem?_cons_zero,List.getElem?_cons_succ]at c0 c1 c2 d2 e2
     go_wp2
     change bodyPost _ _ _ _ _ (set3 W8 w.heap.size (.string x) (.bool true) (.string tx2))
     have s:=set3_at HC8.out (x:=.string x) (y:=.bool true) (z:=.string tx2)
     have s0:=s.cell 0
     have s1:=s.cell 1
     have s2:=s.cell 2
     simp only[List.getElem?_cons_zero,List.getElem?_cons_succ]at s0 s1 s2
     have HKX:Hid (RK (set3 W8 w.heap.size (.string x) (.bool true) (.string tx2)) R (k1+1+1) ts.tail.tail.tail):=hid (RK.fresh H.out HK8.out (Nat.le_refl _) (fun j hj=>set3_other _ _ _ _ _ hj))
     have HGX:Hid (w.grownBy (set3 W8 w.heap.size (.string x) (.bool true) (.string tx2)) (some R.b)):=set3_grown HG8.out (Nat.le_refl _) _ _ _
     generalize set3 W8 w.heap.size (.string x) (.bool true) (.string tx2)=WX at *
     exact bodyPost_ret (v:=.tuple #[.agg #[.string x,.bool true,.string tx2],.nilIface]) (by simp[results,Tryz.results240,go_sem,s0,s1,s2]) rfl ⟨_,_,_,_,rfl,by rw[HXC.out];exact⟨rfl,⟨_,HKX.out⟩,HX.out,HTX.out,rfl⟩,HGX.out⟩
    ·have hkd:((kd2:Int) != 2)=true:=by
      rw[bne_iff_ne];intro e
      exact hk3 ((pk_mark HK7.out.wf.head.2.2).2.2.1.1 (by have:=ht2.out.1;simp only at this;omega))
     have HPE:Hid (condP ts=.error (2,(hd ts.tail.tail).at_)):=hid (by rw[HXP.out,kindP_neg hk3];rfl)
     go_wp2_with fail
     refine(cannotStand_t HK7.out).mono ?_
     rintro e wE ⟨v,rfl,HE,hbE⟩
     obtain⟨fa,rfl⟩:=HE.out.shape
     have HCE:=hid (HC7.out.below hbE)
     have HGE:Hid (w.grownBy wE (some R.b)):=grown_trans HG7.out (grown_of_below hbE)
     clear hbE
     have f0:=HCE.out.frozen 0
     have f1:=HCE.out.frozen 1
     have f2:=HCE.out.frozen 2
     have c0:=HCE.out.cell 0
     have c1:=HCE.out.cell 1
     have c2:=HCE.out.cell 2
     simp only[List.getElem?_cons_zero,List.getElem?_cons_succ]at c0 c1 c2
     go_wp2
     change bodyPost _ _ _ _ _ (set3 wE w.heap.size (.string ⟨#[]⟩) (.bool false) (.string ⟨#[]⟩))
     have s:=set3_at HCE.out (x:=.string ⟨#[]⟩) (y:=.bool false) (z:=.string ⟨#[]⟩)
     have s0:=s.cell 0
     have s1:=s.cell 1
     have s2:=s.cell 2
     simp only[List.getElem?_cons_zero,List.getElem?_cons_succ]at s0 s1 s2
     have HE2:Hid (ErrIs (set3 wE w.heap.size (.string ⟨#[]⟩) (.bool false) (.string ⟨#[]⟩)) R (2,(hd ts.tail.tail).at_) (.iface 115 (.pointer (some ⟨fa,0,none⟩)))):=HE.out.set3 HCE.out (by decide) _ _ _
     have HGX:Hid (w.grownBy (set3 wE w.heap.size (.string ⟨#[]⟩) (.bool false) (.string ⟨#[]⟩)) (some R.b)):=set3_grown HGE.out (Nat.le_refl _) _ _ _
     generalize set3 wE w.heap.size (.string ⟨#[]⟩) (.bool false) (.string ⟨#[]⟩)=WX at *
     exact bodyPost_ret (v:=.tuple #[.agg #[.string ⟨#[]⟩,.bool false,.string ⟨#[]⟩],.iface 115 (.pointer (some ⟨fa,0,none⟩))]) (by simp[results,Tryz.results240,go_sem,s0,s1,s2]) rfl ⟨_,_,_,_,rfl,by rw[HPE.out];exact HE2,HGX.out⟩
   ·rw[show isT (bl ⟨#[33,61]⟩) (hd ts.tail)=false from Bool.eq_false_iff.2 hB]
    have HPE:Hid (condP ts=.error (2,(hd ts.tail).at_)):=hid (by unfold condP;rw[kindP_pos hk2];show bnd (signP ts.tail) _=_;unfold signP;rw[if_neg hB];unfold takeP;rw[if_neg hA];rfl)
    clear hA hB
    go_wp2_with fail
    refine(cannotStand_t HK4.out).mono ?_
    rintro e wE ⟨v,rfl,HE,hbE⟩
    obtain⟨fa,rfl⟩:=HE.out.shape
    have HCE:=hid (HC4.out.below hbE)
    have HGE:Hid (w.grownBy wE (some R.b)):=grown_trans HG4.out (grown_of_below hbE)
    clear hbE
    have f0:=HCE.out.frozen 0
    have f1:=HCE.out.frozen 1
    have f2:=HCE.out.frozen 2
    have c0:=HCE.out.cell 0
    have c1:=HCE.out.cell 1
    have c2:=HCE.out.cell 2
    simp only[List.getElem?_cons_zero,List.getElem?_cons_succ]at c0 c1 c2
    go_wp2
    change bodyPost _ _ _ _ _ (set3 wE w.heap.size (.string ⟨#[]⟩) (.bool false) (.string ⟨#[]⟩))
    have s:=set3_at HCE.out (x:=.string ⟨#[]⟩) (y:=.bool false) (z:=.string ⟨#[]⟩)
    have s0:=s.cell 0
    have s1:=s.cell 1
    have s2:=s.cell 2
    simp only[List.getElem?_cons_zero,List.getElem?_cons_succ]at s0 s1 s2
    have HE2:Hid (ErrIs (set3 wE w.heap.size (.string ⟨#[]⟩) (.bool false) (.string ⟨#[]⟩)) R (2,(hd ts.tail).at_) (.iface 115 (.pointer (some ⟨fa,0,none⟩)))):=HE.out.set3 HCE.out (by decide) _ _ _
    have HGX:Hid (w.grownBy (set3 wE w.heap.size (.string ⟨#[]⟩) (.bool false) (.string ⟨#[]⟩)) (some R.b)):=set3_grown HGE.out (Nat.le_refl _) _ _ _
    generalize set3 wE w.heap.size (.string ⟨#[]⟩) (.bool false) (.string ⟨#[]⟩)=WX at *
    exact bodyPost_ret (v:=.tuple #[.agg #[.string ⟨#[]⟩,.bool false,.string ⟨#[]⟩],.iface 115 (.pointer (some ⟨fa,0,none⟩))]) (by simp[results,Tryz.results240,go_sem,s0,s1,s2]) rfl ⟨_,_,_,_,rfl,by rw[HPE.out];exact HE2,HGX.out⟩
 ·rw[kindP_neg hk2]at hres
  obtain⟨fa,rfl⟩:=hres.out.shape
  have HE:Hid (ErrIs w1 R (2,(hd ts).at_) _):=hres.out
  have HP:Hid (condP ts=.error (2,(hd ts).at_)):=hid (by unfold condP;rw[kindP_neg hk2];rfl)
  have f0:=HC1.out.frozen 0
  have f1:=HC1.out.frozen 1
  have f2:=HC1.out.frozen 2
  have c0:=HC1.out.cell 0
  have c1:=HC1.out.cell 1
  have c2:=HC1.out.cell 2
  simp only[List.getElem?_cons_zero,List.getElem?_cons_succ]at c0 c1 c2
  clear hres
  go_wp2
  change bodyPost _ _ _ _ _ (set3 w1 w.heap.size (.string ⟨#[]⟩) (.bool false) (.string ⟨#[]⟩))
  have s:=set3_at HC1.out (x:=.string ⟨#[]⟩) (y:=.bool false) (z:=.string ⟨#[]⟩)
  have s0:=s.cell 0
  have s1:=s.cell 1
  have s2:=s.cell 2
  simp only[List.getElem?_cons_zero,List.getElem?_cons_succ]at s0 s1 s2
  have HE2:Hid (ErrIs (set3 w1 w.heap.size (.string ⟨#[]⟩) (.bool false) (.string ⟨#[]⟩)) R (2,(hd ts).at_) (.iface 115 (.pointer (some ⟨fa,0,none⟩)))):=HE.out.set3 HC1.out (by decide) _ _ _
  have HG2:Hid (w.grownBy (set3 w1 w.heap.size (.string ⟨#[]⟩) (.bool false) (.string ⟨#[]⟩)) (some R.b)):=set3_grown HG1.out (Nat.le_refl _) _ _ _
  generalize set3 w1 w.heap.size (.string ⟨#[]⟩) (.bool false) (.string ⟨#[]⟩)=WX at *
  exact bodyPost_ret (v:=.tuple #[.agg #[.string ⟨#[]⟩,.bool false,.string ⟨#[]⟩],.iface 115 (.pointer (some ⟨fa,0,none⟩))]) (by simp[results,Tryz.results240,go_sem,s0,s1,s2]) rfl ⟨_,_,_,_,rfl,by rw[HP.out];exact HE2,HG2.out⟩
theorem bnd_ok{α β:Type}{x:Out α}{f:α→List Tok→Out β}{z:β×List Tok}(h:bnd x f=.ok z):∃a t,x=.ok (a,t)∧f a t=.ok z:=by
 cases x with
 | error e=>cases h
 | ok y=>exact⟨y.1,y.2,rfl,h⟩
theorem listP_len{α:Type}{item:List Tok→Out α}{close:List UInt8}(hl:∀t z,item t=.ok z→z.2.length+1≤t.length):∀(n:Nat) (acc:List α) (ts:List Tok) (z:List α×List Tok),listP item close n acc ts=.ok z→z.2.length+1≤ts.length
 | 0,_,_,_,h=>by cases h
 | n + 1, acc, ts, z, h => by
   have h':(if isT close (hd ts)then .ok (acc,ts.tail)else bnd (if acc.isEmpty then .ok ((),ts)else takeP [44] ts) fun _ r=>bnd (item r) fun a r=>listP item close n (acc++[a]) r)=.ok z:=h
   cases hc:isT close (hd ts)
   · rw[hc]at h'
     obtain⟨_,t1,h1,h2⟩:=bnd_ok (x:=if acc.isEmpty then .ok ((),ts)else takeP [44] ts) h'
     obtain⟨a,t2,h3,h4⟩:=bnd_ok h2
     have l1:t1.length≤ts.length:=by
       split at h1
       · injection h1 with h1;injection h1 with _ h1;subst h1;exact Nat.le_refl _
       · have:=takeP_len h1;simp at this;omega
     have l2:=hl t1 _ h3
     have l3:=listP_len hl n _ _ _ h4
     simp at l2
     omega
   · rw[hc]at h'
     injection h' with h';subst h'
     have:=isT_len hc
     show ts.tail.length+1≤ts.length
     omega
theorem kindP_le(k:Nat)(hk:k≠0):∀t z,kindP k t=.ok z→z.2.length+1≤t.length:=fun _ _ h=>Nat.le_of_eq (kindP_len hk h).1
theorem selP_len{ts:List Tok}{z:Nd×List Tok}(h:selP ts=.ok z):z.2.length+1≤ts.length:=by
 unfold selP at h
 obtain⟨a,t,h1,h2⟩:=bnd_ok h
 have l1:t.length+1=ts.length:=by
  unfold nameP at h1
  split at h1
  ·cases h1
  ·exact(kindP_len (by decide) h1).1
 split at h2
 ·obtain⟨cs,t2,h3,h4⟩:=bnd_ok h2
  have l2:=listP_len condP_len _ _ _ _ h3
  injection h4 with h4;subst h4
  have:t.tail.length≤t.length:=by simp
  simp at l2 ⊢
  omega
 ·injection h2 with h2;subst h2;simp;omega
theorem winP_len{o:Nat}{ts:List Tok}{z:Tr×List Tok}(h:winP o ts=.ok z):z.2.length+1≤ts.length:=by
 unfold winP at h
 obtain⟨_,t1,h1,h⟩:=bnd_ok h
 obtain⟨_,t2,h2,h⟩:=bnd_ok h
 obtain⟨_,t3,h3,h⟩:=bnd_ok h
 obtain⟨_,t4,h4,h⟩:=bnd_ok h
 obtain⟨_,t5,h5,h⟩:=bnd_ok h
 obtain⟨_,t6,h6,h⟩:=bnd_ok h
 injection h with h;subst h
 have a1:=takeP_len h1
 have a2:=selP_len h2
 have a3:=takeP_len h3
 have a4:t4.length≤t3.length:=by
  unfold sizeP at h4
  split at h4
  ·injection h4 with h4;injection h4 with _ h4;subst h4;simp
  ·cases h4
 have a5:=takeP_len h5
 have a6:=takeP_len h6
 simp at a1 a2 a3 a5 a6 ⊢
 omega
theorem withinP_len{rec:Nat→List Tok→Nat→Out Tr}(hr:∀lv t d z,rec lv t d=.ok z→z.2.length+1≤t.length){ts:List Tok}{deep:Nat}{z:Tr×List Tok}(h:withinP rec ts deep=.ok z):z.2.length+1≤ts.length:=by
 unfold withinP at h
 obtain⟨_,t1,h1,h⟩:=bnd_ok h
 obtain⟨_,t2,h2,h⟩:=bnd_ok h
 obtain⟨_,t3,h3,h⟩:=bnd_ok h
 injection h with h;subst h
 have a1:=takeP_len h1
 have a2:=hr _ _ _ _ h2
 have a3:=takeP_len h3
 simp at a1 a2 a3 ⊢
 omega
theorem groupP_len{rec:Nat→List Tok→Nat→Out Tr}(hr:∀lv t d z,rec lv t d=.ok z→z.2.length+1≤t.length){g:Nat}{ts:List Tok}{deep:Nat}{z:Tr×List Tok}(h:groupP rec g ts deep=.ok z):z.2.length+1≤ts.length:=by
 unfold groupP at h
 obtain⟨_,t1,h1,h⟩:=bnd_ok h
 obtain⟨_,t2,h2,h⟩:=bnd_ok h
 obtain⟨_,t3,h3,h⟩:=bnd_ok h
 obtain⟨_,t4,h4,h⟩:=bnd_ok h
 injection h with h;subst h
 have a1:=takeP_len h1
 have a2:=takeP_len h2
 have a3:=listP_len (kindP_le 2 (by decide)) _ _ _ _ h3
 have a4:=withinP_len hr h4
 simp at a1 a2 a3 a4 ⊢
 omega
theorem innerP_len{rec:Nat→List Tok→Nat→Out Tr}(hr:∀lv t d z,rec lv t d=.ok z→z.2.length+1≤t.length){ts:List Tok}{deep:Nat}{z:Tr×List Tok}(h:innerP rec ts deep=.ok z):z.2.length+1≤ts.length:=by
 unfold innerP at h
 have ht:ts.tail.length≤ts.length:=by simp
 split at h
 ·rename_i hk
  injection h with h;subst h
  cases ts with
  | nil=>exact absurd hk (by decide)
  | cons t r=>exact Nat.le_refl _
 ·split at h
  ·obtain⟨_,t1,h1,h⟩:=bnd_ok h
   injection h with h;subst h
   have:=hr _ _ _ _ h1
   simp at this ⊢
   omega
  ·split at h
   ·exact withinP_len hr h
   ·split at h
    ·have:=groupP_len hr h;omega
    ·split at h
     ·have:=winP_len h;omega
     ·obtain⟨_,t1,h1,h⟩:=bnd_ok h
      injection h with h;subst h
      exact selP_len h1
theorem parse_len:∀(n:Nat) (m:Bool) (lv:Nat) (a:Tr) (ts:List Tok) (deep:Nat) (z:Tr×List Tok),parse n m lv a ts deep=.ok z→z.2.length+(if m then 0 else 1)≤ts.length
 | 0,_,_,_,_,_,_,h=>by cases h
 | n + 1, false, lv, a, ts, deep, z, h => by
   have hr:∀lv t d z,parse n false lv .nil t d=.ok z→z.2.length+1≤t.length:=fun lv t d z h=>parse_len n false lv .nil t d z h
   unfold parse at h
   split at h
   · unfold factorP at h
     split at h
     · split at h
       · cases h
       · exact innerP_len hr h
     · cases h
   · obtain⟨b,t1,h1,h2⟩:=bnd_ok h
     have l1:=hr _ _ _ _ h1
     have l2:=parse_len n true lv b t1 deep z h2
     simp at l1 l2 ⊢
     omega
 | n + 1, true, lv, a, ts, deep, z, h => by
   unfold parse at h
   split at h
   · injection h with h;subst h;simp
   · obtain⟨b,t1,h1,h2⟩:=bnd_ok h
     have l1:=parse_len n false _ _ _ _ _ h1
     have l2:=parse_len n true lv _ t1 deep z h2
     simp at l1 l2 ⊢
     omega
def NamesAre(w:World)(base:Nat)(p:PV)(ns:List (List UInt8)):Prop:=∃bs:List ByteArray,w.ownsRow base 9 1 (.slice p.ba p.bn p.bc) bs.length (bs.map .string)∧bs.map bl=ns
def partIs(w:World)(nd:Nd)(p:PV):Prop:=p.k=nd.kind∧p.n=nd.n∧p.op=nd.op∧bl p.nm=nd.name∧CondsAre w 0 p nd.conds∧NamesAre w 0 p nd.by_
def cntT:Tr→Nat
 | .nil=>0
 | .node _ _ _ l r=>cntT l+cntT r+1
def Rep(w:World)(xs:List Value):Tr→Nat→Prop
 | .nil,_=>True
 | .node _ _ nd l r,i=>∃(p:PV) (a b:Nat),(xs.drop (i*8)).take 8=p.cells∧partIs w nd p∧p.a=a∧p.b=b∧a≤i∧b≤i∧Rep w xs l a∧Rep w xs r b
theorem cells_len(p:PV):p.cells.length=8:=rfl
theorem kept_row{w w':World}{b:Nat}{pv pv':Value}{q:QV}{n:Nat}{xs:List Value}(hq:QAt w b q)(hown:w.ownsRow 0 92 8 pv n xs)(hk:Kept b pv w pv' w')
  {base:Nat} {e:TypeId} {size:Nat} {v:Value} {m:Nat} {ys:List Value} (h:w.ownsRow base e size v m ys) (h1:239≠e) (h2:e≠92):w'.ownsRow base e size v m ys:=by
 refine own_same h (fun k hkk=>hk.block k (h.lt k hkk).2 ?_ ?_)
 ·rintro rfl
  exact own_ne_block h hq h1 hkk.symm
 ·rw[←hkk]
  rcases own_ne h hown h2 with h3|h3
  ·rw[h3]at hkk;cases hkk
  ·exact h3
theorem CondsAre.kept{w w':World}{b:Nat}{pv pv':Value}{q:QV}{n:Nat}{xs:List Value}(hq:QAt w b q)(hown:w.ownsRow 0 92 8 pv n xs)(hk:Kept b pv w pv' w'){base:Nat}{p:PV}{cs:List (List UInt8×List UInt8×Bool)}(h:CondsAre w base p cs):CondsAre w' base p cs:=by
 obtain⟨qs,h1,h2⟩:=h
 exact⟨qs,kept_row hq hown hk h1 (by decide) (by decide),h2⟩
theorem NamesAre.kept{w w':World}{b:Nat}{pv pv':Value}{q:QV}{n:Nat}{xs:List Value}(hq:QAt w b q)(hown:w.ownsRow 0 92 8 pv n xs)(hk:Kept b pv w pv' w'){base:Nat}{p:PV}{ns:List (List UInt8)}(h:NamesAre w base p ns):NamesAre w' base p ns:=by
 obtain⟨qs,h1,h2⟩:=h
 exact⟨qs,kept_row hq hown hk h1 (by decide) (by decide),h2⟩
theorem take8_append{xs ys:List Value}{i:Nat}{l:List Value}(h:(xs.drop (i*8)).take 8=l)(hl:l.length=8):((xs++ys).drop (i*8)).take 8=l:=by
 have h8:i*8+8≤xs.length:=by
  have:=congrArg List.length h
  rw[List.length_take,List.length_drop,hl]at this
  omega
 rw[List.drop_append_of_le_length (by omega),List.take_append_of_le_length (by rw[List.length_drop];omega)]
 exact h
theorem Rep.kept{w w':World}{b:Nat}{pv pv':Value}{q:QV}{n:Nat}{xs:List Value}(hq:QAt w b q)(hown:w.ownsRow 0 92 8 pv n xs)(hk:Kept b pv w pv' w')(ys:List Value):∀(t:Tr) (i:Nat),Rep w xs t i→Rep w' (xs++ys) t i
 | .nil,_,_=>trivial
 | .node _ _ nd l r, i, h => by
   obtain⟨p,a,c,h1,⟨g1,g2,g3,g4,g5,g6⟩,h3,h4,h5,h6,h7,h8⟩:=h
   exact⟨p,a,c,take8_append h1 (cells_len p),⟨g1,g2,g3,g4,g5.kept hq hown hk,g6.kept hq hown hk⟩,h3,h4,h5,h6,Rep.kept hq hown hk ys l a h7,Rep.kept hq hown hk ys r c h8⟩
theorem row_last{xs:List Value}{n:Nat}(h:xs.length=n*8)(p:PV):((xs++p.cells).drop (n*8)).take 8=p.cells:=by
 rw[←h,List.drop_left];rfl
set_option maxRecDepth 100000 in
set_option maxHeartbeats 2000000 in
theorem QErr.factor{w:World}{b:Nat}{pv:Value}{e p deep:Nat}(h:QErr w b pv e p deep) :
  Calls Tryz.prog 289 #[.pointer (some ⟨b,0,none⟩)] w fun r w'=>r=.returned (.int .i64 0)∧w'=w:=by
 obtain⟨q,h1,h2,h3,h4,h5,h6⟩:=h
 obtain⟨c0,c1,c2,c3,c4,c5,c6,c7,c8⟩:=h1.all
 have hne:((q.e:Int) != 0)=true:=by rw[bne_iff_ne];omega
 have H:Hid (QErr w b pv e p deep):=⟨q,h1,h2,h3,h4,h5,h6⟩
 clear h1 h2 h3 h4 h5 h6
 generalize hx1:((q.k:Int) == 1)=x1
 generalize hx2:((q.k:Int) == 2)=x2
 go_enter Tryz.func289,Tryz.ntmps289
 go_wp2_with fail
 refine(QErr.is H.out _).mono ?_
 rintro r w' ⟨rfl,rfl⟩
 go_wp2_with fail
 refine(QErr.is H.out _).mono ?_
 rintro r w' ⟨rfl,rfl⟩
 go_wp2_with fail
 refine(QErr.is H.out _).mono ?_
 rintro r w' ⟨rfl,rfl⟩
 go_wp2_with fail
 refine(QErr.is H.out _).mono ?_
 rintro r w' ⟨rfl,rfl⟩
 cases x1 <;> cases x2
 all_goals
  go_wp2_with fail
  refine(QErr.fail H.out _).mono ?_
  rintro r w' ⟨rfl,rfl⟩
  go_wp2
  go_ret
  exact⟨rfl,rfl⟩
set_option maxHeartbeats 2000000 in
theorem QErr.term{w:World}{b:Nat}{pv:Value}{e p deep:Nat}(h:QErr w b pv e p deep) :
  Calls Tryz.prog 263 #[.pointer (some ⟨b,0,none⟩)] w fun r w'=>r=.returned (.int .i64 0)∧w'=w:=by
 have H:Hid (QErr w b pv e p deep):=h
 clear h
 go_enter Tryz.func263,Tryz.ntmps263
 go_wp2_with fail
 refine(QErr.factor H.out).mono ?_
 rintro r w' ⟨rfl,rfl⟩
 go_wp2
 go_loop [3] (fun v=>v=.int .i64 0) (fun _=>0)
 case atStart=>rfl
 case round=>
  subst hrel
  go_wp2_with fail
  refine(QErr.is H.out _).mono ?_
  rintro r w' ⟨rfl,rfl⟩
  go_wp2_with fail
  refine(QErr.is H.out _).mono ?_
  rintro r w' ⟨rfl,rfl⟩
  go_wp2
  go_ret
  exact⟨rfl,rfl⟩
set_option maxHeartbeats 2000000 in
theorem QErr.sum{w:World}{b:Nat}{pv:Value}{e p deep:Nat}(h:QErr w b pv e p deep) :
  Calls Tryz.prog 228 #[.pointer (some ⟨b,0,none⟩)] w fun r w'=>r=.returned (.int .i64 0)∧w'=w:=by
 have H:Hid (QErr w b pv e p deep):=h
 clear h
 go_enter Tryz.func228,Tryz.ntmps228
 go_wp2_with fail
 refine(QErr.term H.out).mono ?_
 rintro r w' ⟨rfl,rfl⟩
 go_wp2
 go_loop [3] (fun v=>v=.int .i64 0) (fun _=>0)
 case atStart=>rfl
 case round=>
  subst hrel
  go_wp2_with fail
  refine(QErr.is H.out _).mono ?_
  rintro r w' ⟨rfl,rfl⟩
  go_wp2_with fail
  refine(QErr.is H.out _).mono ?_
  rintro r w' ⟨rfl,rfl⟩
  go_wp2
  go_ret
  exact⟨rfl,rfl⟩
set_option maxHeartbeats 2000000 in
theorem QErr.query{w:World}{b:Nat}{pv:Value}{e p deep:Nat}(h:QErr w b pv e p deep) :
  Calls Tryz.prog 176 #[.pointer (some ⟨b,0,none⟩)] w fun r w'=>r=.returned (.int .i64 0)∧w'=w:=by
 have H:Hid (QErr w b pv e p deep):=h
 clear h
 go_enter Tryz.func176,Tryz.ntmps176
 go_wp2_with fail
 refine(QErr.sum H.out).mono ?_
 rintro r w' ⟨rfl,rfl⟩
 go_wp2
 go_loop [3] (fun v=>v=.int .i64 0) (fun _=>0)
 case atStart=>rfl
 case round=>
  subst hrel
  go_wp2_with fail
  refine(QErr.is H.out _).mono ?_
  rintro r w' ⟨rfl,rfl⟩
  go_wp2
  go_ret
  exact⟨rfl,rfl⟩
end Go.Proofs.YtkodhpilkaihjaaGreatDoor

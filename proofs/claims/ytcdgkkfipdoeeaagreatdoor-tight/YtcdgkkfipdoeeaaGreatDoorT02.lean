/- Parts. -/
import Derived.Test.YtcdgkkfipdoeeaaGreatDoorT01
import Derived.Deep.RegionHeld3
import Derived.BigQuiet
import Derived.Stop.Asserts
import Derived.RowKitTokens
import Derived.Maps.Ext
set_option linter.all false
set_option maxRecDepth 100000
set_option maxHeartbeats 16000000
namespace Go.Proofs.YtcdgkkfipdoeeaaGreatDoor
open Go.RowKit LS Go.Proofs.Tryz
variable {ls:Array Bool}{args ca cb cs:Array Value}{D:DataW Unit}{s:LB}{l:List Int}{ts:List Tok}{c xs:List Value}{a b base f i k n pb sz:Nat}{e fr:Nat×Nat}{o oi:Oper}{r:Option Nat}{P:Program}{t:Tok}{u v x y z:Value}{w w' w0:World}
section
theorem Z9.grown{R:RS}(h:Z9 w R e v)(f:w.grownBy w' (some b)){c:Array Value}{t:TypeId}(g:w.heap[b]?=some (.cells c t fr))(i:t≠85):Z9 w' R e v:=by
 rcases h with ⟨a,d⟩|⟨a,d⟩
 ·exact Or.inl ⟨a,d.grown f g i⟩
 ·exact Or.inr ⟨a,d.grown f g i⟩
def BAt(w:World)(a:Nat)(c:List Value)(t:TypeId):Prop:=w.heap[a]?=some (.cells ⟨c⟩ t (0,0))
theorem BAt.cell{t:TypeId}(h:BAt w a c t)(i:Nat):w.cell? ⟨a,i,none⟩=c[i]?:=by
 unfold BAt at h;simp[World.cell?,h]
theorem BAt.frozen{t:TypeId}(h:BAt w a c t)(i:Nat):w.frozen? ⟨a,i,none⟩=false:=by
 unfold BAt at h;simp[World.frozen?,h]
theorem BAt.lt{t:TypeId}(h:BAt w a c t):a<w.heap.size:=(Yae.1 h).1
theorem BAt.grown{t:TypeId}(h:BAt w a c t)(d:w.grownBy w' r)(e:some a≠r):BAt w' a c t:=(d.block a h.lt e).trans h
theorem BAt.below{t:TypeId}(h:BAt w a c t)(d:BW w w'):BAt w' a c t:=(d.block a h.lt).trans h
theorem BAt.other{t:TypeId}(h:BAt w a c t){p:Addr}(d:a≠p.block)(v:Value):BAt (w.setCell p v) a c t:=(Go.Deep.blk_setCell_other _ _ _ _ d).trans h
def set3(w:World)(a:Nat)(x y z:Value):World:=((w.setCell ⟨a,0,none⟩ x).setCell ⟨a,1,none⟩ y).setCell ⟨a,2,none⟩ z
theorem Zcr{p q r:Value}{t:TypeId}(h:BAt w a [p,q,r] t):BAt (set3 w a x y z) a [x,y,z] t:=by
 unfold BAt at h;unfold BAt set3;simp only[World.setCell,Ybn,h,if_true,Ybf];rfl
theorem ret3{fn:Func}{R:Ending->World->Prop}{a:Act}{v:World}{p q r:Value}{t:TypeId}(c:∀W:World,W.cell? ⟨b,0,none⟩=some x->W.cell? ⟨b,1,none⟩=some y->W.cell? ⟨b,2,none⟩=some z->(results fn a.tmps).run P W=.ok r W)(hd:a.defers=[])(d:BAt v b [p,q,u] t)(e:R (.returned r) (set3 v b x y z)):bodyPost P fn R .ret a (set3 v b x y z):=by
 have s:=Zcr d (x:=x) (y:=y) (z:=z);exact bodyPost_ret (c _ (s.cell 0) (s.cell 1) (s.cell 2)) hd e
theorem Zsf(c:b≠a):(set3 w a x y z).heap[b]?=w.heap[b]?:=by
 unfold set3;rw[Go.Deep.blk_setCell_other _ _ _ _ c,Go.Deep.blk_setCell_other _ _ _ _ c,Go.Deep.blk_setCell_other _ _ _ _ c]
theorem Ze4(h:w0.grownBy w (some b))(c:w0.heap.size<=a):w0.grownBy (set3 w a x y z) (some b):=
 ZA (ZA (ZA h (Or.inr c)) (Or.inr c)) (Or.inr c)
theorem RK.fresh{R:RS}{k0:Nat}{ts0:List Tok}(c:RK w0 R k0 ts0)(h:RK w R k ts)(m:w0.heap.size<=a)(d:∀j,j≠a->w'.heap[j]?=w.heap[j]?):RK w' R k ts:=by
 refine h.blocks (fun j _ e=>d j ?_);have n:=(Yae.1 c.rd.cells).1;have o:=Z1 c.rd.own;have f:=Yai _ _ c.sy;have g:=Yai _ _ c.dp;have i:1<w0.heap.size:=f;have l:2<w0.heap.size:=g;rcases e with rfl|rfl|rfl|rfl <;> omega
theorem Z9.set3{R:RS}(h:Z9 w R e v){t:TypeId}(d:BAt w a c t)(f:t≠85)(x y z:Value):Z9 (set3 w a x y z) R e v:=by
 refine h.grown (b:=a) ?_ d f;exact ZA (ZA (ZA (ZbM w (some a)) (Or.inl rfl)) (Or.inl rfl)) (Or.inl rfl)
theorem Zfr(h:(hd ts).jj=k):ZH k ts=.ok ((hd ts).txt,ts.tail):=if_pos h
theorem Zgb(h:¬(hd ts).jj=k):ZH k ts=.error (2,(hd ts).at_):=if_neg h
theorem Zic(h:isT s t=true):t.txt=s:=by
 unfold isT at h;rw[Yas,beq_iff_eq]at h;exact h.2
theorem ZeV{u:LB}(h:isT s t=true)(a:s≠u):isT u t=false:=by
 have:=Zic h;unfold isT;rw[this,beq_eq_false_iff_ne.2 a,Ydi]
theorem ZP{c:Code}{Q:Exit->Act->World->Prop}{a:Act}(h:∀W,W=w->Code.wp P c Q a W):Code.wp P c Q a w:=h w rfl
theorem Zm{f:FuncId}{Q:Ending->World->Prop}(h:∀W,W=w->Calls P f args W Q):Calls P f args w Q:=h w rfl
theorem Zou{R:RS}(h:RK w R k ts) :
  Cz 173 #[Vp R.b] w fun e u=>∃(x:BA) (ng:Bool) (y:BA) (v:Value),e=.returned (.tuple #[.agg #[.string x,.bool ng,.string y],v])/\Hid (Res R (fun _ c=>bl x=c.1/\bl y=c.2.1/\ng=c.2.2) u (ZV ts) v)/\w.grownBy u (some R.b):=by
 have H:Hid (RK w R k ts):=h;have e4:R.b<w.heap.size:=(Yae.1 h.rd.cells).1;go_enter func173,ntmps173
 go_wp2_with fail
 refine Zm fun W0 a7=>?_;have c7:Hid (RK W0 R k ts):=hid (by rw[a7];exact H.below Zbal);have c8:Hid (BAt W0 w.heap.size [.string ByteArray.empty,.bool false,.string ByteArray.empty] 224):=hid (by rw[a7];exact bnw);have c9:Hid (w.grownBy W0 (some R.b)):=hid (by rw[a7];exact ZbR (ZbM _ _));refine(Zkk c7.out).mono ?_;rintro e w1 ⟨x,v,rfl,q,hg⟩;have L:Hid (BAt w1 w.heap.size [.string ByteArray.empty,.bool false,.string ByteArray.empty] 224):=c8.grown hg (by simp;omega);have c3:Hid (w.grownBy w1 (some R.b)):=Zj c9.out hg;by_cases G:(hd ts).jj=2
 ·rw[Zfr G]at q;obtain⟨rfl,⟨k1,d4⟩,hx⟩:=q.out;have c4:Hid (RK w1 R k1 ts.tail):=d4;have HX:Hid (bl x=(hd ts).txt):=hx
  go_wp2_with fail
  refine(Zee c4.out).mono ?_;rintro e z ⟨⟨kd,at_,tx,tv⟩,rfl,ht,a8⟩;have d5:=hid (L.below a8);have M:Hid (w.grownBy z (some R.b)):=Zj c3.out (Zw a8);have d6:Hid (RK z R k1 ts.tail):=c4.below a8
  go_wp2_with fail
  refine Zm fun W1 c5=>?_;have a9:BW z W1:=by rw[c5];exact Zbal
  have d7:Hid (BAt W1 z.heap.size [Vi kd,Vi at_,.string tx,Vi tv] 74):=hid (by rw[c5];exact bnw);have d8:=hid (d5.below a9);have d9:Hid (w.grownBy W1 (some R.b)):=Zj M.out (Zw a9);have b0:Hid (RK W1 R k1 ts.tail):=d6.below a9;refine(Zf6 ht.out b0.wf.head.1 b0.wf.head.2.2 ⟨#[61]⟩ Dc Dc W1).mono ?_;rintro e w3 ⟨rfl,a4⟩;have s:=hid (d7.below a4);have b1:=hid (d8.below a4);have b2:Hid (w.grownBy w3 (some R.b)):=Zj d9.out (Zw a4);have N:Hid (RK w3 R k1 ts.tail):=b0.below a4;by_cases I:isT [61] (hd ts.tail)=true
  ·rw[show isT (bl ⟨#[61]⟩) (hd ts.tail)=true from I];have b3:tx=⟨#[61]⟩:=ZcW (ht.2.2.1.trans (Zic I));subst b3;have HD:Hid (¬((hd ts.tail).jj=0∨(hd ts.tail).jj=5)):=Zd3 I;have O:Hid (ZV ts=bnd (ZH 3 ts.tail.tail) fun b r=>.ok (((hd ts).txt,b,false),r)):=hid (by unfold ZV;rw[Zfr G];show bnd (Zdc ts.tail) _=_;unfold Zdc;rw[if_neg (by rw[ZeV I Dc];decide)];unfold Zq;rw[if_pos I];rfl);have n:=N;have a5:=b2;have a6:=b1;have b4:=s;obtain⟨rc0,rc1,rfz,_⟩:=n.rd.all;have e0:=n.lt;have e1:=n.len
   go_wp2_with fail
   refine Zm fun J o=>?_;have t:Hid (RK J R (k1+1) ts.tail.tail):=hid (by rw[o];exact n.step HD.out);have P:Hid (w.grownBy J (some R.b)):=hid (by rw[o];exact ZA a5.out (Or.inl rfl));have Q:Hid (BAt J w.heap.size [.string ByteArray.empty,.bool false,.string ByteArray.empty] 224):=hid (by rw[o];exact a6.other (by show w.heap.size≠R.b;omega) _);have S:Hid (BAt J z.heap.size [Vi kd,Vi at_,.string ⟨#[61]⟩,Vi tv] 74):=hid (by rw[o];exact b4.other (by show z.heap.size≠R.b;have:=M.size;omega) _);refine(Zee t.out).mono ?_;rintro e f ⟨⟨kd2,at2,tx2,tv2⟩,rfl,A,g⟩;have T:=hid (Q.below g);have U:=hid (S.below g);have B:Hid (w.grownBy f (some R.b)):=Zj P.out (Zw g);have V:Hid (RK f R (k1+1) ts.tail.tail):=t.below g;clear g t P Q S
   go_upto_region 9 with fail
   refine ZP fun K C=>?_;have i:BW f K:=by rw[C];exact Zbal
   have X:Hid (BAt K f.heap.size [Vi kd2,Vi at2,.string tx2,Vi tv2] 74):=hid (by rw[C];exact bnw);have Y:=hid (T.below i);have b5:=hid (U.below i);have Z:Hid (w.grownBy K (some R.b)):=Zj B.out (Zw i);have l:Hid (RK K R (k1+1) ts.tail.tail):=V.below i;have e3:R.b<f.heap.size:=by have:=B.size;omega
   clear C i T U V B;have t0:=X.cell;by_cases p:(hd ts.tail.tail).jj=3
   ·have a0:kd2=2:=by have:=A.1;rw[p]at this;exact this
    subst a0;have b6:Hid (ZV ts=.ok (((hd ts).txt,(hd ts.tail.tail).txt,false),ts.tail.tail.tail)):=hid (by rw[O.out,Zfr p];rfl);have b7:Hid (bl tx2=(hd ts.tail.tail).txt):=A.2.2.1;obtain⟨rc0,rc1,rfz,_⟩:=l.rd.all;have c6:=l.lt
    go_upto_region 12 with fail
    refine ZP fun D d=>?_;have b8:Hid (RK D R (k1+1+1) ts.tail.tail.tail):=hid (by rw[d];exact l.step Om);have b9:Hid (w.grownBy D (some R.b)):=hid (by rw[d];exact ZA Z.out (Or.inl rfl));have E:Hid (BAt D w.heap.size [.string ByteArray.empty,.bool false,.string ByteArray.empty] 224):=hid (by rw[d];exact Y.other (by show w.heap.size≠R.b;omega) _);have c1:Hid (BAt D z.heap.size [Vi kd,Vi at_,.string ⟨#[61]⟩,Vi tv] 74):=hid (by rw[d];exact b5.other (by show z.heap.size≠R.b;have:=M.size;omega) _);have c2:Hid (BAt D f.heap.size [Vi 2,Vi at2,.string tx2,Vi tv2] 74):=hid (by rw[d];exact X.other (by show f.heap.size≠R.b;omega) _);clear d rc0 rc1 rfz t0;have f0:=E.frozen;have c0:=E.cell;have d2:=c1.cell;have e2:=c2.cell;go_wp2;exact ret3 (r:=.tuple #[.agg #[.string x,.bool false,.string tx2],.nilIface]) (fun W s0 s1 s2=>by simp[results,results173,go_sem,s0,s1,s2]) rfl E.out ⟨_,_,_,_,rfl,by rw[b6.out];exact⟨rfl,⟨_,(RK.fresh H.out b8.out (Yac _) (fun j hj=>Zsf hj))⟩,HX.out,b7.out,rfl⟩,Ze4 b9.out (Yac _)⟩
   ·have a0:((kd2:Int) != 2)=true:=by
     rw[bne_iff_ne];intro e;exact p ((Ze0 l.wf.head.2.2).2.2.1.1 (by have:=A.1;simp only at this;omega))
    have a1:Hid (ZV ts=.error (2,(hd ts.tail.tail).at_)):=hid (by rw[O.out,Zgb p];rfl)
    go_wp2_with fail
    refine(Zfi l.out).mono ?_;rintro e wE ⟨v,rfl,F,m⟩;obtain⟨fa,rfl⟩:=F.shape;have a:=hid (Y.below m);have a2:Hid (w.grownBy wE (some R.b)):=Zj Z.out (Zw m);clear m;have f0:=a.frozen;have c0:=a.cell;go_wp2;exact ret3 (r:=.tuple #[.agg #[.string ⟨#[]⟩,.bool false,.string ⟨#[]⟩],.iface 81 (Vp fa)]) (fun W s0 s1 s2=>by simp[results,results173,go_sem,s0,s1,s2]) rfl a.out ⟨_,_,_,_,rfl,by rw[a1.out];exact F.set3 a.out Dc _ _ _,Ze4 a2.out (Yac _)⟩
  ·rw[show isT (bl ⟨#[61]⟩) (hd ts.tail)=false from Yce.2 I];have d0:=s.cell 0;have d1:=s.cell 1;have d2:=s.cell 2;have d3:=s.cell 3;simp only[Zget]at d0 d1 d2 d3
   go_wp2_with fail
   clear d0 d1 d2 d3;refine(Zf6 ht.out N.wf.head.1 N.wf.head.2.2 ⟨#[33,61]⟩ Dc Dc w3).mono ?_;rintro e w4 ⟨rfl,a3⟩;have b4:=hid (s.below a3);have a6:=hid (b1.below a3);have a5:Hid (w.grownBy w4 (some R.b)):=Zj b2.out (Zw a3);have n:Hid (RK w4 R k1 ts.tail):=N.below a3;clear a3 s b1 b2 N;by_cases hB:isT [33,61] (hd ts.tail)=true
   ·rw[show isT (bl ⟨#[33,61]⟩) (hd ts.tail)=true from hB];have b3:tx=⟨#[33,61]⟩:=ZcW (ht.2.2.1.trans (Zic hB));subst b3;have HD:Hid (¬((hd ts.tail).jj=0∨(hd ts.tail).jj=5)):=Zd3 hB;have O:Hid (ZV ts=bnd (ZH 3 ts.tail.tail) fun b r=>.ok (((hd ts).txt,b,true),r)):=hid (by unfold ZV;rw[Zfr G];show bnd (Zdc ts.tail) _=_;unfold Zdc;rw[if_pos hB];rfl);clear I hB;obtain⟨rc0,rc1,rfz,_⟩:=n.rd.all;have e0:=n.lt;have e1:=n.len
    go_wp2_with fail
    refine Zm fun J o=>?_;have t:Hid (RK J R (k1+1) ts.tail.tail):=hid (by rw[o];exact n.step HD.out);have P:Hid (w.grownBy J (some R.b)):=hid (by rw[o];exact ZA a5.out (Or.inl rfl));have Q:Hid (BAt J w.heap.size [.string ByteArray.empty,.bool false,.string ByteArray.empty] 224):=hid (by rw[o];exact a6.other (by show w.heap.size≠R.b;omega) _);have S:Hid (BAt J z.heap.size [Vi kd,Vi at_,.string ⟨#[33,61]⟩,Vi tv] 74):=hid (by rw[o];exact b4.other (by show z.heap.size≠R.b;have:=M.size;omega) _);clear o rc0 rc1 rfz;refine(Zee t.out).mono ?_;rintro e f ⟨⟨kd2,at2,tx2,tv2⟩,rfl,A,g⟩;have T:=hid (Q.below g);have U:=hid (S.below g);have B:Hid (w.grownBy f (some R.b)):=Zj P.out (Zw g);have V:Hid (RK f R (k1+1) ts.tail.tail):=t.below g;clear g t P Q S
    go_upto_region 9 with fail
    refine ZP fun K C=>?_;have i:BW f K:=by rw[C];exact Zbal
    have X:Hid (BAt K f.heap.size [Vi kd2,Vi at2,.string tx2,Vi tv2] 74):=hid (by rw[C];exact bnw);have Y:=hid (T.below i);have b5:=hid (U.below i);have Z:Hid (w.grownBy K (some R.b)):=Zj B.out (Zw i);have l:Hid (RK K R (k1+1) ts.tail.tail):=V.below i;have e3:R.b<f.heap.size:=by have:=B.size;omega
    clear C i T U V B;have t0:=X.cell;by_cases p:(hd ts.tail.tail).jj=3
    ·have a0:kd2=2:=by have:=A.1;rw[p]at this;exact this
     subst a0;have b6:Hid (ZV ts=.ok (((hd ts).txt,(hd ts.tail.tail).txt,true),ts.tail.tail.tail)):=hid (by rw[O.out,Zfr p];rfl);have b7:Hid (bl tx2=(hd ts.tail.tail).txt):=A.2.2.1;obtain⟨rc0,rc1,rfz,_⟩:=l.rd.all;have c6:=l.lt
     go_upto_region 12 with fail
     refine ZP fun D d=>?_;have b8:Hid (RK D R (k1+1+1) ts.tail.tail.tail):=hid (by rw[d];exact l.step Om);have b9:Hid (w.grownBy D (some R.b)):=hid (by rw[d];exact ZA Z.out (Or.inl rfl));have E:Hid (BAt D w.heap.size [.string ByteArray.empty,.bool false,.string ByteArray.empty] 224):=hid (by rw[d];exact Y.other (by show w.heap.size≠R.b;omega) _);have c1:Hid (BAt D z.heap.size [Vi kd,Vi at_,.string ⟨#[33,61]⟩,Vi tv] 74):=hid (by rw[d];exact b5.other (by show z.heap.size≠R.b;have:=M.size;omega) _);have c2:Hid (BAt D f.heap.size [Vi 2,Vi at2,.string tx2,Vi tv2] 74):=hid (by rw[d];exact X.other (by show f.heap.size≠R.b;omega) _);clear d rc0 rc1 rfz t0;have f0:=E.frozen;have c0:=E.cell;have d2:=c1.cell;have e2:=c2.cell;go_wp2;exact ret3 (r:=.tuple #[.agg #[.string x,.bool true,.string tx2],.nilIface]) (fun W s0 s1 s2=>by simp[results,results173,go_sem,s0,s1,s2]) rfl E.out ⟨_,_,_,_,rfl,by rw[b6.out];exact⟨rfl,⟨_,(RK.fresh H.out b8.out (Yac _) (fun j hj=>Zsf hj))⟩,HX.out,b7.out,rfl⟩,Ze4 b9.out (Yac _)⟩
    ·have a0:((kd2:Int) != 2)=true:=by
      rw[bne_iff_ne];intro e;exact p ((Ze0 l.wf.head.2.2).2.2.1.1 (by have:=A.1;simp only at this;omega))
     have a1:Hid (ZV ts=.error (2,(hd ts.tail.tail).at_)):=hid (by rw[O.out,Zgb p];rfl)
     go_wp2_with fail
     refine(Zfi l.out).mono ?_;rintro e wE ⟨v,rfl,F,m⟩;obtain⟨fa,rfl⟩:=F.shape;have a:=hid (Y.below m);have a2:Hid (w.grownBy wE (some R.b)):=Zj Z.out (Zw m);clear m;have f0:=a.frozen;have c0:=a.cell;go_wp2;exact ret3 (r:=.tuple #[.agg #[.string ⟨#[]⟩,.bool false,.string ⟨#[]⟩],.iface 81 (Vp fa)]) (fun W s0 s1 s2=>by simp[results,results173,go_sem,s0,s1,s2]) rfl a.out ⟨_,_,_,_,rfl,by rw[a1.out];exact F.set3 a.out Dc _ _ _,Ze4 a2.out (Yac _)⟩
   ·rw[show isT (bl ⟨#[33,61]⟩) (hd ts.tail)=false from Yce.2 hB];have a1:Hid (ZV ts=.error (2,(hd ts.tail).at_)):=hid (by unfold ZV;rw[Zfr G];show bnd (Zdc ts.tail) _=_;unfold Zdc;rw[if_neg hB];unfold Zq;rw[if_neg I];rfl);clear I hB
    go_wp2_with fail
    refine(Zfi n.out).mono ?_;rintro e wE ⟨v,rfl,F,m⟩;obtain⟨fa,rfl⟩:=F.shape;have a:=hid (a6.below m);have a2:Hid (w.grownBy wE (some R.b)):=Zj a5.out (Zw m);clear m;have f0:=a.frozen;have c0:=a.cell;go_wp2;exact ret3 (r:=.tuple #[.agg #[.string ⟨#[]⟩,.bool false,.string ⟨#[]⟩],.iface 81 (Vp fa)]) (fun W s0 s1 s2=>by simp[results,results173,go_sem,s0,s1,s2]) rfl a.out ⟨_,_,_,_,rfl,by rw[a1.out];exact F.set3 a.out Dc _ _ _,Ze4 a2.out (Yac _)⟩
 ·rw[Zgb G]at q;obtain⟨fa,rfl⟩:=q.shape;have F:Hid (Z9 w1 R (2,(hd ts).at_) _):=q.out;have HP:Hid (ZV ts=.error (2,(hd ts).at_)):=hid (by unfold ZV;rw[Zgb G];rfl);have f0:=L.frozen;have c0:=L.cell;clear q;go_wp2;exact ret3 (r:=.tuple #[.agg #[.string ⟨#[]⟩,.bool false,.string ⟨#[]⟩],.iface 81 (Vp fa)]) (fun W s0 s1 s2=>by simp[results,results173,go_sem,s0,s1,s2]) rfl L.out ⟨_,_,_,_,rfl,by rw[HP.out];exact F.set3 L.out Dc _ _ _,Ze4 c3.out (Yac _)⟩
section
variable {P:Program} {ops:Array Oper} {Q:Exit->Act->World->Prop} {md:Region.Mode} {S:World->Prop} {k:Nat}
def ZcJ(P:Program)(md:Region.Mode)(ops:Array Oper)(Q:Exit->Act->World->Prop)(S:World->Prop)(k:Nat):Nat->Array Bool->Act->World->Prop
 | 0,ls,a,w=>Region.ready md ops ls=[]/\Q .normal a w
 | f + 1, ls, a, w => (Region.ready md ops ls = [] -> Q .normal a w) /\ ∀ i ∈ Region.ready md ops ls,
     wpOp P ops Q i (fun a' w'=>((ls.setIfInBounds i true).getD k true=false->S w')/\ZcJ P md ops Q S k f (ls.setIfInBounds i true) a' w') a w
theorem ZcJ.any:∀(f:Nat) (ls:Array Bool) (a:Act) (w:World),ZcJ P md ops Q S k f ls a w->wpAny P md ops Q f ls a w
 | 0,_,_,_,h=>h
 | f+1,_,_,_,h=>⟨h.1,fun i c=>wpOp_mono (fun _ _ d=>ZcJ.any f _ _ _ d.2) (h.2 i c)⟩
def ZfE(md:Region.Mode)(ops:Array Oper)(ls:Array Bool):Bool:=
 (List.range ops.size).all fun j=>!ls.getD j true || ((ops[j]?).map (·.after.all fun e=>!Region.binds md e || ls.getD e.on false)).getD false
def Zhk(md:Region.Mode)(ops:Array Oper)(i:Nat):Nat->Nat->Bool
 | 0,_=>false
 | n+1,j=>((ops[j]?).map (·.after.any fun e=>Region.binds md e && (e.on == i || Zhk md ops i n e.on))).getD false
theorem Zsl : ZfE md ops ls=true ↔ ∀j o,ops[j]?=some o->ls.getD j true=true->∀e∈o.after,Region.binds md e=true->ls.getD e.on false=true:=by
 unfold ZfE;rw[Ybu];constructor
 ·intro h j o a c e d g;have f:=h j (Yb9.2 (Yae.1 a).1);rw[c,a]at f;simp only[Bool.not_true,Yft,Ybf,Ya6,Array.all_eq_true']at f;have l:=f e d
  simp_all
 ·intro h j c;rw[Yb9]at c;have a:=Array.getElem?_eq_getElem c;cases i:ls.getD j true with
  | false=>rfl
  | true=>
   rw[a];simp only[Bool.not_true,Yft,Ybf,Ya6,Array.all_eq_true'];intro e d;cases g:Region.binds md e with
   | false=>rfl
   | true=>simpa using h j _ a i e d g
theorem ZCb{j:Nat}(h:ZfE md ops ls=true)(n:j∈Region.ready md ops ls):ZfE md ops (ls.setIfInBounds j true)=true:=by
 rw[Zsl]at h ⊢;intro i o c f e g l;obtain⟨_,oj,m,d⟩:=mem_ready.1 n;by_cases a:j=i
 ·subst a;rw[m]at c;cases c;exact getD_set_true (d e g l)
 ·rw[getD_set_ne _ a]at f;exact getD_set_true (h i o c f e g l)
theorem Zs6(h:ZfE md ops ls=true)(f:ls.getD i true=false):∀(n j:Nat),Zhk md ops i n j=true->ls.getD j true=false
 | 0,_,a=>by cases a
 | n + 1, j, a => by
   cases g:ls.getD j true with
   | false=>rfl
   | true=>
     unfold Zhk at a;cases c:ops[j]? with
     | none=>simp_all
     | some o=>
       rw[c]at a;simp only[Ybf,Ya6,Array.any_eq_true',Yas,Yct,beq_iff_eq]at a;obtain⟨e,l,m,d⟩:=a;have s:=Zsl.1 h j o c g e l m
       have t:ls.getD e.on true=false:=by
         rcases d with r|p
         · simp_all
         · exact Zs6 h f n _ p
       exfalso
       rcases Yav e.on ls.size with q|q
       · simp_all
       simp_all
theorem Ztl(t:ops[i]?=some oi)(l:∀(j:Nat) (o:Oper) cs b,ops[j]?=some o->o.op≠.select cs b)
  (K:∀c a w,Q (.panic c) (a.put oi.dst v) w->Q (.panic c) a w) (L:Zhk md ops i n k=true) (A:i≠k) :
  ∀(f:Nat) (ls:Array Bool) (a:Act) (w:World),ZfE md ops ls=true->
   (∀j oj,ops[j]?=some oj->j≠i->ls.getD j true=false->(∀e∈oj.after,Region.binds md e=true->e.on≠i)->oi.apart ops oj=true)->
   i∈Region.ready md ops ls->YieldsIf P ops S oi v a->S w->
   ZcJ P md ops Q S k f (ls.setIfInBounds i true) (a.put oi.dst v) w->ZcJ P md ops Q S k (f+1) ls a w
 | 0, ls, a, w, B, g, D, x, p, H => by
   refine⟨fun h=>(by simp_all),fun j q=>?_⟩;by_cases d:j=i
   · subst d;exact x.wpOp t p ⟨fun _=>p,H⟩
   · have y:=ready_mono q d
     rw[H.1]at y;cases y
 | f + 1, ls, a, w, B, g, D, x, p, H => by
   refine⟨fun h=>(by simp_all),fun j q=>?_⟩;by_cases d:j=i
   · subst d;exact x.wpOp t p ⟨fun _=>p,H⟩
   · have y:=H.2 j (ready_mono q d)
     obtain⟨E,oj,r,F⟩:=mem_ready.1 q;have G:=(mem_ready.1 D).1
     have I : ∀ e ∈ oj.after, Region.binds md e = true -> e.on ≠ i := fun e T U M => by
       have J:=F e T U;rw[M]at J;rcases Yav i ls.size with V|V
       · simp_all
       simp_all
     have s:=ZCb B q;have z:(ls.setIfInBounds j true).getD i true=false:=by rw[getD_set_ne true d];exact G
     have W:(ls.setIfInBounds j true).getD k true=false:=Zs6 s z n k L;have J:=wpOp_putIf r (g j oj r d E I) (fun cs b=>l i oi cs b t) (fun cs b=>l j oj cs b r) K x y;refine wpOp_mono (fun a' u N=>?_) J;have C:S u:=N.2.1 (by rw[Ye4 _ _ (Ycp d),getD_set_ne true A];omega);refine⟨fun _=>C,Ztl t l K L A f (ls.setIfInBounds j true) a' u s (fun m om X O Y R=>g m om X O ?_ R) (ready_mono D (Ycp d)) N.1 C ?_⟩
     · by_cases Z:j=m
       · simp_all
       simp_all
     · rw[Ye4 _ _ d]
       simp_all
theorem ZeD{d:Nat}{a:Act}(e:ops[i]?=some oi)(hd:oi.dst=some d)(g:(Region.noSelect ops && Region.free md ops ls i && (Region.ready md ops ls).contains i && Zhk md ops i ops.size k && ZfE md ops ls && i != k)=true)
  (j:∀c a w,Q (.panic c) (a.put oi.dst v) w->Q (.panic c) a w) (l:YieldsIf P ops S oi v a) (m:S w)
  (h:ZcJ P md ops Q S k f (ls.setIfInBounds i true) { a with tmps:=a.tmps.setIfInBounds d v } w):ZcJ P md ops Q S k (f+1) ls a w:=by
 simp only[Yas,bne_iff_ne]at g;obtain⟨⟨⟨⟨⟨n,o⟩,s⟩,p⟩,q⟩,r⟩:=g;exact Ztl e (Region.noSelect_spec n) j p r f _ a w q (Region.free_spec e o) (by simp_all) l m (by rwa [hd])
theorem Z4{a:Act}(e:Region.ready md ops ls=[i])(g:ops[i]?=some o)
  (h:∀K':Act->World->Prop,Shut (∀a w,S w->(S w->ZcJ P md ops Q S k f (ls.setIfInBounds i true) a w)->K' a w)->if Region.wanted o (yielded ops a.tmps)=true then Oper.wp P o a w K' Q else K' (a.put o.dst undef) w):ZcJ P md ops Q S k (f+1) ls a w:=by
 refine⟨fun n=>(by simp_all),fun j c=>?_⟩;rw[e,Yap]at c;subst c;exact wpOp_step g (fun K' l=>h _ (fun a w d m=>l a w ⟨fun _=>d,m d⟩))
theorem Zbl{a:Act}(e:Region.ready md ops ls=[k])(c:Region.ready md ops (ls.setIfInBounds k true)=[])(g:ops[k]?=some o)(n:(ls.setIfInBounds k true).getD k true=true)
  (h:∀K':Act->World->Prop,Shut (∀a w,Q .normal a w->K' a w)->if Region.wanted o (yielded ops a.tmps)=true then Oper.wp P o a w K' Q else K' (a.put o.dst undef) w):ZcJ P md ops Q S k (f+1) ls a w:=by
 refine⟨fun i=>(by simp_all),fun j d=>?_⟩;rw[e,Yap]at d;subst d;refine wpOp_step g (fun K' l=>h _ (fun a w m=>l a w ⟨fun i=>(by simp_all),?_⟩));cases f with
 | zero=>exact⟨c,m⟩
 | succ f=>constructor<;>simp_all
theorem Zbn{id:Nat}{a:Act}(k:Nat)(S:World->Prop)(c:P.follows .mixedOrders=true)(d:S w.drew)(h:S w.drew->ZcJ P .any ops Q S k ops.size (Array.replicate ops.size false) a w.drew):(Code.region id ops true).wp P Q a w:=
 wp_region_any c (ZcJ.any _ _ _ _ (h d))
end
end
section
theorem Zy5(a b:Int)(a1 : -1000000000<=a)(a2:a<=1000000000)(b1 : -1000000000<=b)(b2:b<=1000000000):(a*b).natAbs<=1000000000000000000:=by
 rw[Int.natAbs_mul];have c:a.natAbs<=1000000000:=by omega
 have d:b.natAbs<=1000000000:=by omega
 exact Nat.mul_le_mul c d
theorem ZDy(a b:Int):twoV 0 a b=cutV (a+b):=by simp[twoV]
theorem ZDz(a b:Int):twoV 1 a b=cutV (a - b):=by simp[twoV]
theorem ZDA(a b:Int):twoV 2 a b=cutV (a*b):=by simp[twoV]
theorem ZDC(a:Int):twoV 3 a 0=0:=by simp[twoV]
theorem ZDB(a b:Int)(h:b≠0):twoV 3 a b=a.tdiv b:=by simp[twoV,h]
def vOk(n:Int):Prop:=-1000000000<=n/\n<=1000000000
theorem ZyW(m:Int)(l:List Int)(x:Int):maxL m (l++[x])=if maxL m l<x then x else maxL m l:=by
 induction l generalizing m with
 | nil=>rfl
 | cons a l ih=>exact ih _
theorem Zy1(m:Int)(l:List Int)(x:Int):minL m (l++[x])=if x<minL m l then x else minL m l:=by
 induction l generalizing m with
 | nil=>rfl
 | cons a l ih=>exact ih _
theorem ZhY{n:Int}:vOk (cutV n):=by unfold vOk cutV;split <;> (try split) <;> omega
theorem Zhj(op:Nat)(a b:Int)(c:vOk a):vOk (twoV op a b):=by
 unfold twoV;split
 ·exact ZhY
 split
 ·exact ZhY
 split
 ·exact ZhY
 split
 ·unfold vOk;omega
 ·unfold vOk at *
  have d:(a.tdiv b).natAbs<=a.natAbs:=by rw[Yff];exact Yfg _ _
  omega
def Zhi(l s:Int):Nat->Int->List Int->Option (List Int)
 | 0,_,_=>none
 | n+1,t,acc=>if t<=l then (if acc.length=50 then none else Zhi l s n (t+s) (acc++[t]))else some acc
abbrev badT (f l s:Int):Prop:=f < -1000000∨1000000<f∨l < -1000000∨1000000<l∨s<1∨1000000<s∨l<f
def Zdr(f l s:Int):Option (List Int):=if badT f l s then none else Zhi l s 60 f []
def cnt(l s t:Int):Nat:=if t<=l then ((l - t) / s).toNat+1 else 0
theorem Zoi(l s t:Int)(c:1<=s)(h:t<=l):cnt l s t=cnt l s (t+s)+1:=by
 unfold cnt;rw[if_pos h];by_cases a:t+s<=l
 ·rw[if_pos a]
  have e:(l - t) / s=(l - (t+s)) / s+1:=by
   rw[show l - t=(l - (t+s))+1*s by omega,Int.add_mul_ediv_right _ _ Om]
  have d:0<=(l - (t+s)) / s:=Int.ediv_nonneg Om Om;rw[e];omega
 ·rw[if_neg a];have e:(l - t) / s=0:=Int.ediv_eq_zero_of_lt Om Om;rw[e];rfl
theorem ZsM (l s : Int) (c : 1 <= s) : ∀ (n : Nat) (t : Int) (acc : List Int), acc.length + cnt l s t <= 50 -> cnt l s t < n -> Zhi l s n t acc = some (acc ++ (List.range (cnt l s t)).map fun (i : Nat) => t + (i : Int) * s)
  | 0,_,_,_,h=>absurd h (Ya1 _)
  | n + 1, t, acc, d, e => by
    rw[Zhi];by_cases h:t<=l
    · have a:=Zoi l s t c h
      rw[if_pos h,if_neg Om,ZsM l s c n _ _ (by rw[Yab,Ybj];omega) Om,a,List.range_succ_eq_map,Ybb,Yb1,Yan]
      congr 2
      rw[Yd6]
      congr 1
      · simp
      · refine Ycb (fun i _=>?_)
        simp only[Function.comp];rw[show((Nat.succ i):Int)=(i)+1 from rfl,Int.add_mul];omega
    · have a:cnt l s t=0:=by unfold cnt;rw[if_neg h]
      rw[if_neg h,a];simp
theorem ZsL(l s:Int)(a:1<=s):∀(n:Nat) (t:Int) (acc:List Int),50<acc.length+cnt l s t->acc.length<=50->50 - acc.length<n->Zhi l s n t acc=none
 | 0,_,_,_,_,h=>absurd h (Ya1 _)
 | n + 1, t, acc, e, f, g => by
   rw[Zhi];by_cases h:t<=l
   · have d:=Zoi l s t a h
     rw[if_pos h];by_cases c:acc.length=50
     · rw[if_pos c]
     · rw[if_neg c]
       exact ZsL l s a n _ _ (by rw[Yab,Ybj];omega) (by rw[Yab,Ybj];omega) (by rw[Yab,Ybj];omega)
   · have d:cnt l s t=0:=by unfold cnt;rw[if_neg h]
     omega
theorem ZsN {f l s : Int} (h : ¬ badT f l s) : Zdr f l s = if 50 < cnt l s f then none else some ((List.range (cnt l s f)).map fun (i : Nat) => f + (i : Int) * s) := by
  have a:1<=s:=by unfold badT at h;omega
  unfold Zdr;rw[if_neg h];split
  · rename_i c
    exact ZsL l s a _ f _ (by simpa using c) (by simp) (by simp)
  · rename_i c
    rw[ZsM l s a _ f _ (by simp;omega) Om];rfl
theorem ZiJ {n:Int}  : Cz 229 #[Vi n] w fun e u => e = .returned (Vi (cutV n)) /\ u = w := by
  rcases(by unfold cutV;split <;> (try split) <;> omega:(1000000000<n/\cutV n=1000000000)∨(n < -1000000000/\cutV n=-1000000000)∨(-1000000000<=n/\n<=1000000000/\cutV n=n))with ⟨h,e⟩|⟨h,e⟩|⟨a,c,e⟩
  all_goals
    rw[e];have d:=hid e;go_enter func229,ntmps229;go_wp2
    all_goals first|omega|(go_ret;exact⟨rfl,rfl⟩)|(go_ret;exact⟨ZBw Om,rfl⟩)|(obtain rfl:n=-1000000000:= Om;go_ret;exact⟨rfl,rfl⟩)
theorem Zks (op : Nat) (g : op <= 3) (a b : Int) (d : vOk a) (f : vOk b) (w : World) : Cz 198 #[Vi (op + 1 : Nat), Vi a, Vi b] w fun e u => e = .returned (Vi (twoV op a b)) /\ u = w := by
  obtain⟨a1,a2⟩:=d;obtain⟨b1,b2⟩:=f;rcases(by omega:op=0∨op=1∨op=2∨op=3)with rfl|rfl|rfl|rfl
  · rw[ZDy]
    go_enter func198,ntmps198
    go_wp2_with (go_at_call 229;refine cret (ZiJ) ?_)
    go_ret;exact⟨rfl,rfl⟩
  · rw[ZDz]
    go_enter func198,ntmps198
    go_wp2_with (go_at_call 229;refine cret (ZiJ) ?_)
    go_ret;exact⟨rfl,rfl⟩
  · have i:(Go.IntKind.i64).wrap (a*b)=a*b:=by
      have j:=Zy5 a b a1 a2 b1 b2;generalize a*b=ab at *
      rw[Ybo];omega
    rw[ZDA];go_enter func198,ntmps198
    go_wp2_with (go_at_call 229;refine cret (ZiJ) ?_)
    go_ret;exact⟨rfl,rfl⟩
  · have h:(a.tdiv b).natAbs<=a.natAbs:=by rw[Yff];exact Yfg _ _
    have k:(Go.IntKind.i64).wrap (a.tdiv b)=a.tdiv b:=by rw[Ybo];omega
    by_cases c:b=0
    · subst c
      rw[ZDC];go_enter func198,ntmps198;go_wp2;go_ret;exact⟨rfl,rfl⟩
    · rw[ZDB a b c]
      go_enter func198,ntmps198;go_wp2;go_ret;exact⟨rfl,rfl⟩
def talC(l:List Int):List Value:=[Vi l.length,Vi l.sum,Vi (maxL (l.headD 0) l),Vi (minL (l.headD 0) l),Vi (l.headD 0),Vi (l.getLastD 0)]
def talV(l:List Int):Value:=.agg (talC l).toArray
theorem ZyX(m:Int)(l:List Int)(x:Int):maxL m (l++[x])=max (maxL m l) x:=by rw[ZyW];split <;> omega
theorem Zy2(m:Int)(l:List Int)(x:Int):minL m (l++[x])=min (minL m l) x:=by rw[Zy1];split <;> omega
theorem ZxQ(l:List Int)(x:Int):(l++[x]).getLastD 0=x:=by simp[Yey]
theorem ZsC:∀l:List Int,(∀x∈l,vOk x)->-1000000000*(l.length:Int)<=l.sum/\l.sum<=1000000000*(l.length:Int)
 | [],_=>by simp
 | a :: l, h => by
   have e:=ZsC l (fun x c=>h x (Yam _ c));have d:=h a (Yay ..);unfold vOk at d;rw[Yd2,Yaj];omega
theorem ZsT (l : List Int) (x : Int) (k : l.length <= 10000) (c : ∀ y ∈ l, vOk y) (d : vOk x) (w : World) : Cz 206 #[talV l, Vi x] w fun e u => e = .returned (talV (l ++ [x])) /\ BW w u := by
  cases l with
  | nil=>
    unfold talV talC;simp only[Ybq,Ye0,maxL,minL,List.headD_nil,List.getLastD_nil,Ycu,Ybj,List.sum_singleton,List.headD_cons,Yel,Int.lt_irrefl,if_false];go_enter func206,ntmps206;go_wp2;exact bodyPost_ret (v:=.agg #[Vi 1,Vi x,Vi x,Vi x,Vi x,Vi x]) (by simp[results,results206,go_sem]) rfl ⟨by simp,belB⟩
  | cons a l=>
    have f:=ZsC _ c
    have g:Hid (talV ((a::l)++[x])=.agg #[Vi ((l.length)+1+1),Vi ((a::l).sum+x),Vi (max (maxL a (a::l)) x),Vi (min (minL a (a::l)) x),Vi a,Vi x]):=hid (by
      unfold talV talC;rw[ZyX,Zy2,List.sum_append,ZxQ];simp)
    unfold vOk at d;rw[g];unfold talV talC;rw[Yaj]at *
    simp only[List.headD_cons];generalize(a::l).sum=sm at *
    generalize maxL a (a::l)=mx at *
    generalize minL a (a::l)=mn at *
    generalize(a::l).getLastD 0=la at *
    generalize l.length=ln at *
    have i:((ln:Int)+1 == 0)=false:=by rw[beq_eq_false_iff_ne];omega
    push_cast
    have h:=hid f;have j : -10000000000000<=sm/\sm<=10000000000000:=by have:=h.out;omega
    rcases(by omega:(mx<x/\max mx x=x)∨(x<=mx/\max mx x=mx))with ⟨g1,e1⟩|⟨g1,e1⟩ <;> rcases(by omega:(x<mn/\min mn x=x)∨(mn<=x/\min mn x=mn))with ⟨g2,e2⟩|⟨g2,e2⟩
    · rw[e1,e2]
      go_enter func206,ntmps206;go_wp2
      all_goals first|omega|exact bodyPost_ret (v:=.agg #[Vi ((ln:Int)+1+1),Vi (sm+x),Vi x,Vi x,Vi a,Vi x]) (by simp[results,results206,go_sem]) rfl ⟨rfl,belB⟩
    · rw[e1,e2]
      go_enter func206,ntmps206;go_wp2
      all_goals first|omega|exact bodyPost_ret (v:=.agg #[Vi ((ln:Int)+1+1),Vi (sm+x),Vi x,Vi mn,Vi a,Vi x]) (by simp[results,results206,go_sem]) rfl ⟨rfl,belB⟩
    · rw[e1,e2]
      go_enter func206,ntmps206;go_wp2
      all_goals first|omega|exact bodyPost_ret (v:=.agg #[Vi ((ln:Int)+1+1),Vi (sm+x),Vi mx,Vi x,Vi a,Vi x]) (by simp[results,results206,go_sem]) rfl ⟨rfl,belB⟩
    · rw[e1,e2]
      go_enter func206,ntmps206;go_wp2
      all_goals first|omega|exact bodyPost_ret (v:=.agg #[Vi ((ln:Int)+1+1),Vi (sm+x),Vi mx,Vi mn,Vi a,Vi x]) (by simp[results,results206,go_sem]) rfl ⟨rfl,belB⟩
theorem Zlh{n:Int}(h:vOk n):cutV n=n:=by unfold vOk at h;unfold cutV;split <;> (try split) <;> omega
theorem ZqV:∀(l:List Int) (m:Int),vOk m->(∀x∈l,vOk x)->vOk (maxL m l)
 | [],m,h,_=>h
 | a :: l, m, h, c => by
   rw[maxL];refine ZqV l _ ?_ (fun x d=>c x (Yam _ d));split
   · exact c a (Yay ..)
   · exact h
theorem Zq5:∀(l:List Int) (m:Int),vOk m->(∀x∈l,vOk x)->vOk (minL m l)
 | [],m,h,_=>h
 | a :: l, m, h, c => by
   rw[minL];refine Zq5 l _ ?_ (fun x d=>c x (Yam _ d));split
   · exact c a (Yay ..)
   · exact h
theorem ZwS(c:∀x∈l,vOk x):vOk (l.headD 0):=by
 cases l with
 | nil=>unfold vOk;decide
 | cons a l=>exact c a (Yay ..)
theorem ZxP(c:∀x∈l,vOk x):vOk (l.getLastD 0):=by
 cases l with
 | nil=>unfold vOk;decide
 | cons a l=>rw[Yel,<-Ye6 (by simp)];exact c _ (List.getLast_mem _)
theorem ZDl {op:Nat} (f : op <= 4) (l : List Int) (g : l.length <= 10000) (a : ∀ y ∈ l, vOk y) (w : World) : Cz 207 #[talV l, Vi op] w fun e u => e = .returned (Vi (cutV (ZfI op l))) /\ BW w u := by
  have c:=ZwS a;have d:=ZxP a;have e1:=Zlh (ZqV l _ c a);have e2:=Zlh (Zq5 l _ c a);have e3:cutV _=l.length:=Zlh (by unfold vOk;omega);unfold ZfI talV talC;unfold vOk at c d;generalize maxL (l.headD 0) l=mx at *
  generalize minL (l.headD 0) l=mn at *
  generalize l.headD 0=hd at *
  generalize l.getLastD 0=la at *
  generalize l.sum=sm at *
  generalize l.length=ln at *
  rcases(by omega:op=0∨op=1∨op=2∨op=3∨op=4)with rfl|rfl|rfl|rfl|rfl
  · simp only[if_true]
    go_enter func207,ntmps207
    go_wp2_with (go_at_call 229;refine cret (ZiJ) ?_)
    go_ret;exact⟨rfl,belB⟩
  · simp only[Nat.one_ne_zero,if_false,if_true,e1]
    go_enter func207,ntmps207;go_wp2;go_ret;exact⟨rfl,belB⟩
  · rw[if_neg Dc,if_neg Dc,if_pos rfl,e2]
    go_enter func207,ntmps207;go_wp2;go_ret;exact⟨rfl,belB⟩
  · rw[if_neg Dc,if_neg Dc,if_neg Dc,if_pos rfl,e3]
    go_enter func207,ntmps207;go_wp2;go_ret;exact⟨rfl,belB⟩
  · rw[if_neg Dc,if_neg Dc,if_neg Dc,if_neg Dc]
    go_enter func207,ntmps207
    go_wp2_with (go_at_call 229;refine cret (ZiJ) ?_)
    go_ret;exact⟨rfl,belB⟩
theorem ZgR {a:Option Addr} {c:Nat} {tx:BA}  : Cz 151 #[.agg #[.slice a n c, .string tx]] w fun e u => e = .returned (.string tx) /\ ∃ o, u = w.alloc o := by
  go_enter func151,ntmps151;go_wp2;go_ret;exact⟨rfl,_,rfl⟩
open Go.Proofs.Tryz
open Go.RowKit Go.Extern.Stop Go.Stop Go.Extern LS
def ZoX : Array Value → Sem Value := ReflectliteType.method fun t => do Rtype.noPackHeld "Comparable" t; pure (.bool (← typeInfo t).comparable)
theorem Tryz.isTypeOf(v:Value)(w:World):(Extern.ReflectliteType.typeOf #[.iface 432 v]).run Tryz.prog w=.ok (.iface 209 (.agg #[.pointer (some ⟨20,432,none⟩)])) w:=by kernel_rfl
theorem Tryz.isComparable(w:World):(ZoX #[.agg #[.pointer (some ⟨20,432,none⟩)]]).run Tryz.prog w=.ok (.bool true) w:=by kernel_rfl
theorem Tryz.isMethodComparable (v : Value) (w : World) : (Go.method 562 209 v "Comparable").run Tryz.prog w = .ok (324, v) w := by kernel_rfl
theorem Tryz.isComp:(Tryz.prog.info? 432).map (·.comparable)=some true:=by kernel_rfl
theorem Tryz.isSize:(Tryz.prog.info? 451).map (·.size)=some 1:=by kernel_rfl
theorem Tryz.noIsE(v:Value)(xT:TypeId)(w:World):(Instr.typeAssert (.iface 432 v) xT 211 true).run Tryz.prog w=.ok (.tuple #[.nilIface,.bool false]) w:=run_typeAssert_lacksB Tryz.underlying211 Kr Kr v _ w
theorem Tryz.noUnwrapE(v:Value)(xT:TypeId)(w:World):(Instr.typeAssert (.iface 432 v) xT 214 true).run Tryz.prog w=.ok (.tuple #[.nilIface,.bool false]) w:=run_typeAssert_lacksB Tryz.underlying214 Kr Kr v _ w
theorem Tryz.noUnwrapsE(v:Value)(xT:TypeId)(w:World):(Instr.typeAssert (.iface 432 v) xT 215 true).run Tryz.prog w=.ok (.tuple #[.nilIface,.bool false]) w:=run_typeAssert_lacksB Tryz.underlying215 Kr Kr v _ w
theorem Tryz.noIsW(v:Value)(xT:TypeId)(w:World):(Instr.typeAssert (.iface 81 v) xT 211 true).run Tryz.prog w=.ok (.tuple #[.nilIface,.bool false]) w:=run_typeAssert_lacksB Tryz.underlying211 Kr Kr v _ w
theorem Tryz.hasUnwrapW(v:Value)(xT:TypeId)(w:World):(Instr.typeAssert (.iface 81 v) xT 214 true).run Tryz.prog w=.ok (.tuple #[.iface 81 v,.bool true]) w:=run_typeAssert_hasB Tryz.underlying214 Kr v _ w
theorem Tryz.methodUnwrap (v : Value) (w : World) : (Go.method 562 81 v "Unwrap").run Tryz.prog w = .ok (312, v) w := by kernel_rfl
theorem Zhn (args : Array Value) (w : World) : (callFunc 57 args).run prog w = ((ReflectliteType.typeOf args).run prog w).andThen fun v u => .ok (.value v) u :=
  run_callFunc_extern func57 Kr Kr Kr Kr args w
theorem Zkz (args : Array Value) (w : World) : (callFunc 324 args).run prog w = ((ZoX args).run prog w).andThen fun v u => .ok (.value v) u :=
  run_callFunc_extern func324 Kr Kr Kr Kr args w
theorem Zf7{a:Addr} :
  Cz 32 #[.iface 432 (.pointer (some a)),.iface 432 (.pointer (some a))] w fun e u=>e=.returned (.bool true)/\u=w:=by
 obtain⟨i,d,c⟩:=Ybk.1 Tryz.isComp;obtain⟨j,f,g⟩:=Ybk.1 Tryz.isSize;have l:=Zhn;have h:=Zkz;have tT:=Tryz.isTypeOf;have cT:=Tryz.isComparable;have mR:=Tryz.isMethodComparable;have k:=run_eql_iface_ptr_same w a underlying46 underlying432 d c f;go_enter func32,ntmps32;go_wp2;refine wp_loop_rounds 1 ?_;rw[rounds_succ];go_wp2;go_ret;exact⟨rfl,rfl⟩
theorem Zxl{b:Addr} :
  Cz 32 #[.nilIface,.iface 432 (.pointer (some b))] w fun e u=>e=.returned (.bool false)/\u=w:=by
 have a:=run_eql_iface_nil_left w 432 (.pointer (some b)) underlying46;go_enter func32,ntmps32;go_wp2;go_ret;exact⟨rfl,rfl⟩
theorem Zxm{a b:Addr}{ta tb:TypeId}(d:a≠b)(g:w.heap[a.block]?=some (.cells ca ta (0,0)))(h:w.heap[b.block]?=some (.cells cb tb (0,0))) :
  Cz 32 #[.iface 432 (.pointer (some a)),.iface 432 (.pointer (some b))] w fun e u=>e=.returned (.bool false)/\u=w:=by
 obtain⟨i,k,c⟩:=Ybk.1 Tryz.isComp;obtain⟨j,l,f⟩:=Ybk.1 Tryz.isSize;have o:=Zhn;have m:=Zkz;have tT:=Tryz.isTypeOf;have cT:=Tryz.isComparable;have mR:=Tryz.isMethodComparable;have nE:=Tryz.noIsE;have uE:=Tryz.noUnwrapE;have vE:=Tryz.noUnwrapsE;have nW:=Tryz.noIsW;have uW:=Tryz.hasUnwrapW;have mU:=Tryz.methodUnwrap;have n:=run_eql_iface_ptr_other w underlying46 underlying432 k c l (by rw[f];decide) d g h;go_enter func32,ntmps32;go_wp2;refine wp_loop_rounds 1 ?_;rw[rounds_succ];go_wp2;go_ret;exact⟨rfl,rfl⟩
theorem Zf8{b:Addr}(l:w.cell? ⟨pb,2,none⟩=some (.iface 432 (.pointer (some b)))) :
  Cz 32 #[.iface 81 (Vp pb),.iface 432 (.pointer (some b))] w fun e u=>e=.returned (.bool true)/\u=w:=by
 obtain⟨i,c,a⟩:=Ybk.1 Tryz.isComp;obtain⟨j,d,f⟩:=Ybk.1 Tryz.isSize;have m:=Zhn;have g:=Zkz;have tT:=Tryz.isTypeOf;have cT:=Tryz.isComparable;have mR:=Tryz.isMethodComparable;have nE:=Tryz.noIsE;have uE:=Tryz.noUnwrapE;have vE:=Tryz.noUnwrapsE;have nW:=Tryz.noIsW;have uW:=Tryz.hasUnwrapW;have mU:=Tryz.methodUnwrap;have h:=run_eql_iface_ptr_same w b underlying46 underlying432 c a d;have k:=run_eql_iface_types 81 432 (Vp pb) (.pointer (some b)) underlying46 Dc w;go_enter func32,ntmps32;go_wp2;refine wp_loop_rounds 2 ?_;rw[rounds_succ];go_wp2;rw[rounds_succ];go_wp2;go_ret;exact⟨rfl,rfl⟩
theorem Zxn{b a:Addr}{ta tb:TypeId}(p:w.cell? ⟨pb,2,none⟩=some (.iface 432 (.pointer (some a))))(d:a≠b)(g:w.heap[a.block]?=some (.cells ca ta (0,0)))(h:w.heap[b.block]?=some (.cells cb tb (0,0))) :
  Cz 32 #[.iface 81 (Vp pb),.iface 432 (.pointer (some b))] w fun e u=>e=.returned (.bool false)/\u=w:=by
 obtain⟨i,k,c⟩:=Ybk.1 Tryz.isComp;obtain⟨j,l,f⟩:=Ybk.1 Tryz.isSize;have q:=Zhn;have m:=Zkz;have tT:=Tryz.isTypeOf;have cT:=Tryz.isComparable;have mR:=Tryz.isMethodComparable;have nE:=Tryz.noIsE;have uE:=Tryz.noUnwrapE;have vE:=Tryz.noUnwrapsE;have nW:=Tryz.noIsW;have uW:=Tryz.hasUnwrapW;have mU:=Tryz.methodUnwrap;have n:=run_eql_iface_ptr_other w underlying46 underlying432 k c l (by rw[f];decide) d g h;have o:=run_eql_iface_types 81 432 (Vp pb) (.pointer (some b)) underlying46 Dc w;go_enter func32,ntmps32;go_wp2;refine wp_loop_rounds 2 ?_;rw[rounds_succ];go_wp2;rw[rounds_succ];go_wp2;go_ret;exact⟨rfl,rfl⟩
theorem ZmD{e:TypeId}{g cap:Nat}(h:w.ownsRow base e 1 (.slice (some ⟨g,0,none⟩) n cap) n xs)(i:Nat)(u:Value):(w.setCell ⟨g,i,none⟩ u).ownsRow base e 1 (.slice (some ⟨g,0,none⟩) n cap) n (xs.set i u):=by
 obtain⟨m,h⟩:=h;refine⟨by rwa [Yat],?_⟩;rcases h with ⟨h,_⟩|⟨g',cap',cur,c,d,f,j,k,l,a⟩
 ·cases h
 ·injection c with h1 _ h3;injection h1 with h1;injection h1 with h1;subst h1 h3;refine .inr ⟨g,cap,cur.setIfInBounds i u,rfl,d,?_,j,k,by simpa using l,?_⟩
  ·simp[World.setCell,Ybn,f]
  ·rw[Yej]at a ⊢;rw[<-a,Yeq,List.take_set]
theorem ZB6{c:Nat}(k:Nat){f:Nat->Value}(a:k<c):((List.range k).map f++List.replicate (c - k) z).set k (f k)=(List.range (k+1)).map f++List.replicate (c - (k+1)) z:=by
 have e:c - k=(c - (k+1))+1:=by omega
 rw[e,List.replicate_succ,Yd5 _ _ (by simp),List.range_succ,Yaq,Yan];simp
theorem Tryz.infoInt3:(Tryz.prog.info? 3).map (fun i=>(i.zero,i.size,i.bytes))=some (some (Vi 0),1,8):=by kernel_rfl
theorem Zf9 {t:Int}  : Cz 90 #[Vi t] w fun e u => e = .returned (.bool (decide (-1000000 <= t) && decide (t <= 1000000))) /\ u = w := by
  by_cases a : -1000000<=t
  · by_cases c:t<=1000000
    · rw[show(decide _ && decide _)=true by simp;omega]
      go_enter func90,ntmps90;go_wp2;go_ret;exact⟨rfl,rfl⟩
    · rw[show(decide _ && decide _)=false by simp;omega]
      go_enter func90,ntmps90;go_wp2;go_ret;exact⟨rfl,rfl⟩
  · rw[show(decide _ && decide _)=false by simp;omega]
    go_enter func90,ntmps90;go_wp2;go_ret;exact⟨rfl,rfl⟩
open Go.ChangeMaps (setBlock)
section
variable {w w' w1 w2:World} {S S1:Nat->Prop} {b N k:Nat} {f:Nat->Option Int} {v:Int}
structure KeepS (S:Nat->Prop) (w w':World):Prop where
 os:w'.os=w.os
 tape:w'.tape=w.tape
 output:w'.output=w.output
 size:w.heap.size<=w'.heap.size
 block:∀k,k<w.heap.size->¬S k->w'.heap[k]?=w.heap[k]?
theorem KeepS.refl(S:Nat->Prop)(w:World):KeepS S w w:=⟨rfl,rfl,rfl,Yac _,fun _ _ _=>rfl⟩
theorem KeepS.trans(h:KeepS S w w1)(q:KeepS S1 w1 w2)(d:∀j,S1 j->j<w.heap.size->S j):KeepS S w w2:=⟨q.os.trans h.os,q.tape.trans h.tape,q.output.trans h.output,Yah h.size q.size,fun j a c=>(q.block j (Yaw a h.size) (fun e=>c (d j e a))).trans (h.block j a c)⟩
theorem KeepS.grown(h:w.grownBy w' r)(a:∀j,r=some j->S j):KeepS S w w':=⟨h.os,h.tape,h.output,h.size,fun j c d=>h.block j c (fun e=>d (a j e.symm))⟩
theorem KeepS.ofBelow(S:Nat->Prop)(h:BW w w'):KeepS S w w':=⟨h.os,h.tape,h.output,h.size,fun j a _=>h.block j a⟩
theorem KeepS.below{B:Nat}(h:KeepS S w w')(a:∀j,S j->B<=j)(c:B<=w.heap.size):Below B w w':=⟨h.os,h.tape,h.output,h.size,fun j d=>h.block j (Yaw d c) (fun e=>by have:=a j e;omega)⟩
theorem KeepS.bat(h:KeepS S w w'){t:TypeId}(d:BAt w a c t)(e:¬S a):BAt w' a c t:=(h.block a d.lt e).trans d
theorem KeepS.own(h:KeepS S w w'){e:TypeId}(a:w.ownsRow base e sz u n xs)(d:∀j,u.ownBlock=some j->¬S j):w'.ownsRow base e sz u n xs:=ZdA a (fun j c=>h.block j (a.lt j c).2 (d j c))
def kI(k:Nat):Lit:=.int .i64 (k:Int)
theorem Zjo{a b:Nat}(h:kI a=kI b):a=b:=by
 unfold kI at h;simp_all;omega
theorem Zhl{k:Nat}(a:k<9223372036854775808):(Lit.int .i64 (k:Int)).wf=true:=by
 show(decide (IntKind.i64.min<=(k:Int)) && decide ((k:Int)<=IntKind.i64.max))=true;rw[show IntKind.i64.min=-9223372036854775808 from rfl,show IntKind.i64.max=9223372036854775807 from rfl,Yas]
 simp_all;omega
theorem Zgc{a b:Int}(h:(DataW.lit (.int .i64 a):DataW Unit)=.lit (.int .i64 b)):a=b:=by simp_all
theorem Zjp{k:Nat}(a:k<9223372036854775808):keyOf prog 3 (.int .i64 (k:Int))=some (kI k):=Maps.keyOf_int_mk underlying3 (Zhl a)
theorem intK:Maps.Keyed prog 3:=Maps.int_keyed underlying3
theorem Zz4{R:Value->Option (DataW Unit×List MemPlace)}{kt:TypeId}(h:w.ownsMap prog kt R b n D)(a:Maps.size D<=N):w.ownsMap prog kt R b N D:=by
 obtain⟨es,cl,d,e,g,c⟩:=h;refine⟨es,cl,d,e,?_,c⟩;rw[c]at a;simpa [Maps.size,length_sorted] using a
theorem pig : ∀ (N : Nat) (es : List (Lit × DataW Unit)), es.Pairwise (fun p q => p.1 ≠ q.1) -> (∀ p ∈ es, ∃ k, k < N /\ p.1 = kI k) -> es.length <= N
  | 0,[],_,_=>Yac _
  | 0,p::_,_,h=>by obtain⟨k,g,_⟩:=h p (Yay ..);omega
  | N + 1, es, c, h => by
    have i:=Maps.length_strike (k:=kI N) es c
    have j := pig N (es.filter fun p => !p.1.sameKey (kI N)) (c.filter _) (fun p a => by
      rw[Ycg]at a;obtain⟨k,g,e⟩:=h p a.1;refine⟨k,?_,e⟩;rcases Yav k N with d|d
      · exact d
      · obtain rfl:k=N:=by omega
        rw[e,Ydq (by trivial)]at a
        simp_all)
    split at i <;> omega
def MapZ(w:World)(b N:Nat)(f:Nat->Option Int):Prop:=∃D:DataW Unit,w.ownsMap prog 3 (plainElem prog 3) b N D/\(∀l,Maps.has D l=true->∃k,k<N/\l=kI k)/\∀k,k<N->(f k=none->Maps.has D (kI k)=false)/\∀v,f k=some v->Maps.has D (kI k)=true/\∀z,D.atKey (kI k) z=.lit (.int .i64 v)
theorem MapZ.lt(h:MapZ w b N f):b<w.heap.size:=by obtain⟨D,a,_⟩:=h;exact a.lt
theorem MapZ.move(h:MapZ w b N f)(a:w'.heap[b]?=w.heap[b]?):MapZ w' b N f:=by
 obtain⟨D,⟨es,cl,c,d⟩,e⟩:=h;exact⟨D,⟨es,cl,a.trans c,d⟩,e⟩
theorem MapZ.obj(h:MapZ w b N f):∃es cl,w.heap[b]?=some (.map es cl):=by
 obtain⟨D,⟨es,cl,a,_⟩,_⟩:=h
 simp_all
theorem MapZ.congr(h:MapZ w b N f){g:Nat->Option Int}(d:∀k,k<N->g k=f k):MapZ w b N g:=by
 obtain⟨D,a,c,e⟩:=h;exact⟨D,a,c,fun k i=>by simp_all⟩
theorem ZCj(h:w.ownsMap prog 3 (plainElem prog 3) b n D)(d:∀l,Maps.has D l=true->∃k,k<N/\l=kI k):w.ownsMap prog 3 (plainElem prog 3) b N D:=by
 obtain⟨es,rfl,e,a⟩:=h.entries intK;exact Zz4 h (pig N _ e (fun p c=>d _ (Ycz.2 ⟨p,c,Ydq (a p c)⟩)))
theorem MapZ.made(w:World)(N:Nat):MapZ (w.alloc (.map #[] 0)) w.heap.size N (fun _=>none):=⟨.map _,(World.ownsMap_made w _ _ _).mono (Yag _),fun l h=>(by cases h),fun k _=>⟨fun _=>rfl,fun v h=>(by cases h)⟩⟩
theorem MapZ.look(h:MapZ w b N f)(d:k<N)(p:N<9223372036854775808)(W:World)(e:W.heap[b]?=w.heap[b]?):(Instr.lookup 169 (.map (some b)) (.int .i64 (k:Int)) true).run prog W=.ok (.tuple #[.int .i64 ((f k).getD 0),.bool (f k).isSome]) W:=by
 obtain⟨D,g,q,i⟩:=h.move e;obtain⟨v,ps,j,l⟩:=g.look_ok intK underlying169 (zeroValue3 _) (plainElem_int underlying3 Dc) (Zjp (k:=k) Om);obtain⟨c,rfl,m,_⟩:=plainElem_int_inv underlying3 l;have a:D.atKey _ _=.lit _:=congrArg Prod.fst m;rw[j];cases n:f k with
 | none=>
  have o:=(i k d).1 n;rw[Maps.atKey_of_not_has o]at a
  simp_all
 | some u=>
  simp_all
theorem MapZ.get(h:MapZ w b N f)(a:k<N)(m:N<9223372036854775808)(W:World)(d:W.heap[b]?=w.heap[b]?):(Instr.lookup 169 (.map (some b)) (.int .i64 (k:Int)) false).run prog W=.ok (.int .i64 ((f k).getD 0)) W:=by
 obtain⟨D,e,n,g⟩:=h.move d;obtain⟨c,i,j,_⟩:=e.lookup_int intK underlying169 underlying3 (zeroValue3 _) (Zjp (k:=k) Om);rw[i];cases l:f k with
 | none=>
  rw[Maps.atKey_of_not_has ((g k a).1 l)]at j
  simp_all
 | some u=>
  simp_all
theorem MapZ.put(h:MapZ w b N f)(o:k<N)(B:N<9223372036854775807)(p:(Lit.int .i64 v).wf=true)(W:World)(q:W.heap[b]?=w.heap[b]?) :
  ∃c,(Instr.mapUpdate 169 (.map (some b)) (.int .i64 (k:Int)) (.int .i64 v)).run prog W=.ok () c/\MapZ c b N (fun j=>if j=k then some v else f j)/\W.grownBy c (some b):=by
 obtain⟨D,m,C,r⟩:=h.move q;obtain⟨c,s,t,x⟩:=m.update intK underlying169 (by assumption) (Zjp (k:=k) Om) (plainElem_int underlying3 p);have n:=m.isMap;have i:WideAt.IsKeyLit (kI k):=by trivial
 have a : ∀ l, Maps.has (D.put _ (.lit (.int .i64 v))) l = true -> ∃ j, j < N /\ l = kI j := fun l y => by
   by_cases e:l=kI k
   · exact⟨k,o,e⟩
   · rw[Maps.has_put_other e]at y;simp_all
 refine⟨c,s,⟨_,ZCj t a,a,fun j A=>?_⟩,x⟩;by_cases e:j=k
 ·subst e;simp only[if_pos];refine⟨fun h=>(by cases h),fun u d=>?_⟩;injection d with d;subst d;exact⟨Maps.has_put_same n i _,fun z=>Maps.atKey_put_same n i _ z⟩
 ·have g:kI j≠kI k:=fun h=>e (Zjo h);simp only[if_neg e];refine⟨fun h=>by rw[Maps.has_put_other g];simp_all,fun u d=>?_⟩;rw[Maps.has_put_other g];exact⟨((r j A).2 u d).1,fun z=>by rw[Maps.atKey_put_other g];simp_all⟩
theorem MapZ.del(h:MapZ w b N f)(g:k<N)(t:N<9223372036854775808)(W:World)(i:W.heap[b]?=w.heap[b]?) :
  ∃a,(∀ty,(Builtin.delete_ #[169,3] ty #[.map (some b),.int .i64 (k:Int)]).run prog W=.ok (.tuple #[]) a)/\MapZ a b N (fun j=>if j=k then none else f j)/\W.grownBy a (some b):=by
 obtain⟨D,m,x,n⟩:=h.move i;obtain⟨a,o,p,q⟩:=m.drop intK underlying169 (Zjp (k:=k) Om) 0;refine⟨a,fun ty=>o,⟨_,p,fun l r=>?_,fun j s=>?_⟩,q.grown⟩
 ·by_cases e:l=kI k
  ·exact⟨k,g,e⟩
  ·rw[Maps.has_del_other e]at r;simp_all
 ·by_cases e:j=k
  ·subst e;simp only[if_pos];exact⟨fun _=>Maps.has_del_same,fun u d=>(by cases d)⟩
  ·have c:kI j≠kI k:=fun h=>e (Zjo h);simp only[if_neg e];refine⟨fun h=>by rw[Maps.has_del_other c];simp_all,fun u d=>?_⟩;rw[Maps.has_del_other c];exact⟨((n j s).2 u d).1,fun z=>by rw[Maps.atKey_del_other c];simp_all⟩
theorem MapZ.clear (h : MapZ w b N f) (W : World) (d : W.heap[b]? = w.heap[b]?) : ∃ c, (∀ T, (Builtin.clear_ #[169] T #[.map (some b)]).run prog W = .ok (.tuple #[]) c) /\ MapZ c b N (fun _ => none) /\ W.grownBy c (some b) := by
  obtain⟨es,cl,a⟩:=h.obj;rw[<-d]at a;have g:=(Yae.1 a).1;refine⟨setBlock W b (.map #[] cl),?_,⟨.map _,⟨#[],cl,by simp[setBlock,g],?_,Yag _,rfl⟩,fun l h=>(by cases h),fun k _=>⟨fun _=>rfl,fun v h=>(by cases h)⟩⟩,⟨rfl,rfl,rfl,by simp[setBlock],fun i _ j=>by simp[setBlock,show b≠i from fun e=>j (by rw[e])]⟩⟩
  · intro T
    simp[Builtin.clear_,run_underlying _,Ybt a,Ych _ a,Result.andThen,setBlock]
  · exact⟨by simp,⟨by simp,by simp,by simp⟩,by simp⟩
end
end
section
def insC(x:Nat×Nat):List Value:=[Vi x.1,Vi x.2]
def nI:Option Nat->Int
 | none=>-1
 | some n=>n
def nodC(x:Nq):List Value:=[Vi x.op,Vi x.arg,Vi (nI x.fs),Vi (nI x.sn)]
def intC(n:Nat):Value:=Vi (n:Int)
theorem ZgL{α:Type}(g:α->List Value)(s:Nat)(a:∀x,(g x).length=s):∀(l:List α) (i j:Nat) (d:i<l.length),j<s->(l.flatMap g)[i*s+j]?=(g l[i])[j]?
 | [],i,_,d,_=>absurd d (Ya1 _)
 | x::l,0,j,_,e=>by rw[Ycd,Nat.zero_mul,Ycf,Ybr (by simp_all)];rfl
 | x :: l, i + 1, j, d, e => by
   rw[Ycd,Yb3 (by rw[a,Yfv];omega),a,show(i+1)*s+j - s=i*s+j by rw[Yfv];omega];exact ZgL g s a l i j (by simp_all) e
structure NOne (i:Nat) (x:Nq):Prop where
 low:∀t∈Zg x,t<i
 sn:x.fs=none->x.sn=none
 neg:x.op=4->∃a,x.fs=some a
 or:x.op=10->∃a b,x.fs=some a/\x.sn=some b
 op:x.op<=10
 ar : -1000000000<=x.arg/\x.arg<=1000000000
 nn:x.op≠0->0<=x.arg
def NOk(l:List Nq):Prop:=∀i (h:i<l.length),NOne i l[i]
structure CX where
 base:Nat
 cb:Nat
 gb:Nat
 lb:Nat
 sb:Nat
 tb:Nat
 nb:Nat
 lc:Nat
 nc:Nat
 gc:List Value
 jx:List Nq
def CX.chg(X:CX)(cv iv:Value)(k:Nat):Prop:=k=X.cb∨k=X.lb∨k=X.sb∨k=X.tb∨cv.ownBlock=some k∨iv.ownBlock=some k
def coC(X:CX)(cv iv:Value):List Value:=[Vp X.gb,.slice (some ⟨X.lb,0,none⟩) X.jx.length X.lc,.map (some X.sb),.map (some X.tb),cv,iv]
structure Co (w:World) (X:CX) (cv iv:Value) (c:Cq):Prop where
 box:BAt w X.cb (coC X cv iv) 171
 gbox:BAt w X.gb X.gc 176
 gn:X.gc[2]?=some (.slice (some ⟨X.nb,0,none⟩) X.jx.length X.nc)
 nrow:w.ownsRow X.base 232 4 (.slice (some ⟨X.nb,0,none⟩) X.jx.length X.nc) X.jx.length (X.jx.flatMap nodC)
 left:w.ownsRow X.base 3 1 (.slice (some ⟨X.lb,0,none⟩) X.jx.length X.lc) X.jx.length (c.left.map intC)
 jy:MapZ w X.sb 16 (fun s=>c.jy.getD s none)
 slen:c.jy.length=16
 tak:∃f,MapZ w X.tb X.jx.length f
 cons:w.ownsRow X.base 3 1 cv c.jq.length (c.jq.map (Value.int .i64))
 jz:w.ownsRow X.base 159 2 iv c.jz.length (c.jz.flatMap insC)
 ne1:cv.ownBlock≠some X.lb
 ne2:X.sb≠X.tb
 bas:X.base<=X.cb/\X.base<=X.sb/\X.base<=X.tb
 bsz:X.base<=w.heap.size
 nsz:X.jx.length<=1000000
 nok:NOk X.jx
 lbd:∀j,c.left.getD j 0<=1000000000
section
variable {w w' w1 w2:World} {X:CX} {cv iv cv' iv':Value} {c c':Cq}
theorem Co.llen(h:Co w X cv iv c):c.left.length=X.jx.length:=by have:=h.left.1;simp_all
def ZdM(w:World)(v v':Value):Prop:=∀k,v'.ownBlock=some k->v.ownBlock=some k∨w.heap.size<=k
def CoP(w w':World)(X:CX)(cv iv:Value)(c':Cq):Prop:=∃cv' iv',Co w' X cv' iv' c'/\KeepS (X.chg cv iv) w w'/\ZdM w cv cv'/\ZdM w iv iv'
theorem CoP.refl(h:Co w X cv iv c):CoP w w X cv iv c:=⟨cv,iv,h,KeepS.refl _ _,fun _ h=>.inl h,fun _ h=>.inl h⟩
theorem ZdM.trans {v1 v2:Value} (h : ZdM w v v1) (q : ZdM w1 v1 v2) (e : w.heap.size <= w1.heap.size) : ZdM w v v2 := fun k d => by
  rcases q k d with a|a
  · exact h k a
  omega
theorem CoP.trans{c1:Cq}{cv1 iv1:Value}(a:KeepS (X.chg cv iv) w w1)(f1:ZdM w cv cv1)(f2:ZdM w iv iv1)(q:CoP w1 w2 X cv1 iv1 c1):CoP w w2 X cv iv c1:=by
 obtain⟨cv2,iv2,d,e,f,g⟩:=q;refine⟨cv2,iv2,d,a.trans e (fun j i k=>?_),f1.trans f a.size,f2.trans g a.size⟩;rcases i with h|h|h|h|h|h
 ·exact .inl h
 ·exact .inr (.inl h)
 ·exact .inr (.inr (.inl h))
 ·exact .inr (.inr (.inr (.inl h)))
 ·rcases f1 j h with h|h
  ·exact .inr (.inr (.inr (.inr (.inl h))))
  ·omega
 ·rcases f2 j h with h|h
  ·exact .inr (.inr (.inr (.inr (.inr h))))
  ·omega
theorem Co.keep{S:Nat->Prop}(h:Co w X cv iv c)(a:KeepS S w w')(g:¬S X.cb)(i:¬S X.gb)(p:¬S X.nb)(q:¬S X.lb)(l:¬S X.sb)(m:¬S X.tb)(n:∀k,cv.ownBlock=some k->¬S k)(o:∀k,iv.ownBlock=some k->¬S k):Co w' X cv iv c:=
 ⟨a.bat h.box g, a.bat h.gbox i, h.gn, a.own h.nrow (fun j d => by injection d with d; simp_all), a.own h.left (fun j d => by injection d with d; simp_all), h.jy.move (a.block _ h.jy.lt l), h.slen, by
   obtain⟨f,e⟩:=h.tak;exact⟨f,e.move (a.block _ e.lt m)⟩,a.own h.cons n,a.own h.jz o,h.ne1,h.ne2,h.bas,Yah h.bsz a.size,h.nsz,h.nok,h.lbd⟩
theorem Co.below(h:Co w X cv iv c)(a:BW w w'):Co w' X cv iv c:=h.keep (KeepS.ofBelow _ a) id id id id id id (fun _ _=>id) (fun _ _=>id)
theorem ZbU  {es : Array MapEntry} {cl : Nat}  {T : TypeId} {fr : Nat × Nat} (h : w.heap[a]? = some (.map es cl)) (q : w.heap[k]? = some (.cells cs T fr)) : a ≠ k := fun e => by
  simp_all
theorem Zcw{e:TypeId}(h:w.ownsRow base e sz v n xs)(a:v.ownBlock=some k):∃cs fr,w.heap[k]?=some (.cells cs e fr):=by
 rcases h.2 with ⟨d,_⟩|⟨g,cap,cur,f,_,i,_⟩
 ·rw[d]at a;cases a
 ·rw[f]at a;injection a with a
  simp_all
theorem Zc7{cs':Array Value}{T T':TypeId}{fr':Nat×Nat}(h:w.heap[k]?=some (.cells cs T fr))(q:w.heap[k]?=some (.cells cs' T' fr')):T=T':=by
 simp_all
structure CoN (X:CX) (cv iv:Value):Prop where
 cg:X.cb≠X.gb
 cn:X.cb≠X.nb
 cl:X.cb≠X.lb
 cs:X.cb≠X.sb
 ct:X.cb≠X.tb
 cc:cv.ownBlock≠some X.cb
 ci:iv.ownBlock≠some X.cb
 gl:X.gb≠X.lb
 gs:X.gb≠X.sb
 gt:X.gb≠X.tb
 gcv:cv.ownBlock≠some X.gb
 giv:iv.ownBlock≠some X.gb
 nl:X.nb≠X.lb
 ns:X.nb≠X.sb
 nt:X.nb≠X.tb
 ncv:cv.ownBlock≠some X.nb
 niv:iv.ownBlock≠some X.nb
 ls:X.lb≠X.sb
 lt:X.lb≠X.tb
 lcv:cv.ownBlock≠some X.lb
 liv:iv.ownBlock≠some X.lb
 st:X.sb≠X.tb
 scv:cv.ownBlock≠some X.sb
 siv:iv.ownBlock≠some X.sb
 tcv:cv.ownBlock≠some X.tb
 tiv:iv.ownBlock≠some X.tb
 civ:∀k,cv.ownBlock=some k->iv.ownBlock≠some k
theorem Co.ne(h:Co w X cv iv c):CoN X cv iv:=by
 obtain⟨nc,nf,i⟩:=Zcw h.nrow rfl;obtain⟨lc,lf,j⟩:=Zcw h.left rfl;obtain⟨e1,c1,l⟩:=h.jy.obj;obtain⟨f,q⟩:=h.tak;obtain⟨e2,c2,m⟩:=q.obj;have g:=h.box;have n:=h.gbox;have C:∀ {k},cv.ownBlock=some k->∃cs fr,w.heap[k]?=some (.cells cs 3 fr):=fun d=>Zcw h.cons d;have I:∀ {k},iv.ownBlock=some k->∃cs fr,w.heap[k]?=some (.cells cs 159 fr):=fun d=>Zcw h.jz d;have T:∀ {a k:Nat} {cs cs':Array Value} {T T':TypeId} {fr fr':Nat×Nat},w.heap[a]?=some (.cells cs T fr)->w.heap[k]?=some (.cells cs' T' fr')->T≠T'->a≠k:=fun o r p e=>by simp_all
 have CT:∀ {a:Nat} {cs:Array Value} {T':TypeId} {fr:Nat×Nat},w.heap[a]?=some (.cells cs T' fr)->T'≠3->cv.ownBlock≠some a:=fun o p d=>by simp_all
 have IT:∀ {a:Nat} {cs:Array Value} {T':TypeId} {fr:Nat×Nat},w.heap[a]?=some (.cells cs T' fr)->T'≠159->iv.ownBlock≠some a:=fun o p d=>by simp_all
 have CM:∀ {a:Nat} {es:Array MapEntry} {cl:Nat},w.heap[a]?=some (.map es cl)->cv.ownBlock≠some a:=fun o d=>by simp_all
 have IM:∀ {a:Nat} {es:Array MapEntry} {cl:Nat},w.heap[a]?=some (.map es cl)->iv.ownBlock≠some a:=fun o d=>by simp_all
 exact ⟨T g n Dc, T g i Dc, T g j Dc, (ZbU l g).symm, (ZbU m g).symm, CT g Dc, IT g Dc, T n j Dc, (ZbU l n).symm, (ZbU m n).symm, CT n Dc, IT n Dc, T i j Dc, (ZbU l i).symm, (ZbU m i).symm, CT i Dc, IT i Dc, (ZbU l j).symm, (ZbU m j).symm, h.ne1, IT j Dc, h.ne2, CM l, IM l, CM m, IM m, fun k d s => by
   obtain⟨_,_,o⟩:=C d
   simp_all⟩
end

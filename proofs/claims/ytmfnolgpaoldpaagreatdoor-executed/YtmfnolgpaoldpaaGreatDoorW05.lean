/- Parts. -/
import Derived.Test.YtmfnolgpaoldpaaGreatDoorW04
set_option linter.all false
set_option maxRecDepth 100000
set_option maxHeartbeats 16000000
namespace Go.Proofs.YtmfnolgpaoldpaaGreatDoor
open Go.RowKit LS Go.Proofs.Tryz
variable {c:Array Value}{s:BA}{close:LB}{qs:List BA}{l xs:List Value}{r ts z:List Yg}{ns:List<|LB×LB×Bool}{L M a b base deep k m n size:Nat}{rec:Nat->List Yg->Nat->Yl Tr}{e fr:Nat×Nat}{R:RS}{pv v:Value}{W w w' w0:World}{r3 rr:Yl Unit}
theorem oG{pv':Value}(c:Yw b pv w pv' w')(d:pv.ownBlock≠some a)(f:a<w.heap.size):pv'.ownBlock≠some a:=by
 rcases c.own with e|e
 .rw[e];exact d
 .intro h;have:=e a h;omega
theorem XF.box{w:World}{xs:List Value}{a:Nat}{p0:PV}(d:Yq w a p0)(o:Nat)(x:Value):∀(t:Tr)(i:Nat),XF w xs t i->XF (w.setCell ⟨a,o,none⟩ x) xs t i
 |.nil,_,_=>trivial
 |.node _ _ nd l r,i,h=>by
  obtain⟨p,u,c,e,⟨g1,g2,g3,g4,⟨qs,q1,q2⟩,⟨bs,b1,b2⟩⟩,f,g,j,k,m,n⟩:=h;exact⟨p,u,c,e,⟨g1,g2,g3,g4,⟨qs,LC q1 d N,q2⟩,⟨bs,LC b1 d N,b2⟩⟩,f,g,j,k,XF.box d o x l u m,XF.box d o x r c n⟩
def Vn(r3:Yl Unit)(qs:List BA)(rr:Yl Unit):Prop:=(∃e,r3=.error e/\rr=.error e/\qs=[])∨∃ts0,r3=.ok ((),ts0)/\SL (Zk 2) [41] bl (ts0.length+1) ts0 qs rr
def OG(r3:Yl Unit):Yl<|List<|LB:=bnd r3 λ_ r=>ZI (Zk 2) [41] (r.length+1) [] r
theorem Vn.start(r3:Yl Unit):Vn r3 [] r3:=by
 cases r3 with
 |error e=>exact .inl ⟨e,C,C,C⟩
 |ok x=>exact .inr ⟨x.2,C,SL.start _ _ _ _ _<|Yj _⟩
theorem Vn.len{K:Nat}(h:Vn r3 qs rr)(a:∀ts,r3=.ok ((),ts)->ts.length<=K):qs.length<=K+1:=by
 rcases h with⟨e,_,_,rfl⟩|⟨ts0,c,d⟩
 .simp
 .have:=a _ c;have:=d.2.2;omega
theorem Vn.round{x:BA}{r1 r4:Yl Unit}(h:Vn r3 qs<|.ok ((),ts))(a:Yk [41] (hd ts)=false)
 (c:(if qs.isEmpty then .ok ((),ts)else Zf [44] ts)=r1)(d:r4=bnd r1 λ_ t=>Zj<|Zk 2 t)(f:∀y,r1=.ok y->∀z,Zk 2 y.2=.ok z->bl x=z.1):Vn r3 (qs++[x]) r4:=by
 rcases h with⟨e,_,h,_⟩|⟨ts0,g,i⟩
 .cases h
 .exact .inr ⟨ts0,g,SL.round i a c d (λt z e j=>f _ e z j)<|KG 2 N⟩
theorem Vn.done(h:Vn r3 qs rr)(hd:XR [41] rr=true∨∃e,rr=.error e):
 Zj (OG r3)=(bnd rr λ_ ts=>Zf [41] ts)/\∀z,OG r3=.ok z->qs.map bl=z.1:=by
 rcases h with⟨e,rfl,rfl,rfl⟩|⟨ts0,rfl,a⟩
 .exact⟨C,λz c=>(by cases c)⟩
 .exact SL.done a hd
theorem qB (rec:Nat->List Yg->Nat->Yl Tr)(g:Nat)(ts:List Yg)(deep:Nat):Tg rec g ts deep=bnd (OG<|bnd (Zf UZ ts) λ_ r=>Zf [40] r) λns r=>bnd (Z9 rec r deep) λa r=>.ok (.node 0 0 ⟨5,g,0,[],[],ns⟩ a .nil,r):=by
 unfold Tg OG;rw[Ow,Ow]
theorem DM (N:Yl<|List<|LB)(rec:Nat->List Yg->Nat->Yl Tr)(g deep:Nat):Zj (bnd N λns r=>bnd (Z9 rec r deep) λa r=>(.ok (.node 0 0 ⟨5,g,0,[],[],ns⟩ a .nil,r):Yl Tr))=Zj (bnd (Zj N) λ_ ts=>Z9 rec ts deep):=by
 cases N with
 |error e=>rfl
 |ok x=>
  show Zj (bnd (Z9 rec x.2 deep) λa r=>(.ok (.node 0 0 ⟨5,g,0,[],[],x.1⟩ a .nil,r):Yl Tr))=Zj (Z9 rec x.2 deep);cases Z9 rec x.2 deep with
  |error e=>rfl
  |ok y=>rfl
theorem qL {N:Yl<|List<|LB}{g:Nat}{t:Tr}(h:(bnd N λns r=>bnd (Z9 rec r deep) λa r=>(.ok (.node 0 0 ⟨5,g,0,[],[],ns⟩ a .nil,r):Yl Tr))=.ok (t,z)):
 ∃ns zz a,N=.ok (ns,zz)/\(bnd (Zj N) λ_ ts=>Z9 rec ts deep)=.ok (a,z)/\t=.node 0 0 ⟨5,g,0,[],[],ns⟩ a .nil:=by
  obtain⟨ns,zz,d,e⟩:=Zw h;obtain⟨a,z2,f,c⟩:=Zw e;injection c with c;injection c with c h5;subst d;subst h5;exact⟨ns,zz,a,C,f,c.symm⟩
theorem nG(h:Xq M n r3):Xq M n<|Zj<|OG r3:=
 Xq.unit<|h.bnd λ_ ts z _ a=>by have:=Ms (KG 2 N) _ _ _ _ a;omega
theorem nF(h:∀ts,r3=.ok ((),ts)->ts.length<=L):∀ts,Zj (OG r3)=.ok ((),ts)->ts.length<=L:=by
 intro ts e;unfold Zj at e;obtain⟨ns,t1,c,a⟩:=Zw e;injection a with a;injection a with _ a;subst a;unfold OG at c;obtain⟨_,t2,d,f⟩:=Zw c;have:=Ms (KG 2 N) _ _ _ _ f;have:=h _ d;simp at*;omega
theorem tj{a:Value}{t:TypeId}(c:W.heap.size=n):∀j x,[a][j]?=some x->(W.alloc<|.cells #[a] t).cell? ((⟨n,0,none⟩:Addr).add j)=some x:=by
 intro j x d;subst c;rw[QJ];have h:=Go.Deep.blk_alloc_new W<|.cells #[a] t;simp only[World.cell?,h];simpa using d
theorem Tryz.infoStr:(Tryz.prog.info? 9).map (λi=>(i.zero,i.size,i.bytes))=some (some<|.string ByteArray.empty,1,16):=Kr
theorem qH(h:St w b pv s deep<|.ok ((),ts))(hs:s.size<=6000)(hl:¬((hd ts).jj=0∨(hd ts).jj=5))(g:Nat){gi:Int}(e9:gi=g)
 (hw:We 287 s (Z9 rec) L)(hL:ts.length<=L)(S:w.ownsRow 0 59 8 pv n xs)(hM:M<=6000)(hB:n+ts.length<=M)(f0:deep<=20):
 CP 289 #[Vp b,E gi] w λe w'=>∃i:Int,e=.returned (E i)/\Yi w b pv s deep xs M (Tg rec g ts.tail deep) i w':=by
 subst e9;have f1:=h.lt;have f2:ts≠[]:=by rintro rfl;exact hl<|.inl C
 have j0:ts.tail.length+1=ts.length:=by cases ts with
  |nil=>exact absurd C f2
  |cons t r=>rfl
 have HX:Hid<|pv.ownBlock≠some w.heap.size:=I λe=>by have:=(S.lt _ e).2;omega
 have H:Hid<|∀o,St (w.alloc o) b _ s _ _:=λo=>St.kept h<|Go.Deep.blk_alloc_lt _ _ _ f1;have HO:=I λo=>S.alloc o;have HW:=I hw;obtain⟨r1,T⟩:∃r1:Yl _,r1=.ok ((),ts.tail):=⟨_,C⟩;obtain⟨r3,U⟩:∃r3:Yl _,r3=bnd (Zf UZ ts.tail) λ_ r=>Zf [40] r:=⟨_,C⟩;have f3:Hid<|Xq (M-1) n r3:=by
  have h1:Xq (M-1) n r1:=T▸(show n+ts.tail.length<=M-1 by omega);have h2:=Xq.take (Xq.take h1 UZ) [40];rw[T]at h2;rw[U];exact h2
 have b6:Hid<|∀t,r3=.ok ((),t)->t.length<=ts.length:=by
  intro t e;rw[U]at e;obtain⟨_,t1,h1,h2⟩:=Zw e;have:=SE h1;have:=SE h2;simp at*;omega
 have i9:ts.length<=6002:=by have:=St.len h;simp at this;omega
 have b7:=I T;have b8:=I U;clear h S hw T U;obtain⟨i0,hi,f4,f7,f8⟩:=Xv Tryz.infoStr;go_enter func289,ntmps289;go_wp2_with fail;refine(St.next (H _) hs ⟨ts,C,hl⟩).mono ?_;rintro e w1 ⟨rfl,d,c⟩;have a1:Hid<|St w1 b pv s deep r1:=b7.out▸d;have b9:Hid<|Yq _ _ {Oa 5 with op:=g}:=Yq.grown (Go.Deep.blk_alloc_new _ _) c<|by simp;omega
 have c0:=I<|VZ (H _) (HO _) c;have c1:=I<|Zi (J4 w _ _) c;clear d c;go_wp2_with fail;refine(St.take a1 hs _).mono ?_;rintro e w2 ⟨rfl,d,c⟩;have a2:Hid<|St w2 b pv s deep<|Zf UZ ts.tail:=by rw[b7]at d;exact d
 have c2:Hid<|Yq _ _ {Oa 5 with op:=g}:=Yq.grown b9 c<|by simp;omega
 have c3:=I<|VZ a1 c0 c;have c4:=I<|Zi c1 c;clear d c a1 b9 c0 c1;go_wp2_with fail;refine(St.take a2 hs _).mono ?_;rintro e w3 ⟨rfl,d,c⟩;have a3:Hid<|St _ b _ s _ _:=b8.out▸d;have c5:Hid<|Yq _ _ ⟨5,0,g,⟨#[]⟩,none,0,0,none,0,0,0,0⟩:=Yq.grown c2 c<|by simp;omega
 have c6:=I<|VZ a2 c3 c;have c8:=I<|Zi c4 c;clear d c a2 c2 c3 c4;go_wp2_with fail;refine(St.is a3 _).mono ?_;rintro e w4 ⟨rfl,rfl⟩;rw[show bl _=[41]from C];go_wp2;go_loopw [6] (λv6 wr=>∃(qs:List BA)(ba:Option Addr)(bc:Nat)(rr:Yl Unit),v6=.bool (XR [41] rr)/\Hid (St wr b pv s deep rr)/\
  Hid (Yq wr w.heap.size ⟨5,0,g,⟨#[]⟩,none,0,0,ba,qs.length,bc,0,0⟩)/\Hid (wr.ownsRow w.heap.size 9 1 (.slice ba qs.length bc) qs.length<|qs.map .string)/\Hid (wr.ownsRow 0 59 8 pv n xs)/\Hid (w.grownBy wr<|some b)/\Hid (Vn r3 qs rr))
  (λ_ wr=>ts.length+2-Pm wr ⟨w.heap.size,5,none⟩);case atStart=>exact⟨[],none,0,r3,C,a3,c5,Xm _ _ _ _,c6,c8,Vn.start _⟩
 case round=>
  obtain⟨qs,ba,bc,rr,rfl,A,F,G,P,J,V⟩:=hrel;clear a3 c5 c6 c8;obtain⟨qr,W,_,_,c9,d0⟩:=St.view A;have c7:=(YN.all W).2.2.2.2.2.2.2.1;have e0:=W.lt;have e7:((XR [41] rr=true∨(XR [41] rr=false/\((qr.e:Int)==0)=false))/\(XR [41] rr=true∨∃e,rr=.error e))∨(XR [41] rr=false/\((qr.e:Int)==0)=true/\∃ts,rr=.ok ((),ts)/\Yk [41] (hd ts)=false):=by
   cases rr with
   |error e=>exact .inl ⟨.inr ⟨C,by rw[YB];have:=(c9 e C).2.1;omega⟩,.inr ⟨e,C⟩⟩
   |ok y=>
    obtain⟨⟨⟩,ts⟩:=y;have h0:=(d0 _ C).1;cases hc:Yk [41]<|hd ts
    .exact .inr ⟨hc,by rw[h0];rfl,ts,C,hc⟩
    .exact .inl ⟨.inl hc,.inl hc⟩
  have j1:=Vn.len V b6;have Q:=I<|ZD G W N;clear W c9 d0;rcases e7 with⟨Y,a4⟩|⟨f9,g0,tr,g1,g2⟩
  .have a5:=I<|Vn.done V a4;clear a4;generalize XR [41] rr=v6 at Y;rcases Y with rfl|⟨rfl,he⟩;all_goals
   go_wp2_with fail;refine(St.take A hs _).mono ?_;rintro e w5 ⟨rfl,d,c⟩;rw[show bl _=[41]from C,<-a5.1]at d;have p:=I d;have j:=I<|Yq.grown F c<|by simp;omega
   have q:=I<|O6 G c<|.inr λh=>Q h.symm;have v:=I<|VZ A P c;have B:=I<|Zi J c;clear d c A F G P J V c7;go_wp2_with fail;refine(HW _ b _ _ _ n _ _ p v X (nG f3) (nF λt e=>Xb (b6 t e) hL) f0).mono ?_;rintro e f ⟨i,rfl,hp⟩;obtain⟨n2,pv2,ys,s2,o2,k2,b2,r2⟩:=hp.out;have a6:=Yq.lt j;have K:=Yq.kept j<|k2.block _ a6 X λe=>HX e.symm;have d1:f.ownsRow w.heap.size 9 1 (.slice ba qs.length bc) qs.length<|qs.map .string:=by
    obtain⟨qq,g3,_⟩:=St.view p;exact He g3 v k2 q N N
   have g4:=oG k2 HX a6;have l6:=(Yq.all K).2.2.2.2.2.2.1;have f6:=Yq.frozen K 6;have a7:Hid<|St (f.setCell ⟨w.heap.size,6,none⟩<|E i) b _ s _ _:=St.kept s2<|Go.Deep.blk_setCell_other _ _ _ _<|by show b≠w.heap.size;omega
   have d2:Hid<|Yq _ _ ⟨5,0,g,⟨#[]⟩,none,0,0,ba,qs.length,bc,i,0⟩:=Yq.setA K i;have d3:Hid<|(f.setCell ⟨w.heap.size,6,none⟩<|E i).ownsRow 0 9 1 _ _ _:=Jw<|LC d1 K N;have a8:Hid<|(f.setCell ⟨w.heap.size,6,none⟩<|E i).ownsRow 0 _ 8 _ _ _:=ZJ o2 λk hk=>Go.Deep.blk_setCell_other _ _ _ _<|by rintro rfl;exact g4 hk
   have d4:Hid<|Yw b _ w _<|f.setCell ⟨w.heap.size,6,none⟩<|E i:=Yw.set ((((Yw.refl b _ w).grown B)).trans k2) (Yj _) _;have d5:Hid _:=b2;have d6:Hid<|∀t z,(bnd (Zj<|OG r3) λ_ ts=>Z9 rec ts deep)=.ok (t,z)->∃k:Nat,i=k/\XF (f.setCell ⟨w.heap.size,6,none⟩<|E i) (xs++ys) t k/\k+1=n2/\ys.length=8*Va t:=by
    intro t z e;obtain⟨k,e1,e2,e3⟩:=r2 t z e;exact⟨k,e1,XF.box K _ _ t k e2,e3⟩
   have k0:=Yq.all d2;obtain⟨m0,m1,m2,m3,m4,m5,m6,m7⟩:=k0;have g5:n2<=6000:=by have:=Xq.le d5;omega
   clear hp s2 o2 k2 b2 r2 K d1 p j q v B;go_wp2_with fail;clear l6 f6;generalize f.setCell ⟨w.heap.size,6,none⟩ (E i)=w7 at a7 d2 d3 a8 d4 d6 m0 m1 m2 m3 m4 m5 m6 m7⊢;refine(St.lay a7.out a8.out g5 ⟨5,0,g,⟨#[]⟩,none,0,0,ba,qs.length,bc,i,0⟩).mono ?_;rintro e w8 ⟨pv8,rfl,s8,o8,k8⟩;have g6:Hid<|Yi w b pv s deep xs M (Tg rec g ts.tail deep) n2 w8:=I (by
    rw[qB,<-b8.out];refine⟨n2+1,pv8,ys++(⟨5,0,g,⟨#[]⟩,none,0,0,ba,qs.length,bc,i,0⟩:PV).cells,?_,?_,d4.trans k8,?_,?_⟩
    .rw[DM];exact s8
    .rw[<-WV];exact o8
    .refine Xq.of_unit ?_;rw[DM];exact Xq.up (Xq.unit d5.out) X
    .intro t z e;obtain⟨ns,zz,a,e1,e2,rfl⟩:=qL e;obtain⟨k,e3,e4,e5,e6⟩:=d6.out a z e2;refine⟨n2,C,?_,C,by rw[Yv,e6];show _+8=8*(Va a+0+1);omega⟩;rw[<-WV];exact JB a7.out a8.out k8 _ ⟨5,g,0,[],[],ns⟩ a .nil k 0 ⟨C,C,C,C,ZP.nil _ _ _ C C C,⟨qs,d3.out,a5.2 _ e1⟩⟩ e3 C X (Yr _) e4 trivial);clear s8 o8 k8;go_wp2;go_ret;exact⟨_,C,g6⟩
  .subst g1;have a9:=(Yq.all F).2.2.2.2.2.1;have g8:Hid<|Pm _ _=qs.length:=I<|by unfold Pm;rw[a9]
   have g9:=J.size;rw[f9];go_upto_if 29 with fail;go_cut []from 17 to 40 (λD=>∃r5:Yl Unit,Hid ((if qs.isEmpty then .ok ((),tr)else Zf [44] tr)=r5)/\Hid (St D b pv s deep r5)/\Hid (Yq D w.heap.size ⟨5,0,g,⟨#[]⟩,none,0,0,ba,qs.length,bc,0,0⟩)/\Hid (D.ownsRow w.heap.size 9 1 (.slice ba qs.length bc) qs.length<|qs.map .string)/\Hid (D.ownsRow 0 59 8 pv n xs)/\Hid (w.grownBy D<|some b));case first=>
    by_cases d7:qs.length=0
    .have b0:decide (0<(qs.length:Int))=false:=Wl X;have HQ:Hid<|qs.isEmpty=true:=by rw[Og.1 d7];rfl
     go_wp2;go_meet;exact⟨_,C,by rwa [HQ.out],F,G,P,J⟩
    .have b0:decide (0<(qs.length:Int))=true:=WI X;have i1:0<qs.length:=X;have HQ:Hid<|qs.isEmpty=false:=by cases qs with
     |nil=>exact absurd C d7
     |cons a l=>rfl
     go_wp2_with fail;clear b0 i1;refine(St.take A hs _).mono ?_;rintro e w5 ⟨rfl,d,c⟩;have p:Hid<|St _ b _ s _<|Zf [44] _:=d;have j:=I<|Yq.grown F c<|by simp;omega
     have q:=I<|O6 G c<|.inr λh=>Q h.symm;have v:=I<|VZ A P c;have B:=I<|Zi J c;clear d c;go_wp2;go_meet;exact⟨_,C,by rwa [HQ.out],j,q,v,B⟩
   case rest=>
   obtain⟨r5,i2,p,j,q,v,B⟩:=hcut;clear A F G P J c7 e0 g9 a9 g0;have k5:=(Yq.all j).2.2.2.2.2.1;have a6:=Yq.lt j;have b1:Hid<|St wc.drew b _ s _ _:=St.kept p C;go_upto_region 9 with fail;go_cut []from 17 to 40 (λD=>∃(x:BA)(gb cp:Nat),Hid (∀y,r5=.ok y->∀z,Zk 2 y.2=.ok z->bl x=z.1)/\Hid (St D b pv s deep<|bnd r5 λ_ t=>Zj<|Zk 2 t)/\Hid (Yq D w.heap.size ⟨5,0,g,⟨#[]⟩,none,0,0,some ⟨gb,0,none⟩,qs.length+1,cp,0,0⟩)/\Hid (D.ownsRow w.heap.size 9 1 (.slice (some ⟨gb,0,none⟩) (qs.length+1) cp) (qs.length+1)<|(qs++[x]).map .string)/\Hid (D.ownsRow 0 59 8 pv n xs)/\Hid (w.grownBy D<|some b));case first=>
    go_region_law (first
     | (fail_if_success (have h6:=HO6)
        go_simp;go_wp2_with(
         go_at_call 292;refine(St.jj b1.out hs 2 _ C N).mono ?_;rintro e f ⟨x,rfl,d,hx,c⟩;have O:wc.grownBy f<|some b:=⟨c.os,c.tape,c.output,c.size,c.block⟩;have b3:Hid<|St f b pv s deep<|bnd r5 λ_ t=>Zj<|Zk 2 t:=d;have R:Hid<|Yq f w.heap.size ⟨5,0,g,⟨#[]⟩,none,0,0,ba,qs.length,bc,0,0⟩:=Yq.grown j.out O<|by simp;omega
         have HO6:Hid<|∀o,(f.alloc o).ownsRow w.heap.size 9 1 (.slice ba qs.length bc) qs.length<|qs.map .string:=λo=>N5 (O6 q.out O<|Or.inr λh=>Q.out h.symm) o;have b4:Hid<|f.ownsRow w.heap.size 9 1 (.slice ba qs.length bc) qs.length<|qs.map .string:=O6 q.out O<|Or.inr λh=>Q.out h.symm;have d8:Hid<|f.ownsRow 0 59 8 pv n xs:=VZ p.out v.out O;have i3:Hid<|w.grownBy f<|some b:=Zi B.out O;have j2:w.heap.size<f.heap.size:=Yq.lt R.out;have l5:=(Yq.all R.out).2.2.2.2.2.1;clear d c O))
     | (refine S3 C (.tmp 33) (.tmp 36) 57 C w.heap.size 9 i0 _ 1 16 underlying57 hi f4 f7 f8 C N (.slice ba qs.length bc) qs.length (qs.map .string) (by simp[Act.eval]) (HO6.out _) ⟨f.heap.size,0,none⟩ 1 1 [.string x] (by simp[Act.eval]) C (tj C) ?h3 ?h4 ?h5 ?h6 ?_;case h3=>intro u hu;simp at hu;subst hu;rfl
        case h4=>unfold maxLen;omega
        case h5=>omega
        case h6=>simp;omega
        intro v7 w7 Z m _;have b5:=Zm Z X;obtain⟨g7,cp7,b5⟩:=b5;subst b5;have a0:Yq w7 w.heap.size ⟨5,0,g,⟨#[]⟩,none,0,0,ba,qs.length,bc,0,0⟩:=Yq.grown (Yq.kept R.out<|Go.Deep.blk_alloc_lt _ _ _<|Yq.lt R.out) m<|ZD b4.out R.out N;have m5:=(Yq.all a0).2.2.2.2.2.1;have f5:=Yq.frozen a0 5));all_goals
     go_wp2;go_meet;have st7:=St.kept (St.kept b3<|Go.Deep.blk_alloc_lt _ _ _<|St.lt b3)<|m.block b (by rw[Go.Deep.nblk_alloc];have:=St.lt b3;omega) Q;have i4:=O6 (N5 d8 _) m<|QE d8 b4 N;have i5:=DN (Vh i3 _) m λk hk=>(b4.lt k hk).1;refine⟨x,g7,cp7,hx,St.kept st7<|Go.Deep.blk_setCell_other _ _ _ _<|by show b≠w.heap.size;omega,Yq.setBy a0 _ _ _,?_,?_,Zn i5 (.inr<|Yj _) _⟩
     .rw[Y9];exact LC Z a0 N
     .exact ZJ i4 λk hk=>Go.Deep.blk_setCell_other _ _ _ _<|by rintro rfl;exact HX hk
   case rest=>
   obtain⟨x,gb,cp,Hx,d9,i6,j3,i7,i8⟩:=hcut;have e8:Hid<|Pm _ _=qs.length+1:=I<|by unfold Pm;rw[(Yq.all i6).2.2.2.2.2.1]
   clear k5 p j q v B b1;go_wp2_with fail;refine(St.is d9 _).mono ?_;rintro e wz ⟨rfl,rfl⟩;rw[show bl _=[41]from C];go_wp2;go_roundw;case rel=>exact⟨qs++[x],some _,cp,_,C,d9,by rwa [Yv],by rwa [Yv],i7,i8,Vn.round V g2 i2 C Hx⟩
   case measure=>
    rw[g8,e8];omega
def UF:List (BA×BA×Bool)->List Value
 |[]=>[]
 |c::l=>.string c.1::.bool c.2.2::.string c.2.1::UF l
theorem Dy(l m:List<|BA×BA×Bool):UF (l++m)=UF l++UF m:=by
 induction l with
 |nil=>rfl
 |cons a l ih=>simp[UF,ih]
def TE(l:List BA):List Value:=l.map .string
theorem H6(l m:List BA):TE (l++m)=TE l++TE m:=Y9
def Wo(c:BA×BA×Bool):LB×LB×Bool:=(bl c.1,bl c.2.1,c.2.2)
def Ue(w:World)(v:Value)(ns:List<|LB):Prop:=∃bs:List BA,w.ownsRow 0 9 1 v bs.length (TE bs)/\bs.map bl=ns
def Z0(w:World)(v:Value)(cs:List<|LB×LB×Bool):Prop:=∃bs:List<|BA×BA×Bool,w.ownsRow 0 374 3 v bs.length (UF bs)/\bs.map Wo=cs
theorem Tryz.infoCondD:(Tryz.prog.info? 374).map (λi=>(i.zero,i.size,i.bytes))=some (some<|.agg #[.string ByteArray.empty,.bool false,.string ByteArray.empty],3,40):=Kr
theorem Z1{t:TypeId}(a:W.heap.size=n):∀j x,l[j]?=some x->(W.alloc<|.cells ⟨l⟩ t).cell? ((⟨n,0,none⟩:Addr).add j)=some x:=by
 intro j x c;subst a;rw[QJ];have h:=Go.Deep.blk_alloc_new W<|.cells ⟨l⟩ t;simp only[World.cell?,h];simpa using c
theorem U6{e:TypeId}(h:w.ownsRow base e size v n xs):w.ownsRow 0 e size v n xs:=by
 refine⟨h.1,?_⟩;rcases h.2 with a|⟨g,cap,cur,h,_,r⟩
 .exact .inl a
 .exact .inr ⟨g,cap,cur,h,Yr _,r⟩
theorem OI{e:TypeId}(h:w.ownsRow base e size v n xs)(a:w.grownBy w'<|some b)(c:b<base):w'.ownsRow base e size v n xs:=
 h.kept a<|Or.inr λq=>by have:=(h.lt b q).1;omega
theorem OB(h:w0.grownBy w<|some b)(a:w.grownBy w' v.ownBlock)(f:∀q,v.ownBlock=some q->w0.heap.size<=q):w0.grownBy w'<|some b:=by
 refine⟨a.os.trans h.os,a.tape.trans h.tape,a.output.trans h.output,Xb h.size a.size,?_⟩;intro j c d;rw[a.block j (WH c h.size) λe=>by have:=f j e.symm;omega,h.block j c d]
theorem RK.grown{k0:Nat}{ts0:List Yg}(a:RK w0 R k0 ts0)(h:RK w R k ts)(c:w.grownBy w' v.ownBlock)(d:∀q,v.ownBlock=some q->w0.heap.size<=q):RK w' R k ts:=by
 refine h.blocks λj f g=>c.block j f λe=>?_;have:=d j e.symm;have o:=(Xr.1 a.rd.cells).1;have p:=ZN a.rd.own;have i:=Xi _ _ a.sy;have l:=Xi _ _ a.dp;have m:1<w0.heap.size:=i;have n:2<w0.heap.size:=l;rcases g with rfl|rfl|rfl|rfl<;>omega
theorem Fq{α:Type}{item:List Yg->Yl α}{acc:List α}(h:Yk close (hd ts)=true):ZI item close (m+1) acc ts=.ok (acc,ts.tail):=Ye h
theorem Fs {α:Type}{item:List Yg->Yl α}(h:Yk close (hd ts)=false):ZI item close (m+1) [] ts=bnd (item ts) λa r=>ZI item close m [a] r:=by
 show(if Yk close (hd ts)=true then _ else _)=_;rw[h];rfl
theorem Ft {α:Type}{item:List Yg->Yl α}{acc:List α}(h:Yk close (hd ts)=false)(c:acc≠[]):ZI item close (m+1) acc ts=bnd (Zf [44] ts) λ_ r=>bnd (item r) λa r=>ZI item close m (acc++[a]) r:=by
 show(if Yk close (hd ts)=true then _ else _)=_;rw[h];cases acc with
 |nil=>exact absurd C c
 |cons a l=>rfl
theorem Qj{s:LB}(h:Yk s (hd ts)=true):Zf s ts=.ok ((),ts.tail):=Ye h
theorem PG{s:LB}(h:¬Yk s (hd ts)=true):Zf s ts=.error (2,(hd ts).at_):=Yd h
theorem KJ{a:LB}(h:Zk k ts=.ok (a,r)):r=ts.tail:=by
 unfold Zk at h;split at h
 .cases h;rfl
 .cases h
theorem E0{a:LB×LB×Bool}(h:ZK ts=.ok (a,r)):r.length<=ts.tail.length:=by
 have:=K6 _ _ h;simp only[Rz]at*;omega
theorem RK.pos(h:RK w R k ts):0<ts.length:=h.wf.head.2.1
theorem nZ (h:RK w R k ts){op cl:BA}(b3:(bl op).all (λc=>!Zl c)=true/\bl op≠[])(b4:(bl cl).all (λc=>!Zl c)=true/\bl cl≠[]):
 CP 295 #[Vp R.b,.string op,.string cl,.func (.func 296) #[] #[]] w λe w'=>∃(la:Option Addr)(ln lc:Nat)(v:Value),e=.returned (.tuple #[.slice la ln lc,v])/\Hid (U4 R (λw' ns=>Ue w' (.slice la ln lc) ns) w' (bnd (Zf (bl op) ts) λ_ r=>ZI (Zk 2) (bl cl) (r.length+1) [] r) v)/\w.grownBy w' (some R.b):=by
  have H:=I h;have F:=(Xr.1 h.rd.cells).1;obtain⟨i0,hi,a6,a7,a8⟩:=Xv Tryz.infoStr;have a9:=I b3;have G:=I b4;obtain⟨PL,b0⟩:∃PL:Yl _,PL=bnd (Zf (bl op) ts) λ_ r=>ZI (Zk 2) (bl cl) (r.length+1) [] r:=⟨_,C⟩;rw[<-b0];have O:=I b0;go_enter func295,ntmps295;go_wp2_with fail;refine(Qi H _ a9.1 a9.2).mono ?_;rintro e w1 ⟨v,rfl,d,hg⟩;have b1:=I hg;by_cases h1:Yk (bl op) (hd ts)=true
  · rw[Qj h1]at d;have j:Hid<|ZI (Zk 2) (bl cl) (ts.tail.length+1) [] ts.tail=PL:=by rw[O,Qj h1];rfl
    obtain⟨rfl,⟨k1,b5⟩,_⟩:=d.out;have J:Hid<|RK _ R _ ts.tail:=b5;obtain⟨r0,b6⟩:∃r0,r0=ts.tail:=⟨_,C⟩;rw[<-b6]at J j;go_wp2;go_loopg [11] r0.length (λg v11 wr=>∃(bs:List BA)(r:List Yg)(k2 n:Nat),g=r.length/\Hid (RK wr R k2 r)/\Hid (wr.ownsRow w.heap.size 9 1 v11 bs.length<|TE bs)/\Hid (r.length<n/\bs.length+r.length<=302/\ZI (Zk 2) (bl cl) n (bs.map bl) r=PL)/\Hid (w.grownBy wr<|some R.b));case atStart=>exact⟨[],r0,k1,r0.length+1,C,J,Xm _ _ _ _,⟨X,by have:=J.size;have:=J.len;simp;omega,j⟩,b1⟩
    case round=>
     obtain⟨bs,r,k2,n,c9,HK,HO,s,HG⟩:=hrel;obtain⟨m,rfl⟩:∃m,n=m+1:=⟨n-1,by have:=s.1;omega⟩;obtain⟨av,cp,hv⟩:=Zd HO;subst hv;go_wp2_with fail;refine(QM HK).mono ?_;rintro e w2 ⟨⟨kd,at_,tx,tv⟩,rfl,ht,P⟩;have Q:=I<|HK.below P;have b7:=I<|Ze HO P;have b8:=I<|Zi HG<|ZB P;go_wp2_with fail;refine(Nt ht.out Q.wf.head.1 Q.wf.head.2.2 cl G.1 G.2 w2).mono ?_;rintro e w3 ⟨rfl,S⟩;have K:=I<|Q.below S;have T:=I<|Ze b7 S;have U:=I<|Zi b8<|ZB S;by_cases hc:Yk (bl cl) (hd r)=true
     · rw[hc];have j:Hid<|PL=.ok _:=I<|by rw[<-s.2.2,Fq hc]
       have b9:=I<|Qj hc;go_wp2_with fail;refine(Qi K _ G.1 G.2).mono ?_;rintro e w4 ⟨v,rfl,d,t⟩;rw[b9]at d;obtain⟨rfl,V,_⟩:=d.out;have c0:Hid<|∃k,RK _ R k r.tail:=V;have W:=I<|OI T t F;have L:=I<|Zi U t;go_wp2;go_ret2;exact⟨_,_,_,_,C,j.out▸⟨C,c0.out,bs,U6 W.out,C⟩,L⟩
     · have Y:=Qt.2 hc;rw[Y];by_cases hb:bs=[]
       .subst hb;have j:Hid<|(bnd _ _)=PL:=s.2.2▸(Fs Y).symm;have d0:([]:List BA).length=0:=C;go_wp2_with fail;refine(JS K).mono ?_;rintro e w5 ⟨x,v,rfl,d,A⟩;have o:=I<|OI T A F;have p:=I<|Zi U A;cases f:(Zk 2) r with
        |error er=>
         rw[f]at d;obtain⟨fa,rfl⟩:=d.shape;have HE:Hid<|WJ _ R _ _:=d;have i:Hid<|PL=.error er:=by rw[<-j,f];rfl
         go_wp2;go_ret2;exact⟨_,_,_,_,C,by rwa [i.out],p⟩
        |ok pr=>
         obtain⟨a,y⟩:=pr;rw[f]at d;obtain⟨rfl,⟨k5,Z⟩,hx⟩:=d.out;have HX:Hid<|bl x=a:=hx;have a0:Hid<|RK _ R _ y:=Z;have B:y.length<=(r).tail.length:=(λh=>KJ h▸Yj _) f;have hy:y.length<r.length:=by have h9:=K.pos;simp only[Rz]at B;omega
         have i:Hid<|ZI (Zk 2) (bl cl) m (([]++[x]).map bl) y=PL:=by rw[<-j,f,Y9];rw[<-HX];rfl
         have c6:=s.2.1;have c7:=s.1;go_wp2_with(at_builtin;refine XC _ C (.tmp 43) (.tmp 45) 57 C w.heap.size 9 i0 (.string ByteArray.empty) 1 16 underlying57 hi a6 a7 a8 C N _ _ _ C (o.alloc _) ⟨w5.heap.size,0,none⟩ 1 1 [.string x] C C ?c1 ?c2 ?c3 ?c4 ?c5 ?_);case c1=>exact Z1 C
         case c2=>intro u hu;simp at hu;rw[hu];rfl
         case c3=>unfold maxLen;omega
         case c4=>omega
         case c5=>simp;have:=p.size;omega
         intro v' w6 a5 l _;have a1:=I<|OB (Vh p _) l λq D=>(o.lt q D).1;have a2:=I<|RK.grown H (a0.below Yc) l λq D=>(o.lt q D).1;have a3:Hid<|w6.ownsRow w.heap.size 9 1 v' ([]++[x]).length<|TE<|[]++[x]:=by rwa [H6,Yv]
         go_wp2;go_roundg y.length;case measure=>omega
         case rel=>exact⟨_,y,k5,m,C,a2,a3,⟨X,by simp;omega,i⟩,a1⟩
       · have c8:=QZ.2 hb;have j:Hid<|(bnd _ λ_ z=>bnd _ _)=PL:=s.2.2▸(Ft Y<|by simpa using hb).symm;go_wp2_with fail;refine(Qi K _ N N).mono ?_;rintro e w4 ⟨v,rfl,d,t⟩;have W:=I<|OI T t F;have L:=I<|Zi U t;by_cases M:Yk [44] (hd r)=true
         · rw[show Zf (bl ⟨#[44]⟩) r=.ok _ from Qj M]at d;obtain⟨rfl,⟨k4,V⟩,_⟩:=d.out;have b2:Hid<|RK _ R _ r.tail:=V;have a4:Hid<|(bnd ((Zk 2) r.tail) λa y=>ZI (Zk 2) (bl cl) m (bs.map bl++[a]) y)=PL:=by rw[<-j,Qj M];rfl
           go_wp2_with fail;refine(JS b2).mono ?_;rintro e w5 ⟨x,v,rfl,d,A⟩;have o:=I<|OI W A F;have p:=I<|Zi L A;cases f:(Zk 2) r.tail with
          |error er=>
           rw[f]at d;obtain⟨fa,rfl⟩:=d.shape;have HE:Hid<|WJ _ R _ _:=d;have i:Hid<|PL=.error er:=by rw[<-a4,f];rfl
           go_wp2;go_ret2;exact⟨_,_,_,_,C,by rwa [i.out],p⟩
          |ok pr=>
           obtain⟨a,y⟩:=pr;rw[f]at d;obtain⟨rfl,⟨k5,Z⟩,hx⟩:=d.out;have HX:Hid<|bl x=a:=hx;have a0:Hid<|RK _ R _ y:=Z;have B:y.length<=(r.tail).tail.length:=(λh=>KJ h▸Yj _) f;have hy:y.length<r.length:=by have h9:=b2.pos;simp only[Rz]at h9 B;omega
           have i:Hid<|ZI (Zk 2) (bl cl) m ((bs++[x]).map bl) y=PL:=by rw[<-a4,f,Y9];rw[<-HX];rfl
           have c6:=s.2.1;have c7:=s.1;go_wp2_with(at_builtin;refine XC _ C (.tmp 43) (.tmp 45) 57 C w.heap.size 9 i0 (.string ByteArray.empty) 1 16 underlying57 hi a6 a7 a8 C N _ _ _ C (o.alloc _) ⟨w5.heap.size,0,none⟩ 1 1 [.string x] C C ?c1 ?c2 ?c3 ?c4 ?c5 ?_);case c1=>exact Z1 C
           case c2=>intro u hu;simp at hu;rw[hu];rfl
           case c3=>unfold maxLen;omega
           case c4=>omega
           case c5=>simp;have:=p.size;omega
           intro v' w6 a5 l _;have a1:=I<|OB (Vh p _) l λq D=>(o.lt q D).1;have a2:=I<|RK.grown H (a0.below Yc) l λq D=>(o.lt q D).1;have a3:Hid<|w6.ownsRow w.heap.size 9 1 v' (bs++[x]).length<|TE<|bs++[x]:=by rwa [H6,Yv]
           go_wp2;go_roundg y.length;case measure=>omega
           case rel=>exact⟨_,y,k5,m,C,a2,a3,⟨X,by simp;omega,i⟩,a1⟩
         · rw[show Zf (bl ⟨#[44]⟩) r=.error _ from PG M]at d;obtain⟨fa,rfl⟩:=d.shape;have HE:Hid<|WJ _ R _ _:=d;have i:Hid<|PL=.error (2,(hd r).at_):=by rw[<-j,PG M];rfl
           go_wp2;go_ret2;exact⟨_,_,_,_,C,by rwa [i.out],L⟩
  · rw[PG h1]at d;have i:Hid<|PL=.error (2,(hd ts).at_):=by rw[O,PG h1];rfl
    obtain⟨fa,rfl⟩:=d.shape;have HE:Hid<|WJ _ R _ _:=d;go_wp2;go_ret2;exact⟨_,_,_,_,C,by rwa [i.out],b1⟩
theorem nX (h:RK w R k ts)(op cl:BA)(b4:(bl op).all (λc=>!Zl c)=true/\bl op≠[])(b5:(bl cl).all (λc=>!Zl c)=true/\bl cl≠[]):
 CP 299 #[Vp R.b,.string op,.string cl,.func (.func 300) #[] #[]] w λe w'=>∃(la:Option Addr)(ln lc:Nat)(v:Value),e=.returned (.tuple #[.slice la ln lc,v])/\Hid (U4 R (λw' ns=>Z0 w' (.slice la ln lc) ns) w' (bnd (Zf (bl op) ts) λ_ r=>ZI ZK (bl cl) (r.length+1) [] r) v)/\w.grownBy w' (some R.b):=by
  have H:=I h;have M:=(Xr.1 h.rd.cells).1;obtain⟨i0,hi,a7,a8,a9⟩:=Xv Tryz.infoCondD;have b0:=I b4;have O:=I b5;obtain⟨PL,b1⟩:∃PL:Yl _,PL=bnd (Zf (bl op) ts) λ_ r=>ZI ZK (bl cl) (r.length+1) [] r:=⟨_,C⟩;rw[<-b1];have W:=I b1;go_enter func299,ntmps299;go_wp2_with fail;refine(Qi H _ b0.1 b0.2).mono ?_;rintro e w1 ⟨v,rfl,d,hg⟩;have b2:=I hg;by_cases h1:Yk (bl op) (hd ts)=true
  · rw[Qj h1]at d;have j:Hid<|ZI ZK (bl cl) (ts.tail.length+1) [] ts.tail=PL:=by rw[W,Qj h1];rfl
    obtain⟨rfl,⟨k1,b6⟩,_⟩:=d.out;have P:Hid<|RK _ R _ ts.tail:=b6;obtain⟨r0,b7⟩:∃r0,r0=ts.tail:=⟨_,C⟩;rw[<-b7]at P j;go_wp2;go_loopg [11] r0.length (λg v11 wr=>∃(bs:List<|BA×BA×Bool)(r:List Yg)(k2 n:Nat),g=r.length/\Hid (RK wr R k2 r)/\Hid (wr.ownsRow w.heap.size 374 3 v11 bs.length<|UF bs)/\Hid (r.length<n/\bs.length+r.length<=302/\ZI ZK (bl cl) n (bs.map Wo) r=PL)/\Hid (w.grownBy wr<|some R.b));case atStart=>exact⟨[],r0,k1,r0.length+1,C,P,Xm _ _ _ _,⟨X,by have:=P.size;have:=P.len;simp;omega,j⟩,b2⟩
    case round=>
     obtain⟨bs,r,k2,n,d0,HK,HO,F,HG⟩:=hrel;obtain⟨m,rfl⟩:∃m,n=m+1:=⟨n-1,by have:=F.1;omega⟩;obtain⟨av,cp,hv⟩:=Zd HO;subst hv;go_wp2_with fail;refine(QM HK).mono ?_;rintro e w2 ⟨⟨kd,at_,tx,tv⟩,rfl,ht,Y⟩;have Z:=I<|HK.below Y;have b8:=I<|Ze HO Y;have b9:=I<|Zi HG<|ZB Y;go_wp2_with fail;refine(Nt ht.out Z.wf.head.1 Z.wf.head.2.2 cl O.1 O.2 w2).mono ?_;rintro e w3 ⟨rfl,a0⟩;have G:=I<|Z.below a0;have Q:=I<|Ze b8 a0;have S:=I<|Zi b9<|ZB a0;by_cases hc:Yk (bl cl) (hd r)=true
     · rw[hc];have j:Hid<|PL=.ok _:=I<|by rw[<-F.2.2,Fq hc]
       have c0:=I<|Qj hc;go_wp2_with fail;refine(Qi G _ O.1 O.2).mono ?_;rintro e w4 ⟨v,rfl,d,t⟩;rw[c0]at d;obtain⟨rfl,T,_⟩:=d.out;have c6:Hid<|∃k,RK _ R k r.tail:=T;have a1:=I<|OI Q t M;have U:=I<|Zi S t;go_wp2;go_ret2;exact⟨_,_,_,_,C,j.out▸⟨C,c6.out,bs,U6 a1.out,C⟩,U⟩
     · have V:=Qt.2 hc;rw[V];by_cases hb:bs=[]
       .subst hb;have j:Hid<|(bnd _ _)=PL:=F.2.2▸(Fs V).symm;have d1:([]:List<|BA×BA×Bool).length=0:=C;go_wp2_with fail;refine(E1 G).mono ?_;rintro e w5 ⟨x,ng,z,v,rfl,d,A⟩;have o:=I<|OI Q A M;have p:=I<|Zi S A;cases f:ZK r with
        |error er=>
         rw[f]at d;obtain⟨fa,rfl⟩:=d.shape;have HE:Hid<|WJ _ R _ _:=d;have l:Hid<|PL=.error er:=by rw[<-j,f];rfl
         clear d f;go_wp2;go_ret2;exact⟨_,_,_,_,C,l.out▸HE.below Yc,Vh p _⟩
        |ok pr=>
         obtain⟨a,y⟩:=pr;rw[f]at d;obtain⟨rfl,⟨k5,J⟩,B⟩:=d.out;have HX:Hid<|Wo (x,z,ng)=a:=I<|by unfold Wo;simp only[B.1,B.2.1,B.2.2]
         have a2:Hid<|RK _ R _ y:=J;have s:=E0 f;have hy:y.length<r.length:=by have h9:=G.pos;simp only[Rz]at s;omega
         have l:Hid<|ZI ZK (bl cl) m (([]++[(x,z,ng)]).map Wo) y=PL:=by rw[<-j,f,Y9];rw[<-HX];rfl
         have c7:=F.2.1;have c8:=F.1;clear d J B f s;go_wp2_with(at_builtin;refine XC _ C (.tmp 43) (.tmp 45) 227 C w.heap.size 374 i0 (.agg #[.string ByteArray.empty,.bool false,.string ByteArray.empty]) 3 40 underlying227 hi a7 a8 a9 C N _ _ _ C ((o.alloc _).alloc _) ⟨w5.heap.size+1,0,none⟩ 1 1 [.string x,.bool ng,.string z] C C ?c1 ?c2 ?c3 ?c4 ?c5 ?_);case c1=>exact Z1 Sm
         case c2=>intro u hu;simp at hu;rcases hu with rfl|rfl|rfl<;>rfl
         case c3=>unfold maxLen;omega
         case c4=>omega
         case c5=>simp;have:=p.size;omega
         intro v' w6 D i _;have a3:=I<|OB (Vh (Vh p _) _) i λq L=>(o.lt q L).1;have a4:=I<|RK.grown H (a2.below<|Yc.alloc Sm _) i λq L=>(o.lt q L).1;have a5:Hid<|w6.ownsRow w.heap.size 374 3 v' ([]++[(x,z,ng)]).length<|UF<|[]++[(x,z,ng)]:=by rwa [Dy,Yv]
         clear D i;go_wp2;go_roundg y.length;case measure=>omega
         case rel=>exact⟨_,y,k5,m,C,a4,a5,⟨X,by simp;omega,l⟩,a3⟩
       · have c9:=QZ.2 hb;have j:Hid<|(bnd _ λ_ z=>bnd _ _)=PL:=F.2.2▸(Ft V<|by simpa using hb).symm;clear hc V hb;go_wp2_with fail;refine(Qi G _ N N).mono ?_;rintro e w4 ⟨v,rfl,d,t⟩;have a1:=I<|OI Q t M;have U:=I<|Zi S t;clear t;by_cases K:Yk [44] (hd r)=true
         · rw[show Zf (bl ⟨#[44]⟩) r=.ok _ from Qj K]at d;obtain⟨rfl,⟨k4,T⟩,_⟩:=d.out;have b3:Hid<|RK _ R _ r.tail:=T;have a6:Hid<|(bnd (ZK r.tail) λa y=>ZI ZK (bl cl) m (bs.map Wo++[a]) y)=PL:=by rw[<-j,Qj K];rfl
           clear d T K j G Q S;go_wp2_with fail;refine(E1 b3).mono ?_;rintro e w5 ⟨x,ng,z,v,rfl,d,A⟩;have o:=I<|OI a1 A M;have p:=I<|Zi U A;clear A;cases f:ZK r.tail with
          |error er=>
           rw[f]at d;obtain⟨fa,rfl⟩:=d.shape;have HE:Hid<|WJ _ R _ _:=d;have l:Hid<|PL=.error er:=by rw[<-a6,f];rfl
           clear d f;go_wp2;go_ret2;exact⟨_,_,_,_,C,l.out▸HE.below Yc,Vh p _⟩
          |ok pr=>
           obtain⟨a,y⟩:=pr;rw[f]at d;obtain⟨rfl,⟨k5,J⟩,B⟩:=d.out;have HX:Hid<|Wo (x,z,ng)=a:=I<|by unfold Wo;simp only[B.1,B.2.1,B.2.2]
           have a2:Hid<|RK _ R _ y:=J;have s:=E0 f;have hy:y.length<r.length:=by have h9:=b3.pos;simp only[Rz]at h9 s;omega
           have l:Hid<|ZI ZK (bl cl) m ((bs++[(x,z,ng)]).map Wo) y=PL:=by rw[<-a6,f,Y9];rw[<-HX];rfl
           have c7:=F.2.1;have c8:=F.1;clear d J B f s;go_wp2_with(at_builtin;refine XC _ C (.tmp 43) (.tmp 45) 227 C w.heap.size 374 i0 (.agg #[.string ByteArray.empty,.bool false,.string ByteArray.empty]) 3 40 underlying227 hi a7 a8 a9 C N _ _ _ C ((o.alloc _).alloc _) ⟨w5.heap.size+1,0,none⟩ 1 1 [.string x,.bool ng,.string z] C C ?c1 ?c2 ?c3 ?c4 ?c5 ?_);case c1=>exact Z1 Sm
           case c2=>intro u hu;simp at hu;rcases hu with rfl|rfl|rfl<;>rfl
           case c3=>unfold maxLen;omega
           case c4=>omega
           case c5=>simp;have:=p.size;omega
           intro v' w6 D i _;have a3:=I<|OB (Vh (Vh p _) _) i λq L=>(o.lt q L).1;have a4:=I<|RK.grown H (a2.below<|Yc.alloc Sm _) i λq L=>(o.lt q L).1;have a5:Hid<|w6.ownsRow w.heap.size 374 3 v' (bs++[(x,z,ng)]).length<|UF<|bs++[(x,z,ng)]:=by rwa [Dy,Yv]
           clear D i;go_wp2;go_roundg y.length;case measure=>omega
           case rel=>exact⟨_,y,k5,m,C,a4,a5,⟨X,by simp;omega,l⟩,a3⟩
         · rw[show Zf (bl ⟨#[44]⟩) r=.error _ from PG K]at d;obtain⟨fa,rfl⟩:=d.shape;have HE:Hid<|WJ _ R _ _:=d;have l:Hid<|PL=.error (2,(hd r).at_):=by rw[<-j,PG K];rfl
           clear d;go_wp2;go_ret2;exact⟨_,_,_,_,C,by rwa [l.out],U⟩
  · rw[PG h1]at d;have l:Hid<|PL=.error (2,(hd ts).at_):=by rw[W,PG h1];rfl
    obtain⟨fa,rfl⟩:=d.shape;have HE:Hid<|WJ _ R _ _:=d;clear d;go_wp2;go_ret2;exact⟨_,_,_,_,C,by rwa [l.out],b2⟩
def RQ(s:BA):Bool:=!decide (UD=bl s)&&!decide (UZ=bl s)&&!(Y7 (bl s) Wu).isSome&&!(Y7 (bl s) WN).isSome
theorem td(s:BA):CP 298 #[.string s] w λe u=>e=.returned (.bool<|RQ s)/\u=w:=uZ s w
theorem ny(d:bl s=(hd ts).txt)(c:RQ s=true):Qb ts=Zk 2 ts:=by
 unfold Qb;by_cases a:Qc (hd ts)=true
 .rw[Ye a];exfalso;unfold RQ at c;rw[d]at c;unfold Qc at a;simp only[Vu,MT,O4]at c;simp only[Iw]at a;obtain⟨⟨⟨e,f⟩,g⟩,h⟩:=c;rcases a with((a|a)|a)|a
  .rw[g]at a;cases a
  .rw[h]at a;cases a
  .exact e (M7 a).symm
  .exact f (M7 a).symm
 .rw[Yd a]
theorem nB(f:bl s=(hd ts).txt)(c:RQ s=false):Qb ts=.error (2,(hd ts).at_):=by
 unfold Qb;by_cases d:Qc (hd ts)=true
 .rw[Ye d]
 .rw[Yd d];refine Nv λg=>d ?_;unfold RQ at c;rw[f]at c;unfold Qc;have e:∀a:LB,decide (a=(hd ts).txt)=Yk a (hd ts):=by
   intro a;unfold Yk;rw[g,Ud,Qs,Vu,XL];exact⟨λh=>⟨C,h.symm⟩,λh=>h.2.symm⟩
  rw[e,e]at c;generalize Yk UD (hd ts)=b1 at*;generalize Yk UZ (hd ts)=b2 at*;generalize(Y7 (hd ts).txt Wu).isSome=b3 at*;generalize(Y7 (hd ts).txt WN).isSome=b4 at*;cases b1<;>cases b2<;>cases b3<;>cases b4<;>first|rfl|cases c
def set2(w:World)(a:Nat)(x y:Value):World:=(w.setCell ⟨a,0,none⟩ x).setCell ⟨a,1,none⟩ y
theorem JI{p q x y:Value}{t:TypeId}(h:Ya w a [p,q] t):Ya (set2 w a x y) a [x,y] t:=by
 unfold Ya at h;unfold Ya set2;simp only[World.setCell,V4,h,VE,Wr];rfl
theorem Ss{P:Program}{fn:Func}{R:Ending->World->Prop}{a:Act}{v:World}{p q x y r:Value}{t:TypeId}(c:∀W:World,W.cell? ⟨b,0,none⟩=some x->W.cell? ⟨b,1,none⟩=some y->(results fn a.tmps).run P W=.ok r W)(hd:a.defers=[])(d:Ya v b [p,q] t)(e:R (.returned r)<|set2 v b x y):bodyPost P fn R .ret a<|set2 v b x y:=by
 have s:=JI d (x:=x) (y:=y);exact YQ (c _ (s.cell 0)<|s.cell 1) hd e
theorem G7(w:World)(a:Nat)(x y:Value)(c:b≠a):(set2 w a x y).heap[b]?=w.heap[b]?:=by
 unfold set2;rw[Go.Deep.blk_setCell_other _ _ _ _ c,Go.Deep.blk_setCell_other _ _ _ _ c]
theorem Na(h:w0.grownBy w<|some b)(c:w0.heap.size<=a)(x y:Value):w0.grownBy (set2 w a x y)<|some b:=
 Zn (Zn h (Or.inr c) _) (Or.inr c) _
theorem WJ.set2(h:WJ w R e v){c:List Value}{t:TypeId}(d:Ya w a c t)(f:t≠96)(x y:Value):WJ (set2 w a x y) R e v:=by
 refine h.grown (b:=a) ?_ d f;exact Zn (Zn (Z2 w<|some a) (Or.inl C) _) (Or.inl C) _
theorem Ue.same{ns:List<|LB}(h:Ue w v ns)(a:∀j,v.ownBlock=some j->w'.heap[j]?=w.heap[j]?):Ue w' v ns:=by
 obtain⟨bs,c,d⟩:=h;exact⟨bs,ZJ c a,d⟩
theorem Z0.same(h:Z0 w v ns)(a:∀j,v.ownBlock=some j->w'.heap[j]?=w.heap[j]?):Z0 w' v ns:=by
 obtain⟨bs,c,d⟩:=h;exact⟨bs,ZJ c a,d⟩
theorem Z0.kept(h:Z0 w v ns)(g:w.grownBy w'<|some b){t:TypeId}(i:w.heap[b]?=some (.cells c t fr))(k:t≠374):Z0 w' v ns:=by
 obtain⟨bs,a,l⟩:=h;have d:=ZD a i k;exact⟨bs,ZJ a λj f=>g.block j (a.lt j f).2 λe=>by cases e;exact d f.symm,l⟩
theorem Ue.kept{ns:List<|LB}(h:Ue w v ns)(g:w.grownBy w'<|some b){t:TypeId}(i:w.heap[b]?=some (.cells c t fr))(k:t≠9):Ue w' v ns:=by
 obtain⟨bs,a,l⟩:=h;have d:=ZD a i k;exact⟨bs,ZJ a λj f=>g.block j (a.lt j f).2 λe=>by cases e;exact d f.symm,l⟩
theorem Z0.set2(h:Z0 w v ns){c:List Value}{t:TypeId}(d:Ya w a c t)(e:t≠374)(x y:Value):Z0 (set2 w a x y) v ns:=
 h.kept (b:=a) (Zn (Zn (Z2 w<|some a) (Or.inl C) _) (Or.inl C) _) d e
theorem A4(h:RK w R k ts):
 CP 280 #[Vp R.b] w λe u=>∃(nm:BA)(la:Option Addr)(ln lc:Nat)(v:Value),e=.returned (.tuple #[.agg #[.string nm,.slice la ln lc],v])/\Hid (U4 R (λu nd=>bl nm=nd.name/\Z0 u (.slice la ln lc) nd.kq) u (YP ts) v)/\w.grownBy u (some R.b):=by
 have H:Hid<|RK w R k ts:=h;have b1:R.b<w.heap.size:=(Xr.1 h.rd.cells).1;go_enter func280,ntmps280;go_wp2_with fail;refine Zv λW0 m=>?_;have J:Hid<|RK W0 R k ts:=I<|by rw[m];exact H.below Yc
 have a1:Hid<|Ya W0 w.heap.size [.string ByteArray.empty,S0] 229:=I<|by rw[m];exact YO
 have a2:Hid<|w.grownBy W0<|some R.b:=I<|by rw[m];exact Vh (Z2 _ _) _
 refine(QM J.out).mono ?_;rintro e w1 ⟨⟨kd,at_,tx,tv⟩,rfl,ht,n⟩;have K:=I<|a1.below n;have L:Hid<|w.grownBy w1<|some R.b:=Zi a2.out<|ZB n;have M:Hid<|RK w1 R k ts:=J.below n;have O:Hid<|bl tx=(hd ts).txt:=ht.2.2.1;have hf:∀W:World,(Instr.field 389 (.agg #[E kd,E at_,.string tx,E tv]) 2).run prog W=.ok (.string tx) W:=λ_=>C;go_wp2_with fail;refine YK (td tx) ?_;cases hc:RQ tx
 .have o:Hid<|YP ts=.error (2,(hd ts).at_):=I<|by unfold YP;rw[nB O.out hc];rfl
  go_wp2_with fail;refine(Ox M.out).mono ?_;rintro e wE ⟨v,rfl,G,P⟩;obtain⟨fa,rfl⟩:=G.shape;have f:=I<|K.below P;have a3:Hid<|w.grownBy wE<|some R.b:=Zi L.out<|ZB P;have f0:=f.frozen;have c0:=f.cell;go_wp2;exact Ss (r:=.tuple #[.agg #[.string ⟨#[]⟩,S0],.iface 92<|Vp fa]) (λW s0 s1=>by simp[results,results280,go_sem,s0,s1]) C f.out ⟨_,_,_,_,_,C,by rw[o.out];exact(G.set2 f.out N (.string ⟨#[]⟩) S0),Na a3.out (Yj _) (.string ⟨#[]⟩) S0⟩
 .have Q:Hid<|Qb ts=Zk 2 ts:=ny O.out hc;go_wp2_with fail;refine(JS M.out).mono ?_;rintro e z ⟨x,v,rfl,a,hg⟩;have c:Hid<|Ya z w.heap.size [.string ByteArray.empty,S0] 229:=K.grown hg<|by simp;omega
  have S:Hid<|w.grownBy z<|some R.b:=Zi L.out hg;by_cases g:(hd ts).jj=2
  .rw[OD g]at a;obtain⟨rfl,⟨k2,hk⟩,hx⟩:=a.out;have T:Hid<|RK z R k2 ts.tail:=hk;have HX:Hid<|bl x=(hd ts).txt:=hx;have U:Hid<|Qb ts=.ok ((hd ts).txt,ts.tail):=I<|by rw[Q.out,OD g]
   go_wp2_with fail;refine(QM T.out).mono ?_;rintro e w3 ⟨⟨kd3,at3,tx3,tv3⟩,rfl,a4,p⟩;have a5:=I<|c.below p;have a6:Hid<|w.grownBy w3<|some R.b:=Zi S.out<|ZB p;have q:Hid<|RK w3 R k2 ts.tail:=T.below p;go_wp2_with fail;refine(Nt a4.out q.wf.head.1 q.wf.head.2.2 ⟨#[123]⟩ N N _).mono ?_;rintro e w4 ⟨rfl,t⟩;have i:=I<|a5.below t;have V:Hid<|w.grownBy w4<|some R.b:=Zi a6.out<|ZB t;have A:Hid<|RK w4 R k2 ts.tail:=q.below t;by_cases B:Yk [123] (hd ts.tail)=true
   .rw[show Yk (bl ⟨#[123]⟩) (hd ts.tail)=true from B];obtain⟨PL,Y⟩:∃PL,PL=bnd (Zf [123] ts.tail) λ_ r=>ZI ZK [125] (r.length+1) [] r:=⟨_,C⟩;have D:Hid<|YP ts=bnd PL λcs r=>.ok (⟨1,0,0,(hd ts).txt,cs,[]⟩,r):=I<|by
      unfold YP;rw[U.out];show(if Yk [123] (hd ts.tail)=true then _ else _)=_;rw[Ye B,Y,Qj B];have hl:ts.tail.length=ts.tail.tail.length+1:=by have:=A.pos;rw[Rz (l:=ts.tail)];omega
      rw[hl];rfl
    have a7:Hid<|PL=bnd (Zf [123] ts.tail) λ_ r=>ZI ZK [125] (r.length+1) [] r:=Y;go_wp2_with fail;refine(nX A.out ⟨#[123]⟩ ⟨#[125]⟩ N N).mono ?_;rintro e F ⟨la,ln,lc,v,rfl,a,Z⟩;rw[show(bnd (Zf (bl ⟨#[123]⟩) ts.tail) λ_ r=>ZI ZK (bl ⟨#[125]⟩) (r.length+1) [] r)=PL from a7.symm]at a;have d:Hid<|Ya F w.heap.size [.string ByteArray.empty,S0] 229:=i.grown Z<|by simp;omega
    have a8:Hid<|w.grownBy F<|some R.b:=Zi V.out Z;have f0:=d.frozen;have c0:=d.cell;go_wp2;change bodyPost _ _ _ _ _<|set2 F w.heap.size (.string x)<|.slice la ln lc;have s:=JI d.out (x:=.string x) (y:=.slice la ln lc);have s0:=s.cell 0;have s1:=s.cell 1;simp only[Yf]at s0 s1;have a9:=I<|Na a8.out (Yj _) (.string x)<|.slice la ln lc;have b0:Hid<|U4 R (λu nd=>bl x=nd.name/\Z0 u (.slice la ln lc) nd.kq) (set2 F w.heap.size (.string x)<|.slice la ln lc) (YP ts) v:=I<|by
     rw[D.out];cases a0:PL with
     |error er=>rw[a0]at a;exact WJ.set2 a.out d.out N _ _
     |ok pr=>
      rw[a0]at a;obtain⟨h1,⟨kk,h2⟩,h3⟩:=a.out;exact⟨h1,⟨kk,RK.fresh H.out h2 (Yj _) λj hj=>G7 _ _ _ _ hj⟩,HX.out,Z0.set2 h3 d.out N _ _⟩
    generalize set2 F w.heap.size (.string x) (.slice la ln lc)=WX at*;exact YQ (v:=.tuple #[.agg #[.string x,.slice la ln lc],v]) (by simp[results,results280,go_sem,s0,s1]) C ⟨_,_,_,_,_,C,b0,a9.out⟩
   .rw[show Yk (bl ⟨#[123]⟩) (hd ts.tail)=false from Qt.2 B];have D:Hid<|YP ts=.ok (⟨1,0,0,(hd ts).txt,[],[]⟩,ts.tail):=I<|by
     unfold YP;rw[U.out];show(if Yk [123] (hd ts.tail)=true then _ else _)=_;rw[Yd B]
    have f0:=i.frozen;have c0:=i.cell;go_wp2;exact Ss (r:=.tuple #[.agg #[.string x,S0],.nilIface]) (λW s0 s1=>by simp[results,results280,go_sem,s0,s1]) C i.out ⟨_,_,_,_,_,C,by rw[D.out];exact⟨C,⟨_,RK.fresh H.out A.out (w':=set2 w4 w.heap.size (.string x) S0) (Yj _) λj hj=>G7 _ _ _ _ hj⟩,HX.out,[],Xm _ _ _ _,C⟩,Na V.out (Yj _) (.string x) S0⟩
  .rw[Nv g]at a;have o:Hid<|YP ts=.error (2,(hd ts).at_):=I<|by unfold YP;rw[Q.out,Nv g];rfl
   obtain⟨fa,rfl⟩:=a.shape;have G:Hid<|WJ z R (2,(hd ts).at_) _:=a.out;have f0:=c.frozen;have c0:=c.cell;go_wp2;exact Ss (r:=.tuple #[.agg #[.string x,S0],.iface 92<|Vp fa]) (λW s0 s1=>by simp[results,results280,go_sem,s0,s1]) C c.out ⟨_,_,_,_,_,C,by rw[o.out];exact(G.set2 c.out N (.string x) S0),Na S.out (Yj _) (.string x) S0⟩

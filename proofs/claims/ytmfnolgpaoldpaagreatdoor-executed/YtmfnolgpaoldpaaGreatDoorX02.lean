/- Parts. -/
import Derived.Test.YtmfnolgpaoldpaaGreatDoorX01
set_option linter.all false
set_option maxRecDepth 100000
set_option maxHeartbeats 16000000
namespace Go.Proofs.YtmfnolgpaoldpaaGreatDoor
open Go.RowKit LS Go.Proofs.Tryz
open Go renaming World->Y,Value->F
open Go.RowKit renaming Hid->U
theorem oC{b:Nat}{pv pv':F}{w w':Y}{a:Nat}(c:Yv b pv w pv' w')(d:pv.ownBlock≠some a)(f:a<w.heap.size):pv'.ownBlock≠some a:=by
 rcases c.own with e|e
 .rw[e];exact d
 .intro h;have:=e a h;omega
theorem XF.box{w:Y}{xs:List F}{a:Nat}{p0:PV}(d:Yq w a p0)(o:Nat)(x:F):∀(t:Tr)(i:Nat),XF w xs t i->XF (w.setCell ⟨a,o,none⟩ x) xs t i
 |.nil,_,_=>trivial
 |.node _ _ nd l r,i,h=>by
  obtain⟨p,u,c,e,⟨g1,g2,g3,g4,⟨qs,q1,q2⟩,⟨bs,b1,b2⟩⟩,f,g,j,k,m,n⟩:=h;exact⟨p,u,c,e,⟨g1,g2,g3,g4,⟨qs,LA q1 d N,q2⟩,⟨bs,LA b1 d N,b2⟩⟩,f,g,j,k,XF.box d o x l u m,XF.box d o x r c n⟩
def Vn(r3:Yl Unit)(qs:List BA)(rr:Yl Unit):Prop:=(∃e,r3=.error e/\rr=.error e/\qs=[])\/∃ts0,r3=.ok ((),ts0)/\SJ (Zk 2) [41] bl (ts0.length+1) ts0 qs rr
def OH(r3:Yl Unit):Yl<|List<|LB:=bnd r3 λ_ r=>ZI (Zk 2) [41] (r.length+1) [] r
theorem Vn.start(r3:Yl Unit):Vn r3 [] r3:=by
 cases r3 with
 |error e=>exact .inl ⟨e,C,C,C⟩
 |ok x=>exact .inr ⟨x.2,C,SJ.start _ _ _ _ _<|Yj _⟩
theorem Vn.len{r3 rr:Yl Unit}{qs:List BA}{K:Nat}(h:Vn r3 qs rr)(a:∀ts,r3=.ok ((),ts)->ts.length<=K):qs.length<=K+1:=by
 rcases h with⟨e,_,_,rfl⟩|⟨ts0,c,d⟩
 .simp
 .have:=a _ c;have:=d.2.2;omega
theorem Vn.round{r3:Yl Unit}{ts:List Yg}{qs:List BA}{x:BA}{r1 r4:Yl Unit}(h:Vn r3 qs<|.ok ((),ts))(a:Yk [41] (hd ts)=false)
 (c:(if qs.isEmpty then .ok ((),ts)else Zf [44] ts)=r1)(d:r4=bnd r1 λ_ t=>Zj<|Zk 2 t)(f:∀y,r1=.ok y->∀z,Zk 2 y.2=.ok z->bl x=z.1):Vn r3 (qs++[x]) r4:=by
 rcases h with⟨e,_,h,_⟩|⟨ts0,g,i⟩
 .cases h
 .exact .inr ⟨ts0,g,SJ.round i a c d (λt z e j=>f _ e z j)<|KF 2 N⟩
theorem Vn.done{r3 rr:Yl Unit}{qs:List BA}(h:Vn r3 qs rr)(hd:XS [41] rr=true\/∃e,rr=.error e):
 Zj (OH r3)=(bnd rr λ_ ts=>Zf [41] ts)/\∀z,OH r3=.ok z->qs.map bl=z.1:=by
 rcases h with⟨e,rfl,rfl,rfl⟩|⟨ts0,rfl,a⟩
 .exact⟨C,λz c=>(by cases c)⟩
 .exact SJ.done a hd
theorem qp (rec:Nat->List Yg->Nat->Yl Tr)(g:Nat)(ts:List Yg)(deep:Nat):Tf rec g ts deep=bnd (OH<|bnd (Zf UZ ts) λ_ r=>Zf [40] r) λns r=>bnd (Z9 rec r deep) λa r=>.ok (.node 0 0 ⟨5,g,0,[],[],ns⟩ a .nil,r):=by
 unfold Tf OH;rw[Ox,Ox]
theorem DI (N:Yl<|List<|LB)(rec:Nat->List Yg->Nat->Yl Tr)(g deep:Nat):Zj (bnd N λns r=>bnd (Z9 rec r deep) λa r=>(.ok (.node 0 0 ⟨5,g,0,[],[],ns⟩ a .nil,r):Yl Tr))=Zj (bnd (Zj N) λ_ ts=>Z9 rec ts deep):=by
 cases N with
 |error e=>rfl
 |ok x=>
  show Zj (bnd (Z9 rec x.2 deep) λa r=>(.ok (.node 0 0 ⟨5,g,0,[],[],x.1⟩ a .nil,r):Yl Tr))=Zj (Z9 rec x.2 deep);cases Z9 rec x.2 deep with
  |error e=>rfl
  |ok y=>rfl
theorem qH {N:Yl<|List<|LB}{rec:Nat->List Yg->Nat->Yl Tr}{g deep:Nat}{t:Tr}{z:List Yg}(h:(bnd N λns r=>bnd (Z9 rec r deep) λa r=>(.ok (.node 0 0 ⟨5,g,0,[],[],ns⟩ a .nil,r):Yl Tr))=.ok (t,z)):
 ∃ns zz a,N=.ok (ns,zz)/\(bnd (Zj N) λ_ ts=>Z9 rec ts deep)=.ok (a,z)/\t=.node 0 0 ⟨5,g,0,[],[],ns⟩ a .nil:=by
  obtain⟨ns,zz,d,e⟩:=Zw h;obtain⟨a,z2,f,c⟩:=Zw e;injection c with c;injection c with c h5;subst d;subst h5;exact⟨ns,zz,a,C,f,c.symm⟩
theorem nB{r3:Yl Unit}{M n:Nat}(h:Xq M n r3):Xq M n<|Zj<|OH r3:=
 Xq.unit<|h.bnd λ_ ts z _ a=>by have:=Ms (KF 2 N) _ _ _ _ a;omega
theorem ny{r3:Yl Unit}{L:Nat}(h:∀ts,r3=.ok ((),ts)->ts.length<=L):∀ts,Zj (OH r3)=.ok ((),ts)->ts.length<=L:=by
 intro ts e;unfold Zj at e;obtain⟨ns,t1,c,a⟩:=Zw e;injection a with a;injection a with _ a;subst a;unfold OH at c;obtain⟨_,t2,d,f⟩:=Zw c;have:=Ms (KF 2 N) _ _ _ _ f;have:=h _ d;simp at*;omega
theorem te{W:Y}{a:F}{t:TypeId}{n:Nat}(c:W.heap.size=n):∀j x,[a][j]?=some x->(W.alloc<|.cells #[a] t).cell? ((⟨n,0,none⟩:Addr).add j)=some x:=by
 intro j x d;subst c;rw[QI];have h:=Go.Deep.blk_alloc_new W<|.cells #[a] t;simp only[World.cell?,h];simpa using d
theorem Tryz.infoStr:(Tryz.prog.info? 9).map (λi=>(i.zero,i.size,i.bytes))=some (some<|.string ByteArray.empty,1,16):=Kr
theorem qD{w:Y}{b:Nat}{pv:F}{s:BA}{deep:Nat}{ts:List Yg}(h:St w b pv s deep<|.ok ((),ts))(hs:s.size<=6000)(hl:¬((hd ts).jj=0\/(hd ts).jj=5))(g:Nat){gi:Int}(f2:gi=g)
 {rec:Nat->List Yg->Nat->Yl Tr}{L:Nat}(hw:We 287 s (Z9 rec) L)(hL:ts.length<=L){n:Nat}{xs:List F}{M:Nat}(T:w.ownsRow 0 59 8 pv n xs)(hM:M<=6000)(hB:n+ts.length<=M)(f3:deep<=20):
 CP 289 #[Vp b,E gi] w λe w'=>∃i:Int,e=.returned (E i)/\Yi w b pv s deep xs M (Tf rec g ts.tail deep) i w':=by
 subst f2;have f4:=h.lt;have f7:ts≠[]:=by rintro rfl;exact hl<|.inl C
 have j3:ts.tail.length+1=ts.length:=by cases ts with
  |nil=>exact absurd C f7
  |cons t r=>rfl
 have HX:U<|pv.ownBlock≠some w.heap.size:=I λe=>by have:=(T.lt _ e).2;omega
 have H:U<|∀o,St (w.alloc o) b _ s _ _:=λo=>St.kept h<|Go.Deep.blk_alloc_lt _ _ _ f4;have HO:=I λo=>T.alloc o;have HW:=I hw;obtain⟨r1,V⟩:∃r1:Yl _,r1=.ok ((),ts.tail):=⟨_,C⟩;obtain⟨r3,W⟩:∃r3:Yl _,r3=bnd (Zf UZ ts.tail) λ_ r=>Zf [40] r:=⟨_,C⟩;have f8:U<|Xq (M-1) n r3:=by
  have h1:Xq (M-1) n r1:=V▸(show n+ts.tail.length<=M-1 by omega);have h2:=Xq.take (Xq.take h1 UZ) [40];rw[V]at h2;rw[W];exact h2
 have b9:U<|∀t,r3=.ok ((),t)->t.length<=ts.length:=by
  intro t e;rw[W]at e;obtain⟨_,t1,h1,h2⟩:=Zw e;have:=SD h1;have:=SD h2;simp at*;omega
 have j2:ts.length<=6002:=by have:=St.len h;simp at this;omega
 have c0:=I V;have c1:=I W;clear h T hw V W;obtain⟨i0,hi,f9,g0,g1⟩:=Xv Tryz.infoStr;go_enter func289,ntmps289;go_wp2_with fail;refine(St.next (H _) hs ⟨ts,C,hl⟩).m ?_;rintro e w1 ⟨rfl,d,c⟩;have a4:U<|St w1 b pv s deep r1:=c0.o▸d;have c2:U<|Yq _ _ {Oa 5 with op:=g}:=Yq.grown (Go.Deep.blk_alloc_new _ _) c<|by simp;omega
 have c3:=I<|VZ (H _) (HO _) c;have c4:=I<|Zi (J3 w _ _) c;clear d c;go_wp2_with fail;refine(St.take a4 hs _).m ?_;rintro e w2 ⟨rfl,d,c⟩;have a5:U<|St w2 b pv s deep<|Zf UZ ts.tail:=by rw[c0]at d;exact d
 have c5:U<|Yq _ _ {Oa 5 with op:=g}:=Yq.grown c2 c<|by simp;omega
 have c6:=I<|VZ a4 c3 c;have c8:=I<|Zi c4 c;clear d c a4 c2 c3 c4;go_wp2_with fail;refine(St.take a5 hs _).m ?_;rintro e w3 ⟨rfl,d,c⟩;have a6:U<|St _ b _ s _ _:=c1.o▸d;have c9:U<|Yq _ _ ⟨5,0,g,⟨#[]⟩,none,0,0,none,0,0,0,0⟩:=Yq.grown c5 c<|by simp;omega
 have d0:=I<|VZ a5 c6 c;have d1:=I<|Zi c8 c;clear d c a5 c5 c6 c8;go_wp2_with fail;refine(St.is a6 _).m ?_;rintro e w4 ⟨rfl,rfl⟩;rw[show bl _=[41]from C];go_wp2;go_loopw [6] (λv6 wr=>∃(qs:List BA)(ba:Option Addr)(bc:Nat)(rr:Yl Unit),v6=.bool (XS [41] rr)/\U (St wr b pv s deep rr)/\
  U (Yq wr w.heap.size ⟨5,0,g,⟨#[]⟩,none,0,0,ba,qs.length,bc,0,0⟩)/\U (wr.ownsRow w.heap.size 9 1 (.slice ba qs.length bc) qs.length<|qs.map .string)/\U (wr.ownsRow 0 59 8 pv n xs)/\U (w.grownBy wr<|some b)/\U (Vn r3 qs rr))
  (λ_ wr=>ts.length+2-Pl wr ⟨w.heap.size,5,none⟩);case atStart=>exact⟨[],none,0,r3,C,a6,c9,Xm _ _ _ _,d0,d1,Vn.start _⟩
 case round=>
  obtain⟨qs,ba,bc,rr,rfl,A,G,J,Q,K,Z⟩:=hrel;clear a6 c9 d0 d1;obtain⟨qr,a0,_,_,d2,d3⟩:=St.view A;have c7:=(YN.all a0).2.2.2.2.2.2.2.1;have e9:=a0.lt;have f0:((XS [41] rr=true\/(XS [41] rr=false/\((qr.e:Int)==0)=false))/\(XS [41] rr=true\/∃e,rr=.error e))\/(XS [41] rr=false/\((qr.e:Int)==0)=true/\∃ts,rr=.ok ((),ts)/\Yk [41] (hd ts)=false):=by
   cases rr with
   |error e=>exact .inl ⟨.inr ⟨C,by rw[YB];have:=(d2 e C).2.1;omega⟩,.inr ⟨e,C⟩⟩
   |ok y=>
    obtain⟨⟨⟩,ts⟩:=y;have h0:=(d3 _ C).1;cases hc:Yk [41]<|hd ts
    .exact .inr ⟨hc,by rw[h0];rfl,ts,C,hc⟩
    .exact .inl ⟨.inl hc,.inl hc⟩
  have j4:=Vn.len Z b9;have R:=I<|ZD J a0 N;clear a0 d2 d3;rcases f0 with⟨a1,a7⟩|⟨g2,g3,tr,g4,g5⟩
  .have a8:=I<|Vn.done Z a7;clear a7;generalize XS [41] rr=v6 at a1;rcases a1 with rfl|⟨rfl,he⟩;all_goals
   go_wp2_with fail;refine(St.take A hs _).m ?_;rintro e w5 ⟨rfl,d,c⟩;rw[show bl _=[41]from C,<-a8.1]at d;have p:=I d;have j:=I<|Yq.grown G c<|by simp;omega
   have q:=I<|O7 J c<|.inr λh=>R h.symm;have v:=I<|VZ A Q c;have B:=I<|Zi K c;clear d c A G J Q K Z c7;go_wp2_with fail;refine(HW _ b _ _ _ n _ _ p v X (nB f8) (ny λt e=>Xb (b9 t e) hL) f3).m ?_;rintro e f ⟨i,rfl,hp⟩;obtain⟨n2,pv2,ys,s2,o2,k2,b2,r2⟩:=hp.o;have a9:=Yq.lt j;have O:=Yq.kept j<|k2.block _ a9 X λe=>HX e.symm;have d4:f.ownsRow w.heap.size 9 1 (.slice ba qs.length bc) qs.length<|qs.map .string:=by
    obtain⟨qq,g6,_⟩:=St.view p;exact Hd g6 v k2 q N N
   have g8:=oC k2 HX a9;have l6:=(Yq.all O).2.2.2.2.2.2.1;have f6:=Yq.frozen O 6;have b0:U<|St (f.setCell ⟨w.heap.size,6,none⟩<|E i) b _ s _ _:=St.kept s2<|Go.Deep.blk_setCell_other _ _ _ _<|by show b≠w.heap.size;omega
   have d5:U<|Yq _ _ ⟨5,0,g,⟨#[]⟩,none,0,0,ba,qs.length,bc,i,0⟩:=Yq.setA O i;have d6:U<|(f.setCell ⟨w.heap.size,6,none⟩<|E i).ownsRow 0 9 1 _ _ _:=Jv<|LA d4 O N;have b1:U<|(f.setCell ⟨w.heap.size,6,none⟩<|E i).ownsRow 0 _ 8 _ _ _:=ZJ o2 λk hk=>Go.Deep.blk_setCell_other _ _ _ _<|by rintro rfl;exact g8 hk
   have d7:U<|Yv b _ w _<|f.setCell ⟨w.heap.size,6,none⟩<|E i:=Yv.set ((((Yv.refl b _ w).grown B)).trans k2) (Yj _) _;have d8:U _:=b2;have d9:U<|∀t z,(bnd (Zj<|OH r3) λ_ ts=>Z9 rec ts deep)=.ok (t,z)->∃k:Nat,i=k/\XF (f.setCell ⟨w.heap.size,6,none⟩<|E i) (xs++ys) t k/\k+1=n2/\ys.length=8*WZ t:=by
    intro t z e;obtain⟨k,e1,e2,e3⟩:=r2 t z e;exact⟨k,e1,XF.box O _ _ t k e2,e3⟩
   have k0:=Yq.all d5;obtain⟨m0,m1,m2,m3,m4,m5,m6,m7⟩:=k0;have g9:n2<=6000:=by have:=Xq.le d8;omega
   clear hp s2 o2 k2 b2 r2 O d4 p j q v B;go_wp2_with fail;clear l6 f6;generalize f.setCell ⟨w.heap.size,6,none⟩ (E i)=w7 at b0 d5 d6 b1 d7 d9 m0 m1 m2 m3 m4 m5 m6 m7⊢;refine(St.lay b0.o b1.o g9 ⟨5,0,g,⟨#[]⟩,none,0,0,ba,qs.length,bc,i,0⟩).m ?_;rintro e w8 ⟨pv8,rfl,s8,o8,k8⟩;have i1:U<|Yi w b pv s deep xs M (Tf rec g ts.tail deep) n2 w8:=I (by
    rw[qp,<-c1.o];refine⟨n2+1,pv8,ys++(⟨5,0,g,⟨#[]⟩,none,0,0,ba,qs.length,bc,i,0⟩:PV).cells,?_,?_,d7.trans k8,?_,?_⟩
    .rw[DI];exact s8
    .rw[<-Vd];exact o8
    .refine Xq.of_unit ?_;rw[DI];exact Xq.up (Xq.unit d8.o) X
    .intro t z e;obtain⟨ns,zz,a,e1,e2,rfl⟩:=qH e;obtain⟨k,e3,e4,e5,e6⟩:=d9.o a z e2;refine⟨n2,C,?_,C,by rw[Yx,e6];show _+8=8*(WZ a+0+1);omega⟩;rw[<-Vd];exact JA b0.o b1.o k8 _ ⟨5,g,0,[],[],ns⟩ a .nil k 0 ⟨C,C,C,C,ZP.nil _ _ _ C C C,⟨qs,d6.o,a8.2 _ e1⟩⟩ e3 C X (Yr _) e4 trivial);clear s8 o8 k8;go_wp2;go_ret;exact⟨_,C,i1⟩
  .subst g4;have b3:=(Yq.all G).2.2.2.2.2.1;have i2:U<|Pl _ _=qs.length:=I<|by unfold Pl;rw[b3]
   have i3:=K.size;rw[g2];go_upto_if 29 with fail;go_cut []from 17 to 40 (λD=>∃r5:Yl Unit,U ((if qs.isEmpty then .ok ((),tr)else Zf [44] tr)=r5)/\U (St D b pv s deep r5)/\U (Yq D w.heap.size ⟨5,0,g,⟨#[]⟩,none,0,0,ba,qs.length,bc,0,0⟩)/\U (D.ownsRow w.heap.size 9 1 (.slice ba qs.length bc) qs.length<|qs.map .string)/\U (D.ownsRow 0 59 8 pv n xs)/\U (w.grownBy D<|some b));case first=>
    by_cases e0:qs.length=0
    .have b4:decide (0<(qs.length:Int))=false:=Wl X;have HQ:U<|qs.isEmpty=true:=by rw[Oh.1 e0];rfl
     go_wp2;go_meet;exact⟨_,C,by rwa [HQ.o],G,J,Q,K⟩
    .have b4:decide (0<(qs.length:Int))=true:=WI X;have i4:0<qs.length:=X;have HQ:U<|qs.isEmpty=false:=by cases qs with
     |nil=>exact absurd C e0
     |cons a l=>rfl
     go_wp2_with fail;clear b4 i4;refine(St.take A hs _).m ?_;rintro e w5 ⟨rfl,d,c⟩;have p:U<|St _ b _ s _<|Zf [44] _:=d;have j:=I<|Yq.grown G c<|by simp;omega
     have q:=I<|O7 J c<|.inr λh=>R h.symm;have v:=I<|VZ A Q c;have B:=I<|Zi K c;clear d c;go_wp2;go_meet;exact⟨_,C,by rwa [HQ.o],j,q,v,B⟩
   case rest=>
   obtain⟨r5,i5,p,j,q,v,B⟩:=hcut;clear A G J Q K c7 e9 i3 b3 g3;have k5:=(Yq.all j).2.2.2.2.2.1;have a9:=Yq.lt j;have b5:U<|St wc.drew b _ s _ _:=St.kept p C;go_upto_region 9 with fail;go_cut []from 17 to 40 (λD=>∃(x:BA)(gb cp:Nat),U (∀y,r5=.ok y->∀z,Zk 2 y.2=.ok z->bl x=z.1)/\U (St D b pv s deep<|bnd r5 λ_ t=>Zj<|Zk 2 t)/\U (Yq D w.heap.size ⟨5,0,g,⟨#[]⟩,none,0,0,some ⟨gb,0,none⟩,qs.length+1,cp,0,0⟩)/\U (D.ownsRow w.heap.size 9 1 (.slice (some ⟨gb,0,none⟩) (qs.length+1) cp) (qs.length+1)<|(qs++[x]).map .string)/\U (D.ownsRow 0 59 8 pv n xs)/\U (w.grownBy D<|some b));case first=>
    go_region_law (first
     | (fail_if_success (have h6:=HO6)
        go_simp;go_wp2_with(
         go_at_call 292;refine(St.jj b5.o hs 2 _ C N).m ?_;rintro e f ⟨x,rfl,d,hx,c⟩;have P:wc.grownBy f<|some b:=⟨c.os,c.tape,c.output,c.size,c.block⟩;have b6:U<|St f b pv s deep<|bnd r5 λ_ t=>Zj<|Zk 2 t:=d;have S:U<|Yq f w.heap.size ⟨5,0,g,⟨#[]⟩,none,0,0,ba,qs.length,bc,0,0⟩:=Yq.grown j.o P<|by simp;omega
         have HO6:U<|∀o,(f.alloc o).ownsRow w.heap.size 9 1 (.slice ba qs.length bc) qs.length<|qs.map .string:=λo=>N6 (O7 q.o P<|Or.inr λh=>R.o h.symm) o;have b7:U<|f.ownsRow w.heap.size 9 1 (.slice ba qs.length bc) qs.length<|qs.map .string:=O7 q.o P<|Or.inr λh=>R.o h.symm;have e7:U<|f.ownsRow 0 59 8 pv n xs:=VZ p.o v.o P;have i6:U<|w.grownBy f<|some b:=Zi B.o P;have j5:w.heap.size<f.heap.size:=Yq.lt S.o;have l5:=(Yq.all S.o).2.2.2.2.2.1;clear d c P))
     | (refine SY C (.tmp 33) (.tmp 36) 57 C w.heap.size 9 i0 _ 1 16 underlying57 hi f9 g0 g1 C N (.slice ba qs.length bc) qs.length (qs.map .string) (by simp[Act.eval]) (HO6.o _) ⟨f.heap.size,0,none⟩ 1 1 [.string x] (by simp[Act.eval]) C (te C) ?h3 ?h4 ?h5 ?h6 ?_;case h3=>intro u hu;simp at hu;subst hu;rfl
        case h4=>unfold maxLen;omega
        case h5=>omega
        case h6=>simp;omega
        intro v7 w7 a2 m _;have b8:=Zm a2 X;obtain⟨g7,cp7,b8⟩:=b8;subst b8;have a3:Yq w7 w.heap.size ⟨5,0,g,⟨#[]⟩,none,0,0,ba,qs.length,bc,0,0⟩:=Yq.grown (Yq.kept S.o<|Go.Deep.blk_alloc_lt _ _ _<|Yq.lt S.o) m<|ZD b7.o S.o N;have m5:=(Yq.all a3).2.2.2.2.2.1;have f5:=Yq.frozen a3 5));all_goals
     go_wp2;go_meet;have st7:=St.kept (St.kept b6<|Go.Deep.blk_alloc_lt _ _ _<|St.lt b6)<|m.block b (by rw[Go.Deep.nblk_alloc];have:=St.lt b6;omega) R;have i7:=O7 (N6 e7 _) m<|QD e7 b7 N;have i8:=DJ (Vh i6 _) m λk hk=>(b7.lt k hk).1;refine⟨x,g7,cp7,hx,St.kept st7<|Go.Deep.blk_setCell_other _ _ _ _<|by show b≠w.heap.size;omega,Yq.setBy a3 _ _ _,?_,?_,Zn i8 (.inr<|Yj _) _⟩
     .rw[Xa];exact LA a2 a3 N
     .exact ZJ i7 λk hk=>Go.Deep.blk_setCell_other _ _ _ _<|by rintro rfl;exact HX hk
   case rest=>
   obtain⟨x,gb,cp,Hx,e8,i9,j6,j0,j1⟩:=hcut;have f1:U<|Pl _ _=qs.length+1:=I<|by unfold Pl;rw[(Yq.all i9).2.2.2.2.2.1]
   clear k5 p j q v B b5;go_wp2_with fail;refine(St.is e8 _).m ?_;rintro e wz ⟨rfl,rfl⟩;rw[show bl _=[41]from C];go_wp2;go_roundw;case rel=>exact⟨qs++[x],some _,cp,_,C,e8,by rwa [Yx],by rwa [Yx],j0,j1,Vn.round Z g5 i5 C Hx⟩
   case measure=>
    rw[i2,f1];omega
def UF:List (BA×BA×Bool)->List F
 |[]=>[]
 |c::l=>.string c.1::.bool c.2.2::.string c.2.1::UF l
theorem Du(l m:List<|BA×BA×Bool):UF (l++m)=UF l++UF m:=by
 induction l with
 |nil=>rfl
 |cons a l ih=>simp[UF,ih]
def TE(l:List BA):List F:=l.map .string
theorem H4(l m:List BA):TE (l++m)=TE l++TE m:=Xa
def Wo(c:BA×BA×Bool):LB×LB×Bool:=(bl c.1,bl c.2.1,c.2.2)
def Ue(w:Y)(v:F)(ns:List<|LB):Prop:=∃bs:List BA,w.ownsRow 0 9 1 v bs.length (TE bs)/\bs.map bl=ns
def Z0(w:Y)(v:F)(cs:List<|LB×LB×Bool):Prop:=∃bs:List<|BA×BA×Bool,w.ownsRow 0 374 3 v bs.length (UF bs)/\bs.map Wo=cs
theorem Tryz.infoCondD:(Tryz.prog.info? 374).map (λi=>(i.zero,i.size,i.bytes))=some (some<|.agg #[.string ByteArray.empty,.bool false,.string ByteArray.empty],3,40):=Kr
theorem Z1{W:Y}{l:List F}{t:TypeId}{n:Nat}(a:W.heap.size=n):∀j x,l[j]?=some x->(W.alloc<|.cells ⟨l⟩ t).cell? ((⟨n,0,none⟩:Addr).add j)=some x:=by
 intro j x c;subst a;rw[QI];have h:=Go.Deep.blk_alloc_new W<|.cells ⟨l⟩ t;simp only[World.cell?,h];simpa using c
theorem TX{w:Y}{base:Nat}{e:TypeId}{size:Nat}{v:F}{n:Nat}{xs:List F}(h:w.ownsRow base e size v n xs):w.ownsRow 0 e size v n xs:=by
 refine⟨h.1,?_⟩;rcases h.2 with a|⟨g,cap,cur,h,_,r⟩
 .exact .inl a
 .exact .inr ⟨g,cap,cur,h,Yr _,r⟩
theorem OJ{w w':Y}{base:Nat}{e:TypeId}{size:Nat}{v:F}{n:Nat}{xs:List F}(h:w.ownsRow base e size v n xs){b:Nat}(a:w.grownBy w'<|some b)(c:b<base):w'.ownsRow base e size v n xs:=
 h.kept a<|Or.inr λq=>by have:=(h.lt b q).1;omega
theorem OC{w0 w w':Y}{b:Nat}{v:F}(h:w0.grownBy w<|some b)(a:w.grownBy w' v.ownBlock)(f:∀q,v.ownBlock=some q->w0.heap.size<=q):w0.grownBy w'<|some b:=by
 refine⟨a.os.trans h.os,a.tape.trans h.tape,a.output.trans h.output,Xb h.size a.size,?_⟩;intro j c d;rw[a.block j (WH c h.size) λe=>by have:=f j e.symm;omega,h.block j c d]
theorem RK.grown{w0 w w':Y}{R:RS}{k0 k:Nat}{ts0 ts:List Yg}(a:RK w0 R k0 ts0)(h:RK w R k ts){v:F}(c:w.grownBy w' v.ownBlock)(d:∀q,v.ownBlock=some q->w0.heap.size<=q):RK w' R k ts:=by
 refine h.blocks λj f g=>c.block j f λe=>?_;have:=d j e.symm;have o:=(Xr.1 a.rd.cells).1;have p:=ZN a.rd.own;have i:=Xi _ _ a.sy;have l:=Xi _ _ a.dp;have m:1<w0.heap.size:=i;have n:2<w0.heap.size:=l;rcases g with rfl|rfl|rfl|rfl<;>omega
theorem Fp{α:Type}{item:List Yg->Yl α}{close:LB}{m:Nat}{acc:List α}{ts:List Yg}(h:Yk close (hd ts)=true):ZI item close (m+1) acc ts=.ok (acc,ts.tail):=Ye h
theorem Fq {α:Type}{item:List Yg->Yl α}{close:LB}{m:Nat}{ts:List Yg}(h:Yk close (hd ts)=false):ZI item close (m+1) [] ts=bnd (item ts) λa r=>ZI item close m [a] r:=by
 show(if Yk close (hd ts)=true then _ else _)=_;rw[h];rfl
theorem Fs {α:Type}{item:List Yg->Yl α}{close:LB}{m:Nat}{acc:List α}{ts:List Yg}(h:Yk close (hd ts)=false)(c:acc≠[]):ZI item close (m+1) acc ts=bnd (Zf [44] ts) λ_ r=>bnd (item r) λa r=>ZI item close m (acc++[a]) r:=by
 show(if Yk close (hd ts)=true then _ else _)=_;rw[h];cases acc with
 |nil=>exact absurd C c
 |cons a l=>rfl
theorem Qi{s:LB}{ts:List Yg}(h:Yk s (hd ts)=true):Zf s ts=.ok ((),ts.tail):=Ye h
theorem PG{s:LB}{ts:List Yg}(h:¬Yk s (hd ts)=true):Zf s ts=.error (2,(hd ts).at_):=Yd h
theorem KH{k:Nat}{ts:List Yg}{a:LB}{r:List Yg}(h:Zk k ts=.ok (a,r)):r=ts.tail:=by
 unfold Zk at h;split at h
 .cases h;rfl
 .cases h
theorem EW{ts:List Yg}{a:LB×LB×Bool}{r:List Yg}(h:ZK ts=.ok (a,r)):r.length<=ts.tail.length:=by
 have:=K5 _ _ h;simp only[Rz]at*;omega
theorem RK.pos{w:Y}{R:RS}{k:Nat}{ts:List Yg}(h:RK w R k ts):0<ts.length:=h.wf.head.2.1
theorem nU {w:Y}{R:RS}{k:Nat}{ts:List Yg}(h:RK w R k ts){op cl:BA}(b6:(bl op).all (λc=>!Zl c)=true/\bl op≠[])(b7:(bl cl).all (λc=>!Zl c)=true/\bl cl≠[]):
 CP 295 #[Vp R.b,.string op,.string cl,.func (.func 296) #[] #[]] w λe w'=>∃(la:Option Addr)(ln lc:Nat)(v:F),e=.returned (.tuple #[.slice la ln lc,v])/\U (U4 R (λw' ns=>Ue w' (.slice la ln lc) ns) w' (bnd (Zf (bl op) ts) λ_ r=>ZI (Zk 2) (bl cl) (r.length+1) [] r) v)/\w.grownBy w' (some R.b):=by
  have H:=I h;have G:=(Xr.1 h.rd.cells).1;obtain⟨i0,hi,a9,b0,b1⟩:=Xv Tryz.infoStr;have b2:=I b6;have J:=I b7;obtain⟨PL,b3⟩:∃PL:Yl _,PL=bnd (Zf (bl op) ts) λ_ r=>ZI (Zk 2) (bl cl) (r.length+1) [] r:=⟨_,C⟩;rw[<-b3];have P:=I b3;go_enter func295,ntmps295;go_wp2_with fail;refine(Qh H _ b2.1 b2.2).m ?_;rintro e w1 ⟨v,rfl,d,hg⟩;have b4:=I hg;by_cases h1:Yk (bl op) (hd ts)=true
  · rw[Qi h1]at d;have j:U<|ZI (Zk 2) (bl cl) (ts.tail.length+1) [] ts.tail=PL:=by rw[P,Qi h1];rfl
    obtain⟨rfl,⟨k1,b8⟩,_⟩:=d.o;have K:U<|RK _ R _ ts.tail:=b8;obtain⟨r0,b9⟩:∃r0,r0=ts.tail:=⟨_,C⟩;rw[<-b9]at K j;go_wp2;go_loopg [11] r0.length (λg v11 wr=>∃(bs:List BA)(r:List Yg)(k2 n:Nat),g=r.length/\U (RK wr R k2 r)/\U (wr.ownsRow w.heap.size 9 1 v11 bs.length<|TE bs)/\U (r.length<n/\bs.length+r.length<=302/\ZI (Zk 2) (bl cl) n (bs.map bl) r=PL)/\U (w.grownBy wr<|some R.b));case atStart=>exact⟨[],r0,k1,r0.length+1,C,K,Xm _ _ _ _,⟨X,by have:=K.size;have:=K.len;simp;omega,j⟩,b4⟩
    case round=>
     obtain⟨bs,r,k2,n,d2,HK,HO,s,HG⟩:=hrel;obtain⟨m,rfl⟩:∃m,n=m+1:=⟨n-1,by have:=s.1;omega⟩;obtain⟨av,cp,hv⟩:=Zd HO;subst hv;go_wp2_with fail;refine(QL HK).m ?_;rintro e w2 ⟨⟨kd,at_,tx,tv⟩,rfl,ht,Q⟩;have S:=I<|HK.below Q;have c0:=I<|Ze HO Q;have c6:=I<|Zi HG<|ZB Q;go_wp2_with fail;refine(Nu ht.o S.wf.head.1 S.wf.head.2.2 cl J.1 J.2 w2).m ?_;rintro e w3 ⟨rfl,T⟩;have L:=I<|S.below T;have V:=I<|Ze c0 T;have W:=I<|Zi c6<|ZB T;by_cases hc:Yk (bl cl) (hd r)=true
     · rw[hc];have j:U<|PL=.ok _:=I<|by rw[<-s.2.2,Fp hc]
       have c7:=I<|Qi hc;go_wp2_with fail;refine(Qh L _ J.1 J.2).m ?_;rintro e w4 ⟨v,rfl,d,t⟩;rw[c7]at d;obtain⟨rfl,Z,_⟩:=d.o;have c8:U<|∃k,RK _ R k r.tail:=Z;have a0:=I<|OJ V t G;have M:=I<|Zi W t;go_wp2;go_ret2;exact⟨_,_,_,_,C,j.o▸⟨C,c8.o,bs,TX a0.o,C⟩,M⟩
     · have a1:=Qs.2 hc;rw[a1];by_cases hb:bs=[]
       .subst hb;have j:U<|(bnd _ _)=PL:=s.2.2▸(Fq a1).symm;have d3:([]:List BA).length=0:=C;go_wp2_with fail;refine(JR L).m ?_;rintro e w5 ⟨x,v,rfl,d,A⟩;have o:=I<|OJ V A G;have p:=I<|Zi W A;cases f:(Zk 2) r with
        |error er=>
         rw[f]at d;obtain⟨fa,rfl⟩:=d.shape;have HE:U<|WJ _ R _ _:=d;have i:U<|PL=.error er:=by rw[<-j,f];rfl
         go_wp2;go_ret2;exact⟨_,_,_,_,C,by rwa [i.o],p⟩
        |ok pr=>
         obtain⟨a,y⟩:=pr;rw[f]at d;obtain⟨rfl,⟨k5,a2⟩,hx⟩:=d.o;have HX:U<|bl x=a:=hx;have a3:U<|RK _ R _ y:=a2;have B:y.length<=(r).tail.length:=(λh=>KH h▸Yj _) f;have hy:y.length<r.length:=by have h9:=L.pos;simp only[Rz]at B;omega
         have i:U<|ZI (Zk 2) (bl cl) m (([]++[x]).map bl) y=PL:=by rw[<-j,f,Xa];rw[<-HX];rfl
         have c9:=s.2.1;have d0:=s.1;go_wp2_with(at_builtin;refine XC _ C (.tmp 43) (.tmp 45) 57 C w.heap.size 9 i0 (.string ByteArray.empty) 1 16 underlying57 hi a9 b0 b1 C N _ _ _ C (o.alloc _) ⟨w5.heap.size,0,none⟩ 1 1 [.string x] C C ?c1 ?c2 ?c3 ?c4 ?c5 ?_);case c1=>exact Z1 C
         case c2=>intro u hu;simp at hu;rw[hu];rfl
         case c3=>unfold maxLen;omega
         case c4=>omega
         case c5=>simp;have:=p.size;omega
         intro v' w6 a8 l _;have a4:=I<|OC (Vh p _) l λq D=>(o.lt q D).1;have a5:=I<|RK.grown H (a3.below Yc) l λq D=>(o.lt q D).1;have a6:U<|w6.ownsRow w.heap.size 9 1 v' ([]++[x]).length<|TE<|[]++[x]:=by rwa [H4,Yx]
         go_wp2;go_roundg y.length;case measure=>omega
         case rel=>exact⟨_,y,k5,m,C,a5,a6,⟨X,by simp;omega,i⟩,a4⟩
       · have d1:=QX.2 hb;have j:U<|(bnd _ λ_ z=>bnd _ _)=PL:=s.2.2▸(Fs a1<|by simpa using hb).symm;go_wp2_with fail;refine(Qh L _ N N).m ?_;rintro e w4 ⟨v,rfl,d,t⟩;have a0:=I<|OJ V t G;have M:=I<|Zi W t;by_cases O:Yk [44] (hd r)=true
         · rw[show Zf (bl ⟨#[44]⟩) r=.ok _ from Qi O]at d;obtain⟨rfl,⟨k4,Z⟩,_⟩:=d.o;have b5:U<|RK _ R _ r.tail:=Z;have a7:U<|(bnd ((Zk 2) r.tail) λa y=>ZI (Zk 2) (bl cl) m (bs.map bl++[a]) y)=PL:=by rw[<-j,Qi O];rfl
           go_wp2_with fail;refine(JR b5).m ?_;rintro e w5 ⟨x,v,rfl,d,A⟩;have o:=I<|OJ a0 A G;have p:=I<|Zi M A;cases f:(Zk 2) r.tail with
          |error er=>
           rw[f]at d;obtain⟨fa,rfl⟩:=d.shape;have HE:U<|WJ _ R _ _:=d;have i:U<|PL=.error er:=by rw[<-a7,f];rfl
           go_wp2;go_ret2;exact⟨_,_,_,_,C,by rwa [i.o],p⟩
          |ok pr=>
           obtain⟨a,y⟩:=pr;rw[f]at d;obtain⟨rfl,⟨k5,a2⟩,hx⟩:=d.o;have HX:U<|bl x=a:=hx;have a3:U<|RK _ R _ y:=a2;have B:y.length<=(r.tail).tail.length:=(λh=>KH h▸Yj _) f;have hy:y.length<r.length:=by have h9:=b5.pos;simp only[Rz]at h9 B;omega
           have i:U<|ZI (Zk 2) (bl cl) m ((bs++[x]).map bl) y=PL:=by rw[<-a7,f,Xa];rw[<-HX];rfl
           have c9:=s.2.1;have d0:=s.1;go_wp2_with(at_builtin;refine XC _ C (.tmp 43) (.tmp 45) 57 C w.heap.size 9 i0 (.string ByteArray.empty) 1 16 underlying57 hi a9 b0 b1 C N _ _ _ C (o.alloc _) ⟨w5.heap.size,0,none⟩ 1 1 [.string x] C C ?c1 ?c2 ?c3 ?c4 ?c5 ?_);case c1=>exact Z1 C
           case c2=>intro u hu;simp at hu;rw[hu];rfl
           case c3=>unfold maxLen;omega
           case c4=>omega
           case c5=>simp;have:=p.size;omega
           intro v' w6 a8 l _;have a4:=I<|OC (Vh p _) l λq D=>(o.lt q D).1;have a5:=I<|RK.grown H (a3.below Yc) l λq D=>(o.lt q D).1;have a6:U<|w6.ownsRow w.heap.size 9 1 v' (bs++[x]).length<|TE<|bs++[x]:=by rwa [H4,Yx]
           go_wp2;go_roundg y.length;case measure=>omega
           case rel=>exact⟨_,y,k5,m,C,a5,a6,⟨X,by simp;omega,i⟩,a4⟩
         · rw[show Zf (bl ⟨#[44]⟩) r=.error _ from PG O]at d;obtain⟨fa,rfl⟩:=d.shape;have HE:U<|WJ _ R _ _:=d;have i:U<|PL=.error (2,(hd r).at_):=by rw[<-j,PG O];rfl
           go_wp2;go_ret2;exact⟨_,_,_,_,C,by rwa [i.o],M⟩
  · rw[PG h1]at d;have i:U<|PL=.error (2,(hd ts).at_):=by rw[P,PG h1];rfl
    obtain⟨fa,rfl⟩:=d.shape;have HE:U<|WJ _ R _ _:=d;go_wp2;go_ret2;exact⟨_,_,_,_,C,by rwa [i.o],b4⟩
theorem nS {w:Y}{R:RS}{k:Nat}{ts:List Yg}(h:RK w R k ts)(op cl:BA)(b7:(bl op).all (λc=>!Zl c)=true/\bl op≠[])(b8:(bl cl).all (λc=>!Zl c)=true/\bl cl≠[]):
 CP 299 #[Vp R.b,.string op,.string cl,.func (.func 300) #[] #[]] w λe w'=>∃(la:Option Addr)(ln lc:Nat)(v:F),e=.returned (.tuple #[.slice la ln lc,v])/\U (U4 R (λw' ns=>Z0 w' (.slice la ln lc) ns) w' (bnd (Zf (bl op) ts) λ_ r=>ZI ZK (bl cl) (r.length+1) [] r) v)/\w.grownBy w' (some R.b):=by
  have H:=I h;have O:=(Xr.1 h.rd.cells).1;obtain⟨i0,hi,b0,b1,b2⟩:=Xv Tryz.infoCondD;have b3:=I b7;have P:=I b8;obtain⟨PL,b4⟩:∃PL:Yl _,PL=bnd (Zf (bl op) ts) λ_ r=>ZI ZK (bl cl) (r.length+1) [] r:=⟨_,C⟩;rw[<-b4];have a0:=I b4;go_enter func299,ntmps299;go_wp2_with fail;refine(Qh H _ b3.1 b3.2).m ?_;rintro e w1 ⟨v,rfl,d,hg⟩;have b5:=I hg;by_cases h1:Yk (bl op) (hd ts)=true
  · rw[Qi h1]at d;have j:U<|ZI ZK (bl cl) (ts.tail.length+1) [] ts.tail=PL:=by rw[a0,Qi h1];rfl
    obtain⟨rfl,⟨k1,b9⟩,_⟩:=d.o;have Q:U<|RK _ R _ ts.tail:=b9;obtain⟨r0,c0⟩:∃r0,r0=ts.tail:=⟨_,C⟩;rw[<-c0]at Q j;go_wp2;go_loopg [11] r0.length (λg v11 wr=>∃(bs:List<|BA×BA×Bool)(r:List Yg)(k2 n:Nat),g=r.length/\U (RK wr R k2 r)/\U (wr.ownsRow w.heap.size 374 3 v11 bs.length<|UF bs)/\U (r.length<n/\bs.length+r.length<=302/\ZI ZK (bl cl) n (bs.map Wo) r=PL)/\U (w.grownBy wr<|some R.b));case atStart=>exact⟨[],r0,k1,r0.length+1,C,Q,Xm _ _ _ _,⟨X,by have:=Q.size;have:=Q.len;simp;omega,j⟩,b5⟩
    case round=>
     obtain⟨bs,r,k2,n,d3,HK,HO,G,HG⟩:=hrel;obtain⟨m,rfl⟩:∃m,n=m+1:=⟨n-1,by have:=G.1;omega⟩;obtain⟨av,cp,hv⟩:=Zd HO;subst hv;go_wp2_with fail;refine(QL HK).m ?_;rintro e w2 ⟨⟨kd,at_,tx,tv⟩,rfl,ht,a1⟩;have a2:=I<|HK.below a1;have c6:=I<|Ze HO a1;have c7:=I<|Zi HG<|ZB a1;go_wp2_with fail;refine(Nu ht.o a2.wf.head.1 a2.wf.head.2.2 cl P.1 P.2 w2).m ?_;rintro e w3 ⟨rfl,a3⟩;have J:=I<|a2.below a3;have S:=I<|Ze c6 a3;have T:=I<|Zi c7<|ZB a3;by_cases hc:Yk (bl cl) (hd r)=true
     · rw[hc];have j:U<|PL=.ok _:=I<|by rw[<-G.2.2,Fp hc]
       have c8:=I<|Qi hc;go_wp2_with fail;refine(Qh J _ P.1 P.2).m ?_;rintro e w4 ⟨v,rfl,d,t⟩;rw[c8]at d;obtain⟨rfl,V,_⟩:=d.o;have c9:U<|∃k,RK _ R k r.tail:=V;have a4:=I<|OJ S t O;have W:=I<|Zi T t;go_wp2;go_ret2;exact⟨_,_,_,_,C,j.o▸⟨C,c9.o,bs,TX a4.o,C⟩,W⟩
     · have Z:=Qs.2 hc;rw[Z];by_cases hb:bs=[]
       .subst hb;have j:U<|(bnd _ _)=PL:=G.2.2▸(Fq Z).symm;have d4:([]:List<|BA×BA×Bool).length=0:=C;go_wp2_with fail;refine(EX J).m ?_;rintro e w5 ⟨x,ng,z,v,rfl,d,A⟩;have o:=I<|OJ S A O;have p:=I<|Zi T A;cases f:ZK r with
        |error er=>
         rw[f]at d;obtain⟨fa,rfl⟩:=d.shape;have HE:U<|WJ _ R _ _:=d;have l:U<|PL=.error er:=by rw[<-j,f];rfl
         clear d f;go_wp2;go_ret2;exact⟨_,_,_,_,C,l.o▸HE.below Yc,Vh p _⟩
        |ok pr=>
         obtain⟨a,y⟩:=pr;rw[f]at d;obtain⟨rfl,⟨k5,K⟩,B⟩:=d.o;have HX:U<|Wo (x,z,ng)=a:=I<|by unfold Wo;simp only[B.1,B.2.1,B.2.2]
         have a5:U<|RK _ R _ y:=K;have s:=EW f;have hy:y.length<r.length:=by have h9:=J.pos;simp only[Rz]at s;omega
         have l:U<|ZI ZK (bl cl) m (([]++[(x,z,ng)]).map Wo) y=PL:=by rw[<-j,f,Xa];rw[<-HX];rfl
         have d0:=G.2.1;have d1:=G.1;clear d K B f s;go_wp2_with(at_builtin;refine XC _ C (.tmp 43) (.tmp 45) 227 C w.heap.size 374 i0 (.agg #[.string ByteArray.empty,.bool false,.string ByteArray.empty]) 3 40 underlying227 hi b0 b1 b2 C N _ _ _ C ((o.alloc _).alloc _) ⟨w5.heap.size+1,0,none⟩ 1 1 [.string x,.bool ng,.string z] C C ?c1 ?c2 ?c3 ?c4 ?c5 ?_);case c1=>exact Z1<|Sm
         case c2=>intro u hu;simp at hu;rcases hu with rfl|rfl|rfl<;>rfl
         case c3=>unfold maxLen;omega
         case c4=>omega
         case c5=>simp;have:=p.size;omega
         intro v' w6 D i _;have a6:=I<|OC (Vh (Vh p _) _) i λq M=>(o.lt q M).1;have a7:=I<|RK.grown H (a5.below<|Yc.alloc (Sm) _) i λq M=>(o.lt q M).1;have a8:U<|w6.ownsRow w.heap.size 374 3 v' ([]++[(x,z,ng)]).length<|UF<|[]++[(x,z,ng)]:=by rwa [Du,Yx]
         clear D i;go_wp2;go_roundg y.length;case measure=>omega
         case rel=>exact⟨_,y,k5,m,C,a7,a8,⟨X,by simp;omega,l⟩,a6⟩
       · have d2:=QX.2 hb;have j:U<|(bnd _ λ_ z=>bnd _ _)=PL:=G.2.2▸(Fs Z<|by simpa using hb).symm;clear hc Z hb;go_wp2_with fail;refine(Qh J _ N N).m ?_;rintro e w4 ⟨v,rfl,d,t⟩;have a4:=I<|OJ S t O;have W:=I<|Zi T t;clear t;by_cases L:Yk [44] (hd r)=true
         · rw[show Zf (bl ⟨#[44]⟩) r=.ok _ from Qi L]at d;obtain⟨rfl,⟨k4,V⟩,_⟩:=d.o;have b6:U<|RK _ R _ r.tail:=V;have a9:U<|(bnd (ZK r.tail) λa y=>ZI ZK (bl cl) m (bs.map Wo++[a]) y)=PL:=by rw[<-j,Qi L];rfl
           clear d V L j J S T;go_wp2_with fail;refine(EX b6).m ?_;rintro e w5 ⟨x,ng,z,v,rfl,d,A⟩;have o:=I<|OJ a4 A O;have p:=I<|Zi W A;clear A;cases f:ZK r.tail with
          |error er=>
           rw[f]at d;obtain⟨fa,rfl⟩:=d.shape;have HE:U<|WJ _ R _ _:=d;have l:U<|PL=.error er:=by rw[<-a9,f];rfl
           clear d f;go_wp2;go_ret2;exact⟨_,_,_,_,C,l.o▸HE.below Yc,Vh p _⟩
          |ok pr=>
           obtain⟨a,y⟩:=pr;rw[f]at d;obtain⟨rfl,⟨k5,K⟩,B⟩:=d.o;have HX:U<|Wo (x,z,ng)=a:=I<|by unfold Wo;simp only[B.1,B.2.1,B.2.2]
           have a5:U<|RK _ R _ y:=K;have s:=EW f;have hy:y.length<r.length:=by have h9:=b6.pos;simp only[Rz]at h9 s;omega
           have l:U<|ZI ZK (bl cl) m ((bs++[(x,z,ng)]).map Wo) y=PL:=by rw[<-a9,f,Xa];rw[<-HX];rfl
           have d0:=G.2.1;have d1:=G.1;clear d K B f s;go_wp2_with(at_builtin;refine XC _ C (.tmp 43) (.tmp 45) 227 C w.heap.size 374 i0 (.agg #[.string ByteArray.empty,.bool false,.string ByteArray.empty]) 3 40 underlying227 hi b0 b1 b2 C N _ _ _ C ((o.alloc _).alloc _) ⟨w5.heap.size+1,0,none⟩ 1 1 [.string x,.bool ng,.string z] C C ?c1 ?c2 ?c3 ?c4 ?c5 ?_);case c1=>exact Z1<|Sm
           case c2=>intro u hu;simp at hu;rcases hu with rfl|rfl|rfl<;>rfl
           case c3=>unfold maxLen;omega
           case c4=>omega
           case c5=>simp;have:=p.size;omega
           intro v' w6 D i _;have a6:=I<|OC (Vh (Vh p _) _) i λq M=>(o.lt q M).1;have a7:=I<|RK.grown H (a5.below<|Yc.alloc (Sm) _) i λq M=>(o.lt q M).1;have a8:U<|w6.ownsRow w.heap.size 374 3 v' (bs++[(x,z,ng)]).length<|UF<|bs++[(x,z,ng)]:=by rwa [Du,Yx]
           clear D i;go_wp2;go_roundg y.length;case measure=>omega
           case rel=>exact⟨_,y,k5,m,C,a7,a8,⟨X,by simp;omega,l⟩,a6⟩
         · rw[show Zf (bl ⟨#[44]⟩) r=.error _ from PG L]at d;obtain⟨fa,rfl⟩:=d.shape;have HE:U<|WJ _ R _ _:=d;have l:U<|PL=.error (2,(hd r).at_):=by rw[<-j,PG L];rfl
           clear d;go_wp2;go_ret2;exact⟨_,_,_,_,C,by rwa [l.o],W⟩
  · rw[PG h1]at d;have l:U<|PL=.error (2,(hd ts).at_):=by rw[a0,PG h1];rfl
    obtain⟨fa,rfl⟩:=d.shape;have HE:U<|WJ _ R _ _:=d;clear d;go_wp2;go_ret2;exact⟨_,_,_,_,C,by rwa [l.o],b5⟩
def RQ(s:BA):Bool:=!decide (UD=bl s)&&!decide (UZ=bl s)&&!(Y7 (bl s) Wu).isSome&&!(Y7 (bl s) WN).isSome
theorem uV(s:BA){w:Y}:CP 298 #[.string s] w λe u=>e=.returned (.bool<|RQ s)/\u=w:=uU s w
theorem nk{ts:List Yg}{s:BA}(d:bl s=(hd ts).txt)(c:RQ s=true):Qa ts=Zk 2 ts:=by
 unfold Qa;by_cases a:Qb (hd ts)=true
 .rw[Ye a];exfalso;unfold RQ at c;rw[d]at c;unfold Qb at a;simp only[Vt,MT,O5]at c;simp only[Iv]at a;obtain⟨⟨⟨e,f⟩,g⟩,h⟩:=c;rcases a with((a|a)|a)|a
  .rw[g]at a;cases a
  .rw[h]at a;cases a
  .exact e (M6 a).symm
  .exact f (M6 a).symm
 .rw[Yd a]
theorem nl{ts:List Yg}{s:BA}(f:bl s=(hd ts).txt)(c:RQ s=false):Qa ts=.error (2,(hd ts).at_):=by
 unfold Qa;by_cases d:Qb (hd ts)=true
 .rw[Ye d]
 .rw[Yd d];refine Nw λg=>d ?_;unfold RQ at c;rw[f]at c;unfold Qb;have e:∀a:LB,decide (a=(hd ts).txt)=Yk a (hd ts):=by
   intro a;unfold Yk;rw[g,Uc,Qr,Vt,XM];exact⟨λh=>⟨C,h.symm⟩,λh=>h.2.symm⟩
  rw[e,e]at c;generalize Yk UD (hd ts)=b1 at*;generalize Yk UZ (hd ts)=b2 at*;generalize(Y7 (hd ts).txt Wu).isSome=b3 at*;generalize(Y7 (hd ts).txt WN).isSome=b4 at*;cases b1<;>cases b2<;>cases b3<;>cases b4<;>first|rfl|cases c
def set2(w:Y)(a:Nat)(x y:F):Y:=(w.setCell ⟨a,0,none⟩ x).setCell ⟨a,1,none⟩ y
theorem JH{w:Y}{a:Nat}{p q x y:F}{t:TypeId}(h:Ya w a [p,q] t):Ya (set2 w a x y) a [x,y] t:=by
 unfold Ya at h;unfold Ya set2;simp only[World.setCell,V4,h,VE,Wr];rfl
theorem Sr{P:Program}{fn:Func}{R:Ending->Y->Prop}{a:Act}{v:Y}{b:Nat}{p q x y r:F}{t:TypeId}(c:∀W:Y,W.cell? ⟨b,0,none⟩=some x->W.cell? ⟨b,1,none⟩=some y->(results fn a.tmps).run P W=.ok r W)(hd:a.defers=[])(d:Ya v b [p,q] t)(e:R (.returned r)<|set2 v b x y):bodyPost P fn R .ret a<|set2 v b x y:=by
 have s:=JH d (x:=x) (y:=y);exact YQ (c _ (s.cell 0)<|s.cell 1) hd e
theorem G6(w:Y)(a:Nat)(x y:F){b:Nat}(c:b≠a):(set2 w a x y).heap[b]?=w.heap[b]?:=by
 unfold set2;rw[Go.Deep.blk_setCell_other _ _ _ _ c,Go.Deep.blk_setCell_other _ _ _ _ c]
theorem Nb{w0 w:Y}{a b:Nat}(h:w0.grownBy w<|some b)(c:w0.heap.size<=a)(x y:F):w0.grownBy (set2 w a x y)<|some b:=
 Zn (Zn h (Or.inr c) _) (Or.inr c) _
theorem WJ.set2{w:Y}{R:RS}{e:Nat×Nat}{v:F}(h:WJ w R e v){a:Nat}{c:List F}{t:TypeId}(d:Ya w a c t)(f:t≠96)(x y:F):WJ (set2 w a x y) R e v:=by
 refine h.grown (b:=a) ?_ d f;exact Zn (Zn (Z2 w<|some a) (Or.inl C) _) (Or.inl C) _
theorem Ue.same{w w':Y}{v:F}{ns:List<|LB}(h:Ue w v ns)(a:∀j,v.ownBlock=some j->w'.heap[j]?=w.heap[j]?):Ue w' v ns:=by
 obtain⟨bs,c,d⟩:=h;exact⟨bs,ZJ c a,d⟩
theorem Z0.same{w w':Y}{v:F}{ns:List<|LB×LB×Bool}(h:Z0 w v ns)(a:∀j,v.ownBlock=some j->w'.heap[j]?=w.heap[j]?):Z0 w' v ns:=by
 obtain⟨bs,c,d⟩:=h;exact⟨bs,ZJ c a,d⟩
theorem Z0.kept{w w':Y}{v:F}{ns:List<|LB×LB×Bool}(h:Z0 w v ns){b:Nat}(g:w.grownBy w'<|some b){c:Array F}{t:TypeId}{fr:Nat×Nat}(i:w.heap[b]?=some (.cells c t fr))(k:t≠374):Z0 w' v ns:=by
 obtain⟨bs,a,l⟩:=h;have d:=ZD a i k;exact⟨bs,ZJ a λj f=>g.block j (a.lt j f).2 λe=>by cases e;exact d f.symm,l⟩
theorem Ue.kept{w w':Y}{v:F}{ns:List<|LB}(h:Ue w v ns){b:Nat}(g:w.grownBy w'<|some b){c:Array F}{t:TypeId}{fr:Nat×Nat}(i:w.heap[b]?=some (.cells c t fr))(k:t≠9):Ue w' v ns:=by
 obtain⟨bs,a,l⟩:=h;have d:=ZD a i k;exact⟨bs,ZJ a λj f=>g.block j (a.lt j f).2 λe=>by cases e;exact d f.symm,l⟩
theorem Z0.set2{w:Y}{v:F}{ns:List<|LB×LB×Bool}(h:Z0 w v ns){a:Nat}{c:List F}{t:TypeId}(d:Ya w a c t)(e:t≠374)(x y:F):Z0 (set2 w a x y) v ns:=
 h.kept (b:=a) (Zn (Zn (Z2 w<|some a) (Or.inl C) _) (Or.inl C) _) d e
theorem A0{w:Y}{R:RS}{k:Nat}{ts:List Yg}(h:RK w R k ts):
 CP 280 #[Vp R.b] w λe u=>∃(nm:BA)(la:Option Addr)(ln lc:Nat)(v:F),e=.returned (.tuple #[.agg #[.string nm,.slice la ln lc],v])/\U (U4 R (λu nd=>bl nm=nd.name/\Z0 u (.slice la ln lc) nd.kq) u (YP ts) v)/\w.grownBy u (some R.b):=by
 have H:U<|RK w R k ts:=h;have b4:R.b<w.heap.size:=(Xr.1 h.rd.cells).1;go_enter func280,ntmps280;go_wp2_with fail;refine Zv λW0 m=>?_;have K:U<|RK W0 R k ts:=I<|by rw[m];exact H.below Yc
 have a4:U<|Ya W0 w.heap.size [.string ByteArray.empty,S0] 229:=I<|by rw[m];exact YO
 have a5:U<|w.grownBy W0<|some R.b:=I<|by rw[m];exact Vh (Z2 _ _) _
 refine(QL K.o).m ?_;rintro e w1 ⟨⟨kd,at_,tx,tv⟩,rfl,ht,n⟩;have L:=I<|a4.below n;have M:U<|w.grownBy w1<|some R.b:=Zi a5.o<|ZB n;have O:U<|RK w1 R k ts:=K.below n;have P:U<|bl tx=(hd ts).txt:=ht.2.2.1;have hf:∀W:Y,(Instr.field 389 (.agg #[E kd,E at_,.string tx,E tv]) 2).run prog W=.ok (.string tx) W:=λ_=>C;go_wp2_with fail;refine YK (uV tx) ?_;cases hc:RQ tx
 .have o:U<|YP ts=.error (2,(hd ts).at_):=I<|by unfold YP;rw[nl P.o hc];rfl
  go_wp2_with fail;refine(Oy O.o).m ?_;rintro e wE ⟨v,rfl,J,Q⟩;obtain⟨fa,rfl⟩:=J.shape;have f:=I<|L.below Q;have a6:U<|w.grownBy wE<|some R.b:=Zi M.o<|ZB Q;have f0:=f.frozen;have c0:=f.cell;go_wp2;exact Sr (r:=.tuple #[.agg #[.string ⟨#[]⟩,S0],.iface 92<|Vp fa]) (λW s0 s1=>by simp[results,results280,go_sem,s0,s1]) C f.o ⟨_,_,_,_,_,C,by rw[o.o];exact(J.set2 f.o N (.string ⟨#[]⟩) S0),Nb a6.o (Yj _) (.string ⟨#[]⟩) S0⟩
 .have S:U<|Qa ts=Zk 2 ts:=nk P.o hc;go_wp2_with fail;refine(JR O.o).m ?_;rintro e z ⟨x,v,rfl,a,hg⟩;have c:U<|Ya z w.heap.size [.string ByteArray.empty,S0] 229:=L.grown hg<|by simp;omega
  have T:U<|w.grownBy z<|some R.b:=Zi M.o hg;by_cases g:(hd ts).jj=2
  .rw[OE g]at a;obtain⟨rfl,⟨k2,hk⟩,hx⟩:=a.o;have V:U<|RK z R k2 ts.tail:=hk;have HX:U<|bl x=(hd ts).txt:=hx;have Z:U<|Qa ts=.ok ((hd ts).txt,ts.tail):=I<|by rw[S.o,OE g]
   go_wp2_with fail;refine(QL V.o).m ?_;rintro e w3 ⟨⟨kd3,at3,tx3,tv3⟩,rfl,a7,p⟩;have a8:=I<|c.below p;have a9:U<|w.grownBy w3<|some R.b:=Zi T.o<|ZB p;have q:U<|RK w3 R k2 ts.tail:=V.below p;go_wp2_with fail;refine(Nu a7.o q.wf.head.1 q.wf.head.2.2 ⟨#[123]⟩ N N _).m ?_;rintro e w4 ⟨rfl,t⟩;have i:=I<|a8.below t;have a0:U<|w.grownBy w4<|some R.b:=Zi a9.o<|ZB t;have A:U<|RK w4 R k2 ts.tail:=q.below t;by_cases B:Yk [123] (hd ts.tail)=true
   .rw[show Yk (bl ⟨#[123]⟩) (hd ts.tail)=true from B];obtain⟨PL,a1⟩:∃PL,PL=bnd (Zf [123] ts.tail) λ_ r=>ZI ZK [125] (r.length+1) [] r:=⟨_,C⟩;have D:U<|YP ts=bnd PL λcs r=>.ok (⟨1,0,0,(hd ts).txt,cs,[]⟩,r):=I<|by
      unfold YP;rw[Z.o];show(if Yk [123] (hd ts.tail)=true then _ else _)=_;rw[Ye B,a1,Qi B];have hl:ts.tail.length=ts.tail.tail.length+1:=by have:=A.pos;rw[Rz (l:=ts.tail)];omega
      rw[hl];rfl
    have b0:U<|PL=bnd (Zf [123] ts.tail) λ_ r=>ZI ZK [125] (r.length+1) [] r:=a1;go_wp2_with fail;refine(nS A.o ⟨#[123]⟩ ⟨#[125]⟩ N N).m ?_;rintro e G ⟨la,ln,lc,v,rfl,a,a2⟩;rw[show(bnd (Zf (bl ⟨#[123]⟩) ts.tail) λ_ r=>ZI ZK (bl ⟨#[125]⟩) (r.length+1) [] r)=PL from b0.symm]at a;have d:U<|Ya G w.heap.size [.string ByteArray.empty,S0] 229:=i.grown a2<|by simp;omega
    have b1:U<|w.grownBy G<|some R.b:=Zi a0.o a2;have f0:=d.frozen;have c0:=d.cell;go_wp2;change bodyPost _ _ _ _ _<|set2 G w.heap.size (.string x)<|.slice la ln lc;have s:=JH d.o (x:=.string x) (y:=.slice la ln lc);have s0:=s.cell 0;have s1:=s.cell 1;simp only[Yf]at s0 s1;have b2:=I<|Nb b1.o (Yj _) (.string x)<|.slice la ln lc;have b3:U<|U4 R (λu nd=>bl x=nd.name/\Z0 u (.slice la ln lc) nd.kq) (set2 G w.heap.size (.string x)<|.slice la ln lc) (YP ts) v:=I<|by
     rw[D.o];cases a3:PL with
     |error er=>rw[a3]at a;exact WJ.set2 a.o d.o N _ _
     |ok pr=>
      rw[a3]at a;obtain⟨h1,⟨kk,h2⟩,h3⟩:=a.o;exact⟨h1,⟨kk,RK.fresh H.o h2 (Yj _) λj hj=>G6 _ _ _ _ hj⟩,HX.o,Z0.set2 h3 d.o N _ _⟩
    generalize set2 G w.heap.size (.string x) (.slice la ln lc)=WX at*;exact YQ (v:=.tuple #[.agg #[.string x,.slice la ln lc],v]) (by simp[results,results280,go_sem,s0,s1]) C ⟨_,_,_,_,_,C,b3,b2.o⟩
   .rw[show Yk (bl ⟨#[123]⟩) (hd ts.tail)=false from Qs.2 B];have D:U<|YP ts=.ok (⟨1,0,0,(hd ts).txt,[],[]⟩,ts.tail):=I<|by
     unfold YP;rw[Z.o];show(if Yk [123] (hd ts.tail)=true then _ else _)=_;rw[Yd B]
    have f0:=i.frozen;have c0:=i.cell;go_wp2;exact Sr (r:=.tuple #[.agg #[.string x,S0],.nilIface]) (λW s0 s1=>by simp[results,results280,go_sem,s0,s1]) C i.o ⟨_,_,_,_,_,C,by rw[D.o];exact⟨C,⟨_,RK.fresh H.o A.o (w':=set2 w4 w.heap.size (.string x) S0) (Yj _) λj hj=>G6 _ _ _ _ hj⟩,HX.o,[],Xm _ _ _ _,C⟩,Nb a0.o (Yj _) (.string x) S0⟩
  .rw[Nw g]at a;have o:U<|YP ts=.error (2,(hd ts).at_):=I<|by unfold YP;rw[S.o,Nw g];rfl
   obtain⟨fa,rfl⟩:=a.shape;have J:U<|WJ z R (2,(hd ts).at_) _:=a.o;have f0:=c.frozen;have c0:=c.cell;go_wp2;exact Sr (r:=.tuple #[.agg #[.string x,S0],.iface 92<|Vp fa]) (λW s0 s1=>by simp[results,results280,go_sem,s0,s1]) C c.o ⟨_,_,_,_,_,C,by rw[o.o];exact(J.set2 c.o N (.string x) S0),Nb T.o (Yj _) (.string x) S0⟩
end Go.Proofs.YtmfnolgpaoldpaaGreatDoor
namespace Go.Proofs.YtmfnolgpaoldpaaGreatDoor.LS
open Go Go.RowKit
def Yp(l:LB):Nat:=l.foldl (λn c=>256*n+c.toNat) 0
theorem Li(l:LB)(c:UInt8):Yp (l++[c])=256*Yp l+c.toNat:=by simp[Yp]
theorem vp(l:LB):Yp l.reverse<256^l.length:=by
 induction l with
 |nil=>decide
 |cons c l ih=>
  rw[Se,Li,Y1,IC];have:=c.toNat_lt;omega
theorem vm(l:LB):Yp l<256^l.length:=by
 have:=vp l.reverse;simp_all
theorem PS{l:LB}{n:Nat}(h:l.length<=n):Yp l<256^n:=WH (vm l)<|Nat.pow_le_pow_right N h
def XR:Nat->Nat->LB
 |_,0=>[]
 |n,k+1=>XR (n/256) k++[UInt8.ofNat<|n%256]
theorem Hm(k:Nat):∀n,(XR n k).length=k:=by
 induction k with
 |zero=>intro n;rfl
 |succ k ih=>intro n;simp[XR,ih]
theorem vU(k:Nat):∀n,XR n (k+1)=UInt8.ofNat (n/256^k%256)::XR n k:=by
 induction k with
 |zero=>intro n;simp[XR]
 |succ k ih=>
  intro n;show XR (n/256) (k+1)++[UInt8.ofNat<|n%256]=_;rw[ih,Eo,<-Nat.pow_succ'];rfl
theorem vk(k:Nat):∀n,n<256^k->Yp (XR n k)=n:=by
 induction k with
 |zero=>intro n h;simp at h;subst h;rfl
 |succ k ih=>
  intro n h;show Yp (XR (n/256) k++[UInt8.ofNat<|n%256])=n;rw[Li,ih _<|by rw[IC]at h;omega,UInt8.toNat_ofNat_of_lt'<|by show n%256<256;omega];omega
theorem vT(l:LB):XR (Yp l.reverse) l.length=l.reverse:=by
 induction l with
 |nil=>rfl
 |cons c l ih=>
  rw[Se,Li,Y1];show XR ((256*Yp l.reverse+c.toNat)/256) l.length++[UInt8.ofNat<|(256*Yp l.reverse+c.toNat)%256]=_;have a:=c.toNat_lt;rw[show(256*Yp l.reverse+c.toNat)/256=Yp l.reverse by omega,show(256*Yp l.reverse+c.toNat)%256=c.toNat by omega,ih];simp
theorem vS(l:LB):XR (Yp l) l.length=l:=by
 have:=vT l.reverse;rwa [List.reverse_reverse,QY]at this
def S4(h:Nat):Nat:=if h%2=1 then(h/2)^^^3988292384 else h/2
def R4:Nat->Nat->Nat
 |0,h=>h
 |k+1,h=>S4<|R4 k h
def Gv(h:Nat)(c:UInt8):Nat:=R4 8<|h^^^c.toNat
def VP(l:LB):Nat:=l.foldl Gv 4294967295
def XL(l:LB):Nat:=4294967295-VP l
theorem FF(l:LB)(c:UInt8):VP (l++[c])=Gv (VP l) c:=by simp[VP]
theorem vG{h:Nat}(a:h<4294967296):S4 h<4294967296:=by
 unfold S4;split
 .exact Nat.xor_lt_two_pow (n:=32) X N
 .omega
theorem K2{h:Nat}(a:h<4294967296):∀k,R4 k h<4294967296
 |0=>a
 |k+1=>vG<|K2 a k
theorem FU{h:Nat}(a:h<4294967296)(c:UInt8):h^^^c.toNat<4294967296:=Nat.xor_lt_two_pow (n:=32) a<|by have:=c.toNat_lt;omega
theorem uR{h:Nat}(a:h<4294967296)(c:UInt8):Gv h c<4294967296:=K2 (FU a c) 8
theorem fD(l:LB):VP l.reverse<4294967296:=by
 induction l with
 |nil=>decide
 |cons c l ih=>rw[Se,FF];exact uR ih c
theorem zf(l:LB):VP l<4294967296:=by
 have:=fD l.reverse;simp_all
theorem FG(l:LB):XL l<4294967296:=by unfold XL;omega
def Xg(l:LB):Option Nd:=match Z5 l with
 |.ok<|.node _ _ a _ _=>if a.jj=1/\Xl a=l then some a else none
 |_=>none
def ZL(t:LB):Option<|Nd×Nat:=match seek 91 t with
 |none=>(Xg t).map λa=>(a,0)
 |some p=>if t.getLast?=some 93 then(match ZC 1000 (t.drop<|p+1).dropLast with
  |some n=>if n=0 then none else(Xg<|t.take p).map λa=>(a,n)
  |none=>none)else none
def VW(t:LB):Option<|List<|LB:=if t=[]then some []else if(split 44 t).all Zx=true/\(split 44 t).Nodup then some (split 44 t)else none
structure Yb where
 jq:List Int
 jw:List<|Nd×Nat
 jv:List<|List<|LB
 jz:List<|Nat×Nat
abbrev X9 (α:Type):=Except (Nat×Nat)<|α×Nat
def Y6(l:LB)(p n:Nat):LB:=(l.drop p).take n
def VJ(l:LB)(p n:Nat):X9<|LB:=if l.length<p+n then .error (9,l.length)else .ok (Y6 l p n,p+n)
def Z8(l:LB)(p n:Nat):X9 Nat:=match VJ l p n with
 |.error e=>.error e
 |.ok x=>.ok (Yp x.1,x.2)
def TZ(v:Nat):Int:=if 2147483648<=v then(v:Int)-4294967296 else v
def Vw(l:LB)(p:Nat):X9 Int:=match Z8 l p 4 with
 |.error e=>.error e
 |.ok x=>if TZ x.1< -1000000000\/1000000000<TZ x.1 then .error (9,p)else .ok (TZ x.1,x.2)
def Vz(l:LB)(p:Nat):X9<|LB:=match Z8 l p 2 with
 |.error e=>.error e
 |.ok x=>VJ l x.2 x.1
def pickAt(l:LB)(p:Nat):X9<|Nd×Nat:=match Vz l p with
 |.error e=>.error e
 |.ok x=>match ZL x.1 with
  |none=>.error (9,p)
  |some y=>.ok (y,x.2)
def groupAt(l:LB)(p:Nat):X9<|List<|LB:=match Vz l p with
 |.error e=>.error e
 |.ok x=>match VW x.1 with
  |none=>.error (9,p)
  |some y=>.ok (y,x.2)
def WM(l:LB)(p:Nat):X9<|Nat×Nat:=match Z8 l p 1 with
 |.error e=>.error e
 |.ok x=>if 13<x.1 then .error (9,p)else match Z8 l x.2 2 with
  |.error e=>.error e
  |.ok y=>.ok ((x.1,y.1),y.2)
def Yo{α:Type}(one:Nat->X9 α)(p:Nat):Nat->X9 (List α)
 |0=>.ok ([],p)
 |k+1=>match Yo one p k with
  |.error e=>.error e
  |.ok x=>match one x.2 with
   |.error e=>.error e
   |.ok y=>.ok (x.1++[y.1],y.2)
theorem Ft{α:Type}{one:Nat->X9 α}{p k:Nat}{e:Nat×Nat}(h:Yo one p k=.error e):∀n,k<=n->Yo one p n=.error e:=by
 intro n a;induction n with
 |zero=>simp_all
 |succ n ih=>
  by_cases c:k=n+1
  .simp_all
  .have:=ih X;unfold Yo;rw[this]
theorem Rr{α:Type}{one:Nat->X9 α}{p k:Nat}{xs:List α}{q:Nat}{e:Nat×Nat}(h:Yo one p k=.ok (xs,q))(c:one q=.error e):∀n,k<n->Yo one p n=.error e:=
 λn a=>Ft (k:=k+1) (by unfold Yo;simp_all) n a
theorem OF{α:Type}{one:Nat->X9 α}{p k:Nat}{xs:List α}{q r:Nat}{y:α}(h:Yo one p k=.ok (xs,q))(a:one q=.ok (y,r)):Yo one p (k+1)=.ok (xs++[y],r):=by
 unfold Yo;simp_all
theorem KN{α:Type}{one:Nat->X9 α}{p:Nat}:∀{k:Nat}{xs:List α}{q:Nat},Yo one p k=.ok (xs,q)->xs.length=k
 |0,xs,q,h=>by injection h with h;simp_all
 |k+1,xs,q,h=>by
  unfold Yo at h;cases a:Yo one p k with
  |error e=>simp_all
  |ok x=>
   rw[a]at h;simp only at h;cases c:one x.2 with
   |error e=>simp_all
   |ok y=>
    rw[c]at h;injection h with h;injection h with h1 h2;subst h1;have:=KN<|a;simp_all
def US(l:LB):Except (Nat×Nat)<|Nat×Nat×Nat×Nat:=
 if l.head?≠some 103 then .error (9,0)else if l.length<9 then .error (9,l.length)else .ok (Yp<|Y6 l 1 2,Yp<|Y6 l 3 2,Yp<|Y6 l 5 2,Yp<|Y6 l 7 2)
def Wt(l:LB):Except (Nat×Nat) Yb:=match US l with
 |.error e=>.error e
 |.ok n=>match Yo (Vw l) 9 n.1 with
  |.error e=>.error e
  |.ok cs=>match Yo (pickAt l) cs.2 n.2.1 with
   |.error e=>.error e
   |.ok ps=>match Yo (groupAt l) ps.2 n.2.2.1 with
    |.error e=>.error e
    |.ok gs=>match Yo (WM l) gs.2 n.2.2.2 with
     |.error e=>.error e
     |.ok is=>if l.length<is.2+4 then .error (9,l.length)else if is.2+4<l.length then .error (9,is.2+4)else
      if Yp (l.drop is.2)≠XL (l.take is.2)then .error (10,0)else .ok ⟨cs.1,ps.1,gs.1,is.1⟩
def Zy(c:Yb)(i:Nat)(x:Nat×Nat):Bool:=match x.1 with
 |0=>decide<|x.2<c.jq.length
 |1=>decide<|x.2<c.jw.length
 |2=>decide<|x.2<5
 |3=>decide<|x.2<4
 |4=>decide<|x.2=0
 |9=>decide<|i<x.2/\x.2<=c.jz.length
 |10=>decide<|i<x.2/\x.2<=c.jz.length
 |11=>decide<|x.2=0
 |12=>decide<|x.2<16
 |13=>decide<|x.2<16
 |_=>decide<|x.2<c.jv.length
def Pi(op:Nat):Bool:=op==12||op==13
def UT(l:List<|Nat×Nat):Nat:=l.foldl (λn x=>if Pi x.1 then max n (x.2+1)else n) 0
theorem A8(l:List<|Nat×Nat)(x:Nat×Nat):UT (l++[x])=if Pi x.1 then max (UT l) (x.2+1)else UT l:=by simp[UT]
structure Ah where
 kj:Bool
 kw:Bool
 jy:List Nat
 jx:List Nat
def Ys:Ah:=⟨false,false,[],List.replicate 16 0⟩
def Z4(k:Nat)(st sl:List Nat):Option<|List Nat×List Nat:=if st.length=64 then none else some (k::st,sl)
def ZO(k:Nat):Bool:=k==1||k==2
def VF(x:Nd×Nat):Nat:=if 0<x.2 then 3 else 2
def Zr(c:Yb)(x:Nat×Nat)(st sl:List Nat):Option<|List Nat×List Nat:=match x.1 with
 |0=>Z4 1 st sl
 |1=>Z4 ((c.jw[x.2]?.map VF).getD 0) st sl
 |2=>match st with
  |k::r=>if k=3 then Z4 2 r sl else none
  |[]=>none
 |3=>match st with
  |y::k::r=>if ZO k&&ZO y then Z4 (max k y) r sl else none
  |_=>none
 |4=>match st with
  |k::r=>if ZO k then Z4 k r sl else none
  |[]=>none
 |9=>some (st,sl)
 |11=>match st with
  |_::r=>some (r,sl)
  |[]=>none
 |12=>match st with
  |k::r=>some (r,sl.set x.2 k)
  |[]=>none
 |13=>if sl.getD x.2 0=0 then none else Z4 (sl.getD x.2 0) st sl
 |_=>match st with
  |k::r=>if k=2 then Z4 2 r sl else none
  |[]=>none
def Xx(a b:List Nat):List Nat:=List.zipWith (λx y=>if x=y then x else 0) a b
def ZZ(a:Ah)(st sl:List Nat):Ah:=if a.kj then⟨true,a.kw||decide (a.jy≠st),a.jy,Xx a.jx sl⟩else⟨true,false,st,sl⟩
def TC(op:Nat):Bool:=op==9||op==10
def goOn(x:Nat×Nat)(i:Nat)(st sl:List Nat)(l:List Ah):List Ah:=
 let l1:=if TC x.1 then l.set x.2 (ZZ (l.getD x.2 Ys) st sl)else l;if x.1=9 then l1 else l1.set (i+1)<|ZZ (l1.getD (i+1) Ys) st sl
def SB(c:Yb)(i:Nat)(l:List Ah)(m:Nat):Except (Nat×Nat)<|List Ah×Nat:=
 let a:=l.getD i Ys;if a.kj then(if a.kw then .error (12,i)else match Zr c (c.jz.getD i (0,0)) a.jy a.jx with
  |none=>.error (12,i)
  |some s=>.ok (goOn (c.jz.getD i (0,0)) i s.1 s.2 l,max m s.1.length))else .ok (l,m)
def Pn(n:Nat):List Ah:=⟨true,false,[],List.replicate 16 0⟩::List.replicate n Ys
def Z3(c:Yb):Nat->Except (Nat×Nat) (List Ah×Nat)
 |0=>.ok (Pn c.jz.length,0)
 |i+1=>match Z3 c i with
  |.error e=>.error e
  |.ok x=>SB c i x.1 x.2
def Ro(a:Ah):Bool:=!a.kw&&(decide (a.jy=[1])||decide (a.jy=[2]))
def Vj(c:Yb):Nat->Except (Nat×Nat) Unit
 |0=>.ok ()
 |i+1=>match Vj c i with
  |.error e=>.error e
  |.ok _=>if Zy c i<|c.jz.getD i (0,0)then .ok ()else .error (11,i)
def Tv(c:Yb):Except (Nat×Nat) Nat:=match Z3 c c.jz.length with
 |.error e=>.error e
 |.ok x=>if Ro (x.1.getD c.jz.length Ys)then .ok x.2 else .error (12,c.jz.length)
def Vl(c:Yb):Except (Nat×Nat)<|Nat×Nat:=match Vj c c.jz.length with
 |.error e=>.error e
 |.ok _=>match Tv c with
  |.error e=>.error e
  |.ok m=>.ok (m,UT c.jz)
def Ti(l:LB):Except (Nat×Nat)<|Yb×Nat×Nat:=match Wt l with
 |.error e=>.error e
 |.ok c=>match Vl c with
  |.error e=>.error e
  |.ok x=>.ok (c,x)
theorem GP{c:Yb}{k:Nat}{e:Nat×Nat}(h:Z3 c k=.error e):∀n,k<=n->Z3 c n=.error e:=by
 intro n a;induction n with
 |zero=>simp_all
 |succ n ih=>
  by_cases d:k=n+1
  .simp_all
  .have:=ih X;unfold Z3;rw[this]
theorem BC{c:Yb}{k:Nat}{e:Nat×Nat}(h:Vj c k=.error e):∀n,k<=n->Vj c n=.error e:=by
 intro n a;induction n with
 |zero=>simp_all
 |succ n ih=>
  by_cases d:k=n+1
  .simp_all
  .have:=ih X;unfold Vj;rw[this]
theorem Mb{l:LB}{p n:Nat}{x:LB×Nat}(h:VJ l p n=.ok x):p+n<=l.length/\x.1=Y6 l p n/\x.2=p+n:=by
 unfold VJ at h;split at h
 .cases h
 .cases h;simp_all
theorem JQ{l:LB}{p n:Nat}(h:p+n<=l.length):(Y6 l p n).length=n:=by
 unfold Y6;simp_all;omega
theorem Zdd{l:LB}{p n:Nat}{x:Nat×Nat}(h:Z8 l p n=.ok x):p+n<=l.length/\x.1=Yp (Y6 l p n)/\x.2=p+n/\x.1<256^n:=by
 unfold Z8 at h;cases a:VJ l p n with
 |error e=>simp_all
 |ok y=>
  rw[a]at h;cases h;obtain⟨c,d,f⟩:=Mb a;refine⟨c,by rw[d],f,?_⟩;show Yp y.1<_;rw[d];exact PS<|by rw[JQ c];omega
theorem fQ{v:Nat}(h:v<4294967296):-2147483648<=TZ v/\TZ v<=2147483647:=by unfold TZ;omega
theorem Zex(s:BA)(p n:Nat):Y6 (bl s) p n=bl (s.extract p<|p+n):=by
 rw[WL,Ri];unfold Y6;simp
end Go.Proofs.YtmfnolgpaoldpaaGreatDoor.LS
namespace Go.Proofs.YtmfnolgpaoldpaaGreatDoor
open Go.RowKit LS Go.Proofs.Tryz
open Go renaming World->Y,Value->F
open Go.RowKit renaming Hid->U
theorem EF{h:Nat}(a:h%2=1):S4 h=(h/2)^^^3988292384:=Ye a
theorem EE{h:Nat}(a:¬h%2=1):S4 h=h/2:=Yd a
theorem JB{k:IntKind}{a b:Int}(h:a=b):Ending.returned (.int k a)=.returned (.int k b):=by rw[h]
theorem zH{a:Nat}(d:a<4294967296)(c:UInt8):bits .xor .u32 (a:Int) ((c.toNat:Int)%4294967296)=((a^^^c.toNat:Nat):Int):=by
 have e:=c.toNat_lt;rw[show((c.toNat:Int)%4294967296)=(c.toNat)by omega];exact KE _ _ d X
theorem xM{z:Nat}(a:z<4294967296):4294967295^^^z=4294967295-z:=by
 have h:(BitVec.allOnes _^^^BitVec.ofNat 32 z).toNat=(~~~BitVec.ofNat 32 z).toNat:=by rw[BitVec.allOnes_xor]
 rw[BitVec.toNat_xor,BitVec.toNat_not,Ip,Iu a]at h;exact h
theorem nJ{z:Nat}(a:z<4294967296):bits .xor .u32 IntKind.u32.max (z:Int)=4294967295-(z:Int):=by
 have:=KE 4294967295 z N a;rw[xM a]at this;rw[show IntKind.u32.max=((4294967295:Nat))from C,this];omega
theorem vM{z:Nat}(a:z<4294967296):bits .and .u32 (z:Int) 1=(z:Int)%2:=by
 have:=u32_and_nat z 1 a N;rw[Nat.and_one_is_mod]at this;rw[show(1)=((1:Nat):Int)from C,this];omega
theorem jA(s:BA){w:Y}(r:s.size<=maxLen):
 CP 21 #[.string s] w λe u=>e=.returned (.int .u32<|XL<|bl s)/\u=w:=by
 unfold maxLen at r;go_enter func21,ntmps21;go_wp2;go_loop [3,4] (λh i=>∃k:Nat,k<=s.size/\i=E k/\h=.int .u32 (VP<|(bl s).take k)) (λ_ i=>s.size-(intOf i).toNat);case atStart=>exact⟨0,Yr _,C,C⟩
 case round=>
  obtain⟨k,D,rfl,rfl⟩:=hrel;have n:=zf<|(bl s).take k;obtain⟨a,d⟩:∃a,VP ((bl s).take k)=a:=⟨_,C⟩;have c:U<|VP ((bl s).take k)=a:=d;rw[d]at n⊢;clear d;by_cases p:k<s.size
  .have t:=zH n s[k];have g:U<|VP ((bl s).take<|k+1)=R4 8 (a^^^s[k].toNat):=I<|by rw[PH s k p,FF,c.o];rfl
   have l:a^^^s[k].toNat<4294967296:=FU n _;obtain⟨g0,m⟩:∃g0,a^^^s[k].toNat=g0:=⟨_,C⟩;rw[m]at t g l;clear m c;go_wp2;go_loop [3,5] (λh i=>∃j:Nat,j<=8/\i=E j/\h=.int .u32 (R4 j g0)) (λ_ i=>8-(intOf i).toNat);case atStart=>exact⟨0,Yr _,C,C⟩
   case round=>
    obtain⟨j,G,rfl,rfl⟩:=hrel;by_cases A:j<8
    .have H:=K2 l j;have q:U<|R4 (j+1) g0=S4 (R4 j g0):=C;generalize R4 j g0=z at*;by_cases f:z%2=1
     .have B:bits .xor .u32 ((z:Int)/2) 3988292384=((z/2^^^3988292384:Nat):Int):=by
       have:=KE (z/2) 3988292384 X X;simpa using this
      have v:((z:Int)%2==1)=true:=by rw[XM];omega
      have o:=I<|EF f;clear f;go_wp2;go_round;case rel=>exact⟨j+1,X,by go_num,by rw[q.o,o.o]⟩
      case measure=>simp[intOf];omega
     .have v:((z:Int)%2==1)=false:=by rw[YB];omega
      have o:=I<|EE f;clear f;go_wp2;go_round;case rel=>exact⟨j+1,X,by go_num,by rw[q.o,o.o];go_num⟩
      case measure=>simp[intOf];omega
    .obtain rfl:j=8:=X;go_wp2;go_round;case rel=>exact⟨k+1,X,by go_num,by rw[g.o]⟩
     case measure=>simp[intOf];omega
  .have x:U<|XL (bl s)=4294967295-a:=I<|by
    unfold XL;rw[<-c.o,Wm<|by rw[Zb];omega]
   clear c;go_wp2;go_ret;exact⟨JB<|by rw[x.o];omega,C⟩
theorem kG(s:BA)(w:Y)(r:s.size<=maxLen):
 CP 82 #[.string s] w λe u=>e=.returned (.int .u32<|XL<|bl s)/\u=w:=by
 unfold maxLen at r;go_enter func82,ntmps82;go_wp2;go_loop [3,8] (λh i=>∃k:Nat,k<=s.size/\i=E k/\h=.int .u32 (VP<|(bl s).take k)) (λ_ i=>s.size-(intOf i).toNat);case atStart=>exact⟨0,Yr _,C,C⟩
 case round=>
  obtain⟨k,H,rfl,rfl⟩:=hrel;have c:=zf<|(bl s).take k;obtain⟨a,d⟩:∃a,VP ((bl s).take k)=a:=⟨_,C⟩;have f:=I d;rw[d]at c⊢;by_cases n:k<s.size
  .have t:=zH c s[k];have g:U<|VP ((bl s).take<|k+1)=R4 8 (a^^^s[k].toNat):=by rw[PH s k n,FF,f];rfl
   have l:a^^^s[k].toNat<4294967296:=FU c _;obtain⟨g0,o⟩:∃g0,a^^^s[k].toNat=g0:=⟨_,C⟩;rw[o]at t g l;go_wp2;go_loop [3,17] (λh i=>∃j:Nat,j<=8/\i=E j/\h=.int .u32 (R4 j g0)) (λ_ i=>8-(intOf i).toNat);case atStart=>exact⟨0,Yr _,C,C⟩
   case round=>
    obtain⟨j,J,rfl,rfl⟩:=hrel;by_cases D:j<8
    .have v:=K2 l j;have p:U<|R4 (j+1) g0=S4 _:=C;generalize R4 j g0=z at*;have x:=vM v;by_cases q:z%2=1
     .have G:bits .xor .u32 ((z)/2) 3988292384=((z/2^^^3988292384:Nat)):=by
       have:=KE (z/2) 3988292384 X X;simpa using this
      have A:((z:Int)%2==1)=true:=by rw[XM];omega
      have m:=I<|EF q;go_wp2;go_round;case rel=>exact⟨j+1,X,by go_num,by rw[p,m]⟩
      case measure=>simp[intOf];omega
     .have A:((z:Int)%2==1)=false:=by rw[YB];omega
      have m:=I<|EE q;go_wp2;go_round;case rel=>exact⟨j+1,X,by go_num,by rw[p,m];go_num⟩
      case measure=>simp[intOf];omega
    .obtain rfl:j=8:=X;go_wp2;go_round;case rel=>exact⟨k+1,X,by go_num,by rw[g]⟩
     case measure=>simp[intOf];omega
  .have B:U<|XL _=4294967295-a:=I<|by
    unfold XL;rw[<-f,Wm<|by rw[Zb];omega]
   have K:=nJ c;go_wp2;go_ret;exact⟨JB<|by rw[B];omega,C⟩
theorem NG{s:BA}{w:Y}(m:s.size<=6):
 CP 59 #[.string s] w λe u=>e=.returned (E<|Yp<|bl s)/\u=w:=by
 go_enter func59,ntmps59;go_wp2;go_loop [3,4] (λh i=>∃k:Nat,k<=s.size/\i=E k/\h=E (Yp<|(bl s).take k)) (λ_ i=>s.size-(intOf i).toNat);case atStart=>exact⟨0,Yr _,C,C⟩
 case round=>
  obtain⟨k,n,rfl,rfl⟩:=hrel;have j:Yp ((bl s).take k)<256^6:=PS<|by rw[Xw];omega
  obtain⟨c,d⟩:∃c,Yp ((bl s).take k)=c:=⟨_,C⟩;have a:U<|Yp ((bl s).take k)=c:=d;rw[d]at j⊢;clear d;by_cases f:k<s.size
  .have g:U<|Yp ((bl s).take<|k+1)=256*c+s[k].toNat:=I<|by rw[PH s k f,Li,a.o]
   have o:=s[k].toNat_lt;clear a;go_wp2;go_round;case rel=>exact⟨k+1,X,by go_num,by rw[g.o];go_num⟩
   case measure=>simp[intOf];omega
  .have l:U<|Yp (bl s)=c:=I<|by rw[<-a.o,Wm<|by rw[Zb];omega]
   clear a;go_wp2;go_ret;exact⟨JB<|by rw[l.o],C⟩
theorem PT(a b:BA):bl (a++b)=bl a++bl b:=by
 simp[bl,ByteArray.data_append]
theorem um(W:Y)(d:Nat)(hd:d<256):(convert 119 9<|.slice (some ⟨W.heap.size,0,none⟩) 1 1).run prog (W.alloc<|.cells #[.int .u8 (d:Int)] 5)=.ok (.string ⟨#[UInt8.ofNat d]⟩) (W.alloc<|.cells #[.int .u8 (d:Int)] 5):=by
 refine run_convert_bytes_back _ _ _ 5 ⟨W.heap.size,0,none⟩ 1 [UInt8.ofNat d] underlying119 underlying5 underlying9 ?_;intro j a;obtain rfl:j=0:=by simp at a;omega
 rw[QI];have h:=Go.Deep.blk_alloc_new W<|.cells #[.int .u8 (d:Int)] 5;simp only[World.cell?,h];simp;omega
theorem jb(n:Nat){w:Y}(f:n<4294967296):
 CP 20 #[E n,E 4] w λe u=>∃r:BA,e=.returned (.string r)/\U (bl r=XR n 4)/\BW w u:=by
 go_enter func20,ntmps20;go_wp2;go_loopw [0,5,6] (λnv sv iv wr=>∃(k:Nat)(r:BA),k<=4/\iv=E k/\nv=E ((n/256^k:Nat):Int)/\sv=.string r/\U (bl r=XR n k)/\BW w wr) (λ_ _ iv _=>4-(intOf iv).toNat);case atStart=>exact⟨0,⟨#[]⟩,Yr _,C,Sm,C,I C,Ym _ _⟩
 case round=>
  obtain⟨k,r,g,rfl,rfl,rfl,a,c⟩:=hrel;have l:=c.size;have h:U<|n/256^(k+1)=n/256^k/256:=I<|by rw[Eo,<-IC]
  have q:n/256^k<4294967296:=Nat.lt_of_le_of_lt (MU _ _) f;have i:U<|XR n (k+1)=UInt8.ofNat (n/256^k%256)::XR n k:=I<|vU k n;have o:r.size<=4:=by rw[ZE a.o,Hm];exact g
  generalize n/256^k=m at*;by_cases p:k<4
  .have d:=um wr (m%256) X;rw[show((m%256:Nat):Int)=(m:Int)%256 from by omega]at d;have j:U<|bl (⟨#[UInt8.ofNat<|m%256]⟩++r)=XR n (k+1):=I<|by rw[PT,i.o,a.o];rfl
   have e1:(⟨#[UInt8.ofNat<|m%256]⟩:BA).size=1:=C;have a1:∀W,(Op.stringOp .add ⟨#[UInt8.ofNat<|m%256]⟩ r).run prog W=.ok (.string<|⟨#[UInt8.ofNat<|m%256]⟩++r) W:=λW=>XW W _ _ X;go_wp2;go_roundw;case rel=>exact⟨k+1,_,X,by go_num,by rw[h.o];go_num,C,j,Yh⟩
   case measure=>simp[intOf];omega
  .obtain rfl:k=4:=X;go_wp2;go_ret;exact⟨r,C,a,c⟩
theorem Ak{s:BA}(w:Y)(g:s.size+4<=9223372036854775807):
 CP 10 #[.string s] w λe u=>∃r:BA,e=.returned (.string r)/\U (bl r=bl s++XR (XL<|bl s) 4)/\BW w u:=by
 have d:=FG<|bl s;go_enter func10,ntmps10;go_wp2_with fail;refine(jA s<|by unfold maxLen;omega).m ?_;rintro e o ⟨rfl,rfl⟩;go_wp2_with fail;refine(jb (XL<|bl s) d).m ?_;rintro e h ⟨r,rfl,a,f⟩;have c:r.size=4:=by rw[ZE a.o,Hm]
 have a1:∀W,(Op.stringOp .add s r).run prog W=.ok (.string<|s++r) W:=λW=>XW W _ _ X;clear c;go_wp2;go_ret;exact⟨_,C,I<|by rw[PT,a.o],f⟩
abbrev YH (w:Y)(b:Nat)(s:BA)(p:Nat):Prop:=Ya w b [.string s,E p] 186
abbrev UQ (w:Y)(ca:Addr):Prop:=w.cell? ⟨8,0,none⟩=some (.iface 469<|.pointer<|some ca)
def YF{α:Type}(V:Y->α->F->Prop)(Z:F->Prop)(w:Y)(b:Nat)(s:BA)(ca:Addr)(r:X9 α)(v err:F):Prop:=match r with
 |.ok x=>err=.nilIface/\V w x.1 v/\YH w b s x.2
 |.error x=>x.1=9/\ZF w err x.2 ca/\Z v/\∃p:Nat,YH w b s p
theorem YF.ok{α:Type}{V:Y->α->F->Prop}{Z:F->Prop}{w:Y}{b:Nat}{s:BA}{ca:Addr}{r:X9 α}{v err:F}(h:YF V Z w b s ca r v err){x:α×Nat}(a:r=.ok x):err=.nilIface/\V w x.1 v/\YH w b s x.2:=by subst a;exact h
theorem YF.err{α:Type}{V:Y->α->F->Prop}{Z:F->Prop}{w:Y}{b:Nat}{s:BA}{ca:Addr}{r:X9 α}{v err:F}(h:YF V Z w b s ca r v err){x:Nat×Nat}(a:r=.error x):x.1=9/\ZF w err x.2 ca/\Z v/\∃p:Nat,YH w b s p:=by subst a;exact h
theorem YF.mkOk{α:Type}{V:Y->α->F->Prop}{Z:F->Prop}{w:Y}{b:Nat}{s:BA}{ca:Addr}{r:X9 α}{v err:F}{x:α×Nat}(a:r=.ok x)(h:err=.nilIface/\V w x.1 v/\YH w b s x.2):YF V Z w b s ca r v err:=by subst a;exact h
theorem YF.ku{α:Type}{V:Y->α->F->Prop}{Z:F->Prop}{w:Y}{b:Nat}{s:BA}{ca:Addr}{r:X9 α}{v err:F}{x:Nat×Nat}(a:r=.error x)(h:x.1=9/\ZF w err x.2 ca/\Z v/\∃p:Nat,YH w b s p):YF V Z w b s ca r v err:=by subst a;exact h
theorem UQ.grown{w w':Y}{ca:Addr}{b:Nat}(h:UQ w ca)(a:w.grownBy w'<|some b)(d:20<=b):UQ w' ca:=by
 have c:8<w.heap.size:=Xi _ _ h;have e:=a.block _ c<|by intro e;injection e with e;have:8<20:=N;omega
 unfold UQ at h⊢;unfold World.cell? at h⊢;simp only at h⊢;rw[e];exact h
theorem UQ.below{w w':Y}{ca:Addr}(h:UQ w ca)(a:BW w w'):UQ w' ca:=
 (a.cell<|Xi _ _ h).trans h
theorem YH.step{w:Y}{b:Nat}{s:BA}{p:Nat}(h:YH w b s p)(q:Nat):YH (w.setCell ⟨b,1,none⟩<|E (q:Int)) b s q:=by
 unfold YH Ya at h⊢;simp only[World.setCell,V4,h,VE,Wr];rfl
theorem ZF.shape{w:Y}{v:F}{p:Int}{a:Addr}(h:ZF w v p a):∃fa:Nat,v=.iface 92 (Vp fa):=ZF.lt h
theorem Np{i:Int}(ca:Addr){w:Y}(a:UQ w ca):
 CP 81 #[E i] w λe u=>∃v,e=.returned v/\U (ZF u v i ca)/\BW w u:=by
 have d:w.cell? _=some _:=a;go_enter func81,ntmps81;go_wp2_with fail;refine YK (Gm i w) ?_;have c:U<|ZF _ (.iface _<|Vp w.heap.size) i ca:=I ⟨_,C,YO⟩;go_wp2;go_ret;exact⟨_,C,c,Yc⟩
def MP(_:Y)(a:LB)(v:F):Prop:=∃t:BA,v=.string t/\bl t=a
def MR(v:F):Prop:=v=.string ⟨#[]⟩
theorem G0(s:BA)(p n b:Nat)(ca:Addr)(w:Y)(j:YH w b s p)(l:UQ w ca)(t:p<=s.size)(m:s.size<=maxLen)(x:n<=70000):
 CP 120 #[Vp b,E n] w λe u=>∃v err,e=.returned (.tuple #[v,err])/\U (YF MP MR u b s ca (VJ (bl s) p n) v err)/\w.grownBy u (some b):=by
 unfold maxLen at m;have d:=I j;have o:=I l;have a:U<|YH _ b s p:=I<|j.below<|(Ym _ _).drew;have c0:w.cell? _=some _:=d.cell 0;have c1:w.cell? _=some _:=d.cell 1;have f1:=d.frozen 1;by_cases h:s.size<p+n
 .have hd:(s.size:Int)-p<n:=X;have f:U<|VJ _ p n=.error _:=I<|by unfold VJ;rw[Ye<|by rwa [Zb],Zb]
  go_enter func120,ntmps120;go_wp2;go_region;all_goals
   go_wp2_with fail;refine(Np _<|o.below<|(Ym _ _).drew).m ?_;rintro e z ⟨v,rfl,k,c⟩;have q:=I<|ZF.shape k;have g:U<|YF MP MR _ b s _ _ _ v:=I<|YF.ku f ⟨C,k,C,p,a.below c⟩;have i:U<|w.grownBy _<|some b:=I<|ZB<|((Ym _ w).drew).trans c;obtain⟨fa,rfl⟩:=q.o;go_wp2;go_ret2;exact⟨_,_,C,g,i⟩
 .have hd:¬(s.size:Int)-p<n:=X;have f:U<|VJ (bl s) p n=.ok (bl<|s.extract p<|p+n,p+n):=I<|by unfold VJ;rw[Yd<|by rw[Zb];omega,Zex]
  have g:U<|YH _ b s<|p+n:=I<|YH.step a _;have i:U<|w.grownBy (w.drew.setCell ⟨b,1,none⟩<|E<|(p+n:Nat))<|some b:=I<|Zn (TU<|Z2 _ _) (.inl C) _;have r:p+n<=s.size:=X;go_enter func120,ntmps120;go_wp2;go_region;all_goals
   go_wp2;go_region;all_goals
    go_wp2;go_ret2;exact⟨_,_,C,I<|YF.mkOk f ⟨C,⟨_,C,C⟩,g.below<|(Ym _ _).drew⟩,TU i⟩
def NV(_:Y)(a:Nat)(v:F):Prop:=v=E a
def NZ(v:F):Prop:=v=E 0
theorem kh{a c:Nat}(h:a<16777216)(d:c<256):bits .or .i64 ((a:Int)*256) (c:Int)=((256*a+c:Nat):Int):=by
 have e:(BitVec.ofInt 64<|(a)*256).toNat=a*256:=by
  rw[show((a)*256)=((a*256:Nat):Int)by omega,BitVec.ofInt_natCast,Ip];exact Iu X
 have f:(BitVec.ofInt 64<|c).toNat=c:=by
  rw[BitVec.ofInt_natCast,Ip];exact Iu X
 have g:a*256|||c=256*a+c:=by
  have:=Nat.two_pow_add_eq_or_of_lt (i:=8) d a;rw[show(2)^8=256 from C]at this;rw[Nat.mul_comm a _];exact this.symm
 show IntKind.i64.wrap ((BitVec.ofInt 64 ((a:Int)*256)|||BitVec.ofInt 64 (c:Int)).toNat:Int)=_;rw[BitVec.toNat_or,e,f,g,Us];omega
theorem LL(s:BA)(p n b:Nat)(ca:Addr)(w:Y)(A:YH w b s p)(h:UQ w ca)(B:p<=s.size)(D:s.size<=maxLen)(S:n<=4):
 CP 80 #[Vp b,E n] w λe u=>∃v err,e=.returned (.tuple #[v,err])/\U (YF NV NZ u b s ca (Z8 (bl s) p n) v err)/\w.grownBy u (some b):=by
 have G:=I<|G0 s p n b _ w A h B D X;go_enter func80,ntmps80;go_wp2_with fail;refine G.m ?_;rintro e T ⟨v,err,rfl,j,l⟩;cases a:VJ (bl s) p n with
 |error x=>
  obtain⟨H,m,rfl,J⟩:=j.err a;obtain⟨fa,rfl⟩:=ZF.shape m;have o:U<|YF NV NZ _ b s _ (Z8 _ p n) _ _:=I<|YF.ku (by unfold Z8;rw[a]) ⟨H,m,C,J⟩;go_wp2;go_loop [8,18] (λv i=>v=E 0/\i=E 0) (λ_ _=>0);case atStart=>exact⟨C,C⟩
  case round=>
   obtain⟨rfl,rfl⟩:=hrel;go_wp2;go_ret2;exact⟨_,_,C,o,l⟩
 |ok x=>
  obtain⟨rfl,⟨t,rfl,f⟩,K⟩:=j.ok a;obtain⟨q,r,O⟩:=Mb a;have P:t.size<=4:=by rwa [ZE f,r,JQ q]
  have o:U<|YF NV NZ _ b s ca (Z8 _ p n) (.int _<|Yp<|bl t) _:=I<|YF.mkOk (by unfold Z8;rw[a]) ⟨C,by rw[f];rfl,K⟩;go_wp2;go_loop [8,18] (λv i=>∃k:Nat,k<=t.size/\i=E k/\v=E (Yp<|(bl t).take k)) (λ_ i=>t.size-(intOf i).toNat);case atStart=>exact⟨0,Yr _,C,C⟩
  case round=>
   obtain⟨k,V,rfl,rfl⟩:=hrel;obtain⟨c,g⟩:∃c,Yp ((bl t).take k)=c:=⟨_,C⟩;have d:=I g;rw[g];by_cases Q:k<t.size
   .have L:c<16777216:=by
     have:Yp ((bl t).take k)<256^3:=PS<|by rw[Xw];omega
     rw[d]at this;exact this
    have h:=t[k].toNat_lt;have R:=kh L h;have z:U<|Yp ((bl t).take _)=256*c+t[k].toNat:=I<|by rw[PH t k _,Li,d]
    go_wp2;go_round;case rel=>exact⟨k+1,X,by go_num,by rw[z];go_num⟩
    case measure=>simp[intOf];omega
   .have M:U<|Yp _=c:=I<|by rw[<-d,Wm<|by rw[Zb];omega]
    go_wp2;go_ret2;exact⟨_,_,C,by rwa [<-M.o],l⟩
def RZ(l:LB):X9 Unit:=if l.head?≠some 103 then .error (9,0)else .ok ((),1)
theorem rL(s:BA){h:0<s.size}:(bl s).head?=some s[0]:=by
 rw[Kg,List.getElem?_eq_getElem<|by rwa [Zb],SN s 0 h]
theorem kL(s:BA)(b:Nat){ca:Addr}(w:Y)(J:YH w b s 0)(n:UQ w ca)(K:20<=b)(L:s.size<=maxLen):
 CP 111 #[Vp b] w λe u=>∃err,e=.returned err/\U (YF (λ_ _ _=>True) (λ_=>True) u b s ca (RZ<|bl s) .nilIface err)/\w.grownBy u (some b):=by
 have M:=I<|G0 s 0 1 b _ w J n (Yr _) L X;have o:=I n;go_enter func111,ntmps111;go_wp2_with fail;refine M.m ?_;rintro e O ⟨v,err,rfl,p,f⟩;cases a:VJ (bl s) 0 1 with
 |error x=>
  obtain⟨T,m,rfl,P⟩:=p.err a;obtain⟨fa,rfl⟩:=ZF.shape m;have q:s.size=0/\x=(9,0):=by
   unfold VJ at a;rw[Zb]at a;split at a
   .injection a with a;exact⟨X,by rw[<-a];congr 1;omega⟩
   .cases a
  have d:U<|YF (λ_ _ _=>True) (λ_=>True) _ b s _ (RZ<|bl s) .nilIface _:=I<|YF.ku (by
   unfold RZ;rw[Ye];rw[Qq (l:=bl s)<|by rw[Zb];exact q.1];simp) ⟨C,by rw[q.2]at m;exact m,trivial,P⟩;go_wp2;go_ret;exact⟨_,C,d,f⟩
 |ok x=>
  obtain⟨rfl,⟨t,rfl,g⟩,r⟩:=p.ok a;obtain⟨A,h,B⟩:=Mb a;rw[Zb]at A;have S:t.size=1:=by rw[ZE g,h,JQ<|by rwa [Zb]]
  have i:some t[0]=(bl s).head?:=by
   rw[<-rL t,g,h];unfold Y6;rw[PF,List.head?_take,Yd N]
  have j:U<|YH O b s 1:=by rw[B]at r;exact r
  have D:=I<|o.grown f K;by_cases c:t[0]=103
  .have d:U<|YF (λ_ _ _=>True) (λ_=>True) _ b s ca (RZ _) .nilIface _:=I<|YF.mkOk (by unfold RZ;rw[<-i,c];rfl) ⟨C,trivial,j.o⟩;have Q:((t[0].toNat:Int) !=103)=false:=by rw[c];rfl
   go_wp2;go_ret;exact⟨_,C,d,f⟩
  .have Q:((t[0].toNat:Int) !=103)=true:=by
    rw[Vg];intro e;exact c<|TN.1<|by show _=103;omega
   have R:U<|RZ _=.error _:=I<|by
    unfold RZ;rw[<-i,Ye];intro e;injection e with e;exact c e
   go_wp2_with fail;refine(Np _ D).m ?_;rintro e z ⟨v,rfl,G,k⟩;have d:U<|YF (λ_ _ _=>True) (λ_=>True) _ b s _ _ .nilIface v:=I<|YF.ku R ⟨C,G,trivial,1,j.below k⟩;have H:=I<|Qy f k;obtain⟨fa,rfl⟩:=ZF.shape G;go_wp2;go_ret;exact⟨_,C,d,H⟩
def KV(_:Y)(a:Int)(v:F):Prop:=v=E a
theorem fR{v:Nat}(a:v<4294967296):wrap32 (v:Int)=TZ v:=by
 unfold TZ wrap32;split<;>omega
theorem kN(s:BA)(p b:Nat){ca:Addr}(w:Y)(k:YH w b s p)(l:UQ w ca)(J:20<=b)(K:p<=s.size)(L:s.size<=maxLen):
 CP 113 #[Vp b] w λe u=>∃v err,e=.returned (.tuple #[v,err])/\U (YF KV NZ u b s ca (Vw (bl s) p) v err)/\w.grownBy u (some b):=by
 have M:=I<|LL s p 4 b _ w k l K L X;have m:=I l;have c1:w.cell? _=some _:=k.cell 1;go_enter func113,ntmps113;go_wp2_with fail;refine M.m ?_;rintro e S ⟨v,err,rfl,n,f⟩;cases c:Z8 (bl s) p 4 with
 |error x=>
  obtain⟨O,o,rfl,P⟩:=n.err c;obtain⟨fa,rfl⟩:=ZF.shape o;have d:U<|YF KV NZ _ b s _ (Vw _ p) _ _:=I<|YF.ku (by unfold Vw;rw[c]) ⟨O,o,C,P⟩;go_wp2;go_ret2;exact⟨_,_,C,d,f⟩
 |ok x=>
  obtain⟨x1,x2⟩:=x;obtain⟨rfl,rfl,q⟩:=n.ok c;have a:=(Zdd c).2.2.2;simp only at q a;have g:=I q;have a:x1<4294967296:=a;have Q:=fR a;have R:=fQ a;have r:U<|Vw _ p=if TZ x1< -1000000000\/1000000000<TZ x1 then .error _ else .ok (TZ x1,x2):=I<|by unfold Vw;rw[c]
  have t:=I<|m.grown f J;generalize TZ x1=z at*;by_cases i:z< -1000000000\/1000000000<z
  .have j:U<|Vw _ p=.error _:=I<|by rw[r,Ye i]
   have A:(decide (z< -1000000000)||decide (1000000000<z))=true:=by simpa using i
   by_cases B:z< -1000000000;all_goals
    have D:wrap64 z=z:=by unfold wrap64;omega
    go_wp2_with fail;refine(Np _ t).m ?_;rintro e T ⟨v,rfl,G,h⟩;have d:U<|YF KV NZ _ b s _ _ _ v:=I<|YF.ku j ⟨C,G,C,_,g.below h⟩;have H:=I<|Qy f h;obtain⟨fa,rfl⟩:=ZF.shape G;go_wp2;go_ret2;exact⟨_,_,C,d,H⟩
  .have j:U<|Vw _ p=.ok _:=I<|by rw[r,Yd i]
   have A:-1000000000<=z:=X;have B:z<=1000000000:=X;have D:wrap64 z=z:=by unfold wrap64;omega
   have d:U<|YF KV NZ _ b s ca _ (.int _ z) _:=I<|YF.mkOk j ⟨C,C,g⟩;go_wp2;go_ret2;exact⟨_,_,C,d,f⟩
theorem YF.kept{α:Type}{V:Y->α->F->Prop}{Z:F->Prop}{w w':Y}{b:Nat}{s:BA}{ca:Addr}{r:X9 α}{v err:F}(h:YF V Z w b s ca r v err){a:Nat}{c:List F}{t:TypeId}(i:w.grownBy w'<|some a)(d:Ya w a c t)(g:t≠186)(k:t≠96)(l:∀x,V w x v->V w' x v):YF V Z w' b s ca r v err:=by
 have j:∀p,YH w b s p->YH w' b s p:=λp f=>f.grown i λe=>by
  cases e;unfold YH at f;unfold Ya at f d;rw[f]at d;injection d with d;injection d with _ e2;exact g e2.symm
 cases r with
 |ok x=>exact⟨h.1,l _ h.2.1,j _ h.2.2⟩
 |error x=>
  obtain⟨g,m,n,p,o⟩:=h;exact⟨g,m.grown i d k,n,p,j _ o⟩
theorem JJ(w:Y)(a:Nat)(x y:F):w.grownBy (set2 w a x y)<|some a:=Zn (Zn (Z2 w<|some a) (Or.inl C) _) (Or.inl C) _
def IV(_:Y)(a:Nat×Nat)(v:F):Prop:=v=.agg #[E a.1,E a.2]
def IZ(v:F):Prop:=∃x y:Int,v=.agg #[E x,E y]
theorem YF.km{α β:Type}{V:Y->α->F->Prop}{Z:F->Prop}{V':Y->β->F->Prop}{Z':F->Prop}{w:Y}{b:Nat}{s:BA}{ca:Addr}{r:X9 α}{r':X9 β}{v v' err:F}{x:Nat×Nat}(h:YF V Z w b s ca r v err)(c:r=.error x)(a:r'=.error x)(d:Z' v'):YF V' Z' w b s ca r' v' err:=by
 obtain⟨e,f,_,g⟩:=h.err c;exact YF.ku a ⟨e,f,d,g⟩
theorem YF.jn{α:Type}{V:Y->α->F->Prop}{Z:F->Prop}{w:Y}{b:Nat}{s:BA}{ca:Addr}{r:X9 α}{v err:F}{x:Nat×Nat}(h:YF V Z w b s ca r v err)(a:r=.error x):∃fa:Nat,err=.iface 92 (Vp fa):=ZF.shape (h.err a).2.1
theorem gH(s:BA)(p b:Nat){ca:Addr}(w:Y)(P:YH w b s p)(hc:UQ w ca)(hb:20<=b)(hp:p<=s.size)(hs:s.size<=maxLen):
 CP 119 #[Vp b] w λe u=>∃v err,e=.returned (.tuple #[v,err])/\U (YF IV IZ u b s ca (WM (bl s) p) v err)/\w.grownBy u (some b):=by
 have a6:=P.lt;have S:U<|∀(p n:Nat)(w:Y),YH w b s p->UQ w ca->p<=s.size->n<=4->CP 80 #[Vp b,E n] w _:=I λp n w B Q R h4=>LL s p n b ca w B Q R hs h4;have T:U<|UQ w ca:=hc;have V:=I P;have c1:w.cell? ⟨b,1,none⟩=some (E p):=P.cell 1;go_enter func119,ntmps119;go_wp2_with fail;refine Zv λW Z=>?_;have i:BW w W:=by rw[Z];exact Yc
 have a0:U<|Ya W w.heap.size [E 0,E 0] 137:=I<|by rw[Z];exact YO
 have a1:U<|w.grownBy W<|some b:=I<|ZB i;have G:=I<|T.below i;have a2:=I<|V.below i;refine(S.o p 1 W a2.o G.o hp X).m ?_;rintro e j ⟨v,err,rfl,g,k⟩;have l:U<|w.grownBy j<|some b:=I<|Zi a1.o k;have d:=I<|a0.grown k<|by intro e;injection e with e;omega
 have H:U<|UQ j ca:=I<|G.grown k hb;cases c:Z8 (bl s) p 1 with
 |error x=>
  obtain⟨fa,rfl⟩:=g.jn c;have m:U<|YF IV IZ j b s ca (WM (bl s) p) (.agg #[E 0,E 0])<|.iface 92<|Vp fa:=I<|g.km c (by unfold WM;rw[c]) ⟨0,0,C⟩;obtain⟨_,_,rfl,_⟩:=g.err c;have f0:=d.frozen;have c0:=d.cell;go_wp2;exact Sr (r:=.tuple #[.agg #[E 0,E 0],.iface 92<|Vp fa]) (λW s0 s1=>by simp[results,results119,go_sem,s0,s1]) C d.o ⟨_,_,C,m.kept (JJ j w.heap.size (E 0)<|E 0) d.o N N λ_ h=>h,Nb l.o (Yj _) (E 0)<|E 0⟩
 |ok x=>
  obtain⟨op,q⟩:=x;obtain⟨rfl,rfl,hq⟩:=g.ok c;have o:=(Zdd c).2.2.2;have a3:q<=s.size:=by have:=Zdd c;rw[Zb]at this;simp only at this;omega
  simp only at hq o;have o:op<256:=o;have J:=I hq;have HX:U<|WM (bl s) p=if 13<op then .error (9,p)else match Z8 (bl s) q 2 with
   |.error e=>.error e
   |.ok y=>.ok ((op,y.1),y.2):=I<|by unfold WM;rw[c]<;>rfl
  have f0:=d.frozen;have c0:=d.cell 0;have c1:=d.cell 1;simp only[Yf]at c0 c1;by_cases K:13<op
  .have D:U<|WM (bl s) p=.error (9,p):=I<|by rw[HX.o,Ye K]
   have hd:(13:Int)<op:=X;go_wp2_with fail;refine(Np ca H.o).m ?_;rintro e z ⟨v,rfl,hv,t⟩;have m:U<|YF IV IZ z b s ca (WM (bl s) p) (.agg #[E 0,E 0]) v:=I<|YF.ku D.o ⟨C,hv.o,⟨0,0,C⟩,_,J.below t⟩;have A:U<|w.grownBy z<|some b:=I<|Qy l.o t;have f:=I<|d.below t;obtain⟨fa,rfl⟩:=ZF.shape hv.o;have f0:=f.frozen;have c0:=f.cell;go_wp2;exact Sr (r:=.tuple #[.agg #[E 0,E 0],.iface 92<|Vp fa]) (λW s0 s1=>by simp[results,results119,go_sem,s0,s1]) C f.o ⟨_,_,C,m.kept (JJ z w.heap.size (E 0)<|E 0) f.o N N λ_ h=>h,Nb A.o (Yj _) (E 0)<|E 0⟩
  .have hd:¬(13:Int)<op:=X;have D:U<|WM (bl s) p=match Z8 (bl s) q 2 with
   |.error e=>.error e
   |.ok y=>.ok ((op,y.1),y.2):=I<|by rw[HX.o,Yd K]
   go_wp2_with fail;refine(S.o q 2 j J.o H.o a3 X).m ?_;rintro e z ⟨v,err,rfl,g,L⟩;have A:U<|w.grownBy z<|some b:=I<|Zi l.o L;have f:=I<|d.grown L<|by intro e;injection e with e;omega
   have f0:=f.frozen;have c0:=f.cell;obtain⟨a,a4,a5,m⟩:∃a:Nat,v=E a/\(err=.nilIface\/∃fa:Nat,err=.iface 92 (Vp fa))/\U (YF IV IZ z b s ca (WM (bl s) p) (.agg #[E op,E a]) err):=by
    cases c:Z8 (bl s) q 2 with
    |error x=>
     obtain⟨_,_,hz,_⟩:=g.err c;exact⟨0,hz,Or.inr<|g.jn c,I<|g.km c (by rw[D.o,c]) ⟨_,_,C⟩⟩
    |ok x=>
     obtain⟨B,Q,R⟩:=g.ok c;exact⟨x.1,Q,Or.inl B,I<|YF.mkOk (x:=((op,x.1),x.2)) (by rw[D.o,c]) ⟨B,C,R⟩⟩
   subst a4;rcases a5 with rfl|⟨fa,rfl⟩;all_goals
    go_wp2;change bodyPost _ _ _ _ _<|set2 z w.heap.size (E op)<|E a;have st:=JH f.o (x:=E op) (y:=E a);have s0:=st.cell;have M:=I<|m.kept (JJ z w.heap.size (E op)<|E a) f.o N N λ_ h=>h;have O:=I<|Nb A.o (Yj _) (E op)<|E a;generalize set2 z w.heap.size (E op) (E a)=WX at*
   .exact YQ (v:=.tuple #[.agg #[E op,E a],.nilIface]) (by simp[results,results119,go_sem,s0]) C ⟨_,_,C,M,O.o⟩
   .exact YQ (v:=.tuple #[.agg #[E op,E a],.iface 92<|Vp fa]) (by simp[results,results119,go_sem,s0]) C ⟨_,_,C,M,O.o⟩
theorem BH(s:BA)(p b:Nat){ca:Addr}(w:Y)(L:YH w b s p)(k:UQ w ca)(M:20<=b)(O:p<=s.size)(l:s.size<=maxLen):
 CP 156 #[Vp b] w λe u=>∃v err,e=.returned (.tuple #[v,err])/\U (YF MP MR u b s ca (Vz (bl s) p) v err)/\w.grownBy u (some b):=by
 have P:U<|CP 80 #[Vp b,E (2:Nat)] w _:=I<|LL s p 2 b ca w L k O l X;have Q:U<|∀(p n:Nat)(w:Y),YH w b s p->UQ w ca->p<=s.size->n<=70000->CP 120 #[Vp b,E n] w _:=I λp n w f g m R=>G0 s p n b ca w f g m l R;have o:U<|UQ w ca:=k;go_enter func156,ntmps156;go_wp2_with fail;refine P.m ?_;rintro e h ⟨v,err,rfl,c,i⟩;cases a:Z8 (bl s) p 2 with
 |error x=>
  obtain⟨fa,rfl⟩:=c.jn a;have j:U<|YF MP MR h b s ca (Vz (bl s) p) (.string ⟨#[]⟩)<|.iface 92<|Vp fa:=I<|c.km a (by unfold Vz;rw[a]) C;obtain⟨_,_,rfl,_⟩:=c.err a;go_wp2;go_ret2;exact⟨_,_,C,j,i⟩
 |ok x=>
  obtain⟨n,q⟩:=x;obtain⟨rfl,rfl,r⟩:=c.ok a;have d:=(Zdd a).2.2.2;have A:q<=s.size:=by have:=Zdd a;rw[Zb]at this;simp only at this;omega
  simp only at r d;have d:n<65536:=d;have B:=I r;have D:U<|UQ h ca:=I<|o.grown i M;have S:U<|Vz (bl s) p=VJ (bl s) q n:=I<|by unfold Vz;rw[a]
  go_wp2_with fail;refine(Q.o q n h B.o D.o A X).m ?_;rintro e z ⟨v,err,rfl,c,G⟩;have H:U<|w.grownBy z<|some b:=I<|Zi i G;have j:U<|YF MP MR z b s ca (Vz (bl s) p) v err:=I<|by rw[S.o];exact c.o
  obtain⟨⟨t,J⟩,K⟩:(∃t:BA,v=.string t)/\(err=.nilIface\/∃fa:Nat,err=.iface 92 (Vp fa)):=by
   cases a:VJ (bl s) q n with
   |error x=>
    obtain⟨_,_,T,_⟩:=c.err a;exact⟨⟨_,T⟩,Or.inr<|c.jn a⟩
   |ok x=>
    obtain⟨f,⟨t,g,_⟩,m⟩:=c.ok a;exact⟨⟨t,g⟩,Or.inl f⟩
  subst J;rcases K with rfl|⟨fa,rfl⟩;all_goals
   go_wp2;go_ret2;exact⟨_,_,C,j,H.o⟩
def SP:List (Nat×Nat)->List F
 |[]=>[]
 |x::l=>.int .i64 x.1::.int .i64 x.2::SP l
theorem Dv(l m:List<|Nat×Nat):SP (l++m)=SP l++SP m:=by
 induction l with
 |nil=>rfl
 |cons a l ih=>simp[SP,ih]
theorem Sz(l:List<|Nat×Nat)(j:Nat)(a:j<l.length):(SP l)[j*2]?=some (E l[j].1)/\(SP l)[j*2+1]?=some (E l[j].2):=by
 induction l generalizing j with
 |nil=>simp at a
 |cons r l ih=>
  cases j with
  |zero=>exact⟨C,C⟩
  |succ j=>
   have h:=ih j<|by simp_all
   rw[show(j+1)*2=j*2+1+1 by omega];assumption
def T8{α:Type}(f:FuncId)(V:Y->α->F->Prop)(Z:F->Prop)(w0:Y)(b:Nat)(s:BA)(ca:Addr)(one:Nat->X9 α):Prop:=
 ∀(p:Nat)(w:Y),BW w0 w->YH w b s p->p<=s.size->
  CP f #[Vp b] w λe w'=>∃v err,e=.returned (.tuple #[v,err])/\U (YF V Z w' b s ca (one p) v err)/\w.grownBy w' (some b)
theorem Uz{w0 w w':Y}{b:Nat}(h:BW w0 w)(a:w.grownBy w'<|some b)(d:w0.heap.size<=b):BW w0 w':=
 h.trans ⟨a.os,a.tape,a.output,a.size,λk c=>a.block k (WH c h.size)<|by intro e;injection e with e;omega⟩
def XX(v:F):Prop:=v=S0
def Q5(w:Y)(cs:List Int)(v:F):Prop:=w.ownsRow 0 3 1 v cs.length<|cs.map<|.int .i64
theorem Tryz.infoIntV:(Tryz.prog.info? 3).map (λi=>(i.zero,i.size,i.bytes))=some (some<|E 0,1,8):=Kr
theorem Tryz.infoIns:(Tryz.prog.info? 137).map (λi=>(i.zero,i.size,i.bytes))=some (some<|.agg #[E 0,E 0],2,16):=Kr
theorem JC{w w':Y}{b base:Nat}{e:TypeId}{sz:Nat}{v:F}{n:Nat}{xs:List F}(h:w.ownsRow base e sz v n xs)(a:w.grownBy w'<|some b)(c:b<base):w'.ownsRow base e sz v n xs:=
 h.kept a<|Or.inr λe=>by have:=(h.lt b e).1;omega
theorem mB(s:BA)(p:Nat){n:Nat}(b:Nat){ca:Addr}{w0 w:Y}(h0:BW w0 w)(hb:w0.heap.size<=b)(L:YH w b s p)(hp:p<=s.size)(hn:n<=65535){one:Nat->X9 Int}(h1:T8 113 KV NZ w0 b s ca one)(r:∀p x,one p=.ok x->p<=s.size->x.2<=s.size):
 CP 112 #[Vp b,E n,.func (.func 113) #[] #[]] w λe M=>∃v err,e=.returned (.tuple #[v,err])/\U (YF Q5 XX M b s ca (Yo one p n) v err)/\w.grownBy M (some b):=by
 have O:=L.lt;obtain⟨i0,hi,P,Q,R⟩:=Xv Tryz.infoIntV;have H1:=I h1;have HQ:=I r;have H0:=I h0;have HR:=I L;have S:=I hb;go_enter func112,ntmps112;go_wp2;go_loopw [8,12] (λv i wr=>∃(k q:Nat)(xs:List Int),k<=n/\i=E k/\q<=s.size/\U (Yo one p k=.ok (xs,q))/\U (YH wr b s q)/\xs.length=k/\wr.ownsRow w.heap.size 3 1 v xs.length (xs.map<|.int .i64)/\U (w.grownBy wr<|some b))
  (λ_ i _=>n-(intOf i).toNat);case atStart=>exact⟨0,p,[],Yr _,C,hp,I C,HR,C,Xm _ _ _ _,I<|Z2 _ _⟩
 case round=>
  obtain⟨k,q,xs,hk,rfl,r,t,l,D,c,A⟩:=hrel;have g:=I D;clear D;by_cases T:k<n
  .have a2:(k:Int)<n:=X;obtain⟨av,cp,rfl⟩:=Zd c;have V:=I c;clear c;go_wp2_with fail;refine(H1 q _ (Uz H0 A S) l r).m ?_;rintro e w1 ⟨v,err,rfl,j,m⟩;have o:=I<|Zi A m;have a:=JC V m O;clear m V A l;cases d:one q with
   |error x=>
    obtain⟨fa,rfl⟩:=j.jn d;have J:U<|YF Q5 XX _ b s _ _ _ _:=I<|j.km d (Rr t d n T) C;have K:=(j.err d).2.2.1;obtain rfl:=K;clear j d a;go_wp2;go_ret2;exact⟨_,_,C,J,o⟩
   |ok x=>
    obtain⟨y,q2⟩:=x;obtain⟨rfl,hv,G⟩:=j.ok d;have W:=I<|OF t d;have H:=HQ q _ d r;have Z:=I G;simp only at H;have a3:=o.size;obtain rfl:=hv;clear j d G t;go_wp2_with(at_builtin;refine XC _ C (.tmp 23) (.tmp 25) 76 C w.heap.size 3 i0 (E 0) 1 8 underlying76 hi P Q R C N _ _ _ C (a.alloc _) ⟨w1.heap.size,0,none⟩ 1 1 [E y] C C ?c1 ?c2 ?c3 ?c4 ?c5 ?_);case c1=>exact Z1 C
    case c2=>intro u hu;simp at hu;rw[hu];rfl
    case c3=>have:=g.o;unfold maxLen;omega
    case c4=>have:=g.o;omega
    case c5=>have:=g.o;simp;omega
    intro v' w3 h f _;have a0:=I<|OC (Vh o _) f λz K=>(a.lt z K).1;have a1:U<|YH _ b s _:=I<|(Z.below Yc).grown f λe=>by have:=(a.lt b e.symm).1;omega
    have B:w3.ownsRow w.heap.size 3 1 v' (xs++[y]).length<|(xs++[y]).map<|.int .i64:=Yx▸Xa▸h;clear a f h;go_wp2;go_roundw;case rel=>exact⟨k+1,q2,xs++[y],X,by go_num,H,W,a1,by rw[Yx,g];rfl,B,a0⟩
    case measure=>simp[intOf];omega
  .obtain rfl:k=n:=X;obtain⟨av,cp,rfl⟩:=Zd c;have J:U<|YF Q5 XX _ b s ca _ _ _:=I<|YF.mkOk t ⟨C,TX c,l⟩;clear c;go_wp2;go_ret2;exact⟨_,_,C,J,A⟩
def SW(o:Nat):Nat:=if o=0 then 0 else if o<=2 then 1 else 2
def P7(o:Nat):LB:=if o=0 then[111,114]else if o=1 then[43]else if o=2 then[45]else if o=3 then[42]else[47]
theorem GY (o:Nat)(a:o<=4){w:Y}:CP 248 #[E o] w λe u=>e=.returned (E<|SW o)/\u=w:=by
 have h:o=0\/o=1\/o=2\/o=3\/o=4:=X;rcases h with rfl|rfl|rfl|rfl|rfl;all_goals
  go_enter func248,ntmps248;go_wp2;go_ret;exact⟨C,C⟩
theorem fO (o:Nat)(a:o<=4){w:Y}:CP 253 #[E o] w λe u=>e=.returned (.string ⟨(P7 o).toArray⟩)/\u=w:=by
 have h:o=0\/o=1\/o=2\/o=3\/o=4:=X;rcases h with rfl|rfl|rfl|rfl|rfl;all_goals
  go_enter func253,ntmps253;go_wp2;go_ret;exact⟨C,C⟩
def Lk(t:Yu):Bool:=if((t.kd:Int)==0)then true else if((t.kd:Int)==1)then !(t.tx.toList==[111,114])&&!(t.tx.toList==[98,121])else ZU t ⟨#[45]⟩||ZU t ⟨#[40]⟩
theorem vA(t:Yu)(w:Y):
 CP 273 #[.agg #[E t.kd,E t.at_,.string t.tx,E t.v]] w λe u=>e=.returned (.bool<|Lk t)/\BW w u:=by
 have g:U<|Sa _ w.heap.size t:=YO;have a:U<|Below _ w<|w.alloc<|.cells #[E t.kd,E t.at_,.string t.tx,E t.v] 389:=Yc;obtain⟨x0,i⟩:∃x,((t.kd:Int)==0)=x:=⟨_,C⟩;obtain⟨x1,j⟩:∃x,((t.kd:Int)==1)=x:=⟨_,C⟩;obtain⟨y1,g1⟩:∃x,(t.tx.toList==[111,114])=x:=⟨_,C⟩;obtain⟨y2,g2⟩:∃x,(t.tx.toList==[98,121])=x:=⟨_,C⟩;obtain⟨z1,f1⟩:∃x,ZU t ⟨#[45]⟩=x:=⟨_,C⟩;obtain⟨z2,f2⟩:∃x,ZU t ⟨#[40]⟩=x:=⟨_,C⟩;have k:U<|Lk t=if x0 then true else if x1 then !y1&&!y2 else z1||z2:=I<|by unfold Lk;rw[i,j,g1,g2,f1,f2]
 have h:U<|ZU t _=z1/\ZU t _=z2:=⟨f1,f2⟩;rw[k];cases x0
 .cases x1
  .go_enter func273,ntmps273;go_wp2_with fail;refine(Mv t h.1 w g a).m ?_;rintro e m ⟨rfl,c,d⟩;cases z1
   .obtain⟨k0,k1,k2,k3⟩:=Sa.all c;go_wp2_with fail;refine(Mv t h.2 w c d).m ?_;rintro e z ⟨rfl,l,f⟩;cases z2
    .go_wp2;go_ret;exact⟨C,f⟩
    .go_wp2;go_ret;exact⟨C,f⟩
   .go_wp2;go_ret;exact⟨C,d⟩
  .cases y1<;>cases y2;all_goals
   go_enter func273,ntmps273;go_wp2;go_ret;exact⟨C,a⟩
 .go_enter func273,ntmps273;go_wp2;go_ret;exact⟨C,a⟩
def tw:List Yg->Nat
 |[]=>0
 |t::r=>t.txt.length+30+tw r
def cw:List (LB×LB×Bool)->Nat
 |[]=>0
 |c::r=>c.1.length+c.2.1.length+6+cw r
def nw:List (LB)->Nat
 |[]=>0
 |c::r=>c.length+1+nw r
def Xo(a:Nd):Nat:=24+a.name.length+cw a.kq+nw a.by_
def wT:Tr->Nat
 |.nil=>0
 |.node _ _ a l r=>Xo a+wT l+wT r
def isNil:Tr->Bool
 |.nil=>true
 |.node _ _ _ _ _=>false
def V1:Tr->Prop
 |.nil=>True
 |.node _ _ a l r=>a.jj<=6/\a.op<=4/\(a.jj=4->a.op<=3)/\(a.jj=5->a.op<=3)/\0<=a.n/\a.n<=1000000000/\(3<=a.jj->isNil l=false)/\(a.jj=4\/a.jj=6->isNil r=false)/\(a.jj<=2->isNil l=true/\isNil r=true)/\(a.jj=3\/a.jj=5->isNil r=true)/\V1 l/\V1 r
theorem LZ(ts:List Yg):tw ts.tail<=tw ts:=by
 cases ts with
 |nil=>simp
 |cons t r=>show tw r<=t.txt.length+30+tw r;omega
theorem LY{ts:List Yg}(h:¬((hd ts).jj=0)):(hd ts).txt.length+30+tw ts.tail=tw ts:=by
 cases ts with
 |nil=>exact absurd C h
 |cons t r=>rfl
theorem Pt{c:LB}{ts:List Yg}{z:Unit×List Yg}(h:Zf c ts=.ok z):tw z.2+30<=tw ts:=by
 unfold Zf at h;split at h
 .rename_i e;cases h;have:=LY λh=>QB e<|.inl h;simp_all;omega
 .cases h
theorem Jj{k:Nat}{ts:List Yg}{z:LB×List Yg}(a:k≠0)(h:Zk k ts=.ok z):tw z.2+z.1.length+30=tw ts:=by
 unfold Zk at h;split at h
 .rename_i e;cases h;have:=LY (ts:=ts) X;simp_all;omega
 .cases h
theorem Ev(l m:List<|LB×LB×Bool):cw (l++m)=cw l+cw m:=by
 induction l with
 |nil=>simp[cw]
 |cons a l ih=>simp[cw,ih];omega
theorem oR(l m:List<|LB):nw (l++m)=nw l+nw m:=by
 induction l with
 |nil=>simp[nw]
 |cons a l ih=>simp[nw,ih];omega
theorem FH{α:Type}{item:List Yg->Yl α}{close:LB}(f:List α->Nat)(d:∀t z l,item t=.ok z->f (l++[z.1])+tw z.2<=f l+tw t):∀(n:Nat)(acc:List α)(ts:List Yg)(z:List α×List Yg),ZI item close n acc ts=.ok z->f z.1+tw z.2<=f acc+tw ts
 |0,_,_,_,h=>by cases h
 |n+1,acc,ts,z,h=>by
  have c:(if Yk _ _ then .ok _ else bnd _ _)=.ok z:=h;cases e:Yk close<|hd ts
  · rw[e]at c;obtain⟨_,t1,g,i⟩:=Zw c;obtain⟨a,t2,j,k⟩:=Zw i;have l1:tw t1<=tw ts:=by
      split at g
      .simp_all
      .have:=Pt g;simp_all;omega
    have l2:=d _ _ acc j;have l3:=FH f d n _ _ _ k;simp at l2;omega
  .rw[e]at c;injection c with c;subst c;have:=LZ ts;simp_all
theorem yM(t:List Yg)(z:(LB×LB×Bool)×List Yg)(l:List<|LB×LB×Bool)(h:ZK t=.ok z):cw (l++[z.1])+tw z.2<=cw l+tw t:=by
 unfold ZK at h;obtain⟨a,t1,e,h⟩:=Zw h;obtain⟨v,t2,c,h⟩:=Zw h;obtain⟨b,t3,f,h⟩:=Zw h;cases h;have l1:=Jj N e;have l3:=Jj N f;have l2:tw t2<=tw t1:=by
  unfold RC at c;split at c
  .injection c with c;injection c with _ c;subst c;exact LZ _
  .obtain⟨_,t4,g,d⟩:=Zw c;injection d with d;injection d with _ d;subst d;have:=Pt g;simp_all;omega
 rw[Ev];simp[cw]at*;omega
theorem FI{ts:List Yg}{z:Nd×List Yg}(h:YP ts=.ok z):Xo z.1+6+tw z.2<=tw ts/\z.1.jj=1/\z.1.op=0/\z.1.n=0/\z.1.by_=[]:=by
 unfold YP at h;obtain⟨a,t,c,d⟩:=Zw h;have l1:tw t+a.length+30=tw ts:=by
  unfold Qa at c;split at c
  .cases c
  .exact Jj N c
 split at d
 .obtain⟨cs,t2,e,f⟩:=Zw d;cases f;have l2:=FH _ yM _ _ _ _ e;have l3:=LZ t;refine⟨?_,C,C,C,C⟩;simp[Xo,cw,nw]at*;omega
 .cases d;refine⟨?_,C,C,C,C⟩;simp[Xo,cw,nw]at*;omega
theorem nK{l:LB}:0<=Wz l/\Wz l<=1000000000:=by
 unfold Wz;cases h:ZC 1000000000 l with
 |none=>simp
 |some v=>have:=Mw h;simp;omega
theorem Fj{a:Nd}(e:a.jj<=2)(d:a.op<=4)(c:0<=a.n/\a.n<=1000000000):V1<|TW a:=
 ⟨X,d,X,X,c.1,c.2,X,X,λ_=>⟨C,C⟩,X,trivial,trivial⟩
theorem yP{o:Nat}(c:o<=4){ts:List Yg}{z:Tr×List Yg}(h:Xu o ts=.ok z):V1 z.1/\isNil z.1=false/\wT z.1+tw z.2<=tw ts:=by
 unfold Xu at h;obtain⟨_,t1,d,h⟩:=Zw h;obtain⟨p,t2,e,h⟩:=Zw h;obtain⟨_,t3,f,h⟩:=Zw h;obtain⟨m,t4,a,h⟩:=Zw h;obtain⟨_,t5,g,h⟩:=Zw h;obtain⟨_,t6,i,h⟩:=Zw h;cases h;have a1:=Pt d;have a2:=FI e;have a3:=Pt f;have a4:tw t4<=tw t3/\1<=m/\m<=1000:=by
  unfold T0 at a;split at a
  .rename_i j;injection a with a;injection a with a h4';subst a;subst h4';exact⟨LZ _,j.2,(Nz _ _).2⟩
  .cases a
 have a5:=Pt g;have a6:=Pt i;refine⟨Fj (Yj 2) c ⟨by simp_all;omega,by simp_all;omega⟩,C,?_⟩;simp[TW,wT,Xo,nw]at*;omega
def Py(rec:Nat->List Yg->Nat->Yl Tr):Prop:=∀lv t d z,rec lv t d=.ok z->V1 z.1/\isNil z.1=false/\wT z.1+tw z.2<=tw t
theorem AB{rec:Nat->List Yg->Nat->Yl Tr}(c:Py rec){ts:List Yg}{deep:Nat}{z:Tr×List Yg}(h:Z9 rec ts deep=.ok z):V1 z.1/\isNil z.1=false/\wT z.1+tw z.2<=tw ts:=by
 unfold Z9 at h;obtain⟨_,t1,d,h⟩:=Zw h;obtain⟨a,t2,e,h⟩:=Zw h;obtain⟨_,t3,f,h⟩:=Zw h;cases h;have a1:=Pt d;obtain⟨b1,b2,b3⟩:=c _ _ _ _ e;have a3:=Pt f;simp_all;omega
theorem yN{rec:Nat->List Yg->Nat->Yl Tr}(d:Py rec){g:Nat}(c:g<=3){ts:List Yg}{deep:Nat}{z:Tr×List Yg}(h:Tf rec g ts deep=.ok z):V1 z.1/\isNil z.1=false/\wT z.1+tw z.2<=tw ts:=by
 unfold Tf at h;obtain⟨_,t1,e,h⟩:=Zw h;obtain⟨_,t2,f,h⟩:=Zw h;obtain⟨ns,t3,i,h⟩:=Zw h;obtain⟨a,t4,j,h⟩:=Zw h;cases h;have a1:=Pt e;have a2:=Pt f;have a3:=FH nw (λt z l k=>by have:=Jj N k;rw[oR];simp[nw];omega) _ _ _ _ i;obtain⟨b1,b2,b3⟩:=AB d j;refine⟨⟨Sm,by simp_all;omega,λ_=>c,λ_=>c,M0 _,Sm,λ_=>b2,λh=>by simp at h,λh=>absurd (show(5)<=2 from h) X,λ_=>C,b1,trivial⟩,C,?_⟩;simp[wT,Xo,cw,nw]at*;omega
theorem De{w:LB}{l:List<|LB}{i:Nat}(h:Y7 w l=some i):i<l.length:=by
 induction l generalizing i with
 |nil=>cases h
 |cons x l ih=>
  unfold Y7 at h;split at h
  .simp_all;omega
  .cases a:Y7 w l with
   |none=>simp_all
   |some j=>simp_all;omega
theorem yO{rec:Nat->List Yg->Nat->Yl Tr}(c:Py rec){ts:List Yg}{deep:Nat}{z:Tr×List Yg}(h:ZR rec ts deep=.ok z):V1 z.1/\isNil z.1=false/\wT z.1+tw z.2<=tw ts:=by
 unfold ZR at h;have j:=LZ ts;split at h
 .rename_i k;cases h;have:=LY (ts:=ts) X;refine⟨Fj (Yr _) (Yr _)<|nK,C,?_⟩;simp[TW,wT,Xo,cw,nw]at*;omega
 .split at h
  .rename_i e;obtain⟨a,t1,d,h⟩:=Zw h;cases h;obtain⟨b1,b2,b3⟩:=c _ _ _ _ d;have:=LY λh=>QB e<|.inl h;refine⟨⟨N,Yr _,λ_=>Yr _,λ_=>Yr _,M0 _,N,λ_=>b2,λh=>by simp[VM]at h,λh=>absurd (show(3)<=2 from h) X,λ_=>C,b1,trivial⟩,C,?_⟩;simp[wT,Xo,cw,nw,VM]at*;omega
  .split at h
   .exact AB c h
   .split at h
    .rename_i g f;have:=De f;obtain⟨b1,b2,b3⟩:=yN c (show g<=3 by simp[Wu]at this;omega) h;simp_all;omega
    .split at h
     .rename_i o i;have:=De i;obtain⟨b1,b2,b3⟩:=yP (show o<=4 by simp[WN]at this;omega) h;simp_all;omega
     .obtain⟨p,t1,d,h⟩:=Zw h;cases h;obtain⟨a1,a2,a3,a4,a5⟩:=FI d;simp only at a1 a2 a3 a4;refine⟨Fj X X ⟨X,X⟩,C,?_⟩;simp[TW,wT]at*;omega
theorem NB:∀(n:Nat)(m:Bool)(lv:Nat)(a:Tr)(ts:List Yg)(deep:Nat)(z:Tr×List Yg),(m=true->V1 a/\isNil a=false)->Zh n m lv a ts deep=.ok z->V1 z.1/\isNil z.1=false/\wT z.1+tw z.2<=tw ts+(if m then wT a else 0)
 |0,_,_,_,_,_,_,_,h=>by cases h
 |n+1,false,lv,a,ts,deep,z,_,h=>by
  have k:Py λlv t d=>Zh n false lv .nil t d:=λlv t d z h=>by
   obtain⟨g,i,r⟩:=NB n false lv .nil t d z (λh=>(by cases h)) h;simp_all
  unfold Zh at h;split at h
  · unfold Ug at h;split at h
    · split at h
      .cases h
      .obtain⟨g,i,r⟩:=yO k h;simp_all
    .cases h
  .obtain⟨b,t1,g,i⟩:=Zw h;obtain⟨l1,l2,l3⟩:=k _ _ _ _ g;obtain⟨m1,m2,m3⟩:=NB n true lv b t1 deep z (λ_=>⟨l1,l2⟩) i;simp_all;omega
 |n+1,true,lv,a,ts,deep,z,s,h=>by
  obtain⟨l,o⟩:=s C;unfold Zh at h;split at h
  .cases h;simp_all;omega
  · rename_i p e;obtain⟨b,t1,g,i⟩:=Zw h;obtain⟨l1,l2,l3⟩:=NB n false _ _ _ _ _ (λh=>(by cases h)) g;have q:((p.1=4/\p.2<=3)\/(p.1=6/\p.2=0))/\tw ts.tail+30<=tw ts:=by
      have j:∀c,Yk c (hd ts)=true->tw ts.tail+30<=tw ts:=λc f=>by have:=LY (ts:=ts) λh=>QB f<|Or.inl h;omega
      unfold LS.opAt at e;split at e
      · split at e
        .rename_i f;cases e;exact⟨Or.inr ⟨C,C⟩,j _ f⟩
        simp_all
      · split at e
        · split at e
          .rename_i f;cases e;exact⟨Or.inl ⟨C,N⟩,j _ f⟩
          · split at e
            .rename_i f;cases e;exact⟨Or.inl ⟨C,N⟩,j _ f⟩
            simp_all
        · split at e
          .rename_i f;cases e;exact⟨Or.inl ⟨C,N⟩,j _ f⟩
          · split at e
            .rename_i f;cases e;exact⟨Or.inl ⟨C,N⟩,j _ f⟩
            simp_all
    obtain⟨w,v⟩:=q;have u:V1<|.node 0 0 (VM p.1 p.2) a b:=by
     refine⟨?_,?_,?_,?_,M0 _,by constructor<;>omega,λ_=>o,λ_=>l2,?_,?_,l,l1⟩
     .show p.1<=6;omega
     .show p.2<=4;omega
     .intro h;show p.2<=3;omega
     .intro h;exact absurd (show p.1=5 from h) X
     .intro h;exact absurd (show p.1<=2 from h) X
     .intro h;exact absurd (show p.1=3\/p.1=5 from h) X
    obtain⟨m1,m2,m3⟩:=NB n true lv _ t1 deep z (λ_=>⟨u,C⟩) i;refine⟨m1,m2,?_⟩;simp[wT,Xo,cw,nw,VM]at l3 m3⊢;omega
def XU(a:Nd):Nat:=if a.jj=6 then 0 else a.op+1
def Zo(w:Y):Tr->F->Prop
 |.nil,_=>False
 |.node _ _ a l r,v=>
  (a.jj=0/\v=.iface 424 (.agg #[E a.n]))\/
  (a.jj=1/\∃(nm:BA)(la:Option Addr)(ln lc:Nat),v=.iface 229 (.agg #[.string nm,.slice la ln lc])/\bl nm=a.name/\Z0 w (.slice la ln lc) a.kq)\/
  (a.jj=2/\∃(wd nm:BA)(la:Option Addr)(ln lc:Nat),v=.iface 433 (.agg #[.string wd,.string nm,.slice la ln lc,E a.n])/\bl wd=WN.getD a.op []/\bl nm=a.name/\Z0 w (.slice la ln lc) a.kq)\/
  (a.jj=3/\∃x,v=.iface 426 (.agg #[x])/\Zo w l x)\/
  (a.jj=5/\∃(wd:BA)(la:Option Addr)(ln lc:Nat)(x:F),v=.iface 428 (.agg #[.string wd,.slice la ln lc,x])/\bl wd=Wu.getD a.op []/\Ue w (.slice la ln lc) a.by_/\Zo w l x)\/
  ((a.jj=4\/a.jj=6)/\∃x y,v=.iface 422 (.agg #[E<|XU a,x,y])/\Zo w l x/\Zo w r y)
def Ld(v:F):Prop:=v=.nilIface\/∃(ty:TypeId)(u:F),v=.iface ty u
theorem Zo.shape{w:Y}:∀{t:Tr}{v:F},Zo w t v->∃(ty:TypeId)(u:F),v=.iface ty u
 |.nil,_,h=>h.elim
 |.node _ _ a l r,v,h=>by
  rcases h with⟨_,h⟩|⟨_,_,_,_,_,h,_⟩|⟨_,_,_,_,_,_,h,_⟩|⟨_,_,h,_⟩|⟨_,_,_,_,_,_,h,_⟩|⟨_,_,_,h,_⟩;all_goals exact⟨_,_,h⟩
theorem Z0.below{w w':Y}{v:F}{ns:List<|LB×LB×Bool}(h:Z0 w v ns)(a:BW w w'):Z0 w' v ns:=by
 obtain⟨bs,c,d⟩:=h;exact⟨bs,Ze c a,d⟩
theorem Ue.below{w w':Y}{v:F}{ns:List<|LB}(h:Ue w v ns)(a:BW w w'):Ue w' v ns:=by
 obtain⟨bs,c,d⟩:=h;exact⟨bs,Ze c a,d⟩
theorem Zo.mono{w w':Y}(i:∀v cs,Z0 w v cs->Z0 w' v cs)(j:∀v ns,Ue w v ns->Ue w' v ns):∀(t:Tr)(v:F),Zo w t v->Zo w' t v
 |.nil,_,h=>h
 |.node _ _ a l r,v,h=>by
  have g:=Zo.mono i j l;have n:=Zo.mono i j r;rcases h with h|⟨c,nm,la,ln,lc,d,e,f⟩|⟨c,k,nm,la,ln,lc,d,e,f,m⟩|⟨c,x,d,e⟩|⟨c,k,la,ln,lc,x,d,e,f,m⟩|⟨c,x,y,d,e,f⟩
  .exact .inl h
  .exact .inr<|.inl ⟨c,nm,la,ln,lc,d,e,i _ _ f⟩
  .exact .inr<|.inr<|.inl ⟨c,k,nm,la,ln,lc,d,e,f,i _ _ m⟩
  .exact .inr<|.inr<|.inr<|.inl ⟨c,x,d,g x e⟩
  .exact .inr<|.inr<|.inr<|.inr<|.inl ⟨c,k,la,ln,lc,x,d,e,j _ _ f,g x m⟩
  .exact .inr<|.inr<|.inr<|.inr<|.inr ⟨c,x,y,d,g x e,n y f⟩
theorem Zo.below{w w':Y}{t:Tr}{v:F}(h:Zo w t v)(a:BW w w'):Zo w' t v:=Zo.mono (λ_ _ h=>h.below a) (λ_ _ h=>h.below a) t v h
theorem Zo.kept{w w':Y}{t:Tr}{v:F}(h:Zo w t v){b:Nat}(a:w.grownBy w'<|some b){c:Array F}{ty:TypeId}{fr:Nat×Nat}(d:w.heap[b]?=some (.cells c ty fr))(e:ty≠374)(f:ty≠9):Zo w' t v:=
 Zo.mono (λ_ _ h=>h.kept a d e) (λ_ _ h=>h.kept a d f) t v h
theorem Zo.read{w w':Y}{R:RS}{k:Nat}{ts:List Yg}{t:Tr}{v:F}(h:Zo w t v)(a:RK w R k ts)(c:w.grownBy w'<|some R.b):Zo w' t v:=h.kept c a.rd.cells N N
theorem Z0.read{w w':Y}{R:RS}{k:Nat}{ts:List Yg}{v:F}{cs:List<|LB×LB×Bool}(h:Z0 w v cs)(a:RK w R k ts)(c:w.grownBy w'<|some R.b):Z0 w' v cs:=h.kept c a.rd.cells N
theorem Ue.read{w w':Y}{R:RS}{k:Nat}{ts:List Yg}{v:F}{cs:List<|LB}(h:Ue w v cs)(a:RK w R k ts)(c:w.grownBy w'<|some R.b):Ue w' v cs:=h.kept c a.rd.cells N
theorem U4.err{α:Type}{R:RS}{V:Y->α->Prop}{w:Y}{r:Yl α}{v:F}(h:U4 R V w r v){e:Nat×Nat}(a:r=.error e):WJ w R e v:=by subst a;exact h
theorem U4.good{α:Type}{R:RS}{V:Y->α->Prop}{w:Y}{r:Yl α}{v:F}(h:U4 R V w r v){a:α}{ts:List Yg}(c:r=.ok (a,ts)):v=.nilIface/\(∃k,RK w R k ts)/\V w a:=by subst c;exact h
end Go.Proofs.YtmfnolgpaoldpaaGreatDoor

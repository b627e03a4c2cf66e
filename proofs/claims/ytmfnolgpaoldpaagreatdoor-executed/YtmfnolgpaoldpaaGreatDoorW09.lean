/- Parts. -/
import Derived.Test.YtmfnolgpaoldpaaGreatDoorW08
set_option linter.all false
set_option maxRecDepth 100000
set_option maxHeartbeats 16000000
namespace Go.Proofs.YtmfnolgpaoldpaaGreatDoor
open Go.RowKit LS Go.Proofs.Tryz
variable {s:BA}{f:FuncId}{i:Int}{xs:List Value}{t0 ts:List Yg}{R:List Yg->Nat->Yl Tr}{l:List<|LB}{cs:List<|LB×LB×Bool}{L M b deep k n:Nat}{rec:Nat->List Yg->Nat->Yl Tr}{p:PV}{pv:Value}{w w':World}{t:Yg}{r r1 r3 y:Yl Unit}
theorem Hd(h:BW w w'):Yw b pv w pv w':=⟨h.os,h.tape,h.output,h.size,λk a _ _=>h.block k a,.inl C⟩
theorem Yi.pre{w0:World}{R:Yl Tr}(a:Yw b pv w0 pv w)(h:Yi w b pv s deep xs M R i w'):Yi w0 b pv s deep xs M R i w':=by
 obtain⟨n',pv',ys,c,d,e,f,g⟩:=h.out;exact⟨n',pv',ys,c,d,a.trans e,f,g⟩
theorem DQ{w:LB}{i:Nat}(h:Y7 w l=some i):Xk w l=i:=by unfold Xk;rw[h]
theorem Ga{w:LB}(h:Y7 w l=none):Xk w l=-1:=by unfold Xk;rw[h]
theorem I8(d:(hd ts).jj=2)(a:Yk [45] (hd ts)=false)(c:Yk [40] (hd ts)=false):ZR rec ts deep=match Y7 (hd ts).txt Wu with
 |some g=>Tg rec g ts.tail deep
 |none=>match Y7 (hd ts).txt WN with
  |some o=>Xu o ts.tail
  |none=>bnd (YP ts) λp r=>.ok (TX p,r):=by
 unfold ZR;rw[Yd X,a,c];rfl
theorem ru(h:St w b pv s deep<|.ok ((),ts))(W:s.size<=5000)(B:(hd ts).jj=2)(D:Yk [45] (hd ts)=false)(F:Yk [40] (hd ts)=false){g:Nat}(o:Y7 (hd ts).txt Wu=some g)
 (r:We 287 s (Z9 rec)<|L+1)(G:ts.length<=L+1)(a:w.ownsRow 0 59 8 pv n xs)(J:M<=6000)(K:n+ts.length<=M)(t:deep<=20):
 CP 270 #[Vp b,.bool false,.bool false] w λe u=>∃i:Int,e=.returned (E i)/\Yi w b pv s deep xs M (ZR rec ts deep) i u:=by
 obtain⟨q,p,c,T,_,_,U,_⟩:=h.tok;obtain⟨c0,c1,c2,c3,c4,c5,c6,c7,c8⟩:=p.all;have l:=p.lt;have V:((q.k:Int)==1)=false:=by rw[(S5 c).1,YB];omega
 have O:Hid<|ZR _ _ _=Tg rec g _ deep:=I<|by rw[I8 B D F,o]
 have P:Hid _:=(S5 c).2▸DQ o;have H:=I h;have Q:=I a;have R:=I r;clear h a p c c0 c1 c2 c5 c6 c7 c8 r o;go_enter func270,ntmps270;go_wp2_with fail;refine(Oq N).mono ?_;rintro e Y ⟨rfl,d⟩;rw[Jf,P];have d4:=(d.cell l).trans c4;have f:=I d;clear d c3 c4;go_wp2_with fail;refine(Oq N).mono ?_;rintro e z ⟨rfl,m⟩;rw[Jv];have j:=I<|f.trans<|m.mono f.size;have v:=I<|St.kept H<|j.block b l;have x:=I<|Ze Q j;generalize Xk (bl q.tx) WN=oi;clear m d4 f;go_wp2_with fail;refine(qH v X X g C R G x J K t).mono ?_;rintro e Z ⟨i,rfl,A⟩;have S:Hid<|Yi w b _ s _ _ M _ i _:=O.out▸A.pre (Hd j.out);clear A;go_wp2;go_ret;exact⟨_,C,S⟩
theorem Lf.base{base:Nat}{nd:Nd}(h:Lf w base p nd):Lf w 0 p nd:=by
 obtain⟨a,c,qs,d,e⟩:=h;exact⟨a,c,qs,Jw d,e⟩
theorem rC(h:St w b pv s deep<|.ok ((),ts))(hs:s.size<=5000)(V:(hd ts).jj=2)(hm:Yk [45] (hd ts)=false)(ho:Yk [40] (hd ts)=false)(O:Y7 (hd ts).txt Wu=none)(P:Y7 (hd ts).txt WN=none)
 (hr:Qc (hd ts)=false)(rec:Nat->List Yg->Nat->Yl Tr)(f:w.ownsRow 0 59 8 pv n xs)(hM:M<=6000)(hB:n+ts.length<=M):
 CP 270 #[Vp b,.bool false,.bool false] w λe u=>∃i:Int,e=.returned (E i)/\Yi w b pv s deep xs M (ZR rec ts deep) i u:=by
 obtain⟨q,Q,d,a1,_,_,a2,_⟩:=h.tok;obtain⟨c0,c1,c2,c3,c4,c5,c6,c7,c8⟩:=Q.all;have D:=Q.lt;have a3:((q.k:Int)==1)=false:=by rw[(S5 d).1,YB];omega
 have R:Hid<|ZR rec _ deep=bnd _ _:=I<|by rw[I8 V hm ho,O,P]
 have HX:Hid _:=(S5 d).2▸Ga O;have HY:Hid _:=(S5 d).2▸Ga P;have H:=I h;have HO:=I f;have a4:Hid<|Xq M (n+1)<|bnd (YP ts) λp r=>(.ok (TX p,r)):=by
  unfold YP Qb;rw[hr];show Xq M (n+1)<|bnd (bnd (Zk 2 ts) _) _;unfold Zk;rw[Ye V,Ow];have h0:Xq M _<|.ok ((hd ts).txt,ts.tail):=(show n+1+ts.tail.length<=M by omega);refine h0.bnd ?_;intro a t z e hz;injection e with e;injection e with _ e;subst e;obtain⟨x,t2,c,S⟩:=Zw hz;injection S with S;subst S;split at c
  .obtain⟨cs,t3,h3,g⟩:=Zw c;injection g with g;injection g with _ g;subst g;have:=Ms K6 _ _ _ _ h3;simp at this⊢;omega
  .injection c with c;injection c with _ c;subst c;exact Yj _
 clear h f Q d c0 c1 c2 c5 c6 c7 c8 O P;go_enter func270,ntmps270;go_wp2_with fail;refine(Oq N).mono ?_;rintro e w1 ⟨rfl,j⟩;rw[Jf,HX];have d4:=(j.cell D).trans c4;have l:=I j;clear j c3 c4;go_wp2_with fail;refine(Oq N).mono ?_;rintro e w2 ⟨rfl,F⟩;rw[Jv,HY];have m:=I<|l.trans<|F.mono l.size;have G:=I<|St.kept H<|m.block b D;have W:=I<|Ze HO m;clear F d4 l;go_wp2_with fail;refine(Al G X).mono ?_;rintro e T ⟨p,rfl,J,K,v⟩;have L:Hid<|St _ b _ s _<|Zj _:=J;have Y:=I<|VZ G W v;have Z:Hid<|Yw b pv w _ _:=(Hd m).grown v;have A:Hid<|∀o,St (T.alloc o) b _ s _ _:=λo=>St.kept L<|Go.Deep.blk_alloc_lt _ _ _<|St.lt L;have B:=I λo=>N5 Y o;have U:Hid<|∀o,Yw b _ w _<|T.alloc o:=λo=>Z.grown<|J4 _ _ _;have a0:Hid<|∀o z,YP ts=.ok z->Lf (T.alloc o) 0 p z.1:=by
  intro o z e;obtain⟨q1,q2,qs,q3,q4⟩:=K _ C z e;exact⟨q1,q2,qs,Jw<|q3.alloc o,q4⟩
 clear J v K;go_wp2_with fail;refine(St.lay (A _) (B _) X p).mono ?_;rintro e w4 ⟨pv4,rfl,s4,o4,k4⟩;have HP:Hid<|Yi w b pv s deep xs M (ZR rec ts deep) n w4:=by
  refine Fj (U _) (A _) (B _) s4 o4 k4 (by rwa [R.out]) ?_ ?_
  .rw[R];cases YP ts with
   |error e=>rfl
   |ok x=>rfl
  .intro t z e;rw[R]at e;obtain⟨nd,r,e1,e2⟩:=Zw e;injection e2 with e2;injection e2 with e2 _;obtain⟨q1,q2,q3⟩:=a0.out _ _ e1;refine⟨nd,e2.symm,?_,by rw[q1],by rw[q1]⟩;have q2':nd=⟨1,0,0,bl _,nd.kq,[]⟩:=q2;rw[q2'];refine⟨by rw[q1];rfl,by rw[q1],by rw[q1];rfl,C,q3,[],?_,C⟩;rw[q1];exact Xm _ _ _ _
 clear s4 o4 k4;go_wp2;go_ret;exact⟨_,C,HP⟩
def NS(r:Yl Unit):Bool:=match r with
 |.error _=>false
 |.ok x=>(hd x.2).jj==1
def Ob(r:Yl Unit):Int:=match r with
 |.error _=>0
 |.ok x=>if(hd x.2).jj=1 then YL 1000 (hd x.2).txt else 0
theorem fY (r3:Yl Unit):(bnd (if Ob r3<1 then bnd r3 λ_ ts=>.error (2,(hd ts).at_)else r3) λ_ ts=>Zj<|Zk 1 ts)=(bnd r3 λ_ ts=>Zj<|T0 ts)/\∀ts z,r3=.ok ((),ts)->T0 ts=.ok z->Ob r3=z.1:=by
 cases r3 with
 |error e=>exact⟨C,λts z h=>(by cases h)⟩
 |ok x=>
  obtain⟨⟨⟩,ts⟩:=x;refine⟨?_,?_⟩
  · show _=Zj (T0 ts);unfold T0;by_cases c:(hd ts).jj=1
    · have e:Ob (.ok ((),ts))=YL _ (hd ts).txt:=Ye c;rw[e];by_cases d:YL 1000 (hd ts).txt<1
      .rw[Ye d,Yd X];rfl
      .rw[Yd d,Ye ⟨c,X⟩];show Zj (Zk 1 ts)=_;unfold Zk;rw[Ye c];rfl
    .have e:Ob (.ok ((),ts))=0:=Yd c;rw[e,Ye N,Yd λh=>c h.1];rfl
  · intro t z e a;injection e with e;injection e with _ e;subst e;unfold T0 at a;split at a
    .rename_i h;injection a with a;subst a;exact Ye h.1
    .cases a
theorem yA (o:Nat)(a:r3=bnd (bnd (Zf [40] t0) λ_ ts=>Zj<|YP ts) λ_ ts=>Zf [91] ts):
 Zj (Xu o t0)=(bnd (bnd (bnd r3 λ_ ts=>Zj<|T0 ts) λ_ ts=>Zf [93] ts) λ_ ts=>Zf [41] ts)/\
 ∀t z,Xu o t0=.ok (t,z)->∃y p0 y2 t3 nz,Zf [40] t0=.ok ((),y)/\YP y=.ok (p0,y2)/\r3=.ok ((),t3)/\T0 t3=.ok nz/\t=TX ⟨2,o,nz.1,p0.name,p0.kq,[]⟩:=by
  subst a;unfold Xu;cases f:Zf [40] t0 with
  |error e=>exact⟨C,λt z h=>(by cases h)⟩
  |ok x1=>
   obtain⟨⟨⟩,y⟩:=x1;simp only[bnd];cases c:YP y with
   |error e=>exact⟨C,λt z h=>(by cases h)⟩
   |ok x2=>
    obtain⟨p0,y2⟩:=x2;simp only[Zj,bnd];cases a:Zf [91] y2 with
    |error e=>exact⟨C,λt z h=>(by cases h)⟩
    |ok x3=>
     obtain⟨⟨⟩,t3⟩:=x3;simp only;cases d:T0 t3 with
     |error e=>exact⟨C,λt z h=>(by cases h)⟩
     |ok nz=>
      simp only;cases g:Zf [93] nz.2 with
      |error e=>exact⟨C,λt z h=>(by cases h)⟩
      |ok x5=>
       simp only;cases i:Zf [41] x5.2 with
       |error e=>exact⟨C,λt z h=>(by cases h)⟩
       |ok x6=>
        simp only;refine⟨trivial,λt z h=>?_⟩;injection h with h;injection h with h _;exact⟨y,p0,y2,t3,nz,C,c,C,d,h.symm⟩
theorem ZP.grownQ{deep base:Nat}(h:ZP w base p cs)(c:St w b pv s deep r)(f:w.grownBy w'<|some b):ZP w' base p cs:=by
 obtain⟨qs,a,g⟩:=h;obtain⟨q,i,_⟩:=c.view;exact⟨qs,ZJ a λk d=>f.block k (a.lt k d).2 λe=>ZD a i N<|by rw[d,e],g⟩
theorem ZP.box{a base:Nat}{p0:PV}(h:ZP w base p cs)(c:Yq w a p0)(o:Nat)(x:Value):ZP (w.setCell ⟨a,o,none⟩ x) base p cs:=by
 obtain⟨qs,d,e⟩:=h;exact⟨qs,LC d c N,e⟩
theorem St.view2(h:St w b pv s deep r):
 ∃q:QV,YN w b q/\(∀x,r=.error x->q.e≠0)/\(∀x,r=.ok x->q.e=0/\S4 q=hd x.2/\q.tx.size<=s.size+2):=by
 cases r with
 |error x=>
  obtain⟨q,c,i,j,d,f,k⟩:=h;exact⟨q,c,λ_ _=>by rwa [d],λy a=>(by cases a)⟩
 |ok x=>
  obtain⟨⟨q,c,i,j,d,f,k,g⟩,_⟩:=h;refine⟨q,c,(by intro y a;cases a),?_⟩;intro y a;injection a with a;subst a;have:=XB.txt_le g;have e:(S4 q).txt=bl _:=C;rw[e,Zb,Zb]at this;exact⟨f,g.hd.symm,this⟩
def PO(w:World)(p:PV)(y:Yl Unit):Prop:=∀t z,y=.ok ((),t)->YP t=.ok z->p=⟨1,0,0,p.nm,p.ca,p.cn,p.cc,none,0,0,0,0⟩/\z.1=⟨1,0,0,bl p.nm,z.1.kq,[]⟩/\ZP w 0 p z.1.kq
theorem PO.grown(h:PO w p y)(a:St w b pv s deep r)(c:w.grownBy w'<|some b):PO w' p y:=
 λt z e d=>let⟨h1,h2,h3⟩:=h t z e d;⟨h1,h2,h3.grownQ a c⟩
theorem PO.box{a:Nat}{p0:PV}(h:PO w p y)(c:Yq w a p0)(o:Nat)(x:Value):PO (w.setCell ⟨a,o,none⟩ x) p y:=
 λt z e d=>let⟨h1,h2,h3⟩:=h t z e d;⟨h1,h2,h3.box c o x⟩
theorem rD(h:St w b pv s deep<|.ok ((),ts))(hs:s.size<=5000)(hk:(hd ts).jj=2)(hm:Yk [45] (hd ts)=false)(ho:Yk [40] (hd ts)=false)(c:Y7 (hd ts).txt Wu=none){o:Nat}(hv:Y7 (hd ts).txt WN=some o)
 (rec:Nat->List Yg->Nat->Yl Tr)(U:w.ownsRow 0 59 8 pv n xs)(hM:M<=6000)(hB:n+ts.length<=M):
 CP 270 #[Vp b,.bool false,.bool false] w λe u=>∃i:Int,e=.returned (E i)/\Yi w b pv s deep xs M (ZR rec ts deep) i u:=by
 obtain⟨q,hq,J,i8,_,_,i9,_⟩:=h.tok;obtain⟨c0,c1,c2,c3,c4,c5,c6,c7,c8⟩:=hq.all;have d0:=hq.lt;have j0:((q.k:Int)==1)=false:=by rw[(S5 J).1,YB];omega
 have HI:Hid<|ZR rec _ deep=Xu o _:=I<|by rw[I8 hk hm ho,c,hv]
 have HX:Hid _:=(S5 J).2▸Ga c;have HY:Hid _:=(S5 J).2▸DQ hv;have H:=I h;have HO:=I U;have i1:Hid<|Xq M (n+1)<|Xu o ts.tail:=by
  have h0:Xq M _<|.ok ((),ts.tail):=(show n+1+ts.tail.length<=M by omega);have:=h0.bnd (f:=λ_ t=>Xu o t) λ_ t z e hz=>by injection e with e;injection e with _ e;subst e;have:=As hz;omega
  exact this
 clear h U hq J c0 c1 c2 c5 c6 c7 c8 c hv;go_enter func270,ntmps270;go_wp2_with fail;refine(Oq N).mono ?_;rintro e w1 ⟨rfl,V⟩;rw[Jf,HX];have d4:=(V.cell d0).trans c4;have Y:=I V;clear V c3 c4;go_wp2_with fail;refine(Oq N).mono ?_;rintro e w2 ⟨rfl,d1⟩;rw[Jv,HY];have Z:=I<|Y.trans<|d1.mono Y.size;have a0:=I<|St.kept H<|Z.block b d0;have d2:=I<|Ze HO Z;clear d1 d4 Y;go_wp2_with fail;refine(St.next a0 X ⟨ts,C,X⟩).mono ?_;rintro e w3 ⟨rfl,d,c⟩;have a1:Hid<|St _ b _ s _<|.ok _:=d;have d3:=I<|VZ a0 d2 c;have d5:Hid<|Yw b pv w _ _:=(Hd Z).grown c;clear d c a0 d2;go_wp2_with fail;refine(St.take a1 X _).mono ?_;rintro e w4 ⟨rfl,d,c⟩;have a2:Hid<|St _ b _ s _<|Zf [40] _:=d;have d6:=I<|VZ a1 d3 c;have a3:=I<|d5.grown c;clear d c a1 d3 d5;go_wp2_with fail;refine(Al a2 X).mono ?_;rintro e w5 ⟨p,rfl,d,d7,c⟩;obtain⟨W5,m⟩:∃W5,W5=w5.alloc (.cells #[E p.k,E p.n,E p.op,.string p.nm,.slice p.ca p.cn p.cc,.slice p.ba p.bn p.bc,E p.a,E p.b] 59):=⟨_,C⟩;have K:Hid<|St _ b _ s _ _:=m▸St.kept d (Go.Deep.blk_alloc_lt _ _ _<|St.lt d);have a4:=VZ a2 d6 c;have d8:Hid<|W5.ownsRow 0 _ 8 _ n _:=m▸a4.alloc _;have d9:Hid _:=m▸(a3.grown c).grown (J4 _ _ _);have e0:Hid<|PO W5 p<|Zf [40] ts.tail:=I<|by
  intro t z e hz;obtain⟨q1,q2,qs,q3,q4⟩:=d7.out _ e z hz;rw[m];exact⟨q1,q2,qs,Jw<|q3.alloc _,q4⟩
 obtain⟨a5,B⟩:∃a5,a5=w5.heap.size:=⟨_,C⟩;have e7:Hid<|Yq _ _ p:=m▸B▸Go.Deep.blk_alloc_new _ _;have a6:w.heap.size<=a5:=B▸(a3.grown c).size;have i2:b≠a5:=by rw[B];have:=St.lt d;omega
 have i3:Hid<|pv.ownBlock≠some a5:=I λe=>by have:=(a4.lt _ e).2;omega
 clear d c d7 a4 a2 d6 a3;go_wp2_with fail;rw[<-m,<-B];clear m B;refine(St.take K X _).mono ?_;rintro e w6 ⟨rfl,d,c⟩;obtain⟨r3,a7⟩:∃r3:Yl _,r3=bnd (bnd (Zf [40] ts.tail) λ_ ts=>Zj<|YP ts) λ_ ts=>Zf [91] ts:=⟨_,C⟩;have i4:=I a7;have D:Hid<|St w6 b pv s deep r3:=by rwa [a7]
 have a8:=I<|VZ K d8 c;have a9:=I<|d9.grown c;have G:=I<|e0.grown K c;have b0:=I<|Yq.grown e7 c<|by simp;omega
 clear d c a7 K d8 d9 e0 e7;obtain⟨q6,e8,e9,b1⟩:=St.view2 D;obtain⟨c0,c1,c2,c3,c4,c5,c6,c7,c8⟩:=e8.all;have f3:(((q6.e:Int)==0)=false/\NS r3=false)∨(((q6.e:Int)==0)=true/\((q6.k:Int)==1)=NS r3):=by
  cases r3 with
  |error e=>exact Or.inl ⟨by rw[YB];have:=e9 e C;omega,C⟩
  |ok x=>
   obtain⟨h1,T,h3⟩:=b1 x C;refine Or.inr ⟨by rw[h1];rfl,?_⟩;show _=((hd x.2).jj==1);rw[<-T];show((q6.k:Int)==1)=(q6.k==1);rw[Ud,XL,XL];omega
 have b2:Hid<|NS r3=true->q6.tx.size<=6000/\Ob r3=YL 1000 (bl q6.tx):=I<|by
  intro hb;cases r3 with
  |error e=>cases hb
  |ok x=>
   obtain⟨h1,T,h3⟩:=b1 x C;have i5:(hd x.2).jj=1:=by simpa [NS]using hb
   refine⟨X,?_⟩;show(if(hd x.2).jj=1 then _ else _)=_;rw[Ye i5,<-T];rfl
 have f4:Hid<|NS r3=false->Ob r3=0:=by
  intro hb;cases r3 with
  |error e=>rfl
  |ok x=>exact Yd<|by simpa [NS]using hb
 have j1:Hid<|-1<=Ob r3/\Ob r3<=1000:=by
  cases r3 with
  |error e=>exact⟨by show(-1:Int)<=0;decide,by show(0:Int)<=1000;decide⟩
  |ok x=>
   show-1<=(if(hd x.2).jj=1 then _ else _)/\(if(hd x.2).jj=1 then _ else _)<=_;split
   .exact Ny _ _
   .decide
 have f5:=I<|fY r3;have f6:=I<|yA o i4;clear e8 e9 b1 c0 c1 c2 c5 c6 c8;generalize NS r3=sb at*;generalize Ob r3=nz at*;go_upto_region 21 with fail;go_cut [85] (λs85 A=>s85=.bool sb/\A=w6);case first=>
  rcases f3 with⟨h1,T⟩|⟨h1,T⟩
  .go_wp2;go_meet;exact⟨by rw[T],C⟩
  .go_wp2;go_meet;exact⟨C,C⟩
 case rest=>
 obtain⟨rfl,rfl⟩:=hcut;clear f3;go_upto_if 85 with fail;go_cut [12] (λs12 A=>s12=E nz/\A=wc);case first=>
  cases sb
  .go_wp2;go_meet;exact⟨by rw[f4 Sm],C⟩
  .have g7:=(b2 Sm).1;go_wp2_with fail;refine(LJ 1000 C g7 N).mono ?_;rintro e w7 ⟨rfl,rfl⟩;rw[<-(b2 Sm).2];go_wp2;go_meet;exact⟨C,C⟩
 case rest=>
 obtain⟨rfl,rfl⟩:=hcut;clear b2 f4 c3 c4 c7;obtain⟨r4,f7⟩:∃r4:Yl _,r4=if nz<1 then bnd r3 λ_ ts=>.error (2,(hd ts).at_)else r3:=⟨_,C⟩;have b3:=I f7;clear f7;go_upto_if 93 with fail;go_cut [] (λA=>Hid (St A b pv s deep r4)/\Hid (Yq A a5 p)/\Hid (A.ownsRow 0 59 8 pv n xs)/\Hid (Yw b pv w pv A)/\Hid (PO A p<|Zf [40] ts.tail));case first=>
  by_cases F:nz<1
  .have b4:=WI F;have HE:Hid<|r4=bnd _ _:=I<|by rw[b3,Ye F]
   go_wp2_with fail;clear b4 F;refine(St.fail D 2 _ C N).mono ?_;rintro e w7 ⟨rfl,d,c⟩;have r:Hid<|St w7 b pv s deep r4:=by rwa [HE.out]
   have L:=I<|Yq.grown b0 c<|by simp;omega
   have O:=I<|VZ D a8 c;have P:=I<|a9.grown c;have Q:=I<|G.grown D c;clear d c;go_wp2;go_meet;exact⟨r,L,O,P,Q⟩
  .have b4:=Wl F;have HE:Hid<|r4=r3:=I<|by rw[b3,Yd F]
   go_wp2;go_meet;exact⟨I<|by rwa [HE.out],b0,a8,a9,G⟩
 case rest=>
 obtain⟨r,L,O,P,Q⟩:=hcut;clear D b0 a8 a9 G;go_wp2_with fail;refine(St.jj r X 1 _ C N).mono ?_;rintro e w8 ⟨x8,rfl,d,_,c⟩;rw[b3,f5.1]at d;have R:=I d;have f8:=I<|Yq.grown L c<|by simp;omega
 have f9:=I<|VZ r O c;have g0:=I<|P.grown c;have g1:=I<|Q.grown r c;clear d c r L O P Q;go_wp2_with fail;refine(St.take R X _).mono ?_;rintro e w9 ⟨rfl,d,c⟩;rw[show bl _=[93]from C]at d;have S:=I d;have g2:=I<|Yq.grown f8 c<|by simp;omega
 have g3:=I<|VZ R f9 c;have g4:=I<|g0.grown c;have g5:=I<|g1.grown R c;clear d c R f8 f9 g0 g1;go_wp2_with fail;refine(St.take S X _).mono ?_;rintro e i6 ⟨rfl,d,c⟩;rw[show bl _=[41]from C,<-f6.1]at d;have g:=Yq.grown g2 c<|by simp;omega
 have b5:=VZ S g3 c;have b6:=g4.grown c;have b7:=g5.grown S c;have hx:∀(W:World),W.ownsRow 0 _ 8 _ n xs->∀(j:Nat)(v:Value),(W.setCell ⟨a5,j,none⟩ v).ownsRow 0 59 8 _ n _:=λW hW j v=>ZJ hW λk hk=>Go.Deep.blk_setCell_other _ _ _ _<|by rintro rfl;exact i3 hk
 have hy:∀(W:World),St W b _ s deep (Zj<|Xu o ts.tail)->∀(j:Nat)(v:Value),St (W.setCell ⟨a5,j,none⟩ v) b pv s _ _:=λW hW j v=>St.kept hW<|Go.Deep.blk_setCell_other _ _ _ _ i2;obtain⟨g6,l⟩:∃W,W=((i6.setCell ⟨a5,0,none⟩<|E 2).setCell ⟨a5,2,none⟩<|E o).setCell ⟨a5,1,none⟩ (E nz):=⟨_,C⟩;have b8:=I l;have pA:=Yq.setK g 2;have pB:=Yq.setOp pA<|o;have pC:=Yq.setN pB nz;rw[<-l]at pC;have g8:Hid<|Yq _ _ {p with k:=2,op:=o,n:=nz}:=pC;have b9:Hid<|g6.ownsRow 0 _ 8 _ n _:=l▸hx _ (hx _ (hx _ b5 _ _) _ _) _ _;have c9:Hid<|St _ b _ s _ _:=l▸hy _ (hy _ (hy _ d _ _) _ _) _ _;have g9:Hid _:=l▸((b6.set a6 _).set a6 _).set a6 _;have i0:Hid<|PO _ p _:=l▸((b7.box g _ _).box pA _ _).box pB _ _;obtain⟨k0,k1,k2,k3,k4,k5,k6,k7⟩:=g.all;have f0:=g.frozen 0;have f1:=g.frozen 1;have f2:=g.frozen 2;obtain⟨m0,m1,m2,m3,m4,m5,m6,m7⟩:=Yq.all g8;clear d c g b5 b6 b7 hx hy pA pB pC l S g2 g3 g4 g5;go_wp2_with fail;clear k0 k1 k2 k3 k4 k5 k6 k7 f0 f1 f2 m0 m1 m2 m3 m4 m5 m6 m7;rw[<-b8];clear b8;refine(St.lay c9.out b9.out X {p with k:=2,op:=o,n:=nz}).mono ?_;rintro e i7 ⟨pv12,rfl,s12,o12,k12⟩;have HP:Hid<|Yi w b pv s deep xs M (ZR rec ts deep) n i7:=I (by
  refine Fj g9.out c9.out b9.out s12 o12 k12 (by rw[HI.out];exact i1.out) (by rw[HI.out]) ?_;intro t z e;rw[HI.out]at e;obtain⟨y,p0,y2,t3,z3,e1,e2,e3,e4,e5⟩:=f6.2 t z e;obtain⟨q1,q2,q3⟩:=i0.out _ _ e1 e2;have e6:=f5.2 t3 z3 e3 e4;have q2':p0=⟨1,0,0,bl p.nm,p0.kq,[]⟩:=q2;refine⟨_,e5,⟨C,e6,C,by rw[q2'],q3,[],?_,C⟩,?_,?_⟩
  .show g6.ownsRow 0 9 1 (.slice p.ba p.bn p.bc) 0 [];rw[q1];exact Xm _ _ _ _
  .show p.a=0;rw[q1]
  .show p.b=0;rw[q1]);clear s12 o12 k12;go_wp2;go_ret;exact⟨_,C,HP⟩
theorem St.setDeep(h:St w b pv s deep r)(d:Nat):St (w.setCell ⟨b,6,none⟩<|E d) b pv s d r:=by
 cases r with
 |error x=>
  obtain⟨q,a,c,g,i,e,f⟩:=h;exact⟨{q with deep:=d},a.set 6 _ C,c,C,i,e,f⟩
 |ok x=>
  obtain⟨⟨q,a,c,g,i,e,f,j⟩,_⟩:=h;exact⟨⟨{q with deep:=d},a.set 6 _ C,c,g,C,e,f,j⟩,trivial⟩
theorem St.deepCell(h:St w b pv s deep r):w.cell? ⟨b,6,none⟩=some (E deep)/\w.frozen? ⟨b,6,none⟩=false:=by
 obtain⟨q,a,_,hd,_⟩:=h.view;rw[<-hd];exact⟨a.all.2.2.2.2.2.2.1,a.frozen 6⟩
theorem Yi.redeep{g a:World}{d:Nat}{R:Yl Tr}(l:Yw b pv w pv g)(h:Yi g b pv s d xs M R i a):Yi w b pv s deep xs M R i<|a.setCell ⟨b,6,none⟩<|E deep:=by
 obtain⟨n',pv',ys,c,j,m,n,o⟩:=h.out;have f:a.grownBy (a.setCell ⟨b,6,none⟩<|E deep)<|some b:=Zn (Z2 _ _) (.inl C) _;obtain⟨q,p,_⟩:=c.view;refine⟨n',pv',ys,c.setDeep _,VZ c j f,(l.trans m).grown f,n,?_⟩;intro t z e;obtain⟨k,k1,k2,k3⟩:=o t z e;refine⟨k,k1,?_,k3⟩;have:=XF.kept p j ((Yw.refl b _ _).grown f) [] t k k2;rwa [V6]at this
def MK(f:FuncId):Prop:=∀(w:World)(b:Nat)(pv:Value)(e p deep:Nat),Yx w b pv e p deep->CP f #[Vp b] w λr w'=>r=.returned (E 0)/\w'=w
theorem We.of_ok(g:MK f)
 (h:∀(w:World)(b:Nat)(pv:Value)(deep:Nat)(ts:List Yg)(n:Nat)(xs:List Value)(M:Nat),St w b pv s deep (.ok ((),ts))->w.ownsRow 0 59 8 pv n xs->M<=6000->n+ts.length<=M->ts.length<=L->deep<=20->
  CP f #[Vp b] w λe u=>∃i:Int,e=.returned (E i)/\Yi w b pv s deep xs M (R ts deep) i u):We f s R L:=by
 intro w b pv deep r n xs M a c j d k l;cases r with
 |error x=>
  refine(g w b _ _ _ _ a).mono ?_;rintro e u ⟨rfl,rfl⟩;exact⟨0,C,Yi.error a c d⟩
 |ok x=>exact h w b _ _ _ n _ M a c j d (k _ C) l
theorem St.pos(h:St w b pv s deep<|.ok ((),ts)):0<ts.length:=by
 obtain⟨_,_,_,_,_,_,h,_⟩:=h.tok;omega
theorem We.zero(a:MK f):We f s R 0:=
 We.of_ok a λw b pv deep ts n xs M c _ _ _ d _=>absurd c.pos X
theorem fy(h:Qg t=true)(d:t.jj≠1)(a:Yk [45] t=false)(c:Yk [40] t=false):t.jj=2/\Yk UD t=false/\Yk UZ t=false:=by
 unfold Qg at h;rw[a,c]at h;have:(t.jj==1)=false:=by rwa [YB]
 rw[this]at h;simp at h;exact⟨h.1.1,h.1.2,h.2⟩
theorem qi (k:s.size<=5000)(D:We 242 s (λts d=>rec 3 ts d) L)(F:We 153 s (λts d=>rec 0 ts d) L)
 (h:St w b pv s deep<|.ok ((),ts))(x:Qg (hd ts)=true)(t:ts.length<=L+1)(a:w.ownsRow 0 59 8 pv n xs)(c:M<=6000)(f:n+ts.length<=M)(l:deep<=20):
 CP 270 #[Vp b,.bool<|Yk [45]<|hd ts,.bool<|Yk [40]<|hd ts] w λe u=>∃i:Int,e=.returned (E i)/\Yi w b pv s deep xs M (ZR rec ts deep) i u:=by
  have z:=yH X F;by_cases q:(hd ts).jj=1
  .exact rA h k q a c f
  · cases j:Yk [45]<|hd ts
    · cases m:Yk [40]<|hd ts
      .obtain⟨p,A,B⟩:=fy x q j m;cases r:Y7 (hd ts).txt Wu with
       |some g=>exact ru h k p j m r z t a c f l
       |none=>
        cases v:Y7 (hd ts).txt WN with
        |some o=>exact rD h k p j m r v _ a c f
        |none=>exact rC h k p j m r v (by unfold Qc;rw[r,v,A,B];rfl) _ a c f
      .exact rB h q j m z t a c f l
    .exact ry h k q j D t a c f l
theorem sf (hs:s.size<=5000)(T:We 242 s (λts d=>rec 3 ts d) L)(U:We 153 s (λts d=>rec 0 ts d) L):
 We 242 s (Ug rec)<|L+1:=by
  refine We.of_ok (λw b pv e p deep h=>Yx.factor h) ?_;intro w b pv deep ts n xs M h t hM hB hL a3;obtain⟨q,l,u,a4,F,G,a5,_⟩:=h.tok;obtain⟨c0,c1,c2,c3,c4,c5,c6,c7,c8⟩:=l.all;rw[G]at c6;rw[F]at c7;have a6:=l.lt;have fz6:=l.frozen 6;have HF:=I T;have HQ:=I U;have H:=I h;have P:=I t;obtain⟨x1,J⟩:∃x,((q.k:Int)==1)=x:=⟨_,C⟩;obtain⟨x2,K⟩:∃x,((q.k:Int)==2)=x:=⟨_,C⟩;have O:Hid<|Qg _=(x1||Yk _ _||Yk _ _||(x2&&!Yk _ _&&!Yk _ _)):=I<|by
   unfold Qg;have e1:((hd ts).jj==1)=x1:=by rw[<-J,<-(S5 u).1,Ud,XL,XL];omega
   have e2:((hd ts).jj==2)=x2:=by rw[<-K,<-(S5 u).1,Ud,XL,XL];omega
   rw[e1,e2]
  clear h t l u c0 c1 c2 c4 c5 c8 T U F G;go_enter func242,ntmps242;go_wp2_with fail;refine(St.is H _).mono ?_;rintro e w1 ⟨rfl,rfl⟩;go_wp2_with fail;refine(St.is H _).mono ?_;rintro e z ⟨rfl,rfl⟩;go_wp2_with fail;refine(St.is H _).mono ?_;rintro e w3 ⟨rfl,rfl⟩;go_wp2_with fail;refine(St.is H _).mono ?_;rintro e w4 ⟨rfl,rfl⟩;rw[show XR (bl ⟨#[111,114]⟩) _=Yk UD (hd ts)from C,show XR (bl ⟨#[98,121]⟩) _=Yk UZ (hd ts)from C,show XR (bl ⟨#[45]⟩) _=Yk [45] (hd ts)from C,show XR (bl _) _=Yk [40] (hd ts)from C];obtain⟨mi,m⟩:∃x,Yk [45] (hd ts)=x:=⟨_,C⟩;obtain⟨op,o⟩:∃x,Yk [40] (hd ts)=x:=⟨_,C⟩;have V:Hid<|Yk _ _=mi/\Yk _ _=op:=⟨m,o⟩;rw[m,o];have f:=O.out;rw[m,o]at f;obtain⟨sv,v⟩:∃x,Qg (hd ts)=x:=⟨_,C⟩;rw[v]at f;generalize Yk UD (hd ts)=vo at*;generalize Yk UZ (hd ts)=vb at*;have r:=I v;have a:=I f;clear m o v f O;go_upto_region 5 with fail;go_cut [7] (λs7 wx=>s7=.bool sv/\wx=w4);case first=>
   cases x1
   · cases mi
     · cases op
       · cases x2
         .go_wp2;go_meet;exact⟨by rw[a];rfl,C⟩
         · cases vo
           · cases vb
             .go_wp2;go_meet;exact⟨by rw[a];rfl,C⟩
             .go_wp2;go_meet;exact⟨by rw[a];rfl,C⟩
           .go_wp2;go_meet;exact⟨by rw[a];rfl,C⟩
       .go_wp2;go_meet;exact⟨by rw[a];rfl,C⟩
     .go_wp2;go_meet;exact⟨by rw[a];simp,C⟩
   .go_wp2;go_meet;exact⟨by rw[a];simp,C⟩
  case rest=>
  obtain⟨rfl,rfl⟩:=hcut;clear a J K c3;cases sv
  · have A:Hid<|Ug rec ts deep=.error (2,(hd ts).at_):=by unfold Ug;rw[r];rfl
    go_wp2_with fail;refine(St.fail H 2 _ C N).mono ?_;rintro e w5 ⟨rfl,g,c⟩;have Q:Hid<|Yi _ b _ s _ _ M _ 0 _:=A.out▸(Yi.error g (VZ H.out P.out c) X).pre ((Yw.refl _ _ _).grown c);clear g c;go_wp2;go_ret;exact⟨_,C,Q⟩
  · by_cases j:deep=20
    · have A:Hid<|Ug rec _ _=.error _:=I<|by unfold Ug;rw[r,Ye C,Ye j]
      have Y:((deep:Int)==20)=true:=by rw[j];rfl
      go_wp2_with fail;refine(St.fail H 3 _ C N).mono ?_;rintro e w5 ⟨rfl,g,c⟩;have Q:Hid<|Yi _ b _ s _ _ M _ 0 _:=A.out▸(Yi.error g (VZ H.out P.out c) X).pre ((Yw.refl _ _ _).grown c);clear g c;go_wp2;go_ret;exact⟨_,C,Q⟩
    · have A:Hid<|Ug _ _ _=ZR rec _ _:=I<|by unfold Ug;rw[r,Ye C,Yd j]
      have Y:((deep:Int)==20)=false:=by rw[YB];omega
      have R:deep+1<=20:=X;obtain⟨W,D⟩:∃W,W=wc.setCell ⟨b,6,none⟩ (E<|(deep+1:Nat)):=⟨_,C⟩;have c:wc.grownBy W<|some b:=D▸Zn (Z2 _ _) (Or.inl C) _;have Z:Hid<|St W b _ s _ _:=D▸St.setDeep H.out (deep+1);have a0:=I<|VZ H P c;have a1:Hid<|Yw b _ _ pv W:=(Yw.refl _ _ _).grown c;have HW:=I D;clear c D;go_wp2_with fail;clear c6 c7 fz6;rw[show wc.setCell _ _=W from by rw[HW];rfl];have B:=qi hs HF HQ Z r hL a0 hM hB R;rw[V.1,V.2]at B;refine B.mono ?_;rintro e w6 ⟨i,rfl,S⟩;have a2:Hid<|Yi _ b _ s deep _ M _ i _:=A.out▸Yi.redeep a1.out S;obtain⟨n6,pv6,ys6,s6,_⟩:=S.out;obtain⟨c6,fz6⟩:=s6.deepCell;clear S s6 B HW;have e19:((deep+1:Nat):Int)-1=deep:=X;go_wp2;go_ret;exact⟨_,C,a2⟩
def Vb(R:Yl Tr):Nat:=match R with
 |.error _=>0
 |.ok x=>x.2.length+1
theorem Gr{c d f:World}{pv1 pv4 pv5:Value}{n1 n4:Nat}{ys zs:List Value}{R2:Yl Tr}{i4:Int}{a:Tr}{kd op:Nat}
 (l:St c b pv1 s deep r1)(o1:c.ownsRow 0 59 8 pv1 n1<|xs++ys)(k1:Yw b pv w pv1 c)(m:∃k:Nat,i=k/\XF c (xs++ys) a k/\k+1=n1/\ys.length=8*Va a)
 (o:St d b pv4 s deep<|Zj R2)(o4:d.ownsRow 0 59 8 pv4 n4<|(xs++ys)++zs)(k4:Yw b pv1 c pv4 d)(q:Xq M (n4+1) R2)(r:∀t z,R2=.ok (t,z)->∃k:Nat,i4=k/\XF d ((xs++ys)++zs) t k/\k+1=n4/\zs.length=8*Va t)
 (u:St f b pv5 s deep<|Zj R2)(o5:f.ownsRow 0 59 8 pv5 (n4+1)<|((xs++ys)++zs)++p.cells)(k5:Yw b pv4 d pv5 f)
 (e1:p.k=kd)(e2:p.n=0)(e3:p.op=op)(e4:p.nm=⟨#[]⟩)(e5:(p.ca,p.cn,p.cc,p.ba,p.bn,p.bc)=(none,0,0,none,0,0))(e6:p.a=i)(e7:p.b=i4):
 Yi w b pv s deep xs M (bnd R2 λt z=>.ok (.node 0 0 (VM kd op) a t,z)) n4 f:=by
 have g:Zj (bnd R2 λt z=>(.ok (.node 0 0 (VM kd op) a t,z):Yl Tr))=Zj R2:=by
  cases R2 with
  |error e=>rfl
  |ok x=>rfl
 have ea:xs++(ys++zs++p.cells)=((xs++ys)++zs)++p.cells:=by simp[WV]
 refine⟨n4+1,pv5,ys++zs++p.cells,g▸u,ea▸o5,(k1.trans k4).trans k5,Xq.of_unit<|g▸Xq.unit q,?_⟩;intro t z e;obtain⟨t2,z2,q1,q2⟩:=Zw e;injection q2 with q2;injection q2 with q2 q3;subst q2;subst q3;obtain⟨kl,l1,l2,l3,l5⟩:=m;obtain⟨kr,m1,m2,m3,m5⟩:=r t2 z2 q1;obtain⟨qv,h,_⟩:=l.view;have l4:=XF.kept h o1 k4 zs a _ l2;have j:kl<=n4:=by
  have a1:=o1.1;have a4:=o4.1;rw[Yv]at a4;omega
 injection e5 with f1 f2;injection f2 with f2 f3;injection f3 with f3 f4;injection f4 with f4 f5;injection f5 with f5 f6;refine⟨n4,C,?_,C,by rw[Yv,Yv,l5,m5];show _+_+8=8*(Va a+Va t2+1);omega⟩;rw[ea];exact JB o o4 k5 p _ a _ _ _ ⟨e1,e2,e3,by rw[e4];rfl,ZP.nil _ _ _ f1 f2 f3,⟨[],by rw[f4,f5,f6];exact Xm _ _ _ _,C⟩⟩ (by rw[e6,l1]) (by rw[e7,m1]) j X l4 m2
theorem My(n lv:Nat)(a:Tr)(ts:List Yg)(deep:Nat):Zh (n+1) true lv a ts deep=match LS.opAt lv (hd ts)with
 |none=>.ok (a,ts)
 |some p=>bnd (Zh n false (lv+1) .nil ts.tail deep) λb r=>Zh n true lv (.node 0 0 (VM p.1 p.2) a b) r deep:=rfl
theorem Do{c d:LB}(a:Yk c t=true)(h:c≠d):Yk d t=false:=by
 cases hd:Yk d t
 .rfl
 .unfold Yk at a hd;simp only[Vu,XL]at a hd;exact absurd (a.2.symm.trans hd.2) h
theorem FE(t:Yg):LS.opAt 2 t=if Yk [42] t then some (4,2)else if Yk [47] t then some (4,3)else none:=rfl
theorem FD(t:Yg):LS.opAt 1 t=if Yk [43] t then some (4,0)else if Yk [45] t then some (4,1)else none:=rfl
theorem B4(t:Yg):LS.opAt 0 t=if Yk UD t then some (6,0)else none:=rfl
theorem gZ (hs:s.size<=5000)(hk:10*L+4<=k+1+2)(IH:∀j,j<=k->∀L',10*L'+4<=j+(2+1)->We 242 s (λts d=>Zh j false (2+1) .nil ts d) L'):
 We 214 s (λts d=>Zh (k+1) false 2 .nil ts d) L:=by
  refine We.of_ok (λw b pv e p deep h=>Yx.term h) ?_;intro w b pv deep ts n xs M h v hM hB hL G;have J:=I IH;have H:=I h;have HO:=I v;have A:Hid<|(bnd _ _)=Zh (k+1) false 2 .nil ts deep:=C;clear h v IH;go_enter func214,ntmps214;go_wp2_with fail;refine(J k (Yj _) L X w b _ _ _ n _ M H HO hM hB (λt e=>by injection e with e;injection e with _ e;subst e;exact hL) G).mono ?_;rintro e w1 ⟨i1,rfl,K⟩;have O:Hid<|Yi w b _ s _ _ M (Zh k _ _ _ _ _) _ _:=K;have P:Hid<|∀a r,Zh k false (2+1) .nil ts deep=.ok (a,r)->10*r.length+5<=k/\k<=k:=by
   intro a r e;have:=SW _ _ _ _ _ _ _ e;simp at this;omega
  obtain⟨Rf,B⟩:∃Rf,Rf=Zh (k+1) false 2 .nil ts deep:=⟨_,C⟩;have a3:=I B;rw[<-B]at A;clear B;generalize Zh k false (2+1) .nil ts deep=R0 at*;clear K H HO;go_wp2;go_loopg [3] (Vb R0) (λg v3 wr=>∃(i:Int)(R:Yl Tr)(m:Nat),v3=E i/\Hid (Yi w b pv s deep xs M R i wr)/\Hid ((bnd R λa r=>Zh m true 2 a r deep)=Rf)/\Hid (∀a r,R=.ok (a,r)->10*r.length+5<=m/\m<=k)/\Hid (g=Vb R));case atStart=>exact⟨i1,R0,k,C,O,A,P,C⟩
  case round=>
   obtain⟨i,R,m,rfl,HP,HE,HN,HG⟩:=hrel;clear O A P;obtain⟨n1,pv1,ys,s1,o1,k1,b1,r1⟩:=HP.out;have q:=I s1;have Q:=I o1;have a4:=I k1;have a5:=I b1;have a6:=I r1;clear s1 o1 k1 b1 r1;go_wp2_with fail;refine(St.is q _).mono ?_;rintro e o ⟨rfl,rfl⟩;go_wp2_with fail;refine(St.is q _).mono ?_;rintro e w2 ⟨rfl,rfl⟩;rw[show bl ⟨#[42]⟩=[42]from C,show bl _=[47]from C];have a2:((XR [42] (Zj R)=false/\XR [47] (Zj R)=false)/\(bnd R λa r=>Zh m true 2 a r deep)=R)∨(∃a r opn,R=.ok (a,r)/\((Yk [42] (hd r)=true/\Yk [47] (hd r)=false/\opn=2∨Yk [42] (hd r)=false/\Yk [47] (hd r)=true/\opn=3)/\LS.opAt 2 (hd r)=some (4,opn))):=by
    cases R with
    |error e=>exact .inl ⟨⟨C,C⟩,C⟩
    |ok x=>
     obtain⟨a,r⟩:=x;have hm:=HN a r C;obtain⟨m',rfl⟩:∃m',m=m'+1:=⟨m-1,X⟩;cases c:Yk [42]<|hd r
     · cases f:Yk [47]<|hd r
       .refine .inl ⟨⟨c,f⟩,?_⟩;show Zh (m'+1) true 2 a r deep=_;rw[My,FE,c,f];rfl
       .exact .inr ⟨a,r,3,C,.inr ⟨by first|rfl|exact c,by first|rfl|exact f,C⟩,by rw[FE,c,f];rfl⟩
     .have f:=Do (d:=[47]) c N;exact .inr ⟨a,r,2,C,.inl ⟨by first|rfl|exact c,f,C⟩,by rw[FE,c];rfl⟩
   rcases a2 with⟨S,D⟩|⟨a,r,opn,rfl,l,T⟩
   · have HF:Hid<|Yi w b pv s deep xs M Rf i w2:=by rwa [<-HE.out,D]
     clear D;rw[S.1,S.2];go_wp2;go_ret;exact⟨_,C,by rwa [<-a3.out]⟩
   · have hm:=HN a r C;obtain⟨m',rfl⟩:∃m',m=m'+1:=⟨m-1,X⟩;have b9:r.tail.length+1=r.length:=by rcases l with⟨h,_⟩|⟨_,h,_⟩<;>exact M6 h
     have a7:¬((hd r).jj=0∨(hd r).jj=5):=by rcases l with⟨h,_⟩|⟨_,h,_⟩<;>exact QC h
     obtain⟨R2,u⟩:∃R2,R2=Zh m' false (2+1) .nil r.tail deep:=⟨_,C⟩;have a8:=I u;have U:Hid<|(bnd (bnd R2 λt z=>(.ok (.node 0 0 (VM 4 opn) a t,z))) λa r=>Zh m' true 2 a r deep)=Rf:=by
      rw[<-HE,Ow];show _=Zh (m'+1) true 2 a r deep;rw[My,T,<-u];rfl
     have V:Hid<|∀t z,(bnd R2 λt z=>(.ok (.node 0 0 (VM 4 opn) a t,z):Yl Tr))=.ok (t,z)->10*z.length+5<=m'/\m'<=k:=by
      intro t z e;obtain⟨t2,z2,e1,e2⟩:=Zw e;injection e2 with e2;injection e2 with _ e2;subst e2;rw[u]at e1;have:=SW _ _ _ _ _ _ _ e1;simp at this;omega
     have W:Hid<|Vb (bnd R2 λt z=>(.ok (.node 0 0 (VM 4 opn) a t,z)))<Vb (.ok (a,r)):=by
      cases hR:R2 with
      |error e=>exact IC _
      |ok x=>
       rw[u]at hR;have:=SW _ _ _ _ _ _ _ hR;simp at this;show x.2.length+1<r.length+1;omega
     clear T u;obtain⟨R3,Y⟩:∃R3:Yl Tr,R3=bnd R2 λt z=>.ok (.node 0 0 (VM 4 opn) a t,z):=⟨_,C⟩;rw[<-Y]at U V W;rcases l with⟨c,f,rfl⟩|⟨c,f,rfl⟩;all_goals
      rw[show XR _ (Zj<|.ok (a,r))=_ from c,show XR _ (Zj<|.ok (a,r))=_ from f];go_wp2_with fail;refine(St.next q X ⟨r,C,a7⟩).mono ?_;rintro e w3 ⟨rfl,Z,hg⟩;have a9:Hid<|St _ b _ s _<|.ok _:=Z;have b0:=I<|VZ q Q hg;have b2:Hid<|Yw b _ _ pv1 _:=(Yw.refl _ _ _).grown hg;have c0:n1+r.length<=M:=a5;clear Z hg;go_wp2_with fail;refine(J m' X r.tail.length X _ b _ _ _ _ _ _ a9 b0 X (show n1+r.tail.length<=M-1 by omega) (λt e=>by injection e with e;injection e with _ e;subst e;exact Yj _) G).mono ?_;rintro e w4 ⟨i4,rfl,F⟩;rw[show(bnd (.ok ((),r.tail)) λ_ ts=>Zh _ _ _ _ ts _)=R2 from a8.symm]at F;obtain⟨n4,pv4,zs,s4,o4,k4,b4,r4⟩:=F.out;have b3:n4<=6000:=by have:=b4.le;omega
      have a0:=I s4;have a1:=I o4;have b5:=I<|b2.trans k4;have b6:=I b4;have b7:=I r4;clear F s4 o4 k4 b4 r4;go_wp2_with fail;refine(St.lay a0.out a1.out b3 ⟨4,0,_,⟨#[]⟩,none,0,0,none,0,0,i,i4⟩).mono ?_;rintro e w5 ⟨pv5,rfl,s5,o5,k5⟩;have b8:Hid<|Yi w b _ s _ _ M _ _ _:=Y▸Gr q.out Q.out a4.out (a6.out a r C) a0.out a1.out b5.out (Xq.up b6.out X) b7.out s5 o5 k5 C C C C C C C;clear s5 o5 k5;go_wp2;go_roundg (Vb R3);case measure=>rw[HG];exact W
      case rel=>exact⟨_,_,m',C,b8,U,V,C⟩
theorem fK (hs:s.size<=5000)(hk:10*L+4<=k+1+1)(IH:∀j,j<=k->∀L',10*L'+4<=j+(1+1)->We 214 s (λts d=>Zh j false (1+1) .nil ts d) L'):
 We 184 s (λts d=>Zh (k+1) false 1 .nil ts d) L:=by
  refine We.of_ok (λw b pv e p deep h=>Yx.sum h) ?_;intro w b pv deep ts n xs M h v hM hB hL G;have J:=I IH;have H:=I h;have HO:=I v;have A:Hid<|(bnd _ _)=Zh (k+1) false 1 .nil ts deep:=C;clear h v IH;go_enter func184,ntmps184;go_wp2_with fail;refine(J k (Yj _) L X w b _ _ _ n _ M H HO hM hB (λt e=>by injection e with e;injection e with _ e;subst e;exact hL) G).mono ?_;rintro e w1 ⟨i1,rfl,K⟩;have O:Hid<|Yi w b _ s _ _ M (Zh k _ _ _ _ _) _ _:=K;have P:Hid<|∀a r,Zh k false (1+1) .nil ts deep=.ok (a,r)->10*r.length+5<=k/\k<=k:=by
   intro a r e;have:=SW _ _ _ _ _ _ _ e;simp at this;omega
  obtain⟨Rf,B⟩:∃Rf,Rf=Zh (k+1) false 1 .nil ts deep:=⟨_,C⟩;have a3:=I B;rw[<-B]at A;clear B;generalize Zh k false (1+1) .nil ts deep=R0 at*;clear K H HO;go_wp2;go_loopg [3] (Vb R0) (λg v3 wr=>∃(i:Int)(R:Yl Tr)(m:Nat),v3=E i/\Hid (Yi w b pv s deep xs M R i wr)/\Hid ((bnd R λa r=>Zh m true 1 a r deep)=Rf)/\Hid (∀a r,R=.ok (a,r)->10*r.length+5<=m/\m<=k)/\Hid (g=Vb R));case atStart=>exact⟨i1,R0,k,C,O,A,P,C⟩
  case round=>
   obtain⟨i,R,m,rfl,HP,HE,HN,HG⟩:=hrel;clear O A P;obtain⟨n1,pv1,ys,s1,o1,k1,b1,r1⟩:=HP.out;have q:=I s1;have Q:=I o1;have a4:=I k1;have a5:=I b1;have a6:=I r1;clear s1 o1 k1 b1 r1;go_wp2_with fail;refine(St.is q _).mono ?_;rintro e o ⟨rfl,rfl⟩;go_wp2_with fail;refine(St.is q _).mono ?_;rintro e w2 ⟨rfl,rfl⟩;rw[show bl ⟨#[43]⟩=[43]from C,show bl _=[45]from C];have a2:((XR [43] (Zj R)=false/\XR [45] (Zj R)=false)/\(bnd R λa r=>Zh m true 1 a r deep)=R)∨(∃a r opn,R=.ok (a,r)/\((Yk [43] (hd r)=true/\Yk [45] (hd r)=false/\opn=0∨Yk [43] (hd r)=false/\Yk [45] (hd r)=true/\opn=1)/\LS.opAt 1 (hd r)=some (4,opn))):=by
    cases R with
    |error e=>exact .inl ⟨⟨C,C⟩,C⟩
    |ok x=>
     obtain⟨a,r⟩:=x;have hm:=HN a r C;obtain⟨m',rfl⟩:∃m',m=m'+1:=⟨m-1,X⟩;cases c:Yk [43]<|hd r
     · cases f:Yk [45]<|hd r
       .refine .inl ⟨⟨c,f⟩,?_⟩;show Zh (m'+1) true 1 a r deep=_;rw[My,FD,c,f];rfl
       .exact .inr ⟨a,r,1,C,.inr ⟨by first|rfl|exact c,by first|rfl|exact f,C⟩,by rw[FD,c,f];rfl⟩
     .have f:=Do (d:=[45]) c N;exact .inr ⟨a,r,0,C,.inl ⟨by first|rfl|exact c,f,C⟩,by rw[FD,c];rfl⟩
   rcases a2 with⟨S,D⟩|⟨a,r,opn,rfl,l,T⟩
   · have HF:Hid<|Yi w b pv s deep xs M Rf i w2:=by rwa [<-HE.out,D]
     clear D;rw[S.1,S.2];go_wp2;go_ret;exact⟨_,C,by rwa [<-a3.out]⟩
   · have hm:=HN a r C;obtain⟨m',rfl⟩:∃m',m=m'+1:=⟨m-1,X⟩;have b9:r.tail.length+1=r.length:=by rcases l with⟨h,_⟩|⟨_,h,_⟩<;>exact M6 h
     have a7:¬((hd r).jj=0∨(hd r).jj=5):=by rcases l with⟨h,_⟩|⟨_,h,_⟩<;>exact QC h
     obtain⟨R2,u⟩:∃R2,R2=Zh m' false (1+1) .nil r.tail deep:=⟨_,C⟩;have a8:=I u;have U:Hid<|(bnd (bnd R2 λt z=>(.ok (.node 0 0 (VM 4 opn) a t,z))) λa r=>Zh m' true 1 a r deep)=Rf:=by
      rw[<-HE,Ow];show _=Zh (m'+1) true 1 a r deep;rw[My,T,<-u];rfl
     have V:Hid<|∀t z,(bnd R2 λt z=>(.ok (.node 0 0 (VM 4 opn) a t,z):Yl Tr))=.ok (t,z)->10*z.length+5<=m'/\m'<=k:=by
      intro t z e;obtain⟨t2,z2,e1,e2⟩:=Zw e;injection e2 with e2;injection e2 with _ e2;subst e2;rw[u]at e1;have:=SW _ _ _ _ _ _ _ e1;simp at this;omega
     have W:Hid<|Vb (bnd R2 λt z=>(.ok (.node 0 0 (VM 4 opn) a t,z)))<Vb (.ok (a,r)):=by
      cases hR:R2 with
      |error e=>exact IC _
      |ok x=>
       rw[u]at hR;have:=SW _ _ _ _ _ _ _ hR;simp at this;show x.2.length+1<r.length+1;omega
     clear T u;obtain⟨R3,Y⟩:∃R3:Yl Tr,R3=bnd R2 λt z=>.ok (.node 0 0 (VM 4 opn) a t,z):=⟨_,C⟩;rw[<-Y]at U V W;rcases l with⟨c,f,rfl⟩|⟨c,f,rfl⟩;all_goals
      rw[show XR _ (Zj<|.ok (a,r))=_ from c,show XR _ (Zj<|.ok (a,r))=_ from f];go_wp2_with fail;refine(St.next q X ⟨r,C,a7⟩).mono ?_;rintro e w3 ⟨rfl,Z,hg⟩;have a9:Hid<|St _ b _ s _<|.ok _:=Z;have b0:=I<|VZ q Q hg;have b2:Hid<|Yw b _ _ pv1 _:=(Yw.refl _ _ _).grown hg;have c0:n1+r.length<=M:=a5;clear Z hg;go_wp2_with fail;refine(J m' X r.tail.length X _ b _ _ _ _ _ _ a9 b0 X (show n1+r.tail.length<=M-1 by omega) (λt e=>by injection e with e;injection e with _ e;subst e;exact Yj _) G).mono ?_;rintro e w4 ⟨i4,rfl,F⟩;rw[show(bnd (.ok ((),r.tail)) λ_ ts=>Zh _ _ _ _ ts _)=R2 from a8.symm]at F;obtain⟨n4,pv4,zs,s4,o4,k4,b4,r4⟩:=F.out;have b3:n4<=6000:=by have:=b4.le;omega
      have a0:=I s4;have a1:=I o4;have b5:=I<|b2.trans k4;have b6:=I b4;have b7:=I r4;clear F s4 o4 k4 b4 r4;go_wp2_with fail;refine(St.lay a0.out a1.out b3 ⟨4,0,_,⟨#[]⟩,none,0,0,none,0,0,i,i4⟩).mono ?_;rintro e w5 ⟨pv5,rfl,s5,o5,k5⟩;have b8:Hid<|Yi w b _ s _ _ M _ _ _:=Y▸Gr q.out Q.out a4.out (a6.out a r C) a0.out a1.out b5.out (Xq.up b6.out X) b7.out s5 o5 k5 C C C C C C C;clear s5 o5 k5;go_wp2;go_roundg (Vb R3);case measure=>rw[HG];exact W
      case rel=>exact⟨_,_,m',C,b8,U,V,C⟩
theorem je (hs:s.size<=5000)(hk:10*L+4<=k+1+0)(IH:∀j,j<=k->∀L',10*L'+4<=j+(0+1)->We 184 s (λts d=>Zh j false (0+1) .nil ts d) L'):
 We 153 s (λts d=>Zh (k+1) false 0 .nil ts d) L:=by
  refine We.of_ok (λw b pv e p deep h=>Yx.query h) ?_;intro w b pv deep ts n xs M h o hM hB hL D;have F:=I IH;have H:=I h;have W:=I o;have q:Hid<|(bnd _ _)=Zh (k+1) false 0 .nil ts deep:=C;clear h o IH;go_enter func153,ntmps153;go_wp2_with fail;refine(F k (Yj _) L X w b _ _ _ n _ M H W hM hB (λt e=>by injection e with e;injection e with _ e;subst e;exact hL) D).mono ?_;rintro e w1 ⟨i1,rfl,G⟩;have J:Hid<|Yi w b _ s _ _ M (Zh k _ _ _ _ _) _ _:=G;have K:Hid<|∀a r,Zh k false (0+1) .nil ts deep=.ok (a,r)->10*r.length+5<=k/\k<=k:=by
   intro a r e;have:=SW _ _ _ _ _ _ _ e;simp at this;omega
  obtain⟨Rf,u⟩:∃Rf,Rf=Zh (k+1) false 0 .nil ts deep:=⟨_,C⟩;have Y:=I u;rw[<-u]at q;clear u;generalize Zh k false (0+1) .nil ts deep=R0 at*;clear G H W;go_wp2;go_loopg [3] (Vb R0) (λg v3 wr=>∃(i:Int)(R:Yl Tr)(m:Nat),v3=E i/\Hid (Yi w b pv s deep xs M R i wr)/\Hid ((bnd R λa r=>Zh m true 0 a r deep)=Rf)/\Hid (∀a r,R=.ok (a,r)->10*r.length+5<=m/\m<=k)/\Hid (g=Vb R));case atStart=>exact⟨i1,R0,k,C,J,q,K,C⟩
  case round=>
   obtain⟨i,R,m,rfl,HP,Z,HN,HG⟩:=hrel;clear J q K;obtain⟨n1,pv1,ys,s1,o1,k1,b1,r1⟩:=HP.out;have l:=I s1;have O:=I o1;have a0:=I k1;have a1:=I b1;have a2:=I r1;clear s1 o1 k1 b1 r1;go_wp2_with fail;refine(St.is l _).mono ?_;rintro e w2 ⟨rfl,rfl⟩;rw[show bl _=UD from C];have U:(XR UD (Zj R)=false/\(bnd R λa r=>Zh m true 0 a r deep)=R)∨(∃a r opn,R=.ok (a,r)/\(Yk UD (hd r)=true/\opn=0)/\LS.opAt 0 (hd r)=some (6,opn)):=by
    cases R with
    |error e=>exact .inl ⟨C,C⟩
    |ok x=>
     obtain⟨a,r⟩:=x;have hm:=HN a r C;obtain⟨m',rfl⟩:∃m',m=m'+1:=⟨m-1,X⟩;cases B:Yk UD<|hd r
     .refine .inl ⟨B,?_⟩;show Zh (m'+1) true 0 a r deep=_;rw[My,B4,B];rfl
     .exact .inr ⟨a,r,0,C,⟨by first|rfl|exact B,C⟩,by rw[B4,B];rfl⟩
   rcases U with⟨a3,v⟩|⟨a,r,opn,rfl,⟨c,rfl⟩,P⟩
   · have HF:Hid<|Yi w b pv s deep xs M Rf i w2:=by rwa [<-Z.out,v]
     clear v;rw[a3];go_wp2;go_ret;exact⟨_,C,by rwa [<-Y.out]⟩
   · have hm:=HN a r C;obtain⟨m',rfl⟩:∃m',m=m'+1:=⟨m-1,X⟩;have b9:=M6 c;have a4:=QC c;obtain⟨R2,f⟩:∃R2,R2=Zh m' false (0+1) .nil r.tail deep:=⟨_,C⟩;have a5:=I f;have a6:Hid<|(bnd (bnd R2 λt z=>(.ok (.node 0 0 (VM 6 0) a t,z))) λa r=>Zh m' true 0 a r deep)=Rf:=by
       rw[<-Z,Ow];show _=Zh (m'+1) true 0 a r deep;rw[My,P,<-f];rfl
     have a7:Hid<|∀t z,(bnd R2 λt z=>(.ok (.node 0 0 (VM 6 0) a t,z):Yl Tr))=.ok (t,z)->10*z.length+5<=m'/\m'<=k:=by
      intro t z e;obtain⟨t2,z2,e1,e2⟩:=Zw e;injection e2 with e2;injection e2 with _ e2;subst e2;rw[f]at e1;have:=SW _ _ _ _ _ _ _ e1;simp at this;omega
     have a8:Hid<|Vb (bnd R2 λt z=>(.ok (.node 0 0 (VM 6 0) a t,z)))<Vb (.ok (a,r)):=by
      cases hR:R2 with
      |error e=>exact IC _
      |ok x=>
       rw[f]at hR;have:=SW _ _ _ _ _ _ _ hR;simp at this;show x.2.length+1<r.length+1;omega
     clear P f;rw[show XR _ (Zj<|.ok (a,r))=true from c];go_wp2_with fail;refine(St.next l X ⟨r,C,a4⟩).mono ?_;rintro e w3 ⟨rfl,Q,V⟩;have a9:Hid<|St _ b _ s _<|.ok _:=Q;have b0:=I<|VZ l O V;have b2:Hid<|Yw b _ _ pv1 _:=(Yw.refl _ _ _).grown V;have c0:n1+r.length<=M:=a1;clear Q V;go_wp2_with fail;refine(F m' X r.tail.length X _ b _ _ _ _ _ _ a9 b0 X (show n1+r.tail.length<=M-1 by omega) (λt e=>by injection e with e;injection e with _ e;subst e;exact Yj _) D).mono ?_;rintro e w4 ⟨i4,rfl,A⟩;rw[show(bnd (.ok ((),r.tail)) λ_ ts=>Zh _ _ _ _ ts _)=R2 from a5.symm]at A;obtain⟨n4,pv4,zs,s4,o4,k4,b4,r4⟩:=A.out;have b3:n4<=6000:=by have:=b4.le;omega
     have S:=I s4;have T:=I o4;have b5:=I<|b2.trans k4;have b6:=I b4;have b7:=I r4;clear A s4 o4 k4 b4 r4;go_wp2_with fail;refine(St.lay S.out T.out b3 ⟨6,0,0,⟨#[]⟩,none,0,0,none,0,0,i,i4⟩).mono ?_;rintro e w5 ⟨pv5,rfl,s5,o5,k5⟩;have b8:Hid<|Yi w b _ s _ _ M (bnd R2 λt z=>(.ok (.node 0 0 (VM 6 0) a t,z))) _ _:=I<|Gr l O a0 (a2 a r C) S T b5 (Xq.up b6 X) b7 s5 o5 k5 C C C C C C C;clear s5 o5 k5;go_wp2;go_roundg (Vb<|bnd R2 λt z=>(.ok (.node 0 0 (VM 6 0) a t,z):Yl Tr));case measure=>rw[HG];exact a8
     case rel=>exact⟨_,_,m',C,b8,a6,a7,C⟩
theorem lk(f:s.size<=5000):∀(k:Nat),∀j,j<=k->
 (∀L,10*L+4<=j+3->We 242 s (λts d=>Zh j false 3 .nil ts d) L)/\(∀L,10*L+4<=j+2->We 214 s (λts d=>Zh j false 2 .nil ts d) L)/\
 (∀L,10*L+4<=j+1->We 184 s (λts d=>Zh j false 1 .nil ts d) L)/\(∀L,10*L+4<=j->We 153 s (λts d=>Zh j false 0 .nil ts d) L):=by
 intro k;induction k with
 |zero=>
  intro j a;have:j=0:=X;subst this;exact⟨λL h=>absurd h X,λL h=>absurd h X,λL h=>absurd h X,λL h=>absurd h X⟩
 |succ k ih=>
  intro j a;by_cases g:j<=k
  .exact ih j g
  .have:j=k+1:=X;subst this;refine⟨?_,?_,?_,?_⟩
   .intro L h;cases L with
    |zero=>exact We.zero λw b pv e p deep h=>Yx.factor h
    |succ L=>exact sf f ((ih k<|Yj _).1 L X)<|(ih k<|Yj _).2.2.2 L X
   .intro L h;exact gZ f X λj a L' c=>(ih j a).1 _ c
   .intro L h;exact fK f X λj a L' c=>(ih j a).2.1 _ c
   .intro L h;exact je f X λj a L' c=>(ih j a).2.2.1 _ c
theorem jd(a:s.size<=5000):We 153 s (λts d=>Zh (10*L+5) false 0 .nil ts d) L:=(lk a _ _<|Yj _).2.2.2 L X

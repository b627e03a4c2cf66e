/- Parts. -/
import Derived.Test.YtmfnolgpaoldpaaGreatDoorW09
import Derived.Lib.SplitLaws
set_option linter.all false
set_option maxRecDepth 100000
set_option maxHeartbeats 16000000
namespace Go.Proofs.YtmfnolgpaoldpaaGreatDoor
open Go.RowKit LS Go.Proofs.Tryz
theorem XF.at{w:World}{pv:Value}{n:Nat}{xs:List Value}(d:w.ownsRow 0 59 8 pv n xs){x y:Nat}{nd:Nd}{l r:Tr}{i:Nat}(h:XF w xs (.node x y nd l r) i):
 ∃(g cp:Nat)(p:PV)(a c:Nat),pv=.slice (some ⟨g,0,none⟩) n cp/\g<w.heap.size/\i<n/\LF w nd p/\p.a=a/\p.b=c/\XF w xs l a/\XF w xs r c/\
  w.cell? ⟨g,i*8,none⟩=some (E p.k)/\w.cell? ⟨g,i*8+1,none⟩=some (E p.n)/\w.cell? ⟨g,i*8+2,none⟩=some (E p.op)/\w.cell? ⟨g,i*8+3,none⟩=some (.string p.nm)/\
  w.cell? ⟨g,i*8+4,none⟩=some (.slice p.ca p.cn p.cc)/\w.cell? ⟨g,i*8+5,none⟩=some (.slice p.ba p.bn p.bc)/\w.cell? ⟨g,i*8+6,none⟩=some (E p.a)/\w.cell? ⟨g,i*8+7,none⟩=some (E p.b):=by
 obtain⟨p,a,c,m,q,s,t,_,_,u,z⟩:=h;have f:=congrArg List.length m;rw[Oy,Xw,Ur,d.1]at f;have A:i<n:=X;obtain⟨g,cp,rfl⟩:=Zm d X;have e:∀j v,j<8->p.cells[j]?=some v->w.cell? ⟨g,i*8+j,none⟩=some v:=by
  intro j v B o;refine Zc d _ _ ?_;rw[<-m,Kj,Ye B,Kk]at o;exact o
 exact⟨g,cp,p,a,c,C,ZN d,A,q,s,t,u,z,e 0 _ N C,e 1 _ N C,e 2 _ N C,e 3 _ N C,e 4 _ N C,e 5 _ N C,e 6 _ N C,e 7 _ N C⟩
theorem PK.below{w w':World}{base:Nat}{p:PV}{ns:List<|LB}(h:PK w base p ns)(a:BW w w'):PK w' base p ns:=by
 obtain⟨bs,c,d⟩:=h;exact⟨bs,Ze c a,d⟩
theorem ZP.below{w w':World}{base:Nat}{p:PV}{ns:List<|LB×LB×Bool}(h:ZP w base p ns)(a:BW w w'):ZP w' base p ns:=by
 obtain⟨bs,c,d⟩:=h;exact⟨bs,Ze c a,d⟩
theorem XF.below{w w':World}{xs:List Value}(a:BW w w'):∀(t:Tr)(i:Nat),XF w xs t i->XF w' xs t i
 |.nil,_,_=>trivial
 |.node _ _ nd l r,i,h=>by
  obtain⟨p,u,c,d,⟨g1,g2,g3,g4,g5,g6⟩,e,f,g,j,k,m⟩:=h;exact⟨p,u,c,d,⟨g1,g2,g3,g4,g5.below a,g6.below a⟩,e,f,g,j,XF.below a l u k,XF.below a r c m⟩
theorem La(t:Tr):Zq t<=2:=by
 cases t with
 |nil=>decide
 |node x y a l r=>
  unfold Zq;have c:=La l;split
  .decide
  .split
   .decide
   .split
    .exact c
    .split
     .split<;>decide
     .split
      .decide
      .split<;>decide
structure U5 (w:World)(b:Nat)(pv:Value)(n:Nat)(xs:List Value):Prop where
 cell:w.cell? ⟨b,0,none⟩=some pv
 own:w.ownsRow 0 59 8 pv n xs
theorem U5.below{w w':World}{b:Nat}{pv:Value}{n:Nat}{xs:List Value}(h:U5 w b pv n xs)(a:BW w w'):U5 w' b pv n xs:=
 ⟨(a.cell<|Xi _ _ h.cell).trans h.cell,Ze h.own a⟩
theorem iO(b:Nat)(pv:Value)(n:Nat)(xs:List Value):∀(t:Tr)(i:Nat)(w:World),V1 t->isNil t=false->U5 w b pv n xs->XF w xs t i->
 CP 155 #[Vp b,E i] w λe u=>e=.returned (E<|Zq t)/\BW w u:=by
 intro t;induction t with
 |nil=>intro i w _ h;cases h
 |node x y nd l r R S=>
  intro i w J _ q K;obtain⟨g,cp,p,a,c,rfl,a8,hi,hp,O,P,T,U,c0,c1,c2,c3,c4,c5,c6,c7⟩:=XF.at q.own K;have a6:=q.cell;have a7:=I q;obtain⟨W,Q⟩:∃W,W=w.alloc (.cells #[E p.k,E p.n,E p.op,.string p.nm,.slice p.ca p.cn p.cc,.slice p.ba p.bn p.bc,E p.a,E p.b] 59):=⟨_,C⟩;have D:Below _ w W:=Q▸Yc;have v:=I Q;have HP:Hid<|Yq W _ p:=Q▸Go.Deep.blk_alloc_new _ _;have G:=I<|q.below D;have HL:=I<|XF.below D l a T;have HR:=I<|XF.below D r c U;have A:=I D;have V:=hp.1;have m:=I J;have a9:=J.1;have F:=I R;have Y:=I S;rw[O,P]at v;rw[O]at c6;rw[P]at c7;have HA:Hid<|p.a=a/\p.b=c:=⟨O,P⟩;have s:=I V;clear O P V hp q K Q D T U J R S;have h7:nd.jj=0∨nd.jj=1∨nd.jj=2∨nd.jj=3∨nd.jj=5∨(nd.jj=4∨nd.jj=6):=X;rcases h7 with f|f|f|f|f|f
  .have o:Hid<|Zq (.node x y _ l r)=1:=I<|by unfold Zq;rw[Ye f]
   have d:p.k=0:=by rw[s,f];rfl
   rw[d]at c0 v;clear d;go_enter func155,ntmps155;go_wp2;go_ret;rw[o];exact⟨C,Yc⟩
  .have o:Hid<|Zq (.node x y nd l r)=2:=I<|by unfold Zq;rw[Yd X,Ye<|Or.inl f]
   have d:p.k=1:=by rw[s,f];rfl
   rw[d]at c0 v;clear d;go_enter func155,ntmps155;go_wp2;go_ret;rw[o];exact⟨C,Yc⟩
  .have o:Hid<|Zq (.node x y nd l r)=2:=I<|by unfold Zq;rw[Yd X,Ye<|Or.inr f]
   have d:p.k=2:=by rw[s,f];rfl
   rw[d]at c0 v;clear d;go_enter func155,ntmps155;go_wp2;go_ret;rw[o];exact⟨C,Yc⟩
  .have o:Hid<|Zq (.node x y nd l r)=Zq l:=I<|by rw[Zq];rw[Yd X,Yd X,Ye f]
   have d:p.k=3:=by rw[s,f];rfl
   rw[d]at c0 v;clear d;go_enter func155,ntmps155;go_wp2_with fail;rw[<-v];refine(F a W m.2.2.2.2.2.2.2.2.2.2.1 (m.2.2.2.2.2.2.1 X) G HL).mono ?_;rintro e w1 ⟨rfl,j⟩;have B:=I<|A.trans<|j.mono A.size;clear j;go_wp2;go_ret;rw[o];exact⟨C,B⟩
  .have o:Hid<|Zq (.node x y nd l r)=if Zq l=2 then 2 else 0:=I<|by rw[Zq];rw[Yd X,Yd X,Yd X,Ye f]
   have d:p.k=5:=by rw[s,f];rfl
   rw[d]at c0 v;clear d;go_enter func155,ntmps155;go_wp2_with fail;rw[<-v];refine(F a W m.2.2.2.2.2.2.2.2.2.2.1 (m.2.2.2.2.2.2.1 X) G HL).mono ?_;rintro e w1 ⟨rfl,j⟩;have B:=I<|A.trans<|j.mono A.size;clear j;have Z:=La l;generalize Zq l=ka at*;have h3:ka=0∨ka=1∨ka=2:=X;clear F;rcases h3 with rfl|rfl|rfl;all_goals
    go_wp2;go_ret;rw[o];exact⟨C,B⟩
  .have o:Hid<|Zq (.node x y nd l r)=if Zq l=0∨Zq r=0∨(nd.jj=6/\Zq l+Zq r≠4)then 0 else if Zq l+Zq r=2 then 1 else 2:=I<|by rw[Zq];rw[Yd X,Yd X,Yd X,Yd X]
   have H:Hid<|isNil l=false/\isNil r=false/\V1 l/\V1 r:=⟨m.2.2.2.2.2.2.1 X,m.2.2.2.2.2.2.2.1 f,m.2.2.2.2.2.2.2.2.2.2.1,m.2.2.2.2.2.2.2.2.2.2.2⟩;rcases f with f|f;all_goals
    first
     |have d:p.k=4:=by rw[s.out,f];rfl
     |have d:p.k=6:=by rw[s.out,f];rfl
    rw[f]at o;rw[d]at c0 v;go_enter func155,ntmps155;go_wp2_with fail;rw[<-v];refine(F a W H.2.2.1 H.1 G HL).mono ?_;rintro e w1 ⟨rfl,j⟩;have B:=I<|A.trans<|j.mono A.size;have L:=I<|Yq.kept HP<|j.block _<|Yq.lt HP;have a0:=I<|XF.below j r c HR;have a1:=I<|G.below j;have a2:=B.size;obtain⟨k0,k1,k2,k3,k4,k5,k6,k7⟩:=Yq.all L;rw[d]at k0;rw[HA.1]at k6;rw[HA.2]at k7;clear j;go_wp2_with fail;clear k0 k1 k2 k3 k4 k5 k6 k7;refine(Y c _ H.2.2.2 H.2.1 a1 a0).mono ?_;rintro e z ⟨rfl,M⟩;have a3:=I<|B.trans<|M.mono a2;have a4:=I<|Yq.kept L<|M.block _<|Yq.lt L;obtain⟨k0,k1,k2,k3,k4,k5,k6,k7⟩:=Yq.all a4;rw[d]at k0;clear M;have Z:=La l;have a5:=La r;generalize Zq l=ka at*;generalize Zq r=kb at*;have h3:ka=0∨ka=1∨ka=2:=X;have h4:kb=0∨kb=1∨kb=2:=X;clear F Y Z a5;rcases h3 with rfl|rfl|rfl<;>rcases h4 with rfl|rfl|rfl;all_goals
     go_wp2;go_ret;rw[o.out];exact⟨C,a3.out⟩
def E8(w:World)(b:Nat)(t:Tr):Prop:=∃(pv:Value)(n:Nat)(xs:List Value),U5 w b pv (n+1) xs/\n+1<=301/\XF w xs t n/\V1 t/\isNil t=false/\wT t<=100000/\n+1=Va t
theorem KM(l:LB)(a:l.length<=300):∀(n i:Nat),tw (Z7 l n i)<=332*(Z7 l n i).length
 |0,_=>Yj _
 |n+1,i=>by
  have c:=Ly l i;have d:=KM l a n (Zg l i).2;unfold Z7;split
  .simp[tw];omega
  .simp[tw];omega
theorem su{w:World}{b:Nat}{q:QV}(h:YN w b q)(d:q.s.size<=6000)(f:q.at_=0)(g:q.e=0):
 CP 152 #[Vp b] w λr u=>r=.returned (.tuple #[])/\St u b q.pv q.s q.deep (.ok ((),Z7 (bl q.s) ((bl q.s).length+1) 0))/\w.grownBy u (some b):=by
 refine(Ak w b q h d X).mono ?_;rintro r u ⟨rfl,⟨tx,a,c⟩,i⟩;rw[f]at c a;refine⟨C,⟨⟨_,c,C,C,C,g,?_,?_⟩,trivial⟩,i⟩
 .have:=(Nw (bl q.s) 0<|Yr _).2;rw[Zb]at this;exact this
 .have e:S4 {q with at_:=(Zg (bl q.s) 0).2,k:=(Zg (bl q.s) 0).1.jj,tx:=tx,ta:=(Zg (bl q.s) 0).1.at_}=(Zg (bl q.s) 0).1:=by
   show(⟨_,bl tx,_⟩:Yg)=_;rw[a]
  rw[e];exact XB.start _
theorem gB{s:BA}{w:World}(d9:s.size<=9223372036854775807):
 CP 106 #[.string s] w λe u=>(∃(v:Value)(c p:Nat),e=.returned (.tuple #[v,E c,E p])/\
  Hid ((∀x,Z5 (bl s)=.error x->c=x.1/\p=x.2/\c≠0/\v=.pointer none)/\(∀t,Z5 (bl s)=.ok t->c=0/\p=0/\∃b,v=Vp b/\w.heap.size<=b/\E8 u b t)))/\BW w u:=by
 by_cases hl:300<s.size
 .have HR:Hid<|Z5 _=.error _:=I<|by unfold Z5;rw[Zb,Ye hl]
  have hd:(300:Int)<s.size:=X;go_enter func106,ntmps106;go_wp2;go_ret3;refine⟨⟨_,1,0,C,⟨λx Z=>?_,λt d=>?_⟩⟩,Ym _ _⟩
  .rw[HR]at Z;injection Z with Z;subst Z;exact⟨C,C,N,C⟩
  .rw[HR]at d;cases d
 .have e4:s.size<=300:=X;have hd:¬((300:Int)<s.size):=X;obtain⟨ts,n⟩:∃ts,ts=Z7 (bl s) ((bl s).length+1) 0:=⟨_,C⟩;have e0:ts.length<=301:=by
   have:=Lc (bl s) ((bl s).length+1) 0<|Yr _;rw[<-n,Zb]at this;omega
  have e5:tw ts<=100000:=by
   have:=KM _ (by rwa [Zb]) ((bl s).length+1) 0;rw[<-n]at this;omega
  have m:Hid<|Z5 (bl s)=match Zh (10*ts.length+5) false 0 .nil ts 0 with
   |.error e=>.error e
   |.ok (t,r)=>if(LS.hd r).jj=0 then(if Zq t=0 then .error (4,0)else .ok t)else .error (2,(LS.hd r).at_):=by
   unfold Z5;rw[Zb,Yd hl,<-Zb,<-n];cases Zh (10*ts.length+5) false 0 .nil ts 0 with
   |error e=>rfl
   |ok x=>rfl
  have a1:=I n;clear n;obtain⟨R,hR⟩:∃R,R=Zh (10*ts.length+5) false 0 .nil ts 0:=⟨_,C⟩;have a2:=I hR;rw[<-hR]at m;clear hR;have b4:Hid<|∀W:World,YN (W.alloc<|.cells #[S0,.string s,.int _ 0,.int _ 0,.string ⟨#[]⟩,.int _ 0,.int _ 0,.int _ 0,.int _ 0] _) _ ⟨.slice _ 0 0,s,0,0,⟨#[]⟩,0,0,0,0⟩:=λW=>Go.Deep.blk_alloc_new _ _;go_enter func106,ntmps106;go_wp2_with fail;refine(su (b4 w) (by show s.size<=6000;omega) C C).mono ?_;rintro e w1 ⟨rfl,F,f⟩;have a3:Hid<|St w1 w.heap.size S0 s 0<|.ok ((),ts):=by rwa [a1.out]
  have M:Hid<|Below _ w _:=⟨f.os,f.tape,f.output,by have:=f.size;rw[Go.Deep.nblk_alloc]at this;omega,λk hk=>(f.block k (by rw[Go.Deep.nblk_alloc];omega)<|by simp;omega).trans<|Go.Deep.blk_alloc_lt _ _ _ hk⟩;clear F f a1;go_wp2_with fail;refine(jd X _ _ _ 0 _ 0 _ _ a3 (Xm _ _ _ _) X (show 0+ts.length<=ts.length by omega) (λt e=>by injection e with e;injection e with _ e;subst e;exact Yj _) X).mono ?_;rintro e z ⟨i,rfl,hp⟩;rw[show(bnd (.ok ((),ts)) λ_ ts'=>Zh (10*ts.length+5) false 0 .nil ts' 0)=R from a2.symm]at hp;obtain⟨n2,pv2,ys,s2,o2,k2,b2,r2⟩:=hp.out;rw[O8]at o2 r2;have G:=I s2;have a4:=I o2;have O:=I<|M.trans ⟨k2.os,k2.tape,k2.output,k2.size,λk hk=>k2.block k (by have:=M.size;omega) X<|by simp[Value.ownBlock]⟩;have b5:Hid<|n2<=301:=I<|by have:=b2.le;omega
  have H:=I r2;have e6:w.heap.size<z.heap.size:=G.lt;clear hp s2 o2 k2 b2 r2 M a3;obtain⟨q,hq,a5,_,P,Q⟩:=St.view G.out;obtain⟨c0,c1,c2,c3,c4,c5,c6,c7,c8⟩:=hq.all;cases l:R with
  |error x=>
   have g:Hid<|Z5 (bl s)=.error x:=I<|by rw[m.out,l]
   obtain⟨e1,e2,e3⟩:=P x<|by rw[l];rfl
   have a6:((q.e:Int)==0)=false:=by rw[YB];omega
   have a7:((q.e:Int) !=0)=true:=by rw[Vg];omega
   have D:Hid<|q.e=x.1/\q.e≠0/\q.pl=x.2:=⟨e1,e2,e3⟩;clear e1 e2 e3 P Q hq l m H;go_wp2;go_region;all_goals
    go_wp2;go_ret3;refine⟨⟨_,q.e,q.pl,C,⟨λy a=>?_,λt d=>?_⟩⟩,Wn O 1⟩
    .rw[g]at a;injection a with a;subst a;exact⟨D.1,D.2.2,D.2.1,C⟩
    .rw[g.out]at d;cases d
  |ok x=>
   obtain⟨t,r⟩:=x;rw[l]at G H m;obtain⟨k,b6,S,a8,b7⟩:=H.out t r C;have b8:Hid<|k+1=Va t:=I<|by have:=a4.1;omega
   clear b7;obtain⟨e1,e2⟩:=Q ((),r)<|by rw[l];rfl
   obtain⟨f1,f2,f3⟩:=NA _ false _ _ _ _ _ (λh=>(by cases h))<|a2.symm.trans l;have a6:((q.e:Int)==0)=true:=by rw[e1];rfl
   have T:Hid<|V1 t/\isNil t=false/\wT t<=100000:=⟨f1,f2,by simp at f3;omega⟩;have J:q.k=(LS.hd r).jj:=(S5 e2).1;have U:=I S;have a9:Hid<|U5 _ _ _ (k+1) _:=⟨by rw[c0,a5],by rwa [a8]⟩;have b9:k+1<=301:=by rwa [a8]
   clear P Q hq S f1 f2 f3 e1 e2 l H a5 b5 a4;subst b6;by_cases o:(LS.hd r).jj=0
   .have c9:((q.k:Int) !=0)=false:=by rw[J,o];rfl
    have a7:((q.e:Int) !=0)=false:=by
     have:(q.e:Int)=0:=by simpa using a6
     rw[this];rfl
    have g:Hid<|Z5 (bl s)=if Zq t=0 then .error (4,0)else .ok t:=by rw[m];show(if(LS.hd r).jj=0 then _ else _)=_;rw[Ye o]
    clear o J;go_wp2_with fail;refine(iO _ _ _ _ t k _ T.1 T.2.1 a9 U).mono ?_;rintro e w3 ⟨rfl,K⟩;have b3:=I<|a9.below K;have a0:=I<|XF.below K t k U;have L:=I<|O.trans<|K.mono X;clear K;have b0:=La t;by_cases A:Zq t=0
    .have V:((Zq t:Int)==0)=true:=by rw[A];rfl
     have B:Hid<|Z5 _=.error _:=I<|by rw[g,Ye A]
     generalize Zq t=kt at V b0⊢;clear A;go_wp2;go_ret3;refine⟨⟨_,4,0,C,⟨λy a=>?_,λt' d=>?_⟩⟩,L⟩
     .rw[B]at a;injection a with a;subst a;exact⟨C,C,N,C⟩
     .rw[B]at d;cases d
    .have V:((Zq t:Int)==0)=false:=by rw[YB];omega
     have B:Hid<|Z5 _=.ok t:=I<|by rw[g,Yd A]
     generalize Zq t=kt at V b0⊢;clear A;go_wp2;go_ret3;refine⟨⟨_,0,0,C,⟨λy a=>?_,λt' d=>?_⟩⟩,L⟩
     .rw[B]at a;cases a
     .rw[B]at d;injection d with d;subst d;exact⟨C,C,w.heap.size,C,Yj _,pv2,k,ys,b3,b9,a0,T.1,T.2.1,T.2.2,b8⟩
   .have c9:((q.k:Int) !=0)=true:=by rw[J,Vg];omega
    have g:Hid<|Z5 (bl s)=.error (2,(LS.hd r).at_):=by rw[m];show(if(LS.hd r).jj=0 then _ else _)=_;rw[Yd o]
    clear o J;go_wp2_with fail;refine(St.fail G 2 _ C N).mono ?_;rintro e w3 ⟨rfl,F,f⟩;obtain⟨q3,b1,_,_,Y,_⟩:=St.view F;obtain⟨g1,g2,g3⟩:=Y _ C;obtain⟨d0,d1,d2,d3,d4,d5,d6,d7,d8⟩:=b1.all;have a7:((q3.e:Int) !=0)=true:=by rw[Vg];omega
    have D:Hid<|q3.e=2/\q3.pl=(LS.hd r).at_:=⟨g1,g3⟩;have L:=I<|O.trans ⟨f.os,f.tape,f.output,f.size,λj hj=>f.block j X<|by simp;omega⟩;clear F f b1 Y g1 g2 g3 c0 c1 c2 c3 c4 c5 c6 c7 c8;go_wp2;go_region;all_goals
     go_wp2;go_ret3;refine⟨⟨_,q3.e,q3.pl,C,⟨λy a=>?_,λt d=>?_⟩⟩,Wn L 1⟩
     .rw[g]at a;injection a with a;subst a;exact⟨D.1,D.2,by rw[D.1];decide,C⟩
     .rw[g]at d;cases d
theorem ZX(a b:BA):bl (a++b)=bl a++bl b:=by simp[bl]
def TG(d:Nat):UInt8:=UInt8.ofNat<|48+d
def Xj(n:Nat):LB:=if n<=9 then[TG n]else Xj (n/10)++[TG<|n%10]
theorem E4(W:World)(d:Nat)(hd:d<=9):(convert 119 9<|.slice (some ⟨W.heap.size,0,none⟩) 1 1).run prog (W.alloc<|.cells #[.int .u8<|(48:Int)+d] 5)=.ok (.string ⟨#[TG d]⟩) (W.alloc<|.cells #[.int .u8<|(48:Int)+d] 5):=by
 refine run_convert_bytes_back _ _ _ 5 ⟨W.heap.size,0,none⟩ 1 [TG d] underlying119 underlying5 underlying9 ?_;intro j a;obtain rfl:j=0:=by simp at a;omega
 rw[QJ];have h:=Go.Deep.blk_alloc_new W<|.cells #[.int .u8<|(48:Int)+d] 5;simp only[World.cell?,h];have e:((TG d).toNat:Int)=48+d:=by
  have:(TG d).toNat=48+d:=by unfold TG;simp;omega
  omega
 simp[e]
theorem Lq{n:Nat}(h:n<=9):Xj n=[TG n]:=by rw[Xj,Ye h]
theorem K9{n:Nat}(h:¬n<=9):Xj n=Xj (n/10)++[TG<|n%10]:=by rw[Xj,Yd h]
theorem ED(n:Nat){w:World}(k:n<=1000000000):
 CP 38 #[E n] w λe u=>∃r:BA,e=.returned (.string r)/\r.size<=1000000001/\Hid (bl r=Xj n)/\BW w u:=by
 go_enter func38,ntmps38;go_wp2;go_loopw [0,3] (λv sv wr=>∃(m:Nat)(r:BA),v=E m/\sv=.string r/\r.size+m<=n/\Hid (Xj n=Xj m++bl r)/\BW w wr) (λv _ _=>(intOf v).toNat);case atStart=>exact⟨n,⟨#[]⟩,C,C,Nat.le_of_eq<|SK n,I<|by simp[bl],Ym _ _⟩
 case round=>
  obtain⟨m,r,rfl,rfl,l,g,i⟩:=hrel;have j:=i.size;by_cases d:m<=9
  .have c:=E4 wr m d;have f:Hid<|bl (⟨#[TG m]⟩++r)=Xj n:=I<|by rw[ZX,g.out,Lq d];rfl
   have e1:(⟨#[TG m]⟩:BA).size=1:=C;have a1:∀W,(Op.stringOp .add ⟨#[TG m]⟩ r).run prog W=.ok (.string<|⟨#[TG m]⟩++r) W:=λW=>XV W _ _ X;have a:(⟨#[TG m]⟩++r).size<=1000000001:=by simp only[Xa];omega
   have h:¬(9<(m:Int)):=X;go_wp2;go_ret;exact⟨_,C,a,f,Yh⟩
  .have c:=E4 wr (m%10) X;rw[show((m%10:Nat):Int)=(m:Int)%10 from by omega]at c;have f:Hid<|Xj n=Xj (m/10)++bl (⟨#[TG<|m%10]⟩++r):=I<|by rw[ZX,g.out,K9 d,WV];rfl
   have e1:(⟨#[TG<|m%10]⟩:BA).size=1:=C;have a1:∀W,(Op.stringOp .add ⟨#[TG<|m%10]⟩ r).run prog W=.ok (.string<|⟨#[TG<|m%10]⟩++r) W:=λW=>XV W _ _ X;have a:(⟨#[TG<|m%10]⟩++r).size+m/10<=n:=by simp only[Xa];omega
   have h:9<(m:Int):=X;go_wp2;go_roundw;case rel=>exact⟨m/10,_,Sm,C,a,f,Yh⟩
   case measure=>simp[intOf];omega
def Ec(o:Nat):LB:=[[43],[45],[42],[47]].getD o []
def TD(a:Nd)(pl pr:Nat->LB):LB:=
 if a.jj=0 then Xj a.n.toNat
 else if a.jj=1 then Xl a
 else if a.jj=2 then WN.getD a.op []++[40]++Xl a++[91]++Xj a.n.toNat++[93,41]
 else if a.jj=3 then[45]++pl 4
 else if a.jj=5 then Wu.getD a.op []++[32,98,121,32,40]++commas a.by_++[41,32,40]++pl 1++[41]
 else if a.jj=6 then pl 1++[32,111,114,32]++pr 2
 else pl (V0 a)++[32]++Ec a.op++[32]++pr (V0 a+1)
def Mg(b:Bool)(s:LB):LB:=if b then[40]++s++[41]else s
def ZV:Tr->Nat->LB
 |.nil,_=>[]
 |.node _ _ a l r,must=>Mg (decide<|V0 a<must)<|TD a (ZV l)<|ZV r
theorem Hj:∀(k n:Nat),n<10^(k+1)->(Xj n).length<=k+1
 |0,n,h=>by rw[Lq X];simp
 |k+1,n,h=>by
  by_cases a:n<=9
  .rw[Lq a];simp
  .rw[K9 a,Yv];have:=Hj k (n/10) X;simp_all
theorem EY(a b:LB)(l:List<|LB):commas (a::b::l)=a++44::commas (b::l):=rfl
theorem Oz:∀(l:List<|LB),(commas l).length<=nw l
 |[]=>Yj _
 |[a]=>by simp[commas,nw]
 |a::b::l=>by
  have:=Oz<|b::l;rw[EY,Yv,Y1];simp only[nw]at*;omega
theorem ug(c:LB×LB×Bool):(VT c).length<=c.1.length+c.2.1.length+4:=by
 unfold VT;split<;>simp<;>omega
theorem Ju:∀(l:List<|LB×LB×Bool),nw (l.map VT)<=cw l
 |[]=>Yj _
 |c::l=>by
  have:=Ju l;have:=ug c;simp only[Wb,nw,cw];omega
theorem G6(a:Nd):(Xl a).length<=a.name.length+cw a.kq+2:=by
 unfold Xl;split
 .omega
 .have c:=Oz<|a.kq.map VT;have d:=Ju a.kq;simp_all;omega
theorem Lv(a:List<|LB)(h:∀x∈a,x.length<=5)(i:Nat):(a.getD i []).length<=5:=by
 rw[Y0];cases c:a[i]? with
 |none=>simp
 |some x=>exact h x<|QY c
theorem Eu{a:Nd}(h:a.n<=1000000000){pl pr:Nat->LB}{x y:Nat}(c:∀m,(pl m).length<=x)(d:∀m,(pr m).length<=y):(TD a pl pr).length+2<=Xo a+x+y:=by
 have e:a.n.toNat<=1000000000:=X;have f:(10)^10=10000000000:=N;have hd:(Xj a.n.toNat).length<=10:=Hj 9 _ X;have i:=G6 a;have j:=Oz a.by_;have k:=Lv WN N a.op;have l:=Lv Wu N a.op;have g:=Lv [[43],[45],[42],[47]] N a.op;have l1:=c 1;have l4:=c 4;have lt:=c<|V0 a;have r2:=d 2;have rt:=d<|V0 a+1;unfold TD Xo;split
 .omega
 .split
  .omega
  .split
   .simp_all;omega
   .split
    .simp;omega
    .split
     .simp only[Yv,Y1,TP];omega
     .split
      .simp;omega
      .unfold Ec;simp only[Yv,Y1,TP];omega
theorem xY(b:Bool)(s:LB):(Mg b s).length<=s.length+2:=by
 unfold Mg;split<;>simp
theorem Mz:∀(t:Tr)(m:Nat),V1 t->(ZV t m).length<=wT t
 |.nil,_,_=>Yj _
 |.node x y a l r,m,h=>by
  have c:=Mz l;have d:=Mz r;have e:=Eu h.2.2.2.2.2.1 (λm=>c m h.2.2.2.2.2.2.2.2.2.2.1) λm=>d m h.2.2.2.2.2.2.2.2.2.2.2;have f:=xY (decide<|V0 a<m)<|TD a (ZV l)<|ZV r;unfold ZV wT;omega
theorem GA(l:List<|LB)(a:LB):commas (l++[a])=(if l.isEmpty then[]else commas l++[44])++a:=by
 induction l with
 |nil=>rfl
 |cons b l ih=>
  cases l with
  |nil=>simp[commas]
  |cons c l=>
   have e:commas (b::c::l++[a])=b++44::commas (c::l++[a]):=C;rw[e,ih];simp[commas]
end Go.Proofs.YtmfnolgpaoldpaaGreatDoor
namespace Go.Proofs.YtmfnolgpaoldpaaGreatDoor.LS
open Go Go.RowKit
theorem Jg (c:UInt8)(l:LB):Lib.index l [c]=match seek c l with|none=>-1|some i=>(i:Int):=by
 induction l with
 |nil=>rfl
 |cons b l ih=>
  unfold Lib.index seek;by_cases a:b=c
  .simp_all
  · have d:[c].isPrefixOf (b::l)=false:=by simp[List.isPrefixOf,Qx a]
    have e:(b==c)=false:=by simp[a]
    rw[Yd<|by simp[d],ih,e];split<;>simp_all
theorem qX{c:UInt8}{l x y:LB}(h:cut c l=some (x,y)):Lib.cut l [c]=(x,y,true):=by
 unfold cut at h;cases a:seek c l with
 |none=>simp_all
 |some i=>
  rw[a]at h;simp only[Wr,Q1,M1]at h;unfold Lib.cut;rw[Jg,a];simp_all
theorem qW{c:UInt8}{l:LB}(h:cut c l=none):Lib.cut l [c]=(l,[],false):=by
 unfold cut at h;cases a:seek c l with
 |some i=>simp_all
 |none=>
  unfold Lib.cut;rw[Jg,a];rfl
theorem Rm{c:UInt8}{l x y:LB}(h:cut c l=some (x,y)):l=x++c::y/\c∉x:=by
 unfold cut at h;cases d:seek c l with
 |none=>simp_all
 |some i=>
  rw[d]at h;simp only[Wr,Q1,M1]at h;obtain⟨a,b,rfl,rfl,e⟩:=Pr d;simp_all
theorem Hi{c:UInt8}{x y:LB}(h:c∉x):cut c (x++c::y)=some (x,y):=by
 unfold cut;rw[LN c x y h];simp
theorem ze(c:UInt8):∀(n:Nat)(l:LB),l.length<=n->Lib.splitK [c] 0 (Lib.count l [c]) l=split c l:=by
 intro n;induction n with
 |zero=>
  intro l g;obtain rfl:l=[]:=Og.1 X;rfl
 |succ n ih=>
  intro l g;cases d:seek c l with
  |none=>
   rw[Lib.count_miss<|by rw[Jg,d]];have e:=(LP c l).1 d;have:=MD c l [] e;rw[V6]at this;rw[this];simp[Lib.splitK,split,pre]
  |some i=>
   obtain⟨a,b,rfl,rfl,e⟩:=Pr d;have f:Lib.index (a++c::b) [c]=(a.length):=by rw[Jg,d]
   rw[Lib.count_hit Sm f];have e1:(a++c::b).drop (a.length+[c].length)=b:=Sm;rw[e1,Nat.add_comm,Lib.splitK,Yd<|by simp_all,f];rw[show((a.length:Int)).toNat=a.length by omega,e1,ih b<|by simp_all;omega,MD c a _ e,Nh];simp[pre]
def Z6(c:UInt8):LB->LB×Bool
 |[]=>([],false)
 |b::t=>if b==c then(t,true)else(b::t,false)
theorem qY(c:UInt8)(l:LB):(Lib.trimPrefix l [c],Lib.hasPrefix l [c])=Z6 c l:=by
 cases l with
 |nil=>rfl
 |cons b t=>
  by_cases a:b=c
  .subst a;simp[Lib.trimPrefix,Lib.hasPrefix,Z6]
  .have d:[c].isPrefixOf (b::t)=false:=by simp[List.isPrefixOf,Qx a]
   simp[Lib.trimPrefix,Lib.hasPrefix,Z6,a,d]
theorem GN(c:UInt8)(l:LB):(Z6 c l).1.length<=l.length:=by
 cases l with
 |nil=>simp[Z6]
 |cons b t=>by_cases h:(b==c)=true<;>simp[Z6,h]
def T2(d:LB):Bool:=match ZC 1000000000 (Z6 45 d).1 with
 |none=>false
 |some v=>!((Z6 45 d).2&&v==0)
def Tw(t:LB):Option Nat:=match cut 58 t with
 |none=>none
 |some (a,d)=>match ZC 1000000 a with
  |none=>none
  |some tm=>if T2 d then some tm else none
def Vk:Int->Nat->List (LB)->Option Nat
 |_,n,[]=>some n
 |last,n,x::xs=>match Tw x with
  |none=>none
  |some t=>if(t:Int)<=last then none else Vk t (n+1) xs
def VI(l:LB):Option Nat:=match Z6 32 l with
 |(r,f)=>if l=[]then some 0 else if f then Vk (-1) 0 (split 32 r)else none
def MI(a b:LB):Bool:=Op.bytesLess a b||a==b
def Rq(last:LB)(x:LB):Option<|LB×LB:=match cut 61 x with
 |none=>none
 |some (n,v)=>if Zx n&&ZY v&&!v.isEmpty&&!MI n last then some (n,v)else none
def Wf:LB->List (LB×LB)->List (LB)->Option (List<|LB×LB)
 |_,acc,[]=>some acc
 |last,acc,x::xs=>match Rq last x with
  |none=>none
  |some p=>Wf p.1 (acc++[p]) xs
def Wp(l:LB):Option<|List<|LB×LB:=if l=[]then some []else Wf [] []<|split 44 l
def Y3(l:LB):Option<|LB×LB×Nat:=match cut 123 l with
 |none=>none
 |some (name,rest)=>match cut 125 rest with
  |none=>none
  |some (inside,behind)=>if Zx name&&(Wp inside).isSome then(VI behind).map λn=>(name,inside,n)else none
theorem Lz{l:LB}(h:cut 123 l=none):Y3 l=none:=by unfold Y3;rw[h]
theorem Mq{l name rest:LB}(h:cut 123 l=some (name,rest))(a:cut 125 rest=none):Y3 l=none:=by unfold Y3;simp_all
theorem Mr{l name rest inside behind:LB}(h:cut 123 l=some (name,rest))(a:cut 125 rest=some (inside,behind)):
 Y3 l=if Zx name&&(Wp inside).isSome then(VI behind).map λn=>(name,inside,n)else none:=by unfold Y3;simp_all
structure Yn where
 at_:Nat
 name:LB
 inside:LB
 count:Nat
def ZT:Nat->List Yn->List (LB)->Nat⊕List Yn
 |_,acc,[]=>.inr acc
 |i,acc,x::xs=>if x=[]then ZT (i+1) acc xs else match Y3 x with
  |none=>.inl i
  |some (a,b,n)=>ZT (i+1) (acc++[⟨i,a,b,n⟩]) xs
theorem Bk{i:Nat}{acc:List Yn}{ps:List<|LB}(a:i<ps.length)(h:ps.getD i []=[]):ZT i acc (ps.drop i)=ZT (i+1) acc (ps.drop<|i+1):=by
 have e:ps.getD i []=ps[i]:=by simp[a]
 rw[List.drop_eq_getElem_cons a,ZT,<-e,Ye h]
theorem Bi{i:Nat}{acc:List Yn}{ps:List<|LB}(a:i<ps.length)(h:ps.getD i []≠[])(c:Y3 (ps.getD i [])=none):ZT i acc (ps.drop i)=.inl i:=by
 have e:ps.getD i []=ps[i]:=by simp[a]
 rw[List.drop_eq_getElem_cons a,ZT,<-e,Yd h,c]
theorem Bj{i:Nat}{acc:List Yn}{ps:List<|LB}(c:i<ps.length)(h:ps.getD i []≠[]){a b:LB}{n:Nat}(d:Y3 (ps.getD i [])=some (a,b,n)):
 ZT i acc (ps.drop i)=ZT (i+1) (acc++[⟨i,a,b,n⟩]) (ps.drop<|i+1):=by
 have e:ps.getD i []=ps[i]:=by simp[c]
 rw[List.drop_eq_getElem_cons c,ZT,<-e,Yd h,d]
theorem Cs{i:Nat}{acc:List Yn}{ps:List<|LB}(a:¬i<ps.length):ZT i acc (ps.drop i)=.inr acc:=by
 rw[Ts X];rfl
abbrev Xc:=LB×LB
abbrev El:=List Xc×Int
structure YY where
 name:LB
 labs:List Xc
 jm:List<|Int×Int
abbrev VV:=Int⊕List El
def XY(p:Xc):LB:=p.1++[61]++p.2
def Yy(l:List Xc):LB:=Go.Proofs.YtmfnolgpaoldpaaGreatDoor.LS.commas<|l.map XY
def YZ(n:Int):Int:=if 1000000000<n then 1000000000 else if n< -1000000000 then-1000000000 else n
def V8:List El->El->List El
 |[],x=>[x]
 |y::l,x=>if Op.bytesLess (Yy x.1)<|Yy y.1then x::y::l else y::V8 l x
def Sp:List Xc->LB->LB
 |[],_=>[]
 |p::l,n=>if p.1=n then p.2 else Sp l n
def RM(s:YY)(c:LB×LB×Bool):Bool:=!((decide<|Sp s.labs c.1=c.2.1)==c.2.2)
def UI(a:Nd)(s:YY):Bool:=a.kq.all (RM s)&&decide (a.name=s.name)
def ZM(l:List<|Int×Int)(n t:Int):List<|Int×Int:=l.filter λx=>decide (t-n<x.1)&&decide (x.1<=t)
def Wh:Int->List Int->Int
 |m,[]=>m
 |m,x::l=>Wh (if m<x then x else m) l
def Wi:Int->List Int->Int
 |m,[]=>m
 |m,x::l=>Wi (if x<m then x else m) l
def T1(op:Nat)(l:List Int):Int:=
 if op=0 then l.sum else if op=1 then Wh (l.headD 0) l else if op=2 then Wi (l.headD 0) l else if op=3 then(l.length:Int)else l.getLastD 0-l.headD 0
def X3(op:Option Nat)(l:List<|Int×Int):Int:=match op with
 |none=>(l.getLastD (0,0)).2
 |some o=>YZ (T1 o (l.map (·.2)))
def Uk(st:List YY)(a:Nd)(op:Option Nat)(size t:Int):List El:=
 st.foldl (λacc s=>if UI a s&&!(ZM s.jm size t).isEmpty then V8 acc (s.labs,X3 op<|ZM s.jm size t)else acc) []
def YI(op:Nat)(a b:Int):Int:=if op=0 then YZ (a+b)else if op=1 then YZ (a-b)else if op=2 then YZ (a*b)else if b=0 then 0 else a.tdiv b
def QK(op:Nat):VV->VV->VV
 |.inl a,.inl b=>.inl<|YI op a b
 |.inl a,.inr y=>.inr<|y.map λe=>(e.1,YI op a e.2)
 |.inr x,.inl b=>.inr<|x.map λe=>(e.1,YI op e.2 b)
 |.inr x,.inr y=>.inr<|x.flatMap λe=>(y.filter λf=>decide<|Yy e.1=Yy f.1).map λf=>(e.1,YI op e.2 f.2)
def TI:VV->VV
 |.inl a=>.inl<|-a
 |.inr x=>.inr<|x.map λe=>(e.1,-e.2)
def Zp(l:List Xc)(by_:List<|LB):List Xc:=l.filter λp=>by_.contains p.1
def Vy(op:Nat)(by_:List<|LB)(all:List El):List El->List El->List El
 |_,[]=>[]
 |pre,e::l=>(if pre.any λf=>decide<|Yy (Zp f.1 by_)=Yy (Zp e.1 by_)then[]else[(Zp e.1 by_,YZ (T1 op ((all.filter λf=>decide<|Yy (Zp f.1 by_)=Yy (Zp e.1 by_)).map (·.2))))])++Vy op by_ all (pre++[e]) l
def SB(op:Nat)(by_:List<|LB)(l:List El):List El:=(Vy op by_ l [] l).foldl V8 []
def Hq:VV->List El
 |.inl _=>[]
 |.inr l=>l
def Xs(n:Int):LB:=if n<0 then[45]++Xj n.natAbs else Xj n.toNat
def QP(e:El):LB:=[32,123]++Yy e.1++[125]++Xs e.2
def U9(t:Int):VV->LB
 |.inl n=>Xs t++[32]++Xs n
 |.inr l=>Xs t++(l.map QP).flatten
end Go.Proofs.YtmfnolgpaoldpaaGreatDoor.LS
namespace Go.Proofs.YtmfnolgpaoldpaaGreatDoor
open Go.RowKit LS Go.Proofs.Tryz
theorem R6:∀x:LB,Op.bytesLess x x=false
 |[]=>C
 |a::x=>by
  have h:=UInt8.lt_irrefl a;simp[Op.bytesLess,R6 x,h]
theorem PU:∀x y z:LB,Op.bytesLess x y=true->Op.bytesLess y z=true->Op.bytesLess x z=true
 |x,y,[],_,h=>by cases y<;>simp[Op.bytesLess]at h
 |x,[],c::z,h,_=>by cases x<;>simp[Op.bytesLess]at h
 |[],b::y,c::z,_,_=>C
 |a::x,b::y,c::z,e,d=>by
  simp only[Op.bytesLess,Iw,Ko,Vu,XL]at e d⊢;rcases e with e|⟨rfl,e⟩
  · rcases d with d|⟨rfl,d⟩
    .exact .inl<|UInt8.lt_trans e d
    simp_all
  · rcases d with d|⟨rfl,d⟩
    .simp_all
    .exact .inr ⟨C,PU x y z e d⟩
theorem Pe:∀x y:LB,Op.bytesLess x y=false->Op.bytesLess y x=false->x=y
 |[],[],_,_=>C
 |[],b::y,h,_=>by simp[Op.bytesLess]at h
 |a::x,[],_,h=>by simp[Op.bytesLess]at h
 |a::x,b::y,c,d=>by
  simp only[Op.bytesLess,Bool.or_eq_false_iff,O4,Ib,YB]at c d;have f:a=b:=by
   have k1:¬a.toNat<b.toNat:=λh=>c.1<|Eh.2 h;have k2:¬b.toNat<a.toNat:=λh=>d.1<|Eh.2 h;exact TO.1 X
  subst f;have e:=Pe x y (c.2.resolve_left λh=>h C)<|d.2.resolve_left λh=>h C;rw[e]
def NO(a b:El):Prop:=Op.bytesLess (Yy a.1) (Yy b.1)=true
def To(l:List El):Prop:=l.Pairwise NO
theorem GW(l:List El)(x z:El):z∈V8 l x↔z=x∨z∈l:=by
 induction l with
 |nil=>simp[V8]
 |cons y l ih=>
  rw[V8];split
  .simp
  .rw[X0,ih,X0];constructor
   .rintro(h|h|h)
    .simp_all
    .simp_all
    simp_all
   .rintro(h|h|h)
    .simp_all
    .simp_all
    simp_all
theorem jN(l:List El)(x:El):(V8 l x).length=l.length+1:=by
 induction l with
 |nil=>rfl
 |cons y l ih=>
  rw[V8];split<;>simp_all
theorem jO(l:List El)(x:El)(h:To l)(d:∀y∈l,Yy y.1≠Yy x.1):To<|V8 l x:=by
 induction l with
 |nil=>constructor<;>simp_all
 |cons y l ih=>
  obtain⟨e,f⟩:=Rg.1 h;rw[V8];split
  .rename_i a;refine Rg.2 ⟨λz c=>?_,h⟩;rcases X0.1 c with rfl|c
   .exact a
   .exact PU _ _ _ a<|e z c
  .rename_i a;refine Rg.2 ⟨λz c=>?_,ih f λy g=>d y<|Vf _ g⟩;rcases(GW l x z).1 c with rfl|c
   .unfold NO;cases i:Op.bytesLess (Yy y.1)<|Yy z.1with
    |true=>rfl
    |false=>exact absurd (Pe _ _ i<|Qt.2 a)<|d y<|Re ..
   simp_all
theorem Lu (L:List El):∀acc:List El,To acc->(L.Pairwise λa b=>Yy a.1≠Yy b.1)->(∀y∈acc,∀x∈L,Yy y.1≠Yy x.1)->
 To (L.foldl V8 acc)/\(L.foldl V8 acc).length=acc.length+L.length/\∀z,z∈L.foldl V8 acc↔z∈acc∨z∈L:=by
  induction L with
  |nil=>simp
  |cons x L ih=>
   intro acc h e hd;obtain⟨f,g⟩:=Rg.1 e;obtain⟨k1,k2,k3⟩:=ih (V8 acc x) (jO acc x h λy c=>hd y c x<|Re ..) g (λy c z d=>by
    rcases(GW acc x y).1 c with rfl|c
    .exact f z d
    .exact hd y c z<|Vf _ d);refine⟨k1,by rw[Kw,k2,jN,Y1];omega,λz=>?_⟩;rw[Kw,k3,GW,X0];constructor
   · rintro((h|h)|h)
     .simp_all
     .simp_all
     simp_all
   · rintro(h|h|h)
     .simp_all
     .simp_all
     simp_all
def Sx(st:List YY):Prop:=st.Pairwise λs r=>¬(s.name=r.name/\Yy s.labs=Yy r.labs)
def P2(st:List YY)(a:Nd)(op:Option Nat)(size t:Int):List El:=(st.filter λs=>UI a s&&!(ZM s.jm size t).isEmpty).map λs=>(s.labs,X3 op<|ZM s.jm size t)
theorem FN(st:List YY)(a:Nd)(op:Option Nat)(size t:Int):Uk st a op size t=(P2 st a op size t).foldl V8 []:=by
 unfold Uk P2;generalize([]:List El)=acc;induction st generalizing acc with
 |nil=>rfl
 |cons s st ih=>
  rw[Kw];split<;>simp_all
theorem GU {st:List YY}(h:Sx st)(a:Nd)(op:Option Nat)(size t:Int):(P2 st a op size t).Pairwise λx y=>Yy x.1≠Yy y.1:=by
 unfold P2;rw[Rx];refine NW ?_<|h.filter _;intro s r c d e f;have n1:=(Qv.1 c).2;have n2:=(Qv.1 d).2;simp only[Vu,UI,Ko]at n1 n2;simp_all
def WG(n:Nat):VV->Prop
 |.inl _=>True
 |.inr l=>To l/\l.length<=n
theorem Av{st:List YY}(h:Sx st){a:Nd}{op:Option Nat}{size t:Int}:WG st.length<|.inr<|Uk st a op size t:=by
 rw[FN];obtain⟨c,d,_⟩:=Lu (P2 st a op size t) [] List.Pairwise.nil (GU h a op size t) Sm;refine⟨c,?_⟩;rw[d];unfold P2;rw[Yz];have:=Qq (λs=>UI a s&&!(ZM s.jm size t).isEmpty) st;simp_all
theorem Fx{l:List El}(h:To l){f:El->El}(d:∀e,(f e).1=e.1):To<|l.map f:=by
 unfold To;rw[Rx];exact h.imp λ{a b} c=>by unfold NO at*;simp_all
theorem sq {y:List El}(h:To y)(k:LB):y.filter (λf=>decide<|k=Yy f.1)=(y.find? λf=>decide<|k=Yy f.1).toList:=by
 induction y with
 |nil=>rfl
 |cons e y ih=>
  obtain⟨c,d⟩:=Rg.1 h;by_cases g:k=Yy e.1
  · rw[NX<|by simp_all,List.find?_cons_of_pos<|by simp_all];have:y.filter (λf=>decide<|k=Yy f.1)=[]:=by
      rw[MW];intro f i j;have a:=c f i;unfold NO at a;rw[<-g,Rw j,R6]at a;cases a
    rw[this];rfl
  .rw[NY<|by simp_all,List.find?_cons_of_neg<|by simp_all];exact ih d
theorem tI {α β:Type}(f:α->Option β)(l:List α):l.flatMap (λa=>(f a).toList)=l.filterMap f:=by
 induction l with
 |nil=>rfl
 |cons a l ih=>
  rw[Km,ih,J1];cases f a<;>rfl
def Oc(op:Nat)(y:List El)(e:El):Option El:=(y.find? λf=>decide<|Yy e.1=Yy f.1).map λf=>(e.1,YI op e.2 f.2)
theorem Dg(op:Nat)(x y:List El)(a:To y):QK op (.inr x) (.inr y)=.inr (x.filterMap<|Oc op y):=by
 have h:∀e:El,(y.filter _).map (λf=>(e.1,YI _ _ _))=(Oc op y e).toList:=λe=>by
  rw[sq a];unfold Oc;cases y.find? λf=>decide<|Yy e.1=Yy f.1<;>rfl
 show Sum.inr (x.flatMap λe=>(y.filter λf=>decide<|Yy e.1=Yy f.1).map λf=>(e.1,YI op e.2 f.2))=_;rw[<-tI,funext h]
theorem yo{op:Nat}(x y:List El)(i:To x):To<|x.filterMap<|Oc op y:=by
 unfold To;rw[List.pairwise_filterMap];refine i.imp ?_;intro a b h c e d hd;unfold Oc at e hd;cases j:y.find? λf=>decide<|Yy a.1=Yy f.1with
 |none=>simp_all
 |some f=>
  cases k:y.find? λf=>decide<|Yy b.1=Yy f.1with
  |none=>simp_all
  |some g=>
   rw[j]at e;rw[k]at hd;cases e;cases hd;exact h
theorem vh{op n:Nat}{a b:VV}(c:WG n a)(d:WG n b):WG n<|QK op a b:=by
 cases a with
 |inl a=>
  cases b with
  |inl b=>trivial
  |inr y=>exact⟨Fx d.1 λ_=>C,by rw[Yz];exact d.2⟩
 |inr x=>
  cases b with
  |inl b=>exact⟨Fx c.1 λ_=>C,by rw[Yz];exact c.2⟩
  |inr y=>
   rw[Dg _ x y d.1];exact⟨yo x y c.1,Xb (List.length_filterMap_le _ _) c.2⟩
theorem nK{n:Nat}{a:VV}(c:WG n a):WG n<|TI a:=by
 cases a with
 |inl a=>trivial
 |inr x=>exact⟨Fx c.1 λ_=>C,by rw[Yz];exact c.2⟩
theorem H8 (op:Nat)(bs:List<|LB)(all:List El):∀(l pre:List El),((Vy op bs all pre l).Pairwise λx y=>Yy x.1≠Yy y.1)/\(Vy op bs all pre l).length<=l.length/\∀x∈Vy op bs all pre l,∀f∈pre,Yy (Zp f.1 bs)≠Yy x.1
 |[],pre=>⟨List.Pairwise.nil,Yj _,by simp[Vy]⟩
 |e::l,pre=>by
  obtain⟨g,i,d⟩:=H8 op bs all l<|pre++[e];rw[Vy];split
  .refine⟨by assumption,by simp;omega,λx a f c=>d x (by assumption) f<|L9 _ c⟩
  · rename_i h;refine⟨?_,by simp_all,?_⟩
    .rw[Ic,Rg];exact⟨λx a=>d x a e Sm,g⟩
    · intro x a f c;rw[Ic,X0]at a;rcases a with rfl|a
      .intro j;exact h<|List.any_eq_true.2 ⟨f,c,by simp_all⟩
      .exact d x a f<|L9 _ c
theorem qG{op:Nat}{bs:List<|LB}{n:Nat}{l:List El}(h:l.length<=n):WG n<|.inr<|SB op bs l:=by
 obtain⟨a,c,_⟩:=H8 op bs l l [];obtain⟨k1,k2,_⟩:=Lu (Vy op bs l [] l) [] List.Pairwise.nil a Sm;exact⟨k1,by show(List.foldl V8 [] _).length<=n;simp_all;omega⟩
theorem DV{n:Nat}{v:VV}(h:WG n v):(Hq v).length<=n:=by
 cases v with
 |inl _=>exact Yr _
 |inr l=>exact h.2
def Tb(a:Ah)(i:Nat):Value:=if i=0 then .bool a.kj else if i=1 then .bool a.kw else if i=2 then E a.jy.length else if i<67 then .int .u8 ((a.jy.reverse.getD (i-3) 0:Nat):Int)else .int .u8 ((a.jx.getD (i-67) 0:Nat):Int)
def Xn(a:Ah):List Value:=(List.range 83).map<|Tb a
theorem Ux(a:Ah):(Xn a).length=83:=by rfl
theorem Tx(a:Ah)(i:Nat)(h:i<83):(Xn a)[i]?=some (Tb a i):=by
 unfold Xn;simp_all
theorem zf(a:Ah):∀v∈Xn a,v.oneCell'=true:=by
 intro v c;obtain⟨i,_,rfl⟩:=XJ.1 c;unfold Tb;repeat' split
 all_goals rfl
theorem GJ(a:Ah)(j:Nat)(h:j<64):(Xn a)[3+j]?=some (.int .u8 ((a.jy.reverse.getD j 0:Nat):Int)):=by
 rw[Tx a _ X];unfold Tb;rw[Yd X,Yd X,Yd X,Ye X,show 3+j-3=j by omega]
theorem GI(a:Ah)(j:Nat)(h:j<16):(Xn a)[67+j]?=some (.int .u8 ((a.jx.getD j 0:Nat):Int)):=by
 rw[Tx a _ X];unfold Tb;rw[Yd X,Yd X,Yd X,Yd X,show 67+j-67=j by omega]
theorem LU{l:List Value}{a:Ah}(d:l.length=83)(h:∀i,i<83->l[i]?=some (Tb a i)):l=Xn a:=by
 apply PB;intro i;by_cases c:i<83
 .rw[h i c,Tx a i c]
 .rw[Rh X,Rh<|by rw[Ux];omega]
theorem fo(a:Ah)(k:Nat)(m:a.jy.length<64):((Xn a).set (3+a.jy.length)<|.int .u8 (k:Int)).set 2 (E ((a.jy.length+1:Nat):Int))=Xn {a with jy:=k::a.jy}:=by
 refine LU (by simp[Ux]) λi l=>?_;rw[Se];by_cases f:2=i
 .subst f;rw[Ye C,Ye<|by simp[Ux]];rfl
 .rw[Yd f,Se];by_cases g:3+a.jy.length=i
  .subst g;rw[Ye C,Ye<|by assumption];unfold Tb;rw[Yd X,Yd X,Yd X,Ye X,show 3+a.jy.length-3=a.jy.length by omega];simp
  .rw[Yd g,Tx a i l];congr 1;unfold Tb;by_cases h:i=0
   .simp_all
   .rw[Yd h,Yd h];by_cases j:i=1
    .simp_all
    .have c:¬i=2:=λe=>f e.symm;rw[Yd j,Yd j,Yd c,Yd c];by_cases d:i<67
     .rw[Ye d,Ye d];congr 2;show a.jy.reverse.getD (i-3) 0=(k::a.jy).reverse.getD (i-3) 0;rw[Sf,Y0,Y0];by_cases n:i-3<a.jy.length
      .rw[QQ<|by simp_all]
      .rw[Rh<|by simp_all,Rh<|by simp;omega]
     split<;>simp_all
theorem fm(a:Ah)(p:a.jy.length<=64)(f:0<a.jy.length):((Xn a).set 2<|E ((a.jy.length-1:Nat):Int)).set (3+(a.jy.length-1)) (.int .u8 0)=Xn {a with jy:=a.jy.tail}:=by
 obtain⟨k,r,g⟩:∃k r,a.jy=k::r:=by
  cases q:a.jy with
  |nil=>simp_all
  |cons k r=>simp
 refine LU (by simp[Ux]) λi n=>?_;have j:a.jy.length-1=r.length:=by rw[g];simp
 rw[j];have o:r.length<64:=X;rw[Se];by_cases l:3+r.length=i
 .subst l;rw[Ye C,Ye<|by assumption];unfold Tb;rw[Yd X,Yd X,Yd X,Ye X,show 3+r.length-3=r.length by omega,g];simp
 .rw[Yd l,Se];by_cases h:2=i
  .subst h;rw[Ye C,Ye<|by assumption];unfold Tb;simp_all
  .rw[Yd h,Tx a i n];congr 1;unfold Tb;by_cases f:i=0
   .simp_all
   .rw[Yd f,Yd f];by_cases m:i=1
    .simp_all
    .have c:¬i=2:=λe=>h e.symm;rw[Yd m,Yd m,Yd c,Yd c];by_cases d:i<67
     .rw[Ye d,Ye d,g];congr 2;show(k::r).reverse.getD (i-3) 0=r.reverse.getD (i-3) 0;rw[Sf,Y0,Y0];by_cases s:i-3<r.length
      .rw[QQ<|by simp_all]
      .rw[Rh<|by simp;omega,Rh<|by simp_all]
     split<;>simp_all
theorem GK(a:Ah)(j k:Nat)(m:j<16)(l:a.jx.length=16):(Xn a).set (67+j) (.int .u8 (k:Int))=Xn {a with jx:=a.jx.set j k}:=by
 refine LU (by simp[Ux]) λi h=>?_;rw[Se];by_cases d:67+j=i
 .subst d;rw[Ye C,Ye<|by assumption];unfold Tb;rw[Yd X,Yd X,Yd X,Yd X,show 67+j-67=j by omega];simp_all
 .rw[Yd d,Tx a i h];congr 1;unfold Tb;by_cases e:i=0
  .simp_all
  .rw[Yd e,Yd e];by_cases f:i=1
   .simp_all
   .rw[Yd f,Yd f];by_cases g:i=2
    .simp_all
    .rw[Yd g,Yd g];by_cases c:i<67
     .simp_all
     .rw[Yd c,Yd c];congr 2;show a.jx.getD (i-67) 0=(a.jx.set j k).getD (i-67) 0;rw[Y0,Y0,List.getElem?_set_ne X]
section
variable {P:Program} {ops:Array Oper} {Q:Exit->Act->World->Prop} {md:Region.Mode} {S:World->Prop} {k:Nat}
def T3(P:Program)(md:Region.Mode)(ops:Array Oper)(Q:Exit->Act->World->Prop)(S:World->Prop)(k:Nat):Nat->Array Bool->Act->World->Prop
 |0,ls,a,w=>Region.ready md ops ls=[]/\Q .normal a w
 |f+1,ls,a,w=>(Region.ready md ops ls=[]->Q .normal a w)/\∀i∈Region.ready md ops ls,
  wpOp P ops Q i (λa' w'=>((ls.setIfInBounds i true).getD k true=false->S w')/\T3 P md ops Q S k f (ls.setIfInBounds i true) a' w') a w
theorem T3.any:∀(f:Nat)(ls:Array Bool)(a:Act)(w:World),T3 P md ops Q S k f ls a w->wpAny P md ops Q f ls a w
 |0,_,_,_,h=>h
 |f+1,_,_,_,h=>⟨h.1,λi c=>wpOp_mono (λ_ _ d=>T3.any f _ _ _ d.2)<|h.2 i c⟩
def OT(md:Region.Mode)(ops:Array Oper)(ls:Array Bool):Bool:=
 (List.range ops.size).all λj=>!ls.getD j true||((ops[j]?).map (·.after.all λe=>!Region.binds md e||ls.getD e.on false)).getD false
def Me(md:Region.Mode)(ops:Array Oper)(i:Nat):Nat->Nat->Bool
 |0,_=>false
 |n+1,j=>((ops[j]?).map (·.after.any λe=>Region.binds md e&&(e.on==i||Me md ops i n e.on))).getD false
theorem za{ls:Array Bool}:OT md ops ls=true↔∀j o,ops[j]?=some o->ls.getD j true=true->∀e∈o.after,Region.binds md e=true->ls.getD e.on false=true:=by
 unfold OT;rw[Tt];constructor
 .intro h j o a c e d g;have f:=h j<|RY.2 (Xr.1 a).1;rw[c,a]at f;simp only[Bool.not_true,Ky,Wr,Qu,Array.all_eq_true']at f;have l:=f e d;simp_all
 .intro h j c;rw[RY]at c;have a:=Array.getElem?_eq_getElem c;cases i:ls.getD j true with
  |false=>rfl
  |true=>
   rw[a];simp only[Bool.not_true,Ky,Wr,Qu,Array.all_eq_true'];intro e d;cases g:Region.binds md e with
   |false=>rfl
   |true=>simpa using h j _ a i e d g
theorem iJ{ls:Array Bool}{j:Nat}(h:OT md ops ls=true)(n:j∈Region.ready md ops ls):OT md ops (ls.setIfInBounds j true)=true:=by
 rw[za]at h⊢;intro i o c f e g l;obtain⟨_,oj,m,d⟩:=mem_ready.1 n;by_cases a:j=i
 .subst a;rw[m]at c;cases c;exact getD_set_true<|d e g l
 .rw[getD_set_ne _ a]at f;exact getD_set_true<|h i o c f e g l
theorem AZ{ls:Array Bool}{i:Nat}(h:OT md ops ls=true)(f:ls.getD i true=false):∀(n j:Nat),Me md ops i n j=true->ls.getD j true=false
 |0,_,a=>by cases a
 |n+1,j,a=>by
  cases g:ls.getD j true with
  |false=>rfl
  |true=>
   unfold Me at a;cases c:ops[j]? with
   |none=>simp_all
   |some o=>
    rw[c]at a;simp only[Wr,Qu,Array.any_eq_true',Vu,Iw,XL]at a;obtain⟨e,l,m,d⟩:=a;have s:=za.1 h j o c g e l m;have t:ls.getD e.on true=false:=by
     rcases d with r|p
     .simp_all
     .exact AZ h f n _ p
    exfalso;rcases Sg e.on ls.size with q|q
    .simp_all
    simp_all
theorem zy{i n:Nat}{oi:Oper}{v:Value}(t:ops[i]?=some oi)(l:∀(j:Nat)(o:Oper) cs b,ops[j]?=some o->o.op≠.select cs b)
 (R:∀c a w,Q (.panic c) (a.put oi.dst v) w->Q (.panic c) a w)(T:Me md ops i n k=true)(B:i≠k):
 ∀(f:Nat)(ls:Array Bool)(a:Act)(w:World),OT md ops ls=true->
  (∀j oj,ops[j]?=some oj->j≠i->ls.getD j true=false->(∀e∈oj.after,Region.binds md e=true->e.on≠i)->oi.apart ops oj=true)->
  i∈Region.ready md ops ls->YieldsIf P ops S oi v a->S w->
  T3 P md ops Q S k f (ls.setIfInBounds i true) (a.put oi.dst v) w->T3 P md ops Q S k (f+1) ls a w
 |0,ls,a,w,D,g,G,x,p,H=>by
  refine⟨λh=>(by simp_all),λj q=>?_⟩;by_cases d:j=i
  .subst d;exact x.wpOp t p ⟨λ_=>p,H⟩
  .have z:=ready_mono q d;rw[H.1]at z;cases z
 |f+1,ls,a,w,D,g,G,x,p,H=>by
  refine⟨λh=>(by simp_all),λj q=>?_⟩;by_cases d:j=i
  .subst d;exact x.wpOp t p ⟨λ_=>p,H⟩
  · have z:=H.2 j<|ready_mono q d;obtain⟨J,oj,r,K⟩:=mem_ready.1 q;have L:=(mem_ready.1 G).1;have M:∀e∈oj.after,Region.binds md e=true->e.on≠i:=λe Z hb U=>by
      have O:=K e Z hb;rw[U]at O;rcases Sg i ls.size with h'|h'
      .simp_all
      simp_all
    have s:=iJ D q;have A:(ls.setIfInBounds j true).getD i true=false:=by rw[getD_set_ne true d];exact L
    have a0:(ls.setIfInBounds j true).getD k true=false:=AZ s A n k T;have O:=wpOp_putIf r (g j oj r d J M) (λcs b=>l i oi cs b t) (λcs b=>l j oj cs b r) R x z;refine wpOp_mono (λa' u V=>?_) O;have F:S u:=V.2.1<|by rw[Em _ _<|Qx d,getD_set_ne true B];omega
    refine⟨λ_=>F,zy t l R T B f (ls.setIfInBounds j true) a' u s (λm om hm W a1 Y=>g m om hm W ?_ Y) (ready_mono G<|Qx d) V.1 F ?_⟩
    · by_cases a2:j=m
      .simp_all
      simp_all
    .rw[Em _ _ d];simp_all
theorem Tk{i d:Nat}{oi:Oper}{v:Value}{f:Nat}{ls:Array Bool}{a:Act}{w:World}(e:ops[i]?=some oi)(hd:oi.dst=some d)(g:(Region.noSelect ops&&Region.free md ops ls i&&(Region.ready md ops ls).contains i&&Me md ops i ops.size k&&OT md ops ls&&i !=k)=true)
 (j:∀c a w,Q (.panic c) (a.put oi.dst v) w->Q (.panic c) a w)(l:YieldsIf P ops S oi v a)(m:S w)
 (h:T3 P md ops Q S k f (ls.setIfInBounds i true) {a with tmps:=a.tmps.setIfInBounds d v} w):T3 P md ops Q S k (f+1) ls a w:=by
 simp only[Vu,Vg]at g;obtain⟨⟨⟨⟨⟨n,o⟩,s⟩,p⟩,q⟩,r⟩:=g;exact zy e (Region.noSelect_spec n) j p r f _ a w q (Region.free_spec e o) (by simp_all) l m<|by rwa [hd]
theorem Zz{i:Nat}{o:Oper}{f:Nat}{ls:Array Bool}{a:Act}{w:World}(e:Region.ready md ops ls=[i])(g:ops[i]?=some o)
 (h:∀K':Act->World->Prop,Shut (∀a w,S w->(S w->T3 P md ops Q S k f (ls.setIfInBounds i true) a w)->K' a w)->if Region.wanted o (yielded ops a.tmps)=true then Oper.wp P o a w K' Q else K' (a.put o.dst undef) w):T3 P md ops Q S k (f+1) ls a w:=by
 refine⟨λn=>(by simp_all),λj c=>?_⟩;rw[e,Vs]at c;subst c;exact wpOp_step g λK' l=>h _ λa w d m=>l a w ⟨λ_=>d,m d⟩
theorem ZS{o:Oper}{f:Nat}{ls:Array Bool}{a:Act}{w:World}(e:Region.ready md ops ls=[k])(c:Region.ready md ops (ls.setIfInBounds k true)=[])(g:ops[k]?=some o)(n:(ls.setIfInBounds k true).getD k true=true)
 (h:∀K':Act->World->Prop,Shut (∀a w,Q .normal a w->K' a w)->if Region.wanted o (yielded ops a.tmps)=true then Oper.wp P o a w K' Q else K' (a.put o.dst undef) w):T3 P md ops Q S k (f+1) ls a w:=by
 refine⟨λi=>(by simp_all),λj d=>?_⟩;rw[e,Vs]at d;subst d;refine wpOp_step g λK' l=>h _ λa w m=>l a w ⟨λi=>(by simp_all),?_⟩;cases f with
 |zero=>exact⟨c,m⟩
 |succ f=>constructor<;>simp_all
theorem ZW{id:Nat}{a:Act}{w:World}(k:Nat)(S:World->Prop)(c:P.follows .mixedOrders=true)(d:S w.drew)(h:S w.drew->T3 P .any ops Q S k ops.size (Array.replicate ops.size false) a w.drew):(Code.region id ops true).wp P Q a w:=
 wp_region_any c<|T3.any _ _ _ _<|h d
end
end Go.Proofs.YtmfnolgpaoldpaaGreatDoor
namespace Go.Proofs.YtmfnolgpaoldpaaGreatDoor
open Go.RowKit LS Go.Proofs.Tryz
section
variable {P:Program} {ops:Array Oper} {Q:Exit->Act->World->Prop} {md:Region.Mode} {S:World->Prop} {k:Nat}
theorem Za (i:Nat){d:Nat}{oi:Oper}{v:Value}{f:Nat}{ls ls':Array Bool}{a:Act}{tm':Array Value}{w:World}(e:S w)(g:ops[i]?=some oi:=by rfl)(hd:oi.dst=some d:=by rfl)(j:(Region.noSelect ops&&Region.free md ops ls i&&(Region.ready md ops ls).contains i&&Me md ops i ops.size k&&OT md ops ls&&i !=k)=true:=by kernel_rfl)
 (l:∀c a w,Q (.panic c) (a.put oi.dst v) w->Q (.panic c) a w:=by exact λ_ _ _ h=>h)(m:YieldsIf P ops S oi v a:=by(refine Or.inl ⟨by rfl,?_⟩;intro w hSw;go_simp;try with_reducible rfl))(n:ls.setIfInBounds i true=ls':=by(try simp only[Yt]);rfl)(o:a.tmps.setIfInBounds d v=tm':=by(try simp only[Yt]);rfl)
 (h:T3 P md ops Q S k f ls' {a with tmps:=tm'} w):T3 P md ops Q S k (f+1) ls a w:=by
  subst n o;exact Tk g hd j l m e h
end
end Go.Proofs.YtmfnolgpaoldpaaGreatDoor

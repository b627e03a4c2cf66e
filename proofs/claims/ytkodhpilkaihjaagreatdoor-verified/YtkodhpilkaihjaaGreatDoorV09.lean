/- Parts. -/
import Derived.Test.YtkodhpilkaihjaaGreatDoorV08
import Derived.Lib.SplitLaws
import Derived.Stop.Asserts
import Derived.RowKitTokens
set_option linter.all false
set_option maxRecDepth 100000
set_option maxHeartbeats 16000000
namespace Go.Proofs.YtkodhpilkaihjaaGreatDoor
open Go.RowKit LS Go.Proofs.Tryz
theorem Rep.at{w:World}{pv:Value}{n:Nat}{xs:List Value}(d:w.ownsRow 0 92 8 pv n xs){x y:Nat}{nd:Nd}{l r:Tr}{i:Nat}(h:Rep w xs (.node x y nd l r) i) :
  ∃(g cp:Nat) (p:PV) (a c:Nat),pv=.slice (some ⟨g,0,none⟩) n cp/\g<w.heap.size/\i<n/\ZKf w nd p/\p.a=a/\p.b=c/\Rep w xs l a/\Rep w xs r c/\
   w.cell? ⟨g,i*8,none⟩=some (Vi p.k)/\w.cell? ⟨g,i*8+1,none⟩=some (Vi p.n)/\w.cell? ⟨g,i*8+2,none⟩=some (Vi p.op)/\w.cell? ⟨g,i*8+3,none⟩=some (.string p.nm)/\
   w.cell? ⟨g,i*8+4,none⟩=some (.slice p.ca p.cn p.cc)/\w.cell? ⟨g,i*8+5,none⟩=some (.slice p.ba p.bn p.bc)/\w.cell? ⟨g,i*8+6,none⟩=some (Vi p.a)/\w.cell? ⟨g,i*8+7,none⟩=some (Vi p.b):=by
 obtain⟨p,a,c,m,q,s,t,_,_,u,z⟩:=h;have f:=congrArg List.length m;rw[ZKR,Ya7,Ybv,d.1]at f;have A:i<n:=by omega
 obtain⟨g,cp,rfl⟩:=ZF d Om
 have e:∀j v,j<8->p.cells[j]?=some v->w.cell? ⟨g,i*8+j,none⟩=some v:=by
  intro j v B o;refine Zi d _ _ ?_;rw[<-m,List.getElem?_take,if_pos B,Ygv]at o;exact o
 exact⟨g,cp,p,a,c,rfl,Z1 d,A,q,s,t,u,z,e 0 _ Dc rfl,e 1 _ Dc rfl,e 2 _ Dc rfl,e 3 _ Dc rfl,e 4 _ Dc rfl,e 5 _ Dc rfl,e 6 _ Dc rfl,e 7 _ Dc rfl⟩
theorem ZJU.below{w w':World}{base:Nat}{p:PV}{ns:List (LB)}(h:ZJU w base p ns)(a:BW w w'):ZJU w' base p ns:=by
 obtain⟨bs,b,c⟩:=h;exact⟨bs,Zn b a,c⟩
theorem ZJq.below{w w':World}{base:Nat}{p:PV}{ns:List (LB×LB×Bool)}(h:ZJq w base p ns)(a:BW w w'):ZJq w' base p ns:=by
 obtain⟨bs,b,c⟩:=h;exact⟨bs,Zn b a,c⟩
theorem Rep.below{w w':World}{xs:List Value}(a:BW w w'):∀(t:Tr) (i:Nat),Rep w xs t i->Rep w' xs t i
 | .nil,_,_=>trivial
 | .node _ _ nd l r, i, h => by
   obtain⟨p,u,c,b,⟨g1,g2,g3,g4,g5,g6⟩,d,e,f,g,j,k⟩:=h;exact⟨p,u,c,b,⟨g1,g2,g3,g4,g5.below a,g6.below a⟩,d,e,f,g,Rep.below a l u j,Rep.below a r c k⟩
theorem Zid(t:Tr):Zf t<=2:=by
 cases t with
 | nil=>decide
 | node x y a l r=>
  unfold Zf;have b:=Zid l;split
  ·decide
  ·split
   ·decide
   ·split
    ·exact b
    ·split
     ·split <;> decide
     ·split
      ·decide
      ·split <;> decide
structure RowAt (w:World) (b:Nat) (pv:Value) (n:Nat) (xs:List Value):Prop where
 cell:w.cell? ⟨b,0,none⟩=some pv
 own:w.ownsRow 0 92 8 pv n xs
theorem RowAt.below{w w':World}{b:Nat}{pv:Value}{n:Nat}{xs:List Value}(h:RowAt w b pv n xs)(a:BW w w'):RowAt w' b pv n xs:=
 ⟨(a.cell (p:=⟨b,0,none⟩) (Yai _ _ h.cell)).trans h.cell,Zn h.own a⟩
theorem ZNx(b:Nat)(pv:Value)(n:Nat)(xs:List Value):∀(t:Tr) (i:Nat) (w:World),wfT t->isNil t=false->RowAt w b pv n xs->Rep w xs t i->
  CP 178 #[Vp b,Vi i] w fun e u=>e=.returned (Vi (Zf t))/\BW w u:=by
 intro t
 induction t with
 | nil=>intro i w _ h;cases h
 | node x y nd l r O P=>
  intro i w H _ q I;obtain⟨g,cp,p,a,c,rfl,a8,hi,Y,L,M,Q,R,c0,c1,c2,c3,c4,c5,c6,c7⟩:=Rep.at q.own I;have a6:=q.cell;have a7:Hid (RowAt w b (.slice (some ⟨g,0,none⟩) n cp) n xs):=q;obtain⟨W,N⟩:∃W,W=w.alloc (.cells #[Vi p.k,Vi p.n,Vi p.op,.string p.nm,.slice p.ca p.cn p.cc,.slice p.ba p.bn p.bc,Vi p.a,Vi p.b] 92):=⟨_,rfl⟩
  have D:BW w W:=by rw[N];exact Zbal
  have v:Hid (W=w.alloc (.cells #[Vi p.k,Vi p.n,Vi p.op,.string p.nm,.slice p.ca p.cn p.cc,.slice p.ba p.bn p.bc,Vi p.a,Vi p.b] 92)):=N;have Z:Hid (PAt W w.heap.size p):=hid (by rw[N];exact Go.Deep.blk_alloc_new _ _);have F:Hid (RowAt W b (.slice (some ⟨g,0,none⟩) n cp) n xs):=q.below D;have V:Hid (Rep W xs l a):=Rep.below D l a Q;have HR:Hid (Rep W xs r c):=Rep.below D r c R;have A:Hid (BW w W):=D;have S:p.k=nd.jj:=Y.1;have m:Hid (wfT (.node x y nd l r)):=H;have a9:nd.jj<=6:=H.1;have E:Hid (∀(i:Nat) (w:World),wfT l->isNil l=false->RowAt w b (.slice (some ⟨g,0,none⟩) n cp) n xs->Rep w xs l i->CP 178 #[Vp b,Vi i] w fun e u=>e=.returned (Vi (Zf l))/\BW w u):=O;have T:Hid (∀(i:Nat) (w:World),wfT r->isNil r=false->RowAt w b (.slice (some ⟨g,0,none⟩) n cp) n xs->Rep w xs r i->CP 178 #[Vp b,Vi i] w fun e u=>e=.returned (Vi (Zf r))/\BW w u):=P;rw[L,M]at v;rw[L]at c6;rw[M]at c7;have HA:Hid (p.a=a/\p.b=c):=⟨L,M⟩
  have s:Hid (p.k=nd.jj):=S;clear L M S Y q I N D Q R H O P;have h7:nd.jj=0∨nd.jj=1∨nd.jj=2∨nd.jj=3∨nd.jj=5∨(nd.jj=4∨nd.jj=6):=by omega
  rcases h7 with f|f|f|f|f|f
  ·have o:Hid (Zf (.node x y nd l r)=1):=hid (by unfold Zf;rw[if_pos f]);have d:p.k=0:=by rw[s.out,f];rfl
   rw[d]at c0 v;clear d;go_enter func178,ntmps178;go_wp2;go_ret;rw[o.out];exact⟨rfl,Zbal⟩
  ·have o:Hid (Zf (.node x y nd l r)=2):=hid (by unfold Zf;rw[if_neg Om,if_pos (Or.inl f)]);have d:p.k=1:=by rw[s.out,f];rfl
   rw[d]at c0 v;clear d;go_enter func178,ntmps178;go_wp2;go_ret;rw[o.out];exact⟨rfl,Zbal⟩
  ·have o:Hid (Zf (.node x y nd l r)=2):=hid (by unfold Zf;rw[if_neg Om,if_pos (Or.inr f)]);have d:p.k=2:=by rw[s.out,f];rfl
   rw[d]at c0 v;clear d;go_enter func178,ntmps178;go_wp2;go_ret;rw[o.out];exact⟨rfl,Zbal⟩
  ·have o:Hid (Zf (.node x y nd l r)=Zf l):=hid (by rw[Zf];rw[if_neg Om,if_neg Om,if_pos f]);have d:p.k=3:=by rw[s.out,f];rfl
   rw[d]at c0 v;clear d;go_enter func178,ntmps178
   go_wp2_with fail
   rw[<-v.out];refine(E.out a W m.2.2.2.2.2.2.2.2.2.2.1 (m.2.2.2.2.2.2.1 Om) F.out V.out).mono ?_;rintro e C ⟨rfl,j⟩;have B:Hid (BW w C):=A.trans (j.mono A.size);clear j;go_wp2;go_ret;rw[o.out];exact⟨rfl,B.out⟩
  ·have o:Hid (Zf (.node x y nd l r)=if Zf l=2 then 2 else 0):=hid (by rw[Zf];rw[if_neg Om,if_neg Om,if_neg Om,if_pos f]);have d:p.k=5:=by rw[s.out,f];rfl
   rw[d]at c0 v;clear d;go_enter func178,ntmps178
   go_wp2_with fail
   rw[<-v.out];refine(E.out a W m.2.2.2.2.2.2.2.2.2.2.1 (m.2.2.2.2.2.2.1 Om) F.out V.out).mono ?_;rintro e C ⟨rfl,j⟩;have B:Hid (BW w C):=A.trans (j.mono A.size);clear j;have U:=Zid l;generalize Zf l=ka at *
   have X:ka=0∨ka=1∨ka=2:=by omega
   clear E;rcases X with rfl|rfl|rfl
   all_goals
    go_wp2;go_ret;rw[o.out];exact⟨rfl,B.out⟩
  ·have o:Hid (Zf (.node x y nd l r)=if Zf l=0∨Zf r=0∨(nd.jj=6/\Zf l+Zf r≠4)then 0 else if Zf l+Zf r=2 then 1 else 2):=hid (by rw[Zf];rw[if_neg Om,if_neg Om,if_neg Om,if_neg Om]);have G:Hid (isNil l=false/\isNil r=false/\wfT l/\wfT r):=⟨m.2.2.2.2.2.2.1 Om,m.2.2.2.2.2.2.2.1 f,m.2.2.2.2.2.2.2.2.2.2.1,m.2.2.2.2.2.2.2.2.2.2.2⟩
   rcases f with f|f
   all_goals
    first
     | have d:p.k=4:=by rw[s.out,f];rfl
     | have d:p.k=6:=by rw[s.out,f];rfl
    rw[f]at o;rw[d]at c0 v;go_enter func178,ntmps178
    go_wp2_with fail
    rw[<-v.out];refine(E.out a W G.2.2.1 G.1 F.out V.out).mono ?_;rintro e C ⟨rfl,j⟩;have B:Hid (BW w C):=A.trans (j.mono A.size);have J:Hid (PAt C w.heap.size _):=PAt.kept Z.out (j.block _ (PAt.lt Z.out));have a0:Hid (Rep C xs r c):=Rep.below j r c HR.out;have a1:Hid (RowAt C b (.slice (some ⟨g,0,none⟩) n cp) n xs):=F.below j;have a2:=B.size;obtain⟨k0,k1,k2,k3,k4,k5,k6,k7⟩:=PAt.all J.out;rw[d]at k0;rw[HA.1]at k6;rw[HA.2]at k7;clear j
    go_wp2_with fail
    clear k0 k1 k2 k3 k4 k5 k6 k7;refine(T.out c C G.2.2.2 G.2.1 a1.out a0.out).mono ?_;rintro e z ⟨rfl,K⟩;have a3:Hid (BW w z):=B.trans (K.mono a2);have a4:Hid (PAt z w.heap.size _):=PAt.kept J.out (K.block _ (PAt.lt J.out));obtain⟨k0,k1,k2,k3,k4,k5,k6,k7⟩:=PAt.all a4.out;rw[d]at k0;clear K;have U:=Zid l;have a5:=Zid r;generalize Zf l=ka at *
    generalize Zf r=kb at *
    have X:ka=0∨ka=1∨ka=2:=by omega
    have h4:kb=0∨kb=1∨kb=2:=by omega
    clear E T U a5;rcases X with rfl|rfl|rfl <;> rcases h4 with rfl|rfl|rfl
    all_goals
     go_wp2;go_ret;rw[o.out];exact⟨rfl,a3.out⟩
def ZLp(w:World)(b:Nat)(t:Tr):Prop:=∃(pv:Value) (n:Nat) (xs:List Value),RowAt w b pv (n+1) xs/\n+1<=301/\Rep w xs t n/\wfT t/\isNil t=false/\wT t<=100000/\n+1=cntT t
theorem ZjC(l:LB)(a:l.length<=300):∀(n i:Nat),tw (ZN l n i)<=332*(ZN l n i).length
 | 0,_=>Yac _
 | n + 1, i => by
   have b:=Zyb l i;have c:=ZjC l a n (Zk l i).2;unfold ZN;split
   · simp[tw];omega
   · simp[tw];omega
theorem ZMq{w:World}{b:Nat}{q:QV}(h:QAt w b q)(d:q.s.size<=6000)(f:q.at_=0)(g:q.e=0) :
  CP 175 #[Vp b] w fun r u=>r=.returned (.tuple #[])/\St u b q.pv q.s q.deep (.ok ((),ZN (bl q.s) ((bl q.s).length+1) 0))/\w.grownBy u (some b):=by
 refine(ZLb w b q h d Om).mono ?_;rintro r u ⟨rfl,⟨tx,a,c⟩,i⟩;rw[f]at c a;refine⟨rfl,⟨⟨_,c,rfl,rfl,rfl,g,?_,?_⟩,trivial⟩,i⟩
 ·have:=(Zig (bl q.s) 0 (Yag _)).2;rw[Zd]at this;exact this
 ·have e:ZJB { q with at_:=(Zk (bl q.s) 0).2,k:=(Zk (bl q.s) 0).1.jj,tx:=tx,ta:=(Zk (bl q.s) 0).1.at_ }=(Zk (bl q.s) 0).1:=by
   show(⟨_,bl tx,_⟩:Tok)=_;rw[a]
  rw[e];exact Toks.start _
theorem ZN9(s:BA)(w:World)(b9:s.size<=9223372036854775807) :
  CP 104 #[.string s] w fun e u => (∃ (v : Value) (c p : Nat), e = .returned (.tuple #[v, Vi c, Vi p]) /\
    Hid ((∀x,ZD (bl s)=.error x->c=x.1/\p=x.2/\c≠0/\v=.pointer none)/\(∀t,ZD (bl s)=.ok t->c=0/\p=0/\∃b,v=Vp b/\w.heap.size<=b/\ZLp u b t)))/\BW w u:=by
 by_cases hl:300<s.size
 ·have HR:Hid (ZD (bl s)=.error (1,0)):=hid (by unfold ZD;rw[Zd,if_pos hl]);have hd:(300:Int)<s.size:=by omega
  go_enter func104,ntmps104;go_wp2
  go_ret3
  refine⟨⟨_,1,0,rfl,⟨fun x X=>?_,fun t d=>?_⟩⟩,Yaf _ _⟩
  ·rw[HR.out]at X;injection X with X;subst X;exact⟨rfl,rfl,by decide,rfl⟩
  ·rw[HR.out]at d;cases d
 ·have b1:s.size<=300:=by omega
  have hd:¬((300:Int)<s.size):=by omega
  obtain⟨ts,n⟩:∃ts,ts=ZN (bl s) ((bl s).length+1) 0:=⟨_,rfl⟩
  have c9:ts.length<=301:=by
   have:=ZjB (bl s) ((bl s).length+1) 0 (Yag _);rw[<-n,Zd]at this;omega
  have d9:tw ts<=100000:=by
   have:=ZjC (bl s) (by rw[Zd];exact b1) ((bl s).length+1) 0;rw[<-n]at this;omega
  have m:Hid (ZD (bl s)=match Zs (10*ts.length+5) false 0 .nil ts 0 with
   | .error e=>.error e
   | .ok (t,r)=>if (LS.hd r).jj=0 then (if Zf t=0 then .error (4,0)else .ok t)else .error (2,(LS.hd r).at_)):=hid (by
   unfold ZD;rw[Zd,if_neg hl,<-Zd,<-n];cases Zs (10*ts.length+5) false 0 .nil ts 0 with
   | error e=>rfl
   | ok x=>rfl)
  have Z:Hid (ts=ZN (bl s) ((bl s).length+1) 0):=n;clear n;obtain⟨R,hR⟩:∃R,R=Zs (10*ts.length+5) false 0 .nil ts 0:=⟨_,rfl⟩
  have a0:Hid (R=Zs (10*ts.length+5) false 0 .nil ts 0):=hR;rw[<-hR]at m;clear hR;have b3:Hid (∀W:World,QAt (W.alloc (.cells #[S0,.string s,Vi 0,Vi 0,.string ⟨#[]⟩,Vi 0,Vi 0,Vi 0,Vi 0] 239)) W.heap.size ⟨S0,s,0,0,⟨#[]⟩,0,0,0,0⟩):=fun W=>Go.Deep.blk_alloc_new _ _;go_enter func104,ntmps104
  go_wp2_with fail
  refine(ZMq (b3.out w) (by show s.size<=6000;omega) rfl rfl).mono ?_;rintro e w1 ⟨rfl,o,f⟩;have a1:Hid (St w1 w.heap.size S0 s 0 (.ok ((),ts))):=hid (by rw[Z.out];exact o);have K:Hid (BW w w1):=⟨f.os,f.tape,f.output,by have:=f.size;rw[Go.Deep.nblk_alloc]at this;omega,fun k hk=>(f.block k (by rw[Go.Deep.nblk_alloc];omega) (by simp;omega)).trans (Go.Deep.blk_alloc_lt _ _ _ hk)⟩
  clear o f Z
  go_wp2_with fail
  refine(ZA2 Om ts.length w1 w.heap.size S0 0 _ 0 [] ts.length a1.out (Ybc _ _ _ _) Om (show 0+ts.length<=ts.length by omega) (fun t e=>by injection e with e;injection e with _ e;subst e;exact Yac _) Om).mono ?_;rintro e A ⟨i,rfl,hp⟩;rw[show(bnd (.ok ((),ts):Out Unit) fun _ ts'=>Zs (10*ts.length+5) false 0 .nil ts' 0)=R from a0.symm]at hp;obtain⟨n2,pv2,ys,s2,o2,k2,b2,r2⟩:=hp.out;rw[List.nil_append]at o2 r2;have F:Hid (St A w.heap.size pv2 s 0 (ZJm R)):=s2;have L:Hid (A.ownsRow 0 92 8 pv2 n2 ys):=o2;have M:Hid (BW w A):=K.trans ⟨k2.os,k2.tape,k2.output,k2.size,fun k hk=>k2.block k (by have:=K.size;omega) Om (by simp[Value.ownBlock])⟩;have a2:Hid (n2<=301):=hid (by have:=b2.le;omega);have G:Hid (∀t z,R=.ok (t,z)->∃k:Nat,i=k/\Rep A ys t k/\k+1=n2/\ys.length=8*cntT t):=r2;have e0:w.heap.size<A.heap.size:=F.lt;clear hp s2 o2 k2 b2 r2 K a1;obtain⟨q,hq,a3,_,N,O⟩:=St.view F.out;obtain⟨c0,c1,c2,c3,c4,c5,c6,c7,c8⟩:=hq.all;cases l:R with
  | error x=>
   have g:Hid (ZD (bl s)=.error x):=hid (by rw[m.out,l]);obtain⟨e1,e2,e3⟩:=N x (by rw[l];rfl);have a4:((q.e:Int) == 0)=false:=by rw[beq_eq_false_iff_ne];omega
   have a5:((q.e:Int) != 0)=true:=by rw[bne_iff_ne];omega
   have E:Hid (q.e=x.1/\q.e≠0/\q.pl=x.2):=⟨e1,e2,e3⟩
   clear e1 e2 e3 N O hq l m G;go_wp2
   go_region
   all_goals
    go_wp2
    go_ret3
    refine⟨⟨_,q.e,q.pl,rfl,⟨fun y a=>?_,fun t d=>?_⟩⟩,ZhQ M.out 1⟩
    ·rw[g.out]at a;injection a with a;subst a;exact⟨E.1,E.2.2,E.2.1,rfl⟩
    ·rw[g.out]at d;cases d
  | ok x=>
   obtain⟨t,r⟩:=x;rw[l]at F G m;obtain⟨k,b4,P,a6,b5⟩:=G.out t r rfl;have b6:Hid (k+1=cntT t):=hid (by have:=L.1;omega);clear b5;obtain⟨e1,e2⟩:=O ((),r) (by rw[l];rfl);obtain⟨f1,f2,f3⟩:=Zfv _ false _ _ _ _ _ (fun h=>(by cases h)) (a0.symm.trans l);have a4:((q.e:Int) == 0)=true:=by rw[e1];rfl
   have Q:Hid (wfT t/\isNil t=false/\wT t<=100000):=⟨f1,f2,by simp at f3;omega⟩
   have H:q.k=(LS.hd r).jj:=(ZJG e2).1;have S:Hid (Rep A ys t k):=P;have a7:Hid (RowAt A w.heap.size pv2 (k+1) ys):=⟨by rw[c0,a3],by rw[a6];exact L.out⟩
   have b7:k+1<=301:=by rw[a6];exact a2.out
   clear N O hq P f1 f2 f3 e1 e2 l G a3 a2 L;subst b4;by_cases B:(LS.hd r).jj=0
   ·have b8:((q.k:Int) != 0)=false:=by rw[H,B];rfl
    have a5:((q.e:Int) != 0)=false:=by
     have:(q.e:Int)=0:=by simpa using a4
     rw[this];rfl
    have g:Hid (ZD (bl s)=if Zf t=0 then .error (4,0)else .ok t):=hid (by rw[m.out];show(if (LS.hd r).jj=0 then _ else _)=_;rw[if_pos B]);clear B H
    go_wp2_with fail
    refine(ZNx w.heap.size pv2 (k+1) ys t k A Q.1 Q.2.1 a7.out S.out).mono ?_;rintro e T ⟨rfl,I⟩;have b0:Hid (RowAt T w.heap.size pv2 (k+1) ys):=a7.below I;have Y:Hid (Rep T ys t k):=Rep.below I t k S.out;have J:Hid (BW w T):=M.trans (I.mono Om);clear I;have a8:=Zid t;by_cases C:Zf t=0
    ·have U:((Zf t:Int) == 0)=true:=by rw[C];rfl
     have D:Hid (ZD (bl s)=.error (4,0)):=hid (by rw[g.out,if_pos C]);generalize Zf t=kt at U a8 ⊢;clear C;go_wp2
     go_ret3
     refine⟨⟨_,4,0,rfl,⟨fun y a=>?_,fun t' d=>?_⟩⟩,J.out⟩
     ·rw[D.out]at a;injection a with a;subst a;exact⟨rfl,rfl,by decide,rfl⟩
     ·rw[D.out]at d;cases d
    ·have U:((Zf t:Int) == 0)=false:=by rw[beq_eq_false_iff_ne];omega
     have D:Hid (ZD (bl s)=.ok t):=hid (by rw[g.out,if_neg C]);generalize Zf t=kt at U a8 ⊢;clear C;go_wp2
     go_ret3
     refine⟨⟨_,0,0,rfl,⟨fun y a=>?_,fun t' d=>?_⟩⟩,J.out⟩
     ·rw[D.out]at a;cases a
     ·rw[D.out]at d;injection d with d;subst d;exact⟨rfl,rfl,w.heap.size,rfl,Yac _,pv2,k,ys,b0.out,b7,Y.out,Q.1,Q.2.1,Q.2.2,b6.out⟩
   ·have b8:((q.k:Int) != 0)=true:=by rw[H,bne_iff_ne];omega
    have g:Hid (ZD (bl s)=.error (2,(LS.hd r).at_)):=hid (by rw[m.out];show(if (LS.hd r).jj=0 then _ else _)=_;rw[if_neg B]);clear B H
    go_wp2_with fail
    refine(St.fail F.out 2 _ rfl Dc).mono ?_;rintro e T ⟨rfl,o,f⟩;obtain⟨q3,a9,_,_,V,_⟩:=St.view o;obtain⟨g1,g2,g3⟩:=V (2,(LS.hd r).at_) rfl;obtain⟨d0,d1,d2,d3,d4,d5,d6,d7,d8⟩:=a9.all;have a5:((q3.e:Int) != 0)=true:=by rw[bne_iff_ne];omega
    have E:Hid (q3.e=2/\q3.pl=(LS.hd r).at_):=⟨g1,g3⟩
    have J:Hid (BW w T):=M.trans ⟨f.os,f.tape,f.output,f.size,fun j hj=>f.block j Om (by simp;omega)⟩;clear o f a9 V g1 g2 g3 c0 c1 c2 c3 c4 c5 c6 c7 c8;go_wp2
    go_region
    all_goals
     go_wp2
     go_ret3
     refine⟨⟨_,q3.e,q3.pl,rfl,⟨fun y a=>?_,fun t d=>?_⟩⟩,ZhQ J.out 1⟩
     ·rw[g.out]at a;injection a with a;subst a;exact⟨E.1,E.2,by rw[E.1];decide,rfl⟩
     ·rw[g.out]at d;cases d
theorem ZcV(a b:BA):bl (a++b)=bl a++bl b:=by simp[bl]
def dig(d:Nat):UInt8:=UInt8.ofNat (48+d)
def decS(n:Nat):LB:=if n<=9 then [dig n] else decS (n / 10)++[dig (n % 10)]
theorem Zh0{n:Nat}(h:n<=9):decS n=[dig n]:=by rw[decS,if_pos h]
theorem Zi6{n:Nat}(h:¬n<=9):decS n=decS (n / 10)++[dig (n % 10)]:=by rw[decS,if_neg h]
def opS(o:Nat):LB:=[[43],[45],[42],[47]].getD o []
def Zbv(a:Nd)(pl pr:Nat->LB):LB:=
 if a.jj=0 then decS a.n.toNat
 else if a.jj=1 then selS a
 else if a.jj=2 then Z0.getD a.op []++[40]++selS a++[91]++decS a.n.toNat++[93,41]
 else if a.jj=3 then [45]++pl 4
 else if a.jj=5 then ZW.getD a.op []++[32,98,121,32,40]++ZRV a.by_++[41,32,40]++pl 1++[41]
 else if a.jj=6 then pl 1++[32,111,114,32]++pr 2
 else pl (Zz a)++[32]++opS a.op++[32]++pr (Zz a+1)
def ZeK(b:Bool)(s:LB):LB:=if b then [40]++s++[41] else s
def Zu:Tr->Nat->LB
 | .nil,_=>[]
 | .node _ _ a l r,must=>ZeK (decide (Zz a<must)) (Zbv a (Zu l) (Zu r))
theorem ZhZ:∀(k n:Nat),n<10 ^ (k+1)->(decS n).length<=k+1
 | 0,n,h=>by rw[Zh0 (by simp at h;omega)];simp
 | k + 1, n, h => by
   by_cases a:n<=9
   · rw[Zh0 a];simp
   · rw[Zi6 a,Yab]
     have:=ZhZ k (n / 10) (by rw[Yhc]at h;omega);simp;omega
theorem ZhX(a b:LB)(l:List (LB)):ZRV (a::b::l)=a++44::ZRV (b::l):=rfl
theorem ZeS:∀(l:List (LB)),(ZRV l).length<=nw l
 | []=>Yac _
 | [a]=>by simp[ZRV,nw]
 | a :: b :: l => by
   have:=ZeS (b::l);rw[ZhX,Yab,Yaj];simp only[nw]at *
   omega
theorem Zu8(c:LB×LB×Bool):(Z8 c).length<=c.1.length+c.2.1.length+4:=by
 unfold Z8;split <;> simp <;> omega
theorem Zmv:∀(l:List (LB×LB×Bool)),nw (l.map Z8)<=cw l
 | []=>Yac _
 | c :: l => by
   have:=Zmv l;have:=Zu8 c;simp only[Ybb,nw,cw];omega
theorem Zr7(a:Nd):(selS a).length<=a.name.length+cw a.jn+2:=by
 unfold selS;split
 ·omega
 ·have b:=ZeS (a.jn.map Z8);have c:=Zmv a.jn;simp only[Yab,Yaj,Ybq];omega
theorem Zh5(a:List (LB))(h:∀x∈a,x.length<=5)(i:Nat):(a.getD i []).length<=5:=by
 rw[Yaa];cases b:a[i]? with
 | none=>simp
 | some x=>exact h x (Ycq b)
theorem Zow{a:Nd}(g:a.n<=1000000000){pl pr:Nat->LB}{x y:Nat}(b:∀m,(pl m).length<=x)(c:∀m,(pr m).length<=y):(Zbv a pl pr).length+2<=ownW a+x+y:=by
 have d:a.n.toNat<=1000000000:=by omega
 have e:(10:Nat) ^ 10=10000000000:=by decide
 have hd:(decS a.n.toNat).length<=10:=ZhZ 9 _ Om;have h:=Zr7 a;have i:=ZeS a.by_;have j:=Zh5 Z0 Dc a.op;have k:=Zh5 ZW Dc a.op;have f:=Zh5 [[43],[45],[42],[47]] Dc a.op;have l1:=b 1;have l4:=b 4;have lt:=b (Zz a);have r2:=c 2;have rt:=c (Zz a+1);unfold Zbv ownW;split
 ·omega
 ·split
  ·omega
  ·split
   ·simp only[Yab,Yaj,Ybq];omega
   ·split
    ·simp only[Yab,Yaj,Ybq];omega
    ·split
     ·simp only[Yab,Yaj,Ybq];omega
     ·split
      ·simp only[Yab,Yaj,Ybq];omega
      ·unfold opS;simp only[Yab,Yaj,Ybq];omega
theorem ZEX(b:Bool)(s:LB):(ZeK b s).length<=s.length+2:=by
 unfold ZeK;split <;> simp <;> omega
theorem Zfy:∀(t:Tr) (m:Nat),wfT t->(Zu t m).length<=wT t
 | .nil,_,_=>Yac _
 | .node x y a l r, m, h => by
   have b:=Zfy l;have c:=Zfy r;have d:=Zow h.2.2.2.2.2.1 (pl:=Zu l) (pr:=Zu r) (x:=wT l) (y:=wT r) (fun m=>b m h.2.2.2.2.2.2.2.2.2.2.1) (fun m=>c m h.2.2.2.2.2.2.2.2.2.2.2);have e:=ZEX (decide (Zz a<m)) (Zbv a (Zu l) (Zu r));unfold Zu wT;omega
theorem Zlc(l:List (LB))(a:LB):ZRV (l++[a])=(if l.isEmpty then [] else ZRV l++[44])++a:=by
 induction l with
 | nil=>rfl
 | cons b l ih=>
  cases l with
  | nil=>simp[ZRV]
  | cons c l=>
   have e:ZRV (b::c::l++[a])=b++44::ZRV (c::l++[a]):=rfl;rw[e,ih];simp[ZRV]
end Go.Proofs.YtkodhpilkaihjaaGreatDoor
namespace Go.Proofs.YtkodhpilkaihjaaGreatDoor.LS
open Go Go.RowKit
theorem Zjj (c : UInt8) (l : LB) : Lib.index l [c] = match seek c l with | none => -1 | some i => (i : Int) := by
  induction l with
  | nil=>rfl
  | cons b l ih=>
    unfold Lib.index seek;by_cases a:b=c
    · subst a;simp[List.isPrefixOf]
    · have d:[c].isPrefixOf (b::l)=false:=by simp[List.isPrefixOf,Ne.symm a]
      have e:(b == c)=false:=by simp[a]
      rw[if_neg (by simp[d]),ih,e];cases seek c l with
      | none=>rfl
      | some i=>
        have f:¬(((i:Int) == -1)=true):=by simp
        simp only[Yde,if_false,Ybf];rw[if_neg f];rfl
theorem Zyn{c:UInt8}{l x y:LB}(h:cut c l=some (x,y)):Lib.cut l [c]=(x,y,true):=by
 unfold cut at h;cases a:seek c l with
 | none=>rw[a]at h;cases h
 | some i=>
  rw[a]at h;simp only[Ybf,Option.some.injEq,Prod.mk.injEq]at h;unfold Lib.cut;rw[Zjj,a];simp only[List.length_singleton,Int.toNat_natCast];rw[if_pos Om,h.1,h.2]
theorem Zym{c:UInt8}{l:LB}(h:cut c l=none):Lib.cut l [c]=(l,[],false):=by
 unfold cut at h;cases a:seek c l with
 | some i=>rw[a]at h;cases h
 | none=>
  unfold Lib.cut;rw[Zjj,a];rfl
theorem Zsq(c:UInt8):∀(n:Nat) (l:LB),l.length<=n->Lib.splitK [c] 0 (Lib.count l [c]) l=split c l:=by
 intro n
 induction n with
 | zero=>
  intro l g;obtain rfl:l=[]:=Ygc.1 Om;rw[Lib.count_miss rfl];rfl
 | succ n ih=>
  intro l g;cases d:seek c l with
  | none=>
   rw[Lib.count_miss (by rw[Zjj,d])];have e:=(Zj9 c l).1 d;have:=Zhb c l [] e;rw[Yca]at this;rw[this];simp[Lib.splitK,split,pre]
  | some i=>
   obtain⟨a,b,rfl,rfl,e⟩:=Ziv d;have f:Lib.index (a++c::b) [c]=(a.length:Int):=by rw[Zjj,d]
   rw[Lib.count_hit (by simp) f];have e1:(a++c::b).drop (a.length + [c].length)=b:=by simp
   rw[e1,Nat.add_comm,Lib.splitK,if_neg (by rw[f];simp),f];rw[show((a.length:Int)).toNat=a.length by omega,e1,ih b (by simp at g;omega),Zhb c a _ e,Zhc];simp[pre]
structure Entry where
 at_:Nat
 name:LB
 inside:LB
 count:Nat
abbrev Lab:=LB×LB
structure Ser where
 name:LB
 labs:List Lab
 ju:List (Int×Int)
end Go.Proofs.YtkodhpilkaihjaaGreatDoor.LS
namespace Go.Proofs.YtkodhpilkaihjaaGreatDoor
open Go.RowKit LS Go.Proofs.Tryz
theorem ZcL:∀x:LB,Op.bytesLess x x=false
 | []=>rfl
 | a :: x => by
   have h:¬a<a:=UInt8.lt_irrefl a;simp[Op.bytesLess,ZcL x,h]
theorem Zdv:∀x y z:LB,Op.bytesLess x y=true->Op.bytesLess y z=true->Op.bytesLess x z=true
 | x,y,[],_,h=>by cases y <;> simp[Op.bytesLess]at h
 | x,[],c::z,h,_=>by cases x <;> simp[Op.bytesLess]at h
 | [],b::y,c::z,_,_=>rfl
 | a :: x, b :: y, c :: z, e, d => by
   simp only[Op.bytesLess,Yct,decide_eq_true_eq,Yas,beq_iff_eq]at e d ⊢;rcases e with e|⟨rfl,e⟩
   · rcases d with d|⟨rfl,d⟩
     · exact Or.inl (UInt8.lt_trans e d)
     · exact Or.inl e
   · rcases d with d|⟨rfl,d⟩
     · exact Or.inl d
     · exact Or.inr ⟨rfl,Zdv x y z e d⟩
theorem Zdh:∀x y:LB,Op.bytesLess x y=false->Op.bytesLess y x=false->x=y
 | [],[],_,_=>rfl
 | [],b::y,h,_=>by simp[Op.bytesLess]at h
 | a::x,[],_,h=>by simp[Op.bytesLess]at h
 | a :: x, b :: y, c, d => by
   simp only[Op.bytesLess,Bool.or_eq_false_iff,decide_eq_false_iff_not,Yfm,beq_eq_false_iff_ne]at c d
   have f:a=b:=by
     have k1:¬a.toNat<b.toNat:=fun h=>c.1 (Yfp.2 h);have k2:¬b.toNat<a.toNat:=fun h=>d.1 (Yfp.2 h);exact Ydf.1 Om
   subst f;have e:=Zdh x y (c.2.resolve_left (fun h=>h rfl)) (d.2.resolve_left (fun h=>h rfl));rw[e]
def Zck(a:Ah)(i:Nat):Value:=if i=0 then .bool a.kz else if i=1 then .bool a.kq else if i=2 then Vi a.jy.length else if i<67 then .int .u8 ((a.jy.reverse.getD (i - 3) 0:Nat):Int)else .int .u8 ((a.jx.getD (i - 67) 0:Nat):Int)
def stC(a:Ah):List Value:=(List.range 83).map (Zck a)
theorem ZbE(a:Ah):(stC a).length=83:=by simp[stC]
theorem ZcA(a:Ah)(i:Nat)(h:i<83):(stC a)[i]?=some (Zck a i):=by
 unfold stC;rw[Ya2,Yg2 h];rfl
theorem Zsu(a:Ah):∀v∈stC a,v.oneCell'=true:=by
 intro v b;obtain⟨i,_,rfl⟩:=Ybe.1 b;unfold Zck;repeat' split
 all_goals rfl
theorem Zni(a:Ah)(j:Nat)(h:j<64):(stC a)[3+j]?=some (.int .u8 ((a.jy.reverse.getD j 0:Nat):Int)):=by
 rw[ZcA a _ Om];unfold Zck;rw[if_neg Om,if_neg Om,if_neg Om,if_pos Om,show 3+j - 3=j by omega]
theorem Znh(a:Ah)(j:Nat)(h:j<16):(stC a)[67+j]?=some (.int .u8 ((a.jx.getD j 0:Nat):Int)):=by
 rw[ZcA a _ Om];unfold Zck;rw[if_neg Om,if_neg Om,if_neg Om,if_neg Om,show 67+j - 67=j by omega]
theorem Ziy{l:List Value}{a:Ah}(c:l.length=83)(h:∀i,i<83->l[i]?=some (Zck a i)):l=stC a:=by
 apply Ycs;intro i;by_cases b:i<83
 ·rw[h i b,ZcA a i b]
 ·rw[Ya9 Om,Ya9 (by rw[ZbE];omega)]
theorem ZCG(a:Ah)(k:Nat)(m:a.jy.length<64):((stC a).set (3+a.jy.length) (.int .u8 (k:Int))).set 2 (Vi ((a.jy.length+1:Nat):Int))=stC { a with jy:=k::a.jy }:=by
 refine Ziy (by simp[ZbE]) (fun i j=>?_);rw[Ya0];by_cases g:2=i
 ·subst g;rw[if_pos rfl,if_pos (by simp[ZbE])];rfl
 ·rw[if_neg g,Ya0];by_cases h:3+a.jy.length=i
  ·subst h;rw[if_pos rfl,if_pos (by rw[ZbE];omega)];unfold Zck;rw[if_neg Om,if_neg Om,if_neg Om,if_pos Om,show 3+a.jy.length - 3=a.jy.length by omega]
   congr 2
   rw[Ybz,Yaa,Yb3 (by simp)];simp
  ·rw[if_neg h,ZcA a i j]
   congr 1
   unfold Zck;by_cases c:i=0
   ·rw[if_pos c,if_pos c]
   ·rw[if_neg c,if_neg c];by_cases d:i=1
    ·rw[if_pos d,if_pos d]
    ·have f:¬i=2:=fun e=>g e.symm;rw[if_neg d,if_neg d,if_neg f,if_neg f];by_cases b:i<67
     ·rw[if_pos b,if_pos b]
      congr 2
      show a.jy.reverse.getD (i - 3) 0=(k::a.jy).reverse.getD (i - 3) 0;rw[Ybz,Yaa,Yaa];by_cases l:i - 3<a.jy.length
      ·rw[Ybr (by simpa using l)]
      ·rw[Ya9 (by simp;omega),Ya9 (by simp;omega)]
     ·rw[if_neg b,if_neg b]
theorem ZCF(a:Ah)(q:a.jy.length<=64)(b:0<a.jy.length):((stC a).set 2 (Vi ((a.jy.length - 1:Nat):Int))).set (3+(a.jy.length - 1)) (.int .u8 0)=stC { a with jy:=a.jy.tail }:=by
 obtain⟨k,r,d⟩:∃k r,a.jy=k::r:=by
  cases m:a.jy with
  | nil=>rw[m]at b;simp at b
  | cons k r=>exact⟨k,r,rfl⟩
 refine Ziy (by simp[ZbE]) (fun i n=>?_);have j:a.jy.length - 1=r.length:=by rw[d];simp
 rw[j];have o:r.length<64:=by omega
 rw[Ya0];by_cases l:3+r.length=i
 ·subst l;rw[if_pos rfl,if_pos (by simp[ZbE];omega)];unfold Zck;rw[if_neg Om,if_neg Om,if_neg Om,if_pos Om,show 3+r.length - 3=r.length by omega,d];simp
 ·rw[if_neg l,Ya0];by_cases h:2=i
  ·subst h;rw[if_pos rfl,if_pos (by simp[ZbE])];unfold Zck;rw[d];simp
  ·rw[if_neg h,ZcA a i n]
   congr 1
   unfold Zck;by_cases b:i=0
   ·rw[if_pos b,if_pos b]
   ·rw[if_neg b,if_neg b];by_cases f:i=1
    ·rw[if_pos f,if_pos f]
    ·have g:¬i=2:=fun e=>h e.symm;rw[if_neg f,if_neg f,if_neg g,if_neg g];by_cases c:i<67
     ·rw[if_pos c,if_pos c,d]
      congr 2
      show(k::r).reverse.getD (i - 3) 0=r.reverse.getD (i - 3) 0;rw[Ybz,Yaa,Yaa];by_cases p:i - 3<r.length
      ·rw[Ybr (by simpa using p)]
      ·rw[Ya9 (by simp;omega),Ya9 (by simp;omega)]
     ·rw[if_neg c,if_neg c]
theorem Znj(a:Ah)(j k:Nat)(h:j<16)(f:a.jx.length=16):(stC a).set (67+j) (.int .u8 (k:Int))=stC { a with jx:=a.jx.set j k }:=by
 refine Ziy (by simp[ZbE]) (fun i l=>?_);rw[Ya0];by_cases g:67+j=i
 ·subst g;rw[if_pos rfl,if_pos (by rw[ZbE];omega)];unfold Zck;rw[if_neg Om,if_neg Om,if_neg Om,if_neg Om,show 67+j - 67=j by omega];simp[Yaa,f,h]
 ·rw[if_neg g,ZcA a i l]
  congr 1
  unfold Zck;by_cases c:i=0
  ·rw[if_pos c,if_pos c]
  ·rw[if_neg c,if_neg c];by_cases d:i=1
   ·rw[if_pos d,if_pos d]
   ·rw[if_neg d,if_neg d];by_cases e:i=2
    ·rw[if_pos e,if_pos e]
    ·rw[if_neg e,if_neg e];by_cases b:i<67
     ·rw[if_pos b,if_pos b]
     ·rw[if_neg b,if_neg b]
      congr 2
      show a.jx.getD (i - 67) 0=(a.jx.set j k).getD (i - 67) 0;rw[Yaa,Yaa,Yha Om]
section
variable {P:Program} {ops:Array Oper} {Q:Exit->Act->World->Prop} {md:Region.Mode} {S:World->Prop} {k:Nat}
def ZcJ(P:Program)(md:Region.Mode)(ops:Array Oper)(Q:Exit->Act->World->Prop)(S:World->Prop)(k:Nat):Nat->Array Bool->Act->World->Prop
 | 0,ls,a,w=>Region.ready md ops ls=[]/\Q .normal a w
 | f + 1, ls, a, w => (Region.ready md ops ls = [] -> Q .normal a w) /\ ∀ i ∈ Region.ready md ops ls,
     wpOp P ops Q i (fun a' w'=>((ls.setIfInBounds i true).getD k true=false->S w')/\ZcJ P md ops Q S k f (ls.setIfInBounds i true) a' w') a w
theorem ZcJ.any:∀(f:Nat) (ls:Array Bool) (a:Act) (w:World),ZcJ P md ops Q S k f ls a w->wpAny P md ops Q f ls a w
 | 0,_,_,_,h=>h
 | f+1,_,_,_,h=>⟨h.1,fun i b=>wpOp_mono (fun _ _ c=>ZcJ.any f _ _ _ c.2) (h.2 i b)⟩
def ZfE(md:Region.Mode)(ops:Array Oper)(ls:Array Bool):Bool:=
 (List.range ops.size).all fun j=>!ls.getD j true || ((ops[j]?).map (·.after.all fun e=>!Region.binds md e || ls.getD e.on false)).getD false
def Zhk(md:Region.Mode)(ops:Array Oper)(i:Nat):Nat->Nat->Bool
 | 0,_=>false
 | n+1,j=>((ops[j]?).map (·.after.any fun e=>Region.binds md e && (e.on == i || Zhk md ops i n e.on))).getD false
theorem Zsl{ls:Array Bool} : ZfE md ops ls=true ↔ ∀j o,ops[j]?=some o->ls.getD j true=true->∀e∈o.after,Region.binds md e=true->ls.getD e.on false=true:=by
 unfold ZfE;rw[Ybu];constructor
 ·intro h j o a b e c d;have f:=h j (Yb9.2 (Yae.1 a).1);rw[b,a]at f;simp only[Bool.not_true,Yft,Ybf,Ya6,Array.all_eq_true']at f;have g:=f e c;rw[d]at g;simpa using g
 ·intro h j b;rw[Yb9]at b;have a:ops[j]?=some ops[j]:=Array.getElem?_eq_getElem b;cases i:ls.getD j true with
  | false=>rfl
  | true=>
   rw[a];simp only[Bool.not_true,Yft,Ybf,Ya6,Array.all_eq_true'];intro e c;cases d:Region.binds md e with
   | false=>rfl
   | true=>simpa using h j _ a i e c d
theorem ZCb{ls:Array Bool}{j:Nat}(h:ZfE md ops ls=true)(m:j∈Region.ready md ops ls):ZfE md ops (ls.setIfInBounds j true)=true:=by
 rw[Zsl]at h ⊢;intro i o a d e f g;obtain⟨_,oj,l,c⟩:=mem_ready.1 m;by_cases b:j=i
 ·subst b;rw[l]at a;injection a with a;subst a;exact getD_set_true (c e f g)
 ·rw[getD_set_ne true b]at d;exact getD_set_true (h i o a d e f g)
theorem Zs6{ls:Array Bool}{i:Nat}(h:ZfE md ops ls=true)(f:ls.getD i true=false):∀(n j:Nat),Zhk md ops i n j=true->ls.getD j true=false
 | 0,_,a=>by cases a
 | n + 1, j, a => by
   cases p:ls.getD j true with
   | false=>rfl
   | true=>
     unfold Zhk at a;cases c:ops[j]? with
     | none=>rw[c]at a;cases a
     | some o=>
       rw[c]at a;simp only[Ybf,Ya6,Array.any_eq_true',Yas,Yct,beq_iff_eq]at a;obtain⟨e,q,r,g⟩:=a;have b:=Zsl.1 h j o c p e q r
       have l:ls.getD e.on true=false:=by
         rcases g with m|s
         · rw[m];exact f
         · exact Zs6 h f n _ s
       exfalso
       rcases Yav e.on ls.size with d|d
       · simp[d]at b l;rw[l]at b;cases b
       · simp[d]at b
theorem Ztl{i n:Nat}{oi:Oper}{v:Value}(A:ops[i]?=some oi)(l:∀(j:Nat) (o:Oper) cs b,ops[j]?=some o->o.op≠.select cs b)
  (R:∀c a w,Q (.panic c) (a.put oi.dst v) w->Q (.panic c) a w) (T:Zhk md ops i n k=true) (E:i≠k) :
  ∀(f:Nat) (ls:Array Bool) (a:Act) (w:World),ZfE md ops ls=true->
   (∀j oj,ops[j]?=some oj->j≠i->ls.getD j true=false->(∀e∈oj.after,Region.binds md e=true->e.on≠i)->oi.apart ops oj=true)->
   i∈Region.ready md ops ls->YieldsIf P ops S oi v a->S w->
   ZcJ P md ops Q S k f (ls.setIfInBounds i true) (a.put oi.dst v) w->ZcJ P md ops Q S k (f+1) ls a w
 | 0, ls, a, w, F, g, p, B, s, H => by
   refine⟨fun h=>(by rw[h]at p;cases p),fun j t=>?_⟩;by_cases d:j=i
   · subst d;exact B.wpOp A s ⟨fun _=>s,H⟩
   · have C:=ready_mono t d
     rw[H.1]at C;cases C
 | f + 1, ls, a, w, F, g, p, B, s, H => by
   refine⟨fun h=>(by rw[h]at p;cases p),fun j t=>?_⟩;by_cases d:j=i
   · subst d;exact B.wpOp A s ⟨fun _=>s,H⟩
   · have C:=H.2 j (ready_mono t d)
     obtain⟨x,oj,y,K⟩:=mem_ready.1 t;have q:=(mem_ready.1 p).1
     have L : ∀ e ∈ oj.after, Region.binds md e = true -> e.on ≠ i := fun e X Y U => by
       have r:=K e X Y;rw[U]at r;rcases Yav i ls.size with M|M
       · simp[M]at q r;rw[q]at r;cases r
       · simp[M]at r
     have z:=ZCb F t;have D:(ls.setIfInBounds j true).getD i true=false:=by rw[getD_set_ne true d];exact q
     have N:(ls.setIfInBounds j true).getD k true=false:=Zs6 z D n k T;have r:=wpOp_putIf y (g j oj y d x L) (fun cs b=>l i oi cs b A) (fun cs b=>l j oj cs b y) R B C;refine wpOp_mono (fun a' u O=>?_) r;have G:S u:=O.2.1 (by rw[Ye4 _ _ (Ne.symm d),getD_set_ne true E];exact N);refine⟨fun _=>G,Ztl A l R T E f (ls.setIfInBounds j true) a' u z (fun m om Z V I W=>g m om Z V ?_ W) (ready_mono p (Ne.symm d)) O.1 G ?_⟩
     · by_cases J:j=m
       · subst J;exact x
       · rw[getD_set_ne true J]at I;exact I
     · rw[Ye4 _ _ d]
       exact O.2.2
theorem ZeD{i d:Nat}{oi:Oper}{v:Value}{f:Nat}{ls:Array Bool}{a:Act}{w:World}(b:ops[i]?=some oi)(hd:oi.dst=some d)(e:(Region.noSelect ops && Region.free md ops ls i && (Region.ready md ops ls).contains i && Zhk md ops i ops.size k && ZfE md ops ls && i != k)=true)
  (g:∀c a w,Q (.panic c) (a.put oi.dst v) w->Q (.panic c) a w) (j:YieldsIf P ops S oi v a) (l:S w)
  (h:ZcJ P md ops Q S k f (ls.setIfInBounds i true) { a with tmps:=a.tmps.setIfInBounds d v } w):ZcJ P md ops Q S k (f+1) ls a w:=by
 simp only[Yas,bne_iff_ne]at e;obtain⟨⟨⟨⟨⟨m,n⟩,o⟩,p⟩,q⟩,r⟩:=e;exact Ztl b (Region.noSelect_spec m) g p r f ls a w q (Region.free_spec b n) (by simpa using o) j l (by rw[hd];exact h)
theorem Z4{i:Nat}{o:Oper}{f:Nat}{ls:Array Bool}{a:Act}{w:World}(b:Region.ready md ops ls=[i])(g:ops[i]?=some o)
  (h:∀K':Act->World->Prop,Shut (∀a w,S w->(S w->ZcJ P md ops Q S k f (ls.setIfInBounds i true) a w)->K' a w)->if Region.wanted o (yielded ops a.tmps)=true then Oper.wp P o a w K' Q else K' (a.put o.dst undef) w):ZcJ P md ops Q S k (f+1) ls a w:=by
 refine⟨fun c=>(by rw[b]at c;cases c),fun j d=>?_⟩;rw[b,Yap]at d;subst d;exact wpOp_step g (fun K' l=>h K' (fun a w e m=>l a w ⟨fun _=>e,m e⟩))
theorem Zbl{o:Oper}{f:Nat}{ls:Array Bool}{a:Act}{w:World}(e:Region.ready md ops ls=[k])(d:Region.ready md ops (ls.setIfInBounds k true)=[])(i:ops[k]?=some o)(l:(ls.setIfInBounds k true).getD k true=true)
  (h:∀K':Act->World->Prop,Shut (∀a w,Q .normal a w->K' a w)->if Region.wanted o (yielded ops a.tmps)=true then Oper.wp P o a w K' Q else K' (a.put o.dst undef) w):ZcJ P md ops Q S k (f+1) ls a w:=by
 refine⟨fun b=>(by rw[e]at b;cases b),fun j c=>?_⟩;rw[e,Yap]at c;subst c;refine wpOp_step i (fun K' m=>h K' (fun a w g=>m a w ⟨fun b=>(by rw[l]at b;cases b),?_⟩));cases f with
 | zero=>exact⟨d,g⟩
 | succ f=>exact⟨fun _=>g,fun j c=>by rw[d]at c;cases c⟩
theorem Zbn{id:Nat}{a:Act}{w:World}(k:Nat)(S:World->Prop)(b:P.follows .mixedOrders=true)(c:S w.drew)(h:S w.drew->ZcJ P .any ops Q S k ops.size (Array.replicate ops.size false) a w.drew):(Code.region id ops true).wp P Q a w:=
 wp_region_any b (ZcJ.any _ _ _ _ (h c))
end
end Go.Proofs.YtkodhpilkaihjaaGreatDoor
namespace Go.Proofs.YtkodhpilkaihjaaGreatDoor
open Go.RowKit LS Go.Proofs.Tryz
section
variable {P:Program} {ops:Array Oper} {Q:Exit->Act->World->Prop} {md:Region.Mode} {S:World->Prop} {k:Nat}
theorem Za (i : Nat) {d : Nat} {oi : Oper} {v : Value} {f : Nat} {ls ls' : Array Bool} {a : Act} {tm' : Array Value} {w : World} (b : S w) (e : ops[i]? = some oi := by rfl) (hd : oi.dst = some d := by rfl) (g : (Region.noSelect ops && Region.free md ops ls i && (Region.ready md ops ls).contains i && Zhk md ops i ops.size k && ZfE md ops ls && i != k) = true := by kernel_rfl)
    (j:∀c a w,Q (.panic c) (a.put oi.dst v) w->Q (.panic c) a w:=by exact fun _ _ _ h=>h) (l:YieldsIf P ops S oi v a:=by(refine Or.inl ⟨by rfl,?_⟩;intro w hSw;go_simp;try with_reducible rfl)) (m:ls.setIfInBounds i true=ls':=by(try simp only[Zset]);rfl) (n:a.tmps.setIfInBounds d v=tm':=by(try simp only[Zset]);rfl)
    (h:ZcJ P md ops Q S k f ls' { a with tmps:=tm' } w):ZcJ P md ops Q S k (f+1) ls a w:=by
  subst m n;exact ZeD e hd g j l b h
end
end Go.Proofs.YtkodhpilkaihjaaGreatDoor
namespace Go.Proofs.YtkodhpilkaihjaaGreatDoor
open Go.Proofs.Tryz
open Go.RowKit Go.Extern.Stop Go.Stop Go.Extern LS
def ZoX : Array Value → Sem Value := ReflectliteType.method fun t => do Rtype.noPackHeld "Comparable" t; pure (.bool (← typeInfo t).comparable)
theorem Tryz.isTypeOf(v:Value)(w:World):(Extern.ReflectliteType.typeOf #[.iface 491 v]).run Tryz.prog w=.ok (.iface 316 (.agg #[.pointer (some ⟨20,491,none⟩)])) w:=by kernel_rfl
theorem Tryz.isComparable(w:World):(ZoX #[.agg #[.pointer (some ⟨20,491,none⟩)]]).run Tryz.prog w=.ok (.bool true) w:=by kernel_rfl
theorem Tryz.isMethodComparable (v : Value) (w : World) : (Go.method 620 316 v "Comparable").run Tryz.prog w = .ok (353, v) w := by kernel_rfl
theorem Tryz.isComp:(Tryz.prog.info? 491).map (·.comparable)=some true:=by kernel_rfl
theorem Tryz.isSize:(Tryz.prog.info? 509).map (·.size)=some 1:=by kernel_rfl
theorem Tryz.noIsE(v:Value)(xT:TypeId)(w:World):(Instr.typeAssert (.iface 491 v) xT 318 true).run Tryz.prog w=.ok (.tuple #[.nilIface,.bool false]) w:=run_typeAssert_lacksB Tryz.underlying318 Kr Kr v xT w
theorem Tryz.noUnwrapE(v:Value)(xT:TypeId)(w:World):(Instr.typeAssert (.iface 491 v) xT 321 true).run Tryz.prog w=.ok (.tuple #[.nilIface,.bool false]) w:=run_typeAssert_lacksB Tryz.underlying321 Kr Kr v xT w
theorem Tryz.noUnwrapsE(v:Value)(xT:TypeId)(w:World):(Instr.typeAssert (.iface 491 v) xT 322 true).run Tryz.prog w=.ok (.tuple #[.nilIface,.bool false]) w:=run_typeAssert_lacksB Tryz.underlying322 Kr Kr v xT w
theorem Tryz.noIsW(v:Value)(xT:TypeId)(w:World):(Instr.typeAssert (.iface 115 v) xT 318 true).run Tryz.prog w=.ok (.tuple #[.nilIface,.bool false]) w:=run_typeAssert_lacksB Tryz.underlying318 Kr Kr v xT w
theorem Tryz.hasUnwrapW(v:Value)(xT:TypeId)(w:World):(Instr.typeAssert (.iface 115 v) xT 321 true).run Tryz.prog w=.ok (.tuple #[.iface 115 v,.bool true]) w:=run_typeAssert_hasB Tryz.underlying321 Kr v xT w
theorem Tryz.methodUnwrap (v : Value) (w : World) : (Go.method 620 115 v "Unwrap").run Tryz.prog w = .ok (340, v) w := by kernel_rfl
theorem Zhn (args : Array Value) (w : World) : (callFunc 82 args).run prog w = ((ReflectliteType.typeOf args).run prog w).andThen fun v u => .ok (.value v) u :=
  run_callFunc_extern func82 Kr Kr Kr Kr args w
theorem Zkz (args : Array Value) (w : World) : (callFunc 353 args).run prog w = ((ZoX args).run prog w).andThen fun v u => .ok (.value v) u :=
  run_callFunc_extern func353 Kr Kr Kr Kr args w
theorem Zf7{a:Addr}{w:World} :
  CP 40 #[.iface 491 (.pointer (some a)),.iface 491 (.pointer (some a))] w fun e u=>e=.returned (.bool true)/\u=w:=by
 obtain⟨i,c,b⟩:=Ybk.1 Tryz.isComp;obtain⟨j,d,f⟩:=Ybk.1 Tryz.isSize;have k:=Zhn;have g:=Zkz;have tT:=Tryz.isTypeOf;have cT:=Tryz.isComparable;have mR:=Tryz.isMethodComparable;have h:=run_eql_iface_ptr_same (P:=prog) w a underlying60 underlying491 c b d;go_enter func40,ntmps40;go_wp2;refine wp_loop_rounds 1 ?_;rw[rounds_succ];go_wp2;go_ret;exact⟨rfl,rfl⟩
theorem Zxl{b:Addr}{w:World} :
  CP 40 #[.nilIface,.iface 491 (.pointer (some b))] w fun e u=>e=.returned (.bool false)/\u=w:=by
 have a:=run_eql_iface_nil_left (P:=prog) w 491 (.pointer (some b)) underlying60;go_enter func40,ntmps40;go_wp2;go_ret;exact⟨rfl,rfl⟩
theorem Zxm{a b:Addr}{ca cb:Array Value}{ta tb:TypeId}{w:World}(d:a≠b)(g:w.heap[a.block]?=some (.cells ca ta (0,0)))(h:w.heap[b.block]?=some (.cells cb tb (0,0))) :
  CP 40 #[.iface 491 (.pointer (some a)),.iface 491 (.pointer (some b))] w fun e u=>e=.returned (.bool false)/\u=w:=by
 obtain⟨i,k,c⟩:=Ybk.1 Tryz.isComp;obtain⟨j,l,f⟩:=Ybk.1 Tryz.isSize;have o:=Zhn;have m:=Zkz;have tT:=Tryz.isTypeOf;have cT:=Tryz.isComparable;have mR:=Tryz.isMethodComparable;have nE:=Tryz.noIsE;have uE:=Tryz.noUnwrapE;have vE:=Tryz.noUnwrapsE;have nW:=Tryz.noIsW;have uW:=Tryz.hasUnwrapW;have mU:=Tryz.methodUnwrap;have n:=run_eql_iface_ptr_other (P:=prog) w underlying60 underlying491 k c l (by rw[f];decide) d g h;go_enter func40,ntmps40;go_wp2;refine wp_loop_rounds 1 ?_;rw[rounds_succ];go_wp2;go_ret;exact⟨rfl,rfl⟩
theorem Zf8{pb:Nat}{b:Addr}{w:World}(l:w.cell? ⟨pb,2,none⟩=some (.iface 491 (.pointer (some b)))) :
  CP 40 #[.iface 115 (Vp pb),.iface 491 (.pointer (some b))] w fun e u=>e=.returned (.bool true)/\u=w:=by
 obtain⟨i,c,a⟩:=Ybk.1 Tryz.isComp;obtain⟨j,d,f⟩:=Ybk.1 Tryz.isSize;have m:=Zhn;have g:=Zkz;have tT:=Tryz.isTypeOf;have cT:=Tryz.isComparable;have mR:=Tryz.isMethodComparable;have nE:=Tryz.noIsE;have uE:=Tryz.noUnwrapE;have vE:=Tryz.noUnwrapsE;have nW:=Tryz.noIsW;have uW:=Tryz.hasUnwrapW;have mU:=Tryz.methodUnwrap;have h:=run_eql_iface_ptr_same (P:=prog) w b underlying60 underlying491 c a d;have k:=run_eql_iface_types (P:=prog) 115 491 (Vp pb) (.pointer (some b)) underlying60 Dc w;go_enter func40,ntmps40;go_wp2;refine wp_loop_rounds 2 ?_;rw[rounds_succ];go_wp2;rw[rounds_succ];go_wp2;go_ret;exact⟨rfl,rfl⟩
theorem Zxn{pb:Nat}{b a:Addr}{ca cb:Array Value}{ta tb:TypeId}{w:World}(p:w.cell? ⟨pb,2,none⟩=some (.iface 491 (.pointer (some a))))(d:a≠b)(g:w.heap[a.block]?=some (.cells ca ta (0,0)))(h:w.heap[b.block]?=some (.cells cb tb (0,0))) :
  CP 40 #[.iface 115 (Vp pb),.iface 491 (.pointer (some b))] w fun e u=>e=.returned (.bool false)/\u=w:=by
 obtain⟨i,k,c⟩:=Ybk.1 Tryz.isComp;obtain⟨j,l,f⟩:=Ybk.1 Tryz.isSize;have q:=Zhn;have m:=Zkz;have tT:=Tryz.isTypeOf;have cT:=Tryz.isComparable;have mR:=Tryz.isMethodComparable;have nE:=Tryz.noIsE;have uE:=Tryz.noUnwrapE;have vE:=Tryz.noUnwrapsE;have nW:=Tryz.noIsW;have uW:=Tryz.hasUnwrapW;have mU:=Tryz.methodUnwrap;have n:=run_eql_iface_ptr_other (P:=prog) w underlying60 underlying491 k c l (by rw[f];decide) d g h;have o:=run_eql_iface_types (P:=prog) 115 491 (Vp pb) (.pointer (some b)) underlying60 Dc w;go_enter func40,ntmps40;go_wp2;refine wp_loop_rounds 2 ?_;rw[rounds_succ];go_wp2;rw[rounds_succ];go_wp2;go_ret;exact⟨rfl,rfl⟩
open Go.RowKit LS Go.Proofs.Tryz
theorem Vars.all{w:World}{A:Nat->Addr}{m:Int}(h:Vars w A m):∀g,g<13->w.cell? ⟨g,0,none⟩=some (.iface 491 (.pointer (some (A g)))):=fun g a=>h.sent g (by unfold ZTz;simp;omega)
theorem Zgv {w : World} {A : Nat -> Addr} {m : Int} {fa g h : Nat} (a : Vars w A m) (f : w.cell? ⟨fa, 2, none⟩ = some (.iface 491 (.pointer (some (A g))))) (b : g ∈ ZTz := by decide) (d : h ∈ ZTz := by decide) (i : g ≠ h := by decide) :
    CP 40 #[.iface 115 (Vp fa),.iface 491 (.pointer (some (A h)))] w fun e u=>e=.returned (.bool false)/\u=w:=by
  obtain⟨c,t,r⟩:=a.row g b;obtain⟨c',t',r'⟩:=a.row h d;exact Zxn f (a.apart _ b _ d i) r r'
theorem Zg7 {w : World} {A : Nat -> Addr} {m : Int} {g h : Nat} (a : Vars w A m) (b : g ∈ ZTz := by decide) (d : h ∈ ZTz := by decide) (f : g ≠ h := by decide) :
    CP 40 #[.iface 491 (.pointer (some (A g))),.iface 491 (.pointer (some (A h)))] w fun e u=>e=.returned (.bool false)/\u=w:=by
  obtain⟨c,t,r⟩:=a.row g b;obtain⟨c',t',r'⟩:=a.row h d;exact Zxm (a.apart _ b _ d f) r r'
theorem Zik(A:Nat->Addr)(m:Int)(w:World)(a:Vars w A m) :
  CP 22 #[.nilIface] w fun e u=>e=.returned (Vi 0)/\u=w:=by
 have v:=a.all;go_enter func22,ntmps22
 iterate 13 (go_wp2_with fail;refine cret (Zxl) ?_)
 go_wp2;go_ret;exact⟨rfl,rfl⟩
theorem Zzt(A:Nat->Addr)(m:Int)(w:World)(a:Vars w A m)(fa:Nat)(b:w.cell? ⟨fa,2,none⟩=some (.iface 491 (.pointer (some (A 8))))) :
  CP 22 #[.iface 115 (Vp fa)] w fun e u=>e=.returned (Vi 9)/\u=w:=by
 have v:=a.all;go_enter func22,ntmps22
 iterate 8 (go_wp2_with fail;refine cret (Zgv a b) ?_)
 go_wp2_with fail
 refine cret (Zf8 b) ?_;go_wp2;go_ret;exact⟨rfl,rfl⟩
theorem ZzB(A:Nat->Addr)(m:Int)(w:World)(a:Vars w A m) :
  CP 22 #[.iface 491 (.pointer (some (A 9)))] w fun e u=>e=.returned (Vi 10)/\u=w:=by
 have v:=a.all;go_enter func22,ntmps22
 iterate 9 (go_wp2_with fail;refine cret (Zg7 a) ?_)
 go_wp2_with fail
 refine cret (Zf7) ?_;go_wp2;go_ret;exact⟨rfl,rfl⟩
theorem Zzx(A:Nat->Addr)(m:Int)(w:World)(a:Vars w A m)(fa:Nat)(b:w.cell? ⟨fa,2,none⟩=some (.iface 491 (.pointer (some (A 10))))) :
  CP 22 #[.iface 115 (Vp fa)] w fun e u=>e=.returned (Vi 11)/\u=w:=by
 have v:=a.all;go_enter func22,ntmps22
 iterate 10 (go_wp2_with fail;refine cret (Zgv a b) ?_)
 go_wp2_with fail
 refine cret (Zf8 b) ?_;go_wp2;go_ret;exact⟨rfl,rfl⟩
theorem ZzA(A:Nat->Addr)(m:Int)(w:World)(a:Vars w A m)(fa:Nat)(b:w.cell? ⟨fa,2,none⟩=some (.iface 491 (.pointer (some (A 11))))) :
  CP 22 #[.iface 115 (Vp fa)] w fun e u=>e=.returned (Vi 12)/\u=w:=by
 have v:=a.all;go_enter func22,ntmps22
 iterate 11 (go_wp2_with fail;refine cret (Zgv a b) ?_)
 go_wp2_with fail
 refine cret (Zf8 b) ?_;go_wp2;go_ret;exact⟨rfl,rfl⟩
theorem ZtR{t:Value}{w:World} :
  CP 41 #[.nilIface,t] w fun e u=>e=.returned (.bool false)/\u=w:=by
 go_enter func41,ntmps41;go_wp2;go_ret;exact⟨rfl,rfl⟩
def Zlu:Array Value->Sem Value:=fun args=>ReflectliteValue.unpack (args.getD 0 (.tuple #[]))
def Zo0 : Array Value → Sem Value := ReflectliteValue.methodAny (ReflectliteValue.valueError "reflectlite.Value.Type" 0) fun t _ _ _ => ReflectliteType.toType t
def Zls : Array Value → Sem Value := ReflectliteValue.method (ReflectliteValue.valueError "reflectlite.Value.IsNil" 0) ReflectliteValue.isNil
def Zlt:Array Value->Sem Value:=ReflectliteType.abiMethod fun t=>do pure (.int .u8 (<-Rtype.kind t))
def ZoY:Array Value->Sem Value:=ReflectliteType.method ReflectliteType.elem
def ZoZ : Array Value → Sem Value := ReflectliteType.relation "Implements" ReflectliteType.implements_
def Zlq : Array Value → Sem Value := ReflectliteType.relation "AssignableTo" ReflectliteType.assignableTo
def Zlr : Array Value → Sem Value := ReflectliteValue.method (ReflectliteValue.valueError "reflectlite.Value.Elem" 0) ReflectliteValue.elem
theorem Ztx (args : Array Value) (w : World) : (callFunc 84 args).run prog w = ((Zlu args).run prog w).andThen fun v u => .ok (.value v) u :=
  run_callFunc_extern func84 Kr Kr Kr Kr args w
theorem Ztw (args : Array Value) (w : World) : (callFunc 85 args).run prog w = ((Zo0 args).run prog w).andThen fun v u => .ok (.value v) u :=
  run_callFunc_extern func85 Kr Kr Kr Kr args w
theorem Ztu (args : Array Value) (w : World) : (callFunc 86 args).run prog w = ((Zls args).run prog w).andThen fun v u => .ok (.value v) u :=
  run_callFunc_extern func86 Kr Kr Kr Kr args w
theorem Ztv (args : Array Value) (w : World) : (callFunc 336 args).run prog w = ((Zlt args).run prog w).andThen fun v u => .ok (.value v) u :=
  run_callFunc_extern func336 Kr Kr Kr Kr args w
theorem Zts (args : Array Value) (w : World) : (callFunc 354 args).run prog w = ((ZoY args).run prog w).andThen fun v u => .ok (.value v) u :=
  run_callFunc_extern func354 Kr Kr Kr Kr args w
theorem Ztt (args : Array Value) (w : World) : (callFunc 355 args).run prog w = ((ZoZ args).run prog w).andThen fun v u => .ok (.value v) u :=
  run_callFunc_extern func355 Kr Kr Kr Kr args w
theorem Ztr (args : Array Value) (w : World) : (callFunc 352 args).run prog w = ((Zlq args).run prog w).andThen fun v u => .ok (.value v) u :=
  run_callFunc_extern func352 Kr Kr Kr Kr args w
theorem ZE2 (args : Array Value) (w : World) : (callFunc 150 args).run prog w = ((Zlr args).run prog w).andThen fun v u => .ok (.value v) u :=
  run_callFunc_extern func150 Kr Kr Kr Kr args w
theorem ZE3 (args : Array Value) (w : World) : (callFunc 151 args).run prog w = ((ReflectliteValue.set args).run prog w).andThen fun v u => .ok (.value v) u :=
  run_callFunc_extern func151 Kr Kr Kr Kr args w
theorem Zpe(t:Addr)(w:World):(Zlu #[.iface 117 (.pointer (some t))]).run prog w
  = .ok (.agg #[.pointer (some ⟨20,117,none⟩),Vp w.heap.size,.int .u64 150]) (w.alloc (.cells #[.pointer (some t)] 117)):=by kernel_rfl
theorem Zpd(a:Addr)(w:World):(Zo0 #[.agg #[.pointer (some ⟨20,117,none⟩),.pointer (some a),.int .u64 150]]).run prog w
  = .ok (.iface 316 (.agg #[.pointer (some ⟨20,117,none⟩)])) w:=by kernel_rfl
theorem ZqQ (h : Value) (w : World) : (Go.method 620 316 (.agg #[h]) "Kind").run Tryz.prog w = .ok (336, h) w := by kernel_rfl
theorem Zpc(w:World):(Zlt #[.pointer (some ⟨20,117,none⟩)]).run prog w=.ok (.int .u8 22) w:=by kernel_rfl
theorem Zpb(w:World):(Zlt #[.pointer (some ⟨20,115,none⟩)]).run prog w=.ok (.int .u8 22) w:=by kernel_rfl
theorem ZqO (h : Value) (w : World) : (Go.method 620 316 (.agg #[h]) "Elem").run Tryz.prog w = .ok (354, .agg #[h]) w := by kernel_rfl
theorem ZqP (h : Value) (w : World) : (Go.method 620 316 (.agg #[h]) "Implements").run Tryz.prog w = .ok (355, .agg #[h]) w := by kernel_rfl
theorem ZqN (h : Value) (w : World) : (Go.method 620 316 (.agg #[h]) "AssignableTo").run Tryz.prog w = .ok (352, .agg #[h]) w := by kernel_rfl
theorem Zo8(w:World):(ZoY #[.agg #[.pointer (some ⟨20,117,none⟩)]]).run prog w=.ok (.iface 316 (.agg #[.pointer (some ⟨20,115,none⟩)])) w:=by kernel_rfl
theorem Zo9(w:World):(ZoZ #[.agg #[.pointer (some ⟨20,115,none⟩)],.iface 316 (.agg #[.pointer (some ⟨20,60,none⟩)])]).run prog w=.ok (.bool true) w:=by kernel_rfl
theorem Zv0(v:Value)(w:World):(ReflectliteType.typeOf #[.iface 115 v]).run prog w=.ok (.iface 316 (.agg #[.pointer (some ⟨20,115,none⟩)])) w:=by kernel_rfl
theorem ZvW(w:World):(Zlq #[.agg #[.pointer (some ⟨20,115,none⟩)],.iface 316 (.agg #[.pointer (some ⟨20,115,none⟩)])]).run prog w=.ok (.bool true) w:=by kernel_rfl
theorem ZvX(w:World):(Zlq #[.agg #[.pointer (some ⟨20,491,none⟩)],.iface 316 (.agg #[.pointer (some ⟨20,115,none⟩)])]).run prog w=.ok (.bool false) w:=by kernel_rfl
theorem Zv1(e:Addr)(w:World):(Zlu #[.iface 115 (.pointer (some e))]).run prog w
  = .ok (.agg #[.pointer (some ⟨20,115,none⟩),Vp w.heap.size,.int .u64 150]) (w.alloc (.cells #[.pointer (some e)] 115)):=by kernel_rfl
theorem Zzm(v:Value)(xT:TypeId)(w:World):(Instr.typeAssert (.iface 491 v) xT 327 true).run prog w=.ok (.tuple #[.nilIface,.bool false]) w:=run_typeAssert_lacksB underlying327 Kr Kr v xT w
theorem Zrv(a:Addr)(w:World):(ReflectliteValue.parts (.agg #[.pointer (some ⟨20,117,none⟩),.pointer (some a),.int .u64 150])).run prog w=.ok (some (117,a,150)) w:=by kernel_rfl
theorem Zpa(a p:Addr)(W:World)(b:W.cell? a=some (.pointer (some p))) :
  (Zls #[.agg #[.pointer (some ⟨20,117,none⟩),.pointer (some a),.int .u64 150]]).run prog W=.ok (.bool false) W:=by
 refine(congrArg (fun q=>Sem.run prog q W) (show Zls _=(ReflectliteValue.parts (.agg #[.pointer (some ⟨20,117,none⟩),.pointer (some a),.int .u64 150]) >>= fun r=>_) from rfl)).trans ?_;simp only[Ye5,Zrv,Result.andThen];simp[ReflectliteValue.isNil,loadVar,isAgg,underlying,underlying117,b,Result.andThen]
theorem Zz6(w:World):(Rtype.elem? 117).run prog w=.ok (some 115) w:=by kernel_rfl
theorem Zz7(p:Addr)(w:World):(ReflectliteValue.mk 115 p ReflectliteValue.flagAddr).run prog w=.ok (.agg #[.pointer (some ⟨20,115,none⟩),.pointer (some p),.int .u64 406]) w:=by kernel_rfl
theorem ZvY(a p:Addr)(W:World)(b:W.cell? a=some (.pointer (some p))) :
  (Zlr #[.agg #[.pointer (some ⟨20,117,none⟩),.pointer (some a),.int .u64 150]]).run prog W
   = .ok (.agg #[.pointer (some ⟨20,115,none⟩),.pointer (some p),.int .u64 406]) W:=by
 refine(congrArg (fun q=>Sem.run prog q W) (show Zlr _=(ReflectliteValue.parts (.agg #[.pointer (some ⟨20,117,none⟩),.pointer (some a),.int .u64 150]) >>= fun r=>_) from rfl)).trans ?_;simp only[Ye5,Zrv,Result.andThen];simp[ReflectliteValue.elem,loadVar,isAgg,underlying,underlying117,b,Result.andThen,Zz6,Zz7]
theorem Zz9(a:Addr)(w:World):(ReflectliteValue.parts (.agg #[.pointer (some ⟨20,115,none⟩),.pointer (some a),.int .u64 406])).run prog w=.ok (some (115,a,406)) w:=by kernel_rfl
theorem Zz8(a:Addr)(w:World):(ReflectliteValue.parts (.agg #[.pointer (some ⟨20,115,none⟩),.pointer (some a),.int .u64 150])).run prog w=.ok (some (115,a,150)) w:=by kernel_rfl
theorem Zz5(w:World):(Rtype.directlyAssignable 115 115).run prog w=.ok true w:=by kernel_rfl
theorem ZvZ(ta b e:Addr)(old:Value)(W:World)(a:W.cell? b=some (.pointer (some e)))(c:W.cell? ta=some old)(d:W.frozen? ta=false) :
  (ReflectliteValue.set #[.agg #[.pointer (some ⟨20,115,none⟩),.pointer (some ta),.int .u64 406],.agg #[.pointer (some ⟨20,115,none⟩),.pointer (some b),.int .u64 150]]).run prog W
   = .ok (.tuple #[]) (W.setCell ta (.pointer (some e))):=by
 refine(congrArg (fun q=>Sem.run prog q W) (show ReflectliteValue.set _=(ReflectliteValue.parts (.agg #[.pointer (some ⟨20,115,none⟩),.pointer (some ta),.int .u64 406]) >>= fun r=>ReflectliteValue.parts (.agg #[.pointer (some ⟨20,115,none⟩),.pointer (some b),.int .u64 150]) >>= fun s=>_) from rfl)).trans ?_;simp only[Ye5,Zz9,Zz8,Result.andThen];simp[ReflectliteValue.flagAddr,loadVar,isAgg,underlying,underlying115,a,Result.andThen,Zz5,storeVar,Value.cells,storeCells,Addr.add];rw[run_store prog W ta _ _ (by rfl)];simp[c,d]
theorem ZtP{e t:Addr}(old:Value){w:World}(c:w.cell? ⟨13,0,none⟩=some (.iface 316 (.agg #[.pointer (some ⟨20,60,none⟩)])))(a:w.cell? t=some old)(d:w.frozen? t=false) :
  CP 41 #[.iface 115 (.pointer (some e)),.iface 117 (.pointer (some t))] w fun ev u=>ev=.returned (.bool true)/\u=((((w.alloc (.cells #[.pointer (some t)] 117)).alloc (.cells #[.pointer (some ⟨20,117,none⟩),Vp w.heap.size,.int .u64 150] 196)).alloc (.cells #[.pointer (some ⟨20,117,none⟩),Vp w.heap.size,.int .u64 150] 196)).alloc (.cells #[.pointer (some e)] 115)).setCell t (.pointer (some e)):=by
 have o:=Ztx;have p:=Ztw;have q:=Ztu;have g:=Ztv;have h:=Zts;have i:=Ztt;have j:=Zhn;have k:=Ztr;have l:=ZE2;have m:=ZE3;have tO:=Zv0;have mA:=ZqN;have a25:=ZvW;have v25:=Zv1;have f6:=Zpe;have f7:=Zpd;have mK:=ZqQ;have mE:=ZqO;have mI:=ZqP;have k27:=Zpc;have k25:=Zpb;have e27:=Zo8;have i25:=Zo9;have n8:=Zpa ⟨w.heap.size,0,none⟩ t ((w.alloc (.cells #[.pointer (some t)] 117)).alloc (.cells #[.pointer (some ⟨20,117,none⟩),Vp w.heap.size,.int .u64 150] 196)) (by simp);have f:13<w.heap.size:=Yai _ _ c
 have n:((w.alloc (.cells #[.pointer (some t)] 117)).alloc (.cells #[.pointer (some ⟨20,117,none⟩),Vp w.heap.size,.int .u64 150] 196)).cell? ⟨13,0,none⟩=some (.iface 316 (.agg #[.pointer (some ⟨20,60,none⟩)])):=by
  rw[Ybm _ _ ⟨13,0,none⟩ (by simp;omega),Ybm _ _ ⟨13,0,none⟩ f];exact c
 have b:=Yai _ _ a;have el:=ZvY ⟨w.heap.size,0,none⟩ t (((w.alloc (.cells #[.pointer (some t)] 117)).alloc (.cells #[.pointer (some ⟨20,117,none⟩),Vp w.heap.size,.int .u64 150] 196)).alloc (.cells #[.pointer (some ⟨20,117,none⟩),Vp w.heap.size,.int .u64 150] 196)) (by rw[Ybm _ _ ⟨w.heap.size,0,none⟩ (by simp;omega)];simp)
 have st:=ZvZ t ⟨w.heap.size+1+1+1,0,none⟩ e old ((((w.alloc (.cells #[.pointer (some t)] 117)).alloc (.cells #[.pointer (some ⟨20,117,none⟩),Vp w.heap.size,.int .u64 150] 196)).alloc (.cells #[.pointer (some ⟨20,117,none⟩),Vp w.heap.size,.int .u64 150] 196)).alloc (.cells #[.pointer (some e)] 115))
  (by rw[World.cell?_alloc_at _ _ _ _ (by simp)];rfl)
  (by rw[Ybm _ _ t (by simp;omega),Ybm _ _ t (by simp;omega),Ybm _ _ t (by simp;omega),Ybm _ _ t b];exact a)
  (by rw[Ydc _ _ t (by simp;omega),Ydc _ _ t (by simp;omega),Ydc _ _ t (by simp;omega),Ydc _ _ t (Nat.ne_of_lt b)];exact d)
 go_enter func41,ntmps41;go_wp2;refine wp_loop_rounds 1 ?_;rw[rounds_succ];go_wp2;go_ret;exact⟨rfl,rfl⟩
theorem ZtQ{e t:Addr}{w:World}(a:w.cell? ⟨13,0,none⟩=some (.iface 316 (.agg #[.pointer (some ⟨20,60,none⟩)]))) :
  CP 41 #[.iface 491 (.pointer (some e)),.iface 117 (.pointer (some t))] w fun ev u=>ev=.returned (.bool false)/\BW w u:=by
 have j:=Ztx;have k:=Ztw;have l:=Ztu;have c:=Ztv;have d:=Zts;have f:=Ztt;have g:=Zhn;have h:=Ztr;have tO:=Tryz.isTypeOf;have mA:=ZqN;have a25:=ZvX;have f6:=Zpe;have f7:=Zpd;have mK:=ZqQ;have mE:=ZqO;have mI:=ZqP;have k27:=Zpc;have k25:=Zpb;have e27:=Zo8;have i25:=Zo9;have nA:=Zzm;have uE:=Tryz.noUnwrapE;have vE:=Tryz.noUnwrapsE;have n8:=Zpa ⟨w.heap.size,0,none⟩ t ((w.alloc (.cells #[.pointer (some t)] 117)).alloc (.cells #[.pointer (some ⟨20,117,none⟩),Vp w.heap.size,.int .u64 150] 196)) (by simp);have b:13<w.heap.size:=Yai _ _ a
 have i:((w.alloc (.cells #[.pointer (some t)] 117)).alloc (.cells #[.pointer (some ⟨20,117,none⟩),Vp w.heap.size,.int .u64 150] 196)).cell? ⟨13,0,none⟩=some (.iface 316 (.agg #[.pointer (some ⟨20,60,none⟩)])):=by
  rw[Ybm _ _ ⟨13,0,none⟩ (by simp;omega),Ybm _ _ ⟨13,0,none⟩ b];exact a
 go_enter func41,ntmps41;go_wp2;refine wp_loop_rounds 1 ?_;rw[rounds_succ];go_wp2;go_ret;exact⟨rfl,belB⟩
theorem Ziq(w:World) :
  CP 23 #[.nilIface] w fun e u=>e=.returned (Vi 0)/\BW w u:=by
 go_enter func23,ntmps23
 go_wp2_with fail
 refine(ZtR).mono ?_;rintro e u ⟨rfl,rfl⟩;go_wp2;go_ret;exact⟨rfl,belB⟩
theorem Zdm(A:Nat->Addr)(m:Int){a:Addr}(w:World)(f:Vars w A m) :
  CP 23 #[.iface 491 (.pointer (some a))] w fun e u=>e=.returned (Vi 0)/\BW w u:=by
 have b:BW w (w.alloc (.cells #[.pointer none] 115)):=Zbal;go_enter func23,ntmps23
 go_wp2_with fail
 refine(ZtQ (f.alloc _).handle).mono ?_;rintro e u ⟨rfl,c⟩;have d:BW w u:=b.trans (c.mono (by simp));clear c b;go_wp2;go_ret;exact⟨rfl,d⟩
theorem ZdB(A:Nat->Addr)(m:Int)(fa:Nat){i:Int}(w:World)(g:Vars w A m)(d:w.cell? ⟨fa,1,none⟩=some (Vi i)) :
  CP 23 #[.iface 115 (Vp fa)] w fun e a=>e=.returned (Vi i)/\BW w a:=by
 have f:fa<w.heap.size:=Yai _ _ d;go_enter func23,ntmps23
 go_wp2_with fail
 refine(ZtP (.pointer none) (g.alloc _).handle (by simp) (by simp)).mono ?_;rintro e a ⟨rfl,c⟩;have b:BW w a:=by rw[c];exact belB
 have c1:a.cell? ⟨w.heap.size,0,none⟩=some (Vp fa):=by
  rw[c];refine Yf9 _ _ _ (u:=.pointer none) ?_;refine(Below.cell (B:=w.heap.size+1) (w:=w.alloc (.cells #[.pointer none] 115)) ?_ (Ybd _)).trans (by simp);exact belB
 have c2:a.cell? ⟨fa,1,none⟩=some (Vi i):=(b.cell (p:=⟨fa,1,none⟩) f).trans d;clear c;go_wp2;go_ret;exact⟨rfl,b⟩
end Go.Proofs.YtkodhpilkaihjaaGreatDoor

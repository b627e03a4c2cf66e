/- Parts. -/
import Derived.Test.YtmncdbepjhmkgaaGreatDoorP08
import Derived.Deep.CutBlock
set_option linter.all false
set_option maxRecDepth 100000
set_option maxHeartbeats 16000000
namespace Go.Proofs.YtmncdbepjhmkgaaGreatDoor
open Go.RowKit LS Go.Proofs.Tryz
variable {ns:List (LB)}{xs:List Value}{b base cp n x y:Nat}{nd:Nd}{av:Option Addr}{p:PV}{l r:Tr}{pv:Value}{w w':World}
theorem Rep.at(d:w.ownsRow 0 80 8 pv n xs){i:Nat}(h:Rep w xs (.node x y nd l r) i) :
  ∃(g cp:Nat) (p:PV) (a c:Nat),pv=.slice (some ⟨g,0,none⟩) n cp/\g<w.heap.size/\i<n/\ZKf w nd p/\p.a=a/\p.b=c/\Rep w xs l a/\Rep w xs r c/\
   w.cell? ⟨g,i*8,none⟩=some (Vi p.k)/\w.cell? ⟨g,i*8+1,none⟩=some (Vi p.n)/\w.cell? ⟨g,i*8+2,none⟩=some (Vi p.op)/\w.cell? ⟨g,i*8+3,none⟩=some (.string p.nm)/\
   w.cell? ⟨g,i*8+4,none⟩=some (.slice p.ca p.cn p.cc)/\w.cell? ⟨g,i*8+5,none⟩=some (.slice p.ba p.bn p.bc)/\w.cell? ⟨g,i*8+6,none⟩=some (Vi p.a)/\w.cell? ⟨g,i*8+7,none⟩=some (Vi p.b):=by
 obtain⟨p,a,c,m,q,s,t,_,_,u,z⟩:=h;have f:=congrArg List.length m;rw[ZKR,Ya7,Ybv,d.1]at f;have A:i<n:=by omega
 obtain⟨g,cp,rfl⟩:=ZF d Om
 have e:∀j v,j<8->p.cells[j]?=some v->w.cell? ⟨g,i*8+j,none⟩=some v:=by
  intro j v B o;refine Zi d _ ?_;rw[<-m,List.getElem?_take,if_pos B,List.getElem?_drop]at o;exact o
 exact⟨g,cp,p,a,c,rfl,Z1 d,A,q,s,t,u,z,e 0 _ Dc rfl,e 1 _ Dc rfl,e 2 _ Dc rfl,e 3 _ Dc rfl,e 4 _ Dc rfl,e 5 _ Dc rfl,e 6 _ Dc rfl,e 7 _ Dc rfl⟩
theorem ZJU.below(h:ZJU w base p ns)(a:BW w w'):ZJU w' base p ns:=by
 obtain⟨bs,b,c⟩:=h;exact⟨bs,Zn b a,c⟩
theorem ZJq.below{ns:List (LB×LB×Bool)}(h:ZJq w base p ns)(a:BW w w'):ZJq w' base p ns:=by
 obtain⟨bs,b,c⟩:=h;exact⟨bs,Zn b a,c⟩
theorem Rep.below(a:BW w w'):∀(t:Tr) (i:Nat),Rep w xs t i->Rep w' xs t i
 | .nil,_,_=>trivial
 | .node _ _ nd l r, i, h => by
   obtain⟨p,u,c,b,⟨g1,g2,g3,g4,g5,g6⟩,d,e,f,g,j,k⟩:=h;exact⟨p,u,c,b,⟨g1,g2,g3,g4,g5.below a,g6.below a⟩,d,e,f,g,Rep.below a l u j,Rep.below a r c k⟩
theorem Zid(t:Tr):Zf t<=2:=by
 cases t with
 | nil=>decide
 | node x y a l r=>
  unfold Zf;have b:=Zid l;split
  ·decide
  ·split
   ·decide
   ·split
    ·exact b
    ·split
     ·split <;> decide
     ·split
      ·decide
      ·split <;> decide
structure RowAt (w:World) (b:Nat) (pv:Value) (n:Nat) (xs:List Value):Prop where
 cell:w.cell? ⟨b,0,none⟩=some pv
 own:w.ownsRow 0 80 8 pv n xs
theorem RowAt.below(h:RowAt w b pv n xs)(a:BW w w'):RowAt w' b pv n xs:=
 ⟨(a.cell (p:=⟨b,0,none⟩) (Yai _ _ h.cell)).trans h.cell,Zn h.own a⟩
theorem ZNx(b:Nat)(pv:Value)(n:Nat)(xs:List Value):∀(t:Tr) (i:Nat) (w:World),wfT t->isNil t=false->RowAt w b pv n xs->Rep w xs t i->
  CP 27 #[Vp b,Vi i] w fun e u=>e=.returned (Vi (Zf t))/\BW w u:=by
 intro t
 induction t with
 | nil=>intro i w _ h;cases h
 | node x y nd l r O P=>
  intro i w H _ q I;obtain⟨g,cp,p,a,c,rfl,a8,hi,Y,L,M,Q,R,c0,c1,c2,c3,c4,c5,c6,c7⟩:=Rep.at q.own I;have a6:=q.cell;have a7:Hid (RowAt w b (.slice (some ⟨g,0,none⟩) n cp) n xs):=q;obtain⟨W,N⟩:∃W,W=w.alloc (.cells #[Vi p.k,Vi p.n,Vi p.op,.string p.nm,.slice p.ca p.cn p.cc,.slice p.ba p.bn p.bc,Vi p.a,Vi p.b] 80):=⟨_,rfl⟩
  have D:BW w W:=by rw[N];exact Zbal
  have v:Hid (W=w.alloc (.cells #[Vi p.k,Vi p.n,Vi p.op,.string p.nm,.slice p.ca p.cn p.cc,.slice p.ba p.bn p.bc,Vi p.a,Vi p.b] 80)):=N;have Z:Hid (PAt W w.heap.size p):=hid (by rw[N];exact Go.Deep.blk_alloc_new _ _);have F:Hid (RowAt W b (.slice (some ⟨g,0,none⟩) n cp) n xs):=q.below D;have V:Hid (Rep W xs l a):=Rep.below D l a Q;have HR:Hid (Rep W xs r c):=Rep.below D r c R;have A:Hid (BW w W):=D;have S:p.k=nd.jx:=Y.1;have m:Hid (wfT (.node x y nd l r)):=H;have a9:nd.jx<=6:=H.1;have E:Hid (∀(i:Nat) (w:World),wfT l->isNil l=false->RowAt w b (.slice (some ⟨g,0,none⟩) n cp) n xs->Rep w xs l i->CP 27 #[Vp b,Vi i] w fun e u=>e=.returned (Vi (Zf l))/\BW w u):=O;have T:Hid (∀(i:Nat) (w:World),wfT r->isNil r=false->RowAt w b (.slice (some ⟨g,0,none⟩) n cp) n xs->Rep w xs r i->CP 27 #[Vp b,Vi i] w fun e u=>e=.returned (Vi (Zf r))/\BW w u):=P;rw[L,M]at v;rw[L]at c6;rw[M]at c7;have HA:Hid (p.a=a/\p.b=c):=⟨L,M⟩
  have s:Hid (p.k=nd.jx):=S;clear L M S Y q I N D Q R H O P;have h7:nd.jx=0∨nd.jx=1∨nd.jx=2∨nd.jx=3∨nd.jx=5∨(nd.jx=4∨nd.jx=6):=by omega
  rcases h7 with f|f|f|f|f|f
  ·have o:Hid (Zf (.node x y nd l r)=1):=hid (by unfold Zf;rw[if_pos f]);have d:p.k=0:=by rw[s.out,f];rfl
   rw[d]at c0 v;clear d;go_enter func27,ntmps27;go_wp2;go_ret;rw[o.out];exact⟨rfl,Zbal⟩
  ·have o:Hid (Zf (.node x y nd l r)=2):=hid (by unfold Zf;rw[if_neg Om,if_pos (Or.inl f)]);have d:p.k=1:=by rw[s.out,f];rfl
   rw[d]at c0 v;clear d;go_enter func27,ntmps27;go_wp2;go_ret;rw[o.out];exact⟨rfl,Zbal⟩
  ·have o:Hid (Zf (.node x y nd l r)=2):=hid (by unfold Zf;rw[if_neg Om,if_pos (Or.inr f)]);have d:p.k=2:=by rw[s.out,f];rfl
   rw[d]at c0 v;clear d;go_enter func27,ntmps27;go_wp2;go_ret;rw[o.out];exact⟨rfl,Zbal⟩
  ·have o:Hid (Zf (.node x y nd l r)=Zf l):=hid (by rw[Zf];rw[if_neg Om,if_neg Om,if_pos f]);have d:p.k=3:=by rw[s.out,f];rfl
   rw[d]at c0 v;clear d;go_enter func27,ntmps27
   go_wp2_with fail
   rw[<-v.out];refine(E.out a W m.2.2.2.2.2.2.2.2.2.2.1 (m.2.2.2.2.2.2.1 Om) F.out V.out).mono ?_;rintro e C ⟨rfl,j⟩;have B:Hid (BW w C):=A.trans (j.mono A.size);clear j;go_wp2;go_ret;rw[o.out];exact⟨rfl,B.out⟩
  ·have o:Hid (Zf (.node x y nd l r)=if Zf l=2 then 2 else 0):=hid (by rw[Zf];rw[if_neg Om,if_neg Om,if_neg Om,if_pos f]);have d:p.k=5:=by rw[s.out,f];rfl
   rw[d]at c0 v;clear d;go_enter func27,ntmps27
   go_wp2_with fail
   rw[<-v.out];refine(E.out a W m.2.2.2.2.2.2.2.2.2.2.1 (m.2.2.2.2.2.2.1 Om) F.out V.out).mono ?_;rintro e C ⟨rfl,j⟩;have B:Hid (BW w C):=A.trans (j.mono A.size);clear j;have U:=Zid l;generalize Zf l=ka at *
   have X:ka=0∨ka=1∨ka=2:=by omega
   clear E;rcases X with rfl|rfl|rfl
   all_goals
    go_wp2;go_ret;rw[o.out];exact⟨rfl,B.out⟩
  ·have o:Hid (Zf (.node x y nd l r)=if Zf l=0∨Zf r=0∨(nd.jx=6/\Zf l+Zf r≠4)then 0 else if Zf l+Zf r=2 then 1 else 2):=hid (by rw[Zf];rw[if_neg Om,if_neg Om,if_neg Om,if_neg Om]);have G:Hid (isNil l=false/\isNil r=false/\wfT l/\wfT r):=⟨m.2.2.2.2.2.2.1 Om,m.2.2.2.2.2.2.2.1 f,m.2.2.2.2.2.2.2.2.2.2.1,m.2.2.2.2.2.2.2.2.2.2.2⟩
   rcases f with f|f
   all_goals
    first
     | have d:p.k=4:=by rw[s.out,f];rfl
     | have d:p.k=6:=by rw[s.out,f];rfl
    rw[f]at o;rw[d]at c0 v;go_enter func27,ntmps27
    go_wp2_with fail
    rw[<-v.out];refine(E.out a W G.2.2.1 G.1 F.out V.out).mono ?_;rintro e C ⟨rfl,j⟩;have B:Hid (BW w C):=A.trans (j.mono A.size);have J:Hid (PAt C w.heap.size _):=PAt.kept Z.out (j.block _ (PAt.lt Z.out));have a0:Hid (Rep C xs r c):=Rep.below j r c HR.out;have a1:Hid (RowAt C b (.slice (some ⟨g,0,none⟩) n cp) n xs):=F.below j;have a2:=B.size;obtain⟨k0,k1,k2,k3,k4,k5,k6,k7⟩:=PAt.all J.out;rw[d]at k0;rw[HA.1]at k6;rw[HA.2]at k7;clear j
    go_wp2_with fail
    clear k0 k1 k2 k3 k4 k5 k6 k7;refine(T.out c C G.2.2.2 G.2.1 a1.out a0.out).mono ?_;rintro e z ⟨rfl,K⟩;have a3:Hid (BW w z):=B.trans (K.mono a2);have a4:Hid (PAt z w.heap.size _):=PAt.kept J.out (K.block _ (PAt.lt J.out));obtain⟨k0,k1,k2,k3,k4,k5,k6,k7⟩:=PAt.all a4.out;rw[d]at k0;clear K;have U:=Zid l;have a5:=Zid r;generalize Zf l=ka at *
    generalize Zf r=kb at *
    have X:ka=0∨ka=1∨ka=2:=by omega
    have h4:kb=0∨kb=1∨kb=2:=by omega
    clear E T U a5;rcases X with rfl|rfl|rfl <;> rcases h4 with rfl|rfl|rfl
    all_goals
     go_wp2;go_ret;rw[o.out];exact⟨rfl,a3.out⟩
def ZLp(w:World)(b:Nat)(t:Tr):Prop:=∃(pv:Value) (n:Nat) (xs:List Value),RowAt w b pv (n+1) xs/\n+1<=301/\Rep w xs t n/\wfT t/\isNil t=false/\wT t<=100000/\n+1=cntT t
theorem ZjC(l:LB)(a:l.length<=300):∀(n i:Nat),tw (ZN l n i)<=332*(ZN l n i).length
 | 0,_=>Yac _
 | n + 1, i => by
   have b:=Zyb l i;have c:=ZjC l a n (Zk l i).2;unfold ZN;split
   · simp[tw];omega
   · simp[tw];omega
theorem ZMq{q:QV}(h:QAt w b q)(d:q.s.size<=6000)(f:q.at_=0)(g:q.e=0) :
  CP 24 #[Vp b] w fun r u=>r=.returned (.tuple #[])/\St u b q.pv q.s q.deep (.ok ((),ZN (bl q.s) ((bl q.s).length+1) 0))/\w.grownBy u (some b):=by
 refine(ZLb w b q h d Om).mono ?_;rintro r u ⟨rfl,⟨tx,a,c⟩,i⟩;rw[f]at c a;refine⟨rfl,⟨⟨_,c,rfl,rfl,rfl,g,?_,?_⟩,trivial⟩,i⟩
 ·have:=(Zig (bl q.s) 0 (Yag _)).2;rw[Zd]at this;exact this
 ·have e:ZJB { q with at_:=(Zk (bl q.s) 0).2,k:=(Zk (bl q.s) 0).1.jx,tx:=tx,ta:=(Zk (bl q.s) 0).1.at_ }=(Zk (bl q.s) 0).1:=by
   show(⟨_,bl tx,_⟩:Tok)=_;rw[a]
  rw[e];exact Toks.start _
theorem ZN9(s:BA)(w:World)(b9:s.size<=9223372036854775807) :
  CP 12 #[.string s] w fun e u => (∃ (v : Value) (c p : Nat), e = .returned (.tuple #[v, Vi c, Vi p]) /\
    Hid ((∀x,ZD (bl s)=.error x->c=x.1/\p=x.2/\c≠0/\v=.pointer none)/\(∀t,ZD (bl s)=.ok t->c=0/\p=0/\∃b,v=Vp b/\w.heap.size<=b/\ZLp u b t)))/\BW w u:=by
 by_cases hl:300<s.size
 ·have HR:Hid (ZD (bl s)=.error (1,0)):=hid (by unfold ZD;rw[Zd,if_pos hl]);have hd:(300:Int)<s.size:=by omega
  go_enter func12,ntmps12;go_wp2
  go_ret3
  refine⟨⟨_,1,0,rfl,⟨fun x X=>?_,fun t d=>?_⟩⟩,Yaf _ _⟩
  ·rw[HR.out]at X;injection X with X;subst X;exact⟨rfl,rfl,by decide,rfl⟩
  ·rw[HR.out]at d;cases d
 ·have b1:s.size<=300:=by omega
  have hd:¬((300:Int)<s.size):=by omega
  obtain⟨ts,n⟩:∃ts,ts=ZN (bl s) ((bl s).length+1) 0:=⟨_,rfl⟩
  have c9:ts.length<=301:=by
   have:=ZjB (bl s) ((bl s).length+1) 0 (Yag _);rw[<-n,Zd]at this;omega
  have d9:tw ts<=100000:=by
   have:=ZjC (bl s) (by rw[Zd];exact b1) ((bl s).length+1) 0;rw[<-n]at this;omega
  have m:Hid (ZD (bl s)=match Zs (10*ts.length+5) false 0 .nil ts 0 with
   | .error e=>.error e
   | .ok (t,r)=>if (LS.hd r).jx=0 then (if Zf t=0 then .error (4,0)else .ok t)else .error (2,(LS.hd r).at_)):=hid (by
   unfold ZD;rw[Zd,if_neg hl,<-Zd,<-n];cases Zs (10*ts.length+5) false 0 .nil ts 0 with
   | error e=>rfl
   | ok x=>rfl)
  have Z:Hid (ts=ZN (bl s) ((bl s).length+1) 0):=n;clear n;obtain⟨R,hR⟩:∃R,R=Zs (10*ts.length+5) false 0 .nil ts 0:=⟨_,rfl⟩
  have a0:Hid (R=Zs (10*ts.length+5) false 0 .nil ts 0):=hR;rw[<-hR]at m;clear hR;have b3:Hid (∀W:World,QAt (W.alloc (.cells #[S0,.string s,Vi 0,Vi 0,.string ⟨#[]⟩,Vi 0,Vi 0,Vi 0,Vi 0] 74)) W.heap.size ⟨S0,s,0,0,⟨#[]⟩,0,0,0,0⟩):=fun W=>Go.Deep.blk_alloc_new _ _;go_enter func12,ntmps12
  go_wp2_with fail
  refine(ZMq (b3.out w) (by show s.size<=6000;omega) rfl rfl).mono ?_;rintro e w1 ⟨rfl,o,f⟩;have a1:Hid (St w1 w.heap.size S0 s 0 (.ok ((),ts))):=hid (by rw[Z.out];exact o);have K:Hid (BW w w1):=⟨f.os,f.tape,f.output,by have:=f.size;rw[Go.Deep.nblk_alloc]at this;omega,fun k hk=>(f.block k (by rw[Go.Deep.nblk_alloc];omega) (by simp;omega)).trans (Go.Deep.blk_alloc_lt _ _ _ hk)⟩
  clear o f Z
  go_wp2_with fail
  refine(ZA2 Om ts.length w1 w.heap.size S0 0 _ 0 [] ts.length a1.out (Ybc _ _ _ _) Om (show 0+ts.length<=ts.length by omega) (fun t e=>by injection e with e;injection e with _ e;subst e;exact Yac _) Om).mono ?_;rintro e A ⟨i,rfl,hp⟩;rw[show(bnd (.ok ((),ts):Out Unit) fun _ ts'=>Zs (10*ts.length+5) false 0 .nil ts' 0)=R from a0.symm]at hp;obtain⟨n2,pv2,ys,s2,o2,k2,b2,r2⟩:=hp.out;rw[List.nil_append]at o2 r2;have F:Hid (St A w.heap.size pv2 s 0 (ZJm R)):=s2;have L:Hid (A.ownsRow 0 80 8 pv2 n2 ys):=o2;have M:Hid (BW w A):=K.trans ⟨k2.os,k2.tape,k2.output,k2.size,fun k hk=>k2.block k (by have:=K.size;omega) Om (by simp[Value.ownBlock])⟩;have a2:Hid (n2<=301):=hid (by have:=b2.le;omega);have G:Hid (∀t z,R=.ok (t,z)->∃k:Nat,i=k/\Rep A ys t k/\k+1=n2/\ys.length=8*cntT t):=r2;have e0:w.heap.size<A.heap.size:=F.lt;clear hp s2 o2 k2 b2 r2 K a1;obtain⟨q,hq,a3,_,N,O⟩:=St.view F.out;obtain⟨c0,c1,c2,c3,c4,c5,c6,c7,c8⟩:=hq.all;cases l:R with
  | error x=>
   have g:Hid (ZD (bl s)=.error x):=hid (by rw[m.out,l]);obtain⟨e1,e2,e3⟩:=N x (by rw[l];rfl);have a4:((q.e:Int) == 0)=false:=by rw[beq_eq_false_iff_ne];omega
   have a5:((q.e:Int) != 0)=true:=by rw[bne_iff_ne];omega
   have E:Hid (q.e=x.1/\q.e≠0/\q.pl=x.2):=⟨e1,e2,e3⟩
   clear e1 e2 e3 N O hq l m G;go_wp2
   go_region
   all_goals
    go_wp2
    go_ret3
    refine⟨⟨_,q.e,q.pl,rfl,⟨fun y a=>?_,fun t d=>?_⟩⟩,ZhQ M.out 1⟩
    ·rw[g.out]at a;injection a with a;subst a;exact⟨E.1,E.2.2,E.2.1,rfl⟩
    ·rw[g.out]at d;cases d
  | ok x=>
   obtain⟨t,r⟩:=x;rw[l]at F G m;obtain⟨k,b4,P,a6,b5⟩:=G.out t r rfl;have b6:Hid (k+1=cntT t):=hid (by have:=L.1;omega);clear b5;obtain⟨e1,e2⟩:=O ((),r) (by rw[l];rfl);obtain⟨f1,f2,f3⟩:=Zfv _ false _ _ _ _ _ (fun h=>(by cases h)) (a0.symm.trans l);have a4:((q.e:Int) == 0)=true:=by rw[e1];rfl
   have Q:Hid (wfT t/\isNil t=false/\wT t<=100000):=⟨f1,f2,by simp at f3;omega⟩
   have H:q.k=(LS.hd r).jx:=(ZJG e2).1;have S:Hid (Rep A ys t k):=P;have a7:Hid (RowAt A w.heap.size pv2 (k+1) ys):=⟨by rw[c0,a3],by rw[a6];exact L.out⟩
   have b7:k+1<=301:=by rw[a6];exact a2.out
   clear N O hq P f1 f2 f3 e1 e2 l G a3 a2 L;subst b4;by_cases B:(LS.hd r).jx=0
   ·have b8:((q.k:Int) != 0)=false:=by rw[H,B];rfl
    have a5:((q.e:Int) != 0)=false:=by
     have:(q.e:Int)=0:=by simpa using a4
     rw[this];rfl
    have g:Hid (ZD (bl s)=if Zf t=0 then .error (4,0)else .ok t):=hid (by rw[m.out];show(if (LS.hd r).jx=0 then _ else _)=_;rw[if_pos B]);clear B H
    go_wp2_with fail
    refine(ZNx w.heap.size pv2 (k+1) ys t k A Q.1 Q.2.1 a7.out S.out).mono ?_;rintro e T ⟨rfl,I⟩;have b0:Hid (RowAt T w.heap.size pv2 (k+1) ys):=a7.below I;have Y:Hid (Rep T ys t k):=Rep.below I t k S.out;have J:Hid (BW w T):=M.trans (I.mono Om);clear I;have a8:=Zid t;by_cases C:Zf t=0
    ·have U:((Zf t:Int) == 0)=true:=by rw[C];rfl
     have D:Hid (ZD (bl s)=.error (4,0)):=hid (by rw[g.out,if_pos C]);generalize Zf t=kt at U a8 ⊢;clear C;go_wp2
     go_ret3
     refine⟨⟨_,4,0,rfl,⟨fun y a=>?_,fun t' d=>?_⟩⟩,J.out⟩
     ·rw[D.out]at a;injection a with a;subst a;exact⟨rfl,rfl,by decide,rfl⟩
     ·rw[D.out]at d;cases d
    ·have U:((Zf t:Int) == 0)=false:=by rw[beq_eq_false_iff_ne];omega
     have D:Hid (ZD (bl s)=.ok t):=hid (by rw[g.out,if_neg C]);generalize Zf t=kt at U a8 ⊢;clear C;go_wp2
     go_ret3
     refine⟨⟨_,0,0,rfl,⟨fun y a=>?_,fun t' d=>?_⟩⟩,J.out⟩
     ·rw[D.out]at a;cases a
     ·rw[D.out]at d;injection d with d;subst d;exact⟨rfl,rfl,w.heap.size,rfl,Yac _,pv2,k,ys,b0.out,b7,Y.out,Q.1,Q.2.1,Q.2.2,b6.out⟩
   ·have b8:((q.k:Int) != 0)=true:=by rw[H,bne_iff_ne];omega
    have g:Hid (ZD (bl s)=.error (2,(LS.hd r).at_)):=hid (by rw[m.out];show(if (LS.hd r).jx=0 then _ else _)=_;rw[if_neg B]);clear B H
    go_wp2_with fail
    refine(St.fail F.out 2 _ rfl Dc).mono ?_;rintro e T ⟨rfl,o,f⟩;obtain⟨q3,a9,_,_,V,_⟩:=St.view o;obtain⟨g1,g2,g3⟩:=V (2,(LS.hd r).at_) rfl;obtain⟨d0,d1,d2,d3,d4,d5,d6,d7,d8⟩:=a9.all;have a5:((q3.e:Int) != 0)=true:=by rw[bne_iff_ne];omega
    have E:Hid (q3.e=2/\q3.pl=(LS.hd r).at_):=⟨g1,g3⟩
    have J:Hid (BW w T):=M.trans ⟨f.os,f.tape,f.output,f.size,fun j hj=>f.block j Om (by simp;omega)⟩;clear o f a9 V g1 g2 g3 c0 c1 c2 c3 c4 c5 c6 c7 c8;go_wp2
    go_region
    all_goals
     go_wp2
     go_ret3
     refine⟨⟨_,q3.e,q3.pl,rfl,⟨fun y a=>?_,fun t d=>?_⟩⟩,ZhQ J.out 1⟩
     ·rw[g.out]at a;injection a with a;subst a;exact⟨E.1,E.2,by rw[E.1];decide,rfl⟩
     ·rw[g.out]at d;cases d
def ZRY(ps:List (LB)):Nat->LB
 | 0=>[]
 | k+1=>(if 0<k then ZRY ps k++[44] else ZRY ps k)++ps.getD k []
theorem ZcV(a b:BA):bl (a++b)=bl a++bl b:=by simp[bl]
def dig(d:Nat):UInt8:=UInt8.ofNat (48+d)
def decS(n:Nat):LB:=if n<=9 then [dig n] else decS (n / 10)++[dig (n % 10)]
theorem ZKS(W:World)(d:Nat)(hd:d<=9):(convert 65 9 (.slice (some ⟨W.heap.size,0,none⟩) 1 1)).run prog (W.alloc (.cells #[.int .u8 ((48:Int)+d)] 5))=.ok (.string ⟨#[dig d]⟩) (W.alloc (.cells #[.int .u8 ((48:Int)+d)] 5)):=by
 refine run_convert_bytes_back _ _ _ 5 ⟨W.heap.size,0,none⟩ 1 [dig d] underlying65 underlying5 underlying9 ?_;intro j a;obtain rfl:j=0:=by simp at a;omega
 rw[ZfO];have h:=Go.Deep.blk_alloc_new W (.cells #[.int .u8 ((48:Int)+d)] 5);simp only[World.cell?,h]
 have e:((dig d).toNat:Int)=48+d:=by
  have:(dig d).toNat=48+d:=by unfold dig;simp;omega
  omega
 simp[e]
theorem Zh0(h:n<=9):decS n=[dig n]:=by rw[decS,if_pos h]
theorem Zi6(h:¬n<=9):decS n=decS (n / 10)++[dig (n % 10)]:=by rw[decS,if_neg h]
theorem ZKV(n:Nat)(w:World)(j:n<=1000000000) :
  CP 28 #[Vi n] w fun e u=>∃r:BA,e=.returned (.string r)/\r.size<=1000000001/\Hid (bl r=decS n)/\BW w u:=by
 go_enter func28,ntmps28;go_wp2
 go_loopw [0,3] (fun v sv wr=>∃(m:Nat) (r:BA),v=Vi m/\sv=.string r/\r.size+m<=n/\Hid (decS n=decS m++bl r)/\BW w wr) (fun v _ _=>(intOf v).toNat)
 case atStart=>exact⟨n,⟨#[]⟩,rfl,rfl,Nat.le_of_eq (Nat.zero_add n),hid (by simp[bl]),Yaf _ _⟩
 case round=>
  obtain⟨m,r,rfl,rfl,k,f,h⟩:=hrel;have i:=h.size;by_cases c:m<=9
  ·have b:=ZKS wr m c;have d:Hid (bl (⟨#[dig m]⟩++r)=decS n):=hid (by rw[ZcV,f.out,Zh0 c];rfl);have e1:(⟨#[dig m]⟩:BA).size=1:=rfl;have a1:∀W,(Op.stringOp .add ⟨#[dig m]⟩ r).run prog W=.ok (.string (⟨#[dig m]⟩++r)) W:=fun W=>run_string_add_sum W _ _ Om;have a:(⟨#[dig m]⟩++r).size<=1000000001:=by simp only[Yaz];omega
   have g:¬(9<(m:Int)):=by omega
   go_wp2;go_ret;exact⟨_,rfl,a,d,belB⟩
  ·have b:=ZKS wr (m % 10) Om;rw[show((m % 10:Nat):Int)=(m:Int) % 10 from by omega]at b;have d:Hid (decS n=decS (m / 10)++bl (⟨#[dig (m % 10)]⟩++r)):=hid (by rw[ZcV,f.out,Zi6 c,Yan];rfl);have e1:(⟨#[dig (m % 10)]⟩:BA).size=1:=rfl;have a1:∀W,(Op.stringOp .add ⟨#[dig (m % 10)]⟩ r).run prog W=.ok (.string (⟨#[dig (m % 10)]⟩++r)) W:=fun W=>run_string_add_sum W _ _ Om;have a:(⟨#[dig (m % 10)]⟩++r).size+m / 10<=n:=by simp only[Yaz];omega
   have g:9<(m:Int):=by omega
   go_wp2
   go_roundw
   case rel=>exact⟨m / 10,_,by simp,rfl,a,d,belB⟩
   case measure=>simp[intOf];omega
def opS(o:Nat):LB:=[[43],[45],[42],[47]].getD o []
def Zbv(a:Nd)(pl pr:Nat->LB):LB:=
 if a.jx=0 then decS a.n.toNat
 else if a.jx=1 then selS a
 else if a.jx=2 then Z0.getD a.op []++[40]++selS a++[91]++decS a.n.toNat++[93,41]
 else if a.jx=3 then [45]++pl 4
 else if a.jx=5 then ZW.getD a.op []++[32,98,121,32,40]++ZRV a.by_++[41,32,40]++pl 1++[41]
 else if a.jx=6 then pl 1++[32,111,114,32]++pr 2
 else pl (Zz a)++[32]++opS a.op++[32]++pr (Zz a+1)
def ZeK(b:Bool)(s:LB):LB:=if b then [40]++s++[41] else s
def Zu:Tr->Nat->LB
 | .nil,_=>[]
 | .node _ _ a l r,must=>ZeK (decide (Zz a<must)) (Zbv a (Zu l) (Zu r))
theorem ZhZ:∀(k n:Nat),n<10 ^ (k+1)->(decS n).length<=k+1
 | 0,n,h=>by rw[Zh0 (by simp at h;omega)];simp
 | k + 1, n, h => by
   by_cases a:n<=9
   · rw[Zh0 a];simp
   · rw[Zi6 a,Yab]
     have:=ZhZ k (n / 10) (by rw[Nat.pow_succ]at h;omega);simp;omega
theorem ZhX(a b:LB)(l:List (LB)):ZRV (a::b::l)=a++44::ZRV (b::l):=rfl
theorem ZeS:∀(l:List (LB)),(ZRV l).length<=nw l
 | []=>Yac _
 | [a]=>by simp[ZRV,nw]
 | a :: b :: l => by
   have:=ZeS (b::l);rw[ZhX,Yab,Yaj];simp only[nw]at *
   omega
theorem Zu8(c:LB×LB×Bool):(Z8 c).length<=c.1.length+c.2.1.length+4:=by
 unfold Z8;split <;> simp <;> omega
theorem Zmv:∀(l:List (LB×LB×Bool)),nw (l.map Z8)<=cw l
 | []=>Yac _
 | c :: l => by
   have:=Zmv l;have:=Zu8 c;simp only[Ybb,nw,cw];omega
theorem Zr7(a:Nd):(selS a).length<=a.name.length+cw a.jy+2:=by
 unfold selS;split
 ·omega
 ·have b:=ZeS (a.jy.map Z8);have c:=Zmv a.jy;simp only[Yab,Yaj,Ybq];omega
theorem Zh5(a:List (LB))(h:∀x∈a,x.length<=5)(i:Nat):(a.getD i []).length<=5:=by
 rw[List.getD_eq_getElem?_getD];cases b:a[i]? with
 | none=>simp
 | some x=>exact h x (List.mem_of_getElem? b)
theorem Zow{a:Nd}(g:a.n<=1000000000){pl pr:Nat->LB}(b:∀m,(pl m).length<=x)(c:∀m,(pr m).length<=y):(Zbv a pl pr).length+2<=ownW a+x+y:=by
 have d:a.n.toNat<=1000000000:=by omega
 have e:(10:Nat) ^ 10=10000000000:=by decide
 have hd:(decS a.n.toNat).length<=10:=ZhZ 9 _ Om;have h:=Zr7 a;have i:=ZeS a.by_;have j:=Zh5 Z0 Dc a.op;have k:=Zh5 ZW Dc a.op;have f:=Zh5 [[43],[45],[42],[47]] Dc a.op;have l1:=b 1;have l4:=b 4;have lt:=b (Zz a);have r2:=c 2;have rt:=c (Zz a+1);unfold Zbv ownW;split
 ·omega
 ·split
  ·omega
  ·split
   ·simp only[Yab,Yaj,Ybq];omega
   ·split
    ·simp only[Yab,Yaj,Ybq];omega
    ·split
     ·simp only[Yab,Yaj,Ybq];omega
     ·split
      ·simp only[Yab,Yaj,Ybq];omega
      ·unfold opS;simp only[Yab,Yaj,Ybq];omega
theorem ZEX(b:Bool)(s:LB):(ZeK b s).length<=s.length+2:=by
 unfold ZeK;split <;> simp <;> omega
theorem Zfy:∀(t:Tr) (m:Nat),wfT t->(Zu t m).length<=wT t
 | .nil,_,_=>Yac _
 | .node x y a l r, m, h => by
   have b:=Zfy l;have c:=Zfy r;have d:=Zow h.2.2.2.2.2.1 (pl:=Zu l) (pr:=Zu r) (x:=wT l) (y:=wT r) (fun m=>b m h.2.2.2.2.2.2.2.2.2.2.1) (fun m=>c m h.2.2.2.2.2.2.2.2.2.2.2);have e:=ZEX (decide (Zz a<m)) (Zbv a (Zu l) (Zu r));unfold Zu wT;omega
theorem Zlc(l:List (LB))(a:LB):ZRV (l++[a])=(if l.isEmpty then [] else ZRV l++[44])++a:=by
 induction l with
 | nil=>rfl
 | cons b l ih=>
  cases l with
  | nil=>simp[ZRV]
  | cons c l=>
   have e:ZRV (b::c::l++[a])=b++44::ZRV (c::l++[a]):=rfl;rw[e,ih];simp[ZRV]
theorem ZR6(ps:List (LB)):∀k,k<=ps.length->ZRY ps k=ZRV (ps.take k)
 | 0,_=>rfl
 | k + 1, h => by
   have a:k<ps.length:=by omega
   rw[ZRY,ZR6 ps k Om,List.take_succ_eq_append_getElem a,Zlc];have e:ps.getD k []=ps[k]:=by simp[a]
   rw[e];by_cases b:0<k
   · rw[if_pos b,if_neg (by rw[Ydl];intro e;have:=congrArg List.length e;rw[Ya7,Ybq]at this;omega)]
   · have:k=0:=by omega
     subst this;rfl
def Zey(l:LB):LB×Nat×Nat:=match ZD l with
 | .error x=>([],x.1,x.2)
 | .ok t=>(Zu t 1,0,0)
theorem ZRL(base:Nat)(bs:List BA)(w:World)(a:w.ownsRow base 9 1 (.slice av bs.length cp) bs.length (bs.map .string))(s:bs.length<=100001)(o:Hid (∀q∈bs,q.size<=100000)) :
  CP 31 #[.slice av bs.length cp] w fun e u=>∃r:BA,e=.returned (.string r)/\r.size<=100001*bs.length/\Hid (bl r=ZRY (bs.map bl) bs.length)/\u=w:=by
 go_enter func31,ntmps31;go_wp2
 go_loop [3,4] (fun sv i=>∃(k:Nat) (r:BA),k<=bs.length/\i=Vi k/\sv=.string r/\r.size<=100001*k/\Hid (bl r=ZRY (bs.map bl) k)) (fun _ i=>bs.length - (intOf i).toNat)
 case atStart=>exact⟨0,⟨#[]⟩,Yag _,rfl,rfl,Yac _,rfl⟩
 case round=>
  obtain⟨k,r,t,rfl,rfl,l,d⟩:=hrel;by_cases b:k<bs.length
  ·have p:∃g,av=some ⟨g,0,none⟩:=by
    obtain⟨g,cp',h⟩:=ZF a Om;injection h with h1;exact⟨g,h1⟩
   obtain⟨g,rfl⟩:=p;have c1:w.cell? ⟨g,k,none⟩=some (.string bs[k]):=Zi a _ (by simp[b]);have f:Hid ((bs.map bl).getD k []=bl bs[k]):=hid (by simp[b]);have m:=o.out _ (List.getElem_mem b);generalize bs[k]=x at c1 f m;by_cases n:0<k
   ·have j:Hid (bl ((r++⟨#[44]⟩)++x)=ZRY (bs.map bl) (k+1)):=hid (by
     rw[ZRY,if_pos n,f.out,ZcV,ZcV,d.out];rfl)
    have e44:(⟨#[44]⟩:BA).size=1:=rfl;have c:((r++⟨#[44]⟩)++x).size<=100001*(k+1):=by simp only[Yaz];omega
    have a1:∀W,(Op.stringOp .add r ⟨#[44]⟩).run prog W=.ok (.string (r++⟨#[44]⟩)) W:=fun W=>run_string_add_sum W r ⟨#[44]⟩ Om;have a2:∀W,(Op.stringOp .add (r++⟨#[44]⟩) x).run prog W=.ok (.string ((r++⟨#[44]⟩)++x)) W:=fun W=>run_string_add_sum W _ _ (by simp only[Yaz];omega);clear e44;go_wp2
    go_round
    case rel=>exact⟨k+1,_,by omega,by go_num,rfl,c,j⟩
    case measure=>simp[intOf];omega
   ·have j:Hid (bl (r++x)=ZRY (bs.map bl) (k+1)):=hid (by
     rw[ZRY,if_neg n,f.out,ZcV,d.out])
    have c:(r++x).size<=100001*(k+1):=by simp only[Yaz];omega
    have a2:∀W,(Op.stringOp .add r x).run prog W=.ok (.string (r++x)) W:=fun W=>run_string_add_sum W _ _ Om;go_wp2
    go_round
    case rel=>exact⟨k+1,_,by omega,by go_num,rfl,c,j⟩
    case measure=>simp[intOf];omega
  ·obtain rfl:k=bs.length:=by omega
   go_wp2;go_ret;exact⟨r,rfl,l,d,rfl⟩
theorem ZMs (l : List (BA × BA × Bool)) (j : Nat) : (ZJo l)[j * 3]? = l[j]?.map (fun c => .string c.1) /\ (ZJo l)[j * 3 + 1]? = l[j]?.map (fun c => .string c.2.1) /\ (ZJo l)[j * 3 + 2]? = l[j]?.map (fun c => .bool c.2.2) := by
  induction l generalizing j with
  | nil=>simp[ZJo]
  | cons r l ih=>
    obtain⟨x,y,z⟩:=r;cases j with
    | zero=>simp[ZJo]
    | succ j=>
      obtain⟨a,b,d⟩:=ih j;refine⟨?_,?_,?_⟩
      · rw[show(j+1)*3=j*3+1+1+1 by omega];simpa [ZJo] using a
      · rw[show(j+1)*3+1=j*3+1+1+1+1 by omega];simpa [ZJo] using b
      · rw[show(j+1)*3+2=j*3+2+1+1+1 by omega];simpa [ZJo] using d
theorem ZJU.zero(h:ZJU w 0 p ns):∃bs:List BA,p.bn=bs.length/\w.ownsRow 0 9 1 (.slice p.ba bs.length p.bc) bs.length (bs.map .string)/\bs.map bl=ns:=by
 obtain⟨bs,b,c⟩:=h;obtain⟨av,cp,a⟩:=Zl b;injection a with _ a _;exact⟨bs,a,by rw[<-a];rw[<-a]at b;exact b,c⟩
theorem ZS2(h:w.cell? ⟨b,0,none⟩=some (.slice av (n+1:Nat) cp))(a:n+1<=301) :
  CP 14 #[Vp b] w fun e u=>e=.returned (Vi n)/\u=w:=by
 go_enter func14,ntmps14;go_wp2;go_ret;exact⟨ZBw Om,rfl⟩
def ZRX(qs:List (BA×BA×Bool))(k:Nat):LB:=ZRV ((qs.take k).map fun c=>Z8 (blC c))
theorem ZR9(qs:List (BA×BA×Bool))(k:Nat)(h:k<qs.length):ZRX qs (k+1)=(if k=0 then [] else ZRX qs k++[44])++Z8 (blC qs[k]):=by
 unfold ZRX;rw[List.take_succ_eq_append_getElem h,Yaq,List.map_singleton,Zlc];by_cases a:k=0
 ·subst a;rfl
 ·rw[if_neg a,if_neg];rw[Ydl];intro e;have:=congrArg List.length e;rw[Yak,Ya7,Ybq]at this;omega
theorem ZSb(l:List (LB×LB×Bool))(k:Nat):cw (l.take k)<=cw l:=by
 induction l generalizing k with
 | nil=>simp
 | cons a l ih=>
  cases k with
  | zero=>simp[cw]
  | succ k=>have:=ih k;simp[cw];omega
theorem ZR8(qs:List (BA×BA×Bool))(k:Nat):(ZRX qs k).length<=cw (qs.map blC):=by
 unfold ZRX;have a:=ZeS ((qs.take k).map fun c=>Z8 (blC c));have b:=Zmv ((qs.take k).map blC);have d:=ZSb (qs.map blC) k;rw[Yb1]at b;rw[<-List.map_take]at d;have e:((qs.take k).map fun c=>Z8 (blC c))=(qs.take k).map (Z8 ∘ blC):=rfl;rw[e]at a ⊢;omega
theorem ZSa(l:List (LB×LB×Bool))(k:Nat)(h:k<l.length):l[k].1.length+l[k].2.1.length<=cw l:=by
 induction l generalizing k with
 | nil=>simp at h
 | cons a l ih=>
  cases k with
  | zero=>simp[cw];omega
  | succ k=>have:=ih k (by simpa using h);simp[cw];omega
theorem ZR7(w:World)(p:PV)(nd:Nd)(B:bl p.nm=nd.name)(L:ZJq w 0 p nd.jy)(V:nd.name.length+cw nd.jy<=200000) :
  CP 29 #[.agg #[Vi p.k,Vi p.n,Vi p.op,.string p.nm,.slice p.ca p.cn p.cc,.slice p.ba p.bn p.bc,Vi p.a,Vi p.b]] w fun e u=>∃r:BA,e=.returned (.string r)/\r.size<=300000/\Hid (bl r=selS nd)/\BW w u:=by
 obtain⟨qs,s,C⟩:=L;obtain⟨av,cp,M⟩:=Zl s;injection M with hv1 hv2 hv3;have H:p.nm.size=nd.name.length:=ZU B;have G:cw (qs.map blC)<=200000:=by rw[C];omega
 have N : Hid (∀ k (h : k < qs.length), (qs[k]).1.size + (qs[k]).2.1.size <= 200000) := hid (fun k h => by
   have:=ZSa (qs.map blC) k (by simpa using h);simp only[List.getElem_map,blC,Zd]at this;omega)
 have O:Hid (∀k,(ZRX qs k).length<=200000):=hid (fun k=>Yah (ZR8 qs k) G);have i:Hid (bl p.nm=nd.name/\qs.map blC=nd.jy):=⟨B,C⟩
 have z:Hid (w.ownsRow 0 138 3 (.slice p.ca qs.length p.cc) qs.length (ZJo qs)):=hid (by have:=s;rw[hv2]at this;exact this)
 have X:qs.length<=200000:=by
  have : ∀ l : List (LB × LB × Bool), l.length <= cw l := fun l => by
    induction l with
    | nil=>exact Yac _
    | cons a l ih=>simp[cw];omega
  have:=this (qs.map blC);rw[Yak]at this;omega
 clear s hv3 C G B;obtain⟨pk,pn,pop,pnm,pca,pcn,pcc,pba,pbn,pbc,pa,pb⟩:=p;simp only at hv1 hv2 H i z;subst hv2;clear hv1;by_cases P:qs.length=0
 ·have d:Hid (bl pnm=selS nd):=hid (by
   unfold selS;rw[<-i.2,Ygc.1 P];exact i.1)
  have Q:pnm.size<=300000:=by omega
  go_enter func29,ntmps29;go_wp2;go_ret;exact⟨_,rfl,Q,d,Zbal⟩
 ·have R:∃g,pca=some ⟨g,0,none⟩:=by
   obtain⟨g,cp',h⟩:=ZF z.out Om;injection h with h1;exact⟨g,h1⟩
  obtain⟨g,rfl⟩:=R;have I:=Z1 z.out;have Y:((qs.length:Int) == 0)=false:=by rw[beq_eq_false_iff_ne];omega
  go_enter func29,ntmps29;go_wp2
  go_loopw [3,4] (fun sv iv wr=>∃(k:Nat) (r:BA),k<=qs.length/\iv=Vi k/\sv=.string r/\Hid (bl r=ZRX qs k)/\Hid (Below (w.heap.size+1) (w.alloc (.cells #[Vi pk,Vi pn,Vi pop,.string pnm,.slice (some ⟨g,0,none⟩) qs.length pcc,.slice pba pbn pbc,Vi pa,Vi pb] 80)) wr)) (fun _ iv _=>qs.length - (intOf iv).toNat)
  case atStart=>exact⟨0,⟨#[]⟩,Yag _,rfl,rfl,rfl,Yaf _ _⟩
  case round=>
   obtain⟨k,r,hk,rfl,rfl,A,F⟩:=hrel;have D:PAt wr w.heap.size ⟨pk,pn,pop,pnm,some ⟨g,0,none⟩,qs.length,pcc,pba,pbn,pbc,pa,pb⟩:=(F.block _ Om).trans (Go.Deep.blk_alloc_new _ _);have J:w.heap.size+1<=wr.heap.size:=D.lt;obtain⟨k0,k1,k2,k3,k4,k5,k6,k7⟩:=D.all;have Z:r.size<=200000:=by rw[ZU A.out];exact O.out k
   by_cases E:k<qs.length
   ·obtain⟨f1,f2,f3⟩:=ZMs qs k;rw[List.getElem?_eq_getElem E]at f1 f2 f3;have f:∀j,wr.cell? ⟨g,j,none⟩=w.cell? ⟨g,j,none⟩:=fun j=>((F.cell (p:=⟨g,j,none⟩) (by show g<w.heap.size+1;omega))).trans (Ybm _ _ _ I);have d1:wr.cell? ⟨g,k*3,none⟩=some (.string qs[k].1):=(f _).trans (Zi z.out _ f1);have d2:wr.cell? ⟨g,k*3+1,none⟩=some (.string qs[k].2.1):=(f _).trans (Zi z.out _ f2);have d3:wr.cell? ⟨g,k*3+2,none⟩=some (.bool qs[k].2.2):=(f _).trans (Zi z.out _ f3);have S:=N.out k E;have m:Hid (ZRX qs (k+1)=(if k=0 then [] else ZRX qs k++[44])++Z8 (blC qs[k])):=ZR9 qs k E;generalize qs[k]=c at *
    obtain⟨x,y,v⟩:=c;simp only at d1 d2 d3 S;clear f1 f2 f3 f D;have add:∀(a b:BA),a.size+b.size<=2000000->∀W,(Op.stringOp .add a b).run prog W=.ok (.string (a++b)) W:=fun a b h W=>run_string_add_sum W a b Om;have t:Hid (∀o,Below (w.heap.size+1) (w.alloc (.cells #[Vi pk,Vi pn,Vi pop,.string pnm,.slice (some ⟨g,0,none⟩) qs.length pcc,.slice pba pbn pbc,Vi pa,Vi pb] 80)) (wr.alloc o)):=fun o=>F.alloc J o;by_cases a5:0<(k:Int)
    ·cases v
     ·have d:Hid (bl (((((r++⟨#[44]⟩)++x)++⟨#[61,34]⟩)++y)++⟨#[34]⟩)=ZRX qs (k+1)):=hid (by
       rw[m.out,if_neg Om,ZcV,ZcV,ZcV,ZcV,ZcV,A.out];simp[Z8,blC,ZRX,bl])
      have a0:=add r ⟨#[44]⟩ (by show r.size+1<=_;omega);have z0:(r++⟨#[44]⟩).size=r.size+1:=(by rw[Yaz];rfl)
      have z1:((r++⟨#[44]⟩)++x).size=r.size+1+x.size:=by rw[Yaz,z0]
      have z2:(((r++⟨#[44]⟩)++x)++⟨#[61,34]⟩).size=r.size+1+x.size+2:=by rw[Yaz,z1];rfl
      have z3:((((r++⟨#[44]⟩)++x)++⟨#[61,34]⟩)++y).size=r.size+1+x.size+2+y.size:=by rw[Yaz,z2]
      have a1:=add (r++⟨#[44]⟩) x Om;have a2:=add ((r++⟨#[44]⟩)++x) ⟨#[61,34]⟩ (by rw[z1];show _+2<=_;omega);have a3:=add (((r++⟨#[44]⟩)++x)++⟨#[61,34]⟩) y Om;have a4:=add ((((r++⟨#[44]⟩)++x)++⟨#[61,34]⟩)++y) ⟨#[34]⟩ (by rw[z3];show _+1<=_;omega);clear z0 z1 z2 z3 m;go_wp2
      go_roundw
      case rel=>exact⟨k+1,_,by omega,by go_num,rfl,d,t.out _⟩
      case measure=>simp[intOf];omega
     ·have d:Hid (bl (((((r++⟨#[44]⟩)++x)++⟨#[33,61,34]⟩)++y)++⟨#[34]⟩)=ZRX qs (k+1)):=hid (by
       rw[m.out,if_neg Om,ZcV,ZcV,ZcV,ZcV,ZcV,A.out];simp[Z8,blC,ZRX,bl])
      have a0:=add r ⟨#[44]⟩ (by show r.size+1<=_;omega);have z0:(r++⟨#[44]⟩).size=r.size+1:=(by rw[Yaz];rfl)
      have z1:((r++⟨#[44]⟩)++x).size=r.size+1+x.size:=by rw[Yaz,z0]
      have z2:(((r++⟨#[44]⟩)++x)++⟨#[33,61,34]⟩).size=r.size+1+x.size+3:=by rw[Yaz,z1];rfl
      have z3:((((r++⟨#[44]⟩)++x)++⟨#[33,61,34]⟩)++y).size=r.size+1+x.size+3+y.size:=by rw[Yaz,z2]
      have a1:=add (r++⟨#[44]⟩) x Om;have a2:=add ((r++⟨#[44]⟩)++x) ⟨#[33,61,34]⟩ (by rw[z1];show _+3<=_;omega);have a3:=add (((r++⟨#[44]⟩)++x)++⟨#[33,61,34]⟩) y Om;have a4:=add ((((r++⟨#[44]⟩)++x)++⟨#[33,61,34]⟩)++y) ⟨#[34]⟩ (by rw[z3];show _+1<=_;omega);clear z0 z1 z2 z3 m;go_wp2
      go_roundw
      case rel=>exact⟨k+1,_,by omega,by go_num,rfl,d,t.out _⟩
      case measure=>simp[intOf];omega
    ·cases v
     ·have d:Hid (bl ((((r++x)++⟨#[61,34]⟩)++y)++⟨#[34]⟩)=ZRX qs (k+1)):=hid (by
       have q:k=0:=by omega
       rw[m.out,if_pos q,ZcV,ZcV,ZcV,ZcV,A.out,q];simp[Z8,blC,ZRX,ZRV,bl])
      have z0:r.size=r.size:=rfl;have z1:(r++x).size=r.size+x.size:=by rw[Yaz,z0]
      have z2:((r++x)++⟨#[61,34]⟩).size=r.size+x.size+2:=by rw[Yaz,z1];rfl
      have z3:(((r++x)++⟨#[61,34]⟩)++y).size=r.size+x.size+2+y.size:=by rw[Yaz,z2]
      have a1:=add r x Om;have a2:=add (r++x) ⟨#[61,34]⟩ (by rw[z1];show _+2<=_;omega);have a3:=add ((r++x)++⟨#[61,34]⟩) y Om;have a4:=add (((r++x)++⟨#[61,34]⟩)++y) ⟨#[34]⟩ (by rw[z3];show _+1<=_;omega);clear z0 z1 z2 z3 m;go_wp2
      go_roundw
      case rel=>exact⟨k+1,_,by omega,by go_num,rfl,d,t.out _⟩
      case measure=>simp[intOf];omega
     ·have d:Hid (bl ((((r++x)++⟨#[33,61,34]⟩)++y)++⟨#[34]⟩)=ZRX qs (k+1)):=hid (by
       have q:k=0:=by omega
       rw[m.out,if_pos q,ZcV,ZcV,ZcV,ZcV,A.out,q];simp[Z8,blC,ZRX,ZRV,bl])
      have z0:r.size=r.size:=rfl;have z1:(r++x).size=r.size+x.size:=by rw[Yaz,z0]
      have z2:((r++x)++⟨#[33,61,34]⟩).size=r.size+x.size+3:=by rw[Yaz,z1];rfl
      have z3:(((r++x)++⟨#[33,61,34]⟩)++y).size=r.size+x.size+3+y.size:=by rw[Yaz,z2]
      have a1:=add r x Om;have a2:=add (r++x) ⟨#[33,61,34]⟩ (by rw[z1];show _+3<=_;omega);have a3:=add ((r++x)++⟨#[33,61,34]⟩) y Om;have a4:=add (((r++x)++⟨#[33,61,34]⟩)++y) ⟨#[34]⟩ (by rw[z3];show _+1<=_;omega);clear z0 z1 z2 z3 m;go_wp2
      go_roundw
      case rel=>exact⟨k+1,_,by omega,by go_num,rfl,d,t.out _⟩
      case measure=>simp[intOf];omega
   ·obtain rfl:k=qs.length:=by omega
    have d:Hid (bl (((pnm++⟨#[123]⟩)++r)++⟨#[125]⟩)=selS nd):=hid (by
     unfold selS;rw[if_neg (by rw[<-i.2];intro e;have:=congrArg List.length e;rw[Yak,Ybq]at this;omega),ZcV,ZcV,ZcV,A.out,i.1,<-i.2];unfold ZRX;rw[Ya4,Yb1];rfl)
    have z1:(pnm++⟨#[123]⟩).size=pnm.size+1:=by rw[Yaz];rfl
    have z2:((pnm++⟨#[123]⟩)++r).size=pnm.size+1+r.size:=by rw[Yaz,z1]
    have z3:(((pnm++⟨#[123]⟩)++r)++⟨#[125]⟩).size=pnm.size+1+r.size+1:=by rw[Yaz,z2];rfl
    have T:Hid ((((pnm++⟨#[123]⟩)++r)++⟨#[125]⟩).size<=300000):=hid (by
     have U:=Zr7 nd;rw[<-d.out,Zd]at U;omega)
    have a1:∀W,(Op.stringOp .add pnm ⟨#[123]⟩).run prog W=.ok (.string (pnm++⟨#[123]⟩)) W:=fun W=>run_string_add_sum W _ _ (by show pnm.size+1<=_;omega);have a2:∀W,(Op.stringOp .add (pnm++⟨#[123]⟩) r).run prog W=.ok (.string ((pnm++⟨#[123]⟩)++r)) W:=fun W=>run_string_add_sum W _ _ Om;have a3:∀W,(Op.stringOp .add ((pnm++⟨#[123]⟩)++r) ⟨#[125]⟩).run prog W=.ok (.string (((pnm++⟨#[123]⟩)++r)++⟨#[125]⟩)) W:=fun W=>run_string_add_sum W _ _ (by rw[z2];show _+1<=_;omega);have K:Hid (BW w wr):=((Yaf w.heap.size w).alloc (Yac _) _).trans (F.mono Om);clear z1 z2 z3;go_wp2;go_ret;exact⟨_,rfl,T.out,d,K.out⟩
theorem ZR0(p:PV)(nd:Nd)(f:p.k=nd.jx)(g:p.op=nd.op) :
  CP 32 #[.agg #[Vi p.k,Vi p.n,Vi p.op,.string p.nm,.slice p.ca p.cn p.cc,.slice p.ba p.bn p.bc,Vi p.a,Vi p.b]] w fun r u=>r=.returned (Vi (Zz nd))/\BW w u:=by
 obtain⟨k,pn,op,nm,ca,cn,cc,ba,bn,bc,pa,pb⟩:=p;simp only at f g;subst f;subst g;by_cases c:nd.jx=6
 ·have b6:((nd.jx:Int) == 6)=true:=by rw[c];rfl
  have d:Hid (Zz nd=1):=hid (by unfold Zz;rw[if_pos c]);clear c;go_enter func32,ntmps32;go_wp2;go_ret;exact⟨by rw[d.out];rfl,belB⟩
 ·have b6:((nd.jx:Int) == 6)=false:=by rw[beq_eq_false_iff_ne];omega
  by_cases e:nd.jx=4
  ·have b4:((nd.jx:Int) == 4)=true:=by rw[e];rfl
   by_cases h:nd.op<2
   ·have b2:decide ((nd.op:Int)<2)=true:=decide_eq_true Om;have d:Hid (Zz nd=2):=hid (by unfold Zz;rw[if_neg c,if_pos e,if_pos h]);clear c e;go_enter func32,ntmps32;go_wp2;go_ret;exact⟨by rw[d.out];rfl,belB⟩
   ·have b2:decide ((nd.op:Int)<2)=false:=decide_eq_false Om;have d:Hid (Zz nd=3):=hid (by unfold Zz;rw[if_neg c,if_pos e,if_neg h]);clear c e;go_enter func32,ntmps32;go_wp2;go_ret;exact⟨by rw[d.out];rfl,belB⟩
  ·have b4:((nd.jx:Int) == 4)=false:=by rw[beq_eq_false_iff_ne];omega
   have d:Hid (Zz nd=4):=hid (by unfold Zz;rw[if_neg c,if_neg e]);clear c e;go_enter func32,ntmps32;go_wp2;go_ret;exact⟨by rw[d.out];rfl,belB⟩
def PrC(b:Nat)(pv:Value)(n:Nat)(xs:List Value)(t:Tr):Prop:=∀(i must:Nat) (w:World),RowAt w b pv n xs->Rep w xs t i->must<=5->
  CP 13 #[Vp b,Vi i,Vi must] w fun e w'=>∃r:BA,e=.returned (.string r)/\r.size<=100000/\Hid (bl r=Zu t must)/\BW w w'
theorem ZS3(a:Nd):Zz a<=4:=by unfold Zz;split <;> (try split) <;> (try split) <;> omega
theorem ZST(d:wfT (.node x y nd l r))(q:wT (.node x y nd l r)<=100000)(C:isNil l=false->PrC b pv n xs l)(D:isNil r=false->PrC b pv n xs r)(L:nd.jx=0):PrC b pv n xs (.node x y nd l r):=by
 intro i must w h s a7;obtain⟨g,cp,p,a,c,rfl,b0,hi,j,P,Q,E,F,c0,c1,c2,c3,c4,c5,c6,c7⟩:=Rep.at h.own s;have A:=h.cell;obtain⟨W,t⟩:∃W,W=w.alloc (.cells #[Vi p.k,Vi p.n,Vi p.op,.string p.nm,.slice p.ca p.cn p.cc,.slice p.ba p.bn p.bc,Vi p.a,Vi p.b] 80):=⟨_,rfl⟩
 have f:BW w W:=by rw[t];exact Zbal
 have b1:W.heap.size=w.heap.size+1:=by rw[t,Go.Deep.nblk_alloc]
 have R:Hid (W=w.alloc (.cells #[Vi p.k,Vi p.n,Vi p.op,.string p.nm,.slice p.ca p.cn p.cc,.slice p.ba p.bn p.bc,Vi p.a,Vi p.b] 80)):=t;have S:Hid (PAt W w.heap.size p):=hid (by rw[t];exact Go.Deep.blk_alloc_new _ _);have T:Hid (RowAt W b (.slice (some ⟨g,0,none⟩) n cp) n xs):=h.below f;have HL:Hid (Rep W xs l a):=Rep.below f l a E;have HR:Hid (Rep W xs r c):=Rep.below f r c F;have HC:Hid (ZJq W 0 p nd.jy):=j.2.2.2.2.1.below f;have HN:Hid (ZJU W 0 p nd.by_):=j.2.2.2.2.2.below f;have U:Hid (BW w W):=f;have G:Hid (wfT (.node x y nd l r)):=d;have u:=Zfy (.node x y nd l r) must d;have B:Hid (p.k=nd.jx/\p.n=nd.n/\p.op=nd.op/\bl p.nm=nd.name/\p.a=a/\p.b=c):=⟨j.1,j.2.1,j.2.2.1,j.2.2.2.1,P,Q⟩
 have a8:ownW nd+wT l+wT r<=100000:=q;have b2:Hid (isNil l=false->PrC b (.slice (some ⟨g,0,none⟩) n cp) n xs l):=C;have b3:Hid (isNil r=false->PrC b (.slice (some ⟨g,0,none⟩) n cp) n xs r):=D;have H:Hid (Zu (.node x y nd l r) must=ZeK (decide (Zz nd<must)) (Zbv nd (Zu l) (Zu r))):=rfl
 have V:Hid ((Zbv nd (Zu l) (Zu r)).length<=100000):=hid (by
  have:=Zow d.2.2.2.2.2.1 (pl:=Zu l) (pr:=Zu r) (x:=wT l) (y:=wT r) (fun m=>Zfy l m d.2.2.2.2.2.2.2.2.2.2.1) (fun m=>Zfy r m d.2.2.2.2.2.2.2.2.2.2.2);omega)
 have X:Hid ((Zu (.node x y nd l r) must).length<=100000):=hid (Yah u q);have b4:nd.jx<=6:=d.1;clear j h s t f E F d C D P Q u q;obtain⟨q0,q1,q2,q3,q4,q5,q6,q7⟩:=PAt.all S.out;go_enter func13,ntmps13
 go_upto_block 0 with fail
 rw[<-R.out];clear c0 c1 c2 c3 c4 c5 c6 c7 A R
 go_cut [8] from 9 to 107 (fun s8 wx=>∃rr:BA,s8=.string rr/\Hid (bl rr=Zbv nd (Zu l) (Zu r))/\Hid (BW W wx))
 case first=>
  have o:BW W W.drew:=(Yaf _ _).drew;have a9:Hid (RowAt W.drew b (.slice (some ⟨g,0,none⟩) n cp) n xs):=T.below o;have b5:Hid (Rep W.drew xs l a):=Rep.below o l a HL.out;have b6:Hid (Rep W.drew xs r c):=Rep.below o r c HR.out;clear o;have b7:p.k=0:=by rw[B.1,L];rfl
  obtain⟨m,M⟩:∃m:Nat,m=nd.n.toNat:=⟨_,rfl⟩
  have Y:Hid (Zbv nd (Zu l) (Zu r)=decS m):=hid (by unfold Zbv;rw[if_pos L,M]);have b8:p.n=(m:Int):=by rw[B.2.1,M];have:=G.2.2.2.2.1;omega
  have Z:Hid (m<=1000000000):=hid (by have:=G.2.2.2.2.2.1;omega);clear L M
  go_wp2_with fail
  refine(ZKV m _ Z.out).mono ?_;rintro e w1 ⟨r1,rfl,_,a0,I⟩;have a3:Hid (BW W w1):=I;clear I;go_wp2
  go_meet
  exact⟨r1,rfl,by rw[Y.out];exact a0,a3⟩
 case rest=>
 obtain⟨rr,rfl,v,N⟩:=hcut;have a4:=N.size;have a5:Hid (PAt wc w.heap.size p):=PAt.kept S.out (N.block _ Om);clear q0 q1 q2 q3 q4 q5 q6 q7;obtain⟨q0,q1,q2,q3,q4,q5,q6,q7⟩:=PAt.all a5.out
 go_wp2_with fail
 refine(ZR0 p nd B.1 B.2.2.1).mono ?_;rintro e z ⟨rfl,J⟩;have K:Hid (BW w z):=U.trans ((N.trans (J.mono a4)).mono Om);have a6:rr.size<=100000:=by rw[ZU v.out];exact V.out
 clear J;by_cases b9:(Zz nd:Int)<must
 ·have O:Hid (Zu (.node x y nd l r) must=[40]++Zbv nd (Zu l) (Zu r)++[41]):=hid (by rw[H.out,decide_eq_true (show Zz nd<must by omega)];rfl);have z1:(⟨#[40]⟩++rr:BA).size=1+rr.size:=by rw[Yaz];rfl
  have a1:∀W,(Op.stringOp .add ⟨#[40]⟩ rr).run prog W=.ok (.string (⟨#[40]⟩++rr)) W:=fun W=>run_string_add_sum W _ _ (by show 1+rr.size<=_;omega);have a2:∀W,(Op.stringOp .add (⟨#[40]⟩++rr) ⟨#[41]⟩).run prog W=.ok (.string ((⟨#[40]⟩++rr)++⟨#[41]⟩)) W:=fun W=>run_string_add_sum W _ _ (by rw[z1];show _+1<=_;omega);have HE:Hid (bl ((⟨#[40]⟩++rr)++⟨#[41]⟩)=Zu (.node x y nd l r) must):=hid (by rw[O.out,ZcV,ZcV,v.out];rfl);clear z1;go_wp2;go_ret;exact⟨_,rfl,by rw[ZU HE.out];exact X.out,HE,K.out⟩
 ·have O:Hid (Zu (.node x y nd l r) must=Zbv nd (Zu l) (Zu r)):=hid (by rw[H.out,decide_eq_false (show ¬Zz nd<must by omega)];rfl);go_wp2;go_ret;exact⟨_,rfl,a6,by rw[O.out];exact v,K.out⟩
theorem ZSV(d:wfT (.node x y nd l r))(q:wT (.node x y nd l r)<=100000)(C:isNil l=false->PrC b pv n xs l)(D:isNil r=false->PrC b pv n xs r)(K:nd.jx=1):PrC b pv n xs (.node x y nd l r):=by
 intro i must w h s a7;obtain⟨g,cp,p,a,c,rfl,a9,hi,j,O,P,E,F,c0,c1,c2,c3,c4,c5,c6,c7⟩:=Rep.at h.own s;have A:=h.cell;obtain⟨W,t⟩:∃W,W=w.alloc (.cells #[Vi p.k,Vi p.n,Vi p.op,.string p.nm,.slice p.ca p.cn p.cc,.slice p.ba p.bn p.bc,Vi p.a,Vi p.b] 80):=⟨_,rfl⟩
 have f:BW w W:=by rw[t];exact Zbal
 have b0:W.heap.size=w.heap.size+1:=by rw[t,Go.Deep.nblk_alloc]
 have Q:Hid (W=w.alloc (.cells #[Vi p.k,Vi p.n,Vi p.op,.string p.nm,.slice p.ca p.cn p.cc,.slice p.ba p.bn p.bc,Vi p.a,Vi p.b] 80)):=t;have R:Hid (PAt W w.heap.size p):=hid (by rw[t];exact Go.Deep.blk_alloc_new _ _);have S:Hid (RowAt W b (.slice (some ⟨g,0,none⟩) n cp) n xs):=h.below f;have HL:Hid (Rep W xs l a):=Rep.below f l a E;have HR:Hid (Rep W xs r c):=Rep.below f r c F;have HC:Hid (ZJq W 0 p nd.jy):=j.2.2.2.2.1.below f;have HN:Hid (ZJU W 0 p nd.by_):=j.2.2.2.2.2.below f;have T:Hid (BW w W):=f;have b1:Hid (wfT (.node x y nd l r)):=d;have u:=Zfy (.node x y nd l r) must d;have B:Hid (p.k=nd.jx/\p.n=nd.n/\p.op=nd.op/\bl p.nm=nd.name/\p.a=a/\p.b=c):=⟨j.1,j.2.1,j.2.2.1,j.2.2.2.1,O,P⟩
 have L:ownW nd+wT l+wT r<=100000:=q;have b2:Hid (isNil l=false->PrC b (.slice (some ⟨g,0,none⟩) n cp) n xs l):=C;have b3:Hid (isNil r=false->PrC b (.slice (some ⟨g,0,none⟩) n cp) n xs r):=D;have G:Hid (Zu (.node x y nd l r) must=ZeK (decide (Zz nd<must)) (Zbv nd (Zu l) (Zu r))):=rfl
 have U:Hid ((Zbv nd (Zu l) (Zu r)).length<=100000):=hid (by
  have:=Zow d.2.2.2.2.2.1 (pl:=Zu l) (pr:=Zu r) (x:=wT l) (y:=wT r) (fun m=>Zfy l m d.2.2.2.2.2.2.2.2.2.2.1) (fun m=>Zfy r m d.2.2.2.2.2.2.2.2.2.2.2);omega)
 have V:Hid ((Zu (.node x y nd l r) must).length<=100000):=hid (Yah u q);have b4:nd.jx<=6:=d.1;clear j h s t f E F d C D O P u q;obtain⟨q0,q1,q2,q3,q4,q5,q6,q7⟩:=PAt.all R.out;go_enter func13,ntmps13
 go_upto_block 0 with fail
 rw[<-Q.out];clear c0 c1 c2 c3 c4 c5 c6 c7 A Q
 go_cut [8] from 9 to 107 (fun s8 wx=>∃rr:BA,s8=.string rr/\Hid (bl rr=Zbv nd (Zu l) (Zu r))/\Hid (BW W wx))
 case first=>
  have o:BW W W.drew:=(Yaf _ _).drew;have a8:Hid (RowAt W.drew b (.slice (some ⟨g,0,none⟩) n cp) n xs):=S.below o;have b5:Hid (Rep W.drew xs l a):=Rep.below o l a HL.out;have b6:Hid (Rep W.drew xs r c):=Rep.below o r c HR.out;clear o;have X:p.k=1:=by rw[B.1,K];rfl
  have Y:Hid (Zbv nd (Zu l) (Zu r)=selS nd):=hid (by unfold Zbv;rw[if_neg Om,if_pos K]);have Z:nd.name.length+cw nd.jy<=200000:=by unfold ownW at L;omega
  clear K
  go_wp2_with fail
  rw[<-X];refine(ZR7 _ p nd B.2.2.2.1 HC.out Z).mono ?_;rintro e w1 ⟨r1,rfl,_,a0,H⟩;have a3:Hid (BW W w1):=H;clear H;go_wp2
  go_meet
  exact⟨r1,rfl,by rw[Y.out];exact a0,a3⟩
 case rest=>
 obtain⟨rr,rfl,v,M⟩:=hcut;have a4:=M.size;have a5:Hid (PAt wc w.heap.size p):=PAt.kept R.out (M.block _ Om);clear q0 q1 q2 q3 q4 q5 q6 q7;obtain⟨q0,q1,q2,q3,q4,q5,q6,q7⟩:=PAt.all a5.out
 go_wp2_with fail
 refine(ZR0 p nd B.1 B.2.2.1).mono ?_;rintro e z ⟨rfl,I⟩;have J:Hid (BW w z):=T.trans ((M.trans (I.mono a4)).mono Om);have a6:rr.size<=100000:=by rw[ZU v.out];exact U.out
 clear I;by_cases b7:(Zz nd:Int)<must
 ·have N:Hid (Zu (.node x y nd l r) must=[40]++Zbv nd (Zu l) (Zu r)++[41]):=hid (by rw[G.out,decide_eq_true (show Zz nd<must by omega)];rfl);have z1:(⟨#[40]⟩++rr:BA).size=1+rr.size:=by rw[Yaz];rfl
  have a1:∀W,(Op.stringOp .add ⟨#[40]⟩ rr).run prog W=.ok (.string (⟨#[40]⟩++rr)) W:=fun W=>run_string_add_sum W _ _ (by show 1+rr.size<=_;omega);have a2:∀W,(Op.stringOp .add (⟨#[40]⟩++rr) ⟨#[41]⟩).run prog W=.ok (.string ((⟨#[40]⟩++rr)++⟨#[41]⟩)) W:=fun W=>run_string_add_sum W _ _ (by rw[z1];show _+1<=_;omega);have HE:Hid (bl ((⟨#[40]⟩++rr)++⟨#[41]⟩)=Zu (.node x y nd l r) must):=hid (by rw[N.out,ZcV,ZcV,v.out];rfl);clear z1;go_wp2;go_ret;exact⟨_,rfl,by rw[ZU HE.out];exact V.out,HE,J.out⟩
 ·have N:Hid (Zu (.node x y nd l r) must=Zbv nd (Zu l) (Zu r)):=hid (by rw[G.out,decide_eq_false (show ¬Zz nd<must by omega)];rfl);go_wp2;go_ret;exact⟨_,rfl,a6,by rw[N.out];exact v,J.out⟩
theorem ZSS(d:wfT (.node x y nd l r))(q:wT (.node x y nd l r)<=100000)(C:isNil l=false->PrC b pv n xs l)(D:isNil r=false->PrC b pv n xs r)(L:nd.jx=3):PrC b pv n xs (.node x y nd l r):=by
 intro i must w h s a8;obtain⟨g,cp,p,a,c,rfl,b1,hi,j,O,P,E,F,c0,c1,c2,c3,c4,c5,c6,c7⟩:=Rep.at h.own s;have A:=h.cell;obtain⟨W,t⟩:∃W,W=w.alloc (.cells #[Vi p.k,Vi p.n,Vi p.op,.string p.nm,.slice p.ca p.cn p.cc,.slice p.ba p.bn p.bc,Vi p.a,Vi p.b] 80):=⟨_,rfl⟩
 have f:BW w W:=by rw[t];exact Zbal
 have b2:W.heap.size=w.heap.size+1:=by rw[t,Go.Deep.nblk_alloc]
 have Q:Hid (W=w.alloc (.cells #[Vi p.k,Vi p.n,Vi p.op,.string p.nm,.slice p.ca p.cn p.cc,.slice p.ba p.bn p.bc,Vi p.a,Vi p.b] 80)):=t;have R:Hid (PAt W w.heap.size p):=hid (by rw[t];exact Go.Deep.blk_alloc_new _ _);have G:Hid (RowAt W b (.slice (some ⟨g,0,none⟩) n cp) n xs):=h.below f;have S:Hid (Rep W xs l a):=Rep.below f l a E;have HR:Hid (Rep W xs r c):=Rep.below f r c F;have HC:Hid (ZJq W 0 p nd.jy):=j.2.2.2.2.1.below f;have HN:Hid (ZJU W 0 p nd.by_):=j.2.2.2.2.2.below f;have T:Hid (BW w W):=f;have U:Hid (wfT (.node x y nd l r)):=d;have u:=Zfy (.node x y nd l r) must d;have B:Hid (p.k=nd.jx/\p.n=nd.n/\p.op=nd.op/\bl p.nm=nd.name/\p.a=a/\p.b=c):=⟨j.1,j.2.1,j.2.2.1,j.2.2.2.1,O,P⟩
 have a9:ownW nd+wT l+wT r<=100000:=q;have V:Hid (isNil l=false->PrC b (.slice (some ⟨g,0,none⟩) n cp) n xs l):=C;have b3:Hid (isNil r=false->PrC b (.slice (some ⟨g,0,none⟩) n cp) n xs r):=D;have H:Hid (Zu (.node x y nd l r) must=ZeK (decide (Zz nd<must)) (Zbv nd (Zu l) (Zu r))):=rfl
 have X:Hid ((Zbv nd (Zu l) (Zu r)).length<=100000):=hid (by
  have:=Zow d.2.2.2.2.2.1 (pl:=Zu l) (pr:=Zu r) (x:=wT l) (y:=wT r) (fun m=>Zfy l m d.2.2.2.2.2.2.2.2.2.2.1) (fun m=>Zfy r m d.2.2.2.2.2.2.2.2.2.2.2);omega)
 have Y:Hid ((Zu (.node x y nd l r) must).length<=100000):=hid (Yah u q);have b4:nd.jx<=6:=d.1;clear j h s t f E F d C D O P u q;obtain⟨q0,q1,q2,q3,q4,q5,q6,q7⟩:=PAt.all R.out;go_enter func13,ntmps13
 go_upto_block 0 with fail
 rw[<-Q.out];clear c0 c1 c2 c3 c4 c5 c6 c7 A Q
 go_cut [8] from 9 to 107 (fun s8 wx=>∃rr:BA,s8=.string rr/\Hid (bl rr=Zbv nd (Zu l) (Zu r))/\Hid (BW W wx))
 case first=>
  have o:BW W W.drew:=(Yaf _ _).drew;have b0:Hid (RowAt W.drew b (.slice (some ⟨g,0,none⟩) n cp) n xs):=G.below o;have b5:Hid (Rep W.drew xs l a):=Rep.below o l a S.out;have b6:Hid (Rep W.drew xs r c):=Rep.below o r c HR.out;clear o;have b7:p.k=3:=by rw[B.1,L];rfl
  have Z:Hid (Zbv nd (Zu l) (Zu r)=[45]++Zu l 4):=hid (by unfold Zbv;rw[if_neg Om,if_neg Om,if_neg Om,if_pos L]);have a0:isNil l=false:=U.2.2.2.2.2.2.1 Om;clear L
  go_wp2_with fail
  rw[B.2.2.2.2.1];refine(V.out a0 a 4 W G.out S.out Dc).mono ?_;rintro e w1 ⟨r1,rfl,b8,a3,I⟩;have a4:Hid (BW W w1):=I;have a1:∀W,(Op.stringOp .add ⟨#[45]⟩ r1).run prog W=.ok (.string (⟨#[45]⟩++r1)) W:=fun W=>run_string_add_sum W _ _ (by show 1+r1.size<=_;omega);clear I;go_wp2
  go_meet
  exact⟨_,rfl,hid (by rw[Z.out,ZcV,a3.out];rfl),a4⟩
 case rest=>
 obtain⟨rr,rfl,v,M⟩:=hcut;have a5:=M.size;have a6:Hid (PAt wc w.heap.size p):=PAt.kept R.out (M.block _ Om);clear q0 q1 q2 q3 q4 q5 q6 q7;obtain⟨q0,q1,q2,q3,q4,q5,q6,q7⟩:=PAt.all a6.out
 go_wp2_with fail
 refine(ZR0 p nd B.1 B.2.2.1).mono ?_;rintro e z ⟨rfl,J⟩;have K:Hid (BW w z):=T.trans ((M.trans (J.mono a5)).mono Om);have a7:rr.size<=100000:=by rw[ZU v.out];exact X.out
 clear J;by_cases b9:(Zz nd:Int)<must
 ·have N:Hid (Zu (.node x y nd l r) must=[40]++Zbv nd (Zu l) (Zu r)++[41]):=hid (by rw[H.out,decide_eq_true (show Zz nd<must by omega)];rfl);have z1:(⟨#[40]⟩++rr:BA).size=1+rr.size:=by rw[Yaz];rfl
  have a1:∀W,(Op.stringOp .add ⟨#[40]⟩ rr).run prog W=.ok (.string (⟨#[40]⟩++rr)) W:=fun W=>run_string_add_sum W _ _ (by show 1+rr.size<=_;omega);have a2:∀W,(Op.stringOp .add (⟨#[40]⟩++rr) ⟨#[41]⟩).run prog W=.ok (.string ((⟨#[40]⟩++rr)++⟨#[41]⟩)) W:=fun W=>run_string_add_sum W _ _ (by rw[z1];show _+1<=_;omega);have HE:Hid (bl ((⟨#[40]⟩++rr)++⟨#[41]⟩)=Zu (.node x y nd l r) must):=hid (by rw[N.out,ZcV,ZcV,v.out];rfl);clear z1;go_wp2;go_ret;exact⟨_,rfl,by rw[ZU HE.out];exact Y.out,HE,K.out⟩
 ·have N:Hid (Zu (.node x y nd l r) must=Zbv nd (Zu l) (Zu r)):=hid (by rw[H.out,decide_eq_false (show ¬Zz nd<must by omega)];rfl);go_wp2;go_ret;exact⟨_,rfl,a7,by rw[N.out];exact v,K.out⟩

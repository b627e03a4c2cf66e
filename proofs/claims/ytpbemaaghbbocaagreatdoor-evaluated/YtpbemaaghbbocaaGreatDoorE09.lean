/- Parts. -/
import Derived.Test.YtpbemaaghbbocaaGreatDoorE08
import Derived.Lib.SplitLaws
import Derived.BigQuiet
set_option linter.all false
set_option maxRecDepth 100000
set_option maxHeartbeats 16000000
namespace Go.Proofs.YtpbemaaghbbocaaGreatDoor
open Go.RowKit LS Go.Proofs.Tryz
theorem Rep.at{w:World}{pv:Value}{n:Nat}{xs:List Value}(d:w.ownsRow 0 131 8 pv n xs){x y:Nat}{nd:Nd}{l r:Tr}{i:Nat}(h:Rep w xs (.node x y nd l r) i) :
  ∃(g cp:Nat) (p:PV) (a c:Nat),pv=.slice (some ⟨g,0,none⟩) n cp/\g<w.heap.size/\i<n/\ZKf w nd p/\p.a=a/\p.b=c/\Rep w xs l a/\Rep w xs r c/\
   w.cell? ⟨g,i*8,none⟩=some (Vi p.k)/\w.cell? ⟨g,i*8+1,none⟩=some (Vi p.n)/\w.cell? ⟨g,i*8+2,none⟩=some (Vi p.op)/\w.cell? ⟨g,i*8+3,none⟩=some (.string p.nm)/\
   w.cell? ⟨g,i*8+4,none⟩=some (.slice p.ca p.cn p.cc)/\w.cell? ⟨g,i*8+5,none⟩=some (.slice p.ba p.bn p.bc)/\w.cell? ⟨g,i*8+6,none⟩=some (Vi p.a)/\w.cell? ⟨g,i*8+7,none⟩=some (Vi p.b):=by
 obtain⟨p,a,c,m,q,s,t,_,_,u,z⟩:=h;have f:=congrArg List.length m;rw[ZKR,Ya7,Ybv,d.1]at f;have A:i<n:=by omega
 obtain⟨g,cp,rfl⟩:=ZF d Om
 have e:∀j v,j<8->p.cells[j]?=some v->w.cell? ⟨g,i*8+j,none⟩=some v:=by
  intro j v B o;refine Zi d _ _ ?_;rw[<-m,Ygk,if_pos B,List.getElem?_drop]at o;exact o
 exact⟨g,cp,p,a,c,rfl,Z1 d,A,q,s,t,u,z,e 0 _ Dc rfl,e 1 _ Dc rfl,e 2 _ Dc rfl,e 3 _ Dc rfl,e 4 _ Dc rfl,e 5 _ Dc rfl,e 6 _ Dc rfl,e 7 _ Dc rfl⟩
theorem ZJU.below{w w':World}{base:Nat}{p:PV}{ns:List (LB)}(h:ZJU w base p ns)(a:BW w w'):ZJU w' base p ns:=by
 obtain⟨bs,c,d⟩:=h;exact⟨bs,Zn c a,d⟩
theorem ZJq.below{w w':World}{base:Nat}{p:PV}{ns:List (LB×LB×Bool)}(h:ZJq w base p ns)(a:BW w w'):ZJq w' base p ns:=by
 obtain⟨bs,c,d⟩:=h;exact⟨bs,Zn c a,d⟩
theorem Rep.below{w w':World}{xs:List Value}(a:BW w w'):∀(t:Tr) (i:Nat),Rep w xs t i->Rep w' xs t i
 | .nil,_,_=>trivial
 | .node _ _ nd l r, i, h => by
   obtain⟨p,u,c,d,⟨g1,g2,g3,g4,g5,g6⟩,e,f,g,j,k,m⟩:=h;exact⟨p,u,c,d,⟨g1,g2,g3,g4,g5.below a,g6.below a⟩,e,f,g,j,Rep.below a l u k,Rep.below a r c m⟩
theorem Zid(t:Tr):Zf t<=2:=by
 cases t with
 | nil=>decide
 | node x y a l r=>
  unfold Zf;have c:=Zid l;split
  ·decide
  ·split
   ·decide
   ·split
    ·exact c
    ·split
     ·split <;> decide
     ·split
      ·decide
      ·split <;> decide
structure RowAt (w:World) (b:Nat) (pv:Value) (n:Nat) (xs:List Value):Prop where
 cell:w.cell? ⟨b,0,none⟩=some pv
 own:w.ownsRow 0 131 8 pv n xs
theorem RowAt.below{w w':World}{b:Nat}{pv:Value}{n:Nat}{xs:List Value}(h:RowAt w b pv n xs)(a:BW w w'):RowAt w' b pv n xs:=
 ⟨(a.cell (p:=⟨b,0,none⟩) (Yai _ _ h.cell)).trans h.cell,Zn h.own a⟩
theorem ZNx(b:Nat)(pv:Value)(n:Nat)(xs:List Value):∀(t:Tr) (i:Nat) (w:World),wfT t->isNil t=false->RowAt w b pv n xs->Rep w xs t i->
  CP 49 #[Vp b,Vi i] w fun e u=>e=.returned (Vi (Zf t))/\BW w u:=by
 intro t
 induction t with
 | nil=>intro i w _ h;cases h
 | node x y nd l r O P=>
  intro i w H _ q I;obtain⟨g,cp,p,a,c,rfl,a8,hi,Y,L,M,Q,R,c0,c1,c2,c3,c4,c5,c6,c7⟩:=Rep.at q.own I;have a6:=q.cell;have a7:Hid (RowAt w b (.slice (some ⟨g,0,none⟩) n cp) n xs):=q;obtain⟨W,N⟩:∃W,W=w.alloc (.cells #[Vi p.k,Vi p.n,Vi p.op,.string p.nm,.slice p.ca p.cn p.cc,.slice p.ba p.bn p.bc,Vi p.a,Vi p.b] 131):=⟨_,rfl⟩
  have D:BW w W:=by rw[N];exact Zbal
  have v:Hid (W=w.alloc (.cells #[Vi p.k,Vi p.n,Vi p.op,.string p.nm,.slice p.ca p.cn p.cc,.slice p.ba p.bn p.bc,Vi p.a,Vi p.b] 131)):=N;have Z:Hid (PAt W w.heap.size p):=hid (by rw[N];exact Go.Deep.blk_alloc_new _ _);have F:Hid (RowAt W b (.slice (some ⟨g,0,none⟩) n cp) n xs):=q.below D;have V:Hid (Rep W xs l a):=Rep.below D l a Q;have HR:Hid (Rep W xs r c):=Rep.below D r c R;have A:Hid (BW w W):=D;have S:p.k=nd.jx:=Y.1;have m:Hid (wfT (.node x y nd l r)):=H;have a9:nd.jx<=6:=H.1;have E:Hid (∀(i:Nat) (w:World),wfT l->isNil l=false->RowAt w b (.slice (some ⟨g,0,none⟩) n cp) n xs->Rep w xs l i->CP 49 #[Vp b,Vi i] w fun e u=>e=.returned (Vi (Zf l))/\BW w u):=O;have T:Hid (∀(i:Nat) (w:World),wfT r->isNil r=false->RowAt w b (.slice (some ⟨g,0,none⟩) n cp) n xs->Rep w xs r i->CP 49 #[Vp b,Vi i] w fun e u=>e=.returned (Vi (Zf r))/\BW w u):=P;rw[L,M]at v;rw[L]at c6;rw[M]at c7;have HA:Hid (p.a=a/\p.b=c):=⟨L,M⟩
  have s:Hid (p.k=nd.jx):=S;clear L M S Y q I N D Q R H O P;have h7:nd.jx=0∨nd.jx=1∨nd.jx=2∨nd.jx=3∨nd.jx=5∨(nd.jx=4∨nd.jx=6):=by omega
  rcases h7 with f|f|f|f|f|f
  ·have o:Hid (Zf (.node x y nd l r)=1):=hid (by unfold Zf;rw[if_pos f]);have d:p.k=0:=by rw[s.out,f];rfl
   rw[d]at c0 v;clear d;go_enter func49,ntmps49;go_wp2;go_ret;rw[o.out];exact⟨rfl,Zbal⟩
  ·have o:Hid (Zf (.node x y nd l r)=2):=hid (by unfold Zf;rw[if_neg Om,if_pos (Or.inl f)]);have d:p.k=1:=by rw[s.out,f];rfl
   rw[d]at c0 v;clear d;go_enter func49,ntmps49;go_wp2;go_ret;rw[o.out];exact⟨rfl,Zbal⟩
  ·have o:Hid (Zf (.node x y nd l r)=2):=hid (by unfold Zf;rw[if_neg Om,if_pos (Or.inr f)]);have d:p.k=2:=by rw[s.out,f];rfl
   rw[d]at c0 v;clear d;go_enter func49,ntmps49;go_wp2;go_ret;rw[o.out];exact⟨rfl,Zbal⟩
  ·have o:Hid (Zf (.node x y nd l r)=Zf l):=hid (by rw[Zf];rw[if_neg Om,if_neg Om,if_pos f]);have d:p.k=3:=by rw[s.out,f];rfl
   rw[d]at c0 v;clear d;go_enter func49,ntmps49
   go_wp2_with fail
   rw[<-v.out];refine(E.out a W m.2.2.2.2.2.2.2.2.2.2.1 (m.2.2.2.2.2.2.1 Om) F.out V.out).mono ?_;rintro e C ⟨rfl,j⟩;have B:Hid (BW w C):=A.trans (j.mono A.size);clear j;go_wp2;go_ret;rw[o.out];exact⟨rfl,B.out⟩
  ·have o:Hid (Zf (.node x y nd l r)=if Zf l=2 then 2 else 0):=hid (by rw[Zf];rw[if_neg Om,if_neg Om,if_neg Om,if_pos f]);have d:p.k=5:=by rw[s.out,f];rfl
   rw[d]at c0 v;clear d;go_enter func49,ntmps49
   go_wp2_with fail
   rw[<-v.out];refine(E.out a W m.2.2.2.2.2.2.2.2.2.2.1 (m.2.2.2.2.2.2.1 Om) F.out V.out).mono ?_;rintro e C ⟨rfl,j⟩;have B:Hid (BW w C):=A.trans (j.mono A.size);clear j;have U:=Zid l;generalize Zf l=ka at *
   have X:ka=0∨ka=1∨ka=2:=by omega
   clear E;rcases X with rfl|rfl|rfl
   all_goals
    go_wp2;go_ret;rw[o.out];exact⟨rfl,B.out⟩
  ·have o:Hid (Zf (.node x y nd l r)=if Zf l=0∨Zf r=0∨(nd.jx=6/\Zf l+Zf r≠4)then 0 else if Zf l+Zf r=2 then 1 else 2):=hid (by rw[Zf];rw[if_neg Om,if_neg Om,if_neg Om,if_neg Om]);have G:Hid (isNil l=false/\isNil r=false/\wfT l/\wfT r):=⟨m.2.2.2.2.2.2.1 Om,m.2.2.2.2.2.2.2.1 f,m.2.2.2.2.2.2.2.2.2.2.1,m.2.2.2.2.2.2.2.2.2.2.2⟩
   rcases f with f|f
   all_goals
    first
     | have d:p.k=4:=by rw[s.out,f];rfl
     | have d:p.k=6:=by rw[s.out,f];rfl
    rw[f]at o;rw[d]at c0 v;go_enter func49,ntmps49
    go_wp2_with fail
    rw[<-v.out];refine(E.out a W G.2.2.1 G.1 F.out V.out).mono ?_;rintro e C ⟨rfl,j⟩;have B:Hid (BW w C):=A.trans (j.mono A.size);have J:Hid (PAt C w.heap.size _):=PAt.kept Z.out (j.block _ (PAt.lt Z.out));have a0:Hid (Rep C xs r c):=Rep.below j r c HR.out;have a1:Hid (RowAt C b (.slice (some ⟨g,0,none⟩) n cp) n xs):=F.below j;have a2:=B.size;obtain⟨k0,k1,k2,k3,k4,k5,k6,k7⟩:=PAt.all J.out;rw[d]at k0;rw[HA.1]at k6;rw[HA.2]at k7;clear j
    go_wp2_with fail
    clear k0 k1 k2 k3 k4 k5 k6 k7;refine(T.out c C G.2.2.2 G.2.1 a1.out a0.out).mono ?_;rintro e z ⟨rfl,K⟩;have a3:Hid (BW w z):=B.trans (K.mono a2);have a4:Hid (PAt z w.heap.size _):=PAt.kept J.out (K.block _ (PAt.lt J.out));obtain⟨k0,k1,k2,k3,k4,k5,k6,k7⟩:=PAt.all a4.out;rw[d]at k0;clear K;have U:=Zid l;have a5:=Zid r;generalize Zf l=ka at *
    generalize Zf r=kb at *
    have X:ka=0∨ka=1∨ka=2:=by omega
    have h4:kb=0∨kb=1∨kb=2:=by omega
    clear E T U a5;rcases X with rfl|rfl|rfl <;> rcases h4 with rfl|rfl|rfl
    all_goals
     go_wp2;go_ret;rw[o.out];exact⟨rfl,a3.out⟩
def ZLp(w:World)(b:Nat)(t:Tr):Prop:=∃(pv:Value) (n:Nat) (xs:List Value),RowAt w b pv (n+1) xs/\n+1<=301/\Rep w xs t n/\wfT t/\isNil t=false/\wT t<=100000/\n+1=cntT t
theorem ZjC(l:LB)(a:l.length<=300):∀(n i:Nat),tw (ZN l n i)<=332*(ZN l n i).length
 | 0,_=>Yac _
 | n + 1, i => by
   have c:=Zyb l i;have d:=ZjC l a n (Zk l i).2;unfold ZN;split
   · simp[tw];omega
   · simp[tw];omega
theorem ZMq{w:World}{b:Nat}{q:QV}(h:QAt w b q)(d:q.s.size<=6000)(f:q.at_=0)(g:q.e=0) :
  CP 46 #[Vp b] w fun r u=>r=.returned (.tuple #[])/\St u b q.pv q.s q.deep (.ok ((),ZN (bl q.s) ((bl q.s).length+1) 0))/\w.grownBy u (some b):=by
 refine(ZLb w b q h d Om).mono ?_;rintro r u ⟨rfl,⟨tx,a,c⟩,i⟩;rw[f]at c a;refine⟨rfl,⟨⟨_,c,rfl,rfl,rfl,g,?_,?_⟩,trivial⟩,i⟩
 ·have:=(Zig (bl q.s) 0 (Yag _)).2;rw[Zd]at this;exact this
 ·have e:ZJB { q with at_:=(Zk (bl q.s) 0).2,k:=(Zk (bl q.s) 0).1.jx,tx:=tx,ta:=(Zk (bl q.s) 0).1.at_ }=(Zk (bl q.s) 0).1:=by
   show(⟨_,bl tx,_⟩:Tok)=_;rw[a]
  rw[e];exact Toks.start _
theorem ZN9(s:BA)(w:World)(b9:s.size<=9223372036854775807) :
  CP 25 #[.string s] w fun e u => (∃ (v : Value) (c p : Nat), e = .returned (.tuple #[v, Vi c, Vi p]) /\
    Hid ((∀x,ZD (bl s)=.error x->c=x.1/\p=x.2/\c≠0/\v=.pointer none)/\(∀t,ZD (bl s)=.ok t->c=0/\p=0/\∃b,v=Vp b/\w.heap.size<=b/\ZLp u b t)))/\BW w u:=by
 by_cases hl:300<s.size
 ·have HR:Hid (ZD (bl s)=.error (1,0)):=hid (by unfold ZD;rw[Zd,if_pos hl]);have hd:(300:Int)<s.size:=by omega
  go_enter func25,ntmps25;go_wp2
  go_ret3
  refine⟨⟨_,1,0,rfl,⟨fun x X=>?_,fun t d=>?_⟩⟩,Yaf _ _⟩
  ·rw[HR.out]at X;injection X with X;subst X;exact⟨rfl,rfl,by decide,rfl⟩
  ·rw[HR.out]at d;cases d
 ·have b1:s.size<=300:=by omega
  have hd:¬((300:Int)<s.size):=by omega
  obtain⟨ts,n⟩:∃ts,ts=ZN (bl s) ((bl s).length+1) 0:=⟨_,rfl⟩
  have c9:ts.length<=301:=by
   have:=ZjB (bl s) ((bl s).length+1) 0 (Yag _);rw[<-n,Zd]at this;omega
  have d9:tw ts<=100000:=by
   have:=ZjC (bl s) (by rw[Zd];exact b1) ((bl s).length+1) 0;rw[<-n]at this;omega
  have m:Hid (ZD (bl s)=match Zs (10*ts.length+5) false 0 .nil ts 0 with
   | .error e=>.error e
   | .ok (t,r)=>if (LS.hd r).jx=0 then (if Zf t=0 then .error (4,0)else .ok t)else .error (2,(LS.hd r).at_)):=hid (by
   unfold ZD;rw[Zd,if_neg hl,<-Zd,<-n];cases Zs (10*ts.length+5) false 0 .nil ts 0 with
   | error e=>rfl
   | ok x=>rfl)
  have Z:Hid (ts=ZN (bl s) ((bl s).length+1) 0):=n;clear n;obtain⟨R,hR⟩:∃R,R=Zs (10*ts.length+5) false 0 .nil ts 0:=⟨_,rfl⟩
  have a0:Hid (R=Zs (10*ts.length+5) false 0 .nil ts 0):=hR;rw[<-hR]at m;clear hR;have b3:Hid (∀W:World,QAt (W.alloc (.cells #[S0,.string s,Vi 0,Vi 0,.string ⟨#[]⟩,Vi 0,Vi 0,Vi 0,Vi 0] 115)) W.heap.size ⟨S0,s,0,0,⟨#[]⟩,0,0,0,0⟩):=fun W=>Go.Deep.blk_alloc_new _ _;go_enter func25,ntmps25
  go_wp2_with fail
  refine(ZMq (b3.out w) (by show s.size<=6000;omega) rfl rfl).mono ?_;rintro e w1 ⟨rfl,o,f⟩;have a1:Hid (St w1 w.heap.size S0 s 0 (.ok ((),ts))):=hid (by rw[Z.out];exact o);have K:Hid (BW w w1):=⟨f.os,f.tape,f.output,by have:=f.size;rw[Go.Deep.nblk_alloc]at this;omega,fun k hk=>(f.block k (by rw[Go.Deep.nblk_alloc];omega) (by simp;omega)).trans (Go.Deep.blk_alloc_lt _ _ _ hk)⟩
  clear o f Z
  go_wp2_with fail
  refine(ZA2 Om ts.length w1 w.heap.size S0 0 _ 0 [] ts.length a1.out (Ybc _ _ _ _) Om (show 0+ts.length<=ts.length by omega) (fun t e=>by injection e with e;injection e with _ e;subst e;exact Yac _) Om).mono ?_;rintro e A ⟨i,rfl,hp⟩;rw[show(bnd (.ok ((),ts):Out Unit) fun _ ts'=>Zs (10*ts.length+5) false 0 .nil ts' 0)=R from a0.symm]at hp;obtain⟨n2,pv2,ys,s2,o2,k2,b2,r2⟩:=hp.out;rw[Ycu]at o2 r2;have F:Hid (St A w.heap.size pv2 s 0 (ZJm R)):=s2;have L:Hid (A.ownsRow 0 131 8 pv2 n2 ys):=o2;have M:Hid (BW w A):=K.trans ⟨k2.os,k2.tape,k2.output,k2.size,fun k hk=>k2.block k (by have:=K.size;omega) Om (by simp[Value.ownBlock])⟩;have a2:Hid (n2<=301):=hid (by have:=b2.le;omega);have G:Hid (∀t z,R=.ok (t,z)->∃k:Nat,i=k/\Rep A ys t k/\k+1=n2/\ys.length=8*cntT t):=r2;have e0:w.heap.size<A.heap.size:=F.lt;clear hp s2 o2 k2 b2 r2 K a1;obtain⟨q,hq,a3,_,N,O⟩:=St.view F.out;obtain⟨c0,c1,c2,c3,c4,c5,c6,c7,c8⟩:=hq.all;cases l:R with
  | error x=>
   have g:Hid (ZD (bl s)=.error x):=hid (by rw[m.out,l]);obtain⟨e1,e2,e3⟩:=N x (by rw[l];rfl);have a4:((q.e:Int) == 0)=false:=by rw[beq_eq_false_iff_ne];omega
   have a5:((q.e:Int) != 0)=true:=by rw[bne_iff_ne];omega
   have E:Hid (q.e=x.1/\q.e≠0/\q.pl=x.2):=⟨e1,e2,e3⟩
   clear e1 e2 e3 N O hq l m G;go_wp2
   go_region
   all_goals
    go_wp2
    go_ret3
    refine⟨⟨_,q.e,q.pl,rfl,⟨fun y a=>?_,fun t d=>?_⟩⟩,ZhQ M.out 1⟩
    ·rw[g.out]at a;injection a with a;subst a;exact⟨E.1,E.2.2,E.2.1,rfl⟩
    ·rw[g.out]at d;cases d
  | ok x=>
   obtain⟨t,r⟩:=x;rw[l]at F G m;obtain⟨k,b4,P,a6,b5⟩:=G.out t r rfl;have b6:Hid (k+1=cntT t):=hid (by have:=L.1;omega);clear b5;obtain⟨e1,e2⟩:=O ((),r) (by rw[l];rfl);obtain⟨f1,f2,f3⟩:=Zfv _ false _ _ _ _ _ (fun h=>(by cases h)) (a0.symm.trans l);have a4:((q.e:Int) == 0)=true:=by rw[e1];rfl
   have Q:Hid (wfT t/\isNil t=false/\wT t<=100000):=⟨f1,f2,by simp at f3;omega⟩
   have H:q.k=(LS.hd r).jx:=(ZJG e2).1;have S:Hid (Rep A ys t k):=P;have a7:Hid (RowAt A w.heap.size pv2 (k+1) ys):=⟨by rw[c0,a3],by rw[a6];exact L.out⟩
   have b7:k+1<=301:=by rw[a6];exact a2.out
   clear N O hq P f1 f2 f3 e1 e2 l G a3 a2 L;subst b4;by_cases B:(LS.hd r).jx=0
   ·have b8:((q.k:Int) != 0)=false:=by rw[H,B];rfl
    have a5:((q.e:Int) != 0)=false:=by
     have:(q.e:Int)=0:=by simpa using a4
     rw[this];rfl
    have g:Hid (ZD (bl s)=if Zf t=0 then .error (4,0)else .ok t):=hid (by rw[m.out];show(if (LS.hd r).jx=0 then _ else _)=_;rw[if_pos B]);clear B H
    go_wp2_with fail
    refine(ZNx w.heap.size pv2 (k+1) ys t k A Q.1 Q.2.1 a7.out S.out).mono ?_;rintro e T ⟨rfl,I⟩;have b0:Hid (RowAt T w.heap.size pv2 (k+1) ys):=a7.below I;have Y:Hid (Rep T ys t k):=Rep.below I t k S.out;have J:Hid (BW w T):=M.trans (I.mono Om);clear I;have a8:=Zid t;by_cases C:Zf t=0
    ·have U:((Zf t:Int) == 0)=true:=by rw[C];rfl
     have D:Hid (ZD (bl s)=.error (4,0)):=hid (by rw[g.out,if_pos C]);generalize Zf t=kt at U a8 ⊢;clear C;go_wp2
     go_ret3
     refine⟨⟨_,4,0,rfl,⟨fun y a=>?_,fun t' d=>?_⟩⟩,J.out⟩
     ·rw[D.out]at a;injection a with a;subst a;exact⟨rfl,rfl,by decide,rfl⟩
     ·rw[D.out]at d;cases d
    ·have U:((Zf t:Int) == 0)=false:=by rw[beq_eq_false_iff_ne];omega
     have D:Hid (ZD (bl s)=.ok t):=hid (by rw[g.out,if_neg C]);generalize Zf t=kt at U a8 ⊢;clear C;go_wp2
     go_ret3
     refine⟨⟨_,0,0,rfl,⟨fun y a=>?_,fun t' d=>?_⟩⟩,J.out⟩
     ·rw[D.out]at a;cases a
     ·rw[D.out]at d;injection d with d;subst d;exact⟨rfl,rfl,w.heap.size,rfl,Yac _,pv2,k,ys,b0.out,b7,Y.out,Q.1,Q.2.1,Q.2.2,b6.out⟩
   ·have b8:((q.k:Int) != 0)=true:=by rw[H,bne_iff_ne];omega
    have g:Hid (ZD (bl s)=.error (2,(LS.hd r).at_)):=hid (by rw[m.out];show(if (LS.hd r).jx=0 then _ else _)=_;rw[if_neg B]);clear B H
    go_wp2_with fail
    refine(St.fail F.out 2 _ rfl Dc).mono ?_;rintro e T ⟨rfl,o,f⟩;obtain⟨q3,a9,_,_,V,_⟩:=St.view o;obtain⟨g1,g2,g3⟩:=V (2,(LS.hd r).at_) rfl;obtain⟨d0,d1,d2,d3,d4,d5,d6,d7,d8⟩:=a9.all;have a5:((q3.e:Int) != 0)=true:=by rw[bne_iff_ne];omega
    have E:Hid (q3.e=2/\q3.pl=(LS.hd r).at_):=⟨g1,g3⟩
    have J:Hid (BW w T):=M.trans ⟨f.os,f.tape,f.output,f.size,fun j hj=>f.block j Om (by simp;omega)⟩;clear o f a9 V g1 g2 g3 c0 c1 c2 c3 c4 c5 c6 c7 c8;go_wp2
    go_region
    all_goals
     go_wp2
     go_ret3
     refine⟨⟨_,q3.e,q3.pl,rfl,⟨fun y a=>?_,fun t d=>?_⟩⟩,ZhQ J.out 1⟩
     ·rw[g.out]at a;injection a with a;subst a;exact⟨E.1,E.2,by rw[E.1];decide,rfl⟩
     ·rw[g.out]at d;cases d
theorem ZcV(a b:BA):bl (a++b)=bl a++bl b:=by simp[bl]
def dig(d:Nat):UInt8:=UInt8.ofNat (48+d)
def decS(n:Nat):LB:=if n<=9 then [dig n] else decS (n / 10)++[dig (n % 10)]
theorem ZKS(W:World)(d:Nat)(hd:d<=9):(convert 63 9 (.slice (some ⟨W.heap.size,0,none⟩) 1 1)).run prog (W.alloc (.cells #[.int .u8 ((48:Int)+d)] 5))=.ok (.string ⟨#[dig d]⟩) (W.alloc (.cells #[.int .u8 ((48:Int)+d)] 5)):=by
 refine run_convert_bytes_back _ _ _ 5 ⟨W.heap.size,0,none⟩ 1 [dig d] underlying63 underlying5 underlying9 ?_;intro j a;obtain rfl:j=0:=by simp at a;omega
 rw[ZfO];have h:=Go.Deep.blk_alloc_new W (.cells #[.int .u8 ((48:Int)+d)] 5);simp only[World.cell?,h]
 have e:((dig d).toNat:Int)=48+d:=by
  have:(dig d).toNat=48+d:=by unfold dig;simp;omega
  omega
 simp[e]
theorem Zh0{n:Nat}(h:n<=9):decS n=[dig n]:=by rw[decS,if_pos h]
theorem Zi6{n:Nat}(h:¬n<=9):decS n=decS (n / 10)++[dig (n % 10)]:=by rw[decS,if_neg h]
theorem ZKV(n:Nat){w:World}(k:n<=1000000000) :
  CP 53 #[Vi n] w fun e u=>∃r:BA,e=.returned (.string r)/\r.size<=1000000001/\Hid (bl r=decS n)/\BW w u:=by
 go_enter func53,ntmps53;go_wp2
 go_loopw [0,3] (fun v sv wr=>∃(m:Nat) (r:BA),v=Vi m/\sv=.string r/\r.size+m<=n/\Hid (decS n=decS m++bl r)/\BW w wr) (fun v _ _=>(intOf v).toNat)
 case atStart=>exact⟨n,⟨#[]⟩,rfl,rfl,Nat.le_of_eq (Ycf n),hid (by simp[bl]),Yaf _ _⟩
 case round=>
  obtain⟨m,r,rfl,rfl,l,g,i⟩:=hrel;have j:=i.size;by_cases d:m<=9
  ·have c:=ZKS wr m d;have f:Hid (bl (⟨#[dig m]⟩++r)=decS n):=hid (by rw[ZcV,g.out,Zh0 d];rfl);have e1:(⟨#[dig m]⟩:BA).size=1:=rfl;have a1:∀W,(Op.stringOp .add ⟨#[dig m]⟩ r).run prog W=.ok (.string (⟨#[dig m]⟩++r)) W:=fun W=>run_string_add_sum W _ _ Om;have a:(⟨#[dig m]⟩++r).size<=1000000001:=by simp only[Yaz];omega
   have h:¬(9<(m:Int)):=by omega
   go_wp2;go_ret;exact⟨_,rfl,a,f,belB⟩
  ·have c:=ZKS wr (m % 10) Om;rw[show((m % 10:Nat):Int)=(m:Int) % 10 from by omega]at c;have f:Hid (decS n=decS (m / 10)++bl (⟨#[dig (m % 10)]⟩++r)):=hid (by rw[ZcV,g.out,Zi6 d,Yan];rfl);have e1:(⟨#[dig (m % 10)]⟩:BA).size=1:=rfl;have a1:∀W,(Op.stringOp .add ⟨#[dig (m % 10)]⟩ r).run prog W=.ok (.string (⟨#[dig (m % 10)]⟩++r)) W:=fun W=>run_string_add_sum W _ _ Om;have a:(⟨#[dig (m % 10)]⟩++r).size+m / 10<=n:=by simp only[Yaz];omega
   have h:9<(m:Int):=by omega
   go_wp2
   go_roundw
   case rel=>exact⟨m / 10,_,by simp,rfl,a,f,belB⟩
   case measure=>simp[intOf];omega
theorem ZhX(a b:LB)(l:List (LB)):commas (a::b::l)=a++44::commas (b::l):=rfl
theorem ZeS:∀(l:List (LB)),(commas l).length<=nw l
 | []=>Yac _
 | [a]=>by simp[commas,nw]
 | a :: b :: l => by
   have:=ZeS (b::l);rw[ZhX,Yab,Yaj];simp only[nw]at *
   omega
theorem Zlc(l:List (LB))(a:LB):commas (l++[a])=(if l.isEmpty then [] else commas l++[44])++a:=by
 induction l with
 | nil=>rfl
 | cons b l ih=>
  cases l with
  | nil=>simp[commas]
  | cons c l=>
   have e:commas (b::c::l++[a])=b++44::commas (c::l++[a]):=rfl;rw[e,ih];simp[commas]
end Go.Proofs.YtpbemaaghbbocaaGreatDoor
namespace Go.Proofs.YtpbemaaghbbocaaGreatDoor.LS
open Go Go.RowKit
abbrev Lab:=LB×LB
abbrev El:=List Lab×Int
structure Ser where
 name:LB
 labs:List Lab
 jz:List (Int×Int)
abbrev VV:=Int ⊕ List El
def lab1(p:Lab):LB:=p.1++[61]++p.2
def wrt(l:List Lab):LB:=Go.Proofs.YtpbemaaghbbocaaGreatDoor.LS.commas (l.map lab1)
def cutV(n:Int):Int:=if 1000000000<n then 1000000000 else if n < -1000000000 then -1000000000 else n
def Zcd:List El->El->List El
 | [],x=>[x]
 | y::l,x=>if Op.bytesLess (wrt x.1) (wrt y.1)then x::y::l else y::Zcd l x
def ZeI:List Lab->LB->LB
 | [],_=>[]
 | p::l,n=>if p.1=n then p.2 else ZeI l n
def ZfW(s:Ser)(c:LB×LB×Bool):Bool:=!((decide (ZeI s.labs c.1=c.2.1)) == c.2.2)
def Zc1(a:Nd)(s:Ser):Bool:=a.jq.all (ZfW s) && decide (a.name=s.name)
def Zb6(l:List (Int×Int))(n t:Int):List (Int×Int):=l.filter fun x=>decide (t - n<x.1) && decide (x.1<=t)
def maxL:Int->List Int->Int
 | m,[]=>m
 | m,x::l=>maxL (if m<x then x else m) l
def minL:Int->List Int->Int
 | m,[]=>m
 | m,x::l=>minL (if x<m then x else m) l
def ZfI(op:Nat)(l:List Int):Int:=
 if op=0 then l.sum else if op=1 then maxL (l.headD 0) l else if op=2 then minL (l.headD 0) l else if op=3 then (l.length:Int)else l.getLastD 0 - l.headD 0
def oneV(op:Option Nat)(l:List (Int×Int)):Int:=match op with
 | none=>(l.getLastD (0,0)).2
 | some o=>cutV (ZfI o (l.map (·.2)))
def Zc4(st:List Ser)(a:Nd)(op:Option Nat)(size t:Int):List El:=
 st.foldl (fun acc s=>if Zc1 a s && !(Zb6 s.jz size t).isEmpty then Zcd acc (s.labs,oneV op (Zb6 s.jz size t))else acc) []
def twoV(op:Nat)(a b:Int):Int:=if op=0 then cutV (a+b)else if op=1 then cutV (a - b)else if op=2 then cutV (a*b)else if b=0 then 0 else a.tdiv b
def Zdg(op:Nat):VV->VV->VV
 | .inl a,.inl b=>.inl (twoV op a b)
 | .inl a,.inr y=>.inr (y.map fun e=>(e.1,twoV op a e.2))
 | .inr x,.inl b=>.inr (x.map fun e=>(e.1,twoV op e.2 b))
 | .inr x,.inr y=>.inr (x.flatMap fun e=>(y.filter fun f=>decide (wrt e.1=wrt f.1)).map fun f=>(e.1,twoV op e.2 f.2))
def negV:VV->VV
 | .inl a=>.inl (-a)
 | .inr x=>.inr (x.map fun e=>(e.1,-e.2))
def ZB(l:List Lab)(by_:List (LB)):List Lab:=l.filter fun p=>by_.contains p.1
def ZcF(op:Nat)(by_:List (LB))(all:List El):List El->List El->List El
 | _,[]=>[]
 | pre,e::l=>(if pre.any (fun f=>decide (wrt (ZB f.1 by_)=wrt (ZB e.1 by_)))then [] else [(ZB e.1 by_,cutV (ZfI op ((all.filter fun f=>decide (wrt (ZB f.1 by_)=wrt (ZB e.1 by_))).map (·.2))))])++ZcF op by_ all (pre++[e]) l
def Zcv(op:Nat)(by_:List (LB))(l:List El):List El:=(ZcF op by_ l [] l).foldl Zcd []
def Zcm:VV->List El
 | .inl _=>[]
 | .inr l=>l
def sayT(st:List Ser)(t:Int):Tr->VV
 | .nil=>.inr []
 | .node _ _ a l r => if a.jx = 0 then .inl a.n else if a.jx = 1 then .inr (Zc4 st a none 10 t) else if a.jx = 2 then .inr (Zc4 st a (some a.op) a.n t)
   else if a.jx=3 then negV (sayT st t l)else if a.jx=5 then .inr (Zcv a.op a.by_ (Zcm (sayT st t l)))
   else if a.jx=6 then (if (Zcm (sayT st t l)).isEmpty then sayT st t r else sayT st t l)else Zdg a.op (sayT st t l) (sayT st t r)
def decI(n:Int):LB:=if n<0 then [45]++decS n.natAbs else decS n.toNat
def elS(e:El):LB:=[32,123]++wrt e.1++[125]++decI e.2
def Zel(t:Int):VV->LB
 | .inl n=>decI t++[32]++decI n
 | .inr l=>decI t++(l.map elS).flatten
end Go.Proofs.YtpbemaaghbbocaaGreatDoor.LS
namespace Go.Proofs.YtpbemaaghbbocaaGreatDoor
open Go.RowKit LS Go.Proofs.Tryz
def winT:Tr->Prop
 | .nil=>True
 | .node _ _ a l r=>(a.jx=2->1<=a.n/\a.n<=1000)/\winT l/\winT r
def InvW(rec:Nat->List Tok->Nat->Out Tr):Prop:=∀lv t d z,rec lv t d=.ok z->winT z.1
theorem Zl7{a:Nd}(h:a.jx=2->1<=a.n/\a.n<=1000):winT (Zbg a):=⟨h,trivial,trivial⟩
theorem ZEC{o:Nat}{ts:List Tok}{z:Tr×List Tok}(h:winP o ts=.ok z):winT z.1:=by
 unfold winP at h;obtain⟨_,t1,d,h⟩:=Ze h;obtain⟨p,t2,e,h⟩:=Ze h;obtain⟨_,t3,f,h⟩:=Ze h;obtain⟨m,t4,a,h⟩:=Ze h;obtain⟨_,t5,g,h⟩:=Ze h;obtain⟨_,t6,i,h⟩:=Ze h;injection h with h;subst h
 have a4:1<=m/\m<=1000:=by
  unfold Zc2 at a;split at a
  ·rename_i c;injection a with a;injection a with a h4';subst a;exact⟨c.2,(Zmr 1000 _).2⟩
  ·cases a
 exact Zl7 (fun _=>a4)
theorem Zs5{rec:Nat->List Tok->Nat->Out Tr}(c:InvW rec){ts:List Tok}{deep:Nat}{z:Tr×List Tok}(h:Zbu rec ts deep=.ok z):winT z.1:=by
 unfold Zbu at h;obtain⟨_,t1,e,h⟩:=Ze h;obtain⟨a,t2,d,h⟩:=Ze h;obtain⟨_,t3,f,h⟩:=Ze h;injection h with h;subst h;show winT a;exact c _ _ _ _ d
theorem ZEA{rec:Nat->List Tok->Nat->Out Tr}(c:InvW rec){g:Nat}{ts:List Tok}{deep:Nat}{z:Tr×List Tok}(h:Zcb rec g ts deep=.ok z):winT z.1:=by
 unfold Zcb at h;obtain⟨_,t1,e,h⟩:=Ze h;obtain⟨_,t2,f,h⟩:=Ze h;obtain⟨ns,t3,i,h⟩:=Ze h;obtain⟨a,t4,d,h⟩:=Ze h;injection h with h;subst h;exact⟨fun h=>absurd (show(5:Nat)=2 from h) Dc,Zs5 c d,trivial⟩
theorem ZEB{rec:Nat->List Tok->Nat->Out Tr}(c:InvW rec){ts:List Tok}{deep:Nat}{z:Tr×List Tok}(h:Zbw rec ts deep=.ok z):winT z.1:=by
 unfold Zbw at h;split at h
 ·injection h with h;subst h;exact Zl7 (fun h=>absurd (show(0:Nat)=2 from h) Dc)
 ·split at h
  ·obtain⟨a,t1,d,h⟩:=Ze h;injection h with h;subst h;exact⟨fun h=>absurd (show(3:Nat)=2 from h) Dc,c _ _ _ _ d,trivial⟩
  ·split at h
   ·exact Zs5 c h
   ·split at h
    ·exact ZEA c h
    ·split at h
     ·exact ZEC h
     ·obtain⟨p,t1,d,h⟩:=Ze h;injection h with h;subst h;obtain⟨a1,a2,a3,a4,a5⟩:=Zkq d;simp only at a2;exact Zl7 (fun h=>absurd (a2.symm.trans h) Dc)
theorem Zip:∀(n:Nat) (m:Bool) (lv:Nat) (a:Tr) (ts:List Tok) (deep:Nat) (z:Tr×List Tok),(m=true->winT a)->Zs n m lv a ts deep=.ok z->winT z.1
 | 0,_,_,_,_,_,_,_,h=>by cases h
 | n + 1, false, lv, a, ts, deep, z, _, h => by
   have g:InvW (fun lv t d=>Zs n false lv .nil t d):=fun lv t d z h=>Zip n false lv .nil t d z (fun h=>(by cases h)) h;unfold Zs at h;split at h
   · unfold Zb9 at h
     split at h
     · split at h
       · cases h
       · exact ZEB g h
     · cases h
   · obtain⟨b,t1,e,f⟩:=Ze h
     exact Zip n true lv b t1 deep z (fun _=>g _ _ _ _ e) f
 | n + 1, true, lv, a, ts, deep, z, i, h => by
   unfold Zs at h;split at h
   · injection h with h;subst h;exact i rfl
   · rename_i p c
     obtain⟨b,t1,e,f⟩:=Ze h;have l1:=Zip n false _ _ _ _ _ (fun h=>(by cases h)) e;refine Zip n true lv (.node 0 0 (nd0 p.1 p.2) a b) t1 deep z (fun _=>⟨fun k=>?_,i rfl,l1⟩) f;unfold LS.opAt at c
     exfalso
     have j:p.1=2:=k
     repeat (first|(split at c)|(injection c with c;subst c;exact absurd j Dc)|cases c)
theorem ZBk{l:LB}{t:Tr}(h:ZD l=.ok t):winT t/\Zf t≠0:=by
 unfold ZD at h;split at h
 ·cases h
 ·split at h
  ·cases h
  ·rename_i t' r a;split at h
   ·split at h
    ·cases h
    ·injection h with h;subst h;rename_i c;exact⟨(Zip _ false _ _ _ _ (t',r) (fun h=>(by cases h)) a:winT t'),c⟩
   ·cases h
def ZdN:VV->Bool
 | .inl _=>false
 | .inr _=>true
theorem ZtO(op:Nat)(a b:VV):ZdN (Zdg op a b)=(ZdN a || ZdN b):=by cases a <;> cases b <;> rfl
theorem Zj7(st:List Ser)(tm:Int):∀t:Tr,wfT t->isNil t=false->Zf t≠0->ZdN (sayT st tm t)=decide (Zf t=2)
 | .nil,_,h,_=>by cases h
 | .node x y a l r, w, _, c => by
   obtain⟨D,z,E,F,G,H,n,A,I,C,B,wr⟩:=w;have j:=Zj7 st tm l B;have o:=Zj7 st tm r wr;unfold Zf at c ⊢;unfold sayT;by_cases e:a.jx=0
   · rw[if_pos e,if_pos e];rfl
   rw[if_neg e]at c ⊢;rw[if_neg e];by_cases f:a.jx=1
   · rw[if_pos f,if_pos (Or.inl f)];rfl
   by_cases k:a.jx=2
   · rw[if_neg f,if_pos k,if_pos (Or.inr k)];rfl
   rw[if_neg (show ¬(a.jx=1∨a.jx=2) by omega)]at c ⊢;rw[if_neg f,if_neg k];by_cases g:a.jx=3
   · rw[if_pos g]at c ⊢
     rw[if_pos g,<-j (n Om) c];cases sayT st tm l <;> rfl
   rw[if_neg g]at c ⊢;rw[if_neg g];by_cases i:a.jx=5
   · rw[if_pos i]at c ⊢
     rw[if_pos i];by_cases p:Zf l=2
     · rw[if_pos p];rfl
     · rw[if_neg p]at c;exact absurd rfl c
   rw[if_neg i]at c ⊢;rw[if_neg i];have q:=A Om;have s:=n Om;by_cases d:Zf l=0∨Zf r=0∨(a.jx=6/\Zf l+Zf r≠4)
   · rw[if_pos d]at c;exact absurd rfl c
   rw[if_neg d]at c ⊢;have u:Zf l≠0:=fun h=>d (Or.inl h);have v:Zf r≠0:=fun h=>d (Or.inr (Or.inl h));have kl:=Zid l;have kr:=Zid r;have il:=j s u;have ir:=o q v;by_cases m:a.jx=6
   · have J:Zf l+Zf r=4:=by
       refine Yb6 fun h=>d (Or.inr (Or.inr ⟨m,h⟩))
     rw[if_pos m,if_neg (show ¬Zf l+Zf r=2 by omega)];split
     · rw[ir];simp;omega
     · rw[il];simp;omega
   · rw[if_neg m,ZtO,il,ir]
     split
     · simp;omega
     · simp;omega
theorem ZcL:∀x:LB,Op.bytesLess x x=false
 | []=>rfl
 | a :: x => by
   have h:¬a<a:=UInt8.lt_irrefl a;simp[Op.bytesLess,ZcL x,h]
theorem Zdv:∀x y z:LB,Op.bytesLess x y=true->Op.bytesLess y z=true->Op.bytesLess x z=true
 | x,y,[],_,h=>by cases y <;> simp[Op.bytesLess]at h
 | x,[],c::z,h,_=>by cases x <;> simp[Op.bytesLess]at h
 | [],b::y,c::z,_,_=>rfl
 | a :: x, b :: y, c :: z, e, d => by
   simp only[Op.bytesLess,Yct,decide_eq_true_eq,Yas,beq_iff_eq]at e d ⊢;rcases e with e|⟨rfl,e⟩
   · rcases d with d|⟨rfl,d⟩
     · exact Or.inl (UInt8.lt_trans e d)
     · exact Or.inl e
   · rcases d with d|⟨rfl,d⟩
     · exact Or.inl d
     · exact Or.inr ⟨rfl,Zdv x y z e d⟩
theorem Zdh:∀x y:LB,Op.bytesLess x y=false->Op.bytesLess y x=false->x=y
 | [],[],_,_=>rfl
 | [],b::y,h,_=>by simp[Op.bytesLess]at h
 | a::x,[],_,h=>by simp[Op.bytesLess]at h
 | a :: x, b :: y, c, d => by
   simp only[Op.bytesLess,Bool.or_eq_false_iff,decide_eq_false_iff_not,Yfm,beq_eq_false_iff_ne]at c d
   have f:a=b:=by
     have k1:¬a.toNat<b.toNat:=fun h=>c.1 (Yfp.2 h);have k2:¬b.toNat<a.toNat:=fun h=>d.1 (Yfp.2 h);exact Ydf.1 Om
   subst f;have e:=Zdh x y (c.2.resolve_left (fun h=>h rfl)) (d.2.resolve_left (fun h=>h rfl));rw[e]
def lt1(a b:El):Prop:=Op.bytesLess (wrt a.1) (wrt b.1)=true
def Srt(l:List El):Prop:=l.Pairwise lt1
theorem ZmO(l:List El)(x z:El):z∈Zcd l x ↔ z=x∨z∈l:=by
 induction l with
 | nil=>simp[Zcd]
 | cons y l ih=>
  rw[Zcd];split
  ·simp
  ·rw[Yau,ih,Yau];constructor
   ·rintro(h|h|h)
    ·exact Or.inr (Or.inl h)
    ·exact Or.inl h
    ·exact Or.inr (Or.inr h)
   ·rintro(h|h|h)
    ·exact Or.inr (Or.inl h)
    ·exact Or.inl h
    ·exact Or.inr (Or.inr h)
theorem ZAJ(l:List El)(x:El):(Zcd l x).length=l.length+1:=by
 induction l with
 | nil=>rfl
 | cons y l ih=>
  rw[Zcd];split
  ·rfl
  ·rw[Yaj,ih,Yaj]
theorem ZAK(l:List El)(x:El)(h:Srt l)(d:∀y∈l,wrt y.1≠wrt x.1):Srt (Zcd l x):=by
 induction l with
 | nil=>exact List.pairwise_singleton _ _
 | cons y l ih=>
  obtain⟨e,f⟩:=Ybg.1 h;rw[Zcd];split
  ·rename_i c;refine Ybg.2 ⟨fun z a=>?_,h⟩;rcases Yau.1 a with rfl|a
   ·exact c
   ·exact Zdv _ _ _ c (e z a)
  ·rename_i c;refine Ybg.2 ⟨fun z a=>?_,ih f (fun y g=>d y (Yam _ g))⟩;rcases(ZmO l x z).1 a with rfl|a
   ·unfold lt1;cases i:Op.bytesLess (wrt y.1) (wrt z.1)with
    | true=>rfl
    | false=>exact absurd (Zdh _ _ i (Yce.2 c)) (d y (Yay ..))
   ·exact e z a
theorem Zh4 (L : List El) : ∀ acc : List El, Srt acc -> (L.Pairwise fun a b => wrt a.1 ≠ wrt b.1) -> (∀ y ∈ acc, ∀ x ∈ L, wrt y.1 ≠ wrt x.1) ->
    Srt (L.foldl Zcd acc)/\(L.foldl Zcd acc).length=acc.length+L.length/\∀z,z∈L.foldl Zcd acc ↔ z∈acc∨z∈L:=by
  induction L with
  | nil=>intro acc h _ _;exact⟨h,rfl,by simp⟩
  | cons x L ih=>
    intro acc h e hd;obtain⟨f,g⟩:=Ybg.1 e
    obtain ⟨k1, k2, k3⟩ := ih (Zcd acc x) (ZAK acc x h (fun y c => hd y c x (Yay ..))) g (fun y c z d => by
      rcases(ZmO acc x y).1 c with rfl|c
      · exact f z d
      · exact hd y c z (Yam _ d))
    refine⟨k1,by rw[Ybp,k2,ZAJ,Yaj];omega,fun z=>?_⟩;rw[Ybp,k3,ZmO,Yau];constructor
    · rintro((h|h)|h)
      · exact Or.inr (Or.inl h)
      · exact Or.inl h
      · exact Or.inr (Or.inr h)
    · rintro(h|h|h)
      · exact Or.inl (Or.inr h)
      · exact Or.inl (Or.inl h)
      · exact Or.inr h
def Dst(st:List Ser):Prop:=st.Pairwise fun s r=>¬(s.name=r.name/\wrt s.labs=wrt r.labs)
def ZeZ(st:List Ser)(a:Nd)(op:Option Nat)(size t:Int):List El:=(st.filter fun s=>Zc1 a s && !(Zb6 s.jz size t).isEmpty).map fun s=>(s.labs,oneV op (Zb6 s.jz size t))
theorem Zny(st:List Ser)(a:Nd)(op:Option Nat)(size t:Int):Zc4 st a op size t=(ZeZ st a op size t).foldl Zcd []:=by
 unfold Zc4 ZeZ;generalize([]:List El)=acc
 induction st generalizing acc with
 | nil=>rfl
 | cons s st ih=>
  rw[Ybp];by_cases h:(Zc1 a s && !(Zb6 s.jz size t).isEmpty)=true
  ·rw[if_pos h,Yda (by simpa using h),Ybb,Ybp];exact ih _
  ·rw[if_neg h,Ydb (by simpa using h)];exact ih _
theorem ZmN {st : List Ser} (h : Dst st) (a : Nd) (op : Option Nat) (size t : Int) : (ZeZ st a op size t).Pairwise fun x y => wrt x.1 ≠ wrt y.1 := by
  unfold ZeZ;rw[Ybx];refine Ycx ?_ (h.filter _);intro s r c d e f;have n1:=(Ycg.1 c).2;have n2:=(Ycg.1 d).2;simp only[Yas,Zc1,decide_eq_true_eq]at n1 n2;exact e ⟨n1.1.2.symm.trans n2.1.2,f⟩
def VOk(n:Nat):VV->Prop
 | .inl _=>True
 | .inr l=>Srt l/\l.length<=n
theorem Zkx{st:List Ser}(h:Dst st)(a:Nd){op:Option Nat}{size t:Int}:VOk st.length (.inr (Zc4 st a op size t)):=by
 rw[Zny];obtain⟨c,d,_⟩:=Zh4 (ZeZ st a op size t) [] List.Pairwise.nil (ZmN h a op size t) (by simp);refine⟨c,?_⟩;rw[d];unfold ZeZ;rw[Yak];have:=Ydj (fun s=>Zc1 a s && !(Zb6 s.jz size t).isEmpty) st;simpa using this
theorem Zmi{l:List El}(h:Srt l){f:El->El}(c:∀e,(f e).1=e.1):Srt (l.map f):=by
 unfold Srt;rw[Ybx];exact h.imp (fun {a b} d=>by unfold lt1 at *;rw[c,c];exact d)
theorem Zv5 {y : List El} (h : Srt y) (k : LB) : y.filter (fun f => decide (k = wrt f.1)) = (y.find? fun f => decide (k = wrt f.1)).toList := by
  induction y with
  | nil=>rfl
  | cons e y ih=>
    obtain⟨d,g⟩:=Ybg.1 h;by_cases a:k=wrt e.1
    · rw[Yda (by simpa using a),List.find?_cons_of_pos (by simpa using a)]
      have : y.filter (fun f => decide (k = wrt f.1)) = [] := by
        rw[Yc1];intro f i j;have c:=d f i;unfold lt1 at c;rw[<-a,of_decide_eq_true j,ZcL]at c;cases c
      rw[this];rfl
    · rw[Ydb (by simpa using a),List.find?_cons_of_neg (by simpa using a)]
      exact ih g
theorem Zwf {α β : Type} (f : α -> Option β) (l : List α) : l.flatMap (fun a => (f a).toList) = l.filterMap f := by
  induction l with
  | nil=>rfl
  | cons a l ih=>
    rw[Ycd,ih,Yef];cases f a <;> rfl
def vvF(op:Nat)(y:List El)(e:El):Option El:=(y.find? fun f=>decide (wrt e.1=wrt f.1)).map fun f=>(e.1,twoV op e.2 f.2)
theorem ZnU(op:Nat)(x y:List El)(a:Srt y):Zdg op (.inr x) (.inr y)=.inr (x.filterMap (vvF op y)):=by
 have h : ∀ e : El, (y.filter fun f => decide (wrt e.1 = wrt f.1)).map (fun f => (e.1, twoV op e.2 f.2)) = (vvF op y e).toList := fun e => by
   rw[Zv5 a];unfold vvF;cases y.find? (fun f=>decide (wrt e.1=wrt f.1)) <;> rfl
 show Sum.inr (x.flatMap fun e=>(y.filter fun f=>decide (wrt e.1=wrt f.1)).map fun f=>(e.1,twoV op e.2 f.2))=_;rw[<-Zwf,funext h]
theorem ZEy(op:Nat)(x y:List El)(k:Srt x):Srt (x.filterMap (vvF op y)):=by
 unfold Srt;rw[List.pairwise_filterMap];refine k.imp ?_;intro a b h c e d hd;unfold vvF at e hd;cases i:y.find? (fun f=>decide (wrt a.1=wrt f.1))with
 | none=>rw[i]at e;cases e
 | some f=>
  cases j:y.find? (fun f=>decide (wrt b.1=wrt f.1))with
  | none=>rw[j]at hd;cases hd
  | some g=>
   rw[i]at e;rw[j]at hd;cases e;cases hd;exact h
theorem ZnT{op n:Nat}{a b:VV}(c:VOk n a)(d:VOk n b):VOk n (Zdg op a b):=by
 cases a with
 | inl a=>
  cases b with
  | inl b=>trivial
  | inr y=>exact⟨Zmi d.1 (fun _=>rfl),by rw[Yak];exact d.2⟩
 | inr x=>
  cases b with
  | inl b=>exact⟨Zmi c.1 (fun _=>rfl),by rw[Yak];exact c.2⟩
  | inr y=>
   rw[ZnU op x y d.1];exact⟨ZEy op x y c.1,Yah (List.length_filterMap_le _ _) c.2⟩
theorem Zrc{n:Nat}{a:VV}(c:VOk n a):VOk n (negV a):=by
 cases a with
 | inl a=>trivial
 | inr x=>exact⟨Zmi c.1 (fun _=>rfl),by rw[Yak];exact c.2⟩
theorem ZlD (op : Nat) (bs : List (LB)) (all : List El) : ∀ (l pre : List El), ((ZcF op bs all pre l).Pairwise fun x y => wrt x.1 ≠ wrt y.1) /\ (ZcF op bs all pre l).length <= l.length /\ ∀ x ∈ ZcF op bs all pre l, ∀ f ∈ pre, wrt (ZB f.1 bs) ≠ wrt x.1
  | [],pre=>⟨List.Pairwise.nil,Yac _,by simp[ZcF]⟩
  | e :: l, pre => by
    obtain⟨g,j,d⟩:=ZlD op bs all l (pre++[e]);rw[ZcF];split
    · refine⟨by simpa using g,by simp;omega,fun x a f c=>d x (by simpa using a) f (Yc7 _ c)⟩
    · rename_i h
      refine⟨?_,by simp;omega,?_⟩
      · rw[Yd6,Ybg]
        exact⟨fun x a=>d x a e (by simp),g⟩
      · intro x a f c
        rw[Yd6,Yau]at a;rcases a with rfl|a
        · intro i
          exact h (List.any_eq_true.2 ⟨f,c,by simpa using i⟩)
        · exact d x a f (Yc7 _ c)
theorem ZpK{op:Nat}{bs:List (LB)}{n:Nat}{l:List El}(h:l.length<=n):VOk n (.inr (Zcv op bs l)):=by
 obtain⟨a,c,_⟩:=ZlD op bs l l [];obtain⟨k1,k2,_⟩:=Zh4 (ZcF op bs l [] l) [] List.Pairwise.nil a (by simp);exact⟨k1,by show(List.foldl Zcd [] _).length<=n;rw[k2];simp;omega⟩
theorem ZoS{n:Nat}{v:VV}(h:VOk n v):(Zcm v).length<=n:=by
 cases v with
 | inl _=>exact Yag _
 | inr l=>exact h.2
theorem Zj8{st:List Ser}(h:Dst st)(tm:Int):∀t:Tr,VOk st.length (sayT st tm t)
 | .nil=>⟨List.Pairwise.nil,Yag _⟩
 | .node x y a l r => by
   have il:=Zj8 h tm l;have ir:=Zj8 h tm r;unfold sayT;split
   · trivial
   split
   · exact Zkx h a
   split
   · exact Zkx h a
   split
   · exact Zrc il
   split
   · exact ZpK (ZoS il)
   split
   · split
     · exact ir
     · exact il
   · exact ZnT il ir
end Go.Proofs.YtpbemaaghbbocaaGreatDoor
namespace Go.Proofs.YtpbemaaghbbocaaGreatDoor.LS
open Go Go.RowKit
theorem Zjj (c : UInt8) (l : LB) : Lib.index l [c] = match seek c l with | none => -1 | some i => (i : Int) := by
  induction l with
  | nil=>rfl
  | cons b l ih=>
    unfold Lib.index seek;by_cases a:b=c
    · subst a;simp[List.isPrefixOf]
    · have d:[c].isPrefixOf (b::l)=false:=by simp[List.isPrefixOf,Ycp a]
      have e:(b == c)=false:=by simp[a]
      rw[if_neg (by simp[d]),ih,e];cases seek c l with
      | none=>rfl
      | some i=>
        have f:¬(((i:Int) == -1)=true):=by simp
        simp only[Yde,if_false,Ybf];rw[if_neg f];rfl
theorem Zyn{c:UInt8}{l x y:LB}(h:cut c l=some (x,y)):Lib.cut l [c]=(x,y,true):=by
 unfold cut at h;cases a:seek c l with
 | none=>rw[a]at h;cases h
 | some i=>
  rw[a]at h;simp only[Ybf,Yci,Yc5]at h;unfold Lib.cut;rw[Zjj,a];simp only[Ybj,Int.toNat_natCast];rw[if_pos Om,h.1,h.2]
theorem Zym{c:UInt8}{l:LB}(h:cut c l=none):Lib.cut l [c]=(l,[],false):=by
 unfold cut at h;cases a:seek c l with
 | some i=>rw[a]at h;cases h
 | none=>
  unfold Lib.cut;rw[Zjj,a];rfl
theorem Zdx{c:UInt8}{l x y:LB}(h:cut c l=some (x,y)):l=x++c::y/\c∉x:=by
 unfold cut at h;cases d:seek c l with
 | none=>rw[d]at h;cases h
 | some i=>
  rw[d]at h;simp only[Ybf,Yci,Yc5]at h;obtain⟨a,b,rfl,rfl,e⟩:=Ziv d;have e1:x=a:=by rw[<-h.1];simp
  have e2:y=b:=by rw[<-h.2];simp
  subst e1;subst e2;exact⟨rfl,e⟩
theorem ZoE{c:UInt8}{x y:LB}(h:c∉x):cut c (x++c::y)=some (x,y):=by
 unfold cut;rw[Zgq c x y h];simp
theorem Zsq(c:UInt8):∀(n:Nat) (l:LB),l.length<=n->Lib.splitK [c] 0 (Lib.count l [c]) l=split c l:=by
 intro n
 induction n with
 | zero=>
  intro l g;obtain rfl:l=[]:=Ygc.1 Om;rw[Lib.count_miss rfl];rfl
 | succ n ih=>
  intro l g;cases d:seek c l with
  | none=>
   rw[Lib.count_miss (by rw[Zjj,d])];have e:=(Zj9 c l).1 d;have:=Zhb c l [] e;rw[Yca]at this;rw[this];simp[Lib.splitK,split,pre]
  | some i=>
   obtain⟨a,b,rfl,rfl,e⟩:=Ziv d;have f:Lib.index (a++c::b) [c]=(a.length:Int):=by rw[Zjj,d]
   rw[Lib.count_hit (by simp) f];have e1:(a++c::b).drop (a.length + [c].length)=b:=by simp
   rw[e1,Nat.add_comm,Lib.splitK,if_neg (by rw[f];simp),f];rw[show((a.length:Int)).toNat=a.length by omega,e1,ih b (by simp at g;omega),Zhb c a _ e,Zhc];simp[pre]
def ZbI(c:UInt8):LB->LB×Bool
 | []=>([],false)
 | b::t=>if b == c then (t,true)else (b::t,false)
theorem Zyo(c:UInt8)(l:LB):(Lib.trimPrefix l [c],Lib.hasPrefix l [c])=ZbI c l:=by
 cases l with
 | nil=>rfl
 | cons b t=>
  by_cases a:b=c
  ·subst a;simp[Lib.trimPrefix,Lib.hasPrefix,ZbI]
  ·have d:[c].isPrefixOf (b::t)=false:=by simp[List.isPrefixOf,Ycp a]
   simp[Lib.trimPrefix,Lib.hasPrefix,ZbI,a,d]
theorem Znm(c:UInt8)(l:LB):(ZbI c l).1.length<=l.length:=by
 cases l with
 | nil=>simp[ZbI]
 | cons b t=>by_cases h:(b == c)=true <;> simp[ZbI,h]
def Zds(d:LB):Bool:=match ZQ 1000000000 (ZbI 45 d).1 with
 | none=>false
 | some v=>!((ZbI 45 d).2 && v == 0)
def Zdn(t:LB):Option Nat:=match cut 58 t with
 | none=>none
 | some (a, d) => match ZQ 1000000 a with
   | none=>none
   | some tm=>if Zds d then some tm else none
def Zcq:Int->Nat->List (LB)->Option Nat
 | _,n,[]=>some n
 | last, n, x :: xs => match Zdn x with
   | none=>none
   | some t=>if (t:Int)<=last then none else Zcq t (n+1) xs
def Zcz(l:LB):Option Nat:=match ZbI 32 l with
 | (r,f)=>if l=[] then some 0 else if f then Zcq (-1) 0 (split 32 r)else none
def leS(a b:LB):Bool:=Op.bytesLess a b || a == b
def Zd5(last:LB)(x:LB):Option (LB×LB):=match cut 61 x with
 | none=>none
 | some (n,v)=>if Zx n && Z3 v && !v.isEmpty && !leS n last then some (n,v)else none
def ZbS:LB->List (LB×LB)->List (LB)->Option (List (LB×LB))
 | _,acc,[]=>some acc
 | last, acc, x :: xs => match Zd5 last x with
   | none=>none
   | some p=>ZbS p.1 (acc++[p]) xs
def Zcc(l:LB):Option (List (LB×LB)):=if l=[] then some [] else ZbS [] [] (split 44 l)
def line(l:LB):Option (LB×LB×Nat):=match cut 123 l with
 | none=>none
 | some (name, rest) => match cut 125 rest with
   | none=>none
   | some (inside,behind)=>if Zx name && (Zcc inside).isSome then (Zcz behind).map (fun n=>(name,inside,n))else none
theorem ZjF{l:LB}(h:cut 123 l=none):line l=none:=by unfold line;rw[h]
theorem ZjE{l name rest:LB}(h:cut 123 l=some (name,rest))(a:cut 125 rest=none):line l=none:=by unfold line;rw[h];simp only[a]
theorem ZjG{l name rest inside behind:LB}(h:cut 123 l=some (name,rest))(a:cut 125 rest=some (inside,behind)) :
  line l=if Zx name && (Zcc inside).isSome then (Zcz behind).map (fun n=>(name,inside,n))else none:=by unfold line;rw[h];simp only[a]
structure Entry where
 at_:Nat
 name:LB
 inside:LB
 count:Nat
def Zbh:Nat->List Entry->List (LB)->Nat ⊕ List Entry
 | _,acc,[]=>.inr acc
 | i, acc, x :: xs => if x = [] then Zbh (i + 1) acc xs else match line x with
   | none=>.inl i
   | some (a,b,n)=>Zbh (i+1) (acc++[⟨i,a,b,n⟩]) xs
theorem Zyw{i:Nat}{acc:List Entry}{ps:List (LB)}(a:i<ps.length)(h:ps.getD i []=[]):Zbh i acc (ps.drop i)=Zbh (i+1) acc (ps.drop (i+1)):=by
 have e:ps.getD i []=ps[i]:=by simp[a]
 rw[List.drop_eq_getElem_cons a,Zbh,<-e,if_pos h]
theorem Zyu{i:Nat}{acc:List Entry}{ps:List (LB)}(a:i<ps.length)(h:ps.getD i []≠[])(c:line (ps.getD i [])=none):Zbh i acc (ps.drop i)=.inl i:=by
 have e:ps.getD i []=ps[i]:=by simp[a]
 rw[List.drop_eq_getElem_cons a,Zbh,<-e,if_neg h,c]
theorem Zyv{i:Nat}{acc:List Entry}{ps:List (LB)}(c:i<ps.length)(h:ps.getD i []≠[]){a b:LB}{n:Nat}(d:line (ps.getD i [])=some (a,b,n)) :
  Zbh i acc (ps.drop i)=Zbh (i+1) (acc++[⟨i,a,b,n⟩]) (ps.drop (i+1)):=by
 have e:ps.getD i []=ps[i]:=by simp[c]
 rw[List.drop_eq_getElem_cons c,Zbh,<-e,if_neg h,d]
theorem Zyx{i:Nat}{acc:List Entry}{ps:List (LB)}(a:¬i<ps.length):Zbh i acc (ps.drop i)=.inr acc:=by
 rw[Yb8 Om];rfl
end Go.Proofs.YtpbemaaghbbocaaGreatDoor.LS
namespace Go.Proofs.YtpbemaaghbbocaaGreatDoor
open Go.RowKit LS Go.Proofs.Tryz
theorem Zri(most:Nat)(l:LB) : -1<=numI most l/\numI most l<=most:=by
 cases h:ZQ most l with
 | none=>rw[Zrj h];omega
 | some v=>rw[ZgX h];have:=Zgh h;omega
def Zca:List (Int×Int)->List Value
 | []=>[]
 | x::l=>.int .i64 x.1::.int .i64 x.2::Zca l
theorem Zwg(l m:List (Int×Int)):Zca (l++m)=Zca l++Zca m:=by
 induction l with
 | nil=>rfl
 | cons a l ih=>simp[Zca,ih]
theorem Zwh (l : List (Int × Int)) (j : Nat) : (Zca l)[j * 2]? = l[j]?.map (fun x => Vi x.1) /\ (Zca l)[j * 2 + 1]? = l[j]?.map (fun x => Vi x.2) := by
  induction l generalizing j with
  | nil=>simp[Zca]
  | cons r l ih=>
    cases j with
    | zero=>simp[Zca]
    | succ j=>
      obtain⟨a,c⟩:=ih j;refine⟨?_,?_⟩
      · rw[show(j+1)*2=j*2+1+1 by omega];simpa [Zca] using a
      · rw[show(j+1)*2+1=j*2+1+1+1 by omega];simpa [Zca] using c
def smOk(x:Int×Int):Prop:=-1000000<=x.1/\x.1<=1000000/\-1000000000<=x.2/\x.2<=1000000000
def valI(d:LB):Int:=match ZbI 45 d with
 | (d',less)=>if less then -(numI 1000000000 d')else numI 1000000000 d'
def smV(x:LB):Int×Int:=match cut 58 x with
 | none=>(0,0)
 | some (a,d)=>(numI 1000000 a,valI d)
def Zez:LB->List (Int×Int)
 | []=>[]
 | _::t=>(split 32 t).map smV
theorem ZKL{x a d d':LB}{less:Bool}{t v:Int}(e:cut 58 x=some (a,d))(c:ZbI 45 d=(d',less))(f:numI 1000000 a=t)(g:numI 1000000000 d'=v):smV x=(t,if less then -v else v):=by
 unfold smV valI;rw[e];simp only[c,f,g]
theorem ZCr(x:LB):smOk (smV x):=by
 unfold smV;split
 ·unfold smOk;decide
 ·rename_i a d _;have c:=Zri 1000000 a;unfold valI;cases hd:ZbI 45 d with
  | mk d' less=>
   have e:=Zri 1000000000 d';unfold smOk;cases less
   ·simp only[Yde,if_false];omega
   ·simp only[if_true];omega
theorem Zwi{l:List (LB)}{k:Nat}(a:k<l.length){x:LB}(c:x=l.getD k []){t v:Int}(d:smV x=(t,v)):Zca ((l.map smV).take (k+1))=Zca ((l.map smV).take k)++[Vi t,Vi v]:=by
 have e:l[k]=x:=by rw[c,Yaa,List.getElem?_eq_getElem a];rfl
 rw[<-Yer,<-Yer,List.take_succ_eq_append_getElem a,Yaq,Zwg,Yco,e,d];rfl
def Zdo(l:LB):List (Int×Int):=match LS.seek 125 l with
 | some b=>Zez (l.drop (b+1))
 | none=>[]
theorem Zr1{l x r y z:LB}(a:Zx x=true)(d:cut 123 l=some (x,r))(e:cut 125 r=some (y,z)):Zdo l=Zez z:=by
 obtain⟨e1,n1⟩:=Zdx d;obtain⟨e2,n2⟩:=Zdx e
 have f:(125:UInt8)∉x:=by
  intro g;unfold Zx at a;rw[Yas]at a;have:=Ybu.1 a.1 _ g;exact absurd this Dc
 have c:l=(x++123::y)++125::z:=by rw[e1,e2];simp
 have i:LS.seek 125 l=some (x++123::y).length:=by
  rw[c];refine Zgq 125 _ z ?_;rw[Yar,Yau];rintro(h|h|h)
  ·exact f h
  ·exact absurd h Dc
  ·exact n2 h
 unfold Zdo;rw[i,c];simp only
 congr 1
 rw[show(x++123::y)++125::z=((x++123::y)++[125])++z by simp,Ygb (by simp;omega),Yb8 (by simp;omega)];rfl
theorem Zy5(a b:Int)(a1 : -1000000000<=a)(a2:a<=1000000000)(b1 : -1000000000<=b)(b2:b<=1000000000):(a*b).natAbs<=1000000000000000000:=by
 rw[Int.natAbs_mul];have c:a.natAbs<=1000000000:=by omega
 have d:b.natAbs<=1000000000:=by omega
 exact Ygq c d
theorem ZDy(a b:Int):twoV 0 a b=cutV (a+b):=by simp[twoV]
theorem ZDz(a b:Int):twoV 1 a b=cutV (a - b):=by simp[twoV]
theorem ZDA(a b:Int):twoV 2 a b=cutV (a*b):=by simp[twoV]
theorem ZDC(a:Int):twoV 3 a 0=0:=by simp[twoV]
theorem ZDB(a b:Int)(h:b≠0):twoV 3 a b=a.tdiv b:=by simp[twoV,h]
def vOk(n:Int):Prop:=-1000000000<=n/\n<=1000000000
theorem ZyW(m:Int)(l:List Int)(x:Int):maxL m (l++[x])=if maxL m l<x then x else maxL m l:=by
 induction l generalizing m with
 | nil=>rfl
 | cons a l ih=>exact ih _
theorem Zy1(m:Int)(l:List Int)(x:Int):minL m (l++[x])=if x<minL m l then x else minL m l:=by
 induction l generalizing m with
 | nil=>rfl
 | cons a l ih=>exact ih _
theorem ZhY(n:Int):vOk (cutV n):=by unfold vOk cutV;split <;> (try split) <;> omega
theorem Zhj(op:Nat)(a b:Int)(c:vOk a):vOk (twoV op a b):=by
 unfold twoV;split
 ·exact ZhY _
 split
 ·exact ZhY _
 split
 ·exact ZhY _
 split
 ·unfold vOk;omega
 ·unfold vOk at *
  have d:(a.tdiv b).natAbs<=a.natAbs:=by rw[Yff];exact Yfg _ _
  omega
def Zhi(l s:Int):Nat->Int->List Int->Option (List Int)
 | 0,_,_=>none
 | n+1,t,acc=>if t<=l then (if acc.length=50 then none else Zhi l s n (t+s) (acc++[t]))else some acc
abbrev badT (f l s:Int):Prop:=f < -1000000∨1000000<f∨l < -1000000∨1000000<l∨s<1∨1000000<s∨l<f
def Zdr(f l s:Int):Option (List Int):=if badT f l s then none else Zhi l s 60 f []
def cnt(l s t:Int):Nat:=if t<=l then ((l - t) / s).toNat+1 else 0
theorem Zoi(l s t:Int)(c:1<=s)(h:t<=l):cnt l s t=cnt l s (t+s)+1:=by
 unfold cnt;rw[if_pos h];by_cases a:t+s<=l
 ·rw[if_pos a]
  have e:(l - t) / s=(l - (t+s)) / s+1:=by
   rw[show l - t=(l - (t+s))+1*s by omega,Int.add_mul_ediv_right _ _ Om]
  have d:0<=(l - (t+s)) / s:=Int.ediv_nonneg Om Om;rw[e];omega
 ·rw[if_neg a];have e:(l - t) / s=0:=Int.ediv_eq_zero_of_lt Om Om;rw[e];rfl
theorem ZsM (l s : Int) (c : 1 <= s) : ∀ (n : Nat) (t : Int) (acc : List Int), acc.length + cnt l s t <= 50 -> cnt l s t < n -> Zhi l s n t acc = some (acc ++ (List.range (cnt l s t)).map fun (i : Nat) => t + (i : Int) * s)
  | 0,_,_,_,h=>absurd h (Ya1 _)
  | n + 1, t, acc, d, e => by
    rw[Zhi];by_cases h:t<=l
    · have a:=Zoi l s t c h
      rw[if_pos h,if_neg Om,ZsM l s c n (t+s) (acc++[t]) (by rw[Yab,Ybj];omega) Om,a,List.range_succ_eq_map,Ybb,Yb1,Yan]
      congr 2
      rw[Yd6]
      congr 1
      · simp
      · refine Ycb (fun i _=>?_)
        simp only[Function.comp];rw[show((Nat.succ i:Nat):Int)=(i:Int)+1 from rfl,Int.add_mul];omega
    · have a:cnt l s t=0:=by unfold cnt;rw[if_neg h]
      rw[if_neg h,a];simp
theorem ZsL(l s:Int)(a:1<=s):∀(n:Nat) (t:Int) (acc:List Int),50<acc.length+cnt l s t->acc.length<=50->50 - acc.length<n->Zhi l s n t acc=none
 | 0,_,_,_,_,h=>absurd h (Ya1 _)
 | n + 1, t, acc, e, f, g => by
   rw[Zhi];by_cases h:t<=l
   · have d:=Zoi l s t a h
     rw[if_pos h];by_cases c:acc.length=50
     · rw[if_pos c]
     · rw[if_neg c]
       exact ZsL l s a n (t+s) (acc++[t]) (by rw[Yab,Ybj];omega) (by rw[Yab,Ybj];omega) (by rw[Yab,Ybj];omega)
   · have d:cnt l s t=0:=by unfold cnt;rw[if_neg h]
     omega
theorem ZsN {f l s : Int} (h : ¬ badT f l s) : Zdr f l s = if 50 < cnt l s f then none else some ((List.range (cnt l s f)).map fun (i : Nat) => f + (i : Int) * s) := by
  have a:1<=s:=by unfold badT at h;omega
  unfold Zdr;rw[if_neg h];split
  · rename_i c
    exact ZsL l s a 60 f [] (by simpa using c) (by simp) (by simp)
  · rename_i c
    rw[ZsM l s a 60 f [] (by simp;omega) Om];rfl
theorem ZiJ {n:Int} {w:World} : CP 192 #[Vi n] w fun e u => e = .returned (Vi (cutV n)) /\ u = w := by
  rcases(by unfold cutV;split <;> (try split) <;> omega:(1000000000<n/\cutV n=1000000000)∨(n < -1000000000/\cutV n=-1000000000)∨(-1000000000<=n/\n<=1000000000/\cutV n=n))with ⟨h,e⟩|⟨h,e⟩|⟨a,c,e⟩
  all_goals
    rw[e];have d:=hid e;clear e;go_enter func192,ntmps192;go_wp2
    all_goals first|omega|(go_ret;exact⟨rfl,rfl⟩)|(go_ret;exact⟨ZBw Om,rfl⟩)|(obtain rfl:n=-1000000000:= Om;go_ret;exact⟨rfl,rfl⟩)
theorem Zks (op : Nat) (g : op <= 3) (a b : Int) (d : vOk a) (f : vOk b) (w : World) : CP 165 #[Vi (op + 1 : Nat), Vi a, Vi b] w fun e u => e = .returned (Vi (twoV op a b)) /\ u = w := by
  obtain⟨a1,a2⟩:=d;obtain⟨b1,b2⟩:=f;rcases(by omega:op=0∨op=1∨op=2∨op=3)with rfl|rfl|rfl|rfl
  · rw[ZDy]
    go_enter func165,ntmps165
    go_wp2_with (go_at_call 192;refine(ZiJ).mono ?_;rintro e u ⟨rfl,rfl⟩)
    go_ret;exact⟨rfl,rfl⟩
  · rw[ZDz]
    go_enter func165,ntmps165
    go_wp2_with (go_at_call 192;refine(ZiJ).mono ?_;rintro e u ⟨rfl,rfl⟩)
    go_ret;exact⟨rfl,rfl⟩
  · have i:(Go.IntKind.i64).wrap (a*b)=a*b:=by
      have j:=Zy5 a b a1 a2 b1 b2;generalize a*b=ab at *
      rw[Ybo];omega
    rw[ZDA];go_enter func165,ntmps165
    go_wp2_with (go_at_call 192;refine(ZiJ).mono ?_;rintro e u ⟨rfl,rfl⟩)
    go_ret;exact⟨rfl,rfl⟩
  · have h:(a.tdiv b).natAbs<=a.natAbs:=by rw[Yff];exact Yfg _ _
    have k:(Go.IntKind.i64).wrap (a.tdiv b)=a.tdiv b:=by rw[Ybo];omega
    by_cases c:b=0
    · subst c
      rw[ZDC];go_enter func165,ntmps165;go_wp2;go_ret;exact⟨rfl,rfl⟩
    · rw[ZDB a b c]
      go_enter func165,ntmps165;go_wp2;go_ret;exact⟨rfl,rfl⟩
def talC(l:List Int):List Value:=[Vi l.length,Vi l.sum,Vi (maxL (l.headD 0) l),Vi (minL (l.headD 0) l),Vi (l.headD 0),Vi (l.getLastD 0)]
def talV(l:List Int):Value:=.agg (talC l).toArray
theorem ZyX(m:Int)(l:List Int)(x:Int):maxL m (l++[x])=max (maxL m l) x:=by rw[ZyW];split <;> omega
theorem Zy2(m:Int)(l:List Int)(x:Int):minL m (l++[x])=min (minL m l) x:=by rw[Zy1];split <;> omega
theorem ZxQ(l:List Int)(x:Int):(l++[x]).getLastD 0=x:=by simp[Yey]
theorem ZsC:∀l:List Int,(∀x∈l,vOk x)->-1000000000*(l.length:Int)<=l.sum/\l.sum<=1000000000*(l.length:Int)
 | [],_=>by simp
 | a :: l, h => by
   have e:=ZsC l (fun x c=>h x (Yam _ c));have d:=h a (Yay ..);unfold vOk at d;rw[List.sum_cons,Yaj];omega
theorem ZsT (l : List Int) (x : Int) (k : l.length <= 10000) (d : ∀ y ∈ l, vOk y) (f : vOk x) (w : World) : CP 173 #[talV l, Vi x] w fun e u => e = .returned (talV (l ++ [x])) /\ BW w u := by
  cases l with
  | nil=>
    unfold talV talC;simp only[Ybq,List.sum_nil,maxL,minL,List.headD_nil,List.getLastD_nil,Ycu,Ybj,List.sum_singleton,List.headD_cons,Yel,Int.lt_irrefl,if_false];go_enter func173,ntmps173;go_wp2;exact bodyPost_ret (v:=.agg #[Vi 1,Vi x,Vi x,Vi x,Vi x,Vi x]) (by simp[results,results173,go_sem]) rfl ⟨by simp,belB⟩
  | cons a l=>
    have c:=ZsC (a::l) d
    have g:Hid (talV ((a::l)++[x])=.agg #[Vi ((l.length:Int)+1+1),Vi ((a::l).sum+x),Vi (max (maxL a (a::l)) x),Vi (min (minL a (a::l)) x),Vi a,Vi x]):=hid (by
      unfold talV talC;rw[ZyX,Zy2,Ygh,ZxQ];simp)
    unfold vOk at f;rw[g.out];unfold talV talC;rw[Yaj]at *
    simp only[List.headD_cons];generalize(a::l).sum=sm at *
    generalize maxL a (a::l)=mx at *
    generalize minL a (a::l)=mn at *
    generalize(a::l).getLastD 0=la at *
    generalize l.length=ln at *
    have i:((ln:Int)+1 == 0)=false:=by rw[beq_eq_false_iff_ne];omega
    push_cast
    have h:=hid c;clear c;have j : -10000000000000<=sm/\sm<=10000000000000:=by have:=h.out;omega
    rcases(by omega:(mx<x/\max mx x=x)∨(x<=mx/\max mx x=mx))with ⟨g1,e1⟩|⟨g1,e1⟩ <;> rcases(by omega:(x<mn/\min mn x=x)∨(mn<=x/\min mn x=mn))with ⟨g2,e2⟩|⟨g2,e2⟩
    · rw[e1,e2]
      go_enter func173,ntmps173;go_wp2
      all_goals first|omega|exact bodyPost_ret (v:=.agg #[Vi ((ln:Int)+1+1),Vi (sm+x),Vi x,Vi x,Vi a,Vi x]) (by simp[results,results173,go_sem]) rfl ⟨rfl,belB⟩
    · rw[e1,e2]
      go_enter func173,ntmps173;go_wp2
      all_goals first|omega|exact bodyPost_ret (v:=.agg #[Vi ((ln:Int)+1+1),Vi (sm+x),Vi x,Vi mn,Vi a,Vi x]) (by simp[results,results173,go_sem]) rfl ⟨rfl,belB⟩
    · rw[e1,e2]
      go_enter func173,ntmps173;go_wp2
      all_goals first|omega|exact bodyPost_ret (v:=.agg #[Vi ((ln:Int)+1+1),Vi (sm+x),Vi mx,Vi x,Vi a,Vi x]) (by simp[results,results173,go_sem]) rfl ⟨rfl,belB⟩
    · rw[e1,e2]
      go_enter func173,ntmps173;go_wp2
      all_goals first|omega|exact bodyPost_ret (v:=.agg #[Vi ((ln:Int)+1+1),Vi (sm+x),Vi mx,Vi mn,Vi a,Vi x]) (by simp[results,results173,go_sem]) rfl ⟨rfl,belB⟩
theorem Zlh{n:Int}(h:vOk n):cutV n=n:=by unfold vOk at h;unfold cutV;split <;> (try split) <;> omega
theorem ZqV:∀(l:List Int) (m:Int),vOk m->(∀x∈l,vOk x)->vOk (maxL m l)
 | [],m,h,_=>h
 | a :: l, m, h, c => by
   rw[maxL];refine ZqV l _ ?_ (fun x d=>c x (Yam _ d));split
   · exact c a (Yay ..)
   · exact h
theorem Zq5:∀(l:List Int) (m:Int),vOk m->(∀x∈l,vOk x)->vOk (minL m l)
 | [],m,h,_=>h
 | a :: l, m, h, c => by
   rw[minL];refine Zq5 l _ ?_ (fun x d=>c x (Yam _ d));split
   · exact c a (Yay ..)
   · exact h
theorem ZwS{l:List Int}(c:∀x∈l,vOk x):vOk (l.headD 0):=by
 cases l with
 | nil=>unfold vOk;decide
 | cons a l=>exact c a (Yay ..)
theorem ZxP{l:List Int}(c:∀x∈l,vOk x):vOk (l.getLastD 0):=by
 cases l with
 | nil=>unfold vOk;decide
 | cons a l=>rw[Yel,<-Ye6 (a:=a) (by simp:a::l≠[])];exact c _ (List.getLast_mem _)
theorem ZDl (op : Nat) (f : op <= 4) (l : List Int) (g : l.length <= 10000) (a : ∀ y ∈ l, vOk y) (w : World) : CP 174 #[talV l, Vi op] w fun e u => e = .returned (Vi (cutV (ZfI op l))) /\ BW w u := by
  have c:=ZwS a;have d:=ZxP a;have e1:cutV (maxL (l.headD 0) l)=maxL (l.headD 0) l:=Zlh (ZqV l _ c a);have e2:cutV (minL (l.headD 0) l)=minL (l.headD 0) l:=Zlh (Zq5 l _ c a);have e3:cutV (l.length:Int)=l.length:=Zlh (by unfold vOk;omega);unfold ZfI talV talC;unfold vOk at c d;generalize maxL (l.headD 0) l=mx at *
  generalize minL (l.headD 0) l=mn at *
  generalize l.headD 0=hd at *
  generalize l.getLastD 0=la at *
  generalize l.sum=sm at *
  generalize l.length=ln at *
  clear a;rcases(by omega:op=0∨op=1∨op=2∨op=3∨op=4)with rfl|rfl|rfl|rfl|rfl
  · simp only[if_true]
    go_enter func174,ntmps174
    go_wp2_with (go_at_call 192;refine(ZiJ).mono ?_;rintro e u ⟨rfl,rfl⟩)
    go_ret;exact⟨rfl,belB⟩
  · simp only[Nat.one_ne_zero,if_false,if_true,e1]
    go_enter func174,ntmps174;go_wp2;go_ret;exact⟨rfl,belB⟩
  · rw[if_neg Dc,if_neg Dc,if_pos rfl,e2]
    go_enter func174,ntmps174;go_wp2;go_ret;exact⟨rfl,belB⟩
  · rw[if_neg Dc,if_neg Dc,if_neg Dc,if_pos rfl,e3]
    go_enter func174,ntmps174;go_wp2;go_ret;exact⟨rfl,belB⟩
  · rw[if_neg Dc,if_neg Dc,if_neg Dc,if_neg Dc]
    go_enter func174,ntmps174
    go_wp2_with (go_at_call 192;refine(ZiJ).mono ?_;rintro e u ⟨rfl,rfl⟩)
    go_ret;exact⟨rfl,belB⟩
theorem ZgR {a:Option Addr} {n c:Nat} {tx:BA} {w:World} : CP 124 #[.agg #[.slice a n c, .string tx]] w fun e u => e = .returned (.string tx) /\ ∃ o, u = w.alloc o := by
  go_enter func124,ntmps124;go_wp2;go_ret;exact⟨rfl,_,rfl⟩
end Go.Proofs.YtpbemaaghbbocaaGreatDoor

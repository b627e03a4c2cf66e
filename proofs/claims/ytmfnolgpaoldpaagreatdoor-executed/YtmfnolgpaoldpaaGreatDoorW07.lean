/- Parts. -/
import Derived.Test.YtmfnolgpaoldpaaGreatDoorW06
import Derived.Deep.RegionHeld3
import Derived.Deep.DrawnRows
set_option linter.all false
set_option maxRecDepth 100000
set_option maxHeartbeats 16000000
namespace Go.Proofs.YtmfnolgpaoldpaaGreatDoor
open Go.RowKit LS Go.Proofs.Tryz
variable {ca:Addr}{c xs1 xs2:List Value}{r ts:List Yg}{l ns:List<|LB}{b b1 b2 deep k m n n1 n2 p s1 s2:Nat}{rec:Nat->List Yg->Nat->Yl Tr}{e fr x:Nat×Nat}{R:RS}{t:Tr}{z:Tr×List Yg}{v v1 v2:Value}{w w' w0:World}
section
def tw:List Yg->Nat
 |[]=>0
 |t::r=>t.txt.length+30+tw r
def cw:List (LB×LB×Bool)->Nat
 |[]=>0
 |c::r=>c.1.length+c.2.1.length+6+cw r
def nw:List (LB)->Nat
 |[]=>0
 |c::r=>c.length+1+nw r
def Xo(a:Nd):Nat:=24+a.name.length+cw a.kq+nw a.by_
def wT:Tr->Nat
 |.nil=>0
 |.node _ _ a l r=>Xo a+wT l+wT r
def isNil:Tr->Bool
 |.nil=>true
 |.node _ _ _ _ _=>false
def V1:Tr->Prop
 |.nil=>True
 |.node _ _ a l r=>a.jj<=6/\a.op<=4/\(a.jj=4->a.op<=3)/\(a.jj=5->a.op<=3)/\0<=a.n/\a.n<=1000000000/\(3<=a.jj->isNil l=false)/\(a.jj=4∨a.jj=6->isNil r=false)/\(a.jj<=2->isNil l=true/\isNil r=true)/\(a.jj=3∨a.jj=5->isNil r=true)/\V1 l/\V1 r
theorem L0(ts:List Yg):tw ts.tail<=tw ts:=by
 cases ts with
 |nil=>simp
 |cons t r=>show tw r<=t.txt.length+30+tw r;omega
theorem LZ(h:¬((hd ts).jj=0)):(hd ts).txt.length+30+tw ts.tail=tw ts:=by
 cases ts with
 |nil=>exact absurd C h
 |cons t r=>rfl
theorem Pu{c:LB}{z:Unit×List Yg}(h:Zf c ts=.ok z):tw z.2+30<=tw ts:=by
 unfold Zf at h;split at h
 .rename_i e;cases h;have:=LZ λh=>QC e<|.inl h;simp_all;omega
 .cases h
theorem Jk{z:LB×List Yg}(a:k≠0)(h:Zk k ts=.ok z):tw z.2+z.1.length+30=tw ts:=by
 unfold Zk at h;split at h
 .rename_i e;cases h;have:=LZ (ts:=ts) X;simp_all;omega
 .cases h
theorem Ez(l m:List<|LB×LB×Bool):cw (l++m)=cw l+cw m:=by
 induction l with
 |nil=>simp[cw]
 |cons a l ih=>simp[cw,ih];omega
theorem oV(l m:List<|LB):nw (l++m)=nw l+nw m:=by
 induction l with
 |nil=>simp[nw]
 |cons a l ih=>simp[nw,ih];omega
theorem FI{α:Type}{item:List Yg->Yl α}{close:LB}(f:List α->Nat)(d:∀t z l,item t=.ok z->f (l++[z.1])+tw z.2<=f l+tw t):∀(n:Nat)(acc:List α)(ts:List Yg)(z:List α×List Yg),ZI item close n acc ts=.ok z->f z.1+tw z.2<=f acc+tw ts
 |0,_,_,_,h=>by cases h
 |n+1,acc,ts,z,h=>by
  have c:(if Yk _ _ then .ok _ else bnd _ _)=.ok z:=h;cases e:Yk close<|hd ts
  · rw[e]at c;obtain⟨_,t1,g,i⟩:=Zw c;obtain⟨a,t2,j,k⟩:=Zw i;have l1:tw t1<=tw ts:=by
      split at g
      .simp_all
      .have:=Pu g;simp_all;omega
    have l2:=d _ _ acc j;have l3:=FI f d n _ _ _ k;simp at l2;omega
  .rw[e]at c;injection c with c;subst c;have:=L0 ts;simp_all
theorem yQ(t:List Yg)(z:(LB×LB×Bool)×List Yg)(l:List<|LB×LB×Bool)(h:ZK t=.ok z):cw (l++[z.1])+tw z.2<=cw l+tw t:=by
 unfold ZK at h;obtain⟨a,t1,e,h⟩:=Zw h;obtain⟨v,t2,c,h⟩:=Zw h;obtain⟨b,t3,f,h⟩:=Zw h;cases h;have l1:=Jk N e;have l3:=Jk N f;have l2:tw t2<=tw t1:=by
  unfold RC at c;split at c
  .injection c with c;injection c with _ c;subst c;exact L0 _
  .obtain⟨_,t4,g,d⟩:=Zw c;injection d with d;injection d with _ d;subst d;have:=Pu g;simp_all;omega
 rw[Ez];simp[cw]at*;omega
theorem FJ{z:Nd×List Yg}(h:YP ts=.ok z):Xo z.1+6+tw z.2<=tw ts/\z.1.jj=1/\z.1.op=0/\z.1.n=0/\z.1.by_=[]:=by
 unfold YP at h;obtain⟨a,t,c,d⟩:=Zw h;have l1:tw t+a.length+30=tw ts:=by
  unfold Qb at c;split at c
  .cases c
  .exact Jk N c
 split at d
 .obtain⟨cs,t2,e,f⟩:=Zw d;cases f;have l2:=FI _ yQ _ _ _ _ e;have l3:=L0 t;refine⟨?_,C,C,C,C⟩;simp[Xo,cw,nw]at*;omega
 .cases d;refine⟨?_,C,C,C,C⟩;simp[Xo,cw,nw]at*;omega
theorem nO{l:LB}:0<=Wz l/\Wz l<=1000000000:=by
 unfold Wz;cases h:ZC 1000000000 l with
 |none=>simp
 |some v=>have:=Mw h;simp;omega
theorem Fk{a:Nd}(e:a.jj<=2)(d:a.op<=4)(c:0<=a.n/\a.n<=1000000000):V1<|TX a:=
 ⟨X,d,X,X,c.1,c.2,X,X,λ_=>⟨C,C⟩,X,trivial,trivial⟩
theorem yT{o:Nat}(c:o<=4)(h:Xu o ts=.ok z):V1 z.1/\isNil z.1=false/\wT z.1+tw z.2<=tw ts:=by
 unfold Xu at h;obtain⟨_,t1,d,h⟩:=Zw h;obtain⟨p,t2,e,h⟩:=Zw h;obtain⟨_,t3,f,h⟩:=Zw h;obtain⟨m,t4,a,h⟩:=Zw h;obtain⟨_,t5,g,h⟩:=Zw h;obtain⟨_,t6,i,h⟩:=Zw h;cases h;have a1:=Pu d;have a2:=FJ e;have a3:=Pu f;have a4:tw t4<=tw t3/\1<=m/\m<=1000:=by
  unfold T0 at a;split at a
  .rename_i j;injection a with a;injection a with a h4';subst a;subst h4';exact⟨L0 _,j.2,(Ny _ _).2⟩
  .cases a
 have a5:=Pu g;have a6:=Pu i;refine⟨Fk (Yj 2) c ⟨by simp_all;omega,by simp_all;omega⟩,C,?_⟩;simp[TX,wT,Xo,nw]at*;omega
def Pz(rec:Nat->List Yg->Nat->Yl Tr):Prop:=∀lv t d z,rec lv t d=.ok z->V1 z.1/\isNil z.1=false/\wT z.1+tw z.2<=tw t
theorem AF(c:Pz rec)(h:Z9 rec ts deep=.ok z):V1 z.1/\isNil z.1=false/\wT z.1+tw z.2<=tw ts:=by
 unfold Z9 at h;obtain⟨_,t1,d,h⟩:=Zw h;obtain⟨a,t2,e,h⟩:=Zw h;obtain⟨_,t3,f,h⟩:=Zw h;cases h;have a1:=Pu d;obtain⟨b1,b2,b3⟩:=c _ _ _ _ e;have a3:=Pu f;simp_all;omega
theorem yR(d:Pz rec){g:Nat}(c:g<=3)(h:Tg rec g ts deep=.ok z):V1 z.1/\isNil z.1=false/\wT z.1+tw z.2<=tw ts:=by
 unfold Tg at h;obtain⟨_,t1,e,h⟩:=Zw h;obtain⟨_,t2,f,h⟩:=Zw h;obtain⟨ns,t3,i,h⟩:=Zw h;obtain⟨a,t4,j,h⟩:=Zw h;cases h;have a1:=Pu e;have a2:=Pu f;have a3:=FI nw (λt z l k=>by have:=Jk N k;rw[oV];simp[nw];omega) _ _ _ _ i;obtain⟨b1,b2,b3⟩:=AF d j;refine⟨⟨Sm,by simp_all;omega,λ_=>c,λ_=>c,M0 _,Sm,λ_=>b2,λh=>by simp at h,λh=>absurd (show(5)<=2 from h) X,λ_=>C,b1,trivial⟩,C,?_⟩;simp[wT,Xo,cw,nw]at*;omega
theorem Di{w:LB}{i:Nat}(h:Y7 w l=some i):i<l.length:=by
 induction l generalizing i with
 |nil=>cases h
 |cons x l ih=>
  unfold Y7 at h;split at h
  .simp_all;omega
  .cases a:Y7 w l with
   |none=>simp_all
   |some j=>simp_all;omega
theorem yS(c:Pz rec)(h:ZR rec ts deep=.ok z):V1 z.1/\isNil z.1=false/\wT z.1+tw z.2<=tw ts:=by
 unfold ZR at h;have j:=L0 ts;split at h
 .rename_i k;cases h;have:=LZ (ts:=ts) X;refine⟨Fk (Yr _) (Yr _)<|nO,C,?_⟩;simp[TX,wT,Xo,cw,nw]at*;omega
 .split at h
  .rename_i e;obtain⟨a,t1,d,h⟩:=Zw h;cases h;obtain⟨b1,b2,b3⟩:=c _ _ _ _ d;have:=LZ λh=>QC e<|.inl h;refine⟨⟨N,Yr _,λ_=>Yr _,λ_=>Yr _,M0 _,N,λ_=>b2,λh=>by simp[VM]at h,λh=>absurd (show(3)<=2 from h) X,λ_=>C,b1,trivial⟩,C,?_⟩;simp[wT,Xo,cw,nw,VM]at*;omega
  .split at h
   .exact AF c h
   .split at h
    .rename_i g f;have:=Di f;obtain⟨b1,b2,b3⟩:=yR c (show g<=3 by simp[Wu]at this;omega) h;simp_all;omega
    .split at h
     .rename_i o i;have:=Di i;obtain⟨b1,b2,b3⟩:=yT (show o<=4 by simp[WN]at this;omega) h;simp_all;omega
     .obtain⟨p,t1,d,h⟩:=Zw h;cases h;obtain⟨a1,a2,a3,a4,a5⟩:=FJ d;simp only at a1 a2 a3 a4;refine⟨Fk X X ⟨X,X⟩,C,?_⟩;simp[TX,wT]at*;omega
theorem NA:∀(n:Nat)(m:Bool)(lv:Nat)(a:Tr)(ts:List Yg)(deep:Nat)(z:Tr×List Yg),(m=true->V1 a/\isNil a=false)->Zh n m lv a ts deep=.ok z->V1 z.1/\isNil z.1=false/\wT z.1+tw z.2<=tw ts+(if m then wT a else 0)
 |0,_,_,_,_,_,_,_,h=>by cases h
 |n+1,false,lv,a,ts,deep,z,_,h=>by
  have k:Pz λlv t d=>Zh n false lv .nil t d:=λlv t d z h=>by
   obtain⟨g,i,r⟩:=NA n false lv .nil t d z (λh=>(by cases h)) h;simp_all
  unfold Zh at h;split at h
  · unfold Ug at h;split at h
    · split at h
      .cases h
      .obtain⟨g,i,r⟩:=yS k h;simp_all
    .cases h
  .obtain⟨b,t1,g,i⟩:=Zw h;obtain⟨l1,l2,l3⟩:=k _ _ _ _ g;obtain⟨m1,m2,m3⟩:=NA n true lv b t1 deep z (λ_=>⟨l1,l2⟩) i;simp_all;omega
 |n+1,true,lv,a,ts,deep,z,s,h=>by
  obtain⟨l,o⟩:=s C;unfold Zh at h;split at h
  .cases h;simp_all;omega
  · rename_i p e;obtain⟨b,t1,g,i⟩:=Zw h;obtain⟨l1,l2,l3⟩:=NA n false _ _ _ _ _ (λh=>(by cases h)) g;have q:((p.1=4/\p.2<=3)∨(p.1=6/\p.2=0))/\tw ts.tail+30<=tw ts:=by
      have j:∀c,Yk c (hd ts)=true->tw ts.tail+30<=tw ts:=λc f=>by have:=LZ (ts:=ts) λh=>QC f<|Or.inl h;omega
      unfold LS.opAt at e;split at e
      · split at e
        .rename_i f;cases e;exact⟨Or.inr ⟨C,C⟩,j _ f⟩
        simp_all
      · split at e
        · split at e
          .rename_i f;cases e;exact⟨Or.inl ⟨C,N⟩,j _ f⟩
          · split at e
            .rename_i f;cases e;exact⟨Or.inl ⟨C,N⟩,j _ f⟩
            simp_all
        · split at e
          .rename_i f;cases e;exact⟨Or.inl ⟨C,N⟩,j _ f⟩
          · split at e
            .rename_i f;cases e;exact⟨Or.inl ⟨C,N⟩,j _ f⟩
            simp_all
    obtain⟨w,v⟩:=q;have u:V1<|.node 0 0 (VM p.1 p.2) a b:=by
     refine⟨?_,?_,?_,?_,M0 _,by constructor<;>omega,λ_=>o,λ_=>l2,?_,?_,l,l1⟩
     .show p.1<=6;omega
     .show p.2<=4;omega
     .intro h;show p.2<=3;omega
     .intro h;exact absurd (show p.1=5 from h) X
     .intro h;exact absurd (show p.1<=2 from h) X
     .intro h;exact absurd (show p.1=3∨p.1=5 from h) X
    obtain⟨m1,m2,m3⟩:=NA n true lv _ t1 deep z (λ_=>⟨u,C⟩) i;refine⟨m1,m2,?_⟩;simp[wT,Xo,cw,nw,VM]at l3 m3⊢;omega
def XT(a:Nd):Nat:=if a.jj=6 then 0 else a.op+1
def Zo(w:World):Tr->Value->Prop
 |.nil,_=>False
 |.node _ _ a l r,v=>
  (a.jj=0/\v=.iface 424 (.agg #[E a.n]))∨
  (a.jj=1/\∃(nm:BA)(la:Option Addr)(ln lc:Nat),v=.iface 229 (.agg #[.string nm,.slice la ln lc])/\bl nm=a.name/\Z0 w (.slice la ln lc) a.kq)∨
  (a.jj=2/\∃(wd nm:BA)(la:Option Addr)(ln lc:Nat),v=.iface 433 (.agg #[.string wd,.string nm,.slice la ln lc,E a.n])/\bl wd=WN.getD a.op []/\bl nm=a.name/\Z0 w (.slice la ln lc) a.kq)∨
  (a.jj=3/\∃x,v=.iface 426 (.agg #[x])/\Zo w l x)∨
  (a.jj=5/\∃(wd:BA)(la:Option Addr)(ln lc:Nat)(x:Value),v=.iface 428 (.agg #[.string wd,.slice la ln lc,x])/\bl wd=Wu.getD a.op []/\Ue w (.slice la ln lc) a.by_/\Zo w l x)∨
  ((a.jj=4∨a.jj=6)/\∃x y,v=.iface 422 (.agg #[E<|XT a,x,y])/\Zo w l x/\Zo w r y)
def Le(v:Value):Prop:=v=.nilIface∨∃(ty:TypeId)(u:Value),v=.iface ty u
theorem Zo.shape:∀{t:Tr}{v:Value},Zo w t v->∃(ty:TypeId)(u:Value),v=.iface ty u
 |.nil,_,h=>h.elim
 |.node _ _ a l r,v,h=>by
  rcases h with⟨_,h⟩|⟨_,_,_,_,_,h,_⟩|⟨_,_,_,_,_,_,h,_⟩|⟨_,_,h,_⟩|⟨_,_,_,_,_,_,h,_⟩|⟨_,_,_,h,_⟩;all_goals exact⟨_,_,h⟩
theorem Z0.below{ns:List<|LB×LB×Bool}(h:Z0 w v ns)(a:BW w w'):Z0 w' v ns:=by
 obtain⟨bs,c,d⟩:=h;exact⟨bs,Ze c a,d⟩
theorem Ue.below(h:Ue w v ns)(a:BW w w'):Ue w' v ns:=by
 obtain⟨bs,c,d⟩:=h;exact⟨bs,Ze c a,d⟩
theorem Zo.mono{w w':World}(i:∀v cs,Z0 w v cs->Z0 w' v cs)(j:∀v ns,Ue w v ns->Ue w' v ns):∀(t:Tr)(v:Value),Zo w t v->Zo w' t v
 |.nil,_,h=>h
 |.node _ _ a l r,v,h=>by
  have g:=Zo.mono i j l;have n:=Zo.mono i j r;rcases h with h|⟨c,nm,la,ln,lc,d,e,f⟩|⟨c,k,nm,la,ln,lc,d,e,f,m⟩|⟨c,x,d,e⟩|⟨c,k,la,ln,lc,x,d,e,f,m⟩|⟨c,x,y,d,e,f⟩
  .exact .inl h
  .exact .inr<|.inl ⟨c,nm,la,ln,lc,d,e,i _ _ f⟩
  .exact .inr<|.inr<|.inl ⟨c,k,nm,la,ln,lc,d,e,f,i _ _ m⟩
  .exact .inr<|.inr<|.inr<|.inl ⟨c,x,d,g x e⟩
  .exact .inr<|.inr<|.inr<|.inr<|.inl ⟨c,k,la,ln,lc,x,d,e,j _ _ f,g x m⟩
  .exact .inr<|.inr<|.inr<|.inr<|.inr ⟨c,x,y,d,g x e,n y f⟩
theorem Zo.below(h:Zo w t v)(a:BW w w'):Zo w' t v:=Zo.mono (λ_ _ h=>h.below a) (λ_ _ h=>h.below a) t v h
theorem Zo.kept(h:Zo w t v)(a:w.grownBy w'<|some b){c:Array Value}{ty:TypeId}(d:w.heap[b]?=some (.cells c ty fr))(e:ty≠374)(f:ty≠9):Zo w' t v:=
 Zo.mono (λ_ _ h=>h.kept a d e) (λ_ _ h=>h.kept a d f) t v h
theorem Zo.read(h:Zo w t v)(a:RK w R k ts)(c:w.grownBy w'<|some R.b):Zo w' t v:=h.kept c a.rd.cells N N
theorem Z0.read{cs:List<|LB×LB×Bool}(h:Z0 w v cs)(a:RK w R k ts)(c:w.grownBy w'<|some R.b):Z0 w' v cs:=h.kept c a.rd.cells N
theorem Ue.read{cs:List<|LB}(h:Ue w v cs)(a:RK w R k ts)(c:w.grownBy w'<|some R.b):Ue w' v cs:=h.kept c a.rd.cells N
theorem U4.err{α:Type}{V:World->α->Prop}{r:Yl α}(h:U4 R V w r v)(a:r=.error e):WJ w R e v:=by subst a;exact h
theorem U4.good{α:Type}{V:World->α->Prop}{r:Yl α}(h:U4 R V w r v){a:α}(c:r=.ok (a,ts)):v=.nilIface/\(∃k,RK w R k ts)/\V w a:=by subst c;exact h
theorem GO{e1 e2:TypeId}(c:w.ownsRow b1 e1 s1 v1 n1 xs1)(d:w.ownsRow b2 e2 s2 v2 n2 xs2)(f:w.grownBy w' v2.ownBlock)(g:e1≠e2):w'.ownsRow b1 e1 s1 v1 n1 xs1:=
 ZJ c (λk a=>f.block k (c.lt k a).2 (λe=>by
  rcases QE c d g with h|h
  .rw[h]at a;cases a
  .exact h<|a.trans e))
theorem Mx{e1:TypeId}(a:w.ownsRow b1 e1 s1 v1 n1 xs1){t:TypeId}(f:Ya w b c t)(g:w.grownBy w'<|some b)(h:t≠e1):w'.ownsRow b1 e1 s1 v1 n1 xs1:=
 ZJ a λk d=>g.block k (a.lt k d).2 λe=>by
  cases e;exact ZD a f h d.symm
def UN(w:World)(is:List<|Nat×Nat)(v:Value):Prop:=w.ownsRow 0 137 2 v is.length<|SS is
structure Pk where
 nm:BA
 la:Option Addr
 ln:Nat
 lc:Nat
 nd:Nd
 n:Nat
def Pk.enc(x:Pk):List Value:=[.string x.nm,.slice x.la x.ln x.lc,E x.n]
def Pk.pr(x:Pk):Nd×Nat:=(x.nd,x.n)
structure Pk.ok (w:World)(x:Pk):Prop where
 nm:bl x.nm=x.nd.name
 cs:Z0 w (.slice x.la x.ln x.lc) x.nd.kq
def R7(l:List Pk):List Value:=(l.map Pk.enc).flatten
theorem sZ(l m:List Pk):R7 (l++m)=R7 l++R7 m:=by unfold R7;rw[Y9,J0]
theorem DX(l:List Pk)(j:Nat)(c:j<l.length):(R7 l)[j*3]?=some (.string l[j].nm)/\(R7 l)[j*3+1]?=some (.slice l[j].la l[j].ln l[j].lc)/\(R7 l)[j*3+2]?=some (E l[j].n):=by
 induction l generalizing j with
 |nil=>simp at c
 |cons a l ih=>
  have e:R7 (a::l)=.string _::.slice _ _ _::.int _ _::R7 l:=C;cases j with
  |zero=>rw[e];exact⟨C,C,C⟩
  |succ j=>
   have h:=ih j<|by simpa using c
   rw[e,show(j+1)*3=j*3+1+1+1 by omega];simpa using h
def SM(w:World)(a:Nd×Nat)(v:Value):Prop:=∃x:Pk,v=.agg #[.string x.nm,.slice x.la x.ln x.lc,E x.n]/\x.pr=a/\x.ok w
def Oo(v:Value):Prop:=v=.agg #[.string ⟨#[]⟩,S0,E 0]
def Pd(w:World)(ps:List<|Nd×Nat)(v:Value):Prop:=∃xs:List Pk,w.ownsRow 0 231 3 v xs.length (R7 xs)/\xs.map Pk.pr=ps/\∀x∈xs,x.ok w
structure Gp where
 la:Option Addr
 ln:Nat
 lc:Nat
 ns:List<|LB
def Gp.ok(w:World)(x:Gp):Prop:=∃bs:List BA,w.ownsRow 0 9 1 (.slice x.la x.ln x.lc) bs.length (TE bs)/\((bs.map bl).Pairwise λa b=>Op.bytesLess b a=false)/\(∀y,y∈bs.map bl↔y∈x.ns)/\bs.length<=70001
def Nr(l:List Gp):List Value:=l.map λx=>.slice x.la x.ln x.lc
def Q8(w:World)(a:List<|LB)(v:Value):Prop:=∃x:Gp,v=.slice x.la x.ln x.lc/\x.ns=a/\x.ok w
def Q9(w:World)(gs:List<|List<|LB)(v:Value):Prop:=∃xs:List Gp,w.ownsRow 0 57 1 v xs.length (Nr xs)/\xs.map Gp.ns=gs/\∀x∈xs,x.ok w
theorem Pk.ok.below{x:Pk}(h:x.ok w)(a:BW w w'):x.ok w':=⟨h.nm,h.cs.below a⟩
theorem Pk.ok.ju{x:Pk}(h:x.ok w){t:TypeId}(a:Ya w b c t)(d:w.grownBy w'<|some b)(e:t≠374):x.ok w':=by
 obtain⟨bs,f,g⟩:=h.cs;exact⟨h.nm,bs,Mx f a d e,g⟩
theorem Pk.ok.kept2{x:Pk}(h:x.ok w){e2:TypeId}(a:w.ownsRow b2 e2 s2 v2 n2 xs2)(c:w.grownBy w' v2.ownBlock)(d:374≠e2):x.ok w':=by
 obtain⟨bs,e,f⟩:=h.cs;exact⟨h.nm,bs,GO e a c d,f⟩
theorem Gp.ok.below{x:Gp}(h:x.ok w)(a:BW w w'):x.ok w':=by
 obtain⟨bs,c,d⟩:=h;exact⟨bs,Ze c a,d⟩
theorem Gp.ok.ju{x:Gp}(h:x.ok w){t:TypeId}(a:Ya w b c t)(d:w.grownBy w'<|some b)(e:t≠9):x.ok w':=by
 obtain⟨bs,f,g⟩:=h;exact⟨bs,Mx f a d e,g⟩
theorem Gp.ok.kept2{x:Gp}(h:x.ok w){e2:TypeId}(a:w.ownsRow b2 e2 s2 v2 n2 xs2)(c:w.grownBy w' v2.ownBlock)(d:9≠e2):x.ok w':=by
 obtain⟨bs,e,f⟩:=h;exact⟨bs,GO e a c d,f⟩
theorem Tryz.infoSelC:(Tryz.prog.info? 231).map (λi=>(i.zero,i.size,i.bytes))=some (some<|.agg #[.string ByteArray.empty,S0,E 0],3,48):=Kr
theorem Tryz.infoStrs:(Tryz.prog.info? 57).map (λi=>(i.zero,i.size,i.bytes))=some (some S0,1,24):=Kr
theorem YF.belowE{α:Type}{V:World->α->Value->Prop}{Z:Value->Prop}{s:BA}{r:X9 α}{v err:Value}(h:YF V Z w b s ca r v err)(a:r=.error x)(c:BW w w'):YF V Z w' b s ca r v err:=by
 obtain⟨d,e,f,p,g⟩:=h.err a;exact YF.ku a ⟨d,e.below c,f,p,g.below c⟩
theorem mH(s:BA)(b:Nat)(w:World)(h0:BW w0 w)(hb:w0.heap.size<=b)(L:YH w b s p)(hp:p<=s.size)(hn:n<=65535){one:Nat->X9 (Nat×Nat)}(h1:T8 119 IV IZ w0 b s ca one)(r:∀p x,one p=.ok x->p<=s.size->x.2<=s.size):
 CP 118 #[Vp b,E n,.func (.func 119) #[] #[]] w λe M=>∃v err,e=.returned (.tuple #[v,err])/\Hid (YF UN XW M b s ca (Yo one p n) v err)/\w.grownBy M (some b):=by
 have O:=L.lt;obtain⟨i0,hi,P,Q,R⟩:=Xv Tryz.infoIns;have H1:=I h1;have HQ:=I r;have H0:=I h0;have HR:=I L;have S:=I hb;go_enter func118,ntmps118;go_wp2;go_loopw [8,12] (λv i wr=>∃(k q:Nat)(xs:List<|Nat×Nat),k<=n/\i=E k/\q<=s.size/\Hid (Yo one p k=.ok (xs,q))/\Hid (YH wr b s q)/\xs.length=k/\wr.ownsRow w.heap.size 137 2 v xs.length (SS xs)/\Hid (w.grownBy wr<|some b))
  (λ_ i _=>n-(intOf i).toNat);case atStart=>exact⟨0,p,[],Yr _,C,hp,I C,HR,C,Xm _ _ _ _,I<|Z2 _ _⟩
 case round=>
  obtain⟨k,q,xs,hk,rfl,r,j,l,D,c,t⟩:=hrel;have g:=I D;clear D;by_cases F:k<n
  .have a1:(k:Int)<n:=X;obtain⟨av,cp,rfl⟩:=Zd c;have T:=I c;clear c;go_wp2_with fail;refine(H1 q _ (Uz H0 t S) l r).mono ?_;rintro e w1 ⟨v,err,rfl,h,m⟩;have o:=I<|Zi t m;have a:=JD T m O;clear m T t l;cases d:one q with
   |error x=>
    obtain⟨fa,rfl⟩:=h.jn d;have J:Hid<|YF UN XW _ b s _ _ _ _:=I<|h.km d (Rr j d n F) C;have K:=(h.err d).2.2.1;obtain⟨x0,y0,rfl⟩:=K;have U:=I<|Rr j d n F;clear h d a;go_wp2;go_ret2;exact⟨_,_,C,I<|J.belowE U Yc,Vh o _⟩
   |ok x=>
    obtain⟨z,q2⟩:=x;obtain⟨rfl,hv,G⟩:=h.ok d;have V:=I<|OE j d;have H:=HQ q _ d r;have W:=I G;simp only at H;have a2:=o.size;obtain rfl:=hv;obtain⟨y,hy⟩:∃y,y=z:=⟨_,C⟩;subst hy;clear h d G j;go_wp2_with(at_builtin;refine XC _ C (.tmp 23) (.tmp 25) 78 C w.heap.size 137 i0 (.agg #[E 0,E 0]) 2 16 underlying78 hi P Q R C N _ _ _ C ((a.alloc _).alloc _) ⟨w1.heap.size+1,0,none⟩ 1 1 [E y.1,E y.2] C C ?c1 ?c2 ?c3 ?c4 ?c5 ?_);case c1=>exact Z1 Sm
    case c2=>intro u Y;simp at Y;rcases Y with rfl|rfl<;>rfl
    case c3=>have:=g.out;unfold maxLen;omega
    case c4=>have:=g.out;omega
    case c5=>have:=g.out;simp;omega
    intro v' w3 A f _;have Z:=I<|OB (Vh (Vh o _) _) f λz K=>(a.lt z K).1;have a0:Hid<|YH _ b s _:=I<|(W.below<|Yc.alloc Sm _).grown f λe=>by have:=(a.lt b e.symm).1;omega
    have B:w3.ownsRow w.heap.size 137 2 v' (xs++[y]).length<|SS<|xs++[y]:=by rwa [Yv,Dz]
    clear a f A;go_wp2;go_roundw;case rel=>exact⟨k+1,q2,xs++[y],X,by go_num,H,V,a0,by rw[Yv,g];rfl,B,Z⟩
    case measure=>simp[intOf];omega
  .obtain rfl:k=n:=X;obtain⟨av,cp,rfl⟩:=Zd c;have J:Hid<|YF UN XW _ b s ca _ _ _:=I<|YF.mkOk j ⟨C,U6 c,l⟩;clear c;go_wp2;go_ret2;exact⟨_,_,C,J,t⟩
theorem oW(s:BA)(b:Nat)(w:World)(h0:BW w0 w)(hb:w0.heap.size<=b)(R:YH w b s p)(hp:p<=s.size)(hn:n<=65535){one:Nat->X9 (Nd×Nat)}(h1:T8 115 SM Oo w0 b s ca one)(A:∀p x,one p=.ok x->p<=s.size->x.2<=s.size):
 CP 114 #[Vp b,E n,.func (.func 115) #[] #[]] w λe S=>∃v err,e=.returned (.tuple #[v,err])/\Hid (YF Pd XW S b s ca (Yo one p n) v err)/\w.grownBy S (some b):=by
 have T:=R.lt;obtain⟨i0,hi,U,V,W⟩:=Xv Tryz.infoSelC;have H1:=I h1;have HQ:=I A;have H0:=I h0;have HR:=I R;have Y:=I hb;go_enter func114,ntmps114;go_wp2;go_loopw [8,12] (λv i wr=>∃(k q:Nat)(xs:List Pk),k<=n/\i=E k/\q<=s.size/\Hid (Yo one p k=.ok (xs.map Pk.pr,q))/\Hid (YH wr b s q)/\xs.length=k/\wr.ownsRow w.heap.size 231 3 v xs.length (R7 xs)/\Hid (w.grownBy wr<|some b)/\Hid (∀x∈xs,x.ok wr))
  (λ_ i _=>n-(intOf i).toNat);case atStart=>exact⟨0,p,[],Yr _,C,hp,I C,HR,C,Xm _ _ _ _,I<|Z2 _ _,I λx f=>(by cases f)⟩
 case round=>
  obtain⟨k,q,xs,hk,rfl,A,o,h,G,c,B,r⟩:=hrel;have j:=I G;clear G;by_cases H:k<n
  .have a6:(k:Int)<n:=X;obtain⟨av,cp,rfl⟩:=Zd c;have Z:=I c;clear c;go_wp2_with fail;refine(H1 q _ (Uz H0 B Y) h A).mono ?_;rintro e w1 ⟨v,err,rfl,m,l⟩;have t:=I<|Zi B l;have a:=JD Z l T;have M:=I λx f=>(r x f).ju h l N;clear r;clear l Z B h;cases g:one q with
   |error x=>
    obtain⟨fa,rfl⟩:=m.jn g;have O:Hid<|YF Pd XW _ b s _ _ _ _:=I<|m.km g (Rr o g n H) C;have P:=(m.err g).2.2.1;obtain rfl:=P;have a0:=I<|Rr o g n H;clear m g a;go_wp2;go_ret2;exact⟨_,_,C,I<|O.belowE a0 Yc,Vh t _⟩
   |ok x=>
    obtain⟨z,q2⟩:=x;obtain⟨rfl,hv,J⟩:=m.ok g;have a7:=I<|OE o g;have K:=HQ q _ g A;have a1:=I J;simp only at K;have a8:=t.size;obtain⟨y,rfl,rfl,L⟩:=hv;have a2:=I L;clear L;clear m g J o;go_wp2_with(at_builtin;refine XC _ C (.tmp 23) (.tmp 25) 77 C w.heap.size 231 i0 (.agg #[.string ByteArray.empty,S0,E 0]) 3 48 underlying77 hi U V W C N _ _ _ C ((a.alloc _).alloc _) ⟨w1.heap.size+1,0,none⟩ 1 1 [.string y.nm,.slice y.la y.ln y.lc,E y.n] C C ?c1 ?c2 ?c3 ?c4 ?c5 ?_);case c1=>exact Z1 Sm
    case c2=>intro u hu;simp at hu;rcases hu with rfl|rfl|rfl<;>rfl
    case c3=>have:=j.out;unfold maxLen;omega
    case c4=>have:=j.out;omega
    case c5=>have:=j.out;simp;omega
    intro v' w3 D d _;have a3:=I<|OB (Vh (Vh t _) _) d λz P=>(a.lt z P).1;have a4:Hid<|YH _ b s _:=I<|(a1.below<|Yc.alloc Sm _).grown d λe=>by have:=(a.lt b e.symm).1;omega
    have F:w3.ownsRow w.heap.size 231 3 v' (xs++[y]).length<|R7<|xs++[y]:=by rwa [Yv,sZ]
    have Q:Hid<|∀x∈xs++[y],x.ok _:=I (λx f=>by
     have a5:x.ok w1:=by
      rcases Wk.1 f with f|f
      .exact M x f
      .rw[Vs]at f;subst f;exact a2
     exact(a5.below<|Yc.alloc Sm _).kept2 ((a.alloc _).alloc _) d N);clear a d D;go_wp2;go_roundw;case rel=>exact⟨k+1,q2,xs++[y],X,by go_num,K,I<|by rwa [Y9],a4,by rw[Yv,j];rfl,F,a3,Q⟩
    case measure=>simp[intOf];omega
  .obtain rfl:k=n:=X;obtain⟨av,cp,rfl⟩:=Zd c;have O:Hid<|YF Pd XW _ b s ca _ _ _:=I<|YF.mkOk o ⟨C,⟨xs,U6 c,C,r⟩,h⟩;clear c;go_wp2;go_ret2;exact⟨_,_,C,O,B⟩
theorem mF(s:BA)(b:Nat)(w:World)(h0:BW w0 w)(hb:w0.heap.size<=b)(Q:YH w b s p)(hp:p<=s.size)(hn:n<=65535){one:Nat->X9 (List<|LB)}(h1:T8 117 Q8 XW w0 b s ca one)(r:∀p x,one p=.ok x->p<=s.size->x.2<=s.size):
 CP 116 #[Vp b,E n,.func (.func 117) #[] #[]] w λe R=>∃v err,e=.returned (.tuple #[v,err])/\Hid (YF Q9 XW R b s ca (Yo one p n) v err)/\w.grownBy R (some b):=by
 have S:=Q.lt;obtain⟨i0,hi,T,U,V⟩:=Xv Tryz.infoStrs;have H1:=I h1;have HQ:=I r;have H0:=I h0;have HR:=I Q;have W:=I hb;go_enter func116,ntmps116;go_wp2;go_loopw [8,12] (λv i wr=>∃(k q:Nat)(xs:List Gp),k<=n/\i=E k/\q<=s.size/\Hid (Yo one p k=.ok (xs.map Gp.ns,q))/\Hid (YH wr b s q)/\xs.length=k/\wr.ownsRow w.heap.size 57 1 v xs.length (Nr xs)/\Hid (w.grownBy wr<|some b)/\Hid (∀x∈xs,x.ok wr))
  (λ_ i _=>n-(intOf i).toNat);case atStart=>exact⟨0,p,[],Yr _,C,hp,I C,HR,C,Xm _ _ _ _,I<|Z2 _ _,I λx f=>(by cases f)⟩
 case round=>
  obtain⟨k,q,xs,hk,rfl,r,t,l,D,d,K,F⟩:=hrel;have h:=I D;clear D;by_cases Y:k<n
  .have a5:(k:Int)<n:=X;obtain⟨av,cp,rfl⟩:=Zd d;have HO:=I d;go_wp2_with fail;refine(H1 q _ (Uz H0 K W) l r).mono ?_;rintro e Z ⟨v,err,rfl,j,m⟩;have o:=I<|Zi K m;have a:=JD HO m S;have L:=I λx f=>(F x f).ju l m N;cases g:one q with
   |error x=>
    obtain⟨fa,rfl⟩:=j.jn g;have M:Hid<|YF Q9 XW _ b s _ _ _ _:=I<|j.km g (Rr t g n Y) C;have O:=(j.err g).2.2.1;obtain rfl:=O;clear j g a;go_wp2;go_ret2;exact⟨_,_,C,M,o⟩
   |ok x=>
    obtain⟨z,q2⟩:=x;obtain⟨rfl,hv,G⟩:=j.ok g;have a6:=I<|OE t g;have H:=HQ q _ g r;have a0:=I G;simp only at H;have a7:=o.size;obtain⟨y,rfl,rfl,J⟩:=hv;have a1:=I J;clear J;clear j g G t;go_wp2_with(at_builtin;refine XC _ C (.tmp 23) (.tmp 25) 66 C w.heap.size 57 i0 S0 1 24 underlying66 hi T U V C N _ _ _ C (a.alloc _) ⟨Z.heap.size,0,none⟩ 1 1 [.slice y.la y.ln y.lc] C C ?c1 ?c2 ?c3 ?c4 ?c5 ?_);case c1=>exact Z1 Sm
    case c2=>intro u hu;simp at hu;rw[hu];rfl
    case c3=>have:=h.out;unfold maxLen;omega
    case c4=>have:=h.out;omega
    case c5=>have:=h.out;simp;omega
    intro v' w3 A c _;have a2:=I<|OB (Vh o _) c λz O=>(a.lt z O).1;have a3:Hid<|YH _ b s _:=I<|(a0.below Yc).grown c λe=>by have:=(a.lt b e.symm).1;omega
    have B:w3.ownsRow w.heap.size 57 1 v' (xs++[y]).length<|Nr<|xs++[y]:=by rwa [Yv,show Nr (xs++[y])=Nr xs++[.slice y.la y.ln y.lc]by unfold Nr;rw[Y9];rfl]
    have P:Hid<|∀x∈xs++[y],x.ok _:=I (λx f=>by
     have a4:x.ok Z:=by
      rcases Wk.1 f with f|f
      .exact L x f
      .rw[Vs]at f;subst f;exact a1
     exact(a4.below Yc).kept2 (a.alloc _) c N);clear a c A;go_wp2;go_roundw;case rel=>exact⟨k+1,q2,xs++[y],X,by go_num,H,I<|by rwa [Y9],a3,by rw[Yv,h];rfl,B,a2,P⟩
    case measure=>simp[intOf];omega
  .obtain rfl:k=n:=X;obtain⟨av,cp,rfl⟩:=Zd d;have M:Hid<|YF Q9 XW _ b s ca _ _ _:=I<|YF.mkOk t ⟨C,⟨xs,U6 d,C,F⟩,l⟩;clear d;go_wp2;go_ret2;exact⟨_,_,C,M,K⟩
attribute [local go_sem ↓] Go.wp_at_zero Go.wp_at_succ
theorem fX(l:LB):(1<=YL 1000 l↔1<=Wz l/\Wz l<=1000)/\(1<=YL 1000 l->YL 1000 l=Wz l):=by
 unfold YL Wz ZC;by_cases c:l.length<1∨(l.head?=some 48/\1<l.length)∨l.all Zt=false
 .rw[Ye<|by rcases c with h|h|h;exact .inl h;exact .inr<|.inl h;exact .inr<|.inr<|.inl h];rw[Ye<|by rcases c with h|h|h;exact .inl h;exact .inr<|.inl h;exact .inr<|.inr<|.inl h];simp
 .have e:∀most,most<val l->(l.length<1∨(l.head?=some 48/\1<l.length)∨l.all Zt=false∨most<val l):=λ_ h=>.inr<|.inr<|.inr h;have d:∀most,¬most<val l->¬(l.length<1∨(l.head?=some 48/\1<l.length)∨l.all Zt=false∨most<val l):=by
   rintro most h (a|a|a|a)
   .exact c<|.inl a
   .exact c<|.inr<|.inl a
   .exact c<|.inr<|.inr a
   .exact h a
  by_cases a:1000<val l
  .rw[Ye<|e _ a];by_cases f:1000000000<val l
   .rw[Ye<|e _ f];simp
   .rw[Yd<|d _ f];simp only[Qu];constructor
    .constructor
     .intro h;omega
     .intro h;omega
    .intro h;omega
  .rw[Yd<|d _ a,Yd<|d _ X];simp only[Qu];constructor
   .constructor
    .intro h;omega
    .intro h;omega
   .intro _;trivial
def Ub(ts:List Yg):Yl Int:=bnd (Zf [91] ts) λ_ r=>bnd (T0 r) λn r=>bnd (Zf [93] r) λ_ r=>.ok (n,r)
theorem At (o:Nat)(ts:List Yg):Xu o ts=bnd (Zf [40] ts) λ_ r=>bnd (YP r) λp r=>bnd (Ub r) λn r=>bnd (Zf [41] r) λ_ r=>.ok (TX ⟨2,o,n,p.name,p.kq,[]⟩,r):=by
 unfold Xu Ub;cases a:Zf [40] ts with
 |error e=>rfl
 |ok p1=>
  obtain⟨a1,r1⟩:=p1;simp only[bnd];cases c:YP r1 with
  |error e=>rfl
  |ok p2=>
   obtain⟨a2,r2⟩:=p2;simp only;cases d:Zf [91] r2 with
   |error e=>rfl
   |ok p3=>
    obtain⟨a3,r3⟩:=p3;simp only;cases f:T0 r3 with
    |error e=>rfl
    |ok p4=>
     obtain⟨a4,r4⟩:=p4;simp only;cases g:Zf [93] r4 with
     |error e=>rfl
     |ok p5=>rfl
theorem P8(s:LB)(ts:List Yg):(Yk s (hd ts)=true/\Zf s ts=.ok ((),ts.tail))∨(¬Yk s (hd ts)=true/\Zf s ts=.error (2,(hd ts).at_)):=by
 by_cases h:Yk s (hd ts)=true
 .exact .inl ⟨h,Qj h⟩
 .exact .inr ⟨h,PG h⟩
theorem yB(h:RK w R k ts):
 CP 297 #[Vp R.b] w λe u=>∃(n:Int)(v:Value),e=.returned (.tuple #[E n,v])/\Hid (U4 R (λ_ m=>n=m) u (Ub ts) v)/\w.grownBy u (some R.b):=by
 have H:=I h;have a4:=(Xr.1 h.rd.cells).1;go_enter func297,ntmps297;go_wp2_with fail;refine(Qi H _ N N).mono ?_;rintro e w1 ⟨v,rfl,f,hg⟩;have P:=I hg;rcases P8 [91] ts with⟨s,c⟩|⟨s,c⟩
 .obtain⟨rfl,⟨k1,d⟩,_⟩:=f.good c;have Q:=I d;have A:Hid<|Ub ts=bnd (T0 ts.tail) λn r=>bnd (Zf [93] r) λ_ r=>.ok (n,r):=by unfold Ub;rw[c];rfl
  go_wp2_with fail;refine(QM Q).mono ?_;rintro e z ⟨⟨kd,at_,tx,tv⟩,rfl,B,S⟩;have D:=I<|Zi P<|ZB S;have T:=I<|Q.below S;go_upto_region 5 with fail;refine Zs λW6 F=>?_;have G:Below _ _ _:=F▸Yc;have J:Hid<|Ya _ _ [.int _ _,.int _ _,.string _,.int _ _] 389:=F▸YO;have o:=I<|Zi D<|ZB G;have g:=I<|T.below G;have a5:R.b<z.heap.size:=by have:=D.size;omega
  clear F G T D;have t0:=J.cell;have i:=fX (hd ts.tail).txt;by_cases d:(hd ts.tail).jj=1
  .have U:kd=0:=by have:=B.1;rw[d]at this;exact this
   subst U;have p:(tv)=Wz _:=B.2.2.2 d;by_cases t:1<=YL 1000 (hd ts.tail).txt
   .have x:=i.1.1 t;rw[<-p]at x;have V:=x.1;have K:=x.2;have Z:Hid<|T0 _=.ok _:=I<|by unfold T0;rw[Ye ⟨d,t⟩,i.2 t,<-p]
    have HD:Hid<|¬((hd ts.tail).jj=0∨(hd ts.tail).jj=5):=I X;obtain⟨rc0,rc1,rfz,rcx⟩:=g.rd.all;have a6:=g.lt;have a7:=g.len;clear t i p x d B;go_upto_region 8 with fail;refine Zs λW8 q=>?_;have a0:Hid _:=q▸g.step HD.out;have a1:Hid _:=q▸Zn o.out (Or.inl C) _;have a2:Hid<|Ya _ _ _ _:=q▸J.other (by show z.heap.size≠R.b;omega) _;clear q rc0 rc1 rfz rcx t0 J g o;have e3:=a2.cell 3;simp only[Yf]at e3;have W:=I<|a0.below<|(Ym _ _).drew;have Y:=I<|Zi a1<|ZB<|(Ym _ _).drew;go_region_held3 (λu=>u.cell? ⟨z.heap.size,3,none⟩=some (E tv)) (first|exact e9|exact e3|go_keep) (first
     | (go_at_call 293;refine(Qi W.out ⟨#[93]⟩ N N).mono ?_;rintro e w9 ⟨v,rfl,f,L⟩;have e9:w9.cell? ⟨z.heap.size,3,none⟩=some (E tv):=(PD (a:=⟨z.heap.size,3,none⟩)<|L.block _ (Xi _ _ e3)<|by simp;omega).trans e3;have a3:Hid<|w.grownBy w9<|some R.b:=Zi Y.out L;clear L));all_goals
     go_wp2;go_ret2;refine⟨_,_,C,?_,a3⟩;rw[A,Z];show Hid<|U4 R _ _ (bnd (Zf [93] ts.tail.tail) _) _;rcases P8 [93] ts.tail.tail with⟨_,c⟩|⟨_,c⟩
     .obtain⟨s,h2,_⟩:=f.good c;rw[c];exact⟨s,h2,C⟩
     .have:=f.err c;rw[c];exact this
   .have j:Hid<|Ub ts=.error (2,(hd ts.tail).at_):=by rw[A];unfold T0;rw[Yd λh=>t h.2];rfl
    have x:(tv:Int)<1∨1000<(tv:Int):=by
     rw[p];by_cases s:1<=Wz (hd ts.tail).txt/\Wz (hd ts.tail).txt<=1000
     .exact absurd (i.1.2 s) t
     .omega
    by_cases V:(tv:Int)<1;all_goals
     have K:¬(tv:Int)<1->1000<(tv:Int):=X;clear x;try have a8:=K V
     clear K;go_wp2_with fail;refine(Ox g).mono ?_;rintro e wE ⟨v,rfl,M,l⟩;obtain⟨fa,rfl⟩:=M.shape;have O:=I<|Zi o<|ZB l;clear l;go_wp2;go_ret2;exact⟨_,_,C,by rwa [j.out],O⟩
  .have U:((kd:Int) !=0)=true:=by
    rw[Vg];intro e;exact d<|(P3 g.wf.head.2.2).2.2.2.1.1<|by have:=B.1;simp only at this;omega
   have j:Hid<|Ub ts=.error (2,(hd ts.tail).at_):=by rw[A];unfold T0;rw[Yd λh=>d h.1];rfl
   clear i B d;go_wp2_with fail;refine(Ox g).mono ?_;rintro e wE ⟨v,rfl,M,l⟩;obtain⟨fa,rfl⟩:=M.shape;have O:=I<|Zi o<|ZB l;clear l;go_wp2;go_ret2;exact⟨_,_,C,by rwa [j.out],O⟩
 .have j:Hid<|Ub ts=.error (2,(hd ts).at_):=by unfold Ub;rw[c];rfl
  have M:=I<|f.err c;obtain⟨fa,rfl⟩:=M.shape;clear f c s;go_wp2;go_ret2;exact⟨_,_,C,by rwa [j.out],P⟩
end
section
attribute [local go_sem ↓] Go.wp_at_zero Go.wp_at_succ
theorem yC(h:RK w R k ts){M:BA}(o:Nat)(S:bl M=WN.getD o []):
 CP 279 #[Vp R.b,.string M] w λe u=>∃(pv v:Value),e=.returned (.tuple #[pv,v])/\Le pv/\Hid (U4 R (λu t=>Zo u t pv) u (Xu o ts) v)/\w.grownBy u (some R.b):=by
 have H:=I h;have T:=I S;have b3:=(Xr.1 h.rd.cells).1;go_enter func279,ntmps279;go_wp2_with fail;refine(Qi H _ N N).mono ?_;rintro e w1 ⟨v,rfl,c,hg⟩;have B:=I hg;rcases P8 [40] ts with⟨O,d⟩|⟨O,d⟩
 .obtain⟨rfl,⟨k1,U⟩,_⟩:=c.good d;have V:=I U;have D:Hid<|Xu o ts=bnd (YP ts.tail) λp r=>bnd (Ub r) λn r=>bnd (Zf [41] r) λ_ r=>.ok (TX ⟨2,o,n,p.name,p.kq,[]⟩,r):=by rw[At,d];rfl
  go_wp2_with fail;refine(A4 V).mono ?_;rintro e z ⟨nm,la,ln,lc,v,rfl,c,W⟩;have m:=I<|Zi B W;have b4:R.b<z.heap.size:=by have:=m.size;omega
  cases i:YP ts.tail with
  |error er=>
   have l:=I<|c.err i;obtain⟨fa,rfl⟩:=l.shape;have f:Hid<|Xu o ts=.error er:=by rw[D,i];rfl
   go_wp2;go_ret2;exact⟨_,_,C,.inl C,f.out▸l.below Yc,Vh m _⟩
  |ok pr=>
   obtain⟨nd,r2⟩:=pr;obtain⟨rfl,⟨k2,Y⟩,Z,a0⟩:=c.good i;have F:Hid<|Xu o ts=bnd (Ub r2) λn r=>bnd (Zf [41] r) λ_ r=>.ok (TX ⟨2,o,n,nd.name,nd.kq,[]⟩,r):=by rw[D,i];rfl
   have a1:=I Z;have a2:=I a0;have a3:=I Y;go_wp2_with fail;refine Zv λW3 G=>?_;have q:Below _ _ _:=G▸Yc;have a4:Hid<|Ya _ _ _ 229:=G▸YO;have a5:=I<|Zi m<|ZB q;have J:=I<|a3.below q;have a6:=I<|a2.below q;refine(yB J).mono ?_;rintro e w4 ⟨n,v,rfl,c,s⟩;have K:=I<|Zi a5 s;have a7:=I<|a6.read J s;have L:=I<|a4.grown s<|by simp;omega
   cases j:Ub r2 with
   |error er=>
    have l:=I<|c.err j;obtain⟨fa,rfl⟩:=l.shape;have f:Hid<|Xu o ts=.error er:=by rw[F,j];rfl
    go_wp2;go_ret2;exact⟨_,_,C,.inl C,by rwa [f.out],K⟩
   |ok pr=>
    obtain⟨n',r4⟩:=pr;obtain⟨rfl,⟨k4,a8⟩,hn⟩:=c.good j;subst hn;have a9:Hid<|Xu o ts=bnd (Zf [41] r4) λ_ r=>.ok (TX ⟨2,o,n,nd.name,nd.kq,[]⟩,r):=by rw[F,j];rfl
    have b0:=I a8;have e0:=L.cell 0;have e1:=L.cell 1;simp only[Yf]at e0 e1;have x:=I<|b0.below<|(Ym _ _).drew;have P:=I<|Zi K<|ZB<|(Ym _ _).drew;have Q:=I<|a7.below<|(Ym _ _).drew;go_upto_region 10 with fail;go_region_held3 (λu=>u.cell? ⟨z.heap.size,0,none⟩=some (.string nm)/\u.cell? ⟨z.heap.size,1,none⟩=some (.slice la ln lc)) (first|exact⟨e90,e91⟩|exact⟨e0,e1⟩|go_keep) (first
     | (go_at_call 293;refine(Qi x.out ⟨#[41]⟩ N N).mono ?_;rintro e A ⟨v,rfl,c,g⟩;have e90:A.cell? ⟨z.heap.size,0,none⟩=some (.string nm):=(PD (a:=⟨z.heap.size,0,none⟩)<|g.block _ (Xi _ _ e0)<|by simp;omega).trans e0;have e91:A.cell? ⟨z.heap.size,1,none⟩=some (.slice la ln lc):=(PD (a:=⟨z.heap.size,1,none⟩)<|g.block _ (Xi _ _ e1)<|by simp;omega).trans e1;have b1:Hid<|w.grownBy A<|some R.b:=Zi P.out g;have b2:Hid<|Z0 A (.slice la ln lc) nd.kq:=Q.read x.out g;clear g));all_goals
     go_wp2;go_ret2;refine⟨_,_,C,.inr ⟨_,_,C⟩,?_,b1⟩;rw[a9];rcases P8 [41] r4 with⟨_,d⟩|⟨_,d⟩
     .obtain⟨O,h2,_⟩:=c.good d;rw[d];exact⟨O,h2,.inr<|.inr<|.inl ⟨C,M,nm,la,ln,lc,C,T,a1,b2⟩⟩
     .have:=c.err d;rw[d];exact this
 .have f:Hid<|Xu o ts=.error (2,(hd ts).at_):=by rw[At,d];rfl
  have l:=I<|c.err d;obtain⟨fa,rfl⟩:=l.shape;go_wp2;go_ret2;exact⟨_,_,C,.inl C,by rwa [f.out],B⟩
end
section
def PM(f:FuncId)(args:Nat->List Value)(P:List Yg->Nat->Yl Tr)(ok:List Yg->Prop):Prop:=∀(w:World)(R:RS)(k:Nat)(ts:List Yg)(deep:Nat),RK w R k ts->deep<=20->ok ts->
 CP f ⟨Vp R.b::args deep⟩ w λe w'=>∃(pv v:Value),e=.returned (.tuple #[pv,v])/\Le pv/\Hid (U4 R (λw' t=>Zo w' t pv) w' (P ts deep) v)/\w.grownBy w' (some R.b)
theorem uP (P:PM 217 (λd=>[E 0,E (d+1:Nat)]) (rec 0) λts=>ts.length<m):
 PM 275 (λd=>[E (d+1:Nat)]) (Z9 rec) λts=>ts.length<=m:=by
  intro w R k ts deep h hd u;have H:=I h;have Q:=I hd;have S:=I u;go_enter func275,ntmps275;go_wp2_with fail;refine(Qi H _ N N).mono ?_;rintro e V ⟨v,rfl,c,T⟩;have j:=I T;rcases P8 [40] ts with⟨q,f⟩|⟨q,f⟩
  · obtain⟨rfl,⟨k1,x⟩,_⟩:=c.good f;have A:=I x;have l:Hid<|Z9 rec ts deep=bnd (rec 0 ts.tail deep) λa r=>bnd (Zf [41] r) λ_ r=>.ok (a,r):=by unfold Z9;rw[f];rfl
    go_wp2_with fail;refine(P _ R _ _ _ A Q<|by show ts.tail.length<m;have:=H.pos;have:=S.out;rw[Rz];omega).mono ?_;rintro e z ⟨pv,v,rfl,B,c,D⟩;have n:=I<|Zi j D;cases g:rec 0 ts.tail deep with
   |error er=>
    have s:=I<|c.err g;obtain⟨fa,rfl⟩:=s.shape;have i:Hid<|Z9 rec ts deep=.error er:=by rw[l,g];rfl
    go_wp2;go_ret2;exact⟨_,_,C,.inl C,by rwa [i.out],n⟩
   |ok pr=>
    obtain⟨t,r2⟩:=pr;obtain⟨rfl,⟨k2,F⟩,G⟩:=c.good g;have J:Hid<|Z9 rec ts deep=bnd (Zf [41] r2) λ_ r=>.ok (t,r):=by rw[l,g];rfl
    have o:=I F;have K:=I G;go_wp2_with fail;refine(Qi o _ N N).mono ?_;rintro e W ⟨v,rfl,c,p⟩;have L:=I<|Zi n p;have M:=I<|K.read o p;have O:=I B;go_wp2;go_ret2;refine⟨_,_,C,O,?_,L⟩;rw[J];rcases P8 [41] r2 with⟨_,f⟩|⟨_,f⟩
    .obtain⟨q,U,_⟩:=c.good f;rw[f];exact⟨q,U,M⟩
    .have:=c.err f;rw[f];exact this
  · have i:Hid<|Z9 rec ts deep=.error (2,(LS.hd ts).at_):=by unfold Z9;rw[f];rfl
    have s:=I<|c.err f;obtain⟨fa,rfl⟩:=s.shape;go_wp2;go_ret2;exact⟨_,_,C,.inl C,by rwa [i.out],j⟩
theorem DL (rec:Nat->List Yg->Nat->Yl Tr)(g:Nat)(ts:List Yg)(deep:Nat):Tg rec g ts deep=bnd (Zf UZ ts) λ_ r=>bnd (bnd (Zf [40] r) λ_ r=>ZI (Zk 2) [41] (r.length+1) [] r) λns r=>bnd (Z9 rec r deep) λa r=>.ok (.node 0 0 ⟨5,g,0,[],[],ns⟩ a .nil,r):=by
 unfold Tg;cases c:Zf UZ ts with
 |error e=>rfl
 |ok p1=>
  obtain⟨a1,r1⟩:=p1;simp only[bnd];cases d:Zf [40] r1 with
  |error e=>rfl
  |ok p2=>rfl
theorem nY (h:(bnd (Zf [40] ts) λ_ r=>ZI (Zk 2) [41] (r.length+1) [] r)=.ok (ns,r)):r.length<=ts.length:=by
 have l:∀(n:Nat)(acc:List _)(ts:List _)(z:List _×List _),ZI (Zk 2) [41] n acc ts=.ok z->z.2.length<=ts.length:=by
  intro n;induction n with
  |zero=>intro acc ts z h;cases h
  |succ n ih=>
   intro acc ts z h;by_cases j:Yk [41] (hd ts)=true
   .rw[Fq j]at h;cases h;simp
   · have f:=Qt.2 j;by_cases k:acc=[]
     .subst k;rw[Fs f]at h;cases d:Zk 2 ts with
      |error e=>rw[d]at h;cases h
      |ok p=>
       obtain⟨a,r⟩:=p;rw[d]at h;have g:=ih _ _ _ h;have i:=KJ d;subst i;simp at g;omega
     · rw[Ft f k]at h;rcases P8 [44] ts with⟨_,c⟩|⟨_,c⟩
       .rw[c]at h;simp only[bnd]at h;cases d:Zk 2 ts.tail with
        |error e=>rw[d]at h;cases h
        |ok p=>
         obtain⟨a,r⟩:=p;rw[d]at h;have g:=ih _ _ _ h;have i:=KJ d;subst i;simp at g;omega
       .rw[c]at h;cases h
 rcases P8 [40] ts with⟨_,c⟩|⟨_,c⟩
 .rw[c]at h;have:=l _ _ _ _ h;simp at this;omega
 .rw[c]at h;cases h
theorem qN (W:PM 275 (λd=>[E (d+1:Nat)]) (Z9 rec) λts=>ts.length<=m){x:BA}(g:Nat)(D:bl x=Wu.getD g []):
 PM 277 (λd=>[.string x,E (d+1:Nat)]) (Tg rec g) λts=>ts.length<=m:=by
  intro w R k ts deep h hd F;have H:=I h;have G:=I D;have Y:=I hd;have Z:=I F;go_enter func277,ntmps277;go_wp2_with fail;refine(fP H N N).mono ?_;rintro e w1 ⟨v,rfl,c,hg⟩;have l:=I hg;rcases P8 UZ ts with⟨A,f⟩|⟨A,f⟩
  · obtain⟨rfl,⟨k1,J⟩,_⟩:=c.good f;have K:=I J;have n:Hid<|Tg rec g ts deep=bnd (bnd (Zf [40] ts.tail) λ_ r=>ZI (Zk 2) [41] (r.length+1) [] r) λns r=>bnd (Z9 rec r deep) λa r=>.ok (.node 0 0 ⟨5,g,0,[],[],ns⟩ a .nil,r):=by rw[DL,f];rfl
    go_wp2_with fail;refine(nZ K N N).mono ?_;rintro e z ⟨la,ln,lc,v,rfl,c,L⟩;have o:=I<|Zi l L;cases i:(bnd (Zf [40] ts.tail) λ_ r=>ZI (Zk 2) [41] (r.length+1) [] r)with
   |error er=>
    have B:=I<|c.err i;obtain⟨fa,rfl⟩:=B.shape;have j:Hid<|Tg rec g ts deep=.error er:=by rw[n,i];rfl
    go_wp2;go_ret2;exact⟨_,_,C,.inl C,by rwa [j.out],o⟩
   |ok pr=>
    obtain⟨ns,r2⟩:=pr;obtain⟨rfl,⟨k2,M⟩,O⟩:=c.good i;have P:Hid<|Tg rec g ts deep=bnd (Z9 rec r2 deep) λa r=>.ok (.node 0 0 ⟨5,g,0,[],[],ns⟩ a .nil,r):=by rw[n,i];rfl
    have p:=I M;have Q:=I O;have S:Hid<|r2.length<=m:=I<|by have:=nY i;have:=Z.out;rw[Rz]at*;omega
    go_wp2_with fail;refine(W _ R _ _ _ p Y S).mono ?_;rintro e w3 ⟨pv,v,rfl,T,c,q⟩;have U:=I<|Zi o q;have V:=I<|Q.read p q;rcases T with rfl|⟨ty,u,rfl⟩;all_goals
     go_wp2;go_ret2;refine⟨_,_,C,.inr ⟨_,_,C⟩,?_,U⟩;rw[P];cases s:Z9 rec r2 deep with
     |error er=>exact c.err s
     |ok pr=>
      obtain⟨t,r3⟩:=pr;obtain⟨A,h2,h3⟩:=c.good s;exact⟨A,h2,.inr<|.inr<|.inr<|.inr<|.inl ⟨C,x,la,ln,lc,_,C,G,V,h3⟩⟩
  · have j:Hid<|Tg rec g ts deep=.error (2,(LS.hd ts).at_):=by rw[DL,f];rfl
    have B:=I<|c.err f;obtain⟨fa,rfl⟩:=B.shape;go_wp2;go_ret2;exact⟨_,_,C,.inl C,by rwa [j.out],l⟩

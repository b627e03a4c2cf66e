/- Parts. -/
import Derived.Test.YtcdgkkfipdoeeaaGreatDoorT25
set_option linter.all false
set_option maxRecDepth 100000
set_option maxHeartbeats 16000000
namespace Go.Proofs.YtcdgkkfipdoeeaaGreatDoor
open Go.RowKit LS Go.Proofs.Tryz
section
variable {jx nodes':List Nq} {g g' g1:Gq} {z:Nq} {i j k n x y:Nat}
theorem ZlK{z:Nq} : ∀ {l:List Nq} {i:Nat},idxN z l=some i->l.getD i nq0=z
 | [],_,h=>by cases h
 | y :: l, i, h => by
   unfold idxN at h;split at h
   · injection h with h;subst h;assumption
   · rw[Ybk]at h
     obtain⟨j,a,d⟩:=h;subst d;rw[Yee];exact ZlK a
theorem Zg3(h:jx <+: nodes')(a:n<jx.length):nodes'.getD n nq0=jx.getD n nq0:=by
 obtain⟨t,rfl⟩:=h;rw[Yaa,Yaa,Ybr a]
theorem Zlg(a:NOk jx)(h:jx <+: nodes'):∀(f n:Nat),n<jx.length->Zcl nodes' f n=Zcl jx f n
 | 0,_,_=>rfl
 | f + 1, n, d => by
   unfold Zcl;rw[Zg3 h d,Ycb (fun t e=>Zlg a h f t (by have:=Zcf a n t e;omega))]
structure PB (g g':Gq) (i k:Nat):Prop where
 ok:NOk g'.jx
 pre:g.jx <+: g'.jx
 lt:i<g'.jx.length
 co:Zcl g'.jx (i+1) i<=k
theorem PB.mono(h:PB g g' i k)(a:k<=j):PB g g' i j:=⟨h.ok,h.pre,h.lt,Yah h.co a⟩
theorem PB.after(h:PB g1 g' i k)(a:g.jx <+: g1.jx):PB g g' i k:=⟨h.ok,a.trans h.pre,h.lt,h.co⟩
theorem NOk.app (a : NOk jx) (e : NOne jx.length z) : NOk (jx ++ [z]) := fun i d => by
  rw[List.getElem_append];split
  · rename_i h;exact a i h
  · rename_i h
    have:i=jx.length:=by rw[Yab]at d;simp at d;omega
    simp_all
theorem Zfe (a : NOk g.jx) (l : NOne g.jx.length z) : PB g (addQ z g).2 (addQ z g).1 (4 + ((Zg z).map (fun t => Zcl g.jx (t + 1) t)).sum) := by
  by_cases h:g.share=true/\∃i,idxN z g.jx=some i
  · obtain⟨e,i,f⟩:=h
    rw[Zhq e f];exact⟨a,Ya8 _,ZlL f,by rw[Zi3 a,ZlK f];omega⟩
  · have e : g.share = true -> idxN z _ = none := fun e => by
      cases p:idxN z g.jx with
      | none=>rfl
      | some i=>simp_all
    rw[Zgz e];have d:=a.app l;have m:g.jx <+: g.jx++[z]:=Ydd _ _;refine⟨d,m,by simp,?_⟩;show Zcl (g.jx++[z]) (g.jx.length+1) g.jx.length<=_;rw[Zi3 d,show(g.jx++[z]).getD _ _=z by simp,Ycb (fun t o=>Zlg a m _ t (l.low t o))];omega
theorem Zlf(a:NOk g.jx){v:Int}(d:vOk v):PB g (Zdw v g).2 (Zdw v g).1 4:=Zfe a (Zrp d)
theorem Zqk(a:NOk g.jx){v:Int}(d:n<g.jx.length)(h:Zco n g=some v):vOk v:=by
 rw[Zie h];exact a.vok d
theorem Zzh(a:NOk g.jx)(d:n<g.jx.length):PB g (negQ n g).2 (negQ n g).1 (4+Zcl g.jx (n+1) n):=by
 unfold negQ;split
 ·rename_i v e;have:=Zqk a d e;exact(Zlf a ⟨by have:=this.2;omega,by have:=this.1;omega⟩).mono Om
 ·have h:=Zfe (z:=⟨4,0,some n,none⟩) a (ZgY Dc d Dc Dc)
  assumption
theorem ZAb(a:NOk g.jx)(d:x<g.jx.length)(e:y<g.jx.length){o:Nat}(l:o<=4):PB g (Zbs o x y g).2 (Zbs o x y g).1 (4+(Zcl g.jx (x+1) x+Zcl g.jx (y+1) y)):=by
 unfold Zbs;split
 ·rename_i u v f m;exact(Zlf a (Zhj o u v (Zqk a d f))).mono Om
 ·have h:=Zfe (z:=⟨3,o,some x,some y⟩) a (ZjR Dc d e Om Om)
  assumption
theorem ZrD(a:NOk g.jx)(f:g.jm.length<=1000000)(q:Nd×Nat):PB g (ZJ q g).2 (ZJ q g).1 4:=by
 unfold ZJ;split
 ·rename_i i e;have d:=Zjh e;rw[Yak]at d;exact Zfe a (ZjS Dc Om Om)
 ·have h:=Zfe (g:={ g with jm:=g.jm++[q] }) (z:=⟨1,(g.jm.length),none,none⟩) a (ZjS Dc Om Om);exact⟨h.ok,h.pre,h.lt,h.co⟩
theorem ZjU:∀(t:Tr) (g:Gq),wfT t->isNil t=false->NOk g.jx->g.jm.length+wT t<=400000->g.ky.length+wT t<=400000->PB g (Zb t g).2 (Zb t g).1 (wT t / 3)
 | .nil,_,_,h,_,_,_=>by cases h
 | .node px py a l r, g, o, _, d, C, D => by
   have K:=o;obtain⟨P,E,Q,F,S,G,H,I,T,M,s,J⟩:=o;have N:=Zmz a;have u:wT (.node px py a l r)=ownW a+wT l+wT r:=rfl;rw[u]at C D ⊢;have v:=ZjU l;have w:=ZjU r;unfold Zb;split
   · exact(Zlf d ⟨by omega,G⟩).mono Om
   · rename_i k0
     split
     · exact(ZrD d Om _).mono Om
     · rename_i k1
       split
       · have p:=ZrD d Om (Zba a,a.n.toNat)
         have q:=Zfe (z:=⟨2,a.op,some _,none⟩) p.ok (ZgY Dc p.lt Om Om);have q':=q.after p.pre;have pc:=p.co;simp only[Zg,Ybb,Ydg,Yd2,Ye0]at q';exact q'.mono Om
       · rename_i k2
         have A:=H Om;have L:=v g s A d Om Om;have Lc:=L.co;have Ls:=(Zew l g s).1;split
         · exact((Zzh L.ok L.lt).after L.pre).mono Om
         · rename_i k3
           split
           · rename_i k5
             have f:=Zje a.by_ (Zb l g).2;have gn:=f.2.2;have gi:=f.2.1;have Lr:=Ls.r1;have O:=F k5;have q:=Zfe (z:=⟨5+a.op,(Zbd a.by_ (Zb l g).2).1,some _,none⟩) (gn▸L.ok) (ZgY Om (gn▸L.lt) Om Om);have q':=q.after (gn▸L.pre);simp only[Zg,Ybb,Ydg,Yd2,Ye0,gn]at q';exact q'.mono Om
           · rename_i k5
             have B:=I Om;have R:=w _ J B L.ok (by have:=Ls.s1;omega) (by have:=Ls.r1;omega);have Rc:=R.co;have m:=Yaw L.lt R.pre.length_le;have U:=Zlg L.ok R.pre ((Zb l g).1+1) _ L.lt;have e:=L.pre.trans R.pre;simp only;split
             · have q:=(Zfe (z:=⟨10,0,some _,some _⟩) R.ok (ZjR Dc m R.lt Dc Dc)).after e
               simp only[Zg,Ybb,Ydg,Yd2,Ye0]at q;exact q.mono Om
             · exact((ZAb R.ok m R.lt E).after e).mono Om
def CI(c:Cq):Prop:=c.jq.length<=c.jz.length
variable {W:Nat->Cq->Cq} {c:Cq}
theorem ZfU(h:CI c)(op arg:Nat):CI (Zc op arg c):=by unfold CI at *;simp[Zc];omega
theorem Zod(h:CI c)(n s:Nat):CI (ZZ n s c):=ZfU h _ s
theorem ZhU(e:∀z c,CI c->CI (W z c))(h:CI c):CI (putQ jx W n c):=by
 cases a:ZK n c.jy with
 | some s=>
  rw[Zd8 a];split
  ·exact ZfU h _ s
  ·exact ZfU h _ s
 | none=>
  rw[ZdR a];have d:=e n (decL n c) h;split
  ·exact d
  ·split
   ·exact ZfU (Zod d _ _) _ _
   omega
theorem Zob(a:∀z c,CI c->CI (W z c)):∀(k:Nat) (c:Cq),CI c->CI (ZG jx W n k c)
 | 0,c,h=>h
 | k + 1, c, h => by
   unfold ZG;split
   · rename_i z s _ _
     exact Zob a k _ (Zod (a z { c with jy:=c.jy.set s _ } h) z s)
   omega
theorem ZuB(a:∀z c,CI c->CI (W z c))(h:CI c):CI (Zbo jx W x y c):=by
 have d:=ZhU (jx:=jx) (n:=y) a (ZfU (ZfU (ZhU (jx:=jx) (n:=x) a (Zob (jx:=jx) (n:=y) a (y+2) c h)) 10 0) 11 0);unfold Zbo CI;simp only[Yat];exact d
theorem Zoc (a : ∀ z c, CI c -> CI (W z c)) : ∀ (ts : List Nat) (c : Cq), CI c -> CI (ts.foldl (fun c t => putQ jx W t c) c)
  | [],c,h=>h
  | t::ts,c,h=>by rw[Ybp];exact Zoc a _ _ (ZhU a h)
theorem Zk5:∀(f n:Nat) (c:Cq),CI c->CI (Zr jx f n c)
 | 0,n,c,h=>h
 | f + 1, n, c, h => by
   have a:=fun z c=>Zk5 f z c;unfold Zr;simp only;split
   · exact ZuB a h
   · have d:=Zoc (jx:=jx) a (Zg (jx.getD n nq0)) c h
     generalize(Zg (jx.getD n nq0)).foldl (fun c t=>putQ jx (Zr jx f) t c) c=e at *
     unfold ZbD;split
     · unfold CI at *;simp[Zc];omega
     · exact ZfU d _ _
theorem Zol{t:Tr}(a:wfT t)(d:isNil t=false)(f:wT t<=100000)(fl:Nat):(Zv (Zb t (g0 fl)).2 (Zb t (g0 fl)).1).jz.length<=wT t / 3:=by
 have h:=ZjU t (g0 fl) a d (fun i e=>absurd e (Ya1 _)) (by show 0+wT t<=_;omega) (by show 0+wT t<=_;omega);exact Yah (ZuU h.ok h.lt) h.co
theorem ZuT{t:Tr}(a:wfT t)(d:isNil t=false)(e:wT t<=100000)(fl:Nat):Sml (Zv (Zb t (g0 fl)).2 (Zb t (g0 fl)).1):=by
 have h:=Zol a d e fl;have f:CI (Zv (Zb t (g0 fl)).2 (Zb t (g0 fl)).1):=ZhU (fun z c h=>Zk5 _ z c h) (Yac _);unfold CI at f;constructor<;>omega
end
end Go.Proofs.YtcdgkkfipdoeeaaGreatDoor
namespace Go.Proofs.YtcdgkkfipdoeeaaGreatDoor
open Go.RowKit LS Go.Proofs.Tryz
theorem ZCs {q:LB} : ZkB q := fun t k h _ => by
  obtain⟨c,a,d⟩:=Ze2 h;exact ZuT c a d k
theorem Zu2(s:BA)(fl:Int)(A:Nat->Addr)(m:Int)(w:World)(d:Vars w A m)(f:ZR w)(g:20<=w.heap.size)(a:s.size<=9223372036854775807) :
  Cz 8 #[.string s,Vi fl] w fun e u=>∃(r:BA) (c p:Nat),e=.returned (.tuple #[.string r,Vi c,Vi p])/\Hid (ZcM (bl s) fl=(bl r,c,p))/\BW w u:=Zwo s A m w d f g a (ZCs)
section
variable {jx:List Nq} {W:Nat->Cq->Cq} {c d e:Cq} {n m x y:Nat} {l:List (Nat×Nat)}
abbrev opOk (n:Nat):Prop:=n≠9/\n<=13
structure Fwd (c d:Cq):Prop where
 pre:Pre c d
 fw:∀i,c.jz.length<=i->i<d.jz.length->opOk (d.jz.getD i (0,0)).1/\((d.jz.getD i (0,0)).1=10->i<(d.jz.getD i (0,0)).2)
theorem Zex(h:Pre c d){i:Nat}(a:i<c.jz.length):d.jz.getD i (0,0)=c.jz.getD i (0,0):=by
 obtain⟨t,f⟩:=h;rw[Yaa,Yaa,<-f,Ybr a]
theorem Fwd.refl(c:Cq):Fwd c c:=⟨Pre.refl c,fun i f a=>absurd a Om⟩
theorem Fwd.trans (h : Fwd c d) (q : Fwd d e) : Fwd c e := ⟨h.pre.trans q.pre, fun i f g => by
  rcases Yav i d.jz.length with a|a
  · rw[Zex q.pre a];exact h.fw i f a
  · exact q.fw i a g⟩
theorem Fwd.emit (c : Cq) {op : Nat} (arg : Nat) (h : opOk op /\ op ≠ 10) : Fwd c (Zc op arg c) := ⟨Zb8 op arg c, fun i f a => by
  have:i=c.jz.length:=by simp[Zc]at a;omega
  subst this;have e:(Zc op arg c).jz.getD c.jz.length (0,0)=(op,arg):=by simp[Zc]
  simp_all;omega⟩
theorem Fwd.keep(c:Cq)(n s:Nat):Fwd c (ZZ n s c):=by
 have:=Fwd.emit c (op:=12) s Dc;exact⟨this.pre,this.fw⟩
theorem Zjc(a:∀c,Fwd c (W n c))(c:Cq):Fwd c (putQ jx W n c):=by
 cases f:ZK n c.jy with
 | some s=>
  rw[Zd8 f];have h:=Fwd.emit (decL n c) (op:=13) s Dc;split
  ·exact⟨h.pre,h.fw⟩
  ·exact⟨h.pre,h.fw⟩
 | none=>
  rw[ZdR f];have g:Fwd c _:=⟨(a (decL n c)).pre,(a (decL n c)).fw⟩
  split
  ·exact g
  ·split
   ·exact g.trans ((Fwd.keep _ _ _).trans (Fwd.emit _ _ Dc))
   omega
theorem Zpt(a:∀z c,Fwd c (W z c)):∀(k:Nat) (c:Cq),Fwd c (ZG jx W n k c)
 | 0,c=>Fwd.refl _
 | k + 1, c => by
   unfold ZG;split
   · rename_i z s _ _
     have h:=a z { c with jy:=c.jy.set s (some (-1)) };exact((⟨h.pre,h.fw⟩:Fwd c _).trans (Fwd.keep _ z s)).trans (Zpt a k _)
   · exact Fwd.refl _
theorem Zwn(a:∀z c,Fwd c (W z c)):Fwd c (Zbo jx W x y c):=by
 have k:=ZoR (jx:=jx) (c:=c) (x:=x) (y:=y) (fun z c=>(a z c).pre);refine⟨k,fun i o f=>?_⟩;unfold Zbo at f ⊢;simp only at f ⊢;have f1:=(Zpt (jx:=jx) (n:=y) a (y+2) c).trans (Zjc (jx:=jx) (n:=x) (a x) _);generalize putQ jx W x (ZG jx W y (y+2) c)=c2 at *
 have f2:=Zjc (jx:=jx) (n:=y) (a y) (Zc 11 0 (Zc 10 0 c2));have q:(Zc 11 0 (Zc 10 0 c2)).jz.length=c2.jz.length+2:=by simp[Zc]
 have s:(Zc 11 0 (Zc 10 0 c2)).jz.getD (c2.jz.length+1) (0,0)=(11,0):=by simp[Zc]
 have j:Pre c2 (Zc 11 0 (Zc 10 0 c2)):=(Zb8 10 0 c2).trans (Zb8 11 0 _);generalize Zc 11 0 (Zc 10 0 c2)=c3 at *
 generalize putQ jx W y c3=d at *
 have r:=f2.pre.length_le;rw[Yat]at f
 have p : ∀ i, (d.jz.set c2.jz.length (10, d.jz.length)).getD i (0, 0) = if i = c2.jz.length then (10, d.jz.length) else d.jz.getD i (0, 0) := fun i => by
   rw[Yaa,Ya0];by_cases e:i=c2.jz.length
   · subst e;rw[if_pos rfl,if_pos rfl,if_pos Om];rfl
   split<;>simp_all
 rw[p];by_cases e:i=c2.jz.length
 ·simp_all;omega
 ·rw[if_neg e];rcases Yav i c3.jz.length with g|g
  ·rw[Zex f2.pre g];rcases Yav i c2.jz.length with h|h
   ·rw[Zex j h];exact f1.fw i o h
   ·obtain rfl:i=c2.jz.length+1:=by omega
    simp_all;omega
  ·exact f2.fw i g f
theorem Zpu (a : ∀ z c, Fwd c (W z c)) : ∀ (ts : List Nat) (c : Cq), Fwd c (ts.foldl (fun c t => putQ jx W t c) c)
  | [],c=>Fwd.refl _
  | t::ts,c=>by rw[Ybp];exact(Zjc (a t) c).trans (Zpu a _ _)
theorem Zpv(g:∀n,opOk (jx.getD n nq0).op):∀(f n:Nat) (c:Cq),Fwd c (Zr jx f n c)
 | 0,n,c=>Fwd.refl _
 | f + 1, n, c => by
   have h:=fun z c=>Zpv g f z c;by_cases a:(jx.getD n nq0).op=10
   · unfold Zr;simp only;rw[if_pos a];exact Zwn h
   · rw[Zgu a]
     refine(Zpu (jx:=jx) h (Zg (jx.getD n nq0)) c).trans ?_;generalize(Zg (jx.getD n nq0)).foldl (fun c t=>putQ jx (Zr jx f) t c) c=e at *
     unfold ZbD;split
     · have:=Fwd.emit { e with jq:=e.jq++[(jx.getD n nq0).arg] } (op:=0) e.jq.length Dc
       exact⟨this.pre,this.fw⟩
     · exact Fwd.emit e _ ⟨g n,a⟩
def Led(l:List (Nat×Nat))(i:Nat):Prop:=∀j,i<=j->j<l.length->(l.getD j (0,0)).1=10->(l.getD j (0,0)).2<l.length->(l.getD (l.getD j (0,0)).2 (0,0)).1≠10
def FwL(l:List (Nat×Nat)):Prop:=∀j,j<l.length->(l.getD j (0,0)).1=10->j<(l.getD j (0,0)).2
theorem ZxU(g:FwL l){i:Nat}(z:i<l.length)(h:Led l (i+1)):FwL (ZL l i)/\Led (ZL l i) i/\(ZL l i).length=l.length/\∀j,((ZL l i).getD j (0,0)).1=(l.getD j (0,0)).1:=by
 unfold ZL;split
 ·rename_i r;obtain⟨A,s,t⟩:=r;have f1:=g i z A;have f2:=g _ s t;have C:=h _ f1 s t;generalize D:(l.getD i (0,0)).2=u at *
  generalize E:(l.getD u (0,0)).2=v at *
  have k : ∀ j, (l.set i (10, v)).getD j (0, 0) = if j = i then (10, v) else l.getD j (0, 0) := fun j => by
    rw[Yaa,Ya0];by_cases e:j=i
    · simp_all
    split<;>simp_all
  have o : ∀ j, ((l.set i (10, v)).getD j (0, 0)).1 = (l.getD j (0, 0)).1 := fun j => by
    rw[k];split<;>simp_all
  refine⟨fun j p a=>?_,fun j p a q f=>?_,Yat ..,o⟩
  ·rw[k];rw[o]at a;rw[Yat]at p;split
   ·omega
   ·exact g j p a
  ·rw[o]at q;rw[Yat]at a f;rw[o,k];rw[k]at f;split
   ·simp_all
   ·rename_i e;rw[if_neg e]at f;exact h j Om a q f
 ·rename_i r;refine⟨g,fun j p a q f B=>?_,rfl,fun _=>rfl⟩;rcases Yav i j with w|w
  ·exact h j w a q f B
  ·obtain rfl:j=i:=by omega
   omega
theorem ZqA:∀(k:Nat) (l:List (Nat×Nat)),k<=l.length->FwL l->Led l k->Led (ZcI k l) 0/\(ZcI k l).length=l.length/\∀j,((ZcI k l).getD j (0,0)).1=(l.getD j (0,0)).1
 | 0,l,_,_,h=>⟨h,rfl,fun _=>rfl⟩
 | k + 1, l, p, a, h => by
   obtain⟨f,g,i,o⟩:=ZxU a Om h;obtain⟨q1,q2,q3⟩:=ZqA k (ZL l k) Om f g;exact⟨q1,q2.trans i,fun j=>(q3 j).trans (o j)⟩
theorem ZsI(a:FwL l):Led (Zch l) 0/\(Zch l).length=l.length/\∀j,((Zch l).getD j (0,0)).1=(l.getD j (0,0)).1:=ZqA _ l (Yac _) a (fun j g f=>absurd f Om)
end
end Go.Proofs.YtcdgkkfipdoeeaaGreatDoor
namespace Go.Proofs.YtcdgkkfipdoeeaaGreatDoor.LS
open Go Go.RowKit
def two2(l:LB)(i:Nat):Nat:=256*(l.getD i 0).toNat+(l.getD (i+1) 0).toNat
def atQ(l:LB):Nat->Nat->Option Nat
 | 0,p=>some p
 | k+1,p=>if l.length<p+2 then none else atQ l k (p+2+two2 l p)
def ZFb(l:LB):Option (Nat×Nat):=if l.length<9 then none else match atQ l (two2 l 3+two2 l 5) (9+4*two2 l 1)with
 | none=>none
 | some p=>if p+3*two2 l 7+4=l.length then some (two2 l 7,p)else none
end Go.Proofs.YtcdgkkfipdoeeaaGreatDoor.LS
namespace Go.Proofs.YtcdgkkfipdoeeaaGreatDoor
open Go.RowKit LS Go.Proofs.Tryz
theorem ZGK(l:LB)(i:Nat):two2 l i<65536:=by
 have a:=(l.getD i 0).toNat_lt;have c:=(l.getD (i+1) 0).toNat_lt;unfold two2;omega
theorem ZGE(s:BA)(i:Nat)(h:i<s.size)(W:World):(Instr.index 9 (.string s) (Vi i)).run prog W=.ok (.int .u8 (((bl s).getD i 0).toNat:Nat)) W:=by
 rw[run_index_string W _ s .i64 i underlying9,dif_pos ⟨by omega,by omega⟩];have a:i<s.data.size:=h;simp[bl];rw[Array.getElem?_eq_getElem a];rfl
theorem ZHR(s:BA)(i:Nat)(h:i+1<s.size)(f:s.size<=9223372036854775807)(w:World) :
  Cz 25 #[.string s,Vi i] w fun e u=>e=.returned (Vi (two2 (bl s) i:Nat))/\BW w u:=by
 have i0:=ZGE s i Om;have i1:=ZGE s (i+1) h;have d:Hid (two2 (bl s) i=256*((bl s).getD i 0).toNat+((bl s).getD (i+1) 0).toNat):=hid rfl;have g:=((bl s).getD i 0).toNat_lt;have j:=((bl s).getD (i+1) 0).toNat_lt;rw[show((i+1:Nat):Int)=(i:Int)+1 by omega]at i1;generalize((bl s).getD i 0).toNat=x at *
 generalize((bl s).getD (i+1) 0).toNat=y at *
 have k:IntKind.i64.wrap (256*(x:Int))=256*(x:Int):=by rw[Ybo];omega
 have z:IntKind.i64.wrap ((i:Int)+1)=(i:Int)+1:=by rw[Ybo];omega
 have l:IntKind.i64.wrap (256*(x:Int)+y)=256*(x:Int)+y:=by rw[Ybo];omega
 have m:IntKind.i64.wrap (x:Int)=x:=by rw[Ybo];omega
 have n:IntKind.i64.wrap (y:Int)=y:=by rw[Ybo];omega
 go_enter func25,ntmps25
 go_upto_region 1 with fail
 refine Zbn 11 (fun _=>True) Kr trivial (fun a=>?_);refine Za 0 a (h:=?_);refine Za 1 a (h:=?_);refine Za 2 a (h:=?_);refine Za 3 a (h:=?_);refine Za 4 a (h:=?_);refine Za 5 a (h:=?_);refine Za 6 a (h:=?_);refine Za 7 a (h:=?_);refine Za 8 a (h:=?_);refine Za 9 a (h:=?_);refine Za 10 a (h:=?_);refine Zbl Kr Kr rfl Kr (fun K c=>?_);go_simp;refine c.out _ _ ?_;clear c K a;go_wp2;go_ret;exact⟨by rw[d.out];congr 2,(Yaf _ _).drew⟩
def ZHX(l:LB)(n:Int)(p:Nat):Prop:=(ZFb l=none/\n=-1/\p=0)∨∃q,ZFb l=some q/\n=q.1/\p=q.2
theorem ZGM(s:BA)(Q:s.size<=1000000000000)(w:World) :
  Cz 13 #[.string s] w fun e u=>∃(n:Int) (p:Nat),e=.returned (.tuple #[Vi n,Vi p])/\Hid (ZHX (bl s) n p)/\BW w u:=by
 have a:=hid (fun i I w=>ZHR s i I Om w);have x:Hid ((bl s).length=s.size):=hid (Zd s);by_cases A:s.size<9
 ·have g:Hid (ZFb (bl s)=none):=hid (by unfold ZFb;rw[Zd,if_pos A]);go_enter func13,ntmps13;go_wp2;go_ret2;exact⟨-1,0,rfl,hid (Or.inl ⟨g.out,rfl,rfl⟩),Yaf _ _⟩
 ·have g:Hid (ZFb (bl s)=match atQ (bl s) (two2 (bl s) 3+two2 (bl s) 5) (9+4*two2 (bl s) 1)with
   | none=>none
   | some p=>if p+3*two2 (bl s) 7+4=(bl s).length then some (two2 (bl s) 7,p)else none):=hid (by unfold ZFb;rw[Zd,if_neg A])
  have b1:=ZGK (bl s) 1;have b3:=ZGK (bl s) 3;have b5:=ZGK (bl s) 5;have b7:=ZGK (bl s) 7;have J:=hid (fun w=>a.out 1 Om w);have K:=hid (fun w=>a.out 3 Om w);have L:=hid (fun w=>a.out 5 Om w);have M:=hid (fun w=>a.out 7 Om w);rw[x.out]at g;generalize two2 (bl s) 1=x1 at *
  generalize two2 (bl s) 3=x3 at *
  generalize two2 (bl s) 5=x5 at *
  generalize two2 (bl s) 7=x7 at *
  go_enter func13,ntmps13
  go_wp2_with fail
  refine(J.out _).mono ?_;rintro e y ⟨rfl,l⟩;have B:=hid l;clear l;go_wp2
  go_loopw [4,5] (fun pv iv wr=>∃k p:Nat,k<=x3+x5/\iv=Vi k/\pv=Vi p/\p<=1000000000000+65537/\Hid (atQ (bl s) (x3+x5) (9+4*x1)=atQ (bl s) (x3+x5 - k) p)/\Hid (BW w wr)) (fun _ iv _=>x3+x5 - (intOf iv).toNat)
  case atStart=>exact⟨0,9+4*x1,Yag _,rfl,by go_num,by omega,hid rfl,B⟩
  case round=>
   obtain⟨k,p,R,rfl,rfl,S,v,m⟩:=hrel
   go_wp2_with fail
   refine(K.out _).mono ?_;rintro e z ⟨rfl,o⟩;have q:=hid (m.trans (o.mono m.size));clear o
   go_wp2_with fail
   refine(L.out _).mono ?_;rintro e T ⟨rfl,r⟩;have c:=hid (q.trans (r.mono q.size));clear r;by_cases P:k<x3+x5
   ·have C:(k:Int)<(x3:Int)+x5:=by omega
    have D:Hid (atQ (bl s) (x3+x5 - k) p=if s.size<p+2 then none else atQ (bl s) (x3+x5 - (k+1)) (p+2+two2 (bl s) p)):=hid (by
     rw[show x3+x5 - k=(x3+x5 - (k+1))+1 by omega,atQ,x.out])
    by_cases t:s.size<p+2
    ·have E:(s.size:Int)<(p:Int)+2:=by omega
     have j:Hid (ZFb (bl s)=none):=hid (by rw[g.out,v.out,D.out,if_pos t]);go_wp2;go_ret2;exact⟨-1,0,rfl,hid (Or.inl ⟨j.out,rfl,rfl⟩),c.out⟩
    ·have E:¬(s.size:Int)<(p:Int)+2:=by omega
     have F:Hid (atQ (bl s) (x3+x5 - k) p=atQ (bl s) (x3+x5 - (k+1)) (p+2+two2 (bl s) p)):=hid (by rw[D.out,if_neg t]);have bp:=ZGK (bl s) p;have N:=hid (fun w=>a.out p Om w);generalize two2 (bl s) p=xp at *
     go_wp2_with fail
     refine(N.out _).mono ?_;rintro e O ⟨rfl,d⟩;have f:=hid (c.trans (d.mono c.size));clear d;go_wp2
     go_roundw
     case rel=>exact⟨k+1,p+2+xp,by omega,by go_num,by go_num,by omega,hid (by rw[v.out,F.out]),f⟩
     case measure=>simp[intOf];omega
   ·have C:¬(k:Int)<(x3:Int)+x5:=by omega
    have j:Hid (ZFb (bl s)=if p+3*x7+4=s.size then some (x7,p)else none):=hid (by rw[g.out,v.out,show x3+x5 - k=0 by omega];rfl)
    go_wp2_with fail
    refine(M.out _).mono ?_;rintro e O ⟨rfl,d⟩;have f:=hid (c.trans (d.mono c.size));clear d;by_cases G:p+3*x7+4=s.size
    ·have H:(p:Int)+3*x7+4=s.size:=by omega
     have h:Hid (ZFb (bl s)=some (x7,p)):=hid (by rw[j.out,if_pos G]);go_wp2;go_ret2;exact⟨x7,p,rfl,hid (Or.inr ⟨_,h.out,rfl,rfl⟩),f.out⟩
    ·have H:¬(p:Int)+3*x7+4=s.size:=by omega
     have h:Hid (ZFb (bl s)=none):=hid (by rw[j.out,if_neg G]);go_wp2;go_ret2;exact⟨-1,0,rfl,hid (Or.inl ⟨h.out,rfl,rfl⟩),f.out⟩
section
variable {a b l:LB} {n k:Nat}
theorem ZFg(a l:LB)(i:Nat):(a++l).getD (a.length+i) 0=l.getD i 0:=by
 rw[Yaa,Yb3 (Nat.le_add_right _ _),Nat.add_sub_cancel_left,Yaa]
theorem ZFa(a b:LB)(h:n<65536):two2 (a++(digL n 2++b)) a.length=n:=by
 unfold two2;have e:digL n 2=[UInt8.ofNat (n / 256 % 256),UInt8.ofNat (n % 256)]:=by simp[digL]
 simp_all;omega
theorem Zsm(x:LB):(ZO x).length=x.length+2:=by rfl
theorem ZFf:∀(T:List (LB)) (a b:LB) (k:Nat),(∀x∈T,x.length<65536)->atQ (a++(T.flatMap ZO++b)) (T.length+k) a.length=atQ (a++(T.flatMap ZO++b)) k (a.length+(T.flatMap ZO).length)
 | [],a,b,k,_=>by simp
 | x :: T, a, b, k, h => by
   have c:=h x (Yay ..);have e:a++((x::T).flatMap ZO++b)=(a++ZO x)++(T.flatMap ZO++b):=by simp
   have e2:a++((x::T).flatMap ZO++b)=a++(digL x.length 2++(x++(T.flatMap ZO++b))):=by simp[ZO]
   have t2:two2 (a++((x::T).flatMap ZO++b)) a.length=x.length:=e2▸ZFa a _ c
   have d:¬(a++((x::T).flatMap ZO++b)).length<a.length+2:=by
     rw[Yab,Yab,Ycd,Yab,Zsm];omega
   have ih:=ZFf T (a++ZO x) b k (fun y f=>h y (Yam _ f));rw[<-e,Yab,Zsm]at ih;rw[Yaj,show T.length+1+k=(T.length+k)+1 by omega,atQ,if_neg d,t2,show a.length+2+x.length=a.length+(x.length+2) by omega,ih,Ycd,Yab,Zsm]
   congr 1
   omega
def insB(x:Nat×Nat):LB:=UInt8.ofNat x.1::digL x.2 2
theorem Zxc(l:List (Nat×Nat)):(l.flatMap insB).length=3*l.length:=by
 induction l with
 | nil=>rfl
 | cons x l ih=>rw[Ycd,Yab,ih,Yaj];unfold insB;rw[Yaj,ZbG];omega
theorem Zvd(l:List Int):(l.flatMap Zb0).length=4*l.length:=by
 induction l with
 | nil=>rfl
 | cons x l ih=>rw[Ycd,Yab,ih,Yaj];unfold Zb0;rw[ZbG];omega
def Ze9(q:CodeQ):List (LB):=q.jw.map ZI++q.jv.map commas
def offQ(q:CodeQ):Nat:=9+4*q.jq.length+((Ze9 q).flatMap ZO).length
structure Shrt (q:CodeQ):Prop where
 c:q.jq.length<65536
 s:q.jw.length<65536
 g:q.jv.length<65536
 i:q.jz.length<65536
 t:∀x∈Ze9 q,x.length<65536
theorem Zuc(q:CodeQ):Z2 q=([103]++digL q.jq.length 2++digL q.jw.length 2++digL q.jv.length 2++digL q.jz.length 2++q.jq.flatMap Zb0)++((Ze9 q).flatMap ZO++q.jz.flatMap insB):=by
 unfold Z2 Ze9;simp only[Yds,List.flatMap_map,Yan];rfl
theorem ZEY(q:CodeQ):∃z,z.length=4/\ZbJ q=([103]++digL q.jq.length 2++digL q.jw.length 2++digL q.jv.length 2++digL q.jz.length 2++q.jq.flatMap Zb0)++((Ze9 q).flatMap ZO++(q.jz.flatMap insB++z)):=
 ⟨digL (sumQ (Z2 q)) 4,ZbG _ _,by unfold ZbJ;rw[Zuc];simp⟩
theorem ZEZ(q:CodeQ):(ZbJ q).length=offQ q+3*q.jz.length+4:=by
 obtain⟨z,c,d⟩:=ZEY q;rw[d];unfold offQ;simp only[Yab,ZbG,Zvd,Zxc,c,Ybj];omega
theorem ZFC{q:CodeQ}(h:Shrt q):ZFb (ZbJ q)=some (q.jz.length,offQ q):=by
 have e:=ZEZ q;obtain⟨z,o,d⟩:=ZEY q
 have t1:two2 (ZbJ q) 1=q.jq.length:=by
  have:=ZFa [103] (digL q.jw.length 2++(digL q.jv.length 2++(digL q.jz.length 2++(q.jq.flatMap Zb0++((Ze9 q).flatMap ZO++(q.jz.flatMap insB++z)))))) h.c;rw[d];simpa only[Yan,Ybj] using this
 have t3:two2 (ZbJ q) 3=q.jw.length:=by
  have:=ZFa ([103]++digL q.jq.length 2) (digL q.jv.length 2++(digL q.jz.length 2++(q.jq.flatMap Zb0++((Ze9 q).flatMap ZO++(q.jz.flatMap insB++z))))) h.s;rw[d];simpa only[Yan,Yab,ZbG,Ybj] using this
 have t5:two2 (ZbJ q) 5=q.jv.length:=by
  have:=ZFa ([103]++(digL q.jq.length 2++digL q.jw.length 2)) (digL q.jz.length 2++(q.jq.flatMap Zb0++((Ze9 q).flatMap ZO++(q.jz.flatMap insB++z)))) h.g;rw[d];simpa only[Yan,Yab,ZbG,Ybj] using this
 have t7:two2 (ZbJ q) 7=q.jz.length:=by
  have:=ZFa ([103]++(digL q.jq.length 2++(digL q.jw.length 2++digL q.jv.length 2))) (q.jq.flatMap Zb0++((Ze9 q).flatMap ZO++(q.jz.flatMap insB++z))) h.i;rw[d];simpa only[Yan,Yab,ZbG,Ybj] using this
 have f:atQ (ZbJ q) (q.jw.length+q.jv.length) (9+4*q.jq.length)=some (offQ q):=by
  have j:([103]++digL q.jq.length 2++digL q.jw.length 2++digL q.jv.length 2++digL q.jz.length 2++q.jq.flatMap Zb0).length=9+4*q.jq.length:=by
   simp only[Yab,ZbG,Zvd,Ybj]
  have m:(Ze9 q).length=q.jw.length+q.jv.length:=by simp[Ze9]
  have:=ZFf _ ([103]++digL q.jq.length 2++digL q.jw.length 2++digL q.jv.length 2++digL q.jz.length 2++q.jq.flatMap Zb0) (q.jz.flatMap insB++z) 0 h.t;rw[<-d,j,m]at this;exact this
 unfold ZFb;rw[t1,t3,t5,t7,f,e,if_neg (by unfold offQ;omega)];simp
end
end Go.Proofs.YtcdgkkfipdoeeaaGreatDoor
namespace Go.Proofs.YtcdgkkfipdoeeaaGreatDoor
open Go.RowKit LS Go.Proofs.Tryz
theorem Zyh(l:LB)(j:Nat)(c:UInt8)(r:LB):((lexC l j c r).1.jj=0∨(lexC l j c r).1.jj=5->(lexC l j c r).1.txt=[])/\(¬((lexC l j c r).1.jj=0∨(lexC l j c r).1.jj=5)->(lexC l j c r).1.txt.length+j<=(lexC l j c r).2):=by
 unfold lexC;split
 ·simp only;split
  ·simp_all;omega
  simp
 ·split
  ·simp only;split
   ·simp
   simp_all;omega
  ·split
   ·split
    ·simp
    ·simp only;split
     ·simp_all;omega
     simp
   ·split
    ·simp_all;omega
    ·split
     ·simp_all;omega
     simp
theorem Zyc(l:LB)(i:Nat):((Zk l i).1.jj=0∨(Zk l i).1.jj=5->(Zk l i).1.txt=[])/\(¬((Zk l i).1.jj=0∨(Zk l i).1.jj=5)->(Zk l i).1.txt.length+i<=(Zk l i).2):=by
 unfold Zk;generalize run (fun x=>x == 32) (l.drop i)=k;unfold lexJ;split
 ·simp
 ·rename_i c r _;have h:=Zyh l (i+k) c r
  simp_all;omega
theorem ZqE(l:LB):∀(n i:Nat),i<=l.length->tw (ZN l n i)<=31*(l.length+1 - i)
 | 0,_,_=>Yag _
 | n + 1, i, f => by
   have c:=Zyc l i;have d:=Zig l i f;unfold ZN;split
   · rename_i a
     have e:=c.1 a;simp only[tw,e,Ybq];omega
   · rename_i a
     have e:=c.2 a;have g:=d.1 (fun h=>a (.inl h));have j:=ZqE l n _ d.2;simp only[tw];omega
theorem ZBi{l:LB}{t:Tr}(h:ZD l=.ok t):wT t<=9331:=by
 unfold ZD at h;by_cases c:300<l.length
 ·simp_all
 ·rw[if_neg c]at h;have f:=ZqE l (l.length+1) 0 (Yag _);cases a:Zs (10*(ZN l (l.length+1) 0).length+5) false 0 .nil (ZN l (l.length+1) 0) 0 with
  | error e=>simp_all
  | ok z=>
   obtain⟨t',r⟩:=z;rw[a]at h;have g:=Zfv _ _ _ _ _ _ _ (fun e=>by cases e) a;simp only at h;by_cases d:(hd r).jj=0
   ·rw[if_pos d]at h;by_cases i:Zf t'=0
    ·simp_all
    simp_all;omega
   simp_all
section
variable {g:Gq} {N:Nat}
def TabN(N:Nat)(g:Gq):Prop:=(∀y∈g.jm,ownW y.1<=N)/\∀x∈g.ky,nw x<=N
theorem ZfG(h:TabN N g){z:Nq}:TabN N (addQ z g).2:=by unfold addQ;split <;> exact h
theorem ZC0(h:TabN N g){n:Nat}:TabN N (negQ n g).2:=by unfold negQ;split <;> exact ZfG h
theorem ZC1(h:TabN N g){o x y:Nat}:TabN N (Zbs o x y g).2:=by unfold Zbs;split <;> exact ZfG h
theorem ZsD(h:TabN N g){y:Nd×Nat}(d:ownW y.1<=N):TabN N (ZJ y g).2:=by
 unfold ZJ;split
 ·exact ZfG h
 ·refine ZfG (g:={ g with jm:=g.jm++[y] }) ⟨fun z c=>?_,h.2⟩;rcases Yar.1 c with a|a
  ·exact h.1 z a
  simp_all
theorem ZCZ(h:TabN N g){ns:List (LB)}(c:nw ns<=N):TabN N (Zbd ns g).2:=by
 unfold Zbd;split
 ·exact h
 ·refine⟨h.1,fun z d=>?_⟩;rcases Yar.1 d with a|a
  ·exact h.2 z a
  ·rw[Yap]at a;rw[a];exact Yah (ZhV _) c
theorem Zno:∀(t:Tr) (g:Gq),wT t<=N->TabN N g->TabN N (Zb t g).2
 | .nil,_,_,h=>h
 | .node x y a l r, g, i, h => by
   have j:wT (.node x y a l r)=ownW a+wT l+wT r:=rfl;have k:ownW a=24+a.name.length+cw _+nw _:=rfl
   have d:ownW (Zba a)<=N:=by
     have:ownW (Zba a)<=ownW a:=by unfold ownW Zba;simp[nw]
     omega
   have f:nw a.by_<=N:=by omega
   have c:=fun g h=>Zno l g Om h;have e:=fun g h=>Zno r g Om h;unfold Zb;split
   · exact ZfG h
   · split
     · exact ZsD h d
     · split
       · exact ZfG (ZsD h d)
       · split
         · exact ZC0 (c _ h)
         · split
           · exact ZfG (ZCZ (c _ h) f)
           · simp only
             split
             · exact ZfG (e _ (c _ h))
             · exact ZC1 (e _ (c _ h))
theorem Zla{l:LB}{t:Tr}(h:ZD l=.ok t)(fl:Nat):Shrt (LS.codeOf t fl)/\(LS.codeOf t fl).jz.length<=3110/\0<(LS.codeOf t fl).jz.length:=by
 obtain⟨e,j,f⟩:=Ze2 h;have p:=ZBi h;have u:=Zol e j f fl;have m:CI (Zv (Zb t (g0 fl)).2 (Zb t (g0 fl)).1):=ZhU (fun z c h=>Zk5 _ z c h) (Yac _)
 have n:(LS.codeOf t fl).jz.length=(Zv (Zb t (g0 fl)).2 (Zb t (g0 fl)).1).jz.length:=by
  show(if 4<=fl then Zch _ else _).length=_;split
  ·exact(ZiE _ _ (Zi2 _ _)).2
  ·rfl
 have i:=(Zew t (g0 fl) e).1;have e1:(g0 fl).jm.length=0:=rfl;have e2:(g0 fl).ky.length=0:=rfl;have q:=Zkj t (g0 fl) e f ⟨fun y a=>(by cases a),fun y a=>(by cases a)⟩;have o:=Zno t (g0 fl) p ⟨fun y a=>(by cases a),fun y a=>(by cases a)⟩;refine⟨⟨?_,?_,?_,by omega,fun x d=>?_⟩,by omega,n▸Zoo _ _⟩
 ·have:(LS.codeOf t _).jq.length<=(Zv _ _).jz.length:=m;omega
 ·have:=i.s1;show(Zb t (g0 fl)).2.jm.length<_;omega
 ·have:=i.r1;show(Zb t (g0 fl)).2.ky.length<_;omega
 ·unfold Ze9 at d;rcases Yar.1 d with d|d
  ·obtain⟨y,a,rfl⟩:=Ybe.1 d;have k:=q.1 y a;have v:=o.1 y a;have r:=Zfy _ 1 k.wf;rw[Zm5 y k.jj]at r;have s:wT (Zbg y.1)=ownW _:=rfl;unfold ZI;have e10:(10) ^ (9+1)=10000000000:=by decide
   have hd:(decS _).length<=10:=ZhZ 9 y.2 (by rw[e10];have:=k.len;omega);rw[Yab];split
   ·simp_all;omega
   simp_all;omega
  ·obtain⟨y,a,rfl⟩:=Ybe.1 d;have:=o.2 y a;have:=ZeS y;omega
end
end Go.Proofs.YtcdgkkfipdoeeaaGreatDoor
namespace Go.Proofs.YtcdgkkfipdoeeaaGreatDoor
open Go.RowKit LS Go.Proofs.Tryz
def jmpB(b:UInt8):Bool:=decide (b.toNat=9∨b.toNat=10)
theorem ZHy (b : UInt8) (w : World) : Cz 26 #[.int .u8 (b.toNat : Nat)] w fun e u => e = .returned (.bool (jmpB b)) /\ u = w := by
  have c:Hid (jmpB b=decide (b.toNat=9∨b.toNat=10)):=hid rfl;generalize b.toNat=x at *
  by_cases d:x=9
  · subst d
    go_enter func26,ntmps26;go_wp2;go_ret;exact⟨by rw[c.out];rfl,rfl⟩
  · have g:¬(x:Int)=9:=by omega
    by_cases a:x=10
    · subst a
      go_enter func26,ntmps26;go_wp2;go_ret;exact⟨by rw[c.out];rfl,rfl⟩
    · have f:¬(x:Int)=10:=by omega
      go_enter func26,ntmps26;go_wp2;go_ret;exact⟨by rw[c.out,show decide (x=9∨x=10)=false by simp[d,a]];first|rfl|(congr 2;simp;omega),rfl⟩
theorem ZHx{l:LB}{n p:Nat}(h:ZFb l=some (n,p)):p+3*n+4=l.length:=by
 unfold ZFb at h;split at h
 ·cases h
 ·split at h
  ·cases h
  ·split at h
   ·rename_i e;injection h with h;injection h with h1 h2;subst h1 h2;exact e
   ·cases h
theorem ZIH(s:BA)(n p:Nat)(g:ZFb (bl s)=some (n,p))(Q:1<=n)(G:s.size<=1000000000000)(l:∀i,i<n->jmpB ((bl s).getD (p+3*i) 0)=true->two2 (bl s) (p+3*i+1)<n->jmpB ((bl s).getD (p+3*two2 (bl s) (p+3*i+1)) 0)=false)(w:World) :
  Cz 15 #[.string s] w fun e u=>e=.returned (.bool true)/\BW w u:=by
 have H:=ZHx g;rw[Zd]at H;have R:n<=1000000000000:=by omega
 have m:=hid (ZGM s G);have o:=hid g;have r:=hid (fun i I w=>ZHR s i I Om w);have J:=hid l;clear g l;go_enter func15,ntmps15
 go_wp2_with fail
 refine(m.out _).mono ?_;rintro e y ⟨n',p',rfl,t,d⟩
 obtain⟨rfl,rfl⟩:n'=n/\p'=p:=by
  rcases t.out with h|⟨q,h,K,L⟩
  ·rw[o.out]at h;cases h.1
  ·rw[o.out]at h;injection h with h;subst h;exact⟨K,L⟩
 have v:=hid d;clear d t m;go_wp2
 go_loopw [5] (fun iv wr=>∃k:Nat,k<=n/\iv=Vi k/\Hid (BW w wr)) (fun iv _=>n - (intOf iv).toNat)
 case atStart=>exact⟨0,Yag _,rfl,v⟩
 case round=>
  obtain⟨k,S,rfl,a⟩:=hrel;by_cases x:k<n
  ·have A:(k:Int)<n:=by omega
   have M:=hid (fun w=>r.out (p'+3*k+1) Om w);have T:=ZGK (bl s) (p'+3*k+1);have B:=hid (J.out k x);have i0:=ZGE s (p'+3*k) Om;have C:=hid (fun w=>ZHy ((bl s).getD (p'+3*k) 0) w);rw[show((p'+3*k:Nat):Int)=(p':Int)+3*k by omega]at i0;generalize two2 (bl s) (p'+3*k+1)=tt at *
   generalize(bl s).getD (p'+3*k) 0=b0 at *
   go_wp2_with fail
   have e1:(p':Int)+3*k+1=((p'+3*k+1:Nat):Int):=by omega
   rw[e1];clear e1;refine(M.out _).mono ?_;rintro e z ⟨rfl,f⟩;have c:=hid (a.trans (f.mono a.size));clear f
   go_wp2_with fail
   refine(C.out _).mono ?_;rintro e U ⟨rfl,rfl⟩;by_cases j:jmpB b0=true
   ·rw[j];by_cases N:tt<n
    ·have D:(tt:Int)<n:=by omega
     have i2:=ZGE s (p'+3*tt) Om;have E:=hid (fun w=>ZHy ((bl s).getD (p'+3*tt) 0) w);have O:=B.out j N;rw[show((p'+3*tt:Nat):Int)=(p':Int)+3*tt by omega]at i2;generalize(bl s).getD (p'+3*tt) 0=b2 at *
     go_wp2_with fail
     refine(E.out _).mono ?_;rintro e V ⟨rfl,rfl⟩;rw[O];go_wp2
     go_roundw
     case rel=>exact⟨k+1,by omega,by go_num,c⟩
     case measure=>simp[intOf];omega
    ·have D:¬(tt:Int)<n:=by omega
     go_wp2
     go_roundw
     case rel=>exact⟨k+1,by omega,by go_num,c⟩
     case measure=>simp[intOf];omega
   ·have F:jmpB b0=false:=by simpa using j
    rw[F];go_wp2
    go_roundw
    case rel=>exact⟨k+1,by omega,by go_num,c⟩
    case measure=>simp[intOf];omega
  ·have A:¬(k:Int)<n:=by omega
   have P:(1:Int)<=n:=by omega
   go_wp2;go_ret;exact⟨by first|rfl|simp;omega,a.out⟩
def plB(b:UInt8):Bool:=decide (b.toNat≠32/\b.toNat≠40)
def ZGs(l:LB):Bool:=l.all plB
theorem ZIm(l:LB)(k:Nat)(h:k<l.length):ZGs (l.take (k+1))=(ZGs (l.take k) && plB (l.getD k 0)):=by
 unfold ZGs;rw[List.take_succ_eq_append_getElem h,Yfc];simp[h]
theorem ZIl(l:LB)(k:Nat)(h:k<l.length)(a:plB (l.getD k 0)=false):ZGs l=false:=by
 unfold ZGs;rw[Yf1];refine⟨l[k],List.getElem_mem h,?_⟩;have:l.getD k 0=l[k]:=by simp[h]
 rw[this]at a;simp[a]
theorem ZIk (s : BA) (t : s.size <= 1000000000000) {w:World} : Cz 16 #[.string s] w fun e u => e = .returned (.bool (ZGs (bl s))) /\ u = w := by
  go_enter func16,ntmps16;go_wp2
  go_loop [3] (fun iv=>∃k:Nat,k<=s.size/\iv=Vi k/\Hid (ZGs ((bl s).take k)=true)) (fun iv=>s.size - (intOf iv).toNat)
  case atStart=>exact⟨0,Yag _,rfl,hid rfl⟩
  case round=>
    obtain⟨k,v,rfl,i⟩:=hrel;by_cases d:k<s.size
    · have j:(k:Int)<s.size:=by omega
      have i0:=ZGE s k d;have a:k<(bl s).length:=by rw[Zd];exact d
      have m:=hid (ZIm (bl s) k a);have l:=hid (ZIl (bl s) k a);have h:Hid (plB ((bl s).getD k 0)=decide (((bl s).getD k 0).toNat≠32/\((bl s).getD k 0).toNat≠40)):=hid rfl;clear a;generalize plB ((bl s).getD k 0)=pb at *
      generalize((bl s).getD k 0).toNat=x at *
      by_cases f:x=32
      · subst f
        have c:Hid (ZGs (bl s)=false):=hid (l.out (by rw[h.out];rfl));go_wp2;go_ret;exact⟨by rw[c.out];rfl,rfl⟩
      · have n:¬(x:Int)=32:=by omega
        have o:((x:Int) == 32)=false:=by simp;omega
        by_cases g:x=40
        · subst g
          have c:Hid (ZGs (bl s)=false):=hid (l.out (by rw[h.out];rfl));go_wp2;go_ret;exact⟨by rw[c.out];rfl,rfl⟩
        · have p:¬(x:Int)=40:=by omega
          have q:((x:Int) == 40)=false:=by simp;omega
          have r:Hid (ZGs ((bl s).take (k+1))=true):=hid (by rw[m.out,i.out,h.out];simp[f,g]);go_wp2
          go_round
          case rel=>exact⟨k+1,by omega,by go_num,r⟩
          case measure=>simp[intOf];omega
    · have j:¬(k:Int)<s.size:=by omega
      have c:Hid (ZGs (bl s)=true):=hid (by rw[<-i.out,Ya5 (by rw[Zd];omega)]);go_wp2;go_ret;exact⟨by rw[c.out];rfl,rfl⟩
theorem Zsn:∀(T:List (LB)),(∀x∈T,x.length<65536)->(T.flatMap ZO).length<=65538*T.length
 | [],_=>Yac _
 | x :: T, h => by
   have c:=h x (Yay ..);have d:=Zsn T (fun y a=>h y (Yam _ a));rw[Ycd,Yab,Zsm,Yaj];omega
theorem ZCa{q:CodeQ}(h:Shrt q):(ZbJ q).length<=100000000000:=by
 have a:=Zsn _ h.t;have d:(Ze9 q).length=q.jw.length+q.jv.length:=by simp[Ze9]
 rw[d]at a;have:=h.c;have:=h.s;have:=h.g;have:=h.i;rw[ZEZ];unfold offQ;omega
theorem Zu0{q r:LB}{fl:Int}{c p:Nat}(h:ZcM q fl=(r,c,p)):r.length<=100000000000:=by
 unfold ZcM at h;cases a:ZD q with
 | error x=>rw[a]at h;simp only[Yc5]at h;rw[<-h.1];exact Yag _
 | ok t=>
  rw[a]at h;simp only at h;split at h
  ·simp only[Yc5]at h;rw[<-h.1];exact Yag _
  ·simp only[Yc5]at h;rw[<-h.1];exact ZCa (Zla a _).1
theorem ZH4(f:Nat)(a b:BA)(A:Nat->Addr)(m:Int)(w:World)(M:Vars w A m)(N:ZR w)(O:20<=w.heap.size)(P:a.size<=9223372036854775807)(Q:b.size<=9223372036854775807)(n p q:Nat)(h1:1<=n)(ra:LB)(r:ZcM (bl a) f=(ra,0,0))(s:ZFb ra=some (n,p))
  (t:(∃rb,ZcM (bl b) f=(rb,0,0)/\ZFb rb=some (n,q))∨(∃rb x,ZcM (bl b) f=(rb,1,x))∨(∃rb x,ZcM (bl b) f=(rb,3,x))) :
  Cz 14 #[Vi f,.string a,.string b] w fun e u=>e=.returned (.bool true)/\BW w u:=by
 have R:Hid (Vars w A m):=M;have S:Hid (ZR w):=N;have j:Hid (20<=w.heap.size):=O;have v:=hid r;have B:=hid s;have T:=hid t;have HA:=hid P;have U:=hid Q;clear M N O r s t P Q;go_enter func14,ntmps14
 go_wp2_with fail
 refine(Zu2 a f A m w R.out S.out j.out HA.out).mono ?_;rintro e y ⟨r1,c1,p1,rfl,k,C⟩;have c:=hid C
 obtain⟨D,rfl,rfl⟩:bl r1=ra/\c1=0/\p1=0:=by
  have:=k.symm.trans v.out;simp only[Yc5]at this;exact this
 have V:=hid (Zu0 k.out);have E:Hid (ZFb (bl r1)=some (n,p)):=hid (by rw[D];exact B.out);clear C D k v B
 go_wp2_with fail
 refine(Zu2 b f A m y (R.below c.out) (S.low c.out j.out) (Yah j.out c.size) U.out).mono ?_;rintro e z ⟨r2,c2,p2,rfl,i,F⟩;have G:=hid (c.trans (F.mono c.size));have W:=hid (Zu0 i.out);clear F
 go_wp2_with fail
 refine(ZGM r1 (by have:=V.out;rw[Zd]at this;omega) _).mono ?_;rintro e w3 ⟨n3,p3,rfl,H,I⟩;have J:=hid (G.trans (I.mono G.size))
 obtain⟨rfl,rfl⟩:n3=n/\p3=p:=by
  rcases H.out with h|⟨q,h,l,X⟩
  ·rw[E.out]at h;cases h.1
  ·rw[E.out]at h;injection h with h;subst h;exact⟨l,X⟩
 clear I H
 go_wp2_with fail
 refine(ZGM r2 (by have:=W.out;rw[Zd]at this;omega) _).mono ?_;rintro e w4 ⟨n4,p4,rfl,Y,K⟩;have o:=hid (J.trans (K.mono J.size));clear K;have a0:(1:Int)<=n:=by omega
 rcases T.out with ⟨rb,d,l⟩|⟨rb,x,d⟩|⟨rb,x,d⟩
 ·have g:=i.symm.trans d;simp only[Yc5]at g;obtain⟨L,rfl,rfl⟩:=g
  have h7:n4=n:=by
   rcases Y.out with h|⟨q,h,Z,X⟩
   ·rw[L,l]at h;cases h.1
   ·rw[L,l]at h;injection h with h;subst h;exact Z
  subst h7;clear d l L;go_wp2;go_ret;exact⟨rfl,o.out⟩
 ·have g:=i.symm.trans d;simp only[Yc5]at g;obtain⟨_,rfl,_⟩:=g;clear d;go_wp2;go_ret;exact⟨rfl,o.out⟩
 ·have g:=i.symm.trans d;simp only[Yc5]at g;obtain⟨_,rfl,_⟩:=g;clear d;go_wp2;go_ret;exact⟨rfl,o.out⟩
section
variable {g:Gq} {z:Nq}
theorem Zhr(z:Nq)(g:Gq):(addQ z g).2.jx.getD (addQ z g).1 nq0=z/\(addQ z g).2.fold=g.fold:=by
 by_cases h:g.share=true/\∃i,idxN z g.jx=some i
 ·obtain⟨a,i,c⟩:=h;rw[Zhq a c];exact⟨ZlK c,rfl⟩
 ·have a : g.share = true -> idxN z _ = none := fun a => by
    cases d:idxN z g.jx with
    | none=>rfl
    | some i=>exact absurd ⟨a,i,d⟩ h
  rw[Zgz a];exact⟨by simp,rfl⟩
def Kon(g:Gq)(i:Nat):Prop:=g.fold=true/\∃v,g.jx.getD i nq0=⟨0,v,none,none⟩
theorem Kon.kz{i:Nat}(h:Kon g i):Zco i g=some (g.jx.getD i nq0).arg:=by
 obtain⟨v,a⟩:=h.2;unfold Zco;rw[if_pos ⟨h.1,by rw[a]⟩]
theorem ZGC(a:g.fold=true){v:Int}:Kon (Zdw v g).2 (Zdw v g).1:=by
 have h:=Zhr ⟨0,v,none,none⟩ g;exact⟨h.2.trans a,v,h.1⟩
theorem ZGW:∀(t:Tr) (g:Gq),wfT t->isNil t=false->NOk g.jx->g.jm.length+wT t<=400000->g.ky.length+wT t<=400000->g.fold=true->Zf t=1->Kon (Zb t g).2 (Zb t g).1
 | .nil,_,_,h,_,_,_,_,_=>by cases h
 | .node px py a l r, g, m, _, d, p, q, j, c => by
   have w:=m;obtain⟨C,D,E,F,G,H,s,u,I,x,f,n⟩:=m;have y:=Zmz a;have o:wT (.node px py a l r)=ownW a+wT l+wT r:=rfl;rw[o]at p q;unfold Zf at c;unfold Zb;by_cases k0:a.jj=0
   · rw[if_pos k0]
     exact ZGC j
   · rw[if_neg k0]at c ⊢
     by_cases k12:a.jj=1∨a.jj=2
     · rw[if_pos k12]at c;cases c
     · rw[if_neg k12]at c
       rw[if_neg (fun h=>k12 (Or.inl h)),if_neg (fun h=>k12 (Or.inr h))];have e:=s Om;have L:=ZjU l g f e d Om Om;have Ls:=(Zew l g f).1;by_cases k3:a.jj=3
       · rw[if_pos k3]at c ⊢
         have K:=ZGW l g f e d Om Om j c;simp only;unfold negQ;rw[K.kz];exact ZGC K.1
       · rw[if_neg k3]at c ⊢
         by_cases k5:a.jj=5
         · rw[if_pos k5]at c;split at c <;> cases c
         · rw[if_neg k5]at c ⊢
           split at c
           · cases c
           · rename_i k
             split at c
             · rename_i v
               have A:Zf l≠0:=fun h=>k (Or.inl h);have B:Zf r≠0:=fun h=>k (Or.inr (Or.inl h));have k6:a.jj≠6:=fun h=>k (Or.inr (Or.inr ⟨h,by omega⟩));have K:=ZGW l g f e d Om Om j Om;have i:=u Om;have R:=ZjU r (Zb l g).2 n i L.ok (by have:=Ls.s1;omega) (by have:=Ls.r1;omega);have K2:=ZGW r (Zb l g).2 n i L.ok (by have:=Ls.s1;omega) (by have:=Ls.r1;omega) K.1 Om;have K1:Kon (Zb r (Zb l g).2).2 (Zb l g).1:=⟨K2.1,by rw[Zg3 R.pre L.lt];exact K.2⟩
               simp only;rw[if_neg k6];unfold Zbs;rw[K1.kz,K2.kz];exact ZGC K2.1
             · cases c
theorem ZIx{t:Tr}(e:wfT t)(f:isNil t=false)(m:wT t<=100000)(h:Zf t=1){fl:Nat}(j:fl % 2=1):(Zv (Zb t (g0 fl)).2 (Zb t (g0 fl)).1).jz=[(0,0)]:=by
 have k:(g0 fl).fold=true:=by unfold g0;simp[j]
 have K:=ZGW t (g0 fl) e f (fun i l=>absurd l (Ya1 _)) (by show 0+wT t<=_;omega) (by show 0+wT t<=_;omega) k h;generalize(Zb t (g0 fl)).2=g at *
 generalize(Zb t (g0 fl)).1=i at *
 obtain⟨v,a⟩:=K.2;have c:(g.jx.getD i nq0).op=0:=by rw[a]
 have d:ZeJ g.jx i=false:=by
  unfold ZeJ;simp only;rw[if_neg Om,c];rfl
 unfold Zv;rw[ZdR (ZCo i),if_pos (Or.inr d),Zgu Om,a];rfl
end
end Go.Proofs.YtcdgkkfipdoeeaaGreatDoor
namespace Go.Proofs.YtcdgkkfipdoeeaaGreatDoor
open Go.RowKit LS Go.Proofs.Tryz
section
variable {g:Gq} {z:Nq}
def N9(g:Gq):Prop:=∀n,opOk (g.jx.getD n nq0).op
theorem Zft(h:N9 g)(c:opOk z.op):N9 (addQ z g).2:=by
 unfold addQ;split
 ·exact h
 ·intro n;show opOk ((g.jx++[z]).getD n nq0).op;rw[Yaa];rcases Yev n g.jx.length with a|a|a
  ·rw[Ybr a,<-Yaa];exact h n
  ·simp_all;omega
  ·rw[Ya9 (by simp;omega)];decide
theorem Zy7(h:N9 g){n:Nat}:N9 (negQ n g).2:=by unfold negQ;split <;> exact Zft h ⟨fun e=>(by cases e),by simp⟩
theorem Zy8(h:N9 g){o x y:Nat}:N9 (Zbs o x y g).2:=by unfold Zbs;split <;> exact Zft h ⟨fun e=>(by cases e),by simp⟩
theorem Zq7(h:N9 g){y:Nd×Nat}:N9 (ZJ y g).2:=by
 unfold ZJ;split
 ·exact Zft h ⟨fun e=>(by cases e),by simp⟩
 ·exact Zft h ⟨fun e=>(by cases e),by simp⟩
theorem Zy6(h:N9 g){ns:List (LB)}:N9 (Zbd ns g).2:=by
 unfold Zbd;split <;> exact h
theorem Zmk:∀(t:Tr) (g:Gq),wfT t->N9 g->N9 (Zb t g).2
 | .nil,_,_,h=>h
 | .node x y a l r, g, d, h => by
   have c:=fun g h=>Zmk l g d.2.2.2.2.2.2.2.2.2.2.1 h;have f:=fun g h=>Zmk r g d.2.2.2.2.2.2.2.2.2.2.2 h;have i:=d.2.2.2.1;unfold Zb;split
   · exact Zft h ⟨fun e=>(by cases e),by simp⟩
   · split
     · exact Zq7 h
     · split
       · exact Zft (Zq7 h) ⟨fun e=>(by cases e),by simp⟩
       · split
         · exact Zy7 (c _ h)
         · split
           · rename_i k5
             have:=i k5;exact Zft (Zy6 (c _ h)) ⟨by simp_all;omega,by simp_all;omega⟩
           · simp only
             split
             · exact Zft (f _ (c _ h)) ⟨fun e=>(by cases e),by simp⟩
             · exact Zy8 (f _ (c _ h))
theorem Zlb{t:Tr}(d:wfT t)(fl:Nat):FwL (Zv (Zb t (g0 fl)).2 (Zb t (g0 fl)).1).jz/\∀j,opOk ((Zv (Zb t (g0 fl)).2 (Zb t (g0 fl)).1).jz.getD j (0,0)).1:=by
 have f:=Zmk t (g0 fl) d (fun n=>by show opOk (([]:List Nq).getD n nq0).op;simp[nq0];decide);have h:=Zjc (jx:=(Zb t (g0 fl)).2.jx) (n:=(Zb t (g0 fl)).1) (W:=Zr _ ((Zb t (g0 fl)).1+1)) (fun c=>Zpv f _ _ c) (c0 (Zb t (g0 fl)).2);have e:(c0 (Zb t (g0 fl)).2).jz.length=0:=rfl;refine⟨fun j a i=>(h.fw j Om a).2 i,fun j=>?_⟩;rcases Yav j (Zv (Zb t (g0 fl)).2 (Zb t (g0 fl)).1).jz.length with a|a
 ·exact(h.fw j Om a).1
 simp_all;omega
theorem ZuQ{t:Tr}(a:wfT t){fl:Nat}(c:4<=fl):Led (LS.codeOf t fl).jz 0/\∀j,opOk ((LS.codeOf t fl).jz.getD j (0,0)).1:=by
 obtain⟨d,f⟩:=Zlb a fl;have e:(LS.codeOf t _).jz=Zch _:=if_pos c;have h:=ZsI d
 simp_all;omega
end
end Go.Proofs.YtcdgkkfipdoeeaaGreatDoor
namespace Go.Proofs.YtcdgkkfipdoeeaaGreatDoor
open Go.RowKit LS Go.Proofs.Tryz
section
variable {jx:List Nq} {W:Nat->Cq->Cq} {c d e:Cq} {n m x y:Nat} {g g1 g2:Gq} {z:Nq}
def lenQ(jx:List Nq):Nat->Nat->Nat
 | 0,_=>0
 | f+1,n=>if (jx.getD n nq0).op=10 then lenQ jx f ((jx.getD n nq0).fs.getD 0)+2+lenQ jx f ((jx.getD n nq0).sn.getD 0)else ((Zg (jx.getD n nq0)).map (lenQ jx f)).sum+1
structure Sg (c:Cq):Prop where
 lf:∀n,c.left.getD n 0<=1
 sl:∀s,c.jy.getD s none=none
theorem ZHj{l:List (Option Int)}(h:∀s,l.getD s none=none)(n:Nat):ZK n l=none:=by
 cases a:ZK n l with
 | none=>rfl
 | some s=>have:=(Zha a).2;rw[h]at this;cases this
theorem ZHB{p:Nat->Bool}(h:∀n,p n=false):∀n,ZbT p n=none
 | 0=>rfl
 | n+1=>by unfold ZbT;rw[h n];exact ZHB h n
theorem Sg.shared(h:Sg c)(n:Nat):ZbY jx n c=none:=by
 unfold ZbY;refine ZHB (fun i=>?_) _;unfold ZcX;have:=h.lf i;generalize(cntQ jx c.jy (n+1) n (List.replicate jx.length 0)).getD i 0=k;by_cases a:0<k
 ·rw[decide_eq_false (show ¬k<c.left.getD i 0 by omega)];simp
 ·rw[decide_eq_false a];simp
structure Sx (c d:Cq) (k:Nat):Prop where
 sg:Sg d
 mo:∀m,d.left.getD m 0<=c.left.getD m 0
 ln:d.jz.length=c.jz.length+k
theorem Sg.dec(h:Sg c)(n:Nat):Sg (decL n c)/\(decL n c).left.getD n 0=0/\∀m,(decL n c).left.getD m 0<=c.left.getD m 0:=by
 have a:∀m,(decL n c).left.getD m 0=if m=n/\n<c.left.length then c.left.getD n 0 - 1 else c.left.getD m 0:=fun m=>Zf2
 have i:=h.lf n;refine⟨⟨fun m=>?_,h.sl⟩,?_,fun m=>?_⟩
 ·rw[a];have:=h.lf m;split <;> omega
 ·rw[a];split
  ·omega
  ·rename_i f;rw[Yaa,Ya9 (by have:¬n<c.left.length:=fun e=>f ⟨rfl,e⟩;omega)];rfl
 ·rw[a];split
  ·rename_i e;rw[e.1];omega
  ·omega
theorem ZG0{k:Nat}(a:∀c,Sg c->Sx c (W n c) k)(h:Sg c):Sx c (putQ jx W n c) k:=by
 obtain⟨f,j,i⟩:=h.dec n;have q:=a _ f;rw[ZdR (ZHj h.sl n),if_pos (Or.inl (by have:=q.mo n;omega))];exact⟨q.sg,fun m=>Yah (q.mo m) (i m),q.ln⟩
theorem ZHP {k : Nat -> Nat} (a : ∀ n c, Sg c -> Sx c (W n c) (k n)) : ∀ (ts : List Nat) (c : Cq), Sg c -> Sx c (ts.foldl (fun c t => putQ jx W t c) c) (ts.map k).sum
  | [],c,h=>⟨h,fun _=>Yac _,by simp⟩
  | t :: ts, c, h => by
    have q:=ZG0 (jx:=jx) (a t) h;have r:=ZHP a ts _ q.sg;rw[Ybp];exact⟨r.sg,fun m=>Yah (r.mo m) (q.mo m),by rw[r.ln,q.ln,Ybb,Yd2];omega⟩
theorem Sg.emit(h:Sg c)(op arg:Nat):Sg (Zc op arg c):=⟨h.lf,h.sl⟩
theorem ZHQ:∀(f n:Nat) (c:Cq),Sg c->Sx c (Zr jx f n c) (lenQ jx f n)
 | 0,n,c,h=>⟨h,fun _=>Yac _,rfl⟩
 | f + 1, n, c, h => by
   have j:=fun n c=>ZHQ f n c;by_cases i:(jx.getD n nq0).op=10
   · rw[lenQ,if_pos i]
     unfold Zr;simp only;rw[if_pos i];generalize(jx.getD n nq0).fs.getD 0=a;generalize(jx.getD n nq0).sn.getD 0=b;unfold Zbo;rw[Zff (Or.inl (h.shared b))];simp only;have q:=ZG0 (jx:=jx) (j a) h;generalize putQ jx (Zr jx f) a c=c2 at *
     have r:=ZG0 (jx:=jx) (j b) ((q.sg.emit 10 0).emit 11 0);have e:(Zc 11 0 (Zc 10 0 c2)).jz.length=c2.jz.length+2:=by simp[Zc]
     have rm:∀m,(putQ jx (Zr jx f) b (Zc 11 0 (Zc 10 0 c2))).left.getD m 0<=c2.left.getD m 0:=r.mo;have rl:=r.ln;have rs:=r.sg;rw[e]at rl;generalize putQ jx (Zr jx f) b (Zc 11 0 (Zc 10 0 c2))=d at *
     refine⟨⟨rs.lf,fun s=>?_⟩,fun m=>Yah (rm m) (q.mo m),?_⟩
     · show(Zce d.jy c2.jy).getD s none=none
       rcases Yav s 16 with k|k
       · rw[Zkg k,rs.sl s];split <;> rfl
       · rw[Yaa,Ya9 (by simp[Zce];exact k)];rfl
     · show(d.jz.set _ _).length=_
       rw[Yat,rl,q.ln];omega
   · rw[lenQ,if_neg i,Zgu i]
     have q:=ZHP (jx:=jx) j (Zg (jx.getD n nq0)) c h;generalize(Zg (jx.getD n nq0)).foldl (fun c t=>putQ jx (Zr jx f) t c) c=e at *
     unfold ZbD;split
     · exact⟨⟨q.sg.lf,q.sg.sl⟩,q.mo,by simp[Zc,q.ln];omega⟩
     · exact⟨⟨q.sg.lf,q.sg.sl⟩,q.mo,by simp[Zc,q.ln];omega⟩
theorem ZGQ(a:∀n,g.uses.getD n 0<=1)(r:Nat):(Zv g r).jz.length=lenQ g.jx (r+1) r:=by
 have h : Sg (c0 g) := ⟨a, fun s => by
   show(List.replicate 16 none).getD s none=none;rw[Yaa,Ybs];split <;> rfl⟩
 have:=(ZG0 (jx:=g.jx) (fun c f=>ZHQ (jx:=g.jx) (r+1) r c f) h).ln;unfold Zv;rw[this];show 0+_=_;omega
structure Ext (g g1:Gq):Prop where
 nd:g.jx <+: g1.jx
 us:∀n,g1.uses.getD n 0=g.uses.getD n 0
 se:g1.jm=g.jm
 gr:g1.ky=g.ky
 fo:g1.fold=g.fold
 sh:g1.share=g.share
theorem Ext.refl(g:Gq):Ext g g:=⟨Ya8 _,fun _=>rfl,rfl,rfl,rfl,rfl⟩
theorem Ext.trans(h:Ext g g1)(q:Ext g1 g2):Ext g g2:=⟨h.nd.trans q.nd,fun n=>(q.us n).trans (h.us n),q.se.trans h.se,q.gr.trans h.gr,q.fo.trans h.fo,q.sh.trans h.sh⟩
theorem ZGL{u:List Nat}{n:Nat}:(u++[0]).getD n 0=u.getD n 0:=by
 rw[Yaa,Yaa];rcases Yav n u.length with h|h
 ·rw[Ybr h]
 ·rw[Yb3 h,Ya9 h];rcases Nat.eq_zero_or_pos (n - u.length)with e|e
  ·rw[e];rfl
  ·rw[Ya9 (show 1<=n - u.length from e)]
theorem ZkD(z:Nq)(g:Gq):(∃i,g.share=true/\idxN z g.jx=some i/\addQ z g=(i,g))∨((g.share=true->idxN z g.jx=none)/\addQ z g=(g.jx.length,{ g with jx:=g.jx++[z],uses:=(Zg z).foldl bump (g.uses++[0]) })):=by
 by_cases h:g.share=true/\∃i,idxN z g.jx=some i
 ·obtain⟨a,i,f⟩:=h;exact .inl ⟨i,a,f,Zhq a f⟩
 ·have a : g.share = true -> idxN z _ = none := fun a => by
    cases j:idxN z g.jx with
    | none=>rfl
    | some i=>simp_all
  exact .inr ⟨a,Zgz a⟩
theorem ZG3{v:Int}{g:Gq}:Ext g (Zdw v g).2:=by
 unfold Zdw;rcases ZkD ⟨0,v,none,none⟩ g with ⟨i,_,_,h⟩|⟨_,h⟩
 ·rw[h];exact Ext.refl g
 ·rw[h];exact⟨Ydd _ _,fun n=>ZGL,rfl,rfl,rfl,rfl⟩
theorem Kon.ext{i:Nat}(h:Kon g i)(a:i<g.jx.length)(q:Ext g g1):Kon g1 i:=⟨q.fo.trans h.1,by rw[Zg3 q.nd a];exact h.2⟩
theorem ZGO:∀(t:Tr) (g:Gq),wfT t->isNil t=false->g.fold=true->Zf t=1->Kon (Zb t g).2 (Zb t g).1/\Ext g (Zb t g).2
 | .nil,_,_,h,_,_=>by cases h
 | .node px py a l r, g, p, _, j, f => by
   obtain⟨C,D,F,G,H,I,q,s,J,w,k,u⟩:=p;unfold Zf at f;unfold Zb;by_cases k0:a.jj=0
   · rw[if_pos k0]
     exact⟨ZGC j,ZG3⟩
   · rw[if_neg k0]at f ⊢
     by_cases k12:a.jj=1∨a.jj=2
     · rw[if_pos k12]at f;cases f
     · rw[if_neg k12]at f
       rw[if_neg (fun h=>k12 (Or.inl h)),if_neg (fun h=>k12 (Or.inr h))];have i:=q Om;by_cases k3:a.jj=3
       · rw[if_pos k3]at f ⊢
         obtain⟨K,E⟩:=ZGO l g k i j f;simp only;unfold negQ;rw[K.kz];exact⟨ZGC K.1,E.trans (ZG3)⟩
       · rw[if_neg k3]at f ⊢
         by_cases k5:a.jj=5
         · rw[if_pos k5]at f;split at f <;> cases f
         · rw[if_neg k5]at f ⊢
           split at f
           · cases f
           · rename_i o
             split at f
             · rename_i v
               have A:Zf l≠0:=fun h=>o (Or.inl h);have B:Zf r≠0:=fun h=>o (Or.inr (Or.inl h));have k6:a.jj≠6:=fun h=>o (Or.inr (Or.inr ⟨h,by omega⟩));obtain⟨K,E⟩:=ZGO l g k i j Om;have Kl:=(Zew l g k).2 i;obtain⟨K2,E2⟩:=ZGO r (Zb l g).2 u (s Om) K.1 Om;have K1:=K.ext Kl E2;simp only;rw[if_neg k6];unfold Zbs;rw[K1.kz,K2.kz];exact⟨ZGC K2.1,(E.trans E2).trans (ZG3)⟩
             · cases f
def Us(g:Gq)(T:List Nat):Prop:=∀n,g.uses.getD n 0<=T.count n
theorem ZHZ(u:List Nat)(t n:Nat):(bump u t).getD n 0<=u.getD n 0+(if t=n then 1 else 0):=by
 unfold bump;rw[Zf2];split
 ·rename_i h;rw[if_pos h.1.symm,h.1];omega
 ·omega
theorem ZG2:∀(ts u:List Nat) (n:Nat),(ts.foldl bump u).getD n 0<=u.getD n 0+ts.count n
 | [],u,n=>by simp
 | t :: ts, u, n => by
   have a:=ZG2 ts (bump u t) n;have f:=ZHZ u t n;rw[Ybp,Yfy];have e:(if (t == n)=true then 1 else 0)=if t=n then 1 else 0:=by simp
   rw[e];omega
theorem Us.add{T:List Nat}(h:Us g T)(z:Nq):Us (addQ z g).2 (Zg z++T):=by
 intro n;have f:=h n;rw[List.count_append];rcases ZkD z g with ⟨i,_,_,e⟩|⟨_,e⟩
 ·rw[e];show g.uses.getD n 0<=_;omega
 ·rw[e];have a:=ZG2 (Zg z) (g.uses++[0]) n;rw[ZGL]at a;show((Zg z).foldl bump (g.uses++[0])).getD n 0<=_;omega
theorem Us.ext{T:List Nat}(h:Us g T)(q:Ext g g1):Us g1 T:=fun n=>by rw[q.us];exact h n
end
end Go.Proofs.YtcdgkkfipdoeeaaGreatDoor

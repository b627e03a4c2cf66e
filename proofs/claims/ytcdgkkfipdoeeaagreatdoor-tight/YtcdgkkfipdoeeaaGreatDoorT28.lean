/- Parts. -/
import Derived.Test.YtcdgkkfipdoeeaaGreatDoorT27
import Derived.Test.YtcdgkkfipdoeeaaGreatDoorT08
set_option linter.all false
set_option maxRecDepth 100000
set_option maxHeartbeats 16000000
namespace Go.Proofs.YtcdgkkfipdoeeaaGreatDoor
open Go.RowKit LS Go.Proofs.Tryz
variable {b r:LB}{i p:Nat}
section
section
variable {jx:List Nq} {g:Gq} {n k a b f:Nat} {o:Int} {t:Tr} {T:List Nat}
theorem ZG9(c:Zg (jx.getD n nq0)=[])(d:(jx.getD n nq0).op≠10)(e:n<f):lenQ jx f n=1:=by
 obtain⟨f,rfl⟩:∃k,f=k+1:=⟨f - 1,by omega⟩
 rw[lenQ,if_neg d,c];rfl
theorem ZGV(c:NOk jx)(d:jx.getD k nq0=⟨3,o,some a,some b⟩)(e:Zg (jx.getD a nq0)=[]/\(jx.getD a nq0).op≠10)(h:Zg (jx.getD b nq0)=[]/\(jx.getD b nq0).op≠10)(i:k<f):lenQ jx f k=3:=by
 have j:=Zcf c k a (by rw[d];simp[Zg]);have l:=Zcf c k b (by rw[d];simp[Zg]);obtain⟨f,rfl⟩:∃k,f=k+1:=⟨f - 1,by omega⟩
 rw[lenQ,d,if_neg (by show(3:Nat)≠10;decide)];show lenQ jx f a+(lenQ jx f b+0)+1=3;rw[ZG9 e.1 e.2 Om,ZG9 h.1 h.2 Om]
def pkS(c:UInt8):Nd×Nat:=(Zba ⟨1,0,0,[c],[],[]⟩,0)
theorem ZHd(c:UInt8)(g:Gq):Zb (selX c) g=ZJ (pkS c) g:=rfl
theorem ZHG(o:Nat)(l r:Tr)(g:Gq):Zb (binT o l r) g=Zbs o (Zb l g).1 (Zb r (Zb l g).2).1 (Zb r (Zb l g).2).2:=rfl
theorem ZIi(l r:Tr)(g:Gq):Zb (orT l r) g=addQ ⟨10,0,some (Zb l g).1,some (Zb r (Zb l g).2).1⟩ (Zb r (Zb l g).2).2:=rfl
theorem ZIj(l:Tr)(g:Gq):Zb (sumT l) g=addQ ⟨5+0,(Zbd [] (Zb l g).2).1,some (Zb l g).1,none⟩ (Zbd [] (Zb l g).2).2:=rfl
structure PkT (g:Gq) (c:UInt8) (i:Nat):Prop where
 get:(ZJ (pkS c) g).2.jx.getD (ZJ (pkS c) g).1 nq0=⟨1,(i:Nat),none,none⟩
 se:(ZJ (pkS c) g).2.jm=g.jm++[pkS c]
 us:∀T,Us g T->Us (ZJ (pkS c) g).2 T
 px:Px g (ZJ (pkS c) g).2
 lt:(ZJ (pkS c) g).1<(ZJ (pkS c) g).2.jx.length
theorem ZHe{c:UInt8}(h:idx (ZI (pkS c)) (g.jm.map ZI)=none):PkT g c g.jm.length:=by
 have e:ZJ (pkS c) g=addQ ⟨1,(g.jm.length:Nat),none,none⟩ { g with jm:=g.jm++[pkS c] }:=by unfold ZJ;rw[h]
 have d:(addQ ⟨1,(g.jm.length:Nat),none,none⟩ { g with jm:=g.jm++[pkS c] }).2.jm=g.jm++[pkS c]:=by unfold addQ;split <;> rfl
 refine⟨by rw[e];exact(Zhr _ _).1,by rw[e];exact d,fun T i=>?_,ZjW,(Zgk _ _).2⟩;rw[e];exact Us.add (g:={ g with jm:=g.jm++[pkS c] }) (T:=T) i _
theorem ZHz(h:(g.jx.getD n nq0).op≠0):Zco n g=none:=by unfold Zco;rw[if_neg (fun q=>h q.2)]
theorem ZHF{o x y:Nat}(h:Zco x g=none∨Zco y g=none):Zbs o x y g=addQ ⟨3,o,some x,some y⟩ g:=by
 unfold Zbs;cases c:Zco x g with
 | none=>rfl
 | some u=>
  cases d:Zco y g with
  | none=>rfl
  | some v=>rw[c,d]at h;rcases h with h|h <;> cases h
theorem us0(fl:Nat):Us (g0 fl) []:=fun n=>by show([]:List Nat).getD n 0<=0;simp
theorem ZGT{fl:Nat}(c:fl % 2=1):(g0 fl).fold=true:=by unfold g0;simp[c]
theorem Us.once (h : Us g T) (c : T.Nodup) : ∀ n, g.uses.getD n 0 <= 1 := fun n => Yah (h n) (by
  induction T with
  | nil=>simp
  | cons a T ih=>
    rw[Yf2]at c;rw[Yfy];by_cases e:a=n
    · subst e;rw[Yfz c.1];simp
    · have i:T.count n<=1:=by
        have j:∀(T:List Nat),T.Nodup->T.count n<=1:=by
          intro T
          induction T with
          | nil=>intro _;simp
          | cons b T d=>
            intro c;rw[Yf2]at c;rw[Yfy];by_cases e2:b=n
            · subst e2;rw[Yfz c.1];simp
            · have:=d c.2;simp[e2];exact this
        exact j T c.2
      simp[e];exact i)
theorem ZGG{j:Nat}(h:(g.jx.getD i nq0).op≠(g.jx.getD j nq0).op):i≠j:=fun e=>h (by rw[e])
variable {fl:Nat}
theorem ZHC(g:Gq)(c:UInt8)(o:Nat)(e:wfT t)(h:isNil t=false)(j:Zf t=1)(l:g.fold=true)(m:idx (ZI (pkS c)) (g.jm.map ZI)=none){T:List Nat}(u:Us g T):∃i r k G,Zb (binT o (selX c) t) g=(k,G)/\G.jx.getD k nq0=⟨3,(o:Nat),some i,some r⟩/\G.jx.getD i nq0=⟨1,(g.jm.length:Nat),none,none⟩/\(∃v,G.jx.getD r nq0=⟨0,v,none,none⟩)/\Us G ([i,r]++T)/\Px g G:=by
 have P:=ZHe m;rw[ZHG,ZHd];obtain⟨K,E⟩:=ZGO t (ZJ (pkS c) g).2 e h (P.px.fo.trans l) j;have w:=(Zew t (ZJ (pkS c) g).2 e).2 h;have x:=(P.us T u).ext E;have pxr:=Zfw t (ZJ (pkS c) g).2;have pg:=P.get;have pl:=P.lt;have px:=P.px;generalize z:Zb t (ZJ (pkS c) g).2=q at *
 generalize ZJ (pkS c) g=p at *
 have gi:q.2.jx.getD p.1 nq0=⟨1,(g.jm.length:Nat),none,none⟩:=by rw[Zg3 pxr.nd pl];exact pg
 have il:p.1<q.2.jx.length:=Yaw pl pxr.nd.length_le;rw[ZHF (Or.inl (ZHz (by rw[gi];show(1:Nat)≠0;decide)))];have y:=(Zhr ⟨3,(o:Nat),some p.1,some q.1⟩ q.2).1;have d:=ZcD ⟨3,(o:Nat),some p.1,some q.1⟩ q.2;exact⟨p.1,q.1,(addQ ⟨3,(o:Nat),some p.1,some q.1⟩ q.2).1,(addQ ⟨3,(o:Nat),some p.1,some q.1⟩ q.2).2,rfl,y,by rw[Zg3 d.nd il];exact gi,by rw[Zg3 d.nd w];exact K.2,x.add _,(px.trans pxr).trans d⟩
theorem ZHO(g:Gq)(c:UInt8)(o:Nat)(e:wfT t)(h:isNil t=false)(l:Zf t=1)(m:g.fold=true)(u:idx (ZI (pkS c)) (g.jm.map ZI)=none){T:List Nat}(w:Us g T):∃i r k G,Zb (binT o t (selX c)) g=(k,G)/\G.jx.getD k nq0=⟨3,(o:Nat),some r,some i⟩/\G.jx.getD i nq0=⟨1,(g.jm.length:Nat),none,none⟩/\(∃v,G.jx.getD r nq0=⟨0,v,none,none⟩)/\Us G ([r,i]++T)/\Px g G:=by
 rw[ZHG,ZHd];obtain⟨K,E⟩:=ZGO t g e h m l;have j:=(Zew t g e).2 h;have x:=w.ext E;have pxr:=Zfw t g;have P:=ZHe (g:=(Zb t g).2) (c:=c) (by rw[E.se];exact u);have pg:=P.get;have pl:=P.lt;have px:=P.px;have pu:=P.us T x;rw[E.se]at pg;generalize z:Zb t g=q at *
 generalize ZJ (pkS c) q.2=p at *
 have gr:∃v,p.2.jx.getD q.1 nq0=⟨0,v,none,none⟩:=by rw[Zg3 px.nd j];exact K.2
 have rl:q.1<p.2.jx.length:=Yaw j px.nd.length_le;rw[ZHF (Or.inr (ZHz (by rw[pg];show(1:Nat)≠0;decide)))];have y:=(Zhr ⟨3,(o:Nat),some q.1,some p.1⟩ p.2).1;have d:=ZcD ⟨3,(o:Nat),some q.1,some p.1⟩ p.2;exact⟨p.1,q.1,(addQ ⟨3,(o:Nat),some q.1,some p.1⟩ p.2).1,(addQ ⟨3,(o:Nat),some q.1,some p.1⟩ p.2).2,rfl,y,by rw[Zg3 d.nd pl];exact pg,by rw[Zg3 d.nd rl];exact gr,pu.add _,(pxr.trans px).trans d⟩
theorem Zws{t:Tr}(c:wfT t)(d:isNil t=false)(h:wT t<=100000)(fl:Nat):NOk (Zb t (g0 fl)).2.jx:=(ZjU t _ c d (fun i e=>absurd e (Ya1 _)) (by show 0+wT t<=_;omega) (by show 0+wT t<=_;omega)).ok
structure Fs (T t:Tr):Prop where
 w:wfT T
 n:isNil T=false
 s:wT T<=100000
 wt:wfT t
 nt:isNil t=false
 kt:Zf t=1
theorem ZHq(h:Fs (binT 0 (selX 120) t) t)(l:fl % 2=1):(Zv (Zb (binT 0 (selX 120) t) (g0 fl)).2 (Zb (binT 0 (selX 120) t) (g0 fl)).1).jz.length=3:=by
 have c:=Zws h.w h.n h.s fl;obtain⟨i,r,k,G,e,m,d,⟨v,j⟩,p,_⟩:=ZHC (g0 fl) 120 0 h.wt h.nt h.kt (ZGT l) rfl (us0 fl);rw[e]at c ⊢;have n1:i≠r:=ZGG (g:=G) (by rw[d,j];show(1:Nat)≠0;decide);rw[ZGQ (p.once (by simp[n1]))];exact ZGV c m ⟨by rw[d];rfl,by rw[d];show(1:Nat)≠10;decide⟩ ⟨by rw[j];rfl,by rw[j];show(0:Nat)≠10;decide⟩ (Ybd _)
theorem ZHs(h:Fs (binT 2 t (selX 120)) t)(l:fl % 2=1):(Zv (Zb (binT 2 t (selX 120)) (g0 fl)).2 (Zb (binT 2 t (selX 120)) (g0 fl)).1).jz.length=3:=by
 have c:=Zws h.w h.n h.s fl;obtain⟨i,r,k,G,e,m,d,⟨v,j⟩,p,_⟩:=ZHO (g0 fl) 120 2 h.wt h.nt h.kt (ZGT l) rfl (us0 fl);rw[e]at c ⊢;have n1:r≠i:=ZGG (g:=G) (by rw[d,j];show(0:Nat)≠1;decide);rw[ZGQ (p.once (by simp[n1]))];exact ZGV c m ⟨by rw[j];rfl,by rw[j];show(0:Nat)≠10;decide⟩ ⟨by rw[d];rfl,by rw[d];show(1:Nat)≠10;decide⟩ (Ybd _)
theorem ZH7(ns:List (LB)){T:List Nat}(h:Us g T):Us (Zbd ns g).2 T:=by unfold Zbd;split <;> exact h
theorem ZHu(h:Fs (sumT (binT 1 (selX 120) t)) t)(z:fl % 2=1):(Zv (Zb (sumT (binT 1 (selX 120) t)) (g0 fl)).2 (Zb (sumT (binT 1 (selX 120) t)) (g0 fl)).1).jz.length=4:=by
 have c:=Zws h.w h.n h.s fl;obtain⟨i,r,k,G,e,m,p,⟨v,q⟩,A,_⟩:=ZHC (g0 fl) 120 1 h.wt h.nt h.kt (ZGT z) rfl (us0 fl);have d:=(Zew (binT 1 (selX 120) t) (g0 fl) h.w.2.2.2.2.2.2.2.2.2.2.1).2 rfl;rw[ZIj,e]at c ⊢;rw[e]at d;simp only at c d ⊢;have u:=(Zje [] G).2.2;have x:=ZH7 [] A;generalize Zbd [] G=H at *
 have l:=ZcD ⟨5+0,(H.1:Nat),some k,none⟩ H.2;have j:=(Zhr ⟨5+0,(H.1:Nat),some k,none⟩ H.2).1;have y:=x.add ⟨5+0,(H.1:Nat),some k,none⟩;rw[<-u]at m p q d;have gz:(addQ ⟨5+0,(H.1:Nat),some k,none⟩ H.2).2.jx.getD k nq0=⟨3,((1:Nat):Int),some i,some r⟩:=by rw[Zg3 l.nd d];exact m
 have ki:=Zcf c k i (by rw[gz];simp[Zg]);have kr:=Zcf c k r (by rw[gz];simp[Zg]);have gi:(addQ ⟨5+0,(H.1:Nat),some k,none⟩ H.2).2.jx.getD i nq0=⟨1,(((g0 fl).jm.length:Nat):Int),none,none⟩:=by rw[Zg3 l.nd Om];exact p
 have gr:(addQ ⟨5+0,(H.1:Nat),some k,none⟩ H.2).2.jx.getD r nq0=⟨0,v,none,none⟩:=by rw[Zg3 l.nd Om];exact q
 generalize addQ ⟨5+0,(H.1:Nat),some k,none⟩ H.2=J at *
 have n1:i≠r:=ZGG (g:=J.2) (by rw[gi,gr];show(1:Nat)≠0;decide);have kk:=Zcf c J.1 k (by rw[j];simp[Zg])
 rw[ZGQ (y.once (by
  show([k]++([i,r]++[])).Nodup;simp[n1];omega)),lenQ,j,if_neg (by show(5+0:Nat)≠10;decide)]
 show(lenQ J.2.jx J.1 k+0)+1=4;rw[ZGV c gz ⟨by rw[gi];rfl,by rw[gi];show(1:Nat)≠10;decide⟩ ⟨by rw[gr];rfl,by rw[gr];show(0:Nat)≠10;decide⟩ kk]
theorem ZHt(h:Fs (orT (selX 120) (binT 3 t (selX 121))) t)(z:fl % 2=1):(Zv (Zb (orT (selX 120) (binT 3 t (selX 121))) (g0 fl)).2 (Zb (orT (selX 120) (binT 3 t (selX 121))) (g0 fl)).1).jz.length=6:=by
 have d:=Zws h.w h.n h.s fl;have P:=ZHe (g:=g0 fl) (c:=120) rfl;have pu:=P.us [] (us0 fl);obtain⟨i,r,k,G,e,A,B,⟨v,C⟩,D,u⟩:=ZHO (ZJ (pkS 120) (g0 fl)).2 121 3 h.wt h.nt h.kt (P.px.fo.trans (ZGT z)) (by rw[P.se];rfl) pu;have l:=(Zew (binT 3 t (selX 121)) (ZJ (pkS 120) (g0 fl)).2 h.w.2.2.2.2.2.2.2.2.2.2.2).2 rfl;rw[ZIi,ZHd,e]at d ⊢;rw[e]at l;simp only at d l ⊢;have g0x:G.jx.getD (ZJ (pkS 120) (g0 fl)).1 nq0=⟨1,((0:Nat):Int),none,none⟩:=by rw[Zg3 u.nd P.lt];exact P.get
 have x:G.jx.getD i nq0=⟨1,((1:Nat):Int),none,none⟩:=by rw[B,P.se];rfl
 have jl:=Yaw P.lt u.nd.length_le;generalize(ZJ (pkS 120) (g0 fl)).1=j at *
 have p:=ZcD ⟨10,0,some j,some k⟩ G;have m:=(Zhr ⟨10,0,some j,some k⟩ G).1;have y:=D.add ⟨10,0,some j,some k⟩;have gz:(addQ ⟨10,0,some j,some k⟩ G).2.jx.getD k nq0=⟨3,((3:Nat):Int),some r,some i⟩:=by rw[Zg3 p.nd l];exact A
 have ki:=Zcf d k i (by rw[gz];simp[Zg]);have kr:=Zcf d k r (by rw[gz];simp[Zg]);have gi:(addQ ⟨10,0,some j,some k⟩ G).2.jx.getD i nq0=⟨1,((1:Nat):Int),none,none⟩:=by rw[Zg3 p.nd Om];exact x
 have gr:(addQ ⟨10,0,some j,some k⟩ G).2.jx.getD r nq0=⟨0,v,none,none⟩:=by rw[Zg3 p.nd Om];exact C
 have gj:(addQ ⟨10,0,some j,some k⟩ G).2.jx.getD j nq0=⟨1,((0:Nat):Int),none,none⟩:=by rw[Zg3 p.nd jl];exact g0x
 generalize addQ ⟨10,0,some j,some k⟩ G=J at *
 have n1:r≠i:=ZGG (g:=J.2) (by rw[gi,gr];show(0:Nat)≠1;decide);have n2:j≠k:=ZGG (g:=J.2) (by rw[gj,gz];show(1:Nat)≠3;decide);have n3:j≠r:=ZGG (g:=J.2) (by rw[gj,gr];show(1:Nat)≠0;decide);have n4:j≠i:=fun e=>by rw[e,gi]at gj;injection gj with _ q;cases q
 have kk:=Zcf d J.1 k (by rw[m];simp[Zg]);have kj:=Zcf d J.1 j (by rw[m];simp[Zg])
 rw[ZGQ (y.once (by
  show([j,k]++([r,i]++[])).Nodup;simp[n1,n2,n3,n4];omega)),lenQ,m,if_pos rfl]
 show lenQ J.2.jx J.1 j+2+lenQ J.2.jx J.1 k=6;rw[ZG9 (by rw[gj];rfl) (by rw[gj];show(1:Nat)≠10;decide) kj,ZGV d gz ⟨by rw[gr];rfl,by rw[gr];show(0:Nat)≠10;decide⟩ ⟨by rw[gi];rfl,by rw[gi];show(1:Nat)≠10;decide⟩ kk]
end
section
variable {fl n:Nat} {t T:Tr} {s:LB}
theorem ZuP(t:Tr)(fl:Nat):(LS.codeOf t fl).jz.length=(Zv (Zb t (g0 fl)).2 (Zb t (g0 fl)).1).jz.length:=by
 show(if 4<=fl then Zch _ else _).length=_;split
 ·exact(ZiE _ _ (Zi2 _ _)).2
 ·rfl
theorem ZuZ(h:ZD s=.ok T)(c:fl<=7):ZcM s fl=(ZbJ (LS.codeOf T fl),0,0):=by
 unfold ZcM
 simp_all;omega
theorem ZGR(h:ZD s=.ok T)(fl:Nat):ZFb (ZbJ (LS.codeOf T fl))=some ((Zv (Zb T (g0 fl)).2 (Zb T (g0 fl)).1).jz.length,offQ (LS.codeOf T fl)):=by
 rw[ZFC (Zla h fl).1,ZuP]
theorem ZH3(h:Rt s T)(d:Zf T≠0)(c:fl<=7)(e:ZD s=.ok T->(Zv (Zb T (g0 fl)).2 (Zb T (g0 fl)).1).jz.length=n):(∃rb,ZcM s fl=(rb,0,0)/\ZFb rb=some (n,offQ (LS.codeOf T fl)))∨(∃rb x,ZcM s fl=(rb,1,x))∨(∃rb x,ZcM s fl=(rb,3,x)):=by
 rcases h with h|⟨p,h⟩|h
 ·exact Or.inr (Or.inl ⟨[],0,by unfold ZcM;rw[h]⟩)
 ·exact Or.inr (Or.inr ⟨[],p,by unfold ZcM;rw[h]⟩)
 ·rw[if_neg d]at h;exact Or.inl ⟨_,ZuZ h c,by rw[ZGR h,e h]⟩
def one1:Tr:=Zbg ⟨0,0,1,[],[],[]⟩
theorem ZGz(h:ZD s=.ok T)(c:wfT t)(d:isNil t=false)(e:Zf t=1):Fs T t:=⟨(Ze2 h).1,(Ze2 h).2.1,(Ze2 h).2.2,c,d,e⟩
theorem ZIf:wfT one1/\isNil one1=false/\Zf one1=1:=by
 refine⟨?_,rfl,rfl⟩;unfold one1 Zbg wfT;simp[isNil,wfT]
theorem ZHk(q:CodeQ)(l:i<q.jz.length):(ZbJ q).getD (offQ q+3*i) 0=UInt8.ofNat (q.jz.getD i (0,0)).1/\((q.jz.getD i (0,0)).2<65536->two2 (ZbJ q) (offQ q+3*i+1)=(q.jz.getD i (0,0)).2):=by
 obtain⟨z,_,m⟩:=ZEY q;have p:q.jz.getD i (0,0)=q.jz[i]:=by simp[l]
 have d:q.jz.flatMap insB=(q.jz.take i).flatMap insB++(insB q.jz[i]++(q.jz.drop (i+1)).flatMap insB):=by
  rw[<-Ycd,<-Yds,List.getElem_cons_drop,Ycn]
 have c:([103]++digL q.jq.length 2++digL q.jw.length 2++digL q.jv.length 2++digL q.jz.length 2++q.jq.flatMap Zb0++(Ze9 q).flatMap ZO++(q.jz.take i).flatMap insB).length=offQ q+3*i:=by
  simp only[Yab,ZbG,Zvd,Zxc,Ybj,Ya7];unfold offQ;omega
 generalize r:[103]++digL q.jq.length 2++digL q.jw.length 2++digL q.jv.length 2++digL q.jz.length 2++q.jq.flatMap Zb0++(Ze9 q).flatMap ZO++(q.jz.take i).flatMap insB=P at *
 have h:ZbJ q=P++(insB q.jz[i]++((q.jz.drop (i+1)).flatMap insB++z)):=by
  rw[m,d,<-r];simp only[Yan]
 rw[p];refine⟨?_,fun j=>?_⟩
 ·rw[h,<-c];exact(ZFg P (insB q.jz[i]++((q.jz.drop (i+1)).flatMap insB++z)) 0).trans rfl
 ·have e:ZbJ q=(P++[UInt8.ofNat q.jz[i].1])++(digL q.jz[i].2 2++((q.jz.drop (i+1)).flatMap insB++z)):=by
   rw[h];unfold insB;simp only[Yan,Yby,Ycu]
  have:=ZFa (P++[UInt8.ofNat q.jz[i].1]) ((q.jz.drop (i+1)).flatMap insB++z) j;rw[<-e,Yab,c,Ybj]at this;exact this
theorem ZHE{x:Nat}(h:x<=13):(UInt8.ofNat x).toNat=x:=by rw[Yf0];omega
theorem ZH0(h:ZD s=.ok T)(v:4<=fl):∀i,i<(LS.codeOf T fl).jz.length->jmpB ((ZbJ (LS.codeOf T fl)).getD (offQ (LS.codeOf T fl)+3*i) 0)=true->two2 (ZbJ (LS.codeOf T fl)) (offQ (LS.codeOf T fl)+3*i+1)<(LS.codeOf T fl).jz.length->jmpB ((ZbJ (LS.codeOf T fl)).getD (offQ (LS.codeOf T fl)+3*two2 (ZbJ (LS.codeOf T fl)) (offQ (LS.codeOf T fl)+3*i+1)) 0)=false:=by
 intro i d j m;obtain⟨p,c⟩:=ZuQ (Ze2 h).1 v;have w:=(Zla h fl).1
 have r:Zbe (LS.codeOf T fl).jz:=by
  show Zbe (if 4<=fl then Zch _ else _);rw[if_pos v];exact(ZiE _ _ (Zi2 _ _)).1
 have B:=w.i;generalize LS.codeOf T fl=q at *
 obtain⟨y,z⟩:=ZHk q d;rw[y]at j;unfold jmpB at j;rw[ZHE (c i).2,decide_eq_true_eq]at j
 have l:(q.jz.getD i (0,0)).1=10:=by
  rcases j with e|e
  ·exact absurd e (c i).1
  ·exact e
 have u:q.jz.getD i (0,0)∈q.jz:=by
  have:q.jz.getD i (0,0)=q.jz[i]:=by simp[d]
  rw[this];exact List.getElem_mem d
 have C:=r _ u l;have A:=z Om;rw[A]at m ⊢;have x:=p i (Yag _) d l m;rw[(ZHk q m).1];unfold jmpB;rw[ZHE (c _).2]
 exact decide_eq_false (fun e => by
   rcases e with e|e
   · exact(c _).1 e
   · exact x e)
theorem ZIw(h:ZD s=.ok T)(e:fl % 2=1)(j:Zf T=1):(LS.codeOf T fl).jz.length=1/\(ZbJ (LS.codeOf T fl)).getD (offQ (LS.codeOf T fl)) 0=0:=by
 have c:=Ze2 h;have l:=ZIx c.1 c.2.1 c.2.2 j e
 have d:(LS.codeOf T fl).jz=[(0,0)]:=by
  show(if 4<=fl then Zch _ else _)=_;rw[l];split <;> rfl
 have m:(LS.codeOf T fl).jz.length=1:=by rw[d];rfl
 refine⟨m,?_⟩;have:=(ZHk (LS.codeOf T fl) (i:=0) Om).1;rw[d]at this;exact this
end
end
section
theorem ZHY(a:LB)(c:LB)(p:BA)(h:bl p=b):bl ((⟨a.toArray⟩++p)++⟨c.toArray⟩:BA)=a++b++c:=by
 rw[ZcV,ZcV,h,ZbF,ZbF]
theorem ZIg{t:Tr}(h:Prd t)(m:Zf t≠0)(c:Zey (brT t++32::111::114::32::[120])=(r,4,p)):Zf t=1:=by
 have d:Zf t=1∨Zf t=2:=by
  have : ∀ t : Tr, Zf t <= 2 := fun t => by
    induction t with
    | nil=>decide
    | node x y a l r g k=>
      unfold Zf;split
      · omega
      · split
        · omega
        · split
          · exact g
          · split
            · split <;> omega
            · split
              · omega
              · split <;> omega
  have:=this t;omega
 rcases d with e|e
 ·exact e
 ·exfalso
  have i:Zf (orT t (selX 120))=2:=by
   have j:Zf (selX 120)=2:=rfl;unfold orT Zf;simp[nd0,e,j]
  unfold Zey at c;rcases ZIr h with q|⟨p,q⟩|q
  ·rw[q]at c;injection c with _ c;injection c with c;cases c
  ·rw[q]at c;injection c with _ c;injection c with c;cases c
  ·rw[q,i]at c;injection c with _ c;injection c with c;cases c
section
variable {t:Tr} {f:Nat}
def CmpS(f n q:Nat)(s:LB):Prop:=(∃rb,ZcM s f=(rb,0,0)/\ZFb rb=some (n,q))∨(∃rb x,ZcM s f=(rb,1,x))∨(∃rb x,ZcM s f=(rb,3,x))
theorem ZHJ:ZD [120,32,43,32,49]=.ok (binT 0 (selX 120) one1):=by kernel_rfl
theorem ZHK:ZD [49,32,42,32,120]=.ok (binT 2 one1 (selX 120)):=by kernel_rfl
theorem ZHL:ZD [115,117,109,32,98,121,32,40,41,32,40,120,32,45,32,49,41]=.ok (sumT (binT 1 (selX 120) one1)):=by kernel_rfl
theorem ZHM:ZD [120,32,111,114,32,49,32,47,32,121]=.ok (orT (selX 120) (binT 3 one1 (selX 121))):=by kernel_rfl
theorem ZH9(h:Zf t=1):Zf (binT 0 (selX 120) t)≠0:=by
 have a:Zf (selX 120)=2:=rfl;unfold binT Zf;simp[nd0,h,a]
theorem ZIa(h:Zf t=1):Zf (binT 2 t (selX 120))≠0:=by
 have a:Zf (selX 120)=2:=rfl;unfold binT Zf;simp[nd0,h,a]
theorem ZIb(h:Zf t=1):Zf (sumT (binT 1 (selX 120) t))≠0:=by
 have a:Zf (selX 120)=2:=rfl;have c:Zf (binT 1 (selX 120) t)=2:=by unfold binT Zf;simp[nd0,h,a]
 unfold sumT Zf;simp[c]
theorem ZIc(h:Zf t=1):Zf (orT (selX 120) (binT 3 t (selX 121)))≠0:=by
 have a:Zf (selX 120)=2:=rfl;have c:Zf (selX 121)=2:=rfl;have d:Zf (binT 3 t (selX 121))=2:=by unfold binT Zf;simp[nd0,h,c]
 unfold orT Zf;simp[nd0,d,a]
structure Fd (f n:Nat) (a b:LB):Prop where
 a:∃ra p,ZcM a f=(ra,0,0)/\ZFb ra=some (n,p)
 b:∃q,CmpS f n q b
theorem ZGS{f n:Nat}{a:LB}{T1 T:Tr}(c:f<=7)(d:ZD a=.ok T1)(e:(Zv (Zb T1 (g0 f)).2 (Zb T1 (g0 f)).1).jz.length=n)(g:Rt b T)(h:Zf T≠0)(i:ZD b=.ok T->(Zv (Zb T (g0 f)).2 (Zb T (g0 f)).1).jz.length=n):Fd f n a b:=
 ⟨⟨_,_,ZuZ d c,by rw[ZGR d,e]⟩,_,ZH3 g h c i⟩
theorem ZH2(h:Prd t)(g:wfT t)(i:isNil t=false)(a:Zf t=1)(d:f<=7)(c:f % 2=1) :
  Fd f 3 [120,32,43,32,49] ([120,32,43,32,40]++Zu t 1++[41])/\Fd f 3 [49,32,42,32,120] ([40]++Zu t 1++[41,32,42,32,120])/\Fd f 4 [115,117,109,32,98,121,32,40,41,32,40,120,32,45,32,49,41] ([115,117,109,32,98,121,32,40,41,32,40,120,32,45,32,40]++Zu t 1++[41,41])/\Fd f 6 [120,32,111,114,32,49,32,47,32,121] ([120,32,111,114,32,40]++Zu t 1++[41,32,47,32,121]):=by
 obtain⟨o1,o2,o3⟩:=ZIf;have e:brT t=[40]++Zu t 1++[41]:=rfl;have ra:=ZIv h;have rb:=ZIq h;have rc:=ZIt h;have rd:=ZIp h;unfold sumB at rc;rw[e]at ra rb rc rd;simp only[Yan,Yby,Ycu]at ra rb rc rd ⊢;refine⟨?_,?_,?_,?_⟩
 ·exact ZGS d ZHJ (ZHq (ZGz ZHJ o1 o2 o3) c) ra (ZH9 a) (fun q=>ZHq (ZGz q g i a) c)
 ·exact ZGS d ZHK (ZHs (ZGz ZHK o1 o2 o3) c) rb (ZIa a) (fun q=>ZHs (ZGz q g i a) c)
 ·exact ZGS d ZHL (ZHu (ZGz ZHL o1 o2 o3) c) rc (ZIb a) (fun q=>ZHu (ZGz q g i a) c)
 ·exact ZGS d ZHM (ZHt (ZGz ZHM o1 o2 o3) c) rd (ZIc a) (fun q=>ZHt (ZGz q g i a) c)
theorem ZJh{s:LB}{h:Nat}(g:ZD s=.ok t)(i:f<=7)(k:f / 2 % 2=1)(a:ZcM ([40]++Zu t 1++[41,32,43,32,40]++Zu t 1++[41]) f=(r,h,p))(l:h≠1)(n:h≠3):h=0/\∃m q,ZFb r=some (m,q)/\1<=m/\m<=(LS.codeOf t f).jz.length+4:=by
 obtain⟨o,u⟩:=ZmU g;have d:=Ze2 g;have rt:=ZIu o;have e:brT t=[40]++Zu t 1++[41]:=rfl;rw[e]at rt;have e2:[40]++Zu t 1++[41]++32::43::32::([40]++Zu t 1++[41])=[40]++Zu t 1++[41,32,43,32,40]++Zu t 1++[41]:=by simp
 rw[e2]at rt
 have j:Zf (binT 0 t t)≠0:=by
  unfold binT Zf;simp only[nd0];simp[u];split <;> simp
 rcases rt with q|⟨p',q⟩|q
 ·unfold ZcM at a;rw[q]at a;injection a with _ a;injection a with a;exact absurd a.symm l
 ·unfold ZcM at a;rw[q]at a;injection a with _ a;injection a with a;exact absurd a.symm n
 ·rw[if_neg j]at q;rw[ZuZ q i]at a;injection a with c1 a;injection a with c2 c3;have c:=(Zla q f).2.2;rw[ZuP]at c;refine⟨c2.symm,_,_,by rw[<-c1];exact ZGR q f,c,?_⟩;rw[ZuP];exact ZJi d.1 d.2.1 d.2.2 k
end
end
section
theorem in3(a c:LB)(p:BA)(t:Tr)(h:bl p=Zu t 1):bl ((⟨a.toArray⟩++p)++⟨c.toArray⟩:BA)=a++Zu t 1++c:=ZHY a c p h
theorem sz3(a b c:BA):(a++b++c).size=a.size+b.size+c.size:=by simp[Yaz]
theorem sz3b{a b p:BA}(c:p.size<=100000)(h:a.size+b.size<=1000):(a++p++b).size<=9223372036854775807:=by rw[sz3];omega
theorem sz5{a b c p:BA}(d:p.size<=100000)(h:a.size+b.size+c.size<=1000):(a++p++b++p++c).size<=9223372036854775807:=by rw[sz3,sz3];omega
theorem in5(a b c:LB)(p:BA)(t:Tr)(h:bl p=Zu t 1):bl ((⟨a.toArray⟩++p)++⟨b.toArray⟩++p++⟨c.toArray⟩:BA)=a++Zu t 1++b++Zu t 1++c:=by
 rw[ZcV,ZcV,in3 a b p t h,h,ZbF]
theorem ZIK(q:BA)(fl:Int)(A:Nat->Addr)(m:Int)(w:World)(Z:Vars w A m)(D:ZR w)(B:20<=w.heap.size)(hq:q.size<=9223372036854775807)(b9 : -9223372036854775808<=fl)(c1:fl<=9223372036854775807) :
  Cz 4 #[.string q,Vi fl] w fun e u=>e=.returned (.bool true)/\BW w u:=by
 have HA:Hid (∀W,BW w W->Cz 6 #[] W _):=hid (fun W j=>ZtU A m W (Z.below j) (D.low j B) (Yah B j.size));have HP:Hid (∀(p:BA) W,p.size<=9223372036854775807->BW w W->Cz 7 #[.string p] W _):=hid (fun p W hp j=>Zpz p A m W (Z.below j) (D.low j B) (Yah B j.size) hp);have HC:Hid (∀(p:BA) (f:Nat) W,p.size<=9223372036854775807->BW w W->Cz 8 #[.string p,Vi f] W _):=hid (fun p f W hp j=>Zu2 p f A m W (Z.below j) (D.low j B) (Yah B j.size) hp)
 have K : Hid (∀ (f n : Nat) (a b : BA) W, 1 <= n -> Fd f n (bl a) (bl b) -> a.size <= 9223372036854775807 -> b.size <= 9223372036854775807 -> BW w W -> Cz 14 #[Vi f, .string a, .string b] W fun e u => e = .returned (.bool true) /\ BW W u) := hid (fun f n a b W hn e6 ha j k => by
   obtain⟨⟨ra,p,h1,h2⟩,q,C⟩:=e6;exact ZH4 f a b A m W (Z.below k) (D.low k B) (Yah B k.size) ha j n p q hn ra h1 h2 C)
 obtain⟨f,hf⟩:∃f:Nat,Zd6 fl 8=f:=⟨(Zd6 fl 8).toNat,by have:=ZmM fl 8 Om;omega⟩
 have e7:f<=7:=by have:=ZmM fl 8 Om;omega
 have c2:Hid (∀W,Cz 9 #[Vi fl,Vi 8] W fun e u=>e=.returned (Vi (f:Int))/\u=W):=hid (fun W=>by rw[<-hf];exact ZAC fl 8 b9 c1 Dc Dc W);have e8:=hid hq;have a0:=hid e7;clear Z D B hq hf b9 c1;go_enter func4,ntmps4
 go_wp2_with fail
 refine Zm fun W hW=>?_;have k:BW w W:=by rw[hW];exact Yaf _ _
 refine(HA.out W k).mono ?_;rintro e y ⟨rfl,c3⟩;have M:Hid (BW w y):=hid (k.trans (c3.mono k.size));clear c3 k hW HA
 go_wp2_with fail
 refine(c2.out _).mono ?_;rintro e wq ⟨rfl,rfl⟩;clear c2
 go_wp2_with fail
 refine(HP.out q _ e8.out M.out).mono ?_;rintro e z ⟨p,c,at_,rfl,N,a4,c4⟩;have E:Hid (BW w z):=hid (M.trans (c4.mono M.size));clear c4 M;cases F:ZD (bl q)with
 | error x=>
  have k1:Zey (bl q)=([],x.1,x.2):=by unfold Zey;rw[F]
  have k1':=N.symm.trans k1;injection k1' with a1 a2;injection a2 with a2 a3
  have hc:c≠0:=by
   rcases a4.out with ⟨t,D⟩|h
   ·rw[F]at D;cases D
   ·exact h
  obtain rfl:p=⟨#[]⟩:=ZgF a1;have f8:((c:Int) != 0)=true:=by rw[bne_iff_ne];omega
  clear N a4 k1 a1 a2 a3 F HP HC K;go_wp2;go_ret;exact⟨by simp,E.out⟩
 | ok t=>
  have c5:Zey (bl q)=(Zu t 1,0,0):=by unfold Zey;rw[F]
  have k1':=N.symm.trans c5;injection k1' with a1 a2;injection a2 with a2 a3;subst a2 a3;have O:=Ze2 F
  have d:p.size<=100000:=by
   rw[<-Zd,a1];exact Yah (Zfy t 1 O.1) O.2.2
  have a5:=ZIs F;have c6:=hid d;have a6:=hid (ZmU F);have c7:=hid O;have s:=hid a1;rw[<-a1,Zd]at a5;have P:=hid a5;clear c5 a1 O a5 F d N a4
  go_wp2_with fail
  refine(HC.out p f z (Yah c6.out Dc) E.out).mono ?_;rintro e w3 ⟨code,g,gat,rfl,Q,c8⟩;have R:Hid (BW w w3):=hid (E.trans (c8.mono E.size));clear c8 E;by_cases S:300<p.size
  ·have l:ZD (bl p)=.error (1,0):=by rw[P.out,if_pos S]
   have k1:ZcM (bl p) f=([],1,0):=by unfold ZcM;rw[l]
   have k1':=Q.symm.trans k1;injection k1' with a1 a2;injection a2 with a2 a3;subst a2 a3;have f9:(300:Int)<p.size:=by omega
   clear Q P k1 a1 l HP HC K;go_wp2;go_ret;exact⟨by simp,R.out⟩
  ·have l:ZD (bl p)=.ok t:=by rw[P.out,if_neg S]
   have k1:=ZuZ l a0.out;have k1':=Q.symm.trans k1;injection k1' with a1 a2;injection a2 with a2 a3;subst a2 a3;have a7:=ZGR l f;have e5:=(Zla l f).2;rw[<-ZuP]at a7;have G:Hid (ZFb (bl code)=some ((LS.codeOf t f).jz.length,offQ (LS.codeOf t f))):=hid (by rw[a1];exact a7);have c9:Hid (code.size<=100000000000):=hid (by have:=Zu0 k1;rw[<-a1,Zd]at this;exact this);have d0:=hid a1;have a8:=hid l;obtain⟨n,hn⟩:∃n,(LS.codeOf t f).jz.length=n:=⟨_,rfl⟩
   obtain⟨off,L⟩:∃n,offQ (LS.codeOf t f)=n:=⟨_,rfl⟩
   have HN:=hid hn;have a9:=hid L;rw[hn,L]at G;have e9:1<=n:=by omega
   have g4:n<=3110:=by omega
   clear Q P k1 a1 l a7 e5 hn L
   go_wp2_with fail
   refine(ZGM code (by have:=c9.out;omega) _).mono ?_;rintro e w4 ⟨n4,p4,rfl,d1,d2⟩;have T:=hid (R.trans (d2.mono R.size))
   obtain⟨rfl,rfl⟩:n4=n/\p4=off:=by
    rcases d1.out with h|⟨q,h,C,H⟩
    ·rw[G.out]at h;cases h.1
    ·rw[G.out]at h;injection h with h;subst h;exact⟨C,H⟩
   clear d2 d1 R;have f0:¬((n:Int)<1):=by omega
   have d:=c6.out
   go_wp2_with fail
   refine(HP.out _ _ (sz3b d Dc) T.out).mono ?_;rintro e w5 ⟨r5,kd,p5,rfl,b0,_,d3⟩;have i:=hid (T.trans (d3.mono T.size))
   have HK : Hid (kd = 4 -> Zf t = 1) := hid (fun H => by
     subst H;refine ZIg a6.1 a6.2 (r:=bl r5) (p:=p5) ?_;rw[<-b0.out,in3 [40] [41,32,111,114,32,120] p t s.out];unfold brT ZeK;simp)
   clear d3 T b0;have i0:=ZGE code p4 (by have:=ZHx G.out;rw[Zd]at this;omega);have g5:(0:Int)<=f:=by omega
   have d4 : Hid (4 <= f -> ∀ W, Cz 15 #[.string code] W fun e u => e = .returned (.bool true) /\ BW W u) := hid (fun H W => ZIH code n p4 G.out e9 (by have := c9.out; omega) (by
     have:=ZH0 a8.out H;rw[HN.out,a9.out,<-d0.out]at this;exact this) W)
   by_cases d5:f % 2=1/\kd=4
   case' pos=>
    obtain⟨o,rfl⟩:=d5;have b1:(f:Int) % 2=1:=by omega
    have b2:=ZIw a8.out o (HK.out rfl);have d6:(bl code).getD p4 0=0:=by rw[d0.out,<-a9.out];exact b2.2
    have b3:(n:Int)=1:=by have:=HN.out;have:=b2.1;omega
    have f1:=hid b3;have I:=hid (ZH2 a6.1 c7.1 c7.2.1 (HK.out rfl) a0.out o);have d7:(((0:UInt8).toNat:Nat):Int)=0:=rfl;rw[d6,d7]at i0;clear d6 b2 d7
    go_wp2_with fail
    clear b3;refine(K.out f 3 ⟨#[120,32,43,32,49]⟩ _ _ Dc (by rw[in3 [120,32,43,32,40] [41] p t s.out];exact I.1) Dc (sz3b d Dc) i.out).mono ?_;rintro e w6 ⟨rfl,d8⟩;have U:=hid (i.trans (d8.mono i.size));clear d8
    go_wp2_with fail
    refine(K.out f 3 ⟨#[49,32,42,32,120]⟩ _ _ Dc (by rw[in3 [40] [41,32,42,32,120] p t s.out];exact I.2.1) Dc (sz3b d Dc) U.out).mono ?_;rintro e w7 ⟨rfl,d9⟩;have V:=hid (U.trans (d9.mono U.size));clear d9
    go_wp2_with fail
    refine(K.out f 4 ⟨#[115,117,109,32,98,121,32,40,41,32,40,120,32,45,32,49,41]⟩ _ _ Dc (by rw[in3 [115,117,109,32,98,121,32,40,41,32,40,120,32,45,32,40] [41,41] p t s.out];exact I.2.2.1) Dc (sz3b d Dc) V.out).mono ?_;rintro e w8 ⟨rfl,e0⟩;have X:=hid (V.trans (e0.mono V.size));clear e0
    go_wp2_with fail
    refine(K.out f 6 ⟨#[120,32,111,114,32,49,32,47,32,121]⟩ _ _ Dc (by rw[in3 [120,32,111,114,32,40] [41,32,47,32,121] p t s.out];exact I.2.2.2) Dc (sz3b d Dc) X.out).mono ?_;rintro e w9 ⟨rfl,e1⟩;have J:=hid (X.trans (e1.mono X.size));clear e1 i U V X I b1 o i0 f0
   case' neg=>
    have e2:f % 2=1->¬((kd:Int)=4):=fun h h2=>d5 ⟨h,by omega⟩;by_cases o:f % 2=1
    case' pos=>
     have b1:(f:Int) % 2=1:=by omega
     have f7:=e2 o
    case' neg=>have b1:(f:Int) % 2=0:=by omega
    all_goals clear e2
   all_goals by_cases H:4<=f
   all_goals first
    | (have f2 : (4 : Int) <= f := by omega
       go_wp2_with fail
       refine(d4.out H _).mono ?_;rintro e wa ⟨rfl,b4⟩;have b5:Hid (BW w wa):=by first|exact hid (J.trans (b4.mono J.size))|exact hid (i.trans (b4.mono i.size))
       clear b4
       go_wp2_with fail)
    | (have f2 : ¬ (4 : Int) <= f := by omega
       go_wp2_with fail)
   all_goals refine(HC.out _ f _ (sz5 d Dc) (by first|exact b5.out|exact J.out|exact i.out)).mono ?_
   all_goals rintro e wb ⟨tw,h,ph,rfl,b6,Y⟩
   all_goals have v:Hid (BW w wb):=by first|exact hid (b5.trans (Y.mono b5.size))|exact hid (J.trans (Y.mono J.size))|exact hid (i.trans (Y.mono i.size))
   all_goals have f3:=hid (Zu0 b6.out)
   all_goals clear Y
   all_goals go_wp2_with fail
   all_goals refine(ZIk p Om).mono ?_
   all_goals rintro e wc ⟨rfl,rfl⟩
   all_goals generalize ZGs (bl p)=pl
   all_goals clear HP HC K d4
   all_goals rcases Nat.mod_two_eq_zero_or_one (f / 2)with hs|hs
   all_goals first
    | (have f4 : (f : Int) / 2 % 2 = 0 := by omega
       go_wp2;go_ret;exact⟨rfl,v.out⟩)
    | (have f4 : (f : Int) / 2 % 2 = 1 := by omega
       cases pl with
       | true=>
         go_wp2;go_ret;exact⟨rfl,v.out⟩
       | false=>
         by_cases h1:h=1
         · subst h1
           go_wp2;go_ret;exact⟨rfl,v.out⟩
         · have g6:¬((h:Int)=1):=by omega
           by_cases C:h=3
           · subst C
             go_wp2;go_ret;exact⟨rfl,v.out⟩
           · have g7:¬((h:Int)=3):=by omega
             have b7:=hid (ZJh a8.out a0.out hs (by rw[<-in5 [40] [41,32,43,32,40] [41] p t s.out];exact b6.out) h1 C);have h0:=b7.1;subst h0;obtain⟨m5,q5,g1,g2,g3⟩:=b7.2;rw[HN.out]at g3;have b8:=hid g1;have g2z:(1:Int)<=m5:=by omega
             have g3z:(m5:Int)<=n+4:=by omega
             have g4z:(n:Int)<=3110:=by omega
             clear g1 g2 g3 b7 h1 C b6
             go_wp2_with fail
             refine(ZGM tw (by have:=f3.out;rw[Zd]at this;omega) _).mono ?_;rintro e wd ⟨n5,p6,rfl,e3,e4⟩;have f5:=hid (v.trans (e4.mono v.size))
             have f6:n5=m5:=by
               rcases e3.out with h|⟨q,h,C,H⟩
               · rw[b8.out]at h;cases h.1
               · rw[b8.out]at h;injection h with h;subst h;exact C
             subst f6;clear e4 e3 b8;go_wp2;go_ret;exact⟨by first|rfl|(simp;done)|(have:=f1.out;simp;omega),f5.out⟩)

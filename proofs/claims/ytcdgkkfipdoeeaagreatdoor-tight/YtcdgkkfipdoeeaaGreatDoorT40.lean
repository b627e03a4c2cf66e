/- Parts. -/
import Derived.Test.YtcdgkkfipdoeeaaGreatDoorT37
import Derived.Test.YtcdgkkfipdoeeaaGreatDoorT39
import Derived.Test.YtcdgkkfipdoeeaaGreatDoorT33
import Derived.Test.YtcdgkkfipdoeeaaGreatDoorT00
set_option linter.unusedSimpArgs false
set_option maxRecDepth 100000
set_option maxHeartbeats 8000000
namespace Go.Proofs.YtcdgkkfipdoeeaaGreatDoor
open Go.RowKit LS
section
variable {nodes:List Nq} {g:Gq} {n k a b f:Nat} {o:Int} {t:Tr} {T:List Nat}
theorem Zkr(h0:Zg (nodes.getD n nq0)=[])(h1:(nodes.getD n nq0).op≠10)(hf:n<f):lenQ nodes f n=1:=by
 obtain⟨f,rfl⟩:∃k,f=k+1:=⟨f - 1,by omega⟩
 rw[lenQ,if_neg h1,h0]
 rfl
theorem Zie(hok:NOk nodes)(hz:nodes.getD k nq0=⟨3,o,some a,some b⟩)(ha:Zg (nodes.getD a nq0)=[]/\(nodes.getD a nq0).op≠10)(hb:Zg (nodes.getD b nq0)=[]/\(nodes.getD b nq0).op≠10)(hf:k<f):lenQ nodes f k=3:=by
 have h1:=Zbj hok k a (by rw[hz];simp[Zg])
 have h2:=Zbj hok k b (by rw[hz];simp[Zg])
 obtain⟨f,rfl⟩:∃k,f=k+1:=⟨f - 1,by omega⟩
 rw[lenQ,hz,if_neg (by show(3:Nat)≠10;decide)]
 show lenQ nodes f a+(lenQ nodes f b+0)+1=3
 rw[Zkr ha.1 ha.2 (by omega),Zkr hb.1 hb.2 (by omega)]
def pkS(c:UInt8):Nd×Nat:=(ZbJ ⟨1,0,0,[c],[],[]⟩,0)
theorem Zk5(c:UInt8)(g:Gq):Zb (selX c) g=Zx (pkS c) g:=rfl
theorem ZoW(o:Nat)(l r:Tr)(g:Gq):Zb (binT o l r) g=Z0 o (Zb l g).1 (Zb r (Zb l g).2).1 (Zb r (Zb l g).2).2:=rfl
theorem Zwd(l r:Tr)(g:Gq):Zb (orT l r) g=addQ ⟨10,0,some (Zb l g).1,some (Zb r (Zb l g).2).1⟩ (Zb r (Zb l g).2).2:=rfl
theorem Zwf(l:Tr)(g:Gq):Zb (sumT l) g=addQ ⟨5+0,(ZZ [] (Zb l g).2).1,some (Zb l g).1,none⟩ (ZZ [] (Zb l g).2).2:=rfl
structure Pk (g:Gq) (c:UInt8) (i:Nat):Prop where
 get:(Zx (pkS c) g).2.nodes.getD (Zx (pkS c) g).1 nq0=⟨1,(i:Nat),none,none⟩
 se:(Zx (pkS c) g).2.sels=g.sels++[pkS c]
 us:∀T,Us g T->Us (Zx (pkS c) g).2 T
 px:Px g (Zx (pkS c) g).2
 lt:(Zx (pkS c) g).1<(Zx (pkS c) g).2.nodes.length
theorem Zk7{c:UInt8}(h:idx (ZM (pkS c)) (g.sels.map ZM)=none):Pk g c g.sels.length:=by
 have e:Zx (pkS c) g=addQ ⟨1,(g.sels.length:Nat),none,none⟩ { g with sels:=g.sels++[pkS c] }:=by unfold Zx;rw[h]
 have hs:(addQ ⟨1,(g.sels.length:Nat),none,none⟩ { g with sels:=g.sels++[pkS c] }).2.sels=g.sels++[pkS c]:=by unfold addQ;split <;> rfl
 refine⟨by rw[e];exact(ZdE _ _).1,by rw[e];exact hs,fun T hT=>?_,Ziu _ _,(Zhd _ _).2⟩
 rw[e]
 exact Us.add (g:={ g with sels:=g.sels++[pkS c] }) (T:=T) hT _
theorem ZnU(h:(g.nodes.getD n nq0).op≠0):Zbh n g=none:=by unfold Zbh;rw[if_neg (fun q=>h q.2)]
theorem ZoU{o x y:Nat}(h:Zbh x g=none∨Zbh y g=none):Z0 o x y g=addQ ⟨3,o,some x,some y⟩ g:=by
 unfold Z0
 cases hx:Zbh x g with
 | none=>rfl
 | some u=>
  cases hy:Zbh y g with
  | none=>rfl
  | some v=>rw[hx,hy]at h;rcases h with h|h <;> cases h
theorem us0(fl:Nat):Us (g0 fl) []:=fun n=>by show([]:List Nat).getD n 0<=0;simp
theorem ZhM{fl:Nat}(hf:fl % 2=1):(g0 fl).fold=true:=by unfold g0;simp[hf]
theorem Us.once (h : Us g T) (hT : T.Nodup) : ∀ n, g.uses.getD n 0 <= 1 := fun n => Nat.le_trans (h n) (by
  induction T with
  | nil=>simp
  | cons a T ih=>
    rw[List.nodup_cons]at hT
    rw[List.count_cons]
    by_cases e:a=n
    · subst e;rw[List.count_eq_zero_of_not_mem hT.1];simp
    · have h1:T.count n<=1:=by
        have hc:∀(T:List Nat),T.Nodup->T.count n<=1:=by
          intro T
          induction T with
          | nil=>intro _;simp
          | cons b T ih2=>
            intro hT
            rw[List.nodup_cons]at hT
            rw[List.count_cons]
            by_cases e2:b=n
            · subst e2;rw[List.count_eq_zero_of_not_mem hT.1];simp
            · have:=ih2 hT.2;simp[e2];exact this
        exact hc T hT.2
      simp[e];exact h1)
theorem ZfN{i j:Nat}(h:(g.nodes.getD i nq0).op≠(g.nodes.getD j nq0).op):i≠j:=fun e=>h (by rw[e])
variable {fl:Nat}
theorem Zob(g:Gq)(c:UInt8)(o:Nat)(hw:wfT t)(hn:isNil t=false)(hk:Zf t=1)(hf:g.fold=true)(hp:idx (ZM (pkS c)) (g.sels.map ZM)=none){T:List Nat}(hT:Us g T):∃i r k G,Zb (binT o (selX c) t) g=(k,G)/\G.nodes.getD k nq0=⟨3,(o:Nat),some i,some r⟩/\G.nodes.getD i nq0=⟨1,(g.sels.length:Nat),none,none⟩/\(∃v,G.nodes.getD r nq0=⟨0,v,none,none⟩)/\Us G ([i,r]++T)/\Px g G:=by
 have P:=Zk7 hp
 rw[ZoW,Zk5]
 obtain⟨K,E⟩:=Zhb t (Zx (pkS c) g).2 hw hn (P.px.fo.trans hf) hk
 have hr:=(Zch t (Zx (pkS c) g).2 hw).2 hn
 have hU:=(P.us T hT).ext E
 have pxr:=Zee t (Zx (pkS c) g).2
 have pg:=P.get
 have pl:=P.lt
 have px:=P.px
 generalize hq:Zb t (Zx (pkS c) g).2=q at *
 generalize Zx (pkS c) g=p at *
 have gi:q.2.nodes.getD p.1 nq0=⟨1,(g.sels.length:Nat),none,none⟩:=by rw[ZbF pxr.nd pl];exact pg
 have il:p.1<q.2.nodes.length:=Nat.lt_of_lt_of_le pl pxr.nd.length_le
 rw[ZoU (Or.inl (ZnU (by rw[gi];show(1:Nat)≠0;decide)))]
 have hz:=(ZdE ⟨3,(o:Nat),some p.1,some q.1⟩ q.2).1
 have hx:=ZbU ⟨3,(o:Nat),some p.1,some q.1⟩ q.2
 exact⟨p.1,q.1,(addQ ⟨3,(o:Nat),some p.1,some q.1⟩ q.2).1,(addQ ⟨3,(o:Nat),some p.1,some q.1⟩ q.2).2,rfl,hz,by rw[ZbF hx.nd il];exact gi,by rw[ZbF hx.nd hr];exact K.2,hU.add _,(px.trans pxr).trans hx⟩
theorem Zpe(g:Gq)(c:UInt8)(o:Nat)(hw:wfT t)(hn:isNil t=false)(hk:Zf t=1)(hf:g.fold=true)(hp:idx (ZM (pkS c)) (g.sels.map ZM)=none){T:List Nat}(hT:Us g T):∃i r k G,Zb (binT o t (selX c)) g=(k,G)/\G.nodes.getD k nq0=⟨3,(o:Nat),some r,some i⟩/\G.nodes.getD i nq0=⟨1,(g.sels.length:Nat),none,none⟩/\(∃v,G.nodes.getD r nq0=⟨0,v,none,none⟩)/\Us G ([r,i]++T)/\Px g G:=by
 rw[ZoW,Zk5]
 obtain⟨K,E⟩:=Zhb t g hw hn hf hk
 have hr:=(Zch t g hw).2 hn
 have hU:=hT.ext E
 have pxr:=Zee t g
 have P:=Zk7 (g:=(Zb t g).2) (c:=c) (by rw[E.se];exact hp)
 have pg:=P.get
 have pl:=P.lt
 have px:=P.px
 have pu:=P.us T hU
 rw[E.se]at pg
 generalize hq:Zb t g=q at *
 generalize Zx (pkS c) q.2=p at *
 have gr:∃v,p.2.nodes.getD q.1 nq0=⟨0,v,none,none⟩:=by rw[ZbF px.nd hr];exact K.2
 have rl:q.1<p.2.nodes.length:=Nat.lt_of_lt_of_le hr px.nd.length_le
 rw[ZoU (Or.inr (ZnU (by rw[pg];show(1:Nat)≠0;decide)))]
 have hz:=(ZdE ⟨3,(o:Nat),some q.1,some p.1⟩ p.2).1
 have hx:=ZbU ⟨3,(o:Nat),some q.1,some p.1⟩ p.2
 exact⟨p.1,q.1,(addQ ⟨3,(o:Nat),some q.1,some p.1⟩ p.2).1,(addQ ⟨3,(o:Nat),some q.1,some p.1⟩ p.2).2,rfl,hz,by rw[ZbF hx.nd pl];exact pg,by rw[ZbF hx.nd rl];exact gr,pu.add _,(pxr.trans px).trans hx⟩
theorem ZhO{t:Tr}(hw:wfT t)(hn:isNil t=false)(ht:wT t<=100000)(fl:Nat):NOk (Zb t (g0 fl)).2.nodes:=(Zfq t (g0 fl) hw hn (fun i hi=>absurd hi (Nat.not_lt_zero _)) (by show 0+wT t<=_;omega) (by show 0+wT t<=_;omega)).ok
structure Fs (T t:Tr):Prop where
 w:wfT T
 n:isNil T=false
 s:wT T<=100000
 wt:wfT t
 nt:isNil t=false
 kt:Zf t=1
theorem Zm9(h:Fs (binT 0 (selX 120) t) t)(hf:fl % 2=1):(ZJ (Zb (binT 0 (selX 120) t) (g0 fl)).2 (Zb (binT 0 (selX 120) t) (g0 fl)).1).ins.length=3:=by
 have hok:=ZhO h.w h.n h.s fl
 obtain⟨i,r,k,G,e,hz,hi,⟨v,hr⟩,hU,_⟩:=Zob (g0 fl) 120 0 h.wt h.nt h.kt (ZhM hf) rfl (us0 fl)
 rw[e]at hok ⊢
 have n1:i≠r:=ZfN (g:=G) (by rw[hi,hr];show(1:Nat)≠0;decide)
 rw[ZhA (hU.once (by simp[n1]))]
 exact Zie hok hz ⟨by rw[hi];rfl,by rw[hi];show(1:Nat)≠10;decide⟩ ⟨by rw[hr];rfl,by rw[hr];show(0:Nat)≠10;decide⟩ (Nat.lt_succ_self _)
theorem Znd(h:Fs (binT 2 t (selX 120)) t)(hf:fl % 2=1):(ZJ (Zb (binT 2 t (selX 120)) (g0 fl)).2 (Zb (binT 2 t (selX 120)) (g0 fl)).1).ins.length=3:=by
 have hok:=ZhO h.w h.n h.s fl
 obtain⟨i,r,k,G,e,hz,hi,⟨v,hr⟩,hU,_⟩:=Zpe (g0 fl) 120 2 h.wt h.nt h.kt (ZhM hf) rfl (us0 fl)
 rw[e]at hok ⊢
 have n1:r≠i:=ZfN (g:=G) (by rw[hi,hr];show(0:Nat)≠1;decide)
 rw[ZhA (hU.once (by simp[n1]))]
 exact Zie hok hz ⟨by rw[hr];rfl,by rw[hr];show(0:Nat)≠10;decide⟩ ⟨by rw[hi];rfl,by rw[hi];show(1:Nat)≠10;decide⟩ (Nat.lt_succ_self _)
theorem Ztf(ns:List (List UInt8)){T:List Nat}(h:Us g T):Us (ZZ ns g).2 T:=by unfold ZZ;split <;> exact h
theorem Zng(h:Fs (sumT (binT 1 (selX 120) t)) t)(hf:fl % 2=1):(ZJ (Zb (sumT (binT 1 (selX 120) t)) (g0 fl)).2 (Zb (sumT (binT 1 (selX 120) t)) (g0 fl)).1).ins.length=4:=by
 have hok:=ZhO h.w h.n h.s fl
 obtain⟨i,r,k,G,e,hz,hi,⟨v,hr⟩,hU,_⟩:=Zob (g0 fl) 120 1 h.wt h.nt h.kt (ZhM hf) rfl (us0 fl)
 have hkl:=(Zch (binT 1 (selX 120) t) (g0 fl) h.w.2.2.2.2.2.2.2.2.2.2.1).2 rfl
 rw[Zwf,e]at hok ⊢
 rw[e]at hkl
 simp only at hok hkl ⊢
 have hgn:=(ZgU [] G).2.2
 have hU2:=Ztf [] hU
 generalize ZZ [] G=H at *
 have hx:=ZbU ⟨5+0,(H.1:Nat),some k,none⟩ H.2
 have hz2:=(ZdE ⟨5+0,(H.1:Nat),some k,none⟩ H.2).1
 have hU3:=hU2.add ⟨5+0,(H.1:Nat),some k,none⟩
 rw[<-hgn]at hz hi hr hkl
 have gz:(addQ ⟨5+0,(H.1:Nat),some k,none⟩ H.2).2.nodes.getD k nq0=⟨3,((1:Nat):Int),some i,some r⟩:=by rw[ZbF hx.nd hkl];exact hz
 have ki:=Zbj hok k i (by rw[gz];simp[Zg])
 have kr:=Zbj hok k r (by rw[gz];simp[Zg])
 have gi:(addQ ⟨5+0,(H.1:Nat),some k,none⟩ H.2).2.nodes.getD i nq0=⟨1,(((g0 fl).sels.length:Nat):Int),none,none⟩:=by rw[ZbF hx.nd (by omega)];exact hi
 have gr:(addQ ⟨5+0,(H.1:Nat),some k,none⟩ H.2).2.nodes.getD r nq0=⟨0,v,none,none⟩:=by rw[ZbF hx.nd (by omega)];exact hr
 generalize addQ ⟨5+0,(H.1:Nat),some k,none⟩ H.2=J at *
 have n1:i≠r:=ZfN (g:=J.2) (by rw[gi,gr];show(1:Nat)≠0;decide)
 have kk:=Zbj hok J.1 k (by rw[hz2];simp[Zg])
 rw[ZhA (hU3.once (by
  show([k]++([i,r]++[])).Nodup
  simp[n1];omega)),lenQ,hz2,if_neg (by show(5+0:Nat)≠10;decide)]
 show(lenQ J.2.nodes J.1 k+0)+1=4
 rw[Zie hok gz ⟨by rw[gi];rfl,by rw[gi];show(1:Nat)≠10;decide⟩ ⟨by rw[gr];rfl,by rw[gr];show(0:Nat)≠10;decide⟩ kk]
theorem Zne(h:Fs (orT (selX 120) (binT 3 t (selX 121))) t)(hf:fl % 2=1):(ZJ (Zb (orT (selX 120) (binT 3 t (selX 121))) (g0 fl)).2 (Zb (orT (selX 120) (binT 3 t (selX 121))) (g0 fl)).1).ins.length=6:=by
 have hok:=ZhO h.w h.n h.s fl
 have P:=Zk7 (g:=g0 fl) (c:=120) rfl
 have pu:=P.us [] (us0 fl)
 obtain⟨i,r,k,G,e,hz,hi,⟨v,hr⟩,hU,hpx⟩:=Zpe (Zx (pkS 120) (g0 fl)).2 121 3 h.wt h.nt h.kt (P.px.fo.trans (ZhM hf)) (by rw[P.se];rfl) pu
 have hkl:=(Zch (binT 3 t (selX 121)) (Zx (pkS 120) (g0 fl)).2 h.w.2.2.2.2.2.2.2.2.2.2.2).2 rfl
 rw[Zwd,Zk5,e]at hok ⊢
 rw[e]at hkl
 simp only at hok hkl ⊢
 have g0x:G.nodes.getD (Zx (pkS 120) (g0 fl)).1 nq0=⟨1,((0:Nat):Int),none,none⟩:=by rw[ZbF hpx.nd P.lt];exact P.get
 have hi':G.nodes.getD i nq0=⟨1,((1:Nat):Int),none,none⟩:=by rw[hi,P.se];rfl
 have jl:=Nat.lt_of_lt_of_le P.lt hpx.nd.length_le
 generalize(Zx (pkS 120) (g0 fl)).1=j at *
 have hx:=ZbU ⟨10,0,some j,some k⟩ G
 have hz2:=(ZdE ⟨10,0,some j,some k⟩ G).1
 have hU3:=hU.add ⟨10,0,some j,some k⟩
 have gz:(addQ ⟨10,0,some j,some k⟩ G).2.nodes.getD k nq0=⟨3,((3:Nat):Int),some r,some i⟩:=by rw[ZbF hx.nd hkl];exact hz
 have ki:=Zbj hok k i (by rw[gz];simp[Zg])
 have kr:=Zbj hok k r (by rw[gz];simp[Zg])
 have gi:(addQ ⟨10,0,some j,some k⟩ G).2.nodes.getD i nq0=⟨1,((1:Nat):Int),none,none⟩:=by rw[ZbF hx.nd (by omega)];exact hi'
 have gr:(addQ ⟨10,0,some j,some k⟩ G).2.nodes.getD r nq0=⟨0,v,none,none⟩:=by rw[ZbF hx.nd (by omega)];exact hr
 have gj:(addQ ⟨10,0,some j,some k⟩ G).2.nodes.getD j nq0=⟨1,((0:Nat):Int),none,none⟩:=by rw[ZbF hx.nd jl];exact g0x
 generalize addQ ⟨10,0,some j,some k⟩ G=J at *
 have n1:r≠i:=ZfN (g:=J.2) (by rw[gi,gr];show(0:Nat)≠1;decide)
 have n2:j≠k:=ZfN (g:=J.2) (by rw[gj,gz];show(1:Nat)≠3;decide)
 have n3:j≠r:=ZfN (g:=J.2) (by rw[gj,gr];show(1:Nat)≠0;decide)
 have n4:j≠i:=fun e=>by rw[e,gi]at gj;injection gj with _ q;cases q
 have kk:=Zbj hok J.1 k (by rw[hz2];simp[Zg])
 have kj:=Zbj hok J.1 j (by rw[hz2];simp[Zg])
 rw[ZhA (hU3.once (by
  show([j,k]++([r,i]++[])).Nodup
  simp[n1,n2,n3,n4];omega)),lenQ,hz2,if_pos rfl]
 show lenQ J.2.nodes J.1 j+2+lenQ J.2.nodes J.1 k=6
 rw[Zkr (by rw[gj];rfl) (by rw[gj];show(1:Nat)≠10;decide) kj,Zie hok gz ⟨by rw[gr];rfl,by rw[gr];show(0:Nat)≠10;decide⟩ ⟨by rw[gi];rfl,by rw[gi];show(1:Nat)≠10;decide⟩ kk]
end
section
variable {fl n:Nat} {t T:Tr} {s:List UInt8}
theorem Zhz(t:Tr)(fl:Nat):(LS.codeOf t fl).ins.length=(ZJ (Zb t (g0 fl)).2 (Zb t (g0 fl)).1).ins.length:=by
 show(if 4<=fl then ZbR _ else _).length=_
 split
 ·exact(Zf7 _ _ (ZgM _ _)).2
 ·rfl
theorem ZhC(h:ZB s=.ok T)(hfl:fl<=7):Zbe s fl=(ZbB (LS.codeOf T fl),0,0):=by
 unfold Zbe
 rw[h]
 simp only
 rw[if_neg (by omega)]
 rfl
theorem ZhB(h:ZB s=.ok T)(fl:Nat):ZbM (ZbB (LS.codeOf T fl))=some ((ZJ (Zb T (g0 fl)).2 (Zb T (g0 fl)).1).ins.length,offQ (LS.codeOf T fl)):=by
 rw[ZtA (ZgL h fl).1,Zhz]
theorem ZsZ(h:Rt s T)(hk:Zf T≠0)(hfl:fl<=7)(hl:ZB s=.ok T->(ZJ (Zb T (g0 fl)).2 (Zb T (g0 fl)).1).ins.length=n):(∃rb,Zbe s fl=(rb,0,0)/\ZbM rb=some (n,offQ (LS.codeOf T fl)))∨(∃rb x,Zbe s fl=(rb,1,x))∨(∃rb x,Zbe s fl=(rb,3,x)):=by
 rcases h with h|⟨p,h⟩|h
 ·exact Or.inr (Or.inl ⟨[],0,by unfold Zbe;rw[h]⟩)
 ·exact Or.inr (Or.inr ⟨[],p,by unfold Zbe;rw[h]⟩)
 ·rw[if_neg hk]at h
  exact Or.inl ⟨_,ZhC h hfl,by rw[ZhB h,hl h]⟩
def one1:Tr:=Z6 ⟨0,0,1,[],[],[]⟩
theorem ZeT(h:ZB s=.ok T)(hw:wfT t)(hn:isNil t=false)(hk:Zf t=1):Fs T t:=⟨(Zdz h).1,(Zdz h).2.1,(Zdz h).2.2,hw,hn,hk⟩
theorem ZvH:wfT one1/\isNil one1=false/\Zf one1=1:=by
 refine⟨?_,rfl,rfl⟩
 unfold one1 Z6 wfT
 simp[isNil,wfT]
theorem ZlJ(q:CodeQ){i:Nat}(hi:i<q.ins.length):(ZbB q).getD (offQ q+3*i) 0=UInt8.ofNat (q.ins.getD i (0,0)).1/\((q.ins.getD i (0,0)).2<65536->two2 (ZbB q) (offQ q+3*i+1)=(q.ins.getD i (0,0)).2):=by
 obtain⟨z,_,h2⟩:=ZlK q
 have hx:q.ins.getD i (0,0)=q.ins[i]:=by simp[hi]
 have hsp:q.ins.flatMap insB=(q.ins.take i).flatMap insB++(insB q.ins[i]++(q.ins.drop (i+1)).flatMap insB):=by
  rw[<-List.flatMap_cons,<-List.flatMap_append,List.getElem_cons_drop,List.take_append_drop]
 have hpl:([103]++digL q.consts.length 2++digL q.picks.length 2++digL q.groups.length 2++digL q.ins.length 2++q.consts.flatMap Zcx++(Zcu q).flatMap ZX++(q.ins.take i).flatMap insB).length=offQ q+3*i:=by
  simp only[List.length_append,Zc5,ZjG,Znz,List.length_singleton,List.length_take]
  unfold offQ
  omega
 generalize hP:[103]++digL q.consts.length 2++digL q.picks.length 2++digL q.groups.length 2++digL q.ins.length 2++q.consts.flatMap Zcx++(Zcu q).flatMap ZX++(q.ins.take i).flatMap insB=P at *
 have hW:ZbB q=P++(insB q.ins[i]++((q.ins.drop (i+1)).flatMap insB++z)):=by
  rw[h2,hsp,<-hP]
  simp only[List.append_assoc]
 rw[hx]
 refine⟨?_,fun hlt=>?_⟩
 ·rw[hW,<-hpl]
  exact(Zj6 P (insB q.ins[i]++((q.ins.drop (i+1)).flatMap insB++z)) 0).trans rfl
 ·have e:ZbB q=(P++[UInt8.ofNat q.ins[i].1])++(digL q.ins[i].2 2++((q.ins.drop (i+1)).flatMap insB++z)):=by
   rw[hW]
   unfold insB
   simp only[List.append_assoc,List.cons_append,List.nil_append]
  have:=Zf9 (P++[UInt8.ofNat q.ins[i].1]) ((q.ins.drop (i+1)).flatMap insB++z) hlt
  rw[<-e,List.length_append,hpl,List.length_singleton]at this
  exact this
theorem ZoO{x:Nat}(h:x<=13):(UInt8.ofNat x).toNat=x:=by rw[UInt8.toNat_ofNat'];omega
theorem ZrT(h:ZB s=.ok T)(h4:4<=fl):∀i,i<(LS.codeOf T fl).ins.length->jmpB ((ZbB (LS.codeOf T fl)).getD (offQ (LS.codeOf T fl)+3*i) 0)=true->two2 (ZbB (LS.codeOf T fl)) (offQ (LS.codeOf T fl)+3*i+1)<(LS.codeOf T fl).ins.length->jmpB ((ZbB (LS.codeOf T fl)).getD (offQ (LS.codeOf T fl)+3*two2 (ZbB (LS.codeOf T fl)) (offQ (LS.codeOf T fl)+3*i+1)) 0)=false:=by
 intro i hi hj ht
 obtain⟨hled,hop⟩:=ZrQ (Zdz h).1 h4
 have hsh:=(ZgL h fl).1
 have hjmp:Z5 (LS.codeOf T fl).ins:=by
  show Z5 (if 4<=fl then ZbR _ else _)
  rw[if_pos h4]
  exact(Zf7 _ _ (ZgM _ _)).1
 have hil:=hsh.i
 generalize LS.codeOf T fl=q at *
 obtain⟨w1,w2⟩:=ZlJ q hi
 rw[w1]at hj
 unfold jmpB at hj
 rw[ZoO (hop i).2,decide_eq_true_eq]at hj
 have h10:(q.ins.getD i (0,0)).1=10:=by
  rcases hj with e|e
  ·exact absurd e (hop i).1
  ·exact e
 have hmem:q.ins.getD i (0,0)∈q.ins:=by
  have:q.ins.getD i (0,0)=q.ins[i]:=by simp[hi]
  rw[this];exact List.getElem_mem hi
 have hle:=hjmp _ hmem h10
 have h2:=w2 (by omega)
 rw[h2]at ht ⊢
 have hne:=hled i (Nat.zero_le _) hi h10 ht
 rw[(ZlJ q ht).1]
 unfold jmpB
 rw[ZoO (hop _).2]
 exact decide_eq_false (fun e => by
   rcases e with e|e
   · exact(hop _).1 e
   · exact hne e)
theorem Zxs(h:ZB s=.ok T)(hf:fl % 2=1)(hk:Zf T=1):(LS.codeOf T fl).ins.length=1/\(ZbB (LS.codeOf T fl)).getD (offQ (LS.codeOf T fl)) 0=0:=by
 have hw:=Zdz h
 have hc:=Zxt hw.1 hw.2.1 hw.2.2 hk hf
 have hi:(LS.codeOf T fl).ins=[(0,0)]:=by
  show(if 4<=fl then ZbR _ else _)=_
  rw[hc]
  split <;> rfl
 have hl:(LS.codeOf T fl).ins.length=1:=by rw[hi];rfl
 refine⟨hl,?_⟩
 have:=(ZlJ (LS.codeOf T fl) (i:=0) (by omega)).1
 rw[hi]at this
 exact this
end
end Go.Proofs.YtcdgkkfipdoeeaaGreatDoor
namespace Go.Proofs.YtcdgkkfipdoeeaaGreatDoor
open Go.RowKit LS
theorem Zsy(q s:ByteArray)(f l st:Int)(A:Nat->Addr)(m:Int)(w:World)(hv:Vars w A m)(ht:Zu w)(hB:20<=w.heap.size)(hq:q.size<=9223372036854775807)(hs:s.size<=maxLen) :
  Calls Tryz.prog 23 #[.string q,.string s,.agg #[.int .i64 f,.int .i64 l,.int .i64 st]] w fun e w'=>∃(r:ByteArray) (err:Value) (c p:Nat),e=.returned (.tuple #[.string r,err])/\Hid (Ze9 w' A err c p)/\Hid (Zd9 (bl q) (bl s) f l st=(bl r,c,p))/\Below w.heap.size w w':=by
 have HRD:Hid (∀W,Below w.heap.size w W->Calls Tryz.prog 17 #[.string q] W _):=hid (fun W hb=>Zll q W hq (hv.below hb).sents)
 have HLD:Hid (∀W,Below w.heap.size w W->Calls Tryz.prog 40 #[.string s] W _):=hid (fun W hb=>Zx1 s A m W (hv.below hb) hs)
 have HTD:Hid (∀W,Below w.heap.size w W->Calls Tryz.prog 41 #[.agg #[.int .i64 f,.int .i64 l,.int .i64 st]] W _):=hid (fun W hb=>ZwC f l st (A 7) W ((hv.below hb).sent _ (by decide)))
 have HT:Hid (Zu w):=ht
 have HBn:Hid (20<=w.heap.size):=hB
 clear hv ht hB hq hs
 go_enter Tryz.func23,Tryz.ntmps23
 go_wp2_with fail
 refine ZK fun W hW=>?_
 have hbW:Below w.heap.size w W:=by rw[hW];exact Zbal
 have HBX:Hid (BAt W w.heap.size [.int .i64 f,.int .i64 l,.int .i64 st] 23):=hid (by rw[hW];exact Go.Deep.blk_alloc_new _ _)
 refine(HRD.out W hbW).mono ?_
 rintro e w1 ⟨pv,v,rfl,hres,hb1⟩
 have HB1:Hid (Below w.heap.size w w1):=hid (hbW.trans (hb1.mono hbW.size))
 have HBX1:=hid (HBX.below hb1)
 clear hb1 HRD hbW hW HBX
 cases hq:ZB (bl q)with
 | error x=>
  obtain⟨he,ty,u,rfl⟩:=Ze9.rd hq hres.out
  have HE:=hid he
  have HQ:Hid (Zd9 (bl q) (bl s) f l st=([],x.1,x.2)):=hid (by unfold Zd9;rw[hq])
  clear hres hq he
  go_wp2
  go_ret2
  exact⟨_,_,_,_,rfl,HE,HQ,HB1.out⟩
 | ok t=>
  rw[hq]at hres
  obtain⟨rfl,hpv⟩:=hres.out
  obtain⟨ty,u,rfl⟩:=hpv.shape
  have HPV:=hid hpv
  have HWF:=hid (Zdz hq)
  have HWN:=hid (ZwS hq)
  have HEQ:Hid (∀x,(if (Zbp (bl s)).1≠0 then ([],(Zbp (bl s)).1,(Zbp (bl s)).2)else match ZeG f l st with
   | none=>([],8,0)
   | some ts=>(ZcB (ts.map (Zed (Zf6 (bl s)) t)),0,0))=x->Zd9 (bl q) (bl s) f l st=x):=hid (fun x hx=>by unfold Zd9;rw[hq];exact hx)
  clear hres hq hpv
  go_wp2_with fail
  refine(HLD.out w1 HB1.out).mono ?_
  rintro e w2 ⟨sv,err,rfl,HLE,hb2,HRV⟩
  have HB2:Hid (Below w.heap.size w w2):=hid (HB1.trans (hb2.mono HB1.size))
  have HPV2:=hid (HPV.keepsC (Zs.below hb2))
  have HBX2:=hid (HBX1.below hb2)
  clear hb2 HLD HBX1 HPV HB1
  rcases Ze9.ld HLE.out with ⟨h0,rfl⟩|⟨h0,he,ty',u',rfl⟩
  ·obtain⟨ss,hsto,hser,hdst,hlen⟩:=(HRV.out h0).sto h0
   obtain⟨sa,scp,rfl⟩:=Zv hsto.row
   have HSP:=hid hsto
   have HSR:=hid hser
   have HDS:=hid hdst
   have HLN:=hid hlen
   have H0:=hid h0
   clear HLE HRV hsto hser hdst hlen h0
   have x0:=HBX2.cell 0
   have x1:=HBX2.cell 1
   have x2:=HBX2.cell 2
   simp only[Zget]at x0 x1 x2
   go_wp2_with fail
   clear x0 x1 x2
   refine(HTD.out w2 HB2.out).mono ?_
   rintro e w3 ⟨tv,ev,rfl,HTP,hb3⟩
   have HB3:Hid (Below w.heap.size w w3):=hid (HB2.trans (hb3.mono HB2.size))
   have HPV3:=hid (HPV2.keepsC (Zs.below hb3))
   have HSP3:=hid (HSP.below hb3)
   clear hb3 HTD HPV2 HSP HBX2 HB2
   rcases HTP.out with ⟨h1,rfl,rfl⟩|⟨ts,h1,h2,h3,rfl,h4⟩
   ·have HQ:Hid (Zd9 (bl q) (bl s) f l st=([],8,0)):=hid (HEQ.out _ (by rw[if_neg (by rw[H0.out];simp),h1]))
    clear HTP h1
    go_wp2
    go_ret2
    exact⟨_,_,8,0,rfl,hid (Or.inr (Or.inr (Or.inr (Or.inr (Or.inl ⟨rfl,rfl,rfl⟩))))),HQ,HB3.out⟩
   ·obtain⟨ta,tcp,rfl⟩:=Zv h4
    have HQ:Hid (Zd9 (bl q) (bl s) f l st=(ZcB (ts.map (Zed (ss.map Srs.ser) t)),0,0)):=hid (HEQ.out _ (by rw[if_neg (by rw[H0.out];simp),h1,HSR.out]))
    have HAN:Hid (Calls Tryz.prog 42 #[.iface ty u,.slice sa ss.length scp,.slice ta ts.length tcp] w3 _):=hid (ZqT t ts ss (.iface ty u) (.slice sa ss.length scp) (.slice ta ts.length tcp) w3 h2 h3 h4 HPV3.out HSP3.out
     (fun x mb gb tm a b=>Zlm a b HDS.out HLN.out t HWF.1 HWF.2.2 HWN.1 HWF.2.1 HWN.2)
     (fun tm=>(ZiF HDS.out tm t).mono (by rw[List.length_map];exact HLN.out)) (HT.low HB3.out HBn.out) (Nat.le_trans HBn.out HB3.size))
    clear HTP h1 h2 h3 h4
    go_wp2_with fail
    refine HAN.mono ?_
    rintro e w4 ⟨r4,rfl,HR4,hb4⟩
    have HB4:Hid (Below w.heap.size w w4):=hid (HB3.trans (hb4.mono HB3.size))
    clear hb4 HAN
    go_wp2
    go_ret2
    exact⟨r4,_,0,0,rfl,hid (Or.inl ⟨rfl,rfl,rfl⟩),hid (by rw[HQ.out,HR4.out]),HB4.out⟩
  ·have HE:=hid he
   have HQ:Hid (Zd9 (bl q) (bl s) f l st=([],(Zbp (bl s)).1,(Zbp (bl s)).2)):=hid (HEQ.out _ (by rw[if_pos h0]))
   clear HLE HRV he h0
   go_wp2
   go_ret2
   exact⟨_,_,_,_,rfl,HE,HQ,HB2.out⟩
theorem Zs4(q s:ByteArray)(f l st:Int)(A:Nat->Addr)(m:Int)(w:World)(hv:Vars w A m)(ht:Zu w)(hB:20<=w.heap.size)(hq:q.size<=9223372036854775807)(hs:s.size<=maxLen) :
  Calls Tryz.prog 11 #[.string q,.string s,.agg #[.int .i64 f,.int .i64 l,.int .i64 st]] w fun e w'=>∃(r:ByteArray) (c p:Nat),e=.returned (.tuple #[.string r,.int .i64 c,.int .i64 p])/\Hid (Zd9 (bl q) (bl s) f l st=(bl r,c,p))/\Below w.heap.size w w':=by
 have HV:Hid (Vars w A m):=hv
 have HE:Hid (∀W,Below w.heap.size w W->Calls Tryz.prog 23 #[.string q,.string s,.agg #[.int .i64 f,.int .i64 l,.int .i64 st]] W _):=hid (fun W hb=>Zsy q s f l st A m W (hv.below hb) (ht.low hb hB) (Nat.le_trans hB hb.size) hq hs)
 clear hv ht hB hq hs
 go_enter Tryz.func11,Tryz.ntmps11
 go_wp2_with fail
 refine ZK fun W hW=>?_
 have hbW:Below w.heap.size w W:=by rw[hW];exact Zbal
 refine(HE.out W hbW).mono ?_
 rintro e w1 ⟨r,err,c,p,rfl,HER,HQ,hb1⟩
 have HB1:Hid (Below w.heap.size w w1):=hid (hbW.trans (hb1.mono hbW.size))
 have HV1:=hid (HV.below HB1.out)
 clear hb1 hbW hW HE HV
 rcases HER.out with ⟨rfl,rfl,rfl⟩|⟨rfl,rfl,rfl⟩|⟨rfl,rfl,rfl⟩|⟨rfl,rfl,rfl⟩|⟨rfl,rfl,rfl⟩|⟨fa,rfl,h1,h⟩
 ·clear HER
  go_wp2_with fail
  refine(ZoL A m _ HV1.out).mono ?_
  rintro e wq ⟨rfl,rfl⟩
  go_wp2_with fail
  refine(Zo0 _).mono ?_
  rintro e w2 ⟨rfl,hb2⟩
  have HB2:Hid (Below w.heap.size w w2):=hid (HB1.trans (hb2.mono HB1.size))
  clear hb2
  go_wp2
  go_ret3
  exact⟨r,_,_,rfl,HQ,HB2.out⟩
 ·clear HER
  go_wp2_with fail
  refine(ZkO A m _ HV1.out).mono ?_
  rintro e wq ⟨rfl,rfl⟩
  go_wp2_with fail
  refine(Zez A m _ _ HV1.out).mono ?_
  rintro e w2 ⟨rfl,hb2⟩
  have HB2:Hid (Below w.heap.size w w2):=hid (HB1.trans (hb2.mono HB1.size))
  clear hb2
  go_wp2
  go_ret3
  exact⟨r,_,_,rfl,HQ,HB2.out⟩
 ·clear HER
  go_wp2_with fail
  refine(ZkQ A m _ HV1.out).mono ?_
  rintro e wq ⟨rfl,rfl⟩
  go_wp2_with fail
  refine(Zez A m _ _ HV1.out).mono ?_
  rintro e w2 ⟨rfl,hb2⟩
  have HB2:Hid (Below w.heap.size w w2):=hid (HB1.trans (hb2.mono HB1.size))
  clear hb2
  go_wp2
  go_ret3
  exact⟨r,_,_,rfl,HQ,HB2.out⟩
 ·clear HER
  go_wp2_with fail
  refine(Zvw A m _ HV1.out).mono ?_
  rintro e wq ⟨rfl,rfl⟩
  go_wp2_with fail
  refine(Zez A m _ _ HV1.out).mono ?_
  rintro e w2 ⟨rfl,hb2⟩
  have HB2:Hid (Below w.heap.size w w2):=hid (HB1.trans (hb2.mono HB1.size))
  clear hb2
  go_wp2
  go_ret3
  exact⟨r,_,_,rfl,HQ,HB2.out⟩
 ·clear HER
  go_wp2_with fail
  refine(ZvC A m _ HV1.out).mono ?_
  rintro e wq ⟨rfl,rfl⟩
  go_wp2_with fail
  refine(Zez A m _ _ HV1.out).mono ?_
  rintro e w2 ⟨rfl,hb2⟩
  have HB2:Hid (Below w.heap.size w w2):=hid (HB1.trans (hb2.mono HB1.size))
  clear hb2
  go_wp2
  go_ret3
  exact⟨r,_,_,rfl,HQ,HB2.out⟩
 ·have HC1:Hid (w1.cell? ⟨fa,1,none⟩=some (.int .i64 p)):=h1
  clear HER h1
  rcases h with ⟨rfl,h2⟩|⟨rfl,h2⟩|⟨rfl,h2⟩|⟨rfl,h2⟩
  ·have HC2:=hid h2
   clear h2
   go_wp2_with fail
   refine(ZkP A m _ HV1.out fa HC2.out).mono ?_
   rintro e wq ⟨rfl,rfl⟩
   go_wp2_with fail
   refine(ZeZ A m fa p _ HV1.out HC1.out).mono ?_
   rintro e w2 ⟨rfl,hb2⟩
   have HB2:Hid (Below w.heap.size w w2):=hid (HB1.trans (hb2.mono HB1.size))
   clear hb2
   go_wp2
   go_ret3
   exact⟨r,_,_,rfl,HQ,HB2.out⟩
  ·have HC2:=hid h2
   clear h2
   go_wp2_with fail
   refine(ZkN A m _ HV1.out fa HC2.out).mono ?_
   rintro e wq ⟨rfl,rfl⟩
   go_wp2_with fail
   refine(ZeZ A m fa p _ HV1.out HC1.out).mono ?_
   rintro e w2 ⟨rfl,hb2⟩
   have HB2:Hid (Below w.heap.size w w2):=hid (HB1.trans (hb2.mono HB1.size))
   clear hb2
   go_wp2
   go_ret3
   exact⟨r,_,_,rfl,HQ,HB2.out⟩
  ·have HC2:=hid h2
   clear h2
   go_wp2_with fail
   refine(ZvB A m _ HV1.out fa HC2.out).mono ?_
   rintro e wq ⟨rfl,rfl⟩
   go_wp2_with fail
   refine(ZeZ A m fa p _ HV1.out HC1.out).mono ?_
   rintro e w2 ⟨rfl,hb2⟩
   have HB2:Hid (Below w.heap.size w w2):=hid (HB1.trans (hb2.mono HB1.size))
   clear hb2
   go_wp2
   go_ret3
   exact⟨r,_,_,rfl,HQ,HB2.out⟩
  ·have HC2:=hid h2
   clear h2
   go_wp2_with fail
   refine(ZvD A m _ HV1.out fa HC2.out).mono ?_
   rintro e wq ⟨rfl,rfl⟩
   go_wp2_with fail
   refine(ZeZ A m fa p _ HV1.out HC1.out).mono ?_
   rintro e w2 ⟨rfl,hb2⟩
   have HB2:Hid (Below w.heap.size w w2):=hid (HB1.trans (hb2.mono HB1.size))
   clear hb2
   go_wp2
   go_ret3
   exact⟨r,_,_,rfl,HQ,HB2.out⟩
def awQ:List UInt8:=[97,43,98,42,99]
def awP:List UInt8:=[97,32,43,32,98,32,42,32,99]
def awE:List UInt8:=[99,32,43,32,100]
def awS:List UInt8:=[99,123,104,61,97,125,32,49,58,53,32,52,58,56,10,99,123,104,61,98,125,32,52,58,50,10,100,123,104,61,97,125,32,52,58,51]
def awA:List UInt8:=[49,10,52,32,123,104,61,97,125,49,49]
theorem Zq4:Zdy awQ=(awP,0,0):=by kernel_rfl
theorem Zq3:Zd9 awE awS 1 4 3=(awA,0,0):=by kernel_rfl
theorem Zju{r:ByteArray}{l:List UInt8}(h:bl r=l):r=⟨l.toArray⟩:=ZeN (by rw[h,Zbv])
theorem Zq5(A:Nat->Addr)(m:Int)(w:World)(hv:Vars w A m)(ht:Zu w)(hB:20<=w.heap.size) :
  Calls Tryz.prog 6 #[] w fun e w'=>e=.returned (.bool true)/\Below w.heap.size w w':=by
 have HP : Hid (∀ W, Below w.heap.size w W -> Calls Tryz.prog 7 #[.string ⟨awQ.toArray⟩] W fun e w' => e = .returned (.tuple #[.string ⟨awP.toArray⟩, .int .i64 0, .int .i64 0]) /\ Below W.heap.size W w') := hid (fun W hb => (Znm ⟨awQ.toArray⟩ A m W (hv.below hb) (ht.low hb hB) (Nat.le_trans hB hb.size) (by decide)).mono (fun e w' ⟨r, c, p, h1, h2, _, h4⟩ => by
   have h:=h2.out
   rw[Zbv,Zq4]at h
   injection h with k1 k2
   injection k2 with k2 k3
   subst k2 k3
   rw[Zju k1.symm]at h1
   exact⟨h1,h4⟩))
 have HE : Hid (∀ W, Below w.heap.size w W -> Calls Tryz.prog 11 #[.string ⟨awE.toArray⟩, .string ⟨awS.toArray⟩, .agg #[.int .i64 1, .int .i64 4, .int .i64 3]] W fun e w' => e = .returned (.tuple #[.string ⟨awA.toArray⟩, .int .i64 0, .int .i64 0]) /\ Below W.heap.size W w') := hid (fun W hb => (Zs4 ⟨awE.toArray⟩ ⟨awS.toArray⟩ 1 4 3 A m W (hv.below hb) (ht.low hb hB) (Nat.le_trans hB hb.size) (by decide) (by decide)).mono (fun e w' ⟨r, c, p, h1, h2, h4⟩ => by
   have h:=h2.out
   rw[Zbv,Zbv,Zq3]at h
   injection h with k1 k2
   injection k2 with k2 k3
   subst k2 k3
   rw[Zju k1.symm]at h1
   exact⟨h1,h4⟩))
 clear hv ht hB
 go_enter Tryz.func6,Tryz.ntmps6
 go_wp2_with fail
 refine ZK fun W hW=>?_
 have hbW:Below w.heap.size w W:=by rw[hW];exact Below.refl _ _
 refine(HP.out W hbW).mono ?_
 rintro e w1 ⟨rfl,hb1⟩
 have HB1:Hid (Below w.heap.size w w1):=hid (hbW.trans (hb1.mono hbW.size))
 clear hb1 hbW hW HP
 go_wp2_with fail
 refine ZK fun W hW=>?_
 have hbW:Below w.heap.size w W:=by rw[hW];exact HB1.out
 refine(HE.out W hbW).mono ?_
 rintro e w2 ⟨rfl,hb2⟩
 have HB2:Hid (Below w.heap.size w w2):=hid (hbW.trans (hb2.mono hbW.size))
 clear hb2 hbW hW HE HB1
 go_wp2
 go_ret
 exact⟨rfl,HB2.out⟩
def Zef(c n:Int):Int:=if c<0 then -((c+1).tmod n)else c % n
theorem Zk6(c n:Int)(hn:1<=n):0<=Zef c n/\Zef c n<n:=by
 unfold Zef
 split
 ·rw[<-Int.neg_tmod,Int.tmod_eq_emod_of_nonneg (by omega)]
  exact⟨Int.emod_nonneg _ (by omega),Int.emod_lt_of_pos _ (by omega)⟩
 ·exact⟨Int.emod_nonneg _ (by omega),Int.emod_lt_of_pos _ (by omega)⟩
theorem Zwj(c n:Int)(hc1 : -9223372036854775808<=c)(hc2:c<=9223372036854775807)(hn1:1<=n)(hn2:n<=9223372036854775807)(w:World) :
  Calls Tryz.prog 9 #[.int .i64 c,.int .i64 n] w fun e w'=>e=.returned (.int .i64 (Zef c n))/\w'=w:=by
 have hr:=Zk6 c n hn1
 have hn3:¬n=0:=by omega
 go_enter Tryz.func9,Tryz.ntmps9
 by_cases h:c<0
 ·have e:Zef c n=-((c+1).tmod n):=by unfold Zef;rw[if_pos h]
  rw[e]at hr
  rw[e]
  go_wp2
  go_ret
  exact⟨rfl,rfl⟩
 ·have e:Zef c n=c % n:=by unfold Zef;rw[if_neg h]
  rw[e]at hr
  rw[e]
  go_wp2
  go_ret
  exact⟨rfl,rfl⟩
theorem Zre(a b c:List UInt8)(p:ByteArray)(h:bl p=b):bl ((⟨a.toArray⟩++p)++⟨c.toArray⟩:ByteArray)=a++b++c:=by
 rw[Zce,Zce,h,Zbv,Zbv]
theorem ZvO{t:Tr}{r:List UInt8}{p:Nat}(h:Prd t)(hk:Zf t≠0)(hp:Zdy (brT t++32::111::114::32::[120])=(r,4,p)):Zf t=1:=by
 have hkl:Zf t=1∨Zf t=2:=by
  have : ∀ t : Tr, Zf t <= 2 := fun t => by
    induction t with
    | nil=>decide
    | node x y a l r ihl ihr=>
      unfold Zf
      split
      · omega
      · split
        · omega
        · split
          · exact ihl
          · split
            · split <;> omega
            · split
              · omega
              · split <;> omega
  have:=this t
  omega
 rcases hkl with e|e
 ·exact e
 ·exfalso
  have hor:Zf (orT t (selX 120))=2:=by
   have hx:Zf (selX 120)=2:=rfl
   unfold orT Zf
   simp[nd0,e,hx]
  unfold Zdy at hp
  rcases Zw1 h with q|⟨p,q⟩|q
  ·rw[q]at hp;injection hp with _ hp;injection hp with hp;cases hp
  ·rw[q]at hp;injection hp with _ hp;injection hp with hp;cases hp
  ·rw[q,hor]at hp;injection hp with _ hp;injection hp with hp;cases hp
section
variable {t:Tr} {f:Nat}
def CmpS(f n q:Nat)(s:List UInt8):Prop:=(∃rb,Zbe s f=(rb,0,0)/\ZbM rb=some (n,q))∨(∃rb x,Zbe s f=(rb,1,x))∨(∃rb x,Zbe s f=(rb,3,x))
theorem Zo9:ZB [120,32,43,32,49]=.ok (binT 0 (selX 120) one1):=by kernel_rfl
theorem Zpa:ZB [49,32,42,32,120]=.ok (binT 2 one1 (selX 120)):=by kernel_rfl
theorem Zpb:ZB [115,117,109,32,98,121,32,40,41,32,40,120,32,45,32,49,41]=.ok (sumT (binT 1 (selX 120) one1)):=by kernel_rfl
theorem Zpc:ZB [120,32,111,114,32,49,32,47,32,121]=.ok (orT (selX 120) (binT 3 one1 (selX 121))):=by kernel_rfl
theorem ZtP(h:Zf t=1):Zf (binT 0 (selX 120) t)≠0:=by
 have hx:Zf (selX 120)=2:=rfl
 unfold binT Zf;simp[nd0,h,hx]
theorem ZtQ(h:Zf t=1):Zf (binT 2 t (selX 120))≠0:=by
 have hx:Zf (selX 120)=2:=rfl
 unfold binT Zf;simp[nd0,h,hx]
theorem ZtR(h:Zf t=1):Zf (sumT (binT 1 (selX 120) t))≠0:=by
 have hx:Zf (selX 120)=2:=rfl
 have hb:Zf (binT 1 (selX 120) t)=2:=by unfold binT Zf;simp[nd0,h,hx]
 unfold sumT Zf;simp[hb]
theorem ZtS(h:Zf t=1):Zf (orT (selX 120) (binT 3 t (selX 121)))≠0:=by
 have hx:Zf (selX 120)=2:=rfl
 have hy:Zf (selX 121)=2:=rfl
 have hb:Zf (binT 3 t (selX 121))=2:=by unfold binT Zf;simp[nd0,h,hy]
 unfold orT Zf;simp[nd0,hb,hx]
structure Fd (f n:Nat) (a b:List UInt8):Prop where
 a:∃ra p,Zbe a f=(ra,0,0)/\ZbM ra=some (n,p)
 b:∃q,CmpS f n q b
theorem ZhI{f n:Nat}{a b:List UInt8}{T1 T:Tr}(hfl:f<=7)(ha:ZB a=.ok T1)(h1:(ZJ (Zb T1 (g0 f)).2 (Zb T1 (g0 f)).1).ins.length=n)(hb:Rt b T)(hk:Zf T≠0)(hl:ZB b=.ok T->(ZJ (Zb T (g0 f)).2 (Zb T (g0 f)).1).ins.length=n):Fd f n a b:=
 ⟨⟨_,_,ZhC ha hfl,by rw[ZhB ha,h1]⟩,_,ZsZ hb hk hfl hl⟩
theorem ZsX(h:Prd t)(hw:wfT t)(hn:isNil t=false)(hk:Zf t=1)(hfl:f<=7)(hf:f % 2=1) :
  Fd f 3 [120,32,43,32,49] ([120,32,43,32,40]++Zm t 1++[41])/\Fd f 3 [49,32,42,32,120] ([40]++Zm t 1++[41,32,42,32,120])/\Fd f 4 [115,117,109,32,98,121,32,40,41,32,40,120,32,45,32,49,41] ([115,117,109,32,98,121,32,40,41,32,40,120,32,45,32,40]++Zm t 1++[41,41])/\Fd f 6 [120,32,111,114,32,49,32,47,32,121] ([120,32,111,114,32,40]++Zm t 1++[41,32,47,32,121]):=by
 obtain⟨o1,o2,o3⟩:=ZvH
 have e:brT t=[40]++Zm t 1++[41]:=rfl
 have ra:=Zw6 h
 have rb:=Zw0 h
 have rc:=Zw4 h
 have rd:=ZwY h
 unfold sumB at rc
 rw[e]at ra rb rc rd
 simp only[List.append_assoc,List.cons_append,List.nil_append]at ra rb rc rd ⊢
 refine⟨?_,?_,?_,?_⟩
 ·exact ZhI hfl Zo9 (Zm9 (ZeT Zo9 o1 o2 o3) hf) ra (ZtP hk) (fun q=>Zm9 (ZeT q hw hn hk) hf)
 ·exact ZhI hfl Zpa (Znd (ZeT Zpa o1 o2 o3) hf) rb (ZtQ hk) (fun q=>Znd (ZeT q hw hn hk) hf)
 ·exact ZhI hfl Zpb (Zng (ZeT Zpb o1 o2 o3) hf) rc (ZtR hk) (fun q=>Zng (ZeT q hw hn hk) hf)
 ·exact ZhI hfl Zpc (Zne (ZeT Zpc o1 o2 o3) hf) rd (ZtS hk) (fun q=>Zne (ZeT q hw hn hk) hf)
theorem Zzd{s r:List UInt8}{h p:Nat}(hr:ZB s=.ok t)(hfl:f<=7)(hs:f / 2 % 2=1)(hc:Zbe ([40]++Zm t 1++[41,32,43,32,40]++Zm t 1++[41]) f=(r,h,p))(h1:h≠1)(h3:h≠3):h=0/\∃m q,ZbM r=some (m,q)/\1<=m/\m<=(LS.codeOf t f).ins.length+4:=by
 obtain⟨hp,hk⟩:=Zo3 hr
 have hw:=Zdz hr
 have rt:=Zw5 hp
 have e:brT t=[40]++Zm t 1++[41]:=rfl
 rw[e]at rt
 have e2:[40]++Zm t 1++[41]++32::43::32::([40]++Zm t 1++[41])=[40]++Zm t 1++[41,32,43,32,40]++Zm t 1++[41]:=by simp
 rw[e2]at rt
 have hk2:Zf (binT 0 t t)≠0:=by
  unfold binT Zf
  simp only[nd0]
  simp[hk]
  split <;> simp
 rcases rt with q|⟨p',q⟩|q
 ·unfold Zbe at hc;rw[q]at hc;injection hc with _ hc;injection hc with hc;exact absurd hc.symm h1
 ·unfold Zbe at hc;rw[q]at hc;injection hc with _ hc;injection hc with hc;exact absurd hc.symm h3
 ·rw[if_neg hk2]at q
  rw[ZhC q hfl]at hc
  injection hc with c1 hc
  injection hc with c2 c3
  have hpos:=(ZgL q f).2.2
  rw[Zhz]at hpos
  refine⟨c2.symm,_,_,by rw[<-c1];exact ZhB q f,hpos,?_⟩
  rw[Zhz]
  exact Zzg hw.1 hw.2.1 hw.2.2 hs
end
end Go.Proofs.YtcdgkkfipdoeeaaGreatDoor

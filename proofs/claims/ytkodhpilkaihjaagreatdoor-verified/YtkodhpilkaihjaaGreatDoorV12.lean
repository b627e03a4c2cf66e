/- Parts. -/
import Derived.Test.YtkodhpilkaihjaaGreatDoorV11
set_option linter.all false
set_option maxRecDepth 100000
set_option maxHeartbeats 16000000
namespace Go.Proofs.YtkodhpilkaihjaaGreatDoor
open Go.RowKit LS Go.Proofs.Tryz
variable {v:Int}{l t:LB}{x y:List (LB)}{gs:List (List (LB))}{ps:List (Nd×Nat)}{g:List (Option Addr×Nat×Nat)}{cs xs:List Int}{ns:List Value}{cb cc gc gn i n n1 n2 nb nc p pc pn q:Nat}{e:Nat×Nat}{a ca ga pa:Option Addr}{cv:Value}{w w' w0 wr:World}
theorem Zev(h:¬l.length<p+n):Zbr l p n=.ok (back (sub l p n),p+n):=by
 unfold Zbr Zcg;rw[if_neg h]
theorem ZUz(h:l.length<p+n):Zbr l p n=.error (9,l.length):=by
 unfold Zbr Zcg;rw[if_pos h]
theorem ZUS(h:l.length<p+4):ZbW l p=.error (9,l.length):=by
 unfold ZbW;rw[ZUz h]
theorem ZUj(h:¬l.length<p+4)(a:v=Zdp (back (sub l p 4)))(b:v < -1000000000∨1000000000<v):ZbW l p=.error (9,p):=by
 unfold ZbW;rw[Zev h];simp only;rw[<-a,if_pos b]
theorem ZUT(h:¬l.length<p+4)(a:v=Zdp (back (sub l p 4)))(b:¬(v < -1000000000∨1000000000<v)):ZbW l p=.ok (v,p+4):=by
 unfold ZbW;rw[Zev h];simp only;rw[<-a,if_neg b]
theorem ZWp(h:l.length<p+2):ZcH l p=.error (9,l.length):=by
 unfold ZcH;rw[ZUz h]
theorem ZWo(h:¬l.length<p+2)(a:n=back (sub l p 2))(b:l.length<p+2+n):ZcH l p=.error (9,l.length):=by
 unfold ZcH;rw[Zev h];simp only;rw[<-a];unfold Zcg;rw[if_pos b]
theorem ZWq(h:¬l.length<p+2)(a:n=back (sub l p 2))(b:¬l.length<p+2+n):ZcH l p=.ok (sub l (p+2) n,p+2+n):=by
 unfold ZcH;rw[Zev h];simp only;rw[<-a];unfold Zcg;rw[if_neg b]
theorem ZVR(h:ZcH l p=.error e):pickAt l p=.error e:=by unfold LS.pickAt;rw[h]
theorem ZVr(h:ZcH l p=.error e):groupAt l p=.error e:=by unfold LS.groupAt;rw[h]
theorem ZVP(h:ZcH l p=.ok (t,q))(a:ZbA t=none):pickAt l p=.error (9,p):=by unfold LS.pickAt;rw[h];simp only;rw[a]
theorem ZVQ{x:Nd×Nat}(h:ZcH l p=.ok (t,q))(a:ZbA t=some x):pickAt l p=.ok (x,q):=by unfold LS.pickAt;rw[h];simp only;rw[a]
theorem ZVp(h:ZcH l p=.ok (t,q))(a:ZcG t=none):groupAt l p=.error (9,p):=by unfold LS.groupAt;rw[h];simp only;rw[a]
theorem ZVq(h:ZcH l p=.ok (t,q))(a:ZcG t=some x):groupAt l p=.ok (x,q):=by unfold LS.groupAt;rw[h];simp only;rw[a]
def ZTm(l:LB)(n1 p:Nat)(i:Nat):Except (Nat×Nat) (List (Nd×Nat)×List (List (LB))×Nat):=match many (LS.pickAt l) p (min i n1)with
 | .error e=>.error e
 | .ok ps => match many (groupAt l) ps.2 (i - n1) with
   | .error e=>.error e
   | .ok gs=>.ok (ps.1,gs.1,gs.2)
theorem ZVz(l:LB)(n1 p:Nat):ZTm l n1 p 0=.ok ([],[],p):=by
 unfold ZTm;rw[Nat.zero_min,Nat.zero_sub];rfl
theorem ZVy{r:Nat}{y:Nd×Nat}(c:i<n1)(h:ZTm l n1 p i=.ok (ps,gs,q))(b:LS.pickAt l q=.ok (y,r)):ZTm l n1 p (i+1)=.ok (ps++[y],gs,r):=by
 unfold ZTm at h ⊢;rw[Yc3 Om,Yhf Om]at h ⊢;cases a:many (LS.pickAt l) p i with
 | error e=>rw[a]at h;cases h
 | ok x=>
  rw[a]at h;simp only[many]at h;injection h with h;injection h with h1 h2;injection h2 with h2 h3;obtain⟨xs,q'⟩:=x;simp only at h1 h2 h3;subst h1 h2 h3;rw[ZjI a b];rfl
theorem ZUv(b:i<n1)(h:ZTm l n1 p i=.ok (ps,gs,q))(c:LS.pickAt l q=.error e):ZTm l n1 p (n1+n2)=.error e:=by
 unfold ZTm at h ⊢;rw[Yc3 Om,Yhf Om]at h;rw[Yg7 Om];cases a:many (LS.pickAt l) p i with
 | error e=>rw[a]at h;cases h
 | ok x=>
  rw[a]at h;simp only[many]at h;injection h with h;injection h with h1 h2;injection h2 with h2 h3;obtain⟨xs,q'⟩:=x;simp only at h1 h2 h3;subst h1 h2 h3;rw[ZgS a c n1 b]
theorem ZVx{r:Nat}(d:¬i<n1)(h:ZTm l n1 p i=.ok (ps,gs,q))(c:groupAt l q=.ok (y,r)):ZTm l n1 p (i+1)=.ok (ps,gs++[y],r):=by
 unfold ZTm at h ⊢;rw[Yg7 Om]at h ⊢;rw[show i+1 - n1=i - n1+1 by omega];cases b:many (LS.pickAt l) p n1 with
 | error e=>rw[b]at h;cases h
 | ok x=>
  rw[b]at h;simp only at h ⊢;cases a:many (groupAt l) x.2 (i - n1)with
  | error e=>rw[a]at h;cases h
  | ok z=>
   rw[a]at h;simp only at h;injection h with h;injection h with h1 h2;injection h2 with h2 h3;obtain⟨zs,q'⟩:=z;simp only at h1 h2 h3;subst h1 h2 h3;rw[ZjI a c]
theorem ZUu(f:¬i<n1)(d:i<n1+n2)(h:ZTm l n1 p i=.ok (ps,gs,q))(c:groupAt l q=.error e):ZTm l n1 p (n1+n2)=.error e:=by
 unfold ZTm at h ⊢;rw[Yg7 Om]at h ⊢;rw[show n1+n2 - n1=n2 by omega];cases b:many (LS.pickAt l) p n1 with
 | error e=>rw[b]at h;cases h
 | ok x=>
  rw[b]at h;simp only at h ⊢;cases a:many (groupAt l) x.2 (i - n1)with
  | error e=>rw[a]at h;cases h
  | ok z=>
   rw[a]at h;simp only at h;injection h with h;injection h with h1 h2;injection h2 with h2 h3;obtain⟨zs,q'⟩:=z;simp only at h1 h2 h3;subst h1 h2 h3;rw[ZgS a c n2 Om]
theorem ZUX{n0 n3:Nat}(a:Zc8 l=.ok (n0,n1,n2,n3))(b:many (ZbW l) 9 n0=.ok (cs,p)) :
  Zb7 l=match ZTm l n1 p (n1+n2)with
   | .error e=>.error e
   | .ok x=>ZTy l cs x.1 x.2.1 x.2.2 n3:=by
 unfold Zb7 ZTm ZTy;rw[a];simp only;rw[b,Yg7 Om,show n1+n2 - n1=n2 by omega];simp only;cases many (LS.pickAt l) p n1 with
 | error e=>rfl
 | ok ps=>
  simp only;cases many (groupAt l) ps.2 n2 with
  | error e=>rfl
  | ok gs=>rfl
theorem ZUW{n0 n3:Nat}(a:Zc8 l=.ok (n0,n1,n2,n3))(b:many (ZbW l) 9 n0=.error e):Zb7 l=.error e:=by
 unfold Zb7;rw[a];simp only;rw[b]
theorem ZT0(a:Zc8 l=.error e):Zb7 l=.error e:=by unfold Zb7;rw[a]
theorem ZTU(a:n=back (sub l p 2)):n<=65535:=by
 have:=ZhM (l:=sub l p 2) (n:=2) (by unfold sub;rw[Ya7];omega);rw[<-a]at this;omega
theorem Tryz.infoI64R:(Tryz.prog.info? 2).map (fun i=>(i.zero,i.size,i.bytes))=some (some (Vi 0),1,8):=by kernel_rfl
theorem Tryz.infoPartR:(Tryz.prog.info? 92).map (fun i=>(i.zero,i.size,i.bytes))=some (some (.agg #[Vi 0,Vi 0,Vi 0,.string ⟨#[]⟩,S0,S0,Vi 0,Vi 0]),8,104):=by kernel_rfl
theorem Tryz.infoStrsR:(Tryz.prog.info? 90).map (fun i=>(i.zero,i.size,i.bytes))=some (some S0,1,24):=by kernel_rfl
structure DecA (w0 wr:World) (cb nb:Nat) (ns:List Value) (xs:List Int) (ca:Option Addr) (n cc:Nat):Prop where
 box:BAt wr cb [.slice ca n cc,S0,S0,S0] 101
 nbx:BAt wr nb ns 2
 own:wr.ownsRow (nb+1) 2 1 (.slice ca n cc) n (xs.map (.int .i64))
 bel:BW w0 wr
 lo:w0.heap.size<=cb
 lo2:w0.heap.size<=nb
theorem DecA.below{y:World}(h:DecA w0 wr cb nb ns xs ca n cc)(a:BW wr y):DecA w0 y cb nb ns xs ca n cc:=
 ⟨h.box.below a,h.nbx.below a,Zn h.own a,h.bel.trans (a.mono h.bel.size),h.lo,h.lo2⟩
theorem ZUP{v:Value}{base:Nat}{e:TypeId}{sz:Nat}{xs:List Value}(h:BW w0 w)(d:w0.heap.size<=base)(c:w.ownsRow base e sz v n xs)(a:w.grownBy w' v.ownBlock):BW w0 w':=by
 refine⟨a.os.trans h.os,a.tape.trans h.tape,a.output.trans h.output,Yah h.size a.size,?_⟩;intro j b;rw[a.block j (Yaw b h.size) (fun e=>by have:=(c.lt j e.symm).1;omega),h.block j b]
theorem DecA.app{y:World}(h:DecA w0 wr cb nb ns xs ca n cc){ga:Nat}
  (c:wr.grownBy y (Value.slice ca n cc).ownBlock) (f:y.ownsRow (nb+1) 2 1 (.slice (some ⟨ga,0,none⟩) (n+1) nc) (n+1) (xs.map (.int .i64)++[Vi v])) :
  BAt y cb [.slice ca n cc,S0,S0,S0] 101/\DecA w0 (y.setCell ⟨cb,0,none⟩ (.slice (some ⟨ga,0,none⟩) (n+1) nc)) cb nb ns (xs++[v]) (some ⟨ga,0,none⟩) (n+1) nc:=by
 have a:BAt y cb [.slice ca n cc,S0,S0,S0] 101:=h.box.ownGrownR h.own c Dc;have b:BAt y nb ns 2:=h.nbx.grown c (fun e=>by have:=(h.own.lt nb e.symm).1;omega)
 have g : nb ≠ cb := fun e => by
   have i:=b;rw[e]at i;have d:=i.symm.trans a;injection d with d;injection d with _ h3;exact absurd h3 Dc
 refine⟨a,a.setkM 0 _,b.other g _,?_,Yhm (p:=⟨cb,0,none⟩) (ZUP h.bel (Nat.le_succ_of_le h.lo2) h.own c) h.lo _,h.lo,h.lo2⟩;rw[Yaq]
 exact ZdA f (fun k j => Go.Deep.blk_setCell_other _ _ _ _ (by
   rintro rfl;exact Zcx f a Dc j.symm))
structure DecB (w0 wr:World) (cb nb:Nat) (ns:List Value) (cs:List Int) (ps:List (Nd×Nat)) (gs:List (List (LB))) (cv:Value) (pa:Option Addr) (pn pc:Nat) (ga:Option Addr) (gn gc:Nat) (l:List PV) (g:List (Option Addr×Nat×Nat)):Prop where
 base:RBase wr ⟨cs,ps,gs,[]⟩ cv (.slice pa pn pc) (.slice ga gn gc) l g
 pown:wr.ownsRow w0.heap.size 92 8 (.slice pa pn pc) pn (ZTx l)
 gown:wr.ownsRow w0.heap.size 90 1 (.slice ga gn gc) gn (g.map fun y=>.slice y.1 y.2.1 y.2.2)
 box:BAt wr cb [cv,.slice pa pn pc,.slice ga gn gc,S0] 101
 nbx:BAt wr nb ns 2
 bel:BW w0 wr
 lo:w0.heap.size<=cb
 lp:ps.length=pn
 lg:gs.length=gn
theorem RBase.below{c:CodeQ}{pv gv:Value}{l:List PV}(h:RBase w c cv pv gv l g)(a:BW w w'):RBase w' c cv pv gv l g:=h.keep (ZTh.below _ a)
theorem DecB.below{y:World}{l:List PV}(h:DecB w0 wr cb nb ns cs ps gs cv pa pn pc ga gn gc l g)(a:BW wr y):DecB w0 y cb nb ns cs ps gs cv pa pn pc ga gn gc l g:=
 ⟨h.base.below a,Zn h.pown a,Zn h.gown a,h.box.below a,h.nbx.below a,h.bel.trans (a.mono h.bel.size),h.lo,h.lp,h.lg⟩
theorem ZXK(l m:List PV):ZTx (l++m)=ZTx l++ZTx m:=by
 induction l with
 | nil=>rfl
 | cons a l ih=>show a.cells++ZTx (l++m)=a.cells++ZTx l++ZTx m;rw[ih,Yan]
theorem ZXJ  {a b : Nat} {c d : List Value} {t u : TypeId} (h : BAt w a c t) (g : BAt w b d u) (i : t ≠ u) : a ≠ b := fun e => by
  rw[e]at h;have f:=h.symm.trans g;injection f with f;injection f with _ h3;exact i h3
theorem Zso{α:Type}{l:List α}{x y:α}(h:(l++[x])[i]?=some y):l[i]?=some y∨(i=l.length/\y=x):=by
 by_cases a:i<l.length
 ·rw[Ybr a]at h;exact Or.inl h
 ·rw[Yb3 Om]at h
  have:i - l.length=0:=by
   cases b:i - l.length with
   | zero=>rfl
   | succ k=>rw[b]at h;simp at h
  rw[this]at h;simp at h;exact Or.inr ⟨by omega,h.symm⟩
theorem DecB.appP{a:World}{l:List PV}(h:DecB w0 wr cb nb ns cs ps gs cv pa pn pc ga gn gc l g){x:Nd×Nat}{p:PV}{na:Nat}
  (s:PkOk wr x p) (f:wr.grownBy a (Value.slice pa pn pc).ownBlock) (n:a.ownsRow w0.heap.size 92 8 (.slice (some ⟨na,0,none⟩) (pn+1) nc) (pn+1) (ZTx l++p.cells)) :
  BAt a cb [cv,.slice pa pn pc,.slice ga gn gc,S0] 101/\DecB w0 (a.setCell ⟨cb,1,none⟩ (.slice (some ⟨na,0,none⟩) (pn+1) nc)) cb nb ns cs (ps++[x]) gs cv (some ⟨na,0,none⟩) (pn+1) nc ga gn gc (l++[p]) g:=by
 have b:BAt a cb [cv,.slice pa pn pc,.slice ga gn gc,S0] 101:=h.box.ownGrownR h.pown f Dc;have j:BAt a nb ns 2:=h.nbx.ownGrownR h.pown f Dc;have o:ZTh [92,101] wr a:=ZTh.grown h.pown f Dc;have r:ZTh [92,101] a (a.setCell ⟨cb,1,none⟩ (.slice (some ⟨na,0,none⟩) (pn+1) nc)):=ZTh.set b Dc _ _;have d:=o.trans r
 have m:(a.setCell ⟨cb,1,none⟩ (.slice (some ⟨na,0,none⟩) (pn+1) nc)).ownsRow w0.heap.size 92 8 (.slice (some ⟨na,0,none⟩) (pn+1) nc) (pn+1) (ZTx (l++[p])):=by
  rw[ZXK,show ZTx [p]=p.cells from Yca _]
  exact ZdA n (fun k t => Go.Deep.blk_setCell_other _ _ _ _ (by
    rintro rfl;exact Zcx n b Dc t.symm))
 refine⟨b,⟨?_,m,d _ _ _ _ _ _ h.gown Dc,b.setkM 1 _,j.other (ZXJ j b Dc) _,Yhm (p:=⟨cb,1,none⟩) (ZUQ h.bel h.pown f) h.lo _,h.lo,by rw[Yab,h.lp];rfl,h.lg⟩⟩;refine⟨d _ _ _ _ _ _ h.base.cs Dc,?_,by simp[h.base.pl],fun i y q e c=>?_,d _ _ _ _ _ _ h.base.gs Dc,h.base.gl,fun i y z e c=>?_⟩
 ·show(a.setCell _ _).ownsRow 0 _ 8 _ (ps++[x]).length _;rw[Yab,h.lp];exact Zgi m
 ·have w:l.length=ps.length:=h.base.pl;rcases Zso e with e|⟨e1,rfl⟩
  ·rcases Zso c with c|⟨e2,rfl⟩
   ·exact(h.base.pk i y q e c).keep d Dc
   ·have:=(Ycm.1 e).1;omega
  ·rcases Zso c with c|⟨e2,rfl⟩
   ·have:=(Ycm.1 c).1;omega
   ·exact s.keep d Dc
 ·obtain⟨bs,u,v⟩:=h.base.gk i y z e c;exact⟨bs,d _ _ _ _ _ _ u Dc,v⟩
theorem DecB.appG{b:World}{l:List PV}(h:DecB w0 wr cb nb ns cs ps gs cv pa pn pc ga gn gc l g){m c na:Nat}
  (A:∃bs:List BA,wr.ownsRow 0 9 1 (.slice a m c) bs.length (bs.map .string)/\bs.map bl=x) (n:wr.grownBy b (Value.slice ga gn gc).ownBlock) (u:b.ownsRow w0.heap.size 90 1 (.slice (some ⟨na,0,none⟩) (gn+1) nc) (gn+1) ((g.map fun y=>.slice y.1 y.2.1 y.2.2)++[.slice a m c])) :
  BAt b cb [cv,.slice pa pn pc,.slice ga gn gc,S0] 101/\DecB w0 (b.setCell ⟨cb,2,none⟩ (.slice (some ⟨na,0,none⟩) (gn+1) nc)) cb nb ns cs ps (gs++[x]) cv pa pn pc (some ⟨na,0,none⟩) (gn+1) nc l (g++[(a,m,c)]):=by
 have d:BAt b cb [cv,.slice pa pn pc,.slice ga gn gc,S0] 101:=h.box.ownGrownR h.gown n Dc;have o:BAt b nb ns 2:=h.nbx.ownGrownR h.gown n Dc;have v:ZTh [90,101] wr b:=ZTh.grown h.gown n Dc;have w:ZTh [90,101] b (b.setCell ⟨cb,2,none⟩ (.slice (some ⟨na,0,none⟩) (gn+1) nc)):=ZTh.set d Dc _ _;have f:=v.trans w
 have r : (b.setCell ⟨cb, 2, none⟩ (.slice (some ⟨na, 0, none⟩) (gn + 1) nc)).ownsRow w0.heap.size 90 1 (.slice (some ⟨na, 0, none⟩) (gn + 1) nc) (gn + 1) ((g ++ [(a, m, c)]).map fun y => .slice y.1 y.2.1 y.2.2) := by
   rw[Yaq]
   exact ZdA u (fun k B => Go.Deep.blk_setCell_other _ _ _ _ (by
     rintro rfl;exact Zcx u d Dc B.symm))
 refine⟨d,⟨?_,f _ _ _ _ _ _ h.pown Dc,r,d.setkM 2 _,o.other (ZXJ o d Dc) _,Yhm (p:=⟨cb,2,none⟩) (ZUQ h.bel h.gown n) h.lo _,h.lo,h.lp,by rw[Yab,h.lg];rfl⟩⟩;refine⟨f _ _ _ _ _ _ h.base.cs Dc,f _ _ _ _ _ _ h.base.ps Dc,h.base.pl,fun i y q j e=>(h.base.pk i y q j e).keep f Dc,?_,by simp[h.base.gl],fun i y z j e=>?_⟩
 ·show(b.setCell _ _).ownsRow 0 _ 1 _ (gs++[x]).length _;rw[Yab,h.lg];exact Zgi r
 ·have C:g.length=gs.length:=h.base.gl;rcases Zso j with j|⟨e1,rfl⟩
  ·rcases Zso e with e|⟨e2,rfl⟩
   ·obtain⟨bs,s,t⟩:=h.base.gk i y z j e;exact⟨bs,f _ _ _ _ _ _ s Dc,t⟩
   ·have:=(Ycm.1 j).1;omega
  ·rcases Zso e with e|⟨e2,rfl⟩
   ·have:=(Ycm.1 e).1;omega
   ·obtain⟨bs,s,t⟩:=A;exact⟨bs,f _ _ _ _ _ _ s Dc,t⟩
theorem DecA.toB(h:DecA w0 wr cb nb ns xs ca n cc)(b:xs.length=n):DecB w0 wr cb nb ns xs [] [] (.slice ca n cc) none 0 0 none 0 0 [] []:=
 ⟨⟨by rw[b];exact Zgi h.own,Ybc _ _ _ _,rfl,(fun _ _ _ a=>by simp at a),Ybc _ _ _ _,rfl,fun _ _ _ a=>by simp at a⟩,Ybc _ _ _ _,Ybc _ _ _ _,h.box,h.nbx,h.bel,h.lo,rfl,rfl⟩
theorem DecB.toR{l:List PV}(h:DecB w0 wr cb nb ns cs ps gs cv pa pn pc ga gn gc l g):RestI w0 wr cb cs ps gs [] cv (.slice pa pn pc) (.slice ga gn gc) none 0 0 l g:=
 ⟨h.base,h.box,Ybc _ _ _ _,h.bel,fun _ a=>(by cases a)⟩
theorem ZUV(s:BA)(w:World)(hs:s.size<=maxLen) :
  CP 27 #[.string s] w fun e N=>∃(v:Value) (c p:Nat),e=.returned (.tuple #[v,Vi c,Vi p])/\Hid (ZTk N (Zb7 (bl s)) v c p)/\BW w N:=by
 have m4:s.size<=9223372036854775807:=by unfold maxLen at hs;omega
 have j4:=hid hs;clear hs;obtain⟨i0,hi,j5,j6,j7⟩:=info_parts Tryz.infoI64R;obtain⟨j0,hj,j8,j9,k0⟩:=info_parts Tryz.infoPartR;obtain⟨m0,hm,k1,k2,k3⟩:=info_parts Tryz.infoStrsR;by_cases h1:s.size<1
 ·have m:Hid (Zb7 (bl s)=.error (9,0)):=hid (ZT0 (by
   unfold Zc8;rw[if_pos];have:bl s=[]:=Ygc.1 (by rw[Zd];omega);rw[this];simp))
  go_enter func27,ntmps27;go_wp2
  go_ret3
  exact⟨_,9,0,rfl,hid (ZTk.kj m.out Dc),belB⟩
 ·have h0:0<s.size:=by omega
  have T:(bl s).head?=some s[0]:=by
   rw[Yd1,List.getElem?_eq_getElem (by rw[Zd];exact h0),ZgE s 0 h0]
  by_cases B:s[0]=103
  ·have d103:((s[0].toNat:Int) != 103)=false:=by rw[B];rfl
   by_cases h9:s.size<9
   ·have m:Hid (Zb7 (bl s)=.error (9,s.size)):=hid (ZT0 (by
     unfold Zc8;rw[if_neg (by rw[T,B];simp),if_pos (by rw[Zd];exact h9),Zd]))
    clear T B;go_enter func27,ntmps27;go_wp2
    go_ret3
    exact⟨_,9,s.size,rfl,hid (ZTk.kj m.out Dc),belB⟩
   ·obtain⟨n0,a4⟩:∃n0,n0=back (sub (bl s) 1 2):=⟨_,rfl⟩
    obtain⟨n1,a5⟩:∃n1,n1=back (sub (bl s) 3 2):=⟨_,rfl⟩
    obtain⟨n2,a6⟩:∃n2,n2=back (sub (bl s) 5 2):=⟨_,rfl⟩
    obtain⟨n3,a7⟩:∃n3,n3=back (sub (bl s) 7 2):=⟨_,rfl⟩
    have HH:Hid (Zc8 (bl s)=.ok (n0,n1,n2,n3)):=hid (by
     unfold Zc8;rw[if_neg (by rw[T,B];simp),if_neg (by rw[Zd];exact h9),a4,a5,a6,a7])
    have b0:=ZTU a4;have b1:=ZTU a5;have b2:=ZTU a6;have b3:=ZTU a7;have HN:=hid (And.intro a4 (And.intro a5 (And.intro a6 a7)));clear T B a4 a5 a6 a7;have e0:bl (s.extract 1 3)=sub (bl s) 1 2:=Zsy s 1 2;have e1:bl (s.extract 3 5)=sub (bl s) 3 2:=Zsy s 3 2;have e2:bl (s.extract 5 7)=sub (bl s) 5 2:=Zsy s 5 2;have e3:bl (s.extract 7 9)=sub (bl s) 7 2:=Zsy s 7 2;have a8:=hid (And.intro e0 (And.intro e1 (And.intro e2 e3)));clear e0 e1 e2 e3;go_enter func27,ntmps27
    go_upto_region 6 with fail
    refine ZP fun W V=>?_;have L:BW w W:=by rw[V];exact Zbal
    have d9:Hid (BAt W w.heap.size [S0,S0,S0,S0] 101):=hid (by rw[V];exact(show BAt _ _ _ _ from Go.Deep.blk_alloc_new w _));have a9:=hid L;have k4:w.heap.size<=w.heap.size:=Yac _;obtain⟨cb,e4⟩:∃cb,cb=w.heap.size:=⟨_,rfl⟩
    rw[<-e4]at d9 ⊢;have g0:Hid (w.heap.size<=cb):=hid Om;clear V L k4 e4 d103
    have g2 : Hid (∀ o, o = Obj.cells #[Vi n0, Vi n1, Vi n2, Vi n3] 2 -> DecA w (W.drew.alloc o) cb W.heap.size [Vi n0, Vi n1, Vi n2, Vi n3] [] none 0 0) := hid (fun o ho => by
      subst ho;have b4:BW W (W.drew.alloc (Obj.cells #[Vi n0,Vi n1,Vi n2,Vi n3] 2)):=((Yaf _ _).drew).alloc (Yac _) _;exact⟨d9.below b4,(show BAt _ _ _ _ from Go.Deep.blk_alloc_new W.drew _),Ybc _ _ _ _,a9.trans (b4.mono a9.size),g0.out,a9.size⟩)
    have i3:(3:Int)<=(s.size:Int):=by omega
    have i5:(5:Int)<=(s.size:Int):=by omega
    have i7:(7:Int)<=(s.size:Int):=by omega
    have i9:(9:Int)<=(s.size:Int):=by omega
    refine Zbn 13 (fun _=>True) Kr trivial (fun a=>?_);refine Za 0 a (h:=?_);refine Za 1 a (h:=?_);refine Za 3 a (h:=?_);refine Za 4 a (h:=?_);refine Za 6 a (h:=?_);refine Za 7 a (h:=?_);refine Za 9 a (h:=?_);refine Za 10 a (h:=?_);refine Z4 (i:=2) Kr rfl (fun K b=>?_);go_simp;refine(ZTO (by rw[Yga];omega)).mono ?_;rintro e w1 ⟨rfl,rfl⟩;rw[a8.1,<-HN.1];go_simp;refine b.out _ _ a (fun a=>?_);clear b K
    try simp only[Act.put,Zset]
    refine Z4 (i:=5) Kr rfl (fun K b=>?_);go_simp;refine(ZTO (by rw[Yga];omega)).mono ?_;rintro e w1 ⟨rfl,rfl⟩;rw[a8.2.1,<-HN.2.1];go_simp;refine b.out _ _ a (fun a=>?_);clear b K
    try simp only[Act.put,Zset]
    refine Z4 (i:=8) Kr rfl (fun K b=>?_);go_simp;refine(ZTO (by rw[Yga];omega)).mono ?_;rintro e w1 ⟨rfl,rfl⟩;rw[a8.2.2.1,<-HN.2.2.1];go_simp;refine b.out _ _ a (fun a=>?_);clear b K
    try simp only[Act.put,Zset]
    refine Z4 (i:=11) Kr rfl (fun K b=>?_);go_simp;refine(ZTO (by rw[Yga];omega)).mono ?_;rintro e w1 ⟨rfl,rfl⟩;rw[a8.2.2.2,<-HN.2.2.2];go_simp;refine b.out _ _ a (fun a=>?_);clear b K
    try simp only[Act.put,Zset]
    refine Z4 (i:=12) Kr rfl (fun K b=>?_);go_simp;refine b.out _ _ trivial (fun a=>?_);clear b K
    try simp only[Act.put,Zset]
    refine Zbl Kr Kr rfl Kr (fun K b=>?_);go_simp;refine b.out _ _ ?_;clear b K a
    go_upto_region 7 with fail
    refine ZP fun W2 g4=>?_;have g5:Hid (DecA w W2 cb W.heap.size [Vi n0,Vi n1,Vi n2,Vi n3] [] none 0 0):=hid (by rw[g4];exact g2.out _ rfl);clear g4 g2 d9 a9;generalize W.heap.size=nb at *
    have b5:Hid (∀k x,many (ZbW (bl s)) 9 k=.error x->k<=n0->Zb7 (bl s)=.error x):=hid (fun k x Y hk=>ZUW HH.out (ZyU Y n0 hk));go_wp2
    go_loopw [7,8] (fun av iv wr=>∃(k p:Nat) (xs:List Int) (ca:Option Addr) (cc:Nat),k<=n0/\iv=Vi k/\av=Vi p/\p<=s.size/\p<=9+4*k/\Hid (many (ZbW (bl s)) 9 k=.ok (xs,p))/\Hid (DecA w wr cb nb [Vi n0,Vi n1,Vi n2,Vi n3] xs ca k cc)) (fun _ iv _=>n0 - (intOf iv).toNat)
    case atStart=>exact⟨0,9,[],none,0,Yag _,rfl,rfl,by omega,by omega,hid rfl,g5⟩
    case round=>
     clear g5;obtain⟨k,p,xs,ca,cc,hk,rfl,rfl,hp,b6,A,J⟩:=hrel;have m0:=J.nbx.cell 0;simp only[Ycy]at m0;have M:=J.nbx.lt;by_cases b7:k<n0
     ·by_cases h4:s.size<p+4
      ·have m:Hid (Zb7 (bl s)=.error (9,s.size)):=hid (b5.out (k+1) (9,s.size) (ZgS A.out (by rw[ZUS (by rw[Zd];exact h4),Zd]) _ (Ybd k)) Om);go_wp2
       go_ret3
       exact⟨_,9,s.size,rfl,hid (ZTk.kj m.out Dc),J.bel⟩
      ·have b8:¬(bl s).length<p+4:=by rw[Zd];exact h4
       have l6:p+4<=s.size:=by omega
       have Z:Hid (bl (s.extract p (p+4))=sub (bl s) p 4):=hid (Zsy s p 4)
       go_wp2_with fail
       refine(ZTO (by rw[Yga];omega)).mono ?_;rintro e wr ⟨rfl,rfl⟩;rw[Z.out];obtain⟨v0,b9⟩:∃v0,v0=back (sub (bl s) p 4):=⟨_,rfl⟩
       rw[<-b9];obtain⟨vz,c6⟩:∃vz,vz=Zdp v0:=⟨_,rfl⟩
       have k5:v0<4294967296:=by rw[b9];exact ZhM (n:=4) (by unfold sub;rw[Ya7];omega)
       have e5:Hid (vz=Zdp (back (sub (bl s) p 4))):=hid (by rw[c6,b9]);obtain⟨bb,e6⟩:∃bb,decide ((2147483648:Int)<=(v0:Int))=bb:=⟨_,rfl⟩
       have g6:(bb=true/\IntKind.i64.wrap ((v0:Int) - 4294967296)=vz)∨(bb=false/\(v0:Int)=vz):=by
        rw[c6,<-e6];unfold Zdp;by_cases hh:2147483648<=v0
        ·rw[if_pos hh];exact Or.inl ⟨decide_eq_true Om,by rw[Ybo];omega⟩
        ·rw[if_neg hh];exact Or.inr ⟨decide_eq_false Om,rfl⟩
       have m5:Hid (-2147483648<=vz/\vz<2147483648):=hid (by
        rw[c6];unfold Zdp;by_cases hh:2147483648<=v0
        ·rw[if_pos hh];omega
        ·rw[if_neg hh];omega)
       clear b9 c6 Z k5
       go_upto_if 66 with fail
       (try rw[e6])
       clear e6
       go_cut [9] from 45 to 87 (fun s9 wx=>s9=Vi vz/\wx=wr)
       case first=>
        rcases g6 with ⟨rfl,hz⟩|⟨rfl,hz⟩
        ·have HZ:=hid hz;clear hz;go_wp2
         go_meet
         exact⟨by rw[<-HZ.out];exact congrArg (Value.int .i64) (by rw[Ybo];first|rfl|(unfold wrap64;rfl)|(unfold wrap64;omega)|simp[wrap64]),rfl⟩
        ·have HZ:=hid hz;clear hz;go_wp2
         go_meet
         exact⟨by rw[HZ.out],rfl⟩
       case rest=>
       obtain⟨rfl,rfl⟩:=hcut
       rename World=>wr
       clear g6;by_cases b4:vz < -1000000000
       ·have m:Hid (Zb7 (bl s)=.error (9,p)):=hid (b5.out (k+1) (9,p) (ZgS A.out (ZUj b8 e5.out (Or.inl b4)) _ (Ybd k)) Om);go_wp2
        go_ret3
        exact⟨_,9,p,rfl,hid (ZTk.kj m.out Dc),J.bel⟩
       ·by_cases E:1000000000<vz
        ·have m:Hid (Zb7 (bl s)=.error (9,p)):=hid (b5.out (k+1) (9,p) (ZgS A.out (ZUj b8 e5.out (Or.inr E)) _ (Ybd k)) Om);go_wp2
         go_ret3
         exact⟨_,9,p,rfl,hid (ZTk.kj m.out Dc),J.bel⟩
        ·have a0:Hid (many (ZbW (bl s)) 9 (k+1)=.ok (xs++[vz],p+4)):=hid (ZjI A.out (ZUT b8 e5.out (fun h=>by rcases h with h|h <;> omega)));have O:=J.own;have c0:=J.box.cell 0;simp only[Ycy]at c0;have U:=J.box.lt;have k6:Hid (∀o,DecA w (wr.alloc o) cb nb [Vi n0,Vi n1,Vi n2,Vi n3] xs ca k cc):=hid (fun o=>J.below Zbal);clear A J b8 m0
         go_wp2_with (at_builtin;refine wpList_append_own _ rfl (.tmp 80) (.tmp 82) 81 rfl (nb+1) 2 i0 (Vi 0) 1 8 underlying81 hi j5 j6 j7 rfl Dc _ _ _ rfl (O.alloc _) ⟨wr.heap.size,0,none⟩ 1 1 [Vi vz] rfl rfl ?c1 ?c2 ?c3 ?c4 ?c5 ?_)
         (try case c1=>exact cell_one_new _ _ _)
         case c2=>first|rfl|(intro u hu;simp at hu;subst hu;rfl)
         case c3=>unfold maxLen;omega
         case c4=>omega
         case c5=>first|omega|(simp;omega)
         intro v' w3 r F _;obtain⟨g3,cp3,e7⟩:=ZF r Om;subst e7;obtain⟨G,a1⟩:=(k6.out _).app (by exact F) r;have e8:=hid a1;have P:=hid G;clear r F a1 G c0 O U;have c0:=P.cell 0;have f0:=P.frozen 0;have U:=P.lt;simp only[Ycy]at c0;go_wp2
         go_roundw
         case rel=>exact⟨k+1,p+4,_,_,_,by omega,by go_num,by go_num,by omega,by omega,a0,e8⟩
         case measure=>simp[intOf];omega
     ·obtain rfl:n0=k:=by omega
      have g7:Hid (xs.length=n0):=hid (ZqR A.out);have g8:=hid (J.toB g7.out);have c7:=hid (ZUX HH.out A.out);have m6:p<=262149:=by omega
      obtain⟨p1,e9⟩:∃p1,p1=p:=⟨_,rfl⟩
      have g9:Hid (ZTm (bl s) n1 p1 0=.ok ([],[],p)):=hid (by rw[ZVz,e9]);rw[<-e9]at c7;clear e9 A g7 b5;have m7:=hid J.bel;clear J b7 hk b6;generalize Value.slice ca n0 cc=cv at *
      have f1:Hid (∀e,ZTm (bl s) n1 p1 (n1+n2)=.error e->Zb7 (bl s)=.error e):=hid (fun e Y=>by rw[c7.out,Y]);have k7:Hid (∀ps gs q,ZTm (bl s) n1 p1 (n1+n2)=.ok (ps,gs,q)->Zb7 (bl s)=ZTy (bl s) xs ps gs q n3):=hid (fun ps gs q Y=>by rw[c7.out,Y]);clear c7;go_wp2;clear m0 M
      go_loopw [7,10] (fun av iv wr=>∃(i p:Nat) (ps:List (Nd×Nat)) (gs:List (List (LB))) (pa:Option Addr) (pn pc:Nat) (ga:Option Addr) (gn gc:Nat) (l:List PV) (g:List (Option Addr×Nat×Nat)),i<=n1+n2/\iv=Vi i/\av=Vi p/\p<=s.size/\p<=262149+65537*i/\pn<=i/\gn<=i/\Hid (ZTm (bl s) n1 p1 i=.ok (ps,gs,p))/\Hid (DecB w wr cb nb [Vi n0,Vi n1,Vi n2,Vi n3] xs ps gs cv pa pn pc ga gn gc l g)) (fun _ iv _=>n1+n2 - (intOf iv).toNat)
      case atStart=>exact⟨0,p,[],[],none,0,0,none,0,0,[],[],Yag _,rfl,rfl,hp,by omega,Yac _,Yac _,g9,g8⟩
      case round=>
       clear g8 g9;obtain⟨i,p,ps,gs,pa,pn,pc,ga,gn,gc,l,g,m8,rfl,rfl,hp,m9,n4,n5,A,HD⟩:=hrel;have m1:=HD.nbx.cell 1;have m2:=HD.nbx.cell 2;simp only[Zget]at m1 m2;have M:=HD.nbx.lt;have ws:IntKind.i64.wrap ((n1:Int)+(n2:Int))=(n1:Int)+(n2:Int):=by rw[Ybo];omega
       by_cases b7:i<n1+n2
       ·have f3:(i:Int)<(n1:Int)+(n2:Int):=by omega
        go_wp2
        go_quiet (fail)
        go_upto_region 23 with fail
        refine ZP fun W V=>?_;have L:BW wr W:=by rw[V];exact(by first|exact ZhQ (Yaf _ _) _|exact(Yaf _ _).drew|exact Yaf _ _)
        have t:=hid (HD.below L);clear V L HD m1 m2 f3 ws M;have m1:=t.nbx.cell 1;simp only[Zget]at m1;have M:=t.nbx.lt
        have f4 : Hid (∀ e, ZcH (bl s) p = .error e -> Zb7 (bl s) = .error e) := hid (fun e Y => f1.out e (by
          by_cases hh:i<n1
          · exact ZUv hh A.out (ZVR Y)
          · exact ZUu hh b7 A.out (ZVr Y)))
        by_cases h2:s.size<p+2
        ·have m:Hid (Zb7 (bl s)=.error (9,s.size)):=hid (f4.out _ (by rw[ZWp (by rw[Zd];exact h2),Zd]));go_wp2
         go_ret3
         exact⟨_,9,s.size,rfl,hid (ZTk.kj m.out Dc),t.bel⟩
        ·have f5:¬(bl s).length<p+2:=by rw[Zd];exact h2
         have l7:p+2<=s.size:=by omega
         have Z:Hid (bl (s.extract p (p+2))=sub (bl s) p 2):=hid (Zsy s p 2);have n6:p<=9000000000:=by omega
         go_wp2_with fail
         refine(ZTO (by rw[Yga];omega)).mono ?_;rintro e W ⟨rfl,rfl⟩;rw[Z.out];obtain⟨tn,c8⟩:∃tn,tn=back (sub (bl s) p 2):=⟨_,rfl⟩
         rw[<-c8];have n7:=ZTU c8;have f6:=hid c8;clear c8 Z;by_cases h3:s.size<p+2+tn
         ·have m:Hid (Zb7 (bl s)=.error (9,s.size)):=hid (f4.out _ (by rw[ZWo f5 f6.out (by rw[Zd];exact h3),Zd]));go_wp2
          go_ret3
          exact⟨_,9,s.size,rfl,hid (ZTk.kj m.out Dc),t.bel⟩
         ·have Q:=hid (ZWq f5 f6.out (by rw[Zd];exact h3));have f7:p+2+tn<=s.size:=by omega
          clear f5 f6 f4
          go_upto_region 29 with fail
          obtain⟨tx,c9⟩:∃tx,s.extract (p+2) (p+2+tn)=tx:=⟨_,rfl⟩
          rw[c9];have i1:tx.size<=65535:=by rw[<-c9,Yga];omega
          rw[<-Zsy s (p+2) tn,c9]at Q;clear c9;by_cases d0:i<n1
          ·have a3:(i:Int)<(n1:Int):=by omega
           go_wp2_with fail
           refine(ZVO tx W i1).mono ?_;rintro e z ⟨x,ok,rfl,d6,E⟩;have f:=hid (t.below E);clear E t a3 m1 M;cases j:ZbA (bl tx)with
           | none=>
            have R:ok=.bool false:=by have:=d6.out;rw[j]at this;exact this
            subst R;have m:Hid (Zb7 (bl s)=.error (9,p)):=hid (f1.out _ (ZUv d0 A.out (ZVP Q.out j)));clear j d6;have j2:Hid (∀o,BW w (z.alloc o)):=hid (fun o=>f.bel.alloc f.bel.size _);unfold pvV;go_wp2
            go_ret3
            exact⟨_,9,p,rfl,hid (ZTk.kj m.out Dc),j2.out _⟩
           | some y=>
            have R:ok=.bool true/\PkOk z y x:=by have:=d6.out;rw[j]at this;exact this
            obtain⟨rfl,b6⟩:=R;have a0:Hid (ZTm (bl s) n1 p1 (i+1)=.ok (ps++[y],gs,p+2+tn)):=hid (ZVy d0 A.out (ZVQ Q.out j));have i2:=hid b6;clear j d6 b6 A Q;obtain⟨xk,xn,xo,xm,xca,xcn,xcc,xba,xbn,xbc,xa,xb⟩:=x;unfold pvV;simp only
            go_upto_region 33 with fail
            refine ZP fun C f8=>?_;have G:BW z C:=by rw[f8];exact Zbal
            have D:Hid (BAt C z.heap.size [Vi xk,Vi xn,Vi xo,.string xm,.slice xca xcn xcc,.slice xba xbn xbc,Vi xa,Vi xb] 92):=hid (by rw[f8];exact(show BAt _ _ _ _ from Go.Deep.blk_alloc_new z _));have a2:=hid (f.below G);have j3:=hid (i2.below G);have k8:Hid (¬(Value.slice pa pn pc).ownBlock=some z.heap.size):=hid (fun e=>by have:=(f.pown.lt _ e).2;omega);clear f8 G f i2;generalize z.heap.size=px at *
            have i4:C.drew.cell? ⟨cb,1,none⟩=some (.slice pa pn pc)/\C.drew.cell? ⟨px,0,none⟩=some (Vi xk)/\C.drew.cell? ⟨px,1,none⟩=some (Vi xn)/\C.drew.cell? ⟨px,2,none⟩=some (Vi xo)/\C.drew.cell? ⟨px,3,none⟩=some (.string xm)/\C.drew.cell? ⟨px,4,none⟩=some (.slice xca xcn xcc)/\C.drew.cell? ⟨px,5,none⟩=some (.slice xba xbn xbc)/\C.drew.cell? ⟨px,6,none⟩=some (Vi xa)/\C.drew.cell? ⟨px,7,none⟩=some (Vi xb):=⟨a2.box.cell 1,D.cell 0,D.cell 1,D.cell 2,D.cell 3,D.cell 4,D.cell 5,D.cell 6,D.cell 7⟩
            have U:=a2.box.lt;have n8:=D.lt;have k9:Hid (∀o,(C.drew.alloc o).ownsRow w.heap.size 92 8 (.slice pa pn pc) pn (ZTx l)):=hid (fun o=>a2.pown.drew.alloc o);have d7:Hid (∀o,DecB w (C.drew.alloc o) cb nb [Vi n0,Vi n1,Vi n2,Vi n3] xs ps gs cv pa pn pc ga gn gc l g):=hid (fun o=>a2.below (((Yaf _ _).drew).alloc (Yac _) _));have H:Hid (∀o,BAt (C.drew.alloc o) px [Vi xk,Vi xn,Vi xo,.string xm,.slice xca xcn xcc,.slice xba xbn xbc,Vi xa,Vi xb] 92):=hid (fun o=>D.below (((Yaf _ _).drew).alloc (Yac _) _));have l0:Hid (∀o,PkOk (C.drew.alloc o) y ⟨xk,xn,xo,xm,xca,xcn,xcc,xba,xbn,xbc,xa,xb⟩):=hid (fun o=>j3.below (((Yaf _ _).drew).alloc (Yac _) _));have l8:pn<=131070:=by omega
            have n9:w.heap.size<=C.heap.size:=a2.bel.size;refine Zbn 10 (fun N=>N.cell? ⟨cb,1,none⟩=some (.slice pa pn pc)/\N.cell? ⟨px,0,none⟩=some (Vi xk)/\N.cell? ⟨px,1,none⟩=some (Vi xn)/\N.cell? ⟨px,2,none⟩=some (Vi xo)/\N.cell? ⟨px,3,none⟩=some (.string xm)/\N.cell? ⟨px,4,none⟩=some (.slice xca xcn xcc)/\N.cell? ⟨px,5,none⟩=some (.slice xba xbn xbc)/\N.cell? ⟨px,6,none⟩=some (Vi xa)/\N.cell? ⟨px,7,none⟩=some (Vi xb)) Kr (by exact i4) (fun a=>?_);clear i4;refine Za 0 a (h:=?_);refine Za 1 a (h:=?_);refine Za 2 a (h:=?_);refine Za 3 a (h:=?_);refine Za 4 a (h:=?_);refine Za 5 a (h:=?_);refine Z4 (i:=6) Kr rfl (fun K b=>?_);go_simp;refine b.out _ _ ⟨(d7.out _).box.cell 1,(H.out _).cell 0,(H.out _).cell 1,(H.out _).cell 2,(H.out _).cell 3,(H.out _).cell 4,(H.out _).cell 5,(H.out _).cell 6,(H.out _).cell 7⟩ (fun a=>?_);clear b K
            try simp only[Act.put,Zset]
            refine Z4 (i:=7) Kr rfl (fun K b=>?_);refine ZfF rfl (.tmp 143) (.tmp 145) 98 rfl w.heap.size 92 j0 _ 8 104 underlying98 hj j8 j9 k0 rfl Dc (.slice pa pn pc) pn (ZTx l) (by simp[Act.eval]) (by exact k9.out _) ⟨C.heap.size,0,none⟩ 1 1 [Vi xk,Vi xn,Vi xo,.string xm,.slice xca xcn xcc,.slice xba xbn xbc,Vi xa,Vi xb] (by simp[Act.eval]) rfl ?h2 ?h3 ?h4 ?h5 ?h6 ?_
            case h2=>exact ZcY rfl
            case h3=>intro u hu;simp at hu;rcases hu with rfl|rfl|rfl|rfl|rfl|rfl|rfl|rfl <;> rfl
            case h4=>unfold maxLen;omega
            case h5=>omega
            case h6=>simp;omega
            intro v1 w1 X S _;obtain⟨g1,cp1,l1⟩:=ZF X Om;subst l1;obtain⟨f9,i6⟩:=(d7.out _).appP (l0.out _) (by exact S) X;have i8:=hid f9;have l2:=hid i6;have I:=(H.out _).grown S (fun e=>k8.out e.symm);refine b.out _ _ ⟨f9.cell 1,I.cell 0,I.cell 1,I.cell 2,I.cell 3,I.cell 4,I.cell 5,I.cell 6,I.cell 7⟩ (fun a=>?_);clear b K f9 i6 I X S
            try simp only[Act.put,Yc4]
            refine ZeD (i:=8) (d:=147) (v:=?qv8) rfl rfl Kr (fun _ _ _ h=>h) (Or.inl ⟨by rfl,?qhy8⟩) a ?qrs8
            case qhy8=>(intro w hSw;go_simp;try with_reducible rfl)
            case qrs8=>
            refine ZeD (i:=9) (d:=148) (v:=?qv9) rfl rfl Kr (fun _ _ _ h=>h) (Or.inl ⟨by rfl,?qhy9⟩) a ?qrs9
            case qhy9=>(intro w hSw;go_simp;try with_reducible rfl)
            case qrs9=>
            refine Zbl Kr Kr rfl Kr (fun K b=>?_);have yc:=i8.cell 1;have yf:=i8.frozen 1;simp only[Zget]at yc;clear a;go_simp;refine b.out _ _ ?_;clear b K yc yf;go_wp2
            go_roundw
            case rel=>exact⟨i+1,p+2+tn,_,_,_,_,_,_,_,_,_,_,by omega,by go_num,by go_num,f7,by omega,by omega,by omega,a0,l2⟩
            case measure=>simp[intOf];omega
          ·have a3:¬(i:Int)<(n1:Int):=by omega
           go_wp2_with fail
           refine(ZVn tx W i1).mono ?_;rintro e z ⟨ya,yn,yc,ok,rfl,d8,E⟩;have f:=hid (t.below E);clear E t a3 m1 M;cases j:ZcG (bl tx)with
           | none=>
            have R:ok=.bool false:=by have:=d8.out;rw[j]at this;exact this
            subst R;have m:Hid (Zb7 (bl s)=.error (9,p)):=hid (f1.out _ (ZUu d0 b7 A.out (ZVp Q.out j)));clear j d8;go_wp2
            go_ret3
            exact⟨_,9,p,rfl,hid (ZTk.kj m.out Dc),f.bel⟩
           | some y=>
            have R:ok=.bool true/\∃bs:List BA,z.ownsRow 0 9 1 (.slice ya yn yc) bs.length (bs.map .string)/\bs.map bl=y:=by have:=d8.out;rw[j]at this;exact this
            obtain⟨rfl,j1⟩:=R;have a0:Hid (ZTm (bl s) n1 p1 (i+1)=.ok (ps,gs++[y],p+2+tn)):=hid (ZVx d0 A.out (ZVq Q.out j))
            have l3 : Hid (∀ o, ∃ bs : List BA, (z.alloc o).ownsRow 0 9 1 (.slice ya yn yc) bs.length (bs.map .string) /\ bs.map bl = y) := hid (fun o => by
              obtain⟨bs,h1,h2⟩:=j1;exact⟨bs,h1.alloc o,h2⟩)
            have d7:Hid (∀o,DecB w (z.alloc o) cb nb [Vi n0,Vi n1,Vi n2,Vi n3] xs ps gs cv pa pn pc ga gn gc l g):=hid (fun o=>f.below Zbal);have O:=f.gown;have c2:=f.box.cell 2;simp only[Zget]at c2;have U:=f.box.lt;have l9:gn<=131070:=by omega
            have o0:w.heap.size<=z.heap.size:=f.bel.size;clear j d8 j1 A Q f
            go_wp2_with (at_builtin;refine wpList_append_own _ rfl (.tmp 161) (.tmp 163) 55 rfl w.heap.size 90 m0 S0 1 24 underlying55 hm k1 k2 k3 rfl Dc _ _ _ rfl (O.alloc _) ⟨z.heap.size,0,none⟩ 1 1 [.slice ya yn yc] rfl rfl ?d1 ?d2 ?d3 ?d4 ?d5 ?_)
            (try case d1=>exact cell_one_new _ _ _)
            case d2=>first|rfl|(intro u hu;simp at hu;subst hu;rfl)
            case d3=>unfold maxLen;omega
            case d4=>omega
            case d5=>first|omega|(simp;omega)
            intro v' w3 r F _;obtain⟨g3,cp3,e7⟩:=ZF r Om;subst e7;obtain⟨G,a1⟩:=(d7.out _).appG (l3.out _) (by exact F) r;have e8:=hid a1;have P:=hid G;clear r F a1 G c2 O U;have c2:=P.cell 2;have f2:=P.frozen 2;have U:=P.lt;simp only[Zget]at c2;go_wp2
            go_roundw
            case rel=>exact⟨i+1,p+2+tn,_,_,_,_,_,_,_,_,_,_,by omega,by go_num,by go_num,f7,by omega,by omega,by omega,a0,e8⟩
            case measure=>simp[intOf];omega
       ·obtain rfl:i=n1+n2:=by omega
        have f3:¬((n1+n2:Nat):Int)<(n1:Int)+(n2:Int):=by omega
        go_wp2
        go_quiet (fail)
        go_upto_region 39 with fail
        refine ZP fun W V=>?_;have L:BW wr W:=by rw[V];exact(by first|exact ZhQ (Yaf _ _) _|exact(Yaf _ _).drew|exact Yaf _ _)
        have t:=hid (HD.below L);have l4:=hid (k7.out ps gs p A.out);clear V L HD m1 m2 f3 ws M;have m3:=t.nbx.cell 3;simp only[Zget]at m3;have M:=t.nbx.lt
        go_wp2_with fail
        refine(ZV1 w W s p n3 cb xs ps gs cv l g t.toR g0.out j4.out hp Om b3).mono ?_;rintro e z ⟨v,c,q,rfl,HR,E⟩;have l5:Hid (ZTk z (Zb7 (bl s)) v c q):=hid (by rw[l4.out];exact HR.out);go_wp2
        go_ret3
        exact⟨v,c,q,rfl,l5,E⟩
  ·have d103:((s[0].toNat:Int) != 103)=true:=by
    rw[bne_iff_ne];intro e;exact B (Ydf.1 (by show _=103;omega))
   have m:Hid (Zb7 (bl s)=.error (9,0)):=hid (ZT0 (by
    unfold Zc8;rw[if_pos (by rw[T];intro e;injection e with e;exact B e)]))
   clear T B;go_enter func27,ntmps27;go_wp2
   go_ret3
   exact⟨_,9,0,rfl,hid (ZTk.kj m.out Dc),belB⟩

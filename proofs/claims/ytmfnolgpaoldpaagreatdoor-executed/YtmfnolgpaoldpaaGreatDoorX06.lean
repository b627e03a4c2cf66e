/- Parts. -/
import Derived.Test.YtmfnolgpaoldpaaGreatDoorX05
set_option linter.all false
set_option maxRecDepth 100000
set_option maxHeartbeats 16000000
namespace Go.Proofs.YtmfnolgpaoldpaaGreatDoor
open Go.RowKit LS Go.Proofs.Tryz
open Go renaming World->Y,Value->F
open Go.RowKit renaming Hid->U
theorem Zdd{l:LB}{p n:Nat}(h:¬l.length<p+n):Z8 l p n=.ok (Yp<|Y6 l p n,p+n):=by
 unfold Z8 VJ;rw[Yd h]
theorem Ck{l:LB}{p n:Nat}(h:l.length<p+n):Z8 l p n=.error (9,l.length):=by
 unfold Z8 VJ;rw[Ye h]
theorem ui{l:LB}{p:Nat}(h:l.length<p+4):Vw l p=.error (9,l.length):=by
 unfold Vw;rw[Ck h]
theorem EY{l:LB}{p:Nat}{v:Int}(h:¬l.length<p+4)(a:v=TZ (Yp<|Y6 l p 4))(c:v< -1000000000\/1000000000<v):Vw l p=.error (9,p):=by
 unfold Vw;rw[Zdd h];simp only;rw[<-a,Ye c]
theorem uj{l:LB}{p:Nat}{v:Int}(h:¬l.length<p+4)(a:v=TZ (Yp<|Y6 l p 4))(c:¬(v< -1000000000\/1000000000<v)):Vw l p=.ok (v,p+4):=by
 unfold Vw;rw[Zdd h];simp only;rw[<-a,Yd c]
theorem gY{l:LB}{p:Nat}(h:l.length<p+2):Vz l p=.error (9,l.length):=by
 unfold Vz;rw[Ck h]
theorem gW{l:LB}{p n:Nat}(h:¬l.length<p+2)(a:n=Yp (Y6 l p 2))(c:l.length<p+2+n):Vz l p=.error (9,l.length):=by
 unfold Vz;rw[Zdd h];simp only;rw[<-a];unfold VJ;rw[Ye c]
theorem gZ{l:LB}{p n:Nat}(h:¬l.length<p+2)(a:n=Yp (Y6 l p 2))(c:¬l.length<p+2+n):Vz l p=.ok (Y6 l (p+2) n,p+2+n):=by
 unfold Vz;rw[Zdd h];simp only;rw[<-a];unfold VJ;rw[Yd c]
theorem mO{l:LB}{p:Nat}{e:Nat×Nat}(h:Vz l p=.error e):pickAt l p=.error e:=by unfold LS.pickAt;rw[h]
theorem qK{l:LB}{p:Nat}{e:Nat×Nat}(h:Vz l p=.error e):groupAt l p=.error e:=by unfold LS.groupAt;rw[h]
theorem mJ{l:LB}{p q:Nat}{t:LB}(h:Vz l p=.ok (t,q))(a:ZL t=none):pickAt l p=.error (9,p):=by unfold LS.pickAt;rw[h];simp only;rw[a]
theorem mM{l:LB}{p q:Nat}{t:LB}{x:Nd×Nat}(h:Vz l p=.ok (t,q))(a:ZL t=some x):pickAt l p=.ok (x,q):=by unfold LS.pickAt;rw[h];simp only;rw[a]
theorem qG{l:LB}{p q:Nat}{t:LB}(h:Vz l p=.ok (t,q))(a:VW t=none):groupAt l p=.error (9,p):=by unfold LS.groupAt;rw[h];simp only;rw[a]
theorem qI{l:LB}{p q:Nat}{t:LB}{x:List<|LB}(h:Vz l p=.ok (t,q))(a:VW t=some x):groupAt l p=.ok (x,q):=by unfold LS.groupAt;rw[h];simp only;rw[a]
def Tg(l:LB)(n1 p:Nat)(i:Nat):Except (Nat×Nat)<|List (Nd×Nat)×List (List<|LB)×Nat:=match Yo (LS.pickAt l) p (min i n1)with
 |.error e=>.error e
 |.ok ps=>match Yo (groupAt l) ps.2<|i-n1 with
  |.error e=>.error e
  |.ok gs=>.ok (ps.1,gs.1,gs.2)
theorem oe(l:LB)(n1 p:Nat):Tg l n1 p 0=.ok ([],[],p):=by
 unfold Tg;rw[Nat.zero_min,Nat.zero_sub];rfl
theorem od{l:LB}{n1 p i q r:Nat}{ps:List<|Nd×Nat}{gs:List<|List<|LB}{y:Nd×Nat}(d:i<n1)(h:Tg l n1 p i=.ok (ps,gs,q))(c:LS.pickAt l q=.ok (y,r)):Tg l n1 p (i+1)=.ok (ps++[y],gs,r):=by
 unfold Tg at h⊢;rw[QR X,Ef X]at h⊢;cases a:Yo (LS.pickAt l) p i with
 |error e=>rw[a]at h;cases h
 |ok x=>
  rw[a]at h;simp only[Yo]at h;injection h with h;injection h with h1 h2;injection h2 with h2 h3;obtain⟨xs,q'⟩:=x;simp only at h1 h2 h3;subst h1 h2 h3;rw[OF a c];rfl
theorem CR{l:LB}{n1 p i q n2:Nat}{ps:List<|Nd×Nat}{gs:List<|List<|LB}{e:Nat×Nat}(c:i<n1)(h:Tg l n1 p i=.ok (ps,gs,q))(d:LS.pickAt l q=.error e):Tg l n1 p (n1+n2)=.error e:=by
 unfold Tg at h⊢;rw[QR X,Ef X]at h;rw[Ks X];cases a:Yo (LS.pickAt l) p i with
 |error e=>rw[a]at h;cases h
 |ok x=>
  rw[a]at h;simp only[Yo]at h;injection h with h;injection h with h1 h2;injection h2 with h2 h3;obtain⟨xs,q'⟩:=x;simp only at h1 h2 h3;subst h1 h2 h3;rw[Rr a d _ c]
theorem pZ{l:LB}{n1 p i q r:Nat}{ps:List<|Nd×Nat}{gs:List<|List<|LB}{y:List<|LB}(f:¬i<n1)(h:Tg l n1 p i=.ok (ps,gs,q))(d:groupAt l q=.ok (y,r)):Tg l n1 p (i+1)=.ok (ps,gs++[y],r):=by
 unfold Tg at h⊢;rw[Ks X]at h⊢;rw[show i+1-n1=i-n1+1 by omega];cases c:Yo (LS.pickAt l) p n1 with
 |error e=>rw[c]at h;cases h
 |ok x=>
  rw[c]at h;simp only at h⊢;cases a:Yo (groupAt l) x.2 (i-n1)with
  |error e=>rw[a]at h;cases h
  |ok z=>
   rw[a]at h;simp only at h;injection h with h;injection h with h1 h2;injection h2 with h2 h3;obtain⟨zs,q'⟩:=z;simp only at h1 h2 h3;subst h1 h2 h3;rw[OF a d]
theorem CQ{l:LB}{n1 p i q n2:Nat}{ps:List<|Nd×Nat}{gs:List<|List<|LB}{e:Nat×Nat}(g:¬i<n1)(f:i<n1+n2)(h:Tg l n1 p i=.ok (ps,gs,q))(d:groupAt l q=.error e):Tg l n1 p (n1+n2)=.error e:=by
 unfold Tg at h⊢;rw[Ks X]at h⊢;rw[show n1+n2-n1=n2 by omega];cases c:Yo (LS.pickAt l) p n1 with
 |error e=>rw[c]at h;cases h
 |ok x=>
  rw[c]at h;simp only at h⊢;cases a:Yo (groupAt l) x.2 (i-n1)with
  |error e=>rw[a]at h;cases h
  |ok z=>
   rw[a]at h;simp only at h;injection h with h;injection h with h1 h2;injection h2 with h2 h3;obtain⟨zs,q'⟩:=z;simp only at h1 h2 h3;subst h1 h2 h3;rw[Rr a d _ X]
theorem uK{l:LB}{n0 n1 n2 n3:Nat}{cs:List Int}{p:Nat}(a:US l=.ok (n0,n1,n2,n3))(c:Yo (Vw l) 9 n0=.ok (cs,p)):
 Wt l=match Tg l n1 p (n1+n2)with
  |.error e=>.error e
  |.ok x=>OM l cs x.1 x.2.1 x.2.2 n3:=by
 unfold Wt Tg OM;rw[a];simp only;rw[c,Ks X,show n1+n2-n1=n2 by omega];simp only;cases Yo (LS.pickAt l) p n1 with
 |error e=>rfl
 |ok ps=>
  simp only;cases Yo (groupAt l) ps.2 n2 with
  |error e=>rfl
  |ok gs=>rfl
theorem uJ{l:LB}{n0 n1 n2 n3:Nat}{e:Nat×Nat}(a:US l=.ok (n0,n1,n2,n3))(c:Yo (Vw l) 9 n0=.error e):Wt l=.error e:=by
 unfold Wt;rw[a];simp only;rw[c]
theorem Hk{l:LB}{e:Nat×Nat}(a:US l=.error e):Wt l=.error e:=by unfold Wt;rw[a]
theorem LW{l:LB}{p n:Nat}(a:n=Yp (Y6 l p 2)):n<=65535:=by
 have:=PS (l:=Y6 l p 2) (n:=2)<|by unfold Y6;rw[Xw];omega
 rw[<-a]at this;omega
theorem Tryz.infoI64R:(Tryz.prog.info? 2).map (λi=>(i.zero,i.size,i.bytes))=some (some<|E 0,1,8):=Kr
theorem Tryz.infoPartR:(Tryz.prog.info? 59).map (λi=>(i.zero,i.size,i.bytes))=some (some<|.agg #[E 0,E 0,E 0,.string ⟨#[]⟩,S0,S0,E 0,E 0],8,104):=Kr
theorem Tryz.infoStrsR:(Tryz.prog.info? 57).map (λi=>(i.zero,i.size,i.bytes))=some (some S0,1,24):=Kr
structure V2 (w0 wr:Y)(cb nb:Nat)(ns:List F)(xs:List Int)(ca:Option Addr)(n cc:Nat):Prop where
 box:Ya wr cb [.slice ca n cc,S0,S0,S0] 69
 nbx:Ya wr nb ns 2
 own:wr.ownsRow (nb+1) 2 1 (.slice ca n cc) n<|xs.map<|.int .i64
 bel:BW w0 wr
 lo:w0.heap.size<=cb
 lo2:w0.heap.size<=nb
theorem V2.below{w0 wr c:Y}{cb nb:Nat}{ns:List F}{xs:List Int}{ca:Option Addr}{n cc:Nat}(h:V2 w0 wr cb nb ns xs ca n cc)(a:BW wr c):V2 w0 c cb nb ns xs ca n cc:=
 ⟨h.box.below a,h.nbx.below a,Ze h.own a,h.bel.trans<|a.mono h.bel.size,h.lo,h.lo2⟩
theorem vD{w0 w w':Y}{v:F}{base:Nat}{e:TypeId}{sz n:Nat}{xs:List F}(h:BW w0 w)(f:w0.heap.size<=base)(d:w.ownsRow base e sz v n xs)(a:w.grownBy w' v.ownBlock):BW w0 w':=by
 refine⟨a.os.trans h.os,a.tape.trans h.tape,a.output.trans h.output,Xb h.size a.size,?_⟩;intro j c;rw[a.block j (WH c h.size) λe=>by have:=(d.lt j e.symm).1;omega,h.block j c]
theorem V2.app{w0 wr c:Y}{cb nb:Nat}{ns:List F}{xs:List Int}{ca:Option Addr}{n cc:Nat}(h:V2 w0 wr cb nb ns xs ca n cc){ga nc:Nat}{v:Int}
 (f:wr.grownBy c (Value.slice ca n cc).ownBlock)(i:c.ownsRow (nb+1) 2 1 (.slice (some ⟨ga,0,none⟩) (n+1) nc) (n+1)<|xs.map (.int .i64)++[E v]):
 Ya c cb [.slice ca n cc,S0,S0,S0] 69/\V2 w0 (c.setCell ⟨cb,0,none⟩<|.slice (some ⟨ga,0,none⟩) (n+1) nc) cb nb ns (xs++[v]) (some ⟨ga,0,none⟩) (n+1) nc:=by
 have a:=h.box.ownGrownR h.own f N;have d:=h.nbx.grown f λe=>by have:=(h.own.lt _ e.symm).1;omega
 have j:nb≠cb:=λe=>by
  have l:=d;rw[e]at l;have g:=l.symm.trans a;injection g with g;injection g with _ h3;exact absurd h3 N
 refine⟨a,a.setkM 0 _,d.other j _,?_,Below.setCell (vD h.bel (Nat.le_succ_of_le h.lo2) h.own f) h.lo _,h.lo,h.lo2⟩;rw[Xa];exact ZJ i λk m=>Go.Deep.blk_setCell_other _ _ _ _<|by
  rintro rfl;exact ZD i a N m.symm
structure Tl (w0 wr:Y)(cb nb:Nat)(ns:List F)(cs:List Int)(ps:List<|Nd×Nat)(gs:List<|List<|LB)(cv:F)(pa:Option Addr)(pn pc:Nat)(ga:Option Addr)(gn gc:Nat)(l:List PV)(g:List<|Option Addr×Nat×Nat):Prop where
 base:WD wr ⟨cs,ps,gs,[]⟩ cv (.slice pa pn pc) (.slice ga gn gc) l g
 pown:wr.ownsRow w0.heap.size 59 8 (.slice pa pn pc) pn<|Pf l
 gown:wr.ownsRow w0.heap.size 57 1 (.slice ga gn gc) gn<|g.map λy=>.slice y.1 y.2.1 y.2.2
 box:Ya wr cb [cv,.slice pa pn pc,.slice ga gn gc,S0] 69
 nbx:Ya wr nb ns 2
 bel:BW w0 wr
 lo:w0.heap.size<=cb
 lp:ps.length=pn
 lg:gs.length=gn
theorem WD.below{w w':Y}{c:Yb}{cv pv gv:F}{l:List PV}{g:List<|Option Addr×Nat×Nat}(h:WD w c cv pv gv l g)(a:BW w w'):WD w' c cv pv gv l g:=h.keep<|WU.below _ a
theorem Tl.below{w0 wr c:Y}{cb nb:Nat}{ns:List F}{cs:List Int}{ps:List<|Nd×Nat}{gs:List<|List<|LB}{cv:F}{pa:Option Addr}{pn pc:Nat}{ga:Option Addr}{gn gc:Nat}{l:List PV}{g:List<|Option Addr×Nat×Nat}(h:Tl w0 wr cb nb ns cs ps gs cv pa pn pc ga gn gc l g)(a:BW wr c):Tl w0 c cb nb ns cs ps gs cv pa pn pc ga gn gc l g:=
 ⟨h.base.below a,Ze h.pown a,Ze h.gown a,h.box.below a,h.nbx.below a,h.bel.trans<|a.mono h.bel.size,h.lo,h.lp,h.lg⟩
theorem eE(l m:List PV):Pf (l++m)=Pf l++Pf m:=by
 induction l with
 |nil=>rfl
 |cons a l ih=>show a.cells++Pf (l++m)=a.cells++Pf l++Pf m;rw[ih,Vd]
theorem eD {w:Y}{a b:Nat}{c d:List F}{t u:TypeId}(h:Ya w a c t)(g:Ya w b d u)(i:t≠u):a≠b:=λe=>by
 rw[e]at h;have f:=h.symm.trans g;injection f with f;injection f with _ h3;exact i h3
theorem XH{α:Type}{l:List α}{x y:α}{i:Nat}(h:(l++[x])[i]?=some y):l[i]?=some y\/(i=l.length/\y=x):=by
 by_cases a:i<l.length
 .rw[PA a]at h;exact .inl h
 .rw[Rg X]at h;have:i-l.length=0:=by
   cases c:i-l.length with
  |zero=>rfl
  |succ k=>rw[c]at h;simp at h
  rw[this]at h;simp at h;exact .inr ⟨X,h.symm⟩
theorem Tl.appP{w0 wr d:Y}{cb nb:Nat}{ns:List F}{cs:List Int}{ps:List<|Nd×Nat}{gs:List<|List<|LB}{cv:F}{pa:Option Addr}{pn pc:Nat}{ga:Option Addr}{gn gc:Nat}{l:List PV}{g:List<|Option Addr×Nat×Nat}(h:Tl w0 wr cb nb ns cs ps gs cv pa pn pc ga gn gc l g){x:Nd×Nat}{p:PV}{na nc:Nat}
 (t:VC wr x p)(j:wr.grownBy d (Value.slice pa pn pc).ownBlock)(o:d.ownsRow w0.heap.size 59 8 (.slice (some ⟨na,0,none⟩) (pn+1) nc) (pn+1)<|Pf l++p.cells):
 Ya d cb [cv,.slice pa pn pc,.slice ga gn gc,S0] 69/\Tl w0 (d.setCell ⟨cb,1,none⟩<|.slice (some ⟨na,0,none⟩) (pn+1) nc) cb nb ns cs (ps++[x]) gs cv (some ⟨na,0,none⟩) (pn+1) nc ga gn gc (l++[p]) g:=by
 have a:=h.box.ownGrownR h.pown j N;have m:=h.nbx.ownGrownR h.pown j N;have r:WU [59,69] _ _:=WU.grown h.pown j N;have s:WU [59,69] _<|d.setCell ⟨cb,1,none⟩<|.slice (some ⟨na,0,none⟩) (pn+1) nc:=WU.set a N _ _;have e:=r.trans s;have n:(d.setCell ⟨cb,1,none⟩<|.slice (some ⟨na,0,none⟩) (pn+1) nc).ownsRow w0.heap.size 59 8 (.slice (some ⟨na,0,none⟩) (pn+1) nc) (pn+1)<|Pf<|l++[p]:=by
  rw[eE,show Pf [p]=p.cells from Ud _];exact ZJ o λk u=>Go.Deep.blk_setCell_other _ _ _ _<|by
   rintro rfl;exact ZD o a N u.symm
 refine⟨a,⟨?_,n,e _ _ _ _ _ _ h.gown N,a.setkM 1 _,m.other (eD m a N) _,Below.setCell (vF h.bel h.pown j) h.lo _,h.lo,by rw[Yx,h.lp];rfl,h.lg⟩⟩;refine⟨e _ _ _ _ _ _ h.base.cs N,?_,by simp[h.base.pl],λi y q f c=>?_,e _ _ _ _ _ _ h.base.gs N,h.base.gl,λi y z f c=>?_⟩
 .show(d.setCell _ _).ownsRow 0 _ 8 _ (ps++[x]).length _;rw[Yx,h.lp];exact TX n
 .have A:l.length=ps.length:=h.base.pl;rcases XH f with f|⟨e1,rfl⟩
  .rcases XH c with c|⟨e2,rfl⟩
   .exact(h.base.pk i y q f c).keep e N
   .have:=(Og.1 f).1;omega
  .rcases XH c with c|⟨e2,rfl⟩
   .have:=(Og.1 c).1;omega
   .exact t.keep e N
 .obtain⟨bs,v,w⟩:=h.base.gk i y z f c;exact⟨bs,e _ _ _ _ _ _ v N,w⟩
theorem Tl.appG{w0 wr f:Y}{cb nb:Nat}{ns:List F}{cs:List Int}{ps:List<|Nd×Nat}{gs:List<|List<|LB}{cv:F}{pa:Option Addr}{pn pc:Nat}{ga:Option Addr}{gn gc:Nat}{l:List PV}{g:List<|Option Addr×Nat×Nat}(h:Tl w0 wr cb nb ns cs ps gs cv pa pn pc ga gn gc l g){x:List<|LB}{a:Option Addr}{m c na nc:Nat}
 (A:∃bs:List BA,wr.ownsRow 0 9 1 (.slice a m c) bs.length (bs.map .string)/\bs.map bl=x)(o:wr.grownBy f (Value.slice ga gn gc).ownBlock)(u:f.ownsRow w0.heap.size 57 1 (.slice (some ⟨na,0,none⟩) (gn+1) nc) (gn+1)<|(g.map λy=>.slice y.1 y.2.1 y.2.2)++[.slice a m c]):
 Ya f cb [cv,.slice pa pn pc,.slice ga gn gc,S0] 69/\Tl w0 (f.setCell ⟨cb,2,none⟩<|.slice (some ⟨na,0,none⟩) (gn+1) nc) cb nb ns cs ps (gs++[x]) cv pa pn pc (some ⟨na,0,none⟩) (gn+1) nc l (g++[(a,m,c)]):=by
 have d:=h.box.ownGrownR h.gown o N;have p:=h.nbx.ownGrownR h.gown o N;have v:WU [57,69] _ _:=WU.grown h.gown o N;have w:WU [57,69] _<|f.setCell ⟨cb,2,none⟩<|.slice (some ⟨na,0,none⟩) (gn+1) nc:=WU.set d N _ _;have j:=v.trans w;have r:(f.setCell ⟨cb,2,none⟩<|.slice (some ⟨na,0,none⟩) (gn+1) nc).ownsRow w0.heap.size 57 1 (.slice (some ⟨na,0,none⟩) (gn+1) nc) (gn+1)<|(g++[(a,m,c)]).map λy=>.slice y.1 y.2.1 y.2.2:=by
  rw[Xa];exact ZJ u λk B=>Go.Deep.blk_setCell_other _ _ _ _<|by
   rintro rfl;exact ZD u d N B.symm
 refine⟨d,⟨?_,j _ _ _ _ _ _ h.pown N,r,d.setkM 2 _,p.other (eD p d N) _,Below.setCell (vF h.bel h.gown o) h.lo _,h.lo,h.lp,by rw[Yx,h.lg];rfl⟩⟩;refine⟨j _ _ _ _ _ _ h.base.cs N,j _ _ _ _ _ _ h.base.ps N,h.base.pl,λi y q n e=>(h.base.pk i y q n e).keep j N,?_,by simp[h.base.gl],λi y z n e=>?_⟩
 .show(f.setCell _ _).ownsRow 0 _ 1 _ (gs++[x]).length _;rw[Yx,h.lg];exact TX r
 .have D:g.length=gs.length:=h.base.gl;rcases XH n with n|⟨e1,rfl⟩
  .rcases XH e with e|⟨e2,rfl⟩
   .obtain⟨bs,s,t⟩:=h.base.gk i y z n e;exact⟨bs,j _ _ _ _ _ _ s N,t⟩
   .have:=(Og.1 n).1;omega
  .rcases XH e with e|⟨e2,rfl⟩
   .have:=(Og.1 e).1;omega
   .obtain⟨bs,s,t⟩:=A;exact⟨bs,j _ _ _ _ _ _ s N,t⟩
theorem V2.toB{w0 wr:Y}{cb nb:Nat}{ns:List F}{xs:List Int}{ca:Option Addr}{n cc:Nat}(h:V2 w0 wr cb nb ns xs ca n cc)(c:xs.length=n):Tl w0 wr cb nb ns xs [] [] (.slice ca n cc) none 0 0 none 0 0 [] []:=
 ⟨⟨by rw[c];exact TX h.own,Xm _ _ _ _,C,(λ_ _ _ a=>by simp at a),Xm _ _ _ _,C,λ_ _ _ a=>by simp at a⟩,Xm _ _ _ _,Xm _ _ _ _,h.box,h.nbx,h.bel,h.lo,C,C⟩
theorem Tl.toR{w0 wr:Y}{cb nb:Nat}{ns:List F}{cs:List Int}{ps:List<|Nd×Nat}{gs:List<|List<|LB}{cv:F}{pa:Option Addr}{pn pc:Nat}{ga:Option Addr}{gn gc:Nat}{l:List PV}{g:List<|Option Addr×Nat×Nat}(h:Tl w0 wr cb nb ns cs ps gs cv pa pn pc ga gn gc l g):WE w0 wr cb cs ps gs [] cv (.slice pa pn pc) (.slice ga gn gc) none 0 0 l g:=
 ⟨h.base,h.box,Xm _ _ _ _,h.bel,λ_ a=>(by cases a)⟩
theorem uH(s:BA)(w:Y)(hs:s.size<=maxLen):
 CP 28 #[.string s] w λe T=>∃(v:F)(c p:Nat),e=.returned (.tuple #[v,E c,E p])/\U (Uf T (Wt<|bl s) v c p)/\BW w T:=by
 have n5:s.size<=9223372036854775807:=by unfold maxLen at hs;omega
 have k1:=I hs;clear hs;obtain⟨i0,hi,k2,k3,k4⟩:=Xv Tryz.infoI64R;obtain⟨j0,hj,k5,k6,k7⟩:=Xv Tryz.infoPartR;obtain⟨m0,hm,k8,k9,l0⟩:=Xv Tryz.infoStrsR;by_cases h1:s.size<1
 .have r:U<|Wt (bl s)=.error _:=I<|Hk<|by
   unfold US;rw[Ye];have:bl s=[]:=Oh.1<|by rw[Zb];omega
   rw[this];simp
  go_enter func28,ntmps28;go_wp2;go_ret3;exact⟨_,9,0,C,I<|Uf.ku r N,Yh⟩
 .have h0:0<s.size:=X;have a3:(bl s).head?=some s[0]:=by
   rw[Kg,List.getElem?_eq_getElem<|by rwa [Zb],SN s 0 _]
  by_cases D:s[0]=103
  .have d103:((s[0].toNat:Int) !=103)=false:=by rw[D];rfl
   by_cases h9:s.size<9
   .have r:=I<|Hk<|by
     unfold US;rw[Yd<|by rw[a3,D];simp,Ye<|by rwa [Zb],Zb]
    clear a3 D;go_enter func28,ntmps28;go_wp2;go_ret3;exact⟨_,9,s.size,C,I<|Uf.ku r N,Yh⟩
   .obtain⟨n0,b5⟩:∃n0,n0=Yp (Y6 (bl s) 1 2):=⟨_,C⟩;obtain⟨n1,b6⟩:∃n1,n1=Yp (Y6 (bl s) 3 2):=⟨_,C⟩;obtain⟨n2,b7⟩:∃n2,n2=Yp (Y6 (bl s) 5 2):=⟨_,C⟩;obtain⟨n3,b8⟩:∃n3,n3=Yp (Y6 (bl s) 7 2):=⟨_,C⟩;have HH:U<|US _=.ok (n0,n1,n2,n3):=I<|by
     unfold US;rw[Yd<|by rw[a3,D];simp,Yd<|by rwa [Zb],b5,b6,b7,b8]
    have b0:=LW b5;have b1:=LW b6;have b2:=LW b7;have b3:=LW b8;have HN:=I<|And.intro b5<|And.intro b6<|And.intro b7 b8;clear a3 D b5 b6 b7 b8;have e0:bl (s.extract 1 3)=Y6 _ 1 2:=Zex s 1 2;have e1:bl (s.extract 3 5)=Y6 _ 3 2:=Zex s 3 2;have e2:bl (s.extract 5 7)=Y6 _ 5 2:=Zex s 5 2;have e3:bl (s.extract 7 9)=Y6 _ 7 2:=Zex s 7 2;have b9:=I<|And.intro e0<|And.intro e1<|And.intro e2 e3;clear e0 e1 e2 e3;go_enter func28,ntmps28;go_upto_region 6 with fail;refine Zs λW hW=>?_;have R:Below _ w W:=hW▸Yc;have f1:U<|Ya W _ [.slice _ 0 0,.slice _ 0 0,.slice _ 0 0,.slice _ 0 0] 69:=hW▸(show Ya _ _ _ _ from Go.Deep.blk_alloc_new w _);have c6:=I R;have l1:w.heap.size<=w.heap.size:=Yj _;obtain⟨cb,f3⟩:∃cb,cb=w.heap.size:=⟨_,C⟩;rw[<-f3]at f1⊢;have g9:U<|w.heap.size<=cb:=I X;clear hW R l1 f3 d103;have i1:U<|∀o,o=Obj.cells #[E n0,E n1,E n2,E n3] 2->V2 w _ _ W.heap.size _ [] _ 0 0:=I λo ho=>by
     subst ho;have c7:BW W<|W.drew.alloc<|Obj.cells #[E n0,E n1,E n2,E n3] 2:=((Ym _ _).drew).alloc (Yj _) _;exact⟨f1.below c7,(Go.Deep.blk_alloc_new _ _),Xm _ _ _ _,c6.trans<|c7.mono c6.size,g9,c6.size⟩
    have i3:(3:Int)<=(s.size):=X;have i5:(5:Int)<=(s.size):=X;have i7:(7:Int)<=(s.size):=X;have i9:(9:Int)<=(s.size):=X;refine ZW 13 (λ_=>True) Kr trivial λa=>?_;refine Za 0 a (h:=Za 1 a (h:=Za 3 a (h:=Za 4 a (h:=Za 6 a (h:=Za 7 a (h:=Za 9 a (h:=Za 10 a (h:=?_))))))));refine Zz (i:=2) Kr C λK f=>?_;go_simp;refine(NG<|by rw[V5];omega).m ?_;rintro e w1 ⟨rfl,rfl⟩;rw[b9.1,<-HN.1];go_simp;refine f _ _ a λa=>?_;clear f K;try simp only[Act.put,Yt]
    refine Zz (i:=5) Kr C λK f=>?_;go_simp;refine(NG<|by rw[V5];omega).m ?_;rintro e w1 ⟨rfl,rfl⟩;rw[b9.2.1,<-HN.2.1];go_simp;refine f _ _ a λa=>?_;clear f K;try simp only[Act.put,Yt]
    refine Zz (i:=8) Kr C λK f=>?_;go_simp;refine(NG<|by rw[V5];omega).m ?_;rintro e w1 ⟨rfl,rfl⟩;rw[b9.2.2.1,<-HN.2.2.1];go_simp;refine f _ _ a λa=>?_;clear f K;try simp only[Act.put,Yt]
    refine Zz (i:=11) Kr C λK f=>?_;go_simp;refine(NG<|by rw[V5];omega).m ?_;rintro e w1 ⟨rfl,rfl⟩;rw[b9.2.2.2,<-HN.2.2.2];go_simp;refine f _ _ a λa=>?_;clear f K;try simp only[Act.put,Yt]
    refine Zz (i:=12) Kr C λK f=>?_;go_simp;refine f _ _ trivial λa=>?_;clear f K;try simp only[Act.put,Yt]
    refine ZS Kr Kr C Kr λK f=>?_;go_simp;refine f _ _ ?_;clear f K a;go_upto_region 7 with fail;refine Zs λW2 i2=>?_;have i4:U<|V2 w W2 cb W.heap.size [E n0,E n1,E n2,E n3] [] none 0 0:=i2▸i1.o _ C;clear i2 i1 f1 c6;generalize W.heap.size=nb at*;have c8:U<|∀k x,Yo _ 9 k=.error x->k<=n0->Wt _=.error x:=I λk x he hk=>uJ HH<|Ft he _ hk;go_wp2;go_loopw [7,8] (λav iv wr=>∃(k p:Nat)(xs:List Int)(ca:Option Addr)(cc:Nat),k<=n0/\iv=E k/\av=E p/\p<=s.size/\p<=9+4*k/\U (Yo (Vw<|bl s) 9 k=.ok (xs,p))/\U (V2 w wr cb nb [E n0,E n1,E n2,E n3] xs ca k cc)) (λ_ iv _=>n0-(intOf iv).toNat);case atStart=>exact⟨0,9,[],none,0,Yr _,C,C,X,X,I C,i4⟩
    case round=>
     clear i4;obtain⟨k,p,xs,ca,cc,hk,rfl,rfl,hp,c9,B,P⟩:=hrel;have m0:=P.nbx.cell 0;simp only[Qo]at m0;have S:=P.nbx.lt;by_cases d0:k<n0
     .by_cases h4:s.size<p+4
      .have r:=I<|c8 _ _ (Rr B (by rw[ui<|by rwa [Zb],Zb]) _<|RA k) X;go_wp2;go_ret3;exact⟨_,9,s.size,C,I<|Uf.ku r N,P.bel⟩
      .have d6:¬(bl s).length<p+4:=by rwa [Zb]
       have m7:p+4<=s.size:=X;have a6:=I<|Zex s p 4;go_wp2_with fail;refine(NG<|by rw[V5];omega).m ?_;rintro e wr ⟨rfl,rfl⟩;rw[a6];obtain⟨v0,d7⟩:∃v0,v0=Yp (Y6 (bl s) p 4):=⟨_,C⟩;rw[<-d7];obtain⟨vz,d8⟩:∃vz,vz=TZ v0:=⟨_,C⟩;have l2:v0<4294967296:=d7▸PS (n:=4) (by unfold Y6;rw[Xw];omega);have f4:U<|vz=TZ _:=I<|by rw[d8,d7]
       obtain⟨bb,f5⟩:∃bb,decide ((2147483648:Int)<=(v0))=bb:=⟨_,C⟩;have i6:(bb=true/\IntKind.i64.wrap ((v0)-4294967296)=vz)\/(bb=false/\(v0)=vz):=by
        rw[d8,<-f5];unfold TZ;by_cases hh:2147483648<=v0
        .rw[Ye hh];exact .inl ⟨WI X,by rw[Us];omega⟩
        .rw[Yd hh];exact .inr ⟨Wl X,C⟩
       have n6:U<|-2147483648<=vz/\vz<2147483648:=I (by
        rw[d8];unfold TZ;by_cases hh:2147483648<=v0
        .rw[Ye hh];omega
        .rw[Yd hh];omega);clear d7 d8 a6 l2;go_upto_if 66 with fail;(try rw[f5]);clear f5;go_cut [9]from 45 to 87 (λs9 wx=>s9=E vz/\wx=wr);case first=>
        rcases i6 with⟨rfl,hz⟩|⟨rfl,hz⟩
        .have HZ:=I hz;clear hz;go_wp2;go_meet;exact⟨HZ.o▸congrArg (Value.int .i64) (by rw[Us];first|rfl|(unfold wrap64;rfl)|(unfold wrap64;omega)|simp[wrap64]),C⟩
        .have HZ:=I hz;clear hz;go_wp2;go_meet;exact⟨by rw[HZ],C⟩
       case rest=>
       obtain⟨rfl,rfl⟩:=hcut;rename Y=>wr;clear i6;by_cases c7:vz< -1000000000
       .have r:=I<|c8 _ _ (Rr B (EY d6 f4<|.inl c7) _<|RA k) X;go_wp2;go_ret3;exact⟨_,9,p,C,I<|Uf.ku r.o N,P.bel⟩
       .by_cases H:1000000000<vz
        .have r:U<|Wt (bl s)=.error (9,p):=I<|c8.o (k+1) (9,p) (Rr B.o (EY d6 f4.o<|Or.inr H) _<|RA k) X;go_wp2;go_ret3;exact⟨_,9,p,C,I<|Uf.ku r.o N,P.bel⟩
        .have a7:U<|Yo (Vw<|bl s) 9 (k+1)=.ok (xs++[vz],p+4):=I<|OF B.o<|uj d6 f4.o λh=>by rcases h with h|h<;>omega
         have V:=P.own;have c0:=P.box.cell 0;simp only[Qo]at c0;have a4:=P.box.lt;have l3:U<|∀o,V2 w (wr.alloc o) cb nb [E n0,E n1,E n2,E n3] xs ca k cc:=I λo=>P.below Yc;clear B P d6 m0;go_wp2_with(at_builtin;refine XC _ C (.tmp 80) (.tmp 82) 48 C (nb+1) 2 i0 (E 0) 1 8 underlying48 hi k2 k3 k4 C N _ _ _ C (V.alloc _) ⟨wr.heap.size,0,none⟩ 1 1 [E vz] C C ?c1 ?c2 ?c3 ?c4 ?c5 ?_);(try case c1=>exact cell_one_new _ _ _);case c2=>first|rfl|(intro u hu;simp at hu;subst hu;rfl)
         case c3=>unfold maxLen;omega
         case c4=>omega
         case c5=>first|omega|(simp;omega)
         intro v' w3 t J _;obtain⟨g3,cp3,f6⟩:=Zm t X;subst f6;obtain⟨L,a8⟩:=(l3.o _).app (by exact J) t;have f7:=I a8;have Z:=I L;clear t J a8 L c0 V a4;have c0:=Z.cell 0;have f0:=Z.frozen 0;have a4:=Z.lt;simp only[Qo]at c0;go_wp2;go_roundw;case rel=>exact⟨k+1,p+4,_,_,_,X,by go_num,by go_num,X,X,a7,f7⟩
         case measure=>simp[intOf];omega
     .obtain rfl:n0=k:=X;have i8:=I<|KN B;have j1:=I<|P.toB i8;have d9:=I<|uK HH B;have n7:p<=262149:=X;obtain⟨p1,f8⟩:∃p1,p1=p:=⟨_,C⟩;have j2:U<|Tg (bl s) n1 p1 0=.ok _:=I<|by rw[oe,f8]
      rw[<-f8]at d9;clear f8 B i8 c8;have n8:=I P.bel;clear P d0 hk c9;generalize Value.slice ca n0 cc=cv at*;have f9:U<|∀e,Tg _ _ _ _=.error e->Wt _=.error e:=I λe he=>by rw[d9,he]
      have l4:U<|∀ps gs q,Tg _ _ _ _=.ok (ps,gs,q)->Wt _=OM _ _ ps gs q _:=I λps gs q he=>by rw[d9,he]
      clear d9;go_wp2;clear m0 S;go_loopw [7,10] (λav iv wr=>∃(i p:Nat)(ps:List<|Nd×Nat)(gs:List<|List<|LB)(pa:Option Addr)(pn pc:Nat)(ga:Option Addr)(gn gc:Nat)(l:List PV)(g:List<|Option Addr×Nat×Nat),i<=n1+n2/\iv=E i/\av=E p/\p<=s.size/\p<=262149+65537*i/\pn<=i/\gn<=i/\U (Tg (bl s) n1 p1 i=.ok (ps,gs,p))/\U (Tl w wr cb nb [E n0,E n1,E n2,E n3] xs ps gs cv pa pn pc ga gn gc l g)) (λ_ iv _=>n1+n2-(intOf iv).toNat);case atStart=>exact⟨0,p,[],[],none,0,0,none,0,0,[],[],Yr _,C,C,hp,X,Yj _,Yj _,j2,j1⟩
      case round=>
       clear j1 j2;obtain⟨i,p,ps,gs,pa,pn,pc,ga,gn,gc,l,g,n9,rfl,rfl,hp,o0,o1,o2,B,HD⟩:=hrel;have m1:=HD.nbx.cell 1;have m2:=HD.nbx.cell 2;simp only[Yf]at m1 m2;have S:=HD.nbx.lt;have ws:IntKind.i64.wrap ((n1)+(n2))=(n1)+(n2):=by rw[Us];omega
       by_cases d0:i<n1+n2
       .have g0:(i)<(n1:Int)+(n2):=X;go_wp2;go_quiet (fail);go_upto_region 23 with fail;refine Zs λW hW=>?_;have R:BW wr W:=hW▸(by first|exact Wn (Ym _ _) _|exact(Ym _ _).drew|exact Ym _ _);have A:=I<|HD.below R;clear hW R HD m1 m2 g0 ws S;have m1:=A.nbx.cell 1;simp only[Yf]at m1;have S:=A.nbx.lt;have g2:=I (λe he=>f9 e (by
        by_cases hh:i<n1
        .exact CR hh B<|mO he
        .exact CQ hh d0 B<|qK he));by_cases h2:s.size<p+2
        .have r:=I<|g2 _<|by rw[gY<|by rwa [Zb],Zb]
         go_wp2;go_ret3;exact⟨_,9,s.size,C,I<|Uf.ku r N,A.bel⟩
        .have g4:¬(bl s).length<p+2:=by rwa [Zb]
         have m8:p+2<=s.size:=X;have a6:=I<|Zex s p 2;have o3:p<=9000000000:=X;go_wp2_with fail;refine(NG<|by rw[V5];omega).m ?_;rintro e W ⟨rfl,rfl⟩;rw[a6];obtain⟨tn,e4⟩:∃tn,tn=Yp (Y6 (bl s) p 2):=⟨_,C⟩;rw[<-e4];have o4:=LW e4;have g5:=I e4;clear e4 a6;by_cases h3:s.size<p+2+tn
         .have r:=I<|g2 _<|by rw[gW g4 g5<|by rwa [Zb],Zb]
          go_wp2;go_ret3;exact⟨_,9,s.size,C,I<|Uf.ku r N,A.bel⟩
         .have a0:=I<|gZ g4 g5<|by rwa [Zb]
          have g6:p+2+tn<=s.size:=X;clear g4 g5 g2;go_upto_region 29 with fail;obtain⟨tx,e5⟩:∃tx,s.extract (p+2) (p+2+tn)=tx:=⟨_,C⟩;rw[e5];have j3:tx.size<=65535:=by rw[<-e5,V5];omega
          rw[<-Zex s _ _,e5]at a0;clear e5;by_cases e6:i<n1
          .have b4:(i:Int)<(n1):=X;go_wp2_with fail;refine(mD W j3).m ?_;rintro e z ⟨x,ok,rfl,e7,H⟩;have j:=I<|A.below H;clear H A b4 m1 S;cases m:ZL (bl tx)with
           |none=>
            have a1:ok=.bool false:=by have:=e7.o;rw[m]at this;exact this
            subst a1;have r:=I<|f9 _<|CR e6 B<|mJ a0 m;clear m e7;have j9:U<|∀o,Below _ w<|z.alloc o:=I λo=>j.bel.alloc j.bel.size _;unfold RR;go_wp2;go_ret3;exact⟨_,9,p,C,I<|Uf.ku r N,j9 _⟩
           |some y=>
            have a1:ok=.bool true/\VC z y x:=by have:=e7.o;rw[m]at this;exact this
            obtain⟨rfl,c9⟩:=a1;have a7:=I<|od e6 B<|mM a0 m;have j4:=I c9;clear m e7 c9 B a0;obtain⟨xk,xn,xo,xm,xca,xcn,xcc,xba,xbn,xbc,xa,xb⟩:=x;unfold RR;simp only;go_upto_region 33 with fail;refine Zs λQ g7=>?_;have L:Below _ _ _:=g7▸Yc;have G:U<|Ya _ _ [.int _ _,.int _ _,.int _ _,.string _,.slice _ _ _,.slice _ _ _,.int _ _,.int _ _] 59:=g7▸(show Ya _ _ _ _ from Go.Deep.blk_alloc_new z _);have a9:=I<|j.below L;have k0:=I<|j4.below L;have l5:U<|¬(Value.slice _ _ _).ownBlock=some z.heap.size:=I λe=>by have:=(j.pown.lt _ e).2;omega
            clear g7 L j j4;generalize z.heap.size=px at*;have j5:Q.drew.cell? _=some _/\Q.drew.cell? _=some _/\Q.drew.cell? _=some _/\Q.drew.cell? _=some _/\Q.drew.cell? _=some _/\Q.drew.cell? _=some _/\Q.drew.cell? _=some _/\Q.drew.cell? _=some _/\Q.drew.cell? _=some _:=⟨a9.box.cell 1,G.cell 0,G.cell 1,G.cell 2,G.cell 3,G.cell 4,G.cell 5,G.cell 6,G.cell 7⟩;have a4:=a9.box.lt;have o5:=G.lt;have l6:=I λo=>a9.pown.drew.alloc o;have e8:U<|∀o,Tl w (Q.drew.alloc o) _ _ _ _ _ _ _ _ _ _ _ _ _ l g:=I λo=>a9.below<|((Ym _ _).drew).alloc (Yj _) _;have M:U<|∀o,Ya (Q.drew.alloc o) _ _ _:=I λo=>G.below<|((Ym _ _).drew).alloc (Yj _) _;have l7:U<|∀o,VC (Q.drew.alloc o) y _:=I λo=>k0.below<|((Ym _ _).drew).alloc (Yj _) _;have m9:pn<=131070:=X;have o6:=a9.bel.size;refine ZW 10 (λT=>T.cell? _=some _/\T.cell? _=some _/\T.cell? _=some _/\T.cell? _=some _/\T.cell? _=some _/\T.cell? _=some _/\T.cell? _=some _/\T.cell? _=some _/\T.cell? _=some _) Kr (j5) λa=>?_;clear j5;refine Za 0 a (h:=Za 1 a (h:=Za 2 a (h:=Za 3 a (h:=Za 4 a (h:=Za 5 a (h:=?_))))));refine Zz (i:=6) Kr C λK f=>?_;go_simp;refine f _ _ ⟨(e8 _).box.cell 1,(M _).cell 0,(M _).cell 1,(M _).cell 2,(M _).cell 3,(M _).cell 4,(M _).cell 5,(M _).cell 6,(M _).cell 7⟩ λa=>?_;clear f K;try simp only[Act.put,Yt]
            refine Zz (i:=7) Kr C λK f=>?_;refine SY C (.tmp 143) (.tmp 145) 65 C w.heap.size 59 j0 _ 8 104 underlying65 hj k5 k6 k7 C N (.slice pa pn pc) pn (Pf l) (by simp[Act.eval]) (by exact l6.o _) ⟨Q.heap.size,0,none⟩ 1 1 [E xk,E xn,E xo,.string xm,.slice xca xcn xcc,.slice xba xbn xbc,E xa,E xb] (by simp[Act.eval]) C ?h2 ?h3 ?h4 ?h5 ?h6 ?_;case h2=>exact Z1 C
            case h3=>intro u hu;simp at hu;rcases hu with rfl|rfl|rfl|rfl|rfl|rfl|rfl|rfl<;>rfl
            case h4=>unfold maxLen;omega
            case h5=>omega
            case h6=>simp;omega
            intro v1 w1 a5 a2 _;obtain⟨g1,cp1,l8⟩:=Zm a5 X;subst l8;obtain⟨g8,j6⟩:=(e8.o _).appP (l7.o _) (by exact a2) a5;have j7:=I g8;have l9:=I j6;have O:=(M _).grown a2 λe=>l5 e.symm;refine f _ _ ⟨g8.cell 1,O.cell 0,O.cell 1,O.cell 2,O.cell 3,O.cell 4,O.cell 5,O.cell 6,O.cell 7⟩ λa=>?_;clear f K g8 j6 O a5 a2;try simp only[Act.put,Of]
            refine Tj (i:=8) (d:=147) (v:=?qv8) C C Kr (λ_ _ _ h=>h) (Or.inl ⟨by rfl,?qhy8⟩) a ?qrs8;case qhy8=>(intro w hSw;go_simp;try with_reducible rfl)
            case qrs8=>
            refine Tj (i:=9) (d:=148) (v:=?qv9) C C Kr (λ_ _ _ h=>h) (Or.inl ⟨by rfl,?qhy9⟩) a ?qrs9;case qhy9=>(intro w hSw;go_simp;try with_reducible rfl)
            case qrs9=>
            refine ZS Kr Kr C Kr λK f=>?_;have yc:=j7.cell 1;have yf:=j7.frozen 1;simp only[Yf]at yc;clear a;go_simp;refine f _ _ ?_;clear f K yc yf;go_wp2;go_roundw;case rel=>exact⟨i+1,p+2+tn,_,_,_,_,_,_,_,_,_,_,X,by go_num,by go_num,g6,X,X,X,a7,l9⟩
            case measure=>simp[intOf];omega
          .have b4:¬(i:Int)<(n1):=X;go_wp2_with fail;refine(qo W j3).m ?_;rintro e z ⟨ya,yn,yc,ok,rfl,e9,H⟩;have j:=I<|A.below H;clear H A b4 m1 S;cases m:VW (bl tx)with
           |none=>
            have a1:ok=.bool false:=by have:=e9.o;rw[m]at this;exact this
            subst a1;have r:=I<|f9 _<|CQ e6 d0 B<|qG a0 m;clear m e9;go_wp2;go_ret3;exact⟨_,9,p,C,I<|Uf.ku r N,j.bel⟩
           |some y=>
            have a1:ok=.bool true/\∃bs:List _,z.ownsRow 0 9 1 (.slice ya yn yc) bs.length (bs.map .string)/\bs.map bl=y:=by have:=e9.o;rw[m]at this;exact this
            obtain⟨rfl,j8⟩:=a1;have a7:=I<|pZ e6 B<|qI a0 m;have m4:U<|∀o,∃bs:List _,(z.alloc o).ownsRow 0 9 1 _ bs.length (bs.map _)/\bs.map _=y:=I λo=>by
             obtain⟨bs,h1,h2⟩:=j8;exact⟨bs,h1.alloc o,h2⟩
            have e8:U<|∀o,Tl w (z.alloc o) _ _ _ _ _ _ _ _ _ _ _ _ _ l g:=I λo=>j.below Yc;have V:=j.gown;have c2:=j.box.cell 2;simp only[Yf]at c2;have a4:=j.box.lt;have n4:gn<=131070:=X;have o7:w.heap.size<=z.heap.size:=j.bel.size;clear m e9 j8 B a0 j;go_wp2_with(at_builtin;refine XC _ C (.tmp 161) (.tmp 163) 66 C w.heap.size 57 m0 S0 1 24 underlying66 hm k8 k9 l0 C N _ _ _ C (V.alloc _) ⟨z.heap.size,0,none⟩ 1 1 [.slice ya yn yc] C C ?d1 ?d2 ?d3 ?d4 ?d5 ?_);(try case d1=>exact cell_one_new _ _ _);case d2=>first|rfl|(intro u hu;simp at hu;subst hu;rfl)
            case d3=>unfold maxLen;omega
            case d4=>omega
            case d5=>first|omega|(simp;omega)
            intro v' w3 t J _;obtain⟨g3,cp3,f6⟩:=Zm t X;subst f6;obtain⟨L,a8⟩:=(e8.o _).appG (m4.o _) (by exact J) t;have f7:=I a8;have Z:=I L;clear t J a8 L c2 V a4;have c2:=Z.cell 2;have f2:=Z.frozen 2;have a4:=Z.lt;simp only[Yf]at c2;go_wp2;go_roundw;case rel=>exact⟨i+1,p+2+tn,_,_,_,_,_,_,_,_,_,_,X,by go_num,by go_num,g6,X,X,X,a7,f7⟩
            case measure=>simp[intOf];omega
       .obtain rfl:i=n1+n2:=X;have g0:¬((n1+n2:Nat))<(n1:Int)+(n2):=X;go_wp2;go_quiet (fail);go_upto_region 39 with fail;refine Zs λW hW=>?_;have R:BW wr W:=hW▸(by first|exact Wn (Ym _ _) _|exact(Ym _ _).drew|exact Ym _ _);have A:=I<|HD.below R;have m5:=I<|l4 _ _ p B;clear hW R HD m1 m2 g0 ws S;have m3:=A.nbx.cell 3;simp only[Yf]at m3;have S:=A.nbx.lt;go_wp2_with fail;refine(gE w W s p l g A.toR g9 k1 hp X b3).m ?_;rintro e z ⟨v,c,q,rfl,HR,H⟩;have m6:U<|Uf z (Wt<|bl s) v c q:=by rwa [m5.o]
        go_wp2;go_ret3;exact⟨v,c,q,C,m6,H⟩
  .have d103:((s[0].toNat:Int) !=103)=true:=by
    rw[Vg];intro e;exact D<|TN.1<|by show _=103;omega
   have r:=I<|Hk<|by
    unfold US;rw[Ye<|by rw[a3];intro e;injection e with e;exact D e]
   clear a3 D;go_enter func28,ntmps28;go_wp2;go_ret3;exact⟨_,9,0,C,I<|Uf.ku r N,Yh⟩
structure CV where
 sc:Bool
 n:Int
 ea:Option Addr
 en:Nat
 ec:Nat
 rg:Bool
 p:PV
def CV.cells(x:CV):List F:=[.bool x.sc,E x.n,.slice x.ea x.en x.ec,.bool x.rg,E x.p.k,E x.p.n,E x.p.op,.string x.p.nm,.slice x.p.ca x.p.cn x.p.cc,.slice x.p.ba x.p.bn x.p.bc,E x.p.a,E x.p.b]
def Pv(x:CV):F:=.agg #[.bool x.sc,E x.n,.slice x.ea x.en x.ec,.bool x.rg,E x.p.k,E x.p.n,E x.p.op,.string x.p.nm,.slice x.p.ca x.p.cn x.p.cc,.slice x.p.ba x.p.bn x.p.bc,E x.p.a,E x.p.b]
def T4:CV:=⟨false,0,none,0,0,false,XN⟩
def Ui:List CV->List F
 |[]=>[]
 |x::l=>x.cells++Ui l
theorem Si(x:CV):x.cells.length=12:=rfl
theorem HJ:∀l:List CV,(Ui l).length=12*l.length
 |[]=>C
 |x::l=>by
  show(x.cells++Ui l).length=_;rw[Yx,Si,HJ l,Y1];omega
theorem Dr(l m:List CV):Ui (l++m)=Ui l++Ui m:=by
 induction l with
 |nil=>rfl
 |cons a l ih=>show a.cells++Ui (l++m)=a.cells++Ui l++Ui m;rw[ih,Vd]
theorem Hz:∀(l:List CV)(i j:Nat),i<l.length->j<12->(Ui l)[i*12+j]?=(l.getD i T4).cells[j]?
 |[],i,j,h,_=>absurd h<|Tu _
 |a::l,0,j,_,c=>by
  show(a.cells++Ui l)[0*12+j]?=a.cells[j]?;rw[MZ,SI,PA<|by rwa [Si]]
 |a::l,i+1,j,h,c=>by
  have:=Hz l i j (by simpa using h) c;show(a.cells++Ui l)[(i+1)*12+j]?=(l.getD i T4).cells[j]?;rw[Rg<|by rw[Si];omega,Si,show(i+1)*12+j-12=i*12+j by omega];exact this
def mC(cb:Nat)(sv:F)(t:Int)(st:F)(sl:List CV):List F:=[Vp cb,sv,E t,st]++Ui sl
theorem kA{w:Y}{base:Nat}{e:TypeId}{sz g n cap:Nat}{xs:List F}(h:w.ownsRow base e sz (.slice (some ⟨g,0,none⟩) n cap) n xs)(k:Nat)(c:k<=n):w.ownsRow base e sz (.slice (some ⟨g,0,none⟩) k cap) k<|xs.take<|k*sz:=by
 obtain⟨d,a⟩:=h;refine⟨Xw▸d▸QR (MY _ c),?_⟩;rcases a with⟨a,_⟩|⟨g',cap',cur,f,i,j,p,l,m,o⟩
 .cases a
 .injection f with hv1 hv2 hv3;injection hv1 with hv1;injection hv1 with hv1 _ _;subst hv1 hv3;refine .inr ⟨_,_,cur,C,i,j,X,l,m,?_⟩;rw[<-o,List.take_take,QR<|MY _ c]
structure YS (w w':Y)(mb:Nat)(st:F):Prop where
 os:w'.os=w.os
 tape:w'.tape=w.tape
 output:w'.output=w.output
 size:w.heap.size<=w'.heap.size
 block:∀k,k<w.heap.size->k≠mb->some k≠st.ownBlock->w'.heap[k]?=w.heap[k]?
theorem YS.below{w0 w w':Y}{mb:Nat}{st:F}(h:YS w w' mb st)(a:BW w0 w)(f:w0.heap.size<=mb)(d:∀k,st.ownBlock=some k->w0.heap.size<=k):BW w0 w':=
 ⟨h.os.trans a.os,h.tape.trans a.tape,h.output.trans a.output,Xb a.size h.size,λk c=>by
  rw[h.block k (WH c a.size) X λe=>by have:=d k e.symm;omega];exact a.block k c⟩
theorem YS.rows {w w':Y}{mb:Nat}{c:List F}{st:F}{base n:Nat}{xs:List F}(h:YS w w' mb st)(j:Ya w mb c 64)(l:w.ownsRow base 61 12 st n xs):WU [61,64] w w':=λb e sz v m ys d g=>ZJ d (λk a=>h.block k (d.lt k a).2 (by
 rintro rfl;exact ZD d j (λe2=>g<|by rw[<-e2];decide) a.symm) (λe2=>by
 have i:e≠61:=λe3=>g<|by rw[e3];decide
 rcases QD d l i with f|f
 .rw[f]at a;cases a
 .exact f<|a.trans e2))
def OP(w:Y)(a:Nat)(x:CV):Y:=(((((((((((w.setCell ⟨a,0,none⟩<|.bool x.sc).setCell ⟨a,1,none⟩<|E x.n).setCell ⟨a,2,none⟩<|.slice x.ea x.en x.ec).setCell ⟨a,3,none⟩<|.bool x.rg).setCell ⟨a,4,none⟩<|E x.p.k).setCell ⟨a,5,none⟩<|E x.p.n).setCell ⟨a,6,none⟩<|E x.p.op).setCell ⟨a,7,none⟩<|.string x.p.nm).setCell ⟨a,8,none⟩<|.slice x.p.ca x.p.cn x.p.cc).setCell ⟨a,9,none⟩<|.slice x.p.ba x.p.bn x.p.bc).setCell ⟨a,10,none⟩<|E x.p.a).setCell ⟨a,11,none⟩<|E x.p.b
theorem iW{w:Y}{a:Nat}{q x:CV}{t:TypeId}(h:Ya w a q.cells t):Ya (OP w a x) a x.cells t:=
 (((((((((((h.setkM 0 _).setkM 1 _).setkM 2 _).setkM 3 _).setkM 4 _).setkM 5 _).setkM 6 _).setkM 7 _).setkM 8 _).setkM 9 _).setkM _ _).setkM _ _
theorem A1{w:Y}{a k:Nat}(x:CV)(c:k≠a):(OP w a x).heap[k]?=w.heap[k]?:=by
 unfold OP;iterate 12 rw[Go.Deep.blk_setCell_other _ _ _ _ c]
theorem iX{w:Y}{a:Nat}(x:CV):w.grownBy (OP w a x)<|some a:=by
 unfold OP;iterate 12 refine Zn ?_ (Or.inl C) _
 exact Z2 w _
theorem OK(w:Y)(mb cb g n cap:Nat)(sv:F)(t:Int)(sl:List CV)(x:CV)(m:Ya w mb (mC cb sv t (.slice (some ⟨g,0,none⟩) (n+1) cap) sl) 64)(f:∀j,j<12->w.cell? ⟨g,n*12+j,none⟩=x.cells[j]?)(R:n<=64)(S:n+1<=cap):
 CP 18 #[Vp mb] w λe u=>e=.returned (Pv x)/\U (Ya u mb (mC cb sv t (.slice (some ⟨g,0,none⟩) n cap) sl) 64)/\U (YS w u mb<|.pointer none):=by
 have H:=I m;have m3:w.cell? _=some _:=m.cell 3;have O:=m.lt;have y0:=f 0 N;have y1:=f 1 N;have y2:=f 2 N;have y3:=f 3 N;have y4:=f 4 N;have y5:=f 5 N;have y6:=f 6 N;have y7:=f 7 N;have y8:=f 8 N;have y9:=f 9 N;have y10:=f 10 N;have y11:=f 11 N;simp only[CV.cells,Yf,IA]at y0 y1 y2 y3 y4 y5 y6 y7 y8 y9 y10 y11;have s:=Xi _ _ y0;simp only at s;clear f m;go_enter func18,ntmps18;go_upto_region 3 with fail;refine Zs λW p=>?_;have i:Below _ w W:=p▸Yc.alloc (Sm) _;have c:U<|Ya W _ T4.cells 61:=p▸Ya.below (show Ya _ _ _ _ from Go.Deep.blk_alloc_new w _) Yc;have d:U<|Ya W (w.heap.size+1) x.cells 61:=by
  rw[p];have:=λo=>Go.Deep.blk_alloc_new (w.alloc o)<|.cells x.cells.toArray 61;simp only[Go.Deep.nblk_alloc]at this;exact this _
 have l:=I<|H.below i;have h:=I i;have v:¬w.heap.size=mb:=X;have z:¬mb=w.heap.size:=X;have P:¬w.heap.size+1=mb:=X;have Q:=I i.size;clear p i m3 y0 y1 y2 y3 y4 y5 y6 y7 y8 y9 y10 y11;have m3:W.cell? _=some _:=l.cell 3;have mf:=l.frozen 3;have x0:=d.cell 0;have x1:=d.cell 1;have x2:=d.cell 2;have x3:=d.cell 3;have x4:=d.cell 4;have x5:=d.cell 5;have x6:=d.cell 6;have x7:=d.cell 7;have x8:=d.cell 8;have x9:=d.cell 9;have x10:=d.cell 10;have x11:=d.cell 11;have z0:=c.cell 0;have f0:=c.frozen 0;have z1:=c.cell 1;have f1:=c.frozen 1;have z2:=c.cell 2;have f2:=c.frozen 2;have z3:=c.cell 3;have f3:=c.frozen 3;have z4:=c.cell 4;have f4:=c.frozen 4;have z5:=c.cell 5;have f5:=c.frozen 5;have z6:=c.cell 6;have f6:=c.frozen 6;have z7:=c.cell 7;have f7:=c.frozen 7;have z8:=c.cell 8;have f8:=c.frozen 8;have z9:=c.cell 9;have f9:=c.frozen 9;have z10:=c.cell 10;have f10:=c.frozen 10;have z11:=c.cell 11;have f11:=c.frozen 11;simp only[T4,XN,CV.cells,Yf]at x0 x1 x2 x3 x4 x5 x6 x7 x8 x9 x10 x11 z0 z1 z2 z3 z4 z5 z6 z7 z8 z9 z10 z11;have J:=l.lt;have K:=c.lt;have L:=d.lt;go_wp2;change bodyPost _ _ _ _ _<|OP (W.setCell ⟨mb,3,none⟩<|.slice (some ⟨g,0,none⟩) n cap) w.heap.size x;have A:Ya (W.setCell ⟨mb,3,none⟩<|.slice (some ⟨g,0,none⟩) n cap) _ _ _:=c.other v _;have st:=iW (x:=x) A;have s0:=st.cell 0;have s1:=st.cell 1;have s2:=st.cell 2;have s3:=st.cell 3;have s4:=st.cell 4;have s5:=st.cell 5;have s6:=st.cell 6;have s7:=st.cell 7;have s8:=st.cell 8;have s9:=st.cell 9;have s10:=st.cell 10;have s11:=st.cell 11;simp only[CV.cells,Yf]at s0 s1 s2 s3 s4 s5 s6 s7 s8 s9 s10 s11;have B:U<|Ya _ _ (mC _ _ t (.slice (some ⟨g,0,none⟩) n cap) _) _:=I<|(A1 x z).trans<|l.setkM 3 _;have D:U<|YS w (OP (W.setCell ⟨mb,3,none⟩<|.slice (some ⟨g,0,none⟩) n cap) w.heap.size x) mb<|.pointer none:=by
  have q:=iX (w:=W.setCell ⟨mb,3,none⟩<|.slice (some ⟨g,0,none⟩) n cap) (a:=w.heap.size) x;have r:W.grownBy (W.setCell ⟨mb,3,none⟩<|.slice (some ⟨g,0,none⟩) n cap) _:=Zn (Z2 W<|some mb) (.inl C) _;refine⟨q.os.trans<|r.os.trans h.os,q.tape.trans<|r.tape.trans h.tape,q.output.trans<|r.output.trans h.output,Xb h.size<|Xb r.size q.size,λk M G _=>?_⟩;rw[A1 x X,Go.Deep.blk_setCell_other _ _ _ _ G];exact h.block k M
 clear x0 x1 x2 x3 x4 x5 x6 x7 x8 x9 x10 x11 z0 z1 z2 z3 z4 z5 z6 z7 z8 z9 z10 z11 f0 f1 f2 f3 f4 f5 f6 f7 f8 f9 f10 f11 m3 mf;generalize OP (W.setCell ⟨mb,3,none⟩<|.slice (some ⟨g,0,none⟩) n cap) w.heap.size x=WX at*;exact YQ (by simp[results,results18,go_sem,Pv,s0,s1,s2,s3,s4,s5,s6,s7,s8,s9,s10,s11]) C ⟨C,B,D⟩
def JT(c0 c1 c2 c3 al:F)(tm:Int)(st sl gr:F):List F:=[c0,c1,c2,c3,al,E tm,st,sl,gr]
theorem Tryz.infoIVal:(Tryz.prog.info? 134).map (λi=>(i.zero,i.size,i.bytes))=some (some .nilIface,1,16):=Kr
structure Un (w:Y)(base mb:Nat)(c0 c1 c2 c3 al:F)(tm:Int)(sl gr:F)(sa:Option Addr)(sn sc:Nat)(vs:List F):Prop where
 box:Ya w mb (JT c0 c1 c2 c3 al tm (.slice sa sn sc) sl gr) 214
 own:w.ownsRow base 134 1 (.slice sa sn sc) sn vs
 len:vs.length=sn
theorem Un.below{w w':Y}{base mb:Nat}{c0 c1 c2 c3 al:F}{tm:Int}{sl gr:F}{sa:Option Addr}{sn sc:Nat}{vs:List F}(h:Un w base mb c0 c1 c2 c3 al tm sl gr sa sn sc vs)(a:BW w w'):Un w' base mb c0 c1 c2 c3 al tm sl gr sa sn sc vs:=⟨h.box.below a,Ze h.own a,h.len⟩
theorem kB{w:Y}{base:Nat}{e:TypeId}{sz g n cap:Nat}{xs:List F}(h:w.ownsRow base e sz (.slice (some ⟨g,0,none⟩) n cap) n xs)(k:Nat)(c:k<=n):w.ownsRow base e sz (.slice (some ⟨g,0,none⟩) k cap) k<|xs.take<|k*sz:=by
 obtain⟨d,a⟩:=h;refine⟨Xw▸d▸QR (MY _ c),?_⟩;rcases a with⟨a,_⟩|⟨g',cap',cur,f,i,j,p,l,m,o⟩
 .cases a
 .injection f with hv1 hv2 hv3;injection hv1 with hv1;injection hv1 with hv1 _ _;subst hv1 hv3;refine .inr ⟨_,_,cur,C,i,j,X,l,m,?_⟩;rw[<-o,List.take_take,QR<|MY _ c]
theorem OL(w:Y){base mb:Nat}{c0 c1 c2 c3 al:F}(tm:Int){sl gr:F}{sa:Option Addr}(n:Nat){sc:Nat}{vs:List F}(v:F)(h:Un w base mb c0 c1 c2 c3 al tm sl gr sa (n+1) sc<|vs++[v])(d:n<=64):
 CP 49 #[Vp mb] w λe u=>e=.returned v/\U (Un u base mb c0 c1 c2 c3 al tm sl gr sa n sc vs)/\U (w.grownBy u<|some mb):=by
 have c:vs.length=n:=by have:=h.len;rw[Yx]at this;simpa using this
 obtain⟨g,cp,a⟩:=Zm h.own X;injection a with hv1 hv2 hv3;subst hv1 hv3;have m6:w.cell? _=some _:=h.box.cell 6;have mf:=h.box.frozen 6;have k0:=Zc h.own n v<|by rw[Rg X,c];simp
 have p:=h.box.lt;have q:=ZN h.own;have f:n+1<=sc:=by
  rcases h.own.2 with⟨i,_⟩|⟨g',cap',cur,a,_,_,d,_⟩
  .cases i
  .injection a with _ _ hv3;omega
 have j:U<|Un _ _ _ _ _ _ _ _ _ _ _ _ n _ _:=I ⟨h.box.setkM 6 _,by
  have l:(w.setCell ⟨mb,6,none⟩<|.slice (some ⟨g,0,none⟩) n sc).ownsRow _ _ 1 _ _ _:=ZJ h.own λk m=>Go.Deep.blk_setCell_other _ _ _ _<|by
   rintro rfl;exact ZD h.own h.box N m.symm
  have:=kB l n X;rw[Nat.mul_one,JX X,Wm X]at this;exact this,c⟩;have o:U<|w.grownBy (w.setCell ⟨mb,6,none⟩<|.slice (some ⟨g,0,none⟩) n sc)<|some mb:=I<|Zn (Z2 w _) (.inl C) _;go_enter func49,ntmps49;go_wp2;go_ret;exact⟨C,j,o⟩
theorem Un.app{w wr a:Y}{base mb:Nat}{c0 c1 c2 c3 al:F}{tm:Int}{sl gr:F}{sa:Option Addr}{sn sc:Nat}{vs:List F}(h:Un wr base mb c0 c1 c2 c3 al tm sl gr sa sn sc vs)(c:BW w wr){v:F}{ga nc:Nat}
 (d:wr.grownBy a (Value.slice sa sn sc).ownBlock)(g:a.ownsRow base 134 1 (.slice (some ⟨ga,0,none⟩) (sn+1) nc) (sn+1)<|vs++[v]):
 Ya a mb (JT c0 c1 c2 c3 al tm (.slice sa sn sc) sl gr) 214/\Un (a.setCell ⟨mb,6,none⟩<|.slice (some ⟨ga,0,none⟩) (sn+1) nc) base mb c0 c1 c2 c3 al tm sl gr (some ⟨ga,0,none⟩) (sn+1) nc (vs++[v])/\YS w (a.setCell ⟨mb,6,none⟩<|.slice (some ⟨ga,0,none⟩) (sn+1) nc) mb (.slice sa sn sc):=by
 have e:=h.box.ownGrownR h.own d N;refine⟨e,⟨e.setkM 6 _,ZJ g λk j=>Go.Deep.blk_setCell_other _ _ _ _<|by
  rintro rfl;exact ZD g e N j.symm,by rw[Yx,h.len];rfl⟩,?_⟩;have f:a.grownBy (a.setCell ⟨mb,6,none⟩<|.slice (some ⟨ga,0,none⟩) (sn+1) nc)<|some mb:=Zn (Z2 _ _) (.inl C) _;refine⟨f.os.trans<|d.os.trans c.os,f.tape.trans<|d.tape.trans c.tape,f.output.trans<|d.output.trans c.output,Xb c.size<|Xb d.size f.size,λk i l m=>?_⟩;rw[Go.Deep.blk_setCell_other _ _ _ _ l,d.block k (WH i c.size) m];exact c.block k i
theorem NC{w:Y}{base mb:Nat}{c0 c1 c2 c3 al:F}(tm:Int){sl gr:F}{sa:Option Addr}(sn:Nat){sc:Nat}{vs:List F}(ty:TypeId)(u:F)(h:Un w base mb c0 c1 c2 c3 al tm sl gr sa sn sc vs)(D:sn<=64)(B:base<=w.heap.size):
 CP 96 #[Vp mb,.iface ty u] w λe g=>e=.returned (.tuple #[])/\U (∃ga nc,Un g base mb c0 c1 c2 c3 al tm sl gr (some ⟨ga,0,none⟩) (sn+1) nc<|vs++[.iface ty u])/\U (YS w g mb<|.slice sa sn sc):=by
 obtain⟨i0,x,i,j,k⟩:=Xv Tryz.infoIVal;have z:=I h;have f:=h.own;have m6:w.cell? _=some _:=h.box.cell 6;have l:=h.box.lt;have m:U<|∀o,Un (w.alloc o) base mb c0 c1 c2 c3 al tm sl gr sa sn sc vs:=I λo=>z.below Yc;go_enter func96,ntmps96;go_wp2_with(at_builtin;refine XC _ C (.tmp 8) (.tmp 10) 212 C base 134 i0 .nilIface 1 16 underlying212 x i j k C N _ _ _ C (f.alloc _) ⟨w.heap.size,0,none⟩ 1 1 [.iface ty u] C C ?c1 ?c2 ?c3 ?c4 ?c5 ?_);(try case c1=>exact cell_one_new _ _ _);case c2=>first|rfl|(intro u n;simp at n;subst n;rfl)
 case c3=>unfold maxLen;omega
 case c4=>omega
 case c5=>first|omega|(simp;omega)
 intro v' A a d _;obtain⟨g3,cp3,p⟩:=Zm a X;subst p;obtain⟨q,r,s⟩:=(m.o _).app (w:=w) Yc (by exact d) a;have c:=I q;have t:=I r;have v:=I s;have m6:A.cell? _=some _:=c.cell 6;have mf:=c.frozen 6;have l:=c.lt;go_wp2;exact RW (Tq C _ _ _) C ⟨C,I ⟨_,_,t⟩,v⟩
open Go.ChangeMaps (setBlock)
structure XJ (w:Y)(x:Nat)(gs:List<|Nat×F)(es:Array MapEntry)(clock:Nat):Prop where
 heap:w.heap[x]?=some (.map es clock)
 stm:MapKept.Stamped es clock
 kv:es.toList.map (λe=>(e.key,e.val))=gs.map λg=>(Value.int .i64 g.1,g.2)
 sz:∀g∈gs,g.1<16
theorem Od{j:Nat}(h:j<16):(Lit.int .i64 (j:Int)).wf=true:=by
 rcases(X:j=0\/j=1\/j=2\/j=3\/j=4\/j=5\/j=6\/j=7\/j=8\/j=9\/j=10\/j=11\/j=12\/j=13\/j=14\/j=15)with rfl|rfl|rfl|rfl|rfl|rfl|rfl|rfl|rfl|rfl|rfl|rfl|rfl|rfl|rfl|rfl<;>rfl
theorem XJ.len{w:Y}{x:Nat}{gs:List<|Nat×F}{es:Array MapEntry}{clock:Nat}(h:XJ w x gs es clock):es.size=gs.length:=by
 have:=congrArg List.length h.kv;simp_all
theorem XJ.at{w:Y}{x:Nat}{gs:List<|Nat×F}{es:Array MapEntry}{clock:Nat}(h:XJ w x gs es clock){j:Nat}{e:MapEntry}(c:es.toList[j]?=some e):∃d:j<gs.length,e.key=E gs[j].1/\e.val=gs[j].2:=by
 have f:(es.toList.map λe=>(e.key,e.val))[j]?=(gs.map λg=>(Value.int .i64 g.1,g.2))[j]?:=by rw[h.kv]
 rw[Vs,c,Vs]at f;have d:j<gs.length:=by
  rcases Sf j gs.length with a|a
  .exact a
  .simp_all
 simp_all
theorem XJ.keys {w:Y}{x:Nat}{gs:List<|Nat×F}{es:Array MapEntry}{clock:Nat}(h:XJ w x gs es clock):∀e∈es.toList,∃l,keyOf prog 3 e.key=some l:=λe a=>by
 obtain⟨j,c⟩:=If a;obtain⟨f,d,_⟩:=h.at c;rw[d];exact⟨_,Maps.keyOf_int_mk underlying3<|Od<|h.sz _<|List.getElem_mem _⟩
theorem XJ.moved{w w':Y}{x:Nat}{gs:List<|Nat×F}{es:Array MapEntry}{clock:Nat}(h:XJ w x gs es clock)(a:w'.heap[x]?=w.heap[x]?):XJ w' x gs es clock:=⟨a.trans h.heap,h.stm,h.kv,h.sz⟩
theorem Dg{a b:Nat}(h:Value.int .i64 (a:Int)=E (b:Int)):a=b:=by
 simp_all;omega
theorem XJ.find{w:Y}{x:Nat}{gs:List<|Nat×F}{es:Array MapEntry}{clock:Nat}(h:XJ w x gs es clock)(k:Nat)(u:k<16):
 ((∀W:Y,(Instr.findKey 3 (E k) es.toList).run prog W=.ok none W)/\(∀g∈gs,g.1≠k)/\∀e∈es.toList,e.key≠.int .i64 k)\/
 ∃j,∃p:j<gs.length,gs[j].1=k/\(∀i (l:i<gs.length),i≠j->gs[i].1≠k)/\∃e,es.toList[j]?=some e/\e.key=E k/\e.val=gs[j].2/\∀W:Y,(Instr.findKey 3 (E k) es.toList).run prog W=.ok (some (j,e.val)) W:=by
 have K:=Maps.int_keyed (P:=prog) (k:=3) underlying3;have d:=Maps.keyOf_int_mk (P:=prog) (k:=3) underlying3<|Od u;rcases K.find w d es.toList h.keys with⟨v,a⟩|⟨j,e,v,a,o⟩
 .left;refine⟨λW=>?_,λg z A=>?_,a⟩
  .rcases K.find W d es.toList h.keys with⟨k1,_⟩|⟨j,e,k1,k2,k3⟩
   .exact k1
   .exact absurd k3<|a e<|QW k2
  .obtain⟨i,l,rfl⟩:=List.mem_iff_getElem.1 z;have c:i<es.toList.length:=by rw[Sx,h.len];exact l
   obtain⟨_,e1,_⟩:=h.at<|List.getElem?_eq_getElem c;simp_all
 .right;obtain⟨p,e1,e2⟩:=h.at a;rw[o]at e1;have q:gs[j].1=k:=(Dg e1).symm;have m:=h.stm.2.2;have f:∀i (l:i<gs.length),i≠j->gs[i].1≠k:=λi l B A=>by
    have c:i<es.toList.length:=by rw[Sx,h.len];exact l
    have n:j<es.toList.length:=(Og.1 a).1;obtain⟨_,f1,_⟩:=h.at<|List.getElem?_eq_getElem c;have e3:es.toList[j]=e:=Ub<|(List.getElem?_eq_getElem n).symm.trans a;rw[List.Nodup,Rx,List.pairwise_iff_getElem]at m;rcases Sf i j with r|r
    .exact m i j c n r<|by simp_all
    .exact m j i n c X<|by simp_all
  refine⟨j,p,q,f,e,a,o,e2,λW=>?_⟩;rcases K.find W d es.toList h.keys with⟨_,k2⟩|⟨j',e',k1,k2,k3⟩
  .exact absurd o<|k2 e<|QW a
  .obtain⟨s,f1,f2⟩:=h.at k2;rw[k3]at f1;have:j'=j:=by
    refine JY λt=>f j' s t ?_;exact(Dg f1).symm
   simp_all
def Wy(gs:List<|Nat×F)(k:Nat):Option F:=(gs.find? λg=>g.1=k).map (·.2)
theorem qi{gs:List<|Nat×F}{k:Nat}(h:∀g∈gs,g.1≠k):Wy gs k=none:=by
 unfold Wy;simp_all;omega
theorem DC:∀{gs:List<|Nat×F}{k j:Nat}(a:j<gs.length),gs[j].1=k->(∀i (d:i<gs.length),i≠j->gs[i].1≠k)->Wy gs k=some gs[j].2
 |[],k,j,a,_,_=>absurd a<|Tu _
 |g::gs,k,0,a,h,_=>by unfold Wy;simp_all
 |g::gs,k,j+1,a,h,c=>by
  have f:g.1≠k:=c 0 (Sm) X;have:=DC (j:=j) (by simpa using a) h λi d e=>c (i+1) (by simp_all) X;unfold Wy at this⊢;simp_all
theorem mc{w:Y}{x:Nat}{gs:List<|Nat×F}{es:Array MapEntry}{clock:Nat}(h:XJ w x gs es clock){k:Nat}(f:k<16){v:F}(a:Wy gs k=some v)(W:Y)(l:W.heap[x]?=w.heap[x]?):
 (Instr.lookup 209 (.map<|some x) (E k) false).run prog W=.ok v W:=by
 have K:=Maps.int_keyed (k:=3) underlying3;have c:=Maps.keyOf_int_mk (k:=3) underlying3<|Od f;rcases h.find k f with⟨_,d,_⟩|⟨j,o,m,d,e,p,q,n,g⟩
 .rw[qi d]at a;cases a
 .rw[DC _ m d]at a;have i:=Ub a;rw[n,i]at g;simp[Instr.lookup,QS _,QP<|l.trans h.heap,K.check W _ c,g W,Result.andThen]
theorem qh{gs:List<|Nat×F}(k:Nat)(v:F)(h:∀g∈gs,g.1≠k)(i:Nat):Wy (gs++[(k,v)]) i=if k=i then some v else Wy gs i:=by
 unfold Wy;rw[List.find?_append];by_cases e:k=i
 .subst e;rw[Ye C,List.find?_eq_none.2 λg a=>by simpa using h g a];simp
 simp_all
theorem DD:∀{gs:List<|Nat×F}{k j:Nat}(a:j<gs.length)(v:F),gs[j].1=k->(∀i (d:i<gs.length),i≠j->gs[i].1≠k)->∀i,Wy (gs.set j (k,v)) i=if k=i then some v else Wy gs i
 |[],k,j,a,_,_,_,_=>absurd a<|Tu _
 |g::gs,k,0,a,v,h,_,i=>by
  have h:g.1=k:=h;unfold Wy;split<;>simp_all
 |g::gs,k,j+1,a,v,h,c,i=>by
  have l:g.1≠k:=c 0 (Sm) X;have ih:=DD (j:=j) _ v h (λi d f=>c (i+1) (by simp_all) X) i;unfold Wy at ih⊢;rw[List.set_cons_succ];by_cases e:g.1=i
  .simp_all;omega
  simp_all
theorem xe{w:Y}{x:Nat}{gs:List<|Nat×F}{es:Array MapEntry}{clock:Nat}(h:XJ w x gs es clock){k:Nat}(n:k<16)(v:F):
 ∃(es':Array MapEntry)(cl':Nat)(gs':List<|Nat×F),(∀W:Y,W.heap[x]?=w.heap[x]?->(Instr.mapUpdate 209 (.map<|some x) (E k) v).run prog W=.ok () (setBlock W x<|.map es' cl'))/\(∀W:Y,x<W.heap.size->XJ (setBlock W x<|.map es' cl') x gs' es' cl')/\∀i,Wy gs' i=if k=i then some v else Wy gs i:=by
 have K:=Maps.int_keyed (k:=3) underlying3;have c:=Maps.keyOf_int_mk (k:=3) underlying3<|Od n;rcases h.find k n with⟨g,l,f⟩|⟨j,u,r,l,e,f,s,A,g⟩
 .refine⟨es.push ⟨.int _ k,v,clock⟩,clock+1,gs++[(k,v)],λW d=>?_,λW m=>⟨by simp[setBlock,m],MapKept.stamped_push h.stm f,?_,λz a=>?_⟩,qh k v l⟩
  .simp[Instr.mapUpdate,QS _,QP<|d.trans h.heap,K.check W _ c,g W,N5 _<|d.trans h.heap,Result.andThen,setBlock]
  .rw[Ir,Xa,Xa,h.kv];rfl
  .rcases Wk.1 a with a|a
   .exact h.sz z a
   simp_all
 .have o:((es[j]?).map (·.key)).getD (E k)=E k:=QT▸f▸s;refine⟨es.modify j λe=>{e with key:=E k,val:=v},clock,gs.set j _,λW d=>?_,λW m=>⟨by simp[setBlock,m],MapKept.stamped_modify h.stm j _ (λ_ _=>C) λe' _ t=>?_,?_,λz a=>?_⟩,DD _ v r l⟩
  .simp[Instr.mapUpdate,QS _,QP<|d.trans h.heap,K.check W _ c,g W,o,K.stays W c,N5 _<|d.trans h.heap,Result.andThen,setBlock]
  .simp_all
  .rw[Im,<-h.kv];apply PB;intro i;rw[Vs,Array.toList_modify,List.getElem?_modify,Sc];by_cases p:j=i
   .subst p;have q:j<es.size:=by have:=(Og.1 f).1;simpa using this
    simp[q]
   simp_all
  .rcases NW a with a|a
   .exact h.sz z a
   simp_all
theorem ti{w:Y}{x:Nat}{es:Array MapEntry}{clock:Nat}(h:w.heap[x]?=some (.map es clock))(T:TypeId):(Builtin.clear_ #[209] T #[.map<|some x]).run prog w=.ok (.tuple #[]) (setBlock w x<|.map #[] clock):=by
 simp[Builtin.clear_,QS _,QP h,N5 _ h,Result.andThen,setBlock]
theorem G9{w:Y}(x k:Nat){o:Obj}(h:k≠x):(setBlock w x o).heap[k]?=w.heap[k]?:=by simp[setBlock,Qw h]
theorem kD{w:Y}{base:Nat}{e:TypeId}{sz:Nat}{sa:Option Addr}{sn sc:Nat}{xs:List F}(h:w.ownsRow base e sz (.slice sa sn sc) sn xs):w.ownsRow base e sz (.slice sa 0 sc) 0 []:=by
 obtain⟨k,a⟩:=h;refine⟨Sm,?_⟩;rcases a with⟨a,_⟩|⟨g,cap,cur,c,d,f,l,i,j,m⟩
 .injection a with e1 e2 e3;subst e1 e3;exact .inl ⟨C,C⟩
 .injection c with e1 e2 e3;subst e1 e3;exact .inr ⟨_,_,cur,C,d,f,X,i,j,Sm⟩
theorem lC{w:Y}{base mb:Nat}(x:Nat){c0 c1 c2 c3 al:F}(tm:Int){t2:Int}{gr:F}{sa:Option Addr}{sn sc:Nat}{vs:List F}{gs:List<|Nat×F}{es:Array MapEntry}{clock:Nat}(h:Un w base mb c0 c1 c2 c3 al tm (.map<|some x) gr sa sn sc vs)(m:XJ w x gs es clock):
 CP 47 #[Vp mb,E t2] w λe u=>e=.returned (.tuple #[])/\U (Un u base mb c0 c1 c2 c3 al t2 (.map<|some x) gr sa 0 sc [])/\U (XJ u x [] #[] clock)/\U (u.os=w.os/\u.tape=w.tape/\u.output=w.output/\w.heap.size<=u.heap.size/\∀k,k≠mb->k≠x->u.heap[k]?=w.heap[k]?):=by
 have l:x≠mb:=λe=>by
  have n:=m.heap;rw[e]at n;have c:=n.symm.trans h.box;injection c with c;cases c
 obtain⟨a,f⟩:∃a,a=(w.setCell ⟨mb,5,none⟩<|E t2).setCell ⟨mb,6,none⟩ (.slice sa 0 sc):=⟨_,C⟩;have m5:w.cell? _=some _:=h.box.cell 5;have m6:w.cell? _=some _:=h.box.cell 6;have m7:w.cell? _=some _:=h.box.cell 7;have f5:=h.box.frozen;have D:=h.box.lt;have r:Ya _ _ (JT _ _ _ _ _ _ _ _ _) _:=f▸(h.box.setkM 5 _).setkM 6 _;have d:∀k,k≠mb->a.heap[k]?=w.heap[k]?:=λk i=>by rw[f,Go.Deep.blk_setCell_other _ _ _ _ i,Go.Deep.blk_setCell_other _ _ _ _ i]
 have s:=λT=>ti ((d x l).trans m.heap) T;rw[f]at s;have o:U<|Un (setBlock a x<|.map #[] clock) base mb c0 c1 c2 c3 al t2 (.map<|some x) gr sa 0 sc []/\XJ (setBlock a x<|.map #[] clock) x [] #[] clock/\((setBlock a x<|.map #[] clock).os=w.os/\(setBlock a x<|.map #[] clock).tape=w.tape/\(setBlock a x<|.map #[] clock).output=w.output/\w.heap.size<=(setBlock a x<|.map #[] clock).heap.size/\∀k,k≠mb->k≠x->(setBlock a x<|.map #[] clock).heap[k]?=w.heap[k]?):=by
  have t:x<a.heap.size:=by
   have:=(d x l).trans m.heap;exact(Xr.1 this).1
  have j:w.grownBy _ _:=f▸Zn (Zn (Z2 w<|some mb) (Or.inl C) _) (Or.inl C) _;refine⟨⟨(G9 x _ λe=>l e.symm).trans r,?_,C⟩,⟨by simp[setBlock,t],⟨Sm,Sm,Sm⟩,C,λg p=>(by cases p)⟩,j.os,j.tape,j.output,?_,λk n c=>(G9 x k c).trans<|d k n⟩
  .have q:=kD h.own;refine ZJ q λk i=>?_;have v:k≠mb:=by
    rintro rfl;exact ZD q h.box N i.symm
   have z:k≠x:=by
    rintro rfl;rcases q.2 with⟨c,_⟩|⟨g,cap,cur,B,_,p,_⟩
    .rw[c]at i;cases i
    .rw[B]at i;have A:some g=some k:=i;cases A;have c:=m.heap.symm.trans p;injection c with c;cases c
   exact(G9 x k z).trans<|d k v
  .have:(setBlock a x<|.map #[] clock).heap.size=a.heap.size:=by simp[setBlock]
   rw[this];exact j.size
 rw[f]at o;go_enter func47,ntmps47;go_wp2;exact RW (Tq C _ _ _) C ⟨C,I o.1,I o.2.1,I o.2.2⟩
theorem lO{w:Y}{base mb:Nat}{c0 c1 c2 c3 al:F}{tm:Int}{sl gr:F}{sa:Option Addr}{n sc:Nat}{vs:List F}{va:Option Addr}{vn vc:Nat}(h:Un w base mb c0 c1 c2 c3 al tm sl gr sa (n+1) sc<|vs++[.iface 221<|.slice va vn vc])(o:n<=64):
 CP 50 #[Vp mb] w λe u=>e=.returned (.bool<|decide<|0<(vn:Int))/\U (BW w u):=by
 have c:vs.length=n:=by have:=h.len;rw[Yx]at this;simpa using this
 obtain⟨g,cp,d⟩:=Zm h.own X;injection d with hv1 hv2 hv3;subst hv1 hv3;have m6:w.cell? _=some _:=h.box.cell 6;have k0:=Zc h.own n (.iface 221<|.slice va vn vc)<|by rw[Rg X,c];simp
 have i:=h.box.lt;have j:=ZN h.own;have k:IntKind.i64.wrap (n)=(n):=by rw[Us];omega
 have l:(n:Int)<(n)+1:=X;have m:∀W:Y,(Instr.typeAssert (.iface 221<|.slice va vn vc) 134 221 true).run prog W=.ok (.tuple #[.slice va vn vc,.bool true]) W:=λW=>by kernel_rfl
 go_enter func50,ntmps50;go_upto_region 1 with fail;refine ZW 17 (λu=>u.cell? _=some _/\u.cell? _=some _) Kr (⟨m6,k0⟩) λa=>?_;refine Za 0 a (h:=Za 1 a (h:=Za 2 a (h:=Za 3 a (h:=Za 4 a (h:=Za 5 a (h:=Za 6 a (h:=Za 7 a (h:=Za 8 a (h:=Za 9 a (h:=Za 10 a (h:=Za 11 a (h:=Za 12 a (h:=Za 13 a (h:=Za 14 a (h:=Za 15 a (h:=Za 16 a (h:=?_)))))))))))))))));refine ZS Kr Kr C Kr λK f=>?_;go_simp;refine f _ _ ?_;go_wp2;go_ret;exact⟨C,I Yh⟩
theorem Cm(most:Nat)(l:LB):-1<=YL most l/\YL most l<=most:=by
 cases h:ZC most l with
 |none=>rw[P1 h];omega
 |some v=>rw[RB h];have:=Mw h;omega
def ZQ:List (Int×Int)->List F
 |[]=>[]
 |x::l=>.int .i64 x.1::.int .i64 x.2::ZQ l
theorem H3(l m:List<|Int×Int):ZQ (l++m)=ZQ l++ZQ m:=by
 induction l with
 |nil=>rfl
 |cons a l ih=>simp[ZQ,ih]
theorem Ls (l:List<|Int×Int)(j:Nat):(ZQ l)[j*2]?=l[j]?.map (λx=>E x.1)/\(ZQ l)[j*2+1]?=l[j]?.map λx=>E x.2:=by
 induction l generalizing j with
 |nil=>simp[ZQ]
 |cons r l ih=>
  cases j with
  |zero=>simp[ZQ]
  |succ j=>
   obtain⟨a,c⟩:=ih j;refine⟨?_,?_⟩
   .rw[show(j+1)*2=j*2+1+1 by omega];assumption
   .rw[show(j+1)*2+1=j*2+1+1+1 by omega];assumption
def Vb(x:Int×Int):Prop:=-1000000<=x.1/\x.1<=1000000/\-1000000000<=x.2/\x.2<=1000000000
def S8(d:LB):Int:=match Z6 45 d with
 |(d',less)=>if less then-(YL 1000000000 d')else YL 1000000000 d'
def UJ(x:LB):Int×Int:=match cut 58 x with
 |none=>(0,0)
 |some (a,d)=>(YL 1000000 a,S8 d)
def Qc:LB->List (Int×Int)
 |[]=>[]
 |_::t=>(split 32 t).map UJ
theorem ed{x a d d':LB}{less:Bool}{t v:Int}(e:cut 58 x=some (a,d))(c:Z6 45 d=(d',less))(f:YL 1000000 a=t)(g:YL 1000000000 d'=v):UJ x=(t,if less then-v else v):=by
 unfold UJ S8;rw[e];simp only[c,f,g]
theorem ee(x:LB):Vb<|UJ x:=by
 unfold UJ;split
 .unfold Vb;decide
 .rename_i a d _;have c:=Cm 1000000 a;unfold S8;cases hd:Z6 45 d with
  |mk d' less=>
   have e:=Cm 1000000000 d';unfold Vb;simp_all;omega
theorem DA{l:List<|LB}{k:Nat}(a:k<l.length){x:LB}(c:x=l.getD k []){t v:Int}(d:UJ x=(t,v)):ZQ ((l.map UJ).take<|k+1)=ZQ ((l.map UJ).take k)++[E t,E v]:=by
 have e:l[k]=x:=by rw[c,Y0,List.getElem?_eq_getElem a];rfl
 rw[<-Q1,<-Q1,List.take_succ_eq_append_getElem a,Xa,H3,PE,e,d];rfl
def Uw(l:LB):List<|Int×Int:=match LS.seek 125 l with
 |some b=>Qc<|l.drop<|b+1
 |none=>[]
theorem Bi{l x r y z:LB}(a:Zx x=true)(d:cut 123 l=some (x,r))(e:cut 125 r=some (y,z)):Uw l=Qc z:=by
 obtain⟨e1,n1⟩:=Rm d;obtain⟨e2,n2⟩:=Rm e;have f:(125)∉x:=by
  intro g;unfold Zx at a;rw[Vt]at a;have:=Tt.1 a.1 _ g;exact absurd this N
 have c:l=(x++123::y)++125::z:=by rw[e1,e2];simp
 have i:LS.seek 125 l=some (x++123::y).length:=by
  rw[c];refine LM _ _ z ?_;rw[Wk,X0];rintro(h|h|h)
  .exact f h
  .simp_all
  .exact n2 h
 unfold Uw;rw[i,c];simp only;congr 1;rw[show(x++123::y)++125::z=((x++123::y)++[125])++z by simp,MS<|by simp;omega,Ts<|by simp;omega];rfl
theorem CL(a b:Int)(a1:-1000000000<=a)(a2:a<=1000000000)(b1:-1000000000<=b)(b2:b<=1000000000):(a*b).natAbs<=1000000000000000000:=by
 rw[Int.natAbs_mul];have c:a.natAbs<=1000000000:=X;have d:b.natAbs<=1000000000:=X;exact Ig c d
theorem AE(a b:Int):YI 0 a b=YZ (a+b):=by simp[YI]
theorem AF(a b:Int):YI 1 a b=YZ (a-b):=by simp[YI]
theorem AG(a b:Int):YI 2 a b=YZ (a*b):=by simp[YI]
theorem AI(a:Int):YI 3 a 0=0:=by simp[YI]
theorem AH(a b:Int)(h:b≠0):YI 3 a b=a.tdiv b:=by simp[YI,h]
def YC(n:Int):Prop:=-1000000000<=n/\n<=1000000000
theorem Cz(m:Int)(l:List Int)(x:Int):Wh m (l++[x])=if Wh m l<x then x else Wh m l:=by
 induction l generalizing m with
 |nil=>rfl
 |cons a l ih=>exact ih _
theorem CJ(m:Int)(l:List Int)(x:Int):Wi m (l++[x])=if x<Wi m l then x else Wi m l:=by
 induction l generalizing m with
 |nil=>rfl
 |cons a l ih=>exact ih _
theorem Nq(n:Int):YC<|YZ n:=by unfold YC YZ;split<;>(try split)<;>omega
theorem OW(op:Nat)(a b:Int)(c:YC a):YC<|YI op a b:=by
 unfold YI;split
 .exact Nq _
 split
 .exact Nq _
 split
 .exact Nq _
 split
 .unfold YC;omega
 .unfold YC at*;have d:(a.tdiv b).natAbs<=a.natAbs:=by rw[Ku];exact MU _ _
  omega
def Ps(l s:Int):Nat->Int->List Int->Option (List Int)
 |0,_,_=>none
 |n+1,t,acc=>if t<=l then(if acc.length=50 then none else Ps l s n (t+s)<|acc++[t])else some acc
abbrev UA (f l s:Int):Prop:=f< -1000000\/1000000<f\/l< -1000000\/1000000<l\/s<1\/1000000<s\/l<f
def Tk(f l s:Int):Option<|List Int:=if UA f l s then none else Ps l s 60 f []
def SF(l s t:Int):Nat:=if t<=l then((l-t)/s).toNat+1 else 0
theorem ET(l s t:Int)(c:1<=s)(h:t<=l):SF l s t=SF l s (t+s)+1:=by
 unfold SF;rw[Ye h];by_cases a:t+s<=l
 .rw[Ye a];have e:(l-t)/s=(l-(t+s))/s+1:=by
   rw[show l-t=(l-(t+s))+1*s by omega,Int.add_mul_ediv_right _ _ X]
  have d:0<=(l-(t+s))/s:=Int.ediv_nonneg X X;rw[e];omega
 .rw[Yd a];have e:(l-t)/s=0:=Int.ediv_eq_zero_of_lt X X;rw[e];rfl
theorem Ax (l s:Int)(c:1<=s):∀(n:Nat)(t:Int)(acc:List Int),acc.length+SF l s t<=50->SF l s t<n->Ps l s n t acc=some (acc++(List.range<|SF l s t).map λ(i:Nat)=>t+(i:Int)*s)
 |0,_,_,_,h=>absurd h<|Tu _
 |n+1,t,acc,d,e=>by
  rw[Ps];by_cases h:t<=l
  · have a:=ET l s t c h;rw[Ye h,Yd X,Ax l s c n _ _ (by rw[Yx,PC];omega) X,a,List.range_succ_eq_map,Wb,VD,Vd];congr 2;rw[Ib];congr 1
    .simp
    .refine J1 λi _=>?_;simp only[Function.comp];rw[show((Nat.succ i):Int)=(i)+1 from C,Int.add_mul];omega
  · have a:SF l s t=0:=by unfold SF;rw[Yd h]
    rw[Yd h,a];simp
theorem Aw(l s:Int)(a:1<=s):∀(n:Nat)(t:Int)(acc:List Int),50<acc.length+SF l s t->acc.length<=50->50-acc.length<n->Ps l s n t acc=none
 |0,_,_,_,_,h=>absurd h<|Tu _
 |n+1,t,acc,e,f,g=>by
  rw[Ps];by_cases h:t<=l
  · have d:=ET l s t a h;rw[Ye h];by_cases c:acc.length=50
    .rw[Ye c]
    .rw[Yd c];exact Aw l s a n _ _ (by rw[Yx,PC];omega) (by rw[Yx,PC];omega)<|by rw[Yx,PC];omega
  · have d:SF l s t=0:=by unfold SF;rw[Yd h]
    omega
theorem fe {f l s:Int}(h:¬UA f l s):Tk f l s=if 50<SF l s f then none else some<|(List.range<|SF l s f).map λ(i:Nat)=>f+(i:Int)*s:=by
 have a:1<=s:=by unfold UA at h;omega
 unfold Tk;rw[Yd h];split
 .rename_i c;exact Aw l s a _ f _ (by simpa using c) (Sm)<|Sm
 .rename_i c;rw[Ax l s a _ f _ (by simp;omega) X];rfl
theorem L0 {n:Int}{w:Y}:CP 176 #[E n] w λe u=>e=.returned (E<|YZ n)/\u=w:=by
 rcases(by unfold YZ;split<;>(try split)<;>omega:(1000000000<n/\YZ n=1000000000)\/(n< -1000000000/\YZ n=-1000000000)\/(-1000000000<=n/\n<=1000000000/\YZ n=n))with⟨h,e⟩|⟨h,e⟩|⟨a,c,e⟩;all_goals
  rw[e];have d:=I e;go_enter func176,ntmps176;go_wp2;all_goals first|omega|(go_ret;exact⟨C,C⟩)|(go_ret;exact⟨TY X,C⟩)|(obtain rfl:n=-1000000000:=X;go_ret;exact⟨C,C⟩)
theorem Jl (op:Nat)(g:op<=3)(a b:Int)(d:YC a)(f:YC b)(w:Y):CP 143 #[E (op+1:Nat),E a,E b] w λe u=>e=.returned (E<|YI op a b)/\u=w:=by
 obtain⟨a1,a2⟩:=d;obtain⟨b1,b2⟩:=f;rcases(X:op=0\/op=1\/op=2\/op=3)with rfl|rfl|rfl|rfl
 .rw[AE];go_enter func143,ntmps143;go_wp2_with(go_at_call 176;refine YK (L0) ?_);go_ret;exact⟨C,C⟩
 .rw[AF];go_enter func143,ntmps143;go_wp2_with(go_at_call 176;refine YK (L0) ?_);go_ret;exact⟨C,C⟩
 · have i:(Go.IntKind.i64).wrap (a*b)=a*b:=by
     have j:=CL a b a1 a2 b1 b2;generalize a*b=ab at*;rw[Us];omega
   rw[AG];go_enter func143,ntmps143;go_wp2_with(go_at_call 176;refine YK (L0) ?_);go_ret;exact⟨C,C⟩
 · have h:(a.tdiv b).natAbs<=a.natAbs:=by rw[Ku];exact MU _ _
   have k:(Go.IntKind.i64).wrap (a.tdiv b)=a.tdiv b:=by rw[Us];omega
   by_cases c:b=0
   .subst c;rw[AI];go_enter func143,ntmps143;go_wp2;go_ret;exact⟨C,C⟩
   .rw[AH a b c];go_enter func143,ntmps143;go_wp2;go_ret;exact⟨C,C⟩
def Vc(l:List Int):List F:=[E l.length,E l.sum,E<|Wh (l.headD 0) l,E<|Wi (l.headD 0) l,E<|l.headD 0,E<|l.getLastD 0]
def UC(l:List Int):F:=.agg (Vc l).toArray
theorem oV(m:Int)(l:List Int)(x:Int):Wh m (l++[x])=max (Wh m l) x:=by rw[Cz];split<;>omega
theorem oZ(m:Int)(l:List Int)(x:Int):Wi m (l++[x])=min (Wi m l) x:=by rw[CJ];split<;>omega
theorem pt(l:List Int)(x:Int):(l++[x]).getLastD 0=x:=by simp[Kb]
theorem zi:∀l:List Int,(∀x∈l,YC x)->-1000000000*(l.length:Int)<=l.sum/\l.sum<=1000000000*(l.length:Int)
 |[],_=>by simp
 |a::l,h=>by
  have e:=zi l λx c=>h x<|Vf _ c;have d:=h a<|Rd ..;unfold YC at d;rw[List.sum_cons,Y1];omega
theorem AD (l:List Int)(x:Int)(k:l.length<=10000)(c:∀y∈l,YC y)(d:YC x)(w:Y):CP 140 #[UC l,E x] w λe u=>e=.returned (UC<|l++[x])/\BW w u:=by
 cases l with
 |nil=>
  unfold UC Vc;simp only[TO,List.sum_nil,Wh,Wi,List.headD_nil,List.getLastD_nil,O9,PC,List.sum_singleton,List.headD_cons,J5,Int.lt_irrefl,Q0];go_enter func140,ntmps140;go_wp2;exact YQ (v:=.agg #[E 1,E x,E x,E x,E x,E x]) (by simp[results,results140,go_sem]) C ⟨Sm,Yh⟩
 |cons a l=>
  have f:=zi _ c;have g:U<|UC ((a::l)++[x])=.agg #[E<|(l.length)+1+1,E<|(a::l).sum+x,E<|max (Wh a<|a::l) x,E<|min (Wi a<|a::l) x,E a,E x]:=I<|by
   unfold UC Vc;rw[oV,oZ,Kt,pt];simp
  unfold YC at d;rw[g];unfold UC Vc;rw[Y1]at*;simp only[List.headD_cons];generalize(a::l).sum=sm at*;generalize Wh a (a::l)=mx at*;generalize Wi a (a::l)=mn at*;generalize(a::l).getLastD 0=la at*;generalize l.length=ln at*;have i:((ln:Int)+1==0)=false:=by rw[YB];omega
  push_cast;have h:=I f;have j:-10000000000000<=sm/\sm<=10000000000000:=by have:=h.o;omega
  rcases(X:(mx<x/\max mx x=x)\/(x<=mx/\max mx x=mx))with⟨g1,e1⟩|⟨g1,e1⟩<;>rcases(X:(x<mn/\min mn x=x)\/(mn<=x/\min mn x=mn))with⟨g2,e2⟩|⟨g2,e2⟩
  .rw[e1,e2];go_enter func140,ntmps140;go_wp2;all_goals first|omega|exact YQ (v:=.agg #[E<|(ln:Int)+1+1,E<|sm+x,E x,E x,E a,E x]) (by simp[results,results140,go_sem]) C ⟨C,Yh⟩
  .rw[e1,e2];go_enter func140,ntmps140;go_wp2;all_goals first|omega|exact YQ (v:=.agg #[E<|(ln:Int)+1+1,E<|sm+x,E x,E mn,E a,E x]) (by simp[results,results140,go_sem]) C ⟨C,Yh⟩
  .rw[e1,e2];go_enter func140,ntmps140;go_wp2;all_goals first|omega|exact YQ (v:=.agg #[E<|(ln:Int)+1+1,E<|sm+x,E mx,E x,E a,E x]) (by simp[results,results140,go_sem]) C ⟨C,Yh⟩
  .rw[e1,e2];go_enter func140,ntmps140;go_wp2;all_goals first|omega|exact YQ (v:=.agg #[E<|(ln:Int)+1+1,E<|sm+x,E mx,E mn,E a,E x]) (by simp[results,results140,go_sem]) C ⟨C,Yh⟩
theorem Hg{n:Int}(h:YC n):YZ n=n:=by unfold YC at h;unfold YZ;split<;>(try split)<;>omega
theorem Cy:∀(l:List Int)(m:Int),YC m->(∀x∈l,YC x)->YC (Wh m l)
 |[],m,h,_=>h
 |a::l,m,h,c=>by
  rw[Wh];refine Cy l _ ?_ λx d=>c x<|Vf _ d;split
  .exact c a<|Rd ..
  .exact h
theorem CI:∀(l:List Int)(m:Int),YC m->(∀x∈l,YC x)->YC (Wi m l)
 |[],m,h,_=>h
 |a::l,m,h,c=>by
  rw[Wi];refine CI l _ ?_ λx d=>c x<|Vf _ d;split
  .exact c a<|Rd ..
  .exact h
theorem rK{l:List Int}(c:∀x∈l,YC x):YC<|l.headD 0:=by
 cases l with
 |nil=>unfold YC;decide
 |cons a l=>exact c a<|Rd ..
theorem pq{l:List Int}(c:∀x∈l,YC x):YC<|l.getLastD 0:=by
 cases l with
 |nil=>unfold YC;decide
 |cons a l=>rw[J5,<-Ej<|Sm];exact c _<|List.getLast_mem _
theorem yL {op:Nat}(f:op<=4)(l:List Int)(g:l.length<=10000)(a:∀y∈l,YC y)(w:Y):CP 141 #[UC l,E op] w λe u=>e=.returned (E<|YZ<|T1 op l)/\BW w u:=by
 have c:=rK a;have d:=pq a;have e1:=Hg<|Cy l _ c a;have e2:=Hg<|CI l _ c a;have e3:YZ _=l.length:=Hg<|by unfold YC;omega
 unfold T1 UC Vc;unfold YC at c d;generalize Wh (l.headD 0) l=mx at*;generalize Wi (l.headD 0) l=mn at*;generalize l.headD 0=hd at*;generalize l.getLastD 0=la at*;generalize l.sum=sm at*;generalize l.length=ln at*;rcases(X:op=0\/op=1\/op=2\/op=3\/op=4)with rfl|rfl|rfl|rfl|rfl
 .simp only[VE];go_enter func141,ntmps141;go_wp2_with(go_at_call 176;refine YK (L0) ?_);go_ret;exact⟨C,Yh⟩
 .simp only[Nat.one_ne_zero,Q0,VE,e1];go_enter func141,ntmps141;go_wp2;go_ret;exact⟨C,Yh⟩
 .rw[Yd N,Yd N,Ye C,e2];go_enter func141,ntmps141;go_wp2;go_ret;exact⟨C,Yh⟩
 .rw[Yd N,Yd N,Yd N,Ye C,e3];go_enter func141,ntmps141;go_wp2;go_ret;exact⟨C,Yh⟩
 .rw[Yd N,Yd N,Yd N,Yd N];go_enter func141,ntmps141;go_wp2_with(go_at_call 176;refine YK (L0) ?_);go_ret;exact⟨C,Yh⟩
theorem Mt {a:Option Addr}{n c:Nat}{tx:BA}{w:Y}:CP 94 #[.agg #[.slice a n c,.string tx]] w λe u=>e=.returned (.string tx)/\∃o,u=w.alloc o:=by
 go_enter func94,ntmps94;go_wp2;go_ret;exact⟨C,_,C⟩
def Wx(x y:LB):Int:=if Op.bytesLess x y then-1 else if Op.bytesLess y x then 1 else 0
theorem KP {s:BA}{w:Y}:CP 208 #[.string s] w λe u=>e=.returned (.bool false)/\u=w:=by
 go_enter func208,ntmps208;go_wp2;go_ret;exact⟨Sm,C⟩
theorem CO {s:BA}{w:Y}:CP 212 #[.string s] w λe u=>e=.returned (.bool false)/\u=w:=by
 go_enter func212,ntmps212;go_wp2;go_ret;exact⟨Sm,C⟩
theorem ER {a b:BA}{w:Y}:CP 179 #[.string a,.string b] w λe u=>e=.returned (E<|Wx (bl a)<|bl b)/\u=w:=by
 obtain⟨r,c⟩:∃r,r=Wx (bl a) (bl b):=⟨_,C⟩;rw[<-c];unfold Wx at c;rw[<-ZA,<-ZA]at c;obtain⟨p,g⟩:∃p,Op.bytesLess a.toList b.toList=p:=⟨_,C⟩;obtain⟨q,d⟩:∃q,Op.bytesLess b.toList a.toList=q:=⟨_,C⟩;rw[g,d]at c;have f:=I c;clear c;cases p
 · cases q
   · obtain rfl:r=0:=f.o;have h:(a.toList==b.toList)=true:=by rw[XM];exact Pc _ _ g d
     go_enter func179,ntmps179;go_wp2_with(go_at_call 208;refine YK (KP) ?_);go_ret;exact⟨C,C⟩
   · obtain rfl:r=1:=f.o;have h:(a.toList==b.toList)=false:=by rw[YB];intro e;rw[e,R5]at d;cases d
     go_enter func179,ntmps179;go_wp2_with(go_at_call 208;refine YK (KP) ?_);go_ret;exact⟨C,C⟩
 .obtain rfl:r=-1:=f.o;go_enter func179,ntmps179;go_wp2_with(go_at_call 208;refine YK (KP) ?_);go_ret;exact⟨C,C⟩
theorem pE (a b:BA)(w:Y):CP 211 #[.string a,.string b] w λe u=>e=.returned (.bool<|Op.bytesLess (bl a)<|bl b)/\u=w:=by
 rw[<-ZA,<-ZA];generalize c:Op.bytesLess a.toList b.toList=p;go_enter func211,ntmps211;go_wp2_with(go_at_call 208;refine YK (KP) ?_);go_ret;exact⟨by first|rfl|simp[c],C⟩
theorem vH{s:BA}{a:Array UInt8}(h:bl s=a.toList):s=⟨a⟩:=by
 cases s with
 |mk d=>unfold bl at h;simp at h;rw[h]
theorem PK.zero{w:Y}{p:PV}{ns:List<|LB}(h:PK w 0 p ns):∃bs:List BA,p.bn=bs.length/\w.ownsRow 0 9 1 (.slice p.ba bs.length p.bc) bs.length (bs.map .string)/\bs.map bl=ns:=by
 obtain⟨bs,c,d⟩:=h;obtain⟨av,cp,a⟩:=Zd c;injection a with _ a _;exact⟨bs,a,by rw[<-a];rw[<-a]at c;exact c,d⟩
theorem oN(A:Nat->Addr)(m:Int)(w:Y)(a:YD w A m){fa:Nat}(c:w.cell? ⟨fa,2,none⟩=some (.iface 469<|.pointer<|some<|A 4)):
 CP 12 #[.iface 92<|Vp fa] w λe u=>e=.returned (E 5)/\u=w:=by
 have v:=a.all;go_enter func12,ntmps12;iterate 4 (go_wp2_with fail;refine YK (Lv a c) ?_)
 go_wp2_with fail;refine YK (M8 c) ?_;go_wp2;go_ret;exact⟨C,C⟩
theorem oQ(A:Nat->Addr)(m:Int)(w:Y)(a:YD w A m){fa:Nat}(c:w.cell? ⟨fa,2,none⟩=some (.iface 469<|.pointer<|some<|A 5)):
 CP 12 #[.iface 92<|Vp fa] w λe u=>e=.returned (E 6)/\u=w:=by
 have v:=a.all;go_enter func12,ntmps12;iterate 5 (go_wp2_with fail;refine YK (Lv a c) ?_)
 go_wp2_with fail;refine YK (M8 c) ?_;go_wp2;go_ret;exact⟨C,C⟩
theorem oJ(A:Nat->Addr)(m:Int)(w:Y)(a:YD w A m):
 CP 12 #[.iface 469<|.pointer<|some<|A 6] w λe u=>e=.returned (E 7)/\u=w:=by
 have v:=a.all;go_enter func12,ntmps12;iterate 6 (go_wp2_with fail;refine YK (JG a) ?_)
 go_wp2_with fail;refine YK (M7) ?_;go_wp2;go_ret;exact⟨C,C⟩
theorem oP(A:Nat->Addr)(m:Int)(w:Y)(a:YD w A m):
 CP 12 #[.iface 469<|.pointer<|some<|A 7] w λe u=>e=.returned (E 8)/\u=w:=by
 have v:=a.all;go_enter func12,ntmps12;iterate 7 (go_wp2_with fail;refine YK (JG a) ?_)
 go_wp2_with fail;refine YK (M7) ?_;go_wp2;go_ret;exact⟨C,C⟩
end Go.Proofs.YtmfnolgpaoldpaaGreatDoor
namespace Go.Proofs.YtmfnolgpaoldpaaGreatDoor.LS
open Go Go.RowKit
abbrev Cl:=VV⊕(Nd×Nat)
def Sj:Cl->Nat
 |.inl<|.inl _=>1
 |.inl<|.inr _=>2
 |.inr (_,_)=>3
def Md:Cl->VV
 |.inl v=>v
 |.inr (_,_)=>.inr []
structure MQ where
 jy:List Cl
 jx:List<|Option Cl
def UW:MQ:=⟨[],List.replicate 16 none⟩
def VN:Nd×Nat:=(⟨0,0,0,[],[],[]⟩,0)
def SC(st:List YY)(t:Int)(x:Nd×Nat):Cl:=if 0<x.2 then .inr (x.1,x.2)else .inl<|.inr<|Uk st x.1 none 10 t
def XG(st:List YY)(t:Int)(c:Yb)(x:Nat×Nat)(m:MQ):MQ:=match x.1 with
 |0=>⟨.inl (.inl<|c.jq.getD x.2 0)::m.jy,m.jx⟩
 |1=>⟨SC st t (c.jw.getD x.2 VN)::m.jy,m.jx⟩
 |2=>match m.jy with
  |.inr (a,n)::r=>⟨.inl (.inr<|Uk st a (some x.2) n t)::r,m.jx⟩
  |_=>m
 |3=>match m.jy with
  |y::z::r=>⟨.inl (QJ x.2 (Md z)<|Md y)::r,m.jx⟩
  |_=>m
 |4=>match m.jy with
  |y::r=>⟨.inl (TH<|Md y)::r,m.jx⟩
  |_=>m
 |9=>m
 |10=>m
 |11=>⟨m.jy.tail,m.jx⟩
 |12=>match m.jy with
  |y::r=>⟨r,m.jx.set x.2<|some y⟩
  |_=>m
 |13=>match m.jx.getD x.2 none with
  |some y=>⟨y::m.jy,m.jx⟩
  |none=>m
 |_=>match m.jy with
  |y::r=>⟨.inl (.inr<|SA (x.1-5) (c.jv.getD x.2 [])<|Hp<|Md y)::r,m.jx⟩
  |_=>m
def Mc(m:MQ):Bool:=match m.jy with
 |y::_=>!(Hp<|Md y).isEmpty
 |[]=>false
def UH(i:Nat)(x:Nat×Nat)(m:MQ):Nat:=if x.1=9 then x.2 else if x.1=10/\Mc m=true then x.2 else i+1
def Xf(st:List YY)(t:Int)(c:Yb):Nat->Nat->MQ->Option (Nat×MQ)
 |f,i,m=>if c.jz.length<=i then some (f,m)else match f with
  |0=>none
  |f+1=>Xf st t c f (UH i (c.jz.getD i (0,0)) m)<|XG st t c (c.jz.getD i (0,0)) m
def TJ(m:MQ):VV:=match m.jy with
 |y::_=>Md y
 |[]=>.inr []
structure Y8 (b:Ah)(st sl:List Nat):Prop where
 kj:b.kj=true
 jy:b.kw=false->b.jy=st
 jx:∀j,b.jx.getD j 0≠0->sl.getD j 0=b.jx.getD j 0
theorem Gu:∀(x y:List Nat)(j:Nat),(Xx x y).getD j 0≠0->x.getD j 0=(Xx x y).getD j 0/\y.getD j 0=(Xx x y).getD j 0
 |[],_,j,h=>by simp[Xx]at h
 |_::_,[],j,h=>by simp[Xx]at h
 |a::x,b::y,0,h=>by
  have e:(Xx (a::x)<|b::y).getD 0 0=if a=b then a else 0:=C;simp_all
 |a::x,b::y,j+1,h=>Gu x y j h
theorem CH{a:Ah}{st sl:List Nat}:Y8 (ZZ a st sl) st sl:=by
 unfold ZZ;by_cases c:a.kj
 .rw[Ye c];refine⟨C,λh=>?_,λj h=>(Gu _ _ j h).2⟩;simp_all
 constructor<;>simp_all
theorem Y8.meet{b:Ah}{st sl:List Nat}(h:Y8 b st sl)(st2 sl2:List Nat):Y8 (ZZ b st2 sl2) st sl:=by
 unfold ZZ;rw[Ye h.kj];refine⟨C,λc=>?_,λj d=>?_⟩
 .have a:(b.kw||decide _)=false:=c;rw[Bool.or_eq_false_iff]at a;exact h.jy a.1
 .have c:=(Gu _ _ j d).1;have a:=h.jx j<|by simp_all
  simp_all
theorem M3(l:List Ah)(i s:Nat)(a:Ah):(l.set i a).getD s Ys=if i=s/\s<l.length then a else l.getD s Ys:=by
 rw[Y0,Sc];by_cases h:i=s
 .subst h;by_cases c:i<l.length
  .simp[c]
  .simp[c,Y0]
 simp_all
theorem Y8.set{l:List Ah}{s:Nat}{st sl:List Nat}(h:Y8 (l.getD s Ys) st sl)(i:Nat)(st2 sl2:List Nat):Y8 ((l.set i<|ZZ (l.getD i Ys) st2 sl2).getD s Ys) st sl:=by
 rw[M3];split
 .rename_i a;rw[a.1];exact h.meet _ _
 omega
theorem Y8.goOn{l:List Ah}{s:Nat}{st sl:List Nat}(h:Y8 (l.getD s Ys) st sl)(x:Nat×Nat)(i:Nat)(st2 sl2:List Nat):Y8 ((goOn x i st2 sl2 l).getD s Ys) st sl:=by
 unfold LS.goOn;simp only;split
 .split
  .exact h.set _ _ _
  omega
 .split
  .exact(h.set _ _ _).set _ _ _
  .exact h.set _ _ _
theorem qk(x:Nat×Nat)(i:Nat)(st sl:List Nat)(l:List Ah):(goOn x i st sl l).length=l.length:=by
 unfold goOn;simp only;split<;>split<;>simp
theorem qm{x:Nat×Nat}{i:Nat}{st sl:List Nat}{l:List Ah}(a:x.1≠9)(c:i+1<l.length):Y8 ((goOn x i st sl l).getD (i+1) Ys) st sl:=by
 unfold goOn;simp only;rw[Yd a,M3,Ye ⟨C,by split<;>simp_all⟩];exact CH
theorem qj{x:Nat×Nat}{i:Nat}{st sl:List Nat}{l:List Ah}(c:TC x.1=true)(d:x.2<l.length):Y8 ((goOn x i st sl l).getD x.2 Ys) st sl:=by
 unfold goOn;simp only;rw[c];have a:Y8 ((l.set x.2<|ZZ (l.getD x.2 Ys) st sl).getD x.2 Ys) st sl:=by
  rw[M3,Ye ⟨C,d⟩];exact CH
 split
 .exact a
 .exact a.set _ _ _
def JV(c:Yb):Prop:=∀i,i<c.jz.length->Zy c i (c.jz.getD i (0,0))=true
theorem Jd{c:Yb}{i:Nat}{x:Nat×Nat}(h:Zy c i x=true)(a:TC x.1=true):i<x.2/\x.2<=c.jz.length:=by
 obtain⟨op,arg⟩:=x;have d:op=9\/op=10:=by unfold TC at a;simpa using a
 rcases d with rfl|rfl<;>simpa [Zy]using h
theorem qn{c:Yb}{x:Nat×Nat}{i s:Nat}{st sl:List Nat}{l:List Ah}(e:Zy c i x=true)(f:s<=i):(goOn x i st sl l).getD s Ys=l.getD s Ys:=by
 unfold goOn;simp only;have a:(if TC x.1=true then l.set x.2 (ZZ (l.getD x.2 Ys) st sl)else l).getD s Ys=l.getD s Ys:=by
  by_cases d:TC x.1=true
  .rw[Ye d,M3,Yd λh=>by have:=(Jd e d).1;omega]
  .simp_all
 split
 .exact a
 .rw[M3,Yd λh=>X];exact a
theorem B7{c:Yb}:∀{k:Nat}{l:List Ah}{m:Nat},Z3 c k=.ok (l,m)->l.length=c.jz.length+1
 |0,l,m,h=>by injection h with h;injection h with h1 h2;subst h1;simp[Pn]
 |k+1,l,m,h=>by
  unfold Z3 at h;cases a:Z3 c k with
  |error e=>simp_all
  |ok x=>
   rw[a]at h;simp only at h;have d:=B7 a;unfold SB at h;simp only at h;split at h
   · split at h
     .cases h
     · split at h
       .cases h
       .injection h with h;injection h with h1 h2;subst h1;rw[qk,d]
   simp_all
theorem Jw{c:Yb}{k:Nat}{l':List Ah}{m':Nat}(h:Z3 c (k+1)=.ok (l',m')):∃l m,Z3 c k=.ok (l,m)/\(((l.getD k Ys).kj=false/\l'=l)\/((l.getD k Ys).kj=true/\(l.getD k Ys).kw=false/\∃st sl,Zr c (c.jz.getD k (0,0)) (l.getD k Ys).jy (l.getD k Ys).jx=some (st,sl)/\l'=goOn (c.jz.getD k (0,0)) k st sl l)):=by
 unfold Z3 at h;cases a:Z3 c k with
 |error e=>simp_all
 |ok x=>
  rw[a]at h;simp only at h;refine⟨x.1,x.2,C,?_⟩;unfold SB at h;simp only at h;split at h
  .rename_i d;split at h
   .cases h
   .rename_i g;split at h
    .cases h
    .rename_i s f;injection h with h;injection h with h1 h2;exact .inr ⟨d,by simp_all,s.1,s.2,f,h1.symm⟩
  simp_all
theorem GQ{c:Yb}{st sl:List Nat}{s:Nat}{k:Nat}{l:List Ah}{m:Nat}(a:Z3 c k=.ok (l,m))(e:Y8 (l.getD s Ys) st sl):∀(d:Nat){l':List Ah}{m':Nat},Z3 c (k+d)=.ok (l',m')->Y8 (l'.getD s Ys) st sl
 |0,l',m',h=>by
  simp_all
 |d+1,l',m',h=>by
  obtain⟨l1,m1,f,g⟩:=Jw (k:=k+d) h;have ih:=GQ a e d f;rcases g with⟨_,rfl⟩|⟨_,_,st2,sl2,_,rfl⟩
  .exact ih
  .exact ih.goOn _ _ _ _
theorem GR{c:Yb}(a:JV c){s k:Nat}{l:List Ah}{m:Nat}(e:s<=k)(f:Z3 c k=.ok (l,m)):∀(d:Nat){l':List Ah}{m':Nat},k+d<=c.jz.length->Z3 c (k+d)=.ok (l',m')->l'.getD s Ys=l.getD s Ys
 |0,l',m',_,h=>by
  simp_all
 |d+1,l',m',hd,h=>by
  obtain⟨l1,m1,g,i⟩:=Jw (k:=k+d) h;have ih:=GR a e f d X g;rcases i with⟨_,rfl⟩|⟨_,_,st2,sl2,_,rfl⟩
  .exact ih
  .rw[qn (a _ X) X];exact ih
theorem B8{c:Yb}:∀(d:Nat){k:Nat}{l':List Ah}{m':Nat},Z3 c (k+d)=.ok (l',m')->∃l m,Z3 c k=.ok (l,m)
 |0,k,l',m',h=>⟨l',m',h⟩
 |d+1,k,l',m',h=>by
  obtain⟨l1,m1,a,_⟩:=Jw (k:=k+d) h;exact B8 d a
structure VB (c:Yb)(L:List Ah):Prop where
 fwd:JV c
 first:L.getD 0 Ys=⟨true,false,[],List.replicate 16 0⟩
 step:∀i,i<c.jz.length->(L.getD i Ys).kj=true->(L.getD i Ys).kw=false/\∃st sl,Zr c (c.jz.getD i (0,0)) (L.getD i Ys).jy (L.getD i Ys).jx=some (st,sl)/\((c.jz.getD i (0,0)).1≠9->Y8 (L.getD (i+1) Ys) st sl)/\(TC (c.jz.getD i (0,0)).1=true->Y8 (L.getD (c.jz.getD i (0,0)).2 Ys) st sl)
 last:(L.getD c.jz.length Ys).kw=false/\((L.getD c.jz.length Ys).jy=[1]\/(L.getD c.jz.length Ys).jy=[2])
theorem BE{c:Yb}:∀{n:Nat},Vj c n=.ok ()->∀i,i<n->Zy c i (c.jz.getD i (0,0))=true
 |0,_,i,a=>absurd a<|Tu _
 |n+1,h,i,a=>by
  unfold Vj at h;cases d:Vj c n with
  |error e=>simp_all
  |ok u=>
   rw[d]at h;simp only at h;by_cases e:i=n
   .simp_all
   .exact BE d i X
theorem ye{c:Yb}{x:Nat×Nat}(h:Vl c=.ok x):∃L,VB c L:=by
 unfold Vl at h;cases j:Vj c c.jz.length with
 |error e=>rw[j]at h;cases h
 |ok u=>
  rw[j]at h;simp only at h;have f:JV c:=BE j;cases a:Tv c with
  |error e=>rw[a]at h;cases h
  |ok m=>
   unfold Tv at a;cases l:Z3 c c.jz.length with
   |error e=>rw[l]at a;cases a
   |ok y=>
    rw[l]at a;simp only at a;obtain⟨L,mo⟩:=y;simp only at a;have d:Ro (L.getD c.jz.length Ys)=true:=by
     cases r:Ro (L.getD c.jz.length Ys)with
     |true=>rfl
     |false=>rw[r]at a;cases a
    unfold Ro at d;rw[Vt]at d;refine⟨L,f,?_,λi t n=>?_,by simpa using d.1,?_⟩
    .have:=GR f (s:=0) (Yj _) C c.jz.length X<|by rwa [SI]
     rw[this];rfl
    .obtain⟨l1,m1,k⟩:=B8 _<|by rwa [show i+1+(c.jz.length-(i+1))=c.jz.length by omega]
     obtain⟨l0,m0,o,g⟩:=Jw k;have e0:=GR f (Yj i) o (c.jz.length-i) X<|by rwa [show i+(c.jz.length-i)=c.jz.length by omega]
     rw[e0]at n⊢;rcases g with⟨p,_⟩|⟨_,v,st,sl,w,rfl⟩
     .rw[n]at p;cases p
     .have A:=B7 o;refine⟨v,st,sl,w,λz=>?_,λq=>?_⟩
      .exact GQ k (qm z X) _<|by rwa [show i+1+(c.jz.length-(i+1))=c.jz.length by omega]
      .exact GQ k (qj q<|by have:=(Jd (f i t) q).2;omega) _<|by rwa [show i+1+(c.jz.length-(i+1))=c.jz.length by omega]
    .simpa using d.2
def Px(n:Nat):Cl->Prop
 |.inl v=>WG n v
 |.inr (_,_)=>True
structure YV (n:Nat)(st sl:List Nat)(m:MQ):Prop where
 jy:m.jy.map Sj=st
 len:m.jx.length=16
 jx:∀j,sl.getD j 0≠0->∃y,m.jx.getD j none=some y/\Sj y=sl.getD j 0
 ok:∀y∈m.jy,Px n y
 okS:∀j y,m.jx.getD j none=some y->Px n y
theorem yY(n:Nat):YV n [] (List.replicate 16 0) UW:=by
 refine⟨C,C,λj h=>?_,(λy a=>(by cases a)),λj y a=>?_⟩
 .exfalso;apply h;rw[Y0,O4];split<;>rfl
 .exfalso;have d:(List.replicate 16 (none:Option Cl)).getD j none=none:=by rw[Y0,O4];split<;>rfl
  have c:=a;unfold UW at c;simp_all
theorem YV.met{n:Nat}{st sl:List Nat}{m:MQ}{b:Ah}(h:YV n st sl m)(a:Y8 b st sl)(c:b.kw=false):YV n b.jy b.jx m:=
 ⟨by rw[a.jy c];exact h.jy,h.len,λj d=>by
  have e:=a.jx j d;obtain⟨y,f,g⟩:=h.jx j X;simp_all,h.ok,h.okS⟩
theorem YV.push{n:Nat}{r sl st' sl':List Nat}{rs:List Cl}{ss:List<|Option Cl}{y:Cl}{k:Nat}(h:YV n r sl ⟨rs,ss⟩)(d:Sj y=k)(e:Px n y)(a:Z4 k r sl=some (st',sl')):YV n st' sl' ⟨y::rs,ss⟩:=by
 unfold Z4 at a;split at a
 .cases a
 .injection a with a;injection a with e1 e2;subst e1 e2;refine⟨?_,h.len,h.jx,λz c=>?_,h.okS⟩
  .show Sj y::rs.map Sj=k::r;rw[d,h.jy]
  .rcases X0.1 c with rfl|c
   .exact e
   .exact h.ok z c
theorem YV.pop{n k:Nat}{r sl:List Nat}{m:MQ}(h:YV n (k::r) sl m):∃y rs,m.jy=y::rs/\Sj y=k/\Px n y/\YV n r sl ⟨rs,m.jx⟩:=by
 have a:=h.jy;cases d:m.jy with
 |nil=>simp_all
 |cons y rs=>
  rw[d]at a;have c:Sj y::rs.map _=k::r:=a;injection c with h1 h2;exact⟨y,rs,C,h1,h.ok y<|by simp_all,⟨h2,h.len,h.jx,λz e=>h.ok z<|by simp_all,h.okS⟩⟩
theorem La{y:Cl}(h:Sj y=2):∃l,y=.inl (.inr l):=by
 rcases y with(a|l)|⟨a,n⟩
 .cases h
 .simp
 .cases h
theorem Fe{y:Cl}(h:Sj y=3):∃a n,y=.inr (a,n):=by
 rcases y with(a|l)|⟨a,n⟩
 .cases h
 .cases h
 simp
theorem Po{y:Cl}(h:ZO (Sj y)=true):∃v,y=.inl v:=by
 rcases y with v|⟨a,n⟩
 .simp
 .cases h
theorem oG{op:Nat}{a b:VV}:Sj (.inl<|QJ op a b)=max (Sj<|.inl a) (Sj<|.inl b):=by
 cases a<;>cases b<;>rfl
theorem oH{a:VV}:Sj (.inl<|TH a)=Sj (.inl a):=by cases a<;>rfl
theorem YV.same{n:Nat}{st sl:List Nat}{m:MQ}(h:YV n st sl m){r:List Nat}{k:Nat}{st' sl':List Nat}(c:st=k::r)(a:Z4 k r sl=some (st',sl')):YV n st' sl' m:=by
 unfold Z4 at a;simp_all
theorem YV.step{ser:List YY}{c:Yb}{i op arg:Nat}{st sl st' sl':List Nat}{m:MQ}(h:YV ser.length st sl m)(hd:Sw ser)(t:Int)(P:op<=13)(G:Zy c i (op,arg)=true)(d:Zr c (op,arg) st sl=some (st',sl')):YV ser.length st' sl'<|XG ser t c (op,arg) m:=by
 rcases(X:op=0\/op=1\/op=2\/op=3\/op=4\/op=9\/op=10\/op=11\/op=12\/op=13\/(op=5\/op=6\/op=7\/op=8))with rfl|rfl|rfl|rfl|rfl|rfl|rfl|rfl|rfl|rfl|B
 .exact YV.push (rs:=m.jy) (ss:=m.jx) h C trivial d
 .have H:arg<c.jw.length:=by simpa [Zy]using G
  have e1:c.jw[arg]?=some c.jw[arg]:=List.getElem?_eq_getElem H;have e2:c.jw.getD arg VN=c.jw[arg]:=by rw[Y0,e1];rfl
  have u:Z4 ((c.jw[arg]?.map VF).getD 0) st sl=some (st',sl'):=d;rw[e1]at u;show YV ser.length st' sl' ⟨SC ser t (c.jw.getD arg VN)::m.jy,m.jx⟩;rw[e2];refine YV.push (rs:=m.jy) (ss:=m.jx) h ?_ ?_ u
  .show Sj (SC ser t c.jw[arg])=VF c.jw[arg];unfold SC VF;split<;>rfl
  .unfold SC;split
   .trivial
   .exact Ar hd
 .cases st with
  |nil=>cases d
  |cons k r=>
   simp only[Zr]at d;split at d
   .rename_i p;subst p;obtain⟨y,rs,q,f,g,o⟩:=h.pop;obtain⟨a,n,rfl⟩:=Fe f;simp only[XG,q];exact YV.push o C (Ar hd) d
   simp_all
 .cases st with
  |nil=>cases d
  |cons ky r=>
   cases r with
   |nil=>cases d
   |cons kz r=>
    simp only[Zr]at d;split at d
    .rename_i p;rw[Vt]at p;obtain⟨y,rs,q,f,g,o⟩:=h.pop;obtain⟨z,qs,w,A,J,K⟩:=o.pop;have w:rs=z::qs:=w;subst w;obtain⟨vy,rfl⟩:=Po<|by rw[f];exact p.2
     obtain⟨vz,rfl⟩:=Po<|by rw[A];exact p.1
     simp only[XG,q];refine YV.push K ?_ (wX J g) d;rw[<-f,<-A];exact oG
    simp_all
 .cases st with
  |nil=>cases d
  |cons ky r=>
   simp only[Zr]at d;split at d
   .rename_i p;obtain⟨y,rs,q,f,g,o⟩:=h.pop;obtain⟨vy,rfl⟩:=Po<|by rw[f];exact p
    simp only[XG,q];refine YV.push o ?_ (nF g) d;rw[<-f];exact oH
   simp_all
 .injection d with d;injection d with e1 e2;subst e1 e2;exact h
 .cases st with
  |nil=>cases d
  |cons k r=>
   simp only[Zr]at d;split at d
   .rename_i p;subst p;exact h.same C d
   simp_all
 .cases st with
  |nil=>cases d
  |cons k r=>
   injection d with d;injection d with e1 e2;subst e1 e2;obtain⟨y,rs,q,f,g,o⟩:=h.pop;simp only[XG,q];exact o
 .cases st with
  |nil=>cases d
  |cons k r=>
   injection d with d;injection d with e1 e2;subst e1 e2;obtain⟨y,rs,q,f,g,o⟩:=h.pop;have H:arg<16:=by simpa [Zy]using G
   simp only[XG,q];have Q:m.jx.length=16:=h.len;have gs:∀j,(m.jx.set arg<|some y).getD j none=if arg=j then some y else m.jx.getD j none:=λj=>by
    split<;>simp_all
   refine⟨o.jy,by simp_all,λj L=>?_,o.ok,λj z A=>?_⟩
   .show∃z,(m.jx.set arg<|some y).getD j none=some z/\_;rw[gs];have e2:(sl.set arg k).getD j 0=if arg=j/\j<sl.length then k else sl.getD j 0:=by
     rw[Y0,Sc,Y0];by_cases e:arg=j
     .subst e;by_cases s:arg<sl.length
      .simp[s]
      simp_all
     .simp[e]
    have s:(sl.set arg k).getD j 0≠0:=L;rw[e2]at s;show∃z,_/\Sj z=(sl.set arg k).getD j 0;rw[e2];by_cases e:arg=j
    .simp_all
    .rw[Yd e,Yd λD=>e D.1];rw[Yd λD=>e D.1]at s;exact h.jx j s
   .have x:(m.jx.set arg<|some y).getD j none=some z:=A;rw[gs]at x;by_cases e:arg=j
    .simp_all
    .rw[Yd e]at x;exact h.okS j z x
 .simp only[Zr]at d;split at d
  .cases d
  .rename_i M;obtain⟨y,f,p⟩:=h.jx arg M;simp only[XG,f];exact YV.push (rs:=m.jy) (ss:=m.jx) h p (h.okS arg y f) d
 .have key:∃r,st=2::r/\Z4 2 r sl=some (st',sl'):=by
   cases st with
  |nil=>rcases B with rfl|rfl|rfl|rfl<;>cases d
  |cons k r=>
   have u:(if k=2 then Z4 2 r sl else none)=some (st',sl'):=by rcases B with rfl|rfl|rfl|rfl<;>exact d
   simp_all
  obtain⟨r,rfl,O⟩:=key;obtain⟨y,rs,q,f,g,o⟩:=h.pop;obtain⟨l,rfl⟩:=La f;have e:XG ser t c (op,arg) m=⟨.inl (.inr<|SA (op-5) (c.jv.getD arg []) l)::rs,m.jx⟩:=by
   rcases B with rfl|rfl|rfl|rfl<;>(simp only[XG,q];rfl)
  rw[e];exact YV.push o C (qC<|DR (v:=.inr l) g) O
theorem VB.calm{c:Yb}{L:List Ah}(h:VB c L){s:Nat}(d:s<=c.jz.length)(a:(L.getD s Ys).kj=true):(L.getD s Ys).kw=false:=by
 by_cases e:s=c.jz.length
 .rw[e];exact h.last.1
 .exact(h.step s X a).1
theorem VB.next{c:Yb}{L:List Ah}{ser:List YY}(h:VB c L)(hd:Sw ser)(t:Int){i:Nat}{m:MQ}(k:i<c.jz.length)(e:(c.jz.getD i (0,0)).1<=13)(p:(L.getD i Ys).kj=true)(q:YV ser.length (L.getD i Ys).jy (L.getD i Ys).jx m):
 i<UH i (c.jz.getD i (0,0)) m/\UH i (c.jz.getD i (0,0)) m<=c.jz.length/\(L.getD (UH i (c.jz.getD i (0,0)) m) Ys).kj=true/\YV ser.length (L.getD (UH i (c.jz.getD i (0,0)) m) Ys).jy (L.getD (UH i (c.jz.getD i (0,0)) m) Ys).jx (XG ser t c (c.jz.getD i (0,0)) m):=by
 obtain⟨_,st,sl,r,l,u⟩:=h.step i k p;have f:=h.fwd i k;generalize c.jz.getD i (0,0)=x at*;obtain⟨op,arg⟩:=x;simp only at e l u;have n:=q.step hd t e f r;have fin:∀s,s<=c.jz.length->Y8 _ _ _->(L.getD s _).kj=true/\YV _ _ _ _:=λs o g=>⟨g.kj,n.met g<|h.calm o g.kj⟩;unfold UH;simp only;by_cases d:op=9
 .rw[Ye d];have j:TC op=true:=by rw[d];rfl
  have v:=Jd f j;simp_all
 .rw[Yd d];by_cases a:op=10/\Mc m=true
  .rw[Ye a];have j:TC op=true:=by rw[a.1];rfl
   have v:=Jd f j;simp_all
  .rw[Yd a];exact⟨X,X,fin _ X<|l d⟩
theorem VB.end_{c:Yb}{L:List Ah}{n:Nat}(h:VB c L){m:MQ}(d:YV n (L.getD c.jz.length Ys).jy (L.getD c.jz.length Ys).jx m):∃v,m.jy=[.inl v]/\WG n v:=by
 have key:∀k,(L.getD c.jz.length Ys).jy=[k]->k=1\/k=2->∃v,m.jy=[.inl v]/\WG n v:=λk f e=>by
  rw[f]at d;obtain⟨y,rs,g,i,j,l⟩:=d.pop;have o:rs=[]:=by
   have:=l.jy;cases rs with
   |nil=>rfl
   |cons a b=>cases this
  subst o;obtain⟨v,rfl⟩:=Po (y:=y)<|by rw[i];rcases e with rfl|rfl<;>rfl
  exact⟨v,g,j⟩
 rcases h.last.2 with p|p
 .simp_all
 simp_all
theorem VB.start{c:Yb}{L:List Ah}(h:VB c L)(n:Nat):(L.getD 0 Ys).kj=true/\YV n (L.getD 0 Ys).jy (L.getD 0 Ys).jx UW:=by
 rw[h.first];exact⟨C,yY n⟩
end Go.Proofs.YtmfnolgpaoldpaaGreatDoor.LS
namespace Go.Proofs.YtmfnolgpaoldpaaGreatDoor
open Go.RowKit LS Go.Proofs.Tryz
open Go renaming World->Y,Value->F
open Go.RowKit renaming Hid->U
theorem CZ{ns ms:List<|LB}(h:∀z,z∈ns↔z∈ms)(l:List Xc):Zp l ns=Zp l ms:=by
 unfold Zp;simp_all
theorem DF{ns ms:List<|LB}(h:∀z,z∈ns↔z∈ms)(op:Nat)(all:List El):∀(l pre:List El),Vx op ns all pre l=Vx op ms all pre l
 |[],_=>C
 |e::l,pre=>by
  rw[Vx,Vx,DF h _ _ l _];have a:(λf:El=>Zp _ _)=λf=>Zp f.1 _:=funext λf=>CZ h _;simp only[CZ h]
theorem qB{ns ms:List<|LB}(h:∀z,z∈ns↔z∈ms)(op:Nat)(l:List El):SA op ns l=SA op ms l:=by unfold SA;rw[DF h]
end Go.Proofs.YtmfnolgpaoldpaaGreatDoor
namespace Go.Proofs.YtmfnolgpaoldpaaGreatDoor.LS
open Go Go.RowKit
theorem kU{l:LB}{t:Tr}(h:Z5 l=.ok t):V1 t/\isNil t=false/\wT t<=100000:=by
 unfold Z5 at h;by_cases c:300<l.length
 .simp_all
 .rw[Yd c]at h;have f:=Lb l (l.length+1) 0<|Yr _;have g:=KL l X (l.length+1) 0;cases a:Zh (10*(Z7 l (l.length+1) 0).length+5) false 0 .nil (Z7 l (l.length+1) 0) 0 with
  |error e=>simp_all
  |ok z=>
   obtain⟨t',r⟩:=z;rw[a]at h;have i:=NB _ _ _ _ _ _ _ (λe=>by cases e) a;simp only at h;by_cases d:(hd r).jj=0
   .rw[Ye d]at h;by_cases j:Zq t'=0
    .simp_all
    simp_all;omega
   simp_all
structure T7 (c:Yb):Prop where
 cs:∀x∈c.jq,YC x
 ps:∀x∈c.jw,x.2<=1000/\x.1.kq.length<=100000
 gs:∀x∈c.jv,x.length<=70000
theorem ZfN{α:Type}{one:Nat->X9 α}{p:Nat}:∀{k:Nat}{xs:List α}{q:Nat},Yo one p k=.ok (xs,q)->∀x∈xs,∃a b,one a=.ok (x,b)
 |0,xs,q,h,x,c=>by injection h with h;simp_all
 |k+1,xs,q,h,x,c=>by
  unfold Yo at h;cases d:Yo one p k with
  |error e=>simp_all
  |ok y=>
   rw[d]at h;simp only at h;cases f:one y.2 with
   |error e=>simp_all
   |ok z=>
    rw[f]at h;injection h with h;injection h with h1 h2;subst h1;rcases Wk.1 c with c|c
    .exact ZfN (d) x c
    .rw[Vr]at c;subst c;exact⟨_,_,f⟩
theorem uk{l:LB}{a b:Nat}{x:Int}(h:Vw l a=.ok (x,b)):YC x:=by
 unfold Vw at h;split at h
 .cases h
 .split at h
  .cases h
  constructor<;>simp_all
theorem gX{l:LB}{p q:Nat}{t:LB}(h:Vz l p=.ok (t,q)):t.length<=65535:=by
 unfold Vz at h;split at h
 .cases h
 .rename_i y a;have d:y.1<65536:=by
   unfold Z8 at a;split at a
   .cases a
   .rename_i z c;cases a;have:=(Mb c).2.1;exact PS (n:=2)<|by rw[this];unfold Y6;simp_all;omega
  have:=(Mb h).2.1;simp only at this;rw[this];unfold Y6;simp_all;omega
theorem Ew:∀l:List<|LB×LB×Bool,l.length<=cw l
 |[]=>Yj _
 |c::l=>by have:=Ew l;simp only[cw,Y1];omega
theorem AX{l:LB}{a:Nd}(h:Xg l=some a):a.kq.length<=100000:=by
 unfold Xg at h;split at h
 .rename_i x y b p q c;split at h
  .injection h with h;subst h;have d:=(kU c).2.2;have e:=Ew b.kq;simp only[wT,Xo]at d;omega
  .cases h
 .cases h
theorem mF{t:LB}{x:Nd×Nat}(h:ZL t=some x):x.2<=1000/\x.1.kq.length<=100000:=by
 unfold ZL at h;split at h
 .cases c:Xg t with
  |none=>simp_all
  |some a=>rw[c]at h;cases h;exact⟨Sm,AX c⟩
 .rename_i p _;split at h
  .split at h
   .rename_i n d;split at h
    .cases h
    .cases c:Xg (t.take p)with
     |none=>simp_all
     |some a=>rw[c]at h;cases h;exact⟨Mw d,AX c⟩
   .cases h
  .cases h
theorem qE{t:LB}{x:List<|LB}(h:VW t=some x)(a:t.length<=65535):x.length<=70000:=by
 unfold VW at h;split at h
 .simp_all
 .split at h
  .cases h;have:=Qe 44 t;omega
  .cases h
theorem uI{l:LB}{c:Yb}(h:Wt l=.ok c):T7 c:=by
 unfold Wt at h;split at h
 .cases h
 .split at h
  .cases h
  .rename_i cs g;split at h
   .cases h
   .rename_i ps i;split at h
    .cases h
    .rename_i gs j;split at h
     .cases h
     .split at h
      .cases h
      .split at h
       .cases h
       .split at h
        .cases h
        .cases h;refine⟨λx e=>?_,λx e=>?_,λx e=>?_⟩
         .obtain⟨a,b,d⟩:=ZfN (xs:=cs.1) (q:=cs.2) g x e;exact uk d
         .obtain⟨a,b,d⟩:=ZfN (xs:=ps.1) (q:=ps.2) i x e;unfold pickAt at d;split at d
          .cases d
          .split at d
           .cases d
           .rename_i y f;injection d with d;injection d with h2 h3;subst h2;exact mF f
         .obtain⟨a,b,d⟩:=ZfN (xs:=gs.1) (q:=gs.2) j x e;unfold groupAt at d;split at d
          .cases d
          .rename_i z k;split at d
           .cases d
           .rename_i y f;injection d with d;injection d with h2 h3;subst h2;exact qE f<|gX k
theorem ND{k:Nat}{st sl:List Nat}{x:List Nat×List Nat}(h:Z4 k st sl=some x)(a:st.length<=64):x.1.length<=64:=by
 unfold Z4 at h;split at h
 .cases h
 .cases h;simp_all;omega
theorem fw{c:Yb}{x:Nat×Nat}{st sl:List Nat}{y:List Nat×List Nat}(h:Zr c x st sl=some y)(a:st.length<=64):y.1.length<=64:=by
 unfold Zr at h;split at h
 .exact ND h a
 .exact ND h a
 .split at h
  .split at h
   .exact ND h<|by simp_all;omega
   .cases h
  .cases h
 .split at h
  .split at h
   .exact ND h<|by simp_all;omega
   .cases h
  .cases h
 .split at h
  .split at h
   .exact ND h<|by simp_all;omega
   .cases h
  .cases h
 .cases h;exact a
 .split at h
  .cases h;simp_all;omega
  .cases h
 .split at h
  .cases h;simp_all;omega
  .cases h
 .split at h
  .cases h
  .exact ND h a
 .split at h
  .split at h
   .exact ND h<|by simp_all;omega
   .cases h
  .cases h
theorem VB.len{c:Yb}{L:List Ah}{ser:List YY}(h:VB c L)(hd:Sw ser)(t:Int){i:Nat}{m:MQ}(d:i<c.jz.length)(e:(c.jz.getD i (0,0)).1<=13)(j:(L.getD i Ys).kj=true)(f:YV ser.length (L.getD i Ys).jy (L.getD i Ys).jx m)(o:m.jy.length<=64):
 (XG ser t c (c.jz.getD i (0,0)) m).jy.length<=64:=by
 obtain⟨_,st,sl,g,_,_⟩:=h.step i d j;have k:=h.fwd i d;generalize c.jz.getD i (0,0)=x at*;obtain⟨op,arg⟩:=x;have l:=(f.step hd t e k g).jy;have n:(L.getD i Ys).jy.length<=64:=by rwa [<-f.jy,Yz]
 have a:=fw g n;simp only at a;rw[<-l,Yz]at a;exact a
def VK(st:List YY)(c:Yb):Nat->List Int->Option (List (LB)×Nat)
 |f,[]=>some ([],f)
 |f,t::ts=>match Xf st t c f 0 UW with
  |none=>none
  |some x=>match VK st c x.1 ts with
   |none=>none
   |some y=>some (U8 t (TJ x.2)::y.1,y.2)
theorem Ji{st:List YY}(c:Yb)(t:Int):∀(ts:List Int)(f:Nat),VK st c f (ts++[t])=match VK st c f ts with
  |none=>none
  |some y=>match Xf st t c y.2 0 UW with
   |none=>none
   |some x=>some (y.1++[U8 t<|TJ x.2],x.1)
 |[],f=>by
  rfl
 |u::ts,f=>by
  simp only[Ok,VK];cases Xf st u c f 0 UW with
  |none=>rfl
  |some x=>
   simp only;rw[Ji c t _ _];cases VK st c x.1 ts with
   |none=>rfl
   |some y=>
    simp only;cases Xf st t c y.2 0 UW<;>rfl
theorem zo{st:List YY}(c:Yb){f:Nat}:∀(us ts:List Int),VK st c f ts=none->VK st c f (ts++us)=none
 |[],ts,h=>by simp_all
 |u::us,ts,h=>by
  have a:VK st c f (ts++[u])=none:=by rw[Ji,h]
  have:=zo c us _ a;simp_all
theorem zp{st:List YY}{c:Yb}{f k:Nat}{ts:List Int}(h:VK st c f (ts.take k)=none):VK st c f ts=none:=by
 have:=zo c (ts.drop k) _ h;simp_all
theorem BI{st:List YY}{t:Int}{c:Yb}{f i:Nat}{m:MQ}(h:c.jz.length<=i):Xf st t c f i m=some (f,m):=by
 unfold Xf;simp_all
theorem BK{st:List YY}{t:Int}{c:Yb}{i:Nat}{m:MQ}(h:i<c.jz.length):Xf st t c 0 i m=none:=by
 unfold Xf;simp_all
theorem BJ(st:List YY)(t:Int)(c:Yb)(f i:Nat)(m:MQ)(h:i<c.jz.length):Xf st t c (f+1) i m=Xf st t c f (UH i (c.jz.getD i (0,0)) m) (XG st t c (c.jz.getD i (0,0)) m):=by
 conv=>lhs;unfold Xf
 simp_all;omega
theorem MB{k:Nat}{st sl:List Nat}{x:List Nat×List Nat}(h:Z4 k st sl=some x):st.length≠64:=by
 unfold Z4 at h;simp_all
theorem M2{α:Type}{l:List α}{i:Nat}{d:α}(h:i<l.length):l.getD i d∈l:=by
 simp_all
theorem WG.more{n k:Nat}(a:n<=k):∀{V:VV},WG n V->WG k V
 |.inl _,_=>trivial
 |.inr _,h=>⟨h.1,Xb h.2 a⟩
end Go.Proofs.YtmfnolgpaoldpaaGreatDoor.LS
namespace Go.Proofs.YtmfnolgpaoldpaaGreatDoor
open Go.RowKit LS Go.Proofs.Tryz
open Go renaming World->Y,Value->F
open Go.RowKit renaming Hid->U
theorem kF{w:Y}{base:Nat}{e:TypeId}{g n cap:Nat}{xs:List F}(h:w.ownsRow base e 1 (.slice (some ⟨g,0,none⟩) n cap) n xs)(i:Nat)(u:F):(w.setCell ⟨g,i,none⟩ u).ownsRow base e 1 (.slice (some ⟨g,0,none⟩) n cap) n<|xs.set i u:=by
 obtain⟨m,h⟩:=h;refine⟨by rwa [Qv],?_⟩;rcases h with⟨h,_⟩|⟨g',cap',cur,c,d,f,j,k,l,a⟩
 .cases h
 .injection c with h1 _ h3;injection h1 with h1;injection h1 with h1;subst h1 h3;refine .inr ⟨g,cap,cur.setIfInBounds i u,C,d,?_,j,k,by simpa using l,?_⟩
  .simp[World.setCell,V4,f]
  .rw[Nat.mul_one]at a⊢;rw[<-a,Array.toList_setIfInBounds,List.take_set]
theorem iD{c:Nat}(k:Nat){f:Nat->F}{z:F}(a:k<c):((List.range k).map f++List.replicate (c-k) z).set k (f k)=(List.range<|k+1).map f++List.replicate (c-(k+1)) z:=by
 have e:c-k=(c-(k+1))+1:=X;rw[e,List.replicate_succ,Ve _ _<|Sm,List.range_succ,Xa,Vd];simp
theorem Tryz.infoInt3:(Tryz.prog.info? 3).map (λi=>(i.zero,i.size,i.bytes))=some (some<|E 0,1,8):=Kr
theorem Nv {t:Int}{w:Y}:CP 45 #[E t] w λe u=>e=.returned (.bool<|decide (-1000000<=t)&&decide (t<=1000000))/\u=w:=by
 by_cases a:-1000000<=t
 · by_cases c:t<=1000000
   .rw[show(decide _&&decide _)=true by simp;omega];go_enter func45,ntmps45;go_wp2;go_ret;exact⟨C,C⟩
   .rw[show(decide _&&decide _)=false by simp;omega];go_enter func45,ntmps45;go_wp2;go_ret;exact⟨C,C⟩
 .rw[show(decide _&&decide _)=false by simp;omega];go_enter func45,ntmps45;go_wp2;go_ret;exact⟨C,C⟩
end Go.Proofs.YtmfnolgpaoldpaaGreatDoor

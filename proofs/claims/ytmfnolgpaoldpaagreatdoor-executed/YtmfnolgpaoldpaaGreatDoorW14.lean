/- Parts. -/
import Derived.Test.YtmfnolgpaoldpaaGreatDoorW13
set_option linter.all false
set_option maxRecDepth 100000
set_option maxHeartbeats 16000000
namespace Go.Proofs.YtmfnolgpaoldpaaGreatDoor
open Go.RowKit LS Go.Proofs.Tryz
variable {tm v:Int}{l t:LB}{cs:List Int}{c ns vs xs:List Value}{x y:List<|LB}{gs:List<|List<|LB}{ps:List<|Nd×Nat}{g:List<|Option Addr×Nat×Nat}{a base cb cc gc gn i mb n n1 n2 nb nc p pc pn q sc sn sz:Nat}{e:Nat×Nat}{ca ga pa sa:Option Addr}{al c0 c1 c2 c3 cv gr sl st:Value}{w w' w0 wr:World}
theorem Zdd(h:¬l.length<p+n):Z8 l p n=.ok (Yp<|Y6 l p n,p+n):=by
 unfold Z8 VJ;rw[Yd h]
theorem Cp(h:l.length<p+n):Z8 l p n=.error (9,l.length):=by
 unfold Z8 VJ;rw[Ye h]
theorem uo(h:l.length<p+4):Vx l p=.error (9,l.length):=by
 unfold Vx;rw[Cp h]
theorem E2(h:¬l.length<p+4)(a:v=TZ (Yp<|Y6 l p 4))(c:v< -1000000000∨1000000000<v):Vx l p=.error (9,p):=by
 unfold Vx;rw[Zdd h];simp only;rw[<-a,Ye c]
theorem uq(h:¬l.length<p+4)(a:v=TZ (Yp<|Y6 l p 4))(c:¬(v< -1000000000∨1000000000<v)):Vx l p=.ok (v,p+4):=by
 unfold Vx;rw[Zdd h];simp only;rw[<-a,Yd c]
theorem fh(h:l.length<p+2):VA l p=.error (9,l.length):=by
 unfold VA;rw[Cp h]
theorem fe(h:¬l.length<p+2)(a:n=Yp (Y6 l p 2))(c:l.length<p+2+n):VA l p=.error (9,l.length):=by
 unfold VA;rw[Zdd h];simp only;rw[<-a];unfold VJ;rw[Ye c]
theorem fi(h:¬l.length<p+2)(a:n=Yp (Y6 l p 2))(c:¬l.length<p+2+n):VA l p=.ok (Y6 l (p+2) n,p+2+n):=by
 unfold VA;rw[Zdd h];simp only;rw[<-a];unfold VJ;rw[Yd c]
theorem mX(h:VA l p=.error e):pickAt l p=.error e:=by unfold LS.pickAt;rw[h]
theorem qO(h:VA l p=.error e):groupAt l p=.error e:=by unfold LS.groupAt;rw[h]
theorem mQ(h:VA l p=.ok (t,q))(a:ZL t=none):pickAt l p=.error (9,p):=by unfold LS.pickAt;rw[h];simp only;rw[a]
theorem mV{x:Nd×Nat}(h:VA l p=.ok (t,q))(a:ZL t=some x):pickAt l p=.ok (x,q):=by unfold LS.pickAt;rw[h];simp only;rw[a]
theorem qK(h:VA l p=.ok (t,q))(a:VW t=none):groupAt l p=.error (9,p):=by unfold LS.groupAt;rw[h];simp only;rw[a]
theorem qM(h:VA l p=.ok (t,q))(a:VW t=some x):groupAt l p=.ok (x,q):=by unfold LS.groupAt;rw[h];simp only;rw[a]
def Th(l:LB)(n1 p:Nat)(i:Nat):Except (Nat×Nat)<|List (Nd×Nat)×List (List<|LB)×Nat:=match Yo (LS.pickAt l) p (min i n1)with
 |.error e=>.error e
 |.ok ps=>match Yo (groupAt l) ps.2<|i-n1 with
  |.error e=>.error e
  |.ok gs=>.ok (ps.1,gs.1,gs.2)
theorem oq(l:LB)(n1 p:Nat):Th l n1 p 0=.ok ([],[],p):=by
 unfold Th;rw[Nat.zero_min,Nat.zero_sub];rfl
theorem oo{r:Nat}{y:Nd×Nat}(d:i<n1)(h:Th l n1 p i=.ok (ps,gs,q))(c:LS.pickAt l q=.ok (y,r)):Th l n1 p (i+1)=.ok (ps++[y],gs,r):=by
 unfold Th at h⊢;rw[QT X,Ei X]at h⊢;cases a:Yo (LS.pickAt l) p i with
 |error e=>rw[a]at h;cases h
 |ok x=>
  rw[a]at h;simp only[Yo]at h;injection h with h;injection h with h1 h2;injection h2 with h2 h3;obtain⟨xs,q'⟩:=x;simp only at h1 h2 h3;subst h1 h2 h3;rw[OE a c];rfl
theorem CW(c:i<n1)(h:Th l n1 p i=.ok (ps,gs,q))(d:LS.pickAt l q=.error e):Th l n1 p (n1+n2)=.error e:=by
 unfold Th at h⊢;rw[QT X,Ei X]at h;rw[Kt X];cases a:Yo (LS.pickAt l) p i with
 |error e=>rw[a]at h;cases h
 |ok x=>
  rw[a]at h;simp only[Yo]at h;injection h with h;injection h with h1 h2;injection h2 with h2 h3;obtain⟨xs,q'⟩:=x;simp only at h1 h2 h3;subst h1 h2 h3;rw[Rr a d _ c]
theorem oh{r:Nat}(f:¬i<n1)(h:Th l n1 p i=.ok (ps,gs,q))(d:groupAt l q=.ok (y,r)):Th l n1 p (i+1)=.ok (ps,gs++[y],r):=by
 unfold Th at h⊢;rw[Kt X]at h⊢;rw[show i+1-n1=i-n1+1 by omega];cases c:Yo (LS.pickAt l) p n1 with
 |error e=>rw[c]at h;cases h
 |ok x=>
  rw[c]at h;simp only at h⊢;cases a:Yo (groupAt l) x.2 (i-n1)with
  |error e=>rw[a]at h;cases h
  |ok z=>
   rw[a]at h;simp only at h;injection h with h;injection h with h1 h2;injection h2 with h2 h3;obtain⟨zs,q'⟩:=z;simp only at h1 h2 h3;subst h1 h2 h3;rw[OE a d]
theorem CU(g:¬i<n1)(f:i<n1+n2)(h:Th l n1 p i=.ok (ps,gs,q))(d:groupAt l q=.error e):Th l n1 p (n1+n2)=.error e:=by
 unfold Th at h⊢;rw[Kt X]at h⊢;rw[show n1+n2-n1=n2 by omega];cases c:Yo (LS.pickAt l) p n1 with
 |error e=>rw[c]at h;cases h
 |ok x=>
  rw[c]at h;simp only at h⊢;cases a:Yo (groupAt l) x.2 (i-n1)with
  |error e=>rw[a]at h;cases h
  |ok z=>
   rw[a]at h;simp only at h;injection h with h;injection h with h1 h2;injection h2 with h2 h3;obtain⟨zs,q'⟩:=z;simp only at h1 h2 h3;subst h1 h2 h3;rw[Rr a d _ X]
theorem uO{n0 n3:Nat}(a:US l=.ok (n0,n1,n2,n3))(c:Yo (Vx l) 9 n0=.ok (cs,p)):
 Wt l=match Th l n1 p (n1+n2)with
  |.error e=>.error e
  |.ok x=>OL l cs x.1 x.2.1 x.2.2 n3:=by
 unfold Wt Th OL;rw[a];simp only;rw[c,Kt X,show n1+n2-n1=n2 by omega];simp only;cases Yo (LS.pickAt l) p n1 with
 |error e=>rfl
 |ok ps=>
  simp only;cases Yo (groupAt l) ps.2 n2 with
  |error e=>rfl
  |ok gs=>rfl
theorem uN{n0 n3:Nat}(a:US l=.ok (n0,n1,n2,n3))(c:Yo (Vx l) 9 n0=.error e):Wt l=.error e:=by
 unfold Wt;rw[a];simp only;rw[c]
theorem Hl(a:US l=.error e):Wt l=.error e:=by unfold Wt;rw[a]
theorem LX(a:n=Yp (Y6 l p 2)):n<=65535:=by
 have:=PS (l:=Y6 l p 2) (n:=2)<|by unfold Y6;rw[Xw];omega
 rw[<-a]at this;omega
theorem Tryz.infoI64R:(Tryz.prog.info? 2).map (λi=>(i.zero,i.size,i.bytes))=some (some<|E 0,1,8):=Kr
theorem Tryz.infoPartR:(Tryz.prog.info? 59).map (λi=>(i.zero,i.size,i.bytes))=some (some<|.agg #[E 0,E 0,E 0,.string ⟨#[]⟩,S0,S0,E 0,E 0],8,104):=Kr
theorem Tryz.infoStrsR:(Tryz.prog.info? 57).map (λi=>(i.zero,i.size,i.bytes))=some (some S0,1,24):=Kr
structure V2 (w0 wr:World)(cb nb:Nat)(ns:List Value)(xs:List Int)(ca:Option Addr)(n cc:Nat):Prop where
 box:Ya wr cb [.slice ca n cc,S0,S0,S0] 69
 nbx:Ya wr nb ns 2
 own:wr.ownsRow (nb+1) 2 1 (.slice ca n cc) n<|xs.map<|.int .i64
 bel:BW w0 wr
 lo:w0.heap.size<=cb
 lo2:w0.heap.size<=nb
theorem V2.below{c:World}{xs:List Int}(h:V2 w0 wr cb nb ns xs ca n cc)(a:BW wr c):V2 w0 c cb nb ns xs ca n cc:=
 ⟨h.box.below a,h.nbx.below a,Ze h.own a,h.bel.trans<|a.mono h.bel.size,h.lo,h.lo2⟩
theorem vJ{v:Value}{e:TypeId}(h:BW w0 w)(f:w0.heap.size<=base)(d:w.ownsRow base e sz v n xs)(a:w.grownBy w' v.ownBlock):BW w0 w':=by
 refine⟨a.os.trans h.os,a.tape.trans h.tape,a.output.trans h.output,Xb h.size a.size,?_⟩;intro j c;rw[a.block j (WH c h.size) λe=>by have:=(d.lt j e.symm).1;omega,h.block j c]
theorem V2.app{c:World}{xs:List Int}(h:V2 w0 wr cb nb ns xs ca n cc){ga:Nat}
 (f:wr.grownBy c (Value.slice ca n cc).ownBlock)(i:c.ownsRow (nb+1) 2 1 (.slice (some ⟨ga,0,none⟩) (n+1) nc) (n+1)<|xs.map (.int .i64)++[E v]):
 Ya c cb [.slice ca n cc,S0,S0,S0] 69/\V2 w0 (c.setCell ⟨cb,0,none⟩<|.slice (some ⟨ga,0,none⟩) (n+1) nc) cb nb ns (xs++[v]) (some ⟨ga,0,none⟩) (n+1) nc:=by
 have a:=h.box.ownGrownR h.own f N;have d:=h.nbx.grown f λe=>by have:=(h.own.lt _ e.symm).1;omega
 have j:nb≠cb:=λe=>by
  have l:=d;rw[e]at l;have g:=l.symm.trans a;injection g with g;injection g with _ h3;exact absurd h3 N
 refine⟨a,a.setkM 0 _,d.other j _,?_,M2 (vJ h.bel (Nat.le_succ_of_le h.lo2) h.own f) h.lo _,h.lo,h.lo2⟩;rw[Y9];exact ZJ i λk m=>Go.Deep.blk_setCell_other _ _ _ _<|by
  rintro rfl;exact ZD i a N m.symm
structure WR (w0 wr:World)(cb nb:Nat)(ns:List Value)(cs:List Int)(ps:List<|Nd×Nat)(gs:List<|List<|LB)(cv:Value)(pa:Option Addr)(pn pc:Nat)(ga:Option Addr)(gn gc:Nat)(l:List PV)(g:List<|Option Addr×Nat×Nat):Prop where
 base:WD wr ⟨cs,ps,gs,[]⟩ cv (.slice pa pn pc) (.slice ga gn gc) l g
 pown:wr.ownsRow w0.heap.size 59 8 (.slice pa pn pc) pn<|TF l
 gown:wr.ownsRow w0.heap.size 57 1 (.slice ga gn gc) gn<|g.map λy=>.slice y.1 y.2.1 y.2.2
 box:Ya wr cb [cv,.slice pa pn pc,.slice ga gn gc,S0] 69
 nbx:Ya wr nb ns 2
 bel:BW w0 wr
 lo:w0.heap.size<=cb
 lp:ps.length=pn
 lg:gs.length=gn
theorem WD.below{c:Yb}{pv gv:Value}{l:List PV}(h:WD w c cv pv gv l g)(a:BW w w'):WD w' c cv pv gv l g:=h.keep<|XX.below _ a
theorem WR.below{c:World}{l:List PV}(h:WR w0 wr cb nb ns cs ps gs cv pa pn pc ga gn gc l g)(a:BW wr c):WR w0 c cb nb ns cs ps gs cv pa pn pc ga gn gc l g:=
 ⟨h.base.below a,Ze h.pown a,Ze h.gown a,h.box.below a,h.nbx.below a,h.bel.trans<|a.mono h.bel.size,h.lo,h.lp,h.lg⟩
theorem xU(l m:List PV):TF (l++m)=TF l++TF m:=by
 induction l with
 |nil=>rfl
 |cons a l ih=>show a.cells++TF (l++m)=a.cells++TF l++TF m;rw[ih,WV]
theorem Et {b:Nat}{d:List Value}{t u:TypeId}(h:Ya w a c t)(g:Ya w b d u)(i:t≠u):a≠b:=λe=>by
 rw[e]at h;have f:=h.symm.trans g;injection f with f;injection f with _ h3;exact i h3
theorem N8{α:Type}{l:List α}{x y:α}(h:(l++[x])[i]?=some y):l[i]?=some y∨(i=l.length/\y=x):=by
 by_cases a:i<l.length
 .rw[QQ a]at h;exact .inl h
 .rw[SJ X]at h;have:i-l.length=0:=by
   cases c:i-l.length with
  |zero=>rfl
  |succ k=>rw[c]at h;simp at h
  rw[this]at h;simp at h;exact .inr ⟨X,h.symm⟩
theorem WR.appP{d:World}{l:List PV}(h:WR w0 wr cb nb ns cs ps gs cv pa pn pc ga gn gc l g){x:Nd×Nat}{p:PV}{na:Nat}
 (t:Vq wr x p)(j:wr.grownBy d (Value.slice pa pn pc).ownBlock)(o:d.ownsRow w0.heap.size 59 8 (.slice (some ⟨na,0,none⟩) (pn+1) nc) (pn+1)<|TF l++p.cells):
 Ya d cb [cv,.slice pa pn pc,.slice ga gn gc,S0] 69/\WR w0 (d.setCell ⟨cb,1,none⟩<|.slice (some ⟨na,0,none⟩) (pn+1) nc) cb nb ns cs (ps++[x]) gs cv (some ⟨na,0,none⟩) (pn+1) nc ga gn gc (l++[p]) g:=by
 have a:=h.box.ownGrownR h.pown j N;have m:=h.nbx.ownGrownR h.pown j N;have r:XX [59,69] _ _:=XX.grown h.pown j N;have s:XX [59,69] _<|d.setCell ⟨cb,1,none⟩<|.slice (some ⟨na,0,none⟩) (pn+1) nc:=XX.set a N _ _;have e:=r.trans s;have n:(d.setCell ⟨cb,1,none⟩<|.slice (some ⟨na,0,none⟩) (pn+1) nc).ownsRow w0.heap.size 59 8 (.slice (some ⟨na,0,none⟩) (pn+1) nc) (pn+1)<|TF<|l++[p]:=by
  rw[xU,show TF [p]=p.cells from V6 _];exact ZJ o λk u=>Go.Deep.blk_setCell_other _ _ _ _<|by
   rintro rfl;exact ZD o a N u.symm
 refine⟨a,⟨?_,n,e _ _ _ _ _ _ h.gown N,a.setkM 1 _,m.other (Et m a N) _,M2 (FY h.bel h.pown j) h.lo _,h.lo,by rw[Yv,h.lp];rfl,h.lg⟩⟩;refine⟨e _ _ _ _ _ _ h.base.cs N,?_,by simp[h.base.pl],λi y q f c=>?_,e _ _ _ _ _ _ h.base.gs N,h.base.gl,λi y z f c=>?_⟩
 .show(d.setCell _ _).ownsRow 0 _ 8 _ (ps++[x]).length _;rw[Yv,h.lp];exact U6 n
 .have A:l.length=ps.length:=h.base.pl;rcases N8 f with f|⟨e1,rfl⟩
  .rcases N8 c with c|⟨e2,rfl⟩
   .exact(h.base.pk i y q f c).keep e N
   .have:=(RX.1 f).1;omega
  .rcases N8 c with c|⟨e2,rfl⟩
   .have:=(RX.1 c).1;omega
   .exact t.keep e N
 .obtain⟨bs,v,w⟩:=h.base.gk i y z f c;exact⟨bs,e _ _ _ _ _ _ v N,w⟩
theorem WR.appG{f:World}{l:List PV}(h:WR w0 wr cb nb ns cs ps gs cv pa pn pc ga gn gc l g){a:Option Addr}{m c na:Nat}
 (A:∃bs:List BA,wr.ownsRow 0 9 1 (.slice a m c) bs.length (bs.map .string)/\bs.map bl=x)(o:wr.grownBy f (Value.slice ga gn gc).ownBlock)(u:f.ownsRow w0.heap.size 57 1 (.slice (some ⟨na,0,none⟩) (gn+1) nc) (gn+1)<|(g.map λy=>.slice y.1 y.2.1 y.2.2)++[.slice a m c]):
 Ya f cb [cv,.slice pa pn pc,.slice ga gn gc,S0] 69/\WR w0 (f.setCell ⟨cb,2,none⟩<|.slice (some ⟨na,0,none⟩) (gn+1) nc) cb nb ns cs ps (gs++[x]) cv pa pn pc (some ⟨na,0,none⟩) (gn+1) nc l (g++[(a,m,c)]):=by
 have d:=h.box.ownGrownR h.gown o N;have p:=h.nbx.ownGrownR h.gown o N;have v:XX [57,69] _ _:=XX.grown h.gown o N;have w:XX [57,69] _<|f.setCell ⟨cb,2,none⟩<|.slice (some ⟨na,0,none⟩) (gn+1) nc:=XX.set d N _ _;have j:=v.trans w;have r:(f.setCell ⟨cb,2,none⟩<|.slice (some ⟨na,0,none⟩) (gn+1) nc).ownsRow w0.heap.size 57 1 (.slice (some ⟨na,0,none⟩) (gn+1) nc) (gn+1)<|(g++[(a,m,c)]).map λy=>.slice y.1 y.2.1 y.2.2:=by
  rw[Y9];exact ZJ u λk B=>Go.Deep.blk_setCell_other _ _ _ _<|by
   rintro rfl;exact ZD u d N B.symm
 refine⟨d,⟨?_,j _ _ _ _ _ _ h.pown N,r,d.setkM 2 _,p.other (Et p d N) _,M2 (FY h.bel h.gown o) h.lo _,h.lo,h.lp,by rw[Yv,h.lg];rfl⟩⟩;refine⟨j _ _ _ _ _ _ h.base.cs N,j _ _ _ _ _ _ h.base.ps N,h.base.pl,λi y q n e=>(h.base.pk i y q n e).keep j N,?_,by simp[h.base.gl],λi y z n e=>?_⟩
 .show(f.setCell _ _).ownsRow 0 _ 1 _ (gs++[x]).length _;rw[Yv,h.lg];exact U6 r
 .have D:g.length=gs.length:=h.base.gl;rcases N8 n with n|⟨e1,rfl⟩
  .rcases N8 e with e|⟨e2,rfl⟩
   .obtain⟨bs,s,t⟩:=h.base.gk i y z n e;exact⟨bs,j _ _ _ _ _ _ s N,t⟩
   .have:=(RX.1 n).1;omega
  .rcases N8 e with e|⟨e2,rfl⟩
   .have:=(RX.1 e).1;omega
   .obtain⟨bs,s,t⟩:=A;exact⟨bs,j _ _ _ _ _ _ s N,t⟩
theorem V2.toB{xs:List Int}(h:V2 w0 wr cb nb ns xs ca n cc)(c:xs.length=n):WR w0 wr cb nb ns xs [] [] (.slice ca n cc) none 0 0 none 0 0 [] []:=
 ⟨⟨by rw[c];exact U6 h.own,Xm _ _ _ _,C,(λ_ _ _ a=>by simp at a),Xm _ _ _ _,C,λ_ _ _ a=>by simp at a⟩,Xm _ _ _ _,Xm _ _ _ _,h.box,h.nbx,h.bel,h.lo,C,C⟩
theorem WR.toR{l:List PV}(h:WR w0 wr cb nb ns cs ps gs cv pa pn pc ga gn gc l g):WE w0 wr cb cs ps gs [] cv (.slice pa pn pc) (.slice ga gn gc) none 0 0 l g:=
 ⟨h.base,h.box,Xm _ _ _ _,h.bel,λ_ a=>(by cases a)⟩
theorem uL(s:BA)(w:World)(hs:s.size<=maxLen):
 CP 28 #[.string s] w λe S=>∃(v:Value)(c p:Nat),e=.returned (.tuple #[v,E c,E p])/\Hid (Uf S (Wt<|bl s) v c p)/\BW w S:=by
 have m8:s.size<=9223372036854775807:=by unfold maxLen at hs;omega
 have j8:=I hs;clear hs;obtain⟨i0,hi,j9,k0,k1⟩:=Xv Tryz.infoI64R;obtain⟨j0,hj,k2,k3,k4⟩:=Xv Tryz.infoPartR;obtain⟨m0,hm,k5,k6,k7⟩:=Xv Tryz.infoStrsR;by_cases h1:s.size<1
 .have r:Hid<|Wt (bl s)=.error _:=I<|Hl<|by
   unfold US;rw[Ye];have:bl s=[]:=Og.1<|by rw[Zb];omega
   rw[this];simp
  go_enter func28,ntmps28;go_wp2;go_ret3;exact⟨_,9,0,C,I<|Uf.ku r N,Yh⟩
 .have h0:0<s.size:=X;have a0:(bl s).head?=some s[0]:=by
   rw[Kh,List.getElem?_eq_getElem<|by rwa [Zb],SP s 0 _]
  by_cases D:s[0]=103
  .have d103:((s[0].toNat:Int) !=103)=false:=by rw[D];rfl
   by_cases h9:s.size<9
   .have r:=I<|Hl<|by
     unfold US;rw[Yd<|by rw[a0,D];simp,Ye<|by rwa [Zb],Zb]
    clear a0 D;go_enter func28,ntmps28;go_wp2;go_ret3;exact⟨_,9,s.size,C,I<|Uf.ku r N,Yh⟩
   .obtain⟨n0,a8⟩:∃n0,n0=Yp (Y6 (bl s) 1 2):=⟨_,C⟩;obtain⟨n1,a9⟩:∃n1,n1=Yp (Y6 (bl s) 3 2):=⟨_,C⟩;obtain⟨n2,b4⟩:∃n2,n2=Yp (Y6 (bl s) 5 2):=⟨_,C⟩;obtain⟨n3,b5⟩:∃n3,n3=Yp (Y6 (bl s) 7 2):=⟨_,C⟩;have HH:Hid<|US _=.ok (n0,n1,n2,n3):=I<|by
     unfold US;rw[Yd<|by rw[a0,D];simp,Yd<|by rwa [Zb],a8,a9,b4,b5]
    have b0:=LX a8;have b1:=LX a9;have b2:=LX b4;have b3:=LX b5;have HN:=I<|And.intro a8<|And.intro a9<|And.intro b4 b5;clear a0 D a8 a9 b4 b5;have e0:bl (s.extract 1 3)=Y6 _ 1 2:=Zex s 1 2;have e1:bl (s.extract 3 5)=Y6 _ 3 2:=Zex s 3 2;have e2:bl (s.extract 5 7)=Y6 _ 5 2:=Zex s 5 2;have e3:bl (s.extract 7 9)=Y6 _ 7 2:=Zex s 7 2;have b6:=I<|And.intro e0<|And.intro e1<|And.intro e2 e3;clear e0 e1 e2 e3;go_enter func28,ntmps28;go_upto_region 6 with fail;refine Zs λW hW=>?_;have Q:Below _ w W:=hW▸Yc;have e7:Hid<|Ya W _ [.slice _ 0 0,.slice _ 0 0,.slice _ 0 0,.slice _ 0 0] 69:=hW▸(show Ya _ _ _ _ from Go.Deep.blk_alloc_new w _);have b7:=I Q;have k8:w.heap.size<=w.heap.size:=Yj _;obtain⟨cb,e8⟩:∃cb,cb=w.heap.size:=⟨_,C⟩;rw[<-e8]at e7⊢;have g6:Hid<|w.heap.size<=cb:=I X;clear hW Q k8 e8 d103;have g7:Hid<|∀o,o=Obj.cells #[E n0,E n1,E n2,E n3] 2->V2 w _ _ W.heap.size _ [] _ 0 0:=I λo ho=>by
     subst ho;have b8:BW W<|W.drew.alloc<|Obj.cells #[E n0,E n1,E n2,E n3] 2:=((Ym _ _).drew).alloc (Yj _) _;exact⟨e7.below b8,(Go.Deep.blk_alloc_new _ _),Xm _ _ _ _,b7.trans<|b8.mono b7.size,g6,b7.size⟩
    have i3:(3:Int)<=(s.size):=X;have i5:(5:Int)<=(s.size):=X;have i7:(7:Int)<=(s.size):=X;have i9:(9:Int)<=(s.size):=X;refine ZW 13 (λ_=>True) Kr trivial λa=>?_;refine Za 0 a (h:=Za 1 a (h:=Za 3 a (h:=Za 4 a (h:=Za 6 a (h:=Za 7 a (h:=Za 9 a (h:=Za 10 a (h:=?_))))))));refine Zz (i:=2) Kr C λK f=>?_;go_simp;refine(NF<|by rw[V5];omega).mono ?_;rintro e w1 ⟨rfl,rfl⟩;rw[b6.1,<-HN.1];go_simp;refine f _ _ a λa=>?_;clear f K;try simp only[Act.put,Yt]
    refine Zz (i:=5) Kr C λK f=>?_;go_simp;refine(NF<|by rw[V5];omega).mono ?_;rintro e w1 ⟨rfl,rfl⟩;rw[b6.2.1,<-HN.2.1];go_simp;refine f _ _ a λa=>?_;clear f K;try simp only[Act.put,Yt]
    refine Zz (i:=8) Kr C λK f=>?_;go_simp;refine(NF<|by rw[V5];omega).mono ?_;rintro e w1 ⟨rfl,rfl⟩;rw[b6.2.2.1,<-HN.2.2.1];go_simp;refine f _ _ a λa=>?_;clear f K;try simp only[Act.put,Yt]
    refine Zz (i:=11) Kr C λK f=>?_;go_simp;refine(NF<|by rw[V5];omega).mono ?_;rintro e w1 ⟨rfl,rfl⟩;rw[b6.2.2.2,<-HN.2.2.2];go_simp;refine f _ _ a λa=>?_;clear f K;try simp only[Act.put,Yt]
    refine Zz (i:=12) Kr C λK f=>?_;go_simp;refine f _ _ trivial λa=>?_;clear f K;try simp only[Act.put,Yt]
    refine ZS Kr Kr C Kr λK f=>?_;go_simp;refine f _ _ ?_;clear f K a;go_upto_region 7 with fail;refine Zs λW2 g8=>?_;have g9:Hid<|V2 w W2 cb W.heap.size [E n0,E n1,E n2,E n3] [] none 0 0:=g8▸g7.out _ C;clear g8 g7 e7 b7;generalize W.heap.size=nb at*;have b9:Hid<|∀k x,Yo _ 9 k=.error x->k<=n0->Wt _=.error x:=I λk x he hk=>uN HH<|Fu he _ hk;go_wp2;go_loopw [7,8] (λav iv wr=>∃(k p:Nat)(xs:List Int)(ca:Option Addr)(cc:Nat),k<=n0/\iv=E k/\av=E p/\p<=s.size/\p<=9+4*k/\Hid (Yo (Vx<|bl s) 9 k=.ok (xs,p))/\Hid (V2 w wr cb nb [E n0,E n1,E n2,E n3] xs ca k cc)) (λ_ iv _=>n0-(intOf iv).toNat);case atStart=>exact⟨0,9,[],none,0,Yr _,C,C,X,X,I C,g9⟩
    case round=>
     clear g9;obtain⟨k,p,xs,ca,cc,hk,rfl,rfl,hp,c6,B,O⟩:=hrel;have m0:=O.nbx.cell 0;simp only[Qp]at m0;have R:=O.nbx.lt;by_cases c7:k<n0
     .by_cases h4:s.size<p+4
      .have r:=I<|b9 _ _ (Rr B (by rw[uo<|by rwa [Zb],Zb]) _<|RA k) X;go_wp2;go_ret3;exact⟨_,9,s.size,C,I<|Uf.ku r N,O.bel⟩
      .have c8:¬(bl s).length<p+4:=by rwa [Zb]
       have m4:p+4<=s.size:=X;have a3:=I<|Zex s p 4;go_wp2_with fail;refine(NF<|by rw[V5];omega).mono ?_;rintro e wr ⟨rfl,rfl⟩;rw[a3];obtain⟨v0,c9⟩:∃v0,v0=Yp (Y6 (bl s) p 4):=⟨_,C⟩;rw[<-c9];obtain⟨vz,d0⟩:∃vz,vz=TZ v0:=⟨_,C⟩;have k9:v0<4294967296:=c9▸PS (n:=4) (by unfold Y6;rw[Xw];omega);have e9:Hid<|vz=TZ _:=I<|by rw[d0,c9]
       obtain⟨bb,f1⟩:∃bb,decide ((2147483648:Int)<=(v0))=bb:=⟨_,C⟩;have i1:(bb=true/\IntKind.i64.wrap ((v0)-4294967296)=vz)∨(bb=false/\(v0)=vz):=by
        rw[d0,<-f1];unfold TZ;by_cases hh:2147483648<=v0
        .rw[Ye hh];exact .inl ⟨WI X,by rw[Us];omega⟩
        .rw[Yd hh];exact .inr ⟨Wl X,C⟩
       have m9:Hid<|-2147483648<=vz/\vz<2147483648:=I (by
        rw[d0];unfold TZ;by_cases hh:2147483648<=v0
        .rw[Ye hh];omega
        .rw[Yd hh];omega);clear c9 d0 a3 k9;go_upto_if 66 with fail;(try rw[f1]);clear f1;go_cut [9]from 45 to 87 (λs9 wx=>s9=E vz/\wx=wr);case first=>
        rcases i1 with⟨rfl,hz⟩|⟨rfl,hz⟩
        .have HZ:=I hz;clear hz;go_wp2;go_meet;exact⟨HZ.out▸congrArg (Value.int .i64) (by rw[Us];first|rfl|(unfold wrap64;rfl)|(unfold wrap64;omega)|simp[wrap64]),C⟩
        .have HZ:=I hz;clear hz;go_wp2;go_meet;exact⟨by rw[HZ],C⟩
       case rest=>
       obtain⟨rfl,rfl⟩:=hcut;rename World=>wr;clear i1;by_cases b8:vz< -1000000000
       .have r:=I<|b9 _ _ (Rr B (E2 c8 e9<|.inl b8) _<|RA k) X;go_wp2;go_ret3;exact⟨_,9,p,C,I<|Uf.ku r.out N,O.bel⟩
       .by_cases G:1000000000<vz
        .have r:Hid<|Wt (bl s)=.error (9,p):=I<|b9.out (k+1) (9,p) (Rr B.out (E2 c8 e9.out<|Or.inr G) _<|RA k) X;go_wp2;go_ret3;exact⟨_,9,p,C,I<|Uf.ku r.out N,O.bel⟩
        .have a4:Hid<|Yo (Vx<|bl s) 9 (k+1)=.ok (xs++[vz],p+4):=I<|OE B.out<|uq c8 e9.out λh=>by rcases h with h|h<;>omega
         have T:=O.own;have c0:=O.box.cell 0;simp only[Qp]at c0;have a1:=O.box.lt;have l0:Hid<|∀o,V2 w (wr.alloc o) cb nb [E n0,E n1,E n2,E n3] xs ca k cc:=I λo=>O.below Yc;clear B O c8 m0;go_wp2_with(at_builtin;refine XC _ C (.tmp 80) (.tmp 82) 48 C (nb+1) 2 i0 (E 0) 1 8 underlying48 hi j9 k0 k1 C N _ _ _ C (T.alloc _) ⟨wr.heap.size,0,none⟩ 1 1 [E vz] C C ?c1 ?c2 ?c3 ?c4 ?c5 ?_);(try case c1=>exact cell_one_new _ _ _);case c2=>first|rfl|(intro u hu;simp at hu;subst hu;rfl)
         case c3=>unfold maxLen;omega
         case c4=>omega
         case c5=>first|omega|(simp;omega)
         intro v' w3 t H _;obtain⟨g3,cp3,f3⟩:=Zm t X;subst f3;obtain⟨J,a5⟩:=(l0.out _).app (by exact H) t;have f4:=I a5;have U:=I J;clear t H a5 J c0 T a1;have c0:=U.cell 0;have f0:=U.frozen 0;have a1:=U.lt;simp only[Qp]at c0;go_wp2;go_roundw;case rel=>exact⟨k+1,p+4,_,_,_,X,by go_num,by go_num,X,X,a4,f4⟩
         case measure=>simp[intOf];omega
     .obtain rfl:n0=k:=X;have i2:=I<|KO B;have i4:=I<|O.toB i2;have d6:=I<|uO HH B;have n4:p<=262149:=X;obtain⟨p1,f5⟩:∃p1,p1=p:=⟨_,C⟩;have i6:Hid<|Th (bl s) n1 p1 0=.ok _:=I<|by rw[oq,f5]
      rw[<-f5]at d6;clear f5 B i2 b9;have n5:=I O.bel;clear O c7 hk c6;generalize Value.slice ca n0 cc=cv at*;have f6:Hid<|∀e,Th _ _ _ _=.error e->Wt _=.error e:=I λe he=>by rw[d6,he]
      have l1:Hid<|∀ps gs q,Th _ _ _ _=.ok (ps,gs,q)->Wt _=OL _ _ ps gs q _:=I λps gs q he=>by rw[d6,he]
      clear d6;go_wp2;clear m0 R;go_loopw [7,10] (λav iv wr=>∃(i p:Nat)(ps:List<|Nd×Nat)(gs:List<|List<|LB)(pa:Option Addr)(pn pc:Nat)(ga:Option Addr)(gn gc:Nat)(l:List PV)(g:List<|Option Addr×Nat×Nat),i<=n1+n2/\iv=E i/\av=E p/\p<=s.size/\p<=262149+65537*i/\pn<=i/\gn<=i/\Hid (Th (bl s) n1 p1 i=.ok (ps,gs,p))/\Hid (WR w wr cb nb [E n0,E n1,E n2,E n3] xs ps gs cv pa pn pc ga gn gc l g)) (λ_ iv _=>n1+n2-(intOf iv).toNat);case atStart=>exact⟨0,p,[],[],none,0,0,none,0,0,[],[],Yr _,C,C,hp,X,Yj _,Yj _,i6,i4⟩
      case round=>
       clear i4 i6;obtain⟨i,p,ps,gs,pa,pn,pc,ga,gn,gc,l,g,n6,rfl,rfl,hp,n7,n8,n9,B,HD⟩:=hrel;have m1:=HD.nbx.cell 1;have m2:=HD.nbx.cell 2;simp only[Yf]at m1 m2;have R:=HD.nbx.lt;have ws:IntKind.i64.wrap ((n1)+(n2))=(n1)+(n2):=by rw[Us];omega
       by_cases c7:i<n1+n2
       .have f7:(i)<(n1:Int)+(n2):=X;go_wp2;go_quiet (fail);go_upto_region 23 with fail;refine Zs λW hW=>?_;have Q:BW wr W:=hW▸(by first|exact Wn (Ym _ _) _|exact(Ym _ _).drew|exact Ym _ _);have A:=I<|HD.below Q;clear hW Q HD m1 m2 f7 ws R;have m1:=A.nbx.cell 1;simp only[Yf]at m1;have R:=A.nbx.lt;have f8:=I (λe he=>f6 e (by
        by_cases hh:i<n1
        .exact CW hh B<|mX he
        .exact CU hh c7 B<|qO he));by_cases h2:s.size<p+2
        .have r:=I<|f8 _<|by rw[fh<|by rwa [Zb],Zb]
         go_wp2;go_ret3;exact⟨_,9,s.size,C,I<|Uf.ku r N,A.bel⟩
        .have f9:¬(bl s).length<p+2:=by rwa [Zb]
         have m5:p+2<=s.size:=X;have a3:=I<|Zex s p 2;have o0:p<=9000000000:=X;go_wp2_with fail;refine(NF<|by rw[V5];omega).mono ?_;rintro e W ⟨rfl,rfl⟩;rw[a3];obtain⟨tn,d7⟩:∃tn,tn=Yp (Y6 (bl s) p 2):=⟨_,C⟩;rw[<-d7];have o1:=LX d7;have g0:=I d7;clear d7 a3;by_cases h3:s.size<p+2+tn
         .have r:=I<|f8 _<|by rw[fe f9 g0<|by rwa [Zb],Zb]
          go_wp2;go_ret3;exact⟨_,9,s.size,C,I<|Uf.ku r N,A.bel⟩
         .have V:=I<|fi f9 g0<|by rwa [Zb]
          have g2:p+2+tn<=s.size:=X;clear f9 g0 f8;go_upto_region 29 with fail;obtain⟨tx,d8⟩:∃tx,s.extract (p+2) (p+2+tn)=tx:=⟨_,C⟩;rw[d8];have i8:tx.size<=65535:=by rw[<-d8,V5];omega
          rw[<-Zex s _ _,d8]at V;clear d8;by_cases d9:i<n1
          .have a7:(i:Int)<(n1):=X;go_wp2_with fail;refine(mL W i8).mono ?_;rintro e z ⟨x,ok,rfl,e4,G⟩;have j:=I<|A.below G;clear G A a7 m1 R;cases m:ZL (bl tx)with
           |none=>
            have Y:ok=.bool false:=by have:=e4.out;rw[m]at this;exact this
            subst Y;have r:=I<|f6 _<|CW d9 B<|mQ V m;clear m e4;have j6:Hid<|∀o,Below _ w<|z.alloc o:=I λo=>j.bel.alloc j.bel.size _;unfold RR;go_wp2;go_ret3;exact⟨_,9,p,C,I<|Uf.ku r N,j6 _⟩
           |some y=>
            have Y:ok=.bool true/\Vq z y x:=by have:=e4.out;rw[m]at this;exact this
            obtain⟨rfl,c6⟩:=Y;have a4:=I<|oo d9 B<|mV V m;have j1:=I c6;clear m e4 c6 B V;obtain⟨xk,xn,xo,xm,xca,xcn,xcc,xba,xbn,xbc,xa,xb⟩:=x;unfold RR;simp only;go_upto_region 33 with fail;refine Zs λP g4=>?_;have J:Below _ _ _:=g4▸Yc;have F:Hid<|Ya _ _ [.int _ _,.int _ _,.int _ _,.string _,.slice _ _ _,.slice _ _ _,.int _ _,.int _ _] 59:=g4▸(show Ya _ _ _ _ from Go.Deep.blk_alloc_new z _);have a6:=I<|j.below J;have j7:=I<|j1.below J;have l2:Hid<|¬(Value.slice _ _ _).ownBlock=some z.heap.size:=I λe=>by have:=(j.pown.lt _ e).2;omega
            clear g4 J j j1;generalize z.heap.size=px at*;have j2:P.drew.cell? _=some _/\P.drew.cell? _=some _/\P.drew.cell? _=some _/\P.drew.cell? _=some _/\P.drew.cell? _=some _/\P.drew.cell? _=some _/\P.drew.cell? _=some _/\P.drew.cell? _=some _/\P.drew.cell? _=some _:=⟨a6.box.cell 1,F.cell 0,F.cell 1,F.cell 2,F.cell 3,F.cell 4,F.cell 5,F.cell 6,F.cell 7⟩;have a1:=a6.box.lt;have o2:=F.lt;have l3:=I λo=>a6.pown.drew.alloc o;have e5:Hid<|∀o,WR w (P.drew.alloc o) _ _ _ _ _ _ _ _ _ _ _ _ _ l g:=I λo=>a6.below<|((Ym _ _).drew).alloc (Yj _) _;have L:Hid<|∀o,Ya (P.drew.alloc o) _ _ _:=I λo=>F.below<|((Ym _ _).drew).alloc (Yj _) _;have l4:Hid<|∀o,Vq (P.drew.alloc o) y _:=I λo=>j7.below<|((Ym _ _).drew).alloc (Yj _) _;have m6:pn<=131070:=X;have o3:=a6.bel.size;refine ZW 10 (λS=>S.cell? _=some _/\S.cell? _=some _/\S.cell? _=some _/\S.cell? _=some _/\S.cell? _=some _/\S.cell? _=some _/\S.cell? _=some _/\S.cell? _=some _/\S.cell? _=some _) Kr (j2) λa=>?_;clear j2;refine Za 0 a (h:=Za 1 a (h:=Za 2 a (h:=Za 3 a (h:=Za 4 a (h:=Za 5 a (h:=?_))))));refine Zz (i:=6) Kr C λK f=>?_;go_simp;refine f _ _ ⟨(e5 _).box.cell 1,(L _).cell 0,(L _).cell 1,(L _).cell 2,(L _).cell 3,(L _).cell 4,(L _).cell 5,(L _).cell 6,(L _).cell 7⟩ λa=>?_;clear f K;try simp only[Act.put,Yt]
            refine Zz (i:=7) Kr C λK f=>?_;refine S3 C (.tmp 143) (.tmp 145) 65 C w.heap.size 59 j0 _ 8 104 underlying65 hj k2 k3 k4 C N (.slice pa pn pc) pn (TF l) (by simp[Act.eval]) (by exact l3.out _) ⟨P.heap.size,0,none⟩ 1 1 [E xk,E xn,E xo,.string xm,.slice xca xcn xcc,.slice xba xbn xbc,E xa,E xb] (by simp[Act.eval]) C ?h2 ?h3 ?h4 ?h5 ?h6 ?_;case h2=>exact Z1 C
            case h3=>intro u hu;simp at hu;rcases hu with rfl|rfl|rfl|rfl|rfl|rfl|rfl|rfl<;>rfl
            case h4=>unfold maxLen;omega
            case h5=>omega
            case h6=>simp;omega
            intro v1 w1 a2 Z _;obtain⟨g1,cp1,l5⟩:=Zm a2 X;subst l5;obtain⟨g5,j3⟩:=(e5.out _).appP (l4.out _) (by exact Z) a2;have j4:=I g5;have l6:=I j3;have M:=(L _).grown Z λe=>l2 e.symm;refine f _ _ ⟨g5.cell 1,M.cell 0,M.cell 1,M.cell 2,M.cell 3,M.cell 4,M.cell 5,M.cell 6,M.cell 7⟩ λa=>?_;clear f K g5 j3 M a2 Z;try simp only[Act.put,Of]
            refine Tk (i:=8) (d:=147) (v:=?qv8) C C Kr (λ_ _ _ h=>h) (Or.inl ⟨by rfl,?qhy8⟩) a ?qrs8;case qhy8=>(intro w hSw;go_simp;try with_reducible rfl)
            case qrs8=>
            refine Tk (i:=9) (d:=148) (v:=?qv9) C C Kr (λ_ _ _ h=>h) (Or.inl ⟨by rfl,?qhy9⟩) a ?qrs9;case qhy9=>(intro w hSw;go_simp;try with_reducible rfl)
            case qrs9=>
            refine ZS Kr Kr C Kr λK f=>?_;have yc:=j4.cell 1;have yf:=j4.frozen 1;simp only[Yf]at yc;clear a;go_simp;refine f _ _ ?_;clear f K yc yf;go_wp2;go_roundw;case rel=>exact⟨i+1,p+2+tn,_,_,_,_,_,_,_,_,_,_,X,by go_num,by go_num,g2,X,X,X,a4,l6⟩
            case measure=>simp[intOf];omega
          .have a7:¬(i:Int)<(n1):=X;go_wp2_with fail;refine(qA W i8).mono ?_;rintro e z ⟨ya,yn,yc,ok,rfl,e6,G⟩;have j:=I<|A.below G;clear G A a7 m1 R;cases m:VW (bl tx)with
           |none=>
            have Y:ok=.bool false:=by have:=e6.out;rw[m]at this;exact this
            subst Y;have r:=I<|f6 _<|CU d9 c7 B<|qK V m;clear m e6;go_wp2;go_ret3;exact⟨_,9,p,C,I<|Uf.ku r N,j.bel⟩
           |some y=>
            have Y:ok=.bool true/\∃bs:List _,z.ownsRow 0 9 1 (.slice ya yn yc) bs.length (bs.map .string)/\bs.map bl=y:=by have:=e6.out;rw[m]at this;exact this
            obtain⟨rfl,j5⟩:=Y;have a4:=I<|oh d9 B<|qM V m;have l7:Hid<|∀o,∃bs:List _,(z.alloc o).ownsRow 0 9 1 _ bs.length (bs.map _)/\bs.map _=y:=I λo=>by
             obtain⟨bs,h1,h2⟩:=j5;exact⟨bs,h1.alloc o,h2⟩
            have e5:Hid<|∀o,WR w (z.alloc o) _ _ _ _ _ _ _ _ _ _ _ _ _ l g:=I λo=>j.below Yc;have T:=j.gown;have c2:=j.box.cell 2;simp only[Yf]at c2;have a1:=j.box.lt;have m7:gn<=131070:=X;have o4:w.heap.size<=z.heap.size:=j.bel.size;clear m e6 j5 B V j;go_wp2_with(at_builtin;refine XC _ C (.tmp 161) (.tmp 163) 66 C w.heap.size 57 m0 S0 1 24 underlying66 hm k5 k6 k7 C N _ _ _ C (T.alloc _) ⟨z.heap.size,0,none⟩ 1 1 [.slice ya yn yc] C C ?d1 ?d2 ?d3 ?d4 ?d5 ?_);(try case d1=>exact cell_one_new _ _ _);case d2=>first|rfl|(intro u hu;simp at hu;subst hu;rfl)
            case d3=>unfold maxLen;omega
            case d4=>omega
            case d5=>first|omega|(simp;omega)
            intro v' w3 t H _;obtain⟨g3,cp3,f3⟩:=Zm t X;subst f3;obtain⟨J,a5⟩:=(e5.out _).appG (l7.out _) (by exact H) t;have f4:=I a5;have U:=I J;clear t H a5 J c2 T a1;have c2:=U.cell 2;have f2:=U.frozen 2;have a1:=U.lt;simp only[Yf]at c2;go_wp2;go_roundw;case rel=>exact⟨i+1,p+2+tn,_,_,_,_,_,_,_,_,_,_,X,by go_num,by go_num,g2,X,X,X,a4,f4⟩
            case measure=>simp[intOf];omega
       .obtain rfl:i=n1+n2:=X;have f7:¬((n1+n2:Nat))<(n1:Int)+(n2):=X;go_wp2;go_quiet (fail);go_upto_region 39 with fail;refine Zs λW hW=>?_;have Q:BW wr W:=hW▸(by first|exact Wn (Ym _ _) _|exact(Ym _ _).drew|exact Ym _ _);have A:=I<|HD.below Q;have l8:=I<|l1 _ _ p B;clear hW Q HD m1 m2 f7 ws R;have m3:=A.nbx.cell 3;simp only[Yf]at m3;have R:=A.nbx.lt;go_wp2_with fail;refine(gI w W s p l g A.toR g6 j8 hp X b3).mono ?_;rintro e z ⟨v,c,q,rfl,HR,G⟩;have l9:Hid<|Uf z (Wt<|bl s) v c q:=by rwa [l8.out]
        go_wp2;go_ret3;exact⟨v,c,q,C,l9,G⟩
  .have d103:((s[0].toNat:Int) !=103)=true:=by
    rw[Vg];intro e;exact D<|TO.1<|by show _=103;omega
   have r:=I<|Hl<|by
    unfold US;rw[Ye<|by rw[a0];intro e;injection e with e;exact D e]
   clear a0 D;go_enter func28,ntmps28;go_wp2;go_ret3;exact⟨_,9,0,C,I<|Uf.ku r N,Yh⟩
structure CV where
 sc:Bool
 n:Int
 ea:Option Addr
 en:Nat
 ec:Nat
 rg:Bool
 p:PV
def CV.cells(x:CV):List Value:=[.bool x.sc,E x.n,.slice x.ea x.en x.ec,.bool x.rg,E x.p.k,E x.p.n,E x.p.op,.string x.p.nm,.slice x.p.ca x.p.cn x.p.cc,.slice x.p.ba x.p.bn x.p.bc,E x.p.a,E x.p.b]
def Pw(x:CV):Value:=.agg #[.bool x.sc,E x.n,.slice x.ea x.en x.ec,.bool x.rg,E x.p.k,E x.p.n,E x.p.op,.string x.p.nm,.slice x.p.ca x.p.cn x.p.cc,.slice x.p.ba x.p.bn x.p.bc,E x.p.a,E x.p.b]
def T4:CV:=⟨false,0,none,0,0,false,XM⟩
def Ui:List CV->List Value
 |[]=>[]
 |x::l=>x.cells++Ui l
theorem Sj(x:CV):x.cells.length=12:=rfl
theorem H3:∀l:List CV,(Ui l).length=12*l.length
 |[]=>C
 |x::l=>by
  show(x.cells++Ui l).length=_;rw[Yv,Sj,H3 l,Y1];omega
theorem Dv(l m:List CV):Ui (l++m)=Ui l++Ui m:=by
 induction l with
 |nil=>rfl
 |cons a l ih=>show a.cells++Ui (l++m)=a.cells++Ui l++Ui m;rw[ih,WV]
theorem HJ:∀(l:List CV)(i j:Nat),i<l.length->j<12->(Ui l)[i*12+j]?=(l.getD i T4).cells[j]?
 |[],i,j,h,_=>absurd h<|Tu _
 |a::l,0,j,_,c=>by
  show(a.cells++Ui l)[0*12+j]?=a.cells[j]?;rw[MZ,SK,QQ<|by rwa [Sj]]
 |a::l,i+1,j,h,c=>by
  have:=HJ l i j (by simpa using h) c;show(a.cells++Ui l)[(i+1)*12+j]?=(l.getD i T4).cells[j]?;rw[SJ<|by rw[Sj];omega,Sj,show(i+1)*12+j-12=i*12+j by omega];exact this
def mC(cb:Nat)(sv:Value)(t:Int)(st:Value)(sl:List CV):List Value:=[Vp cb,sv,E t,st]++Ui sl
theorem kE{e:TypeId}{g cap:Nat}(h:w.ownsRow base e sz (.slice (some ⟨g,0,none⟩) n cap) n xs)(k:Nat)(c:k<=n):w.ownsRow base e sz (.slice (some ⟨g,0,none⟩) k cap) k<|xs.take<|k*sz:=by
 obtain⟨d,a⟩:=h;refine⟨Xw▸d▸QT (MY _ c),?_⟩;rcases a with⟨a,_⟩|⟨g',cap',cur,f,i,j,p,l,m,o⟩
 .cases a
 .injection f with hv1 hv2 hv3;injection hv1 with hv1;injection hv1 with hv1 _ _;subst hv1 hv3;refine .inr ⟨_,_,cur,C,i,j,X,l,m,?_⟩;rw[<-o,List.take_take,QT<|MY _ c]
structure YS (w w':World)(mb:Nat)(st:Value):Prop where
 os:w'.os=w.os
 tape:w'.tape=w.tape
 output:w'.output=w.output
 size:w.heap.size<=w'.heap.size
 block:∀k,k<w.heap.size->k≠mb->some k≠st.ownBlock->w'.heap[k]?=w.heap[k]?
theorem YS.below(h:YS w w' mb st)(a:BW w0 w)(f:w0.heap.size<=mb)(d:∀k,st.ownBlock=some k->w0.heap.size<=k):BW w0 w':=
 ⟨h.os.trans a.os,h.tape.trans a.tape,h.output.trans a.output,Xb a.size h.size,λk c=>by
  rw[h.block k (WH c a.size) X λe=>by have:=d k e.symm;omega];exact a.block k c⟩
theorem YS.rows (h:YS w w' mb st)(j:Ya w mb c 64)(l:w.ownsRow base 61 12 st n xs):XX [61,64] w w':=λb e sz v m ys d g=>ZJ d (λk a=>h.block k (d.lt k a).2 (by
 rintro rfl;exact ZD d j (λe2=>g<|by rw[<-e2];decide) a.symm) (λe2=>by
 have i:e≠61:=λe3=>g<|by rw[e3];decide
 rcases QE d l i with f|f
 .rw[f]at a;cases a
 .exact f<|a.trans e2))
def OO(w:World)(a:Nat)(x:CV):World:=(((((((((((w.setCell ⟨a,0,none⟩<|.bool x.sc).setCell ⟨a,1,none⟩<|E x.n).setCell ⟨a,2,none⟩<|.slice x.ea x.en x.ec).setCell ⟨a,3,none⟩<|.bool x.rg).setCell ⟨a,4,none⟩<|E x.p.k).setCell ⟨a,5,none⟩<|E x.p.n).setCell ⟨a,6,none⟩<|E x.p.op).setCell ⟨a,7,none⟩<|.string x.p.nm).setCell ⟨a,8,none⟩<|.slice x.p.ca x.p.cn x.p.cc).setCell ⟨a,9,none⟩<|.slice x.p.ba x.p.bn x.p.bc).setCell ⟨a,10,none⟩<|E x.p.a).setCell ⟨a,11,none⟩<|E x.p.b
theorem hE{q x:CV}{t:TypeId}(h:Ya w a q.cells t):Ya (OO w a x) a x.cells t:=
 (((((((((((h.setkM 0 _).setkM 1 _).setkM 2 _).setkM 3 _).setkM 4 _).setkM 5 _).setkM 6 _).setkM 7 _).setkM 8 _).setkM 9 _).setkM _ _).setkM _ _
theorem A5{k:Nat}(x:CV)(c:k≠a):(OO w a x).heap[k]?=w.heap[k]?:=by
 unfold OO;iterate 12 rw[Go.Deep.blk_setCell_other _ _ _ _ c]
theorem hF(x:CV):w.grownBy (OO w a x)<|some a:=by
 unfold OO;iterate 12 refine Zn ?_ (Or.inl C) _
 exact Z2 w _
theorem OJ(w:World)(mb cb g n cap:Nat)(sv:Value)(t:Int)(sl:List CV)(x:CV)(m:Ya w mb (mC cb sv t (.slice (some ⟨g,0,none⟩) (n+1) cap) sl) 64)(f:∀j,j<12->w.cell? ⟨g,n*12+j,none⟩=x.cells[j]?)(Q:n<=64)(R:n+1<=cap):
 CP 18 #[Vp mb] w λe u=>e=.returned (Pw x)/\Hid (Ya u mb (mC cb sv t (.slice (some ⟨g,0,none⟩) n cap) sl) 64)/\Hid (YS w u mb<|.pointer none):=by
 have G:=I m;have m3:w.cell? _=some _:=m.cell 3;have M:=m.lt;have y0:=f 0 N;have y1:=f 1 N;have y2:=f 2 N;have y3:=f 3 N;have y4:=f 4 N;have y5:=f 5 N;have y6:=f 6 N;have y7:=f 7 N;have y8:=f 8 N;have y9:=f 9 N;have y10:=f 10 N;have y11:=f 11 N;simp only[CV.cells,Yf,IB]at y0 y1 y2 y3 y4 y5 y6 y7 y8 y9 y10 y11;have s:=Xi _ _ y0;simp only at s;clear f m;go_enter func18,ntmps18;go_upto_region 3 with fail;refine Zs λW p=>?_;have i:Below _ w W:=p▸Yc.alloc Sm _;have c:Hid<|Ya W _ T4.cells 61:=p▸Ya.below (show Ya _ _ _ _ from Go.Deep.blk_alloc_new w _) Yc;have d:Hid<|Ya W (w.heap.size+1) x.cells 61:=by
  rw[p];have:=λo=>Go.Deep.blk_alloc_new (w.alloc o)<|.cells x.cells.toArray 61;simp only[Go.Deep.nblk_alloc]at this;exact this _
 have l:=I<|G.below i;have h:=I i;have v:¬w.heap.size=mb:=X;have z:¬mb=w.heap.size:=X;have O:¬w.heap.size+1=mb:=X;have P:=I i.size;clear p i m3 y0 y1 y2 y3 y4 y5 y6 y7 y8 y9 y10 y11;have m3:W.cell? _=some _:=l.cell 3;have mf:=l.frozen 3;have x0:=d.cell 0;have x1:=d.cell 1;have x2:=d.cell 2;have x3:=d.cell 3;have x4:=d.cell 4;have x5:=d.cell 5;have x6:=d.cell 6;have x7:=d.cell 7;have x8:=d.cell 8;have x9:=d.cell 9;have x10:=d.cell 10;have x11:=d.cell 11;have z0:=c.cell 0;have f0:=c.frozen 0;have z1:=c.cell 1;have f1:=c.frozen 1;have z2:=c.cell 2;have f2:=c.frozen 2;have z3:=c.cell 3;have f3:=c.frozen 3;have z4:=c.cell 4;have f4:=c.frozen 4;have z5:=c.cell 5;have f5:=c.frozen 5;have z6:=c.cell 6;have f6:=c.frozen 6;have z7:=c.cell 7;have f7:=c.frozen 7;have z8:=c.cell 8;have f8:=c.frozen 8;have z9:=c.cell 9;have f9:=c.frozen 9;have z10:=c.cell 10;have f10:=c.frozen 10;have z11:=c.cell 11;have f11:=c.frozen 11;simp only[T4,XM,CV.cells,Yf]at x0 x1 x2 x3 x4 x5 x6 x7 x8 x9 x10 x11 z0 z1 z2 z3 z4 z5 z6 z7 z8 z9 z10 z11;have H:=l.lt;have J:=c.lt;have K:=d.lt;go_wp2;change bodyPost _ _ _ _ _<|OO (W.setCell ⟨mb,3,none⟩<|.slice (some ⟨g,0,none⟩) n cap) w.heap.size x;have A:Ya (W.setCell ⟨mb,3,none⟩<|.slice (some ⟨g,0,none⟩) n cap) _ _ _:=c.other v _;have st:=hE (x:=x) A;have s0:=st.cell 0;have s1:=st.cell 1;have s2:=st.cell 2;have s3:=st.cell 3;have s4:=st.cell 4;have s5:=st.cell 5;have s6:=st.cell 6;have s7:=st.cell 7;have s8:=st.cell 8;have s9:=st.cell 9;have s10:=st.cell 10;have s11:=st.cell 11;simp only[CV.cells,Yf]at s0 s1 s2 s3 s4 s5 s6 s7 s8 s9 s10 s11;have B:Hid<|Ya _ _ (mC _ _ t (.slice (some ⟨g,0,none⟩) n cap) _) _:=I<|(A5 x z).trans<|l.setkM 3 _;have D:Hid<|YS w (OO (W.setCell ⟨mb,3,none⟩<|.slice (some ⟨g,0,none⟩) n cap) w.heap.size x) mb<|.pointer none:=by
  have q:=hF (w:=W.setCell ⟨mb,3,none⟩<|.slice (some ⟨g,0,none⟩) n cap) (a:=w.heap.size) x;have r:W.grownBy (W.setCell ⟨mb,3,none⟩<|.slice (some ⟨g,0,none⟩) n cap) _:=Zn (Z2 W<|some mb) (.inl C) _;refine⟨q.os.trans<|r.os.trans h.os,q.tape.trans<|r.tape.trans h.tape,q.output.trans<|r.output.trans h.output,Xb h.size<|Xb r.size q.size,λk L F _=>?_⟩;rw[A5 x X,Go.Deep.blk_setCell_other _ _ _ _ F];exact h.block k L
 clear x0 x1 x2 x3 x4 x5 x6 x7 x8 x9 x10 x11 z0 z1 z2 z3 z4 z5 z6 z7 z8 z9 z10 z11 f0 f1 f2 f3 f4 f5 f6 f7 f8 f9 f10 f11 m3 mf;generalize OO (W.setCell ⟨mb,3,none⟩<|.slice (some ⟨g,0,none⟩) n cap) w.heap.size x=WX at*;exact YQ (by simp[results,results18,go_sem,Pw,s0,s1,s2,s3,s4,s5,s6,s7,s8,s9,s10,s11]) C ⟨C,B,D⟩
def JU(c0 c1 c2 c3 al:Value)(tm:Int)(st sl gr:Value):List Value:=[c0,c1,c2,c3,al,E tm,st,sl,gr]
theorem Tryz.infoIVal:(Tryz.prog.info? 134).map (λi=>(i.zero,i.size,i.bytes))=some (some .nilIface,1,16):=Kr
structure Un (w:World)(base mb:Nat)(c0 c1 c2 c3 al:Value)(tm:Int)(sl gr:Value)(sa:Option Addr)(sn sc:Nat)(vs:List Value):Prop where
 box:Ya w mb (JU c0 c1 c2 c3 al tm (.slice sa sn sc) sl gr) 214
 own:w.ownsRow base 134 1 (.slice sa sn sc) sn vs
 len:vs.length=sn
theorem Un.below(h:Un w base mb c0 c1 c2 c3 al tm sl gr sa sn sc vs)(a:BW w w'):Un w' base mb c0 c1 c2 c3 al tm sl gr sa sn sc vs:=⟨h.box.below a,Ze h.own a,h.len⟩
theorem kF{e:TypeId}{g cap:Nat}(h:w.ownsRow base e sz (.slice (some ⟨g,0,none⟩) n cap) n xs)(k:Nat)(c:k<=n):w.ownsRow base e sz (.slice (some ⟨g,0,none⟩) k cap) k<|xs.take<|k*sz:=by
 obtain⟨d,a⟩:=h;refine⟨Xw▸d▸QT (MY _ c),?_⟩;rcases a with⟨a,_⟩|⟨g',cap',cur,f,i,j,p,l,m,o⟩
 .cases a
 .injection f with hv1 hv2 hv3;injection hv1 with hv1;injection hv1 with hv1 _ _;subst hv1 hv3;refine .inr ⟨_,_,cur,C,i,j,X,l,m,?_⟩;rw[<-o,List.take_take,QT<|MY _ c]
theorem OK(w:World)(tm:Int)(n:Nat)(v:Value)(h:Un w base mb c0 c1 c2 c3 al tm sl gr sa (n+1) sc<|vs++[v])(d:n<=64):
 CP 49 #[Vp mb] w λe u=>e=.returned v/\Hid (Un u base mb c0 c1 c2 c3 al tm sl gr sa n sc vs)/\Hid (w.grownBy u<|some mb):=by
 have c:vs.length=n:=by have:=h.len;rw[Yv]at this;simpa using this
 obtain⟨g,cp,a⟩:=Zm h.own X;injection a with hv1 hv2 hv3;subst hv1 hv3;have m6:w.cell? _=some _:=h.box.cell 6;have mf:=h.box.frozen 6;have k0:=Zc h.own n v<|by rw[SJ X,c];simp
 have p:=h.box.lt;have q:=ZN h.own;have f:n+1<=sc:=by
  rcases h.own.2 with⟨i,_⟩|⟨g',cap',cur,a,_,_,d,_⟩
  .cases i
  .injection a with _ _ hv3;omega
 have j:Hid<|Un _ _ _ _ _ _ _ _ _ _ _ _ n _ _:=I ⟨h.box.setkM 6 _,by
  have l:(w.setCell ⟨mb,6,none⟩<|.slice (some ⟨g,0,none⟩) n sc).ownsRow _ _ 1 _ _ _:=ZJ h.own λk m=>Go.Deep.blk_setCell_other _ _ _ _<|by
   rintro rfl;exact ZD h.own h.box N m.symm
  have:=kF l n X;rw[Nat.mul_one,JY X,Wm X]at this;exact this,c⟩;have o:Hid<|w.grownBy (w.setCell ⟨mb,6,none⟩<|.slice (some ⟨g,0,none⟩) n sc)<|some mb:=I<|Zn (Z2 w _) (.inl C) _;go_enter func49,ntmps49;go_wp2;go_ret;exact⟨C,j,o⟩
theorem Un.app{a:World}(h:Un wr base mb c0 c1 c2 c3 al tm sl gr sa sn sc vs)(c:BW w wr){v:Value}{ga:Nat}
 (d:wr.grownBy a (Value.slice sa sn sc).ownBlock)(g:a.ownsRow base 134 1 (.slice (some ⟨ga,0,none⟩) (sn+1) nc) (sn+1)<|vs++[v]):
 Ya a mb (JU c0 c1 c2 c3 al tm (.slice sa sn sc) sl gr) 214/\Un (a.setCell ⟨mb,6,none⟩<|.slice (some ⟨ga,0,none⟩) (sn+1) nc) base mb c0 c1 c2 c3 al tm sl gr (some ⟨ga,0,none⟩) (sn+1) nc (vs++[v])/\YS w (a.setCell ⟨mb,6,none⟩<|.slice (some ⟨ga,0,none⟩) (sn+1) nc) mb (.slice sa sn sc):=by
 have e:=h.box.ownGrownR h.own d N;refine⟨e,⟨e.setkM 6 _,ZJ g λk j=>Go.Deep.blk_setCell_other _ _ _ _<|by
  rintro rfl;exact ZD g e N j.symm,by rw[Yv,h.len];rfl⟩,?_⟩;have f:a.grownBy (a.setCell ⟨mb,6,none⟩<|.slice (some ⟨ga,0,none⟩) (sn+1) nc)<|some mb:=Zn (Z2 _ _) (.inl C) _;refine⟨f.os.trans<|d.os.trans c.os,f.tape.trans<|d.tape.trans c.tape,f.output.trans<|d.output.trans c.output,Xb c.size<|Xb d.size f.size,λk i l m=>?_⟩;rw[Go.Deep.blk_setCell_other _ _ _ _ l,d.block k (WH i c.size) m];exact c.block k i
theorem NB(tm:Int)(sn:Nat)(ty:TypeId)(u:Value)(h:Un w base mb c0 c1 c2 c3 al tm sl gr sa sn sc vs)(D:sn<=64)(B:base<=w.heap.size):
 CP 96 #[Vp mb,.iface ty u] w λe g=>e=.returned (.tuple #[])/\Hid (∃ga nc,Un g base mb c0 c1 c2 c3 al tm sl gr (some ⟨ga,0,none⟩) (sn+1) nc<|vs++[.iface ty u])/\Hid (YS w g mb<|.slice sa sn sc):=by
 obtain⟨i0,x,i,j,k⟩:=Xv Tryz.infoIVal;have z:=I h;have f:=h.own;have m6:w.cell? _=some _:=h.box.cell 6;have l:=h.box.lt;have m:Hid<|∀o,Un (w.alloc o) base mb c0 c1 c2 c3 al tm sl gr sa sn sc vs:=I λo=>z.below Yc;go_enter func96,ntmps96;go_wp2_with(at_builtin;refine XC _ C (.tmp 8) (.tmp 10) 212 C base 134 i0 .nilIface 1 16 underlying212 x i j k C N _ _ _ C (f.alloc _) ⟨w.heap.size,0,none⟩ 1 1 [.iface ty u] C C ?c1 ?c2 ?c3 ?c4 ?c5 ?_);(try case c1=>exact cell_one_new _ _ _);case c2=>first|rfl|(intro u n;simp at n;subst n;rfl)
 case c3=>unfold maxLen;omega
 case c4=>omega
 case c5=>first|omega|(simp;omega)
 intro v' A a d _;obtain⟨g3,cp3,p⟩:=Zm a X;subst p;obtain⟨q,r,s⟩:=(m.out _).app (w:=w) Yc (by exact d) a;have c:=I q;have t:=I r;have v:=I s;have m6:A.cell? _=some _:=c.cell 6;have mf:=c.frozen 6;have l:=c.lt;go_wp2;exact RW (Tq C _ _ _) C ⟨C,I ⟨_,_,t⟩,v⟩

/- Parts. -/
import Derived.Test.YtmfnolgpaoldpaaGreatDoorX02
import Derived.Deep.RegionHeld3
import Derived.Deep.DrawnRows
set_option linter.all false
set_option maxRecDepth 100000
set_option maxHeartbeats 16000000
namespace Go.Proofs.YtmfnolgpaoldpaaGreatDoor
open Go.RowKit LS Go.Proofs.Tryz
open Go renaming World->Y,Value->F
open Go.RowKit renaming Hid->U
variable {ca tp:Addr}{s:BA}{op:Bool}{pv v1 v2:F}{f:FuncId}{i:Int}{c xs xs1 xs2:List F}{t0 ts:List Yg}{R:List Yg->Nat->Yl Tr}{l ns:List<|LB}{cs:List<|LB×LB×Bool}{L M b b1 b2 d deep g k lv m n n1 n2 o s1 s2:Nat}{rec:Nat->List Yg->Nat->Yl Tr}{nd:Nd}{a:Tr}{p:UInt8->Bool}{w w' w0:Y}{t u:Yg}{r r2 r3 y:Yl Unit}
section
theorem GN{e1 e2:TypeId}(c:w.ownsRow b1 e1 s1 v1 n1 xs1)(d:w.ownsRow b2 e2 s2 v2 n2 xs2)(f:w.grownBy w' v2.ownBlock)(g:e1≠e2):w'.ownsRow b1 e1 s1 v1 n1 xs1:=
 ZJ c (λk a=>f.block k (c.lt k a).2 (λe=>by
  rcases QD c d g with h|h
  .rw[h]at a;cases a
  .exact h<|a.trans e))
theorem Mx{e1:TypeId}(a:w.ownsRow b1 e1 s1 v1 n1 xs1){t:TypeId}(f:Ya w b c t)(g:w.grownBy w'<|some b)(h:t≠e1):w'.ownsRow b1 e1 s1 v1 n1 xs1:=
 ZJ a λk d=>g.block k (a.lt k d).2 λe=>by
  cases e;exact ZD a f h d.symm
def UN(w:Y)(is:List<|Nat×Nat)(v:F):Prop:=w.ownsRow 0 137 2 v is.length<|SP is
structure Pk where
 nm:BA
 la:Option Addr
 ln:Nat
 lc:Nat
 nd:Nd
 n:Nat
def Pk.enc(x:Pk):List F:=[.string x.nm,.slice x.la x.ln x.lc,E x.n]
def Pk.pr(x:Pk):Nd×Nat:=(x.nd,x.n)
structure Pk.ok (w:Y)(x:Pk):Prop where
 nm:bl x.nm=x.nd.name
 cs:Z0 w (.slice x.la x.ln x.lc) x.nd.kq
def R6(l:List Pk):List F:=(l.map Pk.enc).flatten
theorem sV(l m:List Pk):R6 (l++m)=R6 l++R6 m:=by unfold R6;rw[Xa,JZ]
theorem DT(l:List Pk)(j:Nat)(c:j<l.length):(R6 l)[j*3]?=some (.string l[j].nm)/\(R6 l)[j*3+1]?=some (.slice l[j].la l[j].ln l[j].lc)/\(R6 l)[j*3+2]?=some (E l[j].n):=by
 induction l generalizing j with
 |nil=>simp at c
 |cons a l ih=>
  have e:R6 (a::l)=.string _::.slice _ _ _::.int _ _::R6 l:=C;cases j with
  |zero=>rw[e];exact⟨C,C,C⟩
  |succ j=>
   have h:=ih j<|by simpa using c
   rw[e,show(j+1)*3=j*3+1+1+1 by omega];simpa using h
def SK(w:Y)(a:Nd×Nat)(v:F):Prop:=∃x:Pk,v=.agg #[.string x.nm,.slice x.la x.ln x.lc,E x.n]/\x.pr=a/\x.ok w
def Oq(v:F):Prop:=v=.agg #[.string ⟨#[]⟩,S0,E 0]
def Pb(w:Y)(ps:List<|Nd×Nat)(v:F):Prop:=∃xs:List Pk,w.ownsRow 0 231 3 v xs.length (R6 xs)/\xs.map Pk.pr=ps/\∀x∈xs,x.ok w
structure Gp where
 la:Option Addr
 ln:Nat
 lc:Nat
 ns:List<|LB
def Gp.ok(w:Y)(x:Gp):Prop:=∃bs:List BA,w.ownsRow 0 9 1 (.slice x.la x.ln x.lc) bs.length (TE bs)/\((bs.map bl).Pairwise λa b=>Op.bytesLess b a=false)/\(∀y,y∈bs.map bl↔y∈x.ns)/\bs.length<=70001
def Ns(l:List Gp):List F:=l.map λx=>.slice x.la x.ln x.lc
def Q6(w:Y)(a:List<|LB)(v:F):Prop:=∃x:Gp,v=.slice x.la x.ln x.lc/\x.ns=a/\x.ok w
def Q7(w:Y)(gs:List<|List<|LB)(v:F):Prop:=∃xs:List Gp,w.ownsRow 0 57 1 v xs.length (Ns xs)/\xs.map Gp.ns=gs/\∀x∈xs,x.ok w
theorem Pk.ok.below{x:Pk}(h:x.ok w)(a:BW w w'):x.ok w':=⟨h.nm,h.cs.below a⟩
theorem Pk.ok.ju{x:Pk}(h:x.ok w){t:TypeId}(a:Ya w b c t)(d:w.grownBy w'<|some b)(e:t≠374):x.ok w':=by
 obtain⟨bs,f,g⟩:=h.cs;exact⟨h.nm,bs,Mx f a d e,g⟩
theorem Pk.ok.kept2{x:Pk}(h:x.ok w){e2:TypeId}(a:w.ownsRow b2 e2 s2 v2 n2 xs2)(c:w.grownBy w' v2.ownBlock)(d:374≠e2):x.ok w':=by
 obtain⟨bs,e,f⟩:=h.cs;exact⟨h.nm,bs,GN e a c d,f⟩
theorem Gp.ok.below{x:Gp}(h:x.ok w)(a:BW w w'):x.ok w':=by
 obtain⟨bs,c,d⟩:=h;exact⟨bs,Ze c a,d⟩
theorem Gp.ok.ju{x:Gp}(h:x.ok w){t:TypeId}(a:Ya w b c t)(d:w.grownBy w'<|some b)(e:t≠9):x.ok w':=by
 obtain⟨bs,f,g⟩:=h;exact⟨bs,Mx f a d e,g⟩
theorem Gp.ok.kept2{x:Gp}(h:x.ok w){e2:TypeId}(a:w.ownsRow b2 e2 s2 v2 n2 xs2)(c:w.grownBy w' v2.ownBlock)(d:9≠e2):x.ok w':=by
 obtain⟨bs,e,f⟩:=h;exact⟨bs,GN e a c d,f⟩
theorem Tryz.infoSelC:(Tryz.prog.info? 231).map (λi=>(i.zero,i.size,i.bytes))=some (some<|.agg #[.string ByteArray.empty,S0,E 0],3,48):=Kr
theorem Tryz.infoStrs:(Tryz.prog.info? 57).map (λi=>(i.zero,i.size,i.bytes))=some (some S0,1,24):=Kr
theorem YF.belowE{α:Type}{V:Y->α->F->Prop}{Z:F->Prop}{r:X9 α}{v err:F}{x:Nat×Nat}(h:YF V Z w b s ca r v err)(a:r=.error x)(c:BW w w'):YF V Z w' b s ca r v err:=by
 obtain⟨d,e,f,p,g⟩:=h.err a;exact YF.ku a ⟨d,e.below c,f,p,g.below c⟩
theorem mz(s:BA){p:Nat}(b:Nat)(w:Y)(h0:BW w0 w)(hb:w0.heap.size<=b)(M:YH w b s p)(hp:p<=s.size)(hn:n<=65535){one:Nat->X9 (Nat×Nat)}(h1:T8 119 IV IZ w0 b s ca one)(r:∀p x,one p=.ok x->p<=s.size->x.2<=s.size):
 CP 118 #[Vp b,E n,.func (.func 119) #[] #[]] w λe O=>∃v err,e=.returned (.tuple #[v,err])/\U (YF UN XX O b s ca (Yo one p n) v err)/\w.grownBy O (some b):=by
 have P:=M.lt;obtain⟨i0,hi,Q,R,S⟩:=Xv Tryz.infoIns;have H1:=I h1;have HQ:=I r;have H0:=I h0;have HR:=I M;have T:=I hb;go_enter func118,ntmps118;go_wp2;go_loopw [8,12] (λv i wr=>∃(k q:Nat)(xs:List<|Nat×Nat),k<=n/\i=E k/\q<=s.size/\U (Yo one p k=.ok (xs,q))/\U (YH wr b s q)/\xs.length=k/\wr.ownsRow w.heap.size 137 2 v xs.length (SP xs)/\U (w.grownBy wr<|some b))
  (λ_ i _=>n-(intOf i).toNat);case atStart=>exact⟨0,p,[],Yr _,C,hp,I C,HR,C,Xm _ _ _ _,I<|Z2 _ _⟩
 case round=>
  obtain⟨k,q,xs,hk,rfl,r,j,l,D,c,t⟩:=hrel;have g:=I D;clear D;by_cases G:k<n
  .have a3:(k:Int)<n:=X;obtain⟨av,cp,rfl⟩:=Zd c;have V:=I c;clear c;go_wp2_with fail;refine(H1 q _ (Uz H0 t T) l r).m ?_;rintro e w1 ⟨v,err,rfl,h,m⟩;have o:=I<|Zi t m;have a:=JC V m P;clear m V t l;cases d:one q with
   |error x=>
    obtain⟨fa,rfl⟩:=h.jn d;have K:U<|YF UN XX _ b s _ _ _ _:=I<|h.km d (Rr j d n G) C;have L:=(h.err d).2.2.1;obtain⟨x0,y0,rfl⟩:=L;have W:=I<|Rr j d n G;clear h d a;go_wp2;go_ret2;exact⟨_,_,C,I<|K.belowE W Yc,Vh o _⟩
   |ok x=>
    obtain⟨z,q2⟩:=x;obtain⟨rfl,hv,H⟩:=h.ok d;have Z:=I<|OF j d;have J:=HQ q _ d r;have a0:=I H;simp only at J;have a4:=o.size;obtain rfl:=hv;obtain⟨y,hy⟩:∃y,y=z:=⟨_,C⟩;subst hy;clear h d H j;go_wp2_with(at_builtin;refine XC _ C (.tmp 23) (.tmp 25) 78 C w.heap.size 137 i0 (.agg #[E 0,E 0]) 2 16 underlying78 hi Q R S C N _ _ _ C ((a.alloc _).alloc _) ⟨w1.heap.size+1,0,none⟩ 1 1 [E y.1,E y.2] C C ?c1 ?c2 ?c3 ?c4 ?c5 ?_);case c1=>exact Z1<|Sm
    case c2=>intro u hu;simp at hu;rcases hu with rfl|rfl<;>rfl
    case c3=>have:=g.o;unfold maxLen;omega
    case c4=>have:=g.o;omega
    case c5=>have:=g.o;simp;omega
    intro v' w3 A f _;have a1:=I<|OC (Vh (Vh o _) _) f λz L=>(a.lt z L).1;have a2:U<|YH _ b s _:=I<|(a0.below<|Yc.alloc (Sm) _).grown f λe=>by have:=(a.lt b e.symm).1;omega
    have B:w3.ownsRow w.heap.size 137 2 v' (xs++[y]).length<|SP<|xs++[y]:=by rwa [Yx,Dv]
    clear a f A;go_wp2;go_roundw;case rel=>exact⟨k+1,q2,xs++[y],X,by go_num,J,Z,a2,by rw[Yx,g];rfl,B,a1⟩
    case measure=>simp[intOf];omega
  .obtain rfl:k=n:=X;obtain⟨av,cp,rfl⟩:=Zd c;have K:U<|YF UN XX _ b s ca _ _ _:=I<|YF.mkOk j ⟨C,TX c,l⟩;clear c;go_wp2;go_ret2;exact⟨_,_,C,K,t⟩
theorem oS(s:BA){p:Nat}(b:Nat)(w:Y)(h0:BW w0 w)(hb:w0.heap.size<=b)(S:YH w b s p)(hp:p<=s.size)(hn:n<=65535){one:Nat->X9 (Nd×Nat)}(h1:T8 115 SK Oq w0 b s ca one)(A:∀p x,one p=.ok x->p<=s.size->x.2<=s.size):
 CP 114 #[Vp b,E n,.func (.func 115) #[] #[]] w λe T=>∃v err,e=.returned (.tuple #[v,err])/\U (YF Pb XX T b s ca (Yo one p n) v err)/\w.grownBy T (some b):=by
 have V:=S.lt;obtain⟨i0,hi,W,Z,a0⟩:=Xv Tryz.infoSelC;have H1:=I h1;have HQ:=I A;have H0:=I h0;have HR:=I S;have a1:=I hb;go_enter func114,ntmps114;go_wp2;go_loopw [8,12] (λv i wr=>∃(k q:Nat)(xs:List Pk),k<=n/\i=E k/\q<=s.size/\U (Yo one p k=.ok (xs.map Pk.pr,q))/\U (YH wr b s q)/\xs.length=k/\wr.ownsRow w.heap.size 231 3 v xs.length (R6 xs)/\U (w.grownBy wr<|some b)/\U (∀x∈xs,x.ok wr))
  (λ_ i _=>n-(intOf i).toNat);case atStart=>exact⟨0,p,[],Yr _,C,hp,I C,HR,C,Xm _ _ _ _,I<|Z2 _ _,I λx f=>(by cases f)⟩
 case round=>
  obtain⟨k,q,xs,hk,rfl,A,o,h,H,c,B,r⟩:=hrel;have j:=I H;clear H;by_cases J:k<n
  .have a8:(k:Int)<n:=X;obtain⟨av,cp,rfl⟩:=Zd c;have HO:=I c;clear c;go_wp2_with fail;refine(H1 q _ (Uz H0 B a1) h A).m ?_;rintro e w1 ⟨v,err,rfl,m,l⟩;have t:=I<|Zi B l;have a:=JC HO l V;have O:=I λx f=>(r x f).ju h l N;clear r;clear l HO B h;cases g:one q with
   |error x=>
    obtain⟨fa,rfl⟩:=m.jn g;have P:U<|YF Pb XX _ b s _ _ _ _:=I<|m.km g (Rr o g n J) C;have Q:=(m.err g).2.2.1;obtain rfl:=Q;have a2:=I<|Rr o g n J;clear m g a;go_wp2;go_ret2;exact⟨_,_,C,I<|P.belowE a2 Yc,Vh t _⟩
   |ok x=>
    obtain⟨z,q2⟩:=x;obtain⟨rfl,hv,K⟩:=m.ok g;have a9:=I<|OF o g;have L:=HQ q _ g A;have a3:=I K;simp only at L;have b0:=t.size;obtain⟨y,rfl,rfl,M⟩:=hv;have a4:=I M;clear M;clear m g K o;go_wp2_with(at_builtin;refine XC _ C (.tmp 23) (.tmp 25) 77 C w.heap.size 231 i0 (.agg #[.string ByteArray.empty,S0,E 0]) 3 48 underlying77 hi W Z a0 C N _ _ _ C ((a.alloc _).alloc _) ⟨w1.heap.size+1,0,none⟩ 1 1 [.string y.nm,.slice y.la y.ln y.lc,E y.n] C C ?c1 ?c2 ?c3 ?c4 ?c5 ?_);case c1=>exact Z1<|Sm
    case c2=>intro u hu;simp at hu;rcases hu with rfl|rfl|rfl<;>rfl
    case c3=>have:=j.o;unfold maxLen;omega
    case c4=>have:=j.o;omega
    case c5=>have:=j.o;simp;omega
    intro v' w3 D d _;have a5:=I<|OC (Vh (Vh t _) _) d λz Q=>(a.lt z Q).1;have a6:U<|YH _ b s _:=I<|(a3.below<|Yc.alloc (Sm) _).grown d λe=>by have:=(a.lt b e.symm).1;omega
    have G:w3.ownsRow w.heap.size 231 3 v' (xs++[y]).length<|R6<|xs++[y]:=by rwa [Yx,sV]
    have R:U<|∀x∈xs++[y],x.ok _:=I (λx f=>by
     have a7:x.ok w1:=by
      rcases Wk.1 f with f|f
      .exact O x f
      .rw[Vr]at f;subst f;exact a4
     exact(a7.below<|Yc.alloc (Sm) _).kept2 ((a.alloc _).alloc _) d N);clear a d D;go_wp2;go_roundw;case rel=>exact⟨k+1,q2,xs++[y],X,by go_num,L,I<|by rwa [Xa],a6,by rw[Yx,j];rfl,G,a5,R⟩
    case measure=>simp[intOf];omega
  .obtain rfl:k=n:=X;obtain⟨av,cp,rfl⟩:=Zd c;have P:U<|YF Pb XX _ b s ca _ _ _:=I<|YF.mkOk o ⟨C,⟨xs,TX c,C,r⟩,h⟩;clear c;go_wp2;go_ret2;exact⟨_,_,C,P,B⟩
theorem my(s:BA){p:Nat}(b:Nat)(w:Y)(h0:BW w0 w)(hb:w0.heap.size<=b)(R:YH w b s p)(hp:p<=s.size)(hn:n<=65535){one:Nat->X9 (List<|LB)}(h1:T8 117 Q6 XX w0 b s ca one)(r:∀p x,one p=.ok x->p<=s.size->x.2<=s.size):
 CP 116 #[Vp b,E n,.func (.func 117) #[] #[]] w λe S=>∃v err,e=.returned (.tuple #[v,err])/\U (YF Q7 XX S b s ca (Yo one p n) v err)/\w.grownBy S (some b):=by
 have T:=R.lt;obtain⟨i0,hi,V,W,Z⟩:=Xv Tryz.infoStrs;have H1:=I h1;have HQ:=I r;have H0:=I h0;have HR:=I R;have a0:=I hb;go_enter func116,ntmps116;go_wp2;go_loopw [8,12] (λv i wr=>∃(k q:Nat)(xs:List Gp),k<=n/\i=E k/\q<=s.size/\U (Yo one p k=.ok (xs.map Gp.ns,q))/\U (YH wr b s q)/\xs.length=k/\wr.ownsRow w.heap.size 57 1 v xs.length (Ns xs)/\U (w.grownBy wr<|some b)/\U (∀x∈xs,x.ok wr))
  (λ_ i _=>n-(intOf i).toNat);case atStart=>exact⟨0,p,[],Yr _,C,hp,I C,HR,C,Xm _ _ _ _,I<|Z2 _ _,I λx f=>(by cases f)⟩
 case round=>
  obtain⟨k,q,xs,hk,rfl,r,t,l,D,d,L,G⟩:=hrel;have h:=I D;clear D;by_cases a1:k<n
  .have a7:(k:Int)<n:=X;obtain⟨av,cp,rfl⟩:=Zd d;have HO:=I d;go_wp2_with fail;refine(H1 q _ (Uz H0 L a0) l r).m ?_;rintro e w1 ⟨v,err,rfl,j,m⟩;have o:=I<|Zi L m;have a:=JC HO m T;have M:=I λx f=>(G x f).ju l m N;cases g:one q with
   |error x=>
    obtain⟨fa,rfl⟩:=j.jn g;have O:U<|YF Q7 XX _ b s _ _ _ _:=I<|j.km g (Rr t g n a1) C;have P:=(j.err g).2.2.1;obtain rfl:=P;clear j g a;go_wp2;go_ret2;exact⟨_,_,C,O,o⟩
   |ok x=>
    obtain⟨z,q2⟩:=x;obtain⟨rfl,hv,H⟩:=j.ok g;have a8:=I<|OF t g;have J:=HQ q _ g r;have a2:=I H;simp only at J;have a9:=o.size;obtain⟨y,rfl,rfl,K⟩:=hv;have a3:=I K;clear K;clear j g H t;go_wp2_with(at_builtin;refine XC _ C (.tmp 23) (.tmp 25) 66 C w.heap.size 57 i0 S0 1 24 underlying66 hi V W Z C N _ _ _ C (a.alloc _) ⟨w1.heap.size,0,none⟩ 1 1 [.slice y.la y.ln y.lc] C C ?c1 ?c2 ?c3 ?c4 ?c5 ?_);case c1=>exact Z1<|Sm
    case c2=>intro u hu;simp at hu;rw[hu];rfl
    case c3=>have:=h.o;unfold maxLen;omega
    case c4=>have:=h.o;omega
    case c5=>have:=h.o;simp;omega
    intro v' w3 A c _;have a4:=I<|OC (Vh o _) c λz P=>(a.lt z P).1;have a5:U<|YH _ b s _:=I<|(a2.below Yc).grown c λe=>by have:=(a.lt b e.symm).1;omega
    have B:w3.ownsRow w.heap.size 57 1 v' (xs++[y]).length<|Ns<|xs++[y]:=by rwa [Yx,show Ns (xs++[y])=Ns xs++[.slice y.la y.ln y.lc]by unfold Ns;rw[Xa];rfl]
    have Q:U<|∀x∈xs++[y],x.ok _:=I (λx f=>by
     have a6:x.ok w1:=by
      rcases Wk.1 f with f|f
      .exact M x f
      .rw[Vr]at f;subst f;exact a3
     exact(a6.below Yc).kept2 (a.alloc _) c N);clear a c A;go_wp2;go_roundw;case rel=>exact⟨k+1,q2,xs++[y],X,by go_num,J,I<|by rwa [Xa],a5,by rw[Yx,h];rfl,B,a4,Q⟩
    case measure=>simp[intOf];omega
  .obtain rfl:k=n:=X;obtain⟨av,cp,rfl⟩:=Zd d;have O:U<|YF Q7 XX _ b s ca _ _ _:=I<|YF.mkOk t ⟨C,⟨xs,TX d,C,G⟩,l⟩;clear d;go_wp2;go_ret2;exact⟨_,_,C,O,L⟩
attribute [local go_sem ↓] Go.wp_at_zero Go.wp_at_succ
theorem fT(l:LB):(1<=YL 1000 l↔1<=Wz l/\Wz l<=1000)/\(1<=YL 1000 l->YL 1000 l=Wz l):=by
 unfold YL Wz ZC;by_cases c:l.length<1\/(l.head?=some 48/\1<l.length)\/l.all Zt=false
 .rw[Ye<|by rcases c with h|h|h;exact .inl h;exact .inr<|.inl h;exact .inr<|.inr<|.inl h];rw[Ye<|by rcases c with h|h|h;exact .inl h;exact .inr<|.inl h;exact .inr<|.inr<|.inl h];simp
 .have e:∀most,most<val l->(l.length<1\/(l.head?=some 48/\1<l.length)\/l.all Zt=false\/most<val l):=λ_ h=>.inr<|.inr<|.inr h;have d:∀most,¬most<val l->¬(l.length<1\/(l.head?=some 48/\1<l.length)\/l.all Zt=false\/most<val l):=by
   rintro most h (a|a|a|a)
   .exact c<|.inl a
   .exact c<|.inr<|.inl a
   .exact c<|.inr<|.inr a
   .exact h a
  by_cases a:1000<val l
  .rw[Ye<|e _ a];by_cases f:1000000000<val l
   .rw[Ye<|e _ f];simp
   .rw[Yd<|d _ f];simp only[Qt];constructor
    .constructor
     .intro h;omega
     .intro h;omega
    .intro h;omega
  .rw[Yd<|d _ a,Yd<|d _ X];simp only[Qt];constructor
   .constructor
    .intro h;omega
    .intro h;omega
   .intro _;trivial
def Ua(ts:List Yg):Yl Int:=bnd (Zf [91] ts) λ_ r=>bnd (T0 r) λn r=>bnd (Zf [93] r) λ_ r=>.ok (n,r)
theorem Ap (o:Nat)(ts:List Yg):Xu o ts=bnd (Zf [40] ts) λ_ r=>bnd (YP r) λp r=>bnd (Ua r) λn r=>bnd (Zf [41] r) λ_ r=>.ok (TW ⟨2,o,n,p.name,p.kq,[]⟩,r):=by
 unfold Xu Ua;cases a:Zf [40] ts with
 |error e=>rfl
 |ok p1=>
  obtain⟨a1,r1⟩:=p1;simp only[bnd];cases c:YP r1 with
  |error e=>rfl
  |ok p2=>
   obtain⟨a2,r2⟩:=p2;simp only;cases d:Zf [91] r2 with
   |error e=>rfl
   |ok p3=>
    obtain⟨a3,r3⟩:=p3;simp only;cases f:T0 r3 with
    |error e=>rfl
    |ok p4=>
     obtain⟨a4,r4⟩:=p4;simp only;cases g:Zf [93] r4 with
     |error e=>rfl
     |ok p5=>rfl
theorem P8(s:LB)(ts:List Yg):(Yk s (hd ts)=true/\Zf s ts=.ok ((),ts.tail))\/(¬Yk s (hd ts)=true/\Zf s ts=.error (2,(hd ts).at_)):=by
 by_cases h:Yk s (hd ts)=true
 .exact .inl ⟨h,Qi h⟩
 .exact .inr ⟨h,PG h⟩
theorem yx{R:RS}(h:RK w R k ts):
 CP 297 #[Vp R.b] w λe u=>∃(n:Int)(v:F),e=.returned (.tuple #[E n,v])/\U (U4 R (λ_ m=>n=m) u (Ua ts) v)/\w.grownBy u (some R.b):=by
 have H:=I h;have a7:=(Xr.1 h.rd.cells).1;go_enter func297,ntmps297;go_wp2_with fail;refine(Qh H _ N N).m ?_;rintro e w1 ⟨v,rfl,f,hg⟩;have Q:=I hg;rcases P8 [91] ts with⟨s,c⟩|⟨s,c⟩
 .obtain⟨rfl,⟨k1,d⟩,_⟩:=f.good c;have S:=I d;have A:U<|Ua ts=bnd (T0 ts.tail) λn r=>bnd (Zf [93] r) λ_ r=>.ok (n,r):=by unfold Ua;rw[c];rfl
  go_wp2_with fail;refine(QL S).m ?_;rintro e z ⟨⟨kd,at_,tx,tv⟩,rfl,B,T⟩;have D:=I<|Zi Q<|ZB T;have V:=I<|S.below T;go_upto_region 5 with fail;refine Zs λW6 G=>?_;have J:Below _ _ _:=G▸Yc;have K:U<|Ya _ _ [.int _ _,.int _ _,.string _,.int _ _] 389:=G▸YO;have o:=I<|Zi D<|ZB J;have g:=I<|V.below J;have a8:R.b<z.heap.size:=by have:=D.size;omega
  clear G J V D;have t0:=K.cell;have i:=fT (hd ts.tail).txt;by_cases d:(hd ts.tail).jj=1
  .have W:kd=0:=by have:=B.1;rw[d]at this;exact this
   subst W;have p:(tv)=Wz _:=B.2.2.2 d;by_cases t:1<=YL 1000 (hd ts.tail).txt
   .have x:=i.1.1 t;rw[<-p]at x;have Z:=x.1;have L:=x.2;have a2:U<|T0 _=.ok _:=I<|by unfold T0;rw[Ye ⟨d,t⟩,i.2 t,<-p]
    have HD:U<|¬((hd ts.tail).jj=0\/(hd ts.tail).jj=5):=I X;obtain⟨rc0,rc1,rfz,rcx⟩:=g.rd.all;have a9:=g.lt;have b0:=g.len;clear t i p x d B;go_upto_region 8 with fail;refine Zs λW8 q=>?_;have a3:U _:=q▸g.step HD.o;have a4:U _:=q▸Zn o.o (Or.inl C) _;have a5:U<|Ya _ _ _ _:=q▸K.other (by show z.heap.size≠R.b;omega) _;clear q rc0 rc1 rfz rcx t0 K g o;have e3:=a5.cell 3;simp only[Yf]at e3;have a0:=I<|a3.below<|(Ym _ _).drew;have a1:=I<|Zi a4<|ZB<|(Ym _ _).drew;go_region_held3 (λu=>u.cell? ⟨z.heap.size,3,none⟩=some (E tv)) (first|exact e9|exact e3|go_keep) (first
     | (go_at_call 293;refine(Qh a0.o ⟨#[93]⟩ N N).m ?_;rintro e w9 ⟨v,rfl,f,M⟩;have e9:w9.cell? ⟨z.heap.size,3,none⟩=some (E tv):=(PD (a:=⟨z.heap.size,3,none⟩)<|M.block _ (Xi _ _ e3)<|by simp;omega).trans e3;have a6:U<|w.grownBy w9<|some R.b:=Zi a1.o M;clear M));all_goals
     go_wp2;go_ret2;refine⟨_,_,C,?_,a6⟩;rw[A,a2];show U<|U4 R _ _ (bnd (Zf [93] ts.tail.tail) _) _;rcases P8 [93] ts.tail.tail with⟨_,c⟩|⟨_,c⟩
     .obtain⟨s,h2,_⟩:=f.good c;rw[c];exact⟨s,h2,C⟩
     .have:=f.err c;rw[c];exact this
   .have j:U<|Ua ts=.error (2,(hd ts.tail).at_):=by rw[A];unfold T0;rw[Yd λh=>t h.2];rfl
    have x:(tv:Int)<1\/1000<(tv:Int):=by
     rw[p];by_cases s:1<=Wz (hd ts.tail).txt/\Wz (hd ts.tail).txt<=1000
     .exact absurd (i.1.2 s) t
     .omega
    by_cases Z:(tv:Int)<1;all_goals
     have L:¬(tv:Int)<1->1000<(tv:Int):=X;clear x;try have b1:=L Z
     clear L;go_wp2_with fail;refine(Oy g).m ?_;rintro e wE ⟨v,rfl,O,l⟩;obtain⟨fa,rfl⟩:=O.shape;have P:=I<|Zi o<|ZB l;clear l;go_wp2;go_ret2;exact⟨_,_,C,by rwa [j.o],P⟩
  .have W:((kd:Int) !=0)=true:=by
    rw[Vg];intro e;exact d<|(P3 g.wf.head.2.2).2.2.2.1.1<|by have:=B.1;simp only at this;omega
   have j:U<|Ua ts=.error (2,(hd ts.tail).at_):=by rw[A];unfold T0;rw[Yd λh=>d h.1];rfl
   clear i B d;go_wp2_with fail;refine(Oy g).m ?_;rintro e wE ⟨v,rfl,O,l⟩;obtain⟨fa,rfl⟩:=O.shape;have P:=I<|Zi o<|ZB l;clear l;go_wp2;go_ret2;exact⟨_,_,C,by rwa [j.o],P⟩
 .have j:U<|Ua ts=.error (2,(hd ts).at_):=by unfold Ua;rw[c];rfl
  have O:=I<|f.err c;obtain⟨fa,rfl⟩:=O.shape;clear f c s;go_wp2;go_ret2;exact⟨_,_,C,by rwa [j.o],Q⟩
end
section
attribute [local go_sem ↓] Go.wp_at_zero Go.wp_at_succ
theorem yy{R:RS}(h:RK w R k ts){O:BA}(o:Nat)(T:bl O=WN.getD o []):
 CP 279 #[Vp R.b,.string O] w λe u=>∃(pv v:F),e=.returned (.tuple #[pv,v])/\Ld pv/\U (U4 R (λu t=>Zo u t pv) u (Xu o ts) v)/\w.grownBy u (some R.b):=by
 have H:=I h;have V:=I T;have b6:=(Xr.1 h.rd.cells).1;go_enter func279,ntmps279;go_wp2_with fail;refine(Qh H _ N N).m ?_;rintro e w1 ⟨v,rfl,c,hg⟩;have B:=I hg;rcases P8 [40] ts with⟨P,d⟩|⟨P,d⟩
 .obtain⟨rfl,⟨k1,W⟩,_⟩:=c.good d;have Z:=I W;have D:U<|Xu o ts=bnd (YP ts.tail) λp r=>bnd (Ua r) λn r=>bnd (Zf [41] r) λ_ r=>.ok (TW ⟨2,o,n,p.name,p.kq,[]⟩,r):=by rw[Ap,d];rfl
  go_wp2_with fail;refine(A0 Z).m ?_;rintro e z ⟨nm,la,ln,lc,v,rfl,c,a0⟩;have m:=I<|Zi B a0;have b7:R.b<z.heap.size:=by have:=m.size;omega
  cases i:YP ts.tail with
  |error er=>
   have l:=I<|c.err i;obtain⟨fa,rfl⟩:=l.shape;have f:U<|Xu o ts=.error er:=by rw[D,i];rfl
   go_wp2;go_ret2;exact⟨_,_,C,.inl C,f.o▸l.below Yc,Vh m _⟩
  |ok pr=>
   obtain⟨nd,r2⟩:=pr;obtain⟨rfl,⟨k2,a1⟩,a2,a3⟩:=c.good i;have G:U<|Xu o ts=bnd (Ua r2) λn r=>bnd (Zf [41] r) λ_ r=>.ok (TW ⟨2,o,n,nd.name,nd.kq,[]⟩,r):=by rw[D,i];rfl
   have a4:=I a2;have a5:=I a3;have a6:=I a1;go_wp2_with fail;refine Zv λW3 J=>?_;have q:Below _ _ _:=J▸Yc;have a7:U<|Ya _ _ _ 229:=J▸YO;have a8:=I<|Zi m<|ZB q;have K:=I<|a6.below q;have a9:=I<|a5.below q;refine(yx K).m ?_;rintro e w4 ⟨n,v,rfl,c,s⟩;have L:=I<|Zi a8 s;have b0:=I<|a9.read K s;have M:=I<|a7.grown s<|by simp;omega
   cases j:Ua r2 with
   |error er=>
    have l:=I<|c.err j;obtain⟨fa,rfl⟩:=l.shape;have f:U<|Xu o ts=.error er:=by rw[G,j];rfl
    go_wp2;go_ret2;exact⟨_,_,C,.inl C,by rwa [f.o],L⟩
   |ok pr=>
    obtain⟨n',r4⟩:=pr;obtain⟨rfl,⟨k4,b1⟩,hn⟩:=c.good j;subst hn;have b2:U<|Xu o ts=bnd (Zf [41] r4) λ_ r=>.ok (TW ⟨2,o,n,nd.name,nd.kq,[]⟩,r):=by rw[G,j];rfl
    have b3:=I b1;have e0:=M.cell 0;have e1:=M.cell 1;simp only[Yf]at e0 e1;have x:=I<|b3.below<|(Ym _ _).drew;have Q:=I<|Zi L<|ZB<|(Ym _ _).drew;have S:=I<|b0.below<|(Ym _ _).drew;go_upto_region 10 with fail;go_region_held3 (λu=>u.cell? ⟨z.heap.size,0,none⟩=some (.string nm)/\u.cell? ⟨z.heap.size,1,none⟩=some (.slice la ln lc)) (first|exact⟨e90,e91⟩|exact⟨e0,e1⟩|go_keep) (first
     | (go_at_call 293;refine(Qh x.o ⟨#[41]⟩ N N).m ?_;rintro e A ⟨v,rfl,c,g⟩;have e90:A.cell? ⟨z.heap.size,0,none⟩=some (.string nm):=(PD (a:=⟨z.heap.size,0,none⟩)<|g.block _ (Xi _ _ e0)<|by simp;omega).trans e0;have e91:A.cell? ⟨z.heap.size,1,none⟩=some (.slice la ln lc):=(PD (a:=⟨z.heap.size,1,none⟩)<|g.block _ (Xi _ _ e1)<|by simp;omega).trans e1;have b4:U<|w.grownBy A<|some R.b:=Zi Q.o g;have b5:U<|Z0 A (.slice la ln lc) nd.kq:=S.read x.o g;clear g));all_goals
     go_wp2;go_ret2;refine⟨_,_,C,.inr ⟨_,_,C⟩,?_,b4⟩;rw[b2];rcases P8 [41] r4 with⟨_,d⟩|⟨_,d⟩
     .obtain⟨P,h2,_⟩:=c.good d;rw[d];exact⟨P,h2,.inr<|.inr<|.inl ⟨C,O,nm,la,ln,lc,C,V,a4,b5⟩⟩
     .have:=c.err d;rw[d];exact this
 .have f:U<|Xu o ts=.error (2,(hd ts).at_):=by rw[Ap,d];rfl
  have l:=I<|c.err d;obtain⟨fa,rfl⟩:=l.shape;go_wp2;go_ret2;exact⟨_,_,C,.inl C,by rwa [f.o],B⟩
end
section
def PM(f:FuncId)(args:Nat->List F)(P:List Yg->Nat->Yl Tr)(ok:List Yg->Prop):Prop:=∀(w:Y)(R:RS)(k:Nat)(ts:List Yg)(deep:Nat),RK w R k ts->deep<=20->ok ts->
 CP f ⟨Vp R.b::args deep⟩ w λe w'=>∃(pv v:F),e=.returned (.tuple #[pv,v])/\Ld pv/\U (U4 R (λw' t=>Zo w' t pv) w' (P ts deep) v)/\w.grownBy w' (some R.b)
theorem uL (Q:PM 217 (λd=>[E 0,E (d+1:Nat)]) (rec 0) λts=>ts.length<m):
 PM 275 (λd=>[E (d+1:Nat)]) (Z9 rec) λts=>ts.length<=m:=by
  intro w R k ts deep h hd u;have H:=I h;have S:=I hd;have T:=I u;go_enter func275,ntmps275;go_wp2_with fail;refine(Qh H _ N N).m ?_;rintro e Z ⟨v,rfl,c,V⟩;have j:=I V;rcases P8 [40] ts with⟨q,f⟩|⟨q,f⟩
  · obtain⟨rfl,⟨k1,x⟩,_⟩:=c.good f;have A:=I x;have l:U<|Z9 rec ts deep=bnd (rec 0 ts.tail deep) λa r=>bnd (Zf [41] r) λ_ r=>.ok (a,r):=by unfold Z9;rw[f];rfl
    go_wp2_with fail;refine(Q _ R _ _ _ A S<|by show ts.tail.length<m;have:=H.pos;have:=T.o;rw[Rz];omega).m ?_;rintro e z ⟨pv,v,rfl,B,c,D⟩;have n:=I<|Zi j D;cases g:rec 0 ts.tail deep with
   |error er=>
    have s:=I<|c.err g;obtain⟨fa,rfl⟩:=s.shape;have i:U<|Z9 rec ts deep=.error er:=by rw[l,g];rfl
    go_wp2;go_ret2;exact⟨_,_,C,.inl C,by rwa [i.o],n⟩
   |ok pr=>
    obtain⟨t,r2⟩:=pr;obtain⟨rfl,⟨k2,G⟩,J⟩:=c.good g;have K:U<|Z9 rec ts deep=bnd (Zf [41] r2) λ_ r=>.ok (t,r):=by rw[l,g];rfl
    have o:=I G;have L:=I J;go_wp2_with fail;refine(Qh o _ N N).m ?_;rintro e w3 ⟨v,rfl,c,p⟩;have M:=I<|Zi n p;have O:=I<|L.read o p;have P:=I B;go_wp2;go_ret2;refine⟨_,_,C,P,?_,M⟩;rw[K];rcases P8 [41] r2 with⟨_,f⟩|⟨_,f⟩
    .obtain⟨q,W,_⟩:=c.good f;rw[f];exact⟨q,W,O⟩
    .have:=c.err f;rw[f];exact this
  · have i:U<|Z9 rec ts deep=.error (2,(LS.hd ts).at_):=by unfold Z9;rw[f];rfl
    have s:=I<|c.err f;obtain⟨fa,rfl⟩:=s.shape;go_wp2;go_ret2;exact⟨_,_,C,.inl C,by rwa [i.o],j⟩
theorem DH (rec:Nat->List Yg->Nat->Yl Tr)(g:Nat)(ts:List Yg)(deep:Nat):Tf rec g ts deep=bnd (Zf UZ ts) λ_ r=>bnd (bnd (Zf [40] r) λ_ r=>ZI (Zk 2) [41] (r.length+1) [] r) λns r=>bnd (Z9 rec r deep) λa r=>.ok (.node 0 0 ⟨5,g,0,[],[],ns⟩ a .nil,r):=by
 unfold Tf;cases c:Zf UZ ts with
 |error e=>rfl
 |ok p1=>
  obtain⟨a1,r1⟩:=p1;simp only[bnd];cases d:Zf [40] r1 with
  |error e=>rfl
  |ok p2=>rfl
theorem nT {r:List Yg}(h:(bnd (Zf [40] ts) λ_ r=>ZI (Zk 2) [41] (r.length+1) [] r)=.ok (ns,r)):r.length<=ts.length:=by
 have l:∀(n:Nat)(acc:List _)(ts:List _)(z:List _×List _),ZI (Zk 2) [41] n acc ts=.ok z->z.2.length<=ts.length:=by
  intro n;induction n with
  |zero=>intro acc ts z h;cases h
  |succ n ih=>
   intro acc ts z h;by_cases j:Yk [41] (hd ts)=true
   .rw[Fp j]at h;cases h;simp
   · have f:=Qs.2 j;by_cases k:acc=[]
     .subst k;rw[Fq f]at h;cases d:Zk 2 ts with
      |error e=>rw[d]at h;cases h
      |ok p=>
       obtain⟨a,r⟩:=p;rw[d]at h;have g:=ih _ _ _ h;have i:=KH d;subst i;simp at g;omega
     · rw[Fs f k]at h;rcases P8 [44] ts with⟨_,c⟩|⟨_,c⟩
       .rw[c]at h;simp only[bnd]at h;cases d:Zk 2 ts.tail with
        |error e=>rw[d]at h;cases h
        |ok p=>
         obtain⟨a,r⟩:=p;rw[d]at h;have g:=ih _ _ _ h;have i:=KH d;subst i;simp at g;omega
       .rw[c]at h;cases h
 rcases P8 [40] ts with⟨_,c⟩|⟨_,c⟩
 .rw[c]at h;have:=l _ _ _ _ h;simp at this;omega
 .rw[c]at h;cases h
theorem qJ (hp:PM 275 (λd=>[E (d+1:Nat)]) (Z9 rec) λts=>ts.length<=m){x:BA}(g:Nat)(D:bl x=Wu.getD g []):
 PM 277 (λd=>[.string x,E (d+1:Nat)]) (Tf rec g) λts=>ts.length<=m:=by
  intro w R k ts deep h hd G;have H:=I h;have J:=I D;have HD:=I hd;have HM:=I G;go_enter func277,ntmps277;go_wp2_with fail;refine(fL H N N).m ?_;rintro e w1 ⟨v,rfl,c,hg⟩;have l:=I hg;rcases P8 UZ ts with⟨A,f⟩|⟨A,f⟩
  · obtain⟨rfl,⟨k1,K⟩,_⟩:=c.good f;have L:=I K;have n:U<|Tf rec g ts deep=bnd (bnd (Zf [40] ts.tail) λ_ r=>ZI (Zk 2) [41] (r.length+1) [] r) λns r=>bnd (Z9 rec r deep) λa r=>.ok (.node 0 0 ⟨5,g,0,[],[],ns⟩ a .nil,r):=by rw[DH,f];rfl
    go_wp2_with fail;refine(nU L N N).m ?_;rintro e z ⟨la,ln,lc,v,rfl,c,M⟩;have o:=I<|Zi l M;cases i:(bnd (Zf [40] ts.tail) λ_ r=>ZI (Zk 2) [41] (r.length+1) [] r)with
   |error er=>
    have B:=I<|c.err i;obtain⟨fa,rfl⟩:=B.shape;have j:U<|Tf rec g ts deep=.error er:=by rw[n,i];rfl
    go_wp2;go_ret2;exact⟨_,_,C,.inl C,by rwa [j.o],o⟩
   |ok pr=>
    obtain⟨ns,r2⟩:=pr;obtain⟨rfl,⟨k2,O⟩,P⟩:=c.good i;have Q:U<|Tf rec g ts deep=bnd (Z9 rec r2 deep) λa r=>.ok (.node 0 0 ⟨5,g,0,[],[],ns⟩ a .nil,r):=by rw[n,i];rfl
    have p:=I O;have S:=I P;have T:U<|r2.length<=m:=I<|by have:=nT i;have:=HM.o;rw[Rz]at*;omega
    go_wp2_with fail;refine(hp _ R _ _ _ p HD T).m ?_;rintro e w3 ⟨pv,v,rfl,V,c,q⟩;have W:=I<|Zi o q;have Z:=I<|S.read p q;rcases V with rfl|⟨ty,u,rfl⟩;all_goals
     go_wp2;go_ret2;refine⟨_,_,C,.inr ⟨_,_,C⟩,?_,W⟩;rw[Q];cases s:Z9 rec r2 deep with
     |error er=>exact c.err s
     |ok pr=>
      obtain⟨t,r3⟩:=pr;obtain⟨A,h2,h3⟩:=c.good s;exact⟨A,h2,.inr<|.inr<|.inr<|.inr<|.inl ⟨C,x,la,ln,lc,_,C,J,Z,h3⟩⟩
  · have j:U<|Tf rec g ts deep=.error (2,(LS.hd ts).at_):=by rw[DH,f];rfl
    have B:=I<|c.err f;obtain⟨fa,rfl⟩:=B.shape;go_wp2;go_ret2;exact⟨_,_,C,.inl C,by rwa [j.o],l⟩
theorem Ga{w:LB}:∀{l:List<|LB}{g:Nat},Y7 w l=some g->l.getD g []=w
 |[],_,h=>by cases h
 |x::l,g,h=>by
  unfold Y7 at h;by_cases a:x=w
  .rw[Ye a]at h;cases h;exact a
  .rw[Yd a]at h;cases c:Y7 w l with
   |none=>rw[c]at h;cases h
   |some j=>
    rw[c]at h;cases h;exact Ga (l:=l) c
theorem vB{p:Yu}(h:SM p t)(f:RL t)(d:t.jj<=5):Lk p=Qf t:=by
 have m1:=R8 h f d (s:=⟨#[45]⟩) N N;have m2:=R8 h f d (s:=⟨#[40]⟩) N N;have g:p.tx.toList=t.txt:=by rw[ZA];exact h.2.2.1
 unfold Lk Qf;have a:=P3 d;have c:=h.1;by_cases k1:t.jj=1
 .have e:((p.kd:Int)==0)=true:=by rw[c,a.2.2.2.1.2 k1];rfl
  rw[e,k1];simp
 .have e:((p.kd:Int)==0)=false:=by
   rw[YB];intro e;exact k1<|a.2.2.2.1.1 X
  rw[e,YB.2 k1];by_cases k2:t.jj=2
  .have e2:((p.kd:Int)==1)=true:=by rw[c,a.2.1.2 k2];rfl
   have z1:Yk [45] t=false:=by rw[<-show ZU p _=Yk [45] t from m1];unfold ZU;rw[c,a.2.1.2 k2];rfl
   have z2:Yk [40] t=false:=by rw[<-show ZU p _=Yk [40] t from m2];unfold ZU;rw[c,a.2.1.2 k2];rfl
   rw[e2,z1,z2,k2,g];unfold Yk;rw[k2];simp[UD,UZ]
  .have e2:((p.kd:Int)==1)=false:=by
    rw[YB];intro e;exact k2<|a.2.1.1 X
   rw[e2,YB.2 k2,show ZU p _=Yk [45] t from m1,show ZU p _=Yk [40] t from m2];simp
theorem rZ(h:(hd ts).jj=1):ZR rec ts d=.ok (TW ⟨0,0,Wz (hd ts).txt,[],[],[]⟩,ts.tail):=Ye h
theorem rY (h:¬(hd ts).jj=1)(c:Yk [45] (hd ts)=true):ZR rec ts d=bnd (rec 3 ts.tail d) λa r=>.ok (.node 0 0 (VM 3 0) a .nil,r):=by
 unfold ZR;rw[Yd h,Ye c]
theorem qc(h:¬(hd ts).jj=1)(a:¬Yk [45] (hd ts)=true)(c:Yk [40] (hd ts)=true):ZR rec ts d=Z9 rec ts d:=by
 unfold ZR;rw[Yd h,Yd a,Ye c]
theorem rW(h:¬(hd ts).jj=1)(a:¬Yk [45] (hd ts)=true)(c:¬Yk [40] (hd ts)=true)(e:Y7 (hd ts).txt Wu=some g):ZR rec ts d=Tf rec g ts.tail d:=by
 unfold ZR;rw[Yd h,Yd a,Yd c,e]
theorem qb(h:¬(hd ts).jj=1)(a:¬Yk [45] (hd ts)=true)(c:¬Yk [40] (hd ts)=true)(e:Y7 (hd ts).txt Wu=none)(f:Y7 (hd ts).txt WN=some o):ZR rec ts d=Xu o ts.tail:=by
 unfold ZR;rw[Yd h,Yd a,Yd c,e];simp only;rw[f]
theorem qa (h:¬(hd ts).jj=1)(a:¬Yk [45] (hd ts)=true)(c:¬Yk [40] (hd ts)=true)(e:Y7 (hd ts).txt Wu=none)(f:Y7 (hd ts).txt WN=none):ZR rec ts d=bnd (YP ts) λp r=>.ok (TW p,r):=by
 unfold ZR;rw[Yd h,Yd a,Yd c,e];simp only;rw[f]
theorem fp(h:Qf t=true):¬(t.jj=0\/t.jj=5):=by
 rintro(a|a);all_goals
  unfold Qf Yk at h;rw[a]at h;simp at h
theorem tY
 (c4:PM 246 (λd=>[E (d+1:Nat)]) (rec 3) λts=>ts.length<m)
 (b7:PM 275 (λd=>[E (d+1:Nat)]) (Z9 rec) λts=>ts.length<=m):
 PM 246 (λd=>[E (d+1:Nat)]) (Ug rec) λts=>ts.length<=m:=by
 intro w R k ts deep h c5 c6;have H:=I h;have HD:=I c5;have HM:=I c6;have d1:=(Xr.1 h.rd.cells).1;go_enter func246,ntmps246;go_wp2_with fail;refine(QL H).m ?_;rintro e w1 ⟨⟨kd,at_,tx,tv⟩,rfl,M,b8⟩;have a8:U<|w.grownBy _<|some R.b:=ZB b8;have b9:=I<|H.below b8;go_upto_region 2 with fail;refine Zs λW2 a9=>?_;have b0:Below _ _ _:=a9▸Yc;have O:U<|Ya _ _ [.int _ _,.int _ _,.string _,.int _ _] 389:=a9▸YO;have c7:=I<|Zi a8<|ZB b0;have c0:=I<|b9.below b0;have d2:R.b<w1.heap.size:=by have:=a8.size;omega
 have q:=I c0.wf.head;clear a9 b0 a8 b9;have t0:=O.cell 0;have t1:=O.cell 1;have t2:=O.cell 2;have t3:=O.cell 3;simp only[Yf]at t0 t1 t2 t3;go_wp2_with fail;refine(vA ⟨kd,at_,tx,tv⟩ W2).m ?_;rintro e w3 ⟨rfl,b1⟩;rw[vB M q.1 q.2.2];have n:=I<|O.below b1;have P:=I<|Zi c7<|ZB b1;have p:=I<|c0.below b1;cases Q:Qf<|LS.hd ts
 .have b2:U<|Ug rec _ deep=.error _:=I<|by unfold Ug;rw[Yd<|by rw[Q];decide]
  go_wp2_with fail;refine(Oy p).m ?_;rintro e wE ⟨v,rfl,HE,c8⟩;obtain⟨fa,rfl⟩:=HE.shape;have b3:=I<|Zi P<|ZB c8;go_wp2;go_ret2;exact⟨_,_,C,.inl C,by rwa [b2.o],b3⟩
 .have a2:=I<|fp Q;by_cases L:deep=20
  .have b2:U<|Ug rec _ _=.error _:=I<|by unfold Ug;rw[Ye Q,Ye L]
   subst L;have t1:=n.cell;have d3:=p.dp;go_wp2_with fail;refine(Gm _ _).m ?_;rintro e wE ⟨rfl,b4⟩;have HE:U<|WJ wE R (3,(LS.hd _).at_) _:=I<|.inr ⟨C,w3.heap.size,C,by rw[b4];refine YO.trans ?_;rw[show(at_:Int)=((LS.hd _).at_)from congrArg _ M.2.1]⟩;have b3:U _:=b4▸Vh P.o _;clear b4;go_wp2;go_ret2;exact⟨_,_,C,.inl C,by rwa [b2.o],b3⟩
  .have d0:deep<=19:=X;have D:U<|Ug _ _ _=ZR rec _ _:=I<|by unfold Ug;rw[Ye Q,Yd L]
   obtain⟨rc0,rc1,rfz,rcx⟩:=p.rd.all;have d4:=p.lt;have d5:=p.len;clear rcx Q L;have t0:=n.cell 0;have t1:=n.cell 1;have t2:=n.cell 2;have t3:=n.cell 3;simp only[Yf]at t0 t1 t2 t3;by_cases r:(LS.hd ts).jj=1
   .have c1:kd=0:=by have:=M.1;rw[r]at this;exact this
    subst c1;have c9:U<|(tv)=Wz _:=M.2.2.2 r;have f:U<|Ug _ _ _=.ok _:=I<|by rw[D,rZ r]
    clear r;go_upto_region 8 with fail;refine Zs λW8 a=>?_;have s:U _:=a▸p.step a2.o;have x:U _:=a▸Zn P.o (Or.inl C) _;have S:U<|Ya _ _ _ _:=a▸n.other (by show w1.heap.size≠R.b;omega) _;clear a rc0 rc1 rfz t0 t1 t2 t3;have t3:=S.cell;go_wp2;go_ret2;exact⟨_,_,C,.inr ⟨_,_,C⟩,f.o▸⟨C,⟨_,s.o⟩,Or.inl ⟨C,by rw[<-c9.o];rfl⟩⟩,x⟩
   .have c1:((kd:Int)==0)=false:=by
     rw[YB];intro e;exact r<|(P3 q.2.2).2.2.2.1.1<|by have:=M.1;simp only at this;omega
    have z:=I r;clear r;go_wp2_with fail;refine(Nu M.o q.1 q.2.2 _ N N w3).m ?_;rintro e w4 ⟨rfl,a3⟩;have A:=I<|n.below a3;have a4:=I<|Zi P<|ZB a3;have T:=I<|p.below a3;clear a3 n P p t0 t1 t2 t3 rc0 rc1 rfz;obtain⟨rc0,rc1,rfz,rcx⟩:=T.rd.all;have t0:=A.cell 0;have t1:=A.cell 1;have t2:=A.cell 2;have t3:=A.cell 3;simp only[Yf]at t0 t1 t2 t3;clear rcx;by_cases G:Yk [45] (LS.hd ts)=true
    .rw[show Yk (bl ⟨#[45]⟩) _=true from G];have f:U<|Ug _ _ _=bnd _ _:=I<|by rw[D,rY z G]
     clear G;go_upto_region 11 with fail;refine Zs λW8 a=>?_;have s:U _:=a▸T.step a2.o;have x:U _:=a▸Zn a4.o (Or.inl C) _;clear a rc0 rc1 rfz t0 t1 t2 t3 T a4 A;go_wp2_with fail;refine(c4 _ R _ _ _ s X<|by show ts.tail.length<m;have:=H.pos;have:=HM.o;rw[Rz];omega).m ?_;rintro e w9 ⟨pv,v,rfl,j,i,c⟩;have l:=I<|Zi x c;clear c;rcases j with rfl|⟨ty,u,rfl⟩;all_goals
      go_wp2;go_ret2;refine⟨_,_,C,.inr ⟨_,_,C⟩,?_,l⟩;rw[f];cases c2:rec 3 ts.tail<|deep+1with
      |error er=>exact i.err c2
      |ok pr=>
       obtain⟨t,r3⟩:=pr;obtain⟨h1,h2,h3⟩:=i.good c2;exact⟨h1,h2,.inr<|.inr<|.inr<|.inl ⟨C,_,C,h3⟩⟩
    .rw[show Yk (bl ⟨#[45]⟩) _=false from Qs.2 G];have a5:=I G;clear G;go_wp2_with fail;refine(Nu M.o q.1 q.2.2 _ N N w4).m ?_;rintro e w5 ⟨rfl,a6⟩;have V:=I<|A.below a6;have J:=I<|Zi a4<|ZB a6;have B:=I<|T.below a6;clear a6 A a4 T t0 t1 t2 t3 rc0 rc1 rfz;obtain⟨rc0,rc1,rfz,rcx⟩:=B.rd.all;have t2:=V.cell 2;simp only[Yf]at t2;clear rcx;by_cases K:Yk [40] (LS.hd ts)=true
     .rw[show Yk (bl ⟨#[40]⟩) _=true from K];have f:U<|Ug _ _ _=Z9 _ _ _:=I<|by rw[D,qc z a5 K]
      clear K;go_wp2_with fail;refine(b7 _ R k _ _ B X HM).m ?_;rintro e w9 ⟨pv,v,rfl,j,i,c⟩;have l:=I<|Zi J c;have W:=I j;clear c j;go_wp2;go_ret2;exact⟨_,_,C,W,by rwa [f.o],l⟩
     .rw[show Yk (bl ⟨#[40]⟩) _=false from Qs.2 K];have a1:=I K;have a7:U<|bl tx=(LS.hd _).txt:=M.2.2.1;clear K;go_wp2_with fail;refine(Dh _ _).m ?_;rintro e wq ⟨rfl,rfl⟩;rw[a7];cases Z:Y7 (LS.hd ts).txt Wu with
      |some g=>
       have f:U<|Ug _ _ _=Tf _ g _ _:=I<|by rw[D,rW z a5 a1 Z]
       have b5:U<|bl _=Wu.getD g _:=I<|by rw[Ga Z,a7]
       rw[show(some g).isSome=true from C];clear Z;go_upto_region 17 with fail;refine Zs λW8 a=>?_;have s:U _:=a▸B.step a2.o;have x:U _:=a▸Zn J.o (Or.inl C) _;have S:U<|Ya _ _ _ _:=a▸V.other (by show w1.heap.size≠R.b;omega) _;clear a rc0 rc1 rfz t2 B J V;have t2:=S.cell;go_wp2_with fail;refine(qJ b7 g b5 _ R _ _ _ s X<|by show ts.tail.length<=m;have:=HM.o;rw[Rz];omega).m ?_;rintro e w9 ⟨pv,v,rfl,j,i,c⟩;have l:=I<|Zi x c;have W:=I j;clear c j;go_wp2;go_ret2;exact⟨_,_,C,W,by rwa [f.o],l⟩
      |none=>
       rw[show(none).isSome=false from C];have c3:=I Z;clear Z;go_wp2_with fail;refine(Dl _ _).m ?_;rintro e wq ⟨rfl,rfl⟩;rw[a7];cases a0:Y7 (LS.hd ts).txt WN with
       |some o=>
        have f:U<|Ug _ _ _=Xu o _:=I<|by rw[D,qb z a5 a1 c3 a0]
        have b5:U<|bl _=WN.getD o _:=I<|by rw[Ga a0,a7]
        rw[show(some o).isSome=true from C];clear a0;go_upto_region 20 with fail;refine Zs λW8 a=>?_;have s:U _:=a▸B.step a2.o;have x:U _:=a▸Zn J.o (Or.inl C) _;have S:U<|Ya _ _ _ _:=a▸V.other (by show w1.heap.size≠R.b;omega) _;clear a rc0 rc1 rfz t2 B J V;have t2:=S.cell;go_wp2_with fail;refine(yy s o b5).m ?_;rintro e w9 ⟨pv,v,rfl,j,i,c⟩;have l:=I<|Zi x c;have W:=I j;clear c j;go_wp2;go_ret2;exact⟨_,_,C,W,by rwa [f.o],l⟩
       |none=>
        rw[show(none).isSome=false from C];have f:U<|Ug _ _ _=bnd _ _:=I<|by rw[D,qa z a5 a1 c3 a0]
        clear a0;go_wp2_with fail;refine(A0 B).m ?_;rintro e w9 ⟨nm,la,ln,lc,v,rfl,i,c⟩;have l:=I<|Zi J c;clear c;go_wp2;go_ret2;refine⟨_,_,C,.inr ⟨_,_,C⟩,?_,l⟩;rw[f];cases b6:YP ts with
        |error er=>exact i.err b6
        |ok pr=>
         obtain⟨nd,r3⟩:=pr;obtain⟨h1,h2,h3,h4⟩:=i.good b6;exact⟨h1,h2,.inr<|.inl ⟨(FI b6).2.1,nm,la,ln,lc,C,h3,h4⟩⟩
theorem ke{p:Yu}(h:SM p u)(d:RL u)(e:u.jj<=5)(f:lv<=2){kd op:Nat}(c:LS.opAt lv u=some (kd,op)):∃j,TI p=some j/\j<=4/\SW j=lv/\XU (VM kd op)=j/\(kd=4\/kd=6)/\¬(u.jj=0\/u.jj=5):=by
 have m0:RG p ⟨#[111,114]⟩=Yk UD u:=FO h d e N N;have m1:ZU p ⟨#[43]⟩=Yk [43] u:=R8 h d e N N;have m2:ZU p ⟨#[45]⟩=Yk [45] u:=R8 h d e N N;have m3:ZU p ⟨#[42]⟩=Yk [42] u:=R8 h d e N N;have m4:ZU p ⟨#[47]⟩=Yk [47] u:=R8 h d e N N;unfold TI;rw[m0,m1,m2,m3,m4];unfold LS.opAt at c;rcases(X:lv=0\/lv=1\/lv=2)with rfl|rfl|rfl
 .by_cases a:Yk UD u=true
  .rw[Ye C,Ye a]at c;injection c with c;injection c with h1 h2;subst h1 h2;rw[Ye a];exact⟨0,C,N,C,C,.inr C,QA a⟩
  .rw[Ye C,Yd a]at c;cases c
 .rw[Yd N,Ye C]at c;by_cases a:Yk [43] u=true
  .rw[Ye a]at c;injection c with c;injection c with h1 h2;subst h1 h2;rw[PZ a N,Yd N,Ye a];exact⟨1,C,N,C,C,.inl C,QA a⟩
  .rw[Yd a]at c;by_cases b:Yk [45] u=true
   .rw[Ye b]at c;injection c with c;injection c with h1 h2;subst h1 h2;rw[PZ b N,Yd N,Yd a,Ye b];exact⟨2,C,N,C,C,.inl C,QA b⟩
   .rw[Yd b]at c;cases c
 .rw[Yd N,Yd N]at c;by_cases a:Yk [42] u=true
  .rw[Ye a]at c;injection c with c;injection c with h1 h2;subst h1 h2;rw[PZ a N,Yd N,PZ a N,Yd N,PZ a N,Yd N,Ye a];exact⟨3,C,N,C,C,.inl C,QA a⟩
  .rw[Yd a]at c;by_cases b:Yk [47] u=true
   .rw[Ye b]at c;injection c with c;injection c with h1 h2;subst h1 h2;rw[PZ b N,Yd N,PZ b N,Yd N,PZ b N,Yd N,Yd a,Ye b];exact⟨4,C,N,C,C,.inl C,QA b⟩
   .rw[Yd b]at c;cases c
theorem lZ{p:Yu}(h:SM p u)(a:RL u)(c:u.jj<=5)(e:lv<=2)(d:LS.opAt lv u=none):TI p=none\/∃j,TI p=some j/\j<=4/\SW j≠lv:=by
 have m0:RG p ⟨#[111,114]⟩=Yk UD u:=FO h a c N N;have m1:ZU p ⟨#[43]⟩=Yk [43] u:=R8 h a c N N;have m2:ZU p ⟨#[45]⟩=Yk [45] u:=R8 h a c N N;have m3:ZU p ⟨#[42]⟩=Yk [42] u:=R8 h a c N N;have m4:ZU p ⟨#[47]⟩=Yk [47] u:=R8 h a c N N;unfold TI;rw[m0,m1,m2,m3,m4];unfold LS.opAt at d;generalize Yk UD u=b0 at*;generalize Yk [43] u=b1 at*;generalize Yk [45] u=b2 at*;generalize Yk [42] u=b3 at*;generalize Yk [47] u=b4 at*;rcases(by omega:lv=0\/lv=1\/lv=2)with rfl|rfl|rfl<;>cases b0<;>cases b1<;>cases b2<;>cases b3<;>cases b4<;>first
  |exact Or.inl C
  |exact Or.inr ⟨0,C,N,N⟩
  |exact Or.inr ⟨1,C,N,N⟩
  |exact Or.inr ⟨2,C,N,N⟩
  |exact Or.inr ⟨3,C,N,N⟩
  |exact Or.inr ⟨4,C,N,N⟩
  |cases d
theorem lh (h:lv≠3):Zh (n+1) false lv .nil ts deep=bnd (Zh n false (lv+1) .nil ts deep) λa r=>Zh n true lv a r deep:=by
 show(if lv=3 then _ else _)=_;rw[Yd h]
theorem lf :Zh (n+1) false 3 .nil ts deep=Ug (λlv ts d=>Zh n false lv .nil ts d) ts deep:=by
 show(if 3=3 then _ else _)=_;rw[Ye C]
theorem lk(h:LS.opAt lv (hd ts)=none):Zh (n+1) true lv a ts deep=.ok (a,ts):=by
 show(match LS.opAt lv (hd ts)with|none=>_|some p=>_)=_;rw[h]
theorem lj {p:Nat×Nat}(h:LS.opAt lv (hd ts)=some p):Zh (n+1) true lv a ts deep=bnd (Zh n false (lv+1) .nil ts.tail deep) λb r=>Zh n true lv (.node 0 0 (VM p.1 p.2) a b) r deep:=by
 show(match LS.opAt lv (hd ts)with|none=>_|some p=>_)=_;rw[h]
def RP(lv n:Nat):Prop:=PM 217 (λd=>[E lv,E (d+1:Nat)]) (λts d=>Zh n false lv .nil ts d) λts=>10*ts.length+5<=n+lv
def RF(n:Nat):Prop:=PM 246 (λd=>[E (d+1:Nat)]) (λts d=>Zh n false 3 .nil ts d) λts=>10*ts.length+2<=n
theorem ll(g:RF n):RP 3 n:=by
 intro w R k ts deep h hd c;have i:U<|Calls _ _ #[.pointer _,.int _ _] w _:=g w R k _ _ h hd<|by show 10*ts.length+2<=n;have m:=c;omega
 go_enter func217,ntmps217;go_wp2_with fail;refine i.m ?_;rintro e o ⟨pv,v,rfl,d,a,j⟩;have f:=I d;have l:=I j;go_wp2;go_ret2;exact⟨_,_,C,f,a,l⟩
theorem lq(T:lv<=2)(hp:∀m,m<=n->RP (lv+1) m):RP lv<|n+1:=by
 intro w R k ts deep h hd a9;have H:=I h;have HD:=I hd;have c8:=a9;have d1:=(Xr.1 h.rd.cells).1;have HC:U<|∀m,m<=n->∀(w:Y)(k:Nat)(ts:List _),RK w R k _->10*ts.length+5<=m+(lv+1)->Calls _ _ #[.pointer _,.int _<|(lv)+1,.int _<|(deep)+1] w λe D=>∃(pv v:F),e=.returned _/\Ld _/\U (U4 R _ _ (Zh m _ _ _ _ _) v)/\w.grownBy _ _:=I λm hm w k ts h1 h2=>hp m hm w R k ts _ h1 hd h2;have h3:((lv:Int)==3)=false:=by rw[YB];omega
 obtain⟨PR,V⟩:∃PR,PR=Zh (n+1) false lv .nil ts deep:=⟨_,C⟩;have W:U<|PR=bnd _ _:=I<|by rw[V,lh X]
 show Calls _ _ _ _ λe D=>∃(pv v:F),e=.returned (.tuple #[pv,v])/\Ld pv/\U (U4 R (λD t=>Zo D t pv) D (Zh (n+1) false lv .nil ts deep) v)/\w.grownBy D (some R.b);rw[<-V];go_enter func217,ntmps217;go_wp2_with fail;refine(HC n (Yj _) w k _ H X).m ?_;rintro e w1 ⟨pv,v,rfl,b0,f,hg⟩;have Z:=I hg;cases c:Zh n false (lv+1) .nil ts deep with
 |error er=>
  have HE:=I<|f.err c;obtain⟨fa,rfl⟩:=HE.shape;have G:U<|PR=.error er:=by rw[W,c];rfl
  go_wp2;go_ret2;exact⟨_,_,C,.inl C,by rwa [G.o],Z⟩
 |ok pr=>
  obtain⟨a0,r0⟩:=pr;obtain⟨rfl,⟨k1,b1⟩,hv⟩:=f.good c;have b2:=I b1;have b3:=I hv;have b4:U<|Zh n true lv a0 r0 deep=PR:=by rw[W,c];rfl
  have c9:r0.length+1<=ts.length:=SS n _ _ _ _ _ _ c;go_wp2;go_loopg [8] r0.length (λg v8 wr=>∃(a:Tr)(r:List Yg)(k2 m:Nat),g=r.length/\U (Zo wr a v8)/\U (RK wr R k2 r)/\U (10*r.length+5<=m/\m<=n/\Zh m true lv a r deep=PR)/\U (w.grownBy wr<|some R.b));case atStart=>exact⟨a0,r0,k1,n,C,b3,b2,⟨X,Yj _,b4⟩,Z⟩
  case round=>
   obtain⟨a,r,k2,m,d2,HV,HK,J,HG⟩:=hrel;obtain⟨m,rfl⟩:∃m',m=m'+1:=⟨m-1,by have:=J.1;omega⟩;obtain⟨ty,u,b5⟩:=Zo.shape HV;subst b5;go_wp2_with fail;refine(QL HK).m ?_;rintro e z ⟨⟨kd,at_,tx,tv⟩,rfl,ht,K⟩;have a1:=I<|HK.below K;have b6:=I<|HV.below K;have b7:=I<|Zi HG<|ZB K;have o:=I a1.wf.head;go_wp2_with fail;refine(kg ⟨kd,at_,tx,tv⟩).m ?_;rintro e w3 ⟨rfl,L⟩;have d:=I<|a1.below L;have q:=I<|b6.below L;have s:=I<|Zi b7<|ZB L;cases i:LS.opAt lv (LS.hd r)with
   |none=>
    have l:U<|PR=.ok _:=I<|by rw[<-J.2.2,lk i]
    rcases lZ ht.o o.1 o.2.2 T i with B|⟨j,B,M,b8⟩
    .rw[B];go_wp2;go_ret2;exact⟨_,_,C,.inr ⟨_,_,C⟩,l.o▸⟨C,⟨_,d.o⟩,q.o⟩,s⟩
    .rw[B];have b9:((SW j:Int) !=lv)=true:=by rw[Vg];omega
     rw[show(some j).getD 0=j from C,show(some j).isSome=true from C];go_wp2_with(go_at_call 248;refine YK (GY j M) ?_);go_ret2;exact⟨_,_,C,.inr ⟨_,_,C⟩,l.o▸⟨C,⟨_,d.o⟩,q.o⟩,s⟩
   |some p=>
    obtain⟨j,B,M,b8,a2,O,x⟩:=ke ht.o o.1 o.2.2 T i;have l:U<|(bnd _ _)=PR:=I<|by rw[<-J.2.2,lj i]
    have a3:U<|XU _=j/\(p.1=4\/p.1=6):=⟨a2,O⟩;have c0:=I x;have b9:((SW j:Int) !=lv)=false:=by rw[bne_eq_false_iff_eq];omega
    rw[B,show(some j).getD 0=j from C,show(some j).isSome=true from C];obtain⟨rc0,rc1,rfz,rcx⟩:=d.rd.all;have d3:=d.lt;have d4:=d.len;have d5:=J.1;have d6:=J.2.1;clear i B a2 O x rcx;go_upto_region 10 with(go_at_call 248;refine YK (GY j M) ?_);refine Zs λW8 A=>?_;have P:U _:=A▸d.step c0.o;have c1:U _:=A▸Zn s.o (Or.inl C) _;have c2:U<|Zo W8 a<|.iface ty u:=A▸q.read d.o (Zn (Z2 _ _) (Or.inl C) _);have d0:=d.pos;have Q:=P.pos;rw[Rz]at Q;clear A rc0 rc1 rfz d s q;go_wp2_with fail;refine(HC m X _ _ _ P<|by rw[Rz];omega).m ?_;rintro e w9 ⟨pv,v,rfl,b0,f,a4⟩;have a5:=I<|Zi c1 a4;have c3:=I<|c2.read P a4;cases c:Zh m false (lv+1) .nil r.tail deep with
    |error er=>
     have HE:=I<|f.err c;obtain⟨fa,rfl⟩:=HE.shape;have G:U<|PR=.error er:=by rw[<-l,c];rfl
     go_wp2;go_ret2;exact⟨_,_,C,.inl C,by rwa [G.o],a5⟩
    |ok pr=>
     obtain⟨b,y⟩:=pr;obtain⟨rfl,⟨k9,c4⟩,a6⟩:=f.good c;have c5:=I c4;have c6:=I a6;have c7:U<|Zh m true lv (.node 0 0 (VM p.1 p.2) a b) y deep=PR:=by rw[<-l,c];rfl
     have S:=SS m _ _ _ _ _ _ c;simp only[Rz,O6,Q0]at S;obtain⟨ty2,u2,a7⟩:=Zo.shape a6;subst a7;have a8:U<|Zo _ (.node 0 0 _ a b) _:=I<|.inr<|.inr<|.inr<|.inr<|.inr ⟨a3.2,_,_,by rw[a3.1],c3,c6⟩;go_wp2;go_roundg y.length;case measure=>omega
     case rel=>exact⟨_,y,k9,m,C,a8,c5,⟨X,X,c7⟩,a5⟩
theorem Da:∀n,(∀lv,lv<=3->∀m,m<=n->RP lv m)/\(∀m,m<=n->RF m)
 |0=>by
  constructor
  .intro lv f m c w R k ts deep _ _ a;exact absurd (a) X
  .intro m c w R k ts deep _ _ a;exact absurd (a) X
 |n+1=>by
  obtain⟨d,g⟩:=Da n;have o:RF<|n+1:=by
   intro w R k ts deep h hd a;have p:=a;show Calls _ _ _ _ λe u=>∃(pv v:F),e=.returned (.tuple #[pv,v])/\Ld pv/\U (U4 R (λu t=>Zo u t pv) u (Zh (n+1) false 3 .nil ts deep) v)/\w.grownBy u (some R.b);rw[lf];refine tY ?_ (uL ?_) w R k _ _ h hd<|Yj _
   .intro w R k ts2 deep h hd i;exact g n (Yj _) w R k _ _ h hd<|by show 10*ts2.length+2<=n;have j:=i;omega
   .intro w R k ts2 deep h hd i;exact d 0 X n (Yj _) w R k _ _ h hd<|by show 10*ts2.length+5<=n+0;have j:=i;omega
  constructor
  · intro lv f m c;by_cases l:m<=n
    .exact d _ f m l
    · obtain rfl:m=n+1:=X;by_cases j:lv=3
      .subst j;exact ll o
      .exact lq X λm c=>d _ X m c
  · intro m c;by_cases l:m<=n
    .exact g m l
    .obtain rfl:m=n+1:=X;exact o
theorem IG(v:F)(w:Y):(Instr.typeAssert (.iface 424 v) 360 424 true).run prog w=.ok (.tuple #[v,.bool true]) w:=by rfl
theorem IF(v:F)(w:Y):(Instr.typeAssert (.iface 424 v) 360 426 true).run prog w=.ok (.tuple #[.agg #[.nilIface],.bool false]) w:=by rfl
theorem II(v:F)(w:Y):(Instr.typeAssert (.iface 424 v) 360 422 true).run prog w=.ok (.tuple #[.agg #[E 0,.nilIface,.nilIface],.bool false]) w:=by rfl
theorem IE(v:F)(w:Y):(Instr.typeAssert (.iface 424 v) 360 428 true).run prog w=.ok (.tuple #[.agg #[.string ByteArray.empty,S0,.nilIface],.bool false]) w:=by rfl
theorem IJ(v:F)(w:Y):(Instr.typeAssert (.iface 424 v) 360 433 true).run prog w=.ok (.tuple #[.agg #[.string ByteArray.empty,.string ByteArray.empty,S0,E 0],.bool false]) w:=by rfl
theorem KW(v:F)(w:Y):(Instr.typeAssert (.iface 424 v) 360 229 true).run prog w=.ok (.tuple #[.agg #[.string ByteArray.empty,S0],.bool false]) w:=by rfl
theorem I4(v:F)(w:Y):(Instr.typeAssert (.iface 426 v) 360 424 true).run prog w=.ok (.tuple #[.agg #[E 0],.bool false]) w:=by rfl
theorem I3(v:F)(w:Y):(Instr.typeAssert (.iface 426 v) 360 426 true).run prog w=.ok (.tuple #[v,.bool true]) w:=by rfl
theorem I5(v:F)(w:Y):(Instr.typeAssert (.iface 426 v) 360 422 true).run prog w=.ok (.tuple #[.agg #[E 0,.nilIface,.nilIface],.bool false]) w:=by rfl
theorem I2(v:F)(w:Y):(Instr.typeAssert (.iface 426 v) 360 428 true).run prog w=.ok (.tuple #[.agg #[.string ByteArray.empty,S0,.nilIface],.bool false]) w:=by rfl
theorem ID(v:F)(w:Y):(Instr.typeAssert (.iface 426 v) 360 433 true).run prog w=.ok (.tuple #[.agg #[.string ByteArray.empty,.string ByteArray.empty,S0,E 0],.bool false]) w:=by rfl
theorem KU(v:F)(w:Y):(Instr.typeAssert (.iface 426 v) 360 229 true).run prog w=.ok (.tuple #[.agg #[.string ByteArray.empty,S0],.bool false]) w:=by rfl
theorem IM(v:F)(w:Y):(Instr.typeAssert (.iface 422 v) 360 424 true).run prog w=.ok (.tuple #[.agg #[E 0],.bool false]) w:=by rfl
theorem IL(v:F)(w:Y):(Instr.typeAssert (.iface 422 v) 360 426 true).run prog w=.ok (.tuple #[.agg #[.nilIface],.bool false]) w:=by rfl
theorem IN(v:F)(w:Y):(Instr.typeAssert (.iface 422 v) 360 422 true).run prog w=.ok (.tuple #[v,.bool true]) w:=by rfl
theorem IK(v:F)(w:Y):(Instr.typeAssert (.iface 422 v) 360 428 true).run prog w=.ok (.tuple #[.agg #[.string ByteArray.empty,S0,.nilIface],.bool false]) w:=by rfl
theorem Gb(v:F)(w:Y):(Instr.typeAssert (.iface 422 v) 360 433 true).run prog w=.ok (.tuple #[.agg #[.string ByteArray.empty,.string ByteArray.empty,S0,E 0],.bool false]) w:=by rfl
theorem KX(v:F)(w:Y):(Instr.typeAssert (.iface 422 v) 360 229 true).run prog w=.ok (.tuple #[.agg #[.string ByteArray.empty,S0],.bool false]) w:=by rfl
theorem IY(v:F)(w:Y):(Instr.typeAssert (.iface 428 v) 360 424 true).run prog w=.ok (.tuple #[.agg #[E 0],.bool false]) w:=by rfl
theorem IX(v:F)(w:Y):(Instr.typeAssert (.iface 428 v) 360 426 true).run prog w=.ok (.tuple #[.agg #[.nilIface],.bool false]) w:=by rfl
theorem I0(v:F)(w:Y):(Instr.typeAssert (.iface 428 v) 360 422 true).run prog w=.ok (.tuple #[.agg #[E 0,.nilIface,.nilIface],.bool false]) w:=by rfl
theorem IW(v:F)(w:Y):(Instr.typeAssert (.iface 428 v) 360 428 true).run prog w=.ok (.tuple #[v,.bool true]) w:=by rfl
theorem I1(v:F)(w:Y):(Instr.typeAssert (.iface 428 v) 360 433 true).run prog w=.ok (.tuple #[.agg #[.string ByteArray.empty,.string ByteArray.empty,S0,E 0],.bool false]) w:=by rfl
theorem KT(v:F)(w:Y):(Instr.typeAssert (.iface 428 v) 360 229 true).run prog w=.ok (.tuple #[.agg #[.string ByteArray.empty,S0],.bool false]) w:=by rfl
theorem Gj(v:F)(w:Y):(Instr.typeAssert (.iface 433 v) 360 424 true).run prog w=.ok (.tuple #[.agg #[E 0],.bool false]) w:=by rfl
theorem Gi(v:F)(w:Y):(Instr.typeAssert (.iface 433 v) 360 426 true).run prog w=.ok (.tuple #[.agg #[.nilIface],.bool false]) w:=by rfl
theorem Gk(v:F)(w:Y):(Instr.typeAssert (.iface 433 v) 360 422 true).run prog w=.ok (.tuple #[.agg #[E 0,.nilIface,.nilIface],.bool false]) w:=by rfl
theorem Gh(v:F)(w:Y):(Instr.typeAssert (.iface 433 v) 360 428 true).run prog w=.ok (.tuple #[.agg #[.string ByteArray.empty,S0,.nilIface],.bool false]) w:=by rfl
theorem Gl(v:F)(w:Y):(Instr.typeAssert (.iface 433 v) 360 433 true).run prog w=.ok (.tuple #[v,.bool true]) w:=by rfl
theorem KZ(v:F)(w:Y):(Instr.typeAssert (.iface 433 v) 360 229 true).run prog w=.ok (.tuple #[.agg #[.string ByteArray.empty,S0],.bool false]) w:=by rfl
theorem Ge(v:F)(w:Y):(Instr.typeAssert (.iface 229 v) 360 424 true).run prog w=.ok (.tuple #[.agg #[E 0],.bool false]) w:=by rfl
theorem Gd(v:F)(w:Y):(Instr.typeAssert (.iface 229 v) 360 426 true).run prog w=.ok (.tuple #[.agg #[.nilIface],.bool false]) w:=by rfl
theorem Gf(v:F)(w:Y):(Instr.typeAssert (.iface 229 v) 360 422 true).run prog w=.ok (.tuple #[.agg #[E 0,.nilIface,.nilIface],.bool false]) w:=by rfl
theorem Gc(v:F)(w:Y):(Instr.typeAssert (.iface 229 v) 360 428 true).run prog w=.ok (.tuple #[.agg #[.string ByteArray.empty,S0,.nilIface],.bool false]) w:=by rfl
theorem Gg(v:F)(w:Y):(Instr.typeAssert (.iface 229 v) 360 433 true).run prog w=.ok (.tuple #[.agg #[.string ByteArray.empty,.string ByteArray.empty,S0,E 0],.bool false]) w:=by rfl
theorem KY(v:F)(w:Y):(Instr.typeAssert (.iface 229 v) 360 229 true).run prog w=.ok (.tuple #[v,.bool true]) w:=by rfl
attribute [local go_sem] IG IF II IE IJ KW I4 I3 I5 I2 ID KU IM IL IN IK Gb KX IY IX I0 IW I1 KT Gj Gi Gk Gh Gl KZ Ge Gd Gf Gc Gg KY
def KR(tp:Addr)(t:Tr)(kd:Int)(err:F):Prop:=(Zq t=0/\err=.iface 469 (.pointer<|some tp))\/(Zq t=1/\kd=0/\err=.nilIface)\/(Zq t=2/\kd=1/\err=.nilIface)
def Ma(w:Y)(tp:Addr):Prop:=w.cell? ⟨3,0,none⟩=some (.iface 469<|.pointer<|some tp)
theorem Ma.below(h:Ma w tp)(a:BW w w'):Ma w' tp:=(a.cell<|Xi _ _ h).trans h
def KC(t:Tr):Prop:=∀(w:Y)(v:F)(tp:Addr),Zo w t v->Ma w tp->
 CP 220 #[v] w λe w'=>∃(kd:Int)(err:F),e=.returned (.tuple #[E kd,err])/\U (KR tp t kd err)/\BW w w'
theorem yj{t:Tr}(h:KC t)(w:Y){v:F}(f:Zo w t v)(g:Ma w tp):
 CP 249 #[v] w λe j=>∃err:F,e=.returned err/\U ((Zq t=2/\err=.nilIface)\/(Zq t≠2/\err=.iface 469 (.pointer<|some tp)))/\BW w j:=by
 have k:=I<|h w v _ f g;have l:=I g;obtain⟨ty,u,rfl⟩:=Zo.shape f;go_enter func249,ntmps249;go_wp2_with fail;refine k.m ?_;rintro e m ⟨kd,err,rfl,n,i⟩;have d:=I i;have o:m.cell? _=some _:=l.below i;rcases n.o with⟨a,rfl⟩|⟨a,rfl,rfl⟩|⟨a,rfl,rfl⟩
 .have c:=I a;go_wp2;go_ret;exact⟨_,C,.inr ⟨by rw[c];decide,C⟩,d⟩
 .have c:=I a;go_wp2;go_ret;exact⟨_,C,.inr ⟨by rw[c];decide,C⟩,d⟩
 .have c:=I a;go_wp2;go_ret;exact⟨_,C,.inl ⟨c,C⟩,d⟩
theorem oF{x y:Nat}{a:Nd}{l r:Tr}(h:a.jj=4\/a.jj=6):Zq (.node x y a l r)=if Zq l=0\/Zq r=0\/(a.jj=6/\Zq l+Zq r≠4)then 0 else if Zq l+Zq r=2 then 1 else 2:=by
 show(if a.jj=0 then _ else _)=_;rw[Yd X,Yd X,Yd X,Yd X]
theorem qY{x y:Nat}{a:Nd}{l r:Tr}(G:a.jj=4\/a.jj=6)(J:KC l)(K:KC r)(w:Y){vl vr:F}(p:Zo w l vl)(d:Zo w r vr)(A:Ma w tp):
 CP 250 #[.agg #[E<|XU a,vl,vr]] w λe u=>∃(kd:Int)(err:F),e=.returned (.tuple #[E kd,err])/\U (KR tp (.node x y a l r) kd err)/\BW w u:=by
 obtain⟨tyl,ul,rfl⟩:=Zo.shape p;obtain⟨tyr,ur,rfl⟩:=Zo.shape d;have q:=I<|oF (x:=x) (y:=y) (l:=l) (r:=r) G;have a0:=I d;have Z:=I A;obtain⟨o,n⟩:∃o,o=XU a:=⟨_,C⟩;have L:(a.jj=6/\((o:Int)==0)=true)\/(a.jj=4/\((o:Int)==0)=false):=by
  rcases G with h|h
  .right;refine⟨h,?_⟩;rw[YB,n];unfold XU;rw[Yd X];omega
  .left;refine⟨h,?_⟩;rw[n];unfold XU;rw[Ye h];rfl
 rw[<-n];have M:=I λW s=>J W _ _ (p.below s)<|A.below s;have O:=I λW s=>K W _ _ (d.below s)<|A.below s;clear p d A J K G n;go_enter func250,ntmps250;go_upto_region 1 with fail;refine Zs λW0 t=>?_;have v:U _:=t▸Yc;have f:U<|Ya _ _ _ 422:=t▸YO;clear t;have p0:=f.cell 0;have p1:=f.cell 1;have p2:=f.cell 2;simp only[Yf]at p0 p1 p2;go_wp2_with fail;refine(M _ v).m ?_;rintro e w1 ⟨kd,err,rfl,P,B⟩;have g:=I<|v.trans<|B.mono v.size;have i:=I<|f.below B;have p0:=i.cell 0;have p1:=i.cell 1;have p2:=i.cell 2;simp only[Yf]at p0 p1 p2;rcases P.o with⟨j,rfl⟩|⟨j,rfl,rfl⟩|⟨j,rfl,rfl⟩
 .have H:U<|Zq _=0:=I<|by rw[q,Ye<|.inl j]
  go_wp2;go_ret2;exact⟨_,_,C,.inl ⟨H,C⟩,g⟩
 all_goals
  have Q:=I j;go_wp2_with fail;refine(O _ g).m ?_;rintro e z ⟨kd2,err2,rfl,R,D⟩;have c:=I<|g.trans<|D.mono g.size;have S:=I<|i.below D;have a1:z.cell? _=some _:=Z.below c;have p0:=S.cell;rcases R.o with⟨k,rfl⟩|⟨k,rfl,rfl⟩|⟨k,rfl,rfl⟩
  .have H:U<|Zq _=0:=I<|by rw[q,Ye<|.inr<|.inl k]
   go_wp2;go_ret2;exact⟨_,_,C,.inl ⟨H,C⟩,c⟩
  all_goals
   have T:=I k;rcases L with⟨V,n⟩|⟨V,n⟩;all_goals
    have m:=I<|show Zq (.node x y a l r)=_ by rw[q.o,Q.o,T.o,V]
    first
     | (go_wp2;go_ret2;exact⟨_,_,C,by first|exact Or.inr<|Or.inl ⟨by rw[m.o];rfl,C,C⟩|exact Or.inr<|Or.inr ⟨by rw[m.o];rfl,C,C⟩|exact Or.inl ⟨by rw[m.o];rfl,C⟩,c.o⟩)
     | (go_wp2;go_region;all_goals
      go_wp2;go_ret2;exact⟨_,_,C,Or.inl ⟨by rw[m.o];rfl,C⟩,by exact⟨c.os,c.tape,c.output,c.size,c.block⟩⟩)
theorem Hf:∀t:Tr,KC t
 |.nil=>λ_ _ _ h=>h.elim
 |.node x y a l r=>by
  have k:=Hf l;have D:=Hf r;intro w v tp H s;rcases H with⟨d,rfl⟩|⟨d,nm,la,ln,lc,rfl,_⟩|⟨d,J,nm,la,ln,lc,rfl,_⟩|⟨d,z,rfl,m⟩|⟨d,J,la,ln,lc,z,rfl,_,_,m⟩|⟨d,z1,z2,rfl,p,q⟩
  · have g:U<|Zq (.node x y a l r)=1:=by show(if a.jj=0 then _ else _)=_;rw[Ye d]
    go_enter func220,ntmps220;go_wp2;go_ret2;exact⟨_,_,C,.inr<|.inl ⟨g,C,C⟩,Yh⟩
  · have g:U<|Zq (.node x y a l r)=2:=I<|by show(if a.jj=0 then _ else _)=_;rw[Yd X,Ye<|Or.inl d]
    go_enter func220,ntmps220;go_wp2;go_ret2;exact⟨_,_,C,.inr<|.inr ⟨g,C,C⟩,Yh⟩
  · have g:U<|Zq (.node x y a l r)=2:=I<|by show(if a.jj=0 then _ else _)=_;rw[Yd X,Ye<|Or.inr d]
    go_enter func220,ntmps220;go_wp2;go_ret2;exact⟨_,_,C,.inr<|.inr ⟨g,C,C⟩,Yh⟩
  · have g:U<|Zq (.node x y a l r)=Zq l:=by show(if a.jj=0 then _ else _)=_;rw[Yd X,Yd X,Ye d]
    obtain⟨ty,u,rfl⟩:=Zo.shape m;have n:=I λW c=>k W _ _ (m.below c)<|s.below c;go_enter func220,ntmps220;go_wp2_with fail;refine Zv λW c=>?_;have f:U<|BW w W:=c▸Yh;refine(n W f).m ?_;rintro e G ⟨kd,err,rfl,i,o⟩;have j:=I<|f.trans<|o.mono f.size;go_wp2;go_ret2;exact⟨_,_,C,by unfold KR;rw[g];exact i,j⟩
  · have g:U<|Zq (.node x y a l r)=if Zq l=2 then 2 else 0:=by show(if a.jj=0 then _ else _)=_;rw[Yd X,Yd X,Yd X,Ye d]
    obtain⟨ty,u,rfl⟩:=Zo.shape m;have n:=I λW c=>yj k W (m.below c)<|s.below c;go_enter func220,ntmps220;go_wp2_with fail;refine Zv λW c=>?_;have f:U<|BW w W:=c▸Yh;refine(n W f).m ?_;rintro e G ⟨err,rfl,i,o⟩;have j:=I<|f.trans<|o.mono f.size;go_wp2;go_ret2;refine⟨_,_,C,?_,j⟩;rcases i.o with⟨A,B⟩|⟨A,B⟩
    .exact .inr<|.inr ⟨by rw[g,Ye A],C,B⟩
    .exact .inl ⟨by rw[g,Yd A],B⟩
  .obtain⟨ty,u,rfl⟩:=Zo.shape p;obtain⟨ty2,u2,rfl⟩:=Zo.shape q;have n:U<|∀W,Below _ w W->Calls _ _ _ W λe K=>∃(kd:Int)(err:F),e=.returned _/\U (KR _ (.node x y a l r) _ _)/\Below _ W _:=I λW c=>qY d k D W (p.below c) (q.below c)<|s.below c;go_enter func220,ntmps220;go_wp2_with fail;refine Zv λW c=>?_;have f:U<|BW w W:=c▸Yh;refine(n W f).m ?_;rintro e G ⟨kd,err,rfl,i,o⟩;have j:=I<|f.trans<|o.mono f.size;go_wp2;go_ret2;exact⟨_,_,C,i,j⟩
end
section
theorem JD(s:BA)(k:Nat){h:k<s.size}(a:p s[k]=true):run p ((bl s).drop k)=run p ((bl s).drop<|k+1)+1:=by
 rw[Td s k h,run,Ye a]
theorem BO(s:BA)(k:Nat){h:k<s.size}(a:p s[k]=false):run p ((bl s).drop k)=0:=by
 rw[Td s k h,run,Yd<|a▸Bool.false_ne_true]
theorem BL(s:BA)(k:Nat)(h:¬k<s.size):run p ((bl s).drop k)=0:=by
 rw[Ts<|by rw[Zb];omega];rfl
theorem gM(s:BA)(k:Nat)(w:Y)(l:s.size<=6000)(g:k<=s.size):
 CP 244 #[.string s,Vi k,.func (.func 197) #[] #[]] w λe u=>e=.returned (Vi ((k+run Zt ((bl s).drop k):Nat):Int))/\u=w:=by
 obtain⟨E,c⟩:∃E,E=k+run Zt ((bl s).drop k):=⟨_,C⟩;rw[<-c];have h:=I c;clear c;go_enter func244,ntmps244;go_wp2;go_loop [1] (λi=>∃j:Nat,j<=s.size/\i=Vi j/\U (E=j+run Zt ((bl s).drop j))) (λi=>s.size-(intOf i).toNat);case atStart=>exact⟨k,g,C,h⟩
 case round=>
  obtain⟨j,m,rfl,d⟩:=hrel;by_cases f:j<s.size
  .cases hd:Zt s[j]
   .have a:U<|E=j:=by rw[d,BO s j hd];rfl
    go_wp2_with(go_at_call 197;refine YK (Rp) ?_);go_ret;exact⟨by rw[a];rfl,C⟩
   .have a:U<|E=(j+1)+run Zt ((bl s).drop<|j+1):=I<|by rw[d,JD s j hd];omega
    go_wp2_with(go_at_call 197;refine YK (Rp) ?_);go_round;case rel=>exact⟨j+1,X,by go_num,a⟩
    case measure=>simp[intOf];omega
  .have a:U<|E=j:=by rw[d,BL s j f];rfl
   go_wp2;go_ret;exact⟨by rw[a];rfl,C⟩
theorem gN(s:BA)(k:Nat)(w:Y)(l:s.size<=6000)(g:k<=s.size):
 CP 244 #[.string s,Vi k,.func (.func 167) #[] #[]] w λe u=>e=.returned (Vi ((k+run Zl ((bl s).drop k):Nat):Int))/\u=w:=by
 obtain⟨E,c⟩:∃E,E=k+run Zl ((bl s).drop k):=⟨_,C⟩;rw[<-c];have h:=I c;clear c;go_enter func244,ntmps244;go_wp2;go_loop [1] (λi=>∃j:Nat,j<=s.size/\i=Vi j/\U (E=j+run Zl ((bl s).drop j))) (λi=>s.size-(intOf i).toNat);case atStart=>exact⟨k,g,C,h⟩
 case round=>
  obtain⟨j,m,rfl,d⟩:=hrel;by_cases f:j<s.size
  .cases hd:Zl s[j]
   .have a:U<|E=j:=by rw[d,BO s j hd];rfl
    go_wp2_with(go_at_call 167;refine YK (Qz) ?_);go_ret;exact⟨by rw[a];rfl,C⟩
   .have a:U<|E=(j+1)+run Zl ((bl s).drop<|j+1):=I<|by rw[d,JD s j hd];omega
    go_wp2_with(go_at_call 167;refine YK (Qz) ?_);go_round;case rel=>exact⟨j+1,X,by go_num,a⟩
    case measure=>simp[intOf];omega
  .have a:U<|E=j:=by rw[d,BL s j f];rfl
   go_wp2;go_ret;exact⟨by rw[a];rfl,C⟩
theorem St.tok(h:St w b pv s deep<|.ok ((),ts)):∃q:QV,YN w b q/\S2 q=hd ts/\q.tx.size<=s.size+2/\q.e=0/\q.deep=deep/\ts.tail.length+1=ts.length/\((hd ts).jj=1->(ZC 1000000000 (hd ts).txt).isSome=true):=by
 obtain⟨⟨q,d,i,j,f,g,k,a⟩,_⟩:=h;have:=XB.txt_le a;have e:(S2 q).txt=bl _:=C;rw[e,Zb,Zb]at this;have c:=XB.num a;rw[<-show LS.hd ts=S2 q from a.hd]at c;exact⟨q,d,a.hd.symm,this,g,f,a.pos.symm,c⟩
theorem Fi{c d:Y}{pv3:F}{R:Yl Tr}{p:PV}(f:Yv b pv w pv c)(h:St c b pv s deep r2)(o2:c.ownsRow 0 59 8 pv n xs)
 (o:St d b pv3 s deep r2)(o3:d.ownsRow 0 59 8 pv3 (n+1)<|xs++p.cells)(k3:Yv b pv c pv3 d)(i:Xq M (n+1) R)(j:Zj R=r2)(k:∀t z,R=.ok (t,z)->∃nd,t=TW nd/\LD c nd p/\p.a=0/\p.b=0):Yi w b pv s deep xs M R n d:=by
 refine⟨n+1,pv3,p.cells,by rwa [j],o3,f.trans k3,i,?_⟩;intro t z e;obtain⟨nd,rfl,g,l,m⟩:=k t z e;exact⟨n,C,JA h o2 k3 p _ _ _ 0 0 g l m (Yr _) (Yr _) trivial trivial,C,C⟩
theorem nH{c d:Y}{pv2 pv8:F}{ys:List F}{R1 R:Yl Tr}{p:PV}(h:St c b pv2 s deep<|Zj R1)(o1:c.ownsRow 0 59 8 pv2 n2<|xs++ys)(k1:Yv b pv w pv2 c)
 (j:Xq M (n2+1) R1)(l:∀t z,R1=.ok (t,z)->∃k:Nat,i=k/\XF c (xs++ys) t k/\k+1=n2/\ys.length=8*WZ t)(m:St d b pv8 s deep<|Zj R1)(o3:d.ownsRow 0 59 8 pv8 (n2+1)<|(xs++ys)++p.cells)(k3:Yv b pv2 c pv8 d)
 (f:R=bnd R1 λa r=>.ok (.node 0 0 nd a .nil,r))(n:LD c nd p)(o:p.a=i)(q:p.b=0):Yi w b pv s deep xs M R n2 d:=by
 have g:Zj R=Zj R1:=by
  rw[f];cases R1 with
  |error e=>rfl
  |ok x=>rfl
 refine⟨n2+1,pv8,ys++p.cells,g▸m,by rwa [<-Vd],k1.trans k3,Xq.of_unit<|g▸Xq.unit j,?_⟩;intro t z e;rw[f]at e;obtain⟨a,r,e1,e2⟩:=Zw e;injection e2 with e2;injection e2 with e2 e3;subst e2;subst e3;obtain⟨k,q1,q2,q3,q4⟩:=l a r e1;refine⟨n2,C,?_,C,by rw[Yx,q4];show _+8=8*(WZ a+0+1);omega⟩;rw[<-Vd];exact JA h o1 k3 p _ a _ k 0 n (by rw[o,q1]) q X (Yr _) q2 trivial
theorem S3{q:QV}(h:S2 q=t):q.k=t.jj/\bl q.tx=t.txt:=by subst h;exact⟨C,C⟩
theorem rp(h:St w b pv s deep<|.ok ((),ts))(S:s.size<=5000){mi:Bool}(j:(hd ts).jj=1)
 (a:w.ownsRow 0 59 8 pv n xs)(T:M<=6000)(V:n+ts.length<=M):
 CP 270 #[Vp b,.bool mi,.bool op] w λe u=>∃i:Int,e=.returned (E i)/\Yi w b pv s deep xs M (ZR rec ts deep) i u:=by
 obtain⟨q,p,c,L,_,_,O,l⟩:=h.tok;obtain⟨c0,c1,c2,c3,c4,c5,c6,c7,c8⟩:=p.all;have P:((q.k:Int)==1)=true:=by rw[(S3 c).1,j];rfl
 have B:=I<|(S3 c).2;have m:U<|ZR rec ts deep=.ok (TW ⟨0,0,YL 1000000000 (hd ts).txt,[],[],[]⟩,ts.tail):=I<|by
  unfold ZR;rw[Ye j];obtain⟨v,r⟩:=MV.1<|l j;rw[RB r];unfold Wz;rw[r];rfl
 have H:=I h;have D:=I a;have x:q.tx.size<=6000:=X;clear h a p c c0 c1 c2 c5 c6 c7 c8;go_enter func270,ntmps270;go_wp2_with fail;refine(LI 1000000000 C x N).m ?_;rintro e G ⟨rfl,rfl⟩;rw[B];have Q:=Nz 1000000000 (hd ts).txt;generalize R:YL 1000000000 (hd ts).txt=nn at*;go_wp2_with fail;refine(St.next H X ⟨ts,C,X⟩).m ?_;rintro e W ⟨rfl,d,o⟩;have f:U<|St _ b _ s _<|.ok _:=d;have g:=I<|VZ H D o;have A:U<|Yv b _ _ pv _:=(Yv.refl _ _ _).grown o;clear d o c3 c4;go_wp2_with fail;refine(St.lay f.o g.o X ⟨0,nn,0,⟨#[]⟩,none,0,0,none,0,0,0,0⟩).m ?_;rintro e J ⟨pv3,rfl,s3,o3,k3⟩;have K:U<|Yi G b pv s deep xs M (ZR rec ts deep) n J:=by
  refine Fi A f g s3 o3 k3 ?_ ?_ ?_
  .rw[m];exact(show n+1+ts.tail.length<=M by omega)
  .rw[m];rfl
  .intro t z e;rw[m]at e;injection e with e;injection e with e _;exact⟨_,e.symm,⟨C,C,C,C,ZP.nil _ _ _ C C C,[],Xm _ _ _ _,C⟩,C,C⟩
 clear s3 o3 k3;go_wp2;go_ret;exact⟨_,C,K⟩
theorem rn(h:St w b pv s deep<|.ok ((),ts))(hs:s.size<=5000)(Q:(hd ts).jj≠1)(o:Yk [45] (hd ts)=true)
 (p:We 242 s (λts d=>rec 3 ts d) L)(hL:ts.length<=L+1)(c:w.ownsRow 0 59 8 pv n xs)(hM:M<=6000)(hB:n+ts.length<=M)(v:deep<=20):
 CP 270 #[Vp b,.bool true,.bool op] w λe u=>∃i:Int,e=.returned (E i)/\Yi w b pv s deep xs M (ZR rec ts deep) i u:=by
 obtain⟨q,x,f,a0,_,_,a1,R⟩:=h.tok;obtain⟨c0,c1,c2,c3,c4,c5,c6,c7,c8⟩:=x.all;have a2:((q.k:Int)==1)=false:=by rw[(S3 f).1,YB];omega
 have S:U<|ZR rec ts deep=bnd (rec 3 ts.tail deep) λa r=>.ok (.node 0 0 (VM 3 0) a .nil,r):=by unfold ZR;rw[Yd Q,o];rfl
 have H:=I h;have T:=I c;have V:=I p;have W:=QB o;clear h c x f c0 c1 c2 c4 c5 c6 c7 c8 p;go_enter func270,ntmps270;go_wp2_with fail;refine(St.next H X ⟨ts,C,W⟩).m ?_;rintro e w2 ⟨rfl,g,m⟩;have A:U<|St _ b _ s _<|.ok _:=g;have B:=I<|VZ H T m;have D:U<|Yv b _ w pv _:=(Yv.refl _ _ _).grown m;clear g m c3;go_wp2_with fail;refine(V _ b _ _ _ n _ _ A B X (show n+ts.tail.length<=M-1 by omega) (λt e=>by injection e with e;injection e with _ e;subst e;omega) v).m ?_;rintro e w3 ⟨i,rfl,G⟩;obtain⟨n3,pv3,ys,s3,o3,k3,b3,r3⟩:=G.o;have j:U<|St _ b _ s _<|Zj<|rec 3 _ _:=s3;have l:=I o3;have J:=I<|D.trans k3;have K:U<|Xq _ _<|rec 3 _ _:=b3;have O:U<|∀t z,rec 3 _ _=.ok _->∃k:Nat,i=k/\XF _ _ t k/\k+1=n3/\ys.length=8*WZ t:=r3;have P:n3<=6000:=by have:=b3.le;omega
 clear G s3 o3 k3 b3 r3;go_wp2_with fail;refine(St.lay j.o l.o P ⟨3,0,0,⟨#[]⟩,none,0,0,none,0,0,i,0⟩).m ?_;rintro e w4 ⟨pv4,rfl,s4,o4,k4⟩;have Z:U<|Yi w b _ s _ _ M _ _ _:=nH j l J (Xq.up K X) O s4 o4 k4 S ⟨C,C,C,C,ZP.nil _ _ _ C C C,[],Xm _ _ _ _,C⟩ C C;clear s4 o4 k4;go_wp2;go_ret;exact⟨_,C,Z⟩
theorem rq(h:St w b pv s deep<|.ok ((),ts))(j:(hd ts).jj≠1)(l:Yk [45] (hd ts)=false)(m:Yk [40] (hd ts)=true)
 (d:We 287 s (Z9 rec)<|L+1)(K:ts.length<=L+1)(a:w.ownsRow 0 59 8 pv n xs)(o:M<=6000)(O:n+ts.length<=M)(f:deep<=20):
 CP 270 #[Vp b,.bool false,.bool true] w λe u=>∃i:Int,e=.returned (E i)/\Yi w b pv s deep xs M (ZR rec ts deep) i u:=by
 obtain⟨q,g,c,D,_,_,G,p⟩:=h.tok;obtain⟨c0,c1,c2,c3,c4,c5,c6,c7,c8⟩:=g.all;have J:((q.k:Int)==1)=false:=by rw[(S3 c).1,YB];omega
 have r:U<|ZR rec ts deep=Z9 rec ts deep:=by unfold ZR;rw[Yd j,l,m];rfl
 have H:=I h;have v:=I a;have x:=I d;clear h a g c c0 c1 c2 c4 c5 c6 c7 c8 d;go_enter func270,ntmps270;go_wp2_with fail;refine(x w b _ _ _ n _ M H v o (show n+ts.length<=M by omega) (λt e=>by injection e with e;injection e with _ e;subst e;omega) f).m ?_;rintro e z ⟨i,rfl,A⟩;have B:U<|Yi w b pv s deep xs M (ZR rec ts deep) i z:=by rwa [r.o]
 clear A c3;go_wp2;go_ret;exact⟨_,C,B⟩
theorem Hc(h:BW w w'):Yv b pv w pv w':=⟨h.os,h.tape,h.output,h.size,λk a _ _=>h.block k a,.inl C⟩
theorem Yi.pre{R:Yl Tr}(a:Yv b pv w0 pv w)(h:Yi w b pv s deep xs M R i w'):Yi w0 b pv s deep xs M R i w':=by
 obtain⟨n',pv',ys,c,d,e,f,g⟩:=h.o;exact⟨n',pv',ys,c,d,a.trans e,f,g⟩
theorem DM{w:LB}{i:Nat}(h:Y7 w l=some i):Xk w l=i:=by unfold Xk;rw[h]
theorem H9{w:LB}(h:Y7 w l=none):Xk w l=-1:=by unfold Xk;rw[h]
theorem I7(d:(hd ts).jj=2)(a:Yk [45] (hd ts)=false)(c:Yk [40] (hd ts)=false):ZR rec ts deep=match Y7 (hd ts).txt Wu with
 |some g=>Tf rec g ts.tail deep
 |none=>match Y7 (hd ts).txt WN with
  |some o=>Xu o ts.tail
  |none=>bnd (YP ts) λp r=>.ok (TW p,r):=by
 unfold ZR;rw[Yd X,a,c];rfl
theorem rm(h:St w b pv s deep<|.ok ((),ts))(hs:s.size<=5000)(B:(hd ts).jj=2)(D:Yk [45] (hd ts)=false)(G:Yk [40] (hd ts)=false)(o:Y7 (hd ts).txt Wu=some g)
 (r:We 287 s (Z9 rec)<|L+1)(J:ts.length<=L+1)(a:w.ownsRow 0 59 8 pv n xs)(K:M<=6000)(O:n+ts.length<=M)(t:deep<=20):
 CP 270 #[Vp b,.bool false,.bool false] w λe u=>∃i:Int,e=.returned (E i)/\Yi w b pv s deep xs M (ZR rec ts deep) i u:=by
 obtain⟨q,p,c,V,_,_,W,_⟩:=h.tok;obtain⟨c0,c1,c2,c3,c4,c5,c6,c7,c8⟩:=p.all;have l:=p.lt;have Z:((q.k:Int)==1)=false:=by rw[(S3 c).1,YB];omega
 have P:U<|ZR _ _ _=Tf rec g _ deep:=I<|by rw[I7 B D G,o]
 have Q:U _:=(S3 c).2▸DM o;have H:=I h;have R:=I a;have S:=I r;clear h a p c c0 c1 c2 c5 c6 c7 c8 r o;go_enter func270,ntmps270;go_wp2_with fail;refine(Ot N).m ?_;rintro e w1 ⟨rfl,d⟩;rw[Je,Q];have d4:=(d.cell l).trans c4;have f:=I d;clear d c3 c4;go_wp2_with fail;refine(Ot N).m ?_;rintro e z ⟨rfl,m⟩;rw[Ju];have j:=I<|f.trans<|m.mono f.size;have v:=I<|St.kept H<|j.block b l;have x:=I<|Ze R j;generalize Xk (bl q.tx) WN=oi;clear m d4 f;go_wp2_with fail;refine(qD v X X g C S J x K O t).m ?_;rintro e w3 ⟨i,rfl,A⟩;have T:U<|Yi w b _ s _ _ M _ i _:=P.o▸A.pre (Hc j.o);clear A;go_wp2;go_ret;exact⟨_,C,T⟩
theorem Le.base{base:Nat}{p:PV}(h:Le w base p nd):Le w 0 p nd:=by
 obtain⟨a,c,qs,d,e⟩:=h;exact⟨a,c,qs,Jv d,e⟩
theorem ru(h:St w b pv s deep<|.ok ((),ts))(hs:s.size<=5000)(Z:(hd ts).jj=2)(hm:Yk [45] (hd ts)=false)(ho:Yk [40] (hd ts)=false)(P:Y7 (hd ts).txt Wu=none)(Q:Y7 (hd ts).txt WN=none)
 (hr:Qb (hd ts)=false)(rec:Nat->List Yg->Nat->Yl Tr)(f:w.ownsRow 0 59 8 pv n xs)(hM:M<=6000)(hB:n+ts.length<=M):
 CP 270 #[Vp b,.bool false,.bool false] w λe u=>∃i:Int,e=.returned (E i)/\Yi w b pv s deep xs M (ZR rec ts deep) i u:=by
 obtain⟨q,R,d,a4,_,_,a5,_⟩:=h.tok;obtain⟨c0,c1,c2,c3,c4,c5,c6,c7,c8⟩:=R.all;have D:=R.lt;have a6:((q.k:Int)==1)=false:=by rw[(S3 d).1,YB];omega
 have S:U<|ZR rec _ deep=bnd _ _:=I<|by rw[I7 Z hm ho,P,Q]
 have HX:U _:=(S3 d).2▸H9 P;have HY:U _:=(S3 d).2▸H9 Q;have H:=I h;have HO:=I f;have a7:U<|Xq M (n+1)<|bnd (YP ts) λp r=>(.ok (TW p,r)):=by
  unfold YP Qa;rw[hr];show Xq M (n+1)<|bnd (bnd (Zk 2 ts) _) _;unfold Zk;rw[Ye Z,Ox];have h0:Xq M _<|.ok ((hd ts).txt,ts.tail):=(show n+1+ts.tail.length<=M by omega);refine h0.bnd ?_;intro a t z e hz;injection e with e;injection e with _ e;subst e;obtain⟨x,t2,c,T⟩:=Zw hz;injection T with T;subst T;split at c
  .obtain⟨cs,t3,h3,g⟩:=Zw c;injection g with g;injection g with _ g;subst g;have:=Ms K5 _ _ _ _ h3;simp at this⊢;omega
  .injection c with c;injection c with _ c;subst c;exact Yj _
 clear h f R d c0 c1 c2 c5 c6 c7 c8 P Q;go_enter func270,ntmps270;go_wp2_with fail;refine(Ot N).m ?_;rintro e w1 ⟨rfl,j⟩;rw[Je,HX];have d4:=(j.cell D).trans c4;have l:=I j;clear j c3 c4;go_wp2_with fail;refine(Ot N).m ?_;rintro e w2 ⟨rfl,G⟩;rw[Ju,HY];have m:=I<|l.trans<|G.mono l.size;have J:=I<|St.kept H<|m.block b D;have a0:=I<|Ze HO m;clear G d4 l;go_wp2_with fail;refine(Ag J X).m ?_;rintro e V ⟨p,rfl,K,L,v⟩;have O:U<|St _ b _ s _<|Zj _:=K;have a1:=I<|VZ J a0 v;have a2:U<|Yv b pv w _ _:=(Hc m).grown v;have A:U<|∀o,St (V.alloc o) b _ s _ _:=λo=>St.kept O<|Go.Deep.blk_alloc_lt _ _ _<|St.lt O;have B:=I λo=>N6 a1 o;have W:U<|∀o,Yv b _ w _<|V.alloc o:=λo=>a2.grown<|J3 _ _ _;have a3:U<|∀o z,YP ts=.ok z->Le (V.alloc o) 0 p z.1:=by
  intro o z e;obtain⟨q1,q2,qs,q3,q4⟩:=L _ C z e;exact⟨q1,q2,qs,Jv<|q3.alloc o,q4⟩
 clear K v L;go_wp2_with fail;refine(St.lay (A _) (B _) X p).m ?_;rintro e w4 ⟨pv4,rfl,s4,o4,k4⟩;have HP:U<|Yi w b pv s deep xs M (ZR rec ts deep) n w4:=by
  refine Fi (W _) (A _) (B _) s4 o4 k4 (by rwa [S.o]) ?_ ?_
  .rw[S];cases YP ts with
   |error e=>rfl
   |ok x=>rfl
  .intro t z e;rw[S]at e;obtain⟨nd,r,e1,e2⟩:=Zw e;injection e2 with e2;injection e2 with e2 _;obtain⟨q1,q2,q3⟩:=a3.o _ _ e1;refine⟨nd,e2.symm,?_,by rw[q1],by rw[q1]⟩;have q2':nd=⟨1,0,0,bl _,nd.kq,[]⟩:=q2;rw[q2'];refine⟨by rw[q1];rfl,by rw[q1],by rw[q1];rfl,C,q3,[],?_,C⟩;rw[q1];exact Xm _ _ _ _
 clear s4 o4 k4;go_wp2;go_ret;exact⟨_,C,HP⟩
def NT(r:Yl Unit):Bool:=match r with
 |.error _=>false
 |.ok x=>(hd x.2).jj==1
def Ob(r:Yl Unit):Int:=match r with
 |.error _=>0
 |.ok x=>if(hd x.2).jj=1 then YL 1000 (hd x.2).txt else 0
theorem fU (r3:Yl Unit):(bnd (if Ob r3<1 then bnd r3 λ_ ts=>.error (2,(hd ts).at_)else r3) λ_ ts=>Zj<|Zk 1 ts)=(bnd r3 λ_ ts=>Zj<|T0 ts)/\∀ts z,r3=.ok ((),ts)->T0 ts=.ok z->Ob r3=z.1:=by
 cases r3 with
 |error e=>exact⟨C,λts z h=>(by cases h)⟩
 |ok x=>
  obtain⟨⟨⟩,ts⟩:=x;refine⟨?_,?_⟩
  · show _=Zj (T0 ts);unfold T0;by_cases c:(hd ts).jj=1
    · have e:Ob (.ok ((),ts))=YL _ (hd ts).txt:=Ye c;rw[e];by_cases d:YL 1000 (hd ts).txt<1
      .rw[Ye d,Yd X];rfl
      .rw[Yd d,Ye ⟨c,X⟩];show Zj (Zk 1 ts)=_;unfold Zk;rw[Ye c];rfl
    .have e:Ob (.ok ((),ts))=0:=Yd c;rw[e,Ye N,Yd λh=>c h.1];rfl
  · intro t z e a;injection e with e;injection e with _ e;subst e;unfold T0 at a;split at a
    .rename_i h;injection a with a;subst a;exact Ye h.1
    .cases a
theorem yw (o:Nat)(a:r3=bnd (bnd (Zf [40] t0) λ_ ts=>Zj<|YP ts) λ_ ts=>Zf [91] ts):
 Zj (Xu o t0)=(bnd (bnd (bnd r3 λ_ ts=>Zj<|T0 ts) λ_ ts=>Zf [93] ts) λ_ ts=>Zf [41] ts)/\
 ∀t z,Xu o t0=.ok (t,z)->∃y p0 y2 t3 nz,Zf [40] t0=.ok ((),y)/\YP y=.ok (p0,y2)/\r3=.ok ((),t3)/\T0 t3=.ok nz/\t=TW ⟨2,o,nz.1,p0.name,p0.kq,[]⟩:=by
  subst a;unfold Xu;cases f:Zf [40] t0 with
  |error e=>exact⟨C,λt z h=>(by cases h)⟩
  |ok x1=>
   obtain⟨⟨⟩,y⟩:=x1;simp only[bnd];cases c:YP y with
   |error e=>exact⟨C,λt z h=>(by cases h)⟩
   |ok x2=>
    obtain⟨p0,y2⟩:=x2;simp only[Zj,bnd];cases a:Zf [91] y2 with
    |error e=>exact⟨C,λt z h=>(by cases h)⟩
    |ok x3=>
     obtain⟨⟨⟩,t3⟩:=x3;simp only;cases d:T0 t3 with
     |error e=>exact⟨C,λt z h=>(by cases h)⟩
     |ok nz=>
      simp only;cases g:Zf [93] nz.2 with
      |error e=>exact⟨C,λt z h=>(by cases h)⟩
      |ok x5=>
       simp only;cases i:Zf [41] x5.2 with
       |error e=>exact⟨C,λt z h=>(by cases h)⟩
       |ok x6=>
        simp only;refine⟨trivial,λt z h=>?_⟩;injection h with h;injection h with h _;exact⟨y,p0,y2,t3,nz,C,c,C,d,h.symm⟩
theorem ZP.grownQ{deep base:Nat}{p:PV}(h:ZP w base p cs)(c:St w b pv s deep r)(f:w.grownBy w'<|some b):ZP w' base p cs:=by
 obtain⟨qs,a,g⟩:=h;obtain⟨q,i,_⟩:=c.view;exact⟨qs,ZJ a λk d=>f.block k (a.lt k d).2 λe=>ZD a i N<|by rw[d,e],g⟩
theorem ZP.box{a base:Nat}{p p0:PV}(h:ZP w base p cs)(c:Yq w a p0)(o:Nat)(x:F):ZP (w.setCell ⟨a,o,none⟩ x) base p cs:=by
 obtain⟨qs,d,e⟩:=h;exact⟨qs,LA d c N,e⟩
theorem St.view2(h:St w b pv s deep r):
 ∃q:QV,YN w b q/\(∀x,r=.error x->q.e≠0)/\(∀x,r=.ok x->q.e=0/\S2 q=hd x.2/\q.tx.size<=s.size+2):=by
 cases r with
 |error x=>
  obtain⟨q,c,i,j,d,f,k⟩:=h;exact⟨q,c,λ_ _=>by rwa [d],λy a=>(by cases a)⟩
 |ok x=>
  obtain⟨⟨q,c,i,j,d,f,k,g⟩,_⟩:=h;refine⟨q,c,(by intro y a;cases a),?_⟩;intro y a;injection a with a;subst a;have:=XB.txt_le g;have e:(S2 q).txt=bl _:=C;rw[e,Zb,Zb]at this;exact⟨f,g.hd.symm,this⟩
def PO(w:Y)(p:PV)(y:Yl Unit):Prop:=∀t z,y=.ok ((),t)->YP t=.ok z->p=⟨1,0,0,p.nm,p.ca,p.cn,p.cc,none,0,0,0,0⟩/\z.1=⟨1,0,0,bl p.nm,z.1.kq,[]⟩/\ZP w 0 p z.1.kq
theorem PO.grown{p:PV}(h:PO w p y)(a:St w b pv s deep r)(c:w.grownBy w'<|some b):PO w' p y:=
 λt z e d=>let⟨h1,h2,h3⟩:=h t z e d;⟨h1,h2,h3.grownQ a c⟩
theorem PO.box{a:Nat}{p p0:PV}(h:PO w p y)(c:Yq w a p0)(o:Nat)(x:F):PO (w.setCell ⟨a,o,none⟩ x) p y:=
 λt z e d=>let⟨h1,h2,h3⟩:=h t z e d;⟨h1,h2,h3.box c o x⟩
theorem ry(h:St w b pv s deep<|.ok ((),ts))(hs:s.size<=5000)(hk:(hd ts).jj=2)(hm:Yk [45] (hd ts)=false)(ho:Yk [40] (hd ts)=false)(c:Y7 (hd ts).txt Wu=none)(hv:Y7 (hd ts).txt WN=some o)
 (rec:Nat->List Yg->Nat->Yl Tr)(Z:w.ownsRow 0 59 8 pv n xs)(hM:M<=6000)(hB:n+ts.length<=M):
 CP 270 #[Vp b,.bool false,.bool false] w λe u=>∃i:Int,e=.returned (E i)/\Yi w b pv s deep xs M (ZR rec ts deep) i u:=by
 obtain⟨q,hq,K,j1,_,_,j2,_⟩:=h.tok;obtain⟨c0,c1,c2,c3,c4,c5,c6,c7,c8⟩:=hq.all;have d3:=hq.lt;have j3:((q.k:Int)==1)=false:=by rw[(S3 K).1,YB];omega
 have HI:U<|ZR rec _ deep=Xu o _:=I<|by rw[I7 hk hm ho,c,hv]
 have HX:U _:=(S3 K).2▸H9 c;have HY:U _:=(S3 K).2▸DM hv;have H:=I h;have HO:=I Z;have i4:U<|Xq M (n+1)<|Xu o ts.tail:=by
  have h0:Xq M _<|.ok ((),ts.tail):=(show n+1+ts.tail.length<=M by omega);have:=h0.bnd (f:=λ_ t=>Xu o t) λ_ t z e hz=>by injection e with e;injection e with _ e;subst e;have:=Ao hz;omega
  exact this
 clear h Z hq K c0 c1 c2 c5 c6 c7 c8 c hv;go_enter func270,ntmps270;go_wp2_with fail;refine(Ot N).m ?_;rintro e w1 ⟨rfl,a0⟩;rw[Je,HX];have d4:=(a0.cell d3).trans c4;have a1:=I a0;clear a0 c3 c4;go_wp2_with fail;refine(Ot N).m ?_;rintro e w2 ⟨rfl,d5⟩;rw[Ju,HY];have a2:=I<|a1.trans<|d5.mono a1.size;have a3:=I<|St.kept H<|a2.block b d3;have d6:=I<|Ze HO a2;clear d5 d4 a1;go_wp2_with fail;refine(St.next a3 X ⟨ts,C,X⟩).m ?_;rintro e w3 ⟨rfl,d,c⟩;have a4:U<|St _ b _ s _<|.ok _:=d;have d7:=I<|VZ a3 d6 c;have d8:U<|Yv b pv w _ _:=(Hc a2).grown c;clear d c a3 d6;go_wp2_with fail;refine(St.take a4 X _).m ?_;rintro e w4 ⟨rfl,d,c⟩;have a6:U<|St _ b _ s _<|Zf [40] _:=d;have d9:=I<|VZ a4 d7 c;have a7:=I<|d8.grown c;clear d c a4 d7 d8;go_wp2_with fail;refine(Ag a6 X).m ?_;rintro e w5 ⟨p,rfl,d,e0,c⟩;obtain⟨W5,m⟩:∃W5,W5=w5.alloc (.cells #[E p.k,E p.n,E p.op,.string p.nm,.slice p.ca p.cn p.cc,.slice p.ba p.bn p.bc,E p.a,E p.b] 59):=⟨_,C⟩;have L:U<|St _ b _ s _ _:=m▸St.kept d (Go.Deep.blk_alloc_lt _ _ _<|St.lt d);have a8:=VZ a6 d9 c;have e7:U<|W5.ownsRow 0 _ 8 _ n _:=m▸a8.alloc _;have e8:U _:=m▸(a7.grown c).grown (J3 _ _ _);have e9:U<|PO W5 p<|Zf [40] ts.tail:=I<|by
  intro t z e hz;obtain⟨q1,q2,qs,q3,q4⟩:=e0.o _ e z hz;rw[m];exact⟨q1,q2,qs,Jv<|q3.alloc _,q4⟩
 obtain⟨a5,B⟩:∃a5,a5=w5.heap.size:=⟨_,C⟩;have f3:U<|Yq _ _ p:=m▸B▸Go.Deep.blk_alloc_new _ _;have a9:w.heap.size<=a5:=B▸(a7.grown c).size;have i5:b≠a5:=by rw[B];have:=St.lt d;omega
 have i6:U<|pv.ownBlock≠some a5:=I λe=>by have:=(a8.lt _ e).2;omega
 clear d c e0 a8 a6 d9 a7;go_wp2_with fail;rw[<-m,<-B];clear m B;refine(St.take L X _).m ?_;rintro e w6 ⟨rfl,d,c⟩;obtain⟨r3,b0⟩:∃r3:Yl _,r3=bnd (bnd (Zf [40] ts.tail) λ_ ts=>Zj<|YP ts) λ_ ts=>Zf [91] ts:=⟨_,C⟩;have i7:=I b0;have D:U<|St w6 b pv s deep r3:=by rwa [b0]
 have b1:=I<|VZ L e7 c;have b2:=I<|e8.grown c;have J:=I<|e9.grown L c;have b3:=I<|Yq.grown f3 c<|by simp;omega
 clear d c b0 L e7 e8 e9 f3;obtain⟨q6,f4,f5,b4⟩:=St.view2 D;obtain⟨c0,c1,c2,c3,c4,c5,c6,c7,c8⟩:=f4.all;have f6:(((q6.e:Int)==0)=false/\NT r3=false)\/(((q6.e:Int)==0)=true/\((q6.k:Int)==1)=NT r3):=by
  cases r3 with
  |error e=>exact Or.inl ⟨by rw[YB];have:=f5 e C;omega,C⟩
  |ok x=>
   obtain⟨h1,V,h3⟩:=b4 x C;refine Or.inr ⟨by rw[h1];rfl,?_⟩;show _=((hd x.2).jj==1);rw[<-V];show((q6.k:Int)==1)=(q6.k==1);rw[Uc,XM,XM];omega
 have b5:U<|NT r3=true->q6.tx.size<=6000/\Ob r3=YL 1000 (bl q6.tx):=I<|by
  intro hb;cases r3 with
  |error e=>cases hb
  |ok x=>
   obtain⟨h1,V,h3⟩:=b4 x C;have i8:(hd x.2).jj=1:=by simpa [NT]using hb
   refine⟨X,?_⟩;show(if(hd x.2).jj=1 then _ else _)=_;rw[Ye i8,<-V];rfl
 have f7:U<|NT r3=false->Ob r3=0:=by
  intro hb;cases r3 with
  |error e=>rfl
  |ok x=>exact Yd<|by simpa [NT]using hb
 have j4:U<|-1<=Ob r3/\Ob r3<=1000:=by
  cases r3 with
  |error e=>exact⟨by show(-1:Int)<=0;decide,by show(0:Int)<=1000;decide⟩
  |ok x=>
   show-1<=(if(hd x.2).jj=1 then _ else _)/\(if(hd x.2).jj=1 then _ else _)<=_;split
   .exact Nz _ _
   .decide
 have f8:=I<|fU r3;have f9:=I<|yw o i7;clear f4 f5 b4 c0 c1 c2 c5 c6 c8;generalize NT r3=sb at*;generalize Ob r3=nz at*;go_upto_region 21 with fail;go_cut [85] (λs85 A=>s85=.bool sb/\A=w6);case first=>
  rcases f6 with⟨h1,V⟩|⟨h1,V⟩
  .go_wp2;go_meet;exact⟨by rw[V],C⟩
  .go_wp2;go_meet;exact⟨C,C⟩
 case rest=>
 obtain⟨rfl,rfl⟩:=hcut;clear f6;go_upto_if 85 with fail;go_cut [12] (λs12 A=>s12=E nz/\A=wc);case first=>
  cases sb
  .go_wp2;go_meet;exact⟨by rw[f7<|Sm],C⟩
  .have i0:=(b5<|Sm).1;go_wp2_with fail;refine(LI 1000 C i0 N).m ?_;rintro e w7 ⟨rfl,rfl⟩;rw[<-(b5<|Sm).2];go_wp2;go_meet;exact⟨C,C⟩
 case rest=>
 obtain⟨rfl,rfl⟩:=hcut;clear b5 f7 c3 c4 c7;obtain⟨r4,g0⟩:∃r4:Yl _,r4=if nz<1 then bnd r3 λ_ ts=>.error (2,(hd ts).at_)else r3:=⟨_,C⟩;have b6:=I g0;clear g0;go_upto_if 93 with fail;go_cut [] (λA=>U (St A b pv s deep r4)/\U (Yq A a5 p)/\U (A.ownsRow 0 59 8 pv n xs)/\U (Yv b pv w pv A)/\U (PO A p<|Zf [40] ts.tail));case first=>
  by_cases G:nz<1
  .have b7:=WI G;have HE:U<|r4=bnd _ _:=I<|by rw[b6,Ye G]
   go_wp2_with fail;clear b7 G;refine(St.fail D 2 _ C N).m ?_;rintro e w7 ⟨rfl,d,c⟩;have r:U<|St w7 b pv s deep r4:=by rwa [HE.o]
   have O:=I<|Yq.grown b3 c<|by simp;omega
   have P:=I<|VZ D b1 c;have Q:=I<|b2.grown c;have R:=I<|J.grown D c;clear d c;go_wp2;go_meet;exact⟨r,O,P,Q,R⟩
  .have b7:=Wl G;have HE:U<|r4=r3:=I<|by rw[b6,Yd G]
   go_wp2;go_meet;exact⟨I<|by rwa [HE.o],b3,b1,b2,J⟩
 case rest=>
 obtain⟨r,O,P,Q,R⟩:=hcut;clear D b3 b1 b2 J;go_wp2_with fail;refine(St.jj r X 1 _ C N).m ?_;rintro e w8 ⟨x8,rfl,d,_,c⟩;rw[b6,f8.1]at d;have S:=I d;have g1:=I<|Yq.grown O c<|by simp;omega
 have g2:=I<|VZ r P c;have g3:=I<|Q.grown c;have g4:=I<|R.grown r c;clear d c r O P Q R;go_wp2_with fail;refine(St.take S X _).m ?_;rintro e w9 ⟨rfl,d,c⟩;rw[show bl _=[93]from C]at d;have T:=I d;have g5:=I<|Yq.grown g1 c<|by simp;omega
 have g6:=I<|VZ S g2 c;have g7:=I<|g3.grown c;have g8:=I<|g4.grown S c;clear d c S g1 g2 g3 g4;go_wp2_with fail;refine(St.take T X _).m ?_;rintro e i9 ⟨rfl,d,c⟩;rw[show bl _=[41]from C,<-f9.1]at d;have g:=Yq.grown g5 c<|by simp;omega
 have b8:=VZ T g6 c;have b9:=g7.grown c;have c9:=g8.grown T c;have hx:∀(W:Y),W.ownsRow 0 _ 8 _ n xs->∀(j:Nat)(v:F),(W.setCell ⟨a5,j,none⟩ v).ownsRow 0 59 8 _ n _:=λW hW j v=>ZJ hW λk hk=>Go.Deep.blk_setCell_other _ _ _ _<|by rintro rfl;exact i6 hk
 have hy:∀(W:Y),St W b _ s deep (Zj<|Xu o ts.tail)->∀(j:Nat)(v:F),St (W.setCell ⟨a5,j,none⟩ v) b pv s _ _:=λW hW j v=>St.kept hW<|Go.Deep.blk_setCell_other _ _ _ _ i5;obtain⟨g9,l⟩:∃W,W=((i9.setCell ⟨a5,0,none⟩<|E 2).setCell ⟨a5,2,none⟩<|E o).setCell ⟨a5,1,none⟩ (E nz):=⟨_,C⟩;have d0:=I l;have pA:=Yq.setK g 2;have pB:=Yq.setOp pA<|o;have pC:=Yq.setN pB nz;rw[<-l]at pC;have i1:U<|Yq _ _ {p with k:=2,op:=o,n:=nz}:=pC;have d1:U<|g9.ownsRow 0 _ 8 _ n _:=l▸hx _ (hx _ (hx _ b8 _ _) _ _) _ _;have d2:U<|St _ b _ s _ _:=l▸hy _ (hy _ (hy _ d _ _) _ _) _ _;have i2:U _:=l▸((b9.set a9 _).set a9 _).set a9 _;have i3:U<|PO _ p _:=l▸((c9.box g _ _).box pA _ _).box pB _ _;obtain⟨k0,k1,k2,k3,k4,k5,k6,k7⟩:=g.all;have f0:=g.frozen 0;have f1:=g.frozen 1;have f2:=g.frozen 2;obtain⟨m0,m1,m2,m3,m4,m5,m6,m7⟩:=Yq.all i1;clear d c g b8 b9 c9 hx hy pA pB pC l T g5 g6 g7 g8;go_wp2_with fail;clear k0 k1 k2 k3 k4 k5 k6 k7 f0 f1 f2 m0 m1 m2 m3 m4 m5 m6 m7;rw[<-d0];clear d0;refine(St.lay d2.o d1.o X {p with k:=2,op:=o,n:=nz}).m ?_;rintro e j0 ⟨pv12,rfl,s12,o12,k12⟩;have HP:U<|Yi w b pv s deep xs M (ZR rec ts deep) n j0:=I (by
  refine Fi i2.o d2.o d1.o s12 o12 k12 (by rw[HI.o];exact i4.o) (by rw[HI.o]) ?_;intro t z e;rw[HI.o]at e;obtain⟨y,p0,y2,t3,z3,e1,e2,e3,e4,e5⟩:=f9.2 t z e;obtain⟨q1,q2,q3⟩:=i3.o _ _ e1 e2;have e6:=f8.2 t3 z3 e3 e4;have q2':p0=⟨1,0,0,bl p.nm,p0.kq,[]⟩:=q2;refine⟨_,e5,⟨C,e6,C,by rw[q2'],q3,[],?_,C⟩,?_,?_⟩
  .show g9.ownsRow 0 9 1 (.slice p.ba p.bn p.bc) 0 [];rw[q1];exact Xm _ _ _ _
  .show p.a=0;rw[q1]
  .show p.b=0;rw[q1]);clear s12 o12 k12;go_wp2;go_ret;exact⟨_,C,HP⟩
theorem St.setDeep(h:St w b pv s deep r)(d:Nat):St (w.setCell ⟨b,6,none⟩<|E d) b pv s d r:=by
 cases r with
 |error x=>
  obtain⟨q,a,c,g,i,e,f⟩:=h;exact⟨{q with deep:=d},a.set 6 _ C,c,C,i,e,f⟩
 |ok x=>
  obtain⟨⟨q,a,c,g,i,e,f,j⟩,_⟩:=h;exact⟨⟨{q with deep:=d},a.set 6 _ C,c,g,C,e,f,j⟩,trivial⟩
theorem St.deepCell(h:St w b pv s deep r):w.cell? ⟨b,6,none⟩=some (E deep)/\w.frozen? ⟨b,6,none⟩=false:=by
 obtain⟨q,a,_,hd,_⟩:=h.view;rw[<-hd];exact⟨a.all.2.2.2.2.2.2.1,a.frozen 6⟩
theorem Yi.redeep{g a:Y}{R:Yl Tr}(l:Yv b pv w pv g)(h:Yi g b pv s d xs M R i a):Yi w b pv s deep xs M R i<|a.setCell ⟨b,6,none⟩<|E deep:=by
 obtain⟨n',pv',ys,c,j,m,n,o⟩:=h.o;have f:a.grownBy (a.setCell ⟨b,6,none⟩<|E deep)<|some b:=Zn (Z2 _ _) (.inl C) _;obtain⟨q,p,_⟩:=c.view;refine⟨n',pv',ys,c.setDeep _,VZ c j f,(l.trans m).grown f,n,?_⟩;intro t z e;obtain⟨k,k1,k2,k3⟩:=o t z e;refine⟨k,k1,?_,k3⟩;have:=XF.kept p j ((Yv.refl b _ _).grown f) [] t k k2;rwa [Ud]at this
def MK(f:FuncId):Prop:=∀(w:Y)(b:Nat)(pv:F)(e p deep:Nat),Yw w b pv e p deep->CP f #[Vp b] w λr w'=>r=.returned (E 0)/\w'=w
theorem We.of_ok(g:MK f)
 (h:∀(w:Y)(b:Nat)(pv:F)(deep:Nat)(ts:List Yg)(n:Nat)(xs:List F)(M:Nat),St w b pv s deep (.ok ((),ts))->w.ownsRow 0 59 8 pv n xs->M<=6000->n+ts.length<=M->ts.length<=L->deep<=20->
  CP f #[Vp b] w λe u=>∃i:Int,e=.returned (E i)/\Yi w b pv s deep xs M (R ts deep) i u):We f s R L:=by
 intro w b pv deep r n xs M a c j d k l;cases r with
 |error x=>
  refine(g w b _ _ _ _ a).m ?_;rintro e u ⟨rfl,rfl⟩;exact⟨0,C,Yi.error a c d⟩
 |ok x=>exact h w b _ _ _ n _ M a c j d (k _ C) l
theorem St.pos(h:St w b pv s deep<|.ok ((),ts)):0<ts.length:=by
 obtain⟨_,_,_,_,_,_,h,_⟩:=h.tok;omega
theorem We.zero(a:MK f):We f s R 0:=
 We.of_ok a λw b pv deep ts n xs M c _ _ _ d _=>absurd c.pos X
theorem fq(h:Qf t=true)(d:t.jj≠1)(a:Yk [45] t=false)(c:Yk [40] t=false):t.jj=2/\Yk UD t=false/\Yk UZ t=false:=by
 unfold Qf at h;rw[a,c]at h;have:(t.jj==1)=false:=by rwa [YB]
 rw[this]at h;simp at h;exact⟨h.1.1,h.1.2,h.2⟩
theorem qd (k:s.size<=5000)(D:We 242 s (λts d=>rec 3 ts d) L)(G:We 153 s (λts d=>rec 0 ts d) L)
 (h:St w b pv s deep<|.ok ((),ts))(x:Qf (hd ts)=true)(t:ts.length<=L+1)(a:w.ownsRow 0 59 8 pv n xs)(c:M<=6000)(f:n+ts.length<=M)(l:deep<=20):
 CP 270 #[Vp b,.bool<|Yk [45]<|hd ts,.bool<|Yk [40]<|hd ts] w λe u=>∃i:Int,e=.returned (E i)/\Yi w b pv s deep xs M (ZR rec ts deep) i u:=by
  have z:=yD X G;by_cases q:(hd ts).jj=1
  .exact rp h k q a c f
  · cases j:Yk [45]<|hd ts
    · cases m:Yk [40]<|hd ts
      .obtain⟨p,A,B⟩:=fq x q j m;cases r:Y7 (hd ts).txt Wu with
       |some g=>exact rm h k p j m r z t a c f l
       |none=>
        cases v:Y7 (hd ts).txt WN with
        |some o=>exact ry h k p j m r v _ a c f
        |none=>exact ru h k p j m r v (by unfold Qb;rw[r,v,A,B];rfl) _ a c f
      .exact rq h q j m z t a c f l
    .exact rn h k q j D t a c f l
theorem tX (hs:s.size<=5000)(V:We 242 s (λts d=>rec 3 ts d) L)(Z:We 153 s (λts d=>rec 0 ts d) L):
 We 242 s (Ug rec)<|L+1:=by
  refine We.of_ok (λw b pv e p deep h=>Yw.factor h) ?_;intro w b pv deep ts n xs M h t hM hB hL a5;obtain⟨q,l,u,a6,G,J,a7,_⟩:=h.tok;obtain⟨c0,c1,c2,c3,c4,c5,c6,c7,c8⟩:=l.all;rw[J]at c6;rw[G]at c7;have a8:=l.lt;have fz6:=l.frozen 6;have HF:=I V;have HQ:=I Z;have H:=I h;have Q:=I t;obtain⟨x1,K⟩:∃x,((q.k:Int)==1)=x:=⟨_,C⟩;obtain⟨x2,O⟩:∃x,((q.k:Int)==2)=x:=⟨_,C⟩;have P:U<|Qf _=(x1||Yk _ _||Yk _ _||(x2&&!Yk _ _&&!Yk _ _)):=I<|by
   unfold Qf;have e1:((hd ts).jj==1)=x1:=by rw[<-K,<-(S3 u).1,Uc,XM,XM];omega
   have e2:((hd ts).jj==2)=x2:=by rw[<-O,<-(S3 u).1,Uc,XM,XM];omega
   rw[e1,e2]
  clear h t l u c0 c1 c2 c4 c5 c8 V Z G J;go_enter func242,ntmps242;go_wp2_with fail;refine(St.is H _).m ?_;rintro e w1 ⟨rfl,rfl⟩;go_wp2_with fail;refine(St.is H _).m ?_;rintro e z ⟨rfl,rfl⟩;go_wp2_with fail;refine(St.is H _).m ?_;rintro e w3 ⟨rfl,rfl⟩;go_wp2_with fail;refine(St.is H _).m ?_;rintro e w4 ⟨rfl,rfl⟩;rw[show XS (bl ⟨#[111,114]⟩) _=Yk UD (hd ts)from C,show XS (bl ⟨#[98,121]⟩) _=Yk UZ (hd ts)from C,show XS (bl ⟨#[45]⟩) _=Yk [45] (hd ts)from C,show XS (bl _) _=Yk [40] (hd ts)from C];obtain⟨mi,m⟩:∃x,Yk [45] (hd ts)=x:=⟨_,C⟩;obtain⟨op,o⟩:∃x,Yk [40] (hd ts)=x:=⟨_,C⟩;have HM:U<|Yk _ _=mi/\Yk _ _=op:=⟨m,o⟩;rw[m,o];have f:=P.o;rw[m,o]at f;obtain⟨sv,v⟩:∃x,Qf (hd ts)=x:=⟨_,C⟩;rw[v]at f;generalize Yk UD (hd ts)=vo at*;generalize Yk UZ (hd ts)=vb at*;have r:=I v;have a:=I f;clear m o v f P;go_upto_region 5 with fail;go_cut [7] (λs7 wx=>s7=.bool sv/\wx=w4);case first=>
   cases x1
   · cases mi
     · cases op
       · cases x2
         .go_wp2;go_meet;exact⟨by rw[a];rfl,C⟩
         · cases vo
           · cases vb
             .go_wp2;go_meet;exact⟨by rw[a];rfl,C⟩
             .go_wp2;go_meet;exact⟨by rw[a];rfl,C⟩
           .go_wp2;go_meet;exact⟨by rw[a];rfl,C⟩
       .go_wp2;go_meet;exact⟨by rw[a];rfl,C⟩
     .go_wp2;go_meet;exact⟨by rw[a];simp,C⟩
   .go_wp2;go_meet;exact⟨by rw[a];simp,C⟩
  case rest=>
  obtain⟨rfl,rfl⟩:=hcut;clear a K O c3;cases sv
  · have A:U<|Ug rec ts deep=.error (2,(hd ts).at_):=by unfold Ug;rw[r];rfl
    go_wp2_with fail;refine(St.fail H 2 _ C N).m ?_;rintro e w5 ⟨rfl,g,c⟩;have R:U<|Yi _ b _ s _ _ M _ 0 _:=A.o▸(Yi.error g (VZ H.o Q.o c) X).pre ((Yv.refl _ _ _).grown c);clear g c;go_wp2;go_ret;exact⟨_,C,R⟩
  · by_cases j:deep=20
    · have A:U<|Ug rec _ _=.error _:=I<|by unfold Ug;rw[r,Ye C,Ye j]
      have a0:((deep:Int)==20)=true:=by rw[j];rfl
      go_wp2_with fail;refine(St.fail H 3 _ C N).m ?_;rintro e w5 ⟨rfl,g,c⟩;have R:U<|Yi _ b _ s _ _ M _ 0 _:=A.o▸(Yi.error g (VZ H.o Q.o c) X).pre ((Yv.refl _ _ _).grown c);clear g c;go_wp2;go_ret;exact⟨_,C,R⟩
    · have A:U<|Ug _ _ _=ZR rec _ _:=I<|by unfold Ug;rw[r,Ye C,Yd j]
      have a0:((deep:Int)==20)=false:=by rw[YB];omega
      have S:deep+1<=20:=X;obtain⟨W,D⟩:∃W,W=wc.setCell ⟨b,6,none⟩ (E<|(deep+1:Nat)):=⟨_,C⟩;have c:wc.grownBy W<|some b:=D▸Zn (Z2 _ _) (Or.inl C) _;have a1:U<|St W b _ s _ _:=D▸St.setDeep H.o (deep+1);have a2:=I<|VZ H Q c;have a3:U<|Yv b _ _ pv W:=(Yv.refl _ _ _).grown c;have HW:=I D;clear c D;go_wp2_with fail;clear c6 c7 fz6;rw[show wc.setCell _ _=W from by rw[HW];rfl];have B:=qd hs HF HQ a1 r hL a2 hM hB S;rw[HM.1,HM.2]at B;refine B.m ?_;rintro e w6 ⟨i,rfl,T⟩;have a4:U<|Yi _ b _ s deep _ M _ i _:=A.o▸Yi.redeep a3.o T;obtain⟨n6,pv6,ys6,s6,_⟩:=T.o;obtain⟨c6,fz6⟩:=s6.deepCell;clear T s6 B HW;have e19:((deep+1:Nat):Int)-1=deep:=X;go_wp2;go_ret;exact⟨_,C,a4⟩

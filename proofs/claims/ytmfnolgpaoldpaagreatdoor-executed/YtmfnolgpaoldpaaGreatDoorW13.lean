/- Parts. -/
import Derived.Test.YtmfnolgpaoldpaaGreatDoorW12
set_option linter.all false
set_option maxRecDepth 100000
set_option maxHeartbeats 16000000
namespace Go.Proofs.YtmfnolgpaoldpaaGreatDoor
open Go.RowKit LS Go.Proofs.Tryz
variable {r:Except (Nat×Nat) Yb}{t:LB}{bs:List BA}{cs:List Int}{l:List PV}{c xs:List Value}{gs:List<|List<|LB}{is:List<|Nat×Nat}{ps:List<|Nd×Nat}{g:List<|Option Addr×Nat×Nat}{cb i ic n p sz:Nat}{a ia:Option Addr}{cv gv pv v:Value}{w w' w0 wr:World}
def XX(bad:List TypeId)(w w':World):Prop:=∀(b:Nat)(e:TypeId)(sz:Nat)(v:Value)(n:Nat)(xs:List Value),w.ownsRow b e sz v n xs->e∉bad->w'.ownsRow b e sz v n xs
theorem XX.refl(bad:List TypeId)(w:World):XX bad w w:=λ_ _ _ _ _ _ h _=>h
theorem XX.trans{bad:List TypeId}{a z:World}(h:XX bad w a)(d:XX bad a z):XX bad w z:=λb e sz v n xs f c=>d b e _ v n _ (h b e _ v n _ f c) c
theorem XX.below(bad:List TypeId)(h:BW w w'):XX bad w w':=λ_ _ _ _ _ _ a _=>Ze a h
theorem XX.grown {bad:List TypeId}{b:Nat}{e:TypeId}(h:w.ownsRow b e sz v n xs)(i:w.grownBy w' v.ownBlock)(j:e∈bad):XX bad w w':=λb2 e2 s2 v2 n2 xs2 c f=>ZJ c (λk a=>i.block k (c.lt k a).2 (λe3=>by
 have g:e2≠e:=λe4=>f<|by rwa [e4]
 rcases QE c h g with d|d
 .rw[d]at a;cases a
 .exact d<|by rwa [a]))
theorem XX.set {bad:List TypeId}{a:Nat}{t:TypeId}(f:Ya w a c t)(h:t∈bad)(i:Nat)(x:Value):XX bad w<|w.setCell ⟨a,i,none⟩ x:=λb2 e2 s2 v2 n2 xs2 d e=>ZJ d λk g=>Go.Deep.blk_setCell_other _ _ _ _<|by
 rintro rfl;exact ZD d f (λe4=>e<|by rwa [<-e4]) g.symm
theorem FY{e:TypeId}(h:BW w0 w)(d:w.ownsRow w0.heap.size e sz v n xs)(a:w.grownBy w' v.ownBlock):BW w0 w':=by
 refine⟨a.os.trans h.os,a.tape.trans h.tape,a.output.trans h.output,Xb h.size a.size,?_⟩;intro j c;rw[a.block j (WH c h.size) λe=>by have:=(d.lt j e.symm).1;omega,h.block j c]
theorem Ya.ownGrownR{a:Nat}{t:TypeId}(h:Ya w a c t){base:Nat}{e:TypeId}(d:w.ownsRow base e sz v n xs)(f:w.grownBy w' v.ownBlock)(g:t≠e):Ya w' a c t:=
 (f.block a h.lt<|ZD d h g).trans h
structure WD (w:World)(c:Yb)(cv pv gv:Value)(l:List PV)(g:List<|Option Addr×Nat×Nat):Prop where
 cs:w.ownsRow 0 2 1 cv c.jq.length<|c.jq.map<|.int .i64
 ps:w.ownsRow 0 59 8 pv c.jw.length<|TF l
 pl:l.length=c.jw.length
 pk:∀(i:Nat)(x:Nd×Nat)(p:PV),c.jw[i]?=some x->l[i]?=some p->Vq w x p
 gs:w.ownsRow 0 57 1 gv c.jv.length<|g.map λy=>.slice y.1 y.2.1 y.2.2
 gl:g.length=c.jv.length
 gk:∀(i:Nat)(x:List<|LB)(y:Option Addr×Nat×Nat),c.jv[i]?=some x->g[i]?=some y->∃bs:List BA,w.ownsRow 0 9 1 (.slice y.1 y.2.1 y.2.2) bs.length (bs.map .string)/\bs.map bl=x
theorem Vq.keep{bad:List TypeId}{x:Nd×Nat}{p:PV}(h:Vq w x p)(a:XX bad w w')(c:268∉bad):Vq w' x p:=⟨h.k,h.n,h.nm,by
 obtain⟨qs,d,e⟩:=h.cs;exact⟨qs,a _ _ _ _ _ _ d c,e⟩⟩
theorem WD.keep{c:Yb}(h:WD w c cv pv gv l g)(a:XX [110,69] w w'):WD w' c cv pv gv l g:=
 ⟨a _ _ _ _ _ _ h.cs N,a _ _ _ _ _ _ h.ps N,h.pl,λi x p d e=>(h.pk i x p d e).keep a N,a _ _ _ _ _ _ h.gs N,h.gl,λi x y d e=>by
  obtain⟨bs,f,j⟩:=h.gk i x y d e;exact⟨bs,a _ _ _ _ _ _ f N,j⟩⟩
theorem WD.code{iv:Value}(h:WD w ⟨cs,ps,gs,[]⟩ cv pv gv l g)(a:Ya w cb [cv,pv,gv,iv] 69)(c:w.ownsRow 0 110 2 iv is.length<|SS is):X8 w cb ⟨cs,ps,gs,is⟩ cv pv gv iv l g:=
 ⟨a,h.cs,h.ps,h.pl,h.pk,h.gs,h.gl,h.gk,c⟩
def OL(l:LB)(cs:List Int)(ps:List<|Nd×Nat)(gs:List<|List<|LB)(p n:Nat):Except (Nat×Nat) Yb:=match Yo (WM l) p n with
 |.error e=>.error e
 |.ok is=>if l.length<is.2+4 then .error (9,l.length)else if is.2+4<l.length then .error (9,is.2+4)else
  if Yp (l.drop is.2)≠XK (l.take is.2)then .error (10,0)else .ok ⟨cs,ps,gs,is.1⟩
theorem fF{l:LB}(h:p<l.length):Y6 l p 1=[l[p]]:=by
 unfold Y6;rw[List.drop_eq_getElem_cons h];rfl
theorem vA(c:UInt8):Yp [c]=c.toNat:=by simp[Yp]
theorem Fz{l:LB}(h:p<l.length):Z8 l p 1=.ok ((l[p]).toNat,p+1):=by
 unfold Z8 VJ;rw[Yd X];simp only;rw[fF h,vA]
theorem rH{l:LB}(h:l.length<p+1):WM l p=.error (9,l.length):=by
 unfold WM Z8 VJ;rw[Ye h]
theorem rE{l:LB}{h:p<l.length}(a:13<(l[p]).toNat):WM l p=.error (9,p):=by
 unfold WM;rw[Fz h];simp only;rw[Ye a]
theorem rF{l:LB}{h:p<l.length}(a:¬13<(l[p]).toNat)(c:l.length<p+3):WM l p=.error (9,l.length):=by
 unfold WM;rw[Fz h];simp only;rw[Yd a];unfold Z8 VJ;rw[Ye X]
theorem rG{l:LB}{h:p<l.length}(a:¬13<(l[p]).toNat)(c:¬l.length<p+3):WM l p=.ok (((l[p]).toNat,Yp<|Y6 l (p+1) 2),p+3):=by
 unfold WM;rw[Fz h];simp only;rw[Yd a];unfold Z8 VJ;rw[Yd X]
theorem Zex(s:BA)(p n:Nat):bl (s.extract p<|p+n)=Y6 (bl s) p n:=by
 rw[WL,Ri];unfold Y6;congr 1;omega
theorem iQ{l:LB}(h:p+4=l.length):l.take p++XQ (XK<|l.take p) 4=l↔Yp (l.drop p)=XK (l.take p):=by
 have hd:(l.drop p).length=4:=by rw[Ur];omega
 constructor
 .intro e;have a:l.take p++XQ (XK<|l.take p) 4=l.take p++l.drop p:=by rw[e,Oh]
  have c:=List.append_cancel_left a;rw[<-c];exact vu 4 _<|FH _
 .intro e;rw[<-e];have:=vW<|l.drop p;rw[hd]at this;rw[this,Oh]
def Uf(w:World)(r:Except (Nat×Nat) Yb)(v:Value)(c p:Nat):Prop:=match r with
 |.error x=>v=.pointer none/\c=x.1/\p=x.2/\c≠0
 |.ok code=>c=0/\p=0/\∃(cb:Nat)(cv pv gv iv:Value)(l:List PV)(g:List<|Option Addr×Nat×Nat),v=.pointer (some ⟨cb,0,none⟩)/\X8 w cb code cv pv gv iv l g/\code.jz.length<=65535/\∀x∈code.jz,x.1<=13/\x.2<65536
theorem Uf.ku{c:Nat}(h:r=.error (c,p))(a:c≠0):Uf w r (.pointer none) c p:=by subst h;exact⟨C,C,C,a⟩
theorem Uf.mkOk{code:Yb}{iv:Value}(h:r=.ok code)(a:X8 w cb code cv pv gv iv l g)(c:code.jz.length<=65535)(d:∀x∈code.jz,x.1<=13/\x.2<65536):Uf w r (Vp cb) 0 0:=by subst h;exact⟨C,C,cb,cv,pv,gv,iv,l,g,C,a,c,d⟩
theorem Tryz.infoInsR:(Tryz.prog.info? 110).map (λi=>(i.zero,i.size,i.bytes))=some (some<|.agg #[E 0,E 0],2,16):=Kr
structure WE (w0 wr:World)(cb:Nat)(cs:List Int)(ps:List<|Nd×Nat)(gs:List<|List<|LB)(is:List<|Nat×Nat)(cv pv gv:Value)(ia:Option Addr)(n ic:Nat)(l:List PV)(g:List<|Option Addr×Nat×Nat):Prop where
 base:WD wr ⟨cs,ps,gs,[]⟩ cv pv gv l g
 box:Ya wr cb [cv,pv,gv,.slice ia n ic] 69
 own:wr.ownsRow w0.heap.size 110 2 (.slice ia n ic) n<|SS is
 bel:BW w0 wr
 op:∀x∈is,x.1<=13/\x.2<65536
theorem WE.app{d:World}(h:WE w0 wr cb cs ps gs is cv pv gv ia n ic l g)(f:w0.heap.size<=cb){ga nc op arg:Nat}
 (e:wr.grownBy d (Value.slice ia n ic).ownBlock)(i:d.ownsRow w0.heap.size 110 2 (.slice (some ⟨ga,0,none⟩) (n+1) nc) (n+1)<|SS is++[E op,E arg])(o:op<=13)(p:arg<65536):
 WE w0 (d.setCell ⟨cb,3,none⟩<|.slice (some ⟨ga,0,none⟩) (n+1) nc) cb cs ps gs (is++[(op,arg)]) cv pv gv (some ⟨ga,0,none⟩) (n+1) nc l g:=by
 have j:XX [110,69] _ _:=XX.grown h.own e N;have c:=h.box.ownGrownR h.own e N;have m:XX [110,69] _<|d.setCell ⟨cb,3,none⟩<|.slice (some ⟨ga,0,none⟩) (n+1) nc:=XX.set c N _ _;refine⟨h.base.keep<|j.trans m,c.setkM 3 _,?_,?_,λx a=>?_⟩
 .rw[Dz];exact ZJ i λk q=>Go.Deep.blk_setCell_other _ _ _ _<|by
    rintro rfl;exact ZD i c N q.symm
 .exact M2 (FY h.bel h.own e) f _
 .rcases Wk.1 a with a|a
  .exact h.op x a
  .rw[Vs]at a;subst a;exact⟨o,p⟩
theorem WE.below{c:World}(h:WE w0 wr cb cs ps gs is cv pv gv ia n ic l g)(a:BW wr c):WE w0 c cb cs ps gs is cv pv gv ia n ic l g:=
 ⟨h.base.keep<|XX.below _ a,h.box.below a,Ze h.own a,h.bel.trans<|a.mono h.bel.size,h.op⟩
theorem gI(w0 w:World)(s:BA)(p0:Nat)(l:List PV)(g:List<|Option Addr×Nat×Nat)(h:WE w0 w cb cs ps gs [] cv pv gv none 0 0 l g)(a4:w0.heap.size<=cb)(hs:s.size<=maxLen)(a5:p0<=s.size)(a6:p0<=10000000000)(hn:n<=65535):
 CP 62 #[Vp cb,.string s,E p0,E n] w λe Q=>∃(v:Value)(c p:Nat),e=.returned (.tuple #[v,E c,E p])/\Hid (Uf Q (OL (bl s) cs ps gs p0 n) v c p)/\BW w0 Q:=by
 have S:=I h;have b9:s.size<=9223372036854775807:=by unfold maxLen at hs;omega
 obtain⟨i0,hi,a7,a8,a9⟩:=Xv Tryz.infoInsR;have b0:=I a4;have L:Hid<|∀k x,Yo _ _ k=.error x->k<=n->OL (bl s) cs ps gs p0 n=.error x:=I λk x he hk=>by
  unfold OL;rw[Fu he n hk]
 clear h hs;go_enter func62,ntmps62;go_wp2;go_loopw [2,11] (λav iv wr=>∃(k p:Nat)(is:List<|Nat×Nat)(ia:Option Addr)(ic:Nat),k<=n/\iv=E k/\av=E p/\p<=s.size/\p<=p0+3*k/\Hid (Yo (WM<|bl s) p0 k=.ok (is,p))/\Hid (WE w0 wr cb cs ps gs is cv pv gv ia k ic l g)) (λ_ iv _=>n-(intOf iv).toNat);case atStart=>exact⟨0,p0,[],none,0,Yr _,C,C,a5,Yj _,I C,S⟩
 case round=>
  clear S;obtain⟨k,p,is,ia,ic,hk,rfl,rfl,hp,c0,G,t⟩:=hrel;by_cases c1:k<n
  .by_cases c2:p<s.size
   .have a6:p<(bl s).length:=by rwa [Zb]
    have f:(bl s)[p]=s[p]:=SP s p _;by_cases H:13<s[p].toNat
    .have j:=I<|L _ _ (Rr G (rE<|by rwa [f]) _<|RA k) X;have b1:(13:Int)<(s[p].toNat):=X;clear f;go_wp2;go_ret3;exact⟨_,9,p,C,I<|Uf.ku j N,t.bel⟩
    .have b1:¬(13:Int)<(s[p].toNat):=X;by_cases h3:s.size<p+3
     .have j:=I<|L _ _ (Rr G (by rw[rF (f▸H)<|by rwa [Zb],Zb]) _<|RA k) X;clear f;go_wp2;go_ret3;exact⟨_,9,s.size,C,I<|Uf.ku j N,t.bel⟩
     .have T:=I<|OE G<|by rw[rG (f▸H)<|by rwa [Zb],f]
      have U:Hid<|Yp (Y6 (bl s) (p+1) 2)<65536:=I<|PS (n:=2)<|by unfold Y6;rw[Xw];omega
      obtain⟨arg,B⟩:∃arg,arg=Yp (Y6 (bl s) (p+1) 2):=⟨_,C⟩;rw[<-B]at T;rw[<-B]at U;have a2:=I B;have b8:p+3<=s.size:=X;have R:s[p].toNat<=13:=X;clear f B G H;have b3:=t.box.cell 3;simp only[Yf]at b3;have c3:=t.box.lt;have MJ:IntKind.i64.wrap ((p)+1)=(p)+1:=by rw[Us];omega
      have c4:IntKind.i64.wrap ((p)+3)=(p)+3:=by rw[Us];omega
      have wo:IntKind.i64.wrap (s[p].toNat)=(s[p].toNat):=by rw[Us];omega
      have nn1:(0:Int)<=(p)+1:=X;have nn3:(0:Int)<=(p)+3:=X;have tn3:((p:Int)+3).toNat=p+3:=X;have V:=I λo=>t.own.drew.alloc o;have M:Hid<|∀o,WE _ (wr.drew.alloc o) _ _ _ _ _ _ _ _ _ k _ l g:=I λo=>t.below<|((Ym _ _).drew).alloc (Yj _) _;have W:wr.drew.cell? _=some _:=b3;have b2:Hid<|∀o,(wr.drew.alloc o).cell? _=some _:=I λo=>(M o).box.cell 3;have b4:Hid<|∀o,(wr.drew.alloc o).heap[wr.heap.size]?=some o:=I λo=>Go.Deep.blk_alloc_new _ o;go_upto_region 8 with fail;clear b3 h3;refine ZW 21 (λQ=>Q.cell? _=some _) Kr (W) λa=>?_;clear W;refine Za 0 a (h:=Za 1 a (h:=Za 2 a (h:=Za 3 a (h:=Za 4 a (h:=Za 5 a (h:=Za 6 a (h:=Za 7 a (h:=Za 8 a (h:=Za 9 a (h:=Za 10 a (h:=Za 11 a (h:=Za 12 a (h:=Za 13 a (h:=Za 14 a (h:=?_)))))))))))))));refine Zz (i:=15) Kr C λK m=>?_;go_simp;refine(NF<|by rw[V5];omega).mono ?_;rintro e w1 ⟨rfl,rfl⟩;rw[show s.extract _ _=s.extract _ (p+1+2)from C,Zex s _ 2,<-a2];go_simp;refine m _ _ a λa=>?_;clear m K;try simp only[Act.put,Yt]
      refine Za 16 a (h:=?_);refine Zz (i:=17) Kr C λK m=>?_;go_simp;refine m _ _ (b2 _) λa=>?_;clear m K;try simp only[Act.put,Yt]
      refine Zz (i:=18) Kr C λK m=>?_;refine S3 C _ _ _ C _ 110 _ _ 2 _ underlying67 hi a7 a8 a9 C N _ k _ (by simp[Act.eval]) (V.out _) ⟨wr.heap.size,0,none⟩ 1 1 [E s[p].toNat,E arg] (by simp[Act.eval]) C ?h2 ?h3 ?h4 ?h5 ?h6 ?_;case h2=>first|exact Z1<|b4.out _|exact Z1 C|exact PW (by simp;exact wo) Sm
      case h3=>intro u hu;simp at hu;rcases hu with rfl|rfl<;>rfl
      case h4=>unfold maxLen;omega
      case h5=>omega
      case h6=>simp;omega
      intro v1 w1 D q _;obtain⟨g1,cp1,b5⟩:=Zm D X;subst b5;have HN:=I<|(M _).app b0 (q) D R U;have O:=(M _).box.ownGrownR (V _) q N;have b6:=I O;have Y:w1.cell? _=some _:=O.cell 3;refine m _ _ Y λa=>?_;clear m K;try simp only[Act.put,Of]
      refine Tk (i:=19) (d:=55) (v:=?v19) C C Kr (λ_ _ _ h=>h) (Or.inl ⟨by rfl,?hy19⟩) a ?rs19;case hy19=>(intro w hSw;go_simp;try with_reducible rfl)
      case rs19=>
      refine Tk (i:=20) (d:=56) (v:=?v20) C C Kr (λ_ _ _ h=>h) (Or.inl ⟨by rfl,?hy20⟩) a ?rs20;case hy20=>(intro w hSw;go_simp;try with_reducible rfl)
      case rs20=>
      refine ZS Kr Kr C Kr λK m=>?_;have yf:=b6.frozen 3;clear D q O;go_simp;refine m _ _ ?_;clear m K Y yf;go_wp2;go_roundw;case rel=>exact⟨k+1,p+3,_,_,_,X,by go_num,by go_num,X,X,T,HN⟩
      case measure=>simp[intOf];omega
   .have j:=I<|L _ _ (Rr G (by rw[rH<|by rw[Zb];omega,Zb]) _<|RA k) X;have h3:s.size<p+3:=X;go_wp2;go_ret3;exact⟨_,9,s.size,C,I<|Uf.ku j N,t.bel⟩
  .obtain rfl:n=k:=X;have Z:=I<|KO G;have J:Hid<|OL _ cs ps gs _ n=if s.size<p+4 then .error _ else if p+4<s.size then .error _ else
    if Yp _≠XK _ then .error _ else .ok _:=I<|by
    unfold OL;rw[G];simp only;rw[Zb]
   by_cases h4:s.size<p+4
   .have j:=I<|J.trans<|Ye h4;go_wp2;go_ret3;exact⟨_,9,s.size,C,I<|Uf.ku j N,t.bel⟩
   .by_cases h5:p+4<s.size
    .have j:=I<|J.trans<|(Yd h4).trans<|Ye h5;go_wp2;go_ret3;exact⟨_,9,p+4,by first|rfl|go_num,I<|Uf.ku j N,t.bel⟩
    .have a0:p+4=s.size:=X;have c5:=I a0;clear a0;go_wp2_with fail;refine(Ao _<|by rw[V5];omega).mono ?_;rintro e z ⟨r,rfl,HR,a1⟩;have A:=I<|t.below a1;have P:Hid<|r=s↔Yp ((bl s).drop p)=XK ((bl s).take p):=by
      rw[<-iQ<|by rwa [Zb],<-Ag,<-HR];exact⟨λe=>by rw[e],λe=>LS.ZbH e⟩
     clear a1 HR;by_cases F:r=s
     .have j:=I<|J.trans<|(Yd h4).trans<|(Yd h5).trans<|Yd λh=>h<|P.1 F;subst F;have b7:=I<|A.base.code A.box<|by rw[Z];exact U6 A.own
      have a3:=I<|Uf.mkOk j b7 (by rwa [Z.out]) A.op;go_wp2;go_ret3;exact⟨_,0,0,C,a3,A.bel⟩
     .have j:=I<|J.trans<|(Yd h4).trans<|(Yd h5).trans<|Ye λh=>F<|P.2 h;have e1:=(Ov r s).trans<|Wl F;have e2:(r.toList !=s.toList)=true:=by rw[bne,e1];rfl
      clear F P;go_wp2;go_ret3;exact⟨_,10,0,C,I<|Uf.ku j N,A.bel⟩
def XD(bs:List BA)(i k:Nat):Bool:=Zx (bl<|bs.getD i ⟨#[]⟩)&&(List.range k).all λj=>decide<|bs.getD j ⟨#[]⟩≠bs.getD i ⟨#[]⟩
theorem lY(bs:List BA)(i:Nat):XD bs i 0=Zx (bl<|bs.getD i ⟨#[]⟩):=by simp[XD]
theorem lX(bs:List BA)(i k:Nat):XD bs i (k+1)=(XD bs i k&&decide (bs.getD k ⟨#[]⟩≠bs.getD i ⟨#[]⟩)):=by
 unfold XD;rw[List.range_succ,IA];simp[Bool.and_assoc]
theorem lV{k:Nat}(h:XD bs i k=true):Zx (bl<|bs.getD i ⟨#[]⟩)=true:=by
 unfold XD at h;rw[Vu]at h;exact h.1
theorem lW{k j:Nat}(h:XD bs i k=true)(a:j<k):bs.getD j ⟨#[]⟩≠bs.getD i ⟨#[]⟩:=by
 unfold XD at h;rw[Vu]at h;exact Rw<|Tt.1 h.2 j<|RY.2 a
theorem Pi(h:i<bs.length):bs.getD i ⟨#[]⟩=bs[i]:=by
 rw[Y0,List.getElem?_eq_getElem h];rfl
theorem qP(f:t≠[])(g:bs.map bl=split 44 t)(h:∀i,i<bs.length->XD bs i i=true):VW t=some (split 44 t):=by
 unfold VW;rw[Yd f,Ye];rw[<-g];constructor
 .rw[Tt];intro x k;obtain⟨y,l,rfl⟩:=XJ.1 k;obtain⟨i,a,rfl⟩:=List.mem_iff_getElem.1 l;have:=lV<|h i a;rwa [Pi _]at this
 .unfold List.Nodup;rw[List.pairwise_iff_getElem];intro i j a c d e;rw[List.getElem_map,List.getElem_map]at e;rw[Yz]at a c;have:=lW (h j c) d;rw[Pi a,Pi c]at this;exact this<|LS.ZbH e
theorem qJ(f:t≠[])(g:bs.map bl=split 44 t)(c:i<bs.length)(h:XD bs i i=false):VW t=none:=by
 unfold VW;rw[Yd f,Yd];rw[<-g];rintro⟨k,d⟩;have:XD bs i i=true:=by
  unfold XD;rw[Vu];constructor
  .rw[Pi c];exact Tt.1 k _<|XJ.2 ⟨_,List.getElem_mem _,C⟩
  .rw[Tt];intro j a;have a:=RY.1 a;apply WI;rw[Pi c,Pi<|Nat.lt_trans a c];unfold List.Nodup at d;rw[List.pairwise_iff_getElem]at d;have:=d j i (by rw[Yz];omega) (by rw[Yz];omega) a;rw[List.getElem_map,List.getElem_map]at this;exact λe=>this<|by rw[e]
 rw[h]at this;cases this
def On(w:World)(r:Option<|List<|LB)(a:Option Addr)(n c:Nat)(ok:Value):Prop:=match r with
 |none=>ok=.bool false
 |some x=>ok=.bool true/\∃bs:List BA,w.ownsRow 0 9 1 (.slice a n c) bs.length (bs.map .string)/\bs.map bl=x
theorem On.mkNone{r:Option<|List<|LB}{c:Nat}(h:r=none):On w r a n c<|.bool false:=by subst h;rfl
theorem On.mkSome{r:Option<|List<|LB}{c:Nat}{x:List<|LB}(h:r=some x)(d:∃bs:List BA,w.ownsRow 0 9 1 (.slice a n c) bs.length (bs.map .string)/\bs.map bl=x):On w r a n c<|.bool true:=by subst h;exact⟨C,d⟩
theorem qA{t:BA}(w:World)(ht:t.size<=65535):
 CP 61 #[.string t] w λe u=>∃(a:Option Addr)(n c:Nat)(ok:Value),e=.returned (.tuple #[.slice a n c,ok])/\Hid (On u (VW<|bl t) a n c ok)/\BW w u:=by
 by_cases L:t=⟨#[]⟩
 .subst L;have HG:Hid<|VW (bl ⟨#[]⟩)=some []:=I<|by unfold VW;rw[Ye<|show bl ⟨#[]⟩=[]from C]
  go_enter func61,ntmps61;go_wp2;go_ret2;exact⟨none,0,0,_,C,I<|On.mkSome HG ⟨[],Xm _ _ _ _,C⟩,Yh⟩
 .have a0:(t.toList==[])=false:=by
   have A:=(Ov t _).trans<|Wl L;rw[ZA ⟨#[]⟩]at A;exact A
  have P:Hid<|bl t≠[]:=I λe=>L<|LS.ZbH e;clear L;go_enter func61,ntmps61;go_wp2_with fail;refine(Ap t 44 w X).mono ?_;rintro e M ⟨v,bs,rfl,q,m,Q⟩;have s:=I Q;have F:=I<|U6 q;have a1:Hid<|bs.length<=65536:=I<|by
   have A:=congrArg List.length m;have h2:=Qf 44<|bl t;rw[Yz]at A;rw[Zb]at h2;omega
  have a2:Hid<|∀x∈bs,x.size<=65535:=I λx B=>by
   have A:bl x∈split _ _:=m.out▸XJ.2 ⟨x,B,C⟩;have:=JN _ _ _ A;rw[Zb,Zb]at this;omega
  obtain⟨va,vc,rfl⟩:=Zd q;clear q Q a0;have a3:=a1.out;obtain⟨n,V⟩:∃n,n=bs.length:=⟨_,C⟩;rw[<-V]at a3⊢;have O:=I V;clear V;go_wp2;go_loopw [5] (λiv wr=>∃i:Nat,i<=n/\iv=E i/\Hid (∀j,j<i->XD bs j j=true)/\Hid (BW M wr)) (λiv _=>n-(intOf iv).toNat);case atStart=>exact⟨0,Yr _,C,I λj hj=>absurd hj<|Tu _,I<|Ym _ _⟩
  case round=>
   obtain⟨i,hi,rfl,HA,z⟩:=hrel;by_cases a4:i<n
   .have d:i<bs.length:=by rw[<-O.out];exact a4
    have f:=I<|Ze F.out z.out;obtain⟨g,cp,hg⟩:=Zm f.out X;injection hg with hg1 hg2 hg3;subst hg1;clear hg2 hg3;obtain⟨x,B⟩:∃x,bs.getD i ⟨#[]⟩=x:=⟨_,C⟩;have W:=I B;have ci:=Zc f i (.string x)<|by rw[Vt,List.getElem?_eq_getElem d,<-B,Pi d];rfl
    have a7:=a2 x<|B▸Pi d▸List.getElem_mem d;have R:=ZN f;clear B;go_wp2_with fail;refine(Am x _ X).mono ?_;rintro e wr ⟨rfl,rfl⟩;obtain⟨ok0,r⟩:∃ok0,Zx (bl x)=ok0:=⟨_,C⟩;rw[r];have G:Hid<|XD _ i 0=ok0:=I<|by rw[lY,W,r]
    clear r;go_wp2;go_loopw [6,7] (λov kv wq=>∃(k:Nat)(ok:Value),k<=i/\kv=E k/\ov=ok/\Hid (ok=.bool (XD bs i k))/\Hid (BW M wq)) (λ_ kv _=>i-(intOf kv).toNat);case atStart=>exact⟨0,_,Yr _,C,C,I<|by rw[G],z⟩
    case round=>
     obtain⟨k,ok,hk,rfl,rfl,S,l⟩:=hrel;clear ci f G R;have H:=I<|Ze F l;obtain⟨b,D⟩:∃b,XD bs i k=b:=⟨_,C⟩;have T:=S.out;rw[D]at T;subst T;by_cases a8:k<i
     .have U:k<bs.length:=X;obtain⟨y,Y⟩:∃y,bs.getD k ⟨#[]⟩=y:=⟨_,C⟩;have ci:=Zc H i (.string x)<|by rw[Vt,List.getElem?_eq_getElem d,<-W,Pi d];rfl
      have ck:=Zc H k (.string y)<|by rw[Vt,List.getElem?_eq_getElem U,<-Y,Pi U];rfl
      have R:=ZN H;have a9:k<n:=X;have J:Hid<|XD _ i _=(b&&decide _):=I<|by rw[lX,D,Y,W]
      clear Y D S;cases b with
      |false=>
       have o:Hid<|XD _ i _=false:=I J;go_wp2;go_quiet (fail);go_wp2;go_roundw;case rel=>exact⟨k+1,_,X,by go_num,C,I<|by rw[o],I<|by have:=l.out;first|exact this|exact this.drew|exact Wn this _⟩
       case measure=>simp[intOf];omega
      |true=>
       by_cases p:y=x
       .have o:Hid<|XD bs i (k+1)=false:=I<|by rw[J.out,Wl λh=>h p];rfl
        subst p;go_wp2;go_quiet (fail);go_wp2;go_roundw;case rel=>exact⟨k+1,_,X,by go_num,C,I<|by rw[o],I<|by have:=l.out;first|exact this|exact this.drew|exact Wn this _⟩
        case measure=>simp[intOf];omega
       .have o:Hid<|XD bs i (k+1)=true:=by rw[J,WI p];rfl
        have e1:=(Ov y x).trans<|Wl p;have e2:(y.toList !=x.toList)=true:=by rw[bne,e1];rfl
        clear p;go_wp2;go_quiet (fail);go_wp2;go_roundw;case rel=>exact⟨k+1,_,X,by go_num,C,I<|by rw[o],I<|by have:=l.out;first|exact this|exact this.drew|exact Wn this _⟩
        case measure=>simp[intOf];omega
     .obtain rfl:k=i:=X;cases b with
      |false=>
       have a5:=I<|qJ P m d D;have K:=I<|s.trans<|l.mono s.size;go_wp2;go_ret2;exact⟨none,0,0,_,C,I<|On.mkNone a5,K⟩
      |true=>
       have a6:Hid<|∀j,j<k+1->XD _ j j=true:=I (λj hj=>by
        by_cases e:j=k
        .subst e;exact D
        .exact HA j X);clear D;go_wp2;go_roundw;case rel=>exact⟨k+1,X,by go_num,a6,l⟩
       case measure=>simp[intOf];omega
   .obtain rfl:i=n:=X;have Z:=I<|qP P m<|by rwa [<-O.out]
    have f:=I<|Ze F z;have K:=I<|s.trans<|z.mono s.size;go_wp2;go_ret2;exact⟨va,i,vc,_,C,I<|On.mkSome Z ⟨bs,by rw[<-O];have:=f.out;rwa [<-O]at this,m⟩,K⟩

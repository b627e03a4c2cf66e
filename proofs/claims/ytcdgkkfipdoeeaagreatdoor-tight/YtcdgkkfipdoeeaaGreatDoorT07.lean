/- Parts. -/
import Derived.Test.YtcdgkkfipdoeeaaGreatDoorT01
set_option linter.all false
set_option maxRecDepth 100000
set_option maxHeartbeats 16000000
namespace Go.Proofs.YtcdgkkfipdoeeaaGreatDoor
open Go.RowKit LS Go.Proofs.Tryz
variable {b:Bool}{l r s x:LB}{ts:List Tok}{d deep i j k lv m n:Nat}{rec:Nat->List Tok->Nat->Out Tr}{p:Nat×Nat}{t:Tr}{z:Tr×List Tok}{c:UInt8}
def sh(t:Tok):Nat×LB:=(t.jj,t.txt)
abbrev Sh:=Nat×LB
abbrev LxC (P:LB->List Sh->Prop):Prop:=P [] [(0,[])]/\(∀ {{r T}},P r T->P (32::r) T)/\(∀ {{c}} {{d:LB}} {{r T}},ZC c=true->d.all ZC=true->(ZQ 1000000000 (c::d)).isSome=true->run ZC r=0->P r T->P (c::d++r) ((1,c::d)::T))/\(∀ {{c}} {{d:LB}} {{r T}},Zp c=true->d.all Zp=true->d.length<=7->run Zp r=0->P r T->P (c::d++r) ((2,c::d)::T))/\(∀ {{v r T}},Z3 v=true->P r T->P (34::(v++34::r)) ((3,v)::T))/\(∀ {{r T}},P r T->P (33::61::r) ((4,[33,61])::T))/\∀ {{c r T}},c∈Zdq->P r T->P (c::r) ((4,[c])::T)
def Lx(m:LB)(T:List Sh):Prop:=∀P,LxC P->P m T
theorem lxc:LxC Lx:=⟨fun _ k=>k.1,fun _ _ h P k=>k.2.1 (h P k),fun _ _ _ _ a b c d h P k=>k.2.2.1 a b c d (h P k),fun _ _ _ _ a b c d h P k=>k.2.2.2.1 a b c d (h P k),fun _ _ _ a h P k=>k.2.2.2.2.1 a (h P k),fun _ _ h P k=>k.2.2.2.2.2.1 (h P k),fun _ _ _ a h P k=>k.2.2.2.2.2.2 a (h P k)⟩
abbrev Lx.nil:=lxc.1
abbrev Lx.skip:=lxc.2.1
abbrev Lx.num:=lxc.2.2.1
abbrev Lx.name:=lxc.2.2.2.1
abbrev Lx.word:=lxc.2.2.2.2.1
abbrev Lx.ne:=lxc.2.2.2.2.2.1
abbrev Lx.sign:=lxc.2.2.2.2.2.2
theorem Lx.ind{motive:∀m T,Lx m T->Prop}(nil:motive _ _ Lx.nil)(skip:∀ {r T} (h:Lx r T),motive r T h->motive _ _ (Lx.skip h))(num:∀ {c d r T} i j k l (h:Lx r T),motive r T h->motive _ _ (Lx.num (c:=c) (d:=d) i j k l h))(name:∀ {c d r T} i j k l (h:Lx r T),motive r T h->motive _ _ (Lx.name (c:=c) (d:=d) i j k l h))(word:∀ {v r T} i (h:Lx r T),motive r T h->motive _ _ (Lx.word (v:=v) i h))(ne:∀ {r T} (h:Lx r T),motive r T h->motive _ _ (Lx.ne h))(sign:∀ {c r T} i (h:Lx r T),motive r T h->motive _ _ (Lx.sign (c:=c) i h)){m:LB}{T:List Sh}(h:Lx m T):motive m T h:=by
 obtain⟨_,k⟩:=h (fun m T=>∃h,motive m T h) ⟨⟨_,nil⟩,fun _ _ ⟨h,k⟩=>⟨_,skip h k⟩,fun _ _ _ _ a b c d ⟨h,k⟩=>⟨_,num a b c d h k⟩,fun _ _ _ _ a b c d ⟨h,k⟩=>⟨_,name a b c d h k⟩,fun _ _ _ a ⟨h,k⟩=>⟨_,word a h k⟩,fun _ _ ⟨h,k⟩=>⟨_,ne h k⟩,fun _ _ _ a ⟨h,k⟩=>⟨_,sign a h k⟩⟩;exact k
theorem Zm3(p:UInt8->Bool):∀(d r:LB),d.all p=true->run p r=0->run p (d++r)=d.length
 | [],_,_,h=>h
 | c :: d, r, h, a => by
   rw[Yep,Yas]at h;rw[Yby,run,if_pos h.1,Zm3 p d r h.2 a,Yaj]
theorem Zx8(h:l.drop i=32::r):Zk l i=Zk l (i+1):=by
 have a:l.drop (i+1)=r:=by rw[<-Yei,h];rfl
 unfold Zk;rw[h,a];have:run (· == 32) (32::r)=run _ r+1:=rfl;rw[this,show i+(run _ r+1)=i+1+run (· == 32) r by omega]
theorem Zif(h:l.drop i=c::r)(a:c≠32):Zk l i=lexC l i c r:=by
 unfold Zk;rw[h];have:run (· == 32) (c::r)=0:=by simp[run,a]
 rw[this,Yf5];unfold lexJ;rw[h]
theorem ZCh(h:c∈Zdq):ZC c=false/\Zp c=false/\(c == 34)=false/\(c == 33)=false/\(seek c Zdq).isSome=true/\c≠32:=by
 have:∀x∈Zdq,ZC x=false/\Zp x=false/\(x == 34)=false/\(x == 33)=false/\(seek x Zdq).isSome=true/\x≠32:=by decide
 simp_all
theorem ZEO{v:LB}(h:Z3 v=true):(34:UInt8)∉v:=by
 intro a;unfold Z3 at h;rw[Yas]at h;exact absurd (Ybu.1 h.1 _ a) Dc
theorem Zvv(h:ZC c=true):c≠32:=by rintro rfl;exact absurd h Dc
theorem ZxY(h:Zp c=true):c≠32/\ZC c=false:=by
 refine⟨by rintro rfl;exact absurd h Dc,?_⟩;simp only[Zp,ZC,Yas,decide_eq_true_eq,Yfm,decide_eq_false_iff_not]at *
 omega
theorem Zih{T:List Sh}(h:Zk l i=(⟨k,x,i⟩,j))(a:¬(k=0∨k=5))(c:(ZN l n j).map sh=T):(ZN l (n+1) i).map sh=(k,x)::T:=by
 rw[ZN,h,if_neg a,Ybb,c];rfl
theorem ZgI{p:LB}(h:l.drop i=p++r):l.drop (i+p.length)=r:=by
 rw[<-Yei,h,List.drop_left]
theorem ZgJ{p:LB}(a:i<=l.length)(h:l.drop i=p++r):i+p.length<=l.length:=by
 have:=congrArg List.length h;rw[Ybv,Yab]at this;omega
theorem ZyL{m:LB}{T:List Sh}(h:Lx m T):∀(l:LB) (i n:Nat),l.drop i=m->i<=l.length->l.length+1<=n+i->(ZN l n i).map sh=T:=by
 induction h using Lx.ind with
 | nil=>
  intro l i n hd a j;obtain⟨n,rfl⟩:∃k,n=k+1:=⟨n - 1,by omega⟩
  have e:Zk l i=(⟨0,[],i⟩,i):=by
   unfold Zk;rw[hd];show lexJ l i=_;unfold lexJ;rw[hd]
  rw[ZN,e,if_pos (.inl rfl)];rfl
 | @skip r T o ih=>
  intro l i n hd a j;have f:l.drop (i+1)=r:=ZgI (p:=[32]) hd;have s:i+1<=l.length:=ZgJ (p:=[32]) a hd;obtain⟨n,rfl⟩:∃k,n=k+1:=⟨n - 1,by omega⟩
  have:=ih l _ (n+1) f s Om;rw[ZN,<-Zx8 hd]at this
  assumption
 | @num c d r T f s w t o ih=>
  intro l i n hd a j;have g1:=ZgI hd;have g2:=ZgJ a hd;rw[Yaj]at g1 g2;obtain⟨n,rfl⟩:∃k,n=k+1:=⟨n - 1,by omega⟩
  have g:run _ (c::(d++r))=d.length+1:=Zm3 _ (c::d) r (by simp_all) t;have q:(c::(d++r)).take (d.length+1)=c::d:=by simp
  have e:Zk l i=(⟨1,c::d,i⟩,i+(d.length+1)):=by
   rw[Zif (r:=d++r) (by simp_all) (Zvv f),lexC,if_pos f,g,q,if_pos w]
  exact Zih e Om (ih l _ n g1 g2 Om)
 | @name c d r T f s w t o ih=>
  intro l i n hd a j;have g1:=ZgI hd;have g2:=ZgJ a hd;rw[Yaj]at g1 g2;obtain⟨n,rfl⟩:∃k,n=k+1:=⟨n - 1,by omega⟩
  have g:run _ (c::(d++r))=d.length+1:=Zm3 _ (c::d) r (by simp_all) t;have q:(c::(d++r)).take (d.length+1)=c::d:=by simp
  have x:=ZxY f
  have e:Zk l i=(⟨2,c::d,i⟩,i+(d.length+1)):=by
   rw[Zif (r:=d++r) (by simp_all) x.1,lexC,if_neg (by simp_all),if_pos f,g,q,if_neg Om]
  exact Zih e Om (ih l _ n g1 g2 Om)
 | @word v r T f o ih=>
  intro l i n hd a j;have g1:=ZgI (p:=34::(v++[34])) (r:=r) (by rw[hd];simp);have g2:=ZgJ (p:=34::(v++[34])) (r:=r) a (by simp_all);have u:(34::(v++[34])).length=v.length+2:=by simp
  rw[u]at g1 g2;obtain⟨n,rfl⟩:∃k,n=k+1:=⟨n - 1,by omega⟩
  have e:Zk l i=(⟨3,v,i⟩,i+(v.length+2)):=by
   rw[Zif hd Dc,lexC,if_neg Dc,if_neg Dc,if_pos Dc,Zgq _ v r (ZEO f)];simp only[List.take_left,f,if_true];rfl
  exact Zih e Om (ih l _ n g1 g2 Om)
 | @ne r T o ih=>
  intro l i n hd a j;have g1:=ZgI (p:=[33,61]) hd;have g2:=ZgJ (p:=[33,61]) a hd;obtain⟨n,rfl⟩:∃k,n=k+1:=⟨n - 1,by omega⟩
  have e:Zk l i=(⟨4,[33,61],i⟩,i+2):=by
   rw[Zif hd Dc,lexC,if_neg Dc,if_neg Dc,if_neg Dc,if_pos (by simp)]
  exact Zih e Om (ih l _ n g1 g2 Om)
 | @sign c r T f o ih=>
  intro l i n hd a j;have g1:=ZgI (p:=[c]) hd;have g2:=ZgJ (p:=[c]) a hd;obtain⟨n,rfl⟩:∃k,n=k+1:=⟨n - 1,by omega⟩
  obtain⟨s1,s2,s3,s4,s5,s6⟩:=ZCh f
  have e:Zk l i=(⟨4,[c],i⟩,i+1):=by
   rw[Zif hd s6,lexC,s1,s2,s3,s4,s5];rfl
  exact Zih e Om (ih l _ n g1 g2 Om)
theorem Zlm(h:d<=9):(dig d).toNat=48+d:=by unfold dig;simp;omega
theorem ZoN(h:d<=9):ZC (dig d)=true:=by
 have:=Zlm h;simp only[ZC,Yas,decide_eq_true_eq];omega
theorem ZoK(n:Nat):(decS n).all ZC=true/\val (decS n)=n/\decS n≠[]/\((decS n).head?=some 48->(decS n).length=1):=by
 induction n using Nat.strongRecOn with
 | _ n ih=>
  by_cases h:n<=9
  ·rw[Zh0 h];refine⟨by simp[ZoN h],?_,by simp,fun _=>rfl⟩;show 10*0+((dig n).toNat - 48)=n;rw[Zlm h];omega
  ·obtain⟨f,e,k,g⟩:=ih (n / 10) Om;rw[Zi6 h];refine⟨by rw[Yfc,f];simp[ZoN (show n % 10<=9 by omega)],?_,by simp,fun l=>?_⟩
   ·rw[Znt,e,Zlm (show n % 10<=9 by omega)];omega
   ·exfalso
    have d:(decS (n / 10)).head?=some 48:=by
     cases hd:decS (n / 10)with
     | nil=>simp_all
     | cons a t=>simp_all
    have i:=g d;obtain⟨c,j⟩:=List.length_eq_one_iff.1 i;rw[j]at d e;simp only[List.head?_cons,Yci]at d;subst d;have:n / 10=0:=by rw[<-e];rfl
    omega
theorem ZjP{most:Nat}(h:n<=most):ZQ most (decS n)=some n:=by
 obtain⟨a,c,d,e⟩:=ZoK n;unfold ZQ
 simp_all
def stop(r:LB):Prop:=run Zp r=0/\run ZC r=0
theorem ZCR:stop []:=⟨rfl,rfl⟩
theorem Zc3(a:Zp c=false)(d:ZC c=false):stop (c::r):=⟨by simp[run,a],by simp[run,d]⟩
theorem ZqL(h:n<=1000000000){T:List Sh}(e:stop r)(f:Lx r T):Lx (decS n++r) ((1,decS n)::T):=by
 obtain⟨a,i,j,k⟩:=ZoK n;have g:=ZjP h;cases hd:decS n with
 | nil=>simp_all
 | cons c d=>
  rw[hd]at a g;rw[Yep,Yas]at a;exact Lx.num a.1 a.2 (by simp_all) e.2 f
theorem ZeW(h:Zx x=true){T:List Sh}(e:stop r)(f:Lx r T):Lx (x++r) ((2,x)::T):=by
 unfold Zx at h;rw[Yas,Yas,decide_eq_true_eq,decide_eq_true_eq]at h;cases x with
 | nil=>simp_all
 | cons c d=>
  have a:=h.1;rw[Yep,Yas]at a;exact Lx.name a.1 a.2 (by simp_all;omega) e.1 f
abbrev Cnd:=LB×LB×Bool
def Zeo(c:Cnd):List Sh:=[(2,c.1),(4,if c.2.2 then [33,61] else [61]),(3,c.2.1)]
def sepT:List (List Sh)->List Sh
 | []=>[]
 | [a]=>a
 | a::l=>a++(4,[44])::sepT l
def Zea(a:Nd):List Sh:=(2,a.name)::(if a.jn=[] then [] else (4,[123])::(sepT (a.jn.map Zeo)++[(4,[125])]))
def opTk(o:Nat):Sh:=(4,opS o)
def ZcZ(a:Nd)(pl pr:Nat->List Sh):List Sh:=
 if a.jj=0 then [(1,decS a.n.toNat)]
 else if a.jj=1 then Zea a
 else if a.jj=2 then (2,Z0.getD a.op [])::(4,[40])::(Zea a++[(4,[91]),(1,decS a.n.toNat),(4,[93]),(4,[41])])
 else if a.jj=3 then (4,[45])::pl 4
 else if a.jj=5 then (2,ZW.getD a.op [])::(2,wBy)::(4,[40])::(sepT (a.by_.map fun x=>[(2,x)])++(4,[41])::(4,[40])::(pl 1++[(4,[41])]))
 else if a.jj=6 then pl 1++(2,wOr)::pr 2
 else pl (Zz a)++opTk a.op::pr (Zz a+1)
def ZeL(b:Bool)(s:List Sh):List Sh:=if b then (4,[40])::(s++[(4,[41])])else s
def toks:Tr->Nat->List Sh
 | .nil,_=>[]
 | .node _ _ a l r,must=>ZeL (decide (Zz a<must)) (ZcZ a (toks l) (toks r))
def Zfj(c:Cnd):Prop:=Zx c.1=true/\Z3 c.2.1=true
def Ze3(nm:LB)(cs:List Cnd):Prop:=Zx nm=true/\idx nm ZW=none/\idx nm Z0=none/\nm≠wOr/\nm≠wBy/\∀c∈cs,Zfj c
abbrev GTc (P:Tr->Prop):Prop:=(∀n:Nat,n<=1000000000->P (Zbg ⟨0,0,n,[],[],[]⟩))/\(∀nm cs,Ze3 nm cs->P (Zbg ⟨1,0,0,nm,cs,[]⟩))/\(∀(o n:Nat) nm cs,o<5->1<=n->n<=1000->Ze3 nm cs->P (Zbg ⟨2,o,n,nm,cs,[]⟩))/\(∀l,P l->P (.node 0 0 (nd0 3 0) l .nil))/\(∀g ns l,g<4->(∀x∈ns,Zx x=true)->P l->P (.node 0 0 ⟨5,g,0,[],[],ns⟩ l .nil))/\(∀o l r,o<4->P l->P r->P (.node 0 0 (nd0 4 o) l r))/\∀l r,P l->P r->P (.node 0 0 (nd0 6 0) l r)
def GT(t:Tr):Prop:=∀P,GTc P->P t
theorem gtc:GTc GT:=⟨fun n h _ k=>k.1 n h,fun a b h _ k=>k.2.1 a b h,fun o n a b h i j m _ k=>k.2.2.1 o n a b h i j m,fun l h P k=>k.2.2.2.1 l (h P k),fun g n l a b h P k=>k.2.2.2.2.1 g n l a b (h P k),fun o l r a h i P k=>k.2.2.2.2.2.1 o l r a (h P k) (i P k),fun l r h i P k=>k.2.2.2.2.2.2 l r (h P k) (i P k)⟩
abbrev GT.num:=gtc.1
abbrev GT.sel:=gtc.2.1
abbrev GT.win:=gtc.2.2.1
abbrev GT.neg:=gtc.2.2.2.1
abbrev GT.grp:=gtc.2.2.2.2.1
abbrev GT.bin:=gtc.2.2.2.2.2.1
abbrev GT.or:=gtc.2.2.2.2.2.2
theorem GT.ind{motive:∀t,GT t->Prop}(num:∀n h,motive _ (GT.num n h))(sel:∀a b h,motive _ (GT.sel a b h))(win:∀o n a b h i j k,motive _ (GT.win o n a b h i j k))(neg:∀l h,motive l h->motive _ (GT.neg l h))(grp:∀g n l a b h,motive l h->motive _ (GT.grp g n l a b h))(bin:∀o l r a h i,motive l h->motive r i->motive _ (GT.bin o l r a h i))(or:∀l r h i,motive l h->motive r i->motive _ (GT.or l r h i))(h:GT t):motive t h:=by
 obtain⟨_,k⟩:=h (fun t=>∃h,motive t h) ⟨fun n h=>⟨_,num n h⟩,fun a b h=>⟨_,sel a b h⟩,fun o n a b h i j k=>⟨_,win o n a b h i j k⟩,fun l ⟨h,k⟩=>⟨_,neg l h k⟩,fun g n l a b ⟨h,k⟩=>⟨_,grp g n l a b h k⟩,fun o l r a ⟨h,k⟩ ⟨i,j⟩=>⟨_,bin o l r a h i k j⟩,fun l r ⟨h,k⟩ ⟨i,j⟩=>⟨_,or l r h i k j⟩⟩;exact k
theorem Zmg{α:Type}(f:α->LB)(g:α->List Sh){ok:α->Prop}(d:∀a,ok a->∀r T,stop r->Lx r T->Lx (f a++r) (g a++T)):∀(l:List α),(∀a∈l,ok a)->∀r T,stop r->Lx r T->Lx (commas (l.map f)++r) (sepT (l.map g)++T)
 | [],_,r,T,_,c=>c
 | [a],h,r,T,e,c=>d a (h a (Yay ..)) r T e c
 | a :: b :: l, h, r, T, e, c => by
   have ih:=Zmg f g d _ (fun x i=>h x (Yam _ i)) r T e c
   have e1:commas ((a::b::l).map f)++r=f a++44::(commas ((b::l).map f)++r):=by
     show(f a++44::commas ((b::l).map f))++r=_;simp
   have e2:sepT ((a::b::l).map g)++T=g a++(4,[44])::(sepT ((b::l).map g)++T):=by
     show(g a++(4,[44])::sepT ((b::l).map g))++T=_;simp
   rw[e1,e2];exact d a (h a (Yay ..)) _ _ (Zc3 Dc Dc) (Lx.sign Dc ih)
theorem ZyM(c:Cnd)(h:Zfj c)(r:LB)(T:List Sh)(_:stop r)(f:Lx r T):Lx (Z8 c++r) (Zeo c++T):=by
 obtain⟨n,v,b⟩:=c;obtain⟨a,g⟩:=h;have d:Lx _ ((3,v)::T):=Lx.word g f;cases b with
 | true=>
  have e:Z8 (n,v,true)++r=n++33::61::34::(v++34::r):=by simp[Z8]
  rw[e];exact ZeW a (Zc3 Dc Dc) (Lx.ne d)
 | false=>
  have e:Z8 (n,v,false)++r=n++61::34::(v++34::r):=by simp[Z8]
  rw[e];exact ZeW a (Zc3 Dc Dc) (Lx.sign Dc d)
theorem ZqM{a:Nd}(h:Ze3 a.name a.jn)(r:LB)(T:List Sh)(e:stop r)(d:Lx r T):Lx (selS a++r) (Zea a++T):=by
 unfold selS Zea;by_cases c:a.jn=[]
 ·rw[if_pos c,if_pos c];exact ZeW h.1 e d
 ·rw[if_neg c,if_neg c];have e1:a.name++[123]++commas (a.jn.map Z8)++[125]++r=a.name++123::(commas (a.jn.map Z8)++125::r):=by simp
  have e2:((2,a.name)::(4,[123])::(sepT (a.jn.map Zeo)++[(4,[125])]))++T=(2,a.name)::(4,[123])::(sepT (a.jn.map Zeo)++(4,[125])::T):=by simp
  rw[e1,e2];exact ZeW h.1 (Zc3 Dc Dc) (Lx.sign Dc (Zmg _ _ ZyM _ h.2.2.2.2.2 _ _ (Zc3 Dc Dc) (Lx.sign Dc d)))
theorem Zrr:∀o,o<5->Zx (Z0.getD o [])=true:=by decide
theorem ZpL:∀o,o<4->Zx (ZW.getD o [])=true:=by decide
theorem ZzM:∀o,o<4->∃c:UInt8,opS o=[c]/\c∈Zdq:=by
 intro o a;obtain rfl|rfl|rfl|rfl:o=0∨o=1∨o=2∨o=3:=by omega
 ·exact⟨43,rfl,by decide⟩
 ·exact⟨45,rfl,by decide⟩
 ·exact⟨42,rfl,by decide⟩
 ·exact⟨47,rfl,by decide⟩
def LxP(s:LB)(S:List Sh):Prop:=∀r T,stop r->Lx r T->Lx (s++r) (S++T)
theorem Zgd{S:List Sh}(h:LxP s S):LxP (ZeK b s) (ZeL b S):=by
 cases b with
 | false=>exact h
 | true=>
  intro r T c a;have e1:ZeK true s++r=40::(s++41::r):=by simp[ZeK]
  have e2:ZeL true S++T=(4,[40])::(S++(4,[41])::T):=by simp[ZeL]
  rw[e1,e2];exact Lx.sign Dc (h _ _ (Zc3 Dc Dc) (Lx.sign Dc a))
theorem ZyN(h:GT t):∀must,LxP (Zu t must) (toks t must):=by
 induction h using GT.ind with
 | num n q=>
  intro must;exact Zgd (fun r T e d=>ZqL q e d)
 | sel nm cs h=>
  intro must;exact Zgd (fun r T e d=>ZqM h r T e d)
 | win o n nm cs j v w h=>
  intro must;refine Zgd (fun r T e d=>?_);have e1:Zbv ⟨2,o,(n),nm,cs,[]⟩ (Zu .nil) (Zu .nil)++r=Z0.getD o []++40::(selS ⟨2,o,(n),nm,cs,[]⟩++91::(decS n++93::41::r)):=by simp[Zbv]
  have e2:ZcZ ⟨2,o,(n),nm,cs,[]⟩ (toks .nil) (toks .nil)++T=(2,Z0.getD o [])::(4,[40])::(Zea ⟨2,o,(n),nm,cs,[]⟩++(4,[91])::(1,decS n)::(4,[93])::(4,[41])::T):=by simp[ZcZ]
  rw[e1,e2];exact ZeW (Zrr o j) (Zc3 Dc Dc) (Lx.sign Dc (ZqM h _ _ (Zc3 Dc Dc) (Lx.sign Dc (ZqL Om (Zc3 Dc Dc) (Lx.sign Dc (Lx.sign Dc d))))))
 | neg l _ ih=>
  intro must;refine Zgd (fun r T e d=>?_);exact Lx.sign Dc (ih 4 r T e d)
 | grp g ns l s k _ ih=>
  intro must;refine Zgd (fun r T e d=>?_);have e1:Zbv ⟨5,g,0,[],[],ns⟩ (Zu l) (Zu .nil)++r=ZW.getD g []++32::(wBy++32::40::(commas (ns.map id)++41::32::40::(Zu l 1++41::r))):=by simp[Zbv,wBy]
  have e2:ZcZ ⟨5,g,0,[],[],ns⟩ (toks l) (toks .nil)++T=(2,ZW.getD g [])::(2,wBy)::(4,[40])::(sepT (ns.map fun x=>[(2,x)])++(4,[41])::(4,[40])::(toks l 1++(4,[41])::T)):=by simp[ZcZ]
  rw[e1,e2];refine ZeW (ZpL g s) (Zc3 Dc Dc) (Lx.skip (ZeW Dc (Zc3 Dc Dc) (Lx.skip (Lx.sign Dc ?_))));refine Zmg _ _ (fun a u r T e d=>ZeW u e d) _ k _ _ (Zc3 Dc Dc) ?_;exact Lx.sign Dc (Lx.skip (Lx.sign Dc (ih 1 _ _ (Zc3 Dc Dc) (Lx.sign Dc d))))
 | bin o l r j _ _ f i=>
  intro must;refine Zgd (fun r' T e d=>?_);obtain⟨c,m,p⟩:=ZzM o j;have e1:Zbv (nd0 4 o) (Zu l) (Zu r)++r'=Zu l (Zz (nd0 4 o))++32::c::32::(Zu r (Zz (nd0 4 o)+1)++r'):=by simp[Zbv,nd0,m]
  have e2:ZcZ (nd0 4 o) (toks l) (toks r)++T=toks l (Zz (nd0 4 o))++(4,[c])::(toks r (Zz (nd0 4 o)+1)++T):=by simp[ZcZ,nd0,opTk,m]
  rw[e1,e2];exact f _ _ _ (Zc3 Dc Dc) (Lx.skip (Lx.sign p (Lx.skip (i _ _ _ e d))))
 | or l r _ _ f i=>
  intro must;refine Zgd (fun r' T e d=>?_);have e1:Zbv (nd0 6 0) (Zu l) (Zu r)++r'=Zu l 1++32::(wOr++32::(Zu r 2++r')):=by simp[Zbv,nd0,wOr]
  have e2:ZcZ (nd0 6 0) (toks l) (toks r)++T=toks l 1++(2,wOr)::(toks r 2++T):=by simp[ZcZ,nd0]
  rw[e1,e2];exact f _ _ _ (Zc3 Dc Dc) (Lx.skip (ZeW Dc (Zc3 Dc Dc) (Lx.skip (i _ _ _ e d))))
theorem Zyj(h:GT t)(must:Nat):(ZN (Zu t must) ((Zu t must).length+1) 0).map sh=toks t must++[(0,[])]:=by
 have:=ZyN h must _ _ ZCR Lx.nil;rw[Yca]at this;exact ZyL this _ 0 _ rfl (Yag _) (Yac _)
def Zb5:Tr->Nat
 | .nil=>4
 | .node _ _ a _ _=>Zz a
def brk(t:Tr)(must:Nat):Nat:=if Zb5 t<must then 1 else 0
def Zbz:Tr->Nat
 | .nil=>0
 | .node _ _ a l r=>if a.jj<=2 then 1 else if a.jj=3 then 1+(brk l 4+Zbz l)else if a.jj=5 then 1+(brk l 1+Zbz l)else max (brk l (Zz a)+Zbz l) (brk r (Zz a+1)+Zbz r)
def nd(t:Tr)(must:Nat):Nat:=brk t must+Zbz t
theorem Zze(t:Tr)(m:Nat):nd t m<=nd t (m+1):=by
 unfold nd brk;split
 ·split<;>omega
 omega
theorem Zzd(t:Tr)(m:Nat):nd t m<=1+nd t 1:=by
 unfold nd brk;split<;>omega
def Zfd(x:Tok):Prop:=(x.jj=1->(ZQ 1000000000 x.txt).isSome=true)/\(x.jj=2->Zx x.txt=true)/\(x.jj=3->Z3 x.txt=true)
theorem ZrT(p:UInt8->Bool):∀l:LB,(l.take (run p l)).all p=true
 | []=>rfl
 | c :: l => by
   rw[run];split
   · rename_i h
     rw[Yed,Yep,h,ZrT p l];rfl
   · rfl
theorem tok1(h:(ZQ 1000000000 x).isSome=true):Zfd ⟨1,x,j⟩:=⟨fun _=>h,fun h=>absurd (show(1)=2 from h) Dc,fun h=>absurd (show(1)=3 from h) Dc⟩
theorem tok2(h:Zx x=true):Zfd ⟨2,x,j⟩:=⟨fun h=>absurd (show(2)=1 from h) Dc,fun _=>h,fun h=>absurd (show(2)=3 from h) Dc⟩
theorem tok3(h:Z3 x=true):Zfd ⟨3,x,j⟩:=⟨fun h=>absurd (show(3)=1 from h) Dc,fun h=>absurd (show(3)=2 from h) Dc,fun _=>h⟩
theorem tok0(a:k≠1)(c:k≠2)(d:k≠3):Zfd ⟨k,x,j⟩:=⟨fun h=>absurd h a,fun h=>absurd h c,fun h=>absurd h d⟩
theorem Zyf:Zfd (lexC l j c r).1:=by
 unfold lexC;split
 ·split
  ·rename_i h;exact tok1 h
  constructor<;>simp_all
 ·split
  ·rename_i a;split
   ·constructor<;>simp_all
   ·rename_i d;refine tok2 ?_;have e:=ZrT Zp (c::r);have f:=Zg6 Zp (c::r);have g:1<=run Zp (c::r):=by rw[run,if_pos a];omega
    unfold Zx
    simp_all;omega
  ·split
   ·split
    ·constructor<;>simp_all
    ·split
     ·rename_i h;exact tok3 h
     constructor<;>simp_all
   ·split
    ·constructor<;>simp_all
    ·split
     ·constructor<;>simp_all
     constructor<;>simp_all
theorem ZqG(l:LB)(i:Nat):Zfd (Zk l i).1:=by
 unfold Zk lexJ;split
 ·constructor<;>simp_all
 ·exact Zyf
def Zbk(ts:List Tok):Prop:=∀x∈ts,Zfd x
theorem ZqC(l:LB):∀(n i:Nat),Zbk (ZN l n i)
 | 0,_=>fun x a=>by cases a
 | n + 1, i => by
   rw[ZN];split
   · intro x a;rw[Yap]at a;subst a;exact ZqG l i
   · intro x a
     rcases Yau.1 a with rfl|a
     · exact ZqG l i
     · exact ZqC l n _ x a
theorem Zbk.tail(h:Zbk ts):Zbk ts.tail:=fun x a=>h x (List.mem_of_mem_tail a)
theorem Zbk.hd(h:Zbk ts):Zfd (hd ts):=by
 cases ts with
 | nil=>exact tok0 Dc Dc Dc
 | cons t r=>exact h t (Yay ..)
theorem ZeC{z:Unit×List Tok}(h:Zq s ts=.ok z)(a:Zbk ts):Zbk z.2:=by
 unfold Zq at h;split at h
 ·cases h;exact a.tail
 ·cases h
theorem Zjs{z:LB×List Tok}(h:ZH k ts=.ok z)(a:Zbk ts):Zbk z.2/\(hd ts).jj=k/\z.1=(hd ts).txt:=by
 unfold ZH at h;split at h
 ·rename_i e;cases h;exact⟨a.tail,e,rfl⟩
 ·cases h
theorem Zme{α:Type}{item:List Tok->Out α}{close:LB}(ok:α->Prop)(e:∀t z,Zbk t->item t=.ok z->Zbk z.2/\ok z.1):∀(n:Nat) (acc:List α) (ts:List Tok) (z:List α×List Tok),(∀a∈acc,ok a)->Zbk ts->ZS item close n acc ts=.ok z->Zbk z.2/\∀a∈z.1,ok a
 | 0,_,_,_,_,_,h=>by cases h
 | n + 1, acc, ts, z, j, f, h => by
   have c:(if isT _ _ then .ok _ else bnd _ _)=.ok z:=h;cases g:isT close (hd ts)
   · rw[g]at c
     obtain⟨_,t1,i,k⟩:=Ze c;obtain⟨a,t2,l,m⟩:=Ze k
     have k1:Zbk t1:=by
       split at i
       · simp_all
       · exact ZeC i f
     have k2:=e _ _ k1 l;refine Zme _ e n _ _ _ (fun x d=>?_) k2.1 m;rcases Yar.1 d with d|d
     · simp_all
     simp_all
   · rw[g]at c
     injection c with c;subst c;exact⟨f.tail,j⟩
theorem Zu6(t:List Tok)(z:Cnd×List Tok)(e:Zbk t)(h:ZV t=.ok z):Zbk z.2/\Zfj z.1:=by
 unfold ZV at h;obtain⟨a,t1,f,h⟩:=Ze h;obtain⟨v,t2,c,h⟩:=Ze h;obtain⟨b,t3,g,h⟩:=Ze h;cases h;obtain⟨k1,e1,e2⟩:=Zjs f e
 have k2:Zbk t2:=by
  unfold Zdc at c;split at c
  ·injection c with c;injection c with _ c;subst c;exact k1.tail
  ·obtain⟨_,t4,i,d⟩:=Ze c;injection d with d;injection d with _ d;subst d;exact ZeC i k1
 obtain⟨k3,e3,e4⟩:=Zjs g k2;refine⟨k3,?_,?_⟩
 ·show Zx a=true;rw[show a=(hd t).txt from e2];exact e.hd.2.1 e1
 ·show Z3 b=true;rw[show b=(hd _).txt from e4];exact k2.hd.2.2 e3
theorem Zr3{z:Nd×List Tok}(e:Zbk ts)(h:selP ts=.ok z):Zbk z.2/\Ze3 z.1.name z.1.jn/\z.1=⟨1,0,0,z.1.name,z.1.jn,[]⟩:=by
 unfold selP at h;obtain⟨a,t,c,d⟩:=Ze h
 have g:Zbk t/\Zx a=true/\idx a ZW=none/\idx a Z0=none/\a≠wOr/\a≠wBy:=by
  unfold ZdQ at c;split at c
  ·cases c
  ·rename_i f;obtain⟨k1,e1,e2⟩:=Zjs c e;simp only at e2;subst e2;unfold Zgp isT at f;simp only[Yct,Yas,beq_iff_eq,not_or,not_and,e1]at f;refine⟨k1,e.hd.2.1 e1,?_,?_,?_,?_⟩
   ·simp_all
   ·simp_all
   ·simp_all
   simp_all
 obtain⟨kt,g1,g2,g3,g4,g5⟩:=g;split at d
 ·obtain⟨cs,t2,i,j⟩:=Ze d;cases j;have l2:=Zme _ Zu6 _ _ _ _ (by simp) kt.tail i;exact⟨l2.1,⟨g1,g2,g3,g4,g5,l2.2⟩,rfl⟩
 ·cases d;exact⟨kt,⟨g1,g2,g3,g4,g5,by simp⟩,rfl⟩
theorem ZEI{o:Nat}(c:o<5)(d:Zbk ts)(h:winP o ts=.ok z):GT z.1/\Zbz z.1=1/\Zb5 z.1=4/\Zbk z.2:=by
 unfold winP at h;obtain⟨_,t1,e,h⟩:=Ze h;obtain⟨p,t2,f,h⟩:=Ze h;obtain⟨_,t3,g,h⟩:=Ze h;obtain⟨m,t4,a,h⟩:=Ze h;obtain⟨_,t5,i,h⟩:=Ze h;obtain⟨_,t6,j,h⟩:=Ze h;cases h;have k1:=ZeC e d;obtain⟨k2,k,_⟩:=Zr3 k1 f;have k3:=ZeC g k2
 have a4:Zbk t4/\1<=m/\m<=1000:=by
  unfold Zc2 at a;split at a
  ·rename_i l;injection a with a;injection a with a h4';subst a;subst h4';exact⟨k3.tail,l.2,(Zmr).2⟩
  ·cases a
 have k5:=ZeC i a4.1;have k6:=ZeC j k5;refine⟨?_,rfl,rfl,k6⟩;obtain⟨n,rfl⟩:∃n:Nat,m=n:=⟨m.toNat,by omega⟩
 exact GT.win _ _ _ _ c Om Om k
def InvA(rec:Nat->List Tok->Nat->Out Tr):Prop:=∀lv t d z,lv<=3->d<=20->Zbk t->rec lv t d=.ok z->GT z.1/\d+nd z.1 (lv+1)<=20/\Zbk z.2
theorem Zta(d:InvA rec)(c:deep<=20)(e:Zbk ts)(h:Zbu rec ts deep=.ok z):GT z.1/\deep+nd z.1 1<=20/\Zbk z.2:=by
 unfold Zbu at h;obtain⟨_,t1,f,h⟩:=Ze h;obtain⟨a,t2,g,h⟩:=Ze h;obtain⟨_,t3,i,h⟩:=Ze h;cases h;obtain⟨b1,b2,b3⟩:=d 0 _ _ _ Om c (ZeC f e) g;exact⟨b1,b2,ZeC i b3⟩
theorem Zmn(h:Zb5 t=4)(m:Nat)(a:m<=4):nd t m=Zbz t:=by
 unfold nd brk;simp_all
theorem Zw7(i:InvA rec)(d:Zbk ts)(c:deep+1<=20)(h:Zbw rec ts (deep+1)=.ok z):GT z.1/\deep+nd z.1 4<=20/\Zbk z.2:=by
 unfold Zbw at h;split at h
 ·rename_i f;cases h;obtain⟨v,j⟩:=Ycw.1 (d.hd.1 f);have e:numV (hd ts).txt=(v):=by unfold numV;rw[j];rfl
  refine⟨?_,c,d.tail⟩;show GT (Zbg ⟨0,0,numV (hd ts).txt,[],[],[]⟩);rw[e];exact GT.num v (Zgh j)
 ·split at h
  ·obtain⟨a,t1,f,h⟩:=Ze h;cases h;obtain⟨b1,b2,b3⟩:=i 3 _ _ _ Om c d.tail f;refine⟨GT.neg a b1,?_,b3⟩;rw[Zmn rfl 4 Om];have b2':deep+1+(brk a 4+Zbz a)<=20:=b2;show deep+(1+(brk a 4+Zbz a))<=20;omega
  ·split at h
   ·obtain⟨b1,b2,b3⟩:=Zta i c d h;have:=Zzd z.1 4
    simp_all;omega
   ·split at h
    ·rename_i g l;have u:=Zji l;unfold Zcb at h;obtain⟨_,t1,f,h⟩:=Ze h;obtain⟨_,t2,m,h⟩:=Ze h;obtain⟨ns,t3,n,h⟩:=Ze h;obtain⟨a,t4,q,h⟩:=Ze h;cases h
     have l3 := Zme (fun x => Zx x = true) (fun t z d r => by
       obtain⟨k1,e1,e2⟩:=Zjs r d;exact⟨k1,by rw[e2];exact d.hd.2.1 e1⟩) _ _ _ _ (by simp) (ZeC m (ZeC f d.tail)) n
     obtain⟨b1,b2,b3⟩:=Zta i c l3.1 q;refine⟨GT.grp g _ a (by assumption) l3.2 b1,?_,b3⟩;rw[Zmn rfl 4 Om];have b2':deep+1+(brk a 1+Zbz a)<=20:=b2;show deep+(1+(brk a 1+Zbz a))<=20;omega
    ·split at h
     ·rename_i o s;have w:=Zji s;obtain⟨b1,b2,b3,b4⟩:=ZEI (show o<5 by assumption) d.tail h;refine⟨b1,?_,b4⟩;rw[Zmn b3 4 Om,b2];omega
     ·obtain⟨p,t1,f,h⟩:=Ze h;cases h;obtain⟨k1,k,e⟩:=Zr3 d f;simp only at k e;refine⟨?_,?_,k1⟩
      ·show GT (Zbg p);rw[e];exact GT.sel _ _ k
      ·show deep+nd (Zbg p) 4<=20;rw[e];exact c
theorem ZzH{t:Tok}(a:lv<=2)(h:LS.opAt lv t=some p):Zz (nd0 p.1 p.2)=lv+1/\(p=(6,0)∨(p.1=4/\p.2<4)):=by
 unfold LS.opAt at h;split at h
 ·split at h
  ·cases h;subst_vars;decide
  ·cases h
 ·split at h
  ·subst_vars
   split at h
   ·cases h;decide
   ·split at h
    ·cases h;decide
    ·cases h
  ·obtain rfl:lv=2:=by omega
   split at h
   ·cases h;decide
   ·split at h
    ·cases h;decide
    ·cases h
theorem Zmq{a b:Tr}(f:Zz (nd0 p.1 p.2)=lv+1)(c:p=(6,0)∨(p.1=4/\p.2<4))(ga:GT a)(gb:GT b):GT (.node 0 0 (nd0 p.1 p.2) a b)/\nd (.node 0 0 (nd0 p.1 p.2) a b) (lv+1)=max (nd a (lv+1)) (nd b (lv+2)):=by
 refine⟨?_,?_⟩
 ·rcases c with rfl|⟨c,d⟩
  ·exact GT.or a b ga gb
  ·obtain⟨x,y⟩:=p;simp only at c d;subst c;exact GT.bin _ _ _ d ga gb
 ·have e:¬p.1<=2/\¬p.1=3/\¬p.1=5:=by
   rcases c with rfl|⟨c,d⟩
   ·decide
   ·omega
  show brk (.node 0 0 (nd0 p.1 p.2) a b) (lv+1)+(if p.1<=2 then 1 else if p.1=3 then 1+(brk a 4+Zbz a)else if p.1=5 then 1+(brk a 1+Zbz a)else max (brk a (Zz (nd0 p.1 p.2))+Zbz a) (brk b (Zz (nd0 p.1 p.2)+1)+Zbz b))=_;rw[if_neg e.1,if_neg e.2.1,if_neg e.2.2,f]
  have:brk (.node 0 0 (nd0 p.1 p.2) a b) (lv+1)=0:=by
   show(if Zz (nd0 p.1 p.2)<lv+1 then 1 else 0)=0;rw[f,if_neg Om]
  rw[this,Ycf];rfl
theorem Zg2:∀(n:Nat) (m:Bool) (lv:Nat) (a:Tr) (ts:List Tok) (deep:Nat) (z:Tr×List Tok),deep<=20->Zbk ts->(m=false->lv<=3)->(m=true->lv<=2/\GT a/\deep+nd a (lv+1)<=20)->Zs n m lv a ts deep=.ok z->GT z.1/\deep+nd z.1 (lv+1)<=20/\Zbk z.2
 | 0,_,_,_,_,_,_,_,_,_,_,h=>by cases h
 | n + 1, false, lv, a, ts, deep, z, e, f, c, _, h => by
   have c:=c rfl;rw[Zs]at h;split at h
   · subst_vars
     unfold Zb9 at h;split at h
     · split at h
       · cases h
       · exact Zw7 (fun lv t d z c hd f j=>Zg2 n false lv .nil t d z hd f (fun _=>c) (fun h=>by cases h) j) f Om h
     · cases h
   · rename_i o
     obtain⟨b,t1,g,i⟩:=Ze h;obtain⟨g1,g2,g3⟩:=Zg2 n false (lv+1) .nil ts deep _ e f (fun _=>by omega) (fun h=>by cases h) g;simp only at g1 g2 g3;have:=Zze b (lv+1);exact Zg2 n true lv b t1 deep z e g3 (fun h=>by cases h) (fun _=>⟨by omega,g1,by omega⟩) i
 | n + 1, true, lv, a, ts, deep, z, e, f, _, k, h => by
   obtain⟨c,ga,gn⟩:=k rfl;rw[Zs]at h;split at h
   · cases h;simp_all
   · rename_i p l
     obtain⟨b,t1,g,i⟩:=Ze h;obtain⟨g1,g2,g3⟩:=Zg2 n false (lv+1) .nil ts.tail deep _ e f.tail (fun _=>by omega) (fun h=>by cases h) g;simp only at g1 g2 g3;obtain⟨e1,e2⟩:=ZzH c l;obtain⟨e3,e4⟩:=Zmq e1 e2 ga g1;refine Zg2 n _ _ _ _ _ z e g3 (fun h=>by cases h) (fun _=>⟨c,e3,?_⟩) i;have g4:deep+nd b (lv+2)<=20:=g2;omega
def hdS(S:List Sh):Sh:=S.headD (0,[])
def isS(s:LB)(x:Sh):Bool:=(x.1 == 2 || x.1 == 4) && x.2 == s
def opSh(lv:Nat)(x:Sh):Option (Nat×Nat):=LS.opAt lv ⟨x.1,x.2,0⟩
theorem Zc9(s:LB)(t:Tok):isT s t=isS s (sh t):=rfl
theorem Zrq(lv:Nat)(t:Tok):LS.opAt lv t=opSh lv (sh t):=rfl
theorem ZlH(ts:List Tok):sh (hd ts)=hdS (ts.map sh):=by cases ts <;> rfl
theorem ZbB{x:Sh}{S:List Sh}(h:ts.map sh=x::S):sh (hd ts)=x/\ts.tail.map sh=S/\ts.length=S.length+1:=by
 cases ts with
 | nil=>cases h
 | cons t r=>
  rw[Ybb]at h;injection h with h1 h2;exact⟨h1,h2,by rw[<-h2,Yak];rfl⟩
theorem ZeE{x:Sh}{S:List Sh}(h:ts.map sh=x::S)(a:isS s x=true):Zq s ts=.ok ((),ts.tail):=by
 unfold Zq;rw[Zc9,(ZbB h).1,if_pos a]
theorem Zju{S:List Sh}(h:ts.map sh=(k,x)::S):ZH k ts=.ok (x,ts.tail):=by
 have a:=(ZbB h).1;unfold ZH;rw[show(hd _).jj=k from congrArg Prod.fst a,if_pos rfl,show(hd _).txt=x from congrArg Prod.snd a]
theorem Zm6 (x : List Sh) : ∀ L : List (List Sh), sepT (x :: L) = x ++ L.flatMap fun y => (4, [44]) :: y
  | []=>by simp[sepT]
  | y :: L => by
    show x++(4,[44])::sepT (y::L)=_;rw[Zm6 y L];rfl
theorem Zse{α:Type}(g:α->List Sh)(c:∀a,1<=(g a).length):∀l:List α,l.length<=(sepT (l.map g)).length
 | []=>Yag _
 | a :: l => by
   rw[Ybb,Zm6,Yab,Yaj];have d:=c a
   have : ∀ m : List _, m.length <= ((m.map g).flatMap fun y => ((4, [44])) :: y).length := by
     intro m
     induction m with
     | nil=>simp
     | cons b m ih=>simp_all;omega
   have:=this l;omega
theorem Zmf{α:Type}(item:List Tok->Out α)(close:LB)(g:α->List Sh)(ok:α->Prop)
  (j:∀a,ok a->∀ts S,ts.map sh=g a++S->∃r,r.map sh=S/\item ts=.ok (a,r))
  (m:∀a,ok a->∀S,isS close (hdS (g a++S))=false) (d:isS close (4,[44])=false) :
  ∀(l acc:List α) (n:Nat) (ts:List Tok) (S:List Sh),(∀a∈l,ok a)->l.length<n->
   ts.map sh=(if acc.isEmpty then sepT (l.map g)else (l.map g).flatMap fun y=>(4,[44])::y)++(4,close)::S->∃r,r.map sh=S/\ZS item close n acc ts=.ok (acc++l,r)
 | [], acc, n, ts, S, _, o, h => by
   obtain⟨n,rfl⟩:∃k,n=k+1:=⟨n - 1,by omega⟩
   have t:ts.map sh=(4,close)::S:=by rw[h];cases acc <;> rfl
   obtain⟨f,i,_⟩:=ZbB t;refine⟨ts.tail,i,?_⟩;rw[ZS,Zc9,f,if_pos (by simp[isS]),Yca]
 | a :: l, acc, n, ts, S, e, o, h => by
   obtain⟨n,rfl⟩:∃k,n=k+1:=⟨n - 1,by omega⟩
   have p:=e a (Yay ..);have u:=fun x v=>e x (Yam _ v);have q:l.length<n:=by simp at o;omega
   have w:(acc++[a]).isEmpty=false:=by cases acc <;> rfl
   have fin : ∀ t1 : List Tok, t1.map sh = g a ++ (((l.map g).flatMap fun y => (4, [44]) :: y) ++ (4, close) :: S) -> ∃ r, r.map sh = S /\ (bnd (item t1) fun a r => ZS item close n (acc ++ [a]) r) = .ok (acc ++ a :: l, r) := by
     intro t1 s;obtain⟨r1,e1,e2⟩:=j a p t1 _ s;obtain⟨r,e3,e4⟩:=Zmf item close g ok j m d l (acc++[a]) n r1 S u q (by simp_all);refine⟨r,e3,?_⟩;rw[e2];show ZS item close n (acc++[a]) r1=_;rw[e4,Yan];rfl
   cases c:acc.isEmpty with
   | true=>
     rw[c,if_pos rfl,Ybb,Zm6,Yan]at h;obtain⟨r,e1,e2⟩:=fin _ h;refine⟨r,e1,?_⟩;rw[ZS,Zc9,ZlH,h,m a p,if_neg Ycv,c];exact e2
   | false=>
     rw[c,if_neg Ycv,Ybb,Ycd,Yby,Yby,Yan]at h;obtain⟨f,i,_⟩:=ZbB h;obtain⟨r,e1,e2⟩:=fin _ i;refine⟨r,e1,?_⟩;rw[ZS,Zc9,f,d,if_neg Ycv,c,if_neg Ycv,ZeE h (by rfl)];exact e2
theorem Zva(c:Cnd)(_:Zfj c)(ts:List Tok)(S:List Sh)(h:ts.map sh=Zeo c++S):∃r,r.map sh=S/\ZV ts=.ok (c,r):=by
 obtain⟨n,v,b⟩:=c;have a:ts.map _=(2,n)::(4,if b then [33,61] else [61])::(3,v)::S:=h;obtain⟨_,d,_⟩:=ZbB a;obtain⟨e,f,_⟩:=ZbB d;obtain⟨_,g,_⟩:=ZbB f;refine⟨ts.tail.tail.tail,g,?_⟩;unfold ZV;rw[Zju a];show(bnd (Zdc ts.tail) fun m r=>bnd (ZH 3 r) fun b r=>.ok ((n,b,m),r))=_
 have i:Zdc ts.tail=.ok (b,ts.tail.tail):=by
  unfold Zdc;cases b with
  | true=>rw[Zc9,e,if_pos (by rfl)]
  | false=>rw[Zc9,e,if_neg Dc,ZeE d (by rfl)];rfl
 rw[i];show(bnd (ZH 3 ts.tail.tail) fun b_1 r=>.ok ((n,b_1,b),r))=_;rw[Zju f];rfl
theorem ZjL(h:Zx x=true)(c:UInt8)(a:Zp c=false):x≠[c]:=by
 rintro rfl;unfold Zx at h
 simp_all
theorem Zsc(a:Nd)(h:Ze3 a.name a.jn)(ts:List Tok)(S:List Sh)(g:ts.map sh=Zea a++S)(k:isS [123] (hdS S)=false):∃r,r.map sh=S/\selP ts=.ok (⟨1,0,0,a.name,a.jn,[]⟩,r):=by
 obtain⟨g1,g2,g3,g4,g5,g6⟩:=h;unfold Zea at g;have d:ts.map _=(2,a.name)::((if a.jn=[] then [] else (4,[123])::(sepT _++[(4,[125])]))++S):=g;obtain⟨i,e,_⟩:=ZbB d;have p:(hd _).jj=2:=congrArg Prod.fst i;have l:(hd _).txt=a.name:=congrArg Prod.snd i
 have j:ZdQ ts=.ok (a.name,ts.tail):=by
  unfold ZdQ;rw[if_neg,Zju d];unfold Zgp;rw[l,g2,g3,Zc9,Zc9,i];simp[isS,g4,g5]
 unfold selP;rw[j];show ∃r,r.map sh=S/\(if isT [123] (hd ts.tail)then bnd (ZS ZV [125] ts.tail.length [] ts.tail.tail) fun cs r=>.ok ((⟨1,0,0,a.name,cs,[]⟩:Nd),r)else .ok ((⟨1,0,0,a.name,[],[]⟩:Nd),ts.tail))=(.ok ((⟨1,0,0,a.name,a.jn,[]⟩:Nd),r):Out Nd)
 by_cases f:a.jn=[]
 ·rw[if_pos f,Ycu]at e;refine⟨ts.tail,e,?_⟩;rw[Zc9,ZlH,e,k,if_neg Ycv,f]
 ·rw[if_neg f,Yby,Yan]at e;obtain⟨m,q,n⟩:=ZbB e;have o:=Zse Zeo (fun _=>by show 1<=3;omega) a.jn;rw[Yab]at n
  obtain ⟨r, e1, e2⟩ := Zmf ZV [125] Zeo Zfj Zva (fun c f S => by
    have:c.1≠[125]:=ZjL f.1 125 Dc;simp[Zeo,hdS,isS,this]) (by rfl) a.jn [] ts.tail.length ts.tail.tail S g6 Om (by assumption)
  refine⟨r,e1,?_⟩;rw[Zc9,m,if_pos (by rfl),e2];rfl
def stops(lv:Nat)(S:List Sh):Prop:=isS [123] (hdS S)=false/\∀k,lv<=k->k<=2->opSh k (hdS S)=none
theorem ZCU{S:List Sh}(h:stops lv S):stops (lv+1) S:=⟨h.1,fun k c a=>h.2 k Om a⟩
theorem ZCS (lv : Nat) : stops lv [(0, [])] := ⟨rfl, fun k _ h => by
  obtain rfl|rfl|rfl:k=0∨k=1∨k=2:=by omega
  all_goals rfl⟩
theorem ZCT (lv : Nat) (S : List Sh) : stops lv ((4, [41]) :: S) := ⟨rfl, fun k _ h => by
  obtain rfl|rfl|rfl:k=0∨k=1∨k=2:=by omega
  all_goals rfl⟩
def DP(t:Tr)(lv:Nat):Prop:=∀n ts rs deep,ts.map sh=toks t (lv+1)++rs->stops lv rs->5*(toks t (lv+1)).length+4<=n+lv->deep+nd t (lv+1)<=20->∃r,r.map sh=rs/\Zs n false lv .nil ts deep=.ok (t,r)
def CP(t:Tr)(lv:Nat):Prop:=∀n ts rs deep,ts.map sh=toks t (lv+1)++rs->stops (lv+1) rs->5*(toks t (lv+1)).length+4<=n+lv->deep+nd t (lv+1)<=20->∃r n',r.map sh=rs/\n<=n'+5*(toks t (lv+1)).length/\1<=n'/\Zs n false lv .nil ts deep=Zs n' true lv t r deep
theorem ZoI(a:lv<=2)(h:CP t lv):DP t lv:=by
 intro n ts rs deep d c e f;obtain⟨r,n',e1,e2,e3,e4⟩:=h n ts rs deep d (ZCU c) e f;refine⟨r,e1,?_⟩;obtain⟨n',rfl⟩:∃k,n'=k+1:=⟨n' - 1,by omega⟩
 rw[e4,Zs,Zrq,ZlH,e1,c.2 _ (Yac _) a]
theorem Zuo(c:lv<=2)(d:toks t (lv+2)=toks t (lv+1))(e:nd t (lv+2)=nd t (lv+1))(f:1<=(toks t (lv+1)).length)(h:DP t (lv+1)):CP t lv:=by
 intro n ts rs deep g a i j;obtain⟨n,rfl⟩:∃k,n=k+1:=⟨n - 1,by omega⟩
 obtain ⟨r, e1, e2⟩ := h n ts rs deep (by simp_all) a (by
   simp_all;omega) (by
   simp_all)
 refine⟨r,n,e1,by omega,by omega,?_⟩;rw[Zs,if_neg Om,e2];rfl
theorem Zko(h:m<=Zb5 t):toks t m=toks t 0:=by
 cases t with
 | nil=>rfl
 | node x y a l r=>
  show ZeL (decide (Zz a<m)) _=ZeL (decide (Zz a<0)) _;have c:m<=Zz a:=h;rw[decide_eq_false Om,decide_eq_false Om]
theorem Znr(h:Zb5 t<m)(d:t≠.nil):toks t m=(4,[40])::(toks t 0++[(4,[41])]):=by
 cases t with
 | nil=>simp_all
 | node x y a l r=>
  show ZeL (decide (Zz a<m)) _=(4,[40])::(ZeL (decide (Zz a<0)) _++[(4,[41])]);have c:Zz a<m:=h;rw[decide_eq_true c,decide_eq_false Om];rfl
theorem ZgU(h:m<=Zb5 t):nd t m=Zbz t:=by
 unfold nd brk;simp_all
theorem Zmm(h:Zb5 t<m):nd t m=Zbz t+1:=by
 unfold nd brk;simp_all;omega
theorem ZxZ(a:t≠.nil)(h:Zb5 t≠lv+1):toks t (lv+2)=toks t (lv+1)/\nd t (lv+2)=nd t (lv+1):=by
 by_cases c:lv+2<=Zb5 t
 ·exact⟨by rw[Zko c,Zko (m:=lv+1) Om],by rw[ZgU c,ZgU Om]⟩
 ·exact⟨by rw[Znr Om a,Znr (m:=lv+1) Om a],by rw[Zmm Om,Zmm Om]⟩
theorem Zxb{S:List Sh}(h:ts.map sh=(4,[40])::S):Zbw rec ts deep=Zbu rec ts deep:=by
 have a:=(ZbB h).1;have c:(hd _).jj=4:=congrArg Prod.fst a;unfold Zbw;rw[if_neg Om,Zc9,a,if_neg Dc,Zc9,a,if_pos (by rfl)]
theorem Ztb  (h : DP t 0)   {rs : List Sh}  (c : ts.map sh = (4, [40]) :: (toks t 1 ++ (4, [41]) :: rs)) (f : 5 * (toks t 1).length + 4 <= n) (hd : deep + nd t 1 <= 20) : ∃ r, r.map sh = rs /\ Zbu (fun lv ts d => Zs n false lv .nil ts d) ts deep = .ok (t, r) := by
  obtain⟨_,e,_⟩:=ZbB c;obtain⟨r,e1,e2⟩:=h n ts.tail _ deep e (ZCT 0 rs) Om hd;obtain⟨_,e3,_⟩:=ZbB e1;refine⟨r.tail,e3,?_⟩;unfold Zbu;rw[ZeE c (by rfl)];show(bnd (Zs n false 0 .nil ts.tail deep) fun a r=>bnd (Zq [41] r) fun _ r=>.ok (a,r))=_;rw[e2];show(bnd (Zq [41] r) fun _ r=>.ok (t,r))=_;rw[ZeE e1 (by rfl)];rfl
theorem ZgK    (a : ZdD (hd ts) = true) (c : deep < 20) : Zs (n + 1) false 3 .nil ts deep = Zbw (fun lv ts d => Zs n false lv .nil ts d) ts (deep + 1) := by
  rw[Zs,if_pos rfl,Zb9,if_pos a,if_neg Om]
theorem Zhf{x:Sh}{S:List Sh}(h:ts.map sh=x::S)(a:ZdD ⟨x.1,x.2,0⟩=true):ZdD (hd ts)=true:=by
 have e:ZdD (hd ts)=ZdD ⟨(sh _).1,(sh _).2,0⟩:=rfl;rw[e,(ZbB h).1];exact a
theorem Zli(f:t≠.nil)(c:Zb5 t<4)(d:1<=Zb5 t)(h:DP t 0):DP t 3:=by
 intro n ts rs deep e j l hd;have e1:toks t 4=(4,[40])::(toks t 1++[(4,[41])]):=by rw[Znr c f,Zko d]
 have e2:nd t 4=nd t 1+1:=by rw[Zmm c,ZgU d]
 have a:ts.map sh=(4,[40])::(toks t 1++(4,[41])::rs):=by rw[e,e1];simp
 have g:5*(toks t 1).length+14<=n+3:=by
  have:(toks t (3+1)).length=(toks t 1).length+2:=by rw[e1];simp
  omega
 have i:deep+(nd t 1+1)<=20:=by rwa [<-e2]
 obtain⟨n,rfl⟩:∃k,n=k+1:=⟨n - 1,by omega⟩
 rw[ZgK (Zhf a (by rfl)) Om,Zxb a];exact Ztb h a Om Om
theorem Zjf(h:GT t):t≠.nil:=by induction h using GT.ind <;> intro h <;> cases h
theorem Zgw{S:List Sh}(h:1<=S.length):1<=(ZeL b S).length:=by
 cases b
 ·exact h
 ·simp[ZeL]
theorem Zkn(h:GT t)(m:Nat):1<=(toks t m).length:=by
 induction h using GT.ind with
 | num n h=>exact Zgw (by simp[ZcZ])
 | sel nm cs h=>exact Zgw (by simp[ZcZ,Zea])
 | win o n nm cs _ _ _ _=>exact Zgw (by simp[ZcZ])
 | neg l _=>exact Zgw (by simp[ZcZ,nd0])
 | grp g ns l _ _ _=>exact Zgw (by simp[ZcZ])
 | bin o l r _ _ _=>exact Zgw (by simp[ZcZ,nd0];omega)
 | or l r _ _=>exact Zgw (by simp[ZcZ,nd0];omega)
def AllP(t:Tr):Prop:=(∀lv,lv<=3->DP t lv)/\∀lv,lv<=2->CP t lv
theorem ZiQ  (d0 : DP t 0) (d1 : DP t 1) (d2 : DP t 2) (d3 : DP t 3) (c0 : CP t 0) (c1 : CP t 1) (c2 : CP t 2) : AllP t := ⟨fun lv a => by
    obtain rfl|rfl|rfl|rfl:lv=0∨lv=1∨lv=2∨lv=3:=by omega
    · exact d0
    · exact d1
    · exact d2
    omega,fun lv a=>by
    obtain rfl|rfl|rfl:lv=0∨lv=1∨lv=2:=by omega
    · exact c0
    · exact c1
    omega⟩
theorem down(h:GT t)(a:lv<=2)(d:Zb5 t≠lv+1)(hd:DP t (lv+1)):CP t lv/\DP t lv:=by
 obtain⟨e1,e2⟩:=ZxZ (Zjf h) d;have c:=Zuo a e1 e2 (Zkn h _) hd;exact⟨c,ZoI a c⟩
theorem Zht(h:GT t)(a:Zb5 t=4)(d3:DP t 3):AllP t:=by
 have k2:=down h Om Om d3;have k1:=down h Om Om k2.2;have k0:=down h Om Om k1.2;exact ZiQ k0.2 k1.2 k2.2 d3 k0.1 k1.1 k2.1
theorem ZnP(h:GT t)(c:lv<=2)(d:Zb5 t=lv+1)(a:CP t lv):AllP t:=by
 have hd:=ZoI c a;obtain rfl|rfl|rfl:lv=0∨lv=1∨lv=2:=by omega
 ·have d3:=Zli (Zjf h) Om Om hd;have k2:=down h Om Om d3;have k1:=down h Om Om k2.2;exact ZiQ hd k1.2 k2.2 d3 a k1.1 k2.1
 ·have k0:=down h Om Om hd;have d3:=Zli (Zjf h) Om Om k0.2;have k2:=down h Om Om d3;exact ZiQ k0.2 hd k2.2 d3 k0.1 a k2.1
 ·have k1:=down h Om Om hd;have k0:=down h Om Om k1.2;have d3:=Zli (Zjf h) Om Om k0.2;exact ZiQ k0.2 k1.2 hd d3 k0.1 k1.1 a
theorem Zn5{l r:Tr}{x:Sh}(q:lv<=2)(g:opSh lv x=some p)(c:∀S,stops (lv+1) (x::S))(d:toks (.node 0 0 (nd0 p.1 p.2) l r) (lv+1)=toks l (lv+1)++x::toks r (lv+2))(e:nd (.node 0 0 (nd0 p.1 p.2) l r) (lv+1)=max (nd l (lv+1)) (nd r (lv+2)))(h:CP l lv)(i:DP r (lv+1)):CP (.node 0 0 (nd0 p.1 p.2) l r) lv:=by
 intro n ts rs deep a j f o;rw[d]at a f;rw[e]at o;rw[Yan,Yby]at a;rw[Yab,Yaj]at f;obtain⟨r1,n1,e1,e2,e3,e4⟩:=h n ts _ deep a (c _) Om Om;obtain⟨f1,f2,_⟩:=ZbB e1;obtain⟨m,rfl⟩:∃k,n1=k+1:=⟨n1 - 1,by omega⟩
 obtain⟨r2,g1,g2⟩:=i m r1.tail rs deep f2 j (by show 5*(toks r (lv+2)).length+4<=m+(lv+1);omega) (by show deep+nd r (lv+2)<=20;omega);refine⟨r2,m,g1,?_,by omega,?_⟩
 ·simp_all;omega
 ·rw[e4,Zs,Zrq,f1,g];show(bnd (Zs m false (lv+1) .nil r1.tail deep) fun b r=>Zs m true lv (.node 0 0 (nd0 p.1 p.2) l b) r deep)=_;rw[g2];rfl
theorem ZzI:∀o,o<4->opSh (if o<2 then 1 else 2) (opTk o)=some (4,o):=by decide
theorem ZzO(o:Nat)(a:o<4)(S:List Sh):stops ((if o<2 then 1 else 2)+1) (opTk o::S):=by
 obtain rfl|rfl|rfl|rfl:o=0∨o=1∨o=2∨o=3:=by omega
 all_goals refine⟨rfl,fun k c d=>?_⟩
 ·obtain rfl:k=2:=by simp_all;omega
  rfl
 ·obtain rfl:k=2:=by simp_all;omega
  rfl
 ·simp_all;omega
 simp_all;omega
theorem ZzS (S : List Sh) : stops 1 ((2, wOr) :: S) := ⟨rfl, fun k a c => by
  obtain rfl|rfl:k=1∨k=2:=by omega
  all_goals rfl⟩
theorem ZnA(a:x≠wOr)(c:x≠wBy):ZdD ⟨2,x,0⟩=true:=by
 simp[ZdD,isT,a,c]
theorem ZzU:∀o,o<5->idx (Z0.getD o []) ZW=none/\idx (Z0.getD o []) Z0=some o/\Z0.getD o []≠wOr/\Z0.getD o []≠wBy:=by decide
theorem ZwH:∀o,o<4->idx (ZW.getD o []) ZW=some o/\ZW.getD o []≠wOr/\ZW.getD o []≠wBy:=by decide
theorem ZlP{S:List Sh}(h:ts.map sh=(2,x)::S)(c:Zx x=true):Zbw rec ts deep=match idx x ZW with
  | some g=>Zcb rec g ts.tail deep
  | none => match idx x Z0 with
    | some o=>winP o ts.tail
    | none=>bnd (selP ts) fun p r=>.ok (Zbg p,r):=by
 have a:=(ZbB h).1;have e:(hd _).jj=2:=congrArg Prod.fst a;have d:(hd _).txt=x:=congrArg Prod.snd a;have n1:=ZjL c 45 Dc;have n2:=ZjL c 40 Dc;unfold Zbw;rw[if_neg Om,Zc9,a,if_neg (by simp[isS,n1]),Zc9,a,if_neg (by simp[isS,n2]),d];rfl
theorem ZAf(h:GT t):AllP t:=by
 induction h using GT.ind with
 | num v L=>
  refine Zht (GT.num v L) rfl ?_;intro n ts rs deep d f u hd;have c:ts.map sh=(1,decS v)::rs:=d;have s:deep+1<=20:=hd;obtain⟨n,rfl⟩:∃k,n=k+1:=⟨n - 1,by omega⟩
  obtain⟨w,i,_⟩:=ZbB c;have D:(LS.hd ts).jj=1:=congrArg Prod.fst w;have I:(LS.hd ts).txt=decS v:=congrArg Prod.snd w;refine⟨ts.tail,i,?_⟩;rw[ZgK (Zhf c (by rfl)) Om];unfold Zbw;rw[if_pos D,I];have e:numV (decS v)=(v:Int):=by unfold numV;rw[ZjP L];rfl
  rw[e]
 | sel nm cs f=>
  refine Zht (GT.sel nm cs f) rfl ?_;intro n ts rs deep d m u hd;have c:ts.map sh=Zea ⟨1,0,0,nm,cs,[]⟩++rs:=d;have s:deep+1<=20:=hd;obtain⟨n,rfl⟩:∃k,n=k+1:=⟨n - 1,by omega⟩
  have F:ts.map sh=(2,nm)::_:=c;rw[ZgK (Zhf F (ZnA f.2.2.2.1 f.2.2.2.2.1)) Om,ZlP F f.1,f.2.1,f.2.2.1];obtain⟨r,e1,e2⟩:=Zsc ⟨1,0,0,nm,cs,[]⟩ f ts rs c m.1;refine⟨r,e1,?_⟩;show(bnd (selP ts) fun p r=>.ok (Zbg p,r))=_;rw[e2];rfl
 | win o v nm cs q M G f=>
  refine Zht (GT.win o v nm cs q M G f) rfl ?_;intro n ts rs deep d m u hd
  have c:ts.map sh=(2,Z0.getD o [])::(4,[40])::(Zea ⟨2,o,(v:Int),nm,cs,[]⟩++(4,[91])::(1,decS v)::(4,[93])::(4,[41])::rs):=by
   rw[d];show(2,Z0.getD o [])::(4,[40])::(Zea ⟨2,o,(v:Int),nm,cs,[]⟩++[(4,[91]),(1,decS v),(4,[93]),(4,[41])])++rs=_;simp
  have s:deep+1<=20:=hd;obtain⟨n,rfl⟩:∃k,n=k+1:=⟨n - 1,by omega⟩
  obtain⟨g1,g2,g3,g4⟩:=ZzU o q;obtain⟨_,i,_⟩:=ZbB c;obtain⟨_,E,_⟩:=ZbB i;obtain⟨r,e1,e2⟩:=Zsc ⟨2,o,(v:Int),nm,cs,[]⟩ f ts.tail.tail _ E (by rfl);obtain⟨_,f1,_⟩:=ZbB e1;obtain⟨f0,f2,_⟩:=ZbB f1;obtain⟨_,f3,_⟩:=ZbB f2;obtain⟨_,f4,_⟩:=ZbB f3;refine⟨r.tail.tail.tail.tail,f4,?_⟩;rw[ZgK (Zhf c (ZnA g3 g4)) Om,ZlP c (Zrr o q),g1,g2];show winP o ts.tail=_;unfold winP;rw[ZeE i (by rfl)];show(bnd (selP ts.tail.tail) _)=_;rw[e2];show(bnd (Zq [91] r) _)=_;rw[ZeE e1 (by rfl)];show(bnd (Zc2 r.tail) _)=_
  have N:Zc2 r.tail=.ok ((v:Int),r.tail.tail):=by
   have D:(LS.hd r.tail).jj=1:=congrArg Prod.fst f0;have I:(LS.hd r.tail).txt=decS v:=congrArg Prod.snd f0;unfold Zc2;rw[D,I,ZgX (ZjP G),if_pos ⟨rfl,by omega⟩]
  rw[N];show(bnd (Zq [93] r.tail.tail) _)=_;rw[ZeE f2 (by rfl)];show(bnd (Zq [41] r.tail.tail.tail) _)=_;rw[ZeE f3 (by rfl)];rfl
 | neg l j ih=>
  refine Zht (GT.neg l j) rfl ?_;intro n ts rs deep d m u hd;have c:ts.map sh=(4,[45])::(toks l 4++rs):=d
  have s:deep+(1+nd l 4)<=20:=by
   have:nd (.node 0 0 (nd0 3 0) l .nil) (3+1)=1+nd l 4:=by rw[ZgU (by show 4<=4;omega)];rfl
   rw[this]at hd;exact hd
  have T:5*((toks l 4).length+1)+4<=n+3:=u;obtain⟨n,rfl⟩:∃k,n=k+1:=⟨n - 1,by omega⟩
  obtain⟨w,i,_⟩:=ZbB c;have D:(LS.hd ts).jj=4:=congrArg Prod.fst w;obtain⟨r,e1,e2⟩:=ih.1 3 Om n ts.tail rs (deep+1) i m (by simp_all;omega) (by simp_all;omega);refine⟨r,e1,?_⟩;rw[ZgK (Zhf c (by rfl)) Om];unfold Zbw;rw[if_neg Om,Zc9,w,if_pos (by rfl)];show(bnd (Zs n false 3 .nil ts.tail (deep+1)) fun a r=>.ok ((.node 0 0 (nd0 3 0) a .nil:Tr),r))=_;rw[e2];rfl
 | grp g ns l J H j ih=>
  refine Zht (GT.grp g ns l J H j) rfl ?_;intro n ts rs deep d m u hd
  have c : ts.map sh = (2, ZW.getD g []) :: (2, wBy) :: (4, [40]) :: (sepT (ns.map fun x => [(2, x)]) ++ (4, [41]) :: (4, [40]) :: (toks l 1 ++ (4, [41]) :: rs)) := by
    rw[d];show(2,ZW.getD g [])::(2,wBy)::(4,[40])::(sepT (ns.map fun x=>[(2,x)])++(4,[41])::(4,[40])::(toks l 1++[(4,[41])]))++rs=_;simp
  have s:deep+(1+nd l 1)<=20:=by
   have:nd (.node 0 0 ⟨5,g,0,[],[],ns⟩ l .nil) (3+1)=1+nd l 1:=by rw[ZgU (by show 4<=4;omega)];rfl
   rw[this]at hd;exact hd
  have K : (toks (Go.Deep.BT.node 0 0 (⟨5, g, 0, [], [], ns⟩ : Nd) l .nil) (3 + 1)).length = (sepT (ns.map fun x => [(2, x)])).length + (toks l 1).length + 6 := by
    show((2,ZW.getD g [])::(2,wBy)::(4,[40])::(sepT (ns.map fun x=>[(2,x)])++(4,[41])::(4,[40])::(toks l 1++[(4,[41])]))).length=_;simp;omega
  rw[K]at u;obtain⟨n,rfl⟩:∃k,n=k+1:=⟨n - 1,by omega⟩
  obtain⟨g1,g2,g3⟩:=ZwH g J;obtain⟨_,i,_⟩:=ZbB c;obtain⟨_,E,_⟩:=ZbB i;obtain⟨_,O,_⟩:=ZbB E;have U:=Zse (fun x:LB=>[((2,x):Sh)]) (fun _=>Yac 1) ns;have P:=congrArg List.length O;rw[Yak,Yab]at P
  obtain ⟨r, e1, e2⟩ := Zmf (ZH 2) [41] (fun x : LB => [((2, x) : Sh)]) (fun x => Zx x = true) (fun a _ ts S h => ⟨ts.tail, (ZbB h).2.1, Zju h⟩) (fun a R S => by
    have:=ZjL R 41 Dc;simp[hdS,isS,this]) (by rfl) ns [] (ts.tail.tail.tail.length+1) ts.tail.tail.tail _ H Om (by simpa using O)
  obtain⟨r2,f1,f2⟩:=Ztb (ih.1 0 Om) (n:=n) (ts:=r) (rs:=rs) (deep:=deep+1) e1 Om Om;refine⟨r2,f1,?_⟩;rw[ZgK (Zhf c (ZnA g2 g3)) Om,ZlP c (ZpL g J),g1];show Zcb _ g ts.tail (deep+1)=_;unfold Zcb;rw[ZeE i (by rfl)];show(bnd (Zq [40] ts.tail.tail) _)=_;rw[ZeE E (by rfl)];show(bnd (ZS (ZH 2) [41] (ts.tail.tail.tail.length+1) [] ts.tail.tail.tail) _)=_;rw[e2];show(bnd (Zbu _ r (deep+1)) _)=_;rw[f2];rfl
 | bin o l r q j y z A=>
  have B:Zb5 (.node 0 0 (nd0 4 o) l r)=(if o<2 then 1 else 2)+1:=by
   show(if o<2 then 2 else 3)=_;split <;> rfl
  have C:(if o<2 then 1 else 2)<=2:=by split <;> omega
  have Q:Zz (nd0 4 o)=(if o<2 then 1 else 2)+1:=B;refine ZnP (GT.bin o l r q j y) C B (Zn5 (p:=(4,o)) C (ZzI o q) (ZzO o q) ?_ ?_ (z.2 _ C) (A.1 _ Om))
  ·rw[Zko (t:=.node 0 0 (nd0 (4,o).1 (4,o).2) l r) (Ydh B.symm)];show toks l (Zz (nd0 4 o))++opTk o::toks r (Zz (nd0 4 o)+1)=_;rw[Q]
  ·exact(Zmq (p:=(4,o)) Q (Or.inr ⟨rfl,q⟩) j y).2
 | or l r j y z A=>
  refine ZnP (GT.or l r j y) (lv:=0) Om rfl (Zn5 (p:=(6,0)) (x:=(2,wOr)) Om (by rfl) ZzS ?_ ?_ (z.2 0 Om) (A.1 1 Om))
  ·rfl
  ·exact(Zmq (p:=(6,0)) rfl (Or.inl rfl) j y).2
theorem ZIs{q:LB}(h:ZD q=.ok t):ZD (Zu t 1)=if 300<(Zu t 1).length then .error (1,0)else .ok t:=by
 unfold ZD at h;split at h
 ·cases h
 split at h
 ·cases h
 rename_i t' r e;split at h
 ·split at h
  ·cases h
  ·rename_i c;injection h with h;subst h;obtain⟨g1,g2,_⟩:=Zg2 _ false 0 .nil _ 0 _ Om (ZqC q _ _) (fun _=>by omega) (fun h=>by cases h) e;simp only at g1 g2;unfold ZD;split
   ·rfl
   ·have d:=Zyj g1 1;have a:=congrArg List.length d;rw[Yak,Yab,Ybj]at a;obtain⟨r',e1,e2⟩:=(ZAf g1).1 0 Om (10*(ZN (Zu t' 1) ((Zu t' 1).length+1) 0).length+5) _ _ 0 d (ZCS 0) (by show 5*(toks t' 1).length+4<=_;omega) g2;rw[e2];have f:(hd r').jj=0:=congrArg Prod.fst (ZbB e1).1;simp only;rw[if_pos f,if_neg c]
 ·cases h

/- Parts. -/
import Derived.Test.YtcdgkkfipdoeeaaGreatDoorT03
namespace Go.Proofs.YtcdgkkfipdoeeaaGreatDoor
open Go.RowKit LS
def sh(t:Tok):Nat×List UInt8:=(t.kind,t.txt)
abbrev Sh:=Nat×List UInt8
inductive Lx:List UInt8->List Sh->Prop
 | nil:Lx [] [(0,[])]
 | skip {r:List UInt8} {T:List Sh} : Lx r T->Lx (32::r) T
 | num {c:UInt8} {d r:List UInt8} {T:List Sh} : Zt c=true->d.all Zt=true->(ZL 1000000000 (c::d)).isSome=true->run Zt r=0->Lx r T->Lx (c::d++r) ((1,c::d)::T)
 | name {c:UInt8} {d r:List UInt8} {T:List Sh} : Zk c=true->d.all Zk=true->d.length<=7->run Zk r=0->Lx r T->Lx (c::d++r) ((2,c::d)::T)
 | word {v r:List UInt8} {T:List Sh} : ZS v=true->Lx r T->Lx (34::(v++34::r)) ((3,v)::T)
 | ne {r:List UInt8} {T:List Sh} : Lx r T->Lx (33::61::r) ((4,[33,61])::T)
 | sign {c:UInt8} {r:List UInt8} {T:List Sh} : c∈Zcj->Lx r T->Lx (c::r) ((4,[c])::T)
theorem Zlk(p:UInt8->Bool):∀(d r:List UInt8),d.all p=true->run p r=0->run p (d++r)=d.length
 | [],_,_,h=>h
 | c :: d, r, h, hr => by
   rw[List.all_cons,Bool.and_eq_true]at h
   rw[List.cons_append,run,if_pos h.1,Zlk p d r h.2 hr,List.length_cons]
theorem Zun{l r:List UInt8}{i:Nat}(h:l.drop i=32::r):Zo l i=Zo l (i+1):=by
 have h1:l.drop (i+1)=r:=by rw[<-List.drop_drop,h];rfl
 unfold Zo
 rw[h,h1]
 have:run (· == 32) (32::r)=run (· == 32) r+1:=rfl
 rw[this,show i+(run (· == 32) r+1)=i+1+run (· == 32) r by omega]
theorem Zg2{l r:List UInt8}{i:Nat}{c:UInt8}(h:l.drop i=c::r)(hc:c≠32):Zo l i=lexC l i c r:=by
 unfold Zo
 rw[h]
 have:run (· == 32) (c::r)=0:=by simp[run,hc]
 rw[this,Nat.add_zero]
 unfold lexJ
 rw[h]
theorem ZxI{c:UInt8}(h:c∈Zcj):Zt c=false/\Zk c=false/\(c == 34)=false/\(c == 33)=false/\(seek c Zcj).isSome=true/\c≠32:=by
 have:∀x∈Zcj,Zt x=false/\Zk x=false/\(x == 34)=false/\(x == 33)=false/\(seek x Zcj).isSome=true/\x≠32:=by decide
 exact this c h
theorem ZzZ{v:List UInt8}(h:ZS v=true):(34:UInt8)∉v:=by
 intro hm
 unfold ZS at h
 rw[Bool.and_eq_true]at h
 exact absurd (List.all_eq_true.1 h.1 _ hm) (by decide)
theorem Zsj{c:UInt8}(h:Zt c=true):c≠32:=by rintro rfl;exact absurd h (by decide)
theorem Zud{c:UInt8}(h:Zk c=true):c≠32/\Zt c=false:=by
 refine⟨by rintro rfl;exact absurd h (by decide),?_⟩
 simp only[Zk,Zt,Bool.and_eq_true,decide_eq_true_eq,Bool.and_eq_false_iff,decide_eq_false_iff_not]at *
 omega
theorem Zg3{l:List UInt8}{i n:Nat}{k:Nat}{x:List UInt8}{j:Nat}{T:List Sh}(h:Zo l i=(⟨k,x,i⟩,j))(hk:¬(k=0∨k=5))(hT:(ZH l n j).map sh=T):(ZH l (n+1) i).map sh=(k,x)::T:=by
 rw[ZH,h,if_neg hk,List.map_cons,hT];rfl
theorem ZfC{l p r:List UInt8}{i:Nat}(h:l.drop i=p++r):l.drop (i+p.length)=r:=by
 rw[<-List.drop_drop,h,List.drop_left]
theorem ZfD{l p r:List UInt8}{i:Nat}(hi:i<=l.length)(h:l.drop i=p++r):i+p.length<=l.length:=by
 have:=congrArg List.length h
 rw[List.length_drop,List.length_append]at this
 omega
theorem Zoj{m:List UInt8}{T:List Sh}(h:Lx m T):∀(l:List UInt8) (i n:Nat),l.drop i=m->i<=l.length->l.length+1<=n+i->(ZH l n i).map sh=T:=by
 induction h with
 | nil=>
  intro l i n hd hi hn
  obtain⟨n,rfl⟩:∃k,n=k+1:=⟨n - 1,by have:=congrArg List.length hd;simp at this;omega⟩
  have e:Zo l i=(⟨0,[],i⟩,i):=by
   unfold Zo
   rw[hd]
   show lexJ l i=_
   unfold lexJ
   rw[hd]
  rw[ZH,e,if_pos (Or.inl rfl)];rfl
 | @skip r T hr ih=>
  intro l i n hd hi hn
  have h1:l.drop (i+1)=r:=ZfC (p:=[32]) hd
  have h2:i+1<=l.length:=ZfD (p:=[32]) hi hd
  obtain⟨n,rfl⟩:∃k,n=k+1:=⟨n - 1,by omega⟩
  have:=ih l (i+1) (n+1) h1 h2 (by omega)
  rw[ZH,<-Zun hd]at this
  rw[ZH];exact this
 | @num c d r T h1 h2 h3 h4 hr ih=>
  intro l i n hd hi hn
  have g1:=ZfC (p:=c::d) hd
  have g2:=ZfD (p:=c::d) hi hd
  rw[List.length_cons]at g1 g2
  obtain⟨n,rfl⟩:∃k,n=k+1:=⟨n - 1,by omega⟩
  have hrun:run Zt (c::(d++r))=d.length+1:=Zlk Zt (c::d) r (by simp[h1,h2]) h4
  have htk:(c::(d++r)).take (d.length+1)=c::d:=by simp
  have e:Zo l i=(⟨1,c::d,i⟩,i+(d.length+1)):=by
   rw[Zg2 (r:=d++r) (by rw[hd];rfl) (Zsj h1),lexC,if_pos h1,hrun,htk,if_pos h3]
  exact Zg3 e (by omega) (ih l _ n g1 g2 (by omega))
 | @name c d r T h1 h2 h3 h4 hr ih=>
  intro l i n hd hi hn
  have g1:=ZfC (p:=c::d) hd
  have g2:=ZfD (p:=c::d) hi hd
  rw[List.length_cons]at g1 g2
  obtain⟨n,rfl⟩:∃k,n=k+1:=⟨n - 1,by omega⟩
  have hrun:run Zk (c::(d++r))=d.length+1:=Zlk Zk (c::d) r (by simp[h1,h2]) h4
  have htk:(c::(d++r)).take (d.length+1)=c::d:=by simp
  have hnd:=Zud h1
  have e:Zo l i=(⟨2,c::d,i⟩,i+(d.length+1)):=by
   rw[Zg2 (r:=d++r) (by rw[hd];rfl) hnd.1,lexC,if_neg (by rw[hnd.2];exact Bool.false_ne_true),if_pos h1,hrun,htk,if_neg (by omega)]
  exact Zg3 e (by omega) (ih l _ n g1 g2 (by omega))
 | @word v r T h1 hr ih=>
  intro l i n hd hi hn
  have g1:=ZfC (p:=34::(v++[34])) (r:=r) (by rw[hd];simp)
  have g2:=ZfD (p:=34::(v++[34])) (r:=r) hi (by rw[hd];simp)
  have hlen:(34::(v++[34])).length=v.length+2:=by simp
  rw[hlen]at g1 g2
  obtain⟨n,rfl⟩:∃k,n=k+1:=⟨n - 1,by omega⟩
  have e:Zo l i=(⟨3,v,i⟩,i+(v.length+2)):=by
   rw[Zg2 hd (by decide),lexC,if_neg (by decide),if_neg (by decide),if_pos (by decide),Zf0 34 v r (ZzZ h1)]
   simp only[List.take_left,h1,if_true]
   rfl
  exact Zg3 e (by omega) (ih l _ n g1 g2 (by omega))
 | @ne r T hr ih=>
  intro l i n hd hi hn
  have g1:=ZfC (p:=[33,61]) (r:=r) hd
  have g2:=ZfD (p:=[33,61]) (r:=r) hi hd
  obtain⟨n,rfl⟩:∃k,n=k+1:=⟨n - 1,by omega⟩
  have e:Zo l i=(⟨4,[33,61],i⟩,i+2):=by
   rw[Zg2 hd (by decide),lexC,if_neg (by decide),if_neg (by decide),if_neg (by decide),if_pos (by simp)]
  exact Zg3 e (by omega) (ih l _ n g1 g2 (by simp at g2;omega))
 | @sign c r T h1 hr ih=>
  intro l i n hd hi hn
  have g1:=ZfC (p:=[c]) (r:=r) hd
  have g2:=ZfD (p:=[c]) (r:=r) hi hd
  obtain⟨n,rfl⟩:∃k,n=k+1:=⟨n - 1,by omega⟩
  obtain⟨s1,s2,s3,s4,s5,s6⟩:=ZxI h1
  have e:Zo l i=(⟨4,[c],i⟩,i+1):=by
   rw[Zg2 hd s6,lexC,s1,s2,s3,s4,s5]
   rfl
  exact Zg3 e (by omega) (ih l _ n g1 g2 (by simp at g2;omega))
theorem ZjO{d:Nat}(h:d<=9):(dig d).toNat=48+d:=by unfold dig;simp;omega
theorem ZmL{d:Nat}(h:d<=9):Zt (dig d)=true:=by
 have:=ZjO h
 simp only[Zt,Bool.and_eq_true,decide_eq_true_eq]
 omega
theorem ZmJ(n:Nat):(decS n).all Zt=true/\val (decS n)=n/\decS n≠[]/\((decS n).head?=some 48->(decS n).length=1):=by
 induction n using Nat.strongRecOn with
 | _ n ih=>
  by_cases h:n<=9
  ·rw[ZgP h]
   refine⟨by simp[ZmL h],?_,by simp,fun _=>rfl⟩
   show 10*0+((dig n).toNat - 48)=n
   rw[ZjO h];omega
  ·obtain⟨h1,h2,h3,h4⟩:=ih (n / 10) (by omega)
   rw[ZhG h]
   refine⟨by rw[List.all_append,h1];simp[ZmL (show n % 10<=9 by omega)],?_,by simp,fun hh=>?_⟩
   ·rw[ZlC,h2,ZjO (show n % 10<=9 by omega)];omega
   ·exfalso
    have hh':(decS (n / 10)).head?=some 48:=by
     cases hd:decS (n / 10)with
     | nil=>exact absurd hd h3
     | cons a t=>rw[hd]at hh;exact hh
    have hl:=h4 hh'
    obtain⟨c,hc⟩:=List.length_eq_one_iff.1 hl
    rw[hc]at hh' h2
    simp only[List.head?_cons,Option.some.injEq]at hh'
    subst hh'
    have:n / 10=0:=by rw[<-h2];rfl
    omega
theorem ZkM{n most:Nat}(h:n<=most):ZL most (decS n)=some n:=by
 obtain⟨h1,h2,h3,h4⟩:=ZmJ n
 unfold ZL
 rw[h2,if_neg]
 rintro(h|h|h|h)
 ·cases hd:decS n with
  | nil=>exact h3 hd
  | cons a t=>rw[hd]at h;simp at h
 ·have:=h4 h.1;omega
 ·rw[h1]at h;cases h
 ·omega
def stop(r:List UInt8):Prop:=run Zk r=0/\run Zt r=0
theorem ZpG:stop []:=⟨rfl,rfl⟩
theorem Zb1{c:UInt8}(r:List UInt8)(h1:Zk c=false)(h2:Zt c=false):stop (c::r):=⟨by simp[run,h1],by simp[run,h2]⟩
theorem Zok{n:Nat}(h:n<=1000000000){r:List UInt8}{T:List Sh}(hs:stop r)(hr:Lx r T):Lx (decS n++r) ((1,decS n)::T):=by
 obtain⟨h1,h2,h3,h4⟩:=ZmJ n
 have h5:=ZkM h
 cases hd:decS n with
 | nil=>exact absurd hd h3
 | cons c d=>
  rw[hd]at h1 h5
  rw[List.all_cons,Bool.and_eq_true]at h1
  exact Lx.num h1.1 h1.2 (by rw[h5];rfl) hs.2 hr
theorem Zdk{x:List UInt8}(h:ZA x=true){r:List UInt8}{T:List Sh}(hs:stop r)(hr:Lx r T):Lx (x++r) ((2,x)::T):=by
 unfold ZA at h
 rw[Bool.and_eq_true,Bool.and_eq_true,decide_eq_true_eq,decide_eq_true_eq]at h
 cases x with
 | nil=>exact absurd h.2.1 (by decide)
 | cons c d=>
  have h1:=h.1
  rw[List.all_cons,Bool.and_eq_true]at h1
  exact Lx.name h1.1 h1.2 (by have:=h.2.2;rw[List.length_cons]at this;omega) hs.1 hr
abbrev Cnd:=List UInt8×List UInt8×Bool
def Zd5(c:Cnd):List Sh:=[(2,c.1),(4,if c.2.2 then [33,61] else [61]),(3,c.2.1)]
def sepT:List (List Sh)->List Sh
 | []=>[]
 | [a]=>a
 | a::l=>a++(4,[44])::sepT l
def ZdT(a:Nd):List Sh:=(2,a.name)::(if a.conds=[] then [] else (4,[123])::(sepT (a.conds.map Zd5)++[(4,[125])]))
def opTk(o:Nat):Sh:=(4,opS o)
def Zcy(a:Nd)(pl pr:Nat->List Sh):List Sh:=
 if a.kind=0 then [(1,decS a.n.toNat)]
 else if a.kind=1 then ZdT a
 else if a.kind=2 then (2,ZV.getD a.op [])::(4,[40])::(ZdT a++[(4,[91]),(1,decS a.n.toNat),(4,[93]),(4,[41])])
 else if a.kind=3 then (4,[45])::pl 4
 else if a.kind=5 then (2,ZG.getD a.op [])::(2,wBy)::(4,[40])::(sepT (a.by_.map fun x=>[(2,x)])++(4,[41])::(4,[40])::(pl 1++[(4,[41])]))
 else if a.kind=6 then pl 1++(2,wOr)::pr 2
 else pl (ZC a)++opTk a.op::pr (ZC a+1)
def ZbS(b:Bool)(s:List Sh):List Sh:=if b then (4,[40])::(s++[(4,[41])])else s
def toks:Tr->Nat->List Sh
 | .nil,_=>[]
 | .node _ _ a l r,must=>ZbS (decide (ZC a<must)) (Zcy a (toks l) (toks r))
def Zfg(c:Cnd):Prop:=ZA c.1=true/\ZS c.2.1=true
def Zhe(nm:List UInt8)(cs:List Cnd):Prop:=ZA nm=true/\idx nm ZG=none/\idx nm ZV=none/\nm≠wOr/\nm≠wBy/\∀c∈cs,Zfg c
inductive GT:Tr->Prop
 | num (n:Nat):n<=1000000000->GT (Z6 ⟨0,0,(n:Int),[],[],[]⟩)
 | sel (nm:List UInt8) (cs:List Cnd):Zhe nm cs->GT (Z6 ⟨1,0,0,nm,cs,[]⟩)
 | win (o n:Nat) (nm:List UInt8) (cs:List Cnd):o<5->1<=n->n<=1000->Zhe nm cs->GT (Z6 ⟨2,o,(n:Int),nm,cs,[]⟩)
 | neg (l:Tr):GT l->GT (.node 0 0 (nd0 3 0) l .nil)
 | grp (g:Nat) (ns:List (List UInt8)) (l:Tr):g<4->(∀x∈ns,ZA x=true)->GT l->GT (.node 0 0 ⟨5,g,0,[],[],ns⟩ l .nil)
 | bin (o:Nat) (l r:Tr):o<4->GT l->GT r->GT (.node 0 0 (nd0 4 o) l r)
 | or (l r:Tr):GT l->GT r->GT (.node 0 0 (nd0 6 0) l r)
theorem ZkC{α:Type}(f:α->List UInt8)(g:α->List Sh)(ok:α->Prop)(hf:∀a,ok a->∀r T,stop r->Lx r T->Lx (f a++r) (g a++T)):∀(l:List α),(∀a∈l,ok a)->∀r T,stop r->Lx r T->Lx (commas (l.map f)++r) (sepT (l.map g)++T)
 | [],_,r,T,_,hr=>hr
 | [a],h,r,T,hs,hr=>hf a (h a (List.mem_cons_self ..)) r T hs hr
 | a :: b :: l, h, r, T, hs, hr => by
   have ih:=ZkC f g ok hf (b::l) (fun x hx=>h x (List.mem_cons_of_mem _ hx)) r T hs hr
   have e1:commas ((a::b::l).map f)++r=f a++44::(commas ((b::l).map f)++r):=by
     show(f a++44::commas ((b::l).map f))++r=_
     simp
   have e2:sepT ((a::b::l).map g)++T=g a++(4,[44])::(sepT ((b::l).map g)++T):=by
     show(g a++(4,[44])::sepT ((b::l).map g))++T=_
     simp
   rw[e1,e2]
   exact hf a (h a (List.mem_cons_self ..)) _ _ (Zb1 _ (by decide) (by decide)) (Lx.sign (by decide) ih)
theorem ZuV(c:Cnd)(h:Zfg c)(r:List UInt8)(T:List Sh)(_:stop r)(hr:Lx r T):Lx (Zbo c++r) (Zd5 c++T):=by
 obtain⟨n,v,b⟩:=c
 obtain⟨h1,h2⟩:=h
 have hw:Lx (34::(v++34::r)) ((3,v)::T):=Lx.word h2 hr
 cases b with
 | true=>
  have e:Zbo (n,v,true)++r=n++33::61::34::(v++34::r):=by simp[Zbo]
  rw[e]
  exact Zdk h1 (Zb1 _ (by decide) (by decide)) (Lx.ne hw)
 | false=>
  have e:Zbo (n,v,false)++r=n++61::34::(v++34::r):=by simp[Zbo]
  rw[e]
  exact Zdk h1 (Zb1 _ (by decide) (by decide)) (Lx.sign (by decide) hw)
theorem Zom(a:Nd)(h:Zhe a.name a.conds)(r:List UInt8)(T:List Sh)(hs:stop r)(hr:Lx r T):Lx (selS a++r) (ZdT a++T):=by
 unfold selS ZdT
 by_cases hc:a.conds=[]
 ·rw[if_pos hc,if_pos hc]
  exact Zdk h.1 hs hr
 ·rw[if_neg hc,if_neg hc]
  have e1:a.name++[123]++commas (a.conds.map Zbo)++[125]++r=a.name++123::(commas (a.conds.map Zbo)++125::r):=by simp
  have e2:((2,a.name)::(4,[123])::(sepT (a.conds.map Zd5)++[(4,[125])]))++T=(2,a.name)::(4,[123])::(sepT (a.conds.map Zd5)++(4,[125])::T):=by simp
  rw[e1,e2]
  exact Zdk h.1 (Zb1 _ (by decide) (by decide)) (Lx.sign (by decide) (ZkC Zbo Zd5 Zfg ZuV a.conds h.2.2.2.2.2 _ _ (Zb1 _ (by decide) (by decide)) (Lx.sign (by decide) hr)))
theorem ZoP:∀o,o<5->ZA (ZV.getD o [])=true:=by decide
theorem ZhP:∀o,o<4->ZA (ZG.getD o [])=true:=by decide
theorem ZvL:∀o,o<4->∃c:UInt8,opS o=[c]/\c∈Zcj:=by
 intro o ho
 obtain rfl|rfl|rfl|rfl:o=0∨o=1∨o=2∨o=3:=by omega
 ·exact⟨43,rfl,by decide⟩
 ·exact⟨45,rfl,by decide⟩
 ·exact⟨42,rfl,by decide⟩
 ·exact⟨47,rfl,by decide⟩
def LxP(s:List UInt8)(S:List Sh):Prop:=∀r T,stop r->Lx r T->Lx (s++r) (S++T)
theorem ZeV{b:Bool}{s:List UInt8}{S:List Sh}(h:LxP s S):LxP (Zdn b s) (ZbS b S):=by
 cases b with
 | false=>exact h
 | true=>
  intro r T hs hr
  have e1:Zdn true s++r=40::(s++41::r):=by simp[Zdn]
  have e2:ZbS true S++T=(4,[40])::(S++(4,[41])::T):=by simp[ZbS]
  rw[e1,e2]
  exact Lx.sign (by decide) (h _ _ (Zb1 _ (by decide) (by decide)) (Lx.sign (by decide) hr))
theorem Zol{t:Tr}(h:GT t):∀must,LxP (Zm t must) (toks t must):=by
 induction h with
 | num n hn=>
  intro must
  exact ZeV (fun r T hs hr=>Zok (n:=n) hn hs hr)
 | sel nm cs h=>
  intro must
  exact ZeV (fun r T hs hr=>Zom ⟨1,0,0,nm,cs,[]⟩ h r T hs hr)
 | win o n nm cs ho h1 h2 h=>
  intro must
  refine ZeV (fun r T hs hr=>?_)
  have e1:Zbk ⟨2,o,(n:Int),nm,cs,[]⟩ (Zm .nil) (Zm .nil)++r=ZV.getD o []++40::(selS ⟨2,o,(n:Int),nm,cs,[]⟩++91::(decS n++93::41::r)):=by simp[Zbk]
  have e2:Zcy ⟨2,o,(n:Int),nm,cs,[]⟩ (toks .nil) (toks .nil)++T=(2,ZV.getD o [])::(4,[40])::(ZdT ⟨2,o,(n:Int),nm,cs,[]⟩++(4,[91])::(1,decS n)::(4,[93])::(4,[41])::T):=by simp[Zcy]
  rw[e1,e2]
  exact Zdk (ZoP o ho) (Zb1 _ (by decide) (by decide)) (Lx.sign (by decide) (Zom ⟨2,o,(n:Int),nm,cs,[]⟩ h _ _ (Zb1 _ (by decide) (by decide)) (Lx.sign (by decide) (Zok (by omega) (Zb1 _ (by decide) (by decide)) (Lx.sign (by decide) (Lx.sign (by decide) hr))))))
 | neg l _ ih=>
  intro must
  refine ZeV (fun r T hs hr=>?_)
  exact Lx.sign (by decide) (ih 4 r T hs hr)
 | grp g ns l hg hns _ ih=>
  intro must
  refine ZeV (fun r T hs hr=>?_)
  have e1:Zbk ⟨5,g,0,[],[],ns⟩ (Zm l) (Zm .nil)++r=ZG.getD g []++32::(wBy++32::40::(commas (ns.map id)++41::32::40::(Zm l 1++41::r))):=by simp[Zbk,wBy]
  have e2:Zcy ⟨5,g,0,[],[],ns⟩ (toks l) (toks .nil)++T=(2,ZG.getD g [])::(2,wBy)::(4,[40])::(sepT (ns.map fun x=>[(2,x)])++(4,[41])::(4,[40])::(toks l 1++(4,[41])::T)):=by simp[Zcy]
  rw[e1,e2]
  refine Zdk (ZhP g hg) (Zb1 _ (by decide) (by decide)) (Lx.skip (Zdk (by decide) (Zb1 _ (by decide) (by decide)) (Lx.skip (Lx.sign (by decide) ?_))))
  refine ZkC id (fun x=>[(2,x)]) (fun x=>ZA x=true) (fun a ha r T hs hr=>Zdk ha hs hr) ns hns _ _ (Zb1 _ (by decide) (by decide)) ?_
  exact Lx.sign (by decide) (Lx.skip (Lx.sign (by decide) (ih 1 _ _ (Zb1 _ (by decide) (by decide)) (Lx.sign (by decide) hr))))
 | bin o l r ho _ _ ihl ihr=>
  intro must
  refine ZeV (fun r' T hs hr=>?_)
  obtain⟨c,hc,hcs⟩:=ZvL o ho
  have e1:Zbk (nd0 4 o) (Zm l) (Zm r)++r'=Zm l (ZC (nd0 4 o))++32::c::32::(Zm r (ZC (nd0 4 o)+1)++r'):=by simp[Zbk,nd0,hc]
  have e2:Zcy (nd0 4 o) (toks l) (toks r)++T=toks l (ZC (nd0 4 o))++(4,[c])::(toks r (ZC (nd0 4 o)+1)++T):=by simp[Zcy,nd0,opTk,hc]
  rw[e1,e2]
  exact ihl _ _ _ (Zb1 _ (by decide) (by decide)) (Lx.skip (Lx.sign hcs (Lx.skip (ihr _ _ _ hs hr))))
 | or l r _ _ ihl ihr=>
  intro must
  refine ZeV (fun r' T hs hr=>?_)
  have e1:Zbk (nd0 6 0) (Zm l) (Zm r)++r'=Zm l 1++32::(wOr++32::(Zm r 2++r')):=by simp[Zbk,nd0,wOr]
  have e2:Zcy (nd0 6 0) (toks l) (toks r)++T=toks l 1++(2,wOr)::(toks r 2++T):=by simp[Zcy,nd0]
  rw[e1,e2]
  exact ihl _ _ _ (Zb1 _ (by decide) (by decide)) (Lx.skip (Zdk (by decide) (Zb1 _ (by decide) (by decide)) (Lx.skip (ihr _ _ _ hs hr))))
theorem Zuw{t:Tr}(h:GT t)(must:Nat):(ZH (Zm t must) ((Zm t must).length+1) 0).map sh=toks t must++[(0,[])]:=by
 have:=Zol h must [] _ ZpG Lx.nil
 rw[List.append_nil]at this
 exact Zoj this _ 0 _ rfl (Nat.zero_le _) (Nat.le_refl _)
def ZcX:Tr->Nat
 | .nil=>4
 | .node _ _ a _ _=>ZC a
def brk(t:Tr)(must:Nat):Nat:=if ZcX t<must then 1 else 0
def Zcs:Tr->Nat
 | .nil=>0
 | .node _ _ a l r=>if a.kind<=2 then 1 else if a.kind=3 then 1+(brk l 4+Zcs l)else if a.kind=5 then 1+(brk l 1+Zcs l)else max (brk l (ZC a)+Zcs l) (brk r (ZC a+1)+Zcs r)
def nd(t:Tr)(must:Nat):Nat:=brk t must+Zcs t
theorem Zvf(t:Tr)(m:Nat):nd t m<=nd t (m+1):=by
 unfold nd brk
 split
 ·rw[if_pos (by omega)];omega
 ·split <;> omega
theorem Zve(t:Tr)(m:Nat):nd t m<=1+nd t 1:=by
 unfold nd brk
 split <;> split <;> omega
def ZeH(x:Tok):Prop:=(x.kind=1->(ZL 1000000000 x.txt).isSome=true)/\(x.kind=2->ZA x.txt=true)/\(x.kind=3->ZS x.txt=true)
theorem Zpf(p:UInt8->Bool):∀l:List UInt8,(l.take (run p l)).all p=true
 | []=>rfl
 | c :: l => by
   rw[run]
   split
   · rename_i h
     rw[List.take_succ_cons,List.all_cons,h,Zpf p l];rfl
   · rfl
theorem tok1{x:List UInt8}{j:Nat}(h:(ZL 1000000000 x).isSome=true):ZeH ⟨1,x,j⟩:=⟨fun _=>h,fun h=>absurd (show(1:Nat)=2 from h) (by decide),fun h=>absurd (show(1:Nat)=3 from h) (by decide)⟩
theorem tok2{x:List UInt8}{j:Nat}(h:ZA x=true):ZeH ⟨2,x,j⟩:=⟨fun h=>absurd (show(2:Nat)=1 from h) (by decide),fun _=>h,fun h=>absurd (show(2:Nat)=3 from h) (by decide)⟩
theorem tok3{x:List UInt8}{j:Nat}(h:ZS x=true):ZeH ⟨3,x,j⟩:=⟨fun h=>absurd (show(3:Nat)=1 from h) (by decide),fun h=>absurd (show(3:Nat)=2 from h) (by decide),fun _=>h⟩
theorem tok0{k:Nat}{x:List UInt8}{j:Nat}(h1:k≠1)(h2:k≠2)(h3:k≠3):ZeH ⟨k,x,j⟩:=⟨fun h=>absurd h h1,fun h=>absurd h h2,fun h=>absurd h h3⟩
theorem Zut(l:List UInt8)(j:Nat)(c:UInt8)(r:List UInt8):ZeH (lexC l j c r).1:=by
 unfold lexC
 split
 ·split
  ·rename_i h;exact tok1 h
  ·exact tok0 (by decide) (by decide) (by decide)
 ·split
  ·rename_i hl
   split
   ·exact tok0 (by decide) (by decide) (by decide)
   ·rename_i h8
    refine tok2 ?_
    have h1:=Zpf Zk (c::r)
    have h2:=ZfZ Zk (c::r)
    have h3:1<=run Zk (c::r):=by rw[run,if_pos hl];omega
    unfold ZA
    rw[Bool.and_eq_true,Bool.and_eq_true,decide_eq_true_eq,decide_eq_true_eq]
    have h4:((c::r).take (run Zk (c::r))).length=run Zk (c::r):=by rw[List.length_take];omega
    refine⟨h1,?_,?_⟩
    ·show(1:Int)<=(((c::r).take (run Zk (c::r))).length:Int)
     rw[h4];omega
    ·show(((c::r).take (run Zk (c::r))).length:Int)<=8
     rw[h4];omega
  ·split
   ·split
    ·exact tok0 (by decide) (by decide) (by decide)
    ·split
     ·rename_i h;exact tok3 h
     ·exact tok0 (by decide) (by decide) (by decide)
   ·split
    ·exact tok0 (by decide) (by decide) (by decide)
    ·split
     ·exact tok0 (by decide) (by decide) (by decide)
     ·exact tok0 (by decide) (by decide) (by decide)
theorem Zog(l:List UInt8)(i:Nat):ZeH (Zo l i).1:=by
 unfold Zo lexJ
 split
 ·exact tok0 (by decide) (by decide) (by decide)
 ·exact Zut _ _ _ _
def Zbc(ts:List Tok):Prop:=∀x∈ts,ZeH x
theorem Zks(l:List UInt8):∀(n i:Nat),Zbc (ZH l n i)
 | 0,_=>fun x hx=>by cases hx
 | n + 1, i => by
   rw[ZH]
   split
   · intro x hx;rw[List.mem_singleton]at hx;subst hx;exact Zog l i
   · intro x hx
     rcases List.mem_cons.1 hx with rfl|hx
     · exact Zog l i
     · exact Zks l n _ x hx
theorem Zbc.tail{ts:List Tok}(h:Zbc ts):Zbc ts.tail:=fun x hx=>h x (List.mem_of_mem_tail hx)
theorem Zbc.hd{ts:List Tok}(h:Zbc ts):ZeH (hd ts):=by
 cases ts with
 | nil=>exact tok0 (by decide) (by decide) (by decide)
 | cons t r=>exact h t (List.mem_cons_self ..)
theorem Zej{s:List UInt8}{ts:List Tok}{z:Unit×List Tok}(h:Zp s ts=.ok z)(hk:Zbc ts):Zbc z.2:=by
 unfold Zp at h
 split at h
 ·injection h with h;subst h;exact hk.tail
 ·cases h
theorem Zh6{k:Nat}{ts:List Tok}{z:List UInt8×List Tok}(h:ZD k ts=.ok z)(hk:Zbc ts):Zbc z.2/\(hd ts).kind=k/\z.1=(hd ts).txt:=by
 unfold ZD at h
 split at h
 ·rename_i e;injection h with h;subst h;exact⟨hk.tail,e,rfl⟩
 ·cases h
theorem ZkA{α:Type}{item:List Tok->Out α}{close:List UInt8}(ok:α->Prop)(hi:∀t z,Zbc t->item t=.ok z->Zbc z.2/\ok z.1):∀(n:Nat) (acc:List α) (ts:List Tok) (z:List α×List Tok),(∀a∈acc,ok a)->Zbc ts->ZE item close n acc ts=.ok z->Zbc z.2/\∀a∈z.1,ok a
 | 0,_,_,_,_,_,h=>by cases h
 | n + 1, acc, ts, z, ha, hk, h => by
   have h':(if isT close (hd ts)then .ok (acc,ts.tail)else bnd (if acc.isEmpty then .ok ((),ts)else Zp [44] ts) fun _ r=>bnd (item r) fun a r=>ZE item close n (acc++[a]) r)=.ok z:=h
   cases hc:isT close (hd ts)
   · rw[hc]at h'
     obtain⟨_,t1,h1,h2⟩:=Zl (x:=if acc.isEmpty then .ok ((),ts)else Zp [44] ts) h'
     obtain⟨a,t2,h3,h4⟩:=Zl h2
     have k1:Zbc t1:=by
       split at h1
       · injection h1 with h1;injection h1 with _ h1;subst h1;exact hk
       · exact Zej h1 hk
     have k2:=hi t1 _ k1 h3
     refine ZkA ok hi n _ _ _ (fun x hx=>?_) k2.1 h4
     rcases List.mem_append.1 hx with hx|hx
     · exact ha x hx
     · rw[List.mem_singleton]at hx;subst hx;exact k2.2
   · rw[hc]at h'
     injection h' with h';subst h'
     exact⟨hk.tail,ha⟩
theorem ZrY(t:List Tok)(z:Cnd×List Tok)(hk:Zbc t)(h:ZO t=.ok z):Zbc z.2/\Zfg z.1:=by
 unfold ZO at h
 obtain⟨a,t1,h1,h⟩:=Zl h
 obtain⟨v,t2,h2,h⟩:=Zl h
 obtain⟨b,t3,h3,h⟩:=Zl h
 injection h with h;subst h
 obtain⟨k1,e1,e2⟩:=Zh6 h1 hk
 have k2:Zbc t2:=by
  unfold Zc9 at h2
  split at h2
  ·injection h2 with h2;injection h2 with _ h2;subst h2;exact k1.tail
  ·obtain⟨_,t4,h4,h5⟩:=Zl h2
   injection h5 with h5;injection h5 with _ h5;subst h5
   exact Zej h4 k1
 obtain⟨k3,e3,e4⟩:=Zh6 h3 k2
 refine⟨k3,?_,?_⟩
 ·show ZA a=true
  rw[show a=(hd t).txt from e2];exact hk.hd.2.1 e1
 ·show ZS b=true
  rw[show b=(hd t2).txt from e4];exact k2.hd.2.2 e3
theorem Zpo{ts:List Tok}{z:Nd×List Tok}(hk:Zbc ts)(h:selP ts=.ok z):Zbc z.2/\Zhe z.1.name z.1.conds/\z.1=⟨1,0,0,z.1.name,z.1.conds,[]⟩:=by
 unfold selP at h
 obtain⟨a,t,h1,h2⟩:=Zl h
 have g:Zbc t/\ZA a=true/\idx a ZG=none/\idx a ZV=none/\a≠wOr/\a≠wBy:=by
  unfold Zdw at h1
  split at h1
  ·cases h1
  ·rename_i hr
   obtain⟨k1,e1,e2⟩:=Zh6 h1 hk
   simp only at e2
   subst e2
   unfold Zfr isT at hr
   simp only[Bool.or_eq_true,Bool.and_eq_true,beq_iff_eq,not_or,not_and,e1]at hr
   refine⟨k1,hk.hd.2.1 e1,?_,?_,?_,?_⟩
   ·simpa using hr.1.1.1
   ·simpa using hr.1.1.2
   ·exact hr.1.2 (Or.inl trivial)
   ·exact hr.2 (Or.inl trivial)
 obtain⟨kt,g1,g2,g3,g4,g5⟩:=g
 split at h2
 ·obtain⟨cs,t2,h3,h4⟩:=Zl h2
  injection h4 with h4;subst h4
  have l2:=ZkA Zfg ZrY _ _ _ _ (by simp) kt.tail h3
  exact⟨l2.1,⟨g1,g2,g3,g4,g5,l2.2⟩,rfl⟩
 ·injection h2 with h2;subst h2
  exact⟨kt,⟨g1,g2,g3,g4,g5,by simp⟩,rfl⟩
theorem ZzS{o:Nat}(ho:o<5){ts:List Tok}{z:Tr×List Tok}(hk:Zbc ts)(h:winP o ts=.ok z):GT z.1/\Zcs z.1=1/\ZcX z.1=4/\Zbc z.2:=by
 unfold winP at h
 obtain⟨_,t1,h1,h⟩:=Zl h
 obtain⟨p,t2,h2,h⟩:=Zl h
 obtain⟨_,t3,h3,h⟩:=Zl h
 obtain⟨m,t4,h4,h⟩:=Zl h
 obtain⟨_,t5,h5,h⟩:=Zl h
 obtain⟨_,t6,h6,h⟩:=Zl h
 injection h with h;subst h
 have k1:=Zej h1 hk
 obtain⟨k2,hs,_⟩:=Zpo k1 h2
 have k3:=Zej h3 k2
 have a4:Zbc t4/\1<=m/\m<=1000:=by
  unfold ZcV at h4
  split at h4
  ·rename_i hh
   injection h4 with h4;injection h4 with h4 h4';subst h4;subst h4'
   exact⟨k3.tail,hh.2,(ZkK 1000 _).2⟩
  ·cases h4
 have k5:=Zej h5 a4.1
 have k6:=Zej h6 k5
 refine⟨?_,rfl,rfl,k6⟩
 obtain⟨n,rfl⟩:∃n:Nat,m=n:=⟨m.toNat,by omega⟩
 exact GT.win o n p.name p.conds ho (by omega) (by omega) hs
def InvA(rec:Nat->List Tok->Nat->Out Tr):Prop:=∀lv t d z,lv<=3->d<=20->Zbc t->rec lv t d=.ok z->GT z.1/\d+nd z.1 (lv+1)<=20/\Zbc z.2
theorem Zqh{rec:Nat->List Tok->Nat->Out Tr}(hr:InvA rec){ts:List Tok}{deep:Nat}{z:Tr×List Tok}(hdp:deep<=20)(hk:Zbc ts)(h:Z3 rec ts deep=.ok z):GT z.1/\deep+nd z.1 1<=20/\Zbc z.2:=by
 unfold Z3 at h
 obtain⟨_,t1,h1,h⟩:=Zl h
 obtain⟨a,t2,h2,h⟩:=Zl h
 obtain⟨_,t3,h3,h⟩:=Zl h
 injection h with h;subst h
 obtain⟨b1,b2,b3⟩:=hr 0 _ _ _ (by omega) hdp (Zej h1 hk) h2
 exact⟨b1,b2,Zej h3 b3⟩
theorem ZkH{t:Tr}(h:ZcX t=4)(m:Nat)(hm:m<=4):nd t m=Zcs t:=by
 unfold nd brk;rw[if_neg (by omega)];omega
theorem Ztu{rec:Nat->List Tok->Nat->Out Tr}(hr:InvA rec){ts:List Tok}{deep:Nat}{z:Tr×List Tok}(hk:Zbc ts)(hd20:deep+1<=20)(h:Zbd rec ts (deep+1)=.ok z):GT z.1/\deep+nd z.1 4<=20/\Zbc z.2:=by
 unfold Zbd at h
 split at h
 ·rename_i h1
  injection h with h;subst h
  obtain⟨v,hv⟩:=Option.isSome_iff_exists.1 (hk.hd.1 h1)
  have e:numV (hd ts).txt=(v:Int):=by unfold numV;rw[hv];rfl
  refine⟨?_,hd20,hk.tail⟩
  show GT (Z6 ⟨0,0,numV (hd ts).txt,[],[],[]⟩)
  rw[e]
  exact GT.num v (ZfQ hv)
 ·split at h
  ·obtain⟨a,t1,h1,h⟩:=Zl h
   injection h with h;subst h
   obtain⟨b1,b2,b3⟩:=hr 3 _ _ _ (by omega) hd20 hk.tail h1
   refine⟨GT.neg a b1,?_,b3⟩
   rw[ZkH rfl 4 (by omega)]
   have b2':deep+1+(brk a 4+Zcs a)<=20:=b2
   show deep+(1+(brk a 4+Zcs a))<=20
   omega
  ·split at h
   ·obtain⟨b1,b2,b3⟩:=Zqh hr hd20 hk h
    have:=Zve z.1 4
    exact⟨b1,by omega,b3⟩
   ·split at h
    ·rename_i g hg
     have hg4:=ZhW hg
     unfold Zb0 at h
     obtain⟨_,t1,h1,h⟩:=Zl h
     obtain⟨_,t2,h2,h⟩:=Zl h
     obtain⟨ns,t3,h3,h⟩:=Zl h
     obtain⟨a,t4,h4,h⟩:=Zl h
     injection h with h;subst h
     have l3 := ZkA (fun x => ZA x = true) (fun t z hk hz => by
       obtain⟨k1,e1,e2⟩:=Zh6 hz hk
       exact⟨k1,by rw[e2];exact hk.hd.2.1 e1⟩) _ _ _ _ (by simp) (Zej h2 (Zej h1 hk.tail)) h3
     obtain⟨b1,b2,b3⟩:=Zqh hr hd20 l3.1 h4
     refine⟨GT.grp g ns a (by simp[ZG]at hg4;omega) l3.2 b1,?_,b3⟩
     rw[ZkH rfl 4 (by omega)]
     have b2':deep+1+(brk a 1+Zcs a)<=20:=b2
     show deep+(1+(brk a 1+Zcs a))<=20
     omega
    ·split at h
     ·rename_i o ho
      have ho5:=ZhW ho
      obtain⟨b1,b2,b3,b4⟩:=ZzS (show o<5 by simp[ZV]at ho5;omega) hk.tail h
      refine⟨b1,?_,b4⟩
      rw[ZkH b3 4 (by omega),b2];exact hd20
     ·obtain⟨p,t1,h1,h⟩:=Zl h
      injection h with h;subst h
      obtain⟨k1,hs,e⟩:=Zpo hk h1
      simp only at hs e
      refine⟨?_,?_,k1⟩
      ·show GT (Z6 p)
       rw[e];exact GT.sel _ _ hs
      ·show deep+nd (Z6 p) 4<=20
       rw[e];exact hd20
theorem ZvI{lv:Nat}{t:Tok}{p:Nat×Nat}(hlv:lv<=2)(h:LS.opAt lv t=some p):ZC (nd0 p.1 p.2)=lv+1/\(p=(6,0)∨(p.1=4/\p.2<4)):=by
 unfold LS.opAt at h
 split at h
 ·split at h
  ·injection h with h;subst h;subst_vars;exact⟨rfl,Or.inl rfl⟩
  ·cases h
 ·split at h
  ·subst_vars
   split at h
   ·injection h with h;subst h;exact⟨rfl,Or.inr ⟨rfl,by decide⟩⟩
   ·split at h
    ·injection h with h;subst h;exact⟨rfl,Or.inr ⟨rfl,by decide⟩⟩
    ·cases h
  ·obtain rfl:lv=2:=by omega
   split at h
   ·injection h with h;subst h;exact⟨rfl,Or.inr ⟨rfl,by decide⟩⟩
   ·split at h
    ·injection h with h;subst h;exact⟨rfl,Or.inr ⟨rfl,by decide⟩⟩
    ·cases h
theorem ZkJ{lv:Nat}{p:Nat×Nat}{a b:Tr}(h1:ZC (nd0 p.1 p.2)=lv+1)(h2:p=(6,0)∨(p.1=4/\p.2<4))(ga:GT a)(gb:GT b):GT (.node 0 0 (nd0 p.1 p.2) a b)/\nd (.node 0 0 (nd0 p.1 p.2) a b) (lv+1)=max (nd a (lv+1)) (nd b (lv+2)):=by
 refine⟨?_,?_⟩
 ·rcases h2 with rfl|⟨h2,h3⟩
  ·exact GT.or a b ga gb
  ·obtain⟨x,y⟩:=p
   simp only at h2 h3
   subst h2
   exact GT.bin y a b h3 ga gb
 ·have hk:¬p.1<=2/\¬p.1=3/\¬p.1=5:=by
   rcases h2 with rfl|⟨h2,h3⟩
   ·decide
   ·omega
  show brk (.node 0 0 (nd0 p.1 p.2) a b) (lv+1)+(if p.1<=2 then 1 else if p.1=3 then 1+(brk a 4+Zcs a)else if p.1=5 then 1+(brk a 1+Zcs a)else max (brk a (ZC (nd0 p.1 p.2))+Zcs a) (brk b (ZC (nd0 p.1 p.2)+1)+Zcs b))=_
  rw[if_neg hk.1,if_neg hk.2.1,if_neg hk.2.2,h1]
  have:brk (.node 0 0 (nd0 p.1 p.2) a b) (lv+1)=0:=by
   show(if ZC (nd0 p.1 p.2)<lv+1 then 1 else 0)=0
   rw[h1,if_neg (by omega)]
  rw[this,Nat.zero_add]
  rfl
theorem Zfp:∀(n:Nat) (m:Bool) (lv:Nat) (a:Tr) (ts:List Tok) (deep:Nat) (z:Tr×List Tok),deep<=20->Zbc ts->(m=false->lv<=3)->(m=true->lv<=2/\GT a/\deep+nd a (lv+1)<=20)->Zj n m lv a ts deep=.ok z->GT z.1/\deep+nd z.1 (lv+1)<=20/\Zbc z.2
 | 0,_,_,_,_,_,_,_,_,_,_,h=>by cases h
 | n + 1, false, lv, a, ts, deep, z, hdp, hk, hlv, _, h => by
   have hlv:=hlv rfl
   rw[Zj]at h
   split at h
   · subst_vars
     unfold ZbZ at h
     split at h
     · split at h
       · cases h
       · exact Ztu (fun lv t d z hlv hd hk hz=>Zfp n false lv .nil t d z hd hk (fun _=>hlv) (fun h=>by cases h) hz) hk (by omega) h
     · cases h
   · rename_i h3
     obtain⟨b,t1,h1,h2⟩:=Zl h
     obtain⟨g1,g2,g3⟩:=Zfp n false (lv+1) .nil ts deep _ hdp hk (fun _=>by omega) (fun h=>by cases h) h1
     simp only at g1 g2 g3
     have:=Zvf b (lv+1)
     exact Zfp n true lv b t1 deep z hdp g3 (fun h=>by cases h) (fun _=>⟨by omega,g1,by omega⟩) h2
 | n + 1, true, lv, a, ts, deep, z, hdp, hk, _, hm, h => by
   obtain⟨hlv,ga,gn⟩:=hm rfl
   rw[Zj]at h
   split at h
   · injection h with h;subst h;exact⟨ga,gn,hk⟩
   · rename_i p hp
     obtain⟨b,t1,h1,h2⟩:=Zl h
     obtain⟨g1,g2,g3⟩:=Zfp n false (lv+1) .nil ts.tail deep _ hdp hk.tail (fun _=>by omega) (fun h=>by cases h) h1
     simp only at g1 g2 g3
     obtain⟨e1,e2⟩:=ZvI hlv hp
     obtain⟨e3,e4⟩:=ZkJ e1 e2 ga g1
     refine Zfp n true lv _ t1 deep z hdp g3 (fun h=>by cases h) (fun _=>⟨hlv,e3,?_⟩) h2
     have g4:deep+nd b (lv+2)<=20:=g2
     rw[e4];omega
end Go.Proofs.YtcdgkkfipdoeeaaGreatDoor

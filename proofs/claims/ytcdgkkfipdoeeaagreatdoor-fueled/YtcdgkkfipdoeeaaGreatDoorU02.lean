/- Parts. -/
import Derived.Test.YtcdgkkfipdoeeaaGreatDoorU01
import Derived.Lib.SplitLaws
set_option linter.all false
set_option maxRecDepth 100000
set_option maxHeartbeats 16000000
namespace Go.Proofs.YtcdgkkfipdoeeaaGreatDoor.LS
open Go Go.RowKit
abbrev Cl:=VV ⊕ (Nd×Nat)
def ZcO:Cl->Nat
 | .inl (.inl _)=>1
 | .inl (.inr _)=>2
 | .inr (_,_)=>3
def ZE8:Cl->VV
 | .inl v=>v
 | .inr (_,_)=>.inr []
structure MQ where
 jz:List Cl
 jy:List (Option Cl)
def mq0:MQ:=⟨[],List.replicate 16 none⟩
def nd00:Nd×Nat:=(⟨0,0,0,[],[],[]⟩,0)
def Zdl(st:List Ser)(t:Int)(x:Nd×Nat):Cl:=if 0<x.2 then .inr (x.1,x.2)else .inl (.inr (Zc4 st x.1 none 10 t))
def doE(st:List Ser)(t:Int)(c:CodeQ)(x:Nat×Nat)(m:MQ):MQ:=match x.1 with
 | 0=>⟨.inl (.inl (c.jj.getD x.2 0))::m.jz,m.jy⟩
 | 1=>⟨Zdl st t (c.ju.getD x.2 nd00)::m.jz,m.jy⟩
 | 2 => match m.jz with
   | .inr (a,n)::r=>⟨.inl (.inr (Zc4 st a (some x.2) n t))::r,m.jy⟩
   | _=>m
 | 3 => match m.jz with
   | y::z::r=>⟨.inl (Zdg x.2 (ZE8 z) (ZE8 y))::r,m.jy⟩
   | _=>m
 | 4 => match m.jz with
   | y::r=>⟨.inl (negV (ZE8 y))::r,m.jy⟩
   | _=>m
 | 9=>m
 | 10=>m
 | 11=>⟨m.jz.tail,m.jy⟩
 | 12 => match m.jz with
   | y::r=>⟨r,m.jy.set x.2 (some y)⟩
   | _=>m
 | 13 => match m.jy.getD x.2 none with
   | some y=>⟨y::m.jz,m.jy⟩
   | none=>m
 | _ => match m.jz with
   | y::r=>⟨.inl (.inr (Zcv (x.1 - 5) (c.jw.getD x.2 []) (Zcm (ZE8 y))))::r,m.jy⟩
   | _=>m
def ZiG(m:MQ):Bool:=match m.jz with
 | y::_=>!(Zcm (ZE8 y)).isEmpty
 | []=>false
def Zbj(i:Nat)(x:Nat×Nat)(m:MQ):Nat:=if x.1=9 then x.2 else if x.1=10/\ZiG m=true then x.2 else i+1
def runE(st:List Ser)(t:Int)(c:CodeQ):Nat->Nat->MQ->Option (Nat×MQ)
 | f, i, m => if c.jq.length <= i then some (f, m) else match f with
   | 0=>none
   | f+1=>runE st t c f (Zbj i (c.jq.getD i (0,0)) m) (doE st t c (c.jq.getD i (0,0)) m)
def topE(m:MQ):VV:=match m.jz with
 | y::_=>ZE8 y
 | []=>.inr []
structure MetBy (b:Ah) (st sl:List Nat):Prop where
 qy:b.qy=true
 jz:b.qz=false->b.jz=st
 jy:∀j,b.jy.getD j 0≠0->sl.getD j 0=b.jy.getD j 0
theorem ZhT:∀(x y:List Nat) (j:Nat),(both x y).getD j 0≠0->x.getD j 0=(both x y).getD j 0/\y.getD j 0=(both x y).getD j 0
 | [],_,j,h=>by simp[both]at h
 | _::_,[],j,h=>by simp[both]at h
 | a :: x, b :: y, 0, h => by
   have e:(both (a::x) (b::y)).getD 0 0=if a=b then a else 0:=rfl
   simp_all
 | a::x,b::y,j+1,h=>ZhT x y j h
theorem Zq4{a:Ah}{st sl:List Nat}:MetBy (Zbi a st sl) st sl:=by
 unfold Zbi;by_cases c:a.qy
 ·rw[if_pos c];refine⟨rfl,fun h=>?_,fun j h=>(ZhT _ _ j h).2⟩
  simp_all
 constructor<;>simp_all
theorem MetBy.meet{b:Ah}{st sl:List Nat}(h:MetBy b st sl)(st2 sl2:List Nat):MetBy (Zbi b st2 sl2) st sl:=by
 unfold Zbi;rw[if_pos h.qy];refine⟨rfl,fun c=>?_,fun j d=>?_⟩
 ·have a:(b.qz || decide _)=false:=c;rw[Bool.or_eq_false_iff]at a;exact h.jz a.1
 ·have c:=(ZhT _ _ j d).1;have a:=h.jy j (by simp_all)
  simp_all
theorem Zh6(l:List Ah)(i s:Nat)(a:Ah):(l.set i a).getD s ah0=if i=s/\s<l.length then a else l.getD s ah0:=by
 rw[Yaa,Ya0];by_cases h:i=s
 ·subst h;by_cases c:i<l.length
  ·simp[c]
  ·simp[c,Yaa]
 simp_all
theorem MetBy.set{l:List Ah}{s:Nat}{st sl:List Nat}(h:MetBy (l.getD s ah0) st sl)(i:Nat)(st2 sl2:List Nat):MetBy ((l.set i (Zbi (l.getD i ah0) st2 sl2)).getD s ah0) st sl:=by
 rw[Zh6];split
 ·rename_i a;rw[a.1];exact h.meet _ _
 omega
theorem MetBy.goOn{l:List Ah}{s:Nat}{st sl:List Nat}(h:MetBy (l.getD s ah0) st sl)(x:Nat×Nat)(i:Nat)(st2 sl2:List Nat):MetBy ((goOn x i st2 sl2 l).getD s ah0) st sl:=by
 unfold LS.goOn;simp only;split
 ·split
  ·exact h.set _ _ _
  omega
 ·split
  ·exact(h.set _ _ _).set _ _ _
  ·exact h.set _ _ _
theorem ZpF(x:Nat×Nat)(i:Nat)(st sl:List Nat)(l:List Ah):(goOn x i st sl l).length=l.length:=by
 unfold goOn;simp only;split <;> split <;> simp
theorem Zwx{x:Nat×Nat}{i:Nat}{st sl:List Nat}{l:List Ah}(a:x.1≠9)(c:i+1<l.length):MetBy ((goOn x i st sl l).getD (i+1) ah0) st sl:=by
 unfold goOn;simp only;rw[if_neg a,Zh6,if_pos ⟨rfl,by split<;>simp_all⟩];exact Zq4
theorem Zww{x:Nat×Nat}{i:Nat}{st sl:List Nat}{l:List Ah}(c:ZcE x.1=true)(d:x.2<l.length):MetBy ((goOn x i st sl l).getD x.2 ah0) st sl:=by
 unfold goOn;simp only;rw[c]
 have a:MetBy ((l.set x.2 (Zbi (l.getD x.2 ah0) st sl)).getD x.2 ah0) st sl:=by
  rw[Zh6,if_pos ⟨rfl,d⟩];exact Zq4
 split
 ·exact a
 ·exact a.set _ _ _
def Fwd(c:CodeQ):Prop:=∀i,i<c.jq.length->Zy c i (c.jq.getD i (0,0))=true
theorem ZgM{c:CodeQ}{i:Nat}{x:Nat×Nat}(h:Zy c i x=true)(a:ZcE x.1=true):i<x.2/\x.2<=c.jq.length:=by
 obtain⟨op,arg⟩:=x;have d:op=9∨op=10:=by unfold ZcE at a;simpa using a
 rcases d with rfl|rfl <;> simpa [Zy] using h
theorem Zwy{c:CodeQ}{x:Nat×Nat}{i s:Nat}{st sl:List Nat}{l:List Ah}(e:Zy c i x=true)(f:s<=i):(goOn x i st sl l).getD s ah0=l.getD s ah0:=by
 unfold goOn;simp only
 have a:(if ZcE x.1=true then l.set x.2 (Zbi (l.getD x.2 ah0) st sl)else l).getD s ah0=l.getD s ah0:=by
  by_cases d:ZcE x.1=true
  ·rw[if_pos d,Zh6,if_neg (fun h=>by have:=(ZgM e d).1;omega)]
  ·simp_all
 split
 ·exact a
 ·rw[Zh6,if_neg (fun h=>by omega)];exact a
theorem Zrz{c:CodeQ} : ∀ {k:Nat} {l:List Ah} {m:Nat},Zbx c k=.ok (l,m)->l.length=c.jq.length+1
 | 0,l,m,h=>by injection h with h;injection h with h1 h2;subst h1;simp[ZeY]
 | k + 1, l, m, h => by
   unfold Zbx at h;cases a:Zbx c k with
   | error e=>simp_all
   | ok x=>
     rw[a]at h;simp only at h;have d:=Zrz a;unfold Zfx at h;simp only at h;split at h
     · split at h
       · cases h
       · split at h
         · cases h
         · injection h with h;injection h with h1 h2;subst h1;rw[ZpF,d]
     simp_all
theorem ZjV{c:CodeQ}{k:Nat}{l':List Ah}{m':Nat}(h:Zbx c (k+1)=.ok (l',m')):∃l m,Zbx c k=.ok (l,m)/\(((l.getD k ah0).qy=false/\l'=l)∨((l.getD k ah0).qy=true/\(l.getD k ah0).qz=false/\∃st sl,Zt c (c.jq.getD k (0,0)) (l.getD k ah0).jz (l.getD k ah0).jy=some (st,sl)/\l'=goOn (c.jq.getD k (0,0)) k st sl l)):=by
 unfold Zbx at h;cases a:Zbx c k with
 | error e=>simp_all
 | ok x=>
  rw[a]at h;simp only at h;refine⟨x.1,x.2,rfl,?_⟩;unfold Zfx at h;simp only at h;split at h
  ·rename_i d;split at h
   ·cases h
   ·rename_i g;split at h
    ·cases h
    ·rename_i s f;injection h with h;injection h with h1 h2;exact .inr ⟨d,by simp_all,s.1,s.2,f,h1.symm⟩
  simp_all
theorem ZmJ{c:CodeQ}{st sl:List Nat}{s:Nat}{k:Nat}{l:List Ah}{m:Nat}(a:Zbx c k=.ok (l,m))(e:MetBy (l.getD s ah0) st sl):∀(d:Nat) {l':List Ah} {m':Nat},Zbx c (k+d)=.ok (l',m')->MetBy (l'.getD s ah0) st sl
 | 0, l', m', h => by
   simp_all
 | d + 1, l', m', h => by
   obtain⟨l1,m1,f,g⟩:=ZjV (k:=k+d) h;have ih:=ZmJ a e d f;rcases g with ⟨_,rfl⟩|⟨_,_,st2,sl2,_,rfl⟩
   · exact ih
   · exact ih.goOn _ _ _ _
theorem ZmK{c:CodeQ}(a:Fwd c){s k:Nat}{l:List Ah}{m:Nat}(e:s<=k)(f:Zbx c k=.ok (l,m)):∀(d:Nat) {l':List Ah} {m':Nat},k+d<=c.jq.length->Zbx c (k+d)=.ok (l',m')->l'.getD s ah0=l.getD s ah0
 | 0, l', m', _, h => by
   simp_all
 | d + 1, l', m', hd, h => by
   obtain⟨l1,m1,g,i⟩:=ZjV (k:=k+d) h;have ih:=ZmK a e f d Om g;rcases i with ⟨_,rfl⟩|⟨_,_,st2,sl2,_,rfl⟩
   · exact ih
   · rw[Zwy (a _ Om) Om];exact ih
theorem ZrA{c:CodeQ} : ∀(d:Nat) {k:Nat} {l':List Ah} {m':Nat},Zbx c (k+d)=.ok (l',m')->∃l m,Zbx c k=.ok (l,m)
 | 0,k,l',m',h=>⟨l',m',h⟩
 | d + 1, k, l', m', h => by
   obtain⟨l1,m1,a,_⟩:=ZjV (k:=k+d) h;exact ZrA d a
structure Flow (c:CodeQ) (L:List Ah):Prop where
 fwd:Fwd c
 first:L.getD 0 ah0=⟨true,false,[],List.replicate 16 0⟩
 step:∀i,i<c.jq.length->(L.getD i ah0).qy=true->(L.getD i ah0).qz=false/\∃st sl,Zt c (c.jq.getD i (0,0)) (L.getD i ah0).jz (L.getD i ah0).jy=some (st,sl)/\((c.jq.getD i (0,0)).1≠9->MetBy (L.getD (i+1) ah0) st sl)/\(ZcE (c.jq.getD i (0,0)).1=true->MetBy (L.getD (c.jq.getD i (0,0)).2 ah0) st sl)
 last:(L.getD c.jq.length ah0).qz=false/\((L.getD c.jq.length ah0).jz=[1]∨(L.getD c.jq.length ah0).jz=[2])
theorem ZrP{c:CodeQ} : ∀ {n:Nat},Zcp c n=.ok ()->∀i,i<n->Zy c i (c.jq.getD i (0,0))=true
 | 0,_,i,a=>absurd a (Ya1 _)
 | n + 1, h, i, a => by
   unfold Zcp at h;cases d:Zcp c n with
   | error e=>simp_all
   | ok u=>
     rw[d]at h;simp only at h;by_cases e:i=n
     · simp_all
     · exact ZrP d i Om
theorem ZD0{c:CodeQ}{x:Nat×Nat}(h:ZcT c=.ok x):∃L,Flow c L:=by
 unfold ZcT at h;cases j:Zcp c c.jq.length with
 | error e=>rw[j]at h;cases h
 | ok u=>
  rw[j]at h;simp only at h;have f:Fwd c:=ZrP j;cases a:Zdj c with
  | error e=>rw[a]at h;cases h
  | ok m=>
   unfold Zdj at a;cases l:Zbx c c.jq.length with
   | error e=>rw[l]at a;cases a
   | ok y=>
    rw[l]at a;simp only at a;obtain⟨L,mo⟩:=y;simp only at a
    have d:Zd1 (L.getD c.jq.length ah0)=true:=by
     cases r:Zd1 (L.getD c.jq.length ah0)with
     | true=>rfl
     | false=>rw[r]at a;cases a
    unfold Zd1 at d;rw[Yas]at d;refine⟨L,f,?_,fun i t n=>?_,by simpa using d.1,?_⟩
    ·have:=ZmK f (s:=0) (Yac _) rfl c.jq.length Om (by rwa [Ycf]);rw[this];rfl
    ·obtain⟨l1,m1,k⟩:=ZrA _ (by rwa [show i+1+(c.jq.length - (i+1))=c.jq.length by omega]);obtain⟨l0,m0,o,g⟩:=ZjV k;have e0:=ZmK f (Yac i) o (c.jq.length - i) Om (by rwa [show i+(c.jq.length - i)=c.jq.length by omega]);rw[e0]at n ⊢;rcases g with ⟨p,_⟩|⟨_,v,st,sl,w,rfl⟩
     ·rw[n]at p;cases p
     ·have A:=Zrz o;refine⟨v,st,sl,w,fun z=>?_,fun q=>?_⟩
      ·exact ZmJ k (Zwx z Om) _ (by rwa [show i+1+(c.jq.length - (i+1))=c.jq.length by omega])
      ·exact ZmJ k (Zww q (by have:=(ZgM (f i t) q).2;omega)) _ (by rwa [show i+1+(c.jq.length - (i+1))=c.jq.length by omega])
    ·simpa using d.2
def ClOk(n:Nat):Cl->Prop
 | .inl v=>VOk n v
 | .inr (_,_)=>True
structure Typd (n:Nat) (st sl:List Nat) (m:MQ):Prop where
 jz:m.jz.map ZcO=st
 len:m.jy.length=16
 jy:∀j,sl.getD j 0≠0->∃y,m.jy.getD j none=some y/\ZcO y=sl.getD j 0
 ok:∀y∈m.jz,ClOk n y
 okS:∀j y,m.jy.getD j none=some y->ClOk n y
theorem ZDD(n:Nat):Typd n [] (List.replicate 16 0) mq0:=by
 refine⟨rfl,rfl,fun j h=>?_,(fun y a=>(by cases a)),fun j y a=>?_⟩
 ·exfalso;apply h;rw[Yaa,Ybs];split <;> rfl
 ·exfalso
  have d:(List.replicate 16 (none:Option Cl)).getD j none=none:=by rw[Yaa,Ybs];split <;> rfl
  have c:=a;unfold mq0 at c
  simp_all
theorem Typd.met{n:Nat}{st sl:List Nat}{m:MQ}{b:Ah}(h:Typd n st sl m)(a:MetBy b st sl)(c:b.qz=false):Typd n b.jz b.jy m:=
 ⟨by rw [a.jz c]; exact h.jz, h.len, fun j d => by
   have e:=a.jy j d;obtain⟨y,f,g⟩:=h.jy j Om
   simp_all,h.ok,h.okS⟩
theorem Typd.push{n:Nat}{r sl st' sl':List Nat}{rs:List Cl}{ss:List (Option Cl)}{y:Cl}{k:Nat}(h:Typd n r sl ⟨rs,ss⟩)(d:ZcO y=k)(e:ClOk n y)(a:ZE k r sl=some (st',sl')):Typd n st' sl' ⟨y::rs,ss⟩:=by
 unfold ZE at a;split at a
 ·cases a
 ·injection a with a;injection a with e1 e2;subst e1 e2;refine⟨?_,h.len,h.jy,fun z c=>?_,h.okS⟩
  ·show ZcO y::rs.map ZcO=k::r;rw[d,h.jz]
  ·rcases Yau.1 c with rfl|c
   ·exact e
   ·exact h.ok z c
theorem Typd.pop{n k:Nat}{r sl:List Nat}{m:MQ}(h:Typd n (k::r) sl m):∃y rs,m.jz=y::rs/\ZcO y=k/\ClOk n y/\Typd n r sl ⟨rs,m.jy⟩:=by
 have a:=h.jz;cases d:m.jz with
 | nil=>simp_all
 | cons y rs=>
  rw[d]at a;have c:ZcO y::rs.map _=k::r:=a;injection c with h1 h2;exact⟨y,rs,rfl,h1,h.ok y (by simp_all),⟨h2,h.len,h.jy,fun z e=>h.ok z (by simp_all),h.okS⟩⟩
theorem Zet{y:Cl}(h:ZcO y=2):∃l,y=.inl (.inr l):=by
 rcases y with (a|l)|⟨a,n⟩
 ·cases h
 ·simp
 ·cases h
theorem Zqj{y:Cl}(h:ZcO y=3):∃a n,y=.inr (a,n):=by
 rcases y with (a|l)|⟨a,n⟩
 ·cases h
 ·cases h
 simp
theorem Zgl{y:Cl}(h:Zby (ZcO y)=true):∃v,y=.inl v:=by
 rcases y with v|⟨a,n⟩
 ·simp
 ·cases h
theorem Zxz{op:Nat}{a b:VV}:ZcO (.inl (Zdg op a b))=max (ZcO (.inl a)) (ZcO (.inl b)):=by
 cases a <;> cases b <;> rfl
theorem ZxA{a:VV}:ZcO (.inl (negV a))=ZcO (.inl a):=by cases a <;> rfl
theorem Typd.same{n:Nat}{st sl:List Nat}{m:MQ}(h:Typd n st sl m){r:List Nat}{k:Nat}{st' sl':List Nat}(c:st=k::r)(a:ZE k r sl=some (st',sl')):Typd n st' sl' m:=by
 unfold ZE at a
 simp_all
theorem Typd.step{ser:List Ser}{c:CodeQ}{i op arg:Nat}{st sl st' sl':List Nat}{m:MQ}(h:Typd ser.length st sl m)(hd:Dst ser)(t:Int)(K:op<=13)(D:Zy c i (op,arg)=true)(d:Zt c (op,arg) st sl=some (st',sl')):Typd ser.length st' sl' (doE ser t c (op,arg) m):=by
 rcases(by omega:op=0∨op=1∨op=2∨op=3∨op=4∨op=9∨op=10∨op=11∨op=12∨op=13∨(op=5∨op=6∨op=7∨op=8))with rfl|rfl|rfl|rfl|rfl|rfl|rfl|rfl|rfl|rfl|B
 ·exact Typd.push (rs:=m.jz) (ss:=m.jy) h rfl trivial d
 ·have E:arg<c.ju.length:=by simpa [Zy] using D
  have e1:c.ju[arg]?=some c.ju[arg]:=List.getElem?_eq_getElem E;have e2:c.ju.getD arg nd00=c.ju[arg]:=by rw[Yaa,e1];rfl
  have u:ZE ((c.ju[arg]?.map Zb3).getD 0) st sl=some (st',sl'):=d;rw[e1]at u;show Typd ser.length st' sl' ⟨Zdl ser t (c.ju.getD arg nd00)::m.jz,m.jy⟩;rw[e2];refine Typd.push (rs:=m.jz) (ss:=m.jy) h ?_ ?_ u
  ·show ZcO (Zdl ser t c.ju[arg])=Zb3 c.ju[arg];unfold Zdl Zb3;split <;> rfl
  ·unfold Zdl;split
   ·trivial
   ·exact Zkx hd _
 ·cases st with
  | nil=>cases d
  | cons k r=>
   simp only[Zt]at d;split at d
   ·rename_i p;subst p;obtain⟨y,rs,q,f,g,o⟩:=h.pop;obtain⟨a,n,rfl⟩:=Zqj f;simp only[doE,q];exact Typd.push o rfl (Zkx hd _) d
   simp_all
 ·cases st with
  | nil=>cases d
  | cons ky r=>
   cases r with
   | nil=>cases d
   | cons kz r=>
    simp only[Zt]at d;split at d
    ·rename_i p;rw[Yas]at p;obtain⟨y,rs,q,f,g,o⟩:=h.pop;obtain⟨z,qs,w,A,F,G⟩:=o.pop;have w:rs=z::qs:=w;subst w;obtain⟨vy,rfl⟩:=Zgl (by rw[f];exact p.2);obtain⟨vz,rfl⟩:=Zgl (by rw[A];exact p.1);simp only[doE,q];refine Typd.push G ?_ (ZnT F g) d;rw[<-f,<-A];exact Zxz
    simp_all
 ·cases st with
  | nil=>cases d
  | cons ky r=>
   simp only[Zt]at d;split at d
   ·rename_i p;obtain⟨y,rs,q,f,g,o⟩:=h.pop;obtain⟨vy,rfl⟩:=Zgl (by rw[f];exact p);simp only[doE,q];refine Typd.push o ?_ (Zrc g) d;rw[<-f];exact ZxA
   simp_all
 ·injection d with d;injection d with e1 e2;subst e1 e2;exact h
 ·cases st with
  | nil=>cases d
  | cons k r=>
   simp only[Zt]at d;split at d
   ·rename_i p;subst p;exact h.same rfl d
   simp_all
 ·cases st with
  | nil=>cases d
  | cons k r=>
   injection d with d;injection d with e1 e2;subst e1 e2;obtain⟨y,rs,q,f,g,o⟩:=h.pop;simp only[doE,q];exact o
 ·cases st with
  | nil=>cases d
  | cons k r=>
   injection d with d;injection d with e1 e2;subst e1 e2;obtain⟨y,rs,q,f,g,o⟩:=h.pop;have E:arg<16:=by simpa [Zy] using D
   simp only[doE,q];have L:m.jy.length=16:=h.len
   have gs : ∀ j, (m.jy.set arg (some y)).getD j none = if arg = j then some y else m.jy.getD j none := fun j => by
     split<;>simp_all
   refine⟨o.jz,by simp_all,fun j H=>?_,o.ok,fun j z A=>?_⟩
   ·show ∃z,(m.jy.set arg (some y)).getD j none=some z/\_;rw[gs]
    have e2:(sl.set arg k).getD j 0=if arg=j/\j<sl.length then k else sl.getD j 0:=by
     rw[Yaa,Ya0,Yaa];by_cases e:arg=j
     ·subst e;by_cases s:arg<sl.length
      ·simp[s]
      simp_all
     ·simp[e]
    have s:(sl.set arg k).getD j 0≠0:=H;rw[e2]at s;show ∃z,_/\ZcO z=(sl.set arg k).getD j 0;rw[e2];by_cases e:arg=j
    ·simp_all
    ·rw[if_neg e,if_neg (fun C=>e C.1)];rw[if_neg (fun C=>e C.1)]at s;exact h.jy j s
   ·have x:(m.jy.set arg (some y)).getD j none=some z:=A;rw[gs]at x;by_cases e:arg=j
    ·simp_all
    ·rw[if_neg e]at x;exact h.okS j z x
 ·simp only[Zt]at d;split at d
  ·cases d
  ·rename_i I;obtain⟨y,f,p⟩:=h.jy arg I;simp only[doE,f];exact Typd.push (rs:=m.jz) (ss:=m.jy) h p (h.okS arg y f) d
 ·have key:∃r,st=2::r/\ZE 2 r sl=some (st',sl'):=by
   cases st with
   | nil=>rcases B with rfl|rfl|rfl|rfl <;> cases d
   | cons k r=>
    have u:(if k=2 then ZE 2 r sl else none)=some (st',sl'):=by rcases B with rfl|rfl|rfl|rfl <;> exact d
    simp_all
  obtain⟨r,rfl,J⟩:=key;obtain⟨y,rs,q,f,g,o⟩:=h.pop;obtain⟨l,rfl⟩:=Zet f
  have e:doE ser t c (op,arg) m=⟨.inl (.inr (Zcv (op - 5) (c.jw.getD arg []) l))::rs,m.jy⟩:=by
   rcases B with rfl|rfl|rfl|rfl <;> (simp only[doE,q];rfl)
  rw[e];exact Typd.push o rfl (ZpK (ZoS (v:=.inr l) g)) J
theorem Flow.calm{c:CodeQ}{L:List Ah}(h:Flow c L){s:Nat}(d:s<=c.jq.length)(a:(L.getD s ah0).qy=true):(L.getD s ah0).qz=false:=by
 by_cases e:s=c.jq.length
 ·rw[e];exact h.last.1
 ·exact(h.step s Om a).1
theorem Flow.next{c:CodeQ}{L:List Ah}{ser:List Ser}(h:Flow c L)(hd:Dst ser)(t:Int){i:Nat}{m:MQ}(k:i<c.jq.length)(e:(c.jq.getD i (0,0)).1<=13)(p:(L.getD i ah0).qy=true)(q:Typd ser.length (L.getD i ah0).jz (L.getD i ah0).jy m) :
  i<Zbj i (c.jq.getD i (0,0)) m/\Zbj i (c.jq.getD i (0,0)) m<=c.jq.length/\(L.getD (Zbj i (c.jq.getD i (0,0)) m) ah0).qy=true/\Typd ser.length (L.getD (Zbj i (c.jq.getD i (0,0)) m) ah0).jz (L.getD (Zbj i (c.jq.getD i (0,0)) m) ah0).jy (doE ser t c (c.jq.getD i (0,0)) m):=by
 obtain⟨_,st,sl,r,l,u⟩:=h.step i k p;have f:=h.fwd i k;generalize c.jq.getD i (0,0)=x at *
 obtain⟨op,arg⟩:=x;simp only at e l u;have n:=q.step hd t e f r;have fin:∀s,s<=c.jq.length->MetBy _ _ _->(L.getD s _).qy=true/\Typd _ _ _ _:=fun s o g=>⟨g.qy,n.met g (h.calm o g.qy)⟩
 unfold Zbj;simp only;by_cases d:op=9
 ·rw[if_pos d];have j:ZcE op=true:=by rw[d];rfl
  have v:=ZgM f j
  simp_all
 ·rw[if_neg d];by_cases a:op=10/\ZiG m=true
  ·rw[if_pos a];have j:ZcE op=true:=by rw[a.1];rfl
   have v:=ZgM f j
   simp_all
  ·rw[if_neg a];exact⟨by omega,by omega,fin _ Om (l d)⟩
theorem Flow.end_{c:CodeQ}{L:List Ah}{n:Nat}(h:Flow c L){m:MQ}(d:Typd n (L.getD c.jq.length ah0).jz (L.getD c.jq.length ah0).jy m):∃v,m.jz=[.inl v]/\VOk n v:=by
 have key : ∀ k, (L.getD c.jq.length ah0).jz = [k] -> k = 1 ∨ k = 2 -> ∃ v, m.jz = [.inl v] /\ VOk n v := fun k f e => by
   rw[f]at d;obtain⟨y,rs,g,i,j,l⟩:=d.pop
   have o:rs=[]:=by
     have:=l.jz;cases rs with
     | nil=>rfl
     | cons a b=>cases this
   subst o;obtain⟨v,rfl⟩:=Zgl (y:=y) (by rw[i];rcases e with rfl|rfl <;> rfl);exact⟨v,g,j⟩
 rcases h.last.2 with p|p
 ·simp_all
 simp_all
theorem Flow.start{c:CodeQ}{L:List Ah}(h:Flow c L)(n:Nat):(L.getD 0 ah0).qy=true/\Typd n (L.getD 0 ah0).jz (L.getD 0 ah0).jy mq0:=by
 rw[h.first];exact⟨rfl,ZDD n⟩
end Go.Proofs.YtcdgkkfipdoeeaaGreatDoor.LS
namespace Go.Proofs.YtcdgkkfipdoeeaaGreatDoor
open Go.RowKit LS Go.Proofs.Tryz
theorem ZjC(l:LB)(a:l.length<=300):∀(n i:Nat),tw (ZN l n i)<=332*(ZN l n i).length
 | 0,_=>Yac _
 | n + 1, i => by
   have c:=Zyb l i;have d:=ZjC l a n (Zk l i).2;unfold ZN;split
   · simp[tw];omega
   · simp[tw];omega
theorem Zy5(a b:Int)(a1 : -1000000000<=a)(a2:a<=1000000000)(b1 : -1000000000<=b)(b2:b<=1000000000):(a*b).natAbs<=1000000000000000000:=by
 rw[Int.natAbs_mul];have c:a.natAbs<=1000000000:=by omega
 have d:b.natAbs<=1000000000:=by omega
 exact Nat.mul_le_mul c d
theorem ZDy(a b:Int):twoV 0 a b=cutV (a+b):=by simp[twoV]
theorem ZDz(a b:Int):twoV 1 a b=cutV (a - b):=by simp[twoV]
theorem ZDA(a b:Int):twoV 2 a b=cutV (a*b):=by simp[twoV]
theorem ZDC(a:Int):twoV 3 a 0=0:=by simp[twoV]
theorem ZDB(a b:Int)(h:b≠0):twoV 3 a b=a.tdiv b:=by simp[twoV,h]
def vOk(n:Int):Prop:=-1000000000<=n/\n<=1000000000
theorem ZyW(m:Int)(l:List Int)(x:Int):maxL m (l++[x])=if maxL m l<x then x else maxL m l:=by
 induction l generalizing m with
 | nil=>rfl
 | cons a l ih=>exact ih _
theorem Zy1(m:Int)(l:List Int)(x:Int):minL m (l++[x])=if x<minL m l then x else minL m l:=by
 induction l generalizing m with
 | nil=>rfl
 | cons a l ih=>exact ih _
theorem ZhY{n:Int}:vOk (cutV n):=by unfold vOk cutV;split <;> (try split) <;> omega
theorem Zhj(op:Nat)(a b:Int)(c:vOk a):vOk (twoV op a b):=by
 unfold twoV;split
 ·exact ZhY
 split
 ·exact ZhY
 split
 ·exact ZhY
 split
 ·unfold vOk;omega
 ·unfold vOk at *
  have d:(a.tdiv b).natAbs<=a.natAbs:=by rw[Yff];exact Yfg _ _
  omega
def Zhi(l s:Int):Nat->Int->List Int->Option (List Int)
 | 0,_,_=>none
 | n+1,t,acc=>if t<=l then (if acc.length=50 then none else Zhi l s n (t+s) (acc++[t]))else some acc
abbrev badT (f l s:Int):Prop:=f < -1000000∨1000000<f∨l < -1000000∨1000000<l∨s<1∨1000000<s∨l<f
def Zdr(f l s:Int):Option (List Int):=if badT f l s then none else Zhi l s 60 f []
def cnt(l s t:Int):Nat:=if t<=l then ((l - t) / s).toNat+1 else 0
theorem Zoi(l s t:Int)(c:1<=s)(h:t<=l):cnt l s t=cnt l s (t+s)+1:=by
 unfold cnt;rw[if_pos h];by_cases a:t+s<=l
 ·rw[if_pos a]
  have e:(l - t) / s=(l - (t+s)) / s+1:=by
   rw[show l - t=(l - (t+s))+1*s by omega,Int.add_mul_ediv_right _ _ Om]
  have d:0<=(l - (t+s)) / s:=Int.ediv_nonneg Om Om;rw[e];omega
 ·rw[if_neg a];have e:(l - t) / s=0:=Int.ediv_eq_zero_of_lt Om Om;rw[e];rfl
theorem ZsM (l s : Int) (c : 1 <= s) : ∀ (n : Nat) (t : Int) (acc : List Int), acc.length + cnt l s t <= 50 -> cnt l s t < n -> Zhi l s n t acc = some (acc ++ (List.range (cnt l s t)).map fun (i : Nat) => t + (i : Int) * s)
  | 0,_,_,_,h=>absurd h (Ya1 _)
  | n + 1, t, acc, d, e => by
    rw[Zhi];by_cases h:t<=l
    · have a:=Zoi l s t c h
      rw[if_pos h,if_neg Om,ZsM l s c n _ _ (by rw[Yab,Ybj];omega) Om,a,List.range_succ_eq_map,Ybb,Yb1,Yan]
      congr 2
      rw[Yd6]
      congr 1
      · simp
      · refine Ycb (fun i _=>?_)
        simp only[Function.comp];rw[show((Nat.succ i):Int)=(i)+1 from rfl,Int.add_mul];omega
    · have a:cnt l s t=0:=by unfold cnt;rw[if_neg h]
      rw[if_neg h,a];simp
theorem ZsL(l s:Int)(a:1<=s):∀(n:Nat) (t:Int) (acc:List Int),50<acc.length+cnt l s t->acc.length<=50->50 - acc.length<n->Zhi l s n t acc=none
 | 0,_,_,_,_,h=>absurd h (Ya1 _)
 | n + 1, t, acc, e, f, g => by
   rw[Zhi];by_cases h:t<=l
   · have d:=Zoi l s t a h
     rw[if_pos h];by_cases c:acc.length=50
     · rw[if_pos c]
     · rw[if_neg c]
       exact ZsL l s a n _ _ (by rw[Yab,Ybj];omega) (by rw[Yab,Ybj];omega) (by rw[Yab,Ybj];omega)
   · have d:cnt l s t=0:=by unfold cnt;rw[if_neg h]
     omega
theorem ZsN {f l s : Int} (h : ¬ badT f l s) : Zdr f l s = if 50 < cnt l s f then none else some ((List.range (cnt l s f)).map fun (i : Nat) => f + (i : Int) * s) := by
  have a:1<=s:=by unfold badT at h;omega
  unfold Zdr;rw[if_neg h];split
  · rename_i c
    exact ZsL l s a _ f _ (by simpa using c) (by simp) (by simp)
  · rename_i c
    rw[ZsM l s a _ f _ (by simp;omega) Om];rfl
end Go.Proofs.YtcdgkkfipdoeeaaGreatDoor
namespace Go.Proofs.YtcdgkkfipdoeeaaGreatDoor.LS
open Go Go.RowKit
theorem ZBj{l:LB}{t:Tr}(h:ZD l=.ok t):wfT t/\isNil t=false/\wT t<=100000:=by
 unfold ZD at h;by_cases c:300<l.length
 ·simp_all
 ·rw[if_neg c]at h;have f:=ZjB l (l.length+1) 0 (Yag _);have g:=ZjC l Om (l.length+1) 0;cases a:Zs (10*(ZN l (l.length+1) 0).length+5) false 0 .nil (ZN l (l.length+1) 0) 0 with
  | error e=>simp_all
  | ok z=>
   obtain⟨t',r⟩:=z;rw[a]at h;have i:=Zfv _ _ _ _ _ _ _ (fun e=>by cases e) a;simp only at h;by_cases d:(hd r).jk=0
   ·rw[if_pos d]at h;by_cases j:Zf t'=0
    ·simp_all
    simp_all;omega
   simp_all
structure CodeB (c:CodeQ):Prop where
 cs:∀x∈c.jj,vOk x
 ps:∀x∈c.ju,x.2<=1000/\x.1.ku.length<=100000
 gs:∀x∈c.jw,x.length<=70000
theorem Zge{α:Type}{one:Nat->RdR α}{p:Nat} : ∀ {k:Nat} {xs:List α} {q:Nat},many one p k=.ok (xs,q)->∀x∈xs,∃a b,one a=.ok (x,b)
 | 0,xs,q,h,x,c=>by injection h with h;simp_all
 | k + 1, xs, q, h, x, c => by
   unfold many at h;cases d:many one p k with
   | error e=>simp_all
   | ok y=>
     rw[d]at h;simp only at h;cases f:one y.2 with
     | error e=>simp_all
     | ok z=>
       rw[f]at h;injection h with h;injection h with h1 h2;subst h1;rcases Yar.1 c with c|c
       · exact Zge (d) x c
       · rw[Yap]at c;subst c;exact⟨_,_,f⟩
theorem Zvf{l:LB}{a b:Nat}{x:Int}(h:ZbW l a=.ok (x,b)):vOk x:=by
 unfold ZbW at h;split at h
 ·cases h
 ·split at h
  ·cases h
  constructor<;>simp_all
theorem ZDc{l:LB}{p q:Nat}{t:LB}(h:ZcH l p=.ok (t,q)):t.length<=65535:=by
 unfold ZcH at h;split at h
 ·cases h
 ·rename_i y a
  have d:y.1<65536:=by
   unfold Zbr at a;split at a
   ·cases a
   ·rename_i z c;cases a;have:=(Zhh c).2.1;exact ZhM (n:=2) (by rw[this];unfold sub;simp_all;omega)
  have:=(Zhh h).2.1;simp only at this;rw[this];unfold sub;simp_all;omega
theorem ZoH:∀l:List (LB×LB×Bool),l.length<=cw l
 | []=>Yac _
 | c::l=>by have:=ZoH l;simp only[cw,Yaj];omega
theorem Zr9{l:LB}{a:Nd}(h:selQ l=some a):a.ku.length<=100000:=by
 unfold selQ at h;split at h
 ·rename_i x y b p q c;split at h
  ·injection h with h;subst h;have d:=(ZBj c).2.2;have e:=ZoH b.ku;simp only[wT,ownW]at d;omega
  ·cases h
 ·cases h
theorem ZAD{t:LB}{x:Nd×Nat}(h:ZbA t=some x):x.2<=1000/\x.1.ku.length<=100000:=by
 unfold ZbA at h;split at h
 ·cases c:selQ t with
  | none=>simp_all
  | some a=>rw[c]at h;cases h;exact⟨by simp,Zr9 c⟩
 ·rename_i p _;split at h
  ·split at h
   ·rename_i n d;split at h
    ·cases h
    ·cases c:selQ (t.take p)with
     | none=>simp_all
     | some a=>rw[c]at h;cases h;exact⟨Zgh d,Zr9 c⟩
   ·cases h
  ·cases h
theorem ZwF{t:LB}{x:List (LB)}(h:ZcG t=some x)(a:t.length<=65535):x.length<=70000:=by
 unfold ZcG at h;split at h
 ·simp_all
 ·split at h
  ·cases h;have:=Zhd 44 t;omega
  ·cases h
theorem Zvq{l:LB}{c:CodeQ}(h:Zb7 l=.ok c):CodeB c:=by
 unfold Zb7 at h;split at h
 ·cases h
 ·split at h
  ·cases h
  ·rename_i cs g;split at h
   ·cases h
   ·rename_i ps i;split at h
    ·cases h
    ·rename_i gs j;split at h
     ·cases h
     ·split at h
      ·cases h
      ·split at h
       ·cases h
       ·split at h
        ·cases h
        ·cases h;refine⟨fun x e=>?_,fun x e=>?_,fun x e=>?_⟩
         ·obtain⟨a,b,d⟩:=Zge (xs:=cs.1) (q:=cs.2) g x e;exact Zvf d
         ·obtain⟨a,b,d⟩:=Zge (xs:=ps.1) (q:=ps.2) i x e;unfold Zb4 at d;split at d
          ·cases d
          ·split at d
           ·cases d
           ·rename_i y f;injection d with d;injection d with h2 h3;subst h2;exact ZAD f
         ·obtain⟨a,b,d⟩:=Zge (xs:=gs.1) (q:=gs.2) j x e;unfold ZbX at d;split at d
          ·cases d
          ·rename_i z k;split at d
           ·cases d
           ·rename_i y f;injection d with d;injection d with h2 h3;subst h2;exact ZwF f (ZDc k)
theorem Zgn{k:Nat}{st sl:List Nat}{x:List Nat×List Nat}(h:ZE k st sl=some x)(a:st.length<=64):x.1.length<=64:=by
 unfold ZE at h;split at h
 ·cases h
 ·cases h;simp_all;omega
theorem ZCN{c:CodeQ}{x:Nat×Nat}{st sl:List Nat}{y:List Nat×List Nat}(h:Zt c x st sl=some y)(a:st.length<=64):y.1.length<=64:=by
 unfold Zt at h;split at h
 ·exact Zgn h a
 ·exact Zgn h a
 ·split at h
  ·split at h
   ·exact Zgn h (by simp_all;omega)
   ·cases h
  ·cases h
 ·split at h
  ·split at h
   ·exact Zgn h (by simp_all;omega)
   ·cases h
  ·cases h
 ·split at h
  ·split at h
   ·exact Zgn h (by simp_all;omega)
   ·cases h
  ·cases h
 ·cases h;exact a
 ·split at h
  ·cases h;simp_all;omega
  ·cases h
 ·split at h
  ·cases h;simp_all;omega
  ·cases h
 ·split at h
  ·cases h
  ·exact Zgn h a
 ·split at h
  ·split at h
   ·exact Zgn h (by simp_all;omega)
   ·cases h
  ·cases h
theorem Flow.len{c:CodeQ}{L:List Ah}{ser:List Ser}(h:Flow c L)(hd:Dst ser)(t:Int){i:Nat}{m:MQ}(d:i<c.jq.length)(e:(c.jq.getD i (0,0)).1<=13)(j:(L.getD i ah0).qy=true)(f:Typd ser.length (L.getD i ah0).jz (L.getD i ah0).jy m)(o:m.jz.length<=64) :
  (doE ser t c (c.jq.getD i (0,0)) m).jz.length<=64:=by
 obtain⟨_,st,sl,g,_,_⟩:=h.step i d j;have k:=h.fwd i d;generalize c.jq.getD i (0,0)=x at *
 obtain⟨op,arg⟩:=x;have l:=(f.step hd t e k g).jz;have n:(L.getD i ah0).jz.length<=64:=by rwa [<-f.jz,Yak]
 have a:=ZCN g n;simp only at a;rw[<-l,Yak]at a;exact a
def ZbO(st:List Ser)(c:CodeQ):Nat->List Int->Option (List (LB)×Nat)
 | f,[]=>some ([],f)
 | f, t :: ts => match runE st t c f 0 mq0 with
   | none=>none
   | some x => match ZbO st c x.1 ts with
     | none=>none
     | some y=>some (Zel t (topE x.2)::y.1,y.2)
theorem Znq{st:List Ser}(c:CodeQ)(t:Int):∀(ts:List Int) (f:Nat),ZbO st c f (ts++[t])=match ZbO st c f ts with
  | none=>none
  | some y => match runE st t c y.2 0 mq0 with
    | none=>none
    | some x=>some (y.1++[Zel t (topE x.2)],x.1)
 | [], f => by
   rfl
 | u :: ts, f => by
   simp only[Yby,ZbO];cases runE st u c f 0 mq0 with
   | none=>rfl
   | some x=>
     simp only;rw[Znq c t _ _];cases ZbO st c x.1 ts with
     | none=>rfl
     | some y=>
       simp only;cases runE st t c y.2 0 mq0 <;> rfl
theorem ZsK{st:List Ser}(c:CodeQ){f:Nat} : ∀(us ts:List Int),ZbO st c f ts=none->ZbO st c f (ts++us)=none
 | [],ts,h=>by simp_all
 | u :: us, ts, h => by
   have a:ZbO st c f (ts++[u])=none:=by rw[Znq,h]
   have:=ZsK c us _ a
   simp_all
theorem ZDe{st:List Ser}{c:CodeQ}{f k:Nat}{ts:List Int}(h:ZbO st c f (ts.take k)=none):ZbO st c f ts=none:=by
 have:=ZsK c (ts.drop k) _ h
 simp_all
theorem Zg5{st:List Ser}{t:Int}{c:CodeQ}{f i:Nat}{m:MQ}(h:c.jq.length<=i):runE st t c f i m=some (f,m):=by
 unfold runE;simp_all
theorem ZBC{st:List Ser}{t:Int}{c:CodeQ}{i:Nat}{m:MQ}(h:i<c.jq.length):runE st t c 0 i m=none:=by
 unfold runE;simp_all
theorem Zj4(st:List Ser)(t:Int){c:CodeQ}(f i:Nat)(m:MQ)(h:i<c.jq.length):runE st t c (f+1) i m=runE st t c f (Zbj i (c.jq.getD i (0,0)) m) (doE st t c (c.jq.getD i (0,0)) m):=by
 conv=>lhs;unfold runE
 simp_all;omega
theorem ZmX{k:Nat}{st sl:List Nat}{x:List Nat×List Nat}(h:ZE k st sl=some x):st.length≠64:=by
 unfold ZE at h
 simp_all
theorem ZpA{α:Type}{l:List α}{i:Nat}{d:α}(h:i<l.length):l.getD i d∈l:=by
 simp_all
theorem VOk.more{n k:Nat}(a:n<=k):∀ {V:VV},VOk n V->VOk k V
 | .inl _,_=>trivial
 | .inr _,h=>⟨h.1,Yah h.2 a⟩
theorem Zjj (c : UInt8) (l : LB) : Lib.index l [c] = match seek c l with | none => -1 | some i => (i : Int) := by
  induction l with
  | nil=>rfl
  | cons b l ih=>
    unfold Lib.index seek;by_cases a:b=c
    · simp_all
    · have d:[c].isPrefixOf (b::l)=false:=by simp[List.isPrefixOf,Ycp a]
      have e:(b == c)=false:=by simp[a]
      rw[if_neg (by simp[d]),ih,e];split<;>simp_all
theorem Zyn{c:UInt8}{l x y:LB}(h:cut c l=some (x,y)):Lib.cut l [c]=(x,y,true):=by
 unfold cut at h;cases a:seek c l with
 | none=>simp_all
 | some i=>
  rw[a]at h;simp only[Ybf,Yci,Yc5]at h;unfold Lib.cut;rw[Zjj,a]
  simp_all
theorem Zym{c:UInt8}{l:LB}(h:cut c l=none):Lib.cut l [c]=(l,[],false):=by
 unfold cut at h;cases a:seek c l with
 | some i=>simp_all
 | none=>
  unfold Lib.cut;rw[Zjj,a];rfl
theorem Zdx{c:UInt8}{l x y:LB}(h:cut c l=some (x,y)):l=x++c::y/\c∉x:=by
 unfold cut at h;cases d:seek c l with
 | none=>simp_all
 | some i=>
  rw[d]at h;simp only[Ybf,Yci,Yc5]at h;obtain⟨a,b,rfl,rfl,e⟩:=Ziv d
  simp_all
theorem ZoE{c:UInt8}{x y:LB}(h:c∉x):cut c (x++c::y)=some (x,y):=by
 unfold cut;rw[Zgq c x y h];simp
theorem Zsq(c:UInt8):∀(n:Nat) (l:LB),l.length<=n->Lib.splitK [c] 0 (Lib.count l [c]) l=split c l:=by
 intro n
 induction n with
 | zero=>
  intro l g;obtain rfl:l=[]:=List.length_eq_zero_iff.1 Om;rfl
 | succ n ih=>
  intro l g;cases d:seek c l with
  | none=>
   rw[Lib.count_miss (by rw[Zjj,d])];have e:=(Zj9 c l).1 d;have:=Zhb c l [] e;rw[Yca]at this;rw[this];simp[Lib.splitK,split,pre]
  | some i=>
   obtain⟨a,b,rfl,rfl,e⟩:=Ziv d;have f:Lib.index (a++c::b) [c]=(a.length):=by rw[Zjj,d]
   rw[Lib.count_hit (by simp) f];have e1:(a++c::b).drop (a.length + [c].length)=b:=by simp
   rw[e1,Nat.add_comm,Lib.splitK,if_neg (by simp_all),f];rw[show((a.length:Int)).toNat=a.length by omega,e1,ih b (by simp_all;omega),Zhb c a _ e,Zhc];simp[pre]
def ZbI(c:UInt8):LB->LB×Bool
 | []=>([],false)
 | b::t=>if b == c then (t,true)else (b::t,false)
theorem Zyo(c:UInt8)(l:LB):(Lib.trimPrefix l [c],Lib.hasPrefix l [c])=ZbI c l:=by
 cases l with
 | nil=>rfl
 | cons b t=>
  by_cases a:b=c
  ·subst a;simp[Lib.trimPrefix,Lib.hasPrefix,ZbI]
  ·have d:[c].isPrefixOf (b::t)=false:=by simp[List.isPrefixOf,Ycp a]
   simp[Lib.trimPrefix,Lib.hasPrefix,ZbI,a,d]
theorem Znm(c:UInt8)(l:LB):(ZbI c l).1.length<=l.length:=by
 cases l with
 | nil=>simp[ZbI]
 | cons b t=>by_cases h:(b == c)=true <;> simp[ZbI,h]
def Zds(d:LB):Bool:=match ZQ 1000000000 (ZbI 45 d).1 with
 | none=>false
 | some v=>!((ZbI 45 d).2 && v == 0)
def Zdn(t:LB):Option Nat:=match cut 58 t with
 | none=>none
 | some (a, d) => match ZQ 1000000 a with
   | none=>none
   | some tm=>if Zds d then some tm else none
def Zcq:Int->Nat->List (LB)->Option Nat
 | _,n,[]=>some n
 | last, n, x :: xs => match Zdn x with
   | none=>none
   | some t=>if (t:Int)<=last then none else Zcq t (n+1) xs
def Zcz(l:LB):Option Nat:=match ZbI 32 l with
 | (r,f)=>if l=[] then some 0 else if f then Zcq (-1) 0 (split 32 r)else none
def leS(a b:LB):Bool:=Op.bytesLess a b || a == b
def Zd5(last:LB)(x:LB):Option (LB×LB):=match cut 61 x with
 | none=>none
 | some (n,v)=>if Zx n && Z3 v && !v.isEmpty && !leS n last then some (n,v)else none
def ZbS:LB->List (LB×LB)->List (LB)->Option (List (LB×LB))
 | _,acc,[]=>some acc
 | last, acc, x :: xs => match Zd5 last x with
   | none=>none
   | some p=>ZbS p.1 (acc++[p]) xs
def Zcc(l:LB):Option (List (LB×LB)):=if l=[] then some [] else ZbS [] [] (split 44 l)
def line(l:LB):Option (LB×LB×Nat):=match cut 123 l with
 | none=>none
 | some (name, rest) => match cut 125 rest with
   | none=>none
   | some (inside,behind)=>if Zx name && (Zcc inside).isSome then (Zcz behind).map (fun n=>(name,inside,n))else none
theorem ZjF{l:LB}(h:cut 123 l=none):line l=none:=by unfold line;rw[h]
theorem ZjE{l name rest:LB}(h:cut 123 l=some (name,rest))(a:cut 125 rest=none):line l=none:=by unfold line;simp_all
theorem ZjG{l name rest inside behind:LB}(h:cut 123 l=some (name,rest))(a:cut 125 rest=some (inside,behind)) :
  line l=if Zx name && (Zcc inside).isSome then (Zcz behind).map (fun n=>(name,inside,n))else none:=by unfold line;simp_all
structure Entry where
 at_:Nat
 name:LB
 inside:LB
 count:Nat
def Zbh:Nat->List Entry->List (LB)->Nat ⊕ List Entry
 | _,acc,[]=>.inr acc
 | i, acc, x :: xs => if x = [] then Zbh (i + 1) acc xs else match line x with
   | none=>.inl i
   | some (a,b,n)=>Zbh (i+1) (acc++[⟨i,a,b,n⟩]) xs
theorem Zyw{i:Nat}{acc:List Entry}{ps:List (LB)}(a:i<ps.length)(h:ps.getD i []=[]):Zbh i acc (ps.drop i)=Zbh (i+1) acc (ps.drop (i+1)):=by
 have e:ps.getD i []=ps[i]:=by simp[a]
 rw[List.drop_eq_getElem_cons a,Zbh,<-e,if_pos h]
theorem Zyu{i:Nat}{acc:List Entry}{ps:List (LB)}(a:i<ps.length)(h:ps.getD i []≠[])(c:line (ps.getD i [])=none):Zbh i acc (ps.drop i)=.inl i:=by
 have e:ps.getD i []=ps[i]:=by simp[a]
 rw[List.drop_eq_getElem_cons a,Zbh,<-e,if_neg h,c]
theorem Zyv{i:Nat}{acc:List Entry}{ps:List (LB)}(c:i<ps.length)(h:ps.getD i []≠[]){a b:LB}{n:Nat}(d:line (ps.getD i [])=some (a,b,n)) :
  Zbh i acc (ps.drop i)=Zbh (i+1) (acc++[⟨i,a,b,n⟩]) (ps.drop (i+1)):=by
 have e:ps.getD i []=ps[i]:=by simp[c]
 rw[List.drop_eq_getElem_cons c,Zbh,<-e,if_neg h,d]
theorem Zyx{i:Nat}{acc:List Entry}{ps:List (LB)}(a:¬i<ps.length):Zbh i acc (ps.drop i)=.inr acc:=by
 rw[Yb8 Om];rfl
end Go.Proofs.YtcdgkkfipdoeeaaGreatDoor.LS
namespace Go.Proofs.YtcdgkkfipdoeeaaGreatDoor
open Go.RowKit LS Go.Proofs.Tryz
theorem Zri(most:Nat)(l:LB) : -1<=numI most l/\numI most l<=most:=by
 cases h:ZQ most l with
 | none=>rw[Zrj h];omega
 | some v=>rw[ZgX h];have:=Zgh h;omega
def Zca:List (Int×Int)->List Value
 | []=>[]
 | x::l=>.int .i64 x.1::.int .i64 x.2::Zca l
theorem Zwg(l m:List (Int×Int)):Zca (l++m)=Zca l++Zca m:=by
 induction l with
 | nil=>rfl
 | cons a l ih=>simp[Zca,ih]
theorem Zwh (l : List (Int × Int)) (j : Nat) : (Zca l)[j * 2]? = l[j]?.map (fun x => Vi x.1) /\ (Zca l)[j * 2 + 1]? = l[j]?.map (fun x => Vi x.2) := by
  induction l generalizing j with
  | nil=>simp[Zca]
  | cons r l ih=>
    cases j with
    | zero=>simp[Zca]
    | succ j=>
      obtain⟨a,c⟩:=ih j;refine⟨?_,?_⟩
      · rw[show(j+1)*2=j*2+1+1 by omega];assumption
      · rw[show(j+1)*2+1=j*2+1+1+1 by omega];assumption
def smOk(x:Int×Int):Prop:=-1000000<=x.1/\x.1<=1000000/\-1000000000<=x.2/\x.2<=1000000000
def valI(d:LB):Int:=match ZbI 45 d with
 | (d',less)=>if less then -(numI 1000000000 d')else numI 1000000000 d'
def smV(x:LB):Int×Int:=match cut 58 x with
 | none=>(0,0)
 | some (a,d)=>(numI 1000000 a,valI d)
def Zez:LB->List (Int×Int)
 | []=>[]
 | _::t=>(split 32 t).map smV
theorem ZCr(x:LB):smOk (smV x):=by
 unfold smV;split
 ·unfold smOk;decide
 ·rename_i a d _;have c:=Zri 1000000 a;unfold valI;cases hd:ZbI 45 d with
  | mk d' less=>
   have e:=Zri 1000000000 d';unfold smOk
   simp_all;omega
theorem Zwi{l:List (LB)}{k:Nat}(a:k<l.length){x:LB}(c:x=l.getD k []){t v:Int}(d:smV x=(t,v)):Zca ((l.map smV).take (k+1))=Zca ((l.map smV).take k)++[Vi t,Vi v]:=by
 have e:l[k]=x:=by rw[c,Yaa,List.getElem?_eq_getElem a];rfl
 rw[<-Yer,<-Yer,List.take_succ_eq_append_getElem a,Yaq,Zwg,Yco,e,d];rfl
def Zdo(l:LB):List (Int×Int):=match LS.seek 125 l with
 | some b=>Zez (l.drop (b+1))
 | none=>[]
theorem Zr1{l x r y z:LB}(a:Zx x=true)(d:cut 123 l=some (x,r))(e:cut 125 r=some (y,z)):Zdo l=Zez z:=by
 obtain⟨e1,n1⟩:=Zdx d;obtain⟨e2,n2⟩:=Zdx e
 have f:(125)∉x:=by
  intro g;unfold Zx at a;rw[Yas]at a;have:=Ybu.1 a.1 _ g;exact absurd this Dc
 have c:l=(x++123::y)++125::z:=by rw[e1,e2];simp
 have i:LS.seek 125 l=some (x++123::y).length:=by
  rw[c];refine Zgq _ _ z ?_;rw[Yar,Yau];rintro(h|h|h)
  ·exact f h
  ·simp_all
  ·exact n2 h
 unfold Zdo;rw[i,c];simp only
 congr 1
 rw[show(x++123::y)++125::z=((x++123::y)++[125])++z by simp,List.drop_append_of_le_length (by simp;omega),Yb8 (by simp;omega)];rfl
structure PTok where
 kd:Nat
 at_:Nat
 tx:BA
 v:Nat
def ZbC:List PTok->List Value
 | []=>[]
 | t::l=>.int .i64 t.kd::.int .i64 t.at_::.string t.tx::.int .i64 t.v::ZbC l
theorem Zer(l m:List PTok):ZbC (l++m)=ZbC l++ZbC m:=by
 induction l with
 | nil=>rfl
 | cons a l ih=>simp[ZbC,ih]
theorem Zwj (l : List PTok) (j : Nat) : (ZbC l)[j * 4]? = l[j]?.map (fun t => Vi t.kd) /\ (ZbC l)[j * 4 + 1]? = l[j]?.map (fun t => Vi t.at_) /\ (ZbC l)[j * 4 + 2]? = l[j]?.map (fun t => .string t.tx) /\ (ZbC l)[j * 4 + 3]? = l[j]?.map (fun t => Vi t.v) := by
  induction l generalizing j with
  | nil=>simp[ZbC]
  | cons r l ih=>
    cases j with
    | zero=>simp[ZbC]
    | succ j=>
      obtain⟨a,c,d,e⟩:=ih j;refine⟨?_,?_,?_,?_⟩
      · rw[show(j+1)*4=j*4+1+1+1+1 by omega];simpa [ZbC] using a
      · rw[show(j+1)*4+1=j*4+1+1+1+1+1 by omega];simpa [ZbC] using c
      · rw[show(j+1)*4+2=j*4+2+1+1+1+1 by omega];simpa [ZbC] using d
      · rw[show(j+1)*4+3=j*4+3+1+1+1+1 by omega];simpa [ZbC] using e
def pk(k:Nat):Nat:=if k=0 then 4 else if k=1 then 0 else if k=2 then 1 else if k=3 then 2 else if k=4 then 3 else 5
def Zdf(p:PTok)(t:Tok):Prop:=p.kd=pk t.jk/\p.at_=t.at_/\bl p.tx=t.txt/\(t.jk=1->(p.v:Int)=numV t.txt)
structure RD (w:World) (b g cp:Nat) (ps:List PTok) (k:Nat):Prop where
 cells:w.heap[b]?=some (.cells #[.slice (some ⟨g,0,none⟩) ps.length cp,Vi k] 69 (0,0))
 own:w.ownsRow 0 74 4 (.slice (some ⟨g,0,none⟩) ps.length cp) ps.length (ZbC ps)
 lt:k<ps.length
theorem RD.below{w w':World}{b g cp:Nat}{ps:List PTok}{k:Nat}(h:RD w b g cp ps k)(a:BW w w'):RD w' b g cp ps k:=
 ⟨(a.block b (Yae.1 h.cells).1).trans h.cells,Zn h.own a,h.lt⟩
theorem RD.all{w:World}{b g cp:Nat}{ps:List PTok}{k:Nat}(h:RD w b g cp ps k) :
  w.cell? ⟨b,0,none⟩=some (.slice (some ⟨g,0,none⟩) ps.length cp)/\w.cell? ⟨b,1,none⟩=some (Vi k)/\w.frozen? ⟨b,1,none⟩=false/\b<w.heap.size/\g<w.heap.size/\
  w.cell? ⟨g,k*4,none⟩=some (Vi (ps[k]'h.lt).kd)/\w.cell? ⟨g,k*4+1,none⟩=some (Vi (ps[k]'h.lt).at_)/\w.cell? ⟨g,k*4+2,none⟩=some (.string (ps[k]'h.lt).tx)/\w.cell? ⟨g,k*4+3,none⟩=some (Vi (ps[k]'h.lt).v):=by
 obtain⟨f1,f2,f3,f4⟩:=Zwj ps k;rw[List.getElem?_eq_getElem h.lt]at f1 f2 f3 f4;refine⟨by simp[World.cell?,h.cells],by simp[World.cell?,h.cells],by simp[World.frozen?,h.cells],(Yae.1 h.cells).1,Z1 h.own,Zi h.own _ _ f1,Zi h.own _ _ f2,Zi h.own _ _ f3,Zi h.own _ _ f4⟩
theorem ZiF{w:World}{b g cp:Nat}{ps:List PTok}{k:Nat}(h:RD w b g cp ps k) :
  CP 29 #[Vp b] w fun e u=>e=.returned (.agg #[Vi (ps[k]'h.lt).kd,Vi (ps[k]'h.lt).at_,.string (ps[k]'h.lt).tx,Vi (ps[k]'h.lt).v])/\BW w u:=by
 obtain⟨c0,c1,_,a,c,d0,d1,d2,d3⟩:=h.all;have d:=h.lt;generalize ps[k]'h.lt=t at *
 obtain⟨kd,at_,tx,v⟩:=t;simp only at d0 d1 d2 d3 ⊢;generalize ps.length=n at *
 go_enter func29,ntmps29;go_wp2
 go_region
 all_goals
  go_wp2;exact bodyPost_ret (by simp[results,results29,go_sem]) rfl ⟨rfl,belB⟩
theorem ZlS(t:PTok)(s:BA)(w:World) :
  CP 102 #[.agg #[Vi t.kd,Vi t.at_,.string t.tx,Vi t.v],.string s] w fun e u=>e=.returned (.bool (((t.kd:Int) == 3) && (t.tx.toList == s.toList)))/\BW w u:=by
 obtain⟨kd,at_,tx,v⟩:=t;simp only;generalize a:((kd:Int) == 3)=x;cases x
 ·go_enter func102,ntmps102;go_wp2;go_ret;exact⟨rfl,belB⟩
 ·go_enter func102,ntmps102;go_wp2;go_ret;exact⟨rfl,belB⟩
theorem Zp0(t:PTok)(s:BA)(w:World) :
  CP 109 #[.agg #[Vi t.kd,Vi t.at_,.string t.tx,Vi t.v],.string s] w fun e u=>e=.returned (.bool (((t.kd:Int) == 1) && (t.tx.toList == s.toList)))/\BW w u:=by
 obtain⟨kd,at_,tx,v⟩:=t;simp only;generalize a:((kd:Int) == 1)=x;cases x
 ·go_enter func109,ntmps109;go_wp2;go_ret;exact⟨rfl,belB⟩
 ·go_enter func109,ntmps109;go_wp2;go_ret;exact⟨rfl,belB⟩
def ZM(w:World)(v:Value)(at_:Int)(what:Addr):Prop:=∃fa:Nat,v=.iface 81 (Vp fa)/\w.heap[fa]?=some (.cells #[.string ⟨#[98,121,116,101]⟩,Vi at_,.iface 432 (.pointer (some what))] 85 (0,0))
theorem ZM.below{w w':World}{v:Value}{at_:Int}{what:Addr}(h:ZM w v at_ what)(c:BW w w'):ZM w' v at_ what:=by
 obtain⟨fa,d,a⟩:=h;exact⟨fa,d,(c.block _ (Yae.1 a).1).trans a⟩
theorem ZkT(i:Int){what:Value}(w:World) :
  CP 54 #[Vi i,.iface 432 what] w fun e u=>e=.returned (.iface 81 (Vp w.heap.size))/\u=w.alloc (.cells #[.string ⟨#[98,121,116,101]⟩,Vi i,.iface 432 what] 85):=by
 go_enter func54,ntmps54;go_wp2;go_ret;exact⟨rfl,rfl⟩
theorem ZiZ{w:World}{b g cp:Nat}{ps:List PTok}{k:Nat}(h:RD w b g cp ps k){sy:Addr}(d:w.cell? ⟨1,0,none⟩=some (.iface 432 (.pointer (some sy)))) :
  CP 30 #[Vp b] w fun e u=>∃v,e=.returned v/\Hid (ZM u v (ps[k]'h.lt).at_ sy)/\BW w u:=by
 have H:=hid h;have l:=hid (RD.below h ((Yaf _ _).drew));have j:1<w.heap.size:=Yai _ _ d;obtain⟨t,f⟩:∃t,t=ps[k]'h.lt:=⟨_,rfl⟩
 have m:Hid (∀n:k<ps.length,ps[k]'n=t):=fun _=>f.symm;rw[<-f];clear f h;have q:∀W:World,(Instr.field 74 (.agg #[Vi t.kd,.int _ t.at_,.string t.tx,Vi t.v]) 1).run prog W=.ok (Vi _) W:=fun _=>rfl;go_enter func30,ntmps30;go_wp2
 go_region_with (first
   | (go_at_call 29
      refine(ZiF l.out).mono ?_;rintro e i ⟨rfl,a⟩;rw[m.out];have c:Hid (BW w i):=⟨a.os,a.tape,a.output,a.size,a.block⟩
      have o:i.cell? ⟨1,0,none⟩=some (.iface 432 (.pointer (some sy))):=(c.cell (p:=⟨_,0,none⟩) j).trans d;clear a)
   | (go_at_call 54
      refine cret (ZkT _ _) ?_))
 all_goals
  go_wp2;go_ret;exact⟨_,rfl,⟨i.heap.size,rfl,bnw⟩,c.alloc c.size _⟩
end Go.Proofs.YtcdgkkfipdoeeaaGreatDoor

/- Parts. -/
import Derived.Test.YtcdgkkfipdoeeaaGreatDoorO00
import Derived.Deep.RegionHeld3
import Derived.BigQuiet
set_option linter.all false
set_option maxRecDepth 100000
set_option maxHeartbeats 16000000
namespace Go.Proofs.YtcdgkkfipdoeeaaGreatDoor.LS
open Go Go.RowKit
abbrev Cl:=VV ⊕ (Nd×Nat)
def ZcO:Cl->Nat
 | .inl (.inl _)=>1
 | .inl (.inr _)=>2
 | .inr (_,_)=>3
def valOf:Cl->VV
 | .inl v=>v
 | .inr (_,_)=>.inr []
structure MQ where
 jz:List Cl
 jy:List (Option Cl)
def mq0:MQ:=⟨[],List.replicate 16 none⟩
def nd00:Nd×Nat:=(⟨0,0,0,[],[],[]⟩,0)
def Zdl(st:List Ser)(t:Int)(x:Nd×Nat):Cl:=if 0<x.2 then .inr (x.1,x.2)else .inl (.inr (Zc4 st x.1 none 10 t))
def doE(st:List Ser)(t:Int)(c:CodeQ)(x:Nat×Nat)(m:MQ):MQ:=match x.1 with
 | 0=>⟨.inl (.inl (c.jj.getD x.2 0))::m.jz,m.jy⟩
 | 1=>⟨Zdl st t (c.ju.getD x.2 nd00)::m.jz,m.jy⟩
 | 2 => match m.jz with
   | .inr (a,n)::r=>⟨.inl (.inr (Zc4 st a (some x.2) n t))::r,m.jy⟩
   | _=>m
 | 3 => match m.jz with
   | y::z::r=>⟨.inl (Zdg x.2 (valOf z) (valOf y))::r,m.jy⟩
   | _=>m
 | 4 => match m.jz with
   | y::r=>⟨.inl (negV (valOf y))::r,m.jy⟩
   | _=>m
 | 9=>m
 | 10=>m
 | 11=>⟨m.jz.tail,m.jy⟩
 | 12 => match m.jz with
   | y::r=>⟨r,m.jy.set x.2 (some y)⟩
   | _=>m
 | 13 => match m.jy.getD x.2 none with
   | some y=>⟨y::m.jz,m.jy⟩
   | none=>m
 | _ => match m.jz with
   | y::r=>⟨.inl (.inr (Zcv (x.1 - 5) (c.jw.getD x.2 []) (Zcm (valOf y))))::r,m.jy⟩
   | _=>m
def ZiG(m:MQ):Bool:=match m.jz with
 | y::_=>!(Zcm (valOf y)).isEmpty
 | []=>false
def Zbj(i:Nat)(x:Nat×Nat)(m:MQ):Nat:=if x.1=9 then x.2 else if x.1=10/\ZiG m=true then x.2 else i+1
def runE(st:List Ser)(t:Int)(c:CodeQ):Nat->Nat->MQ->Option (Nat×MQ)
 | f, i, m => if c.jq.length <= i then some (f, m) else match f with
   | 0=>none
   | f+1=>runE st t c f (Zbj i (c.jq.getD i (0,0)) m) (doE st t c (c.jq.getD i (0,0)) m)
def topE(m:MQ):VV:=match m.jz with
 | y::_=>valOf y
 | []=>.inr []
structure MetBy (b:Ah) (st sl:List Nat):Prop where
 qy:b.qy=true
 jz:b.qz=false->b.jz=st
 jy:∀j,b.jy.getD j 0≠0->sl.getD j 0=b.jy.getD j 0
theorem ZhT:∀(x y:List Nat) (j:Nat),(both x y).getD j 0≠0->x.getD j 0=(both x y).getD j 0/\y.getD j 0=(both x y).getD j 0
 | [],_,j,h=>by simp[both]at h
 | _::_,[],j,h=>by simp[both]at h
 | a :: x, b :: y, 0, h => by
   have e:(both (a::x) (b::y)).getD 0 0=if a=b then a else 0:=rfl
   simp_all
 | a::x,b::y,j+1,h=>ZhT x y j h
theorem Zq4{a:Ah}{st sl:List Nat}:MetBy (Zbi a st sl) st sl:=by
 unfold Zbi;by_cases c:a.qy
 ·rw[if_pos c];refine⟨rfl,fun h=>?_,fun j h=>(ZhT _ _ j h).2⟩
  simp_all
 constructor<;>simp_all
theorem MetBy.meet{b:Ah}{st sl:List Nat}(h:MetBy b st sl)(st2 sl2:List Nat):MetBy (Zbi b st2 sl2) st sl:=by
 unfold Zbi;rw[if_pos h.qy];refine⟨rfl,fun c=>?_,fun j d=>?_⟩
 ·have a:(b.qz || decide _)=false:=c;rw[Bool.or_eq_false_iff]at a;exact h.jz a.1
 ·have c:=(ZhT _ _ j d).1;have a:=h.jy j (by simp_all)
  simp_all
theorem Zh6(l:List Ah)(i s:Nat)(a:Ah):(l.set i a).getD s ah0=if i=s/\s<l.length then a else l.getD s ah0:=by
 rw[Yaa,Ya0];by_cases h:i=s
 ·subst h;by_cases c:i<l.length
  ·simp[c]
  ·simp[c,Yaa]
 simp_all
theorem MetBy.set{l:List Ah}{s:Nat}{st sl:List Nat}(h:MetBy (l.getD s ah0) st sl)(i:Nat)(st2 sl2:List Nat):MetBy ((l.set i (Zbi (l.getD i ah0) st2 sl2)).getD s ah0) st sl:=by
 rw[Zh6];split
 ·rename_i a;rw[a.1];exact h.meet _ _
 omega
theorem MetBy.goOn{l:List Ah}{s:Nat}{st sl:List Nat}(h:MetBy (l.getD s ah0) st sl)(x:Nat×Nat)(i:Nat)(st2 sl2:List Nat):MetBy ((goOn x i st2 sl2 l).getD s ah0) st sl:=by
 unfold LS.goOn;simp only;split
 ·split
  ·exact h.set _ _ _
  omega
 ·split
  ·exact(h.set _ _ _).set _ _ _
  ·exact h.set _ _ _
theorem ZpF(x:Nat×Nat)(i:Nat)(st sl:List Nat)(l:List Ah):(goOn x i st sl l).length=l.length:=by
 unfold goOn;simp only;split <;> split <;> simp
theorem Zwx{x:Nat×Nat}{i:Nat}{st sl:List Nat}{l:List Ah}(a:x.1≠9)(c:i+1<l.length):MetBy ((goOn x i st sl l).getD (i+1) ah0) st sl:=by
 unfold goOn;simp only;rw[if_neg a,Zh6,if_pos ⟨rfl,by split<;>simp_all⟩];exact Zq4
theorem Zww{x:Nat×Nat}{i:Nat}{st sl:List Nat}{l:List Ah}(c:ZcE x.1=true)(d:x.2<l.length):MetBy ((goOn x i st sl l).getD x.2 ah0) st sl:=by
 unfold goOn;simp only;rw[c]
 have a:MetBy ((l.set x.2 (Zbi (l.getD x.2 ah0) st sl)).getD x.2 ah0) st sl:=by
  rw[Zh6,if_pos ⟨rfl,d⟩];exact Zq4
 split
 ·exact a
 ·exact a.set _ _ _
def Fwd(c:CodeQ):Prop:=∀i,i<c.jq.length->Zy c i (c.jq.getD i (0,0))=true
theorem ZgM{c:CodeQ}{i:Nat}{x:Nat×Nat}(h:Zy c i x=true)(a:ZcE x.1=true):i<x.2/\x.2<=c.jq.length:=by
 obtain⟨op,arg⟩:=x;have d:op=9∨op=10:=by unfold ZcE at a;simpa using a
 rcases d with rfl|rfl <;> simpa [Zy] using h
theorem Zwy{c:CodeQ}{x:Nat×Nat}{i s:Nat}{st sl:List Nat}{l:List Ah}(e:Zy c i x=true)(f:s<=i):(goOn x i st sl l).getD s ah0=l.getD s ah0:=by
 unfold goOn;simp only
 have a:(if ZcE x.1=true then l.set x.2 (Zbi (l.getD x.2 ah0) st sl)else l).getD s ah0=l.getD s ah0:=by
  by_cases d:ZcE x.1=true
  ·rw[if_pos d,Zh6,if_neg (fun h=>by have:=(ZgM e d).1;omega)]
  ·simp_all
 split
 ·exact a
 ·rw[Zh6,if_neg (fun h=>by omega)];exact a
theorem Zrz{c:CodeQ} : ∀ {k:Nat} {l:List Ah} {m:Nat},Zbx c k=.ok (l,m)->l.length=c.jq.length+1
 | 0,l,m,h=>by injection h with h;injection h with h1 h2;subst h1;simp[ZeY]
 | k + 1, l, m, h => by
   unfold Zbx at h;cases a:Zbx c k with
   | error e=>simp_all
   | ok x=>
     rw[a]at h;simp only at h;have d:=Zrz a;unfold Zfx at h;simp only at h;split at h
     · split at h
       · cases h
       · split at h
         · cases h
         · injection h with h;injection h with h1 h2;subst h1;rw[ZpF,d]
     simp_all
theorem ZjV{c:CodeQ}{k:Nat}{l':List Ah}{m':Nat}(h:Zbx c (k+1)=.ok (l',m')):∃l m,Zbx c k=.ok (l,m)/\(((l.getD k ah0).qy=false/\l'=l)∨((l.getD k ah0).qy=true/\(l.getD k ah0).qz=false/\∃st sl,Zt c (c.jq.getD k (0,0)) (l.getD k ah0).jz (l.getD k ah0).jy=some (st,sl)/\l'=goOn (c.jq.getD k (0,0)) k st sl l)):=by
 unfold Zbx at h;cases a:Zbx c k with
 | error e=>simp_all
 | ok x=>
  rw[a]at h;simp only at h;refine⟨x.1,x.2,rfl,?_⟩;unfold Zfx at h;simp only at h;split at h
  ·rename_i d;split at h
   ·cases h
   ·rename_i g;split at h
    ·cases h
    ·rename_i s f;injection h with h;injection h with h1 h2;exact .inr ⟨d,by simp_all,s.1,s.2,f,h1.symm⟩
  simp_all
theorem ZmJ{c:CodeQ}{st sl:List Nat}{s:Nat}{k:Nat}{l:List Ah}{m:Nat}(a:Zbx c k=.ok (l,m))(e:MetBy (l.getD s ah0) st sl):∀(d:Nat) {l':List Ah} {m':Nat},Zbx c (k+d)=.ok (l',m')->MetBy (l'.getD s ah0) st sl
 | 0, l', m', h => by
   simp_all
 | d + 1, l', m', h => by
   obtain⟨l1,m1,f,g⟩:=ZjV (k:=k+d) h;have ih:=ZmJ a e d f;rcases g with ⟨_,rfl⟩|⟨_,_,st2,sl2,_,rfl⟩
   · exact ih
   · exact ih.goOn _ _ _ _
theorem ZmK{c:CodeQ}(a:Fwd c){s k:Nat}{l:List Ah}{m:Nat}(e:s<=k)(f:Zbx c k=.ok (l,m)):∀(d:Nat) {l':List Ah} {m':Nat},k+d<=c.jq.length->Zbx c (k+d)=.ok (l',m')->l'.getD s ah0=l.getD s ah0
 | 0, l', m', _, h => by
   simp_all
 | d + 1, l', m', hd, h => by
   obtain⟨l1,m1,g,i⟩:=ZjV (k:=k+d) h;have ih:=ZmK a e f d Om g;rcases i with ⟨_,rfl⟩|⟨_,_,st2,sl2,_,rfl⟩
   · exact ih
   · rw[Zwy (a _ Om) Om];exact ih
theorem ZrA{c:CodeQ} : ∀(d:Nat) {k:Nat} {l':List Ah} {m':Nat},Zbx c (k+d)=.ok (l',m')->∃l m,Zbx c k=.ok (l,m)
 | 0,k,l',m',h=>⟨l',m',h⟩
 | d + 1, k, l', m', h => by
   obtain⟨l1,m1,a,_⟩:=ZjV (k:=k+d) h;exact ZrA d a
structure Flow (c:CodeQ) (L:List Ah):Prop where
 fwd:Fwd c
 first:L.getD 0 ah0=⟨true,false,[],List.replicate 16 0⟩
 step:∀i,i<c.jq.length->(L.getD i ah0).qy=true->(L.getD i ah0).qz=false/\∃st sl,Zt c (c.jq.getD i (0,0)) (L.getD i ah0).jz (L.getD i ah0).jy=some (st,sl)/\((c.jq.getD i (0,0)).1≠9->MetBy (L.getD (i+1) ah0) st sl)/\(ZcE (c.jq.getD i (0,0)).1=true->MetBy (L.getD (c.jq.getD i (0,0)).2 ah0) st sl)
 last:(L.getD c.jq.length ah0).qz=false/\((L.getD c.jq.length ah0).jz=[1]∨(L.getD c.jq.length ah0).jz=[2])
theorem ZrP{c:CodeQ} : ∀ {n:Nat},Zcp c n=.ok ()->∀i,i<n->Zy c i (c.jq.getD i (0,0))=true
 | 0,_,i,a=>absurd a (Ya1 _)
 | n + 1, h, i, a => by
   unfold Zcp at h;cases d:Zcp c n with
   | error e=>simp_all
   | ok u=>
     rw[d]at h;simp only at h;by_cases e:i=n
     · simp_all
     · exact ZrP d i Om
theorem ZD0{c:CodeQ}{x:Nat×Nat}(h:ZcT c=.ok x):∃L,Flow c L:=by
 unfold ZcT at h;cases j:Zcp c c.jq.length with
 | error e=>rw[j]at h;cases h
 | ok u=>
  rw[j]at h;simp only at h;have f:Fwd c:=ZrP j;cases a:Zdj c with
  | error e=>rw[a]at h;cases h
  | ok m=>
   unfold Zdj at a;cases l:Zbx c c.jq.length with
   | error e=>rw[l]at a;cases a
   | ok y=>
    rw[l]at a;simp only at a;obtain⟨L,mo⟩:=y;simp only at a
    have d:Zd1 (L.getD c.jq.length ah0)=true:=by
     cases r:Zd1 (L.getD c.jq.length ah0)with
     | true=>rfl
     | false=>rw[r]at a;cases a
    unfold Zd1 at d;rw[Yas]at d;refine⟨L,f,?_,fun i t n=>?_,by simpa using d.1,?_⟩
    ·have:=ZmK f (s:=0) (Yac _) rfl c.jq.length Om (by rwa [Ycf]);rw[this];rfl
    ·obtain⟨l1,m1,k⟩:=ZrA _ (by rwa [show i+1+(c.jq.length - (i+1))=c.jq.length by omega]);obtain⟨l0,m0,o,g⟩:=ZjV k;have e0:=ZmK f (Yac i) o (c.jq.length - i) Om (by rwa [show i+(c.jq.length - i)=c.jq.length by omega]);rw[e0]at n ⊢;rcases g with ⟨p,_⟩|⟨_,v,st,sl,w,rfl⟩
     ·rw[n]at p;cases p
     ·have A:=Zrz o;refine⟨v,st,sl,w,fun z=>?_,fun q=>?_⟩
      ·exact ZmJ k (Zwx z Om) _ (by rwa [show i+1+(c.jq.length - (i+1))=c.jq.length by omega])
      ·exact ZmJ k (Zww q (by have:=(ZgM (f i t) q).2;omega)) _ (by rwa [show i+1+(c.jq.length - (i+1))=c.jq.length by omega])
    ·simpa using d.2
def ClOk(n:Nat):Cl->Prop
 | .inl v=>VOk n v
 | .inr (_,_)=>True
structure Typd (n:Nat) (st sl:List Nat) (m:MQ):Prop where
 jz:m.jz.map ZcO=st
 len:m.jy.length=16
 jy:∀j,sl.getD j 0≠0->∃y,m.jy.getD j none=some y/\ZcO y=sl.getD j 0
 ok:∀y∈m.jz,ClOk n y
 okS:∀j y,m.jy.getD j none=some y->ClOk n y
theorem ZDD(n:Nat):Typd n [] (List.replicate 16 0) mq0:=by
 refine⟨rfl,rfl,fun j h=>?_,(fun y a=>(by cases a)),fun j y a=>?_⟩
 ·exfalso;apply h;rw[Yaa,Ybs];split <;> rfl
 ·exfalso
  have d:(List.replicate 16 (none:Option Cl)).getD j none=none:=by rw[Yaa,Ybs];split <;> rfl
  have c:=a;unfold mq0 at c
  simp_all
theorem Typd.met{n:Nat}{st sl:List Nat}{m:MQ}{b:Ah}(h:Typd n st sl m)(a:MetBy b st sl)(c:b.qz=false):Typd n b.jz b.jy m:=
 ⟨by rw [a.jz c]; exact h.jz, h.len, fun j d => by
   have e:=a.jy j d;obtain⟨y,f,g⟩:=h.jy j Om
   simp_all,h.ok,h.okS⟩
theorem Typd.push{n:Nat}{r sl st' sl':List Nat}{rs:List Cl}{ss:List (Option Cl)}{y:Cl}{k:Nat}(h:Typd n r sl ⟨rs,ss⟩)(d:ZcO y=k)(e:ClOk n y)(a:ZE k r sl=some (st',sl')):Typd n st' sl' ⟨y::rs,ss⟩:=by
 unfold ZE at a;split at a
 ·cases a
 ·injection a with a;injection a with e1 e2;subst e1 e2;refine⟨?_,h.len,h.jy,fun z c=>?_,h.okS⟩
  ·show ZcO y::rs.map ZcO=k::r;rw[d,h.jz]
  ·rcases Yau.1 c with rfl|c
   ·exact e
   ·exact h.ok z c
theorem Typd.pop{n k:Nat}{r sl:List Nat}{m:MQ}(h:Typd n (k::r) sl m):∃y rs,m.jz=y::rs/\ZcO y=k/\ClOk n y/\Typd n r sl ⟨rs,m.jy⟩:=by
 have a:=h.jz;cases d:m.jz with
 | nil=>simp_all
 | cons y rs=>
  rw[d]at a;have c:ZcO y::rs.map _=k::r:=a;injection c with h1 h2;exact⟨y,rs,rfl,h1,h.ok y (by simp_all),⟨h2,h.len,h.jy,fun z e=>h.ok z (by simp_all),h.okS⟩⟩
theorem Zet{y:Cl}(h:ZcO y=2):∃l,y=.inl (.inr l):=by
 rcases y with (a|l)|⟨a,n⟩
 ·cases h
 ·simp
 ·cases h
theorem Zqj{y:Cl}(h:ZcO y=3):∃a n,y=.inr (a,n):=by
 rcases y with (a|l)|⟨a,n⟩
 ·cases h
 ·cases h
 simp
theorem Zgl{y:Cl}(h:Zby (ZcO y)=true):∃v,y=.inl v:=by
 rcases y with v|⟨a,n⟩
 ·simp
 ·cases h
theorem Zxz{op:Nat}{a b:VV}:ZcO (.inl (Zdg op a b))=max (ZcO (.inl a)) (ZcO (.inl b)):=by
 cases a <;> cases b <;> rfl
theorem ZxA{a:VV}:ZcO (.inl (negV a))=ZcO (.inl a):=by cases a <;> rfl
theorem Typd.same{n:Nat}{st sl:List Nat}{m:MQ}(h:Typd n st sl m){r:List Nat}{k:Nat}{st' sl':List Nat}(c:st=k::r)(a:ZE k r sl=some (st',sl')):Typd n st' sl' m:=by
 unfold ZE at a
 simp_all
theorem Typd.step{ser:List Ser}{c:CodeQ}{i op arg:Nat}{st sl st' sl':List Nat}{m:MQ}(h:Typd ser.length st sl m)(hd:Dst ser)(t:Int)(J:op<=13)(C:Zy c i (op,arg)=true)(d:Zt c (op,arg) st sl=some (st',sl')):Typd ser.length st' sl' (doE ser t c (op,arg) m):=by
 rcases(by omega:op=0∨op=1∨op=2∨op=3∨op=4∨op=9∨op=10∨op=11∨op=12∨op=13∨(op=5∨op=6∨op=7∨op=8))with rfl|rfl|rfl|rfl|rfl|rfl|rfl|rfl|rfl|rfl|hg
 ·exact Typd.push (rs:=m.jz) (ss:=m.jy) h rfl trivial d
 ·have D:arg<c.ju.length:=by simpa [Zy] using C
  have e1:c.ju[arg]?=some c.ju[arg]:=List.getElem?_eq_getElem D;have e2:c.ju.getD arg nd00=c.ju[arg]:=by rw[Yaa,e1];rfl
  have u:ZE ((c.ju[arg]?.map Zb3).getD 0) st sl=some (st',sl'):=d;rw[e1]at u;show Typd ser.length st' sl' ⟨Zdl ser t (c.ju.getD arg nd00)::m.jz,m.jy⟩;rw[e2];refine Typd.push (rs:=m.jz) (ss:=m.jy) h ?_ ?_ u
  ·show ZcO (Zdl ser t c.ju[arg])=Zb3 c.ju[arg];unfold Zdl Zb3;split <;> rfl
  ·unfold Zdl;split
   ·trivial
   ·exact Zkx hd _
 ·cases st with
  | nil=>cases d
  | cons k r=>
   simp only[Zt]at d;split at d
   ·rename_i p;subst p;obtain⟨y,rs,q,f,g,o⟩:=h.pop;obtain⟨a,n,rfl⟩:=Zqj f;simp only[doE,q];exact Typd.push o rfl (Zkx hd _) d
   simp_all
 ·cases st with
  | nil=>cases d
  | cons ky r=>
   cases r with
   | nil=>cases d
   | cons kz r=>
    simp only[Zt]at d;split at d
    ·rename_i p;rw[Yas]at p;obtain⟨y,rs,q,f,g,o⟩:=h.pop;obtain⟨z,qs,w,A,E,F⟩:=o.pop;have w:rs=z::qs:=w;subst w;obtain⟨vy,rfl⟩:=Zgl (by rw[f];exact p.2);obtain⟨vz,rfl⟩:=Zgl (by rw[A];exact p.1);simp only[doE,q];refine Typd.push F ?_ (ZnT E g) d;rw[<-f,<-A];exact Zxz
    simp_all
 ·cases st with
  | nil=>cases d
  | cons ky r=>
   simp only[Zt]at d;split at d
   ·rename_i p;obtain⟨y,rs,q,f,g,o⟩:=h.pop;obtain⟨vy,rfl⟩:=Zgl (by rw[f];exact p);simp only[doE,q];refine Typd.push o ?_ (Zrc g) d;rw[<-f];exact ZxA
   simp_all
 ·injection d with d;injection d with e1 e2;subst e1 e2;exact h
 ·cases st with
  | nil=>cases d
  | cons k r=>
   simp only[Zt]at d;split at d
   ·rename_i p;subst p;exact h.same rfl d
   simp_all
 ·cases st with
  | nil=>cases d
  | cons k r=>
   injection d with d;injection d with e1 e2;subst e1 e2;obtain⟨y,rs,q,f,g,o⟩:=h.pop;simp only[doE,q];exact o
 ·cases st with
  | nil=>cases d
  | cons k r=>
   injection d with d;injection d with e1 e2;subst e1 e2;obtain⟨y,rs,q,f,g,o⟩:=h.pop;have D:arg<16:=by simpa [Zy] using C
   simp only[doE,q];have K:m.jy.length=16:=h.len
   have gs : ∀ j, (m.jy.set arg (some y)).getD j none = if arg = j then some y else m.jy.getD j none := fun j => by
     split<;>simp_all
   refine⟨o.jz,by simp_all,fun j G=>?_,o.ok,fun j z A=>?_⟩
   ·show ∃z,(m.jy.set arg (some y)).getD j none=some z/\_;rw[gs]
    have e2:(sl.set arg k).getD j 0=if arg=j/\j<sl.length then k else sl.getD j 0:=by
     rw[Yaa,Ya0,Yaa];by_cases e:arg=j
     ·subst e;by_cases s:arg<sl.length
      ·simp[s]
      simp_all
     ·simp[e]
    have s:(sl.set arg k).getD j 0≠0:=G;rw[e2]at s;show ∃z,_/\ZcO z=(sl.set arg k).getD j 0;rw[e2];by_cases e:arg=j
    ·simp_all
    ·rw[if_neg e,if_neg (fun B=>e B.1)];rw[if_neg (fun B=>e B.1)]at s;exact h.jy j s
   ·have x:(m.jy.set arg (some y)).getD j none=some z:=A;rw[gs]at x;by_cases e:arg=j
    ·simp_all
    ·rw[if_neg e]at x;exact h.okS j z x
 ·simp only[Zt]at d;split at d
  ·cases d
  ·rename_i H;obtain⟨y,f,p⟩:=h.jy arg H;simp only[doE,f];exact Typd.push (rs:=m.jz) (ss:=m.jy) h p (h.okS arg y f) d
 ·have key:∃r,st=2::r/\ZE 2 r sl=some (st',sl'):=by
   cases st with
   | nil=>rcases hg with rfl|rfl|rfl|rfl <;> cases d
   | cons k r=>
    have u:(if k=2 then ZE 2 r sl else none)=some (st',sl'):=by rcases hg with rfl|rfl|rfl|rfl <;> exact d
    simp_all
  obtain⟨r,rfl,I⟩:=key;obtain⟨y,rs,q,f,g,o⟩:=h.pop;obtain⟨l,rfl⟩:=Zet f
  have e:doE ser t c (op,arg) m=⟨.inl (.inr (Zcv (op - 5) (c.jw.getD arg []) l))::rs,m.jy⟩:=by
   rcases hg with rfl|rfl|rfl|rfl <;> (simp only[doE,q];rfl)
  rw[e];exact Typd.push o rfl (ZpK (ZoS (v:=.inr l) g)) I
theorem Flow.calm{c:CodeQ}{L:List Ah}(h:Flow c L){s:Nat}(d:s<=c.jq.length)(a:(L.getD s ah0).qy=true):(L.getD s ah0).qz=false:=by
 by_cases e:s=c.jq.length
 ·rw[e];exact h.last.1
 ·exact(h.step s Om a).1
theorem Flow.next{c:CodeQ}{L:List Ah}{ser:List Ser}(h:Flow c L)(hd:Dst ser)(t:Int){i:Nat}{m:MQ}(k:i<c.jq.length)(e:(c.jq.getD i (0,0)).1<=13)(p:(L.getD i ah0).qy=true)(hT:Typd ser.length (L.getD i ah0).jz (L.getD i ah0).jy m) :
  i<Zbj i (c.jq.getD i (0,0)) m/\Zbj i (c.jq.getD i (0,0)) m<=c.jq.length/\(L.getD (Zbj i (c.jq.getD i (0,0)) m) ah0).qy=true/\Typd ser.length (L.getD (Zbj i (c.jq.getD i (0,0)) m) ah0).jz (L.getD (Zbj i (c.jq.getD i (0,0)) m) ah0).jy (doE ser t c (c.jq.getD i (0,0)) m):=by
 obtain⟨_,st,sl,q,l,r⟩:=h.step i k p;have f:=h.fwd i k;generalize c.jq.getD i (0,0)=x at *
 obtain⟨op,arg⟩:=x;simp only at e l r;have n:=hT.step hd t e f q;have fin:∀s,s<=c.jq.length->MetBy _ _ _->(L.getD s _).qy=true/\Typd _ _ _ _:=fun s o g=>⟨g.qy,n.met g (h.calm o g.qy)⟩
 unfold Zbj;simp only;by_cases d:op=9
 ·rw[if_pos d];have j:ZcE op=true:=by rw[d];rfl
  have u:=ZgM f j
  simp_all
 ·rw[if_neg d];by_cases a:op=10/\ZiG m=true
  ·rw[if_pos a];have j:ZcE op=true:=by rw[a.1];rfl
   have u:=ZgM f j
   simp_all
  ·rw[if_neg a];exact⟨by omega,by omega,fin _ Om (l d)⟩
theorem Flow.end_{c:CodeQ}{L:List Ah}{n:Nat}(h:Flow c L){m:MQ}(hT:Typd n (L.getD c.jq.length ah0).jz (L.getD c.jq.length ah0).jy m):∃v,m.jz=[.inl v]/\VOk n v:=by
 have key : ∀ k, (L.getD c.jq.length ah0).jz = [k] -> k = 1 ∨ k = 2 -> ∃ v, m.jz = [.inl v] /\ VOk n v := fun k e d => by
   rw[e]at hT;obtain⟨y,rs,f,g,i,j⟩:=hT.pop
   have l:rs=[]:=by
     have:=j.jz;cases rs with
     | nil=>rfl
     | cons a b=>cases this
   subst l;obtain⟨v,rfl⟩:=Zgl (y:=y) (by rw[g];rcases d with rfl|rfl <;> rfl);exact⟨v,f,i⟩
 rcases h.last.2 with o|o
 ·simp_all
 simp_all
theorem Flow.start{c:CodeQ}{L:List Ah}(h:Flow c L)(n:Nat):(L.getD 0 ah0).qy=true/\Typd n (L.getD 0 ah0).jz (L.getD 0 ah0).jy mq0:=by
 rw[h.first];exact⟨rfl,ZDD n⟩
end Go.Proofs.YtcdgkkfipdoeeaaGreatDoor.LS
namespace Go.Proofs.YtcdgkkfipdoeeaaGreatDoor
open Go.RowKit LS Go.Proofs.Tryz
theorem ZjC(l:LB)(a:l.length<=300):∀(n i:Nat),tw (ZN l n i)<=332*(ZN l n i).length
 | 0,_=>Yac _
 | n + 1, i => by
   have c:=Zyb l i;have d:=ZjC l a n (Zk l i).2;unfold ZN;split
   · simp[tw];omega
   · simp[tw];omega
theorem Zy5(a b:Int)(a1 : -1000000000<=a)(a2:a<=1000000000)(b1 : -1000000000<=b)(b2:b<=1000000000):(a*b).natAbs<=1000000000000000000:=by
 rw[Int.natAbs_mul];have c:a.natAbs<=1000000000:=by omega
 have d:b.natAbs<=1000000000:=by omega
 exact Nat.mul_le_mul c d
theorem ZDy(a b:Int):twoV 0 a b=cutV (a+b):=by simp[twoV]
theorem ZDz(a b:Int):twoV 1 a b=cutV (a - b):=by simp[twoV]
theorem ZDA(a b:Int):twoV 2 a b=cutV (a*b):=by simp[twoV]
theorem ZDC(a:Int):twoV 3 a 0=0:=by simp[twoV]
theorem ZDB(a b:Int)(h:b≠0):twoV 3 a b=a.tdiv b:=by simp[twoV,h]
def vOk(n:Int):Prop:=-1000000000<=n/\n<=1000000000
theorem ZyW(m:Int)(l:List Int)(x:Int):maxL m (l++[x])=if maxL m l<x then x else maxL m l:=by
 induction l generalizing m with
 | nil=>rfl
 | cons a l ih=>exact ih _
theorem Zy1(m:Int)(l:List Int)(x:Int):minL m (l++[x])=if x<minL m l then x else minL m l:=by
 induction l generalizing m with
 | nil=>rfl
 | cons a l ih=>exact ih _
theorem ZhY{n:Int}:vOk (cutV n):=by unfold vOk cutV;split <;> (try split) <;> omega
theorem Zhj(op:Nat)(a b:Int)(c:vOk a):vOk (twoV op a b):=by
 unfold twoV;split
 ·exact ZhY
 split
 ·exact ZhY
 split
 ·exact ZhY
 split
 ·unfold vOk;omega
 ·unfold vOk at *
  have d:(a.tdiv b).natAbs<=a.natAbs:=by rw[Yff];exact Yfg _ _
  omega
def Zhi(l s:Int):Nat->Int->List Int->Option (List Int)
 | 0,_,_=>none
 | n+1,t,acc=>if t<=l then (if acc.length=50 then none else Zhi l s n (t+s) (acc++[t]))else some acc
abbrev badT (f l s:Int):Prop:=f < -1000000∨1000000<f∨l < -1000000∨1000000<l∨s<1∨1000000<s∨l<f
def Zdr(f l s:Int):Option (List Int):=if badT f l s then none else Zhi l s 60 f []
def cnt(l s t:Int):Nat:=if t<=l then ((l - t) / s).toNat+1 else 0
theorem Zoi(l s t:Int)(c:1<=s)(h:t<=l):cnt l s t=cnt l s (t+s)+1:=by
 unfold cnt;rw[if_pos h];by_cases a:t+s<=l
 ·rw[if_pos a]
  have e:(l - t) / s=(l - (t+s)) / s+1:=by
   rw[show l - t=(l - (t+s))+1*s by omega,Int.add_mul_ediv_right _ _ Om]
  have d:0<=(l - (t+s)) / s:=Int.ediv_nonneg Om Om;rw[e];omega
 ·rw[if_neg a];have e:(l - t) / s=0:=Int.ediv_eq_zero_of_lt Om Om;rw[e];rfl
theorem ZsM (l s : Int) (c : 1 <= s) : ∀ (n : Nat) (t : Int) (acc : List Int), acc.length + cnt l s t <= 50 -> cnt l s t < n -> Zhi l s n t acc = some (acc ++ (List.range (cnt l s t)).map fun (i : Nat) => t + (i : Int) * s)
  | 0,_,_,_,h=>absurd h (Ya1 _)
  | n + 1, t, acc, d, e => by
    rw[Zhi];by_cases h:t<=l
    · have a:=Zoi l s t c h
      rw[if_pos h,if_neg Om,ZsM l s c n _ _ (by rw[Yab,Ybj];omega) Om,a,List.range_succ_eq_map,Ybb,Yb1,Yan]
      congr 2
      rw[Yd6]
      congr 1
      · simp
      · refine Ycb (fun i _=>?_)
        simp only[Function.comp];rw[show((Nat.succ i):Int)=(i)+1 from rfl,Int.add_mul];omega
    · have a:cnt l s t=0:=by unfold cnt;rw[if_neg h]
      rw[if_neg h,a];simp
theorem ZsL(l s:Int)(a:1<=s):∀(n:Nat) (t:Int) (acc:List Int),50<acc.length+cnt l s t->acc.length<=50->50 - acc.length<n->Zhi l s n t acc=none
 | 0,_,_,_,_,h=>absurd h (Ya1 _)
 | n + 1, t, acc, e, f, g => by
   rw[Zhi];by_cases h:t<=l
   · have d:=Zoi l s t a h
     rw[if_pos h];by_cases c:acc.length=50
     · rw[if_pos c]
     · rw[if_neg c]
       exact ZsL l s a n _ _ (by rw[Yab,Ybj];omega) (by rw[Yab,Ybj];omega) (by rw[Yab,Ybj];omega)
   · have d:cnt l s t=0:=by unfold cnt;rw[if_neg h]
     omega
theorem ZsN {f l s : Int} (h : ¬ badT f l s) : Zdr f l s = if 50 < cnt l s f then none else some ((List.range (cnt l s f)).map fun (i : Nat) => f + (i : Int) * s) := by
  have a:1<=s:=by unfold badT at h;omega
  unfold Zdr;rw[if_neg h];split
  · rename_i c
    exact ZsL l s a _ f _ (by simpa using c) (by simp) (by simp)
  · rename_i c
    rw[ZsM l s a _ f _ (by simp;omega) Om];rfl
end Go.Proofs.YtcdgkkfipdoeeaaGreatDoor
namespace Go.Proofs.YtcdgkkfipdoeeaaGreatDoor.LS
open Go Go.RowKit
theorem ZBj{l:LB}{t:Tr}(h:ZD l=.ok t):wfT t/\isNil t=false/\wT t<=100000:=by
 unfold ZD at h;by_cases c:300<l.length
 ·simp_all
 ·rw[if_neg c]at h;have f:=ZjB l (l.length+1) 0 (Yag _);have g:=ZjC l Om (l.length+1) 0;cases a:Zs (10*(ZN l (l.length+1) 0).length+5) false 0 .nil (ZN l (l.length+1) 0) 0 with
  | error e=>simp_all
  | ok z=>
   obtain⟨t',r⟩:=z;rw[a]at h;have i:=Zfv _ _ _ _ _ _ _ (fun e=>by cases e) a;simp only at h;by_cases d:(hd r).jk=0
   ·rw[if_pos d]at h;by_cases j:Zf t'=0
    ·simp_all
    simp_all;omega
   simp_all
structure CodeB (c:CodeQ):Prop where
 cs:∀x∈c.jj,vOk x
 ps:∀x∈c.ju,x.2<=1000/\x.1.ku.length<=100000
 gs:∀x∈c.jw,x.length<=70000
theorem Zge{α:Type}{one:Nat->RdR α}{p:Nat} : ∀ {k:Nat} {xs:List α} {q:Nat},many one p k=.ok (xs,q)->∀x∈xs,∃a b,one a=.ok (x,b)
 | 0,xs,q,h,x,c=>by injection h with h;simp_all
 | k + 1, xs, q, h, x, c => by
   unfold many at h;cases d:many one p k with
   | error e=>simp_all
   | ok y=>
     rw[d]at h;simp only at h;cases f:one y.2 with
     | error e=>simp_all
     | ok z=>
       rw[f]at h;injection h with h;injection h with h1 h2;subst h1;rcases Yar.1 c with c|c
       · exact Zge (d) x c
       · rw[Yap]at c;subst c;exact⟨_,_,f⟩
theorem Zvf{l:LB}{a b:Nat}{x:Int}(h:ZbW l a=.ok (x,b)):vOk x:=by
 unfold ZbW at h;split at h
 ·cases h
 ·split at h
  ·cases h
  constructor<;>simp_all
theorem ZDc{l:LB}{p q:Nat}{t:LB}(h:ZcH l p=.ok (t,q)):t.length<=65535:=by
 unfold ZcH at h;split at h
 ·cases h
 ·rename_i y a
  have d:y.1<65536:=by
   unfold Zbr at a;split at a
   ·cases a
   ·rename_i z c;cases a;have:=(Zhh c).2.1;exact ZhM (n:=2) (by rw[this];unfold sub;simp_all;omega)
  have:=(Zhh h).2.1;simp only at this;rw[this];unfold sub;simp_all;omega
theorem ZoH:∀l:List (LB×LB×Bool),l.length<=cw l
 | []=>Yac _
 | c::l=>by have:=ZoH l;simp only[cw,Yaj];omega
theorem Zr9{l:LB}{a:Nd}(h:selQ l=some a):a.ku.length<=100000:=by
 unfold selQ at h;split at h
 ·rename_i x y b p q c;split at h
  ·injection h with h;subst h;have d:=(ZBj c).2.2;have e:=ZoH b.ku;simp only[wT,ownW]at d;omega
  ·cases h
 ·cases h
theorem ZAD{t:LB}{x:Nd×Nat}(h:ZbA t=some x):x.2<=1000/\x.1.ku.length<=100000:=by
 unfold ZbA at h;split at h
 ·cases c:selQ t with
  | none=>simp_all
  | some a=>rw[c]at h;cases h;exact⟨by simp,Zr9 c⟩
 ·rename_i p _;split at h
  ·split at h
   ·rename_i n d;split at h
    ·cases h
    ·cases c:selQ (t.take p)with
     | none=>simp_all
     | some a=>rw[c]at h;cases h;exact⟨Zgh d,Zr9 c⟩
   ·cases h
  ·cases h
theorem ZwF{t:LB}{x:List (LB)}(h:ZcG t=some x)(a:t.length<=65535):x.length<=70000:=by
 unfold ZcG at h;split at h
 ·simp_all
 ·split at h
  ·cases h;have:=Zhd 44 t;omega
  ·cases h
theorem Zvq{l:LB}{c:CodeQ}(h:Zb7 l=.ok c):CodeB c:=by
 unfold Zb7 at h;split at h
 ·cases h
 ·split at h
  ·cases h
  ·rename_i cs g;split at h
   ·cases h
   ·rename_i ps i;split at h
    ·cases h
    ·rename_i gs j;split at h
     ·cases h
     ·split at h
      ·cases h
      ·split at h
       ·cases h
       ·split at h
        ·cases h
        ·cases h;refine⟨fun x e=>?_,fun x e=>?_,fun x e=>?_⟩
         ·obtain⟨a,b,d⟩:=Zge (xs:=cs.1) (q:=cs.2) g x e;exact Zvf d
         ·obtain⟨a,b,d⟩:=Zge (xs:=ps.1) (q:=ps.2) i x e;unfold Zb4 at d;split at d
          ·cases d
          ·split at d
           ·cases d
           ·rename_i y f;injection d with d;injection d with h2 h3;subst h2;exact ZAD f
         ·obtain⟨a,b,d⟩:=Zge (xs:=gs.1) (q:=gs.2) j x e;unfold ZbX at d;split at d
          ·cases d
          ·rename_i z k;split at d
           ·cases d
           ·rename_i y f;injection d with d;injection d with h2 h3;subst h2;exact ZwF f (ZDc k)
theorem Zgn{k:Nat}{st sl:List Nat}{x:List Nat×List Nat}(h:ZE k st sl=some x)(a:st.length<=64):x.1.length<=64:=by
 unfold ZE at h;split at h
 ·cases h
 ·cases h;simp_all;omega
theorem ZCN{c:CodeQ}{x:Nat×Nat}{st sl:List Nat}{y:List Nat×List Nat}(h:Zt c x st sl=some y)(a:st.length<=64):y.1.length<=64:=by
 unfold Zt at h;split at h
 ·exact Zgn h a
 ·exact Zgn h a
 ·split at h
  ·split at h
   ·exact Zgn h (by simp_all;omega)
   ·cases h
  ·cases h
 ·split at h
  ·split at h
   ·exact Zgn h (by simp_all;omega)
   ·cases h
  ·cases h
 ·split at h
  ·split at h
   ·exact Zgn h (by simp_all;omega)
   ·cases h
  ·cases h
 ·cases h;exact a
 ·split at h
  ·cases h;simp_all;omega
  ·cases h
 ·split at h
  ·cases h;simp_all;omega
  ·cases h
 ·split at h
  ·cases h
  ·exact Zgn h a
 ·split at h
  ·split at h
   ·exact Zgn h (by simp_all;omega)
   ·cases h
  ·cases h
theorem Flow.len{c:CodeQ}{L:List Ah}{ser:List Ser}(h:Flow c L)(hd:Dst ser)(t:Int){i:Nat}{m:MQ}(d:i<c.jq.length)(e:(c.jq.getD i (0,0)).1<=13)(g:(L.getD i ah0).qy=true)(hT:Typd ser.length (L.getD i ah0).jz (L.getD i ah0).jy m)(n:m.jz.length<=64) :
  (doE ser t c (c.jq.getD i (0,0)) m).jz.length<=64:=by
 obtain⟨_,st,sl,f,_,_⟩:=h.step i d g;have j:=h.fwd i d;generalize c.jq.getD i (0,0)=x at *
 obtain⟨op,arg⟩:=x;have k:=(hT.step hd t e j f).jz;have l:(L.getD i ah0).jz.length<=64:=by rwa [<-hT.jz,Yak]
 have a:=ZCN f l;simp only at a;rw[<-k,Yak]at a;exact a
def ZbO(st:List Ser)(c:CodeQ):Nat->List Int->Option (List (LB)×Nat)
 | f,[]=>some ([],f)
 | f, t :: ts => match runE st t c f 0 mq0 with
   | none=>none
   | some x => match ZbO st c x.1 ts with
     | none=>none
     | some y=>some (Zel t (topE x.2)::y.1,y.2)
theorem Znq{st:List Ser}(c:CodeQ)(t:Int):∀(ts:List Int) (f:Nat),ZbO st c f (ts++[t])=match ZbO st c f ts with
  | none=>none
  | some y => match runE st t c y.2 0 mq0 with
    | none=>none
    | some x=>some (y.1++[Zel t (topE x.2)],x.1)
 | [], f => by
   rfl
 | u :: ts, f => by
   simp only[Yby,ZbO];cases runE st u c f 0 mq0 with
   | none=>rfl
   | some x=>
     simp only;rw[Znq c t _ _];cases ZbO st c x.1 ts with
     | none=>rfl
     | some y=>
       simp only;cases runE st t c y.2 0 mq0 <;> rfl
theorem ZsK{st:List Ser}(c:CodeQ){f:Nat} : ∀(us ts:List Int),ZbO st c f ts=none->ZbO st c f (ts++us)=none
 | [],ts,h=>by simp_all
 | u :: us, ts, h => by
   have a:ZbO st c f (ts++[u])=none:=by rw[Znq,h]
   have:=ZsK c us _ a
   simp_all
theorem ZDe{st:List Ser}{c:CodeQ}{f k:Nat}{ts:List Int}(h:ZbO st c f (ts.take k)=none):ZbO st c f ts=none:=by
 have:=ZsK c (ts.drop k) _ h
 simp_all
theorem Zg5{st:List Ser}{t:Int}{c:CodeQ}{f i:Nat}{m:MQ}(h:c.jq.length<=i):runE st t c f i m=some (f,m):=by
 unfold runE;simp_all
theorem ZBC{st:List Ser}{t:Int}{c:CodeQ}{i:Nat}{m:MQ}(h:i<c.jq.length):runE st t c 0 i m=none:=by
 unfold runE;simp_all
theorem Zj4(st:List Ser)(t:Int){c:CodeQ}(f i:Nat)(m:MQ)(h:i<c.jq.length):runE st t c (f+1) i m=runE st t c f (Zbj i (c.jq.getD i (0,0)) m) (doE st t c (c.jq.getD i (0,0)) m):=by
 conv=>lhs;unfold runE
 simp_all;omega
theorem ZmX{k:Nat}{st sl:List Nat}{x:List Nat×List Nat}(h:ZE k st sl=some x):st.length≠64:=by
 unfold ZE at h
 simp_all
theorem ZpA{α:Type}{l:List α}{i:Nat}{d:α}(h:i<l.length):l.getD i d∈l:=by
 simp_all
theorem VOk.more{n k:Nat}(a:n<=k):∀ {V:VV},VOk n V->VOk k V
 | .inl _,_=>trivial
 | .inr _,h=>⟨h.1,Yah h.2 a⟩
structure Nq where
 op:Nat
 arg:Int
 fs:Option Nat
 sn:Option Nat
def ZGo:DecidableEq Nq:=fun a b=>decidable_of_iff (a.op=b.op/\a.arg=b.arg/\a.fs=b.fs/\a.sn=b.sn) (by cases a;cases b;simp)
def nq0:Nq:=⟨0,0,none,none⟩
def Zg(n:Nq):List Nat:=match n.fs,n.sn with
 | none,_=>[]
 | some a,none=>[a]
 | some a,some b=>[a,b]
def idxN(x:Nq):List Nq->Option Nat
 | []=>none
 | y::l=>haveI:=ZGo y x;if y=x then some 0 else (idxN x l).map (· + 1)
structure Gq where
 fold:Bool
 share:Bool
 jx:List Nq
 uses:List Nat
 kw:List (Nd×Nat)
 qx:List (List (LB))
def g0(fl:Nat):Gq:=⟨decide (fl % 2=1),decide (fl / 2 % 2=1),[],[],[],[]⟩
def bump(u:List Nat)(n:Nat):List Nat:=u.set n (u.getD n 0+1)
def addQ(x:Nq)(g:Gq):Nat×Gq:=match (if g.share then idxN x g.jx else none)with
 | some i=>(i,g)
 | none=>(g.jx.length,{ g with jx:=g.jx++[x],uses:=(Zg x).foldl bump (g.uses++[0]) })
def Zdw(v:Int)(g:Gq):Nat×Gq:=addQ ⟨0,v,none,none⟩ g
def Zco(n:Nat)(g:Gq):Option Int:=if g.fold=true/\(g.jx.getD n nq0).op=0 then some (g.jx.getD n nq0).arg else none
def negQ(n:Nat)(g:Gq):Nat×Gq:=match Zco n g with
 | some v=>Zdw (-v) g
 | none=>addQ ⟨4,0,some n,none⟩ g
def Zbs(op x y:Nat)(g:Gq):Nat×Gq:=match Zco x g,Zco y g with
 | some u,some v=>Zdw (twoV op u v) g
 | _,_=>addQ ⟨3,op,some x,some y⟩ g
def ZI(x:Nd×Nat):LB:=selS x.1++(if 0<x.2 then [91]++decS x.2++[93] else [])
def ZJ(x:Nd×Nat)(g:Gq):Nat×Gq:=match idx (ZI x) (g.kw.map ZI)with
 | some i=>addQ ⟨1,i,none,none⟩ g
 | none=>addQ ⟨1,g.kw.length,none,none⟩ { g with kw:=g.kw++[x] }
def insN(x:LB):List (LB)->List (LB)
 | []=>[x]
 | y::l=>if x=y then y::l else if Op.bytesLess x y then x::y::l else y::insN x l
def Z6(l:List (LB)):List (LB):=l.foldr insN []
def Zbd(ns:List (LB))(g:Gq):Nat×Gq:=match idx (commas (Z6 ns)) (g.qx.map commas)with
 | some i=>(i,g)
 | none=>(g.qx.length,{ g with qx:=g.qx++[Z6 ns] })
def Zba(a:Nd):Nd:=⟨1,0,0,a.name,a.ku,[]⟩
def Zb:Tr->Gq->Nat×Gq
 | .nil,g=>(0,g)
 | .node _ _ a l r,g=>
  if a.jk=0 then Zdw a.n g
  else if a.jk=1 then ZJ (Zba a,0) g
  else if a.jk=2 then (let p:=ZJ (Zba a,a.n.toNat) g;addQ ⟨2,a.op,some p.1,none⟩ p.2)
  else if a.jk=3 then (let p:=Zb l g;negQ p.1 p.2)
  else if a.jk=5 then (let p:=Zb l g;let k:=Zbd a.by_ p.2;addQ ⟨5+a.op,k.1,some p.1,none⟩ k.2)
  else (let p:=Zb l g;let q:=Zb r p.2;if a.jk=6 then addQ ⟨10,0,some p.1,some q.1⟩ q.2 else Zbs a.op p.1 q.1 q.2)
structure Cq where
 left:List Nat
 jy:List (Option Int)
 jj:List Int
 jq:List (Nat×Nat)
def c0(g:Gq):Cq:=⟨g.uses,List.replicate 16 none,[],[]⟩
def Zc(op arg:Nat)(c:Cq):Cq:={ c with jq:=c.jq++[(op,arg)] }
def ZK(n:Nat)(l:List (Option Int)):Option Nat:=(List.range 16).find? fun s=>decide (l.getD s none=some (n:Int))
def ZbQ(l:List (Option Int)):Option Nat:=(List.range 16).find? fun s=>decide (l.getD s none=none)
def ZZ(n s:Nat)(c:Cq):Cq:=let d:=Zc 12 s c;{ d with jy:=d.jy.set s (some (n:Int)) }
def ZeJ(jx:List Nq)(n:Nat):Bool:=
 let x:=jx.getD n nq0
 let y:=if x.op=4 then jx.getD (x.fs.getD 0) nq0 else x
 decide (y.op≠0/\y.op≠1)
def putQ(jx:List Nq)(work:Nat->Cq->Cq)(n:Nat)(c:Cq):Cq:=
 let c:={ c with left:=c.left.set n (c.left.getD n 0 - 1) }
 match ZK n c.jy with
 | some s=>let c:=Zc 13 s c;if c.left.getD n 0=0 then { c with jy:=c.jy.set s none } else c
 | none=>
  let c:=work n c
  if c.left.getD n 0=0∨ZeJ jx n=false then c else match ZbQ c.jy with
   | some s=>Zc 13 s (ZZ n s c)
   | none=>c
def cntQ(jx:List Nq)(sl:List (Option Int)):Nat->Nat->List Nat->List Nat
 | 0,_,k=>k
 | f+1,n,k=>
  let k:=bump k n
  if (ZK n sl).isSome∨1<k.getD n 0 then k else (Zg (jx.getD n nq0)).foldl (fun k t=>cntQ jx sl f t k) k
def ZcX(jx:List Nq)(c:Cq)(k:List Nat)(n:Nat):Bool:=decide (0<k.getD n 0) && (ZK n c.jy).isNone && decide (k.getD n 0<c.left.getD n 0) && ZeJ jx n
def ZbT(p:Nat->Bool):Nat->Option Nat
 | 0=>none
 | n+1=>if p n then some n else ZbT p n
def ZbY(jx:List Nq)(n:Nat)(c:Cq):Option Nat:=ZbT (ZcX jx c (cntQ jx c.jy (n+1) n (List.replicate jx.length 0))) jx.length
def ZG(jx:List Nq)(work:Nat->Cq->Cq)(n:Nat):Nat->Cq->Cq
 | 0,c=>c
 | k + 1, c => match ZbY jx n c, ZbQ c.jy with
   | some x,some s=>ZG jx work n k (ZZ x s (work x { c with jy:=c.jy.set s (some (-1)) }))
   | _,_=>c
def Zce(a b:List (Option Int)):List (Option Int):=(List.range 16).map fun s=>if a.getD s none=b.getD s none then a.getD s none else none
def Zbo(jx:List Nq)(work:Nat->Cq->Cq)(x y:Nat)(c:Cq):Cq:=
 let c:=putQ jx work x (ZG jx work y (y+2) c)
 let d:=putQ jx work y (Zc 11 0 (Zc 10 0 c))
 { d with jy:=Zce d.jy c.jy,jq:=d.jq.set c.jq.length (10,d.jq.length) }
def ZbD(x:Nq)(c:Cq):Cq:=if x.op=0 then Zc 0 c.jj.length { c with jj:=c.jj++[x.arg] } else Zc x.op x.arg.toNat c
def Zr(jx:List Nq):Nat->Nat->Cq->Cq
 | 0,_,c=>c
 | f+1,n,c=>
  let x:=jx.getD n nq0
  if x.op=10 then Zbo jx (Zr jx f) (x.fs.getD 0) (x.sn.getD 0) c
  else ZbD x ((Zg x).foldl (fun c t=>putQ jx (Zr jx f) t c) c)
def Zv(g:Gq)(root:Nat):Cq:=putQ g.jx (Zr g.jx (root+1)) root (c0 g)
def ZL(l:List (Nat×Nat))(i:Nat):List (Nat×Nat):=
 if (l.getD i (0,0)).1=10/\(l.getD i (0,0)).2<l.length/\(l.getD (l.getD i (0,0)).2 (0,0)).1=10 then l.set i (10,(l.getD (l.getD i (0,0)).2 (0,0)).2)else l
def ZcI:Nat->List (Nat×Nat)->List (Nat×Nat)
 | 0,l=>l
 | i+1,l=>ZcI i (ZL l i)
def Zch(l:List (Nat×Nat)):List (Nat×Nat):=ZcI l.length l
def codeOf(t:Tr)(fl:Nat):CodeQ:=
 let p:=Zb t (g0 fl)
 let c:=Zv p.2 p.1
 ⟨c.jj,p.2.kw,p.2.qx,if 4<=fl then Zch c.jq else c.jq⟩
def ZO(l:LB):LB:=digL l.length 2++l
def Zb0(v:Int):LB:=digL (v % 4294967296).toNat 4
def Z2(c:CodeQ):LB:=[103]++digL c.jj.length 2++digL c.ju.length 2++digL c.jw.length 2++digL c.jq.length 2++c.jj.flatMap Zb0++c.ju.flatMap (fun x=>ZO (ZI x))++c.jw.flatMap (fun x=>ZO (commas x))++c.jq.flatMap (fun x=>UInt8.ofNat x.1::digL x.2 2)
def ZbJ(c:CodeQ):LB:=Z2 c++digL (sumQ (Z2 c)) 4
def ZcM(q:LB)(fl:Int):LB×Nat×Nat:=match ZD q with
 | .error x=>([],x.1,x.2)
 | .ok t=>if fl<0∨7<fl then ([],11,0)else (ZbJ (codeOf t fl.toNat),0,0)
end Go.Proofs.YtcdgkkfipdoeeaaGreatDoor.LS
namespace Go.Proofs.YtcdgkkfipdoeeaaGreatDoor
open Go.RowKit LS Go.Proofs.Tryz
structure PTok where
 kd:Nat
 at_:Nat
 tx:BA
 v:Nat
def ZbC:List PTok->List Value
 | []=>[]
 | t::l=>.int .i64 t.kd::.int .i64 t.at_::.string t.tx::.int .i64 t.v::ZbC l
theorem Zer(l m:List PTok):ZbC (l++m)=ZbC l++ZbC m:=by
 induction l with
 | nil=>rfl
 | cons a l ih=>simp[ZbC,ih]
theorem Zwj (l : List PTok) (j : Nat) : (ZbC l)[j * 4]? = l[j]?.map (fun t => Vi t.kd) /\ (ZbC l)[j * 4 + 1]? = l[j]?.map (fun t => Vi t.at_) /\ (ZbC l)[j * 4 + 2]? = l[j]?.map (fun t => .string t.tx) /\ (ZbC l)[j * 4 + 3]? = l[j]?.map (fun t => Vi t.v) := by
  induction l generalizing j with
  | nil=>simp[ZbC]
  | cons r l ih=>
    cases j with
    | zero=>simp[ZbC]
    | succ j=>
      obtain⟨a,c,d,e⟩:=ih j;refine⟨?_,?_,?_,?_⟩
      · rw[show(j+1)*4=j*4+1+1+1+1 by omega];simpa [ZbC] using a
      · rw[show(j+1)*4+1=j*4+1+1+1+1+1 by omega];simpa [ZbC] using c
      · rw[show(j+1)*4+2=j*4+2+1+1+1+1 by omega];simpa [ZbC] using d
      · rw[show(j+1)*4+3=j*4+3+1+1+1+1 by omega];simpa [ZbC] using e
def pk(k:Nat):Nat:=if k=0 then 4 else if k=1 then 0 else if k=2 then 1 else if k=3 then 2 else if k=4 then 3 else 5
def Zdf(p:PTok)(t:Tok):Prop:=p.kd=pk t.jk/\p.at_=t.at_/\bl p.tx=t.txt/\(t.jk=1->(p.v:Int)=numV t.txt)
structure RD (w:World) (b g cp:Nat) (ps:List PTok) (k:Nat):Prop where
 cells:w.heap[b]?=some (.cells #[.slice (some ⟨g,0,none⟩) ps.length cp,Vi k] 69 (0,0))
 own:w.ownsRow 0 74 4 (.slice (some ⟨g,0,none⟩) ps.length cp) ps.length (ZbC ps)
 lt:k<ps.length
theorem RD.below{w w':World}{b g cp:Nat}{ps:List PTok}{k:Nat}(h:RD w b g cp ps k)(a:BW w w'):RD w' b g cp ps k:=
 ⟨(a.block b (Yae.1 h.cells).1).trans h.cells,Zn h.own a,h.lt⟩
theorem RD.all{w:World}{b g cp:Nat}{ps:List PTok}{k:Nat}(h:RD w b g cp ps k) :
  w.cell? ⟨b,0,none⟩=some (.slice (some ⟨g,0,none⟩) ps.length cp)/\w.cell? ⟨b,1,none⟩=some (Vi k)/\w.frozen? ⟨b,1,none⟩=false/\b<w.heap.size/\g<w.heap.size/\
  w.cell? ⟨g,k*4,none⟩=some (Vi (ps[k]'h.lt).kd)/\w.cell? ⟨g,k*4+1,none⟩=some (Vi (ps[k]'h.lt).at_)/\w.cell? ⟨g,k*4+2,none⟩=some (.string (ps[k]'h.lt).tx)/\w.cell? ⟨g,k*4+3,none⟩=some (Vi (ps[k]'h.lt).v):=by
 obtain⟨f1,f2,f3,f4⟩:=Zwj ps k;rw[List.getElem?_eq_getElem h.lt]at f1 f2 f3 f4;refine⟨by simp[World.cell?,h.cells],by simp[World.cell?,h.cells],by simp[World.frozen?,h.cells],(Yae.1 h.cells).1,Z1 h.own,Zi h.own _ _ f1,Zi h.own _ _ f2,Zi h.own _ _ f3,Zi h.own _ _ f4⟩
theorem ZiF{w:World}{b g cp:Nat}{ps:List PTok}{k:Nat}(h:RD w b g cp ps k) :
  CP 29 #[Vp b] w fun e u=>e=.returned (.agg #[Vi (ps[k]'h.lt).kd,Vi (ps[k]'h.lt).at_,.string (ps[k]'h.lt).tx,Vi (ps[k]'h.lt).v])/\BW w u:=by
 obtain⟨c0,c1,_,a,c,d0,d1,d2,d3⟩:=h.all;have d:=h.lt;generalize ps[k]'h.lt=t at *
 obtain⟨kd,at_,tx,v⟩:=t;simp only at d0 d1 d2 d3 ⊢;generalize ps.length=n at *
 go_enter func29,ntmps29;go_wp2
 go_region
 all_goals
  go_wp2;exact bodyPost_ret (by simp[results,results29,go_sem]) rfl ⟨rfl,belB⟩
theorem ZlS(t:PTok)(s:BA)(w:World) :
  CP 102 #[.agg #[Vi t.kd,Vi t.at_,.string t.tx,Vi t.v],.string s] w fun e u=>e=.returned (.bool (((t.kd:Int) == 3) && (t.tx.toList == s.toList)))/\BW w u:=by
 obtain⟨kd,at_,tx,v⟩:=t;simp only;generalize a:((kd:Int) == 3)=x;cases x
 ·go_enter func102,ntmps102;go_wp2;go_ret;exact⟨rfl,belB⟩
 ·go_enter func102,ntmps102;go_wp2;go_ret;exact⟨rfl,belB⟩
theorem Zp0(t:PTok)(s:BA)(w:World) :
  CP 109 #[.agg #[Vi t.kd,Vi t.at_,.string t.tx,Vi t.v],.string s] w fun e u=>e=.returned (.bool (((t.kd:Int) == 1) && (t.tx.toList == s.toList)))/\BW w u:=by
 obtain⟨kd,at_,tx,v⟩:=t;simp only;generalize a:((kd:Int) == 1)=x;cases x
 ·go_enter func109,ntmps109;go_wp2;go_ret;exact⟨rfl,belB⟩
 ·go_enter func109,ntmps109;go_wp2;go_ret;exact⟨rfl,belB⟩
def ZM(w:World)(v:Value)(at_:Int)(what:Addr):Prop:=∃fa:Nat,v=.iface 81 (Vp fa)/\w.heap[fa]?=some (.cells #[.string ⟨#[98,121,116,101]⟩,Vi at_,.iface 432 (.pointer (some what))] 85 (0,0))
theorem ZM.below{w w':World}{v:Value}{at_:Int}{what:Addr}(h:ZM w v at_ what)(c:BW w w'):ZM w' v at_ what:=by
 obtain⟨fa,d,a⟩:=h;exact⟨fa,d,(c.block _ (Yae.1 a).1).trans a⟩
theorem ZkT(i:Int){what:Value}(w:World) :
  CP 54 #[Vi i,.iface 432 what] w fun e u=>e=.returned (.iface 81 (Vp w.heap.size))/\u=w.alloc (.cells #[.string ⟨#[98,121,116,101]⟩,Vi i,.iface 432 what] 85):=by
 go_enter func54,ntmps54;go_wp2;go_ret;exact⟨rfl,rfl⟩
theorem ZiZ{w:World}{b g cp:Nat}{ps:List PTok}{k:Nat}(h:RD w b g cp ps k){sy:Addr}(d:w.cell? ⟨1,0,none⟩=some (.iface 432 (.pointer (some sy)))) :
  CP 30 #[Vp b] w fun e u=>∃v,e=.returned v/\Hid (ZM u v (ps[k]'h.lt).at_ sy)/\BW w u:=by
 have H:=hid h;have l:=hid (RD.below h ((Yaf _ _).drew));have j:1<w.heap.size:=Yai _ _ d;obtain⟨t,f⟩:∃t,t=ps[k]'h.lt:=⟨_,rfl⟩
 have m:Hid (∀n:k<ps.length,ps[k]'n=t):=fun _=>f.symm;rw[<-f];clear f h;have q:∀W:World,(Instr.field 74 (.agg #[Vi t.kd,.int _ t.at_,.string t.tx,Vi t.v]) 1).run prog W=.ok (Vi _) W:=fun _=>rfl;go_enter func30,ntmps30;go_wp2
 go_region_with (first
   | (go_at_call 29
      refine(ZiF l.out).mono ?_;rintro e i ⟨rfl,a⟩;rw[m.out];have c:Hid (BW w i):=⟨a.os,a.tape,a.output,a.size,a.block⟩
      have o:i.cell? ⟨1,0,none⟩=some (.iface 432 (.pointer (some sy))):=(c.cell (p:=⟨_,0,none⟩) j).trans d;clear a)
   | (go_at_call 54
      refine cret (ZkT _ _) ?_))
 all_goals
  go_wp2;go_ret;exact⟨_,rfl,⟨i.heap.size,rfl,bnw⟩,c.alloc c.size _⟩
theorem RD.step{w:World}{b g cp:Nat}{ps:List PTok}{k:Nat}(h:RD w b g cp ps k)(c:k+1<ps.length):RD (w.setCell ⟨b,1,none⟩ (Vi ((k+1:Nat):Int))) b g cp ps (k+1):=by
 have a:b≠g:=by
  rintro rfl;exact Zcx h.own h.cells Dc rfl
 refine⟨?_,ZdA h.own (fun j d=>Go.Deep.blk_setCell_other _ _ _ _ ?_),c⟩
 ·have:=h.cells;simp only[World.setCell,Ybn,this,if_true,Ybf];rfl
 ·have:j=g:=by simpa [Value.ownBlock] using d.symm
  rw[this];exact fun e=>a e.symm
def ZY(t:PTok)(s:BA):Bool:=((t.kd:Int) == 3) && (t.tx.toList == s.toList)
def ZdF(t:PTok)(s:BA):Bool:=((t.kd:Int) == 1) && (t.tx.toList == s.toList)
def Took(w':World)(b g cp:Nat)(ps:List PTok)(k:Nat)(sy:Addr)(at_:Int)(ok:Bool)(v:Value):Prop:=(ok=true/\v=.nilIface/\RD w' b g cp ps (k+1))∨(ok=false/\ZM w' v at_ sy/\RD w' b g cp ps k)
theorem ZC5{w:World}{b g cp:Nat}{ps:List PTok}{k:Nat}(h:RD w b g cp ps k)(s:BA)(x:ZY (ps[k]'h.lt) s=true->k+1<ps.length)(G:ps.length<=6002){sy:Addr}(i:w.cell? ⟨1,0,none⟩=some (.iface 432 (.pointer (some sy)))) :
  CP 166 #[Vp b,.string s] w fun e u=>∃v,e=.returned v/\Hid (Took u b g cp ps k sy (ps[k]'h.lt).at_ (ZY (ps[k]'h.lt) s) v)/\w.grownBy u (some b):=by
 have H:=hid h;have F:=h.lt;have A:1<w.heap.size:=Yai _ _ i;obtain⟨t,m⟩:∃t,t=ps[k]'h.lt:=⟨_,rfl⟩
 have B:Hid (∀D:k<ps.length,ps[k]'D=t):=fun _=>m.symm;rw[<-m]at x ⊢;clear m h;go_enter func166,ntmps166
 go_wp2_with fail
 refine(ZiF H.out).mono ?_;rintro e I ⟨rfl,j⟩;rw[B];have d:=hid j;clear j
 go_wp2_with fail
 refine(ZlS t s _).mono ?_;rintro e z ⟨rfl,l⟩;have a:=hid (d.trans (l.mono d.size));have c:=hid (RD.below H a);have n:=(a.cell A).trans i;obtain⟨c0,c1,fz,_⟩:=c.all;rw[show(((t.kd:Int) == 3) && (t.tx.toList == s.toList))=ZY t s from rfl];clear l d;cases o:ZY t s
 ·have p:=hid o
  go_wp2_with fail
  refine(ZiZ c.out n).mono ?_;rintro e J ⟨v,rfl,q,f⟩;rw[B]at q;have E:Hid (Took _ b g _ _ k _ _ _ v):=.inr ⟨rfl,q,RD.below c f⟩;have r:Hid (w.grownBy _ (some b)):=Zw (a.trans (f.mono a.size));clear q f;go_wp2;go_ret;exact⟨_,rfl,by rwa [p.out],r⟩
 ·have C:=x o;have p:=hid o;have E:Hid (Took _ b g _ _ k sy t.at_ _ _):=.inl ⟨rfl,rfl,c.step C⟩;have r:Hid (w.grownBy (z.setCell ⟨b,1,none⟩ (Vi ((k+1:Nat)))) (some b)):=ZA (Zw a) (.inl rfl) _;go_wp2;go_ret;exact⟨_,rfl,by rwa [p.out],r⟩
theorem ZC7{w:World}{b g cp:Nat}{ps:List PTok}{k:Nat}(h:RD w b g cp ps k)(s:BA)(x:ZdF (ps[k]'h.lt) s=true->k+1<ps.length)(G:ps.length<=6002){sy:Addr}(i:w.cell? ⟨1,0,none⟩=some (.iface 432 (.pointer (some sy)))) :
  CP 167 #[Vp b,.string s] w fun e u=>∃v,e=.returned v/\Hid (Took u b g cp ps k sy (ps[k]'h.lt).at_ (ZdF (ps[k]'h.lt) s) v)/\w.grownBy u (some b):=by
 have H:=hid h;have F:=h.lt;have A:1<w.heap.size:=Yai _ _ i;obtain⟨t,m⟩:∃t,t=ps[k]'h.lt:=⟨_,rfl⟩
 have B:Hid (∀D:k<ps.length,ps[k]'D=t):=fun _=>m.symm;rw[<-m]at x ⊢;clear m h;go_enter func167,ntmps167
 go_wp2_with fail
 refine(ZiF H.out).mono ?_;rintro e I ⟨rfl,j⟩;rw[B];have d:=hid j;clear j
 go_wp2_with fail
 refine(Zp0 t s _).mono ?_;rintro e z ⟨rfl,l⟩;have a:=hid (d.trans (l.mono d.size));have c:=hid (RD.below H a);have n:=(a.cell A).trans i;obtain⟨c0,c1,fz,_⟩:=c.all;rw[show(((t.kd:Int) == 1) && (t.tx.toList == s.toList))=ZdF t s from rfl];clear l d;cases o:ZdF t s
 ·have p:=hid o
  go_wp2_with fail
  refine(ZiZ c.out n).mono ?_;rintro e J ⟨v,rfl,q,f⟩;rw[B]at q;have E:Hid (Took _ b g _ _ k _ _ _ v):=.inr ⟨rfl,q,RD.below c f⟩;have r:Hid (w.grownBy _ (some b)):=Zw (a.trans (f.mono a.size));clear q f;go_wp2;go_ret;exact⟨_,rfl,by rwa [p.out],r⟩
 ·have C:=x o;have p:=hid o;have E:Hid (Took _ b g _ _ k sy t.at_ _ _):=.inl ⟨rfl,rfl,c.step C⟩;have r:Hid (w.grownBy (z.setCell ⟨b,1,none⟩ (Vi ((k+1:Nat)))) (some b)):=ZA (Zw a) (.inl rfl) _;go_wp2;go_ret;exact⟨_,rfl,by rwa [p.out],r⟩
def ZeX(t:PTok):Bool:=(t.kd:Int) == 1
theorem ZC6{w:World}{b g cp:Nat}{ps:List PTok}{k:Nat}(h:RD w b g cp ps k)(r:ZeX (ps[k]'h.lt)=true->k+1<ps.length)(N:ps.length<=6002){sy:Addr}(l:w.cell? ⟨1,0,none⟩=some (.iface 432 (.pointer (some sy)))) :
  CP 169 #[Vp b] w fun e u=>∃(x:BA) (v:Value),e=.returned (.tuple #[.string x,v])/\Hid (Took u b g cp ps k sy (ps[k]'h.lt).at_ (ZeX (ps[k]'h.lt)) v/\(ZeX (ps[k]'h.lt)=true->x=(ps[k]'h.lt).tx))/\w.grownBy u (some b):=by
 have H:=hid h;have K:=h.lt;have s:1<w.heap.size:=Yai _ _ l;obtain⟨t,n⟩:∃t,t=ps[k]'h.lt:=⟨_,rfl⟩
 have z:Hid (∀G:k<ps.length,ps[k]'G=t):=fun _=>n.symm;rw[<-n]at r ⊢;clear n h;go_enter func169,ntmps169
 go_wp2_with fail
 refine(ZiF H.out).mono ?_;rintro e a ⟨rfl,c⟩;rw[z];obtain⟨kd,at_,tx,v⟩:=t;obtain⟨W,o⟩:∃W,W=a.alloc (.cells #[Vi kd,Vi at_,.string tx,Vi v] 74):=⟨_,rfl⟩
 have A:=hid o;have B:W.heap[a.heap.size]?=some (.cells #[.int _ _,.int _ _,.string _,.int _ v] _ _):=o▸bnw;have d:Hid _:=o▸c.alloc c.size _;have f:=hid (RD.below H d);have p:=(d.cell s).trans l;obtain⟨c0,c1,fz,L,_⟩:=f.all;have M:=Yaw (Yae.1 H.cells).1 c.size
 have k2:(W.setCell ⟨b,1,none⟩ (Vi ((k+1:Nat)))).cell? ⟨a.heap.size,2,none⟩=some (.string tx):=by
  have:(W.setCell ⟨b,1,none⟩ (Vi ((k+1:Nat)))).heap[a.heap.size]?=W.heap[a.heap.size]?:=Go.Deep.blk_setCell_other _ _ _ _ (by show a.heap.size≠b;omega);unfold World.cell?;rw[this,B];rfl
 have C:Hid (k+1<ps.length->Took ((a.setCell _ _).alloc (.cells #[Vi kd,Vi at_,.string tx,Vi v] 74)) b g _ _ k sy at_ _ _):=fun i=>.inl ⟨rfl,rfl,(RD.step (RD.below H c) i).below Zbal⟩;have D:Hid (w.grownBy ((a.setCell ⟨b,1,none⟩ (Vi ((k+1:Nat)))).alloc (.cells #[Vi kd,Vi at_,.string tx,Vi v] 74)) (some b)):=ZbR (ZA (Zw c) (.inl rfl) _) _;generalize j:((kd:Int) == 1)=nb at *
 cases nb
 ·have q:Hid (ZeX ⟨kd,at_,tx,v⟩=false):=j;have E:((kd:Int) != 1)=true:=by rw[bne,j];rfl
  go_wp2_with fail
  rw[<-A];refine(ZiZ f.out p).mono ?_;rintro e O ⟨v3,rfl,F,m⟩;rw[z]at F;have I:Hid (Took _ b g _ _ k _ at_ _ _):=.inr ⟨rfl,F,RD.below f m⟩;have J:Hid (w.grownBy _ (some b)):=Zw (d.trans (m.mono d.size));go_wp2;go_ret2;exact⟨_,_,rfl,q.out▸⟨I.out,fun h=>(by cases h)⟩,J⟩
 ·have q:Hid (ZeX ⟨kd,at_,tx,v⟩=true):=j;have E:((kd:Int) != 1)=false:=by rw[bne,j];rfl
  have i:=r j;rw[A]at k2 c0 c1 fz;go_wp2;go_ret2;exact⟨_,_,rfl,by rw[q];exact⟨C i,fun _=>rfl⟩,D⟩
def opOf(t:PTok):Option Nat:=if ZdF t ⟨#[111,114]⟩then some 0 else if ZY t ⟨#[43]⟩then some 1 else if ZY t ⟨#[45]⟩then some 2 else if ZY t ⟨#[42]⟩then some 3 else if ZY t ⟨#[47]⟩then some 4 else none
def TAt(w:World)(a:Nat)(t:PTok):Prop:=w.heap[a]?=some (.cells #[Vi t.kd,Vi t.at_,.string t.tx,Vi t.v] 74 (0,0))
theorem TAt.all{w:World}{a:Nat}{t:PTok}(h:TAt w a t):w.cell? ⟨a,0,none⟩=some (Vi t.kd)/\w.cell? ⟨a,1,none⟩=some (Vi t.at_)/\w.cell? ⟨a,2,none⟩=some (.string t.tx)/\w.cell? ⟨a,3,none⟩=some (Vi t.v):=by
 unfold TAt at h;refine⟨?_,?_,?_,?_⟩ <;> simp[World.cell?,h]
theorem TAt.below{w w':World}{a:Nat}{t:PTok}(h:TAt w a t)(c:BW w w'):TAt w' a t:=(c.block a (Yae.1 h).1).trans h
theorem ZgT(t:PTok){s:BA}{x:Bool}(f:ZY t s=x)(w0:World){w:World}{a:Nat}(g:TAt w a t)(d:BW w0 w) :
  CP 102 #[.agg #[Vi t.kd,Vi t.at_,.string t.tx,Vi t.v],.string s] w fun e u=>e=.returned (.bool x)/\Hid (TAt u a t)/\Hid (BW w0 u):=by
 subst f;refine(ZlS t s w).mono ?_;rintro e u ⟨rfl,c⟩;exact⟨rfl,g.below c,d.trans (c.mono d.size)⟩
theorem ZEP(t:PTok){s:BA}{x:Bool}(f:ZdF t s=x)(w0:World){w:World}{a:Nat}(g:TAt w a t)(d:BW w0 w) :
  CP 109 #[.agg #[Vi t.kd,Vi t.at_,.string t.tx,Vi t.v],.string s] w fun e u=>e=.returned (.bool x)/\Hid (TAt u a t)/\Hid (BW w0 u):=by
 subst f;refine(Zp0 t s w).mono ?_;rintro e u ⟨rfl,c⟩;exact⟨rfl,g.below c,d.trans (c.mono d.size)⟩
theorem ZzQ(t:PTok){w:World} :
  CP 52 #[.agg #[Vi t.kd,Vi t.at_,.string t.tx,Vi t.v]] w fun e u=>e=.returned (.tuple #[Vi ((opOf t).getD 0:Nat),.bool (opOf t).isSome])/\BW w u:=by
 obtain⟨b1,l⟩:∃x,ZdF t ⟨#[111,114]⟩=x:=⟨_,rfl⟩
 obtain⟨b2,m⟩:∃x,ZY t ⟨#[43]⟩=x:=⟨_,rfl⟩
 obtain⟨b3,n⟩:∃x,ZY t ⟨#[45]⟩=x:=⟨_,rfl⟩
 obtain⟨b4,o⟩:∃x,ZY t ⟨#[42]⟩=x:=⟨_,rfl⟩
 obtain⟨b5,p⟩:∃x,ZY t ⟨#[47]⟩=x:=⟨_,rfl⟩
 have s:Hid (opOf t=if b1 then some 0 else if b2 then some 1 else if b3 then some 2 else if b4 then some 3 else if b5 then some 4 else none):=hid (by unfold opOf;rw[l,m,n,o,p]);have H:Hid (ZdF t _=b1/\ZY t _=b2/\ZY t _=b3/\ZY t _=b4/\ZY t _=b5):=⟨l,m,n,o,p⟩
 have q:Hid (TAt _ w.heap.size t):=bnw;have r:Hid (Below _ w (w.alloc (.cells #[Vi t.kd,Vi t.at_,.string t.tx,Vi t.v] 74))):=Zbal;rw[s];go_enter func52,ntmps52
 go_wp2_with fail
 refine(ZEP t H.1 w q r).mono ?_;rintro e B ⟨rfl,a,c⟩;cases b1
 ·obtain⟨k0,k1,k2,k3⟩:=TAt.all a
  go_wp2_with fail
  refine(ZgT t H.2.1 w a c).mono ?_;rintro e z ⟨rfl,d,f⟩;cases b2
  ·obtain⟨k0,k1,k2,k3⟩:=TAt.all d
   go_wp2_with fail
   refine(ZgT t H.2.2.1 w d f).mono ?_;rintro e C ⟨rfl,g,h⟩;cases b3
   ·obtain⟨k0,k1,k2,k3⟩:=TAt.all g
    go_wp2_with fail
    refine(ZgT t H.2.2.2.1 w g h).mono ?_;rintro e D ⟨rfl,i,j⟩;cases b4
    ·obtain⟨k0,k1,k2,k3⟩:=TAt.all i
     go_wp2_with fail
     refine(ZgT t H.2.2.2.2 w i j).mono ?_;rintro e E ⟨rfl,A,k⟩;cases b5
     ·go_wp2;go_ret2;exact⟨rfl,k⟩
     ·go_wp2;go_ret2;exact⟨rfl,k⟩
    ·go_wp2;go_ret2;exact⟨rfl,j⟩
   ·go_wp2;go_ret2;exact⟨rfl,h⟩
  ·go_wp2;go_ret2;exact⟨rfl,f⟩
 ·go_wp2;go_ret2;exact⟨rfl,c⟩
def Zci:List PTok->List Tok->Prop
 | [],[]=>True
 | p::ps,t::ts=>Zdf p t/\Zci ps ts
 | _,_=>False
theorem Zci.snoc:∀ {ps:List PTok} {ts:List Tok} {p:PTok} {t:Tok},Zci ps ts->Zdf p t->Zci (ps++[p]) (ts++[t])
 | [],[],_,_,_,h=>⟨h,trivial⟩
 | _::ps,_::ts,_,_,h,a=>⟨h.1,Zci.snoc h.2 a⟩
 | [],_::_,_,_,h,_=>h.elim
 | _::_,[],_,_,h,_=>h.elim
theorem Zci.length:∀ {ps:List PTok} {ts:List Tok},Zci ps ts->ps.length=ts.length
 | [],[],_=>rfl
 | _::ps,_::ts,h=>by rw[Yaj,Yaj,Zci.length h.2]
 | [],_::_,h=>h.elim
 | _::_,[],h=>h.elim
theorem Zx1{l:LB}{n i:Nat}{t:Tok}{e:Nat}(a:Zk l i=(t,e))(c:¬(t.jk=0∨t.jk=5)):ZN l (n+1) i=t::ZN l n e:=by
 show(if (Zk l i).1.jk=0∨(Zk l i).1.jk=5 then [(Zk l i).1] else (Zk l i).1::ZN l n (Zk l i).2)=_
 simp_all
theorem Zx0{l:LB}{n i:Nat}{t:Tok}{e:Nat}(a:Zk l i=(t,e))(c:t.jk=0∨t.jk=5):ZN l (n+1) i=[t]:=by
 show(if (Zk l i).1.jk=0∨(Zk l i).1.jk=5 then [(Zk l i).1] else (Zk l i).1::ZN l n (Zk l i).2)=_
 simp_all
def Zct(s:BA)(ps:List PTok)(at_:Nat):Prop:=at_<=s.size/\ps.length<=at_/\∃ts m,ZN (bl s) ((bl s).length+1) 0=ts++ZN (bl s) m at_/\s.size+1<=m+at_/\Zci ps ts
theorem Zct.start(s:BA):Zct s [] 0:=⟨Yag _,Yac _,[],(bl s).length+1,rfl,by rw[Zd];omega,trivial⟩
theorem Zct.skip{s:BA}{ps:List PTok}{at_:Nat}(h:Zct s ps at_)(a:at_<s.size)(c:s[at_]=32):Zct s ps (at_+1):=by
 obtain⟨_,f,ts,m,d,g,e⟩:=h;refine⟨a,by omega,ts,m,?_,by omega,e⟩;rw[d]
 congr 1
 cases m with
 | zero=>rfl
 | succ m=>
  show(if (Zk (bl s) at_).1.jk=0∨(Zk (bl s) at_).1.jk=5 then [(Zk (bl s) at_).1] else (Zk (bl s) at_).1::ZN (bl s) m (Zk (bl s) at_).2)=_;rw[Zx9 s c];rfl
theorem Zct.token{s:BA}{ps:List PTok}{at_:Nat}(h:Zct s ps at_){t:Tok}{e:Nat}(c:Zk (bl s) at_=(t,e))(d:¬(t.jk=0∨t.jk=5)){p:PTok}(g:Zdf p t):Zct s (ps++[p]) e:=by
 obtain⟨k,l,ts,m,i,n,j⟩:=h;have hg:=Zig _ _ (by rwa [Zd]);rw[c]at hg;have f:=hg.1 (fun h=>d (.inl h));have a:=hg.2;rw[Zd]at a;simp only at f a;obtain⟨m',rfl⟩:∃m',m=m'+1:=⟨m - 1,by omega⟩
 refine⟨a,by simp;omega,ts++[t],m',?_,by omega,j.snoc g⟩;rw[i,Zx1 c d,Yan];rfl
theorem Zct.done{s:BA}{ps:List PTok}{at_:Nat}(h:Zct s ps at_){t:Tok}{e:Nat}(a:Zk (bl s) at_=(t,e))(c:t.jk=0∨t.jk=5){p:PTok}(d:Zdf p t):Zci (ps++[p]) (ZN (bl s) ((bl s).length+1) 0):=by
 obtain⟨i,j,ts,m,f,k,g⟩:=h;obtain⟨m',rfl⟩:∃m',m=m'+1:=⟨m - 1,by omega⟩
 rw[f,Zx0 a c];exact g.snoc d
theorem ZqF(s:BA):Zk (bl s) s.size=(⟨0,[],s.size⟩,s.size):=by
 unfold Zk;have hd:(bl s).drop s.size=[]:=Yb8 (by constructor<;>omega);rw[hd];show lexJ (bl s) s.size=_;unfold lexJ;rw[hd]
theorem Zx2{s:BA}{k:Nat}{h:k<s.size}(hd:ZC s[k]=true):Zk (bl s) k=(if (ZQ 1000000000 (((bl s).drop k).take (run ZC ((bl s).drop k)))).isSome then ⟨1,((bl s).drop k).take (run ZC ((bl s).drop k)),k⟩else ⟨5,[],k⟩,k+run ZC ((bl s).drop k)):=by
 have a:s[k]≠32:=by rintro e;rw[e]at hd;revert hd;decide
 rw[ZjD s k h a];unfold lexC;rw[if_pos hd,<-ZdW s k h]
theorem Zx3{s:BA}{k:Nat}{h:k<s.size}(hd:ZC s[k]=false)(a:Zp s[k]=true):Zk (bl s) k=(if 8<run Zp ((bl s).drop k)then ⟨5,[],k⟩else ⟨2,((bl s).drop k).take (run Zp ((bl s).drop k)),k⟩,k+run Zp ((bl s).drop k)):=by
 have c:s[k]≠32:=by rintro e;rw[e]at a;revert a;decide
 rw[ZjD s k h c];unfold lexC;rw[if_neg (by simp_all),if_pos a,<-ZdW s k h]
theorem ZdY(s:BA)(l:LB):(s.toList == l)=decide (l=bl s):=by
 rw[Zbt,Ybh,beq_iff_eq,decide_eq_true_iff];exact⟨fun h=>h.symm,fun h=>h.symm⟩
theorem ZlO (w : LB) : ∀ l : List (LB), (idx w l).isSome = l.any (fun x => decide (x = w))
  | []=>rfl
  | x :: l => by
    unfold idx;rw[List.any_cons];by_cases h:x=w
    · rw[if_pos h];simp[h]
    · rw[if_neg h,Option.isSome_map,ZlO w l];simp[h]
theorem ZpX(s:BA)(w:World) :
  CP 104 #[.string s] w fun e u=>e=.returned (.bool (idx (bl s) ZW).isSome)/\u=w:=by
 have e1:=ZdY s [115,117,109];have e2:=ZdY s [109,97,120];have e3:=ZdY s [109,105,110];have e4:=ZdY s [99,111,117,110,116];have a:Hid ((idx (bl s) ZW).isSome=(decide _ || (decide _ || (decide _ || (decide _ || false))))):=ZlO _ _;rw[a];generalize decide ([115,117,109]=bl s)=b1 at *
 generalize decide ([109,97,120]=bl s)=b2 at *
 generalize decide ([109,105,110]=bl s)=b3 at *
 generalize decide ([99,111,117,110,116]=bl s)=b4 at *
 cases b1
 ·cases b2
  ·cases b3
   ·cases b4
    ·go_enter func104,ntmps104;go_wp2;go_ret;exact⟨rfl,rfl⟩
    ·go_enter func104,ntmps104;go_wp2;go_ret;exact⟨rfl,rfl⟩
   ·go_enter func104,ntmps104;go_wp2;go_ret;exact⟨rfl,rfl⟩
  ·go_enter func104,ntmps104;go_wp2;go_ret;exact⟨rfl,rfl⟩
 ·go_enter func104,ntmps104;go_wp2;go_ret;exact⟨rfl,rfl⟩
theorem ZpZ(s:BA)(w:World) :
  CP 106 #[.string s] w fun e u=>e=.returned (.bool (idx (bl s) Z0).isSome)/\u=w:=by
 have e1:=ZdY s [116,111,116,97,108];have e2:=ZdY s [112,101,97,107];have e3:=ZdY s [108,111,119];have e4:=ZdY s [115,105,122,101];have e5:=ZdY s [114,105,115,101];have a:Hid ((idx (bl s) Z0).isSome=(decide _ || (decide _ || (decide _ || (decide _ || (decide _ || false)))))):=ZlO _ _;rw[a];generalize decide ([116,111,116,97,108]=bl s)=b1 at *
 generalize decide ([112,101,97,107]=bl s)=b2 at *
 generalize decide ([108,111,119]=bl s)=b3 at *
 generalize decide ([115,105,122,101]=bl s)=b4 at *
 generalize decide ([114,105,115,101]=bl s)=b5 at *
 cases b1
 ·cases b2
  ·cases b3
   ·cases b4
    ·cases b5
     ·go_enter func106,ntmps106;go_wp2;go_ret;exact⟨rfl,rfl⟩
     ·go_enter func106,ntmps106;go_wp2;go_ret;exact⟨rfl,rfl⟩
    ·go_enter func106,ntmps106;go_wp2;go_ret;exact⟨rfl,rfl⟩
   ·go_enter func106,ntmps106;go_wp2;go_ret;exact⟨rfl,rfl⟩
  ·go_enter func106,ntmps106;go_wp2;go_ret;exact⟨rfl,rfl⟩
 ·go_enter func106,ntmps106;go_wp2;go_ret;exact⟨rfl,rfl⟩
theorem Zur(s:BA)(w:World) :
  CP 171 #[.string s] w fun e u=>e=.returned (.bool (!decide (wOr=bl s) && !decide (wBy=bl s) && !(idx (bl s) ZW).isSome && !(idx (bl s) Z0).isSome))/\u=w:=by
 have e1:=ZdY s [111,114];have e2:=ZdY s [98,121];have a:=hid (ZpX s);have c:=hid (ZpZ s);show Calls _ _ _ _ fun e u=>e=.returned (.bool (!decide ([111,114]=bl s) && !decide ([98,121]=bl s) && !(idx (bl s) ZW).isSome && !(idx (bl s) Z0).isSome))/\u=w;generalize decide ([111,114]=bl s)=b1 at *
 generalize decide ([98,121]=bl s)=b2 at *
 generalize(idx (bl s) ZW).isSome=b3 at *
 generalize(idx (bl s) Z0).isSome=b4 at *
 cases b1 <;> cases b2 <;> cases b3 <;> cases b4
 all_goals
  go_enter func171,ntmps171
  go_wp2_with (first|(go_at_call 104;refine cret (a.out _) ?_)|(go_at_call 106;refine cret (c.out _) ?_))
  go_ret;exact⟨rfl,rfl⟩
def Zdt(t:Tok):Prop:=(t.jk=2->t.txt.all Zp=true)/\(t.jk=4->t.txt.all (fun c=>!Zp c)=true)
def ZeQ:List Tok->Prop
 | []=>False
 | [t]=>t.jk=0∨t.jk=5
 | t::u::l=>(t.jk=1∨t.jk=2∨t.jk=3∨t.jk=4)/\Zdt t/\ZeQ (u::l)
theorem ZeQ.tail{ts:List Tok}(h:ZeQ ts)(a:¬((hd ts).jk=0∨(hd ts).jk=5)):ZeQ ts.tail/\1<ts.length:=by
 match ts,h with
 | [t],h=>exact absurd h a
 | t::u::l,h=>exact⟨h.2.2,by simp⟩
theorem ZeQ.head{ts:List Tok}(h:ZeQ ts):Zdt (hd ts)/\0<ts.length/\(hd ts).jk<=5:=by
 match ts,h with
 | [t],h=>
  have a:t.jk=0∨t.jk=5:=h;refine⟨⟨fun e=>?_,fun e=>?_⟩,by simp,?_⟩
  ·exact absurd (show t.jk=2 from e) Om
  ·exact absurd (show t.jk=4 from e) Om
  ·show t.jk<=5;omega
 | t::u::l,h=>exact⟨h.2.1,by simp,by have:=h.1;show t.jk<=5;omega⟩
theorem ZkF{p:PTok}{l:List PTok}{ts:List Tok}(h:Zci (p::l) ts):Zdf p (hd ts)/\Zci l ts.tail:=by
 match ts,h with
 | t::m,h=>exact h
structure RS where
 b:Nat
 g:Nat
 cp:Nat
 ps:List PTok
 sy:Addr
 dp:Addr
structure RK (w:World) (R:RS) (k:Nat) (ts:List Tok):Prop where
 rd:RD w R.b R.g R.cp R.ps k
 all:Zci (R.ps.drop k) ts
 wf:ZeQ ts
 len:R.ps.length<=302
 sy:w.cell? ⟨1,0,none⟩=some (.iface 432 (.pointer (some R.sy)))
 dp:w.cell? ⟨2,0,none⟩=some (.iface 432 (.pointer (some R.dp)))
theorem RK.lt{w:World}{R:RS}{k:Nat}{ts:List Tok}(h:RK w R k ts):k<R.ps.length:=h.rd.lt
theorem RK.tok{w:World}{R:RS}{k:Nat}{ts:List Tok}(h:RK w R k ts):Zdf (R.ps[k]'h.lt) (hd ts):=by
 have a:=h.all;rw[List.drop_eq_getElem_cons h.lt]at a;exact(ZkF a).1
theorem RK.size{w:World}{R:RS}{k:Nat}{ts:List Tok}(h:RK w R k ts):k+ts.length=R.ps.length:=by
 have:=h.all.length;rw[Ybv]at this;have:=h.lt;omega
theorem Zn6{w:World}{b g:Nat}{c0 c1:Value}{u v:Value}{t:TypeId}(a:w.heap[b]?=some (.cells #[c0,c1] t (0,0)))(hg:w.cell? ⟨g,0,none⟩=some v)(c:c0≠v)(_:u=u):g≠b:=by
 rintro rfl;simp[World.cell?,a]at hg
 simp_all
theorem RK.glob{w:World}{R:RS}{k:Nat}{ts:List Tok}(h:RK w R k ts):1≠R.b/\2≠R.b:=
 ⟨Zn6 (u:=.nilIface) h.rd.cells h.sy (by simp) rfl,Zn6 (u:=.nilIface) h.rd.cells h.dp (by simp) rfl⟩
theorem RK.below{w w':World}{R:RS}{k:Nat}{ts:List Tok}(h:RK w R k ts)(a:BW w w'):RK w' R k ts:=
 ⟨h.rd.below a,h.all,h.wf,h.len,(a.cell (Yai _ _ h.sy)).trans h.sy,(a.cell (Yai _ _ h.dp)).trans h.dp⟩
theorem RK.blocks{w w':World}{R:RS}{k:Nat}{ts:List Tok}(h:RK w R k ts)(hg:∀j,j<w.heap.size->(j=R.b∨j=R.g∨j=1∨j=2)->w'.heap[j]?=w.heap[j]?):RK w' R k ts:=by
 have a:=Yai _ _ h.sy;have c:=Yai _ _ h.dp;refine⟨⟨?_,?_,h.lt⟩,h.all,h.wf,h.len,?_,?_⟩
 ·exact(hg _ (Yae.1 h.rd.cells).1 (.inl rfl)).trans h.rd.cells
 ·exact ZdA h.rd.own (fun j d => by
    have:j=R.g:=by simpa [Value.ownBlock] using d.symm
    subst this;exact hg _ (Z1 h.rd.own) (.inr (.inl rfl)))
 ·exact(Ycc (hg _ a (.inr (.inr (.inl rfl))))).trans h.sy
 ·exact(Ycc (hg _ c (.inr (.inr (.inr rfl))))).trans h.dp
theorem RK.step{w:World}{R:RS}{k:Nat}{ts:List Tok}(h:RK w R k ts)(c:¬((hd ts).jk=0∨(hd ts).jk=5)):RK (w.setCell ⟨R.b,1,none⟩ (Vi ((k+1:Nat):Int))) R (k+1) ts.tail:=by
 obtain⟨d,e⟩:=h.wf.tail c;have f:=h.size;obtain⟨g1,g2⟩:=h.glob;refine⟨h.rd.step Om,?_,d,h.len,?_,?_⟩
 ·have a:=h.all;rw[List.drop_eq_getElem_cons h.lt]at a;exact(ZkF a).2
 ·exact(Ycc (Go.Deep.blk_setCell_other _ _ _ _ g1)).trans h.sy
 ·exact(Ycc (Go.Deep.blk_setCell_other _ _ _ _ g2)).trans h.dp
theorem ZM.lt{w:World}{v:Value}{p:Int}{a:Addr}(h:ZM w v p a):∃fa:Nat,v=.iface 81 (Vp fa):=by
 obtain⟨fa,c,_⟩:=h;simp_all
theorem ZM.grown{w w':World}{v:Value}{p:Int}{a:Addr}(h:ZM w v p a){b:Nat}(hg:w.grownBy w' (some b)){c:Array Value}{t:TypeId}{fr:Nat×Nat}(g:w.heap[b]?=some (.cells c t fr))(i:t≠85):ZM w' v p a:=by
 obtain⟨fa,f,d⟩:=h;refine⟨fa,f,(hg.block _ (Yae.1 d).1 ?_).trans d⟩;intro e
 simp_all
def Z9(w:World)(R:RS)(e:Nat×Nat)(v:Value):Prop:=(e.1=2/\ZM w v e.2 R.sy)∨(e.1=3/\ZM w v e.2 R.dp)
theorem Z9.below{w w':World}{R:RS}{e:Nat×Nat}{v:Value}(h:Z9 w R e v)(d:BW w w'):Z9 w' R e v:=by
 rcases h with ⟨a,c⟩|⟨a,c⟩
 ·exact .inl ⟨a,c.below d⟩
 ·exact .inr ⟨a,c.below d⟩
theorem Z9.shape{w:World}{R:RS}{e:Nat×Nat}{v:Value}(h:Z9 w R e v):∃fa:Nat,v=.iface 81 (Vp fa):=by
 rcases h with ⟨_,a⟩|⟨_,a⟩ <;> exact a.lt
def Res{α:Type}(R:RS)(V:World->α->Prop)(w:World)(r:Out α)(v:Value):Prop:=match r with
 | .error e=>Z9 w R e v
 | .ok x=>v=.nilIface/\(∃k,RK w R k x.2)/\V w x.1
theorem Ze0{k:Nat}(h:k<=5):(pk k=3 ↔ k=4)/\(pk k=1 ↔ k=2)/\(pk k=2 ↔ k=3)/\(pk k=0 ↔ k=1)/\(pk k=4 ↔ k=0):=by
 unfold pk
 match k,h with
 | 0,_=>decide
 | 1,_=>decide
 | 2,_=>decide
 | 3,_=>decide
 | 4,_=>decide
 | 5,_=>decide
theorem Zrg {l : LB} (d : l.all Zp = true) (e : l.all (fun c => !Zp c) = true) : l = [] := by
  cases l with
  | nil=>rfl
  | cons a l=>
    simp_all
theorem ZdP {p : PTok} {t : Tok} (h : Zdf p t) (f : Zdt t) (g : t.jk <= 5) {s : BA} (l : (bl s).all (fun c => !Zp c) = true) (d : bl s ≠ []) : ZY p s = isT (bl s) t := by
  obtain⟨i,_,j,_⟩:=h;unfold ZY isT;rw[i,Zbt,Zbt,j];have m:=(Ze0 g).1;by_cases a:t.txt=bl s
  · rw[beq_iff_eq.2 a,Yd3,Yd3]
    have k:t.jk≠2:=fun e=>d (by rw[<-a];exact Zrg (f.1 e) (by simp_all));rw[beq_eq_false_iff_ne.2 k,Yft,Ybh,beq_iff_eq,beq_iff_eq];omega
  · rw[beq_eq_false_iff_ne.2 a,Ydi,Ydi]
theorem Znz{p:PTok}{t:Tok}(h:Zdf p t)(d:Zdt t)(f:t.jk<=5){s:BA}(k:(bl s).all Zp=true)(c:bl s≠[]):ZdF p s=isT (bl s) t:=by
 obtain⟨g,_,i,_⟩:=h;unfold ZdF isT;rw[g,Zbt,Zbt,i];have l:=(Ze0 f).2.1;by_cases a:t.txt=bl s
 ·rw[beq_iff_eq.2 a,Yd3,Yd3];have j:t.jk≠4:=fun e=>c (by rw[<-a];exact Zrg (by simp_all) (d.2 e));rw[beq_eq_false_iff_ne.2 j,Bool.or_false,Ybh,beq_iff_eq,beq_iff_eq];omega
 ·rw[beq_eq_false_iff_ne.2 a,Ydi,Ydi]
theorem Zd3{s:LB}{t:Tok}(h:isT s t=true):¬(t.jk=0∨t.jk=5):=by
 unfold isT at h
 simp_all;omega
theorem Took.res{w w':World}{R:RS}{k:Nat}{ts:List Tok}{ok:Bool}{v:Value}(h:RK w R k ts)(hg:w.grownBy w' (some R.b))(i:Took w' R.b R.g R.cp R.ps k R.sy (R.ps[k]'h.lt).at_ ok v)(j:ok=true->¬((hd ts).jk=0∨(hd ts).jk=5)){α:Type}{V:World->α->Prop}{a:α}(l:ok=true->V w' a) :
  Res R V w' (if ok then .ok (a,ts.tail)else .error (2,(hd ts).at_)) v:=by
 have n:=h.tok.2.1;rcases i with ⟨rfl,rfl,c⟩|⟨rfl,o,c⟩
 ·have d:=j rfl;obtain⟨m,p⟩:=h.wf.tail d;obtain⟨g1,g2⟩:=h.glob;refine⟨rfl,⟨k+1,c,?_,m,h.len,?_,?_⟩,l rfl⟩
  ·have f:=h.all;rw[List.drop_eq_getElem_cons h.lt]at f;exact(ZkF f).2
  ·exact(Ycc (hg.block _ (Yai _ _ h.sy) (fun e=>g1 (Yax e)))).trans h.sy
  ·exact(Ycc (hg.block _ (Yai _ _ h.dp) (fun e=>g2 (Yax e)))).trans h.dp
 constructor<;>simp_all
theorem ZdT {w : World} {R : RS} {k : Nat} {ts : List Tok} (h : RK w R k ts) (s : BA) (g : (bl s).all (fun c => !Zp c) = true) (f : bl s ≠ []) :
    CP 166 #[Vp R.b,.string s] w fun e u=>∃v,e=.returned v/\Hid (Res R (fun _ (_:Unit)=>True) u (Zq (bl s) ts) v)/\w.grownBy u (some R.b):=by
  have d:=ZdP h.tok h.wf.head.1 h.wf.head.2.2 g f
  have i : ZY _ s = true -> k + 1 < R.ps.length := fun e => by
    have:=(h.wf.tail (Zd3 (d.symm.trans e))).2;have:=h.size;omega
  refine(ZC5 h.rd s i (by have:=h.len;omega) h.sy).mono ?_;rintro e u ⟨v,rfl,j,hg⟩;refine⟨v,rfl,?_,hg⟩;have:=j.res (V:=fun _ _=>True) (a:=()) h hg (fun e=>Zd3 (d.symm.trans e)) (fun _=>trivial);rw[d]at this;exact this
theorem ZC8{w:World}{R:RS}{k:Nat}{ts:List Tok}(h:RK w R k ts){s:BA}(f:(bl s).all Zp=true)(d:bl s≠[]) :
  CP 167 #[Vp R.b,.string s] w fun e u=>∃v,e=.returned v/\Hid (Res R (fun _ (_:Unit)=>True) u (Zq (bl s) ts) v)/\w.grownBy u (some R.b):=by
 have c:=Znz h.tok h.wf.head.1 h.wf.head.2.2 f d
 have g : ZdF _ s = true -> k + 1 < R.ps.length := fun e => by
   have:=(h.wf.tail (Zd3 (c.symm.trans e))).2;have:=h.size;omega
 refine(ZC7 h.rd s g (by have:=h.len;omega) h.sy).mono ?_;rintro e u ⟨v,rfl,i,hg⟩;refine⟨v,rfl,?_,hg⟩;have:=i.res (V:=fun _ _=>True) (a:=()) h hg (fun e=>Zd3 (c.symm.trans e)) (fun _=>trivial);rw[c]at this;exact this
theorem Zzc{p:PTok}{t:Tok}(h:Zdf p t)(a:t.jk<=5):ZeX p=decide (t.jk=2):=by
 unfold ZeX;rw[h.1,Ybh,beq_iff_eq,decide_eq_true_iff];have c:=(Ze0 a).2.1;omega
theorem Zkk{w:World}{R:RS}{k:Nat}{ts:List Tok}(h:RK w R k ts) :
  CP 169 #[Vp R.b] w fun e u=>∃(x:BA) (v:Value),e=.returned (.tuple #[.string x,v])/\Hid (Res R (fun _ a=>bl x=a) u (ZH 2 ts) v)/\w.grownBy u (some R.b):=by
 have f:=Zzc h.tok h.wf.head.2.2
 have d : ZeX _ = true -> ¬ ((hd ts).jk = 0 ∨ (hd ts).jk = 5) := fun e => by
   have:=of_decide_eq_true (f.symm.trans e);omega
 have i : ZeX _ = true -> k + 1 < R.ps.length := fun e => by
   have:=(h.wf.tail (d e)).2;have:=h.size;omega
 refine(ZC6 h.rd i (by have:=h.len;omega) h.sy).mono ?_;rintro e u ⟨x,v,rfl,g,hg⟩;refine⟨x,v,rfl,?_,hg⟩;have:=g.1.res (V:=fun _ a=>bl x=a) h hg d (fun e=>g.2 e▸h.tok.2.2.1);rw[f]at this;unfold ZH;by_cases c:(hd ts).jk=2
 ·rw[if_pos c];rw[decide_eq_true c]at this;exact this
 ·rw[if_neg c];rw[decide_eq_false c]at this;exact this
theorem Zfi{w:World}{R:RS}{k:Nat}{ts:List Tok}(h:RK w R k ts) :
  CP 30 #[Vp R.b] w fun e u=>∃v,e=.returned v/\Hid (Z9 u R (2,(hd ts).at_) v)/\BW w u:=by
 refine(ZiZ h.rd h.sy).mono ?_;rintro e u ⟨v,rfl,a,c⟩;refine⟨v,rfl,.inl ⟨rfl,?_⟩,c⟩;have:=a.out;rw[h.tok.2.1]at this;omega
theorem Zee{w:World}{R:RS}{k:Nat}{ts:List Tok}(h:RK w R k ts) :
  CP 29 #[Vp R.b] w fun e u=>∃t:PTok,e=.returned (.agg #[Vi t.kd,Vi t.at_,.string t.tx,Vi t.v])/\Hid (Zdf t (hd ts))/\BW w u:=by
 refine(ZiF h.rd).mono ?_;rintro e u ⟨rfl,a⟩;exact⟨_,rfl,h.tok,a⟩
theorem Zf6 {t : PTok} {u : Tok} (h : Zdf t u) (d : Zdt u) (f : u.jk <= 5) (s : BA) (g : (bl s).all (fun c => !Zp c) = true) (a : bl s ≠ []) (w : World) :
    CP 102 #[.agg #[Vi t.kd,Vi t.at_,.string t.tx,Vi t.v],.string s] w fun e i=>e=.returned (.bool (isT (bl s) u))/\BW w i:=by
  rw[<-ZdP h d f g a];exact ZlS t s w
theorem Z9.grown{w w':World}{R:RS}{e:Nat×Nat}{v:Value}(h:Z9 w R e v){b:Nat}(hg:w.grownBy w' (some b)){c:Array Value}{t:TypeId}{fr:Nat×Nat}(f:w.heap[b]?=some (.cells c t fr))(g:t≠85):Z9 w' R e v:=by
 rcases h with ⟨a,d⟩|⟨a,d⟩
 ·exact Or.inl ⟨a,d.grown hg f g⟩
 ·exact Or.inr ⟨a,d.grown hg f g⟩
def BAt(w:World)(a:Nat)(c:List Value)(t:TypeId):Prop:=w.heap[a]?=some (.cells ⟨c⟩ t (0,0))
theorem BAt.cell{w:World}{a:Nat}{c:List Value}{t:TypeId}(h:BAt w a c t)(i:Nat):w.cell? ⟨a,i,none⟩=c[i]?:=by
 unfold BAt at h;simp[World.cell?,h]
theorem BAt.frozen{w:World}{a:Nat}{c:List Value}{t:TypeId}(h:BAt w a c t)(i:Nat):w.frozen? ⟨a,i,none⟩=false:=by
 unfold BAt at h;simp[World.frozen?,h]
theorem BAt.lt{w:World}{a:Nat}{c:List Value}{t:TypeId}(h:BAt w a c t):a<w.heap.size:=(Yae.1 h).1
theorem BAt.grown{w w':World}{a:Nat}{c:List Value}{t:TypeId}{r:Option Nat}(h:BAt w a c t)(hg:w.grownBy w' r)(d:some a≠r):BAt w' a c t:=(hg.block a h.lt d).trans h
theorem BAt.below{w w':World}{a:Nat}{c:List Value}{t:TypeId}(h:BAt w a c t)(d:BW w w'):BAt w' a c t:=(d.block a h.lt).trans h
theorem BAt.other{w:World}{a:Nat}{c:List Value}{t:TypeId}(h:BAt w a c t){p:Addr}(d:a≠p.block)(v:Value):BAt (w.setCell p v) a c t:=(Go.Deep.blk_setCell_other _ _ _ _ d).trans h
def set3(w:World)(a:Nat)(x y z:Value):World:=((w.setCell ⟨a,0,none⟩ x).setCell ⟨a,1,none⟩ y).setCell ⟨a,2,none⟩ z
theorem Zcr{w:World}{a:Nat}{p q r x y z:Value}{t:TypeId}(h:BAt w a [p,q,r] t):BAt (set3 w a x y z) a [x,y,z] t:=by
 unfold BAt at h;unfold BAt set3;simp only[World.setCell,Ybn,h,if_true,Ybf];rfl
theorem ret3{P:Program}{fn:Func}{R:Ending->World->Prop}{a:Act}{v:World}{b:Nat}{p q u x y z r:Value}{t:TypeId}(c:∀W:World,W.cell? ⟨b,0,none⟩=some x->W.cell? ⟨b,1,none⟩=some y->W.cell? ⟨b,2,none⟩=some z->(results fn a.tmps).run P W=.ok r W)(hd:a.defers=[])(d:BAt v b [p,q,u] t)(e:R (.returned r) (set3 v b x y z)):bodyPost P fn R .ret a (set3 v b x y z):=by
 have s:=Zcr d (x:=x) (y:=y) (z:=z);exact bodyPost_ret (c _ (s.cell 0) (s.cell 1) (s.cell 2)) hd e
theorem Zsf{w:World}{a:Nat}{x y z:Value}{b:Nat}(c:b≠a):(set3 w a x y z).heap[b]?=w.heap[b]?:=by
 unfold set3;rw[Go.Deep.blk_setCell_other _ _ _ _ c,Go.Deep.blk_setCell_other _ _ _ _ c,Go.Deep.blk_setCell_other _ _ _ _ c]
theorem Ze4{w0 w:World}{a b:Nat}(h:w0.grownBy w (some b))(c:w0.heap.size<=a)(x y z:Value):w0.grownBy (set3 w a x y z) (some b):=
 ZA (ZA (ZA h (Or.inr c) _) (Or.inr c) _) (Or.inr c) _
theorem RK.fresh{w0 w w':World}{R:RS}{k0 k:Nat}{ts0 ts:List Tok}(c:RK w0 R k0 ts0)(h:RK w R k ts){a:Nat}(l:w0.heap.size<=a)(hg:∀j,j≠a->w'.heap[j]?=w.heap[j]?):RK w' R k ts:=by
 refine h.blocks (fun j _ d=>hg j ?_);have m:=(Yae.1 c.rd.cells).1;have n:=Z1 c.rd.own;have e:=Yai _ _ c.sy;have f:=Yai _ _ c.dp;have g:1<w0.heap.size:=e;have i:2<w0.heap.size:=f;rcases d with rfl|rfl|rfl|rfl <;> omega
theorem Z9.set3{w:World}{R:RS}{e:Nat×Nat}{v:Value}(h:Z9 w R e v){a:Nat}{c:List Value}{t:TypeId}(d:BAt w a c t)(f:t≠85)(x y z:Value):Z9 (set3 w a x y z) R e v:=by
 refine h.grown (b:=a) ?_ d f;exact ZA (ZA (ZA (ZbM w (some a)) (Or.inl rfl) _) (Or.inl rfl) _) (Or.inl rfl) _
theorem Zfr{k:Nat}{ts:List Tok}(h:(hd ts).jk=k):ZH k ts=.ok ((hd ts).txt,ts.tail):=if_pos h
theorem Zgb{k:Nat}{ts:List Tok}(h:¬(hd ts).jk=k):ZH k ts=.error (2,(hd ts).at_):=if_neg h
theorem Zic{s:LB}{t:Tok}(h:isT s t=true):t.txt=s:=by
 unfold isT at h;rw[Yas,beq_iff_eq]at h;exact h.2
theorem ZeV{s u:LB}{t:Tok}(h:isT s t=true)(a:s≠u):isT u t=false:=by
 have:=Zic h;unfold isT;rw[this,beq_eq_false_iff_ne.2 a,Ydi]
theorem ZP{P:Program}{c:Code}{Q:Exit->Act->World->Prop}{a:Act}{w:World}(h:∀W,W=w->Code.wp P c Q a W):Code.wp P c Q a w:=h w rfl
theorem Zm{P:Program}{f:FuncId}{args:Array Value}{w:World}{Q:Ending->World->Prop}(h:∀W,W=w->Calls P f args W Q):Calls P f args w Q:=h w rfl
theorem Zou{w:World}{R:RS}{k:Nat}{ts:List Tok}(h:RK w R k ts) :
  CP 173 #[Vp R.b] w fun e u=>∃(x:BA) (ng:Bool) (y:BA) (v:Value),e=.returned (.tuple #[.agg #[.string x,.bool ng,.string y],v])/\Hid (Res R (fun _ c=>bl x=c.1/\bl y=c.2.1/\ng=c.2.2) u (ZV ts) v)/\w.grownBy u (some R.b):=by
 have H:Hid (RK w R k ts):=h;have e4:R.b<w.heap.size:=(Yae.1 h.rd.cells).1;go_enter func173,ntmps173
 go_wp2_with fail
 refine Zm fun W0 a7=>?_;have c7:Hid (RK W0 R k ts):=hid (by rw[a7];exact H.below Zbal);have c8:Hid (BAt W0 w.heap.size [.string ByteArray.empty,.bool false,.string ByteArray.empty] 224):=hid (by rw[a7];exact bnw);have c9:Hid (w.grownBy W0 (some R.b)):=hid (by rw[a7];exact ZbR (ZbM _ _) _);refine(Zkk c7.out).mono ?_;rintro e w1 ⟨x,v,rfl,q,hg⟩;have L:Hid (BAt w1 w.heap.size [.string ByteArray.empty,.bool false,.string ByteArray.empty] 224):=c8.grown hg (by simp;omega);have c3:Hid (w.grownBy w1 (some R.b)):=Zj c9.out hg;by_cases G:(hd ts).jk=2
 ·rw[Zfr G]at q;obtain⟨rfl,⟨k1,d4⟩,hx⟩:=q.out;have c4:Hid (RK w1 R k1 ts.tail):=d4;have HX:Hid (bl x=(hd ts).txt):=hx
  go_wp2_with fail
  refine(Zee c4.out).mono ?_;rintro e z ⟨⟨kd,at_,tx,tv⟩,rfl,ht,a8⟩;have d5:=hid (L.below a8);have M:Hid (w.grownBy z (some R.b)):=Zj c3.out (Zw a8);have d6:Hid (RK z R k1 ts.tail):=c4.below a8
  go_wp2_with fail
  refine Zm fun W1 c5=>?_;have a9:BW z W1:=by rw[c5];exact Zbal
  have d7:Hid (BAt W1 z.heap.size [Vi kd,Vi at_,.string tx,Vi tv] 74):=hid (by rw[c5];exact bnw);have d8:=hid (d5.below a9);have d9:Hid (w.grownBy W1 (some R.b)):=Zj M.out (Zw a9);have b0:Hid (RK W1 R k1 ts.tail):=d6.below a9;refine(Zf6 ht.out b0.wf.head.1 b0.wf.head.2.2 ⟨#[61]⟩ Dc Dc W1).mono ?_;rintro e w3 ⟨rfl,a4⟩;have s:=hid (d7.below a4);have b1:=hid (d8.below a4);have b2:Hid (w.grownBy w3 (some R.b)):=Zj d9.out (Zw a4);have N:Hid (RK w3 R k1 ts.tail):=b0.below a4;by_cases I:isT [61] (hd ts.tail)=true
  ·rw[show isT (bl ⟨#[61]⟩) (hd ts.tail)=true from I];have b3:tx=⟨#[61]⟩:=ZcW (ht.2.2.1.trans (Zic I));subst b3;have HD:Hid (¬((hd ts.tail).jk=0∨(hd ts.tail).jk=5)):=Zd3 I;have O:Hid (ZV ts=bnd (ZH 3 ts.tail.tail) fun b r=>.ok (((hd ts).txt,b,false),r)):=hid (by unfold ZV;rw[Zfr G];show bnd (Zdc ts.tail) _=_;unfold Zdc;rw[if_neg (by rw[ZeV I Dc];decide)];unfold Zq;rw[if_pos I];rfl);have n:=N;have a5:=b2;have a6:=b1;have b4:=s;obtain⟨rc0,rc1,rfz,_⟩:=n.rd.all;have e0:=n.lt;have e1:=n.len
   go_wp2_with fail
   refine Zm fun J o=>?_;have t:Hid (RK J R (k1+1) ts.tail.tail):=hid (by rw[o];exact n.step HD.out);have P:Hid (w.grownBy J (some R.b)):=hid (by rw[o];exact ZA a5.out (Or.inl rfl) _);have Q:Hid (BAt J w.heap.size [.string ByteArray.empty,.bool false,.string ByteArray.empty] 224):=hid (by rw[o];exact a6.other (by show w.heap.size≠R.b;omega) _);have S:Hid (BAt J z.heap.size [Vi kd,Vi at_,.string ⟨#[61]⟩,Vi tv] 74):=hid (by rw[o];exact b4.other (by show z.heap.size≠R.b;have:=M.size;omega) _);refine(Zee t.out).mono ?_;rintro e f ⟨⟨kd2,at2,tx2,tv2⟩,rfl,A,g⟩;have T:=hid (Q.below g);have U:=hid (S.below g);have B:Hid (w.grownBy f (some R.b)):=Zj P.out (Zw g);have V:Hid (RK f R (k1+1) ts.tail.tail):=t.below g;clear g t P Q S
   go_upto_region 9 with fail
   refine ZP fun K C=>?_;have i:BW f K:=by rw[C];exact Zbal
   have X:Hid (BAt K f.heap.size [Vi kd2,Vi at2,.string tx2,Vi tv2] 74):=hid (by rw[C];exact bnw);have Y:=hid (T.below i);have b5:=hid (U.below i);have Z:Hid (w.grownBy K (some R.b)):=Zj B.out (Zw i);have l:Hid (RK K R (k1+1) ts.tail.tail):=V.below i;have e3:R.b<f.heap.size:=by have:=B.size;omega
   clear C i T U V B;have t0:=X.cell;by_cases p:(hd ts.tail.tail).jk=3
   ·have a0:kd2=2:=by have:=A.1;rw[p]at this;exact this
    subst a0;have b6:Hid (ZV ts=.ok (((hd ts).txt,(hd ts.tail.tail).txt,false),ts.tail.tail.tail)):=hid (by rw[O.out,Zfr p];rfl);have b7:Hid (bl tx2=(hd ts.tail.tail).txt):=A.2.2.1;obtain⟨rc0,rc1,rfz,_⟩:=l.rd.all;have c6:=l.lt
    go_upto_region 12 with fail
    refine ZP fun D d=>?_;have b8:Hid (RK D R (k1+1+1) ts.tail.tail.tail):=hid (by rw[d];exact l.step Om);have b9:Hid (w.grownBy D (some R.b)):=hid (by rw[d];exact ZA Z.out (Or.inl rfl) _);have E:Hid (BAt D w.heap.size [.string ByteArray.empty,.bool false,.string ByteArray.empty] 224):=hid (by rw[d];exact Y.other (by show w.heap.size≠R.b;omega) _);have c1:Hid (BAt D z.heap.size [Vi kd,Vi at_,.string ⟨#[61]⟩,Vi tv] 74):=hid (by rw[d];exact b5.other (by show z.heap.size≠R.b;have:=M.size;omega) _);have c2:Hid (BAt D f.heap.size [Vi 2,Vi at2,.string tx2,Vi tv2] 74):=hid (by rw[d];exact X.other (by show f.heap.size≠R.b;omega) _);clear d rc0 rc1 rfz t0;have f0:=E.frozen;have c0:=E.cell;have d2:=c1.cell;have e2:=c2.cell;go_wp2;exact ret3 (r:=.tuple #[.agg #[.string x,.bool false,.string tx2],.nilIface]) (fun W s0 s1 s2=>by simp[results,results173,go_sem,s0,s1,s2]) rfl E.out ⟨_,_,_,_,rfl,by rw[b6.out];exact⟨rfl,⟨_,(RK.fresh H.out b8.out (Yac _) (fun j hj=>Zsf hj))⟩,HX.out,b7.out,rfl⟩,Ze4 b9.out (Yac _) _ _ _⟩
   ·have a0:((kd2:Int) != 2)=true:=by
     rw[bne_iff_ne];intro e;exact p ((Ze0 l.wf.head.2.2).2.2.1.1 (by have:=A.1;simp only at this;omega))
    have a1:Hid (ZV ts=.error (2,(hd ts.tail.tail).at_)):=hid (by rw[O.out,Zgb p];rfl)
    go_wp2_with fail
    refine(Zfi l.out).mono ?_;rintro e wE ⟨v,rfl,F,m⟩;obtain⟨fa,rfl⟩:=F.shape;have a:=hid (Y.below m);have a2:Hid (w.grownBy wE (some R.b)):=Zj Z.out (Zw m);clear m;have f0:=a.frozen;have c0:=a.cell;go_wp2;exact ret3 (r:=.tuple #[.agg #[.string ⟨#[]⟩,.bool false,.string ⟨#[]⟩],.iface 81 (Vp fa)]) (fun W s0 s1 s2=>by simp[results,results173,go_sem,s0,s1,s2]) rfl a.out ⟨_,_,_,_,rfl,by rw[a1.out];exact F.set3 a.out Dc _ _ _,Ze4 a2.out (Yac _) _ _ _⟩
  ·rw[show isT (bl ⟨#[61]⟩) (hd ts.tail)=false from Yce.2 I];have d0:=s.cell 0;have d1:=s.cell 1;have d2:=s.cell 2;have d3:=s.cell 3;simp only[Zget]at d0 d1 d2 d3
   go_wp2_with fail
   clear d0 d1 d2 d3;refine(Zf6 ht.out N.wf.head.1 N.wf.head.2.2 ⟨#[33,61]⟩ Dc Dc w3).mono ?_;rintro e w4 ⟨rfl,a3⟩;have b4:=hid (s.below a3);have a6:=hid (b1.below a3);have a5:Hid (w.grownBy w4 (some R.b)):=Zj b2.out (Zw a3);have n:Hid (RK w4 R k1 ts.tail):=N.below a3;clear a3 s b1 b2 N;by_cases hB:isT [33,61] (hd ts.tail)=true
   ·rw[show isT (bl ⟨#[33,61]⟩) (hd ts.tail)=true from hB];have b3:tx=⟨#[33,61]⟩:=ZcW (ht.2.2.1.trans (Zic hB));subst b3;have HD:Hid (¬((hd ts.tail).jk=0∨(hd ts.tail).jk=5)):=Zd3 hB;have O:Hid (ZV ts=bnd (ZH 3 ts.tail.tail) fun b r=>.ok (((hd ts).txt,b,true),r)):=hid (by unfold ZV;rw[Zfr G];show bnd (Zdc ts.tail) _=_;unfold Zdc;rw[if_pos hB];rfl);clear I hB;obtain⟨rc0,rc1,rfz,_⟩:=n.rd.all;have e0:=n.lt;have e1:=n.len
    go_wp2_with fail
    refine Zm fun J o=>?_;have t:Hid (RK J R (k1+1) ts.tail.tail):=hid (by rw[o];exact n.step HD.out);have P:Hid (w.grownBy J (some R.b)):=hid (by rw[o];exact ZA a5.out (Or.inl rfl) _);have Q:Hid (BAt J w.heap.size [.string ByteArray.empty,.bool false,.string ByteArray.empty] 224):=hid (by rw[o];exact a6.other (by show w.heap.size≠R.b;omega) _);have S:Hid (BAt J z.heap.size [Vi kd,Vi at_,.string ⟨#[33,61]⟩,Vi tv] 74):=hid (by rw[o];exact b4.other (by show z.heap.size≠R.b;have:=M.size;omega) _);clear o rc0 rc1 rfz;refine(Zee t.out).mono ?_;rintro e f ⟨⟨kd2,at2,tx2,tv2⟩,rfl,A,g⟩;have T:=hid (Q.below g);have U:=hid (S.below g);have B:Hid (w.grownBy f (some R.b)):=Zj P.out (Zw g);have V:Hid (RK f R (k1+1) ts.tail.tail):=t.below g;clear g t P Q S
    go_upto_region 9 with fail
    refine ZP fun K C=>?_;have i:BW f K:=by rw[C];exact Zbal
    have X:Hid (BAt K f.heap.size [Vi kd2,Vi at2,.string tx2,Vi tv2] 74):=hid (by rw[C];exact bnw);have Y:=hid (T.below i);have b5:=hid (U.below i);have Z:Hid (w.grownBy K (some R.b)):=Zj B.out (Zw i);have l:Hid (RK K R (k1+1) ts.tail.tail):=V.below i;have e3:R.b<f.heap.size:=by have:=B.size;omega
    clear C i T U V B;have t0:=X.cell;by_cases p:(hd ts.tail.tail).jk=3
    ·have a0:kd2=2:=by have:=A.1;rw[p]at this;exact this
     subst a0;have b6:Hid (ZV ts=.ok (((hd ts).txt,(hd ts.tail.tail).txt,true),ts.tail.tail.tail)):=hid (by rw[O.out,Zfr p];rfl);have b7:Hid (bl tx2=(hd ts.tail.tail).txt):=A.2.2.1;obtain⟨rc0,rc1,rfz,_⟩:=l.rd.all;have c6:=l.lt
     go_upto_region 12 with fail
     refine ZP fun D d=>?_;have b8:Hid (RK D R (k1+1+1) ts.tail.tail.tail):=hid (by rw[d];exact l.step Om);have b9:Hid (w.grownBy D (some R.b)):=hid (by rw[d];exact ZA Z.out (Or.inl rfl) _);have E:Hid (BAt D w.heap.size [.string ByteArray.empty,.bool false,.string ByteArray.empty] 224):=hid (by rw[d];exact Y.other (by show w.heap.size≠R.b;omega) _);have c1:Hid (BAt D z.heap.size [Vi kd,Vi at_,.string ⟨#[33,61]⟩,Vi tv] 74):=hid (by rw[d];exact b5.other (by show z.heap.size≠R.b;have:=M.size;omega) _);have c2:Hid (BAt D f.heap.size [Vi 2,Vi at2,.string tx2,Vi tv2] 74):=hid (by rw[d];exact X.other (by show f.heap.size≠R.b;omega) _);clear d rc0 rc1 rfz t0;have f0:=E.frozen;have c0:=E.cell;have d2:=c1.cell;have e2:=c2.cell;go_wp2;exact ret3 (r:=.tuple #[.agg #[.string x,.bool true,.string tx2],.nilIface]) (fun W s0 s1 s2=>by simp[results,results173,go_sem,s0,s1,s2]) rfl E.out ⟨_,_,_,_,rfl,by rw[b6.out];exact⟨rfl,⟨_,(RK.fresh H.out b8.out (Yac _) (fun j hj=>Zsf hj))⟩,HX.out,b7.out,rfl⟩,Ze4 b9.out (Yac _) _ _ _⟩
    ·have a0:((kd2:Int) != 2)=true:=by
      rw[bne_iff_ne];intro e;exact p ((Ze0 l.wf.head.2.2).2.2.1.1 (by have:=A.1;simp only at this;omega))
     have a1:Hid (ZV ts=.error (2,(hd ts.tail.tail).at_)):=hid (by rw[O.out,Zgb p];rfl)
     go_wp2_with fail
     refine(Zfi l.out).mono ?_;rintro e wE ⟨v,rfl,F,m⟩;obtain⟨fa,rfl⟩:=F.shape;have a:=hid (Y.below m);have a2:Hid (w.grownBy wE (some R.b)):=Zj Z.out (Zw m);clear m;have f0:=a.frozen;have c0:=a.cell;go_wp2;exact ret3 (r:=.tuple #[.agg #[.string ⟨#[]⟩,.bool false,.string ⟨#[]⟩],.iface 81 (Vp fa)]) (fun W s0 s1 s2=>by simp[results,results173,go_sem,s0,s1,s2]) rfl a.out ⟨_,_,_,_,rfl,by rw[a1.out];exact F.set3 a.out Dc _ _ _,Ze4 a2.out (Yac _) _ _ _⟩
   ·rw[show isT (bl ⟨#[33,61]⟩) (hd ts.tail)=false from Yce.2 hB];have a1:Hid (ZV ts=.error (2,(hd ts.tail).at_)):=hid (by unfold ZV;rw[Zfr G];show bnd (Zdc ts.tail) _=_;unfold Zdc;rw[if_neg hB];unfold Zq;rw[if_neg I];rfl);clear I hB
    go_wp2_with fail
    refine(Zfi n.out).mono ?_;rintro e wE ⟨v,rfl,F,m⟩;obtain⟨fa,rfl⟩:=F.shape;have a:=hid (a6.below m);have a2:Hid (w.grownBy wE (some R.b)):=Zj a5.out (Zw m);clear m;have f0:=a.frozen;have c0:=a.cell;go_wp2;exact ret3 (r:=.tuple #[.agg #[.string ⟨#[]⟩,.bool false,.string ⟨#[]⟩],.iface 81 (Vp fa)]) (fun W s0 s1 s2=>by simp[results,results173,go_sem,s0,s1,s2]) rfl a.out ⟨_,_,_,_,rfl,by rw[a1.out];exact F.set3 a.out Dc _ _ _,Ze4 a2.out (Yac _) _ _ _⟩
 ·rw[Zgb G]at q;obtain⟨fa,rfl⟩:=q.shape;have F:Hid (Z9 w1 R (2,(hd ts).at_) _):=q.out;have HP:Hid (ZV ts=.error (2,(hd ts).at_)):=hid (by unfold ZV;rw[Zgb G];rfl);have f0:=L.frozen;have c0:=L.cell;clear q;go_wp2;exact ret3 (r:=.tuple #[.agg #[.string ⟨#[]⟩,.bool false,.string ⟨#[]⟩],.iface 81 (Vp fa)]) (fun W s0 s1 s2=>by simp[results,results173,go_sem,s0,s1,s2]) rfl L.out ⟨_,_,_,_,rfl,by rw[HP.out];exact F.set3 L.out Dc _ _ _,Ze4 c3.out (Yac _) _ _ _⟩
section
variable {P:Program} {ops:Array Oper} {Q:Exit->Act->World->Prop} {md:Region.Mode} {S:World->Prop} {k:Nat}
def ZcJ(P:Program)(md:Region.Mode)(ops:Array Oper)(Q:Exit->Act->World->Prop)(S:World->Prop)(k:Nat):Nat->Array Bool->Act->World->Prop
 | 0,ls,a,w=>Region.ready md ops ls=[]/\Q .normal a w
 | f + 1, ls, a, w => (Region.ready md ops ls = [] -> Q .normal a w) /\ ∀ i ∈ Region.ready md ops ls,
     wpOp P ops Q i (fun a' w'=>((ls.setIfInBounds i true).getD k true=false->S w')/\ZcJ P md ops Q S k f (ls.setIfInBounds i true) a' w') a w
theorem ZcJ.any:∀(f:Nat) (ls:Array Bool) (a:Act) (w:World),ZcJ P md ops Q S k f ls a w->wpAny P md ops Q f ls a w
 | 0,_,_,_,h=>h
 | f+1,_,_,_,h=>⟨h.1,fun i c=>wpOp_mono (fun _ _ d=>ZcJ.any f _ _ _ d.2) (h.2 i c)⟩
def ZfE(md:Region.Mode)(ops:Array Oper)(ls:Array Bool):Bool:=
 (List.range ops.size).all fun j=>!ls.getD j true || ((ops[j]?).map (·.after.all fun e=>!Region.binds md e || ls.getD e.on false)).getD false
def Zhk(md:Region.Mode)(ops:Array Oper)(i:Nat):Nat->Nat->Bool
 | 0,_=>false
 | n+1,j=>((ops[j]?).map (·.after.any fun e=>Region.binds md e && (e.on == i || Zhk md ops i n e.on))).getD false
theorem Zsl{ls:Array Bool} : ZfE md ops ls=true ↔ ∀j o,ops[j]?=some o->ls.getD j true=true->∀e∈o.after,Region.binds md e=true->ls.getD e.on false=true:=by
 unfold ZfE;rw[Ybu];constructor
 ·intro h j o a c e d g;have f:=h j (Yb9.2 (Yae.1 a).1);rw[c,a]at f;simp only[Bool.not_true,Yft,Ybf,Ya6,Array.all_eq_true']at f;have l:=f e d
  simp_all
 ·intro h j c;rw[Yb9]at c;have a:=Array.getElem?_eq_getElem c;cases i:ls.getD j true with
  | false=>rfl
  | true=>
   rw[a];simp only[Bool.not_true,Yft,Ybf,Ya6,Array.all_eq_true'];intro e d;cases g:Region.binds md e with
   | false=>rfl
   | true=>simpa using h j _ a i e d g
theorem ZCb{ls:Array Bool}{j:Nat}(h:ZfE md ops ls=true)(n:j∈Region.ready md ops ls):ZfE md ops (ls.setIfInBounds j true)=true:=by
 rw[Zsl]at h ⊢;intro i o c f e g l;obtain⟨_,oj,m,d⟩:=mem_ready.1 n;by_cases a:j=i
 ·subst a;rw[m]at c;cases c;exact getD_set_true (d e g l)
 ·rw[getD_set_ne _ a]at f;exact getD_set_true (h i o c f e g l)
theorem Zs6{ls:Array Bool}{i:Nat}(h:ZfE md ops ls=true)(f:ls.getD i true=false):∀(n j:Nat),Zhk md ops i n j=true->ls.getD j true=false
 | 0,_,a=>by cases a
 | n + 1, j, a => by
   cases g:ls.getD j true with
   | false=>rfl
   | true=>
     unfold Zhk at a;cases c:ops[j]? with
     | none=>simp_all
     | some o=>
       rw[c]at a;simp only[Ybf,Ya6,Array.any_eq_true',Yas,Yct,beq_iff_eq]at a;obtain⟨e,l,m,d⟩:=a;have s:=Zsl.1 h j o c g e l m
       have t:ls.getD e.on true=false:=by
         rcases d with r|p
         · simp_all
         · exact Zs6 h f n _ p
       exfalso
       rcases Yav e.on ls.size with q|q
       · simp_all
       simp_all
theorem Ztl{i n:Nat}{oi:Oper}{v:Value}(t:ops[i]?=some oi)(l:∀(j:Nat) (o:Oper) cs b,ops[j]?=some o->o.op≠.select cs b)
  (L:∀c a w,Q (.panic c) (a.put oi.dst v) w->Q (.panic c) a w) (M:Zhk md ops i n k=true) (B:i≠k) :
  ∀(f:Nat) (ls:Array Bool) (a:Act) (w:World),ZfE md ops ls=true->
   (∀j oj,ops[j]?=some oj->j≠i->ls.getD j true=false->(∀e∈oj.after,Region.binds md e=true->e.on≠i)->oi.apart ops oj=true)->
   i∈Region.ready md ops ls->YieldsIf P ops S oi v a->S w->
   ZcJ P md ops Q S k f (ls.setIfInBounds i true) (a.put oi.dst v) w->ZcJ P md ops Q S k (f+1) ls a w
 | 0, ls, a, w, C, g, E, x, p, H => by
   refine⟨fun h=>(by simp_all),fun j q=>?_⟩;by_cases d:j=i
   · subst d;exact x.wpOp t p ⟨fun _=>p,H⟩
   · have z:=ready_mono q d
     rw[H.1]at z;cases z
 | f + 1, ls, a, w, C, g, E, x, p, H => by
   refine⟨fun h=>(by simp_all),fun j q=>?_⟩;by_cases d:j=i
   · subst d;exact x.wpOp t p ⟨fun _=>p,H⟩
   · have z:=H.2 j (ready_mono q d)
     obtain⟨F,oj,r,G⟩:=mem_ready.1 q;have I:=(mem_ready.1 E).1
     have J : ∀ e ∈ oj.after, Region.binds md e = true -> e.on ≠ i := fun e U V N => by
       have K:=G e U V;rw[N]at K;rcases Yav i ls.size with W|W
       · simp_all
       simp_all
     have s:=ZCb C q;have A:(ls.setIfInBounds j true).getD i true=false:=by rw[getD_set_ne true d];exact I
     have X:(ls.setIfInBounds j true).getD k true=false:=Zs6 s A n k M;have K:=wpOp_putIf r (g j oj r d F J) (fun cs b=>l i oi cs b t) (fun cs b=>l j oj cs b r) L x z;refine wpOp_mono (fun a' u O=>?_) K;have D:S u:=O.2.1 (by rw[Ye4 _ _ (Ycp d),getD_set_ne true B];omega);refine⟨fun _=>D,Ztl t l L M B f (ls.setIfInBounds j true) a' u s (fun m om Y R Z T=>g m om Y R ?_ T) (ready_mono E (Ycp d)) O.1 D ?_⟩
     · by_cases a0:j=m
       · simp_all
       simp_all
     · rw[Ye4 _ _ d]
       simp_all
theorem ZeD{i d:Nat}{oi:Oper}{v:Value}{f:Nat}{ls:Array Bool}{a:Act}{w:World}(e:ops[i]?=some oi)(hd:oi.dst=some d)(g:(Region.noSelect ops && Region.free md ops ls i && (Region.ready md ops ls).contains i && Zhk md ops i ops.size k && ZfE md ops ls && i != k)=true)
  (j:∀c a w,Q (.panic c) (a.put oi.dst v) w->Q (.panic c) a w) (l:YieldsIf P ops S oi v a) (m:S w)
  (h:ZcJ P md ops Q S k f (ls.setIfInBounds i true) { a with tmps:=a.tmps.setIfInBounds d v } w):ZcJ P md ops Q S k (f+1) ls a w:=by
 simp only[Yas,bne_iff_ne]at g;obtain⟨⟨⟨⟨⟨n,o⟩,s⟩,p⟩,q⟩,r⟩:=g;exact Ztl e (Region.noSelect_spec n) j p r f _ a w q (Region.free_spec e o) (by simp_all) l m (by rwa [hd])
theorem Z4{i:Nat}{o:Oper}{f:Nat}{ls:Array Bool}{a:Act}{w:World}(e:Region.ready md ops ls=[i])(g:ops[i]?=some o)
  (h:∀K':Act->World->Prop,Shut (∀a w,S w->(S w->ZcJ P md ops Q S k f (ls.setIfInBounds i true) a w)->K' a w)->if Region.wanted o (yielded ops a.tmps)=true then Oper.wp P o a w K' Q else K' (a.put o.dst undef) w):ZcJ P md ops Q S k (f+1) ls a w:=by
 refine⟨fun n=>(by simp_all),fun j c=>?_⟩;rw[e,Yap]at c;subst c;exact wpOp_step g (fun K' l=>h _ (fun a w d m=>l a w ⟨fun _=>d,m d⟩))
theorem Zbl{o:Oper}{f:Nat}{ls:Array Bool}{a:Act}{w:World}(e:Region.ready md ops ls=[k])(c:Region.ready md ops (ls.setIfInBounds k true)=[])(g:ops[k]?=some o)(n:(ls.setIfInBounds k true).getD k true=true)
  (h:∀K':Act->World->Prop,Shut (∀a w,Q .normal a w->K' a w)->if Region.wanted o (yielded ops a.tmps)=true then Oper.wp P o a w K' Q else K' (a.put o.dst undef) w):ZcJ P md ops Q S k (f+1) ls a w:=by
 refine⟨fun i=>(by simp_all),fun j d=>?_⟩;rw[e,Yap]at d;subst d;refine wpOp_step g (fun K' l=>h _ (fun a w m=>l a w ⟨fun i=>(by simp_all),?_⟩));cases f with
 | zero=>exact⟨c,m⟩
 | succ f=>constructor<;>simp_all
theorem Zbn{id:Nat}{a:Act}{w:World}(k:Nat)(S:World->Prop)(c:P.follows .mixedOrders=true)(d:S w.drew)(h:S w.drew->ZcJ P .any ops Q S k ops.size (Array.replicate ops.size false) a w.drew):(Code.region id ops true).wp P Q a w:=
 wp_region_any c (ZcJ.any _ _ _ _ (h d))
end
end Go.Proofs.YtcdgkkfipdoeeaaGreatDoor
namespace Go.Proofs.YtcdgkkfipdoeeaaGreatDoor
open Go.RowKit LS Go.Proofs.Tryz
theorem ZiJ {n:Int} {w:World} : CP 229 #[Vi n] w fun e u => e = .returned (Vi (cutV n)) /\ u = w := by
  rcases(by unfold cutV;split <;> (try split) <;> omega:(1000000000<n/\cutV n=1000000000)∨(n < -1000000000/\cutV n=-1000000000)∨(-1000000000<=n/\n<=1000000000/\cutV n=n))with ⟨h,e⟩|⟨h,e⟩|⟨a,c,e⟩
  all_goals
    rw[e];have d:=hid e;go_enter func229,ntmps229;go_wp2
    all_goals first|omega|(go_ret;exact⟨rfl,rfl⟩)|(go_ret;exact⟨ZBw Om,rfl⟩)|(obtain rfl:n=-1000000000:= Om;go_ret;exact⟨rfl,rfl⟩)
theorem Zks (op : Nat) (g : op <= 3) (a b : Int) (d : vOk a) (f : vOk b) (w : World) : CP 198 #[Vi (op + 1 : Nat), Vi a, Vi b] w fun e u => e = .returned (Vi (twoV op a b)) /\ u = w := by
  obtain⟨a1,a2⟩:=d;obtain⟨b1,b2⟩:=f;rcases(by omega:op=0∨op=1∨op=2∨op=3)with rfl|rfl|rfl|rfl
  · rw[ZDy]
    go_enter func198,ntmps198
    go_wp2_with (go_at_call 229;refine cret (ZiJ) ?_)
    go_ret;exact⟨rfl,rfl⟩
  · rw[ZDz]
    go_enter func198,ntmps198
    go_wp2_with (go_at_call 229;refine cret (ZiJ) ?_)
    go_ret;exact⟨rfl,rfl⟩
  · have i:(Go.IntKind.i64).wrap (a*b)=a*b:=by
      have j:=Zy5 a b a1 a2 b1 b2;generalize a*b=ab at *
      rw[Ybo];omega
    rw[ZDA];go_enter func198,ntmps198
    go_wp2_with (go_at_call 229;refine cret (ZiJ) ?_)
    go_ret;exact⟨rfl,rfl⟩
  · have h:(a.tdiv b).natAbs<=a.natAbs:=by rw[Yff];exact Yfg _ _
    have k:(Go.IntKind.i64).wrap (a.tdiv b)=a.tdiv b:=by rw[Ybo];omega
    by_cases c:b=0
    · subst c
      rw[ZDC];go_enter func198,ntmps198;go_wp2;go_ret;exact⟨rfl,rfl⟩
    · rw[ZDB a b c]
      go_enter func198,ntmps198;go_wp2;go_ret;exact⟨rfl,rfl⟩
def talC(l:List Int):List Value:=[Vi l.length,Vi l.sum,Vi (maxL (l.headD 0) l),Vi (minL (l.headD 0) l),Vi (l.headD 0),Vi (l.getLastD 0)]
def talV(l:List Int):Value:=.agg (talC l).toArray
theorem ZyX(m:Int)(l:List Int)(x:Int):maxL m (l++[x])=max (maxL m l) x:=by rw[ZyW];split <;> omega
theorem Zy2(m:Int)(l:List Int)(x:Int):minL m (l++[x])=min (minL m l) x:=by rw[Zy1];split <;> omega
theorem ZxQ(l:List Int)(x:Int):(l++[x]).getLastD 0=x:=by simp[Yey]
theorem ZsC:∀l:List Int,(∀x∈l,vOk x)->-1000000000*(l.length:Int)<=l.sum/\l.sum<=1000000000*(l.length:Int)
 | [],_=>by simp
 | a :: l, h => by
   have e:=ZsC l (fun x c=>h x (Yam _ c));have d:=h a (Yay ..);unfold vOk at d;rw[Yd2,Yaj];omega
theorem ZsT (l : List Int) (x : Int) (k : l.length <= 10000) (c : ∀ y ∈ l, vOk y) (d : vOk x) (w : World) : CP 206 #[talV l, Vi x] w fun e u => e = .returned (talV (l ++ [x])) /\ BW w u := by
  cases l with
  | nil=>
    unfold talV talC;simp only[Ybq,Ye0,maxL,minL,List.headD_nil,List.getLastD_nil,Ycu,Ybj,List.sum_singleton,List.headD_cons,Yel,Int.lt_irrefl,if_false];go_enter func206,ntmps206;go_wp2;exact bodyPost_ret (v:=.agg #[Vi 1,Vi x,Vi x,Vi x,Vi x,Vi x]) (by simp[results,results206,go_sem]) rfl ⟨by simp,belB⟩
  | cons a l=>
    have f:=ZsC _ c
    have g:Hid (talV ((a::l)++[x])=.agg #[Vi ((l.length)+1+1),Vi ((a::l).sum+x),Vi (max (maxL a (a::l)) x),Vi (min (minL a (a::l)) x),Vi a,Vi x]):=hid (by
      unfold talV talC;rw[ZyX,Zy2,List.sum_append,ZxQ];simp)
    unfold vOk at d;rw[g];unfold talV talC;rw[Yaj]at *
    simp only[List.headD_cons];generalize(a::l).sum=sm at *
    generalize maxL a (a::l)=mx at *
    generalize minL a (a::l)=mn at *
    generalize(a::l).getLastD 0=la at *
    generalize l.length=ln at *
    have i:((ln:Int)+1 == 0)=false:=by rw[beq_eq_false_iff_ne];omega
    push_cast
    have h:=hid f;have j : -10000000000000<=sm/\sm<=10000000000000:=by have:=h.out;omega
    rcases(by omega:(mx<x/\max mx x=x)∨(x<=mx/\max mx x=mx))with ⟨g1,e1⟩|⟨g1,e1⟩ <;> rcases(by omega:(x<mn/\min mn x=x)∨(mn<=x/\min mn x=mn))with ⟨g2,e2⟩|⟨g2,e2⟩
    · rw[e1,e2]
      go_enter func206,ntmps206;go_wp2
      all_goals first|omega|exact bodyPost_ret (v:=.agg #[Vi ((ln:Int)+1+1),Vi (sm+x),Vi x,Vi x,Vi a,Vi x]) (by simp[results,results206,go_sem]) rfl ⟨rfl,belB⟩
    · rw[e1,e2]
      go_enter func206,ntmps206;go_wp2
      all_goals first|omega|exact bodyPost_ret (v:=.agg #[Vi ((ln:Int)+1+1),Vi (sm+x),Vi x,Vi mn,Vi a,Vi x]) (by simp[results,results206,go_sem]) rfl ⟨rfl,belB⟩
    · rw[e1,e2]
      go_enter func206,ntmps206;go_wp2
      all_goals first|omega|exact bodyPost_ret (v:=.agg #[Vi ((ln:Int)+1+1),Vi (sm+x),Vi mx,Vi x,Vi a,Vi x]) (by simp[results,results206,go_sem]) rfl ⟨rfl,belB⟩
    · rw[e1,e2]
      go_enter func206,ntmps206;go_wp2
      all_goals first|omega|exact bodyPost_ret (v:=.agg #[Vi ((ln:Int)+1+1),Vi (sm+x),Vi mx,Vi mn,Vi a,Vi x]) (by simp[results,results206,go_sem]) rfl ⟨rfl,belB⟩
theorem Zlh{n:Int}(h:vOk n):cutV n=n:=by unfold vOk at h;unfold cutV;split <;> (try split) <;> omega
theorem ZqV:∀(l:List Int) (m:Int),vOk m->(∀x∈l,vOk x)->vOk (maxL m l)
 | [],m,h,_=>h
 | a :: l, m, h, c => by
   rw[maxL];refine ZqV l _ ?_ (fun x d=>c x (Yam _ d));split
   · exact c a (Yay ..)
   · exact h
theorem Zq5:∀(l:List Int) (m:Int),vOk m->(∀x∈l,vOk x)->vOk (minL m l)
 | [],m,h,_=>h
 | a :: l, m, h, c => by
   rw[minL];refine Zq5 l _ ?_ (fun x d=>c x (Yam _ d));split
   · exact c a (Yay ..)
   · exact h
theorem ZwS{l:List Int}(c:∀x∈l,vOk x):vOk (l.headD 0):=by
 cases l with
 | nil=>unfold vOk;decide
 | cons a l=>exact c a (Yay ..)
theorem ZxP{l:List Int}(c:∀x∈l,vOk x):vOk (l.getLastD 0):=by
 cases l with
 | nil=>unfold vOk;decide
 | cons a l=>rw[Yel,<-Ye6 (by simp)];exact c _ (List.getLast_mem _)
theorem ZDl {op:Nat} (f : op <= 4) (l : List Int) (g : l.length <= 10000) (a : ∀ y ∈ l, vOk y) (w : World) : CP 207 #[talV l, Vi op] w fun e u => e = .returned (Vi (cutV (ZfI op l))) /\ BW w u := by
  have c:=ZwS a;have d:=ZxP a;have e1:=Zlh (ZqV l _ c a);have e2:=Zlh (Zq5 l _ c a);have e3:cutV _=l.length:=Zlh (by unfold vOk;omega);unfold ZfI talV talC;unfold vOk at c d;generalize maxL (l.headD 0) l=mx at *
  generalize minL (l.headD 0) l=mn at *
  generalize l.headD 0=hd at *
  generalize l.getLastD 0=la at *
  generalize l.sum=sm at *
  generalize l.length=ln at *
  rcases(by omega:op=0∨op=1∨op=2∨op=3∨op=4)with rfl|rfl|rfl|rfl|rfl
  · simp only[if_true]
    go_enter func207,ntmps207
    go_wp2_with (go_at_call 229;refine cret (ZiJ) ?_)
    go_ret;exact⟨rfl,belB⟩
  · simp only[Nat.one_ne_zero,if_false,if_true,e1]
    go_enter func207,ntmps207;go_wp2;go_ret;exact⟨rfl,belB⟩
  · rw[if_neg Dc,if_neg Dc,if_pos rfl,e2]
    go_enter func207,ntmps207;go_wp2;go_ret;exact⟨rfl,belB⟩
  · rw[if_neg Dc,if_neg Dc,if_neg Dc,if_pos rfl,e3]
    go_enter func207,ntmps207;go_wp2;go_ret;exact⟨rfl,belB⟩
  · rw[if_neg Dc,if_neg Dc,if_neg Dc,if_neg Dc]
    go_enter func207,ntmps207
    go_wp2_with (go_at_call 229;refine cret (ZiJ) ?_)
    go_ret;exact⟨rfl,belB⟩
theorem ZgR {a:Option Addr} {n c:Nat} {tx:BA} {w:World} : CP 151 #[.agg #[.slice a n c, .string tx]] w fun e u => e = .returned (.string tx) /\ ∃ o, u = w.alloc o := by
  go_enter func151,ntmps151;go_wp2;go_ret;exact⟨rfl,_,rfl⟩
end Go.Proofs.YtcdgkkfipdoeeaaGreatDoor

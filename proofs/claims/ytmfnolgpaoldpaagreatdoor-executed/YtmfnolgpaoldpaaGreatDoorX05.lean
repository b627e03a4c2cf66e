/- Parts. -/
import Derived.Test.YtmfnolgpaoldpaaGreatDoorX04
set_option linter.all false
set_option maxRecDepth 100000
set_option maxHeartbeats 16000000
namespace Go.Proofs.YtmfnolgpaoldpaaGreatDoor
open Go.RowKit LS Go.Proofs.Tryz
open Go renaming World->Y,Value->F
open Go.RowKit renaming Hid->U
variable {S W t:BA}{r:Except (Nat×Nat) Yb}{cv gv pv v:F}{l:LB}{bs:List BA}{c xs:List F}{cs:List Int}{sl st:List Nat}{qs:List<|BA×BA×Bool}{gs:List<|List<|LB}{is:List<|Nat×Nat}{ps:List<|Nd×Nat}{g:List<|Option Addr×Nat×Nat}{a arg b cb i ic k n op p sz y:Nat}{x:Nat×Nat}{ia:Option Addr}{q:PV}{w w' w0:Y}
def kl(k:Nat):UInt8:=match k with
 |1=>115
 |2=>118
 |3=>114
 |_=>45
theorem Ff{x:Nat}(a:x<=3)(c:y<=3)(h:kl x=kl y):x=y:=by
 rcases(X:x=0\/x=1\/x=2\/x=3)with rfl|rfl|rfl|rfl<;>rcases(X:y=0\/y=1\/y=2\/y=3)with rfl|rfl|rfl|rfl<;>first|rfl|exact absurd h N
def Sp(l:LB):BA:=⟨l.toArray⟩
theorem K3:bl (Sp l)=l:=U9 l
theorem EC(l:LB):(Sp l).size=l.length:=by rw[<-Zb,K3]
def T6(st:List Nat):LB:=(st.map kl).reverse
def Xp(st:List Nat):BA:=Sp<|T6 st
def WO(sl:List Nat):BA:=Sp<|sl.map kl
theorem zc(st:List Nat):(T6 st).length=st.length:=by simp[T6]
theorem SX(st:List Nat):(Xp st).size=st.length:=by unfold Xp;rw[EC,zc]
theorem Nh(sl:List Nat):(WO sl).size=sl.length:=by unfold WO;rw[EC,Yz]
theorem Rl(st:List Nat):bl (Xp st)=T6 st:=K3
theorem Mj(sl:List Nat):bl (WO sl)=sl.map kl:=K3
theorem Cv:∀{x y:List Nat},(∀k∈x,k<=3)->(∀k∈y,k<=3)->x.map kl=y.map kl->x=y
 |[],[],_,_,_=>C
 |[],_::_,_,_,h=>(by cases h)
 |_::_,[],_,_,h=>(by cases h)
 |a::x,b::y,d,e,h=>by
  rw[Wb,Wb]at h;injection h with h1 h2;rw[Ff (d a<|Sm) (e b<|Sm) h1,Cv (λk c=>d k<|by simp[c]) (λk c=>e k<|by simp[c]) h2]
theorem GF{x y:List Nat}(a:∀k∈x,k<=3)(c:∀k∈y,k<=3):Xp x=Xp y↔x=y:=by
 constructor
 .intro h;have d:T6 x=T6 y:=by rw[<-Rl,<-Rl,h]
  exact Cv a c<|List.reverse_inj.1 d
 .intro h;rw[h]
theorem Ow(a b:BA):(a.toList==b.toList)=decide (a=b):=by
 by_cases h:a=b
 .subst h;simp
 .rw[Wl h,YB];intro e;exact h<|ZbH<|by rw[<-ZA,<-ZA,e]
theorem fm(st:List Nat)(m:Nat):(T6 st).take (st.length-m)=T6 (st.drop m):=by
 unfold T6;rw[List.take_reverse,Yz,Ky];by_cases h:m<=st.length
 .congr 2;omega
 .rw[Ts<|by rw[Yz];omega,Ts<|by rw[Yz];omega]
theorem fl(m:Nat)(h:m<=st.length):(T6 st).drop (st.length-m)=T6 (st.take m):=by
 unfold T6;rw[List.drop_reverse,Yz,Q1];congr 2;omega
theorem GG(st:List Nat)(m:Nat):(Xp st).extract 0 (st.length-m)=Xp (st.drop m):=ZbH<|by rw[WL,Rl,Rl,PF,fm]
theorem JN{m:Nat}(h:m<=st.length):(Xp st).extract (st.length-m) st.length=Xp (st.take m):=ZbH<|by
 rw[WL,Rl,Rl,Wm<|by rw[zc];exact Yj _,fl m h]
theorem GE(x y:List Nat):Xp x++Xp y=Xp (y++x):=ZbH<|by rw[PT,Rl,Rl,Rl];simp[T6]
def UY(a b:UInt8):Bool:=a==97||(a==b||(a==110&&b !=114))
def VU(s w:BA):Bool:=decide (w.size<=s.size)&&(List.range w.size).all λj=>UY ((bl w).getD j 0)<|(bl s).getD (s.size-w.size+j) 0
def F5(op:Nat)(st:List Nat):Bool:=match op with
 |0=>true
 |1=>true
 |2=>match st with
  |k::_=>decide<|k=3
  |[]=>false
 |3=>match st with
  |y::k::_=>ZO k&&ZO y
  |_=>false
 |4=>match st with
  |k::_=>ZO k
  |[]=>false
 |9=>true
 |11=>match st with
  |_::_=>true
  |[]=>false
 |12=>match st with
  |_::_=>true
  |[]=>false
 |13=>true
 |_=>match st with
  |k::_=>decide<|k=2
  |[]=>false
theorem yG(k:Nat)(r:List Nat):(bl<|Xp<|k::r).getD ((Xp<|k::r).size-1+0) 0=kl k:=by
 rw[Rl,SX];simp[T6,Y0]
theorem yH(y k:Nat)(r:List Nat):(bl<|Xp<|y::k::r).getD ((Xp<|y::k::r).size-2+0) 0=kl k:=by
 rw[Rl,SX];simp[T6,Y0]
theorem yI(y k:Nat)(r:List Nat):(bl<|Xp<|y::k::r).getD ((Xp<|y::k::r).size-2+1) 0=kl y:=by
 rw[Rl,SX];simp[T6,Y0]
theorem sr{s w:BA}(h:w.size=0):VU s w=true:=by unfold VU;rw[h];rfl
theorem Cb{w:BA}(h:0<w.size):VU (Xp []) w=false:=by
 unfold VU;rw[show(Xp _).size=0 from C,Wl X];rfl
theorem Ja(a:UInt8)(k:Nat)(r:List Nat):VU (Xp<|k::r) ⟨#[a]⟩=UY a (kl k):=by
 unfold VU;rw[show(⟨#[a]⟩:BA).size=1 from C,WI<|by rw[SX,Y1];omega,show List.range 1=[0]from C];simp only[Il,List.all_nil,On,Ik];rw[yG];rfl
theorem F7(k:Nat)(h:k<=3):UY 114 (kl k)=decide (k=3):=by
 rcases(X:k=0\/k=1\/k=2\/k=3)with rfl|rfl|rfl|rfl<;>rfl
theorem F8(k:Nat)(h:k<=3):UY 118 (kl k)=decide (k=2):=by
 rcases(X:k=0\/k=1\/k=2\/k=3)with rfl|rfl|rfl|rfl<;>rfl
theorem NQ(k:Nat)(h:k<=3)(a:k≠0):UY 110 (kl k)=ZO k:=by
 rcases(X:k=1\/k=2\/k=3)with rfl|rfl|rfl<;>rfl
theorem F6{b:UInt8}:UY 97 b=true:=rfl
theorem Ca(e:op<=13)(c:∀k∈st,k≠0/\k<=3):VU (Xp st) (Mf op)=F5 op st:=by
 rcases(X:op=0\/op=1\/op=2\/op=3\/op=4\/op=5\/op=6\/op=7\/op=8\/op=9\/op=10\/op=11\/op=12\/op=13)with rfl|rfl|rfl|rfl|rfl|rfl|rfl|rfl|rfl|rfl|rfl|rfl|rfl|rfl;case inr.inr.inr.inl=>
  cases st with
  |nil=>exact Cb N
  |cons y r=>
   cases r with
   |nil=>rfl
   |cons k r=>
    show VU (Xp<|y::k::r) ⟨#[110,110]⟩=(ZO k&&ZO y);unfold VU;rw[show(⟨#[110,110]⟩:BA).size=2 from C,WI<|by rw[SX,Y1,Y1];omega,show List.range 2=[0,1]from C];simp only[Il,List.all_nil,On,Ik];rw[yH,yI];have a:=c k<|Sm;have d:=c y<|Sm;show(UY 110 (kl k)&&UY 110 (kl y))=_;rw[NQ k a.2 a.1,NQ y d.2 d.1]
 all_goals first
  |exact sr C
  |(cases st with
   |nil=>exact Cb N
   |cons k r=>
    have a:=c k<|Sm;first
     |exact(Ja 114 k r).trans<|F7 k a.2
     |exact(Ja 110 k r).trans<|NQ k a.2 a.1
     |exact(Ja 97 k r).trans<|F6
     |exact(Ja 118 k r).trans<|F8 k a.2)
def Rs(c:Yb)(op arg:Nat)(took sl:BA):BA:=match op with
 |0=>⟨#[115]⟩
 |1=>if(c.jw[arg]?.map VF).getD 0=3 then⟨#[114]⟩else⟨#[118]⟩
 |3=>if took=⟨#[115,115]⟩then⟨#[115]⟩else⟨#[118]⟩
 |4=>took
 |9=>⟨#[]⟩
 |10=>took
 |11=>⟨#[]⟩
 |12=>⟨#[]⟩
 |13=>sl.extract arg<|arg+1
 |_=>⟨#[118]⟩
def S6(op arg:Nat)(took sl:BA):BA:=if op=12 then sl.extract 0 arg++took++sl.extract (arg+1) sl.size else sl
theorem lP(c:Yb)(h:arg<c.jw.length):(c.jw[arg]?.map VF).getD 0=3\/(c.jw[arg]?.map VF).getD 0=2:=by
 rw[List.getElem?_eq_getElem h];show VF _=3\/VF _=2;unfold VF;split<;>simp
theorem fX(h:a<sl.length):(WO sl).extract a (a+1)=Xp [sl.getD a 0]:=ZbH<|by
 rw[WL,Mj,Rl,Ri];rw[show a+1-a=1 by omega,List.drop_eq_getElem_cons<|by rwa [Yz]];simp[T6,Y0,h]
theorem fW(h:a<sl.length):(bl<|WO sl).getD a 0=kl (sl.getD a 0):=by
 rw[Mj];simp[Y0,h]
theorem fY(k:Nat)(h:a<sl.length):(WO sl).extract 0 a++Xp [k]++(WO sl).extract (a+1) (WO sl).size=WO (sl.set a k):=ZbH<|by
 rw[PT,PT,WL,WL,Rl,Mj,Mj,Nh,PF,Wm (i:=sl.length)<|by rw[Yz];exact Yj _];rw[List.set_eq_take_append_cons_drop,Ye h,Xa,Wb,Q1,Ky];simp[T6]
structure Rb (c:Yb)(op arg:Nat)(st sl:List Nat)(S L W:BA):Prop where
 wle:W.size<=2
 no:VU S W=false->Zr c (op,arg) st sl=none
 le:VU S W=true->W.size<=S.size
 ld:op=13->arg<L.size
 no2:op=13->(bl L).getD arg 0=45->Zr c (op,arg) st sl=none
 big:VU S W=true->(op=13->¬(bl L).getD arg 0=45)->64<(S.extract 0 (S.size-W.size)++Rs c op arg (S.extract (S.size-W.size) S.size) L).size->Zr c (op,arg) st sl=none
 ok:VU S W=true->(op=13->¬(bl L).getD arg 0=45)->¬64<(S.extract 0 (S.size-W.size)++Rs c op arg (S.extract (S.size-W.size) S.size) L).size->∃st' sl',Zr c (op,arg) st sl=some (st',sl')/\S.extract 0 (S.size-W.size)++Rs c op arg (S.extract (S.size-W.size) S.size) L=Xp st'/\S6 op arg (S.extract (S.size-W.size) S.size) L=WO sl'
theorem yk:(Mf op).size<=2:=by unfold Mf;split<;>decide
theorem Hy(h:VU S W=true):W.size<=S.size:=by
 unfold VU at h;rw[Vt]at h;exact Rw h.1
theorem vZ{c:Yb}(p:W.size<=2)(q:VU (Xp st) W=false->Zr c (op,arg) st sl=none)
 (g:op=13->arg<sl.length/\(sl.getD arg 0=0->Zr c (op,arg) st sl=none))
 (h:VU (Xp st) W=true->(op=13->sl.getD arg 0≠0)->∃P sl',Rs c op arg (Xp<|st.take W.size) (WO sl)=Xp P/\S6 op arg (Xp<|st.take W.size) (WO sl)=WO sl'/\Zr c (op,arg) st sl=if 64<(P++st.drop W.size).length then none else some (P++st.drop W.size,sl'))
 (r:∀k∈sl,k<=3):
 Rb c op arg st sl (Xp st) (WO sl) W:=by
 have l:op=13->((bl _).getD _ 0=45↔sl.getD _ 0=0):=λe=>by
  rw[fW (g e).1];have d:sl.getD arg 0<=3:=Y0▸List.getElem?_eq_getElem (g e).1▸r _ (List.getElem_mem _);constructor
  .intro i;exact Ff d N i
  .intro i;rw[i];rfl
 refine⟨p,q,Hy,λe=>by rw[Nh];exact(g e).1,λe f=>(g e).2<|(l e).1 f,λf m d=>?_,λf m d=>?_⟩
 .obtain⟨P,sl',j,_,n⟩:=h f λe o=>m e<|(l e).2 o;have a:=Hy f;rw[SX]at a;rw[SX,GG,JN a,j,GE,SX]at d;rw[n,Ye d]
 .obtain⟨P,sl',j,i,n⟩:=h f λe o=>m e<|(l e).2 o;have a:=Hy f;rw[SX]at a;rw[SX,GG,JN a,j,GE,SX]at d;refine⟨P++st.drop W.size,sl',?_,?_,?_⟩
  .rw[n,Yd d]
  .rw[SX,GG,JN a,j,GE]
  .rw[SX,JN a,i]
theorem P4(h:st.length<=64):Z4 k st sl=if 64<([k]++st).length then none else some ([k]++st,sl):=by
 unfold Z4;by_cases a:st.length=64
 .rw[Ye a,Ye<|by simp;omega]
 .rw[Yd a,Yd<|by simp;omega];rfl
theorem Hb(h:st.length<=64):some (st,sl)=if 64<([]++st).length then none else some ([]++st,sl):=by
 rw[Yd<|by simp;omega];rfl
theorem ua(c:Yb)(i op arg:Nat)(st sl:List Nat)(o:op<=13)(l:Zy c i (op,arg)=true)(d:st.length<=64)(q:∀k∈st,k≠0/\k<=3)(w:sl.length=16)(t:∀k∈sl,k<=3):
 Rb c op arg st sl (Xp st) (WO sl)<|Mf op:=by
 refine vZ (yk) ?_ ?_ ?_ t
 .intro a;rw[Ca o q]at a;rcases(X:(op=0\/op=1\/op=9\/op=13)\/op=2\/op=3\/op=4\/(op=11\/op=12)\/(op=5\/op=6\/op=7\/op=8\/op=10))with e|rfl|rfl|rfl|e|e
  .rcases e with rfl|rfl|rfl|rfl<;>cases a
  .cases st with
   |nil=>rfl
   |cons k r=>
    have a:=Kh a;simp only[Zr];rw[Yd a]
  .cases st with
   |nil=>rfl
   |cons y r=>
    cases r with
    |nil=>rfl
    |cons k r=>
     have a:(ZO k&&ZO y)=false:=a;show(if(ZO k&&ZO y)=true then _ else none)=none;rw[a];rfl
  .cases st with
   |nil=>rfl
   |cons k r=>
    have a:ZO k=false:=a;show(if ZO k=true then _ else none)=none;rw[a];rfl
  .cases st with
   |nil=>rcases e with rfl|rfl<;>rfl
   |cons k r=>rcases e with rfl|rfl<;>cases a
  .cases st with
   |nil=>rcases e with rfl|rfl|rfl|rfl|rfl<;>rfl
   |cons k r=>
    have s:¬k=2:=by rcases e with rfl|rfl|rfl|rfl|rfl<;>exact Kh a
    rcases e with rfl|rfl|rfl|rfl|rfl<;>(show(if k=2 then _ else none)=none;rw[Yd s])
 .rintro rfl;have m:arg<16:=by simpa [Zy]using l
  refine⟨X,λe=>?_⟩;simp only[Zr];rw[Ye e]
 .intro a p;rw[Ca o q]at a;rcases(X:op=0\/op=1\/op=2\/op=3\/op=4\/op=9\/op=10\/op=11\/op=12\/op=13\/(op=5\/op=6\/op=7\/op=8))with rfl|rfl|rfl|rfl|rfl|rfl|rfl|rfl|rfl|rfl|g
  .exact⟨[1],sl,C,C,P4 d⟩
  .have m:arg<c.jw.length:=by simpa [Zy]using l
   rcases lP c m with n|n
   .exact⟨[3],sl,by show(if _ then _ else _)=_;rw[Ye n];rfl,C,by
    simp only[Zr];rw[n];exact P4 d⟩
   .exact⟨[2],sl,by show(if _ then _ else _)=_;rw[Yd X];rfl,C,by
    simp only[Zr];rw[n];exact P4 d⟩
  .cases st with
   |nil=>cases a
   |cons k r=>
    have f:=Rw a;exact⟨[2],sl,C,C,by
     simp only[Zr];rw[Ye f];exact P4<|by simp only[Y1]at d;omega⟩
  .cases st with
   |nil=>cases a
   |cons y r=>
    cases r with
    |nil=>cases a
    |cons k r=>
     have a:(ZO k&&ZO y)=true:=a;have h:=a;rw[Vt]at h;have u:k=1\/k=2:=by simpa [ZO]using h.1
     have v:y=1\/y=2:=by simpa [ZO]using h.2
     have j:r.length<=64:=by simp only[Y1]at d;omega
     refine⟨[max k y],sl,?_,C,?_⟩
     .rcases u with rfl|rfl<;>rcases v with rfl|rfl<;>rfl
     .simp only[Zr];rw[Ye a];exact P4 j
  .cases st with
   |nil=>cases a
   |cons k r=>
    have h:ZO k=true:=a;exact⟨[k],sl,C,C,by
     simp only[Zr];rw[Ye h];exact P4<|by simp only[Y1]at d;omega⟩
  .exact⟨[],sl,C,C,Hb d⟩
  .cases st with
   |nil=>cases a
   |cons k r=>
    have f:=Rw a;subst f;exact⟨[2],sl,C,C,by
     simp only[Zr];exact P4<|by simp only[Y1]at d;omega⟩
  .cases st with
   |nil=>cases a
   |cons k r=>exact⟨[],sl,C,C,Hb<|by simp only[Y1]at d;omega⟩
  .cases st with
   |nil=>cases a
   |cons k r=>
    have m:arg<16:=by simpa [Zy]using l
    exact⟨[],sl.set _ k,C,by
     unfold S6;rw[Ye C];exact fY k X,Hb<|by simp only[Y1]at d;omega⟩
  .have m:arg<16:=by simpa [Zy]using l
   have e:=p C;exact⟨[sl.getD _ 0],sl,fX X,C,by
    simp only[Zr];rw[Yd e];exact P4 d⟩
  .cases st with
   |nil=>rcases g with rfl|rfl|rfl|rfl<;>cases a
   |cons k r=>
    have f:k=2:=by rcases g with rfl|rfl|rfl|rfl<;>exact Rw a
    subst f;have j:r.length<=64:=by simp only[Y1]at d;omega
    rcases g with rfl|rfl|rfl|rfl<;>exact⟨[2],sl,C,C,by
     simp only[Zr];exact P4 j⟩
theorem fx{c:Yb}{st' sl':List Nat}(a:∀k∈st,k<=3)(e:∀k∈sl,k<=3)(h:Zr c x st sl=some (st',sl')):(∀k∈st',k<=3)/\(∀k∈sl',k<=3):=by
 have push:∀{k:Nat}{r s:List _},k<=3->(∀k∈r,k<=3)->(∀k∈s,k<=3)->Z4 k r s=some (st',sl')->(∀k∈st',k<=3)/\(∀k∈sl',k<=3):=λ{k r s} d g i h=>by
  unfold Z4 at h;split at h
  .cases h
  .injection h with h;injection h with e1 e2;subst e1;subst e2;exact⟨λx f=>by
   rcases X0.1 f with rfl|f
   .exact d
   .exact g x f,i⟩
 have keep:∀{r s:List _},(∀k∈r,k<=3)->(∀k∈s,k<=3)->some (r,s)=some (st',sl')->(∀k∈st',k<=3)/\(∀k∈sl',k<=3):=λ{r s} g i h=>by
  injection h with h;injection h with e1 e2;subst e1;subst e2;exact⟨g,i⟩
 obtain⟨op,arg⟩:=x;unfold Zr at h;simp only at h;split at h
 .exact push N a e h
 .refine push ?_ a e h;cases c.jw[arg]? with
  |none=>decide
  |some y=>show VF y<=3;unfold VF;split<;>decide
 .split at h
  .split at h
   .exact push N (λk d=>a k<|by simp[d]) e h
   .cases h
  .cases h
 .split at h
  .rename_i y k r;split at h
   .exact push (by have:=a y<|Sm;have:=a k<|Sm;omega) (λk d=>a k<|by simp[d]) e h
   .cases h
  .cases h
 .split at h
  .rename_i k r;split at h
   .exact push (a k<|Sm) (λk d=>a k<|by simp[d]) e h
   .cases h
  .cases h
 .exact keep a e h
 .split at h
  .exact keep (λk d=>a k<|by simp[d]) e h
  .cases h
 .split at h
  .rename_i k r;exact keep (λk d=>a k<|by simp[d]) (λx f=>by
   rcases NW f with f|f
   .exact e x f
   .rw[f];exact a k<|Sm) h
  .cases h
 .split at h
  .cases h
  .refine push ?_ a e h;rw[Y0];cases j:sl[arg]? with
   |none=>decide
   |some k=>exact e k<|QW j
 .split at h
  .split at h
   .exact push N (λk d=>a k<|by simp[d]) e h
   .cases h
  .cases h
def SE(a:Ah):List F:=[.bool a.kj,.bool a.kw,.string<|Xp a.jy,.string<|if a.kj then WO a.jx else⟨#[]⟩]
def Sg(x y:LB):LB:=List.zipWith (λa b=>if a=b then b else 45) x y
theorem EJ{x y:LB}(h:x.length=y.length):(Sg x y).length=y.length:=by unfold Sg;rw[List.length_zipWith];omega
theorem EI:∀(x y:List Nat),(∀k∈x,k<=3)->(∀k∈y,k<=3)->Sg (x.map kl) (y.map kl)=(Xx x y).map kl
 |[],y,_,_=>by simp[Sg,Xx]
 |a::x,[],_,_=>by simp[Sg,Xx]
 |a::x,b::y,d,f=>by
  have ih:=EI x y (λk c=>d k<|by simp[c]) λk c=>f k<|by simp[c]
  unfold Sg Xx at ih⊢;rw[Wb,Wb,J8,J8,Wb,ih];congr 1;by_cases e:a=b
  .subst e;rw[Ye C,Ye C]
  .rw[Yd e,Yd λh=>e<|Ff (d a<|Sm) (f b<|Sm) h];rfl
theorem AM{a b:UInt8}:((a.toNat:Nat):Int)=((b.toNat:Nat):Int)↔a=b:=by
 constructor
 .intro h;exact TN.1 X
 .intro h;rw[h]
theorem wQ{L1:BA}(L:BA)(k:Nat)(a:k<L1.size)(c:k<L.size):(Sg (bl L1)<|bl L).take (k+1)=(Sg (bl L1)<|bl L).take k++[if L1[k]=L[k]then L[k]else 45]:=by
 have d:k<(Sg (bl L1)<|bl L).length:=by unfold Sg;rw[List.length_zipWith,Zb,Zb];omega
 rw[List.take_succ_eq_append_getElem d];congr 2;simp only[Sg,List.getElem_zipWith,SN _ k a,SN L k c]
theorem Ya.setkM{t:TypeId}(h:Ya w a c t)(i:Nat)(v:F):Ya (w.setCell ⟨a,i,none⟩ v) a (c.set i v) t:=by
 unfold Ya at h⊢;simp only[World.setCell,V4,h,VE,Wr];show some (Obj.cells (c.toArray.setIfInBounds i v) t (0,0))=_;rw[Of]
def JK(w:Y)(a:Nat)(x y z u:F):Y:=(((w.setCell ⟨a,0,none⟩ x).setCell ⟨a,1,none⟩ y).setCell ⟨a,2,none⟩ z).setCell ⟨a,3,none⟩ u
theorem hJ{p0 p1 p2 p3 x y z u:F}{t:TypeId}(h:Ya w a [p0,p1,p2,p3] t):Ya (JK w a x y z u) a [x,y,z,u] t:=
 (((h.setkM 0 x).setkM 1 y).setkM 2 z).setkM 3 u
theorem hO(h:BW w0 w)(c:w0.heap.size<=a)(x y z u:F):BW w0<|JK w a x y z u:=
 (((h.setCell c _).setCell c _).setCell c _).setCell c _
theorem BG{kn cl:Bool}{S1:BA}(L1:BA){L:BA}(w:Y)(H:kn=true->L1.size=L.size)(hs:L.size<=16):
 CP 67 #[.agg #[.bool kn,.bool cl,.string S1,.string L1],.string S,.string L] w λe R=>e=.returned (if kn then .agg #[.bool true,.bool<|cl||decide (S1≠S),.string S1,.string<|Sp<|Sg (bl L1)<|bl L]else .agg #[.bool true,.bool false,.string S,.string L])/\BW w R:=by
 cases kn with
 |false=>
  go_enter func67,ntmps67;go_wp2;have g:Ya ((w.alloc<|.cells #[.bool false,.bool cl,.string S1,.string L1] 163).alloc<|.cells #[.bool true,.bool false,.string S,.string L] 163) (w.heap.size+1) [.bool true,.bool false,.string S,.string L] 163:=by
   have:=Go.Deep.blk_alloc_new (w.alloc<|.cells #[.bool false,.bool cl,.string S1,.string L1] 163)<|.cells #[.bool true,.bool false,.string S,.string L] 163;rw[Go.Deep.nblk_alloc]at this;exact this
  have s0:=g.cell 0;have s1:=g.cell 1;have s2:=g.cell 2;have s3:=g.cell 3;simp only[Yf]at s0 s1 s2 s3;have j:U<|Below _ w<|(w.alloc<|.cells #[.bool false,.bool cl,.string S1,.string L1] 163).alloc<|.cells #[.bool true,.bool false,.string S,.string L] 163:=I<|((Ym _ w).alloc (Yj _) _).alloc (Sm) _;clear g;generalize(w.alloc<|.cells #[.bool false,.bool cl,.string S1,.string L1] 163).alloc (.cells #[.bool true,.bool false,.string S,.string L] 163)=WX at*;exact YQ (by simp[results,results67,go_sem,s0,s1,s2,s3]) C ⟨C,j⟩
 |true=>
  have Z:=H C;clear H;obtain⟨cl2,f⟩:∃cl2,cl2=(cl||decide (S1≠S)):=⟨_,C⟩;rw[Ye C,<-f];by_cases l:S1=S;case' pos=>
   have J:(S1.toList==S.toList)=true:=by rw[Ow];exact WI l
   have m:cl2=cl:=by rw[f];simp[l]
  case' neg=>
   have J:(S1.toList==S.toList)=false:=by rw[Ow];exact Wl l
   have m:cl2=true:=by rw[f];simp[l]
  all_goals
   clear f l;have K:=I m;clear m;go_enter func67,ntmps67;go_upto_region 5 with fail;refine Zs λW q=>?_;have M:U<|Ya W w.heap.size [.bool true,.bool cl2,.string S1,.string L1] 163:=q▸K.o▸Ya.below (show Ya _ _ _ _ from Go.Deep.blk_alloc_new w _) Yc;have g:U<|Ya W (w.heap.size+1) [.bool false,.bool false,.string ⟨#[]⟩,.string ⟨#[]⟩] 163:=by
    rw[q];have:=λo=>Go.Deep.blk_alloc_new (w.alloc o)<|.cells #[.bool false,.bool false,.string ⟨#[]⟩,.string ⟨#[]⟩] 163;simp only[Go.Deep.nblk_alloc]at this;exact this _
   have O:U<|BW w W:=q▸Yh;clear q J;go_wp2;go_loopw [7,8] (λbv iv wr=>∃(k:Nat)(B:BA),k<=L.size/\iv=E k/\bv=.string B/\U (bl B=(Sg (bl L1)<|bl L).take k)/\U (Ya wr w.heap.size [.bool true,.bool cl2,.string S1,.string L1] 163)/\U (Ya wr (w.heap.size+1) [.bool false,.bool false,.string ⟨#[]⟩,.string ⟨#[]⟩] 163)/\U (BW w wr)) (λ_ iv _=>L.size-(intOf iv).toNat);case atStart=>exact⟨0,⟨#[]⟩,Yr _,C,C,I C,M,g,O⟩
   case round=>
    obtain⟨k,B,hk,rfl,rfl,h,d,c,n⟩:=hrel;clear M g O;have r:B.size=k:=by
     rw[<-Zb,h,Xw,EJ<|by rwa [Zb,Zb],Zb];omega
    have T:B.size<=16:=X;have a4:=I r;clear r;have a0:=d.cell 0;have a1:=d.cell 1;have a2:=d.cell 2;have a3:=d.cell 3;simp only[Yf]at a0 a1 a2 a3;by_cases s:k<L.size
    .have D:k<L1.size:=X;have t:=I<|wQ L k D s;have A:bl (L.extract k<|k+1)=[L[k]]:=by
      rw[WL,Ri,show k+1-k=1 by omega,List.drop_eq_getElem_cons<|by rwa [Zb],SN L k s];rfl
     have P:=I A;clear A;have q1:¬9223372036854775807<B.size+1:=X;by_cases i:L1[k]=L[k]
     .have d1:=XM.2<|AM.2 i;have G:U<|bl (B++L.extract k _)=(Sg _ _).take _:=I<|by rw[PT,h,P,t,Ye i]
      go_wp2;go_quiet (fail);go_wp2;go_roundw;case rel=>exact⟨k+1,_,X,by go_num,C,G,I<|d.below<|Wn (Ym _ _) _,I<|c.below<|Wn (Ym _ _) _,I<|Wn n _⟩
      case measure=>simp[intOf];omega
     .have d1:=YB.2 λe=>i<|AM.1 e;have G:U<|bl (B++⟨#[45]⟩)=(Sg (bl L1)<|bl L).take (k+1):=by rw[PT,h,t,Yd i];rfl
      go_wp2;go_quiet (fail);go_wp2;go_roundw;case rel=>exact⟨k+1,_,X,by go_num,C,G,I<|d.below<|Wn (Ym _ _) _,I<|c.below<|Wn (Ym _ _) _,I<|Wn n _⟩
      case measure=>simp[intOf];omega
    .obtain rfl:k=L.size:=X;have V:U<|Sp _=B:=I<|ZbH<|by
      rw[K3,h,Wm<|by rw[EJ<|by rwa [Zb,Zb],Zb];exact Yj _]
     have f3:=d.frozen 3;have r0:=c.cell 0;have r1:=c.cell 1;have r2:=c.cell 2;have r3:=c.cell 3;simp only[Yf]at r0 r1 r2 r3;have g0:=c.frozen 0;have g1:=c.frozen 1;have g2:=c.frozen 2;have g3:=c.frozen 3;go_wp2;change bodyPost _ _ _ _ _<|JK (wr.setCell ⟨w.heap.size,3,none⟩<|.string B) (w.heap.size+1) (.bool true) (.bool cl2) (.string S1)<|.string B;have Q:=(c.other (p:=⟨w.heap.size,3,none⟩) (by show w.heap.size+1≠w.heap.size;omega)<|.string B);have st:=hJ Q (x:=.bool true) (y:=.bool cl2) (z:=.string S1) (u:=.string B);have s0:=st.cell 0;have s1:=st.cell 1;have s2:=st.cell 2;have s3:=st.cell 3;simp only[Yf]at s0 s1 s2 s3;have j:=I<|hO (a:=w.heap.size+1) (n.setCell (p:=⟨w.heap.size,3,none⟩) (Yj _)<|.string B) X (.bool true) (.bool cl2) (.string S1)<|.string B;clear a0 a1 a2 a3 f3 r0 r1 r2 r3 g0 g1 g2 g3;generalize JK (wr.setCell ⟨w.heap.size,3,none⟩<|.string B) (w.heap.size+1) (.bool true) (.bool cl2) (.string S1) (.string B)=WX at*;exact YQ (v:=.agg #[.bool true,.bool cl2,.string S1,.string B]) (by simp[results,results67,go_sem,s0,s1,s2,s3]) C ⟨by rw[V],j⟩
theorem sp(a:W.size<=S.size)(h:∀j,j<W.size->UY ((bl W).getD j 0) ((bl S).getD (S.size-W.size+j) 0)=true):VU S W=true:=by
 unfold VU;rw[Vt];exact⟨WI a,Tt.2 λj c=>h j<|RX.1 c⟩
theorem Cc(j:Nat)(a:j<W.size)(h:UY ((bl W).getD j 0) ((bl S).getD (S.size-W.size+j) 0)=false):VU S W=false:=by
 unfold VU;rw[Ia];refine .inr<|Qs.2 λc=>?_;have:=Tt.1 c j<|RX.2 a;simp only[h]at this;exact Bool.noConfusion this
theorem Q3{a b:UInt8}:((a.toNat:Nat):Int)=((b.toNat:Nat):Int)↔a=b:=by
 constructor
 .intro h;exact TN.1 X
 .intro h;rw[h]
theorem lQ(a b:UInt8):(a=97/\UY a b=true)\/(a≠97/\a=b/\UY a b=true)\/(a≠97/\a≠b/\a=110/\b≠114/\UY a b=true)\/(a≠97/\a≠b/\a=110/\b=114/\UY a b=false)\/(a≠97/\a≠b/\a≠110/\UY a b=false):=by
 unfold UY;by_cases c:a=97
 .subst c;exact .inl ⟨C,C⟩
 .by_cases e:a=b
  .subst e;exact .inr<|.inl ⟨c,C,Sm⟩
  .by_cases d:a=110
   .by_cases f:b=114
    .exact .inr<|.inr<|.inr<|.inl ⟨c,e,d,f,by subst d;subst f;rfl⟩
    .exact .inr<|.inr<|.inl ⟨c,e,d,f,by simp[d,f]⟩
   .exact .inr<|.inr<|.inr<|.inr ⟨c,e,d,by simp[c,e,d]⟩
theorem sq(S W:BA)(D:S.size<=70000)(G:W.size<=2):
 CP 65 #[.string S,.string W] w λe u=>e=.returned (.bool<|VU S W)/\BW w u:=by
 by_cases r:W.size<=S.size
 .obtain⟨T,p⟩:∃T,T=S.extract (S.size-W.size) S.size:=⟨_,C⟩;have B:T.size=W.size:=by rw[p,V5];omega
  have z:U<|∀j (q:j<T.size)(s:j<W.size),UY W[j] T[j]=UY ((bl W).getD j 0) ((bl S).getD _ 0):=I (λj q s=>by
   congr 1
   .rw[Y0,List.getElem?_eq_getElem<|by rwa [Zb],SN W j s];rfl
   · have a:(bl T)[j]?=some T[j]:=by rw[List.getElem?_eq_getElem<|by rwa [Zb],SN T j _]
     have c:bl T=(bl S).drop (S.size-W.size):=by rw[p,WL,Wm<|by rw[Zb];exact Yj _]
     rw[c,Kj]at a;rw[Y0,a];rfl);have A:=I p;go_enter func65,ntmps65;go_wp2;rw[<-A];clear p;go_loopw [6] (λiv wr=>∃k:Nat,k<=W.size/\iv=E k/\U (∀j,j<k->UY ((bl W).getD j 0) ((bl S).getD (S.size-W.size+j) 0)=true)/\U (BW w wr)) (λiv _=>W.size-(intOf iv).toNat);case atStart=>exact⟨0,Yr _,C,I λj q=>absurd q<|Tu _,I<|Ym _ _⟩
  case round=>
   obtain⟨k,H,rfl,x,l⟩:=hrel;by_cases m:k<W.size
   .have v:k<T.size:=X;have t:=z k v m;have n:=I t;clear t;have go (h:UY _ _=true):U<|∀j,j<k+1->UY ((bl W).getD j 0) ((bl S).getD _ 0)=true:=I (λj q=>by
    by_cases e:j=k
    .subst e;rw[<-n];exact h
    .exact x j X);have f:=I go;clear go;rcases lQ W[k] T[k]with⟨a,g⟩|⟨a,c,g⟩|⟨a,c,i,o,g⟩|⟨a,c,i,o,g⟩|⟨a,c,i,g⟩
    .have d:=f g;have d1:(((W[k].toNat):Int)==97)=true:=by rw[a];rfl
     clear g f;go_wp2;go_quiet (fail);go_wp2;go_roundw;case rel=>exact⟨k+1,X,by go_num,d,I<|(by have:=l.o;first|exact this|exact this.drew|exact Wn this _)⟩
     case measure=>simp[intOf];omega
    .have d:=f g;have d1:(((W[k].toNat):Int)==97)=false:=YB.2 λe=>a<|Q3.1 e;have d2:=XM.2<|Q3.2 c;clear g f a c;go_wp2;go_quiet (fail);go_wp2;go_roundw;case rel=>exact⟨k+1,X,by go_num,d,I<|(by have:=l.o;first|exact this|exact this.drew|exact Wn this _)⟩
     case measure=>simp[intOf];omega
    .have d:=f g;have d1:(((W[k].toNat):Int)==97)=false:=YB.2 λe=>a<|Q3.1 e;have d2:=YB.2 λe=>c<|Q3.1 e;have d3:(((W[k].toNat):Int)==110)=true:=by rw[i];rfl
     have d4:(((T[k].toNat):Int) !=114)=true:=Vg.2 λe=>o<|Q3.1 e;clear g f a c i o;go_wp2;go_quiet (fail);go_wp2;go_roundw;case rel=>exact⟨k+1,X,by go_num,d,I<|(by have:=l.o;first|exact this|exact this.drew|exact Wn this _)⟩
     case measure=>simp[intOf];omega
    .have d:=I<|Cc k m<|by rwa [<-n.o]
     have d1:(((W[k].toNat):Int)==97)=false:=YB.2 λe=>a<|Q3.1 e;have d2:=YB.2 λe=>c<|Q3.1 e;have d3:(((W[k].toNat):Int)==110)=true:=by rw[i];rfl
     have d4:(((T[k].toNat):Int) !=114)=false:=by rw[o];rfl
     clear g f a c i o;go_wp2;go_quiet (fail);go_wp2;go_ret;exact⟨VY d.symm,(by have:=l.o;first|exact this|exact this.drew|exact Wn this _)⟩
    .have d:=I<|Cc k m<|by rwa [<-n.o]
     have d1:(((W[k].toNat):Int)==97)=false:=YB.2 λe=>a<|Q3.1 e;have d2:=YB.2 λe=>c<|Q3.1 e;have d3:(((W[k].toNat):Int)==110)=false:=YB.2 λe=>i<|Q3.1 e;clear g f a c i;go_wp2;go_quiet (fail);go_wp2;go_ret;exact⟨VY d.symm,(by have:=l.o;first|exact this|exact this.drew|exact Wn this _)⟩
   .obtain rfl:k=W.size:=X;have d:=I<|sp r x;go_wp2;go_ret;exact⟨VY d.symm,l⟩
 .have d:U<|VU S W=false:=by unfold VU;rw[Wl r];rfl
  go_enter func65,ntmps65;go_wp2;go_ret;exact⟨VY d.symm,Yh⟩
theorem Dz:∀(l:List PV)(i:Nat)(p:PV),l[i]?=some p->(Pf l)[i*8]?=some (E p.k)
 |[],i,p,h=>by simp at h
 |q::l,0,p,h=>by simp at h;subst h;rfl
 |q::l,i+1,p,h=>by
  rw[J7]at h;have:=Dz l i p h;show(q.cells++Pf l)[(i+1)*8]?=_;rw[Rg<|by rw[Oz];omega,Oz,show(i+1)*8-8=i*8 by omega];exact this
def E2(w:Y)(cb:Nat)(c:Yb)(op arg:Nat):Prop:=op=1->∃(ca pa ga:Option Addr)(iv:F)(cn cc pc gn gc g:Nat),Ya w cb [.slice ca cn cc,.slice (some ⟨g,0,none⟩) c.jw.length pc,.slice ga gn gc,iv] 69/\arg<c.jw.length/\pa=none/\w.cell? ⟨g,arg*8,none⟩=some (E<|if(c.jw[arg]?.map VF).getD 0=3 then 2 else 1)
theorem X8.pickAt{c:Yb}{iv:F}{l:List PV}(h:X8 w cb c cv pv gv iv l g)(j:Zy c i (op,arg)=true):E2 w cb c op arg:=by
 rintro rfl;have a:arg<c.jw.length:=by simpa [Zy]using j
 obtain⟨ca,cc,rfl⟩:=Zd h.cs;obtain⟨gp,pc,rfl⟩:=Zm h.ps X;obtain⟨ga,gc,rfl⟩:=Zd h.gs;have e:arg<l.length:=by rw[h.pl];exact a
 have f:=h.pk arg c.jw[arg] l[arg] (List.getElem?_eq_getElem a)<|List.getElem?_eq_getElem e;have m:=Zc h.ps _ _<|Dz l arg l[arg]<|List.getElem?_eq_getElem e;refine⟨ca,none,ga,iv,_,cc,pc,_,gc,gp,h.box,a,C,?_⟩;rw[m,f.k,List.getElem?_eq_getElem a];show some (Value.int .i64<|if 0<(c.jw[arg]).2 then 2 else 1)=some (E<|if VF c.jw[arg]=3 then 2 else 1);unfold VF;by_cases d:0<(c.jw[arg]).2
 .rw[Ye d,Ye d,Ye C]
 .rw[Yd d,Yd d,Yd N]
theorem GZ{a b:BA}(h:a=b):Ending.returned (.string a)=.returned (.string b):=by rw[h]
theorem iq(w:Y)(cb:Nat)(c:Yb)(op arg:Nat)(took sl:BA)(p:op<=13)(n:arg<65536)(h:E2 w cb c op arg)(f:op=13->arg<sl.size):
 CP 66 #[Vp cb,.agg #[E op,E arg],.string took,.string sl] w λe u=>e=.returned (.string<|Rs c op arg took sl)/\BW w u:=by
 rcases(X:op=1\/op=3\/op=13\/(op=0\/op=2\/op=4\/op=5\/op=6\/op=7\/op=8\/op=9\/op=10\/op=11\/op=12))with rfl|rfl|rfl|o
 .obtain⟨ca,pa,ga,iv,cn,cc,pc,gn,gc,g,d,v,_,j⟩:=h C;have x:=I d;have b1:=d.cell 1;simp only[Yf]at b1;have q:=d.lt;have l:=Xi _ _ j;simp only at l;have r:(arg:Int)<(c.jw.length:Int):=X;have a:U<|Rs c 1 arg took sl=if(c.jw[arg]?.map VF).getD 0=3 then⟨#[114]⟩else⟨#[118]⟩:=I C;generalize c.jw.length=np at*;by_cases i:(c.jw[arg]?.map VF).getD 0=3
  .rw[Ye i]at j a;clear i d h;go_enter func66,ntmps66;go_wp2;go_quiet (fail);go_wp2;go_ret;exact⟨GZ a.symm,Yh⟩
  .rw[Yd i]at j a;clear i d h;go_enter func66,ntmps66;go_wp2;go_quiet (fail);go_wp2;go_ret;exact⟨GZ a.symm,Yh⟩
 .clear h f;by_cases k:took=⟨#[115,115]⟩
  .subst k;go_enter func66,ntmps66;go_wp2;go_ret;exact⟨C,Yh⟩
  .have a:U<|Rs c 3 arg took sl=⟨#[118]⟩:=I<|Yd k;have s:(took.toList==[115,115])=false:=by
    have m:=(Ow took ⟨#[115,115]⟩).trans<|Wl k;rw[ZA ⟨#[115,115]⟩]at m;exact m
   go_enter func66,ntmps66;go_wp2;go_ret;exact⟨GZ a.symm,Yh⟩
 .have t:=f C;clear h f;go_enter func66,ntmps66;go_wp2;go_ret;exact⟨C,Yh⟩
 .clear h f;rcases o with rfl|rfl|rfl|rfl|rfl|rfl|rfl|rfl|rfl|rfl|rfl;all_goals
  go_enter func66,ntmps66;go_wp2;go_ret;exact⟨C,Yh⟩
theorem Dt (l:List<|BA×BA×Bool)(j:Nat):(TT l)[j*3]?=l[j]?.map (λc=>.string c.1)/\(TT l)[j*3+1]?=l[j]?.map (λc=>.string c.2.1)/\(TT l)[j*3+2]?=l[j]?.map λc=>.bool c.2.2:=by
 induction l generalizing j with
 |nil=>simp[TT]
 |cons r l ih=>
  obtain⟨x,y,z⟩:=r;cases j with
  |zero=>simp[TT]
  |succ j=>
   obtain⟨a,d,e⟩:=ih j;refine⟨?_,?_,?_⟩
   .rw[show(j+1)*3=j*3+1+1+1 by omega];simpa [TT]using a
   .rw[show(j+1)*3+1=j*3+1+1+1+1 by omega];simpa [TT]using d
   .rw[show(j+1)*3+2=j*3+2+1+1+1 by omega];simpa [TT]using e
def SO(qs:List<|BA×BA×Bool)(k:Nat):LB:=commas<|(qs.take k).map λc=>VT<|VL c
theorem uh(k:Nat)(h:k<qs.length):SO qs (k+1)=(if k=0 then[]else SO qs k++[44])++VT (VL qs[k]):=by
 unfold SO;rw[List.take_succ_eq_append_getElem h,Xa,PE,Gz];by_cases a:k=0
 .subst a;rfl
 .rw[Yd a,Yd];rw[Kp];intro e;have:=congrArg List.length e;rw[Yz,Xw,TO]at this;omega
theorem uG(l:List<|LB×LB×Bool)(k:Nat):cw (l.take k)<=cw l:=by
 induction l generalizing k with
 |nil=>simp
 |cons a l ih=>
  cases k with
  |zero=>simp[cw]
  |succ k=>have:=ih k;simp[cw];omega
theorem ug(k:Nat):(SO qs k).length<=cw (qs.map VL):=by
 unfold SO;have a:=OA<|(qs.take k).map λc=>VT<|VL c;have d:=Jt<|(qs.take k).map VL;have f:=uG (qs.map VL) k;rw[VD]at d;rw[<-Q1]at f;have e:((qs.take k).map λc=>VT _)=(qs.take k).map (VT∘VL):=C;rw[e]at a⊢;omega
theorem uF(l:List<|LB×LB×Bool)(k:Nat)(h:k<l.length):l[k].1.length+l[k].2.1.length<=cw l:=by
 induction l generalizing k with
 |nil=>simp at h
 |cons a l ih=>
  cases k with
  |zero=>simp[cw];omega
  |succ k=>have:=ih k (by simpa using h);simp[cw];omega
theorem iU(w:Y)(p:PV)(nd:Nd)(B:bl p.nm=nd.name)(Q:ZP w 0 p nd.kq)(a5:nd.name.length+cw nd.kq<=200000):
 CP 107 #[.agg #[E p.k,E p.n,E p.op,.string p.nm,.slice p.ca p.cn p.cc,.slice p.ba p.bn p.bc,E p.a,E p.b]] w λe u=>∃r:BA,e=.returned (.string r)/\r.size<=300000/\U (bl r=Xl nd)/\BW w u:=by
 obtain⟨qs,s,D⟩:=Q;obtain⟨av,cp,R⟩:=Zd s;injection R with hv1 hv2 hv3;have L:=ZE B;have K:cw (qs.map VL)<=200000:=by rw[D];omega
 have S:U<|∀k (h:k<qs.length),(qs[k]).1.size+(qs[k]).2.1.size<=200000:=I λk h=>by
  have:=uF (qs.map VL) k<|by simpa using h
  simp only[List.getElem_map,VL,Zb]at this;omega
 have T:=I λk=>Xb (ug k) K;have i:U<|bl _=nd.name/\qs.map _=nd.kq:=⟨B,D⟩;have z:U<|w.ownsRow 0 268 3 (.slice p.ca qs.length p.cc) qs.length<|TT qs:=by have:=s;rw[hv2]at this;exact this
 have a6:qs.length<=200000:=by
  have:∀l:List _,l.length<=cw l:=λl=>by
   induction l with
   |nil=>exact Yj _
   |cons a l ih=>simp[cw];omega
  have:=this<|qs.map VL;rw[Yz]at this;omega
 clear s hv3 D K B;obtain⟨pk,pn,pop,pnm,pca,pcn,pcc,pba,pbn,pbc,pa,pb⟩:=p;simp only at hv1 hv2 L i z;subst hv2;clear hv1;by_cases V:qs.length=0
 .have d:U<|bl pnm=Xl nd:=by
   unfold Xl;rw[<-i.2,Oh.1 V];exact i.1
  have Z:pnm.size<=300000:=X;go_enter func107,ntmps107;go_wp2;go_ret;exact⟨_,C,Z,d,Yc⟩
 .have hg:∃g,pca=some ⟨g,0,none⟩:=by
   obtain⟨g,cp',h⟩:=Zm z.o X;injection h with h1;exact⟨g,h1⟩
  obtain⟨g,rfl⟩:=hg;have M:=ZN z;have a7:((qs.length:Int)==0)=false:=by rw[YB];omega
  go_enter func107,ntmps107;go_wp2;go_loopw [3,4] (λsv iv wr=>∃(k:Nat)(r:BA),k<=qs.length/\iv=E k/\sv=.string r/\U (bl r=SO qs k)/\U (Below (w.heap.size+1) (w.alloc<|.cells #[E pk,E pn,E pop,.string pnm,.slice (some ⟨g,0,none⟩) qs.length pcc,.slice pba pbn pbc,E pa,E pb] 59) wr)) (λ_ iv _=>qs.length-(intOf iv).toNat);case atStart=>exact⟨0,⟨#[]⟩,Yr _,C,C,C,Ym _ _⟩
  case round=>
   obtain⟨k,r,hk,rfl,rfl,A,J⟩:=hrel;have G:Yq _ _ ⟨pk,pn,pop,pnm,some _,qs.length,pcc,pba,pbn,pbc,pa,pb⟩:=(J.block _ X).trans<|Go.Deep.blk_alloc_new _ _;have O:w.heap.size+1<=wr.heap.size:=G.lt;obtain⟨k0,k1,k2,k3,k4,k5,k6,k7⟩:=G.all;have a8:r.size<=200000:=ZE A.o▸T.o k;by_cases H:k<qs.length
   .obtain⟨f1,f2,f3⟩:=Dt qs k;rw[List.getElem?_eq_getElem H]at f1 f2 f3;have f:=λj=>((J.cell (p:=⟨g,j,none⟩)<|by show g<w.heap.size+1;omega)).trans<|TM _ _ _ M;have d1:wr.cell? _=some (.string _):=(f _).trans<|Zc z _ _ f1;have d2:wr.cell? _=some (.string _):=(f _).trans<|Zc z _ _ f2;have d3:wr.cell? _=some (.bool _):=(f _).trans<|Zc z _ _ f3;have hz:=S k H;have m:=I<|uh k H;generalize qs[k]=c at*;obtain⟨x,y,v⟩:=c;simp only at d1 d2 d3 hz;clear f1 f2 f3 f G;have add:∀(a b:BA),a.size+b.size<=2000000->∀W,(Op.stringOp _ a b).run prog W=.ok _ W:=λa b h W=>XW W a b X;have t:=I λo=>J.alloc O o;by_cases a9:0<(k:Int)
    .cases v
     .have d:U<|bl (((((r++⟨#[44]⟩)++x)++⟨#[61,34]⟩)++y)++⟨#[34]⟩)=SO _ _:=I<|by
       rw[m,Yd X,ZX,ZX,ZX,ZX,ZX,A];simp[VT,VL,SO,bl]
      have a0:=add r ⟨#[44]⟩<|by show r.size+1<=_;omega
      have z0:(r++⟨#[44]⟩).size=r.size+1:=(by rw[Y9];rfl);have z1:((r++⟨#[44]⟩)++x).size=r.size+1+x.size:=by rw[Y9,z0]
      have z2:(((r++⟨#[44]⟩)++x)++⟨#[61,34]⟩).size=r.size+1+x.size+2:=by rw[Y9,z1];rfl
      have z3:((((r++⟨#[44]⟩)++x)++⟨#[61,34]⟩)++y).size=r.size+1+x.size+2+y.size:=by rw[Y9,z2]
      have a1:=add (r++⟨#[44]⟩) x X;have a2:=add _ ⟨#[61,34]⟩<|by rw[z1];show _+2<=_;omega
      have a3:=add (((r++⟨#[44]⟩)++x)++⟨#[61,34]⟩) y X;have a4:=add _ ⟨#[34]⟩<|by rw[z3];show _+1<=_;omega
      clear z0 z1 z2 z3 m;go_wp2;go_roundw;case rel=>exact⟨k+1,_,X,by go_num,C,d,t _⟩
      case measure=>simp[intOf];omega
     .have d:U<|bl (((((r++⟨#[44]⟩)++x)++⟨#[33,61,34]⟩)++y)++⟨#[34]⟩)=SO _ _:=I<|by
       rw[m,Yd X,ZX,ZX,ZX,ZX,ZX,A];simp[VT,VL,SO,bl]
      have a0:=add r ⟨#[44]⟩<|by show r.size+1<=_;omega
      have z0:(r++⟨#[44]⟩).size=r.size+1:=(by rw[Y9];rfl);have z1:((r++⟨#[44]⟩)++x).size=r.size+1+x.size:=by rw[Y9,z0]
      have z2:(((r++⟨#[44]⟩)++x)++⟨#[33,61,34]⟩).size=r.size+1+x.size+3:=by rw[Y9,z1];rfl
      have z3:((((r++⟨#[44]⟩)++x)++⟨#[33,61,34]⟩)++y).size=r.size+1+x.size+3+y.size:=by rw[Y9,z2]
      have a1:=add (r++⟨#[44]⟩) x X;have a2:=add _ ⟨#[33,61,34]⟩<|by rw[z1];show _+3<=_;omega
      have a3:=add (((r++⟨#[44]⟩)++x)++⟨#[33,61,34]⟩) y X;have a4:=add _ ⟨#[34]⟩<|by rw[z3];show _+1<=_;omega
      clear z0 z1 z2 z3 m;go_wp2;go_roundw;case rel=>exact⟨k+1,_,X,by go_num,C,d,t _⟩
      case measure=>simp[intOf];omega
    .cases v
     .have d:U<|bl ((((r++x)++⟨#[61,34]⟩)++y)++⟨#[34]⟩)=SO _ _:=I<|by
       have q:k=0:=X;rw[m,Ye q,ZX,ZX,ZX,ZX,A,q];simp[VT,VL,SO,commas,bl]
      have z0:r.size=r.size:=C;have z1:(r++x).size=r.size+x.size:=by rw[Y9,z0]
      have z2:((r++x)++⟨#[61,34]⟩).size=r.size+x.size+2:=by rw[Y9,z1];rfl
      have z3:(((r++x)++⟨#[61,34]⟩)++y).size=r.size+x.size+2+y.size:=by rw[Y9,z2]
      have a1:=add r x X;have a2:=add _ ⟨#[61,34]⟩<|by rw[z1];show _+2<=_;omega
      have a3:=add ((r++x)++⟨#[61,34]⟩) y X;have a4:=add _ ⟨#[34]⟩<|by rw[z3];show _+1<=_;omega
      clear z0 z1 z2 z3 m;go_wp2;go_roundw;case rel=>exact⟨k+1,_,X,by go_num,C,d,t _⟩
      case measure=>simp[intOf];omega
     .have d:U<|bl ((((r++x)++⟨#[33,61,34]⟩)++y)++⟨#[34]⟩)=SO _ _:=I<|by
       have q:k=0:=X;rw[m,Ye q,ZX,ZX,ZX,ZX,A,q];simp[VT,VL,SO,commas,bl]
      have z0:r.size=r.size:=C;have z1:(r++x).size=r.size+x.size:=by rw[Y9,z0]
      have z2:((r++x)++⟨#[33,61,34]⟩).size=r.size+x.size+3:=by rw[Y9,z1];rfl
      have z3:(((r++x)++⟨#[33,61,34]⟩)++y).size=r.size+x.size+3+y.size:=by rw[Y9,z2]
      have a1:=add r x X;have a2:=add _ ⟨#[33,61,34]⟩<|by rw[z1];show _+3<=_;omega
      have a3:=add ((r++x)++⟨#[33,61,34]⟩) y X;have a4:=add _ ⟨#[34]⟩<|by rw[z3];show _+1<=_;omega
      clear z0 z1 z2 z3 m;go_wp2;go_roundw;case rel=>exact⟨k+1,_,X,by go_num,C,d,t _⟩
      case measure=>simp[intOf];omega
   .obtain rfl:k=qs.length:=X;have d:U<|bl (((pnm++⟨#[123]⟩)++r)++⟨#[125]⟩)=Xl nd:=by
     unfold Xl;rw[Yd<|by rw[<-i.2];intro e;have:=congrArg List.length e;rw[Yz,TO]at this;omega,ZX,ZX,ZX,A,i.1,<-i.2];unfold SO;rw[X1,VD];rfl
    have z1:(pnm++⟨#[123]⟩).size=pnm.size+1:=by rw[Y9];rfl
    have z2:((pnm++⟨#[123]⟩)++r).size=pnm.size+1+r.size:=by rw[Y9,z1]
    have z3:(((pnm++⟨#[123]⟩)++r)++⟨#[125]⟩).size=pnm.size+1+r.size+1:=by rw[Y9,z2];rfl
    have HZ:U<|(((pnm++⟨#[123]⟩)++r)++⟨#[125]⟩).size<=300000:=I<|by
     have h2:=G5 nd;rw[<-d,Zb]at h2;omega
    have a1:∀W,(Op.stringOp _ _ ⟨#[123]⟩).run prog W=.ok _ W:=λW=>XW W _ _<|by show pnm.size+1<=_;omega
    have a2:∀W,(Op.stringOp _ (pnm++⟨#[123]⟩) r).run prog W=.ok _ W:=λW=>XW W _ _ X;have a3:∀W,(Op.stringOp _ _ ⟨#[125]⟩).run prog W=.ok _ W:=λW=>XW W _ _<|by rw[z2];show _+1<=_;omega
    have P:=I<|((Ym _ w).alloc (Yj _) _).trans<|J.mono X;clear z1 z2 z3;go_wp2;go_ret;exact⟨_,C,HZ,d,P⟩
theorem iR(h:Z5 l=.error x):Xg l=none:=by unfold Xg;rw[h]
theorem Bp{x:Nat}{a:Nd}{p q:Tr}(h:Z5 l=.ok (.node x y a p q))(c:a.jj≠1):Xg l=none:=by
 unfold Xg;rw[h];simp only;rw[Yd λe=>c e.1]
theorem iT{x:Nat}{a:Nd}{p q:Tr}(h:Z5 l=.ok (.node x y a p q))(c:a.jj=1)(d:Xl a=l):Xg l=some a:=by
 unfold Xg;rw[h];simp only;rw[Ye ⟨c,d⟩]
theorem iS{x:Nat}{a:Nd}{p q:Tr}(h:Z5 l=.ok (.node x y a p q))(c:¬Xl a=l):Xg l=none:=by
 unfold Xg;rw[h];simp only;rw[Yd λe=>c e.2]
def RR(p:PV):F:=.agg #[E p.k,E p.n,E p.op,.string p.nm,.slice p.ca p.cn p.cc,.slice p.ba p.bn p.bc,E p.a,E p.b]
def XN:PV:=⟨0,0,0,⟨#[]⟩,none,0,0,none,0,0,0,0⟩
def RJ(w:Y)(r:Option<|Nd×Nat)(p:PV)(ok:F):Prop:=match r with
 |none=>ok=.bool false
 |some x=>ok=.bool true/\VC w x p
theorem RJ.mkNone{r:Option<|Nd×Nat}{p:PV}(h:r=none):RJ w r p<|.bool false:=by subst h;rfl
theorem RJ.mkSome{r:Option<|Nd×Nat}{p:PV}{x:Nd×Nat}(h:r=some x)(a:VC w x p):RJ w r p<|.bool true:=by subst h;exact⟨C,a⟩
structure O1 (w:Y)(b:Nat)(g cp:Nat)(a:Nd)(p:PV):Prop where
 at0:w.cell? ⟨b,0,none⟩=some (.slice (some ⟨g,0,none⟩) 1 cp)
 c:∀i,i<8->w.cell? ⟨g,i,none⟩=p.cells[i]?
 k:p.k=a.jj
 nm:bl p.nm=a.name
 cs:ZP w 0 p a.kq
 sz:a.name.length+cw a.kq<=200000
theorem gw{x:Nat}{a:Nd}{l r:Tr}(h:E4 w b<|.node x y a l r):
 ∃(g cp n:Nat),w.cell? ⟨b,0,none⟩=some (.slice (some ⟨g,0,none⟩) (n+1) cp)/\n+1<=301/\(n≠0->a.jj≠1)/\(n=0->∃p,O1 w b g cp a p):=by
 obtain⟨pv,n,xs,c,m,o,q,_,s,t⟩:=h;obtain⟨g,cp,rfl⟩:=Zm c.own X;refine⟨g,cp,n,c.cell,m,λf A=>?_,λf=>?_⟩
 .obtain⟨u,j⟩:=q.2.2.2.2.2.2.2.2.1 X;cases l with
  |node _ _ _ _ _=>cases u
  |nil=>cases r with
   |node _ _ _ _ _=>cases j
   |nil=>
    have:n+1=0+0+1:=t;omega
 .subst f;obtain⟨p,_,_,k,d,_⟩:=o;refine⟨p,c.cell,λi v=>?_,d.1,d.2.2.2.1,d.2.2.2.2.1,?_⟩
  .rw[<-k,MZ,PF,Ki,Ye v];have e:i<xs.length:=by
    have:=congrArg List.length k;rw[MZ,PF,Xw,Oz]at this;omega
   rw[List.getElem?_eq_getElem e];exact Zc c.own _ _<|List.getElem?_eq_getElem _
  .have z:Xo a+wT l+wT r<=100000:=s;unfold Xo at z;omega
def Ng(w:Y)(a:Nat)(p:PV):Y:=(((((((w.setCell ⟨a,0,none⟩<|E p.k).setCell ⟨a,1,none⟩<|E p.n).setCell ⟨a,2,none⟩<|E p.op).setCell ⟨a,3,none⟩<|.string p.nm).setCell ⟨a,4,none⟩<|.slice p.ca p.cn p.cc).setCell ⟨a,5,none⟩<|.slice p.ba p.bn p.bc).setCell ⟨a,6,none⟩<|E p.a).setCell ⟨a,7,none⟩<|E p.b
theorem iz{p:PV}{t:TypeId}(h:Ya w a q.cells t):Ya (Ng w a p) a p.cells t:=
 (((((((h.setkM 0 _).setkM 1 _).setkM 2 _).setkM 3 _).setkM 4 _).setkM 5 _).setkM 6 _).setkM 7 _
theorem ON{P:Program}{fn:Func}{R:Ending->Y->Prop}{a:Act}{v:Y}{p:PV}{t:TypeId}{r:F}(c:∀W:Y,(∀i,W.cell? ⟨b,i,none⟩=p.cells[i]?)->(results fn a.tmps).run P W=.ok r W)(hd:a.defers=[])(h:Ya v b q.cells t)(d:R (.returned r)<|Ng v b p):bodyPost P fn R .ret a<|Ng v b p:=YQ (c _ (iz h).cell) hd d
theorem OS(h:BW w0 w)(c:w0.heap.size<=a)(p:PV):BW w0<|Ng w a p:=
 (((((((h.setCell c _).setCell c _).setCell c _).setCell c _).setCell c _).setCell c _).setCell c _).setCell c _
theorem iA{p:PV}(c:k≠a):(Ng w a p).heap[k]?=w.heap[k]?:=by
 unfold Ng;iterate 8 rw[Go.Deep.blk_setCell_other _ _ _ _ c]
theorem ZP.set8{p:PV}{cs:List<|LB×LB×Bool}(h:ZP w 0 p cs)(d:Ya w a q.cells 59)(p':PV):ZP (Ng w a p') 0 p cs:=by
 obtain⟨qs,c,e⟩:=h;refine⟨qs,ZJ c λk f=>iA ?_,e⟩;rintro rfl;exact ZD c d N f.symm
theorem ZP.set1{p:PV}{cs:List<|LB×LB×Bool}(h:ZP w 0 p cs)(d:Ya w a q.cells 59):ZP (w.setCell ⟨a,i,none⟩ v) 0 p cs:=by
 obtain⟨qs,c,e⟩:=h;refine⟨qs,ZJ c λk f=>Go.Deep.blk_setCell_other _ _ _ _ ?_,e⟩;rintro rfl;exact ZD c d N f.symm
theorem pw (t:BA)(h:0<t.size):(bl t).getLast?=some (t[t.size-1]' X):=by
 rw[Kc,Zb,List.getElem?_eq_getElem<|by rw[Zb];omega,SN t _ _]
theorem oY(t:BA)(p:Nat):bl (t.extract (p+1)<|t.size-1)=((bl t).drop<|p+1).dropLast:=by
 rw[WL,Eg,Ur,Zb,Ri];congr 1;omega
theorem Ac(t:BA)(p:Nat):bl (t.extract 0 p)=(bl t).take p:=by rw[WL,PF]
theorem mD(w:Y)(ht:t.size<=65535):
 CP 60 #[.string t] w λe u=>∃(p:PV)(ok:F),e=.returned (.tuple #[RR p,ok])/\U (RJ u (ZL<|bl t) p ok)/\BW w u:=by
 go_enter func60,ntmps60;go_wp2_with fail;refine Zv λW hW=>?_;have b6:Below _ w W:=hW▸Yc;have A:U<|Ya W _ XN.cells 59:=hW▸(show Ya _ _ _ _ from Go.Deep.blk_alloc_new w _);have T:=I b6;clear hW b6;obtain⟨rb,a4⟩:∃rb,rb=w.heap.size:=⟨_,C⟩;rw[<-a4]at A⊢;have J:w.heap.size<=rb:=X;clear a4;refine(Bl t 91 W X).m ?_;rintro e w1 ⟨rfl,rfl⟩;rename Y=>w1;obtain⟨pI,a5⟩:∃pI,Pp 91 (bl t)=pI:=⟨_,C⟩;rw[a5];have b7:=I a5;clear a5;go_upto_if 15 with fail;go_cut [5,6] (λs5 s6 wx=>∃(sel:BA)(nz:Nat),s5=E nz/\s6=.string sel/\sel.size<=70000/\wx=w1/\U (ZL (bl t)=(Xg<|bl sel).map λa=>(a,nz))/\nz<=1000/\U ((pI=-1/\nz=0)\/(0<=pI/\pI<=70000/\0<nz)));case first=>
  cases hs:LS.seek 91 (bl t)with
  |none=>
   have hn:pI=-1:=by rw[<-b7,G2 hs]
   subst hn;go_wp2;go_meet;exact⟨t,0,C,C,X,C,I<|by unfold ZL;rw[hs],N,I<|Sm⟩
  |some p=>
   have hn:pI=(p):=by rw[<-b7,G3 hs]
   subst hn;have hp:p<t.size:=by
    have:=NJ hs;rwa [Zb]at this
   have K:=pw t X;have d:U<|ZL (bl t)=if(bl t).getLast?=some 93 then(match ZC 1000 ((bl t).drop<|p+1).dropLast with
    |some n=>if n=0 then none else(Xg<|(bl t).take p).map λa=>(a,n)
    |none=>none)else none:=by unfold ZL;rw[hs];rfl
   by_cases B:(bl t).getLast?=some 93
   .have hc:t[t.size-1]' X=93:=by rw[K]at B;injection B
    have d93:(((t[t.size-1]' X).toNat:Int) !=93)=false:=by rw[hc];rfl
    have b8:¬p=t.size-1:=by
     intro e;obtain⟨a,b,h1,h2,_⟩:=Pq hs;have h3:(bl t)[p]?=some 91:=by rw[h1,<-h2];simp
     rw[Kc,Zb,<-e,h3]at B;exact absurd B N
    have e0:p+1<=t.size-1:=X;rw[Ye B]at d;clear hc K B b8;go_wp2_with fail;refine(Aj _ 1000 _ (by rw[V5];omega) N).m ?_;rintro e w2 ⟨rfl,rfl⟩;rename Y=>w1;rw[oY t p];obtain⟨l1,b9⟩:∃l1,l1=((bl t).drop<|p+1).dropLast:=⟨_,C⟩;rw[<-b9]at d⊢;clear b9;have d0:=Nz 1000 l1;obtain⟨nI,a6⟩:∃nI,YL 1000 l1=nI:=⟨_,C⟩;rw[a6]at d0⊢;have a7:=I a6;clear a6;by_cases h1:nI<1
    .have H:U<|ZL _=none:=I<|by
      rw[d];cases S:ZC 1000 l1 with
     |none=>rfl
     |some n=>
      have:=a7.o;rw[RB S]at this;simp only;rw[Ye X]
     clear d d93;have z:=A.cell;simp only[XN,PV.cells]at z;have f:=A.frozen;go_wp2;exact ON (p:=XN) (λW c=>by simp[results,results60,go_sem,RR,XN,c,PV.cells]) C A.o ⟨XN,_,C,I<|RJ.mkNone H.o,OS T.o J XN⟩
    .obtain⟨n,rfl⟩:∃n:Nat,nI=n:=⟨nI.toNat,X⟩;have d1:0<n:=X;have H:U<|ZL _=(Xg<|bl _).map _:=I<|by
      rw[d,Ac];cases S:ZC 1000 l1 with
     |none=>have:=a7.o;rw[P1 S]at this;omega
     |some m=>
      have:=a7.o;rw[RB S]at this;obtain rfl:m=n:=X;simp only;rw[Yd X]
     clear d d93;go_wp2;go_meet;exact⟨_,n,C,C,by rw[V5];omega,C,H,X,I<|.inr ⟨X,X,d1⟩⟩
   .have d93:(((t[t.size-1]' X).toNat:Int) !=93)=true:=by
      rw[Vg];intro e;exact B<|by rw[K];congr 1;exact TN.1<|by show _=93;omega
    have H:U<|ZL _=none:=I<|by rw[d,Yd B]
    clear K B d;have z:=A.cell;simp only[XN,PV.cells]at z;have f:=A.frozen;go_wp2;exact ON (p:=XN) (λW c=>by simp[results,results60,go_sem,RR,XN,c,PV.cells]) C A.o ⟨XN,_,C,I<|RJ.mkNone H.o,OS T.o J XN⟩
 case rest=>
 obtain⟨sel,nz,rfl,rfl,d8,rfl,d,e3,c0⟩:=hcut;rename Y=>w1;go_wp2_with fail;refine(gu X).m ?_;rintro e w2 ⟨⟨v,cn,pn,rfl,Z⟩,a8⟩;have P:U<|BW w w2:=I<|T.trans<|a8.mono T.size;have j:=I<|A.below a8;clear a8 A T;cases D:Z5 (bl sel)with
 |error x=>
  obtain⟨h1,_,h3,h4⟩:=Z.1 x D;subst h4;have H:U<|ZL (bl t)=none:=by rw[d,iR D];rfl
  have e4:((cn:Int) !=0)=true:=by rw[Vg];omega
  clear Z h1 h3 D;have z:=j.cell;simp only[XN,PV.cells]at z;have f:=j.frozen;go_wp2;exact ON (p:=XN) (λW c=>by simp[results,results60,go_sem,RR,XN,c,PV.cells]) C j.o ⟨XN,_,C,I<|RJ.mkNone H.o,OS P.o J XN⟩
 |ok tr=>
  obtain⟨h1,_,b,h4,e5,a0⟩:=Z.2 _ D;subst h1 h4;cases tr with
  |nil=>
   obtain⟨_,_,_,_,_,_,_,c7,_⟩:=a0;cases c7
  |node tx ty a l r=>
   obtain⟨g,cp,n,a9,e6,b0,b1⟩:=gw a0;have d2:=I b1;have e7:=I a0;clear Z a0 b1;have a1:=Xi _ _ a9;simp only at a1;by_cases c1:n=0
   .subst c1;obtain⟨p,i⟩:=d2.o C;have i:=I i;have p0:=i.c 0 N;have p1:=i.c 1 N;have p2:=i.c 2 N;have p3:=i.c 3 N;have p4:=i.c 4 N;have p5:=i.c 5 N;have p6:=i.c 6 N;have p7:=i.c 7 N;simp only[PV.cells,Yf]at p0 p1 p2 p3 p4 p5 p6 p7;have o:=Xi _ _ p0;simp only at o;by_cases Q:a.jj=1
    .have a2:p.k=1:=by rw[i.k,Q];rfl
     have d3:=I a2;rw[a2]at p0;clear a2 b0;go_wp2_with fail;rw[<-d3];refine(iU _ p a i.nm i.cs i.sz).m ?_;rintro e w3 ⟨r3,rfl,e8,b2,L⟩;have V:=I<|P.trans<|L.mono P.size;have R:=I<|j.below L;have s:U<|∀q:Addr,q.block<w2.heap.size->w3.cell? q=w2.cell? q:=I λq D=>L.cell D;have d4:=(s _ a1).trans a9;have b3:=I<|i.cs.below' L;have q0:=(s _ o).trans p0;have q1:=(s _ o).trans p1;have q2:=(s _ o).trans p2;have q3:=(s _ o).trans p3;have q4:=(s _ o).trans p4;have q5:=(s _ o).trans p5;have q6:=(s _ o).trans p6;have q7:=(s _ o).trans p7;have c8:=WH a1 L.size;have c9:=WH o L.size;clear p0 p1 p2 p3 p4 p5 p6 p7 a9 L a1 o s j P;by_cases M:Xl a=bl sel
     .have d5:=ZbH<|b2.trans M;subst d5;have c2:U<|ZL (bl t)=some (a,nz):=by rw[d,iT D Q M];rfl
      clear M D Q d;go_upto_if 82 with fail;refine Zs λW4 b4=>?_;have a3:Below _ _ _:=b4▸Yc;have O:U<|Ya _ _ ({p with k:=1}).cells 59:=b4▸(show Ya _ _ _ _ from Go.Deep.blk_alloc_new w3 _);have G:=I<|R.below a3;have c3:=I<|V.trans<|a3.mono V.size;have b5:=I<|b3.below' a3;have c4:¬w3.heap.size=rb:=by have:=R.lt;omega
      have c5:=V.size;clear b4 a3 q0 q1 q2 q3 q4 q5 q6 q7 d4 c8 c9 b3 R V;generalize w3.heap.size=xa at*;rcases c0.o with⟨e1,e2⟩|⟨e1,e1b,e2⟩
      .subst e1 e2;have z:=G.cell;simp only[XN,PV.cells]at z;have f:=G.frozen;have x:=O.cell;simp only[PV.cells]at x;have d6:=G.lt;have d7:=O.lt;go_wp2;exact ON (p:={p with k:=1}) (r:=.tuple #[RR {p with k:=1},.bool true]) (λW c=>by simp[results,results60,go_sem,RR,c,PV.cells]) C G.o ⟨_,_,C,I<|RJ.mkSome c2.o ⟨by rfl,λh=>absurd h<|Tu _,i.nm,b5.set8 G.o _⟩,OS c3.o J _⟩
      .clear c0;have z:=G.cell;simp only[XN,PV.cells]at z;have f:=G.frozen;have x:=O.cell;simp only[PV.cells]at x;have d6:=G.lt;have d7:=O.lt;have xf:=O.frozen;have c6:=I<|(G.other (p:=⟨xa,0,none⟩) (λe=>c4 e.symm)<|E 2).other (p:=⟨xa,1,none⟩) (λe=>c4 e.symm)<|E nz;go_wp2;exact ON (p:={p with k:=2,n:=nz}) (r:=.tuple #[RR {p with k:=2,n:=nz},.bool true]) (λW c=>by simp[results,results60,go_sem,RR,c,PV.cells]) C c6.o ⟨_,_,C,I<|RJ.mkSome c2.o ⟨by show(2:Int)=if 0<nz then 2 else 1;rw[Ye e2],λ_=>C,i.nm,((b5.set1 O.o).set1 (q:={p with k:=2})<|O.setkM 0 _).set8 c6.o _⟩,OS ((c3.setCell (p:=⟨xa,0,none⟩) c5<|E 2).setCell (p:=⟨xa,1,none⟩) c5<|E nz) J _⟩
     .have b8:(r3.toList !=sel.toList)=true:=by
       rw[Vg];intro e;exact M<|by rw[<-b2,<-ZA,<-ZA,e]
      have d9:(r3.toList==sel.toList)=false:=by
       rw[YB];intro e;exact M<|by rw[<-b2,<-ZA,<-ZA,e]
      have H:U<|ZL (bl t)=none:=by rw[d,iS D M];rfl
      clear M D Q d;have z:=R.cell;simp only[XN,PV.cells]at z;have f:=R.frozen;go_wp2;exact ON (p:=XN) (λW c=>by simp[results,results60,go_sem,RR,XN,c,PV.cells]) C R.o ⟨XN,_,C,I<|RJ.mkNone H.o,OS V.o J XN⟩
    .have a2:((p.k) !=1)=true:=by rw[Vg,i.k];omega
     have H:U<|ZL (bl t)=none:=by rw[d,Bp D Q];rfl
     clear Q D;have z:=j.cell;simp only[XN,PV.cells]at z;have f:=j.frozen;go_wp2;exact ON (p:=XN) (λW c=>by simp[results,results60,go_sem,RR,XN,c,PV.cells]) C j.o ⟨XN,_,C,I<|RJ.mkNone H.o,OS P.o J XN⟩
   .have e9:((IntKind.i64.wrap<|(n)+1) !=1)=true:=by rw[Vg,Us];omega
    have H:U<|ZL (bl t)=none:=by rw[d,Bp D<|b0 c1];rfl
    clear D b0;have z:=j.cell;simp only[XN,PV.cells]at z;have f:=j.frozen;go_wp2;exact ON (p:=XN) (λW c=>by simp[results,results60,go_sem,RR,XN,c,PV.cells]) C j.o ⟨XN,_,C,I<|RJ.mkNone H.o,OS P.o J XN⟩
def WU(bad:List TypeId)(w w':Y):Prop:=∀(b:Nat)(e:TypeId)(sz:Nat)(v:F)(n:Nat)(xs:List F),w.ownsRow b e sz v n xs->e∉bad->w'.ownsRow b e sz v n xs
theorem WU.refl(bad:List TypeId)(w:Y):WU bad w w:=λ_ _ _ _ _ _ h _=>h
theorem WU.trans{bad:List TypeId}{a z:Y}(h:WU bad w a)(d:WU bad a z):WU bad w z:=λb e sz v n xs f c=>d b e _ v n _ (h b e _ v n _ f c) c
theorem WU.below(bad:List TypeId)(h:BW w w'):WU bad w w':=λ_ _ _ _ _ _ a _=>Ze a h
theorem WU.grown {bad:List TypeId}{e:TypeId}(h:w.ownsRow b e sz v n xs)(i:w.grownBy w' v.ownBlock)(j:e∈bad):WU bad w w':=λb2 e2 s2 v2 n2 xs2 c f=>ZJ c (λk a=>i.block k (c.lt k a).2 (λe3=>by
 have g:e2≠e:=λe4=>f<|by rwa [e4]
 rcases QD c h g with d|d
 .rw[d]at a;cases a
 .exact d<|by rwa [a]))
theorem WU.set {bad:List TypeId}{t:TypeId}(f:Ya w a c t)(h:t∈bad)(i:Nat)(x:F):WU bad w<|w.setCell ⟨a,i,none⟩ x:=λb2 e2 s2 v2 n2 xs2 d e=>ZJ d λk g=>Go.Deep.blk_setCell_other _ _ _ _<|by
 rintro rfl;exact ZD d f (λe4=>e<|by rwa [<-e4]) g.symm
theorem vF{e:TypeId}(h:BW w0 w)(d:w.ownsRow w0.heap.size e sz v n xs)(a:w.grownBy w' v.ownBlock):BW w0 w':=by
 refine⟨a.os.trans h.os,a.tape.trans h.tape,a.output.trans h.output,Xb h.size a.size,?_⟩;intro j c;rw[a.block j (WH c h.size) λe=>by have:=(d.lt j e.symm).1;omega,h.block j c]
theorem Ya.ownGrownR{t:TypeId}(h:Ya w a c t){base:Nat}{e:TypeId}(d:w.ownsRow base e sz v n xs)(f:w.grownBy w' v.ownBlock)(g:t≠e):Ya w' a c t:=
 (f.block a h.lt<|ZD d h g).trans h
structure WD (w:Y)(c:Yb)(cv pv gv:F)(l:List PV)(g:List<|Option Addr×Nat×Nat):Prop where
 cs:w.ownsRow 0 2 1 cv c.jq.length<|c.jq.map<|.int .i64
 ps:w.ownsRow 0 59 8 pv c.jw.length<|Pf l
 pl:l.length=c.jw.length
 pk:∀(i:Nat)(x:Nd×Nat)(p:PV),c.jw[i]?=some x->l[i]?=some p->VC w x p
 gs:w.ownsRow 0 57 1 gv c.jv.length<|g.map λy=>.slice y.1 y.2.1 y.2.2
 gl:g.length=c.jv.length
 gk:∀(i:Nat)(x:List<|LB)(y:Option Addr×Nat×Nat),c.jv[i]?=some x->g[i]?=some y->∃bs:List BA,w.ownsRow 0 9 1 (.slice y.1 y.2.1 y.2.2) bs.length (bs.map .string)/\bs.map bl=x
theorem VC.keep{bad:List TypeId}{x:Nd×Nat}{p:PV}(h:VC w x p)(a:WU bad w w')(c:268∉bad):VC w' x p:=⟨h.k,h.n,h.nm,by
 obtain⟨qs,d,e⟩:=h.cs;exact⟨qs,a _ _ _ _ _ _ d c,e⟩⟩
theorem WD.keep{c:Yb}{l:List PV}(h:WD w c cv pv gv l g)(a:WU [110,69] w w'):WD w' c cv pv gv l g:=
 ⟨a _ _ _ _ _ _ h.cs N,a _ _ _ _ _ _ h.ps N,h.pl,λi x p d e=>(h.pk i x p d e).keep a N,a _ _ _ _ _ _ h.gs N,h.gl,λi x y d e=>by
  obtain⟨bs,f,j⟩:=h.gk i x y d e;exact⟨bs,a _ _ _ _ _ _ f N,j⟩⟩
theorem WD.code{iv:F}{l:List PV}(h:WD w ⟨cs,ps,gs,[]⟩ cv pv gv l g)(a:Ya w cb [cv,pv,gv,iv] 69)(c:w.ownsRow 0 110 2 iv is.length<|SP is):X8 w cb ⟨cs,ps,gs,is⟩ cv pv gv iv l g:=
 ⟨a,h.cs,h.ps,h.pl,h.pk,h.gs,h.gl,h.gk,c⟩
def OM(l:LB)(cs:List Int)(ps:List<|Nd×Nat)(gs:List<|List<|LB)(p n:Nat):Except (Nat×Nat) Yb:=match Yo (WM l) p n with
 |.error e=>.error e
 |.ok is=>if l.length<is.2+4 then .error (9,l.length)else if is.2+4<l.length then .error (9,is.2+4)else
  if Yp (l.drop is.2)≠XL (l.take is.2)then .error (10,0)else .ok ⟨cs,ps,gs,is.1⟩
theorem fB(h:p<l.length):Y6 l p 1=[l[p]]:=by
 unfold Y6;rw[List.drop_eq_getElem_cons h];rfl
theorem vq(c:UInt8):Yp [c]=c.toNat:=by simp[Yp]
theorem Fy(h:p<l.length):Z8 l p 1=.ok ((l[p]).toNat,p+1):=by
 unfold Z8 VJ;rw[Yd X];simp only;rw[fB h,vq]
theorem rD(h:l.length<p+1):WM l p=.error (9,l.length):=by
 unfold WM Z8 VJ;rw[Ye h]
theorem rA{h:p<l.length}(a:13<(l[p]).toNat):WM l p=.error (9,p):=by
 unfold WM;rw[Fy h];simp only;rw[Ye a]
theorem rB{h:p<l.length}(a:¬13<(l[p]).toNat)(c:l.length<p+3):WM l p=.error (9,l.length):=by
 unfold WM;rw[Fy h];simp only;rw[Yd a];unfold Z8 VJ;rw[Ye X]
theorem rC{h:p<l.length}(a:¬13<(l[p]).toNat)(c:¬l.length<p+3):WM l p=.ok (((l[p]).toNat,Yp<|Y6 l (p+1) 2),p+3):=by
 unfold WM;rw[Fy h];simp only;rw[Yd a];unfold Z8 VJ;rw[Yd X]
theorem Zex(s:BA)(p n:Nat):bl (s.extract p<|p+n)=Y6 (bl s) p n:=by
 rw[WL,Ri];unfold Y6;congr 1;omega
theorem iM(h:p+4=l.length):l.take p++XR (XL<|l.take p) 4=l↔Yp (l.drop p)=XL (l.take p):=by
 have hd:(l.drop p).length=4:=by rw[Ur];omega
 constructor
 .intro e;have a:l.take p++XR (XL<|l.take p) 4=l.take p++l.drop p:=by rw[e,Oi]
  have c:=List.append_cancel_left a;rw[<-c];exact vk 4 _<|FG _
 .intro e;rw[<-e];have:=vS<|l.drop p;rw[hd]at this;rw[this,Oi]
def Uf(w:Y)(r:Except (Nat×Nat) Yb)(v:F)(c p:Nat):Prop:=match r with
 |.error x=>v=.pointer none/\c=x.1/\p=x.2/\c≠0
 |.ok code=>c=0/\p=0/\∃(cb:Nat)(cv pv gv iv:F)(l:List PV)(g:List<|Option Addr×Nat×Nat),v=.pointer (some ⟨cb,0,none⟩)/\X8 w cb code cv pv gv iv l g/\code.jz.length<=65535/\∀x∈code.jz,x.1<=13/\x.2<65536
theorem Uf.ku{c:Nat}(h:r=.error (c,p))(a:c≠0):Uf w r (.pointer none) c p:=by subst h;exact⟨C,C,C,a⟩
theorem Uf.mkOk{code:Yb}{iv:F}{l:List PV}(h:r=.ok code)(a:X8 w cb code cv pv gv iv l g)(c:code.jz.length<=65535)(d:∀x∈code.jz,x.1<=13/\x.2<65536):Uf w r (Vp cb) 0 0:=by subst h;exact⟨C,C,cb,cv,pv,gv,iv,l,g,C,a,c,d⟩
theorem Tryz.infoInsR:(Tryz.prog.info? 110).map (λi=>(i.zero,i.size,i.bytes))=some (some<|.agg #[E 0,E 0],2,16):=Kr
structure WE (w0 wr:Y)(cb:Nat)(cs:List Int)(ps:List<|Nd×Nat)(gs:List<|List<|LB)(is:List<|Nat×Nat)(cv pv gv:F)(ia:Option Addr)(n ic:Nat)(l:List PV)(g:List<|Option Addr×Nat×Nat):Prop where
 base:WD wr ⟨cs,ps,gs,[]⟩ cv pv gv l g
 box:Ya wr cb [cv,pv,gv,.slice ia n ic] 69
 own:wr.ownsRow w0.heap.size 110 2 (.slice ia n ic) n<|SP is
 bel:BW w0 wr
 op:∀x∈is,x.1<=13/\x.2<65536
theorem WE.app{wr d:Y}{l:List PV}(h:WE w0 wr cb cs ps gs is cv pv gv ia n ic l g)(f:w0.heap.size<=cb){ga nc:Nat}
 (e:wr.grownBy d (Value.slice ia n ic).ownBlock)(i:d.ownsRow w0.heap.size 110 2 (.slice (some ⟨ga,0,none⟩) (n+1) nc) (n+1)<|SP is++[E op,E arg])(o:op<=13)(p:arg<65536):
 WE w0 (d.setCell ⟨cb,3,none⟩<|.slice (some ⟨ga,0,none⟩) (n+1) nc) cb cs ps gs (is++[(op,arg)]) cv pv gv (some ⟨ga,0,none⟩) (n+1) nc l g:=by
 have j:WU [110,69] _ _:=WU.grown h.own e N;have c:=h.box.ownGrownR h.own e N;have m:WU [110,69] _<|d.setCell ⟨cb,3,none⟩<|.slice (some ⟨ga,0,none⟩) (n+1) nc:=WU.set c N _ _;refine⟨h.base.keep<|j.trans m,c.setkM 3 _,?_,?_,λx a=>?_⟩
 .rw[Dv];exact ZJ i λk q=>Go.Deep.blk_setCell_other _ _ _ _<|by
    rintro rfl;exact ZD i c N q.symm
 .exact Below.setCell (vF h.bel h.own e) f _
 .rcases Wk.1 a with a|a
  .exact h.op x a
  .rw[Vr]at a;subst a;exact⟨o,p⟩
theorem WE.below{wr c:Y}{l:List PV}(h:WE w0 wr cb cs ps gs is cv pv gv ia n ic l g)(a:BW wr c):WE w0 c cb cs ps gs is cv pv gv ia n ic l g:=
 ⟨h.base.keep<|WU.below _ a,h.box.below a,Ze h.own a,h.bel.trans<|a.mono h.bel.size,h.op⟩
theorem gE(w0 w:Y)(s:BA)(p0:Nat)(l:List PV)(g:List<|Option Addr×Nat×Nat)(h:WE w0 w cb cs ps gs [] cv pv gv none 0 0 l g)(a7:w0.heap.size<=cb)(hs:s.size<=maxLen)(a8:p0<=s.size)(a9:p0<=10000000000)(hn:n<=65535):
 CP 62 #[Vp cb,.string s,E p0,E n] w λe R=>∃(v:F)(c p:Nat),e=.returned (.tuple #[v,E c,E p])/\U (Uf R (OM (bl s) cs ps gs p0 n) v c p)/\BW w0 R:=by
 have T:=I h;have c2:s.size<=9223372036854775807:=by unfold maxLen at hs;omega
 obtain⟨i0,hi,b0,b1,b2⟩:=Xv Tryz.infoInsR;have b4:=I a7;have M:U<|∀k x,Yo _ _ k=.error x->k<=n->OM (bl s) cs ps gs p0 n=.error x:=I λk x he hk=>by
  unfold OM;rw[Ft he n hk]
 clear h hs;go_enter func62,ntmps62;go_wp2;go_loopw [2,11] (λav iv wr=>∃(k p:Nat)(is:List<|Nat×Nat)(ia:Option Addr)(ic:Nat),k<=n/\iv=E k/\av=E p/\p<=s.size/\p<=p0+3*k/\U (Yo (WM<|bl s) p0 k=.ok (is,p))/\U (WE w0 wr cb cs ps gs is cv pv gv ia k ic l g)) (λ_ iv _=>n-(intOf iv).toNat);case atStart=>exact⟨0,p0,[],none,0,Yr _,C,C,a8,Yj _,I C,T⟩
 case round=>
  clear T;obtain⟨k,p,is,ia,ic,hk,rfl,rfl,hp,c3,H,t⟩:=hrel;by_cases c4:k<n
  .by_cases c5:p<s.size
   .have a9:p<(bl s).length:=by rwa [Zb]
    have f:(bl s)[p]=s[p]:=SN s p _;by_cases J:13<s[p].toNat
    .have j:=I<|M _ _ (Rr H (rA<|by rwa [f]) _<|RA k) X;have b5:(13:Int)<(s[p].toNat):=X;clear f;go_wp2;go_ret3;exact⟨_,9,p,C,I<|Uf.ku j N,t.bel⟩
    .have b5:¬(13:Int)<(s[p].toNat):=X;by_cases h3:s.size<p+3
     .have j:=I<|M _ _ (Rr H (by rw[rB (f▸J)<|by rwa [Zb],Zb]) _<|RA k) X;clear f;go_wp2;go_ret3;exact⟨_,9,s.size,C,I<|Uf.ku j N,t.bel⟩
     .have V:=I<|OF H<|by rw[rC (f▸J)<|by rwa [Zb],f]
      have W:U<|Yp (Y6 (bl s) (p+1) 2)<65536:=I<|PS (n:=2)<|by unfold Y6;rw[Xw];omega
      obtain⟨arg,B⟩:∃arg,arg=Yp (Y6 (bl s) (p+1) 2):=⟨_,C⟩;rw[<-B]at V;rw[<-B]at W;have a5:=I B;have c1:p+3<=s.size:=X;have S:s[p].toNat<=13:=X;clear f B H J;have b3:=t.box.cell 3;simp only[Yf]at b3;have c6:=t.box.lt;have MJ:IntKind.i64.wrap ((p)+1)=(p)+1:=by rw[Us];omega
      have c7:IntKind.i64.wrap ((p)+3)=(p)+3:=by rw[Us];omega
      have wo:IntKind.i64.wrap (s[p].toNat)=(s[p].toNat):=by rw[Us];omega
      have nn1:(0:Int)<=(p)+1:=X;have nn3:(0:Int)<=(p)+3:=X;have tn3:((p:Int)+3).toNat=p+3:=X;have Z:=I λo=>t.own.drew.alloc o;have O:U<|∀o,WE _ (wr.drew.alloc o) _ _ _ _ _ _ _ _ _ k _ l g:=I λo=>t.below<|((Ym _ _).drew).alloc (Yj _) _;have a0:wr.drew.cell? _=some _:=b3;have b6:U<|∀o,(wr.drew.alloc o).cell? _=some _:=I λo=>(O o).box.cell 3;have b7:U<|∀o,(wr.drew.alloc o).heap[wr.heap.size]?=some o:=I λo=>Go.Deep.blk_alloc_new _ o;go_upto_region 8 with fail;clear b3 h3;refine ZW 21 (λR=>R.cell? _=some _) Kr (a0) λa=>?_;clear a0;refine Za 0 a (h:=Za 1 a (h:=Za 2 a (h:=Za 3 a (h:=Za 4 a (h:=Za 5 a (h:=Za 6 a (h:=Za 7 a (h:=Za 8 a (h:=Za 9 a (h:=Za 10 a (h:=Za 11 a (h:=Za 12 a (h:=Za 13 a (h:=Za 14 a (h:=?_)))))))))))))));refine Zz (i:=15) Kr C λK m=>?_;go_simp;refine(NG<|by rw[V5];omega).m ?_;rintro e w1 ⟨rfl,rfl⟩;rw[show s.extract _ _=s.extract _ (p+1+2)from C,Zex s _ 2,<-a5];go_simp;refine m _ _ a λa=>?_;clear m K;try simp only[Act.put,Yt]
      refine Za 16 a (h:=?_);refine Zz (i:=17) Kr C λK m=>?_;go_simp;refine m _ _ (b6 _) λa=>?_;clear m K;try simp only[Act.put,Yt]
      refine Zz (i:=18) Kr C λK m=>?_;refine SY C _ _ _ C _ 110 _ _ 2 _ underlying67 hi b0 b1 b2 C N _ k _ (by simp[Act.eval]) (Z.o _) ⟨wr.heap.size,0,none⟩ 1 1 [E s[p].toNat,E arg] (by simp[Act.eval]) C ?h2 ?h3 ?h4 ?h5 ?h6 ?_;case h2=>first|exact Z1<|b7.o _|exact Z1 C|exact PW (by simp;exact wo)<|Sm
      case h3=>intro u hu;simp at hu;rcases hu with rfl|rfl<;>rfl
      case h4=>unfold maxLen;omega
      case h5=>omega
      case h6=>simp;omega
      intro v1 w1 D q _;obtain⟨g1,cp1,b8⟩:=Zm D X;subst b8;have HN:=I<|(O _).app b4 (q) D S W;have P:=(O _).box.ownGrownR (Z _) q N;have b9:=I P;have a1:w1.cell? _=some _:=P.cell 3;refine m _ _ a1 λa=>?_;clear m K;try simp only[Act.put,Of]
      refine Tj (i:=19) (d:=55) (v:=?v19) C C Kr (λ_ _ _ h=>h) (Or.inl ⟨by rfl,?hy19⟩) a ?rs19;case hy19=>(intro w hSw;go_simp;try with_reducible rfl)
      case rs19=>
      refine Tj (i:=20) (d:=56) (v:=?v20) C C Kr (λ_ _ _ h=>h) (Or.inl ⟨by rfl,?hy20⟩) a ?rs20;case hy20=>(intro w hSw;go_simp;try with_reducible rfl)
      case rs20=>
      refine ZS Kr Kr C Kr λK m=>?_;have yf:=b9.frozen 3;clear D q P;go_simp;refine m _ _ ?_;clear m K a1 yf;go_wp2;go_roundw;case rel=>exact⟨k+1,p+3,_,_,_,X,by go_num,by go_num,X,X,V,HN⟩
      case measure=>simp[intOf];omega
   .have j:=I<|M _ _ (Rr H (by rw[rD<|by rw[Zb];omega,Zb]) _<|RA k) X;have h3:s.size<p+3:=X;go_wp2;go_ret3;exact⟨_,9,s.size,C,I<|Uf.ku j N,t.bel⟩
  .obtain rfl:n=k:=X;have a2:=I<|KN H;have L:U<|OM _ cs ps gs _ n=if s.size<p+4 then .error _ else if p+4<s.size then .error _ else
    if Yp _≠XL _ then .error _ else .ok _:=I<|by
    unfold OM;rw[H];simp only;rw[Zb]
   by_cases h4:s.size<p+4
   .have j:=I<|L.trans<|Ye h4;go_wp2;go_ret3;exact⟨_,9,s.size,C,I<|Uf.ku j N,t.bel⟩
   .by_cases h5:p+4<s.size
    .have j:=I<|L.trans<|(Yd h4).trans<|Ye h5;go_wp2;go_ret3;exact⟨_,9,p+4,by first|rfl|go_num,I<|Uf.ku j N,t.bel⟩
    .have a3:p+4=s.size:=X;have c8:=I a3;clear a3;go_wp2_with fail;refine(Ak _<|by rw[V5];omega).m ?_;rintro e z ⟨r,rfl,HR,a4⟩;have A:=I<|t.below a4;have Q:U<|r=s↔Yp ((bl s).drop p)=XL ((bl s).take p):=by
      rw[<-iM<|by rwa [Zb],<-Ac,<-HR];exact⟨λe=>by rw[e],λe=>ZbH e⟩
     clear a4 HR;by_cases G:r=s
     .have j:=I<|L.trans<|(Yd h4).trans<|(Yd h5).trans<|Yd λh=>h<|Q.1 G;subst G;have c0:=I<|A.base.code A.box<|by rw[a2];exact TX A.own
      have a6:=I<|Uf.mkOk j c0 (by rwa [a2.o]) A.op;go_wp2;go_ret3;exact⟨_,0,0,C,a6,A.bel⟩
     .have j:=I<|L.trans<|(Yd h4).trans<|(Yd h5).trans<|Ye λh=>G<|Q.2 h;have e1:=(Ow r s).trans<|Wl G;have e2:(r.toList !=s.toList)=true:=by rw[bne,e1];rfl
      clear G Q;go_wp2;go_ret3;exact⟨_,10,0,C,I<|Uf.ku j N,A.bel⟩
def XD(bs:List BA)(i k:Nat):Bool:=Zx (bl<|bs.getD i ⟨#[]⟩)&&(List.range k).all λj=>decide<|bs.getD j ⟨#[]⟩≠bs.getD i ⟨#[]⟩
theorem lU(bs:List BA)(i:Nat):XD bs i 0=Zx (bl<|bs.getD i ⟨#[]⟩):=by simp[XD]
theorem lT(bs:List BA)(i k:Nat):XD bs i (k+1)=(XD bs i k&&decide (bs.getD k ⟨#[]⟩≠bs.getD i ⟨#[]⟩)):=by
 unfold XD;rw[List.range_succ,Iz];simp[Bool.and_assoc]
theorem lR(h:XD bs i k=true):Zx (bl<|bs.getD i ⟨#[]⟩)=true:=by
 unfold XD at h;rw[Vt]at h;exact h.1
theorem lS{j:Nat}(h:XD bs i k=true)(a:j<k):bs.getD j ⟨#[]⟩≠bs.getD i ⟨#[]⟩:=by
 unfold XD at h;rw[Vt]at h;exact Rw<|Tt.1 h.2 j<|RX.2 a
theorem Ph(h:i<bs.length):bs.getD i ⟨#[]⟩=bs[i]:=by
 rw[Y0,List.getElem?_eq_getElem h];rfl
theorem qL{t:LB}(f:t≠[])(g:bs.map bl=split 44 t)(h:∀i,i<bs.length->XD bs i i=true):VW t=some (split 44 t):=by
 unfold VW;rw[Yd f,Ye];rw[<-g];constructor
 .rw[Tt];intro x k;obtain⟨y,l,rfl⟩:=XK.1 k;obtain⟨i,a,rfl⟩:=List.mem_iff_getElem.1 l;have:=lR<|h i a;rwa [Ph _]at this
 .unfold List.Nodup;rw[List.pairwise_iff_getElem];intro i j a c d e;rw[List.getElem_map,List.getElem_map]at e;rw[Yz]at a c;have:=lS (h j c) d;rw[Ph a,Ph c]at this;exact this<|ZbH e
theorem qF{t:LB}(f:t≠[])(g:bs.map bl=split 44 t)(c:i<bs.length)(h:XD bs i i=false):VW t=none:=by
 unfold VW;rw[Yd f,Yd];rw[<-g];rintro⟨k,d⟩;have:XD bs i i=true:=by
  unfold XD;rw[Vt];constructor
  .rw[Ph c];exact Tt.1 k _<|XK.2 ⟨_,List.getElem_mem _,C⟩
  .rw[Tt];intro j a;have a:=RX.1 a;apply WI;rw[Ph c,Ph<|Nat.lt_trans a c];unfold List.Nodup at d;rw[List.pairwise_iff_getElem]at d;have:=d j i (by rw[Yz];omega) (by rw[Yz];omega) a;rw[List.getElem_map,List.getElem_map]at this;exact λe=>this<|by rw[e]
 rw[h]at this;cases this
def Oo(w:Y)(r:Option<|List<|LB)(a:Option Addr)(n c:Nat)(ok:F):Prop:=match r with
 |none=>ok=.bool false
 |some x=>ok=.bool true/\∃bs:List BA,w.ownsRow 0 9 1 (.slice a n c) bs.length (bs.map .string)/\bs.map bl=x
theorem Oo.mkNone{r:Option<|List<|LB}{a:Option Addr}{c:Nat}(h:r=none):Oo w r a n c<|.bool false:=by subst h;rfl
theorem Oo.mkSome{r:Option<|List<|LB}{a:Option Addr}{c:Nat}{x:List<|LB}(h:r=some x)(d:∃bs:List BA,w.ownsRow 0 9 1 (.slice a n c) bs.length (bs.map .string)/\bs.map bl=x):Oo w r a n c<|.bool true:=by subst h;exact⟨C,d⟩
theorem qo(w:Y)(ht:t.size<=65535):
 CP 61 #[.string t] w λe u=>∃(a:Option Addr)(n c:Nat)(ok:F),e=.returned (.tuple #[.slice a n c,ok])/\U (Oo u (VW<|bl t) a n c ok)/\BW w u:=by
 by_cases M:t=⟨#[]⟩
 .subst M;have HG:U<|VW (bl ⟨#[]⟩)=some []:=I<|by unfold VW;rw[Ye<|show bl ⟨#[]⟩=[]from C]
  go_enter func61,ntmps61;go_wp2;go_ret2;exact⟨none,0,0,_,C,I<|Oo.mkSome HG ⟨[],Xm _ _ _ _,C⟩,Yh⟩
 .have a1:(t.toList==[])=false:=by
   have A:=(Ow t _).trans<|Wl M;rw[ZA ⟨#[]⟩]at A;exact A
  have Q:U<|bl t≠[]:=I λe=>M<|ZbH e;clear M;go_enter func61,ntmps61;go_wp2_with fail;refine(Al t 44 w X).m ?_;rintro e O ⟨v,bs,rfl,q,m,R⟩;have s:=I R;have G:=I<|TX q;have a2:U<|bs.length<=65536:=I<|by
   have A:=congrArg List.length m;have h2:=Qe 44<|bl t;rw[Yz]at A;rw[Zb]at h2;omega
  have a3:U<|∀x∈bs,x.size<=65535:=I λx B=>by
   have A:bl x∈split _ _:=m.o▸XK.2 ⟨x,B,C⟩;have:=JM _ _ _ A;rw[Zb,Zb]at this;omega
  obtain⟨va,vc,rfl⟩:=Zd q;clear q R a1;have a4:=a2.o;obtain⟨n,Z⟩:∃n,n=bs.length:=⟨_,C⟩;rw[<-Z]at a4⊢;have P:=I Z;clear Z;go_wp2;go_loopw [5] (λiv wr=>∃i:Nat,i<=n/\iv=E i/\U (∀j,j<i->XD bs j j=true)/\U (BW O wr)) (λiv _=>n-(intOf iv).toNat);case atStart=>exact⟨0,Yr _,C,I λj hj=>absurd hj<|Tu _,I<|Ym _ _⟩
  case round=>
   obtain⟨i,hi,rfl,HA,z⟩:=hrel;by_cases a5:i<n
   .have d:i<bs.length:=by rw[<-P.o];exact a5
    have f:=I<|Ze G.o z.o;obtain⟨g,cp,hg⟩:=Zm f.o X;injection hg with hg1 hg2 hg3;subst hg1;clear hg2 hg3;obtain⟨x,B⟩:∃x,bs.getD i ⟨#[]⟩=x:=⟨_,C⟩;have HX:=I B;have ci:=Zc f i (.string x)<|by rw[Vs,List.getElem?_eq_getElem d,<-B,Ph d];rfl
    have a8:=a3 x<|B▸Ph d▸List.getElem_mem d;have S:=ZN f;clear B;go_wp2_with fail;refine(Ai x _ X).m ?_;rintro e wr ⟨rfl,rfl⟩;obtain⟨ok0,r⟩:∃ok0,Zx (bl x)=ok0:=⟨_,C⟩;rw[r];have H:U<|XD _ i 0=ok0:=I<|by rw[lU,HX,r]
    clear r;go_wp2;go_loopw [6,7] (λov kv wq=>∃(k:Nat)(ok:F),k<=i/\kv=E k/\ov=ok/\U (ok=.bool (XD bs i k))/\U (BW O wq)) (λ_ kv _=>i-(intOf kv).toNat);case atStart=>exact⟨0,_,Yr _,C,C,I<|by rw[H],z⟩
    case round=>
     obtain⟨k,ok,hk,rfl,rfl,T,l⟩:=hrel;clear ci f H S;have J:=I<|Ze G l;obtain⟨b,D⟩:∃b,XD bs i k=b:=⟨_,C⟩;have V:=T.o;rw[D]at V;subst V;by_cases a9:k<i
     .have W:k<bs.length:=X;obtain⟨y,hy⟩:∃y,bs.getD k ⟨#[]⟩=y:=⟨_,C⟩;have ci:=Zc J i (.string x)<|by rw[Vs,List.getElem?_eq_getElem d,<-HX,Ph d];rfl
      have ck:=Zc J k (.string y)<|by rw[Vs,List.getElem?_eq_getElem W,<-hy,Ph W];rfl
      have S:=ZN J;have b0:k<n:=X;have K:U<|XD _ i _=(b&&decide _):=I<|by rw[lT,D,hy,HX]
      clear hy D T;cases b with
      |false=>
       have o:U<|XD _ i _=false:=I K;go_wp2;go_quiet (fail);go_wp2;go_roundw;case rel=>exact⟨k+1,_,X,by go_num,C,I<|by rw[o],I<|by have:=l.o;first|exact this|exact this.drew|exact Wn this _⟩
       case measure=>simp[intOf];omega
      |true=>
       by_cases p:y=x
       .have o:U<|XD bs i (k+1)=false:=I<|by rw[K.o,Wl λh=>h p];rfl
        subst p;go_wp2;go_quiet (fail);go_wp2;go_roundw;case rel=>exact⟨k+1,_,X,by go_num,C,I<|by rw[o],I<|by have:=l.o;first|exact this|exact this.drew|exact Wn this _⟩
        case measure=>simp[intOf];omega
       .have o:U<|XD bs i (k+1)=true:=by rw[K,WI p];rfl
        have e1:=(Ow y x).trans<|Wl p;have e2:(y.toList !=x.toList)=true:=by rw[bne,e1];rfl
        clear p;go_wp2;go_quiet (fail);go_wp2;go_roundw;case rel=>exact⟨k+1,_,X,by go_num,C,I<|by rw[o],I<|by have:=l.o;first|exact this|exact this.drew|exact Wn this _⟩
        case measure=>simp[intOf];omega
     .obtain rfl:k=i:=X;cases b with
      |false=>
       have a6:=I<|qF Q m d D;have L:=I<|s.trans<|l.mono s.size;go_wp2;go_ret2;exact⟨none,0,0,_,C,I<|Oo.mkNone a6,L⟩
      |true=>
       have a7:U<|∀j,j<k+1->XD _ j j=true:=I (λj hj=>by
        by_cases e:j=k
        .subst e;exact D
        .exact HA j X);clear D;go_wp2;go_roundw;case rel=>exact⟨k+1,X,by go_num,a7,l⟩
       case measure=>simp[intOf];omega
   .obtain rfl:i=n:=X;have a0:=I<|qL Q m<|by rwa [<-P.o]
    have f:=I<|Ze G z;have L:=I<|s.trans<|z.mono s.size;go_wp2;go_ret2;exact⟨va,i,vc,_,C,I<|Oo.mkSome a0 ⟨bs,by rw[<-P];have:=f.o;rwa [<-P]at this,m⟩,L⟩

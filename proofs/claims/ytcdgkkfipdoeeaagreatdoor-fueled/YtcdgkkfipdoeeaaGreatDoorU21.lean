/- Parts. -/
import Derived.Test.YtcdgkkfipdoeeaaGreatDoorU20
import Derived.Test.YtcdgkkfipdoeeaaGreatDoorU05
set_option linter.all false
set_option maxRecDepth 100000
set_option maxHeartbeats 16000000
namespace Go.Proofs.YtcdgkkfipdoeeaaGreatDoor
open Go.RowKit LS Go.Proofs.Tryz
variable {tx:BA}{c:CodeQ}{y:CodeQ×Nat×Nat}{f fuel st t:Int}{cd l last s:LB}{qs:List (BA×BA)}{bs ps:List (LB)}{L:List El}{acc es:List Entry}{ts:List Int}{xs:List Value}{base i n p size:Nat}{x:Nat×Nat}{a:Option Addr}{u v:Value}{w w':World}
theorem ZBI{last:Int}{k:Nat}(h:Zcq last n ps=some k):k<=n+ps.length:=by
 induction ps generalizing last n with
 | nil=>simp[Zcq]at h;omega
 | cons x xs ih=>
  unfold Zcq at h;cases a:Zdn x with
  | none=>rw[a]at h;cases h
  | some t=>
   rw[a]at h;simp only at h;split at h
   ·cases h
   ·have:=ih h;simp;omega
theorem ZBK(h:Zcz l=some n):n<=l.length+1:=by
 unfold Zcz at h;have a:=Znm 32 l;generalize ZbI 32 l=st at h a;obtain⟨r,f⟩:=st;simp only at h a;split at h
 ·have:=Yax h;omega
 ·split at h
  ·have c:=ZBI h;have d:=Zhd 32 r;omega
  ·cases h
theorem Zys{l a b:LB}(h:line l=some (a,b,n)):n<=l.length+1:=by
 cases d:cut 123 l with
 | none=>rw[ZjF d]at h;cases h
 | some p=>
  obtain⟨x,r⟩:=p;cases c:cut 125 r with
  | none=>rw[ZjE d c]at h;cases h
  | some q=>
   obtain⟨y,z⟩:=q;rw[ZjG d c]at h
   have f:z.length<=l.length:=by
    rw[(Zdx d).1,(Zdx c).1];simp;omega
   split at h
   ·cases e:Zcz z with
    | none=>rw[e]at h;cases h
    | some k=>
     rw[e]at h;simp at h;have:=ZBK e;omega
   ·cases h
theorem ZqJ(h:Zbh i acc ps=.inr es)(f:∀e∈acc,e.count<=6001)(g:∀p∈ps,p.length<=6000) :
  es.length<=acc.length+ps.length/\∀e∈es,e.count<=6001:=by
 induction ps generalizing i acc with
 | nil=>
  simp only[Zbh,Sum.inr.injEq]at h;subst h;exact⟨by simp,f⟩
 | cons x xs ih=>
  unfold Zbh at h;split at h
  ·have:=ih h f (fun p d=>g p (by simp[d]));exact⟨by simp;omega,this.2⟩
  ·cases j:line x with
   | none=>rw[j]at h;cases h
   | some t=>
    obtain⟨a,b,n⟩:=t;rw[j]at h;simp only at h;have k:=g x (by simp);have l:=Zys j
    have := ih h (fun e c => by
      rcases Yar.1 c with c|c
      · exact f e c
      · simp at c;subst c;show n<=6001;omega) (fun p d=>g p (by simp[d]))
    exact⟨by have:=this.1;simp at this ⊢;omega,this.2⟩
theorem ZBr(s:BA)(A:Nat->Addr)(m:Int)(w:World)(c:Vars w A m)(d:6000<s.size)(a:s.size<=maxLen) :
  CP 40 #[.string s] w fun e u=>∃sv err,e=.returned (.tuple #[sv,err])/\Hid (Zei u A err (1,0))/\BW w u:=by
 unfold maxLen at a;have f:=c.sent 0 Dc;go_enter func40,ntmps40;go_wp2
 go_region
 all_goals (try go_wp2)
 all_goals (go_ret2;exact⟨_,_,rfl,.inr (.inl ⟨rfl,rfl⟩),belB⟩)
def ZiM(w:World)(v:Value)(l:LB):Prop:=∃(es:List Entry) (rs:List (Value×Value×Value×Value)),Zbh 0 [] (split 10 l)=.inr es/\es.length<=30/\w.ownsRow 0 271 4 v es.length (ZbP rs)/\AllV w rs es (split 10 l)
theorem ZBt(s:BA)(A:Nat->Addr)(m:Int)(w:World)(R:Vars w A m)(hs:s.size<=6000) :
  CP 40 #[.string s] w fun e u=>∃sv err,e=.returned (.tuple #[sv,err])/\Hid (Zei u A err (Zbp (bl s)))/\BW w u/\Hid ((Zbp (bl s)).1=0->ZiM u sv (bl s)):=by
 have q:Hid (∀x,(match Zbh 0 [] (split 10 (bl s))with
  | .inl i=>(5,i)
  | .inr es => match ZbZ 0 [] (split 10 (bl s)) with
    | some i=>(6,i)
    | none=>if 30<es.length∨200<ZcS es es.length then (7,0)else (0,0))=x->Zbp (bl s)=x):=by
  intro x hx;unfold Zbp;rw[if_neg (by rw[Zd];omega)];exact hx
 have S:(split 10 (bl s)).length<=6001:=by have:=Zhd 10 (bl s);rw[Zd]at this;omega
 have H : Hid (∀ i, i < (split 10 (bl s)).length -> ((split 10 (bl s)).getD i []).length <= 6000) := fun i hi => by
   have:=Zkd 10 (bl s) i hi;rw[Zd]at this;omega
 go_enter func40,ntmps40
 go_wp2_with fail
 refine(Znd s m hs R.max).mono ?_;rintro e w1 ⟨n,rfl,T,f,r⟩;have M:=hid T;have I:n<=6001:=by omega
 have U:=f.1;clear T S;have J:=R.below r
 go_wp2_with fail
 refine(ZBh n A m M I H f J).mono ?_;rintro e z ⟨t,E⟩;have K:=J.below t;have B:=r.trans (t.mono r.size);rcases E with ⟨i,fa,rfl,d,c⟩|⟨v,es,rs,rfl,g,c,V⟩
 ·obtain⟨c1,c2⟩:=Zn8 d;have N:=hid (q (5,i) (by rw[c]));have a:Hid (Zei z A (.iface 81 (Vp fa)) (Zbp (bl s))):=q.out (5,i) (by rw[c.out])▸Or.inr (Or.inr (Or.inr (Or.inl ⟨i,fa,rfl,rfl,c1,c2⟩)));clear c1 c2 d;go_wp2;go_ret2;exact⟨_,_,rfl,a,B,hid (fun h=>by rw[N]at h;cases h)⟩
 ·have j := ZqJ c.2 (fun e he => by simp at he) (fun p hp => by
    have:=Zne _ _ p hp;rw[Zd]at this;omega)
  have F:=f.below t U
  go_wp2_with fail
  refine(ZyC n A m M I H F K).mono ?_;rintro e w3 ⟨k,C⟩;have L:=K.below k;have D:=B.trans (k.mono B.size);rcases C with ⟨i,fa,rfl,d,G⟩|⟨rfl,G⟩
  ·obtain⟨c1,c2⟩:=Zn8 d;have N:=hid (q (6,i) (by rw[c.2];simp only[G.out]));have a:Hid (Zei w3 A (.iface 81 (Vp fa)) (Zbp (bl s))):=q.out (6,i) (by rw[c.2];simp only[G.out])▸Or.inr (Or.inr (Or.inr (Or.inr ⟨i,fa,rfl,rfl,c1,c2⟩)));clear c1 c2 d;go_wp2;go_ret2;exact⟨_,_,rfl,a,D,hid (fun h=>by rw[N]at h;cases h)⟩
  ·have l:=Zn g k;have W:es.length<=6001:=by have:=j.1;simp at this;have:=M.out;omega
   have HC:=hid (j.2);have a1:=ZsA _ j.2 es.length;have O:Hid (Zbp _=if 30<es.length∨200<ZcS es es.length then (7,0)else (0,0)):=q _ (by rw[c.2];simp only[G.out]);have hR:=hid (c.1);have a2:=L.sent 6 Dc;obtain⟨av,cp,rfl⟩:=Zl g;have X:=hid (c.2);have P:=hid (V.below k);clear j g c;by_cases Y:30<es.length
   ·have hd:decide (30<(es.length:Int))=true:=by simp;omega
    have a:Hid (Zbp _=(7,0)):=hid (by rw[O,if_pos (.inl Y)]);go_wp2
    go_region
    all_goals (try go_wp2)
    all_goals (go_ret2;exact⟨_,_,rfl,(a.out▸Or.inr (Or.inr (Or.inl ⟨rfl,rfl⟩))),belB,hid (fun h=>by rw[a]at h;cases h)⟩)
   ·have hd:decide (30<(es.length:Int))=false:=by simp;omega
    go_wp2_with fail
    refine(Zvm l hR HC W).mono ?_;rintro e w4 ⟨rfl,o⟩;have Z:=D.trans (o.mono D.size);have a3:=(L.below o).sent 6 Dc;by_cases Q:200<ZcS es es.length
    ·have a:Hid (Zbp _=(7,0)):=hid (by rw[O,if_pos (.inr Q)]);have a0:decide (200<(ZcS es es.length:Int))=true:=by simp;omega
     go_wp2
     go_region
     all_goals (try go_wp2)
     all_goals (go_ret2;exact⟨_,_,rfl,(a.out▸Or.inr (Or.inr (Or.inl ⟨rfl,rfl⟩))),belB,hid (fun h=>by rw[a]at h;cases h)⟩)
    ·have a:Hid (Zbp _=(0,0)):=hid (by rw[O,if_neg (by rintro(h|h) <;> omega)]);have a0:decide (200<(ZcS es es.length:Int))=false:=by simp;omega
     go_wp2;go_ret2;exact⟨_,_,rfl,(a.out▸Or.inl ⟨rfl,rfl⟩),Z,hid (fun _=>⟨es,rs,X,by omega,Zn l o,P.below o⟩)⟩
def Zd4:List (LB)->LB
 | []=>[]
 | [x]=>x
 | x::y::r=>x++44::Zd4 (y::r)
theorem ZlU(x:LB){l:List (LB)}(h:l≠[]):Zd4 (x::l)=x++44::Zd4 l:=by
 cases l with
 | nil=>simp_all
 | cons y r=>rfl
theorem Zxp{p:LB}{l:List (LB)}(h:l≠[]):Zd4 (pre p l)=p++Zd4 l:=by
 cases l with
 | nil=>simp_all
 | cons y r=>
  cases r with
  | nil=>rfl
  | cons z t=>simp[pre,Zd4]
theorem Zxr(l:LB):Zd4 (split 44 l)=l:=by
 induction l with
 | nil=>rfl
 | cons b l ih=>
  by_cases a:b=44
  ·subst a;rw[Zhc,ZlU _ (Zix _ l),ih];rfl
  ·rw[Zke _ b l (by simp[a]),Zxp (Zix _ l),ih];rfl
theorem Zxq(xs:List (LB))(x:LB)(h:xs≠[]):Zd4 (xs++[x])=Zd4 xs++44::x:=by
 induction xs with
 | nil=>simp_all
 | cons y r ih=>
  cases r with
  | nil=>rfl
  | cons z t=>
   rw[Yby,ZlU y (by simp),ih (by simp),ZlU y (by simp)];simp
def wr1(p:LB×LB):LB:=p.1++[61]++p.2
theorem ZE0(ps:List (LB×LB))(k:Nat)(d:k<=ps.length):ZfK ps k=Zd4 ((ps.take k).map wr1):=by
 induction k with
 | zero=>rfl
 | succ k ih=>
  have ih':=ih Om;have e:ps.getD k ([],[])=ps[k]:=by simp[show k<ps.length by omega]
  rw[ZfK,e,List.take_succ_eq_append_getElem Om,Yaq,Ybb,Ydg];by_cases c:0<k
  ·rw[if_pos c,Zxq _ _ (by intro h;have a:=congrArg List.length h;rw[Yak,Ya7]at a;simp only[Ybq]at a;omega),ih'];simp[wr1]
  ·obtain rfl:k=0:=by omega
   rfl
theorem ZxG{x:LB}{p:LB×LB}(h:Zd5 last x=some p):x=wr1 p:=by
 unfold Zd5 at h;cases a:cut 61 x with
 | none=>simp_all
 | some q=>
  obtain⟨n,v⟩:=q;rw[a]at h;simp only at h;split at h
  ·have:=Yax h;subst this;rw[(Zdx a).1];simp[wr1]
  ·cases h
theorem ZxJ{acc ps:List (LB×LB)}{xs:List (LB)}(h:ZbS last acc xs=some ps):∃qs,ps=acc++qs/\xs=qs.map wr1:=by
 induction xs generalizing last acc with
 | nil=>simp only[ZbS,Yci]at h;simp_all
 | cons x xs ih=>
  unfold ZbS at h;cases a:Zd5 last x with
  | none=>simp_all
  | some p=>
   rw[a]at h;obtain⟨qs,e1,e2⟩:=ih h;exact⟨p::qs,by simp_all,by rw[e2,Ybb,ZxG a]⟩
theorem ZE1{ps:List (LB×LB)}(h:Zcc l=some ps):ZfK ps ps.length=l:=by
 unfold Zcc at h;split at h
 ·rename_i a;have:=Yax h;subst this;rw[a];rfl
 ·obtain⟨qs,e1,e2⟩:=ZxJ h;simp at e1;subst e1;rw[ZE0 _ _ (Yac _),Ya4,<-e2,Zxr]
def ZdO(e:Entry):LB:=e.name++123::e.inside
theorem Zrf{n:LB}(h:Zx n=true):(123:UInt8)∉n:=by
 intro a;unfold Zx at h;rw[Yas]at h;have:=Ybu.1 h.1 _ a;exact absurd this Dc
theorem Zxv{e f:Entry}(d:Zx e.name=true)(g:Zx f.name=true):ZdO e=ZdO f ↔ e.name=f.name/\e.inside=f.inside:=by
 constructor
 ·intro h;have a:=Zgq _ _ e.inside (Zrf d);have c:=Zgq _ _ f.inside (Zrf g);unfold ZdO at h;rw[h,c]at a;have i:=Yax a;have:=List.append_inj h i.symm
  simp_all
 ·rintro⟨a,c⟩;unfold ZdO;simp_all
theorem Zyt{l a b:LB}(h:line l=some (a,b,n)):Zx a=true/\(Zcc b).isSome=true/\Zdz l=a++123::b:=by
 cases e:cut 123 l with
 | none=>rw[ZjF e]at h;cases h
 | some p=>
  obtain⟨x,r⟩:=p;cases c:cut 125 r with
  | none=>rw[ZjE e c]at h;cases h
  | some q=>
   obtain⟨y,z⟩:=q;rw[ZjG e c]at h;split at h
   ·rename_i d;rw[Yas]at d;cases i:Zcz z with
    | none=>simp_all
    | some k=>
     rw[i]at h;simp only[Ybf,Yci,Yc5]at h;obtain⟨rfl,rfl,rfl⟩:=h;refine⟨d.1,d.2,?_⟩;have j:l=(x++123::y)++125::z:=by rw[(Zdx e).1,(Zdx c).1];simp
     have g:(125)∉x:=by
      intro m;have f:=d.1;unfold Zx at f;rw[Yas]at f;exact absurd (Ybu.1 f.1 _ m) Dc
     have o:(125)∉x++123::y:=by
      simp only[Yar,Yau,not_or];exact⟨g,by decide,(Zdx c).2⟩
     unfold Zdz;rw[j,ZoE o]
   ·cases h
def Zfk:List Entry->List Entry->Option Nat
 | _,[]=>none
 | seen,e::r=>if (seen.map ZdO).contains (ZdO e)then some e.at_ else Zfk (seen++[e]) r
theorem ZDu(h:Zbh i acc ps=.inr es):∃rest,es=acc++rest/\ZbZ i (acc.map ZdO) ps=Zfk acc rest:=by
 induction ps generalizing i acc with
 | nil=>simp only[Zbh,Sum.inr.injEq]at h;exact⟨[],by simp[h],rfl⟩
 | cons x xs ih=>
  unfold Zbh at h;unfold ZbZ;split at h
  ·simp_all
  ·rename_i d;rw[if_neg d];cases c:line x with
   | none=>simp_all
   | some t=>
    obtain⟨a,b,n⟩:=t;rw[c]at h;simp only at h;obtain⟨rest,e1,e2⟩:=ih h;refine⟨⟨i,a,b,n⟩::rest,by simp_all,?_⟩;have e:Zdz x=ZdO ⟨i,a,b,n⟩:=(Zyt c).2.2;rw[e,Zfk]
    simp_all
theorem ZDv(h:Zbh 0 [] ps=.inr es):ZbZ 0 [] ps=Zfk [] es:=by
 obtain⟨rest,e1,e2⟩:=ZDu h
 simp_all
def serE(P:List (LB))(e:Entry):Ser:=⟨e.name,(Zcc e.inside).getD [],Zdo (P.getD e.at_ [])⟩
def Ze6(l:LB):List Ser:=match Zbh 0 [] (split 10 l)with
 | .inr es=>es.map (serE (split 10 l))
 | .inl _=>[]
theorem ZBM:∀x∈Zdo l,smOk x:=by
 intro x a;unfold Zdo at a;split at a
 ·rename_i b _;cases hd:l.drop (b+1)with
  | nil=>rw[hd]at a;cases a
  | cons c t=>
   rw[hd]at a;obtain⟨y,_,rfl⟩:=Ybe.1 a;exact ZCr y
 simp_all
theorem Zoa{α:Type}(Q:Nat->α->Prop):∀n:Nat,(∀j,j<n->∃z,Q j z)->∃zs:List α,zs.length=n/\∀j (h:j<zs.length),Q j zs[j]
 | 0,_=>⟨[],rfl,fun j h=>absurd h (Ya1 _)⟩
 | n + 1, h => by
   obtain⟨zs,c,f⟩:=Zoa Q n (fun j a=>h j Om);obtain⟨z,g⟩:=h n Om;refine⟨zs++[z],by simp[c],fun j a=>?_⟩;by_cases d:j<zs.length
   · simp_all
   · have e:j=zs.length:=by simp at a;omega
     simp_all
theorem ZoQ : ∀ (rest seen : List Entry), Zfk seen rest = none -> (rest.Pairwise fun a b => ZdO a ≠ ZdO b) /\ ∀ e ∈ rest, ∀ s ∈ seen, ZdO s ≠ ZdO e
  | [],_,_=>⟨List.Pairwise.nil,fun _ h=>by cases h⟩
  | e :: rest, seen, h => by
    unfold Zfk at h;split at h
    · cases h
    · rename_i c
      obtain⟨d,f⟩:=ZoQ _ _ h
      simp_all
theorem Ztn{ps:List Lab}(h:Zcc l=some ps):wrt ps=l:=by
 have:=ZE1 h
 rwa [Ztm _ _ (Yac _),Ya4]at this
def Zcn:List (LB)->LB
 | []=>[]
 | [a]=>a
 | a::b::l=>a++10::Zcn (b::l)
def Zdy(cd s:LB)(f l st fuel:Int):LB×Nat×Nat:=match ZcR cd with
 | .error x=>([],x.1,x.2)
 | .ok y => if (Zbp s).1 ≠ 0 then ([], (Zbp s).1, (Zbp s).2) else match Zdr f l st with
   | none=>([],8,0)
   | some ts => if fuel < 0 ∨ 1000000 < fuel then ([], 13, 0) else match ZbO (Ze6 s) y.1 fuel.toNat ts with
     | none=>([],13,0)
     | some z=>(Zcn z.1,0,0)
theorem ZyI(h:ZcR l=.ok y):CodeB y.1/\∃L,Flow y.1 L:=by
 unfold ZcR at h;cases hd:Zb7 l with
 | error e=>simp_all
 | ok c=>
  rw[hd]at h;simp only at h;cases a:ZcT c with
  | error e=>simp_all
  | ok x=>
   rw[a]at h;injection h with h;subst h;exact⟨Zvq hd,ZD0 a⟩
def ZBE:Option (List (LB)×Nat)->LB×Nat×Nat
 | none=>([],13,0)
 | some z=>(Zcn z.1,0,0)
theorem ZvU{l:Int}(fuel:Int)(h:ZcR cd=.ok y)(c:(Zbp s).1=0)(a:Zdr f l st=some ts):Zdy cd s f l st fuel=ZBE (if fuel<0∨1000000<fuel then none else ZbO (Ze6 s) y.1 fuel.toNat ts):=by
 unfold Zdy;rw[h];simp only;rw[if_neg Om,a];simp only;split<;>rfl
def Zeu(st:List Ser)(t:Tr)(tm:Int):LB:=Zel tm (sayT st tm t)
def ZdK(q s:LB)(f l st:Int):LB×Nat×Nat:=match ZD q with
 | .error x=>([],x.1,x.2)
 | .ok t => if (Zbp s).1 ≠ 0 then ([], (Zbp s).1, (Zbp s).2) else match Zdr f l st with
   | none=>([],8,0)
   | some ts=>(Zcn (ts.map (Zeu (Ze6 s) t)),0,0)
theorem ZFm(h:Zcg l p n=.error x):x.1=9:=by
 unfold Zcg at h;split at h
 ·injection h with h;subst h;rfl
 ·cases h
theorem ZFc(h:Zbr l p n=.error x):x.1=9:=by
 unfold Zbr at h;cases a:Zcg l p n with
 | error e=>rw[a]at h;injection h with h;subst h;exact ZFm a
 | ok y=>simp_all
theorem ZFl(h:ZcH l p=.error x):x.1=9:=by
 unfold ZcH at h;cases a:Zbr l p 2 with
 | error e=>rw[a]at h;injection h with h;subst h;exact ZFc a
 | ok y=>rw[a]at h;exact ZFm h
theorem ZFp(h:ZbW l p=.error x):x.1=9:=by
 unfold ZbW at h;cases a:Zbr l p 4 with
 | error e=>rw[a]at h;injection h with h;subst h;exact ZFc a
 | ok y=>
  rw[a]at h;simp only at h;split at h
  ·injection h with h;subst h;rfl
  ·cases h
theorem ZFE(h:Zb4 l p=.error x):x.1=9:=by
 unfold Zb4 at h;cases a:ZcH l p with
 | error e=>rw[a]at h;injection h with h;subst h;exact ZFl a
 | ok y=>
  rw[a]at h;simp only at h;split at h
  ·injection h with h;subst h;rfl
  ·cases h
theorem ZFz(h:ZbX l p=.error x):x.1=9:=by
 unfold ZbX at h;cases a:ZcH l p with
 | error e=>rw[a]at h;injection h with h;subst h;exact ZFl a
 | ok y=>
  rw[a]at h;simp only at h;split at h
  ·injection h with h;subst h;rfl
  ·cases h
theorem ZFA(h:ZbN l p=.error x):x.1=9:=by
 unfold ZbN at h;cases a:Zbr l p 1 with
 | error e=>rw[a]at h;injection h with h;subst h;exact ZFc a
 | ok y=>
  rw[a]at h;simp only at h;split at h
  ·injection h with h;subst h;rfl
  ·cases c:Zbr l y.2 2 with
   | error e=>rw[c]at h;injection h with h;subst h;exact ZFc c
   | ok z=>simp_all
theorem ZE9{α:Type}{one:Nat->RdR α}(c:∀q x,one q=.error x->x.1=9):∀ {k:Nat} {x:Nat×Nat},many one p k=.error x->x.1=9
 | 0,x,h=>by cases h
 | k + 1, x, h => by
   unfold many at h;cases a:many one p k with
   | error e=>rw[a]at h;injection h with h;subst h;exact ZE9 c a
   | ok y=>
     rw[a]at h;simp only at h;cases d:one y.2 with
     | error e=>rw[d]at h;injection h with h;subst h;exact c _ _ d
     | ok z=>simp_all
theorem ZFq(h:Zb7 l=.error x):x.1≠0/\x.1≠13:=by
 unfold Zb7 at h;cases a:Zc8 l with
 | error e=>
  rw[a]at h;injection h with h;subst h;unfold Zc8 at a;split at a
  ·injection a with a;subst a;simp
  ·split at a
   ·injection a with a;subst a;simp
   simp_all
 | ok n=>
  rw[a]at h;simp only at h;cases c:many (ZbW l) 9 n.1 with
  | error e=>rw[c]at h;injection h with h;subst h;rw[ZE9 (fun _ _=>ZFp) c];decide
  | ok cs=>
   rw[c]at h;simp only at h;cases d:many (Zb4 l) cs.2 n.2.1 with
   | error e=>rw[d]at h;injection h with h;subst h;rw[ZE9 (fun _ _=>ZFE) d];decide
   | ok ps=>
    rw[d]at h;simp only at h;cases f:many (ZbX l) ps.2 n.2.2.1 with
    | error e=>rw[f]at h;injection h with h;subst h;rw[ZE9 (fun _ _=>ZFz) f];decide
    | ok gs=>
     rw[f]at h;simp only at h;cases g:many (ZbN l) gs.2 n.2.2.2 with
     | error e=>rw[g]at h;injection h with h;subst h;rw[ZE9 (fun _ _=>ZFA) g];decide
     | ok is=>
      rw[g]at h;simp only at h;split at h
      ·injection h with h;subst h;simp
      ·split at h
       ·injection h with h;subst h;simp
       ·split at h
        ·injection h with h;subst h;simp
        ·cases h
theorem ZFj : ∀ {k:Nat} {x:Nat×Nat},Zcp c k=.error x->x.1=11
 | 0,x,h=>by cases h
 | k + 1, x, h => by
   unfold Zcp at h;cases a:Zcp c k with
   | error e=>rw[a]at h;injection h with h;subst h;exact ZFj a
   | ok y=>
     rw[a]at h;simp only at h;split at h
     · cases h
     · injection h with h;subst h;rfl
theorem ZFi : ∀ {k:Nat} {x:Nat×Nat},Zbx c k=.error x->x.1=12
 | 0,x,h=>by cases h
 | k + 1, x, h => by
   unfold Zbx at h;cases a:Zbx c k with
   | error e=>rw[a]at h;injection h with h;subst h;exact ZFi a
   | ok y=>
     rw[a]at h;simp only[Zfx]at h;split at h
     · split at h
       · injection h with h;subst h;rfl
       · split at h
         · injection h with h;subst h;rfl
         · cases h
     · cases h
theorem ZFh(h:ZcR l=.error x):x.1≠0/\x.1≠13:=by
 unfold ZcR at h;cases hd:Zb7 l with
 | error e=>rw[hd]at h;injection h with h;subst h;exact ZFq hd
 | ok c=>
  rw[hd]at h;simp only at h;cases d:ZcT c with
  | ok y=>simp_all
  | error e=>
   rw[d]at h;injection h with h;subst h;unfold ZcT at d;cases f:Zcp c c.jq.length with
   | error e=>rw[f]at d;injection d with d;subst d;rw[ZFj f];decide
   | ok u=>
    rw[f]at d;simp only at d;cases a:Zdj c with
    | ok m=>simp_all
    | error e=>
     rw[a]at d;injection d with d;subst d;unfold Zdj at a;cases g:Zbx c c.jq.length with
     | error e=>rw[g]at a;injection a with a;subst a;rw[ZFi g];decide
     | ok y=>
      rw[g]at a;simp only at a;split at a
      ·cases a
      ·injection a with a;subst a;simp
theorem ZFF{l s:Int}(h:Zdr f l s=some ts):ts≠[]:=by
 by_cases a:badT f l s
 ·unfold Zdr at h;simp_all
 ·rw[ZsN a]at h;split at h
  ·cases h
  ·injection h with h;subst h;intro c
   have d:cnt l s f=0:=by
    have:=congrArg List.length c;simpa using this
   unfold badT at a;unfold cnt at d
   simp_all
theorem ZFt{l:Int}(h:ZcR cd=.ok y)(a:(Zbp s).1≠0):Zdy cd s f l st fuel=([],(Zbp s).1,(Zbp s).2):=by
 unfold Zdy
 simp_all
theorem ZFu{l:Int}(h:ZcR cd=.ok y)(a:(Zbp s).1=0)(c:Zdr f l st=none):Zdy cd s f l st fuel=([],8,0):=by
 unfold Zdy
 simp_all
theorem ZFs{l:Int}(h:ZcR cd=.error x):Zdy cd s f l st fuel=([],x.1,x.2):=by
 unfold Zdy;rw[h]
def Zej(p:Lab):Prop:=Zx p.1=true/\Z3 p.2=true
def Zde(l:List Lab):Prop:=l.length<=6001/\∀p∈l,Zej p
theorem Zii{c:UInt8}(a:Zp c=false){n:LB}(h:Zx n=true):c∉n:=by
 intro d;unfold Zx at h
 simp_all
theorem Ztf{c:UInt8}(d:(Zp c || ZC c)=false){n:LB}(h:Z3 n=true):c∉n:=by
 intro a;unfold Z3 at h;rw[Yas]at h;have:=Ybu.1 h.1 _ a
 simp_all
theorem Zqo{p:Lab}(h:Zej p):(44:UInt8)∉lab1 p:=by
 unfold lab1;rw[Yar,Yar];rintro((a|a)|a)
 ·exact Zii Dc h.1 a
 ·simp_all
 ·exact Ztf Dc h.2 a
theorem Zqm{p:Lab}(h:Zej p):cut 61 (lab1 p)=some p:=by
 unfold lab1;rw[Yan];exact ZoE (Zii Dc h.1)
theorem ZnD(p q:Lab)(l:List Lab):wrt (p::q::l)=lab1 p++44::wrt (q::l):=rfl
theorem ZnF(p:Lab):wrt [p]=lab1 p:=rfl
theorem Znf:∀l:List Lab,l≠[]->(∀p∈l,Zej p)->split 44 (wrt l)=l.map lab1
 | [],h,_=>absurd rfl h
 | [p], _, h => by
   have a:=Zqo (h p (by simp));have e:=Zhb _ _ [] a;rw[Yca]at e;rw[ZnF,e];simp[split,pre]
 | p :: q :: l, _, h => by
   have a:=Zqo (h p (by simp));rw[ZnD,Zhb _ _ _ a,Zhc,Znf _ (by simp) (fun x c=>h x (Yam _ c))];simp[pre]
theorem ZqT:∀l m:List Lab,(∀p∈l,Zej p)->(∀p∈m,Zej p)->l.map lab1=m.map lab1->l=m
 | [],[],_,_,_=>rfl
 | [],_::_,_,_,h=>by simp at h
 | _::_,[],_,_,h=>by simp at h
 | p :: l, q :: m, c, d, h => by
   rw[Ybb,Ybb]at h;injection h with h1 h2;have e1:=Zqm (c p (by simp));rw[h1,Zqm (d q (by simp))]at e1;rw[Yax e1,ZqT l m (fun x a=>c x (Yam _ a)) (fun x a=>d x (Yam _ a)) h2]
theorem Ztp(l:List Lab):wrt l=[] ↔ l=[]:=by
 constructor
 ·intro h
  match l,h with
  | [],_=>rfl
  | [p],h=>rw[ZnF]at h;unfold lab1 at h;simp at h
  | p::q::l,h=>rw[ZnD]at h;simp at h
 ·rintro rfl;rfl
theorem ZnE{l m:List Lab}(c:Zde l)(d:Zde m)(h:wrt l=wrt m):l=m:=by
 by_cases a:l=[]
 ·subst a;exact((Ztp m).1 h.symm).symm
 ·have f:m≠[]:=fun e=>a ((Ztp l).1 (by rw[h,e];rfl));have e1:=Znf l a c.2;rw[h,Znf m f d.2]at e1;exact ZqT l m c.2 d.2 e1.symm
theorem Zqn{p:Lab}(h:Zej p):(lab1 p).length<=17:=by
 have a:=h.1;have c:=h.2;unfold Zx at a;unfold Z3 at c;simp only[Yas,decide_eq_true_eq]at a c;unfold lab1
 simp_all;omega
theorem Zto:∀l:List Lab,(∀p∈l,Zej p)->(wrt l).length<=18*l.length
 | [],_=>by decide
 | [p],h=>by rw[ZnF];have:=Zqn (h p (by simp));simp;omega
 | p :: q :: l, h => by
   have c:=Zqn (h p (by simp));have d:=Zto _ (fun x a=>h x (Yam _ a));rw[ZnD,Yab,Yaj]
   simp_all;omega
theorem Zde.len{l:List Lab}(h:Zde l):(wrt l).length<=108018:=by
 have:=Zto l h.2;have:=h.1;omega
theorem Zde.kept{l:List Lab}(h:Zde l)(bs:List (LB)):Zde (ZB l bs):=⟨Yah (Ydj _ _) h.1,fun p a=>h.2 p (Ycg.1 a).1⟩
theorem Zl5:∀qs:List (BA×BA),Zbf qs=wrt (qs.map blP)
 | []=>rfl
 | [p] => by
   show ZcP p=lab1 (blP p);unfold ZcP lab1 blP;simp
 | p :: q :: l => by
   have e:Zbf (p::q::l)=ZcP p++44::Zbf _:=rfl;rw[e,Zl5 _];show ZcP p++44::wrt ((q::l).map blP)=lab1 (blP p)++44::wrt ((q::l).map blP)
   congr 1
   unfold ZcP lab1 blP;simp
theorem Zqr:∀(xs:List (LB)) (last:LB) (acc r:List Lab),ZbS last acc xs=some r->(∀p∈acc,Zej p)->∀p∈r,Zej p
 | [], _, _, _, h, d => by
   rw[ZbS]at h
   simp_all
 | x :: xs, last, acc, r, h, d => by
   rw[ZbS]at h;split at h
   · cases h
   · rename_i p a
     refine Zqr _ _ _ r h (fun q c=>?_);rcases Yar.1 c with c|c
     · simp_all
     · rw[Yap]at c
       subst c;unfold Zd5 at a;split at a
       · cases a
       · split at a
         · rename_i e
           cases a;constructor<;>simp_all
         simp_all
theorem ZxM{ps:List Lab}(h:Zcc l=some ps)(a:ps.length<=6001):Zde ps:=by
 refine⟨a,?_⟩;unfold Zcc at h;split at h
 ·simp_all
 ·exact Zqr _ _ _ _ h (by simp)
theorem Zng:∀(l m:List El),Srt l->Srt m->(∀z,z∈l ↔ z∈m)->l=m
 | [],[],_,_,_=>rfl
 | [],b::m,_,_,h=>by have:=(h b).2 (by simp);cases this
 | a::l,[],_,_,h=>by have:=(h a).1 (by simp);cases this
 | a :: l, b :: m, f, g, h => by
   obtain⟨l1,l2⟩:=Ybg.1 f;obtain⟨m1,m2⟩:=Ybg.1 g
   have d:a=b:=by
     rcases Yau.1 ((h a).1 (by simp))with e|e
     · exact e
     · rcases Yau.1 ((h b).2 (by simp))with e2|e2
       · simp_all
       · have i:Op.bytesLess (wrt b.1) (wrt a.1)=true:=m1 a e
         have j:Op.bytesLess (wrt a.1) (wrt b.1)=true:=l1 b e2;have:=Zdv _ _ _ i j;rw[ZcL]at this;cases this
   subst d
   have irr : ∀ z, lt1 a z -> z ≠ a := fun z c e => by
     subst e;unfold lt1 at c;rw[ZcL]at c;cases c
   rw[Zng l m l2 m2 (fun z=>?_)];constructor
   · intro c
     rcases Yau.1 ((h z).1 (Yam _ c))with e|e
     · exact absurd e (irr z (l1 z c))
     omega
   · intro c
     rcases Yau.1 ((h z).2 (Yam _ c))with e|e
     · exact absurd e (irr z (m1 z c))
     omega
def DstE(L:List El):Prop:=L.Pairwise fun a b=>wrt a.1≠wrt b.1
theorem ZCA {L':List El} (hd : DstE L) (d : L'.Perm L) (f : L'.Pairwise fun a b => Op.bytesLess (wrt b.1) (wrt a.1) = false) : L' = L.foldl Zcd [] := by
  obtain⟨g,j,i⟩:=Zh4 L [] List.Pairwise.nil hd (by simp);have e:DstE _:=(Yfk (fun h=>Ycp h) d).2 hd;refine Zng _ _ ?_ g (fun z=>?_)
  · unfold Srt
    have:=f.and e;refine this.imp (fun {a b} c=>?_);unfold lt1;cases h:Op.bytesLess (wrt a.1) (wrt b.1)with
    | true=>rfl
    | false=>exact absurd (Zdh _ _ h c.1) c.2
  · rw[i,d.mem_iff]
    simp
theorem ZAL{M:List El}(a:DstE L)(c:DstE M)(h:∀z,z∈L ↔ z∈M):L.foldl Zcd []=M.foldl Zcd []:=by
 obtain⟨d,_,e⟩:=Zh4 L [] List.Pairwise.nil a (by simp);obtain⟨k1,_,k3⟩:=Zh4 M [] List.Pairwise.nil c (by simp);refine Zng _ _ d k1 (fun z=>?_)
 simp_all
def TmS(l:List (Int×Int)):Prop:=l.Pairwise fun a b=>a.1<b.1
def Zbb(l:List (Int×Int))(t:Int):Nat:=l.countP fun x=>decide (x.1<=t)
theorem Zof{l:List (Int×Int)}(h:∀x∈l,t<x.1):Zbb l t=0:=by
 unfold Zbb
 simp_all;omega
theorem ZsF (t : Int) : ∀ l : List (Int × Int), TmS l -> l.take (Zbb l t) = l.filter fun x => decide (x.1 <= t)
  | [],_=>rfl
  | a :: l, h => by
    obtain⟨f,g⟩:=Ybg.1 h;by_cases i:a.1<=t
    · have e:Zbb (a::l) t=Zbb l t+1:=Yfb (by simp_all)
      rw[e,List.take_succ_cons,ZsF t l g,Yda (by simp_all)]
    · have d : ∀ x ∈ a :: l, t < x.1 := fun x c => by
        rcases Yau.1 c with rfl|c
        · omega
        · have:=f x c;omega
      rw[Zof d,List.take_zero]
      symm
      rw[Yc1];intro x c;have:=d x c
      simp_all
theorem ZoP (t : Int) : ∀ l : List (Int × Int), TmS l -> l.drop (Zbb l t) = l.filter fun x => decide (t < x.1)
  | [],_=>rfl
  | a :: l, h => by
    obtain⟨f,g⟩:=Ybg.1 h;by_cases i:a.1<=t
    · have e:Zbb (a::l) t=Zbb l t+1:=Yfb (by simp_all)
      rw[e,List.drop_succ_cons,ZoP t l g,Ydb (by simp_all)]
    · have d : ∀ x ∈ a :: l, t < x.1 := fun x c => by
        rcases Yau.1 c with rfl|c
        · omega
        · have:=f x c;omega
      rw[Zof d,List.drop_zero]
      symm
      rw[Yeg];intro x c;have:=d x c
      simp_all
theorem ZuK(l:List (Int×Int)){s:Int}(h:s<=t):Zbb l s<=Zbb l t:=by
 unfold Zbb;refine List.countP_mono_left (fun x _ a=>?_)
 simp_all;omega
theorem Zk8(l:List (Int×Int))(t:Int):Zbb l t<=l.length:=List.countP_le_length
theorem ZEN{l:List (Int×Int)}(h:TmS l){n:Int}(a:0<=n):(l.take (Zbb l t)).drop (Zbb l (t - n))=Zb6 l n t:=by
 have e : Zbb l (t - n) = Zbb (l.filter fun x => decide (x.1 <= t)) (t - n) := by
   unfold Zbb;rw[List.countP_filter];refine List.countP_congr (fun x _=>?_);simp;omega
 rw[ZsF t l h,e,ZoP _ _ (h.filter _),List.filter_filter];rfl
theorem Zwt {α : Type} (l : List α) (d : α) : (List.range l.length).map (fun i => l.getD i d) = l := by
  refine List.ext_getElem (by simp) (fun i c a=>?_);simp[a]
abbrev Grp:=List Lab×List Int
def addG(k:List Lab)(v:Int):List Grp->List Grp
 | []=>[(k,[v])]
 | g::m=>if g.1=k then (k,g.2++[v])::m else g::addG k v m
def grpV(bs:List (LB))(l:List El):List Grp:=l.foldl (fun m e=>addG (ZB e.1 bs) e.2 m) []
def ZdE(bs:List (LB))(l:List El)(k:List Lab):List Int:=(l.filter fun f=>decide (ZB f.1 bs=k)).map (·.2)
theorem ZkC(k:List Lab)(v:Int):∀m:List Grp,(addG k v m).map (·.1)=if k∈m.map (·.1)then m.map (·.1)else m.map (·.1)++[k]
 | []=>by rfl
 | g :: m => by
   rw[addG];by_cases h:g.1=k
   · simp_all
   · rw[if_neg h,Ybb,ZkC k v m]
     have a:(k∈(g::m).map (·.1)) ↔ (k∈m.map (·.1)):=by
       rw[Ybb,Yau];constructor
       · rintro(e|e)
         · simp_all
         omega
       · simp_all
     split<;>simp_all
theorem ZnI(k:List Lab)(v:Int):∀m:List Grp,(m.map (·.1)).Nodup->∀g:Grp,g∈addG k v m ↔ (g.1≠k/\g∈m)∨(g.1=k/\((∃h∈m,h.1=k/\g.2=h.2++[v])∨(k∉m.map (·.1)/\g.2=[v])))
 | [], _, g => by
   rw[addG];simp only[Yap,Ye2,and_false,false_or,Ydg,not_false_eq_true,true_and,false_and,exists_false];constructor
   · simp_all
   · rintro⟨d,c⟩;exact Prod.ext d c
 | a :: m, j, g => by
   rw[Ybb,List.nodup_cons]at j;rw[addG];by_cases h:a.1=k
   · rw[if_pos h]
     have l:k∉m.map (·.1):=by rw[<-h];exact j.1
     rw[Yau];constructor
     · rintro(rfl|n)
       · simp_all
       · refine Or.inl ⟨fun e=>l (Ybe.2 ⟨g,n,e⟩),Yam _ n⟩
     · rintro(⟨d,c⟩|⟨d,(⟨x,c,f,i⟩|⟨c,_⟩)⟩)
       · rcases Yau.1 c with rfl|c
         · simp_all
         simp_all
       · rcases Yau.1 c with rfl|c
         · exact Or.inl (Prod.ext d i)
         · exact absurd (Ybe.2 ⟨x,c,f⟩) l
       simp_all
   · rw[if_neg h,Yau,ZnI k v m j.2 g]
     constructor
     · rintro(rfl|⟨d,c⟩|⟨d,(⟨x,c,f,i⟩|⟨c,f⟩)⟩)
       · simp_all
       · simp_all
       · exact Or.inr ⟨d,Or.inl ⟨x,Yam _ c,f,i⟩⟩
       · refine Or.inr ⟨d,Or.inr ⟨?_,f⟩⟩
         rw[Ybb,Yau];rintro(e|e)
         · simp_all
         simp_all
     · rintro(⟨d,c⟩|⟨d,(⟨x,c,f,i⟩|⟨c,f⟩)⟩)
       · simp_all
       · rcases Yau.1 c with rfl|c
         · simp_all
         · exact Or.inr (Or.inr ⟨d,Or.inl ⟨x,c,f,i⟩⟩)
       simp_all
theorem ZpO(bs:List (LB))(l:List El)(e:El):grpV bs (l++[e])=addG (ZB e.1 bs) e.2 (grpV bs l):=by unfold grpV;simp
theorem ZDQ(bs:List (LB))(l:List El)(e:El)(k:List Lab):ZdE bs (l++[e]) k=if ZB e.1 bs=k then ZdE bs l k++[e.2] else ZdE bs l k:=by
 unfold ZdE;split<;>simp_all
theorem ZCt{α:Type}{P:List α->Prop}(h0:P [])(h1:∀l a,P l->P (l++[a]))(l:List α):P l:=by
 have h : ∀ m : List _, P m.reverse := fun m => by
   induction m with
   | nil=>exact h0
   | cons a m ih=>simp_all
 have:=h l.reverse
 simp_all
theorem ZwM(bs:List (LB))(l:List El):((grpV bs l).map (·.1)).Nodup/\(∀k,k∈(grpV bs l).map (·.1) ↔ ∃e∈l,ZB e.1 bs=k)/\(∀g:Grp,g∈grpV bs l ↔ (∃e∈l,ZB e.1 bs=g.1)/\g.2=ZdE bs l g.1):=by
 induction l using ZCt with
 | h0=>exact⟨Yfq,by simp[grpV],by simp[grpV]⟩
 | h1 l e ih=>
  obtain⟨h1,d,o⟩:=ih;rw[ZpO];refine⟨?_,fun k=>?_,fun g=>?_⟩
  ·rw[ZkC];split
   ·exact h1
   ·rename_i p;rw[List.nodup_append];exact⟨h1,by simp,fun a q b m=>by rw[Yap]at m;subst m;intro e';subst e';simp_all⟩
  ·rw[ZkC];split
   ·rename_i h;rw[d];constructor
    ·simp_all
    ·rintro⟨x,c,e'⟩;rcases Yar.1 c with c|c
     ·exact⟨x,c,e'⟩
     simp_all
   ·rw[Yar,d,Yap];constructor
    ·rintro(⟨x,c,e'⟩|rfl)
     ·exact⟨x,Yc7 _ c,e'⟩
     simp
    ·rintro⟨x,c,e'⟩;rcases Yar.1 c with c|c
     ·exact Or.inl ⟨x,c,e'⟩
     simp_all
  ·rw[ZnI _ _ _ h1 g,ZDQ];by_cases i:g.1=ZB e.1 bs
   ·rw[if_pos i.symm];constructor
    ·rintro(⟨a1,_⟩|⟨_,(⟨x,a2,a3,a4⟩|⟨a2,a3⟩)⟩)
     ·simp_all
     ·simp_all
     ·refine⟨⟨e,by simp,i.symm⟩,?_⟩;rw[a3]
      have:ZdE bs l g.1=[]:=by
       unfold ZdE;rw[Ydt,Yc1];intro f j n;exact a2 ((d _).2 ⟨f,j,by simp_all⟩)
      simp_all
    ·rintro⟨_,a2⟩;refine Or.inr ⟨i,?_⟩;by_cases h:ZB e.1 bs∈(grpV bs l).map (·.1)
     ·simp_all
     ·refine Or.inr ⟨h,?_⟩
      have:ZdE bs l g.1=[]:=by
       unfold ZdE;rw[Ydt,Yc1];intro f j n;exact h ((d _).2 ⟨f,j,by simp_all⟩)
      simp_all
   split<;>simp_all
def Zh7(op:Nat)(g:Grp):El:=(g.1,cutV (ZfI op g.2))
theorem ZpG(op:Nat)(bs:List (LB))(all:List El)(m:∀e∈all,Zde e.1):∀(l pre:List El),(∀e∈l,e∈all)->(∀e∈pre,e∈all)->∀x:El,x∈ZcF op bs all pre l ↔ ∃e∈l,(∀f∈pre,ZB f.1 bs≠ZB e.1 bs)/\x=Zh7 op (ZB e.1 bs,ZdE bs all (ZB e.1 bs))
 | [],pre,_,_,x=>by simp[ZcF]
 | e :: l, pre, o, p, x => by
   have ih := ZpG op bs all m l (pre ++ [e]) (fun f a => o f (Yam _ a)) (fun f a => by
     rcases Yar.1 a with a|a
     · simp_all
     simp_all) x
   have q:=o e (by simp);have d:∀f∈all,(wrt (ZB f.1 bs)=wrt (ZB e.1 bs)) ↔ ZB f.1 bs=ZB e.1 bs:=fun f a=>⟨fun h=>ZnE ((m f a).kept bs) ((m e q).kept bs) h,fun h=>by rw[h]⟩
   have n : (all.filter fun f => decide (wrt (ZB f.1 bs) = wrt (ZB e.1 bs))).map (·.2) = ZdE bs all (ZB e.1 bs) := by
     unfold ZdE
     congr 1
     refine List.filter_congr (fun f a=>?_);rw[decide_eq_decide];exact d f a
   have g : pre.any (fun f => decide (wrt (ZB f.1 bs) = wrt (ZB e.1 bs))) = true ↔ ∃ f ∈ pre, ZB f.1 bs = ZB e.1 bs := by
     rw[Ycz];constructor
     · rintro⟨f,a,h⟩;exact⟨f,a,(d f (p f a)).1 (by simp_all)⟩
     · rintro⟨f,a,h⟩;exact⟨f,a,by simp_all⟩
   rw[ZcF,Yar,ih,n];constructor
   · rintro(h|⟨f,a,i,j⟩)
     · split at h
       · cases h
       · rename_i r
         rw[Yap]at h;refine⟨e,by simp,fun f a k=>r (g.2 ⟨f,a,k⟩),h⟩
     · exact⟨f,Yam _ a,fun z c=>i z (Yc7 _ c),j⟩
   · rintro⟨f,a,i,j⟩
     by_cases k:ZB e.1 bs=ZB f.1 bs
     · left
       rw[if_neg (fun s=>by obtain⟨z,c,ez⟩:=g.1 s;exact i z c (ez.trans k)),Yap];rw[j,<-k];rfl
     · right
       rcases Yau.1 a with rfl|a
       · simp_all
       · refine⟨f,a,fun z c=>?_,j⟩
         rcases Yar.1 c with c|c
         · exact i z c
         simp_all
theorem ZwK{op:Nat}(l:List El)(c:∀e∈l,Zde e.1)(i:L.Perm ((grpV bs l).map (Zh7 op))):DstE L/\L.foldl Zcd []=Zcv op bs l:=by
 obtain⟨s1,s2,s3⟩:=ZwM bs l
 have j:DstE ((grpV bs l).map (Zh7 op)):=by
  unfold DstE;rw[Ybx]
  have k : (grpV bs l).Pairwise fun a b => a.1 ≠ b.1 := by
    have:=s1;unfold List.Nodup at this
    rwa [Ybx]at this
  refine Ycx ?_ k;intro a b o p m d;obtain⟨⟨x,f,ex⟩,_⟩:=(s3 a).1 o;obtain⟨⟨y,q,ey⟩,_⟩:=(s3 b).1 p;refine m (ZnE ?_ ?_ d)
  ·show Zde a.1;rw[<-ex];exact(c x f).kept bs
  ·show Zde b.1;rw[<-ey];exact(c y q).kept bs
 have hd:DstE L:=(Yfk (fun h=>Ycp h) i).2 j;refine⟨hd,?_⟩;unfold Zcv;refine ZAL hd (ZlD _ _ l l _).1 (fun z=>?_);rw[i.mem_iff,ZpG _ _ l c l _ (fun _ h=>h) (by simp) z,Ybe];constructor
 ·rintro⟨g,r,rfl⟩;obtain⟨⟨x,f,ex⟩,n⟩:=(s3 g).1 r;refine⟨x,f,by simp,?_⟩;unfold Zh7
  simp_all
 ·rintro⟨e,d,_,n⟩;exact⟨(ZB _ _,ZdE _ l _),(s3 _).2 ⟨⟨e,d,rfl⟩,rfl⟩,n.symm⟩
structure Itm where
 a:Option Addr
 n:Nat
 c:Nat
 tx:BA
 qs:List (BA×BA)
 v:Int
def Itm.enc(i:Itm):List Value:=[.slice i.a i.n i.c,.string i.tx,Vi i.v]
def Itm.labs(i:Itm):List Lab:=i.qs.map blP
def Itm.el(i:Itm):El:=(i.labs,i.v)
structure LbOk (w:World) (a:Option Addr) (n c:Nat) (tx:BA) (qs:List (BA×BA)):Prop where
 row:ZcB w 0 (.slice a n c) n qs
 txt:bl tx=wrt (qs.map blP)
 wf:Zde (qs.map blP)
structure ItmOk (w:World) (i:Itm):Prop where
 lb:LbOk w i.a i.n i.c i.tx i.qs
 vok:vOk i.v
def encs(l:List Itm):List Value:=(l.map Itm.enc).flatten
theorem Zlp(l:List Itm):(encs l).length=l.length*3:=by
 induction l with
 | nil=>rfl
 | cons a l ih=>unfold encs at *;rw[Ybb,List.flatten_cons,Yab,ih,Yaj];simp[Itm.enc];omega
theorem Zh1(l m:List Itm):encs (l++m)=encs l++encs m:=by unfold encs;simp
theorem Zfl(l:List Itm)(j:Nat)(d:j<l.length):(encs l)[j*3]?=some (.slice l[j].a l[j].n l[j].c)/\(encs l)[j*3+1]?=some (.string l[j].tx)/\(encs l)[j*3+2]?=some (Vi l[j].v):=by
 induction l generalizing j with
 | nil=>simp at d
 | cons a l ih=>
  have e:encs (a::l)=.slice a.a a.n a.c::.string a.tx::.int .i64 a.v::encs l:=rfl;cases j with
  | zero=>simp_all
  | succ j=>
   have h:=ih j (by simp_all);rw[e,show(j+1)*3=j*3+1+1+1 by omega]
   assumption
structure VecV (w:World) (v:Value) (l:List El) (is:List Itm):Prop where
 row:w.ownsRow 0 286 3 v is.length (encs is)
 els:is.map Itm.el=l
 ok:∀i∈is,ItmOk w i
 len:is.length<=1000
def Z5(e:TypeId)(w w':World):Prop:=∀(b:Nat) (c:Array Value) (T:TypeId) (fr:Nat×Nat),T≠e->w.heap[b]?=some (.cells c T fr)->w'.heap[b]?=some (.cells c T fr)
def Zo(w w':World):Prop:=∀(b:Nat) (c:Array Value) (T:TypeId) (fr:Nat×Nat),w.heap[b]?=some (.cells c T fr)->w'.heap[b]?=some (.cells c T fr)
theorem Zo.refl(w:World):Zo w w:=fun _ _ _ _ h=>h
theorem Zo.trans{a b c:World}(h:Zo a b)(k:Zo b c):Zo a c:=fun x d T fr e=>k x d T _ (h x d T _ e)
theorem Zo.below(h:BW w w'):Zo w w':=fun b _ _ _ a=>(h.block b (Yae.1 a).1).trans a
theorem Zo.b(h:Zo w w')(e:TypeId):Z5 e w w':=fun b c T fr _ a=>h b c T _ a
theorem Z5.trans{e:TypeId}{a b c:World}(h:Z5 e a b)(k:Z5 e b c):Z5 e a c:=fun x d T fr f g=>k x d T _ f (h x d T _ f g)
theorem Z5.below(h:BW w w')(e:TypeId):Z5 e w w':=(Zo.below h).b e
theorem Z5.grown{b:Nat}{e:TypeId}{s:Nat}(c:w.grownBy w' v.ownBlock)(d:w.ownsRow b e s v n xs):Z5 e w w':=fun k _ _ _ f a=>(c.block k (Yae.1 a).1 (Zcx d a f)).trans a
theorem Z5.own{t:TypeId}(h:Z5 t w w'){e:TypeId}(a:w.ownsRow base e size v n xs)(c:e≠t):w'.ownsRow base e size v n xs:=by
 refine⟨a.1,?_⟩;rcases a.2 with j|⟨g,cap,cur,d,f,i,r⟩
 ·simp_all
 ·exact .inr ⟨g,cap,cur,d,f,h _ _ _ _ c i,r⟩
theorem Zo.own(h:Zo w w'){e:TypeId}(a:w.ownsRow base e size v n xs):w'.ownsRow base e size v n xs:=by
 refine⟨a.1,?_⟩;rcases a.2 with i|⟨g,cap,cur,c,d,f,r⟩
 ·simp_all
 ·exact .inr ⟨g,cap,cur,c,d,h _ _ _ _ f,r⟩
theorem Zo.cell(h:Zo w w'){b o:Nat}(a:w.cell? ⟨b,o,none⟩=some u):w'.cell? ⟨b,o,none⟩=some u:=by
 unfold World.cell? at a ⊢;cases d:w.heap[b]? with
 | none=>simp_all
 | some ob=>
  cases ob with
  | cells c T fr=>simp only[h _ _ _ _ d,d]at a ⊢;exact a
  | _=>simp[d]at a
theorem LbOk.kb{t:TypeId}{c:Nat}(h:LbOk w a n c tx qs)(d:Z5 t w w')(e:378≠t):LbOk w' a n c tx qs:=⟨⟨d.own h.row.1 e,h.row.2⟩,h.txt,h.wf⟩
theorem ItmOk.kb{t:TypeId}{i:Itm}(h:ItmOk w i)(a:Z5 t w w')(c:378≠t):ItmOk w' i:=⟨h.lb.kb a c,h.vok⟩
theorem LbOk.jv{c:Nat}(h:LbOk w a n c tx qs)(d:Zo w w'):LbOk w' a n c tx qs:=⟨⟨d.own h.row.1,h.row.2⟩,h.txt,h.wf⟩
theorem ItmOk.jv{i:Itm}(h:ItmOk w i)(a:Zo w w'):ItmOk w' i:=⟨h.lb.jv a,h.vok⟩
theorem ItmOk.below{i:Itm}(h:ItmOk w i)(a:BW w w'):ItmOk w' i:=h.jv (Zo.below a)
theorem VecV.jv{l:List El}{is:List Itm}(h:VecV w v l is)(a:Zo w w'):VecV w' v l is:=⟨a.own h.row,h.els,fun i c=>(h.ok i c).jv a,h.len⟩
theorem VecV.below{l:List El}{is:List Itm}(h:VecV w v l is)(a:BW w w'):VecV w' v l is:=h.jv (Zo.below a)
theorem VecV.len'{l:List El}{is:List Itm}(h:VecV w v l is):l.length=is.length:=by rw[<-h.els,Yak]
def ValP(w:World)(v:Value):VV->Prop
 | .inl n=>v=.iface 282 (.int .i64 n)/\vOk n
 | .inr l=>∃s is,v=.iface 284 s/\VecV w s l is
theorem ValP.jv{V:VV}(h:ValP w v V)(a:Zo w w'):ValP w' v V:=by
 cases V with
 | inl n=>exact h
 | inr l=>obtain⟨s,is,c,d⟩:=h;exact⟨s,is,c,d.jv a⟩
theorem Tryz.infoItem:(Tryz.prog.info? 286).map (fun i=>(i.zero,i.size,i.bytes))=some (some (.agg #[S0,.string ByteArray.empty,Vi 0]),3,48):=by rfl

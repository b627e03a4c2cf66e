/- Parts. -/
import Derived.Test.YtpbemaaghbbocaaGreatDoorW06
set_option linter.all false
set_option maxRecDepth 100000
set_option maxHeartbeats 16000000
namespace Go.Proofs.YtpbemaaghbbocaaGreatDoor
open Go.RowKit LS Go.Proofs.Tryz
variable {S rs:List Sh}{ts:List Tok}{deep lv m n:Nat}{rec:Nat->List Tok->Nat->Out Tr}{x:Sh}{t:Tr}
def hdS(S:List Sh):Sh:=S.headD (0,[])
def isS(s:LB)(x:Sh):Bool:=(x.1 == 2 || x.1 == 4) && x.2 == s
def opSh(lv:Nat)(x:Sh):Option (Nat×Nat):=LS.opAt lv ⟨x.1,x.2,0⟩
theorem Zc9(s:LB)(t:Tok):isT s t=isS s (sh t):=rfl
theorem Zrq(lv:Nat)(t:Tok):LS.opAt lv t=opSh lv (sh t):=rfl
theorem ZlH(ts:List Tok):sh (hd ts)=hdS (ts.map sh):=by cases ts <;> rfl
theorem ZbB(h:ts.map sh=x::S):sh (hd ts)=x/\ts.tail.map sh=S/\ts.length=S.length+1:=by
 cases ts with
 | nil=>cases h
 | cons t r=>
  rw[Ybb]at h;injection h with h1 h2;exact⟨h1,h2,by rw[<-h2,Yak];rfl⟩
theorem ZeE{s:LB}(h:ts.map sh=x::S)(a:isS s x=true):Zq s ts=.ok ((),ts.tail):=by
 unfold Zq;rw[Zc9,(ZbB h).1,if_pos a]
theorem Zju{k:Nat}{x:LB}(h:ts.map sh=(k,x)::S):ZH k ts=.ok (x,ts.tail):=by
 have a:=(ZbB h).1;unfold ZH;rw[show(hd ts).jx=k from congrArg Prod.fst a,if_pos rfl,show(hd ts).txt=x from congrArg Prod.snd a]
theorem Zm6 (x : List Sh) : ∀ L : List (List Sh), sepT (x :: L) = x ++ L.flatMap fun y => (4, [44]) :: y
  | []=>by simp[sepT]
  | y :: L => by
    show x++(4,[44])::sepT (y::L)=_;rw[Zm6 y L];rfl
theorem Zse{α:Type}(g:α->List Sh)(c:∀a,1<=(g a).length):∀l:List α,l.length<=(sepT (l.map g)).length
 | []=>Yag _
 | a :: l => by
   rw[Ybb,Zm6,Yab,Yaj];have d:=c a
   have : ∀ m : List _, m.length <= ((m.map g).flatMap fun y => ((4, [44])) :: y).length := by
     intro m
     induction m with
     | nil=>simp
     | cons b m ih=>simp_all;omega
   have:=this l;omega
theorem Zmf{α:Type}(item:List Tok->Out α)(close:LB)(g:α->List Sh)(ok:α->Prop)
  (m:∀a,ok a->∀ts S,ts.map sh=g a++S->∃r,r.map sh=S/\item ts=.ok (a,r))
  (o:∀a,ok a->∀S,isS close (hdS (g a++S))=false) (e:isS close (4,[44])=false) :
  ∀(l acc:List α) (n:Nat) (ts:List Tok) (S:List Sh),(∀a∈l,ok a)->l.length<n->
   ts.map sh=(if acc.isEmpty then sepT (l.map g)else (l.map g).flatMap fun y=>(4,[44])::y)++(4,close)::S->∃r,r.map sh=S/\ZS item close n acc ts=.ok (acc++l,r)
 | [], acc, n, ts, S, _, d, h => by
   obtain⟨n,rfl⟩:∃k,n=k+1:=⟨n - 1,by simp at d;omega⟩
   have u:ts.map sh=(4,close)::S:=by rw[h];cases acc <;> rfl
   obtain⟨i,j,_⟩:=ZbB u;refine⟨ts.tail,j,?_⟩;rw[ZS,Zc9,i,if_pos (by simp[isS]),Yca]
 | a :: l, acc, n, ts, S, f, d, h => by
   obtain⟨n,rfl⟩:∃k,n=k+1:=⟨n - 1,by simp at d;omega⟩
   have p:=f a (Yay ..);have v:∀x∈l,ok x:=fun x w=>f x (Yam _ w);have q:l.length<n:=by simp at d;omega
   have s:(acc++[a]).isEmpty=false:=by cases acc <;> rfl
   have fin : ∀ t1 : List Tok, t1.map sh = g a ++ (((l.map g).flatMap fun y => (4, [44]) :: y) ++ (4, close) :: S) -> ∃ r, r.map sh = S /\ (bnd (item t1) fun a r => ZS item close n (acc ++ [a]) r) = .ok (acc ++ a :: l, r) := by
     intro t1 t;obtain⟨r1,e1,e2⟩:=m a p t1 _ t;obtain⟨r,e3,e4⟩:=Zmf item close g ok m o e l (acc++[a]) n r1 S v q (by rw[s];exact e1);refine⟨r,e3,?_⟩;rw[e2];show ZS item close n (acc++[a]) r1=_;rw[e4,Yan];rfl
   cases c:acc.isEmpty with
   | true=>
     rw[c,if_pos rfl,Ybb,Zm6,Yan]at h;obtain⟨r,e1,e2⟩:=fin ts h;refine⟨r,e1,?_⟩;rw[ZS,Zc9,ZlH,h,o a p,if_neg Ycv,c];exact e2
   | false=>
     rw[c,if_neg Ycv,Ybb,Ycd,Yby,Yby,Yan]at h;obtain⟨i,j,_⟩:=ZbB h;obtain⟨r,e1,e2⟩:=fin ts.tail j;refine⟨r,e1,?_⟩;rw[ZS,Zc9,i,e,if_neg Ycv,c,if_neg Ycv,ZeE h (by rfl)];exact e2
theorem Zva(c:Cnd)(_:Zfj c)(ts:List Tok)(S:List Sh)(h:ts.map sh=Zeo c++S):∃r,r.map sh=S/\ZV ts=.ok (c,r):=by
 obtain⟨n,v,b⟩:=c;have a:ts.map sh=(2,n)::(4,if b then [33,61] else [61])::(3,v)::S:=h;obtain⟨_,d,_⟩:=ZbB a;obtain⟨e,f,_⟩:=ZbB d;obtain⟨_,g,_⟩:=ZbB f;refine⟨ts.tail.tail.tail,g,?_⟩;unfold ZV;rw[Zju a];show(bnd (Zdc ts.tail) fun m r=>bnd (ZH 3 r) fun b r=>.ok ((n,b,m),r))=_
 have i:Zdc ts.tail=.ok (b,ts.tail.tail):=by
  unfold Zdc;cases b with
  | true=>rw[Zc9,e,if_pos (by rfl)]
  | false=>rw[Zc9,e,if_neg Dc,ZeE d (by rfl)];rfl
 rw[i];show(bnd (ZH 3 ts.tail.tail) fun b_1 r=>.ok ((n,b_1,b),r))=_;rw[Zju f];rfl
theorem ZjL{x:LB}(h:Zx x=true)(c:UInt8)(a:Zp c=false):x≠[c]:=by
 rintro rfl;unfold Zx at h;rw[Yas,Yep,a]at h;exact absurd h.1 Dc
theorem Zsc(a:Nd)(h:Ze3 a.name a.jq)(ts:List Tok)(S:List Sh)(g:ts.map sh=Zea a++S)(k:isS [123] (hdS S)=false):∃r,r.map sh=S/\selP ts=.ok (⟨1,0,0,a.name,a.jq,[]⟩,r):=by
 obtain⟨g1,g2,g3,g4,g5,g6⟩:=h;unfold Zea at g;have d:ts.map sh=(2,a.name)::((if a.jq=[] then [] else (4,[123])::(sepT (a.jq.map Zeo)++[(4,[125])]))++S):=g;obtain⟨i,e,_⟩:=ZbB d;have q:(hd ts).jx=2:=congrArg Prod.fst i;have l:(hd ts).txt=a.name:=congrArg Prod.snd i
 have j:ZdQ ts=.ok (a.name,ts.tail):=by
  unfold ZdQ;rw[if_neg,Zju d];unfold Zgp;rw[l,g2,g3,Zc9,Zc9,i];simp[isS,g4,g5]
 unfold selP;rw[j];show ∃r,r.map sh=S/\(if isT [123] (hd ts.tail)then bnd (ZS ZV [125] ts.tail.length [] ts.tail.tail) fun cs r=>.ok ((⟨1,0,0,a.name,cs,[]⟩:Nd),r)else .ok ((⟨1,0,0,a.name,[],[]⟩:Nd),ts.tail))=(.ok ((⟨1,0,0,a.name,a.jq,[]⟩:Nd),r):Out Nd)
 by_cases f:a.jq=[]
 ·rw[if_pos f,Ycu]at e;refine⟨ts.tail,e,?_⟩;rw[Zc9,ZlH,e,k,if_neg Ycv,f]
 ·rw[if_neg f,Yby,Yan]at e;obtain⟨m,n,o⟩:=ZbB e;have p:=Zse Zeo (fun _=>by show 1<=3;omega) a.jq;rw[Yab]at o
  obtain ⟨r, e1, e2⟩ := Zmf ZV [125] Zeo Zfj Zva (fun c f S => by
    have:c.1≠[125]:=ZjL f.1 125 Dc;simp[Zeo,hdS,isS,this]) (by rfl) a.jq [] ts.tail.length ts.tail.tail S g6 Om (by simpa using n)
  refine⟨r,e1,?_⟩;rw[Zc9,m,if_pos (by rfl),e2];rfl
def stops(lv:Nat)(S:List Sh):Prop:=isS [123] (hdS S)=false/\∀k,lv<=k->k<=2->opSh k (hdS S)=none
theorem ZCU(h:stops lv S):stops (lv+1) S:=⟨h.1,fun k c a=>h.2 k Om a⟩
theorem ZCS (lv : Nat) : stops lv [(0, [])] := ⟨rfl, fun k _ h => by
  obtain rfl|rfl|rfl:k=0∨k=1∨k=2:=by omega
  all_goals rfl⟩
theorem ZCT (lv : Nat) (S : List Sh) : stops lv ((4, [41]) :: S) := ⟨rfl, fun k _ h => by
  obtain rfl|rfl|rfl:k=0∨k=1∨k=2:=by omega
  all_goals rfl⟩
def DP(t:Tr)(lv:Nat):Prop:=∀n ts rs deep,ts.map sh=toks t (lv+1)++rs->stops lv rs->5*(toks t (lv+1)).length+4<=n+lv->deep+nd t (lv+1)<=20->∃r,r.map sh=rs/\Zs n false lv .nil ts deep=.ok (t,r)
def CP(t:Tr)(lv:Nat):Prop:=∀n ts rs deep,ts.map sh=toks t (lv+1)++rs->stops (lv+1) rs->5*(toks t (lv+1)).length+4<=n+lv->deep+nd t (lv+1)<=20->∃r n',r.map sh=rs/\n<=n'+5*(toks t (lv+1)).length/\1<=n'/\Zs n false lv .nil ts deep=Zs n' true lv t r deep
theorem ZoI(a:lv<=2)(h:CP t lv):DP t lv:=by
 intro n ts rs deep d c e f;obtain⟨r,n',e1,e2,e3,e4⟩:=h n ts rs deep d (ZCU c) e f;refine⟨r,e1,?_⟩;obtain⟨n',rfl⟩:∃k,n'=k+1:=⟨n' - 1,by omega⟩
 rw[e4,Zs,Zrq,ZlH,e1,c.2 lv (Yac _) a]
theorem Zuo(g:lv<=2)(a:toks t (lv+2)=toks t (lv+1))(c:nd t (lv+2)=nd t (lv+1))(i:1<=(toks t (lv+1)).length)(h:DP t (lv+1)):CP t lv:=by
 intro n ts rs deep d e j f;obtain⟨n,rfl⟩:∃k,n=k+1:=⟨n - 1,by omega⟩
 obtain ⟨r, e1, e2⟩ := h n ts rs deep (by rw [d]; exact congrArg (· ++ rs) a.symm) e (by
   show 5*(toks t (lv+2)).length+4<=n+(lv+1)
   rw[a];omega) (by
   show deep+nd t (lv+2)<=20;rw[c];exact f)
 refine⟨r,n,e1,by omega,by omega,?_⟩;rw[Zs,if_neg Om,e2];rfl
theorem Zko(h:m<=Zb5 t):toks t m=toks t 0:=by
 cases t with
 | nil=>rfl
 | node x y a l r=>
  show ZeL (decide (Zz a<m)) _=ZeL (decide (Zz a<0)) _;have c:m<=Zz a:=h;rw[decide_eq_false Om,decide_eq_false Om]
theorem Znr(h:Zb5 t<m)(c:t≠.nil):toks t m=(4,[40])::(toks t 0++[(4,[41])]):=by
 cases t with
 | nil=>exact absurd rfl c
 | node x y a l r=>
  show ZeL (decide (Zz a<m)) _=(4,[40])::(ZeL (decide (Zz a<0)) _++[(4,[41])]);have d:Zz a<m:=h;rw[decide_eq_true d,decide_eq_false Om];rfl
theorem ZgU(h:m<=Zb5 t):nd t m=Zbz t:=by
 unfold nd brk;rw[if_neg Om];omega
theorem Zmm(h:Zb5 t<m):nd t m=Zbz t+1:=by
 unfold nd brk;rw[if_pos h];omega
theorem ZxZ(a:t≠.nil)(h:Zb5 t≠lv+1):toks t (lv+2)=toks t (lv+1)/\nd t (lv+2)=nd t (lv+1):=by
 by_cases c:lv+2<=Zb5 t
 ·exact⟨by rw[Zko c,Zko (m:=lv+1) Om],by rw[ZgU c,ZgU (m:=lv+1) Om]⟩
 ·exact⟨by rw[Znr (m:=lv+2) Om a,Znr (m:=lv+1) Om a],by rw[Zmm (m:=lv+2) Om,Zmm (m:=lv+1) Om]⟩
theorem Zxb(h:ts.map sh=(4,[40])::S):Zbw rec ts deep=Zbu rec ts deep:=by
 have a:=(ZbB h).1;have c:(hd ts).jx=4:=congrArg Prod.fst a;unfold Zbw;rw[if_neg Om,Zc9,a,if_neg Dc,Zc9,a,if_pos (by rfl)]
theorem Ztb  (h : DP t 0)     (c : ts.map sh = (4, [40]) :: (toks t 1 ++ (4, [41]) :: rs)) (f : 5 * (toks t 1).length + 4 <= n) (hd : deep + nd t 1 <= 20) : ∃ r, r.map sh = rs /\ Zbu (fun lv ts d => Zs n false lv .nil ts d) ts deep = .ok (t, r) := by
  obtain⟨_,e,_⟩:=ZbB c;obtain⟨r,e1,e2⟩:=h n ts.tail _ deep e (ZCT 0 rs) Om hd;obtain⟨_,e3,_⟩:=ZbB e1;refine⟨r.tail,e3,?_⟩;unfold Zbu;rw[ZeE c (by rfl)];show(bnd (Zs n false 0 .nil ts.tail deep) fun a r=>bnd (Zq [41] r) fun _ r=>.ok (a,r))=_;rw[e2];show(bnd (Zq [41] r) fun _ r=>.ok (t,r))=_;rw[ZeE e1 (by rfl)];rfl
theorem ZgK    (a : ZdD (hd ts) = true) (c : deep < 20) : Zs (n + 1) false 3 .nil ts deep = Zbw (fun lv ts d => Zs n false lv .nil ts d) ts (deep + 1) := by
  rw[Zs,if_pos rfl,Zb9,if_pos a,if_neg Om]
theorem Zhf(h:ts.map sh=x::S)(a:ZdD ⟨x.1,x.2,0⟩=true):ZdD (hd ts)=true:=by
 have e:ZdD (hd ts)=ZdD ⟨(sh (hd ts)).1,(sh (hd ts)).2,0⟩:=rfl;rw[e,(ZbB h).1];exact a
theorem Zli(f:t≠.nil)(c:Zb5 t<4)(d:1<=Zb5 t)(h:DP t 0):DP t 3:=by
 intro n ts rs deep e j l hd;have e1:toks t 4=(4,[40])::(toks t 1++[(4,[41])]):=by rw[Znr c f,Zko d]
 have e2:nd t 4=nd t 1+1:=by rw[Zmm c,ZgU d]
 have a:ts.map sh=(4,[40])::(toks t 1++(4,[41])::rs):=by rw[e,show toks t (3+1)=_ from e1];simp
 have g:5*(toks t 1).length+14<=n+3:=by
  have:(toks t (3+1)).length=(toks t 1).length+2:=by rw[show toks t (3+1)=_ from e1];simp
  omega
 have i:deep+(nd t 1+1)<=20:=by rw[<-e2];exact hd
 obtain⟨n,rfl⟩:∃k,n=k+1:=⟨n - 1,by omega⟩
 rw[ZgK (Zhf a (by rfl)) Om,Zxb a];exact Ztb h a Om Om
theorem Zjf(h:GT t):t≠.nil:=by induction h using GT.ind <;> intro h <;> cases h
theorem Zgw{b:Bool}(h:1<=S.length):1<=(ZeL b S).length:=by
 cases b
 ·exact h
 ·simp[ZeL]
theorem Zkn(h:GT t)(m:Nat):1<=(toks t m).length:=by
 induction h using GT.ind with
 | num n h=>exact Zgw (by simp[ZcZ])
 | sel nm cs h=>exact Zgw (by simp[ZcZ,Zea])
 | win o n nm cs _ _ _ _=>exact Zgw (by simp[ZcZ])
 | neg l _=>exact Zgw (by simp[ZcZ,nd0])
 | grp g ns l _ _ _=>exact Zgw (by simp[ZcZ])
 | bin o l r _ _ _=>exact Zgw (by simp[ZcZ,nd0];omega)
 | or l r _ _=>exact Zgw (by simp[ZcZ,nd0];omega)
def AllP(t:Tr):Prop:=(∀lv,lv<=3->DP t lv)/\∀lv,lv<=2->CP t lv
theorem ZiQ  (d0 : DP t 0) (d1 : DP t 1) (d2 : DP t 2) (d3 : DP t 3) (c0 : CP t 0) (c1 : CP t 1) (c2 : CP t 2) : AllP t := ⟨fun lv a => by
    obtain rfl|rfl|rfl|rfl:lv=0∨lv=1∨lv=2∨lv=3:=by omega
    · exact d0
    · exact d1
    · exact d2
    · exact d3,fun lv a=>by
    obtain rfl|rfl|rfl:lv=0∨lv=1∨lv=2:=by omega
    · exact c0
    · exact c1
    · exact c2⟩
theorem down(h:GT t)(a:lv<=2)(d:Zb5 t≠lv+1)(hd:DP t (lv+1)):CP t lv/\DP t lv:=by
 obtain⟨e1,e2⟩:=ZxZ (Zjf h) d;have c:=Zuo a e1 e2 (Zkn h _) hd;exact⟨c,ZoI a c⟩
theorem Zht(h:GT t)(a:Zb5 t=4)(d3:DP t 3):AllP t:=by
 have k2:=down h (lv:=2) Om Om d3;have k1:=down h (lv:=1) Om Om k2.2;have k0:=down h (lv:=0) Om Om k1.2;exact ZiQ k0.2 k1.2 k2.2 d3 k0.1 k1.1 k2.1
theorem ZnP(h:GT t)(c:lv<=2)(d:Zb5 t=lv+1)(a:CP t lv):AllP t:=by
 have hd:=ZoI c a;obtain rfl|rfl|rfl:lv=0∨lv=1∨lv=2:=by omega
 ·have d3:=Zli (Zjf h) Om Om hd;have k2:=down h (lv:=2) Om Om d3;have k1:=down h (lv:=1) Om Om k2.2;exact ZiQ hd k1.2 k2.2 d3 a k1.1 k2.1
 ·have k0:=down h (lv:=0) Om Om hd;have d3:=Zli (Zjf h) Om Om k0.2;have k2:=down h (lv:=2) Om Om d3;exact ZiQ k0.2 hd k2.2 d3 k0.1 a k2.1
 ·have k1:=down h (lv:=1) Om Om hd;have k0:=down h (lv:=0) Om Om k1.2;have d3:=Zli (Zjf h) Om Om k0.2;exact ZiQ k0.2 k1.2 hd d3 k0.1 k1.1 a
theorem Zn5{l r:Tr}{p:Nat×Nat}(q:lv<=2)(g:opSh lv x=some p)(d:∀S,stops (lv+1) (x::S))(a:toks (.node 0 0 (nd0 p.1 p.2) l r) (lv+1)=toks l (lv+1)++x::toks r (lv+2))(e:nd (.node 0 0 (nd0 p.1 p.2) l r) (lv+1)=max (nd l (lv+1)) (nd r (lv+2)))(h:CP l lv)(i:DP r (lv+1)):CP (.node 0 0 (nd0 p.1 p.2) l r) lv:=by
 intro n ts rs deep c j f o;rw[a]at c f;rw[e]at o;rw[Yan,Yby]at c;rw[Yab,Yaj]at f;obtain⟨r1,n1,e1,e2,e3,e4⟩:=h n ts _ deep c (d _) Om Om;obtain⟨f1,f2,_⟩:=ZbB e1;obtain⟨m,rfl⟩:∃k,n1=k+1:=⟨n1 - 1,by omega⟩
 obtain⟨r2,g1,g2⟩:=i m r1.tail rs deep f2 j (by show 5*(toks r (lv+2)).length+4<=m+(lv+1);omega) (by show deep+nd r (lv+2)<=20;omega);refine⟨r2,m,g1,?_,by omega,?_⟩
 ·rw[a,Yab,Yaj];omega
 ·rw[e4,Zs,Zrq,f1,g];show(bnd (Zs m false (lv+1) .nil r1.tail deep) fun b r=>Zs m true lv (.node 0 0 (nd0 p.1 p.2) l b) r deep)=_;rw[g2];rfl
theorem ZzI:∀o,o<4->opSh (if o<2 then 1 else 2) (opTk o)=some (4,o):=by decide
theorem ZzO(o:Nat)(c:o<4)(S:List Sh):stops ((if o<2 then 1 else 2)+1) (opTk o::S):=by
 obtain rfl|rfl|rfl|rfl:o=0∨o=1∨o=2∨o=3:=by omega
 all_goals refine⟨rfl,fun k a d=>?_⟩
 ·obtain rfl:k=2:=by simp at a;omega
  rfl
 ·obtain rfl:k=2:=by simp at a;omega
  rfl
 ·exfalso;simp at a;omega
 ·exfalso;simp at a;omega
theorem ZzS (S : List Sh) : stops 1 ((2, wOr) :: S) := ⟨rfl, fun k a c => by
  obtain rfl|rfl:k=1∨k=2:=by omega
  all_goals rfl⟩
theorem ZnA{x:LB}(a:x≠wOr)(c:x≠wBy):ZdD ⟨2,x,0⟩=true:=by
 simp[ZdD,isT,a,c]
theorem ZzU:∀o,o<5->idx (Z0.getD o []) ZW=none/\idx (Z0.getD o []) Z0=some o/\Z0.getD o []≠wOr/\Z0.getD o []≠wBy:=by decide
theorem ZwH:∀o,o<4->idx (ZW.getD o []) ZW=some o/\ZW.getD o []≠wOr/\ZW.getD o []≠wBy:=by decide
theorem ZlP{x:LB}(h:ts.map sh=(2,x)::S)(c:Zx x=true):Zbw rec ts deep=match idx x ZW with
  | some g=>Zcb rec g ts.tail deep
  | none => match idx x Z0 with
    | some o=>winP o ts.tail
    | none=>bnd (selP ts) fun p r=>.ok (Zbg p,r):=by
 have a:=(ZbB h).1;have e:(hd ts).jx=2:=congrArg Prod.fst a;have d:(hd ts).txt=x:=congrArg Prod.snd a;have n1:=ZjL c 45 Dc;have n2:=ZjL c 40 Dc;unfold Zbw;rw[if_neg Om,Zc9,a,if_neg (by simp[isS,n1]),Zc9,a,if_neg (by simp[isS,n2]),d];rfl
theorem ZAf(h:GT t):AllP t:=by
 induction h using GT.ind with
 | num v J=>
  refine Zht (GT.num v J) rfl ?_;intro n ts rs deep d f u hd;have c:ts.map sh=(1,decS v)::rs:=d;have s:deep+1<=20:=hd;obtain⟨n,rfl⟩:∃k,n=k+1:=⟨n - 1,by have:=Zkn (GT.num v J) (3+1);omega⟩
  obtain⟨w,i,_⟩:=ZbB c;have E:(LS.hd ts).jx=1:=congrArg Prod.fst w;have K:(LS.hd ts).txt=decS v:=congrArg Prod.snd w;refine⟨ts.tail,i,?_⟩;rw[ZgK (Zhf c (by rfl)) Om];unfold Zbw;rw[if_pos E,K];have e:numV (decS v)=(v:Int):=by unfold numV;rw[ZjP J];rfl
  rw[e]
 | sel nm cs f=>
  refine Zht (GT.sel nm cs f) rfl ?_;intro n ts rs deep d q u hd;have c:ts.map sh=Zea ⟨1,0,0,nm,cs,[]⟩++rs:=d;have s:deep+1<=20:=hd;obtain⟨n,rfl⟩:∃k,n=k+1:=⟨n - 1,by have:=Zkn (GT.sel nm cs f) (3+1);omega⟩
  have G:ts.map sh=(2,nm)::_:=c;rw[ZgK (Zhf G (ZnA f.2.2.2.1 f.2.2.2.2.1)) Om,ZlP G f.1,f.2.1,f.2.2.1];obtain⟨r,e1,e2⟩:=Zsc ⟨1,0,0,nm,cs,[]⟩ f ts rs c q.1;refine⟨r,e1,?_⟩;show(bnd (selP ts) fun p r=>.ok (Zbg p,r))=_;rw[e2];rfl
 | win o v nm cs j H y f=>
  refine Zht (GT.win o v nm cs j H y f) rfl ?_;intro n ts rs deep d q u hd
  have c:ts.map sh=(2,Z0.getD o [])::(4,[40])::(Zea ⟨2,o,(v:Int),nm,cs,[]⟩++(4,[91])::(1,decS v)::(4,[93])::(4,[41])::rs):=by
   rw[d];show(2,Z0.getD o [])::(4,[40])::(Zea ⟨2,o,(v:Int),nm,cs,[]⟩++[(4,[91]),(1,decS v),(4,[93]),(4,[41])])++rs=_;simp
  have s:deep+1<=20:=hd;obtain⟨n,rfl⟩:∃k,n=k+1:=⟨n - 1,by have:=Zkn (GT.win o v nm cs j H y f) (3+1);omega⟩
  obtain⟨g1,g2,g3,g4⟩:=ZzU o j;obtain⟨_,i,_⟩:=ZbB c;obtain⟨_,F,_⟩:=ZbB i;obtain⟨r,e1,e2⟩:=Zsc ⟨2,o,(v:Int),nm,cs,[]⟩ f ts.tail.tail _ F (by rfl);obtain⟨_,f1,_⟩:=ZbB e1;obtain⟨f0,f2,_⟩:=ZbB f1;obtain⟨_,f3,_⟩:=ZbB f2;obtain⟨_,f4,_⟩:=ZbB f3;refine⟨r.tail.tail.tail.tail,f4,?_⟩;rw[ZgK (Zhf c (ZnA g3 g4)) Om,ZlP c (Zrr o j),g1,g2];show winP o ts.tail=_;unfold winP;rw[ZeE i (by rfl)];show(bnd (selP ts.tail.tail) _)=_;rw[e2];show(bnd (Zq [91] r) _)=_;rw[ZeE e1 (by rfl)];show(bnd (Zc2 r.tail) _)=_
  have N:Zc2 r.tail=.ok ((v:Int),r.tail.tail):=by
   have E:(LS.hd r.tail).jx=1:=congrArg Prod.fst f0;have K:(LS.hd r.tail).txt=decS v:=congrArg Prod.snd f0;unfold Zc2;rw[E,K,ZgX (ZjP y),if_pos ⟨rfl,by omega⟩]
  rw[N];show(bnd (Zq [93] r.tail.tail) _)=_;rw[ZeE f2 (by rfl)];show(bnd (Zq [41] r.tail.tail.tail) _)=_;rw[ZeE f3 (by rfl)];rfl
 | neg l m ih=>
  refine Zht (GT.neg l m) rfl ?_;intro n ts rs deep d q u hd;have c:ts.map sh=(4,[45])::(toks l 4++rs):=d
  have s:deep+(1+nd l 4)<=20:=by
   have:nd (.node 0 0 (nd0 3 0) l .nil) (3+1)=1+nd l 4:=by rw[ZgU (by show 4<=4;omega)];rfl
   rw[this]at hd;exact hd
  have T:5*((toks l 4).length+1)+4<=n+3:=u;obtain⟨n,rfl⟩:∃k,n=k+1:=⟨n - 1,by omega⟩
  obtain⟨w,i,_⟩:=ZbB c;have E:(LS.hd ts).jx=4:=congrArg Prod.fst w;obtain⟨r,e1,e2⟩:=ih.1 3 Om n ts.tail rs (deep+1) i q (by show 5*(toks l 4).length+4<=n+3;omega) (by show deep+1+nd l 4<=20;omega);refine⟨r,e1,?_⟩;rw[ZgK (Zhf c (by rfl)) Om];unfold Zbw;rw[if_neg Om,Zc9,w,if_pos (by rfl)];show(bnd (Zs n false 3 .nil ts.tail (deep+1)) fun a r=>.ok ((.node 0 0 (nd0 3 0) a .nil:Tr),r))=_;rw[e2];rfl
 | grp g ns l L I m ih=>
  refine Zht (GT.grp g ns l L I m) rfl ?_;intro n ts rs deep d q u hd
  have c : ts.map sh = (2, ZW.getD g []) :: (2, wBy) :: (4, [40]) :: (sepT (ns.map fun x => [(2, x)]) ++ (4, [41]) :: (4, [40]) :: (toks l 1 ++ (4, [41]) :: rs)) := by
    rw[d];show(2,ZW.getD g [])::(2,wBy)::(4,[40])::(sepT (ns.map fun x=>[(2,x)])++(4,[41])::(4,[40])::(toks l 1++[(4,[41])]))++rs=_;simp
  have s:deep+(1+nd l 1)<=20:=by
   have:nd (.node 0 0 ⟨5,g,0,[],[],ns⟩ l .nil) (3+1)=1+nd l 1:=by rw[ZgU (by show 4<=4;omega)];rfl
   rw[this]at hd;exact hd
  have M : (toks (Go.Deep.BT.node 0 0 (⟨5, g, 0, [], [], ns⟩ : Nd) l .nil) (3 + 1)).length = (sepT (ns.map fun x => [(2, x)])).length + (toks l 1).length + 6 := by
    show((2,ZW.getD g [])::(2,wBy)::(4,[40])::(sepT (ns.map fun x=>[(2,x)])++(4,[41])::(4,[40])::(toks l 1++[(4,[41])]))).length=_;simp;omega
  rw[M]at u;obtain⟨n,rfl⟩:∃k,n=k+1:=⟨n - 1,by omega⟩
  obtain⟨g1,g2,g3⟩:=ZwH g L;obtain⟨_,i,_⟩:=ZbB c;obtain⟨_,F,_⟩:=ZbB i;obtain⟨_,O,_⟩:=ZbB F;have U:=Zse (fun x:LB=>[((2,x):Sh)]) (fun _=>Yac 1) ns;have P:=congrArg List.length O;rw[Yak,Yab]at P
  obtain ⟨r, e1, e2⟩ := Zmf (ZH 2) [41] (fun x : LB => [((2, x) : Sh)]) (fun x => Zx x = true) (fun a _ ts S h => ⟨ts.tail, (ZbB h).2.1, Zju h⟩) (fun a R S => by
    have:=ZjL R 41 Dc;simp[hdS,isS,this]) (by rfl) ns [] (ts.tail.tail.tail.length+1) ts.tail.tail.tail _ I Om (by simpa using O)
  obtain⟨r2,f1,f2⟩:=Ztb (ih.1 0 Om) (n:=n) (ts:=r) (rs:=rs) (deep:=deep+1) e1 Om Om;refine⟨r2,f1,?_⟩;rw[ZgK (Zhf c (ZnA g2 g3)) Om,ZlP c (ZpL g L),g1];show Zcb _ g ts.tail (deep+1)=_;unfold Zcb;rw[ZeE i (by rfl)];show(bnd (Zq [40] ts.tail.tail) _)=_;rw[ZeE F (by rfl)];show(bnd (ZS (ZH 2) [41] (ts.tail.tail.tail.length+1) [] ts.tail.tail.tail) _)=_;rw[e2];show(bnd (Zbu _ r (deep+1)) _)=_;rw[f2];rfl
 | bin o l r j m z A B=>
  have C:Zb5 (.node 0 0 (nd0 4 o) l r)=(if o<2 then 1 else 2)+1:=by
   show(if o<2 then 2 else 3)=_;split <;> rfl
  have D:(if o<2 then 1 else 2)<=2:=by split <;> omega
  have Q:Zz (nd0 4 o)=(if o<2 then 1 else 2)+1:=C;refine ZnP (GT.bin o l r j m z) D C (Zn5 (p:=(4,o)) D (ZzI o j) (ZzO o j) ?_ ?_ (A.2 _ D) (B.1 _ Om))
  ·rw[Zko (t:=.node 0 0 (nd0 (4,o).1 (4,o).2) l r) (Ydh C.symm)];show toks l (Zz (nd0 4 o))++opTk o::toks r (Zz (nd0 4 o)+1)=_;rw[Q]
  ·exact(Zmq (p:=(4,o)) Q (Or.inr ⟨rfl,j⟩) m z).2
 | or l r m z A B=>
  refine ZnP (GT.or l r m z) (lv:=0) Om rfl (Zn5 (p:=(6,0)) (x:=(2,wOr)) Om (by rfl) ZzS ?_ ?_ (A.2 0 Om) (B.1 1 Om))
  ·rfl
  ·exact(Zmq (p:=(6,0)) rfl (Or.inl rfl) m z).2
def Zd6(c n:Int):Int:=if c<0 then -((c+1).tmod n)else c % n
theorem ZmM(c n:Int)(a:1<=n):0<=Zd6 c n/\Zd6 c n<n:=by
 unfold Zd6;split
 ·rw[<-Int.neg_tmod,Int.tmod_eq_emod_of_nonneg Om];exact⟨Int.emod_nonneg _ Om,Int.emod_lt_of_pos _ Om⟩
 ·exact⟨Int.emod_nonneg _ Om,Int.emod_lt_of_pos _ Om⟩
theorem ZAC(c n:Int)(f : -9223372036854775808<=c)(g:c<=9223372036854775807)(a:1<=n)(i:n<=9223372036854775807)(w:World) :
  Cq 12 #[Vi c,Vi n] w fun e u=>e=.returned (Vi (Zd6 c n))/\u=w:=by
 have d:=ZmM c n a;have j:¬n=0:=by omega
 go_enter func12,ntmps12;by_cases h:c<0
 ·have e:Zd6 c n=-((c+1).tmod n):=by unfold Zd6;rw[if_pos h]
  rw[e]at d;rw[e];go_wp2;go_ret;exact⟨rfl,rfl⟩
 ·have e:Zd6 c n=c % n:=by unfold Zd6;rw[if_neg h]
  rw[e]at d;rw[e];go_wp2;go_ret;exact⟨rfl,rfl⟩

/- Parts. -/
import Derived.Test.YtcdgkkfipdoeeaaGreatDoorT00
set_option linter.all false
set_option maxRecDepth 100000
set_option maxHeartbeats 16000000
namespace Go.Proofs.YtcdgkkfipdoeeaaGreatDoor
open Go.RowKit LS Go.Proofs.Tryz
def opS(o:Nat):LB:=[[43],[45],[42],[47]].getD o []
def Zbv(a:Nd)(pl pr:Nat->LB):LB:=
 if a.jj=0 then decS a.n.toNat
 else if a.jj=1 then selS a
 else if a.jj=2 then Z0.getD a.op []++[40]++selS a++[91]++decS a.n.toNat++[93,41]
 else if a.jj=3 then [45]++pl 4
 else if a.jj=5 then ZW.getD a.op []++[32,98,121,32,40]++commas a.by_++[41,32,40]++pl 1++[41]
 else if a.jj=6 then pl 1++[32,111,114,32]++pr 2
 else pl (Zz a)++[32]++opS a.op++[32]++pr (Zz a+1)
def ZeK(b:Bool)(s:LB):LB:=if b then [40]++s++[41] else s
def Zu:Tr->Nat->LB
 | .nil,_=>[]
 | .node _ _ a l r,must=>ZeK (decide (Zz a<must)) (Zbv a (Zu l) (Zu r))
theorem ZhZ:∀(k n:Nat),n<10 ^ (k+1)->(decS n).length<=k+1
 | 0,n,h=>by rw[Zh0 Om];simp
 | k + 1, n, h => by
   by_cases a:n<=9
   · rw[Zh0 a];simp
   · rw[Zi6 a,Yab]
     have:=ZhZ k (n / 10) Om
     simp_all
theorem ZhX(a b:LB)(l:List (LB)):commas (a::b::l)=a++44::commas (b::l):=rfl
theorem ZeS:∀(l:List (LB)),(commas l).length<=nw l
 | []=>Yac _
 | [a]=>by simp[commas,nw]
 | a :: b :: l => by
   have:=ZeS (b::l);rw[ZhX,Yab,Yaj];simp only[nw]at *
   omega
theorem Zu8(c:LB×LB×Bool):(Z8 c).length<=c.1.length+c.2.1.length+4:=by
 unfold Z8;split <;> simp <;> omega
theorem Zmv:∀(l:List (LB×LB×Bool)),nw (l.map Z8)<=cw l
 | []=>Yac _
 | c :: l => by
   have:=Zmv l;have:=Zu8 c;simp only[Ybb,nw,cw];omega
theorem Zr7(a:Nd):(selS a).length<=a.name.length+cw a.jn+2:=by
 unfold selS;split
 ·omega
 ·have c:=ZeS (a.jn.map Z8);have d:=Zmv a.jn
  simp_all;omega
theorem Zh5(a:List (LB))(h:∀x∈a,x.length<=5)(i:Nat):(a.getD i []).length<=5:=by
 rw[Yaa];cases c:a[i]? with
 | none=>simp
 | some x=>exact h x (Ycq c)
theorem Zow{a:Nd}(h:a.n<=1000000000){pl pr:Nat->LB}{x y:Nat}(c:∀m,(pl m).length<=x)(d:∀m,(pr m).length<=y):(Zbv a pl pr).length+2<=ownW a+x+y:=by
 have e:a.n.toNat<=1000000000:=by omega
 have f:(10) ^ 10=10000000000:=by decide
 have hd:(decS a.n.toNat).length<=10:=ZhZ 9 _ Om;have i:=Zr7 a;have j:=ZeS a.by_;have k:=Zh5 Z0 Dc a.op;have l:=Zh5 ZW Dc a.op;have g:=Zh5 [[43],[45],[42],[47]] Dc a.op;have l1:=c 1;have l4:=c 4;have lt:=c (Zz a);have r2:=d 2;have rt:=d (Zz a+1);unfold Zbv ownW;split
 ·omega
 ·split
  ·omega
  ·split
   ·simp_all;omega
   ·split
    ·simp;omega
    ·split
     ·simp only[Yab,Yaj,Ybq];omega
     ·split
      ·simp;omega
      ·unfold opS;simp only[Yab,Yaj,Ybq];omega
theorem ZEX(b:Bool)(s:LB):(ZeK b s).length<=s.length+2:=by
 unfold ZeK;split<;>simp
theorem Zfy:∀(t:Tr) (m:Nat),wfT t->(Zu t m).length<=wT t
 | .nil,_,_=>Yac _
 | .node x y a l r, m, h => by
   have c:=Zfy l;have d:=Zfy r;have e:=Zow h.2.2.2.2.2.1 (fun m=>c m h.2.2.2.2.2.2.2.2.2.2.1) (fun m=>d m h.2.2.2.2.2.2.2.2.2.2.2);have f:=ZEX (decide (Zz a<m)) (Zbv a (Zu l) (Zu r));unfold Zu wT;omega
theorem Zlc(l:List (LB))(a:LB):commas (l++[a])=(if l.isEmpty then [] else commas l++[44])++a:=by
 induction l with
 | nil=>rfl
 | cons b l ih=>
  cases l with
  | nil=>simp[commas]
  | cons c l=>
   have e:commas (b::c::l++[a])=b++44::commas (c::l++[a]):=rfl;rw[e,ih];simp[commas]
def Zey(l:LB):LB×Nat×Nat:=match ZD l with
 | .error x=>([],x.1,x.2)
 | .ok t=>(Zu t 1,0,0)
end Go.Proofs.YtcdgkkfipdoeeaaGreatDoor
namespace Go.Proofs.YtcdgkkfipdoeeaaGreatDoor.LS
open Go Go.RowKit
abbrev Lab:=LB×LB
abbrev El:=List Lab×Int
structure Ser where
 name:LB
 labs:List Lab
 ju:List (Int×Int)
abbrev VV:=Int ⊕ List El
def lab1(p:Lab):LB:=p.1++[61]++p.2
def wrt(l:List Lab):LB:=Go.Proofs.YtcdgkkfipdoeeaaGreatDoor.LS.commas (l.map lab1)
def cutV(n:Int):Int:=if 1000000000<n then 1000000000 else if n < -1000000000 then -1000000000 else n
def Zcd:List El->El->List El
 | [],x=>[x]
 | y::l,x=>if Op.bytesLess (wrt x.1) (wrt y.1)then x::y::l else y::Zcd l x
def ZeI:List Lab->LB->LB
 | [],_=>[]
 | p::l,n=>if p.1=n then p.2 else ZeI l n
def ZfW(s:Ser)(c:LB×LB×Bool):Bool:=!((decide (ZeI s.labs c.1=c.2.1)) == c.2.2)
def Zc1(a:Nd)(s:Ser):Bool:=a.jn.all (ZfW s) && decide (a.name=s.name)
def Zb6(l:List (Int×Int))(n t:Int):List (Int×Int):=l.filter fun x=>decide (t - n<x.1) && decide (x.1<=t)
def maxL:Int->List Int->Int
 | m,[]=>m
 | m,x::l=>maxL (if m<x then x else m) l
def minL:Int->List Int->Int
 | m,[]=>m
 | m,x::l=>minL (if x<m then x else m) l
def ZfI(op:Nat)(l:List Int):Int:=
 if op=0 then l.sum else if op=1 then maxL (l.headD 0) l else if op=2 then minL (l.headD 0) l else if op=3 then (l.length:Int)else l.getLastD 0 - l.headD 0
def oneV(op:Option Nat)(l:List (Int×Int)):Int:=match op with
 | none=>(l.getLastD (0,0)).2
 | some o=>cutV (ZfI o (l.map (·.2)))
def Zc4(st:List Ser)(a:Nd)(op:Option Nat)(size t:Int):List El:=
 st.foldl (fun acc s=>if Zc1 a s && !(Zb6 s.ju size t).isEmpty then Zcd acc (s.labs,oneV op (Zb6 s.ju size t))else acc) []
def twoV(op:Nat)(a b:Int):Int:=if op=0 then cutV (a+b)else if op=1 then cutV (a - b)else if op=2 then cutV (a*b)else if b=0 then 0 else a.tdiv b
def Zdg(op:Nat):VV->VV->VV
 | .inl a,.inl b=>.inl (twoV op a b)
 | .inl a,.inr y=>.inr (y.map fun e=>(e.1,twoV op a e.2))
 | .inr x,.inl b=>.inr (x.map fun e=>(e.1,twoV op e.2 b))
 | .inr x,.inr y=>.inr (x.flatMap fun e=>(y.filter fun f=>decide (wrt e.1=wrt f.1)).map fun f=>(e.1,twoV op e.2 f.2))
def negV:VV->VV
 | .inl a=>.inl (-a)
 | .inr x=>.inr (x.map fun e=>(e.1,-e.2))
def ZB(l:List Lab)(by_:List (LB)):List Lab:=l.filter fun p=>by_.contains p.1
def ZcF(op:Nat)(by_:List (LB))(all:List El):List El->List El->List El
 | _,[]=>[]
 | pre,e::l=>(if pre.any (fun f=>decide (wrt (ZB f.1 by_)=wrt (ZB e.1 by_)))then [] else [(ZB e.1 by_,cutV (ZfI op ((all.filter fun f=>decide (wrt (ZB f.1 by_)=wrt (ZB e.1 by_))).map (·.2))))])++ZcF op by_ all (pre++[e]) l
def Zcv(op:Nat)(by_:List (LB))(l:List El):List El:=(ZcF op by_ l [] l).foldl Zcd []
def Zcm:VV->List El
 | .inl _=>[]
 | .inr l=>l
def sayT(st:List Ser)(t:Int):Tr->VV
 | .nil=>.inr []
 | .node _ _ a l r => if a.jj = 0 then .inl a.n else if a.jj = 1 then .inr (Zc4 st a none 10 t) else if a.jj = 2 then .inr (Zc4 st a (some a.op) a.n t)
   else if a.jj=3 then negV (sayT st t l)else if a.jj=5 then .inr (Zcv a.op a.by_ (Zcm (sayT st t l)))
   else if a.jj=6 then (if (Zcm (sayT st t l)).isEmpty then sayT st t r else sayT st t l)else Zdg a.op (sayT st t l) (sayT st t r)
def decI(n:Int):LB:=if n<0 then [45]++decS n.natAbs else decS n.toNat
def elS(e:El):LB:=[32,123]++wrt e.1++[125]++decI e.2
def Zel(t:Int):VV->LB
 | .inl n=>decI t++[32]++decI n
 | .inr l=>decI t++(l.map elS).flatten
structure Nq where
 op:Nat
 arg:Int
 fs:Option Nat
 sn:Option Nat
def ZGo:DecidableEq Nq:=fun a b=>decidable_of_iff (a.op=b.op/\a.arg=b.arg/\a.fs=b.fs/\a.sn=b.sn) (by cases a;cases b;simp)
def nq0:Nq:=⟨0,0,none,none⟩
def Zg(n:Nq):List Nat:=match n.fs,n.sn with
 | none,_=>[]
 | some a,none=>[a]
 | some a,some b=>[a,b]
def idxN(x:Nq):List Nq->Option Nat
 | []=>none
 | y::l=>haveI:=ZGo y x;if y=x then some 0 else (idxN x l).map (· + 1)
structure Gq where
 fold:Bool
 share:Bool
 jx:List Nq
 uses:List Nat
 jm:List (Nd×Nat)
 ky:List (List (LB))
def g0(fl:Nat):Gq:=⟨decide (fl % 2=1),decide (fl / 2 % 2=1),[],[],[],[]⟩
def bump(u:List Nat)(n:Nat):List Nat:=u.set n (u.getD n 0+1)
def addQ(x:Nq)(g:Gq):Nat×Gq:=match (if g.share then idxN x g.jx else none)with
 | some i=>(i,g)
 | none=>(g.jx.length,{ g with jx:=g.jx++[x],uses:=(Zg x).foldl bump (g.uses++[0]) })
def Zdw(v:Int)(g:Gq):Nat×Gq:=addQ ⟨0,v,none,none⟩ g
def Zco(n:Nat)(g:Gq):Option Int:=if g.fold=true/\(g.jx.getD n nq0).op=0 then some (g.jx.getD n nq0).arg else none
def negQ(n:Nat)(g:Gq):Nat×Gq:=match Zco n g with
 | some v=>Zdw (-v) g
 | none=>addQ ⟨4,0,some n,none⟩ g
def Zbs(op x y:Nat)(g:Gq):Nat×Gq:=match Zco x g,Zco y g with
 | some u,some v=>Zdw (twoV op u v) g
 | _,_=>addQ ⟨3,op,some x,some y⟩ g
def ZI(x:Nd×Nat):LB:=selS x.1++(if 0<x.2 then [91]++decS x.2++[93] else [])
def ZJ(x:Nd×Nat)(g:Gq):Nat×Gq:=match idx (ZI x) (g.jm.map ZI)with
 | some i=>addQ ⟨1,i,none,none⟩ g
 | none=>addQ ⟨1,g.jm.length,none,none⟩ { g with jm:=g.jm++[x] }
def insN(x:LB):List (LB)->List (LB)
 | []=>[x]
 | y::l=>if x=y then y::l else if Op.bytesLess x y then x::y::l else y::insN x l
def Z6(l:List (LB)):List (LB):=l.foldr insN []
def Zbd(ns:List (LB))(g:Gq):Nat×Gq:=match idx (commas (Z6 ns)) (g.ky.map commas)with
 | some i=>(i,g)
 | none=>(g.ky.length,{ g with ky:=g.ky++[Z6 ns] })
def Zba(a:Nd):Nd:=⟨1,0,0,a.name,a.jn,[]⟩
def Zb:Tr->Gq->Nat×Gq
 | .nil,g=>(0,g)
 | .node _ _ a l r,g=>
  if a.jj=0 then Zdw a.n g
  else if a.jj=1 then ZJ (Zba a,0) g
  else if a.jj=2 then (let p:=ZJ (Zba a,a.n.toNat) g;addQ ⟨2,a.op,some p.1,none⟩ p.2)
  else if a.jj=3 then (let p:=Zb l g;negQ p.1 p.2)
  else if a.jj=5 then (let p:=Zb l g;let k:=Zbd a.by_ p.2;addQ ⟨5+a.op,k.1,some p.1,none⟩ k.2)
  else (let p:=Zb l g;let q:=Zb r p.2;if a.jj=6 then addQ ⟨10,0,some p.1,some q.1⟩ q.2 else Zbs a.op p.1 q.1 q.2)
structure Cq where
 left:List Nat
 jy:List (Option Int)
 jq:List Int
 jz:List (Nat×Nat)
def c0(g:Gq):Cq:=⟨g.uses,List.replicate 16 none,[],[]⟩
def Zc(op arg:Nat)(c:Cq):Cq:={ c with jz:=c.jz++[(op,arg)] }
def ZK(n:Nat)(l:List (Option Int)):Option Nat:=(List.range 16).find? fun s=>decide (l.getD s none=some (n:Int))
def ZbQ(l:List (Option Int)):Option Nat:=(List.range 16).find? fun s=>decide (l.getD s none=none)
def ZZ(n s:Nat)(c:Cq):Cq:=let d:=Zc 12 s c;{ d with jy:=d.jy.set s (some (n:Int)) }
def ZeJ(jx:List Nq)(n:Nat):Bool:=
 let x:=jx.getD n nq0
 let y:=if x.op=4 then jx.getD (x.fs.getD 0) nq0 else x
 decide (y.op≠0/\y.op≠1)
def putQ(jx:List Nq)(work:Nat->Cq->Cq)(n:Nat)(c:Cq):Cq:=
 let c:={ c with left:=c.left.set n (c.left.getD n 0 - 1) }
 match ZK n c.jy with
 | some s=>let c:=Zc 13 s c;if c.left.getD n 0=0 then { c with jy:=c.jy.set s none } else c
 | none=>
  let c:=work n c
  if c.left.getD n 0=0∨ZeJ jx n=false then c else match ZbQ c.jy with
   | some s=>Zc 13 s (ZZ n s c)
   | none=>c
def cntQ(jx:List Nq)(sl:List (Option Int)):Nat->Nat->List Nat->List Nat
 | 0,_,k=>k
 | f+1,n,k=>
  let k:=bump k n
  if (ZK n sl).isSome∨1<k.getD n 0 then k else (Zg (jx.getD n nq0)).foldl (fun k t=>cntQ jx sl f t k) k
def ZcX(jx:List Nq)(c:Cq)(k:List Nat)(n:Nat):Bool:=decide (0<k.getD n 0) && (ZK n c.jy).isNone && decide (k.getD n 0<c.left.getD n 0) && ZeJ jx n
def ZbT(p:Nat->Bool):Nat->Option Nat
 | 0=>none
 | n+1=>if p n then some n else ZbT p n
def ZbY(jx:List Nq)(n:Nat)(c:Cq):Option Nat:=ZbT (ZcX jx c (cntQ jx c.jy (n+1) n (List.replicate jx.length 0))) jx.length
def ZG(jx:List Nq)(work:Nat->Cq->Cq)(n:Nat):Nat->Cq->Cq
 | 0,c=>c
 | k + 1, c => match ZbY jx n c, ZbQ c.jy with
   | some x,some s=>ZG jx work n k (ZZ x s (work x { c with jy:=c.jy.set s (some (-1)) }))
   | _,_=>c
def Zce(a b:List (Option Int)):List (Option Int):=(List.range 16).map fun s=>if a.getD s none=b.getD s none then a.getD s none else none
def Zbo(jx:List Nq)(work:Nat->Cq->Cq)(x y:Nat)(c:Cq):Cq:=
 let c:=putQ jx work x (ZG jx work y (y+2) c)
 let d:=putQ jx work y (Zc 11 0 (Zc 10 0 c))
 { d with jy:=Zce d.jy c.jy,jz:=d.jz.set c.jz.length (10,d.jz.length) }
def ZbD(x:Nq)(c:Cq):Cq:=if x.op=0 then Zc 0 c.jq.length { c with jq:=c.jq++[x.arg] } else Zc x.op x.arg.toNat c
def Zr(jx:List Nq):Nat->Nat->Cq->Cq
 | 0,_,c=>c
 | f+1,n,c=>
  let x:=jx.getD n nq0
  if x.op=10 then Zbo jx (Zr jx f) (x.fs.getD 0) (x.sn.getD 0) c
  else ZbD x ((Zg x).foldl (fun c t=>putQ jx (Zr jx f) t c) c)
def Zv(g:Gq)(root:Nat):Cq:=putQ g.jx (Zr g.jx (root+1)) root (c0 g)
def ZL(l:List (Nat×Nat))(i:Nat):List (Nat×Nat):=
 if (l.getD i (0,0)).1=10/\(l.getD i (0,0)).2<l.length/\(l.getD (l.getD i (0,0)).2 (0,0)).1=10 then l.set i (10,(l.getD (l.getD i (0,0)).2 (0,0)).2)else l
def ZcI:Nat->List (Nat×Nat)->List (Nat×Nat)
 | 0,l=>l
 | i+1,l=>ZcI i (ZL l i)
def Zch(l:List (Nat×Nat)):List (Nat×Nat):=ZcI l.length l
def codeOf(t:Tr)(fl:Nat):CodeQ:=
 let p:=Zb t (g0 fl)
 let c:=Zv p.2 p.1
 ⟨c.jq,p.2.jm,p.2.ky,if 4<=fl then Zch c.jz else c.jz⟩
def ZO(l:LB):LB:=digL l.length 2++l
def Zb0(v:Int):LB:=digL (v % 4294967296).toNat 4
def Z2(c:CodeQ):LB:=[103]++digL c.jq.length 2++digL c.jw.length 2++digL c.jv.length 2++digL c.jz.length 2++c.jq.flatMap Zb0++c.jw.flatMap (fun x=>ZO (ZI x))++c.jv.flatMap (fun x=>ZO (commas x))++c.jz.flatMap (fun x=>UInt8.ofNat x.1::digL x.2 2)
def ZbJ(c:CodeQ):LB:=Z2 c++digL (sumQ (Z2 c)) 4
def ZcM(q:LB)(fl:Int):LB×Nat×Nat:=match ZD q with
 | .error x=>([],x.1,x.2)
 | .ok t=>if fl<0∨7<fl then ([],11,0)else (ZbJ (codeOf t fl.toNat),0,0)
end Go.Proofs.YtcdgkkfipdoeeaaGreatDoor.LS
namespace Go.Proofs.YtcdgkkfipdoeeaaGreatDoor
open Go.RowKit LS Go.Proofs.Tryz
structure PTok where
 kd:Nat
 at_:Nat
 tx:BA
 v:Nat
def ZbC:List PTok->List Value
 | []=>[]
 | t::l=>.int .i64 t.kd::.int .i64 t.at_::.string t.tx::.int .i64 t.v::ZbC l
theorem Zer(l m:List PTok):ZbC (l++m)=ZbC l++ZbC m:=by
 induction l with
 | nil=>rfl
 | cons a l ih=>simp[ZbC,ih]
theorem Zwj (l : List PTok) (j : Nat) : (ZbC l)[j * 4]? = l[j]?.map (fun t => Vi t.kd) /\ (ZbC l)[j * 4 + 1]? = l[j]?.map (fun t => Vi t.at_) /\ (ZbC l)[j * 4 + 2]? = l[j]?.map (fun t => .string t.tx) /\ (ZbC l)[j * 4 + 3]? = l[j]?.map (fun t => Vi t.v) := by
  induction l generalizing j with
  | nil=>simp[ZbC]
  | cons r l ih=>
    cases j with
    | zero=>simp[ZbC]
    | succ j=>
      obtain⟨a,c,d,e⟩:=ih j;refine⟨?_,?_,?_,?_⟩
      · rw[show(j+1)*4=j*4+1+1+1+1 by omega];simpa [ZbC] using a
      · rw[show(j+1)*4+1=j*4+1+1+1+1+1 by omega];simpa [ZbC] using c
      · rw[show(j+1)*4+2=j*4+2+1+1+1+1 by omega];simpa [ZbC] using d
      · rw[show(j+1)*4+3=j*4+3+1+1+1+1 by omega];simpa [ZbC] using e
def pk(k:Nat):Nat:=if k=0 then 4 else if k=1 then 0 else if k=2 then 1 else if k=3 then 2 else if k=4 then 3 else 5
def Zdf(p:PTok)(t:Tok):Prop:=p.kd=pk t.jj/\p.at_=t.at_/\bl p.tx=t.txt/\(t.jj=1->(p.v:Int)=numV t.txt)
structure RD (w:World) (b g cp:Nat) (ps:List PTok) (k:Nat):Prop where
 cells:w.heap[b]?=some (.cells #[.slice (some ⟨g,0,none⟩) ps.length cp,Vi k] 69 (0,0))
 own:w.ownsRow 0 74 4 (.slice (some ⟨g,0,none⟩) ps.length cp) ps.length (ZbC ps)
 lt:k<ps.length
theorem RD.below{w w':World}{b g cp:Nat}{ps:List PTok}{k:Nat}(h:RD w b g cp ps k)(a:BW w w'):RD w' b g cp ps k:=
 ⟨(a.block b (Yae.1 h.cells).1).trans h.cells,Zn h.own a,h.lt⟩
theorem RD.all{w:World}{b g cp:Nat}{ps:List PTok}{k:Nat}(h:RD w b g cp ps k) :
  w.cell? ⟨b,0,none⟩=some (.slice (some ⟨g,0,none⟩) ps.length cp)/\w.cell? ⟨b,1,none⟩=some (Vi k)/\w.frozen? ⟨b,1,none⟩=false/\b<w.heap.size/\g<w.heap.size/\
  w.cell? ⟨g,k*4,none⟩=some (Vi (ps[k]'h.lt).kd)/\w.cell? ⟨g,k*4+1,none⟩=some (Vi (ps[k]'h.lt).at_)/\w.cell? ⟨g,k*4+2,none⟩=some (.string (ps[k]'h.lt).tx)/\w.cell? ⟨g,k*4+3,none⟩=some (Vi (ps[k]'h.lt).v):=by
 obtain⟨f1,f2,f3,f4⟩:=Zwj ps k;rw[List.getElem?_eq_getElem h.lt]at f1 f2 f3 f4;refine⟨by simp[World.cell?,h.cells],by simp[World.cell?,h.cells],by simp[World.frozen?,h.cells],(Yae.1 h.cells).1,Z1 h.own,Zi h.own _ f1,Zi h.own _ f2,Zi h.own _ f3,Zi h.own _ f4⟩
theorem ZiF{w:World}{b g cp:Nat}{ps:List PTok}{k:Nat}(h:RD w b g cp ps k) :
  Cz 29 #[Vp b] w fun e u=>e=.returned (.agg #[Vi (ps[k]'h.lt).kd,Vi (ps[k]'h.lt).at_,.string (ps[k]'h.lt).tx,Vi (ps[k]'h.lt).v])/\BW w u:=by
 obtain⟨c0,c1,_,a,c,d0,d1,d2,d3⟩:=h.all;have d:=h.lt;generalize ps[k]'h.lt=t at *
 obtain⟨kd,at_,tx,v⟩:=t;simp only at d0 d1 d2 d3 ⊢;generalize ps.length=n at *
 go_enter func29,ntmps29;go_wp2
 go_region
 all_goals
  go_wp2;exact bodyPost_ret (by simp[results,results29,go_sem]) rfl ⟨rfl,belB⟩
theorem ZlS(t:PTok)(s:BA)(w:World) :
  Cz 102 #[.agg #[Vi t.kd,Vi t.at_,.string t.tx,Vi t.v],.string s] w fun e u=>e=.returned (.bool (((t.kd:Int) == 3) && (t.tx.toList == s.toList)))/\BW w u:=by
 obtain⟨kd,at_,tx,v⟩:=t;simp only;generalize a:((kd:Int) == 3)=x;cases x
 ·go_enter func102,ntmps102;go_wp2;go_ret;exact⟨rfl,belB⟩
 ·go_enter func102,ntmps102;go_wp2;go_ret;exact⟨rfl,belB⟩
theorem Zp0(t:PTok)(s:BA)(w:World) :
  Cz 109 #[.agg #[Vi t.kd,Vi t.at_,.string t.tx,Vi t.v],.string s] w fun e u=>e=.returned (.bool (((t.kd:Int) == 1) && (t.tx.toList == s.toList)))/\BW w u:=by
 obtain⟨kd,at_,tx,v⟩:=t;simp only;generalize a:((kd:Int) == 1)=x;cases x
 ·go_enter func109,ntmps109;go_wp2;go_ret;exact⟨rfl,belB⟩
 ·go_enter func109,ntmps109;go_wp2;go_ret;exact⟨rfl,belB⟩
def ZM(w:World)(v:Value)(at_:Int)(what:Addr):Prop:=∃fa:Nat,v=.iface 81 (Vp fa)/\w.heap[fa]?=some (.cells #[.string ⟨#[98,121,116,101]⟩,Vi at_,.iface 432 (.pointer (some what))] 85 (0,0))
theorem ZM.below{w w':World}{v:Value}{at_:Int}{what:Addr}(h:ZM w v at_ what)(c:BW w w'):ZM w' v at_ what:=by
 obtain⟨fa,d,a⟩:=h;exact⟨fa,d,(c.block _ (Yae.1 a).1).trans a⟩
theorem ZkT{i:Int}{what:Value}{w:World} :
  Cz 54 #[Vi i,.iface 432 what] w fun e u=>e=.returned (.iface 81 (Vp w.heap.size))/\u=w.alloc (.cells #[.string ⟨#[98,121,116,101]⟩,Vi i,.iface 432 what] 85):=by
 go_enter func54,ntmps54;go_wp2;go_ret;exact⟨rfl,rfl⟩
theorem ZiZ{w:World}{b g cp:Nat}{ps:List PTok}{k:Nat}(h:RD w b g cp ps k){sy:Addr}(d:w.cell? ⟨1,0,none⟩=some (.iface 432 (.pointer (some sy)))) :
  Cz 30 #[Vp b] w fun e u=>∃v,e=.returned v/\Hid (ZM u v (ps[k]'h.lt).at_ sy)/\BW w u:=by
 have H:=hid h;have j:=hid (RD.below h ((Yaf _ _).drew));have i:1<w.heap.size:=Yai _ _ d;obtain⟨t,f⟩:∃t,t=ps[k]'h.lt:=⟨_,rfl⟩
 have l:Hid (∀m:k<ps.length,ps[k]'m=t):=fun _=>f.symm;rw[<-f];clear f h;have o:∀W:World,(Instr.field 74 (.agg #[Vi t.kd,.int _ t.at_,.string t.tx,Vi t.v]) 1).run prog W=.ok (Vi _) W:=fun _=>rfl;go_enter func30,ntmps30;go_wp2
 go_region_with (first
   | (go_at_call 29
      refine(ZiF j.out).mono ?_;rintro e y ⟨rfl,a⟩;rw[l.out];have c:Hid (BW w y):=⟨a.os,a.tape,a.output,a.size,a.block⟩
      have n:y.cell? ⟨1,0,none⟩=some (.iface 432 (.pointer (some sy))):=(c.cell (p:=⟨_,0,none⟩) i).trans d;clear a)
   | (go_at_call 54
      refine cret (ZkT) ?_))
 all_goals
  go_wp2;go_ret;exact⟨_,rfl,⟨y.heap.size,rfl,bnw⟩,c.alloc c.size _⟩
theorem RD.step{w:World}{b g cp:Nat}{ps:List PTok}{k:Nat}(h:RD w b g cp ps k)(c:k+1<ps.length):RD (w.setCell ⟨b,1,none⟩ (Vi ((k+1:Nat):Int))) b g cp ps (k+1):=by
 have a:b≠g:=by
  rintro rfl;exact Zcx h.own h.cells Dc rfl
 refine⟨?_,ZdA h.own (fun j d=>Go.Deep.blk_setCell_other _ _ _ _ ?_),c⟩
 ·have:=h.cells;simp only[World.setCell,Ybn,this,if_true,Ybf];rfl
 ·have:j=g:=by simpa [Value.ownBlock] using d.symm
  rw[this];exact fun e=>a e.symm
def ZY(t:PTok)(s:BA):Bool:=((t.kd:Int) == 3) && (t.tx.toList == s.toList)
def ZdF(t:PTok)(s:BA):Bool:=((t.kd:Int) == 1) && (t.tx.toList == s.toList)
def Took(w':World)(b g cp:Nat)(ps:List PTok)(k:Nat)(sy:Addr)(at_:Int)(ok:Bool)(v:Value):Prop:=(ok=true/\v=.nilIface/\RD w' b g cp ps (k+1))∨(ok=false/\ZM w' v at_ sy/\RD w' b g cp ps k)
theorem ZC5{w:World}{b g cp:Nat}{ps:List PTok}{k:Nat}(h:RD w b g cp ps k)(s:BA)(x:ZY (ps[k]'h.lt) s=true->k+1<ps.length)(G:ps.length<=6002){sy:Addr}(i:w.cell? ⟨1,0,none⟩=some (.iface 432 (.pointer (some sy)))) :
  Cz 166 #[Vp b,.string s] w fun e u=>∃v,e=.returned v/\Hid (Took u b g cp ps k sy (ps[k]'h.lt).at_ (ZY (ps[k]'h.lt) s) v)/\w.grownBy u (some b):=by
 have H:=hid h;have F:=h.lt;have A:1<w.heap.size:=Yai _ _ i;obtain⟨t,m⟩:∃t,t=ps[k]'h.lt:=⟨_,rfl⟩
 have B:Hid (∀D:k<ps.length,ps[k]'D=t):=fun _=>m.symm;rw[<-m]at x ⊢;clear m h;go_enter func166,ntmps166
 go_wp2_with fail
 refine(ZiF H.out).mono ?_;rintro e y ⟨rfl,j⟩;rw[B];have d:=hid j;clear j
 go_wp2_with fail
 refine(ZlS t s _).mono ?_;rintro e z ⟨rfl,l⟩;have a:=hid (d.trans (l.mono d.size));have c:=hid (RD.below H a);have n:=(a.cell A).trans i;obtain⟨c0,c1,fz,_⟩:=c.all;rw[show(((t.kd:Int) == 3) && (t.tx.toList == s.toList))=ZY t s from rfl];clear l d;cases o:ZY t s
 ·have p:=hid o
  go_wp2_with fail
  refine(ZiZ c.out n).mono ?_;rintro e I ⟨v,rfl,q,f⟩;rw[B]at q;have E:Hid (Took _ b g _ _ k _ _ _ v):=.inr ⟨rfl,q,RD.below c f⟩;have r:Hid (w.grownBy _ (some b)):=Zw (a.trans (f.mono a.size));clear q f;go_wp2;go_ret;exact⟨_,rfl,by rwa [p.out],r⟩
 ·have C:=x o;have p:=hid o;have E:Hid (Took _ b g _ _ k sy t.at_ _ _):=.inl ⟨rfl,rfl,c.step C⟩;have r:Hid (w.grownBy (z.setCell ⟨b,1,none⟩ (Vi ((k+1:Nat)))) (some b)):=ZA (Zw a) (.inl rfl);go_wp2;go_ret;exact⟨_,rfl,by rwa [p.out],r⟩
theorem ZC7{w:World}{b g cp:Nat}{ps:List PTok}{k:Nat}(h:RD w b g cp ps k)(s:BA)(x:ZdF (ps[k]'h.lt) s=true->k+1<ps.length)(G:ps.length<=6002){sy:Addr}(i:w.cell? ⟨1,0,none⟩=some (.iface 432 (.pointer (some sy)))) :
  Cz 167 #[Vp b,.string s] w fun e u=>∃v,e=.returned v/\Hid (Took u b g cp ps k sy (ps[k]'h.lt).at_ (ZdF (ps[k]'h.lt) s) v)/\w.grownBy u (some b):=by
 have H:=hid h;have F:=h.lt;have A:1<w.heap.size:=Yai _ _ i;obtain⟨t,m⟩:∃t,t=ps[k]'h.lt:=⟨_,rfl⟩
 have B:Hid (∀D:k<ps.length,ps[k]'D=t):=fun _=>m.symm;rw[<-m]at x ⊢;clear m h;go_enter func167,ntmps167
 go_wp2_with fail
 refine(ZiF H.out).mono ?_;rintro e y ⟨rfl,j⟩;rw[B];have d:=hid j;clear j
 go_wp2_with fail
 refine(Zp0 t s _).mono ?_;rintro e z ⟨rfl,l⟩;have a:=hid (d.trans (l.mono d.size));have c:=hid (RD.below H a);have n:=(a.cell A).trans i;obtain⟨c0,c1,fz,_⟩:=c.all;rw[show(((t.kd:Int) == 1) && (t.tx.toList == s.toList))=ZdF t s from rfl];clear l d;cases o:ZdF t s
 ·have p:=hid o
  go_wp2_with fail
  refine(ZiZ c.out n).mono ?_;rintro e I ⟨v,rfl,q,f⟩;rw[B]at q;have E:Hid (Took _ b g _ _ k _ _ _ v):=.inr ⟨rfl,q,RD.below c f⟩;have r:Hid (w.grownBy _ (some b)):=Zw (a.trans (f.mono a.size));clear q f;go_wp2;go_ret;exact⟨_,rfl,by rwa [p.out],r⟩
 ·have C:=x o;have p:=hid o;have E:Hid (Took _ b g _ _ k sy t.at_ _ _):=.inl ⟨rfl,rfl,c.step C⟩;have r:Hid (w.grownBy (z.setCell ⟨b,1,none⟩ (Vi ((k+1:Nat)))) (some b)):=ZA (Zw a) (.inl rfl);go_wp2;go_ret;exact⟨_,rfl,by rwa [p.out],r⟩
def ZeX(t:PTok):Bool:=(t.kd:Int) == 1
theorem ZC6{w:World}{b g cp:Nat}{ps:List PTok}{k:Nat}(h:RD w b g cp ps k)(q:ZeX (ps[k]'h.lt)=true->k+1<ps.length)(M:ps.length<=6002){sy:Addr}(j:w.cell? ⟨1,0,none⟩=some (.iface 432 (.pointer (some sy)))) :
  Cz 169 #[Vp b] w fun e u=>∃(x:BA) (v:Value),e=.returned (.tuple #[.string x,v])/\Hid (Took u b g cp ps k sy (ps[k]'h.lt).at_ (ZeX (ps[k]'h.lt)) v/\(ZeX (ps[k]'h.lt)=true->x=(ps[k]'h.lt).tx))/\w.grownBy u (some b):=by
 have H:=hid h;have J:=h.lt;have r:1<w.heap.size:=Yai _ _ j;obtain⟨t,m⟩:∃t,t=ps[k]'h.lt:=⟨_,rfl⟩
 have s:Hid (∀F:k<ps.length,ps[k]'F=t):=fun _=>m.symm;rw[<-m]at q ⊢;clear m h;go_enter func169,ntmps169
 go_wp2_with fail
 refine(ZiF H.out).mono ?_;rintro e y ⟨rfl,a⟩;rw[s];obtain⟨kd,at_,tx,v⟩:=t;obtain⟨W,n⟩:∃W,W=y.alloc (.cells #[Vi kd,Vi at_,.string tx,Vi v] 74):=⟨_,rfl⟩
 have z:=hid n;have A:W.heap[y.heap.size]?=some (.cells #[.int _ _,.int _ _,.string _,.int _ v] _ _):=n▸bnw;have c:Hid _:=n▸a.alloc a.size _;have d:=hid (RD.below H c);have o:=(c.cell r).trans j;obtain⟨c0,c1,fz,K,_⟩:=d.all;have L:=Yaw (Yae.1 H.cells).1 a.size
 have k2:(W.setCell ⟨b,1,none⟩ (Vi ((k+1:Nat)))).cell? ⟨y.heap.size,2,none⟩=some (.string tx):=by
  have:(W.setCell ⟨b,1,none⟩ (Vi ((k+1:Nat)))).heap[y.heap.size]?=W.heap[y.heap.size]?:=Go.Deep.blk_setCell_other _ _ _ _ (by show y.heap.size≠b;omega);unfold World.cell?;rw[this,A];rfl
 have B:Hid (k+1<ps.length->Took ((y.setCell _ _).alloc (.cells #[Vi kd,Vi at_,.string tx,Vi v] 74)) b g _ _ k sy at_ _ _):=fun f=>.inl ⟨rfl,rfl,(RD.step (RD.below H a) f).below Zbal⟩;have C:Hid (w.grownBy ((y.setCell ⟨b,1,none⟩ (Vi ((k+1:Nat)))).alloc (.cells #[Vi kd,Vi at_,.string tx,Vi v] 74)) (some b)):=ZbR (ZA (Zw a) (.inl rfl));generalize i:((kd:Int) == 1)=nb at *
 cases nb
 ·have p:Hid (ZeX ⟨kd,at_,tx,v⟩=false):=i;have D:((kd:Int) != 1)=true:=by rw[bne,i];rfl
  go_wp2_with fail
  rw[<-z];refine(ZiZ d.out o).mono ?_;rintro e N ⟨v3,rfl,E,l⟩;rw[s]at E;have G:Hid (Took _ b g _ _ k _ at_ _ _):=.inr ⟨rfl,E,RD.below d l⟩;have I:Hid (w.grownBy _ (some b)):=Zw (c.trans (l.mono c.size));go_wp2;go_ret2;exact⟨_,_,rfl,p.out▸⟨G.out,fun h=>(by cases h)⟩,I⟩
 ·have p:Hid (ZeX ⟨kd,at_,tx,v⟩=true):=i;have D:((kd:Int) != 1)=false:=by rw[bne,i];rfl
  have f:=q i;rw[z]at k2 c0 c1 fz;go_wp2;go_ret2;exact⟨_,_,rfl,by rw[p];exact⟨B f,fun _=>rfl⟩,C⟩
def opOf(t:PTok):Option Nat:=if ZdF t ⟨#[111,114]⟩then some 0 else if ZY t ⟨#[43]⟩then some 1 else if ZY t ⟨#[45]⟩then some 2 else if ZY t ⟨#[42]⟩then some 3 else if ZY t ⟨#[47]⟩then some 4 else none
def TAt(w:World)(a:Nat)(t:PTok):Prop:=w.heap[a]?=some (.cells #[Vi t.kd,Vi t.at_,.string t.tx,Vi t.v] 74 (0,0))
theorem TAt.all{w:World}{a:Nat}{t:PTok}(h:TAt w a t):w.cell? ⟨a,0,none⟩=some (Vi t.kd)/\w.cell? ⟨a,1,none⟩=some (Vi t.at_)/\w.cell? ⟨a,2,none⟩=some (.string t.tx)/\w.cell? ⟨a,3,none⟩=some (Vi t.v):=by
 unfold TAt at h;refine⟨?_,?_,?_,?_⟩ <;> simp[World.cell?,h]
theorem TAt.below{w w':World}{a:Nat}{t:PTok}(h:TAt w a t)(c:BW w w'):TAt w' a t:=(c.block a (Yae.1 h).1).trans h
theorem ZgT(t:PTok){s:BA}{x:Bool}(f:ZY t s=x)(w0:World){w:World}{a:Nat}(g:TAt w a t)(d:BW w0 w) :
  Cz 102 #[.agg #[Vi t.kd,Vi t.at_,.string t.tx,Vi t.v],.string s] w fun e u=>e=.returned (.bool x)/\Hid (TAt u a t)/\Hid (BW w0 u):=by
 subst f;refine(ZlS t s w).mono ?_;rintro e u ⟨rfl,c⟩;exact⟨rfl,g.below c,d.trans (c.mono d.size)⟩
theorem ZEP(t:PTok){s:BA}{x:Bool}(f:ZdF t s=x)(w0:World){w:World}{a:Nat}(g:TAt w a t)(d:BW w0 w) :
  Cz 109 #[.agg #[Vi t.kd,Vi t.at_,.string t.tx,Vi t.v],.string s] w fun e u=>e=.returned (.bool x)/\Hid (TAt u a t)/\Hid (BW w0 u):=by
 subst f;refine(Zp0 t s w).mono ?_;rintro e u ⟨rfl,c⟩;exact⟨rfl,g.below c,d.trans (c.mono d.size)⟩
theorem ZzQ(t:PTok){w:World} :
  Cz 52 #[.agg #[Vi t.kd,Vi t.at_,.string t.tx,Vi t.v]] w fun e u=>e=.returned (.tuple #[Vi ((opOf t).getD 0:Nat),.bool (opOf t).isSome])/\BW w u:=by
 obtain⟨b1,l⟩:∃x,ZdF t ⟨#[111,114]⟩=x:=⟨_,rfl⟩
 obtain⟨b2,m⟩:∃x,ZY t ⟨#[43]⟩=x:=⟨_,rfl⟩
 obtain⟨b3,n⟩:∃x,ZY t ⟨#[45]⟩=x:=⟨_,rfl⟩
 obtain⟨b4,o⟩:∃x,ZY t ⟨#[42]⟩=x:=⟨_,rfl⟩
 obtain⟨b5,p⟩:∃x,ZY t ⟨#[47]⟩=x:=⟨_,rfl⟩
 have s:Hid (opOf t=if b1 then some 0 else if b2 then some 1 else if b3 then some 2 else if b4 then some 3 else if b5 then some 4 else none):=hid (by unfold opOf;rw[l,m,n,o,p]);have H:Hid (ZdF t _=b1/\ZY t _=b2/\ZY t _=b3/\ZY t _=b4/\ZY t _=b5):=⟨l,m,n,o,p⟩
 have q:Hid (TAt _ w.heap.size t):=bnw;have r:Hid (Below _ w (w.alloc (.cells #[Vi t.kd,Vi t.at_,.string t.tx,Vi t.v] 74))):=Zbal;rw[s];go_enter func52,ntmps52
 go_wp2_with fail
 refine(ZEP t H.1 w q r).mono ?_;rintro e y ⟨rfl,a,c⟩;cases b1
 ·obtain⟨k0,k1,k2,k3⟩:=TAt.all a
  go_wp2_with fail
  refine(ZgT t H.2.1 w a c).mono ?_;rintro e z ⟨rfl,d,f⟩;cases b2
  ·obtain⟨k0,k1,k2,k3⟩:=TAt.all d
   go_wp2_with fail
   refine(ZgT t H.2.2.1 w d f).mono ?_;rintro e B ⟨rfl,g,h⟩;cases b3
   ·obtain⟨k0,k1,k2,k3⟩:=TAt.all g
    go_wp2_with fail
    refine(ZgT t H.2.2.2.1 w g h).mono ?_;rintro e C ⟨rfl,i,j⟩;cases b4
    ·obtain⟨k0,k1,k2,k3⟩:=TAt.all i
     go_wp2_with fail
     refine(ZgT t H.2.2.2.2 w i j).mono ?_;rintro e D ⟨rfl,A,k⟩;cases b5
     ·go_wp2;go_ret2;exact⟨rfl,k⟩
     ·go_wp2;go_ret2;exact⟨rfl,k⟩
    ·go_wp2;go_ret2;exact⟨rfl,j⟩
   ·go_wp2;go_ret2;exact⟨rfl,h⟩
  ·go_wp2;go_ret2;exact⟨rfl,f⟩
 ·go_wp2;go_ret2;exact⟨rfl,c⟩
def Zci:List PTok->List Tok->Prop
 | [],[]=>True
 | p::ps,t::ts=>Zdf p t/\Zci ps ts
 | _,_=>False
theorem Zci.snoc:∀ {ps:List PTok} {ts:List Tok} {p:PTok} {t:Tok},Zci ps ts->Zdf p t->Zci (ps++[p]) (ts++[t])
 | [],[],_,_,_,h=>⟨h,trivial⟩
 | _::ps,_::ts,_,_,h,a=>⟨h.1,Zci.snoc h.2 a⟩
 | [],_::_,_,_,h,_=>h.elim
 | _::_,[],_,_,h,_=>h.elim
theorem Zci.length:∀ {ps:List PTok} {ts:List Tok},Zci ps ts->ps.length=ts.length
 | [],[],_=>rfl
 | _::ps,_::ts,h=>by rw[Yaj,Yaj,Zci.length h.2]
 | [],_::_,h=>h.elim
 | _::_,[],h=>h.elim
theorem Zx1{l:LB}{n i:Nat}{t:Tok}{e:Nat}(a:Zk l i=(t,e))(c:¬(t.jj=0∨t.jj=5)):ZN l (n+1) i=t::ZN l n e:=by
 show(if (Zk l i).1.jj=0∨(Zk l i).1.jj=5 then [(Zk l i).1] else (Zk l i).1::ZN l n (Zk l i).2)=_
 simp_all
theorem Zx0{l:LB}{n i:Nat}{t:Tok}{e:Nat}(a:Zk l i=(t,e))(c:t.jj=0∨t.jj=5):ZN l (n+1) i=[t]:=by
 show(if (Zk l i).1.jj=0∨(Zk l i).1.jj=5 then [(Zk l i).1] else (Zk l i).1::ZN l n (Zk l i).2)=_
 simp_all
def Zct(s:BA)(ps:List PTok)(at_:Nat):Prop:=at_<=s.size/\ps.length<=at_/\∃ts m,ZN (bl s) ((bl s).length+1) 0=ts++ZN (bl s) m at_/\s.size+1<=m+at_/\Zci ps ts
theorem Zct.start(s:BA):Zct s [] 0:=⟨Yag _,Yac _,[],(bl s).length+1,rfl,by rw[Zd];omega,trivial⟩
theorem Zct.skip{s:BA}{ps:List PTok}{at_:Nat}(h:Zct s ps at_)(a:at_<s.size)(c:s[at_]=32):Zct s ps (at_+1):=by
 obtain⟨_,f,ts,m,d,g,e⟩:=h;refine⟨a,by omega,ts,m,?_,by omega,e⟩;rw[d]
 congr 1
 cases m with
 | zero=>rfl
 | succ m=>
  show(if (Zk (bl s) at_).1.jj=0∨(Zk (bl s) at_).1.jj=5 then [(Zk (bl s) at_).1] else (Zk (bl s) at_).1::ZN (bl s) m (Zk (bl s) at_).2)=_;rw[Zx9 s c];rfl
theorem Zct.token{s:BA}{ps:List PTok}{at_:Nat}(h:Zct s ps at_){t:Tok}{e:Nat}(d:Zk (bl s) at_=(t,e))(f:¬(t.jj=0∨t.jj=5)){p:PTok}(i:Zdf p t):Zct s (ps++[p]) e:=by
 obtain⟨l,n,ts,m,j,o,k⟩:=h;have c:=Zig _ _ (by rwa [Zd]);rw[d]at c;have g:=c.1 (fun h=>f (.inl h));have a:=c.2;rw[Zd]at a;simp only at g a;obtain⟨m',rfl⟩:∃m',m=m'+1:=⟨m - 1,by omega⟩
 refine⟨a,by simp;omega,ts++[t],m',?_,by omega,k.snoc i⟩;rw[j,Zx1 d f,Yan];rfl
theorem Zct.done{s:BA}{ps:List PTok}{at_:Nat}(h:Zct s ps at_){t:Tok}{e:Nat}(a:Zk (bl s) at_=(t,e))(c:t.jj=0∨t.jj=5){p:PTok}(d:Zdf p t):Zci (ps++[p]) (ZN (bl s) ((bl s).length+1) 0):=by
 obtain⟨i,j,ts,m,f,k,g⟩:=h;obtain⟨m',rfl⟩:∃m',m=m'+1:=⟨m - 1,by omega⟩
 rw[f,Zx0 a c];exact g.snoc d
theorem ZqF(s:BA):Zk (bl s) s.size=(⟨0,[],s.size⟩,s.size):=by
 unfold Zk;have hd:(bl s).drop s.size=[]:=Yb8 (by constructor<;>omega);rw[hd];show lexJ (bl s) s.size=_;unfold lexJ;rw[hd]
theorem Zx2{s:BA}{k:Nat}{h:k<s.size}(hd:ZC s[k]=true):Zk (bl s) k=(if (ZQ 1000000000 (((bl s).drop k).take (run ZC ((bl s).drop k)))).isSome then ⟨1,((bl s).drop k).take (run ZC ((bl s).drop k)),k⟩else ⟨5,[],k⟩,k+run ZC ((bl s).drop k)):=by
 have a:s[k]≠32:=by rintro e;rw[e]at hd;revert hd;decide
 rw[ZjD s k h a];unfold lexC;rw[if_pos hd,<-ZdW s k h]
theorem Zx3{s:BA}{k:Nat}{h:k<s.size}(hd:ZC s[k]=false)(a:Zp s[k]=true):Zk (bl s) k=(if 8<run Zp ((bl s).drop k)then ⟨5,[],k⟩else ⟨2,((bl s).drop k).take (run Zp ((bl s).drop k)),k⟩,k+run Zp ((bl s).drop k)):=by
 have c:s[k]≠32:=by rintro e;rw[e]at a;revert a;decide
 rw[ZjD s k h c];unfold lexC;rw[if_neg (by simp_all),if_pos a,<-ZdW s k h]
theorem ZdY(s:BA)(l:LB):(s.toList == l)=decide (l=bl s):=by
 rw[Zbt,Ybh,beq_iff_eq,decide_eq_true_iff];exact⟨fun h=>h.symm,fun h=>h.symm⟩
theorem ZlO (w : LB) : ∀ l : List (LB), (idx w l).isSome = l.any (fun x => decide (x = w))
  | []=>rfl
  | x :: l => by
    unfold idx;rw[List.any_cons];by_cases h:x=w
    · rw[if_pos h];simp[h]
    · rw[if_neg h,Option.isSome_map,ZlO w l];simp[h]
theorem ZpX(s:BA)(w:World) :
  Cz 104 #[.string s] w fun e u=>e=.returned (.bool (idx (bl s) ZW).isSome)/\u=w:=by
 have e1:=ZdY s [115,117,109];have e2:=ZdY s [109,97,120];have e3:=ZdY s [109,105,110];have e4:=ZdY s [99,111,117,110,116];have a:Hid ((idx (bl s) ZW).isSome=(decide _ || (decide _ || (decide _ || (decide _ || false))))):=ZlO _ _;rw[a];generalize decide ([115,117,109]=bl s)=b1 at *
 generalize decide ([109,97,120]=bl s)=b2 at *
 generalize decide ([109,105,110]=bl s)=b3 at *
 generalize decide ([99,111,117,110,116]=bl s)=b4 at *
 cases b1
 ·cases b2
  ·cases b3
   ·cases b4
    ·go_enter func104,ntmps104;go_wp2;go_ret;exact⟨rfl,rfl⟩
    ·go_enter func104,ntmps104;go_wp2;go_ret;exact⟨rfl,rfl⟩
   ·go_enter func104,ntmps104;go_wp2;go_ret;exact⟨rfl,rfl⟩
  ·go_enter func104,ntmps104;go_wp2;go_ret;exact⟨rfl,rfl⟩
 ·go_enter func104,ntmps104;go_wp2;go_ret;exact⟨rfl,rfl⟩
theorem ZpZ(s:BA)(w:World) :
  Cz 106 #[.string s] w fun e u=>e=.returned (.bool (idx (bl s) Z0).isSome)/\u=w:=by
 have e1:=ZdY s [116,111,116,97,108];have e2:=ZdY s [112,101,97,107];have e3:=ZdY s [108,111,119];have e4:=ZdY s [115,105,122,101];have e5:=ZdY s [114,105,115,101];have a:Hid ((idx (bl s) Z0).isSome=(decide _ || (decide _ || (decide _ || (decide _ || (decide _ || false)))))):=ZlO _ _;rw[a];generalize decide ([116,111,116,97,108]=bl s)=b1 at *
 generalize decide ([112,101,97,107]=bl s)=b2 at *
 generalize decide ([108,111,119]=bl s)=b3 at *
 generalize decide ([115,105,122,101]=bl s)=b4 at *
 generalize decide ([114,105,115,101]=bl s)=b5 at *
 cases b1
 ·cases b2
  ·cases b3
   ·cases b4
    ·cases b5
     ·go_enter func106,ntmps106;go_wp2;go_ret;exact⟨rfl,rfl⟩
     ·go_enter func106,ntmps106;go_wp2;go_ret;exact⟨rfl,rfl⟩
    ·go_enter func106,ntmps106;go_wp2;go_ret;exact⟨rfl,rfl⟩
   ·go_enter func106,ntmps106;go_wp2;go_ret;exact⟨rfl,rfl⟩
  ·go_enter func106,ntmps106;go_wp2;go_ret;exact⟨rfl,rfl⟩
 ·go_enter func106,ntmps106;go_wp2;go_ret;exact⟨rfl,rfl⟩
theorem Zur(s:BA)(w:World) :
  Cz 171 #[.string s] w fun e u=>e=.returned (.bool (!decide (wOr=bl s) && !decide (wBy=bl s) && !(idx (bl s) ZW).isSome && !(idx (bl s) Z0).isSome))/\u=w:=by
 have e1:=ZdY s [111,114];have e2:=ZdY s [98,121];have a:=hid (ZpX s);have c:=hid (ZpZ s);show Calls _ _ _ _ fun e u=>e=.returned (.bool (!decide ([111,114]=bl s) && !decide ([98,121]=bl s) && !(idx (bl s) ZW).isSome && !(idx (bl s) Z0).isSome))/\u=w;generalize decide ([111,114]=bl s)=b1 at *
 generalize decide ([98,121]=bl s)=b2 at *
 generalize(idx (bl s) ZW).isSome=b3 at *
 generalize(idx (bl s) Z0).isSome=b4 at *
 cases b1 <;> cases b2 <;> cases b3 <;> cases b4
 all_goals
  go_enter func171,ntmps171
  go_wp2_with (first|(go_at_call 104;refine cret (a.out _) ?_)|(go_at_call 106;refine cret (c.out _) ?_))
  go_ret;exact⟨rfl,rfl⟩
def Zdt(t:Tok):Prop:=(t.jj=2->t.txt.all Zp=true)/\(t.jj=4->t.txt.all (fun c=>!Zp c)=true)
def ZeQ:List Tok->Prop
 | []=>False
 | [t]=>t.jj=0∨t.jj=5
 | t::u::l=>(t.jj=1∨t.jj=2∨t.jj=3∨t.jj=4)/\Zdt t/\ZeQ (u::l)
theorem ZeQ.tail{ts:List Tok}(h:ZeQ ts)(a:¬((hd ts).jj=0∨(hd ts).jj=5)):ZeQ ts.tail/\1<ts.length:=by
 match ts,h with
 | [t],h=>exact absurd h a
 | t::u::l,h=>exact⟨h.2.2,by simp⟩
theorem ZeQ.head{ts:List Tok}(h:ZeQ ts):Zdt (hd ts)/\0<ts.length/\(hd ts).jj<=5:=by
 match ts,h with
 | [t],h=>
  have a:t.jj=0∨t.jj=5:=h;refine⟨⟨fun e=>?_,fun e=>?_⟩,by simp,?_⟩
  ·exact absurd (show t.jj=2 from e) Om
  ·exact absurd (show t.jj=4 from e) Om
  ·show t.jj<=5;omega
 | t::u::l,h=>exact⟨h.2.1,by simp,by have:=h.1;show t.jj<=5;omega⟩
theorem ZkF{p:PTok}{l:List PTok}{ts:List Tok}(h:Zci (p::l) ts):Zdf p (hd ts)/\Zci l ts.tail:=by
 match ts,h with
 | t::m,h=>exact h
structure RS where
 b:Nat
 g:Nat
 cp:Nat
 ps:List PTok
 sy:Addr
 dp:Addr
structure RK (w:World) (R:RS) (k:Nat) (ts:List Tok):Prop where
 rd:RD w R.b R.g R.cp R.ps k
 all:Zci (R.ps.drop k) ts
 wf:ZeQ ts
 len:R.ps.length<=302
 sy:w.cell? ⟨1,0,none⟩=some (.iface 432 (.pointer (some R.sy)))
 dp:w.cell? ⟨2,0,none⟩=some (.iface 432 (.pointer (some R.dp)))
theorem RK.lt{w:World}{R:RS}{k:Nat}{ts:List Tok}(h:RK w R k ts):k<R.ps.length:=h.rd.lt
theorem RK.tok{w:World}{R:RS}{k:Nat}{ts:List Tok}(h:RK w R k ts):Zdf (R.ps[k]'h.lt) (hd ts):=by
 have a:=h.all;rw[List.drop_eq_getElem_cons h.lt]at a;exact(ZkF a).1
theorem RK.size{w:World}{R:RS}{k:Nat}{ts:List Tok}(h:RK w R k ts):k+ts.length=R.ps.length:=by
 have:=h.all.length;rw[Ybv]at this;have:=h.lt;omega
theorem Zn6{w:World}{b g:Nat}{c0 c1:Value}{u v:Value}{t:TypeId}(a:w.heap[b]?=some (.cells #[c0,c1] t (0,0)))(c:w.cell? ⟨g,0,none⟩=some v)(d:c0≠v)(_:u=u):g≠b:=by
 rintro rfl;simp[World.cell?,a]at c
 simp_all
theorem RK.glob{w:World}{R:RS}{k:Nat}{ts:List Tok}(h:RK w R k ts):1≠R.b/\2≠R.b:=
 ⟨Zn6 (u:=.nilIface) h.rd.cells h.sy (by simp) rfl,Zn6 (u:=.nilIface) h.rd.cells h.dp (by simp) rfl⟩
theorem RK.below{w w':World}{R:RS}{k:Nat}{ts:List Tok}(h:RK w R k ts)(a:BW w w'):RK w' R k ts:=
 ⟨h.rd.below a,h.all,h.wf,h.len,(a.cell (Yai _ _ h.sy)).trans h.sy,(a.cell (Yai _ _ h.dp)).trans h.dp⟩
theorem RK.blocks{w w':World}{R:RS}{k:Nat}{ts:List Tok}(h:RK w R k ts)(a:∀j,j<w.heap.size->(j=R.b∨j=R.g∨j=1∨j=2)->w'.heap[j]?=w.heap[j]?):RK w' R k ts:=by
 have c:=Yai _ _ h.sy;have d:=Yai _ _ h.dp;refine⟨⟨?_,?_,h.lt⟩,h.all,h.wf,h.len,?_,?_⟩
 ·exact(a _ (Yae.1 h.rd.cells).1 (.inl rfl)).trans h.rd.cells
 ·exact ZdA h.rd.own (fun j e => by
    have:j=R.g:=by simpa [Value.ownBlock] using e.symm
    subst this;exact a _ (Z1 h.rd.own) (.inr (.inl rfl)))
 ·exact(Ycc (a _ c (.inr (.inr (.inl rfl))))).trans h.sy
 ·exact(Ycc (a _ d (.inr (.inr (.inr rfl))))).trans h.dp
theorem RK.step{w:World}{R:RS}{k:Nat}{ts:List Tok}(h:RK w R k ts)(c:¬((hd ts).jj=0∨(hd ts).jj=5)):RK (w.setCell ⟨R.b,1,none⟩ (Vi ((k+1:Nat):Int))) R (k+1) ts.tail:=by
 obtain⟨d,e⟩:=h.wf.tail c;have f:=h.size;obtain⟨g1,g2⟩:=h.glob;refine⟨h.rd.step Om,?_,d,h.len,?_,?_⟩
 ·have a:=h.all;rw[List.drop_eq_getElem_cons h.lt]at a;exact(ZkF a).2
 ·exact(Ycc (Go.Deep.blk_setCell_other _ _ _ _ g1)).trans h.sy
 ·exact(Ycc (Go.Deep.blk_setCell_other _ _ _ _ g2)).trans h.dp
theorem ZM.lt{w:World}{v:Value}{p:Int}{a:Addr}(h:ZM w v p a):∃fa:Nat,v=.iface 81 (Vp fa):=by
 obtain⟨fa,c,_⟩:=h;simp_all
theorem ZM.grown{w w':World}{v:Value}{p:Int}{a:Addr}(h:ZM w v p a){b:Nat}(f:w.grownBy w' (some b)){c:Array Value}{t:TypeId}{fr:Nat×Nat}(i:w.heap[b]?=some (.cells c t fr))(j:t≠85):ZM w' v p a:=by
 obtain⟨fa,g,d⟩:=h;refine⟨fa,g,(f.block _ (Yae.1 d).1 ?_).trans d⟩;intro e
 simp_all
def Z9(w:World)(R:RS)(e:Nat×Nat)(v:Value):Prop:=(e.1=2/\ZM w v e.2 R.sy)∨(e.1=3/\ZM w v e.2 R.dp)
theorem Z9.below{w w':World}{R:RS}{e:Nat×Nat}{v:Value}(h:Z9 w R e v)(d:BW w w'):Z9 w' R e v:=by
 rcases h with ⟨a,c⟩|⟨a,c⟩
 ·exact .inl ⟨a,c.below d⟩
 ·exact .inr ⟨a,c.below d⟩
theorem Z9.shape{w:World}{R:RS}{e:Nat×Nat}{v:Value}(h:Z9 w R e v):∃fa:Nat,v=.iface 81 (Vp fa):=by
 rcases h with ⟨_,a⟩|⟨_,a⟩ <;> exact a.lt
def Res{α:Type}(R:RS)(V:World->α->Prop)(w:World)(r:Out α)(v:Value):Prop:=match r with
 | .error e=>Z9 w R e v
 | .ok x=>v=.nilIface/\(∃k,RK w R k x.2)/\V w x.1
theorem Ze0{k:Nat}(h:k<=5):(pk k=3 ↔ k=4)/\(pk k=1 ↔ k=2)/\(pk k=2 ↔ k=3)/\(pk k=0 ↔ k=1)/\(pk k=4 ↔ k=0):=by
 unfold pk
 match k,h with
 | 0,_=>decide
 | 1,_=>decide
 | 2,_=>decide
 | 3,_=>decide
 | 4,_=>decide
 | 5,_=>decide
theorem Zrg {l : LB} (d : l.all Zp = true) (e : l.all (fun c => !Zp c) = true) : l = [] := by
  cases l with
  | nil=>rfl
  | cons a l=>
    simp_all
theorem ZdP {p : PTok} {t : Tok} (h : Zdf p t) (f : Zdt t) (g : t.jj <= 5) {s : BA} (l : (bl s).all (fun c => !Zp c) = true) (d : bl s ≠ []) : ZY p s = isT (bl s) t := by
  obtain⟨i,_,j,_⟩:=h;unfold ZY isT;rw[i,Zbt,Zbt,j];have m:=(Ze0 g).1;by_cases a:t.txt=bl s
  · rw[beq_iff_eq.2 a,Yd3,Yd3]
    have k:t.jj≠2:=fun e=>d (by rw[<-a];exact Zrg (f.1 e) (by simp_all));rw[beq_eq_false_iff_ne.2 k,Yft,Ybh,beq_iff_eq,beq_iff_eq];omega
  · rw[beq_eq_false_iff_ne.2 a,Ydi,Ydi]
theorem Znz{p:PTok}{t:Tok}(h:Zdf p t)(d:Zdt t)(f:t.jj<=5){s:BA}(k:(bl s).all Zp=true)(c:bl s≠[]):ZdF p s=isT (bl s) t:=by
 obtain⟨g,_,i,_⟩:=h;unfold ZdF isT;rw[g,Zbt,Zbt,i];have l:=(Ze0 f).2.1;by_cases a:t.txt=bl s
 ·rw[beq_iff_eq.2 a,Yd3,Yd3];have j:t.jj≠4:=fun e=>c (by rw[<-a];exact Zrg (by simp_all) (d.2 e));rw[beq_eq_false_iff_ne.2 j,Yf4,Ybh,beq_iff_eq,beq_iff_eq];omega
 ·rw[beq_eq_false_iff_ne.2 a,Ydi,Ydi]
theorem Zd3{s:LB}{t:Tok}(h:isT s t=true):¬(t.jj=0∨t.jj=5):=by
 unfold isT at h
 simp_all;omega
theorem Took.res{w w':World}{R:RS}{k:Nat}{ts:List Tok}{ok:Bool}{v:Value}(h:RK w R k ts)(c:w.grownBy w' (some R.b))(j:Took w' R.b R.g R.cp R.ps k R.sy (R.ps[k]'h.lt).at_ ok v)(l:ok=true->¬((hd ts).jj=0∨(hd ts).jj=5)){α:Type}{V:World->α->Prop}{a:α}(m:ok=true->V w' a) :
  Res R V w' (if ok then .ok (a,ts.tail)else .error (2,(hd ts).at_)) v:=by
 have o:=h.tok.2.1;rcases j with ⟨rfl,rfl,d⟩|⟨rfl,p,d⟩
 ·have f:=l rfl;obtain⟨n,q⟩:=h.wf.tail f;obtain⟨g1,g2⟩:=h.glob;refine⟨rfl,⟨k+1,d,?_,n,h.len,?_,?_⟩,m rfl⟩
  ·have i:=h.all;rw[List.drop_eq_getElem_cons h.lt]at i;exact(ZkF i).2
  ·exact(Ycc (c.block _ (Yai _ _ h.sy) (fun e=>g1 (Yax e)))).trans h.sy
  ·exact(Ycc (c.block _ (Yai _ _ h.dp) (fun e=>g2 (Yax e)))).trans h.dp
 constructor<;>simp_all
theorem ZdT {w : World} {R : RS} {k : Nat} {ts : List Tok} (h : RK w R k ts) (s : BA) (i : (bl s).all (fun c => !Zp c) = true) (f : bl s ≠ []) :
    Cz 166 #[Vp R.b,.string s] w fun e u=>∃v,e=.returned v/\Hid (Res R (fun _ (_:Unit)=>True) u (Zq (bl s) ts) v)/\w.grownBy u (some R.b):=by
  have d:=ZdP h.tok h.wf.head.1 h.wf.head.2.2 i f
  have j : ZY _ s = true -> k + 1 < R.ps.length := fun e => by
    have:=(h.wf.tail (Zd3 (d.symm.trans e))).2;have:=h.size;omega
  refine(ZC5 h.rd s j (by have:=h.len;omega) h.sy).mono ?_;rintro e u ⟨v,rfl,l,g⟩;refine⟨v,rfl,?_,g⟩;have:=l.res (V:=fun _ _=>True) (a:=()) h g (fun e=>Zd3 (d.symm.trans e)) (fun _=>trivial);rw[d]at this;exact this
theorem ZC8{w:World}{R:RS}{k:Nat}{ts:List Tok}(h:RK w R k ts){s:BA}(g:(bl s).all Zp=true)(d:bl s≠[]) :
  Cz 167 #[Vp R.b,.string s] w fun e u=>∃v,e=.returned v/\Hid (Res R (fun _ (_:Unit)=>True) u (Zq (bl s) ts) v)/\w.grownBy u (some R.b):=by
 have c:=Znz h.tok h.wf.head.1 h.wf.head.2.2 g d
 have i : ZdF _ s = true -> k + 1 < R.ps.length := fun e => by
   have:=(h.wf.tail (Zd3 (c.symm.trans e))).2;have:=h.size;omega
 refine(ZC7 h.rd s i (by have:=h.len;omega) h.sy).mono ?_;rintro e u ⟨v,rfl,j,f⟩;refine⟨v,rfl,?_,f⟩;have:=j.res (V:=fun _ _=>True) (a:=()) h f (fun e=>Zd3 (c.symm.trans e)) (fun _=>trivial);rw[c]at this;exact this
theorem Zzc{p:PTok}{t:Tok}(h:Zdf p t)(a:t.jj<=5):ZeX p=decide (t.jj=2):=by
 unfold ZeX;rw[h.1,Ybh,beq_iff_eq,decide_eq_true_iff];have c:=(Ze0 a).2.1;omega
theorem Zkk{w:World}{R:RS}{k:Nat}{ts:List Tok}(h:RK w R k ts) :
  Cz 169 #[Vp R.b] w fun e u=>∃(x:BA) (v:Value),e=.returned (.tuple #[.string x,v])/\Hid (Res R (fun _ a=>bl x=a) u (ZH 2 ts) v)/\w.grownBy u (some R.b):=by
 have f:=Zzc h.tok h.wf.head.2.2
 have d : ZeX _ = true -> ¬ ((hd ts).jj = 0 ∨ (hd ts).jj = 5) := fun e => by
   have:=of_decide_eq_true (f.symm.trans e);omega
 have j : ZeX _ = true -> k + 1 < R.ps.length := fun e => by
   have:=(h.wf.tail (d e)).2;have:=h.size;omega
 refine(ZC6 h.rd j (by have:=h.len;omega) h.sy).mono ?_;rintro e u ⟨x,v,rfl,g,i⟩;refine⟨x,v,rfl,?_,i⟩;have:=g.1.res (V:=fun _ a=>bl x=a) h i d (fun e=>g.2 e▸h.tok.2.2.1);rw[f]at this;unfold ZH;by_cases c:(hd ts).jj=2
 ·rw[if_pos c];rw[decide_eq_true c]at this;exact this
 ·rw[if_neg c];rw[decide_eq_false c]at this;exact this
theorem Zfi{w:World}{R:RS}{k:Nat}{ts:List Tok}(h:RK w R k ts) :
  Cz 30 #[Vp R.b] w fun e u=>∃v,e=.returned v/\Hid (Z9 u R (2,(hd ts).at_) v)/\BW w u:=by
 refine(ZiZ h.rd h.sy).mono ?_;rintro e u ⟨v,rfl,a,c⟩;refine⟨v,rfl,.inl ⟨rfl,?_⟩,c⟩;have:=a.out;rw[h.tok.2.1]at this;omega
theorem Zee{w:World}{R:RS}{k:Nat}{ts:List Tok}(h:RK w R k ts) :
  Cz 29 #[Vp R.b] w fun e u=>∃t:PTok,e=.returned (.agg #[Vi t.kd,Vi t.at_,.string t.tx,Vi t.v])/\Hid (Zdf t (hd ts))/\BW w u:=by
 refine(ZiF h.rd).mono ?_;rintro e u ⟨rfl,a⟩;exact⟨_,rfl,h.tok,a⟩
theorem Zf6 {t : PTok} {u : Tok} (h : Zdf t u) (d : Zdt u) (f : u.jj <= 5) (s : BA) (g : (bl s).all (fun c => !Zp c) = true) (a : bl s ≠ []) (w : World) :
    Cz 102 #[.agg #[Vi t.kd,Vi t.at_,.string t.tx,Vi t.v],.string s] w fun e i=>e=.returned (.bool (isT (bl s) u))/\BW w i:=by
  rw[<-ZdP h d f g a];exact ZlS t s w
end Go.Proofs.YtcdgkkfipdoeeaaGreatDoor

/- Parts. -/
import Derived.Test.YtcdgkkfipdoeeaaGreatDoorT02
set_option maxRecDepth 100000
set_option maxHeartbeats 2000000
namespace Go.Proofs.YtcdgkkfipdoeeaaGreatDoor
open Go.RowKit LS
def opS(o:Nat):List UInt8:=[[43],[45],[42],[47]].getD o []
def Zbk(a:Nd)(pl pr:Nat->List UInt8):List UInt8:=
 if a.kind=0 then decS a.n.toNat
 else if a.kind=1 then selS a
 else if a.kind=2 then ZV.getD a.op []++[40]++selS a++[91]++decS a.n.toNat++[93,41]
 else if a.kind=3 then [45]++pl 4
 else if a.kind=5 then ZG.getD a.op []++[32,98,121,32,40]++commas a.by_++[41,32,40]++pl 1++[41]
 else if a.kind=6 then pl 1++[32,111,114,32]++pr 2
 else pl (ZC a)++[32]++opS a.op++[32]++pr (ZC a+1)
def Zdn(b:Bool)(s:List UInt8):List UInt8:=if b then [40]++s++[41] else s
def Zm:Tr->Nat->List UInt8
 | .nil,_=>[]
 | .node _ _ a l r,must=>Zdn (decide (ZC a<must)) (Zbk a (Zm l) (Zm r))
theorem ZgO:∀(k n:Nat),n<10 ^ (k+1)->(decS n).length<=k+1
 | 0,n,h=>by rw[ZgP (by simp at h;omega)];simp
 | k + 1, n, h => by
   by_cases h9:n<=9
   · rw[ZgP h9];simp
   · rw[ZhG h9,List.length_append]
     have:=ZgO k (n / 10) (by rw[Nat.pow_succ]at h;omega)
     simp
     omega
theorem Zmt(a b:List UInt8)(l:List (List UInt8)):commas (a::b::l)=a++44::commas (b::l):=rfl
theorem Zeq:∀(l:List (List UInt8)),(commas l).length<=nw l
 | []=>Nat.le_refl _
 | [a]=>by simp[commas,nw]
 | a :: b :: l => by
   have:=Zeq (b::l)
   rw[Zmt,List.length_append,List.length_cons]
   simp only[nw]at *
   omega
theorem Zr0(c:List UInt8×List UInt8×Bool):(Zbo c).length<=c.1.length+c.2.1.length+4:=by
 unfold Zbo
 split <;> simp <;> omega
theorem ZkR:∀(l:List (List UInt8×List UInt8×Bool)),nw (l.map Zbo)<=cw l
 | []=>Nat.le_refl _
 | c :: l => by
   have:=ZkR l
   have:=Zr0 c
   simp only[List.map_cons,nw,cw]
   omega
theorem Zpp(a:Nd):(selS a).length<=a.name.length+cw a.conds+2:=by
 unfold selS
 split
 ·omega
 ·have h1:=Zeq (a.conds.map Zbo)
  have h2:=ZkR a.conds
  simp only[List.length_append,List.length_cons,List.length_nil]
  omega
theorem ZgT(ws:List (List UInt8))(h:∀x∈ws,x.length<=5)(i:Nat):(ws.getD i []).length<=5:=by
 rw[List.getD_eq_getElem?_getD]
 cases hi:ws[i]? with
 | none=>simp
 | some x=>exact h x (List.mem_of_getElem? hi)
theorem ZmB{a:Nd}(hn:a.n<=1000000000){pl pr:Nat->List UInt8}{x y:Nat}(hl:∀m,(pl m).length<=x)(hr:∀m,(pr m).length<=y):(Zbk a pl pr).length+2<=ownW a+x+y:=by
 have hd1:a.n.toNat<=1000000000:=by omega
 have hd2:(10:Nat) ^ 10=10000000000:=by decide
 have hd:(decS a.n.toNat).length<=10:=ZgO 9 _ (by omega)
 have hs:=Zpp a
 have hc:=Zeq a.by_
 have ho:=ZgT ZV (by decide) a.op
 have hg:=ZgT ZG (by decide) a.op
 have hop:=ZgT [[43],[45],[42],[47]] (by decide) a.op
 have l1:=hl 1;have l4:=hl 4;have lt:=hl (ZC a)
 have r2:=hr 2;have rt:=hr (ZC a+1)
 unfold Zbk ownW
 split
 ·omega
 ·split
  ·omega
  ·split
   ·simp only[List.length_append,List.length_cons,List.length_nil];omega
   ·split
    ·simp only[List.length_append,List.length_cons,List.length_nil];omega
    ·split
     ·simp only[List.length_append,List.length_cons,List.length_nil];omega
     ·split
      ·simp only[List.length_append,List.length_cons,List.length_nil];omega
      ·unfold opS
       simp only[List.length_append,List.length_cons,List.length_nil];omega
theorem Zz9(b:Bool)(s:List UInt8):(Zdn b s).length<=s.length+2:=by
 unfold Zdn;split <;> simp <;> omega
theorem ZeA:∀(t:Tr) (m:Nat),wfT t->(Zm t m).length<=wT t
 | .nil,_,_=>Nat.le_refl _
 | .node x y a l r, m, h => by
   have hl:=ZeA l
   have hr:=ZeA r
   have h1:=ZmB h.2.2.2.2.2.1 (pl:=Zm l) (pr:=Zm r) (x:=wT l) (y:=wT r) (fun m=>hl m h.2.2.2.2.2.2.2.2.2.2.1) (fun m=>hr m h.2.2.2.2.2.2.2.2.2.2.2)
   have h2:=Zz9 (decide (ZC a<m)) (Zbk a (Zm l) (Zm r))
   unfold Zm wT
   omega
theorem Zmv(l:List (List UInt8))(a:List UInt8):commas (l++[a])=(if l.isEmpty then [] else commas l++[44])++a:=by
 induction l with
 | nil=>rfl
 | cons b l ih=>
  cases l with
  | nil=>simp[commas]
  | cons c l=>
   have e:commas (b::c::l++[a])=b++44::commas (c::l++[a]):=rfl
   rw[e,ih]
   simp[commas]
def Zdy(l:List UInt8):List UInt8×Nat×Nat:=match ZB l with
 | .error x=>([],x.1,x.2)
 | .ok t=>(Zm t 1,0,0)
end Go.Proofs.YtcdgkkfipdoeeaaGreatDoor
namespace Go.Proofs.YtcdgkkfipdoeeaaGreatDoor.LS
open Go Go.RowKit
abbrev Lab:=List UInt8×List UInt8
abbrev El:=List Lab×Int
structure Ser where
 name:List UInt8
 labs:List Lab
 sams:List (Int×Int)
inductive VV where
 | sc (n:Int)
 | vec (l:List El)
def lab1(p:Lab):List UInt8:=p.1++[61]++p.2
def wrt(l:List Lab):List UInt8:=Go.Proofs.YtcdgkkfipdoeeaaGreatDoor.LS.commas (l.map lab1)
def cutV(n:Int):Int:=if 1000000000<n then 1000000000 else if n < -1000000000 then -1000000000 else n
def Zb9:List El->El->List El
 | [],x=>[x]
 | y::l,x=>if Op.bytesLess (wrt x.1) (wrt y.1)then x::y::l else y::Zb9 l x
def Zen:List Lab->List UInt8->List UInt8
 | [],_=>[]
 | p::l,n=>if p.1=n then p.2 else Zen l n
def Zer(s:Ser)(c:List UInt8×List UInt8×Bool):Bool:=!((decide (Zen s.labs c.1=c.2.1)) == c.2.2)
def Zct(a:Nd)(s:Ser):Bool:=a.conds.all (Zer s) && decide (a.name=s.name)
def ZbI(l:List (Int×Int))(n t:Int):List (Int×Int):=l.filter fun x=>decide (t - n<x.1) && decide (x.1<=t)
def maxL:Int->List Int->Int
 | m,[]=>m
 | m,x::l=>maxL (if m<x then x else m) l
def minL:Int->List Int->Int
 | m,[]=>m
 | m,x::l=>minL (if x<m then x else m) l
def Zek(op:Nat)(l:List Int):Int:=
 if op=0 then l.sum else if op=1 then maxL (l.headD 0) l else if op=2 then minL (l.headD 0) l else if op=3 then (l.length:Int)else l.getLastD 0 - l.headD 0
def oneV(op:Option Nat)(l:List (Int×Int)):Int:=match op with
 | none=>(l.getLastD (0,0)).2
 | some o=>cutV (Zek o (l.map (·.2)))
def ZdV(st:List Ser)(a:Nd)(op:Option Nat)(size t:Int):List El:=
 st.foldl (fun acc s=>if Zct a s && !(ZbI s.sams size t).isEmpty then Zb9 acc (s.labs,oneV op (ZbI s.sams size t))else acc) []
def twoV(op:Nat)(a b:Int):Int:=if op=0 then cutV (a+b)else if op=1 then cutV (a - b)else if op=2 then cutV (a*b)else if b=0 then 0 else a.tdiv b
def Zfe(op:Nat):VV->VV->VV
 | .sc a,.sc b=>.sc (twoV op a b)
 | .sc a,.vec y=>.vec (y.map fun e=>(e.1,twoV op a e.2))
 | .vec x,.sc b=>.vec (x.map fun e=>(e.1,twoV op e.2 b))
 | .vec x,.vec y=>.vec (x.flatMap fun e=>(y.filter fun f=>decide (wrt e.1=wrt f.1)).map fun f=>(e.1,twoV op e.2 f.2))
def negV:VV->VV
 | .sc a=>.sc (-a)
 | .vec x=>.vec (x.map fun e=>(e.1,-e.2))
def Zz(l:List Lab)(by_:List (List UInt8)):List Lab:=l.filter fun p=>by_.contains p.1
def ZcQ(op:Nat)(by_:List (List UInt8))(all:List El):List El->List El->List El
 | _,[]=>[]
 | pre,e::l=>(if pre.any (fun f=>decide (wrt (Zz f.1 by_)=wrt (Zz e.1 by_)))then [] else [(Zz e.1 by_,cutV (Zek op ((all.filter fun f=>decide (wrt (Zz f.1 by_)=wrt (Zz e.1 by_))).map (·.2))))])++ZcQ op by_ all (pre++[e]) l
def Zec(op:Nat)(by_:List (List UInt8))(l:List El):List El:=(ZcQ op by_ l [] l).foldl Zb9 []
def ZeR:VV->List El
 | .sc _=>[]
 | .vec l=>l
def sayT(st:List Ser)(t:Int):Tr->VV
 | .nil=>.vec []
 | .node _ _ a l r => if a.kind = 0 then .sc a.n else if a.kind = 1 then .vec (ZdV st a none 10 t) else if a.kind = 2 then .vec (ZdV st a (some a.op) a.n t)
   else if a.kind=3 then negV (sayT st t l)else if a.kind=5 then .vec (Zec a.op a.by_ (ZeR (sayT st t l)))
   else if a.kind=6 then (if (ZeR (sayT st t l)).isEmpty then sayT st t r else sayT st t l)else Zfe a.op (sayT st t l) (sayT st t r)
def decI(n:Int):List UInt8:=if n<0 then [45]++decS n.natAbs else decS n.toNat
def elS(e:El):List UInt8:=[32,123]++wrt e.1++[125]++decI e.2
def Zfv(t:Int):VV->List UInt8
 | .sc n=>decI t++[32]++decI n
 | .vec l=>decI t++(l.map elS).flatten
structure Nq where
 op:Nat
 arg:Int
 fs:Option Nat
 sn:Option Nat
instance:DecidableEq Nq:=fun a b=>decidable_of_iff (a.op=b.op/\a.arg=b.arg/\a.fs=b.fs/\a.sn=b.sn) (by cases a;cases b;simp)
def nq0:Nq:=⟨0,0,none,none⟩
def Zg(n:Nq):List Nat:=match n.fs,n.sn with
 | none,_=>[]
 | some a,none=>[a]
 | some a,some b=>[a,b]
def idxN(x:Nq):List Nq->Option Nat
 | []=>none
 | y::l=>if y=x then some 0 else (idxN x l).map (· + 1)
structure Gq where
 fold:Bool
 share:Bool
 nodes:List Nq
 uses:List Nat
 sels:List (Nd×Nat)
 grps:List (List (List UInt8))
def g0(fl:Nat):Gq:=⟨decide (fl % 2=1),decide (fl / 2 % 2=1),[],[],[],[]⟩
def bump(u:List Nat)(n:Nat):List Nat:=u.set n (u.getD n 0+1)
def addQ(x:Nq)(g:Gq):Nat×Gq:=match (if g.share then idxN x g.nodes else none)with
 | some i=>(i,g)
 | none=>(g.nodes.length,{ g with nodes:=g.nodes++[x],uses:=(Zg x).foldl bump (g.uses++[0]) })
def Zcf(v:Int)(g:Gq):Nat×Gq:=addQ ⟨0,v,none,none⟩ g
def Zbh(n:Nat)(g:Gq):Option Int:=if g.fold=true/\(g.nodes.getD n nq0).op=0 then some (g.nodes.getD n nq0).arg else none
def negQ(n:Nat)(g:Gq):Nat×Gq:=match Zbh n g with
 | some v=>Zcf (-v) g
 | none=>addQ ⟨4,0,some n,none⟩ g
def Z0(op x y:Nat)(g:Gq):Nat×Gq:=match Zbh x g,Zbh y g with
 | some u,some v=>Zcf (twoV op u v) g
 | _,_=>addQ ⟨3,op,some x,some y⟩ g
def ZM(x:Nd×Nat):List UInt8:=selS x.1++(if 0<x.2 then [91]++decS x.2++[93] else [])
def Zx(x:Nd×Nat)(g:Gq):Nat×Gq:=match idx (ZM x) (g.sels.map ZM)with
 | some i=>addQ ⟨1,i,none,none⟩ g
 | none=>addQ ⟨1,g.sels.length,none,none⟩ { g with sels:=g.sels++[x] }
def insN(x:List UInt8):List (List UInt8)->List (List UInt8)
 | []=>[x]
 | y::l=>if x=y then y::l else if Op.bytesLess x y then x::y::l else y::insN x l
def ZbC(l:List (List UInt8)):List (List UInt8):=l.foldr insN []
def ZZ(ns:List (List UInt8))(g:Gq):Nat×Gq:=match idx (commas (ZbC ns)) (g.grps.map commas)with
 | some i=>(i,g)
 | none=>(g.grps.length,{ g with grps:=g.grps++[ZbC ns] })
def ZbJ(a:Nd):Nd:=⟨1,0,0,a.name,a.conds,[]⟩
def Zb:Tr->Gq->Nat×Gq
 | .nil,g=>(0,g)
 | .node _ _ a l r,g=>
  if a.kind=0 then Zcf a.n g
  else if a.kind=1 then Zx (ZbJ a,0) g
  else if a.kind=2 then (let p:=Zx (ZbJ a,a.n.toNat) g;addQ ⟨2,a.op,some p.1,none⟩ p.2)
  else if a.kind=3 then (let p:=Zb l g;negQ p.1 p.2)
  else if a.kind=5 then (let p:=Zb l g;let k:=ZZ a.by_ p.2;addQ ⟨5+a.op,k.1,some p.1,none⟩ k.2)
  else (let p:=Zb l g;let q:=Zb r p.2;if a.kind=6 then addQ ⟨10,0,some p.1,some q.1⟩ q.2 else Z0 a.op p.1 q.1 q.2)
structure Cq where
 left:List Nat
 slots:List (Option Int)
 consts:List Int
 ins:List (Nat×Nat)
def c0(g:Gq):Cq:=⟨g.uses,List.replicate 16 none,[],[]⟩
def Zh(op arg:Nat)(c:Cq):Cq:={ c with ins:=c.ins++[(op,arg)] }
def ZF(n:Nat)(l:List (Option Int)):Option Nat:=(List.range 16).find? fun s=>decide (l.getD s none=some (n:Int))
def ZbE(l:List (Option Int)):Option Nat:=(List.range 16).find? fun s=>decide (l.getD s none=none)
def ZT(n s:Nat)(c:Cq):Cq:=let d:=Zh 12 s c;{ d with slots:=d.slots.set s (some (n:Int)) }
def Zcc(nodes:List Nq)(n:Nat):Bool:=
 let x:=nodes.getD n nq0
 let y:=if x.op=4 then nodes.getD (x.fs.getD 0) nq0 else x
 decide (y.op≠0/\y.op≠1)
def putQ(nodes:List Nq)(work:Nat->Cq->Cq)(n:Nat)(c:Cq):Cq:=
 let c:={ c with left:=c.left.set n (c.left.getD n 0 - 1) }
 match ZF n c.slots with
 | some s=>let c:=Zh 13 s c;if c.left.getD n 0=0 then { c with slots:=c.slots.set s none } else c
 | none=>
  let c:=work n c
  if c.left.getD n 0=0∨Zcc nodes n=false then c else match ZbE c.slots with
   | some s=>Zh 13 s (ZT n s c)
   | none=>c
def cntQ(nodes:List Nq)(sl:List (Option Int)):Nat->Nat->List Nat->List Nat
 | 0,_,k=>k
 | f+1,n,k=>
  let k:=bump k n
  if (ZF n sl).isSome∨1<k.getD n 0 then k else (Zg (nodes.getD n nq0)).foldl (fun k t=>cntQ nodes sl f t k) k
def ZbY(nodes:List Nq)(c:Cq)(k:List Nat)(n:Nat):Bool:=decide (0<k.getD n 0) && (ZF n c.slots).isNone && decide (k.getD n 0<c.left.getD n 0) && Zcc nodes n
def Zbf(p:Nat->Bool):Nat->Option Nat
 | 0=>none
 | n+1=>if p n then some n else Zbf p n
def Zby(nodes:List Nq)(n:Nat)(c:Cq):Option Nat:=Zbf (ZbY nodes c (cntQ nodes c.slots (n+1) n (List.replicate nodes.length 0))) nodes.length
def ZP(nodes:List Nq)(work:Nat->Cq->Cq)(n:Nat):Nat->Cq->Cq
 | 0,c=>c
 | k + 1, c => match Zby nodes n c, ZbE c.slots with
   | some x,some s=>ZP nodes work n k (ZT x s (work x { c with slots:=c.slots.set s (some (-1)) }))
   | _,_=>c
def Zcb(a b:List (Option Int)):List (Option Int):=(List.range 16).map fun s=>if a.getD s none=b.getD s none then a.getD s none else none
def Zbl(nodes:List Nq)(work:Nat->Cq->Cq)(x y:Nat)(c:Cq):Cq:=
 let c:=putQ nodes work x (ZP nodes work y (y+2) c)
 let d:=putQ nodes work y (Zh 11 0 (Zh 10 0 c))
 { d with slots:=Zcb d.slots c.slots,ins:=d.ins.set c.ins.length (10,d.ins.length) }
def ZbN(x:Nq)(c:Cq):Cq:=if x.op=0 then Zh 0 c.consts.length { c with consts:=c.consts++[x.arg] } else Zh x.op x.arg.toNat c
def Zn(nodes:List Nq):Nat->Nat->Cq->Cq
 | 0,_,c=>c
 | f+1,n,c=>
  let x:=nodes.getD n nq0
  if x.op=10 then Zbl nodes (Zn nodes f) (x.fs.getD 0) (x.sn.getD 0) c
  else ZbN x ((Zg x).foldl (fun c t=>putQ nodes (Zn nodes f) t c) c)
def ZJ(g:Gq)(root:Nat):Cq:=putQ g.nodes (Zn g.nodes (root+1)) root (c0 g)
def Zcv(l:List (Nat×Nat))(i:Nat):List (Nat×Nat):=
 if (l.getD i (0,0)).1=10/\(l.getD i (0,0)).2<l.length/\(l.getD (l.getD i (0,0)).2 (0,0)).1=10 then l.set i (10,(l.getD (l.getD i (0,0)).2 (0,0)).2)else l
def ZdC:Nat->List (Nat×Nat)->List (Nat×Nat)
 | 0,l=>l
 | i+1,l=>ZdC i (Zcv l i)
def ZbR(l:List (Nat×Nat)):List (Nat×Nat):=ZdC l.length l
def codeOf(t:Tr)(fl:Nat):CodeQ:=
 let p:=Zb t (g0 fl)
 let c:=ZJ p.2 p.1
 ⟨c.consts,p.2.sels,p.2.grps,if 4<=fl then ZbR c.ins else c.ins⟩
def ZX(l:List UInt8):List UInt8:=digL l.length 2++l
def Zcx(v:Int):List UInt8:=digL (v % 4294967296).toNat 4
def Zd2(c:CodeQ):List UInt8:=[103]++digL c.consts.length 2++digL c.picks.length 2++digL c.groups.length 2++digL c.ins.length 2++c.consts.flatMap Zcx++c.picks.flatMap (fun x=>ZX (ZM x))++c.groups.flatMap (fun x=>ZX (commas x))++c.ins.flatMap (fun x=>UInt8.ofNat x.1::digL x.2 2)
def ZbB(c:CodeQ):List UInt8:=Zd2 c++digL (sumQ (Zd2 c)) 4
def Zbe(q:List UInt8)(fl:Int):List UInt8×Nat×Nat:=match ZB q with
 | .error x=>([],x.1,x.2)
 | .ok t=>if fl<0∨7<fl then ([],11,0)else (ZbB (codeOf t fl.toNat),0,0)
end Go.Proofs.YtcdgkkfipdoeeaaGreatDoor.LS
namespace Go.Proofs.YtcdgkkfipdoeeaaGreatDoor
open Go.RowKit LS
structure PTok where
 kd:Nat
 at_:Nat
 tx:ByteArray
 v:Nat
def Zbg:List PTok->List Value
 | []=>[]
 | t::l=>.int .i64 t.kd::.int .i64 t.at_::.string t.tx::.int .i64 t.v::Zbg l
theorem Zea(l m:List PTok):Zbg (l++m)=Zbg l++Zbg m:=by
 induction l with
 | nil=>rfl
 | cons a l ih=>simp[Zbg,ih]
theorem ZsU (l : List PTok) (j : Nat) : (Zbg l)[j * 4]? = l[j]?.map (fun t => .int .i64 t.kd) /\ (Zbg l)[j * 4 + 1]? = l[j]?.map (fun t => .int .i64 t.at_) /\ (Zbg l)[j * 4 + 2]? = l[j]?.map (fun t => .string t.tx) /\ (Zbg l)[j * 4 + 3]? = l[j]?.map (fun t => .int .i64 t.v) := by
  induction l generalizing j with
  | nil=>simp[Zbg]
  | cons r l ih=>
    cases j with
    | zero=>simp[Zbg]
    | succ j=>
      obtain⟨h1,h2,h3,h4⟩:=ih j
      refine⟨?_,?_,?_,?_⟩
      · rw[show(j+1)*4=j*4+1+1+1+1 by omega];simpa [Zbg] using h1
      · rw[show(j+1)*4+1=j*4+1+1+1+1+1 by omega];simpa [Zbg] using h2
      · rw[show(j+1)*4+2=j*4+2+1+1+1+1 by omega];simpa [Zbg] using h3
      · rw[show(j+1)*4+3=j*4+3+1+1+1+1 by omega];simpa [Zbg] using h4
def pk(k:Nat):Nat:=if k=0 then 4 else if k=1 then 0 else if k=2 then 1 else if k=3 then 2 else if k=4 then 3 else 5
def Zc1(p:PTok)(t:Tok):Prop:=p.kd=pk t.kind/\p.at_=t.at_/\bl p.tx=t.txt/\(t.kind=1->(p.v:Int)=numV t.txt)
structure RD (w:World) (b g cp:Nat) (ps:List PTok) (k:Nat):Prop where
 cells:w.heap[b]?=some (.cells #[.slice (some ⟨g,0,none⟩) ps.length cp,.int .i64 k] 69 (0,0))
 own:w.ownsRow 0 74 4 (.slice (some ⟨g,0,none⟩) ps.length cp) ps.length (Zbg ps)
 lt:k<ps.length
theorem RD.below{w w':World}{b g cp:Nat}{ps:List PTok}{k:Nat}(h:RD w b g cp ps k)(hb:Below w.heap.size w w'):RD w' b g cp ps k:=
 ⟨(hb.block b (Array.getElem?_eq_some_iff.1 h.cells).1).trans h.cells,Zw h.own hb,h.lt⟩
theorem RD.all{w:World}{b g cp:Nat}{ps:List PTok}{k:Nat}(h:RD w b g cp ps k) :
  w.cell? ⟨b,0,none⟩=some (.slice (some ⟨g,0,none⟩) ps.length cp)/\w.cell? ⟨b,1,none⟩=some (.int .i64 k)/\w.frozen? ⟨b,1,none⟩=false/\b<w.heap.size/\g<w.heap.size/\
  w.cell? ⟨g,k*4,none⟩=some (.int .i64 (ps[k]'h.lt).kd)/\w.cell? ⟨g,k*4+1,none⟩=some (.int .i64 (ps[k]'h.lt).at_)/\w.cell? ⟨g,k*4+2,none⟩=some (.string (ps[k]'h.lt).tx)/\w.cell? ⟨g,k*4+3,none⟩=some (.int .i64 (ps[k]'h.lt).v):=by
 obtain⟨f1,f2,f3,f4⟩:=ZsU ps k
 rw[List.getElem?_eq_getElem h.lt]at f1 f2 f3 f4
 refine⟨by simp[World.cell?,h.cells],by simp[World.cell?,h.cells],by simp[World.frozen?,h.cells],(Array.getElem?_eq_some_iff.1 h.cells).1,Zbq h.own,Zr h.own _ _ f1,Zr h.own _ _ f2,Zr h.own _ _ f3,Zr h.own _ _ f4⟩
theorem Zhj{w:World}{b g cp:Nat}{ps:List PTok}{k:Nat}(h:RD w b g cp ps k) :
  Calls Tryz.prog 29 #[.pointer (some ⟨b,0,none⟩)] w fun e w'=>e=.returned (.agg #[.int .i64 (ps[k]'h.lt).kd,.int .i64 (ps[k]'h.lt).at_,.string (ps[k]'h.lt).tx,.int .i64 (ps[k]'h.lt).v])/\Below w.heap.size w w':=by
 obtain⟨c0,c1,_,hbl,hgl,d0,d1,d2,d3⟩:=h.all
 have hlt:=h.lt
 generalize ps[k]'h.lt=t at *
 obtain⟨kd,at_,tx,v⟩:=t
 simp only at d0 d1 d2 d3 ⊢
 generalize ps.length=n at *
 clear h
 go_enter Tryz.func29,Tryz.ntmps29
 go_wp2
 go_region
 all_goals
  go_wp2
  exact bodyPost_ret (v:=.agg #[.int .i64 kd,.int .i64 at_,.string tx,.int .i64 v]) (by simp[results,Tryz.results29,go_sem]) rfl ⟨rfl,belB⟩
theorem Zkf(t:PTok)(s:ByteArray)(w:World) :
  Calls Tryz.prog 102 #[.agg #[.int .i64 t.kd,.int .i64 t.at_,.string t.tx,.int .i64 t.v],.string s] w fun e w'=>e=.returned (.bool (((t.kd:Int) == 3) && (t.tx.toList == s.toList)))/\Below w.heap.size w w':=by
 obtain⟨kd,at_,tx,v⟩:=t
 simp only
 generalize hk:((kd:Int) == 3)=x
 cases x
 ·go_enter Tryz.func102,Tryz.ntmps102
  go_wp2
  go_ret
  exact⟨rfl,belB⟩
 ·go_enter Tryz.func102,Tryz.ntmps102
  go_wp2
  go_ret
  exact⟨rfl,belB⟩
theorem ZnF(t:PTok)(s:ByteArray)(w:World) :
  Calls Tryz.prog 109 #[.agg #[.int .i64 t.kd,.int .i64 t.at_,.string t.tx,.int .i64 t.v],.string s] w fun e w'=>e=.returned (.bool (((t.kd:Int) == 1) && (t.tx.toList == s.toList)))/\Below w.heap.size w w':=by
 obtain⟨kd,at_,tx,v⟩:=t
 simp only
 generalize hk:((kd:Int) == 1)=x
 cases x
 ·go_enter Tryz.func109,Tryz.ntmps109
  go_wp2
  go_ret
  exact⟨rfl,belB⟩
 ·go_enter Tryz.func109,Tryz.ntmps109
  go_wp2
  go_ret
  exact⟨rfl,belB⟩
def Zcd(w:World)(v:Value)(at_:Int)(what:Addr):Prop:=∃fa:Nat,v=.iface 81 (.pointer (some ⟨fa,0,none⟩))/\w.heap[fa]?=some (.cells #[.string ⟨#[98,121,116,101]⟩,.int .i64 at_,.iface 432 (.pointer (some what))] 85 (0,0))
theorem Zcd.below{w w':World}{v:Value}{at_:Int}{what:Addr}(h:Zcd w v at_ what)(hb:Below w.heap.size w w'):Zcd w' v at_ what:=by
 obtain⟨fa,h1,h2⟩:=h
 exact⟨fa,h1,(hb.block fa (Array.getElem?_eq_some_iff.1 h2).1).trans h2⟩
theorem Zl1(i:Int)(what:Value)(w:World) :
  Calls Tryz.prog 54 #[.int .i64 i,.iface 432 what] w fun e w'=>e=.returned (.iface 81 (.pointer (some ⟨w.heap.size,0,none⟩)))/\w'=w.alloc (.cells #[.string ⟨#[98,121,116,101]⟩,.int .i64 i,.iface 432 what] 85):=by
 go_enter Tryz.func54,Tryz.ntmps54
 go_wp2
 go_ret
 exact⟨rfl,rfl⟩
theorem Zhx{w:World}{b g cp:Nat}{ps:List PTok}{k:Nat}(h:RD w b g cp ps k){sy:Addr}(hsy:w.cell? ⟨1,0,none⟩=some (.iface 432 (.pointer (some sy)))) :
  Calls Tryz.prog 30 #[.pointer (some ⟨b,0,none⟩)] w fun e w'=>∃v,e=.returned v/\Hid (Zcd w' v (ps[k]'h.lt).at_ sy)/\Below w.heap.size w w':=by
 have H:Hid (RD w b g cp ps k):=h
 have HD:Hid (RD w.drew b g cp ps k):=RD.below h ((Below.refl _ _).drew)
 have hgl:1<w.heap.size:=World.block_lt_of_cell? _ _ hsy
 obtain⟨t,ht⟩:∃t,t=ps[k]'h.lt:=⟨_,rfl⟩
 have HT:Hid (∀hh:k<ps.length,ps[k]'hh=t):=fun _=>ht.symm
 rw[<-ht]
 clear ht h
 have hf:∀W:World,(Instr.field 74 (.agg #[.int .i64 t.kd,.int .i64 t.at_,.string t.tx,.int .i64 t.v]) 1).run Tryz.prog W=.ok (.int .i64 t.at_) W:=fun _=>rfl
 go_enter Tryz.func30,Tryz.ntmps30
 go_wp2
 go_region_with (first
   | (go_at_call 29
      refine(Zhj HD.out).mono ?_
      rintro e w1 ⟨rfl,hb1⟩
      rw[HT.out]
      have HB1:Hid (Below w.heap.size w w1):=⟨hb1.os,hb1.tape,hb1.output,hb1.size,hb1.block⟩
      have hsy1:w1.cell? ⟨1,0,none⟩=some (.iface 432 (.pointer (some sy))):=(HB1.cell (p:=⟨_,0,none⟩) hgl).trans hsy
      clear hb1)
   | (go_at_call 54
      refine(Zl1 _ _ _).mono ?_
      rintro e w2 ⟨rfl,rfl⟩))
 all_goals
  go_wp2
  go_ret
  exact⟨_,rfl,⟨w1.heap.size,rfl,Go.Deep.blk_alloc_new _ _⟩,HB1.alloc HB1.size _⟩
theorem RD.step{w:World}{b g cp:Nat}{ps:List PTok}{k:Nat}(h:RD w b g cp ps k)(hl:k+1<ps.length):RD (w.setCell ⟨b,1,none⟩ (.int .i64 ((k+1:Nat):Int))) b g cp ps (k+1):=by
 have hne:b≠g:=by
  rintro rfl
  exact Zdl h.own h.cells (by decide) rfl
 refine⟨?_,ZeY h.own (fun j hj=>Go.Deep.blk_setCell_other _ _ _ _ ?_),hl⟩
 ·have:=h.cells
  simp only[World.setCell,Array.getElem?_modify,this,if_true,Option.map_some];rfl
 ·have:j=g:=by simpa [Value.ownBlock] using hj.symm
  rw[this];exact fun e=>hne e.symm
def ZQ(t:PTok)(s:ByteArray):Bool:=((t.kd:Int) == 3) && (t.tx.toList == s.toList)
def ZcY(t:PTok)(s:ByteArray):Bool:=((t.kd:Int) == 1) && (t.tx.toList == s.toList)
def Took(w':World)(b g cp:Nat)(ps:List PTok)(k:Nat)(sy:Addr)(at_:Int)(ok:Bool)(v:Value):Prop:=(ok=true/\v=.nilIface/\RD w' b g cp ps (k+1))∨(ok=false/\Zcd w' v at_ sy/\RD w' b g cp ps k)
theorem Zye{w:World}{b g cp:Nat}{ps:List PTok}{k:Nat}(h:RD w b g cp ps k)(s:ByteArray)(hl:ZQ (ps[k]'h.lt) s=true->k+1<ps.length)(hn:ps.length<=6002){sy:Addr}(hsy:w.cell? ⟨1,0,none⟩=some (.iface 432 (.pointer (some sy)))) :
  Calls Tryz.prog 166 #[.pointer (some ⟨b,0,none⟩),.string s] w fun e w'=>∃v,e=.returned v/\Hid (Took w' b g cp ps k sy (ps[k]'h.lt).at_ (ZQ (ps[k]'h.lt) s) v)/\w.grownBy w' (some b):=by
 have H:Hid (RD w b g cp ps k):=h
 have hlt:=h.lt
 have hgl:1<w.heap.size:=World.block_lt_of_cell? _ _ hsy
 obtain⟨t,ht⟩:∃t,t=ps[k]'h.lt:=⟨_,rfl⟩
 have HT:Hid (∀hh:k<ps.length,ps[k]'hh=t):=fun _=>ht.symm
 rw[<-ht]at hl ⊢
 clear ht h
 go_enter Tryz.func166,Tryz.ntmps166
 go_wp2_with fail
 refine(Zhj H.out).mono ?_
 rintro e w1 ⟨rfl,hb1⟩
 rw[HT.out]
 have HB1:Hid (Below w.heap.size w w1):=hb1
 clear hb1
 go_wp2_with fail
 refine(Zkf t s w1).mono ?_
 rintro e w2 ⟨rfl,hb2⟩
 have HB2:Hid (Below w.heap.size w w2):=HB1.trans (hb2.mono HB1.size)
 have HR2:Hid (RD w2 b g cp ps k):=RD.below H.out HB2.out
 have hsy2:w2.cell? ⟨1,0,none⟩=some (.iface 432 (.pointer (some sy))):=(HB2.cell (p:=⟨_,0,none⟩) hgl).trans hsy
 obtain⟨c0,c1,fz,_⟩:=HR2.all
 rw[show(((t.kd:Int) == 3) && (t.tx.toList == s.toList))=ZQ t s from rfl]
 clear hb2 HB1
 cases hm:ZQ t s
 ·have HM:Hid (ZQ t s=false):=hm
  go_wp2_with fail
  refine(Zhx HR2.out hsy2).mono ?_
  rintro e w3 ⟨v,rfl,hv,hb3⟩
  rw[HT.out]at hv
  have HF:Hid (Took w3 b g cp ps k sy t.at_ false v):=Or.inr ⟨rfl,hv.out,RD.below HR2.out hb3⟩
  have HG:Hid (w.grownBy w3 (some b)):=ZR (HB2.trans (hb3.mono HB2.size))
  clear hv hb3
  go_wp2
  go_ret
  exact⟨_,rfl,by rw[HM.out];exact HF,HG.out⟩
 ·have hl2:=hl hm
  have HM:Hid (ZQ t s=true):=hm
  have HF:Hid (Took (w2.setCell ⟨b,1,none⟩ (.int .i64 ((k+1:Nat):Int))) b g cp ps k sy t.at_ true .nilIface):=Or.inl ⟨rfl,rfl,HR2.step hl2⟩
  have HG:Hid (w.grownBy (w2.setCell ⟨b,1,none⟩ (.int .i64 ((k+1:Nat):Int))) (some b)):=Zbm (ZR HB2.out) (Or.inl rfl) _
  go_wp2
  go_ret
  exact⟨_,rfl,by rw[HM.out];exact HF,HG.out⟩
theorem Zyh{w:World}{b g cp:Nat}{ps:List PTok}{k:Nat}(h:RD w b g cp ps k)(s:ByteArray)(hl:ZcY (ps[k]'h.lt) s=true->k+1<ps.length)(hn:ps.length<=6002){sy:Addr}(hsy:w.cell? ⟨1,0,none⟩=some (.iface 432 (.pointer (some sy)))) :
  Calls Tryz.prog 167 #[.pointer (some ⟨b,0,none⟩),.string s] w fun e w'=>∃v,e=.returned v/\Hid (Took w' b g cp ps k sy (ps[k]'h.lt).at_ (ZcY (ps[k]'h.lt) s) v)/\w.grownBy w' (some b):=by
 have H:Hid (RD w b g cp ps k):=h
 have hlt:=h.lt
 have hgl:1<w.heap.size:=World.block_lt_of_cell? _ _ hsy
 obtain⟨t,ht⟩:∃t,t=ps[k]'h.lt:=⟨_,rfl⟩
 have HT:Hid (∀hh:k<ps.length,ps[k]'hh=t):=fun _=>ht.symm
 rw[<-ht]at hl ⊢
 clear ht h
 go_enter Tryz.func167,Tryz.ntmps167
 go_wp2_with fail
 refine(Zhj H.out).mono ?_
 rintro e w1 ⟨rfl,hb1⟩
 rw[HT.out]
 have HB1:Hid (Below w.heap.size w w1):=hb1
 clear hb1
 go_wp2_with fail
 refine(ZnF t s w1).mono ?_
 rintro e w2 ⟨rfl,hb2⟩
 have HB2:Hid (Below w.heap.size w w2):=HB1.trans (hb2.mono HB1.size)
 have HR2:Hid (RD w2 b g cp ps k):=RD.below H.out HB2.out
 have hsy2:w2.cell? ⟨1,0,none⟩=some (.iface 432 (.pointer (some sy))):=(HB2.cell (p:=⟨_,0,none⟩) hgl).trans hsy
 obtain⟨c0,c1,fz,_⟩:=HR2.all
 rw[show(((t.kd:Int) == 1) && (t.tx.toList == s.toList))=ZcY t s from rfl]
 clear hb2 HB1
 cases hm:ZcY t s
 ·have HM:Hid (ZcY t s=false):=hm
  go_wp2_with fail
  refine(Zhx HR2.out hsy2).mono ?_
  rintro e w3 ⟨v,rfl,hv,hb3⟩
  rw[HT.out]at hv
  have HF:Hid (Took w3 b g cp ps k sy t.at_ false v):=Or.inr ⟨rfl,hv.out,RD.below HR2.out hb3⟩
  have HG:Hid (w.grownBy w3 (some b)):=ZR (HB2.trans (hb3.mono HB2.size))
  clear hv hb3
  go_wp2
  go_ret
  exact⟨_,rfl,by rw[HM.out];exact HF,HG.out⟩
 ·have hl2:=hl hm
  have HM:Hid (ZcY t s=true):=hm
  have HF:Hid (Took (w2.setCell ⟨b,1,none⟩ (.int .i64 ((k+1:Nat):Int))) b g cp ps k sy t.at_ true .nilIface):=Or.inl ⟨rfl,rfl,HR2.step hl2⟩
  have HG:Hid (w.grownBy (w2.setCell ⟨b,1,none⟩ (.int .i64 ((k+1:Nat):Int))) (some b)):=Zbm (ZR HB2.out) (Or.inl rfl) _
  go_wp2
  go_ret
  exact⟨_,rfl,by rw[HM.out];exact HF,HG.out⟩
def Zex(t:PTok):Bool:=(t.kd:Int) == 1
theorem Zyf{w:World}{b g cp:Nat}{ps:List PTok}{k:Nat}(h:RD w b g cp ps k)(hl:Zex (ps[k]'h.lt)=true->k+1<ps.length)(hn:ps.length<=6002){sy:Addr}(hsy:w.cell? ⟨1,0,none⟩=some (.iface 432 (.pointer (some sy)))) :
  Calls Tryz.prog 169 #[.pointer (some ⟨b,0,none⟩)] w fun e w'=>∃(x:ByteArray) (v:Value),e=.returned (.tuple #[.string x,v])/\Hid (Took w' b g cp ps k sy (ps[k]'h.lt).at_ (Zex (ps[k]'h.lt)) v/\(Zex (ps[k]'h.lt)=true->x=(ps[k]'h.lt).tx))/\w.grownBy w' (some b):=by
 have H:Hid (RD w b g cp ps k):=h
 have hlt:=h.lt
 have hgl:1<w.heap.size:=World.block_lt_of_cell? _ _ hsy
 obtain⟨t,ht⟩:∃t,t=ps[k]'h.lt:=⟨_,rfl⟩
 have HT:Hid (∀hh:k<ps.length,ps[k]'hh=t):=fun _=>ht.symm
 rw[<-ht]at hl ⊢
 clear ht h
 go_enter Tryz.func169,Tryz.ntmps169
 go_wp2_with fail
 refine(Zhj H.out).mono ?_
 rintro e w1 ⟨rfl,hb1⟩
 rw[HT.out]
 obtain⟨kd,at_,tx,v⟩:=t
 obtain⟨W,hW⟩:∃W,W=w1.alloc (.cells #[.int .i64 kd,.int .i64 at_,.string tx,.int .i64 v] 74):=⟨_,rfl⟩
 have HW:Hid (W=w1.alloc (.cells #[.int .i64 kd,.int .i64 at_,.string tx,.int .i64 v] 74)):=hW
 have hbx:W.heap[w1.heap.size]?=some (.cells #[.int .i64 kd,.int .i64 at_,.string tx,.int .i64 v] 74 (0,0)):=by rw[hW];exact Go.Deep.blk_alloc_new _ _
 have HB2:Hid (Below w.heap.size w W):=hid (by rw[hW];exact hb1.alloc hb1.size _)
 have HR2:Hid (RD W b g cp ps k):=RD.below H.out HB2.out
 have hsy2:W.cell? ⟨1,0,none⟩=some (.iface 432 (.pointer (some sy))):=(HB2.cell (p:=⟨_,0,none⟩) hgl).trans hsy
 obtain⟨c0,c1,fz,hbl,_⟩:=HR2.all
 have hne:b<w1.heap.size:=Nat.lt_of_lt_of_le (Array.getElem?_eq_some_iff.1 H.cells).1 hb1.size
 have k2:(W.setCell ⟨b,1,none⟩ (.int .i64 ((k+1:Nat):Int))).cell? ⟨w1.heap.size,2,none⟩=some (.string tx):=by
  have:(W.setCell ⟨b,1,none⟩ (.int .i64 ((k+1:Nat):Int))).heap[w1.heap.size]?=W.heap[w1.heap.size]?:=Go.Deep.blk_setCell_other _ _ _ _ (by show w1.heap.size≠b;omega)
  unfold World.cell?
  rw[this,hbx]
  rfl
 have HFS:Hid (k+1<ps.length->Took ((w1.setCell ⟨b,1,none⟩ (.int .i64 ((k+1:Nat):Int))).alloc (.cells #[.int .i64 kd,.int .i64 at_,.string tx,.int .i64 v] 74)) b g cp ps k sy at_ true .nilIface):=fun hl2=>Or.inl ⟨rfl,rfl,(RD.step (RD.below H.out hb1) hl2).below Zbal⟩
 have HGS:Hid (w.grownBy ((w1.setCell ⟨b,1,none⟩ (.int .i64 ((k+1:Nat):Int))).alloc (.cells #[.int .i64 kd,.int .i64 at_,.string tx,.int .i64 v] 74)) (some b)):=Zdi (Zbm (ZR hb1) (Or.inl rfl) _) _
 clear hb1 hW hbx
 generalize hm:((kd:Int) == 1)=nb at *
 cases nb
 ·have HM:Hid (Zex ⟨kd,at_,tx,v⟩=false):=hm
  have hm2:((kd:Int) != 1)=true:=by rw[bne,hm];rfl
  go_wp2_with fail
  rw[<-HW.out]
  refine(Zhx HR2.out hsy2).mono ?_
  rintro e w3 ⟨v3,rfl,hv,hb3⟩
  rw[HT.out]at hv
  have HF:Hid (Took w3 b g cp ps k sy at_ false v3):=Or.inr ⟨rfl,hv.out,RD.below HR2.out hb3⟩
  have HG:Hid (w.grownBy w3 (some b)):=ZR (HB2.trans (hb3.mono HB2.size))
  clear hv hb3
  go_wp2
  go_ret2
  exact⟨_,_,rfl,by rw[HM.out];exact⟨HF.out,fun h=>nomatch h⟩,HG.out⟩
 ·have HM:Hid (Zex ⟨kd,at_,tx,v⟩=true):=hm
  have hm2:((kd:Int) != 1)=false:=by rw[bne,hm];rfl
  have hl2:=hl hm
  rw[HW.out]at k2 c0 c1 fz
  go_wp2
  go_ret2
  exact⟨_,_,rfl,by rw[HM.out];exact⟨HFS.out hl2,fun _=>rfl⟩,HGS.out⟩
def opOf(t:PTok):Option Nat:=if ZcY t ⟨#[111,114]⟩then some 0 else if ZQ t ⟨#[43]⟩then some 1 else if ZQ t ⟨#[45]⟩then some 2 else if ZQ t ⟨#[42]⟩then some 3 else if ZQ t ⟨#[47]⟩then some 4 else none
def TAt(w:World)(a:Nat)(t:PTok):Prop:=w.heap[a]?=some (.cells #[.int .i64 t.kd,.int .i64 t.at_,.string t.tx,.int .i64 t.v] 74 (0,0))
theorem TAt.all{w:World}{a:Nat}{t:PTok}(h:TAt w a t):w.cell? ⟨a,0,none⟩=some (.int .i64 t.kd)/\w.cell? ⟨a,1,none⟩=some (.int .i64 t.at_)/\w.cell? ⟨a,2,none⟩=some (.string t.tx)/\w.cell? ⟨a,3,none⟩=some (.int .i64 t.v):=by
 unfold TAt at h
 refine⟨?_,?_,?_,?_⟩ <;> simp[World.cell?,h]
theorem TAt.below{w w':World}{a:Nat}{t:PTok}(h:TAt w a t)(hb:Below w.heap.size w w'):TAt w' a t:=(hb.block a (Array.getElem?_eq_some_iff.1 h).1).trans h
theorem ZfL(t:PTok)(s:ByteArray){x:Bool}(hx:ZQ t s=x)(w0 w:World)(a:Nat)(ht:TAt w a t)(hb:Below w0.heap.size w0 w) :
  Calls Tryz.prog 102 #[.agg #[.int .i64 t.kd,.int .i64 t.at_,.string t.tx,.int .i64 t.v],.string s] w fun e w'=>e=.returned (.bool x)/\Hid (TAt w' a t)/\Hid (Below w0.heap.size w0 w'):=by
 subst hx
 refine(Zkf t s w).mono ?_
 rintro e w' ⟨rfl,hb'⟩
 exact⟨rfl,ht.below hb',hb.trans (hb'.mono hb.size)⟩
theorem Zz0(t:PTok)(s:ByteArray){x:Bool}(hx:ZcY t s=x)(w0 w:World)(a:Nat)(ht:TAt w a t)(hb:Below w0.heap.size w0 w) :
  Calls Tryz.prog 109 #[.agg #[.int .i64 t.kd,.int .i64 t.at_,.string t.tx,.int .i64 t.v],.string s] w fun e w'=>e=.returned (.bool x)/\Hid (TAt w' a t)/\Hid (Below w0.heap.size w0 w'):=by
 subst hx
 refine(ZnF t s w).mono ?_
 rintro e w' ⟨rfl,hb'⟩
 exact⟨rfl,ht.below hb',hb.trans (hb'.mono hb.size)⟩
theorem ZvN(t:PTok)(w:World) :
  Calls Tryz.prog 52 #[.agg #[.int .i64 t.kd,.int .i64 t.at_,.string t.tx,.int .i64 t.v]] w fun e w'=>e=.returned (.tuple #[.int .i64 ((opOf t).getD 0:Nat),.bool (opOf t).isSome])/\Below w.heap.size w w':=by
 obtain⟨b1,h1⟩:∃x,ZcY t ⟨#[111,114]⟩=x:=⟨_,rfl⟩
 obtain⟨b2,h2⟩:∃x,ZQ t ⟨#[43]⟩=x:=⟨_,rfl⟩
 obtain⟨b3,h3⟩:∃x,ZQ t ⟨#[45]⟩=x:=⟨_,rfl⟩
 obtain⟨b4,h4⟩:∃x,ZQ t ⟨#[42]⟩=x:=⟨_,rfl⟩
 obtain⟨b5,h5⟩:∃x,ZQ t ⟨#[47]⟩=x:=⟨_,rfl⟩
 have HO:Hid (opOf t=if b1 then some 0 else if b2 then some 1 else if b3 then some 2 else if b4 then some 3 else if b5 then some 4 else none):=hid (by unfold opOf;rw[h1,h2,h3,h4,h5])
 have H:Hid (ZcY t ⟨#[111,114]⟩=b1/\ZQ t ⟨#[43]⟩=b2/\ZQ t ⟨#[45]⟩=b3/\ZQ t ⟨#[42]⟩=b4/\ZQ t ⟨#[47]⟩=b5):=⟨h1,h2,h3,h4,h5⟩
 have HT0:Hid (TAt (w.alloc (.cells #[.int .i64 t.kd,.int .i64 t.at_,.string t.tx,.int .i64 t.v] 74)) w.heap.size t):=Go.Deep.blk_alloc_new _ _
 have HB0:Hid (Below w.heap.size w (w.alloc (.cells #[.int .i64 t.kd,.int .i64 t.at_,.string t.tx,.int .i64 t.v] 74))):=Zbal
 rw[HO.out]
 clear h1 h2 h3 h4 h5 HO
 go_enter Tryz.func52,Tryz.ntmps52
 go_wp2_with fail
 refine(Zz0 t _ H.1 w _ w.heap.size HT0.out HB0.out).mono ?_
 rintro e w1 ⟨rfl,HT1,HB1⟩
 clear HT0 HB0
 cases b1
 ·obtain⟨k0,k1,k2,k3⟩:=TAt.all HT1.out
  go_wp2_with fail
  clear k0 k1 k2 k3
  refine(ZfL t _ H.2.1 w w1 w.heap.size HT1.out HB1.out).mono ?_
  rintro e w2 ⟨rfl,HT2,HB2⟩
  cases b2
  ·obtain⟨k0,k1,k2,k3⟩:=TAt.all HT2.out
   go_wp2_with fail
   clear k0 k1 k2 k3
   refine(ZfL t _ H.2.2.1 w w2 w.heap.size HT2.out HB2.out).mono ?_
   rintro e w3 ⟨rfl,HT3,HB3⟩
   cases b3
   ·obtain⟨k0,k1,k2,k3⟩:=TAt.all HT3.out
    go_wp2_with fail
    clear k0 k1 k2 k3
    refine(ZfL t _ H.2.2.2.1 w w3 w.heap.size HT3.out HB3.out).mono ?_
    rintro e w4 ⟨rfl,HT4,HB4⟩
    cases b4
    ·obtain⟨k0,k1,k2,k3⟩:=TAt.all HT4.out
     go_wp2_with fail
     clear k0 k1 k2 k3
     refine(ZfL t _ H.2.2.2.2 w w4 w.heap.size HT4.out HB4.out).mono ?_
     rintro e w5 ⟨rfl,HT5,HB5⟩
     cases b5
     ·go_wp2
      go_ret2
      exact⟨rfl,HB5.out⟩
     ·go_wp2
      go_ret2
      exact⟨rfl,HB5.out⟩
    ·go_wp2
     go_ret2
     exact⟨rfl,HB4.out⟩
   ·go_wp2
    go_ret2
    exact⟨rfl,HB3.out⟩
  ·go_wp2
   go_ret2
   exact⟨rfl,HB2.out⟩
 ·go_wp2
  go_ret2
  exact⟨rfl,HB1.out⟩
def ZbX:List PTok->List Tok->Prop
 | [],[]=>True
 | p::ps,t::ts=>Zc1 p t/\ZbX ps ts
 | _,_=>False
theorem ZbX.snoc:∀ {ps:List PTok} {ts:List Tok} {p:PTok} {t:Tok},ZbX ps ts->Zc1 p t->ZbX (ps++[p]) (ts++[t])
 | [],[],_,_,_,h=>⟨h,trivial⟩
 | _::ps,_::ts,_,_,h,h'=>⟨h.1,ZbX.snoc (ps:=ps) (ts:=ts) h.2 h'⟩
 | [],_::_,_,_,h,_=>h.elim
 | _::_,[],_,_,h,_=>h.elim
theorem ZbX.length:∀ {ps:List PTok} {ts:List Tok},ZbX ps ts->ps.length=ts.length
 | [],[],_=>rfl
 | _::ps,_::ts,h=>by rw[List.length_cons,List.length_cons,ZbX.length (ps:=ps) (ts:=ts) h.2]
 | [],_::_,h=>h.elim
 | _::_,[],h=>h.elim
theorem Zug{l:List UInt8}{n i:Nat}{t:Tok}{e:Nat}(hl:Zo l i=(t,e))(hk:¬(t.kind=0∨t.kind=5)):ZH l (n+1) i=t::ZH l n e:=by
 show(if (Zo l i).1.kind=0∨(Zo l i).1.kind=5 then [(Zo l i).1] else (Zo l i).1::ZH l n (Zo l i).2)=_
 rw[hl,if_neg hk]
theorem Zuf{l:List UInt8}{n i:Nat}{t:Tok}{e:Nat}(hl:Zo l i=(t,e))(hk:t.kind=0∨t.kind=5):ZH l (n+1) i=[t]:=by
 show(if (Zo l i).1.kind=0∨(Zo l i).1.kind=5 then [(Zo l i).1] else (Zo l i).1::ZH l n (Zo l i).2)=_
 rw[hl,if_pos hk]
def Zb3(s:ByteArray)(ps:List PTok)(at_:Nat):Prop:=at_<=s.size/\ps.length<=at_/\∃ts m,ZH (bl s) ((bl s).length+1) 0=ts++ZH (bl s) m at_/\s.size+1<=m+at_/\ZbX ps ts
theorem Zb3.start(s:ByteArray):Zb3 s [] 0:=⟨Nat.zero_le _,Nat.le_refl _,[],(bl s).length+1,rfl,by rw[Zi];omega,trivial⟩
theorem Zb3.skip{s:ByteArray}{ps:List PTok}{at_:Nat}(h:Zb3 s ps at_)(hlt:at_<s.size)(hc:s[at_]=32):Zb3 s ps (at_+1):=by
 obtain⟨_,h2,ts,m,h3,h4,h5⟩:=h
 refine⟨hlt,by omega,ts,m,?_,by omega,h5⟩
 rw[h3]
 congr 1
 cases m with
 | zero=>rfl
 | succ m=>
  show(if (Zo (bl s) at_).1.kind=0∨(Zo (bl s) at_).1.kind=5 then [(Zo (bl s) at_).1] else (Zo (bl s) at_).1::ZH (bl s) m (Zo (bl s) at_).2)=_
  rw[Zuo s at_ hlt hc]
  rfl
theorem Zb3.token{s:ByteArray}{ps:List PTok}{at_:Nat}(h:Zb3 s ps at_){t:Tok}{e:Nat}(hl:Zo (bl s) at_=(t,e))(hk:¬(t.kind=0∨t.kind=5)){p:PTok}(hp:Zc1 p t):Zb3 s (ps++[p]) e:=by
 obtain⟨h1,h2,ts,m,h3,h4,h5⟩:=h
 have hg:=Zih (bl s) at_ (by rw[Zi];exact h1)
 rw[hl]at hg
 have hgt:=hg.1 (fun h=>hk (Or.inl h))
 have hle:=hg.2
 rw[Zi]at hle
 simp only at hgt hle
 obtain⟨m',rfl⟩:∃m',m=m'+1:=⟨m - 1,by omega⟩
 refine⟨hle,by simp;omega,ts++[t],m',?_,by omega,h5.snoc hp⟩
 rw[h3,Zug hl hk,List.append_assoc]
 rfl
theorem Zb3.done{s:ByteArray}{ps:List PTok}{at_:Nat}(h:Zb3 s ps at_){t:Tok}{e:Nat}(hl:Zo (bl s) at_=(t,e))(hk:t.kind=0∨t.kind=5){p:PTok}(hp:Zc1 p t):ZbX (ps++[p]) (ZH (bl s) ((bl s).length+1) 0):=by
 obtain⟨h1,h2,ts,m,h3,h4,h5⟩:=h
 obtain⟨m',rfl⟩:∃m',m=m'+1:=⟨m - 1,by omega⟩
 rw[h3,Zuf hl hk]
 exact h5.snoc hp
theorem Zof(s:ByteArray):Zo (bl s) s.size=(⟨0,[],s.size⟩,s.size):=by
 unfold Zo
 have hd:(bl s).drop s.size=[]:=List.drop_of_length_le (by rw[Zi];exact Nat.le_refl _)
 rw[hd]
 show lexJ (bl s) s.size=_
 unfold lexJ
 rw[hd]
theorem Zuh{s:ByteArray}{k:Nat}(h:k<s.size)(hd:Zt s[k]=true):Zo (bl s) k=(if (ZL 1000000000 (((bl s).drop k).take (run Zt ((bl s).drop k)))).isSome then ⟨1,((bl s).drop k).take (run Zt ((bl s).drop k)),k⟩else ⟨5,[],k⟩,k+run Zt ((bl s).drop k)):=by
 have hne:s[k]≠32:=by rintro e;rw[e]at hd;revert hd;decide
 rw[Zig s k h hne]
 unfold lexC
 rw[if_pos hd,<-ZdI s k h]
theorem Zui{s:ByteArray}{k:Nat}(h:k<s.size)(hd:Zt s[k]=false)(hl:Zk s[k]=true):Zo (bl s) k=(if 8<run Zk ((bl s).drop k)then ⟨5,[],k⟩else ⟨2,((bl s).drop k).take (run Zk ((bl s).drop k)),k⟩,k+run Zk ((bl s).drop k)):=by
 have hne:s[k]≠32:=by rintro e;rw[e]at hl;revert hl;decide
 rw[Zig s k h hne]
 unfold lexC
 rw[if_neg (by rw[hd];exact Bool.false_ne_true),if_pos hl,<-ZdI s k h]
end Go.Proofs.YtcdgkkfipdoeeaaGreatDoor

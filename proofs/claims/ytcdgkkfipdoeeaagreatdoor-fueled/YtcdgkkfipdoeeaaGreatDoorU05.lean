/- Parts. -/
import Derived.BigQuiet
import Derived.Test.YtcdgkkfipdoeeaaGreatDoorU04
import Derived.Maps.Ext
set_option linter.all false
set_option maxRecDepth 100000
set_option maxHeartbeats 16000000
namespace Go.Proofs.YtcdgkkfipdoeeaaGreatDoor.LS
open Go Go.RowKit
structure Nq where
 op:Nat
 arg:Int
 fs:Option Nat
 sn:Option Nat
def ZGo:DecidableEq Nq:=fun a b=>decidable_of_iff (a.op=b.op/\a.arg=b.arg/\a.fs=b.fs/\a.sn=b.sn) (by cases a;cases b;simp)
def nq0:Nq:=⟨0,0,none,none⟩
def Zg(n:Nq):List Nat:=match n.fs,n.sn with
 | none,_=>[]
 | some a,none=>[a]
 | some a,some b=>[a,b]
def idxN(x:Nq):List Nq->Option Nat
 | []=>none
 | y::l=>haveI:=ZGo y x;if y=x then some 0 else (idxN x l).map (· + 1)
structure Gq where
 fold:Bool
 share:Bool
 jx:List Nq
 uses:List Nat
 kw:List (Nd×Nat)
 qx:List (List (LB))
def g0(fl:Nat):Gq:=⟨decide (fl % 2=1),decide (fl / 2 % 2=1),[],[],[],[]⟩
def bump(u:List Nat)(n:Nat):List Nat:=u.set n (u.getD n 0+1)
def addQ(x:Nq)(g:Gq):Nat×Gq:=match (if g.share then idxN x g.jx else none)with
 | some i=>(i,g)
 | none=>(g.jx.length,{ g with jx:=g.jx++[x],uses:=(Zg x).foldl bump (g.uses++[0]) })
def Zdw(v:Int)(g:Gq):Nat×Gq:=addQ ⟨0,v,none,none⟩ g
def Zco(n:Nat)(g:Gq):Option Int:=if g.fold=true/\(g.jx.getD n nq0).op=0 then some (g.jx.getD n nq0).arg else none
def negQ(n:Nat)(g:Gq):Nat×Gq:=match Zco n g with
 | some v=>Zdw (-v) g
 | none=>addQ ⟨4,0,some n,none⟩ g
def Zbs(op x y:Nat)(g:Gq):Nat×Gq:=match Zco x g,Zco y g with
 | some u,some v=>Zdw (twoV op u v) g
 | _,_=>addQ ⟨3,op,some x,some y⟩ g
def ZI(x:Nd×Nat):LB:=selS x.1++(if 0<x.2 then [91]++decS x.2++[93] else [])
def ZJ(x:Nd×Nat)(g:Gq):Nat×Gq:=match idx (ZI x) (g.kw.map ZI)with
 | some i=>addQ ⟨1,i,none,none⟩ g
 | none=>addQ ⟨1,g.kw.length,none,none⟩ { g with kw:=g.kw++[x] }
def insN(x:LB):List (LB)->List (LB)
 | []=>[x]
 | y::l=>if x=y then y::l else if Op.bytesLess x y then x::y::l else y::insN x l
def Z6(l:List (LB)):List (LB):=l.foldr insN []
def Zbd(ns:List (LB))(g:Gq):Nat×Gq:=match idx (commas (Z6 ns)) (g.qx.map commas)with
 | some i=>(i,g)
 | none=>(g.qx.length,{ g with qx:=g.qx++[Z6 ns] })
def Zba(a:Nd):Nd:=⟨1,0,0,a.name,a.ku,[]⟩
def Zb:Tr->Gq->Nat×Gq
 | .nil,g=>(0,g)
 | .node _ _ a l r,g=>
  if a.jk=0 then Zdw a.n g
  else if a.jk=1 then ZJ (Zba a,0) g
  else if a.jk=2 then (let p:=ZJ (Zba a,a.n.toNat) g;addQ ⟨2,a.op,some p.1,none⟩ p.2)
  else if a.jk=3 then (let p:=Zb l g;negQ p.1 p.2)
  else if a.jk=5 then (let p:=Zb l g;let k:=Zbd a.by_ p.2;addQ ⟨5+a.op,k.1,some p.1,none⟩ k.2)
  else (let p:=Zb l g;let q:=Zb r p.2;if a.jk=6 then addQ ⟨10,0,some p.1,some q.1⟩ q.2 else Zbs a.op p.1 q.1 q.2)
structure Cq where
 left:List Nat
 jy:List (Option Int)
 jj:List Int
 jq:List (Nat×Nat)
def c0(g:Gq):Cq:=⟨g.uses,List.replicate 16 none,[],[]⟩
def Zc(op arg:Nat)(c:Cq):Cq:={ c with jq:=c.jq++[(op,arg)] }
def ZK(n:Nat)(l:List (Option Int)):Option Nat:=(List.range 16).find? fun s=>decide (l.getD s none=some (n:Int))
def ZbQ(l:List (Option Int)):Option Nat:=(List.range 16).find? fun s=>decide (l.getD s none=none)
def ZZ(n s:Nat)(c:Cq):Cq:=let d:=Zc 12 s c;{ d with jy:=d.jy.set s (some (n:Int)) }
def ZeJ(jx:List Nq)(n:Nat):Bool:=
 let x:=jx.getD n nq0
 let y:=if x.op=4 then jx.getD (x.fs.getD 0) nq0 else x
 decide (y.op≠0/\y.op≠1)
def putQ(jx:List Nq)(work:Nat->Cq->Cq)(n:Nat)(c:Cq):Cq:=
 let c:={ c with left:=c.left.set n (c.left.getD n 0 - 1) }
 match ZK n c.jy with
 | some s=>let c:=Zc 13 s c;if c.left.getD n 0=0 then { c with jy:=c.jy.set s none } else c
 | none=>
  let c:=work n c
  if c.left.getD n 0=0∨ZeJ jx n=false then c else match ZbQ c.jy with
   | some s=>Zc 13 s (ZZ n s c)
   | none=>c
def cntQ(jx:List Nq)(sl:List (Option Int)):Nat->Nat->List Nat->List Nat
 | 0,_,k=>k
 | f+1,n,k=>
  let k:=bump k n
  if (ZK n sl).isSome∨1<k.getD n 0 then k else (Zg (jx.getD n nq0)).foldl (fun k t=>cntQ jx sl f t k) k
def ZcX(jx:List Nq)(c:Cq)(k:List Nat)(n:Nat):Bool:=decide (0<k.getD n 0) && (ZK n c.jy).isNone && decide (k.getD n 0<c.left.getD n 0) && ZeJ jx n
def ZbT(p:Nat->Bool):Nat->Option Nat
 | 0=>none
 | n+1=>if p n then some n else ZbT p n
def ZbY(jx:List Nq)(n:Nat)(c:Cq):Option Nat:=ZbT (ZcX jx c (cntQ jx c.jy (n+1) n (List.replicate jx.length 0))) jx.length
def ZG(jx:List Nq)(work:Nat->Cq->Cq)(n:Nat):Nat->Cq->Cq
 | 0,c=>c
 | k + 1, c => match ZbY jx n c, ZbQ c.jy with
   | some x,some s=>ZG jx work n k (ZZ x s (work x { c with jy:=c.jy.set s (some (-1)) }))
   | _,_=>c
def Zce(a b:List (Option Int)):List (Option Int):=(List.range 16).map fun s=>if a.getD s none=b.getD s none then a.getD s none else none
def Zbo(jx:List Nq)(work:Nat->Cq->Cq)(x y:Nat)(c:Cq):Cq:=
 let c:=putQ jx work x (ZG jx work y (y+2) c)
 let d:=putQ jx work y (Zc 11 0 (Zc 10 0 c))
 { d with jy:=Zce d.jy c.jy,jq:=d.jq.set c.jq.length (10,d.jq.length) }
def ZbD(x:Nq)(c:Cq):Cq:=if x.op=0 then Zc 0 c.jj.length { c with jj:=c.jj++[x.arg] } else Zc x.op x.arg.toNat c
def Zr(jx:List Nq):Nat->Nat->Cq->Cq
 | 0,_,c=>c
 | f+1,n,c=>
  let x:=jx.getD n nq0
  if x.op=10 then Zbo jx (Zr jx f) (x.fs.getD 0) (x.sn.getD 0) c
  else ZbD x ((Zg x).foldl (fun c t=>putQ jx (Zr jx f) t c) c)
def Zv(g:Gq)(root:Nat):Cq:=putQ g.jx (Zr g.jx (root+1)) root (c0 g)
def ZL(l:List (Nat×Nat))(i:Nat):List (Nat×Nat):=
 if (l.getD i (0,0)).1=10/\(l.getD i (0,0)).2<l.length/\(l.getD (l.getD i (0,0)).2 (0,0)).1=10 then l.set i (10,(l.getD (l.getD i (0,0)).2 (0,0)).2)else l
def ZcI:Nat->List (Nat×Nat)->List (Nat×Nat)
 | 0,l=>l
 | i+1,l=>ZcI i (ZL l i)
def Zch(l:List (Nat×Nat)):List (Nat×Nat):=ZcI l.length l
def codeOf(t:Tr)(fl:Nat):CodeQ:=
 let p:=Zb t (g0 fl)
 let c:=Zv p.2 p.1
 ⟨c.jj,p.2.kw,p.2.qx,if 4<=fl then Zch c.jq else c.jq⟩
def ZO(l:LB):LB:=digL l.length 2++l
def Zb0(v:Int):LB:=digL (v % 4294967296).toNat 4
def Z2(c:CodeQ):LB:=[103]++digL c.jj.length 2++digL c.ju.length 2++digL c.jw.length 2++digL c.jq.length 2++c.jj.flatMap Zb0++c.ju.flatMap (fun x=>ZO (ZI x))++c.jw.flatMap (fun x=>ZO (commas x))++c.jq.flatMap (fun x=>UInt8.ofNat x.1::digL x.2 2)
def ZbJ(c:CodeQ):LB:=Z2 c++digL (sumQ (Z2 c)) 4
def ZcM(q:LB)(fl:Int):LB×Nat×Nat:=match ZD q with
 | .error x=>([],x.1,x.2)
 | .ok t=>if fl<0∨7<fl then ([],11,0)else (ZbJ (codeOf t fl.toNat),0,0)
end Go.Proofs.YtcdgkkfipdoeeaaGreatDoor.LS
namespace Go.Proofs.YtcdgkkfipdoeeaaGreatDoor
open Go.RowKit LS Go.Proofs.Tryz
theorem ZiJ {n:Int} {w:World} : CP 229 #[Vi n] w fun e u => e = .returned (Vi (cutV n)) /\ u = w := by
  rcases(by unfold cutV;split <;> (try split) <;> omega:(1000000000<n/\cutV n=1000000000)∨(n < -1000000000/\cutV n=-1000000000)∨(-1000000000<=n/\n<=1000000000/\cutV n=n))with ⟨h,e⟩|⟨h,e⟩|⟨a,c,e⟩
  all_goals
    rw[e];have d:=hid e;go_enter func229,ntmps229;go_wp2
    all_goals first|omega|(go_ret;exact⟨rfl,rfl⟩)|(go_ret;exact⟨ZBw Om,rfl⟩)|(obtain rfl:n=-1000000000:= Om;go_ret;exact⟨rfl,rfl⟩)
theorem Zks (op : Nat) (g : op <= 3) (a b : Int) (d : vOk a) (f : vOk b) (w : World) : CP 198 #[Vi (op + 1 : Nat), Vi a, Vi b] w fun e u => e = .returned (Vi (twoV op a b)) /\ u = w := by
  obtain⟨a1,a2⟩:=d;obtain⟨b1,b2⟩:=f;rcases(by omega:op=0∨op=1∨op=2∨op=3)with rfl|rfl|rfl|rfl
  · rw[ZDy]
    go_enter func198,ntmps198
    go_wp2_with (go_at_call 229;refine cret (ZiJ) ?_)
    go_ret;exact⟨rfl,rfl⟩
  · rw[ZDz]
    go_enter func198,ntmps198
    go_wp2_with (go_at_call 229;refine cret (ZiJ) ?_)
    go_ret;exact⟨rfl,rfl⟩
  · have i:(Go.IntKind.i64).wrap (a*b)=a*b:=by
      have j:=Zy5 a b a1 a2 b1 b2;generalize a*b=ab at *
      rw[Ybo];omega
    rw[ZDA];go_enter func198,ntmps198
    go_wp2_with (go_at_call 229;refine cret (ZiJ) ?_)
    go_ret;exact⟨rfl,rfl⟩
  · have h:(a.tdiv b).natAbs<=a.natAbs:=by rw[Yff];exact Yfg _ _
    have k:(Go.IntKind.i64).wrap (a.tdiv b)=a.tdiv b:=by rw[Ybo];omega
    by_cases c:b=0
    · subst c
      rw[ZDC];go_enter func198,ntmps198;go_wp2;go_ret;exact⟨rfl,rfl⟩
    · rw[ZDB a b c]
      go_enter func198,ntmps198;go_wp2;go_ret;exact⟨rfl,rfl⟩
def talC(l:List Int):List Value:=[Vi l.length,Vi l.sum,Vi (maxL (l.headD 0) l),Vi (minL (l.headD 0) l),Vi (l.headD 0),Vi (l.getLastD 0)]
def talV(l:List Int):Value:=.agg (talC l).toArray
theorem ZyX(m:Int)(l:List Int)(x:Int):maxL m (l++[x])=max (maxL m l) x:=by rw[ZyW];split <;> omega
theorem Zy2(m:Int)(l:List Int)(x:Int):minL m (l++[x])=min (minL m l) x:=by rw[Zy1];split <;> omega
theorem ZxQ(l:List Int)(x:Int):(l++[x]).getLastD 0=x:=by simp[Yey]
theorem ZsC:∀l:List Int,(∀x∈l,vOk x)->-1000000000*(l.length:Int)<=l.sum/\l.sum<=1000000000*(l.length:Int)
 | [],_=>by simp
 | a :: l, h => by
   have e:=ZsC l (fun x c=>h x (Yam _ c));have d:=h a (Yay ..);unfold vOk at d;rw[Yd2,Yaj];omega
theorem ZsT (l : List Int) (x : Int) (k : l.length <= 10000) (c : ∀ y ∈ l, vOk y) (d : vOk x) (w : World) : CP 206 #[talV l, Vi x] w fun e u => e = .returned (talV (l ++ [x])) /\ BW w u := by
  cases l with
  | nil=>
    unfold talV talC;simp only[Ybq,Ye0,maxL,minL,List.headD_nil,List.getLastD_nil,Ycu,Ybj,List.sum_singleton,List.headD_cons,Yel,Int.lt_irrefl,if_false];go_enter func206,ntmps206;go_wp2;exact bodyPost_ret (v:=.agg #[Vi 1,Vi x,Vi x,Vi x,Vi x,Vi x]) (by simp[results,results206,go_sem]) rfl ⟨by simp,belB⟩
  | cons a l=>
    have f:=ZsC _ c
    have g:Hid (talV ((a::l)++[x])=.agg #[Vi ((l.length)+1+1),Vi ((a::l).sum+x),Vi (max (maxL a (a::l)) x),Vi (min (minL a (a::l)) x),Vi a,Vi x]):=hid (by
      unfold talV talC;rw[ZyX,Zy2,List.sum_append,ZxQ];simp)
    unfold vOk at d;rw[g];unfold talV talC;rw[Yaj]at *
    simp only[List.headD_cons];generalize(a::l).sum=sm at *
    generalize maxL a (a::l)=mx at *
    generalize minL a (a::l)=mn at *
    generalize(a::l).getLastD 0=la at *
    generalize l.length=ln at *
    have i:((ln:Int)+1 == 0)=false:=by rw[beq_eq_false_iff_ne];omega
    push_cast
    have h:=hid f;have j : -10000000000000<=sm/\sm<=10000000000000:=by have:=h.out;omega
    rcases(by omega:(mx<x/\max mx x=x)∨(x<=mx/\max mx x=mx))with ⟨g1,e1⟩|⟨g1,e1⟩ <;> rcases(by omega:(x<mn/\min mn x=x)∨(mn<=x/\min mn x=mn))with ⟨g2,e2⟩|⟨g2,e2⟩
    · rw[e1,e2]
      go_enter func206,ntmps206;go_wp2
      all_goals first|omega|exact bodyPost_ret (v:=.agg #[Vi ((ln:Int)+1+1),Vi (sm+x),Vi x,Vi x,Vi a,Vi x]) (by simp[results,results206,go_sem]) rfl ⟨rfl,belB⟩
    · rw[e1,e2]
      go_enter func206,ntmps206;go_wp2
      all_goals first|omega|exact bodyPost_ret (v:=.agg #[Vi ((ln:Int)+1+1),Vi (sm+x),Vi x,Vi mn,Vi a,Vi x]) (by simp[results,results206,go_sem]) rfl ⟨rfl,belB⟩
    · rw[e1,e2]
      go_enter func206,ntmps206;go_wp2
      all_goals first|omega|exact bodyPost_ret (v:=.agg #[Vi ((ln:Int)+1+1),Vi (sm+x),Vi mx,Vi x,Vi a,Vi x]) (by simp[results,results206,go_sem]) rfl ⟨rfl,belB⟩
    · rw[e1,e2]
      go_enter func206,ntmps206;go_wp2
      all_goals first|omega|exact bodyPost_ret (v:=.agg #[Vi ((ln:Int)+1+1),Vi (sm+x),Vi mx,Vi mn,Vi a,Vi x]) (by simp[results,results206,go_sem]) rfl ⟨rfl,belB⟩
theorem Zlh{n:Int}(h:vOk n):cutV n=n:=by unfold vOk at h;unfold cutV;split <;> (try split) <;> omega
theorem ZqV:∀(l:List Int) (m:Int),vOk m->(∀x∈l,vOk x)->vOk (maxL m l)
 | [],m,h,_=>h
 | a :: l, m, h, c => by
   rw[maxL];refine ZqV l _ ?_ (fun x d=>c x (Yam _ d));split
   · exact c a (Yay ..)
   · exact h
theorem Zq5:∀(l:List Int) (m:Int),vOk m->(∀x∈l,vOk x)->vOk (minL m l)
 | [],m,h,_=>h
 | a :: l, m, h, c => by
   rw[minL];refine Zq5 l _ ?_ (fun x d=>c x (Yam _ d));split
   · exact c a (Yay ..)
   · exact h
theorem ZwS{l:List Int}(c:∀x∈l,vOk x):vOk (l.headD 0):=by
 cases l with
 | nil=>unfold vOk;decide
 | cons a l=>exact c a (Yay ..)
theorem ZxP{l:List Int}(c:∀x∈l,vOk x):vOk (l.getLastD 0):=by
 cases l with
 | nil=>unfold vOk;decide
 | cons a l=>rw[Yel,<-Ye6 (by simp)];exact c _ (List.getLast_mem _)
theorem ZDl {op:Nat} (f : op <= 4) (l : List Int) (g : l.length <= 10000) (a : ∀ y ∈ l, vOk y) (w : World) : CP 207 #[talV l, Vi op] w fun e u => e = .returned (Vi (cutV (ZfI op l))) /\ BW w u := by
  have c:=ZwS a;have d:=ZxP a;have e1:=Zlh (ZqV l _ c a);have e2:=Zlh (Zq5 l _ c a);have e3:cutV _=l.length:=Zlh (by unfold vOk;omega);unfold ZfI talV talC;unfold vOk at c d;generalize maxL (l.headD 0) l=mx at *
  generalize minL (l.headD 0) l=mn at *
  generalize l.headD 0=hd at *
  generalize l.getLastD 0=la at *
  generalize l.sum=sm at *
  generalize l.length=ln at *
  rcases(by omega:op=0∨op=1∨op=2∨op=3∨op=4)with rfl|rfl|rfl|rfl|rfl
  · simp only[if_true]
    go_enter func207,ntmps207
    go_wp2_with (go_at_call 229;refine cret (ZiJ) ?_)
    go_ret;exact⟨rfl,belB⟩
  · simp only[Nat.one_ne_zero,if_false,if_true,e1]
    go_enter func207,ntmps207;go_wp2;go_ret;exact⟨rfl,belB⟩
  · rw[if_neg Dc,if_neg Dc,if_pos rfl,e2]
    go_enter func207,ntmps207;go_wp2;go_ret;exact⟨rfl,belB⟩
  · rw[if_neg Dc,if_neg Dc,if_neg Dc,if_pos rfl,e3]
    go_enter func207,ntmps207;go_wp2;go_ret;exact⟨rfl,belB⟩
  · rw[if_neg Dc,if_neg Dc,if_neg Dc,if_neg Dc]
    go_enter func207,ntmps207
    go_wp2_with (go_at_call 229;refine cret (ZiJ) ?_)
    go_ret;exact⟨rfl,belB⟩
theorem ZgR {a:Option Addr} {n c:Nat} {tx:BA} {w:World} : CP 151 #[.agg #[.slice a n c, .string tx]] w fun e u => e = .returned (.string tx) /\ ∃ o, u = w.alloc o := by
  go_enter func151,ntmps151;go_wp2;go_ret;exact⟨rfl,_,rfl⟩
theorem ZmD{w:World}{base:Nat}{e:TypeId}{g n cap:Nat}{xs:List Value}(h:w.ownsRow base e 1 (.slice (some ⟨g,0,none⟩) n cap) n xs)(i:Nat)(u:Value):(w.setCell ⟨g,i,none⟩ u).ownsRow base e 1 (.slice (some ⟨g,0,none⟩) n cap) n (xs.set i u):=by
 obtain⟨m,h⟩:=h;refine⟨by rwa [Yat],?_⟩;rcases h with ⟨h,_⟩|⟨g',cap',cur,c,d,f,j,k,l,a⟩
 ·cases h
 ·injection c with h1 _ h3;injection h1 with h1;injection h1 with h1;subst h1 h3;refine .inr ⟨g,cap,cur.setIfInBounds i u,rfl,d,?_,j,k,by simpa using l,?_⟩
  ·simp[World.setCell,Ybn,f]
  ·rw[Yej]at a ⊢;rw[<-a,Yeq,List.take_set]
theorem ZB6{c:Nat}(k:Nat){f:Nat->Value}{z:Value}(a:k<c):((List.range k).map f++List.replicate (c - k) z).set k (f k)=(List.range (k+1)).map f++List.replicate (c - (k+1)) z:=by
 have e:c - k=(c - (k+1))+1:=by omega
 rw[e,List.replicate_succ,Yd5 _ _ (by simp),List.range_succ,Yaq,Yan];simp
theorem Tryz.infoInt3:(Tryz.prog.info? 3).map (fun i=>(i.zero,i.size,i.bytes))=some (some (Vi 0),1,8):=by kernel_rfl
theorem Zf9 {t:Int} {w:World} : CP 90 #[Vi t] w fun e u => e = .returned (.bool (decide (-1000000 <= t) && decide (t <= 1000000))) /\ u = w := by
  by_cases a : -1000000<=t
  · by_cases c:t<=1000000
    · rw[show(decide _ && decide _)=true by simp;omega]
      go_enter func90,ntmps90;go_wp2;go_ret;exact⟨rfl,rfl⟩
    · rw[show(decide _ && decide _)=false by simp;omega]
      go_enter func90,ntmps90;go_wp2;go_ret;exact⟨rfl,rfl⟩
  · rw[show(decide _ && decide _)=false by simp;omega]
    go_enter func90,ntmps90;go_wp2;go_ret;exact⟨rfl,rfl⟩
open Go.ChangeMaps (setBlock)
section
variable {w w' w1 w2:World} {S S1:Nat->Prop} {b N k:Nat} {f:Nat->Option Int} {v:Int}
structure KeepS (S:Nat->Prop) (w w':World):Prop where
 os:w'.os=w.os
 tape:w'.tape=w.tape
 output:w'.output=w.output
 size:w.heap.size<=w'.heap.size
 block:∀k,k<w.heap.size->¬S k->w'.heap[k]?=w.heap[k]?
theorem KeepS.refl(S:Nat->Prop)(w:World):KeepS S w w:=⟨rfl,rfl,rfl,Yac _,fun _ _ _=>rfl⟩
theorem KeepS.trans(h:KeepS S w w1)(q:KeepS S1 w1 w2)(d:∀j,S1 j->j<w.heap.size->S j):KeepS S w w2:=⟨q.os.trans h.os,q.tape.trans h.tape,q.output.trans h.output,Yah h.size q.size,fun j a c=>(q.block j (Yaw a h.size) (fun e=>c (d j e a))).trans (h.block j a c)⟩
theorem KeepS.grown{r:Option Nat}(h:w.grownBy w' r)(a:∀j,r=some j->S j):KeepS S w w':=⟨h.os,h.tape,h.output,h.size,fun j c d=>h.block j c (fun e=>d (a j e.symm))⟩
theorem KeepS.ofBelow(S:Nat->Prop)(h:BW w w'):KeepS S w w':=⟨h.os,h.tape,h.output,h.size,fun j a _=>h.block j a⟩
theorem KeepS.below{B:Nat}(h:KeepS S w w')(a:∀j,S j->B<=j)(c:B<=w.heap.size):Below B w w':=⟨h.os,h.tape,h.output,h.size,fun j d=>h.block j (Yaw d c) (fun e=>by have:=a j e;omega)⟩
theorem KeepS.bat(h:KeepS S w w'){a:Nat}{c:List Value}{t:TypeId}(d:BAt w a c t)(e:¬S a):BAt w' a c t:=(h.block a d.lt e).trans d
theorem KeepS.own(h:KeepS S w w'){base:Nat}{e:TypeId}{sz:Nat}{u:Value}{n:Nat}{xs:List Value}(a:w.ownsRow base e sz u n xs)(d:∀j,u.ownBlock=some j->¬S j):w'.ownsRow base e sz u n xs:=ZdA a (fun j c=>h.block j (a.lt j c).2 (d j c))
def kI(k:Nat):Lit:=.int .i64 (k:Int)
theorem Zjo{a b:Nat}(h:kI a=kI b):a=b:=by
 unfold kI at h;simp_all;omega
theorem Zhl{k:Nat}(a:k<9223372036854775808):(Lit.int .i64 (k:Int)).wf=true:=by
 show(decide (IntKind.i64.min<=(k:Int)) && decide ((k:Int)<=IntKind.i64.max))=true;rw[show IntKind.i64.min=-9223372036854775808 from rfl,show IntKind.i64.max=9223372036854775807 from rfl,Yas]
 simp_all;omega
theorem Zgc{a b:Int}(h:(DataW.lit (.int .i64 a):DataW Unit)=.lit (.int .i64 b)):a=b:=by simp_all
theorem Zjp{k:Nat}(a:k<9223372036854775808):keyOf prog 3 (.int .i64 (k:Int))=some (kI k):=Maps.keyOf_int_mk underlying3 (Zhl a)
theorem intK:Maps.Keyed prog 3:=Maps.int_keyed underlying3
theorem Zz4{n:Nat}{D:DataW Unit}{R:Value->Option (DataW Unit×List MemPlace)}{kt:TypeId}(h:w.ownsMap prog kt R b n D)(a:Maps.size D<=N):w.ownsMap prog kt R b N D:=by
 obtain⟨es,cl,d,e,g,c⟩:=h;refine⟨es,cl,d,e,?_,c⟩;rw[c]at a;simpa [Maps.size,length_sorted] using a
theorem pig : ∀ (N : Nat) (es : List (Lit × DataW Unit)), es.Pairwise (fun p q => p.1 ≠ q.1) -> (∀ p ∈ es, ∃ k, k < N /\ p.1 = kI k) -> es.length <= N
  | 0,[],_,_=>Yac _
  | 0,p::_,_,h=>by obtain⟨k,g,_⟩:=h p (Yay ..);omega
  | N + 1, es, c, h => by
    have i:=Maps.length_strike (k:=kI N) es c
    have j := pig N (es.filter fun p => !p.1.sameKey (kI N)) (c.filter _) (fun p a => by
      rw[Ycg]at a;obtain⟨k,g,e⟩:=h p a.1;refine⟨k,?_,e⟩;rcases Yav k N with d|d
      · exact d
      · obtain rfl:k=N:=by omega
        rw[e,Ydq (by trivial)]at a
        simp_all)
    split at i <;> omega
def MapZ(w:World)(b N:Nat)(f:Nat->Option Int):Prop:=∃D:DataW Unit,w.ownsMap prog 3 (plainElem prog 3) b N D/\(∀l,Maps.has D l=true->∃k,k<N/\l=kI k)/\∀k,k<N->(f k=none->Maps.has D (kI k)=false)/\∀v,f k=some v->Maps.has D (kI k)=true/\∀z,D.atKey (kI k) z=.lit (.int .i64 v)
theorem MapZ.lt(h:MapZ w b N f):b<w.heap.size:=by obtain⟨D,a,_⟩:=h;exact a.lt
theorem MapZ.move(h:MapZ w b N f)(a:w'.heap[b]?=w.heap[b]?):MapZ w' b N f:=by
 obtain⟨D,⟨es,cl,c,d⟩,e⟩:=h;exact⟨D,⟨es,cl,a.trans c,d⟩,e⟩
theorem MapZ.obj(h:MapZ w b N f):∃es cl,w.heap[b]?=some (.map es cl):=by
 obtain⟨D,⟨es,cl,a,_⟩,_⟩:=h
 simp_all
theorem MapZ.congr(h:MapZ w b N f){g:Nat->Option Int}(d:∀k,k<N->g k=f k):MapZ w b N g:=by
 obtain⟨D,a,c,e⟩:=h;exact⟨D,a,c,fun k i=>by simp_all⟩
theorem ZCj{D:DataW Unit}{n:Nat}(h:w.ownsMap prog 3 (plainElem prog 3) b n D)(d:∀l,Maps.has D l=true->∃k,k<N/\l=kI k):w.ownsMap prog 3 (plainElem prog 3) b N D:=by
 obtain⟨es,rfl,e,a⟩:=h.entries intK;exact Zz4 h (pig N _ e (fun p c=>d _ (Ycz.2 ⟨p,c,Ydq (a p c)⟩)))
theorem MapZ.made(w:World)(N:Nat):MapZ (w.alloc (.map #[] 0)) w.heap.size N (fun _=>none):=⟨.map _,(World.ownsMap_made w _ _ _).mono (Yag _),fun l h=>(by cases h),fun k _=>⟨fun _=>rfl,fun v h=>(by cases h)⟩⟩
theorem MapZ.look(h:MapZ w b N f)(d:k<N)(p:N<9223372036854775808)(W:World)(e:W.heap[b]?=w.heap[b]?):(Instr.lookup 169 (.map (some b)) (.int .i64 (k:Int)) true).run prog W=.ok (.tuple #[.int .i64 ((f k).getD 0),.bool (f k).isSome]) W:=by
 obtain⟨D,g,q,i⟩:=h.move e;obtain⟨v,ps,j,l⟩:=g.look_ok intK underlying169 (zeroValue3 _) (plainElem_int underlying3 Dc) (Zjp (k:=k) Om);obtain⟨c,rfl,m,_⟩:=plainElem_int_inv underlying3 l;have a:D.atKey _ _=.lit _:=congrArg Prod.fst m;rw[j];cases n:f k with
 | none=>
  have o:=(i k d).1 n;rw[Maps.atKey_of_not_has o]at a
  simp_all
 | some u=>
  simp_all
theorem MapZ.get(h:MapZ w b N f)(a:k<N)(m:N<9223372036854775808)(W:World)(d:W.heap[b]?=w.heap[b]?):(Instr.lookup 169 (.map (some b)) (.int .i64 (k:Int)) false).run prog W=.ok (.int .i64 ((f k).getD 0)) W:=by
 obtain⟨D,e,n,g⟩:=h.move d;obtain⟨c,i,j,_⟩:=e.lookup_int intK underlying169 underlying3 (zeroValue3 _) (Zjp (k:=k) Om);rw[i];cases l:f k with
 | none=>
  rw[Maps.atKey_of_not_has ((g k a).1 l)]at j
  simp_all
 | some u=>
  simp_all
theorem MapZ.put(h:MapZ w b N f)(o:k<N)(C:N<9223372036854775807)(p:(Lit.int .i64 v).wf=true)(W:World)(q:W.heap[b]?=w.heap[b]?) :
  ∃c,(Instr.mapUpdate 169 (.map (some b)) (.int .i64 (k:Int)) (.int .i64 v)).run prog W=.ok () c/\MapZ c b N (fun j=>if j=k then some v else f j)/\W.grownBy c (some b):=by
 obtain⟨D,m,E,r⟩:=h.move q;obtain⟨c,s,t,x⟩:=m.update intK underlying169 (by assumption) (Zjp (k:=k) Om) (plainElem_int underlying3 p);have n:=m.isMap;have i:WideAt.IsKeyLit (kI k):=by trivial
 have a : ∀ l, Maps.has (D.put _ (.lit (.int .i64 v))) l = true -> ∃ j, j < N /\ l = kI j := fun l A => by
   by_cases e:l=kI k
   · exact⟨k,o,e⟩
   · rw[Maps.has_put_other e]at A;simp_all
 refine⟨c,s,⟨_,ZCj t a,a,fun j B=>?_⟩,x⟩;by_cases e:j=k
 ·subst e;simp only[if_pos];refine⟨fun h=>(by cases h),fun u d=>?_⟩;injection d with d;subst d;exact⟨Maps.has_put_same n i _,fun z=>Maps.atKey_put_same n i _ z⟩
 ·have g:kI j≠kI k:=fun h=>e (Zjo h);simp only[if_neg e];refine⟨fun h=>by rw[Maps.has_put_other g];simp_all,fun u d=>?_⟩;rw[Maps.has_put_other g];exact⟨((r j B).2 u d).1,fun z=>by rw[Maps.atKey_put_other g];simp_all⟩
theorem MapZ.del(h:MapZ w b N f)(g:k<N)(t:N<9223372036854775808)(W:World)(i:W.heap[b]?=w.heap[b]?) :
  ∃a,(∀ty,(Builtin.delete_ #[169,3] ty #[.map (some b),.int .i64 (k:Int)]).run prog W=.ok (.tuple #[]) a)/\MapZ a b N (fun j=>if j=k then none else f j)/\W.grownBy a (some b):=by
 obtain⟨D,m,x,n⟩:=h.move i;obtain⟨a,o,p,q⟩:=m.drop intK underlying169 (Zjp (k:=k) Om) 0;refine⟨a,fun ty=>o,⟨_,p,fun l r=>?_,fun j s=>?_⟩,q.grown⟩
 ·by_cases e:l=kI k
  ·exact⟨k,g,e⟩
  ·rw[Maps.has_del_other e]at r;simp_all
 ·by_cases e:j=k
  ·subst e;simp only[if_pos];exact⟨fun _=>Maps.has_del_same,fun u d=>(by cases d)⟩
  ·have c:kI j≠kI k:=fun h=>e (Zjo h);simp only[if_neg e];refine⟨fun h=>by rw[Maps.has_del_other c];simp_all,fun u d=>?_⟩;rw[Maps.has_del_other c];exact⟨((n j s).2 u d).1,fun z=>by rw[Maps.atKey_del_other c];simp_all⟩
theorem MapZ.clear (h : MapZ w b N f) (W : World) (d : W.heap[b]? = w.heap[b]?) : ∃ c, (∀ T, (Builtin.clear_ #[169] T #[.map (some b)]).run prog W = .ok (.tuple #[]) c) /\ MapZ c b N (fun _ => none) /\ W.grownBy c (some b) := by
  obtain⟨es,cl,a⟩:=h.obj;rw[<-d]at a;have g:=(Yae.1 a).1;refine⟨setBlock W b (.map #[] cl),?_,⟨.map _,⟨#[],cl,by simp[setBlock,g],?_,Yag _,rfl⟩,fun l h=>(by cases h),fun k _=>⟨fun _=>rfl,fun v h=>(by cases h)⟩⟩,⟨rfl,rfl,rfl,by simp[setBlock],fun i _ j=>by simp[setBlock,show b≠i from fun e=>j (by rw[e])]⟩⟩
  · intro T
    simp[Builtin.clear_,run_underlying _,Ybt a,Ych _ a,Result.andThen,setBlock]
  · exact⟨by simp,⟨by simp,by simp,by simp⟩,by simp⟩
end
end Go.Proofs.YtcdgkkfipdoeeaaGreatDoor
namespace Go.Proofs.YtcdgkkfipdoeeaaGreatDoor
open Go.RowKit LS Go.Proofs.Tryz
def insC(x:Nat×Nat):List Value:=[Vi x.1,Vi x.2]
def nI:Option Nat->Int
 | none=>-1
 | some n=>n
def nodC(x:Nq):List Value:=[Vi x.op,Vi x.arg,Vi (nI x.fs),Vi (nI x.sn)]
def intC(n:Nat):Value:=Vi (n:Int)
theorem ZgL{α:Type}(g:α->List Value)(s:Nat)(a:∀x,(g x).length=s):∀(l:List α) (i j:Nat) (d:i<l.length),j<s->(l.flatMap g)[i*s+j]?=(g l[i])[j]?
 | [],i,_,d,_=>absurd d (Ya1 _)
 | x::l,0,j,_,e=>by rw[Ycd,Nat.zero_mul,Ycf,Ybr (by simp_all)];rfl
 | x :: l, i + 1, j, d, e => by
   rw[Ycd,Yb3 (by rw[a,Yfv];omega),a,show(i+1)*s+j - s=i*s+j by rw[Yfv];omega];exact ZgL g s a l i j (by simp_all) e
structure NOne (i:Nat) (x:Nq):Prop where
 low:∀t∈Zg x,t<i
 sn:x.fs=none->x.sn=none
 neg:x.op=4->∃a,x.fs=some a
 or:x.op=10->∃a b,x.fs=some a/\x.sn=some b
 op:x.op<=10
 ar : -1000000000<=x.arg/\x.arg<=1000000000
 nn:x.op≠0->0<=x.arg
def NOk(l:List Nq):Prop:=∀i (h:i<l.length),NOne i l[i]
structure CX where
 base:Nat
 cb:Nat
 gb:Nat
 lb:Nat
 sb:Nat
 tb:Nat
 nb:Nat
 lc:Nat
 nc:Nat
 gc:List Value
 jx:List Nq
def CX.chg(X:CX)(cv iv:Value)(k:Nat):Prop:=k=X.cb∨k=X.lb∨k=X.sb∨k=X.tb∨cv.ownBlock=some k∨iv.ownBlock=some k
def coC(X:CX)(cv iv:Value):List Value:=[Vp X.gb,.slice (some ⟨X.lb,0,none⟩) X.jx.length X.lc,.map (some X.sb),.map (some X.tb),cv,iv]
structure Co (w:World) (X:CX) (cv iv:Value) (c:Cq):Prop where
 box:BAt w X.cb (coC X cv iv) 171
 gbox:BAt w X.gb X.gc 176
 gn:X.gc[2]?=some (.slice (some ⟨X.nb,0,none⟩) X.jx.length X.nc)
 nrow:w.ownsRow X.base 232 4 (.slice (some ⟨X.nb,0,none⟩) X.jx.length X.nc) X.jx.length (X.jx.flatMap nodC)
 left:w.ownsRow X.base 3 1 (.slice (some ⟨X.lb,0,none⟩) X.jx.length X.lc) X.jx.length (c.left.map intC)
 jy:MapZ w X.sb 16 (fun s=>c.jy.getD s none)
 slen:c.jy.length=16
 tak:∃f,MapZ w X.tb X.jx.length f
 cons:w.ownsRow X.base 3 1 cv c.jj.length (c.jj.map (Value.int .i64))
 jq:w.ownsRow X.base 159 2 iv c.jq.length (c.jq.flatMap insC)
 ne1:cv.ownBlock≠some X.lb
 ne2:X.sb≠X.tb
 bas:X.base<=X.cb/\X.base<=X.sb/\X.base<=X.tb
 bsz:X.base<=w.heap.size
 nsz:X.jx.length<=1000000
 nok:NOk X.jx
 lbd:∀j,c.left.getD j 0<=1000000000
section
variable {w w' w1 w2:World} {X:CX} {cv iv cv' iv':Value} {c c':Cq}
theorem Co.llen(h:Co w X cv iv c):c.left.length=X.jx.length:=by have:=h.left.1;simp_all
def ZdM(w:World)(v v':Value):Prop:=∀k,v'.ownBlock=some k->v.ownBlock=some k∨w.heap.size<=k
def CoP(w w':World)(X:CX)(cv iv:Value)(c':Cq):Prop:=∃cv' iv',Co w' X cv' iv' c'/\KeepS (X.chg cv iv) w w'/\ZdM w cv cv'/\ZdM w iv iv'
theorem CoP.refl(h:Co w X cv iv c):CoP w w X cv iv c:=⟨cv,iv,h,KeepS.refl _ _,fun _ h=>.inl h,fun _ h=>.inl h⟩
theorem ZdM.trans {v v1 v2 : Value} (h : ZdM w v v1) (q : ZdM w1 v1 v2) (e : w.heap.size <= w1.heap.size) : ZdM w v v2 := fun k d => by
  rcases q k d with a|a
  · exact h k a
  omega
theorem CoP.trans{c1:Cq}{cv1 iv1:Value}(a:KeepS (X.chg cv iv) w w1)(f1:ZdM w cv cv1)(f2:ZdM w iv iv1)(q:CoP w1 w2 X cv1 iv1 c1):CoP w w2 X cv iv c1:=by
 obtain⟨cv2,iv2,d,e,f,g⟩:=q;refine⟨cv2,iv2,d,a.trans e (fun j i k=>?_),f1.trans f a.size,f2.trans g a.size⟩;rcases i with h|h|h|h|h|h
 ·exact .inl h
 ·exact .inr (.inl h)
 ·exact .inr (.inr (.inl h))
 ·exact .inr (.inr (.inr (.inl h)))
 ·rcases f1 j h with h|h
  ·exact .inr (.inr (.inr (.inr (.inl h))))
  ·omega
 ·rcases f2 j h with h|h
  ·exact .inr (.inr (.inr (.inr (.inr h))))
  ·omega
theorem Co.keep{S:Nat->Prop}(h:Co w X cv iv c)(a:KeepS S w w')(g:¬S X.cb)(i:¬S X.gb)(p:¬S X.nb)(q:¬S X.lb)(l:¬S X.sb)(m:¬S X.tb)(n:∀k,cv.ownBlock=some k->¬S k)(o:∀k,iv.ownBlock=some k->¬S k):Co w' X cv iv c:=
 ⟨a.bat h.box g, a.bat h.gbox i, h.gn, a.own h.nrow (fun j d => by injection d with d; simp_all), a.own h.left (fun j d => by injection d with d; simp_all), h.jy.move (a.block _ h.jy.lt l), h.slen, by
   obtain⟨f,e⟩:=h.tak;exact⟨f,e.move (a.block _ e.lt m)⟩,a.own h.cons n,a.own h.jq o,h.ne1,h.ne2,h.bas,Yah h.bsz a.size,h.nsz,h.nok,h.lbd⟩
theorem Co.below(h:Co w X cv iv c)(a:BW w w'):Co w' X cv iv c:=h.keep (KeepS.ofBelow _ a) id id id id id id (fun _ _=>id) (fun _ _=>id)
theorem ZbU {a k : Nat} {es : Array MapEntry} {cl : Nat} {cs : Array Value} {T : TypeId} {fr : Nat × Nat} (h : w.heap[a]? = some (.map es cl)) (q : w.heap[k]? = some (.cells cs T fr)) : a ≠ k := fun e => by
  simp_all
theorem Zcw{base:Nat}{e:TypeId}{sz:Nat}{v:Value}{n:Nat}{xs:List Value}(h:w.ownsRow base e sz v n xs){k:Nat}(a:v.ownBlock=some k):∃cs fr,w.heap[k]?=some (.cells cs e fr):=by
 rcases h.2 with ⟨d,_⟩|⟨g,cap,cur,f,_,i,_⟩
 ·rw[d]at a;cases a
 ·rw[f]at a;injection a with a
  simp_all
theorem Zc7{k:Nat}{cs cs':Array Value}{T T':TypeId}{fr fr':Nat×Nat}(h:w.heap[k]?=some (.cells cs T fr))(q:w.heap[k]?=some (.cells cs' T' fr')):T=T':=by
 simp_all
structure CoN (X:CX) (cv iv:Value):Prop where
 cg:X.cb≠X.gb
 cn:X.cb≠X.nb
 cl:X.cb≠X.lb
 cs:X.cb≠X.sb
 ct:X.cb≠X.tb
 cc:cv.ownBlock≠some X.cb
 ci:iv.ownBlock≠some X.cb
 gl:X.gb≠X.lb
 gs:X.gb≠X.sb
 gt:X.gb≠X.tb
 gcv:cv.ownBlock≠some X.gb
 giv:iv.ownBlock≠some X.gb
 nl:X.nb≠X.lb
 ns:X.nb≠X.sb
 nt:X.nb≠X.tb
 ncv:cv.ownBlock≠some X.nb
 niv:iv.ownBlock≠some X.nb
 ls:X.lb≠X.sb
 lt:X.lb≠X.tb
 lcv:cv.ownBlock≠some X.lb
 liv:iv.ownBlock≠some X.lb
 st:X.sb≠X.tb
 scv:cv.ownBlock≠some X.sb
 siv:iv.ownBlock≠some X.sb
 tcv:cv.ownBlock≠some X.tb
 tiv:iv.ownBlock≠some X.tb
 civ:∀k,cv.ownBlock=some k->iv.ownBlock≠some k
theorem Co.ne(h:Co w X cv iv c):CoN X cv iv:=by
 obtain⟨nc,nf,i⟩:=Zcw h.nrow rfl;obtain⟨lc,lf,j⟩:=Zcw h.left rfl;obtain⟨e1,c1,l⟩:=h.jy.obj;obtain⟨f,q⟩:=h.tak;obtain⟨e2,c2,m⟩:=q.obj;have g:=h.box;have n:=h.gbox;have C:∀ {k},cv.ownBlock=some k->∃cs fr,w.heap[k]?=some (.cells cs 3 fr):=fun d=>Zcw h.cons d;have I:∀ {k},iv.ownBlock=some k->∃cs fr,w.heap[k]?=some (.cells cs 159 fr):=fun d=>Zcw h.jq d;have T:∀ {a k:Nat} {cs cs':Array Value} {T T':TypeId} {fr fr':Nat×Nat},w.heap[a]?=some (.cells cs T fr)->w.heap[k]?=some (.cells cs' T' fr')->T≠T'->a≠k:=fun o r p e=>by simp_all
 have CT:∀ {a:Nat} {cs:Array Value} {T':TypeId} {fr:Nat×Nat},w.heap[a]?=some (.cells cs T' fr)->T'≠3->cv.ownBlock≠some a:=fun o p d=>by simp_all
 have IT:∀ {a:Nat} {cs:Array Value} {T':TypeId} {fr:Nat×Nat},w.heap[a]?=some (.cells cs T' fr)->T'≠159->iv.ownBlock≠some a:=fun o p d=>by simp_all
 have CM:∀ {a:Nat} {es:Array MapEntry} {cl:Nat},w.heap[a]?=some (.map es cl)->cv.ownBlock≠some a:=fun o d=>by simp_all
 have IM:∀ {a:Nat} {es:Array MapEntry} {cl:Nat},w.heap[a]?=some (.map es cl)->iv.ownBlock≠some a:=fun o d=>by simp_all
 exact ⟨T g n Dc, T g i Dc, T g j Dc, (ZbU l g).symm, (ZbU m g).symm, CT g Dc, IT g Dc, T n j Dc, (ZbU l n).symm, (ZbU m n).symm, CT n Dc, IT n Dc, T i j Dc, (ZbU l i).symm, (ZbU m i).symm, CT i Dc, IT i Dc, (ZbU l j).symm, (ZbU m j).symm, h.ne1, IT j Dc, h.ne2, CM l, IM l, CM m, IM m, fun k d s => by
   obtain⟨_,_,o⟩:=C d
   simp_all⟩
end
end Go.Proofs.YtcdgkkfipdoeeaaGreatDoor
namespace Go.Proofs.YtcdgkkfipdoeeaaGreatDoor
open Go.RowKit LS Go.Proofs.Tryz
section
variable {w w' w1 w2:World} {X:CX} {cv iv cv' iv':Value} {c c':Cq} {S S1:Nat->Prop}
theorem Tryz.infoIns2:(Tryz.prog.info? 159).map (fun i=>(i.zero,i.size,i.bytes))=some (some (.agg #[Vi 0,Vi 0]),2,16):=by kernel_rfl
theorem KeepS.mono(h:KeepS S w w')(a:∀k,S k->S1 k):KeepS S1 w w':=⟨h.os,h.tape,h.output,h.size,fun k d e=>h.block k d (fun f=>e (a k f))⟩
theorem KeepS.set(w:World)(a i:Nat)(v:Value):KeepS (fun k=>k=a) w (w.setCell ⟨a,i,none⟩ v):=KeepS.grown (ZA (ZbM w _) (.inl rfl) _) (fun _ e=>(Yax e).symm)
theorem KeepS.and(h:KeepS S w w1)(q:KeepS S1 w1 w2):KeepS (fun k=>S k∨S1 k) w w2:=(h.mono (fun _=>.inl)).trans (q.mono (fun _=>.inr)) (fun _ h _=>h)
theorem BAt.setC{a:Nat}{l:List Value}{t:TypeId}(h:BAt w a l t)(i:Nat)(v:Value):BAt (w.setCell ⟨a,i,none⟩ v) a (l.set i v) t:=by
 unfold BAt at h ⊢;simp only[World.setCell,Ybn,h,if_true,Ybf];show some (Obj.cells (l.toArray.setIfInBounds i v) t (0,0))=_;rw[Yc4]
theorem Zk4 {l : List Value} {t : TypeId} : ∀ j u, l[j]? = some u -> (w.alloc (.cells ⟨l⟩ t)).cell? ((⟨w.heap.size, 0, none⟩ : Addr).add j) = some u := fun j u h => by
  rw[ZfO];exact((show BAt _ _ l t from bnw).cell j).trans h
theorem Zwk{α:Type}(g:α->List Value)(l:List α)(x:α):(l++[x]).flatMap g=l.flatMap g++g x:=by simp
theorem CoP.step(a:BW w w1)(q:CoP w1 w2 X cv iv c):CoP w w2 X cv iv c:=CoP.trans (KeepS.ofBelow _ a) (fun _ h=>.inl h) (fun _ h=>.inl h) q
theorem Co.insApp(h:Co w X cv iv c){na:Option Addr}{nn nc:Nat}(i:c'.left=c.left/\c'.jy=c.jy/\c'.jj=c.jj)(p:w.grownBy w1 iv.ownBlock)(q:ZdM w iv (.slice na nn nc))(n:w1.ownsRow X.base 159 2 (.slice na nn nc) c'.jq.length (c'.jq.flatMap insC)) :
  BAt w1 X.cb (coC X cv iv) 171/\CoP w (w1.setCell ⟨X.cb,5,none⟩ (.slice na nn nc)) X cv iv c':=by
 have N:=h.ne;have m:=KeepS.grown p (fun _ e=>e);have l:=m.bat h.box N.ci;have a:=m.and (KeepS.set _ X.cb 5 (.slice na nn nc));have g:∀ {k:Nat},iv.ownBlock≠some k->k≠X.cb->¬(iv.ownBlock=some k∨k=X.cb):=fun r s t=>t.elim r s;refine⟨l,cv,.slice _ _ _,⟨l.setC 5 _,a.bat h.gbox (g N.giv N.cg.symm),h.gn,a.own h.nrow (fun j d=>by injection d with d;subst d;exact g N.niv N.cn.symm),?_,?_,i.2.1▸h.slen,?_,?_,?_,N.lcv,h.ne2,h.bas,Yah h.bsz a.size,h.nsz,h.nok,i.1▸h.lbd⟩,a.mono (fun k m=>m.elim (fun e=>.inr (.inr (.inr (.inr (.inr e))))) .inl),fun _ h=>.inl h,q⟩
 ·rw[i.1];exact a.own h.left (fun j d=>by injection d with d;subst d;exact g N.liv N.cl.symm)
 ·rw[i.2.1];exact h.jy.move (a.block _ h.jy.lt (g N.siv N.cs.symm))
 ·obtain⟨f,o⟩:=h.tak;exact⟨f,o.move (a.block _ o.lt (g N.tiv N.ct.symm))⟩
 ·rw[i.2.2];exact a.own h.cons (fun j d=>g (N.civ j d) (fun e=>by subst e;exact N.cc d))
 ·exact(KeepS.set _ _ 5 _).own n (fun j d e=>by subst e;exact absurd (Zcx n l Dc) (fun h=>h d.symm))
theorem ZfY(h:Co w X cv iv c)(op arg:Nat)(D:c.jq.length<=1000000) :
  CP 127 #[Vp X.cb,Vi op,Vi arg] w fun e w'=>e=.returned (.tuple #[])/\Hid (CoP w w' X cv iv (Zc op arg c)):=by
 obtain⟨i0,E,r,s,t⟩:=info_parts Tryz.infoIns2;have v:=hid h;have i:Hid (∀o,Co (w.alloc o) X _ _ c):=hid (fun o=>v.below Zbal);obtain⟨ia,ic,x⟩:=Zl h.jq;subst x;have d:=h.jq;have m5:w.cell? _=some _:=h.box.cell 5;have j:=h.box.lt;have H:=h.bsz;obtain⟨n,q⟩:∃n,n=c.jq.length:=⟨_,rfl⟩
 rw[<-q]at d m5 D v i ⊢;have F:=hid q;clear h q;go_enter func127,ntmps127
 go_wp2_with (at_builtin;refine wpList_append_own_at _ rfl (.tmp 10) (.tmp 14) 57 rfl X.base 159 i0 (.agg #[Vi 0,Vi 0]) 2 16 underlying57 E r s t rfl Dc _ _ _ rfl (d.alloc _) ⟨w.heap.size,0,none⟩ 1 1 (insC (op,arg)) rfl rfl Zk4 ?c2 ?c3 ?c4 ?c5 ?_)
 case c2=>intro u z;simp[insC]at z;rcases z with rfl|rfl <;> rfl
 case c3=>unfold maxLen;omega
 case c4=>omega
 case c5=>simp;omega
 intro v' G a f _ l;obtain⟨g3,cp3,A⟩:=ZF a Om;subst A
 obtain ⟨m, p⟩ := (i.out _).insApp (c' := Zc op arg c) ⟨rfl, rfl, rfl⟩ f (fun k B => l.elim (fun e => Or.inl (e.symm.trans B)) (fun e => Or.inr (by have := Yax (e.symm.trans B); simp; omega))) (by
   show G.ownsRow _ _ _ _ (c.jq++[(op,arg)]).length ((c.jq++[(op,arg)]).flatMap insC);rw[Zwk,Yab,<-F.out];exact a)
 have g:=hid m;have C:=hid (CoP.step Zbal p);clear a f m p m5 d j l;have m5:=g.cell 5;have mf:=g.frozen 5;have j:=g.lt;simp only[coC,Ye8,Ycy]at m5;go_wp2;exact bodyPost_end (results_none rfl _ _ _) rfl ⟨rfl,C⟩
theorem Zha{n s:Nat}{l:List (Option Int)}(h:ZK n l=some s):s<16/\l.getD s none=some (n:Int):=by
 unfold ZK at h;have a:=List.find?_some h;have d:=Yex h;exact⟨Yb9.1 d,by simpa using a⟩
theorem ZdZ{s:Nat}{l:List (Option Int)}(h:ZbQ l=some s):s<16/\l.getD s none=none:=by
 unfold ZbQ at h;have a:=List.find?_some h;have d:=Yex h;exact⟨Yb9.1 d,by simpa using a⟩
theorem Zpj {p : Nat -> Bool} : ∀ {m k : Nat}, k <= m -> (∀ j, j < k -> p j = false) -> (List.range m).find? p = if k < m /\ p k = true then some k else (List.range m).find? p := fun {m k} e h => by
  split
  · rename_i a
    rw[List.find?_range_eq_some];exact⟨a.2,Yb9.2 a.1,fun j d=>by rw[h j d];rfl⟩
  · rfl
theorem Znb(h:Co w X cv iv c)(n:Nat) :
  CP 126 #[Vp X.cb,Vi n] w fun e w'=>e=.returned (.tuple #[Vi ((ZK n c.jy).getD 0:Nat),.bool (ZK n c.jy).isSome])/\w'=w:=by
 have m2:w.cell? _=some _:=h.box.cell 2;have z:=h.box.lt;have v:Hid (∀k:Nat,k<16->(Instr.lookup _ _ _ _).run _ w=.ok _ w):=hid (fun k q=>h.jy.look q Dc w rfl);clear h;go_enter func126,ntmps126;go_wp2
 go_loopw [9] (fun i wr=>wr=w/\∃k:Nat,k<=16/\i=Vi k/\Hid (∀j,j<k->c.jy.getD j none≠some (n:Int))) (fun i _=>16 - (intOf i).toNat)
 case atStart=>exact⟨rfl,0,by omega,rfl,hid (fun j g=>by omega)⟩
 case round=>
  obtain⟨rfl,k,q,rfl,l⟩:=hrel;by_cases m:k<16
  ·have A:(k:Int)<16:=by omega
   have a:=v k m
   have r:Hid (ZK n c.jy=if c.jy.getD k _=some _ then some k else ZK n c.jy):=hid (by
    have:=Zpj q (fun j g=>decide_eq_false (l j g));simpa [ZK,m] using this)
   generalize o:c.jy.getD k none=sl at a r;have p:=hid o;clear o;cases sl with
   | none=>
    simp only[Yc9,Yb7]at a;go_wp2
    go_roundw
    case rel => exact ⟨trivial, k + 1, by omega, by simp, hid (fun j g => by
      rcases Yav j k with d|d
      · exact l j d
      · obtain rfl:j=k:=by omega
        rw[p];simp)⟩
    case measure=>simp[intOf];omega
   | some u=>
    simp only[Ya6,Yb0]at a;by_cases t:u=(n:Int)
    ·subst t;have f:Hid (ZK n _=some k):=hid (by rw[r,if_pos rfl]);clear r;go_wp2;go_ret2;rw[f];exact⟨rfl,rfl⟩
    ·go_wp2
     go_roundw
     case rel => exact ⟨trivial, k + 1, by omega, by simp, hid (fun j g => by
       rcases Yav j k with d|d
       · exact l j d
       · obtain rfl:j=k:=by omega
         rw[p];simpa using t)⟩
     case measure=>simp[intOf];omega
  ·obtain rfl:k=16:=by omega
   have f:Hid (ZK n c.jy=none):=by
    unfold ZK;rw[Yc2];intro s x;simpa using l s (Yb9.1 x)
   go_wp2;go_ret2;rw[f];exact⟨rfl,rfl⟩
theorem Zps(h:Co w X cv iv c) :
  CP 130 #[Vp X.cb] w fun e w'=>e=.returned (.tuple #[Vi ((ZbQ c.jy).getD 0:Nat),.bool (ZbQ c.jy).isSome])/\w'=w:=by
 have m2:w.cell? _=some _:=h.box.cell 2;have v:=h.box.lt;have r:Hid (∀k:Nat,k<16->(Instr.lookup _ _ _ _).run _ w=.ok _ w):=hid (fun k l=>h.jy.look l Dc w rfl);clear h;go_enter func130,ntmps130;go_wp2
 go_loopw [7] (fun i wr=>wr=w/\∃k:Nat,k<=16/\i=Vi k/\Hid (∀j,j<k->c.jy.getD j none≠none)) (fun i _=>16 - (intOf i).toNat)
 case atStart=>exact⟨rfl,0,by omega,rfl,hid (fun j m=>by omega)⟩
 case round=>
  obtain⟨rfl,k,l,rfl,n⟩:=hrel;by_cases f:k<16
  ·have x:(k:Int)<16:=by omega
   have a:=r k f
   have o:Hid (ZbQ c.jy=if c.jy.getD k _=none then some k else ZbQ c.jy):=hid (by
    have:=Zpj l (fun j m=>decide_eq_false (n j m));simpa [ZbQ,f] using this)
   generalize g:c.jy.getD k none=sl at a o;have p:=hid g;clear g;cases sl with
   | none=>
    simp only[Yc9,Yb7]at a;have d:Hid (ZbQ _=some k):=hid (by rw[o,if_pos rfl]);clear o;go_wp2;go_ret2;rw[d];exact⟨rfl,rfl⟩
   | some u=>
    simp only[Ya6,Yb0]at a;go_wp2
    go_roundw
    case rel => exact ⟨trivial, k + 1, by omega, by simp, hid (fun j m => by
      rcases Yav j k with q|q
      · exact n j q
      · obtain rfl:j=k:=by omega
        rw[p];simp)⟩
    case measure=>simp[intOf];omega
  ·obtain rfl:k=16:=by omega
   have d:Hid (ZbQ c.jy=none):=by
    unfold ZbQ;rw[Yc2];intro s t;simpa using n s (Yb9.1 t)
   go_wp2;go_ret2;rw[d];exact⟨rfl,rfl⟩
end
end Go.Proofs.YtcdgkkfipdoeeaaGreatDoor

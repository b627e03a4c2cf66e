/- Parts. -/
import Derived.Test.YtkodhpilkaihjaaGreatDoorF02
import Derived.Deep.Trees
import Derived.Deep.RegionWith
import Derived.Deep.DeepCutAuto
import Derived.Deep.Heap
import Derived.Deep.RegionLaw
set_option maxRecDepth 100000
set_option maxHeartbeats 2000000
namespace Go.Proofs.YtkodhpilkaihjaaGreatDoor.LS
open Go Go.RowKit
structure Nd where
 kind:Nat
 op:Nat
 n:Int
 name:List UInt8
 conds:List (List UInt8×List UInt8×Bool)
 by_:List (List UInt8)
abbrev Tr:=Go.Deep.BT Nd
abbrev Out (α:Type):=Except (Nat×Nat) (α×List Tok)
def Zcz(a:Nd):Tr:=.node 0 0 a .nil .nil
def nd0(kind op:Nat):Nd:=⟨kind,op,0,[],[],[]⟩
def ZU(l:List UInt8):Nat->Nat->List Tok
 | 0,_=>[]
 | n+1,i=>if (Zs l i).1.kind=0∨(Zs l i).1.kind=5 then [(Zs l i).1] else (Zs l i).1::ZU l n (Zs l i).2
def hd(ts:List Tok):Tok:=ts.headD ⟨0,[],0⟩
def wOr:List UInt8:=[111,114]
def wBy:List UInt8:=[98,121]
def Zbp:List (List UInt8):=[[115,117,109],[109,97,120],[109,105,110],[99,111,117,110,116]]
def ZbF:List (List UInt8):=[[116,111,116,97,108],[112,101,97,107],[108,111,119],[115,105,122,101],[114,105,115,101]]
def idx(w:List UInt8):List (List UInt8)->Option Nat
 | []=>none
 | x::l=>if x=w then some 0 else (idx w l).map (· + 1)
def isT(s:List UInt8)(t:Tok):Bool:=(t.kind == 2 || t.kind == 4) && t.txt == s
def bnd{α β:Type}(x:Out α)(f:α->List Tok->Out β):Out β:=match x with
 | .error e=>.error e
 | .ok (a,ts)=>f a ts
def Zp(s:List UInt8)(ts:List Tok):Out Unit:=if isT s (hd ts)then .ok ((),ts.tail)else .error (2,(hd ts).at_)
def ZH(k:Nat)(ts:List Tok):Out (List UInt8):=if (hd ts).kind=k then .ok ((hd ts).txt,ts.tail)else .error (2,(hd ts).at_)
def ZM{α:Type}(item:List Tok->Out α)(close:List UInt8):Nat->List α->List Tok->Out (List α)
 | 0,_,_=>.error (0,0)
 | n + 1, acc, ts => if isT close (hd ts) then .ok (acc, ts.tail) else
   bnd (if acc.isEmpty then .ok ((),ts)else Zp [44] ts) fun _ r=>bnd (item r) fun a r=>ZM item close n (acc++[a]) r
def Zd5(ts:List Tok):Out Bool:=if isT [33,61] (hd ts)then .ok (true,ts.tail)else bnd (Zp [61] ts) fun _ r=>.ok (false,r)
def ZS(ts:List Tok):Out (List UInt8×List UInt8×Bool):=bnd (ZH 2 ts) fun a r=>bnd (Zd5 r) fun n r=>bnd (ZH 3 r) fun b r=>.ok ((a,b,n),r)
def Zga(t:Tok):Bool:=(idx t.txt Zbp).isSome || (idx t.txt ZbF).isSome || isT wOr t || isT wBy t
def Zel(ts:List Tok):Out (List UInt8):=if Zga (hd ts)then .error (2,(hd ts).at_)else ZH 2 ts
def selP(ts:List Tok):Out Nd:=bnd (Zel ts) fun a r=>if isT [123] (hd r)then bnd (ZM ZS [125] r.length [] r.tail) fun cs r=>.ok (⟨1,0,0,a,cs,[]⟩,r)else .ok (⟨1,0,0,a,[],[]⟩,r)
def ZdK(ts:List Tok):Out Int:=if (hd ts).kind=1/\1<=numI 1000 (hd ts).txt then .ok (numI 1000 (hd ts).txt,ts.tail)else .error (2,(hd ts).at_)
def winP(o:Nat)(ts:List Tok):Out Tr:=bnd (Zp [40] ts) fun _ r=>bnd (selP r) fun p r=>bnd (Zp [91] r) fun _ r=>bnd (ZdK r) fun n r=>bnd (Zp [93] r) fun _ r=>bnd (Zp [41] r) fun _ r=>.ok (Zcz ⟨2,o,n,p.name,p.conds,[]⟩,r)
def ZbU(rec:Nat->List Tok->Nat->Out Tr)(ts:List Tok)(deep:Nat):Out Tr:=bnd (Zp [40] ts) fun _ r=>bnd (rec 0 r deep) fun a r=>bnd (Zp [41] r) fun _ r=>.ok (a,r)
def Zcw(rec:Nat->List Tok->Nat->Out Tr)(g:Nat)(ts:List Tok)(deep:Nat):Out Tr:=bnd (Zp wBy ts) fun _ r=>bnd (Zp [40] r) fun _ r=>bnd (ZM (ZH 2) [41] (r.length+1) [] r) fun ns r=>bnd (ZbU rec r deep) fun a r=>.ok (.node 0 0 ⟨5,g,0,[],[],ns⟩ a .nil,r)
def ZfC(t:Tok):Bool:=t.kind == 1 || isT [45] t || isT [40] t || (t.kind == 2 && !isT wOr t && !isT wBy t)
def numV(l:List UInt8):Int:=((ZE 1000000000 l).getD 0:Nat)
def Zce(rec:Nat->List Tok->Nat->Out Tr)(ts:List Tok)(deep:Nat):Out Tr:=
 if (hd ts).kind=1 then .ok (Zcz ⟨0,0,numV (hd ts).txt,[],[],[]⟩,ts.tail)
 else if isT [45] (hd ts)then bnd (rec 3 ts.tail deep) fun a r=>.ok (.node 0 0 (nd0 3 0) a .nil,r)
 else if isT [40] (hd ts)then ZbU rec ts deep
 else match idx (hd ts).txt Zbp with
  | some g=>Zcw rec g ts.tail deep
  | none => match idx (hd ts).txt ZbF with
    | some o=>winP o ts.tail
    | none=>bnd (selP ts) fun p r=>.ok (Zcz p,r)
def Zcj(rec:Nat->List Tok->Nat->Out Tr)(ts:List Tok)(deep:Nat):Out Tr:=
 if ZfC (hd ts)then (if deep=20 then .error (3,(hd ts).at_)else Zce rec ts (deep+1))else .error (2,(hd ts).at_)
def opAt(lv:Nat)(t:Tok):Option (Nat×Nat):=
 if lv=0 then (if isT wOr t then some (6,0)else none)
 else if lv=1 then (if isT [43] t then some (4,0)else if isT [45] t then some (4,1)else none)
 else (if isT [42] t then some (4,2)else if isT [47] t then some (4,3)else none)
def Zz:Nat->Bool->Nat->Tr->List Tok->Nat->Out Tr
 | 0,_,_,_,_,_=>.error (0,0)
 | n + 1, false, lv, _, ts, deep => if lv = 3 then Zcj (fun lv ts d => Zz n false lv .nil ts d) ts deep
   else bnd (Zz n false (lv+1) .nil ts deep) fun a r=>Zz n true lv a r deep
 | n + 1, true, lv, a, ts, deep => match opAt lv (hd ts) with
   | none=>.ok (a,ts)
   | some p=>bnd (Zz n false (lv+1) .nil ts.tail deep) fun b r=>Zz n true lv (.node 0 0 (nd0 p.1 p.2) a b) r deep
def Zk:Tr->Nat
 | .nil=>1
 | .node _ _ a l r => if a.kind = 0 then 1 else if a.kind = 1 ∨ a.kind = 2 then 2 else if a.kind = 3 then Zk l
   else if a.kind=5 then (if Zk l=2 then 2 else 0)
   else if Zk l=0∨Zk r=0∨(a.kind=6/\Zk l+Zk r≠4)then 0 else if Zk l+Zk r=2 then 1 else 2
def Z4(l:List UInt8):Except (Nat×Nat) Tr:=
 if 300<l.length then .error (1,0)else
 match Zz (10*(ZU l (l.length+1) 0).length+5) false 0 .nil (ZU l (l.length+1) 0) 0 with
 | .error e=>.error e
 | .ok (t,r)=>if (hd r).kind=0 then (if Zk t=0 then .error (4,0)else .ok t)else .error (2,(hd r).at_)
def Zbs(a:Nd):Nat:=if a.kind=6 then 1 else if a.kind=4 then (if a.op<2 then 2 else 3)else 4
def commas:List (List UInt8)->List UInt8
 | []=>[]
 | [a]=>a
 | a::l=>a++44::commas l
def Zcc(c:List UInt8×List UInt8×Bool):List UInt8:=c.1++(if c.2.2 then [33,61] else [61])++[34]++c.2.1++[34]
def selS(a:Nd):List UInt8:=if a.conds=[] then a.name else a.name++[123]++commas (a.conds.map Zcc)++[125]
end Go.Proofs.YtkodhpilkaihjaaGreatDoor.LS
namespace Go.Proofs.YtkodhpilkaihjaaGreatDoor
open Go.RowKit LS
theorem Zu{w w':World}{r:Option Nat}(h:Below w.heap.size w w'):w.grownBy w' r:=⟨h.os,h.tape,h.output,h.size,fun k hk _=>h.block k hk⟩
theorem Zbc(w:World)(r:Option Nat):w.grownBy w r:=⟨rfl,rfl,rfl,Nat.le_refl _,fun _ _ _=>rfl⟩
theorem Zf{a b c:World}{r:Option Nat}(h:a.grownBy b r)(h':b.grownBy c r):a.grownBy c r:=
 ⟨h'.os.trans h.os,h'.tape.trans h.tape,h'.output.trans h.output,Nat.le_trans h.size h'.size,fun k hk hn=>(h'.block k (Nat.lt_of_lt_of_le hk h.size) hn).trans (h.block k hk hn)⟩
theorem Zo{a w:World}{b:Nat}(h:a.grownBy w (some b)){p:Addr}(hp:p.block=b∨a.heap.size<=p.block)(v:Value):a.grownBy (w.setCell p v) (some b):=
 ⟨h.os,h.tape,h.output,by rw[Go.Deep.nblk_setCell];exact h.size,fun k hk hn=>(Go.Deep.blk_setCell_other w p v k (by rintro rfl;rcases hp with hp|hp;exact hn (by rw[hp]);omega)).trans (h.block k hk hn)⟩
theorem ZbE{a w:World}{r:Option Nat}(h:a.grownBy w r)(o:Obj):a.grownBy (w.alloc o) r:=
 ⟨h.os,h.tape,h.output,by rw[Go.Deep.nblk_alloc];have:=h.size;omega,fun k hk hn=>(Go.Deep.blk_alloc_lt w o k (Nat.lt_of_lt_of_le hk h.size)).trans (h.block k hk hn)⟩
theorem Zc2{a w:World}{r:Option Nat}(h:a.grownBy w r):a.grownBy w.drew r:=⟨h.os,h.tape,h.output,h.size,h.block⟩
theorem Zef{a b c:World}{r:Option Nat}(h:a.grownBy b r)(h':Below b.heap.size b c):a.grownBy c r:=Zf h (Zu h')
end Go.Proofs.YtkodhpilkaihjaaGreatDoor
namespace Go.Proofs.YtkodhpilkaihjaaGreatDoor.LS
open Go Go.RowKit
theorem Zrs(l:List UInt8)(j:Nat)(c:UInt8)(r:List UInt8)(hl:l.drop j=c::r):j<(lexC l j c r).2/\(lexC l j c r).2<=l.length:=by
 have hlen:l.length=j+(r.length+1):=by
  have:=congrArg List.length hl;simp at this
  have h2:j<=l.length:=by
   rcases Nat.lt_or_ge l.length j with h|h
   ·rw[List.drop_of_length_le (by omega)]at hl;cases hl
   ·exact h
  omega
 unfold lexC
 split
 ·rename_i hd
  have h1:=Zgc Zt (c::r)
  have h2:0<run Zt (c::r):=by simp[run,hd]
  simp only[List.length_cons]at h1
  exact⟨by show j<j+_;omega,by show j+_<=_;omega⟩
 ·split
  ·rename_i hd
   have h1:=Zgc Zl (c::r)
   have h2:0<run Zl (c::r):=by simp[run,hd]
   simp only[List.length_cons]at h1
   exact⟨by show j<j+_;omega,by show j+_<=_;omega⟩
  ·split
   ·split
    ·exact⟨by show j<l.length;omega,Nat.le_refl _⟩
    ·rename_i p hs
     have:=Zus hs
     exact⟨by show j<j+p+2;omega,by show j+p+2<=_;omega⟩
   ·split
    ·rename_i hc
     have:0<r.length:=by
      cases r with
      | nil=>simp at hc
      | cons a r=>simp
     exact⟨by show j<j+2;omega,by show j+2<=_;omega⟩
    ·split <;> exact⟨by show j<j+1;omega,by show j+1<=_;omega⟩
theorem ZiB(l:List UInt8)(i:Nat)(hi:i<=l.length):((Zs l i).1.kind≠0->i<(Zs l i).2)/\(Zs l i).2<=l.length:=by
 unfold Zs
 have hr:=Zgc (· == 32) (l.drop i)
 rw[List.length_drop]at hr
 generalize run (· == 32) (l.drop i)=n at *
 unfold lexJ
 cases hd:l.drop (i+n)with
 | nil=>exact⟨fun h=>absurd rfl h,by show i+n<=_;omega⟩
 | cons c r=>have:=Zrs l (i+n) c r hd;exact⟨fun _=>by show i<(lexC l (i+n) c r).2;omega,this.2⟩
theorem Zrq(l:List UInt8)(i:Nat):(Zs l i).1.txt.length<=l.length+2:=by
 unfold Zs lexJ
 split
 ·simp
 ·rename_i c r hd
  have hl:r.length+1<=l.length:=by
   have:=congrArg List.length hd
   rw[List.length_drop,List.length_cons]at this
   omega
  unfold lexC
  split
  ·split
   ·simp only[List.length_take,List.length_cons];omega
   ·simp
  ·split
   ·split
    ·simp
    ·simp only[List.length_take,List.length_cons];omega
   ·split
    ·split
     ·simp
     ·split
      ·simp only[List.length_take];omega
      ·simp
    ·split
     ·simp
     ·split <;> simp
theorem Zg7(l:List UInt8)(n i:Nat)(hi:i<=l.length):(ZU l n i).length<=l.length+1 - i:=by
 induction n generalizing i with
 | zero=>exact Nat.zero_le _
 | succ n ih=>
  unfold ZU
  have hg:=ZiB l i hi
  split
  ·simp;omega
  ·rename_i hk
   have h1:=hg.1 (fun h=>hk (Or.inl h))
   have h2:=ih (Zs l i).2 hg.2
   simp;omega
theorem Zf0{s:List UInt8}{t:Tok}(h:isT s t=true):¬(t.kind=0∨t.kind=5):=by
 unfold isT at h
 simp only[Bool.and_eq_true,Bool.or_eq_true,beq_iff_eq]at h
 omega
end Go.Proofs.YtkodhpilkaihjaaGreatDoor.LS
namespace Go.Proofs.YtkodhpilkaihjaaGreatDoor
open Go.RowKit LS
theorem ZnE{P:Program}{w:World}{t ty:TypeId}(base:Nat)(e:TypeId)(i:TypeInfo)(z:Value)(size bytes:Nat)(h1:P.underlying t=some (.slice e))(h2:P.info? e=some i)(h3:i.zero=some z)(h4:i.size=size)(h5:i.bytes=bytes)(h6:z.cells.size=size)(h7:0<size)
  (v:Value) (n:Nat) (xs:List Value) (hown:w.ownsRow base e size v n xs)
  (ad:Addr) (m c:Nat) (news:List Value) (hn:news.length=m*size) (hc:∀j u,news[j]?=some u->w.cell? (ad.add j)=some u) (h1c:∀u∈news,u.oneCell'=true)
  (b1:n+m<=maxLen) (b2:(n+m)*bytes<=140737488355328) {v':Value} {w':World} (hrun:(Builtin.append_ #[t,t] ty #[v,.slice (some ad) m c]).run P w=.ok v' w') :
  v'.ownBlock=v.ownBlock∨∀k,v'.ownBlock=some k->w.heap.size<=k:=by
 have hcells:=fun g hg=>@World.ownsRow.cells w base e size v n xs hown g hg
 have hlen:=hown.1
 rcases hown.2 with ⟨rfl,rfl⟩|⟨g,cap,cur,rfl,hb,hh,hnc,hcm,hcs,htk⟩
 ·right
  obtain rfl:xs=[]:=List.eq_nil_of_length_eq_zero (by simpa using hlen)
  obtain⟨v2,w2,hrun2,r1,_⟩:=run_append_own (P:=P) w w.heap.size t ty e i z size bytes h1 h2 h3 h4 h5 h6 h7 (.slice none 0 0) 0 [] (World.ownsRow_nil w _ e size) ad m c news hn hc h1c b1 b2 (Nat.le_refl _)
  rw[hrun]at hrun2
  injection hrun2 with e1 e2
  subst e1
  exact fun k hk=>(r1.lt k hk).1
 ·by_cases hroom:n+m<=cap
  ·left
   have hfit:n*i.size+news.length<=cur.size:=by rw[h4,hn,hcs,<-Nat.add_mul];exact Nat.mul_le_mul_right _ hroom
   have hrun2:=run_append_room (P:=P) w t ty e i h1 h2 g n cap cur hh ad m c news (by rw[h4];exact hn) hc h1c hroom hfit
   rw[hrun]at hrun2
   injection hrun2 with e1 e2
   subst e1
   rfl
  ·right
   obtain⟨v2,w2,hrun2,r1,_⟩:=run_append_arg_grows (P:=P) w t ty e i z size bytes h1 h2 h3 h4 h5 h6 h7 ⟨g,0,none⟩ n cap xs hlen (hcells g rfl) ad m c news hn hc (by omega) b1 b2
   rw[hrun]at hrun2
   injection hrun2 with e1 e2
   subst e1
   exact fun k hk=>(r1.lt k hk).1
theorem Zhx{P:Program}{ops:Array Oper}{o:Oper}{a:Act}{w:World}{K:Act->World->Prop}{Q:Exit->Act->World->Prop}{E:Prop}
  (hg:o.guard=none) (s x:Operand) (t:TypeId) (hop:o.op=Op.call { callee:=Callee.builtin Builtin.append,args:=#[s,x],argTypes:=#[t,t] })
  (base:Nat) (e:TypeId) (i:TypeInfo) (z:Value) (size bytes:Nat) (h1:P.underlying t=some (.slice e)) (h2:P.info? e=some i) (h3:i.zero=some z) (h4:i.size=size) (h5:i.bytes=bytes) (h6:z.cells.size=size) (h7:0<size)
  (v:Value) (n:Nat) (xs:List Value) (hs:a.eval s=v) (hown:w.ownsRow base e size v n xs)
  (ad:Addr) (m c:Nat) (news:List Value) (hx:a.eval x=.slice (some ad) m c) (hn:news.length=m*size) (hc:∀j u,news[j]?=some u->w.cell? (ad.add j)=some u) (h1c:∀u∈news,u.oneCell'=true)
  (b1:n+m<=maxLen) (b2:(n+m)*bytes<=140737488355328) (hbase:base<=w.heap.size)
  (hK:∀v' w',w'.ownsRow base e size v' (n+m) (xs++news)->w.grownBy w' v.ownBlock->(v'.ownBlock=v.ownBlock∨∀k,v'.ownBlock=some k->w.heap.size<=k)->K (a.put o.dst v') w') :
  if Region.wanted o (yielded ops a.tmps)=true then Oper.wp P o a w K Q else E:=by
 have hw:Region.wanted o (yielded ops a.tmps)=true:=by simp[Region.wanted,hg]
 rw[if_pos hw]
 obtain⟨v',w',hrun,r1,r2,_⟩:=run_append_own (P:=P) w base t o.type e i z size bytes h1 h2 h3 h4 h5 h6 h7 v n xs hown ad m c news hn hc h1c b1 b2 hbase
 have r3:=ZnE base e i z size bytes h1 h2 h3 h4 h5 h6 h7 v n xs hown ad m c news hn hc h1c b1 b2 hrun
 unfold Oper.wp
 simp[execOp,hop,resolve,invoke,builtin,hs,hx,hrun,Result.andThen]
 exact hK v' w' r1 r2 r3
end Go.Proofs.YtkodhpilkaihjaaGreatDoor
namespace Go.Proofs.YtkodhpilkaihjaaGreatDoor.LS
open Go Go.RowKit
end Go.Proofs.YtkodhpilkaihjaaGreatDoor.LS
namespace Go.Proofs.YtkodhpilkaihjaaGreatDoor
open Go.RowKit LS
structure PTok where
 kd:Nat
 at_:Nat
 tx:ByteArray
 v:Nat
def Zbh:List PTok->List Value
 | []=>[]
 | t::l=>.int .i64 t.kd::.int .i64 t.at_::.string t.tx::.int .i64 t.v::Zbh l
theorem Zd0(l m:List PTok):Zbh (l++m)=Zbh l++Zbh m:=by
 induction l with
 | nil=>rfl
 | cons a l ih=>simp[Zbh,ih]
theorem Zps (l : List PTok) (j : Nat) : (Zbh l)[j * 4]? = l[j]?.map (fun t => .int .i64 t.kd) /\ (Zbh l)[j * 4 + 1]? = l[j]?.map (fun t => .int .i64 t.at_) /\ (Zbh l)[j * 4 + 2]? = l[j]?.map (fun t => .string t.tx) /\ (Zbh l)[j * 4 + 3]? = l[j]?.map (fun t => .int .i64 t.v) := by
  induction l generalizing j with
  | nil=>simp[Zbh]
  | cons r l ih=>
    cases j with
    | zero=>simp[Zbh]
    | succ j=>
      obtain⟨h1,h2,h3,h4⟩:=ih j
      refine⟨?_,?_,?_,?_⟩
      · rw[show(j+1)*4=j*4+1+1+1+1 by omega];simpa [Zbh] using h1
      · rw[show(j+1)*4+1=j*4+1+1+1+1+1 by omega];simpa [Zbh] using h2
      · rw[show(j+1)*4+2=j*4+2+1+1+1+1 by omega];simpa [Zbh] using h3
      · rw[show(j+1)*4+3=j*4+3+1+1+1+1 by omega];simpa [Zbh] using h4
def pk(k:Nat):Nat:=if k=0 then 4 else if k=1 then 0 else if k=2 then 1 else if k=3 then 2 else if k=4 then 3 else 5
def ZcY(p:PTok)(t:Tok):Prop:=p.kd=pk t.kind/\p.at_=t.at_/\bl p.tx=t.txt/\(t.kind=1->(p.v:Int)=numV t.txt)
structure RD (w:World) (b g cp:Nat) (ps:List PTok) (k:Nat):Prop where
 cells:w.heap[b]?=some (.cells #[.slice (some ⟨g,0,none⟩) ps.length cp,.int .i64 k] 162 (0,0))
 own:w.ownsRow 0 167 4 (.slice (some ⟨g,0,none⟩) ps.length cp) ps.length (Zbh ps)
 lt:k<ps.length
theorem RD.below{w w':World}{b g cp:Nat}{ps:List PTok}{k:Nat}(h:RD w b g cp ps k)(hb:Below w.heap.size w w'):RD w' b g cp ps k:=
 ⟨(hb.block b (Array.getElem?_eq_some_iff.1 h.cells).1).trans h.cells,Zm h.own hb,h.lt⟩
theorem RD.all{w:World}{b g cp:Nat}{ps:List PTok}{k:Nat}(h:RD w b g cp ps k) :
  w.cell? ⟨b,0,none⟩=some (.slice (some ⟨g,0,none⟩) ps.length cp)/\w.cell? ⟨b,1,none⟩=some (.int .i64 k)/\w.frozen? ⟨b,1,none⟩=false/\b<w.heap.size/\g<w.heap.size/\
  w.cell? ⟨g,k*4,none⟩=some (.int .i64 (ps[k]'h.lt).kd)/\w.cell? ⟨g,k*4+1,none⟩=some (.int .i64 (ps[k]'h.lt).at_)/\w.cell? ⟨g,k*4+2,none⟩=some (.string (ps[k]'h.lt).tx)/\w.cell? ⟨g,k*4+3,none⟩=some (.int .i64 (ps[k]'h.lt).v):=by
 obtain⟨f1,f2,f3,f4⟩:=Zps ps k
 rw[List.getElem?_eq_getElem h.lt]at f1 f2 f3 f4
 refine⟨by simp[World.cell?,h.cells],by simp[World.cell?,h.cells],by simp[World.frozen?,h.cells],(Array.getElem?_eq_some_iff.1 h.cells).1,ZbX h.own,Zj h.own _ _ f1,Zj h.own _ _ f2,Zj h.own _ _ f3,Zj h.own _ _ f4⟩
theorem Zgl{w:World}{b g cp:Nat}{ps:List PTok}{k:Nat}(h:RD w b g cp ps k) :
  Calls Tryz.prog 69 #[.pointer (some ⟨b,0,none⟩)] w fun e w'=>e=.returned (.agg #[.int .i64 (ps[k]'h.lt).kd,.int .i64 (ps[k]'h.lt).at_,.string (ps[k]'h.lt).tx,.int .i64 (ps[k]'h.lt).v])/\Below w.heap.size w w':=by
 obtain⟨c0,c1,_,hbl,hgl,d0,d1,d2,d3⟩:=h.all
 have hlt:=h.lt
 generalize ps[k]'h.lt=t at *
 obtain⟨kd,at_,tx,v⟩:=t
 simp only at d0 d1 d2 d3 ⊢
 generalize ps.length=n at *
 clear h
 go_enter Tryz.func69,Tryz.ntmps69
 go_wp2
 go_region
 all_goals
  go_wp2
  exact bodyPost_ret (v:=.agg #[.int .i64 kd,.int .i64 at_,.string tx,.int .i64 v]) (by simp[results,Tryz.results69,go_sem]) rfl ⟨rfl,(by repeat first|exact Below.refl _ _|assumption|refine Below.alloc ?_ ?_ _|refine Below.setCell ?_ ?_ _|refine Zg ?_ _|refine Below.drew ?_|omega|(simp;omega)|simp)⟩
theorem Ziu(t:PTok)(s:ByteArray)(w:World) :
  Calls Tryz.prog 185 #[.agg #[.int .i64 t.kd,.int .i64 t.at_,.string t.tx,.int .i64 t.v],.string s] w fun e w'=>e=.returned (.bool (((t.kd:Int) == 3) && (t.tx.toList == s.toList)))/\Below w.heap.size w w':=by
 obtain⟨kd,at_,tx,v⟩:=t
 simp only
 generalize hk:((kd:Int) == 3)=x
 cases x
 ·go_enter Tryz.func185,Tryz.ntmps185
  go_wp2
  go_ret
  exact⟨rfl,(by repeat first|exact Below.refl _ _|assumption|refine Below.alloc ?_ ?_ _|refine Below.setCell ?_ ?_ _|refine Zg ?_ _|refine Below.drew ?_|omega|(simp;omega)|simp)⟩
 ·go_enter Tryz.func185,Tryz.ntmps185
  go_wp2
  go_ret
  exact⟨rfl,(by repeat first|exact Below.refl _ _|assumption|refine Below.alloc ?_ ?_ _|refine Below.setCell ?_ ?_ _|refine Zg ?_ _|refine Below.drew ?_|omega|(simp;omega)|simp)⟩
theorem Zk1(t:PTok)(s:ByteArray)(w:World) :
  Calls Tryz.prog 192 #[.agg #[.int .i64 t.kd,.int .i64 t.at_,.string t.tx,.int .i64 t.v],.string s] w fun e w'=>e=.returned (.bool (((t.kd:Int) == 1) && (t.tx.toList == s.toList)))/\Below w.heap.size w w':=by
 obtain⟨kd,at_,tx,v⟩:=t
 simp only
 generalize hk:((kd:Int) == 1)=x
 cases x
 ·go_enter Tryz.func192,Tryz.ntmps192
  go_wp2
  go_ret
  exact⟨rfl,(by repeat first|exact Below.refl _ _|assumption|refine Below.alloc ?_ ?_ _|refine Below.setCell ?_ ?_ _|refine Zg ?_ _|refine Below.drew ?_|omega|(simp;omega)|simp)⟩
 ·go_enter Tryz.func192,Tryz.ntmps192
  go_wp2
  go_ret
  exact⟨rfl,(by repeat first|exact Below.refl _ _|assumption|refine Below.alloc ?_ ?_ _|refine Below.setCell ?_ ?_ _|refine Zg ?_ _|refine Below.drew ?_|omega|(simp;omega)|simp)⟩
def ZB(w:World)(v:Value)(at_:Int)(what:Addr):Prop:=∃fa:Nat,v=.iface 115 (.pointer (some ⟨fa,0,none⟩))/\w.heap[fa]?=some (.cells #[.string ⟨#[98,121,116,101]⟩,.int .i64 at_,.iface 491 (.pointer (some what))] 119 (0,0))
theorem ZB.below{w w':World}{v:Value}{at_:Int}{what:Addr}(h:ZB w v at_ what)(hb:Below w.heap.size w w'):ZB w' v at_ what:=by
 obtain⟨fa,h1,h2⟩:=h
 exact⟨fa,h1,(hb.block fa (Array.getElem?_eq_some_iff.1 h2).1).trans h2⟩
theorem Zh0(i:Int)(what:Value)(w:World) :
  Calls Tryz.prog 126 #[.int .i64 i,.iface 491 what] w fun e w'=>e=.returned (.iface 115 (.pointer (some ⟨w.heap.size,0,none⟩)))/\w'=w.alloc (.cells #[.string ⟨#[98,121,116,101]⟩,.int .i64 i,.iface 491 what] 119):=by
 go_enter Tryz.func126,Tryz.ntmps126
 go_wp2
 go_ret
 exact⟨rfl,rfl⟩
theorem ZgS{w:World}{b g cp:Nat}{ps:List PTok}{k:Nat}(h:RD w b g cp ps k){sy:Addr}(hsy:w.cell? ⟨1,0,none⟩=some (.iface 491 (.pointer (some sy)))) :
  Calls Tryz.prog 70 #[.pointer (some ⟨b,0,none⟩)] w fun e w'=>∃v,e=.returned v/\Hid (ZB w' v (ps[k]'h.lt).at_ sy)/\Below w.heap.size w w':=by
 have H:Hid (RD w b g cp ps k):=h
 have HD:Hid (RD w.drew b g cp ps k):=RD.below h ((Below.refl _ _).drew)
 have hgl:1<w.heap.size:=World.block_lt_of_cell? _ _ hsy
 obtain⟨t,ht⟩:∃t,t=ps[k]'h.lt:=⟨_,rfl⟩
 have HT:Hid (∀hh:k<ps.length,ps[k]'hh=t):=fun _=>ht.symm
 rw[<-ht]
 clear ht h
 have hf:∀W:World,(Instr.field 167 (.agg #[.int .i64 t.kd,.int .i64 t.at_,.string t.tx,.int .i64 t.v]) 1).run Tryz.prog W=.ok (.int .i64 t.at_) W:=fun _=>rfl
 go_enter Tryz.func70,Tryz.ntmps70
 go_wp2
 go_region_with (first
   | (go_at_call 69
      refine(Zgl HD.out).mono ?_
      rintro e w1 ⟨rfl,hb1⟩
      rw[HT.out]
      have HB1:Hid (Below w.heap.size w w1):=⟨hb1.os,hb1.tape,hb1.output,hb1.size,hb1.block⟩
      have hsy1:w1.cell? ⟨1,0,none⟩=some (.iface 491 (.pointer (some sy))):=(HB1.cell (p:=⟨_,0,none⟩) hgl).trans hsy
      clear hb1)
   | (go_at_call 126
      refine(Zh0 _ _ _).mono ?_
      rintro e w2 ⟨rfl,rfl⟩))
 all_goals
  go_wp2
  go_ret
  exact⟨_,rfl,⟨w1.heap.size,rfl,Go.Deep.blk_alloc_new _ _⟩,HB1.alloc HB1.size _⟩
theorem Zg3{k:Nat}{ts:List Tok}{z:List UInt8×List Tok}(hk:k≠0)(h:ZH k ts=.ok z):z.2.length+1=ts.length/\z.1=(hd ts).txt/\z.2=ts.tail:=by
 unfold ZH at h
 split at h
 ·rename_i e
  injection h with h;subst h
  cases ts with
  | nil=>exact absurd e.symm hk
  | cons t r=>exact⟨rfl,rfl,rfl⟩
 ·cases h
theorem Zd6{c:List UInt8}{ts:List Tok}{z:Unit×List Tok}(h:Zp c ts=.ok z):z.2.length+1=ts.length:=by
 unfold Zp at h
 split at h
 ·rename_i e
  injection h with h;subst h
  cases ts with
  | nil=>exact absurd (Or.inl rfl) (Zf0 e)
  | cons t r=>rfl
 ·cases h
theorem Zqc{c:List UInt8}{ts:List Tok}(e:isT c (hd ts)=true):ts.tail.length+1=ts.length:=by
 cases ts with
 | nil=>exact absurd (Or.inl rfl) (Zf0 e)
 | cons t r=>rfl
theorem Zj3(t:List Tok)(z:(List UInt8×List UInt8×Bool)×List Tok)(h:ZS t=.ok z):z.2.length+1<=t.length:=by
 unfold ZS at h
 cases h1:ZH 2 t with
 | error e=>rw[h1]at h;cases h
 | ok y=>
  have l1:=(Zg3 (by decide) h1).1
  rw[h1]at h
  simp only[bnd]at h
  cases h2:Zd5 y.2 with
  | error e=>rw[h2]at h;cases h
  | ok u=>
   have l2:u.2.length<=y.2.length:=by
    unfold Zd5 at h2
    split at h2
    ·injection h2 with h2;subst h2;simp
    ·cases h3:Zp [61] y.2 with
     | error e=>rw[h3]at h2;cases h2
     | ok q=>rw[h3]at h2;injection h2 with h2;subst h2;have:=Zd6 h3;show q.2.length<=_;omega
   rw[h2]at h
   simp only at h
   cases h3:ZH 3 u.2 with
   | error e=>rw[h3]at h;cases h
   | ok q=>
    have l3:=(Zg3 (by decide) h3).1
    rw[h3]at h
    injection h with h;subst h
    show q.2.length+1<=_
    omega
theorem Zem{w w':World}{base:Nat}{e:TypeId}{size:Nat}{v:Value}{n:Nat}{xs:List Value}(h:w.ownsRow base e size v n xs)(hb:∀k,v.ownBlock=some k->w'.heap[k]?=w.heap[k]?):w'.ownsRow base e size v n xs:=by
 refine⟨h.1,?_⟩
 rcases h.2 with h2|⟨g,cap,cur,rfl,hg,hh,r⟩
 ·exact Or.inl h2
 ·exact Or.inr ⟨g,cap,cur,rfl,hg,(hb g rfl).trans hh,r⟩
theorem RD.step{w:World}{b g cp:Nat}{ps:List PTok}{k:Nat}(h:RD w b g cp ps k)(hl:k+1<ps.length):RD (w.setCell ⟨b,1,none⟩ (.int .i64 ((k+1:Nat):Int))) b g cp ps (k+1):=by
 have hne:b≠g:=by
  rintro rfl
  exact ZcA h.own h.cells (by decide) rfl
 refine⟨?_,Zem h.own (fun j hj=>Go.Deep.blk_setCell_other _ _ _ _ ?_),hl⟩
 ·have:=h.cells
  simp only[World.setCell,Array.getElem?_modify,this,if_true,Option.map_some];rfl
 ·have:j=g:=by simpa [Value.ownBlock] using hj.symm
  rw[this];exact fun e=>hne e.symm
def ZI(t:PTok)(s:ByteArray):Bool:=((t.kd:Int) == 3) && (t.tx.toList == s.toList)
def ZcV(t:PTok)(s:ByteArray):Bool:=((t.kd:Int) == 1) && (t.tx.toList == s.toList)
def Took(w':World)(b g cp:Nat)(ps:List PTok)(k:Nat)(sy:Addr)(at_:Int)(ok:Bool)(v:Value):Prop:=(ok=true/\v=.nilIface/\RD w' b g cp ps (k+1))∨(ok=false/\ZB w' v at_ sy/\RD w' b g cp ps k)
theorem Zu8{w:World}{b g cp:Nat}{ps:List PTok}{k:Nat}(h:RD w b g cp ps k)(s:ByteArray)(hl:ZI (ps[k]'h.lt) s=true->k+1<ps.length)(hn:ps.length<=6002){sy:Addr}(hsy:w.cell? ⟨1,0,none⟩=some (.iface 491 (.pointer (some sy)))) :
  Calls Tryz.prog 233 #[.pointer (some ⟨b,0,none⟩),.string s] w fun e w'=>∃v,e=.returned v/\Hid (Took w' b g cp ps k sy (ps[k]'h.lt).at_ (ZI (ps[k]'h.lt) s) v)/\w.grownBy w' (some b):=by
 have H:Hid (RD w b g cp ps k):=h
 have hlt:=h.lt
 have hgl:1<w.heap.size:=World.block_lt_of_cell? _ _ hsy
 obtain⟨t,ht⟩:∃t,t=ps[k]'h.lt:=⟨_,rfl⟩
 have HT:Hid (∀hh:k<ps.length,ps[k]'hh=t):=fun _=>ht.symm
 rw[<-ht]at hl ⊢
 clear ht h
 go_enter Tryz.func233,Tryz.ntmps233
 go_wp2_with fail
 refine(Zgl H.out).mono ?_
 rintro e w1 ⟨rfl,hb1⟩
 rw[HT.out]
 have HB1:Hid (Below w.heap.size w w1):=hb1
 clear hb1
 go_wp2_with fail
 refine(Ziu t s w1).mono ?_
 rintro e w2 ⟨rfl,hb2⟩
 have HB2:Hid (Below w.heap.size w w2):=HB1.trans (hb2.mono HB1.size)
 have HR2:Hid (RD w2 b g cp ps k):=RD.below H.out HB2.out
 have hsy2:w2.cell? ⟨1,0,none⟩=some (.iface 491 (.pointer (some sy))):=(HB2.cell (p:=⟨_,0,none⟩) hgl).trans hsy
 obtain⟨c0,c1,fz,_⟩:=HR2.all
 rw[show(((t.kd:Int) == 3) && (t.tx.toList == s.toList))=ZI t s from rfl]
 clear hb2 HB1
 cases hm:ZI t s
 ·have HM:Hid (ZI t s=false):=hm
  go_wp2_with fail
  refine(ZgS HR2.out hsy2).mono ?_
  rintro e w3 ⟨v,rfl,hv,hb3⟩
  rw[HT.out]at hv
  have HF:Hid (Took w3 b g cp ps k sy t.at_ false v):=Or.inr ⟨rfl,hv.out,RD.below HR2.out hb3⟩
  have HG:Hid (w.grownBy w3 (some b)):=Zu (HB2.trans (hb3.mono HB2.size))
  clear hv hb3
  go_wp2
  go_ret
  exact⟨_,rfl,by rw[HM.out];exact HF,HG.out⟩
 ·have hl2:=hl hm
  have HM:Hid (ZI t s=true):=hm
  have HF:Hid (Took (w2.setCell ⟨b,1,none⟩ (.int .i64 ((k+1:Nat):Int))) b g cp ps k sy t.at_ true .nilIface):=Or.inl ⟨rfl,rfl,HR2.step hl2⟩
  have HG:Hid (w.grownBy (w2.setCell ⟨b,1,none⟩ (.int .i64 ((k+1:Nat):Int))) (some b)):=Zo (Zu HB2.out) (Or.inl rfl) _
  go_wp2
  go_ret
  exact⟨_,rfl,by rw[HM.out];exact HF,HG.out⟩
theorem Zva{w:World}{b g cp:Nat}{ps:List PTok}{k:Nat}(h:RD w b g cp ps k)(s:ByteArray)(hl:ZcV (ps[k]'h.lt) s=true->k+1<ps.length)(hn:ps.length<=6002){sy:Addr}(hsy:w.cell? ⟨1,0,none⟩=some (.iface 491 (.pointer (some sy)))) :
  Calls Tryz.prog 234 #[.pointer (some ⟨b,0,none⟩),.string s] w fun e w'=>∃v,e=.returned v/\Hid (Took w' b g cp ps k sy (ps[k]'h.lt).at_ (ZcV (ps[k]'h.lt) s) v)/\w.grownBy w' (some b):=by
 have H:Hid (RD w b g cp ps k):=h
 have hlt:=h.lt
 have hgl:1<w.heap.size:=World.block_lt_of_cell? _ _ hsy
 obtain⟨t,ht⟩:∃t,t=ps[k]'h.lt:=⟨_,rfl⟩
 have HT:Hid (∀hh:k<ps.length,ps[k]'hh=t):=fun _=>ht.symm
 rw[<-ht]at hl ⊢
 clear ht h
 go_enter Tryz.func234,Tryz.ntmps234
 go_wp2_with fail
 refine(Zgl H.out).mono ?_
 rintro e w1 ⟨rfl,hb1⟩
 rw[HT.out]
 have HB1:Hid (Below w.heap.size w w1):=hb1
 clear hb1
 go_wp2_with fail
 refine(Zk1 t s w1).mono ?_
 rintro e w2 ⟨rfl,hb2⟩
 have HB2:Hid (Below w.heap.size w w2):=HB1.trans (hb2.mono HB1.size)
 have HR2:Hid (RD w2 b g cp ps k):=RD.below H.out HB2.out
 have hsy2:w2.cell? ⟨1,0,none⟩=some (.iface 491 (.pointer (some sy))):=(HB2.cell (p:=⟨_,0,none⟩) hgl).trans hsy
 obtain⟨c0,c1,fz,_⟩:=HR2.all
 rw[show(((t.kd:Int) == 1) && (t.tx.toList == s.toList))=ZcV t s from rfl]
 clear hb2 HB1
 cases hm:ZcV t s
 ·have HM:Hid (ZcV t s=false):=hm
  go_wp2_with fail
  refine(ZgS HR2.out hsy2).mono ?_
  rintro e w3 ⟨v,rfl,hv,hb3⟩
  rw[HT.out]at hv
  have HF:Hid (Took w3 b g cp ps k sy t.at_ false v):=Or.inr ⟨rfl,hv.out,RD.below HR2.out hb3⟩
  have HG:Hid (w.grownBy w3 (some b)):=Zu (HB2.trans (hb3.mono HB2.size))
  clear hv hb3
  go_wp2
  go_ret
  exact⟨_,rfl,by rw[HM.out];exact HF,HG.out⟩
 ·have hl2:=hl hm
  have HM:Hid (ZcV t s=true):=hm
  have HF:Hid (Took (w2.setCell ⟨b,1,none⟩ (.int .i64 ((k+1:Nat):Int))) b g cp ps k sy t.at_ true .nilIface):=Or.inl ⟨rfl,rfl,HR2.step hl2⟩
  have HG:Hid (w.grownBy (w2.setCell ⟨b,1,none⟩ (.int .i64 ((k+1:Nat):Int))) (some b)):=Zo (Zu HB2.out) (Or.inl rfl) _
  go_wp2
  go_ret
  exact⟨_,rfl,by rw[HM.out];exact HF,HG.out⟩
def Zek(t:PTok):Bool:=(t.kd:Int) == 1
theorem Zu9{w:World}{b g cp:Nat}{ps:List PTok}{k:Nat}(h:RD w b g cp ps k)(hl:Zek (ps[k]'h.lt)=true->k+1<ps.length)(hn:ps.length<=6002){sy:Addr}(hsy:w.cell? ⟨1,0,none⟩=some (.iface 491 (.pointer (some sy)))) :
  Calls Tryz.prog 236 #[.pointer (some ⟨b,0,none⟩)] w fun e w'=>∃(x:ByteArray) (v:Value),e=.returned (.tuple #[.string x,v])/\Hid (Took w' b g cp ps k sy (ps[k]'h.lt).at_ (Zek (ps[k]'h.lt)) v/\(Zek (ps[k]'h.lt)=true->x=(ps[k]'h.lt).tx))/\w.grownBy w' (some b):=by
 have H:Hid (RD w b g cp ps k):=h
 have hlt:=h.lt
 have hgl:1<w.heap.size:=World.block_lt_of_cell? _ _ hsy
 obtain⟨t,ht⟩:∃t,t=ps[k]'h.lt:=⟨_,rfl⟩
 have HT:Hid (∀hh:k<ps.length,ps[k]'hh=t):=fun _=>ht.symm
 rw[<-ht]at hl ⊢
 clear ht h
 go_enter Tryz.func236,Tryz.ntmps236
 go_wp2_with fail
 refine(Zgl H.out).mono ?_
 rintro e w1 ⟨rfl,hb1⟩
 rw[HT.out]
 obtain⟨kd,at_,tx,v⟩:=t
 obtain⟨W,hW⟩:∃W,W=w1.alloc (.cells #[.int .i64 kd,.int .i64 at_,.string tx,.int .i64 v] 167):=⟨_,rfl⟩
 have HW:Hid (W=w1.alloc (.cells #[.int .i64 kd,.int .i64 at_,.string tx,.int .i64 v] 167)):=hW
 have hbx:W.heap[w1.heap.size]?=some (.cells #[.int .i64 kd,.int .i64 at_,.string tx,.int .i64 v] 167 (0,0)):=by rw[hW];exact Go.Deep.blk_alloc_new _ _
 have HB2:Hid (Below w.heap.size w W):=hid (by rw[hW];exact hb1.alloc hb1.size _)
 have HR2:Hid (RD W b g cp ps k):=RD.below H.out HB2.out
 have hsy2:W.cell? ⟨1,0,none⟩=some (.iface 491 (.pointer (some sy))):=(HB2.cell (p:=⟨_,0,none⟩) hgl).trans hsy
 obtain⟨c0,c1,fz,hbl,_⟩:=HR2.all
 have hne:b<w1.heap.size:=Nat.lt_of_lt_of_le (Array.getElem?_eq_some_iff.1 H.cells).1 hb1.size
 have k2:(W.setCell ⟨b,1,none⟩ (.int .i64 ((k+1:Nat):Int))).cell? ⟨w1.heap.size,2,none⟩=some (.string tx):=by
  have:(W.setCell ⟨b,1,none⟩ (.int .i64 ((k+1:Nat):Int))).heap[w1.heap.size]?=W.heap[w1.heap.size]?:=Go.Deep.blk_setCell_other _ _ _ _ (by show w1.heap.size≠b;omega)
  unfold World.cell?
  rw[this,hbx]
  rfl
 have HFS:Hid (k+1<ps.length->Took ((w1.setCell ⟨b,1,none⟩ (.int .i64 ((k+1:Nat):Int))).alloc (.cells #[.int .i64 kd,.int .i64 at_,.string tx,.int .i64 v] 167)) b g cp ps k sy at_ true .nilIface):=fun hl2=>Or.inl ⟨rfl,rfl,(RD.step (RD.below H.out hb1) hl2).below Zbal⟩
 have HGS:Hid (w.grownBy ((w1.setCell ⟨b,1,none⟩ (.int .i64 ((k+1:Nat):Int))).alloc (.cells #[.int .i64 kd,.int .i64 at_,.string tx,.int .i64 v] 167)) (some b)):=ZbE (Zo (Zu hb1) (Or.inl rfl) _) _
 clear hb1 hW hbx
 generalize hm:((kd:Int) == 1)=nb at *
 cases nb
 ·have HM:Hid (Zek ⟨kd,at_,tx,v⟩=false):=hm
  have hm2:((kd:Int) != 1)=true:=by rw[bne,hm];rfl
  go_wp2_with fail
  rw[<-HW.out]
  refine(ZgS HR2.out hsy2).mono ?_
  rintro e w3 ⟨v3,rfl,hv,hb3⟩
  rw[HT.out]at hv
  have HF:Hid (Took w3 b g cp ps k sy at_ false v3):=Or.inr ⟨rfl,hv.out,RD.below HR2.out hb3⟩
  have HG:Hid (w.grownBy w3 (some b)):=Zu (HB2.trans (hb3.mono HB2.size))
  clear hv hb3
  go_wp2
  go_ret2
  exact⟨_,_,rfl,by rw[HM.out];exact⟨HF.out,fun h=>nomatch h⟩,HG.out⟩
 ·have HM:Hid (Zek ⟨kd,at_,tx,v⟩=true):=hm
  have hm2:((kd:Int) != 1)=false:=by rw[bne,hm];rfl
  have hl2:=hl hm
  rw[HW.out]at k2 c0 c1 fz
  go_wp2
  go_ret2
  exact⟨_,_,rfl,by rw[HM.out];exact⟨HFS.out hl2,fun _=>rfl⟩,HGS.out⟩
def opOf(t:PTok):Option Nat:=if ZcV t ⟨#[111,114]⟩then some 0 else if ZI t ⟨#[43]⟩then some 1 else if ZI t ⟨#[45]⟩then some 2 else if ZI t ⟨#[42]⟩then some 3 else if ZI t ⟨#[47]⟩then some 4 else none
def TAt(w:World)(a:Nat)(t:PTok):Prop:=w.heap[a]?=some (.cells #[.int .i64 t.kd,.int .i64 t.at_,.string t.tx,.int .i64 t.v] 167 (0,0))
theorem TAt.all{w:World}{a:Nat}{t:PTok}(h:TAt w a t):w.cell? ⟨a,0,none⟩=some (.int .i64 t.kd)/\w.cell? ⟨a,1,none⟩=some (.int .i64 t.at_)/\w.cell? ⟨a,2,none⟩=some (.string t.tx)/\w.cell? ⟨a,3,none⟩=some (.int .i64 t.v):=by
 unfold TAt at h
 refine⟨?_,?_,?_,?_⟩ <;> simp[World.cell?,h]
theorem TAt.below{w w':World}{a:Nat}{t:PTok}(h:TAt w a t)(hb:Below w.heap.size w w'):TAt w' a t:=(hb.block a (Array.getElem?_eq_some_iff.1 h).1).trans h
theorem Zfp(t:PTok)(s:ByteArray){x:Bool}(hx:ZI t s=x)(w0 w:World)(a:Nat)(ht:TAt w a t)(hb:Below w0.heap.size w0 w) :
  Calls Tryz.prog 185 #[.agg #[.int .i64 t.kd,.int .i64 t.at_,.string t.tx,.int .i64 t.v],.string s] w fun e w'=>e=.returned (.bool x)/\Hid (TAt w' a t)/\Hid (Below w0.heap.size w0 w'):=by
 subst hx
 refine(Ziu t s w).mono ?_
 rintro e w' ⟨rfl,hb'⟩
 exact⟨rfl,ht.below hb',hb.trans (hb'.mono hb.size)⟩
theorem Zv9(t:PTok)(s:ByteArray){x:Bool}(hx:ZcV t s=x)(w0 w:World)(a:Nat)(ht:TAt w a t)(hb:Below w0.heap.size w0 w) :
  Calls Tryz.prog 192 #[.agg #[.int .i64 t.kd,.int .i64 t.at_,.string t.tx,.int .i64 t.v],.string s] w fun e w'=>e=.returned (.bool x)/\Hid (TAt w' a t)/\Hid (Below w0.heap.size w0 w'):=by
 subst hx
 refine(Zk1 t s w).mono ?_
 rintro e w' ⟨rfl,hb'⟩
 exact⟨rfl,ht.below hb',hb.trans (hb'.mono hb.size)⟩
theorem ZsA(t:PTok)(w:World) :
  Calls Tryz.prog 124 #[.agg #[.int .i64 t.kd,.int .i64 t.at_,.string t.tx,.int .i64 t.v]] w fun e w'=>e=.returned (.tuple #[.int .i64 ((opOf t).getD 0:Nat),.bool (opOf t).isSome])/\Below w.heap.size w w':=by
 obtain⟨b1,h1⟩:∃x,ZcV t ⟨#[111,114]⟩=x:=⟨_,rfl⟩
 obtain⟨b2,h2⟩:∃x,ZI t ⟨#[43]⟩=x:=⟨_,rfl⟩
 obtain⟨b3,h3⟩:∃x,ZI t ⟨#[45]⟩=x:=⟨_,rfl⟩
 obtain⟨b4,h4⟩:∃x,ZI t ⟨#[42]⟩=x:=⟨_,rfl⟩
 obtain⟨b5,h5⟩:∃x,ZI t ⟨#[47]⟩=x:=⟨_,rfl⟩
 have HO:Hid (opOf t=if b1 then some 0 else if b2 then some 1 else if b3 then some 2 else if b4 then some 3 else if b5 then some 4 else none):=hid (by unfold opOf;rw[h1,h2,h3,h4,h5])
 have H:Hid (ZcV t ⟨#[111,114]⟩=b1/\ZI t ⟨#[43]⟩=b2/\ZI t ⟨#[45]⟩=b3/\ZI t ⟨#[42]⟩=b4/\ZI t ⟨#[47]⟩=b5):=⟨h1,h2,h3,h4,h5⟩
 have HT0:Hid (TAt (w.alloc (.cells #[.int .i64 t.kd,.int .i64 t.at_,.string t.tx,.int .i64 t.v] 167)) w.heap.size t):=Go.Deep.blk_alloc_new _ _
 have HB0:Hid (Below w.heap.size w (w.alloc (.cells #[.int .i64 t.kd,.int .i64 t.at_,.string t.tx,.int .i64 t.v] 167))):=Zbal
 rw[HO.out]
 clear h1 h2 h3 h4 h5 HO
 go_enter Tryz.func124,Tryz.ntmps124
 go_wp2_with fail
 refine(Zv9 t _ H.1 w _ w.heap.size HT0.out HB0.out).mono ?_
 rintro e w1 ⟨rfl,HT1,HB1⟩
 clear HT0 HB0
 cases b1
 ·obtain⟨k0,k1,k2,k3⟩:=TAt.all HT1.out
  go_wp2_with fail
  clear k0 k1 k2 k3
  refine(Zfp t _ H.2.1 w w1 w.heap.size HT1.out HB1.out).mono ?_
  rintro e w2 ⟨rfl,HT2,HB2⟩
  cases b2
  ·obtain⟨k0,k1,k2,k3⟩:=TAt.all HT2.out
   go_wp2_with fail
   clear k0 k1 k2 k3
   refine(Zfp t _ H.2.2.1 w w2 w.heap.size HT2.out HB2.out).mono ?_
   rintro e w3 ⟨rfl,HT3,HB3⟩
   cases b3
   ·obtain⟨k0,k1,k2,k3⟩:=TAt.all HT3.out
    go_wp2_with fail
    clear k0 k1 k2 k3
    refine(Zfp t _ H.2.2.2.1 w w3 w.heap.size HT3.out HB3.out).mono ?_
    rintro e w4 ⟨rfl,HT4,HB4⟩
    cases b4
    ·obtain⟨k0,k1,k2,k3⟩:=TAt.all HT4.out
     go_wp2_with fail
     clear k0 k1 k2 k3
     refine(Zfp t _ H.2.2.2.2 w w4 w.heap.size HT4.out HB4.out).mono ?_
     rintro e w5 ⟨rfl,HT5,HB5⟩
     cases b5
     ·go_wp2
      go_ret2
      exact⟨rfl,HB5.out⟩
     ·go_wp2
      go_ret2
      exact⟨rfl,HB5.out⟩
    ·go_wp2
     go_ret2
     exact⟨rfl,HB4.out⟩
   ·go_wp2
    go_ret2
    exact⟨rfl,HB3.out⟩
  ·go_wp2
   go_ret2
   exact⟨rfl,HB2.out⟩
 ·go_wp2
  go_ret2
  exact⟨rfl,HB1.out⟩
end Go.Proofs.YtkodhpilkaihjaaGreatDoor

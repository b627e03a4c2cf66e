/- Parts. -/
import Derived.Test.YtcdgkkfipdoeeaaGreatDoorT00
import Derived.Deep.Trees
import Derived.Deep.RegionWith
import Derived.Deep.DeepCutAuto
import Derived.Deep.Heap
import Derived.Deep.RegionLaw
import Derived.Laws.IdiomStrings
namespace Go.Proofs.YtcdgkkfipdoeeaaGreatDoor.LS
open Go Go.RowKit
structure Tok where
 kind:Nat
 txt:List UInt8
 at_:Nat
def run(p:UInt8->Bool):List UInt8->Nat
 | []=>0
 | b::l=>if p b then run p l+1 else 0
def Zcj:List UInt8:=[40,41,123,125,91,93,44,61,43,45,42,47]
def lexC(l:List UInt8)(j:Nat)(c:UInt8)(r:List UInt8):Tok×Nat:=
 if Zt c then (if (ZL 1000000000 ((c::r).take (run Zt (c::r)))).isSome then ⟨1,(c::r).take (run Zt (c::r)),j⟩else ⟨5,[],j⟩,j+run Zt (c::r))
 else if Zk c then (if 8<run Zk (c::r)then ⟨5,[],j⟩else ⟨2,(c::r).take (run Zk (c::r)),j⟩,j+run Zk (c::r))
 else if c == 34 then match seek 34 r with
  | none=>(⟨5,[],j⟩,l.length)
  | some p=>(if ZS (r.take p)then ⟨3,r.take p,j⟩else ⟨5,[],j⟩,j+p+2)
 else if c == 33 && r.head? == some 61 then (⟨4,[33,61],j⟩,j+2)
 else if (seek c Zcj).isSome then (⟨4,[c],j⟩,j+1)else (⟨5,[],j⟩,j+1)
def lexJ(l:List UInt8)(j:Nat):Tok×Nat:=match l.drop j with
 | []=>(⟨0,[],j⟩,j)
 | c::r=>lexC l j c r
def Zo(l:List UInt8)(i:Nat):Tok×Nat:=lexJ l (i+run (· == 32) (l.drop i))
theorem ZfZ(p:UInt8->Bool)(l:List UInt8):run p l<=l.length:=by
 induction l with
 | nil=>exact Nat.le_refl _
 | cons b l ih=>unfold run;split <;> simp;omega
theorem Zuo(s:ByteArray)(j:Nat)(h:j<s.size)(hc:s[j]=32):Zo (bl s) j=Zo (bl s) (j+1):=by
 unfold Zo
 rw[ZdI s j h]
 have:run (· == 32) (s[j]::(bl s).drop (j+1))=run (· == 32) ((bl s).drop (j+1))+1:=by rw[hc];rfl
 rw[this,show j+(run (· == 32) ((bl s).drop (j+1))+1)=j+1+run (· == 32) ((bl s).drop (j+1)) by omega]
theorem Zig(s:ByteArray)(j:Nat)(h:j<s.size)(hc:s[j]≠32):Zo (bl s) j=lexC (bl s) j s[j] ((bl s).drop (j+1)):=by
 unfold Zo
 rw[ZdI s j h]
 have:run (· == 32) (s[j]::(bl s).drop (j+1))=0:=by simp[run,hc]
 rw[this,Nat.add_zero]
 unfold lexJ
 rw[ZdI s j h]
theorem Zof(s:ByteArray)(j:Nat)(h:¬j<s.size)(hj:j<=s.size):Zo (bl s) j=(⟨0,[],j⟩,j):=by
 have hd:(bl s).drop j=[]:=List.drop_of_length_le (by rw[Zi];omega)
 unfold Zo
 rw[hd]
 show lexJ (bl s) j=_
 unfold lexJ
 rw[hd]
end Go.Proofs.YtcdgkkfipdoeeaaGreatDoor.LS
namespace Go.Proofs.YtcdgkkfipdoeeaaGreatDoor
open Go.RowKit LS
end Go.Proofs.YtcdgkkfipdoeeaaGreatDoor
namespace Go.Proofs.YtcdgkkfipdoeeaaGreatDoor.LS
open Go Go.RowKit
structure Nd where
 kind:Nat
 op:Nat
 n:Int
 name:List UInt8
 conds:List (List UInt8×List UInt8×Bool)
 by_:List (List UInt8)
abbrev Tr:=Go.Deep.BT Nd
abbrev Out (α:Type):=Except (Nat×Nat) (α×List Tok)
def Z6(a:Nd):Tr:=.node 0 0 a .nil .nil
def nd0(kind op:Nat):Nd:=⟨kind,op,0,[],[],[]⟩
def ZH(l:List UInt8):Nat->Nat->List Tok
 | 0,_=>[]
 | n+1,i=>if (Zo l i).1.kind=0∨(Zo l i).1.kind=5 then [(Zo l i).1] else (Zo l i).1::ZH l n (Zo l i).2
def hd(ts:List Tok):Tok:=ts.headD ⟨0,[],0⟩
def wOr:List UInt8:=[111,114]
def wBy:List UInt8:=[98,121]
def ZG:List (List UInt8):=[[115,117,109],[109,97,120],[109,105,110],[99,111,117,110,116]]
def ZV:List (List UInt8):=[[116,111,116,97,108],[112,101,97,107],[108,111,119],[115,105,122,101],[114,105,115,101]]
def idx(w:List UInt8):List (List UInt8)->Option Nat
 | []=>none
 | x::l=>if x=w then some 0 else (idx w l).map (· + 1)
def isT(s:List UInt8)(t:Tok):Bool:=(t.kind == 2 || t.kind == 4) && t.txt == s
def bnd{α β:Type}(x:Out α)(f:α->List Tok->Out β):Out β:=match x with
 | .error e=>.error e
 | .ok (a,ts)=>f a ts
def Zp(s:List UInt8)(ts:List Tok):Out Unit:=if isT s (hd ts)then .ok ((),ts.tail)else .error (2,(hd ts).at_)
def ZD(k:Nat)(ts:List Tok):Out (List UInt8):=if (hd ts).kind=k then .ok ((hd ts).txt,ts.tail)else .error (2,(hd ts).at_)
def ZE{α:Type}(item:List Tok->Out α)(close:List UInt8):Nat->List α->List Tok->Out (List α)
 | 0,_,_=>.error (0,0)
 | n + 1, acc, ts => if isT close (hd ts) then .ok (acc, ts.tail) else
   bnd (if acc.isEmpty then .ok ((),ts)else Zp [44] ts) fun _ r=>bnd (item r) fun a r=>ZE item close n (acc++[a]) r
def Zc9(ts:List Tok):Out Bool:=if isT [33,61] (hd ts)then .ok (true,ts.tail)else bnd (Zp [61] ts) fun _ r=>.ok (false,r)
def ZO(ts:List Tok):Out (List UInt8×List UInt8×Bool):=bnd (ZD 2 ts) fun a r=>bnd (Zc9 r) fun n r=>bnd (ZD 3 r) fun b r=>.ok ((a,b,n),r)
def Zfr(t:Tok):Bool:=(idx t.txt ZG).isSome || (idx t.txt ZV).isSome || isT wOr t || isT wBy t
def Zdw(ts:List Tok):Out (List UInt8):=if Zfr (hd ts)then .error (2,(hd ts).at_)else ZD 2 ts
def selP(ts:List Tok):Out Nd:=bnd (Zdw ts) fun a r=>if isT [123] (hd r)then bnd (ZE ZO [125] r.length [] r.tail) fun cs r=>.ok (⟨1,0,0,a,cs,[]⟩,r)else .ok (⟨1,0,0,a,[],[]⟩,r)
def ZcV(ts:List Tok):Out Int:=if (hd ts).kind=1/\1<=numI 1000 (hd ts).txt then .ok (numI 1000 (hd ts).txt,ts.tail)else .error (2,(hd ts).at_)
def winP(o:Nat)(ts:List Tok):Out Tr:=bnd (Zp [40] ts) fun _ r=>bnd (selP r) fun p r=>bnd (Zp [91] r) fun _ r=>bnd (ZcV r) fun n r=>bnd (Zp [93] r) fun _ r=>bnd (Zp [41] r) fun _ r=>.ok (Z6 ⟨2,o,n,p.name,p.conds,[]⟩,r)
def Z3(rec:Nat->List Tok->Nat->Out Tr)(ts:List Tok)(deep:Nat):Out Tr:=bnd (Zp [40] ts) fun _ r=>bnd (rec 0 r deep) fun a r=>bnd (Zp [41] r) fun _ r=>.ok (a,r)
def Zb0(rec:Nat->List Tok->Nat->Out Tr)(g:Nat)(ts:List Tok)(deep:Nat):Out Tr:=bnd (Zp wBy ts) fun _ r=>bnd (Zp [40] r) fun _ r=>bnd (ZE (ZD 2) [41] (r.length+1) [] r) fun ns r=>bnd (Z3 rec r deep) fun a r=>.ok (.node 0 0 ⟨5,g,0,[],[],ns⟩ a .nil,r)
def Zda(t:Tok):Bool:=t.kind == 1 || isT [45] t || isT [40] t || (t.kind == 2 && !isT wOr t && !isT wBy t)
def numV(l:List UInt8):Int:=((ZL 1000000000 l).getD 0:Nat)
def Zbd(rec:Nat->List Tok->Nat->Out Tr)(ts:List Tok)(deep:Nat):Out Tr:=
 if (hd ts).kind=1 then .ok (Z6 ⟨0,0,numV (hd ts).txt,[],[],[]⟩,ts.tail)
 else if isT [45] (hd ts)then bnd (rec 3 ts.tail deep) fun a r=>.ok (.node 0 0 (nd0 3 0) a .nil,r)
 else if isT [40] (hd ts)then Z3 rec ts deep
 else match idx (hd ts).txt ZG with
  | some g=>Zb0 rec g ts.tail deep
  | none => match idx (hd ts).txt ZV with
    | some o=>winP o ts.tail
    | none=>bnd (selP ts) fun p r=>.ok (Z6 p,r)
def ZbZ(rec:Nat->List Tok->Nat->Out Tr)(ts:List Tok)(deep:Nat):Out Tr:=
 if Zda (hd ts)then (if deep=20 then .error (3,(hd ts).at_)else Zbd rec ts (deep+1))else .error (2,(hd ts).at_)
def opAt(lv:Nat)(t:Tok):Option (Nat×Nat):=
 if lv=0 then (if isT wOr t then some (6,0)else none)
 else if lv=1 then (if isT [43] t then some (4,0)else if isT [45] t then some (4,1)else none)
 else (if isT [42] t then some (4,2)else if isT [47] t then some (4,3)else none)
def Zj:Nat->Bool->Nat->Tr->List Tok->Nat->Out Tr
 | 0,_,_,_,_,_=>.error (0,0)
 | n + 1, false, lv, _, ts, deep => if lv = 3 then ZbZ (fun lv ts d => Zj n false lv .nil ts d) ts deep
   else bnd (Zj n false (lv+1) .nil ts deep) fun a r=>Zj n true lv a r deep
 | n + 1, true, lv, a, ts, deep => match opAt lv (hd ts) with
   | none=>.ok (a,ts)
   | some p=>bnd (Zj n false (lv+1) .nil ts.tail deep) fun b r=>Zj n true lv (.node 0 0 (nd0 p.1 p.2) a b) r deep
def Zf:Tr->Nat
 | .nil=>1
 | .node _ _ a l r => if a.kind = 0 then 1 else if a.kind = 1 ∨ a.kind = 2 then 2 else if a.kind = 3 then Zf l
   else if a.kind=5 then (if Zf l=2 then 2 else 0)
   else if Zf l=0∨Zf r=0∨(a.kind=6/\Zf l+Zf r≠4)then 0 else if Zf l+Zf r=2 then 1 else 2
def ZB(l:List UInt8):Except (Nat×Nat) Tr:=
 if 300<l.length then .error (1,0)else
 match Zj (10*(ZH l (l.length+1) 0).length+5) false 0 .nil (ZH l (l.length+1) 0) 0 with
 | .error e=>.error e
 | .ok (t,r)=>if (hd r).kind=0 then (if Zf t=0 then .error (4,0)else .ok t)else .error (2,(hd r).at_)
def ZC(a:Nd):Nat:=if a.kind=6 then 1 else if a.kind=4 then (if a.op<2 then 2 else 3)else 4
def commas:List (List UInt8)->List UInt8
 | []=>[]
 | [a]=>a
 | a::l=>a++44::commas l
def Zbo(c:List UInt8×List UInt8×Bool):List UInt8:=c.1++(if c.2.2 then [33,61] else [61])++[34]++c.2.1++[34]
def selS(a:Nd):List UInt8:=if a.conds=[] then a.name else a.name++[123]++commas (a.conds.map Zbo)++[125]
def digL:Nat->Nat->List UInt8
 | _,0=>[]
 | n,k+1=>digL (n / 256) k++[UInt8.ofNat (n % 256)]
def bitS(h:Nat):Nat:=if h % 2=1 then (h / 2) ^^^ 3988292384 else h / 2
def ZeL:Nat->Nat->Nat
 | 0,h=>h
 | k+1,h=>bitS (ZeL k h)
def Zjy(h:Nat)(c:UInt8):Nat:=ZeL 8 (h ^^^ c.toNat)
def sumL(l:List UInt8):Nat:=l.foldl Zjy 4294967295
def sumQ(l:List UInt8):Nat:=4294967295 - sumL l
theorem ZpM(l:List UInt8)(c:UInt8):sumL (l++[c])=Zjy (sumL l) c:=by simp[sumL]
theorem Zrc{h:Nat}(hh:h<4294967296):bitS h<4294967296:=by
 unfold bitS
 split
 ·exact Nat.xor_lt_two_pow (n:=32) (by show h / 2<4294967296;omega) (by decide)
 ·omega
theorem Zjs{h:Nat}(hh:h<4294967296):∀k,ZeL k h<4294967296
 | 0=>hh
 | k+1=>Zrc (Zjs hh k)
theorem ZqJ{h:Nat}(hh:h<4294967296)(c:UInt8):h ^^^ c.toNat<4294967296:=Nat.xor_lt_two_pow (n:=32) hh (by have:=c.toNat_lt;show c.toNat<4294967296;omega)
theorem Zrs{h:Nat}(hh:h<4294967296)(c:UInt8):Zjy h c<4294967296:=Zjs (ZqJ hh c) 8
theorem Zx6(l:List UInt8):sumL l.reverse<4294967296:=by
 induction l with
 | nil=>decide
 | cons c l ih=>rw[List.reverse_cons,ZpM];exact Zrs ih c
theorem Zx5(l:List UInt8):sumL l<4294967296:=by
 have:=Zx6 l.reverse
 rwa [List.reverse_reverse]at this
theorem Zx7(l:List UInt8):sumQ l<4294967296:=by unfold sumQ;omega
structure CodeQ where
 consts:List Int
 picks:List (Nd×Nat)
 groups:List (List (List UInt8))
 ins:List (Nat×Nat)
def sub(l:List UInt8)(p n:Nat):List UInt8:=(l.drop p).take n
end Go.Proofs.YtcdgkkfipdoeeaaGreatDoor.LS
namespace Go.Proofs.YtcdgkkfipdoeeaaGreatDoor
open Go.RowKit LS
theorem ZR{w w':World}{r:Option Nat}(h:Below w.heap.size w w'):w.grownBy w' r:=⟨h.os,h.tape,h.output,h.size,fun k hk _=>h.block k hk⟩
theorem Zfi(w:World)(r:Option Nat):w.grownBy w r:=⟨rfl,rfl,rfl,Nat.le_refl _,fun _ _ _=>rfl⟩
theorem Zy{a b c:World}{r:Option Nat}(h:a.grownBy b r)(h':b.grownBy c r):a.grownBy c r:=
 ⟨h'.os.trans h.os,h'.tape.trans h.tape,h'.output.trans h.output,Nat.le_trans h.size h'.size,fun k hk hn=>(h'.block k (Nat.lt_of_lt_of_le hk h.size) hn).trans (h.block k hk hn)⟩
theorem Zbm{a w:World}{b:Nat}(h:a.grownBy w (some b)){p:Addr}(hp:p.block=b∨a.heap.size<=p.block)(v:Value):a.grownBy (w.setCell p v) (some b):=
 ⟨h.os,h.tape,h.output,by rw[Go.Deep.nblk_setCell];exact h.size,fun k hk hn=>(Go.Deep.blk_setCell_other w p v k (by rintro rfl;rcases hp with hp|hp;exact hn (by rw[hp]);omega)).trans (h.block k hk hn)⟩
theorem Zdi{a w:World}{r:Option Nat}(h:a.grownBy w r)(o:Obj):a.grownBy (w.alloc o) r:=
 ⟨h.os,h.tape,h.output,by rw[Go.Deep.nblk_alloc];have:=h.size;omega,fun k hk hn=>(Go.Deep.blk_alloc_lt w o k (Nat.lt_of_lt_of_le hk h.size)).trans (h.block k hk hn)⟩
end Go.Proofs.YtcdgkkfipdoeeaaGreatDoor
namespace Go.Proofs.YtcdgkkfipdoeeaaGreatDoor.LS
open Go Go.RowKit
theorem Zus(l:List UInt8)(j:Nat)(c:UInt8)(r:List UInt8)(hl:l.drop j=c::r):j<(lexC l j c r).2/\(lexC l j c r).2<=l.length:=by
 have hlen:l.length=j+(r.length+1):=by
  have:=congrArg List.length hl;simp at this
  have h2:j<=l.length:=by
   rcases Nat.lt_or_ge l.length j with h|h
   ·rw[List.drop_of_length_le (by omega)]at hl;cases hl
   ·exact h
  omega
 unfold lexC
 split
 ·rename_i hd
  have h1:=ZfZ Zt (c::r)
  have h2:0<run Zt (c::r):=by simp[run,hd]
  simp only[List.length_cons]at h1
  exact⟨by show j<j+_;omega,by show j+_<=_;omega⟩
 ·split
  ·rename_i hd
   have h1:=ZfZ Zk (c::r)
   have h2:0<run Zk (c::r):=by simp[run,hd]
   simp only[List.length_cons]at h1
   exact⟨by show j<j+_;omega,by show j+_<=_;omega⟩
  ·split
   ·split
    ·exact⟨by show j<l.length;omega,Nat.le_refl _⟩
    ·rename_i p hs
     have:=Zxw hs
     exact⟨by show j<j+p+2;omega,by show j+p+2<=_;omega⟩
   ·split
    ·rename_i hc
     have:0<r.length:=by
      cases r with
      | nil=>simp at hc
      | cons a r=>simp
     exact⟨by show j<j+2;omega,by show j+2<=_;omega⟩
    ·split <;> exact⟨by show j<j+1;omega,by show j+1<=_;omega⟩
theorem Zih(l:List UInt8)(i:Nat)(hi:i<=l.length):((Zo l i).1.kind≠0->i<(Zo l i).2)/\(Zo l i).2<=l.length:=by
 unfold Zo
 have hr:=ZfZ (· == 32) (l.drop i)
 rw[List.length_drop]at hr
 generalize run (· == 32) (l.drop i)=n at *
 unfold lexJ
 cases hd:l.drop (i+n)with
 | nil=>exact⟨fun h=>absurd rfl h,by show i+n<=_;omega⟩
 | cons c r=>have:=Zus l (i+n) c r hd;exact⟨fun _=>by show i<(lexC l (i+n) c r).2;omega,this.2⟩
theorem Zup(l:List UInt8)(i:Nat):(Zo l i).1.txt.length<=l.length+2:=by
 unfold Zo lexJ
 split
 ·simp
 ·rename_i c r hd
  have hl:r.length+1<=l.length:=by
   have:=congrArg List.length hd
   rw[List.length_drop,List.length_cons]at this
   omega
  unfold lexC
  split
  ·split
   ·simp only[List.length_take,List.length_cons];omega
   ·simp
  ·split
   ·split
    ·simp
    ·simp only[List.length_take,List.length_cons];omega
   ·split
    ·split
     ·simp
     ·split
      ·simp only[List.length_take];omega
      ·simp
    ·split
     ·simp
     ·split <;> simp
theorem Zoc(l:List UInt8)(n i:Nat)(hi:i<=l.length):(ZH l n i).length<=l.length+1 - i:=by
 induction n generalizing i with
 | zero=>exact Nat.zero_le _
 | succ n ih=>
  unfold ZH
  have hg:=Zih l i hi
  split
  ·simp;omega
  ·rename_i hk
   have h1:=hg.1 (fun h=>hk (Or.inl h))
   have h2:=ih (Zo l i).2 hg.2
   simp;omega
theorem ZgY{s:List UInt8}{t:Tok}(h:isT s t=true):¬(t.kind=0∨t.kind=5):=by
 unfold isT at h
 simp only[Bool.and_eq_true,Bool.or_eq_true,beq_iff_eq]at h
 omega
end Go.Proofs.YtcdgkkfipdoeeaaGreatDoor.LS
namespace Go.Proofs.YtcdgkkfipdoeeaaGreatDoor
open Go.RowKit LS
theorem ZqU{P:Program}{w:World}{t ty:TypeId}(base:Nat)(e:TypeId)(i:TypeInfo)(z:Value)(size bytes:Nat)(h1:P.underlying t=some (.slice e))(h2:P.info? e=some i)(h3:i.zero=some z)(h4:i.size=size)(h5:i.bytes=bytes)(h6:z.cells.size=size)(h7:0<size)
  (v:Value) (n:Nat) (xs:List Value) (hown:w.ownsRow base e size v n xs)
  (ad:Addr) (m c:Nat) (news:List Value) (hn:news.length=m*size) (hc:∀j u,news[j]?=some u->w.cell? (ad.add j)=some u) (h1c:∀u∈news,u.oneCell'=true)
  (b1:n+m<=maxLen) (b2:(n+m)*bytes<=140737488355328) {v':Value} {w':World} (hrun:(Builtin.append_ #[t,t] ty #[v,.slice (some ad) m c]).run P w=.ok v' w') :
  v'.ownBlock=v.ownBlock∨∀k,v'.ownBlock=some k->w.heap.size<=k:=by
 have hcells:=fun g hg=>@World.ownsRow.cells w base e size v n xs hown g hg
 have hlen:=hown.1
 rcases hown.2 with ⟨rfl,rfl⟩|⟨g,cap,cur,rfl,hb,hh,hnc,hcm,hcs,htk⟩
 ·right
  obtain rfl:xs=[]:=List.eq_nil_of_length_eq_zero (by simpa using hlen)
  obtain⟨v2,w2,hrun2,r1,_⟩:=run_append_own (P:=P) w w.heap.size t ty e i z size bytes h1 h2 h3 h4 h5 h6 h7 (.slice none 0 0) 0 [] (World.ownsRow_nil w _ e size) ad m c news hn hc h1c b1 b2 (Nat.le_refl _)
  rw[hrun]at hrun2
  injection hrun2 with e1 e2
  subst e1
  exact fun k hk=>(r1.lt k hk).1
 ·by_cases hroom:n+m<=cap
  ·left
   have hfit:n*i.size+news.length<=cur.size:=by rw[h4,hn,hcs,<-Nat.add_mul];exact Nat.mul_le_mul_right _ hroom
   have hrun2:=run_append_room (P:=P) w t ty e i h1 h2 g n cap cur hh ad m c news (by rw[h4];exact hn) hc h1c hroom hfit
   rw[hrun]at hrun2
   injection hrun2 with e1 e2
   subst e1
   rfl
  ·right
   obtain⟨v2,w2,hrun2,r1,_⟩:=run_append_arg_grows (P:=P) w t ty e i z size bytes h1 h2 h3 h4 h5 h6 h7 ⟨g,0,none⟩ n cap xs hlen (hcells g rfl) ad m c news hn hc (by omega) b1 b2
   rw[hrun]at hrun2
   injection hrun2 with e1 e2
   subst e1
   exact fun k hk=>(r1.lt k hk).1
theorem Ze3{P:Program}{ops:Array Oper}{o:Oper}{a:Act}{w:World}{K:Act->World->Prop}{Q:Exit->Act->World->Prop}{E:Prop}
  (hg:o.guard=none) (s x:Operand) (t:TypeId) (hop:o.op=Op.call { callee:=Callee.builtin Builtin.append,args:=#[s,x],argTypes:=#[t,t] })
  (base:Nat) (e:TypeId) (i:TypeInfo) (z:Value) (size bytes:Nat) (h1:P.underlying t=some (.slice e)) (h2:P.info? e=some i) (h3:i.zero=some z) (h4:i.size=size) (h5:i.bytes=bytes) (h6:z.cells.size=size) (h7:0<size)
  (v:Value) (n:Nat) (xs:List Value) (hs:a.eval s=v) (hown:w.ownsRow base e size v n xs)
  (ad:Addr) (m c:Nat) (news:List Value) (hx:a.eval x=.slice (some ad) m c) (hn:news.length=m*size) (hc:∀j u,news[j]?=some u->w.cell? (ad.add j)=some u) (h1c:∀u∈news,u.oneCell'=true)
  (b1:n+m<=maxLen) (b2:(n+m)*bytes<=140737488355328) (hbase:base<=w.heap.size)
  (hK:∀v' w',w'.ownsRow base e size v' (n+m) (xs++news)->w.grownBy w' v.ownBlock->(v'.ownBlock=v.ownBlock∨∀k,v'.ownBlock=some k->w.heap.size<=k)->K (a.put o.dst v') w') :
  if Region.wanted o (yielded ops a.tmps)=true then Oper.wp P o a w K Q else E:=by
 have hw:Region.wanted o (yielded ops a.tmps)=true:=by simp[Region.wanted,hg]
 rw[if_pos hw]
 obtain⟨v',w',hrun,r1,r2,_⟩:=run_append_own (P:=P) w base t o.type e i z size bytes h1 h2 h3 h4 h5 h6 h7 v n xs hown ad m c news hn hc h1c b1 b2 hbase
 have r3:=ZqU base e i z size bytes h1 h2 h3 h4 h5 h6 h7 v n xs hown ad m c news hn hc h1c b1 b2 hrun
 unfold Oper.wp
 simp[execOp,hop,resolve,invoke,builtin,hs,hx,hrun,Result.andThen]
 exact hK v' w' r1 r2 r3
end Go.Proofs.YtcdgkkfipdoeeaaGreatDoor
namespace Go.Proofs.YtcdgkkfipdoeeaaGreatDoor.LS
open Go Go.RowKit
end Go.Proofs.YtcdgkkfipdoeeaaGreatDoor.LS
namespace Go.Proofs.YtcdgkkfipdoeeaaGreatDoor
open Go.RowKit LS
theorem Zh5{k:Nat}{ts:List Tok}{z:List UInt8×List Tok}(hk:k≠0)(h:ZD k ts=.ok z):z.2.length+1=ts.length/\z.1=(hd ts).txt/\z.2=ts.tail:=by
 unfold ZD at h
 split at h
 ·rename_i e
  injection h with h;subst h
  cases ts with
  | nil=>exact absurd e.symm hk
  | cons t r=>exact⟨rfl,rfl,rfl⟩
 ·cases h
theorem Zei{c:List UInt8}{ts:List Tok}{z:Unit×List Tok}(h:Zp c ts=.ok z):z.2.length+1=ts.length:=by
 unfold Zp at h
 split at h
 ·rename_i e
  injection h with h;subst h
  cases ts with
  | nil=>exact absurd (Or.inl rfl) (ZgY e)
  | cons t r=>rfl
 ·cases h
theorem ZtD{c:List UInt8}{ts:List Tok}(e:isT c (hd ts)=true):ts.tail.length+1=ts.length:=by
 cases ts with
 | nil=>exact absurd (Or.inl rfl) (ZgY e)
 | cons t r=>rfl
theorem Zmx(t:List Tok)(z:(List UInt8×List UInt8×Bool)×List Tok)(h:ZO t=.ok z):z.2.length+1<=t.length:=by
 unfold ZO at h
 cases h1:ZD 2 t with
 | error e=>rw[h1]at h;cases h
 | ok y=>
  have l1:=(Zh5 (by decide) h1).1
  rw[h1]at h
  simp only[bnd]at h
  cases h2:Zc9 y.2 with
  | error e=>rw[h2]at h;cases h
  | ok u=>
   have l2:u.2.length<=y.2.length:=by
    unfold Zc9 at h2
    split at h2
    ·injection h2 with h2;subst h2;simp
    ·cases h3:Zp [61] y.2 with
     | error e=>rw[h3]at h2;cases h2
     | ok q=>rw[h3]at h2;injection h2 with h2;subst h2;have:=Zei h3;show q.2.length<=_;omega
   rw[h2]at h
   simp only at h
   cases h3:ZD 3 u.2 with
   | error e=>rw[h3]at h;cases h
   | ok q=>
    have l3:=(Zh5 (by decide) h3).1
    rw[h3]at h
    injection h with h;subst h
    show q.2.length+1<=_
    omega
theorem ZeY{w w':World}{base:Nat}{e:TypeId}{size:Nat}{v:Value}{n:Nat}{xs:List Value}(h:w.ownsRow base e size v n xs)(hb:∀k,v.ownBlock=some k->w'.heap[k]?=w.heap[k]?):w'.ownsRow base e size v n xs:=by
 refine⟨h.1,?_⟩
 rcases h.2 with h2|⟨g,cap,cur,rfl,hg,hh,r⟩
 ·exact Or.inl h2
 ·exact Or.inr ⟨g,cap,cur,rfl,hg,(hb g rfl).trans hh,r⟩
theorem Zl{α β:Type}{x:Out α}{f:α->List Tok->Out β}{z:β×List Tok}(h:bnd x f=.ok z):∃a t,x=.ok (a,t)/\f a t=.ok z:=by
 cases x with
 | error e=>cases h
 | ok y=>exact⟨y.1,y.2,rfl,h⟩
theorem Zky{α:Type}{item:List Tok->Out α}{close:List UInt8}(hl:∀t z,item t=.ok z->z.2.length+1<=t.length):∀(n:Nat) (acc:List α) (ts:List Tok) (z:List α×List Tok),ZE item close n acc ts=.ok z->z.2.length+1<=ts.length
 | 0,_,_,_,h=>by cases h
 | n + 1, acc, ts, z, h => by
   have h':(if isT close (hd ts)then .ok (acc,ts.tail)else bnd (if acc.isEmpty then .ok ((),ts)else Zp [44] ts) fun _ r=>bnd (item r) fun a r=>ZE item close n (acc++[a]) r)=.ok z:=h
   cases hc:isT close (hd ts)
   · rw[hc]at h'
     obtain⟨_,t1,h1,h2⟩:=Zl (x:=if acc.isEmpty then .ok ((),ts)else Zp [44] ts) h'
     obtain⟨a,t2,h3,h4⟩:=Zl h2
     have l1:t1.length<=ts.length:=by
       split at h1
       · injection h1 with h1;injection h1 with _ h1;subst h1;exact Nat.le_refl _
       · have:=Zei h1;simp at this;omega
     have l2:=hl t1 _ h3
     have l3:=Zky hl n _ _ _ h4
     simp at l2
     omega
   · rw[hc]at h'
     injection h' with h';subst h'
     have:=ZtD hc
     show ts.tail.length+1<=ts.length
     omega
theorem ZtN(k:Nat)(hk:k≠0):∀t z,ZD k t=.ok z->z.2.length+1<=t.length:=fun _ _ h=>Nat.le_of_eq (Zh5 hk h).1
theorem Zpn{ts:List Tok}{z:Nd×List Tok}(h:selP ts=.ok z):z.2.length+1<=ts.length:=by
 unfold selP at h
 obtain⟨a,t,h1,h2⟩:=Zl h
 have l1:t.length+1=ts.length:=by
  unfold Zdw at h1
  split at h1
  ·cases h1
  ·exact(Zh5 (by decide) h1).1
 split at h2
 ·obtain⟨cs,t2,h3,h4⟩:=Zl h2
  have l2:=Zky Zmx _ _ _ _ h3
  injection h4 with h4;subst h4
  have:t.tail.length<=t.length:=by simp
  simp at l2 ⊢
  omega
 ·injection h2 with h2;subst h2;simp;omega
theorem ZzR{o:Nat}{ts:List Tok}{z:Tr×List Tok}(h:winP o ts=.ok z):z.2.length+1<=ts.length:=by
 unfold winP at h
 obtain⟨_,t1,h1,h⟩:=Zl h
 obtain⟨_,t2,h2,h⟩:=Zl h
 obtain⟨_,t3,h3,h⟩:=Zl h
 obtain⟨_,t4,h4,h⟩:=Zl h
 obtain⟨_,t5,h5,h⟩:=Zl h
 obtain⟨_,t6,h6,h⟩:=Zl h
 injection h with h;subst h
 have a1:=Zei h1
 have a2:=Zpn h2
 have a3:=Zei h3
 have a4:t4.length<=t3.length:=by
  unfold ZcV at h4
  split at h4
  ·injection h4 with h4;injection h4 with _ h4;subst h4;simp
  ·cases h4
 have a5:=Zei h5
 have a6:=Zei h6
 simp at a1 a2 a3 a5 a6 ⊢
 omega
theorem Zqg{rec:Nat->List Tok->Nat->Out Tr}(hr:∀lv t d z,rec lv t d=.ok z->z.2.length+1<=t.length){ts:List Tok}{deep:Nat}{z:Tr×List Tok}(h:Z3 rec ts deep=.ok z):z.2.length+1<=ts.length:=by
 unfold Z3 at h
 obtain⟨_,t1,h1,h⟩:=Zl h
 obtain⟨_,t2,h2,h⟩:=Zl h
 obtain⟨_,t3,h3,h⟩:=Zl h
 injection h with h;subst h
 have a1:=Zei h1
 have a2:=hr _ _ _ _ h2
 have a3:=Zei h3
 simp at a1 a2 a3 ⊢
 omega
theorem Zta{rec:Nat->List Tok->Nat->Out Tr}(hr:∀lv t d z,rec lv t d=.ok z->z.2.length+1<=t.length){g:Nat}{ts:List Tok}{deep:Nat}{z:Tr×List Tok}(h:Zb0 rec g ts deep=.ok z):z.2.length+1<=ts.length:=by
 unfold Zb0 at h
 obtain⟨_,t1,h1,h⟩:=Zl h
 obtain⟨_,t2,h2,h⟩:=Zl h
 obtain⟨_,t3,h3,h⟩:=Zl h
 obtain⟨_,t4,h4,h⟩:=Zl h
 injection h with h;subst h
 have a1:=Zei h1
 have a2:=Zei h2
 have a3:=Zky (ZtN 2 (by decide)) _ _ _ _ h3
 have a4:=Zqg hr h4
 simp at a1 a2 a3 a4 ⊢
 omega
theorem Ztr{rec:Nat->List Tok->Nat->Out Tr}(hr:∀lv t d z,rec lv t d=.ok z->z.2.length+1<=t.length){ts:List Tok}{deep:Nat}{z:Tr×List Tok}(h:Zbd rec ts deep=.ok z):z.2.length+1<=ts.length:=by
 unfold Zbd at h
 have ht:ts.tail.length<=ts.length:=by simp
 split at h
 ·rename_i hk
  injection h with h;subst h
  cases ts with
  | nil=>exact absurd hk (by decide)
  | cons t r=>exact Nat.le_refl _
 ·split at h
  ·obtain⟨_,t1,h1,h⟩:=Zl h
   injection h with h;subst h
   have:=hr _ _ _ _ h1
   simp at this ⊢
   omega
  ·split at h
   ·exact Zqg hr h
   ·split at h
    ·have:=Zta hr h;omega
    ·split at h
     ·have:=ZzR h;omega
     ·obtain⟨_,t1,h1,h⟩:=Zl h
      injection h with h;subst h
      exact Zpn h1
theorem ZfU:∀(n:Nat) (m:Bool) (lv:Nat) (a:Tr) (ts:List Tok) (deep:Nat) (z:Tr×List Tok),Zj n m lv a ts deep=.ok z->z.2.length+(if m then 0 else 1)<=ts.length
 | 0,_,_,_,_,_,_,h=>by cases h
 | n + 1, false, lv, a, ts, deep, z, h => by
   have hr:∀lv t d z,Zj n false lv .nil t d=.ok z->z.2.length+1<=t.length:=fun lv t d z h=>ZfU n false lv .nil t d z h
   unfold Zj at h
   split at h
   · unfold ZbZ at h
     split at h
     · split at h
       · cases h
       · exact Ztr hr h
     · cases h
   · obtain⟨b,t1,h1,h2⟩:=Zl h
     have l1:=hr _ _ _ _ h1
     have l2:=ZfU n true lv b t1 deep z h2
     simp at l1 l2 ⊢
     omega
 | n + 1, true, lv, a, ts, deep, z, h => by
   unfold Zj at h
   split at h
   · injection h with h;subst h;simp
   · obtain⟨b,t1,h1,h2⟩:=Zl h
     have l1:=ZfU n false _ _ _ _ _ h1
     have l2:=ZfU n true lv _ t1 deep z h2
     simp at l1 l2 ⊢
     omega
theorem Zce(a b:ByteArray):bl (a++b)=bl a++bl b:=by simp[bl]
def dig(d:Nat):UInt8:=UInt8.ofNat (48+d)
def decS(n:Nat):List UInt8:=if n<=9 then [dig n] else decS (n / 10)++[dig (n % 10)]
termination_by n
decreasing_by omega
theorem ZgP{n:Nat}(h:n<=9):decS n=[dig n]:=by rw[decS,if_pos h]
theorem ZhG{n:Nat}(h:¬n<=9):decS n=decS (n / 10)++[dig (n % 10)]:=by rw[decS,if_neg h]
def tw:List Tok->Nat
 | []=>0
 | t::r=>t.txt.length+30+tw r
def cw:List (List UInt8×List UInt8×Bool)->Nat
 | []=>0
 | c::r=>c.1.length+c.2.1.length+6+cw r
def nw:List (List UInt8)->Nat
 | []=>0
 | c::r=>c.length+1+nw r
def ownW(a:Nd):Nat:=24+a.name.length+cw a.conds+nw a.by_
def wT:Tr->Nat
 | .nil=>0
 | .node _ _ a l r=>ownW a+wT l+wT r
def isNil:Tr->Bool
 | .nil=>true
 | .node _ _ _ _ _=>false
def wfT:Tr->Prop
 | .nil=>True
 | .node _ _ a l r=>a.kind<=6/\a.op<=4/\(a.kind=4->a.op<=3)/\(a.kind=5->a.op<=3)/\0<=a.n/\a.n<=1000000000/\(3<=a.kind->isNil l=false)/\(a.kind=4∨a.kind=6->isNil r=false)/\(a.kind<=2->isNil l=true/\isNil r=true)/\(a.kind=3∨a.kind=5->isNil r=true)/\wfT l/\wfT r
theorem Zhm(ts:List Tok):tw ts.tail<=tw ts:=by
 cases ts with
 | nil=>exact Nat.le_refl _
 | cons t r=>show tw r<=t.txt.length+30+tw r;omega
theorem Zhl{ts:List Tok}(h:¬((hd ts).kind=0)):(hd ts).txt.length+30+tw ts.tail=tw ts:=by
 cases ts with
 | nil=>exact absurd rfl h
 | cons t r=>rfl
theorem Zel{c:List UInt8}{ts:List Tok}{z:Unit×List Tok}(h:Zp c ts=.ok z):tw z.2+30<=tw ts:=by
 unfold Zp at h
 split at h
 ·rename_i e
  injection h with h;subst h
  have:=Zhl (fun h=>ZgY e (Or.inl h))
  show tw ts.tail+30<=tw ts
  omega
 ·cases h
theorem ZiW{k:Nat}{ts:List Tok}{z:List UInt8×List Tok}(hk:k≠0)(h:ZD k ts=.ok z):tw z.2+z.1.length+30=tw ts:=by
 unfold ZD at h
 split at h
 ·rename_i e
  injection h with h;subst h
  have:=Zhl (ts:=ts) (by rw[e];exact hk)
  show tw ts.tail+(hd ts).txt.length+30=tw ts
  omega
 ·cases h
theorem ZmG(l m:List (List UInt8×List UInt8×Bool)):cw (l++m)=cw l+cw m:=by
 induction l with
 | nil=>simp[cw]
 | cons a l ih=>simp[cw,ih];omega
theorem ZvF(l m:List (List UInt8)):nw (l++m)=nw l+nw m:=by
 induction l with
 | nil=>simp[nw]
 | cons a l ih=>simp[nw,ih];omega
theorem ZlB{α:Type}{item:List Tok->Out α}{close:List UInt8}(f:List α->Nat)(hf:∀t z l,item t=.ok z->f (l++[z.1])+tw z.2<=f l+tw t):∀(n:Nat) (acc:List α) (ts:List Tok) (z:List α×List Tok),ZE item close n acc ts=.ok z->f z.1+tw z.2<=f acc+tw ts
 | 0,_,_,_,h=>by cases h
 | n + 1, acc, ts, z, h => by
   have h':(if isT close (hd ts)then .ok (acc,ts.tail)else bnd (if acc.isEmpty then .ok ((),ts)else Zp [44] ts) fun _ r=>bnd (item r) fun a r=>ZE item close n (acc++[a]) r)=.ok z:=h
   cases hc:isT close (hd ts)
   · rw[hc]at h'
     obtain⟨_,t1,h1,h2⟩:=Zl (x:=if acc.isEmpty then .ok ((),ts)else Zp [44] ts) h'
     obtain⟨a,t2,h3,h4⟩:=Zl h2
     have l1:tw t1<=tw ts:=by
       split at h1
       · injection h1 with h1;injection h1 with _ h1;subst h1;exact Nat.le_refl _
       · have:=Zel h1;simp at this;omega
     have l2:=hf t1 _ acc h3
     have l3:=ZlB f hf n _ _ _ h4
     simp at l2
     omega
   · rw[hc]at h'
     injection h' with h';subst h'
     have:=Zhm ts
     show f acc+tw ts.tail<=f acc+tw ts
     omega
theorem Zy5(t:List Tok)(z:(List UInt8×List UInt8×Bool)×List Tok)(l:List (List UInt8×List UInt8×Bool))(h:ZO t=.ok z):cw (l++[z.1])+tw z.2<=cw l+tw t:=by
 unfold ZO at h
 obtain⟨a,t1,h1,h⟩:=Zl h
 obtain⟨v,t2,h2,h⟩:=Zl h
 obtain⟨b,t3,h3,h⟩:=Zl h
 injection h with h;subst h
 have l1:=ZiW (by decide) h1
 have l3:=ZiW (by decide) h3
 have l2:tw t2<=tw t1:=by
  unfold Zc9 at h2
  split at h2
  ·injection h2 with h2;injection h2 with _ h2;subst h2;exact Zhm _
  ·obtain⟨_,t4,h4,h5⟩:=Zl h2
   injection h5 with h5;injection h5 with _ h5;subst h5
   have:=Zel h4
   simp at this
   omega
 rw[ZmG]
 simp[cw]at *
 omega
theorem ZiX{ts:List Tok}{z:Nd×List Tok}(h:selP ts=.ok z):ownW z.1+6+tw z.2<=tw ts/\z.1.kind=1/\z.1.op=0/\z.1.n=0/\z.1.by_=[]:=by
 unfold selP at h
 obtain⟨a,t,h1,h2⟩:=Zl h
 have l1:tw t+a.length+30=tw ts:=by
  unfold Zdw at h1
  split at h1
  ·cases h1
  ·exact ZiW (by decide) h1
 split at h2
 ·obtain⟨cs,t2,h3,h4⟩:=Zl h2
  injection h4 with h4;subst h4
  have l2:=ZlB cw Zy5 _ _ _ _ h3
  have l3:=Zhm t
  refine⟨?_,rfl,rfl,rfl,rfl⟩
  simp[ownW,cw,nw]at *
  omega
 ·injection h2 with h2;subst h2
  refine⟨?_,rfl,rfl,rfl,rfl⟩
  simp[ownW,cw,nw]at *
  omega
theorem Zvu(l:List UInt8):0<=numV l/\numV l<=1000000000:=by
 unfold numV
 cases h:ZL 1000000000 l with
 | none=>simp
 | some v=>have:=ZfQ h;simp;omega
theorem Zkp{a:Nd}(hk:a.kind<=2)(ho:a.op<=4)(hn:0<=a.n/\a.n<=1000000000):wfT (Z6 a):=
 ⟨by omega,ho,by omega,by omega,hn.1,hn.2,by omega,by omega,fun _=>⟨rfl,rfl⟩,by omega,trivial,trivial⟩
theorem Zy8{o:Nat}(ho:o<=4){ts:List Tok}{z:Tr×List Tok}(h:winP o ts=.ok z):wfT z.1/\isNil z.1=false/\wT z.1+tw z.2<=tw ts:=by
 unfold winP at h
 obtain⟨_,t1,h1,h⟩:=Zl h
 obtain⟨p,t2,h2,h⟩:=Zl h
 obtain⟨_,t3,h3,h⟩:=Zl h
 obtain⟨m,t4,h4,h⟩:=Zl h
 obtain⟨_,t5,h5,h⟩:=Zl h
 obtain⟨_,t6,h6,h⟩:=Zl h
 injection h with h;subst h
 have a1:=Zel h1
 have a2:=ZiX h2
 have a3:=Zel h3
 have a4:tw t4<=tw t3/\1<=m/\m<=1000:=by
  unfold ZcV at h4
  split at h4
  ·rename_i hh
   injection h4 with h4;injection h4 with h4 h4';subst h4;subst h4'
   exact⟨Zhm _,hh.2,(ZkK 1000 _).2⟩
  ·cases h4
 have a5:=Zel h5
 have a6:=Zel h6
 refine⟨Zkp (Nat.le_refl 2) ho ⟨by show 0<=m;omega,by show m<=_;omega⟩,rfl,?_⟩
 simp[Z6,wT,ownW,nw]at *
 omega
def InvP(rec:Nat->List Tok->Nat->Out Tr):Prop:=∀lv t d z,rec lv t d=.ok z->wfT z.1/\isNil z.1=false/\wT z.1+tw z.2<=tw t
theorem ZpY{rec:Nat->List Tok->Nat->Out Tr}(hr:InvP rec){ts:List Tok}{deep:Nat}{z:Tr×List Tok}(h:Z3 rec ts deep=.ok z):wfT z.1/\isNil z.1=false/\wT z.1+tw z.2<=tw ts:=by
 unfold Z3 at h
 obtain⟨_,t1,h1,h⟩:=Zl h
 obtain⟨a,t2,h2,h⟩:=Zl h
 obtain⟨_,t3,h3,h⟩:=Zl h
 injection h with h;subst h
 have a1:=Zel h1
 obtain⟨b1,b2,b3⟩:=hr _ _ _ _ h2
 have a3:=Zel h3
 refine⟨b1,b2,?_⟩
 simp at *
 omega
theorem Zy6{rec:Nat->List Tok->Nat->Out Tr}(hr:InvP rec){g:Nat}(hg:g<=3){ts:List Tok}{deep:Nat}{z:Tr×List Tok}(h:Zb0 rec g ts deep=.ok z):wfT z.1/\isNil z.1=false/\wT z.1+tw z.2<=tw ts:=by
 unfold Zb0 at h
 obtain⟨_,t1,h1,h⟩:=Zl h
 obtain⟨_,t2,h2,h⟩:=Zl h
 obtain⟨ns,t3,h3,h⟩:=Zl h
 obtain⟨a,t4,h4,h⟩:=Zl h
 injection h with h;subst h
 have a1:=Zel h1
 have a2:=Zel h2
 have a3:=ZlB nw (fun t z l hz=>by have:=ZiW (by decide) hz;rw[ZvF];simp[nw];omega) _ _ _ _ h3
 obtain⟨b1,b2,b3⟩:=ZpY hr h4
 refine⟨⟨by show(5:Nat)<=6;omega,by show g<=4;omega,fun _=>hg,fun _=>hg,Int.le_refl _,by show(0:Int)<=_;omega,fun _=>b2,fun h=>by simp at h,fun h=>absurd (show(5:Nat)<=2 from h) (by omega),fun _=>rfl,b1,trivial⟩,rfl,?_⟩
 simp[wT,ownW,cw,nw]at *
 omega
theorem ZhW{w:List UInt8}{l:List (List UInt8)}{i:Nat}(h:idx w l=some i):i<l.length:=by
 induction l generalizing i with
 | nil=>cases h
 | cons x l ih=>
  unfold idx at h
  split at h
  ·injection h with h;subst h;simp
  ·cases hi:idx w l with
   | none=>rw[hi]at h;cases h
   | some j=>rw[hi]at h;injection h with h;subst h;have:=ih hi;simp;omega
theorem Zy7{rec:Nat->List Tok->Nat->Out Tr}(hr:InvP rec){ts:List Tok}{deep:Nat}{z:Tr×List Tok}(h:Zbd rec ts deep=.ok z):wfT z.1/\isNil z.1=false/\wT z.1+tw z.2<=tw ts:=by
 unfold Zbd at h
 have ht:=Zhm ts
 split at h
 ·rename_i hk
  injection h with h;subst h
  have:=Zhl (ts:=ts) (by omega)
  refine⟨Zkp (Nat.zero_le _) (Nat.zero_le _) (Zvu _),rfl,?_⟩
  simp[Z6,wT,ownW,cw,nw]at *
  omega
 ·split at h
  ·rename_i hm
   obtain⟨a,t1,h1,h⟩:=Zl h
   injection h with h;subst h
   obtain⟨b1,b2,b3⟩:=hr _ _ _ _ h1
   have:=Zhl (ts:=ts) (fun h=>ZgY hm (Or.inl h))
   refine⟨⟨by show(3:Nat)<=6;omega,Nat.zero_le _,fun _=>Nat.zero_le _,fun _=>Nat.zero_le _,Int.le_refl _,by show(0:Int)<=_;omega,fun _=>b2,fun h=>by simp[nd0]at h,fun h=>absurd (show(3:Nat)<=2 from h) (by omega),fun _=>rfl,b1,trivial⟩,rfl,?_⟩
   simp[wT,ownW,cw,nw,nd0]at *
   omega
  ·split at h
   ·exact ZpY hr h
   ·split at h
    ·rename_i g hg
     have:=ZhW hg
     obtain⟨b1,b2,b3⟩:=Zy6 hr (show g<=3 by simp[ZG]at this;omega) h
     exact⟨b1,b2,by omega⟩
    ·split at h
     ·rename_i o ho
      have:=ZhW ho
      obtain⟨b1,b2,b3⟩:=Zy8 (show o<=4 by simp[ZV]at this;omega) h
      exact⟨b1,b2,by omega⟩
     ·obtain⟨p,t1,h1,h⟩:=Zl h
      injection h with h;subst h
      obtain⟨a1,a2,a3,a4,a5⟩:=ZiX h1
      simp only at a1 a2 a3 a4
      refine⟨Zkp (by omega) (by omega) ⟨by omega,by omega⟩,rfl,?_⟩
      simp[Z6,wT]at *
      omega
theorem ZfV:∀(n:Nat) (m:Bool) (lv:Nat) (a:Tr) (ts:List Tok) (deep:Nat) (z:Tr×List Tok),(m=true->wfT a/\isNil a=false)->Zj n m lv a ts deep=.ok z->wfT z.1/\isNil z.1=false/\wT z.1+tw z.2<=tw ts+(if m then wT a else 0)
 | 0,_,_,_,_,_,_,_,h=>by cases h
 | n + 1, false, lv, a, ts, deep, z, _, h => by
   have hr : InvP (fun lv t d => Zj n false lv .nil t d) := fun lv t d z h => by
     obtain⟨h1,h2,h3⟩:=ZfV n false lv .nil t d z (fun h=>nomatch h) h
     exact⟨h1,h2,by simpa using h3⟩
   unfold Zj at h
   split at h
   · unfold ZbZ at h
     split at h
     · split at h
       · cases h
       · obtain⟨h1,h2,h3⟩:=Zy7 hr h
         exact⟨h1,h2,by simpa using h3⟩
     · cases h
   · obtain⟨b,t1,h1,h2⟩:=Zl h
     obtain⟨l1,l2,l3⟩:=hr _ _ _ _ h1
     obtain⟨m1,m2,m3⟩:=ZfV n true lv b t1 deep z (fun _=>⟨l1,l2⟩) h2
     refine⟨m1,m2,?_⟩
     simp at l3 m3 ⊢
     omega
 | n + 1, true, lv, a, ts, deep, z, ha, h => by
   obtain⟨ha1,ha2⟩:=ha rfl
   unfold Zj at h
   split at h
   · injection h with h;subst h;exact⟨ha1,ha2,by simp;omega⟩
   · rename_i p hp
     obtain⟨b,t1,h1,h2⟩:=Zl h
     obtain⟨l1,l2,l3⟩:=ZfV n false _ _ _ _ _ (fun h=>nomatch h) h1
     have hop:((p.1=4/\p.2<=3)∨(p.1=6/\p.2=0))/\tw ts.tail+30<=tw ts:=by
       have hl:∀c,isT c (hd ts)=true->tw ts.tail+30<=tw ts:=fun c hc=>by have:=Zhl (ts:=ts) (fun h=>ZgY hc (Or.inl h));omega
       unfold LS.opAt at hp
       split at hp
       · split at hp
         · rename_i hc;injection hp with hp;subst hp;exact⟨Or.inr ⟨rfl,rfl⟩,hl _ hc⟩
         · cases hp
       · split at hp
         · split at hp
           · rename_i hc;injection hp with hp;subst hp;exact⟨Or.inl ⟨rfl,by decide⟩,hl _ hc⟩
           · split at hp
             · rename_i hc;injection hp with hp;subst hp;exact⟨Or.inl ⟨rfl,by decide⟩,hl _ hc⟩
             · cases hp
         · split at hp
           · rename_i hc;injection hp with hp;subst hp;exact⟨Or.inl ⟨rfl,by decide⟩,hl _ hc⟩
           · split at hp
             · rename_i hc;injection hp with hp;subst hp;exact⟨Or.inl ⟨rfl,by decide⟩,hl _ hc⟩
             · cases hp
     obtain⟨hk,htl⟩:=hop
     have hw:wfT (.node 0 0 (nd0 p.1 p.2) a b):=by
       refine⟨?_,?_,?_,?_,Int.le_refl _,by show(0:Int)<=_;omega,fun _=>ha2,fun _=>l2,?_,?_,ha1,l1⟩
       · show p.1<=6;omega
       · show p.2<=4;omega
       · intro h;show p.2<=3;omega
       · intro h;exact absurd (show p.1=5 from h) (by omega)
       · intro h;exact absurd (show p.1<=2 from h) (by omega)
       · intro h;exact absurd (show p.1=3∨p.1=5 from h) (by omega)
     obtain⟨m1,m2,m3⟩:=ZfV n true lv _ t1 deep z (fun _=>⟨hw,rfl⟩) h2
     refine⟨m1,m2,?_⟩
     simp[wT,ownW,cw,nw,nd0]at l3 m3 ⊢
     omega
end Go.Proofs.YtcdgkkfipdoeeaaGreatDoor

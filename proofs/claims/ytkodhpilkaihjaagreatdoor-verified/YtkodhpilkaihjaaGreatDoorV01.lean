/- Parts. -/
import Derived.Test.YtkodhpilkaihjaaGreatDoorV00
import Derived.Deep.Trees
import Derived.Deep.DeepCutAuto
import Derived.Deep.RegionLaw
set_option linter.all false
set_option maxRecDepth 100000
set_option maxHeartbeats 16000000
namespace Go.Proofs.YtkodhpilkaihjaaGreatDoor.LS
open Go Go.RowKit
structure Nd where
 jj:Nat
 op:Nat
 n:Int
 name:LB
 jn:List (LB×LB×Bool)
 by_:List (LB)
abbrev Tr:=Go.Deep.BT Nd
abbrev Out (α:Type):=Except (Nat×Nat) (α×List Tok)
def Zbg(a:Nd):Tr:=.node 0 0 a .nil .nil
def nd0(jj op:Nat):Nd:=⟨jj,op,0,[],[],[]⟩
def ZN(l:LB):Nat->Nat->List Tok
 | 0,_=>[]
 | n+1,i=>if (Zk l i).1.jj=0∨(Zk l i).1.jj=5 then [(Zk l i).1] else (Zk l i).1::ZN l n (Zk l i).2
def hd(ts:List Tok):Tok:=ts.headD ⟨0,[],0⟩
def wOr:LB:=[111,114]
def wBy:LB:=[98,121]
def ZW:List (LB):=[[115,117,109],[109,97,120],[109,105,110],[99,111,117,110,116]]
def Z0:List (LB):=[[116,111,116,97,108],[112,101,97,107],[108,111,119],[115,105,122,101],[114,105,115,101]]
def idx(w:LB):List (LB)->Option Nat
 | []=>none
 | x::l=>if x=w then some 0 else (idx w l).map (· + 1)
def isT(s:LB)(t:Tok):Bool:=(t.jj == 2 || t.jj == 4) && t.txt == s
def bnd{α β:Type}(x:Out α)(f:α->List Tok->Out β):Out β:=match x with
 | .error e=>.error e
 | .ok (a,ts)=>f a ts
def Zq(s:LB)(ts:List Tok):Out Unit:=if isT s (hd ts)then .ok ((),ts.tail)else .error (2,(hd ts).at_)
def ZH(k:Nat)(ts:List Tok):Out (LB):=if (hd ts).jj=k then .ok ((hd ts).txt,ts.tail)else .error (2,(hd ts).at_)
def ZS{α:Type}(item:List Tok->Out α)(close:LB):Nat->List α->List Tok->Out (List α)
 | 0,_,_=>.error (0,0)
 | n + 1, acc, ts => if isT close (hd ts) then .ok (acc, ts.tail) else
   bnd (if acc.isEmpty then .ok ((),ts)else Zq [44] ts) fun _ r=>bnd (item r) fun a r=>ZS item close n (acc++[a]) r
def Zdc(ts:List Tok):Out Bool:=if isT [33,61] (hd ts)then .ok (true,ts.tail)else bnd (Zq [61] ts) fun _ r=>.ok (false,r)
def ZV(ts:List Tok):Out (LB×LB×Bool):=bnd (ZH 2 ts) fun a r=>bnd (Zdc r) fun n r=>bnd (ZH 3 r) fun b r=>.ok ((a,b,n),r)
def Zgp(t:Tok):Bool:=(idx t.txt ZW).isSome || (idx t.txt Z0).isSome || isT wOr t || isT wBy t
def ZdQ(ts:List Tok):Out (LB):=if Zgp (hd ts)then .error (2,(hd ts).at_)else ZH 2 ts
def selP(ts:List Tok):Out Nd:=bnd (ZdQ ts) fun a r=>if isT [123] (hd r)then bnd (ZS ZV [125] r.length [] r.tail) fun cs r=>.ok (⟨1,0,0,a,cs,[]⟩,r)else .ok (⟨1,0,0,a,[],[]⟩,r)
def Zc2(ts:List Tok):Out Int:=if (hd ts).jj=1/\1<=numI 1000 (hd ts).txt then .ok (numI 1000 (hd ts).txt,ts.tail)else .error (2,(hd ts).at_)
def winP(o:Nat)(ts:List Tok):Out Tr:=bnd (Zq [40] ts) fun _ r=>bnd (selP r) fun p r=>bnd (Zq [91] r) fun _ r=>bnd (Zc2 r) fun n r=>bnd (Zq [93] r) fun _ r=>bnd (Zq [41] r) fun _ r=>.ok (Zbg ⟨2,o,n,p.name,p.jn,[]⟩,r)
def Zbu(rec:Nat->List Tok->Nat->Out Tr)(ts:List Tok)(deep:Nat):Out Tr:=bnd (Zq [40] ts) fun _ r=>bnd (rec 0 r deep) fun a r=>bnd (Zq [41] r) fun _ r=>.ok (a,r)
def Zcb(rec:Nat->List Tok->Nat->Out Tr)(g:Nat)(ts:List Tok)(deep:Nat):Out Tr:=bnd (Zq wBy ts) fun _ r=>bnd (Zq [40] r) fun _ r=>bnd (ZS (ZH 2) [41] (r.length+1) [] r) fun ns r=>bnd (Zbu rec r deep) fun a r=>.ok (.node 0 0 ⟨5,g,0,[],[],ns⟩ a .nil,r)
def ZdD(t:Tok):Bool:=t.jj == 1 || isT [45] t || isT [40] t || (t.jj == 2 && !isT wOr t && !isT wBy t)
def numV(l:LB):Int:=((ZQ 1000000000 l).getD 0:Nat)
def Zbw(rec:Nat->List Tok->Nat->Out Tr)(ts:List Tok)(deep:Nat):Out Tr:=
 if (hd ts).jj=1 then .ok (Zbg ⟨0,0,numV (hd ts).txt,[],[],[]⟩,ts.tail)
 else if isT [45] (hd ts)then bnd (rec 3 ts.tail deep) fun a r=>.ok (.node 0 0 (nd0 3 0) a .nil,r)
 else if isT [40] (hd ts)then Zbu rec ts deep
 else match idx (hd ts).txt ZW with
  | some g=>Zcb rec g ts.tail deep
  | none => match idx (hd ts).txt Z0 with
    | some o=>winP o ts.tail
    | none=>bnd (selP ts) fun p r=>.ok (Zbg p,r)
def Zb9(rec:Nat->List Tok->Nat->Out Tr)(ts:List Tok)(deep:Nat):Out Tr:=
 if ZdD (hd ts)then (if deep=20 then .error (3,(hd ts).at_)else Zbw rec ts (deep+1))else .error (2,(hd ts).at_)
def opAt(lv:Nat)(t:Tok):Option (Nat×Nat):=
 if lv=0 then (if isT wOr t then some (6,0)else none)
 else if lv=1 then (if isT [43] t then some (4,0)else if isT [45] t then some (4,1)else none)
 else (if isT [42] t then some (4,2)else if isT [47] t then some (4,3)else none)
def Zs:Nat->Bool->Nat->Tr->List Tok->Nat->Out Tr
 | 0,_,_,_,_,_=>.error (0,0)
 | n + 1, false, lv, _, ts, deep => if lv = 3 then Zb9 (fun lv ts d => Zs n false lv .nil ts d) ts deep
   else bnd (Zs n false (lv+1) .nil ts deep) fun a r=>Zs n true lv a r deep
 | n + 1, true, lv, a, ts, deep => match opAt lv (hd ts) with
   | none=>.ok (a,ts)
   | some p=>bnd (Zs n false (lv+1) .nil ts.tail deep) fun b r=>Zs n true lv (.node 0 0 (nd0 p.1 p.2) a b) r deep
def Zf:Tr->Nat
 | .nil=>1
 | .node _ _ a l r => if a.jj = 0 then 1 else if a.jj = 1 ∨ a.jj = 2 then 2 else if a.jj = 3 then Zf l
   else if a.jj=5 then (if Zf l=2 then 2 else 0)
   else if Zf l=0∨Zf r=0∨(a.jj=6/\Zf l+Zf r≠4)then 0 else if Zf l+Zf r=2 then 1 else 2
def ZD(l:LB):Except (Nat×Nat) Tr:=
 if 300<l.length then .error (1,0)else
 match Zs (10*(ZN l (l.length+1) 0).length+5) false 0 .nil (ZN l (l.length+1) 0) 0 with
 | .error e=>.error e
 | .ok (t,r)=>if (hd r).jj=0 then (if Zf t=0 then .error (4,0)else .ok t)else .error (2,(hd r).at_)
def Zz(a:Nd):Nat:=if a.jj=6 then 1 else if a.jj=4 then (if a.op<2 then 2 else 3)else 4
def ZRV:List (LB)->LB
 | []=>[]
 | [a]=>a
 | a::l=>a++44::ZRV l
def Z8(c:LB×LB×Bool):LB:=c.1++(if c.2.2 then [33,61] else [61])++[34]++c.2.1++[34]
def selS(a:Nd):LB:=if a.jn=[] then a.name else a.name++[123]++ZRV (a.jn.map Z8)++[125]
end Go.Proofs.YtkodhpilkaihjaaGreatDoor.LS
namespace Go.Proofs.YtkodhpilkaihjaaGreatDoor
open Go.RowKit LS Go.Proofs.Tryz
structure QV where
 pv:Value
 s:BA
 at_:Nat
 k:Nat
 tx:BA
 ta:Nat
 deep:Nat
 e:Nat
 pl:Nat
def QV.cells(q:QV):Array Value:=#[q.pv,.string q.s,Vi q.at_,Vi q.k,.string q.tx,Vi q.ta,Vi q.deep,Vi q.e,Vi q.pl]
def QAt(w:World)(b:Nat)(q:QV):Prop:=w.heap[b]?=some (.cells q.cells 239 (0,0))
theorem QAt.lt{w:World}{b:Nat}{q:QV}(h:QAt w b q):b<w.heap.size:=(Yae.1 h).1
theorem QAt.frozen{w:World}{b:Nat}{q:QV}(h:QAt w b q)(o:Nat):w.frozen? ⟨b,o,none⟩=false:=by
 unfold QAt at h;simp[World.frozen?,h]
theorem QAt.cell{w:World}{b:Nat}{q:QV}(h:QAt w b q)(o:Nat)(v:Value)(a:q.cells[o]?=some v):w.cell? ⟨b,o,none⟩=some v:=by
 unfold QAt at h;simp only[World.cell?,h];simpa using a
theorem QAt.all{w:World}{b:Nat}{q:QV}(h:QAt w b q) :
  w.cell? ⟨b,0,none⟩=some q.pv/\w.cell? ⟨b,1,none⟩=some (.string q.s)/\w.cell? ⟨b,2,none⟩=some (Vi q.at_)/\w.cell? ⟨b,3,none⟩=some (Vi q.k)/\w.cell? ⟨b,4,none⟩=some (.string q.tx)/\
  w.cell? ⟨b,5,none⟩=some (Vi q.ta)/\w.cell? ⟨b,6,none⟩=some (Vi q.deep)/\w.cell? ⟨b,7,none⟩=some (Vi q.e)/\w.cell? ⟨b,8,none⟩=some (Vi q.pl):=
 ⟨h.cell 0 _ rfl,h.cell 1 _ rfl,h.cell 2 _ rfl,h.cell 3 _ rfl,h.cell 4 _ rfl,h.cell 5 _ rfl,h.cell 6 _ rfl,h.cell 7 _ rfl,h.cell 8 _ rfl⟩
theorem QAt.set{w:World}{b:Nat}{q q':QV}(h:QAt w b q)(o:Nat)(v:Value)(a:q.cells.setIfInBounds o v=q'.cells):QAt (w.setCell ⟨b,o,none⟩ v) b q':=by
 unfold QAt at h ⊢;simp only[World.setCell,Ybn,h,if_true,Ybf];rw[<-a];rfl
theorem QAt.other{w:World}{b:Nat}{q:QV}(h:QAt w b q){a:Addr}(c:b≠a.block)(v:Value):QAt (w.setCell a v) b q:=(Go.Deep.blk_setCell_other w a v b c).trans h
theorem QAt.alloc{w:World}{b:Nat}{q:QV}(h:QAt w b q)(o:Obj):QAt (w.alloc o) b q:=(Go.Deep.blk_alloc_lt w o b h.lt).trans h
theorem QAt.below{w w':World}{b:Nat}{q:QV}(h:QAt w b q)(a:BW w w'):QAt w' b q:=(a.block b h.lt).trans h
theorem Zw{w w':World}{r:Option Nat}(h:BW w w'):w.grownBy w' r:=⟨h.os,h.tape,h.output,h.size,fun k a _=>h.block k a⟩
theorem ZbM(w:World)(r:Option Nat):w.grownBy w r:=⟨rfl,rfl,rfl,Yac _,fun _ _ _=>rfl⟩
theorem Zj{a b c:World}{r:Option Nat}(h:a.grownBy b r)(d:b.grownBy c r):a.grownBy c r:=
 ⟨d.os.trans h.os,d.tape.trans h.tape,d.output.trans h.output,Yah h.size d.size,fun k e f=>(d.block k (Yaw e h.size) f).trans (h.block k e f)⟩
theorem ZA{a w:World}{b:Nat}(h:a.grownBy w (some b)){p:Addr}(c:p.block=b∨a.heap.size<=p.block)(v:Value):a.grownBy (w.setCell p v) (some b):=
 ⟨h.os,h.tape,h.output,by rw[Go.Deep.nblk_setCell];exact h.size,fun k e d=>(Go.Deep.blk_setCell_other w p v k (by rintro rfl;rcases c with c|c;exact d (by rw[c]);omega)).trans (h.block k e d)⟩
theorem ZbR{a w:World}{r:Option Nat}(h:a.grownBy w r)(o:Obj):a.grownBy (w.alloc o) r:=
 ⟨h.os,h.tape,h.output,by rw[Go.Deep.nblk_alloc];have:=h.size;omega,fun k b c=>(Go.Deep.blk_alloc_lt w o k (Yaw b h.size)).trans (h.block k b c)⟩
theorem Zdi{a w:World}{r:Option Nat}(h:a.grownBy w r):a.grownBy w.drew r:=⟨h.os,h.tape,h.output,h.size,h.block⟩
theorem ZeT{a b c:World}{r:Option Nat}(h:a.grownBy b r)(d:BW b c):a.grownBy c r:=Zj h (Zw d)
theorem ZLy{w W a:World}{x y z:Value}{t:TypeId}(c:BW W a)(b:W.heap=(w.alloc (.cells #[x,y,z] t)).heap) :
  a.cell? ⟨w.heap.size,0,none⟩=some x/\a.cell? ⟨w.heap.size,1,none⟩=some y/\a.cell? ⟨w.heap.size,2,none⟩=some z/\
  a.frozen? ⟨w.heap.size,0,none⟩=false/\a.frozen? ⟨w.heap.size,1,none⟩=false/\a.frozen? ⟨w.heap.size,2,none⟩=false:=by
 have d:W.heap.size=w.heap.size+1:=by rw[b];exact Go.Deep.nblk_alloc _ _
 have h:a.heap[w.heap.size]?=some (.cells #[x,y,z] t):=by
  rw[c.block _ Om,b];exact Go.Deep.blk_alloc_new _ _
 refine⟨?_,?_,?_,?_,?_,?_⟩ <;> simp[World.cell?,World.frozen?,h]
theorem ZJ4{W:World}{x o p:Nat}{a:Value}{r:Option Value}(h:W.cell? ⟨x,o,none⟩=r)(b:p≠o):(W.setCell ⟨x,p,none⟩ a).cell? ⟨x,o,none⟩=r:=
 (World.cell?_setCell_other _ _ _ _ (by intro e;injection e with _ e2;exact b e2)).trans h
theorem ZND{W:World}{x:Nat}{u v y a b c:Value}(k0:W.cell? ⟨x,0,none⟩=some u)(k1:W.cell? ⟨x,1,none⟩=some v)(k2:W.cell? ⟨x,2,none⟩=some y) :
  (((W.setCell ⟨x,0,none⟩ a).setCell ⟨x,1,none⟩ b).setCell ⟨x,2,none⟩ c).cell? ⟨x,0,none⟩=some a/\(((W.setCell ⟨x,0,none⟩ a).setCell ⟨x,1,none⟩ b).setCell ⟨x,2,none⟩ c).cell? ⟨x,1,none⟩=some b/\
  (((W.setCell ⟨x,0,none⟩ a).setCell ⟨x,1,none⟩ b).setCell ⟨x,2,none⟩ c).cell? ⟨x,2,none⟩=some c:=
 ⟨ZJ4 (ZJ4 (Yf9 _ _ _ k0) Dc) Dc,ZJ4 (Yf9 _ _ _ (ZJ4 k1 Dc)) Dc,Yf9 _ _ _ (ZJ4 (ZJ4 k2 Dc) Dc)⟩
theorem ZNe(w:World)(b:Nat)(q:QV)(e:Nat)(h:QAt w b q)(a:q.e=0) :
  CP 177 #[Vp b,Vi e] w fun r u=>r=.returned (.tuple #[])/\QAt u b { q with e:=e,pl:=q.ta }/\w.grownBy u (some b):=by
 obtain⟨c0,c1,c2,c3,c4,c5,c6,c7,c8⟩:=h.all;have f7:=h.frozen 7;have f8:=h.frozen 8;have d:((q.e:Int) == 0)=true:=by rw[a];rfl
 have c:Hid (QAt w b q):=h;clear h a;go_enter func177,ntmps177;go_wp2
 go_end0
 exact⟨rfl,QAt.set (QAt.set (q':={ q with e:=e }) c.out 7 _ rfl) 8 _ rfl,(by repeat (first|exact ZbM _ _|assumption|refine ZA ?_ (by first|exact Or.inl rfl|(right;omega)|(right;simp;omega)) _|refine ZbR ?_ _|refine Zdi ?_))⟩
theorem ZNd(w:World)(b:Nat)(q:QV)(e:Int)(h:QAt w b q)(a:q.e≠0) :
  CP 177 #[Vp b,Vi e] w fun r u=>r=.returned (.tuple #[])/\u=w:=by
 obtain⟨c0,c1,c2,c3,c4,c5,c6,c7,c8⟩:=h.all;have c:((q.e:Int) == 0)=false:=by rw[beq_eq_false_iff_ne];omega
 have d:Hid (QAt w b q):=h;clear h a;go_enter func177,ntmps177;go_wp2
 go_end0
 exact⟨rfl,rfl⟩
theorem ZNf(w:World)(b:Nat)(q:QV)(s:BA)(h:QAt w b q)(a:q.e≠0) :
  CP 229 #[Vp b,.string s] w fun r u=>r=.returned (.bool false)/\u=w:=by
 obtain⟨c0,c1,c2,c3,c4,c5,c6,c7,c8⟩:=h.all;have c:((q.e:Int) == 0)=false:=by rw[beq_eq_false_iff_ne];omega
 have d:Hid (QAt w b q):=h;clear h a;go_enter func229,ntmps229;go_wp2;go_ret;exact⟨rfl,rfl⟩
def ZJB(q:QV):Tok:=⟨q.k,bl q.tx,q.ta⟩
theorem ZML (s : BA) (q : QV) : isT (bl s) (ZJB q) = ((((q.k : Int) == 2) || ((q.k : Int) == 4)) && (q.tx.toList == s.toList)) := by
  unfold isT ZJB;rw[Zbt,Zbt];have e2:((q.k:Int) == 2)=(q.k == 2):=by rw[Ybh,beq_iff_eq,beq_iff_eq];omega
  have e4:((q.k:Int) == 4)=(q.k == 4):=by rw[Ybh,beq_iff_eq,beq_iff_eq];omega
  rw[e2,e4]
theorem ZNg(w:World)(b:Nat)(q:QV)(s:BA)(h:QAt w b q)(a:q.e=0) :
  CP 229 #[Vp b,.string s] w fun r u=>r=.returned (.bool (isT (bl s) (ZJB q)))/\u=w:=by
 obtain⟨c0,c1,c2,c3,c4,c5,c6,c7,c8⟩:=h.all;have g:((q.e:Int) == 0)=true:=by rw[a];rfl
 have i:Hid (QAt w b q):=h;clear h a;rw[ZML];generalize c:((q.k:Int) == 2)=x2;generalize d:((q.k:Int) == 4)=x4;generalize f:(q.tx.toList == s.toList)=xs;go_enter func229,ntmps229;cases x2 <;> cases x4 <;> cases xs <;> (go_wp2;go_ret;exact⟨rfl,rfl⟩)
theorem ZLb(w:World)(b:Nat)(q:QV)(h:QAt w b q)(A:q.s.size<=6000)(B:q.at_<=q.s.size) :
  CP 175 #[Vp b] w fun r u => r = .returned (.tuple #[]) /\ (∃ ts : BA, bl ts = (Zk (bl q.s) q.at_).1.txt /\
    QAt u b { q with at_:=(Zk (bl q.s) q.at_).2,k:=(Zk (bl q.s) q.at_).1.jj,tx:=ts,ta:=(Zk (bl q.s) q.at_).1.at_ })/\w.grownBy u (some b):=by
 obtain⟨c0,c1,c2,c3,c4,c5,c6,c7,c8⟩:=h.all;have G:=h.lt;have p:Hid (QAt w b q):=h;clear h;generalize v:Zk (bl q.s) q.at_=r;have C:Hid _:=v;clear v;go_enter func175,ntmps175
 go_upto_region 0 with fail
 go_cut [2, 3] (fun s2 s3 f => ∃ (x : Nat) (ts : BA), s2 = Vp x /\ s3 = Vi r.2 /\ Hid (bl ts = r.1.txt) /\ b ≠ x /\ Hid (QAt f b q) /\ Hid (w.grownBy f (some b)) /\
   f.cell? ⟨x,0,none⟩=some (Vi r.1.jj)/\f.cell? ⟨x,1,none⟩=some (.string ts)/\f.cell? ⟨x,2,none⟩=some (Vi r.1.at_))
 case first=>
  go_region_with (go_at_call 227;refine(ZMU A B).mono ?_;rintro e g ⟨⟨ts,j⟩,a⟩;rw[C.out]at j;obtain⟨rfl,l⟩:=j;try (have m:=ZLy (w:=w) (x:=Vi 0) (y:=.string ⟨#[]⟩) (z:=Vi 0) (t:=237) a rfl;obtain⟨k0,k1,k2,g0,g1,g2⟩:=m))
  all_goals
   have n:QAt g b q:=by first|exact QAt.below (w:=w.drew) p.out a|exact QAt.below (w:=(w.alloc _).drew) (QAt.alloc p.out _) a
   have i:w.grownBy g (some b):=by first|exact ZeT (b:=w.drew) (Zdi (ZbM _ _)) a|exact ZeT (b:=(w.alloc _).drew) (Zdi (ZbR (ZbM _ _) _)) a
   have H:w.heap.size<=g.heap.size:=i.size;have d:b≠w.heap.size:=by omega
   have o:b≠g.heap.size:=by omega
   clear c0 c1 c2 c3 c4 c5 c6 c7 c8 a
   go_wp2_with fail
   go_meet
   first
    | exact⟨g.heap.size,ts,rfl,rfl,l,o,QAt.alloc n _,ZbR i _,by simp,by simp,by simp⟩
    | exact⟨w.heap.size,ts,rfl,rfl,l,d,QAt.other (QAt.other (QAt.other n d _) d _) d _,ZA (ZA (ZA i (Or.inr (Yac _)) _) (Or.inr (Yac _)) _) (Or.inr (Yac _)) _,ZND k0 k1 k2⟩
 case rest=>
  obtain⟨x,ts,rfl,rfl,D,m,c,E,k0,k1,k2⟩:=hcut;clear c0 c1 c2 c3 c4 c5 c6 c7 c8;obtain⟨c0,c1,c2,c3,c4,c5,c6,c7,c8⟩:=QAt.all c.out;have f2:=QAt.frozen c.out 2;have f3:=QAt.frozen c.out 3;have f4:=QAt.frozen c.out 4;have f5:=QAt.frozen c.out 5;go_wp2
  go_end0
  have F:=c.out;have I:=E.out;refine⟨rfl,⟨ts,D.out,?_⟩,(by repeat (first|exact ZbM _ _|assumption|refine ZA ?_ (by first|exact Or.inl rfl|(right;omega)|(right;simp;omega)) _|refine ZbR ?_ _|refine Zdi ?_))⟩;refine QAt.set (q:={ q with k:=r.1.jj,tx:=ts,ta:=r.1.at_ }) ?_ 2 _ rfl;refine QAt.set (q:={ q with k:=r.1.jj,tx:=ts }) ?_ 5 _ rfl;refine QAt.set (q:={ q with k:=r.1.jj }) ?_ 4 _ rfl;refine QAt.set (q:=q) ?_ 3 _ rfl;exact F
end Go.Proofs.YtkodhpilkaihjaaGreatDoor
namespace Go.Proofs.YtkodhpilkaihjaaGreatDoor.LS
open Go Go.RowKit
theorem Zye(l:LB)(j:Nat)(c:UInt8)(r:LB)(b:l.drop j=c::r):j<(lexC l j c r).2/\(lexC l j c r).2<=l.length:=by
 have f:l.length=j+(r.length+1):=by
  have:=congrArg List.length b;simp at this
  have e:j<=l.length:=by
   rcases Yav l.length j with h|h
   ·rw[Yb8 Om]at b;cases b
   ·exact h
  omega
 unfold lexC;split
 ·rename_i hd;have d:=Zg6 ZC (c::r);have e:0<run ZC (c::r):=by simp[run,hd]
  simp only[Yaj]at d;exact⟨by show j<j+_;omega,by show j+_<=_;omega⟩
 ·split
  ·rename_i hd;have d:=Zg6 Zp (c::r);have e:0<run Zp (c::r):=by simp[run,hd]
   simp only[Yaj]at d;exact⟨by show j<j+_;omega,by show j+_<=_;omega⟩
  ·split
   ·split
    ·exact⟨by show j<l.length;omega,Yac _⟩
    ·rename_i p g;have:=ZBY g;exact⟨by show j<j+p+2;omega,by show j+p+2<=_;omega⟩
   ·split
    ·rename_i i
     have:0<r.length:=by
      cases r with
      | nil=>simp at i
      | cons a r=>simp
     exact⟨by show j<j+2;omega,by show j+2<=_;omega⟩
    ·split <;> exact⟨by show j<j+1;omega,by show j+1<=_;omega⟩
theorem Zig(l:LB)(i:Nat)(b:i<=l.length):((Zk l i).1.jj≠0->i<(Zk l i).2)/\(Zk l i).2<=l.length:=by
 unfold Zk;have a:=Zg6 (· == 32) (l.drop i);rw[Ybv]at a;generalize run (· == 32) (l.drop i)=n at *
 unfold lexJ;cases hd:l.drop (i+n)with
 | nil=>exact⟨fun h=>absurd rfl h,by show i+n<=_;omega⟩
 | cons c r=>have:=Zye l (i+n) c r hd;exact⟨fun _=>by show i<(lexC l (i+n) c r).2;omega,this.2⟩
theorem Zyb(l:LB)(i:Nat):(Zk l i).1.txt.length<=l.length+2:=by
 unfold Zk lexJ;split
 ·simp
 ·rename_i c r hd
  have a:r.length+1<=l.length:=by
   have:=congrArg List.length hd;rw[Ybv,Yaj]at this;omega
  unfold lexC;split
  ·split
   ·simp only[Ya7,Yaj];omega
   ·simp
  ·split
   ·split
    ·simp
    ·simp only[Ya7,Yaj];omega
   ·split
    ·split
     ·simp
     ·split
      ·simp only[Ya7];omega
      ·simp
    ·split
     ·simp
     ·split <;> simp
theorem ZKq{l:LB}{i:Nat}:(Zk l i).1.jj=1->(ZQ 1000000000 (Zk l i).1.txt).isSome=true:=by
 unfold Zk lexJ;split
 ·intro h;cases h
 ·rename_i c r hd;unfold lexC;split
  ·split
   ·rename_i h;intro _;exact h
   ·intro h;cases h
  ·split
   ·split
    ·intro h;cases h
    ·intro h;cases h
   ·split
    ·split
     ·intro h;cases h
     ·split
      ·intro h;cases h
      ·intro h;cases h
    ·split
     ·intro h;cases h
     ·split
      ·intro h;cases h
      ·intro h;cases h
def Toks(l:LB)(t:Tok)(at_:Nat)(ts:List Tok):Prop:=∃r,ts=t::r/\((t.jj=0∨t.jj=5)->r=[])/\(¬(t.jj=0∨t.jj=5)->∃n,l.length+1<=n+at_/\r=ZN l n at_)/\t.txt.length<=l.length+2/\(t.jj=1->(ZQ 1000000000 t.txt).isSome=true)
theorem Toks.hd{l:LB}{t:Tok}{at_:Nat}{ts:List Tok}(h:Toks l t at_ ts):LS.hd ts=t:=by obtain⟨r,rfl,_⟩:=h;rfl
theorem Toks.pos{l:LB}{t:Tok}{at_:Nat}{ts:List Tok}(h:Toks l t at_ ts):ts.length=ts.tail.length+1:=by obtain⟨r,rfl,_⟩:=h;rfl
theorem Toks.next{l:LB}{t:Tok}{at_:Nat}{ts:List Tok}(h:Toks l t at_ ts)(b:¬(t.jj=0∨t.jj=5))(c:at_<=l.length):Toks l (Zk l at_).1 (Zk l at_).2 ts.tail:=by
 obtain⟨r,rfl,_,h,_⟩:=h;obtain⟨n,e,rfl⟩:=h b;obtain⟨m,rfl⟩:∃m,n=m+1:=⟨n - 1,by omega⟩
 have d:=Zig l at_ c;show Toks _ _ _ (ZN l (m+1) at_);unfold ZN;by_cases a:(Zk l at_).1.jj=0∨(Zk l at_).1.jj=5
 ·rw[if_pos a];exact⟨[],rfl,fun _=>rfl,fun h=>absurd a h,Zyb _ _,ZKq⟩
 ·rw[if_neg a];refine⟨_,rfl,fun h=>absurd h a,fun _=>⟨m,?_,rfl⟩,Zyb _ _,ZKq⟩;have:=d.1 (fun h=>a (Or.inl h));omega
theorem Toks.start(l:LB):Toks l (Zk l 0).1 (Zk l 0).2 (ZN l (l.length+1) 0):=by
 have b:=Zig l 0 (Yag _);show Toks _ _ _ (ZN l (l.length+1) 0);unfold ZN;by_cases a:(Zk l 0).1.jj=0∨(Zk l 0).1.jj=5
 ·rw[if_pos a];exact⟨[],rfl,fun _=>rfl,fun h=>absurd a h,Zyb _ _,ZKq⟩
 ·rw[if_neg a];refine⟨_,rfl,fun h=>absurd h a,fun _=>⟨l.length,?_,rfl⟩,Zyb _ _,ZKq⟩;have:=b.1 (fun h=>a (Or.inl h));omega
theorem ZjB(l:LB)(n i:Nat)(b:i<=l.length):(ZN l n i).length<=l.length+1 - i:=by
 induction n generalizing i with
 | zero=>exact Yag _
 | succ n ih=>
  unfold ZN;have a:=Zig l i b;split
  ·simp;omega
  ·rename_i c;have d:=a.1 (fun h=>c (Or.inl h));have e:=ih (Zk l i).2 a.2;simp;omega
theorem Toks.len{l:LB}{t:Tok}{at_:Nat}{ts:List Tok}(h:Toks l t at_ ts)(b:at_<=l.length):ts.length<=l.length+2:=by
 obtain⟨r,rfl,c,d,_⟩:=h;by_cases a:t.jj=0∨t.jj=5
 ·rw[c a];simp
 ·obtain⟨n,_,rfl⟩:=d a;have:=ZjB l n at_ b;simp;omega
theorem Toks.txt_le{l:LB}{t:Tok}{at_:Nat}{ts:List Tok}(h:Toks l t at_ ts):t.txt.length<=l.length+2:=by
 obtain⟨_,_,_,_,h,_⟩:=h;exact h
theorem Toks.num{l:LB}{t:Tok}{at_:Nat}{ts:List Tok}(h:Toks l t at_ ts):t.jj=1->(ZQ 1000000000 t.txt).isSome=true:=by
 obtain⟨_,_,_,_,_,h⟩:=h;exact h
theorem Zib{s:LB}{t:Tok}(h:isT s t=true):¬(t.jj=0∨t.jj=5):=by
 unfold isT at h;simp only[Yas,Yct,beq_iff_eq]at h;omega
end Go.Proofs.YtkodhpilkaihjaaGreatDoor.LS
namespace Go.Proofs.YtkodhpilkaihjaaGreatDoor
open Go.RowKit LS Go.Proofs.Tryz
def QIs(w:World)(b:Nat)(pv:Value)(s:BA)(ts:List Tok)(deep:Nat):Prop:=∃q:QV,QAt w b q/\q.pv=pv/\q.s=s/\q.deep=deep/\q.e=0/\q.at_<=s.size/\Toks (bl s) (ZJB q) q.at_ ts
def QErr(w:World)(b:Nat)(pv:Value)(e p:Nat)(deep:Nat):Prop:=∃q:QV,QAt w b q/\q.pv=pv/\q.deep=deep/\q.e=e/\e≠0/\q.pl=p
def QRes{α:Type}(w:World)(b:Nat)(pv:Value)(s:BA)(deep:Nat)(r:Out α)(good:α->Prop):Prop:=match r with
 | .error x=>QErr w b pv x.1 x.2 deep
 | .ok x=>QIs w b pv s x.2 deep/\good x.1
theorem QIs.kept{w w':World}{b:Nat}{pv:Value}{s:BA}{ts:List Tok}{deep:Nat}(h:QIs w b pv s ts deep)(a:w'.heap[b]?=w.heap[b]?):QIs w' b pv s ts deep:=by
 obtain⟨q,c,d⟩:=h;exact⟨q,a.trans c,d⟩
theorem QErr.kept{w w':World}{b:Nat}{pv:Value}{e p deep:Nat}(h:QErr w b pv e p deep)(a:w'.heap[b]?=w.heap[b]?):QErr w' b pv e p deep:=by
 obtain⟨q,c,d⟩:=h;exact⟨q,a.trans c,d⟩
theorem QIs.lt{w:World}{b:Nat}{pv:Value}{s:BA}{ts:List Tok}{deep:Nat}(h:QIs w b pv s ts deep):b<w.heap.size:=by obtain⟨q,a,_⟩:=h;exact a.lt
theorem QErr.lt{w:World}{b:Nat}{pv:Value}{e p deep:Nat}(h:QErr w b pv e p deep):b<w.heap.size:=by obtain⟨q,a,_⟩:=h;exact a.lt
theorem QIs.is{w:World}{b:Nat}{pv:Value}{s:BA}{ts:List Tok}{deep:Nat}(h:QIs w b pv s ts deep)(c:BA) :
  CP 229 #[Vp b,.string c] w fun r u=>r=.returned (.bool (isT (bl c) (hd ts)))/\u=w:=by
 obtain⟨q,a,_,_,_,d,_,e⟩:=h;rw[e.hd];exact ZNg w b q c a d
theorem QErr.is{w:World}{b:Nat}{pv:Value}{e p deep:Nat}(h:QErr w b pv e p deep)(c:BA) :
  CP 229 #[Vp b,.string c] w fun r u=>r=.returned (.bool false)/\u=w:=by
 obtain⟨q,a,_,_,d,f,_⟩:=h;exact ZNf w b q c a (by rw[d];exact f)
theorem QErr.fail{w:World}{b:Nat}{pv:Value}{e p deep:Nat}(h:QErr w b pv e p deep)(c:Int) :
  CP 177 #[Vp b,Vi c] w fun r u=>r=.returned (.tuple #[])/\u=w:=by
 obtain⟨q,a,_,_,d,f,_⟩:=h;exact ZNd w b q c a (by rw[d];exact f)
theorem QIs.fail{w:World}{b:Nat}{pv:Value}{s:BA}{ts:List Tok}{deep:Nat}(h:QIs w b pv s ts deep)(c:Nat)(ci:Int)(a:ci=c)(d:c≠0) :
  CP 177 #[Vp b,Vi ci] w fun r u=>r=.returned (.tuple #[])/\QErr u b pv c (hd ts).at_ deep/\w.grownBy u (some b):=by
 subst a;obtain⟨q,e,f,m,g,i,n,j⟩:=h;rw[j.hd];refine(ZNe w b q c e i).mono ?_;rintro r u ⟨rfl,k,l⟩;exact⟨rfl,⟨_,k,f,g,rfl,d,rfl⟩,l⟩
theorem QIs.next{w:World}{b:Nat}{pv:Value}{s:BA}{ts:List Tok}{deep:Nat}(h:QIs w b pv s ts deep)(g:s.size<=6000)(c:¬((hd ts).jj=0∨(hd ts).jj=5)) :
  CP 175 #[Vp b] w fun r u=>r=.returned (.tuple #[])/\QIs u b pv s ts.tail deep/\w.grownBy u (some b):=by
 obtain⟨q,i,j,rfl,l,m,a,d⟩:=h;rw[d.hd]at c;refine(ZLb w b q i g a).mono ?_;rintro r u ⟨rfl,⟨tx,f,n⟩,o⟩;have p:=d.next c (by rw[Zd];exact a);refine⟨rfl,⟨_,n,j,rfl,l,m,?_,?_⟩,o⟩
 ·have:=(Zig (bl q.s) q.at_ (by rw[Zd];exact a)).2;rw[Zd]at this;exact this
 ·have e:ZJB { q with at_:=(Zk (bl q.s) q.at_).2,k:=(Zk (bl q.s) q.at_).1.jj,tx:=tx,ta:=(Zk (bl q.s) q.at_).1.at_ }=(Zk (bl q.s) q.at_).1:=by
   show(⟨_,bl tx,_⟩:Tok)=_;rw[f]
  rw[e];exact p
theorem QErr.take{w:World}{b:Nat}{pv:Value}{e p deep:Nat}(h:QErr w b pv e p deep)(c:BA) :
  CP 318 #[Vp b,.string c] w fun r u=>r=.returned (.tuple #[])/\u=w:=by
 have H:Hid (QErr w b pv e p deep):=h;clear h;go_enter func318,ntmps318
 go_wp2_with fail
 refine(QErr.is H.out c).mono ?_;rintro r u ⟨rfl,rfl⟩
 go_wp2_with fail
 refine(QErr.fail H.out _).mono ?_;rintro r u ⟨rfl,rfl⟩;go_wp2
 first|go_end0|refine bodyPost_ret (results_none rfl _ _ _) rfl ?_
 exact⟨rfl,rfl⟩
theorem QIs.take{w:World}{b:Nat}{pv:Value}{s:BA}{ts:List Tok}{deep:Nat}(h:QIs w b pv s ts deep)(k:s.size<=6000)(c:BA) :
  CP 318 #[Vp b,.string c] w fun r u=>r=.returned (.tuple #[])/\QRes u b pv s deep (Zq (bl c) ts) (fun _=>True)/\w.grownBy u (some b):=by
 have H:Hid (QIs w b pv s ts deep):=h;clear h;cases a:isT (bl c) (hd ts)
 ·have g:Hid (Zq (bl c) ts=.error (2,(hd ts).at_)):=hid (by unfold Zq;rw[a];rfl);have f:Hid _:=a;clear a;go_enter func318,ntmps318
  go_wp2_with fail
  refine(QIs.is H.out c).mono ?_;rw[f.out];rintro r u ⟨rfl,rfl⟩
  go_wp2_with fail
  refine(QIs.fail H.out 2 _ rfl Dc).mono ?_;rintro r u ⟨rfl,d,e⟩;have i:Hid _:=d;have j:Hid _:=e;clear d e;go_wp2
  first|go_end0|refine bodyPost_ret (results_none rfl _ _ _) rfl ?_
  rw[g.out];exact⟨rfl,i.out,j.out⟩
 ·have g:Hid (Zq (bl c) ts=.ok ((),ts.tail)):=hid (by unfold Zq;rw[a];rfl);have f:Hid _:=a;clear a;go_enter func318,ntmps318
  go_wp2_with fail
  refine(QIs.is H.out c).mono ?_;rw[f.out];rintro r u ⟨rfl,rfl⟩
  go_wp2_with fail
  refine(QIs.next H.out k (Zib f.out)).mono ?_;rintro r u ⟨rfl,d,e⟩;have i:Hid _:=d;have j:Hid _:=e;clear d e;go_wp2
  first|go_end0|refine bodyPost_ret (results_none rfl _ _ _) rfl ?_
  rw[g.out];exact⟨rfl,⟨i.out,trivial⟩,j.out⟩
theorem QErr.jj{w:World}{b:Nat}{pv:Value}{e p deep:Nat}(h:QErr w b pv e p deep)(c:Int) :
  CP 320 #[Vp b,Vi c] w fun r u=>r=.returned (.string ⟨#[]⟩)/\u=w:=by
 obtain⟨q,a,d,f,g,i,j⟩:=h;obtain⟨c0,c1,c2,c3,c4,c5,c6,c7,c8⟩:=a.all;have k:((q.e:Int) != 0)=true:=by rw[bne_iff_ne];omega
 have H:Hid (QErr w b pv e p deep):=⟨q,a,d,f,g,i,j⟩
 clear a d f g i j;go_enter func320,ntmps320
 go_wp2_with fail
 refine(QErr.fail H.out _).mono ?_;rintro r u ⟨rfl,rfl⟩;go_wp2;go_ret;exact⟨rfl,rfl⟩
theorem QIs.jj{w:World}{b:Nat}{pv:Value}{s:BA}{ts:List Tok}{deep:Nat}(h:QIs w b pv s ts deep)(y:s.size<=6000)(k:Nat)(ki:Int)(n:ki=k)(i:¬(k=0∨k=5)) :
  CP 320 #[Vp b,Vi ki] w fun r u=>∃x:BA,r=.returned (.string x)/\QRes u b pv s deep (ZH k ts) (fun a=>bl x=a)/\w.grownBy u (some b):=by
 subst n;have H:Hid (QIs w b pv s ts deep):=h;obtain⟨q,o,z,A,B,p,C,t⟩:=h;obtain⟨c0,c1,c2,c3,c4,c5,c6,c7,c8⟩:=o.all;have E:((q.e:Int) != 0)=false:=by rw[p];rfl
 have d:=t.hd;clear o z A B p C t;by_cases c:q.k=k
 ·have v:((q.k:Int) != (k:Int))=false:=by rw[c];simp
  have j:Hid (ZH k ts=.ok (bl q.tx,ts.tail)):=hid (by
   unfold ZH;rw[d,if_pos (show(ZJB q).jj=k from c)];rfl)
  have D:Hid (¬((hd ts).jj=0∨(hd ts).jj=5)):=hid (by rw[d];show ¬(q.k=0∨q.k=5);rw[c];exact i);clear c d i;go_enter func320,ntmps320
  go_wp2_with fail
  refine(QIs.next H.out y D.out).mono ?_;rintro r u ⟨rfl,f,g⟩;have l:Hid _:=f;have m:Hid _:=g;clear f g;go_wp2;go_ret;rw[j.out];exact⟨q.tx,rfl,⟨l.out,rfl⟩,m.out⟩
 ·have v:((q.k:Int) != (k:Int))=true:=by rw[bne_iff_ne];omega
  have j:Hid (ZH k ts=.error (2,(hd ts).at_)):=hid (by
   unfold ZH;rw[if_neg (show ¬(hd ts).jj=k by rw[d];exact c)])
  clear c d i;go_enter func320,ntmps320
  go_wp2_with fail
  refine(QIs.fail H.out 2 _ rfl Dc).mono ?_;rintro r u ⟨rfl,f,g⟩;have l:Hid _:=f;have m:Hid _:=g;clear f g;go_wp2;go_ret;rw[j.out];exact⟨⟨#[]⟩,rfl,l.out,m.out⟩
theorem ZtK{P:Program}{w:World}{t ty:TypeId}(base:Nat)(e:TypeId)(i:TypeInfo)(z:Value)(size bytes:Nat)(r:P.underlying t=some (.slice e))(s:P.info? e=some i)(B:i.zero=some z)(o:i.size=size)(C:i.bytes=bytes)(D:z.cells.size=size)(E:0<size)
  (v:Value) (n:Nat) (xs:List Value) (b:w.ownsRow base e size v n xs)
  (ad:Addr) (m c:Nat) (news:List Value) (p:news.length=m*size) (x:∀j u,news[j]?=some u->w.cell? (ad.add j)=some u) (q:∀u∈news,u.oneCell'=true)
  (b1:n+m<=maxLen) (b2:(n+m)*bytes<=140737488355328) {v':Value} {w':World} (d:(Builtin.append_ #[t,t] ty #[v,.slice (some ad) m c]).run P w=.ok v' w') :
  v'.ownBlock=v.ownBlock∨∀k,v'.ownBlock=some k->w.heap.size<=k:=by
 have h:=fun g G=>@World.ownsRow.cells w base e size v n xs b g G;have l:=b.1;rcases b.2 with ⟨rfl,rfl⟩|⟨g,cap,cur,rfl,M,H,J,K,F,L⟩
 ·right
  obtain rfl:xs=[]:=Ya3 (by simpa using l);obtain⟨v2,I,a,r1,_⟩:=run_append_own (P:=P) w w.heap.size t ty e i z size bytes r s B o C D E S0 0 [] (Ybc w _ e size) ad m c news p x q b1 b2 (Yac _);rw[d]at a;injection a with e1 e2;subst e1;exact fun k y=>(r1.lt k y).1
 ·by_cases f:n+m<=cap
  ·left
   have A:n*i.size+news.length<=cur.size:=by rw[o,p,F,<-Nat.add_mul];exact Nat.mul_le_mul_right _ f
   have a:=run_append_room (P:=P) w t ty e i r s g n cap cur H ad m c news (by rw[o];exact p) x q f A;rw[d]at a;injection a with e1 e2;subst e1;rfl
  ·right
   obtain⟨v2,I,a,r1,_⟩:=run_append_arg_grows (P:=P) w t ty e i z size bytes r s B o C D E ⟨g,0,none⟩ n cap xs l (h g rfl) ad m c news p x Om b1 b2;rw[d]at a;injection a with e1 e2;subst e1;exact fun k y=>(r1.lt k y).1
theorem ZfF{P:Program}{ops:Array Oper}{o:Oper}{a:Act}{w:World}{K:Act->World->Prop}{Q:Exit->Act->World->Prop}{E:Prop}
  (G:o.guard=none) (s x:Operand) (t:TypeId) (l:o.op=Op.call { callee:=Callee.builtin Builtin.append,args:=#[s,x],argTypes:=#[t,t] })
  (base:Nat) (e:TypeId) (i:TypeInfo) (z:Value) (size bytes:Nat) (p:P.underlying t=some (.slice e)) (q:P.info? e=some i) (r:i.zero=some z) (y:i.size=size) (A:i.bytes=bytes) (B:z.cells.size=size) (C:0<size)
  (v:Value) (n:Nat) (xs:List Value) (H:a.eval s=v) (b:w.ownsRow base e size v n xs)
  (ad:Addr) (m c:Nat) (news:List Value) (I:a.eval x=.slice (some ad) m c) (D:news.length=m*size) (F:∀j u,news[j]?=some u->w.cell? (ad.add j)=some u) (h:∀u∈news,u.oneCell'=true)
  (b1:n+m<=maxLen) (b2:(n+m)*bytes<=140737488355328) (g:base<=w.heap.size)
  (J:∀v' d,d.ownsRow base e size v' (n+m) (xs++news)->w.grownBy d v.ownBlock->(v'.ownBlock=v.ownBlock∨∀k,v'.ownBlock=some k->w.heap.size<=k)->K (a.put o.dst v') d) :
  if Region.wanted o (yielded ops a.tmps)=true then Oper.wp P o a w K Q else E:=by
 have L:Region.wanted o (yielded ops a.tmps)=true:=by simp[Region.wanted,G]
 rw[if_pos L];obtain⟨v',d,f,r1,r2,_⟩:=run_append_own (P:=P) w base t o.type e i z size bytes p q r y A B C v n xs b ad m c news D F h b1 b2 g;have r3:=ZtK base e i z size bytes p q r y A B C v n xs b ad m c news D F h b1 b2 f;unfold Oper.wp;simp[execOp,l,resolve,invoke,builtin,H,I,f,Result.andThen];exact J v' d r1 r2 r3
structure Kept (b:Nat) (pv:Value) (w:World) (pv':Value) (w':World):Prop where
 os:w'.os=w.os
 tape:w'.tape=w.tape
 output:w'.output=w.output
 size:w.heap.size<=w'.heap.size
 block:∀k,k<w.heap.size->k≠b->some k≠pv.ownBlock->w'.heap[k]?=w.heap[k]?
 own:pv'.ownBlock=pv.ownBlock∨∀k,pv'.ownBlock=some k->w.heap.size<=k
theorem Kept.refl(b:Nat)(pv:Value)(w:World):Kept b pv w pv w:=⟨rfl,rfl,rfl,Yac _,fun _ _ _ _=>rfl,Or.inl rfl⟩
theorem Kept.trans{b:Nat}{p1 p2 p3:Value}{y z d:World}(h:Kept b p1 y p2 z)(a:Kept b p2 z p3 d):Kept b p1 y p3 d:=by
 refine⟨a.os.trans h.os,a.tape.trans h.tape,a.output.trans h.output,Yah h.size a.size,?_,?_⟩
 ·intro k c f g;refine(a.block k (Yaw c h.size) f ?_).trans (h.block k c f g);rcases h.own with e|e
  ·rw[e];exact g
  ·intro e2;have:=e k e2.symm;omega
 ·rcases a.own with e|e
  ·rw[e];exact h.own
  ·exact Or.inr fun k c=>Yah h.size (e k c)
theorem Kept.grown{b:Nat}{p1 p2:Value}{y z c:World}(h:Kept b p1 y p2 z)(a:z.grownBy c (some b)):Kept b p1 y p2 c:=
 h.trans ⟨a.os,a.tape,a.output,a.size,fun k d f _=>a.block k d (fun e=>f (Yax e)),Or.inl rfl⟩
theorem Tryz.infoPart:(Tryz.prog.info? 92).map (fun i=>(i.zero,i.size,i.bytes))=some (some (.agg #[Vi 0,Vi 0,Vi 0,.string ByteArray.empty,S0,S0,Vi 0,Vi 0]),8,104):=by kernel_rfl
theorem ZLA{W:World}{a:Nat}{x0 x1 x2 x3 x4 x5 x6 x7:Value}{t:TypeId}{fr:Nat×Nat}(h:W.heap[a]?=some (.cells #[x0,x1,x2,x3,x4,x5,x6,x7] t fr)):∀j x,[x0,x1,x2,x3,x4,x5,x6,x7][j]?=some x->W.cell? ((⟨a,0,none⟩:Addr).add j)=some x:=by
 intro j x b;rw[ZfO];simp only[World.cell?,h];simpa using b
theorem QAt.grownBy{w w':World}{b:Nat}{q:QV}{r:Option Nat}(h:QAt w b q)(c:w.grownBy w' r)(a:some b≠r):QAt w' b q:=(c.block b h.lt a).trans h
structure PV where
 k:Int
 n:Int
 op:Int
 nm:BA
 ca:Option Addr
 cn:Nat
 cc:Nat
 ba:Option Addr
 bn:Nat
 bc:Nat
 a:Int
 b:Int
def PV.cells(p:PV):List Value:=[Vi p.k,Vi p.n,Vi p.op,.string p.nm,.slice p.ca p.cn p.cc,.slice p.ba p.bn p.bc,Vi p.a,Vi p.b]
theorem ZLa(w:World)(b:Nat)(q:QV)(h:QAt w b q)(n:Nat)(xs:List Value)(g:w.ownsRow 0 92 8 q.pv n xs)(Q:n<=6000)(p:PV) :
  CP 230 #[Vp b,.agg #[Vi p.k,Vi p.n,Vi p.op,.string p.nm,.slice p.ca p.cn p.cc,.slice p.ba p.bn p.bc,Vi p.a,Vi p.b]] w fun r v=>
   ∃pv',r=.returned (Vi n)/\QAt v b { q with pv:=pv' }/\v.ownsRow 0 92 8 pv' (n+1) (xs++p.cells)/\Kept b q.pv w pv' v:=by
 obtain⟨i0,L,A,B,C⟩:=info_parts Tryz.infoPart;obtain⟨c0,c1,c2,c3,c4,c5,c6,c7,c8⟩:=h.all;have P:=h.lt;have H:Hid (QAt w b q):=h;obtain⟨k,pn,op,nm,ca,cn,cc,ba,bn,bc,pa,pb⟩:=p;obtain⟨av,cp,i⟩:=Zl g;have d:w.ownsRow 0 92 8 (.slice av n cp) n xs:=by rw[<-i];exact g
 have M:Hid (some b≠(Value.slice av n cp).ownBlock):=Zcx d h Dc;have x:Hid (q.pv=.slice av n cp):=i;have N:Hid (∀(o1 o2:Obj),((w.alloc o1).alloc o2).drew.ownsRow 0 92 8 (.slice av n cp) n xs):=fun o1 o2=>(d.alloc o1).alloc o2
 have O : Hid (∀ (o1 o2 : Obj), ((w.alloc o1).alloc o2).drew.heap[w.heap.size + 1]? = some o2) := fun o1 o2 => by
   have:=Go.Deep.blk_alloc_new (w.alloc o1) o2;rw[Go.Deep.nblk_alloc]at this;exact this
 have D:Hid (∀(o1 o2:Obj),QAt ((w.alloc o1).alloc o2).drew b q):=fun o1 o2=>QAt.alloc (QAt.alloc h o1) o2;clear h g d;rw[i]at c0;clear i;go_enter func230,ntmps230;go_wp2
 go_region_law (
  refine ZfF rfl (.tmp 9) (.tmp 11) 98 rfl 0 92 i0 _ 8 104 underlying98 L A B C rfl Dc (.slice av n cp) n xs (by simp[Act.eval]) (N.out _ _) ⟨w.heap.size+1,0,none⟩ 1 1 [Vi k,Vi pn,Vi op,.string nm,.slice ca cn cc,.slice ba bn bc,Vi pa,Vi pb] (by simp[Act.eval]) rfl ?h2 ?h3 ?h4 ?h5 (Yag _) ?_
  case h2=>exact ZLA (O.out _ _)
  case h3=>intro u E;simp at E;rcases E with rfl|rfl|rfl|rfl|rfl|rfl|rfl|rfl <;> rfl
  case h4=>unfold maxLen;omega
  case h5=>omega
  intro v1 y f c hwhere1;have l:QAt y b q:=QAt.grownBy (D.out _ _) c M.out;obtain⟨g1,cp1,F⟩:=ZF f Om;subst F;have d0:=(QAt.all l).1;rw[x.out]at d0;have e0:=QAt.frozen l 0)
 all_goals
  have o:Hid (QAt y b q):=l;have s:Hid (y.ownsRow 0 92 8 (.slice (some ⟨g1,0,none⟩) (n+1) cp1) (n+1) (xs++[Vi k,Vi pn,Vi op,.string nm,.slice ca cn cc,.slice ba bn bc,Vi pa,Vi pb])):=f;have G:Hid _:=c;have I:Hid _:=hwhere1;clear l f c hwhere1 c0 c1 c2 c3 c4 c5 c6 c7 c8;go_wp2;go_ret;refine⟨_,ZBw Om,QAt.set o.out 0 _ rfl,Yf6 s.out (ZA (b:=b) (ZbM _ _) (Or.inl rfl) _) (Or.inr ?_),?_⟩
  ·exact fun e=>Zcx s.out o.out Dc e.symm
  ·have m:=G.out;have J:=m.size;rw[show((w.alloc _).alloc _).drew.heap.size=w.heap.size+1+1 from by rw[show((w.alloc _).alloc _).drew.heap.size=((w.alloc _).alloc _).heap.size from rfl,Go.Deep.nblk_alloc,Go.Deep.nblk_alloc]]at J;refine⟨m.os,m.tape,m.output,?_,?_,?_⟩
   ·rw[Go.Deep.nblk_setCell];omega
   ·intro j z K t;rw[Go.Deep.blk_setCell_other _ _ _ _ (show j≠b from K)];rw[x.out]at t;refine(m.block j ?_ t).trans ?_
    ·show j<((w.alloc _).alloc _).heap.size;rw[Go.Deep.nblk_alloc,Go.Deep.nblk_alloc];omega
    ·show((w.alloc _).alloc _).heap[j]?=_;rw[Go.Deep.blk_alloc_lt _ _ _ (by rw[Go.Deep.nblk_alloc];omega),Go.Deep.blk_alloc_lt _ _ _ z]
   ·rw[x.out];rcases I.out with h|h
    ·exact Or.inl h
    ·refine Or.inr fun j z=>?_;have:=h j z;have h2:((w.alloc _).alloc _).heap.size<=j:=this;rw[Go.Deep.nblk_alloc,Go.Deep.nblk_alloc]at h2;omega
end Go.Proofs.YtkodhpilkaihjaaGreatDoor
namespace Go.Proofs.YtkodhpilkaihjaaGreatDoor.LS
open Go Go.RowKit
def idxI(w:LB)(l:List (LB)):Int:=match idx w l with
 | none=>-1
 | some i=>i
theorem ZMD {w : LB} {l : List (LB)} (k : Nat) (a : k < l.length) (h : l.getD k [] ≠ w) {m:Nat} (b : idxI w l = match idx w (l.drop k) with | none => -1 | some i => ((i + k : Nat) : Int)) (c : m = k + 1) :
    idxI w l=match idx w (l.drop m)with|none=>-1|some i=>((i+m:Nat):Int):=by
  subst c;rw[b];rw[List.drop_eq_getElem_cons a];have e:l.getD k []=l[k]:=by simp[a]
  rw[e]at h;show(match (if l[k]=w then some 0 else (idx w (l.drop (k+1))).map (· + 1))with|none=>(-1:Int)|some i=>((i+k:Nat):Int))=_;rw[if_neg h];cases idx w (l.drop (k+1))with
  | none=>rfl
  | some i=>show(((i+1+k:Nat)):Int)=((i+(k+1):Nat):Int);omega
theorem ZMC {w : LB} {l : List (LB)} (k : Nat) (a : k < l.length) (h : l.getD k [] = w) (b : idxI w l = match idx w (l.drop k) with | none => -1 | some i => ((i + k : Nat) : Int)) : idxI w l = k := by
  rw[b,List.drop_eq_getElem_cons a];have e:l.getD k []=l[k]:=by simp[a]
  rw[e]at h;show(match (if l[k]=w then some 0 else (idx w (l.drop (k+1))).map (· + 1))with|none=>(-1:Int)|some i=>((i+k:Nat):Int))=_;rw[if_pos h];show((0+k:Nat):Int)=k;omega
theorem ZMB {w : LB} {l : List (LB)} (k : Nat) (b : ¬ k < l.length) (a : idxI w l = match idx w (l.drop k) with | none => -1 | some i => ((i + k : Nat) : Int)) : idxI w l = -1 := by
  rw[a,Yb8 Om];rfl
theorem ZMA{w:LB}{l:List (LB)}:idxI w l=match idx w (l.drop 0)with|none=>-1|some i=>((i+0:Nat):Int):=rfl
end Go.Proofs.YtkodhpilkaihjaaGreatDoor.LS
namespace Go.Proofs.YtkodhpilkaihjaaGreatDoor
open Go.RowKit LS Go.Proofs.Tryz
theorem ZJY{s x:BA}{w:World}(z:s.size<=6000) :
  CP 316 #[.string s,.string x] w fun r u=>r=.returned (Vi (idxI (bl x) (split 32 (bl s))))/\BW w u:=by
 go_enter func316,ntmps316
 go_wp2_with fail
 refine(ZKh s 32 rfl z).mono ?_;rintro e y ⟨g,n,cp,bs,rfl,p,B,C,a,j,l⟩;have A:Hid (n=bs.length):=p;have b:(split 32 (bl s)).length=n:=by rw[<-j.out,Yak,p]
 have D:n<=6001:=by have:=Zhd 32 (bl s);rw[Zd]at this;omega
 clear p;have c:Hid _:=b;clear b;go_wp2
 go_loop [6] (fun i=>∃k:Nat,k<=n/\i=.int .i64 k/\Hid (idxI (bl x) (split 32 (bl s))=match idx (bl x) ((split 32 (bl s)).drop k)with|none=>-1|some i=>((i+k:Nat):Int))) (fun i=>n - (intOf i).toNat)
 case atStart=>exact⟨0,Yag _,rfl,ZMA⟩
 case round=>
  obtain⟨k,E,rfl,q⟩:=hrel;by_cases d:k<n
  ·have m:k<bs.length:=by rw[<-A.out];exact d
   have o:k<(split 32 (bl s)).length:=by rw[c.out];exact d
   have v:y.cell? ⟨g,k,none⟩=some (.string bs[k]):=a.out k m;have t:Hid (bl bs[k]=(split 32 (bl s)).getD k []):=ZJ6 j.out k m;generalize bs[k]=sk at v t;cases h:(sk.toList == x.toList)
   ·have f : Hid (idxI (bl x) (split 32 (bl s)) = match idx (bl x) ((split 32 (bl s)).drop (k + 1)) with | none => -1 | some i => ((i + (k + 1) : Nat) : Int)) := hid (by
      refine ZMD k o ?_ q.out rfl;rw[<-t.out];rw[Zbt,Zbt]at h;exact beq_eq_false_iff_ne.1 h)
    go_wp2
    go_round
    case rel=>exact⟨k+1,by omega,by go_num,f⟩
    case measure=>simp[intOf];omega
   ·have f:Hid (idxI (bl x) (split 32 (bl s))=k):=hid (by
     refine ZMC k o ?_ q.out;rw[<-t.out];rw[Zbt,Zbt]at h;exact beq_iff_eq.1 h)
    go_wp2;go_ret;exact⟨by rw[f.out];rfl,l⟩
  ·have f:Hid (idxI (bl x) (split 32 (bl s))=-1):=hid (ZMB k (by rw[c.out];exact d) q.out);go_wp2;go_ret;exact⟨by rw[f.out];rfl,l⟩
def St(w:World)(b:Nat)(pv:Value)(s:BA)(deep:Nat)(r:Out Unit):Prop:=QRes w b pv s deep r (fun _=>True)
def isR(c:LB)(r:Out Unit):Bool:=match r with
 | .error _=>false
 | .ok x=>isT c (hd x.2)
theorem St.kept{w w':World}{b:Nat}{pv:Value}{s:BA}{deep:Nat}{r:Out Unit}(h:St w b pv s deep r)(a:w'.heap[b]?=w.heap[b]?):St w' b pv s deep r:=by
 cases r with
 | error x=>exact QErr.kept (e:=x.1) (p:=x.2) h a
 | ok x=>exact⟨QIs.kept h.1 a,trivial⟩
theorem St.lt{w:World}{b:Nat}{pv:Value}{s:BA}{deep:Nat}{r:Out Unit}(h:St w b pv s deep r):b<w.heap.size:=by
 cases r with
 | error x=>exact QErr.lt (e:=x.1) (p:=x.2) h
 | ok x=>exact QIs.lt h.1
theorem St.len{w:World}{b:Nat}{pv:Value}{s:BA}{deep:Nat}{x:Unit×List Tok}(h:St w b pv s deep (.ok x)):x.2.length<=s.size+2:=by
 obtain⟨⟨q,_,_,_,_,_,a,c⟩,_⟩:=h;have:=c.len (by rw[Zd];exact a)
 rwa [Zd]at this
theorem St.view{w:World}{b:Nat}{pv:Value}{s:BA}{deep:Nat}{r:Out Unit}(h:St w b pv s deep r) :
  ∃q:QV,QAt w b q/\q.pv=pv/\q.deep=deep/\(∀x,r=.error x->q.e=x.1/\q.e≠0/\q.pl=x.2)/\(∀x,r=.ok x->q.e=0/\ZJB q=hd x.2):=by
 cases r with
 | error x=>
  obtain⟨q,d,f,i,c,g,j⟩:=h;refine⟨q,d,f,i,?_,?_⟩
  ·intro y a;injection a with a;subst a;exact⟨c,by rw[c];exact g,j⟩
  ·intro y a;cases a
 | ok x=>
  obtain⟨⟨q,d,f,i,c,g,j,k⟩,_⟩:=h;refine⟨q,d,f,c,?_,?_⟩
  ·intro y a;cases a
  ·intro y a;injection a with a;subst a;exact⟨g,k.hd.symm⟩
theorem St.is{w:World}{b:Nat}{pv:Value}{s:BA}{deep:Nat}{r:Out Unit}(h:St w b pv s deep r)(c:BA) :
  CP 229 #[Vp b,.string c] w fun e u=>e=.returned (.bool (isR (bl c) r))/\u=w:=by
 cases r with
 | error x=>exact QErr.is (e:=x.1) (p:=x.2) h c
 | ok x=>exact QIs.is h.1 c
theorem St.take{w:World}{b:Nat}{pv:Value}{s:BA}{deep:Nat}{r:Out Unit}(h:St w b pv s deep r)(a:s.size<=6000)(c:BA) :
  CP 318 #[Vp b,.string c] w fun e u=>e=.returned (.tuple #[])/\St u b pv s deep (bnd r fun _ ts=>Zq (bl c) ts)/\w.grownBy u (some b):=by
 cases r with
 | error x=>
  refine(QErr.take (e:=x.1) (p:=x.2) h c).mono ?_;rintro e u ⟨rfl,rfl⟩;exact⟨rfl,h,ZbM _ _⟩
 | ok x=>exact QIs.take h.1 a c
theorem St.fail{w:World}{b:Nat}{pv:Value}{s:BA}{deep:Nat}{r:Out Unit}(h:St w b pv s deep r)(c:Nat)(ci:Int)(a:ci=c)(d:c≠0) :
  CP 177 #[Vp b,Vi ci] w fun e u=>e=.returned (.tuple #[])/\St u b pv s deep (bnd r fun _ ts=>.error (c,(hd ts).at_))/\w.grownBy u (some b):=by
 cases r with
 | error x=>
  refine(QErr.fail (e:=x.1) (p:=x.2) h ci).mono ?_;rintro e u ⟨rfl,rfl⟩;exact⟨rfl,h,ZbM _ _⟩
 | ok x=>exact QIs.fail h.1 c ci a d
def ZJm{α:Type}(r:Out α):Out Unit:=bnd r fun _ ts=>.ok ((),ts)
theorem St.jj{w:World}{b:Nat}{pv:Value}{s:BA}{deep:Nat}{r:Out Unit}(h:St w b pv s deep r)(g:s.size<=6000)(k:Nat)(ki:Int)(f:ki=k)(i:¬(k=0∨k=5)) :
  CP 320 #[Vp b, Vi ki] w fun e u => ∃ x : BA, e = .returned (.string x) /\ St u b pv s deep (bnd r fun _ ts => ZJm (ZH k ts)) /\
    Hid (∀y,r=.ok y->∀z,ZH k y.2=.ok z->bl x=z.1)/\w.grownBy u (some b):=by
 cases r with
 | error x=>
  refine(QErr.jj (e:=x.1) (p:=x.2) h ki).mono ?_;rintro e u ⟨rfl,rfl⟩;exact⟨⟨#[]⟩,rfl,h,hid (fun y c=>(by cases c)),ZbM _ _⟩
 | ok x=>
  refine(QIs.jj h.1 g k ki f i).mono ?_;rintro e u ⟨tx,rfl,a,j⟩;refine⟨tx,rfl,?_,?_,j⟩
  ·show St u b pv s deep (ZJm (ZH k x.2));cases d:ZH k x.2 with
   | error z=>rw[d]at a;exact a
   | ok z=>rw[d]at a;exact⟨a.1,trivial⟩
  ·rintro y c z l;injection c with c;subst c;rw[l]at a;exact a.2
theorem St.next{w:World}{b:Nat}{pv:Value}{s:BA}{deep:Nat}{r:Out Unit}(h:St w b pv s deep r)(c:s.size<=6000)(a:∃ts,r=.ok ((),ts)/\¬((hd ts).jj=0∨(hd ts).jj=5)) :
  CP 175 #[Vp b] w fun e u=>e=.returned (.tuple #[])/\St u b pv s deep (bnd r fun _ ts=>.ok ((),ts.tail))/\w.grownBy u (some b):=by
 obtain⟨ts,rfl,a⟩:=a;refine(QIs.next h.1 c a).mono ?_;rintro e u ⟨rfl,d,f⟩;exact⟨rfl,⟨d,trivial⟩,f⟩
theorem ZKA{c:LB}{r:Out Unit}(h:isR c r=true):∃ts,r=.ok ((),ts)/\isT c (hd ts)=true/\¬((hd ts).jj=0∨(hd ts).jj=5):=by
 cases r with
 | error x=>cases h
 | ok x=>exact⟨x.2,rfl,h,Zib h⟩
def PAt(w:World)(a:Nat)(p:PV):Prop:=w.heap[a]?=some (.cells #[Vi p.k,Vi p.n,Vi p.op,.string p.nm,.slice p.ca p.cn p.cc,.slice p.ba p.bn p.bc,Vi p.a,Vi p.b] 92 (0,0))
theorem PAt.lt{w:World}{a:Nat}{p:PV}(h:PAt w a p):a<w.heap.size:=(Yae.1 h).1
theorem PAt.frozen{w:World}{a:Nat}{p:PV}(h:PAt w a p)(o:Nat):w.frozen? ⟨a,o,none⟩=false:=by
 unfold PAt at h;simp[World.frozen?,h]
theorem PAt.all{w:World}{a:Nat}{p:PV}(h:PAt w a p) :
  w.cell? ⟨a,0,none⟩=some (Vi p.k)/\w.cell? ⟨a,1,none⟩=some (Vi p.n)/\w.cell? ⟨a,2,none⟩=some (Vi p.op)/\w.cell? ⟨a,3,none⟩=some (.string p.nm)/\
  w.cell? ⟨a,4,none⟩=some (.slice p.ca p.cn p.cc)/\w.cell? ⟨a,5,none⟩=some (.slice p.ba p.bn p.bc)/\w.cell? ⟨a,6,none⟩=some (Vi p.a)/\w.cell? ⟨a,7,none⟩=some (Vi p.b):=by
 unfold PAt at h;refine⟨?_,?_,?_,?_,?_,?_,?_,?_⟩ <;> simp[World.cell?,h]
theorem PAt.kept{w w':World}{a:Nat}{p:PV}(h:PAt w a p)(b:w'.heap[a]?=w.heap[a]?):PAt w' a p:=b.trans h
theorem PAt.grown{w w':World}{a:Nat}{p:PV}{r:Option Nat}(h:PAt w a p)(b:w.grownBy w' r)(c:some a≠r):PAt w' a p:=(b.block a h.lt c).trans h
theorem PAt.setNm{w:World}{a:Nat}{p:PV}(h:PAt w a p)(x:BA):PAt (w.setCell ⟨a,3,none⟩ (.string x)) a { p with nm:=x }:=by
 unfold PAt at h ⊢;simp only[World.setCell,Ybn,h,if_true,Ybf];rfl
theorem PAt.setConds{w:World}{a:Nat}{p:PV}(h:PAt w a p)(x:Option Addr)(n c:Nat):PAt (w.setCell ⟨a,4,none⟩ (.slice x n c)) a { p with ca:=x,cn:=n,cc:=c }:=by
 unfold PAt at h ⊢;simp only[World.setCell,Ybn,h,if_true,Ybf];rfl
theorem PAt.setBy{w:World}{a:Nat}{p:PV}(h:PAt w a p)(x:Option Addr)(n c:Nat):PAt (w.setCell ⟨a,5,none⟩ (.slice x n c)) a { p with ba:=x,bn:=n,bc:=c }:=by
 unfold PAt at h ⊢;simp only[World.setCell,Ybn,h,if_true,Ybf];rfl
theorem PAt.setA{w:World}{a:Nat}{p:PV}(h:PAt w a p)(x:Int):PAt (w.setCell ⟨a,6,none⟩ (Vi x)) a { p with a:=x }:=by
 unfold PAt at h ⊢;simp only[World.setCell,Ybn,h,if_true,Ybf];rfl
def ZJV(w:World)(a:Nat)(p:PV):World:=(((((((w.setCell ⟨a,0,none⟩ (Vi p.k)).setCell ⟨a,1,none⟩ (Vi p.n)).setCell ⟨a,2,none⟩ (Vi p.op)).setCell ⟨a,3,none⟩ (.string p.nm)).setCell ⟨a,4,none⟩ (.slice p.ca p.cn p.cc)).setCell ⟨a,5,none⟩ (.slice p.ba p.bn p.bc)).setCell ⟨a,6,none⟩ (Vi p.a)).setCell ⟨a,7,none⟩ (Vi p.b)
theorem PAt.setK{w:World}{a:Nat}{p:PV}(h:PAt w a p)(x:Int):PAt (w.setCell ⟨a,0,none⟩ (Vi x)) a { p with k:=x }:=by
 unfold PAt at h ⊢;simp only[World.setCell,Ybn,h,if_true,Ybf];rfl
theorem PAt.setN{w:World}{a:Nat}{p:PV}(h:PAt w a p)(x:Int):PAt (w.setCell ⟨a,1,none⟩ (Vi x)) a { p with n:=x }:=by
 unfold PAt at h ⊢;simp only[World.setCell,Ybn,h,if_true,Ybf];rfl
theorem PAt.setOp{w:World}{a:Nat}{p:PV}(h:PAt w a p)(x:Int):PAt (w.setCell ⟨a,2,none⟩ (Vi x)) a { p with op:=x }:=by
 unfold PAt at h ⊢;simp only[World.setCell,Ybn,h,if_true,Ybf];rfl
theorem PAt.setB{w:World}{a:Nat}{p:PV}(h:PAt w a p)(x:Int):PAt (w.setCell ⟨a,7,none⟩ (Vi x)) a { p with b:=x }:=by
 unfold PAt at h ⊢;simp only[World.setCell,Ybn,h,if_true,Ybf];rfl
theorem ZKT{w:World}{a:Nat}{p0:PV}(h:PAt w a p0){p:PV}:PAt (ZJV w a p) a p:=
 PAt.setB (PAt.setA (PAt.setBy (PAt.setConds (PAt.setNm (PAt.setOp (PAt.setN (PAt.setK h p.k) p.n) p.op) p.nm) p.ca p.cn p.cc) p.ba p.bn p.bc) p.a) p.b
theorem ZKx(w:World)(a:Nat)(p:PV)(k:Nat)(b:k≠a):(ZJV w a p).heap[k]?=w.heap[k]?:=by
 unfold ZJV;rw[Go.Deep.blk_setCell_other _ _ _ _ (show k≠a from b),Go.Deep.blk_setCell_other _ _ _ _ (show k≠a from b),Go.Deep.blk_setCell_other _ _ _ _ (show k≠a from b),Go.Deep.blk_setCell_other _ _ _ _ (show k≠a from b),Go.Deep.blk_setCell_other _ _ _ _ (show k≠a from b),Go.Deep.blk_setCell_other _ _ _ _ (show k≠a from b),Go.Deep.blk_setCell_other _ _ _ _ (show k≠a from b),Go.Deep.blk_setCell_other _ _ _ _ (show k≠a from b)]
theorem ZKU{w0 w:World}{b a:Nat}(h:w0.grownBy w (some b))(c:w0.heap.size<=a)(p:PV):w0.grownBy (ZJV w a p) (some b):=by
 unfold ZJV;exact ZA (ZA (ZA (ZA (ZA (ZA (ZA (ZA h (Or.inr c) _) (Or.inr c) _) (Or.inr c) _) (Or.inr c) _) (Or.inr c) _) (Or.inr c) _) (Or.inr c) _) (Or.inr c) _
structure PTok where
 kd:Nat
 at_:Nat
 tx:BA
 v:Nat
def ZbC:List PTok->List Value
 | []=>[]
 | t::l=>.int .i64 t.kd::.int .i64 t.at_::.string t.tx::.int .i64 t.v::ZbC l
theorem Zer(l m:List PTok):ZbC (l++m)=ZbC l++ZbC m:=by
 induction l with
 | nil=>rfl
 | cons a l ih=>simp[ZbC,ih]
theorem Zwj (l : List PTok) (j : Nat) : (ZbC l)[j * 4]? = l[j]?.map (fun t => Vi t.kd) /\ (ZbC l)[j * 4 + 1]? = l[j]?.map (fun t => Vi t.at_) /\ (ZbC l)[j * 4 + 2]? = l[j]?.map (fun t => .string t.tx) /\ (ZbC l)[j * 4 + 3]? = l[j]?.map (fun t => Vi t.v) := by
  induction l generalizing j with
  | nil=>simp[ZbC]
  | cons r l ih=>
    cases j with
    | zero=>simp[ZbC]
    | succ j=>
      obtain⟨a,b,c,d⟩:=ih j;refine⟨?_,?_,?_,?_⟩
      · rw[show(j+1)*4=j*4+1+1+1+1 by omega];simpa [ZbC] using a
      · rw[show(j+1)*4+1=j*4+1+1+1+1+1 by omega];simpa [ZbC] using b
      · rw[show(j+1)*4+2=j*4+2+1+1+1+1 by omega];simpa [ZbC] using c
      · rw[show(j+1)*4+3=j*4+3+1+1+1+1 by omega];simpa [ZbC] using d
def pk(k:Nat):Nat:=if k=0 then 4 else if k=1 then 0 else if k=2 then 1 else if k=3 then 2 else if k=4 then 3 else 5
def Zdf(p:PTok)(t:Tok):Prop:=p.kd=pk t.jj/\p.at_=t.at_/\bl p.tx=t.txt/\(t.jj=1->(p.v:Int)=numV t.txt)
structure RD (w:World) (b g cp:Nat) (ps:List PTok) (k:Nat):Prop where
 cells:w.heap[b]?=some (.cells #[.slice (some ⟨g,0,none⟩) ps.length cp,Vi k] 162 (0,0))
 own:w.ownsRow 0 167 4 (.slice (some ⟨g,0,none⟩) ps.length cp) ps.length (ZbC ps)
 lt:k<ps.length
theorem RD.below{w w':World}{b g cp:Nat}{ps:List PTok}{k:Nat}(h:RD w b g cp ps k)(a:BW w w'):RD w' b g cp ps k:=
 ⟨(a.block b (Yae.1 h.cells).1).trans h.cells,Zn h.own a,h.lt⟩
theorem RD.all{w:World}{b g cp:Nat}{ps:List PTok}{k:Nat}(h:RD w b g cp ps k) :
  w.cell? ⟨b,0,none⟩=some (.slice (some ⟨g,0,none⟩) ps.length cp)/\w.cell? ⟨b,1,none⟩=some (Vi k)/\w.frozen? ⟨b,1,none⟩=false/\b<w.heap.size/\g<w.heap.size/\
  w.cell? ⟨g,k*4,none⟩=some (Vi (ps[k]'h.lt).kd)/\w.cell? ⟨g,k*4+1,none⟩=some (Vi (ps[k]'h.lt).at_)/\w.cell? ⟨g,k*4+2,none⟩=some (.string (ps[k]'h.lt).tx)/\w.cell? ⟨g,k*4+3,none⟩=some (Vi (ps[k]'h.lt).v):=by
 obtain⟨f1,f2,f3,f4⟩:=Zwj ps k;rw[List.getElem?_eq_getElem h.lt]at f1 f2 f3 f4;refine⟨by simp[World.cell?,h.cells],by simp[World.cell?,h.cells],by simp[World.frozen?,h.cells],(Yae.1 h.cells).1,Z1 h.own,Zi h.own _ _ f1,Zi h.own _ _ f2,Zi h.own _ _ f3,Zi h.own _ _ f4⟩
theorem ZiF{w:World}{b g cp:Nat}{ps:List PTok}{k:Nat}(h:RD w b g cp ps k) :
  CP 69 #[Vp b] w fun e u=>e=.returned (.agg #[Vi (ps[k]'h.lt).kd,Vi (ps[k]'h.lt).at_,.string (ps[k]'h.lt).tx,Vi (ps[k]'h.lt).v])/\BW w u:=by
 obtain⟨c0,c1,_,a,c,d0,d1,d2,d3⟩:=h.all;have d:=h.lt;generalize ps[k]'h.lt=t at *
 obtain⟨kd,at_,tx,v⟩:=t;simp only at d0 d1 d2 d3 ⊢;generalize ps.length=n at *
 clear h;go_enter func69,ntmps69;go_wp2
 go_region
 all_goals
  go_wp2;exact bodyPost_ret (v:=.agg #[Vi kd,Vi at_,.string tx,Vi v]) (by simp[results,results69,go_sem]) rfl ⟨rfl,belB⟩
theorem ZlS(t:PTok)(s:BA)(w:World) :
  CP 185 #[.agg #[Vi t.kd,Vi t.at_,.string t.tx,Vi t.v],.string s] w fun e u=>e=.returned (.bool (((t.kd:Int) == 3) && (t.tx.toList == s.toList)))/\BW w u:=by
 obtain⟨kd,at_,tx,v⟩:=t;simp only;generalize a:((kd:Int) == 3)=x;cases x
 ·go_enter func185,ntmps185;go_wp2;go_ret;exact⟨rfl,belB⟩
 ·go_enter func185,ntmps185;go_wp2;go_ret;exact⟨rfl,belB⟩
theorem Zp0(t:PTok)(s:BA)(w:World) :
  CP 192 #[.agg #[Vi t.kd,Vi t.at_,.string t.tx,Vi t.v],.string s] w fun e u=>e=.returned (.bool (((t.kd:Int) == 1) && (t.tx.toList == s.toList)))/\BW w u:=by
 obtain⟨kd,at_,tx,v⟩:=t;simp only;generalize a:((kd:Int) == 1)=x;cases x
 ·go_enter func192,ntmps192;go_wp2;go_ret;exact⟨rfl,belB⟩
 ·go_enter func192,ntmps192;go_wp2;go_ret;exact⟨rfl,belB⟩
def ZM(w:World)(v:Value)(at_:Int)(what:Addr):Prop:=∃fa:Nat,v=.iface 115 (Vp fa)/\w.heap[fa]?=some (.cells #[.string ⟨#[98,121,116,101]⟩,Vi at_,.iface 491 (.pointer (some what))] 119 (0,0))
theorem ZM.below{w w':World}{v:Value}{at_:Int}{what:Addr}(h:ZM w v at_ what)(b:BW w w'):ZM w' v at_ what:=by
 obtain⟨fa,c,a⟩:=h;exact⟨fa,c,(b.block fa (Yae.1 a).1).trans a⟩
theorem ZkT(i:Int){what:Value}(w:World) :
  CP 126 #[Vi i,.iface 491 what] w fun e u=>e=.returned (.iface 115 (Vp w.heap.size))/\u=w.alloc (.cells #[.string ⟨#[98,121,116,101]⟩,Vi i,.iface 491 what] 119):=by
 go_enter func126,ntmps126;go_wp2;go_ret;exact⟨rfl,rfl⟩
theorem ZiZ{w:World}{b g cp:Nat}{ps:List PTok}{k:Nat}(h:RD w b g cp ps k){sy:Addr}(d:w.cell? ⟨1,0,none⟩=some (.iface 491 (.pointer (some sy)))) :
  CP 70 #[Vp b] w fun e u=>∃v,e=.returned v/\Hid (ZM u v (ps[k]'h.lt).at_ sy)/\BW w u:=by
 have H:Hid (RD w b g cp ps k):=h;have j:Hid (RD w.drew b g cp ps k):=RD.below h ((Yaf _ _).drew);have i:1<w.heap.size:=Yai _ _ d;obtain⟨t,f⟩:∃t,t=ps[k]'h.lt:=⟨_,rfl⟩
 have l:Hid (∀m:k<ps.length,ps[k]'m=t):=fun _=>f.symm;rw[<-f];clear f h;have o:∀W:World,(Instr.field 167 (.agg #[Vi t.kd,Vi t.at_,.string t.tx,Vi t.v]) 1).run prog W=.ok (Vi t.at_) W:=fun _=>rfl;go_enter func70,ntmps70;go_wp2
 go_region_with (first
   | (go_at_call 69
      refine(ZiF j.out).mono ?_;rintro e y ⟨rfl,a⟩;rw[l.out];have c:Hid (BW w y):=⟨a.os,a.tape,a.output,a.size,a.block⟩
      have n:y.cell? ⟨1,0,none⟩=some (.iface 491 (.pointer (some sy))):=(c.cell (p:=⟨_,0,none⟩) i).trans d;clear a)
   | (go_at_call 126
      refine(ZkT _ _).mono ?_;rintro e z ⟨rfl,rfl⟩))
 all_goals
  go_wp2;go_ret;exact⟨_,rfl,⟨y.heap.size,rfl,Go.Deep.blk_alloc_new _ _⟩,c.alloc c.size _⟩
end Go.Proofs.YtkodhpilkaihjaaGreatDoor

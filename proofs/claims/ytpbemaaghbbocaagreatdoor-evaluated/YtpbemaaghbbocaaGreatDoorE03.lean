/- Parts. -/
import Derived.Test.YtpbemaaghbbocaaGreatDoorE02
namespace Go.Proofs.YtpbemaaghbbocaaGreatDoor
open Go.RowKit LS
def St(w:World)(b:Nat)(pv:Value)(s:ByteArray)(deep:Nat)(r:Out Unit):Prop:=QRes w b pv s deep r (fun _=>True)
def isR(c:List UInt8)(r:Out Unit):Bool:=match r with
 | .error _=>false
 | .ok x=>isT c (hd x.2)
theorem St.kept{w w':World}{b:Nat}{pv:Value}{s:ByteArray}{deep:Nat}{r:Out Unit}(h:St w b pv s deep r)(hw:w'.heap[b]?=w.heap[b]?):St w' b pv s deep r:=by
 cases r with
 | error x=>exact QErr.kept (e:=x.1) (p:=x.2) h hw
 | ok x=>exact⟨QIs.kept h.1 hw,trivial⟩
theorem St.lt{w:World}{b:Nat}{pv:Value}{s:ByteArray}{deep:Nat}{r:Out Unit}(h:St w b pv s deep r):b<w.heap.size:=by
 cases r with
 | error x=>exact QErr.lt (e:=x.1) (p:=x.2) h
 | ok x=>exact QIs.lt h.1
theorem St.len{w:World}{b:Nat}{pv:Value}{s:ByteArray}{deep:Nat}{x:Unit×List Tok}(h:St w b pv s deep (.ok x)):x.2.length≤s.size+2:=by
 obtain⟨⟨q,_,_,_,_,_,h6,h7⟩,_⟩:=h
 have:=h7.len (by rw[Zg];exact h6)
 rwa [Zg]at this
theorem St.view{w:World}{b:Nat}{pv:Value}{s:ByteArray}{deep:Nat}{r:Out Unit}(h:St w b pv s deep r) :
  ∃q:QV,QAt w b q∧q.pv=pv∧q.deep=deep∧(∀x,r=.error x→q.e=x.1∧q.e≠0∧q.pl=x.2)∧(∀x,r=.ok x→q.e=0∧Zb1 q=hd x.2):=by
 cases r with
 | error x=>
  obtain⟨q,h1,h2,h3,h4,h5,h6⟩:=h
  refine⟨q,h1,h2,h3,?_,?_⟩
  ·intro y hy;injection hy with hy;subst hy;exact⟨h4,by rw[h4];exact h5,h6⟩
  ·intro y hy;cases hy
 | ok x=>
  obtain⟨⟨q,h1,h2,h3,h4,h5,h6,h7⟩,_⟩:=h
  refine⟨q,h1,h2,h4,?_,?_⟩
  ·intro y hy;cases hy
  ·intro y hy;injection hy with hy;subst hy;exact⟨h5,h7.hd.symm⟩
theorem St.is{w:World}{b:Nat}{pv:Value}{s:ByteArray}{deep:Nat}{r:Out Unit}(h:St w b pv s deep r)(c:ByteArray) :
  Calls Tryz.prog 94 #[.pointer (some ⟨b,0,none⟩),.string c] w fun e w'=>e=.returned (.bool (isR (bl c) r))∧w'=w:=by
 cases r with
 | error x=>exact QErr.is (e:=x.1) (p:=x.2) h c
 | ok x=>exact QIs.is h.1 c
theorem St.take{w:World}{b:Nat}{pv:Value}{s:ByteArray}{deep:Nat}{r:Out Unit}(h:St w b pv s deep r)(hs:s.size≤6000)(c:ByteArray) :
  Calls Tryz.prog 236 #[.pointer (some ⟨b,0,none⟩),.string c] w fun e w'=>e=.returned (.tuple #[])∧St w' b pv s deep (bnd r fun _ ts=>Zf (bl c) ts)∧w.grownBy w' (some b):=by
 cases r with
 | error x=>
  refine(QErr.take (e:=x.1) (p:=x.2) h c).mono ?_
  rintro e w' ⟨rfl,rfl⟩
  exact⟨rfl,h,Zch _ _⟩
 | ok x=>exact QIs.take h.1 hs c
theorem St.fail{w:World}{b:Nat}{pv:Value}{s:ByteArray}{deep:Nat}{r:Out Unit}(h:St w b pv s deep r)(c:Nat)(ci:Int)(hci:ci=c)(hc:c≠0) :
  Calls Tryz.prog 48 #[.pointer (some ⟨b,0,none⟩),.int .i64 ci] w fun e w'=>e=.returned (.tuple #[])∧St w' b pv s deep (bnd r fun _ ts=>.error (c,(hd ts).at_))∧w.grownBy w' (some b):=by
 cases r with
 | error x=>
  refine(QErr.fail (e:=x.1) (p:=x.2) h ci).mono ?_
  rintro e w' ⟨rfl,rfl⟩
  exact⟨rfl,h,Zch _ _⟩
 | ok x=>exact QIs.fail h.1 c ci hci hc
def Ze{α:Type}(r:Out α):Out Unit:=bnd r fun _ ts=>.ok ((),ts)
theorem St.kind{w:World}{b:Nat}{pv:Value}{s:ByteArray}{deep:Nat}{r:Out Unit}(h:St w b pv s deep r)(hs:s.size≤6000)(k:Nat)(ki:Int)(hki:ki=k)(hk:¬(k=0∨k=5)) :
  Calls Tryz.prog 238 #[.pointer (some ⟨b, 0, none⟩), .int .i64 ki] w fun e w' => ∃ x : ByteArray, e = .returned (.string x) ∧ St w' b pv s deep (bnd r fun _ ts => Ze (Zh k ts)) ∧
    Hid (∀y,r=.ok y→∀z,Zh k y.2=.ok z→bl x=z.1)∧w.grownBy w' (some b):=by
 cases r with
 | error x=>
  refine(QErr.kind (e:=x.1) (p:=x.2) h ki).mono ?_
  rintro e w' ⟨rfl,rfl⟩
  exact⟨⟨#[]⟩,rfl,h,hid (fun y hy=>nomatch hy),Zch _ _⟩
 | ok x=>
  refine(QIs.kind h.1 hs k ki hki hk).mono ?_
  rintro e w' ⟨tx,rfl,hq,hg⟩
  refine⟨tx,rfl,?_,?_,hg⟩
  ·show St w' b pv s deep (Ze (Zh k x.2))
   cases hkp:Zh k x.2 with
   | error z=>rw[hkp]at hq;exact hq
   | ok z=>rw[hkp]at hq;exact⟨hq.1,trivial⟩
  ·rintro y hy z hz
   injection hy with hy;subst hy
   rw[hz]at hq;exact hq.2
theorem St.next{w:World}{b:Nat}{pv:Value}{s:ByteArray}{deep:Nat}{r:Out Unit}(h:St w b pv s deep r)(hs:s.size≤6000)(hl:∃ts,r=.ok ((),ts)∧¬((hd ts).kind=0∨(hd ts).kind=5)) :
  Calls Tryz.prog 46 #[.pointer (some ⟨b,0,none⟩)] w fun e w'=>e=.returned (.tuple #[])∧St w' b pv s deep (bnd r fun _ ts=>.ok ((),ts.tail))∧w.grownBy w' (some b):=by
 obtain⟨ts,rfl,hl⟩:=hl
 refine(QIs.next h.1 hs hl).mono ?_
 rintro e w' ⟨rfl,hq,hg⟩
 exact⟨rfl,⟨hq,trivial⟩,hg⟩
theorem Zg3{c:List UInt8}{r:Out Unit}(h:isR c r=true):∃ts,r=.ok ((),ts)∧isT c (hd ts)=true∧¬((hd ts).kind=0∨(hd ts).kind=5):=by
 cases r with
 | error x=>cases h
 | ok x=>exact⟨x.2,rfl,h,Zdm h⟩
def PAt(w:World)(a:Nat)(p:PV):Prop:=w.heap[a]?=some (.cells #[.int .i64 p.k,.int .i64 p.n,.int .i64 p.op,.string p.nm,.slice p.ca p.cn p.cc,.slice p.ba p.bn p.bc,.int .i64 p.a,.int .i64 p.b] 131 (0,0))
theorem PAt.lt{w:World}{a:Nat}{p:PV}(h:PAt w a p):a<w.heap.size:=(Array.getElem?_eq_some_iff.1 h).1
theorem PAt.frozen{w:World}{a:Nat}{p:PV}(h:PAt w a p)(o:Nat):w.frozen? ⟨a,o,none⟩=false:=by
 unfold PAt at h;simp[World.frozen?,h]
theorem PAt.all{w:World}{a:Nat}{p:PV}(h:PAt w a p) :
  w.cell? ⟨a,0,none⟩=some (.int .i64 p.k)∧w.cell? ⟨a,1,none⟩=some (.int .i64 p.n)∧w.cell? ⟨a,2,none⟩=some (.int .i64 p.op)∧w.cell? ⟨a,3,none⟩=some (.string p.nm)∧
  w.cell? ⟨a,4,none⟩=some (.slice p.ca p.cn p.cc)∧w.cell? ⟨a,5,none⟩=some (.slice p.ba p.bn p.bc)∧w.cell? ⟨a,6,none⟩=some (.int .i64 p.a)∧w.cell? ⟨a,7,none⟩=some (.int .i64 p.b):=by
 unfold PAt at h
 refine⟨?_,?_,?_,?_,?_,?_,?_,?_⟩ <;> simp[World.cell?,h]
theorem PAt.kept{w w':World}{a:Nat}{p:PV}(h:PAt w a p)(hw:w'.heap[a]?=w.heap[a]?):PAt w' a p:=hw.trans h
theorem PAt.grown{w w':World}{a:Nat}{p:PV}{r:Option Nat}(h:PAt w a p)(hg:w.grownBy w' r)(hn:some a≠r):PAt w' a p:=(hg.block a h.lt hn).trans h
theorem PAt.setNm{w:World}{a:Nat}{p:PV}(h:PAt w a p)(x:ByteArray):PAt (w.setCell ⟨a,3,none⟩ (.string x)) a { p with nm:=x }:=by
 unfold PAt at h ⊢
 simp only[World.setCell,Array.getElem?_modify,h,if_true,Option.map_some];rfl
theorem PAt.setConds{w:World}{a:Nat}{p:PV}(h:PAt w a p)(x:Option Addr)(n c:Nat):PAt (w.setCell ⟨a,4,none⟩ (.slice x n c)) a { p with ca:=x,cn:=n,cc:=c }:=by
 unfold PAt at h ⊢
 simp only[World.setCell,Array.getElem?_modify,h,if_true,Option.map_some];rfl
theorem PAt.setBy{w:World}{a:Nat}{p:PV}(h:PAt w a p)(x:Option Addr)(n c:Nat):PAt (w.setCell ⟨a,5,none⟩ (.slice x n c)) a { p with ba:=x,bn:=n,bc:=c }:=by
 unfold PAt at h ⊢
 simp only[World.setCell,Array.getElem?_modify,h,if_true,Option.map_some];rfl
theorem PAt.setA{w:World}{a:Nat}{p:PV}(h:PAt w a p)(x:Int):PAt (w.setCell ⟨a,6,none⟩ (.int .i64 x)) a { p with a:=x }:=by
 unfold PAt at h ⊢
 simp only[World.setCell,Array.getElem?_modify,h,if_true,Option.map_some];rfl
def ZdP(w:World)(a:Nat)(p:PV):World:=(((((((w.setCell ⟨a,0,none⟩ (.int .i64 p.k)).setCell ⟨a,1,none⟩ (.int .i64 p.n)).setCell ⟨a,2,none⟩ (.int .i64 p.op)).setCell ⟨a,3,none⟩ (.string p.nm)).setCell ⟨a,4,none⟩ (.slice p.ca p.cn p.cc)).setCell ⟨a,5,none⟩ (.slice p.ba p.bn p.bc)).setCell ⟨a,6,none⟩ (.int .i64 p.a)).setCell ⟨a,7,none⟩ (.int .i64 p.b)
theorem PAt.setK{w:World}{a:Nat}{p:PV}(h:PAt w a p)(x:Int):PAt (w.setCell ⟨a,0,none⟩ (.int .i64 x)) a { p with k:=x }:=by
 unfold PAt at h ⊢
 simp only[World.setCell,Array.getElem?_modify,h,if_true,Option.map_some];rfl
theorem PAt.setN{w:World}{a:Nat}{p:PV}(h:PAt w a p)(x:Int):PAt (w.setCell ⟨a,1,none⟩ (.int .i64 x)) a { p with n:=x }:=by
 unfold PAt at h ⊢
 simp only[World.setCell,Array.getElem?_modify,h,if_true,Option.map_some];rfl
theorem PAt.setOp{w:World}{a:Nat}{p:PV}(h:PAt w a p)(x:Int):PAt (w.setCell ⟨a,2,none⟩ (.int .i64 x)) a { p with op:=x }:=by
 unfold PAt at h ⊢
 simp only[World.setCell,Array.getElem?_modify,h,if_true,Option.map_some];rfl
theorem PAt.setB{w:World}{a:Nat}{p:PV}(h:PAt w a p)(x:Int):PAt (w.setCell ⟨a,7,none⟩ (.int .i64 x)) a { p with b:=x }:=by
 unfold PAt at h ⊢
 simp only[World.setCell,Array.getElem?_modify,h,if_true,Option.map_some];rfl
theorem ZiF{w:World}{a:Nat}{p0:PV}(h:PAt w a p0)(p:PV):PAt (ZdP w a p) a p:=
 PAt.setB (PAt.setA (PAt.setBy (PAt.setConds (PAt.setNm (PAt.setOp (PAt.setN (PAt.setK h p.k) p.n) p.op) p.nm) p.ca p.cn p.cc) p.ba p.bn p.bc) p.a) p.b
theorem ZgH(w:World)(a:Nat)(p:PV)(k:Nat)(hk:k≠a):(ZdP w a p).heap[k]?=w.heap[k]?:=by
 unfold ZdP
 rw[Go.Deep.blk_setCell_other _ _ _ _ (show k≠a from hk),Go.Deep.blk_setCell_other _ _ _ _ (show k≠a from hk),Go.Deep.blk_setCell_other _ _ _ _ (show k≠a from hk),Go.Deep.blk_setCell_other _ _ _ _ (show k≠a from hk),Go.Deep.blk_setCell_other _ _ _ _ (show k≠a from hk),Go.Deep.blk_setCell_other _ _ _ _ (show k≠a from hk),Go.Deep.blk_setCell_other _ _ _ _ (show k≠a from hk),Go.Deep.blk_setCell_other _ _ _ _ (show k≠a from hk)]
theorem ZiG{w0 w:World}{b a:Nat}(h:w0.grownBy w (some b))(ha:w0.heap.size≤a)(p:PV):w0.grownBy (ZdP w a p) (some b):=by
 unfold ZdP
 exact ZA (ZA (ZA (ZA (ZA (ZA (ZA (ZA h (Or.inr ha) _) (Or.inr ha) _) (Or.inr ha) _) (Or.inr ha) _) (Or.inr ha) _) (Or.inr ha) _) (Or.inr ha) _) (Or.inr ha) _
structure PTok where
 kd:Nat
 at_:Nat
 tx:ByteArray
 v:Nat
def Zbb:List PTok→List Value
 | []=>[]
 | t::l=>.int .i64 t.kd::.int .i64 t.at_::.string t.tx::.int .i64 t.v::Zbb l
theorem ZdF(l m:List PTok):Zbb (l++m)=Zbb l++Zbb m:=by
 induction l with
 | nil=>rfl
 | cons a l ih=>simp[Zbb,ih]
theorem Zn8 (l : List PTok) (j : Nat) : (Zbb l)[j * 4]? = l[j]?.map (fun t => .int .i64 t.kd) ∧ (Zbb l)[j * 4 + 1]? = l[j]?.map (fun t => .int .i64 t.at_) ∧ (Zbb l)[j * 4 + 2]? = l[j]?.map (fun t => .string t.tx) ∧ (Zbb l)[j * 4 + 3]? = l[j]?.map (fun t => .int .i64 t.v) := by
  induction l generalizing j with
  | nil=>simp[Zbb]
  | cons r l ih=>
    cases j with
    | zero=>simp[Zbb]
    | succ j=>
      obtain⟨h1,h2,h3,h4⟩:=ih j
      refine⟨?_,?_,?_,?_⟩
      · rw[show(j+1)*4=j*4+1+1+1+1 by omega];simpa [Zbb] using h1
      · rw[show(j+1)*4+1=j*4+1+1+1+1+1 by omega];simpa [Zbb] using h2
      · rw[show(j+1)*4+2=j*4+2+1+1+1+1 by omega];simpa [Zbb] using h3
      · rw[show(j+1)*4+3=j*4+3+1+1+1+1 by omega];simpa [Zbb] using h4
def pk(k:Nat):Nat:=if k=0 then 4 else if k=1 then 0 else if k=2 then 1 else if k=3 then 2 else if k=4 then 3 else 5
def ZcF(p:PTok)(t:Tok):Prop:=p.kd=pk t.kind∧p.at_=t.at_∧bl p.tx=t.txt∧(t.kind=1→(p.v:Int)=numV t.txt)
structure RD (w:World) (b g cp:Nat) (ps:List PTok) (k:Nat):Prop where
 cells:w.heap[b]?=some (.cells #[.slice (some ⟨g,0,none⟩) ps.length cp,.int .i64 k] 82 (0,0))
 own:w.ownsRow 0 87 4 (.slice (some ⟨g,0,none⟩) ps.length cp) ps.length (Zbb ps)
 lt:k<ps.length
theorem RD.below{w w':World}{b g cp:Nat}{ps:List PTok}{k:Nat}(h:RD w b g cp ps k)(hb:Below w.heap.size w w'):RD w' b g cp ps k:=
 ⟨(hb.block b (Array.getElem?_eq_some_iff.1 h.cells).1).trans h.cells,Zw h.own hb,h.lt⟩
theorem RD.all{w:World}{b g cp:Nat}{ps:List PTok}{k:Nat}(h:RD w b g cp ps k) :
  w.cell? ⟨b,0,none⟩=some (.slice (some ⟨g,0,none⟩) ps.length cp)∧w.cell? ⟨b,1,none⟩=some (.int .i64 k)∧w.frozen? ⟨b,1,none⟩=false∧b<w.heap.size∧g<w.heap.size∧
  w.cell? ⟨g,k*4,none⟩=some (.int .i64 (ps[k]'h.lt).kd)∧w.cell? ⟨g,k*4+1,none⟩=some (.int .i64 (ps[k]'h.lt).at_)∧w.cell? ⟨g,k*4+2,none⟩=some (.string (ps[k]'h.lt).tx)∧w.cell? ⟨g,k*4+3,none⟩=some (.int .i64 (ps[k]'h.lt).v):=by
 obtain⟨f1,f2,f3,f4⟩:=Zn8 ps k
 rw[List.getElem?_eq_getElem h.lt]at f1 f2 f3 f4
 refine⟨by simp[World.cell?,h.cells],by simp[World.cell?,h.cells],by simp[World.frozen?,h.cells],(Array.getElem?_eq_some_iff.1 h.cells).1,ZbJ h.own,Zn h.own _ _ f1,Zn h.own _ _ f2,Zn h.own _ _ f3,Zn h.own _ _ f4⟩
set_option maxRecDepth 100000 in
set_option maxHeartbeats 1000000 in
theorem ZfA{w:World}{b g cp:Nat}{ps:List PTok}{k:Nat}(h:RD w b g cp ps k) :
  Calls Tryz.prog 33 #[.pointer (some ⟨b,0,none⟩)] w fun e w'=>e=.returned (.agg #[.int .i64 (ps[k]'h.lt).kd,.int .i64 (ps[k]'h.lt).at_,.string (ps[k]'h.lt).tx,.int .i64 (ps[k]'h.lt).v])∧Below w.heap.size w w':=by
 obtain⟨c0,c1,_,hbl,hgl,d0,d1,d2,d3⟩:=h.all
 have hlt:=h.lt
 generalize ps[k]'h.lt=t at *
 obtain⟨kd,at_,tx,v⟩:=t
 simp only at d0 d1 d2 d3 ⊢
 generalize ps.length=n at *
 clear h
 go_enter Tryz.func33,Tryz.ntmps33
 go_wp2
 go_region
 all_goals
  go_wp2
  exact bodyPost_ret (v:=.agg #[.int .i64 kd,.int .i64 at_,.string tx,.int .i64 v]) (by simp[results,Tryz.results33,go_sem]) rfl ⟨rfl,(by repeat first|exact Below.refl _ _|assumption|refine Below.alloc ?_ ?_ _|refine Below.setCell ?_ ?_ _|refine Zk ?_ _|refine Below.drew ?_|omega|(simp;omega)|simp)⟩
theorem Zg2(t:PTok)(s:ByteArray)(w:World) :
  Calls Tryz.prog 110 #[.agg #[.int .i64 t.kd,.int .i64 t.at_,.string t.tx,.int .i64 t.v],.string s] w fun e w'=>e=.returned (.bool (((t.kd:Int) == 3) && (t.tx.toList == s.toList)))∧Below w.heap.size w w':=by
 obtain⟨kd,at_,tx,v⟩:=t
 simp only
 generalize hk:((kd:Int) == 3)=x
 cases x
 ·go_enter Tryz.func110,Tryz.ntmps110
  go_wp2
  go_ret
  exact⟨rfl,(by repeat first|exact Below.refl _ _|assumption|refine Below.alloc ?_ ?_ _|refine Below.setCell ?_ ?_ _|refine Zk ?_ _|refine Below.drew ?_|omega|(simp;omega)|simp)⟩
 ·go_enter Tryz.func110,Tryz.ntmps110
  go_wp2
  go_ret
  exact⟨rfl,(by repeat first|exact Below.refl _ _|assumption|refine Below.alloc ?_ ?_ _|refine Below.setCell ?_ ?_ _|refine Zk ?_ _|refine Below.drew ?_|omega|(simp;omega)|simp)⟩
theorem Zjm(t:PTok)(s:ByteArray)(w:World) :
  Calls Tryz.prog 117 #[.agg #[.int .i64 t.kd,.int .i64 t.at_,.string t.tx,.int .i64 t.v],.string s] w fun e w'=>e=.returned (.bool (((t.kd:Int) == 1) && (t.tx.toList == s.toList)))∧Below w.heap.size w w':=by
 obtain⟨kd,at_,tx,v⟩:=t
 simp only
 generalize hk:((kd:Int) == 1)=x
 cases x
 ·go_enter Tryz.func117,Tryz.ntmps117
  go_wp2
  go_ret
  exact⟨rfl,(by repeat first|exact Below.refl _ _|assumption|refine Below.alloc ?_ ?_ _|refine Below.setCell ?_ ?_ _|refine Zk ?_ _|refine Below.drew ?_|omega|(simp;omega)|simp)⟩
 ·go_enter Tryz.func117,Tryz.ntmps117
  go_wp2
  go_ret
  exact⟨rfl,(by repeat first|exact Below.refl _ _|assumption|refine Below.alloc ?_ ?_ _|refine Below.setCell ?_ ?_ _|refine Zk ?_ _|refine Below.drew ?_|omega|(simp;omega)|simp)⟩
def Zb2(w:World)(v:Value)(at_:Int)(what:Addr):Prop:=∃fa:Nat,v=.iface 94 (.pointer (some ⟨fa,0,none⟩))∧w.heap[fa]?=some (.cells #[.string ⟨#[98,121,116,101]⟩,.int .i64 at_,.iface 389 (.pointer (some what))] 98 (0,0))
theorem Zb2.below{w w':World}{v:Value}{at_:Int}{what:Addr}(h:Zb2 w v at_ what)(hb:Below w.heap.size w w'):Zb2 w' v at_ what:=by
 obtain⟨fa,h1,h2⟩:=h
 exact⟨fa,h1,(hb.block fa (Array.getElem?_eq_some_iff.1 h2).1).trans h2⟩
theorem Zin(i:Int)(what:Value)(w:World) :
  Calls Tryz.prog 68 #[.int .i64 i,.iface 389 what] w fun e w'=>e=.returned (.iface 94 (.pointer (some ⟨w.heap.size,0,none⟩)))∧w'=w.alloc (.cells #[.string ⟨#[98,121,116,101]⟩,.int .i64 i,.iface 389 what] 98):=by
 go_enter Tryz.func68,Tryz.ntmps68
 go_wp2
 go_ret
 exact⟨rfl,rfl⟩
set_option maxRecDepth 100000 in
set_option maxHeartbeats 1000000 in
theorem ZfJ{w:World}{b g cp:Nat}{ps:List PTok}{k:Nat}(h:RD w b g cp ps k){sy:Addr}(hsy:w.cell? ⟨1,0,none⟩=some (.iface 389 (.pointer (some sy)))) :
  Calls Tryz.prog 34 #[.pointer (some ⟨b,0,none⟩)] w fun e w'=>∃v,e=.returned v∧Hid (Zb2 w' v (ps[k]'h.lt).at_ sy)∧Below w.heap.size w w':=by
 have H:Hid (RD w b g cp ps k):=h
 have HD:Hid (RD w.drew b g cp ps k):=RD.below h ((Below.refl _ _).drew)
 have hgl:1<w.heap.size:=World.block_lt_of_cell? _ _ hsy
 obtain⟨t,ht⟩:∃t,t=ps[k]'h.lt:=⟨_,rfl⟩
 have HT:Hid (∀hh:k<ps.length,ps[k]'hh=t):=fun _=>ht.symm
 rw[←ht]
 clear ht h
 have hf:∀W:World,(Instr.field 87 (.agg #[.int .i64 t.kd,.int .i64 t.at_,.string t.tx,.int .i64 t.v]) 1).run Tryz.prog W=.ok (.int .i64 t.at_) W:=fun _=>rfl
 go_enter Tryz.func34,Tryz.ntmps34
 go_wp2
 go_region_with (first
   | (go_at_call 33
      refine(ZfA HD.out).mono ?_
      rintro e w1 ⟨rfl,hb1⟩
      rw[HT.out]
      have HB1:Hid (Below w.heap.size w w1):=⟨hb1.os,hb1.tape,hb1.output,hb1.size,hb1.block⟩
      have hsy1:w1.cell? ⟨1,0,none⟩=some (.iface 389 (.pointer (some sy))):=(HB1.cell (p:=⟨_,0,none⟩) hgl).trans hsy
      clear hb1)
   | (go_at_call 68
      refine(Zin _ _ _).mono ?_
      rintro e w2 ⟨rfl,rfl⟩))
 all_goals
  go_wp2
  go_ret
  exact⟨_,rfl,⟨w1.heap.size,rfl,Go.Deep.blk_alloc_new _ _⟩,HB1.alloc HB1.size _⟩
def ZW:List (ByteArray×ByteArray×Bool)→List Value
 | []=>[]
 | (a,b,c)::l=>.string a::.string b::.bool c::ZW l
def blC(c:ByteArray×ByteArray×Bool):List UInt8×List UInt8×Bool:=(bl c.1,bl c.2.1,c.2.2)
theorem ZfQ(l m:List (ByteArray×ByteArray×Bool)):ZW (l++m)=ZW l++ZW m:=by
 induction l with
 | nil=>rfl
 | cons a l ih=>obtain⟨x,y,z⟩:=a;simp[ZW,ih]
theorem Zf3{k:Nat}{ts:List Tok}{z:List UInt8×List Tok}(hk:k≠0)(h:Zh k ts=.ok z):z.2.length+1=ts.length∧z.1=(hd ts).txt∧z.2=ts.tail:=by
 unfold Zh at h
 split at h
 ·rename_i e
  injection h with h;subst h
  cases ts with
  | nil=>exact absurd e.symm hk
  | cons t r=>exact⟨rfl,rfl,rfl⟩
 ·cases h
theorem Zcl{c:List UInt8}{ts:List Tok}{z:Unit×List Tok}(h:Zf c ts=.ok z):z.2.length+1=ts.length:=by
 unfold Zf at h
 split at h
 ·rename_i e
  injection h with h;subst h
  cases ts with
  | nil=>exact absurd (Or.inl rfl) (Zdm e)
  | cons t r=>rfl
 ·cases h
theorem Zfe{c:List UInt8}{ts:List Tok}(e:isT c (hd ts)=true):ts.tail.length+1=ts.length:=by
 cases ts with
 | nil=>exact absurd (Or.inl rfl) (Zdm e)
 | cons t r=>rfl
def ZbG{α β:Type}(item:List Tok→Out α)(close:List UInt8)(f:β→α)(N:Nat)(ts0:List Tok)(qs:List β)(rr:Out Unit):Prop:=
 (∀e,rr=.error e→ZB item close N [] ts0=.error e)∧(∀ts,rr=.ok ((),ts)→∃m,ZB item close N [] ts0=ZB item close m (qs.map f) ts∧ts.length+1≤m∧qs.length+ts.length≤ts0.length)∧qs.length≤ts0.length+1
theorem ZbG.start{α β:Type}(item:List Tok→Out α)(close:List UInt8)(f:β→α)(N:Nat)(ts0:List Tok)(hN:ts0.length+1≤N):ZbG item close f N ts0 [] (.ok ((),ts0)):=
 ⟨fun e h=>(nomatch h),fun ts h=>by injection h with h;injection h with _ h;subst h;exact⟨N,rfl,hN,by simp⟩,by simp⟩
theorem ZbG.round{α β:Type}{item:List Tok→Out α}{close:List UInt8}{f:β→α}{N:Nat}{ts0 ts:List Tok}{qs:List β}{x:β}{r1 r4:Out Unit}(h:ZbG item close f N ts0 qs (.ok ((),ts)))(hc:isT close (hd ts)=false)
  (h1:(if qs.isEmpty then .ok ((),ts)else Zf [44] ts)=r1) (h4:r4=bnd r1 fun _ t=>Ze (item t)) (hx:∀t z,r1=.ok ((),t)→item t=.ok z→f x=z.1) (hl:∀t z,item t=.ok z→z.2.length+1≤t.length):ZbG item close f N ts0 (qs++[x]) r4:=by
 obtain⟨m,hL,hm,hq⟩:=h.2.1 ts rfl
 obtain⟨k,rfl⟩:∃k,m=k+1:=⟨m - 1,by omega⟩
 have hstep : ZB item close N [] ts0 = bnd r1 fun _ r => bnd (item r) fun a r => ZB item close k (qs.map f ++ [a]) r := by
   rw[hL]
   show(if isT close (hd ts)then _ else _)=_
   rw[hc,←h1]
   have:(qs.map f).isEmpty=qs.isEmpty:=by cases qs <;> rfl
   rw[this];rfl
 have hr1:∀t,r1=.ok ((),t)→t.length≤ts.length:=by
  intro t ht
  rw[ht]at h1
  split at h1
  ·injection h1 with h1;injection h1 with _ h1;subst h1;exact Nat.le_refl _
  ·have:=Zcl h1;simp at this;omega
 subst h4
 refine⟨?_,?_,?_⟩
 ·intro e he
  cases hr:r1 with
  | error y=>rw[hr]at he hstep;injection he with he;rw[hstep,he];rfl
  | ok y=>
   obtain⟨⟨⟩,t⟩:=y
   rw[hr]at he hstep
   cases hi:item t with
   | error y=>rw[hstep];simp only[bnd,Ze,hi]at he ⊢;injection he with he;rw[he]
   | ok y=>simp[bnd,Ze,hi]at he
 ·intro t4 he
  cases hr:r1 with
  | error y=>rw[hr]at he;simp[bnd]at he
  | ok y=>
   obtain⟨⟨⟩,t⟩:=y
   have h5:=hr1 t hr
   have hx2:=fun z=>hx t z hr
   rw[hr]at he hstep
   cases hi:item t with
   | error y=>simp[bnd,Ze,hi]at he
   | ok y=>
    have h6:=hx2 y hi
    have h7:=hl t y hi
    simp only[bnd,Ze,hi]at he hstep
    injection he with he;injection he with _ he;subst he
    exact⟨k,by rw[hstep,List.map_append,←h6];rfl,by omega,by simp;omega⟩
 ·simp;omega
theorem ZbG.done{α β:Type}{item:List Tok→Out α}{close:List UInt8}{f:β→α}{N:Nat}{ts0:List Tok}{qs:List β}{rr:Out Unit}(h:ZbG item close f N ts0 qs rr)(hd:isR close rr=true∨∃e,rr=.error e) :
  Ze (ZB item close N [] ts0)=(bnd rr fun _ ts=>Zf close ts)∧∀z,ZB item close N [] ts0=.ok z→qs.map f=z.1:=by
 cases rr with
 | error e=>rw[h.1 e rfl];exact⟨rfl,fun z hz=>nomatch hz⟩
 | ok y=>
  obtain⟨⟨⟩,ts⟩:=y
  rcases hd with hd|⟨e,hd⟩
  ·obtain⟨m,hL,hm,hq⟩:=h.2.1 ts rfl
   obtain⟨k,rfl⟩:∃k,m=k+1:=⟨m - 1,by omega⟩
   have hd2:isT close (LS.hd ts)=true:=hd
   have e1:ZB item close (k+1) (qs.map f) ts=.ok (qs.map f,ts.tail):=by
    show(if isT close (LS.hd ts)then _ else _)=_
    rw[hd2];rfl
   rw[hL,e1]
   refine⟨?_,fun z hz=>by injection hz with hz;subst hz;rfl⟩
   show _=Zf close ts
   unfold Zf;rw[hd2];rfl
  ·cases hd
theorem Zen(t:List Tok)(z:(List UInt8×List UInt8×Bool)×List Tok)(h:Zz t=.ok z):z.2.length+1≤t.length:=by
 unfold Zz at h
 cases h1:Zh 2 t with
 | error e=>rw[h1]at h;cases h
 | ok y=>
  have l1:=(Zf3 (by decide) h1).1
  rw[h1]at h
  simp only[bnd]at h
  cases h2:ZcY y.2 with
  | error e=>rw[h2]at h;cases h
  | ok u=>
   have l2:u.2.length≤y.2.length:=by
    unfold ZcY at h2
    split at h2
    ·injection h2 with h2;subst h2;simp
    ·cases h3:Zf [61] y.2 with
     | error e=>rw[h3]at h2;cases h2
     | ok q=>rw[h3]at h2;injection h2 with h2;subst h2;have:=Zcl h3;show q.2.length≤_;omega
   rw[h2]at h
   simp only at h
   cases h3:Zh 3 u.2 with
   | error e=>rw[h3]at h;cases h
   | ok q=>
    have l3:=(Zf3 (by decide) h3).1
    rw[h3]at h
    injection h with h;subst h
    show q.2.length+1≤_
    omega
theorem ZfL {r1 : Out Unit} {x1 x2 : ByteArray} {v : Bool} (hv : isR [33, 61] (bnd r1 fun _ t => Ze (Zh 2 t)) = v) {r3 : Out Unit}
    (h3:r3=if v then (bnd (bnd r1 fun _ t=>Ze (Zh 2 t)) fun _ ts=>.ok ((),ts.tail))else bnd (bnd r1 fun _ t=>Ze (Zh 2 t)) fun _ ts=>Zf [61] ts)
    (hx1:∀y,r1=.ok y→∀z,Zh 2 y.2=.ok z→bl x1=z.1) (hx2:∀y,r3=.ok y→∀z,Zh 3 y.2=.ok z→bl x2=z.1) :
    (bnd r3 fun _ t=>Ze (Zh 3 t))=(bnd r1 fun _ t=>Ze (Zz t))∧∀t z,r1=.ok ((),t)→Zz t=.ok z→blC (x1,x2,v)=z.1:=by
  cases r1 with
  | error e=>
    have:v=false:=hv.symm
    subst this;subst h3
    exact⟨rfl,fun t z h=>nomatch h⟩
  | ok y=>
    obtain⟨⟨⟩,t⟩:=y
    cases h1:Zh 2 t with
    | error e=>
      simp only[bnd,Ze,h1]at hv h3
      have:v=false:=hv.symm
      subst this;subst h3
      refine⟨by simp[bnd,Ze,Zz,h1],fun t2 z h hz=>?_⟩
      injection h with h;injection h with _ h;subst h
      simp[Zz,h1,bnd]at hz
    | ok y=>
      have hx1':=hx1 _ rfl _ h1
      simp only[bnd,Ze,h1]at hv h3
      have hv2:isT [33,61] (hd y.2)=v:=hv
      have hs : ZcY y.2 = bnd r3 fun _ t => .ok (v, t) := by
        unfold ZcY
        rw[hv2,h3]
        cases v
        · rfl
        · rfl
      have hc : Zz t = bnd r3 fun _ r => bnd (Zh 3 r) fun b r => .ok ((y.1, b, v), r) := by
        unfold Zz
        rw[h1]
        show(bnd (ZcY y.2) fun n r=>bnd (Zh 3 r) fun b r=>.ok ((y.1,b,n),r))=_
        rw[hs]
        cases r3 with
        | error e=>rfl
        | ok u=>rfl
      refine⟨?_,fun t2 z h hz=>?_⟩
      · show _=Ze (Zz t)
        rw[hc]
        cases r3 with
        | error e=>rfl
        | ok u=>
          show Ze (Zh 3 u.2)=Ze (bnd (Zh 3 u.2) fun b r=>.ok ((y.1,b,v),r))
          cases Zh 3 u.2 with
          | error e=>rfl
          | ok q=>rfl
      · injection h with h;injection h with _ h;subst h
        rw[hc]at hz
        cases hr3:r3 with
        | error e=>rw[hr3]at hz;cases hz
        | ok u=>
          rw[hr3]at hz
          have hz2:(bnd (Zh 3 u.2) fun b r=>(.ok ((y.1,b,v),r):Out (List UInt8×List UInt8×Bool)))=.ok z:=hz
          cases h4:Zh 3 u.2 with
          | error e=>rw[h4]at hz2;cases hz2
          | ok q=>
            have hx2':=hx2 u hr3 _ h4
            rw[h4]at hz2
            injection hz2 with hz2;subst hz2
            show(bl x1,bl x2,v)=(y.1,q.1,v)
            rw[hx1',hx2']
end Go.Proofs.YtpbemaaghbbocaaGreatDoor

/- Parts. -/
import Derived.Test.YtmncdbepjhmkgaaGreatDoorP01
set_option linter.all false
set_option maxRecDepth 100000
set_option maxHeartbeats 16000000
namespace Go.Proofs.YtmncdbepjhmkgaaGreatDoor.LS
open Go Go.RowKit
def idxI(w:LB)(l:List (LB)):Int:=match idx w l with
 | none=>-1
 | some i=>i
theorem ZMD {w : LB} {l : List (LB)} (k : Nat) (a : k < l.length) (h : l.getD k [] ≠ w) {m:Nat} (b : idxI w l = match idx w (l.drop k) with | none => -1 | some i => ((i + k : Nat) : Int)) (c : m = k + 1) :
    idxI w l=match idx w (l.drop m)with|none=>-1|some i=>((i+m:Nat):Int):=by
  subst c;rw[b];rw[List.drop_eq_getElem_cons a];have e:l.getD k []=l[k]:=by simp[a]
  rw[e]at h;show(match (if l[k]=w then some 0 else (idx w (l.drop (k+1))).map (· + 1))with|none=>(-1:Int)|some i=>((i+k:Nat):Int))=_;rw[if_neg h];cases idx w (l.drop (k+1))with
  | none=>rfl
  | some i=>show(((i+1+k:Nat)):Int)=((i+(k+1):Nat):Int);omega
theorem ZMC {w : LB} {l : List (LB)} (k : Nat) (a : k < l.length) (h : l.getD k [] = w) (b : idxI w l = match idx w (l.drop k) with | none => -1 | some i => ((i + k : Nat) : Int)) : idxI w l = k := by
  rw[b,List.drop_eq_getElem_cons a];have e:l.getD k []=l[k]:=by simp[a]
  rw[e]at h;show(match (if l[k]=w then some 0 else (idx w (l.drop (k+1))).map (· + 1))with|none=>(-1:Int)|some i=>((i+k:Nat):Int))=_;rw[if_pos h];show((0+k:Nat):Int)=k;omega
theorem ZMB {w : LB} {l : List (LB)} (k : Nat) (b : ¬ k < l.length) (a : idxI w l = match idx w (l.drop k) with | none => -1 | some i => ((i + k : Nat) : Int)) : idxI w l = -1 := by
  rw[a,Yb8 Om];rfl
theorem ZMA{w:LB}{l:List (LB)}:idxI w l=match idx w (l.drop 0)with|none=>-1|some i=>((i+0:Nat):Int):=rfl
theorem Zjh{w:LB}{l:List (LB)}{i:Nat}(h:idx w l=some i):i<l.length/\l.getD i []=w:=by
 induction l generalizing i with
 | nil=>cases h
 | cons x l ih=>
  unfold idx at h;split at h
  ·injection h with h;subst h;rename_i e;exact⟨by simp,by simpa using e⟩
  ·cases a:idx w l with
   | none=>rw[a]at h;cases h
   | some j=>rw[a]at h;injection h with h;subst h;have:=ih a;exact⟨by simp;exact this.1,by simpa using this.2⟩
end Go.Proofs.YtmncdbepjhmkgaaGreatDoor.LS
namespace Go.Proofs.YtmncdbepjhmkgaaGreatDoor
open Go.RowKit LS Go.Proofs.Tryz
theorem ZJY{s x:BA}{w:World}(z:s.size<=6000) :
  CP 114 #[.string s,.string x] w fun r u=>r=.returned (Vi (idxI (bl x) (split 32 (bl s))))/\BW w u:=by
 go_enter func114,ntmps114
 go_wp2_with fail
 refine(ZKh s 32 rfl z).mono ?_;rintro e y ⟨g,n,cp,bs,rfl,p,B,C,a,j,l⟩;have A:Hid (n=bs.length):=p;have b:(split 32 (bl s)).length=n:=by rw[<-j.out,Yak,p]
 have D:n<=6001:=by have:=Zhd 32 (bl s);rw[Zd]at this;omega
 clear p;have c:Hid _:=b;clear b;go_wp2
 go_loop [6] (fun i=>∃k:Nat,k<=n/\i=.int .i64 k/\Hid (idxI (bl x) (split 32 (bl s))=match idx (bl x) ((split 32 (bl s)).drop k)with|none=>-1|some i=>((i+k:Nat):Int))) (fun i=>n - (intOf i).toNat)
 case atStart=>exact⟨0,Yag _,rfl,ZMA⟩
 case round=>
  obtain⟨k,E,rfl,q⟩:=hrel;by_cases d:k<n
  ·have m:k<bs.length:=by rw[<-A.out];exact d
   have o:k<(split 32 (bl s)).length:=by rw[c.out];exact d
   have v:y.cell? ⟨g,k,none⟩=some (.string bs[k]):=a.out k m;have t:Hid (bl bs[k]=(split 32 (bl s)).getD k []):=ZJ6 j.out k m;generalize bs[k]=sk at v t;cases h:(sk.toList == x.toList)
   ·have f : Hid (idxI (bl x) (split 32 (bl s)) = match idx (bl x) ((split 32 (bl s)).drop (k + 1)) with | none => -1 | some i => ((i + (k + 1) : Nat) : Int)) := hid (by
      refine ZMD k o ?_ q.out rfl;rw[<-t.out];rw[Zbt,Zbt]at h;exact beq_eq_false_iff_ne.1 h)
    go_wp2
    go_round
    case rel=>exact⟨k+1,by omega,by go_num,f⟩
    case measure=>simp[intOf];omega
   ·have f:Hid (idxI (bl x) (split 32 (bl s))=k):=hid (by
     refine ZMC k o ?_ q.out;rw[<-t.out];rw[Zbt,Zbt]at h;exact beq_iff_eq.1 h)
    go_wp2;go_ret;exact⟨by rw[f.out];rfl,l⟩
  ·have f:Hid (idxI (bl x) (split 32 (bl s))=-1):=hid (ZMB k (by rw[c.out];exact d) q.out);go_wp2;go_ret;exact⟨by rw[f.out];rfl,l⟩
def St(w:World)(b:Nat)(pv:Value)(s:BA)(deep:Nat)(r:Out Unit):Prop:=QRes w b pv s deep r (fun _=>True)
def isR(c:LB)(r:Out Unit):Bool:=match r with
 | .error _=>false
 | .ok x=>isT c (hd x.2)
theorem St.of_is{w:World}{b:Nat}{pv:Value}{s:BA}{ts:List Tok}{deep:Nat}(h:QIs w b pv s ts deep):St w b pv s deep (.ok ((),ts)):=⟨h,trivial⟩
theorem St.kept{w w':World}{b:Nat}{pv:Value}{s:BA}{deep:Nat}{r:Out Unit}(h:St w b pv s deep r)(a:w'.heap[b]?=w.heap[b]?):St w' b pv s deep r:=by
 cases r with
 | error x=>exact QErr.kept (e:=x.1) (p:=x.2) h a
 | ok x=>exact⟨QIs.kept h.1 a,trivial⟩
theorem St.lt{w:World}{b:Nat}{pv:Value}{s:BA}{deep:Nat}{r:Out Unit}(h:St w b pv s deep r):b<w.heap.size:=by
 cases r with
 | error x=>exact QErr.lt (e:=x.1) (p:=x.2) h
 | ok x=>exact QIs.lt h.1
theorem St.len{w:World}{b:Nat}{pv:Value}{s:BA}{deep:Nat}{x:Unit×List Tok}(h:St w b pv s deep (.ok x)):x.2.length<=s.size+2:=by
 obtain⟨⟨q,_,_,_,_,_,a,c⟩,_⟩:=h;have:=c.len (by rw[Zd];exact a)
 rwa [Zd]at this
theorem St.view{w:World}{b:Nat}{pv:Value}{s:BA}{deep:Nat}{r:Out Unit}(h:St w b pv s deep r) :
  ∃q:QV,QAt w b q/\q.pv=pv/\q.deep=deep/\(∀x,r=.error x->q.e=x.1/\q.e≠0/\q.pl=x.2)/\(∀x,r=.ok x->q.e=0/\ZJB q=hd x.2):=by
 cases r with
 | error x=>
  obtain⟨q,d,f,i,c,g,j⟩:=h;refine⟨q,d,f,i,?_,?_⟩
  ·intro y a;injection a with a;subst a;exact⟨c,by rw[c];exact g,j⟩
  ·intro y a;cases a
 | ok x=>
  obtain⟨⟨q,d,f,i,c,g,j,k⟩,_⟩:=h;refine⟨q,d,f,c,?_,?_⟩
  ·intro y a;cases a
  ·intro y a;injection a with a;subst a;exact⟨g,k.hd.symm⟩
theorem St.is{w:World}{b:Nat}{pv:Value}{s:BA}{deep:Nat}{r:Out Unit}(h:St w b pv s deep r)(c:BA) :
  CP 61 #[Vp b,.string c] w fun e u=>e=.returned (.bool (isR (bl c) r))/\u=w:=by
 cases r with
 | error x=>exact QErr.is (e:=x.1) (p:=x.2) h c
 | ok x=>exact QIs.is h.1 c
theorem St.take{w:World}{b:Nat}{pv:Value}{s:BA}{deep:Nat}{r:Out Unit}(h:St w b pv s deep r)(a:s.size<=6000)(c:BA) :
  CP 116 #[Vp b,.string c] w fun e u=>e=.returned (.tuple #[])/\St u b pv s deep (bnd r fun _ ts=>Zq (bl c) ts)/\w.grownBy u (some b):=by
 cases r with
 | error x=>
  refine(QErr.take (e:=x.1) (p:=x.2) h c).mono ?_;rintro e u ⟨rfl,rfl⟩;exact⟨rfl,h,ZbM _ _⟩
 | ok x=>exact QIs.take h.1 a c
theorem St.fail{w:World}{b:Nat}{pv:Value}{s:BA}{deep:Nat}{r:Out Unit}(h:St w b pv s deep r)(c:Nat)(ci:Int)(a:ci=c)(d:c≠0) :
  CP 26 #[Vp b,Vi ci] w fun e u=>e=.returned (.tuple #[])/\St u b pv s deep (bnd r fun _ ts=>.error (c,(hd ts).at_))/\w.grownBy u (some b):=by
 cases r with
 | error x=>
  refine(QErr.fail (e:=x.1) (p:=x.2) h ci).mono ?_;rintro e u ⟨rfl,rfl⟩;exact⟨rfl,h,ZbM _ _⟩
 | ok x=>exact QIs.fail h.1 c ci a d
def ZJm{α:Type}(r:Out α):Out Unit:=bnd r fun _ ts=>.ok ((),ts)
theorem St.jx{w:World}{b:Nat}{pv:Value}{s:BA}{deep:Nat}{r:Out Unit}(h:St w b pv s deep r)(g:s.size<=6000)(k:Nat)(ki:Int)(f:ki=k)(i:¬(k=0∨k=5)) :
  CP 118 #[Vp b, Vi ki] w fun e u => ∃ x : BA, e = .returned (.string x) /\ St u b pv s deep (bnd r fun _ ts => ZJm (ZH k ts)) /\
    Hid (∀y,r=.ok y->∀z,ZH k y.2=.ok z->bl x=z.1)/\w.grownBy u (some b):=by
 cases r with
 | error x=>
  refine(QErr.jx (e:=x.1) (p:=x.2) h ki).mono ?_;rintro e u ⟨rfl,rfl⟩;exact⟨⟨#[]⟩,rfl,h,hid (fun y c=>(by cases c)),ZbM _ _⟩
 | ok x=>
  refine(QIs.jx h.1 g k ki f i).mono ?_;rintro e u ⟨tx,rfl,a,j⟩;refine⟨tx,rfl,?_,?_,j⟩
  ·show St u b pv s deep (ZJm (ZH k x.2));cases d:ZH k x.2 with
   | error z=>rw[d]at a;exact a
   | ok z=>rw[d]at a;exact⟨a.1,trivial⟩
  ·rintro y c z l;injection c with c;subst c;rw[l]at a;exact a.2
theorem St.next{w:World}{b:Nat}{pv:Value}{s:BA}{deep:Nat}{r:Out Unit}(h:St w b pv s deep r)(c:s.size<=6000)(a:∃ts,r=.ok ((),ts)/\¬((hd ts).jx=0∨(hd ts).jx=5)) :
  CP 24 #[Vp b] w fun e u=>e=.returned (.tuple #[])/\St u b pv s deep (bnd r fun _ ts=>.ok ((),ts.tail))/\w.grownBy u (some b):=by
 obtain⟨ts,rfl,a⟩:=a;refine(QIs.next h.1 c a).mono ?_;rintro e u ⟨rfl,d,f⟩;exact⟨rfl,⟨d,trivial⟩,f⟩
theorem ZKA{c:LB}{r:Out Unit}(h:isR c r=true):∃ts,r=.ok ((),ts)/\isT c (hd ts)=true/\¬((hd ts).jx=0∨(hd ts).jx=5):=by
 cases r with
 | error x=>cases h
 | ok x=>exact⟨x.2,rfl,h,Zib h⟩
def PAt(w:World)(a:Nat)(p:PV):Prop:=w.heap[a]?=some (.cells #[Vi p.k,Vi p.n,Vi p.op,.string p.nm,.slice p.ca p.cn p.cc,.slice p.ba p.bn p.bc,Vi p.a,Vi p.b] 80 (0,0))
theorem PAt.lt{w:World}{a:Nat}{p:PV}(h:PAt w a p):a<w.heap.size:=(Yae.1 h).1
theorem PAt.frozen{w:World}{a:Nat}{p:PV}(h:PAt w a p)(o:Nat):w.frozen? ⟨a,o,none⟩=false:=by
 unfold PAt at h;simp[World.frozen?,h]
theorem PAt.all{w:World}{a:Nat}{p:PV}(h:PAt w a p) :
  w.cell? ⟨a,0,none⟩=some (Vi p.k)/\w.cell? ⟨a,1,none⟩=some (Vi p.n)/\w.cell? ⟨a,2,none⟩=some (Vi p.op)/\w.cell? ⟨a,3,none⟩=some (.string p.nm)/\
  w.cell? ⟨a,4,none⟩=some (.slice p.ca p.cn p.cc)/\w.cell? ⟨a,5,none⟩=some (.slice p.ba p.bn p.bc)/\w.cell? ⟨a,6,none⟩=some (Vi p.a)/\w.cell? ⟨a,7,none⟩=some (Vi p.b):=by
 unfold PAt at h;refine⟨?_,?_,?_,?_,?_,?_,?_,?_⟩ <;> simp[World.cell?,h]
theorem PAt.kept{w w':World}{a:Nat}{p:PV}(h:PAt w a p)(b:w'.heap[a]?=w.heap[a]?):PAt w' a p:=b.trans h
theorem PAt.grown{w w':World}{a:Nat}{p:PV}{r:Option Nat}(h:PAt w a p)(b:w.grownBy w' r)(c:some a≠r):PAt w' a p:=(b.block a h.lt c).trans h
theorem PAt.setNm{w:World}{a:Nat}{p:PV}(h:PAt w a p)(x:BA):PAt (w.setCell ⟨a,3,none⟩ (.string x)) a { p with nm:=x }:=by
 unfold PAt at h ⊢;simp only[World.setCell,Ybn,h,if_true,Ybf];rfl
theorem PAt.setConds{w:World}{a:Nat}{p:PV}(h:PAt w a p)(x:Option Addr)(n c:Nat):PAt (w.setCell ⟨a,4,none⟩ (.slice x n c)) a { p with ca:=x,cn:=n,cc:=c }:=by
 unfold PAt at h ⊢;simp only[World.setCell,Ybn,h,if_true,Ybf];rfl
theorem PAt.setBy{w:World}{a:Nat}{p:PV}(h:PAt w a p)(x:Option Addr)(n c:Nat):PAt (w.setCell ⟨a,5,none⟩ (.slice x n c)) a { p with ba:=x,bn:=n,bc:=c }:=by
 unfold PAt at h ⊢;simp only[World.setCell,Ybn,h,if_true,Ybf];rfl
theorem PAt.setA{w:World}{a:Nat}{p:PV}(h:PAt w a p)(x:Int):PAt (w.setCell ⟨a,6,none⟩ (Vi x)) a { p with a:=x }:=by
 unfold PAt at h ⊢;simp only[World.setCell,Ybn,h,if_true,Ybf];rfl
def ZJV(w:World)(a:Nat)(p:PV):World:=(((((((w.setCell ⟨a,0,none⟩ (Vi p.k)).setCell ⟨a,1,none⟩ (Vi p.n)).setCell ⟨a,2,none⟩ (Vi p.op)).setCell ⟨a,3,none⟩ (.string p.nm)).setCell ⟨a,4,none⟩ (.slice p.ca p.cn p.cc)).setCell ⟨a,5,none⟩ (.slice p.ba p.bn p.bc)).setCell ⟨a,6,none⟩ (Vi p.a)).setCell ⟨a,7,none⟩ (Vi p.b)
theorem PAt.setK{w:World}{a:Nat}{p:PV}(h:PAt w a p)(x:Int):PAt (w.setCell ⟨a,0,none⟩ (Vi x)) a { p with k:=x }:=by
 unfold PAt at h ⊢;simp only[World.setCell,Ybn,h,if_true,Ybf];rfl
theorem PAt.setN{w:World}{a:Nat}{p:PV}(h:PAt w a p)(x:Int):PAt (w.setCell ⟨a,1,none⟩ (Vi x)) a { p with n:=x }:=by
 unfold PAt at h ⊢;simp only[World.setCell,Ybn,h,if_true,Ybf];rfl
theorem PAt.setOp{w:World}{a:Nat}{p:PV}(h:PAt w a p)(x:Int):PAt (w.setCell ⟨a,2,none⟩ (Vi x)) a { p with op:=x }:=by
 unfold PAt at h ⊢;simp only[World.setCell,Ybn,h,if_true,Ybf];rfl
theorem PAt.setB{w:World}{a:Nat}{p:PV}(h:PAt w a p)(x:Int):PAt (w.setCell ⟨a,7,none⟩ (Vi x)) a { p with b:=x }:=by
 unfold PAt at h ⊢;simp only[World.setCell,Ybn,h,if_true,Ybf];rfl
theorem ZKT{w:World}{a:Nat}{p0:PV}(h:PAt w a p0){p:PV}:PAt (ZJV w a p) a p:=
 PAt.setB (PAt.setA (PAt.setBy (PAt.setConds (PAt.setNm (PAt.setOp (PAt.setN (PAt.setK h p.k) p.n) p.op) p.nm) p.ca p.cn p.cc) p.ba p.bn p.bc) p.a) p.b
theorem ZKx(w:World)(a:Nat)(p:PV)(k:Nat)(b:k≠a):(ZJV w a p).heap[k]?=w.heap[k]?:=by
 unfold ZJV;rw[Go.Deep.blk_setCell_other _ _ _ _ (show k≠a from b),Go.Deep.blk_setCell_other _ _ _ _ (show k≠a from b),Go.Deep.blk_setCell_other _ _ _ _ (show k≠a from b),Go.Deep.blk_setCell_other _ _ _ _ (show k≠a from b),Go.Deep.blk_setCell_other _ _ _ _ (show k≠a from b),Go.Deep.blk_setCell_other _ _ _ _ (show k≠a from b),Go.Deep.blk_setCell_other _ _ _ _ (show k≠a from b),Go.Deep.blk_setCell_other _ _ _ _ (show k≠a from b)]
theorem ZKU{w0 w:World}{b a:Nat}(h:w0.grownBy w (some b))(c:w0.heap.size<=a)(p:PV):w0.grownBy (ZJV w a p) (some b):=by
 unfold ZJV;exact ZA (ZA (ZA (ZA (ZA (ZA (ZA (ZA h (Or.inr c)) (Or.inr c)) (Or.inr c)) (Or.inr c)) (Or.inr c)) (Or.inr c)) (Or.inr c)) (Or.inr c)
structure PTok where
 kd:Nat
 at_:Nat
 tx:BA
 v:Nat
def ZbC:List PTok->List Value
 | []=>[]
 | t::l=>.int .i64 t.kd::.int .i64 t.at_::.string t.tx::.int .i64 t.v::ZbC l
theorem Zer(l m:List PTok):ZbC (l++m)=ZbC l++ZbC m:=by
 induction l with
 | nil=>rfl
 | cons a l ih=>simp[ZbC,ih]
theorem Zwj (l : List PTok) (j : Nat) : (ZbC l)[j * 4]? = l[j]?.map (fun t => Vi t.kd) /\ (ZbC l)[j * 4 + 1]? = l[j]?.map (fun t => Vi t.at_) /\ (ZbC l)[j * 4 + 2]? = l[j]?.map (fun t => .string t.tx) /\ (ZbC l)[j * 4 + 3]? = l[j]?.map (fun t => Vi t.v) := by
  induction l generalizing j with
  | nil=>simp[ZbC]
  | cons r l ih=>
    cases j with
    | zero=>simp[ZbC]
    | succ j=>
      obtain⟨a,b,c,d⟩:=ih j;refine⟨?_,?_,?_,?_⟩
      · rw[show(j+1)*4=j*4+1+1+1+1 by omega];simpa [ZbC] using a
      · rw[show(j+1)*4+1=j*4+1+1+1+1+1 by omega];simpa [ZbC] using b
      · rw[show(j+1)*4+2=j*4+2+1+1+1+1 by omega];simpa [ZbC] using c
      · rw[show(j+1)*4+3=j*4+3+1+1+1+1 by omega];simpa [ZbC] using d
def pk(k:Nat):Nat:=if k=0 then 4 else if k=1 then 0 else if k=2 then 1 else if k=3 then 2 else if k=4 then 3 else 5
def Zdf(p:PTok)(t:Tok):Prop:=p.kd=pk t.jx/\p.at_=t.at_/\bl p.tx=t.txt/\(t.jx=1->(p.v:Int)=numV t.txt)
structure RD (w:World) (b g cp:Nat) (ps:List PTok) (k:Nat):Prop where
 cells:w.heap[b]?=some (.cells #[.slice (some ⟨g,0,none⟩) ps.length cp,Vi k] 47 (0,0))
 own:w.ownsRow 0 52 4 (.slice (some ⟨g,0,none⟩) ps.length cp) ps.length (ZbC ps)
 lt:k<ps.length
theorem RD.below{w w':World}{b g cp:Nat}{ps:List PTok}{k:Nat}(h:RD w b g cp ps k)(a:BW w w'):RD w' b g cp ps k:=
 ⟨(a.block b (Yae.1 h.cells).1).trans h.cells,Zn h.own a,h.lt⟩
theorem RD.all{w:World}{b g cp:Nat}{ps:List PTok}{k:Nat}(h:RD w b g cp ps k) :
  w.cell? ⟨b,0,none⟩=some (.slice (some ⟨g,0,none⟩) ps.length cp)/\w.cell? ⟨b,1,none⟩=some (Vi k)/\w.frozen? ⟨b,1,none⟩=false/\b<w.heap.size/\g<w.heap.size/\
  w.cell? ⟨g,k*4,none⟩=some (Vi (ps[k]'h.lt).kd)/\w.cell? ⟨g,k*4+1,none⟩=some (Vi (ps[k]'h.lt).at_)/\w.cell? ⟨g,k*4+2,none⟩=some (.string (ps[k]'h.lt).tx)/\w.cell? ⟨g,k*4+3,none⟩=some (Vi (ps[k]'h.lt).v):=by
 obtain⟨f1,f2,f3,f4⟩:=Zwj ps k;rw[List.getElem?_eq_getElem h.lt]at f1 f2 f3 f4;refine⟨by simp[World.cell?,h.cells],by simp[World.cell?,h.cells],by simp[World.frozen?,h.cells],(Yae.1 h.cells).1,Z1 h.own,Zi h.own _ f1,Zi h.own _ f2,Zi h.own _ f3,Zi h.own _ f4⟩
theorem ZiF{w:World}{b g cp:Nat}{ps:List PTok}{k:Nat}(h:RD w b g cp ps k) :
  CP 17 #[Vp b] w fun e u=>e=.returned (.agg #[Vi (ps[k]'h.lt).kd,Vi (ps[k]'h.lt).at_,.string (ps[k]'h.lt).tx,Vi (ps[k]'h.lt).v])/\BW w u:=by
 obtain⟨c0,c1,_,a,c,d0,d1,d2,d3⟩:=h.all;have d:=h.lt;generalize ps[k]'h.lt=t at *
 obtain⟨kd,at_,tx,v⟩:=t;simp only at d0 d1 d2 d3 ⊢;generalize ps.length=n at *
 clear h;go_enter func17,ntmps17;go_wp2
 go_region
 all_goals
  go_wp2;exact bodyPost_ret (v:=.agg #[Vi kd,Vi at_,.string tx,Vi v]) (by simp[results,results17,go_sem]) rfl ⟨rfl,belB⟩
theorem ZlS(t:PTok)(s:BA)(w:World) :
  CP 66 #[.agg #[Vi t.kd,Vi t.at_,.string t.tx,Vi t.v],.string s] w fun e u=>e=.returned (.bool (((t.kd:Int) == 3) && (t.tx.toList == s.toList)))/\BW w u:=by
 obtain⟨kd,at_,tx,v⟩:=t;simp only;generalize a:((kd:Int) == 3)=x;cases x
 ·go_enter func66,ntmps66;go_wp2;go_ret;exact⟨rfl,belB⟩
 ·go_enter func66,ntmps66;go_wp2;go_ret;exact⟨rfl,belB⟩
theorem Zp0(t:PTok)(s:BA)(w:World) :
  CP 73 #[.agg #[Vi t.kd,Vi t.at_,.string t.tx,Vi t.v],.string s] w fun e u=>e=.returned (.bool (((t.kd:Int) == 1) && (t.tx.toList == s.toList)))/\BW w u:=by
 obtain⟨kd,at_,tx,v⟩:=t;simp only;generalize a:((kd:Int) == 1)=x;cases x
 ·go_enter func73,ntmps73;go_wp2;go_ret;exact⟨rfl,belB⟩
 ·go_enter func73,ntmps73;go_wp2;go_ret;exact⟨rfl,belB⟩
def ZM(w:World)(v:Value)(at_:Int)(what:Addr):Prop:=∃fa:Nat,v=.iface 59 (Vp fa)/\w.heap[fa]?=some (.cells #[.string ⟨#[98,121,116,101]⟩,Vi at_,.iface 198 (.pointer (some what))] 63 (0,0))
theorem ZM.below{w w':World}{v:Value}{at_:Int}{what:Addr}(h:ZM w v at_ what)(b:BW w w'):ZM w' v at_ what:=by
 obtain⟨fa,c,a⟩:=h;exact⟨fa,c,(b.block fa (Yae.1 a).1).trans a⟩
theorem ZkT{i:Int}{what:Value}{w:World} :
  CP 43 #[Vi i,.iface 198 what] w fun e u=>e=.returned (.iface 59 (Vp w.heap.size))/\u=w.alloc (.cells #[.string ⟨#[98,121,116,101]⟩,Vi i,.iface 198 what] 63):=by
 go_enter func43,ntmps43;go_wp2;go_ret;exact⟨rfl,rfl⟩
theorem ZiZ{w:World}{b g cp:Nat}{ps:List PTok}{k:Nat}(h:RD w b g cp ps k){sy:Addr}(d:w.cell? ⟨1,0,none⟩=some (.iface 198 (.pointer (some sy)))) :
  CP 18 #[Vp b] w fun e u=>∃v,e=.returned v/\Hid (ZM u v (ps[k]'h.lt).at_ sy)/\BW w u:=by
 have H:Hid (RD w b g cp ps k):=h;have j:Hid (RD w.drew b g cp ps k):=RD.below h ((Yaf _ _).drew);have i:1<w.heap.size:=Yai _ _ d;obtain⟨t,f⟩:∃t,t=ps[k]'h.lt:=⟨_,rfl⟩
 have l:Hid (∀m:k<ps.length,ps[k]'m=t):=fun _=>f.symm;rw[<-f];clear f h;have o:∀W:World,(Instr.field 52 (.agg #[Vi t.kd,Vi t.at_,.string t.tx,Vi t.v]) 1).run prog W=.ok (Vi t.at_) W:=fun _=>rfl;go_enter func18,ntmps18;go_wp2
 go_region_with (first
   | (go_at_call 17
      refine(ZiF j.out).mono ?_;rintro e y ⟨rfl,a⟩;rw[l.out];have c:Hid (BW w y):=⟨a.os,a.tape,a.output,a.size,a.block⟩
      have n:y.cell? ⟨1,0,none⟩=some (.iface 198 (.pointer (some sy))):=(c.cell (p:=⟨_,0,none⟩) i).trans d;clear a)
   | (go_at_call 43
      refine(ZkT).mono ?_;rintro e z ⟨rfl,rfl⟩))
 all_goals
  go_wp2;go_ret;exact⟨_,rfl,⟨y.heap.size,rfl,Go.Deep.blk_alloc_new _ _⟩,c.alloc c.size _⟩
def ZJo:List (BA×BA×Bool)->List Value
 | []=>[]
 | (a,b,c)::l=>.string a::.string b::.bool c::ZJo l
def blC(c:BA×BA×Bool):LB×LB×Bool:=(bl c.1,bl c.2.1,c.2.2)
theorem ZKo(l m:List (BA×BA×Bool)):ZJo (l++m)=ZJo l++ZJo m:=by
 induction l with
 | nil=>rfl
 | cons a l ih=>obtain⟨x,y,z⟩:=a;simp[ZJo,ih]
theorem Zjr{k:Nat}{ts:List Tok}{z:LB×List Tok}(a:k≠0)(h:ZH k ts=.ok z):z.2.length+1=ts.length/\z.1=(hd ts).txt/\z.2=ts.tail:=by
 unfold ZH at h;split at h
 ·rename_i e;injection h with h;subst h;cases ts with
  | nil=>exact absurd e.symm a
  | cons t r=>exact⟨rfl,rfl,rfl⟩
 ·cases h
theorem ZeB{c:LB}{ts:List Tok}{z:Unit×List Tok}(h:Zq c ts=.ok z):z.2.length+1=ts.length:=by
 unfold Zq at h;split at h
 ·rename_i e;injection h with h;subst h;cases ts with
  | nil=>exact absurd (Or.inl rfl) (Zib e)
  | cons t r=>rfl
 ·cases h
theorem Zxj{c:LB}{ts:List Tok}(e:isT c (hd ts)=true):ts.tail.length+1=ts.length:=by
 cases ts with
 | nil=>exact absurd (Or.inl rfl) (Zib e)
 | cons t r=>rfl
def ZJu{α β:Type}(item:List Tok->Out α)(close:LB)(f:β->α)(N:Nat)(ts0:List Tok)(qs:List β)(rr:Out Unit):Prop:=
 (∀e,rr=.error e->ZS item close N [] ts0=.error e)/\(∀ts,rr=.ok ((),ts)->∃m,ZS item close N [] ts0=ZS item close m (qs.map f) ts/\ts.length+1<=m/\qs.length+ts.length<=ts0.length)/\qs.length<=ts0.length+1
theorem ZJu.start{α β:Type}(item:List Tok->Out α)(close:LB)(f:β->α)(N:Nat)(ts0:List Tok)(a:ts0.length+1<=N):ZJu item close f N ts0 [] (.ok ((),ts0)):=
 ⟨fun e h=>(by cases h),fun ts h=>by injection h with h;injection h with _ h;subst h;exact⟨N,rfl,a,by simp⟩,by simp⟩
theorem ZJu.round{α β:Type}{item:List Tok->Out α}{close:LB}{f:β->α}{N:Nat}{ts0 ts:List Tok}{qs:List β}{x:β}{r1 r4:Out Unit}(h:ZJu item close f N ts0 qs (.ok ((),ts)))(n:isT close (hd ts)=false)
  (d:(if qs.isEmpty then .ok ((),ts)else Zq [44] ts)=r1) (o:r4=bnd r1 fun _ t=>ZJm (item t)) (p:∀t z,r1=.ok ((),t)->item t=.ok z->f x=z.1) (q:∀t z,item t=.ok z->z.2.length+1<=t.length):ZJu item close f N ts0 (qs++[x]) r4:=by
 obtain⟨m,s,w,A⟩:=h.2.1 ts rfl;obtain⟨k,rfl⟩:∃k,m=k+1:=⟨m - 1,by omega⟩
 have c : ZS item close N [] ts0 = bnd r1 fun _ r => bnd (item r) fun a r => ZS item close k (qs.map f ++ [a]) r := by
   rw[s];show(if isT close (hd ts)then _ else _)=_;rw[n,<-d];have:(qs.map f).isEmpty=qs.isEmpty:=by cases qs <;> rfl
   rw[this];rfl
 have j:∀t,r1=.ok ((),t)->t.length<=ts.length:=by
  intro t u;rw[u]at d;split at d
  ·injection d with d;injection d with _ d;subst d;exact Yac _
  ·have:=ZeB d;simp at this;omega
 subst o;refine⟨?_,?_,?_⟩
 ·intro e b;cases g:r1 with
  | error y=>rw[g]at b c;injection b with b;rw[c,b];rfl
  | ok y=>
   obtain⟨⟨⟩,t⟩:=y;rw[g]at b c;cases i:item t with
   | error y=>rw[c];simp only[bnd,ZJm,i]at b ⊢;injection b with b;rw[b]
   | ok y=>simp[bnd,ZJm,i]at b
 ·intro t4 b;cases g:r1 with
  | error y=>rw[g]at b;simp[bnd]at b
  | ok y=>
   obtain⟨⟨⟩,t⟩:=y;have B:=j t g;have l:=fun z=>p t z g;rw[g]at b c;cases i:item t with
   | error y=>simp[bnd,ZJm,i]at b
   | ok y=>
    have v:=l y i;have C:=q t y i;simp only[bnd,ZJm,i]at b c;injection b with b;injection b with _ b;subst b;exact⟨k,by rw[c,Yaq,<-v];rfl,by omega,by simp;omega⟩
 ·simp;omega
theorem ZJu.done{α β:Type}{item:List Tok->Out α}{close:LB}{f:β->α}{N:Nat}{ts0:List Tok}{qs:List β}{rr:Out Unit}(h:ZJu item close f N ts0 qs rr)(hd:isR close rr=true∨∃e,rr=.error e) :
  ZJm (ZS item close N [] ts0)=(bnd rr fun _ ts=>Zq close ts)/\∀z,ZS item close N [] ts0=.ok z->qs.map f=z.1:=by
 cases rr with
 | error e=>rw[h.1 e rfl];exact⟨rfl,fun z a=>(by cases a)⟩
 | ok y=>
  obtain⟨⟨⟩,ts⟩:=y;rcases hd with hd|⟨e,hd⟩
  ·obtain⟨m,c,d,g⟩:=h.2.1 ts rfl;obtain⟨k,rfl⟩:∃k,m=k+1:=⟨m - 1,by omega⟩
   have b:isT close (LS.hd ts)=true:=hd
   have e1:ZS item close (k+1) (qs.map f) ts=.ok (qs.map f,ts.tail):=by
    show(if isT close (LS.hd ts)then _ else _)=_;rw[b];rfl
   rw[c,e1];refine⟨?_,fun z a=>by injection a with a;subst a;rfl⟩;show _=Zq close ts;unfold Zq;rw[b];rfl
  ·cases hd
theorem Zos(t:List Tok)(z:(LB×LB×Bool)×List Tok)(h:ZV t=.ok z):z.2.length+1<=t.length:=by
 unfold ZV at h;cases c:ZH 2 t with
 | error e=>rw[c]at h;cases h
 | ok y=>
  have l1:=(Zjr Dc c).1;rw[c]at h;simp only[bnd]at h;cases a:Zdc y.2 with
  | error e=>rw[a]at h;cases h
  | ok u=>
   have l2:u.2.length<=y.2.length:=by
    unfold Zdc at a;split at a
    ·injection a with a;subst a;simp
    ·cases b:Zq [61] y.2 with
     | error e=>rw[b]at a;cases a
     | ok q=>rw[b]at a;injection a with a;subst a;have:=ZeB b;show q.2.length<=_;omega
   rw[a]at h;simp only at h;cases b:ZH 3 u.2 with
   | error e=>rw[b]at h;cases h
   | ok q=>
    have l3:=(Zjr Dc b).1;rw[b]at h;injection h with h;subst h;show q.2.length+1<=_;omega
theorem ZKk {r1 : Out Unit} {x1 x2 : BA} {v : Bool} (f : isR [33, 61] (bnd r1 fun _ t => ZJm (ZH 2 t)) = v) {r3 : Out Unit}
    (g:r3=if v then (bnd (bnd r1 fun _ t=>ZJm (ZH 2 t)) fun _ ts=>.ok ((),ts.tail))else bnd (bnd r1 fun _ t=>ZJm (ZH 2 t)) fun _ ts=>Zq [61] ts)
    (m:∀y,r1=.ok y->∀z,ZH 2 y.2=.ok z->bl x1=z.1) (o:∀y,r3=.ok y->∀z,ZH 3 y.2=.ok z->bl x2=z.1) :
    (bnd r3 fun _ t=>ZJm (ZH 3 t))=(bnd r1 fun _ t=>ZJm (ZV t))/\∀t z,r1=.ok ((),t)->ZV t=.ok z->blC (x1,x2,v)=z.1:=by
  cases r1 with
  | error e=>
    have:v=false:=f.symm;subst this;subst g;exact⟨rfl,fun t z h=>(by cases h)⟩
  | ok y=>
    obtain⟨⟨⟩,t⟩:=y;cases d:ZH 2 t with
    | error e=>
      simp only[bnd,ZJm,d]at f g;have:v=false:=f.symm;subst this;subst g;refine⟨by simp[bnd,ZJm,ZV,d],fun t2 z h c=>?_⟩;injection h with h;injection h with _ h;subst h;simp[ZV,d,bnd]at c
    | ok y=>
      have j:=m _ rfl _ d;simp only[bnd,ZJm,d]at f g;have p:isT [33,61] (hd y.2)=v:=f
      have w : Zdc y.2 = bnd r3 fun _ t => .ok (v, t) := by
        unfold Zdc;rw[p,g];cases v
        · rfl
        · rfl
      have s : ZV t = bnd r3 fun _ r => bnd (ZH 3 r) fun b r => .ok ((y.1, b, v), r) := by
        unfold ZV;rw[d];show(bnd (Zdc y.2) fun n r=>bnd (ZH 3 r) fun b r=>.ok ((y.1,b,n),r))=_;rw[w];cases r3 with
        | error e=>rfl
        | ok u=>rfl
      refine⟨?_,fun t2 z h c=>?_⟩
      · show _=ZJm (ZV t)
        rw[s];cases r3 with
        | error e=>rfl
        | ok u=>
          show ZJm (ZH 3 u.2)=ZJm (bnd (ZH 3 u.2) fun b r=>.ok ((y.1,b,v),r));cases ZH 3 u.2 with
          | error e=>rfl
          | ok q=>rfl
      · injection h with h;injection h with _ h;subst h
        rw[s]at c;cases i:r3 with
        | error e=>rw[i]at c;cases c
        | ok u=>
          rw[i]at c;have a:(bnd (ZH 3 u.2) fun b r=>(.ok ((y.1,b,v),r):Out (LB×LB×Bool)))=.ok z:=c;cases k:ZH 3 u.2 with
          | error e=>rw[k]at a;cases a
          | ok q=>
            have l:=o u i _ k;rw[k]at a;injection a with a;subst a;show(bl x1,bl x2,v)=(y.1,q.1,v)
            rw[j,l]
end Go.Proofs.YtmncdbepjhmkgaaGreatDoor

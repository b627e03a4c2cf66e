/- Parts. -/
import Derived.Test.YtpbemaaghbbocaaGreatDoorE01
import Derived.Deep.RegionLaw
set_option linter.all false
set_option maxRecDepth 100000
set_option maxHeartbeats 16000000
namespace Go.Proofs.YtpbemaaghbbocaaGreatDoor
open Go.RowKit LS Go.Proofs.Tryz
theorem ZtK{P:Program}{w:World}{t ty:TypeId}(base:Nat)(e:TypeId)(i:TypeInfo)(z:Value)(size bytes:Nat)(s:P.underlying t=some (.slice e))(x:P.info? e=some i)(C:i.zero=some z)(p:i.size=size)(D:i.bytes=bytes)(E:z.cells.size=size)(F:0<size)
  (v:Value) (n:Nat) (xs:List Value) (d:w.ownsRow base e size v n xs)
  (ad:Addr) (m c:Nat) (news:List Value) (q:news.length=m*size) (y:∀j u,news[j]?=some u->w.cell? (ad.add j)=some u) (r:∀u∈news,u.oneCell'=true)
  (b1:n+m<=maxLen) (b2:(n+m)*bytes<=140737488355328) {v':Value} {w':World} (f:(Builtin.append_ #[t,t] ty #[v,.slice (some ad) m c]).run P w=.ok v' w') :
  v'.ownBlock=v.ownBlock∨∀k,v'.ownBlock=some k->w.heap.size<=k:=by
 have l:=fun g H=>@World.ownsRow.cells w base e size v n xs d g H;have o:=d.1;rcases d.2 with ⟨rfl,rfl⟩|⟨g,cap,cur,rfl,N,I,K,L,G,M⟩
 ·right
  obtain rfl:xs=[]:=Ya3 (by simpa using o);obtain⟨v2,J,a,r1,_⟩:=run_append_own (P:=P) w w.heap.size t ty e i z size bytes s x C p D E F S0 0 [] (Ybc w _ e size) ad m c news q y r b1 b2 (Yac _);rw[f]at a;injection a with e1 e2;subst e1;exact fun k A=>(r1.lt k A).1
 ·by_cases h:n+m<=cap
  ·left
   have B:n*i.size+news.length<=cur.size:=by rw[p,q,G,<-Nat.add_mul];exact Nat.mul_le_mul_right _ h
   have a:=run_append_room (P:=P) w t ty e i s x g n cap cur I ad m c news (by rw[p];exact q) y r h B;rw[f]at a;injection a with e1 e2;subst e1;rfl
  ·right
   obtain⟨v2,J,a,r1,_⟩:=run_append_arg_grows (P:=P) w t ty e i z size bytes s x C p D E F ⟨g,0,none⟩ n cap xs o (l g rfl) ad m c news q y Om b1 b2;rw[f]at a;injection a with e1 e2;subst e1;exact fun k A=>(r1.lt k A).1
theorem ZfF{P:Program}{ops:Array Oper}{o:Oper}{a:Act}{w:World}{K:Act->World->Prop}{Q:Exit->Act->World->Prop}{E:Prop}
  (H:o.guard=none) (s x:Operand) (t:TypeId) (p:o.op=Op.call { callee:=Callee.builtin Builtin.append,args:=#[s,x],argTypes:=#[t,t] })
  (base:Nat) (e:TypeId) (i:TypeInfo) (z:Value) (size bytes:Nat) (q:P.underlying t=some (.slice e)) (r:P.info? e=some i) (y:i.zero=some z) (A:i.size=size) (B:i.bytes=bytes) (C:z.cells.size=size) (D:0<size)
  (v:Value) (n:Nat) (xs:List Value) (I:a.eval s=v) (d:w.ownsRow base e size v n xs)
  (ad:Addr) (m c:Nat) (news:List Value) (J:a.eval x=.slice (some ad) m c) (F:news.length=m*size) (G:∀j u,news[j]?=some u->w.cell? (ad.add j)=some u) (l:∀u∈news,u.oneCell'=true)
  (b1:n+m<=maxLen) (b2:(n+m)*bytes<=140737488355328) (h:base<=w.heap.size)
  (L:∀v' f,f.ownsRow base e size v' (n+m) (xs++news)->w.grownBy f v.ownBlock->(v'.ownBlock=v.ownBlock∨∀k,v'.ownBlock=some k->w.heap.size<=k)->K (a.put o.dst v') f) :
  if Region.wanted o (yielded ops a.tmps)=true then Oper.wp P o a w K Q else E:=by
 have M:Region.wanted o (yielded ops a.tmps)=true:=by simp[Region.wanted,H]
 rw[if_pos M];obtain⟨v',f,g,r1,r2,_⟩:=run_append_own (P:=P) w base t o.type e i z size bytes q r y A B C D v n xs d ad m c news F G l b1 b2 h;have r3:=ZtK base e i z size bytes q r y A B C D v n xs d ad m c news F G l b1 b2 g;unfold Oper.wp;simp[execOp,p,resolve,invoke,builtin,I,J,g,Result.andThen];exact L v' f r1 r2 r3
structure Kept (b:Nat) (pv:Value) (w:World) (pv':Value) (w':World):Prop where
 os:w'.os=w.os
 tape:w'.tape=w.tape
 output:w'.output=w.output
 size:w.heap.size<=w'.heap.size
 block:∀k,k<w.heap.size->k≠b->some k≠pv.ownBlock->w'.heap[k]?=w.heap[k]?
 own:pv'.ownBlock=pv.ownBlock∨∀k,pv'.ownBlock=some k->w.heap.size<=k
theorem Kept.refl(b:Nat)(pv:Value)(w:World):Kept b pv w pv w:=⟨rfl,rfl,rfl,Yac _,fun _ _ _ _=>rfl,Or.inl rfl⟩
theorem Kept.trans{b:Nat}{p1 p2 p3:Value}{y z d:World}(h:Kept b p1 y p2 z)(a:Kept b p2 z p3 d):Kept b p1 y p3 d:=by
 refine⟨a.os.trans h.os,a.tape.trans h.tape,a.output.trans h.output,Yah h.size a.size,?_,?_⟩
 ·intro k c f g;refine(a.block k (Yaw c h.size) f ?_).trans (h.block k c f g);rcases h.own with e|e
  ·rw[e];exact g
  ·intro e2;have:=e k e2.symm;omega
 ·rcases a.own with e|e
  ·rw[e];exact h.own
  ·exact Or.inr fun k c=>Yah h.size (e k c)
theorem Kept.grown{b:Nat}{p1 p2:Value}{y z c:World}(h:Kept b p1 y p2 z)(a:z.grownBy c (some b)):Kept b p1 y p2 c:=
 h.trans ⟨a.os,a.tape,a.output,a.size,fun k d f _=>a.block k d (fun e=>f (Yax e)),Or.inl rfl⟩
theorem Tryz.infoPart:(Tryz.prog.info? 131).map (fun i=>(i.zero,i.size,i.bytes))=some (some (.agg #[Vi 0,Vi 0,Vi 0,.string ByteArray.empty,S0,S0,Vi 0,Vi 0]),8,104):=by kernel_rfl
theorem ZLA{W:World}{a:Nat}{x0 x1 x2 x3 x4 x5 x6 x7:Value}{t:TypeId}{fr:Nat×Nat}(h:W.heap[a]?=some (.cells #[x0,x1,x2,x3,x4,x5,x6,x7] t fr)):∀j x,[x0,x1,x2,x3,x4,x5,x6,x7][j]?=some x->W.cell? ((⟨a,0,none⟩:Addr).add j)=some x:=by
 intro j x c;rw[ZfO];simp only[World.cell?,h];simpa using c
theorem QAt.grownBy{w w':World}{b:Nat}{q:QV}{r:Option Nat}(h:QAt w b q)(c:w.grownBy w' r)(a:some b≠r):QAt w' b q:=(c.block b h.lt a).trans h
structure PV where
 k:Int
 n:Int
 op:Int
 nm:BA
 ca:Option Addr
 cn:Nat
 cc:Nat
 ba:Option Addr
 bn:Nat
 bc:Nat
 a:Int
 b:Int
def PV.cells(p:PV):List Value:=[Vi p.k,Vi p.n,Vi p.op,.string p.nm,.slice p.ca p.cn p.cc,.slice p.ba p.bn p.bc,Vi p.a,Vi p.b]
theorem ZLa(w:World)(b:Nat)(q:QV)(h:QAt w b q)(n:Nat)(xs:List Value)(g:w.ownsRow 0 131 8 q.pv n xs)(Q:n<=6000)(p:PV) :
  CP 95 #[Vp b,.agg #[Vi p.k,Vi p.n,Vi p.op,.string p.nm,.slice p.ca p.cn p.cc,.slice p.ba p.bn p.bc,Vi p.a,Vi p.b]] w fun r v=>
   ∃pv',r=.returned (Vi n)/\QAt v b { q with pv:=pv' }/\v.ownsRow 0 131 8 pv' (n+1) (xs++p.cells)/\Kept b q.pv w pv' v:=by
 obtain⟨i0,L,A,B,C⟩:=info_parts Tryz.infoPart;obtain⟨c0,c1,c2,c3,c4,c5,c6,c7,c8⟩:=h.all;have P:=h.lt;have H:Hid (QAt w b q):=h;obtain⟨k,pn,op,nm,ca,cn,cc,ba,bn,bc,pa,pb⟩:=p;obtain⟨av,cp,i⟩:=Zl g;have d:w.ownsRow 0 131 8 (.slice av n cp) n xs:=by rw[<-i];exact g
 have M:Hid (some b≠(Value.slice av n cp).ownBlock):=Zcx d h Dc;have x:Hid (q.pv=.slice av n cp):=i;have N:Hid (∀(o1 o2:Obj),((w.alloc o1).alloc o2).drew.ownsRow 0 131 8 (.slice av n cp) n xs):=fun o1 o2=>(d.alloc o1).alloc o2
 have O : Hid (∀ (o1 o2 : Obj), ((w.alloc o1).alloc o2).drew.heap[w.heap.size + 1]? = some o2) := fun o1 o2 => by
   have:=Go.Deep.blk_alloc_new (w.alloc o1) o2;rw[Go.Deep.nblk_alloc]at this;exact this
 have D:Hid (∀(o1 o2:Obj),QAt ((w.alloc o1).alloc o2).drew b q):=fun o1 o2=>QAt.alloc (QAt.alloc h o1) o2;clear h g d;rw[i]at c0;clear i;go_enter func95,ntmps95;go_wp2
 go_region_law (
  refine ZfF rfl (.tmp 9) (.tmp 11) 111 rfl 0 131 i0 _ 8 104 underlying111 L A B C rfl Dc (.slice av n cp) n xs (by simp[Act.eval]) (N.out _ _) ⟨w.heap.size+1,0,none⟩ 1 1 [Vi k,Vi pn,Vi op,.string nm,.slice ca cn cc,.slice ba bn bc,Vi pa,Vi pb] (by simp[Act.eval]) rfl ?h2 ?h3 ?h4 ?h5 (Yag _) ?_
  case h2=>exact ZLA (O.out _ _)
  case h3=>intro u E;simp at E;rcases E with rfl|rfl|rfl|rfl|rfl|rfl|rfl|rfl <;> rfl
  case h4=>unfold maxLen;omega
  case h5=>omega
  intro v1 y f c hwhere1;have l:QAt y b q:=QAt.grownBy (D.out _ _) c M.out;obtain⟨g1,cp1,F⟩:=ZF f Om;subst F;have d0:=(QAt.all l).1;rw[x.out]at d0;have e0:=QAt.frozen l 0)
 all_goals
  have o:Hid (QAt y b q):=l;have s:Hid (y.ownsRow 0 131 8 (.slice (some ⟨g1,0,none⟩) (n+1) cp1) (n+1) (xs++[Vi k,Vi pn,Vi op,.string nm,.slice ca cn cc,.slice ba bn bc,Vi pa,Vi pb])):=f;have G:Hid _:=c;have I:Hid _:=hwhere1;clear l f c hwhere1 c0 c1 c2 c3 c4 c5 c6 c7 c8;go_wp2;go_ret;refine⟨_,ZBw Om,QAt.set o.out 0 _ rfl,Yf6 s.out (ZA (b:=b) (ZbM _ _) (Or.inl rfl)) (Or.inr ?_),?_⟩
  ·exact fun e=>Zcx s.out o.out Dc e.symm
  ·have m:=G.out;have J:=m.size;rw[show((w.alloc _).alloc _).drew.heap.size=w.heap.size+1+1 from by rw[show((w.alloc _).alloc _).drew.heap.size=((w.alloc _).alloc _).heap.size from rfl,Go.Deep.nblk_alloc,Go.Deep.nblk_alloc]]at J;refine⟨m.os,m.tape,m.output,?_,?_,?_⟩
   ·rw[Go.Deep.nblk_setCell];omega
   ·intro j z K t;rw[Go.Deep.blk_setCell_other _ _ _ _ (show j≠b from K)];rw[x.out]at t;refine(m.block j ?_ t).trans ?_
    ·show j<((w.alloc _).alloc _).heap.size;rw[Go.Deep.nblk_alloc,Go.Deep.nblk_alloc];omega
    ·show((w.alloc _).alloc _).heap[j]?=_;rw[Go.Deep.blk_alloc_lt _ _ _ (by rw[Go.Deep.nblk_alloc];omega),Go.Deep.blk_alloc_lt _ _ _ z]
   ·rw[x.out];rcases I.out with h|h
    ·exact Or.inl h
    ·refine Or.inr fun j z=>?_;have:=h j z;have h2:((w.alloc _).alloc _).heap.size<=j:=this;rw[Go.Deep.nblk_alloc,Go.Deep.nblk_alloc]at h2;omega
end Go.Proofs.YtpbemaaghbbocaaGreatDoor
namespace Go.Proofs.YtpbemaaghbbocaaGreatDoor.LS
open Go Go.RowKit
def idxI(w:LB)(l:List (LB)):Int:=match idx w l with
 | none=>-1
 | some i=>i
theorem ZMD {w : LB} {l : List (LB)} (k : Nat) (a : k < l.length) (h : l.getD k [] ≠ w) {m:Nat} (c : idxI w l = match idx w (l.drop k) with | none => -1 | some i => ((i + k : Nat) : Int)) (d : m = k + 1) :
    idxI w l=match idx w (l.drop m)with|none=>-1|some i=>((i+m:Nat):Int):=by
  subst d;rw[c];rw[List.drop_eq_getElem_cons a];have e:l.getD k []=l[k]:=by simp[a]
  rw[e]at h;show(match (if l[k]=w then some 0 else (idx w (l.drop (k+1))).map (· + 1))with|none=>(-1:Int)|some i=>((i+k:Nat):Int))=_;rw[if_neg h];cases idx w (l.drop (k+1))with
  | none=>rfl
  | some i=>show(((i+1+k:Nat)):Int)=((i+(k+1):Nat):Int);omega
theorem ZMC {w : LB} {l : List (LB)} (k : Nat) (a : k < l.length) (h : l.getD k [] = w) (c : idxI w l = match idx w (l.drop k) with | none => -1 | some i => ((i + k : Nat) : Int)) : idxI w l = k := by
  rw[c,List.drop_eq_getElem_cons a];have e:l.getD k []=l[k]:=by simp[a]
  rw[e]at h;show(match (if l[k]=w then some 0 else (idx w (l.drop (k+1))).map (· + 1))with|none=>(-1:Int)|some i=>((i+k:Nat):Int))=_;rw[if_pos h];show((0+k:Nat):Int)=k;omega
theorem ZMB {w : LB} {l : List (LB)} (k : Nat) (c : ¬ k < l.length) (a : idxI w l = match idx w (l.drop k) with | none => -1 | some i => ((i + k : Nat) : Int)) : idxI w l = -1 := by
  rw[a,Yb8 Om];rfl
theorem ZMA{w:LB}{l:List (LB)}:idxI w l=match idx w (l.drop 0)with|none=>-1|some i=>((i+0:Nat):Int):=rfl
end Go.Proofs.YtpbemaaghbbocaaGreatDoor.LS
namespace Go.Proofs.YtpbemaaghbbocaaGreatDoor
open Go.RowKit LS Go.Proofs.Tryz
theorem ZJY{s x:BA}{w:World}(A:s.size<=6000) :
  CP 234 #[.string s,.string x] w fun r u=>r=.returned (Vi (idxI (bl x) (split 32 (bl s))))/\BW w u:=by
 go_enter func234,ntmps234
 go_wp2_with fail
 refine(ZKh s 32 rfl A).mono ?_;rintro e y ⟨g,n,cp,bs,rfl,q,C,D,a,l,m⟩;have B:Hid (n=bs.length):=q;have c:(split 32 (bl s)).length=n:=by rw[<-l.out,Yak,q]
 have E:n<=6001:=by have:=Zhd 32 (bl s);rw[Zd]at this;omega
 clear q;have d:Hid _:=c;clear c;go_wp2
 go_loop [6] (fun i=>∃k:Nat,k<=n/\i=.int .i64 k/\Hid (idxI (bl x) (split 32 (bl s))=match idx (bl x) ((split 32 (bl s)).drop k)with|none=>-1|some i=>((i+k:Nat):Int))) (fun i=>n - (intOf i).toNat)
 case atStart=>exact⟨0,Yag _,rfl,ZMA⟩
 case round=>
  obtain⟨k,F,rfl,t⟩:=hrel;by_cases f:k<n
  ·have o:k<bs.length:=by rw[<-B.out];exact f
   have p:k<(split 32 (bl s)).length:=by rw[d.out];exact f
   have z:y.cell? ⟨g,k,none⟩=some (.string bs[k]):=a.out k o;have v:Hid (bl bs[k]=(split 32 (bl s)).getD k []):=ZJ6 l.out k o;generalize bs[k]=sk at z v;cases j:(sk.toList == x.toList)
   ·have h : Hid (idxI (bl x) (split 32 (bl s)) = match idx (bl x) ((split 32 (bl s)).drop (k + 1)) with | none => -1 | some i => ((i + (k + 1) : Nat) : Int)) := hid (by
      refine ZMD k p ?_ t.out rfl;rw[<-v.out];rw[Zbt,Zbt]at j;exact beq_eq_false_iff_ne.1 j)
    go_wp2
    go_round
    case rel=>exact⟨k+1,by omega,by go_num,h⟩
    case measure=>simp[intOf];omega
   ·have h:Hid (idxI (bl x) (split 32 (bl s))=k):=hid (by
     refine ZMC k p ?_ t.out;rw[<-v.out];rw[Zbt,Zbt]at j;exact beq_iff_eq.1 j)
    go_wp2;go_ret;exact⟨by rw[h.out];rfl,m⟩
  ·have h:Hid (idxI (bl x) (split 32 (bl s))=-1):=hid (ZMB k (by rw[d.out];exact f) t.out);go_wp2;go_ret;exact⟨by rw[h.out];rfl,m⟩
def St(w:World)(b:Nat)(pv:Value)(s:BA)(deep:Nat)(r:Out Unit):Prop:=QRes w b pv s deep r (fun _=>True)
def isR(c:LB)(r:Out Unit):Bool:=match r with
 | .error _=>false
 | .ok x=>isT c (hd x.2)
theorem St.kept{w w':World}{b:Nat}{pv:Value}{s:BA}{deep:Nat}{r:Out Unit}(h:St w b pv s deep r)(a:w'.heap[b]?=w.heap[b]?):St w' b pv s deep r:=by
 cases r with
 | error x=>exact QErr.kept (e:=x.1) (p:=x.2) h a
 | ok x=>exact⟨QIs.kept h.1 a,trivial⟩
theorem St.lt{w:World}{b:Nat}{pv:Value}{s:BA}{deep:Nat}{r:Out Unit}(h:St w b pv s deep r):b<w.heap.size:=by
 cases r with
 | error x=>exact QErr.lt (e:=x.1) (p:=x.2) h
 | ok x=>exact QIs.lt h.1
theorem St.len{w:World}{b:Nat}{pv:Value}{s:BA}{deep:Nat}{x:Unit×List Tok}(h:St w b pv s deep (.ok x)):x.2.length<=s.size+2:=by
 obtain⟨⟨q,_,_,_,_,_,a,c⟩,_⟩:=h;have:=c.len (by rw[Zd];exact a)
 rwa [Zd]at this
theorem St.view{w:World}{b:Nat}{pv:Value}{s:BA}{deep:Nat}{r:Out Unit}(h:St w b pv s deep r) :
  ∃q:QV,QAt w b q/\q.pv=pv/\q.deep=deep/\(∀x,r=.error x->q.e=x.1/\q.e≠0/\q.pl=x.2)/\(∀x,r=.ok x->q.e=0/\ZJB q=hd x.2):=by
 cases r with
 | error x=>
  obtain⟨q,d,f,i,c,g,j⟩:=h;refine⟨q,d,f,i,?_,?_⟩
  ·intro y a;injection a with a;subst a;exact⟨c,by rw[c];exact g,j⟩
  ·intro y a;cases a
 | ok x=>
  obtain⟨⟨q,d,f,i,c,g,j,k⟩,_⟩:=h;refine⟨q,d,f,c,?_,?_⟩
  ·intro y a;cases a
  ·intro y a;injection a with a;subst a;exact⟨g,k.hd.symm⟩
theorem St.is{w:World}{b:Nat}{pv:Value}{s:BA}{deep:Nat}{r:Out Unit}(h:St w b pv s deep r)(c:BA) :
  CP 94 #[Vp b,.string c] w fun e u=>e=.returned (.bool (isR (bl c) r))/\u=w:=by
 cases r with
 | error x=>exact QErr.is (e:=x.1) (p:=x.2) h c
 | ok x=>exact QIs.is h.1 c
theorem St.take{w:World}{b:Nat}{pv:Value}{s:BA}{deep:Nat}{r:Out Unit}(h:St w b pv s deep r)(a:s.size<=6000)(c:BA) :
  CP 236 #[Vp b,.string c] w fun e u=>e=.returned (.tuple #[])/\St u b pv s deep (bnd r fun _ ts=>Zq (bl c) ts)/\w.grownBy u (some b):=by
 cases r with
 | error x=>
  refine(QErr.take (e:=x.1) (p:=x.2) h c).mono ?_;rintro e u ⟨rfl,rfl⟩;exact⟨rfl,h,ZbM _ _⟩
 | ok x=>exact QIs.take h.1 a c
theorem St.fail{w:World}{b:Nat}{pv:Value}{s:BA}{deep:Nat}{r:Out Unit}(h:St w b pv s deep r)(c:Nat)(ci:Int)(a:ci=c)(d:c≠0) :
  CP 48 #[Vp b,Vi ci] w fun e u=>e=.returned (.tuple #[])/\St u b pv s deep (bnd r fun _ ts=>.error (c,(hd ts).at_))/\w.grownBy u (some b):=by
 cases r with
 | error x=>
  refine(QErr.fail (e:=x.1) (p:=x.2) h ci).mono ?_;rintro e u ⟨rfl,rfl⟩;exact⟨rfl,h,ZbM _ _⟩
 | ok x=>exact QIs.fail h.1 c ci a d
def ZJm{α:Type}(r:Out α):Out Unit:=bnd r fun _ ts=>.ok ((),ts)
theorem St.jx{w:World}{b:Nat}{pv:Value}{s:BA}{deep:Nat}{r:Out Unit}(h:St w b pv s deep r)(g:s.size<=6000)(k:Nat)(ki:Int)(f:ki=k)(i:¬(k=0∨k=5)) :
  CP 238 #[Vp b, Vi ki] w fun e u => ∃ x : BA, e = .returned (.string x) /\ St u b pv s deep (bnd r fun _ ts => ZJm (ZH k ts)) /\
    Hid (∀y,r=.ok y->∀z,ZH k y.2=.ok z->bl x=z.1)/\w.grownBy u (some b):=by
 cases r with
 | error x=>
  refine(QErr.jx (e:=x.1) (p:=x.2) h ki).mono ?_;rintro e u ⟨rfl,rfl⟩;exact⟨⟨#[]⟩,rfl,h,hid (fun y c=>(by cases c)),ZbM _ _⟩
 | ok x=>
  refine(QIs.jx h.1 g k ki f i).mono ?_;rintro e u ⟨tx,rfl,a,j⟩;refine⟨tx,rfl,?_,?_,j⟩
  ·show St u b pv s deep (ZJm (ZH k x.2));cases d:ZH k x.2 with
   | error z=>rw[d]at a;exact a
   | ok z=>rw[d]at a;exact⟨a.1,trivial⟩
  ·rintro y c z l;injection c with c;subst c;rw[l]at a;exact a.2
theorem St.next{w:World}{b:Nat}{pv:Value}{s:BA}{deep:Nat}{r:Out Unit}(h:St w b pv s deep r)(c:s.size<=6000)(a:∃ts,r=.ok ((),ts)/\¬((hd ts).jx=0∨(hd ts).jx=5)) :
  CP 46 #[Vp b] w fun e u=>e=.returned (.tuple #[])/\St u b pv s deep (bnd r fun _ ts=>.ok ((),ts.tail))/\w.grownBy u (some b):=by
 obtain⟨ts,rfl,a⟩:=a;refine(QIs.next h.1 c a).mono ?_;rintro e u ⟨rfl,d,f⟩;exact⟨rfl,⟨d,trivial⟩,f⟩
theorem ZKA{c:LB}{r:Out Unit}(h:isR c r=true):∃ts,r=.ok ((),ts)/\isT c (hd ts)=true/\¬((hd ts).jx=0∨(hd ts).jx=5):=by
 cases r with
 | error x=>cases h
 | ok x=>exact⟨x.2,rfl,h,Zib h⟩
def PAt(w:World)(a:Nat)(p:PV):Prop:=w.heap[a]?=some (.cells #[Vi p.k,Vi p.n,Vi p.op,.string p.nm,.slice p.ca p.cn p.cc,.slice p.ba p.bn p.bc,Vi p.a,Vi p.b] 131 (0,0))
theorem PAt.lt{w:World}{a:Nat}{p:PV}(h:PAt w a p):a<w.heap.size:=(Yae.1 h).1
theorem PAt.frozen{w:World}{a:Nat}{p:PV}(h:PAt w a p)(o:Nat):w.frozen? ⟨a,o,none⟩=false:=by
 unfold PAt at h;simp[World.frozen?,h]
theorem PAt.all{w:World}{a:Nat}{p:PV}(h:PAt w a p) :
  w.cell? ⟨a,0,none⟩=some (Vi p.k)/\w.cell? ⟨a,1,none⟩=some (Vi p.n)/\w.cell? ⟨a,2,none⟩=some (Vi p.op)/\w.cell? ⟨a,3,none⟩=some (.string p.nm)/\
  w.cell? ⟨a,4,none⟩=some (.slice p.ca p.cn p.cc)/\w.cell? ⟨a,5,none⟩=some (.slice p.ba p.bn p.bc)/\w.cell? ⟨a,6,none⟩=some (Vi p.a)/\w.cell? ⟨a,7,none⟩=some (Vi p.b):=by
 unfold PAt at h;refine⟨?_,?_,?_,?_,?_,?_,?_,?_⟩ <;> simp[World.cell?,h]
theorem PAt.kept{w w':World}{a:Nat}{p:PV}(h:PAt w a p)(c:w'.heap[a]?=w.heap[a]?):PAt w' a p:=c.trans h
theorem PAt.grown{w w':World}{a:Nat}{p:PV}{r:Option Nat}(h:PAt w a p)(c:w.grownBy w' r)(d:some a≠r):PAt w' a p:=(c.block a h.lt d).trans h
theorem PAt.setNm{w:World}{a:Nat}{p:PV}(h:PAt w a p)(x:BA):PAt (w.setCell ⟨a,3,none⟩ (.string x)) a { p with nm:=x }:=by
 unfold PAt at h ⊢;simp only[World.setCell,Ybn,h,if_true,Ybf];rfl
theorem PAt.setConds{w:World}{a:Nat}{p:PV}(h:PAt w a p)(x:Option Addr)(n c:Nat):PAt (w.setCell ⟨a,4,none⟩ (.slice x n c)) a { p with ca:=x,cn:=n,cc:=c }:=by
 unfold PAt at h ⊢;simp only[World.setCell,Ybn,h,if_true,Ybf];rfl
theorem PAt.setBy{w:World}{a:Nat}{p:PV}(h:PAt w a p)(x:Option Addr)(n c:Nat):PAt (w.setCell ⟨a,5,none⟩ (.slice x n c)) a { p with ba:=x,bn:=n,bc:=c }:=by
 unfold PAt at h ⊢;simp only[World.setCell,Ybn,h,if_true,Ybf];rfl
theorem PAt.setA{w:World}{a:Nat}{p:PV}(h:PAt w a p)(x:Int):PAt (w.setCell ⟨a,6,none⟩ (Vi x)) a { p with a:=x }:=by
 unfold PAt at h ⊢;simp only[World.setCell,Ybn,h,if_true,Ybf];rfl
def ZJV(w:World)(a:Nat)(p:PV):World:=(((((((w.setCell ⟨a,0,none⟩ (Vi p.k)).setCell ⟨a,1,none⟩ (Vi p.n)).setCell ⟨a,2,none⟩ (Vi p.op)).setCell ⟨a,3,none⟩ (.string p.nm)).setCell ⟨a,4,none⟩ (.slice p.ca p.cn p.cc)).setCell ⟨a,5,none⟩ (.slice p.ba p.bn p.bc)).setCell ⟨a,6,none⟩ (Vi p.a)).setCell ⟨a,7,none⟩ (Vi p.b)
theorem PAt.setK{w:World}{a:Nat}{p:PV}(h:PAt w a p)(x:Int):PAt (w.setCell ⟨a,0,none⟩ (Vi x)) a { p with k:=x }:=by
 unfold PAt at h ⊢;simp only[World.setCell,Ybn,h,if_true,Ybf];rfl
theorem PAt.setN{w:World}{a:Nat}{p:PV}(h:PAt w a p)(x:Int):PAt (w.setCell ⟨a,1,none⟩ (Vi x)) a { p with n:=x }:=by
 unfold PAt at h ⊢;simp only[World.setCell,Ybn,h,if_true,Ybf];rfl
theorem PAt.setOp{w:World}{a:Nat}{p:PV}(h:PAt w a p)(x:Int):PAt (w.setCell ⟨a,2,none⟩ (Vi x)) a { p with op:=x }:=by
 unfold PAt at h ⊢;simp only[World.setCell,Ybn,h,if_true,Ybf];rfl
theorem PAt.setB{w:World}{a:Nat}{p:PV}(h:PAt w a p)(x:Int):PAt (w.setCell ⟨a,7,none⟩ (Vi x)) a { p with b:=x }:=by
 unfold PAt at h ⊢;simp only[World.setCell,Ybn,h,if_true,Ybf];rfl
theorem ZKT{w:World}{a:Nat}{p0:PV}(h:PAt w a p0){p:PV}:PAt (ZJV w a p) a p:=
 PAt.setB (PAt.setA (PAt.setBy (PAt.setConds (PAt.setNm (PAt.setOp (PAt.setN (PAt.setK h p.k) p.n) p.op) p.nm) p.ca p.cn p.cc) p.ba p.bn p.bc) p.a) p.b
theorem ZKx(w:World)(a:Nat)(p:PV)(k:Nat)(c:k≠a):(ZJV w a p).heap[k]?=w.heap[k]?:=by
 unfold ZJV;rw[Go.Deep.blk_setCell_other _ _ _ _ (show k≠a from c),Go.Deep.blk_setCell_other _ _ _ _ (show k≠a from c),Go.Deep.blk_setCell_other _ _ _ _ (show k≠a from c),Go.Deep.blk_setCell_other _ _ _ _ (show k≠a from c),Go.Deep.blk_setCell_other _ _ _ _ (show k≠a from c),Go.Deep.blk_setCell_other _ _ _ _ (show k≠a from c),Go.Deep.blk_setCell_other _ _ _ _ (show k≠a from c),Go.Deep.blk_setCell_other _ _ _ _ (show k≠a from c)]
theorem ZKU{w0 w:World}{b a:Nat}(h:w0.grownBy w (some b))(c:w0.heap.size<=a)(p:PV):w0.grownBy (ZJV w a p) (some b):=by
 unfold ZJV;exact ZA (ZA (ZA (ZA (ZA (ZA (ZA (ZA h (Or.inr c)) (Or.inr c)) (Or.inr c)) (Or.inr c)) (Or.inr c)) (Or.inr c)) (Or.inr c)) (Or.inr c)
structure PTok where
 kd:Nat
 at_:Nat
 tx:BA
 v:Nat
def ZbC:List PTok->List Value
 | []=>[]
 | t::l=>.int .i64 t.kd::.int .i64 t.at_::.string t.tx::.int .i64 t.v::ZbC l
theorem Zer(l m:List PTok):ZbC (l++m)=ZbC l++ZbC m:=by
 induction l with
 | nil=>rfl
 | cons a l ih=>simp[ZbC,ih]
theorem Zwj (l : List PTok) (j : Nat) : (ZbC l)[j * 4]? = l[j]?.map (fun t => Vi t.kd) /\ (ZbC l)[j * 4 + 1]? = l[j]?.map (fun t => Vi t.at_) /\ (ZbC l)[j * 4 + 2]? = l[j]?.map (fun t => .string t.tx) /\ (ZbC l)[j * 4 + 3]? = l[j]?.map (fun t => Vi t.v) := by
  induction l generalizing j with
  | nil=>simp[ZbC]
  | cons r l ih=>
    cases j with
    | zero=>simp[ZbC]
    | succ j=>
      obtain⟨a,c,d,e⟩:=ih j;refine⟨?_,?_,?_,?_⟩
      · rw[show(j+1)*4=j*4+1+1+1+1 by omega];simpa [ZbC] using a
      · rw[show(j+1)*4+1=j*4+1+1+1+1+1 by omega];simpa [ZbC] using c
      · rw[show(j+1)*4+2=j*4+2+1+1+1+1 by omega];simpa [ZbC] using d
      · rw[show(j+1)*4+3=j*4+3+1+1+1+1 by omega];simpa [ZbC] using e
def pk(k:Nat):Nat:=if k=0 then 4 else if k=1 then 0 else if k=2 then 1 else if k=3 then 2 else if k=4 then 3 else 5
def Zdf(p:PTok)(t:Tok):Prop:=p.kd=pk t.jx/\p.at_=t.at_/\bl p.tx=t.txt/\(t.jx=1->(p.v:Int)=numV t.txt)
structure RD (w:World) (b g cp:Nat) (ps:List PTok) (k:Nat):Prop where
 cells:w.heap[b]?=some (.cells #[.slice (some ⟨g,0,none⟩) ps.length cp,Vi k] 82 (0,0))
 own:w.ownsRow 0 87 4 (.slice (some ⟨g,0,none⟩) ps.length cp) ps.length (ZbC ps)
 lt:k<ps.length
theorem RD.below{w w':World}{b g cp:Nat}{ps:List PTok}{k:Nat}(h:RD w b g cp ps k)(a:BW w w'):RD w' b g cp ps k:=
 ⟨(a.block b (Yae.1 h.cells).1).trans h.cells,Zn h.own a,h.lt⟩
theorem RD.all{w:World}{b g cp:Nat}{ps:List PTok}{k:Nat}(h:RD w b g cp ps k) :
  w.cell? ⟨b,0,none⟩=some (.slice (some ⟨g,0,none⟩) ps.length cp)/\w.cell? ⟨b,1,none⟩=some (Vi k)/\w.frozen? ⟨b,1,none⟩=false/\b<w.heap.size/\g<w.heap.size/\
  w.cell? ⟨g,k*4,none⟩=some (Vi (ps[k]'h.lt).kd)/\w.cell? ⟨g,k*4+1,none⟩=some (Vi (ps[k]'h.lt).at_)/\w.cell? ⟨g,k*4+2,none⟩=some (.string (ps[k]'h.lt).tx)/\w.cell? ⟨g,k*4+3,none⟩=some (Vi (ps[k]'h.lt).v):=by
 obtain⟨f1,f2,f3,f4⟩:=Zwj ps k;rw[List.getElem?_eq_getElem h.lt]at f1 f2 f3 f4;refine⟨by simp[World.cell?,h.cells],by simp[World.cell?,h.cells],by simp[World.frozen?,h.cells],(Yae.1 h.cells).1,Z1 h.own,Zi h.own _ _ f1,Zi h.own _ _ f2,Zi h.own _ _ f3,Zi h.own _ _ f4⟩
theorem ZiF{w:World}{b g cp:Nat}{ps:List PTok}{k:Nat}(h:RD w b g cp ps k) :
  CP 33 #[Vp b] w fun e u=>e=.returned (.agg #[Vi (ps[k]'h.lt).kd,Vi (ps[k]'h.lt).at_,.string (ps[k]'h.lt).tx,Vi (ps[k]'h.lt).v])/\BW w u:=by
 obtain⟨c0,c1,_,a,c,d0,d1,d2,d3⟩:=h.all;have d:=h.lt;generalize ps[k]'h.lt=t at *
 obtain⟨kd,at_,tx,v⟩:=t;simp only at d0 d1 d2 d3 ⊢;generalize ps.length=n at *
 clear h;go_enter func33,ntmps33;go_wp2
 go_region
 all_goals
  go_wp2;exact bodyPost_ret (v:=.agg #[Vi kd,Vi at_,.string tx,Vi v]) (by simp[results,results33,go_sem]) rfl ⟨rfl,belB⟩
theorem ZlS(t:PTok)(s:BA)(w:World) :
  CP 110 #[.agg #[Vi t.kd,Vi t.at_,.string t.tx,Vi t.v],.string s] w fun e u=>e=.returned (.bool (((t.kd:Int) == 3) && (t.tx.toList == s.toList)))/\BW w u:=by
 obtain⟨kd,at_,tx,v⟩:=t;simp only;generalize a:((kd:Int) == 3)=x;cases x
 ·go_enter func110,ntmps110;go_wp2;go_ret;exact⟨rfl,belB⟩
 ·go_enter func110,ntmps110;go_wp2;go_ret;exact⟨rfl,belB⟩
theorem Zp0(t:PTok)(s:BA)(w:World) :
  CP 117 #[.agg #[Vi t.kd,Vi t.at_,.string t.tx,Vi t.v],.string s] w fun e u=>e=.returned (.bool (((t.kd:Int) == 1) && (t.tx.toList == s.toList)))/\BW w u:=by
 obtain⟨kd,at_,tx,v⟩:=t;simp only;generalize a:((kd:Int) == 1)=x;cases x
 ·go_enter func117,ntmps117;go_wp2;go_ret;exact⟨rfl,belB⟩
 ·go_enter func117,ntmps117;go_wp2;go_ret;exact⟨rfl,belB⟩
def ZM(w:World)(v:Value)(at_:Int)(what:Addr):Prop:=∃fa:Nat,v=.iface 94 (Vp fa)/\w.heap[fa]?=some (.cells #[.string ⟨#[98,121,116,101]⟩,Vi at_,.iface 389 (.pointer (some what))] 98 (0,0))
theorem ZM.below{w w':World}{v:Value}{at_:Int}{what:Addr}(h:ZM w v at_ what)(c:BW w w'):ZM w' v at_ what:=by
 obtain⟨fa,d,a⟩:=h;exact⟨fa,d,(c.block fa (Yae.1 a).1).trans a⟩
theorem ZkT{i:Int}{what:Value}{w:World} :
  CP 68 #[Vi i,.iface 389 what] w fun e u=>e=.returned (.iface 94 (Vp w.heap.size))/\u=w.alloc (.cells #[.string ⟨#[98,121,116,101]⟩,Vi i,.iface 389 what] 98):=by
 go_enter func68,ntmps68;go_wp2;go_ret;exact⟨rfl,rfl⟩
theorem ZiZ{w:World}{b g cp:Nat}{ps:List PTok}{k:Nat}(h:RD w b g cp ps k){sy:Addr}(d:w.cell? ⟨1,0,none⟩=some (.iface 389 (.pointer (some sy)))) :
  CP 34 #[Vp b] w fun e u=>∃v,e=.returned v/\Hid (ZM u v (ps[k]'h.lt).at_ sy)/\BW w u:=by
 have H:Hid (RD w b g cp ps k):=h;have j:Hid (RD w.drew b g cp ps k):=RD.below h ((Yaf _ _).drew);have i:1<w.heap.size:=Yai _ _ d;obtain⟨t,f⟩:∃t,t=ps[k]'h.lt:=⟨_,rfl⟩
 have l:Hid (∀m:k<ps.length,ps[k]'m=t):=fun _=>f.symm;rw[<-f];clear f h;have o:∀W:World,(Instr.field 87 (.agg #[Vi t.kd,Vi t.at_,.string t.tx,Vi t.v]) 1).run prog W=.ok (Vi t.at_) W:=fun _=>rfl;go_enter func34,ntmps34;go_wp2
 go_region_with (first
   | (go_at_call 33
      refine(ZiF j.out).mono ?_;rintro e y ⟨rfl,a⟩;rw[l.out];have c:Hid (BW w y):=⟨a.os,a.tape,a.output,a.size,a.block⟩
      have n:y.cell? ⟨1,0,none⟩=some (.iface 389 (.pointer (some sy))):=(c.cell (p:=⟨_,0,none⟩) i).trans d;clear a)
   | (go_at_call 68
      refine(ZkT).mono ?_;rintro e z ⟨rfl,rfl⟩))
 all_goals
  go_wp2;go_ret;exact⟨_,rfl,⟨y.heap.size,rfl,Go.Deep.blk_alloc_new _ _⟩,c.alloc c.size _⟩
def ZJo:List (BA×BA×Bool)->List Value
 | []=>[]
 | (a,b,c)::l=>.string a::.string b::.bool c::ZJo l
def blC(c:BA×BA×Bool):LB×LB×Bool:=(bl c.1,bl c.2.1,c.2.2)
theorem ZKo(l m:List (BA×BA×Bool)):ZJo (l++m)=ZJo l++ZJo m:=by
 induction l with
 | nil=>rfl
 | cons a l ih=>obtain⟨x,y,z⟩:=a;simp[ZJo,ih]
theorem Zjr{k:Nat}{ts:List Tok}{z:LB×List Tok}(a:k≠0)(h:ZH k ts=.ok z):z.2.length+1=ts.length/\z.1=(hd ts).txt/\z.2=ts.tail:=by
 unfold ZH at h;split at h
 ·rename_i e;injection h with h;subst h;cases ts with
  | nil=>exact absurd e.symm a
  | cons t r=>exact⟨rfl,rfl,rfl⟩
 ·cases h
theorem ZeB{c:LB}{ts:List Tok}{z:Unit×List Tok}(h:Zq c ts=.ok z):z.2.length+1=ts.length:=by
 unfold Zq at h;split at h
 ·rename_i e;injection h with h;subst h;cases ts with
  | nil=>exact absurd (Or.inl rfl) (Zib e)
  | cons t r=>rfl
 ·cases h
theorem Zxj{c:LB}{ts:List Tok}(e:isT c (hd ts)=true):ts.tail.length+1=ts.length:=by
 cases ts with
 | nil=>exact absurd (Or.inl rfl) (Zib e)
 | cons t r=>rfl
def ZJu{α β:Type}(item:List Tok->Out α)(close:LB)(f:β->α)(N:Nat)(ts0:List Tok)(qs:List β)(rr:Out Unit):Prop:=
 (∀e,rr=.error e->ZS item close N [] ts0=.error e)/\(∀ts,rr=.ok ((),ts)->∃m,ZS item close N [] ts0=ZS item close m (qs.map f) ts/\ts.length+1<=m/\qs.length+ts.length<=ts0.length)/\qs.length<=ts0.length+1
theorem ZJu.start{α β:Type}(item:List Tok->Out α)(close:LB)(f:β->α)(N:Nat)(ts0:List Tok)(a:ts0.length+1<=N):ZJu item close f N ts0 [] (.ok ((),ts0)):=
 ⟨fun e h=>(by cases h),fun ts h=>by injection h with h;injection h with _ h;subst h;exact⟨N,rfl,a,by simp⟩,by simp⟩
theorem ZJu.round{α β:Type}{item:List Tok->Out α}{close:LB}{f:β->α}{N:Nat}{ts0 ts:List Tok}{qs:List β}{x:β}{r1 r4:Out Unit}(h:ZJu item close f N ts0 qs (.ok ((),ts)))(o:isT close (hd ts)=false)
  (g:(if qs.isEmpty then .ok ((),ts)else Zq [44] ts)=r1) (p:r4=bnd r1 fun _ t=>ZJm (item t)) (q:∀t z,r1=.ok ((),t)->item t=.ok z->f x=z.1) (s:∀t z,item t=.ok z->z.2.length+1<=t.length):ZJu item close f N ts0 (qs++[x]) r4:=by
 obtain⟨m,u,A,B⟩:=h.2.1 ts rfl;obtain⟨k,rfl⟩:∃k,m=k+1:=⟨m - 1,by omega⟩
 have d : ZS item close N [] ts0 = bnd r1 fun _ r => bnd (item r) fun a r => ZS item close k (qs.map f ++ [a]) r := by
   rw[u];show(if isT close (hd ts)then _ else _)=_;rw[o,<-g];have:(qs.map f).isEmpty=qs.isEmpty:=by cases qs <;> rfl
   rw[this];rfl
 have l:∀t,r1=.ok ((),t)->t.length<=ts.length:=by
  intro t v;rw[v]at g;split at g
  ·injection g with g;injection g with _ g;subst g;exact Yac _
  ·have:=ZeB g;simp at this;omega
 subst p;refine⟨?_,?_,?_⟩
 ·intro e c;cases i:r1 with
  | error y=>rw[i]at c d;injection c with c;rw[d,c];rfl
  | ok y=>
   obtain⟨⟨⟩,t⟩:=y;rw[i]at c d;cases j:item t with
   | error y=>rw[d];simp only[bnd,ZJm,j]at c ⊢;injection c with c;rw[c]
   | ok y=>simp[bnd,ZJm,j]at c
 ·intro t4 c;cases i:r1 with
  | error y=>rw[i]at c;simp[bnd]at c
  | ok y=>
   obtain⟨⟨⟩,t⟩:=y;have C:=l t i;have n:=fun z=>q t z i;rw[i]at c d;cases j:item t with
   | error y=>simp[bnd,ZJm,j]at c
   | ok y=>
    have w:=n y j;have D:=s t y j;simp only[bnd,ZJm,j]at c d;injection c with c;injection c with _ c;subst c;exact⟨k,by rw[d,Yaq,<-w];rfl,by omega,by simp;omega⟩
 ·simp;omega
theorem ZJu.done{α β:Type}{item:List Tok->Out α}{close:LB}{f:β->α}{N:Nat}{ts0:List Tok}{qs:List β}{rr:Out Unit}(h:ZJu item close f N ts0 qs rr)(hd:isR close rr=true∨∃e,rr=.error e) :
  ZJm (ZS item close N [] ts0)=(bnd rr fun _ ts=>Zq close ts)/\∀z,ZS item close N [] ts0=.ok z->qs.map f=z.1:=by
 cases rr with
 | error e=>rw[h.1 e rfl];exact⟨rfl,fun z a=>(by cases a)⟩
 | ok y=>
  obtain⟨⟨⟩,ts⟩:=y;rcases hd with hd|⟨e,hd⟩
  ·obtain⟨m,d,g,i⟩:=h.2.1 ts rfl;obtain⟨k,rfl⟩:∃k,m=k+1:=⟨m - 1,by omega⟩
   have c:isT close (LS.hd ts)=true:=hd
   have e1:ZS item close (k+1) (qs.map f) ts=.ok (qs.map f,ts.tail):=by
    show(if isT close (LS.hd ts)then _ else _)=_;rw[c];rfl
   rw[d,e1];refine⟨?_,fun z a=>by injection a with a;subst a;rfl⟩;show _=Zq close ts;unfold Zq;rw[c];rfl
  ·cases hd
theorem Zos(t:List Tok)(z:(LB×LB×Bool)×List Tok)(h:ZV t=.ok z):z.2.length+1<=t.length:=by
 unfold ZV at h;cases d:ZH 2 t with
 | error e=>rw[d]at h;cases h
 | ok y=>
  have l1:=(Zjr Dc d).1;rw[d]at h;simp only[bnd]at h;cases a:Zdc y.2 with
  | error e=>rw[a]at h;cases h
  | ok u=>
   have l2:u.2.length<=y.2.length:=by
    unfold Zdc at a;split at a
    ·injection a with a;subst a;simp
    ·cases c:Zq [61] y.2 with
     | error e=>rw[c]at a;cases a
     | ok q=>rw[c]at a;injection a with a;subst a;have:=ZeB c;show q.2.length<=_;omega
   rw[a]at h;simp only at h;cases c:ZH 3 u.2 with
   | error e=>rw[c]at h;cases h
   | ok q=>
    have l3:=(Zjr Dc c).1;rw[c]at h;injection h with h;subst h;show q.2.length+1<=_;omega
theorem ZKk {r1 : Out Unit} {x1 x2 : BA} {v : Bool} (f : isR [33, 61] (bnd r1 fun _ t => ZJm (ZH 2 t)) = v) {r3 : Out Unit}
    (g:r3=if v then (bnd (bnd r1 fun _ t=>ZJm (ZH 2 t)) fun _ ts=>.ok ((),ts.tail))else bnd (bnd r1 fun _ t=>ZJm (ZH 2 t)) fun _ ts=>Zq [61] ts)
    (m:∀y,r1=.ok y->∀z,ZH 2 y.2=.ok z->bl x1=z.1) (o:∀y,r3=.ok y->∀z,ZH 3 y.2=.ok z->bl x2=z.1) :
    (bnd r3 fun _ t=>ZJm (ZH 3 t))=(bnd r1 fun _ t=>ZJm (ZV t))/\∀t z,r1=.ok ((),t)->ZV t=.ok z->blC (x1,x2,v)=z.1:=by
  cases r1 with
  | error e=>
    have:v=false:=f.symm;subst this;subst g;exact⟨rfl,fun t z h=>(by cases h)⟩
  | ok y=>
    obtain⟨⟨⟩,t⟩:=y;cases d:ZH 2 t with
    | error e=>
      simp only[bnd,ZJm,d]at f g;have:v=false:=f.symm;subst this;subst g;refine⟨by simp[bnd,ZJm,ZV,d],fun t2 z h c=>?_⟩;injection h with h;injection h with _ h;subst h;simp[ZV,d,bnd]at c
    | ok y=>
      have j:=m _ rfl _ d;simp only[bnd,ZJm,d]at f g;have p:isT [33,61] (hd y.2)=v:=f
      have w : Zdc y.2 = bnd r3 fun _ t => .ok (v, t) := by
        unfold Zdc;rw[p,g];cases v
        · rfl
        · rfl
      have s : ZV t = bnd r3 fun _ r => bnd (ZH 3 r) fun b r => .ok ((y.1, b, v), r) := by
        unfold ZV;rw[d];show(bnd (Zdc y.2) fun n r=>bnd (ZH 3 r) fun b r=>.ok ((y.1,b,n),r))=_;rw[w];cases r3 with
        | error e=>rfl
        | ok u=>rfl
      refine⟨?_,fun t2 z h c=>?_⟩
      · show _=ZJm (ZV t)
        rw[s];cases r3 with
        | error e=>rfl
        | ok u=>
          show ZJm (ZH 3 u.2)=ZJm (bnd (ZH 3 u.2) fun b r=>.ok ((y.1,b,v),r));cases ZH 3 u.2 with
          | error e=>rfl
          | ok q=>rfl
      · injection h with h;injection h with _ h;subst h
        rw[s]at c;cases i:r3 with
        | error e=>rw[i]at c;cases c
        | ok u=>
          rw[i]at c;have a:(bnd (ZH 3 u.2) fun b r=>(.ok ((y.1,b,v),r):Out (LB×LB×Bool)))=.ok z:=c;cases k:ZH 3 u.2 with
          | error e=>rw[k]at a;cases a
          | ok q=>
            have l:=o u i _ k;rw[k]at a;injection a with a;subst a;show(bl x1,bl x2,v)=(y.1,q.1,v)
            rw[j,l]
end Go.Proofs.YtpbemaaghbbocaaGreatDoor

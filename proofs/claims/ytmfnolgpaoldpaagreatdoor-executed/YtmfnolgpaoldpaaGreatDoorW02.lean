/- Parts. -/
import Derived.Test.YtmfnolgpaoldpaaGreatDoorW01
import Derived.Deep.RegionLaw
set_option linter.all false
set_option maxRecDepth 100000
set_option maxHeartbeats 16000000
namespace Go.Proofs.YtmfnolgpaoldpaaGreatDoor
open Go.RowKit LS Go.Proofs.Tryz
theorem vV{P:Program}{w:World}{t ty:TypeId}{base:Nat}(e:TypeId)(i:TypeInfo)(z:Value){size bytes:Nat}(p:P.underlying t=some (.slice e))(q:P.info? e=some i)(F:i.zero=some z)(r:i.size=size)(G:i.bytes=bytes)(H:z.cells.size=size)(J:0<size)
 (v:Value)(n:Nat)(xs:List Value)(d:w.ownsRow base e size v n xs)
 (ad:Addr)(m c:Nat)(news:List Value)(s:news.length=m*size)(x:∀j u,news[j]?=some u->w.cell? (ad.add j)=some u)(o:∀u∈news,u.oneCell'=true)
 (b1:n+m<=maxLen)(b2:(n+m)*bytes<=140737488355328){v':Value}{w':World}(f:(Builtin.append_ #[t,t] ty #[v,.slice (some ad) m c]).run P w=.ok v' w'):
 v'.ownBlock=v.ownBlock∨∀k,v'.ownBlock=some k->w.heap.size<=k:=by
 have l:=λg L=>@World.ownsRow.cells w _ e _ v n _ d g L;have A:=d.1;rcases d.2 with⟨rfl,rfl⟩|⟨g,cap,cur,rfl,T,M,Q,R,K,S⟩
 .right;obtain rfl:xs=[]:=Qr X;obtain⟨v2,O,a,r1,_⟩:=run_append_own (P:=P) w w.heap.size t ty e i z size bytes p q F r G H J S0 0 [] (Xm w _ e size) ad m c news s x o b1 b2<|Yj _;rw[f]at a;injection a with e1 e2;subst e1;exact λk B=>(r1.lt k B).1
 .by_cases h:n+m<=cap
  .left;have D:n*i.size+news.length<=cur.size:=by rw[r,s,K,<-Nat.add_mul];exact MY _ h
   have a:=run_append_room w t ty e i p q g n _ _ M _ m c _ (by simp_all) x o h D;rw[f]at a;injection a with e1 e2;subst e1;rfl
  .right;obtain⟨v2,O,a,r1,_⟩:=run_append_arg_grows (P:=P) w t ty e i z size bytes p q F r G H J ⟨g,0,none⟩ n cap xs A (l g C) ad m c news s x X b1 b2;rw[f]at a;injection a with e1 e2;subst e1;exact λk B=>(r1.lt k B).1
theorem S3{P:Program}{ops:Array Oper}{o:Oper}{a:Act}{w:World}{K:Act->World->Prop}{Q:Exit->Act->World->Prop}{E:Prop}
 (L:o.guard=none)(s x:Operand)(t:TypeId)(p:o.op=Op.call {callee:=Callee.builtin Builtin.append,args:=#[s,x],argTypes:=#[t,t]})
 (base:Nat)(e:TypeId)(i:TypeInfo)(z:Value)(size bytes:Nat)(q:P.underlying t=some (.slice e))(r:P.info? e=some i)(A:i.zero=some z)(B:i.size=size)(D:i.bytes=bytes)(F:z.cells.size=size)(G:0<size)
 (v:Value)(n:Nat)(xs:List Value)(M:a.eval s=v)(d:w.ownsRow base e size v n xs)
 (ad:Addr)(m c:Nat)(news:List Value)(O:a.eval x=.slice (some ad) m c)(H:news.length=m*size)(J:∀j u,news[j]?=some u->w.cell? (ad.add j)=some u)(l:∀u∈news,u.oneCell'=true)
 (b1:n+m<=maxLen)(b2:(n+m)*bytes<=140737488355328)(g:base<=w.heap.size)
 (R:∀v' h,h.ownsRow base e size v' (n+m) (xs++news)->w.grownBy h v.ownBlock->(v'.ownBlock=v.ownBlock∨∀k,v'.ownBlock=some k->w.heap.size<=k)->K (a.put o.dst v') h):
 if Region.wanted o (yielded ops a.tmps)=true then Oper.wp P o a w K Q else E:=by
 have S:Region.wanted o (yielded ops a.tmps)=true:=by simp[Region.wanted,L]
 rw[Ye S];obtain⟨v',h,f,r1,r2,_⟩:=run_append_own (P:=P) w base t o.type e i z size bytes q r A B D F G v n xs d ad m c news H J l b1 b2 g;have r3:=vV e i z q r A B D F G v n _ d _ m c _ H J l b1 b2 f;unfold Oper.wp;simp[execOp,p,resolve,invoke,builtin,M,O,f,Result.andThen];exact R _ _ r1 r2 r3
structure Yw (b:Nat)(pv:Value)(w:World)(pv':Value)(w':World):Prop where
 os:w'.os=w.os
 tape:w'.tape=w.tape
 output:w'.output=w.output
 size:w.heap.size<=w'.heap.size
 block:∀k,k<w.heap.size->k≠b->some k≠pv.ownBlock->w'.heap[k]?=w.heap[k]?
 own:pv'.ownBlock=pv.ownBlock∨∀k,pv'.ownBlock=some k->w.heap.size<=k
theorem Yw.refl(b:Nat)(pv:Value)(w:World):Yw b pv w pv w:=⟨C,C,C,Yj _,λ_ _ _ _=>C,.inl C⟩
theorem Yw.trans{b:Nat}{p1 p2 p3:Value}{d z f:World}(h:Yw b p1 d p2 z)(a:Yw b p2 z p3 f):Yw b p1 d p3 f:=by
 refine⟨a.os.trans h.os,a.tape.trans h.tape,a.output.trans h.output,Xb h.size a.size,?_,?_⟩
 .intro k c g i;refine(a.block k (WH c h.size) g ?_).trans<|h.block k c g i;rcases h.own with e|e
  .rw[e];exact i
  .intro e2;have:=e k e2.symm;omega
 .rcases a.own with e|e
  .rw[e];exact h.own
  .exact .inr λk c=>Xb h.size<|e k c
theorem Yw.grown{b:Nat}{p1 p2:Value}{c z d:World}(h:Yw b p1 c p2 z)(a:z.grownBy d<|some b):Yw b p1 c p2 d:=
 h.trans ⟨a.os,a.tape,a.output,a.size,λk f g _=>a.block k f λe=>g<|Uc e,.inl C⟩
theorem Tryz.infoPart:(Tryz.prog.info? 59).map (λi=>(i.zero,i.size,i.bytes))=some (some<|.agg #[E 0,E 0,E 0,.string ByteArray.empty,S0,S0,E 0,E 0],8,104):=Kr
theorem th{W:World}{a:Nat}{x0 x1 x2 x3 x4 x5 x6 x7:Value}{t:TypeId}{fr:Nat×Nat}(h:W.heap[a]?=some (.cells #[x0,x1,x2,x3,x4,x5,x6,x7] t fr)):∀j x,[x0,x1,x2,x3,x4,x5,x6,x7][j]?=some x->W.cell? ((⟨a,0,none⟩:Addr).add j)=some x:=by
 intro j x c;rw[QJ];simp only[World.cell?,h];simpa using c
theorem YN.grownBy{w w':World}{b:Nat}{q:QV}{r:Option Nat}(h:YN w b q)(c:w.grownBy w' r)(a:some b≠r):YN w' b q:=(c.block b h.lt a).trans h
structure PV where
 k:Int
 n:Int
 op:Int
 nm:BA
 ca:Option Addr
 cn:Nat
 cc:Nat
 ba:Option Addr
 bn:Nat
 bc:Nat
 a:Int
 b:Int
def PV.cells(p:PV):List Value:=[E p.k,E p.n,E p.op,.string p.nm,.slice p.ca p.cn p.cc,.slice p.ba p.bn p.bc,E p.a,E p.b]
theorem Aj(w:World)(b:Nat)(q:QV)(h:YN w b q)(n:Nat){xs:List Value}(g:w.ownsRow 0 59 8 q.pv n xs)(V:n<=6000)(p:PV):
 CP 186 #[Vp b,.agg #[E p.k,E p.n,E p.op,.string p.nm,.slice p.ca p.cn p.cc,.slice p.ba p.bn p.bc,E p.a,E p.b]] w λr v=>
  ∃pv',r=.returned (E n)/\YN v b {q with pv:=pv'}/\v.ownsRow 0 59 8 pv' (n+1) (xs++p.cells)/\Yw b q.pv w pv' v:=by
 obtain⟨i0,Q,A,B,D⟩:=Xv Tryz.infoPart;obtain⟨c0,c1,c2,c3,c4,c5,c6,c7,c8⟩:=h.all;have U:=h.lt;have H:=I h;obtain⟨k,pn,op,nm,ca,cn,cc,ba,bn,bc,pa,pb⟩:=p;obtain⟨av,cp,i⟩:=Zd g;have d:w.ownsRow 0 _ 8 _ n _:=i▸g;have R:=I<|ZD d h N;have x:=I i;have S:Hid<|∀(o1 o2:Obj),((w.alloc o1).alloc _).drew.ownsRow 0 _ 8 _ n _:=λo1 o2=>(d.alloc _).alloc o2;have T:Hid<|∀(o1 o2:Obj),((w.alloc _).alloc _).drew.heap[w.heap.size+1]?=some _:=λo1 o2=>by
  have:=Go.Deep.blk_alloc_new (w.alloc o1) o2;rw[Go.Deep.nblk_alloc]at this;exact this
 have F:Hid<|∀(o1 o2:Obj),YN ((w.alloc o1).alloc _).drew b q:=λo1 o2=>YN.alloc (YN.alloc h _) o2;clear h g d;rw[i]at c0;clear i;go_enter func186,ntmps186;go_wp2;go_region_law (
  refine S3 C (.tmp 9) (.tmp 11) 65 C 0 59 i0 _ 8 104 underlying65 Q A B D C N (.slice av n cp) n xs (by simp[Act.eval]) (S.out _ _) ⟨w.heap.size+1,0,none⟩ 1 1 [E k,E pn,E op,.string nm,.slice ca cn cc,.slice ba bn bc,E pa,E pb] (by simp[Act.eval]) C ?h2 ?h3 ?h4 ?h5 (Yr _) ?_;case h2=>exact th<|T.out _ _
  case h3=>intro u G;simp at G;rcases G with rfl|rfl|rfl|rfl|rfl|rfl|rfl|rfl<;>rfl
  case h4=>unfold maxLen;omega
  case h5=>omega
  intro v1 J f c hwhere1;have l:YN J b q:=YN.grownBy (F.out _ _) c R.out;obtain⟨g1,cp1,K⟩:=Zm f X;subst K;have d0:=(YN.all l).1;rw[x.out]at d0;have e0:=YN.frozen l 0);all_goals
  have o:=I l;have s:Hid<|J.ownsRow 0 59 8 (.slice (some ⟨g1,0,none⟩) (n+1) cp1) (n+1)<|xs++[E k,E pn,E op,.string nm,.slice ca cn cc,.slice ba bn bc,E pa,E pb]:=f;have L:=I c;have M:=I hwhere1;clear l f c hwhere1 c0 c1 c2 c3 c4 c5 c6 c7 c8;go_wp2;go_ret;refine⟨_,TY X,YN.set o 0 _ C,O6 s (Zn (b:=b) (Z2 _ _) (.inl C) _)<|.inr ?_,?_⟩
  .exact λe=>ZD s o N e.symm
  .have m:=L.out;have O:=m.size;rw[show((w.alloc _).alloc _).drew.heap.size=w.heap.size+1+1 from by rw[show((w.alloc _).alloc _).drew.heap.size=((w.alloc _).alloc _).heap.size from C,Go.Deep.nblk_alloc,Go.Deep.nblk_alloc]]at O;refine⟨m.os,m.tape,m.output,?_,?_,?_⟩
   .rw[Go.Deep.nblk_setCell];omega
   .intro j z P t;rw[Go.Deep.blk_setCell_other _ _ _ _<|P];rw[x]at t;refine(m.block j ?_ t).trans ?_
    .show j<((w.alloc _).alloc _).heap.size;rw[Go.Deep.nblk_alloc,Go.Deep.nblk_alloc];omega
    .show((w.alloc _).alloc _).heap[j]?=_;rw[Go.Deep.blk_alloc_lt _ _ _<|by rw[Go.Deep.nblk_alloc];omega,Go.Deep.blk_alloc_lt _ _ _ z]
   .rw[x];rcases M.out with h|h
    .exact .inl h
    .refine .inr λj z=>?_;have:=h j z;have h2:((w.alloc _).alloc _).heap.size<=j:=this;rw[Go.Deep.nblk_alloc,Go.Deep.nblk_alloc]at h2;omega
end Go.Proofs.YtmfnolgpaoldpaaGreatDoor
namespace Go.Proofs.YtmfnolgpaoldpaaGreatDoor.LS
open Go Go.RowKit
def Xk(w:LB)(l:List<|LB):Int:=match Y7 w l with
 |none=>-1
 |some i=>i
theorem rZ {w:LB}{l:List<|LB}(k:Nat)(a:k<l.length)(h:l.getD k []≠w){m:Nat}(c:Xk w l=match Y7 w<|l.drop k with|none=>-1|some i=>((i+k:Nat):Int))(d:m=k+1):
 Xk w l=match Y7 w (l.drop m)with|none=>-1|some i=>((i+m:Nat):Int):=by
  subst d;rw[c];rw[List.drop_eq_getElem_cons a];have e:l.getD k []=l[k]:=by simp[a]
  rw[e]at h;show(match(if l[k]=w then some 0 else(Y7 w<|l.drop<|k+1).map (·+1))with|none=>(-1:Int)|some i=>((i+k:Nat):Int))=_;rw[Yd h];cases Y7 w<|l.drop<|k+1with
  |none=>rfl
  |some i=>show(((i+1+k:Nat)):Int)=((i+(k+1):Nat):Int);omega
theorem rY {w:LB}{l:List<|LB}(k:Nat)(a:k<l.length)(h:l.getD k []=w)(c:Xk w l=match Y7 w<|l.drop k with|none=>-1|some i=>((i+k:Nat):Int)):Xk w l=k:=by
 rw[c,List.drop_eq_getElem_cons a];have e:l.getD k []=l[k]:=by simp[a]
 rw[e]at h;show(match(if l[k]=w then some 0 else(Y7 w<|l.drop<|k+1).map (·+1))with|none=>(-1:Int)|some i=>((i+k:Nat):Int))=_;rw[Ye h];show((0+k:Nat):Int)=k;omega
theorem rX {w:LB}{l:List<|LB}(k:Nat)(c:¬k<l.length)(a:Xk w l=match Y7 w<|l.drop k with|none=>-1|some i=>((i+k:Nat):Int)):Xk w l=-1:=by
 rw[a,Ts X];rfl
theorem rW{w:LB}{l:List<|LB}:Xk w l=match Y7 w<|l.drop 0with|none=>-1|some i=>((i+0:Nat):Int):=rfl
end Go.Proofs.YtmfnolgpaoldpaaGreatDoor.LS
namespace Go.Proofs.YtmfnolgpaoldpaaGreatDoor
open Go.RowKit LS Go.Proofs.Tryz
theorem Oq{s x:BA}{w:World}(A:s.size<=6000):
 CP 288 #[.string s,.string x] w λr u=>r=.returned (E<|Xk (bl x)<|split 32<|bl s)/\BW w u:=by
 go_enter func288,ntmps288;go_wp2_with fail;refine(LK s 32 C A).mono ?_;rintro e B ⟨g,n,cp,bs,rfl,q,F,G,a,l,m⟩;have D:Hid<|n=bs.length:=q;have c:(split 32<|bl s).length=n:=by rw[<-l.out,Yz,q]
 have H:n<=6001:=by have:=Qf 32<|bl s;rw[Zb]at this;omega
 clear q;have d:Hid _:=c;clear c;go_wp2;go_loop [6] (λi=>∃k:Nat,k<=n/\i=.int .i64 k/\Hid (Xk (bl x) (split 32<|bl s)=match Y7 (bl x) ((split 32<|bl s).drop k)with|none=>-1|some i=>((i+k:Nat):Int))) (λi=>n-(intOf i).toNat);case atStart=>exact⟨0,Yr _,C,rW⟩
 case round=>
  obtain⟨k,J,rfl,t⟩:=hrel;by_cases f:k<n
  .have o:k<bs.length:=by rw[<-D.out];exact f
   have p:k<(split 32<|bl s).length:=by rw[d.out];exact f
   have z:B.cell? ⟨g,k,none⟩=some (.string bs[k]):=a.out k o;have v:Hid<|bl bs[k]=(split 32<|bl s).getD k []:=Mu l.out k o;generalize bs[k]=sk at z v;cases j:(sk.toList==x.toList)
   .have h:Hid<|Xk (bl x) (split 32<|bl s)=match Y7 (bl x)<|(split 32<|bl s).drop<|k+1with|none=>-1|some i=>((i+(k+1):Nat):Int):=I<|by
      refine rZ k p ?_ t.out C;rw[<-v.out];rw[ZA,ZA]at j;exact YB.1 j
    go_wp2;go_round;case rel=>exact⟨k+1,X,by go_num,h⟩
    case measure=>simp[intOf];omega
   .have h:Hid<|Xk (bl x) (split 32<|bl s)=k:=I<|by
     refine rY k p ?_ t.out;rw[<-v.out];rw[ZA,ZA]at j;exact XL.1 j
    go_wp2;go_ret;exact⟨by rw[h.out];rfl,m⟩
  .have h:Hid<|Xk (bl x) (split 32<|bl s)=-1:=I<|rX k (by rw[d.out];exact f) t.out;go_wp2;go_ret;exact⟨by rw[h.out];rfl,m⟩
def St(w:World)(b:Nat)(pv:Value)(s:BA)(deep:Nat)(r:Yl Unit):Prop:=O2 w b pv s deep r λ_=>True
def XR(c:LB)(r:Yl Unit):Bool:=match r with
 |.error _=>false
 |.ok x=>Yk c<|hd x.2
theorem St.kept{w w':World}{b:Nat}{pv:Value}{s:BA}{deep:Nat}{r:Yl Unit}(h:St w b pv s deep r)(a:w'.heap[b]?=w.heap[b]?):St w' b pv s deep r:=by
 cases r with
 |error x=>exact Yx.kept h a
 |ok x=>exact⟨WA.kept h.1 a,trivial⟩
theorem St.lt{w:World}{b:Nat}{pv:Value}{s:BA}{deep:Nat}{r:Yl Unit}(h:St w b pv s deep r):b<w.heap.size:=by
 cases r with
 |error x=>exact Yx.lt h
 |ok x=>exact WA.lt h.1
theorem St.len{w:World}{b:Nat}{pv:Value}{s:BA}{deep:Nat}{x:Unit×List Yg}(h:St w b pv s deep<|.ok x):x.2.length<=s.size+2:=by
 obtain⟨⟨q,_,_,_,_,_,c,a⟩,_⟩:=h;have:=a.len<|by rwa [Zb]
 rwa [Zb]at this
theorem St.view{w:World}{b:Nat}{pv:Value}{s:BA}{deep:Nat}{r:Yl Unit}(h:St w b pv s deep r):
 ∃q:QV,YN w b q/\q.pv=pv/\q.deep=deep/\(∀x,r=.error x->q.e=x.1/\q.e≠0/\q.pl=x.2)/\(∀x,r=.ok x->q.e=0/\S4 q=hd x.2):=by
 cases r with
 |error x=>
  obtain⟨q,d,f,g,c,i,j⟩:=h;refine⟨q,d,f,g,?_,?_⟩
  .intro y a;injection a with a;subst a;exact⟨c,by rwa [c],j⟩
  .intro y a;cases a
 |ok x=>
  obtain⟨⟨q,d,f,g,c,i,j,k⟩,_⟩:=h;refine⟨q,d,f,c,?_,?_⟩
  .intro y a;cases a
  .intro y a;injection a with a;subst a;exact⟨i,k.hd.symm⟩
theorem St.is{w:World}{b:Nat}{pv:Value}{s:BA}{deep:Nat}{r:Yl Unit}(h:St w b pv s deep r)(c:BA):
 CP 185 #[Vp b,.string c] w λe u=>e=.returned (.bool<|XR (bl c) r)/\u=w:=by
 cases r with
 |error x=>exact Yx.is h c
 |ok x=>exact WA.is h.1 c
theorem St.take{w:World}{b:Nat}{pv:Value}{s:BA}{deep:Nat}{r:Yl Unit}(h:St w b pv s deep r)(a:s.size<=6000)(c:BA):
 CP 290 #[Vp b,.string c] w λe u=>e=.returned (.tuple #[])/\St u b pv s deep (bnd r λ_ ts=>Zf (bl c) ts)/\w.grownBy u (some b):=by
 cases r with
 |error x=>
  refine(Yx.take h c).mono ?_;rintro e u ⟨rfl,rfl⟩;exact⟨C,h,Z2 _ _⟩
 |ok x=>exact WA.take h.1 a c
theorem St.fail{w:World}{b:Nat}{pv:Value}{s:BA}{deep:Nat}{r:Yl Unit}(h:St w b pv s deep r)(c:Nat)(ci:Int)(a:ci=c)(d:c≠0):
 CP 154 #[Vp b,E ci] w λe u=>e=.returned (.tuple #[])/\St u b pv s deep (bnd r λ_ ts=>.error (c,(hd ts).at_))/\w.grownBy u (some b):=by
 cases r with
 |error x=>
  refine(Yx.fail h _).mono ?_;rintro e u ⟨rfl,rfl⟩;exact⟨C,h,Z2 _ _⟩
 |ok x=>exact WA.fail h.1 c _ a d
def Zj{α:Type}(r:Yl α):Yl Unit:=bnd r λ_ ts=>.ok ((),ts)
theorem St.jj{w:World}{b:Nat}{pv:Value}{s:BA}{deep:Nat}{r:Yl Unit}(h:St w b pv s deep r)(g:s.size<=6000)(k:Nat)(ki:Int)(f:ki=k)(i:¬(k=0∨k=5)):
 CP 292 #[Vp b,E ki] w λe u=>∃x:BA,e=.returned (.string x)/\St u b pv s deep (bnd r λ_ ts=>Zj<|Zk k ts)/\
  Hid (∀y,r=.ok y->∀z,Zk k y.2=.ok z->bl x=z.1)/\w.grownBy u (some b):=by
 cases r with
 |error x=>
  refine(Yx.jj h _).mono ?_;rintro e u ⟨rfl,rfl⟩;exact⟨⟨#[]⟩,C,h,I λy c=>(by cases c),Z2 _ _⟩
 |ok x=>
  refine(WA.jj h.1 g k _ f i).mono ?_;rintro e u ⟨tx,rfl,a,j⟩;refine⟨tx,C,?_,?_,j⟩
  .show St u b pv s deep<|Zj<|Zk k x.2;cases d:Zk k x.2 with
   |error z=>rw[d]at a;exact a
   |ok z=>rw[d]at a;exact⟨a.1,trivial⟩
  .rintro y c z l;injection c with c;subst c;rw[l]at a;exact a.2
theorem St.next{w:World}{b:Nat}{pv:Value}{s:BA}{deep:Nat}{r:Yl Unit}(h:St w b pv s deep r)(c:s.size<=6000)(a:∃ts,r=.ok ((),ts)/\¬((hd ts).jj=0∨(hd ts).jj=5)):
 CP 152 #[Vp b] w λe u=>e=.returned (.tuple #[])/\St u b pv s deep (bnd r λ_ ts=>.ok ((),ts.tail))/\w.grownBy u (some b):=by
 obtain⟨ts,rfl,a⟩:=a;refine(WA.next h.1 c a).mono ?_;rintro e u ⟨rfl,d,f⟩;exact⟨C,⟨d,trivial⟩,f⟩
theorem Dm{c:LB}{r:Yl Unit}(h:XR c r=true):∃ts,r=.ok ((),ts)/\Yk c (hd ts)=true/\¬((hd ts).jj=0∨(hd ts).jj=5):=by
 cases r with
 |error x=>cases h
 |ok x=>exact⟨x.2,C,h,QC h⟩
def Yq(w:World)(a:Nat)(p:PV):Prop:=w.heap[a]?=some (.cells #[E p.k,E p.n,E p.op,.string p.nm,.slice p.ca p.cn p.cc,.slice p.ba p.bn p.bc,E p.a,E p.b] 59 (0,0))
theorem Yq.lt{w:World}{a:Nat}{p:PV}(h:Yq w a p):a<w.heap.size:=(Xr.1 h).1
theorem Yq.frozen{w:World}{a:Nat}{p:PV}(h:Yq w a p)(o:Nat):w.frozen? ⟨a,o,none⟩=false:=by
 unfold Yq at h;simp[World.frozen?,h]
theorem Yq.all{w:World}{a:Nat}{p:PV}(h:Yq w a p):
 w.cell? ⟨a,0,none⟩=some (E p.k)/\w.cell? ⟨a,1,none⟩=some (E p.n)/\w.cell? ⟨a,2,none⟩=some (E p.op)/\w.cell? ⟨a,3,none⟩=some (.string p.nm)/\
 w.cell? ⟨a,4,none⟩=some (.slice p.ca p.cn p.cc)/\w.cell? ⟨a,5,none⟩=some (.slice p.ba p.bn p.bc)/\w.cell? ⟨a,6,none⟩=some (E p.a)/\w.cell? ⟨a,7,none⟩=some (E p.b):=by
 unfold Yq at h;refine⟨?_,?_,?_,?_,?_,?_,?_,?_⟩<;>simp[World.cell?,h]
theorem Yq.kept{w w':World}{a:Nat}{p:PV}(h:Yq w a p)(c:w'.heap[a]?=w.heap[a]?):Yq w' a p:=c.trans h
theorem Yq.grown{w w':World}{a:Nat}{p:PV}{r:Option Nat}(h:Yq w a p)(c:w.grownBy w' r)(d:some a≠r):Yq w' a p:=(c.block a h.lt d).trans h
theorem Yq.setNm{w:World}{a:Nat}{p:PV}(h:Yq w a p)(x:BA):Yq (w.setCell ⟨a,3,none⟩<|.string x) a {p with nm:=x}:=by
 unfold Yq at h⊢;simp only[World.setCell,V4,h,VE,Wr];rfl
theorem Yq.setConds{w:World}{a:Nat}{p:PV}(h:Yq w a p)(x:Option Addr)(n c:Nat):Yq (w.setCell ⟨a,4,none⟩<|.slice x n c) a {p with ca:=x,cn:=n,cc:=c}:=by
 unfold Yq at h⊢;simp only[World.setCell,V4,h,VE,Wr];rfl
theorem Yq.setBy{w:World}{a:Nat}{p:PV}(h:Yq w a p)(x:Option Addr)(n c:Nat):Yq (w.setCell ⟨a,5,none⟩<|.slice x n c) a {p with ba:=x,bn:=n,bc:=c}:=by
 unfold Yq at h⊢;simp only[World.setCell,V4,h,VE,Wr];rfl
theorem Yq.setA{w:World}{a:Nat}{p:PV}(h:Yq w a p)(x:Int):Yq (w.setCell ⟨a,6,none⟩<|E x) a {p with a:=x}:=by
 unfold Yq at h⊢;simp only[World.setCell,V4,h,VE,Wr];rfl
def Nn(w:World)(a:Nat)(p:PV):World:=(((((((w.setCell ⟨a,0,none⟩<|E p.k).setCell ⟨a,1,none⟩<|E p.n).setCell ⟨a,2,none⟩<|E p.op).setCell ⟨a,3,none⟩<|.string p.nm).setCell ⟨a,4,none⟩<|.slice p.ca p.cn p.cc).setCell ⟨a,5,none⟩<|.slice p.ba p.bn p.bc).setCell ⟨a,6,none⟩<|E p.a).setCell ⟨a,7,none⟩<|E p.b
theorem Yq.setK{w:World}{a:Nat}{p:PV}(h:Yq w a p)(x:Int):Yq (w.setCell ⟨a,0,none⟩<|E x) a {p with k:=x}:=by
 unfold Yq at h⊢;simp only[World.setCell,V4,h,VE,Wr];rfl
theorem Yq.setN{w:World}{a:Nat}{p:PV}(h:Yq w a p)(x:Int):Yq (w.setCell ⟨a,1,none⟩<|E x) a {p with n:=x}:=by
 unfold Yq at h⊢;simp only[World.setCell,V4,h,VE,Wr];rfl
theorem Yq.setOp{w:World}{a:Nat}{p:PV}(h:Yq w a p)(x:Int):Yq (w.setCell ⟨a,2,none⟩<|E x) a {p with op:=x}:=by
 unfold Yq at h⊢;simp only[World.setCell,V4,h,VE,Wr];rfl
theorem Yq.setB{w:World}{a:Nat}{p:PV}(h:Yq w a p)(x:Int):Yq (w.setCell ⟨a,7,none⟩<|E x) a {p with b:=x}:=by
 unfold Yq at h⊢;simp only[World.setCell,V4,h,VE,Wr];rfl
theorem uy{w:World}{a:Nat}{p0:PV}(h:Yq w a p0)(p:PV):Yq (Nn w a p) a p:=
 Yq.setB (Yq.setA (Yq.setBy (Yq.setConds (Yq.setNm (Yq.setOp (Yq.setN (Yq.setK h _) _) _) _) _ _ _) _ _ _) _) _
theorem GD{w:World}{a:Nat}{p:PV}(k:Nat)(c:k≠a):(Nn w a p).heap[k]?=w.heap[k]?:=by
 unfold Nn;rw[Go.Deep.blk_setCell_other _ _ _ _<|c,Go.Deep.blk_setCell_other _ _ _ _<|c,Go.Deep.blk_setCell_other _ _ _ _<|c,Go.Deep.blk_setCell_other _ _ _ _<|c,Go.Deep.blk_setCell_other _ _ _ _<|c,Go.Deep.blk_setCell_other _ _ _ _<|c,Go.Deep.blk_setCell_other _ _ _ _<|c,Go.Deep.blk_setCell_other _ _ _ _<|c]
theorem E5{w0 w:World}{b a:Nat}(h:w0.grownBy w<|some b)(c:w0.heap.size<=a){p:PV}:w0.grownBy (Nn w a p)<|some b:=by
 unfold Nn;exact Zn (Zn (Zn (Zn (Zn (Zn (Zn (Zn h (.inr c) _) (.inr c) _) (.inr c) _) (.inr c) _) (.inr c) _) (.inr c) _) (.inr c) _) (.inr c) _
structure Yu where
 kd:Nat
 at_:Nat
 tx:BA
 v:Nat
def VB:List Yu->List Value
 |[]=>[]
 |t::l=>.int .i64 t.kd::.int .i64 t.at_::.string t.tx::.int .i64 t.v::VB l
theorem Ph(l m:List Yu):VB (l++m)=VB l++VB m:=by
 induction l with
 |nil=>rfl
 |cons a l ih=>simp[VB,ih]
theorem tM (l:List Yu)(j:Nat):(VB l)[j*4]?=l[j]?.map (λt=>E t.kd)/\(VB l)[j*4+1]?=l[j]?.map (λt=>E t.at_)/\(VB l)[j*4+2]?=l[j]?.map (λt=>.string t.tx)/\(VB l)[j*4+3]?=l[j]?.map λt=>E t.v:=by
 induction l generalizing j with
 |nil=>simp[VB]
 |cons r l ih=>
  cases j with
  |zero=>simp[VB]
  |succ j=>
   obtain⟨a,c,d,e⟩:=ih j;refine⟨?_,?_,?_,?_⟩
   .rw[show(j+1)*4=j*4+1+1+1+1 by omega];simpa [VB]using a
   .rw[show(j+1)*4+1=j*4+1+1+1+1+1 by omega];simpa [VB]using c
   .rw[show(j+1)*4+2=j*4+2+1+1+1+1 by omega];simpa [VB]using d
   .rw[show(j+1)*4+3=j*4+3+1+1+1+1 by omega];simpa [VB]using e
def pk(k:Nat):Nat:=if k=0 then 4 else if k=1 then 0 else if k=2 then 1 else if k=3 then 2 else if k=4 then 3 else 5
def SO(p:Yu)(t:Yg):Prop:=p.kd=pk t.jj/\p.at_=t.at_/\bl p.tx=t.txt/\(t.jj=1->(p.v:Int)=Wz t.txt)
structure RD (w:World)(b g cp:Nat)(ps:List Yu)(k:Nat):Prop where
 cells:w.heap[b]?=some (.cells #[.slice (some ⟨g,0,none⟩) ps.length cp,E k] 384 (0,0))
 own:w.ownsRow 0 389 4 (.slice (some ⟨g,0,none⟩) ps.length cp) ps.length<|VB ps
 lt:k<ps.length
theorem RD.below{w w':World}{b g cp:Nat}{ps:List Yu}{k:Nat}(h:RD w b g cp ps k)(a:BW w w'):RD w' b g cp ps k:=
 ⟨(a.block b (Xr.1 h.cells).1).trans h.cells,Ze h.own a,h.lt⟩
theorem RD.all{w:World}{b g cp:Nat}{ps:List Yu}{k:Nat}(h:RD w b g cp ps k):
 w.cell? ⟨b,0,none⟩=some (.slice (some ⟨g,0,none⟩) ps.length cp)/\w.cell? ⟨b,1,none⟩=some (E k)/\w.frozen? ⟨b,1,none⟩=false/\b<w.heap.size/\g<w.heap.size/\
 w.cell? ⟨g,k*4,none⟩=some (E (ps[k]'h.lt).kd)/\w.cell? ⟨g,k*4+1,none⟩=some (E (ps[k]'h.lt).at_)/\w.cell? ⟨g,k*4+2,none⟩=some (.string (ps[k]'h.lt).tx)/\w.cell? ⟨g,k*4+3,none⟩=some (E (ps[k]'h.lt).v):=by
 obtain⟨f1,f2,f3,f4⟩:=tM ps k;rw[List.getElem?_eq_getElem h.lt]at f1 f2 f3 f4;refine⟨by simp[World.cell?,h.cells],by simp[World.cell?,h.cells],by simp[World.frozen?,h.cells],(Xr.1 h.cells).1,ZN h.own,Zc h.own _ _ f1,Zc h.own _ _ f2,Zc h.own _ _ f3,Zc h.own _ _ f4⟩
theorem LY{w:World}{b g cp:Nat}{ps:List Yu}{k:Nat}(h:RD w b g cp ps k):
 CP 218 #[Vp b] w λe u=>e=.returned (.agg #[E (ps[k]'h.lt).kd,E (ps[k]'h.lt).at_,.string (ps[k]'h.lt).tx,E (ps[k]'h.lt).v])/\BW w u:=by
 obtain⟨c0,c1,_,a,c,d0,d1,d2,d3⟩:=h.all;have d:=h.lt;generalize ps[k]'h.lt=t at*;obtain⟨kd,at_,tx,v⟩:=t;simp only at d0 d1 d2 d3⊢;generalize ps.length=n at*;go_enter func218,ntmps218;go_wp2;go_region;all_goals
  go_wp2;exact YQ (by simp[results,results218,go_sem]) C ⟨C,Yh⟩
theorem Ha(t:Yu)(s:BA)(w:World):
 CP 274 #[.agg #[E t.kd,E t.at_,.string t.tx,E t.v],.string s] w λe u=>e=.returned (.bool<|((t.kd:Int)==3)&&(t.tx.toList==s.toList))/\BW w u:=by
 obtain⟨kd,at_,tx,v⟩:=t;simp only;generalize a:((kd:Int)==3)=x;cases x
 .go_enter func274,ntmps274;go_wp2;go_ret;exact⟨C,Yh⟩
 .go_enter func274,ntmps274;go_wp2;go_ret;exact⟨C,Yh⟩
theorem Dq(t:Yu)(s:BA)(w:World):
 CP 281 #[.agg #[E t.kd,E t.at_,.string t.tx,E t.v],.string s] w λe u=>e=.returned (.bool<|((t.kd:Int)==1)&&(t.tx.toList==s.toList))/\BW w u:=by
 obtain⟨kd,at_,tx,v⟩:=t;simp only;generalize a:((kd:Int)==1)=x;cases x
 .go_enter func281,ntmps281;go_wp2;go_ret;exact⟨C,Yh⟩
 .go_enter func281,ntmps281;go_wp2;go_ret;exact⟨C,Yh⟩
def ZF(w:World)(v:Value)(at_:Int)(what:Addr):Prop:=∃fa:Nat,v=.iface 92 (Vp fa)/\w.heap[fa]?=some (.cells #[.string ⟨#[98,121,116,101]⟩,E at_,.iface 469<|.pointer<|some what] 96 (0,0))
theorem ZF.below{w w':World}{v:Value}{at_:Int}{what:Addr}(h:ZF w v at_ what)(c:BW w w'):ZF w' v at_ what:=by
 obtain⟨fa,d,a⟩:=h;exact⟨fa,d,(c.block _ (Xr.1 a).1).trans a⟩
theorem Gn(i:Int){what:Value}(w:World):
 CP 121 #[E i,.iface 469 what] w λe u=>e=.returned (.iface 92<|Vp w.heap.size)/\u=w.alloc (.cells #[.string ⟨#[98,121,116,101]⟩,E i,.iface 469 what] 96):=by
 go_enter func121,ntmps121;go_wp2;go_ret;exact⟨C,C⟩
theorem K5{w:World}{b g cp:Nat}{ps:List Yu}{k:Nat}(h:RD w b g cp ps k){sy:Addr}(d:w.cell? ⟨1,0,none⟩=some (.iface 469<|.pointer<|some sy)):
 CP 219 #[Vp b] w λe u=>∃v,e=.returned v/\Hid (ZF u v (ps[k]'h.lt).at_ sy)/\BW w u:=by
 have H:=I h;have l:=I<|RD.below h<|(Ym _ _).drew;have j:1<w.heap.size:=Xi _ _ d;obtain⟨t,f⟩:∃t,t=ps[k]'h.lt:=⟨_,C⟩;have m:Hid<|∀n:k<ps.length,ps[k]'n=t:=λ_=>f.symm;rw[<-f];clear f h;have q:∀W:World,(Instr.field 389 (.agg #[E t.kd,.int _ t.at_,.string t.tx,E t.v]) 1).run prog W=.ok (E _) W:=λ_=>C;go_enter func219,ntmps219;go_wp2;go_region_with (first
  | (go_at_call 218;refine(LY l.out).mono ?_;rintro e i ⟨rfl,a⟩;rw[m.out];have c:Hid<|BW w i:=⟨a.os,a.tape,a.output,a.size,a.block⟩;have o:i.cell? ⟨1,0,none⟩=some (.iface 469<|.pointer<|some sy):=(c.cell (p:=⟨_,0,none⟩) j).trans d;clear a)
  | (go_at_call 121;refine YK (Gn _ _) ?_));all_goals
  go_wp2;go_ret;exact⟨_,C,⟨i.heap.size,C,YO⟩,c.alloc c.size _⟩
def TU:List (BA×BA×Bool)->List Value
 |[]=>[]
 |(a,b,c)::l=>.string a::.string b::.bool c::TU l
def VL(c:BA×BA×Bool):LB×LB×Bool:=(bl c.1,bl c.2.1,c.2.2)
theorem sG(l m:List<|BA×BA×Bool):TU (l++m)=TU l++TU m:=by
 induction l with
 |nil=>rfl
 |cons a l ih=>obtain⟨x,y,z⟩:=a;simp[TU,ih]
theorem KH{k:Nat}{ts:List Yg}{z:LB×List Yg}(a:k≠0)(h:Zk k ts=.ok z):z.2.length+1=ts.length/\z.1=(hd ts).txt/\z.2=ts.tail:=by
 unfold Zk at h;split at h
 .rename_i e;cases h;cases ts with
  |nil=>exact absurd e.symm a
  |cons t r=>simp
 .cases h
theorem SE{c:LB}{ts:List Yg}{z:Unit×List Yg}(h:Zf c ts=.ok z):z.2.length+1=ts.length:=by
 unfold Zf at h;split at h
 .rename_i e;cases h;cases ts with
  |nil=>exact absurd (.inl C)<|QC e
  |cons t r=>rfl
 .cases h
theorem M6{c:LB}{ts:List Yg}(e:Yk c (hd ts)=true):ts.tail.length+1=ts.length:=by
 cases ts with
 |nil=>exact absurd (.inl C)<|QC e
 |cons t r=>rfl
def SL{α β:Type}(item:List Yg->Yl α)(close:LB)(f:β->α)(N:Nat)(ts0:List Yg)(qs:List β)(rr:Yl Unit):Prop:=
 (∀e,rr=.error e->ZI item close N [] ts0=.error e)/\(∀ts,rr=.ok ((),ts)->∃m,ZI item close N [] ts0=ZI item close m (qs.map f) ts/\ts.length+1<=m/\qs.length+ts.length<=ts0.length)/\qs.length<=ts0.length+1
theorem SL.start{α β:Type}(item:List Yg->Yl α)(close:LB)(f:β->α)(N:Nat)(ts0:List Yg)(a:ts0.length+1<=N):SL item close f N ts0 []<|.ok ((),ts0):=
 ⟨λe h=>(by cases h),λts h=>by injection h with h;injection h with _ h;subst h;exact⟨N,C,a,Sm⟩,Sm⟩
theorem SL.round{α β:Type}{item:List Yg->Yl α}{close:LB}{f:β->α}{N:Nat}{ts0 ts:List Yg}{qs:List β}{x:β}{r1 r4:Yl Unit}(h:SL item close f N ts0 qs<|.ok ((),ts))(o:Yk close (hd ts)=false)
 (g:(if qs.isEmpty then .ok ((),ts)else Zf [44] ts)=r1)(p:r4=bnd r1 λ_ t=>Zj<|item t)(q:∀t z,r1=.ok ((),t)->item t=.ok z->f x=z.1)(s:∀t z,item t=.ok z->z.2.length+1<=t.length):SL item close f N ts0 (qs++[x]) r4:=by
 obtain⟨m,u,A,B⟩:=h.2.1 ts C;obtain⟨k,rfl⟩:∃k,m=k+1:=⟨m-1,X⟩;have d:ZI item close N [] ts0=bnd r1 λ_ r=>bnd (item r) λa r=>ZI item close k (qs.map f++[a]) r:=by
  rw[u];show(if Yk close (hd ts)then _ else _)=_;rw[o,<-g];have:(qs.map f).isEmpty=qs.isEmpty:=by cases qs<;>rfl
  rw[this];rfl
 have l:∀t,r1=.ok ((),t)->t.length<=ts.length:=by
  intro t v;rw[v]at g;split at g
  .injection g with g;injection g with _ g;subst g;exact Yj _
  .have:=SE g;simp at this;omega
 subst p;refine⟨?_,?_,?_⟩
 .intro e c;cases i:r1 with
  |error y=>rw[i]at c d;injection c with c;rw[d,c];rfl
  |ok y=>
   obtain⟨⟨⟩,t⟩:=y;rw[i]at c d;cases j:item t with
   |error y=>rw[d];simp only[bnd,Zj,j]at c⊢;injection c with c;rw[c]
   |ok y=>simp[bnd,Zj,j]at c
 .intro t4 c;cases i:r1 with
  |error y=>rw[i]at c;simp[bnd]at c
  |ok y=>
   obtain⟨⟨⟩,t⟩:=y;have D:=l t i;have n:=λz=>q t z i;rw[i]at c d;cases j:item t with
   |error y=>simp[bnd,Zj,j]at c
   |ok y=>
    have w:=n y j;have F:=s t y j;simp only[bnd,Zj,j]at c d;injection c with c;injection c with _ c;subst c;exact⟨k,by rw[d,Y9,<-w];rfl,X,by simp;omega⟩
 .simp;omega
theorem SL.done{α β:Type}{item:List Yg->Yl α}{close:LB}{f:β->α}{N:Nat}{ts0:List Yg}{qs:List β}{rr:Yl Unit}(h:SL item close f N ts0 qs rr)(hd:XR close rr=true∨∃e,rr=.error e):
 Zj (ZI item close N [] ts0)=(bnd rr λ_ ts=>Zf close ts)/\∀z,ZI item close N [] ts0=.ok z->qs.map f=z.1:=by
 cases rr with
 |error e=>rw[h.1 e C];exact⟨C,λz a=>(by cases a)⟩
 |ok y=>
  obtain⟨⟨⟩,ts⟩:=y;rcases hd with hd|⟨e,hd⟩
  .obtain⟨m,d,g,i⟩:=h.2.1 ts C;obtain⟨k,rfl⟩:∃k,m=k+1:=⟨m-1,X⟩;have c:Yk close (LS.hd ts)=true:=hd;have e1:ZI item close (k+1) (qs.map f) ts=.ok (qs.map f,ts.tail):=by
    show(if Yk close (LS.hd ts)then _ else _)=_;rw[c];rfl
   rw[d,e1];refine⟨?_,λz a=>by injection a with a;subst a;rfl⟩;show _=Zf close ts;unfold Zf;rw[c];rfl
  .cases hd
theorem K6(t:List Yg)(z:(LB×LB×Bool)×List Yg)(h:ZK t=.ok z):z.2.length+1<=t.length:=by
 unfold ZK at h;cases d:Zk 2 t with
 |error e=>rw[d]at h;cases h
 |ok y=>
  have l1:=(KH N d).1;rw[d]at h;simp only[bnd]at h;cases a:RC y.2 with
  |error e=>simp_all
  |ok u=>
   have l2:u.2.length<=y.2.length:=by
    unfold RC at a;split at a
    .cases a;simp
    .cases c:Zf [61] y.2 with
     |error e=>rw[c]at a;cases a
     |ok q=>rw[c]at a;cases a;have:=SE c;simp_all;omega
   rw[a]at h;simp only at h;cases c:Zk 3 u.2 with
   |error e=>simp_all
   |ok q=>
    have l3:=(KH N c).1;rw[c]at h;cases h;simp_all;omega
theorem uh {r1:Yl Unit}{x1 x2:BA}{v:Bool}(f:XR [33,61] (bnd r1 λ_ t=>Zj<|Zk 2 t)=v){r3:Yl Unit}
 (g:r3=if v then(bnd (bnd r1 λ_ t=>Zj<|Zk 2 t) λ_ ts=>.ok ((),ts.tail))else bnd (bnd r1 λ_ t=>Zj<|Zk 2 t) λ_ ts=>Zf [61] ts)
 (m:∀y,r1=.ok y->∀z,Zk 2 y.2=.ok z->bl x1=z.1)(o:∀y,r3=.ok y->∀z,Zk 3 y.2=.ok z->bl x2=z.1):
 (bnd r3 λ_ t=>Zj<|Zk 3 t)=(bnd r1 λ_ t=>Zj<|ZK t)/\∀t z,r1=.ok ((),t)->ZK t=.ok z->VL (x1,x2,v)=z.1:=by
  cases r1 with
  |error e=>
   have:v=false:=f.symm;subst this;subst g;exact⟨C,λt z h=>(by cases h)⟩
  |ok y=>
   obtain⟨⟨⟩,t⟩:=y;cases d:Zk 2 t with
   |error e=>
    simp only[bnd,Zj,d]at f g;have:v=false:=f.symm;subst this;subst g;refine⟨by simp[bnd,Zj,ZK,d],λt2 z h c=>?_⟩;injection h with h;injection h with _ h;subst h;simp[ZK,d,bnd]at c
   |ok y=>
    have j:=m _ C _ d;simp only[bnd,Zj,d]at f g;have p:Yk [33,61] (hd y.2)=v:=f;have w:RC y.2=bnd r3 λ_ t=>.ok (v,t):=by
     unfold RC;rw[p,g];cases v
     .rfl
     .rfl
    have s:ZK t=bnd r3 λ_ r=>bnd (Zk 3 r) λb r=>.ok ((y.1,b,v),r):=by
     unfold ZK;rw[d];show(bnd (RC y.2) λn r=>bnd (Zk 3 r) λb r=>.ok ((y.1,b,n),r))=_;rw[w];cases r3 with
     |error e=>rfl
     |ok u=>rfl
    refine⟨?_,λt2 z h c=>?_⟩
    .show _=Zj (ZK t);rw[s];cases r3 with
     |error e=>rfl
     |ok u=>
      show Zj (Zk 3 u.2)=Zj (bnd (Zk 3 u.2) λb r=>.ok ((y.1,b,v),r));cases Zk 3 u.2 with
      |error e=>rfl
      |ok q=>rfl
    .injection h with h;injection h with _ h;subst h;rw[s]at c;cases i:r3 with
     |error e=>rw[i]at c;cases c
     |ok u=>
      rw[i]at c;have a:(bnd (Zk 3 u.2) λb r=>(.ok ((y.1,b,v),r):Yl<|LB×LB×Bool))=.ok z:=c;cases k:Zk 3 u.2 with
      |error e=>rw[k]at a;cases a
      |ok q=>
       have l:=o u i _ k;rw[k]at a;injection a with a;subst a;show(bl x1,bl x2,v)=(y.1,q.1,v);rw[j,l]
end Go.Proofs.YtmfnolgpaoldpaaGreatDoor

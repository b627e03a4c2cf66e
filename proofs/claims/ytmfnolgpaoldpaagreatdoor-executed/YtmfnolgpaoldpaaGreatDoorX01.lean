/- Parts. -/
import Derived.Test.YtmfnolgpaoldpaaGreatDoorX00
set_option linter.all false
set_option maxRecDepth 100000
set_option maxHeartbeats 16000000
namespace Go.Proofs.YtmfnolgpaoldpaaGreatDoor
open Go.RowKit LS Go.Proofs.Tryz
open Go renaming World->Y,Value->F
open Go.RowKit renaming Hid->U
variable {sy:Addr}{s y:BA}{R:Ending->Y->Prop}{pv pv' v:F}{fn:Func}{f:FuncId}{close l:LB}{c xs ys:List F}{ts ts0 ts5:List Yg}{cs:List<|LB×LB×Bool}{L M a at_ b base cp deep g i k n:Nat}{rec:Nat->List Yg->Nat->Yl Tr}{e fr:Nat×Nat}{o:Obj}{p p0:PV}{P:Program}{q:QV}{z:Tr×List Yg}{w w' w0:Y}{t:Yg}{r r1 r3 rr:Yl Unit}
section
def St(w:Y)(b:Nat)(pv:F)(s:BA)(deep:Nat)(r:Yl Unit):Prop:=O3 w b pv s deep r λ_=>True
def XS(c:LB)(r:Yl Unit):Bool:=match r with
 |.error _=>false
 |.ok x=>Yk c<|hd x.2
theorem St.kept(h:St w b pv s deep r)(a:w'.heap[b]?=w.heap[b]?):St w' b pv s deep r:=by
 cases r with
 |error x=>exact Yw.kept h a
 |ok x=>exact⟨WA.kept h.1 a,trivial⟩
theorem St.lt(h:St w b pv s deep r):b<w.heap.size:=by
 cases r with
 |error x=>exact Yw.lt h
 |ok x=>exact WA.lt h.1
theorem St.len{x:Unit×List Yg}(h:St w b pv s deep<|.ok x):x.2.length<=s.size+2:=by
 obtain⟨⟨q,_,_,_,_,_,c,a⟩,_⟩:=h;have:=a.len<|by rwa [Zb]
 rwa [Zb]at this
theorem St.view(h:St w b pv s deep r):
 ∃q:QV,YN w b q/\q.pv=pv/\q.deep=deep/\(∀x,r=.error x->q.e=x.1/\q.e≠0/\q.pl=x.2)/\(∀x,r=.ok x->q.e=0/\S2 q=hd x.2):=by
 cases r with
 |error x=>
  obtain⟨q,d,f,g,c,i,j⟩:=h;refine⟨q,d,f,g,?_,?_⟩
  .intro y a;injection a with a;subst a;exact⟨c,by rwa [c],j⟩
  .intro y a;cases a
 |ok x=>
  obtain⟨⟨q,d,f,g,c,i,j,k⟩,_⟩:=h;refine⟨q,d,f,c,?_,?_⟩
  .intro y a;cases a
  .intro y a;injection a with a;subst a;exact⟨i,k.hd.symm⟩
theorem St.is(h:St w b pv s deep r)(c:BA):
 CP 185 #[Vp b,.string c] w λe u=>e=.returned (.bool<|XS (bl c) r)/\u=w:=by
 cases r with
 |error x=>exact Yw.is h c
 |ok x=>exact WA.is h.1 c
theorem St.take(h:St w b pv s deep r)(a:s.size<=6000)(c:BA):
 CP 290 #[Vp b,.string c] w λe u=>e=.returned (.tuple #[])/\St u b pv s deep (bnd r λ_ ts=>Zf (bl c) ts)/\w.grownBy u (some b):=by
 cases r with
 |error x=>
  refine(Yw.take h c).m ?_;rintro e u ⟨rfl,rfl⟩;exact⟨C,h,Z2 _ _⟩
 |ok x=>exact WA.take h.1 a c
theorem St.fail(h:St w b pv s deep r)(c:Nat)(ci:Int)(a:ci=c)(d:c≠0):
 CP 154 #[Vp b,E ci] w λe u=>e=.returned (.tuple #[])/\St u b pv s deep (bnd r λ_ ts=>.error (c,(hd ts).at_))/\w.grownBy u (some b):=by
 cases r with
 |error x=>
  refine(Yw.fail h _).m ?_;rintro e u ⟨rfl,rfl⟩;exact⟨C,h,Z2 _ _⟩
 |ok x=>exact WA.fail h.1 c _ a d
def Zj{α:Type}(r:Yl α):Yl Unit:=bnd r λ_ ts=>.ok ((),ts)
theorem St.jj(h:St w b pv s deep r)(g:s.size<=6000)(k:Nat)(ki:Int)(f:ki=k)(i:¬(k=0\/k=5)):
 CP 292 #[Vp b,E ki] w λe u=>∃x:BA,e=.returned (.string x)/\St u b pv s deep (bnd r λ_ ts=>Zj<|Zk k ts)/\
  U (∀y,r=.ok y->∀z,Zk k y.2=.ok z->bl x=z.1)/\w.grownBy u (some b):=by
 cases r with
 |error x=>
  refine(Yw.jj h _).m ?_;rintro e u ⟨rfl,rfl⟩;exact⟨⟨#[]⟩,C,h,I λy c=>(by cases c),Z2 _ _⟩
 |ok x=>
  refine(WA.jj h.1 g k _ f i).m ?_;rintro e u ⟨tx,rfl,a,j⟩;refine⟨tx,C,?_,?_,j⟩
  .show St u b pv s deep<|Zj<|Zk k x.2;cases d:Zk k x.2 with
   |error z=>rw[d]at a;exact a
   |ok z=>rw[d]at a;exact⟨a.1,trivial⟩
  .rintro y c z l;injection c with c;subst c;rw[l]at a;exact a.2
theorem St.next(h:St w b pv s deep r)(c:s.size<=6000)(a:∃ts,r=.ok ((),ts)/\¬((hd ts).jj=0\/(hd ts).jj=5)):
 CP 152 #[Vp b] w λe u=>e=.returned (.tuple #[])/\St u b pv s deep (bnd r λ_ ts=>.ok ((),ts.tail))/\w.grownBy u (some b):=by
 obtain⟨ts,rfl,a⟩:=a;refine(WA.next h.1 c a).m ?_;rintro e u ⟨rfl,d,f⟩;exact⟨C,⟨d,trivial⟩,f⟩
theorem Di{c:LB}(h:XS c r=true):∃ts,r=.ok ((),ts)/\Yk c (hd ts)=true/\¬((hd ts).jj=0\/(hd ts).jj=5):=by
 cases r with
 |error x=>cases h
 |ok x=>exact⟨x.2,C,h,QB h⟩
def Yq(w:Y)(a:Nat)(p:PV):Prop:=w.heap[a]?=some (.cells #[E p.k,E p.n,E p.op,.string p.nm,.slice p.ca p.cn p.cc,.slice p.ba p.bn p.bc,E p.a,E p.b] 59 (0,0))
theorem Yq.lt(h:Yq w a p):a<w.heap.size:=(Xr.1 h).1
theorem Yq.frozen(h:Yq w a p)(o:Nat):w.frozen? ⟨a,o,none⟩=false:=by
 unfold Yq at h;simp[World.frozen?,h]
theorem Yq.all(h:Yq w a p):
 w.cell? ⟨a,0,none⟩=some (E p.k)/\w.cell? ⟨a,1,none⟩=some (E p.n)/\w.cell? ⟨a,2,none⟩=some (E p.op)/\w.cell? ⟨a,3,none⟩=some (.string p.nm)/\
 w.cell? ⟨a,4,none⟩=some (.slice p.ca p.cn p.cc)/\w.cell? ⟨a,5,none⟩=some (.slice p.ba p.bn p.bc)/\w.cell? ⟨a,6,none⟩=some (E p.a)/\w.cell? ⟨a,7,none⟩=some (E p.b):=by
 unfold Yq at h;refine⟨?_,?_,?_,?_,?_,?_,?_,?_⟩<;>simp[World.cell?,h]
theorem Yq.kept(h:Yq w a p)(c:w'.heap[a]?=w.heap[a]?):Yq w' a p:=c.trans h
theorem Yq.grown{r:Option Nat}(h:Yq w a p)(c:w.grownBy w' r)(d:some a≠r):Yq w' a p:=(c.block a h.lt d).trans h
theorem Yq.setNm(h:Yq w a p)(x:BA):Yq (w.setCell ⟨a,3,none⟩<|.string x) a {p with nm:=x}:=by
 unfold Yq at h⊢;simp only[World.setCell,V4,h,VE,Wr];rfl
theorem Yq.setConds(h:Yq w a p)(x:Option Addr)(n c:Nat):Yq (w.setCell ⟨a,4,none⟩<|.slice x n c) a {p with ca:=x,cn:=n,cc:=c}:=by
 unfold Yq at h⊢;simp only[World.setCell,V4,h,VE,Wr];rfl
theorem Yq.setBy(h:Yq w a p)(x:Option Addr)(n c:Nat):Yq (w.setCell ⟨a,5,none⟩<|.slice x n c) a {p with ba:=x,bn:=n,bc:=c}:=by
 unfold Yq at h⊢;simp only[World.setCell,V4,h,VE,Wr];rfl
theorem Yq.setA(h:Yq w a p)(x:Int):Yq (w.setCell ⟨a,6,none⟩<|E x) a {p with a:=x}:=by
 unfold Yq at h⊢;simp only[World.setCell,V4,h,VE,Wr];rfl
def No(w:Y)(a:Nat)(p:PV):Y:=(((((((w.setCell ⟨a,0,none⟩<|E p.k).setCell ⟨a,1,none⟩<|E p.n).setCell ⟨a,2,none⟩<|E p.op).setCell ⟨a,3,none⟩<|.string p.nm).setCell ⟨a,4,none⟩<|.slice p.ca p.cn p.cc).setCell ⟨a,5,none⟩<|.slice p.ba p.bn p.bc).setCell ⟨a,6,none⟩<|E p.a).setCell ⟨a,7,none⟩<|E p.b
theorem Yq.setK(h:Yq w a p)(x:Int):Yq (w.setCell ⟨a,0,none⟩<|E x) a {p with k:=x}:=by
 unfold Yq at h⊢;simp only[World.setCell,V4,h,VE,Wr];rfl
theorem Yq.setN(h:Yq w a p)(x:Int):Yq (w.setCell ⟨a,1,none⟩<|E x) a {p with n:=x}:=by
 unfold Yq at h⊢;simp only[World.setCell,V4,h,VE,Wr];rfl
theorem Yq.setOp(h:Yq w a p)(x:Int):Yq (w.setCell ⟨a,2,none⟩<|E x) a {p with op:=x}:=by
 unfold Yq at h⊢;simp only[World.setCell,V4,h,VE,Wr];rfl
theorem Yq.setB(h:Yq w a p)(x:Int):Yq (w.setCell ⟨a,7,none⟩<|E x) a {p with b:=x}:=by
 unfold Yq at h⊢;simp only[World.setCell,V4,h,VE,Wr];rfl
theorem uo(h:Yq w a p0)(p:PV):Yq (No w a p) a p:=
 Yq.setB (Yq.setA (Yq.setBy (Yq.setConds (Yq.setNm (Yq.setOp (Yq.setN (Yq.setK h _) _) _) _) _ _ _) _ _ _) _) _
theorem GC(k:Nat)(c:k≠a):(No w a p).heap[k]?=w.heap[k]?:=by
 unfold No;rw[Go.Deep.blk_setCell_other _ _ _ _<|c,Go.Deep.blk_setCell_other _ _ _ _<|c,Go.Deep.blk_setCell_other _ _ _ _<|c,Go.Deep.blk_setCell_other _ _ _ _<|c,Go.Deep.blk_setCell_other _ _ _ _<|c,Go.Deep.blk_setCell_other _ _ _ _<|c,Go.Deep.blk_setCell_other _ _ _ _<|c,Go.Deep.blk_setCell_other _ _ _ _<|c]
theorem E0(h:w0.grownBy w<|some b)(c:w0.heap.size<=a):w0.grownBy (No w a p)<|some b:=by
 unfold No;exact Zn (Zn (Zn (Zn (Zn (Zn (Zn (Zn h (.inr c) _) (.inr c) _) (.inr c) _) (.inr c) _) (.inr c) _) (.inr c) _) (.inr c) _) (.inr c) _
structure Yu where
 kd:Nat
 at_:Nat
 tx:BA
 v:Nat
def VA:List Yu->List F
 |[]=>[]
 |t::l=>.int .i64 t.kd::.int .i64 t.at_::.string t.tx::.int .i64 t.v::VA l
theorem Pg(l m:List Yu):VA (l++m)=VA l++VA m:=by
 induction l with
 |nil=>rfl
 |cons a l ih=>simp[VA,ih]
theorem tI (l:List Yu)(j:Nat):(VA l)[j*4]?=l[j]?.map (λt=>E t.kd)/\(VA l)[j*4+1]?=l[j]?.map (λt=>E t.at_)/\(VA l)[j*4+2]?=l[j]?.map (λt=>.string t.tx)/\(VA l)[j*4+3]?=l[j]?.map λt=>E t.v:=by
 induction l generalizing j with
 |nil=>simp[VA]
 |cons r l ih=>
  cases j with
  |zero=>simp[VA]
  |succ j=>
   obtain⟨a,c,d,e⟩:=ih j;refine⟨?_,?_,?_,?_⟩
   .rw[show(j+1)*4=j*4+1+1+1+1 by omega];simpa [VA]using a
   .rw[show(j+1)*4+1=j*4+1+1+1+1+1 by omega];simpa [VA]using c
   .rw[show(j+1)*4+2=j*4+2+1+1+1+1 by omega];simpa [VA]using d
   .rw[show(j+1)*4+3=j*4+3+1+1+1+1 by omega];simpa [VA]using e
def pk(k:Nat):Nat:=if k=0 then 4 else if k=1 then 0 else if k=2 then 1 else if k=3 then 2 else if k=4 then 3 else 5
def SM(p:Yu)(t:Yg):Prop:=p.kd=pk t.jj/\p.at_=t.at_/\bl p.tx=t.txt/\(t.jj=1->(p.v:Int)=Wz t.txt)
structure RD (w:Y)(b g cp:Nat)(ps:List Yu)(k:Nat):Prop where
 cells:w.heap[b]?=some (.cells #[.slice (some ⟨g,0,none⟩) ps.length cp,E k] 384 (0,0))
 own:w.ownsRow 0 389 4 (.slice (some ⟨g,0,none⟩) ps.length cp) ps.length<|VA ps
 lt:k<ps.length
theorem RD.below{ps:List Yu}(h:RD w b g cp ps k)(a:BW w w'):RD w' b g cp ps k:=
 ⟨(a.block b (Xr.1 h.cells).1).trans h.cells,Ze h.own a,h.lt⟩
theorem RD.all{ps:List Yu}(h:RD w b g cp ps k):
 w.cell? ⟨b,0,none⟩=some (.slice (some ⟨g,0,none⟩) ps.length cp)/\w.cell? ⟨b,1,none⟩=some (E k)/\w.frozen? ⟨b,1,none⟩=false/\b<w.heap.size/\g<w.heap.size/\
 w.cell? ⟨g,k*4,none⟩=some (E (ps[k]'h.lt).kd)/\w.cell? ⟨g,k*4+1,none⟩=some (E (ps[k]'h.lt).at_)/\w.cell? ⟨g,k*4+2,none⟩=some (.string (ps[k]'h.lt).tx)/\w.cell? ⟨g,k*4+3,none⟩=some (E (ps[k]'h.lt).v):=by
 obtain⟨f1,f2,f3,f4⟩:=tI ps k;rw[List.getElem?_eq_getElem h.lt]at f1 f2 f3 f4;refine⟨by simp[World.cell?,h.cells],by simp[World.cell?,h.cells],by simp[World.frozen?,h.cells],(Xr.1 h.cells).1,ZN h.own,Zc h.own _ _ f1,Zc h.own _ _ f2,Zc h.own _ _ f3,Zc h.own _ _ f4⟩
theorem LX{ps:List Yu}(h:RD w b g cp ps k):
 CP 218 #[Vp b] w λe u=>e=.returned (.agg #[E (ps[k]'h.lt).kd,E (ps[k]'h.lt).at_,.string (ps[k]'h.lt).tx,E (ps[k]'h.lt).v])/\BW w u:=by
 obtain⟨c0,c1,_,a,c,d0,d1,d2,d3⟩:=h.all;have d:=h.lt;generalize ps[k]'h.lt=t at*;obtain⟨kd,at_,tx,v⟩:=t;simp only at d0 d1 d2 d3⊢;generalize ps.length=n at*;go_enter func218,ntmps218;go_wp2;go_region;all_goals
  go_wp2;exact YQ (by simp[results,results218,go_sem]) C ⟨C,Yh⟩
theorem I9(t:Yu)(s:BA)(w:Y):
 CP 274 #[.agg #[E t.kd,E t.at_,.string t.tx,E t.v],.string s] w λe u=>e=.returned (.bool<|((t.kd:Int)==3)&&(t.tx.toList==s.toList))/\BW w u:=by
 obtain⟨kd,at_,tx,v⟩:=t;simp only;generalize a:((kd:Int)==3)=x;cases x
 .go_enter func274,ntmps274;go_wp2;go_ret;exact⟨C,Yh⟩
 .go_enter func274,ntmps274;go_wp2;go_ret;exact⟨C,Yh⟩
theorem Dm(t:Yu)(s:BA)(w:Y):
 CP 281 #[.agg #[E t.kd,E t.at_,.string t.tx,E t.v],.string s] w λe u=>e=.returned (.bool<|((t.kd:Int)==1)&&(t.tx.toList==s.toList))/\BW w u:=by
 obtain⟨kd,at_,tx,v⟩:=t;simp only;generalize a:((kd:Int)==1)=x;cases x
 .go_enter func281,ntmps281;go_wp2;go_ret;exact⟨C,Yh⟩
 .go_enter func281,ntmps281;go_wp2;go_ret;exact⟨C,Yh⟩
def ZF(w:Y)(v:F)(at_:Int)(what:Addr):Prop:=∃fa:Nat,v=.iface 92 (Vp fa)/\w.heap[fa]?=some (.cells #[.string ⟨#[98,121,116,101]⟩,E at_,.iface 469<|.pointer<|some what] 96 (0,0))
theorem ZF.below{at_:Int}{what:Addr}(h:ZF w v at_ what)(c:BW w w'):ZF w' v at_ what:=by
 obtain⟨fa,d,a⟩:=h;exact⟨fa,d,(c.block _ (Xr.1 a).1).trans a⟩
theorem Gm(i:Int){what:F}(w:Y):
 CP 121 #[E i,.iface 469 what] w λe u=>e=.returned (.iface 92<|Vp w.heap.size)/\u=w.alloc (.cells #[.string ⟨#[98,121,116,101]⟩,E i,.iface 469 what] 96):=by
 go_enter func121,ntmps121;go_wp2;go_ret;exact⟨C,C⟩
theorem K4{ps:List Yu}(h:RD w b g cp ps k)(d:w.cell? ⟨1,0,none⟩=some (.iface 469<|.pointer<|some sy)):
 CP 219 #[Vp b] w λe u=>∃v,e=.returned v/\U (ZF u v (ps[k]'h.lt).at_ sy)/\BW w u:=by
 have H:=I h;have l:=I<|RD.below h<|(Ym _ _).drew;have j:1<w.heap.size:=Xi _ _ d;obtain⟨t,f⟩:∃t,t=ps[k]'h.lt:=⟨_,C⟩;have m:U<|∀n:k<ps.length,ps[k]'n=t:=λ_=>f.symm;rw[<-f];clear f h;have q:∀W:Y,(Instr.field 389 (.agg #[E t.kd,.int _ t.at_,.string t.tx,E t.v]) 1).run prog W=.ok (E _) W:=λ_=>C;go_enter func219,ntmps219;go_wp2;go_region_with (first
  | (go_at_call 218;refine(LX l.o).m ?_;rintro e i ⟨rfl,a⟩;rw[m.o];have c:U<|BW w i:=⟨a.os,a.tape,a.output,a.size,a.block⟩;have o:i.cell? ⟨1,0,none⟩=some (.iface 469<|.pointer<|some sy):=(c.cell (p:=⟨_,0,none⟩) j).trans d;clear a)
  | (go_at_call 121;refine YK (Gm _ _) ?_));all_goals
  go_wp2;go_ret;exact⟨_,C,⟨i.heap.size,C,YO⟩,c.alloc c.size _⟩
def TT:List (BA×BA×Bool)->List F
 |[]=>[]
 |(a,b,c)::l=>.string a::.string b::.bool c::TT l
def VL(c:BA×BA×Bool):LB×LB×Bool:=(bl c.1,bl c.2.1,c.2.2)
theorem sC(l m:List<|BA×BA×Bool):TT (l++m)=TT l++TT m:=by
 induction l with
 |nil=>rfl
 |cons a l ih=>obtain⟨x,y,z⟩:=a;simp[TT,ih]
theorem KG{z:LB×List Yg}(a:k≠0)(h:Zk k ts=.ok z):z.2.length+1=ts.length/\z.1=(hd ts).txt/\z.2=ts.tail:=by
 unfold Zk at h;split at h
 .rename_i e;cases h;cases ts with
  |nil=>exact absurd e.symm a
  |cons t r=>simp
 .cases h
theorem SD{c:LB}{z:Unit×List Yg}(h:Zf c ts=.ok z):z.2.length+1=ts.length:=by
 unfold Zf at h;split at h
 .rename_i e;cases h;cases ts with
  |nil=>exact absurd (.inl C)<|QB e
  |cons t r=>rfl
 .cases h
theorem M5{c:LB}(e:Yk c (hd ts)=true):ts.tail.length+1=ts.length:=by
 cases ts with
 |nil=>exact absurd (.inl C)<|QB e
 |cons t r=>rfl
def SJ{α β:Type}(item:List Yg->Yl α)(close:LB)(f:β->α)(N:Nat)(ts0:List Yg)(qs:List β)(rr:Yl Unit):Prop:=
 (∀e,rr=.error e->ZI item close N [] ts0=.error e)/\(∀ts,rr=.ok ((),ts)->∃m,ZI item close N [] ts0=ZI item close m (qs.map f) ts/\ts.length+1<=m/\qs.length+ts.length<=ts0.length)/\qs.length<=ts0.length+1
theorem SJ.start{α β:Type}(item:List Yg->Yl α)(close:LB)(f:β->α)(N:Nat)(ts0:List Yg)(a:ts0.length+1<=N):SJ item close f N ts0 []<|.ok ((),ts0):=
 ⟨λe h=>(by cases h),λts h=>by injection h with h;injection h with _ h;subst h;exact⟨N,C,a,Sm⟩,Sm⟩
theorem SJ.round{α β:Type}{item:List Yg->Yl α}{f:β->α}{N:Nat}{qs:List β}{x:β}{r4:Yl Unit}(h:SJ item close f N ts0 qs<|.ok ((),ts))(o:Yk close (hd ts)=false)
 (g:(if qs.isEmpty then .ok ((),ts)else Zf [44] ts)=r1)(p:r4=bnd r1 λ_ t=>Zj<|item t)(q:∀t z,r1=.ok ((),t)->item t=.ok z->f x=z.1)(s:∀t z,item t=.ok z->z.2.length+1<=t.length):SJ item close f N ts0 (qs++[x]) r4:=by
 obtain⟨m,u,A,B⟩:=h.2.1 ts C;obtain⟨k,rfl⟩:∃k,m=k+1:=⟨m-1,X⟩;have d:ZI item close N [] ts0=bnd r1 λ_ r=>bnd (item r) λa r=>ZI item close k (qs.map f++[a]) r:=by
  rw[u];show(if Yk close (hd ts)then _ else _)=_;rw[o,<-g];have:(qs.map f).isEmpty=qs.isEmpty:=by cases qs<;>rfl
  rw[this];rfl
 have l:∀t,r1=.ok ((),t)->t.length<=ts.length:=by
  intro t v;rw[v]at g;split at g
  .injection g with g;injection g with _ g;subst g;exact Yj _
  .have:=SD g;simp at this;omega
 subst p;refine⟨?_,?_,?_⟩
 .intro e c;cases i:r1 with
  |error y=>rw[i]at c d;injection c with c;rw[d,c];rfl
  |ok y=>
   obtain⟨⟨⟩,t⟩:=y;rw[i]at c d;cases j:item t with
   |error y=>rw[d];simp only[bnd,Zj,j]at c⊢;injection c with c;rw[c]
   |ok y=>simp[bnd,Zj,j]at c
 .intro t4 c;cases i:r1 with
  |error y=>rw[i]at c;simp[bnd]at c
  |ok y=>
   obtain⟨⟨⟩,t⟩:=y;have D:=l t i;have n:=λz=>q t z i;rw[i]at c d;cases j:item t with
   |error y=>simp[bnd,Zj,j]at c
   |ok y=>
    have w:=n y j;have G:=s t y j;simp only[bnd,Zj,j]at c d;injection c with c;injection c with _ c;subst c;exact⟨k,by rw[d,Xa,<-w];rfl,X,by simp;omega⟩
 .simp;omega
theorem SJ.done{α β:Type}{item:List Yg->Yl α}{f:β->α}{N:Nat}{qs:List β}(h:SJ item close f N ts0 qs rr)(hd:XS close rr=true\/∃e,rr=.error e):
 Zj (ZI item close N [] ts0)=(bnd rr λ_ ts=>Zf close ts)/\∀z,ZI item close N [] ts0=.ok z->qs.map f=z.1:=by
 cases rr with
 |error e=>rw[h.1 e C];exact⟨C,λz a=>(by cases a)⟩
 |ok y=>
  obtain⟨⟨⟩,ts⟩:=y;rcases hd with hd|⟨e,hd⟩
  .obtain⟨m,d,g,i⟩:=h.2.1 ts C;obtain⟨k,rfl⟩:∃k,m=k+1:=⟨m-1,X⟩;have c:Yk close (LS.hd ts)=true:=hd;have e1:ZI item close (k+1) (qs.map f) ts=.ok (qs.map f,ts.tail):=by
    show(if Yk close (LS.hd ts)then _ else _)=_;rw[c];rfl
   rw[d,e1];refine⟨?_,λz a=>by injection a with a;subst a;rfl⟩;show _=Zf close ts;unfold Zf;rw[c];rfl
  .cases hd
theorem K5(t:List Yg)(z:(LB×LB×Bool)×List Yg)(h:ZK t=.ok z):z.2.length+1<=t.length:=by
 unfold ZK at h;cases d:Zk 2 t with
 |error e=>rw[d]at h;cases h
 |ok y=>
  have l1:=(KG N d).1;rw[d]at h;simp only[bnd]at h;cases a:RC y.2 with
  |error e=>simp_all
  |ok u=>
   have l2:u.2.length<=y.2.length:=by
    unfold RC at a;split at a
    .cases a;simp
    .cases c:Zf [61] y.2 with
     |error e=>rw[c]at a;cases a
     |ok q=>rw[c]at a;cases a;have:=SD c;simp_all;omega
   rw[a]at h;simp only at h;cases c:Zk 3 u.2 with
   |error e=>simp_all
   |ok q=>
    have l3:=(KG N c).1;rw[c]at h;cases h;simp_all;omega
theorem ud {x1 x2:BA}{v:Bool}(f:XS [33,61] (bnd r1 λ_ t=>Zj<|Zk 2 t)=v)
 (g:r3=if v then(bnd (bnd r1 λ_ t=>Zj<|Zk 2 t) λ_ ts=>.ok ((),ts.tail))else bnd (bnd r1 λ_ t=>Zj<|Zk 2 t) λ_ ts=>Zf [61] ts)
 (m:∀y,r1=.ok y->∀z,Zk 2 y.2=.ok z->bl x1=z.1)(o:∀y,r3=.ok y->∀z,Zk 3 y.2=.ok z->bl x2=z.1):
 (bnd r3 λ_ t=>Zj<|Zk 3 t)=(bnd r1 λ_ t=>Zj<|ZK t)/\∀t z,r1=.ok ((),t)->ZK t=.ok z->VL (x1,x2,v)=z.1:=by
  cases r1 with
  |error e=>
   have:v=false:=f.symm;subst this;subst g;exact⟨C,λt z h=>(by cases h)⟩
  |ok y=>
   obtain⟨⟨⟩,t⟩:=y;cases d:Zk 2 t with
   |error e=>
    simp only[bnd,Zj,d]at f g;have:v=false:=f.symm;subst this;subst g;refine⟨by simp[bnd,Zj,ZK,d],λt2 z h c=>?_⟩;injection h with h;injection h with _ h;subst h;simp[ZK,d,bnd]at c
   |ok y=>
    have j:=m _ C _ d;simp only[bnd,Zj,d]at f g;have p:Yk [33,61] (hd y.2)=v:=f;have w:RC y.2=bnd r3 λ_ t=>.ok (v,t):=by
     unfold RC;rw[p,g];cases v
     .rfl
     .rfl
    have s:ZK t=bnd r3 λ_ r=>bnd (Zk 3 r) λb r=>.ok ((y.1,b,v),r):=by
     unfold ZK;rw[d];show(bnd (RC y.2) λn r=>bnd (Zk 3 r) λb r=>.ok ((y.1,b,n),r))=_;rw[w];cases r3 with
     |error e=>rfl
     |ok u=>rfl
    refine⟨?_,λt2 z h c=>?_⟩
    .show _=Zj (ZK t);rw[s];cases r3 with
     |error e=>rfl
     |ok u=>
      show Zj (Zk 3 u.2)=Zj (bnd (Zk 3 u.2) λb r=>.ok ((y.1,b,v),r));cases Zk 3 u.2 with
      |error e=>rfl
      |ok q=>rfl
    .injection h with h;injection h with _ h;subst h;rw[s]at c;cases i:r3 with
     |error e=>rw[i]at c;cases c
     |ok u=>
      rw[i]at c;have a:(bnd (Zk 3 u.2) λb r=>(.ok ((y.1,b,v),r):Yl<|LB×LB×Bool))=.ok z:=c;cases k:Zk 3 u.2 with
      |error e=>rw[k]at a;cases a
      |ok q=>
       have l:=o u i _ k;rw[k]at a;injection a with a;subst a;show(bl x1,bl x2,v)=(y.1,q.1,v);rw[j,l]
theorem Je:split 32 (bl ⟨#[115,117,109,32,109,97,120,32,109,105,110,32,99,111,117,110,116]⟩)=Wu:=N
theorem Ju:split 32 (bl ⟨#[116,111,116,97,108,32,112,101,97,107,32,108,111,119,32,115,105,122,101,32,114,105,115,101]⟩)=WN:=N
theorem Dd{w:LB}{l:List<|LB}:(0<=Xk w l↔(Y7 w l).isSome=true):=by
 unfold Xk;cases Y7 w l with
 |none=>simp
 |some i=>simp
def Oa(k:Int):PV:=⟨k,0,0,⟨#[]⟩,none,0,0,none,0,0,0,0⟩
theorem yX{c:Y}{o0 o1:Obj}(a:Below ((w.alloc o0).alloc o1).heap.size ((w.alloc o0).alloc o1) c):
 c.heap[w.heap.size]?=some o0/\c.heap[w.heap.size+1]?=some o1/\BW w c/\w.heap.size+1+1<=c.heap.size:=by
 have e:((w.alloc o0).alloc o1).heap.size=w.heap.size+1+1:=by rw[Go.Deep.nblk_alloc,Go.Deep.nblk_alloc]
 have d:=a.size;rw[e]at d;have e0:((w.alloc o0).alloc o1).heap[w.heap.size]?=some o0:=by
  rw[Go.Deep.blk_alloc_lt _ _ _<|by rw[Go.Deep.nblk_alloc];omega];exact Go.Deep.blk_alloc_new _ _
 have e1:((w.alloc o0).alloc o1).heap[w.heap.size+1]?=some o1:=by
  have:=Go.Deep.blk_alloc_new (w.alloc o0) o1;rwa [Go.Deep.nblk_alloc]at this
 refine⟨(a.block _ X).trans e0,(a.block _ X).trans e1,?_,d⟩;exact⟨a.os,a.tape,a.output,by omega,λk f=>(a.block k X).trans<|by
  rw[Go.Deep.blk_alloc_lt _ _ _<|by rw[Go.Deep.nblk_alloc];omega,Go.Deep.blk_alloc_lt _ _ _ f]⟩
def R9(_:Unit)(ts:List Yg):Yl Unit:=if Qb (hd ts)then .error (2,(hd ts).at_)else .ok ((),ts)
theorem nj(c:∀x,r=.ok x->q.e=0/\S2 q=hd x.2){v:Bool}(a:(decide (0<=Xk (bl q.tx) Wu)||decide (0<=Xk (bl q.tx) WN)||XS UD r||XS UZ r)=v):
 bnd r R9=if v then bnd r λ_ ts=>.error (2,(hd ts).at_)else r:=by
 cases r with
 |error x=>cases v<;>rfl
 |ok x=>
  have h:=(c x C).2;have d:bl q.tx=(hd x.2).txt:=by rw[<-h];rfl
  rw[d]at a;have e:Qb (hd x.2)=v:=by
   rw[<-a];unfold Qb XS;have e1:decide (0<=Xk (hd x.2).txt Wu)=(Y7 (hd x.2).txt Wu).isSome:=by
    rw[Uc,Qr];exact Dd
   have e2:decide (0<=Xk (hd x.2).txt WN)=(Y7 (hd x.2).txt WN).isSome:=by
    rw[Uc,Qr];exact Dd
   rw[e1,e2]
  show R9 () x.2=_;unfold R9;rw[e];cases v<;>rfl
theorem Tryz.infoCond:(Tryz.prog.info? 268).map (λi=>(i.zero,i.size,i.bytes))=some (some<|.agg #[.string ByteArray.empty,.string ByteArray.empty,.bool false],3,40):=Kr
def Sv(w:Y)(a:Nat)(x y:BA)(v:Bool):Prop:=w.heap[a]?=some (.cells #[.string x,.string y,.bool v] 268 (0,0))
theorem Sv.lt{x:BA}{v:Bool}(h:Sv w a x y v):a<w.heap.size:=(Xr.1 h).1
theorem Sv.all{x:BA}{v:Bool}(h:Sv w a x y v):w.cell? ⟨a,0,none⟩=some (.string x)/\w.cell? ⟨a,1,none⟩=some (.string y)/\w.cell? ⟨a,2,none⟩=some (.bool v):=by
 unfold Sv at h;refine⟨?_,?_,?_⟩<;>simp[World.cell?,h]
theorem Sv.frozen{x:BA}{v:Bool}(h:Sv w a x y v)(o:Nat):w.frozen? ⟨a,o,none⟩=false:=by
 unfold Sv at h;simp[World.frozen?,h]
theorem Sv.grown{x:BA}{v:Bool}{r:Option Nat}(h:Sv w a x y v)(c:w.grownBy w' r)(d:some a≠r):Sv w' a x y v:=(c.block a h.lt d).trans h
theorem ZJ{e:TypeId}{size:Nat}(h:w.ownsRow base e size v n xs)(a:∀k,v.ownBlock=some k->w'.heap[k]?=w.heap[k]?):w'.ownsRow base e size v n xs:=by
 refine⟨h.1,?_⟩;rcases h.2 with c|⟨g,cap,cur,rfl,d,f,r⟩
 .exact .inl c
 .exact .inr ⟨g,cap,cur,C,d,(a g C).trans f,r⟩
theorem tf{W:Y}{a b c:F}{t:TypeId}(d:W.heap.size=n):∀j x,[a,b,c][j]?=some x->(W.alloc<|.cells #[a,b,c] t).cell? ((⟨n,0,none⟩:Addr).add j)=some x:=by
 intro j x e;subst d;rw[QI];have h:=Go.Deep.blk_alloc_new W<|.cells #[a,b,c] t;simp only[World.cell?,h];simpa using e
theorem DJ{a:Y}{r:Option Nat}(h:a.grownBy w<|some b)(c:w.grownBy w' r)(f:∀k,r=some k->a.heap.size<=k):a.grownBy w'<|some b:=
 ⟨c.os.trans h.os,c.tape.trans h.tape,c.output.trans h.output,Xb h.size c.size,λk d g=>(c.block k (WH d h.size) λe=>by have:=f k e.symm;omega).trans<|h.block k d g⟩
def Pl(w:Y)(a:Addr):Nat:=match w.cell? a with
 |some<|.slice _ n _=>n
 |_=>0
def ZP(w:Y)(base:Nat)(p:PV)(cs:List<|LB×LB×Bool):Prop:=∃qs:List<|BA×BA×Bool,w.ownsRow base 268 3 (.slice p.ca p.cn p.cc) qs.length (TT qs)/\qs.map VL=cs
def Le(w:Y)(base:Nat)(p:PV)(nd:Nd):Prop:=p=⟨1,0,0,p.nm,p.ca,p.cn,p.cc,none,0,0,0,0⟩/\nd=⟨1,0,0,bl p.nm,nd.kq,[]⟩/\ZP w base p nd.kq
theorem ZP.nil(w:Y)(base:Nat)(p:PV)(a:p.ca=none)(c:p.cn=0)(d:p.cc=0):ZP w base p []:=⟨[],by rw[a,c,d];exact Xm _ _ _ _,C⟩
theorem AW (f:XS [123] (bnd (bnd r R9) λ_ ts=>Zj<|Zk 2 ts)=false):(bnd (bnd r R9) λ_ ts=>Zj<|Zk 2 ts)=(bnd r λ_ ts=>Zj<|YP ts)/\
 (∀y,r=.ok y->∀z,YP y.2=.ok z->bnd r R9=.ok y/\∃a,Zk 2 y.2=.ok (a,z.2)/\z.1=⟨1,0,0,a,[],[]⟩):=by
  cases r with
  |error x=>exact⟨C,λy c=>(by cases c)⟩
  |ok x=>
   simp only[bnd]at f⊢;unfold R9 at f⊢;unfold YP Qa;cases g:Qb<|hd x.2with
   |true=>exact⟨by simp[bnd,Zj],λy c z d=>by injection c with c;subst c;rw[g]at d;simp[bnd]at d⟩
   |false=>
    simp only[g,O6,Q0]at f⊢;cases h:Zk 2 x.2 with
    |error e=>exact⟨C,λy c z d=>by injection c with c;subst c;rw[g]at d;simp[h,bnd]at d⟩
    |ok k=>
     obtain⟨a,t⟩:=k;rw[h]at f;have i:Yk _ (hd t)=false:=f;refine⟨by simp[bnd,Zj,i],λy c z d=>?_⟩;injection c with c;subst c;rw[g]at d;simp[h,bnd,i]at d;subst d;exact⟨C,a,h,C⟩
theorem iV (c:(bnd (bnd r R9) λ_ ts=>Zj<|Zk 2 ts)=.ok ((),ts5))(h:Yk [123] (hd ts5)=true):
 (bnd r λ_ ts=>Zj<|YP ts)=Zj (ZI ZK [125] ts5.length [] ts5.tail)/\
 (∀y,r=.ok y->∀z,YP y.2=.ok z->bnd r R9=.ok y/\∃a cs,Zk 2 y.2=.ok (a,ts5)/\ZI ZK [125] ts5.length [] ts5.tail=.ok (cs,z.2)/\z.1=⟨1,0,0,a,cs,[]⟩):=by
  cases r with
  |error x=>cases c
  |ok x=>
   simp only[bnd]at c⊢;unfold R9 at c⊢;unfold YP Qa;cases i:Qb<|hd x.2with
   |true=>rw[i]at c;simp at c
   |false=>
    simp only[i,O6,Q0]at c⊢;cases g:Zk 2 x.2 with
    |error e=>rw[g]at c;cases c
    |ok k=>
     obtain⟨a,t⟩:=k;rw[g]at c;have l:t=ts5:=by simp[Zj,bnd]at c;exact c
     subst l;cases j:ZI ZK [125] t.length [] t.tail with
     |error e=>exact⟨by simp[bnd,Zj,h,j],λy d z f=>by injection d with d;subst d;rw[i]at f;simp[g,bnd,h,j]at f⟩
     |ok q=>
      refine⟨by simp[bnd,Zj,h,j],λy d z f=>?_⟩;injection d with d;subst d;rw[i]at f;simp[g,bnd,h,j]at f;subst f;exact⟨C,a,q.1,g,C,C⟩
theorem Yq.cells(h:Yq w a p)(i:Nat):w.cell? ⟨a,i,none⟩=[Value.int .i64 p.k,E p.n,E p.op,.string p.nm,.slice p.ca p.cn p.cc,.slice p.ba p.bn p.bc,E p.a,E p.b][i]?:=by
 unfold Yq at h;simp[World.cell?,h]
theorem L6{a:Act}{v:Y}{r:F}(c:∀W:Y,Yq W b p->(results fn a.tmps).run P W=.ok r W)(hd:a.defers=[])(h:Yq v b p0)(d:R (.returned r)<|No v b p):bodyPost P fn R .ret a<|No v b p:=YQ (c _<|uo h p) hd d
structure XQ (w wx:Y)(b:Nat)(pv:F)(s:BA)(deep:Nat)(rr:Yl Unit)(x:BA)(ca:Option Addr)(cc:Nat)(qs:List<|BA×BA×Bool):Prop where
 st:St wx b pv s deep rr
 p0:Yq wx w.heap.size<|Oa 0
 p1:Yq wx (w.heap.size+1) ⟨1,0,0,x,ca,qs.length,cc,none,0,0,0,0⟩
 ow:wx.ownsRow w.heap.size 268 3 (.slice ca qs.length cc) qs.length<|TT qs
 gr:w.grownBy wx<|some b
 lt:b<w.heap.size
section
variable {w wx w':World} {b:Nat} {pv:Value} {s:BA} {deep:Nat} {rr r':Yl Unit} {x:BA} {ca:Option Addr} {cc:Nat} {qs:List (BA×BA×Bool)}
theorem XQ.nb(h:XQ w wx b pv s deep rr x ca cc qs):some b≠(Value.slice ca qs.length cc).ownBlock:=by
 obtain⟨q,a,_⟩:=h.st.view;exact ZD h.ow a N
theorem XQ.step(h:XQ w wx b pv s deep rr x ca cc qs)(a:wx.grownBy w'<|some b)(c:St w' b pv s deep r'):XQ w w' b pv s deep r' x ca cc qs:=
 have:=h.lt;⟨c,h.p0.grown a<|by simp;omega,h.p1.grown a<|by simp;omega,O7 h.ow a<|Or.inr λe=>h.nb e.symm,Zi h.gr a,h.lt⟩
theorem XQ.alloc(h:XQ w wx b pv s deep rr x ca cc qs)(o:Obj):XQ w (wx.alloc o) b pv s deep rr x ca cc qs:=
 ⟨h.st.kept<|Go.Deep.blk_alloc_lt _ _ _ h.st.lt,h.p0.kept<|Go.Deep.blk_alloc_lt _ _ _ h.p0.lt,h.p1.kept<|Go.Deep.blk_alloc_lt _ _ _ h.p1.lt,N6 h.ow o,Vh h.gr o,h.lt⟩
theorem XQ.set(h:XQ w wx b pv s deep rr x ca cc qs)(i:Nat)(v:F)(d:w.heap.size+1<k)(a:∀j,(Value.slice ca qs.length cc).ownBlock=some j->j≠k):XQ w (wx.setCell ⟨k,i,none⟩ v) b pv s deep rr x ca cc qs:=
 have:=h.lt;⟨h.st.kept<|Go.Deep.blk_setCell_other _ _ _ _<|by show b≠k;omega,h.p0.kept<|Go.Deep.blk_setCell_other _ _ _ _<|by show w.heap.size≠k;omega,h.p1.kept<|Go.Deep.blk_setCell_other _ _ _ _<|by show w.heap.size+1≠k;omega,ZJ h.ow λj c=>Go.Deep.blk_setCell_other _ _ _ _<|a j c,Zn h.gr (.inr<|by show w.heap.size<=k;omega) _,h.lt⟩
theorem XQ.app(h:XQ w wx b pv s deep rr x ca cc qs)(a:(wx.alloc o).grownBy w' (Value.slice ca qs.length cc).ownBlock):St w' b pv s deep rr/\Yq w' w.heap.size (Oa 0)/\Yq w' (w.heap.size+1) ⟨1,0,0,x,ca,qs.length,cc,none,0,0,0,0⟩/\w.grownBy w' (some b):=
 have k:=h.alloc o;⟨k.st.kept<|a.block b k.st.lt k.nb,k.p0.grown a<|ZD k.ow k.p0 N,k.p1.grown a<|ZD k.ow k.p1 N,DJ k.gr a λj c=>(k.ow.lt j c).1⟩
theorem XQ.push(h:XQ w wx b pv s deep rr x ca cc qs)(j:(wx.alloc o).grownBy w' (Value.slice ca qs.length cc).ownBlock){x1 x2:BA}{v:Bool}(f:w'.ownsRow w.heap.size 268 3 (.slice (some ⟨g,0,none⟩) (qs.length+1) cp) (qs.length+1)<|TT qs++[.string x1,.string x2,.bool v]):XQ w (w'.setCell ⟨w.heap.size+1,4,none⟩<|.slice (some ⟨g,0,none⟩) (qs.length+1) cp) b pv s deep rr x (some ⟨g,0,none⟩) cp<|qs++[(x1,x2,v)]:=by
 obtain⟨a,c,d,e⟩:=h.app j;have:=h.lt;have i:(qs++[(x1,x2,v)]).length=qs.length+1:=Yx;refine⟨a.kept<|Go.Deep.blk_setCell_other _ _ _ _<|by show b≠w.heap.size+1;omega,c.kept<|Go.Deep.blk_setCell_other _ _ _ _<|by show w.heap.size≠w.heap.size+1;omega,i▸d.setConds _ _ _,?_,Zn e (.inr<|by show w.heap.size<=w.heap.size+1;omega) _,h.lt⟩;rw[i,sC];refine ZJ f λk l=>Go.Deep.blk_setCell_other _ _ _ _ ?_;rintro rfl;exact ZD f d N l.symm
end
theorem Ag(h:St w b pv s deep r)(D:s.size<=6000):
 CP 291 #[Vp b] w λe w'=>∃p:PV,e=.returned (.agg #[E p.k,E p.n,E p.op,.string p.nm,.slice p.ca p.cn p.cc,.slice p.ba p.bn p.bc,E p.a,E p.b])/\St w' b pv s deep (bnd r λ_ ts=>Zj<|YP ts)/\
  U (∀y,r=.ok y->∀z,YP y.2=.ok z->Le w' w.heap.size p z.1)/\w.grownBy w' (some b):=by
 have a5:=h.lt;obtain⟨q,hq,_,_,S,G⟩:=h.view;obtain⟨c0,c1,c2,c3,c4,c5,c6,c7,c8⟩:=hq.all;have HS:=I h;have HO:=I G;clear h hq S G c0 c1 c2 c3 c5 c6 c7 c8;go_enter func291,ntmps291;go_wp2_with fail;refine(Ot N).m ?_;rintro e w1 ⟨rfl,d3⟩;rw[Je];obtain⟨e0,e1,T,a6⟩:=yX d3;clear d3;have d4:=(T.cell a5).trans c4;go_wp2_with fail;refine(Ot N).m ?_;rintro e w2 ⟨rfl,H⟩;rw[Ju];have a7:=T.trans<|H.mono T.size;have a8:U<|Yq _ _<|Oa 0:=(H.block _ X).trans e0;have a9:U<|Yq _ _<|Oa 1:=(H.block _ X).trans e1;have V:=I<|St.kept HS<|a7.block b a5;have b0:U<|w.grownBy _<|some b:=ZB a7;have i1:=Xb a6 H.size;clear H e0 e1 T a7 c4 d4;go_wp2_with fail;refine(St.is V _).m ?_;rintro e w3 ⟨rfl,rfl⟩;go_wp2_with fail;refine(St.is V _).m ?_;rintro e w3 ⟨rfl,rfl⟩;obtain⟨v,M⟩:∃v,(decide (0<=Xk (bl q.tx) Wu)||decide (0<=Xk (bl q.tx) WN)||XS UD r||XS UZ r)=v:=⟨_,C⟩;have HV:=I<|nj HO M;have m:=I M;clear M HO;rw[show bl ⟨#[111,114]⟩=UD from C,show bl _=UZ from C];generalize Xk (bl q.tx) Wu=ia at m⊢;generalize Xk (bl q.tx) WN=ib at m⊢;generalize XS UD r=ic at m⊢;generalize XS UZ r=id at m⊢;go_upto_region 6 with fail;go_cut [39] (λs39 wx=>s39=.bool v/\wx=w3);case first=>
  by_cases ha:0<=ia
  .go_wp2;go_meet;exact⟨by rw[<-m,WI ha];rfl,C⟩
  .by_cases hb:0<=ib
   .go_wp2;go_meet;exact⟨by rw[<-m,Wl<|show¬0<=ia by omega,WI hb];rfl,C⟩
   .cases ic<;>cases id<;>(go_wp2;go_meet;exact⟨by rw[<-m,Wl<|show¬0<=ia by omega,Wl<|show¬0<=ib by omega];rfl,C⟩)
 case rest=>
 obtain⟨rfl,rfl⟩:=hcut;clear m;go_upto_if 39 with fail;go_cut [] (λwx=>U (St wx b pv s deep<|bnd r R9)/\U (Yq wx w.heap.size<|Oa 0)/\U (Yq wx (w.heap.size+1)<|Oa 1)/\U (w.grownBy wx<|some b));case first=>
  cases v
  .go_wp2;go_meet;exact⟨by rwa [HV.o],a8,a9,b0⟩
  .go_wp2_with fail;refine(St.fail V 2 _ C N).m ?_;rintro e w4 ⟨rfl,c,d⟩;have i2:U _:=c;have b1:=I d;clear c d;go_wp2;go_meet;refine⟨by rwa [HV.o],Yq.grown a8 b1<|by simp;omega,Yq.grown a9 b1<|by simp;omega,Zi b0 b1⟩
 case rest=>
 obtain⟨d5,b2,O,d6⟩:=hcut;clear V a8 a9 b0 HV HS;have i3:=Yq.lt O;go_wp2_with fail;refine(St.jj d5 D 2 _ C N).m ?_;rintro e w5 ⟨x,rfl,c,hx,d⟩;have d7:=Yq.grown b2 d<|by simp;omega
 have Z:=Yq.grown O d<|by simp;omega
 obtain⟨k0,k1,k2,k3,k4,k5,k6,k7⟩:=Z.all;have g3:=Z.frozen 3;have a0:U<|St (w5.setCell ⟨w.heap.size+1,3,none⟩<|.string x) b _ s _ _:=St.kept c<|Go.Deep.blk_setCell_other _ _ _ _<|by show b≠w.heap.size+1;omega
 have P:U<|Yq (w5.setCell ⟨w.heap.size+1,3,none⟩<|.string x) _ _:=Yq.kept d7<|Go.Deep.blk_setCell_other _ _ _ _<|by show w.heap.size≠w.heap.size+1;omega
 have Q:U<|Yq _ _ {Oa 1 with nm:=x}:=Yq.setNm Z x;have b3:U<|w.grownBy (w5.setCell ⟨w.heap.size+1,3,none⟩<|.string x) _:=Zn (Zi d6 d) (.inr<|by show w.heap.size<=w.heap.size+1;omega) _;clear d5 b2 O d6 d7 Z d c;go_wp2_with fail;clear k0 k1 k2 k3 k4 k5 k6 k7 g3;generalize w5.setCell ⟨w.heap.size+1,3,none⟩ (.string x)=w6 at a0 P Q b3⊢;refine(St.is a0 _).m ?_;rintro e w7 ⟨rfl,rfl⟩;rw[show bl _=[123]from C];have i:U<|XQ w _ b _ s _ _ x none 0 []:=I ⟨a0,P,Q,Xm _ _ _ _,b3,a5⟩;clear a0 P Q b3;cases ho:XS [123]<|bnd (bnd r R9) λ_ ts=>Zj<|Zk 2 ts
 .have k:=i.p1.cells;have l:=i.p0.cells;have f:=i.p0.frozen;go_wp2;refine L6 (p:=⟨1,0,0,x,none,0,0,none,0,0,0,0⟩) (λW h=>by simp[results,results291,go_sem,h.cells]) C i.p0 ⟨⟨1,0,0,x,none,0,0,none,0,0,0,0⟩,C,?_,?_,E0 i.gr<|Yj _⟩
  .rw[<-(AW ho).1];exact i.st.kept<|GC b X
  .intro y hy z hz;obtain⟨h1,a,h2,h3⟩:=(AW ho).2 y hy z hz;rw[h3];exact⟨C,by rw[show a=bl x from(hx y h1 _ h2).symm],ZP.nil _ _ _ C C C⟩
 .obtain⟨ts5,J,b4,a1⟩:=Di ho;have d8:=I<|iV J b4;have g7:=M5 b4;have g8:ts5.length<=6002:=by
   have h:=i.st;rw[J]at h;have:=St.len h;simp at this;omega
  clear ho;go_wp2_with fail;refine(St.next i.st D ⟨ts5,J,a1⟩).m ?_;rintro e w8 ⟨rfl,c,d⟩;rw[J]at c;have d9:=I<|i.step d c;clear c d i J b4 a1;go_wp2_with fail;refine(St.is d9.st _).m ?_;rintro e w9 ⟨rfl,rfl⟩;rw[show bl _=[125]from C];obtain⟨i0,hi,f3,a6,e7⟩:=Xv Tryz.infoCond;go_wp2;go_loopw [9] (λv9 wr=>∃(qs:List<|BA×BA×Bool)(ca:Option Addr)(cc:Nat)(rr:Yl Unit),v9=.bool (XS [125] rr)/\U (XQ w wr b pv s deep rr x ca cc qs)/\U (SJ ZK [125] VL ts5.length ts5.tail qs rr))
   (λ_ wr=>ts5.length+2-Pl wr ⟨w.heap.size+1,4,none⟩);case atStart=>exact⟨[],none,0,.ok _,C,d9,SJ.start _ _ _ _ _ X⟩
  case round=>
   obtain⟨qs,ca,cc,rr,rfl,B,K⟩:=hrel;obtain⟨qr,e2,_,_,S,G⟩:=B.st.view;have c7:=(YN.all e2).2.2.2.2.2.2.2.1;have e8:((XS [125] rr=true\/(XS [125] rr=false/\((qr.e:Int)==0)=false))/\(XS [125] rr=true\/∃e,rr=.error e))\/(XS [125] rr=false/\((qr.e:Int)==0)=true/\∃ts,rr=.ok ((),ts)/\Yk [125] (hd ts)=false):=by
    cases rr with
    |error e=>exact .inl ⟨.inr ⟨C,by rw[YB];have:=(S e C).2.1;omega⟩,.inr ⟨e,C⟩⟩
    |ok y=>
     obtain⟨⟨⟩,ts⟩:=y;have h0:=(G _ C).1;cases hc:Yk [125]<|hd ts
     .exact .inr ⟨hc,by rw[h0];rfl,ts,C,hc⟩
     .exact .inl ⟨.inl hc,.inl hc⟩
   clear e2 S G;rcases e8 with⟨a2,b5⟩|⟨f4,i4,ts,f5,f6⟩
   .have b6:=I<|SJ.done K b5;clear b5;generalize XS [125] rr=v9 at a2;rcases a2 with rfl|⟨rfl,he⟩;all_goals
    go_wp2_with fail;refine(St.take B.st D _).m ?_;rintro e f7 ⟨rfl,c,d⟩;rw[show bl _=[125]from C]at c;have g:=I<|B.step d c;clear c d B K c7;have k:=g.p1.cells;have l:=g.p0.cells;have f:=g.p0.frozen;go_wp2;refine L6 (p:=⟨1,0,0,x,ca,qs.length,cc,none,0,0,0,0⟩) (λW h=>by simp[results,results291,go_sem,h.cells]) C g.p0 ⟨⟨1,0,0,x,ca,qs.length,cc,none,0,0,0,0⟩,C,?_,?_,E0 g.gr<|Yj _⟩
    .rw[d8.1,b6.1];exact g.st.kept<|GC b X
    .intro y hy z hz;obtain⟨h1,a,cs,h2,h3,h4⟩:=d8.2 y hy z hz;rw[h4];refine⟨C,by rw[show a=bl x from(hx y h1 _ h2).symm],qs,ZJ g.ow ?_,b6.2 _ h3⟩;intro k hk;refine GC _ ?_;rintro rfl;exact ZD g.ow g.p0 N hk.symm
   .subst f5;have i5:qs.length<=6004:=by have:=K.2.2;omega
    have k:=B.p1.cells;have f8:U<|Pl wr ⟨w.heap.size+1,4,none⟩=qs.length:=by unfold Pl;rw[k];rfl
    rw[f4];go_upto_if 66 with fail;go_cut []from 54 to 91 (λwx=>∃r1:Yl Unit,U ((if qs.isEmpty then .ok ((),ts)else Zf [44] ts)=r1)/\U (XQ w wx b pv s deep r1 x ca cc qs));case first=>
     by_cases e3:qs.length=0
     .have e9:decide (0<(qs.length:Int))=false:=Wl X;go_wp2;go_meet;exact⟨_,I<|by rw[Oh.1 e3];rfl,B⟩
     .have e9:decide (0<(qs.length:Int))=true:=WI X;go_wp2_with fail;refine(St.take B.st D _).m ?_;rintro e f7 ⟨rfl,c,d⟩;have g:=I<|B.step d c;clear c d;go_wp2;go_meet;exact⟨_,I<|by
      cases qs with
      |nil=>exact absurd C e3
      |cons a l=>rfl,g⟩
    case rest=>
    obtain⟨r1,f9,b7⟩:=hcut;clear B k;go_wp2_with fail;refine(St.jj b7.st D 2 _ C N).m ?_;rintro e g0 ⟨x1,rfl,c,g1,d⟩;have g:=I<|b7.step d c;have f0:=g.p1.lt;clear c d b7;go_wp2_with fail;refine(St.is (g.alloc _).st _).m ?_;rintro e wy ⟨rfl,rfl⟩;rw[show bl _=[33,61]from C];obtain⟨v,M⟩:∃v,XS [33,61] (bnd r1 λ_ t=>Zj<|Zk 2 t)=v:=⟨_,C⟩;rw[M];have HV:=I M;clear M;go_upto_if 76 with fail;go_cut []from 54 to 91 (λwx=>∃r3:Yl Unit,U (r3=if v then(bnd (bnd r1 λ_ t=>Zj<|Zk 2 t) λ_ ts=>.ok ((),ts.tail))else bnd (bnd r1 λ_ t=>Zj<|Zk 2 t) λ_ ts=>Zf [61] ts)/\U (Sv wx g0.heap.size x1 ⟨#[]⟩ v)/\U (XQ w wx b pv s deep r3 x ca cc qs));case first=>
     cases v
     .go_wp2_with fail;refine(St.take (g.alloc _).st D _).m ?_;rintro e g2 ⟨rfl,c,d⟩;have HC:=I<|Sv.grown (Go.Deep.blk_alloc_new _ _) d<|by simp;omega
      have A:=I<|(g.alloc _).step d c;clear c d;go_wp2;go_meet;exact⟨_,I C,HC,A⟩
     .go_wp2_with fail;obtain⟨ts2,e4,_,e5⟩:=Di HV;refine(St.next (g.alloc _).st D ⟨ts2,e4,e5⟩).m ?_;rintro e g2 ⟨rfl,c,d⟩;have HC:=I<|Sv.grown (Go.Deep.blk_alloc_new _ _) d<|by simp;omega
      have A:=I<|(g.alloc _).step d c;clear c d e4 e5;go_wp2;go_meet;exact⟨_,I C,HC,A⟩
    case rest=>
    obtain⟨r3,g4,HC,A⟩:=hcut;go_wp2_with fail;refine(St.jj A.st D 3 _ C N).m ?_;rintro e g5 ⟨x2,rfl,c,g6,d⟩;have a3:=I<|Sv.grown HC d<|by simp;omega
    have b8:=I<|A.step d c;have L:=I<|b8.set 1 (.string x2) f0 λj hj=>by have:=(g.ow.lt j hj).2;omega
    have g9:=a3.lt;obtain⟨d0,d1,d2⟩:=Sv.all a3;have fd:=a3.frozen;have k:=b8.p1.cells;clear c d A HC;go_wp2_with(at_builtin;refine XC _ C (.tmp 85) (.tmp 87) 56 C w.heap.size 268 i0 (.agg #[.string ByteArray.empty,.string ByteArray.empty,.bool false]) 3 40 underlying56 hi f3 a6 e7 C N _ _ _ C (N6 L.ow _) ⟨g5.heap.size,0,none⟩ 1 1 [.string x1,.string x2,.bool v] C C ?c1 ?c2 ?c3 ?c4 ?c5 ?_);case c1=>exact tf<|Go.Deep.nblk_setCell _ _ _
    case c2=>intro u hu;simp at hu;rcases hu with rfl|rfl|rfl<;>rfl
    case c3=>unfold maxLen;omega
    case c4=>omega
    case c5=>simp;omega
    intro v15 e6 R o _;obtain⟨g15,cp15,f1⟩:=Zm R X;subst f1;have a4:=I<|L.push o R;have kc:=(L.app o).2.2.1.cells;have fk:=(L.app o).2.2.1.frozen;have b9:U<|Pl (e6.setCell ⟨w.heap.size+1,4,none⟩<|.slice (some ⟨g15,0,none⟩) (qs.length+1) cp15) ⟨w.heap.size+1,4,none⟩=qs.length+1:=by unfold Pl;rw[a4.p1.cells];exact Yx
    have c9:=ud HV g4 g1 g6;have f2:=I<|SJ.round K f6 f9 c9.1 c9.2 K5;have i6:=K.2.2;clear R o c9 L b8 a3 g;go_wp2_with fail;clear kc fk d0 d1 d2 fd k;generalize e6.setCell ⟨w.heap.size+1,4,none⟩ (.slice (some ⟨g15,0,none⟩) (qs.length+1) cp15)=w16 at a4 b9⊢;refine(St.is a4.st _).m ?_;rintro e wz ⟨rfl,rfl⟩;rw[show bl _=[125]from C];go_wp2;go_roundw;case rel=>exact⟨_,_,_,_,C,a4,f2⟩
    case measure=>
     rw[f8,b9];omega
end
section
theorem RD.step{ps:List Yu}(h:RD w b g cp ps k)(c:k+1<ps.length):RD (w.setCell ⟨b,1,none⟩<|E ((k+1:Nat):Int)) b g cp ps<|k+1:=by
 have a:b≠g:=by
  rintro rfl;exact ZD h.own h.cells N C
 refine⟨?_,ZJ h.own λj d=>Go.Deep.blk_setCell_other _ _ _ _ ?_,c⟩
 .have:=h.cells;simp only[World.setCell,V4,this,VE,Wr];rfl
 .have:j=g:=by simpa [Value.ownBlock]using d.symm
  rw[this];exact λe=>a e.symm
theorem RD.kept{ps:List Yu}(h:RD w b g cp ps k)(a:∀j,j<w.heap.size->w'.heap[j]?=w.heap[j]?):RD w' b g cp ps k:=
 ⟨(a b (Xr.1 h.cells).1).trans h.cells,ZJ h.own λj c=>a j (h.own.lt j c).2,h.lt⟩
def ZU(t:Yu)(s:BA):Bool:=((t.kd:Int)==3)&&(t.tx.toList==s.toList)
def RG(t:Yu)(s:BA):Bool:=((t.kd:Int)==1)&&(t.tx.toList==s.toList)
def Uq(w':Y)(b g cp:Nat)(ps:List Yu)(k:Nat)(sy:Addr)(at_:Int)(ok:Bool)(v:F):Prop:=(ok=true/\v=.nilIface/\RD w' b g cp ps (k+1))\/(ok=false/\ZF w' v at_ sy/\RD w' b g cp ps k)
theorem fI{ps:List Yu}(h:RD w b g cp ps k)(s:BA)(x:ZU (ps[k]'h.lt) s=true->k+1<ps.length)(L:ps.length<=6002)(i:w.cell? ⟨1,0,none⟩=some (.iface 469<|.pointer<|some sy)):
 CP 293 #[Vp b,.string s] w λe u=>∃v,e=.returned v/\U (Uq u b g cp ps k sy (ps[k]'h.lt).at_ (ZU (ps[k]'h.lt) s) v)/\w.grownBy u (some b):=by
 have H:=I h;have K:=h.lt;have A:1<w.heap.size:=Xi _ _ i;obtain⟨t,m⟩:∃t,t=ps[k]'h.lt:=⟨_,C⟩;have B:U<|∀G:k<ps.length,ps[k]'G=t:=λ_=>m.symm;rw[<-m]at x⊢;clear m h;go_enter func293,ntmps293;go_wp2_with fail;refine(LX H.o).m ?_;rintro e M ⟨rfl,j⟩;rw[B];have d:=I j;clear j;go_wp2_with fail;refine(I9 t s _).m ?_;rintro e z ⟨rfl,l⟩;have a:=I<|d.trans<|l.mono d.size;have c:=I<|RD.below H a;have n:=(a.cell A).trans i;obtain⟨c0,c1,fz,_⟩:=c.all;rw[show(((t.kd:Int)==3)&&(t.tx.toList==s.toList))=ZU t s from C];clear l d;cases o:ZU t s
 .have p:=I o;go_wp2_with fail;refine(K4 c.o n).m ?_;rintro e O ⟨v,rfl,q,f⟩;rw[B]at q;have J:U<|Uq _ b g _ _ k _ _ _ v:=.inr ⟨C,q,RD.below c f⟩;have r:U<|w.grownBy _<|some b:=ZB<|a.trans<|f.mono a.size;clear q f;go_wp2;go_ret;exact⟨_,C,by rwa [p.o],r⟩
 .have D:=x o;have p:=I o;have J:U<|Uq _ b g _ _ k sy t.at_ _ _:=.inl ⟨C,C,c.step D⟩;have r:U<|w.grownBy (z.setCell ⟨b,1,none⟩<|E<|(k+1:Nat))<|some b:=Zn (ZB a) (.inl C) _;go_wp2;go_ret;exact⟨_,C,by rwa [p.o],r⟩
theorem fK{ps:List Yu}(h:RD w b g cp ps k)(s:BA)(x:RG (ps[k]'h.lt) s=true->k+1<ps.length)(L:ps.length<=6002)(i:w.cell? ⟨1,0,none⟩=some (.iface 469<|.pointer<|some sy)):
 CP 294 #[Vp b,.string s] w λe u=>∃v,e=.returned v/\U (Uq u b g cp ps k sy (ps[k]'h.lt).at_ (RG (ps[k]'h.lt) s) v)/\w.grownBy u (some b):=by
 have H:=I h;have K:=h.lt;have A:1<w.heap.size:=Xi _ _ i;obtain⟨t,m⟩:∃t,t=ps[k]'h.lt:=⟨_,C⟩;have B:U<|∀G:k<ps.length,ps[k]'G=t:=λ_=>m.symm;rw[<-m]at x⊢;clear m h;go_enter func294,ntmps294;go_wp2_with fail;refine(LX H.o).m ?_;rintro e M ⟨rfl,j⟩;rw[B];have d:=I j;clear j;go_wp2_with fail;refine(Dm t s _).m ?_;rintro e z ⟨rfl,l⟩;have a:=I<|d.trans<|l.mono d.size;have c:=I<|RD.below H a;have n:=(a.cell A).trans i;obtain⟨c0,c1,fz,_⟩:=c.all;rw[show(((t.kd:Int)==1)&&(t.tx.toList==s.toList))=RG t s from C];clear l d;cases o:RG t s
 .have p:=I o;go_wp2_with fail;refine(K4 c.o n).m ?_;rintro e O ⟨v,rfl,q,f⟩;rw[B]at q;have J:U<|Uq _ b g _ _ k _ _ _ v:=.inr ⟨C,q,RD.below c f⟩;have r:U<|w.grownBy _<|some b:=ZB<|a.trans<|f.mono a.size;clear q f;go_wp2;go_ret;exact⟨_,C,by rwa [p.o],r⟩
 .have D:=x o;have p:=I o;have J:U<|Uq _ b g _ _ k sy t.at_ _ _:=.inl ⟨C,C,c.step D⟩;have r:U<|w.grownBy (z.setCell ⟨b,1,none⟩<|E<|(k+1:Nat))<|some b:=Zn (ZB a) (.inl C) _;go_wp2;go_ret;exact⟨_,C,by rwa [p.o],r⟩
def P0(t:Yu):Bool:=(t.kd:Int)==1
theorem fJ{ps:List Yu}(h:RD w b g cp ps k)(r:P0 (ps[k]'h.lt)=true->k+1<ps.length)(S:ps.length<=6002)(l:w.cell? ⟨1,0,none⟩=some (.iface 469<|.pointer<|some sy)):
 CP 296 #[Vp b] w λe u=>∃(x:BA)(v:F),e=.returned (.tuple #[.string x,v])/\U (Uq u b g cp ps k sy (ps[k]'h.lt).at_ (P0<|ps[k]'h.lt) v/\(P0 (ps[k]'h.lt)=true->x=(ps[k]'h.lt).tx))/\w.grownBy u (some b):=by
 have H:=I h;have P:=h.lt;have s:1<w.heap.size:=Xi _ _ l;obtain⟨t,n⟩:∃t,t=ps[k]'h.lt:=⟨_,C⟩;have z:U<|∀L:k<ps.length,ps[k]'L=t:=λ_=>n.symm;rw[<-n]at r⊢;clear n h;go_enter func296,ntmps296;go_wp2_with fail;refine(LX H.o).m ?_;rintro e a ⟨rfl,c⟩;rw[z];obtain⟨kd,at_,tx,v⟩:=t;obtain⟨W,o⟩:∃W,W=a.alloc (.cells #[E kd,E at_,.string tx,E v] 389):=⟨_,C⟩;have A:=I o;have B:W.heap[a.heap.size]?=some (.cells #[.int _ _,.int _ _,.string _,.int _ v] _ _):=o▸YO;have d:U _:=o▸c.alloc c.size _;have f:=I<|RD.below H d;have p:=(d.cell s).trans l;obtain⟨c0,c1,fz,Q,_⟩:=f.all;have R:=WH (Xr.1 H.cells).1 c.size;have k2:(W.setCell ⟨b,1,none⟩<|E<|(k+1:Nat)).cell? ⟨a.heap.size,2,none⟩=some (.string tx):=by
  have:(W.setCell ⟨b,1,none⟩<|E<|(k+1:Nat)).heap[a.heap.size]?=W.heap[a.heap.size]?:=Go.Deep.blk_setCell_other _ _ _ _<|by show a.heap.size≠b;omega
  unfold World.cell?;rw[this,B];rfl
 have D:U<|k+1<ps.length->Uq ((a.setCell _ _).alloc<|.cells #[E kd,E at_,.string tx,E v] 389) b g _ _ k sy at_ _ _:=λi=>.inl ⟨C,C,(RD.step (RD.below H c) i).below Yc⟩;have G:U<|w.grownBy ((a.setCell ⟨b,1,none⟩<|E<|(k+1:Nat)).alloc<|.cells #[E kd,E at_,.string tx,E v] 389)<|some b:=Vh (Zn (ZB c) (.inl C) _) _;generalize j:((kd:Int)==1)=nb at*;cases nb
 .have q:U<|P0 ⟨kd,at_,tx,v⟩=false:=j;have J:((kd:Int) !=1)=true:=by rw[bne,j];rfl
  go_wp2_with fail;rw[<-A];refine(K4 f.o p).m ?_;rintro e T ⟨v3,rfl,K,m⟩;rw[z]at K;have M:U<|Uq _ b g _ _ k _ at_ _ _:=.inr ⟨C,K,RD.below f m⟩;have O:U<|w.grownBy _<|some b:=ZB<|d.trans<|m.mono d.size;go_wp2;go_ret2;exact⟨_,_,C,q.o▸⟨M.o,λh=>(by cases h)⟩,O⟩
 .have q:U<|P0 ⟨kd,at_,tx,v⟩=true:=j;have J:((kd:Int) !=1)=false:=by rw[bne,j];rfl
  have i:=r j;rw[A]at k2 c0 c1 fz;go_wp2;go_ret2;exact⟨_,_,C,by rw[q];exact⟨D i,λ_=>C⟩,G⟩
def TI(t:Yu):Option Nat:=if RG t ⟨#[111,114]⟩then some 0 else if ZU t ⟨#[43]⟩then some 1 else if ZU t ⟨#[45]⟩then some 2 else if ZU t ⟨#[42]⟩then some 3 else if ZU t ⟨#[47]⟩then some 4 else none
def Sa(w:Y)(a:Nat)(t:Yu):Prop:=w.heap[a]?=some (.cells #[E t.kd,E t.at_,.string t.tx,E t.v] 389 (0,0))
theorem Sa.all{t:Yu}(h:Sa w a t):w.cell? ⟨a,0,none⟩=some (E t.kd)/\w.cell? ⟨a,1,none⟩=some (E t.at_)/\w.cell? ⟨a,2,none⟩=some (.string t.tx)/\w.cell? ⟨a,3,none⟩=some (E t.v):=by
 unfold Sa at h;refine⟨?_,?_,?_,?_⟩<;>simp[World.cell?,h]
theorem Sa.below{t:Yu}(h:Sa w a t)(c:BW w w'):Sa w' a t:=(c.block a (Xr.1 h).1).trans h
theorem Mv(t:Yu){x:Bool}(f:ZU t s=x)(w0:Y)(g:Sa w a t)(d:BW w0 w):
 CP 274 #[.agg #[E t.kd,E t.at_,.string t.tx,E t.v],.string s] w λe u=>e=.returned (.bool x)/\U (Sa u a t)/\U (BW w0 u):=by
 subst f;refine(I9 t s w).m ?_;rintro e u ⟨rfl,c⟩;exact⟨C,g.below c,d.trans<|c.mono d.size⟩
theorem zP(t:Yu){x:Bool}(f:RG t s=x)(w0:Y)(g:Sa w a t)(d:BW w0 w):
 CP 281 #[.agg #[E t.kd,E t.at_,.string t.tx,E t.v],.string s] w λe u=>e=.returned (.bool x)/\U (Sa u a t)/\U (BW w0 u):=by
 subst f;refine(Dm t s w).m ?_;rintro e u ⟨rfl,c⟩;exact⟨C,g.below c,d.trans<|c.mono d.size⟩
theorem kg(t:Yu):
 CP 247 #[.agg #[E t.kd,E t.at_,.string t.tx,E t.v]] w λe u=>e=.returned (.tuple #[E ((TI t).getD 0:Nat),.bool (TI t).isSome])/\BW w u:=by
 obtain⟨b1,l⟩:∃x,RG t ⟨#[111,114]⟩=x:=⟨_,C⟩;obtain⟨b2,m⟩:∃x,ZU t ⟨#[43]⟩=x:=⟨_,C⟩;obtain⟨b3,n⟩:∃x,ZU t ⟨#[45]⟩=x:=⟨_,C⟩;obtain⟨b4,o⟩:∃x,ZU t ⟨#[42]⟩=x:=⟨_,C⟩;obtain⟨b5,p⟩:∃x,ZU t ⟨#[47]⟩=x:=⟨_,C⟩;have s:U<|TI t=if b1 then some 0 else if b2 then some 1 else if b3 then some 2 else if b4 then some 3 else if b5 then some 4 else none:=I<|by unfold TI;rw[l,m,n,o,p]
 have H:U<|RG t _=b1/\ZU t _=b2/\ZU t _=b3/\ZU t _=b4/\ZU t _=b5:=⟨l,m,n,o,p⟩;have q:U<|Sa _ w.heap.size t:=YO;have r:U<|Below _ w<|w.alloc<|.cells #[E t.kd,E t.at_,.string t.tx,E t.v] 389:=Yc;rw[s];go_enter func247,ntmps247;go_wp2_with fail;refine(zP t H.1 w q r).m ?_;rintro e B ⟨rfl,a,c⟩;cases b1
 .obtain⟨k0,k1,k2,k3⟩:=Sa.all a;go_wp2_with fail;refine(Mv t H.2.1 w a c).m ?_;rintro e z ⟨rfl,d,f⟩;cases b2
  .obtain⟨k0,k1,k2,k3⟩:=Sa.all d;go_wp2_with fail;refine(Mv t H.2.2.1 w d f).m ?_;rintro e D ⟨rfl,g,h⟩;cases b3
   .obtain⟨k0,k1,k2,k3⟩:=Sa.all g;go_wp2_with fail;refine(Mv t H.2.2.2.1 w g h).m ?_;rintro e G ⟨rfl,i,j⟩;cases b4
    .obtain⟨k0,k1,k2,k3⟩:=Sa.all i;go_wp2_with fail;refine(Mv t H.2.2.2.2 w i j).m ?_;rintro e J ⟨rfl,A,k⟩;cases b5
     .go_wp2;go_ret2;exact⟨C,k⟩
     .go_wp2;go_ret2;exact⟨C,k⟩
    .go_wp2;go_ret2;exact⟨C,j⟩
   .go_wp2;go_ret2;exact⟨C,h⟩
  .go_wp2;go_ret2;exact⟨C,f⟩
 .go_wp2;go_ret2;exact⟨C,c⟩
def Uy:List Yu->List Yg->Prop
 |[],[]=>True
 |p::ps,t::ts=>SM p t/\Uy ps ts
 |_,_=>False
theorem Uy.snoc:∀{ps:List Yu}{ts:List Yg}{p:Yu}{t:Yg},Uy ps ts->SM p t->Uy (ps++[p]) (ts++[t])
 |[],[],_,_,_,h=>⟨h,trivial⟩
 |_::ps,_::ts,_,_,h,a=>⟨h.1,Uy.snoc h.2 a⟩
 |[],_::_,_,_,h,_=>h.elim
 |_::_,[],_,_,h,_=>h.elim
theorem Uy.length:∀{ps:List Yu}{ts:List Yg},Uy ps ts->ps.length=ts.length
 |[],[],_=>C
 |_::ps,_::ts,h=>by rw[Y1,Y1,Uy.length h.2]
 |[],_::_,h=>h.elim
 |_::_,[],h=>h.elim
theorem Uy.get:∀{ps:List Yu}{ts:List Yg},Uy ps ts->∀(k:Nat)(a:k<ps.length)(c:k<ts.length),SM ps[k] ts[k]
 |_::_,_::_,h,0,_,_=>h.1
 |_::ps,_::ts,h,k+1,a,c=>Uy.get (ps:=ps) (ts:=ts) h.2 k (by simpa using a)<|by simpa using c
 |[],[],_,_,a,_=>absurd a<|Tu _
 |[],_::_,h,_,_,_=>h.elim
 |_::_,[],h,_,_,_=>h.elim
theorem pG{e:Nat}(a:Zg l i=(t,e))(c:¬(t.jj=0\/t.jj=5)):Z7 l (n+1) i=t::Z7 l n e:=by
 show(if(Zg l i).1.jj=0\/(Zg l i).1.jj=5 then[(Zg l i).1]else(Zg l i).1::Z7 l n (Zg l i).2)=_;simp_all
theorem pF{e:Nat}(a:Zg l i=(t,e))(c:t.jj=0\/t.jj=5):Z7 l (n+1) i=[t]:=by
 show(if(Zg l i).1.jj=0\/(Zg l i).1.jj=5 then[(Zg l i).1]else(Zg l i).1::Z7 l n (Zg l i).2)=_;simp_all
def TA(s:BA)(ps:List Yu)(at_:Nat):Prop:=at_<=s.size/\ps.length<=at_/\∃ts m,Z7 (bl s) ((bl s).length+1) 0=ts++Z7 (bl s) m at_/\s.size+1<=m+at_/\Uy ps ts
theorem TA.start(s:BA):TA s [] 0:=⟨Yr _,Yj _,[],(bl s).length+1,C,by rw[Zb];omega,trivial⟩
theorem TA.skip{ps:List Yu}(h:TA s ps at_)(a:at_<s.size)(c:s[at_]=32):TA s ps<|at_+1:=by
 obtain⟨_,f,ts,m,d,g,e⟩:=h;refine⟨a,X,ts,m,?_,X,e⟩;rw[d];congr 1;cases m with
 |zero=>rfl
 |succ m=>
  show(if(Zg (bl s) at_).1.jj=0\/(Zg (bl s) at_).1.jj=5 then[(Zg (bl s) at_).1]else(Zg (bl s) at_).1::Z7 (bl s) m (Zg (bl s) at_).2)=_;rw[Bb s _ _ c];rfl
theorem TA.token{ps:List Yu}(h:TA s ps at_){e:Nat}(d:Zg (bl s) at_=(t,e))(f:¬(t.jj=0\/t.jj=5)){p:Yu}(i:SM p t):TA s (ps++[p]) e:=by
 obtain⟨l,n,ts,m,j,o,k⟩:=h;have c:=Nx _ _<|by rwa [Zb]
 rw[d]at c;have g:=c.1 λh=>f<|.inl h;have a:=c.2;rw[Zb]at a;simp only at g a;obtain⟨m',rfl⟩:∃m',m=m'+1:=⟨m-1,X⟩;refine⟨a,by simp;omega,ts++[t],m',?_,X,k.snoc i⟩;rw[j,pG d f,Vd];rfl
theorem TA.done{ps:List Yu}(h:TA s ps at_){e:Nat}(a:Zg (bl s) at_=(t,e))(c:t.jj=0\/t.jj=5){p:Yu}(d:SM p t):Uy (ps++[p])<|Z7 (bl s) ((bl s).length+1) 0:=by
 obtain⟨i,j,ts,m,f,k,g⟩:=h;obtain⟨m',rfl⟩:∃m',m=m'+1:=⟨m-1,X⟩;rw[f,pF a c];exact g.snoc d
theorem Zkg(s:BA):Zg (bl s) s.size=(⟨0,[],s.size⟩,s.size):=by
 unfold Zg;have hd:(bl s).drop s.size=[]:=Ts<|by constructor<;>omega
 rw[hd];show UV (bl s) s.size=_;unfold UV;rw[hd]
theorem pH{h:k<s.size}(hd:Zt s[k]=true):Zg (bl s) k=(if(ZC 1000000000<|((bl s).drop k).take<|run Zt<|(bl s).drop k).isSome then⟨1,((bl s).drop k).take<|run Zt<|(bl s).drop k,k⟩else⟨5,[],k⟩,k+run Zt ((bl s).drop k)):=by
 have a:s[k]≠32:=by rintro e;rw[e]at hd;revert hd;decide
 rw[Lw s k h a];unfold XT;rw[Ye hd,<-Td s k h]
theorem pJ{h:k<s.size}(hd:Zt s[k]=false)(a:Zl s[k]=true):Zg (bl s) k=(if 8<run Zl ((bl s).drop k)then⟨5,[],k⟩else⟨2,((bl s).drop k).take<|run Zl<|(bl s).drop k,k⟩,k+run Zl ((bl s).drop k)):=by
 have c:s[k]≠32:=by rintro e;rw[e]at a;revert a;decide
 rw[Lw s k h c];unfold XT;rw[Yd<|by simp_all,Ye a,<-Td s k h]
theorem Qx(s:BA)(l:LB):(s.toList==l)=decide (l=bl s):=by
 rw[ZA,Uc,XM,Qr];exact⟨λh=>h.symm,λh=>h.symm⟩
theorem I6 (w:LB):∀l:List<|LB,(Y7 w l).isSome=l.any λx=>decide<|x=w
 |[]=>C
 |x::l=>by
  unfold Y7;rw[Ij];by_cases h:x=w
  .rw[Ye h];simp[h]
  .rw[Yd h,Option.isSome_map,I6 w l];simp[h]
theorem Dh(s:BA)(w:Y):
 CP 276 #[.string s] w λe u=>e=.returned (.bool (Y7 (bl s) Wu).isSome)/\u=w:=by
 have e1:=Qx s [115,117,109];have e2:=Qx s [109,97,120];have e3:=Qx s [109,105,110];have e4:=Qx s [99,111,117,110,116];have a:U<|(Y7 (bl s) Wu).isSome=(decide _||(decide _||(decide _||(decide _||false)))):=I6 _ _;rw[a];generalize decide ([115,117,109]=bl s)=b1 at*;generalize decide ([109,97,120]=bl s)=b2 at*;generalize decide ([109,105,110]=bl s)=b3 at*;generalize decide ([99,111,117,110,116]=bl s)=b4 at*;cases b1
 .cases b2
  .cases b3
   .cases b4
    .go_enter func276,ntmps276;go_wp2;go_ret;exact⟨C,C⟩
    .go_enter func276,ntmps276;go_wp2;go_ret;exact⟨C,C⟩
   .go_enter func276,ntmps276;go_wp2;go_ret;exact⟨C,C⟩
  .go_enter func276,ntmps276;go_wp2;go_ret;exact⟨C,C⟩
 .go_enter func276,ntmps276;go_wp2;go_ret;exact⟨C,C⟩
theorem Dl(s:BA)(w:Y):
 CP 278 #[.string s] w λe u=>e=.returned (.bool (Y7 (bl s) WN).isSome)/\u=w:=by
 have e1:=Qx s [116,111,116,97,108];have e2:=Qx s [112,101,97,107];have e3:=Qx s [108,111,119];have e4:=Qx s [115,105,122,101];have e5:=Qx s [114,105,115,101];have a:U<|(Y7 (bl s) WN).isSome=(decide _||(decide _||(decide _||(decide _||(decide _||false))))):=I6 _ _;rw[a];generalize decide ([116,111,116,97,108]=bl s)=b1 at*;generalize decide ([112,101,97,107]=bl s)=b2 at*;generalize decide ([108,111,119]=bl s)=b3 at*;generalize decide ([115,105,122,101]=bl s)=b4 at*;generalize decide ([114,105,115,101]=bl s)=b5 at*;cases b1
 .cases b2
  .cases b3
   .cases b4
    .cases b5
     .go_enter func278,ntmps278;go_wp2;go_ret;exact⟨C,C⟩
     .go_enter func278,ntmps278;go_wp2;go_ret;exact⟨C,C⟩
    .go_enter func278,ntmps278;go_wp2;go_ret;exact⟨C,C⟩
   .go_enter func278,ntmps278;go_wp2;go_ret;exact⟨C,C⟩
  .go_enter func278,ntmps278;go_wp2;go_ret;exact⟨C,C⟩
 .go_enter func278,ntmps278;go_wp2;go_ret;exact⟨C,C⟩
theorem uU(s:BA)(w:Y):
 CP 298 #[.string s] w λe u=>e=.returned (.bool<|!decide (UD=bl s)&&!decide (UZ=bl s)&&!(Y7 (bl s) Wu).isSome&&!(Y7 (bl s) WN).isSome)/\u=w:=by
 have e1:=Qx s [111,114];have e2:=Qx s [98,121];have a:=I<|Dh s;have c:=I<|Dl s;show Calls _ _ _ _ λe u=>e=.returned (.bool<|!decide ([111,114]=bl s)&&!decide ([98,121]=bl s)&&!(Y7 (bl s) Wu).isSome&&!(Y7 (bl s) WN).isSome)/\u=w;generalize decide ([111,114]=bl s)=b1 at*;generalize decide ([98,121]=bl s)=b2 at*;generalize(Y7 (bl s) Wu).isSome=b3 at*;generalize(Y7 (bl s) WN).isSome=b4 at*;cases b1<;>cases b2<;>cases b3<;>cases b4;all_goals
  go_enter func298,ntmps298;go_wp2_with(first|(go_at_call 276;refine YK (a.o _) ?_)|(go_at_call 278;refine YK (c.o _) ?_));go_ret;exact⟨C,C⟩
def RL(t:Yg):Prop:=(t.jj=2->t.txt.all Zl=true)/\(t.jj=4->t.txt.all (λc=>!Zl c)=true)
def PP:List Yg->Prop
 |[]=>False
 |[t]=>t.jj=0\/t.jj=5
 |t::u::l=>(t.jj=1\/t.jj=2\/t.jj=3\/t.jj=4)/\RL t/\PP (u::l)
theorem PP.tail(h:PP ts)(a:¬((hd ts).jj=0\/(hd ts).jj=5)):PP ts.tail/\1<ts.length:=by
 match ts,h with
 |[t],h=>exact absurd h a
 |t::u::l,h=>exact⟨h.2.2,Sm⟩
theorem PP.head(h:PP ts):RL (hd ts)/\0<ts.length/\(hd ts).jj<=5:=by
 match ts,h with
 |[t],h=>
  have a:t.jj=0\/t.jj=5:=h;refine⟨⟨λe=>?_,λe=>?_⟩,Sm,?_⟩
  .exact absurd (show t.jj=2 from e) X
  .exact absurd (show t.jj=4 from e) X
  .show t.jj<=5;omega
 |t::u::l,h=>exact⟨h.2.1,Sm,by have:=h.1;show t.jj<=5;omega⟩
theorem IU{p:Yu}{l:List Yu}(h:Uy (p::l) ts):SM p (hd ts)/\Uy l ts.tail:=by
 match ts,h with
 |t::m,h=>exact h
structure RS where
 b:Nat
 g:Nat
 cp:Nat
 ps:List Yu
 sy:Addr
 dp:Addr
structure RK (w:Y)(R:RS)(k:Nat)(ts:List Yg):Prop where
 rd:RD w R.b R.g R.cp R.ps k
 all:Uy (R.ps.drop k) ts
 wf:PP ts
 len:R.ps.length<=302
 sy:w.cell? ⟨1,0,none⟩=some (.iface 469<|.pointer<|some R.sy)
 dp:w.cell? ⟨2,0,none⟩=some (.iface 469<|.pointer<|some R.dp)
theorem RK.lt{R:RS}(h:RK w R k ts):k<R.ps.length:=h.rd.lt
theorem RK.tok{R:RS}(h:RK w R k ts):SM (R.ps[k]'h.lt)<|hd ts:=by
 have a:=h.all;rw[List.drop_eq_getElem_cons h.lt]at a;exact(IU a).1
theorem RK.size{R:RS}(h:RK w R k ts):k+ts.length=R.ps.length:=by
 have:=h.all.length;rw[Ur]at this;have:=h.lt;omega
theorem EN{c0 c1:F}{u:F}{t:TypeId}(a:w.heap[b]?=some (.cells #[c0,c1] t (0,0)))(c:w.cell? ⟨g,0,none⟩=some v)(d:c0≠v)(_:u=u):g≠b:=by
 rintro rfl;simp[World.cell?,a]at c;simp_all
theorem RK.glob{R:RS}(h:RK w R k ts):1≠R.b/\2≠R.b:=
 ⟨EN (u:=.nilIface) h.rd.cells h.sy (Sm) C,EN (u:=.nilIface) h.rd.cells h.dp (Sm) C⟩
theorem RK.below{R:RS}(h:RK w R k ts)(a:BW w w'):RK w' R k ts:=
 ⟨h.rd.below a,h.all,h.wf,h.len,(a.cell<|Xi _ _ h.sy).trans h.sy,(a.cell<|Xi _ _ h.dp).trans h.dp⟩
theorem RK.blocks{R:RS}(h:RK w R k ts)(a:∀j,j<w.heap.size->(j=R.b\/j=R.g\/j=1\/j=2)->w'.heap[j]?=w.heap[j]?):RK w' R k ts:=by
 have c:=Xi _ _ h.sy;have d:=Xi _ _ h.dp;refine⟨⟨?_,?_,h.lt⟩,h.all,h.wf,h.len,?_,?_⟩
 .exact(a _ (Xr.1 h.rd.cells).1<|.inl C).trans h.rd.cells
 .exact ZJ h.rd.own λj e=>by
    have:j=R.g:=by simpa [Value.ownBlock]using e.symm
    subst this;exact a _ (ZN h.rd.own)<|.inr<|.inl C
 .exact(PD<|a _ c<|.inr<|.inr<|.inl C).trans h.sy
 .exact(PD<|a _ d<|.inr<|.inr<|.inr C).trans h.dp
theorem RK.step{R:RS}(h:RK w R k ts)(c:¬((hd ts).jj=0\/(hd ts).jj=5)):RK (w.setCell ⟨R.b,1,none⟩<|E ((k+1:Nat):Int)) R (k+1) ts.tail:=by
 obtain⟨d,e⟩:=h.wf.tail c;have f:=h.size;obtain⟨g1,g2⟩:=h.glob;refine⟨h.rd.step X,?_,d,h.len,?_,?_⟩
 .have a:=h.all;rw[List.drop_eq_getElem_cons h.lt]at a;exact(IU a).2
 .exact(PD<|Go.Deep.blk_setCell_other _ _ _ _ g1).trans h.sy
 .exact(PD<|Go.Deep.blk_setCell_other _ _ _ _ g2).trans h.dp
theorem ZF.lt{p:Int}{a:Addr}(h:ZF w v p a):∃fa:Nat,v=.iface 92 (Vp fa):=by
 obtain⟨fa,c,_⟩:=h;simp_all
theorem ZF.set{p:Int}{a:Addr}(h:ZF w v p a){q:Nat}{c:Array F}{t:TypeId}(d:w.heap[q]?=some (.cells c t fr))(f:t≠96)(o:Nat)(x:F):ZF (w.setCell ⟨q,o,none⟩ x) v p a:=by
 obtain⟨fa,g,e⟩:=h;refine⟨fa,g,(Go.Deep.blk_setCell_other _ _ _ _ ?_).trans e⟩;show fa≠q;rintro rfl;rw[e]at d;injection d with h3;injection h3 with _ h4;exact f h4.symm
theorem ZF.grown{p:Int}{a:Addr}(h:ZF w v p a)(f:w.grownBy w'<|some b){c:Array F}{t:TypeId}(i:w.heap[b]?=some (.cells c t fr))(j:t≠96):ZF w' v p a:=by
 obtain⟨fa,g,d⟩:=h;refine⟨fa,g,(f.block _ (Xr.1 d).1 ?_).trans d⟩;intro e;simp_all
def WJ(w:Y)(R:RS)(e:Nat×Nat)(v:F):Prop:=(e.1=2/\ZF w v e.2 R.sy)\/(e.1=3/\ZF w v e.2 R.dp)
theorem WJ.below{R:RS}(h:WJ w R e v)(d:BW w w'):WJ w' R e v:=by
 rcases h with⟨a,c⟩|⟨a,c⟩
 .exact .inl ⟨a,c.below d⟩
 .exact .inr ⟨a,c.below d⟩
theorem WJ.set{R:RS}(h:WJ w R e v){q:Nat}{c:Array F}{t:TypeId}(f:w.heap[q]?=some (.cells c t fr))(g:t≠96)(o:Nat)(x:F):WJ (w.setCell ⟨q,o,none⟩ x) R e v:=by
 rcases h with⟨a,d⟩|⟨a,d⟩
 .exact Or.inl ⟨a,d.set f g o x⟩
 .exact Or.inr ⟨a,d.set f g o x⟩
theorem WJ.shape{R:RS}(h:WJ w R e v):∃fa:Nat,v=.iface 92 (Vp fa):=by
 rcases h with⟨_,a⟩|⟨_,a⟩<;>exact a.lt
def U4{α:Type}(R:RS)(V:Y->α->Prop)(w:Y)(r:Yl α)(v:F):Prop:=match r with
 |.error e=>WJ w R e v
 |.ok x=>v=.nilIface/\(∃k,RK w R k x.2)/\V w x.1
theorem P3(h:k<=5):(pk k=3↔k=4)/\(pk k=1↔k=2)/\(pk k=2↔k=3)/\(pk k=0↔k=1)/\(pk k=4↔k=0):=by
 unfold pk;match k,h with
 |0,_=>decide
 |1,_=>decide
 |2,_=>decide
 |3,_=>decide
 |4,_=>decide
 |5,_=>decide
theorem Ci (d:l.all Zl=true)(e:l.all (λc=>!Zl c)=true):l=[]:=by
 cases l with
 |nil=>rfl
 |cons a l=>
  simp_all
theorem R8 {p:Yu}(h:SM p t)(f:RL t)(g:t.jj<=5)(l:(bl s).all (λc=>!Zl c)=true)(d:bl s≠[]):ZU p s=Yk (bl s) t:=by
 obtain⟨i,_,j,_⟩:=h;unfold ZU Yk;rw[i,ZA,ZA,j];have m:=(P3 g).1;by_cases a:t.txt=bl s
 · rw[XM.2 a,On,On];have k:t.jj≠2:=λe=>d<|by rw[<-a];exact Ci (f.1 e)<|by simp_all
   rw[YB.2 k,Kx,Uc,XM,XM];omega
 .rw[YB.2 a,Na,Na]
theorem FO{p:Yu}(h:SM p t)(d:RL t)(f:t.jj<=5)(k:(bl s).all Zl=true)(c:bl s≠[]):RG p s=Yk (bl s) t:=by
 obtain⟨g,_,i,_⟩:=h;unfold RG Yk;rw[g,ZA,ZA,i];have l:=(P3 f).2.1;by_cases a:t.txt=bl s
 .rw[XM.2 a,On,On];have j:t.jj≠4:=λe=>c<|by rw[<-a];exact Ci (by simp_all)<|d.2 e
  rw[YB.2 j,Bool.or_false,Uc,XM,XM];omega
 .rw[YB.2 a,Na,Na]
theorem QA{s:LB}(h:Yk s t=true):¬(t.jj=0\/t.jj=5):=by
 unfold Yk at h;simp_all;omega
theorem Uq.res{R:RS}{ok:Bool}(h:RK w R k ts)(c:w.grownBy w'<|some R.b)(j:Uq w' R.b R.g R.cp R.ps k R.sy (R.ps[k]'h.lt).at_ ok v)(l:ok=true->¬((hd ts).jj=0\/(hd ts).jj=5)){α:Type}{V:Y->α->Prop}{a:α}(m:ok=true->V w' a):
 U4 R V w' (if ok then .ok (a,ts.tail)else .error (2,(hd ts).at_)) v:=by
 have o:=h.tok.2.1;rcases j with⟨rfl,rfl,d⟩|⟨rfl,p,d⟩
 .have f:=l C;obtain⟨n,q⟩:=h.wf.tail f;obtain⟨g1,g2⟩:=h.glob;refine⟨C,⟨k+1,d,?_,n,h.len,?_,?_⟩,m C⟩
  .have i:=h.all;rw[List.drop_eq_getElem_cons h.lt]at i;exact(IU i).2
  .exact(PD<|c.block _ (Xi _ _ h.sy) λe=>g1<|Ub e).trans h.sy
  .exact(PD<|c.block _ (Xi _ _ h.dp) λe=>g2<|Ub e).trans h.dp
 constructor<;>simp_all
theorem Qh {R:RS}(h:RK w R k ts)(s:BA)(i:(bl s).all (λc=>!Zl c)=true)(f:bl s≠[]):
 CP 293 #[Vp R.b,.string s] w λe u=>∃v,e=.returned v/\U (U4 R (λ_(_:Unit)=>True) u (Zf (bl s) ts) v)/\w.grownBy u (some R.b):=by
  have d:=R8 h.tok h.wf.head.1 h.wf.head.2.2 i f;have j:ZU _ s=true->k+1<R.ps.length:=λe=>by
   have:=(h.wf.tail<|QA<|d.symm.trans e).2;have:=h.size;omega
  refine(fI h.rd s j (by have:=h.len;omega) h.sy).m ?_;rintro e u ⟨v,rfl,l,g⟩;refine⟨v,C,?_,g⟩;have:=l.res (V:=λ_ _=>True) (a:=()) h g (λe=>QA<|d.symm.trans e) λ_=>trivial;rw[d]at this;exact this
theorem fL{R:RS}(h:RK w R k ts)(g:(bl s).all Zl=true)(d:bl s≠[]):
 CP 294 #[Vp R.b,.string s] w λe u=>∃v,e=.returned v/\U (U4 R (λ_(_:Unit)=>True) u (Zf (bl s) ts) v)/\w.grownBy u (some R.b):=by
 have c:=FO h.tok h.wf.head.1 h.wf.head.2.2 g d;have i:RG _ s=true->k+1<R.ps.length:=λe=>by
  have:=(h.wf.tail<|QA<|c.symm.trans e).2;have:=h.size;omega
 refine(fK h.rd s i (by have:=h.len;omega) h.sy).m ?_;rintro e u ⟨v,rfl,j,f⟩;refine⟨v,C,?_,f⟩;have:=j.res (V:=λ_ _=>True) (a:=()) h f (λe=>QA<|c.symm.trans e) λ_=>trivial;rw[c]at this;exact this
theorem nq{p:Yu}(h:SM p t)(a:t.jj<=5):P0 p=decide (t.jj=2):=by
 unfold P0;rw[h.1,Uc,XM,Qr];have c:=(P3 a).2.1;omega
theorem JR{R:RS}(h:RK w R k ts):
 CP 296 #[Vp R.b] w λe u=>∃(x:BA)(v:F),e=.returned (.tuple #[.string x,v])/\U (U4 R (λ_ a=>bl x=a) u (Zk 2 ts) v)/\w.grownBy u (some R.b):=by
 have f:=nq h.tok h.wf.head.2.2;have d:P0 _=true->¬((hd ts).jj=0\/(hd ts).jj=5):=λe=>by
  have:=Rw<|f.symm.trans e;omega
 have j:P0 _=true->k+1<R.ps.length:=λe=>by
  have:=(h.wf.tail<|d e).2;have:=h.size;omega
 refine(fJ h.rd j (by have:=h.len;omega) h.sy).m ?_;rintro e u ⟨x,v,rfl,g,i⟩;refine⟨x,v,C,?_,i⟩;have:=g.1.res (V:=λ_ a=>bl x=a) h i d λe=>g.2 e▸h.tok.2.2.1;rw[f]at this;unfold Zk;by_cases c:(hd ts).jj=2
 .rw[Ye c];rw[WI c]at this;exact this
 .rw[Yd c];rw[Wl c]at this;exact this
theorem Oy{R:RS}(h:RK w R k ts):
 CP 219 #[Vp R.b] w λe u=>∃v,e=.returned v/\U (WJ u R (2,(hd ts).at_) v)/\BW w u:=by
 refine(K4 h.rd h.sy).m ?_;rintro e u ⟨v,rfl,a,c⟩;refine⟨v,C,.inl ⟨C,?_⟩,c⟩;have:=a.o;rw[h.tok.2.1]at this;omega
theorem QL{R:RS}(h:RK w R k ts):
 CP 218 #[Vp R.b] w λe u=>∃t:Yu,e=.returned (.agg #[E t.kd,E t.at_,.string t.tx,E t.v])/\U (SM t<|hd ts)/\BW w u:=by
 refine(LX h.rd).m ?_;rintro e u ⟨rfl,a⟩;exact⟨_,C,h.tok,a⟩
theorem Nu {t:Yu}{u:Yg}(h:SM t u)(d:RL u)(f:u.jj<=5)(s:BA)(g:(bl s).all (λc=>!Zl c)=true)(a:bl s≠[])(w:Y):
 CP 274 #[.agg #[E t.kd,E t.at_,.string t.tx,E t.v],.string s] w λe i=>e=.returned (.bool<|Yk (bl s) u)/\BW w i:=by
  rw[<-R8 h d f g a];exact I9 t s w
theorem WJ.grown{R:RS}(h:WJ w R e v)(f:w.grownBy w'<|some b){c:Array F}{t:TypeId}(g:w.heap[b]?=some (.cells c t fr))(i:t≠96):WJ w' R e v:=by
 rcases h with⟨a,d⟩|⟨a,d⟩
 .exact Or.inl ⟨a,d.grown f g i⟩
 .exact Or.inr ⟨a,d.grown f g i⟩
def Ya(w:Y)(a:Nat)(c:List F)(t:TypeId):Prop:=w.heap[a]?=some (.cells ⟨c⟩ t (0,0))
theorem Ya.cell{t:TypeId}(h:Ya w a c t)(i:Nat):w.cell? ⟨a,i,none⟩=c[i]?:=by
 unfold Ya at h;simp[World.cell?,h]
theorem Ya.frozen{t:TypeId}(h:Ya w a c t)(i:Nat):w.frozen? ⟨a,i,none⟩=false:=by
 unfold Ya at h;simp[World.frozen?,h]
theorem Ya.lt{t:TypeId}(h:Ya w a c t):a<w.heap.size:=(Xr.1 h).1
theorem Ya.grown{t:TypeId}{r:Option Nat}(h:Ya w a c t)(d:w.grownBy w' r)(e:some a≠r):Ya w' a c t:=(d.block a h.lt e).trans h
theorem Ya.below{t:TypeId}(h:Ya w a c t)(d:BW w w'):Ya w' a c t:=(d.block a h.lt).trans h
theorem Ya.other{t:TypeId}(h:Ya w a c t){p:Addr}(d:a≠p.block)(v:F):Ya (w.setCell p v) a c t:=(Go.Deep.blk_setCell_other _ _ _ _ d).trans h
def set3(w:Y)(a:Nat)(x y z:F):Y:=((w.setCell ⟨a,0,none⟩ x).setCell ⟨a,1,none⟩ y).setCell ⟨a,2,none⟩ z
theorem P5{p q r x y z:F}{t:TypeId}(h:Ya w a [p,q,r] t):Ya (set3 w a x y z) a [x,y,z] t:=by
 unfold Ya at h;unfold Ya set3;simp only[World.setCell,V4,h,VE,Wr];rfl
theorem Ss{a:Act}{v:Y}{p q u x y z r:F}{t:TypeId}(c:∀W:Y,W.cell? ⟨b,0,none⟩=some x->W.cell? ⟨b,1,none⟩=some y->W.cell? ⟨b,2,none⟩=some z->(results fn a.tmps).run P W=.ok r W)(hd:a.defers=[])(d:Ya v b [p,q,u] t)(e:R (.returned r)<|set3 v b x y z):bodyPost P fn R .ret a<|set3 v b x y z:=by
 have s:=P5 d (x:=x) (y:=y) (z:=z);exact YQ (c _ (s.cell 0) (s.cell 1)<|s.cell 2) hd e
theorem OR{x y z:F}(c:b≠a):(set3 w a x y z).heap[b]?=w.heap[b]?:=by
 unfold set3;rw[Go.Deep.blk_setCell_other _ _ _ _ c,Go.Deep.blk_setCell_other _ _ _ _ c,Go.Deep.blk_setCell_other _ _ _ _ c]
theorem P6(h:w0.grownBy w<|some b)(c:w0.heap.size<=a)(x y z:F):w0.grownBy (set3 w a x y z)<|some b:=
 Zn (Zn (Zn h (Or.inr c) _) (Or.inr c) _) (Or.inr c) _
theorem RK.fresh{R:RS}{k0:Nat}(c:RK w0 R k0 ts0)(h:RK w R k ts)(m:w0.heap.size<=a)(d:∀j,j≠a->w'.heap[j]?=w.heap[j]?):RK w' R k ts:=by
 refine h.blocks λj _ e=>d j ?_;have n:=(Xr.1 c.rd.cells).1;have o:=ZN c.rd.own;have f:=Xi _ _ c.sy;have g:=Xi _ _ c.dp;have i:1<w0.heap.size:=f;have l:2<w0.heap.size:=g;rcases e with rfl|rfl|rfl|rfl<;>omega
theorem WJ.set3{R:RS}(h:WJ w R e v){t:TypeId}(d:Ya w a c t)(f:t≠96)(x y z:F):WJ (set3 w a x y z) R e v:=by
 refine h.grown (b:=a) ?_ d f;exact Zn (Zn (Zn (Z2 w<|some a) (Or.inl C) _) (Or.inl C) _) (Or.inl C) _
theorem OE(h:(hd ts).jj=k):Zk k ts=.ok ((hd ts).txt,ts.tail):=Ye h
theorem Nw(h:¬(hd ts).jj=k):Zk k ts=.error (2,(hd ts).at_):=Yd h
theorem M6{s:LB}(h:Yk s t=true):t.txt=s:=by
 unfold Yk at h;rw[Vt,XM]at h;exact h.2
theorem PZ{s u:LB}(h:Yk s t=true)(a:s≠u):Yk u t=false:=by
 have:=M6 h;unfold Yk;rw[this,YB.2 a,Na]
theorem Zs{c:Code}{Q:Exit->Act->Y->Prop}{a:Act}(h:∀W,W=w->Code.wp P c Q a W):Code.wp P c Q a w:=h w C
theorem Zv{args:Array F}{Q:Ending->Y->Prop}(h:∀W,W=w->Calls P f args W Q):Calls P f args w Q:=h w C
theorem EX{R:RS}(h:RK w R k ts):
 CP 300 #[Vp R.b] w λe u=>∃(x:BA)(ng:Bool)(y:BA)(v:F),e=.returned (.tuple #[.agg #[.string x,.bool ng,.string y],v])/\U (U4 R (λ_ c=>bl x=c.1/\bl y=c.2.1/\ng=c.2.2) u (ZK ts) v)/\w.grownBy u (some R.b):=by
 have H:U<|RK w R k ts:=h;have f3:R.b<w.heap.size:=(Xr.1 h.rd.cells).1;go_enter func300,ntmps300;go_wp2_with fail;refine Zv λW0 b5=>?_;have d9:U<|RK W0 R k ts:=I<|by rw[b5];exact H.below Yc
 have e0:U<|Ya W0 w.heap.size [.string ByteArray.empty,.bool false,.string ByteArray.empty] 374:=I<|by rw[b5];exact YO
 have e1:U<|w.grownBy W0<|some R.b:=I<|by rw[b5];exact Vh (Z2 _ _) _
 refine(JR d9.o).m ?_;rintro e w1 ⟨x,v,rfl,q,hg⟩;have Q:U<|Ya w1 w.heap.size [.string ByteArray.empty,.bool false,.string ByteArray.empty] 374:=e0.grown hg<|by simp;omega
 have d5:U<|w.grownBy w1<|some R.b:=Zi e1.o hg;by_cases L:(hd ts).jj=2
 .rw[OE L]at q;obtain⟨rfl,⟨k1,e3⟩,hx⟩:=q.o;have d6:U<|RK w1 R k1 ts.tail:=e3;have HX:U<|bl x=(hd ts).txt:=hx;go_wp2_with fail;refine(QL d6.o).m ?_;rintro e z ⟨⟨kd,at_,tx,tv⟩,rfl,ht,b6⟩;have e4:=I<|Q.below b6;have S:U<|w.grownBy z<|some R.b:=Zi d5.o<|ZB b6;have e5:U<|RK z R k1 ts.tail:=d6.below b6;go_wp2_with fail;refine Zv λW1 d7=>?_;have b7:BW z W1:=by rw[d7];exact Yc
  have e6:U<|Ya W1 z.heap.size [E kd,E at_,.string tx,E tv] 389:=I<|by rw[d7];exact YO
  have e7:=I<|e4.below b7;have e8:U<|w.grownBy W1<|some R.b:=Zi S.o<|ZB b7;have b8:U<|RK W1 R k1 ts.tail:=e5.below b7;refine(Nu ht.o b8.wf.head.1 b8.wf.head.2.2 ⟨#[61]⟩ N N W1).m ?_;rintro e w3 ⟨rfl,b2⟩;have s:=I<|e6.below b2;have b9:=I<|e7.below b2;have c1:U<|w.grownBy w3<|some R.b:=Zi e8.o<|ZB b2;have T:U<|RK w3 R k1 ts.tail:=b8.below b2;by_cases M:Yk [61] (hd ts.tail)=true
  .rw[show Yk (bl ⟨#[61]⟩) (hd ts.tail)=true from M];have c2:tx=⟨#[61]⟩:=ZbH<|ht.2.2.1.trans<|M6 M;subst c2;have HD:U<|¬((hd ts.tail).jj=0\/(hd ts.tail).jj=5):=QA M;have V:U<|ZK ts=bnd (Zk 3 ts.tail.tail) λb r=>.ok (((hd ts).txt,b,false),r):=I<|by unfold ZK;rw[OE L];show bnd (RC ts.tail) _=_;unfold RC;rw[Yd<|by rw[PZ M N];decide];unfold Zf;rw[Ye M];rfl
   have n:=T;have b3:=c1;have b4:=b9;have c3:=s;obtain⟨rc0,rc1,rfz,_⟩:=n.rd.all;have e9:=n.lt;have f1:=n.len;go_wp2_with fail;refine Zv λO o=>?_;have t:U<|RK O R (k1+1) ts.tail.tail:=I<|by rw[o];exact n.step HD.o
   have Z:U<|w.grownBy O<|some R.b:=I<|by rw[o];exact Zn b3.o (Or.inl C) _
   have a0:U<|Ya O w.heap.size [.string ByteArray.empty,.bool false,.string ByteArray.empty] 374:=I<|by rw[o];exact b4.other (by show w.heap.size≠R.b;omega) _
   have a1:U<|Ya O z.heap.size [E kd,E at_,.string ⟨#[61]⟩,E tv] 389:=I<|by rw[o];exact c3.other (by show z.heap.size≠R.b;have:=S.size;omega) _
   refine(QL t.o).m ?_;rintro e f ⟨⟨kd2,at2,tx2,tv2⟩,rfl,A,g⟩;have a2:=I<|a0.below g;have a3:=I<|a1.below g;have B:U<|w.grownBy f<|some R.b:=Zi Z.o<|ZB g;have a4:U<|RK f R (k1+1) ts.tail.tail:=t.below g;clear g t Z a0 a1;go_upto_region 9 with fail;refine Zs λP D=>?_;have i:BW f P:=by rw[D];exact Yc
   have a5:U<|Ya P f.heap.size [E kd2,E at2,.string tx2,E tv2] 389:=I<|by rw[D];exact YO
   have a6:=I<|a2.below i;have c4:=I<|a3.below i;have a7:U<|w.grownBy P<|some R.b:=Zi B.o<|ZB i;have l:U<|RK P R (k1+1) ts.tail.tail:=a4.below i;have f2:R.b<f.heap.size:=by have:=B.size;omega
   clear D i a2 a3 a4 B;have t0:=a5.cell;by_cases p:(hd ts.tail.tail).jj=3
   .have a8:kd2=2:=by have:=A.1;rw[p]at this;exact this
    subst a8;have c5:U<|ZK ts=.ok (((hd ts).txt,(hd ts.tail.tail).txt,false),ts.tail.tail.tail):=I<|by rw[V.o,OE p];rfl
    have c6:U<|bl tx2=(hd ts.tail.tail).txt:=A.2.2.1;obtain⟨rc0,rc1,rfz,_⟩:=l.rd.all;have d8:=l.lt;go_upto_region 12 with fail;refine Zs λG d=>?_;have c7:U<|RK G R (k1+1+1) ts.tail.tail.tail:=I<|by rw[d];exact l.step X
    have c8:U<|w.grownBy G<|some R.b:=I<|by rw[d];exact Zn a7.o (Or.inl C) _
    have J:U<|Ya G w.heap.size [.string ByteArray.empty,.bool false,.string ByteArray.empty] 374:=I<|by rw[d];exact a6.other (by show w.heap.size≠R.b;omega) _
    have c9:U<|Ya G z.heap.size [E kd,E at_,.string ⟨#[61]⟩,E tv] 389:=I<|by rw[d];exact c4.other (by show z.heap.size≠R.b;have:=S.size;omega) _
    have d4:U<|Ya G f.heap.size [E 2,E at2,.string tx2,E tv2] 389:=I<|by rw[d];exact a5.other (by show f.heap.size≠R.b;omega) _
    clear d rc0 rc1 rfz t0;have f0:=J.frozen;have c0:=J.cell;have d2:=c9.cell;have e2:=d4.cell;go_wp2;exact Ss (r:=.tuple #[.agg #[.string x,.bool false,.string tx2],.nilIface]) (λW s0 s1 s2=>by simp[results,results300,go_sem,s0,s1,s2]) C J.o ⟨_,_,_,_,C,by rw[c5.o];exact⟨C,⟨_,(RK.fresh H.o c7.o (Yj _) λj hj=>OR hj)⟩,HX.o,c6.o,C⟩,P6 c8.o (Yj _) _ _ _⟩
   .have a8:((kd2:Int) !=2)=true:=by
     rw[Vg];intro e;exact p<|(P3 l.wf.head.2.2).2.2.1.1<|by have:=A.1;simp only at this;omega
    have a9:U<|ZK ts=.error (2,(hd ts.tail.tail).at_):=I<|by rw[V.o,Nw p];rfl
    go_wp2_with fail;refine(Oy l.o).m ?_;rintro e wE ⟨v,rfl,K,m⟩;obtain⟨fa,rfl⟩:=K.shape;have a:=I<|a6.below m;have b0:U<|w.grownBy wE<|some R.b:=Zi a7.o<|ZB m;clear m;have f0:=a.frozen;have c0:=a.cell;go_wp2;exact Ss (r:=.tuple #[.agg #[.string ⟨#[]⟩,.bool false,.string ⟨#[]⟩],.iface 92<|Vp fa]) (λW s0 s1 s2=>by simp[results,results300,go_sem,s0,s1,s2]) C a.o ⟨_,_,_,_,C,by rw[a9.o];exact K.set3 a.o N _ _ _,P6 b0.o (Yj _) _ _ _⟩
  .rw[show Yk (bl ⟨#[61]⟩) (hd ts.tail)=false from Qs.2 M];have d0:=s.cell 0;have d1:=s.cell 1;have d2:=s.cell 2;have d3:=s.cell 3;simp only[Yf]at d0 d1 d2 d3;go_wp2_with fail;clear d0 d1 d2 d3;refine(Nu ht.o T.wf.head.1 T.wf.head.2.2 ⟨#[33,61]⟩ N N w3).m ?_;rintro e w4 ⟨rfl,b1⟩;have c3:=I<|s.below b1;have b4:=I<|b9.below b1;have b3:U<|w.grownBy w4<|some R.b:=Zi c1.o<|ZB b1;have n:U<|RK w4 R k1 ts.tail:=T.below b1;clear b1 s b9 c1 T;by_cases hB:Yk [33,61] (hd ts.tail)=true
   .rw[show Yk (bl ⟨#[33,61]⟩) (hd ts.tail)=true from hB];have c2:tx=⟨#[33,61]⟩:=ZbH<|ht.2.2.1.trans<|M6 hB;subst c2;have HD:U<|¬((hd ts.tail).jj=0\/(hd ts.tail).jj=5):=QA hB;have V:U<|ZK ts=bnd (Zk 3 ts.tail.tail) λb r=>.ok (((hd ts).txt,b,true),r):=I<|by unfold ZK;rw[OE L];show bnd (RC ts.tail) _=_;unfold RC;rw[Ye hB];rfl
    clear M hB;obtain⟨rc0,rc1,rfz,_⟩:=n.rd.all;have e9:=n.lt;have f1:=n.len;go_wp2_with fail;refine Zv λO o=>?_;have t:U<|RK O R (k1+1) ts.tail.tail:=I<|by rw[o];exact n.step HD.o
    have Z:U<|w.grownBy O<|some R.b:=I<|by rw[o];exact Zn b3.o (Or.inl C) _
    have a0:U<|Ya O w.heap.size [.string ByteArray.empty,.bool false,.string ByteArray.empty] 374:=I<|by rw[o];exact b4.other (by show w.heap.size≠R.b;omega) _
    have a1:U<|Ya O z.heap.size [E kd,E at_,.string ⟨#[33,61]⟩,E tv] 389:=I<|by rw[o];exact c3.other (by show z.heap.size≠R.b;have:=S.size;omega) _
    clear o rc0 rc1 rfz;refine(QL t.o).m ?_;rintro e f ⟨⟨kd2,at2,tx2,tv2⟩,rfl,A,g⟩;have a2:=I<|a0.below g;have a3:=I<|a1.below g;have B:U<|w.grownBy f<|some R.b:=Zi Z.o<|ZB g;have a4:U<|RK f R (k1+1) ts.tail.tail:=t.below g;clear g t Z a0 a1;go_upto_region 9 with fail;refine Zs λP D=>?_;have i:BW f P:=by rw[D];exact Yc
    have a5:U<|Ya P f.heap.size [E kd2,E at2,.string tx2,E tv2] 389:=I<|by rw[D];exact YO
    have a6:=I<|a2.below i;have c4:=I<|a3.below i;have a7:U<|w.grownBy P<|some R.b:=Zi B.o<|ZB i;have l:U<|RK P R (k1+1) ts.tail.tail:=a4.below i;have f2:R.b<f.heap.size:=by have:=B.size;omega
    clear D i a2 a3 a4 B;have t0:=a5.cell;by_cases p:(hd ts.tail.tail).jj=3
    .have a8:kd2=2:=by have:=A.1;rw[p]at this;exact this
     subst a8;have c5:U<|ZK ts=.ok (((hd ts).txt,(hd ts.tail.tail).txt,true),ts.tail.tail.tail):=I<|by rw[V.o,OE p];rfl
     have c6:U<|bl tx2=(hd ts.tail.tail).txt:=A.2.2.1;obtain⟨rc0,rc1,rfz,_⟩:=l.rd.all;have d8:=l.lt;go_upto_region 12 with fail;refine Zs λG d=>?_;have c7:U<|RK G R (k1+1+1) ts.tail.tail.tail:=I<|by rw[d];exact l.step X
     have c8:U<|w.grownBy G<|some R.b:=I<|by rw[d];exact Zn a7.o (Or.inl C) _
     have J:U<|Ya G w.heap.size [.string ByteArray.empty,.bool false,.string ByteArray.empty] 374:=I<|by rw[d];exact a6.other (by show w.heap.size≠R.b;omega) _
     have c9:U<|Ya G z.heap.size [E kd,E at_,.string ⟨#[33,61]⟩,E tv] 389:=I<|by rw[d];exact c4.other (by show z.heap.size≠R.b;have:=S.size;omega) _
     have d4:U<|Ya G f.heap.size [E 2,E at2,.string tx2,E tv2] 389:=I<|by rw[d];exact a5.other (by show f.heap.size≠R.b;omega) _
     clear d rc0 rc1 rfz t0;have f0:=J.frozen;have c0:=J.cell;have d2:=c9.cell;have e2:=d4.cell;go_wp2;exact Ss (r:=.tuple #[.agg #[.string x,.bool true,.string tx2],.nilIface]) (λW s0 s1 s2=>by simp[results,results300,go_sem,s0,s1,s2]) C J.o ⟨_,_,_,_,C,by rw[c5.o];exact⟨C,⟨_,(RK.fresh H.o c7.o (Yj _) λj hj=>OR hj)⟩,HX.o,c6.o,C⟩,P6 c8.o (Yj _) _ _ _⟩
    .have a8:((kd2:Int) !=2)=true:=by
      rw[Vg];intro e;exact p<|(P3 l.wf.head.2.2).2.2.1.1<|by have:=A.1;simp only at this;omega
     have a9:U<|ZK ts=.error (2,(hd ts.tail.tail).at_):=I<|by rw[V.o,Nw p];rfl
     go_wp2_with fail;refine(Oy l.o).m ?_;rintro e wE ⟨v,rfl,K,m⟩;obtain⟨fa,rfl⟩:=K.shape;have a:=I<|a6.below m;have b0:U<|w.grownBy wE<|some R.b:=Zi a7.o<|ZB m;clear m;have f0:=a.frozen;have c0:=a.cell;go_wp2;exact Ss (r:=.tuple #[.agg #[.string ⟨#[]⟩,.bool false,.string ⟨#[]⟩],.iface 92<|Vp fa]) (λW s0 s1 s2=>by simp[results,results300,go_sem,s0,s1,s2]) C a.o ⟨_,_,_,_,C,by rw[a9.o];exact K.set3 a.o N _ _ _,P6 b0.o (Yj _) _ _ _⟩
   .rw[show Yk (bl ⟨#[33,61]⟩) (hd ts.tail)=false from Qs.2 hB];have a9:U<|ZK ts=.error (2,(hd ts.tail).at_):=I<|by unfold ZK;rw[OE L];show bnd (RC ts.tail) _=_;unfold RC;rw[Yd hB];unfold Zf;rw[Yd M];rfl
    clear M hB;go_wp2_with fail;refine(Oy n.o).m ?_;rintro e wE ⟨v,rfl,K,m⟩;obtain⟨fa,rfl⟩:=K.shape;have a:=I<|b4.below m;have b0:U<|w.grownBy wE<|some R.b:=Zi b3.o<|ZB m;clear m;have f0:=a.frozen;have c0:=a.cell;go_wp2;exact Ss (r:=.tuple #[.agg #[.string ⟨#[]⟩,.bool false,.string ⟨#[]⟩],.iface 92<|Vp fa]) (λW s0 s1 s2=>by simp[results,results300,go_sem,s0,s1,s2]) C a.o ⟨_,_,_,_,C,by rw[a9.o];exact K.set3 a.o N _ _ _,P6 b0.o (Yj _) _ _ _⟩
 .rw[Nw L]at q;obtain⟨fa,rfl⟩:=q.shape;have K:U<|WJ w1 R (2,(hd ts).at_) _:=q.o;have HP:U<|ZK ts=.error (2,(hd ts).at_):=I<|by unfold ZK;rw[Nw L];rfl
  have f0:=Q.frozen;have c0:=Q.cell;clear q;go_wp2;exact Ss (r:=.tuple #[.agg #[.string ⟨#[]⟩,.bool false,.string ⟨#[]⟩],.iface 92<|Vp fa]) (λW s0 s1 s2=>by simp[results,results300,go_sem,s0,s1,s2]) C Q.o ⟨_,_,_,_,C,by rw[HP.o];exact K.set3 Q.o N _ _ _,P6 d5.o (Yj _) _ _ _⟩
theorem Zw{α β:Type}{x:Yl α}{f:α->List Yg->Yl β}{z:β×List Yg}(h:bnd x f=.ok z):∃a t,x=.ok (a,t)/\f a t=.ok z:=by
 cases x with
 |error e=>cases h
 |ok y=>exact⟨y.1,y.2,C,h⟩
theorem Ms{α:Type}{item:List Yg->Yl α}{close:LB}(e:∀t z,item t=.ok z->z.2.length+1<=t.length):∀(n:Nat)(acc:List α)(ts:List Yg)(z:List α×List Yg),ZI item close n acc ts=.ok z->z.2.length+1<=ts.length
 |0,_,_,_,h=>by cases h
 |n+1,acc,ts,z,h=>by
  have c:(if Yk _ _ then .ok _ else bnd _ _)=.ok z:=h;cases d:Yk close<|hd ts
  · rw[d]at c;obtain⟨_,t1,f,g⟩:=Zw c;obtain⟨a,t2,i,j⟩:=Zw g;have l1:t1.length<=ts.length:=by
      split at f
      .simp_all
      .have:=SD f;simp_all;omega
    have l2:=e _ _ i;have l3:=Ms e n _ _ _ j;simp at l2;omega
  .rw[d]at c;injection c with c;subst c;have:=M5 d;simp_all
theorem KF(k:Nat)(a:k≠0):∀t z,Zk k t=.ok z->z.2.length+1<=t.length:=λ_ _ h=>Nat.le_of_eq (KG a h).1
theorem Bm{z:Nd×List Yg}(h:YP ts=.ok z):z.2.length+1<=ts.length:=by
 unfold YP at h;obtain⟨a,t,c,d⟩:=Zw h;have l1:t.length+1=ts.length:=by
  unfold Qa at c;split at c
  .cases c
  .exact(KG N c).1
 split at d
 .obtain⟨cs,t2,e,f⟩:=Zw d;have l2:=Ms K5 _ _ _ _ e;cases f;simp_all;omega
 .cases d;simp_all
theorem Ao{o:Nat}(h:Xu o ts=.ok z):z.2.length+1<=ts.length:=by
 unfold Xu at h;obtain⟨_,t1,c,h⟩:=Zw h;obtain⟨_,t2,d,h⟩:=Zw h;obtain⟨_,t3,e,h⟩:=Zw h;obtain⟨_,t4,a,h⟩:=Zw h;obtain⟨_,t5,f,h⟩:=Zw h;obtain⟨_,t6,g,h⟩:=Zw h;cases h;have a1:=SD c;have a2:=Bm d;have a3:=SD e;have a4:t4.length<=t3.length:=by
  unfold T0 at a;split at a
  .injection a with a;injection a with _ a;subst a;simp
  .cases a
 have a5:=SD f;have a6:=SD g;simp_all;omega
theorem As(a:∀lv t d z,rec lv t d=.ok z->z.2.length+1<=t.length)(h:Z9 rec ts deep=.ok z):z.2.length+1<=ts.length:=by
 unfold Z9 at h;obtain⟨_,t1,c,h⟩:=Zw h;obtain⟨_,t2,e,h⟩:=Zw h;obtain⟨_,t3,f,h⟩:=Zw h;cases h;have a1:=SD c;have a2:=a _ _ _ _ e;have a3:=SD f;simp_all;omega
theorem qt(a:∀lv t d z,rec lv t d=.ok z->z.2.length+1<=t.length)(h:Tf rec g ts deep=.ok z):z.2.length+1<=ts.length:=by
 unfold Tf at h;obtain⟨_,t1,c,h⟩:=Zw h;obtain⟨_,t2,e,h⟩:=Zw h;obtain⟨_,t3,f,h⟩:=Zw h;obtain⟨_,t4,i,h⟩:=Zw h;cases h;have a1:=SD c;have a2:=SD e;have a3:=Ms (KF 2 N) _ _ _ _ f;have a4:=As a i;simp_all;omega
theorem rX(a:∀lv t d z,rec lv t d=.ok z->z.2.length+1<=t.length)(h:ZR rec ts deep=.ok z):z.2.length+1<=ts.length:=by
 unfold ZR at h;have f:ts.tail.length<=ts.length:=Sm;split at h
 .rename_i e;cases h;cases ts with
  |nil=>exact absurd e N
  |cons t r=>simp
 .split at h
  .obtain⟨_,t1,c,h⟩:=Zw h;cases h;have:=a _ _ _ _ c;simp_all;omega
  .split at h
   .exact As a h
   .split at h
    .have:=qt a h;omega
    .split at h
     .have:=Ao h;omega
     .obtain⟨_,t1,c,h⟩:=Zw h;cases h;exact Bm c
theorem SS:∀(n:Nat)(m:Bool)(lv:Nat)(a:Tr)(ts:List Yg)(deep:Nat)(z:Tr×List Yg),Zh n m lv a ts deep=.ok z->z.2.length+(if m then 0 else 1)<=ts.length
 |0,_,_,_,_,_,_,h=>by cases h
 |n+1,false,lv,a,ts,deep,z,h=>by
  have f:∀lv t d z,Zh n false _ .nil t d=.ok z->z.2.length+1<=t.length:=λlv t d z h=>SS n _ lv _ t d z h;unfold Zh at h;split at h
  · unfold Ug at h;split at h
    · split at h
      .cases h
      .exact rX f h
    .cases h
  .obtain⟨b,t1,c,e⟩:=Zw h;have l1:=f _ _ _ _ c;have l2:=SS n _ _ b _ _ z e;simp_all;omega
 |n+1,true,lv,a,ts,deep,z,h=>by
  unfold Zh at h;split at h
  .cases h;simp
  .obtain⟨b,t1,c,e⟩:=Zw h;have l1:=SS n _ _ _ _ _ _ c;have l2:=SS n _ _ _ _ _ z e;simp_all;omega
def PK(w:Y)(base:Nat)(p:PV)(ns:List<|LB):Prop:=∃bs:List BA,w.ownsRow base 9 1 (.slice p.ba p.bn p.bc) bs.length (bs.map .string)/\bs.map bl=ns
def LD(w:Y)(nd:Nd)(p:PV):Prop:=p.k=nd.jj/\p.n=nd.n/\p.op=nd.op/\bl p.nm=nd.name/\ZP w 0 p nd.kq/\PK w 0 p nd.by_
def WZ:Tr->Nat
 |.nil=>0
 |.node _ _ _ l r=>WZ l+WZ r+1
def XF(w:Y)(xs:List F):Tr->Nat->Prop
 |.nil,_=>True
 |.node _ _ nd l r,i=>∃(p:PV)(a b:Nat),(xs.drop<|i*8).take 8=p.cells/\LD w nd p/\p.a=a/\p.b=b/\a<=i/\b<=i/\XF w xs l a/\XF w xs r b
theorem Oz(p:PV):p.cells.length=8:=rfl
theorem Hd(f:YN w b q)(c:w.ownsRow 0 59 8 pv n xs)(g:Yv b pv w pv' w')
 {e:TypeId}{size:Nat}{m:Nat}(h:w.ownsRow base e size v m ys)(i:264≠e)(j:e≠59):w'.ownsRow base e size v m ys:=by
 refine ZJ h λk a=>g.block k (h.lt k a).2 ?_ ?_
 .rintro rfl;exact ZD h f i a.symm
 .rw[<-a];rcases QD h c j with d|d
  .rw[d]at a;cases a
  .exact d
theorem ZP.kept(c:YN w b q)(a:w.ownsRow 0 59 8 pv n xs)(d:Yv b pv w pv' w')(h:ZP w base p cs):ZP w' base p cs:=by
 obtain⟨qs,e,f⟩:=h;exact⟨qs,Hd c a d e N N,f⟩
theorem PK.kept(c:YN w b q)(a:w.ownsRow 0 59 8 pv n xs)(d:Yv b pv w pv' w'){ns:List<|LB}(h:PK w base p ns):PK w' base p ns:=by
 obtain⟨qs,e,f⟩:=h;exact⟨qs,Hd c a d e N N,f⟩
theorem fH{l:List F}(h:(xs.drop<|i*8).take 8=l)(a:l.length=8):((xs++ys).drop<|i*8).take 8=l:=by
 have c:i*8+8<=xs.length:=by
  have:=congrArg List.length h;rw[Xw,Ur,a]at this;omega
 rw[MS X,JX<|by rw[Ur];omega];exact h
theorem XF.kept{w w':Y}{b:Nat}{pv pv':F}{q:QV}{n:Nat}{xs:List F}(e:YN w b q)(d:w.ownsRow 0 59 8 pv n xs)(f:Yv b pv w pv' w')(ys:List F):∀(t:Tr)(i:Nat),XF w xs t i->XF w' (xs++ys) t i
 |.nil,_,_=>trivial
 |.node _ _ nd l r,i,h=>by
  obtain⟨p,a,c,g,⟨g1,g2,g3,g4,g5,g6⟩,j,k,m,o,s,u⟩:=h;exact⟨p,a,c,fH g<|Oz p,⟨g1,g2,g3,g4,g5.kept e d f,g6.kept e d f⟩,j,k,m,o,XF.kept e d f ys l a s,XF.kept e d f ys r c u⟩
theorem gJ(h:xs.length=n*8)(p:PV):((xs++p.cells).drop<|n*8).take 8=p.cells:=by
 rw[<-h,List.drop_left];rfl
theorem Yw.factor{e p:Nat}(h:Yw w b pv e p deep):
 CP 242 #[Vp b] w λr u=>r=.returned (E 0)/\u=w:=by
 obtain⟨q,a,c,d,f,g,i⟩:=h;obtain⟨c0,c1,c2,c3,c4,c5,c6,c7,c8⟩:=a.all;have j:((q.e:Int) !=0)=true:=by rw[Vg];omega
 have H:U<|Yw w b pv e p deep:=⟨q,a,c,d,f,g,i⟩;clear a c d f g i;generalize l:((q.k:Int)==1)=x1;generalize m:((q.k:Int)==2)=x2;go_enter func242,ntmps242;go_wp2_with fail;refine(Yw.is H.o _).m ?_;rintro r u ⟨rfl,rfl⟩;go_wp2_with fail;refine(Yw.is H.o _).m ?_;rintro r u ⟨rfl,rfl⟩;go_wp2_with fail;refine(Yw.is H.o _).m ?_;rintro r u ⟨rfl,rfl⟩;go_wp2_with fail;refine(Yw.is H.o _).m ?_;rintro r u ⟨rfl,rfl⟩;cases x1<;>cases x2;all_goals
  go_wp2_with fail;refine(Yw.fail H.o _).m ?_;rintro r u ⟨rfl,rfl⟩;go_wp2;go_ret;exact⟨C,C⟩
theorem Yw.term{e p:Nat}(h:Yw w b pv e p deep):
 CP 214 #[Vp b] w λr u=>r=.returned (E 0)/\u=w:=by
 have H:U<|Yw w b pv e p deep:=h;clear h;go_enter func214,ntmps214;go_wp2_with fail;refine(Yw.factor H.o).m ?_;rintro r u ⟨rfl,rfl⟩;go_wp2;go_loop [3] (λv=>v=E 0) (λ_=>0);case atStart=>rfl
 case round=>
  subst hrel;go_wp2_with fail;refine(Yw.is H.o _).m ?_;rintro r u ⟨rfl,rfl⟩;go_wp2_with fail;refine(Yw.is H.o _).m ?_;rintro r u ⟨rfl,rfl⟩;go_wp2;go_ret;exact⟨C,C⟩
theorem Yw.sum{e p:Nat}(h:Yw w b pv e p deep):
 CP 184 #[Vp b] w λr u=>r=.returned (E 0)/\u=w:=by
 have H:U<|Yw w b pv e p deep:=h;clear h;go_enter func184,ntmps184;go_wp2_with fail;refine(Yw.term H.o).m ?_;rintro r u ⟨rfl,rfl⟩;go_wp2;go_loop [3] (λv=>v=E 0) (λ_=>0);case atStart=>rfl
 case round=>
  subst hrel;go_wp2_with fail;refine(Yw.is H.o _).m ?_;rintro r u ⟨rfl,rfl⟩;go_wp2_with fail;refine(Yw.is H.o _).m ?_;rintro r u ⟨rfl,rfl⟩;go_wp2;go_ret;exact⟨C,C⟩
theorem Yw.query{e p:Nat}(h:Yw w b pv e p deep):
 CP 153 #[Vp b] w λr u=>r=.returned (E 0)/\u=w:=by
 have H:U<|Yw w b pv e p deep:=h;clear h;go_enter func153,ntmps153;go_wp2_with fail;refine(Yw.sum H.o).m ?_;rintro r u ⟨rfl,rfl⟩;go_wp2;go_loop [3] (λv=>v=E 0) (λ_=>0);case atStart=>rfl
 case round=>
  subst hrel;go_wp2_with fail;refine(Yw.is H.o _).m ?_;rintro r u ⟨rfl,rfl⟩;go_wp2;go_ret;exact⟨C,C⟩
def Xq{α:Type}(M n:Nat)(r:Yl α):Prop:=match r with
 |.error _=>n<=M
 |.ok x=>n+x.2.length<=M
theorem Xq.le{α:Type}{r:Yl α}(h:Xq M n r):n<=M:=by
 cases r with
 |error e=>exact h
 |ok x=>exact Xb (It _ _) h
theorem Xq.bnd{α β:Type}{r:Yl α}{f:α->List Yg->Yl β}(h:Xq M n r)(c:∀a ts z,r=.ok (a,ts)->f a ts=.ok z->z.2.length<=ts.length):Xq M n<|bnd r f:=by
 cases r with
 |error e=>exact h
 |ok x=>
  obtain⟨a,ts⟩:=x;have g:n+ts.length<=M:=h;show Xq M n<|f a ts;cases d:f a ts with
  |error e=>exact(show n<=M by omega)
  |ok z=>have:=c a _ z C d;exact(show n+z.2.length<=M by omega)
theorem Xq.unit{α:Type}{r:Yl α}(h:Xq M n r):Xq M n<|Zj r:=by
 cases r with
 |error e=>exact h
 |ok x=>exact h
theorem Xq.of_unit{α:Type}{r:Yl α}(h:Xq M n<|Zj r):Xq M n r:=by
 cases r with
 |error e=>exact h
 |ok x=>exact h
theorem Xq.up{α:Type}{M' n':Nat}{r:Yl α}(h:Xq M n r)(c:M+n'<=M'+n):Xq M' n' r:=by
 cases r with
 |error e=>have a:n<=M:=h;exact(show n'<=M' by omega)
 |ok x=>have a:n+x.2.length<=M:=h;exact(show n'+x.2.length<=M' by omega)
theorem Xq.take (h:Xq M n r)(c:LB):Xq M n<|LS.bnd r λ_ ts=>Zf c ts:=
 h.bnd λ_ _ _ _ a=>by have:=SD a;omega
structure Yi (w:Y)(b:Nat)(pv:F)(s:BA)(deep:Nat)(xs:List F)(M:Nat)(R:Yl Tr)(i:Int)(w':Y):Prop where
 o:∃(n':Nat)(pv':F)(ys:List F),St w' b pv' s deep (Zj R)/\w'.ownsRow 0 59 8 pv' n' (xs++ys)/\Yv b pv w pv' w'/\Xq M n' R/\
  (∀t z,R=.ok (t,z)->∃k:Nat,i=k/\XF w' (xs++ys) t k/\k+1=n'/\ys.length=8*WZ t)
def We(f:FuncId)(s:BA)(R:List Yg->Nat->Yl Tr)(L:Nat):Prop:=
 ∀(w:Y)(b:Nat)(pv:F)(deep:Nat)(r:Yl Unit)(n:Nat)(xs:List F)(M:Nat),St w b pv s deep r->w.ownsRow 0 59 8 pv n xs->M<=6000->Xq M n r->(∀ts,r=.ok ((),ts)->ts.length<=L)->deep<=20->
  CP f #[Vp b] w λe w'=>∃i:Int,e=.returned (E i)/\Yi w b pv s deep xs M (LS.bnd r λ_ ts=>R ts deep) i w'
theorem We.mono{R:List Yg->Nat->Yl Tr}{L':Nat}(h:We f s R L)(a:L'<=L):We f s R L':=
 λw b pv deep r n xs M c d g i j k=>h w b _ _ r n _ M c d g i (λts e=>Xb (j _ e) a) k
theorem Yi.error{x:Nat×Nat}(h:St w b pv s deep<|.error x)(a:w.ownsRow 0 59 8 pv n xs)(c:n<=M):Yi w b pv s deep xs M (.error x) 0 w:=
 ⟨n,pv,[],h,by rw[Ud];exact a,Yv.refl _ _ _,c,λ_ _ h=>(by cases h)⟩
theorem VZ(h:St w b pv s deep r)(a:w.ownsRow 0 59 8 pv n xs)(c:w.grownBy w'<|some b):w'.ownsRow 0 59 8 pv n xs:=by
 obtain⟨q,d,_⟩:=h.view;exact a.kept c<|.inr λe=>ZD a d N e.symm
theorem Ox {α β γ:Type}(r:Yl α)(f:α->List Yg->Yl β)(g:β->List Yg->Yl γ):bnd (bnd r f) g=bnd r λa ts=>bnd (f a ts) g:=by
 cases r with
 |error e=>rfl
 |ok x=>rfl
theorem pD {c:LB}(h:∀ts,r=.ok ((),ts)->ts.length<=L+1):∀ts,(bnd r λ_ ts=>Zf c ts)=.ok ((),ts)->ts.length<=L:=by
 intro ts e;obtain⟨_,t,a,d⟩:=Zw e;have:=SD d;have:=h t a;simp at*;omega
theorem Yi.behind{a:Y}{n':Nat}{R R2:Yl Tr}{i:Int}(d:St w' b pv' s deep<|Zj R)(f:w'.ownsRow 0 59 8 pv' n'<|xs++ys)(g:Yv b pv w pv' w')
 (h:Xq M n' R2)(j:∀t z,R=.ok (t,z)->∃k:Nat,i=k/\XF w' (xs++ys) t k/\k+1=n'/\ys.length=8*WZ t)(c:w'.grownBy a<|some b)(l:St a b pv' s deep<|Zj R2)(m:∀t z,R2=.ok (t,z)->∃z',R=.ok (t,z')):Yi w b pv s deep xs M R2 i a:=by
 obtain⟨q,n,o,_⟩:=d.view;refine⟨n',pv',ys,l,VZ d f c,g.grown c,h,?_⟩;intro t z e;obtain⟨z',e'⟩:=m t z e;obtain⟨k,k1,k2,k3⟩:=j t z' e';refine⟨k,k1,?_,k3⟩;have:=XF.kept n f ((Yv.refl b _ _).grown c) [] t k k2;rwa [Ud]at this
theorem yZ {α:Type}(R:Yl α)(c:LB):Zj (bnd R λa ts=>bnd (Zf c ts) λ_ z=>.ok (a,z))=bnd (Zj R) λ_ ts=>Zf c ts:=by
 cases R with
 |error e=>rfl
 |ok x=>
  show Zj (bnd (Zf c x.2) λ_ z=>.ok (x.1,z))=Zf c x.2;cases Zf c x.2 with
  |error e=>rfl
  |ok y=>rfl
theorem uO {α:Type}{R:Yl α}(h:Xq M n R){c:LB}:Xq M n<|bnd R λa ts=>bnd (Zf c ts) λ_ z=>.ok (a,z):=
 h.bnd λa ts z _ e=>by
  obtain⟨_,t,f,d⟩:=Zw e;injection d with d;subst d;have:=SD f;simp at*;omega
theorem lV {α:Type}{R:Yl α}{c:LB}{t:α}{z:List Yg}(h:(bnd R λa ts=>bnd (Zf c ts) λ_ z=>(.ok (a,z):Yl α))=.ok (t,z)):∃z',R=.ok (t,z'):=by
 obtain⟨a,ts,e,f⟩:=Zw h;obtain⟨_,t2,g,d⟩:=Zw f;injection d with d;injection d with d h5;subst d;exact⟨ts,e⟩
theorem FN (r:Yl Unit)(rec:Nat->List Yg->Nat->Yl Tr)(deep:Nat):(bnd r λ_ ts=>Z9 rec ts deep)=bnd (bnd (bnd r λ_ ts=>Zf [40] ts) λ_ ts=>rec 0 ts deep) λa ts=>bnd (Zf [41] ts) λ_ z=>.ok (a,z):=by
 rw[Ox,Ox];rfl
theorem yD (j:s.size<=6000)(k:We 153 s (λts d=>rec 0 ts d) L):
 We 287 s (Z9 rec)<|L+1:=by
  intro w b pv deep r n xs M h f K l m o;have H:=I h;have O:=I f;have P:=I k;have Q:=I l;have R:=I m;clear h f k l m;go_enter func287,ntmps287;go_wp2_with fail;refine(St.take H j _).m ?_;rintro e S ⟨rfl,a,c⟩;rw[show bl _=[40]from C]at a;have p:=I a;have q:=I<|VZ H O c;have u:=I c;clear a c;go_wp2_with fail;refine(P _ b _ _ _ n _ M p q K (Xq.take Q _) (pD R) o).m ?_;rintro e T ⟨i,rfl,v⟩;obtain⟨n2,pv2,ys,s2,o2,k2,b2,r2⟩:=v.o;have g:U<|St _ b _ s _<|Zj<|bnd _ λ_ ts=>rec 0 _ _:=s2;have x:=I o2;have A:=I<|((Yv.refl b _ w).grown u).trans k2;have B:U _:=b2;have D:=I r2;clear v s2 o2 k2 b2 r2;go_wp2_with fail;refine(St.take g j _).m ?_;rintro e V ⟨rfl,a,c⟩;rw[show bl _=[41]from C,<-yZ,<-FN]at a;have G:U _:=a;have J:=I c;clear a c;go_wp2;go_ret;refine⟨i,C,Yi.behind g x A ?_ D J G ?_⟩
  .rw[FN];exact uO B
  .intro t z e;rw[FN]at e;exact lV e
theorem St.lay(h:St w b pv s deep r)(c:w.ownsRow 0 59 8 pv n xs)(v:n<=6000)(p:PV):
 CP 186 #[Vp b,.agg #[E p.k,E p.n,E p.op,.string p.nm,.slice p.ca p.cn p.cc,.slice p.ba p.bn p.bc,E p.a,E p.b]] w λe u=>
  ∃pv',e=.returned (E n)/\St u b pv' s deep r/\u.ownsRow 0 59 8 pv' (n+1) (xs++p.cells)/\Yv b pv w pv' u:=by
 cases r with
 |error x=>
  obtain⟨q,d,f,g,i,j,l⟩:=h;subst f;refine(Ae w b q d n c v p).m ?_;rintro e u ⟨pv',rfl,m,o,t⟩;exact⟨pv',C,⟨_,m,C,g,i,j,l⟩,o,t⟩
 |ok x=>
  obtain⟨⟨q,d,f,g,i,j,l,z⟩,_⟩:=h;subst f;refine(Ae w b q d n c v p).m ?_;rintro e u ⟨pv',rfl,m,o,t⟩;exact⟨pv',C,⟨⟨_,m,C,g,i,j,l,z⟩,trivial⟩,o,t⟩
theorem JA(h:St w b pv s deep r)(d:w.ownsRow 0 59 8 pv n xs)(e:Yv b pv w pv' w')(p:PV)(nd:Nd)(t u:Tr)(a c:Nat)
 (j:LD w nd p)(k:p.a=a)(l:p.b=c)(g:a<=n)(i:c<=n)(m:XF w xs t a)(o:XF w xs u c):XF w' (xs++p.cells) (.node 0 0 nd t u) n:=by
 obtain⟨q,f,_⟩:=h.view;obtain⟨g1,g2,g3,g4,g5,g6⟩:=j;exact⟨p,a,c,gJ d.1 p,⟨g1,g2,g3,g4,g5.kept f d e,g6.kept f d e⟩,k,l,g,i,XF.kept f d e _ t a m,XF.kept f d e _ u c o⟩
theorem Yv.set{p1 p2:F}{c z:Y}(h:Yv b p1 c p2 z){a:Addr}(g:c.heap.size<=a.block)(v:F):Yv b p1 c p2<|z.setCell a v:=
 ⟨h.os,h.tape,h.output,by rw[Go.Deep.nblk_setCell];exact h.size,λk d e f=>(Go.Deep.blk_setCell_other _ _ _ _ X).trans<|h.block k d e f,h.own⟩
theorem Jv{e:TypeId}{size:Nat}(h:w.ownsRow base e size v n xs):w.ownsRow 0 e size v n xs:=by
 refine⟨h.1,?_⟩;rcases h.2 with a|⟨g,cap,cur,rfl,_,r⟩
 .exact .inl a
 .exact .inr ⟨g,cap,cur,C,Yr _,r⟩
theorem LA{e:TypeId}{size:Nat}(h:w.ownsRow base e size v n xs)(c:Yq w a p)(d:59≠e){o:Nat}{x:F}:(w.setCell ⟨a,o,none⟩ x).ownsRow base e size v n xs:=
 ZJ h λk f=>Go.Deep.blk_setCell_other _ _ _ _<|by rintro rfl;exact ZD h c d f.symm
theorem ZP.grown(h:ZP w base p cs){r:Option Nat}(d:w.grownBy w' r)(e:∀k,(Value.slice p.ca p.cn p.cc).ownBlock=some k->some k≠r):ZP w' base p cs:=by
 obtain⟨qs,a,f⟩:=h;exact⟨qs,ZJ a λk c=>d.block k (a.lt k c).2<|e k c,f⟩

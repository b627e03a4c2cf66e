/- Parts. -/
import Derived.Test.YtmfnolgpaoldpaaGreatDoorW03
set_option linter.all false
set_option maxRecDepth 100000
set_option maxHeartbeats 16000000
namespace Go.Proofs.YtmfnolgpaoldpaaGreatDoor
open Go.RowKit LS Go.Proofs.Tryz
variable {s:BA}{f:FuncId}{c l xs ys:List Value}{ts:List Yg}{cs:List<|LB×LB×Bool}{L M a b base deep g k n o:Nat}{rec:Nat->List Yg->Nat->Yl Tr}{e fr:Nat×Nat}{P:Program}{q:QV}{z:Tr×List Yg}{pv pv' v x y:Value}{w w' w0:World}{t:Yg}{r:Yl Unit}{p:Yu}
def RL(t:Yg):Prop:=(t.jj=2->t.txt.all Zl=true)/\(t.jj=4->t.txt.all (λc=>!Zl c)=true)
def PP:List Yg->Prop
 |[]=>False
 |[t]=>t.jj=0∨t.jj=5
 |t::u::l=>(t.jj=1∨t.jj=2∨t.jj=3∨t.jj=4)/\RL t/\PP (u::l)
theorem PP.tail(h:PP ts)(a:¬((hd ts).jj=0∨(hd ts).jj=5)):PP ts.tail/\1<ts.length:=by
 match ts,h with
 |[t],h=>exact absurd h a
 |t::u::l,h=>exact⟨h.2.2,Sm⟩
theorem PP.head(h:PP ts):RL (hd ts)/\0<ts.length/\(hd ts).jj<=5:=by
 match ts,h with
 |[t],h=>
  have a:t.jj=0∨t.jj=5:=h;refine⟨⟨λe=>?_,λe=>?_⟩,Sm,?_⟩
  .exact absurd (show t.jj=2 from e) X
  .exact absurd (show t.jj=4 from e) X
  .show t.jj<=5;omega
 |t::u::l,h=>exact⟨h.2.1,Sm,by have:=h.1;show t.jj<=5;omega⟩
theorem IW{l:List Yu}(h:Uy (p::l) ts):SO p (hd ts)/\Uy l ts.tail:=by
 match ts,h with
 |t::m,h=>exact h
structure RS where
 b:Nat
 g:Nat
 cp:Nat
 ps:List Yu
 sy:Addr
 dp:Addr
structure RK (w:World)(R:RS)(k:Nat)(ts:List Yg):Prop where
 rd:RD w R.b R.g R.cp R.ps k
 all:Uy (R.ps.drop k) ts
 wf:PP ts
 len:R.ps.length<=302
 sy:w.cell? ⟨1,0,none⟩=some (.iface 469<|.pointer<|some R.sy)
 dp:w.cell? ⟨2,0,none⟩=some (.iface 469<|.pointer<|some R.dp)
theorem RK.lt{R:RS}(h:RK w R k ts):k<R.ps.length:=h.rd.lt
theorem RK.tok{R:RS}(h:RK w R k ts):SO (R.ps[k]'h.lt)<|hd ts:=by
 have a:=h.all;rw[List.drop_eq_getElem_cons h.lt]at a;exact(IW a).1
theorem RK.size{R:RS}(h:RK w R k ts):k+ts.length=R.ps.length:=by
 have:=h.all.length;rw[Ur]at this;have:=h.lt;omega
theorem ES{c0 c1:Value}{u:Value}{t:TypeId}(a:w.heap[b]?=some (.cells #[c0,c1] t (0,0)))(c:w.cell? ⟨g,0,none⟩=some v)(d:c0≠v)(_:u=u):g≠b:=by
 rintro rfl;simp[World.cell?,a]at c;simp_all
theorem RK.glob{R:RS}(h:RK w R k ts):1≠R.b/\2≠R.b:=
 ⟨ES (u:=.nilIface) h.rd.cells h.sy Sm C,ES (u:=.nilIface) h.rd.cells h.dp Sm C⟩
theorem RK.below{R:RS}(h:RK w R k ts)(a:BW w w'):RK w' R k ts:=
 ⟨h.rd.below a,h.all,h.wf,h.len,(a.cell<|Xi _ _ h.sy).trans h.sy,(a.cell<|Xi _ _ h.dp).trans h.dp⟩
theorem RK.blocks{R:RS}(h:RK w R k ts)(a:∀j,j<w.heap.size->(j=R.b∨j=R.g∨j=1∨j=2)->w'.heap[j]?=w.heap[j]?):RK w' R k ts:=by
 have c:=Xi _ _ h.sy;have d:=Xi _ _ h.dp;refine⟨⟨?_,?_,h.lt⟩,h.all,h.wf,h.len,?_,?_⟩
 .exact(a _ (Xr.1 h.rd.cells).1<|.inl C).trans h.rd.cells
 .exact ZJ h.rd.own λj e=>by
    have:j=R.g:=by simpa [Value.ownBlock]using e.symm
    subst this;exact a _ (ZN h.rd.own)<|.inr<|.inl C
 .exact(PD<|a _ c<|.inr<|.inr<|.inl C).trans h.sy
 .exact(PD<|a _ d<|.inr<|.inr<|.inr C).trans h.dp
theorem RK.step{R:RS}(h:RK w R k ts)(c:¬((hd ts).jj=0∨(hd ts).jj=5)):RK (w.setCell ⟨R.b,1,none⟩<|E ((k+1:Nat):Int)) R (k+1) ts.tail:=by
 obtain⟨d,e⟩:=h.wf.tail c;have f:=h.size;obtain⟨g1,g2⟩:=h.glob;refine⟨h.rd.step X,?_,d,h.len,?_,?_⟩
 .have a:=h.all;rw[List.drop_eq_getElem_cons h.lt]at a;exact(IW a).2
 .exact(PD<|Go.Deep.blk_setCell_other _ _ _ _ g1).trans h.sy
 .exact(PD<|Go.Deep.blk_setCell_other _ _ _ _ g2).trans h.dp
theorem ZF.lt{p:Int}{a:Addr}(h:ZF w v p a):∃fa:Nat,v=.iface 92 (Vp fa):=by
 obtain⟨fa,c,_⟩:=h;simp_all
theorem ZF.set{p:Int}{a:Addr}(h:ZF w v p a){q:Nat}{c:Array Value}{t:TypeId}(d:w.heap[q]?=some (.cells c t fr))(f:t≠96)(o:Nat)(x:Value):ZF (w.setCell ⟨q,o,none⟩ x) v p a:=by
 obtain⟨fa,g,e⟩:=h;refine⟨fa,g,(Go.Deep.blk_setCell_other _ _ _ _ ?_).trans e⟩;show fa≠q;rintro rfl;rw[e]at d;injection d with h3;injection h3 with _ h4;exact f h4.symm
theorem ZF.grown{p:Int}{a:Addr}(h:ZF w v p a)(f:w.grownBy w'<|some b){c:Array Value}{t:TypeId}(i:w.heap[b]?=some (.cells c t fr))(j:t≠96):ZF w' v p a:=by
 obtain⟨fa,g,d⟩:=h;refine⟨fa,g,(f.block _ (Xr.1 d).1 ?_).trans d⟩;intro e;simp_all
def WJ(w:World)(R:RS)(e:Nat×Nat)(v:Value):Prop:=(e.1=2/\ZF w v e.2 R.sy)∨(e.1=3/\ZF w v e.2 R.dp)
theorem WJ.below{R:RS}(h:WJ w R e v)(d:BW w w'):WJ w' R e v:=by
 rcases h with⟨a,c⟩|⟨a,c⟩
 .exact .inl ⟨a,c.below d⟩
 .exact .inr ⟨a,c.below d⟩
theorem WJ.set{R:RS}(h:WJ w R e v){q:Nat}{c:Array Value}{t:TypeId}(f:w.heap[q]?=some (.cells c t fr))(g:t≠96)(o:Nat)(x:Value):WJ (w.setCell ⟨q,o,none⟩ x) R e v:=by
 rcases h with⟨a,d⟩|⟨a,d⟩
 .exact Or.inl ⟨a,d.set f g o x⟩
 .exact Or.inr ⟨a,d.set f g o x⟩
theorem WJ.shape{R:RS}(h:WJ w R e v):∃fa:Nat,v=.iface 92 (Vp fa):=by
 rcases h with⟨_,a⟩|⟨_,a⟩<;>exact a.lt
def U4{α:Type}(R:RS)(V:World->α->Prop)(w:World)(r:Yl α)(v:Value):Prop:=match r with
 |.error e=>WJ w R e v
 |.ok x=>v=.nilIface/\(∃k,RK w R k x.2)/\V w x.1
theorem P3(h:k<=5):(pk k=3↔k=4)/\(pk k=1↔k=2)/\(pk k=2↔k=3)/\(pk k=0↔k=1)/\(pk k=4↔k=0):=by
 unfold pk;match k,h with
 |0,_=>decide
 |1,_=>decide
 |2,_=>decide
 |3,_=>decide
 |4,_=>decide
 |5,_=>decide
theorem Cn {l:LB}(d:l.all Zl=true)(e:l.all (λc=>!Zl c)=true):l=[]:=by
 cases l with
 |nil=>rfl
 |cons a l=>
  simp_all
theorem R9 (h:SO p t)(f:RL t)(g:t.jj<=5)(l:(bl s).all (λc=>!Zl c)=true)(d:bl s≠[]):ZU p s=Yk (bl s) t:=by
 obtain⟨i,_,j,_⟩:=h;unfold ZU Yk;rw[i,ZA,ZA,j];have m:=(P3 g).1;by_cases a:t.txt=bl s
 · rw[XL.2 a,Ol,Ol];have k:t.jj≠2:=λe=>d<|by rw[<-a];exact Cn (f.1 e)<|by simp_all
   rw[YB.2 k,Ky,Ud,XL,XL];omega
 .rw[YB.2 a,O9,O9]
theorem FP(h:SO p t)(d:RL t)(f:t.jj<=5)(k:(bl s).all Zl=true)(c:bl s≠[]):RG p s=Yk (bl s) t:=by
 obtain⟨g,_,i,_⟩:=h;unfold RG Yk;rw[g,ZA,ZA,i];have l:=(P3 f).2.1;by_cases a:t.txt=bl s
 .rw[XL.2 a,Ol,Ol];have j:t.jj≠4:=λe=>c<|by rw[<-a];exact Cn (by simp_all)<|d.2 e
  rw[YB.2 j,Bool.or_false,Ud,XL,XL];omega
 .rw[YB.2 a,O9,O9]
theorem QB{s:LB}(h:Yk s t=true):¬(t.jj=0∨t.jj=5):=by
 unfold Yk at h;simp_all;omega
theorem Uq.res{R:RS}{ok:Bool}(h:RK w R k ts)(c:w.grownBy w'<|some R.b)(j:Uq w' R.b R.g R.cp R.ps k R.sy (R.ps[k]'h.lt).at_ ok v)(l:ok=true->¬((hd ts).jj=0∨(hd ts).jj=5)){α:Type}{V:World->α->Prop}{a:α}(m:ok=true->V w' a):
 U4 R V w' (if ok then .ok (a,ts.tail)else .error (2,(hd ts).at_)) v:=by
 have o:=h.tok.2.1;rcases j with⟨rfl,rfl,d⟩|⟨rfl,p,d⟩
 .have f:=l C;obtain⟨n,q⟩:=h.wf.tail f;obtain⟨g1,g2⟩:=h.glob;refine⟨C,⟨k+1,d,?_,n,h.len,?_,?_⟩,m C⟩
  .have i:=h.all;rw[List.drop_eq_getElem_cons h.lt]at i;exact(IW i).2
  .exact(PD<|c.block _ (Xi _ _ h.sy) λe=>g1<|Uc e).trans h.sy
  .exact(PD<|c.block _ (Xi _ _ h.dp) λe=>g2<|Uc e).trans h.dp
 constructor<;>simp_all
theorem Qi {R:RS}(h:RK w R k ts)(s:BA)(i:(bl s).all (λc=>!Zl c)=true)(f:bl s≠[]):
 CP 293 #[Vp R.b,.string s] w λe u=>∃v,e=.returned v/\Hid (U4 R (λ_(_:Unit)=>True) u (Zf (bl s) ts) v)/\w.grownBy u (some R.b):=by
  have d:=R9 h.tok h.wf.head.1 h.wf.head.2.2 i f;have j:ZU _ s=true->k+1<R.ps.length:=λe=>by
   have:=(h.wf.tail<|QB<|d.symm.trans e).2;have:=h.size;omega
  refine(fM h.rd s j (by have:=h.len;omega) h.sy).mono ?_;rintro e u ⟨v,rfl,l,g⟩;refine⟨v,C,?_,g⟩;have:=l.res (V:=λ_ _=>True) (a:=()) h g (λe=>QB<|d.symm.trans e) λ_=>trivial;rw[d]at this;exact this
theorem fP{R:RS}(h:RK w R k ts)(g:(bl s).all Zl=true)(d:bl s≠[]):
 CP 294 #[Vp R.b,.string s] w λe u=>∃v,e=.returned v/\Hid (U4 R (λ_(_:Unit)=>True) u (Zf (bl s) ts) v)/\w.grownBy u (some R.b):=by
 have c:=FP h.tok h.wf.head.1 h.wf.head.2.2 g d;have i:RG _ s=true->k+1<R.ps.length:=λe=>by
  have:=(h.wf.tail<|QB<|c.symm.trans e).2;have:=h.size;omega
 refine(fO h.rd s i (by have:=h.len;omega) h.sy).mono ?_;rintro e u ⟨v,rfl,j,f⟩;refine⟨v,C,?_,f⟩;have:=j.res (V:=λ_ _=>True) (a:=()) h f (λe=>QB<|c.symm.trans e) λ_=>trivial;rw[c]at this;exact this
theorem nC(h:SO p t)(a:t.jj<=5):P0 p=decide (t.jj=2):=by
 unfold P0;rw[h.1,Ud,XL,Qs];have c:=(P3 a).2.1;omega
theorem JS{R:RS}(h:RK w R k ts):
 CP 296 #[Vp R.b] w λe u=>∃(x:BA)(v:Value),e=.returned (.tuple #[.string x,v])/\Hid (U4 R (λ_ a=>bl x=a) u (Zk 2 ts) v)/\w.grownBy u (some R.b):=by
 have f:=nC h.tok h.wf.head.2.2;have d:P0 _=true->¬((hd ts).jj=0∨(hd ts).jj=5):=λe=>by
  have:=Rw<|f.symm.trans e;omega
 have j:P0 _=true->k+1<R.ps.length:=λe=>by
  have:=(h.wf.tail<|d e).2;have:=h.size;omega
 refine(fN h.rd j (by have:=h.len;omega) h.sy).mono ?_;rintro e u ⟨x,v,rfl,g,i⟩;refine⟨x,v,C,?_,i⟩;have:=g.1.res (V:=λ_ a=>bl x=a) h i d λe=>g.2 e▸h.tok.2.2.1;rw[f]at this;unfold Zk;by_cases c:(hd ts).jj=2
 .rw[Ye c];rw[WI c]at this;exact this
 .rw[Yd c];rw[Wl c]at this;exact this
theorem Ox{R:RS}(h:RK w R k ts):
 CP 219 #[Vp R.b] w λe u=>∃v,e=.returned v/\Hid (WJ u R (2,(hd ts).at_) v)/\BW w u:=by
 refine(K5 h.rd h.sy).mono ?_;rintro e u ⟨v,rfl,a,c⟩;refine⟨v,C,.inl ⟨C,?_⟩,c⟩;have:=a.out;rw[h.tok.2.1]at this;omega
theorem QM{R:RS}(h:RK w R k ts):
 CP 218 #[Vp R.b] w λe u=>∃t:Yu,e=.returned (.agg #[E t.kd,E t.at_,.string t.tx,E t.v])/\Hid (SO t<|hd ts)/\BW w u:=by
 refine(LY h.rd).mono ?_;rintro e u ⟨rfl,a⟩;exact⟨_,C,h.tok,a⟩
theorem Nt {t:Yu}{u:Yg}(h:SO t u)(d:RL u)(f:u.jj<=5)(s:BA)(g:(bl s).all (λc=>!Zl c)=true)(a:bl s≠[])(w:World):
 CP 274 #[.agg #[E t.kd,E t.at_,.string t.tx,E t.v],.string s] w λe i=>e=.returned (.bool<|Yk (bl s) u)/\BW w i:=by
  rw[<-R9 h d f g a];exact Ha t s w
theorem WJ.grown{R:RS}(h:WJ w R e v)(f:w.grownBy w'<|some b){c:Array Value}{t:TypeId}(g:w.heap[b]?=some (.cells c t fr))(i:t≠96):WJ w' R e v:=by
 rcases h with⟨a,d⟩|⟨a,d⟩
 .exact Or.inl ⟨a,d.grown f g i⟩
 .exact Or.inr ⟨a,d.grown f g i⟩
def Ya(w:World)(a:Nat)(c:List Value)(t:TypeId):Prop:=w.heap[a]?=some (.cells ⟨c⟩ t (0,0))
theorem Ya.cell{t:TypeId}(h:Ya w a c t)(i:Nat):w.cell? ⟨a,i,none⟩=c[i]?:=by
 unfold Ya at h;simp[World.cell?,h]
theorem Ya.frozen{t:TypeId}(h:Ya w a c t)(i:Nat):w.frozen? ⟨a,i,none⟩=false:=by
 unfold Ya at h;simp[World.frozen?,h]
theorem Ya.lt{t:TypeId}(h:Ya w a c t):a<w.heap.size:=(Xr.1 h).1
theorem Ya.grown{t:TypeId}{r:Option Nat}(h:Ya w a c t)(d:w.grownBy w' r)(e:some a≠r):Ya w' a c t:=(d.block a h.lt e).trans h
theorem Ya.below{t:TypeId}(h:Ya w a c t)(d:BW w w'):Ya w' a c t:=(d.block a h.lt).trans h
theorem Ya.other{t:TypeId}(h:Ya w a c t){p:Addr}(d:a≠p.block)(v:Value):Ya (w.setCell p v) a c t:=(Go.Deep.blk_setCell_other _ _ _ _ d).trans h
def set3(w:World)(a:Nat)(x y z:Value):World:=((w.setCell ⟨a,0,none⟩ x).setCell ⟨a,1,none⟩ y).setCell ⟨a,2,none⟩ z
theorem P5{p q r z:Value}{t:TypeId}(h:Ya w a [p,q,r] t):Ya (set3 w a x y z) a [x,y,z] t:=by
 unfold Ya at h;unfold Ya set3;simp only[World.setCell,V4,h,VE,Wr];rfl
theorem Su{fn:Func}{R:Ending->World->Prop}{a:Act}{v:World}{p q u z r:Value}{t:TypeId}(c:∀W:World,W.cell? ⟨b,0,none⟩=some x->W.cell? ⟨b,1,none⟩=some y->W.cell? ⟨b,2,none⟩=some z->(results fn a.tmps).run P W=.ok r W)(hd:a.defers=[])(d:Ya v b [p,q,u] t)(e:R (.returned r)<|set3 v b x y z):bodyPost P fn R .ret a<|set3 v b x y z:=by
 have s:=P5 d (x:=x) (y:=y) (z:=z);exact YQ (c _ (s.cell 0) (s.cell 1)<|s.cell 2) hd e
theorem OQ{z:Value}(c:b≠a):(set3 w a x y z).heap[b]?=w.heap[b]?:=by
 unfold set3;rw[Go.Deep.blk_setCell_other _ _ _ _ c,Go.Deep.blk_setCell_other _ _ _ _ c,Go.Deep.blk_setCell_other _ _ _ _ c]
theorem P6(h:w0.grownBy w<|some b)(c:w0.heap.size<=a)(x y z:Value):w0.grownBy (set3 w a x y z)<|some b:=
 Zn (Zn (Zn h (Or.inr c) _) (Or.inr c) _) (Or.inr c) _
theorem RK.fresh{R:RS}{k0:Nat}{ts0:List Yg}(c:RK w0 R k0 ts0)(h:RK w R k ts)(m:w0.heap.size<=a)(d:∀j,j≠a->w'.heap[j]?=w.heap[j]?):RK w' R k ts:=by
 refine h.blocks λj _ e=>d j ?_;have n:=(Xr.1 c.rd.cells).1;have o:=ZN c.rd.own;have f:=Xi _ _ c.sy;have g:=Xi _ _ c.dp;have i:1<w0.heap.size:=f;have l:2<w0.heap.size:=g;rcases e with rfl|rfl|rfl|rfl<;>omega
theorem WJ.set3{R:RS}(h:WJ w R e v){t:TypeId}(d:Ya w a c t)(f:t≠96)(x y z:Value):WJ (set3 w a x y z) R e v:=by
 refine h.grown (b:=a) ?_ d f;exact Zn (Zn (Zn (Z2 w<|some a) (Or.inl C) _) (Or.inl C) _) (Or.inl C) _
theorem OD(h:(hd ts).jj=k):Zk k ts=.ok ((hd ts).txt,ts.tail):=Ye h
theorem Nv(h:¬(hd ts).jj=k):Zk k ts=.error (2,(hd ts).at_):=Yd h
theorem M7{s:LB}(h:Yk s t=true):t.txt=s:=by
 unfold Yk at h;rw[Vu,XL]at h;exact h.2
theorem PZ{s u:LB}(h:Yk s t=true)(a:s≠u):Yk u t=false:=by
 have:=M7 h;unfold Yk;rw[this,YB.2 a,O9]
theorem Zs{c:Code}{Q:Exit->Act->World->Prop}{a:Act}(h:∀W,W=w->Code.wp P c Q a W):Code.wp P c Q a w:=h w C
theorem Zv{args:Array Value}{Q:Ending->World->Prop}(h:∀W,W=w->Calls P f args W Q):Calls P f args w Q:=h w C
theorem E1{R:RS}(h:RK w R k ts):
 CP 300 #[Vp R.b] w λe u=>∃(x:BA)(ng:Bool)(y:BA)(v:Value),e=.returned (.tuple #[.agg #[.string x,.bool ng,.string y],v])/\Hid (U4 R (λ_ c=>bl x=c.1/\bl y=c.2.1/\ng=c.2.2) u (ZK ts) v)/\w.grownBy u (some R.b):=by
 have H:Hid<|RK w R k ts:=h;have e9:R.b<w.heap.size:=(Xr.1 h.rd.cells).1;go_enter func300,ntmps300;go_wp2_with fail;refine Zv λW0 b2=>?_;have d6:Hid<|RK W0 R k ts:=I<|by rw[b2];exact H.below Yc
 have d7:Hid<|Ya W0 w.heap.size [.string ByteArray.empty,.bool false,.string ByteArray.empty] 374:=I<|by rw[b2];exact YO
 have d8:Hid<|w.grownBy W0<|some R.b:=I<|by rw[b2];exact Vh (Z2 _ _) _
 refine(JS d6.out).mono ?_;rintro e w1 ⟨x,v,rfl,q,hg⟩;have P:Hid<|Ya w1 w.heap.size [.string ByteArray.empty,.bool false,.string ByteArray.empty] 374:=d7.grown hg<|by simp;omega
 have c8:Hid<|w.grownBy w1<|some R.b:=Zi d8.out hg;by_cases K:(hd ts).jj=2
 .rw[OD K]at q;obtain⟨rfl,⟨k1,d9⟩,hx⟩:=q.out;have c9:Hid<|RK w1 R k1 ts.tail:=d9;have HX:Hid<|bl x=(hd ts).txt:=hx;go_wp2_with fail;refine(QM c9.out).mono ?_;rintro e z ⟨⟨kd,at_,tx,tv⟩,rfl,ht,b3⟩;have e0:=I<|P.below b3;have Q:Hid<|w.grownBy z<|some R.b:=Zi c8.out<|ZB b3;have e1:Hid<|RK z R k1 ts.tail:=c9.below b3;go_wp2_with fail;refine Zv λW1 d4=>?_;have b4:BW z W1:=by rw[d4];exact Yc
  have e3:Hid<|Ya W1 z.heap.size [E kd,E at_,.string tx,E tv] 389:=I<|by rw[d4];exact YO
  have e4:=I<|e0.below b4;have e5:Hid<|w.grownBy W1<|some R.b:=Zi Q.out<|ZB b4;have b5:Hid<|RK W1 R k1 ts.tail:=e1.below b4;refine(Nt ht.out b5.wf.head.1 b5.wf.head.2.2 ⟨#[61]⟩ N N W1).mono ?_;rintro e w3 ⟨rfl,a9⟩;have s:=I<|e3.below a9;have b6:=I<|e4.below a9;have b7:Hid<|w.grownBy w3<|some R.b:=Zi e5.out<|ZB a9;have S:Hid<|RK w3 R k1 ts.tail:=b5.below a9;by_cases L:Yk [61] (hd ts.tail)=true
  .rw[show Yk (bl ⟨#[61]⟩) (hd ts.tail)=true from L];have b8:tx=⟨#[61]⟩:=LS.ZbH<|ht.2.2.1.trans<|M7 L;subst b8;have HD:Hid<|¬((hd ts.tail).jj=0∨(hd ts.tail).jj=5):=QB L;have T:Hid<|ZK ts=bnd (Zk 3 ts.tail.tail) λb r=>.ok (((hd ts).txt,b,false),r):=I<|by unfold ZK;rw[OD K];show bnd (RC ts.tail) _=_;unfold RC;rw[Yd<|by rw[PZ L N];decide];unfold Zf;rw[Ye L];rfl
   have n:=S;have b0:=b7;have b1:=b6;have b9:=s;obtain⟨rc0,rc1,rfz,_⟩:=n.rd.all;have e6:=n.lt;have e7:=n.len;go_wp2_with fail;refine Zv λM o=>?_;have t:Hid<|RK M R (k1+1) ts.tail.tail:=I<|by rw[o];exact n.step HD.out
   have U:Hid<|w.grownBy M<|some R.b:=I<|by rw[o];exact Zn b0.out (Or.inl C) _
   have V:Hid<|Ya M w.heap.size [.string ByteArray.empty,.bool false,.string ByteArray.empty] 374:=I<|by rw[o];exact b1.other (by show w.heap.size≠R.b;omega) _
   have Y:Hid<|Ya M z.heap.size [E kd,E at_,.string ⟨#[61]⟩,E tv] 389:=I<|by rw[o];exact b9.other (by show z.heap.size≠R.b;have:=Q.size;omega) _
   refine(QM t.out).mono ?_;rintro e f ⟨⟨kd2,at2,tx2,tv2⟩,rfl,A,g⟩;have Z:=I<|V.below g;have a0:=I<|Y.below g;have B:Hid<|w.grownBy f<|some R.b:=Zi U.out<|ZB g;have a1:Hid<|RK f R (k1+1) ts.tail.tail:=t.below g;clear g t U V Y;go_upto_region 9 with fail;refine Zs λO D=>?_;have i:BW f O:=by rw[D];exact Yc
   have a2:Hid<|Ya O f.heap.size [E kd2,E at2,.string tx2,E tv2] 389:=I<|by rw[D];exact YO
   have a3:=I<|Z.below i;have c1:=I<|a0.below i;have a4:Hid<|w.grownBy O<|some R.b:=Zi B.out<|ZB i;have l:Hid<|RK O R (k1+1) ts.tail.tail:=a1.below i;have e8:R.b<f.heap.size:=by have:=B.size;omega
   clear D i Z a0 a1 B;have t0:=a2.cell;by_cases p:(hd ts.tail.tail).jj=3
   .have a5:kd2=2:=by have:=A.1;rw[p]at this;exact this
    subst a5;have c2:Hid<|ZK ts=.ok (((hd ts).txt,(hd ts.tail.tail).txt,false),ts.tail.tail.tail):=I<|by rw[T.out,OD p];rfl
    have c3:Hid<|bl tx2=(hd ts.tail.tail).txt:=A.2.2.1;obtain⟨rc0,rc1,rfz,_⟩:=l.rd.all;have d5:=l.lt;go_upto_region 12 with fail;refine Zs λF d=>?_;have c4:Hid<|RK F R (k1+1+1) ts.tail.tail.tail:=I<|by rw[d];exact l.step X
    have c5:Hid<|w.grownBy F<|some R.b:=I<|by rw[d];exact Zn a4.out (Or.inl C) _
    have G:Hid<|Ya F w.heap.size [.string ByteArray.empty,.bool false,.string ByteArray.empty] 374:=I<|by rw[d];exact a3.other (by show w.heap.size≠R.b;omega) _
    have c6:Hid<|Ya F z.heap.size [E kd,E at_,.string ⟨#[61]⟩,E tv] 389:=I<|by rw[d];exact c1.other (by show z.heap.size≠R.b;have:=Q.size;omega) _
    have c7:Hid<|Ya F f.heap.size [E 2,E at2,.string tx2,E tv2] 389:=I<|by rw[d];exact a2.other (by show f.heap.size≠R.b;omega) _
    clear d rc0 rc1 rfz t0;have f0:=G.frozen;have c0:=G.cell;have d2:=c6.cell;have e2:=c7.cell;go_wp2;exact Su (r:=.tuple #[.agg #[.string x,.bool false,.string tx2],.nilIface]) (λW s0 s1 s2=>by simp[results,results300,go_sem,s0,s1,s2]) C G.out ⟨_,_,_,_,C,by rw[c2.out];exact⟨C,⟨_,(RK.fresh H.out c4.out (Yj _) λj hj=>OQ hj)⟩,HX.out,c3.out,C⟩,P6 c5.out (Yj _) _ _ _⟩
   .have a5:((kd2:Int) !=2)=true:=by
     rw[Vg];intro e;exact p<|(P3 l.wf.head.2.2).2.2.1.1<|by have:=A.1;simp only at this;omega
    have a6:Hid<|ZK ts=.error (2,(hd ts.tail.tail).at_):=I<|by rw[T.out,Nv p];rfl
    go_wp2_with fail;refine(Ox l.out).mono ?_;rintro e wE ⟨v,rfl,J,m⟩;obtain⟨fa,rfl⟩:=J.shape;have a:=I<|a3.below m;have a7:Hid<|w.grownBy wE<|some R.b:=Zi a4.out<|ZB m;clear m;have f0:=a.frozen;have c0:=a.cell;go_wp2;exact Su (r:=.tuple #[.agg #[.string ⟨#[]⟩,.bool false,.string ⟨#[]⟩],.iface 92<|Vp fa]) (λW s0 s1 s2=>by simp[results,results300,go_sem,s0,s1,s2]) C a.out ⟨_,_,_,_,C,by rw[a6.out];exact J.set3 a.out N _ _ _,P6 a7.out (Yj _) _ _ _⟩
  .rw[show Yk (bl ⟨#[61]⟩) (hd ts.tail)=false from Qt.2 L];have d0:=s.cell 0;have d1:=s.cell 1;have d2:=s.cell 2;have d3:=s.cell 3;simp only[Yf]at d0 d1 d2 d3;go_wp2_with fail;clear d0 d1 d2 d3;refine(Nt ht.out S.wf.head.1 S.wf.head.2.2 ⟨#[33,61]⟩ N N w3).mono ?_;rintro e w4 ⟨rfl,a8⟩;have b9:=I<|s.below a8;have b1:=I<|b6.below a8;have b0:Hid<|w.grownBy w4<|some R.b:=Zi b7.out<|ZB a8;have n:Hid<|RK w4 R k1 ts.tail:=S.below a8;clear a8 s b6 b7 S;by_cases hB:Yk [33,61] (hd ts.tail)=true
   .rw[show Yk (bl ⟨#[33,61]⟩) (hd ts.tail)=true from hB];have b8:tx=⟨#[33,61]⟩:=LS.ZbH<|ht.2.2.1.trans<|M7 hB;subst b8;have HD:Hid<|¬((hd ts.tail).jj=0∨(hd ts.tail).jj=5):=QB hB;have T:Hid<|ZK ts=bnd (Zk 3 ts.tail.tail) λb r=>.ok (((hd ts).txt,b,true),r):=I<|by unfold ZK;rw[OD K];show bnd (RC ts.tail) _=_;unfold RC;rw[Ye hB];rfl
    clear L hB;obtain⟨rc0,rc1,rfz,_⟩:=n.rd.all;have e6:=n.lt;have e7:=n.len;go_wp2_with fail;refine Zv λM o=>?_;have t:Hid<|RK M R (k1+1) ts.tail.tail:=I<|by rw[o];exact n.step HD.out
    have U:Hid<|w.grownBy M<|some R.b:=I<|by rw[o];exact Zn b0.out (Or.inl C) _
    have V:Hid<|Ya M w.heap.size [.string ByteArray.empty,.bool false,.string ByteArray.empty] 374:=I<|by rw[o];exact b1.other (by show w.heap.size≠R.b;omega) _
    have Y:Hid<|Ya M z.heap.size [E kd,E at_,.string ⟨#[33,61]⟩,E tv] 389:=I<|by rw[o];exact b9.other (by show z.heap.size≠R.b;have:=Q.size;omega) _
    clear o rc0 rc1 rfz;refine(QM t.out).mono ?_;rintro e f ⟨⟨kd2,at2,tx2,tv2⟩,rfl,A,g⟩;have Z:=I<|V.below g;have a0:=I<|Y.below g;have B:Hid<|w.grownBy f<|some R.b:=Zi U.out<|ZB g;have a1:Hid<|RK f R (k1+1) ts.tail.tail:=t.below g;clear g t U V Y;go_upto_region 9 with fail;refine Zs λO D=>?_;have i:BW f O:=by rw[D];exact Yc
    have a2:Hid<|Ya O f.heap.size [E kd2,E at2,.string tx2,E tv2] 389:=I<|by rw[D];exact YO
    have a3:=I<|Z.below i;have c1:=I<|a0.below i;have a4:Hid<|w.grownBy O<|some R.b:=Zi B.out<|ZB i;have l:Hid<|RK O R (k1+1) ts.tail.tail:=a1.below i;have e8:R.b<f.heap.size:=by have:=B.size;omega
    clear D i Z a0 a1 B;have t0:=a2.cell;by_cases p:(hd ts.tail.tail).jj=3
    .have a5:kd2=2:=by have:=A.1;rw[p]at this;exact this
     subst a5;have c2:Hid<|ZK ts=.ok (((hd ts).txt,(hd ts.tail.tail).txt,true),ts.tail.tail.tail):=I<|by rw[T.out,OD p];rfl
     have c3:Hid<|bl tx2=(hd ts.tail.tail).txt:=A.2.2.1;obtain⟨rc0,rc1,rfz,_⟩:=l.rd.all;have d5:=l.lt;go_upto_region 12 with fail;refine Zs λF d=>?_;have c4:Hid<|RK F R (k1+1+1) ts.tail.tail.tail:=I<|by rw[d];exact l.step X
     have c5:Hid<|w.grownBy F<|some R.b:=I<|by rw[d];exact Zn a4.out (Or.inl C) _
     have G:Hid<|Ya F w.heap.size [.string ByteArray.empty,.bool false,.string ByteArray.empty] 374:=I<|by rw[d];exact a3.other (by show w.heap.size≠R.b;omega) _
     have c6:Hid<|Ya F z.heap.size [E kd,E at_,.string ⟨#[33,61]⟩,E tv] 389:=I<|by rw[d];exact c1.other (by show z.heap.size≠R.b;have:=Q.size;omega) _
     have c7:Hid<|Ya F f.heap.size [E 2,E at2,.string tx2,E tv2] 389:=I<|by rw[d];exact a2.other (by show f.heap.size≠R.b;omega) _
     clear d rc0 rc1 rfz t0;have f0:=G.frozen;have c0:=G.cell;have d2:=c6.cell;have e2:=c7.cell;go_wp2;exact Su (r:=.tuple #[.agg #[.string x,.bool true,.string tx2],.nilIface]) (λW s0 s1 s2=>by simp[results,results300,go_sem,s0,s1,s2]) C G.out ⟨_,_,_,_,C,by rw[c2.out];exact⟨C,⟨_,(RK.fresh H.out c4.out (Yj _) λj hj=>OQ hj)⟩,HX.out,c3.out,C⟩,P6 c5.out (Yj _) _ _ _⟩
    .have a5:((kd2:Int) !=2)=true:=by
      rw[Vg];intro e;exact p<|(P3 l.wf.head.2.2).2.2.1.1<|by have:=A.1;simp only at this;omega
     have a6:Hid<|ZK ts=.error (2,(hd ts.tail.tail).at_):=I<|by rw[T.out,Nv p];rfl
     go_wp2_with fail;refine(Ox l.out).mono ?_;rintro e wE ⟨v,rfl,J,m⟩;obtain⟨fa,rfl⟩:=J.shape;have a:=I<|a3.below m;have a7:Hid<|w.grownBy wE<|some R.b:=Zi a4.out<|ZB m;clear m;have f0:=a.frozen;have c0:=a.cell;go_wp2;exact Su (r:=.tuple #[.agg #[.string ⟨#[]⟩,.bool false,.string ⟨#[]⟩],.iface 92<|Vp fa]) (λW s0 s1 s2=>by simp[results,results300,go_sem,s0,s1,s2]) C a.out ⟨_,_,_,_,C,by rw[a6.out];exact J.set3 a.out N _ _ _,P6 a7.out (Yj _) _ _ _⟩
   .rw[show Yk (bl ⟨#[33,61]⟩) (hd ts.tail)=false from Qt.2 hB];have a6:Hid<|ZK ts=.error (2,(hd ts.tail).at_):=I<|by unfold ZK;rw[OD K];show bnd (RC ts.tail) _=_;unfold RC;rw[Yd hB];unfold Zf;rw[Yd L];rfl
    clear L hB;go_wp2_with fail;refine(Ox n.out).mono ?_;rintro e wE ⟨v,rfl,J,m⟩;obtain⟨fa,rfl⟩:=J.shape;have a:=I<|b1.below m;have a7:Hid<|w.grownBy wE<|some R.b:=Zi b0.out<|ZB m;clear m;have f0:=a.frozen;have c0:=a.cell;go_wp2;exact Su (r:=.tuple #[.agg #[.string ⟨#[]⟩,.bool false,.string ⟨#[]⟩],.iface 92<|Vp fa]) (λW s0 s1 s2=>by simp[results,results300,go_sem,s0,s1,s2]) C a.out ⟨_,_,_,_,C,by rw[a6.out];exact J.set3 a.out N _ _ _,P6 a7.out (Yj _) _ _ _⟩
 .rw[Nv K]at q;obtain⟨fa,rfl⟩:=q.shape;have J:Hid<|WJ w1 R (2,(hd ts).at_) _:=q.out;have HP:Hid<|ZK ts=.error (2,(hd ts).at_):=I<|by unfold ZK;rw[Nv K];rfl
  have f0:=P.frozen;have c0:=P.cell;clear q;go_wp2;exact Su (r:=.tuple #[.agg #[.string ⟨#[]⟩,.bool false,.string ⟨#[]⟩],.iface 92<|Vp fa]) (λW s0 s1 s2=>by simp[results,results300,go_sem,s0,s1,s2]) C P.out ⟨_,_,_,_,C,by rw[HP.out];exact J.set3 P.out N _ _ _,P6 c8.out (Yj _) _ _ _⟩
theorem Zw{α β:Type}{x:Yl α}{f:α->List Yg->Yl β}{z:β×List Yg}(h:bnd x f=.ok z):∃a t,x=.ok (a,t)/\f a t=.ok z:=by
 cases x with
 |error e=>cases h
 |ok y=>exact⟨y.1,y.2,C,h⟩
theorem Ms{α:Type}{item:List Yg->Yl α}{close:LB}(e:∀t z,item t=.ok z->z.2.length+1<=t.length):∀(n:Nat)(acc:List α)(ts:List Yg)(z:List α×List Yg),ZI item close n acc ts=.ok z->z.2.length+1<=ts.length
 |0,_,_,_,h=>by cases h
 |n+1,acc,ts,z,h=>by
  have c:(if Yk _ _ then .ok _ else bnd _ _)=.ok z:=h;cases d:Yk close<|hd ts
  · rw[d]at c;obtain⟨_,t1,f,g⟩:=Zw c;obtain⟨a,t2,i,j⟩:=Zw g;have l1:t1.length<=ts.length:=by
      split at f
      .simp_all
      .have:=SE f;simp_all;omega
    have l2:=e _ _ i;have l3:=Ms e n _ _ _ j;simp at l2;omega
  .rw[d]at c;injection c with c;subst c;have:=M6 d;simp_all
theorem KG(k:Nat)(a:k≠0):∀t z,Zk k t=.ok z->z.2.length+1<=t.length:=λ_ _ h=>Nat.le_of_eq (KH a h).1
theorem Bq{z:Nd×List Yg}(h:YP ts=.ok z):z.2.length+1<=ts.length:=by
 unfold YP at h;obtain⟨a,t,c,d⟩:=Zw h;have l1:t.length+1=ts.length:=by
  unfold Qb at c;split at c
  .cases c
  .exact(KH N c).1
 split at d
 .obtain⟨cs,t2,e,f⟩:=Zw d;have l2:=Ms K6 _ _ _ _ e;cases f;simp_all;omega
 .cases d;simp_all
theorem As(h:Xu o ts=.ok z):z.2.length+1<=ts.length:=by
 unfold Xu at h;obtain⟨_,t1,c,h⟩:=Zw h;obtain⟨_,t2,d,h⟩:=Zw h;obtain⟨_,t3,e,h⟩:=Zw h;obtain⟨_,t4,a,h⟩:=Zw h;obtain⟨_,t5,f,h⟩:=Zw h;obtain⟨_,t6,g,h⟩:=Zw h;cases h;have a1:=SE c;have a2:=Bq d;have a3:=SE e;have a4:t4.length<=t3.length:=by
  unfold T0 at a;split at a
  .injection a with a;injection a with _ a;subst a;simp
  .cases a
 have a5:=SE f;have a6:=SE g;simp_all;omega
theorem Aw(a:∀lv t d z,rec lv t d=.ok z->z.2.length+1<=t.length)(h:Z9 rec ts deep=.ok z):z.2.length+1<=ts.length:=by
 unfold Z9 at h;obtain⟨_,t1,c,h⟩:=Zw h;obtain⟨_,t2,e,h⟩:=Zw h;obtain⟨_,t3,f,h⟩:=Zw h;cases h;have a1:=SE c;have a2:=a _ _ _ _ e;have a3:=SE f;simp_all;omega
theorem qC(a:∀lv t d z,rec lv t d=.ok z->z.2.length+1<=t.length)(h:Tg rec g ts deep=.ok z):z.2.length+1<=ts.length:=by
 unfold Tg at h;obtain⟨_,t1,c,h⟩:=Zw h;obtain⟨_,t2,e,h⟩:=Zw h;obtain⟨_,t3,f,h⟩:=Zw h;obtain⟨_,t4,i,h⟩:=Zw h;cases h;have a1:=SE c;have a2:=SE e;have a3:=Ms (KG 2 N) _ _ _ _ f;have a4:=Aw a i;simp_all;omega
theorem qb(a:∀lv t d z,rec lv t d=.ok z->z.2.length+1<=t.length)(h:ZR rec ts deep=.ok z):z.2.length+1<=ts.length:=by
 unfold ZR at h;have f:ts.tail.length<=ts.length:=Sm;split at h
 .rename_i e;cases h;cases ts with
  |nil=>exact absurd e N
  |cons t r=>simp
 .split at h
  .obtain⟨_,t1,c,h⟩:=Zw h;cases h;have:=a _ _ _ _ c;simp_all;omega
  .split at h
   .exact Aw a h
   .split at h
    .have:=qC a h;omega
    .split at h
     .have:=As h;omega
     .obtain⟨_,t1,c,h⟩:=Zw h;cases h;exact Bq c
theorem SW:∀(n:Nat)(m:Bool)(lv:Nat)(a:Tr)(ts:List Yg)(deep:Nat)(z:Tr×List Yg),Zh n m lv a ts deep=.ok z->z.2.length+(if m then 0 else 1)<=ts.length
 |0,_,_,_,_,_,_,h=>by cases h
 |n+1,false,lv,a,ts,deep,z,h=>by
  have f:∀lv t d z,Zh n false _ .nil t d=.ok z->z.2.length+1<=t.length:=λlv t d z h=>SW n _ lv _ t d z h;unfold Zh at h;split at h
  · unfold Ug at h;split at h
    · split at h
      .cases h
      .exact qb f h
    .cases h
  .obtain⟨b,t1,c,e⟩:=Zw h;have l1:=f _ _ _ _ c;have l2:=SW n _ _ b _ _ z e;simp_all;omega
 |n+1,true,lv,a,ts,deep,z,h=>by
  unfold Zh at h;split at h
  .cases h;simp
  .obtain⟨b,t1,c,e⟩:=Zw h;have l1:=SW n _ _ _ _ _ _ c;have l2:=SW n _ _ _ _ _ z e;simp_all;omega
def PK(w:World)(base:Nat)(p:PV)(ns:List<|LB):Prop:=∃bs:List BA,w.ownsRow base 9 1 (.slice p.ba p.bn p.bc) bs.length (bs.map .string)/\bs.map bl=ns
def LF(w:World)(nd:Nd)(p:PV):Prop:=p.k=nd.jj/\p.n=nd.n/\p.op=nd.op/\bl p.nm=nd.name/\ZP w 0 p nd.kq/\PK w 0 p nd.by_
def Va:Tr->Nat
 |.nil=>0
 |.node _ _ _ l r=>Va l+Va r+1
def XF(w:World)(xs:List Value):Tr->Nat->Prop
 |.nil,_=>True
 |.node _ _ nd l r,i=>∃(p:PV)(a b:Nat),(xs.drop<|i*8).take 8=p.cells/\LF w nd p/\p.a=a/\p.b=b/\a<=i/\b<=i/\XF w xs l a/\XF w xs r b
theorem Oy(p:PV):p.cells.length=8:=rfl
theorem He(f:YN w b q)(c:w.ownsRow 0 59 8 pv n xs)(g:Yw b pv w pv' w')
 {e:TypeId}{size:Nat}{m:Nat}(h:w.ownsRow base e size v m ys)(i:264≠e)(j:e≠59):w'.ownsRow base e size v m ys:=by
 refine ZJ h λk a=>g.block k (h.lt k a).2 ?_ ?_
 .rintro rfl;exact ZD h f i a.symm
 .rw[<-a];rcases QE h c j with d|d
  .rw[d]at a;cases a
  .exact d
theorem ZP.kept(c:YN w b q)(a:w.ownsRow 0 59 8 pv n xs)(d:Yw b pv w pv' w'){p:PV}(h:ZP w base p cs):ZP w' base p cs:=by
 obtain⟨qs,e,f⟩:=h;exact⟨qs,He c a d e N N,f⟩
theorem PK.kept(c:YN w b q)(a:w.ownsRow 0 59 8 pv n xs)(d:Yw b pv w pv' w'){p:PV}{ns:List<|LB}(h:PK w base p ns):PK w' base p ns:=by
 obtain⟨qs,e,f⟩:=h;exact⟨qs,He c a d e N N,f⟩
theorem fL{i:Nat}(h:(xs.drop<|i*8).take 8=l)(a:l.length=8):((xs++ys).drop<|i*8).take 8=l:=by
 have c:i*8+8<=xs.length:=by
  have:=congrArg List.length h;rw[Xw,Ur,a]at this;omega
 rw[MS X,JY<|by rw[Ur];omega];exact h
theorem XF.kept{w w':World}{b:Nat}{pv pv':Value}{q:QV}{n:Nat}{xs:List Value}(e:YN w b q)(d:w.ownsRow 0 59 8 pv n xs)(f:Yw b pv w pv' w')(ys:List Value):∀(t:Tr)(i:Nat),XF w xs t i->XF w' (xs++ys) t i
 |.nil,_,_=>trivial
 |.node _ _ nd l r,i,h=>by
  obtain⟨p,a,c,g,⟨g1,g2,g3,g4,g5,g6⟩,j,k,m,o,s,u⟩:=h;exact⟨p,a,c,fL g<|Oy p,⟨g1,g2,g3,g4,g5.kept e d f,g6.kept e d f⟩,j,k,m,o,XF.kept e d f ys l a s,XF.kept e d f ys r c u⟩
theorem gN(h:xs.length=n*8)(p:PV):((xs++p.cells).drop<|n*8).take 8=p.cells:=by
 rw[<-h,List.drop_left];rfl
theorem Yx.factor{e p:Nat}(h:Yx w b pv e p deep):
 CP 242 #[Vp b] w λr u=>r=.returned (E 0)/\u=w:=by
 obtain⟨q,a,c,d,f,g,i⟩:=h;obtain⟨c0,c1,c2,c3,c4,c5,c6,c7,c8⟩:=a.all;have j:((q.e:Int) !=0)=true:=by rw[Vg];omega
 have H:Hid<|Yx w b pv e p deep:=⟨q,a,c,d,f,g,i⟩;clear a c d f g i;generalize l:((q.k:Int)==1)=x1;generalize m:((q.k:Int)==2)=x2;go_enter func242,ntmps242;go_wp2_with fail;refine(Yx.is H.out _).mono ?_;rintro r u ⟨rfl,rfl⟩;go_wp2_with fail;refine(Yx.is H.out _).mono ?_;rintro r u ⟨rfl,rfl⟩;go_wp2_with fail;refine(Yx.is H.out _).mono ?_;rintro r u ⟨rfl,rfl⟩;go_wp2_with fail;refine(Yx.is H.out _).mono ?_;rintro r u ⟨rfl,rfl⟩;cases x1<;>cases x2;all_goals
  go_wp2_with fail;refine(Yx.fail H.out _).mono ?_;rintro r u ⟨rfl,rfl⟩;go_wp2;go_ret;exact⟨C,C⟩
theorem Yx.term{e p:Nat}(h:Yx w b pv e p deep):
 CP 214 #[Vp b] w λr u=>r=.returned (E 0)/\u=w:=by
 have H:Hid<|Yx w b pv e p deep:=h;clear h;go_enter func214,ntmps214;go_wp2_with fail;refine(Yx.factor H.out).mono ?_;rintro r u ⟨rfl,rfl⟩;go_wp2;go_loop [3] (λv=>v=E 0) (λ_=>0);case atStart=>rfl
 case round=>
  subst hrel;go_wp2_with fail;refine(Yx.is H.out _).mono ?_;rintro r u ⟨rfl,rfl⟩;go_wp2_with fail;refine(Yx.is H.out _).mono ?_;rintro r u ⟨rfl,rfl⟩;go_wp2;go_ret;exact⟨C,C⟩
theorem Yx.sum{e p:Nat}(h:Yx w b pv e p deep):
 CP 184 #[Vp b] w λr u=>r=.returned (E 0)/\u=w:=by
 have H:Hid<|Yx w b pv e p deep:=h;clear h;go_enter func184,ntmps184;go_wp2_with fail;refine(Yx.term H.out).mono ?_;rintro r u ⟨rfl,rfl⟩;go_wp2;go_loop [3] (λv=>v=E 0) (λ_=>0);case atStart=>rfl
 case round=>
  subst hrel;go_wp2_with fail;refine(Yx.is H.out _).mono ?_;rintro r u ⟨rfl,rfl⟩;go_wp2_with fail;refine(Yx.is H.out _).mono ?_;rintro r u ⟨rfl,rfl⟩;go_wp2;go_ret;exact⟨C,C⟩
theorem Yx.query{e p:Nat}(h:Yx w b pv e p deep):
 CP 153 #[Vp b] w λr u=>r=.returned (E 0)/\u=w:=by
 have H:Hid<|Yx w b pv e p deep:=h;clear h;go_enter func153,ntmps153;go_wp2_with fail;refine(Yx.sum H.out).mono ?_;rintro r u ⟨rfl,rfl⟩;go_wp2;go_loop [3] (λv=>v=E 0) (λ_=>0);case atStart=>rfl
 case round=>
  subst hrel;go_wp2_with fail;refine(Yx.is H.out _).mono ?_;rintro r u ⟨rfl,rfl⟩;go_wp2;go_ret;exact⟨C,C⟩
def Xq{α:Type}(M n:Nat)(r:Yl α):Prop:=match r with
 |.error _=>n<=M
 |.ok x=>n+x.2.length<=M
theorem Xq.le{α:Type}{r:Yl α}(h:Xq M n r):n<=M:=by
 cases r with
 |error e=>exact h
 |ok x=>exact Xb (Iu _ _) h
theorem Xq.bnd{α β:Type}{r:Yl α}{f:α->List Yg->Yl β}(h:Xq M n r)(c:∀a ts z,r=.ok (a,ts)->f a ts=.ok z->z.2.length<=ts.length):Xq M n<|bnd r f:=by
 cases r with
 |error e=>exact h
 |ok x=>
  obtain⟨a,ts⟩:=x;have g:n+ts.length<=M:=h;show Xq M n<|f a ts;cases d:f a ts with
  |error e=>exact(show n<=M by omega)
  |ok z=>have:=c a _ z C d;exact(show n+z.2.length<=M by omega)
theorem Xq.unit{α:Type}{r:Yl α}(h:Xq M n r):Xq M n<|Zj r:=by
 cases r with
 |error e=>exact h
 |ok x=>exact h
theorem Xq.of_unit{α:Type}{r:Yl α}(h:Xq M n<|Zj r):Xq M n r:=by
 cases r with
 |error e=>exact h
 |ok x=>exact h
theorem Xq.up{α:Type}{M' n':Nat}{r:Yl α}(h:Xq M n r)(c:M+n'<=M'+n):Xq M' n' r:=by
 cases r with
 |error e=>have a:n<=M:=h;exact(show n'<=M' by omega)
 |ok x=>have a:n+x.2.length<=M:=h;exact(show n'+x.2.length<=M' by omega)
theorem Xq.take (h:Xq M n r)(c:LB):Xq M n<|LS.bnd r λ_ ts=>Zf c ts:=
 h.bnd λ_ _ _ _ a=>by have:=SE a;omega
structure Yi (w:World)(b:Nat)(pv:Value)(s:BA)(deep:Nat)(xs:List Value)(M:Nat)(R:Yl Tr)(i:Int)(w':World):Prop where
 out:∃(n':Nat)(pv':Value)(ys:List Value),St w' b pv' s deep (Zj R)/\w'.ownsRow 0 59 8 pv' n' (xs++ys)/\Yw b pv w pv' w'/\Xq M n' R/\
  (∀t z,R=.ok (t,z)->∃k:Nat,i=k/\XF w' (xs++ys) t k/\k+1=n'/\ys.length=8*Va t)
def We(f:FuncId)(s:BA)(R:List Yg->Nat->Yl Tr)(L:Nat):Prop:=
 ∀(w:World)(b:Nat)(pv:Value)(deep:Nat)(r:Yl Unit)(n:Nat)(xs:List Value)(M:Nat),St w b pv s deep r->w.ownsRow 0 59 8 pv n xs->M<=6000->Xq M n r->(∀ts,r=.ok ((),ts)->ts.length<=L)->deep<=20->
  CP f #[Vp b] w λe w'=>∃i:Int,e=.returned (E i)/\Yi w b pv s deep xs M (LS.bnd r λ_ ts=>R ts deep) i w'
theorem We.mono{R:List Yg->Nat->Yl Tr}{L':Nat}(h:We f s R L)(a:L'<=L):We f s R L':=
 λw b pv deep r n xs M c d g i j k=>h w b _ _ r n _ M c d g i (λts e=>Xb (j _ e) a) k
theorem Yi.error{x:Nat×Nat}(h:St w b pv s deep<|.error x)(a:w.ownsRow 0 59 8 pv n xs)(c:n<=M):Yi w b pv s deep xs M (.error x) 0 w:=
 ⟨n,pv,[],h,by rw[V6];exact a,Yw.refl _ _ _,c,λ_ _ h=>(by cases h)⟩
theorem VZ(h:St w b pv s deep r)(a:w.ownsRow 0 59 8 pv n xs)(c:w.grownBy w'<|some b):w'.ownsRow 0 59 8 pv n xs:=by
 obtain⟨q,d,_⟩:=h.view;exact a.kept c<|.inr λe=>ZD a d N e.symm
theorem Ow {α β γ:Type}(r:Yl α)(f:α->List Yg->Yl β)(g:β->List Yg->Yl γ):bnd (bnd r f) g=bnd r λa ts=>bnd (f a ts) g:=by
 cases r with
 |error e=>rfl
 |ok x=>rfl
theorem pH {c:LB}(h:∀ts,r=.ok ((),ts)->ts.length<=L+1):∀ts,(bnd r λ_ ts=>Zf c ts)=.ok ((),ts)->ts.length<=L:=by
 intro ts e;obtain⟨_,t,a,d⟩:=Zw e;have:=SE d;have:=h t a;simp at*;omega
theorem Yi.behind{a:World}{n':Nat}{R R2:Yl Tr}{i:Int}(d:St w' b pv' s deep<|Zj R)(f:w'.ownsRow 0 59 8 pv' n'<|xs++ys)(g:Yw b pv w pv' w')
 (h:Xq M n' R2)(j:∀t z,R=.ok (t,z)->∃k:Nat,i=k/\XF w' (xs++ys) t k/\k+1=n'/\ys.length=8*Va t)(c:w'.grownBy a<|some b)(l:St a b pv' s deep<|Zj R2)(m:∀t z,R2=.ok (t,z)->∃z',R=.ok (t,z')):Yi w b pv s deep xs M R2 i a:=by
 obtain⟨q,n,o,_⟩:=d.view;refine⟨n',pv',ys,l,VZ d f c,g.grown c,h,?_⟩;intro t z e;obtain⟨z',e'⟩:=m t z e;obtain⟨k,k1,k2,k3⟩:=j t z' e';refine⟨k,k1,?_,k3⟩;have:=XF.kept n f ((Yw.refl b _ _).grown c) [] t k k2;rwa [V6]at this
theorem xh {α:Type}(R:Yl α)(c:LB):Zj (bnd R λa ts=>bnd (Zf c ts) λ_ z=>.ok (a,z))=bnd (Zj R) λ_ ts=>Zf c ts:=by
 cases R with
 |error e=>rfl
 |ok x=>
  show Zj (bnd (Zf c x.2) λ_ z=>.ok (x.1,z))=Zf c x.2;cases Zf c x.2 with
  |error e=>rfl
  |ok y=>rfl
theorem uS {α:Type}{R:Yl α}(h:Xq M n R){c:LB}:Xq M n<|bnd R λa ts=>bnd (Zf c ts) λ_ z=>.ok (a,z):=
 h.bnd λa ts z _ e=>by
  obtain⟨_,t,f,d⟩:=Zw e;injection d with d;subst d;have:=SE f;simp at*;omega
theorem lZ {α:Type}{R:Yl α}{c:LB}{t:α}{z:List Yg}(h:(bnd R λa ts=>bnd (Zf c ts) λ_ z=>(.ok (a,z):Yl α))=.ok (t,z)):∃z',R=.ok (t,z'):=by
 obtain⟨a,ts,e,f⟩:=Zw h;obtain⟨_,t2,g,d⟩:=Zw f;injection d with d;injection d with d h5;subst d;exact⟨ts,e⟩
theorem FO (r:Yl Unit)(rec:Nat->List Yg->Nat->Yl Tr)(deep:Nat):(bnd r λ_ ts=>Z9 rec ts deep)=bnd (bnd (bnd r λ_ ts=>Zf [40] ts) λ_ ts=>rec 0 ts deep) λa ts=>bnd (Zf [41] ts) λ_ z=>.ok (a,z):=by
 rw[Ow,Ow];rfl
theorem yH (j:s.size<=6000)(k:We 153 s (λts d=>rec 0 ts d) L):
 We 287 s (Z9 rec)<|L+1:=by
  intro w b pv deep r n xs M h f J l m o;have H:=I h;have K:=I f;have O:=I k;have P:=I l;have Q:=I m;clear h f k l m;go_enter func287,ntmps287;go_wp2_with fail;refine(St.take H j _).mono ?_;rintro e R ⟨rfl,a,c⟩;rw[show bl _=[40]from C]at a;have p:=I a;have q:=I<|VZ H K c;have u:=I c;clear a c;go_wp2_with fail;refine(O _ b _ _ _ n _ M p q J (Xq.take P _) (pH Q) o).mono ?_;rintro e S ⟨i,rfl,v⟩;obtain⟨n2,pv2,ys,s2,o2,k2,b2,r2⟩:=v.out;have g:Hid<|St _ b _ s _<|Zj<|bnd _ λ_ ts=>rec 0 _ _:=s2;have x:=I o2;have A:=I<|((Yw.refl b _ w).grown u).trans k2;have B:Hid _:=b2;have D:=I r2;clear v s2 o2 k2 b2 r2;go_wp2_with fail;refine(St.take g j _).mono ?_;rintro e T ⟨rfl,a,c⟩;rw[show bl _=[41]from C,<-xh,<-FO]at a;have F:Hid _:=a;have G:=I c;clear a c;go_wp2;go_ret;refine⟨i,C,Yi.behind g x A ?_ D G F ?_⟩
  .rw[FO];exact uS B
  .intro t z e;rw[FO]at e;exact lZ e
theorem St.lay(h:St w b pv s deep r)(c:w.ownsRow 0 59 8 pv n xs)(v:n<=6000)(p:PV):
 CP 186 #[Vp b,.agg #[E p.k,E p.n,E p.op,.string p.nm,.slice p.ca p.cn p.cc,.slice p.ba p.bn p.bc,E p.a,E p.b]] w λe u=>
  ∃pv',e=.returned (E n)/\St u b pv' s deep r/\u.ownsRow 0 59 8 pv' (n+1) (xs++p.cells)/\Yw b pv w pv' u:=by
 cases r with
 |error x=>
  obtain⟨q,d,f,g,i,j,l⟩:=h;subst f;refine(Aj w b q d n c v p).mono ?_;rintro e u ⟨pv',rfl,m,o,t⟩;exact⟨pv',C,⟨_,m,C,g,i,j,l⟩,o,t⟩
 |ok x=>
  obtain⟨⟨q,d,f,g,i,j,l,z⟩,_⟩:=h;subst f;refine(Aj w b q d n c v p).mono ?_;rintro e u ⟨pv',rfl,m,o,t⟩;exact⟨pv',C,⟨⟨_,m,C,g,i,j,l,z⟩,trivial⟩,o,t⟩
theorem JB(h:St w b pv s deep r)(d:w.ownsRow 0 59 8 pv n xs)(e:Yw b pv w pv' w')(p:PV)(nd:Nd)(t u:Tr)(a c:Nat)
 (j:LF w nd p)(k:p.a=a)(l:p.b=c)(g:a<=n)(i:c<=n)(m:XF w xs t a)(o:XF w xs u c):XF w' (xs++p.cells) (.node 0 0 nd t u) n:=by
 obtain⟨q,f,_⟩:=h.view;obtain⟨g1,g2,g3,g4,g5,g6⟩:=j;exact⟨p,a,c,gN d.1 p,⟨g1,g2,g3,g4,g5.kept f d e,g6.kept f d e⟩,k,l,g,i,XF.kept f d e _ t a m,XF.kept f d e _ u c o⟩
theorem Yw.set{p1 p2:Value}{c z:World}(h:Yw b p1 c p2 z){a:Addr}(g:c.heap.size<=a.block)(v:Value):Yw b p1 c p2<|z.setCell a v:=
 ⟨h.os,h.tape,h.output,by rw[Go.Deep.nblk_setCell];exact h.size,λk d e f=>(Go.Deep.blk_setCell_other _ _ _ _ X).trans<|h.block k d e f,h.own⟩
theorem Jw{e:TypeId}{size:Nat}(h:w.ownsRow base e size v n xs):w.ownsRow 0 e size v n xs:=by
 refine⟨h.1,?_⟩;rcases h.2 with a|⟨g,cap,cur,rfl,_,r⟩
 .exact .inl a
 .exact .inr ⟨g,cap,cur,C,Yr _,r⟩
theorem LC{e:TypeId}{size:Nat}(h:w.ownsRow base e size v n xs){p:PV}(c:Yq w a p)(d:59≠e):(w.setCell ⟨a,o,none⟩ x).ownsRow base e size v n xs:=
 ZJ h λk f=>Go.Deep.blk_setCell_other _ _ _ _<|by rintro rfl;exact ZD h c d f.symm
theorem ZP.grown{p:PV}(h:ZP w base p cs){r:Option Nat}(d:w.grownBy w' r)(e:∀k,(Value.slice p.ca p.cn p.cc).ownBlock=some k->some k≠r):ZP w' base p cs:=by
 obtain⟨qs,a,f⟩:=h;exact⟨qs,ZJ a λk c=>d.block k (a.lt k c).2<|e k c,f⟩

/- Parts. -/
import Derived.Test.YtcdgkkfipdoeeaaGreatDoorU12
import Derived.Test.YtcdgkkfipdoeeaaGreatDoorU09
set_option linter.all false
set_option maxRecDepth 100000
set_option maxHeartbeats 16000000
namespace Go.Proofs.YtcdgkkfipdoeeaaGreatDoor
open Go.RowKit LS Go.Proofs.Tryz
variable {gs' ss' y:List (LB)}{b:List (List (LB))}{u:List Nat}{a i m n:Nat}{z:Nq}{o r:Option Nat}
section
abbrev SelC:=BA×Option Addr×Nat×Nat×Nat
abbrev RowC:=Option Addr×Nat×Nat
def ZfB(s:SelC):List Value:=[.string s.1,.slice s.2.1 s.2.2.1 s.2.2.2.1,Vi (s.2.2.2.2:Nat)]
def rowV(r:RowC):Value:=.slice r.1 r.2.1 r.2.2
def Zeg(w0:World)(s:SelC)(x:Nd×Nat):Prop:=bl s.1=x.1.name/\ZX w0 (.slice s.2.1 s.2.2.1 s.2.2.2.1) x.1.ku/\s.2.2.2.2=x.2
def ZcK(w0:World):List SelC->List (Nd×Nat)->Prop
 | [],[]=>True
 | s::ss,x::xs=>Zeg w0 s x/\ZcK w0 ss xs
 | _,_=>False
def ZbK(w:World):List RowC->List (List (LB))->Prop
 | [],[]=>True
 | s::ss,x::xs=>Zbm w (rowV s) x/\ZbK w ss xs
 | _,_=>False
structure GX where
 base:Nat
 gb:Nat
 mb:Nat
 sm:Nat
 gm:Nat
def graC(X:GX)(g:Gq)(nv uv sv rv:Value):List Value:=[.bool g.fold,.bool g.share,nv,uv,.map (some X.mb),sv,rv,.map (some X.sm),.map (some X.gm)]
def idxV(l:List (LB))(s:BA):Option Int:=(idx (bl s) l).map Int.ofNat
structure GJ (w0 w:World) (X:GX) (nv uv sv rv:Value) (sl:List SelC) (rl:List RowC) (g:Gq) (kN:Nat) (f:Nq->Option Int) (ss gs:List (LB)):Prop where
 box:BAt w X.gb (graC X g nv uv sv rv) 176
 nod:w.ownsRow X.base 232 4 nv g.jx.length (g.jx.flatMap nodC)
 use:w.ownsRow X.base 3 1 uv g.uses.length (g.uses.map intC)
 sel:w.ownsRow X.base 156 3 sv g.kw.length (sl.flatMap ZfB)
 grp:w.ownsRow X.base 122 1 rv g.qx.length (rl.map rowV)
 sok:ZcK w0 sl g.kw
 gok:ZbK w rl g.qx
 num:MapK w 232 X.mb kN nodV f
 smp:MapK w 9 X.sm ss.length Value.string (idxV ss)
 gmp:MapK w 9 X.gm gs.length Value.string (idxV gs)
 ne:X.mb≠X.sm/\X.mb≠X.gm/\X.sm≠X.gm
 bas:X.base=w0.heap.size/\X.base<=X.gb/\X.base<=X.mb/\X.base<=X.sm/\X.base<=X.gm
 bel:BW w0 w
structure GI (w0 w:World) (X:GX) (nv uv sv rv:Value) (sl:List SelC) (rl:List RowC) (g:Gq):Prop where
 j:∃f,GJ w0 w X nv uv sv rv sl rl g g.jx.length f (g.kw.map ZI) (g.qx.map commas)/\(g.share=true->∀x,f x=(idxN x g.jx).map Int.ofNat)
 ulen:g.uses.length=g.jx.length
 nok:NOk g.jx
 ubd:∀j,g.uses.getD j 0<=2*g.jx.length
def KT(w w':World):Prop:=∀(b:Nat) (cs:Array Value) (U:TypeId) (fr:Nat×Nat),w.heap[b]?=some (.cells cs U fr)->U∉[176,232,3,156,122]->w'.heap[b]?=some (.cells cs U fr)
section
variable {w0 w w' w1 w2:World} {X:GX} {nv uv sv rv nv' uv' sv' rv':Value} {sl sl':List SelC} {rl rl':List RowC} {g g':Gq} {T:TypeId} {x:Nat}
theorem KT.trans(h:KT w w1)(q:KT w1 w2):KT w w2:=fun b cs U fr c a=>q b _ U _ (h b _ U _ c a) a
theorem KB.kt(h:KB T w w')(a:T∈[176,232,3,156,122]):KT w w':=fun b cs U fr c d=>h.cells b _ U _ c (fun e=>d (e ▸ a))
theorem KM.kt(h:KM x w w'):KT w w':=fun b cs U fr a _=>h.cells b _ U _ a
theorem KT.below(h:BW w w'):KT w w':=fun b _ _ _ a _=>(h.block b (Yae.1 a).1).trans a
theorem KT.bat(h:KT w w'){l:List Value}{t:TypeId}(c:BAt w a l t)(d:t∉[176,232,3,156,122]):BAt w' a l t:=h _ _ _ _ c d
def GP(w0 w w':World)(X:GX)(g:Gq):Prop:=∃nv uv sv rv sl rl,GI w0 w' X nv uv sv rv sl rl g/\KT w w'
theorem GP.step(h:KT w w1)(q:GP w0 w1 w2 X g):GP w0 w w2 X g:=by
 obtain⟨a,b,c,d,e,f,i,j⟩:=q;exact⟨a,b,c,d,e,f,i,h.trans j⟩
theorem ZbK.mono(c:∀v ns,Zbm w v ns->Zbm w' v ns):∀ {a:List RowC} {b:List (List (LB))},ZbK w a b->ZbK w' a b
 | [],[],h=>h
 | _::_,_::_,⟨d,e⟩=>⟨c _ _ d,ZbK.mono c e⟩
theorem ZbK.kb{a:List RowC}(h:ZbK w a b)(c:KB T w w')(d:9≠T):ZbK w' a b:=h.mono (fun _ _ ⟨bs,e,i⟩=>⟨bs,c.own e d,i⟩)
theorem ZbK.km{a:List RowC}(h:ZbK w a b)(c:KM x w w'):ZbK w' a b:=h.mono (fun _ _ ⟨bs,d,e⟩=>⟨bs,c.own d,e⟩)
theorem ZbK.len:∀ {a:List RowC} {b:List (List (LB))},ZbK w a b->a.length=b.length
 | [],[],_=>rfl
 | _::_,_::_,⟨_,h⟩=>by rw[Yaj,Yaj,ZbK.len h]
theorem ZcK.len:∀ {a:List SelC} {b:List (Nd×Nat)},ZcK w0 a b->a.length=b.length
 | [],[],_=>rfl
 | _::_,_::_,⟨_,h⟩=>by rw[Yaj,Yaj,ZcK.len h]
theorem ZcK.snoc{s:SelC}{y:Nd×Nat}(c:Zeg w0 s y):∀ {a:List SelC} {b:List (Nd×Nat)},ZcK w0 a b->ZcK w0 (a++[s]) (b++[y])
 | [],[],_=>⟨c,trivial⟩
 | _::_,_::_,⟨d,e⟩=>⟨d,ZcK.snoc c e⟩
theorem ZbK.snoc{s:RowC}(c:Zbm w (rowV s) y):∀ {a:List RowC} {b:List (List (LB))},ZbK w a b->ZbK w (a++[s]) (b++[y])
 | [],[],_=>⟨c,trivial⟩
 | _::_,_::_,⟨d,e⟩=>⟨d,ZbK.snoc c e⟩
variable {kN:Nat} {f f':Nq->Option Int} {ss gs:List (LB)}
theorem ZeR(h:BW w0 w)(a:w.grownBy w' r)(d:∀k,r=some k->w0.heap.size<=k):BW w0 w':=⟨a.os.trans h.os,a.tape.trans h.tape,a.output.trans h.output,Yah h.size a.size,fun k c=>(a.block k (Yaw c h.size) (fun e=>by have:=d k e.symm;omega)).trans (h.block k c)⟩
theorem GJ.below(h:GJ w0 w X nv uv sv rv sl rl g kN f ss gs)(a:BW w w'):GJ w0 w' X nv uv sv rv sl rl g kN f ss gs:=by
 have k:=KB.below 0 a;exact⟨h.box.below a,Zn h.nod a,Zn h.use a,Zn h.sel a,Zn h.grp a,h.sok,h.gok.mono (fun _ _ h=>h.below a),h.num.kb k,h.smp.kb k,h.gmp.kb k,h.ne,h.bas,h.bel.trans (a.mono h.bel.size)⟩
theorem GI.below(h:GI w0 w X nv uv sv rv sl rl g)(c:BW w w'):GI w0 w' X nv uv sv rv sl rl g:=by
 obtain⟨f,d,a⟩:=h.j;exact⟨⟨f,d.below c,a⟩,h.ulen,h.nok,h.ubd⟩
theorem GJ.numPut(h:GJ w0 w X nv uv sv rv sl rl g kN f ss gs)(a:w.grownBy w' (some X.mb)){k':Nat}(c:MapK w' 232 X.mb k' nodV f'):GJ w0 w' X nv uv sv rv sl rl g k' f' ss gs/\KT w w':=by
 obtain⟨es,cl,d⟩:=h.num.obj;have k:=KM.of d a;exact⟨⟨k.cells _ _ _ _ h.box,k.own h.nod,k.own h.use,k.own h.sel,k.own h.grp,h.sok,h.gok.km k,c,h.smp.km k h.ne.1.symm,h.gmp.km k h.ne.2.1.symm,h.ne,h.bas,ZeR h.bel a (fun j e=>by injection e with e;have:=h.bas;omega)⟩,k.kt⟩
theorem GJ.smPut(h:GJ w0 w X nv uv sv rv sl rl g kN f ss gs)(a:w.grownBy w' (some X.sm))(c:MapK w' 9 X.sm ss'.length Value.string (idxV ss')):GJ w0 w' X nv uv sv rv sl rl g kN f ss' gs/\KT w w':=by
 obtain⟨es,cl,d⟩:=h.smp.obj;have k:=KM.of d a;exact⟨⟨k.cells _ _ _ _ h.box,k.own h.nod,k.own h.use,k.own h.sel,k.own h.grp,h.sok,h.gok.km k,h.num.km k h.ne.1,c,h.gmp.km k h.ne.2.2.symm,h.ne,h.bas,ZeR h.bel a (fun j e=>by injection e with e;have:=h.bas;omega)⟩,k.kt⟩
theorem GJ.gmPut(h:GJ w0 w X nv uv sv rv sl rl g kN f ss gs)(a:w.grownBy w' (some X.gm))(c:MapK w' 9 X.gm gs'.length Value.string (idxV gs')):GJ w0 w' X nv uv sv rv sl rl g kN f ss gs'/\KT w w':=by
 obtain⟨es,cl,d⟩:=h.gmp.obj;have k:=KM.of d a;exact⟨⟨k.cells _ _ _ _ h.box,k.own h.nod,k.own h.use,k.own h.sel,k.own h.grp,h.sok,h.gok.km k,h.num.km k h.ne.2.1,h.smp.km k h.ne.2.2,c,h.ne,h.bas,ZeR h.bel a (fun j e=>by injection e with e;have:=h.bas;omega)⟩,k.kt⟩
theorem ZhP(h:BW w0 w)(c:w0.heap.size<=a){v:Value}:BW w0 (w.setCell ⟨a,i,none⟩ v):=h.setCell c v
theorem GJ.nodApp(h:GJ w0 w X nv uv sv rv sl rl g kN f ss gs)(z:Nq)(c:w.grownBy w1 nv.ownBlock)(d:w1.ownsRow X.base 232 4 nv' (g.jx.length+1) (g.jx.flatMap nodC++nodC z)) :
  BAt w1 X.gb (graC X g nv uv sv rv) 176/\GJ w0 (w1.setCell ⟨X.gb,2,none⟩ nv') X nv' uv sv rv sl rl { g with jx:=g.jx++[z] } kN f ss gs/\KT w (w1.setCell ⟨X.gb,2,none⟩ nv'):=by
 have k1:=KB.row h.nod c;have a:=k1.bat h.box Dc;have k2:=KB.set a 2 nv';refine⟨a,⟨a.setC 2 _,?_,k2.own (k1.own h.use Dc) Dc,k2.own (k1.own h.sel Dc) Dc,k2.own (k1.own h.grp Dc) Dc,h.sok,(h.gok.kb k1 Dc).kb k2 Dc,(h.num.kb k1).kb k2,(h.smp.kb k1).kb k2,(h.gmp.kb k1).kb k2,h.ne,h.bas,ZhP (ZeR h.bel c (fun k e=>by have:=(h.nod.lt k e).1;have:=h.bas;omega)) (by have:=h.bas;omega)⟩,(k1.kt Dc).trans (k2.kt Dc)⟩;have:=k2.own d Dc
 simp_all
theorem GJ.useApp(h:GJ w0 w X nv uv sv rv sl rl g kN f ss gs)(z:Nat)(c:w.grownBy w1 uv.ownBlock)(d:w1.ownsRow X.base 3 1 uv' (g.uses.length+1) (g.uses.map intC++[intC z])) :
  BAt w1 X.gb (graC X g nv uv sv rv) 176/\GJ w0 (w1.setCell ⟨X.gb,3,none⟩ uv') X nv uv' sv rv sl rl { g with uses:=g.uses++[z] } kN f ss gs/\KT w (w1.setCell ⟨X.gb,3,none⟩ uv'):=by
 have k1:=KB.row h.use c;have a:=k1.bat h.box Dc;have k2:=KB.set a 3 uv';refine⟨a,⟨a.setC 3 _,k2.own (k1.own h.nod Dc) Dc,?_,k2.own (k1.own h.sel Dc) Dc,k2.own (k1.own h.grp Dc) Dc,h.sok,(h.gok.kb k1 Dc).kb k2 Dc,(h.num.kb k1).kb k2,(h.smp.kb k1).kb k2,(h.gmp.kb k1).kb k2,h.ne,h.bas,ZhP (ZeR h.bel c (fun k e=>by have:=(h.use.lt k e).1;have:=h.bas;omega)) (by have:=h.bas;omega)⟩,(k1.kt Dc).trans (k2.kt Dc)⟩;have:=k2.own d Dc
 simp_all
theorem GJ.selApp(h:GJ w0 w X nv uv sv rv sl rl g kN f ss gs)(z:SelC)(y:Nd×Nat)(d:Zeg w0 z y)(c:w.grownBy w1 sv.ownBlock)(i:w1.ownsRow X.base 156 3 sv' (g.kw.length+1) (sl.flatMap ZfB++ZfB z)) :
  BAt w1 X.gb (graC X g nv uv sv rv) 176/\GJ w0 (w1.setCell ⟨X.gb,5,none⟩ sv') X nv uv sv' rv (sl++[z]) rl { g with kw:=g.kw++[y] } kN f ss gs/\KT w (w1.setCell ⟨X.gb,5,none⟩ sv'):=by
 have k1:=KB.row h.sel c;have a:=k1.bat h.box Dc;have k2:=KB.set a 5 sv';refine⟨a,⟨a.setC 5 _,k2.own (k1.own h.nod Dc) Dc,k2.own (k1.own h.use Dc) Dc,?_,k2.own (k1.own h.grp Dc) Dc,h.sok.snoc d,(h.gok.kb k1 Dc).kb k2 Dc,(h.num.kb k1).kb k2,(h.smp.kb k1).kb k2,(h.gmp.kb k1).kb k2,h.ne,h.bas,ZhP (ZeR h.bel c (fun k e=>by have:=(h.sel.lt k e).1;have:=h.bas;omega)) (by have:=h.bas;omega)⟩,(k1.kt Dc).trans (k2.kt Dc)⟩;have:=k2.own i Dc
 simp_all
theorem GJ.grpApp(h:GJ w0 w X nv uv sv rv sl rl g kN f ss gs)(z:RowC)(y:List (LB))(i:Zbm w (rowV z) y)(c:w.grownBy w1 rv.ownBlock)(j:w1.ownsRow X.base 122 1 rv' (g.qx.length+1) (rl.map rowV++[rowV z])) :
  BAt w1 X.gb (graC X g nv uv sv rv) 176/\GJ w0 (w1.setCell ⟨X.gb,6,none⟩ rv') X nv uv sv rv' sl (rl++[z]) { g with qx:=g.qx++[y] } kN f ss gs/\KT w (w1.setCell ⟨X.gb,6,none⟩ rv'):=by
 have k1:=KB.row h.grp c;have a:=k1.bat h.box Dc;have k2:=KB.set a 6 rv'
 have d:Zbm (w1.setCell ⟨X.gb,6,none⟩ rv') (rowV z) y:=by
  obtain⟨bs,l,m⟩:=i;exact⟨bs,k2.own (k1.own l Dc) Dc,m⟩
 refine⟨a,⟨a.setC 6 _,k2.own (k1.own h.nod Dc) Dc,k2.own (k1.own h.use Dc) Dc,k2.own (k1.own h.sel Dc) Dc,?_,h.sok,((h.gok.kb k1 Dc).kb k2 Dc).snoc d,(h.num.kb k1).kb k2,(h.smp.kb k1).kb k2,(h.gmp.kb k1).kb k2,h.ne,h.bas,ZhP (ZeR h.bel c (fun k e=>by have:=(h.grp.lt k e).1;have:=h.bas;omega)) (by have:=h.bas;omega)⟩,(k1.kt Dc).trans (k2.kt Dc)⟩;have:=k2.own j Dc
 simp_all
theorem GJ.useSet{ub uc:Nat}(h:GJ w0 w X nv (.slice (some ⟨ub,0,none⟩) g.uses.length uc) sv rv sl rl g kN f ss gs)(j v:Nat):GJ w0 (w.setCell ⟨ub,j,none⟩ (Vi v)) X nv (.slice (some ⟨ub,0,none⟩) g.uses.length uc) sv rv sl rl { g with uses:=g.uses.set j v } kN f ss gs/\KT w (w.setCell ⟨ub,j,none⟩ (Vi v)):=by
 have k2:=KB.setRow h.use j (Vi v);refine⟨⟨k2.bat h.box Dc,k2.own h.nod Dc,?_,k2.own h.sel Dc,k2.own h.grp Dc,h.sok,h.gok.kb k2 Dc,h.num.kb k2,h.smp.kb k2,h.gmp.kb k2,h.ne,h.bas,ZhP h.bel (by have:=(h.use.lt ub rfl).1;have:=h.bas;omega)⟩,k2.kt Dc⟩;have:=ZmD h.use j (Vi v);rw[show(g.uses.map _).set j _=(g.uses.set j v).map _ by rw[Yd8];rfl]at this
 simp_all
theorem GP.of(h:GI w0 w X nv uv sv rv sl rl g)(k:KT w1 w):GP w0 w1 w X g:=⟨_,_,_,_,_,_,h,k⟩
end
end
section
section
variable {w0 w w' w1 w2:World} {X:GX} {nv uv sv rv nv' uv' sv' rv':Value} {sl sl':List SelC} {rl rl':List RowC} {g g':Gq} {T:TypeId} {x:Nat}
theorem Zkw{v:Int}(a : -9223372036854775808<=v)(c:v<=9223372036854775807):(Lit.int .i64 v).wf=true:=by
 show(decide (IntKind.i64.min<=v) && decide (v<=IntKind.i64.max))=true;rw[show IntKind.i64.min=-9223372036854775808 from rfl,show IntKind.i64.max=9223372036854775807 from rfl,Yas]
 simp_all
theorem Zq9{N:Nat}(h:∀a,o=some a->a<N):nI o<=N:=by
 cases o with
 | none=>constructor<;>omega
 | some a=>have:=h a rfl;show(a:Int)<=N;omega
theorem NOne.key(h:NOne n z)(i:n<=1000000):∃kl,keyOf prog 232 (nodV z)=some kl:=by
 have d:∀a,z.fs=some a->a<n:=fun a c=>h.low a (by unfold Zg;split<;>simp_all)
 have e : ∀ a, z.sn = some a -> a < n := fun a c => by
   cases f:z.fs with
   | none=>rw[h.sn f]at c;cases c
   | some b=>exact h.low a (by unfold Zg;simp_all)
 have j:=Zq9 d;have k:=Zq9 e;have l:=Zml z.fs;have m:=Zml z.sn;have o:=h.op;have p:=h.ar;exact Zzo (Zkw Om Om) (Zkw Om Om) (Zkw Om Om) (Zkw Om Om)
theorem ZpS(a:Nq):∀(l:List Nq) (z:Nq),idxN z l=none->idxN a (l++[z])=haveI:=ZGo a z;if a=z then some l.length else idxN a l
 | [], z, _ => by
   by_cases h:z=a
   · subst h;rfl
   · simp[idxN,h,Ycp h]
 | y :: l, z, h => by
   unfold idxN at h;by_cases e:y=z
   · simp_all
   · rw[if_neg e]at h
     have c : idxN z l = none := by cases d : idxN z l with
       | none=>rfl
       | some i=>simp_all
     rw[Yby,idxN,idxN,ZpS a l z c];by_cases e2:y=a
     · simp_all
     · simp only[e2,if_false]
       split<;>rfl
theorem Zhq(h:g.share=true)(a:idxN z g.jx=some i):addQ z g=(i,g):=by
 unfold addQ;simp_all
theorem Zgz(h:g.share=true->idxN z g.jx=none):addQ z g=(g.jx.length,{ g with jx:=g.jx++[z],uses:=(Zg z).foldl bump (g.uses++[0]) }):=by
 unfold addQ
 simp_all
theorem ZlL : ∀ {l:List Nq} {i:Nat},idxN z l=some i->i<l.length
 | [],i,h=>by cases h
 | y :: l, i, h => by
   unfold idxN at h;by_cases e:y=z
   · simp_all;omega
   · rw[if_neg e]at h
     cases a:idxN z l with
     | none=>simp_all
     | some j=>rw[a]at h;injection h with h;subst h;have:=ZlL a;simp_all
theorem Zul   (h : ∀ j, u.getD j 0 <= m) : ∀ j, (bump u n).getD j 0 <= m + 1 := fun j => by
  unfold bump;rw[Zf2];have a:=h j;have c:=h n;split <;> omega
theorem Zly:∀(ts:List Nat) (u:List Nat) (m:Nat),(∀j,u.getD j 0<=m)->∀j,(ts.foldl bump u).getD j 0<=m+ts.length
 | [],u,m,h=>h
 | t :: ts, u, m, h => fun j => by
   have:=Zly ts (bump u t) _ (Zul h) j
   simp_all;omega
theorem ZnR   (h : ∀ j, u.getD j 0 <= m) : ∀ j, (u ++ [0]).getD j 0 <= m := fun j => by
  rcases Yav j u.length with a|a
  · have:=h j
    simpa [Yaa,Ybr a] using this
  · rw[Yaa,Yb3 a]
    rcases Yav (j - u.length) 1 with c|c
    · simp_all
    · simp[Ya9 (l:=[0]) c]
theorem Zpo(ts u:List Nat):(ts.foldl bump u).length=u.length:=ZlA (fun l x=>ZfT l x) _ u
theorem NOk.snoc {l : List Nq} (h : NOk l)  (c : NOne l.length z) : NOk (l ++ [z]) := fun i d => by
  rcases Yav i l.length with a|a
  · rw[List.getElem_append_left a];exact h i _
  · obtain rfl:i=l.length:=by simp_all;omega
    simp_all
theorem GI.added(h:GI w0 w X nv uv sv rv sl rl g)(c:NOne g.jx.length z)(a:g.share=true->idxN z g.jx=none){f f':Nq->Option Int}(k:g.share=true->∀x,f x=(idxN x g.jx).map Int.ofNat)(e:f' z=some (g.jx.length:Int))(i:∀y,y≠z->f' y=f y)(l:GJ w0 w' X nv' uv' sv rv sl rl { g with jx:=g.jx++[z],uses:=(Zg z).foldl bump (g.uses++[0]) } (g.jx.length+1) f' (g.kw.map ZI) (g.qx.map commas)) :
  GI w0 w' X nv' uv' sv rv sl rl (addQ z g).2:=by
 rw[Zgz a];refine⟨⟨f',by simp_all,fun d y=>?_⟩,?_,h.nok.snoc c,fun j=>?_⟩
 ·show f' y=(idxN y (g.jx++[z])).map Int.ofNat;rw[ZpS y _ z (a d)];split<;>simp_all
 ·show((Zg z).foldl bump (g.uses++[0])).length=(g.jx++[z]).length;rw[Zpo,Yab,Yab,h.ulen];rfl
 ·have m:=Zly (Zg z) _ _ (ZnR h.ubd) j;have n:=ZiC z
  simp_all;omega
end
end
section
section
variable {w0 w w' w1 w2:World} {X:GX} {nv uv sv rv nv' uv' sv' rv':Value} {sl sl':List SelC} {rl rl':List RowC} {g g':Gq} {T:TypeId} {x:Nat}
theorem Tryz.infoNode:(Tryz.prog.info? 232).map (fun i=>(i.zero,i.size,i.bytes))=some (some (.agg #[Vi 0,Vi 0,Vi 0,Vi 0]),4,32):=by kernel_rfl
theorem ZtE(h:GI w0 w X nv uv sv rv sl rl g)(z:Nq)(hz:NOne g.jx.length z)(hl:g.jx.length<=500000) :
  CP 120 #[Vp X.gb,nodV z] w fun e w'=>e=.returned (Vi ((addQ z g).1:Nat))/\Hid (GP w0 w w' X (addQ z g).2):=by
 obtain⟨f,hj,hf⟩:=h.j;have V:=hid h;have HZ:=hid hz;have HF:=hid hf;have d4:=hid hj;obtain⟨kl,a8⟩:=hz.key Om;have a9:=hid a8;clear hj hf h a8;go_enter func120,ntmps120;simp only[nodV]
 go_upto_region 1 with fail
 refine ZP fun W hW=>?_;have b0:BW w W:=hW▸belB;have n:Hid (BAt W _ (nodC z) 232):=hW▸(show BAt _ _ _ _ from bnw);have J:=hid (d4.below b0);have d5:=hid (KT.below b0);have d6:=J.num.look nodK underlying173 a9;clear hW b0 d4
 have b5 : Hid (∀ k, nv.ownBlock = some k -> k ≠ w.heap.size) := hid (fun k hk e => by
   obtain⟨_,hj,_⟩:=V.j;have:=(hj.nod.lt k hk).2;omega)
 obtain⟨qb,d7⟩:∃qb,w.heap.size=qb:=⟨_,rfl⟩
 rw[d7]at n b5 ⊢;clear d7;have b4:W.cell? _=some _:=J.box.cell 4;have q0:W.cell? _=some _:=n.cell 0;have q1:W.cell? _=some _:=n.cell 1;have q2:W.cell? _=some _:=n.cell 2;have q3:W.cell? _=some _:=n.cell 3;have p:=J.box.lt;have b6:=n.lt;have g8:(Instr.lookup 173 _ (.agg _) _).run _ W.drew=.ok _ _:=d6 _ rfl;clear d6
 go_region
 have c:=hid (J.below (Yaf _ _).drew);have b7:=hid (d5.trans (KT.below (Yaf _ _).drew));have r:Hid (BAt W.drew _ _ _):=n;clear g8 b4 q0 q1 q2 q3 p b6 J d5 n;generalize W.drew=w1 at *
 have b1:w1.cell? _=some _:=c.box.cell 1;have p:=c.box.lt;by_cases l:g.share=true/\(f z).isSome=true
 ·obtain⟨s,a1⟩:=l
  obtain⟨i,Y⟩:∃i,idxN z g.jx=some i:=by
   have:=HF s z;rw[this]at a1;cases hx:idxN z g.jx with
   | none=>rw[hx]at a1;cases a1
   | some i=>exact⟨i,rfl⟩
  have HA:=hid (Zhq s Y);have i1:f z=some (i:Int):=by rw[HF s z,Y];rfl
  rw[i1];rw[s]at b1;simp only[Yb0,Ya6];clear a1;go_wp2;go_ret;rw[HA];exact⟨rfl,hid (GP.of ⟨⟨f,c,HF⟩,V.ulen,V.nok,V.ubd⟩ b7)⟩
 ·have b8 : Hid (g.share = true -> idxN z _ = none) := hid (fun s => by
    have m:=HF s z;cases hx:idxN z g.jx with
    | none=>rfl
    | some i=>rw[hx]at m;exact absurd ⟨s,by rw[m];rfl⟩ l)
  have HA:=hid (Zgz b8);obtain⟨na,nc,i2⟩:=Zl c.nod;subst i2;obtain⟨L,hL⟩:∃L,L=g.jx.length:=⟨_,rfl⟩
  have N:=hid hL;rw[<-hL]at hl c b5;clear hL hz
  go_upto_region 2 with fail
  go_cut [6,10,16,18,25] from 19 to 24 (fun _ _ _ _ v wc=>v=.bool false/\wc=w1)
  case first=>
   generalize g.share=sh at b1 l;generalize(f z).isSome=ts at l ⊢;cases ts <;> cases sh
   all_goals first
    | exact absurd ⟨rfl,rfl⟩ l
    | (go_wp2_with fail;go_meet;exact⟨rfl,rfl⟩)
  case rest=>
  obtain⟨rfl,rfl⟩:=hcut;clear l b1;obtain⟨f',b9⟩:∃f':Nq->Option _,f'=fun y=>haveI:=ZGo y z;if y=z then some (L:Int)else f y:=⟨_,rfl⟩
  have c1:f' z=some (L:Int):=by rw[b9];simp
  have c6:∀y,y≠z->f' y=f y:=fun y hy=>by rw[b9];simp[hy]
  obtain⟨w2,d8,c7,a2⟩:=c.num.put nodK underlying173 Zzn Om a9.out (v:=L) (Zhl Om) c1 c6 wc.drew rfl;have i3:=hid c1;have i4:=hid c6;have HD:=hid (c.below (Yaf _ _).drew);have d9:=hid (HD.numPut a2 c7).1;have e0:=hid ((b7.trans (KT.below (Yaf _ _).drew)).trans (HD.numPut a2 c7).2)
  have e4 := hid ((show BAt wc.drew _ _ _ from r).grown a2 (fun e => by
    obtain⟨es,cl,ho⟩:=HD.num.obj;injection e with e;exact ZbU ho (show wc.drew.heap[X.mb]?=_ by rw[<-e];exact r) rfl))
  simp only[nodV]at d8;clear b9 c1 c6 c7 a2;have b2:wc.cell? _=some _:=c.box.cell 2
  go_upto_region 5 with fail
  clear b2;refine Zbn 6 (fun w'=>w'.cell? _=some _/\w'.cell? _=some _/\w'.cell? _=some _/\w'.cell? _=some _/\w'.cell? _=some _) Kr ⟨c.box.cell 4,r.cell 0,r.cell 1,r.cell 2,r.cell 3⟩ (fun a=>?_);refine Za 0 a (h:=?_);refine Za 1 a (h:=?_);refine Za 2 a (h:=?_);refine Za 3 a (h:=?_);refine Za 4 a (h:=?_);refine Za 5 a (h:=?_);refine Zbl Kr Kr rfl Kr (fun K A=>?_);go_simp;refine A _ _ ?_;clear a A K d8 HD c b7 r p;obtain⟨i0,Y,a3,a4,a5⟩:=info_parts Tryz.infoNode
  go_upto_region 6 with fail
  have O:=hid (d9.below (Yaf _ _).drew);have e5:=hid (e0.trans (KT.below (Yaf _ _).drew));have E:Hid (BAt w2.drew _ _ _):=e4;refine Zbn 10 (fun w'=>w'.cell? _=some _/\w'.cell? _=some _/\w'.cell? _=some _/\w'.cell? _=some _/\w'.cell? _=some _) Kr ⟨O.box.cell 2,E.cell 0,E.cell 1,E.cell 2,E.cell 3⟩ (fun a=>?_);clear d9 e0 e4;refine Za 0 a (h:=?_);refine Za 1 a (h:=?_);refine Za 2 a (h:=?_);refine Za 3 a (h:=?_);refine Za 4 a (h:=?_);refine Za 5 a (h:=?_);generalize w2.drew=w3 at *
  have B:Hid (∀o,GJ _ (w3.alloc o) X _ _ _ _ _ _ g _ _ _ _):=hid (fun o=>O.below Zbal);have d:Hid (∀o,BAt (w3.alloc o) _ _ _):=hid (fun o=>E.below Zbal);have e6:=hid (fun o=>by have:=(B o).nod;rwa [<-N]at this);have P:Hid (∀o,KT w (w3.alloc o)):=hid (fun o=>e5.trans (KT.below Zbal));have Q:Hid (X.base<=w3.heap.size):=hid (by have m:=O.bel.size;have:=O.bas.1;omega);clear O e5 E;refine Z4 (i:=6) Kr rfl (fun K A=>?_);go_simp;refine A _ _ ⟨(B _).box.cell 2,(d _).cell 0,(d _).cell 1,(d _).cell 2,(d _).cell 3⟩ (fun a=>?_);clear A K
  try simp only[Act.put,Zset]
  refine Z4 (i:=7) Kr rfl (fun K A=>?_);refine ZfF rfl (.tmp 42) (.tmp 44) 172 rfl X.base 232 i0 _ 4 32 underlying172 Y a3 a4 a5 rfl Dc (.slice na L nc) L (g.jx.flatMap nodC) (by simp[Act.eval]) (e6.out _) ⟨w3.heap.size,0,none⟩ 1 1 (nodC z) (by simp[Act.eval]) rfl Zk4 ?h3 ?h4 ?h5 ?h6 ?_
  case h3=>intro u hu;simp[nodC]at hu;rcases hu with rfl|rfl|rfl|rfl <;> rfl
  case h4=>unfold maxLen;omega
  case h5=>omega
  case h6=>have:=Q.out;simp;omega
  intro v1 w4 a6 C g9;obtain⟨g1,cp1,i5⟩:=ZF a6 Om;subst i5;obtain⟨e7,e8,e9⟩:=(B _).nodApp z C (by rwa [<-N.out]);have f0:=(d _).grown C (fun e=>b5 _ e.symm rfl);have R:=hid e7;have q:=hid e8;have f1:=hid ((P _).trans e9);have F:=hid f0;clear a6 C g9 e7 e8 e9 f0 B d e6 P;refine A _ _ ⟨R.cell 2,F.cell 0,F.cell 1,F.cell 2,F.cell 3⟩ (fun a=>?_);clear A K;refine Za 8 a (h:=?_);refine Za 9 a (h:=?_);refine Zbl Kr Kr rfl Kr (fun K A=>?_);have e1:=R.frozen 2;have e2:=a.1;have e3:=R.lt;go_simp;refine A _ _ ?_;have f2:Hid (BAt (w4.setCell _ (.slice (some ⟨g1,0,none⟩) (L+1) cp1)) _ _ _):=hid ((KB.set R 2 _).bat F Dc);clear A K e1 e2 e3 a R F;generalize w4.setCell ⟨X.gb,2,none⟩ (.slice (some ⟨g1,0,none⟩) (L+1) cp1)=w5 at *
  clear Y a3 a4 a5 i0 Q;obtain⟨i0,Y,a3,a4,a5⟩:=info_parts Tryz.infoInt3;obtain⟨ua,uc,i6⟩:=Zl q.use;subst i6;have S:=V.ulen.trans N.symm;have c8:=hid (fun o=>by have:=q.use;simp only[S]at this;exact this.alloc o);have B:=hid (fun o=>by have:=q.below (w':=w5.alloc o) Zbal;simp only[S]at this;exact this);have d:Hid (∀o,BAt (w5.alloc o) _ _ _):=hid (fun o=>f2.below Zbal);have P:Hid (∀o,KT w (w5.alloc o)):=hid (fun o=>f1.trans (KT.below Zbal));have Q:Hid (X.base<=w5.heap.size):=hid (by have m:=q.bel.size;have:=q.bas.1;omega);have b3:w5.cell? _=some _:=(q.box.cell 3).trans (by rw[S];rfl);have p:=q.box.lt;have f3:=hid S;clear S q f1 f2
  go_wp2_with (at_builtin;refine wpList_append_own _ rfl (.tmp 52) (.tmp 53) 54 rfl X.base 3 i0 (Vi 0) 1 8 underlying54 Y a3 a4 a5 rfl Dc _ _ _ rfl (c8.out _) ⟨w5.heap.size,0,none⟩ 1 1 [Vi 0] rfl rfl (cell_one_new _ _ _) ?c2 ?c3 ?c4 ?c5 ?_)
  case c2=>first|rfl|(intro u hu;simp at hu;subst hu;rfl)
  case c3=>unfold maxLen;omega
  case c4=>omega
  case c5=>have:=Q.out;simp;omega
  intro v6 w6 I D _;obtain⟨ub,uc6,i7⟩:=ZF I Om;subst i7
  obtain⟨c9,f4,f5⟩:=(B _).useApp 0 D (by
   show w6.ownsRow _ _ _ _ (g.uses.length+1) (g.uses.map intC++[intC 0]);rw[f3];exact I)
  have U:=hid c9;have G:=hid ((KB.set c9 3 (.slice (some ⟨ub,0,none⟩) (L+1) uc6)).bat ((KB.row (c8 _) D).bat (d _) Dc) Dc);have d0:=hid f4;have f6:=hid ((P _).trans f5);clear I D c9 f4 f5 B d P c8 b3 p Q;have b3:w6.cell? _=some _:=U.cell 3;have bf:=U.frozen 3;have p:=U.lt;have i8:=hid ((KB.set U 3 (.slice (some ⟨ub,0,none⟩) (L+1) uc6)));generalize i9:w6.setCell ⟨X.gb,3,none⟩ (.slice (some ⟨ub,0,none⟩) (L+1) uc6)=w7 at *
  have q0:w7.cell? _=some _:=G.cell 0;have q1:w7.cell? _=some _:=G.cell 1;have q2:w7.cell? _=some _:=G.cell 2;have q3:w7.cell? _=some _:=G.cell 3;have b6:=G.lt
  go_upto_region 8 with fail
  clear i9 b3 bf p U i8
  go_wp2_with fail
  refine(Znp z HZ.sn).mono ?_;rintro e Z ⟨tv,rfl,d1,HT⟩;obtain⟨ta,tc,rfl,f7⟩:=HT.out;have HT:=hid f7;have j0:=hid (d0.below d1);have j1:=hid (f6.trans (KT.below d1));have j2:=ZiC z;have j3:Hid (∀t∈Zg z,t<L):=hid (fun t ht=>by have:=HZ.low t ht;rw[N];exact this);have j4:=hid (d0.use.lt ub rfl).2;clear f7 d1 q0 q1 q2 q3 b6 d0 f6 G;have j5:Hid (∀ {wz:World},GJ _ wz X (.slice (some ⟨g1,0,none⟩) (L+1) cp1) _ _ _ _ _ _ _ _ _ _->GI _ _ X _ (.slice (some ⟨ub,0,none⟩) (L+1) uc6) _ _ _ _ _):=hid (fun hj=>V.added HZ b8 HF (by rw[i3,N]) i4 (by rwa [<-N.out]));generalize Zg z=ts at *
  obtain⟨M,hM⟩:∃M,M=ts.length:=⟨_,rfl⟩
  rw[<-hM]at j2 ⊢;have HM:=hid hM;clear hM;go_wp2
  go_loopw [60] (fun i wr=>∃j:Nat,j<=M/\i=Vi j/\Hid (GJ w0 wr X (.slice (some ⟨g1,0,none⟩) (L+1) cp1) (.slice (some ⟨ub,0,none⟩) (L+1) uc6) sv rv sl rl { g with jx:=g.jx++[z],uses:=(ts.take j).foldl bump (g.uses++[0]) } (L+1) f' (g.kw.map ZI) (g.qx.map commas))/\Hid (KT w wr)/\Hid (∀b,w7.heap.size<=b->b<Z.heap.size->wr.heap[b]?=Z.heap[b]?)/\Hid (Z.heap.size<=wr.heap.size)) (fun i _=>M - (intOf i).toNat)
  case atStart=>exact⟨0,Yag _,rfl,j0,j1,hid (fun _ _ _=>rfl),hid (Yac _)⟩
  case round=>
   obtain⟨j,hj,rfl,H,f8,f9,g2⟩:=hrel;by_cases j6:j<M
   ·have l0:(j:Int)<M:=by omega
    have d2:j<ts.length:=by rw[<-HM.out];exact j6
    obtain⟨b,rfl,j7,g3,g4⟩:=HT.out Om;have g5:=f9 b j7 g3
    have kc:wr.cell? ⟨b,j,none⟩=some (intC ts[j]):=by
     have:=g4 j d2;simp only[World.cell?,g5]at this ⊢;exact this
    have l1:=Yaw g3 g2;have l2:=j3 _ (List.getElem_mem d2);have j8:=hid (ZlB bump (g.uses++[0]) d2);have b3:wr.cell? _=some _:=H.box.cell 3;have p:=H.box.lt;have k8:=(H.use.lt ub rfl).2;have a0:((ts.take j).foldl bump (g.uses++[0])).length=L+1:=by rw[Zpo,Yab,f3];rfl
    have g6:=H.out;have a7:=H.use;simp only[a0]at a7;have g7:=hid (show GJ _ _ X _ (.slice _ (({ g with jx:=g.jx++[z],uses:=(ts.take j).foldl _ _ }).uses.length) _) _ _ _ _ _ _ _ _ _ by show GJ _ _ _ _ _ _ _ _ _ _ _ _ _ _;rw[a0];exact g6)
    have j9:Hid (((ts.take j).foldl bump (g.uses++[0])).getD ts[j] 0<=2000000):=hid (by
     have m:=Zly (ts.take j) _ _ (ZnR V.ubd) ts[j];rw[Ya7]at m;have:=N.out;omega)
    generalize ts[j]=t at *
    generalize k0:(ts.take j).foldl bump (g.uses++[0])=us at *
    have uj:wr.cell? _=some (Vi (us.getD t 0)):=Zi a7 t _ (by
     rw[Ya2,List.getElem?_eq_getElem Om];simp[intC,Yaa,show t<us.length by omega])
    have uf:=ZjT a7 t;have d3:=hid (g7.useSet t (us.getD t 0+1));have l3:=j9.out;simp only[intC]at kc;have l4:(t:Int)<L+1:=by omega
    have k1:Hid (bump _ t=us.set t _):=hid rfl;generalize us.getD t 0=ut at *
    have k9:IntKind.i64.wrap ((ut)+1)=((ut+1:Nat)):=by rw[Ybo];omega
    have k2:Hid (∀b,w7.heap.size<=b->b<Z.heap.size->b≠ub):=hid (fun b m _ e=>by have:=j4.out;omega);clear g4 g5 g6 a7 g7 k0;go_wp2
    have k3:Hid (GJ w0 (wr.setCell ⟨ub,t,none⟩ (Vi ((ut)+1))) X (.slice (some ⟨g1,0,none⟩) (L+1) cp1) (.slice (some ⟨ub,0,none⟩) (L+1) uc6) sv rv sl rl { g with jx:=g.jx++[z],uses:=(ts.take (j+1)).foldl bump (g.uses++[0]) } (L+1) f' (g.kw.map ZI) (g.qx.map commas)):=by
     have m:=d3.1;simp only[a0]at m;rw[j8,k1];exact m
    have k4:=hid (f8.trans d3.2)
    have k5 : Hid (∀ b, w7.heap.size <= b -> b < Z.heap.size -> (wr.setCell ⟨ub, t, none⟩ (Vi ((ut : Int) + 1))).heap[b]? = Z.heap[b]?) := hid (fun b m h2 => by
      rw[Go.Deep.blk_setCell_other _ _ _ _ (k2.out b m h2)];exact f9.out b m h2)
    have k6:Hid (Z.heap.size<=(wr.setCell ⟨ub,t,none⟩ (Vi ((ut)+1))).heap.size):=hid (by simpa using g2.out)
    go_roundw
    case rel=>exact⟨j+1,by omega,by simp,k3,k4,k5,k6⟩
    case measure=>simp[intOf];omega
   ·obtain rfl:j=M:=by omega
    have k7:=hid (j5 (by have:=H.out;rw[HM,Ya4]at this;exact this));go_wp2;go_ret;refine⟨?_,hid (GP.of k7 f8)⟩;rw[HA];show Ending.returned (Vi (L:Int))=_;rw[N]
end
end
section
section
variable {jx:List Nq} {W:Nat->Cq->Cq} {c d e:Cq} {U U' U1 U2:Nat->Bool} {K K1 K2:Nat->Prop} {T:Nat->Nat} {n m x y a b N:Nat}
theorem Zkg{p q:List (Option Int)}{s:Nat}(f:s<16):(Zce p q).getD s none=if p.getD s none=q.getD s none then p.getD s none else none:=by
 unfold Zce
 simp_all
theorem ZvF(g:NOk jx)(r:∀z,z<=b->z<jx.length->WBd jx T W z/\4<=T z)(v:WBd jx T W a/\4<=T a)(o:b<jx.length)(G:∀z,z<=b->∀c,c.jy.length=16->Low z c (W z c))(H:Inv jx.length c U):∃U' K,Pt jx c U (Zbo jx W a b c) U' K/\(∀t∈[a,b],U' t=false/\∀x,U' x=true->¬Rch jx (IS c) t x)/\(Zbo jx W a b c).jy.length=16/\(Zbo jx W a b c).jq.length+psi T U jx.length<=c.jq.length+2+T a+T b+psi T U' jx.length:=by
 have M:(fun x=>U x || false)=U:=funext fun x=>by simp
 obtain⟨O,Q,K1,w,I,A,P⟩:=ZnL (n:=b) g r G U c (b+2) c U (fun _=>false) _ (Pt.still c U) ⟨fun _ _=>rfl,fun _ h=>(by cases h)⟩ (by simp_all) (by simp);unfold Zbo;simp only;generalize ZG jx W b (b+2) c=c1 at *
 obtain⟨V2,K2,p1,p2,p3,p4,p5⟩:=Zj1 v.1 v.2 A;have B:=p1.inv A p4;generalize putQ jx W a c1=c2 at *
 obtain⟨V3,K3,q1,q2,q3,q4,q5⟩:=Zj1 (c:=Zc 11 0 (Zc 10 0 c2)) (r b (Yac _) o).1 (r b (Yac _) o).2 B;have C:IS (Zc 11 0 (Zc 10 0 c2))=IS c2:=rfl;have q1':=q1.from_ (e:=c2) rfl
 have q5':(putQ jx W b (Zc 11 0 (Zc 10 0 c2))).jq.length+psi T V2 jx.length<=c2.jq.length+2+T b+psi T V3 jx.length:=by
  have:(Zc 11 0 (Zc 10 0 c2)).jq.length=c2.jq.length+2:=by simp[Zc]
  omega
 rw[C]at q3;generalize putQ jx W b (Zc 11 0 (Zc 10 0 c2))=d at *
 have j:∀z,V3 z=true->V2 z=true:=q1.sub
 have J : ∀ z, V3 z = true -> O z = true := fun z f => by
   have:=p1.sub z (j z f);rw[Yct]at this;rcases this with h|h
   · exact h
   · exfalso
     rcases I.way z h with e|e
     · simp_all
     · have i:=p1.keep g (j z f) e
       exact q1'.rch z f b (q3 i.head) i
 have R2:=w.trans g p1;have R:=(R2.trans g q1').less (U1:=V3) (fun z f=>by simp_all)
 have D : ∀ {s : Nat} {z : Nat}, c.jy.getD s none = some (z : Int) -> s < 16 := fun {s z} h => by
   rcases Yav s 16 with k|k
   · exact k
   · rw[Yaa,Ya9 (by rw[H.1];exact k)]at h;cases h
 refine⟨V3,_,⟨R.sub,fun m k L=>R.wrk m k ?_,R.rch,fun z f s u=>?_⟩,fun t E=>?_,?_,?_⟩
 ·obtain⟨s,F,l⟩:=L;simp only at l;rw[Zkg F]at l;split at l
  ·exact⟨s,F,l⟩
  simp_all
 ·simp only;rw[Zkg (D u),R.stay z f s u,R2.stay z (by simp_all) s u,if_pos rfl]
 ·rw[Yau,Yap]at E;rcases E with rfl|rfl
  ·refine⟨?_,fun z f i=>?_⟩
   ·cases S:V3 t with
    | false=>rfl
    | true=>simp_all
   ·have p:=w.keep g (J z f) i;exact p1.rch z (j z f) t (p3 p.head) p
  ·refine⟨q2,fun z f i=>?_⟩;have q:=R2.keep g (x:=z) (by simp_all) i;exact q1'.rch z f t (q3 q.head) q
 ·rfl
 simp_all;omega
theorem Zth(g:NOk jx)(k:∀n,n<jx.length->T n=4+((Zg (jx.getD n nq0)).map T).sum):∀(f n:Nat),n<f->n<jx.length->WBd jx T (Zr jx f) n
 | 0,n,h,_=>absurd h (Ya1 _)
 | f + 1, n, J, l => by
   intro c U r H;have i:=Zcf g n;have IH:∀z,z<n->WBd jx T (Zr jx f) z/\4<=T z:=fun z B=>⟨Zth g k f z Om Om,by rw[k z Om];omega⟩
   have s:=k n l
   have key : ∀ {d : Cq} {U' : Nat -> Bool} {K : Nat -> Prop}, Pt jx c U d U' K -> (∀ t ∈ Zg (jx.getD n nq0), U' t = false /\ ∀ x, U' x = true -> ¬ Rch jx (IS c) t x) -> Pt jx c U d U' (fun m => m = n ∨ K m) := fun h L => ⟨h.sub, fun m o u => Or.inr (h.wrk m o u), fun x C m D v => by
     rcases D with e|e
     · subst e
       rcases v.inv with ⟨_,o⟩|⟨y,_,o,u⟩
       · simp_all
       · simp_all
     · exact h.rch x C m e v,h.stay⟩
   by_cases j:(jx.getD n nq0).op=10
   · have E:jx.getD n nq0=jx[n]:=by simp[l]
     obtain⟨a,b,p,q⟩:=(g n l).or (by simp_all);rw[<-E]at p q;have w:Zg (jx.getD n nq0)=[a,b]:=by unfold Zg;rw[p,q]
     rw[w]at i s key;have A:a<n:=i a (by simp);have I:b<n:=i b (by simp);rw[Zky j p q];obtain⟨U',K,p1,p2,p3,p4⟩:=ZvF (c:=c) (U:=U) (a:=a) (b:=b) g (fun z B _=>IH z Om) (IH a A) Om (fun z _ c h=>ZnB g f z c h) r;refine⟨U',_,key p1 p2,Or.inl rfl,p3,?_⟩
     simp_all;omega
   · rw[Zgu j]
     obtain⟨U',K,p1,p2,p3,p4⟩:=Zpn (W:=Zr jx f) (T:=T) g (Zg (jx.getD n nq0)) c U (fun t F=>IH t (i t F)) r
     have G : ∀ (z : Nq) (d : Cq), (ZbD z d).jy = d.jy /\ (ZbD z d).jq.length = d.jq.length + 1 := fun z d => by
       unfold ZbD;split <;> simp[Zc]
     refine⟨U',_,key (p1.same (G _ _).1) p2,Or.inl rfl,by simp_all,?_⟩
     simp_all;omega
def Zcl(jx:List Nq):Nat->Nat->Nat
 | 0,_=>4
 | f+1,n=>4+((Zg (jx.getD n nq0)).map (Zcl jx f)).sum
theorem Zox(i:NOk jx):∀(f g n:Nat),n<f->n<g->Zcl jx f n=Zcl jx g n
 | 0,_,_,h,_=>absurd h (Ya1 _)
 | _+1,0,_,_,h=>absurd h (Ya1 _)
 | f + 1, g + 1, n, k, l => by
   unfold Zcl;rw[Ycb (fun t j=>Zox i f g t (by have:=Zcf i n t j;omega) (by have:=Zcf i n t j;omega))]
theorem Zi3 (f : NOk jx) (n : Nat) : Zcl jx (n + 1) n = 4 + ((Zg (jx.getD n nq0)).map (fun t => Zcl jx (t + 1) t)).sum := by
  rw[Zcl,Ycb (fun t g=>Zox f n _ t (Zcf f n t g) (Ybd _))]
theorem ZuU{g:Gq}(f:NOk g.jx){r:Nat}(j:r<g.jx.length):(Zv g r).jq.length<=Zcl g.jx (r+1) r:=by
 have k:∀n,n<g.jx.length->(fun t=>Zcl _ (t+1) t) n=4+((Zg _).map _).sum:=fun n _=>Zi3 f n;obtain⟨U',K,l,_,_,_,i⟩:=Zj1 (c:=c0 g) (U:=fun _=>false) (T:=fun t=>Zcl g.jx (t+1) t) (Zth f k (r+1) r (Ybd _) j) (by simp_all) ⟨by rfl,fun x h=>(by cases h)⟩
 have o : ∀ x, U' x = false := fun x => by
   cases p:U' x with
   | false=>rfl
   | true=>exact absurd (l.sub x p) Dc
 rw[ZmW _ o,ZmW _ (fun _=>rfl)]at i;have e:(c0 g).jq.length=0:=rfl;rw[e]at i;unfold Zv;omega
end

/- Parts. -/
import Derived.Test.YtcdgkkfipdoeeaaGreatDoorT24
import Derived.Test.YtcdgkkfipdoeeaaGreatDoorT23
set_option linter.all false
set_option maxRecDepth 100000
set_option maxHeartbeats 16000000
namespace Go.Proofs.YtcdgkkfipdoeeaaGreatDoor
open Go.RowKit LS Go.Proofs.Tryz
variable {q:CodeQ}{l:List (Nat×Nat)}{co:List Int}{xs:List Value}{B cap fl g k n sz:Nat}{a:Option Addr}{v v':Value}
section
section
variable {w w' w1:World} {B:Nat}
def Zbe(l:List (Nat×Nat)):Prop:=∀x∈l,x.1=10->x.2<=l.length
theorem Zp7(h:Zbe l)(i:Nat):Zbe (ZL l i)/\(ZL l i).length=l.length:=by
 unfold ZL;split
 ·rename_i d;refine⟨fun x a c=>?_,by simp⟩;rw[Yat];rcases Yck a with a|a
  ·exact h x a c
  ·rw[a];have:l.getD (l.getD i (0,0)).2 (0,0)∈l:=Yaa▸List.getElem?_eq_getElem d.2.1▸List.getElem_mem _;show(l.getD (l.getD i (0,0)).2 (0,0)).2<=l.length;exact h _ this d.2.2
 ·exact⟨h,rfl⟩
theorem Zz3(h:w.ownsRow B 159 2 (.slice (some ⟨g,0,none⟩) n cap) n (l.flatMap insC)){v:Nat}{c:k<l.length}(a:l[k].1=10):(w.setCell ⟨g,k*2+1,none⟩ (Vi v)).ownsRow B 159 2 (.slice (some ⟨g,0,none⟩) n cap) n ((l.set k (10,v)).flatMap insC):=by
 have:=Zrt h (k*2+1) (Vi v)
 rwa [Zlx l k v _ a]at this
theorem ZmA(h:w.ownsRow B 159 2 (.slice (some ⟨g,0,none⟩) n cap) n (l.flatMap insC))(a:k<l.length):w.cell? ⟨g,k*2,none⟩=some (Vi (l.getD k (0,0)).1)/\w.cell? ⟨g,k*2+1,none⟩=some (Vi (l.getD k (0,0)).2):=by
 have q : ∀ j, j < 2 -> (l.flatMap insC)[k * 2 + j]? = (insC (l.getD k (0, 0)))[j]? := fun j c => by
   rw[ZgL insC 2 (fun _=>rfl) l k j a c];simp[a]
 exact⟨Zi h _ (q 0 Dc),Zi h _ (q 1 Dc)⟩
theorem ZDd{w:World}(l:List (Nat×Nat))(h:w.ownsRow B 159 2 (.slice (some ⟨g,0,none⟩) l.length cap) l.length (l.flatMap insC))(D:Zbe l)(J:l.length<=1000000) :
  Cz 78 #[.slice (some ⟨g,0,none⟩) l.length cap] w fun e w'=>e=.returned (.tuple #[])/\Hid (w'.ownsRow B 159 2 (.slice (some ⟨g,0,none⟩) l.length cap) l.length ((Zch l).flatMap insC))/\Hid (w.grownBy w' (some g)):=by
 have E:=hid h;have K:=hid D;obtain⟨L,u⟩:∃L,L=l.length:=⟨_,rfl⟩
 rw[<-u]at E J ⊢;have M:=hid u;have N:Hid (Zch l=ZcI L l):=hid (by unfold Zch;rw[u]);clear h D u;have T:IntKind.i64.wrap ((L) - 1)=(L) - 1:=by rw[Ybo];omega
 go_enter func78,ntmps78;go_wp2
 go_loopw [2] (fun i wr=>∃(k:Nat) (l':List (Nat×Nat)),k<=L/\i=Vi ((k:Int) - 1)/\Hid (wr.ownsRow B 159 2 (.slice (some ⟨g,0,none⟩) L cap) L (l'.flatMap insC))/\Hid (Zbe l'/\l'.length=L)/\Hid (ZcI L l=ZcI k l')/\Hid (w.grownBy wr (some g))) (fun i _=>(intOf i+1).toNat)
 case atStart=>exact⟨L,l,Yac _,rfl,E,hid ⟨K,M.symm⟩,hid rfl,hid (Yek _ _)⟩
 case round=>
  obtain⟨k,l',hk,rfl,a,f,j,m⟩:=hrel;by_cases U:0<k
  ·obtain⟨i,rfl⟩:∃i,k=i+1:=⟨k - 1,by omega⟩
   have p:=f.2;have q:i<l'.length:=by omega
   have F:((i+1:Nat):Int) - 1=i:=by omega
   rw[F];have V:(0:Int)<=i:=by omega
   have W:(i:Int)<L:=by omega
   have X:IntKind.i64.wrap ((i) - 1)=(i) - 1:=by rw[Ybo];omega
   obtain⟨c0',c1'⟩:=ZmA a q;have Y:=Z1 a;have n:Hid (ZcI (i+1) l'=ZcI i _):=hid rfl;have v:=hid (Zp7 f.1 i);have d:Hid (ZL _ i=if (l'.getD i _).1=10/\(l'.getD i _).2<l'.length/\(l'.getD _ _).1=10 then l'.set i _ else l'):=hid rfl
   have r : Hid ((l'.getD i _).1 = 10 -> (l'.getD i (0, 0)).2 <= L) := hid (fun o => by
     have:l'.getD i (0,0)∈l':=Yaa▸List.getElem?_eq_getElem q▸List.getElem_mem _;have:=f.1 _ this o;omega)
   have s:Hid ((l'.getD i (0,0)).1=10->l'[i].1=10):=hid (fun h=>by rw[<-h];simp[q]);have z:=hid (fun(t) (O:t<l'.length)=>ZmA a O);rw[p]at d z;generalize l'.getD i (0,0)=x at *
   obtain⟨op,arg⟩:=x;simp only at c0' c1' d r s;by_cases o:op=10
   ·subst o;have P:=r rfl;by_cases C:arg=L
    ·subst C;have c:Hid (ZL _ i=l'):=hid (by rw[d,if_neg (fun h=>absurd h.2.1 (Nat.lt_irrefl _))]);go_wp2
     go_roundw
     case rel=>exact⟨i,l',by omega,rfl,a,f,hid (by rw[j,n,c]),m⟩
     case measure=>first|(simp[intOf];omega)|simp[intOf]
    ·have A:arg<L:=by omega
     have Z:(arg:Int)≠L:=by omega
     have Q:(arg:Int)<L:=by omega
     obtain⟨d0,d1⟩:=z _ A;generalize l'.getD arg (0,0)=y at *
     obtain⟨op2,arg2⟩:=y;simp only at d0 d1 d;by_cases G:op2=10
     ·subst G;have c:Hid (ZL _ i=l'.set i _):=hid (by rw[d,if_pos ⟨by trivial,A,by trivial⟩]);have fz:=ZjT a (i*2+1);have H:Hid ((wr.setCell _ (.int _ arg2)).ownsRow B _ 2 _ L _):=hid (Zz3 a (s rfl));have I:Hid (w.grownBy (wr.setCell ⟨g,i*2+1,none⟩ (Vi arg2)) _):=hid (ZA m (.inl rfl));go_wp2
      go_roundw
      case rel=>exact⟨i,_,by omega,rfl,H,hid (c.out▸⟨v.1,v.2.trans p⟩),hid (by rw[j,n,c]),I⟩
      case measure=>first|(simp[intOf];omega)|simp[intOf]
     ·have a0:(op2:Int)≠10:=by omega
      have c:Hid (ZL _ i=l'):=hid (by rw[d,if_neg (fun h=>G h.2.2)]);go_wp2
      go_roundw
      case rel=>exact⟨i,l',by omega,rfl,a,f,hid (by rw[j,n,c]),m⟩
      case measure=>first|(simp[intOf];omega)|simp[intOf]
   ·have R:(op:Int)≠10:=by omega
    have c:Hid (ZL _ i=l'):=hid (by rw[d,if_neg (fun h=>o h.1)]);go_wp2
    go_roundw
    case rel=>exact⟨i,l',by omega,rfl,a,f,hid (by rw[j,n,c]),m⟩
    case measure=>first|(simp[intOf];omega)|simp[intOf]
  ·obtain rfl:k=0:=by omega
   have S:Hid (Zch l=l'):=by rw[N,j];rfl
   go_wp2;exact bodyPost_end (results_none rfl _ _ _) rfl ⟨rfl,hid (by rwa [S.out]),m⟩
end
end
section
section
variable {w0 w w' w1 w2:World} {X:GX} {Y:CX} {nv uv sv rv cv iv cv' iv':Value} {sl:List SelC} {rl:List RowC} {g:Gq} {c c' d:Cq} {jx:List Nq} {W:Nat->Cq->Cq} {n x y:Nat} {l:List (Nat×Nat)}
theorem Zp4 (h : Zbe l) {z : Nat × Nat} (f : z.1 = 10 -> z.2 <= l.length + 1) : Zbe (l ++ [z]) := fun q i e => by
  rw[Yab,Ybj];rcases Yar.1 i with a|a
  · have:=h q a e;omega
  · rw[Yap]at a;subst a;exact f e
theorem Zga(h:Zbe c.jz){op:Nat}(arg:Nat)(a:op≠10):Zbe (Zc op arg c).jz:=Zp4 h (fun e=>absurd e a)
theorem Zp6(h:Zbe c.jz)(n s:Nat):Zbe (ZZ n s c).jz:=Zga h s Dc
theorem Zjn(f:∀z c,Zbe c.jz->Zbe (W z c).jz)(h:Zbe c.jz):Zbe (putQ jx W n c).jz:=by
 cases e:ZK n c.jy with
 | some s=>
  rw[Zd8 e];split
  ·exact Zga h s Dc
  ·exact Zga h s Dc
 | none=>
  rw[ZdR e];have a:=f n (decL n c) h;split
  ·exact a
  ·split
   ·exact Zga (Zp6 a _ _) _ Dc
   ·exact a
theorem Zp3(a:∀z c,Zbe c.jz->Zbe (W z c).jz):∀(k:Nat) (c:Cq),Zbe c.jz->Zbe (ZG jx W n k c).jz
 | 0,c,h=>h
 | k + 1, c, h => by
   unfold ZG;split
   · rename_i z s _ _
     exact Zp3 a k _ (Zp6 (a z { c with jy:=c.jy.set s _ } h) z s)
   · exact h
theorem Zxo(a:∀z c,Zbe c.jz->Zbe (W z c).jz)(h:Zbe c.jz):Zbe (Zbo jx W x y c).jz:=by
 unfold Zbo;simp only;have i:=Zjn (jx:=jx) (n:=x) a (Zp3 (jx:=jx) (n:=y) a (y+2) c h);generalize putQ jx W x (ZG jx W y (y+2) c)=c1 at *
 have j:=Zjn (jx:=jx) (n:=y) a (Zga (c:=Zc 10 0 _) (op:=11) (Zp4 i (fun _=>Yag _)) 0 Dc);intro z k f;rw[Yat];rcases Yck k with e|e
 ·exact j z e f
 ·rw[e];exact Yac _
theorem Zp5 (a : ∀ z c, Zbe c.jz -> Zbe (W z c).jz) : ∀ (ts : List Nat) (c : Cq), Zbe c.jz -> Zbe (ts.foldl (fun c t => putQ jx W t c) c).jz
  | [],c,h=>h
  | t::ts,c,h=>by rw[Ybp];exact Zp5 a _ _ (Zjn a h)
theorem Zp8:∀(f n:Nat) (c:Cq),Zbe c.jz->Zbe (Zr jx f n c).jz
 | 0,n,c,h=>h
 | f + 1, n, c, h => by
   have e:=fun z c=>Zp8 f z c;by_cases a:(jx.getD n nq0).op=10
   · unfold Zr;simp only;rw[if_pos a];exact Zxo e h
   · rw[Zgu a]
     have i:=Zp5 (jx:=jx) e (Zg (jx.getD n nq0)) c h;unfold ZbD;split
     · exact Zga i _ Dc
     · exact Zga i _ a
theorem Zi2(g:Gq)(r:Nat):Zbe (Zv g r).jz:=Zjn (fun z c h=>Zp8 _ z c h) (fun z a=>by cases a)
theorem ZEQ(f n:Nat)(c:Cq):0<(Zr jx (f+1) n c).jz.length:=by
 by_cases a:(jx.getD n nq0).op=10
 ·unfold Zr;simp only;rw[if_pos a];unfold Zbo;simp only[Yat];exact Yaw (by simp[Zc]) (Zg4 _ (fun c=>ZiK f _ c) _).1
 ·rw[Zgu a];unfold ZbD;split <;> simp[Zc]
theorem ZCo(n:Nat):ZK n (List.replicate 16 none)=none:=by
 unfold ZK;rw[Yc2];intro s _;rw[Yaa,Ybs];split <;> simp
theorem Zoo(g:Gq)(r:Nat):0<(Zv g r).jz.length:=by
 unfold Zv;rw[ZdR (ZCo r)];have h:=ZEQ (jx:=g.jx) r r (decL r (c0 g));split
 ·exact h
 ·split
  ·simp[Zc,ZZ]
  ·exact h
theorem ZiE:∀(k:Nat) (l:List (Nat×Nat)),Zbe l->Zbe (ZcI k l)/\(ZcI k l).length=l.length
 | 0,l,h=>⟨h,rfl⟩
 | k + 1, l, h => by
   have a:=Zp7 h k;have e:=ZiE k _ a.1;exact⟨e.1,e.2.trans a.2⟩
structure CodeW (B:Nat) (w:World) (cv sv rv iv:Value) (sl:List SelC) (rl:List RowC) (c:CodeQ):Prop where
 cons:w.ownsRow B 3 1 cv c.jq.length (c.jq.map (Value.int .i64))
 sel:w.ownsRow B 156 3 sv c.jw.length (sl.flatMap ZfB)
 grp:w.ownsRow B 122 1 rv c.jv.length (rl.map rowV)
 jz:w.ownsRow B 159 2 iv c.jz.length (c.jz.flatMap insC)
 sok:ZcK w sl c.jw
 gok:ZbK w rl c.jv
theorem ZcK.mono(e:∀v cs,ZX w v cs->ZX w' v cs):∀ {a:List SelC} {b:List (Nd×Nat)},ZcK w a b->ZcK w' a b
 | [],[],h=>h
 | _::_,_::_,h=>⟨⟨h.1.1,e _ _ h.1.2.1,h.1.2.2⟩,ZcK.mono e h.2⟩
 | [],_::_,h=>h
 | _::_,[],h=>h
theorem CodeW.kb{T:TypeId}(h:CodeW B w cv sv rv iv sl rl q)(e:KB T w w')(f:T∉[3,156,122,159,224,9]):CodeW B w' cv sv rv iv sl rl q:=by
 simp only[Yau,List.not_mem_nil,or_false,not_or]at f;obtain⟨i,j,k,m,o,p⟩:=f;exact⟨e.own h.cons (Ycp i),e.own h.sel (Ycp j),e.own h.grp (Ycp k),e.own h.jz (Ycp m),h.sok.mono (fun _ _ ⟨bs,a,b⟩=>⟨bs,e.own a (Ycp o),b⟩),h.gok.kb e (Ycp p)⟩
theorem CodeW.below(h:CodeW B w cv sv rv iv sl rl q)(a:BW w w'):CodeW B w' cv sv rv iv sl rl q:=h.kb (KB.below 0 a) Dc
theorem CodeW.lower{A:Nat}(h:CodeW B w cv sv rv iv sl rl q)(a:A<=B):CodeW A w cv sv rv iv sl rl q:=⟨h.cons.mono a,h.sel.mono a,h.grp.mono a,h.jz.mono a,h.sok,h.gok⟩
structure QW (w0 w:World) (X:GX) (Y:CX) (g:Gq) (nv uv sv rv cv iv:Value) (sl:List SelC) (rl:List RowC) (co:List Int) (l:List (Nat×Nat)):Prop where
 cb:BAt w Y.cb (coC Y cv iv) 171
 gb:BAt w X.gb (graC X g nv uv sv rv) 176
 code:CodeW w0.heap.size w cv sv rv iv sl rl ⟨co,g.jm,g.ky,l⟩
 bel:BW w0 w
theorem ZmE {base : Nat} {e : TypeId}   {n : Nat}  (a : w.ownsRow base e sz v n xs) (h : ∀ (b : Nat) (cs : Array Value) (fr : Nat × Nat), w.heap[b]? = some (.cells cs e fr) -> w'.heap[b]? = w.heap[b]?) : w'.ownsRow base e sz v n xs := ZdA a (fun k f => by
  obtain⟨cs,fr,i⟩:=Zcw a f;exact h _ _ _ i)
theorem Co.chgT(h:Co w Y cv iv c){b:Nat}{cs:Array Value}{U:TypeId}{fr:Nat×Nat}(a:w.heap[b]?=some (.cells cs U fr))(i:U≠171/\U≠3/\U≠159):¬Y.chg cv iv b:=by
 obtain⟨lc,lf,m⟩:=Zcw h.left rfl;obtain⟨e1,c1,o⟩:=h.jy.obj;obtain⟨f,p⟩:=h.tak;obtain⟨e2,c2,k⟩:=p.obj;rintro(e|e|e|e|e|e)
 ·subst e;exact i.1 (Zc7 a h.box)
 ·subst e;exact i.2.1 (Zc7 a m)
 ·subst e;exact ZbU o a rfl
 ·subst e;exact ZbU k a rfl
 ·obtain⟨_,_,j⟩:=Zcw h.cons e;exact i.2.1 (Zc7 a j)
 ·obtain⟨_,_,j⟩:=Zcw h.jz e;exact i.2.2 (Zc7 a j)
theorem Co.chgB(h:Co w Y cv iv c){b:Nat}(a:Y.chg cv iv b):Y.base<=b:=by
 rcases a with e|e|e|e|e|e
 ·rw[e];exact h.bas.1
 ·rw[e];exact(h.left.lt _ rfl).1
 ·rw[e];exact h.bas.2.1
 ·rw[e];exact h.bas.2.2
 ·exact(h.cons.lt _ e).1
 ·exact(h.jz.lt _ e).1
theorem ZbK.stay{a:List RowC}{b:List (List (LB))}(h:ZbK w a b)(e:∀(b:Nat) (cs:Array Value) (fr:Nat×Nat),w.heap[b]?=some (.cells cs 9 fr)->w'.heap[b]?=w.heap[b]?):ZbK w' a b:=h.mono (fun _ _ ⟨bs,f,i⟩=>⟨bs,ZmE f e,i⟩)
theorem QW.of(h:GI w0 w X nv uv sv rv sl rl g)(k:BW w w1)(m:Y.gb=X.gb/\Y.base=X.base/\Y.gc=graC X g nv uv sv rv)(p:Co w1 Y cv iv c)(q:KeepS (Y.chg cv iv) w1 w2)(hd:Co w2 Y cv' iv' d):QW w0 w2 X Y g nv uv sv rv cv' iv' sl rl d.jq d.jz:=by
 obtain⟨f,a,_⟩:=h.j;have o:=m.2.1.trans a.bas.1
 have st : ∀ {U : TypeId}, (U ≠ 171 /\ U ≠ 3 /\ U ≠ 159) -> ∀ (b : Nat) (cs : Array _) (fr : Nat × Nat), w.heap[b]? = some (.cells cs U fr) -> w2.heap[b]? = w.heap[b]? := fun s b cs fr e => by
   have r:=(Yae.1 e).1;have i:=k.block b r;rw[q.block b (Yaw r k.size) (p.chgT (i.trans e) s),i]
 have e:=a.bel.trans (k.mono a.bel.size);have i:=e.trans (q.below (fun j a=>o▸p.chgB a) e.size);refine⟨hd.box,?_,⟨?_,?_,?_,?_,a.sok.mono (fun _ _ h=>h.below i),?_⟩,i⟩
 ·have:=hd.gbox;rwa [m.1,m.2.2]at this
 ·rw[<-o];exact hd.cons
 ·have:=a.bas.1;rw[<-this];exact ZmE a.sel (st ⟨by decide,by decide,by decide⟩)
 ·have:=a.bas.1;rw[<-this];exact ZmE a.grp (st ⟨by decide,by decide,by decide⟩)
 ·rw[<-o];exact hd.jz
 ·exact a.gok.stay (st ⟨by decide,by decide,by decide⟩)
theorem QW.led{ib ic:Nat}(h:QW w0 w X Y g nv uv sv rv cv (.slice (some ⟨ib,0,none⟩) l.length ic) sl rl co l)(i:Zbe l)(j:w1.ownsRow w0.heap.size 159 2 (.slice (some ⟨ib,0,none⟩) l.length ic) l.length ((Zch l).flatMap insC))(f:w.grownBy w1 (some ib)):QW w0 w1 X Y g nv uv sv rv cv (.slice (some ⟨ib,0,none⟩) l.length ic) sl rl co (Zch l):=by
 have e:=KB.row h.code.jz f;refine⟨e.bat h.cb Dc,e.bat h.gb Dc,⟨e.own h.code.cons Dc,e.own h.code.sel Dc,e.own h.code.grp Dc,?_,h.code.sok.mono (fun _ _ ⟨bs,a,b⟩=>⟨bs,e.own a Dc,b⟩),h.code.gok.kb e Dc⟩,?_⟩
 ·show w1.ownsRow _ _ _ _ (Zch l).length _;rw[show(Zch l).length=l.length from(ZiE _ l i).2];exact j
 ·exact ZeR h.bel f (fun k e=>by injection e with e;subst e;exact(h.code.jz.lt _ rfl).1)
theorem QW.below(h:QW w0 w X Y g nv uv sv rv cv iv sl rl co l)(a:BW w w'):QW w0 w' X Y g nv uv sv rv cv iv sl rl co l:=⟨h.cb.below a,h.gb.below a,h.code.below a,h.bel.trans (a.mono h.bel.size)⟩
theorem CodeW.set4{A b:Nat}{x0 x1 x2 x3 v0 v1 v2 v3:Value}(e:BAt w b [x0,x1,x2,x3] 59)(h:CodeW B w cv sv rv iv sl rl q)(f:Below A w0 w)(a:A<=b):BAt ((((w.setCell ⟨b,0,none⟩ v0).setCell ⟨b,1,none⟩ v1).setCell ⟨b,2,none⟩ v2).setCell ⟨b,3,none⟩ v3).drew b [v0,v1,v2,v3] 59/\CodeW B ((((w.setCell ⟨b,0,none⟩ v0).setCell ⟨b,1,none⟩ v1).setCell ⟨b,2,none⟩ v2).setCell ⟨b,3,none⟩ v3).drew cv sv rv iv sl rl q/\Below A w0 ((((w.setCell ⟨b,0,none⟩ v0).setCell ⟨b,1,none⟩ v1).setCell ⟨b,2,none⟩ v2).setCell ⟨b,3,none⟩ v3).drew:=by
 have b1:=e.setC 0 v0;have b2:=b1.setC 1 v1;have b3:=b2.setC 2 v2;have b4:=b3.setC 3 v3;have i:=(((KB.set e 0 _).trans (KB.set b1 1 _)).trans (KB.set b2 2 _)).trans (KB.set b3 3 v3);exact⟨b4,(h.kb i Dc).below (Yaf _ _).drew,((((f.setCell (p:=⟨b,0,none⟩) a _).setCell a _).setCell a _).setCell (p:=⟨b,3,none⟩) a _).drew⟩
theorem ZtH(a:fl<=7):bits .and .i64 (fl:Int) 4=if 4<=fl then 4 else 0:=by
 rcases(by omega:fl=0∨fl=1∨fl=2∨fl=3∨fl=4∨fl=5∨fl=6∨fl=7)with rfl|rfl|rfl|rfl|rfl|rfl|rfl|rfl <;> rfl
theorem ZA2{w:World}(t:Tr)(fl:Nat)(hf:fl<=7)(hv:Zh w t v)(B:wfT t)(L:isNil t=false)(M:wT t<=100000)(ht:ZR w)(hB:20<=w.heap.size)(hS:Sml (Zv (Zb t (g0 fl)).2 (Zb t (g0 fl)).1)) :
  Cz 37 #[v,Vi fl] w fun e w'=>∃cv sv rv iv sl rl,e=.returned (.agg #[cv,sv,rv,iv])/\Hid (CodeW w.heap.size w' cv sv rv iv sl rl (LS.codeOf t fl))/\BW w w':=by
 obtain⟨P,H⟩:∃P,P=Zb t (g0 fl):=⟨_,rfl⟩
 have q:Hid (LS.codeOf t fl=⟨(Zv P.2 P.1).jq,P.2.jm,P.2.ky,if 4<=fl then Zch (Zv P.2 P.1).jz else (Zv P.2 P.1).jz⟩):=by rw[H];rfl
 have r:=hid (Zew t (g0 fl) B);rw[<-H]at hS r;have HP:=hid H;have HS:=hid hS;have HV:=hid hv;have b2:=hid B;have HT:=hid ht;have N:=hid hB;have b3:=hid L;have o:=hid M;have O:=ZtH hf;clear H hS hv B ht hB L M;go_enter func37,ntmps37
 go_wp2_with fail
 refine Zm fun k s=>?_;have Q:BW w k:=s▸belB;have c1:k.heap.size=w.heap.size+1:=by rw[s];simp
 have R:Hid (BAt _ _ _ 59):=s▸(show BAt _ _ _ _ from bnw);have p:=hid Q;clear s Q;refine(Zzj hf).mono ?_;rintro e w1 ⟨rfl,HG⟩;obtain⟨X,hX⟩:∃X:GX,X=⟨k.heap.size,k.heap.size+3,k.heap.size,k.heap.size+1,k.heap.size+2⟩:=⟨_,rfl⟩
 have S:k.heap.size+3=X.gb:=by rw[hX]
 rw[<-hX]at HG;rw[S];clear hX S
 go_wp2_with fail
 refine(ZmI X (HT.low p N) (Yah N p.size) t _ _ v HG (HV.below p) b2 o (by have:=o.out;show 0+_<=_;omega) (by have:=o.out;show 0+_<=_;omega) (by have:=o.out;show 0+_<=_;omega)).mono ?_;rintro e w2 ⟨rfl,u⟩;rw[<-HP]at u ⊢;obtain⟨root,g⟩:=P;simp only at u q HS r ⊢;obtain⟨nv,uv,sv,rv,sl,rl,T,_⟩:=u.out;have U:=hid T;have z:=r.2 b3;have b4:g.jx.length<=400000:=by have h1:=r.1.n2;have:=o.out;have e:(g0 fl).jx.length=0:=rfl;rw[e]at h1;omega
 clear T u HG HP
 go_wp2_with fail
 refine(Zzi U Om b4).mono ?_;rintro e w3 ⟨cb,rfl,V⟩;obtain⟨Y,b5,Z,a0,a1,a2,a3,a4⟩:=V.out;have HY:=hid (And.intro Z (And.intro a1 a2));have a5:=hid a3;have b6:=hid a4;have A:=hid a0;subst b5;clear Z a0 a1 a2 a3 a4 V
 go_wp2_with fail
 refine(ZjZ (Ztg Y (root+1) _ (Ybd _) (A.out▸z)) a5 (A.out▸z) (by rwa [A.out])).mono ?_;rintro e I ⟨rfl,D⟩;obtain⟨cv,iv,hd,hk,_,_⟩:=D.out;obtain⟨C,E⟩:∃C,C=Zv g root:=⟨_,rfl⟩
 have a6:Co I Y cv iv C:=by rw[E];rw[A]at hd;exact hd
 have m:=hid (QW.of U b6 HY a5 hk a6);have b7:0<C.jz.length:=E▸Zoo g root;have a7:Hid (Zbe _):=E▸Zi2 g root;rw[<-E]at HS q;obtain⟨ib,ic,b8⟩:=ZF m.code.jz b7;subst b8;obtain⟨ca,cc,a8⟩:=Zl m.code.cons;obtain⟨sa,sc,a9⟩:=Zl m.code.sel;obtain⟨ra,rc,b0⟩:=Zl m.code.grp;simp only at a8 a9 b0;subst a8 a9 b0;clear hd a6 hk D E;have m5:I.cell? _=some (.slice _ C.jz.length _):=m.cb.cell 5;have c2:=m.cb.lt;have F:=hid (ZDd C.jz m.code.jz a7 HS.1);by_cases J:4<=fl
 ·rw[if_pos J]at O
  go_wp2_with fail
  refine F.mono ?_;rintro e WW ⟨rfl,HR,b1⟩;have i:Hid (QW k WW X Y g nv uv (.slice sa g.jm.length sc) (.slice ra g.ky.length rc) (.slice ca C.jq.length cc) (.slice (some ⟨ib,0,none⟩) C.jz.length ic) sl rl C.jq (if 4<=fl then Zch C.jz else C.jz)):=if_pos J▸m.led a7.out HR.out b1.out;clear HR b1 F m m5
  go_upto_region 7 with fail
  have f:Hid (BAt WW.drew w.heap.size [S0,S0,S0,S0] 59):=by have:=R.below i.bel;exact this
  have b9:=hid (i.below (Yaf _ _).drew);refine Zbn 17 (fun w'=>w'.cell? _=some _/\w'.cell? _=some _/\w'.cell? _=some _/\w'.cell? _=some _) Kr ⟨i.cb.cell 4,i.cb.cell 5,i.gb.cell 5,i.gb.cell 6⟩ (fun a=>?_);refine Za 0 a (h:=?_);refine Za 1 a (h:=?_);refine Za 2 a (h:=?_);refine Za 3 a (h:=?_);refine Za 4 a (h:=?_);refine Za 5 a (h:=?_);refine Za 6 a (h:=?_);refine Za 7 a (h:=?_);refine Za 8 a (h:=?_);refine Za 9 a (h:=?_);refine Za 10 a (h:=?_);refine Za 11 a (h:=?_);refine Za 12 a (h:=?_);refine Za 13 a (h:=?_);refine Za 14 a (h:=?_);refine Za 15 a (h:=?_);refine Za 16 a (h:=?_);refine Zbl Kr Kr rfl Kr (fun K G=>?_);have ml:w.heap.size<WW.heap.size:=f.lt;have f0:WW.frozen? _=false:=f.frozen 0;have f1:WW.frozen? _=false:=f.frozen 1;have f2:WW.frozen? _=false:=f.frozen 2;have f3:WW.frozen? _=false:=f.frozen 3;have k0:WW.cell? _=some _:=f.cell 0;have k1:WW.cell? _=some _:=f.cell 1;have k2:WW.cell? _=some _:=f.cell 2;have k3:WW.cell? _=some _:=f.cell 3;go_simp;refine G _ _ ?_;clear a G K k0 k1 k2 k3 f0 f1 f2 f3 ml;have j:=hid (CodeW.set4 (w:=WW) (v0:=.slice ca C.jq.length cc) (v1:=.slice sa g.jm.length sc) (v2:=.slice ra g.ky.length rc) (v3:=.slice (some ⟨ib,0,none⟩) C.jz.length ic) f i.code (p.trans (i.bel.mono Om)) (Yac _));generalize((((WW.setCell ⟨w.heap.size,0,none⟩ (.slice ca C.jq.length cc)).setCell ⟨w.heap.size,1,none⟩ (.slice sa g.jm.length sc)).setCell ⟨w.heap.size,2,none⟩ (.slice ra g.ky.length rc)).setCell ⟨w.heap.size,3,none⟩ (.slice (some ⟨ib,0,none⟩) C.jz.length ic)).drew=W4 at *
  have k0:W4.cell? _=some _:=j.1.cell 0;have k1:W4.cell? _=some _:=j.1.cell 1;have k2:W4.cell? _=some _:=j.1.cell 2;have k3:W4.cell? _=some _:=j.1.cell 3;go_wp2;refine bodyPost_ret (results_cell_row rfl _ _ _ _ _ _ _ rfl j.1 underlying59 rfl Kr) rfl ?_;exact⟨_,_,_,_,sl,rl,rfl,hid (q.out▸j.2.1.lower Om),j.2.2⟩
 ·rw[if_neg J]at O;have i:Hid (QW k I X Y g nv uv (.slice sa g.jm.length sc) (.slice ra g.ky.length rc) (.slice ca C.jq.length cc) (.slice (some ⟨ib,0,none⟩) C.jz.length ic) sl rl C.jq (if 4<=fl then Zch C.jz else C.jz)):=by rwa [if_neg J]
  clear F m m5;generalize I=WW at *
  go_upto_region 7 with fail
  have f:Hid (BAt WW.drew w.heap.size [S0,S0,S0,S0] 59):=by have:=R.below i.bel;exact this
  have b9:=hid (i.below (Yaf _ _).drew);refine Zbn 17 (fun w'=>w'.cell? _=some _/\w'.cell? _=some _/\w'.cell? _=some _/\w'.cell? _=some _) Kr ⟨i.cb.cell 4,i.cb.cell 5,i.gb.cell 5,i.gb.cell 6⟩ (fun a=>?_);refine Za 0 a (h:=?_);refine Za 1 a (h:=?_);refine Za 2 a (h:=?_);refine Za 3 a (h:=?_);refine Za 4 a (h:=?_);refine Za 5 a (h:=?_);refine Za 6 a (h:=?_);refine Za 7 a (h:=?_);refine Za 8 a (h:=?_);refine Za 9 a (h:=?_);refine Za 10 a (h:=?_);refine Za 11 a (h:=?_);refine Za 12 a (h:=?_);refine Za 13 a (h:=?_);refine Za 14 a (h:=?_);refine Za 15 a (h:=?_);refine Za 16 a (h:=?_);refine Zbl Kr Kr rfl Kr (fun K G=>?_);have ml:w.heap.size<WW.heap.size:=f.lt;have f0:WW.frozen? _=false:=f.frozen 0;have f1:WW.frozen? _=false:=f.frozen 1;have f2:WW.frozen? _=false:=f.frozen 2;have f3:WW.frozen? _=false:=f.frozen 3;have k0:WW.cell? _=some _:=f.cell 0;have k1:WW.cell? _=some _:=f.cell 1;have k2:WW.cell? _=some _:=f.cell 2;have k3:WW.cell? _=some _:=f.cell 3;go_simp;refine G _ _ ?_;clear a G K k0 k1 k2 k3 f0 f1 f2 f3 ml;have j:=hid (CodeW.set4 (w:=WW) (v0:=.slice ca C.jq.length cc) (v1:=.slice sa g.jm.length sc) (v2:=.slice ra g.ky.length rc) (v3:=.slice (some ⟨ib,0,none⟩) C.jz.length ic) f i.code (p.trans (i.bel.mono Om)) (Yac _));generalize((((WW.setCell ⟨w.heap.size,0,none⟩ (.slice ca C.jq.length cc)).setCell ⟨w.heap.size,1,none⟩ (.slice sa g.jm.length sc)).setCell ⟨w.heap.size,2,none⟩ (.slice ra g.ky.length rc)).setCell ⟨w.heap.size,3,none⟩ (.slice (some ⟨ib,0,none⟩) C.jz.length ic)).drew=W4 at *
  have k0:W4.cell? _=some _:=j.1.cell 0;have k1:W4.cell? _=some _:=j.1.cell 1;have k2:W4.cell? _=some _:=j.1.cell 2;have k3:W4.cell? _=some _:=j.1.cell 3;go_wp2;refine bodyPost_ret (results_cell_row rfl _ _ _ _ _ _ _ rfl j.1 underlying59 rfl Kr) rfl ?_;exact⟨_,_,_,_,sl,rl,rfl,hid (q.out▸j.2.1.lower Om),j.2.2⟩
end
end
section
section
variable {w0 w w' w1 w2:World} {v:Value} {l:LB}
theorem ZbG(k:Nat):∀n,(digL n k).length=k:=by
 induction k with
 | zero=>intro n;rfl
 | succ k ih=>intro n;simp[digL,ih]
theorem Zvt(k:Nat):∀n,digL n (k+1)=UInt8.ofNat (n / 256 ^ k % 256)::digL n k:=by
 induction k with
 | zero=>intro n;simp[digL]
 | succ k ih=>
  intro n;show digL (n / 256) (k+1)++[UInt8.ofNat (n % 256)]=_;rw[ih,Nat.div_div_eq_div_mul,<-Nat.pow_succ'];rfl
def u8V(b:UInt8):Value:=.int .u8 (b.toNat:Int)
structure WrS (w0 w:World) (v:Value) (l:LB):Prop where
 row:w.ownsRow w0.heap.size 5 1 v l.length (l.map u8V)
 bel:BW w0 w
theorem WrS.below(h:WrS w0 w v l)(a:BW w w'):WrS w0 w' v l:=⟨Zn h.row a,h.bel.trans (a.mono h.bel.size)⟩
theorem WrS.grow(h:WrS w0 w v l)(a:BW w w1){l':LB}(c:w2.ownsRow w0.heap.size 5 1 v' l'.length (l'.map u8V))(d:w1.grownBy w2 v.ownBlock):WrS w0 w2 v' l':=⟨c,ZeR (h.below a).bel d (fun k e=>(h.row.lt k e).1)⟩
theorem WrS.shape(h:WrS w0 w v l):∃a c,v=.slice a l.length c:=Zl h.row
theorem ZCV(s:BA):Lib.strCells s=(bl s).map u8V:=by
 simp[Lib.strCells,bl,u8V]
theorem Zun{z:Int}(a:n=(z % 4294967296).toNat)(i:Nat)(c:i<4):((UInt8.ofNat (n / 256 ^ i % 256)).toNat:Int)=z / 256 ^ i % 256:=by
 have h:(UInt8.ofNat (n / 256 ^ i % 256)).toNat=n / 256 ^ i % 256:=by
  rw[Yf0];omega
 rw[h,a];rcases(by omega:i=0∨i=1∨i=2∨i=3)with rfl|rfl|rfl|rfl <;> simp only[Nat.reducePow,Int.reducePow] <;> omega
theorem Zhu(h:WrS w0 w v l)(z:Int)(size:Nat)(U:size<=4)(J:l.length<=1000000000000) :
  Cz 70 #[v,Vi z,Vi size] w fun e w'=>∃v',e=.returned v'/\Hid (WrS w0 w' v' (l++digL (z % 4294967296).toNat size))/\Hid (KB 5 w w'):=by
 obtain⟨i0,K,t,x,y⟩:=info_parts ZiY;obtain⟨n,r⟩:∃n,n=(z % 4294967296).toNat:=⟨_,rfl⟩
 have L:=hid r;rw[<-r];clear r;obtain⟨va,vc,rfl⟩:=h.shape;obtain⟨m0,p⟩:∃m0,m0=l.length:=⟨_,rfl⟩
 have A:=hid p;rw[<-p]at h J ⊢;clear p;have M:=hid h;clear h;have Q:IntKind.i64.wrap ((size) - 1)=(size) - 1:=by rw[Ybo];omega
 go_enter func70,ntmps70;go_wp2
 go_loopw [0,7] (fun tv iv wr=>∃(k m:Nat) (cur:LB) (a:Option Addr) (c:Nat),k<=size/\m<=m0+4 - k/\iv=Vi ((k:Int) - 1)/\tv=.slice a m c/\Hid (WrS w0 wr (.slice a m c) cur/\m=cur.length)/\Hid (cur++digL n k=l++digL n size)/\Hid (KB 5 w wr)) (fun _ iv _=>(intOf iv+1).toNat)
 case atStart=>exact⟨size,m0,l,va,vc,Yac _,by omega,rfl,rfl,hid ⟨M,A⟩,hid rfl,hid (KB.below _ (Yaf _ _))⟩
 case round=>
  obtain⟨k,m,cur,a,c,V,W,rfl,rfl,d,B,q⟩:=hrel;by_cases R:0<k
  ·obtain⟨i,rfl⟩:∃i,k=i+1:=⟨k - 1,by omega⟩
   have C:((i+1:Nat):Int) - 1=i:=by omega
   rw[C];have D:i<4:=by omega
   have N:=hid (Zun L i D);have E:Hid ((cur++[UInt8.ofNat (n / 256 ^ i % 256)])++digL n i=l++digL n size):=by rw[<-B,Zvt,Yan];rfl
   generalize UInt8.ofNat (n / 256 ^ i % 256)=b at *
   have j:=d.1.row;rw[<-d.2]at j;have S:=d.1.bel.size;have s:Hid (∀o,(wr.alloc o).ownsRow _ 5 1 _ m _):=hid (fun o=>j.alloc _);clear j;have T:IntKind.i64.wrap ((i) - 1)=(i) - 1:=by rw[Ybo];omega
   rcases(by omega:i=0∨i=1∨i=2∨i=3)with rfl|rfl|rfl|rfl
   all_goals
    go_wp2_with (at_builtin;refine wpList_append_own _ rfl (.tmp 14) (.tmp 20) 87 rfl w0.heap.size 5 i0 (.int .u8 0) 1 1 underlying87 K t x y rfl Dc _ _ _ rfl (s.out _) ⟨wr.heap.size,0,none⟩ 1 1 [_] rfl rfl (cell_one_new _ _ _) ?c2 ?c3 ?c4 ?c5 ?_)
    case c2=>intro u F;rw[Yap]at F;subst F;rfl
    case c3=>unfold maxLen;omega
    case c4=>omega
    case c5=>simp;omega
    intro v' O f g _;obtain⟨va3,vc3,rfl⟩:=Zl f
    have G:Hid (WrS _ _ _ (cur++[b])):=hid (d.1.grow Zbal (by
     rw[Yab,Yaq,<-d.2];have H:=N.out;simp only[Int.reducePow,Int.ediv_one]at H;show O.ownsRow _ _ _ _ (m+1) (List.map u8V cur++[Value.int .u8 (b.toNat:Int)]);rw[H];exact f) g)
    have I:=hid ((q.trans (KB.below _ Zbal)).trans (KB.row (s _) g));clear f g s;go_wp2
    go_roundw
    case rel=>exact⟨_,m+1,cur++[b],va3,vc3,Om,by omega,rfl,rfl,hid ⟨G,by rw[Yab,<-d.2];rfl⟩,E,I⟩
    case measure=>first|(simp[intOf];omega)|simp[intOf]
  ·obtain rfl:k=0:=by omega
   have P:Hid (cur=l++digL n _):=hid (by rw[<-B];simp[digL]);go_wp2;go_ret;exact⟨_,rfl,hid (P.out▸d.1),q⟩
theorem ZnS(h:WrS w0 w v l)(s:BA)(x:s.size<=1000000000)(y:l.length<=1000000000000) :
  Cz 71 #[v,.string s] w fun e w'=>∃v',e=.returned v'/\Hid (WrS w0 w' v' (l++ZO (bl s))):=by
 obtain⟨i0,q,i,j,k⟩:=info_parts ZiY;have r:=hid h;have t:Hid (((s.size:Int) % 4294967296).toNat=(bl s).length):=hid (by rw[Zd];omega);go_enter func71,ntmps71
 go_wp2_with fail
 refine(Zhu r _ 2 Dc Om).mono ?_;rintro e w1 ⟨v1,rfl,d,_⟩;rw[t]at d;obtain⟨a1,c1,rfl⟩:=d.shape;have a:(l++digL (bl s).length 2).length=l.length+2:=by rw[Yab,ZbG]
 obtain⟨m1,f⟩:∃m1,m1=(l++digL (bl s).length 2).length:=⟨_,rfl⟩
 have g:=d.row;have u:=d.bel.size;have m:=hid f;rw[<-f]at g a ⊢;replace a:m1<=l.length+2:=Ydh a;clear f
 go_wp2_with (at_builtin;refine Lib.wpList_append_own_string _ rfl _ _ 87 9 rfl w0.heap.size 5 i0 underlying87 underlying9 q i j k _ _ _ rfl g s rfl ?c3 ?c4 ?c5 ?_)
 case c3=>unfold maxLen;omega
 case c4=>omega
 case c5=>omega
 intro v' w2 c p _
 have n:Hid (WrS _ _ _ (l++ZO _)):=hid (d.grow (Yaf _ _) (by
  unfold ZO;rw[<-Yan,Yab,<-m,Yaq,<-ZCV,Zd];have o:=c;simp only[Yaq,Yan,Zd]at o ⊢;exact o) (by rwa [<-m.out]))
 obtain⟨a2,c2,rfl⟩:=Zl c;go_wp2;go_ret;exact⟨_,rfl,n⟩
end
end
section
section
variable {w0 w w' w1 w2:World} {v:Value} {l:LB}
structure CodeOk (q:CodeQ):Prop where
 c:q.jq.length<=1000000
 s:q.jw.length<=400000
 g:q.jv.length<=400000
 i:q.jz.length<=1000000
 sw:∀y∈q.jw,SelW y
 gw:∀x∈q.jv,nw x<=100000
theorem WrS.new(w:World)(b:UInt8):WrS w (w.alloc (.cells #[u8V b] 5)) (.slice (some ⟨w.heap.size,0,none⟩) 1 1) [b]:=⟨World.ownsRow_lit w _ 1 (Yac _) (by unfold maxLen;omega) rfl,Zbal⟩
theorem Zh3{α:Type}(f:α->LB)(l:List α)(k:Nat)(h:k<l.length):(l.take (k+1)).flatMap f=(l.take k).flatMap f++f l[k]:=by
 rw[List.take_succ_eq_append_getElem h,Yds];simp
theorem ZcK.at:∀ {a:List SelC} {b:List (Nd×Nat)},ZcK w a b->∀(k:Nat) (c:k<a.length) (d:k<b.length),Zeg w a[k] b[k]
 | [],[],_,_,c,_=>absurd c (Ya1 _)
 | _::_,_::_,h,0,_,_=>h.1
 | _::_,_::_,h,k+1,c,d=>ZcK.at h.2 k _ _
theorem ZbK.at:∀ {a:List RowC} {b:List (List (LB))},ZbK w a b->∀(k:Nat) (c:k<a.length) (d:k<b.length),Zbm w (rowV a[k]) b[k]
 | [],[],_,_,c,_=>absurd c (Ya1 _)
 | _::_,_::_,h,0,_,_=>h.1
 | _::_,_::_,h,k+1,c,d=>ZbK.at h.2 k _ _
theorem Zvu(h:n<=1000000):((n:Int) % 4294967296).toNat=n:=by omega
theorem ZjA(l:LB)(n k:Nat):(l++digL n k).length=l.length+k:=by rw[Yab,ZbG]
theorem Zil{c:Nat}{e:TypeId}(h:w.ownsRow B e sz (.slice a n c) n xs)(d:0<n):∃b,a=some ⟨b,0,none⟩:=by
 obtain⟨b,c',e⟩:=ZF h d;injection e with e _ _;exact⟨b,e⟩
theorem WrS.conv{c:Nat}(h:WrS w0 w (.slice a n c) l)(d:0<n):n=l.length/\(convert 87 9 (.slice a n c)).run prog w=.ok (.string ⟨l.toArray⟩) w:=by
 obtain⟨a2,c2,e⟩:=h.shape;injection e with _ e2 _;subst e2;obtain⟨b,rfl⟩:=Zil h.row d;refine⟨rfl,run_convert_bytes_back _ _ _ 5 _ c l underlying87 underlying5 underlying9 ?_⟩;intro j g;have f:w.cell? _=some (.int _ _):=Zi h.row j (by rw[Ya2,List.getElem?_eq_getElem g];rfl);by_cases d:j=0
 ·subst d;exact f
 ·simpa [Addr.add,d] using f
theorem Zvw(n:Nat):digL ((n:Int) % 4294967296).toNat 2=digL n 2:=by
 rw[show((n:Int) % 4294967296).toNat=n % 4294967296 by omega];simp only[digL,Ycu,Yby];rw[show n % 4294967296 / 256 % 256=n / 256 % 256 by omega,show n % 4294967296 % 256=n % 256 by omega]
theorem ZzJ(n:Nat):u8V (UInt8.ofNat n)=.int .u8 ((n:Int) % 256):=by
 show Value.int .u8 ((UInt8.ofNat n).toNat:Int)=_;rw[Yf0]
 congr 1
theorem Zw2(a b c d:Nat)(k:Nat)(e:k<4)(W:World):(Instr.index 153 (.agg #[Vi a,Vi b,Vi c,Vi d]) (Vi k)).run prog W=.ok (Vi (([a,b,c,d].getD k 0:Nat):Int)) W:=by
 rcases(by omega:k=0∨k=1∨k=2∨k=3)with rfl|rfl|rfl|rfl <;> simp[Instr.index,run_underlying _,asIntOf,go_sem]
theorem ZEE{w:World}{cv sv rv iv:Value}{sl:List SelC}{rl:List RowC}(h:CodeW B w cv sv rv iv sl rl q)(ho:CodeOk q)(ht:ZR w)(hB:20<=w.heap.size) :
  Cz 36 #[.agg #[cv,sv,rv,iv]] w fun e w'=>∃r:BA,e=.returned (.string r)/\Hid (bl r=ZbJ q)/\BW w w':=by
 obtain⟨ca,cc,rfl⟩:=Zl h.cons;obtain⟨sa,sc,rfl⟩:=Zl h.sel;obtain⟨ra,rc,rfl⟩:=Zl h.grp;obtain⟨ia,ic,rfl⟩:=Zl h.jz;have HO:=hid ho;have hc:=ho.c;have hs:=ho.s;have hg:=ho.g;have hi:=ho.i;obtain⟨nc,Y⟩:∃nc,nc=q.jq.length:=⟨_,rfl⟩
 obtain⟨ns,Z⟩:∃ns,ns=q.jw.length:=⟨_,rfl⟩
 obtain⟨ng,a0⟩:∃ng,ng=q.jv.length:=⟨_,rfl⟩
 obtain⟨ni,a1⟩:∃ni,ni=q.jz.length:=⟨_,rfl⟩
 have a2:=hid Y;have a3:=hid Z;have a4:=hid a0;have b3:=hid a1;have HW:Hid (CodeW B w (.slice ca nc cc) (.slice sa ns sc) (.slice ra ng rc) (.slice ia ni ic) sl rl q):=by rwa [Y,Z,a0,a1]
 have HT:=hid ht;have c4:=hid hB;rw[<-Y]at hc ⊢;rw[<-Z]at hs ⊢;rw[<-a0]at hg ⊢;rw[<-a1]at hi ⊢;clear h ho Y Z a0 a1 ht hB;go_enter func36,ntmps36
 go_upto_region 1 with fail
 refine ZP fun O b4=>?_;have c6:BW w O:=b4▸belB;have b5:Hid (BAt _ _ _ 59):=b4▸(show BAt _ _ _ _ from bnw);have a6:=hid c6;obtain⟨qb,c8⟩:∃qb,qb=w.heap.size:=⟨_,rfl⟩
 rw[<-c8]at b5 ⊢;clear b4 c6 c8
 go_upto_region 2 with fail
 refine ZP fun W1 c9=>?_;have H1:Hid (WrS _ _ (.slice (some _) 1 1) _):=c9▸WrS.new O 103;generalize Value.slice (some ⟨O.heap.size,0,none⟩) 1 1=t0 at *
 clear c9
 have P : Hid (∀ {W : World} {v : Value} {l : List _}, WrS _ W v l -> W.cell? _ = some _ /\ W.cell? _ = some _ /\ W.cell? _ = some _ /\ W.cell? _ = some _) := hid (fun h => by
   have hx:=b5.below h.bel;exact⟨hx.cell 0,hx.cell 1,hx.cell 2,hx.cell 3⟩)
 have Q:Hid (∀ {W:World} {v:Value} {l:List _},WrS _ W v l->qb<W.heap.size):=hid (fun h=>(b5.below h.bel).lt);obtain⟨x0,x1,x2,x3⟩:=P H1;have C:=Q H1;go_wp2
 go_loopw [3,28] (fun tv iv wr=>∃(k:Nat) (cur:LB),k<=4/\iv=Vi k/\Hid (WrS O wr tv cur)/\Hid (cur=[103]++([nc,ns,ng,ni].take k).flatMap (fun n=>digL n 2))/\Hid (cur.length=1+2*k)) (fun _ iv _=>4 - (intOf iv).toNat)
 case atStart=>exact⟨0,[103],by omega,rfl,H1,hid rfl,hid rfl⟩
 case round=>
  obtain⟨k,cur,hk,rfl,R,t,p⟩:=hrel;by_cases H:k<4
  ·have i3:=Zw2 nc ns ng ni k H;have L:Hid (([nc,ns,ng,ni].take (k+1)).flatMap (fun n=>digL n 2)=([nc,ns,ng,ni].take k).flatMap (fun n=>digL n 2)++digL ([nc,ns,ng,ni].getD k 0) 2):=by rw[Zh3 _ [nc,ns,ng,ni] k H];rcases(by omega:k=0∨k=1∨k=2∨k=3)with rfl|rfl|rfl|rfl <;> rfl
   have hx:[nc,ns,ng,ni].getD k 0<=1000000:=by rcases(by omega:k=0∨k=1∨k=2∨k=3)with rfl|rfl|rfl|rfl <;> simp <;> omega
   generalize[nc,ns,ng,ni].getD k 0=x at *
   go_wp2_with fail
   refine(Zhu R _ 2 Dc (by have:=p.out;omega)).mono ?_;rintro e w2 ⟨v2,rfl,H2,_⟩;rw[Zvu hx]at H2;go_wp2
   go_roundw
   case rel=>exact⟨k+1,_,by omega,by go_num,H2,hid (by rw[t,L,Yan]),hid (by rw[ZjA,p];omega)⟩
   case measure=>simp[intOf];omega
  ·have d0:Hid (k=4):=hid Om;have e7:Hid (cur=[103]++digL nc 2++digL ns 2++digL ng 2++digL ni 2):=hid (by rw[t,d0];simp);have d1:Hid (cur.length=9):=hid (by rw[p,d0]);clear t p H1 x0 x1 x2 x3 C;generalize u3=t1 at *
   obtain⟨x0,x1,x2,x3⟩:=P R;have C:=Q R
   have S : Hid (∀ {W : World} {v : Value} {l : List _}, WrS _ W v l -> CodeW B W _ _ _ _ _ _ q /\ ZR W /\ 20 <= W.heap.size) := hid (fun h => by
     have hb:=a6.trans (h.bel.mono a6.size);exact⟨HW.below hb,HT.low hb c4,Yah c4 hb.size⟩)
   go_wp2
   go_loopw [3,38] (fun tv iv wr=>∃(k:Nat) (cu:LB),k<=nc/\iv=Vi k/\Hid (WrS O wr tv cu)/\Hid (cu=cur++(q.jq.take k).flatMap Zb0)/\Hid (cu.length<=9+4*k)) (fun _ iv _=>nc - (intOf iv).toNat)
   case atStart=>exact⟨0,cur,Yag _,rfl,R,hid (by simp),hid (Ydh d1.out)⟩
   case round=>
    obtain⟨k,cu,hk,rfl,D,t,p⟩:=hrel;by_cases H:k<nc
    ·have f:k<q.jq.length:=by rw[<-a2.out];exact H
     have a:=(S.out D.out).1.cons;rw[<-a2.out]at a;obtain⟨cb,e8⟩:=Zil a Om;subst e8;have i1:=Zi a k (by rw[Ya2,List.getElem?_eq_getElem f];rfl);have L:=hid (Zh3 Zb0 _ k f);have b6:(k:Int)<nc:=by omega
     generalize q.jq[k]=z at *
     clear a
     go_wp2_with fail
     refine(Zhu D z 4 Dc (by have:=p.out;omega)).mono ?_;rintro e w2 ⟨v2,rfl,H2,_⟩;go_wp2
     go_roundw
     case rel=>exact⟨k+1,_,by omega,by go_num,H2,hid (by rw[t,L,Yan];rfl),hid (by rw[ZjA];have:=p.out;omega)⟩
     case measure=>simp[intOf];omega
    ·obtain rfl:k=nc:=by omega
     have e9:Hid (cu=cur++q.jq.flatMap _):=hid (by rw[t,a2,Ya4]);have d2:Hid (cu.length<=4000009):=hid (by have:=p.out;omega);clear t p x0 x1 x2 x3 C R d1;generalize u3=t2 at *
     obtain⟨x0,x1,x2,x3⟩:=P D;have C:=Q D;go_wp2
     go_loopw [3,49] (fun tv iv wr=>∃(k:Nat) (ct:LB),k<=ns/\iv=Vi k/\Hid (WrS O wr tv ct)/\Hid (ct=cu++(q.jw.take k).flatMap (fun x=>ZO (ZI x)))/\Hid (ct.length<=4000009+200002*k)) (fun _ iv _=>ns - (intOf iv).toNat)
     case atStart=>exact⟨0,cu,Yag _,rfl,D,hid (by simp),d2⟩
     case round=>
      obtain⟨k,ct,hk,rfl,E,t,p⟩:=hrel;by_cases H:k<ns
      ·have f:k<q.jw.length:=by rwa [<-a3.out]
       have A:=(S.out E.out)
       have T:k<sl.length:=by rw[A.1.sok.len];exact f
       have a:=A.1.sel;rw[<-a3.out]at a;obtain⟨sb,f0⟩:=Zil a Om;subst f0;have a8:=fun j hj=>ZgL ZfB 3 (fun _=>rfl) _ k j T hj;have y0:=Zi a (k*3) (a8 0 Dc);have y1:=Zi a _ (a8 1 Dc);have y2:=Zi a _ (a8 2 Dc);have U:=Z1 a;have b7:=hid (A.1.sok.at k T f);have i4:=hid A.2;have f1:=hid (HO.sw _ (List.getElem_mem f));have L:=hid (Zh3 (fun x=>ZO (ZI x)) _ k f);have b6:(k:Int)<ns:=by omega
       generalize q.jw[k]=y at *
       generalize sl[k]=s at *
       clear a a8 A
       go_wp2_with fail
       refine Zm fun W hW=>?_;have M:BW wr W:=hW▸belB;have N:=hid (E.below M);have e5:Hid (Zeg W s y):=hid ⟨b7.1,b7.2.1.below M,b7.2.2⟩;have b8:=hid (S N).2;clear hW M y0 y1 y2 U;refine(Zr8 W s y e5 f1 b8.1 b8.2).mono ?_;rintro e w2 ⟨r,rfl,HR,d3,V⟩;have b9:=hid (N.below V);clear V
       go_wp2_with fail
       refine(ZnS b9 r (by have:=d3.out;omega) (by have:=p.out;omega)).mono ?_;rintro e w3 ⟨v3,rfl,H3⟩;rw[HR]at H3;go_wp2
       go_roundw
       case rel => exact ⟨k + 1, _, by omega, by go_num, H3, hid (by rw [t, L, Yan]), hid (by
         have h1:(ZO (ZI y)).length<=200002:=by
           unfold ZO;rw[Yab,ZbG,<-HR,Zd];have:=d3.out;omega
         rw[Yab];have:=p.out;omega)⟩
       case measure=>simp[intOf];omega
      ·obtain rfl:k=ns:=by omega
       have f2:Hid (ct=cu++q.jw.flatMap _):=hid (by rw[t,a3,Ya4]);have d4:Hid (ct.length<=90000000000):=hid (by have:=p.out;omega);clear t p x0 x1 x2 x3 C D d2;generalize u3=t3 at *
       obtain⟨x0,x1,x2,x3⟩:=P E;have C:=Q E;go_wp2
       go_loopw [3,61] (fun tv iv wr=>∃(k:Nat) (cg:LB),k<=ng/\iv=Vi k/\Hid (WrS O wr tv cg)/\Hid (cg=ct++(q.jv.take k).flatMap (fun x=>ZO (commas x)))/\Hid (cg.length<=90000000000+100002*k)) (fun _ iv _=>ng - (intOf iv).toNat)
       case atStart=>exact⟨0,ct,Yag _,rfl,E,hid (by simp),d4⟩
       case round=>
        obtain⟨k,cg,hk,rfl,F,t,p⟩:=hrel;by_cases H:k<ng
        ·have f:k<q.jv.length:=by rwa [<-a4.out]
         have A:=(S F).1;have T:k<rl.length:=by rw[A.gok.len];exact f
         have a:=A.grp;rw[<-a4.out]at a;obtain⟨rb,f3⟩:=Zil a Om;subst f3;have y0:wr.cell? _=some (.slice _ _ _):=Zi a k (by rw[Ya2,List.getElem?_eq_getElem T];rfl);have U:=Z1 a;have f4:Hid (Zbm _ (.slice _ _ _) _):=hid (A.gok.at k T f);have d5:=hid (HO.gw _ (List.getElem_mem f));have L:=hid (Zh3 (fun x=>ZO (commas x)) _ k f);have b6:(k:Int)<ng:=by omega
         generalize q.jv[k]=y at *
         generalize rl[k]=s at *
         clear a A
         go_wp2_with fail
         refine(ZlV _ _ _ y f4 (by have:=d5.out;omega)).mono ?_;rintro e w2 ⟨r,rfl,HR,V⟩;have i5:r.size<=100000:=ZU HR.out▸Yah (ZeS _) d5.out;have b9:=hid (F.below V);clear V y0 U
         go_wp2_with fail
         refine(ZnS b9 r Om (by have:=p.out;omega)).mono ?_;rintro e w3 ⟨v3,rfl,H3⟩;have d6:Hid ((ZO (bl r)).length<=100002):=hid (by unfold ZO;rw[Yab,ZbG,Zd];omega);rw[HR]at H3 d6;go_wp2
         go_roundw
         case rel=>exact⟨k+1,_,by omega,by go_num,H3,hid (by rw[t,L,Yan]),hid (by rw[Yab];have:=p.out;have:=d6.out;omega)⟩
         case measure=>simp[intOf];omega
        ·obtain rfl:k=ng:=by omega
         have f5:Hid (cg=ct++q.jv.flatMap _):=hid (by rw[t,a4,Ya4]);have c1:Hid (cg.length<=140000000000):=hid (by have:=p.out;omega);clear t p x0 x1 x2 x3 C E d4;generalize u3=t4 at *
         obtain⟨x0,x1,x2,x3⟩:=P F;have C:=Q F;go_wp2
         go_loopw [3,73] (fun tv iv wr=>∃(k:Nat) (ci:LB),k<=ni/\iv=Vi k/\Hid (WrS O wr tv ci)/\Hid (ci=cg++(q.jz.take k).flatMap (fun x=>UInt8.ofNat x.1::digL x.2 2))/\Hid (ci.length=cg.length+3*k)) (fun _ iv _=>ni - (intOf iv).toNat)
         case atStart=>exact⟨0,cg,Yag _,rfl,F,hid (by simp),hid rfl⟩
         case round=>
          obtain⟨k,ci,hk,rfl,G,t,p⟩:=hrel;by_cases H:k<ni
          ·have f:k<q.jz.length:=by rwa [<-b3.out]
           have a:=(S.out G.out).1.jz;rw[<-b3.out]at a;obtain⟨ib,f6⟩:=Zil a Om;subst f6;obtain⟨y0,y1⟩:=ZmA a f;rw[Yaa,List.getElem?_eq_getElem f,Ya6]at y0 y1;have U:=Z1 a;have L:=hid (Zh3 (fun x:Nat×Nat=>UInt8.ofNat x.1::digL x.2 2) _ k f);have b6:(k:Int)<ni:=by omega
           generalize q.jz[k]=y at *
           obtain⟨op,arg⟩:=y;simp only at y0 y1 L;clear a
           go_upto_region 25 with fail
           refine ZP fun W hW=>?_;have M:BW wr W:=hW▸belB;have X:Hid (BAt W _ _ 159):=hW▸(show BAt _ _ _ _ from bnw);have N:=hid ((G.below M).below (Yaf _ _).drew);obtain⟨tb,d7⟩:∃tb,tb=wr.heap.size:=⟨_,rfl⟩
           rw[<-d7]at X ⊢;clear hW M y0 y1 U d7;refine Zbn 9 (fun w'=>w'.cell? _=some _/\w'.cell? _=some _) Kr ⟨X.cell 0,X.cell 1⟩ (fun d=>?_);refine Za 0 d (h:=?_);refine Za 1 d (h:=?_);refine Za 2 d (h:=?_);refine Za 3 d (h:=?_);refine Za 6 d (h:=?_);refine Za 7 d (h:=?_);have d8:Hid (BAt W.drew _ _ _):=X;generalize W.drew=W2 at *
           clear X;have a:=N.row;have i6:=N.bel.size;obtain⟨m,hm⟩:∃m,m=ci.length:=⟨_,rfl⟩
           have HM:=hid hm;rw[<-hm]at a;have i7:m<=150000000000:=by rw[hm];have:=p.out;have:=c1.out;omega
           have f7 : Hid (∀ e, u3.ownBlock = some e -> tb ≠ e) := hid (fun e he h => by
             obtain⟨_,_,h4⟩:=Zcw a he;subst h;exact absurd (Zc7 d8 h4) Dc)
           have HA:Hid (∀o,(W2.alloc o).ownsRow _ 5 1 _ m _):=hid (fun o=>a.alloc _);have a9:Hid (∀o,BAt (W2.alloc o) _ _ _):=hid (fun o=>d8.below Zbal);clear a hm;obtain⟨i0,f8,f9,g1,g2⟩:=info_parts ZiY;refine Z4 (i:=4) Kr rfl (fun K I=>?_);go_simp;refine I _ _ ⟨(a9 _).cell 0,(a9 _).cell 1⟩ (fun d=>?_);clear I K
           try simp only[Act.put,Zset]
           refine Z4 (i:=5) Kr rfl (fun K I=>?_);refine ZfF rfl _ _ _ rfl _ 5 _ _ 1 1 underlying87 f8 f9 g1 g2 rfl Dc _ m _ (by simp[Act.eval]) (HA _) _ 1 1 [.int _ ((op) % 256)] (by simp[Act.eval]) rfl (cell_one_new _ _ _) ?h3 ?h4 ?h5 ?h6 ?_
           case h3=>intro u hu;rw[Yap]at hu;subst hu;rfl
           case h4=>unfold maxLen;omega
           case h5=>omega
           case h6=>simp;omega
           intro v1 w4 b0 J _;have d9:=(a9 _).grown J (fun e=>f7 _ e.symm rfl);have c2:=hid d9
           have g3:Hid (WrS _ _ _ (ci++[UInt8.ofNat _])):=hid (N.grow Zbal (by
            rw[Yab,Yaq,<-HM];show w4.ownsRow _ _ _ _ (m+1) (_++[u8V (UInt8.ofNat op)]);rw[ZzJ];exact b0) J)
           have e6:Hid ((ci++[UInt8.ofNat op]).length<=150000000001):=hid (by rw[Yab,<-HM];simp;omega);clear b0 J d9 a9 HA;refine I _ _ ⟨c2.cell 0,c2.cell 1⟩ (fun d=>?_);clear I K
           try simp only[Act.put]
           refine Z4 (i:=8) Kr rfl (fun K I=>?_);go_simp;refine(Zhu g3 _ 2 Dc (by have:=e6.out;omega)).mono ?_;rintro e w5 ⟨v5,rfl,H5,g4⟩;rw[Zvw]at H5
           have e0:Hid (w5.cell? ⟨tb,0,none⟩=some (Vi op)/\w5.cell? ⟨tb,1,none⟩=some (Vi arg)):=by
            have:=g4.bat c2 Dc;exact⟨this.cell 0,this.cell 1⟩
           go_simp;refine I _ _ e0 (fun d=>?_);clear I K
           try simp only[Act.put]
           refine Zbl Kr Kr rfl Kr (fun K I=>?_);go_simp;refine I _ _ ?_;clear I K d e0;go_wp2
           go_roundw
           case rel=>exact⟨k+1,_,by omega,by go_num,H5,hid (by rw[t,L];simp),hid (by rw[ZjA,Yab,p];simp;omega)⟩
           case measure=>simp[intOf];omega
          ·obtain rfl:k=ni:=by omega
           have b1:Hid (ci=Z2 q):=hid (by
            unfold Z2;rw[t,f5,f2,e9,e7,b3,Ya4,a2,a3,a4])
           have b2:Hid (0<ci.length/\ci.length<=150000000000):=hid (by
            have h1:=p.out;have h2:=c1.out;have h3:0<ci.length:=by rw[b1];unfold Z2;simp
            omega)
           clear t p x0 x1 x2 x3 C F c1;generalize u3=t5 at *
           obtain⟨a5,c5,h5⟩:=G.shape;subst h5;obtain⟨n5,c3⟩:∃n5,n5=ci.length:=⟨_,rfl⟩
           rw[<-c3]at G b2 ⊢;obtain⟨g5,i8⟩:=G.conv b2.1
           have e1:(ByteArray.mk ci.toArray).size<=maxLen:=by
            show ci.toArray.size<=maxLen;rw[Yb5];have:=b2.out;unfold maxLen;omega
           have g6:=hid e1;have g7:=hid c3;clear g5 c3 e1
           go_wp2_with fail
           refine(Zru g6).mono ?_;rintro e w6 ⟨rfl,rfl⟩;have e2:Hid (sumQ (bl ⟨ci.toArray⟩)=sumQ _):=hid (by rw[ZbF,b1]);have hq:=Znn (bl ⟨ci.toArray⟩);rw[e2]at hq ⊢;obtain⟨z,hz⟩:∃z,z=sumQ (Z2 q):=⟨_,rfl⟩
           have HZ:=hid hz;rw[<-hz]at hq ⊢;clear hz e2
           go_wp2_with fail
           refine(Zhu G _ 4 Dc (by have h1:=b2.out;rw[g7]at h1;omega)).mono ?_;rintro e w7 ⟨v7,rfl,H7,_⟩;rw[show((z:Int) % 4294967296).toNat=z by omega]at H7;obtain⟨a7,c7,h7⟩:=H7.shape;subst h7;have e3:0<(ci++digL z 4).length:=by rw[ZjA];omega
           obtain⟨n7,e4⟩:∃n7,n7=(ci++digL z 4).length:=⟨_,rfl⟩
           rw[<-e4]at H7 e3 ⊢;have i2:=(H7.conv e3).2;clear e4;have g8:Hid (bl ⟨(ci++digL z 4).toArray⟩=ZbJ q):=hid (by rw[ZbF];unfold ZbJ;rw[<-b1,HZ,b1]);have g9:=hid (a6.trans (H7.bel.mono a6.size));go_wp2;go_ret;exact⟨_,rfl,g8,g9⟩
end
end
section
section
variable {g:Gq}
def ZdH(g:Gq):Prop:=(∀y∈g.jm,SelW y)/\∀x∈g.ky,nw x<=100000
theorem ZfH(h:ZdH g){z:Nq}:ZdH (addQ z g).2:=by unfold addQ;split <;> exact h
theorem ZC3(h:ZdH g):ZdH (negQ n g).2:=by unfold negQ;split <;> exact ZfH h
theorem ZC4(h:ZdH g){o x y:Nat}:ZdH (Zbs o x y g).2:=by unfold Zbs;split <;> exact ZfH h
theorem ZsE(h:ZdH g){y:Nd×Nat}(d:SelW y):ZdH (ZJ y g).2:=by
 unfold ZJ;split
 ·exact ZfH h
 ·refine ZfH (g:={ g with jm:=g.jm++[y] }) ⟨fun z c=>?_,h.2⟩;rcases Yar.1 c with a|a
  ·exact h.1 z a
  simp_all
theorem ZC2(h:ZdH g){ns:List (LB)}(c:nw ns<=100000):ZdH (Zbd ns g).2:=by
 unfold Zbd;split
 ·exact h
 ·refine⟨h.1,fun z d=>?_⟩;rcases Yar.1 d with a|a
  ·exact h.2 z a
  ·rw[Yap]at a;rw[a];exact Yah (ZhV _) c
theorem Zkj:∀(t:Tr) (g:Gq),wfT t->wT t<=100000->ZdH g->ZdH (Zb t g).2
 | .nil,_,_,_,h=>h
 | .node x y a l r, g, d, j, h => by
   have f:=fun k e=>ZkV j k e;have o:wT (.node x y a l r)=ownW a+wT l+wT r:=rfl;have m:nw a.by_<=100000:=by have p:ownW a=24+a.name.length+cw _+nw _:=rfl;omega
   have e:a.n.toNat<=1000000000:=by have:=d.2.2.2.2.2.1;omega
   have c:=fun g h=>Zkj l g d.2.2.2.2.2.2.2.2.2.2.1 Om h;have i:=fun g h=>Zkj r g d.2.2.2.2.2.2.2.2.2.2.2 Om h;unfold Zb;split
   · exact ZfH h
   · split
     · exact ZsE h (f 0 Om)
     · split
       · exact ZfH (ZsE h (f _ e))
       · split
         · exact ZC3 (c _ h)
         · split
           · exact ZfH (ZC2 (c _ h) m)
           · simp only
             split
             · exact ZfH (i _ (c _ h))
             · exact ZC4 (i _ (c _ h))
theorem ZuR{t:Tr}(d:wfT t)(h:wT t<=100000)(a:Sml (Zv (Zb t (g0 fl)).2 (Zb t (g0 fl)).1)):CodeOk (LS.codeOf t fl):=by
 have e:=(Zew t (g0 fl) d).1;have f:=Zkj t (g0 fl) d h ⟨fun y c=>(by cases c),fun y c=>(by cases c)⟩;have e1:(g0 fl).jm.length=0:=rfl;have e2:(g0 fl).ky.length=0:=rfl;refine⟨a.2,?_,?_,?_,f.1,f.2⟩
 ·have:=e.s1;show(Zb t (g0 fl)).2.jm.length<=_;omega
 ·have:=e.r1;show(Zb t (g0 fl)).2.ky.length<=_;omega
 ·show(if 4<=fl then Zch _ else _).length<=_;split
  ·rw[show(Zch _).length=_ from(ZiE _ _ (Zi2 _ _)).2];exact a.1
  ·exact a.1
end
end
section
def Zho(w:World)(A:Nat->Addr)(q:LB)(fl:Int)(r:BA)(v:Value):Prop:=match ZD q with
 | .error x=>r=⟨#[]⟩/\((x=(1,0)/\v=.iface 432 (.pointer (some (A 0))))∨(x=(4,0)/\v=.iface 432 (.pointer (some (A 3))))∨(x.1=2/\ZM w v x.2 (A 1))∨(x.1=3/\ZM w v x.2 (A 2)))
 | .ok t=>(0<=fl/\fl<=7->v=.nilIface/\bl r=ZbJ (LS.codeOf t fl.toNat))/\(fl<0∨7<fl->r=⟨#[]⟩/\v=.iface 432 (.pointer (some (A 10))))
def ZkB(q:LB):Prop:=∀t k,ZD q=.ok t->k<=7->Sml (Zv (Zb t (g0 k)).2 (Zb t (g0 k)).1)
theorem ZuO(s:BA)(fl:Int)(A:Nat->Addr)(m:Int)(w:World)(H:Vars w A m)(K:ZR w)(L:20<=w.heap.size)(I:s.size<=9223372036854775807)(q:ZkB (bl s)) :
  Cz 21 #[.string s,Vi fl] w fun e M=>∃(r:BA) (v:Value),e=.returned (.tuple #[.string r,v])/\Hid (Zho M A (bl s) fl r v)/\BW w M:=by
 have N:=hid (Ziu s w I H.sents);have HV:=hid H;have HT:=hid K;have B:=hid L;have O:=hid q;clear H K L q;go_enter func21,ntmps21
 go_wp2_with fail
 refine N.mono ?_;rintro e y ⟨pv,v,rfl,a,d⟩;have i:=hid d;have P:=hid (HV.below d);have C:=hid (HT.low d B);have f:=hid (Yah B d.size);clear d N;cases c:ZD (bl s)with
 | ok t=>
  rw[c]at a;obtain⟨rfl,j⟩:=a.out;obtain⟨l,g,n⟩:=Ze2 c;have p:=hid c;obtain⟨ty,u,Q⟩:=Zh.shape j;subst Q;by_cases R:0<=fl/\fl<=7
  ·obtain⟨k,hk⟩:∃k:Nat,fl=k:=⟨fl.toNat,by omega⟩
   subst hk;have D:k<=7:=by omega
   have S:=hid (O t k c D);have T:=hid (ZuR l n S);have U:=hid (ZA2 t k D j l g n C f S);have h0:¬(k:Int)<0:=by omega
   have h7:¬(7:Int)<k:=by omega
   clear a c j l g n R
   go_wp2_with fail
   refine U.mono ?_;rintro e z ⟨cv,sv,rv,iv,sl,rl,rfl,V,o⟩;have E:=hid (i.trans (o.mono i.size));have F:=hid (ZEE V T (C.low o f) (Yah f o.size));clear o U
   go_wp2_with fail
   refine F.mono ?_;rintro e w3 ⟨r,rfl,W,G⟩;have X:=hid (E.trans (G.mono E.size));clear G F;go_wp2;go_ret2;refine⟨r,.nilIface,rfl,hid ?_,X⟩;unfold Zho;rw[p];exact⟨fun _=>⟨rfl,W⟩,fun h=>by omega⟩
  ·have vR:=P.sent 10 Dc;clear a c j l g n;by_cases h0:fl<0
   all_goals
    try have h7:7<fl:=by omega
    go_wp2
    all_goals
     go_region
     all_goals
      go_wp2;go_ret2;refine⟨⟨#[]⟩,_,rfl,hid ?_,i.drew⟩;unfold Zho;rw[p];exact⟨fun h=>absurd h R,fun _=>⟨rfl,rfl⟩⟩
 | error x=>
  rw[c]at a;have p:=hid c
  have Y:∃ty u,v=.iface ty u:=by
   rcases a.out with ⟨_,h⟩|⟨_,h⟩|⟨_,h⟩|⟨_,h⟩
   ·exact⟨_,_,h⟩
   ·exact⟨_,_,h⟩
   ·obtain⟨fa,J,_⟩:=h.cells;exact⟨_,_,J⟩
   ·obtain⟨fa,J,_⟩:=h.cells;exact⟨_,_,J⟩
  obtain⟨ty,u,Z⟩:=Y;subst Z;clear c;go_wp2;go_ret2;refine⟨⟨#[]⟩,_,rfl,hid ?_,i⟩;unfold Zho;rw[p];exact⟨rfl,a⟩
theorem Zwo(s:BA){fl:Int}(A:Nat->Addr)(m:Int)(w:World)(G:Vars w A m)(I:ZR w)(J:20<=w.heap.size)(H:s.size<=9223372036854775807)(F:ZkB (bl s)) :
  Cz 8 #[.string s,Vi fl] w fun e u=>∃(r:BA) (c p:Nat),e=.returned (.tuple #[.string r,Vi c,Vi p])/\Hid (ZcM (bl s) fl=(bl r,c,p))/\BW w u:=by
 have K:=hid (ZuO s fl A m w G I J H F);have M:=hid G;clear G I J F;go_enter func8,ntmps8
 go_wp2_with fail
 refine K.mono ?_;rintro e y ⟨r,v,rfl,o,q⟩;have d:=hid q;have f:=hid (M.below q);clear q K;have h:=o.out;clear o;unfold Zho at h;cases i:ZD (bl s)with
 | ok t=>
  rw[i]at h;simp only at h;by_cases N:0<=fl/\fl<=7
  ·obtain⟨rfl,L⟩:=h.1 N;have j:Hid (ZcM _ fl=(bl r,0,0)):=hid (by unfold ZcM;rw[i];simp only;rw[if_neg Om,L]);clear i h L
   go_wp2_with fail
   refine(Zik A m f).mono ?_;rintro e B ⟨rfl,rfl⟩
   go_wp2_with fail
   refine(Ziq).mono ?_;rintro e z ⟨rfl,a⟩;have g:=hid (d.trans (a.mono d.size));clear a;go_wp2
   go_ret3
   exact⟨r,0,0,rfl,j,g⟩
  ·obtain⟨rfl,rfl⟩:=h.2 Om;have j:Hid (ZcM _ fl=([],11,0)):=hid (by unfold ZcM;rw[i];simp only;rw[if_pos Om]);clear i h
   go_wp2_with fail
   refine(Zzy A m f).mono ?_;rintro e B ⟨rfl,rfl⟩
   go_wp2_with fail
   refine(Zdm A m f).mono ?_;rintro e z ⟨rfl,a⟩;have g:=hid (d.trans (a.mono d.size));clear a;go_wp2
   go_ret3
   exact⟨⟨#[]⟩,11,0,rfl,j,g⟩
 | error x=>
  rw[i]at h;simp only at h;obtain⟨rfl,h⟩:=h;have j:Hid (ZcM _ fl=([],x.1,x.2)):=hid (by unfold ZcM;rw[i]);clear i;rcases h with ⟨rfl,rfl⟩|⟨rfl,rfl⟩|⟨C,n⟩|⟨C,n⟩
  ·go_wp2_with fail
   refine(ZjQ A m f).mono ?_;rintro e B ⟨rfl,rfl⟩
   go_wp2_with fail
   refine(Zdm A m f).mono ?_;rintro e z ⟨rfl,a⟩;have g:=hid (d.trans (a.mono d.size));clear a;go_wp2
   go_ret3
   exact⟨⟨#[]⟩,1,0,rfl,j,g⟩
  ·go_wp2_with fail
   refine(Zmu A m f).mono ?_;rintro e B ⟨rfl,rfl⟩
   go_wp2_with fail
   refine(Zdm A m f).mono ?_;rintro e z ⟨rfl,a⟩;have g:=hid (d.trans (a.mono d.size));clear a;go_wp2
   go_ret3
   exact⟨⟨#[]⟩,4,0,rfl,j,g⟩
  ·obtain⟨x1,x2⟩:=x;simp only at C n;subst C;obtain⟨fa,rfl,k,l⟩:=n.cells;clear n;have D:=hid k;have E:=hid l;clear k l
   go_wp2_with fail
   refine(Zmt A m f _ E).mono ?_;rintro e B ⟨rfl,rfl⟩
   go_wp2_with fail
   refine(ZdB A m _ _ f D).mono ?_;rintro e z ⟨rfl,a⟩;have g:=hid (d.trans (a.mono d.size));clear a;go_wp2
   go_ret3
   exact⟨⟨#[]⟩,2,x2,rfl,j,g⟩
  ·obtain⟨x1,x2⟩:=x;simp only at C n;subst C;obtain⟨fa,rfl,k,l⟩:=n.cells;clear n;have D:=hid k;have E:=hid l;clear k l
   go_wp2_with fail
   refine(Zms A m f _ E).mono ?_;rintro e B ⟨rfl,rfl⟩
   go_wp2_with fail
   refine(ZdB A m _ _ f D).mono ?_;rintro e z ⟨rfl,a⟩;have g:=hid (d.trans (a.mono d.size));clear a;go_wp2
   go_ret3
   exact⟨⟨#[]⟩,3,x2,rfl,j,g⟩

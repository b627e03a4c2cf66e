/- Parts. -/
import Derived.Test.YtkodhpilkaihjaaGreatDoorV02
set_option linter.all false
set_option maxRecDepth 100000
set_option maxHeartbeats 16000000
namespace Go.Proofs.YtkodhpilkaihjaaGreatDoor
open Go.RowKit LS Go.Proofs.Tryz
variable {sy:Addr}{s:BA}{x:Bool}{l:LB}{ps:List PTok}{ts:List Tok}{c xs ys:List Value}{a at_ b base cp deep g i k n:Nat}{rec:Nat->List Tok->Nat->Out Tr}{e fr:Nat×Nat}{p:PTok}{P:Program}{q:QV}{t:Tok}{z:Tr×List Tok}{pv pv' v y:Value}{w w' w0:World}
theorem RD.step(h:RD w b g cp ps k)(c:k+1<ps.length):RD (w.setCell ⟨b,1,none⟩ (Vi ((k+1:Nat):Int))) b g cp ps (k+1):=by
 have a:b≠g:=by
  rintro rfl;exact Zcx h.own h.cells Dc rfl
 refine⟨?_,ZdA h.own (fun j d=>Go.Deep.blk_setCell_other _ _ _ _ ?_),c⟩
 ·have:=h.cells;simp only[World.setCell,Ybn,this,if_true,Ybf];rfl
 ·have:j=g:=by simpa [Value.ownBlock] using d.symm
  rw[this];exact fun e=>a e.symm
theorem RD.kept(h:RD w b g cp ps k)(a:∀j,j<w.heap.size->w'.heap[j]?=w.heap[j]?):RD w' b g cp ps k:=
 ⟨(a b (Yae.1 h.cells).1).trans h.cells,ZdA h.own (fun j c=>a j (h.own.lt j c).2),h.lt⟩
def ZY(t:PTok)(s:BA):Bool:=((t.kd:Int) == 3) && (t.tx.toList == s.toList)
def ZdF(t:PTok)(s:BA):Bool:=((t.kd:Int) == 1) && (t.tx.toList == s.toList)
def Took(w':World)(b g cp:Nat)(ps:List PTok)(k:Nat)(sy:Addr)(at_:Int)(ok:Bool)(v:Value):Prop:=(ok=true/\v=.nilIface/\RD w' b g cp ps (k+1))∨(ok=false/\ZM w' v at_ sy/\RD w' b g cp ps k)
theorem ZC5(h:RD w b g cp ps k)(s:BA)(B:ZY (ps[k]'h.lt) s=true->k+1<ps.length)(J:ps.length<=6002)(i:w.cell? ⟨1,0,none⟩=some (.iface 491 (.pointer (some sy)))) :
  CP 233 #[Vp b,.string s] w fun e u=>∃v,e=.returned v/\Hid (Took u b g cp ps k sy (ps[k]'h.lt).at_ (ZY (ps[k]'h.lt) s) v)/\w.grownBy u (some b):=by
 have H:Hid (RD w b g cp ps k):=h;have I:=h.lt;have C:1<w.heap.size:=Yai _ _ i;obtain⟨t,m⟩:∃t,t=ps[k]'h.lt:=⟨_,rfl⟩
 have D:Hid (∀G:k<ps.length,ps[k]'G=t):=fun _=>m.symm;rw[<-m]at B ⊢;clear m h;go_enter func233,ntmps233
 go_wp2_with fail
 refine(ZiF H.out).mono ?_;rintro e y ⟨rfl,j⟩;rw[D.out];have d:Hid (BW w y):=j;clear j
 go_wp2_with fail
 refine(ZlS t s y).mono ?_;rintro e z ⟨rfl,l⟩;have a:Hid (BW w z):=d.trans (l.mono d.size);have c:Hid (RD z b g cp ps k):=RD.below H.out a.out;have n:z.cell? ⟨1,0,none⟩=some (.iface 491 (.pointer (some sy))):=(a.cell (p:=⟨_,0,none⟩) C).trans i;obtain⟨c0,c1,fz,_⟩:=c.all;rw[show(((t.kd:Int) == 3) && (t.tx.toList == s.toList))=ZY t s from rfl];clear l d;cases o:ZY t s
 ·have q:Hid (ZY t s=false):=o
  go_wp2_with fail
  refine(ZiZ c.out n).mono ?_;rintro e E ⟨v,rfl,r,f⟩;rw[D.out]at r;have x:Hid (Took E b g cp ps k sy t.at_ false v):=Or.inr ⟨rfl,r.out,RD.below c.out f⟩;have A:Hid (w.grownBy E (some b)):=Zw (a.trans (f.mono a.size));clear r f;go_wp2;go_ret;exact⟨_,rfl,by rw[q.out];exact x,A.out⟩
 ·have F:=B o;have q:Hid (ZY t s=true):=o;have x:Hid (Took (z.setCell ⟨b,1,none⟩ (Vi ((k+1:Nat):Int))) b g cp ps k sy t.at_ true .nilIface):=Or.inl ⟨rfl,rfl,c.step F⟩;have A:Hid (w.grownBy (z.setCell ⟨b,1,none⟩ (Vi ((k+1:Nat):Int))) (some b)):=ZA (Zw a.out) (Or.inl rfl) _;go_wp2;go_ret;exact⟨_,rfl,by rw[q.out];exact x,A.out⟩
theorem ZC7(h:RD w b g cp ps k)(s:BA)(B:ZdF (ps[k]'h.lt) s=true->k+1<ps.length)(J:ps.length<=6002)(i:w.cell? ⟨1,0,none⟩=some (.iface 491 (.pointer (some sy)))) :
  CP 234 #[Vp b,.string s] w fun e u=>∃v,e=.returned v/\Hid (Took u b g cp ps k sy (ps[k]'h.lt).at_ (ZdF (ps[k]'h.lt) s) v)/\w.grownBy u (some b):=by
 have H:Hid (RD w b g cp ps k):=h;have I:=h.lt;have C:1<w.heap.size:=Yai _ _ i;obtain⟨t,m⟩:∃t,t=ps[k]'h.lt:=⟨_,rfl⟩
 have D:Hid (∀G:k<ps.length,ps[k]'G=t):=fun _=>m.symm;rw[<-m]at B ⊢;clear m h;go_enter func234,ntmps234
 go_wp2_with fail
 refine(ZiF H.out).mono ?_;rintro e y ⟨rfl,j⟩;rw[D.out];have d:Hid (BW w y):=j;clear j
 go_wp2_with fail
 refine(Zp0 t s y).mono ?_;rintro e z ⟨rfl,l⟩;have a:Hid (BW w z):=d.trans (l.mono d.size);have c:Hid (RD z b g cp ps k):=RD.below H.out a.out;have n:z.cell? ⟨1,0,none⟩=some (.iface 491 (.pointer (some sy))):=(a.cell (p:=⟨_,0,none⟩) C).trans i;obtain⟨c0,c1,fz,_⟩:=c.all;rw[show(((t.kd:Int) == 1) && (t.tx.toList == s.toList))=ZdF t s from rfl];clear l d;cases o:ZdF t s
 ·have q:Hid (ZdF t s=false):=o
  go_wp2_with fail
  refine(ZiZ c.out n).mono ?_;rintro e E ⟨v,rfl,r,f⟩;rw[D.out]at r;have x:Hid (Took E b g cp ps k sy t.at_ false v):=Or.inr ⟨rfl,r.out,RD.below c.out f⟩;have A:Hid (w.grownBy E (some b)):=Zw (a.trans (f.mono a.size));clear r f;go_wp2;go_ret;exact⟨_,rfl,by rw[q.out];exact x,A.out⟩
 ·have F:=B o;have q:Hid (ZdF t s=true):=o;have x:Hid (Took (z.setCell ⟨b,1,none⟩ (Vi ((k+1:Nat):Int))) b g cp ps k sy t.at_ true .nilIface):=Or.inl ⟨rfl,rfl,c.step F⟩;have A:Hid (w.grownBy (z.setCell ⟨b,1,none⟩ (Vi ((k+1:Nat):Int))) (some b)):=ZA (Zw a.out) (Or.inl rfl) _;go_wp2;go_ret;exact⟨_,rfl,by rw[q.out];exact x,A.out⟩
def ZeX(t:PTok):Bool:=(t.kd:Int) == 1
theorem ZC6(h:RD w b g cp ps k)(z:ZeX (ps[k]'h.lt)=true->k+1<ps.length)(O:ps.length<=6002)(m:w.cell? ⟨1,0,none⟩=some (.iface 491 (.pointer (some sy)))) :
  CP 236 #[Vp b] w fun e u=>∃(x:BA) (v:Value),e=.returned (.tuple #[.string x,v])/\Hid (Took u b g cp ps k sy (ps[k]'h.lt).at_ (ZeX (ps[k]'h.lt)) v/\(ZeX (ps[k]'h.lt)=true->x=(ps[k]'h.lt).tx))/\w.grownBy u (some b):=by
 have H:Hid (RD w b g cp ps k):=h;have L:=h.lt;have A:1<w.heap.size:=Yai _ _ m;obtain⟨t,o⟩:∃t,t=ps[k]'h.lt:=⟨_,rfl⟩
 have B:Hid (∀I:k<ps.length,ps[k]'I=t):=fun _=>o.symm;rw[<-o]at z ⊢;clear o h;go_enter func236,ntmps236
 go_wp2_with fail
 refine(ZiF H.out).mono ?_;rintro e y ⟨rfl,a⟩;rw[B.out];obtain⟨kd,at_,tx,v⟩:=t;obtain⟨W,l⟩:∃W,W=y.alloc (.cells #[Vi kd,Vi at_,.string tx,Vi v] 167):=⟨_,rfl⟩
 have C:Hid (W=y.alloc (.cells #[Vi kd,Vi at_,.string tx,Vi v] 167)):=l;have n:W.heap[y.heap.size]?=some (.cells #[Vi kd,Vi at_,.string tx,Vi v] 167 (0,0)):=by rw[l];exact Go.Deep.blk_alloc_new _ _
 have c:Hid (BW w W):=hid (by rw[l];exact a.alloc a.size _);have d:Hid (RD W b g cp ps k):=RD.below H.out c.out;have q:W.cell? ⟨1,0,none⟩=some (.iface 491 (.pointer (some sy))):=(c.cell (p:=⟨_,0,none⟩) A).trans m;obtain⟨c0,c1,fz,M,_⟩:=d.all;have N:b<y.heap.size:=Yaw (Yae.1 H.cells).1 a.size
 have k2:(W.setCell ⟨b,1,none⟩ (Vi ((k+1:Nat):Int))).cell? ⟨y.heap.size,2,none⟩=some (.string tx):=by
  have:(W.setCell ⟨b,1,none⟩ (Vi ((k+1:Nat):Int))).heap[y.heap.size]?=W.heap[y.heap.size]?:=Go.Deep.blk_setCell_other _ _ _ _ (by show y.heap.size≠b;omega);unfold World.cell?;rw[this,n];rfl
 have D:Hid (k+1<ps.length->Took ((y.setCell ⟨b,1,none⟩ (Vi ((k+1:Nat):Int))).alloc (.cells #[Vi kd,Vi at_,.string tx,Vi v] 167)) b g cp ps k sy at_ true .nilIface):=fun f=>Or.inl ⟨rfl,rfl,(RD.step (RD.below H.out a) f).below Zbal⟩;have E:Hid (w.grownBy ((y.setCell ⟨b,1,none⟩ (Vi ((k+1:Nat):Int))).alloc (.cells #[Vi kd,Vi at_,.string tx,Vi v] 167)) (some b)):=ZbR (ZA (Zw a) (Or.inl rfl) _) _;clear a l n;generalize i:((kd:Int) == 1)=nb at *
 cases nb
 ·have r:Hid (ZeX ⟨kd,at_,tx,v⟩=false):=i;have F:((kd:Int) != 1)=true:=by rw[bne,i];rfl
  go_wp2_with fail
  rw[<-C.out];refine(ZiZ d.out q).mono ?_;rintro e G ⟨v3,rfl,s,j⟩;rw[B.out]at s;have J:Hid (Took G b g cp ps k sy at_ false v3):=Or.inr ⟨rfl,s.out,RD.below d.out j⟩;have K:Hid (w.grownBy G (some b)):=Zw (c.trans (j.mono c.size));clear s j;go_wp2;go_ret2;exact⟨_,_,rfl,by rw[r.out];exact⟨J.out,fun h=>(by cases h)⟩,K.out⟩
 ·have r:Hid (ZeX ⟨kd,at_,tx,v⟩=true):=i;have F:((kd:Int) != 1)=false:=by rw[bne,i];rfl
  have f:=z i;rw[C.out]at k2 c0 c1 fz;go_wp2;go_ret2;exact⟨_,_,rfl,by rw[r.out];exact⟨D.out f,fun _=>rfl⟩,E.out⟩
def opOf(t:PTok):Option Nat:=if ZdF t ⟨#[111,114]⟩then some 0 else if ZY t ⟨#[43]⟩then some 1 else if ZY t ⟨#[45]⟩then some 2 else if ZY t ⟨#[42]⟩then some 3 else if ZY t ⟨#[47]⟩then some 4 else none
def TAt(w:World)(a:Nat)(t:PTok):Prop:=w.heap[a]?=some (.cells #[Vi t.kd,Vi t.at_,.string t.tx,Vi t.v] 167 (0,0))
theorem TAt.all{t:PTok}(h:TAt w a t):w.cell? ⟨a,0,none⟩=some (Vi t.kd)/\w.cell? ⟨a,1,none⟩=some (Vi t.at_)/\w.cell? ⟨a,2,none⟩=some (.string t.tx)/\w.cell? ⟨a,3,none⟩=some (Vi t.v):=by
 unfold TAt at h;refine⟨?_,?_,?_,?_⟩ <;> simp[World.cell?,h]
theorem TAt.below{t:PTok}(h:TAt w a t)(b:BW w w'):TAt w' a t:=(b.block a (Yae.1 h).1).trans h
theorem ZgT(t:PTok)(d:ZY t s=x)(w0 w:World)(a:Nat)(f:TAt w a t)(c:BW w0 w) :
  CP 185 #[.agg #[Vi t.kd,Vi t.at_,.string t.tx,Vi t.v],.string s] w fun e u=>e=.returned (.bool x)/\Hid (TAt u a t)/\Hid (BW w0 u):=by
 subst d;refine(ZlS t s w).mono ?_;rintro e u ⟨rfl,b⟩;exact⟨rfl,f.below b,c.trans (b.mono c.size)⟩
theorem ZEP(t:PTok)(d:ZdF t s=x)(w0:World)(a:Nat)(f:TAt w a t)(c:BW w0 w) :
  CP 192 #[.agg #[Vi t.kd,Vi t.at_,.string t.tx,Vi t.v],.string s] w fun e u=>e=.returned (.bool x)/\Hid (TAt u a t)/\Hid (BW w0 u):=by
 subst d;refine(Zp0 t s w).mono ?_;rintro e u ⟨rfl,b⟩;exact⟨rfl,f.below b,c.trans (b.mono c.size)⟩
theorem ZzQ(t:PTok) :
  CP 124 #[.agg #[Vi t.kd,Vi t.at_,.string t.tx,Vi t.v]] w fun e u=>e=.returned (.tuple #[Vi ((opOf t).getD 0:Nat),.bool (opOf t).isSome])/\BW w u:=by
 obtain⟨b1,m⟩:∃x,ZdF t ⟨#[111,114]⟩=x:=⟨_,rfl⟩
 obtain⟨b2,n⟩:∃x,ZY t ⟨#[43]⟩=x:=⟨_,rfl⟩
 obtain⟨b3,o⟩:∃x,ZY t ⟨#[45]⟩=x:=⟨_,rfl⟩
 obtain⟨b4,p⟩:∃x,ZY t ⟨#[42]⟩=x:=⟨_,rfl⟩
 obtain⟨b5,q⟩:∃x,ZY t ⟨#[47]⟩=x:=⟨_,rfl⟩
 have r:Hid (opOf t=if b1 then some 0 else if b2 then some 1 else if b3 then some 2 else if b4 then some 3 else if b5 then some 4 else none):=hid (by unfold opOf;rw[m,n,o,p,q]);have H:Hid (ZdF t ⟨#[111,114]⟩=b1/\ZY t ⟨#[43]⟩=b2/\ZY t ⟨#[45]⟩=b3/\ZY t ⟨#[42]⟩=b4/\ZY t ⟨#[47]⟩=b5):=⟨m,n,o,p,q⟩
 have a:Hid (TAt (w.alloc (.cells #[Vi t.kd,Vi t.at_,.string t.tx,Vi t.v] 167)) w.heap.size t):=Go.Deep.blk_alloc_new _ _;have b:Hid (BW w (w.alloc (.cells #[Vi t.kd,Vi t.at_,.string t.tx,Vi t.v] 167))):=Zbal;rw[r.out];clear m n o p q r;go_enter func124,ntmps124
 go_wp2_with fail
 refine(ZEP t H.1 w w.heap.size a.out b.out).mono ?_;rintro e y ⟨rfl,c,d⟩;clear a b;cases b1
 ·obtain⟨k0,k1,k2,k3⟩:=TAt.all c.out
  go_wp2_with fail
  clear k0 k1 k2 k3;refine(ZgT t H.2.1 w y w.heap.size c.out d.out).mono ?_;rintro e z ⟨rfl,f,g⟩;cases b2
  ·obtain⟨k0,k1,k2,k3⟩:=TAt.all f.out
   go_wp2_with fail
   clear k0 k1 k2 k3;refine(ZgT t H.2.2.1 w z w.heap.size f.out g.out).mono ?_;rintro e s ⟨rfl,h,i⟩;cases b3
   ·obtain⟨k0,k1,k2,k3⟩:=TAt.all h.out
    go_wp2_with fail
    clear k0 k1 k2 k3;refine(ZgT t H.2.2.2.1 w s w.heap.size h.out i.out).mono ?_;rintro e A ⟨rfl,j,k⟩;cases b4
    ·obtain⟨k0,k1,k2,k3⟩:=TAt.all j.out
     go_wp2_with fail
     clear k0 k1 k2 k3;refine(ZgT t H.2.2.2.2 w A w.heap.size j.out k.out).mono ?_;rintro e C ⟨rfl,B,l⟩;cases b5
     ·go_wp2;go_ret2;exact⟨rfl,l.out⟩
     ·go_wp2;go_ret2;exact⟨rfl,l.out⟩
    ·go_wp2;go_ret2;exact⟨rfl,k.out⟩
   ·go_wp2;go_ret2;exact⟨rfl,i.out⟩
  ·go_wp2;go_ret2;exact⟨rfl,g.out⟩
 ·go_wp2;go_ret2;exact⟨rfl,d.out⟩
def Zci:List PTok->List Tok->Prop
 | [],[]=>True
 | p::ps,t::ts=>Zdf p t/\Zci ps ts
 | _,_=>False
theorem Zci.snoc:∀ {ps:List PTok} {ts:List Tok} {p:PTok} {t:Tok},Zci ps ts->Zdf p t->Zci (ps++[p]) (ts++[t])
 | [],[],_,_,_,h=>⟨h,trivial⟩
 | _::ps,_::ts,_,_,h,a=>⟨h.1,Zci.snoc (ps:=ps) (ts:=ts) h.2 a⟩
 | [],_::_,_,_,h,_=>h.elim
 | _::_,[],_,_,h,_=>h.elim
theorem Zci.length:∀ {ps:List PTok} {ts:List Tok},Zci ps ts->ps.length=ts.length
 | [],[],_=>rfl
 | _::ps,_::ts,h=>by rw[Yaj,Yaj,Zci.length (ps:=ps) (ts:=ts) h.2]
 | [],_::_,h=>h.elim
 | _::_,[],h=>h.elim
theorem Zx1{e:Nat}(a:Zk l i=(t,e))(b:¬(t.jj=0∨t.jj=5)):ZN l (n+1) i=t::ZN l n e:=by
 show(if (Zk l i).1.jj=0∨(Zk l i).1.jj=5 then [(Zk l i).1] else (Zk l i).1::ZN l n (Zk l i).2)=_;rw[a,if_neg b]
theorem Zx0{e:Nat}(a:Zk l i=(t,e))(b:t.jj=0∨t.jj=5):ZN l (n+1) i=[t]:=by
 show(if (Zk l i).1.jj=0∨(Zk l i).1.jj=5 then [(Zk l i).1] else (Zk l i).1::ZN l n (Zk l i).2)=_;rw[a,if_pos b]
def Zct(s:BA)(ps:List PTok)(at_:Nat):Prop:=at_<=s.size/\ps.length<=at_/\∃ts m,ZN (bl s) ((bl s).length+1) 0=ts++ZN (bl s) m at_/\s.size+1<=m+at_/\Zci ps ts
theorem Zct.start(s:BA):Zct s [] 0:=⟨Yag _,Yac _,[],(bl s).length+1,rfl,by rw[Zd];omega,trivial⟩
theorem Zct.skip(h:Zct s ps at_)(a:at_<s.size)(b:s[at_]=32):Zct s ps (at_+1):=by
 obtain⟨_,e,ts,m,c,f,d⟩:=h;refine⟨a,by omega,ts,m,?_,by omega,d⟩;rw[c]
 congr 1
 cases m with
 | zero=>rfl
 | succ m=>
  show(if (Zk (bl s) at_).1.jj=0∨(Zk (bl s) at_).1.jj=5 then [(Zk (bl s) at_).1] else (Zk (bl s) at_).1::ZN (bl s) m (Zk (bl s) at_).2)=_;rw[Zx9 s at_ a b];rfl
theorem Zct.token(h:Zct s ps at_){e:Nat}(c:Zk (bl s) at_=(t,e))(d:¬(t.jj=0∨t.jj=5))(g:Zdf p t):Zct s (ps++[p]) e:=by
 obtain⟨i,l,ts,m,j,n,k⟩:=h;have b:=Zig (bl s) at_ (by rw[Zd];exact i);rw[c]at b;have f:=b.1 (fun h=>d (Or.inl h));have a:=b.2;rw[Zd]at a;simp only at f a;obtain⟨m',rfl⟩:∃m',m=m'+1:=⟨m - 1,by omega⟩
 refine⟨a,by simp;omega,ts++[t],m',?_,by omega,k.snoc g⟩;rw[j,Zx1 c d,Yan];rfl
theorem Zct.done(h:Zct s ps at_){e:Nat}(a:Zk (bl s) at_=(t,e))(b:t.jj=0∨t.jj=5)(c:Zdf p t):Zci (ps++[p]) (ZN (bl s) ((bl s).length+1) 0):=by
 obtain⟨g,i,ts,m,d,j,f⟩:=h;obtain⟨m',rfl⟩:∃m',m=m'+1:=⟨m - 1,by omega⟩
 rw[d,Zx0 a b];exact f.snoc c
theorem ZqF(s:BA):Zk (bl s) s.size=(⟨0,[],s.size⟩,s.size):=by
 unfold Zk;have hd:(bl s).drop s.size=[]:=Yb8 (by rw[Zd];exact Yac _);rw[hd];show lexJ (bl s) s.size=_;unfold lexJ;rw[hd]
theorem Zx2(h:k<s.size)(hd:ZC s[k]=true):Zk (bl s) k=(if (ZQ 1000000000 (((bl s).drop k).take (run ZC ((bl s).drop k)))).isSome then ⟨1,((bl s).drop k).take (run ZC ((bl s).drop k)),k⟩else ⟨5,[],k⟩,k+run ZC ((bl s).drop k)):=by
 have a:s[k]≠32:=by rintro e;rw[e]at hd;revert hd;decide
 rw[ZjD s k h a];unfold lexC;rw[if_pos hd,<-ZdW s k h]
theorem Zx3(h:k<s.size)(hd:ZC s[k]=false)(a:Zp s[k]=true):Zk (bl s) k=(if 8<run Zp ((bl s).drop k)then ⟨5,[],k⟩else ⟨2,((bl s).drop k).take (run Zp ((bl s).drop k)),k⟩,k+run Zp ((bl s).drop k)):=by
 have b:s[k]≠32:=by rintro e;rw[e]at a;revert a;decide
 rw[ZjD s k h b];unfold lexC;rw[if_neg (by rw[hd];exact Bool.false_ne_true),if_pos a,<-ZdW s k h]
theorem ZdY(s:BA)(l:LB):(s.toList == l)=decide (l=bl s):=by
 rw[Zbt,Ybh,beq_iff_eq,decide_eq_true_iff];exact⟨fun h=>h.symm,fun h=>h.symm⟩
theorem ZlO (w : LB) : ∀ l : List (LB), (idx w l).isSome = l.any (fun x => decide (x = w))
  | []=>rfl
  | x :: l => by
    unfold idx;rw[List.any_cons];by_cases h:x=w
    · rw[if_pos h];simp[h]
    · rw[if_neg h,Option.isSome_map,ZlO w l];simp[h]
theorem ZpX(s:BA)(w:World) :
  CP 187 #[.string s] w fun e u=>e=.returned (.bool (idx (bl s) ZW).isSome)/\u=w:=by
 have e1:=ZdY s [115,117,109];have e2:=ZdY s [109,97,120];have e3:=ZdY s [109,105,110];have e4:=ZdY s [99,111,117,110,116];have a:Hid ((idx (bl s) ZW).isSome=(decide ([115,117,109]=bl s) || (decide ([109,97,120]=bl s) || (decide ([109,105,110]=bl s) || (decide ([99,111,117,110,116]=bl s) || false))))):=ZlO _ _;rw[a.out];clear a;generalize decide ([115,117,109]=bl s)=b1 at *
 generalize decide ([109,97,120]=bl s)=b2 at *
 generalize decide ([109,105,110]=bl s)=b3 at *
 generalize decide ([99,111,117,110,116]=bl s)=b4 at *
 cases b1
 ·cases b2
  ·cases b3
   ·cases b4
    ·go_enter func187,ntmps187;go_wp2;go_ret;exact⟨rfl,rfl⟩
    ·go_enter func187,ntmps187;go_wp2;go_ret;exact⟨rfl,rfl⟩
   ·go_enter func187,ntmps187;go_wp2;go_ret;exact⟨rfl,rfl⟩
  ·go_enter func187,ntmps187;go_wp2;go_ret;exact⟨rfl,rfl⟩
 ·go_enter func187,ntmps187;go_wp2;go_ret;exact⟨rfl,rfl⟩
theorem ZpZ(s:BA)(w:World) :
  CP 189 #[.string s] w fun e u=>e=.returned (.bool (idx (bl s) Z0).isSome)/\u=w:=by
 have e1:=ZdY s [116,111,116,97,108];have e2:=ZdY s [112,101,97,107];have e3:=ZdY s [108,111,119];have e4:=ZdY s [115,105,122,101];have e5:=ZdY s [114,105,115,101];have a:Hid ((idx (bl s) Z0).isSome=(decide ([116,111,116,97,108]=bl s) || (decide ([112,101,97,107]=bl s) || (decide ([108,111,119]=bl s) || (decide ([115,105,122,101]=bl s) || (decide ([114,105,115,101]=bl s) || false)))))):=ZlO _ _;rw[a.out];clear a;generalize decide ([116,111,116,97,108]=bl s)=b1 at *
 generalize decide ([112,101,97,107]=bl s)=b2 at *
 generalize decide ([108,111,119]=bl s)=b3 at *
 generalize decide ([115,105,122,101]=bl s)=b4 at *
 generalize decide ([114,105,115,101]=bl s)=b5 at *
 cases b1
 ·cases b2
  ·cases b3
   ·cases b4
    ·cases b5
     ·go_enter func189,ntmps189;go_wp2;go_ret;exact⟨rfl,rfl⟩
     ·go_enter func189,ntmps189;go_wp2;go_ret;exact⟨rfl,rfl⟩
    ·go_enter func189,ntmps189;go_wp2;go_ret;exact⟨rfl,rfl⟩
   ·go_enter func189,ntmps189;go_wp2;go_ret;exact⟨rfl,rfl⟩
  ·go_enter func189,ntmps189;go_wp2;go_ret;exact⟨rfl,rfl⟩
 ·go_enter func189,ntmps189;go_wp2;go_ret;exact⟨rfl,rfl⟩
theorem Zur(s:BA)(w:World) :
  CP 238 #[.string s] w fun e u=>e=.returned (.bool (!decide (wOr=bl s) && !decide (wBy=bl s) && !(idx (bl s) ZW).isSome && !(idx (bl s) Z0).isSome))/\u=w:=by
 have e1:=ZdY s [111,114];have e2:=ZdY s [98,121];have a:Hid (∀w,CP 187 #[.string s] w fun e u=>e=.returned (.bool (idx (bl s) ZW).isSome)/\u=w):=ZpX s;have b:Hid (∀w,CP 189 #[.string s] w fun e u=>e=.returned (.bool (idx (bl s) Z0).isSome)/\u=w):=ZpZ s;show Calls _ _ _ _ fun e u=>e=.returned (.bool (!decide ([111,114]=bl s) && !decide ([98,121]=bl s) && !(idx (bl s) ZW).isSome && !(idx (bl s) Z0).isSome))/\u=w;generalize decide ([111,114]=bl s)=b1 at *
 generalize decide ([98,121]=bl s)=b2 at *
 generalize(idx (bl s) ZW).isSome=b3 at *
 generalize(idx (bl s) Z0).isSome=b4 at *
 cases b1 <;> cases b2 <;> cases b3 <;> cases b4
 all_goals
  go_enter func238,ntmps238
  go_wp2_with (first|(go_at_call 187;refine(a.out _).mono ?_;rintro e u ⟨rfl,rfl⟩)|(go_at_call 189;refine(b.out _).mono ?_;rintro e u ⟨rfl,rfl⟩))
  go_ret;exact⟨rfl,rfl⟩
def Zdt(t:Tok):Prop:=(t.jj=2->t.txt.all Zp=true)/\(t.jj=4->t.txt.all (fun c=>!Zp c)=true)
def ZeQ:List Tok->Prop
 | []=>False
 | [t]=>t.jj=0∨t.jj=5
 | t::u::l=>(t.jj=1∨t.jj=2∨t.jj=3∨t.jj=4)/\Zdt t/\ZeQ (u::l)
theorem ZeQ.tail(h:ZeQ ts)(a:¬((hd ts).jj=0∨(hd ts).jj=5)):ZeQ ts.tail/\1<ts.length:=by
 match ts,h with
 | [t],h=>exact absurd h a
 | t::u::l,h=>exact⟨h.2.2,by simp⟩
theorem ZeQ.head(h:ZeQ ts):Zdt (hd ts)/\0<ts.length/\(hd ts).jj<=5:=by
 match ts,h with
 | [t],h=>
  have a:t.jj=0∨t.jj=5:=h;refine⟨⟨fun e=>?_,fun e=>?_⟩,by simp,?_⟩
  ·exact absurd (show t.jj=2 from e) Om
  ·exact absurd (show t.jj=4 from e) Om
  ·show t.jj<=5;omega
 | t::u::l,h=>exact⟨h.2.1,by simp,by have:=h.1;show t.jj<=5;omega⟩
theorem ZkF{l:List PTok}(h:Zci (p::l) ts):Zdf p (hd ts)/\Zci l ts.tail:=by
 match ts,h with
 | t::m,h=>exact h
structure RS where
 b:Nat
 g:Nat
 cp:Nat
 ps:List PTok
 sy:Addr
 dp:Addr
structure RK (w:World) (R:RS) (k:Nat) (ts:List Tok):Prop where
 rd:RD w R.b R.g R.cp R.ps k
 all:Zci (R.ps.drop k) ts
 wf:ZeQ ts
 len:R.ps.length<=302
 sy:w.cell? ⟨1,0,none⟩=some (.iface 491 (.pointer (some R.sy)))
 dp:w.cell? ⟨2,0,none⟩=some (.iface 491 (.pointer (some R.dp)))
theorem RK.lt{R:RS}(h:RK w R k ts):k<R.ps.length:=h.rd.lt
theorem RK.tok{R:RS}(h:RK w R k ts):Zdf (R.ps[k]'h.lt) (hd ts):=by
 have a:=h.all;rw[List.drop_eq_getElem_cons h.lt]at a;exact(ZkF a).1
theorem RK.size{R:RS}(h:RK w R k ts):k+ts.length=R.ps.length:=by
 have:=h.all.length;rw[Ybv]at this;have:=h.lt;omega
theorem Zn6{c0 c1:Value}{u:Value}{t:TypeId}(d:w.heap[b]?=some (.cells #[c0,c1] t (0,0)))(a:w.cell? ⟨g,0,none⟩=some v)(c:c0≠v)(_:u=u):g≠b:=by
 rintro rfl;simp[World.cell?,d]at a;exact c a
theorem RK.glob{R:RS}(h:RK w R k ts):1≠R.b/\2≠R.b:=
 ⟨Zn6 (u:=.nilIface) h.rd.cells h.sy (by intro e;cases e) rfl,Zn6 (u:=.nilIface) h.rd.cells h.dp (by intro e;cases e) rfl⟩
theorem RK.below{R:RS}(h:RK w R k ts)(a:BW w w'):RK w' R k ts:=
 ⟨h.rd.below a,h.all,h.wf,h.len,(a.cell (p:=⟨_,0,none⟩) (Yai _ _ h.sy)).trans h.sy,(a.cell (p:=⟨_,0,none⟩) (Yai _ _ h.dp)).trans h.dp⟩
theorem RK.blocks{R:RS}(h:RK w R k ts)(c:∀j,j<w.heap.size->(j=R.b∨j=R.g∨j=1∨j=2)->w'.heap[j]?=w.heap[j]?):RK w' R k ts:=by
 have d:=Yai _ _ h.sy;have e:=Yai _ _ h.dp;refine⟨⟨?_,?_,h.lt⟩,h.all,h.wf,h.len,?_,?_⟩
 ·exact(c _ (Yae.1 h.rd.cells).1 (Or.inl rfl)).trans h.rd.cells
 ·exact ZdA h.rd.own (fun j f => by
    have:j=R.g:=by simpa [Value.ownBlock] using f.symm
    subst this;exact c _ (Z1 h.rd.own) (Or.inr (Or.inl rfl)))
 ·exact(Ycc (a:=⟨1,0,none⟩) (c _ d (Or.inr (Or.inr (Or.inl rfl))))).trans h.sy
 ·exact(Ycc (a:=⟨2,0,none⟩) (c _ e (Or.inr (Or.inr (Or.inr rfl))))).trans h.dp
theorem RK.step{R:RS}(h:RK w R k ts)(d:¬((hd ts).jj=0∨(hd ts).jj=5)):RK (w.setCell ⟨R.b,1,none⟩ (Vi ((k+1:Nat):Int))) R (k+1) ts.tail:=by
 obtain⟨e,f⟩:=h.wf.tail d;have g:=h.size;obtain⟨g1,g2⟩:=h.glob;refine⟨h.rd.step Om,?_,e,h.len,?_,?_⟩
 ·have c:=h.all;rw[List.drop_eq_getElem_cons h.lt]at c;exact(ZkF c).2
 ·exact(Ycc (a:=⟨1,0,none⟩) (Go.Deep.blk_setCell_other _ _ _ _ g1)).trans h.sy
 ·exact(Ycc (a:=⟨2,0,none⟩) (Go.Deep.blk_setCell_other _ _ _ _ g2)).trans h.dp
theorem ZM.lt{p:Int}{a:Addr}(h:ZM w v p a):∃fa:Nat,v=.iface 115 (Vp fa):=by
 obtain⟨fa,b,_⟩:=h;exact⟨fa,b⟩
theorem ZM.set{p:Int}{a:Addr}(h:ZM w v p a){q:Nat}{c:Array Value}{t:TypeId}(b:w.heap[q]?=some (.cells c t fr))(e:t≠119)(o:Nat)(x:Value):ZM (w.setCell ⟨q,o,none⟩ x) v p a:=by
 obtain⟨fa,f,d⟩:=h;refine⟨fa,f,(Go.Deep.blk_setCell_other _ _ _ _ ?_).trans d⟩;show fa≠q;rintro rfl;rw[d]at b;injection b with h3;injection h3 with _ h4;exact e h4.symm
theorem ZM.grown{p:Int}{a:Addr}(h:ZM w v p a)(g:w.grownBy w' (some b)){c:Array Value}{t:TypeId}(f:w.heap[b]?=some (.cells c t fr))(i:t≠119):ZM w' v p a:=by
 obtain⟨fa,j,d⟩:=h;refine⟨fa,j,(g.block fa (Yae.1 d).1 ?_).trans d⟩;intro e;injection e with e;subst e;rw[d]at f;injection f with h3;injection h3 with _ h4;exact i h4.symm
def Z9(w:World)(R:RS)(e:Nat×Nat)(v:Value):Prop:=(e.1=2/\ZM w v e.2 R.sy)∨(e.1=3/\ZM w v e.2 R.dp)
theorem Z9.below{R:RS}(h:Z9 w R e v)(c:BW w w'):Z9 w' R e v:=by
 rcases h with ⟨a,b⟩|⟨a,b⟩
 ·exact Or.inl ⟨a,b.below c⟩
 ·exact Or.inr ⟨a,b.below c⟩
theorem Z9.set{R:RS}(h:Z9 w R e v){q:Nat}{c:Array Value}{t:TypeId}(d:w.heap[q]?=some (.cells c t fr))(f:t≠119)(o:Nat)(x:Value):Z9 (w.setCell ⟨q,o,none⟩ x) R e v:=by
 rcases h with ⟨a,b⟩|⟨a,b⟩
 ·exact Or.inl ⟨a,b.set d f o x⟩
 ·exact Or.inr ⟨a,b.set d f o x⟩
theorem Z9.shape{R:RS}(h:Z9 w R e v):∃fa:Nat,v=.iface 115 (Vp fa):=by
 rcases h with ⟨_,a⟩|⟨_,a⟩ <;> exact a.lt
def Res{α:Type}(R:RS)(V:World->α->Prop)(w:World)(r:Out α)(v:Value):Prop:=match r with
 | .error e=>Z9 w R e v
 | .ok x=>v=.nilIface/\(∃k,RK w R k x.2)/\V w x.1
theorem Ze0(h:k<=5):(pk k=3 ↔ k=4)/\(pk k=1 ↔ k=2)/\(pk k=2 ↔ k=3)/\(pk k=0 ↔ k=1)/\(pk k=4 ↔ k=0):=by
 unfold pk
 match k,h with
 | 0,_=>decide
 | 1,_=>decide
 | 2,_=>decide
 | 3,_=>decide
 | 4,_=>decide
 | 5,_=>decide
theorem Zrg  (d : l.all Zp = true) (b : l.all (fun c => !Zp c) = true) : l = [] := by
  cases l with
  | nil=>rfl
  | cons a l=>
    simp at d b;rw[d.1]at b;exact absurd b.1 Dc
theorem ZdP   (h : Zdf p t) (f : Zdt t) (g : t.jj <= 5)  (i : (bl s).all (fun c => !Zp c) = true) (b : bl s ≠ []) : ZY p s = isT (bl s) t := by
  obtain⟨j,_,k,_⟩:=h;unfold ZY isT;rw[j,Zbt,Zbt,k];have d:=(Ze0 g).1;by_cases a:t.txt=bl s
  · rw[beq_iff_eq.2 a,Yd3,Yd3]
    have l:t.jj≠2:=fun e=>b (by rw[<-a];exact Zrg (f.1 e) (by rw[a];exact i));rw[beq_eq_false_iff_ne.2 l,Yft,Ybh,beq_iff_eq,beq_iff_eq];exact⟨fun e=>d.1 Om,fun e=>by rw[d.2 e];rfl⟩
  · rw[beq_eq_false_iff_ne.2 a,Ydi,Ydi]
theorem Znz(h:Zdf p t)(d:Zdt t)(f:t.jj<=5)(g:(bl s).all Zp=true)(b:bl s≠[]):ZdF p s=isT (bl s) t:=by
 obtain⟨i,_,j,_⟩:=h;unfold ZdF isT;rw[i,Zbt,Zbt,j];have c:=(Ze0 f).2.1;by_cases a:t.txt=bl s
 ·rw[beq_iff_eq.2 a,Yd3,Yd3];have k:t.jj≠4:=fun e=>b (by rw[<-a];exact Zrg (by rw[a];exact g) (d.2 e));rw[beq_eq_false_iff_ne.2 k,Bool.or_false,Ybh,beq_iff_eq,beq_iff_eq];exact⟨fun e=>c.1 Om,fun e=>by rw[c.2 e];rfl⟩
 ·rw[beq_eq_false_iff_ne.2 a,Ydi,Ydi]
theorem Zd3{s:LB}(h:isT s t=true):¬(t.jj=0∨t.jj=5):=by
 unfold isT at h;rw[Yas,Yct,beq_iff_eq,beq_iff_eq]at h;omega
theorem Took.res{R:RS}{ok:Bool}(h:RK w R k ts)(c:w.grownBy w' (some R.b))(m:Took w' R.b R.g R.cp R.ps k R.sy (R.ps[k]'h.lt).at_ ok v)(n:ok=true->¬((hd ts).jj=0∨(hd ts).jj=5)){α:Type}{V:World->α->Prop}{a:α}(o:ok=true->V w' a) :
  Res R V w' (if ok then .ok (a,ts.tail)else .error (2,(hd ts).at_)) v:=by
 have d:(R.ps[k]'h.lt).at_=(hd ts).at_:=h.tok.2.1;rcases m with ⟨rfl,rfl,f⟩|⟨rfl,i,f⟩
 ·have j:=n rfl;obtain⟨p,q⟩:=h.wf.tail j;obtain⟨g1,g2⟩:=h.glob;refine⟨rfl,⟨k+1,f,?_,p,h.len,?_,?_⟩,o rfl⟩
  ·have l:=h.all;rw[List.drop_eq_getElem_cons h.lt]at l;exact(ZkF l).2
  ·exact(Ycc (a:=⟨1,0,none⟩) (c.block _ (Yai _ _ h.sy) (fun e=>g1 (Yax e)))).trans h.sy
  ·exact(Ycc (a:=⟨2,0,none⟩) (c.block _ (Yai _ _ h.dp) (fun e=>g2 (Yax e)))).trans h.dp
 ·rw[d]at i;exact Or.inl ⟨rfl,i⟩
theorem ZdT  {R : RS}   (h : RK w R k ts) (s : BA) (i : (bl s).all (fun c => !Zp c) = true) (f : bl s ≠ []) :
    CP 233 #[Vp R.b,.string s] w fun e u=>∃v,e=.returned v/\Hid (Res R (fun _ (_:Unit)=>True) u (Zq (bl s) ts) v)/\w.grownBy u (some R.b):=by
  have d:=ZdP h.tok h.wf.head.1 h.wf.head.2.2 i f
  have j : ZY (R.ps[k]'h.lt) s = true -> k + 1 < R.ps.length := fun e => by
    have:=(h.wf.tail (Zd3 (d.symm.trans e))).2;have:=h.size;omega
  refine(ZC5 h.rd s j (by have:=h.len;omega) h.sy).mono ?_;rintro e u ⟨v,rfl,l,g⟩;refine⟨v,rfl,?_,g⟩;have:=l.res (α:=Unit) (V:=fun _ _=>True) (a:=()) h g (fun e=>Zd3 (d.symm.trans e)) (fun _=>trivial);rw[d]at this;exact this
theorem ZC8{R:RS}(h:RK w R k ts)(s:BA)(g:(bl s).all Zp=true)(d:bl s≠[]) :
  CP 234 #[Vp R.b,.string s] w fun e u=>∃v,e=.returned v/\Hid (Res R (fun _ (_:Unit)=>True) u (Zq (bl s) ts) v)/\w.grownBy u (some R.b):=by
 have c:=Znz h.tok h.wf.head.1 h.wf.head.2.2 g d
 have i : ZdF (R.ps[k]'h.lt) s = true -> k + 1 < R.ps.length := fun e => by
   have:=(h.wf.tail (Zd3 (c.symm.trans e))).2;have:=h.size;omega
 refine(ZC7 h.rd s i (by have:=h.len;omega) h.sy).mono ?_;rintro e u ⟨v,rfl,j,f⟩;refine⟨v,rfl,?_,f⟩;have:=j.res (α:=Unit) (V:=fun _ _=>True) (a:=()) h f (fun e=>Zd3 (c.symm.trans e)) (fun _=>trivial);rw[c]at this;exact this
theorem Zzc(h:Zdf p t)(b:t.jj<=5):ZeX p=decide (t.jj=2):=by
 unfold ZeX;rw[h.1,Ybh,beq_iff_eq,decide_eq_true_iff];have a:=(Ze0 b).2.1;exact⟨fun e=>a.1 Om,fun e=>by rw[a.2 e];rfl⟩
theorem Zkk{R:RS}(h:RK w R k ts) :
  CP 236 #[Vp R.b] w fun e u=>∃(x:BA) (v:Value),e=.returned (.tuple #[.string x,v])/\Hid (Res R (fun _ a=>bl x=a) u (ZH 2 ts) v)/\w.grownBy u (some R.b):=by
 have f:=Zzc h.tok h.wf.head.2.2
 have d : ZeX (R.ps[k]'h.lt) = true -> ¬ ((hd ts).jj = 0 ∨ (hd ts).jj = 5) := fun e => by
   have:(hd ts).jj=2:=of_decide_eq_true (f.symm.trans e);omega
 have j : ZeX (R.ps[k]'h.lt) = true -> k + 1 < R.ps.length := fun e => by
   have:=(h.wf.tail (d e)).2;have:=h.size;omega
 refine(ZC6 h.rd j (by have:=h.len;omega) h.sy).mono ?_;rintro e u ⟨x,v,rfl,g,i⟩;refine⟨x,v,rfl,?_,i⟩;have:=g.1.res (α:=LB) (V:=fun _ a=>bl x=a) (a:=(hd ts).txt) h i d (fun e=>by rw[g.2 e];exact h.tok.2.2.1);rw[f]at this;unfold ZH;by_cases c:(hd ts).jj=2
 ·rw[if_pos c];rw[decide_eq_true c]at this;exact this
 ·rw[if_neg c];rw[decide_eq_false c]at this;exact this
theorem Zfi{R:RS}(h:RK w R k ts) :
  CP 70 #[Vp R.b] w fun e u=>∃v,e=.returned v/\Hid (Z9 u R (2,(hd ts).at_) v)/\BW w u:=by
 refine(ZiZ h.rd h.sy).mono ?_;rintro e u ⟨v,rfl,a,c⟩;refine⟨v,rfl,Or.inl ⟨rfl,?_⟩,c⟩;have:=a.out;rw[h.tok.2.1]at this;exact this
theorem Zee{R:RS}(h:RK w R k ts) :
  CP 69 #[Vp R.b] w fun e u=>∃t:PTok,e=.returned (.agg #[Vi t.kd,Vi t.at_,.string t.tx,Vi t.v])/\Hid (Zdf t (hd ts))/\BW w u:=by
 refine(ZiF h.rd).mono ?_;rintro e u ⟨rfl,a⟩;exact⟨_,rfl,h.tok,a⟩
theorem Zf6 {t : PTok} {u : Tok} (h : Zdf t u) (b : Zdt u) (d : u.jj <= 5) (s : BA) (f : (bl s).all (fun c => !Zp c) = true) (a : bl s ≠ []) (w : World) :
    CP 185 #[.agg #[Vi t.kd,Vi t.at_,.string t.tx,Vi t.v],.string s] w fun e g=>e=.returned (.bool (isT (bl s) u))/\BW w g:=by
  rw[<-ZdP h b d f a];exact ZlS t s w
theorem Z9.grown{R:RS}(h:Z9 w R e v)(f:w.grownBy w' (some b)){c:Array Value}{t:TypeId}(g:w.heap[b]?=some (.cells c t fr))(i:t≠119):Z9 w' R e v:=by
 rcases h with ⟨a,d⟩|⟨a,d⟩
 ·exact Or.inl ⟨a,d.grown f g i⟩
 ·exact Or.inr ⟨a,d.grown f g i⟩
def BAt(w:World)(a:Nat)(c:List Value)(t:TypeId):Prop:=w.heap[a]?=some (.cells ⟨c⟩ t (0,0))
theorem BAt.cell{t:TypeId}(h:BAt w a c t)(i:Nat):w.cell? ⟨a,i,none⟩=c[i]?:=by
 unfold BAt at h;simp[World.cell?,h]
theorem BAt.frozen{t:TypeId}(h:BAt w a c t)(i:Nat):w.frozen? ⟨a,i,none⟩=false:=by
 unfold BAt at h;simp[World.frozen?,h]
theorem BAt.lt{t:TypeId}(h:BAt w a c t):a<w.heap.size:=(Yae.1 h).1
theorem BAt.grown{t:TypeId}{r:Option Nat}(h:BAt w a c t)(b:w.grownBy w' r)(d:some a≠r):BAt w' a c t:=(b.block a h.lt d).trans h
theorem BAt.below{t:TypeId}(h:BAt w a c t)(b:BW w w'):BAt w' a c t:=(b.block a h.lt).trans h
theorem BAt.other{t:TypeId}(h:BAt w a c t){p:Addr}(b:a≠p.block)(v:Value):BAt (w.setCell p v) a c t:=(Go.Deep.blk_setCell_other _ _ _ _ b).trans h
def set3(w:World)(a:Nat)(x y z:Value):World:=((w.setCell ⟨a,0,none⟩ x).setCell ⟨a,1,none⟩ y).setCell ⟨a,2,none⟩ z
theorem Zcr{p q r x z:Value}{t:TypeId}(h:BAt w a [p,q,r] t):BAt (set3 w a x y z) a [x,y,z] t:=by
 unfold BAt at h;unfold BAt set3;simp only[World.setCell,Ybn,h,if_true,Ybf];rfl
theorem ret3{fn:Func}{R:Ending->World->Prop}{a:Act}{v:World}{p q u x z r:Value}{t:TypeId}(c:∀W:World,W.cell? ⟨b,0,none⟩=some x->W.cell? ⟨b,1,none⟩=some y->W.cell? ⟨b,2,none⟩=some z->(results fn a.tmps).run P W=.ok r W)(hd:a.defers=[])(d:BAt v b [p,q,u] t)(e:R (.returned r) (set3 v b x y z)):bodyPost P fn R .ret a (set3 v b x y z):=by
 have s:=Zcr d (x:=x) (y:=y) (z:=z);exact bodyPost_ret (c _ (s.cell 0) (s.cell 1) (s.cell 2)) hd e
theorem Zsf{x z:Value}(c:b≠a):(set3 w a x y z).heap[b]?=w.heap[b]?:=by
 unfold set3;rw[Go.Deep.blk_setCell_other _ _ _ _ c,Go.Deep.blk_setCell_other _ _ _ _ c,Go.Deep.blk_setCell_other _ _ _ _ c]
theorem Ze4(h:w0.grownBy w (some b))(c:w0.heap.size<=a)(x y z:Value):w0.grownBy (set3 w a x y z) (some b):=
 ZA (ZA (ZA h (Or.inr c) _) (Or.inr c) _) (Or.inr c) _
theorem RK.fresh{R:RS}{k0:Nat}{ts0:List Tok}(b:RK w0 R k0 ts0)(h:RK w R k ts)(l:w0.heap.size<=a)(c:∀j,j≠a->w'.heap[j]?=w.heap[j]?):RK w' R k ts:=by
 refine h.blocks (fun j _ d=>c j ?_);have m:=(Yae.1 b.rd.cells).1;have n:=Z1 b.rd.own;have e:=Yai _ _ b.sy;have f:=Yai _ _ b.dp;have g:1<w0.heap.size:=e;have i:2<w0.heap.size:=f;rcases d with rfl|rfl|rfl|rfl <;> omega
theorem Z9.set3{R:RS}(h:Z9 w R e v){t:TypeId}(d:BAt w a c t)(f:t≠119)(x y z:Value):Z9 (set3 w a x y z) R e v:=by
 refine h.grown (b:=a) ?_ d f;exact ZA (ZA (ZA (ZbM w (some a)) (Or.inl rfl) _) (Or.inl rfl) _) (Or.inl rfl) _
theorem Zfr(h:(hd ts).jj=k):ZH k ts=.ok ((hd ts).txt,ts.tail):=if_pos h
theorem Zgb(h:¬(hd ts).jj=k):ZH k ts=.error (2,(hd ts).at_):=if_neg h
theorem Zic{s:LB}(h:isT s t=true):t.txt=s:=by
 unfold isT at h;rw[Yas,beq_iff_eq]at h;exact h.2
theorem ZeV{s u:LB}(h:isT s t=true)(a:s≠u):isT u t=false:=by
 have:=Zic h;unfold isT;rw[this,beq_eq_false_iff_ne.2 a,Ydi]
theorem ZP{c:Code}{Q:Exit->Act->World->Prop}{a:Act}(h:∀W,W=w->Code.wp P c Q a W):Code.wp P c Q a w:=h w rfl
theorem Zm{f:FuncId}{args:Array Value}{Q:Ending->World->Prop}(h:∀W,W=w->Calls P f args W Q):Calls P f args w Q:=h w rfl
theorem Zou{R:RS}(h:RK w R k ts) :
  CP 240 #[Vp R.b] w fun e u=>∃(x:BA) (ng:Bool) (y:BA) (v:Value),e=.returned (.tuple #[.agg #[.string x,.bool ng,.string y],v])/\Hid (Res R (fun _ c=>bl x=c.1/\bl y=c.2.1/\ng=c.2.2) u (ZV ts) v)/\w.grownBy u (some R.b):=by
 have H:Hid (RK w R k ts):=h;have e6:R.b<w.heap.size:=(Yae.1 h.rd.cells).1;clear h;go_enter func240,ntmps240
 go_wp2_with fail
 refine Zm fun W0 a5=>?_;have d7:Hid (RK W0 R k ts):=hid (by rw[a5];exact H.below Zbal);have d8:Hid (BAt W0 w.heap.size [.string ByteArray.empty,.bool false,.string ByteArray.empty] 379):=hid (by rw[a5];exact Go.Deep.blk_alloc_new _ _);have d9:Hid (w.grownBy W0 (some R.b)):=hid (by rw[a5];exact ZbR (ZbM _ _) _);clear a5;refine(Zkk d7.out).mono ?_;rintro e w1 ⟨x,v,rfl,q,hg⟩;have s:Hid (BAt w1 w.heap.size [.string ByteArray.empty,.bool false,.string ByteArray.empty] 379):=d8.grown hg (by simp;omega);have c6:Hid (w.grownBy w1 (some R.b)):=Zj d9.out hg;clear hg;by_cases J:(hd ts).jj=2
 ·rw[Zfr J]at q;obtain⟨rfl,⟨k1,c7⟩,hx⟩:=q.out;have c8:Hid (RK w1 R k1 ts.tail):=c7;have HX:Hid (bl x=(hd ts).txt):=hx;clear q c7 hx
  go_wp2_with fail
  refine(Zee c8.out).mono ?_;rintro e z ⟨⟨kd,at_,tx,tv⟩,rfl,ht,a6⟩;have e0:=hid (s.below a6);have N:Hid (w.grownBy z (some R.b)):=Zj c6.out (Zw a6);have e1:Hid (RK z R k1 ts.tail):=c8.below a6;clear a6
  go_wp2_with fail
  refine Zm fun W1 b3=>?_;have a7:BW z W1:=by rw[b3];exact Zbal
  have c9:Hid (BAt W1 z.heap.size [Vi kd,Vi at_,.string tx,Vi tv] 167):=hid (by rw[b3];exact Go.Deep.blk_alloc_new _ _);have d4:=hid (e0.below a7);have d5:Hid (w.grownBy W1 (some R.b)):=Zj N.out (Zw a7);have a8:Hid (RK W1 R k1 ts.tail):=e1.below a7;clear a7 b3;refine(Zf6 ht.out a8.wf.head.1 a8.wf.head.2.2 ⟨#[61]⟩ Dc Dc W1).mono ?_;rintro e w3 ⟨rfl,O⟩;have A:=hid (c9.below O);have a9:=hid (d4.below O);have b0:Hid (w.grownBy w3 (some R.b)):=Zj d5.out (Zw O);have K:Hid (RK w3 R k1 ts.tail):=a8.below O;clear O c9 d4 d5 a8;by_cases G:isT [61] (hd ts.tail)=true
  ·rw[show isT (bl ⟨#[61]⟩) (hd ts.tail)=true from G];have b4:tx=⟨#[61]⟩:=ZcW (ht.2.2.1.trans (Zic G));subst b4;have HD:Hid (¬((hd ts.tail).jj=0∨(hd ts.tail).jj=5)):=Zd3 G;have P:Hid (ZV ts=bnd (ZH 3 ts.tail.tail) fun b r=>.ok (((hd ts).txt,b,false),r)):=hid (by unfold ZV;rw[Zfr J];show bnd (Zdc ts.tail) _=_;unfold Zdc;rw[if_neg (by rw[ZeV G Dc];decide)];unfold Zq;rw[if_pos G];rfl);have p:=K;have b1:=b0;have b2:=a9;have b5:=A;clear K b0 a9 A;clear G;obtain⟨rc0,rc1,rfz,_⟩:=p.rd.all;have e3:=p.lt;have e4:=p.len
   go_wp2_with fail
   refine Zm fun L g=>?_;have B:Hid (RK L R (k1+1) ts.tail.tail):=hid (by rw[g];exact p.step HD.out);have Q:Hid (w.grownBy L (some R.b)):=hid (by rw[g];exact ZA b1.out (Or.inl rfl) _);have S:Hid (BAt L w.heap.size [.string ByteArray.empty,.bool false,.string ByteArray.empty] 379):=hid (by rw[g];exact b2.other (by show w.heap.size≠R.b;omega) _);have T:Hid (BAt L z.heap.size [Vi kd,Vi at_,.string ⟨#[61]⟩,Vi tv] 167):=hid (by rw[g];exact b5.other (by show z.heap.size≠R.b;have:=N.size;omega) _);clear g rc0 rc1 rfz;refine(Zee B.out).mono ?_;rintro e i ⟨⟨kd2,at2,tx2,tv2⟩,rfl,C,l⟩;have U:=hid (S.below l);have V:=hid (T.below l);have D:Hid (w.grownBy i (some R.b)):=Zj Q.out (Zw l);have X:Hid (RK i R (k1+1) ts.tail.tail):=B.below l;clear l B Q S T
   go_upto_region 9 with fail
   refine ZP fun M E=>?_;have m:BW i M:=by rw[E];exact Zbal
   have Y:Hid (BAt M i.heap.size [Vi kd2,Vi at2,.string tx2,Vi tv2] 167):=hid (by rw[E];exact Go.Deep.blk_alloc_new _ _);have Z:=hid (U.below m);have b6:=hid (V.below m);have a0:Hid (w.grownBy M (some R.b)):=Zj D.out (Zw m);have n:Hid (RK M R (k1+1) ts.tail.tail):=X.below m;have e5:R.b<i.heap.size:=by have:=D.size;omega
   clear E m U V X D;have t0:=Y.cell 0;simp only[Ycy]at t0;by_cases t:(hd ts.tail.tail).jj=3
   ·have a1:kd2=2:=by have:=C.1;rw[t]at this;exact this
    subst a1;have b7:Hid (ZV ts=.ok (((hd ts).txt,(hd ts.tail.tail).txt,false),ts.tail.tail.tail)):=hid (by rw[P.out,Zfr t];rfl);have b8:Hid (bl tx2=(hd ts.tail.tail).txt):=C.2.2.1;obtain⟨rc0,rc1,rfz,_⟩:=n.rd.all;have d6:=n.lt
    go_upto_region 12 with fail
    refine ZP fun F f=>?_;have b9:Hid (RK F R (k1+1+1) ts.tail.tail.tail):=hid (by rw[f];exact n.step Om);have c3:Hid (w.grownBy F (some R.b)):=hid (by rw[f];exact ZA a0.out (Or.inl rfl) _);have d:Hid (BAt F w.heap.size [.string ByteArray.empty,.bool false,.string ByteArray.empty] 379):=hid (by rw[f];exact Z.other (by show w.heap.size≠R.b;omega) _);have c4:Hid (BAt F z.heap.size [Vi kd,Vi at_,.string ⟨#[61]⟩,Vi tv] 167):=hid (by rw[f];exact b6.other (by show z.heap.size≠R.b;have:=N.size;omega) _);have c5:Hid (BAt F i.heap.size [Vi 2,Vi at2,.string tx2,Vi tv2] 167):=hid (by rw[f];exact Y.other (by show i.heap.size≠R.b;omega) _);clear f rc0 rc1 rfz t0;have f0:=d.frozen 0;have f1:=d.frozen 1;have f2:=d.frozen 2;have c0:=d.cell 0;have c1:=d.cell 1;have c2:=d.cell 2;have d2:=c4.cell 2;have e2:=c5.cell 2;simp only[Zget]at c0 c1 c2 d2 e2;go_wp2;exact ret3 (r:=.tuple #[.agg #[.string x,.bool false,.string tx2],.nilIface]) (fun W s0 s1 s2=>by simp[results,results240,go_sem,s0,s1,s2]) rfl d.out ⟨_,_,_,_,rfl,by rw[b7.out];exact⟨rfl,⟨_,(RK.fresh H.out b9.out (Yac _) (fun j hj=>Zsf hj))⟩,HX.out,b8.out,rfl⟩,Ze4 c3.out (Yac _) _ _ _⟩
   ·have a1:((kd2:Int) != 2)=true:=by
     rw[bne_iff_ne];intro e;exact t ((Ze0 n.wf.head.2.2).2.2.1.1 (by have:=C.1;simp only at this;omega))
    have a2:Hid (ZV ts=.error (2,(hd ts.tail.tail).at_)):=hid (by rw[P.out,Zgb t];rfl)
    go_wp2_with fail
    refine(Zfi n.out).mono ?_;rintro e wE ⟨v,rfl,I,o⟩;obtain⟨fa,rfl⟩:=I.shape;have a:=hid (Z.below o);have a3:Hid (w.grownBy wE (some R.b)):=Zj a0.out (Zw o);clear o;have f0:=a.frozen 0;have f1:=a.frozen 1;have f2:=a.frozen 2;have c0:=a.cell 0;have c1:=a.cell 1;have c2:=a.cell 2;simp only[Zget]at c0 c1 c2;go_wp2;exact ret3 (r:=.tuple #[.agg #[.string ⟨#[]⟩,.bool false,.string ⟨#[]⟩],.iface 115 (Vp fa)]) (fun W s0 s1 s2=>by simp[results,results240,go_sem,s0,s1,s2]) rfl a.out ⟨_,_,_,_,rfl,by rw[a2.out];exact I.set3 a.out Dc _ _ _,Ze4 a3.out (Yac _) _ _ _⟩
  ·rw[show isT (bl ⟨#[61]⟩) (hd ts.tail)=false from Yce.2 G];have d0:=A.cell 0;have d1:=A.cell 1;have d2:=A.cell 2;have d3:=A.cell 3;simp only[Zget]at d0 d1 d2 d3
   go_wp2_with fail
   clear d0 d1 d2 d3;refine(Zf6 ht.out K.wf.head.1 K.wf.head.2.2 ⟨#[33,61]⟩ Dc Dc w3).mono ?_;rintro e w4 ⟨rfl,a4⟩;have b5:=hid (A.below a4);have b2:=hid (a9.below a4);have b1:Hid (w.grownBy w4 (some R.b)):=Zj b0.out (Zw a4);have p:Hid (RK w4 R k1 ts.tail):=K.below a4;clear a4 A a9 b0 K;by_cases hB:isT [33,61] (hd ts.tail)=true
   ·rw[show isT (bl ⟨#[33,61]⟩) (hd ts.tail)=true from hB];have b4:tx=⟨#[33,61]⟩:=ZcW (ht.2.2.1.trans (Zic hB));subst b4;have HD:Hid (¬((hd ts.tail).jj=0∨(hd ts.tail).jj=5)):=Zd3 hB;have P:Hid (ZV ts=bnd (ZH 3 ts.tail.tail) fun b r=>.ok (((hd ts).txt,b,true),r)):=hid (by unfold ZV;rw[Zfr J];show bnd (Zdc ts.tail) _=_;unfold Zdc;rw[if_pos hB];rfl);clear G hB;obtain⟨rc0,rc1,rfz,_⟩:=p.rd.all;have e3:=p.lt;have e4:=p.len
    go_wp2_with fail
    refine Zm fun L g=>?_;have B:Hid (RK L R (k1+1) ts.tail.tail):=hid (by rw[g];exact p.step HD.out);have Q:Hid (w.grownBy L (some R.b)):=hid (by rw[g];exact ZA b1.out (Or.inl rfl) _);have S:Hid (BAt L w.heap.size [.string ByteArray.empty,.bool false,.string ByteArray.empty] 379):=hid (by rw[g];exact b2.other (by show w.heap.size≠R.b;omega) _);have T:Hid (BAt L z.heap.size [Vi kd,Vi at_,.string ⟨#[33,61]⟩,Vi tv] 167):=hid (by rw[g];exact b5.other (by show z.heap.size≠R.b;have:=N.size;omega) _);clear g rc0 rc1 rfz;refine(Zee B.out).mono ?_;rintro e i ⟨⟨kd2,at2,tx2,tv2⟩,rfl,C,l⟩;have U:=hid (S.below l);have V:=hid (T.below l);have D:Hid (w.grownBy i (some R.b)):=Zj Q.out (Zw l);have X:Hid (RK i R (k1+1) ts.tail.tail):=B.below l;clear l B Q S T
    go_upto_region 9 with fail
    refine ZP fun M E=>?_;have m:BW i M:=by rw[E];exact Zbal
    have Y:Hid (BAt M i.heap.size [Vi kd2,Vi at2,.string tx2,Vi tv2] 167):=hid (by rw[E];exact Go.Deep.blk_alloc_new _ _);have Z:=hid (U.below m);have b6:=hid (V.below m);have a0:Hid (w.grownBy M (some R.b)):=Zj D.out (Zw m);have n:Hid (RK M R (k1+1) ts.tail.tail):=X.below m;have e5:R.b<i.heap.size:=by have:=D.size;omega
    clear E m U V X D;have t0:=Y.cell 0;simp only[Ycy]at t0;by_cases t:(hd ts.tail.tail).jj=3
    ·have a1:kd2=2:=by have:=C.1;rw[t]at this;exact this
     subst a1;have b7:Hid (ZV ts=.ok (((hd ts).txt,(hd ts.tail.tail).txt,true),ts.tail.tail.tail)):=hid (by rw[P.out,Zfr t];rfl);have b8:Hid (bl tx2=(hd ts.tail.tail).txt):=C.2.2.1;obtain⟨rc0,rc1,rfz,_⟩:=n.rd.all;have d6:=n.lt
     go_upto_region 12 with fail
     refine ZP fun F f=>?_;have b9:Hid (RK F R (k1+1+1) ts.tail.tail.tail):=hid (by rw[f];exact n.step Om);have c3:Hid (w.grownBy F (some R.b)):=hid (by rw[f];exact ZA a0.out (Or.inl rfl) _);have d:Hid (BAt F w.heap.size [.string ByteArray.empty,.bool false,.string ByteArray.empty] 379):=hid (by rw[f];exact Z.other (by show w.heap.size≠R.b;omega) _);have c4:Hid (BAt F z.heap.size [Vi kd,Vi at_,.string ⟨#[33,61]⟩,Vi tv] 167):=hid (by rw[f];exact b6.other (by show z.heap.size≠R.b;have:=N.size;omega) _);have c5:Hid (BAt F i.heap.size [Vi 2,Vi at2,.string tx2,Vi tv2] 167):=hid (by rw[f];exact Y.other (by show i.heap.size≠R.b;omega) _);clear f rc0 rc1 rfz t0;have f0:=d.frozen 0;have f1:=d.frozen 1;have f2:=d.frozen 2;have c0:=d.cell 0;have c1:=d.cell 1;have c2:=d.cell 2;have d2:=c4.cell 2;have e2:=c5.cell 2;simp only[Zget]at c0 c1 c2 d2 e2;go_wp2;exact ret3 (r:=.tuple #[.agg #[.string x,.bool true,.string tx2],.nilIface]) (fun W s0 s1 s2=>by simp[results,results240,go_sem,s0,s1,s2]) rfl d.out ⟨_,_,_,_,rfl,by rw[b7.out];exact⟨rfl,⟨_,(RK.fresh H.out b9.out (Yac _) (fun j hj=>Zsf hj))⟩,HX.out,b8.out,rfl⟩,Ze4 c3.out (Yac _) _ _ _⟩
    ·have a1:((kd2:Int) != 2)=true:=by
      rw[bne_iff_ne];intro e;exact t ((Ze0 n.wf.head.2.2).2.2.1.1 (by have:=C.1;simp only at this;omega))
     have a2:Hid (ZV ts=.error (2,(hd ts.tail.tail).at_)):=hid (by rw[P.out,Zgb t];rfl)
     go_wp2_with fail
     refine(Zfi n.out).mono ?_;rintro e wE ⟨v,rfl,I,o⟩;obtain⟨fa,rfl⟩:=I.shape;have a:=hid (Z.below o);have a3:Hid (w.grownBy wE (some R.b)):=Zj a0.out (Zw o);clear o;have f0:=a.frozen 0;have f1:=a.frozen 1;have f2:=a.frozen 2;have c0:=a.cell 0;have c1:=a.cell 1;have c2:=a.cell 2;simp only[Zget]at c0 c1 c2;go_wp2;exact ret3 (r:=.tuple #[.agg #[.string ⟨#[]⟩,.bool false,.string ⟨#[]⟩],.iface 115 (Vp fa)]) (fun W s0 s1 s2=>by simp[results,results240,go_sem,s0,s1,s2]) rfl a.out ⟨_,_,_,_,rfl,by rw[a2.out];exact I.set3 a.out Dc _ _ _,Ze4 a3.out (Yac _) _ _ _⟩
   ·rw[show isT (bl ⟨#[33,61]⟩) (hd ts.tail)=false from Yce.2 hB];have a2:Hid (ZV ts=.error (2,(hd ts.tail).at_)):=hid (by unfold ZV;rw[Zfr J];show bnd (Zdc ts.tail) _=_;unfold Zdc;rw[if_neg hB];unfold Zq;rw[if_neg G];rfl);clear G hB
    go_wp2_with fail
    refine(Zfi p.out).mono ?_;rintro e wE ⟨v,rfl,I,o⟩;obtain⟨fa,rfl⟩:=I.shape;have a:=hid (b2.below o);have a3:Hid (w.grownBy wE (some R.b)):=Zj b1.out (Zw o);clear o;have f0:=a.frozen 0;have f1:=a.frozen 1;have f2:=a.frozen 2;have c0:=a.cell 0;have c1:=a.cell 1;have c2:=a.cell 2;simp only[Zget]at c0 c1 c2;go_wp2;exact ret3 (r:=.tuple #[.agg #[.string ⟨#[]⟩,.bool false,.string ⟨#[]⟩],.iface 115 (Vp fa)]) (fun W s0 s1 s2=>by simp[results,results240,go_sem,s0,s1,s2]) rfl a.out ⟨_,_,_,_,rfl,by rw[a2.out];exact I.set3 a.out Dc _ _ _,Ze4 a3.out (Yac _) _ _ _⟩
 ·rw[Zgb J]at q;obtain⟨fa,rfl⟩:=q.shape;have I:Hid (Z9 w1 R (2,(hd ts).at_) _):=q.out;have HP:Hid (ZV ts=.error (2,(hd ts).at_)):=hid (by unfold ZV;rw[Zgb J];rfl);have f0:=s.frozen 0;have f1:=s.frozen 1;have f2:=s.frozen 2;have c0:=s.cell 0;have c1:=s.cell 1;have c2:=s.cell 2;simp only[Zget]at c0 c1 c2;clear q;go_wp2;exact ret3 (r:=.tuple #[.agg #[.string ⟨#[]⟩,.bool false,.string ⟨#[]⟩],.iface 115 (Vp fa)]) (fun W s0 s1 s2=>by simp[results,results240,go_sem,s0,s1,s2]) rfl s.out ⟨_,_,_,_,rfl,by rw[HP.out];exact I.set3 s.out Dc _ _ _,Ze4 c6.out (Yac _) _ _ _⟩
theorem Ze{α β:Type}{x:Out α}{f:α->List Tok->Out β}{z:β×List Tok}(h:bnd x f=.ok z):∃a t,x=.ok (a,t)/\f a t=.ok z:=by
 cases x with
 | error e=>cases h
 | ok y=>exact⟨y.1,y.2,rfl,h⟩
theorem Zmc{α:Type}{item:List Tok->Out α}{close:LB}(e:∀t z,item t=.ok z->z.2.length+1<=t.length):∀(n:Nat) (acc:List α) (ts:List Tok) (z:List α×List Tok),ZS item close n acc ts=.ok z->z.2.length+1<=ts.length
 | 0,_,_,_,h=>by cases h
 | n + 1, acc, ts, z, h => by
   have c:(if isT close (hd ts)then .ok (acc,ts.tail)else bnd (if acc.isEmpty then .ok ((),ts)else Zq [44] ts) fun _ r=>bnd (item r) fun a r=>ZS item close n (acc++[a]) r)=.ok z:=h;cases d:isT close (hd ts)
   · rw[d]at c
     obtain⟨_,t1,b,f⟩:=Ze (x:=if acc.isEmpty then .ok ((),ts)else Zq [44] ts) c;obtain⟨a,t2,g,i⟩:=Ze f
     have l1:t1.length<=ts.length:=by
       split at b
       · injection b with b;injection b with _ b;subst b;exact Yac _
       · have:=ZeB b;simp at this;omega
     have l2:=e t1 _ g;have l3:=Zmc e n _ _ _ i;simp at l2;omega
   · rw[d]at c
     injection c with c;subst c;have:=Zxj d;show ts.tail.length+1<=ts.length;omega
theorem Zxx(k:Nat)(a:k≠0):∀t z,ZH k t=.ok z->z.2.length+1<=t.length:=fun _ _ h=>Nat.le_of_eq (Zjr a h).1
theorem Zr2{z:Nd×List Tok}(h:selP ts=.ok z):z.2.length+1<=ts.length:=by
 unfold selP at h;obtain⟨a,t,c,b⟩:=Ze h
 have l1:t.length+1=ts.length:=by
  unfold ZdQ at c;split at c
  ·cases c
  ·exact(Zjr Dc c).1
 split at b
 ·obtain⟨cs,t2,e,d⟩:=Ze b;have l2:=Zmc Zos _ _ _ _ e;injection d with d;subst d;have:t.tail.length<=t.length:=by simp
  simp at l2 ⊢;omega
 ·injection b with b;subst b;simp;omega
theorem ZEH{o:Nat}(h:winP o ts=.ok z):z.2.length+1<=ts.length:=by
 unfold winP at h;obtain⟨_,t1,b,h⟩:=Ze h;obtain⟨_,t2,c,h⟩:=Ze h;obtain⟨_,t3,d,h⟩:=Ze h;obtain⟨_,t4,a,h⟩:=Ze h;obtain⟨_,t5,e,h⟩:=Ze h;obtain⟨_,t6,f,h⟩:=Ze h;injection h with h;subst h;have a1:=ZeB b;have a2:=Zr2 c;have a3:=ZeB d
 have a4:t4.length<=t3.length:=by
  unfold Zc2 at a;split at a
  ·injection a with a;injection a with _ a;subst a;simp
  ·cases a
 have a5:=ZeB e;have a6:=ZeB f;simp at a1 a2 a3 a5 a6 ⊢;omega
theorem Zs9(a:∀lv t d z,rec lv t d=.ok z->z.2.length+1<=t.length)(h:Zbu rec ts deep=.ok z):z.2.length+1<=ts.length:=by
 unfold Zbu at h;obtain⟨_,t1,b,h⟩:=Ze h;obtain⟨_,t2,c,h⟩:=Ze h;obtain⟨_,t3,e,h⟩:=Ze h;injection h with h;subst h;have a1:=ZeB b;have a2:=a _ _ _ _ c;have a3:=ZeB e;simp at a1 a2 a3 ⊢;omega
theorem ZwC(a:∀lv t d z,rec lv t d=.ok z->z.2.length+1<=t.length)(h:Zcb rec g ts deep=.ok z):z.2.length+1<=ts.length:=by
 unfold Zcb at h;obtain⟨_,t1,b,h⟩:=Ze h;obtain⟨_,t2,c,h⟩:=Ze h;obtain⟨_,t3,e,h⟩:=Ze h;obtain⟨_,t4,f,h⟩:=Ze h;injection h with h;subst h;have a1:=ZeB b;have a2:=ZeB c;have a3:=Zmc (Zxx 2 Dc) _ _ _ _ e;have a4:=Zs9 a f;simp at a1 a2 a3 a4 ⊢;omega
theorem Zw4(a:∀lv t d z,rec lv t d=.ok z->z.2.length+1<=t.length)(h:Zbw rec ts deep=.ok z):z.2.length+1<=ts.length:=by
 unfold Zbw at h;have e:ts.tail.length<=ts.length:=by simp
 split at h
 ·rename_i c;injection h with h;subst h;cases ts with
  | nil=>exact absurd c Dc
  | cons t r=>exact Yac _
 ·split at h
  ·obtain⟨_,t1,b,h⟩:=Ze h;injection h with h;subst h;have:=a _ _ _ _ b;simp at this ⊢;omega
  ·split at h
   ·exact Zs9 a h
   ·split at h
    ·have:=ZwC a h;omega
    ·split at h
     ·have:=ZEH h;omega
     ·obtain⟨_,t1,b,h⟩:=Ze h;injection h with h;subst h;exact Zr2 b
theorem Zg1:∀(n:Nat) (m:Bool) (lv:Nat) (a:Tr) (ts:List Tok) (deep:Nat) (z:Tr×List Tok),Zs n m lv a ts deep=.ok z->z.2.length+(if m then 0 else 1)<=ts.length
 | 0,_,_,_,_,_,_,h=>by cases h
 | n + 1, false, lv, a, ts, deep, z, h => by
   have f:∀lv t d z,Zs n false lv .nil t d=.ok z->z.2.length+1<=t.length:=fun lv t d z h=>Zg1 n false lv .nil t d z h;unfold Zs at h;split at h
   · unfold Zb9 at h
     split at h
     · split at h
       · cases h
       · exact Zw4 f h
     · cases h
   · obtain⟨b,t1,c,e⟩:=Ze h
     have l1:=f _ _ _ _ c;have l2:=Zg1 n true lv b t1 deep z e;simp at l1 l2 ⊢;omega
 | n + 1, true, lv, a, ts, deep, z, h => by
   unfold Zs at h;split at h
   · injection h with h;subst h;simp
   · obtain⟨b,t1,c,e⟩:=Ze h
     have l1:=Zg1 n false _ _ _ _ _ c;have l2:=Zg1 n true lv _ t1 deep z e;simp at l1 l2 ⊢;omega
def ZJU(w:World)(base:Nat)(p:PV)(ns:List (LB)):Prop:=∃bs:List BA,w.ownsRow base 9 1 (.slice p.ba p.bn p.bc) bs.length (bs.map .string)/\bs.map bl=ns
def ZKf(w:World)(nd:Nd)(p:PV):Prop:=p.k=nd.jj/\p.n=nd.n/\p.op=nd.op/\bl p.nm=nd.name/\ZJq w 0 p nd.jn/\ZJU w 0 p nd.by_
def cntT:Tr->Nat
 | .nil=>0
 | .node _ _ _ l r=>cntT l+cntT r+1
def Rep(w:World)(xs:List Value):Tr->Nat->Prop
 | .nil,_=>True
 | .node _ _ nd l r,i=>∃(p:PV) (a b:Nat),(xs.drop (i*8)).take 8=p.cells/\ZKf w nd p/\p.a=a/\p.b=b/\a<=i/\b<=i/\Rep w xs l a/\Rep w xs r b
theorem ZKR(p:PV):p.cells.length=8:=rfl
theorem ZKC(f:QAt w b q)(c:w.ownsRow 0 92 8 pv n xs)(g:Kept b pv w pv' w')
   {e:TypeId} {size:Nat}  {m:Nat}  (h:w.ownsRow base e size v m ys) (i:239≠e) (j:e≠92):w'.ownsRow base e size v m ys:=by
 refine ZdA h (fun k a=>g.block k (h.lt k a).2 ?_ ?_)
 ·rintro rfl;exact Zcx h f i a.symm
 ·rw[<-a];rcases ZmC h c j with d|d
  ·rw[d]at a;cases a
  ·exact d
theorem ZJq.kept(c:QAt w b q)(a:w.ownsRow 0 92 8 pv n xs)(d:Kept b pv w pv' w'){p:PV}{cs:List (LB×LB×Bool)}(h:ZJq w base p cs):ZJq w' base p cs:=by
 obtain⟨qs,e,f⟩:=h;exact⟨qs,ZKC c a d e Dc Dc,f⟩
theorem ZJU.kept(c:QAt w b q)(a:w.ownsRow 0 92 8 pv n xs)(d:Kept b pv w pv' w'){p:PV}{ns:List (LB)}(h:ZJU w base p ns):ZJU w' base p ns:=by
 obtain⟨qs,e,f⟩:=h;exact⟨qs,ZKC c a d e Dc Dc,f⟩
theorem ZNL{l:List Value}(h:(xs.drop (i*8)).take 8=l)(a:l.length=8):((xs++ys).drop (i*8)).take 8=l:=by
 have b:i*8+8<=xs.length:=by
  have:=congrArg List.length h;rw[Ya7,Ybv,a]at this;omega
 rw[Ygb Om,List.take_append_of_le_length (by rw[Ybv];omega)];exact h
theorem Rep.kept(e:QAt w b q)(d:w.ownsRow 0 92 8 pv n xs)(f:Kept b pv w pv' w')(ys:List Value):∀(t:Tr) (i:Nat),Rep w xs t i->Rep w' (xs++ys) t i
 | .nil,_,_=>trivial
 | .node _ _ nd l r, i, h => by
   obtain⟨p,a,c,g,⟨g1,g2,g3,g4,g5,g6⟩,j,k,m,o,s,u⟩:=h;exact⟨p,a,c,ZNL g (ZKR p),⟨g1,g2,g3,g4,g5.kept e d f,g6.kept e d f⟩,j,k,m,o,Rep.kept e d f ys l a s,Rep.kept e d f ys r c u⟩
theorem ZNw(h:xs.length=n*8)(p:PV):((xs++p.cells).drop (n*8)).take 8=p.cells:=by
 rw[<-h,List.drop_left];rfl
theorem QErr.factor{e p:Nat}(h:QErr w b pv e p deep) :
  CP 289 #[Vp b] w fun r u=>r=.returned (Vi 0)/\u=w:=by
 obtain⟨q,a,c,d,f,g,i⟩:=h;obtain⟨c0,c1,c2,c3,c4,c5,c6,c7,c8⟩:=a.all;have j:((q.e:Int) != 0)=true:=by rw[bne_iff_ne];omega
 have H:Hid (QErr w b pv e p deep):=⟨q,a,c,d,f,g,i⟩
 clear a c d f g i;generalize l:((q.k:Int) == 1)=x1;generalize m:((q.k:Int) == 2)=x2;go_enter func289,ntmps289
 go_wp2_with fail
 refine(QErr.is H.out _).mono ?_;rintro r u ⟨rfl,rfl⟩
 go_wp2_with fail
 refine(QErr.is H.out _).mono ?_;rintro r u ⟨rfl,rfl⟩
 go_wp2_with fail
 refine(QErr.is H.out _).mono ?_;rintro r u ⟨rfl,rfl⟩
 go_wp2_with fail
 refine(QErr.is H.out _).mono ?_;rintro r u ⟨rfl,rfl⟩;cases x1 <;> cases x2
 all_goals
  go_wp2_with fail
  refine(QErr.fail H.out _).mono ?_;rintro r u ⟨rfl,rfl⟩;go_wp2;go_ret;exact⟨rfl,rfl⟩
theorem QErr.term{e p:Nat}(h:QErr w b pv e p deep) :
  CP 263 #[Vp b] w fun r u=>r=.returned (Vi 0)/\u=w:=by
 have H:Hid (QErr w b pv e p deep):=h;clear h;go_enter func263,ntmps263
 go_wp2_with fail
 refine(QErr.factor H.out).mono ?_;rintro r u ⟨rfl,rfl⟩;go_wp2
 go_loop [3] (fun v=>v=Vi 0) (fun _=>0)
 case atStart=>rfl
 case round=>
  subst hrel
  go_wp2_with fail
  refine(QErr.is H.out _).mono ?_;rintro r u ⟨rfl,rfl⟩
  go_wp2_with fail
  refine(QErr.is H.out _).mono ?_;rintro r u ⟨rfl,rfl⟩;go_wp2;go_ret;exact⟨rfl,rfl⟩
theorem QErr.sum{e p:Nat}(h:QErr w b pv e p deep) :
  CP 228 #[Vp b] w fun r u=>r=.returned (Vi 0)/\u=w:=by
 have H:Hid (QErr w b pv e p deep):=h;clear h;go_enter func228,ntmps228
 go_wp2_with fail
 refine(QErr.term H.out).mono ?_;rintro r u ⟨rfl,rfl⟩;go_wp2
 go_loop [3] (fun v=>v=Vi 0) (fun _=>0)
 case atStart=>rfl
 case round=>
  subst hrel
  go_wp2_with fail
  refine(QErr.is H.out _).mono ?_;rintro r u ⟨rfl,rfl⟩
  go_wp2_with fail
  refine(QErr.is H.out _).mono ?_;rintro r u ⟨rfl,rfl⟩;go_wp2;go_ret;exact⟨rfl,rfl⟩
theorem QErr.query{e p:Nat}(h:QErr w b pv e p deep) :
  CP 176 #[Vp b] w fun r u=>r=.returned (Vi 0)/\u=w:=by
 have H:Hid (QErr w b pv e p deep):=h;clear h;go_enter func176,ntmps176
 go_wp2_with fail
 refine(QErr.sum H.out).mono ?_;rintro r u ⟨rfl,rfl⟩;go_wp2
 go_loop [3] (fun v=>v=Vi 0) (fun _=>0)
 case atStart=>rfl
 case round=>
  subst hrel
  go_wp2_with fail
  refine(QErr.is H.out _).mono ?_;rintro r u ⟨rfl,rfl⟩;go_wp2;go_ret;exact⟨rfl,rfl⟩

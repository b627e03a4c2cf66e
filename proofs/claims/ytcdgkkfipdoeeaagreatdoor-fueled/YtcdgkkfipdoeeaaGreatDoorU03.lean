/- Parts. -/
import Derived.Test.YtcdgkkfipdoeeaaGreatDoorU02
set_option linter.all false
set_option maxRecDepth 100000
set_option maxHeartbeats 16000000
namespace Go.Proofs.YtcdgkkfipdoeeaaGreatDoor
open Go.RowKit LS Go.Proofs.Tryz
variable {sy:Addr}{s:BA}{x:Bool}{l:LB}{ps:List PTok}{ts:List Tok}{c:List Value}{a at_ b cp g k:Nat}{e fr:Nat×Nat}{p:PTok}{P:Program}{t:Tok}{v y z:Value}{w w' w0:World}
theorem RD.step(h:RD w b g cp ps k)(c:k+1<ps.length):RD (w.setCell ⟨b,1,none⟩ (Vi ((k+1:Nat):Int))) b g cp ps (k+1):=by
 have a:b≠g:=by
  rintro rfl;exact Zcx h.own h.cells Dc rfl
 refine⟨?_,ZdA h.own (fun j d=>Go.Deep.blk_setCell_other _ _ _ _ ?_),c⟩
 ·have:=h.cells;simp only[World.setCell,Ybn,this,if_true,Ybf];rfl
 ·have:j=g:=by simpa [Value.ownBlock] using d.symm
  rw[this];exact fun e=>a e.symm
def ZY(t:PTok)(s:BA):Bool:=((t.kd:Int) == 3) && (t.tx.toList == s.toList)
def ZdF(t:PTok)(s:BA):Bool:=((t.kd:Int) == 1) && (t.tx.toList == s.toList)
def Took(w':World)(b g cp:Nat)(ps:List PTok)(k:Nat)(sy:Addr)(at_:Int)(ok:Bool)(v:Value):Prop:=(ok=true/\v=.nilIface/\RD w' b g cp ps (k+1))∨(ok=false/\ZM w' v at_ sy/\RD w' b g cp ps k)
theorem ZC5(h:RD w b g cp ps k)(s:BA)(x:ZY (ps[k]'h.lt) s=true->k+1<ps.length)(G:ps.length<=6002)(i:w.cell? ⟨1,0,none⟩=some (.iface 432 (.pointer (some sy)))) :
  CP 166 #[Vp b,.string s] w fun e u=>∃v,e=.returned v/\Hid (Took u b g cp ps k sy (ps[k]'h.lt).at_ (ZY (ps[k]'h.lt) s) v)/\w.grownBy u (some b):=by
 have H:=hid h;have F:=h.lt;have A:1<w.heap.size:=Yai _ _ i;obtain⟨t,m⟩:∃t,t=ps[k]'h.lt:=⟨_,rfl⟩
 have B:Hid (∀D:k<ps.length,ps[k]'D=t):=fun _=>m.symm;rw[<-m]at x ⊢;clear m h;go_enter func166,ntmps166
 go_wp2_with fail
 refine(ZiF H.out).mono ?_;rintro e I ⟨rfl,j⟩;rw[B];have d:=hid j;clear j
 go_wp2_with fail
 refine(ZlS t s _).mono ?_;rintro e z ⟨rfl,l⟩;have a:=hid (d.trans (l.mono d.size));have c:=hid (RD.below H a);have n:=(a.cell A).trans i;obtain⟨c0,c1,fz,_⟩:=c.all;rw[show(((t.kd:Int) == 3) && (t.tx.toList == s.toList))=ZY t s from rfl];clear l d;cases o:ZY t s
 ·have p:=hid o
  go_wp2_with fail
  refine(ZiZ c.out n).mono ?_;rintro e J ⟨v,rfl,q,f⟩;rw[B]at q;have E:Hid (Took _ b g _ _ k _ _ _ v):=.inr ⟨rfl,q,RD.below c f⟩;have r:Hid (w.grownBy _ (some b)):=Zw (a.trans (f.mono a.size));clear q f;go_wp2;go_ret;exact⟨_,rfl,by rwa [p.out],r⟩
 ·have C:=x o;have p:=hid o;have E:Hid (Took _ b g _ _ k sy t.at_ _ _):=.inl ⟨rfl,rfl,c.step C⟩;have r:Hid (w.grownBy (z.setCell ⟨b,1,none⟩ (Vi ((k+1:Nat)))) (some b)):=ZA (Zw a) (.inl rfl) _;go_wp2;go_ret;exact⟨_,rfl,by rwa [p.out],r⟩
theorem ZC7(h:RD w b g cp ps k)(s:BA)(x:ZdF (ps[k]'h.lt) s=true->k+1<ps.length)(G:ps.length<=6002)(i:w.cell? ⟨1,0,none⟩=some (.iface 432 (.pointer (some sy)))) :
  CP 167 #[Vp b,.string s] w fun e u=>∃v,e=.returned v/\Hid (Took u b g cp ps k sy (ps[k]'h.lt).at_ (ZdF (ps[k]'h.lt) s) v)/\w.grownBy u (some b):=by
 have H:=hid h;have F:=h.lt;have A:1<w.heap.size:=Yai _ _ i;obtain⟨t,m⟩:∃t,t=ps[k]'h.lt:=⟨_,rfl⟩
 have B:Hid (∀D:k<ps.length,ps[k]'D=t):=fun _=>m.symm;rw[<-m]at x ⊢;clear m h;go_enter func167,ntmps167
 go_wp2_with fail
 refine(ZiF H.out).mono ?_;rintro e I ⟨rfl,j⟩;rw[B];have d:=hid j;clear j
 go_wp2_with fail
 refine(Zp0 t s _).mono ?_;rintro e z ⟨rfl,l⟩;have a:=hid (d.trans (l.mono d.size));have c:=hid (RD.below H a);have n:=(a.cell A).trans i;obtain⟨c0,c1,fz,_⟩:=c.all;rw[show(((t.kd:Int) == 1) && (t.tx.toList == s.toList))=ZdF t s from rfl];clear l d;cases o:ZdF t s
 ·have p:=hid o
  go_wp2_with fail
  refine(ZiZ c.out n).mono ?_;rintro e J ⟨v,rfl,q,f⟩;rw[B]at q;have E:Hid (Took _ b g _ _ k _ _ _ v):=.inr ⟨rfl,q,RD.below c f⟩;have r:Hid (w.grownBy _ (some b)):=Zw (a.trans (f.mono a.size));clear q f;go_wp2;go_ret;exact⟨_,rfl,by rwa [p.out],r⟩
 ·have C:=x o;have p:=hid o;have E:Hid (Took _ b g _ _ k sy t.at_ _ _):=.inl ⟨rfl,rfl,c.step C⟩;have r:Hid (w.grownBy (z.setCell ⟨b,1,none⟩ (Vi ((k+1:Nat)))) (some b)):=ZA (Zw a) (.inl rfl) _;go_wp2;go_ret;exact⟨_,rfl,by rwa [p.out],r⟩
def ZeX(t:PTok):Bool:=(t.kd:Int) == 1
theorem ZC6(h:RD w b g cp ps k)(r:ZeX (ps[k]'h.lt)=true->k+1<ps.length)(N:ps.length<=6002)(l:w.cell? ⟨1,0,none⟩=some (.iface 432 (.pointer (some sy)))) :
  CP 169 #[Vp b] w fun e u=>∃(x:BA) (v:Value),e=.returned (.tuple #[.string x,v])/\Hid (Took u b g cp ps k sy (ps[k]'h.lt).at_ (ZeX (ps[k]'h.lt)) v/\(ZeX (ps[k]'h.lt)=true->x=(ps[k]'h.lt).tx))/\w.grownBy u (some b):=by
 have H:=hid h;have K:=h.lt;have s:1<w.heap.size:=Yai _ _ l;obtain⟨t,n⟩:∃t,t=ps[k]'h.lt:=⟨_,rfl⟩
 have z:Hid (∀G:k<ps.length,ps[k]'G=t):=fun _=>n.symm;rw[<-n]at r ⊢;clear n h;go_enter func169,ntmps169
 go_wp2_with fail
 refine(ZiF H.out).mono ?_;rintro e a ⟨rfl,c⟩;rw[z];obtain⟨kd,at_,tx,v⟩:=t;obtain⟨W,o⟩:∃W,W=a.alloc (.cells #[Vi kd,Vi at_,.string tx,Vi v] 74):=⟨_,rfl⟩
 have A:=hid o;have B:W.heap[a.heap.size]?=some (.cells #[.int _ _,.int _ _,.string _,.int _ v] _ _):=o▸bnw;have d:Hid _:=o▸c.alloc c.size _;have f:=hid (RD.below H d);have p:=(d.cell s).trans l;obtain⟨c0,c1,fz,L,_⟩:=f.all;have M:=Yaw (Yae.1 H.cells).1 c.size
 have k2:(W.setCell ⟨b,1,none⟩ (Vi ((k+1:Nat)))).cell? ⟨a.heap.size,2,none⟩=some (.string tx):=by
  have:(W.setCell ⟨b,1,none⟩ (Vi ((k+1:Nat)))).heap[a.heap.size]?=W.heap[a.heap.size]?:=Go.Deep.blk_setCell_other _ _ _ _ (by show a.heap.size≠b;omega);unfold World.cell?;rw[this,B];rfl
 have C:Hid (k+1<ps.length->Took ((a.setCell _ _).alloc (.cells #[Vi kd,Vi at_,.string tx,Vi v] 74)) b g _ _ k sy at_ _ _):=fun i=>.inl ⟨rfl,rfl,(RD.step (RD.below H c) i).below Zbal⟩;have D:Hid (w.grownBy ((a.setCell ⟨b,1,none⟩ (Vi ((k+1:Nat)))).alloc (.cells #[Vi kd,Vi at_,.string tx,Vi v] 74)) (some b)):=ZbR (ZA (Zw c) (.inl rfl) _) _;generalize j:((kd:Int) == 1)=nb at *
 cases nb
 ·have q:Hid (ZeX ⟨kd,at_,tx,v⟩=false):=j;have E:((kd:Int) != 1)=true:=by rw[bne,j];rfl
  go_wp2_with fail
  rw[<-A];refine(ZiZ f.out p).mono ?_;rintro e O ⟨v3,rfl,F,m⟩;rw[z]at F;have I:Hid (Took _ b g _ _ k _ at_ _ _):=.inr ⟨rfl,F,RD.below f m⟩;have J:Hid (w.grownBy _ (some b)):=Zw (d.trans (m.mono d.size));go_wp2;go_ret2;exact⟨_,_,rfl,q.out▸⟨I.out,fun h=>(by cases h)⟩,J⟩
 ·have q:Hid (ZeX ⟨kd,at_,tx,v⟩=true):=j;have E:((kd:Int) != 1)=false:=by rw[bne,j];rfl
  have i:=r j;rw[A]at k2 c0 c1 fz;go_wp2;go_ret2;exact⟨_,_,rfl,by rw[q];exact⟨C i,fun _=>rfl⟩,D⟩
def opOf(t:PTok):Option Nat:=if ZdF t ⟨#[111,114]⟩then some 0 else if ZY t ⟨#[43]⟩then some 1 else if ZY t ⟨#[45]⟩then some 2 else if ZY t ⟨#[42]⟩then some 3 else if ZY t ⟨#[47]⟩then some 4 else none
def TAt(w:World)(a:Nat)(t:PTok):Prop:=w.heap[a]?=some (.cells #[Vi t.kd,Vi t.at_,.string t.tx,Vi t.v] 74 (0,0))
theorem TAt.all{t:PTok}(h:TAt w a t):w.cell? ⟨a,0,none⟩=some (Vi t.kd)/\w.cell? ⟨a,1,none⟩=some (Vi t.at_)/\w.cell? ⟨a,2,none⟩=some (.string t.tx)/\w.cell? ⟨a,3,none⟩=some (Vi t.v):=by
 unfold TAt at h;refine⟨?_,?_,?_,?_⟩ <;> simp[World.cell?,h]
theorem TAt.below{t:PTok}(h:TAt w a t)(c:BW w w'):TAt w' a t:=(c.block a (Yae.1 h).1).trans h
theorem ZgT(t:PTok)(f:ZY t s=x)(w0:World)(g:TAt w a t)(d:BW w0 w) :
  CP 102 #[.agg #[Vi t.kd,Vi t.at_,.string t.tx,Vi t.v],.string s] w fun e u=>e=.returned (.bool x)/\Hid (TAt u a t)/\Hid (BW w0 u):=by
 subst f;refine(ZlS t s w).mono ?_;rintro e u ⟨rfl,c⟩;exact⟨rfl,g.below c,d.trans (c.mono d.size)⟩
theorem ZEP(t:PTok)(f:ZdF t s=x)(w0:World)(g:TAt w a t)(d:BW w0 w) :
  CP 109 #[.agg #[Vi t.kd,Vi t.at_,.string t.tx,Vi t.v],.string s] w fun e u=>e=.returned (.bool x)/\Hid (TAt u a t)/\Hid (BW w0 u):=by
 subst f;refine(Zp0 t s w).mono ?_;rintro e u ⟨rfl,c⟩;exact⟨rfl,g.below c,d.trans (c.mono d.size)⟩
theorem ZzQ(t:PTok) :
  CP 52 #[.agg #[Vi t.kd,Vi t.at_,.string t.tx,Vi t.v]] w fun e u=>e=.returned (.tuple #[Vi ((opOf t).getD 0:Nat),.bool (opOf t).isSome])/\BW w u:=by
 obtain⟨b1,l⟩:∃x,ZdF t ⟨#[111,114]⟩=x:=⟨_,rfl⟩
 obtain⟨b2,m⟩:∃x,ZY t ⟨#[43]⟩=x:=⟨_,rfl⟩
 obtain⟨b3,n⟩:∃x,ZY t ⟨#[45]⟩=x:=⟨_,rfl⟩
 obtain⟨b4,o⟩:∃x,ZY t ⟨#[42]⟩=x:=⟨_,rfl⟩
 obtain⟨b5,p⟩:∃x,ZY t ⟨#[47]⟩=x:=⟨_,rfl⟩
 have s:Hid (opOf t=if b1 then some 0 else if b2 then some 1 else if b3 then some 2 else if b4 then some 3 else if b5 then some 4 else none):=hid (by unfold opOf;rw[l,m,n,o,p]);have H:Hid (ZdF t _=b1/\ZY t _=b2/\ZY t _=b3/\ZY t _=b4/\ZY t _=b5):=⟨l,m,n,o,p⟩
 have q:Hid (TAt _ w.heap.size t):=bnw;have r:Hid (Below _ w (w.alloc (.cells #[Vi t.kd,Vi t.at_,.string t.tx,Vi t.v] 74))):=Zbal;rw[s];go_enter func52,ntmps52
 go_wp2_with fail
 refine(ZEP t H.1 w q r).mono ?_;rintro e B ⟨rfl,a,c⟩;cases b1
 ·obtain⟨k0,k1,k2,k3⟩:=TAt.all a
  go_wp2_with fail
  refine(ZgT t H.2.1 w a c).mono ?_;rintro e z ⟨rfl,d,f⟩;cases b2
  ·obtain⟨k0,k1,k2,k3⟩:=TAt.all d
   go_wp2_with fail
   refine(ZgT t H.2.2.1 w d f).mono ?_;rintro e C ⟨rfl,g,h⟩;cases b3
   ·obtain⟨k0,k1,k2,k3⟩:=TAt.all g
    go_wp2_with fail
    refine(ZgT t H.2.2.2.1 w g h).mono ?_;rintro e D ⟨rfl,i,j⟩;cases b4
    ·obtain⟨k0,k1,k2,k3⟩:=TAt.all i
     go_wp2_with fail
     refine(ZgT t H.2.2.2.2 w i j).mono ?_;rintro e E ⟨rfl,A,k⟩;cases b5
     ·go_wp2;go_ret2;exact⟨rfl,k⟩
     ·go_wp2;go_ret2;exact⟨rfl,k⟩
    ·go_wp2;go_ret2;exact⟨rfl,j⟩
   ·go_wp2;go_ret2;exact⟨rfl,h⟩
  ·go_wp2;go_ret2;exact⟨rfl,f⟩
 ·go_wp2;go_ret2;exact⟨rfl,c⟩
def Zci:List PTok->List Tok->Prop
 | [],[]=>True
 | p::ps,t::ts=>Zdf p t/\Zci ps ts
 | _,_=>False
theorem Zci.snoc:∀ {ps:List PTok} {ts:List Tok} {p:PTok} {t:Tok},Zci ps ts->Zdf p t->Zci (ps++[p]) (ts++[t])
 | [],[],_,_,_,h=>⟨h,trivial⟩
 | _::ps,_::ts,_,_,h,a=>⟨h.1,Zci.snoc h.2 a⟩
 | [],_::_,_,_,h,_=>h.elim
 | _::_,[],_,_,h,_=>h.elim
theorem Zci.length:∀ {ps:List PTok} {ts:List Tok},Zci ps ts->ps.length=ts.length
 | [],[],_=>rfl
 | _::ps,_::ts,h=>by rw[Yaj,Yaj,Zci.length h.2]
 | [],_::_,h=>h.elim
 | _::_,[],h=>h.elim
theorem Zx1{n i:Nat}{e:Nat}(a:Zk l i=(t,e))(c:¬(t.jk=0∨t.jk=5)):ZN l (n+1) i=t::ZN l n e:=by
 show(if (Zk l i).1.jk=0∨(Zk l i).1.jk=5 then [(Zk l i).1] else (Zk l i).1::ZN l n (Zk l i).2)=_
 simp_all
theorem Zx0{n i:Nat}{e:Nat}(a:Zk l i=(t,e))(c:t.jk=0∨t.jk=5):ZN l (n+1) i=[t]:=by
 show(if (Zk l i).1.jk=0∨(Zk l i).1.jk=5 then [(Zk l i).1] else (Zk l i).1::ZN l n (Zk l i).2)=_
 simp_all
def Zct(s:BA)(ps:List PTok)(at_:Nat):Prop:=at_<=s.size/\ps.length<=at_/\∃ts m,ZN (bl s) ((bl s).length+1) 0=ts++ZN (bl s) m at_/\s.size+1<=m+at_/\Zci ps ts
theorem Zct.start(s:BA):Zct s [] 0:=⟨Yag _,Yac _,[],(bl s).length+1,rfl,by rw[Zd];omega,trivial⟩
theorem Zct.skip(h:Zct s ps at_)(a:at_<s.size)(c:s[at_]=32):Zct s ps (at_+1):=by
 obtain⟨_,f,ts,m,d,g,e⟩:=h;refine⟨a,by omega,ts,m,?_,by omega,e⟩;rw[d]
 congr 1
 cases m with
 | zero=>rfl
 | succ m=>
  show(if (Zk (bl s) at_).1.jk=0∨(Zk (bl s) at_).1.jk=5 then [(Zk (bl s) at_).1] else (Zk (bl s) at_).1::ZN (bl s) m (Zk (bl s) at_).2)=_;rw[Zx9 s c];rfl
theorem Zct.token(h:Zct s ps at_){e:Nat}(d:Zk (bl s) at_=(t,e))(f:¬(t.jk=0∨t.jk=5))(i:Zdf p t):Zct s (ps++[p]) e:=by
 obtain⟨l,n,ts,m,j,o,k⟩:=h;have c:=Zig _ _ (by rwa [Zd]);rw[d]at c;have g:=c.1 (fun h=>f (.inl h));have a:=c.2;rw[Zd]at a;simp only at g a;obtain⟨m',rfl⟩:∃m',m=m'+1:=⟨m - 1,by omega⟩
 refine⟨a,by simp;omega,ts++[t],m',?_,by omega,k.snoc i⟩;rw[j,Zx1 d f,Yan];rfl
theorem Zct.done(h:Zct s ps at_){e:Nat}(a:Zk (bl s) at_=(t,e))(c:t.jk=0∨t.jk=5)(d:Zdf p t):Zci (ps++[p]) (ZN (bl s) ((bl s).length+1) 0):=by
 obtain⟨i,j,ts,m,f,k,g⟩:=h;obtain⟨m',rfl⟩:∃m',m=m'+1:=⟨m - 1,by omega⟩
 rw[f,Zx0 a c];exact g.snoc d
theorem ZqF(s:BA):Zk (bl s) s.size=(⟨0,[],s.size⟩,s.size):=by
 unfold Zk;have hd:(bl s).drop s.size=[]:=Yb8 (by constructor<;>omega);rw[hd];show lexJ (bl s) s.size=_;unfold lexJ;rw[hd]
theorem Zx2{h:k<s.size}(hd:ZC s[k]=true):Zk (bl s) k=(if (ZQ 1000000000 (((bl s).drop k).take (run ZC ((bl s).drop k)))).isSome then ⟨1,((bl s).drop k).take (run ZC ((bl s).drop k)),k⟩else ⟨5,[],k⟩,k+run ZC ((bl s).drop k)):=by
 have a:s[k]≠32:=by rintro e;rw[e]at hd;revert hd;decide
 rw[ZjD s k h a];unfold lexC;rw[if_pos hd,<-ZdW s k h]
theorem Zx3{h:k<s.size}(hd:ZC s[k]=false)(a:Zp s[k]=true):Zk (bl s) k=(if 8<run Zp ((bl s).drop k)then ⟨5,[],k⟩else ⟨2,((bl s).drop k).take (run Zp ((bl s).drop k)),k⟩,k+run Zp ((bl s).drop k)):=by
 have c:s[k]≠32:=by rintro e;rw[e]at a;revert a;decide
 rw[ZjD s k h c];unfold lexC;rw[if_neg (by simp_all),if_pos a,<-ZdW s k h]
theorem ZdY(s:BA)(l:LB):(s.toList == l)=decide (l=bl s):=by
 rw[Zbt,Ybh,beq_iff_eq,decide_eq_true_iff];exact⟨fun h=>h.symm,fun h=>h.symm⟩
theorem ZlO (w : LB) : ∀ l : List (LB), (idx w l).isSome = l.any (fun x => decide (x = w))
  | []=>rfl
  | x :: l => by
    unfold idx;rw[List.any_cons];by_cases h:x=w
    · rw[if_pos h];simp[h]
    · rw[if_neg h,Option.isSome_map,ZlO w l];simp[h]
theorem ZpX(s:BA)(w:World) :
  CP 104 #[.string s] w fun e u=>e=.returned (.bool (idx (bl s) ZW).isSome)/\u=w:=by
 have e1:=ZdY s [115,117,109];have e2:=ZdY s [109,97,120];have e3:=ZdY s [109,105,110];have e4:=ZdY s [99,111,117,110,116];have a:Hid ((idx (bl s) ZW).isSome=(decide _ || (decide _ || (decide _ || (decide _ || false))))):=ZlO _ _;rw[a];generalize decide ([115,117,109]=bl s)=b1 at *
 generalize decide ([109,97,120]=bl s)=b2 at *
 generalize decide ([109,105,110]=bl s)=b3 at *
 generalize decide ([99,111,117,110,116]=bl s)=b4 at *
 cases b1
 ·cases b2
  ·cases b3
   ·cases b4
    ·go_enter func104,ntmps104;go_wp2;go_ret;exact⟨rfl,rfl⟩
    ·go_enter func104,ntmps104;go_wp2;go_ret;exact⟨rfl,rfl⟩
   ·go_enter func104,ntmps104;go_wp2;go_ret;exact⟨rfl,rfl⟩
  ·go_enter func104,ntmps104;go_wp2;go_ret;exact⟨rfl,rfl⟩
 ·go_enter func104,ntmps104;go_wp2;go_ret;exact⟨rfl,rfl⟩
theorem ZpZ(s:BA)(w:World) :
  CP 106 #[.string s] w fun e u=>e=.returned (.bool (idx (bl s) Z0).isSome)/\u=w:=by
 have e1:=ZdY s [116,111,116,97,108];have e2:=ZdY s [112,101,97,107];have e3:=ZdY s [108,111,119];have e4:=ZdY s [115,105,122,101];have e5:=ZdY s [114,105,115,101];have a:Hid ((idx (bl s) Z0).isSome=(decide _ || (decide _ || (decide _ || (decide _ || (decide _ || false)))))):=ZlO _ _;rw[a];generalize decide ([116,111,116,97,108]=bl s)=b1 at *
 generalize decide ([112,101,97,107]=bl s)=b2 at *
 generalize decide ([108,111,119]=bl s)=b3 at *
 generalize decide ([115,105,122,101]=bl s)=b4 at *
 generalize decide ([114,105,115,101]=bl s)=b5 at *
 cases b1
 ·cases b2
  ·cases b3
   ·cases b4
    ·cases b5
     ·go_enter func106,ntmps106;go_wp2;go_ret;exact⟨rfl,rfl⟩
     ·go_enter func106,ntmps106;go_wp2;go_ret;exact⟨rfl,rfl⟩
    ·go_enter func106,ntmps106;go_wp2;go_ret;exact⟨rfl,rfl⟩
   ·go_enter func106,ntmps106;go_wp2;go_ret;exact⟨rfl,rfl⟩
  ·go_enter func106,ntmps106;go_wp2;go_ret;exact⟨rfl,rfl⟩
 ·go_enter func106,ntmps106;go_wp2;go_ret;exact⟨rfl,rfl⟩
theorem Zur(s:BA)(w:World) :
  CP 171 #[.string s] w fun e u=>e=.returned (.bool (!decide (wOr=bl s) && !decide (wBy=bl s) && !(idx (bl s) ZW).isSome && !(idx (bl s) Z0).isSome))/\u=w:=by
 have e1:=ZdY s [111,114];have e2:=ZdY s [98,121];have a:=hid (ZpX s);have c:=hid (ZpZ s);show Calls _ _ _ _ fun e u=>e=.returned (.bool (!decide ([111,114]=bl s) && !decide ([98,121]=bl s) && !(idx (bl s) ZW).isSome && !(idx (bl s) Z0).isSome))/\u=w;generalize decide ([111,114]=bl s)=b1 at *
 generalize decide ([98,121]=bl s)=b2 at *
 generalize(idx (bl s) ZW).isSome=b3 at *
 generalize(idx (bl s) Z0).isSome=b4 at *
 cases b1 <;> cases b2 <;> cases b3 <;> cases b4
 all_goals
  go_enter func171,ntmps171
  go_wp2_with (first|(go_at_call 104;refine cret (a.out _) ?_)|(go_at_call 106;refine cret (c.out _) ?_))
  go_ret;exact⟨rfl,rfl⟩
def Zdt(t:Tok):Prop:=(t.jk=2->t.txt.all Zp=true)/\(t.jk=4->t.txt.all (fun c=>!Zp c)=true)
def ZeQ:List Tok->Prop
 | []=>False
 | [t]=>t.jk=0∨t.jk=5
 | t::u::l=>(t.jk=1∨t.jk=2∨t.jk=3∨t.jk=4)/\Zdt t/\ZeQ (u::l)
theorem ZeQ.tail(h:ZeQ ts)(a:¬((hd ts).jk=0∨(hd ts).jk=5)):ZeQ ts.tail/\1<ts.length:=by
 match ts,h with
 | [t],h=>exact absurd h a
 | t::u::l,h=>exact⟨h.2.2,by simp⟩
theorem ZeQ.head(h:ZeQ ts):Zdt (hd ts)/\0<ts.length/\(hd ts).jk<=5:=by
 match ts,h with
 | [t],h=>
  have a:t.jk=0∨t.jk=5:=h;refine⟨⟨fun e=>?_,fun e=>?_⟩,by simp,?_⟩
  ·exact absurd (show t.jk=2 from e) Om
  ·exact absurd (show t.jk=4 from e) Om
  ·show t.jk<=5;omega
 | t::u::l,h=>exact⟨h.2.1,by simp,by have:=h.1;show t.jk<=5;omega⟩
theorem ZkF{l:List PTok}(h:Zci (p::l) ts):Zdf p (hd ts)/\Zci l ts.tail:=by
 match ts,h with
 | t::m,h=>exact h
structure RS where
 b:Nat
 g:Nat
 cp:Nat
 ps:List PTok
 sy:Addr
 dp:Addr
structure RK (w:World) (R:RS) (k:Nat) (ts:List Tok):Prop where
 rd:RD w R.b R.g R.cp R.ps k
 all:Zci (R.ps.drop k) ts
 wf:ZeQ ts
 len:R.ps.length<=302
 sy:w.cell? ⟨1,0,none⟩=some (.iface 432 (.pointer (some R.sy)))
 dp:w.cell? ⟨2,0,none⟩=some (.iface 432 (.pointer (some R.dp)))
theorem RK.lt{R:RS}(h:RK w R k ts):k<R.ps.length:=h.rd.lt
theorem RK.tok{R:RS}(h:RK w R k ts):Zdf (R.ps[k]'h.lt) (hd ts):=by
 have a:=h.all;rw[List.drop_eq_getElem_cons h.lt]at a;exact(ZkF a).1
theorem RK.size{R:RS}(h:RK w R k ts):k+ts.length=R.ps.length:=by
 have:=h.all.length;rw[Ybv]at this;have:=h.lt;omega
theorem Zn6{c0 c1:Value}{u:Value}{t:TypeId}(a:w.heap[b]?=some (.cells #[c0,c1] t (0,0)))(c:w.cell? ⟨g,0,none⟩=some v)(d:c0≠v)(_:u=u):g≠b:=by
 rintro rfl;simp[World.cell?,a]at c
 simp_all
theorem RK.glob{R:RS}(h:RK w R k ts):1≠R.b/\2≠R.b:=
 ⟨Zn6 (u:=.nilIface) h.rd.cells h.sy (by simp) rfl,Zn6 (u:=.nilIface) h.rd.cells h.dp (by simp) rfl⟩
theorem RK.below{R:RS}(h:RK w R k ts)(a:BW w w'):RK w' R k ts:=
 ⟨h.rd.below a,h.all,h.wf,h.len,(a.cell (Yai _ _ h.sy)).trans h.sy,(a.cell (Yai _ _ h.dp)).trans h.dp⟩
theorem RK.blocks{R:RS}(h:RK w R k ts)(a:∀j,j<w.heap.size->(j=R.b∨j=R.g∨j=1∨j=2)->w'.heap[j]?=w.heap[j]?):RK w' R k ts:=by
 have c:=Yai _ _ h.sy;have d:=Yai _ _ h.dp;refine⟨⟨?_,?_,h.lt⟩,h.all,h.wf,h.len,?_,?_⟩
 ·exact(a _ (Yae.1 h.rd.cells).1 (.inl rfl)).trans h.rd.cells
 ·exact ZdA h.rd.own (fun j e => by
    have:j=R.g:=by simpa [Value.ownBlock] using e.symm
    subst this;exact a _ (Z1 h.rd.own) (.inr (.inl rfl)))
 ·exact(Ycc (a _ c (.inr (.inr (.inl rfl))))).trans h.sy
 ·exact(Ycc (a _ d (.inr (.inr (.inr rfl))))).trans h.dp
theorem RK.step{R:RS}(h:RK w R k ts)(c:¬((hd ts).jk=0∨(hd ts).jk=5)):RK (w.setCell ⟨R.b,1,none⟩ (Vi ((k+1:Nat):Int))) R (k+1) ts.tail:=by
 obtain⟨d,e⟩:=h.wf.tail c;have f:=h.size;obtain⟨g1,g2⟩:=h.glob;refine⟨h.rd.step Om,?_,d,h.len,?_,?_⟩
 ·have a:=h.all;rw[List.drop_eq_getElem_cons h.lt]at a;exact(ZkF a).2
 ·exact(Ycc (Go.Deep.blk_setCell_other _ _ _ _ g1)).trans h.sy
 ·exact(Ycc (Go.Deep.blk_setCell_other _ _ _ _ g2)).trans h.dp
theorem ZM.lt{p:Int}{a:Addr}(h:ZM w v p a):∃fa:Nat,v=.iface 81 (Vp fa):=by
 obtain⟨fa,c,_⟩:=h;simp_all
theorem ZM.grown{p:Int}{a:Addr}(h:ZM w v p a)(f:w.grownBy w' (some b)){c:Array Value}{t:TypeId}(i:w.heap[b]?=some (.cells c t fr))(j:t≠85):ZM w' v p a:=by
 obtain⟨fa,g,d⟩:=h;refine⟨fa,g,(f.block _ (Yae.1 d).1 ?_).trans d⟩;intro e
 simp_all
def Z9(w:World)(R:RS)(e:Nat×Nat)(v:Value):Prop:=(e.1=2/\ZM w v e.2 R.sy)∨(e.1=3/\ZM w v e.2 R.dp)
theorem Z9.below{R:RS}(h:Z9 w R e v)(d:BW w w'):Z9 w' R e v:=by
 rcases h with ⟨a,c⟩|⟨a,c⟩
 ·exact .inl ⟨a,c.below d⟩
 ·exact .inr ⟨a,c.below d⟩
theorem Z9.shape{R:RS}(h:Z9 w R e v):∃fa:Nat,v=.iface 81 (Vp fa):=by
 rcases h with ⟨_,a⟩|⟨_,a⟩ <;> exact a.lt
def Res{α:Type}(R:RS)(V:World->α->Prop)(w:World)(r:Out α)(v:Value):Prop:=match r with
 | .error e=>Z9 w R e v
 | .ok x=>v=.nilIface/\(∃k,RK w R k x.2)/\V w x.1
theorem Ze0(h:k<=5):(pk k=3 ↔ k=4)/\(pk k=1 ↔ k=2)/\(pk k=2 ↔ k=3)/\(pk k=0 ↔ k=1)/\(pk k=4 ↔ k=0):=by
 unfold pk
 match k,h with
 | 0,_=>decide
 | 1,_=>decide
 | 2,_=>decide
 | 3,_=>decide
 | 4,_=>decide
 | 5,_=>decide
theorem Zrg  (d : l.all Zp = true) (e : l.all (fun c => !Zp c) = true) : l = [] := by
  cases l with
  | nil=>rfl
  | cons a l=>
    simp_all
theorem ZdP   (h : Zdf p t) (f : Zdt t) (g : t.jk <= 5)  (l : (bl s).all (fun c => !Zp c) = true) (d : bl s ≠ []) : ZY p s = isT (bl s) t := by
  obtain⟨i,_,j,_⟩:=h;unfold ZY isT;rw[i,Zbt,Zbt,j];have m:=(Ze0 g).1;by_cases a:t.txt=bl s
  · rw[beq_iff_eq.2 a,Yd3,Yd3]
    have k:t.jk≠2:=fun e=>d (by rw[<-a];exact Zrg (f.1 e) (by simp_all));rw[beq_eq_false_iff_ne.2 k,Yft,Ybh,beq_iff_eq,beq_iff_eq];omega
  · rw[beq_eq_false_iff_ne.2 a,Ydi,Ydi]
theorem Znz(h:Zdf p t)(d:Zdt t)(f:t.jk<=5)(k:(bl s).all Zp=true)(c:bl s≠[]):ZdF p s=isT (bl s) t:=by
 obtain⟨g,_,i,_⟩:=h;unfold ZdF isT;rw[g,Zbt,Zbt,i];have l:=(Ze0 f).2.1;by_cases a:t.txt=bl s
 ·rw[beq_iff_eq.2 a,Yd3,Yd3];have j:t.jk≠4:=fun e=>c (by rw[<-a];exact Zrg (by simp_all) (d.2 e));rw[beq_eq_false_iff_ne.2 j,Bool.or_false,Ybh,beq_iff_eq,beq_iff_eq];omega
 ·rw[beq_eq_false_iff_ne.2 a,Ydi,Ydi]
theorem Zd3{s:LB}(h:isT s t=true):¬(t.jk=0∨t.jk=5):=by
 unfold isT at h
 simp_all;omega
theorem Took.res{R:RS}{ok:Bool}(h:RK w R k ts)(c:w.grownBy w' (some R.b))(j:Took w' R.b R.g R.cp R.ps k R.sy (R.ps[k]'h.lt).at_ ok v)(l:ok=true->¬((hd ts).jk=0∨(hd ts).jk=5)){α:Type}{V:World->α->Prop}{a:α}(m:ok=true->V w' a) :
  Res R V w' (if ok then .ok (a,ts.tail)else .error (2,(hd ts).at_)) v:=by
 have o:=h.tok.2.1;rcases j with ⟨rfl,rfl,d⟩|⟨rfl,p,d⟩
 ·have f:=l rfl;obtain⟨n,q⟩:=h.wf.tail f;obtain⟨g1,g2⟩:=h.glob;refine⟨rfl,⟨k+1,d,?_,n,h.len,?_,?_⟩,m rfl⟩
  ·have i:=h.all;rw[List.drop_eq_getElem_cons h.lt]at i;exact(ZkF i).2
  ·exact(Ycc (c.block _ (Yai _ _ h.sy) (fun e=>g1 (Yax e)))).trans h.sy
  ·exact(Ycc (c.block _ (Yai _ _ h.dp) (fun e=>g2 (Yax e)))).trans h.dp
 constructor<;>simp_all
theorem ZdT  {R : RS}   (h : RK w R k ts) (s : BA) (i : (bl s).all (fun c => !Zp c) = true) (f : bl s ≠ []) :
    CP 166 #[Vp R.b,.string s] w fun e u=>∃v,e=.returned v/\Hid (Res R (fun _ (_:Unit)=>True) u (Zq (bl s) ts) v)/\w.grownBy u (some R.b):=by
  have d:=ZdP h.tok h.wf.head.1 h.wf.head.2.2 i f
  have j : ZY _ s = true -> k + 1 < R.ps.length := fun e => by
    have:=(h.wf.tail (Zd3 (d.symm.trans e))).2;have:=h.size;omega
  refine(ZC5 h.rd s j (by have:=h.len;omega) h.sy).mono ?_;rintro e u ⟨v,rfl,l,g⟩;refine⟨v,rfl,?_,g⟩;have:=l.res (V:=fun _ _=>True) (a:=()) h g (fun e=>Zd3 (d.symm.trans e)) (fun _=>trivial);rw[d]at this;exact this
theorem ZC8{R:RS}(h:RK w R k ts)(g:(bl s).all Zp=true)(d:bl s≠[]) :
  CP 167 #[Vp R.b,.string s] w fun e u=>∃v,e=.returned v/\Hid (Res R (fun _ (_:Unit)=>True) u (Zq (bl s) ts) v)/\w.grownBy u (some R.b):=by
 have c:=Znz h.tok h.wf.head.1 h.wf.head.2.2 g d
 have i : ZdF _ s = true -> k + 1 < R.ps.length := fun e => by
   have:=(h.wf.tail (Zd3 (c.symm.trans e))).2;have:=h.size;omega
 refine(ZC7 h.rd s i (by have:=h.len;omega) h.sy).mono ?_;rintro e u ⟨v,rfl,j,f⟩;refine⟨v,rfl,?_,f⟩;have:=j.res (V:=fun _ _=>True) (a:=()) h f (fun e=>Zd3 (c.symm.trans e)) (fun _=>trivial);rw[c]at this;exact this
theorem Zzc(h:Zdf p t)(a:t.jk<=5):ZeX p=decide (t.jk=2):=by
 unfold ZeX;rw[h.1,Ybh,beq_iff_eq,decide_eq_true_iff];have c:=(Ze0 a).2.1;omega
theorem Zkk{R:RS}(h:RK w R k ts) :
  CP 169 #[Vp R.b] w fun e u=>∃(x:BA) (v:Value),e=.returned (.tuple #[.string x,v])/\Hid (Res R (fun _ a=>bl x=a) u (ZH 2 ts) v)/\w.grownBy u (some R.b):=by
 have f:=Zzc h.tok h.wf.head.2.2
 have d : ZeX _ = true -> ¬ ((hd ts).jk = 0 ∨ (hd ts).jk = 5) := fun e => by
   have:=of_decide_eq_true (f.symm.trans e);omega
 have j : ZeX _ = true -> k + 1 < R.ps.length := fun e => by
   have:=(h.wf.tail (d e)).2;have:=h.size;omega
 refine(ZC6 h.rd j (by have:=h.len;omega) h.sy).mono ?_;rintro e u ⟨x,v,rfl,g,i⟩;refine⟨x,v,rfl,?_,i⟩;have:=g.1.res (V:=fun _ a=>bl x=a) h i d (fun e=>g.2 e▸h.tok.2.2.1);rw[f]at this;unfold ZH;by_cases c:(hd ts).jk=2
 ·rw[if_pos c];rw[decide_eq_true c]at this;exact this
 ·rw[if_neg c];rw[decide_eq_false c]at this;exact this
theorem Zfi{R:RS}(h:RK w R k ts) :
  CP 30 #[Vp R.b] w fun e u=>∃v,e=.returned v/\Hid (Z9 u R (2,(hd ts).at_) v)/\BW w u:=by
 refine(ZiZ h.rd h.sy).mono ?_;rintro e u ⟨v,rfl,a,c⟩;refine⟨v,rfl,.inl ⟨rfl,?_⟩,c⟩;have:=a.out;rw[h.tok.2.1]at this;omega
theorem Zee{R:RS}(h:RK w R k ts) :
  CP 29 #[Vp R.b] w fun e u=>∃t:PTok,e=.returned (.agg #[Vi t.kd,Vi t.at_,.string t.tx,Vi t.v])/\Hid (Zdf t (hd ts))/\BW w u:=by
 refine(ZiF h.rd).mono ?_;rintro e u ⟨rfl,a⟩;exact⟨_,rfl,h.tok,a⟩
theorem Zf6 {t : PTok} {u : Tok} (h : Zdf t u) (d : Zdt u) (f : u.jk <= 5) (s : BA) (g : (bl s).all (fun c => !Zp c) = true) (a : bl s ≠ []) (w : World) :
    CP 102 #[.agg #[Vi t.kd,Vi t.at_,.string t.tx,Vi t.v],.string s] w fun e i=>e=.returned (.bool (isT (bl s) u))/\BW w i:=by
  rw[<-ZdP h d f g a];exact ZlS t s w
theorem Z9.grown{R:RS}(h:Z9 w R e v)(f:w.grownBy w' (some b)){c:Array Value}{t:TypeId}(g:w.heap[b]?=some (.cells c t fr))(i:t≠85):Z9 w' R e v:=by
 rcases h with ⟨a,d⟩|⟨a,d⟩
 ·exact Or.inl ⟨a,d.grown f g i⟩
 ·exact Or.inr ⟨a,d.grown f g i⟩
def BAt(w:World)(a:Nat)(c:List Value)(t:TypeId):Prop:=w.heap[a]?=some (.cells ⟨c⟩ t (0,0))
theorem BAt.cell{t:TypeId}(h:BAt w a c t)(i:Nat):w.cell? ⟨a,i,none⟩=c[i]?:=by
 unfold BAt at h;simp[World.cell?,h]
theorem BAt.frozen{t:TypeId}(h:BAt w a c t)(i:Nat):w.frozen? ⟨a,i,none⟩=false:=by
 unfold BAt at h;simp[World.frozen?,h]
theorem BAt.lt{t:TypeId}(h:BAt w a c t):a<w.heap.size:=(Yae.1 h).1
theorem BAt.grown{t:TypeId}{r:Option Nat}(h:BAt w a c t)(d:w.grownBy w' r)(e:some a≠r):BAt w' a c t:=(d.block a h.lt e).trans h
theorem BAt.below{t:TypeId}(h:BAt w a c t)(d:BW w w'):BAt w' a c t:=(d.block a h.lt).trans h
theorem BAt.other{t:TypeId}(h:BAt w a c t){p:Addr}(d:a≠p.block)(v:Value):BAt (w.setCell p v) a c t:=(Go.Deep.blk_setCell_other _ _ _ _ d).trans h
def set3(w:World)(a:Nat)(x y z:Value):World:=((w.setCell ⟨a,0,none⟩ x).setCell ⟨a,1,none⟩ y).setCell ⟨a,2,none⟩ z
theorem Zcr{p q r x:Value}{t:TypeId}(h:BAt w a [p,q,r] t):BAt (set3 w a x y z) a [x,y,z] t:=by
 unfold BAt at h;unfold BAt set3;simp only[World.setCell,Ybn,h,if_true,Ybf];rfl
theorem ret3{fn:Func}{R:Ending->World->Prop}{a:Act}{v:World}{p q u x r:Value}{t:TypeId}(c:∀W:World,W.cell? ⟨b,0,none⟩=some x->W.cell? ⟨b,1,none⟩=some y->W.cell? ⟨b,2,none⟩=some z->(results fn a.tmps).run P W=.ok r W)(hd:a.defers=[])(d:BAt v b [p,q,u] t)(e:R (.returned r) (set3 v b x y z)):bodyPost P fn R .ret a (set3 v b x y z):=by
 have s:=Zcr d (x:=x) (y:=y) (z:=z);exact bodyPost_ret (c _ (s.cell 0) (s.cell 1) (s.cell 2)) hd e
theorem Zsf{x:Value}(c:b≠a):(set3 w a x y z).heap[b]?=w.heap[b]?:=by
 unfold set3;rw[Go.Deep.blk_setCell_other _ _ _ _ c,Go.Deep.blk_setCell_other _ _ _ _ c,Go.Deep.blk_setCell_other _ _ _ _ c]
theorem Ze4(h:w0.grownBy w (some b))(c:w0.heap.size<=a)(x y z:Value):w0.grownBy (set3 w a x y z) (some b):=
 ZA (ZA (ZA h (Or.inr c) _) (Or.inr c) _) (Or.inr c) _
theorem RK.fresh{R:RS}{k0:Nat}{ts0:List Tok}(c:RK w0 R k0 ts0)(h:RK w R k ts)(m:w0.heap.size<=a)(d:∀j,j≠a->w'.heap[j]?=w.heap[j]?):RK w' R k ts:=by
 refine h.blocks (fun j _ e=>d j ?_);have n:=(Yae.1 c.rd.cells).1;have o:=Z1 c.rd.own;have f:=Yai _ _ c.sy;have g:=Yai _ _ c.dp;have i:1<w0.heap.size:=f;have l:2<w0.heap.size:=g;rcases e with rfl|rfl|rfl|rfl <;> omega
theorem Z9.set3{R:RS}(h:Z9 w R e v){t:TypeId}(d:BAt w a c t)(f:t≠85)(x y z:Value):Z9 (set3 w a x y z) R e v:=by
 refine h.grown (b:=a) ?_ d f;exact ZA (ZA (ZA (ZbM w (some a)) (Or.inl rfl) _) (Or.inl rfl) _) (Or.inl rfl) _
theorem Zfr(h:(hd ts).jk=k):ZH k ts=.ok ((hd ts).txt,ts.tail):=if_pos h
theorem Zgb(h:¬(hd ts).jk=k):ZH k ts=.error (2,(hd ts).at_):=if_neg h
theorem Zic{s:LB}(h:isT s t=true):t.txt=s:=by
 unfold isT at h;rw[Yas,beq_iff_eq]at h;exact h.2
theorem ZeV{s u:LB}(h:isT s t=true)(a:s≠u):isT u t=false:=by
 have:=Zic h;unfold isT;rw[this,beq_eq_false_iff_ne.2 a,Ydi]
theorem ZP{c:Code}{Q:Exit->Act->World->Prop}{a:Act}(h:∀W,W=w->Code.wp P c Q a W):Code.wp P c Q a w:=h w rfl
theorem Zm{f:FuncId}{args:Array Value}{Q:Ending->World->Prop}(h:∀W,W=w->Calls P f args W Q):Calls P f args w Q:=h w rfl
theorem Zou{R:RS}(h:RK w R k ts) :
  CP 173 #[Vp R.b] w fun e u=>∃(x:BA) (ng:Bool) (y:BA) (v:Value),e=.returned (.tuple #[.agg #[.string x,.bool ng,.string y],v])/\Hid (Res R (fun _ c=>bl x=c.1/\bl y=c.2.1/\ng=c.2.2) u (ZV ts) v)/\w.grownBy u (some R.b):=by
 have H:Hid (RK w R k ts):=h;have e4:R.b<w.heap.size:=(Yae.1 h.rd.cells).1;go_enter func173,ntmps173
 go_wp2_with fail
 refine Zm fun W0 a7=>?_;have c7:Hid (RK W0 R k ts):=hid (by rw[a7];exact H.below Zbal);have c8:Hid (BAt W0 w.heap.size [.string ByteArray.empty,.bool false,.string ByteArray.empty] 224):=hid (by rw[a7];exact bnw);have c9:Hid (w.grownBy W0 (some R.b)):=hid (by rw[a7];exact ZbR (ZbM _ _) _);refine(Zkk c7.out).mono ?_;rintro e w1 ⟨x,v,rfl,q,hg⟩;have L:Hid (BAt w1 w.heap.size [.string ByteArray.empty,.bool false,.string ByteArray.empty] 224):=c8.grown hg (by simp;omega);have c3:Hid (w.grownBy w1 (some R.b)):=Zj c9.out hg;by_cases G:(hd ts).jk=2
 ·rw[Zfr G]at q;obtain⟨rfl,⟨k1,d4⟩,hx⟩:=q.out;have c4:Hid (RK w1 R k1 ts.tail):=d4;have HX:Hid (bl x=(hd ts).txt):=hx
  go_wp2_with fail
  refine(Zee c4.out).mono ?_;rintro e z ⟨⟨kd,at_,tx,tv⟩,rfl,ht,a8⟩;have d5:=hid (L.below a8);have M:Hid (w.grownBy z (some R.b)):=Zj c3.out (Zw a8);have d6:Hid (RK z R k1 ts.tail):=c4.below a8
  go_wp2_with fail
  refine Zm fun W1 c5=>?_;have a9:BW z W1:=by rw[c5];exact Zbal
  have d7:Hid (BAt W1 z.heap.size [Vi kd,Vi at_,.string tx,Vi tv] 74):=hid (by rw[c5];exact bnw);have d8:=hid (d5.below a9);have d9:Hid (w.grownBy W1 (some R.b)):=Zj M.out (Zw a9);have b0:Hid (RK W1 R k1 ts.tail):=d6.below a9;refine(Zf6 ht.out b0.wf.head.1 b0.wf.head.2.2 ⟨#[61]⟩ Dc Dc W1).mono ?_;rintro e w3 ⟨rfl,a4⟩;have s:=hid (d7.below a4);have b1:=hid (d8.below a4);have b2:Hid (w.grownBy w3 (some R.b)):=Zj d9.out (Zw a4);have N:Hid (RK w3 R k1 ts.tail):=b0.below a4;by_cases I:isT [61] (hd ts.tail)=true
  ·rw[show isT (bl ⟨#[61]⟩) (hd ts.tail)=true from I];have b3:tx=⟨#[61]⟩:=ZcW (ht.2.2.1.trans (Zic I));subst b3;have HD:Hid (¬((hd ts.tail).jk=0∨(hd ts.tail).jk=5)):=Zd3 I;have O:Hid (ZV ts=bnd (ZH 3 ts.tail.tail) fun b r=>.ok (((hd ts).txt,b,false),r)):=hid (by unfold ZV;rw[Zfr G];show bnd (Zdc ts.tail) _=_;unfold Zdc;rw[if_neg (by rw[ZeV I Dc];decide)];unfold Zq;rw[if_pos I];rfl);have n:=N;have a5:=b2;have a6:=b1;have b4:=s;obtain⟨rc0,rc1,rfz,_⟩:=n.rd.all;have e0:=n.lt;have e1:=n.len
   go_wp2_with fail
   refine Zm fun J o=>?_;have t:Hid (RK J R (k1+1) ts.tail.tail):=hid (by rw[o];exact n.step HD.out);have P:Hid (w.grownBy J (some R.b)):=hid (by rw[o];exact ZA a5.out (Or.inl rfl) _);have Q:Hid (BAt J w.heap.size [.string ByteArray.empty,.bool false,.string ByteArray.empty] 224):=hid (by rw[o];exact a6.other (by show w.heap.size≠R.b;omega) _);have S:Hid (BAt J z.heap.size [Vi kd,Vi at_,.string ⟨#[61]⟩,Vi tv] 74):=hid (by rw[o];exact b4.other (by show z.heap.size≠R.b;have:=M.size;omega) _);refine(Zee t.out).mono ?_;rintro e f ⟨⟨kd2,at2,tx2,tv2⟩,rfl,A,g⟩;have T:=hid (Q.below g);have U:=hid (S.below g);have B:Hid (w.grownBy f (some R.b)):=Zj P.out (Zw g);have V:Hid (RK f R (k1+1) ts.tail.tail):=t.below g;clear g t P Q S
   go_upto_region 9 with fail
   refine ZP fun K C=>?_;have i:BW f K:=by rw[C];exact Zbal
   have X:Hid (BAt K f.heap.size [Vi kd2,Vi at2,.string tx2,Vi tv2] 74):=hid (by rw[C];exact bnw);have Y:=hid (T.below i);have b5:=hid (U.below i);have Z:Hid (w.grownBy K (some R.b)):=Zj B.out (Zw i);have l:Hid (RK K R (k1+1) ts.tail.tail):=V.below i;have e3:R.b<f.heap.size:=by have:=B.size;omega
   clear C i T U V B;have t0:=X.cell;by_cases p:(hd ts.tail.tail).jk=3
   ·have a0:kd2=2:=by have:=A.1;rw[p]at this;exact this
    subst a0;have b6:Hid (ZV ts=.ok (((hd ts).txt,(hd ts.tail.tail).txt,false),ts.tail.tail.tail)):=hid (by rw[O.out,Zfr p];rfl);have b7:Hid (bl tx2=(hd ts.tail.tail).txt):=A.2.2.1;obtain⟨rc0,rc1,rfz,_⟩:=l.rd.all;have c6:=l.lt
    go_upto_region 12 with fail
    refine ZP fun D d=>?_;have b8:Hid (RK D R (k1+1+1) ts.tail.tail.tail):=hid (by rw[d];exact l.step Om);have b9:Hid (w.grownBy D (some R.b)):=hid (by rw[d];exact ZA Z.out (Or.inl rfl) _);have E:Hid (BAt D w.heap.size [.string ByteArray.empty,.bool false,.string ByteArray.empty] 224):=hid (by rw[d];exact Y.other (by show w.heap.size≠R.b;omega) _);have c1:Hid (BAt D z.heap.size [Vi kd,Vi at_,.string ⟨#[61]⟩,Vi tv] 74):=hid (by rw[d];exact b5.other (by show z.heap.size≠R.b;have:=M.size;omega) _);have c2:Hid (BAt D f.heap.size [Vi 2,Vi at2,.string tx2,Vi tv2] 74):=hid (by rw[d];exact X.other (by show f.heap.size≠R.b;omega) _);clear d rc0 rc1 rfz t0;have f0:=E.frozen;have c0:=E.cell;have d2:=c1.cell;have e2:=c2.cell;go_wp2;exact ret3 (r:=.tuple #[.agg #[.string x,.bool false,.string tx2],.nilIface]) (fun W s0 s1 s2=>by simp[results,results173,go_sem,s0,s1,s2]) rfl E.out ⟨_,_,_,_,rfl,by rw[b6.out];exact⟨rfl,⟨_,(RK.fresh H.out b8.out (Yac _) (fun j hj=>Zsf hj))⟩,HX.out,b7.out,rfl⟩,Ze4 b9.out (Yac _) _ _ _⟩
   ·have a0:((kd2:Int) != 2)=true:=by
     rw[bne_iff_ne];intro e;exact p ((Ze0 l.wf.head.2.2).2.2.1.1 (by have:=A.1;simp only at this;omega))
    have a1:Hid (ZV ts=.error (2,(hd ts.tail.tail).at_)):=hid (by rw[O.out,Zgb p];rfl)
    go_wp2_with fail
    refine(Zfi l.out).mono ?_;rintro e wE ⟨v,rfl,F,m⟩;obtain⟨fa,rfl⟩:=F.shape;have a:=hid (Y.below m);have a2:Hid (w.grownBy wE (some R.b)):=Zj Z.out (Zw m);clear m;have f0:=a.frozen;have c0:=a.cell;go_wp2;exact ret3 (r:=.tuple #[.agg #[.string ⟨#[]⟩,.bool false,.string ⟨#[]⟩],.iface 81 (Vp fa)]) (fun W s0 s1 s2=>by simp[results,results173,go_sem,s0,s1,s2]) rfl a.out ⟨_,_,_,_,rfl,by rw[a1.out];exact F.set3 a.out Dc _ _ _,Ze4 a2.out (Yac _) _ _ _⟩
  ·rw[show isT (bl ⟨#[61]⟩) (hd ts.tail)=false from Yce.2 I];have d0:=s.cell 0;have d1:=s.cell 1;have d2:=s.cell 2;have d3:=s.cell 3;simp only[Zget]at d0 d1 d2 d3
   go_wp2_with fail
   clear d0 d1 d2 d3;refine(Zf6 ht.out N.wf.head.1 N.wf.head.2.2 ⟨#[33,61]⟩ Dc Dc w3).mono ?_;rintro e w4 ⟨rfl,a3⟩;have b4:=hid (s.below a3);have a6:=hid (b1.below a3);have a5:Hid (w.grownBy w4 (some R.b)):=Zj b2.out (Zw a3);have n:Hid (RK w4 R k1 ts.tail):=N.below a3;clear a3 s b1 b2 N;by_cases hB:isT [33,61] (hd ts.tail)=true
   ·rw[show isT (bl ⟨#[33,61]⟩) (hd ts.tail)=true from hB];have b3:tx=⟨#[33,61]⟩:=ZcW (ht.2.2.1.trans (Zic hB));subst b3;have HD:Hid (¬((hd ts.tail).jk=0∨(hd ts.tail).jk=5)):=Zd3 hB;have O:Hid (ZV ts=bnd (ZH 3 ts.tail.tail) fun b r=>.ok (((hd ts).txt,b,true),r)):=hid (by unfold ZV;rw[Zfr G];show bnd (Zdc ts.tail) _=_;unfold Zdc;rw[if_pos hB];rfl);clear I hB;obtain⟨rc0,rc1,rfz,_⟩:=n.rd.all;have e0:=n.lt;have e1:=n.len
    go_wp2_with fail
    refine Zm fun J o=>?_;have t:Hid (RK J R (k1+1) ts.tail.tail):=hid (by rw[o];exact n.step HD.out);have P:Hid (w.grownBy J (some R.b)):=hid (by rw[o];exact ZA a5.out (Or.inl rfl) _);have Q:Hid (BAt J w.heap.size [.string ByteArray.empty,.bool false,.string ByteArray.empty] 224):=hid (by rw[o];exact a6.other (by show w.heap.size≠R.b;omega) _);have S:Hid (BAt J z.heap.size [Vi kd,Vi at_,.string ⟨#[33,61]⟩,Vi tv] 74):=hid (by rw[o];exact b4.other (by show z.heap.size≠R.b;have:=M.size;omega) _);clear o rc0 rc1 rfz;refine(Zee t.out).mono ?_;rintro e f ⟨⟨kd2,at2,tx2,tv2⟩,rfl,A,g⟩;have T:=hid (Q.below g);have U:=hid (S.below g);have B:Hid (w.grownBy f (some R.b)):=Zj P.out (Zw g);have V:Hid (RK f R (k1+1) ts.tail.tail):=t.below g;clear g t P Q S
    go_upto_region 9 with fail
    refine ZP fun K C=>?_;have i:BW f K:=by rw[C];exact Zbal
    have X:Hid (BAt K f.heap.size [Vi kd2,Vi at2,.string tx2,Vi tv2] 74):=hid (by rw[C];exact bnw);have Y:=hid (T.below i);have b5:=hid (U.below i);have Z:Hid (w.grownBy K (some R.b)):=Zj B.out (Zw i);have l:Hid (RK K R (k1+1) ts.tail.tail):=V.below i;have e3:R.b<f.heap.size:=by have:=B.size;omega
    clear C i T U V B;have t0:=X.cell;by_cases p:(hd ts.tail.tail).jk=3
    ·have a0:kd2=2:=by have:=A.1;rw[p]at this;exact this
     subst a0;have b6:Hid (ZV ts=.ok (((hd ts).txt,(hd ts.tail.tail).txt,true),ts.tail.tail.tail)):=hid (by rw[O.out,Zfr p];rfl);have b7:Hid (bl tx2=(hd ts.tail.tail).txt):=A.2.2.1;obtain⟨rc0,rc1,rfz,_⟩:=l.rd.all;have c6:=l.lt
     go_upto_region 12 with fail
     refine ZP fun D d=>?_;have b8:Hid (RK D R (k1+1+1) ts.tail.tail.tail):=hid (by rw[d];exact l.step Om);have b9:Hid (w.grownBy D (some R.b)):=hid (by rw[d];exact ZA Z.out (Or.inl rfl) _);have E:Hid (BAt D w.heap.size [.string ByteArray.empty,.bool false,.string ByteArray.empty] 224):=hid (by rw[d];exact Y.other (by show w.heap.size≠R.b;omega) _);have c1:Hid (BAt D z.heap.size [Vi kd,Vi at_,.string ⟨#[33,61]⟩,Vi tv] 74):=hid (by rw[d];exact b5.other (by show z.heap.size≠R.b;have:=M.size;omega) _);have c2:Hid (BAt D f.heap.size [Vi 2,Vi at2,.string tx2,Vi tv2] 74):=hid (by rw[d];exact X.other (by show f.heap.size≠R.b;omega) _);clear d rc0 rc1 rfz t0;have f0:=E.frozen;have c0:=E.cell;have d2:=c1.cell;have e2:=c2.cell;go_wp2;exact ret3 (r:=.tuple #[.agg #[.string x,.bool true,.string tx2],.nilIface]) (fun W s0 s1 s2=>by simp[results,results173,go_sem,s0,s1,s2]) rfl E.out ⟨_,_,_,_,rfl,by rw[b6.out];exact⟨rfl,⟨_,(RK.fresh H.out b8.out (Yac _) (fun j hj=>Zsf hj))⟩,HX.out,b7.out,rfl⟩,Ze4 b9.out (Yac _) _ _ _⟩
    ·have a0:((kd2:Int) != 2)=true:=by
      rw[bne_iff_ne];intro e;exact p ((Ze0 l.wf.head.2.2).2.2.1.1 (by have:=A.1;simp only at this;omega))
     have a1:Hid (ZV ts=.error (2,(hd ts.tail.tail).at_)):=hid (by rw[O.out,Zgb p];rfl)
     go_wp2_with fail
     refine(Zfi l.out).mono ?_;rintro e wE ⟨v,rfl,F,m⟩;obtain⟨fa,rfl⟩:=F.shape;have a:=hid (Y.below m);have a2:Hid (w.grownBy wE (some R.b)):=Zj Z.out (Zw m);clear m;have f0:=a.frozen;have c0:=a.cell;go_wp2;exact ret3 (r:=.tuple #[.agg #[.string ⟨#[]⟩,.bool false,.string ⟨#[]⟩],.iface 81 (Vp fa)]) (fun W s0 s1 s2=>by simp[results,results173,go_sem,s0,s1,s2]) rfl a.out ⟨_,_,_,_,rfl,by rw[a1.out];exact F.set3 a.out Dc _ _ _,Ze4 a2.out (Yac _) _ _ _⟩
   ·rw[show isT (bl ⟨#[33,61]⟩) (hd ts.tail)=false from Yce.2 hB];have a1:Hid (ZV ts=.error (2,(hd ts.tail).at_)):=hid (by unfold ZV;rw[Zfr G];show bnd (Zdc ts.tail) _=_;unfold Zdc;rw[if_neg hB];unfold Zq;rw[if_neg I];rfl);clear I hB
    go_wp2_with fail
    refine(Zfi n.out).mono ?_;rintro e wE ⟨v,rfl,F,m⟩;obtain⟨fa,rfl⟩:=F.shape;have a:=hid (a6.below m);have a2:Hid (w.grownBy wE (some R.b)):=Zj a5.out (Zw m);clear m;have f0:=a.frozen;have c0:=a.cell;go_wp2;exact ret3 (r:=.tuple #[.agg #[.string ⟨#[]⟩,.bool false,.string ⟨#[]⟩],.iface 81 (Vp fa)]) (fun W s0 s1 s2=>by simp[results,results173,go_sem,s0,s1,s2]) rfl a.out ⟨_,_,_,_,rfl,by rw[a1.out];exact F.set3 a.out Dc _ _ _,Ze4 a2.out (Yac _) _ _ _⟩
 ·rw[Zgb G]at q;obtain⟨fa,rfl⟩:=q.shape;have F:Hid (Z9 w1 R (2,(hd ts).at_) _):=q.out;have HP:Hid (ZV ts=.error (2,(hd ts).at_)):=hid (by unfold ZV;rw[Zgb G];rfl);have f0:=L.frozen;have c0:=L.cell;clear q;go_wp2;exact ret3 (r:=.tuple #[.agg #[.string ⟨#[]⟩,.bool false,.string ⟨#[]⟩],.iface 81 (Vp fa)]) (fun W s0 s1 s2=>by simp[results,results173,go_sem,s0,s1,s2]) rfl L.out ⟨_,_,_,_,rfl,by rw[HP.out];exact F.set3 L.out Dc _ _ _,Ze4 c3.out (Yac _) _ _ _⟩

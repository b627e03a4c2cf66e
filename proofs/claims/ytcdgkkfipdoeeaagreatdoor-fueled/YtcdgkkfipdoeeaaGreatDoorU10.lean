/- Parts. -/
import Derived.Test.YtcdgkkfipdoeeaaGreatDoorU09
set_option linter.all false
set_option maxRecDepth 100000
set_option maxHeartbeats 16000000
namespace Go.Proofs.YtcdgkkfipdoeeaaGreatDoor
open Go.RowKit LS Go.Proofs.Tryz
open Go.ChangeMaps (setBlock)
variable {ca:Addr}{s:BA}{c vs xs xs1 xs2:List Value}{a b b1 b2 base mb n n1 n2 p s1 s2 sc sn sz:Nat}{x:Nat×Nat}{sa va:Option Addr}{gr v v1 v2:Value}{Z Z':Value->Prop}{w w' w0:World}
theorem Zm8(x k:Nat){o:Obj}(h:k≠x):(setBlock w x o).heap[k]?=w.heap[k]?:=by simp[setBlock,Ycp h]
theorem Zz1{e:TypeId}(h:w.ownsRow base e sz (.slice sa sn sc) sn xs):w.ownsRow base e sz (.slice sa 0 sc) 0 []:=by
 obtain⟨k,a⟩:=h;refine⟨by simp,?_⟩;rcases a with ⟨a,_⟩|⟨g,cap,cur,c,d,f,l,i,j,m⟩
 ·injection a with e1 e2 e3;subst e1 e3;exact .inl ⟨rfl,rfl⟩
 ·injection c with e1 e2 e3;subst e1 e3;exact .inr ⟨_,_,cur,rfl,d,f,by omega,i,j,by simp⟩
theorem ZAn(x:Nat){c0 c1 c2 c3 al:Value}(tm:Int){t2:Int}{gs:List (Nat×Value)}{es:Array MapEntry}{clock:Nat}(h:PSt w base mb c0 c1 c2 c3 al tm (.map (some x)) gr sa sn sc vs)(m:MapI w x gs es clock) :
  CP 95 #[Vp mb,Vi t2] w fun e u=>e=.returned (.tuple #[])/\Hid (PSt u base mb c0 c1 c2 c3 al t2 (.map (some x)) gr sa 0 sc [])/\Hid (MapI u x [] #[] clock)/\Hid (u.os=w.os/\u.tape=w.tape/\u.output=w.output/\w.heap.size<=u.heap.size/\∀k,k≠mb->k≠x->u.heap[k]?=w.heap[k]?):=by
 have l : x ≠ mb := fun e => by
   have n:=m.heap;rw[e]at n;have c:=n.symm.trans h.box;injection c with c;cases c
 obtain⟨a,f⟩:∃a,a=(w.setCell ⟨mb,5,none⟩ (Vi t2)).setCell ⟨mb,6,none⟩ (.slice sa 0 sc):=⟨_,rfl⟩
 have m5:w.cell? _=some _:=h.box.cell 5;have m6:w.cell? _=some _:=h.box.cell 6;have m7:w.cell? _=some _:=h.box.cell 7;have f5:=h.box.frozen;have C:=h.box.lt;have r:BAt _ _ (pmC _ _ _ _ _ _ _ _ _) _:=f▸(h.box.setkM 5 _).setkM 6 _;have d:∀k,k≠mb->a.heap[k]?=w.heap[k]?:=fun k i=>by rw[f,Go.Deep.blk_setCell_other _ _ _ _ i,Go.Deep.blk_setCell_other _ _ _ _ i]
 have s:=fun T=>ZuC ((d x l).trans m.heap) T;rw[f]at s
 have o:Hid (PSt (setBlock a x (.map #[] clock)) base mb c0 c1 c2 c3 al t2 (.map (some x)) gr sa 0 sc []/\MapI (setBlock a x (.map #[] clock)) x [] #[] clock/\((setBlock a x (.map #[] clock)).os=w.os/\(setBlock a x (.map #[] clock)).tape=w.tape/\(setBlock a x (.map #[] clock)).output=w.output/\w.heap.size<=(setBlock a x (.map #[] clock)).heap.size/\∀k,k≠mb->k≠x->(setBlock a x (.map #[] clock)).heap[k]?=w.heap[k]?)):=by
  have t:x<a.heap.size:=by
   have:=(d x l).trans m.heap;exact(Yae.1 this).1
  have j:w.grownBy _ _:=f▸ZA (ZA (ZbM w (some mb)) (Or.inl rfl) _) (Or.inl rfl) _;refine⟨⟨(Zm8 x _ (fun e=>l e.symm)).trans r,?_,rfl⟩,⟨by simp[setBlock,t],⟨by simp,by simp,by simp⟩,rfl,fun g p=>(by cases p)⟩,j.os,j.tape,j.output,?_,fun k n c=>(Zm8 x k c).trans (d k n)⟩
  ·have q:=Zz1 h.own;refine ZdA q (fun k i=>?_)
   have v:k≠mb:=by
    rintro rfl;exact Zcx q h.box Dc i.symm
   have z:k≠x:=by
    rintro rfl;rcases q.2 with ⟨c,_⟩|⟨g,cap,cur,B,_,p,_⟩
    ·rw[c]at i;cases i
    ·rw[B]at i;have A:some g=some k:=i;cases A;have c:=m.heap.symm.trans p;injection c with c;cases c
   exact(Zm8 x k z).trans (d k v)
  ·have:(setBlock a x (.map #[] clock)).heap.size=a.heap.size:=by simp[setBlock]
   rw[this];exact j.size
 rw[f]at o;go_enter func95,ntmps95;go_wp2;exact bodyPost_end (results_none rfl _ _ _) rfl ⟨rfl,hid o.1,hid o.2.1,hid o.2.2⟩
theorem ZAz{c0 c1 c2 c3 al:Value}{tm:Int}{sl:Value}{vn vc:Nat}(h:PSt w base mb c0 c1 c2 c3 al tm sl gr sa (n+1) sc (vs++[.iface 284 (.slice va vn vc)]))(o:n<=64) :
  CP 97 #[Vp mb] w fun e u=>e=.returned (.bool (decide (0<(vn:Int))))/\Hid (BW w u):=by
 have c:vs.length=n:=by have:=h.len;rw[Yab]at this;simpa using this
 obtain⟨g,cp,d⟩:=ZF h.own Om;injection d with hv1 hv2 hv3;subst hv1 hv3;have m6:w.cell? _=some _:=h.box.cell 6;have k0:=Zi h.own n (.iface 284 (.slice va vn vc)) (by rw[Yb3 Om,c];simp);have i:=h.box.lt;have j:=Z1 h.own;have k:IntKind.i64.wrap (n)=(n):=by rw[Ybo];omega
 have l:(n:Int)<(n)+1:=by omega
 have m:∀W:World,(Instr.typeAssert (.iface 284 (.slice va vn vc)) 196 284 true).run prog W=.ok (.tuple #[.slice va vn vc,.bool true]) W:=fun W=>by kernel_rfl
 go_enter func97,ntmps97
 go_upto_region 1 with fail
 refine Zbn 17 (fun u=>u.cell? _=some _/\u.cell? _=some _) Kr (⟨m6,k0⟩) (fun a=>?_);refine Za 0 a (h:=?_);refine Za 1 a (h:=?_);refine Za 2 a (h:=?_);refine Za 3 a (h:=?_);refine Za 4 a (h:=?_);refine Za 5 a (h:=?_);refine Za 6 a (h:=?_);refine Za 7 a (h:=?_);refine Za 8 a (h:=?_);refine Za 9 a (h:=?_);refine Za 10 a (h:=?_);refine Za 11 a (h:=?_);refine Za 12 a (h:=?_);refine Za 13 a (h:=?_);refine Za 14 a (h:=?_);refine Za 15 a (h:=?_);refine Za 16 a (h:=?_);refine Zbl Kr Kr rfl Kr (fun K f=>?_);go_simp;refine f _ _ ?_;go_wp2;go_ret;exact⟨rfl,hid belB⟩
abbrev RdAt (w:World) (b:Nat) (s:BA) (p:Nat):Prop:=BAt w b [.string s,Vi p] 178
abbrev Zc5 (w:World) (ca:Addr):Prop:=w.cell? ⟨8,0,none⟩=some (.iface 432 (.pointer (some ca)))
def RdC{α:Type}(V:World->α->Value->Prop)(Z:Value->Prop)(w:World)(b:Nat)(s:BA)(ca:Addr)(r:RdR α)(v err:Value):Prop:=match r with
 | .ok x=>err=.nilIface/\V w x.1 v/\RdAt w b s x.2
 | .error x=>x.1=9/\ZM w err x.2 ca/\Z v/\∃p:Nat,RdAt w b s p
theorem RdC.ok{α:Type}{V:World->α->Value->Prop}{r:RdR α}{v err:Value}(h:RdC V Z w b s ca r v err){x:α×Nat}(a:r=.ok x):err=.nilIface/\V w x.1 v/\RdAt w b s x.2:=by subst a;exact h
theorem RdC.err{α:Type}{V:World->α->Value->Prop}{r:RdR α}{v err:Value}(h:RdC V Z w b s ca r v err)(a:r=.error x):x.1=9/\ZM w err x.2 ca/\Z v/\∃p:Nat,RdAt w b s p:=by subst a;exact h
theorem RdC.mkOk{α:Type}{V:World->α->Value->Prop}{r:RdR α}{v err:Value}{x:α×Nat}(a:r=.ok x)(h:err=.nilIface/\V w x.1 v/\RdAt w b s x.2):RdC V Z w b s ca r v err:=by subst a;exact h
theorem RdC.qq{α:Type}{V:World->α->Value->Prop}{r:RdR α}{v err:Value}(a:r=.error x)(h:x.1=9/\ZM w err x.2 ca/\Z v/\∃p:Nat,RdAt w b s p):RdC V Z w b s ca r v err:=by subst a;exact h
theorem Zc5.grown(h:Zc5 w ca)(a:w.grownBy w' (some b))(d:20<=b):Zc5 w' ca:=by
 have c:8<w.heap.size:=Yai _ _ h;have e:=a.block _ c (by intro e;injection e with e;have:8<20:= Dc;omega);unfold Zc5 at h ⊢;unfold World.cell? at h ⊢;simp only at h ⊢;rw[e];exact h
theorem Zc5.below(h:Zc5 w ca)(a:BW w w'):Zc5 w' ca:=
 (a.cell (Yai _ _ h)).trans h
theorem RdAt.step(h:RdAt w b s p)(q:Nat):RdAt (w.setCell ⟨b,1,none⟩ (Vi (q:Int))) b s q:=by
 unfold RdAt BAt at h ⊢;simp only[World.setCell,Ybn,h,if_true,Ybf];rfl
theorem ZM.shape{p:Int}{a:Addr}(h:ZM w v p a):∃fa:Nat,v=.iface 81 (Vp fa):=ZM.lt h
theorem ZfX{i:Int}(ca:Addr)(a:Zc5 w ca) :
  CP 81 #[Vi i] w fun e u=>∃v,e=.returned v/\Hid (ZM u v i ca)/\BW w u:=by
 have d:w.cell? _=some _:=a;go_enter func81,ntmps81
 go_wp2_with fail
 refine cret (ZkT i w) ?_;have c:Hid (ZM _ (.iface _ (Vp w.heap.size)) i ca):=hid ⟨_,rfl,bnw⟩;go_wp2;go_ret;exact⟨_,rfl,c,Zbal⟩
def SVt(_:World)(a:LB)(v:Value):Prop:=∃t:BA,v=.string t/\bl t=a
def SZv(v:Value):Prop:=v=.string ⟨#[]⟩
theorem Zm1(s:BA)(p n b:Nat)(ca:Addr)(w:World)(j:RdAt w b s p)(l:Zc5 w ca)(t:p<=s.size)(m:s.size<=maxLen)(x:n<=70000) :
  CP 141 #[Vp b,Vi n] w fun e u=>∃v err,e=.returned (.tuple #[v,err])/\Hid (RdC SVt SZv u b s ca (Zcg (bl s) p n) v err)/\w.grownBy u (some b):=by
 unfold maxLen at m;have d:=hid j;have o:=hid l;have a:Hid (RdAt _ b s p):=hid (j.below ((Yaf _ _).drew));have c0:w.cell? _=some _:=d.cell 0;have c1:w.cell? _=some _:=d.cell 1;have f1:=d.frozen 1;by_cases h:s.size<p+n
 ·have hd:(s.size:Int) - p<n:=by omega
  have f:Hid (Zcg _ p n=.error _):=hid (by unfold Zcg;rw[if_pos (by rwa [Zd]),Zd]);go_enter func141,ntmps141;go_wp2
  go_region
  all_goals
   go_wp2_with fail
   refine(ZfX _ (o.below ((Yaf _ _).drew))).mono ?_;rintro e z ⟨v,rfl,k,c⟩;have q:=hid (ZM.shape k);have g:Hid (RdC SVt SZv _ b s _ _ _ v):=hid (RdC.qq f ⟨rfl,k,rfl,p,a.below c⟩);have i:Hid (w.grownBy _ (some b)):=hid (Zw (((Yaf _ w).drew).trans c));obtain⟨fa,rfl⟩:=q.out;go_wp2;go_ret2;exact⟨_,_,rfl,g,i⟩
 ·have hd:¬(s.size:Int) - p<n:=by omega
  have f:Hid (Zcg (bl s) p n=.ok (bl (s.extract p (p+n)),p+n)):=hid (by unfold Zcg;rw[if_neg (by rw[Zd];omega),Zsy]);have g:Hid (RdAt _ b s (p+n)):=hid (RdAt.step a _);have i:Hid (w.grownBy (w.drew.setCell ⟨b,1,none⟩ (Vi ((p+n:Nat)))) (some b)):=hid (ZA (Zdi (ZbM _ _)) (.inl rfl) _);have r:p+n<=s.size:=by omega
  go_enter func141,ntmps141;go_wp2
  go_region
  all_goals
   go_wp2
   go_region
   all_goals
    go_wp2;go_ret2;exact⟨_,_,rfl,hid (RdC.mkOk f ⟨rfl,⟨_,rfl,rfl⟩,g.below ((Yaf _ _).drew)⟩),Zdi i⟩
def NV(_:World)(a:Nat)(v:Value):Prop:=v=Vi a
def NZ(v:Value):Prop:=v=Vi 0
theorem ZzR{c:Nat}(h:a<16777216)(d:c<256):bits .or .i64 ((a:Int)*256) (c:Int)=((256*a+c:Nat):Int):=by
 have e:(BitVec.ofInt 64 ((a)*256)).toNat=a*256:=by
  rw[show((a)*256)=((a*256:Nat):Int) by omega,BitVec.ofInt_natCast,Yeo];exact Yd4 Om
 have f:(BitVec.ofInt 64 (c)).toNat=c:=by
  rw[BitVec.ofInt_natCast,Yeo];exact Yd4 Om
 have g:a*256 ||| c=256*a+c:=by
  have:=Nat.two_pow_add_eq_or_of_lt (i:=8) d a;rw[show(2) ^ 8=256 from rfl]at this;rw[Nat.mul_comm a _];exact this.symm
 show IntKind.i64.wrap ((BitVec.ofInt 64 ((a:Int)*256) ||| BitVec.ofInt 64 (c:Int)).toNat:Int)=_;rw[BitVec.toNat_or,e,f,g,Ybo];omega
theorem Zis(s:BA)(p n b:Nat)(ca:Addr)(w:World)(A:RdAt w b s p)(h:Zc5 w ca)(B:p<=s.size)(C:s.size<=maxLen)(N:n<=4) :
  CP 80 #[Vp b,Vi n] w fun e u=>∃v err,e=.returned (.tuple #[v,err])/\Hid (RdC NV NZ u b s ca (Zbr (bl s) p n) v err)/\w.grownBy u (some b):=by
 have D:=hid (Zm1 s p n b _ w A h B C Om);go_enter func80,ntmps80
 go_wp2_with fail
 refine D.mono ?_;rintro e O ⟨v,err,rfl,j,l⟩;cases a:Zcg (bl s) p n with
 | error x=>
  obtain⟨E,m,rfl,F⟩:=j.err a;obtain⟨fa,rfl⟩:=ZM.shape m;have o:Hid (RdC NV NZ _ b s _ (Zbr _ p n) _ _):=hid (RdC.qq (by unfold Zbr;rw[a]) ⟨E,m,rfl,F⟩);go_wp2
  go_loop [8,18] (fun v i=>v=Vi 0/\i=Vi 0) (fun _ _=>0)
  case atStart=>exact⟨rfl,rfl⟩
  case round=>
   obtain⟨rfl,rfl⟩:=hrel;go_wp2;go_ret2;exact⟨_,_,rfl,o,l⟩
 | ok x=>
  obtain⟨rfl,⟨t,rfl,f⟩,G⟩:=j.ok a;obtain⟨q,r,J⟩:=Zhh a;have K:t.size<=4:=by rwa [ZU f,r,Zki q]
  have o:Hid (RdC NV NZ _ b s ca (Zbr _ p n) (.int _ (back (bl t))) _):=hid (RdC.mkOk (by unfold Zbr;rw[a]) ⟨rfl,by rw[f];rfl,G⟩);go_wp2
  go_loop [8,18] (fun v i=>∃k:Nat,k<=t.size/\i=Vi k/\v=Vi (back ((bl t).take k))) (fun _ i=>t.size - (intOf i).toNat)
  case atStart=>exact⟨0,Yag _,rfl,rfl⟩
  case round=>
   obtain⟨k,P,rfl,rfl⟩:=hrel;obtain⟨c,g⟩:∃c,back ((bl t).take k)=c:=⟨_,rfl⟩
   have d:=hid g;rw[g];by_cases L:k<t.size
   ·have H:c<16777216:=by
     have:back ((bl t).take k)<256 ^ 3:=ZhM (by rw[Ya7];omega);rw[d]at this;exact this
    have h:=t[k].toNat_lt;have M:=ZzR H h;have z:Hid (back ((bl t).take _)=256*c+t[k].toNat):=hid (by rw[ZiB t k _,ZnY,d]);go_wp2
    go_round
    case rel=>exact⟨k+1,by omega,by go_num,by rw[z];go_num⟩
    case measure=>simp[intOf];omega
   ·have I:Hid (back _=c):=hid (by rw[<-d,Ya5 (by rw[Zd];omega)]);go_wp2;go_ret2;exact⟨_,_,rfl,by rwa [<-I.out],l⟩
def ZdI(l:LB):RdR Unit:=if l.head?≠some 103 then .error (9,0)else .ok ((),1)
theorem ZwT(s:BA){h:0<s.size}:(bl s).head?=some s[0]:=by
 rw[Yd1,List.getElem?_eq_getElem (by rwa [Zd]),ZgE s 0 h]
theorem ZA9(s:BA)(b:Nat)(w:World)(F:RdAt w b s 0)(n:Zc5 w ca)(G:20<=b)(H:s.size<=maxLen) :
  CP 132 #[Vp b] w fun e u=>∃err,e=.returned err/\Hid (RdC (fun _ _ _=>True) (fun _=>True) u b s ca (ZdI (bl s)) .nilIface err)/\w.grownBy u (some b):=by
 have I:=hid (Zm1 s 0 1 b _ w F n (Yag _) H Om);have o:=hid n;go_enter func132,ntmps132
 go_wp2_with fail
 refine I.mono ?_;rintro e J ⟨v,err,rfl,p,f⟩;cases a:Zcg (bl s) 0 1 with
 | error x=>
  obtain⟨O,m,rfl,K⟩:=p.err a;obtain⟨fa,rfl⟩:=ZM.shape m
  have q:s.size=0/\x=(9,0):=by
   unfold Zcg at a;rw[Zd]at a;split at a
   ·injection a with a;exact⟨by omega,by rw[<-a];congr 1;omega⟩
   ·cases a
  have d : Hid (RdC (fun _ _ _ => True) (fun _ => True) _ b s _ (ZdI (bl s)) .nilIface _) := hid (RdC.qq (by
    unfold ZdI;rw[if_pos];rw[Ya3 (l:=bl s) (by rw[Zd];exact q.1)];simp) ⟨rfl,by rw[q.2]at m;exact m,trivial,K⟩)
  go_wp2;go_ret;exact⟨_,rfl,d,f⟩
 | ok x=>
  obtain⟨rfl,⟨t,rfl,g⟩,r⟩:=p.ok a;obtain⟨A,h,B⟩:=Zhh a;rw[Zd]at A;have N:t.size=1:=by rw[ZU g,h,Zki (by rwa [Zd])]
  have i:some t[0]=(bl s).head?:=by
   rw[<-ZwT t,g,h];unfold sub;rw[List.drop_zero,List.head?_take,if_neg Dc]
  have j:Hid (RdAt J b s 1):=by rw[B]at r;exact r
  have C:=hid (o.grown f G);by_cases c:t[0]=103
  ·have d:Hid (RdC (fun _ _ _=>True) (fun _=>True) _ b s ca (ZdI _) .nilIface _):=hid (RdC.mkOk (by unfold ZdI;rw[<-i,c];rfl) ⟨rfl,trivial,j.out⟩);have L:((t[0].toNat:Int) != 103)=false:=by rw[c];rfl
   go_wp2;go_ret;exact⟨_,rfl,d,f⟩
  ·have L:((t[0].toNat:Int) != 103)=true:=by
    rw[bne_iff_ne];intro e;exact c (Ydf.1 (by show _=103;omega))
   have M:Hid (ZdI _=.error _):=hid (by
    unfold ZdI;rw[<-i,if_pos];intro e;injection e with e;exact c e)
   go_wp2_with fail
   refine(ZfX _ C).mono ?_;rintro e z ⟨v,rfl,D,k⟩;have d:Hid (RdC (fun _ _ _=>True) (fun _=>True) _ b s _ _ .nilIface v):=hid (RdC.qq M ⟨rfl,D,trivial,1,j.below k⟩);have E:=hid (ZeT f k);obtain⟨fa,rfl⟩:=ZM.shape D;go_wp2;go_ret;exact⟨_,rfl,d,E⟩
def KV(_:World)(a:Int)(v:Value):Prop:=v=Vi a
theorem ZCg{v:Nat}(a:v<4294967296):wrap32 (v:Int)=Zdp v:=by
 unfold Zdp wrap32;split <;> omega
theorem ZBb(s:BA)(p b:Nat)(w:World)(k:RdAt w b s p)(l:Zc5 w ca)(F:20<=b)(G:p<=s.size)(H:s.size<=maxLen) :
  CP 134 #[Vp b] w fun e u=>∃v err,e=.returned (.tuple #[v,err])/\Hid (RdC KV NZ u b s ca (ZbW (bl s) p) v err)/\w.grownBy u (some b):=by
 have I:=hid (Zis s p 4 b _ w k l G H Om);have m:=hid l;have c1:w.cell? _=some _:=k.cell 1;go_enter func134,ntmps134
 go_wp2_with fail
 refine I.mono ?_;rintro e N ⟨v,err,rfl,n,f⟩;cases c:Zbr (bl s) p 4 with
 | error x=>
  obtain⟨J,o,rfl,K⟩:=n.err c;obtain⟨fa,rfl⟩:=ZM.shape o;have d:Hid (RdC KV NZ _ b s _ (ZbW _ p) _ _):=hid (RdC.qq (by unfold ZbW;rw[c]) ⟨J,o,rfl,K⟩);go_wp2;go_ret2;exact⟨_,_,rfl,d,f⟩
 | ok x=>
  obtain⟨x1,x2⟩:=x;obtain⟨rfl,rfl,q⟩:=n.ok c;have a:=(Zev c).2.2.2;simp only at q a;have g:=hid q;have a:x1<4294967296:=a;have L:=ZCg a;have M:=ZCf a;have r:Hid (ZbW _ p=if Zdp x1 < -1000000000∨1000000000<Zdp x1 then .error _ else .ok (Zdp x1,x2)):=hid (by unfold ZbW;rw[c]);have t:=hid (m.grown f F);generalize Zdp x1=z at *
  by_cases i:z < -1000000000∨1000000000<z
  ·have j:Hid (ZbW _ p=.error _):=hid (by rw[r,if_pos i]);have A:(decide (z < -1000000000) || decide (1000000000<z))=true:=by simpa using i
   by_cases B:z < -1000000000
   all_goals
    have C:wrap64 z=z:=by unfold wrap64;omega
    go_wp2_with fail
    refine(ZfX _ t).mono ?_;rintro e O ⟨v,rfl,D,h⟩;have d:Hid (RdC KV NZ _ b s _ _ _ v):=hid (RdC.qq j ⟨rfl,D,rfl,_,g.below h⟩);have E:=hid (ZeT f h);obtain⟨fa,rfl⟩:=ZM.shape D;go_wp2;go_ret2;exact⟨_,_,rfl,d,E⟩
  ·have j:Hid (ZbW _ p=.ok _):=hid (by rw[r,if_neg i]);have A : -1000000000<=z:=by omega
   have B:z<=1000000000:=by omega
   have C:wrap64 z=z:=by unfold wrap64;omega
   have d:Hid (RdC KV NZ _ b s ca _ (.int _ z) _):=hid (RdC.mkOk j ⟨rfl,rfl,g⟩);go_wp2;go_ret2;exact⟨_,_,rfl,d,f⟩
theorem RdC.kept{α:Type}{V:World->α->Value->Prop}{r:RdR α}{v err:Value}(h:RdC V Z w b s ca r v err){t:TypeId}(i:w.grownBy w' (some a))(d:BAt w a c t)(g:t≠178)(k:t≠85)(l:∀x,V w x v->V w' x v):RdC V Z w' b s ca r v err:=by
 have j : ∀ p, RdAt w b s p -> RdAt w' b s p := fun p f => f.grown i (fun e => by
   cases e;unfold RdAt at f;unfold BAt at f d;rw[f]at d;injection d with d;injection d with _ e2;exact g e2.symm)
 cases r with
 | ok x=>exact⟨h.1,l _ h.2.1,j _ h.2.2⟩
 | error x=>
  obtain⟨g,m,n,p,o⟩:=h;exact⟨g,m.grown i d k,n,p,j _ o⟩
theorem Zka(w:World)(a:Nat)(x y:Value):w.grownBy (set2 w a x y) (some a):=ZA (ZA (ZbM w (some a)) (Or.inl rfl) _) (Or.inl rfl) _
def IV(_:World)(a:Nat×Nat)(v:Value):Prop:=v=.agg #[Vi a.1,Vi a.2]
def IZ(v:Value):Prop:=∃x y:Int,v=.agg #[Vi x,Vi y]
theorem RdC.qj{α β:Type}{V:World->α->Value->Prop}{V':World->β->Value->Prop}{r:RdR α}{r':RdR β}{v v' err:Value}(h:RdC V Z w b s ca r v err)(c:r=.error x)(a:r'=.error x)(d:Z' v'):RdC V' Z' w b s ca r' v' err:=by
 obtain⟨e,f,_,g⟩:=h.err c;exact RdC.qq a ⟨e,f,d,g⟩
theorem RdC.kq{α:Type}{V:World->α->Value->Prop}{r:RdR α}{v err:Value}(h:RdC V Z w b s ca r v err)(a:r=.error x):∃fa:Nat,err=.iface 81 (Vp fa):=ZM.shape (h.err a).2.1
theorem ZBy(s:BA)(p b:Nat)(w:World)(K:RdAt w b s p)(hc:Zc5 w ca)(hb:20<=b)(hp:p<=s.size)(hs:s.size<=maxLen) :
  CP 140 #[Vp b] w fun e u=>∃v err,e=.returned (.tuple #[v,err])/\Hid (RdC IV IZ u b s ca (ZbN (bl s) p) v err)/\w.grownBy u (some b):=by
 have a1:=K.lt;have N:Hid (∀(p n:Nat) (w:World),RdAt w b s p->Zc5 w ca->p<=s.size->n<=4->CP 80 #[Vp b,Vi n] w _):=hid (fun p n w B L M h4=>Zis s p n b ca w B L M hs h4);have O:Hid (Zc5 w ca):=hc;have P:=hid K;have c1:w.cell? ⟨b,1,none⟩=some (Vi p):=K.cell 1;go_enter func140,ntmps140
 go_wp2_with fail
 refine Zm fun W Q=>?_;have i:BW w W:=by rw[Q];exact Zbal
 have R:Hid (BAt W w.heap.size [Vi 0,Vi 0] 159):=hid (by rw[Q];exact bnw);have S:Hid (w.grownBy W (some b)):=hid (Zw i);have D:=hid (O.below i);have T:=hid (P.below i);refine(N.out p 1 W T.out D.out hp Om).mono ?_;rintro e j ⟨v,err,rfl,g,k⟩;have l:Hid (w.grownBy j (some b)):=hid (Zj S.out k);have d:=hid (R.grown k (by intro e;injection e with e;omega));have E:Hid (Zc5 j ca):=hid (D.grown k hb);cases c:Zbr (bl s) p 1 with
 | error x=>
  obtain⟨fa,rfl⟩:=g.kq c;have m:Hid (RdC IV IZ j b s ca (ZbN (bl s) p) (.agg #[Vi 0,Vi 0]) (.iface 81 (Vp fa))):=hid (g.qj c (by unfold ZbN;rw[c]) ⟨0,0,rfl⟩);obtain⟨_,_,rfl,_⟩:=g.err c;have f0:=d.frozen;have c0:=d.cell;go_wp2;exact ret2 (r:=.tuple #[.agg #[Vi 0,Vi 0],.iface 81 (Vp fa)]) (fun W s0 s1=>by simp[results,results140,go_sem,s0,s1]) rfl d.out ⟨_,_,rfl,m.kept (Zka j w.heap.size (Vi 0) (Vi 0)) d.out Dc Dc (fun _ h=>h),Zgr l.out (Yac _) (Vi 0) (Vi 0)⟩
 | ok x=>
  obtain⟨op,q⟩:=x;obtain⟨rfl,rfl,U⟩:=g.ok c;have o:=(Zev c).2.2.2;have V:q<=s.size:=by have:=Zev c;rw[Zd]at this;simp only at this;omega
  simp only at U o;have o:op<256:=o;have F:=hid U
  have X:Hid (ZbN (bl s) p=if 13<op then .error (9,p)else match Zbr (bl s) q 2 with
   | .error e=>.error e
   | .ok y=>.ok ((op,y.1),y.2)):=hid (by unfold ZbN;rw[c];rfl)
  have f0:=d.frozen;have c0:=d.cell 0;have c1:=d.cell 1;simp only[Zget]at c0 c1;by_cases G:13<op
  ·have C:Hid (ZbN (bl s) p=.error (9,p)):=hid (by rw[X.out,if_pos G]);have hd:(13:Int)<op:=by omega
   go_wp2_with fail
   refine(ZfX ca E.out).mono ?_;rintro e z ⟨v,rfl,Y,t⟩;have m:Hid (RdC IV IZ z b s ca (ZbN (bl s) p) (.agg #[Vi 0,Vi 0]) v):=hid (RdC.qq C.out ⟨rfl,Y.out,⟨0,0,rfl⟩,_,F.below t⟩);have A:Hid (w.grownBy z (some b)):=hid (ZeT l.out t);have f:=hid (d.below t);obtain⟨fa,rfl⟩:=ZM.shape Y.out;have f0:=f.frozen;have c0:=f.cell;go_wp2;exact ret2 (r:=.tuple #[.agg #[Vi 0,Vi 0],.iface 81 (Vp fa)]) (fun W s0 s1=>by simp[results,results140,go_sem,s0,s1]) rfl f.out ⟨_,_,rfl,m.kept (Zka z w.heap.size (Vi 0) (Vi 0)) f.out Dc Dc (fun _ h=>h),Zgr A.out (Yac _) (Vi 0) (Vi 0)⟩
  ·have hd:¬(13:Int)<op:=by omega
   have C:Hid (ZbN (bl s) p=match Zbr (bl s) q 2 with
    | .error e=>.error e
    | .ok y=>.ok ((op,y.1),y.2)):=hid (by rw[X.out,if_neg G])
   go_wp2_with fail
   refine(N.out q 2 j F.out E.out V Om).mono ?_;rintro e z ⟨v,err,rfl,g,H⟩;have A:Hid (w.grownBy z (some b)):=hid (Zj l.out H);have f:=hid (d.grown H (by intro e;injection e with e;omega));have f0:=f.frozen;have c0:=f.cell
   obtain⟨a,Z,a0,m⟩:∃a:Nat,v=Vi a/\(err=.nilIface∨∃fa:Nat,err=.iface 81 (Vp fa))/\Hid (RdC IV IZ z b s ca (ZbN (bl s) p) (.agg #[Vi op,Vi a]) err):=by
    cases c:Zbr (bl s) q 2 with
    | error x=>
     obtain⟨_,_,hz,_⟩:=g.err c;exact⟨0,hz,Or.inr (g.kq c),hid (g.qj c (by rw[C.out,c]) ⟨_,_,rfl⟩)⟩
    | ok x=>
     obtain⟨B,L,M⟩:=g.ok c;exact⟨x.1,L,Or.inl B,hid (RdC.mkOk (x:=((op,x.1),x.2)) (by rw[C.out,c]) ⟨B,rfl,M⟩)⟩
   subst Z;rcases a0 with rfl|⟨fa,rfl⟩
   all_goals
    go_wp2;change bodyPost _ _ _ _ _ (set2 z w.heap.size (Vi op) (Vi a));have st:=ZdS f.out (x:=Vi op) (y:=Vi a);have s0:=st.cell;have I:=hid (m.kept (Zka z w.heap.size (Vi op) (Vi a)) f.out Dc Dc (fun _ h=>h));have J:=hid (Zgr A.out (Yac _) (Vi op) (Vi a));generalize set2 z w.heap.size (Vi op) (Vi a)=WX at *
   ·exact bodyPost_ret (v:=.tuple #[.agg #[Vi op,Vi a],.nilIface]) (by simp[results,results140,go_sem,s0]) rfl ⟨_,_,rfl,I,J.out⟩
   ·exact bodyPost_ret (v:=.tuple #[.agg #[Vi op,Vi a],.iface 81 (Vp fa)]) (by simp[results,results140,go_sem,s0]) rfl ⟨_,_,rfl,I,J.out⟩
theorem ZrS(s:BA)(p b:Nat)(w:World)(H:RdAt w b s p)(k:Zc5 w ca)(I:20<=b)(J:p<=s.size)(l:s.size<=maxLen) :
  CP 182 #[Vp b] w fun e u=>∃v err,e=.returned (.tuple #[v,err])/\Hid (RdC SVt SZv u b s ca (ZcH (bl s) p) v err)/\w.grownBy u (some b):=by
 have K:Hid (CP 80 #[Vp b,Vi (2:Nat)] w _):=hid (Zis s p 2 b ca w H k J l Om);have L:Hid (∀(p n:Nat) (w:World),RdAt w b s p->Zc5 w ca->p<=s.size->n<=70000->CP 141 #[Vp b,Vi n] w _):=hid (fun p n w f g m M=>Zm1 s p n b ca w f g m l M);have o:Hid (Zc5 w ca):=k;go_enter func182,ntmps182
 go_wp2_with fail
 refine K.mono ?_;rintro e h ⟨v,err,rfl,c,i⟩;cases a:Zbr (bl s) p 2 with
 | error x=>
  obtain⟨fa,rfl⟩:=c.kq a;have j:Hid (RdC SVt SZv h b s ca (ZcH (bl s) p) (.string ⟨#[]⟩) (.iface 81 (Vp fa))):=hid (c.qj a (by unfold ZcH;rw[a]) rfl);obtain⟨_,_,rfl,_⟩:=c.err a;go_wp2;go_ret2;exact⟨_,_,rfl,j,i⟩
 | ok x=>
  obtain⟨n,q⟩:=x;obtain⟨rfl,rfl,r⟩:=c.ok a;have d:=(Zev a).2.2.2;have A:q<=s.size:=by have:=Zev a;rw[Zd]at this;simp only at this;omega
  simp only at r d;have d:n<65536:=d;have B:=hid r;have C:Hid (Zc5 h ca):=hid (o.grown i I);have N:Hid (ZcH (bl s) p=Zcg (bl s) q n):=hid (by unfold ZcH;rw[a])
  go_wp2_with fail
  refine(L.out q n h B.out C.out A Om).mono ?_;rintro e z ⟨v,err,rfl,c,D⟩;have E:Hid (w.grownBy z (some b)):=hid (Zj i D);have j:Hid (RdC SVt SZv z b s ca (ZcH (bl s) p) v err):=hid (by rw[N.out];exact c.out)
  obtain⟨⟨t,F⟩,G⟩:(∃t:BA,v=.string t)/\(err=.nilIface∨∃fa:Nat,err=.iface 81 (Vp fa)):=by
   cases a:Zcg (bl s) q n with
   | error x=>
    obtain⟨_,_,O,_⟩:=c.err a;exact⟨⟨_,O⟩,Or.inr (c.kq a)⟩
   | ok x=>
    obtain⟨f,⟨t,g,_⟩,m⟩:=c.ok a;exact⟨⟨t,g⟩,Or.inl f⟩
  subst F;rcases G with rfl|⟨fa,rfl⟩
  all_goals
   go_wp2;go_ret2;exact⟨_,_,rfl,j,E.out⟩
def OneC{α:Type}(f:FuncId)(V:World->α->Value->Prop)(Z:Value->Prop)(w0:World)(b:Nat)(s:BA)(ca:Addr)(one:Nat->RdR α):Prop:=
 ∀(p:Nat) (w:World),BW w0 w->RdAt w b s p->p<=s.size->
  CP f #[Vp b] w fun e w'=>∃v err,e=.returned (.tuple #[v,err])/\Hid (RdC V Z w' b s ca (one p) v err)/\w.grownBy w' (some b)
theorem ZbV(h:BW w0 w)(a:w.grownBy w' (some b))(d:w0.heap.size<=b):BW w0 w':=
 h.trans ⟨a.os,a.tape,a.output,a.size,fun k c=>a.block k (Yaw c h.size) (by intro e;injection e with e;omega)⟩
def RowZ(v:Value):Prop:=v=S0
def Zef(w:World)(cs:List Int)(v:Value):Prop:=w.ownsRow 0 3 1 v cs.length (cs.map (.int .i64))
theorem Tryz.infoIntV:(Tryz.prog.info? 3).map (fun i=>(i.zero,i.size,i.bytes))=some (some (Vi 0),1,8):=by kernel_rfl
theorem Tryz.infoIns:(Tryz.prog.info? 159).map (fun i=>(i.zero,i.size,i.bytes))=some (some (.agg #[Vi 0,Vi 0]),2,16):=by kernel_rfl
theorem Zj3{e:TypeId}(h:w.ownsRow base e sz v n xs)(a:w.grownBy w' (some b))(c:b<base):w'.ownsRow base e sz v n xs:=
 h.kept a (Or.inr (fun e=>by have:=(h.lt b e).1;omega))
theorem ZyS(s:BA)(p:Nat)(b:Nat)(V:BW w0 w)(W:w0.heap.size<=b)(H:RdAt w b s p)(X:p<=s.size)(hn:n<=65535){one:Nat->RdR Int}(Y:OneC 134 KV NZ w0 b s ca one)(r:∀p x,one p=.ok x->p<=s.size->x.2<=s.size) :
  CP 133 #[Vp b,Vi n,.func (.func 134) #[] #[]] w fun e I=>∃v err,e=.returned (.tuple #[v,err])/\Hid (RdC Zef RowZ I b s ca (many one p n) v err)/\w.grownBy I (some b):=by
 have J:=H.lt;obtain⟨i0,Z,K,L,M⟩:=info_parts Tryz.infoIntV;have H1:=hid Y;have HQ:=hid r;have H0:=hid V;have HR:=hid H;have N:=hid W;go_enter func133,ntmps133;go_wp2
 go_loopw [8, 12] (fun v i wr => ∃ (k q : Nat) (xs : List Int), k <= n /\ i = Vi k /\ q <= s.size /\ Hid (many one p k = .ok (xs, q)) /\ Hid (RdAt wr b s q) /\ xs.length = k /\ wr.ownsRow w.heap.size 3 1 v xs.length (xs.map (.int .i64)) /\ Hid (w.grownBy wr (some b)))
   (fun _ i _=>n - (intOf i).toNat)
 case atStart=>exact⟨0,p,[],Yag _,rfl,X,hid rfl,HR,rfl,Ybc _ _ _ _,hid (ZbM _ _)⟩
 case round=>
  obtain⟨k,q,xs,hk,rfl,r,t,l,C,c,A⟩:=hrel;have g:=hid C;clear C;by_cases O:k<n
  ·have a0:(k:Int)<n:=by omega
   obtain⟨av,cp,rfl⟩:=Zl c;have P:=hid c;clear c
   go_wp2_with fail
   refine(H1 q _ (ZbV H0 A N) l r).mono ?_;rintro e w1 ⟨v,err,rfl,j,m⟩;have o:=hid (Zj A m);have a:=Zj3 P m J;clear m P A l;cases d:one q with
   | error x=>
    obtain⟨fa,rfl⟩:=j.kq d;have F:Hid (RdC Zef RowZ _ b s _ _ _ _):=hid (j.qj d (ZgS t d n O) rfl);have G:=(j.err d).2.2.1;obtain rfl:=G;clear j d a;go_wp2;go_ret2;exact⟨_,_,rfl,F,o⟩
   | ok x=>
    obtain⟨y,q2⟩:=x;obtain⟨rfl,hv,D⟩:=j.ok d;have Q:=hid (ZjI t d);have E:=HQ q _ d r;have R:=hid D;simp only at E;have a1:=o.size;obtain rfl:=hv;clear j d D t
    go_wp2_with (at_builtin;refine wpList_append_own _ rfl (.tmp 23) (.tmp 25) 54 rfl w.heap.size 3 i0 (Vi 0) 1 8 underlying54 Z K L M rfl Dc _ _ _ rfl (a.alloc _) ⟨w1.heap.size,0,none⟩ 1 1 [Vi y] rfl rfl ?c1 ?c2 ?c3 ?c4 ?c5 ?_)
    case c1=>exact ZcY rfl
    case c2=>intro u S;simp at S;rw[S];rfl
    case c3=>have:=g.out;unfold maxLen;omega
    case c4=>have:=g.out;omega
    case c5=>have:=g.out;simp;omega
    intro v' w3 h f _;have T:=hid (Zfn (ZbR o _) f (fun z G=>(a.lt z G).1));have U:Hid (RdAt _ b s _):=hid ((R.below Zbal).grown f (fun e=>by have:=(a.lt b e.symm).1;omega));have B:w3.ownsRow w.heap.size 3 1 v' (xs++[y]).length ((xs++[y]).map (.int .i64)):=Yab▸Yaq▸h;clear a f h;go_wp2
    go_roundw
    case rel=>exact⟨k+1,q2,xs++[y],by omega,by go_num,E,Q,U,by rw[Yab,g];rfl,B,T⟩
    case measure=>simp[intOf];omega
  ·obtain rfl:k=n:=by omega
   obtain⟨av,cp,rfl⟩:=Zl c;have F:Hid (RdC Zef RowZ _ b s ca _ _ _):=hid (RdC.mkOk t ⟨rfl,Zgi c,l⟩);clear c;go_wp2;go_ret2;exact⟨_,_,rfl,F,A⟩
theorem ZmB{e1 e2:TypeId}(c:w.ownsRow b1 e1 s1 v1 n1 xs1)(d:w.ownsRow b2 e2 s2 v2 n2 xs2)(f:w.grownBy w' v2.ownBlock)(g:e1≠e2):w'.ownsRow b1 e1 s1 v1 n1 xs1:=
 ZdA c (fun k a => f.block k (c.lt k a).2 (fun e => by
   rcases ZmC c d g with h|h
   · rw[h]at a;cases a
   · exact h (a.trans e)))
theorem ZgZ{e1:TypeId}(a:w.ownsRow b1 e1 s1 v1 n1 xs1){t:TypeId}(f:BAt w b c t)(g:w.grownBy w' (some b))(h:t≠e1):w'.ownsRow b1 e1 s1 v1 n1 xs1:=
 ZdA a (fun k d => g.block k (a.lt k d).2 (fun e => by
   cases e;exact Zcx a f h d.symm))
def InsV(w:World)(is:List (Nat×Nat))(v:Value):Prop:=w.ownsRow 0 159 2 v is.length (ZdL is)
structure Pk where
 nm:BA
 la:Option Addr
 ln:Nat
 lc:Nat
 nd:Nd
 n:Nat
def Pk.enc(x:Pk):List Value:=[.string x.nm,.slice x.la x.ln x.lc,Vi x.n]
def Pk.pr(x:Pk):Nd×Nat:=(x.nd,x.n)
structure Pk.ok (w:World) (x:Pk):Prop where
 nm:bl x.nm=x.nd.name
 cs:ZX w (.slice x.la x.ln x.lc) x.nd.ku
def ZdJ(l:List Pk):List Value:=(l.map Pk.enc).flatten
theorem ZvM(l m:List Pk):ZdJ (l++m)=ZdJ l++ZdJ m:=by unfold ZdJ;rw[Yaq,List.flatten_append]
theorem ZoU(l:List Pk)(j:Nat)(c:j<l.length):(ZdJ l)[j*3]?=some (.string l[j].nm)/\(ZdJ l)[j*3+1]?=some (.slice l[j].la l[j].ln l[j].lc)/\(ZdJ l)[j*3+2]?=some (Vi l[j].n):=by
 induction l generalizing j with
 | nil=>simp at c
 | cons a l ih=>
  have e:ZdJ (a::l)=.string _::.slice _ _ _::.int _ _::ZdJ l:=rfl;cases j with
  | zero=>rw[e];exact⟨rfl,rfl,rfl⟩
  | succ j=>
   have h:=ih j (by simpa using c);rw[e,show(j+1)*3=j*3+1+1+1 by omega];simpa using h
def ZdG(w:World)(a:Nd×Nat)(v:Value):Prop:=∃x:Pk,v=.agg #[.string x.nm,.slice x.la x.ln x.lc,Vi x.n]/\x.pr=a/\x.ok w
def Zfc(v:Value):Prop:=v=.agg #[.string ⟨#[]⟩,S0,Vi 0]
def Zek(w:World)(ps:List (Nd×Nat))(v:Value):Prop:=∃xs:List Pk,w.ownsRow 0 156 3 v xs.length (ZdJ xs)/\xs.map Pk.pr=ps/\∀x∈xs,x.ok w
structure Gp where
 la:Option Addr
 ln:Nat
 lc:Nat
 ns:List (LB)
def Gp.ok(w:World)(x:Gp):Prop:=∃bs:List BA,w.ownsRow 0 9 1 (.slice x.la x.ln x.lc) bs.length (Zbc bs)/\((bs.map bl).Pairwise fun a b=>Op.bytesLess b a=false)/\(∀y,y∈bs.map bl ↔ y∈x.ns)/\bs.length<=70001
def ZfZ(l:List Gp):List Value:=l.map fun x=>.slice x.la x.ln x.lc
def ZfM(w:World)(a:List (LB))(v:Value):Prop:=∃x:Gp,v=.slice x.la x.ln x.lc/\x.ns=a/\x.ok w
def Zeh(w:World)(gs:List (List (LB)))(v:Value):Prop:=∃xs:List Gp,w.ownsRow 0 122 1 v xs.length (ZfZ xs)/\xs.map Gp.ns=gs/\∀x∈xs,x.ok w
theorem Pk.ok.below{x:Pk}(h:x.ok w)(a:BW w w'):x.ok w':=⟨h.nm,h.cs.below a⟩
theorem Pk.ok.jm{x:Pk}(h:x.ok w){t:TypeId}(a:BAt w b c t)(d:w.grownBy w' (some b))(e:t≠224):x.ok w':=by
 obtain⟨bs,f,g⟩:=h.cs;exact⟨h.nm,bs,ZgZ f a d e,g⟩
theorem Pk.ok.kept2{x:Pk}(h:x.ok w){e2:TypeId}(a:w.ownsRow b2 e2 s2 v2 n2 xs2)(c:w.grownBy w' v2.ownBlock)(d:224≠e2):x.ok w':=by
 obtain⟨bs,e,f⟩:=h.cs;exact⟨h.nm,bs,ZmB e a c d,f⟩
theorem Gp.ok.below{x:Gp}(h:x.ok w)(a:BW w w'):x.ok w':=by
 obtain⟨bs,c,d⟩:=h;exact⟨bs,Zn c a,d⟩
theorem Gp.ok.jm{x:Gp}(h:x.ok w){t:TypeId}(a:BAt w b c t)(d:w.grownBy w' (some b))(e:t≠9):x.ok w':=by
 obtain⟨bs,f,g⟩:=h;exact⟨bs,ZgZ f a d e,g⟩
theorem Gp.ok.kept2{x:Gp}(h:x.ok w){e2:TypeId}(a:w.ownsRow b2 e2 s2 v2 n2 xs2)(c:w.grownBy w' v2.ownBlock)(d:9≠e2):x.ok w':=by
 obtain⟨bs,e,f⟩:=h;exact⟨bs,ZmB e a c d,f⟩
theorem Tryz.infoSelC:(Tryz.prog.info? 156).map (fun i=>(i.zero,i.size,i.bytes))=some (some (.agg #[.string ByteArray.empty,S0,Vi 0]),3,48):=by kernel_rfl
theorem Tryz.infoStrs:(Tryz.prog.info? 122).map (fun i=>(i.zero,i.size,i.bytes))=some (some S0,1,24):=by kernel_rfl
theorem RdC.belowE{α:Type}{V:World->α->Value->Prop}{r:RdR α}{v err:Value}(h:RdC V Z w b s ca r v err)(a:r=.error x)(c:BW w w'):RdC V Z w' b s ca r v err:=by
 obtain⟨d,e,f,p,g⟩:=h.err a;exact RdC.qq a ⟨d,e.below c,f,p,g.below c⟩
theorem ZyR(s:BA)(b:Nat)(w:World)(W:BW w0 w)(X:w0.heap.size<=b)(I:RdAt w b s p)(Y:p<=s.size)(hn:n<=65535){one:Nat->RdR (Nat×Nat)}(Z:OneC 140 IV IZ w0 b s ca one)(r:∀p x,one p=.ok x->p<=s.size->x.2<=s.size) :
  CP 139 #[Vp b,Vi n,.func (.func 140) #[] #[]] w fun e J=>∃v err,e=.returned (.tuple #[v,err])/\Hid (RdC InsV RowZ J b s ca (many one p n) v err)/\w.grownBy J (some b):=by
 have K:=I.lt;obtain⟨i0,hi,L,M,N⟩:=info_parts Tryz.infoIns;have H1:=hid Z;have HQ:=hid r;have H0:=hid W;have HR:=hid I;have O:=hid X;go_enter func139,ntmps139;go_wp2
 go_loopw [8, 12] (fun v i wr => ∃ (k q : Nat) (xs : List (Nat × Nat)), k <= n /\ i = Vi k /\ q <= s.size /\ Hid (many one p k = .ok (xs, q)) /\ Hid (RdAt wr b s q) /\ xs.length = k /\ wr.ownsRow w.heap.size 159 2 v xs.length (ZdL xs) /\ Hid (w.grownBy wr (some b)))
   (fun _ i _=>n - (intOf i).toNat)
 case atStart=>exact⟨0,p,[],Yag _,rfl,Y,hid rfl,HR,rfl,Ybc _ _ _ _,hid (ZbM _ _)⟩
 case round=>
  obtain⟨k,q,xs,hk,rfl,r,j,l,C,c,t⟩:=hrel;have g:=hid C;clear C;by_cases D:k<n
  ·have a0:(k:Int)<n:=by omega
   obtain⟨av,cp,rfl⟩:=Zl c;have P:=hid c;clear c
   go_wp2_with fail
   refine(H1 q _ (ZbV H0 t O) l r).mono ?_;rintro e w1 ⟨v,err,rfl,h,m⟩;have o:=hid (Zj t m);have a:=Zj3 P m K;clear m P t l;cases d:one q with
   | error x=>
    obtain⟨fa,rfl⟩:=h.kq d;have G:Hid (RdC InsV RowZ _ b s _ _ _ _):=hid (h.qj d (ZgS j d n D) rfl);have H:=(h.err d).2.2.1;obtain⟨x0,y0,rfl⟩:=H;have Q:=hid (ZgS j d n D);clear h d a;go_wp2;go_ret2;exact⟨_,_,rfl,hid (G.belowE Q Zbal),ZbR o _⟩
   | ok x=>
    obtain⟨z,q2⟩:=x;obtain⟨rfl,hv,E⟩:=h.ok d;have R:=hid (ZjI j d);have F:=HQ q _ d r;have S:=hid E;simp only at F;have a1:=o.size;obtain rfl:=hv;obtain⟨y,hy⟩:∃y,y=z:=⟨_,rfl⟩
    subst hy;clear h d E j
    go_wp2_with (at_builtin;refine wpList_append_own _ rfl (.tmp 23) (.tmp 25) 57 rfl w.heap.size 159 i0 (.agg #[Vi 0,Vi 0]) 2 16 underlying57 hi L M N rfl Dc _ _ _ rfl ((a.alloc _).alloc _) ⟨w1.heap.size+1,0,none⟩ 1 1 [Vi y.1,Vi y.2] rfl rfl ?c1 ?c2 ?c3 ?c4 ?c5 ?_)
    case c1=>exact ZcY (by simp)
    case c2=>intro u T;simp at T;rcases T with rfl|rfl <;> rfl
    case c3=>have:=g.out;unfold maxLen;omega
    case c4=>have:=g.out;omega
    case c5=>have:=g.out;simp;omega
    intro v' w3 A f _;have U:=hid (Zfn (ZbR (ZbR o _) _) f (fun z H=>(a.lt z H).1));have V:Hid (RdAt _ b s _):=hid ((S.below (Zbal.alloc (by simp) _)).grown f (fun e=>by have:=(a.lt b e.symm).1;omega));have B:w3.ownsRow w.heap.size 159 2 v' (xs++[y]).length (ZdL (xs++[y])):=by rwa [Yab,Zwd]
    clear a f A;go_wp2
    go_roundw
    case rel=>exact⟨k+1,q2,xs++[y],by omega,by go_num,F,R,V,by rw[Yab,g];rfl,B,U⟩
    case measure=>simp[intOf];omega
  ·obtain rfl:k=n:=by omega
   obtain⟨av,cp,rfl⟩:=Zl c;have G:Hid (RdC InsV RowZ _ b s ca _ _ _):=hid (RdC.mkOk j ⟨rfl,Zgi c,l⟩);clear c;go_wp2;go_ret2;exact⟨_,_,rfl,G,t⟩
theorem ZyT(s:BA)(b:Nat)(w:World)(h0:BW w0 w)(hb:w0.heap.size<=b)(N:RdAt w b s p)(hp:p<=s.size)(hn:n<=65535){one:Nat->RdR (Nd×Nat)}(h1:OneC 136 ZdG Zfc w0 b s ca one)(A:∀p x,one p=.ok x->p<=s.size->x.2<=s.size) :
  CP 135 #[Vp b,Vi n,.func (.func 136) #[] #[]] w fun e O=>∃v err,e=.returned (.tuple #[v,err])/\Hid (RdC Zek RowZ O b s ca (many one p n) v err)/\w.grownBy O (some b):=by
 have P:=N.lt;obtain⟨i0,hi,Q,R,S⟩:=info_parts Tryz.infoSelC;have H1:=hid h1;have HQ:=hid A;have H0:=hid h0;have HR:=hid N;have T:=hid hb;go_enter func135,ntmps135;go_wp2
 go_loopw [8, 12] (fun v i wr => ∃ (k q : Nat) (xs : List Pk), k <= n /\ i = Vi k /\ q <= s.size /\ Hid (many one p k = .ok (xs.map Pk.pr, q)) /\ Hid (RdAt wr b s q) /\ xs.length = k /\ wr.ownsRow w.heap.size 156 3 v xs.length (ZdJ xs) /\ Hid (w.grownBy wr (some b)) /\ Hid (∀ x ∈ xs, x.ok wr))
   (fun _ i _=>n - (intOf i).toNat)
 case atStart=>exact⟨0,p,[],Yag _,rfl,hp,hid rfl,HR,rfl,Ybc _ _ _ _,hid (ZbM _ _),hid (fun x f=>(by cases f))⟩
 case round=>
  obtain⟨k,q,xs,hk,rfl,A,o,h,E,c,B,r⟩:=hrel;have j:=hid E;clear E;by_cases F:k<n
  ·have a3:(k:Int)<n:=by omega
   obtain⟨av,cp,rfl⟩:=Zl c;have U:=hid c;clear c
   go_wp2_with fail
   refine(H1 q _ (ZbV H0 B T) h A).mono ?_;rintro e V ⟨v,err,rfl,m,l⟩;have t:=hid (Zj B l);have a:=Zj3 U l P;have J:=hid (fun x f=>(r x f).jm h l Dc);clear r;clear l U B h;cases g:one q with
   | error x=>
    obtain⟨fa,rfl⟩:=m.kq g;have K:Hid (RdC Zek RowZ _ b s _ _ _ _):=hid (m.qj g (ZgS o g n F) rfl);have L:=(m.err g).2.2.1;obtain rfl:=L;have W:=hid (ZgS o g n F);clear m g a;go_wp2;go_ret2;exact⟨_,_,rfl,hid (K.belowE W Zbal),ZbR t _⟩
   | ok x=>
    obtain⟨z,q2⟩:=x;obtain⟨rfl,hv,G⟩:=m.ok g;have a4:=hid (ZjI o g);have H:=HQ q _ g A;have X:=hid G;simp only at H;have a5:=t.size;obtain⟨y,rfl,rfl,I⟩:=hv;have Y:=hid I;clear I;clear m g G o
    go_wp2_with (at_builtin;refine wpList_append_own _ rfl (.tmp 23) (.tmp 25) 55 rfl w.heap.size 156 i0 (.agg #[.string ByteArray.empty,S0,Vi 0]) 3 48 underlying55 hi Q R S rfl Dc _ _ _ rfl ((a.alloc _).alloc _) ⟨V.heap.size+1,0,none⟩ 1 1 [.string y.nm,.slice y.la y.ln y.lc,Vi y.n] rfl rfl ?c1 ?c2 ?c3 ?c4 ?c5 ?_)
    case c1=>exact ZcY (by simp)
    case c2=>intro u Z;simp at Z;rcases Z with rfl|rfl|rfl <;> rfl
    case c3=>have:=j.out;unfold maxLen;omega
    case c4=>have:=j.out;omega
    case c5=>have:=j.out;simp;omega
    intro v' w3 C d _;have a0:=hid (Zfn (ZbR (ZbR t _) _) d (fun z L=>(a.lt z L).1));have a1:Hid (RdAt _ b s _):=hid ((X.below (Zbal.alloc (by simp) _)).grown d (fun e=>by have:=(a.lt b e.symm).1;omega));have D:w3.ownsRow w.heap.size 156 3 v' (xs++[y]).length (ZdJ (xs++[y])):=by rwa [Yab,ZvM]
    have M : Hid (∀ x ∈ xs ++ [y], x.ok _) := hid (fun x f => by
      have a2:x.ok V:=by
        rcases Yar.1 f with f|f
        · exact J x f
        · rw[Yap]at f;subst f;exact Y
      exact(a2.below (Zbal.alloc (by simp) _)).kept2 ((a.alloc _).alloc _) d Dc)
    clear a d C;go_wp2
    go_roundw
    case rel=>exact⟨k+1,q2,xs++[y],by omega,by go_num,H,hid (by rwa [Yaq]),a1,by rw[Yab,j];rfl,D,a0,M⟩
    case measure=>simp[intOf];omega
  ·obtain rfl:k=n:=by omega
   obtain⟨av,cp,rfl⟩:=Zl c;have K:Hid (RdC Zek RowZ _ b s ca _ _ _):=hid (RdC.mkOk o ⟨rfl,⟨xs,Zgi c,rfl,r⟩,h⟩);clear c;go_wp2;go_ret2;exact⟨_,_,rfl,K,B⟩
theorem ZyQ(s:BA)(b:Nat)(w:World)(h0:BW w0 w)(hb:w0.heap.size<=b)(M:RdAt w b s p)(hp:p<=s.size)(hn:n<=65535){one:Nat->RdR (List (LB))}(h1:OneC 138 ZfM RowZ w0 b s ca one)(r:∀p x,one p=.ok x->p<=s.size->x.2<=s.size) :
  CP 137 #[Vp b,Vi n,.func (.func 138) #[] #[]] w fun e N=>∃v err,e=.returned (.tuple #[v,err])/\Hid (RdC Zeh RowZ N b s ca (many one p n) v err)/\w.grownBy N (some b):=by
 have O:=M.lt;obtain⟨i0,hi,P,Q,R⟩:=info_parts Tryz.infoStrs;have H1:=hid h1;have HQ:=hid r;have H0:=hid h0;have HR:=hid M;have S:=hid hb;go_enter func137,ntmps137;go_wp2
 go_loopw [8, 12] (fun v i wr => ∃ (k q : Nat) (xs : List Gp), k <= n /\ i = Vi k /\ q <= s.size /\ Hid (many one p k = .ok (xs.map Gp.ns, q)) /\ Hid (RdAt wr b s q) /\ xs.length = k /\ wr.ownsRow w.heap.size 122 1 v xs.length (ZfZ xs) /\ Hid (w.grownBy wr (some b)) /\ Hid (∀ x ∈ xs, x.ok wr))
   (fun _ i _=>n - (intOf i).toNat)
 case atStart=>exact⟨0,p,[],Yag _,rfl,hp,hid rfl,HR,rfl,Ybc _ _ _ _,hid (ZbM _ _),hid (fun x f=>(by cases f))⟩
 case round=>
  obtain⟨k,q,xs,hk,rfl,r,t,l,C,d,H,D⟩:=hrel;have h:=hid C;clear C;by_cases T:k<n
  ·have a1:(k:Int)<n:=by omega
   obtain⟨av,cp,rfl⟩:=Zl d;have HO:=hid d
   go_wp2_with fail
   refine(H1 q _ (ZbV H0 H S) l r).mono ?_;rintro e U ⟨v,err,rfl,j,m⟩;have o:=hid (Zj H m);have a:=Zj3 HO m O;have I:=hid (fun x f=>(D x f).jm l m Dc);cases g:one q with
   | error x=>
    obtain⟨fa,rfl⟩:=j.kq g;have J:Hid (RdC Zeh RowZ _ b s _ _ _ _):=hid (j.qj g (ZgS t g n T) rfl);have K:=(j.err g).2.2.1;obtain rfl:=K;clear j g a;go_wp2;go_ret2;exact⟨_,_,rfl,J,o⟩
   | ok x=>
    obtain⟨z,q2⟩:=x;obtain⟨rfl,hv,E⟩:=j.ok g;have a2:=hid (ZjI t g);have F:=HQ q _ g r;have V:=hid E;simp only at F;have a3:=o.size;obtain⟨y,rfl,rfl,G⟩:=hv;have W:=hid G;clear G;clear j g E t
    go_wp2_with (at_builtin;refine wpList_append_own _ rfl (.tmp 23) (.tmp 25) 56 rfl w.heap.size 122 i0 S0 1 24 underlying56 hi P Q R rfl Dc _ _ _ rfl (a.alloc _) ⟨U.heap.size,0,none⟩ 1 1 [.slice y.la y.ln y.lc] rfl rfl ?c1 ?c2 ?c3 ?c4 ?c5 ?_)
    case c1=>exact ZcY (by simp)
    case c2=>intro u X;simp at X;rw[X];rfl
    case c3=>have:=h.out;unfold maxLen;omega
    case c4=>have:=h.out;omega
    case c5=>have:=h.out;simp;omega
    intro v' w3 A c _;have Y:=hid (Zfn (ZbR o _) c (fun z K=>(a.lt z K).1));have Z:Hid (RdAt _ b s _):=hid ((V.below Zbal).grown c (fun e=>by have:=(a.lt b e.symm).1;omega));have B:w3.ownsRow w.heap.size 122 1 v' (xs++[y]).length (ZfZ (xs++[y])):=by rwa [Yab,show ZfZ (xs++[y])=ZfZ xs++[.slice y.la y.ln y.lc] by unfold ZfZ;rw[Yaq];rfl]
    have L : Hid (∀ x ∈ xs ++ [y], x.ok _) := hid (fun x f => by
      have a0:x.ok U:=by
        rcases Yar.1 f with f|f
        · exact I x f
        · rw[Yap]at f;subst f;exact W
      exact(a0.below Zbal).kept2 (a.alloc _) c Dc)
    clear a c A;go_wp2
    go_roundw
    case rel=>exact⟨k+1,q2,xs++[y],by omega,by go_num,F,hid (by rwa [Yaq]),Z,by rw[Yab,h];rfl,B,Y,L⟩
    case measure=>simp[intOf];omega
  ·obtain rfl:k=n:=by omega
   obtain⟨av,cp,rfl⟩:=Zl d;have J:Hid (RdC Zeh RowZ _ b s ca _ _ _):=hid (RdC.mkOk t ⟨rfl,⟨xs,Zgi d,rfl,D⟩,l⟩);clear d;go_wp2;go_ret2;exact⟨_,_,rfl,J,H⟩

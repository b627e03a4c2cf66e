/- Parts. -/
import Derived.Test.YtcdgkkfipdoeeaaGreatDoorU09
set_option linter.all false
set_option maxRecDepth 100000
set_option maxHeartbeats 16000000
namespace Go.Proofs.YtcdgkkfipdoeeaaGreatDoor
open Go.RowKit LS Go.Proofs.Tryz
open Go.ChangeMaps (setBlock)
variable {ca:Addr}{s:BA}{c xs xs1 xs2:List Value}{a b b1 b2 base n1 n2 s1 s2 sz:Nat}{x:Nat×Nat}{v v1 v2:Value}{Z Z':Value->Prop}{w w':World}
theorem Zm8(w:World)(x k:Nat)(o:Obj)(h:k≠x):(setBlock w x o).heap[k]?=w.heap[k]?:=by simp[setBlock,Ne.symm h]
theorem Zz1{e:TypeId}{sa:Option Addr}{sn sc:Nat}(h:w.ownsRow base e sz (.slice sa sn sc) sn xs):w.ownsRow base e sz (.slice sa 0 sc) 0 []:=by
 obtain⟨k,a⟩:=h;refine⟨by simp,?_⟩;rcases a with ⟨a,_⟩|⟨g,cap,cur,c,d,f,l,i,j,m⟩
 ·injection a with e1 e2 e3;subst e1 e3;exact .inl ⟨rfl,rfl⟩
 ·injection c with e1 e2 e3;subst e1 e3;exact .inr ⟨_,_,cur,rfl,d,f,by omega,i,j,by simp⟩
theorem ZAn(w:World)(base mb x:Nat)(c0 c1 c2 c3 al:Value)(tm t2:Int)(gr:Value)(sa:Option Addr)(sn sc:Nat)(vs:List Value)(gs:List (Nat×Value))(es:Array MapEntry)(clock:Nat)(h:PSt w base mb c0 c1 c2 c3 al tm (.map (some x)) gr sa sn sc vs)(l:MapI w x gs es clock) :
  CP 95 #[Vp mb,Vi t2] w fun e u=>e=.returned (.tuple #[])/\Hid (PSt u base mb c0 c1 c2 c3 al t2 (.map (some x)) gr sa 0 sc [])/\Hid (MapI u x [] #[] clock)/\Hid (u.os=w.os/\u.tape=w.tape/\u.output=w.output/\w.heap.size<=u.heap.size/\∀k,k≠mb->k≠x->u.heap[k]?=w.heap[k]?):=by
 have m : x ≠ mb := fun e => by
   have o:=l.heap;rw[e]at o;have c:=o.symm.trans h.box;injection c with c;cases c
 obtain⟨a,f⟩:∃a,a=(w.setCell ⟨mb,5,none⟩ (Vi t2)).setCell ⟨mb,6,none⟩ (.slice sa 0 sc):=⟨_,rfl⟩
 have m5:w.cell? _=some _:=h.box.cell 5;have m6:w.cell? _=some _:=h.box.cell 6;have m7:w.cell? _=some _:=h.box.cell 7;have f5:=h.box.frozen 5;have f6:=h.box.frozen 6;have C:=h.box.lt;have q:BAt _ _ (pmC _ _ _ _ _ _ _ _ _) _:=f▸(h.box.setkM 5 _).setkM 6 _;have d:∀k,k≠mb->a.heap[k]?=w.heap[k]?:=fun k i=>by rw[f,Go.Deep.blk_setCell_other _ _ _ _ i,Go.Deep.blk_setCell_other _ _ _ _ i]
 have t:=fun T=>ZuC ((d x m).trans l.heap) T;rw[f]at t
 have p:Hid (PSt (setBlock a x (.map #[] clock)) base mb c0 c1 c2 c3 al t2 (.map (some x)) gr sa 0 sc []/\MapI (setBlock a x (.map #[] clock)) x [] #[] clock/\((setBlock a x (.map #[] clock)).os=w.os/\(setBlock a x (.map #[] clock)).tape=w.tape/\(setBlock a x (.map #[] clock)).output=w.output/\w.heap.size<=(setBlock a x (.map #[] clock)).heap.size/\∀k,k≠mb->k≠x->(setBlock a x (.map #[] clock)).heap[k]?=w.heap[k]?)):=by
  have v:x<a.heap.size:=by
   have:=(d x m).trans l.heap;exact(Array.getElem?_eq_some_iff.1 this).1
  have j:w.grownBy _ _:=f▸ZA (ZA (ZbM w (some mb)) (Or.inl rfl) _) (Or.inl rfl) _;refine⟨⟨(Zm8 _ x _ _ (fun e=>m e.symm)).trans q,?_,rfl⟩,⟨by simp[setBlock,v],⟨by simp,by simp,by simp⟩,rfl,fun g r=>nomatch r⟩,j.os,j.tape,j.output,?_,fun k o c=>(Zm8 _ x k _ c).trans (d k o)⟩
  ·have s:=Zz1 h.own;refine ZdA s (fun k i=>?_)
   have z:k≠mb:=by
    rintro rfl;exact Zcx s h.box Dc i.symm
   have A:k≠x:=by
    rintro rfl;rcases s.2 with ⟨c,_⟩|⟨g,cap,cur,B,_,r,_⟩
    ·rw[c]at i;cases i
    ·rw[B]at i;have n:some g=some k:=i;injection n with n;subst n;have c:=l.heap.symm.trans r;injection c with c;cases c
   exact(Zm8 _ x k _ A).trans (d k z)
  ·have:(setBlock a x (.map #[] clock)).heap.size=a.heap.size:=by simp[setBlock]
   rw[this];exact j.size
 rw[f]at p;clear q d f h l;go_enter func95,ntmps95;go_wp2;exact bodyPost_end (results_none rfl _ _ _) rfl ⟨rfl,hid p.1,hid p.2.1,hid p.2.2⟩
theorem ZAz(w:World)(base mb:Nat)(c0 c1 c2 c3 al:Value)(tm:Int)(sl gr:Value)(sa:Option Addr)(n sc:Nat)(vs:List Value)(va:Option Addr)(vn vc:Nat)(h:PSt w base mb c0 c1 c2 c3 al tm sl gr sa (n+1) sc (vs++[.iface 284 (.slice va vn vc)]))(o:n<=64) :
  CP 97 #[Vp mb] w fun e u=>e=.returned (.bool (decide (0<(vn:Int))))/\Hid (BW w u):=by
 have c:vs.length=n:=by have:=h.len;rw[List.length_append]at this;simpa using this
 obtain⟨g,cp,f⟩:=ZF h.own Om;injection f with hv1 hv2 hv3;subst hv1 hv3;have m6:w.cell? _=some _:=h.box.cell 6;have k0:=Zi h.own n (.iface 284 (.slice va vn vc)) (by rw[List.getElem?_append_right Om,c];simp);have i:=h.box.lt;have j:=Z1 h.own;have k:IntKind.i64.wrap (n)=(n):=by rw[IntKind.wrap_i64];omega
 have l:(n:Int)<(n)+1:=by omega
 have m:∀W:World,(Instr.typeAssert (.iface 284 (.slice va vn vc)) 196 284 true).run prog W=.ok (.tuple #[.slice va vn vc,.bool true]) W:=fun W=>by kernel_rfl
 clear h c;go_enter func97,ntmps97
 go_upto_region 1 with fail
 refine Zbn 17 (fun u=>u.cell? _=some _/\u.cell? _=some _) Kr (⟨m6,k0⟩) (fun a=>?_);clear m6 k0;refine Za 0 a (h:=?_);refine Za 1 a (h:=?_);refine Za 2 a (h:=?_);refine Za 3 a (h:=?_);refine Za 4 a (h:=?_);refine Za 5 a (h:=?_);refine Za 6 a (h:=?_);refine Za 7 a (h:=?_);refine Za 8 a (h:=?_);refine Za 9 a (h:=?_);refine Za 10 a (h:=?_);refine Za 11 a (h:=?_);refine Za 12 a (h:=?_);refine Za 13 a (h:=?_);refine Za 14 a (h:=?_);refine Za 15 a (h:=?_);refine Za 16 a (h:=?_);refine Zbl Kr Kr rfl Kr (fun K d=>?_);go_simp;refine d _ _ ?_;clear d K;go_wp2;go_ret;exact⟨rfl,hid belB⟩
abbrev RdAt (w:World) (b:Nat) (s:BA) (p:Nat):Prop:=BAt w b [.string s,Vi p] 178
abbrev Zc5 (w:World) (ca:Addr):Prop:=w.cell? ⟨8,0,none⟩=some (.iface 432 (.pointer (some ca)))
def RdC{α:Type}(V:World->α->Value->Prop)(Z:Value->Prop)(w:World)(b:Nat)(s:BA)(ca:Addr)(r:RdR α)(v err:Value):Prop:=match r with
 | .ok x=>err=.nilIface/\V w x.1 v/\RdAt w b s x.2
 | .error x=>x.1=9/\ZM w err x.2 ca/\Z v/\∃p:Nat,RdAt w b s p
theorem RdC.ok{α:Type}{V:World->α->Value->Prop}{r:RdR α}{v err:Value}(h:RdC V Z w b s ca r v err){x:α×Nat}(a:r=.ok x):err=.nilIface/\V w x.1 v/\RdAt w b s x.2:=by subst a;exact h
theorem RdC.err{α:Type}{V:World->α->Value->Prop}{r:RdR α}{v err:Value}(h:RdC V Z w b s ca r v err)(a:r=.error x):x.1=9/\ZM w err x.2 ca/\Z v/\∃p:Nat,RdAt w b s p:=by subst a;exact h
theorem RdC.mkOk{α:Type}{V:World->α->Value->Prop}{r:RdR α}{v err:Value}{x:α×Nat}(a:r=.ok x)(h:err=.nilIface/\V w x.1 v/\RdAt w b s x.2):RdC V Z w b s ca r v err:=by subst a;exact h
theorem RdC.qq{α:Type}{V:World->α->Value->Prop}{r:RdR α}{v err:Value}(a:r=.error x)(h:x.1=9/\ZM w err x.2 ca/\Z v/\∃p:Nat,RdAt w b s p):RdC V Z w b s ca r v err:=by subst a;exact h
theorem Zc5.grown(h:Zc5 w ca)(a:w.grownBy w' (some b))(d:20<=b):Zc5 w' ca:=by
 have c:8<w.heap.size:=World.block_lt_of_cell? _ _ h;have e:=a.block _ c (by intro e;injection e with e;have:8<20:= Dc;omega);unfold Zc5 at h ⊢;unfold World.cell? at h ⊢;simp only at h ⊢;rw[e];exact h
theorem Zc5.below(h:Zc5 w ca)(a:BW w w'):Zc5 w' ca:=
 (a.cell (World.block_lt_of_cell? _ _ h)).trans h
theorem RdAt.step{p:Nat}(h:RdAt w b s p)(q:Nat):RdAt (w.setCell ⟨b,1,none⟩ (Vi (q:Int))) b s q:=by
 unfold RdAt BAt at h ⊢;simp only[World.setCell,Array.getElem?_modify,h,if_true,Option.map_some];rfl
theorem ZM.shape{p:Int}{a:Addr}(h:ZM w v p a):∃fa:Nat,v=.iface 81 (Vp fa):=ZM.lt h
theorem ZfX(i:Int)(ca:Addr)(w:World)(a:Zc5 w ca) :
  CP 81 #[Vi i] w fun e u=>∃v,e=.returned v/\Hid (ZM u v i ca)/\BW w u:=by
 have d:w.cell? _=some _:=a;clear a;go_enter func81,ntmps81
 go_wp2_with fail
 refine(ZkT i _ w).mono ?_;rintro e u ⟨rfl,rfl⟩;have c:Hid (ZM _ (.iface _ (Vp w.heap.size)) i ca):=hid ⟨_,rfl,Go.Deep.blk_alloc_new _ _⟩;go_wp2;go_ret;exact⟨_,rfl,c,Zbal⟩
def SVt(_:World)(a:LB)(v:Value):Prop:=∃t:BA,v=.string t/\bl t=a
def SZv(v:Value):Prop:=v=.string ⟨#[]⟩
theorem Zm1(s:BA)(p n b:Nat)(ca:Addr)(w:World)(d:RdAt w b s p)(l:Zc5 w ca)(t:p<=s.size)(m:s.size<=maxLen)(x:n<=70000) :
  CP 141 #[Vp b,Vi n] w fun e u=>∃v err,e=.returned (.tuple #[v,err])/\Hid (RdC SVt SZv u b s ca (Zcg (bl s) p n) v err)/\w.grownBy u (some b):=by
 unfold maxLen at m;have f:=hid d;have o:=hid l;have c:Hid (RdAt _ b s p):=hid (d.below ((Below.refl _ _).drew));have c0:w.cell? _=some _:=f.cell 0;have c1:w.cell? _=some _:=f.cell 1;have f1:=f.frozen 1;clear d l;by_cases h:s.size<p+n
 ·have hd:(s.size:Int) - p<n:=by omega
  have g:Hid (Zcg _ p n=.error _):=hid (by unfold Zcg;rw[if_pos (by rwa [Zd]),Zd]);clear h;go_enter func141,ntmps141;go_wp2
  go_region
  all_goals
   go_wp2_with fail
   refine(ZfX _ _ _ (o.below ((Below.refl _ _).drew))).mono ?_;rintro e z ⟨v,rfl,i,a⟩;have q:=hid (ZM.shape i);have j:Hid (RdC SVt SZv _ b s _ _ _ v):=hid (RdC.qq g ⟨rfl,i,rfl,p,c.below a⟩);have k:Hid (w.grownBy _ (some b)):=hid (Zw (((Below.refl _ w).drew).trans a));obtain⟨fa,rfl⟩:=q.out;clear i a;go_wp2;go_ret2;exact⟨_,_,rfl,j,k⟩
 ·have hd:¬(s.size:Int) - p<n:=by omega
  have g:Hid (Zcg (bl s) p n=.ok (bl (s.extract p (p+n)),p+n)):=hid (by unfold Zcg;rw[if_neg (by rw[Zd];omega),Zsy]);have j:Hid (RdAt _ b s (p+n)):=hid (RdAt.step c _);have k:Hid (w.grownBy (w.drew.setCell ⟨b,1,none⟩ (Vi ((p+n:Nat)))) (some b)):=hid (ZA (Zdi (ZbM _ _)) (.inl rfl) _);have r:p+n<=s.size:=by omega
  go_enter func141,ntmps141;go_wp2
  go_region
  all_goals
   go_wp2
   go_region
   all_goals
    go_wp2;go_ret2;exact⟨_,_,rfl,hid (RdC.mkOk g ⟨rfl,⟨_,rfl,rfl⟩,j.below ((Below.refl _ _).drew)⟩),Zdi k⟩
def NV(_:World)(a:Nat)(v:Value):Prop:=v=Vi a
def NZ(v:Value):Prop:=v=Vi 0
theorem ZzR{c:Nat}(h:a<16777216)(d:c<256):bits .or .i64 ((a:Int)*256) (c:Int)=((256*a+c:Nat):Int):=by
 have e:(BitVec.ofInt 64 ((a)*256)).toNat=a*256:=by
  rw[show((a)*256)=((a*256:Nat):Int) by omega,BitVec.ofInt_natCast,BitVec.toNat_ofNat];exact Nat.mod_eq_of_lt Om
 have f:(BitVec.ofInt 64 (c)).toNat=c:=by
  rw[BitVec.ofInt_natCast,BitVec.toNat_ofNat];exact Nat.mod_eq_of_lt Om
 have g:a*256 ||| c=256*a+c:=by
  have:=Nat.two_pow_add_eq_or_of_lt (i:=8) d a;rw[show(2) ^ 8=256 from rfl]at this;rw[Nat.mul_comm a _];exact this.symm
 show IntKind.i64.wrap ((BitVec.ofInt 64 ((a:Int)*256) ||| BitVec.ofInt 64 (c:Int)).toNat:Int)=_;rw[BitVec.toNat_or,e,f,g,IntKind.wrap_i64];omega
theorem Zis(s:BA)(p n b:Nat)(ca:Addr)(w:World)(r:RdAt w b s p)(h:Zc5 w ca)(H:p<=s.size)(z:s.size<=maxLen)(N:n<=4) :
  CP 80 #[Vp b,Vi n] w fun e u=>∃v err,e=.returned (.tuple #[v,err])/\Hid (RdC NV NZ u b s ca (Zbr (bl s) p n) v err)/\w.grownBy u (some b):=by
 have o:=hid (Zm1 s p n b _ w r h H z Om);clear r h z;go_enter func80,ntmps80
 go_wp2_with fail
 refine o.mono ?_;rintro e O ⟨v,err,rfl,j,A⟩;cases c:Zcg (bl s) p n with
 | error x=>
  obtain⟨B,q,rfl,C⟩:=j.err c;obtain⟨fa,rfl⟩:=ZM.shape q;have D:Hid (RdC NV NZ _ b s _ (Zbr _ p n) _ _):=hid (RdC.qq (by unfold Zbr;rw[c]) ⟨B,q,rfl,C⟩);clear j o c B q C;go_wp2
  go_loop [8,18] (fun v i=>v=Vi 0/\i=Vi 0) (fun _ _=>0)
  case atStart=>exact⟨rfl,rfl⟩
  case round=>
   obtain⟨rfl,rfl⟩:=hrel;go_wp2;go_ret2;exact⟨_,_,rfl,D,A⟩
 | ok x=>
  obtain⟨rfl,⟨t,rfl,d⟩,E⟩:=j.ok c;obtain⟨l,m,F⟩:=Zhh c;have K:t.size<=4:=by rwa [ZU d,m,Zki l]
  have D:Hid (RdC NV NZ _ b s ca (Zbr _ p n) (.int _ (back (bl t))) _):=hid (RdC.mkOk (by unfold Zbr;rw[c]) ⟨rfl,by rw[d];rfl,E⟩);clear j o c E d m F l;go_wp2
  go_loop [8,18] (fun v i=>∃k:Nat,k<=t.size/\i=Vi k/\v=Vi (back ((bl t).take k))) (fun _ i=>t.size - (intOf i).toNat)
  case atStart=>exact⟨0,Nat.zero_le _,rfl,rfl⟩
  case round=>
   obtain⟨k,P,rfl,rfl⟩:=hrel;obtain⟨f,g⟩:∃f,back ((bl t).take k)=f:=⟨_,rfl⟩
   have a:=hid g;rw[g];clear g;by_cases L:k<t.size
   ·have I:f<16777216:=by
     have:back ((bl t).take k)<256 ^ 3:=ZhM (by rw[List.length_take];omega);rw[a]at this;exact this
    have h:=t[k].toNat_lt;have M:=ZzR I h;have G:Hid (back ((bl t).take _)=256*f+t[k].toNat):=hid (by rw[ZiB t k _,ZnY,a]);clear a;go_wp2
    go_round
    case rel=>exact⟨k+1,by omega,by go_num,by rw[G];go_num⟩
    case measure=>simp[intOf];omega
   ·have J:Hid (back _=f):=hid (by rw[<-a,List.take_of_length_le (by rw[Zd];omega)]);clear a;go_wp2;go_ret2;exact⟨_,_,rfl,by rwa [<-J.out],A⟩
def ZdI(l:LB):RdR Unit:=if l.head?≠some 103 then .error (9,0)else .ok ((),1)
theorem ZwT(s:BA)(h:0<s.size):(bl s).head?=some s[0]:=by
 rw[List.head?_eq_getElem?,List.getElem?_eq_getElem (by rwa [Zd]),ZgE s 0 h]
theorem ZA9(s:BA)(b:Nat)(ca:Addr)(w:World)(D:RdAt w b s 0)(A:Zc5 w ca)(J:20<=b)(E:s.size<=maxLen) :
  CP 132 #[Vp b] w fun e u=>∃err,e=.returned err/\Hid (RdC (fun _ _ _=>True) (fun _=>True) u b s ca (ZdI (bl s)) .nilIface err)/\w.grownBy u (some b):=by
 have n:=hid (Zm1 s 0 1 b _ w D A (Nat.zero_le _) E Om);have F:=hid A;clear D A E;go_enter func132,ntmps132
 go_wp2_with fail
 refine n.mono ?_;rintro e K ⟨v,err,rfl,h,o⟩;cases a:Zcg (bl s) 0 1 with
 | error x=>
  obtain⟨L,p,rfl,G⟩:=h.err a;obtain⟨fa,rfl⟩:=ZM.shape p
  have B:s.size=0/\x=(9,0):=by
   unfold Zcg at a;rw[Zd]at a;split at a
   ·injection a with a;exact⟨by omega,by rw[<-a];congr 1;omega⟩
   ·cases a
  have i : Hid (RdC (fun _ _ _ => True) (fun _ => True) _ b s _ (ZdI (bl s)) .nilIface _) := hid (RdC.qq (by
    unfold ZdI;rw[if_pos];rw[List.eq_nil_of_length_eq_zero (l:=bl s) (by rw[Zd];exact B.1)];simp) ⟨rfl,by rw[B.2]at p;exact p,trivial,G⟩)
  clear h n a L p G B;go_wp2;go_ret;exact⟨_,rfl,i,o⟩
 | ok x=>
  obtain⟨rfl,⟨t,rfl,d⟩,q⟩:=h.ok a;obtain⟨j,f,k⟩:=Zhh a;rw[Zd]at j;have O:t.size=1:=by rw[ZU d,f,Zki (by rwa [Zd])]
  have g:some t[0]=(bl s).head?:=by
   rw[<-ZwT t _,d,f];unfold sub;rw[List.drop_zero,List.head?_take,if_neg Dc]
  have r:Hid (RdAt K b s 1):=by rw[k]at q;exact q
  have H:=hid (F.grown o J);by_cases c:t[0]=103
  ·have i:Hid (RdC (fun _ _ _=>True) (fun _=>True) _ b s ca (ZdI _) .nilIface _):=hid (RdC.mkOk (by unfold ZdI;rw[<-g,c];rfl) ⟨rfl,trivial,r.out⟩);have M:((t[0].toNat:Int) != 103)=false:=by rw[c];rfl
   clear h n a q d f k j g c;go_wp2;go_ret;exact⟨_,rfl,i,o⟩
  ·have M:((t[0].toNat:Int) != 103)=true:=by
    rw[bne_iff_ne];intro e;exact c (UInt8.toNat_inj.1 (by show _=103;omega))
   have N:Hid (ZdI _=.error _):=hid (by
    unfold ZdI;rw[<-g,if_pos];intro e;injection e with e;exact c e)
   clear h n a q d f k j g c
   go_wp2_with fail
   refine(ZfX _ _ _ H).mono ?_;rintro e z ⟨v,rfl,C,m⟩;have i:Hid (RdC (fun _ _ _=>True) (fun _=>True) _ b s _ _ .nilIface v):=hid (RdC.qq N ⟨rfl,C,trivial,1,r.below m⟩);have I:=hid (ZeT o m);obtain⟨fa,rfl⟩:=ZM.shape C;clear C m;go_wp2;go_ret;exact⟨_,rfl,i,I⟩
def KV(_:World)(a:Int)(v:Value):Prop:=v=Vi a
theorem ZCg{v:Nat}(a:v<4294967296):wrap32 (v:Int)=Zdp v:=by
 unfold Zdp wrap32;split <;> omega
theorem ZBb(s:BA)(p b:Nat)(ca:Addr)(w:World)(l:RdAt w b s p)(m:Zc5 w ca)(J:20<=b)(K:p<=s.size)(t:s.size<=maxLen) :
  CP 134 #[Vp b] w fun e u=>∃v err,e=.returned (.tuple #[v,err])/\Hid (RdC KV NZ u b s ca (ZbW (bl s) p) v err)/\w.grownBy u (some b):=by
 have A:=hid (Zis s p 4 b _ w l m K t Om);have B:=hid m;have c1:w.cell? _=some _:=l.cell 1;clear l m t;go_enter func134,ntmps134
 go_wp2_with fail
 refine A.mono ?_;rintro e N ⟨v,err,rfl,g,h⟩;clear c1 A;cases c:Zbr (bl s) p 4 with
 | error x=>
  obtain⟨C,n,rfl,D⟩:=g.err c;obtain⟨fa,rfl⟩:=ZM.shape n;have d:Hid (RdC KV NZ _ b s _ (ZbW _ p) _ _):=hid (RdC.qq (by unfold ZbW;rw[c]) ⟨C,n,rfl,D⟩);clear g c C n D;go_wp2;go_ret2;exact⟨_,_,rfl,d,h⟩
 | ok x=>
  obtain⟨x1,x2⟩:=x;obtain⟨rfl,rfl,o⟩:=g.ok c;have a:=(Zev c).2.2.2;simp only at o a;have k:=hid o;have a:x1<4294967296:=a;have L:=ZCg a;have M:=ZCf a;have i:Hid (ZbW _ p=if Zdp x1 < -1000000000∨1000000000<Zdp x1 then .error _ else .ok (Zdp x1,x2)):=hid (by unfold ZbW;rw[c]);have E:=hid (B.grown h J);clear g c o;generalize Zdp x1=z at *
  by_cases j:z < -1000000000∨1000000000<z
  ·have q:Hid (ZbW _ p=.error _):=hid (by rw[i,if_pos j]);have F:(decide (z < -1000000000) || decide (1000000000<z))=true:=by simpa using j
   clear i;by_cases G:z < -1000000000
   all_goals
    have H:wrap64 z=z:=by unfold wrap64;omega
    go_wp2_with fail
    refine(ZfX _ _ _ E).mono ?_;rintro e O ⟨v,rfl,r,f⟩;have d:Hid (RdC KV NZ _ b s _ _ _ v):=hid (RdC.qq q ⟨rfl,r,rfl,_,k.below f⟩);have I:=hid (ZeT h f);obtain⟨fa,rfl⟩:=ZM.shape r;clear r f;go_wp2;go_ret2;exact⟨_,_,rfl,d,I⟩
  ·have q:Hid (ZbW _ p=.ok _):=hid (by rw[i,if_neg j]);have F : -1000000000<=z:=by omega
   have G:z<=1000000000:=by omega
   have H:wrap64 z=z:=by unfold wrap64;omega
   have d:Hid (RdC KV NZ _ b s ca _ (.int _ z) _):=hid (RdC.mkOk q ⟨rfl,rfl,k⟩);clear i j;go_wp2;go_ret2;exact⟨_,_,rfl,d,h⟩
theorem RdC.kept{α:Type}{V:World->α->Value->Prop}{r:RdR α}{v err:Value}(h:RdC V Z w b s ca r v err){t:TypeId}(i:w.grownBy w' (some a))(d:BAt w a c t)(g:t≠178)(k:t≠85)(l:∀x,V w x v->V w' x v):RdC V Z w' b s ca r v err:=by
 have j : ∀ p, RdAt w b s p -> RdAt _ b s p := fun p f => f.grown i (fun e => by
   injection e with e;subst e;unfold RdAt at f;unfold BAt at f d;rw[f]at d;injection d with d;injection d with _ e2;exact g e2.symm)
 cases r with
 | ok x=>exact⟨h.1,l _ h.2.1,j _ h.2.2⟩
 | error x=>
  obtain⟨g,m,n,p,o⟩:=h;exact⟨g,m.grown i d k,n,p,j _ o⟩
theorem Zka(w:World)(a:Nat)(x y:Value):w.grownBy (set2 w a x y) (some a):=ZA (ZA (ZbM w (some a)) (.inl rfl) _) (.inl rfl) _
def IV(_:World)(a:Nat×Nat)(v:Value):Prop:=v=.agg #[Vi a.1,Vi a.2]
def IZ(v:Value):Prop:=∃x y:Int,v=.agg #[Vi x,Vi y]
theorem RdC.qj{α β:Type}{V:World->α->Value->Prop}{V':World->β->Value->Prop}{r:RdR α}{r':RdR β}{v v' err:Value}(h:RdC V Z w b s ca r v err)(c:r=.error x)(a:r'=.error x)(d:Z' v'):RdC V' Z' w b s ca r' v' err:=by
 obtain⟨e,f,_,g⟩:=h.err c;exact RdC.qq a ⟨e,f,d,g⟩
theorem RdC.kq{α:Type}{V:World->α->Value->Prop}{r:RdR α}{v err:Value}(h:RdC V Z w b s ca r v err)(a:r=.error x):∃fa:Nat,err=.iface 81 (Vp fa):=ZM.shape (h.err a).2.1
theorem ZBy(s:BA)(p b:Nat)(ca:Addr)(w:World)(E:RdAt w b s p)(S:Zc5 w ca)(hb:20<=b)(hp:p<=s.size)(T:s.size<=maxLen) :
  CP 140 #[Vp b] w fun e u=>∃v err,e=.returned (.tuple #[v,err])/\Hid (RdC IV IZ u b s ca (ZbN (bl s) p) v err)/\w.grownBy u (some b):=by
 have a2:=E.lt;have U:=hid (fun p n w F N O h4=>Zis s p n b ca w F N O T h4);have V:=hid S;have X:=hid E;have c1:w.cell? _=some _:=E.cell 1;clear E S T;go_enter func140,ntmps140
 go_wp2_with fail
 refine Zm fun W P=>?_;have k:Below _ w W:=P▸Zbal;have H:Hid (BAt W _ _ 159):=P▸Go.Deep.blk_alloc_new _ _;have I:Hid (w.grownBy W (some b)):=hid (Zw k);have o:=hid (V.below k);have J:=hid (X.below k);clear P k c1;refine(U p 1 W J o hp Om).mono ?_;rintro e Y ⟨v,err,rfl,g,l⟩;have r:=hid (Zj I l);have d:=hid (H.grown l (by intro e;injection e with e;omega));have K:=hid (o.grown l hb);clear l I H o J;cases f:Zbr (bl s) p 1 with
 | error x=>
  obtain⟨fa,rfl⟩:=g.kq f;have t:Hid (RdC IV IZ _ b s _ (ZbN _ p) _ _):=hid (g.qj f (by unfold ZbN;rw[f]) ⟨0,0,rfl⟩);obtain⟨_,_,rfl,_⟩:=g.err f;clear g f;have f0:=d.frozen 0;have f1:=d.frozen 1;have c0:=d.cell 0;have c1:=d.cell 1;simp only[Zget]at c0 c1;go_wp2;change bodyPost _ _ _ _ _ (set2 Y w.heap.size (Vi 0) (Vi 0));have st:=ZdS d (x:=Vi 0) (y:=Vi 0);have s0:=st.cell 0;have s1:=st.cell 1;simp only[Zget]at s0 s1;have i:=hid (t.kept (Zka _ _ (Vi 0) (Vi 0)) d Dc Dc (fun _ h=>h));have j:=hid (Zgr r (Nat.le_refl _) (Vi 0) (Vi 0));generalize set2 Y w.heap.size (Vi 0) (Vi 0)=WX at *
  exact bodyPost_ret (by simp[results,results140,go_sem,s0,s1]) rfl ⟨_,_,rfl,i,j⟩
 | ok x=>
  obtain⟨op,q⟩:=x;obtain⟨rfl,rfl,Q⟩:=g.ok f;have A:=(Zev f).2.2.2;have Z:q<=s.size:=by have:=Zev f;rw[Zd]at this;simp only at this;omega
  simp only at Q A;have A:op<256:=A;have L:=hid Q
  have G:Hid (ZbN (bl s) p=if 13<op then .error (9,p)else match Zbr (bl s) q 2 with
   | .error e=>.error e
   | .ok y=>.ok ((op,y.1),y.2)):=by unfold ZbN;rw[f];rfl
  clear g f Q;have f0:=d.frozen 0;have f1:=d.frozen 1;have c0:=d.cell 0;have c1:=d.cell 1;simp only[Zget]at c0 c1;by_cases M:13<op
  ·have B:Hid (ZbN _ p=.error _):=hid (by rw[G,if_pos M]);have hd:(13:Int)<op:=by omega
   clear G
   go_wp2_with fail
   refine(ZfX _ _ _ K).mono ?_;rintro e z ⟨v,rfl,R,m⟩;have t:Hid (RdC IV IZ _ b s _ _ _ v):=hid (RdC.qq B ⟨rfl,R,⟨0,0,rfl⟩,_,L.below m⟩);have C:=hid (ZeT r m);have c:=hid (d.below m);obtain⟨fa,rfl⟩:=ZM.shape R;clear R m f0 f1 c0 c1;have f0:=c.frozen 0;have f1:=c.frozen 1;have c0:=c.cell 0;have c1:=c.cell 1;simp only[Zget]at c0 c1;go_wp2;change bodyPost _ _ _ _ _ (set2 z w.heap.size (Vi 0) (Vi 0));have st:=ZdS c (x:=Vi 0) (y:=Vi 0);have s0:=st.cell 0;have s1:=st.cell 1;simp only[Zget]at s0 s1;have i:=hid (t.kept (Zka _ _ (Vi 0) (Vi 0)) c Dc Dc (fun _ h=>h));have j:=hid (Zgr C (Nat.le_refl _) (Vi 0) (Vi 0));generalize set2 z w.heap.size (Vi 0) (Vi 0)=WX at *
   exact bodyPost_ret (by simp[results,results140,go_sem,s0,s1]) rfl ⟨_,_,rfl,i,j⟩
  ·have hd:¬(13:Int)<op:=by omega
   have B:Hid (ZbN _ p=match Zbr _ q 2 with
    | .error e=>.error e
    | .ok y=>.ok _):=hid (by rw[G,if_neg M])
   clear G
   go_wp2_with fail
   refine(U q 2 _ L K Z Om).mono ?_;rintro e z ⟨v,err,rfl,g,D⟩;have C:=hid (Zj r D);have c:=hid (d.grown D (by intro e;injection e with e;omega));clear D f0 f1 c0 c1;have f0:=c.frozen 0;have f1:=c.frozen 1;have c0:=c.cell 0;have c1:=c.cell 1;simp only[Zget]at c0 c1
   obtain⟨a,a0,a1,t⟩:∃a:Nat,v=.int _ a/\(err=.nilIface∨∃fa:Nat,err=.iface _ (Vp fa))/\Hid (RdC IV IZ _ b s _ (ZbN _ p) (.agg #[.int _ op,.int _ a]) _):=by
    cases f:Zbr (bl s) q 2 with
    | error x=>
     obtain⟨_,_,hz,_⟩:=g.err f;exact⟨0,hz,.inr (g.kq f),hid (g.qj f (by rw[B,f]) ⟨_,_,rfl⟩)⟩
    | ok x=>
     obtain⟨F,N,O⟩:=g.ok f;exact⟨x.1,N,.inl F,hid (RdC.mkOk (x:=((op,x.1),x.2)) (by rw[B,f]) ⟨F,rfl,O⟩)⟩
   subst a0;clear g B;rcases a1 with rfl|⟨fa,rfl⟩
   all_goals
    go_wp2;change bodyPost _ _ _ _ _ (set2 z w.heap.size (Vi op) (Vi a));have st:=ZdS c (x:=Vi op) (y:=Vi a);have s0:=st.cell 0;have s1:=st.cell 1;simp only[Zget]at s0 s1;have i:=hid (t.kept (Zka _ _ (Vi op) (Vi a)) c Dc Dc (fun _ h=>h));have j:=hid (Zgr C (Nat.le_refl _) (Vi op) (Vi a));generalize set2 z w.heap.size (Vi op) (Vi a)=WX at *
   ·exact bodyPost_ret (by simp[results,results140,go_sem,s0,s1]) rfl ⟨_,_,rfl,i,j⟩
   ·exact bodyPost_ret (by simp[results,results140,go_sem,s0,s1]) rfl ⟨_,_,rfl,i,j⟩
theorem ZrS(s:BA)(p b:Nat)(ca:Addr)(w:World)(o:RdAt w b s p)(g:Zc5 w ca)(J:20<=b)(K:p<=s.size)(h:s.size<=maxLen) :
  CP 182 #[Vp b] w fun e u=>∃v err,e=.returned (.tuple #[v,err])/\Hid (RdC SVt SZv u b s ca (ZcH (bl s) p) v err)/\w.grownBy u (some b):=by
 have r:=hid (Zis s p 2 b _ w o g K h Om);have L:=hid (fun p n w i j A M=>Zm1 s p n b ca w i j A h M);have B:=hid g;clear o g h;go_enter func182,ntmps182
 go_wp2_with fail
 refine r.mono ?_;rintro e O ⟨v,err,rfl,c,k⟩;clear r;cases a:Zbr (bl s) p 2 with
 | error x=>
  obtain⟨fa,rfl⟩:=c.kq a;have l:Hid (RdC SVt SZv _ b s _ (ZcH _ p) _ _):=hid (c.qj a (by unfold ZcH;rw[a]) rfl);obtain⟨_,_,rfl,_⟩:=c.err a;clear c a;go_wp2;go_ret2;exact⟨_,_,rfl,l,k⟩
 | ok x=>
  obtain⟨n,q⟩:=x;obtain⟨rfl,rfl,m⟩:=c.ok a;have d:=(Zev a).2.2.2;have C:q<=s.size:=by have:=Zev a;rw[Zd]at this;simp only at this;omega
  simp only at m d;have d:n<65536:=d;have D:=hid m;have E:=hid (B.grown k J);have F:Hid (ZcH _ p=Zcg _ q n):=hid (by unfold ZcH;rw[a]);clear c a m
  go_wp2_with fail
  refine(L q n _ D E C Om).mono ?_;rintro e z ⟨v,err,rfl,c,f⟩;have G:=hid (Zj k f);have l:Hid (RdC SVt SZv z b s ca (ZcH (bl s) p) v err):=by rwa [F.out]
  obtain⟨⟨t,H⟩,I⟩:(∃t:BA,v=.string t)/\(err=.nilIface∨∃fa:Nat,err=.iface _ _):=by
   cases a:Zcg (bl s) q n with
   | error x=>
    obtain⟨_,_,N,_⟩:=c.err a;exact⟨⟨_,N⟩,.inr (c.kq a)⟩
   | ok x=>
    obtain⟨i,⟨t,j,_⟩,A⟩:=c.ok a;exact⟨⟨t,j⟩,.inl i⟩
  subst H;clear f c F;rcases I with rfl|⟨fa,rfl⟩
  all_goals
   go_wp2;go_ret2;exact⟨_,_,rfl,l,G⟩
def OneC{α:Type}(f:FuncId)(V:World->α->Value->Prop)(Z:Value->Prop)(w0:World)(b:Nat)(s:BA)(ca:Addr)(one:Nat->RdR α):Prop:=
 ∀(p:Nat) (w:World),BW w0 w->RdAt w b s p->p<=s.size->
  CP f #[Vp b] w fun e w'=>∃v err,e=.returned (.tuple #[v,err])/\Hid (RdC V Z w' b s ca (one p) v err)/\w.grownBy w' (some b)
theorem ZbV{w0:World}(h:BW w0 w)(a:w.grownBy w' (some b))(d:w0.heap.size<=b):BW w0 w':=
 h.trans ⟨a.os,a.tape,a.output,a.size,fun k c=>a.block k (Nat.lt_of_lt_of_le c h.size) (by intro e;injection e with e;omega)⟩
def RowZ(v:Value):Prop:=v=S0
def Zef(w:World)(cs:List Int)(v:Value):Prop:=w.ownsRow 0 3 1 v cs.length (cs.map (.int .i64))
theorem Tryz.infoIntV:(Tryz.prog.info? 3).map (fun i=>(i.zero,i.size,i.bytes))=some (some (Vi 0),1,8):=by kernel_rfl
theorem Tryz.infoIns:(Tryz.prog.info? 159).map (fun i=>(i.zero,i.size,i.bytes))=some (some (.agg #[Vi 0,Vi 0]),2,16):=by kernel_rfl
theorem Zj3{e:TypeId}{n:Nat}(h:w.ownsRow base e sz v n xs)(a:w.grownBy w' (some b))(c:b<base):w'.ownsRow base e sz v n xs:=
 h.kept a (Or.inr (fun e=>by have:=(h.lt b e).1;omega))
theorem ZyS(s:BA)(p n b:Nat)(ca:Addr)(w0 w:World)(I:BW w0 w)(J:w0.heap.size<=b)(F:RdAt w b s p)(Y:p<=s.size)(hn:n<=65535)(one:Nat->RdR Int)(K:OneC 134 KV NZ w0 b s ca one)(l:∀p x,one p=.ok x->p<=s.size->x.2<=s.size) :
  CP 133 #[Vp b,Vi n,.func (.func 134) #[] #[]] w fun e L=>∃v err,e=.returned (.tuple #[v,err])/\Hid (RdC Zef RowZ L b s ca (many one p n) v err)/\w.grownBy L (some b):=by
 have M:=F.lt;obtain⟨i0,Z,N,O,P⟩:=info_parts Tryz.infoIntV;have H1:=hid K;have HQ:=hid l;have H0:=hid I;have HR:=hid F;have Q:=hid J;clear F K l I J;go_enter func133,ntmps133;go_wp2
 go_loopw [8, 12] (fun v i wr => ∃ (k q : Nat) (xs : List Int), k <= n /\ i = Vi k /\ q <= s.size /\ Hid (many one p k = .ok (xs, q)) /\ Hid (RdAt wr b s q) /\ xs.length = k /\ wr.ownsRow w.heap.size 3 1 v xs.length (xs.map (.int .i64)) /\ Hid (w.grownBy wr (some b)))
   (fun _ i _=>n - (intOf i).toNat)
 case atStart=>exact⟨0,p,[],Nat.zero_le _,rfl,Y,hid rfl,HR,rfl,World.ownsRow_nil _ _ _ _,hid (ZbM _ _)⟩
 case round=>
  obtain⟨k,q,xs,hk,rfl,l,t,m,C,c,A⟩:=hrel;have g:=hid C;clear C;by_cases R:k<n
  ·have a0:(k:Int)<n:=by omega
   obtain⟨av,cp,rfl⟩:=Zl c;have S:=hid c;clear c
   go_wp2_with fail
   refine(H1 q _ (ZbV H0 A Q) m l).mono ?_;rintro e w1 ⟨v,err,rfl,j,o⟩;have r:=hid (Zj A o);have a:=Zj3 S o M;clear o S A m;cases d:one q with
   | error x=>
    obtain⟨fa,rfl⟩:=j.kq d;have G:Hid (RdC Zef RowZ _ b s _ _ _ _):=hid (j.qj d (ZgS t d n R) rfl);have H:=(j.err d).2.2.1;obtain rfl:=H;clear j d a;go_wp2;go_ret2;exact⟨_,_,rfl,G,r⟩
   | ok x=>
    obtain⟨y,q2⟩:=x;obtain⟨rfl,hv,D⟩:=j.ok d;have T:=hid (ZjI t d);have E:=HQ q _ d l;have U:=hid D;simp only at E;have a1:=r.size;obtain rfl:=hv;clear j d D t
    go_wp2_with (at_builtin;refine wpList_append_own _ rfl (.tmp 23) (.tmp 25) 54 rfl w.heap.size 3 i0 (Vi 0) 1 8 underlying54 Z N O P rfl Dc _ _ _ rfl (a.alloc _) ⟨w1.heap.size,0,none⟩ 1 1 [Vi y] rfl rfl ?c1 ?c2 ?c3 ?c4 ?c5 ?_)
    case c1=>exact ZcY rfl
    case c2=>intro u V;simp at V;rw[V];rfl
    case c3=>have:=g.out;unfold maxLen;omega
    case c4=>have:=g.out;omega
    case c5=>have:=g.out;simp;omega
    intro v' w3 h f _;have W:=hid (Zfn (ZbR r _) f (fun z H=>(a.lt z H).1));have X:Hid (RdAt _ b s _):=hid ((U.below Zbal).grown f (fun e=>by have:=(a.lt b e.symm).1;omega));have B:w3.ownsRow w.heap.size 3 1 v' (xs++[y]).length ((xs++[y]).map (.int .i64)):=List.length_append▸List.map_append▸h;clear a f h;go_wp2
    go_roundw
    case rel=>exact⟨k+1,q2,xs++[y],by omega,by go_num,E,T,X,by rw[List.length_append,g];rfl,B,W⟩
    case measure=>simp[intOf];omega
  ·obtain rfl:k=n:=by omega
   obtain⟨av,cp,rfl⟩:=Zl c;have G:Hid (RdC Zef RowZ _ b s ca _ _ _):=hid (RdC.mkOk t ⟨rfl,Zgi c,m⟩);clear c;go_wp2;go_ret2;exact⟨_,_,rfl,G,A⟩
theorem ZmB{e1 e2:TypeId}(c:w.ownsRow b1 e1 s1 v1 n1 xs1)(d:w.ownsRow b2 e2 s2 v2 n2 xs2)(f:w.grownBy w' v2.ownBlock)(g:e1≠e2):w'.ownsRow b1 e1 s1 v1 n1 xs1:=
 ZdA c (fun k a => f.block k (c.lt k a).2 (fun e => by
   rcases ZmC c d g with h|h
   · rw[h]at a;cases a
   · exact h (a.trans e)))
theorem ZgZ{e1:TypeId}(a:w.ownsRow b1 e1 s1 v1 n1 xs1){t:TypeId}(f:BAt w b c t)(g:w.grownBy w' (some b))(h:t≠e1):w'.ownsRow b1 e1 s1 v1 n1 xs1:=
 ZdA a (fun k d => g.block k (a.lt k d).2 (fun e => by
   injection e with e;subst e;exact Zcx a f h d.symm))
def InsV(w:World)(is:List (Nat×Nat))(v:Value):Prop:=w.ownsRow 0 159 2 v is.length (ZdL is)
structure Pk where
 nm:BA
 la:Option Addr
 ln:Nat
 lc:Nat
 nd:Nd
 n:Nat
def Pk.enc(x:Pk):List Value:=[.string x.nm,.slice x.la x.ln x.lc,Vi x.n]
def Pk.pr(x:Pk):Nd×Nat:=(x.nd,x.n)
structure Pk.ok (w:World) (x:Pk):Prop where
 nm:bl x.nm=x.nd.name
 cs:ZX w (.slice x.la x.ln x.lc) x.nd.ku
def ZdJ(l:List Pk):List Value:=(l.map Pk.enc).flatten
theorem ZvM(l m:List Pk):ZdJ (l++m)=ZdJ l++ZdJ m:=by unfold ZdJ;rw[List.map_append,List.flatten_append]
theorem ZoU(l:List Pk)(j:Nat)(c:j<l.length):(ZdJ l)[j*3]?=some (.string l[j].nm)/\(ZdJ l)[j*3+1]?=some (.slice l[j].la l[j].ln l[j].lc)/\(ZdJ l)[j*3+2]?=some (Vi l[j].n):=by
 induction l generalizing j with
 | nil=>simp at c
 | cons a l ih=>
  have e:ZdJ (a::l)=.string _::.slice _ _ _::.int _ _::ZdJ l:=rfl;cases j with
  | zero=>rw[e];exact⟨rfl,rfl,rfl⟩
  | succ j=>
   have h:=ih j (by simpa using c);rw[e,show(j+1)*3=j*3+1+1+1 by omega];simpa using h
def ZdG(w:World)(a:Nd×Nat)(v:Value):Prop:=∃x:Pk,v=.agg #[.string x.nm,.slice x.la x.ln x.lc,Vi x.n]/\x.pr=a/\x.ok w
def Zfc(v:Value):Prop:=v=.agg #[.string ⟨#[]⟩,S0,Vi 0]
def Zek(w:World)(ps:List (Nd×Nat))(v:Value):Prop:=∃xs:List Pk,w.ownsRow 0 156 3 v xs.length (ZdJ xs)/\xs.map Pk.pr=ps/\∀x∈xs,x.ok w
structure Gp where
 la:Option Addr
 ln:Nat
 lc:Nat
 ns:List (LB)
def Gp.ok(w:World)(x:Gp):Prop:=∃bs:List BA,w.ownsRow 0 9 1 (.slice x.la x.ln x.lc) bs.length (Zbc bs)/\((bs.map bl).Pairwise fun a b=>Op.bytesLess b a=false)/\(∀y,y∈bs.map bl ↔ y∈x.ns)/\bs.length<=70001
def ZfZ(l:List Gp):List Value:=l.map fun x=>.slice x.la x.ln x.lc
def ZfM(w:World)(a:List (LB))(v:Value):Prop:=∃x:Gp,v=.slice x.la x.ln x.lc/\x.ns=a/\x.ok w
def Zeh(w:World)(gs:List (List (LB)))(v:Value):Prop:=∃xs:List Gp,w.ownsRow 0 122 1 v xs.length (ZfZ xs)/\xs.map Gp.ns=gs/\∀x∈xs,x.ok w
theorem Pk.ok.below{x:Pk}(h:x.ok w)(a:BW w w'):x.ok w':=⟨h.nm,h.cs.below a⟩
theorem Pk.ok.jm{x:Pk}(h:x.ok w){t:TypeId}(a:BAt w b c t)(d:w.grownBy w' (some b))(e:t≠224):x.ok w':=by
 obtain⟨bs,f,g⟩:=h.cs;exact⟨h.nm,bs,ZgZ f a d e,g⟩
theorem Pk.ok.kept2{x:Pk}(h:x.ok w){e2:TypeId}(a:w.ownsRow b2 e2 s2 v2 n2 xs2)(c:w.grownBy w' v2.ownBlock)(d:224≠e2):x.ok w':=by
 obtain⟨bs,e,f⟩:=h.cs;exact⟨h.nm,bs,ZmB e a c d,f⟩
theorem Gp.ok.below{x:Gp}(h:x.ok w)(a:BW w w'):x.ok w':=by
 obtain⟨bs,c,d⟩:=h;exact⟨bs,Zn c a,d⟩
theorem Gp.ok.jm{x:Gp}(h:x.ok w){t:TypeId}(a:BAt w b c t)(d:w.grownBy w' (some b))(e:t≠9):x.ok w':=by
 obtain⟨bs,f,g⟩:=h;exact⟨bs,ZgZ f a d e,g⟩
theorem Gp.ok.kept2{x:Gp}(h:x.ok w){e2:TypeId}(a:w.ownsRow b2 e2 s2 v2 n2 xs2)(c:w.grownBy w' v2.ownBlock)(d:9≠e2):x.ok w':=by
 obtain⟨bs,e,f⟩:=h;exact⟨bs,ZmB e a c d,f⟩
theorem Tryz.infoSelC:(Tryz.prog.info? 156).map (fun i=>(i.zero,i.size,i.bytes))=some (some (.agg #[.string ByteArray.empty,S0,Vi 0]),3,48):=by kernel_rfl
theorem Tryz.infoStrs:(Tryz.prog.info? 122).map (fun i=>(i.zero,i.size,i.bytes))=some (some S0,1,24):=by kernel_rfl
theorem RdC.belowE{α:Type}{V:World->α->Value->Prop}{r:RdR α}{v err:Value}(h:RdC V Z w b s ca r v err)(a:r=.error x)(c:BW w w'):RdC V Z w' b s ca r v err:=by
 obtain⟨d,e,f,p,g⟩:=h.err a;exact RdC.qq a ⟨d,e.below c,f,p,g.below c⟩
theorem ZyR(s:BA)(p n b:Nat)(ca:Addr)(w0 w:World)(J:BW w0 w)(K:w0.heap.size<=b)(G:RdAt w b s p)(Z:p<=s.size)(hn:n<=65535)(one:Nat->RdR (Nat×Nat))(L:OneC 140 IV IZ w0 b s ca one)(j:∀p x,one p=.ok x->p<=s.size->x.2<=s.size) :
  CP 139 #[Vp b,Vi n,.func (.func 140) #[] #[]] w fun e M=>∃v err,e=.returned (.tuple #[v,err])/\Hid (RdC InsV RowZ M b s ca (many one p n) v err)/\w.grownBy M (some b):=by
 have N:=G.lt;obtain⟨i0,hi,O,P,Q⟩:=info_parts Tryz.infoIns;have H1:=hid L;have HQ:=hid j;have H0:=hid J;have HR:=hid G;have R:=hid K;clear G L j J K;go_enter func139,ntmps139;go_wp2
 go_loopw [8, 12] (fun v i wr => ∃ (k q : Nat) (xs : List (Nat × Nat)), k <= n /\ i = Vi k /\ q <= s.size /\ Hid (many one p k = .ok (xs, q)) /\ Hid (RdAt wr b s q) /\ xs.length = k /\ wr.ownsRow w.heap.size 159 2 v xs.length (ZdL xs) /\ Hid (w.grownBy wr (some b)))
   (fun _ i _=>n - (intOf i).toNat)
 case atStart=>exact⟨0,p,[],Nat.zero_le _,rfl,Z,hid rfl,HR,rfl,World.ownsRow_nil _ _ _ _,hid (ZbM _ _)⟩
 case round=>
  obtain⟨k,q,xs,hk,rfl,j,l,m,C,c,t⟩:=hrel;have g:=hid C;clear C;by_cases D:k<n
  ·have a0:(k:Int)<n:=by omega
   obtain⟨av,cp,rfl⟩:=Zl c;have S:=hid c;clear c
   go_wp2_with fail
   refine(H1 q _ (ZbV H0 t R) m j).mono ?_;rintro e w1 ⟨v,err,rfl,h,o⟩;have r:=hid (Zj t o);have a:=Zj3 S o N;clear o S t m;cases d:one q with
   | error x=>
    obtain⟨fa,rfl⟩:=h.kq d;have H:Hid (RdC InsV RowZ _ b s _ _ _ _):=hid (h.qj d (ZgS l d n D) rfl);have I:=(h.err d).2.2.1;obtain⟨x0,y0,rfl⟩:=I;have T:=hid (ZgS l d n D);clear h d a;go_wp2;go_ret2;exact⟨_,_,rfl,hid (H.belowE T Zbal),ZbR r _⟩
   | ok x=>
    obtain⟨z,q2⟩:=x;obtain⟨rfl,hv,E⟩:=h.ok d;have U:=hid (ZjI l d);have F:=HQ q _ d j;have V:=hid E;simp only at F;have a1:=r.size;obtain rfl:=hv;obtain⟨y,hy⟩:∃y,y=z:=⟨_,rfl⟩
    subst hy;clear h d E l
    go_wp2_with (at_builtin;refine wpList_append_own _ rfl (.tmp 23) (.tmp 25) 57 rfl w.heap.size 159 i0 (.agg #[Vi 0,Vi 0]) 2 16 underlying57 hi O P Q rfl Dc _ _ _ rfl ((a.alloc _).alloc _) ⟨w1.heap.size+1,0,none⟩ 1 1 [Vi y.1,Vi y.2] rfl rfl ?c1 ?c2 ?c3 ?c4 ?c5 ?_)
    case c1=>exact ZcY (by simp)
    case c2=>intro u W;simp at W;rcases W with rfl|rfl <;> rfl
    case c3=>have:=g.out;unfold maxLen;omega
    case c4=>have:=g.out;omega
    case c5=>have:=g.out;simp;omega
    intro v' w3 A f _;have X:=hid (Zfn (ZbR (ZbR r _) _) f (fun z I=>(a.lt z I).1));have Y:Hid (RdAt _ b s _):=hid ((V.below (Zbal.alloc (by simp) _)).grown f (fun e=>by have:=(a.lt b e.symm).1;omega));have B:w3.ownsRow w.heap.size 159 2 v' (xs++[y]).length (ZdL (xs++[y])):=by rwa [List.length_append,Zwd]
    clear a f A;go_wp2
    go_roundw
    case rel=>exact⟨k+1,q2,xs++[y],by omega,by go_num,F,U,Y,by rw[List.length_append,g];rfl,B,X⟩
    case measure=>simp[intOf];omega
  ·obtain rfl:k=n:=by omega
   obtain⟨av,cp,rfl⟩:=Zl c;have H:Hid (RdC InsV RowZ _ b s ca _ _ _):=hid (RdC.mkOk l ⟨rfl,Zgi c,m⟩);clear c;go_wp2;go_ret2;exact⟨_,_,rfl,H,t⟩
theorem ZyT(s:BA)(p n b:Nat)(ca:Addr)(w0 w:World)(O:BW w0 w)(P:w0.heap.size<=b)(J:RdAt w b s p)(hp:p<=s.size)(hn:n<=65535)(one:Nat->RdR (Nd×Nat))(Q:OneC 136 ZdG Zfc w0 b s ca one)(o:∀p x,one p=.ok x->p<=s.size->x.2<=s.size) :
  CP 135 #[Vp b,Vi n,.func (.func 136) #[] #[]] w fun e R=>∃v err,e=.returned (.tuple #[v,err])/\Hid (RdC Zek RowZ R b s ca (many one p n) v err)/\w.grownBy R (some b):=by
 have S:=J.lt;obtain⟨i0,hi,T,U,V⟩:=info_parts Tryz.infoSelC;have H1:=hid Q;have HQ:=hid o;have H0:=hid O;have HR:=hid J;have W:=hid P;clear J Q o O P;go_enter func135,ntmps135;go_wp2
 go_loopw [8, 12] (fun v i wr => ∃ (k q : Nat) (xs : List Pk), k <= n /\ i = Vi k /\ q <= s.size /\ Hid (many one p k = .ok (xs.map Pk.pr, q)) /\ Hid (RdAt wr b s q) /\ xs.length = k /\ wr.ownsRow w.heap.size 156 3 v xs.length (ZdJ xs) /\ Hid (w.grownBy wr (some b)) /\ Hid (∀ x ∈ xs, x.ok wr))
   (fun _ i _=>n - (intOf i).toNat)
 case atStart=>exact⟨0,p,[],Nat.zero_le _,rfl,hp,hid rfl,HR,rfl,World.ownsRow_nil _ _ _ _,hid (ZbM _ _),hid (fun x f=>nomatch f)⟩
 case round=>
  obtain⟨k,q,xs,hk,rfl,o,r,h,E,c,B,t⟩:=hrel;have j:=hid E;clear E;by_cases F:k<n
  ·have a5:(k:Int)<n:=by omega
   obtain⟨av,cp,rfl⟩:=Zl c;have X:=hid c;clear c
   go_wp2_with fail
   refine(H1 q _ (ZbV H0 B W) h o).mono ?_;rintro e Y ⟨v,err,rfl,m,l⟩;have A:=hid (Zj B l);have a:=Zj3 X l S;have K:=hid (fun x f=>(t x f).jm h l Dc);clear t;clear l X B h;cases g:one q with
   | error x=>
    obtain⟨fa,rfl⟩:=m.kq g;have L:Hid (RdC Zek RowZ _ b s _ _ _ _):=hid (m.qj g (ZgS r g n F) rfl);have M:=(m.err g).2.2.1;obtain rfl:=M;have Z:=hid (ZgS r g n F);clear m g a;go_wp2;go_ret2;exact⟨_,_,rfl,hid (L.belowE Z Zbal),ZbR A _⟩
   | ok x=>
    obtain⟨z,q2⟩:=x;obtain⟨rfl,hv,G⟩:=m.ok g;have a6:=hid (ZjI r g);have H:=HQ q _ g o;have a0:=hid G;simp only at H;have a7:=A.size;obtain⟨y,rfl,rfl,I⟩:=hv;have a1:=hid I;clear I;clear m g G r
    go_wp2_with (at_builtin;refine wpList_append_own _ rfl (.tmp 23) (.tmp 25) 55 rfl w.heap.size 156 i0 (.agg #[.string ByteArray.empty,S0,Vi 0]) 3 48 underlying55 hi T U V rfl Dc _ _ _ rfl ((a.alloc _).alloc _) ⟨Y.heap.size+1,0,none⟩ 1 1 [.string y.nm,.slice y.la y.ln y.lc,Vi y.n] rfl rfl ?c1 ?c2 ?c3 ?c4 ?c5 ?_)
    case c1=>exact ZcY (by simp)
    case c2=>intro u hu;simp at hu;rcases hu with rfl|rfl|rfl <;> rfl
    case c3=>have:=j.out;unfold maxLen;omega
    case c4=>have:=j.out;omega
    case c5=>have:=j.out;simp;omega
    intro v' w3 C d _;have a2:=hid (Zfn (ZbR (ZbR A _) _) d (fun z M=>(a.lt z M).1));have a3:Hid (RdAt _ b s _):=hid ((a0.below (Zbal.alloc (by simp) _)).grown d (fun e=>by have:=(a.lt b e.symm).1;omega));have D:w3.ownsRow w.heap.size 156 3 v' (xs++[y]).length (ZdJ (xs++[y])):=by rwa [List.length_append,ZvM]
    have N : Hid (∀ x ∈ xs ++ [y], x.ok _) := hid (fun x f => by
      have a4:x.ok Y:=by
        rcases List.mem_append.1 f with f|f
        · exact K x f
        · rw[List.mem_singleton]at f;subst f;exact a1
      exact(a4.below (Zbal.alloc (by simp) _)).kept2 ((a.alloc _).alloc _) d Dc)
    clear a d C;go_wp2
    go_roundw
    case rel=>exact⟨k+1,q2,xs++[y],by omega,by go_num,H,hid (by rwa [List.map_append]),a3,by rw[List.length_append,j];rfl,D,a2,N⟩
    case measure=>simp[intOf];omega
  ·obtain rfl:k=n:=by omega
   obtain⟨av,cp,rfl⟩:=Zl c;have L:Hid (RdC Zek RowZ _ b s ca _ _ _):=hid (RdC.mkOk r ⟨rfl,⟨xs,Zgi c,rfl,t⟩,h⟩);clear c;go_wp2;go_ret2;exact⟨_,_,rfl,L,B⟩
theorem ZyQ(s:BA)(p n b:Nat)(ca:Addr)(w0 w:World)(N:BW w0 w)(O:w0.heap.size<=b)(I:RdAt w b s p)(hp:p<=s.size)(hn:n<=65535)(one:Nat->RdR (List (LB)))(P:OneC 138 ZfM RowZ w0 b s ca one)(o:∀p x,one p=.ok x->p<=s.size->x.2<=s.size) :
  CP 137 #[Vp b,Vi n,.func (.func 138) #[] #[]] w fun e Q=>∃v err,e=.returned (.tuple #[v,err])/\Hid (RdC Zeh RowZ Q b s ca (many one p n) v err)/\w.grownBy Q (some b):=by
 have R:=I.lt;obtain⟨i0,hi,S,T,U⟩:=info_parts Tryz.infoStrs;have H1:=hid P;have HQ:=hid o;have H0:=hid N;have HR:=hid I;have V:=hid O;clear I P o N O;go_enter func137,ntmps137;go_wp2
 go_loopw [8, 12] (fun v i wr => ∃ (k q : Nat) (xs : List Gp), k <= n /\ i = Vi k /\ q <= s.size /\ Hid (many one p k = .ok (xs.map Gp.ns, q)) /\ Hid (RdAt wr b s q) /\ xs.length = k /\ wr.ownsRow w.heap.size 122 1 v xs.length (ZfZ xs) /\ Hid (w.grownBy wr (some b)) /\ Hid (∀ x ∈ xs, x.ok wr))
   (fun _ i _=>n - (intOf i).toNat)
 case atStart=>exact⟨0,p,[],Nat.zero_le _,rfl,hp,hid rfl,HR,rfl,World.ownsRow_nil _ _ _ _,hid (ZbM _ _),hid (fun x f=>nomatch f)⟩
 case round=>
  obtain⟨k,q,xs,hk,rfl,o,A,h,E,c,B,r⟩:=hrel;have j:=hid E;clear E;by_cases W:k<n
  ·have a4:(k:Int)<n:=by omega
   obtain⟨av,cp,rfl⟩:=Zl c;have X:=hid c;clear c
   go_wp2_with fail
   refine(H1 q _ (ZbV H0 B V) h o).mono ?_;rintro e Y ⟨v,err,rfl,m,l⟩;have t:=hid (Zj B l);have a:=Zj3 X l R;have J:=hid (fun x f=>(r x f).jm h l Dc);clear r;clear l X B h;cases g:one q with
   | error x=>
    obtain⟨fa,rfl⟩:=m.kq g;have K:Hid (RdC Zeh RowZ _ b s _ _ _ _):=hid (m.qj g (ZgS A g n W) rfl);have L:=(m.err g).2.2.1;obtain rfl:=L;clear m g a;go_wp2;go_ret2;exact⟨_,_,rfl,K,t⟩
   | ok x=>
    obtain⟨z,q2⟩:=x;obtain⟨rfl,hv,F⟩:=m.ok g;have a5:=hid (ZjI A g);have G:=HQ q _ g o;have Z:=hid F;simp only at G;have a6:=t.size;obtain⟨y,rfl,rfl,H⟩:=hv;have a0:=hid H;clear H;clear m g F A
    go_wp2_with (at_builtin;refine wpList_append_own _ rfl (.tmp 23) (.tmp 25) 56 rfl w.heap.size 122 i0 S0 1 24 underlying56 hi S T U rfl Dc _ _ _ rfl (a.alloc _) ⟨Y.heap.size,0,none⟩ 1 1 [.slice y.la y.ln y.lc] rfl rfl ?c1 ?c2 ?c3 ?c4 ?c5 ?_)
    case c1=>exact ZcY (by simp)
    case c2=>intro u hu;simp at hu;rw[hu];rfl
    case c3=>have:=j.out;unfold maxLen;omega
    case c4=>have:=j.out;omega
    case c5=>have:=j.out;simp;omega
    intro v' w3 C d _;have a1:=hid (Zfn (ZbR t _) d (fun z L=>(a.lt z L).1));have a2:Hid (RdAt _ b s _):=hid ((Z.below Zbal).grown d (fun e=>by have:=(a.lt b e.symm).1;omega));have D:w3.ownsRow w.heap.size 122 1 v' (xs++[y]).length (ZfZ (xs++[y])):=by rwa [List.length_append,show ZfZ (xs++[y])=ZfZ xs++[.slice y.la y.ln y.lc] by unfold ZfZ;rw[List.map_append];rfl]
    have M : Hid (∀ x ∈ xs ++ [y], x.ok _) := hid (fun x f => by
      have a3:x.ok Y:=by
        rcases List.mem_append.1 f with f|f
        · exact J x f
        · rw[List.mem_singleton]at f;subst f;exact a0
      exact(a3.below Zbal).kept2 (a.alloc _) d Dc)
    clear a d C;go_wp2
    go_roundw
    case rel=>exact⟨k+1,q2,xs++[y],by omega,by go_num,G,hid (by rwa [List.map_append]),a2,by rw[List.length_append,j];rfl,D,a1,M⟩
    case measure=>simp[intOf];omega
  ·obtain rfl:k=n:=by omega
   obtain⟨av,cp,rfl⟩:=Zl c;have K:Hid (RdC Zeh RowZ _ b s ca _ _ _):=hid (RdC.mkOk A ⟨rfl,⟨xs,Zgi c,rfl,r⟩,h⟩);clear c;go_wp2;go_ret2;exact⟨_,_,rfl,K,B⟩

/- Parts. -/
import Derived.Test.YtkodhpilkaihjaaGreatDoorF03
import Derived.Test.YtkodhpilkaihjaaGreatDoorF00
import Derived.Laws.IdiomStrings
import Derived.Test.YtkodhpilkaihjaaGreatDoorF05
import Derived.BigQuiet
import Derived.Test.YtkodhpilkaihjaaGreatDoorF10
import Derived.Test.YtkodhpilkaihjaaGreatDoorF25
import Derived.Test.YtkodhpilkaihjaaGreatDoorF17
import Derived.Test.YtkodhpilkaihjaaGreatDoorF06
import Derived.Maps.RangeRun
import Derived.Maps.Keyed
set_option maxHeartbeats 4000000
set_option maxRecDepth 100000
namespace Go.Proofs.YtkodhpilkaihjaaGreatDoor.LS
open Go Go.RowKit
def back(l:List UInt8):Nat:=l.foldl (fun n c=>256*n+c.toNat) 0
theorem Zh1(l:List UInt8)(c:UInt8):back (l++[c])=256*back l+c.toNat:=by simp[back]
theorem ZnQ(l:List UInt8):back l.reverse<256 ^ l.length:=by
 induction l with
 | nil=>simp[back]
 | cons c l ih=>
  rw[List.reverse_cons,Zh1,List.length_cons,Nat.pow_succ]
  have:=c.toNat_lt
  omega
theorem ZnP(l:List UInt8):back l<256 ^ l.length:=by
 have:=ZnQ l.reverse
 rwa [List.reverse_reverse,List.length_reverse]at this
theorem Zev{l:List UInt8}{n:Nat}(h:l.length<=n):back l<256 ^ n:=Nat.lt_of_lt_of_le (ZnP l) (Nat.pow_le_pow_right (by decide) h)
def digL:Nat->Nat->List UInt8
 | _,0=>[]
 | n,k+1=>digL (n / 256) k++[UInt8.ofNat (n % 256)]
theorem ZoO(l:List UInt8):digL (back l.reverse) l.length=l.reverse:=by
 induction l with
 | nil=>rfl
 | cons c l ih=>
  rw[List.reverse_cons,Zh1,List.length_cons]
  show digL ((256*back l.reverse+c.toNat) / 256) l.length++[UInt8.ofNat ((256*back l.reverse+c.toNat) % 256)]=_
  have hc:=c.toNat_lt
  rw[show(256*back l.reverse+c.toNat) / 256=back l.reverse by omega,show(256*back l.reverse+c.toNat) % 256=c.toNat by omega,ih]
  simp
theorem Zkh(l:List UInt8):digL (back l) l.length=l:=by
 have:=ZoO l.reverse
 rwa [List.reverse_reverse,List.length_reverse]at this
def bitS(h:Nat):Nat:=if h % 2=1 then (h / 2) ^^^ 3988292384 else h / 2
def ZcD:Nat->Nat->Nat
 | 0,h=>h
 | k+1,h=>bitS (ZcD k h)
def Zdl(h:Nat)(c:UInt8):Nat:=ZcD 8 (h ^^^ c.toNat)
def sumL(l:List UInt8):Nat:=l.foldl Zdl 4294967295
def sumQ(l:List UInt8):Nat:=4294967295 - sumL l
theorem Zjn(l:List UInt8)(c:UInt8):sumL (l++[c])=Zdl (sumL l) c:=by simp[sumL]
theorem ZnZ{h:Nat}(hh:h<4294967296):bitS h<4294967296:=by
 unfold bitS
 split
 ·exact Nat.xor_lt_two_pow (n:=32) (by show h / 2<4294967296;omega) (by decide)
 ·omega
theorem Zfc{h:Nat}(hh:h<4294967296):∀k,ZcD k h<4294967296
 | 0=>hh
 | k+1=>ZnZ (Zfc hh k)
theorem Ze9{h:Nat}(hh:h<4294967296)(c:UInt8):h ^^^ c.toNat<4294967296:=Nat.xor_lt_two_pow (n:=32) hh (by have:=c.toNat_lt;show c.toNat<4294967296;omega)
theorem Zfg{h:Nat}(hh:h<4294967296)(c:UInt8):Zdl h c<4294967296:=Zfc (Ze9 hh c) 8
theorem Zu5(l:List UInt8):sumL l.reverse<4294967296:=by
 induction l with
 | nil=>decide
 | cons c l ih=>rw[List.reverse_cons,Zjn];exact Zfg ih c
theorem ZmJ(l:List UInt8):sumL l<4294967296:=by
 have:=Zu5 l.reverse
 rwa [List.reverse_reverse]at this
theorem Zu6(l:List UInt8):sumQ l<4294967296:=by unfold sumQ;omega
def selQ(l:List UInt8):Option Nd:=match Z4 l with
 | .ok (.node _ _ a _ _)=>if a.kind=1/\selS a=l then some a else none
 | _=>none
def ZbA(t:List UInt8):Option (Nd×Nat):=match seek 91 t with
 | none=>(selQ t).map fun a=>(a,0)
 | some p => if t.getLast? = some 93 then (match ZE 1000 (t.drop (p + 1)).dropLast with
     | some n=>if n=0 then none else (selQ (t.take p)).map fun a=>(a,n)
     | none=>none)else none
def Zcx(t:List UInt8):Option (List (List UInt8)):=if t=[] then some [] else if (split 44 t).all ZC=true/\(split 44 t).Nodup then some (split 44 t)else none
structure CodeQ where
 consts:List Int
 picks:List (Nd×Nat)
 groups:List (List (List UInt8))
 ins:List (Nat×Nat)
abbrev RdR (α:Type):=Except (Nat×Nat) (α×Nat)
def sub(l:List UInt8)(p n:Nat):List UInt8:=(l.drop p).take n
def ZbT(l:List UInt8)(p n:Nat):RdR (List UInt8):=if l.length<p+n then .error (9,l.length)else .ok (sub l p n,p+n)
def Z8(l:List UInt8)(p n:Nat):RdR Nat:=match ZbT l p n with
 | .error e=>.error e
 | .ok x=>.ok (back x.1,x.2)
def Zdt(v:Nat):Int:=if 2147483648<=v then (v:Int) - 4294967296 else v
def Zbw(l:List UInt8)(p:Nat):RdR Int:=match Z8 l p 4 with
 | .error e=>.error e
 | .ok x=>if Zdt x.1 < -1000000000∨1000000000<Zdt x.1 then .error (9,p)else .ok (Zdt x.1,x.2)
def Zb8(l:List UInt8)(p:Nat):RdR (List UInt8):=match Z8 l p 2 with
 | .error e=>.error e
 | .ok x=>ZbT l x.2 x.1
def Zbz(l:List UInt8)(p:Nat):RdR (Nd×Nat):=match Zb8 l p with
 | .error e=>.error e
 | .ok x => match ZbA x.1 with
   | none=>.error (9,p)
   | some y=>.ok (y,x.2)
def Zbx(l:List UInt8)(p:Nat):RdR (List (List UInt8)):=match Zb8 l p with
 | .error e=>.error e
 | .ok x => match Zcx x.1 with
   | none=>.error (9,p)
   | some y=>.ok (y,x.2)
def Zbi(l:List UInt8)(p:Nat):RdR (Nat×Nat):=match Z8 l p 1 with
 | .error e=>.error e
 | .ok x => if 13 < x.1 then .error (9, p) else match Z8 l x.2 2 with
   | .error e=>.error e
   | .ok y=>.ok ((x.1,y.1),y.2)
def many{α:Type}(one:Nat->RdR α)(p:Nat):Nat->RdR (List α)
 | 0=>.ok ([],p)
 | k + 1 => match many one p k with
   | .error e=>.error e
   | .ok x => match one x.2 with
     | .error e=>.error e
     | .ok y=>.ok (x.1++[y.1],y.2)
theorem Zr4{α:Type}{one:Nat->RdR α}{p k:Nat}{e:Nat×Nat}(h:many one p k=.error e):∀n,k<=n->many one p n=.error e:=by
 intro n hn
 induction n with
 | zero => obtain rfl : k = 0 := by omega
           exact h
 | succ n ih=>
  by_cases hk:k=n+1
  ·subst hk;exact h
  ·have:=ih (by omega)
   unfold many
   rw[this]
theorem Zfo{α:Type}{one:Nat->RdR α}{p k:Nat}{xs:List α}{q:Nat}{e:Nat×Nat}(h:many one p k=.ok (xs,q))(h1:one q=.error e):∀n,k<n->many one p n=.error e:=
 fun n hn=>Zr4 (k:=k+1) (by unfold many;rw[h];simp only;rw[h1]) n hn
theorem Zhd{α:Type}{one:Nat->RdR α}{p k:Nat}{xs:List α}{q r:Nat}{y:α}(h:many one p k=.ok (xs,q))(h1:one q=.ok (y,r)):many one p (k+1)=.ok (xs++[y],r):=by
 unfold many;rw[h];simp only;rw[h1]
theorem Zfn{α:Type}{one:Nat->RdR α}{p:Nat} : ∀ {k:Nat} {xs:List α} {q:Nat},many one p k=.ok (xs,q)->xs.length=k
 | 0,xs,q,h=>by injection h with h;injection h with h1 h2;subst h1;rfl
 | k + 1, xs, q, h => by
   unfold many at h
   cases hm:many one p k with
   | error e=>rw[hm]at h;cases h
   | ok x=>
     rw[hm]at h
     simp only at h
     cases ho:one x.2 with
     | error e=>rw[ho]at h;cases h
     | ok y=>
       rw[ho]at h
       injection h with h;injection h with h1 h2
       subst h1
       have:=Zfn (show many one p k=.ok (x.1,x.2) from hm)
       simp[this]
def Zcy(l:List UInt8):Except (Nat×Nat) (Nat×Nat×Nat×Nat):=
 if l.head?≠some 103 then .error (9,0)else if l.length<9 then .error (9,l.length)else .ok (back (sub l 1 2),back (sub l 3 2),back (sub l 5 2),back (sub l 7 2))
def Zbg(l:List UInt8):Except (Nat×Nat) CodeQ:=match Zcy l with
 | .error e=>.error e
 | .ok n => match many (Zbw l) 9 n.1 with
   | .error e=>.error e
   | .ok cs => match many (Zbz l) cs.2 n.2.1 with
     | .error e=>.error e
     | .ok ps => match many (Zbx l) ps.2 n.2.2.1 with
       | .error e=>.error e
       | .ok gs => match many (Zbi l) gs.2 n.2.2.2 with
         | .error e=>.error e
         | .ok is => if l.length < is.2 + 4 then .error (9, l.length) else if is.2 + 4 < l.length then .error (9, is.2 + 4) else
           if back (l.drop is.2)≠sumQ (l.take is.2)then .error (10,0)else .ok ⟨cs.1,ps.1,gs.1,is.1⟩
def Z0(c:CodeQ)(i:Nat)(x:Nat×Nat):Bool:=match x.1 with
 | 0=>decide (x.2<c.consts.length)
 | 1=>decide (x.2<c.picks.length)
 | 2=>decide (x.2<5)
 | 3=>decide (x.2<4)
 | 4=>decide (x.2=0)
 | 9=>decide (i<x.2/\x.2<=c.ins.length)
 | 10=>decide (i<x.2/\x.2<=c.ins.length)
 | 11=>decide (x.2=0)
 | 12=>decide (x.2<16)
 | 13=>decide (x.2<16)
 | _=>decide (x.2<c.groups.length)
def ZeR(op:Nat):Bool:=op == 12 || op == 13
def Zdi(l:List (Nat×Nat)):Nat:=l.foldl (fun n x=>if ZeR x.1 then max n (x.2+1)else n) 0
theorem ZuH(l:List (Nat×Nat))(x:Nat×Nat):Zdi (l++[x])=if ZeR x.1 then max (Zdi l) (x.2+1)else Zdi l:=by simp[Zdi]
structure Ah where
 known:Bool
 clash:Bool
 stack:List Nat
 slots:List Nat
def ah0:Ah:=⟨false,false,[],List.replicate 16 0⟩
def ZQ(k:Nat)(st sl:List Nat):Option (List Nat×List Nat):=if st.length=64 then none else some (k::st,sl)
def ZbK(k:Nat):Bool:=k == 1 || k == 2
def Zc5(x:Nd×Nat):Nat:=if 0<x.2 then 3 else 2
def Zw(c:CodeQ)(x:Nat×Nat)(st sl:List Nat):Option (List Nat×List Nat):=match x.1 with
 | 0=>ZQ 1 st sl
 | 1=>ZQ ((c.picks[x.2]?.map Zc5).getD 0) st sl
 | 2 => match st with
   | k::r=>if k=3 then ZQ 2 r sl else none
   | []=>none
 | 3 => match st with
   | y::k::r=>if ZbK k && ZbK y then ZQ (max k y) r sl else none
   | _=>none
 | 4 => match st with
   | k::r=>if ZbK k then ZQ k r sl else none
   | []=>none
 | 9=>some (st,sl)
 | 11 => match st with
   | _::r=>some (r,sl)
   | []=>none
 | 12 => match st with
   | k::r=>some (r,sl.set x.2 k)
   | []=>none
 | 13=>if sl.getD x.2 0=0 then none else ZQ (sl.getD x.2 0) st sl
 | _ => match st with
   | k::r=>if k=2 then ZQ 2 r sl else none
   | []=>none
def both(a b:List Nat):List Nat:=List.zipWith (fun x y=>if x=y then x else 0) a b
def Zbf(a:Ah)(st sl:List Nat):Ah:=if a.known then ⟨true,a.clash || decide (a.stack≠st),a.stack,both a.slots sl⟩else ⟨true,false,st,sl⟩
def Zct(op:Nat):Bool:=op == 9 || op == 10
def goOn(x:Nat×Nat)(i:Nat)(st sl:List Nat)(l:List Ah):List Ah:=
 let l1:=if Zct x.1 then l.set x.2 (Zbf (l.getD x.2 ah0) st sl)else l
 if x.1=9 then l1 else l1.set (i+1) (Zbf (l1.getD (i+1) ah0) st sl)
def ZeH(c:CodeQ)(i:Nat)(l:List Ah)(m:Nat):Except (Nat×Nat) (List Ah×Nat):=
 let a:=l.getD i ah0
 if a.known then (if a.clash then .error (12,i)else match Zw c (c.ins.getD i (0,0)) a.stack a.slots with
  | none=>.error (12,i)
  | some s=>.ok (goOn (c.ins.getD i (0,0)) i s.1 s.2 l,max m s.1.length))else .ok (l,m)
def Ze0(n:Nat):List Ah:=⟨true,false,[],List.replicate 16 0⟩::List.replicate n ah0
def Zbd(c:CodeQ):Nat->Except (Nat×Nat) (List Ah×Nat)
 | 0=>.ok (Ze0 c.ins.length,0)
 | i + 1 => match Zbd c i with
   | .error e=>.error e
   | .ok x=>ZeH c i x.1 x.2
def Zeh(a:Ah):Bool:=!a.clash && (decide (a.stack=[1]) || decide (a.stack=[2]))
def ZbL(c:CodeQ):Nat->Except (Nat×Nat) Unit
 | 0=>.ok ()
 | i + 1 => match ZbL c i with
   | .error e=>.error e
   | .ok _=>if Z0 c i (c.ins.getD i (0,0))then .ok ()else .error (11,i)
def ZcQ(c:CodeQ):Except (Nat×Nat) Nat:=match Zbd c c.ins.length with
 | .error e=>.error e
 | .ok x=>if Zeh (x.1.getD c.ins.length ah0)then .ok x.2 else .error (12,c.ins.length)
def Zcq(c:CodeQ):Except (Nat×Nat) (Nat×Nat):=match ZbL c c.ins.length with
 | .error e=>.error e
 | .ok _ => match ZcQ c with
   | .error e=>.error e
   | .ok m=>.ok (m,Zdi c.ins)
def Zbj(l:List UInt8):Except (Nat×Nat) (CodeQ×Nat×Nat):=match Zbg l with
 | .error e=>.error e
 | .ok c => match Zcq c with
   | .error e=>.error e
   | .ok x=>.ok (c,x)
theorem Zl1{c:CodeQ}{k:Nat}{e:Nat×Nat}(h:Zbd c k=.error e):∀n,k<=n->Zbd c n=.error e:=by
 intro n hn
 induction n with
 | zero => obtain rfl : k = 0 := by omega
           exact h
 | succ n ih=>
  by_cases hk:k=n+1
  ·subst hk;exact h
  ·have:=ih (by omega)
   unfold Zbd
   rw[this]
theorem ZtW{c:CodeQ}{k:Nat}{e:Nat×Nat}(h:ZbL c k=.error e):∀n,k<=n->ZbL c n=.error e:=by
 intro n hn
 induction n with
 | zero => obtain rfl : k = 0 := by omega
           exact h
 | succ n ih=>
  by_cases hk:k=n+1
  ·subst hk;exact h
  ·have:=ih (by omega)
   unfold ZbL
   rw[this]
theorem ZfF{l:List UInt8}{p n:Nat}{x:List UInt8×Nat}(h:ZbT l p n=.ok x):p+n<=l.length/\x.1=sub l p n/\x.2=p+n:=by
 unfold ZbT at h
 split at h
 ·cases h
 ·injection h with h;subst h;exact⟨by omega,rfl,rfl⟩
theorem Zhz{l:List UInt8}{p n:Nat}(h:p+n<=l.length):(sub l p n).length=n:=by
 unfold sub;rw[List.length_take,List.length_drop];omega
theorem Zd3{l:List UInt8}{p n:Nat}{x:Nat×Nat}(h:Z8 l p n=.ok x):p+n<=l.length/\x.1=back (sub l p n)/\x.2=p+n/\x.1<256 ^ n:=by
 unfold Z8 at h
 cases ht:ZbT l p n with
 | error e=>rw[ht]at h;cases h
 | ok y=>
  rw[ht]at h
  injection h with h
  subst h
  obtain⟨h1,h2,h3⟩:=ZfF ht
  refine⟨h1,by rw[h2],h3,?_⟩
  show back y.1<_
  rw[h2]
  exact Zev (by rw[Zhz h1];exact Nat.le_refl _)
theorem ZuD{v:Nat}(h:v<4294967296) : -2147483648<=Zdt v/\Zdt v<=2147483647:=by unfold Zdt;split <;> omega
theorem ZmI(s:ByteArray)(p n:Nat):sub (bl s) p n=bl (s.extract p (p+n)):=by
 rw[Zex,List.drop_take];unfold sub;congr 1;omega
end Go.Proofs.YtkodhpilkaihjaaGreatDoor.LS
namespace Go.Proofs.YtkodhpilkaihjaaGreatDoor
open Go.RowKit LS
theorem ZjN{h:Nat}(hh:h % 2=1):bitS h=(h / 2) ^^^ 3988292384:=if_pos hh
theorem ZjM{h:Nat}(hh:¬h % 2=1):bitS h=h / 2:=if_neg hh
theorem Zi4{k:IntKind}{a b:Int}(h:a=b):Ending.returned (.int k a)=.returned (.int k b):=by rw[h]
theorem Znw{h0:Nat}(hb:h0<4294967296)(c:UInt8):bits .xor .u32 (h0:Int) ((c.toNat:Int) % 4294967296)=((h0 ^^^ c.toNat:Nat):Int):=by
 have hc:=c.toNat_lt
 rw[show((c.toNat:Int) % 4294967296)=(c.toNat:Int) by omega]
 exact u32_xor_nat h0 _ hb (by omega)
theorem Zwl{z:Nat}(hz:z<4294967296):4294967295 ^^^ z=4294967295 - z:=by
 have h:(BitVec.allOnes 32 ^^^ BitVec.ofNat 32 z).toNat=(~~~ BitVec.ofNat 32 z).toNat:=by rw[BitVec.allOnes_xor]
 rw[BitVec.toNat_xor,BitVec.toNat_not,BitVec.toNat_ofNat,Nat.mod_eq_of_lt hz]at h
 exact h
theorem Zsm{z:Nat}(hz:z<4294967296):bits .xor .u32 IntKind.u32.max (z:Int)=4294967295 - (z:Int):=by
 have:=u32_xor_nat 4294967295 z (by decide) hz
 rw[Zwl hz]at this
 rw[show IntKind.u32.max=((4294967295:Nat):Int) from rfl,this]
 omega
theorem ZnB{z:Nat}(hz:z<4294967296):bits .and .u32 (z:Int) 1=(z:Int) % 2:=by
 have:=u32_and_nat z 1 hz (by decide)
 rw[Nat.and_one_is_mod]at this
 rw[show(1:Int)=((1:Nat):Int) from rfl,this]
 omega
theorem Zwp(s:ByteArray)(w:World)(hs:s.size<=maxLen) :
  Calls Tryz.prog 30 #[.string s] w fun e w'=>e=.returned (.int .u32 (sumQ (bl s)))/\w'=w:=by
 unfold maxLen at hs
 go_enter Tryz.func30,Tryz.ntmps30
 go_wp2
 go_loop [3,4] (fun h i=>∃k:Nat,k<=s.size/\i=.int .i64 k/\h=.int .u32 (sumL ((bl s).take k))) (fun _ i=>s.size - (intOf i).toNat)
 case atStart=>exact⟨0,Nat.zero_le _,rfl,rfl⟩
 case round=>
  obtain⟨k,hk,rfl,rfl⟩:=hrel
  have hb:=ZmJ ((bl s).take k)
  obtain⟨h0,hh0⟩:∃h0,sumL ((bl s).take k)=h0:=⟨_,rfl⟩
  have HH0:Hid (sumL ((bl s).take k)=h0):=hh0
  rw[hh0]at hb ⊢
  clear hh0
  by_cases hlt:k<s.size
  ·have hx:=Znw hb s[k]
   have HNX:Hid (sumL ((bl s).take (k+1))=ZcD 8 (h0 ^^^ s[k].toNat)):=hid (by rw[ZfE s k hlt,Zjn,HH0.out];rfl)
   have hg0:h0 ^^^ s[k].toNat<4294967296:=Ze9 hb _
   obtain⟨g0,hgg⟩:∃g0,h0 ^^^ s[k].toNat=g0:=⟨_,rfl⟩
   rw[hgg]at hx HNX hg0
   clear hgg HH0
   go_wp2
   go_loop [3,5] (fun h i=>∃j:Nat,j<=8/\i=.int .i64 j/\h=.int .u32 (ZcD j g0)) (fun _ i=>8 - (intOf i).toNat)
   case atStart=>exact⟨0,Nat.zero_le _,rfl,rfl⟩
   case round=>
    obtain⟨j,hj,rfl,rfl⟩:=hrel
    by_cases hj8:j<8
    ·have hz:=Zfc hg0 j
     have HS:Hid (ZcD (j+1) g0=bitS (ZcD j g0)):=rfl
     generalize ZcD j g0=z at *
     by_cases ho:z % 2=1
     ·have hx2:bits .xor .u32 ((z:Int) / 2) 3988292384=((z / 2 ^^^ 3988292384:Nat):Int):=by
       have:=u32_xor_nat (z / 2) 3988292384 (by omega) (by omega)
       simpa using this
      have hm:((z:Int) % 2 == 1)=true:=by rw[beq_iff_eq];omega
      have HB:=hid (ZjN ho)
      clear ho
      go_wp2
      go_round
      case rel=>exact⟨j+1,by omega,by go_num,by rw[HS.out,HB.out]⟩
      case measure=>simp[intOf];omega
     ·have hm:((z:Int) % 2 == 1)=false:=by rw[beq_eq_false_iff_ne];omega
      have HB:=hid (ZjM ho)
      clear ho
      go_wp2
      go_round
      case rel=>exact⟨j+1,by omega,by go_num,by rw[HS.out,HB.out];go_num⟩
      case measure=>simp[intOf];omega
    ·obtain rfl:j=8:=by omega
     go_wp2
     go_round
     case rel=>exact⟨k+1,by omega,by go_num,by rw[HNX.out]⟩
     case measure=>simp[intOf];omega
  ·have HF:Hid (sumQ (bl s)=4294967295 - h0):=hid (by
    unfold sumQ;rw[<-HH0.out,List.take_of_length_le (by rw[Ze];omega)])
   clear HH0
   go_wp2
   go_ret
   exact⟨Zi4 (by rw[HF.out];omega),rfl⟩
theorem ZsL(s:ByteArray)(w:World)(hs:s.size<=maxLen) :
  Calls Tryz.prog 77 #[.string s] w fun e w'=>e=.returned (.int .u32 (sumQ (bl s)))/\w'=w:=by
 unfold maxLen at hs
 go_enter Tryz.func77,Tryz.ntmps77
 go_wp2
 go_loop [3,8] (fun h i=>∃k:Nat,k<=s.size/\i=.int .i64 k/\h=.int .u32 (sumL ((bl s).take k))) (fun _ i=>s.size - (intOf i).toNat)
 case atStart=>exact⟨0,Nat.zero_le _,rfl,rfl⟩
 case round=>
  obtain⟨k,hk,rfl,rfl⟩:=hrel
  have hb:=ZmJ ((bl s).take k)
  obtain⟨h0,hh0⟩:∃h0,sumL ((bl s).take k)=h0:=⟨_,rfl⟩
  have HH0:Hid (sumL ((bl s).take k)=h0):=hh0
  rw[hh0]at hb ⊢
  clear hh0
  by_cases hlt:k<s.size
  ·have hx:=Znw hb s[k]
   have HNX:Hid (sumL ((bl s).take (k+1))=ZcD 8 (h0 ^^^ s[k].toNat)):=hid (by rw[ZfE s k hlt,Zjn,HH0.out];rfl)
   have hg0:h0 ^^^ s[k].toNat<4294967296:=Ze9 hb _
   obtain⟨g0,hgg⟩:∃g0,h0 ^^^ s[k].toNat=g0:=⟨_,rfl⟩
   rw[hgg]at hx HNX hg0
   clear hgg HH0
   go_wp2
   go_loop [3,17] (fun h i=>∃j:Nat,j<=8/\i=.int .i64 j/\h=.int .u32 (ZcD j g0)) (fun _ i=>8 - (intOf i).toNat)
   case atStart=>exact⟨0,Nat.zero_le _,rfl,rfl⟩
   case round=>
    obtain⟨j,hj,rfl,rfl⟩:=hrel
    by_cases hj8:j<8
    ·have hz:=Zfc hg0 j
     have HS:Hid (ZcD (j+1) g0=bitS (ZcD j g0)):=rfl
     generalize ZcD j g0=z at *
     have hone:=ZnB hz
     by_cases ho:z % 2=1
     ·have hx2:bits .xor .u32 ((z:Int) / 2) 3988292384=((z / 2 ^^^ 3988292384:Nat):Int):=by
       have:=u32_xor_nat (z / 2) 3988292384 (by omega) (by omega)
       simpa using this
      have hm:((z:Int) % 2 == 1)=true:=by rw[beq_iff_eq];omega
      have HB:=hid (ZjN ho)
      clear ho
      go_wp2
      go_round
      case rel=>exact⟨j+1,by omega,by go_num,by rw[HS.out,HB.out]⟩
      case measure=>simp[intOf];omega
     ·have hm:((z:Int) % 2 == 1)=false:=by rw[beq_eq_false_iff_ne];omega
      have HB:=hid (ZjM ho)
      clear ho
      go_wp2
      go_round
      case rel=>exact⟨j+1,by omega,by go_num,by rw[HS.out,HB.out];go_num⟩
      case measure=>simp[intOf];omega
    ·obtain rfl:j=8:=by omega
     go_wp2
     go_round
     case rel=>exact⟨k+1,by omega,by go_num,by rw[HNX.out]⟩
     case measure=>simp[intOf];omega
  ·have HF:Hid (sumQ (bl s)=4294967295 - h0):=hid (by
    unfold sumQ;rw[<-HH0.out,List.take_of_length_le (by rw[Ze];omega)])
   have hn:=Zsm hb
   clear HH0
   go_wp2
   go_ret
   exact⟨Zi4 (by rw[HF.out];omega),rfl⟩
def Zdo:List (Nat×Nat)->List Value
 | []=>[]
 | x::l=>.int .i64 x.1::.int .i64 x.2::Zdo l
theorem Zpm(l m:List (Nat×Nat)):Zdo (l++m)=Zdo l++Zdo m:=by
 induction l with
 | nil=>rfl
 | cons a l ih=>simp[Zdo,ih]
theorem ZeB(l:List (Nat×Nat))(j:Nat)(hj:j<l.length):(Zdo l)[j*2]?=some (.int .i64 l[j].1)/\(Zdo l)[j*2+1]?=some (.int .i64 l[j].2):=by
 induction l generalizing j with
 | nil=>simp at hj
 | cons r l ih=>
  cases j with
  | zero=>exact⟨rfl,rfl⟩
  | succ j=>
   have h:=ih j (by simpa using hj)
   rw[show(j+1)*2=j*2+1+1 by omega]
   simpa [Zdo] using h
def kl(k:Nat):UInt8:=match k with
 | 1=>115
 | 2=>118
 | 3=>114
 | _=>45
theorem Zn0(a b:ByteArray):(a.toList == b.toList)=decide (a=b):=by
 by_cases h:a=b
 ·subst h;simp
 ·rw[decide_eq_false h,beq_eq_false_iff_ne]
  intro e
  exact h (Zc9 (by rw[<-Zba,<-Zba,e]))
theorem BAt.setkM{w:World}{a:Nat}{c:List Value}{t:TypeId}(h:BAt w a c t)(i:Nat)(v:Value):BAt (w.setCell ⟨a,i,none⟩ v) a (c.set i v) t:=by
 unfold BAt at h ⊢
 simp only[World.setCell,Array.getElem?_modify,h,if_true,Option.map_some]
 show some (Obj.cells (c.toArray.setIfInBounds i v) t (0,0))=_
 rw[List.setIfInBounds_toArray]
theorem BAt.ownGrownR{w w':World}{a:Nat}{c:List Value}{t:TypeId}(h:BAt w a c t){base:Nat}{e:TypeId}{sz:Nat}{v:Value}{n:Nat}{xs:List Value}(ho:w.ownsRow base e sz v n xs)(hg:w.grownBy w' v.ownBlock)(ht:t≠e):BAt w' a c t:=
 (hg.block a h.lt (ZcA ho h ht)).trans h
theorem ZmI(s:ByteArray)(p n:Nat):bl (s.extract p (p+n))=sub (bl s) p n:=by
 rw[Zex,List.drop_take];unfold sub;congr 1;omega
structure MKeep (w w':World) (mb:Nat) (st:Value):Prop where
 os:w'.os=w.os
 tape:w'.tape=w.tape
 output:w'.output=w.output
 size:w.heap.size<=w'.heap.size
 block:∀k,k<w.heap.size->k≠mb->some k≠st.ownBlock->w'.heap[k]?=w.heap[k]?
theorem MKeep.below{w0 w w':World}{mb:Nat}{st:Value}(h:MKeep w w' mb st)(hb:Below w0.heap.size w0 w)(hm:w0.heap.size<=mb)(hs:∀k,st.ownBlock=some k->w0.heap.size<=k):Below w0.heap.size w0 w':=
 ⟨h.os.trans hb.os, h.tape.trans hb.tape, h.output.trans hb.output, Nat.le_trans hb.size h.size, fun k hk => by
   rw[h.block k (Nat.lt_of_lt_of_le hk hb.size) (by omega) (fun e=>by have:=hs k e.symm;omega)]
   exact hb.block k hk⟩
def pmC(c0 c1 c2 c3 al:Value)(tm:Int)(st sl gr:Value):List Value:=[c0,c1,c2,c3,al,.int .i64 tm,st,sl,gr]
theorem Tryz.infoIVal:(Tryz.prog.info? 223).map (fun i=>(i.zero,i.size,i.bytes))=some (some .nilIface,1,16):=by kernel_rfl
structure PSt (w:World) (base mb:Nat) (c0 c1 c2 c3 al:Value) (tm:Int) (sl gr:Value) (sa:Option Addr) (sn sc:Nat) (vs:List Value):Prop where
 box:BAt w mb (pmC c0 c1 c2 c3 al tm (.slice sa sn sc) sl gr) 365
 own:w.ownsRow base 223 1 (.slice sa sn sc) sn vs
 len:vs.length=sn
theorem PSt.below{w w':World}{base mb:Nat}{c0 c1 c2 c3 al:Value}{tm:Int}{sl gr:Value}{sa:Option Addr}{sn sc:Nat}{vs:List Value}(h:PSt w base mb c0 c1 c2 c3 al tm sl gr sa sn sc vs)(hb:Below w.heap.size w w'):PSt w' base mb c0 c1 c2 c3 al tm sl gr sa sn sc vs:=⟨h.box.below hb,Zm h.own hb,h.len⟩
theorem ZsG{w:World}{base:Nat}{e:TypeId}{sz g n cap:Nat}{xs:List Value}(h:w.ownsRow base e sz (.slice (some ⟨g,0,none⟩) n cap) n xs)(k:Nat)(hk:k<=n):w.ownsRow base e sz (.slice (some ⟨g,0,none⟩) k cap) k (xs.take (k*sz)):=by
 obtain⟨h1,h2⟩:=h
 refine⟨by rw[List.length_take,h1];exact Nat.min_eq_left (Nat.mul_le_mul_right _ hk),?_⟩
 rcases h2 with ⟨h2,_⟩|⟨g',cap',cur,hv,hb,hg,hn,hc,hs,hx⟩
 ·cases h2
 ·injection hv with hv1 hv2 hv3
  injection hv1 with hv1
  injection hv1 with hv1 _ _
  subst hv1 hv3
  refine Or.inr ⟨_,_,cur,rfl,hb,hg,by omega,hc,hs,?_⟩
  rw[<-hx,List.take_take,Nat.min_eq_left (Nat.mul_le_mul_right _ hk)]
theorem ZeI(w:World)(base mb:Nat)(c0 c1 c2 c3 al:Value)(tm:Int)(sl gr:Value)(sa:Option Addr)(n sc:Nat)(vs:List Value)(v:Value)(h:PSt w base mb c0 c1 c2 c3 al tm sl gr sa (n+1) sc (vs++[v]))(hn:n<=64) :
  Calls Tryz.prog 99 #[.pointer (some ⟨mb,0,none⟩)] w fun e w'=>e=.returned v/\Hid (PSt w' base mb c0 c1 c2 c3 al tm sl gr sa n sc vs)/\Hid (w.grownBy w' (some mb)):=by
 have hl:vs.length=n:=by have:=h.len;rw[List.length_append]at this;simpa using this
 obtain⟨g,cp,hv⟩:=ZV h.own (by omega)
 injection hv with hv1 hv2 hv3
 subst hv1 hv3
 have m6:w.cell? ⟨mb,6,none⟩=some (.slice (some ⟨g,0,none⟩) (n+1) sc):=h.box.cell 6
 have mf:=h.box.frozen 6
 have k0:=Zj h.own n v (by rw[List.getElem?_append_right (by omega),hl];simp)
 have hml:=h.box.lt
 have hgl:=ZbX h.own
 have hcap:n+1<=sc:=by
  rcases h.own.2 with ⟨h2,_⟩|⟨g',cap',cur,hv,_,_,hn,_⟩
  ·cases h2
  ·injection hv with _ _ hv3;omega
 have HF:Hid (PSt (w.setCell ⟨mb,6,none⟩ (.slice (some ⟨g,0,none⟩) n sc)) base mb c0 c1 c2 c3 al tm sl gr (some ⟨g,0,none⟩) n sc vs):=hid ⟨h.box.setkM 6 _,by
  have ho : (w.setCell ⟨mb, 6, none⟩ (.slice (some ⟨g, 0, none⟩) n sc)).ownsRow base 223 1 (.slice (some ⟨g, 0, none⟩) (n + 1) sc) (n + 1) (vs ++ [v]) := Zem h.own (fun k hq => Go.Deep.blk_setCell_other _ _ _ _ (by
    rintro rfl
    exact ZcA h.own h.box (by decide) hq.symm))
  have:=ZsG ho n (by omega)
  rw[Nat.mul_one,List.take_append_of_le_length (by omega),List.take_of_length_le (by omega)]at this
  exact this,hl⟩
 have HG:Hid (w.grownBy (w.setCell ⟨mb,6,none⟩ (.slice (some ⟨g,0,none⟩) n sc)) (some mb)):=hid (Zo (Zbc w (some mb)) (Or.inl rfl) _)
 clear h hl
 go_enter Tryz.func99,Tryz.ntmps99
 go_wp2
 go_ret
 exact⟨rfl,HF,HG⟩
theorem PSt.app{w wr w1:World}{base mb:Nat}{c0 c1 c2 c3 al:Value}{tm:Int}{sl gr:Value}{sa:Option Addr}{sn sc:Nat}{vs:List Value}(h:PSt wr base mb c0 c1 c2 c3 al tm sl gr sa sn sc vs)(hb:Below w.heap.size w wr){v:Value}{ga nc:Nat}
  (hg:wr.grownBy w1 (Value.slice sa sn sc).ownBlock) (ho:w1.ownsRow base 223 1 (.slice (some ⟨ga,0,none⟩) (sn+1) nc) (sn+1) (vs++[v])) :
  BAt w1 mb (pmC c0 c1 c2 c3 al tm (.slice sa sn sc) sl gr) 365/\PSt (w1.setCell ⟨mb,6,none⟩ (.slice (some ⟨ga,0,none⟩) (sn+1) nc)) base mb c0 c1 c2 c3 al tm sl gr (some ⟨ga,0,none⟩) (sn+1) nc (vs++[v])/\MKeep w (w1.setCell ⟨mb,6,none⟩ (.slice (some ⟨ga,0,none⟩) (sn+1) nc)) mb (.slice sa sn sc):=by
 have hb1:BAt w1 mb (pmC c0 c1 c2 c3 al tm (.slice sa sn sc) sl gr) 365:=h.box.ownGrownR h.own hg (by decide)
 refine ⟨hb1, ⟨hb1.setkM 6 _, Zem ho (fun k hq => Go.Deep.blk_setCell_other _ _ _ _ (by
     rintro rfl
     exact ZcA ho hb1 (by decide) hq.symm)),by rw[List.length_append,h.len];rfl⟩,?_⟩
 have h2:w1.grownBy (w1.setCell ⟨mb,6,none⟩ (.slice (some ⟨ga,0,none⟩) (sn+1) nc)) (some mb):=Zo (Zbc w1 (some mb)) (Or.inl rfl) _
 refine⟨h2.os.trans (hg.os.trans hb.os),h2.tape.trans (hg.tape.trans hb.tape),h2.output.trans (hg.output.trans hb.output),Nat.le_trans hb.size (Nat.le_trans hg.size h2.size),fun k hk h3 h4=>?_⟩
 rw[Go.Deep.blk_setCell_other _ _ _ _ h3,hg.block k (Nat.lt_of_lt_of_le hk hb.size) h4]
 exact hb.block k hk
theorem Ze2(w:World)(base mb:Nat)(c0 c1 c2 c3 al:Value)(tm:Int)(sl gr:Value)(sa:Option Addr)(sn sc:Nat)(vs:List Value)(ty:TypeId)(u:Value)(h:PSt w base mb c0 c1 c2 c3 al tm sl gr sa sn sc vs)(hn:sn<=64)(hbs:base<=w.heap.size) :
  Calls Tryz.prog 172 #[.pointer (some ⟨mb,0,none⟩),.iface ty u] w fun e w'=>e=.returned (.tuple #[])/\Hid (∃ga nc,PSt w' base mb c0 c1 c2 c3 al tm sl gr (some ⟨ga,0,none⟩) (sn+1) nc (vs++[.iface ty u]))/\Hid (MKeep w w' mb (.slice sa sn sc)):=by
 obtain⟨i0,hi,hz0,hz1,hz2⟩:=info_parts Tryz.infoIVal
 have HM:=hid h
 have hown:=h.own
 have m6:w.cell? ⟨mb,6,none⟩=some (.slice sa sn sc):=h.box.cell 6
 have hml:=h.box.lt
 have HMA:Hid (∀o,PSt (w.alloc o) base mb c0 c1 c2 c3 al tm sl gr sa sn sc vs):=hid (fun o=>HM.below Zbal)
 clear h
 go_enter Tryz.func172,Tryz.ntmps172
 go_wp2_with (at_builtin;refine wpList_append_own _ rfl (.tmp 8) (.tmp 10) 363 rfl base 223 i0 .nilIface 1 16 Tryz.underlying363 hi hz0 hz1 hz2 rfl (by decide) _ _ _ rfl (hown.alloc _) ⟨w.heap.size,0,none⟩ 1 1 [.iface ty u] rfl rfl ?c1 ?c2 ?c3 ?c4 ?c5 ?_)
 (try case c1=>exact cell_one_new _ _ _)
 case c2=>first|rfl|(intro u hu;simp at hu;subst hu;rfl)
 case c3=>unfold maxLen;omega
 case c4=>omega
 case c5=>first|omega|(simp;omega)
 intro v' w3 hown3 hgrow _
 obtain⟨g3,cp3,hv3⟩:=ZV hown3 (by omega)
 subst hv3
 obtain⟨hb3,hp3,hk3⟩:=(HMA.out _).app (w:=w) Zbal (by exact hgrow) hown3
 have HB3:=hid hb3
 have HP3:=hid hp3
 have HK3:=hid hk3
 clear hown3 hgrow hb3 hp3 hk3 m6 hown hml
 have m6:w3.cell? ⟨mb,6,none⟩=some (.slice sa sn sc):=HB3.cell 6
 have mf:=HB3.frozen 6
 have hml:=HB3.lt
 go_wp2
 exact bodyPost_end (v:=.tuple #[]) (results_none rfl _ _ _) rfl ⟨rfl,hid ⟨_,_,HP3.out⟩,HK3⟩
open Go.ChangeMaps (setBlock)
structure MapI (w:World) (x:Nat) (gs:List (Nat×Value)) (es:Array MapEntry) (clock:Nat):Prop where
 heap:w.heap[x]?=some (.map es clock)
 stm:MapKept.Stamped es clock
 kv:es.toList.map (fun e=>(e.key,e.val))=gs.map (fun g=>(Value.int .i64 g.1,g.2))
 sz:∀g∈gs,g.1<16
theorem wf16{j:Nat}(h:j<16):(Lit.int .i64 (j:Int)).wf=true:=by
 rcases(by omega:j=0∨j=1∨j=2∨j=3∨j=4∨j=5∨j=6∨j=7∨j=8∨j=9∨j=10∨j=11∨j=12∨j=13∨j=14∨j=15)with rfl|rfl|rfl|rfl|rfl|rfl|rfl|rfl|rfl|rfl|rfl|rfl|rfl|rfl|rfl|rfl <;> rfl
theorem MapI.len{w:World}{x:Nat}{gs:List (Nat×Value)}{es:Array MapEntry}{clock:Nat}(h:MapI w x gs es clock):es.size=gs.length:=by
 have:=congrArg List.length h.kv
 simpa using this
theorem MapI.at{w:World}{x:Nat}{gs:List (Nat×Value)}{es:Array MapEntry}{clock:Nat}(h:MapI w x gs es clock){j:Nat}{e:MapEntry}(he:es.toList[j]?=some e):∃hj:j<gs.length,e.key=.int .i64 gs[j].1/\e.val=gs[j].2:=by
 have h1:(es.toList.map (fun e=>(e.key,e.val)))[j]?=(gs.map (fun g=>(Value.int .i64 g.1,g.2)))[j]?:=by rw[h.kv]
 rw[List.getElem?_map,he,List.getElem?_map]at h1
 have hj:j<gs.length:=by
  rcases Nat.lt_or_ge j gs.length with h2|h2
  ·exact h2
  ·rw[List.getElem?_eq_none h2]at h1;cases h1
 rw[List.getElem?_eq_getElem hj]at h1
 simp only[Option.map_some,Option.some.injEq,Prod.mk.injEq]at h1
 exact⟨hj,h1.1,h1.2⟩
theorem MapI.keys {w : World} {x : Nat} {gs : List (Nat × Value)} {es : Array MapEntry} {clock : Nat} (h : MapI w x gs es clock) : ∀ e ∈ es.toList, ∃ l, keyOf Tryz.prog 3 e.key = some l := fun e he => by
  obtain⟨j,hj⟩:=List.getElem?_of_mem he
  obtain⟨hl,h1,_⟩:=h.at hj
  rw[h1]
  exact⟨_,Maps.keyOf_int_mk Tryz.underlying3 (wf16 (h.sz _ (List.getElem_mem hl)))⟩
theorem MapI.moved{w w':World}{x:Nat}{gs:List (Nat×Value)}{es:Array MapEntry}{clock:Nat}(h:MapI w x gs es clock)(hh:w'.heap[x]?=w.heap[x]?):MapI w' x gs es clock:=⟨hh.trans h.heap,h.stm,h.kv,h.sz⟩
theorem ZkX{a b:Nat}(h:Value.int .i64 (a:Int)=.int .i64 (b:Int)):a=b:=by
 injection h with _ h;omega
theorem MapI.find{w:World}{x:Nat}{gs:List (Nat×Value)}{es:Array MapEntry}{clock:Nat}(h:MapI w x gs es clock)(k:Nat)(hk:k<16) :
  ((∀W:World,(Instr.findKey 3 (.int .i64 k) es.toList).run Tryz.prog W=.ok none W)/\(∀g∈gs,g.1≠k)/\∀e∈es.toList,e.key≠.int .i64 k)∨
  ∃j,∃hj:j<gs.length,gs[j].1=k/\(∀i (hi:i<gs.length),i≠j->gs[i].1≠k)/\∃e,es.toList[j]?=some e/\e.key=.int .i64 k/\e.val=gs[j].2/\∀W:World,(Instr.findKey 3 (.int .i64 k) es.toList).run Tryz.prog W=.ok (some (j,e.val)) W:=by
 have K:=Maps.int_keyed (P:=Tryz.prog) (k:=3) Tryz.underlying3
 have hkey:=Maps.keyOf_int_mk (P:=Tryz.prog) (k:=3) Tryz.underlying3 (wf16 hk)
 rcases K.find w hkey es.toList h.keys with ⟨h1,h2⟩|⟨j,e,h1,h2,h3⟩
 ·left
  refine⟨fun W=>?_,fun g hg he=>?_,h2⟩
  ·rcases K.find W hkey es.toList h.keys with ⟨k1,_⟩|⟨j,e,k1,k2,k3⟩
   ·exact k1
   ·exact absurd k3 (h2 e (List.mem_of_getElem? k2))
  ·obtain⟨i,hi,rfl⟩:=List.mem_iff_getElem.1 hg
   have hi2:i<es.toList.length:=by rw[Array.length_toList,h.len];exact hi
   obtain⟨_,e1,_⟩:=h.at (List.getElem?_eq_getElem hi2)
   exact h2 _ (List.getElem_mem hi2) (by rw[e1,he])
 ·right
  obtain⟨hj,e1,e2⟩:=h.at h2
  rw[h3]at e1
  have htx:gs[j].1=k:=(ZkX e1).symm
  have hnd:=h.stm.2.2
  have huniq : ∀ i (hi : i < gs.length), i ≠ j -> gs[i].1 ≠ k := fun i hi hij he => by
    have hi2:i<es.toList.length:=by rw[Array.length_toList,h.len];exact hi
    have hj2:j<es.toList.length:=(List.getElem?_eq_some_iff.1 h2).1
    obtain⟨_,f1,_⟩:=h.at (List.getElem?_eq_getElem hi2)
    have e3:es.toList[j]=e:=Option.some.inj ((List.getElem?_eq_getElem hj2).symm.trans h2)
    rw[List.Nodup,List.pairwise_map,List.pairwise_iff_getElem]at hnd
    rcases Nat.lt_or_ge i j with h4|h4
    · exact hnd i j hi2 hj2 h4 (by rw[f1,he,e3,h3])
    · exact hnd j i hj2 hi2 (by omega) (by rw[f1,he,e3,h3])
  refine⟨j,hj,htx,huniq,e,h2,h3,e2,fun W=>?_⟩
  rcases K.find W hkey es.toList h.keys with ⟨_,k2⟩|⟨j',e',k1,k2,k3⟩
  ·exact absurd h3 (k2 e (List.mem_of_getElem? h2))
  ·obtain⟨hj',f1,f2⟩:=h.at k2
   rw[k3]at f1
   have:j'=j:=by
    refine Classical.byContradiction fun hne=>huniq j' hj' hne ?_
    exact(ZkX f1).symm
   subst this
   rw[h2]at k2
   have k4:=Option.some.inj k2
   subst k4
   exact k1
def getI(gs:List (Nat×Value))(k:Nat):Option Value:=(gs.find? fun g=>g.1=k).map (·.2)
theorem ZpB{gs:List (Nat×Value)}{k:Nat}(h:∀g∈gs,g.1≠k):getI gs k=none:=by
 unfold getI
 rw[List.find?_eq_none.2 (fun g hg=>by simpa using h g hg)];rfl
theorem ZkM:∀ {gs:List (Nat×Value)} {k j:Nat} (hj:j<gs.length),gs[j].1=k->(∀i (hi:i<gs.length),i≠j->gs[i].1≠k)->getI gs k=some gs[j].2
 | [],k,j,hj,_,_=>absurd hj (Nat.not_lt_zero _)
 | g::gs,k,0,hj,h,_=>by unfold getI;rw[List.find?_cons_of_pos (by simpa using h)];rfl
 | g :: gs, k, j + 1, hj, h, hu => by
   have h0:g.1≠k:=hu 0 (by simp) (by omega)
   have:=ZkM (gs:=gs) (k:=k) (j:=j) (by simpa using hj) h (fun i hi hij=>hu (i+1) (by simpa using hi) (by omega))
   unfold getI at this ⊢
   rw[List.find?_cons_of_neg (by simpa using h0)]
   exact this
theorem ZrQ{w:World}{x:Nat}{gs:List (Nat×Value)}{es:Array MapEntry}{clock:Nat}(h:MapI w x gs es clock){k:Nat}(hk:k<16){v:Value}(hv:getI gs k=some v)(W:World)(hW:W.heap[x]?=w.heap[x]?) :
  (Instr.lookup 362 (.map (some x)) (.int .i64 k) false).run Tryz.prog W=.ok v W:=by
 have K:=Maps.int_keyed (P:=Tryz.prog) (k:=3) Tryz.underlying3
 have hkey:=Maps.keyOf_int_mk (P:=Tryz.prog) (k:=3) Tryz.underlying3 (wf16 hk)
 rcases h.find k hk with ⟨_,h2,_⟩|⟨j,hj,h1,h2,e,h3,h4,h5,hf⟩
 ·rw[ZpB h2]at hv;cases hv
 ·rw[ZkM hj h1 h2]at hv
  have hv2:=Option.some.inj hv
  rw[h5,hv2]at hf
  simp[Instr.lookup,run_underlying Tryz.underlying362,MapKept.run_getObj_map (hW.trans h.heap),K.check W _ hkey,hf W,Result.andThen]
theorem ZpA(gs:List (Nat×Value))(k:Nat)(v:Value)(h:∀g∈gs,g.1≠k)(i:Nat):getI (gs++[(k,v)]) i=if k=i then some v else getI gs i:=by
 unfold getI
 rw[List.find?_append]
 by_cases e:k=i
 ·subst e
  rw[if_pos rfl,List.find?_eq_none.2 (fun g hg=>by simpa using h g hg)];simp
 ·rw[if_neg e]
  cases hf:gs.find? (fun g=>decide (g.1=i))with
  | none=>simp[e]
  | some g=>simp
theorem ZkN:∀ {gs:List (Nat×Value)} {k j:Nat} (hj:j<gs.length) (v:Value),gs[j].1=k->(∀i (hi:i<gs.length),i≠j->gs[i].1≠k)->∀i,getI (gs.set j (k,v)) i=if k=i then some v else getI gs i
 | [],k,j,hj,_,_,_,_=>absurd hj (Nat.not_lt_zero _)
 | g :: gs, k, 0, hj, v, h, _, i => by
   have h:g.1=k:=h
   unfold getI
   rw[List.set_cons_zero]
   by_cases e:k=i
   · rw[if_pos e,List.find?_cons_of_pos (by simpa using e)];rfl
   · rw[if_neg e,List.find?_cons_of_neg (by simpa using e),List.find?_cons_of_neg (by rw[h];simpa using e)]
 | g :: gs, k, j + 1, hj, v, h, hu, i => by
   have h0:g.1≠k:=hu 0 (by simp) (by omega)
   have ih:=ZkN (gs:=gs) (k:=k) (j:=j) (by simpa using hj) v h (fun i hi hij=>hu (i+1) (by simpa using hi) (by omega)) i
   unfold getI at ih ⊢
   rw[List.set_cons_succ]
   by_cases e:g.1=i
   · rw[List.find?_cons_of_pos (by simpa using e),List.find?_cons_of_pos (by simpa using e),if_neg (by omega)]
   · rw[List.find?_cons_of_neg (by simpa using e),List.find?_cons_of_neg (by simpa using e)]
     exact ih
theorem ZvD{w:World}{x:Nat}{gs:List (Nat×Value)}{es:Array MapEntry}{clock:Nat}(h:MapI w x gs es clock){k:Nat}(hk:k<16)(v:Value) :
  ∃(es':Array MapEntry) (cl':Nat) (gs':List (Nat×Value)),(∀W:World,W.heap[x]?=w.heap[x]?->(Instr.mapUpdate 362 (.map (some x)) (.int .i64 k) v).run Tryz.prog W=.ok () (setBlock W x (.map es' cl')))/\(∀W:World,x<W.heap.size->MapI (setBlock W x (.map es' cl')) x gs' es' cl')/\∀i,getI gs' i=if k=i then some v else getI gs i:=by
 have K:=Maps.int_keyed (P:=Tryz.prog) (k:=3) Tryz.underlying3
 have hkey:=Maps.keyOf_int_mk (P:=Tryz.prog) (k:=3) Tryz.underlying3 (wf16 hk)
 rcases h.find k hk with ⟨hf,h2,h3⟩|⟨j,hj,h1,h2,e,h3,h4,h5,hf⟩
 ·refine⟨es.push ⟨.int .i64 k,v,clock⟩,clock+1,gs++[(k,v)],fun W hW=>?_,fun W hx=>⟨by simp[setBlock,hx],MapKept.stamped_push h.stm h3,?_,fun z hz=>?_⟩,ZpA gs k v h2⟩
  ·simp[Instr.mapUpdate,run_underlying Tryz.underlying362,MapKept.run_getObj_map (hW.trans h.heap),K.check W false hkey,hf W,MapKept.run_setObj_map _ (hW.trans h.heap),Result.andThen,setBlock]
  ·rw[Array.toList_push,List.map_append,List.map_append,h.kv];rfl
  ·rcases List.mem_append.1 hz with hz|hz
   ·exact h.sz z hz
   ·rw[List.mem_singleton]at hz;subst hz;exact hk
 ·have hk2:((es[j]?).map (·.key)).getD (.int .i64 k)=.int .i64 k:=by
   rw[<-Array.getElem?_toList,h3];exact h4
  refine⟨es.modify j fun e=>{ e with key:=.int .i64 k,val:=v },clock,gs.set j (k,v),fun W hW=>?_,fun W hx=>⟨by simp[setBlock,hx],MapKept.stamped_modify h.stm j _ (fun _ _=>rfl) (fun e' _ he'=>?_),?_,fun z hz=>?_⟩,ZkN hj v h1 h2⟩
  ·simp[Instr.mapUpdate,run_underlying Tryz.underlying362,MapKept.run_getObj_map (hW.trans h.heap),K.check W false hkey,hf W,hk2,K.stays W hkey,MapKept.run_setObj_map _ (hW.trans h.heap),Result.andThen,setBlock]
  ·rw[<-Array.getElem?_toList,h3]at he'
   have:=Option.some.inj he'
   subst this
   exact h4.symm
  ·rw[List.map_set,<-h.kv]
   apply List.ext_getElem?
   intro i
   rw[List.getElem?_map,Array.toList_modify,List.getElem?_modify,List.getElem?_set]
   by_cases hij:j=i
   ·subst hij
    have hj2:j<es.size:=by have:=(List.getElem?_eq_some_iff.1 h3).1;simpa using this
    simp[hj2]
   ·simp[hij]
  ·rcases List.mem_or_eq_of_mem_set hz with hz|hz
   ·exact h.sz z hz
   ·rw[hz];exact hk
theorem Zoo{w:World}{x:Nat}{es:Array MapEntry}{clock:Nat}(h:w.heap[x]?=some (.map es clock))(T:TypeId):(Builtin.clear_ #[362] T #[.map (some x)]).run Tryz.prog w=.ok (.tuple #[]) (setBlock w x (.map #[] clock)):=by
 simp[Builtin.clear_,run_underlying Tryz.underlying362,MapKept.run_getObj_map h,MapKept.run_setObj_map _ h,Result.andThen,setBlock]
end Go.Proofs.YtkodhpilkaihjaaGreatDoor

/- Parts. -/
import Derived.Test.YtpbemaaghbbocaaGreatDoorW15
set_option linter.all false
set_option maxRecDepth 100000
set_option maxHeartbeats 16000000
namespace Go.Proofs.YtpbemaaghbbocaaGreatDoor
open Go.RowKit LS Go.Proofs.Tryz
variable {n t:Int}{k:Nat}{Rd:Nat->Int×Int}
def tmS(Rd:Nat->Int×Int):Nat->Int
 | 0=>0
 | k+1=>tmS Rd k+1+Zd6 (Rd k).1 20
def smK(Rd:Nat->Int×Int)(k:Nat):Int×Int:=(tmS Rd (k+1),Zd6 (Rd k).2 2000001 - 1000000)
def RKs(Rd:Nat->Int×Int)(k:Nat):List (Int×Int):=(List.range k).map (smK Rd)
theorem ZPh(Rd:Nat->Int×Int)(k:Nat):RKs Rd (k+1)=RKs Rd k++[smK Rd k]:=by unfold RKs;rw[Ygx,Yaq];rfl
theorem ZO8(Rd:Nat->Int×Int)(k:Nat):(RKs Rd k).length=k:=by unfold RKs;simp
theorem ZPg(Rd:Nat->Int×Int)(k:Nat):tmS Rd k<tmS Rd (k+1)/\tmS Rd (k+1)<=tmS Rd k+20:=by
 have:=ZmM (Rd k).1 20 Dc;show tmS Rd k<tmS Rd k+1+Zd6 (Rd k).1 20/\tmS Rd k+1+Zd6 (Rd k).1 20<=tmS Rd k+20;omega
theorem ZPf(Rd:Nat->Int×Int):∀k,0<=tmS Rd k/\tmS Rd k<=20*(k:Int)
 | 0=>⟨Yd0 _,by show(0:Int)<=_;omega⟩
 | k + 1 => by
   have a:=ZPf Rd k;have c:=ZPg Rd k;omega
theorem ZPJ(Rd:Nat->Int×Int)(j:Nat):∀k,j<=k->tmS Rd j<=tmS Rd k
 | 0, h => by
   obtain rfl:j=0:=by omega
   exact Yd0 _
 | k + 1, h => by
   by_cases e:j=k+1
   · subst e;exact Yd0 _
   · have a:=ZPJ Rd j k Om
     have c:=ZPg Rd k;omega
theorem ZPe(Rd:Nat->Int×Int)(k:Nat):mil (smK Rd k).2:=by
 have:=ZmM (Rd k).2 2000001 Dc;show -1000000<=Zd6 (Rd k).2 2000001 - 1000000/\Zd6 (Rd k).2 2000001 - 1000000<=1000000;omega
theorem ZPF:∀(l:List (Int×Int)) (last:Int) (x:Int×Int),ZO2 last l->last<x.1->(∀y∈l,y.1<x.1)->0<=x.1->x.1<=1000000->-1000000000<=x.2->x.2<=1000000000->ZO2 last (l++[x])
 | [],last,x,_,f,_,a,c,d,e=>⟨f,a,c,d,e,trivial⟩
 | y :: l, last, x, h, f, g, a, c, d, e => by
   obtain⟨a1,a2,a3,a4,a5,a6⟩:=h;exact⟨a1,a2,a3,a4,a5,ZPF l y.1 x a6 (g y (Yay ..)) (fun z i=>g z (Yam _ i)) a c d e⟩
theorem ZPp{y:Int×Int}(h:y∈RKs Rd k):∃j,j<k/\y=smK Rd j:=by
 unfold RKs at h;obtain⟨j,a,rfl⟩:=Ybe.1 h;exact⟨j,Yb9.1 a,rfl⟩
theorem ZO9(Rd:Nat->Int×Int):∀k,k<=100->ZO2 (-1) (RKs Rd k)
 | 0,_=>trivial
 | k + 1, h => by
   rw[ZPh];have a:=ZPf Rd (k+1);have c:=ZPe Rd k;unfold mil at c;refine ZPF _ _ _ (ZO9 Rd k Om) ?_ (fun y d=>?_) a.1 ?_ Om Om
   · show -1<tmS Rd (k+1);omega
   · obtain⟨j,e,rfl⟩:=ZPp d
     show tmS Rd (j+1)<tmS Rd (k+1);have:=ZPJ Rd (j+1) k Om;have:=ZPg Rd k;omega
   · show tmS Rd (k+1)<=1000000;omega
theorem ZPA(Rd:Nat->Int×Int)(k:Nat):linS (RKs Rd (k+1))=linS (RKs Rd k)++[32]++decI (tmS Rd (k+1))++[58]++decI (Zd6 (Rd k).2 2000001 - 1000000):=by
 rw[ZPh];unfold linS;rw[List.flatMap_append];simp[smS,pcS,smK]
theorem ZPN(Rd:Nat->Int×Int)(k:Nat)(n t:Int):Zb6 (RKs Rd (k+1)) n t=Zb6 (RKs Rd k) n t++(if t - n<tmS Rd (k+1)/\tmS Rd (k+1)<=t then [smK Rd k] else []):=by
 rw[ZPh];unfold Zb6;rw[Ygd]
 congr 1
 by_cases h:t - n<tmS Rd (k+1)/\tmS Rd (k+1)<=t
 ·rw[if_pos h,Yda (by show(decide (t - n<tmS Rd (k+1)) && decide (tmS Rd (k+1)<=t))=true;simpa using h)];rfl
 ·rw[if_neg h,Ydb (by show ¬(decide (t - n<tmS Rd (k+1)) && decide (tmS Rd (k+1)<=t))=true;simpa using h)];rfl
def ZOX(Rd:Nat->Int×Int)(k:Nat)(n t:Int):List Int:=(Zb6 (RKs Rd k) n t).map (·.2)
theorem ZPD(a:t - n<tmS Rd (k+1))(c:tmS Rd (k+1)<=t):ZOX Rd (k+1) n t=ZOX Rd k n t++[Zd6 (Rd k).2 2000001 - 1000000]:=by
 unfold ZOX;rw[ZPN,if_pos ⟨a,c⟩,Yaq];rfl
theorem ZPE(h:¬(t - n<tmS Rd (k+1)/\tmS Rd (k+1)<=t)):ZOX Rd (k+1) n t=ZOX Rd k n t:=by
 unfold ZOX;rw[ZPN,if_neg h,Yca]
theorem ZPa : ∀x∈ZOX Rd k n t,mil x:=by
 intro x a;unfold ZOX at a;obtain⟨y,c,rfl⟩:=Ybe.1 a;obtain⟨j,_,rfl⟩:=ZPp (Ycg.1 c).1;exact ZPe Rd j
theorem ZO4 : (ZOX Rd k n t).length<=k:=by
 unfold ZOX Zb6;rw[Yak];have:=Ydj (fun x:Int×Int=>decide (t - n<x.1) && decide (x.1<=t)) (RKs Rd k);rw[ZO8]at this;exact this
theorem ZPt(a : -1000000<=n)(c:n<=1000000):(decI n).length<=8:=by
 unfold decI;split
 ·have := ZhZ 6 n.natAbs (by have : (10 : Nat) ^ 7 = 10000000 := (by decide); omega)
  rw[Yab];simp;omega
 ·have := ZhZ 6 n.toNat (by have : (10 : Nat) ^ 7 = 10000000 := (by decide); omega)
  omega
theorem ZO6(Rd:Nat->Int×Int):∀k,k<=100->(linS (RKs Rd k)).length<=3+18*k
 | 0,_=>Yac 3
 | k + 1, h => by
   have ih:=ZO6 Rd k Om;have c:=ZPf Rd (k+1);have a:=ZPe Rd k;have a1:=ZPt (n:=tmS Rd (k+1)) Om Om;have a2:=ZPt (n:=Zd6 (Rd k).2 2000001 - 1000000) a.1 a.2;rw[ZPA];simp only[Yab,Ybj];omega
def ZOY(t:Int)(l:List Int)(x:Int):LB:=decI t++(if l.isEmpty then [] else [32,123,125]++decI x)
theorem ZPL(Rd:Nat->Int×Int)(k o:Nat)(t:Int)(a:k<=100):sayW (RKs Rd k) (some o) n t=ZOY t (ZOX Rd k n t) (ZfI o (ZOX Rd k n t)):=by
 unfold sayW ZOY;have e:(Zb6 (RKs Rd k) n t).isEmpty=(ZOX Rd k n t).isEmpty:=by unfold ZOX;simp
 rw[e];have:oneV (some o) (Zb6 (RKs Rd k) n t)=ZfI o (ZOX Rd k n t):=(ZPo ZPa (Yah ZO4 a) o).1;rw[this]
theorem ZPK(Rd:Nat->Int×Int)(k:Nat)(t:Int):sayW (RKs Rd k) none 10 t=ZOY t (ZOX Rd k 10 t) ((ZOX Rd k 10 t).getLastD 0):=by
 unfold sayW ZOY;have e:(Zb6 (RKs Rd k) 10 t).isEmpty=(ZOX Rd k 10 t).isEmpty:=by unfold ZOX;simp
 rw[e]
 have:oneV none (Zb6 (RKs Rd k) 10 t)=(ZOX Rd k 10 t).getLastD 0:=by
  show((Zb6 (RKs Rd k) 10 t).getLastD (0,0)).2=_;unfold ZOX;generalize Zb6 (RKs Rd k) 10 t=l;rw[Yey,Yey,List.getLast?_map];cases l.getLast? <;> rfl
 rw[this]

/- Parts. -/
import Derived.Test.YtcdgkkfipdoeeaaGreatDoorU00
set_option linter.all false
set_option maxRecDepth 100000
set_option maxHeartbeats 16000000
namespace Go.Proofs.YtcdgkkfipdoeeaaGreatDoor
open Go.RowKit LS Go.Proofs.Tryz
def Zck(a:Ah)(i:Nat):Value:=if i=0 then .bool a.qy else if i=1 then .bool a.qz else if i=2 then Vi a.jz.length else if i<67 then .int .u8 ((a.jz.reverse.getD (i - 3) 0:Nat):Int)else .int .u8 ((a.jy.getD (i - 67) 0:Nat):Int)
def stC(a:Ah):List Value:=(List.range 83).map (Zck a)
theorem ZbE(a:Ah):(stC a).length=83:=by rfl
theorem ZcA(a:Ah)(i:Nat)(h:i<83):(stC a)[i]?=some (Zck a i):=by
 unfold stC;simp_all
theorem Zsu(a:Ah):∀v∈stC a,v.oneCell'=true:=by
 intro v c;obtain⟨i,_,rfl⟩:=Ybe.1 c;unfold Zck;repeat' split
 all_goals rfl
theorem Zni(a:Ah)(j:Nat)(h:j<64):(stC a)[3+j]?=some (.int .u8 ((a.jz.reverse.getD j 0:Nat):Int)):=by
 rw[ZcA a _ Om];unfold Zck;rw[if_neg Om,if_neg Om,if_neg Om,if_pos Om,show 3+j - 3=j by omega]
theorem Znh(a:Ah)(j:Nat)(h:j<16):(stC a)[67+j]?=some (.int .u8 ((a.jy.getD j 0:Nat):Int)):=by
 rw[ZcA a _ Om];unfold Zck;rw[if_neg Om,if_neg Om,if_neg Om,if_neg Om,show 67+j - 67=j by omega]
theorem Ziy{l:List Value}{a:Ah}(d:l.length=83)(h:∀i,i<83->l[i]?=some (Zck a i)):l=stC a:=by
 apply Ycs;intro i;by_cases c:i<83
 ·rw[h i c,ZcA a i c]
 ·rw[Ya9 Om,Ya9 (by rw[ZbE];omega)]
theorem ZCG(a:Ah)(k:Nat)(m:a.jz.length<64):((stC a).set (3+a.jz.length) (.int .u8 (k:Int))).set 2 (Vi ((a.jz.length+1:Nat):Int))=stC { a with jz:=k::a.jz }:=by
 refine Ziy (by simp[ZbE]) (fun i l=>?_);rw[Ya0];by_cases f:2=i
 ·subst f;rw[if_pos rfl,if_pos (by simp[ZbE])];rfl
 ·rw[if_neg f,Ya0];by_cases g:3+a.jz.length=i
  ·subst g;rw[if_pos rfl,if_pos (by assumption)];unfold Zck;rw[if_neg Om,if_neg Om,if_neg Om,if_pos Om,show 3+a.jz.length - 3=a.jz.length by omega];simp
  ·rw[if_neg g,ZcA a i l]
   congr 1
   unfold Zck;by_cases h:i=0
   ·simp_all
   ·rw[if_neg h,if_neg h];by_cases j:i=1
    ·simp_all
    ·have c:¬i=2:=fun e=>f e.symm;rw[if_neg j,if_neg j,if_neg c,if_neg c];by_cases d:i<67
     ·rw[if_pos d,if_pos d]
      congr 2
      show a.jz.reverse.getD (i - 3) 0=(k::a.jz).reverse.getD (i - 3) 0;rw[Ybz,Yaa,Yaa];by_cases n:i - 3<a.jz.length
      ·rw[Ybr (by simp_all)]
      ·rw[Ya9 (by simp_all),Ya9 (by simp;omega)]
     split<;>simp_all
theorem ZCF(a:Ah)(p:a.jz.length<=64)(f:0<a.jz.length):((stC a).set 2 (Vi ((a.jz.length - 1:Nat):Int))).set (3+(a.jz.length - 1)) (.int .u8 0)=stC { a with jz:=a.jz.tail }:=by
 obtain⟨k,r,g⟩:∃k r,a.jz=k::r:=by
  cases q:a.jz with
  | nil=>simp_all
  | cons k r=>simp
 refine Ziy (by simp[ZbE]) (fun i n=>?_);have j:a.jz.length - 1=r.length:=by rw[g];simp
 rw[j];have o:r.length<64:=by omega
 rw[Ya0];by_cases l:3+r.length=i
 ·subst l;rw[if_pos rfl,if_pos (by assumption)];unfold Zck;rw[if_neg Om,if_neg Om,if_neg Om,if_pos Om,show 3+r.length - 3=r.length by omega,g];simp
 ·rw[if_neg l,Ya0];by_cases h:2=i
  ·subst h;rw[if_pos rfl,if_pos (by assumption)];unfold Zck
   simp_all
  ·rw[if_neg h,ZcA a i n]
   congr 1
   unfold Zck;by_cases f:i=0
   ·simp_all
   ·rw[if_neg f,if_neg f];by_cases m:i=1
    ·simp_all
    ·have c:¬i=2:=fun e=>h e.symm;rw[if_neg m,if_neg m,if_neg c,if_neg c];by_cases d:i<67
     ·rw[if_pos d,if_pos d,g]
      congr 2
      show(k::r).reverse.getD (i - 3) 0=r.reverse.getD (i - 3) 0;rw[Ybz,Yaa,Yaa];by_cases s:i - 3<r.length
      ·rw[Ybr (by simp_all)]
      ·rw[Ya9 (by simp;omega),Ya9 (by simp_all)]
     split<;>simp_all
theorem Znj(a:Ah)(j k:Nat)(m:j<16)(l:a.jy.length=16):(stC a).set (67+j) (.int .u8 (k:Int))=stC { a with jy:=a.jy.set j k }:=by
 refine Ziy (by simp[ZbE]) (fun i h=>?_);rw[Ya0];by_cases d:67+j=i
 ·subst d;rw[if_pos rfl,if_pos (by assumption)];unfold Zck;rw[if_neg Om,if_neg Om,if_neg Om,if_neg Om,show 67+j - 67=j by omega]
  simp_all
 ·rw[if_neg d,ZcA a i h]
  congr 1
  unfold Zck;by_cases e:i=0
  ·simp_all
  ·rw[if_neg e,if_neg e];by_cases f:i=1
   ·simp_all
   ·rw[if_neg f,if_neg f];by_cases g:i=2
    ·simp_all
    ·rw[if_neg g,if_neg g];by_cases c:i<67
     ·simp_all
     ·rw[if_neg c,if_neg c]
      congr 2
      show a.jy.getD (i - 67) 0=(a.jy.set j k).getD (i - 67) 0;rw[Yaa,Yaa,List.getElem?_set_ne Om]

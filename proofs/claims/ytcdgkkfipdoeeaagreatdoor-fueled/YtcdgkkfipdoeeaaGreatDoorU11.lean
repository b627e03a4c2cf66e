/- Parts. -/
import Derived.Test.YtcdgkkfipdoeeaaGreatDoorU00
set_option linter.all false
set_option maxRecDepth 100000
set_option maxHeartbeats 16000000
namespace Go.Proofs.YtcdgkkfipdoeeaaGreatDoor
open Go.RowKit LS Go.Proofs.Tryz
def Zck(a:Ah)(i:Nat):Value:=if i=0 then .bool a.qy else if i=1 then .bool a.qz else if i=2 then Vi a.jz.length else if i<67 then .int .u8 ((a.jz.reverse.getD (i - 3) 0:Nat):Int)else .int .u8 ((a.jy.getD (i - 67) 0:Nat):Int)
def stC(a:Ah):List Value:=(List.range 83).map (Zck a)
theorem ZbE(a:Ah):(stC a).length=83:=by simp[stC]
theorem ZcA(a:Ah)(i:Nat)(h:i<83):(stC a)[i]?=some (Zck a i):=by
 unfold stC;rw[List.getElem?_map,List.getElem?_range h];rfl
theorem Zsu(a:Ah):∀v∈stC a,v.oneCell'=true:=by
 intro v c;obtain⟨i,_,rfl⟩:=List.mem_map.1 c;unfold Zck;repeat' split
 all_goals rfl
theorem Zni(a:Ah)(j:Nat)(h:j<64):(stC a)[3+j]?=some (.int .u8 ((a.jz.reverse.getD j 0:Nat):Int)):=by
 rw[ZcA a _ Om];unfold Zck;rw[if_neg Om,if_neg Om,if_neg Om,if_pos Om,show 3+j - 3=j by omega]
theorem Znh(a:Ah)(j:Nat)(h:j<16):(stC a)[67+j]?=some (.int .u8 ((a.jy.getD j 0:Nat):Int)):=by
 rw[ZcA a _ Om];unfold Zck;rw[if_neg Om,if_neg Om,if_neg Om,if_neg Om,show 67+j - 67=j by omega]
theorem Ziy{l:List Value}{a:Ah}(d:l.length=83)(h:∀i,i<83->l[i]?=some (Zck a i)):l=stC a:=by
 apply List.ext_getElem?;intro i;by_cases c:i<83
 ·rw[h i c,ZcA a i c]
 ·rw[List.getElem?_eq_none Om,List.getElem?_eq_none (by rw[ZbE];omega)]
theorem ZCG(a:Ah)(k:Nat)(n:a.jz.length<64):((stC a).set (3+a.jz.length) (.int .u8 (k:Int))).set 2 (Vi ((a.jz.length+1:Nat):Int))=stC { a with jz:=k::a.jz }:=by
 refine Ziy (by simp[ZbE]) (fun i l=>?_);rw[List.getElem?_set];by_cases h:2=i
 ·subst h;rw[if_pos rfl,if_pos (by simp[ZbE])];rfl
 ·rw[if_neg h,List.getElem?_set];by_cases j:3+a.jz.length=i
  ·subst j;rw[if_pos rfl,if_pos (by rw[ZbE];omega)];unfold Zck;rw[if_neg Om,if_neg Om,if_neg Om,if_pos Om,show 3+a.jz.length - 3=a.jz.length by omega]
   congr 2
   rw[List.reverse_cons,List.getD_eq_getElem?_getD,List.getElem?_append_right (by simp)];simp
  ·rw[if_neg j,ZcA a i l]
   congr 1
   unfold Zck;by_cases d:i=0
   ·rw[if_pos d,if_pos d]
   ·rw[if_neg d,if_neg d];by_cases f:i=1
    ·rw[if_pos f,if_pos f]
    ·have g:¬i=2:=fun e=>h e.symm;rw[if_neg f,if_neg f,if_neg g,if_neg g];by_cases c:i<67
     ·rw[if_pos c,if_pos c]
      congr 2
      show a.jz.reverse.getD (i - 3) 0=(k::a.jz).reverse.getD (i - 3) 0;rw[List.reverse_cons,List.getD_eq_getElem?_getD,List.getD_eq_getElem?_getD];by_cases m:i - 3<a.jz.length
      ·rw[List.getElem?_append_left (by simpa using m)]
      ·rw[List.getElem?_eq_none (by simp;omega),List.getElem?_eq_none (by simp;omega)]
     ·rw[if_neg c,if_neg c]
theorem ZCF(a:Ah)(s:a.jz.length<=64)(c:0<a.jz.length):((stC a).set 2 (Vi ((a.jz.length - 1:Nat):Int))).set (3+(a.jz.length - 1)) (.int .u8 0)=stC { a with jz:=a.jz.tail }:=by
 obtain⟨k,r,f⟩:∃k r,a.jz=k::r:=by
  cases n:a.jz with
  | nil=>rw[n]at c;simp at c
  | cons k r=>exact⟨k,r,rfl⟩
 refine Ziy (by simp[ZbE]) (fun i o=>?_);have l:a.jz.length - 1=r.length:=by rw[f];simp
 rw[l];have p:r.length<64:=by omega
 rw[List.getElem?_set];by_cases m:3+r.length=i
 ·subst m;rw[if_pos rfl,if_pos (by simp[ZbE];omega)];unfold Zck;rw[if_neg Om,if_neg Om,if_neg Om,if_pos Om,show 3+r.length - 3=r.length by omega,f];simp
 ·rw[if_neg m,List.getElem?_set];by_cases j:2=i
  ·subst j;rw[if_pos rfl,if_pos (by simp[ZbE])];unfold Zck;rw[f];simp
  ·rw[if_neg j,ZcA a i o]
   congr 1
   unfold Zck;by_cases c:i=0
   ·rw[if_pos c,if_pos c]
   ·rw[if_neg c,if_neg c];by_cases g:i=1
    ·rw[if_pos g,if_pos g]
    ·have h:¬i=2:=fun e=>j e.symm;rw[if_neg g,if_neg g,if_neg h,if_neg h];by_cases d:i<67
     ·rw[if_pos d,if_pos d,f]
      congr 2
      show(k::r).reverse.getD (i - 3) 0=r.reverse.getD (i - 3) 0;rw[List.reverse_cons,List.getD_eq_getElem?_getD,List.getD_eq_getElem?_getD];by_cases q:i - 3<r.length
      ·rw[List.getElem?_append_left (by simpa using q)]
      ·rw[List.getElem?_eq_none (by simp;omega),List.getElem?_eq_none (by simp;omega)]
     ·rw[if_neg d,if_neg d]
theorem Znj(a:Ah)(j k:Nat)(l:j<16)(g:a.jy.length=16):(stC a).set (67+j) (.int .u8 (k:Int))=stC { a with jy:=a.jy.set j k }:=by
 refine Ziy (by simp[ZbE]) (fun i m=>?_);rw[List.getElem?_set];by_cases h:67+j=i
 ·subst h;rw[if_pos rfl,if_pos (by rw[ZbE];omega)];unfold Zck;rw[if_neg Om,if_neg Om,if_neg Om,if_neg Om,show 67+j - 67=j by omega];simp[List.getD_eq_getElem?_getD,g,l]
 ·rw[if_neg h,ZcA a i m]
  congr 1
  unfold Zck;by_cases d:i=0
  ·rw[if_pos d,if_pos d]
  ·rw[if_neg d,if_neg d];by_cases e:i=1
   ·rw[if_pos e,if_pos e]
   ·rw[if_neg e,if_neg e];by_cases f:i=2
    ·rw[if_pos f,if_pos f]
    ·rw[if_neg f,if_neg f];by_cases c:i<67
     ·rw[if_pos c,if_pos c]
     ·rw[if_neg c,if_neg c]
      congr 2
      show a.jy.getD (i - 67) 0=(a.jy.set j k).getD (i - 67) 0;rw[List.getD_eq_getElem?_getD,List.getD_eq_getElem?_getD,List.getElem?_set_ne Om]

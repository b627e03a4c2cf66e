/- Parts. -/
import Derived.Test.YtkodhpilkaihjaaGreatDoorF37
import Derived.Test.YtkodhpilkaihjaaGreatDoorF17
import Derived.Deep.WholeRow
set_option maxRecDepth 100000
set_option maxHeartbeats 8000000
namespace Go.Proofs.YtkodhpilkaihjaaGreatDoor
open Go.RowKit LS
structure AhOk (a:Ah):Prop where
 ln:a.stack.length<=64
 kd:∀k∈a.stack,k≠0
 sl:a.slots.length=16
theorem Tryz.infoSt:(Tryz.prog.info? 312).map (·.size)=some 83:=by kernel_rfl
theorem Tryz.infoSk:(Tryz.prog.info? 309).map (·.size)=some 64:=by kernel_rfl
theorem Tryz.infoKd:(Tryz.prog.info? 308).isSome=true:=by kernel_rfl
theorem ZuU(a:Ah):(stC a).set 1 (.bool true)=stC { a with clash:=true }:=by
 refine Zgi (by simp[Zbn]) (fun i hi=>?_)
 rw[List.getElem?_set]
 by_cases h1:1=i
 ·subst h1;rw[if_pos rfl,if_pos (by simp[Zbn])];rfl
 ·have h1':¬i=1:=fun e=>h1 e.symm
  rw[if_neg h1,Zch a i hi]
  unfold ZbR
  rw[if_neg h1',if_neg h1']
def ZN(x y:List Nat)(k:Nat):List Nat:=(both x y).take k++x.drop k
theorem Zff{x y:List Nat}(hx:x.length=16)(hy:y.length=16):(both x y).length=16:=by simp[both,hx,hy]
theorem Zhf{x y:List Nat}(hx:x.length=16)(hy:y.length=16)(k:Nat)(hk:k<=16):(ZN x y k).length=16:=by
 unfold ZN;rw[List.length_append,List.length_take,List.length_drop,Zff hx hy,hx];omega
theorem Zlz(x y:List Nat):ZN x y 0=x:=by simp[ZN]
theorem Zlv{x y:List Nat}(hx:x.length=16)(hy:y.length=16):ZN x y 16=both x y:=by
 unfold ZN
 rw[List.take_of_length_le (by rw[Zff hx hy];exact Nat.le_refl _),List.drop_of_length_le (by omega),List.append_nil]
theorem ZiK{x y:List Nat}(hx:x.length=16)(hy:y.length=16)(k:Nat)(hk:k<16):(ZN x y k).getD k 0=x.getD k 0:=by
 unfold ZN
 rw[List.getD_eq_getElem?_getD,List.getElem?_append_right (by rw[List.length_take,Zff hx hy];omega),List.length_take,Zff hx hy,List.getElem?_drop,List.getD_eq_getElem?_getD]
 congr 2;omega
theorem Zly{x y:List Nat}(hx:x.length=16)(hy:y.length=16)(k:Nat)(hk:k<16):ZN x y (k+1)=(ZN x y k).set k (if x.getD k 0=y.getD k 0 then x.getD k 0 else 0):=by
 have hb:=Zff hx hy
 have hv : (both x y)[k]'(by omega) = if x.getD k 0 = y.getD k 0 then x.getD k 0 else 0 := by
   unfold both
   rw[List.getElem_zipWith]
   simp[List.getD_eq_getElem?_getD,List.getElem?_eq_getElem (show k<x.length by omega),List.getElem?_eq_getElem (show k<y.length by omega)]
 unfold ZN
 rw[List.take_succ_eq_append_getElem (by omega),hv,List.set_append_right _ _ (by rw[List.length_take];omega),List.length_take,hb,show k - min k 16=0 by omega,List.append_assoc]
 congr 1
 rw[List.drop_eq_getElem_cons (show k<x.length by omega)]
 rfl
theorem Zlx{x y:List Nat}(hx:x.length=16)(hy:y.length=16)(k:Nat)(hk:k<16)(h:x.getD k 0=y.getD k 0):ZN x y (k+1)=ZN x y k:=by
 rw[Zly hx hy k hk,if_pos h,<-ZiK hx hy k hk]
 apply List.ext_getElem?
 intro j
 rw[List.getElem?_set]
 by_cases e:k=j
 ·subst e
  rw[if_pos rfl,if_pos (by rw[Zhf hx hy k (by omega)];exact hk),List.getD_eq_getElem?_getD,List.getElem?_eq_getElem (by rw[Zhf hx hy k (by omega)];exact hk)]
  rfl
 ·rw[if_neg e]
theorem Zlw{x y:List Nat}(hx:x.length=16)(hy:y.length=16)(k:Nat)(hk:k<16)(h:x.getD k 0≠y.getD k 0):ZN x y (k+1)=(ZN x y k).set k 0:=by
 rw[Zly hx hy k hk,if_neg h]
theorem Zhs(w:World)(g i:Nat)(l:List Ah)(b:Ah)(hi:i<l.length)(hg:BAt w g (stCs l) 312)(ha:AhOk (l.getD i ah0))(hb:AhOk b)(hk:b.known=true)(hc:b.clash=false) :
  Calls Tryz.prog 147 #[.pointer (some ⟨g,i*83,none⟩),.agg (stC b).toArray] w fun e w'=>e=.returned (.tuple #[])/\Hid (BAt w' g (stCs (l.set i (Zbf (l.getD i ah0) b.stack b.slots))) 312)/\w.grownBy w' (some g):=by
 obtain⟨a,hae⟩:∃a,a=l.getD i ah0:=⟨_,rfl⟩
 rw[<-hae]at ha ⊢
 obtain⟨o,ho⟩:∃o,o=i*83:=⟨_,rfl⟩
 rw[<-ho]
 have HO:=hid ho
 have HA:=hid ha
 have HB:=hid hb
 have HG:=hid hg
 have hgl:=hg.lt
 have HAE:=hid hae
 have cells : ∀ (W : World) (l' : List Ah), l'.length = l.length -> BAt W g (stCs l') 312 -> ∀ j, j < 83 -> W.cell? ⟨g, o + j, none⟩ = some (ZbR (l'.getD i ah0) j) := fun W l' h1 h2 j hj => by
   rw[h2.cell,HO.out,Zgj l' i j (by omega) hj]
 have HCE:=hid cells
 clear ha hb hg hae ho cells
 go_enter Tryz.func147,Tryz.ntmps147
 go_upto_region 1 with fail
 refine ZK fun W hW=>?_
 have hbW:Below w.heap.size w W:=by rw[hW];exact Zbal
 have HGW:=hid (HG.below hbW)
 have HW:Hid (w.grownBy W (some g)):=hid (Zu hbW)
 have HOW:Hid (BAt W w.heap.size (stC b) 312):=hid (by rw[hW];exact Go.Deep.blk_alloc_new _ _)
 clear hW hbW HG
 have c0:W.cell? ⟨g,o,none⟩=some (.bool a.known):=by
  have:=HCE.out W l rfl HGW.out 0 (by decide)
  rw[<-HAE.out]at this;exact this
 have hng:¬w.heap.size=g:=by omega
 cases hka:a.known with
 | false=>
  rw[hka]at c0
  have HL:Hid (W.rangeAt w.heap.size 0 (stC b)):=hid (HOW.range 0 (stC b) (fun j _=>by rw[Nat.zero_add]))
  have HTH:Hid (W.there g o (stC b).toArray.size):=hid (HGW.there o _ (by rw[List.size_toArray,Zbn,ZfB,HO.out];omega))
  have HI1:Hid ((Tryz.prog.info? 312).map (·.size)=some (stC b).length):=hid (by rw[Zbn];exact Tryz.infoSt)
  have HI2:Hid ((Tryz.prog.info? 312).map (·.size)=some (stC b).toArray.size):=hid (by rw[List.size_toArray,Zbn];exact Tryz.infoSt)
  have H1C:Hid ((stC b).toArray.all (·.oneCell')=true):=hid (all_oneCell_toArray (ZmH b))
  have HF:Hid (BAt (W.setCells g o (stC b)) g (stCs (l.set i (Zbf a b.stack b.slots))) 312):=hid (by
   have h1:=BAt.setCells (stC b) o HGW.out
   rw[HO.out,ZuX hi]at h1
   rw[HO.out]
   have h2:Zbf a b.stack b.slots=b:=by
    unfold Zbf;rw[hka]
    cases b with
    | mk k c st sl=>simp only at hk hc;subst hk;subst hc;rfl
   rw[h2];exact h1)
  have HGF:Hid (w.grownBy (W.setCells g o (stC b)) (some g)):=hid (ZkT (stC b) o HW.out)
  clear HCE
  go_wp2_with (first
    | refine wpList_load_mid rfl 312 (.tmp 3) rfl w.heap.size 0 rfl (stC b) _ HL.out Tryz.underlying312 rfl HI1.out ?_
    | refine wpList_store_mid rfl 312 (.tmp 12) (.tmp 11) rfl g o (stC b).toArray rfl rfl HTH.out HI2.out H1C.out ?_)
  exact bodyPost_ret (v:=.tuple #[]) (results_none rfl _ _ _) rfl ⟨rfl,HF,HGF.out⟩
 | true=>
  rw[hka]at c0
  have hu9:=Tryz.underlying309
  have hia:(Tryz.prog.info? 309).map (·.size)=some (stkC a).length:=by rw[ZfD];exact Tryz.infoSk
  have hib:(Tryz.prog.info? 309).map (·.size)=some (stkC b).length:=by rw[ZfD];exact Tryz.infoSk
  have hla:=ZfD a
  have hlb:=ZfD b
  have hra : W.rangeAt g (o + 3) (stkC a) := HGW.range (o + 3) (stkC a) (fun j hj => by
    rw[ZfD]at hj
    rw[Zhy a j hj,HO.out,show i*83+3+j=i*83+(3+j) by omega,Zgj l i (3+j) hi (by omega),<-HAE.out]
    have:=Zji a j hj
    rw[Zch a _ (by omega)]at this
    exact this)
  have hrb : W.rangeAt w.heap.size 3 (stkC b) := HOW.range 3 (stkC b) (fun j hj => by
    rw[ZfD]at hj
    rw[Zhy b j hj,Zji b j hj])
  have heg:Tryz.prog.eqGuardType Tryz.prog.depth 309=false:=by kernel_rfl
  have HEQ : Hid (∀ W' : World, (binOp .neq 309 (.agg (stkC a).toArray) (.agg (stkC b).toArray)).run Tryz.prog W' = .ok (.bool (decide (a.stack ≠ b.stack))) W') := hid (fun W' => by
    obtain⟨i9,hi9⟩:=Option.isSome_iff_exists.1 Tryz.infoKd
    rw[run_neq_struct,run_equalIn_array W' 9999 _ _ Tryz.underlying309 hi9,show Tryz.prog.cellsOf 308=1 by kernel_rfl,Zmm a b 9998 W' _ (fun i hi=>List.mem_range.1 hi)]
    simp only[Result.andThen_ok]
    congr 2
    have h1 : ((List.range 64).all fun i => a.stack.reverse.getD i 0 == b.stack.reverse.getD i 0) = decide (a.stack = b.stack) := by
      rw[Bool.eq_iff_iff,List.all_eq_true,decide_eq_true_iff,<-Zu3 HA.ln HB.ln HA.kd HB.kd]
      constructor
      · intro h j hj;simpa using h j (List.mem_range.2 hj)
      · intro h j hj;simpa using h j (List.mem_range.1 hj)
    rw[h1]
    simp)
  have HSLB:Hid (b.slots.length=16):=hid HB.sl
  have HSLA:Hid (a.slots.length=16):=hid HA.sl
  have HLS:Hid (l.set i a=l):=hid (by
   apply List.ext_getElem?
   intro j
   rw[List.getElem?_set]
   by_cases e:i=j
   ·subst e
    rw[if_pos rfl,if_pos hi,HAE.out,List.getD_eq_getElem?_getD,List.getElem?_eq_getElem hi]
    rfl
   ·rw[if_neg e])
  have hgw:g<W.heap.size:=HGW.lt
  have ff:=fun j=>HGW.frozen j
  have c1:W.cell? ⟨g,o+1,none⟩=some (.bool a.clash):=by
   have:=HCE.out W l rfl HGW.out 1 (by decide)
   rw[<-HAE.out]at this;exact this
  obtain⟨cl,hcl⟩:∃cl,cl=(a.clash || decide (a.stack≠b.stack)):=⟨_,rfl⟩
  have HMQ:Hid (Zbf a b.stack b.slots=⟨true,cl,a.stack,both a.slots b.slots⟩):=hid (by unfold Zbf;rw[hka,hcl];rfl)
  have HAK:Hid (a=⟨true,a.clash,a.stack,a.slots⟩):=hid (by rw[<-hka])
  have HRA:=hid hra
  have HRB:=hid hrb
  have HIA:=hid hia
  have HIB:=hid hib
  clear hra hrb hia hib hla hlb hu9
  by_cases hab:a.stack=b.stack
  ·have hneq:∀W':World,(binOp .neq 309 (.agg (stkC a).toArray) (.agg (stkC b).toArray)).run Tryz.prog W'=.ok (.bool false) W':=fun W'=>by rw[HEQ.out W'];simp[hab]
   have HCL:Hid (cl=a.clash):=hid (by rw[hcl];simp[hab])
   have HB0:Hid (BAt W.drew g (stCs (l.set i ⟨true,cl,a.stack,ZN a.slots b.slots 0⟩)) 312):=hid (by
    rw[Zlz,HCL.out,<-HAK.out,HLS.out];exact HGW.below ((Below.refl _ _).drew))
   have HO0:Hid (BAt W.drew w.heap.size (stC b) 312):=hid (HOW.below ((Below.refl _ _).drew))
   have HG0:Hid (w.grownBy W.drew (some g)):=hid (Zc2 HW.out)
   clear hcl hab HEQ
   go_upto_region 3 with fail
   refine Zb0 6 (fun w'=>w'.rangeAt g (o+3) (stkC a)/\w'.rangeAt w.heap.size 3 (stkC b)) (by kernel_rfl) ⟨by simpa using HRA.out,by simpa using HRB.out⟩ (fun hHeld=>?_)
   refine Zc (i:=0) (d:=13) (v:=?vp0) rfl rfl (by kernel_rfl) (fun _ _ _ h=>h) (Or.inl ⟨by rfl,?hyp0⟩) hHeld ?rsp0
   case hyp0=>(intro w hSw;go_simp;try with_reducible rfl)
   case rsp0=>
   try simp only[Zset]
   refine Zc (i:=1) (d:=14) (v:=?vp1) rfl rfl (by kernel_rfl) (fun _ _ _ h=>h) (Or.inl ⟨by rfl,?hyp1⟩) hHeld ?rsp1
   case hyp1=>(intro w hSw;go_simp;try with_reducible rfl)
   case rsp1=>
   try simp only[Zset]
   refine Zc (i:=2) (d:=15) (v:=?vp2) rfl rfl (by kernel_rfl) (fun _ _ _ h=>h) (Or.inl ⟨by rfl,?hyp2⟩) hHeld ?rsp2
   case hyp2=>(intro w hSw;go_simp;try with_reducible rfl)
   case rsp2=>
   try simp only[Zset]
   refine Zc (i:=3) (d:=16) (v:=.agg (stkC a).toArray) rfl rfl (by kernel_rfl) (fun _ _ _ h=>h) (yieldsIf_load_mid (by rfl) 309 (.tmp 15) rfl g (o+3) rfl (stkC a) _ (fun w hw=>hw.1) Tryz.underlying309 rfl HIA.out) hHeld ?rsp3
   case rsp3=>
   try simp only[Zset]
   refine Zc (i:=4) (d:=17) (v:=?vp4) rfl rfl (by kernel_rfl) (fun _ _ _ h=>h) (Or.inl ⟨by rfl,?hyp4⟩) hHeld ?rsp4
   case hyp4=>(intro w hSw;go_simp;try with_reducible rfl)
   case rsp4=>
   try simp only[Zset]
   refine Zc (i:=5) (d:=18) (v:=.agg (stkC b).toArray) rfl rfl (by kernel_rfl) (fun _ _ _ h=>h) (yieldsIf_load_mid (by rfl) 309 (.tmp 17) rfl w.heap.size 3 rfl (stkC b) _ (fun w hw=>hw.2) Tryz.underlying309 rfl HIB.out) hHeld ?rsp5
   case rsp5=>
   try simp only[Zset]
   refine ZbW (by kernel_rfl) (by kernel_rfl) rfl (by kernel_rfl) (fun K hK=>?_)
   go_simp
   refine hK.out _ _ ?_
   clear hK K hHeld
   go_wp2
   go_loopw [23] (fun iv wr => ∃ k : Nat, k <= 16 /\ iv = .int .i64 k /\ Hid (BAt wr g (stCs (l.set i ⟨true, cl, a.stack, ZN a.slots b.slots k⟩)) 312) /\ Hid (BAt wr w.heap.size (stC b) 312) /\ Hid (w.grownBy wr (some g)))
     (fun iv _=>16 - (intOf iv).toNat)
   case atStart=>exact⟨0,Nat.zero_le _,rfl,HB0,HO0,HG0⟩
   case round=>
    obtain⟨k,hk,rfl,HBr,HOr,HGr⟩:=hrel
    clear HB0 HO0 HG0
    by_cases hlt:k<16
    ·have hlz:(k:Int)<16:=by omega
     have s1:wr.cell? ⟨g,o+67+k,none⟩=some (.int .u8 ((a.slots.getD k 0:Nat):Int)):=by
      have:=HCE.out wr (l.set i ⟨true,cl,a.stack,ZN a.slots b.slots k⟩) (by simp) HBr.out (67+k) (by omega)
      rw[ZeQ l i _ hi]at this
      rw[show o+67+k=o+(67+k) by omega,this]
      have h2:=Zjh ⟨true,cl,a.stack,ZN a.slots b.slots k⟩ k hlt
      rw[Zch _ _ (by omega)]at h2
      rw[h2,show(⟨true,cl,a.stack,ZN a.slots b.slots k⟩:Ah).slots=ZN a.slots b.slots k from rfl,ZiK HSLA.out HSLB.out k hlt]
     have s2:wr.cell? ⟨w.heap.size,67+k,none⟩=some (.int .u8 ((b.slots.getD k 0:Nat):Int)):=StAt.slot HOr.out k hlt
     have fz:=HBr.frozen (o+67+k)
     by_cases he:a.slots.getD k 0=b.slots.getD k 0
     ·have HM:=hid (Zlx HSLA.out HSLB.out k hlt he)
      have hne:((((a.slots.getD k 0:Nat):Int)) != (((b.slots.getD k 0:Nat):Int)))=false:=by rw[he];simp
      generalize a.slots.getD k 0=x at *
      generalize b.slots.getD k 0=y at *
      clear he
      go_wp2
      go_region
      all_goals
       go_wp2
       go_roundw
       case rel=>exact⟨k+1,by omega,by go_num,hid (by rw[HM.out];exact HBr.below ((Below.refl _ _).drew)),hid (HOr.below ((Below.refl _ _).drew)),hid (Zc2 HGr.out)⟩
       case measure=>simp[intOf];omega
     ·have HM:=hid (Zlw HSLA.out HSLB.out k hlt he)
      have hne:((((a.slots.getD k 0:Nat):Int)) != (((b.slots.getD k 0:Nat):Int)))=true:=by rw[bne_iff_ne];omega
      have HB2 : Hid (∀ W' : World, (∀ j, W'.heap[j]? = wr.heap[j]?) -> BAt (W'.setCell ⟨g, o + 67 + k, none⟩ (.int .u8 0)) g (stCs (l.set i ⟨true, cl, a.stack, ZN a.slots b.slots (k + 1)⟩)) 312) := hid (fun W' hW' => by
        have h1:BAt W' g (stCs (l.set i ⟨true,cl,a.stack,ZN a.slots b.slots k⟩)) 312:=(hW' g).trans HBr.out
        have h2:=h1.setk (o+67+k) (.int .u8 0)
        have h3:(stCs (l.set i ⟨true,cl,a.stack,ZN a.slots b.slots k⟩)).set (i*83+(67+k)) (.int .u8 0)=stCs ((l.set i ⟨true,cl,a.stack,ZN a.slots b.slots k⟩).set i ⟨true,cl,a.stack,ZN a.slots b.slots (k+1)⟩):=
          Zhw (by simpa using hi) (by omega) (by
            rw[ZeQ l i _ hi,HM.out]
            exact Zjj ⟨true,cl,a.stack,ZN a.slots b.slots k⟩ k 0 hlt (Zhf HSLA.out HSLB.out k (by omega)))
        rw[List.set_set]at h3
        rw[show o+67+k=i*83+(67+k) by rw[HO.out];omega,h3]at h2
        rw[show o+67+k=i*83+(67+k) by rw[HO.out];omega]
        exact h2)
      generalize a.slots.getD k 0=x at *
      generalize b.slots.getD k 0=y at *
      clear he
      go_wp2
      go_region
      all_goals
       go_wp2
       go_roundw
       case rel=>exact⟨k+1,by omega,by go_num,hid (HB2.out wr.drew (fun _=>rfl)),hid ((HOr.below ((Below.refl _ _).drew)).other (p:=⟨g,o+67+k,none⟩) hng _),hid (Zo (p:=⟨g,o+67+k,none⟩) (Zc2 HGr.out) (Or.inl rfl) _)⟩
       case measure=>simp[intOf];omega
    ·obtain rfl:k=16:=by omega
     have HF:Hid (BAt wr g (stCs (l.set i (Zbf a b.stack b.slots))) 312):=hid (by
      rw[HMQ.out,<-Zlv HSLA.out HSLB.out];exact HBr.out)
     go_wp2
     go_end0
     exact⟨rfl,HF,HGr.out⟩
  ·have hneq:∀W':World,(binOp .neq 309 (.agg (stkC a).toArray) (.agg (stkC b).toArray)).run Tryz.prog W'=.ok (.bool true) W':=fun W'=>by rw[HEQ.out W'];simp[hab]
   have HCL:Hid (cl=true):=hid (by rw[hcl];simp[hab])
   have HB0:Hid (BAt (W.drew.setCell ⟨g,o+1,none⟩ (.bool true)) g (stCs (l.set i ⟨true,cl,a.stack,ZN a.slots b.slots 0⟩)) 312):=hid (by
    have h2:=(HGW.below ((Below.refl _ _).drew)).setk (o+1) (.bool true)
    have h3:(stCs l).set (i*83+1) (.bool true)=stCs (l.set i { a with clash:=true }):=Zhw hi (by decide) (by rw[<-HAE.out];exact ZuU a)
    rw[show o+1=i*83+1 by rw[HO.out],h3]at h2
    rw[Zlz,HCL.out,show o+1=i*83+1 by rw[HO.out]]
    rw[HAK.out]at h2
    exact h2)
   have HO0:Hid (BAt (W.drew.setCell ⟨g,o+1,none⟩ (.bool true)) w.heap.size (stC b) 312):=hid ((HOW.below ((Below.refl _ _).drew)).other (p:=⟨g,o+1,none⟩) hng _)
   have HG0:Hid (w.grownBy (W.drew.setCell ⟨g,o+1,none⟩ (.bool true)) (some g)):=hid (Zo (p:=⟨g,o+1,none⟩) (Zc2 HW.out) (Or.inl rfl) _)
   clear hcl hab HEQ
   go_upto_region 3 with fail
   refine Zb0 6 (fun w'=>w'.rangeAt g (o+3) (stkC a)/\w'.rangeAt w.heap.size 3 (stkC b)) (by kernel_rfl) ⟨by simpa using HRA.out,by simpa using HRB.out⟩ (fun hHeld=>?_)
   refine Zc (i:=0) (d:=13) (v:=?vq0) rfl rfl (by kernel_rfl) (fun _ _ _ h=>h) (Or.inl ⟨by rfl,?hyq0⟩) hHeld ?rsq0
   case hyq0=>(intro w hSw;go_simp;try with_reducible rfl)
   case rsq0=>
   try simp only[Zset]
   refine Zc (i:=1) (d:=14) (v:=?vq1) rfl rfl (by kernel_rfl) (fun _ _ _ h=>h) (Or.inl ⟨by rfl,?hyq1⟩) hHeld ?rsq1
   case hyq1=>(intro w hSw;go_simp;try with_reducible rfl)
   case rsq1=>
   try simp only[Zset]
   refine Zc (i:=2) (d:=15) (v:=?vq2) rfl rfl (by kernel_rfl) (fun _ _ _ h=>h) (Or.inl ⟨by rfl,?hyq2⟩) hHeld ?rsq2
   case hyq2=>(intro w hSw;go_simp;try with_reducible rfl)
   case rsq2=>
   try simp only[Zset]
   refine Zc (i:=3) (d:=16) (v:=.agg (stkC a).toArray) rfl rfl (by kernel_rfl) (fun _ _ _ h=>h) (yieldsIf_load_mid (by rfl) 309 (.tmp 15) rfl g (o+3) rfl (stkC a) _ (fun w hw=>hw.1) Tryz.underlying309 rfl HIA.out) hHeld ?rsq3
   case rsq3=>
   try simp only[Zset]
   refine Zc (i:=4) (d:=17) (v:=?vq4) rfl rfl (by kernel_rfl) (fun _ _ _ h=>h) (Or.inl ⟨by rfl,?hyq4⟩) hHeld ?rsq4
   case hyq4=>(intro w hSw;go_simp;try with_reducible rfl)
   case rsq4=>
   try simp only[Zset]
   refine Zc (i:=5) (d:=18) (v:=.agg (stkC b).toArray) rfl rfl (by kernel_rfl) (fun _ _ _ h=>h) (yieldsIf_load_mid (by rfl) 309 (.tmp 17) rfl w.heap.size 3 rfl (stkC b) _ (fun w hw=>hw.2) Tryz.underlying309 rfl HIB.out) hHeld ?rsq5
   case rsq5=>
   try simp only[Zset]
   refine ZbW (by kernel_rfl) (by kernel_rfl) rfl (by kernel_rfl) (fun K hK=>?_)
   go_simp
   refine hK.out _ _ ?_
   clear hK K hHeld
   go_wp2
   go_loopw [23] (fun iv wr => ∃ k : Nat, k <= 16 /\ iv = .int .i64 k /\ Hid (BAt wr g (stCs (l.set i ⟨true, cl, a.stack, ZN a.slots b.slots k⟩)) 312) /\ Hid (BAt wr w.heap.size (stC b) 312) /\ Hid (w.grownBy wr (some g)))
     (fun iv _=>16 - (intOf iv).toNat)
   case atStart=>exact⟨0,Nat.zero_le _,rfl,HB0,HO0,HG0⟩
   case round=>
    obtain⟨k,hk,rfl,HBr,HOr,HGr⟩:=hrel
    clear HB0 HO0 HG0
    by_cases hlt:k<16
    ·have hlz:(k:Int)<16:=by omega
     have s1:wr.cell? ⟨g,o+67+k,none⟩=some (.int .u8 ((a.slots.getD k 0:Nat):Int)):=by
      have:=HCE.out wr (l.set i ⟨true,cl,a.stack,ZN a.slots b.slots k⟩) (by simp) HBr.out (67+k) (by omega)
      rw[ZeQ l i _ hi]at this
      rw[show o+67+k=o+(67+k) by omega,this]
      have h2:=Zjh ⟨true,cl,a.stack,ZN a.slots b.slots k⟩ k hlt
      rw[Zch _ _ (by omega)]at h2
      rw[h2,show(⟨true,cl,a.stack,ZN a.slots b.slots k⟩:Ah).slots=ZN a.slots b.slots k from rfl,ZiK HSLA.out HSLB.out k hlt]
     have s2:wr.cell? ⟨w.heap.size,67+k,none⟩=some (.int .u8 ((b.slots.getD k 0:Nat):Int)):=StAt.slot HOr.out k hlt
     have fz:=HBr.frozen (o+67+k)
     by_cases he:a.slots.getD k 0=b.slots.getD k 0
     ·have HM:=hid (Zlx HSLA.out HSLB.out k hlt he)
      have hne:((((a.slots.getD k 0:Nat):Int)) != (((b.slots.getD k 0:Nat):Int)))=false:=by rw[he];simp
      generalize a.slots.getD k 0=x at *
      generalize b.slots.getD k 0=y at *
      clear he
      go_wp2
      go_region
      all_goals
       go_wp2
       go_roundw
       case rel=>exact⟨k+1,by omega,by go_num,hid (by rw[HM.out];exact HBr.below ((Below.refl _ _).drew)),hid (HOr.below ((Below.refl _ _).drew)),hid (Zc2 HGr.out)⟩
       case measure=>simp[intOf];omega
     ·have HM:=hid (Zlw HSLA.out HSLB.out k hlt he)
      have hne:((((a.slots.getD k 0:Nat):Int)) != (((b.slots.getD k 0:Nat):Int)))=true:=by rw[bne_iff_ne];omega
      have HB2 : Hid (∀ W' : World, (∀ j, W'.heap[j]? = wr.heap[j]?) -> BAt (W'.setCell ⟨g, o + 67 + k, none⟩ (.int .u8 0)) g (stCs (l.set i ⟨true, cl, a.stack, ZN a.slots b.slots (k + 1)⟩)) 312) := hid (fun W' hW' => by
        have h1:BAt W' g (stCs (l.set i ⟨true,cl,a.stack,ZN a.slots b.slots k⟩)) 312:=(hW' g).trans HBr.out
        have h2:=h1.setk (o+67+k) (.int .u8 0)
        have h3:(stCs (l.set i ⟨true,cl,a.stack,ZN a.slots b.slots k⟩)).set (i*83+(67+k)) (.int .u8 0)=stCs ((l.set i ⟨true,cl,a.stack,ZN a.slots b.slots k⟩).set i ⟨true,cl,a.stack,ZN a.slots b.slots (k+1)⟩):=
          Zhw (by simpa using hi) (by omega) (by
            rw[ZeQ l i _ hi,HM.out]
            exact Zjj ⟨true,cl,a.stack,ZN a.slots b.slots k⟩ k 0 hlt (Zhf HSLA.out HSLB.out k (by omega)))
        rw[List.set_set]at h3
        rw[show o+67+k=i*83+(67+k) by rw[HO.out];omega,h3]at h2
        rw[show o+67+k=i*83+(67+k) by rw[HO.out];omega]
        exact h2)
      generalize a.slots.getD k 0=x at *
      generalize b.slots.getD k 0=y at *
      clear he
      go_wp2
      go_region
      all_goals
       go_wp2
       go_roundw
       case rel=>exact⟨k+1,by omega,by go_num,hid (HB2.out wr.drew (fun _=>rfl)),hid ((HOr.below ((Below.refl _ _).drew)).other (p:=⟨g,o+67+k,none⟩) hng _),hid (Zo (p:=⟨g,o+67+k,none⟩) (Zc2 HGr.out) (Or.inl rfl) _)⟩
       case measure=>simp[intOf];omega
    ·obtain rfl:k=16:=by omega
     have HF:Hid (BAt wr g (stCs (l.set i (Zbf a b.stack b.slots))) 312):=hid (by
      rw[HMQ.out,<-Zlv HSLA.out HSLB.out];exact HBr.out)
     go_wp2
     go_end0
     exact⟨rfl,HF,HGr.out⟩
theorem ZrZ(n:Nat):(madeCells (stC ah0).toArray (n*83)).toList=stCs (List.replicate n ah0):=by
 refine Zjl (by simp[madeCells];omega) (fun t ht=>?_)
 rw[List.length_replicate]at ht
 have h1:(madeCells (stC ah0).toArray (n*83)).toList[t]?=some ((stC ah0).toArray[t % (stC ah0).toArray.size]!):=by
  unfold madeCells
  rw[Array.toList_map,List.getElem?_map,Array.toList_range,List.getElem?_range (by omega)]
  rfl
 rw[h1,List.size_toArray,Zbn]
 have h2:=Zch ah0 (t % 83) (by omega)
 have h3:(List.replicate n ah0).getD (t / 83) ah0=ah0:=by
  rw[List.getD_eq_getElem?_getD,List.getElem?_replicate];split <;> rfl
 rw[h3]
 congr 1
 rw[getElem!_def]
 have:(stC ah0).toArray[t % 83]?=some (ZbR ah0 (t % 83)):=by rw[List.getElem?_toArray];exact h2
 rw[this]
theorem Zuw(a b:Ah):ZeK (stC a) 0 (stC b)=stC b:=by
 refine Zgi (by rw[ZmD,Zbn]) (fun i hi=>?_)
 rw[ZmC _ _ _ _ (by rw[Zbn,Zbn];omega),if_pos (by rw[Zbn];omega),Nat.sub_zero,Zch b i hi]
theorem ZjE:AhOk ah0:=⟨by decide,(fun k hk=>nomatch hk),rfl⟩
theorem ZnA:AhOk ⟨true,false,[],List.replicate 16 0⟩:=⟨by decide,(fun k hk=>nomatch hk),rfl⟩
theorem ZsY(n:Nat):∀a∈Ze0 n,AhOk a:=by
 intro a ha
 rcases List.mem_cons.1 ha with rfl|ha
 ·exact ZnA
 ·rw[(List.mem_replicate.1 ha).2];exact ZjE
theorem Ze4{k:Nat}{st sl st' sl':List Nat}(hk:k≠0)(h1:st.length<=64)(h2:∀k∈st,k≠0)(h3:sl.length=16)(h:ZQ k st sl=some (st',sl')):st'.length<=64/\(∀k∈st',k≠0)/\sl'.length=16:=by
 unfold ZQ at h
 split at h
 ·cases h
 ·injection h with h;injection h with e1 e2;subst e1;subst e2
  exact ⟨by rw [List.length_cons]; omega, fun x hx => by
    rcases List.mem_cons.1 hx with rfl|hx
    · exact hk
    · exact h2 x hx,h3⟩
theorem Zu2{c:CodeQ}{i:Nat}{x:Nat×Nat}{st sl st' sl':List Nat}(hr:Z0 c i x=true)(h1:st.length<=64)(h2:∀k∈st,k≠0)(h3:sl.length=16)(h:Zw c x st sl=some (st',sl')):st'.length<=64/\(∀k∈st',k≠0)/\sl'.length=16:=by
 obtain⟨op,arg⟩:=x
 have tl : ∀ {k : Nat} {r : List Nat}, st = k :: r -> r.length <= 64 /\ (∀ k ∈ r, k ≠ 0) := fun {k r} e => by
   subst e;exact⟨by rw[List.length_cons]at h1;omega,fun y hy=>h2 y (List.mem_cons_of_mem _ hy)⟩
 unfold Zw at h
 simp only at h
 split at h
 ·exact Ze4 (by decide) h1 h2 h3 h
 ·have harg:arg<c.picks.length:=by simpa [Z0] using hr
  refine Ze4 ?_ h1 h2 h3 h
  rw[List.getElem?_eq_getElem harg]
  show Zc5 _≠0
  unfold Zc5;split <;> decide
 ·split at h
  ·rename_i k r
   obtain⟨t1,t2⟩:=tl rfl
   split at h
   ·exact Ze4 (by decide) t1 t2 h3 h
   ·cases h
  ·cases h
 ·split at h
  ·rename_i y k r
   split at h
   ·rename_i hp
    have hp:=hp
    rw[Bool.and_eq_true]at hp
    have hk:k≠0:=h2 k (by simp)
    exact Ze4 (by omega) (by simp only[List.length_cons]at h1;omega) (fun z hz=>h2 z (by simp[hz])) h3 h
   ·cases h
  ·cases h
 ·split at h
  ·rename_i k r
   obtain⟨t1,t2⟩:=tl rfl
   split at h
   ·exact Ze4 (h2 k (by simp)) t1 t2 h3 h
   ·cases h
  ·cases h
 ·injection h with h;injection h with e1 e2;subst e1;subst e2;exact⟨h1,h2,h3⟩
 ·split at h
  ·rename_i k r
   obtain⟨t1,t2⟩:=tl rfl
   injection h with h;injection h with e1 e2;subst e1;subst e2;exact⟨t1,t2,h3⟩
  ·cases h
 ·split at h
  ·rename_i k r
   obtain⟨t1,t2⟩:=tl rfl
   injection h with h;injection h with e1 e2;subst e1;subst e2;exact⟨t1,t2,by rw[List.length_set];exact h3⟩
  ·cases h
 ·split at h
  ·cases h
  ·rename_i hk
   exact Ze4 hk h1 h2 h3 h
 ·split at h
  ·rename_i k r
   obtain⟨t1,t2⟩:=tl rfl
   split at h
   ·exact Ze4 (by decide) t1 t2 h3 h
   ·cases h
  ·cases h
theorem Zsa{a:Ah}{st sl:List Nat}(ha:AhOk a)(h1:st.length<=64)(h2:∀k∈st,k≠0)(h3:sl.length=16):AhOk (Zbf a st sl):=by
 unfold Zbf
 split
 ·exact⟨ha.ln,ha.kd,Zff ha.sl h3⟩
 ·exact⟨h1,h2,h3⟩
theorem Zuy {l : List Ah} {a : Ah} (hl : ∀ x ∈ l, AhOk x) (ha : AhOk a) (i : Nat) : ∀ x ∈ l.set i a, AhOk x := fun x hx => by
  rcases List.mem_or_eq_of_mem_set hx with h|h
  · exact hl x h
  · rw[h];exact ha
theorem Zfj{l:List Ah}(hl:∀x∈l,AhOk x)(i:Nat):AhOk (l.getD i ah0):=by
 rw[List.getD_eq_getElem?_getD]
 cases h:l[i]? with
 | none=>exact ZjE
 | some a=>exact hl a (List.mem_of_getElem? h)
theorem Zp9(a:Ah):Zeh a=(!a.clash && (decide (a.stack.length=1) && ZbK (a.stack.reverse.getD 0 0))):=by
 unfold Zeh
 congr 1
 cases hs:a.stack with
 | nil=>rfl
 | cons k r=>
  cases r with
  | nil=>
   unfold ZbK
   by_cases h1:k=1
   ·subst h1;rfl
   ·by_cases h2:k=2
    ·subst h2;rfl
    ·simp[h1,h2]
  | cons k2 r2=>simp
theorem Zqa(w:World)(g i:Nat)(l:List Ah)(hi:i<l.length)(hg:BAt w g (stCs l) 312) :
  Calls Tryz.prog 148 #[.pointer (some ⟨g,i*83,none⟩)] w fun e w'=>e=.returned (.bool (Zeh (l.getD i ah0)))/\w'=w:=by
 have hc:∀j,j<83->w.cell? ⟨g,i*83+j,none⟩=some (ZbR (l.getD i ah0) j):=fun j hj=>by rw[hg.cell,Zgj l i j hi hj]
 generalize l.getD i ah0=a at *
 have c1:w.cell? ⟨g,i*83+1,none⟩=some (.bool a.clash):=hc 1 (by decide)
 have c2:w.cell? ⟨g,i*83+2,none⟩=some (.int .i64 a.stack.length):=hc 2 (by decide)
 have c3:w.cell? ⟨g,i*83+3,none⟩=some (.int .u8 ((a.stack.reverse.getD 0 0:Nat):Int)):=hc 3 (by decide)
 have HA:=hid (Zp9 a)
 generalize i*83=o at *
 generalize a.stack.reverse.getD 0 0=k at *
 generalize a.stack.length=n at *
 rw[HA.out]
 clear hc hg hi
 cases hcl:a.clash with
 | true=>
  rw[hcl]at c1
  go_enter Tryz.func148,Tryz.ntmps148
  go_wp2
  go_ret
  exact⟨rfl,rfl⟩
 | false=>
  rw[hcl]at c1
  by_cases hn:n=1
  ·subst hn
   go_enter Tryz.func148,Tryz.ntmps148
   go_wp2_with (go_at_call 202;refine(ZeD k _).mono ?_;rintro e wq ⟨rfl,rfl⟩)
   go_ret
   exact⟨Zck (by simp),rfl⟩
  ·have h1:((n:Int) == 1)=false:=by rw[beq_eq_false_iff_ne];omega
   go_enter Tryz.func148,Tryz.ntmps148
   go_wp2
   go_ret
   exact⟨Zck (by simp[hn]),rfl⟩
theorem Tryz.infoState:(Tryz.prog.info? 312).map (fun i=>(i.zero,i.size,i.bytes))=some (some (.agg (stC ah0).toArray),83,96):=by kernel_rfl
end Go.Proofs.YtkodhpilkaihjaaGreatDoor

/- Parts. -/
import Derived.Test.YtkodhpilkaihjaaGreatDoorF30
import Derived.Test.YtkodhpilkaihjaaGreatDoorF11
import Derived.Sort.OwnSorted
set_option maxRecDepth 100000
set_option maxHeartbeats 8000000
namespace Go.Proofs.YtkodhpilkaihjaaGreatDoor
open Go.RowKit LS
theorem Zg6(x y:List UInt8):decide (x<=y)=!Op.bytesLess y x:=by
 rw[bytesLess_eq,Bool.eq_iff_iff,decide_eq_true_iff,Bool.not_eq_true',decide_eq_false_iff_not]
 exact Iff.rfl
theorem ZuO (ss : List (List UInt8)) : (ss.mergeSort fun x y => decide (x <= y)).Pairwise fun a b => Op.bytesLess b a = false := by
  have h := List.pairwise_mergeSort (le := fun (x y : List UInt8) => decide (x <= y)) (by
    intro a b c h1 h2
    rw[Zg6,Bool.not_eq_true']at *
    cases h:Op.bytesLess c a with
    | false=>rfl
    | true=>
      cases h3:Op.bytesLess b c with
      | true=>rw[Zdy _ _ _ h3 h]at h1;cases h1
      | false=>
        have e:=Zdz _ _ h3 h2
        rw[e,h]at h1;cases h1) (by
    intro a b
    rw[Zg6,Zg6]
    cases h:Op.bytesLess b a with
    | false=>rfl
    | true=>
      cases h3:Op.bytesLess a b with
      | false=>rfl
      | true=>have:=Zdy _ _ _ h h3;rw[Zda]at this;cases this) ss
  refine h.imp (fun {a b} hab=>?_)
  rw[Zg6,Bool.not_eq_true']at hab
  exact hab
theorem Zkq(bs:List ByteArray):ZZ bs=(bs.map bl).map encStr:=by
 unfold ZZ
 rw[List.map_map]
 refine List.map_congr_left (fun b _=>?_)
 cases b with
 | mk d=>simp[encStr,bl]
theorem ZuQ {l : List (List UInt8)} (hs : l.Pairwise fun a b => Op.bytesLess b a = false) (h : ∀ k, k + 1 < l.length -> l[k]? ≠ l[k + 1]?) : l.Nodup := by
  induction l with
  | nil=>exact List.nodup_nil
  | cons a l ih=>
    rw[List.pairwise_cons]at hs
    rw[List.nodup_cons]
    refine⟨fun ha=>?_,ih hs.2 (fun k hk=>by have:=h (k+1) (by simpa using hk);simpa using this)⟩
    cases l with
    | nil=>cases ha
    | cons c r=>
      have hac:=h 0 (by simp)
      simp only[Zget,Nat.zero_add]at hac
      rcases List.mem_cons.1 ha with rfl|ha
      · exact hac rfl
      · have h1:=(List.pairwise_cons.1 hs.2).1 a ha
        have h2:=hs.1 c (by simp)
        exact hac (by rw[Zdz _ _ h1 h2])
theorem ZpI{t:List UInt8}{ms:List (List UInt8)}(ht:t≠[])(hp:ms.Perm (split 44 t)):Zcx t=if ms.all ZC=true/\ms.Nodup then some (split 44 t)else none:=by
 unfold Zcx
 rw[if_neg ht]
 have h1:(split 44 t).all ZC=true ↔ ms.all ZC=true:=by
  rw[List.all_eq_true,List.all_eq_true];exact⟨fun h x hx=>h x (hp.mem_iff.1 hx),fun h x hx=>h x (hp.mem_iff.2 hx)⟩
 have h2:(split 44 t).Nodup ↔ ms.Nodup:=hp.nodup_iff.symm
 by_cases e:ms.all ZC=true/\ms.Nodup
 ·rw[if_pos e,if_pos ⟨h1.2 e.1,h2.2 e.2⟩]
 ·rw[if_neg e,if_neg (fun h=>e ⟨h1.1 h.1,h2.1 h.2⟩)]
def GrpR(w:World)(r:Option (List (List UInt8)))(v:Value)(ok:Bool):Prop:=match r with
 | some a=>ok=true/\Zes w a v
 | none=>ok=false/\RowZ v
theorem GrpR.mkNone{w:World}{r:Option (List (List UInt8))}{v:Value}{ok:Bool}(hr:r=none)(h:ok=false/\RowZ v):GrpR w r v ok:=by subst hr;exact h
theorem GrpR.mkSome{w:World}{r:Option (List (List UInt8))}{v:Value}{ok:Bool}{a:List (List UInt8)}(hr:r=some a)(h:ok=true/\Zes w a v):GrpR w r v ok:=by subst hr;exact h
theorem ZtI(s:ByteArray)(A:Nat->Addr)(m:Int)(w:World)(hs:s.size<=70000)(hv:Vars w A m) :
  Calls Tryz.prog 198 #[.string s] w fun e w'=>∃v ok,e=.returned (.tuple #[v,.bool ok])/\Hid (GrpR w' (Zcx (bl s)) v ok)/\Below w.heap.size w w':=by
 have HM:=hid hv.max
 clear hv
 by_cases h0:s.size=0
 ·have he:s.toList.isEmpty=true:=Zkm (by omega)
  have HQ:Hid (Zcx (bl s)=some []):=hid (by unfold Zcx;rw[if_pos (Zfq he)])
  go_enter Tryz.func198,Tryz.ntmps198
  go_wp2
  go_ret2
  exact⟨_,_,rfl,hid (GrpR.mkSome HQ.out ⟨rfl,⟨none,0,0,[]⟩,rfl,rfl,[],World.ownsRow_nil _ _ _ _,List.Pairwise.nil,fun y=>Iff.rfl,by simp⟩),Below.refl _ _⟩
 ·have he:s.toList.isEmpty=false:=ZlK (by omega)
  have hne:=Zf4 he
  have HSP:Hid (Calls Tryz.prog 42 #[.string s,.string ⟨#[44]⟩] w _):=hid (Tryz.strings_Split s ⟨#[44]⟩ m w (by omega) HM.out (Nat.le_refl 1))
  have hd:(Lib.splitB ⟨#[44]⟩ 0 (Lib.countB s ⟨#[44]⟩) s).map bl=split 44 (bl s):=(Lib.splitB_data ⟨#[44]⟩ 0 (Lib.countB s ⟨#[44]⟩) s).trans (ZmF 44 _ (bl s) (Nat.le_refl _))
  have hl:(Lib.splitB ⟨#[44]⟩ 0 (Lib.countB s ⟨#[44]⟩) s).length=Lib.countB s ⟨#[44]⟩+1:=Lib.splitB_all ⟨#[44]⟩ (Nat.le_refl 1) 0 _ s rfl
  go_enter Tryz.func198,Tryz.ntmps198
  go_wp2_with fail
  refine HSP.mono ?_
  rintro e w1 ⟨rfl,hw1⟩
  obtain⟨bs,hbs⟩:∃bs,bs=Lib.splitB ⟨#[44]⟩ 0 (Lib.countB s ⟨#[44]⟩) s:=⟨_,rfl⟩
  rw[<-hbs]at hd hl hw1
  have hlen:(split 44 (bl s)).length<=s.size+1:=by have:=ZfA 44 (bl s);rwa [Ze]at this
  have hbl2:bs.length=(split 44 (bl s)).length:=by rw[<-hd,List.length_map]
  obtain⟨N,hN⟩:∃N,N=Lib.countB s ⟨#[44]⟩+1:=⟨_,rfl⟩
  rw[<-hN]at hl ⊢
  have hN7:N<=70001:=by omega
  have hN1:1<=N:=by omega
  obtain⟨ss,hss⟩:∃ss,ss=bs.map bl:=⟨_,rfl⟩
  have hsl:ss.length=N:=by rw[hss,List.length_map,hl]
  have hb1:Below w.heap.size w w1:=by rw[hw1];exact Zbal
  have hh:w1.heap[w.heap.size]?=some (.cells (bs.map Value.string).toArray 9 (0,0)):=by rw[hw1];exact Go.Deep.blk_alloc_new _ _
  have hgl:w.heap.size<w1.heap.size:=(Array.getElem?_eq_some_iff.1 hh).1
  have henc:bs.map Value.string=ss.map encStr:=by rw[hss];exact Zkq bs
  have hH:Sort.Holds encStr w1 w.heap.size 0 ss.toArray:=holds_of_block hh (by rw[henc,hsl];exact List.take_of_length_le (by rw[List.length_map,hsl];exact Nat.le_refl _))
  have hS:=Tryz.slices_Sort_string w.heap.size 0 N ss w1 hH hgl (by omega)
  rw[hsl]at hS
  have HS:=hid hS
  have HB1:=hid hb1
  have HH:=hid hh
  have HSS:Hid (ss=split 44 (bl s)):=hid (by rw[hss];exact hd)
  have HBSL:Hid (bs.length=N):=hid hl
  have HNE:=hid hne
  clear hS hH hh hb1 hw1 hbs hd hl hlen hbl2 hss henc HSP hne he HM hN
  go_wp2_with (go_at_call 217;refine HS.mono ?_;rintro e w2 ⟨rfl,nn,os,hw2⟩;have HW2:=hid hw2;clear hw2)
  have hw2:=HW2.out
  clear HW2
  obtain⟨ms,hms⟩:∃ms,ms=ss.mergeSort (fun x y=>decide (x<=y)):=⟨_,rfl⟩
  have HPM:Hid (ms.Perm ss):=hid (by rw[hms];exact List.mergeSort_perm _ _)
  have HST:Hid (ms.Pairwise fun a b=>Op.bytesLess b a=false):=hid (by rw[hms];exact ZuO ss)
  have hml:ms.length=N:=by rw[HPM.length_eq,hsl]
  have hown2:w2.ownsRow w.heap.size 9 1 (.slice (some ⟨w.heap.size,0,none⟩) N N) N (ms.map encStr):=by
   have h6:=ownsRow_sorted (n:=nn) (os:=os) (cap:=N) (HPM.length_eq) (Nat.le_refl _) HH.out (by rw[hsl];exact Nat.le_refl _) (by unfold maxLen;omega) (by simp[HBSL.out])
   rw[hsl]at h6
   rw[hw2,<-hms]
   exact h6
  have HB2:Hid (Below w.heap.size w w2):=hid (by rw[hw2];exact HB1.grown (grownBy_sorted _) HB1.size (fun j hj=>by cases hj;exact Nat.le_refl _))
  have HGQ:Hid (Zcx (bl s)=if ms.all ZC=true/\ms.Nodup then some (split 44 (bl s))else none):=hid (ZpI HNE.out (by rw[<-HSS.out];exact HPM.out))
  have HSZ : Hid (∀ k (h : k < ms.length), ms[k].length <= 70000) := hid (fun k h => by
    have h1:=HPM.mem_iff.1 (List.getElem_mem h)
    rw[HSS.out]at h1
    have:=Zje 44 (bl s) _ h1
    rw[Ze]at this
    omega)
  have HO2:=hid hown2
  have HSL:=hid hsl
  clear hown2 hw2 hms HS HH HB1 HBSL hsl
  go_wp2
  go_loop [5,16] (fun lv i=>∃(k:Nat) (last:ByteArray),k<=N/\i=.int .i64 k/\lv=.string last/\Hid (bl last=if k=0 then [] else ms.getD (k - 1) [])/\Hid ((ms.take k).all ZC=true)/\Hid (∀j,j+1<k->ms[j]?≠ms[j+1]?)) (fun _ i=>N - (intOf i).toNat)
  case atStart=>exact⟨0,⟨#[]⟩,Nat.zero_le _,rfl,rfl,hid rfl,hid rfl,hid (fun j hj=>by omega)⟩
  case round=>
   obtain⟨k,last,hk,rfl,rfl,HL,HA,HD⟩:=hrel
   by_cases hlt:k<N
   ·have hkm:k<ms.length:=by omega
    have hlz:(k:Int)<N:=by omega
    obtain⟨x,hx⟩:∃x:ByteArray,x=⟨ms[k].toArray⟩:=⟨_,rfl⟩
    have HX:Hid (bl x=ms[k]):=hid (by rw[hx,Zbu])
    have d0:w2.cell? ⟨w.heap.size,k,none⟩=some (.string x):=Zj HO2.out k _ (by rw[hx,List.getElem?_map,List.getElem?_eq_getElem hkm];rfl)
    have hxs:x.size<=70000:=by rw[ZO HX.out];exact HSZ.out k hkm
    clear hx
    cases hn:ZC (bl x)with
    | false=>
     have HG:Hid (Zcx (bl s)=none):=hid (by
      rw[HGQ.out,if_neg]
      rintro⟨h,_⟩
      have:=List.all_eq_true.1 h ms[k] (List.getElem_mem hkm)
      rw[<-HX.out,hn]at this;cases this)
     go_wp2_with (go_at_call 120;refine(ZhH x _ hxs).mono ?_;rintro e w' ⟨rfl,rfl⟩)
     go_ret2
     exact⟨_,_,rfl,hid (GrpR.mkNone HG.out ⟨rfl,rfl⟩),HB2.out⟩
    | true=>
     by_cases he:x=last
     ·subst he
      have hbe:(x.toList == x.toList)=true:=by simp
      have hk0:k≠0:=by
       intro e;subst e
       have h1:=HL.out
       rw[if_pos rfl]at h1
       rw[h1]at hn
       exact absurd hn (by decide)
      have HG:Hid (Zcx (bl s)=none):=hid (by
       rw[HGQ.out,if_neg]
       rintro⟨_,h⟩
       have h1:=HL.out
       rw[if_neg hk0,HX.out,List.getD_eq_getElem?_getD,List.getElem?_eq_getElem (by omega),Option.getD_some]at h1
       have:=(List.pairwise_iff_getElem.1 h) (k - 1) k (by omega) hkm (by omega)
       exact this h1.symm)
      clear hk0
      go_wp2_with (go_at_call 120;refine(ZhH x _ hxs).mono ?_;rintro e w' ⟨rfl,rfl⟩)
      go_ret2
      exact⟨_,_,rfl,hid (GrpR.mkNone HG.out ⟨rfl,rfl⟩),HB2.out⟩
     ·have hbe:(x.toList == last.toList)=false:=by
       rw[beq_eq_false_iff_ne,Zba,Zba];intro e;exact he (Zc9 e)
      have HA2:Hid ((ms.take (k+1)).all ZC=true):=hid (by
       rw[List.take_succ_eq_append_getElem hkm,List.all_append,HA.out,<-HX.out];simp[hn])
      have HD2 : Hid (∀ j, j + 1 < k + 1 -> ms[j]? ≠ ms[j + 1]?) := hid (fun j hj => by
        by_cases e:j+1=k
        · subst e
          rw[List.getElem?_eq_getElem hkm,List.getElem?_eq_getElem (by omega),<-HX.out]
          intro e2
          injection e2 with e2
          have h1:=HL.out
          rw[if_neg (by omega),List.getD_eq_getElem?_getD,Nat.add_sub_cancel,List.getElem?_eq_getElem (by omega),Option.getD_some]at h1
          exact he (Zc9 (by rw[h1,e2]))
        · exact HD.out j (by omega))
      have HL2:Hid (bl x=if k+1=0 then [] else ms.getD (k+1 - 1) []):=hid (by
       rw[if_neg (by omega),Nat.add_sub_cancel,List.getD_eq_getElem?_getD,List.getElem?_eq_getElem hkm,Option.getD_some,HX.out])
      clear he
      go_wp2_with (go_at_call 120;refine(ZhH x _ hxs).mono ?_;rintro e w' ⟨rfl,rfl⟩)
      go_round
      case rel=>exact⟨k+1,x,by omega,by go_num,rfl,HL2,HA2,HD2⟩
      case measure=>simp[intOf];omega
   ·obtain rfl:k=N:=by omega
    have HG:Hid (Zcx (bl s)=some (split 44 (bl s))):=hid (by
     rw[HGQ.out,if_pos]
     refine⟨by have:=HA.out;rwa [List.take_of_length_le (by omega)]at this,ZuQ HST.out (fun j hj=>HD.out j (by omega))⟩)
    have hbm : (ms.map (fun l => (⟨l.toArray⟩ : ByteArray))).map bl = ms := by
      rw[List.map_map]
      conv=>rhs;rw[<-List.map_id ms]
      exact List.map_congr_left (fun l _=>by simp[bl])
    have HGV : Hid (Zes w2 (split 44 (bl s)) (.slice (some ⟨w.heap.size, 0, none⟩) k k)) := hid ⟨⟨some ⟨w.heap.size, 0, none⟩, k, k, split 44 (bl s)⟩, rfl, rfl, ms.map (fun l => ⟨l.toArray⟩), by
      have h6:=ZeY HO2.out
      rw[Zkq,hbm,List.length_map,hml]
      exact h6,by rw[hbm];exact HST.out,fun y=>by rw[hbm,HPM.mem_iff,HSS.out],by rw[List.length_map];omega⟩
    clear hbm
    go_wp2
    go_ret2
    exact⟨_,Or.inr ⟨rfl,hid (GrpR.mkSome HG.out ⟨rfl,HGV.out⟩),HB2.out⟩⟩
theorem ZtX(s:ByteArray)(b:Nat)(A:Nat->Addr)(m:Int)(w0:World)(hG:Ground w0 A m b)(hs:s.size<=maxLen) :
  OneC 141 Zes RowZ w0 b s (A 8) (Zbx (bl s)):=by
 intro p w h0 hr hp
 have HGD:=hid hG
 have HTX:Hid (Calls Tryz.prog 196 #[.pointer (some ⟨b,0,none⟩)] w _):=hid (Zmj s p b _ w hr (hG.code h0) hG.ng hp hs)
 have H0:=hid h0
 have c1:w.cell? ⟨b,1,none⟩=some (.int .i64 p):=hr.cell 1
 clear hr h0 hG hs
 go_enter Tryz.func141,Tryz.ntmps141
 go_wp2_with fail
 clear c1
 refine HTX.mono ?_
 rintro e w1 ⟨v,err,rfl,HC,hg1⟩
 have HG1:=hid hg1
 have H01:Hid (Below w0.heap.size w0 w1):=hid (ZbQ H0.out hg1 HGD.b)
 clear hg1 HTX
 cases ht:Zb8 (bl s) p with
 | error x=>
  obtain⟨fa,rfl⟩:=HC.errShape ht
  have HF:Hid (RdC Zes RowZ w1 b s (A 8) (Zbx (bl s) p) (.slice none 0 0) (.iface 115 (.pointer (some ⟨fa,0,none⟩)))):=hid (HC.errMap ht (by unfold Zbx;rw[ht]) rfl)
  obtain⟨_,_,rfl,_⟩:=HC.err ht
  clear HC ht
  go_wp2
  go_ret2
  exact⟨_,_,rfl,HF,HG1.out⟩
 | ok x=>
  obtain⟨t,q⟩:=x
  obtain⟨rfl,⟨tx,rfl,htx⟩,hq⟩:=HC.ok ht
  have hlt:=(ZhB ht).1
  simp only at hq hlt htx
  have hts:tx.size<=70000:=by rw[ZO htx];omega
  have HR1:=hid hq
  have HXP:Hid (Zbx (bl s) p=match Zcx (bl tx)with
   | none=>.error (9,p)
   | some y=>.ok (y,q)):=hid (by unfold Zbx;rw[ht,htx];simp only;cases Zcx t <;> rfl)
  clear HC ht hq htx
  go_wp2_with fail
  refine(ZtI tx A m w1 hts (HGD.v.below H01.out)).mono ?_
  rintro e w2 ⟨v,ok,rfl,HSR,hb2⟩
  have HG2:Hid (w.grownBy w2 (some b)):=hid (Zef HG1.out hb2)
  have H02:Hid (Below w0.heap.size w0 w2):=hid (ZbQ H0.out HG2.out HGD.b)
  have HR2:=hid (HR1.below hb2)
  clear hb2 HG1 H01 HR1
  cases hp1:Zcx (bl tx)with
  | none=>
   rw[hp1]at HSR
   obtain⟨rfl,rfl⟩:=HSR.out
   have HY:Hid (Zbx (bl s) p=.error (9,p)):=hid (by rw[HXP.out,hp1])
   clear HSR hp1 HXP
   go_wp2_with fail
   refine(ZeO _ _ _ (HGD.code H02.out)).mono ?_
   rintro e w4 ⟨v,rfl,hv,hb4⟩
   have HF:Hid (RdC Zes RowZ w4 b s (A 8) (Zbx (bl s) p) (.slice none 0 0) v):=hid (RdC.mkErr HY.out ⟨rfl,hv.out,rfl,_,HR2.below hb4⟩)
   have HG4:Hid (w.grownBy w4 (some b)):=hid (Zef HG2.out hb4)
   obtain⟨fa,rfl⟩:=ZB.shape hv.out
   clear hv hb4
   go_wp2
   go_ret2
   exact⟨_,_,rfl,HF,HG4.out⟩
  | some y=>
   rw[hp1]at HSR
   obtain⟨rfl,hpv⟩:=HSR.out
   have HPV:=hid hpv
   obtain⟨z,rfl,hz2,hz3⟩:=hpv
   have HY:Hid (Zbx (bl s) p=.ok (y,q)):=hid (by rw[HXP.out,hp1])
   have HF:Hid (RdC Zes RowZ w2 b s (A 8) (Zbx (bl s) p) (.slice z.la z.ln z.lc) .nilIface):=hid (RdC.mkOk HY.out ⟨rfl,HPV.out,HR2.out⟩)
   clear HSR hp1 HXP hz2 hz3 HPV
   go_wp2
   go_ret2
   exact⟨_,_,rfl,HF,HG2.out⟩
theorem Zsu{s:ByteArray}{b:Nat}{A:Nat->Addr}{m:Int}{w0:World}(hG:Ground w0 A m b)(hs:s.size<=maxLen):OneC 137 KV NZ w0 b s (A 8) (Zbw (bl s)):=
 fun p w h0 hr hp=>ZtH s p b _ w hr (hG.code h0) hG.ng hp hs
theorem Zsv{s:ByteArray}{b:Nat}{A:Nat->Addr}{m:Int}{w0:World}(hG:Ground w0 A m b)(hs:s.size<=maxLen):OneC 143 IV IZ w0 b s (A 8) (Zbi (bl s)):=
 fun p w h0 hr hp=>ZtY s p b _ w hr (hG.code h0) hG.ng hp hs
theorem Zh9{l:List UInt8}{p:Nat}{x:Int×Nat}(h:Zbw l p=.ok x):x.2<=l.length:=by
 unfold Zbw at h
 cases hn:Z8 l p 4 with
 | error e=>rw[hn]at h;cases h
 | ok y=>
  rw[hn]at h
  simp only at h
  split at h
  ·cases h
  ·injection h with h;subst h;have:=Zd3 hn;omega
theorem Zg0{l:List UInt8}{p:Nat}{x:(Nat×Nat)×Nat}(h:Zbi l p=.ok x):x.2<=l.length/\x.1.1<=13/\x.1.2<65536:=by
 unfold Zbi at h
 cases hn:Z8 l p 1 with
 | error e=>rw[hn]at h;cases h
 | ok y=>
  rw[hn]at h
  simp only at h
  split at h
  ·cases h
  ·rename_i h13
   cases hm:Z8 l y.2 2 with
   | error e=>rw[hm]at h;cases h
   | ok z=>
    rw[hm]at h
    injection h with h;subst h
    have h1:=Zd3 hm
    have h2:z.1<256 ^ 2:=h1.2.2.2
    exact⟨by show z.2<=_;omega,by show y.1<=13;omega,h2⟩
theorem ZiW{l:List UInt8}{p:Nat}{x:(Nd×Nat)×Nat}(h:Zbz l p=.ok x):x.2<=l.length:=by
 unfold Zbz at h
 cases hn:Zb8 l p with
 | error e=>rw[hn]at h;cases h
 | ok y=>
  rw[hn]at h
  simp only at h
  cases hm:ZbA y.1 with
  | none=>rw[hm]at h;cases h
  | some z=>rw[hm]at h;injection h with h;subst h;exact(ZhB hn).2
theorem Zir{l:List UInt8}{p:Nat}{x:List (List UInt8)×Nat}(h:Zbx l p=.ok x):x.2<=l.length:=by
 unfold Zbx at h
 cases hn:Zb8 l p with
 | error e=>rw[hn]at h;cases h
 | ok y=>
  rw[hn]at h
  simp only at h
  cases hm:Zcx y.1 with
  | none=>rw[hm]at h;cases h
  | some z=>rw[hm]at h;injection h with h;subst h;exact(ZhB hn).2
end Go.Proofs.YtkodhpilkaihjaaGreatDoor

/- Parts. -/
import Derived.Test.YtpbemaaghbbocaaGreatDoorE35
import Derived.Test.YtpbemaaghbbocaaGreatDoorE30
import Derived.Test.YtpbemaaghbbocaaGreatDoorE11
import Derived.Test.YtpbemaaghbbocaaGreatDoorE17
import Derived.Test.YtpbemaaghbbocaaGreatDoorEX
import Derived.Test.YtpbemaaghbbocaaGreatDoorE15
import Derived.WalkSmall
namespace Go.Proofs.YtpbemaaghbbocaaGreatDoor
open Go.RowKit LS
set_option linter.unusedSimpArgs false in
set_option maxRecDepth 100000 in
set_option maxHeartbeats 4000000 in
theorem ZrT{b:Nat}{pv:Value}{n:Nat}{xs:List Value}{ss:List SZ}{tm:Int}(ht0 : -1000000≤tm)(ht1:tm≤1000000){x y:Nat}{nd:Nd}{l r:Tr}(hwf:wfT (.node x y nd l r))(hwt:wT (.node x y nd l r)≤100000)(hwin:winT (.node x y nd l r))(hD:Dst (Zp ss))(hN:ss.length≤1000)(hkd:Zc (.node x y nd l r)≠0)(ihl:isNil l=false→Zc l≠0→SayC b pv n xs ss tm l)(ihr:isNil r=false→Zc r≠0→SayC b pv n xs ss tm r)(hk:nd.kind=6):SayC b pv n xs ss tm (.node x y nd l r):=by
 intro i w sv hrow hrep hsto
 have HTM:Hid (-1000000≤tm∧tm≤1000000):=⟨ht0,ht1⟩
 clear ht0 ht1
 obtain⟨sa,sc,rfl⟩:=Zj hsto.own
 obtain⟨g,cp,p,a,c,rfl,hgl,hi,hp,ha,hc,hrl,hrr,c0,c1,c2,c3,c4,c5,c6,c7⟩:=Rep.at hrow.own hrep
 have hcell:=hrow.cell
 have hcb:b<w.heap.size:=World.block_lt_of_cell? _ _ hcell
 obtain⟨W,hW⟩:∃W,W=(w.alloc (.cells #[.bool false,.int .i64 0,.slice none 0 0] 76)).alloc (.cells #[.int .i64 p.k,.int .i64 p.n,.int .i64 p.op,.string p.nm,.slice p.ca p.cn p.cc,.slice p.ba p.bn p.bc,.int .i64 p.a,.int .i64 p.b] 131):=⟨_,rfl⟩
 have hbW:Below w.heap.size w W:=by rw[hW];exact Zbal.alloc (by simp) _
 have hzW:W.heap.size=w.heap.size+1+1:=by rw[hW,Go.Deep.nblk_alloc,Go.Deep.nblk_alloc]
 have HW:Hid (W=(w.alloc (.cells #[.bool false,.int .i64 0,.slice none 0 0] 76)).alloc (.cells #[.int .i64 p.k,.int .i64 p.n,.int .i64 p.op,.string p.nm,.slice p.ca p.cn p.cc,.slice p.ba p.bn p.bc,.int .i64 p.a,.int .i64 p.b] 131)):=hW
 have HP:Hid (PAt W (w.heap.size+1) p):=hid (by
  have:=Go.Deep.blk_alloc_new (w.alloc (.cells #[.bool false,.int .i64 0,.slice none 0 0] 76)) (.cells #[.int .i64 p.k,.int .i64 p.n,.int .i64 p.op,.string p.nm,.slice p.ca p.cn p.cc,.slice p.ba p.bn p.bc,.int .i64 p.a,.int .i64 p.b] 131)
  rw[World.size_alloc]at this
  rw[hW];exact this)
 have HV:Hid (BAt W w.heap.size [.bool false,.int .i64 0,.slice none 0 0] 76):=hid (by
  have:BAt (w.alloc (.cells #[.bool false,.int .i64 0,.slice none 0 0] 76)) w.heap.size [.bool false,.int .i64 0,.slice none 0 0] 76:=Go.Deep.blk_alloc_new w _
  rw[hW];exact this.alloc _)
 have HRW:Hid (RowAt W b (.slice (some ⟨g,0,none⟩) n cp) n xs):=hrow.below hbW
 have HL:Hid (Rep W xs l a):=Rep.below hbW l a hrl
 have HR:Hid (Rep W xs r c):=Rep.below hbW r c hrr
 have HC:Hid (Z2 W 0 p nd.conds):=hp.2.2.2.2.1.below hbW
 have HN:Hid (Zcf W 0 p nd.by_):=hp.2.2.2.2.2.below hbW
 have HST:Hid (StoV W (.slice sa ss.length sc) ss):=hsto.below hbW
 have HBW:Hid (Below w.heap.size w W):=hbW
 have HWF:Hid (wfT (.node x y nd l r)):=hwf
 have HWI:Hid (winT (.node x y nd l r)):=hwin
 have HDS:Hid (Dst (Zp ss)∧ss.length≤1000):=⟨hD,hN⟩
 have HKD:Hid (Zc (.node x y nd l r)≠0):=hkd
 have HF:Hid (p.k=nd.kind∧p.n=nd.n∧p.op=nd.op∧bl p.nm=nd.name∧p.a=a∧p.b=c):=⟨hp.1,hp.2.1,hp.2.2.1,hp.2.2.2.1,ha,hc⟩
 have HWT:Hid (ownW nd+wT l+wT r≤100000):=hwt
 have HIL:Hid (isNil l=false→Zc l≠0→SayC b (.slice (some ⟨g,0,none⟩) n cp) n xs ss tm l):=ihl
 have HIR:Hid (isNil r=false→Zc r≠0→SayC b (.slice (some ⟨g,0,none⟩) n cp) n xs ss tm r):=ihr
 have HK:Hid (nd.kind=6):=hk
 have HK3:Hid (p.k=6):=hid (by rw[hp.1,hk];rfl)
 clear hp hrow hrep hW hbW hrl hrr hwf hwin hD hN hkd ihl ihr ha hc hwt hk hsto
 obtain⟨q0,q1,q2,q3,q4,q5,q6,q7⟩:=PAt.all HP.out
 have v0:=HV.cell 0
 have v1:=HV.cell 1
 have v2:=HV.cell 2
 have f0:=HV.frozen 0
 have f1:=HV.frozen 1
 have f2:=HV.frozen 2
 simp only[Zget]at v0 v1 v2
 rw[HK3.out]at q0
 go_enter Tryz.func29,Tryz.ntmps29
 go_upto_region 2 with fail
 rw[←HW.out]
 clear c0 c1 c2 c3 c4 c5 c6 c7 hcell HW
 have HSY:Hid (sayT (Zp ss) tm (.node x y nd l r)=(if (ZcJ (sayT (Zp ss) tm l)).isEmpty then sayT (Zp ss) tm r else sayT (Zp ss) tm l)):=hid (by
  have h0:=HK.out
  rw[sayT,if_neg (by omega),if_neg (by omega),if_neg (by omega),if_neg (by omega),if_neg (by omega),if_pos h0])
 have HKL:Hid (Zc l≠0):=hid (by
  have h0:=HKD.out
  have h1:=HK.out
  unfold Zc at h0
  intro hl
  rw[hl]at h0
  simp[h1]at h0)
 have HPL:Hid (SayC b (.slice (some ⟨g,0,none⟩) n cp) n xs ss tm l):=hid (HIL.out (HWF.2.2.2.2.2.2.1 (by have:=HK.out;omega)) HKL.out)
 rw[HF.2.2.2.2.1]at q6
 go_wp2_with fail
 refine(HPL.out a W (.slice sa ss.length sc) HRW.out HL.out HST.out).mono ?_
 rintro e w1 ⟨va,rfl,HVL,hb1⟩
 obtain⟨bb,nn,ea,en,ec,rfl,hen⟩:=HVL.shape
 have HEN:=hid hen
 have HV1:=hid (HV.below hb1)
 have HP1:Hid (PAt w1 (w.heap.size+1) p):=PAt.kept HP.out (hb1.block _ (PAt.lt HP.out))
 have HB1:Hid (Below W.heap.size W w1):=hb1
 clear hb1 hen q0 q1 q2 q3 q4 q5 q6 q7 v0 v1 v2 f0 f1 f2 HPL
 go_upto_region 10 with fail
 refine Z1 fun W2 hW2=>?_
 have HA2:Hid (BAt W2 w1.heap.size [.bool bb,.int .i64 nn,.slice ea en ec] 76):=hid (by rw[hW2];exact Go.Deep.blk_alloc_new w1 _)
 have hb2:Below w1.heap.size w1 W2:=by rw[hW2];exact Zbal
 have HV2:=hid (HV1.below hb2)
 have HP2:Hid (PAt W2 (w.heap.size+1) p):=PAt.kept HP1.out (hb2.block _ (PAt.lt HP1.out))
 have HVL2:=hid (HVL.below hb2)
 have HB2:Hid (Below W.heap.size W W2):=HB1.trans (hb2.mono HB1.size)
 have HBW2:Hid (Below w.heap.size w W2):=HBW.trans (HB2.mono HBW.size)
 clear hW2 hb2 HV1 HP1 HVL HB1
 obtain⟨q0,q1,q2,q3,q4,q5,q6,q7⟩:=PAt.all HP2.out
 rw[HK3.out]at q0
 have a0:=HA2.cell 0
 have a1:=HA2.cell 1
 have a2:=HA2.cell 2
 simp only[Zget]at a0 a1 a2
 have HENL:Hid (en≤1000):=hid (by rw[HEN.out];exact ZiN (ZeT HDS.out tm l))
 have henl:=HENL.out
 by_cases he0:0<en
 ·have HIF:Hid ((ZcJ (sayT (Zp ss) tm l)).isEmpty=false):=hid (by
   rw[List.isEmpty_eq_false_iff]
   intro h
   rw[HEN.out,h]at he0
   exact absurd he0 (Nat.lt_irrefl _))
  rw[HIF.out,if_neg (by decide)]at HSY
  have HB3:Hid (Below W2.heap.size W2 W2):=hid (Below.refl _ _)
  have HV3:=hid (HV2.below HB3.out)
  have v0:=HV3.cell 0
  have v1:=HV3.cell 1
  have v2:=HV3.cell 2
  have f0:=HV3.frozen 0
  have f1:=HV3.frozen 1
  have f2:=HV3.frozen 2
  simp only[Zget]at v0 v1 v2
  have HD:=hid (Zee (V:=sayT (Zp ss) tm (.node x y nd l r)) HV3.out (HBW2.trans (HB3.mono HBW2.size)) (by rw[HSY.out];exact HVL2.out))
  clear q1 q2 q3 q4 q5 q6 q7
  go_wp2
  change bodyPost _ _ _ _ _ (set3 W2 w.heap.size (.bool bb) (.int .i64 nn) (.slice ea en ec))
  have s0:=HD.1.cell 0
  have s1:=HD.1.cell 1
  have s2:=HD.1.cell 2
  simp only[Zget]at s0 s1 s2
  have HEX:=hid HD.2.1
  have HBX:=hid HD.2.2
  clear HD
  generalize set3 W2 w.heap.size (.bool bb) (.int .i64 nn) (.slice ea en ec)=WX at *
  exact bodyPost_ret (v:=.agg #[.bool bb,.int .i64 nn,.slice ea en ec]) (by simp[results,Tryz.results29,go_sem,s0,s1,s2]) rfl ⟨.agg #[.bool bb,.int .i64 nn,.slice ea en ec],rfl,HEX,HBX.out⟩
 ·obtain rfl:en=0:=by omega
  have HIF:Hid ((ZcJ (sayT (Zp ss) tm l)).isEmpty=true):=hid (by rw[List.isEmpty_iff];exact List.eq_nil_of_length_eq_zero HEN.symm)
  rw[HIF.out,if_pos rfl]at HSY
  have HKR:Hid (Zc r≠0):=hid (by
   have h0:=HKD.out
   have h1:=HK.out
   unfold Zc at h0
   intro hr
   rw[hr]at h0
   simp[h1]at h0)
  have HPR:Hid (SayC b (.slice (some ⟨g,0,none⟩) n cp) n xs ss tm r):=hid (HIR.out (HWF.2.2.2.2.2.2.2.1 (Or.inr HK.out)) HKR.out)
  rw[HF.2.2.2.2.2]at q7
  go_wp2_with fail
  refine(HPR.out c W2 (.slice sa ss.length sc) (HRW.below HB2.out) (Rep.below HB2.out r c HR.out) (HST.below HB2.out)).mono ?_
  rintro e w3 ⟨v3,rfl,HE3,hb3⟩
  obtain⟨b3,n3,e3,m3,c3,rfl,h9⟩:=HE3.shape
  clear h9
  have HB3:Hid (Below W2.heap.size W2 w3):=hb3
  clear hb3 q0 q1 q2 q3 q4 q5 q6 q7 a0 a1 a2
  have HV3:=hid (HV2.below HB3.out)
  have v0:=HV3.cell 0
  have v1:=HV3.cell 1
  have v2:=HV3.cell 2
  have f0:=HV3.frozen 0
  have f1:=HV3.frozen 1
  have f2:=HV3.frozen 2
  simp only[Zget]at v0 v1 v2
  have HD:=hid (Zee (V:=sayT (Zp ss) tm (.node x y nd l r)) HV3.out (HBW2.trans (HB3.mono HBW2.size)) (by rw[HSY.out];exact HE3.out))
  go_wp2
  change bodyPost _ _ _ _ _ (set3 w3 w.heap.size (.bool b3) (.int .i64 n3) (.slice e3 m3 c3))
  have s0:=HD.1.cell 0
  have s1:=HD.1.cell 1
  have s2:=HD.1.cell 2
  simp only[Zget]at s0 s1 s2
  have HEX:=hid HD.2.1
  have HBX:=hid HD.2.2
  clear HD
  generalize set3 w3 w.heap.size (.bool b3) (.int .i64 n3) (.slice e3 m3 c3)=WX at *
  exact bodyPost_ret (v:=.agg #[.bool b3,.int .i64 n3,.slice e3 m3 c3]) (by simp[results,Tryz.results29,go_sem,s0,s1,s2]) rfl ⟨.agg #[.bool b3,.int .i64 n3,.slice e3 m3 c3],rfl,HEX,HBX.out⟩
set_option linter.unusedSimpArgs false in
set_option maxRecDepth 100000 in
set_option maxHeartbeats 4000000 in
theorem ZrP{b:Nat}{pv:Value}{n:Nat}{xs:List Value}{ss:List SZ}{tm:Int}(ht0 : -1000000≤tm)(ht1:tm≤1000000){x y:Nat}{nd:Nd}{l r:Tr}(hwf:wfT (.node x y nd l r))(hwt:wT (.node x y nd l r)≤100000)(hwin:winT (.node x y nd l r))(hD:Dst (Zp ss))(hN:ss.length≤1000)(hkd:Zc (.node x y nd l r)≠0)(ihl:isNil l=false→Zc l≠0→SayC b pv n xs ss tm l)(ihr:isNil r=false→Zc r≠0→SayC b pv n xs ss tm r)(hk:nd.kind=4):SayC b pv n xs ss tm (.node x y nd l r):=by
 intro i w sv hrow hrep hsto
 have HTM:Hid (-1000000≤tm∧tm≤1000000):=⟨ht0,ht1⟩
 clear ht0 ht1
 obtain⟨sa,sc,rfl⟩:=Zj hsto.own
 obtain⟨g,cp,p,a,c,rfl,hgl,hi,hp,ha,hc,hrl,hrr,c0,c1,c2,c3,c4,c5,c6,c7⟩:=Rep.at hrow.own hrep
 have hcell:=hrow.cell
 have hcb:b<w.heap.size:=World.block_lt_of_cell? _ _ hcell
 obtain⟨W,hW⟩:∃W,W=(w.alloc (.cells #[.bool false,.int .i64 0,.slice none 0 0] 76)).alloc (.cells #[.int .i64 p.k,.int .i64 p.n,.int .i64 p.op,.string p.nm,.slice p.ca p.cn p.cc,.slice p.ba p.bn p.bc,.int .i64 p.a,.int .i64 p.b] 131):=⟨_,rfl⟩
 have hbW:Below w.heap.size w W:=by rw[hW];exact Zbal.alloc (by simp) _
 have hzW:W.heap.size=w.heap.size+1+1:=by rw[hW,Go.Deep.nblk_alloc,Go.Deep.nblk_alloc]
 have HW:Hid (W=(w.alloc (.cells #[.bool false,.int .i64 0,.slice none 0 0] 76)).alloc (.cells #[.int .i64 p.k,.int .i64 p.n,.int .i64 p.op,.string p.nm,.slice p.ca p.cn p.cc,.slice p.ba p.bn p.bc,.int .i64 p.a,.int .i64 p.b] 131)):=hW
 have HP:Hid (PAt W (w.heap.size+1) p):=hid (by
  have:=Go.Deep.blk_alloc_new (w.alloc (.cells #[.bool false,.int .i64 0,.slice none 0 0] 76)) (.cells #[.int .i64 p.k,.int .i64 p.n,.int .i64 p.op,.string p.nm,.slice p.ca p.cn p.cc,.slice p.ba p.bn p.bc,.int .i64 p.a,.int .i64 p.b] 131)
  rw[World.size_alloc]at this
  rw[hW];exact this)
 have HV:Hid (BAt W w.heap.size [.bool false,.int .i64 0,.slice none 0 0] 76):=hid (by
  have:BAt (w.alloc (.cells #[.bool false,.int .i64 0,.slice none 0 0] 76)) w.heap.size [.bool false,.int .i64 0,.slice none 0 0] 76:=Go.Deep.blk_alloc_new w _
  rw[hW];exact this.alloc _)
 have HRW:Hid (RowAt W b (.slice (some ⟨g,0,none⟩) n cp) n xs):=hrow.below hbW
 have HL:Hid (Rep W xs l a):=Rep.below hbW l a hrl
 have HR:Hid (Rep W xs r c):=Rep.below hbW r c hrr
 have HC:Hid (Z2 W 0 p nd.conds):=hp.2.2.2.2.1.below hbW
 have HN:Hid (Zcf W 0 p nd.by_):=hp.2.2.2.2.2.below hbW
 have HST:Hid (StoV W (.slice sa ss.length sc) ss):=hsto.below hbW
 have HBW:Hid (Below w.heap.size w W):=hbW
 have HWF:Hid (wfT (.node x y nd l r)):=hwf
 have HWI:Hid (winT (.node x y nd l r)):=hwin
 have HDS:Hid (Dst (Zp ss)∧ss.length≤1000):=⟨hD,hN⟩
 have HKD:Hid (Zc (.node x y nd l r)≠0):=hkd
 have HF:Hid (p.k=nd.kind∧p.n=nd.n∧p.op=nd.op∧bl p.nm=nd.name∧p.a=a∧p.b=c):=⟨hp.1,hp.2.1,hp.2.2.1,hp.2.2.2.1,ha,hc⟩
 have HWT:Hid (ownW nd+wT l+wT r≤100000):=hwt
 have HIL:Hid (isNil l=false→Zc l≠0→SayC b (.slice (some ⟨g,0,none⟩) n cp) n xs ss tm l):=ihl
 have HIR:Hid (isNil r=false→Zc r≠0→SayC b (.slice (some ⟨g,0,none⟩) n cp) n xs ss tm r):=ihr
 have HK:Hid (nd.kind=4):=hk
 have HK3:Hid (p.k=4):=hid (by rw[hp.1,hk];rfl)
 clear hp hrow hrep hW hbW hrl hrr hwf hwin hD hN hkd ihl ihr ha hc hwt hk hsto
 obtain⟨q0,q1,q2,q3,q4,q5,q6,q7⟩:=PAt.all HP.out
 have v0:=HV.cell 0
 have v1:=HV.cell 1
 have v2:=HV.cell 2
 have f0:=HV.frozen 0
 have f1:=HV.frozen 1
 have f2:=HV.frozen 2
 simp only[Zget]at v0 v1 v2
 rw[HK3.out]at q0
 go_enter Tryz.func29,Tryz.ntmps29
 go_upto_region 2 with fail
 rw[←HW.out]
 clear c0 c1 c2 c3 c4 c5 c6 c7 hcell HW
 have HSY:Hid (sayT (Zp ss) tm (.node x y nd l r)=Zdz nd.op (sayT (Zp ss) tm l) (sayT (Zp ss) tm r)):=hid (by
  have h0:=HK.out
  rw[sayT,if_neg (by omega),if_neg (by omega),if_neg (by omega),if_neg (by omega),if_neg (by omega),if_neg (by omega)])
 have HKL:Hid (Zc l≠0):=hid (by
  have h0:=HKD.out
  have h1:=HK.out
  unfold Zc at h0
  intro hl
  rw[hl]at h0
  simp[h1]at h0)
 have HPL:Hid (SayC b (.slice (some ⟨g,0,none⟩) n cp) n xs ss tm l):=hid (HIL.out (HWF.2.2.2.2.2.2.1 (by have:=HK.out;omega)) HKL.out)
 rw[HF.2.2.2.2.1]at q6
 go_wp2_with fail
 refine(HPL.out a W (.slice sa ss.length sc) HRW.out HL.out HST.out).mono ?_
 rintro e w1 ⟨va,rfl,HVL,hb1⟩
 obtain⟨bb,nn,ea,en,ec,rfl,hen⟩:=HVL.shape
 have HEN:=hid hen
 have HV1:=hid (HV.below hb1)
 have HP1:Hid (PAt w1 (w.heap.size+1) p):=PAt.kept HP.out (hb1.block _ (PAt.lt HP.out))
 have HB1:Hid (Below W.heap.size W w1):=hb1
 clear hb1 hen q0 q1 q2 q3 q4 q5 q6 q7 v0 v1 v2 f0 f1 f2 HPL
 go_upto_region 10 with fail
 refine Z1 fun W2 hW2=>?_
 have HA2:Hid (BAt W2 w1.heap.size [.bool bb,.int .i64 nn,.slice ea en ec] 76):=hid (by rw[hW2];exact Go.Deep.blk_alloc_new w1 _)
 have hb2:Below w1.heap.size w1 W2:=by rw[hW2];exact Zbal
 have HV2:=hid (HV1.below hb2)
 have HP2:Hid (PAt W2 (w.heap.size+1) p):=PAt.kept HP1.out (hb2.block _ (PAt.lt HP1.out))
 have HVL2:=hid (HVL.below hb2)
 have HB2:Hid (Below W.heap.size W W2):=HB1.trans (hb2.mono HB1.size)
 have HBW2:Hid (Below w.heap.size w W2):=HBW.trans (HB2.mono HBW.size)
 clear hW2 hb2 HV1 HP1 HVL HB1
 obtain⟨q0,q1,q2,q3,q4,q5,q6,q7⟩:=PAt.all HP2.out
 rw[HK3.out]at q0
 have a0:=HA2.cell 0
 have a1:=HA2.cell 1
 have a2:=HA2.cell 2
 simp only[Zget]at a0 a1 a2
 have HKR:Hid (Zc r≠0):=hid (by
  have h0:=HKD.out
  have h1:=HK.out
  unfold Zc at h0
  intro hr
  rw[hr]at h0
  simp[h1]at h0)
 have HPR : Hid (∀ W', W' = W2.drew → Calls Tryz.prog 29 #[.pointer (some ⟨b, 0, none⟩), .int .i64 c, .slice sa ss.length sc, .int .i64 tm] W' fun e w' => ∃ (b4 : Bool) (n4 : Int) (e4 : Option Addr) (m4 c4 : Nat), e = .returned (.agg #[.bool b4, .int .i64 n4, .slice e4 m4 c4]) ∧ Hid (ValV w' (.agg #[.bool b4, .int .i64 n4, .slice e4 m4 c4]) (sayT (Zp ss) tm r)) ∧ Hid (Below W2.heap.size W2 w')) := hid (by
   intro W' hW'
   have hbd:Below W2.heap.size W2 W':=by rw[hW'];exact(Below.refl _ _).drew
   have hb9:Below W.heap.size W W':=HB2.trans (hbd.mono HB2.size)
   refine(HIR.out (HWF.2.2.2.2.2.2.2.1 (Or.inl HK.out)) HKR.out c W' (.slice sa ss.length sc) (HRW.below hb9) (Rep.below hb9 r c HR.out) (HST.below hb9)).mono ?_
   rintro e w3 ⟨v3,rfl,HE3,hb3⟩
   obtain⟨b3,n3,e3,m3,c3,rfl,_⟩:=HE3.shape
   exact⟨b3,n3,e3,m3,c3,rfl,HE3,hbd.trans (hb3.mono hbd.size)⟩)
 have HAR : Hid (∀ W' u, Below W2.heap.size W2 W' → ValV W' u (sayT (Zp ss) tm r) → Calls Tryz.prog 57 #[.int .i64 p.op, .agg #[.bool bb, .int .i64 nn, .slice ea en ec], u] W' fun e w' => ∃ (b4 : Bool) (n4 : Int) (e4 : Option Addr) (m4 c4 : Nat), e = .returned (.agg #[.bool b4, .int .i64 n4, .slice e4 m4 c4]) ∧ Hid (ValV w' (.agg #[.bool b4, .int .i64 n4, .slice e4 m4 c4]) (Zdz nd.op (sayT (Zp ss) tm l) (sayT (Zp ss) tm r))) ∧ Hid (Below W2.heap.size W2 w')) := hid (by
   intro W' u hb hu
   rw[HF.2.2.1]
   refine(ZlN nd.op (HWF.2.2.1 HK.out) _ u _ _ W' (HVL2.below hb) hu (ZeT HDS.out tm l) (ZeT HDS.out tm r)).mono ?_
   rintro e w3 ⟨v3,rfl,HE3,hb3⟩
   obtain⟨b3,n3,e3,m3,c3,rfl,_⟩:=HE3.shape
   exact⟨b3,n3,e3,m3,c3,rfl,HE3,hb.trans (hb3.mono hb.size)⟩)
 rw[HF.2.2.2.2.2]at q7
 have HKE : Hid (∀ W', Below W2.heap.size W2 W' → W'.cell? ⟨w.heap.size + 1, 2, none⟩ = some (.int .i64 p.op) ∧ W'.cell? ⟨w.heap.size + 1, 7, none⟩ = some (.int .i64 c) ∧ W'.cell? ⟨w1.heap.size, 0, none⟩ = some (.bool bb) ∧ W'.cell? ⟨w1.heap.size, 1, none⟩ = some (.int .i64 nn) ∧ W'.cell? ⟨w1.heap.size, 2, none⟩ = some (.slice ea en ec)) := hid (fun W' hb => by
   have hp9:=PAt.all (PAt.kept HP2.out (hb.block _ (PAt.lt HP2.out)))
   have hA9:=HA2.below hb
   have a0:=hA9.cell 0
   have a1:=hA9.cell 1
   have a2:=hA9.cell 2
   have k7:=hp9.2.2.2.2.2.2.2
   rw[HF.2.2.2.2.2]at k7
   exact⟨hp9.2.2.1,k7,a0,a1,a2⟩)
 have hS0:=HKE.out W2.drew ((Below.refl _ _).drew)
 go_upto_region 19 with fail
 clear q0 q1 q2 q3 q4 q5 q6 q7 a0 a1 a2
 refine Zc3 10 (fun w'=>w'.cell? ⟨w.heap.size+1,2,none⟩=some (.int .i64 p.op)∧w'.cell? ⟨w.heap.size+1,7,none⟩=some (.int .i64 c)∧w'.cell? ⟨w1.heap.size,0,none⟩=some (.bool bb)∧w'.cell? ⟨w1.heap.size,1,none⟩=some (.int .i64 nn)∧w'.cell? ⟨w1.heap.size,2,none⟩=some (.slice ea en ec)) (by kernel_rfl) (by exact hS0) (fun hHeld=>?_)
 clear hS0
 refine Zd (i:=0) (d:=74) (v:=?v0) rfl rfl (by kernel_rfl) (fun _ _ _ h=>h) (Or.inl ⟨by rfl,?hy0⟩) hHeld ?rs0
 case hy0=>(intro w hSw;go_simp;try with_reducible rfl)
 case rs0=>
 try simp only[Act.put,Zset]
 refine Zd (i:=1) (d:=75) (v:=?v1) rfl rfl (by kernel_rfl) (fun _ _ _ h=>h) (Or.inl ⟨by rfl,?hy1⟩) hHeld ?rs1
 case hy1=>(intro w hSw;go_simp;try with_reducible rfl)
 case rs1=>
 try simp only[Act.put,Zset]
 refine Zd (i:=2) (d:=76) (v:=?v2) rfl rfl (by kernel_rfl) (fun _ _ _ h=>h) (Or.inl ⟨by rfl,?hy2⟩) hHeld ?rs2
 case hy2=>(intro w hSw;go_simp;try with_reducible rfl)
 case rs2=>
 try simp only[Act.put,Zset]
 refine Zd (i:=3) (d:=77) (v:=?v3) rfl rfl (by kernel_rfl) (fun _ _ _ h=>h) (Or.inl ⟨by rfl,?hy3⟩) hHeld ?rs3
 case hy3=>(intro w hSw;go_simp;try with_reducible rfl)
 case rs3=>
 try simp only[Act.put,Zset]
 refine Zd (i:=4) (d:=78) (v:=?v4) rfl rfl (by kernel_rfl) (fun _ _ _ h=>h) (Or.inl ⟨by rfl,?hy4⟩) hHeld ?rs4
 case hy4=>(intro w hSw;go_simp;try with_reducible rfl)
 case rs4=>
 try simp only[Act.put,Zset]
 refine Zd (i:=5) (d:=79) (v:=?v5) rfl rfl (by kernel_rfl) (fun _ _ _ h=>h) (Or.inl ⟨by rfl,?hy5⟩) hHeld ?rs5
 case hy5=>(intro w hSw;go_simp;try with_reducible rfl)
 case rs5=>
 try simp only[Act.put,Zset]
 refine Zd (i:=6) (d:=80) (v:=?v6) rfl rfl (by kernel_rfl) (fun _ _ _ h=>h) (Or.inl ⟨by rfl,?hy6⟩) hHeld ?rs6
 case hy6=>(intro w hSw;go_simp;try with_reducible rfl)
 case rs6=>
 try simp only[Act.put,Zset]
 refine Zd (i:=7) (d:=81) (v:=?v7) rfl rfl (by kernel_rfl) (fun _ _ _ h=>h) (Or.inl ⟨by rfl,?hy7⟩) hHeld ?rs7
 case hy7=>(intro w hSw;go_simp;try with_reducible rfl)
 case rs7=>
 try simp only[Act.put,Zset]
 refine Z0 (i:=8) (by kernel_rfl) rfl (fun K hK=>?_)
 go_simp
 refine(HPR.out _ rfl).mono ?_
 rintro e w4 ⟨b4,n4,e4,m4,c4,rfl,HE4,HB4⟩
 have hHeld4:=HKE.out w4 HB4.out
 go_simp
 refine hK.out _ _ hHeld4 (fun hHeld=>?_)
 clear hK K
 try simp only[Act.put,Zset]
 refine Z0 (i:=9) (by kernel_rfl) rfl (fun K hK=>?_)
 go_simp
 refine(HAR.out w4 _ HB4.out HE4.out).mono ?_
 rintro e w3 ⟨b3,n3,e3,m3,c3,rfl,HE3,HB3⟩
 have hHeld3:=HKE.out w3 HB3.out
 go_simp
 refine hK.out _ _ hHeld3 (fun hHeld=>?_)
 clear hK K
 try simp only[Act.put,Zset]
 refine Zc9 (by kernel_rfl) (by kernel_rfl) rfl (by kernel_rfl) (fun K hK=>?_)
 have HV3:=hid (HV2.below HB3.out)
 have v0:=HV3.cell 0
 have v1:=HV3.cell 1
 have v2:=HV3.cell 2
 have f0:=HV3.frozen 0
 have f1:=HV3.frozen 1
 have f2:=HV3.frozen 2
 simp only[Zget]at v0 v1 v2
 have HD:=hid (Zee (V:=sayT (Zp ss) tm (.node x y nd l r)) HV3.out (HBW2.trans (HB3.mono HBW2.size)) (by rw[HSY.out];exact HE3.out))
 go_simp
 refine hK.out _ _ ?_
 clear hK K
 go_wp2
 change bodyPost _ _ _ _ _ (set3 w3 w.heap.size (.bool b3) (.int .i64 n3) (.slice e3 m3 c3))
 have s0:=HD.1.cell 0
 have s1:=HD.1.cell 1
 have s2:=HD.1.cell 2
 simp only[Zget]at s0 s1 s2
 have HEX:=hid HD.2.1
 have HBX:=hid HD.2.2
 clear HD
 generalize set3 w3 w.heap.size (.bool b3) (.int .i64 n3) (.slice e3 m3 c3)=WX at *
 exact bodyPost_ret (v:=.agg #[.bool b3,.int .i64 n3,.slice e3 m3 c3]) (by simp[results,Tryz.results29,go_sem,s0,s1,s2]) rfl ⟨.agg #[.bool b3,.int .i64 n3,.slice e3 m3 c3],rfl,HEX,HBX.out⟩
theorem ZhC{b:Nat}{pv:Value}{n:Nat}{xs:List Value}{ss:List SZ}{tm:Int}(ht0 : -1000000≤tm)(ht1:tm≤1000000)(hD:Dst (Zp ss))(hN:ss.length≤1000):∀t:Tr,wfT t→wT t≤100000→winT t→isNil t=false→Zc t≠0→SayC b pv n xs ss tm t
 | .nil,_,_,_,h,_=>by cases h
 | .node x y a l r, hwf, hwt, hwin, _, hkd => by
   have hwt2:ownW a+wT l+wT r≤100000:=hwt
   have ihl:isNil l=false→Zc l≠0→SayC b pv n xs ss tm l:=fun h hk=>ZhC ht0 ht1 hD hN l hwf.2.2.2.2.2.2.2.2.2.2.1 (by omega) hwin.2.1 h hk
   have ihr:isNil r=false→Zc r≠0→SayC b pv n xs ss tm r:=fun h hk=>ZhC ht0 ht1 hD hN r hwf.2.2.2.2.2.2.2.2.2.2.2 (by omega) hwin.2.2 h hk
   have hk6:=hwf.1
   rcases(by omega:a.kind=0∨a.kind=1∨a.kind=2∨a.kind=3∨a.kind=4∨a.kind=5∨a.kind=6)with h|h|h|h|h|h|h
   · exact ZrS ht0 ht1 hwf hwt hwin hD hN hkd ihl ihr h
   · exact ZrU ht0 ht1 hwf hwt hwin hD hN hkd ihl ihr h
   · exact ZrV ht0 ht1 hwf hwt hwin hD hN hkd ihl ihr h
   · exact ZrR ht0 ht1 hwf hwt hwin hD hN hkd ihl ihr h
   · exact ZrP ht0 ht1 hwf hwt hwin hD hN hkd ihl ihr h
   · exact ZrQ ht0 ht1 hwf hwt hwin hD hN hkd ihl ihr h
   · exact ZrT ht0 ht1 hwf hwt hwin hD hN hkd ihl ihr h
variable {x mb gb:Nat} {sv:Value} {ss:List Srs} {tm:Int}
theorem ZhD(ht0 : -1000000≤tm)(ht1:tm≤1000000)(hD:Dst (ss.map Srs.ser))(hN:ss.length≤30):∀t:Tr,wfT t→wT t≤100000→winT t→isNil t=false→Zc t≠0→ZbM x mb gb sv ss tm t
 | .nil,_,_,_,h,_=>by cases h
 | .node p q a l r, hwf, hwt, hwin, _, hkd => by
   have hwt2:ownW a+wT l+wT r≤100000:=hwt
   have hwl:=hwf.2.2.2.2.2.2.2.2.2.2.1
   have hwr:=hwf.2.2.2.2.2.2.2.2.2.2.2
   have ihl:isNil l=false→Zc l≠0→ZbM x mb gb sv ss tm l:=fun h hk=>ZhD ht0 ht1 hD hN l hwl (by omega) hwin.2.1 h hk
   have ihr:isNil r=false→Zc r≠0→ZbM x mb gb sv ss tm r:=fun h hk=>ZhD ht0 ht1 hD hN r hwr (by omega) hwin.2.2 h hk
   have hk6:=hwf.1
   have hnl:=hwf.2.2.2.2.2.2.1
   have hnr:=hwf.2.2.2.2.2.2.2.1
   have vl:isNil l=false→Zc l=2→Zc7 (sayT (ss.map Srs.ser) tm l)=true:=fun h hk=>by rw[Zft _ tm l hwl h (by omega),hk];rfl
   have vr:isNil r=false→Zc r=2→Zc7 (sayT (ss.map Srs.ser) tm r)=true:=fun h hk=>by rw[Zft _ tm r hwr h (by omega),hk];rfl
   have kl:=ZdT l
   have kr:=ZdT r
   unfold Zc at hkd
   rcases(by omega:a.kind=0∨a.kind=1∨a.kind=2∨a.kind=3∨a.kind=4∨a.kind=5∨a.kind=6)with h|h|h|h|h|h|h
   · exact ZrZ a l r p q h (by unfold vOk;have:=hwf.2.2.2.2.1;have:=hwf.2.2.2.2.2.1;omega)
   · exact Zr1 a l r p q h hD ht0 ht1
   · exact Zr2 a l r p q h hwf.2.1 (hwin.1 h) hD ht0 ht1
   · rw[if_neg (by omega),if_neg (by omega),if_pos h]at hkd
     exact ZrY a l r p q h (ihl (hnl (by omega)) hkd)
   · rw[if_neg (by omega),if_neg (by omega),if_neg (by omega),if_neg (by omega)]at hkd
     by_cases hb:Zc l=0∨Zc r=0∨(a.kind=6∧Zc l+Zc r≠4)
     · rw[if_pos hb]at hkd;exact absurd rfl hkd
     · refine ZrW a l r p q h (hwf.2.2.1 h) ((Zfu hD tm r).mono (by rw[List.length_map];omega)) (ihl (hnl (by omega)) (fun e=>hb (Or.inl e))) (ihr (hnr (by omega)) (fun e=>hb (Or.inr (Or.inl e))))
   · rw[if_neg (by omega),if_neg (by omega),if_neg (by omega),if_pos h]at hkd
     by_cases hb:Zc l=2
     · refine ZrX a l r p q h (hwf.2.2.2.1 h) (by have:=Zhq a.by_;unfold ownW at hwt2;omega) (vl (hnl (by omega)) hb) (ihl (hnl (by omega)) (by omega))
     · rw[if_neg hb]at hkd;exact absurd rfl hkd
   · rw[if_neg (by omega),if_neg (by omega),if_neg (by omega),if_neg (by omega)]at hkd
     by_cases hb:Zc l=0∨Zc r=0∨(a.kind=6∧Zc l+Zc r≠4)
     · rw[if_pos hb]at hkd;exact absurd rfl hkd
     · have h4:Zc l+Zc r=4:=by
         refine Classical.byContradiction fun h'=>hb (Or.inr (Or.inr ⟨h,h'⟩))
       exact Zr0 a l r p q h (vl (hnl (by omega)) (by omega)) (vr (hnr (by omega)) (by omega)) (ihl (hnl (by omega)) (by omega)) (ihr (hnr (by omega)) (by omega))
def TimP(w':World)(f l s:Int)(ft:Addr)(tv ev:Value):Prop:=(ZbY f l s=none∧tv=.slice none 0 0∧ev=.iface 389 (.pointer (some ft)))∨(∃ts,ZbY f l s=some ts∧ts.length≤50∧(∀t∈ts,-1000000≤t∧t≤1000000)∧ev=.nilIface∧w'.ownsRow 0 3 1 tv ts.length (ts.map (Value.int .i64)))
theorem ZpP(n:Nat):(madeCells #[Value.int .i64 0] n).toList=List.replicate n (Value.int .i64 0):=by
 refine List.ext_getElem (by simp[madeCells]) (fun i h1 h2=>?_)
 simp[madeCells,Nat.mod_one]
set_option maxRecDepth 100000 in
set_option maxHeartbeats 8000000 in
theorem Zq6(f l s:Int)(ft:Addr)(w:World)(hft:w.cell? ⟨7,0,none⟩=some (.iface 389 (.pointer (some ft)))) :
  Calls Tryz.prog 40 #[.agg #[.int .i64 f,.int .i64 l,.int .i64 s]] w fun e w'=>∃tv ev,e=.returned (.tuple #[tv,ev])∧Hid (TimP w' f l s ft tv ev)∧Below w.heap.size w w':=by
 obtain⟨i0,hi,hz0,hz1,hz2⟩:=info_parts Tryz.infoInt3
 have hgl:7<w.heap.size:=World.block_lt_of_cell? _ _ hft
 have hft1:∀o,(w.alloc o).cell? ⟨7,0,none⟩=some (.iface 389 (.pointer (some ft))):=fun o=>by rw[World.cell?_alloc_lt _ _ _ hgl];exact hft
 by_cases hb:badT f l s
 ·have HT:Hid (∀w',TimP w' f l s ft (.slice none 0 0) (.iface 389 (.pointer (some ft)))):=hid (fun w'=>Or.inl ⟨by unfold ZbY;rw[if_pos hb],rfl,rfl⟩)
  by_cases c1:(-1000000≤f∧f≤1000000)
  ·obtain⟨d1,d2⟩:=c1
   by_cases c2:(-1000000≤l∧l≤1000000)
   ·obtain⟨d3,d4⟩:=c2
    by_cases c3:l<f
    ·clear hb
     go_enter Tryz.func40,Tryz.ntmps40
     go_wp2_with (go_at_call 84;refine(Zer _ _).mono ?_;rintro e w' ⟨rfl,rfl⟩)
     go_region
     all_goals (try go_wp2)
     all_goals (go_ret2;exact⟨_,_,rfl,hid (HT.out _),(by repeat first|exact Below.refl _ _|assumption|refine Below.alloc ?_ ?_ _|refine Below.setCell ?_ ?_ _|refine Zk ?_ _|refine Below.drew ?_|omega|(simp;omega)|simp)⟩)
    ·by_cases c4:s<1
     ·clear hb
      go_enter Tryz.func40,Tryz.ntmps40
      go_wp2_with (go_at_call 84;refine(Zer _ _).mono ?_;rintro e w' ⟨rfl,rfl⟩)
      go_region
      all_goals (try go_wp2)
      all_goals (go_ret2;exact⟨_,_,rfl,hid (HT.out _),(by repeat first|exact Below.refl _ _|assumption|refine Below.alloc ?_ ?_ _|refine Below.setCell ?_ ?_ _|refine Zk ?_ _|refine Below.drew ?_|omega|(simp;omega)|simp)⟩)
     ·have c5:1000000<s:=by unfold badT at hb;omega
      clear hb
      go_enter Tryz.func40,Tryz.ntmps40
      go_wp2_with (go_at_call 84;refine(Zer _ _).mono ?_;rintro e w' ⟨rfl,rfl⟩)
      go_region
      all_goals (try go_wp2)
      all_goals (go_ret2;exact⟨_,_,rfl,hid (HT.out _),(by repeat first|exact Below.refl _ _|assumption|refine Below.alloc ?_ ?_ _|refine Below.setCell ?_ ?_ _|refine Zk ?_ _|refine Below.drew ?_|omega|(simp;omega)|simp)⟩)
   ·have c3:(decide (-1000000≤l) && decide (l≤1000000))=false:=by simp;omega
    clear hb c2
    go_enter Tryz.func40,Tryz.ntmps40
    go_wp2_with (go_at_call 84;refine(Zer _ _).mono ?_;rintro e w' ⟨rfl,rfl⟩)
    go_region
    all_goals (try go_wp2)
    all_goals (go_ret2;exact⟨_,_,rfl,hid (HT.out _),(by repeat first|exact Below.refl _ _|assumption|refine Below.alloc ?_ ?_ _|refine Below.setCell ?_ ?_ _|refine Zk ?_ _|refine Below.drew ?_|omega|(simp;omega)|simp)⟩)
  ·have c3:(decide (-1000000≤f) && decide (f≤1000000))=false:=by simp;omega
   clear hb c1
   go_enter Tryz.func40,Tryz.ntmps40
   go_wp2_with (go_at_call 84;refine(Zer _ _).mono ?_;rintro e w' ⟨rfl,rfl⟩)
   go_region
   all_goals (try go_wp2)
   all_goals (go_ret2;exact⟨_,_,rfl,hid (HT.out _),(by repeat first|exact Below.refl _ _|assumption|refine Below.alloc ?_ ?_ _|refine Below.setCell ?_ ?_ _|refine Zk ?_ _|refine Below.drew ?_|omega|(simp;omega)|simp)⟩)
 ·have HG:Hid (ZbY f l s=if 50<cnt l s f then none else some ((List.range (cnt l s f)).map fun(i:Nat)=>f+(i:Int)*s)):=hid (ZsK hb)
  have hbd : -1000000≤f∧f≤1000000∧-1000000≤l∧l≤1000000∧1≤s∧s≤1000000∧f≤l:=by unfold badT at hb;omega
  obtain⟨d1,d2,d3,d4,d5,d6,d7⟩:=hbd
  clear hb
  obtain⟨m,hm⟩:∃m:Nat,(l - f).tdiv s=(m:Int):=⟨((l - f).tdiv s).toNat,by have:=Int.tdiv_nonneg (a:=l - f) (b:=s) (by omega) (by omega);omega⟩
  have hmc:cnt l s f=m+1:=by
   unfold cnt
   rw[if_pos d7,←Int.tdiv_eq_ediv_of_nonneg (by omega),hm]
   omega
  have hmb:m≤2000000:=by
   have h1:((l - f).tdiv s).natAbs≤(l - f).natAbs:=by rw[Int.natAbs_tdiv];exact Nat.div_le_self _ _
   rw[hm]at h1
   omega
  rw[hmc]at HG
  have hs0:(s == 0)=false:=by rw[beq_eq_false_iff_ne];omega
  have hs1:s≠0:=by omega
  clear hmc
  by_cases h50:50<m+1
  ·have HT:Hid (∀w',TimP w' f l s ft (.slice none 0 0) (.iface 389 (.pointer (some ft)))):=hid (fun w'=>Or.inl ⟨by rw[HG.out,if_pos h50],rfl,rfl⟩)
   have h51:(50:Int)<(m:Int)+1:=by omega
   go_enter Tryz.func40,Tryz.ntmps40
   go_wp2_with (go_at_call 84;refine(Zer _ _).mono ?_;rintro e w' ⟨rfl,rfl⟩)
   go_region
   all_goals (try go_wp2)
   all_goals (go_ret2;exact⟨_,_,rfl,hid (HT.out _),(by repeat first|exact Below.refl _ _|assumption|refine Below.alloc ?_ ?_ _|refine Below.setCell ?_ ?_ _|refine Zk ?_ _|refine Below.drew ?_|omega|(simp;omega)|simp)⟩)
  ·have HT:Hid (ZbY f l s=some ((List.range (m+1)).map fun(i:Nat)=>f+(i:Int)*s)):=hid (by rw[HG.out,if_neg h50])
   have h51:(m:Int)+1≤50:=by omega
   have HLT : Hid (∀ i, i < m + 1 → -1000000 ≤ f + (i : Int) * s ∧ f + (i : Int) * s ≤ 1000000) := hid (fun i hi' => by
     have h1:(i:Int)*s≤(m:Int)*s:=Int.mul_le_mul_of_nonneg_right (by omega) (by omega)
     have h2:(m:Int)*s≤l - f:=by
       rw[←hm,Int.tdiv_eq_ediv_of_nonneg (by omega)]
       exact Int.ediv_mul_le _ hs1
     have h3:0≤(i:Int)*s:=Int.mul_nonneg (by omega) (by omega)
     omega)
   go_enter Tryz.func40,Tryz.ntmps40
   go_wp2_with (first
     | (go_at_call 84;refine(Zer _ _).mono ?_;rintro e w' ⟨rfl,rfl⟩)
     | (at_make;refine wpList_make_full _ rfl _ _ 38 rfl w.heap.size 3 i0 _ 1 Tryz.underlying38 hi hz0 hz1 _ _ _ _ (m+1) rfl rfl ?e1 ?e2 ?b2 ?b3 ?b4 ?_))
   case e1=>rfl
   case e2=>rfl
   case b2=>rw[hz2];omega
   case b3=>unfold maxLen;omega
   case b4=>simp
   rw[ZpP]
   intro w2 hown2 hgrow2
   have HBX:Hid (BAt w2 w.heap.size [.int .i64 f,.int .i64 l,.int .i64 s] 23):=hid ((hgrow2.block _ (by simp) (by simp)).trans (Go.Deep.blk_alloc_new _ _))
   have HB2:Hid (Below w.heap.size w w2):=hid (Zbal.grown hgrow2 (by simp) (fun q hq=>by cases hq))
   clear hgrow2 hm hft1
   have hgl2:w.heap.size+1<w2.heap.size:=ZbJ hown2
   go_wp2
   go_loopw [50] (fun i wr => ∃ k : Nat, k ≤ m + 1 ∧ i = .int .i64 k ∧ Hid (wr.ownsRow w.heap.size 3 1 (.slice (some ⟨w.heap.size + 1, 0, none⟩) (m + 1) (m + 1)) (m + 1) ((List.range k).map (fun (i : Nat) => Value.int .i64 (f + (i : Int) * s)) ++ List.replicate (m + 1 - k) (Value.int .i64 0))) ∧ Hid (BAt wr w.heap.size [.int .i64 f, .int .i64 l, .int .i64 s] 23) ∧ Hid (Below w.heap.size w wr))
     (fun i _=>m+1 - (intOf i).toNat)
   case atStart=>exact⟨0,Nat.zero_le _,rfl,hid (by simpa using hown2),HBX,HB2⟩
   case round=>
    obtain⟨k,hk,rfl,HOW,HX,HB⟩:=hrel
    by_cases hlt:k<m+1
    ·have x0:=HX.cell 0
     have x2:=HX.cell 2
     simp only[Zget]at x0 x2
     have hks:=HLT.out k hlt
     have hk3:0≤(k:Int)*s:=Int.mul_nonneg (by omega) (by omega)
     have hkw:(Go.IntKind.i64).wrap ((k:Int)*s)=(k:Int)*s:=by
      generalize(k:Int)*s=ks at *
      rw[IntKind.wrap_i64];omega
     have hfw:(Go.IntKind.i64).wrap (f+(k:Int)*s)=f+(k:Int)*s:=by
      generalize(k:Int)*s=ks at *
      rw[IntKind.wrap_i64];omega
     have hcell:wr.cell? ⟨w.heap.size+1,k,none⟩=some (.int .i64 0):=Zn HOW.out _ _ (by rw[List.getElem?_append_right (by simp),List.length_map,List.length_range,Nat.sub_self,List.getElem?_replicate,if_pos (by omega)])
     have hfz:wr.frozen? ⟨w.heap.size+1,k,none⟩=false:=by
      rcases HOW.2 with ⟨h,_⟩|⟨g,cap,cur,h,_,hh,_⟩
      ·cases h
      ·injection h with h1
       injection h1 with h1
       injection h1 with h1
       subst h1
       simp[World.frozen?,hh]
     have hkz:(k:Int)<(m:Int)+1:=by omega
     have HO2 : Hid ((wr.setCell ⟨w.heap.size + 1, k, none⟩ (.int .i64 (f + (k : Int) * s))).ownsRow w.heap.size 3 1 (.slice (some ⟨w.heap.size + 1, 0, none⟩) (m + 1) (m + 1)) (m + 1) ((List.range (k + 1)).map (fun (i : Nat) => Value.int .i64 (f + (i : Int) * s)) ++ List.replicate (m + 1 - (k + 1)) (Value.int .i64 0))) := hid (by
       have:=Zqw HOW.out k (.int .i64 (f+(k:Int)*s))
       rw[Zsd (m+1) k (fun(i:Nat)=>Value.int .i64 (f+(i:Int)*s)) _ hlt]at this
       exact this)
     go_wp2
     go_roundw
     case rel=>exact⟨k+1,by omega,by go_num,HO2,hid (HX.other (p:=⟨w.heap.size+1,k,none⟩) (by show w.heap.size≠w.heap.size+1;omega) _),hid (HB.setCell (p:=⟨w.heap.size+1,k,none⟩) (by show w.heap.size≤w.heap.size+1;omega) _)⟩
     case measure=>simp[intOf];omega
    ·obtain rfl:k=m+1:=by omega
     have HTP : Hid (TimP wr f l s ft (.slice (some ⟨w.heap.size + 1, 0, none⟩) (m + 1) (m + 1)) .nilIface) := hid (Or.inr ⟨_, HT.out, by simp; omega, fun t ht => by
       obtain⟨i,hi',rfl⟩:=List.mem_map.1 ht
       exact HLT.out i (List.mem_range.1 hi'),rfl,by
       have h1:=HOW.out
       rw[Nat.sub_self,List.replicate_zero,List.append_nil]at h1
       rw[List.length_map,List.length_range,List.map_map]
       exact h1.mono (Nat.zero_le _)⟩)
     go_wp2
     go_ret2
     exact⟨_,_,rfl,HTP,HB.out⟩
end Go.Proofs.YtpbemaaghbbocaaGreatDoor
namespace Go.Proofs.YtpbemaaghbbocaaGreatDoor
open Go.RowKit LS
theorem Zip{T e:TypeId}{B b:Nat}{p:Value}{bs:List Value}{w w':World}(h:Lib.BuilderAtF T e B b p bs w)(hb:Below w.heap.size w w'):Lib.BuilderAtF T e B b p bs w':=by
 obtain⟨h1,v,h2,⟨h3,h4⟩,h5⟩:=h
 refine⟨h1,v,(hb.block b (Array.getElem?_eq_some_iff.1 h2).1).trans h2,⟨h3,?_⟩,h5⟩
 rcases h4 with h6|⟨g,cap,cur,fz,h6,h7,h8,h9⟩
 ·exact Or.inl h6
 ·exact Or.inr ⟨g,cap,cur,fz,h6,h7,(hb.block g (Array.getElem?_eq_some_iff.1 h8).1).trans h8,h9⟩
theorem Zmg{T e:TypeId}{B b:Nat}{bs:List Value}{w w':World}(h:Lib.IsBuilderF T e B b bs w)(hb:Below w.heap.size w w'):Lib.IsBuilderF T e B b bs w':=by
 rcases h with h|h
 ·exact Or.inl (Zip h hb)
 ·exact Or.inr (Zip h hb)
structure WB (w:World) (B b:Nat) (l:List UInt8):Prop where
 bd:Lib.IsBuilderF 101 5 B b (Lib.byteCells l) w
 le:B≤w.heap.size
structure WK (B b:Nat) (w w':World):Prop where
 low:Below B w w'
 kept:Lib.OthersKept 5 (some b) w w'
theorem WB.below{w w':World}{B b:Nat}{l:List UInt8}(h:WB w B b l)(hb:Below w.heap.size w w'):WB w' B b l:=⟨Zmg h.bd hb,Nat.le_trans h.le hb.size⟩
theorem WB.ne{w:World}{B b:Nat}{l:List UInt8}(h:WB w B b l):b<w.heap.size∧∃c,w.heap[b]?=some (.cells c 101 (0,0)):=by
 rcases h.bd with h|h
 ·obtain⟨_,v,hb,_⟩:=h;exact⟨(Array.getElem?_eq_some_iff.1 hb).1,_,hb⟩
 ·obtain⟨_,v,hb,_⟩:=h;exact⟨(Array.getElem?_eq_some_iff.1 hb).1,_,hb⟩
theorem WK.block{w w':World}{B b:Nat}{l:List UInt8}(hw:WB w B b l)(h:WK B b w w'){a:Nat}{c:Array Value}{t:TypeId}{fr:Nat×Nat}(ha:w.heap[a]?=some (.cells c t fr))(h1:t≠101)(h2:t≠5):w'.heap[a]?=some (.cells c t fr):=by
 refine h.kept a _ ha ?_ ?_
 ·intro e
  injection e with e
  subst e
  obtain⟨_,c',hb⟩:=hw.ne
  rw[hb]at ha
  injection ha with ha
  injection ha with _ ha
  exact h1 ha.symm
 ·intro c' fz e
  injection e with _ e
  exact h2 e
theorem WK.bat{w w':World}{B b:Nat}{l:List UInt8}(hw:WB w B b l)(h:WK B b w w'){a:Nat}{c:List Value}{t:TypeId}(ha:BAt w a c t)(h1:t≠101)(h2:t≠5):BAt w' a c t:=WK.block hw h ha h1 h2
theorem Zmu(l:List UInt8)(s:ByteArray):Lib.byteCells l++Lib.strCells s=Lib.byteCells (l++bl s):=by
 unfold Lib.byteCells Lib.strCells bl
 rw[List.map_append]
theorem ZiI(n:Nat):Lib.decDigits n=decS n:=by
 induction n using Nat.strongRecOn with
 | _ n ih=>
  by_cases h:n≤9
  ·rw[ZgM h,Lib.decDigits,dif_pos (by omega)]
   rfl
  ·rw[ZgL h,Lib.decDigits,dif_neg (by omega),ih (n / 10) (by omega)]
   rfl
def Zb3 (w : World) : Prop := Lib.TabIs Tryz.prog w "internal/strconv.uint64pow10" .u64 Lib.pow10Tab
theorem Tryz.gPow : Tryz.prog.globalNamed "internal/strconv.uint64pow10" = some 15 := by kernel_rfl
theorem Zb3.low{w w':World}{B:Nat}(h:Zb3 w)(hb:Below B w w')(hB:20≤B):Zb3 w':=var?_below hb Tryz.gPow (Nat.lt_of_lt_of_le (by decide) hB) h
end Go.Proofs.YtpbemaaghbbocaaGreatDoor

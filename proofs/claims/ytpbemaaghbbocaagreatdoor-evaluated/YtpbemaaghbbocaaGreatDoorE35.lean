/- Parts. -/
import Derived.Test.YtpbemaaghbbocaaGreatDoorE34
namespace Go.Proofs.YtpbemaaghbbocaaGreatDoor
open Go.RowKit LS
def SayC(b:Nat)(pv:Value)(n:Nat)(xs:List Value)(ss:List SZ)(tm:Int)(t:Tr):Prop:=∀(i:Nat) (w:World) (sv:Value),RowAt w b pv n xs→Rep w xs t i→StoV w sv ss→
  Calls Tryz.prog 29 #[.pointer (some ⟨b,0,none⟩),.int .i64 i,sv,.int .i64 tm] w fun e w'=>∃v,e=.returned v∧Hid (ValV w' v (sayT (Zp ss) tm t))∧Below w.heap.size w w'
theorem ValV.shape{w:World}{v:Value}{V:VV}(h:ValV w v V):∃(bb:Bool) (nn:Int) (ea:Option Addr) (en ec:Nat),v=.agg #[.bool bb,.int .i64 nn,.slice ea en ec]∧en=(ZcJ V).length:=by
 cases V with
 | sc n=>
  obtain⟨⟨ea,ec,rfl,_⟩,_⟩:=h
  exact⟨true,n,ea,0,ec,rfl,rfl⟩
 | vec l=>
  obtain⟨ea,ec,zs,rfl,_,hl⟩:=h
  exact⟨false,0,ea,zs.length,ec,rfl,by rw[←List.length_map (f:=fun z:Value×El=>z.2),hl];rfl⟩
theorem ZgK:∀l:List (List UInt8×List UInt8×Bool),l.length≤cw l
 | []=>Nat.le_refl _
 | c::l=>by have:=ZgK l;simp only[cw,List.length_cons];omega
theorem Zhq:∀l:List (List UInt8),l.length≤nw l
 | []=>Nat.le_refl _
 | c::l=>by have:=Zhq l;simp only[nw,List.length_cons];omega
theorem VOk.mono{m n:Nat}{V:VV}(h:VOk m V)(hmn:m≤n):VOk n V:=by
 cases V with
 | sc _=>trivial
 | vec l=>exact⟨h.1,Nat.le_trans h.2 hmn⟩
theorem ZeT{ss:List SZ}(h:Dst (Zp ss)∧ss.length≤1000)(tm:Int)(t:Tr):VOk 1000 (sayT (Zp ss) tm t):=(Zfu h.1 tm t).mono (by unfold Zp;rw[List.length_map];exact h.2)
set_option linter.unusedSimpArgs false in
set_option maxRecDepth 100000 in
set_option maxHeartbeats 4000000 in
theorem ZrS{b:Nat}{pv:Value}{n:Nat}{xs:List Value}{ss:List SZ}{tm:Int}(ht0 : -1000000≤tm)(ht1:tm≤1000000){x y:Nat}{nd:Nd}{l r:Tr}(hwf:wfT (.node x y nd l r))(hwt:wT (.node x y nd l r)≤100000)(hwin:winT (.node x y nd l r))(hD:Dst (Zp ss))(hN:ss.length≤1000)(hkd:Zc (.node x y nd l r)≠0)(ihl:isNil l=false→Zc l≠0→SayC b pv n xs ss tm l)(ihr:isNil r=false→Zc r≠0→SayC b pv n xs ss tm r)(hk:nd.kind=0):SayC b pv n xs ss tm (.node x y nd l r):=by
 intro i w sv hrow hrep hsto
 have HTM:Hid (-1000000≤tm∧tm≤1000000):=⟨ht0,ht1⟩
 clear ht0 ht1
 obtain⟨sa,sc,rfl⟩:=Zj hsto.own
 obtain⟨g,cp,p,a,c,rfl,hgl,hi,hp,ha,hc,hrl,hrr,c0,c1,c2,c3,c4,c5,c6,c7⟩:=Rep.at hrow.own hrep
 have hcell:=hrow.cell
 have hcb:b<w.heap.size:=World.block_lt_of_cell? _ _ hcell
 obtain⟨W,hW⟩:∃W,W=(w.alloc (.cells #[.bool false,.int .i64 0,.slice none 0 0] 76)).alloc (.cells #[.int .i64 p.k,.int .i64 p.n,.int .i64 p.op,.string p.nm,.slice p.ca p.cn p.cc,.slice p.ba p.bn p.bc,.int .i64 p.a,.int .i64 p.b] 131):=⟨_,rfl⟩
 have hbW:Below w.heap.size w W:=by rw[hW];exact Zbal.alloc (by simp) _
 have hzW:W.heap.size=w.heap.size+1+1:=by rw[hW,Go.Deep.nblk_alloc,Go.Deep.nblk_alloc]
 have HW:Hid (W=(w.alloc (.cells #[.bool false,.int .i64 0,.slice none 0 0] 76)).alloc (.cells #[.int .i64 p.k,.int .i64 p.n,.int .i64 p.op,.string p.nm,.slice p.ca p.cn p.cc,.slice p.ba p.bn p.bc,.int .i64 p.a,.int .i64 p.b] 131)):=hW
 have HP:Hid (PAt W (w.heap.size+1) p):=hid (by
  have:=Go.Deep.blk_alloc_new (w.alloc (.cells #[.bool false,.int .i64 0,.slice none 0 0] 76)) (.cells #[.int .i64 p.k,.int .i64 p.n,.int .i64 p.op,.string p.nm,.slice p.ca p.cn p.cc,.slice p.ba p.bn p.bc,.int .i64 p.a,.int .i64 p.b] 131)
  rw[World.size_alloc]at this
  rw[hW];exact this)
 have HV:Hid (BAt W w.heap.size [.bool false,.int .i64 0,.slice none 0 0] 76):=hid (by
  have:BAt (w.alloc (.cells #[.bool false,.int .i64 0,.slice none 0 0] 76)) w.heap.size [.bool false,.int .i64 0,.slice none 0 0] 76:=Go.Deep.blk_alloc_new w _
  rw[hW];exact this.alloc _)
 have HRW:Hid (RowAt W b (.slice (some ⟨g,0,none⟩) n cp) n xs):=hrow.below hbW
 have HL:Hid (Rep W xs l a):=Rep.below hbW l a hrl
 have HR:Hid (Rep W xs r c):=Rep.below hbW r c hrr
 have HC:Hid (Z2 W 0 p nd.conds):=hp.2.2.2.2.1.below hbW
 have HN:Hid (Zcf W 0 p nd.by_):=hp.2.2.2.2.2.below hbW
 have HST:Hid (StoV W (.slice sa ss.length sc) ss):=hsto.below hbW
 have HBW:Hid (Below w.heap.size w W):=hbW
 have HWF:Hid (wfT (.node x y nd l r)):=hwf
 have HWI:Hid (winT (.node x y nd l r)):=hwin
 have HDS:Hid (Dst (Zp ss)∧ss.length≤1000):=⟨hD,hN⟩
 have HKD:Hid (Zc (.node x y nd l r)≠0):=hkd
 have HF:Hid (p.k=nd.kind∧p.n=nd.n∧p.op=nd.op∧bl p.nm=nd.name∧p.a=a∧p.b=c):=⟨hp.1,hp.2.1,hp.2.2.1,hp.2.2.2.1,ha,hc⟩
 have HWT:Hid (ownW nd+wT l+wT r≤100000):=hwt
 have HIL:Hid (isNil l=false→Zc l≠0→SayC b (.slice (some ⟨g,0,none⟩) n cp) n xs ss tm l):=ihl
 have HIR:Hid (isNil r=false→Zc r≠0→SayC b (.slice (some ⟨g,0,none⟩) n cp) n xs ss tm r):=ihr
 have HK:Hid (nd.kind=0):=hk
 have HK3:Hid (p.k=0):=hid (by rw[hp.1,hk];rfl)
 clear hp hrow hrep hW hbW hrl hrr hwf hwin hD hN hkd ihl ihr ha hc hwt hk hsto
 obtain⟨q0,q1,q2,q3,q4,q5,q6,q7⟩:=PAt.all HP.out
 have v0:=HV.cell 0
 have v1:=HV.cell 1
 have v2:=HV.cell 2
 have f0:=HV.frozen 0
 have f1:=HV.frozen 1
 have f2:=HV.frozen 2
 simp only[Zget]at v0 v1 v2
 rw[HK3.out]at q0
 go_enter Tryz.func29,Tryz.ntmps29
 go_upto_region 2 with fail
 rw[←HW.out]
 clear c0 c1 c2 c3 c4 c5 c6 c7 hcell HW
 have HSY:Hid (sayT (Zp ss) tm (.node x y nd l r)=.sc p.n):=hid (by rw[HF.2.1];unfold sayT;rw[if_pos HK.out])
 have HVN:Hid (vOk p.n):=hid (by have h1:=HWF.2.2.2.2.1;have h2:=HWF.2.2.2.2.2.1;rw[HF.2.1];unfold vOk;omega)
 have HD:=hid (Zee (x0:=.bool true) (x1:=.int .i64 p.n) (x2:=.slice none 0 0) HV.out HBW.out (V:=sayT (Zp ss) tm (.node x y nd l r)) (by rw[HSY.out];exact⟨⟨none,0,rfl,⟨World.ownsRow_nil _ _ _ _,by simp,by simp⟩⟩,HVN.out⟩))
 go_wp2
 change bodyPost _ _ _ _ _ (set3 W w.heap.size (.bool true) (.int .i64 p.n) (.slice none 0 0))
 have s0:=HD.1.cell 0
 have s1:=HD.1.cell 1
 have s2:=HD.1.cell 2
 simp only[Zget]at s0 s1 s2
 have HEX:=hid HD.2.1
 have HBX:=hid HD.2.2
 clear HD
 generalize set3 W w.heap.size (.bool true) (.int .i64 p.n) (.slice none 0 0)=WX at *
 exact bodyPost_ret (v:=.agg #[.bool true,.int .i64 p.n,.slice none 0 0]) (by simp[results,Tryz.results29,go_sem,s0,s1,s2]) rfl ⟨.agg #[.bool true,.int .i64 p.n,.slice none 0 0],rfl,HEX,HBX.out⟩
set_option linter.unusedSimpArgs false in
set_option maxRecDepth 100000 in
set_option maxHeartbeats 4000000 in
theorem ZrU{b:Nat}{pv:Value}{n:Nat}{xs:List Value}{ss:List SZ}{tm:Int}(ht0 : -1000000≤tm)(ht1:tm≤1000000){x y:Nat}{nd:Nd}{l r:Tr}(hwf:wfT (.node x y nd l r))(hwt:wT (.node x y nd l r)≤100000)(hwin:winT (.node x y nd l r))(hD:Dst (Zp ss))(hN:ss.length≤1000)(hkd:Zc (.node x y nd l r)≠0)(ihl:isNil l=false→Zc l≠0→SayC b pv n xs ss tm l)(ihr:isNil r=false→Zc r≠0→SayC b pv n xs ss tm r)(hk:nd.kind=1):SayC b pv n xs ss tm (.node x y nd l r):=by
 intro i w sv hrow hrep hsto
 have HTM:Hid (-1000000≤tm∧tm≤1000000):=⟨ht0,ht1⟩
 clear ht0 ht1
 obtain⟨sa,sc,rfl⟩:=Zj hsto.own
 obtain⟨g,cp,p,a,c,rfl,hgl,hi,hp,ha,hc,hrl,hrr,c0,c1,c2,c3,c4,c5,c6,c7⟩:=Rep.at hrow.own hrep
 have hcell:=hrow.cell
 have hcb:b<w.heap.size:=World.block_lt_of_cell? _ _ hcell
 obtain⟨W,hW⟩:∃W,W=(w.alloc (.cells #[.bool false,.int .i64 0,.slice none 0 0] 76)).alloc (.cells #[.int .i64 p.k,.int .i64 p.n,.int .i64 p.op,.string p.nm,.slice p.ca p.cn p.cc,.slice p.ba p.bn p.bc,.int .i64 p.a,.int .i64 p.b] 131):=⟨_,rfl⟩
 have hbW:Below w.heap.size w W:=by rw[hW];exact Zbal.alloc (by simp) _
 have hzW:W.heap.size=w.heap.size+1+1:=by rw[hW,Go.Deep.nblk_alloc,Go.Deep.nblk_alloc]
 have HW:Hid (W=(w.alloc (.cells #[.bool false,.int .i64 0,.slice none 0 0] 76)).alloc (.cells #[.int .i64 p.k,.int .i64 p.n,.int .i64 p.op,.string p.nm,.slice p.ca p.cn p.cc,.slice p.ba p.bn p.bc,.int .i64 p.a,.int .i64 p.b] 131)):=hW
 have HP:Hid (PAt W (w.heap.size+1) p):=hid (by
  have:=Go.Deep.blk_alloc_new (w.alloc (.cells #[.bool false,.int .i64 0,.slice none 0 0] 76)) (.cells #[.int .i64 p.k,.int .i64 p.n,.int .i64 p.op,.string p.nm,.slice p.ca p.cn p.cc,.slice p.ba p.bn p.bc,.int .i64 p.a,.int .i64 p.b] 131)
  rw[World.size_alloc]at this
  rw[hW];exact this)
 have HV:Hid (BAt W w.heap.size [.bool false,.int .i64 0,.slice none 0 0] 76):=hid (by
  have:BAt (w.alloc (.cells #[.bool false,.int .i64 0,.slice none 0 0] 76)) w.heap.size [.bool false,.int .i64 0,.slice none 0 0] 76:=Go.Deep.blk_alloc_new w _
  rw[hW];exact this.alloc _)
 have HRW:Hid (RowAt W b (.slice (some ⟨g,0,none⟩) n cp) n xs):=hrow.below hbW
 have HL:Hid (Rep W xs l a):=Rep.below hbW l a hrl
 have HR:Hid (Rep W xs r c):=Rep.below hbW r c hrr
 have HC:Hid (Z2 W 0 p nd.conds):=hp.2.2.2.2.1.below hbW
 have HN:Hid (Zcf W 0 p nd.by_):=hp.2.2.2.2.2.below hbW
 have HST:Hid (StoV W (.slice sa ss.length sc) ss):=hsto.below hbW
 have HBW:Hid (Below w.heap.size w W):=hbW
 have HWF:Hid (wfT (.node x y nd l r)):=hwf
 have HWI:Hid (winT (.node x y nd l r)):=hwin
 have HDS:Hid (Dst (Zp ss)∧ss.length≤1000):=⟨hD,hN⟩
 have HKD:Hid (Zc (.node x y nd l r)≠0):=hkd
 have HF:Hid (p.k=nd.kind∧p.n=nd.n∧p.op=nd.op∧bl p.nm=nd.name∧p.a=a∧p.b=c):=⟨hp.1,hp.2.1,hp.2.2.1,hp.2.2.2.1,ha,hc⟩
 have HWT:Hid (ownW nd+wT l+wT r≤100000):=hwt
 have HIL:Hid (isNil l=false→Zc l≠0→SayC b (.slice (some ⟨g,0,none⟩) n cp) n xs ss tm l):=ihl
 have HIR:Hid (isNil r=false→Zc r≠0→SayC b (.slice (some ⟨g,0,none⟩) n cp) n xs ss tm r):=ihr
 have HK:Hid (nd.kind=1):=hk
 have HK3:Hid (p.k=1):=hid (by rw[hp.1,hk];rfl)
 clear hp hrow hrep hW hbW hrl hrr hwf hwin hD hN hkd ihl ihr ha hc hwt hk hsto
 obtain⟨q0,q1,q2,q3,q4,q5,q6,q7⟩:=PAt.all HP.out
 have v0:=HV.cell 0
 have v1:=HV.cell 1
 have v2:=HV.cell 2
 have f0:=HV.frozen 0
 have f1:=HV.frozen 1
 have f2:=HV.frozen 2
 simp only[Zget]at v0 v1 v2
 rw[HK3.out]at q0
 go_enter Tryz.func29,Tryz.ntmps29
 go_upto_region 2 with fail
 rw[←HW.out]
 clear c0 c1 c2 c3 c4 c5 c6 c7 hcell HW
 have HSY:Hid (sayT (Zp ss) tm (.node x y nd l r)=.vec (ZbA (Zp ss) nd none 10 tm)):=hid (by
  unfold sayT
  have h0:=HK.out
  rw[if_neg (by omega),if_pos h0])
 have HWN : Hid (∀ W', W' = W → Calls Tryz.prog 54 #[.slice sa ss.length sc, .agg #[.int .i64 1, .int .i64 p.n, .int .i64 p.op, .string p.nm, .slice p.ca p.cn p.cc, .slice p.ba p.bn p.bc, .int .i64 p.a, .int .i64 p.b], .int .i64 (-1), .int .i64 10, .int .i64 tm] W' fun e w' => ∃ (ea : Option Addr) (en ec : Nat), e = .returned (.agg #[.bool false, .int .i64 0, .slice ea en ec]) ∧ Hid (ValV w' (.agg #[.bool false, .int .i64 0, .slice ea en ec]) (.vec (ZbA (Zp ss) nd none 10 tm))) ∧ Below W.heap.size W w') := hid (by
   intro W' hW'
   rw[hW']
   have hcl:nd.conds.length≤100000:=by have h1:=HWT.out;have h2:=ZgK nd.conds;unfold ownW at h1;omega
   have hh:=Zli W (.slice sa ss.length sc) ss p nd HF.2.2.2.1 HC.out hcl (none) (-1) (Or.inl ⟨rfl,rfl⟩) (10) tm (by omega) (by omega) HTM.1 HTM.2 HST.out
   rw[HK3.out]at hh
   refine hh.mono ?_
   rintro e w1 ⟨vv,zs,rfl,HE,HM,_,hb1⟩
   obtain⟨ea,ec,rfl⟩:=Zj HE.own
   refine⟨ea,zs.length,ec,rfl,hid (ValV.of_els HE.out ?_),hb1⟩
   exact HM.out)
 clear v0 v1 v2 f0 f1 f2
 go_wp2_with fail
 refine(HWN.out _ rfl).mono ?_
 rintro e w1 ⟨ea,en,ec,rfl,HE,hb1⟩
 have HV1:=hid (HV.below hb1)
 have HB1:Hid (Below w.heap.size w w1):=HBW.trans (hb1.mono HBW.size)
 have v0:=HV1.cell 0
 have v1:=HV1.cell 1
 have v2:=HV1.cell 2
 have f0:=HV1.frozen 0
 have f1:=HV1.frozen 1
 have f2:=HV1.frozen 2
 simp only[Zget]at v0 v1 v2
 have HD:=hid (Zee (V:=sayT (Zp ss) tm (.node x y nd l r)) HV1.out HB1.out (by rw[HSY.out];exact HE.out))
 clear hb1 HE HWN q0 q1 q2 q3 q4 q5 q6 q7
 go_wp2
 change bodyPost _ _ _ _ _ (set3 w1 w.heap.size (.bool false) (.int .i64 0) (.slice ea en ec))
 have s0:=HD.1.cell 0
 have s1:=HD.1.cell 1
 have s2:=HD.1.cell 2
 simp only[Zget]at s0 s1 s2
 have HEX:=hid HD.2.1
 have HBX:=hid HD.2.2
 clear HD
 generalize set3 w1 w.heap.size (.bool false) (.int .i64 0) (.slice ea en ec)=WX at *
 exact bodyPost_ret (v:=.agg #[.bool false,.int .i64 0,.slice ea en ec]) (by simp[results,Tryz.results29,go_sem,s0,s1,s2]) rfl ⟨.agg #[.bool false,.int .i64 0,.slice ea en ec],rfl,HEX,HBX.out⟩
set_option linter.unusedSimpArgs false in
set_option maxRecDepth 100000 in
set_option maxHeartbeats 4000000 in
theorem ZrV{b:Nat}{pv:Value}{n:Nat}{xs:List Value}{ss:List SZ}{tm:Int}(ht0 : -1000000≤tm)(ht1:tm≤1000000){x y:Nat}{nd:Nd}{l r:Tr}(hwf:wfT (.node x y nd l r))(hwt:wT (.node x y nd l r)≤100000)(hwin:winT (.node x y nd l r))(hD:Dst (Zp ss))(hN:ss.length≤1000)(hkd:Zc (.node x y nd l r)≠0)(ihl:isNil l=false→Zc l≠0→SayC b pv n xs ss tm l)(ihr:isNil r=false→Zc r≠0→SayC b pv n xs ss tm r)(hk:nd.kind=2):SayC b pv n xs ss tm (.node x y nd l r):=by
 intro i w sv hrow hrep hsto
 have HTM:Hid (-1000000≤tm∧tm≤1000000):=⟨ht0,ht1⟩
 clear ht0 ht1
 obtain⟨sa,sc,rfl⟩:=Zj hsto.own
 obtain⟨g,cp,p,a,c,rfl,hgl,hi,hp,ha,hc,hrl,hrr,c0,c1,c2,c3,c4,c5,c6,c7⟩:=Rep.at hrow.own hrep
 have hcell:=hrow.cell
 have hcb:b<w.heap.size:=World.block_lt_of_cell? _ _ hcell
 obtain⟨W,hW⟩:∃W,W=(w.alloc (.cells #[.bool false,.int .i64 0,.slice none 0 0] 76)).alloc (.cells #[.int .i64 p.k,.int .i64 p.n,.int .i64 p.op,.string p.nm,.slice p.ca p.cn p.cc,.slice p.ba p.bn p.bc,.int .i64 p.a,.int .i64 p.b] 131):=⟨_,rfl⟩
 have hbW:Below w.heap.size w W:=by rw[hW];exact Zbal.alloc (by simp) _
 have hzW:W.heap.size=w.heap.size+1+1:=by rw[hW,Go.Deep.nblk_alloc,Go.Deep.nblk_alloc]
 have HW:Hid (W=(w.alloc (.cells #[.bool false,.int .i64 0,.slice none 0 0] 76)).alloc (.cells #[.int .i64 p.k,.int .i64 p.n,.int .i64 p.op,.string p.nm,.slice p.ca p.cn p.cc,.slice p.ba p.bn p.bc,.int .i64 p.a,.int .i64 p.b] 131)):=hW
 have HP:Hid (PAt W (w.heap.size+1) p):=hid (by
  have:=Go.Deep.blk_alloc_new (w.alloc (.cells #[.bool false,.int .i64 0,.slice none 0 0] 76)) (.cells #[.int .i64 p.k,.int .i64 p.n,.int .i64 p.op,.string p.nm,.slice p.ca p.cn p.cc,.slice p.ba p.bn p.bc,.int .i64 p.a,.int .i64 p.b] 131)
  rw[World.size_alloc]at this
  rw[hW];exact this)
 have HV:Hid (BAt W w.heap.size [.bool false,.int .i64 0,.slice none 0 0] 76):=hid (by
  have:BAt (w.alloc (.cells #[.bool false,.int .i64 0,.slice none 0 0] 76)) w.heap.size [.bool false,.int .i64 0,.slice none 0 0] 76:=Go.Deep.blk_alloc_new w _
  rw[hW];exact this.alloc _)
 have HRW:Hid (RowAt W b (.slice (some ⟨g,0,none⟩) n cp) n xs):=hrow.below hbW
 have HL:Hid (Rep W xs l a):=Rep.below hbW l a hrl
 have HR:Hid (Rep W xs r c):=Rep.below hbW r c hrr
 have HC:Hid (Z2 W 0 p nd.conds):=hp.2.2.2.2.1.below hbW
 have HN:Hid (Zcf W 0 p nd.by_):=hp.2.2.2.2.2.below hbW
 have HST:Hid (StoV W (.slice sa ss.length sc) ss):=hsto.below hbW
 have HBW:Hid (Below w.heap.size w W):=hbW
 have HWF:Hid (wfT (.node x y nd l r)):=hwf
 have HWI:Hid (winT (.node x y nd l r)):=hwin
 have HDS:Hid (Dst (Zp ss)∧ss.length≤1000):=⟨hD,hN⟩
 have HKD:Hid (Zc (.node x y nd l r)≠0):=hkd
 have HF:Hid (p.k=nd.kind∧p.n=nd.n∧p.op=nd.op∧bl p.nm=nd.name∧p.a=a∧p.b=c):=⟨hp.1,hp.2.1,hp.2.2.1,hp.2.2.2.1,ha,hc⟩
 have HWT:Hid (ownW nd+wT l+wT r≤100000):=hwt
 have HIL:Hid (isNil l=false→Zc l≠0→SayC b (.slice (some ⟨g,0,none⟩) n cp) n xs ss tm l):=ihl
 have HIR:Hid (isNil r=false→Zc r≠0→SayC b (.slice (some ⟨g,0,none⟩) n cp) n xs ss tm r):=ihr
 have HK:Hid (nd.kind=2):=hk
 have HK3:Hid (p.k=2):=hid (by rw[hp.1,hk];rfl)
 clear hp hrow hrep hW hbW hrl hrr hwf hwin hD hN hkd ihl ihr ha hc hwt hk hsto
 obtain⟨q0,q1,q2,q3,q4,q5,q6,q7⟩:=PAt.all HP.out
 have v0:=HV.cell 0
 have v1:=HV.cell 1
 have v2:=HV.cell 2
 have f0:=HV.frozen 0
 have f1:=HV.frozen 1
 have f2:=HV.frozen 2
 simp only[Zget]at v0 v1 v2
 rw[HK3.out]at q0
 go_enter Tryz.func29,Tryz.ntmps29
 go_upto_region 2 with fail
 rw[←HW.out]
 clear c0 c1 c2 c3 c4 c5 c6 c7 hcell HW
 have HSY:Hid (sayT (Zp ss) tm (.node x y nd l r)=.vec (ZbA (Zp ss) nd (some nd.op) nd.n tm)):=hid (by
  unfold sayT
  have h0:=HK.out
  rw[if_neg (by omega),if_neg (by omega),if_pos h0])
 have HWN : Hid (∀ W', W' = W → Calls Tryz.prog 54 #[.slice sa ss.length sc, .agg #[.int .i64 2, .int .i64 p.n, .int .i64 p.op, .string p.nm, .slice p.ca p.cn p.cc, .slice p.ba p.bn p.bc, .int .i64 p.a, .int .i64 p.b], .int .i64 (p.op), .int .i64 p.n, .int .i64 tm] W' fun e w' => ∃ (ea : Option Addr) (en ec : Nat), e = .returned (.agg #[.bool false, .int .i64 0, .slice ea en ec]) ∧ Hid (ValV w' (.agg #[.bool false, .int .i64 0, .slice ea en ec]) (.vec (ZbA (Zp ss) nd (some nd.op) nd.n tm))) ∧ Below W.heap.size W w') := hid (by
   intro W' hW'
   rw[hW']
   have hcl:nd.conds.length≤100000:=by have h1:=HWT.out;have h2:=ZgK nd.conds;unfold ownW at h1;omega
   have hh:=Zli W (.slice sa ss.length sc) ss p nd HF.2.2.2.1 HC.out hcl ((some nd.op)) (p.op) (Or.inr ⟨nd.op,HWF.2.1,rfl,HF.2.2.1⟩) (nd.n) tm (HWF.2.2.2.2.1) ((HWI.1 HK.out).2) HTM.1 HTM.2 HST.out
   rw[HK3.out,←HF.2.1]at hh
   refine hh.mono ?_
   rintro e w1 ⟨vv,zs,rfl,HE,HM,_,hb1⟩
   obtain⟨ea,ec,rfl⟩:=Zj HE.own
   refine⟨ea,zs.length,ec,rfl,hid (ValV.of_els HE.out ?_),hb1⟩
   rw[HM.out,HF.2.1])
 clear v0 v1 v2 f0 f1 f2
 go_wp2_with fail
 refine(HWN.out _ rfl).mono ?_
 rintro e w1 ⟨ea,en,ec,rfl,HE,hb1⟩
 have HV1:=hid (HV.below hb1)
 have HB1:Hid (Below w.heap.size w w1):=HBW.trans (hb1.mono HBW.size)
 have v0:=HV1.cell 0
 have v1:=HV1.cell 1
 have v2:=HV1.cell 2
 have f0:=HV1.frozen 0
 have f1:=HV1.frozen 1
 have f2:=HV1.frozen 2
 simp only[Zget]at v0 v1 v2
 have HD:=hid (Zee (V:=sayT (Zp ss) tm (.node x y nd l r)) HV1.out HB1.out (by rw[HSY.out];exact HE.out))
 clear hb1 HE HWN q0 q1 q2 q3 q4 q5 q6 q7
 go_wp2
 change bodyPost _ _ _ _ _ (set3 w1 w.heap.size (.bool false) (.int .i64 0) (.slice ea en ec))
 have s0:=HD.1.cell 0
 have s1:=HD.1.cell 1
 have s2:=HD.1.cell 2
 simp only[Zget]at s0 s1 s2
 have HEX:=hid HD.2.1
 have HBX:=hid HD.2.2
 clear HD
 generalize set3 w1 w.heap.size (.bool false) (.int .i64 0) (.slice ea en ec)=WX at *
 exact bodyPost_ret (v:=.agg #[.bool false,.int .i64 0,.slice ea en ec]) (by simp[results,Tryz.results29,go_sem,s0,s1,s2]) rfl ⟨.agg #[.bool false,.int .i64 0,.slice ea en ec],rfl,HEX,HBX.out⟩
set_option linter.unusedSimpArgs false in
set_option maxRecDepth 100000 in
set_option maxHeartbeats 4000000 in
theorem ZrR{b:Nat}{pv:Value}{n:Nat}{xs:List Value}{ss:List SZ}{tm:Int}(ht0 : -1000000≤tm)(ht1:tm≤1000000){x y:Nat}{nd:Nd}{l r:Tr}(hwf:wfT (.node x y nd l r))(hwt:wT (.node x y nd l r)≤100000)(hwin:winT (.node x y nd l r))(hD:Dst (Zp ss))(hN:ss.length≤1000)(hkd:Zc (.node x y nd l r)≠0)(ihl:isNil l=false→Zc l≠0→SayC b pv n xs ss tm l)(ihr:isNil r=false→Zc r≠0→SayC b pv n xs ss tm r)(hk:nd.kind=3):SayC b pv n xs ss tm (.node x y nd l r):=by
 intro i w sv hrow hrep hsto
 have HTM:Hid (-1000000≤tm∧tm≤1000000):=⟨ht0,ht1⟩
 clear ht0 ht1
 obtain⟨sa,sc,rfl⟩:=Zj hsto.own
 obtain⟨g,cp,p,a,c,rfl,hgl,hi,hp,ha,hc,hrl,hrr,c0,c1,c2,c3,c4,c5,c6,c7⟩:=Rep.at hrow.own hrep
 have hcell:=hrow.cell
 have hcb:b<w.heap.size:=World.block_lt_of_cell? _ _ hcell
 obtain⟨W,hW⟩:∃W,W=(w.alloc (.cells #[.bool false,.int .i64 0,.slice none 0 0] 76)).alloc (.cells #[.int .i64 p.k,.int .i64 p.n,.int .i64 p.op,.string p.nm,.slice p.ca p.cn p.cc,.slice p.ba p.bn p.bc,.int .i64 p.a,.int .i64 p.b] 131):=⟨_,rfl⟩
 have hbW:Below w.heap.size w W:=by rw[hW];exact Zbal.alloc (by simp) _
 have hzW:W.heap.size=w.heap.size+1+1:=by rw[hW,Go.Deep.nblk_alloc,Go.Deep.nblk_alloc]
 have HW:Hid (W=(w.alloc (.cells #[.bool false,.int .i64 0,.slice none 0 0] 76)).alloc (.cells #[.int .i64 p.k,.int .i64 p.n,.int .i64 p.op,.string p.nm,.slice p.ca p.cn p.cc,.slice p.ba p.bn p.bc,.int .i64 p.a,.int .i64 p.b] 131)):=hW
 have HP:Hid (PAt W (w.heap.size+1) p):=hid (by
  have:=Go.Deep.blk_alloc_new (w.alloc (.cells #[.bool false,.int .i64 0,.slice none 0 0] 76)) (.cells #[.int .i64 p.k,.int .i64 p.n,.int .i64 p.op,.string p.nm,.slice p.ca p.cn p.cc,.slice p.ba p.bn p.bc,.int .i64 p.a,.int .i64 p.b] 131)
  rw[World.size_alloc]at this
  rw[hW];exact this)
 have HV:Hid (BAt W w.heap.size [.bool false,.int .i64 0,.slice none 0 0] 76):=hid (by
  have:BAt (w.alloc (.cells #[.bool false,.int .i64 0,.slice none 0 0] 76)) w.heap.size [.bool false,.int .i64 0,.slice none 0 0] 76:=Go.Deep.blk_alloc_new w _
  rw[hW];exact this.alloc _)
 have HRW:Hid (RowAt W b (.slice (some ⟨g,0,none⟩) n cp) n xs):=hrow.below hbW
 have HL:Hid (Rep W xs l a):=Rep.below hbW l a hrl
 have HR:Hid (Rep W xs r c):=Rep.below hbW r c hrr
 have HC:Hid (Z2 W 0 p nd.conds):=hp.2.2.2.2.1.below hbW
 have HN:Hid (Zcf W 0 p nd.by_):=hp.2.2.2.2.2.below hbW
 have HST:Hid (StoV W (.slice sa ss.length sc) ss):=hsto.below hbW
 have HBW:Hid (Below w.heap.size w W):=hbW
 have HWF:Hid (wfT (.node x y nd l r)):=hwf
 have HWI:Hid (winT (.node x y nd l r)):=hwin
 have HDS:Hid (Dst (Zp ss)∧ss.length≤1000):=⟨hD,hN⟩
 have HKD:Hid (Zc (.node x y nd l r)≠0):=hkd
 have HF:Hid (p.k=nd.kind∧p.n=nd.n∧p.op=nd.op∧bl p.nm=nd.name∧p.a=a∧p.b=c):=⟨hp.1,hp.2.1,hp.2.2.1,hp.2.2.2.1,ha,hc⟩
 have HWT:Hid (ownW nd+wT l+wT r≤100000):=hwt
 have HIL:Hid (isNil l=false→Zc l≠0→SayC b (.slice (some ⟨g,0,none⟩) n cp) n xs ss tm l):=ihl
 have HIR:Hid (isNil r=false→Zc r≠0→SayC b (.slice (some ⟨g,0,none⟩) n cp) n xs ss tm r):=ihr
 have HK:Hid (nd.kind=3):=hk
 have HK3:Hid (p.k=3):=hid (by rw[hp.1,hk];rfl)
 clear hp hrow hrep hW hbW hrl hrr hwf hwin hD hN hkd ihl ihr ha hc hwt hk hsto
 obtain⟨q0,q1,q2,q3,q4,q5,q6,q7⟩:=PAt.all HP.out
 have v0:=HV.cell 0
 have v1:=HV.cell 1
 have v2:=HV.cell 2
 have f0:=HV.frozen 0
 have f1:=HV.frozen 1
 have f2:=HV.frozen 2
 simp only[Zget]at v0 v1 v2
 rw[HK3.out]at q0
 go_enter Tryz.func29,Tryz.ntmps29
 go_upto_region 2 with fail
 rw[←HW.out]
 clear c0 c1 c2 c3 c4 c5 c6 c7 hcell HW
 have HSY:Hid (sayT (Zp ss) tm (.node x y nd l r)=negV (sayT (Zp ss) tm l)):=hid (by
  have h0:=HK.out
  rw[sayT,if_neg (by omega),if_neg (by omega),if_neg (by omega),if_pos h0])
 have HKL:Hid (Zc l≠0):=hid (by
  have h0:=HKD.out
  have h1:=HK.out
  unfold Zc at h0
  intro hl
  rw[hl]at h0
  simp[h1]at h0)
 have HPL:Hid (SayC b (.slice (some ⟨g,0,none⟩) n cp) n xs ss tm l):=hid (HIL.out (HWF.2.2.2.2.2.2.1 (by have:=HK.out;omega)) HKL.out)
 rw[HF.2.2.2.2.1]at q6
 go_wp2_with fail
 refine(HPL.out a W (.slice sa ss.length sc) HRW.out HL.out HST.out).mono ?_
 rintro e w1 ⟨va,rfl,HVL,hb1⟩
 obtain⟨bb,nn,ea,en,ec,rfl,hen⟩:=HVL.shape
 have HEN:=hid hen
 have HV1:=hid (HV.below hb1)
 have HP1:Hid (PAt w1 (w.heap.size+1) p):=PAt.kept HP.out (hb1.block _ (PAt.lt HP.out))
 have HB1:Hid (Below W.heap.size W w1):=hb1
 clear hb1 hen q0 q1 q2 q3 q4 q5 q6 q7 v0 v1 v2 f0 f1 f2 HPL
 go_upto_region 10 with fail
 refine Z1 fun W2 hW2=>?_
 have HA2:Hid (BAt W2 w1.heap.size [.bool bb,.int .i64 nn,.slice ea en ec] 76):=hid (by rw[hW2];exact Go.Deep.blk_alloc_new w1 _)
 have hb2:Below w1.heap.size w1 W2:=by rw[hW2];exact Zbal
 have HV2:=hid (HV1.below hb2)
 have HP2:Hid (PAt W2 (w.heap.size+1) p):=PAt.kept HP1.out (hb2.block _ (PAt.lt HP1.out))
 have HVL2:=hid (HVL.below hb2)
 have HB2:Hid (Below W.heap.size W W2):=HB1.trans (hb2.mono HB1.size)
 have HBW2:Hid (Below w.heap.size w W2):=HBW.trans (HB2.mono HBW.size)
 clear hW2 hb2 HV1 HP1 HVL HB1
 obtain⟨q0,q1,q2,q3,q4,q5,q6,q7⟩:=PAt.all HP2.out
 rw[HK3.out]at q0
 have a0:=HA2.cell 0
 have a1:=HA2.cell 1
 have a2:=HA2.cell 2
 simp only[Zget]at a0 a1 a2
 go_wp2_with fail
 refine(Zp6 _ _ _ HVL2.out (ZeT HDS.out tm l)).mono ?_
 rintro e w3 ⟨v3,rfl,HE3,hb3⟩
 obtain⟨b3,n3,e3,m3,c3,rfl,h9⟩:=HE3.shape
 clear h9
 have HB3:Hid (Below W2.heap.size W2 w3):=hb3
 clear hb3 q0 q1 q2 q3 q4 q5 q6 q7 a0 a1 a2
 have HV3:=hid (HV2.below HB3.out)
 have v0:=HV3.cell 0
 have v1:=HV3.cell 1
 have v2:=HV3.cell 2
 have f0:=HV3.frozen 0
 have f1:=HV3.frozen 1
 have f2:=HV3.frozen 2
 simp only[Zget]at v0 v1 v2
 have HD:=hid (Zee (V:=sayT (Zp ss) tm (.node x y nd l r)) HV3.out (HBW2.trans (HB3.mono HBW2.size)) (by rw[HSY.out];exact HE3.out))
 go_wp2
 change bodyPost _ _ _ _ _ (set3 w3 w.heap.size (.bool b3) (.int .i64 n3) (.slice e3 m3 c3))
 have s0:=HD.1.cell 0
 have s1:=HD.1.cell 1
 have s2:=HD.1.cell 2
 simp only[Zget]at s0 s1 s2
 have HEX:=hid HD.2.1
 have HBX:=hid HD.2.2
 clear HD
 generalize set3 w3 w.heap.size (.bool b3) (.int .i64 n3) (.slice e3 m3 c3)=WX at *
 exact bodyPost_ret (v:=.agg #[.bool b3,.int .i64 n3,.slice e3 m3 c3]) (by simp[results,Tryz.results29,go_sem,s0,s1,s2]) rfl ⟨.agg #[.bool b3,.int .i64 n3,.slice e3 m3 c3],rfl,HEX,HBX.out⟩
set_option linter.unusedSimpArgs false in
set_option maxRecDepth 100000 in
set_option maxHeartbeats 4000000 in
theorem ZrQ{b:Nat}{pv:Value}{n:Nat}{xs:List Value}{ss:List SZ}{tm:Int}(ht0 : -1000000≤tm)(ht1:tm≤1000000){x y:Nat}{nd:Nd}{l r:Tr}(hwf:wfT (.node x y nd l r))(hwt:wT (.node x y nd l r)≤100000)(hwin:winT (.node x y nd l r))(hD:Dst (Zp ss))(hN:ss.length≤1000)(hkd:Zc (.node x y nd l r)≠0)(ihl:isNil l=false→Zc l≠0→SayC b pv n xs ss tm l)(ihr:isNil r=false→Zc r≠0→SayC b pv n xs ss tm r)(hk:nd.kind=5):SayC b pv n xs ss tm (.node x y nd l r):=by
 intro i w sv hrow hrep hsto
 have HTM:Hid (-1000000≤tm∧tm≤1000000):=⟨ht0,ht1⟩
 clear ht0 ht1
 obtain⟨sa,sc,rfl⟩:=Zj hsto.own
 obtain⟨g,cp,p,a,c,rfl,hgl,hi,hp,ha,hc,hrl,hrr,c0,c1,c2,c3,c4,c5,c6,c7⟩:=Rep.at hrow.own hrep
 have hcell:=hrow.cell
 have hcb:b<w.heap.size:=World.block_lt_of_cell? _ _ hcell
 obtain⟨W,hW⟩:∃W,W=(w.alloc (.cells #[.bool false,.int .i64 0,.slice none 0 0] 76)).alloc (.cells #[.int .i64 p.k,.int .i64 p.n,.int .i64 p.op,.string p.nm,.slice p.ca p.cn p.cc,.slice p.ba p.bn p.bc,.int .i64 p.a,.int .i64 p.b] 131):=⟨_,rfl⟩
 have hbW:Below w.heap.size w W:=by rw[hW];exact Zbal.alloc (by simp) _
 have hzW:W.heap.size=w.heap.size+1+1:=by rw[hW,Go.Deep.nblk_alloc,Go.Deep.nblk_alloc]
 have HW:Hid (W=(w.alloc (.cells #[.bool false,.int .i64 0,.slice none 0 0] 76)).alloc (.cells #[.int .i64 p.k,.int .i64 p.n,.int .i64 p.op,.string p.nm,.slice p.ca p.cn p.cc,.slice p.ba p.bn p.bc,.int .i64 p.a,.int .i64 p.b] 131)):=hW
 have HP:Hid (PAt W (w.heap.size+1) p):=hid (by
  have:=Go.Deep.blk_alloc_new (w.alloc (.cells #[.bool false,.int .i64 0,.slice none 0 0] 76)) (.cells #[.int .i64 p.k,.int .i64 p.n,.int .i64 p.op,.string p.nm,.slice p.ca p.cn p.cc,.slice p.ba p.bn p.bc,.int .i64 p.a,.int .i64 p.b] 131)
  rw[World.size_alloc]at this
  rw[hW];exact this)
 have HV:Hid (BAt W w.heap.size [.bool false,.int .i64 0,.slice none 0 0] 76):=hid (by
  have:BAt (w.alloc (.cells #[.bool false,.int .i64 0,.slice none 0 0] 76)) w.heap.size [.bool false,.int .i64 0,.slice none 0 0] 76:=Go.Deep.blk_alloc_new w _
  rw[hW];exact this.alloc _)
 have HRW:Hid (RowAt W b (.slice (some ⟨g,0,none⟩) n cp) n xs):=hrow.below hbW
 have HL:Hid (Rep W xs l a):=Rep.below hbW l a hrl
 have HR:Hid (Rep W xs r c):=Rep.below hbW r c hrr
 have HC:Hid (Z2 W 0 p nd.conds):=hp.2.2.2.2.1.below hbW
 have HN:Hid (Zcf W 0 p nd.by_):=hp.2.2.2.2.2.below hbW
 have HST:Hid (StoV W (.slice sa ss.length sc) ss):=hsto.below hbW
 have HBW:Hid (Below w.heap.size w W):=hbW
 have HWF:Hid (wfT (.node x y nd l r)):=hwf
 have HWI:Hid (winT (.node x y nd l r)):=hwin
 have HDS:Hid (Dst (Zp ss)∧ss.length≤1000):=⟨hD,hN⟩
 have HKD:Hid (Zc (.node x y nd l r)≠0):=hkd
 have HF:Hid (p.k=nd.kind∧p.n=nd.n∧p.op=nd.op∧bl p.nm=nd.name∧p.a=a∧p.b=c):=⟨hp.1,hp.2.1,hp.2.2.1,hp.2.2.2.1,ha,hc⟩
 have HWT:Hid (ownW nd+wT l+wT r≤100000):=hwt
 have HIL:Hid (isNil l=false→Zc l≠0→SayC b (.slice (some ⟨g,0,none⟩) n cp) n xs ss tm l):=ihl
 have HIR:Hid (isNil r=false→Zc r≠0→SayC b (.slice (some ⟨g,0,none⟩) n cp) n xs ss tm r):=ihr
 have HK:Hid (nd.kind=5):=hk
 have HK3:Hid (p.k=5):=hid (by rw[hp.1,hk];rfl)
 clear hp hrow hrep hW hbW hrl hrr hwf hwin hD hN hkd ihl ihr ha hc hwt hk hsto
 obtain⟨q0,q1,q2,q3,q4,q5,q6,q7⟩:=PAt.all HP.out
 have v0:=HV.cell 0
 have v1:=HV.cell 1
 have v2:=HV.cell 2
 have f0:=HV.frozen 0
 have f1:=HV.frozen 1
 have f2:=HV.frozen 2
 simp only[Zget]at v0 v1 v2
 rw[HK3.out]at q0
 go_enter Tryz.func29,Tryz.ntmps29
 go_upto_region 2 with fail
 rw[←HW.out]
 clear c0 c1 c2 c3 c4 c5 c6 c7 hcell HW
 have HSY:Hid (sayT (Zp ss) tm (.node x y nd l r)=.vec (Zcx nd.op nd.by_ (ZcJ (sayT (Zp ss) tm l)))):=hid (by
  have h0:=HK.out
  rw[sayT,if_neg (by omega),if_neg (by omega),if_neg (by omega),if_neg (by omega),if_pos h0])
 have HKL:Hid (Zc l≠0):=hid (by
  have h0:=HKD.out
  have h1:=HK.out
  unfold Zc at h0
  intro hl
  rw[hl]at h0
  simp[h1]at h0)
 have HPL:Hid (SayC b (.slice (some ⟨g,0,none⟩) n cp) n xs ss tm l):=hid (HIL.out (HWF.2.2.2.2.2.2.1 (by have:=HK.out;omega)) HKL.out)
 rw[HF.2.2.2.2.1]at q6
 go_wp2_with fail
 refine(HPL.out a W (.slice sa ss.length sc) HRW.out HL.out HST.out).mono ?_
 rintro e w1 ⟨va,rfl,HVL,hb1⟩
 obtain⟨bb,nn,ea,en,ec,rfl,hen⟩:=HVL.shape
 have HEN:=hid hen
 have HV1:=hid (HV.below hb1)
 have HP1:Hid (PAt w1 (w.heap.size+1) p):=PAt.kept HP.out (hb1.block _ (PAt.lt HP.out))
 have HB1:Hid (Below W.heap.size W w1):=hb1
 clear hb1 hen q0 q1 q2 q3 q4 q5 q6 q7 v0 v1 v2 f0 f1 f2 HPL
 go_upto_region 10 with fail
 refine Z1 fun W2 hW2=>?_
 have HA2:Hid (BAt W2 w1.heap.size [.bool bb,.int .i64 nn,.slice ea en ec] 76):=hid (by rw[hW2];exact Go.Deep.blk_alloc_new w1 _)
 have hb2:Below w1.heap.size w1 W2:=by rw[hW2];exact Zbal
 have HV2:=hid (HV1.below hb2)
 have HP2:Hid (PAt W2 (w.heap.size+1) p):=PAt.kept HP1.out (hb2.block _ (PAt.lt HP1.out))
 have HVL2:=hid (HVL.below hb2)
 have HB2:Hid (Below W.heap.size W W2):=HB1.trans (hb2.mono HB1.size)
 have HBW2:Hid (Below w.heap.size w W2):=HBW.trans (HB2.mono HBW.size)
 clear hW2 hb2 HV1 HP1 HVL HB1
 obtain⟨q0,q1,q2,q3,q4,q5,q6,q7⟩:=PAt.all HP2.out
 rw[HK3.out]at q0
 have a0:=HA2.cell 0
 have a1:=HA2.cell 1
 have a2:=HA2.cell 2
 simp only[Zget]at a0 a1 a2
 have HKV:Hid (∃lv,sayT (Zp ss) tm l=.vec lv):=hid (by
  have hk2:Zc l=2:=by
   have h0:=HKD.out
   have h1:=HK.out
   unfold Zc at h0
   refine Classical.byContradiction fun hn=>?_
   simp[h1,hn]at h0
  have h3:=Zft (Zp ss) tm l HWF.2.2.2.2.2.2.2.2.2.2.1 (HWF.2.2.2.2.2.2.1 (by have:=HK.out;omega)) HKL.out
  rw[hk2]at h3
  cases hs:sayT (Zp ss) tm l with
  | sc m=>rw[hs]at h3;cases h3
  | vec lv=>exact⟨lv,rfl⟩)
 obtain⟨lv,hlv⟩:=HKV.out
 obtain⟨bs,hbn,hbo,hbs⟩:=HN.zero
 have HGR : Hid (∀ W', W' = W2 → Calls Tryz.prog 56 #[.int .i64 p.op, .slice p.ba p.bn p.bc, .agg #[.bool bb, .int .i64 nn, .slice ea en ec]] W' fun e w' => ∃ (b3 : Bool) (n3 : Int) (e3 : Option Addr) (m3 c3 : Nat), e = .returned (.agg #[.bool b3, .int .i64 n3, .slice e3 m3 c3]) ∧ Hid (ValV w' (.agg #[.bool b3, .int .i64 n3, .slice e3 m3 c3]) (.vec (Zcx nd.op nd.by_ (ZcJ (sayT (Zp ss) tm l))))) ∧ Hid (Below W2.heap.size W2 w')) := hid (by
   intro W' hW'
   rw[hW',HF.2.2.1,hbn,hlv]
   have hnl:bs.length≤100000:=by have h1:=HWT.out;have h2:=Zhq nd.by_;rw[←hbs,List.length_map]at h2;unfold ownW at h1;rw[←hbs]at h1;omega
   have hv2:=HVL2.out
   rw[hlv]at hv2
   have hk9:=ZeT HDS.out tm l
   rw[hlv]at hk9
   refine(Zog nd.op (HWF.2.2.2.1 HK.out) (.slice p.ba bs.length p.bc) _ bs lv W2 ⟨Zw hbo HB2.out,hnl⟩ hv2 hk9.2).mono ?_
   rintro e w3 ⟨v3,rfl,HE3,hb3⟩
   obtain⟨b3,n3,e3,m3,c3,rfl,_⟩:=HE3.shape
   rw[hbs]at HE3
   exact⟨b3,n3,e3,m3,c3,rfl,HE3,hb3⟩)
 clear hlv hbn hbo hbs HKV
 go_wp2_with fail
 refine(HGR.out _ rfl).mono ?_
 rintro e w3 ⟨b3,n3,e3,m3,c3,rfl,HE3,HB3⟩
 clear q0 q1 q2 q3 q4 q5 q6 q7 a0 a1 a2 HGR
 have HV3:=hid (HV2.below HB3.out)
 have v0:=HV3.cell 0
 have v1:=HV3.cell 1
 have v2:=HV3.cell 2
 have f0:=HV3.frozen 0
 have f1:=HV3.frozen 1
 have f2:=HV3.frozen 2
 simp only[Zget]at v0 v1 v2
 have HD:=hid (Zee (V:=sayT (Zp ss) tm (.node x y nd l r)) HV3.out (HBW2.trans (HB3.mono HBW2.size)) (by rw[HSY.out];exact HE3.out))
 go_wp2
 change bodyPost _ _ _ _ _ (set3 w3 w.heap.size (.bool b3) (.int .i64 n3) (.slice e3 m3 c3))
 have s0:=HD.1.cell 0
 have s1:=HD.1.cell 1
 have s2:=HD.1.cell 2
 simp only[Zget]at s0 s1 s2
 have HEX:=hid HD.2.1
 have HBX:=hid HD.2.2
 clear HD
 generalize set3 w3 w.heap.size (.bool b3) (.int .i64 n3) (.slice e3 m3 c3)=WX at *
 exact bodyPost_ret (v:=.agg #[.bool b3,.int .i64 n3,.slice e3 m3 c3]) (by simp[results,Tryz.results29,go_sem,s0,s1,s2]) rfl ⟨.agg #[.bool b3,.int .i64 n3,.slice e3 m3 c3],rfl,HEX,HBX.out⟩
end Go.Proofs.YtpbemaaghbbocaaGreatDoor

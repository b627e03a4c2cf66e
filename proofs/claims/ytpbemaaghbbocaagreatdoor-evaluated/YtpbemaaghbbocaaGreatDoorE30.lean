/- Parts. -/
import Derived.Test.YtpbemaaghbbocaaGreatDoorE29
import Derived.Test.YtpbemaaghbbocaaGreatDoorE11
import Derived.Test.YtpbemaaghbbocaaGreatDoorE18
import Derived.Test.YtpbemaaghbbocaaGreatDoorE39
namespace Go.Proofs.YtpbemaaghbbocaaGreatDoor
open Go.RowKit LS
structure MOk (x mb gb:Nat) (sv:Value) (ss:List Srs) (tm:Int) (w:World):Prop where
 m:BAt w mb [sv,.int .i64 tm,.pointer (some ⟨gb,0,none⟩)] 188
 g:BAt w gb [.map (some x)] 250
 map:MapX w x
 sto:StoP w sv ss
theorem MOk.belX{x mb gb:Nat}{sv:Value}{ss:List Srs}{tm:Int}{w w':World}(h:MOk x mb gb sv ss tm w)(hb:BelX x w.heap.size w w')(hm:MapX w' x):MOk x mb gb sv ss tm w':=by
 have hk:=Zv.belX hb h.map
 exact⟨hk _ _ _ _ h.m,hk _ _ _ _ h.g,hm,h.sto.keepsC hk⟩
theorem MOk.below{x mb gb:Nat}{sv:Value}{ss:List Srs}{tm:Int}{w w':World}(h:MOk x mb gb sv ss tm w)(hb:Below w.heap.size w w'):MOk x mb gb sv ss tm w':=by
 refine h.belX (BelX.of hb) ?_
 obtain⟨es,cl,hx⟩:=h.map
 exact⟨es,cl,(hb.block x (Array.getElem?_eq_some_iff.1 hx).1).trans hx⟩
theorem Zo.keepsC{w w':World}{t:Tr}{v:Value}(h:Zo w t v)(hk:Zv w w'):Zo w' t v:=Zo.mono (fun _ _ h=>h.keepsC hk) (fun _ _ h=>h.keepsC hk) t v h
def SayP(x mb gb:Nat)(sv:Value)(ss:List Srs)(tm:Int)(t:Tr)(w:World)(e:Ending)(w':World):Prop:=∃v,e=.returned v∧Hid (ValP w' v (sayT (ss.map Srs.ser) tm t))∧Hid (MOk x mb gb sv ss tm w')∧Hid (BelX x w.heap.size w w')
def ZbM(x mb gb:Nat)(sv:Value)(ss:List Srs)(tm:Int)(t:Tr):Prop:=∀(pv:Value) (w:World),MOk x mb gb sv ss tm w→Zo w t pv→Calls Tryz.prog 87 #[.pointer (some ⟨mb,0,none⟩),pv] w (SayP x mb gb sv ss tm t w)
variable {x mb gb:Nat} {sv:Value} {ss:List Srs} {tm:Int}
set_option maxHeartbeats 2000000 in
theorem ZrZ(nd:Nd)(l r:Tr)(a b:Nat)(hk:nd.kind=0)(hn:vOk nd.n):ZbM x mb gb sv ss tm (.node a b nd l r):=by
 intro pv w hM hP
 have hpv:pv=.iface 152 (.agg #[.int .i64 nd.n]):=by
  rcases hP with ⟨_,h⟩|⟨h,_⟩|⟨h,_⟩|⟨h,_⟩|⟨h,_⟩|⟨h,_⟩
  ·exact h
  all_goals omega
 subst hpv
 have HS:Hid (sayT (ss.map Srs.ser) tm (.node a b nd l r)=.sc nd.n):=hid (by unfold sayT;rw[if_pos hk])
 have HM:Hid (MOk x mb gb sv ss tm w):=hM
 have HN:Hid (vOk nd.n):=hn
 clear hP hM hn
 have h1:=Zib (.agg #[.int .i64 nd.n])
 go_enter Tryz.func87,Tryz.ntmps87
 go_wp2
 go_ret
 have hb:∀o,Below w.heap.size w (w.alloc o):=fun o=>Zbal
 exact⟨_,rfl,hid (by rw[HS.out];exact⟨rfl,HN.out⟩),hid (HM.below (hb _)),hid (BelX.of (hb _))⟩
set_option maxHeartbeats 4000000 in
theorem ZrY(nd:Nd)(l r:Tr)(a b:Nat)(hk:nd.kind=3)(ihl:ZbM x mb gb sv ss tm l):ZbM x mb gb sv ss tm (.node a b nd l r):=by
 intro pv w hM hP
 obtain⟨y,hpv,hy⟩:∃y,pv=.iface 154 (.agg #[y])∧Zo w l y:=by
  rcases hP with ⟨h,_⟩|⟨h,_⟩|⟨h,_⟩|⟨_,y,h1,h2⟩|⟨h,_⟩|⟨h,_⟩
  ·omega
  ·omega
  ·omega
  ·exact⟨y,h1,h2⟩
  ·omega
  ·omega
 subst hpv
 obtain⟨ty,uv,rfl⟩:=hy.shape
 have HS:Hid (sayT (ss.map Srs.ser) tm (.node a b nd l r)=negV (sayT (ss.map Srs.ser) tm l)):=hid (by rw[sayT,if_neg (by omega),if_neg (by omega),if_neg (by omega),if_pos hk])
 have HM:Hid (MOk x mb gb sv ss tm w):=hM
 have HY:Hid (Zo w l (.iface ty uv)):=hy
 have HI:Hid (ZbM x mb gb sv ss tm l):=ihl
 clear hP hM hy ihl
 have h1:=Zia (.agg #[.iface ty uv])
 have h2:=Zh9 (.agg #[.iface ty uv])
 go_enter Tryz.func87,Tryz.ntmps87
 go_wp2_with fail
 refine Zbf fun W hW=>?_
 have hbW:Below w.heap.size w W:=by rw[hW];exact Zbal
 clear hW
 refine(HI.out _ W (HM.below hbW) (HY.below hbW)).mono ?_
 rintro e w5 ⟨v5,rfl,HV5,HM5,HB5⟩
 have HBw:Hid (BelX x w.heap.size w w5):=hid ((BelX.of hbW).trans (HB5.mono hbW.size))
 clear hbW HB5
 go_wp2_with fail
 refine(ZqV v5 _ w5 HV5.out).mono ?_
 rintro e w6 ⟨v6,rfl,HV6,hb6⟩
 have HM6:=hid (HM5.below hb6)
 have HB6:Hid (BelX x w.heap.size w w6):=hid (HBw.trans ((BelX.of hb6).mono HBw.size))
 clear hb6
 go_wp2
 go_ret
 exact⟨_,rfl,hid (by rw[HS.out];exact HV6.out),HM6,HB6⟩
def VecP(x mb gb:Nat)(sv:Value)(ss:List Srs)(tm:Int)(t:Tr)(w:World)(e:Ending)(w':World):Prop:=∃s l is,e=.returned s∧Hid (VecV w' s l is∧sayT (ss.map Srs.ser) tm t=.vec l)∧Hid (MOk x mb gb sv ss tm w')∧Hid (BelX x w.heap.size w w')
set_option maxHeartbeats 4000000 in
theorem ZhM(t:Tr)(hv:Zc7 (sayT (ss.map Srs.ser) tm t)=true)(ih:ZbM x mb gb sv ss tm t)(ty:TypeId)(uv:Value)(w:World)(hM:MOk x mb gb sv ss tm w)(hP:Zo w t (.iface ty uv)):Calls Tryz.prog 132 #[.pointer (some ⟨mb,0,none⟩),.iface ty uv] w (VecP x mb gb sv ss tm t w):=by
 have HC:=hid (ih _ w hM hP)
 obtain⟨l,hl⟩:∃l,sayT (ss.map Srs.ser) tm t=.vec l:=by
  cases h:sayT (ss.map Srs.ser) tm t with
  | sc n=>rw[h]at hv;cases hv
  | vec l=>exact⟨l,rfl⟩
 have HL:Hid (sayT (ss.map Srs.ser) tm t=.vec l):=hl
 clear hM hP hv hl ih
 go_enter Tryz.func132,Tryz.ntmps132
 go_wp2_with fail
 refine HC.mono ?_
 rintro e w5 ⟨v5,rfl,HV5,HM5,HB5⟩
 have hv5:=HV5.out
 rw[HL.out]at hv5
 obtain⟨s,is,rfl,hvv⟩:=hv5
 have HVV:Hid (VecV w5 s l is):=hvv
 obtain⟨sa,scp,rfl⟩:=Zj hvv.row
 clear hvv HV5
 have h1:=asVV (.slice sa is.length scp)
 go_wp2
 go_ret
 exact⟨_,l,is,rfl,hid ⟨HVV.out,HL.out⟩,HM5,HB5⟩
def EitP(x mb gb:Nat)(sv:Value)(ss:List Srs)(tm:Int)(t u:Tr)(w:World)(e:Ending)(w':World):Prop:=∃s l is,e=.returned s∧Hid (VecV w' s l is∧(if (ZcJ (sayT (ss.map Srs.ser) tm t)).isEmpty then sayT (ss.map Srs.ser) tm u else sayT (ss.map Srs.ser) tm t)=.vec l)∧Hid (MOk x mb gb sv ss tm w')∧Hid (BelX x w.heap.size w w')
set_option maxHeartbeats 4000000 in
theorem ZmY(t u:Tr)(ht:Zc7 (sayT (ss.map Srs.ser) tm t)=true)(hu:Zc7 (sayT (ss.map Srs.ser) tm u)=true)(iht:ZbM x mb gb sv ss tm t)(ihu:ZbM x mb gb sv ss tm u)(ty uy:TypeId)(tv uv:Value)(w:World)(hM:MOk x mb gb sv ss tm w)(hPt:Zo w t (.iface ty tv))(hPu:Zo w u (.iface uy uv)) :
  Calls Tryz.prog 126 #[.pointer (some ⟨mb,0,none⟩),.iface ty tv,.iface uy uv] w (EitP x mb gb sv ss tm t u w):=by
 have HC:=hid (ZhM t ht iht ty tv w hM hPt)
 have HU:Hid (∀W,MOk x mb gb sv ss tm W→Zo W u (.iface uy uv)→Calls Tryz.prog 132 #[.pointer (some ⟨mb,0,none⟩),.iface uy uv] W (VecP x mb gb sv ss tm u W)):=hid (fun W h1 h2=>ZhM u hu ihu uy uv W h1 h2)
 have HPU:Hid (Zo w u (.iface uy uv)):=hPu
 have HMX:Hid (MapX w x):=hid hM.map
 clear hM hPt hPu ht hu iht ihu
 go_enter Tryz.func126,Tryz.ntmps126
 go_wp2_with fail
 refine HC.mono ?_
 rintro e w5 ⟨s,l,is,rfl,HV5,HM5,HB5⟩
 obtain⟨sa,scp,rfl⟩:=Zj HV5.1.row
 have hll:is.length=l.length:=HV5.1.len'.symm
 have hlen:=HV5.1.len
 by_cases h0:is.length=0
 ·have HE:Hid ((ZcJ (sayT (ss.map Srs.ser) tm t)).isEmpty=true):=hid (by rw[HV5.2];show l.isEmpty=true;rw[List.isEmpty_iff];exact List.eq_nil_of_length_eq_zero (by omega))
  rw[h0]
  have hk:=Zv.belX HB5.out HMX.out
  have HP5:Hid (Zo w5 u (.iface uy uv)):=hid (HPU.keepsC hk)
  clear hk hll hlen h0
  go_wp2_with fail
  refine(HU.out w5 HM5.out HP5.out).mono ?_
  rintro e w6 ⟨s6,l6,is6,rfl,HV6,HM6,HB6⟩
  have HBw:Hid (BelX x w.heap.size w w6):=hid (HB5.trans (HB6.mono HB5.size))
  go_wp2
  go_ret
  exact⟨_,l6,is6,rfl,hid ⟨HV6.1,by rw[if_pos HE.out];exact HV6.2⟩,HM6,HBw⟩
 ·have HE:Hid (¬(ZcJ (sayT (ss.map Srs.ser) tm t)).isEmpty=true):=hid (by rw[HV5.2];show ¬l.isEmpty=true;rw[List.isEmpty_iff];intro e;subst e;exact h0 hll)
  have hpos:(0:Int)<(is.length:Int):=by omega
  clear hll
  go_wp2
  go_ret
  exact⟨_,l,is,rfl,hid ⟨HV5.1,by rw[if_neg HE.out];exact HV5.2⟩,HM5,HB5⟩
end Go.Proofs.YtpbemaaghbbocaaGreatDoor
namespace Go.Proofs.YtpbemaaghbbocaaGreatDoor
open Go.RowKit LS
variable {x mb gb:Nat} {sv:Value} {ss:List Srs} {tm:Int}
set_option maxRecDepth 100000 in
set_option maxHeartbeats 8000000 in
theorem Zr1(nd:Nd)(l r:Tr)(a b:Nat)(hk:nd.kind=1)(hds:Dst (ss.map Srs.ser))(ht0 : -1000000≤tm)(ht1:tm≤1000000):ZbM x mb gb sv ss tm (.node a b nd l r):=by
 intro pv w hM hP
 obtain⟨nm,la,ln,lc,hpv,hnm,hcv⟩:∃(nm:ByteArray) (la:Option Addr) (ln lc:Nat),pv=.iface 179 (.agg #[.string nm,.slice la ln lc])∧bl nm=nd.name∧ZZ w (.slice la ln lc) nd.conds:=by
  rcases hP with ⟨h,_⟩|⟨_,h⟩|⟨h,_⟩|⟨h,_⟩|⟨h,_⟩|⟨h,_⟩
  ·omega
  ·exact h
  all_goals omega
 subst hpv
 obtain⟨sa,scp,rfl⟩:=Zj hM.sto.row
 have HS:Hid (sayT (ss.map Srs.ser) tm (.node a b nd l r)=.vec (ZbA (ss.map Srs.ser) nd none 10 tm)):=hid (by rw[sayT,if_neg (by omega),if_pos hk])
 have HM:Hid (MOk x mb gb (.slice sa ss.length scp) ss tm w):=hM
 have HPK:Hid (∀W,Below w.heap.size w W→Calls Tryz.prog 135 #[.slice sa ss.length scp,.agg #[.string nm,.slice la ln lc],.int .i64 tm] W _):=hid (fun W hW=>ZqZ _ ss nm la ln lc nd tm W (hM.below hW).sto hds hnm (hcv.below hW) ht0 ht1)
 clear hP hM hnm hcv hds
 have h1:=Zie (.agg #[.string nm,.slice la ln lc])
 have h2:=Zid (.agg #[.string nm,.slice la ln lc])
 have h3:=Zif (.agg #[.string nm,.slice la ln lc])
 have h4:=Zic (.agg #[.string nm,.slice la ln lc])
 have h5:=Zih (.agg #[.string nm,.slice la ln lc])
 have h6:=Zig (.agg #[.string nm,.slice la ln lc])
 go_enter Tryz.func87,Tryz.ntmps87
 go_upto_region 22 with fail
 refine Z1 fun W hW=>?_
 have hbW:Below w.heap.size w W:=by rw[hW];exact Zbal
 have HX:Hid (BAt W w.heap.size [.string nm,.slice la ln lc] 179):=hid (by rw[hW];exact Go.Deep.blk_alloc_new _ _)
 have HMW:=hid (HM.below hbW)
 have HBW:Hid (Below w.heap.size w W):=hid hbW
 clear hW hbW h1 h2 h3 h4 h5 h6
 have x0:=HX.cell 0
 have x1:=HX.cell 1
 have m0:=HMW.m.cell 0
 have m1:=HMW.m.cell 1
 simp only[Zget]at x0 x1 m0 m1
 go_region_held3 (fun w' => w'.cell? ⟨w.heap.size, 0, none⟩ = some (.string nm) ∧ w'.cell? ⟨w.heap.size, 1, none⟩ = some (.slice la ln lc) ∧ w'.cell? ⟨mb, 0, none⟩ = some (.slice sa ss.length scp) ∧ w'.cell? ⟨mb, 1, none⟩ = some (.int .i64 tm)) (first | exact ⟨x0, x1, m0, m1⟩ | exact HS5.out | go_keep) (first
   | (go_at_call 135
      refine(HPK.out _ (by exact⟨HBW.os,HBW.tape,HBW.output,HBW.size,HBW.block⟩)).mono ?_
      rintro e w5 ⟨v5,is5,rfl,HV5,hb5⟩
      have HB5:Hid (Below W.heap.size W w5):=hid ⟨hb5.os,hb5.tape,hb5.output,hb5.size,hb5.block⟩
      have HS5:=hid (And.intro ((HX.below HB5.out).cell 0) (And.intro ((HX.below HB5.out).cell 1) (And.intro ((HMW.below HB5.out).m.cell 0) ((HMW.below HB5.out).m.cell 1))))
      clear hb5))
 have HBf:Hid (BelX x w.heap.size w w5):=hid (BelX.of (HBW.trans (HB5.mono HBW.size)))
 have HMf:=hid (HMW.below HB5.out)
 go_wp2
 go_ret
 exact⟨_,rfl,hid (by rw[HS.out];exact⟨_,is5,rfl,HV5.out⟩),HMf,HBf⟩
set_option maxRecDepth 100000 in
set_option maxHeartbeats 8000000 in
theorem Zr2(nd:Nd)(l r:Tr)(a b:Nat)(hk:nd.kind=2)(hop:nd.op≤4)(hn:1≤nd.n∧nd.n≤1000)(hds:Dst (ss.map Srs.ser))(ht0 : -1000000≤tm)(ht1:tm≤1000000):ZbM x mb gb sv ss tm (.node a b nd l r):=by
 intro pv w hM hP
 obtain⟨wd,nm,la,ln,lc,hpv,hwd,hnm,hcv⟩:∃(wd nm:ByteArray) (la:Option Addr) (ln lc:Nat),pv=.iface 181 (.agg #[.string wd,.string nm,.slice la ln lc,.int .i64 nd.n])∧bl wd=Z4.getD nd.op []∧bl nm=nd.name∧ZZ w (.slice la ln lc) nd.conds:=by
  rcases hP with ⟨h,_⟩|⟨h,_⟩|⟨_,h⟩|⟨h,_⟩|⟨h,_⟩|⟨h,_⟩
  ·omega
  ·omega
  ·exact h
  all_goals omega
 subst hpv
 obtain⟨sa,scp,rfl⟩:=Zj hM.sto.row
 have HS:Hid (sayT (ss.map Srs.ser) tm (.node a b nd l r)=.vec (ZbA (ss.map Srs.ser) nd (some nd.op) nd.n tm)):=hid (by rw[sayT,if_neg (by omega),if_neg (by omega),if_pos hk])
 have HM:Hid (MOk x mb gb (.slice sa ss.length scp) ss tm w):=hM
 have HPR:Hid (∀W,Below w.heap.size w W→Calls Tryz.prog 134 #[.slice sa ss.length scp,.agg #[.string nm,.slice la ln lc],.int .i64 nd.n,.int .i64 tm] W _):=hid (fun W hW=>Zkh _ ss nm la ln lc nd nd.n tm W (hM.below hW).sto hnm (hcv.below hW) (by omega) hn.2 ht0 ht1)
 have HMO:Hid (∀W,Calls Tryz.prog 131 #[.string wd] W _):=hid (fun W=>ZpV wd nd.op hop hwd W)
 have HDS:Hid (Dst (ss.map Srs.ser)):=hds
 have HLN:Hid (ss.length≤30):=hid hM.sto.len
 clear hP hM hnm hcv hds hwd hn
 obtain⟨nn,hnn⟩:∃nn,nn=nd.n:=⟨_,rfl⟩
 rw[←hnn]at HPR HS ⊢
 clear hnn
 have h1:=Zik (.agg #[.string wd,.string nm,.slice la ln lc,.int .i64 nn])
 have h2:=Zij (.agg #[.string wd,.string nm,.slice la ln lc,.int .i64 nn])
 have h3:=Zil (.agg #[.string wd,.string nm,.slice la ln lc,.int .i64 nn])
 have h4:=Zii (.agg #[.string wd,.string nm,.slice la ln lc,.int .i64 nn])
 have h5:=Zim (.agg #[.string wd,.string nm,.slice la ln lc,.int .i64 nn])
 go_enter Tryz.func87,Tryz.ntmps87
 go_upto_region 19 with fail
 refine Z1 fun W hW=>?_
 have hbW:Below w.heap.size w W:=by rw[hW];exact Zbal
 have HX:Hid (BAt W w.heap.size [.string wd,.string nm,.slice la ln lc,.int .i64 nn] 181):=hid (by rw[hW];exact Go.Deep.blk_alloc_new _ _)
 have HMW:=hid (HM.below hbW)
 have HBW:Hid (Below w.heap.size w W):=hid hbW
 clear hW hbW h1 h2 h3 h4 h5
 have x0:=HX.cell 0
 have x1:=HX.cell 1
 have x2:=HX.cell 2
 have x3:=HX.cell 3
 have m0:=HMW.m.cell 0
 have m1:=HMW.m.cell 1
 simp only[Zget]at x0 x1 x2 x3 m0 m1
 have HSB:Hid (∀w',Below W.heap.size W w'→w'.cell? ⟨w.heap.size,0,none⟩=some (.string wd)∧w'.cell? ⟨w.heap.size,1,none⟩=some (.string nm)∧w'.cell? ⟨w.heap.size,2,none⟩=some (.slice la ln lc)∧w'.cell? ⟨w.heap.size,3,none⟩=some (.int .i64 nn)∧w'.cell? ⟨mb,0,none⟩=some (.slice sa ss.length scp)∧w'.cell? ⟨mb,1,none⟩=some (.int .i64 tm)):=hid (fun w' h=>⟨(HX.below h).cell 0,(HX.below h).cell 1,(HX.below h).cell 2,(HX.below h).cell 3,(HMW.below h).m.cell 0,(HMW.below h).m.cell 1⟩)
 go_region_held3 (fun w' => w'.cell? ⟨w.heap.size, 0, none⟩ = some (.string wd) ∧ w'.cell? ⟨w.heap.size, 1, none⟩ = some (.string nm) ∧ w'.cell? ⟨w.heap.size, 2, none⟩ = some (.slice la ln lc) ∧ w'.cell? ⟨w.heap.size, 3, none⟩ = some (.int .i64 nn) ∧ w'.cell? ⟨mb, 0, none⟩ = some (.slice sa ss.length scp) ∧ w'.cell? ⟨mb, 1, none⟩ = some (.int .i64 tm)) (first | exact ⟨x0, x1, x2, x3, m0, m1⟩ | exact HSB.out _ HB6.out | exact HSB.out _ HB5.out | go_keep) (first
   | (go_at_call 131
      refine(HMO.out _).mono ?_
      rintro e w4 ⟨rfl,rfl⟩)
   | (go_at_call 134
      refine(HPR.out _ (by exact⟨HBW.os,HBW.tape,HBW.output,HBW.size,HBW.block⟩)).mono ?_
      rintro e w5 ⟨v5,rs5,rfl,HV5,hb5⟩
      have HB5:Hid (Below W.heap.size W w5):=hid ⟨hb5.os,hb5.tape,hb5.output,hb5.size,hb5.block⟩
      clear hb5)
   | (go_at_call 133
      refine(ZqW nd.op hop v5 rs5 (ss.map Srs.ser) nd nn tm _ HV5.1 HV5.2 HDS.out (by
        have h1:=congrArg List.length HV5.2
        rw[List.length_map]at h1
        have h2:=Zkn (ss.map Srs.ser) nd nn tm
        rw[List.length_map]at h2
        have:=HLN.out
        omega)).mono ?_
      rintro e w6 ⟨v6,is6,rfl,HV6,hb6⟩
      have HB6:Hid (Below W.heap.size W w6):=hid (HB5.trans (hb6.mono HB5.size))
      clear hb6))
 have HBf:Hid (BelX x w.heap.size w w6):=hid (BelX.of (HBW.trans (HB6.mono HBW.size)))
 have HMf:=hid (HMW.below HB6.out)
 go_wp2
 go_ret
 exact⟨_,rfl,hid (by rw[HS.out];exact⟨_,is6,rfl,HV6.out⟩),HMf,HBf⟩
set_option maxRecDepth 100000 in
set_option maxHeartbeats 8000000 in
theorem Zr0(nd:Nd)(l r:Tr)(a b:Nat)(hk:nd.kind=6)(hl:Zc7 (sayT (ss.map Srs.ser) tm l)=true)(hr:Zc7 (sayT (ss.map Srs.ser) tm r)=true)(ihl:ZbM x mb gb sv ss tm l)(ihr:ZbM x mb gb sv ss tm r):ZbM x mb gb sv ss tm (.node a b nd l r):=by
 intro pv w hM hP
 obtain⟨p,q,hpv,hp,hq⟩:∃p q,pv=.iface 149 (.agg #[.int .i64 (opNo nd),p,q])∧Zo w l p∧Zo w r q:=by
  rcases hP with ⟨h,_⟩|⟨h,_⟩|⟨h,_⟩|⟨h,_⟩|⟨h,_⟩|⟨_,h⟩
  ·omega
  ·omega
  ·omega
  ·omega
  ·omega
  ·exact h
 have ho:opNo nd=0:=by unfold opNo;rw[if_pos hk]
 rw[ho]at hpv
 subst hpv
 obtain⟨ty,tv,rfl⟩:=hp.shape
 obtain⟨uy,uv,rfl⟩:=hq.shape
 have HS:Hid (sayT (ss.map Srs.ser) tm (.node a b nd l r)=if (ZcJ (sayT (ss.map Srs.ser) tm l)).isEmpty then sayT (ss.map Srs.ser) tm r else sayT (ss.map Srs.ser) tm l):=hid (by rw[sayT,if_neg (by omega),if_neg (by omega),if_neg (by omega),if_neg (by omega),if_neg (by omega),if_pos hk])
 have HM:Hid (MOk x mb gb sv ss tm w):=hM
 have HE:Hid (∀W,Below w.heap.size w W→Calls Tryz.prog 126 #[.pointer (some ⟨mb,0,none⟩),.iface ty tv,.iface uy uv] W (EitP x mb gb sv ss tm l r W)):=hid (fun W hW=>ZmY l r hl hr ihl ihr ty uy tv uv W (hM.below hW) (hp.below hW) (hq.below hW))
 clear hP hM hp hq hl hr ihl ihr ho
 have h1:=Zgy (.agg #[.int .i64 (0:Nat),.iface ty tv,.iface uy uv])
 have h2:=Zgx (.agg #[.int .i64 (0:Nat),.iface ty tv,.iface uy uv])
 have h3:=Zgz (.agg #[.int .i64 (0:Nat),.iface ty tv,.iface uy uv])
 simp only[Int.natCast_zero]at *
 go_enter Tryz.func87,Tryz.ntmps87
 go_wp2_with fail
 refine Zbf fun W hW=>?_
 have hbW:Below w.heap.size w W:=by rw[hW];exact Zbal
 clear hW
 refine(HE.out W hbW).mono ?_
 rintro e w5 ⟨s,l5,is5,rfl,HV5,HM5,HB5⟩
 have HBf:Hid (BelX x w.heap.size w w5):=hid ((BelX.of hbW).trans (HB5.mono hbW.size))
 clear hbW
 go_wp2
 go_ret
 exact⟨_,rfl,hid (by rw[HS.out,HV5.2];exact⟨_,is5,rfl,HV5.1⟩),HM5,HBf⟩
end Go.Proofs.YtpbemaaghbbocaaGreatDoor
namespace Go.Proofs.YtpbemaaghbbocaaGreatDoor
open Go.RowKit LS
variable {x mb gb:Nat} {sv:Value} {ss:List Srs} {tm:Int}
theorem MapX.lt{w:World}{x:Nat}(h:MapX w x):x<w.heap.size:=by
 obtain⟨es,cl,hx⟩:=h
 exact(Array.getElem?_eq_some_iff.1 hx).1
set_option maxRecDepth 100000 in
set_option maxHeartbeats 8000000 in
theorem ZrW(nd:Nd)(l r:Tr)(a b:Nat)(hk:nd.kind=4)(hop:nd.op≤3)(hvr:VOk 1000 (sayT (ss.map Srs.ser) tm r))(ihl:ZbM x mb gb sv ss tm l)(ihr:ZbM x mb gb sv ss tm r):ZbM x mb gb sv ss tm (.node a b nd l r):=by
 intro pv w hM hP
 obtain⟨p,q,hpv,hp,hq⟩:∃p q,pv=.iface 149 (.agg #[.int .i64 (opNo nd),p,q])∧Zo w l p∧Zo w r q:=by
  rcases hP with ⟨h,_⟩|⟨h,_⟩|⟨h,_⟩|⟨h,_⟩|⟨h,_⟩|⟨_,h⟩
  ·omega
  ·omega
  ·omega
  ·omega
  ·omega
  ·exact h
 have ho:opNo nd=nd.op+1:=by unfold opNo;rw[if_neg (by omega)]
 rw[ho]at hpv
 subst hpv
 obtain⟨ty,tv,rfl⟩:=hp.shape
 obtain⟨uy,uv,rfl⟩:=hq.shape
 have HS:Hid (sayT (ss.map Srs.ser) tm (.node a b nd l r)=Zdz nd.op (sayT (ss.map Srs.ser) tm l) (sayT (ss.map Srs.ser) tm r)):=hid (by rw[sayT,if_neg (by omega),if_neg (by omega),if_neg (by omega),if_neg (by omega),if_neg (by omega),if_neg (by omega)])
 have HM:Hid (MOk x mb gb sv ss tm w):=hM
 have HP:Hid (Zo w l (.iface ty tv)∧Zo w r (.iface uy uv)):=⟨hp,hq⟩
 have HVR:Hid (VOk 1000 (sayT (ss.map Srs.ser) tm r)):=hvr
 have HIL:Hid (∀W,MOk x mb gb sv ss tm W→Zo W l (.iface ty tv)→Calls Tryz.prog 87 #[.pointer (some ⟨mb,0,none⟩),.iface ty tv] W (SayP x mb gb sv ss tm l W)):=hid (fun W h1 h2=>ihl _ W h1 h2)
 have HIR:Hid (∀W,MOk x mb gb sv ss tm W→Zo W r (.iface uy uv)→Calls Tryz.prog 87 #[.pointer (some ⟨mb,0,none⟩),.iface uy uv] W (SayP x mb gb sv ss tm r W)):=hid (fun W h1 h2=>ihr _ W h1 h2)
 obtain⟨oz,hoz⟩:∃oz:Int,oz=((nd.op+1:Nat):Int):=⟨_,rfl⟩
 have HOZ:Hid (oz=((nd.op+1:Nat):Int)):=hoz
 have hoz0:(oz == 0)=false:=by rw[beq_eq_false_iff_ne];omega
 rw[←hoz]
 have hxl:=hM.map.lt
 clear hP hM hp hq hvr ihl ihr ho hoz
 have h1:=Zgy (.agg #[.int .i64 oz,.iface ty tv,.iface uy uv])
 have h2:=Zgx (.agg #[.int .i64 oz,.iface ty tv,.iface uy uv])
 have h3:=Zgz (.agg #[.int .i64 oz,.iface ty tv,.iface uy uv])
 go_enter Tryz.func87,Tryz.ntmps87
 go_upto_region 12 with fail
 refine Z1 fun W hW=>?_
 have hbW:Below w.heap.size w W:=by rw[hW];exact Zbal
 have HX:Hid (BAt W w.heap.size [.int .i64 oz,.iface ty tv,.iface uy uv] 149):=hid (by rw[hW];exact Go.Deep.blk_alloc_new _ _)
 have HMW:=hid (HM.below hbW)
 have HPW:Hid (Zo W l (.iface ty tv)∧Zo W r (.iface uy uv)):=hid ⟨HP.1.below hbW,HP.2.below hbW⟩
 have HBW:Hid (Below w.heap.size w W):=hid hbW
 clear hW hbW h1 h2 h3 hoz0
 have x0:=HX.cell 0
 have x1:=HX.cell 1
 have x2:=HX.cell 2
 simp only[Zget]at x0 x1 x2
 have HSB : Hid (∀ w', BelX x W.heap.size W w' → w'.cell? ⟨w.heap.size, 0, none⟩ = some (.int .i64 oz) ∧ w'.cell? ⟨w.heap.size, 1, none⟩ = some (.iface ty tv) ∧ w'.cell? ⟨w.heap.size, 2, none⟩ = some (.iface uy uv)) := hid (fun w' h => by
   have g:=HX.belX h (by omega)
   exact⟨g.cell 0,g.cell 1,g.cell 2⟩)
 go_region_held3 (fun w' => w'.cell? ⟨w.heap.size, 0, none⟩ = some (.int .i64 oz) ∧ w'.cell? ⟨w.heap.size, 1, none⟩ = some (.iface ty tv) ∧ w'.cell? ⟨w.heap.size, 2, none⟩ = some (.iface uy uv)) (first | exact ⟨x0, x1, x2⟩ | exact HSB.out _ HB7.out | exact HSB.out _ HB6.out | exact HSB.out _ HB5.out | go_keep) (first
   | (go_at_call 87
      refine(HIR.out w5 HM5.out HP5.out).mono ?_
      rintro e w6 ⟨v6,rfl,HV6,HM6,HB6'⟩
      have HB6:Hid (BelX x W.heap.size W w6):=hid (HB5.trans (HB6'.mono HB5.size))
      have HV56:Hid (ValP w6 v5 (sayT (ss.map Srs.ser) tm l)):=hid (HV5.keepsC (Zv.belX HB6'.out HM5.map))
      clear HB6')
   | (go_at_call 87
      refine(HIL.out _ (by exact⟨HMW.m,HMW.g,HMW.map,⟨HMW.sto.row,fun s hs=>(HMW.sto.ok s hs).keepsC (Zv.refl _),HMW.sto.len⟩⟩) (by exact HPW.1.keepsC (Zv.refl _))).mono ?_
      rintro e w5 ⟨v5,rfl,HV5,HM5,HB5'⟩
      have HB5:Hid (BelX x W.heap.size W w5):=hid ⟨HB5'.os,HB5'.tape,HB5'.output,HB5'.size,HB5'.block⟩
      have HP5:Hid (Zo w5 r (.iface uy uv)):=hid (HPW.2.keepsC (Zv.belX HB5.out HMW.map))
      clear HB5')
   | (go_at_call 127
      rw[HOZ.out]
      refine(ZqC nd.op hop v5 v6 _ _ w6 HV56.out HV6.out HVR.out).mono ?_
      rw[←HOZ.out]
      rintro e w7 ⟨v7,rfl,HV7,hb7⟩
      have HM7:=hid (HM6.below hb7)
      have HB7:Hid (BelX x W.heap.size W w7):=hid (HB6.trans ((BelX.of hb7).mono HB6.size))
      clear hb7))
 have HBf:Hid (BelX x w.heap.size w w7):=hid ((BelX.of HBW.out).trans (HB7.mono HBW.size))
 go_wp2
 go_ret
 exact⟨_,rfl,hid (by rw[HS.out];exact HV7.out),HM7,HBf⟩
theorem Zjs{ns ms:List (List UInt8)}(h:∀z,z∈ns ↔ z∈ms)(l:List Lab):Zu l ns=Zu l ms:=by
 unfold Zu
 refine List.filter_congr (fun p _=>?_)
 rw[Bool.eq_iff_iff,List.contains_iff_mem,List.contains_iff_mem]
 exact h p.1
theorem Zi9{ns ms:List (List UInt8)}(h:∀z,z∈ns ↔ z∈ms)(op:Nat)(all:List El):∀(l pre:List El),Zbc op ns all pre l=Zbc op ms all pre l
 | [],_=>rfl
 | e :: l, pre => by
   rw[Zbc,Zbc,Zi9 h op all l (pre++[e])]
   have hk:(fun f:El=>Zu f.1 ns)=fun f=>Zu f.1 ms:=funext fun f=>Zjs h f.1
   simp only[Zjs h]
theorem Zoh{ns ms:List (List UInt8)}(h:∀z,z∈ns ↔ z∈ms)(op:Nat)(l:List El):Zcx op ns l=Zcx op ms l:=by unfold Zcx;rw[Zi9 h]
set_option maxRecDepth 100000 in
set_option maxHeartbeats 8000000 in
theorem ZrX(nd:Nd)(l r:Tr)(a b:Nat)(hk:nd.kind=5)(hop:nd.op≤3)(hnl:nd.by_.length≤100000)(hvl:Zc7 (sayT (ss.map Srs.ser) tm l)=true)(ihl:ZbM x mb gb sv ss tm l):ZbM x mb gb sv ss tm (.node a b nd l r):=by
 intro pv w hM hP
 obtain⟨wd,la,ln,lc,q,hpv,hwd,hnv,hq⟩:∃(wd:ByteArray) (la:Option Addr) (ln lc:Nat) (q:Value),pv=.iface 156 (.agg #[.string wd,.slice la ln lc,q])∧bl wd=ZX.getD nd.op []∧Zb0 w (.slice la ln lc) nd.by_∧Zo w l q:=by
  rcases hP with ⟨h,_⟩|⟨h,_⟩|⟨h,_⟩|⟨h,_⟩|⟨_,h⟩|⟨h,_⟩
  ·omega
  ·omega
  ·omega
  ·omega
  ·exact h
  ·omega
 subst hpv
 obtain⟨ty,tv,rfl⟩:=hq.shape
 obtain⟨bs,hbo,hbb⟩:=hnv
 have hbl:bs.length≤100000:=by rw[←hbb,List.length_map]at hnl;exact hnl
 obtain⟨av,cpv,hav⟩:=Zj hbo
 injection hav with e1 e2 e3
 subst e2
 have HS:Hid (sayT (ss.map Srs.ser) tm (.node a b nd l r)=.vec (Zcx nd.op (bs.map bl) (ZcJ (sayT (ss.map Srs.ser) tm l)))):=hid (by rw[sayT,if_neg (by omega),if_neg (by omega),if_neg (by omega),if_neg (by omega),if_pos hk,hbb])
 have HM:Hid (MOk x mb gb sv ss tm w):=hM
 have HP:Hid (Zo w l (.iface ty tv)):=hq
 have HBO:Hid (w.ownsRow 0 9 1 (.slice la bs.length lc) bs.length (Z8 bs)):=hbo
 have HIV:Hid (∀W,MOk x mb gb sv ss tm W→Zo W l (.iface ty tv)→Calls Tryz.prog 132 #[.pointer (some ⟨mb,0,none⟩),.iface ty tv] W (VecP x mb gb sv ss tm l W)):=hid (fun W h1 h2=>ZhM l hvl ihl ty tv W h1 h2)
 have HMO:Hid (∀W,Calls Tryz.prog 131 #[.string wd] W _):=hid (fun W=>ZpU wd nd.op hop hwd W)
 have hxl:=hM.map.lt
 clear hP hM hq hbo hvl ihl hwd hbb hnl e1 e3
 have h1:=Zh7 (.agg #[.string wd,.slice la bs.length lc,.iface ty tv])
 have h2:=Zh6 (.agg #[.string wd,.slice la bs.length lc,.iface ty tv])
 have h3:=Zh8 (.agg #[.string wd,.slice la bs.length lc,.iface ty tv])
 have h4:=Zh5 (.agg #[.string wd,.slice la bs.length lc,.iface ty tv])
 go_enter Tryz.func87,Tryz.ntmps87
 go_wp2_with fail
 refine Zbf fun W hW=>?_
 have hbW:Below w.heap.size w W:=by rw[hW];exact Zbal
 have HX:Hid (BAt W w.heap.size [.string wd,.slice la bs.length lc,.iface ty tv] 156):=hid (by rw[hW];exact Go.Deep.blk_alloc_new _ _)
 have HBW:Hid (Below w.heap.size w W):=hid hbW
 clear hW hbW h1 h2 h3 h4
 refine(Zth _ W la bs.length lc rfl).mono ?_
 rintro e w2 ⟨rfl,hw2⟩
 have hb2:Below W.heap.size W w2:=by rw[hw2];exact Zbal
 have hc2:w2.cell? ⟨W.heap.size,0,none⟩=some (.slice la bs.length lc):=by rw[hw2];exact World.cell?_alloc_at _ _ _ _ (by simp) |>.trans rfl
 have hs2:W.heap.size<w2.heap.size:=by rw[hw2];simp
 have HSO:=hid (Zsn W.heap.size (.slice la bs.length lc) bs hbl w2 hs2 hc2 (Zw HBO.out (HBW.trans (hb2.mono HBW.size))))
 have HB2:Hid (Below w.heap.size w w2):=hid (HBW.trans (hb2.mono HBW.size))
 have HX2:=hid (HX.below hb2)
 clear hw2 hb2 hc2 hs2 HX HBW
 go_wp2_with fail
 refine HSO.mono ?_
 rintro e w3 ⟨nv,bs',rfl,HN3,hb3⟩
 obtain⟨na,ncp,rfl⟩:=Zj HN3.1
 have HB3:Hid (Below w.heap.size w w3):=hid (HB2.trans (hb3.mono HB2.size))
 have HX3:=hid (HX2.below hb3)
 have HM3:=hid (HM.below HB3.out)
 have HP3:Hid (Zo w3 l (.iface ty tv)):=hid (HP.below HB3.out)
 clear hb3 HX2 HB2 HSO
 have x0:=HX3.cell 0
 have x1:=HX3.cell 1
 have x2:=HX3.cell 2
 have m2:=HM3.m.cell 2
 simp only[Zget]at x0 x1 x2 m2
 have hmx:mb≠x:=by
  intro e
  obtain⟨es,cl,hx⟩:=HM3.map
  have:=HM3.m
  rw[e]at this
  unfold BAt at this
  rw[hx]at this;cases this
 have HSB : Hid (∀ w', BelX x w3.heap.size w3 w' → w'.cell? ⟨w.heap.size, 0, none⟩ = some (.string wd) ∧ w'.cell? ⟨w.heap.size, 2, none⟩ = some (.iface ty tv) ∧ w'.cell? ⟨mb, 2, none⟩ = some (.pointer (some ⟨gb, 0, none⟩))) := hid (fun w' h => by
   have g:=HX3.belX h (by omega)
   have g2:=HM3.m.belX h hmx
   exact⟨g.cell 0,g.cell 2,g2.cell 2⟩)
 go_upto_region 16 with fail
 go_region_held3 (fun w' => w'.cell? ⟨w.heap.size, 0, none⟩ = some (.string wd) ∧ w'.cell? ⟨w.heap.size, 2, none⟩ = some (.iface ty tv) ∧ w'.cell? ⟨mb, 2, none⟩ = some (.pointer (some ⟨gb, 0, none⟩))) (first | exact ⟨x0, x2, m2⟩ | exact HSB.out _ HB7.out | exact HSB.out _ HB6.out | go_keep) (first
   | (go_at_call 131
      refine(HMO.out _).mono ?_
      rintro e w4 ⟨rfl,rfl⟩)
   | (go_at_call 132
      refine(HIV.out _ (by exact⟨HM3.m,HM3.g,HM3.map,⟨HM3.sto.row,fun s hs=>(HM3.sto.ok s hs).keepsC (Zv.refl _),HM3.sto.len⟩⟩) (by exact HP3.keepsC (Zv.refl _))).mono ?_
      rintro e w6 ⟨v6,l6,is6,rfl,HV6,HM6,HB6'⟩
      have HB6:Hid (BelX x w3.heap.size w3 w6):=hid ⟨HB6'.os,HB6'.tape,HB6'.output,HB6'.size,HB6'.block⟩
      have HN6:=hid ((Zv.belX HB6.out HM3.map).own HN3.1)
      clear HB6')
   | (go_at_call 130
      refine(ZpT gb x nd.op hop _ bs' v6 l6 is6 w6 HM6.g HM6.map HN6.out (by rw[HN3.2.1];exact hbl) HN3.2.2.1 HV6.1).mono ?_
      rintro e w7 ⟨v7,is7,rfl,HV7,hb7⟩
      have HM7:=hid (HM6.belX hb7 HV7.2)
      have HB7:Hid (BelX x w3.heap.size w3 w7):=hid (HB6.trans (hb7.mono HB6.size))
      clear hb7))
 have HBf:Hid (BelX x w.heap.size w w7):=hid ((BelX.of HB3.out).trans (HB7.mono HB3.size))
 have HVf:Hid (VecV w7 v7 (Zcx nd.op (bs.map bl) l6) is7):=hid (by rw[←Zoh HN3.2.2.2];exact HV7.1)
 go_wp2
 go_ret
 exact⟨_,rfl,hid (by rw[HS.out,HV6.2];exact⟨_,is7,rfl,HVf.out⟩),HM7,HBf⟩
end Go.Proofs.YtpbemaaghbbocaaGreatDoor
namespace Go.Proofs.YtpbemaaghbbocaaGreatDoor
open Go.RowKit LS
theorem Zqw{w:World}{base:Nat}{e:TypeId}{g n cap:Nat}{xs:List Value}(h:w.ownsRow base e 1 (.slice (some ⟨g,0,none⟩) n cap) n xs)(i:Nat)(u:Value):(w.setCell ⟨g,i,none⟩ u).ownsRow base e 1 (.slice (some ⟨g,0,none⟩) n cap) n (xs.set i u):=by
 obtain⟨hl,h⟩:=h
 refine⟨by rw[List.length_set];exact hl,?_⟩
 rcases h with ⟨h,_⟩|⟨g',cap',cur,hv,hb,hh,hn,hc,hs,ht⟩
 ·cases h
 ·injection hv with h1 _ h3
  injection h1 with h1
  injection h1 with h1
  subst h1 h3
  refine Or.inr ⟨g,cap,cur.setIfInBounds i u,rfl,hb,?_,hn,hc,by simpa using hs,?_⟩
  ·simp[World.setCell,Array.getElem?_modify,hh]
  ·rw[Nat.mul_one]at ht ⊢
   rw[←ht,Array.toList_setIfInBounds,List.take_set]
theorem Zsd(c k:Nat)(f:Nat→Value)(z:Value)(hk:k<c):((List.range k).map f++List.replicate (c - k) z).set k (f k)=(List.range (k+1)).map f++List.replicate (c - (k+1)) z:=by
 have e:c - k=(c - (k+1))+1:=by omega
 rw[e,List.replicate_succ,List.set_append_right _ _ (by simp),List.range_succ,List.map_append,List.append_assoc]
 simp
theorem Tryz.infoInt3:(Tryz.prog.info? 3).map (fun i=>(i.zero,i.size,i.bytes))=some (some (.int .i64 0),1,8):=by kernel_rfl
theorem Zer (t : Int) (w : World) : Calls Tryz.prog 84 #[.int .i64 t] w fun e w' => e = .returned (.bool (decide (-1000000 ≤ t) && decide (t ≤ 1000000))) ∧ w' = w := by
  by_cases h1 : -1000000≤t
  · by_cases h2:t≤1000000
    · rw[show(decide (-1000000≤t) && decide (t≤1000000))=true by simp;omega]
      go_enter Tryz.func84,Tryz.ntmps84
      go_wp2
      go_ret
      exact⟨rfl,rfl⟩
    · rw[show(decide (-1000000≤t) && decide (t≤1000000))=false by simp;omega]
      go_enter Tryz.func84,Tryz.ntmps84
      go_wp2
      go_ret
      exact⟨rfl,rfl⟩
  · rw[show(decide (-1000000≤t) && decide (t≤1000000))=false by simp;omega]
    go_enter Tryz.func84,Tryz.ntmps84
    go_wp2
    go_ret
    exact⟨rfl,rfl⟩
end Go.Proofs.YtpbemaaghbbocaaGreatDoor

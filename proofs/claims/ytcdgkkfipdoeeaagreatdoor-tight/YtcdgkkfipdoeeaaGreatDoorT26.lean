/- Parts. -/
import Derived.Test.YtcdgkkfipdoeeaaGreatDoorT05
import Derived.Test.YtcdgkkfipdoeeaaGreatDoorT25
import Derived.Test.YtcdgkkfipdoeeaaGreatDoorT11
import Derived.Deep.RegionHeld3
import Derived.Deep.DrawnRows
set_option maxHeartbeats 4000000
set_option maxRecDepth 100000
namespace Go.Proofs.YtcdgkkfipdoeeaaGreatDoor
open Go.RowKit LS
theorem ZoL(A:Nat->Addr)(m:Int)(w:World)(hv:Vars w A m) :
  Calls Tryz.prog 18 #[.nilIface] w fun e w'=>e=.returned (.int .i64 0)/\w'=w:=by
 have vLong:=hv.sent 0 (by decide)
 have vSyntax:=hv.sent 1 (by decide)
 have vDeep:=hv.sent 2 (by decide)
 have vType:=hv.sent 3 (by decide)
 have vStore:=hv.sent 4 (by decide)
 have vTwice:=hv.sent 5 (by decide)
 have vMany:=hv.sent 6 (by decide)
 have vTimes:=hv.sent 7 (by decide)
 have vCode:=hv.sent 8 (by decide)
 have vSum:=hv.sent 9 (by decide)
 have vRefer:=hv.sent 10 (by decide)
 have vStack:=hv.sent 11 (by decide)
 have vFuel:=hv.sent 12 (by decide)
 go_enter Tryz.func18,Tryz.ntmps18
 go_wp2_with fail
 refine(Zdj (A 0) _).mono ?_
 rintro e w' ⟨rfl,rfl⟩
 go_wp2_with fail
 refine(Zdj (A 1) _).mono ?_
 rintro e w' ⟨rfl,rfl⟩
 go_wp2_with fail
 refine(Zdj (A 2) _).mono ?_
 rintro e w' ⟨rfl,rfl⟩
 go_wp2_with fail
 refine(Zdj (A 3) _).mono ?_
 rintro e w' ⟨rfl,rfl⟩
 go_wp2_with fail
 refine(Zdj (A 4) _).mono ?_
 rintro e w' ⟨rfl,rfl⟩
 go_wp2_with fail
 refine(Zdj (A 5) _).mono ?_
 rintro e w' ⟨rfl,rfl⟩
 go_wp2_with fail
 refine(Zdj (A 6) _).mono ?_
 rintro e w' ⟨rfl,rfl⟩
 go_wp2_with fail
 refine(Zdj (A 7) _).mono ?_
 rintro e w' ⟨rfl,rfl⟩
 go_wp2_with fail
 refine(Zdj (A 8) _).mono ?_
 rintro e w' ⟨rfl,rfl⟩
 go_wp2_with fail
 refine(Zdj (A 9) _).mono ?_
 rintro e w' ⟨rfl,rfl⟩
 go_wp2_with fail
 refine(Zdj (A 10) _).mono ?_
 rintro e w' ⟨rfl,rfl⟩
 go_wp2_with fail
 refine(Zdj (A 11) _).mono ?_
 rintro e w' ⟨rfl,rfl⟩
 go_wp2_with fail
 refine(Zdj (A 12) _).mono ?_
 rintro e w' ⟨rfl,rfl⟩
 go_wp2
 go_ret
 exact⟨rfl,rfl⟩
theorem ZkO(A:Nat->Addr)(m:Int)(w:World)(hv:Vars w A m) :
  Calls Tryz.prog 18 #[.iface 432 (.pointer (some (A 0)))] w fun e w'=>e=.returned (.int .i64 1)/\w'=w:=by
 have vLong:=hv.sent 0 (by decide)
 go_enter Tryz.func18,Tryz.ntmps18
 go_wp2_with fail
 refine(Zg0 (A 0) _).mono ?_
 rintro e w' ⟨rfl,rfl⟩
 go_wp2
 go_ret
 exact⟨rfl,rfl⟩
theorem ZkP(A:Nat->Addr)(m:Int)(w:World)(hv:Vars w A m)(fa:Nat)(hw:w.cell? ⟨fa,2,none⟩=some (.iface 432 (.pointer (some (A 1))))) :
  Calls Tryz.prog 18 #[.iface 81 (.pointer (some ⟨fa,0,none⟩))] w fun e w'=>e=.returned (.int .i64 2)/\w'=w:=by
 have vLong:=hv.sent 0 (by decide)
 have vSyntax:=hv.sent 1 (by decide)
 obtain⟨cLong,Zbt,rLong⟩:=hv.row 0 (by decide)
 obtain⟨cSyntax,Zbn,rSyntax⟩:=hv.row 1 (by decide)
 go_enter Tryz.func18,Tryz.ntmps18
 go_wp2_with fail
 refine(Zdt fa (A 0) (A 1) cSyntax cLong Zbn Zbt _ hw (hv.apart _ (by decide) _ (by decide) (by decide)) rSyntax rLong).mono ?_
 rintro e w' ⟨rfl,rfl⟩
 go_wp2_with fail
 refine(Zh0 fa (A 1) _ hw).mono ?_
 rintro e w' ⟨rfl,rfl⟩
 go_wp2
 go_ret
 exact⟨rfl,rfl⟩
theorem ZkN(A:Nat->Addr)(m:Int)(w:World)(hv:Vars w A m)(fa:Nat)(hw:w.cell? ⟨fa,2,none⟩=some (.iface 432 (.pointer (some (A 2))))) :
  Calls Tryz.prog 18 #[.iface 81 (.pointer (some ⟨fa,0,none⟩))] w fun e w'=>e=.returned (.int .i64 3)/\w'=w:=by
 have vLong:=hv.sent 0 (by decide)
 have vSyntax:=hv.sent 1 (by decide)
 have vDeep:=hv.sent 2 (by decide)
 obtain⟨cLong,Zbt,rLong⟩:=hv.row 0 (by decide)
 obtain⟨cSyntax,Zbn,rSyntax⟩:=hv.row 1 (by decide)
 obtain⟨cDeep,Zbs,rDeep⟩:=hv.row 2 (by decide)
 go_enter Tryz.func18,Tryz.ntmps18
 go_wp2_with fail
 refine(Zdt fa (A 0) (A 2) cDeep cLong Zbs Zbt _ hw (hv.apart _ (by decide) _ (by decide) (by decide)) rDeep rLong).mono ?_
 rintro e w' ⟨rfl,rfl⟩
 go_wp2_with fail
 refine(Zdt fa (A 1) (A 2) cDeep cSyntax Zbs Zbn _ hw (hv.apart _ (by decide) _ (by decide) (by decide)) rDeep rSyntax).mono ?_
 rintro e w' ⟨rfl,rfl⟩
 go_wp2_with fail
 refine(Zh0 fa (A 2) _ hw).mono ?_
 rintro e w' ⟨rfl,rfl⟩
 go_wp2
 go_ret
 exact⟨rfl,rfl⟩
theorem ZkQ(A:Nat->Addr)(m:Int)(w:World)(hv:Vars w A m) :
  Calls Tryz.prog 18 #[.iface 432 (.pointer (some (A 3)))] w fun e w'=>e=.returned (.int .i64 4)/\w'=w:=by
 have vLong:=hv.sent 0 (by decide)
 have vSyntax:=hv.sent 1 (by decide)
 have vDeep:=hv.sent 2 (by decide)
 have vType:=hv.sent 3 (by decide)
 obtain⟨cLong,Zbt,rLong⟩:=hv.row 0 (by decide)
 obtain⟨cSyntax,Zbn,rSyntax⟩:=hv.row 1 (by decide)
 obtain⟨cDeep,Zbs,rDeep⟩:=hv.row 2 (by decide)
 obtain⟨cType,Zbz,rType⟩:=hv.row 3 (by decide)
 go_enter Tryz.func18,Tryz.ntmps18
 go_wp2_with fail
 refine(Zco (A 3) (A 0) cType cLong Zbz Zbt _ (hv.apart _ (by decide) _ (by decide) (by decide)) rType rLong).mono ?_
 rintro e w' ⟨rfl,rfl⟩
 go_wp2_with fail
 refine(Zco (A 3) (A 1) cType cSyntax Zbz Zbn _ (hv.apart _ (by decide) _ (by decide) (by decide)) rType rSyntax).mono ?_
 rintro e w' ⟨rfl,rfl⟩
 go_wp2_with fail
 refine(Zco (A 3) (A 2) cType cDeep Zbz Zbs _ (hv.apart _ (by decide) _ (by decide) (by decide)) rType rDeep).mono ?_
 rintro e w' ⟨rfl,rfl⟩
 go_wp2_with fail
 refine(Zg0 (A 3) _).mono ?_
 rintro e w' ⟨rfl,rfl⟩
 go_wp2
 go_ret
 exact⟨rfl,rfl⟩
theorem Zo0(w:World) :
  Calls Tryz.prog 19 #[.nilIface] w fun e w'=>e=.returned (.int .i64 0)/\Below w.heap.size w w':=by
 go_enter Tryz.func19,Tryz.ntmps19
 go_wp2_with fail
 refine(Zq2 _ _).mono ?_
 rintro e w' ⟨rfl,rfl⟩
 go_wp2
 go_ret
 exact⟨rfl,belB⟩
theorem Zez(A:Nat->Addr)(m:Int)(a:Addr)(w:World)(hv:Vars w A m) :
  Calls Tryz.prog 19 #[.iface 432 (.pointer (some a))] w fun e w'=>e=.returned (.int .i64 0)/\Below w.heap.size w w':=by
 have hB:Below w.heap.size w (w.alloc (.cells #[.pointer none] 81)):=Zbal
 go_enter Tryz.func19,Tryz.ntmps19
 go_wp2_with fail
 refine(Zq1 _ _ _ (hv.alloc _).handle).mono ?_
 rintro e w' ⟨rfl,hb⟩
 have hb':Below w.heap.size w w':=hB.trans (hb.mono (by simp))
 clear hb hB
 go_wp2
 go_ret
 exact⟨rfl,hb'⟩
theorem ZeZ(A:Nat->Addr)(m:Int)(fa:Nat)(i:Int)(w:World)(hv:Vars w A m)(hp:w.cell? ⟨fa,1,none⟩=some (.int .i64 i)) :
  Calls Tryz.prog 19 #[.iface 81 (.pointer (some ⟨fa,0,none⟩))] w fun e w'=>e=.returned (.int .i64 i)/\Below w.heap.size w w':=by
 have hfl:fa<w.heap.size:=World.block_lt_of_cell? _ _ hp
 go_enter Tryz.func19,Tryz.ntmps19
 go_wp2_with fail
 refine(Zq0 _ _ (.pointer none) _ (hv.alloc _).handle (by simp) (by simp)).mono ?_
 rintro e w' ⟨rfl,hw⟩
 have hb':Below w.heap.size w w':=by rw[hw];exact belB
 have c1:w'.cell? ⟨w.heap.size,0,none⟩=some (.pointer (some ⟨fa,0,none⟩)):=by
  rw[hw]
  refine World.cell?_setCell_same _ _ _ (u:=.pointer none) ?_
  refine(Below.cell (B:=w.heap.size+1) (w:=w.alloc (.cells #[.pointer none] 81)) ?_ (Nat.lt_succ_self _)).trans (by simp)
  exact belB
 have c2:w'.cell? ⟨fa,1,none⟩=some (.int .i64 i):=(hb'.cell (p:=⟨fa,1,none⟩) hfl).trans hp
 clear hw
 go_wp2
 go_ret
 exact⟨rfl,hb'⟩
theorem ZvB(A:Nat->Addr)(m:Int)(w:World)(hv:Vars w A m)(fa:Nat)(hw:w.cell? ⟨fa,2,none⟩=some (.iface 432 (.pointer (some (A 4))))) :
  Calls Tryz.prog 18 #[.iface 81 (.pointer (some ⟨fa,0,none⟩))] w fun e w'=>e=.returned (.int .i64 5)/\w'=w:=by
 have vLong:=hv.sent 0 (by decide)
 have vSyntax:=hv.sent 1 (by decide)
 have vDeep:=hv.sent 2 (by decide)
 have vType:=hv.sent 3 (by decide)
 have vStore:=hv.sent 4 (by decide)
 obtain⟨cLong,Zbt,rLong⟩:=hv.row 0 (by decide)
 obtain⟨cSyntax,Zbn,rSyntax⟩:=hv.row 1 (by decide)
 obtain⟨cDeep,Zbs,rDeep⟩:=hv.row 2 (by decide)
 obtain⟨cType,Zbz,rType⟩:=hv.row 3 (by decide)
 obtain⟨cStore,ZbG,rStore⟩:=hv.row 4 (by decide)
 go_enter Tryz.func18,Tryz.ntmps18
 go_wp2_with fail
 refine(Zdt fa (A 0) (A 4) cStore cLong ZbG Zbt _ hw (hv.apart _ (by decide) _ (by decide) (by decide)) rStore rLong).mono ?_
 rintro e w' ⟨rfl,rfl⟩
 go_wp2_with fail
 refine(Zdt fa (A 1) (A 4) cStore cSyntax ZbG Zbn _ hw (hv.apart _ (by decide) _ (by decide) (by decide)) rStore rSyntax).mono ?_
 rintro e w' ⟨rfl,rfl⟩
 go_wp2_with fail
 refine(Zdt fa (A 2) (A 4) cStore cDeep ZbG Zbs _ hw (hv.apart _ (by decide) _ (by decide) (by decide)) rStore rDeep).mono ?_
 rintro e w' ⟨rfl,rfl⟩
 go_wp2_with fail
 refine(Zdt fa (A 3) (A 4) cStore cType ZbG Zbz _ hw (hv.apart _ (by decide) _ (by decide) (by decide)) rStore rType).mono ?_
 rintro e w' ⟨rfl,rfl⟩
 go_wp2_with fail
 refine(Zh0 fa (A 4) _ hw).mono ?_
 rintro e w' ⟨rfl,rfl⟩
 go_wp2
 go_ret
 exact⟨rfl,rfl⟩
theorem ZvD(A:Nat->Addr)(m:Int)(w:World)(hv:Vars w A m)(fa:Nat)(hw:w.cell? ⟨fa,2,none⟩=some (.iface 432 (.pointer (some (A 5))))) :
  Calls Tryz.prog 18 #[.iface 81 (.pointer (some ⟨fa,0,none⟩))] w fun e w'=>e=.returned (.int .i64 6)/\w'=w:=by
 have vLong:=hv.sent 0 (by decide)
 have vSyntax:=hv.sent 1 (by decide)
 have vDeep:=hv.sent 2 (by decide)
 have vType:=hv.sent 3 (by decide)
 have vStore:=hv.sent 4 (by decide)
 have vTwice:=hv.sent 5 (by decide)
 obtain⟨cLong,Zbt,rLong⟩:=hv.row 0 (by decide)
 obtain⟨cSyntax,Zbn,rSyntax⟩:=hv.row 1 (by decide)
 obtain⟨cDeep,Zbs,rDeep⟩:=hv.row 2 (by decide)
 obtain⟨cType,Zbz,rType⟩:=hv.row 3 (by decide)
 obtain⟨cStore,ZbG,rStore⟩:=hv.row 4 (by decide)
 obtain⟨cTwice,ZbQ,rTwice⟩:=hv.row 5 (by decide)
 go_enter Tryz.func18,Tryz.ntmps18
 go_wp2_with fail
 refine(Zdt fa (A 0) (A 5) cTwice cLong ZbQ Zbt _ hw (hv.apart _ (by decide) _ (by decide) (by decide)) rTwice rLong).mono ?_
 rintro e w' ⟨rfl,rfl⟩
 go_wp2_with fail
 refine(Zdt fa (A 1) (A 5) cTwice cSyntax ZbQ Zbn _ hw (hv.apart _ (by decide) _ (by decide) (by decide)) rTwice rSyntax).mono ?_
 rintro e w' ⟨rfl,rfl⟩
 go_wp2_with fail
 refine(Zdt fa (A 2) (A 5) cTwice cDeep ZbQ Zbs _ hw (hv.apart _ (by decide) _ (by decide) (by decide)) rTwice rDeep).mono ?_
 rintro e w' ⟨rfl,rfl⟩
 go_wp2_with fail
 refine(Zdt fa (A 3) (A 5) cTwice cType ZbQ Zbz _ hw (hv.apart _ (by decide) _ (by decide) (by decide)) rTwice rType).mono ?_
 rintro e w' ⟨rfl,rfl⟩
 go_wp2_with fail
 refine(Zdt fa (A 4) (A 5) cTwice cStore ZbQ ZbG _ hw (hv.apart _ (by decide) _ (by decide) (by decide)) rTwice rStore).mono ?_
 rintro e w' ⟨rfl,rfl⟩
 go_wp2_with fail
 refine(Zh0 fa (A 5) _ hw).mono ?_
 rintro e w' ⟨rfl,rfl⟩
 go_wp2
 go_ret
 exact⟨rfl,rfl⟩
theorem Zvw(A:Nat->Addr)(m:Int)(w:World)(hv:Vars w A m) :
  Calls Tryz.prog 18 #[.iface 432 (.pointer (some (A 6)))] w fun e w'=>e=.returned (.int .i64 7)/\w'=w:=by
 have vLong:=hv.sent 0 (by decide)
 have vSyntax:=hv.sent 1 (by decide)
 have vDeep:=hv.sent 2 (by decide)
 have vType:=hv.sent 3 (by decide)
 have vStore:=hv.sent 4 (by decide)
 have vTwice:=hv.sent 5 (by decide)
 have vMany:=hv.sent 6 (by decide)
 obtain⟨cLong,Zbt,rLong⟩:=hv.row 0 (by decide)
 obtain⟨cSyntax,Zbn,rSyntax⟩:=hv.row 1 (by decide)
 obtain⟨cDeep,Zbs,rDeep⟩:=hv.row 2 (by decide)
 obtain⟨cType,Zbz,rType⟩:=hv.row 3 (by decide)
 obtain⟨cStore,ZbG,rStore⟩:=hv.row 4 (by decide)
 obtain⟨cTwice,ZbQ,rTwice⟩:=hv.row 5 (by decide)
 obtain⟨cMany,ZbW,rMany⟩:=hv.row 6 (by decide)
 go_enter Tryz.func18,Tryz.ntmps18
 go_wp2_with fail
 refine(Zco (A 6) (A 0) cMany cLong ZbW Zbt _ (hv.apart _ (by decide) _ (by decide) (by decide)) rMany rLong).mono ?_
 rintro e w' ⟨rfl,rfl⟩
 go_wp2_with fail
 refine(Zco (A 6) (A 1) cMany cSyntax ZbW Zbn _ (hv.apart _ (by decide) _ (by decide) (by decide)) rMany rSyntax).mono ?_
 rintro e w' ⟨rfl,rfl⟩
 go_wp2_with fail
 refine(Zco (A 6) (A 2) cMany cDeep ZbW Zbs _ (hv.apart _ (by decide) _ (by decide) (by decide)) rMany rDeep).mono ?_
 rintro e w' ⟨rfl,rfl⟩
 go_wp2_with fail
 refine(Zco (A 6) (A 3) cMany cType ZbW Zbz _ (hv.apart _ (by decide) _ (by decide) (by decide)) rMany rType).mono ?_
 rintro e w' ⟨rfl,rfl⟩
 go_wp2_with fail
 refine(Zco (A 6) (A 4) cMany cStore ZbW ZbG _ (hv.apart _ (by decide) _ (by decide) (by decide)) rMany rStore).mono ?_
 rintro e w' ⟨rfl,rfl⟩
 go_wp2_with fail
 refine(Zco (A 6) (A 5) cMany cTwice ZbW ZbQ _ (hv.apart _ (by decide) _ (by decide) (by decide)) rMany rTwice).mono ?_
 rintro e w' ⟨rfl,rfl⟩
 go_wp2_with fail
 refine(Zg0 (A 6) _).mono ?_
 rintro e w' ⟨rfl,rfl⟩
 go_wp2
 go_ret
 exact⟨rfl,rfl⟩
theorem ZvC(A:Nat->Addr)(m:Int)(w:World)(hv:Vars w A m) :
  Calls Tryz.prog 18 #[.iface 432 (.pointer (some (A 7)))] w fun e w'=>e=.returned (.int .i64 8)/\w'=w:=by
 have vLong:=hv.sent 0 (by decide)
 have vSyntax:=hv.sent 1 (by decide)
 have vDeep:=hv.sent 2 (by decide)
 have vType:=hv.sent 3 (by decide)
 have vStore:=hv.sent 4 (by decide)
 have vTwice:=hv.sent 5 (by decide)
 have vMany:=hv.sent 6 (by decide)
 have vTimes:=hv.sent 7 (by decide)
 obtain⟨cLong,Zbt,rLong⟩:=hv.row 0 (by decide)
 obtain⟨cSyntax,Zbn,rSyntax⟩:=hv.row 1 (by decide)
 obtain⟨cDeep,Zbs,rDeep⟩:=hv.row 2 (by decide)
 obtain⟨cType,Zbz,rType⟩:=hv.row 3 (by decide)
 obtain⟨cStore,ZbG,rStore⟩:=hv.row 4 (by decide)
 obtain⟨cTwice,ZbQ,rTwice⟩:=hv.row 5 (by decide)
 obtain⟨cMany,ZbW,rMany⟩:=hv.row 6 (by decide)
 obtain⟨cTimes,Zb2,rTimes⟩:=hv.row 7 (by decide)
 go_enter Tryz.func18,Tryz.ntmps18
 go_wp2_with fail
 refine(Zco (A 7) (A 0) cTimes cLong Zb2 Zbt _ (hv.apart _ (by decide) _ (by decide) (by decide)) rTimes rLong).mono ?_
 rintro e w' ⟨rfl,rfl⟩
 go_wp2_with fail
 refine(Zco (A 7) (A 1) cTimes cSyntax Zb2 Zbn _ (hv.apart _ (by decide) _ (by decide) (by decide)) rTimes rSyntax).mono ?_
 rintro e w' ⟨rfl,rfl⟩
 go_wp2_with fail
 refine(Zco (A 7) (A 2) cTimes cDeep Zb2 Zbs _ (hv.apart _ (by decide) _ (by decide) (by decide)) rTimes rDeep).mono ?_
 rintro e w' ⟨rfl,rfl⟩
 go_wp2_with fail
 refine(Zco (A 7) (A 3) cTimes cType Zb2 Zbz _ (hv.apart _ (by decide) _ (by decide) (by decide)) rTimes rType).mono ?_
 rintro e w' ⟨rfl,rfl⟩
 go_wp2_with fail
 refine(Zco (A 7) (A 4) cTimes cStore Zb2 ZbG _ (hv.apart _ (by decide) _ (by decide) (by decide)) rTimes rStore).mono ?_
 rintro e w' ⟨rfl,rfl⟩
 go_wp2_with fail
 refine(Zco (A 7) (A 5) cTimes cTwice Zb2 ZbQ _ (hv.apart _ (by decide) _ (by decide) (by decide)) rTimes rTwice).mono ?_
 rintro e w' ⟨rfl,rfl⟩
 go_wp2_with fail
 refine(Zco (A 7) (A 6) cTimes cMany Zb2 ZbW _ (hv.apart _ (by decide) _ (by decide) (by decide)) rTimes rMany).mono ?_
 rintro e w' ⟨rfl,rfl⟩
 go_wp2_with fail
 refine(Zg0 (A 7) _).mono ?_
 rintro e w' ⟨rfl,rfl⟩
 go_wp2
 go_ret
 exact⟨rfl,rfl⟩
attribute [local go_sem ↓] Go.wp_at_zero Go.wp_at_succ
theorem ZxJ(l:List UInt8):(1<=numI 1000 l ↔ 1<=numV l/\numV l<=1000)/\(1<=numI 1000 l->numI 1000 l=numV l):=by
 unfold numI numV ZL
 by_cases hc:l.length<1∨(l.head?=some 48/\1<l.length)∨l.all Zt=false
 ·rw[if_pos (by rcases hc with h|h|h;exact Or.inl h;exact Or.inr (Or.inl h);exact Or.inr (Or.inr (Or.inl h)))]
  rw[if_pos (by rcases hc with h|h|h;exact Or.inl h;exact Or.inr (Or.inl h);exact Or.inr (Or.inr (Or.inl h)))]
  simp
 ·have hn:∀most,most<val l->(l.length<1∨(l.head?=some 48/\1<l.length)∨l.all Zt=false∨most<val l):=fun _ h=>Or.inr (Or.inr (Or.inr h))
  have hp:∀most,¬most<val l->¬(l.length<1∨(l.head?=some 48/\1<l.length)∨l.all Zt=false∨most<val l):=by
   rintro most h (h1|h1|h1|h1)
   ·exact hc (Or.inl h1)
   ·exact hc (Or.inr (Or.inl h1))
   ·exact hc (Or.inr (Or.inr h1))
   ·exact h h1
  by_cases h1:1000<val l
  ·rw[if_pos (hn _ h1)]
   by_cases h2:1000000000<val l
   ·rw[if_pos (hn _ h2)];simp
   ·rw[if_neg (hp _ h2)]
    simp only[Option.getD_some]
    constructor
    ·constructor
     ·intro h;omega
     ·intro h;omega
    ·intro h;omega
  ·rw[if_neg (hp _ h1),if_neg (hp _ (by omega))]
   simp only[Option.getD_some]
   constructor
   ·constructor
    ·intro h;omega
    ·intro h;omega
   ·intro _;trivial
def lenP(ts:List Tok):Out Int:=bnd (Zp [91] ts) fun _ r=>bnd (ZcV r) fun n r=>bnd (Zp [93] r) fun _ r=>.ok (n,r)
theorem Zqe (o : Nat) (ts : List Tok) : winP o ts = bnd (Zp [40] ts) fun _ r => bnd (selP r) fun p r => bnd (lenP r) fun n r => bnd (Zp [41] r) fun _ r => .ok (Z6 ⟨2, o, n, p.name, p.conds, []⟩, r) := by
  unfold winP lenP
  cases h1:Zp [40] ts with
  | error e=>rfl
  | ok p1=>
    obtain⟨a1,r1⟩:=p1
    simp only[bnd]
    cases h2:selP r1 with
    | error e=>rfl
    | ok p2=>
      obtain⟨a2,r2⟩:=p2
      simp only
      cases h3:Zp [91] r2 with
      | error e=>rfl
      | ok p3=>
        obtain⟨a3,r3⟩:=p3
        simp only
        cases h4:ZcV r3 with
        | error e=>rfl
        | ok p4=>
          obtain⟨a4,r4⟩:=p4
          simp only
          cases h5:Zp [93] r4 with
          | error e=>rfl
          | ok p5=>rfl
theorem ZeE(s:List UInt8)(ts:List Tok):(isT s (hd ts)=true/\Zp s ts=.ok ((),ts.tail))∨(¬isT s (hd ts)=true/\Zp s ts=.error (2,(hd ts).at_)):=by
 by_cases h:isT s (hd ts)=true
 ·exact Or.inl ⟨h,ZdB h⟩
 ·exact Or.inr ⟨h,ZeF h⟩
theorem ZzT{w:World}{R:RS}{k:Nat}{ts:List Tok}(h:RK w R k ts) :
  Calls Tryz.prog 170 #[.pointer (some ⟨R.b,0,none⟩)] w fun e w'=>∃(n:Int) (v:Value),e=.returned (.tuple #[.int .i64 n,v])/\Hid (Res R (fun _ m=>n=m) w' (lenP ts) v)/\w.grownBy w' (some R.b):=by
 have H:Hid (RK w R k ts):=h
 have hbl:R.b<w.heap.size:=(Array.getElem?_eq_some_iff.1 h.rd.cells).1
 clear h
 go_enter Tryz.func170,Tryz.ntmps170
 go_wp2_with fail
 refine(ZdA H.out ⟨#[91]⟩ (by decide) (by decide)).mono ?_
 rintro e w1 ⟨v,rfl,hres,hg⟩
 have HG1:Hid (w.grownBy w1 (some R.b)):=hg
 clear hg
 rcases ZeE [91] ts with ⟨h1,htp⟩|⟨h1,htp⟩
 ·obtain⟨rfl,⟨k1,hk1⟩,_⟩:=hres.good htp
  have HK1:Hid (RK w1 R k1 ts.tail):=hk1
  have HP1:Hid (lenP ts=bnd (ZcV ts.tail) fun n r=>bnd (Zp [93] r) fun _ r=>.ok (n,r)):=hid (by unfold lenP;rw[htp];rfl)
  clear hres hk1 h1 htp
  go_wp2_with fail
  refine(ZdU HK1.out).mono ?_
  rintro e w2 ⟨⟨kd,at_,tx,tv⟩,rfl,ht,hb2⟩
  have HG2:Hid (w.grownBy w2 (some R.b)):=Zy HG1.out (ZR hb2)
  have HK2:Hid (RK w2 R k1 ts.tail):=HK1.below hb2
  clear hb2 HG1 HK1
  go_upto_region 5 with fail
  refine Z9 fun W6 hW6=>?_
  have hb6:Below w2.heap.size w2 W6:=by rw[hW6];exact Zbal
  have HT7:Hid (BAt W6 w2.heap.size [.int .i64 kd,.int .i64 at_,.string tx,.int .i64 tv] 74):=hid (by rw[hW6];exact Go.Deep.blk_alloc_new _ _)
  have HG7:Hid (w.grownBy W6 (some R.b)):=Zy HG2.out (ZR hb6)
  have HK7:Hid (RK W6 R k1 ts.tail):=HK2.below hb6
  have hz2:R.b<w2.heap.size:=by have:=HG2.size;omega
  clear hW6 hb6 HK2 HG2
  have t0:=HT7.cell 0
  have t3:=HT7.cell 3
  simp only[Zget]at t0 t3
  have hsn:=ZxJ (hd ts.tail).txt
  by_cases hk1:(hd ts.tail).kind=1
  ·have hkd:kd=0:=by have:=ht.1;rw[hk1]at this;exact this
   subst hkd
   have htv:(tv:Int)=numV (hd ts.tail).txt:=ht.2.2.2 hk1
   by_cases hn:1<=numI 1000 (hd ts.tail).txt
   ·have hv:=hsn.1.1 hn
    rw[<-htv]at hv
    have hv1:=hv.1
    have hv2:=hv.2
    have HSP:Hid (ZcV ts.tail=.ok ((tv:Int),ts.tail.tail)):=hid (by unfold ZcV;rw[if_pos ⟨hk1,hn⟩,hsn.2 hn,<-htv])
    have HD:Hid (¬((hd ts.tail).kind=0∨(hd ts.tail).kind=5)):=hid (by omega)
    obtain⟨rc0,rc1,rfz,rcx⟩:=HK7.rd.all
    have hlt:=HK7.lt
    have hln:=HK7.len
    clear hn hsn htv hv hk1 ht
    go_upto_region 8 with fail
    refine Z9 fun W8 hW8=>?_
    have HK8:Hid (RK W8 R (k1+1) ts.tail.tail):=hid (by rw[hW8];exact HK7.step HD.out)
    have HG8:Hid (w.grownBy W8 (some R.b)):=hid (by rw[hW8];exact Zbm HG7.out (Or.inl rfl) _)
    have HT8:Hid (BAt W8 w2.heap.size [.int .i64 (0:Nat),.int .i64 at_,.string tx,.int .i64 tv] 74):=hid (by rw[hW8];exact HT7.other (by show w2.heap.size≠R.b;omega) _)
    clear hW8 rc0 rc1 rfz rcx t0 t3 HT7 HK7 HG7
    have e3:=HT8.cell 3
    simp only[Zget]at e3
    have HK8d:Hid (RK W8.drew R (k1+1) ts.tail.tail):=HK8.below ((Below.refl _ _).drew)
    have HG8d:Hid (w.grownBy W8.drew (some R.b)):=Zy HG8.out (ZR ((Below.refl _ _).drew))
    go_region_held3 (fun w' => w'.cell? ⟨w2.heap.size, 3, none⟩ = some (.int .i64 tv)) (first | exact e9 | exact e3 | go_keep) (first
      | (go_at_call 166
         refine(ZdA HK8d.out ⟨#[93]⟩ (by decide) (by decide)).mono ?_
         rintro e w9 ⟨v,rfl,hres,hg9⟩
         have e9:w9.cell? ⟨w2.heap.size,3,none⟩=some (.int .i64 tv):=(World.cell?_of_block (a:=⟨w2.heap.size,3,none⟩) (hg9.block _ (World.block_lt_of_cell? _ _ e3) (by simp;omega))).trans e3
         have HG9:Hid (w.grownBy w9 (some R.b)):=Zy HG8d.out hg9
         clear hg9))
    all_goals
     go_wp2
     go_ret2
     refine⟨_,_,rfl,?_,HG9.out⟩
     rw[HP1.out,HSP.out]
     show Hid (Res R _ _ (bnd (Zp [93] ts.tail.tail) _) _)
     rcases ZeE [93] ts.tail.tail with ⟨_,htp⟩|⟨_,htp⟩
     ·obtain⟨h1,h2,_⟩:=hres.good htp
      rw[htp]
      exact⟨h1,h2,rfl⟩
     ·have:=hres.err htp
      rw[htp]
      exact this
   ·have HPE:Hid (lenP ts=.error (2,(hd ts.tail).at_)):=hid (by rw[HP1.out];unfold ZcV;rw[if_neg (fun h=>hn h.2)];rfl)
    have hv:(tv:Int)<1∨1000<(tv:Int):=by
     rw[htv]
     by_cases h1:1<=numV (hd ts.tail).txt/\numV (hd ts.tail).txt<=1000
     ·exact absurd (hsn.1.2 h1) hn
     ·omega
    clear hn hsn htv hk1 ht
    by_cases hv1:(tv:Int)<1
    all_goals
     have hv2:¬(tv:Int)<1->1000<(tv:Int):=by omega
     clear hv
     try have hv3:=hv2 hv1
     clear hv2
     go_wp2_with fail
     refine(ZeP HK7.out).mono ?_
     rintro e wE ⟨v,rfl,HE,hbE⟩
     obtain⟨fa,rfl⟩:=HE.shape
     have HGE:Hid (w.grownBy wE (some R.b)):=Zy HG7.out (ZR hbE)
     clear hbE
     go_wp2
     go_ret2
     exact⟨_,_,rfl,by rw[HPE.out];exact HE,HGE.out⟩
  ·have hkd:((kd:Int) != 0)=true:=by
    rw[bne_iff_ne];intro e
    exact hk1 ((Zey HK7.wf.head.2.2).2.2.2.1.1 (by have:=ht.1;simp only at this;omega))
   have HPE:Hid (lenP ts=.error (2,(hd ts.tail).at_)):=hid (by rw[HP1.out];unfold ZcV;rw[if_neg (fun h=>hk1 h.1)];rfl)
   clear hsn ht hk1
   go_wp2_with fail
   refine(ZeP HK7.out).mono ?_
   rintro e wE ⟨v,rfl,HE,hbE⟩
   obtain⟨fa,rfl⟩:=HE.shape
   have HGE:Hid (w.grownBy wE (some R.b)):=Zy HG7.out (ZR hbE)
   clear hbE
   go_wp2
   go_ret2
   exact⟨_,_,rfl,by rw[HPE.out];exact HE,HGE.out⟩
 ·have HPE:Hid (lenP ts=.error (2,(hd ts).at_)):=hid (by unfold lenP;rw[htp];rfl)
  have HE:=hid (hres.err htp)
  obtain⟨fa,rfl⟩:=HE.shape
  clear hres htp h1
  go_wp2
  go_ret2
  exact⟨_,_,rfl,by rw[HPE.out];exact HE,HG1.out⟩
end Go.Proofs.YtcdgkkfipdoeeaaGreatDoor
namespace Go.Proofs.YtcdgkkfipdoeeaaGreatDoor
open Go.RowKit LS
attribute [local go_sem ↓] Go.wp_at_zero Go.wp_at_succ
theorem ZzU{w:World}{R:RS}{k:Nat}{ts:List Tok}(h:RK w R k ts)(wd:ByteArray)(o:Nat)(hwd:bl wd=ZV.getD o []) :
  Calls Tryz.prog 107 #[.pointer (some ⟨R.b,0,none⟩),.string wd] w fun e w'=>∃(pv v:Value),e=.returned (.tuple #[pv,v])/\ZdX pv/\Hid (Res R (fun w' t=>Ze w' t pv) w' (winP o ts) v)/\w.grownBy w' (some R.b):=by
 have H:Hid (RK w R k ts):=h
 have HWD:Hid (bl wd=ZV.getD o []):=hwd
 have hbl:R.b<w.heap.size:=(Array.getElem?_eq_some_iff.1 h.rd.cells).1
 clear h hwd
 go_enter Tryz.func107,Tryz.ntmps107
 go_wp2_with fail
 refine(ZdA H.out ⟨#[40]⟩ (by decide) (by decide)).mono ?_
 rintro e w1 ⟨v,rfl,hres,hg⟩
 have HG1:Hid (w.grownBy w1 (some R.b)):=hg
 clear hg
 rcases ZeE [40] ts with ⟨h1,htp⟩|⟨h1,htp⟩
 ·obtain⟨rfl,⟨k1,hk1⟩,_⟩:=hres.good htp
  have HK1:Hid (RK w1 R k1 ts.tail):=hk1
  have HP1:Hid (winP o ts=bnd (selP ts.tail) fun p r=>bnd (lenP r) fun n r=>bnd (Zp [41] r) fun _ r=>.ok (Z6 ⟨2,o,n,p.name,p.conds,[]⟩,r)):=hid (by rw[Zqe,htp];rfl)
  clear hres hk1 h1 htp
  go_wp2_with fail
  refine(Zpt HK1.out).mono ?_
  rintro e w2 ⟨nm,la,ln,lc,v,rfl,hres,hg2⟩
  have HG2:Hid (w.grownBy w2 (some R.b)):=Zy HG1.out hg2
  have hz2:R.b<w2.heap.size:=by have:=HG2.size;omega
  clear hg2 HG1 HK1
  cases hsp:selP ts.tail with
  | error er=>
   have HE:=hid (hres.err hsp)
   obtain⟨fa,rfl⟩:=HE.shape
   have HPE:Hid (winP o ts=.error er):=hid (by rw[HP1.out,hsp];rfl)
   clear hres hsp
   go_wp2
   go_ret2
   exact⟨_,_,rfl,Or.inl rfl,by rw[HPE.out];exact HE.below Zbal,Zdi HG2.out _⟩
  | ok pr=>
   obtain⟨nd,r2⟩:=pr
   obtain⟨rfl,⟨k2,hk2⟩,hnm,hcs⟩:=hres.good hsp
   have HP2:Hid (winP o ts=bnd (lenP r2) fun n r=>bnd (Zp [41] r) fun _ r=>.ok (Z6 ⟨2,o,n,nd.name,nd.conds,[]⟩,r)):=hid (by rw[HP1.out,hsp];rfl)
   have HNM:Hid (bl nm=nd.name):=hnm
   have HCS:Hid (ZI w2 (.slice la ln lc) nd.conds):=hcs
   have HK2:Hid (RK w2 R k2 r2):=hk2
   clear hres hsp hk2 hnm hcs HP1
   go_wp2_with fail
   refine ZK fun W3 hW3=>?_
   have hb3:Below w2.heap.size w2 W3:=by rw[hW3];exact Zbal
   have HT3:Hid (BAt W3 w2.heap.size [.string nm,.slice la ln lc] 148):=hid (by rw[hW3];exact Go.Deep.blk_alloc_new _ _)
   have HG3:Hid (w.grownBy W3 (some R.b)):=Zy HG2.out (ZR hb3)
   have HK3:Hid (RK W3 R k2 r2):=HK2.below hb3
   have HC3:Hid (ZI W3 (.slice la ln lc) nd.conds):=HCS.below hb3
   clear hW3 hb3 HG2 HK2 HCS
   refine(ZzT HK3.out).mono ?_
   rintro e w4 ⟨n,v,rfl,hres,hg4⟩
   have HG4:Hid (w.grownBy w4 (some R.b)):=Zy HG3.out hg4
   have HC4:Hid (ZI w4 (.slice la ln lc) nd.conds):=HC3.read HK3.out hg4
   have HT4:Hid (BAt w4 w2.heap.size [.string nm,.slice la ln lc] 148):=HT3.grown hg4 (by simp;omega)
   clear hg4 HG3 HC3 HT3 HK3
   cases hlp:lenP r2 with
   | error er=>
    have HE:=hid (hres.err hlp)
    obtain⟨fa,rfl⟩:=HE.shape
    have HPE:Hid (winP o ts=.error er):=hid (by rw[HP2.out,hlp];rfl)
    clear hres hlp
    go_wp2
    go_ret2
    exact⟨_,_,rfl,Or.inl rfl,by rw[HPE.out];exact HE,HG4.out⟩
   | ok pr=>
    obtain⟨n',r4⟩:=pr
    obtain⟨rfl,⟨k4,hk4⟩,hn⟩:=hres.good hlp
    subst hn
    have HP3:Hid (winP o ts=bnd (Zp [41] r4) fun _ r=>.ok (Z6 ⟨2,o,n,nd.name,nd.conds,[]⟩,r)):=hid (by rw[HP2.out,hlp];rfl)
    have HK4:Hid (RK w4 R k4 r4):=hk4
    clear hres hlp hk4 HP2
    have e0:=HT4.cell 0
    have e1:=HT4.cell 1
    simp only[Zget]at e0 e1
    have HK4d:Hid (RK w4.drew R k4 r4):=HK4.below ((Below.refl _ _).drew)
    have HG4d:Hid (w.grownBy w4.drew (some R.b)):=Zy HG4.out (ZR ((Below.refl _ _).drew))
    have HC4d:Hid (ZI w4.drew (.slice la ln lc) nd.conds):=HC4.below ((Below.refl _ _).drew)
    go_upto_region 10 with fail
    go_region_held3 (fun w' => w'.cell? ⟨w2.heap.size, 0, none⟩ = some (.string nm) /\ w'.cell? ⟨w2.heap.size, 1, none⟩ = some (.slice la ln lc)) (first | exact ⟨e90, e91⟩ | exact ⟨e0, e1⟩ | go_keep) (first
      | (go_at_call 166
         refine(ZdA HK4d.out ⟨#[41]⟩ (by decide) (by decide)).mono ?_
         rintro e w9 ⟨v,rfl,hres,hg9⟩
         have e90:w9.cell? ⟨w2.heap.size,0,none⟩=some (.string nm):=(World.cell?_of_block (a:=⟨w2.heap.size,0,none⟩) (hg9.block _ (World.block_lt_of_cell? _ _ e0) (by simp;omega))).trans e0
         have e91:w9.cell? ⟨w2.heap.size,1,none⟩=some (.slice la ln lc):=(World.cell?_of_block (a:=⟨w2.heap.size,1,none⟩) (hg9.block _ (World.block_lt_of_cell? _ _ e1) (by simp;omega))).trans e1
         have HG9:Hid (w.grownBy w9 (some R.b)):=Zy HG4d.out hg9
         have HC9:Hid (ZI w9 (.slice la ln lc) nd.conds):=HC4d.read HK4d.out hg9
         clear hg9))
    all_goals
     go_wp2
     go_ret2
     refine⟨_,_,rfl,Or.inr ⟨_,_,rfl⟩,?_,HG9.out⟩
     rw[HP3.out]
     rcases ZeE [41] r4 with ⟨_,htp⟩|⟨_,htp⟩
     ·obtain⟨h1,h2,_⟩:=hres.good htp
      rw[htp]
      exact⟨h1,h2,Or.inr (Or.inr (Or.inl ⟨rfl,wd,nm,la,ln,lc,rfl,HWD.out,HNM.out,HC9.out⟩))⟩
     ·have:=hres.err htp
      rw[htp]
      exact this
 ·have HPE:Hid (winP o ts=.error (2,(hd ts).at_)):=hid (by rw[Zqe,htp];rfl)
  have HE:=hid (hres.err htp)
  obtain⟨fa,rfl⟩:=HE.shape
  clear hres htp h1
  go_wp2
  go_ret2
  exact⟨_,_,rfl,Or.inl rfl,by rw[HPE.out];exact HE,HG1.out⟩
end Go.Proofs.YtcdgkkfipdoeeaaGreatDoor
namespace Go.Proofs.YtcdgkkfipdoeeaaGreatDoor
open Go.RowKit LS
def Zeo(f:FuncId)(args:Nat->List Value)(P:List Tok->Nat->Out Tr)(ok:List Tok->Prop):Prop:=∀(w:World) (R:RS) (k:Nat) (ts:List Tok) (deep:Nat),RK w R k ts->deep<=20->ok ts->
 Calls Tryz.prog f ⟨.pointer (some ⟨R.b,0,none⟩)::args deep⟩ w fun e w'=>∃(pv v:Value),e=.returned (.tuple #[pv,v])/\ZdX pv/\Hid (Res R (fun w' t=>Ze w' t pv) w' (P ts deep) v)/\w.grownBy w' (some R.b)
theorem Zrl {rec : Nat -> List Tok -> Nat -> Out Tr} {m : Nat} (hp : Zeo 28 (fun d => [.int .i64 0, .int .i64 (d + 1 : Nat)]) (rec 0) (fun ts => ts.length < m)) :
    Zeo 103 (fun d=>[.int .i64 (d+1:Nat)]) (Z3 rec) (fun ts=>ts.length<=m):=by
  intro w R k ts deep h hd hts
  have H:Hid (RK w R k ts):=h
  have HD:Hid (deep<=20):=hd
  have HM:Hid (ts.length<=m):=hts
  clear h hd hts
  go_enter Tryz.func103,Tryz.ntmps103
  go_wp2_with fail
  refine(ZdA H.out ⟨#[40]⟩ (by decide) (by decide)).mono ?_
  rintro e w1 ⟨v,rfl,hres,hg⟩
  have HG1:Hid (w.grownBy w1 (some R.b)):=hg
  clear hg
  rcases ZeE [40] ts with ⟨h1,htp⟩|⟨h1,htp⟩
  · obtain⟨rfl,⟨k1,hk1⟩,_⟩:=hres.good htp
    have HK1:Hid (RK w1 R k1 ts.tail):=hk1
    have HP1:Hid (Z3 rec ts deep=bnd (rec 0 ts.tail deep) fun a r=>bnd (Zp [41] r) fun _ r=>.ok (a,r)):=hid (by unfold Z3;rw[htp];rfl)
    clear hres hk1 h1 htp
    go_wp2_with fail
    refine(hp w1 R k1 ts.tail deep HK1.out HD.out (by show ts.tail.length<m;have:=H.pos;have:=HM.out;rw[List.length_tail];omega)).mono ?_
    rintro e w2 ⟨pv,v,rfl,hif,hres,hg2⟩
    have HG2:Hid (w.grownBy w2 (some R.b)):=Zy HG1.out hg2
    clear hg2 HG1 HK1
    cases hrp:rec 0 ts.tail deep with
    | error er=>
      have HE:=hid (hres.err hrp)
      obtain⟨fa,rfl⟩:=HE.shape
      have HPE:Hid (Z3 rec ts deep=.error er):=hid (by rw[HP1.out,hrp];rfl)
      clear hres hrp
      go_wp2
      go_ret2
      exact⟨_,_,rfl,Or.inl rfl,by rw[HPE.out];exact HE,HG2.out⟩
    | ok pr=>
      obtain⟨t,r2⟩:=pr
      obtain⟨rfl,⟨k2,hk2⟩,hpv⟩:=hres.good hrp
      have HP2:Hid (Z3 rec ts deep=bnd (Zp [41] r2) fun _ r=>.ok (t,r)):=hid (by rw[HP1.out,hrp];rfl)
      have HK2:Hid (RK w2 R k2 r2):=hk2
      have HV2:Hid (Ze w2 t pv):=hpv
      clear hres hrp hk2 hpv HP1
      go_wp2_with fail
      refine(ZdA HK2.out ⟨#[41]⟩ (by decide) (by decide)).mono ?_
      rintro e w3 ⟨v,rfl,hres,hg3⟩
      have HG3:Hid (w.grownBy w3 (some R.b)):=Zy HG2.out hg3
      have HV3:Hid (Ze w3 t pv):=HV2.read HK2.out hg3
      have HIF:Hid (ZdX pv):=hif
      clear hg3 HG2 HV2 hif
      go_wp2
      go_ret2
      refine⟨_,_,rfl,HIF.out,?_,HG3.out⟩
      rw[HP2.out]
      rcases ZeE [41] r2 with ⟨_,htp⟩|⟨_,htp⟩
      · obtain⟨h1,h2,_⟩:=hres.good htp
        rw[htp]
        exact⟨h1,h2,HV3.out⟩
      · have:=hres.err htp
        rw[htp]
        exact this
  · have HPE:Hid (Z3 rec ts deep=.error (2,(LS.hd ts).at_)):=hid (by unfold Z3;rw[htp];rfl)
    have HE:=hid (hres.err htp)
    obtain⟨fa,rfl⟩:=HE.shape
    clear hres htp h1
    go_wp2
    go_ret2
    exact⟨_,_,rfl,Or.inl rfl,by rw[HPE.out];exact HE,HG1.out⟩
theorem Znp (rec : Nat -> List Tok -> Nat -> Out Tr) (g : Nat) (ts : List Tok) (deep : Nat) : Zb0 rec g ts deep = bnd (Zp wBy ts) fun _ r => bnd (bnd (Zp [40] r) fun _ r => ZE (ZD 2) [41] (r.length + 1) [] r) fun ns r => bnd (Z3 rec r deep) fun a r => .ok (.node 0 0 ⟨5, g, 0, [], [], ns⟩ a .nil, r) := by
  unfold Zb0
  cases h1:Zp wBy ts with
  | error e=>rfl
  | ok p1=>
    obtain⟨a1,r1⟩:=p1
    simp only[bnd]
    cases h2:Zp [40] r1 with
    | error e=>rfl
    | ok p2=>rfl
theorem ZuN {ts : List Tok} {ns : List (List UInt8)} {r : List Tok} (h : (bnd (Zp [40] ts) fun _ r => ZE (ZD 2) [41] (r.length + 1) [] r) = .ok (ns, r)) : r.length <= ts.length := by
  have hl:∀(n:Nat) (acc:List (List UInt8)) (ts:List Tok) (z:List (List UInt8)×List Tok),ZE (ZD 2) [41] n acc ts=.ok z->z.2.length<=ts.length:=by
    intro n
    induction n with
    | zero=>intro acc ts z h;cases h
    | succ n ih=>
      intro acc ts z h
      by_cases hc:isT [41] (hd ts)=true
      · rw[Zkw hc]at h;cases h;simp
      · have hc':isT [41] (hd ts)=false:=Bool.eq_false_iff.2 hc
        by_cases ha:acc=[]
        · subst ha
          rw[Zkx hc']at h
          cases hk:ZD 2 ts with
          | error e=>rw[hk]at h;cases h
          | ok p=>
            obtain⟨a,r⟩:=p
            rw[hk]at h
            have h1:=ih _ _ _ h
            have h2:=Zh7 hk
            subst h2
            simp at h1;omega
        · rw[Zkz hc' ha]at h
          rcases ZeE [44] ts with ⟨_,htp⟩|⟨_,htp⟩
          · rw[htp]at h
            simp only[bnd]at h
            cases hk:ZD 2 ts.tail with
            | error e=>rw[hk]at h;cases h
            | ok p=>
              obtain⟨a,r⟩:=p
              rw[hk]at h
              have h1:=ih _ _ _ h
              have h2:=Zh7 hk
              subst h2
              simp at h1;omega
          · rw[htp]at h;cases h
  rcases ZeE [40] ts with ⟨_,htp⟩|⟨_,htp⟩
  · rw[htp]at h
    have:=hl _ _ _ _ h
    simp at this;omega
  · rw[htp]at h;cases h
theorem Zte {rec : Nat -> List Tok -> Nat -> Out Tr} {m : Nat} (hp : Zeo 103 (fun d => [.int .i64 (d + 1 : Nat)]) (Z3 rec) (fun ts => ts.length <= m)) (wd : ByteArray) (g : Nat) (hwd : bl wd = ZG.getD g []) :
    Zeo 105 (fun d=>[.string wd,.int .i64 (d+1:Nat)]) (Zb0 rec g) (fun ts=>ts.length<=m):=by
  intro w R k ts deep h hd hts
  have H:Hid (RK w R k ts):=h
  have HWD:Hid (bl wd=ZG.getD g []):=hwd
  have HD:Hid (deep<=20):=hd
  have HM:Hid (ts.length<=m):=hts
  clear h hd hts hwd
  go_enter Tryz.func105,Tryz.ntmps105
  go_wp2_with fail
  refine(Zyi H.out ⟨#[98,121]⟩ (by decide) (by decide)).mono ?_
  rintro e w1 ⟨v,rfl,hres,hg⟩
  have HG1:Hid (w.grownBy w1 (some R.b)):=hg
  clear hg
  rcases ZeE wBy ts with ⟨h1,htp⟩|⟨h1,htp⟩
  · obtain⟨rfl,⟨k1,hk1⟩,_⟩:=hres.good htp
    have HK1:Hid (RK w1 R k1 ts.tail):=hk1
    have HP1:Hid (Zb0 rec g ts deep=bnd (bnd (Zp [40] ts.tail) fun _ r=>ZE (ZD 2) [41] (r.length+1) [] r) fun ns r=>bnd (Z3 rec r deep) fun a r=>.ok (.node 0 0 ⟨5,g,0,[],[],ns⟩ a .nil,r)):=hid (by rw[Znp,htp];rfl)
    clear hres hk1 h1 htp
    go_wp2_with fail
    refine(ZuO HK1.out ⟨#[40]⟩ ⟨#[41]⟩ (by decide) (by decide)).mono ?_
    rintro e w2 ⟨la,ln,lc,v,rfl,hres,hg2⟩
    have HG2:Hid (w.grownBy w2 (some R.b)):=Zy HG1.out hg2
    clear hg2 HG1 HK1
    cases hlp:(bnd (Zp [40] ts.tail) fun _ r=>ZE (ZD 2) [41] (r.length+1) [] r)with
    | error er=>
      have HE:=hid (hres.err hlp)
      obtain⟨fa,rfl⟩:=HE.shape
      have HPE:Hid (Zb0 rec g ts deep=.error er):=hid (by rw[HP1.out,hlp];rfl)
      clear hres hlp
      go_wp2
      go_ret2
      exact⟨_,_,rfl,Or.inl rfl,by rw[HPE.out];exact HE,HG2.out⟩
    | ok pr=>
      obtain⟨ns,r2⟩:=pr
      obtain⟨rfl,⟨k2,hk2⟩,hns⟩:=hres.good hlp
      have HP2:Hid (Zb0 rec g ts deep=bnd (Z3 rec r2 deep) fun a r=>.ok (.node 0 0 ⟨5,g,0,[],[],ns⟩ a .nil,r)):=hid (by rw[HP1.out,hlp];rfl)
      have HK2:Hid (RK w2 R k2 r2):=hk2
      have HN2:Hid (Z4 w2 (.slice la ln lc) ns):=hns
      have HL2:Hid (r2.length<=m):=hid (by have:=ZuN hlp;have:=HM.out;rw[List.length_tail]at *;omega)
      clear hres hlp hk2 hns HP1
      go_wp2_with fail
      refine(hp w2 R k2 r2 deep HK2.out HD.out HL2.out).mono ?_
      rintro e w3 ⟨pv,v,rfl,hif,hres,hg3⟩
      have HG3:Hid (w.grownBy w3 (some R.b)):=Zy HG2.out hg3
      have HN3:Hid (Z4 w3 (.slice la ln lc) ns):=HN2.read HK2.out hg3
      clear hg3 HG2 HN2
      rcases hif with rfl|⟨ty,u,rfl⟩
      all_goals
        go_wp2
        go_ret2
        refine⟨_,_,rfl,Or.inr ⟨_,_,rfl⟩,?_,HG3.out⟩
        rw[HP2.out]
        cases hwp:Z3 rec r2 deep with
        | error er=>exact hres.err hwp
        | ok pr=>
          obtain⟨t,r3⟩:=pr
          obtain⟨h1,h2,h3⟩:=hres.good hwp
          exact⟨h1,h2,Or.inr (Or.inr (Or.inr (Or.inr (Or.inl ⟨rfl,wd,la,ln,lc,_,rfl,HWD.out,HN3.out,h3⟩))))⟩
  · have HPE:Hid (Zb0 rec g ts deep=.error (2,(LS.hd ts).at_)):=hid (by rw[Znp,htp];rfl)
    have HE:=hid (hres.err htp)
    obtain⟨fa,rfl⟩:=HE.shape
    clear hres htp h1
    go_wp2
    go_ret2
    exact⟨_,_,rfl,Or.inl rfl,by rw[HPE.out];exact HE,HG1.out⟩
end Go.Proofs.YtcdgkkfipdoeeaaGreatDoor

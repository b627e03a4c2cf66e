/- Parts. -/
import Derived.Test.YtpbemaaghbbocaaGreatDoorE39
namespace Go.Proofs.YtpbemaaghbbocaaGreatDoor
open Go.RowKit LS
set_option maxHeartbeats 1000000 in
theorem ZqP(w:World) :
  Calls Tryz.prog 21 #[.nilIface] w fun e w'=>e=.returned (.int .i64 0)∧Below w.heap.size w w':=by
 go_enter Tryz.func21,Tryz.ntmps21
 go_wp2_with fail
 refine(Zma _ _).mono ?_
 rintro e w' ⟨rfl,rfl⟩
 go_wp2
 go_ret
 exact⟨rfl,(by repeat first|exact Below.refl _ _|assumption|refine Below.alloc ?_ ?_ _|refine Below.setCell ?_ ?_ _|refine Zk ?_ _|refine Below.drew ?_|omega|(simp;omega)|simp)⟩
set_option maxHeartbeats 1000000 in
theorem Zgb(A:Nat→Addr)(m:Int)(a:Addr)(w:World)(hv:Vars w A m) :
  Calls Tryz.prog 21 #[.iface 389 (.pointer (some a))] w fun e w'=>e=.returned (.int .i64 0)∧Below w.heap.size w w':=by
 have hB:Below w.heap.size w (w.alloc (.cells #[.pointer none] 94)):=Zbal
 go_enter Tryz.func21,Tryz.ntmps21
 go_wp2_with fail
 refine(Zl9 _ _ _ (hv.alloc _).handle).mono ?_
 rintro e w' ⟨rfl,hb⟩
 have hb':Below w.heap.size w w':=hB.trans (hb.mono (by simp))
 clear hb hB
 go_wp2
 go_ret
 exact⟨rfl,hb'⟩
set_option maxHeartbeats 1000000 in
theorem Zgc(A:Nat→Addr)(m:Int)(fa:Nat)(i:Int)(w:World)(hv:Vars w A m)(hp:w.cell? ⟨fa,1,none⟩=some (.int .i64 i)) :
  Calls Tryz.prog 21 #[.iface 94 (.pointer (some ⟨fa,0,none⟩))] w fun e w'=>e=.returned (.int .i64 i)∧Below w.heap.size w w':=by
 have hfl:fa<w.heap.size:=World.block_lt_of_cell? _ _ hp
 go_enter Tryz.func21,Tryz.ntmps21
 go_wp2_with fail
 refine(Zl8 _ _ (.pointer none) _ (hv.alloc _).handle (by simp) (by simp)).mono ?_
 rintro e w' ⟨rfl,hw⟩
 have hb':Below w.heap.size w w':=by rw[hw];exact(by repeat first|exact Below.refl _ _|assumption|refine Below.alloc ?_ ?_ _|refine Below.setCell ?_ ?_ _|refine Zk ?_ _|refine Below.drew ?_|omega|(simp;omega)|simp)
 have c1:w'.cell? ⟨w.heap.size,0,none⟩=some (.pointer (some ⟨fa,0,none⟩)):=by
  rw[hw]
  refine World.cell?_setCell_same _ _ _ (u:=.pointer none) ?_
  refine(Below.cell (B:=w.heap.size+1) (w:=w.alloc (.cells #[.pointer none] 94)) ?_ (Nat.lt_succ_self _)).trans (by simp)
  exact(by repeat first|exact Below.refl _ _|assumption|refine Below.alloc ?_ ?_ _|refine Below.setCell ?_ ?_ _|refine Zk ?_ _|refine Below.drew ?_|omega|(simp;omega)|simp)
 have c2:w'.cell? ⟨fa,1,none⟩=some (.int .i64 i):=(hb'.cell (p:=⟨fa,1,none⟩) hfl).trans hp
 clear hw
 go_wp2
 go_ret
 exact⟨rfl,hb'⟩
set_option maxHeartbeats 2000000 in
theorem Zqi(A:Nat→Addr)(m:Int)(w:World)(hv:Vars w A m)(fa:Nat)(hw:w.cell? ⟨fa,2,none⟩=some (.iface 389 (.pointer (some (A 4))))) :
  Calls Tryz.prog 20 #[.iface 94 (.pointer (some ⟨fa,0,none⟩))] w fun e w'=>e=.returned (.int .i64 5)∧w'=w:=by
 have vLong:=hv.sent 0 (by decide)
 have vSyntax:=hv.sent 1 (by decide)
 have vDeep:=hv.sent 2 (by decide)
 have vType:=hv.sent 3 (by decide)
 have vStore:=hv.sent 4 (by decide)
 obtain⟨cLong,Zbo,rLong⟩:=hv.row 0 (by decide)
 obtain⟨cSyntax,Zbk,rSyntax⟩:=hv.row 1 (by decide)
 obtain⟨cDeep,Zbn,rDeep⟩:=hv.row 2 (by decide)
 obtain⟨cType,Zbs,rType⟩:=hv.row 3 (by decide)
 obtain⟨cStore,Zbv,rStore⟩:=hv.row 4 (by decide)
 go_enter Tryz.func20,Tryz.ntmps20
 go_wp2_with fail
 refine(Zc8 fa (A 0) (A 4) cStore cLong Zbv Zbo _ hw (hv.apart _ (by decide) _ (by decide) (by decide)) rStore rLong).mono ?_
 rintro e w' ⟨rfl,rfl⟩
 go_wp2_with fail
 refine(Zc8 fa (A 1) (A 4) cStore cSyntax Zbv Zbk _ hw (hv.apart _ (by decide) _ (by decide) (by decide)) rStore rSyntax).mono ?_
 rintro e w' ⟨rfl,rfl⟩
 go_wp2_with fail
 refine(Zc8 fa (A 2) (A 4) cStore cDeep Zbv Zbn _ hw (hv.apart _ (by decide) _ (by decide) (by decide)) rStore rDeep).mono ?_
 rintro e w' ⟨rfl,rfl⟩
 go_wp2_with fail
 refine(Zc8 fa (A 3) (A 4) cStore cType Zbv Zbs _ hw (hv.apart _ (by decide) _ (by decide) (by decide)) rStore rType).mono ?_
 rintro e w' ⟨rfl,rfl⟩
 go_wp2_with fail
 refine(Zf0 fa (A 4) _ hw).mono ?_
 rintro e w' ⟨rfl,rfl⟩
 go_wp2
 go_ret
 exact⟨rfl,rfl⟩
set_option maxHeartbeats 2000000 in
theorem Zql(A:Nat→Addr)(m:Int)(w:World)(hv:Vars w A m)(fa:Nat)(hw:w.cell? ⟨fa,2,none⟩=some (.iface 389 (.pointer (some (A 5))))) :
  Calls Tryz.prog 20 #[.iface 94 (.pointer (some ⟨fa,0,none⟩))] w fun e w'=>e=.returned (.int .i64 6)∧w'=w:=by
 have vLong:=hv.sent 0 (by decide)
 have vSyntax:=hv.sent 1 (by decide)
 have vDeep:=hv.sent 2 (by decide)
 have vType:=hv.sent 3 (by decide)
 have vStore:=hv.sent 4 (by decide)
 have vTwice:=hv.sent 5 (by decide)
 obtain⟨cLong,Zbo,rLong⟩:=hv.row 0 (by decide)
 obtain⟨cSyntax,Zbk,rSyntax⟩:=hv.row 1 (by decide)
 obtain⟨cDeep,Zbn,rDeep⟩:=hv.row 2 (by decide)
 obtain⟨cType,Zbs,rType⟩:=hv.row 3 (by decide)
 obtain⟨cStore,Zbv,rStore⟩:=hv.row 4 (by decide)
 obtain⟨cTwice,Zbz,rTwice⟩:=hv.row 5 (by decide)
 go_enter Tryz.func20,Tryz.ntmps20
 go_wp2_with fail
 refine(Zc8 fa (A 0) (A 5) cTwice cLong Zbz Zbo _ hw (hv.apart _ (by decide) _ (by decide) (by decide)) rTwice rLong).mono ?_
 rintro e w' ⟨rfl,rfl⟩
 go_wp2_with fail
 refine(Zc8 fa (A 1) (A 5) cTwice cSyntax Zbz Zbk _ hw (hv.apart _ (by decide) _ (by decide) (by decide)) rTwice rSyntax).mono ?_
 rintro e w' ⟨rfl,rfl⟩
 go_wp2_with fail
 refine(Zc8 fa (A 2) (A 5) cTwice cDeep Zbz Zbn _ hw (hv.apart _ (by decide) _ (by decide) (by decide)) rTwice rDeep).mono ?_
 rintro e w' ⟨rfl,rfl⟩
 go_wp2_with fail
 refine(Zc8 fa (A 3) (A 5) cTwice cType Zbz Zbs _ hw (hv.apart _ (by decide) _ (by decide) (by decide)) rTwice rType).mono ?_
 rintro e w' ⟨rfl,rfl⟩
 go_wp2_with fail
 refine(Zc8 fa (A 4) (A 5) cTwice cStore Zbz Zbv _ hw (hv.apart _ (by decide) _ (by decide) (by decide)) rTwice rStore).mono ?_
 rintro e w' ⟨rfl,rfl⟩
 go_wp2_with fail
 refine(Zf0 fa (A 5) _ hw).mono ?_
 rintro e w' ⟨rfl,rfl⟩
 go_wp2
 go_ret
 exact⟨rfl,rfl⟩
set_option maxHeartbeats 2000000 in
theorem Zqf(A:Nat→Addr)(m:Int)(w:World)(hv:Vars w A m) :
  Calls Tryz.prog 20 #[.iface 389 (.pointer (some (A 6)))] w fun e w'=>e=.returned (.int .i64 7)∧w'=w:=by
 have vLong:=hv.sent 0 (by decide)
 have vSyntax:=hv.sent 1 (by decide)
 have vDeep:=hv.sent 2 (by decide)
 have vType:=hv.sent 3 (by decide)
 have vStore:=hv.sent 4 (by decide)
 have vTwice:=hv.sent 5 (by decide)
 have vMany:=hv.sent 6 (by decide)
 obtain⟨cLong,Zbo,rLong⟩:=hv.row 0 (by decide)
 obtain⟨cSyntax,Zbk,rSyntax⟩:=hv.row 1 (by decide)
 obtain⟨cDeep,Zbn,rDeep⟩:=hv.row 2 (by decide)
 obtain⟨cType,Zbs,rType⟩:=hv.row 3 (by decide)
 obtain⟨cStore,Zbv,rStore⟩:=hv.row 4 (by decide)
 obtain⟨cTwice,Zbz,rTwice⟩:=hv.row 5 (by decide)
 obtain⟨cMany,ZbE,rMany⟩:=hv.row 6 (by decide)
 go_enter Tryz.func20,Tryz.ntmps20
 go_wp2_with fail
 refine(Zcj (A 6) (A 0) cMany cLong ZbE Zbo _ (hv.apart _ (by decide) _ (by decide) (by decide)) rMany rLong).mono ?_
 rintro e w' ⟨rfl,rfl⟩
 go_wp2_with fail
 refine(Zcj (A 6) (A 1) cMany cSyntax ZbE Zbk _ (hv.apart _ (by decide) _ (by decide) (by decide)) rMany rSyntax).mono ?_
 rintro e w' ⟨rfl,rfl⟩
 go_wp2_with fail
 refine(Zcj (A 6) (A 2) cMany cDeep ZbE Zbn _ (hv.apart _ (by decide) _ (by decide) (by decide)) rMany rDeep).mono ?_
 rintro e w' ⟨rfl,rfl⟩
 go_wp2_with fail
 refine(Zcj (A 6) (A 3) cMany cType ZbE Zbs _ (hv.apart _ (by decide) _ (by decide) (by decide)) rMany rType).mono ?_
 rintro e w' ⟨rfl,rfl⟩
 go_wp2_with fail
 refine(Zcj (A 6) (A 4) cMany cStore ZbE Zbv _ (hv.apart _ (by decide) _ (by decide) (by decide)) rMany rStore).mono ?_
 rintro e w' ⟨rfl,rfl⟩
 go_wp2_with fail
 refine(Zcj (A 6) (A 5) cMany cTwice ZbE Zbz _ (hv.apart _ (by decide) _ (by decide) (by decide)) rMany rTwice).mono ?_
 rintro e w' ⟨rfl,rfl⟩
 go_wp2_with fail
 refine(ZfZ (A 6) _).mono ?_
 rintro e w' ⟨rfl,rfl⟩
 go_wp2
 go_ret
 exact⟨rfl,rfl⟩
set_option maxHeartbeats 2000000 in
theorem Zqk(A:Nat→Addr)(m:Int)(w:World)(hv:Vars w A m) :
  Calls Tryz.prog 20 #[.iface 389 (.pointer (some (A 7)))] w fun e w'=>e=.returned (.int .i64 8)∧w'=w:=by
 have vLong:=hv.sent 0 (by decide)
 have vSyntax:=hv.sent 1 (by decide)
 have vDeep:=hv.sent 2 (by decide)
 have vType:=hv.sent 3 (by decide)
 have vStore:=hv.sent 4 (by decide)
 have vTwice:=hv.sent 5 (by decide)
 have vMany:=hv.sent 6 (by decide)
 have vTimes:=hv.sent 7 (by decide)
 obtain⟨cLong,Zbo,rLong⟩:=hv.row 0 (by decide)
 obtain⟨cSyntax,Zbk,rSyntax⟩:=hv.row 1 (by decide)
 obtain⟨cDeep,Zbn,rDeep⟩:=hv.row 2 (by decide)
 obtain⟨cType,Zbs,rType⟩:=hv.row 3 (by decide)
 obtain⟨cStore,Zbv,rStore⟩:=hv.row 4 (by decide)
 obtain⟨cTwice,Zbz,rTwice⟩:=hv.row 5 (by decide)
 obtain⟨cMany,ZbE,rMany⟩:=hv.row 6 (by decide)
 obtain⟨cTimes,ZbK,rTimes⟩:=hv.row 7 (by decide)
 go_enter Tryz.func20,Tryz.ntmps20
 go_wp2_with fail
 refine(Zcj (A 7) (A 0) cTimes cLong ZbK Zbo _ (hv.apart _ (by decide) _ (by decide) (by decide)) rTimes rLong).mono ?_
 rintro e w' ⟨rfl,rfl⟩
 go_wp2_with fail
 refine(Zcj (A 7) (A 1) cTimes cSyntax ZbK Zbk _ (hv.apart _ (by decide) _ (by decide) (by decide)) rTimes rSyntax).mono ?_
 rintro e w' ⟨rfl,rfl⟩
 go_wp2_with fail
 refine(Zcj (A 7) (A 2) cTimes cDeep ZbK Zbn _ (hv.apart _ (by decide) _ (by decide) (by decide)) rTimes rDeep).mono ?_
 rintro e w' ⟨rfl,rfl⟩
 go_wp2_with fail
 refine(Zcj (A 7) (A 3) cTimes cType ZbK Zbs _ (hv.apart _ (by decide) _ (by decide) (by decide)) rTimes rType).mono ?_
 rintro e w' ⟨rfl,rfl⟩
 go_wp2_with fail
 refine(Zcj (A 7) (A 4) cTimes cStore ZbK Zbv _ (hv.apart _ (by decide) _ (by decide) (by decide)) rTimes rStore).mono ?_
 rintro e w' ⟨rfl,rfl⟩
 go_wp2_with fail
 refine(Zcj (A 7) (A 5) cTimes cTwice ZbK Zbz _ (hv.apart _ (by decide) _ (by decide) (by decide)) rTimes rTwice).mono ?_
 rintro e w' ⟨rfl,rfl⟩
 go_wp2_with fail
 refine(Zcj (A 7) (A 6) cTimes cMany ZbK ZbE _ (hv.apart _ (by decide) _ (by decide) (by decide)) rTimes rMany).mono ?_
 rintro e w' ⟨rfl,rfl⟩
 go_wp2_with fail
 refine(ZfZ (A 7) _).mono ?_
 rintro e w' ⟨rfl,rfl⟩
 go_wp2
 go_ret
 exact⟨rfl,rfl⟩
end Go.Proofs.YtpbemaaghbbocaaGreatDoor

/- Parts. -/
import Derived.Test.YtkodhpilkaihjaaGreatDoorV31
namespace Go.Proofs.YtkodhpilkaihjaaGreatDoor
open Go.RowKit LS
set_option maxHeartbeats 2000000 in
theorem number_code(A:Nat→Addr)(m:Int)(w:World)(hv:Vars w A m)(fa:Nat)(hw:w.cell? ⟨fa,2,none⟩=some (.iface 491 (.pointer (some (A 8))))) :
  Calls Tryz.prog 22 #[.iface 115 (.pointer (some ⟨fa,0,none⟩))] w fun e w'=>e=.returned (.int .i64 9)∧w'=w:=by
 have vLong:=hv.sent 0 (by decide)
 have vSyntax:=hv.sent 1 (by decide)
 have vDeep:=hv.sent 2 (by decide)
 have vType:=hv.sent 3 (by decide)
 have vStore:=hv.sent 4 (by decide)
 have vTwice:=hv.sent 5 (by decide)
 have vMany:=hv.sent 6 (by decide)
 have vTimes:=hv.sent 7 (by decide)
 have vCode:=hv.sent 8 (by decide)
 obtain⟨cLong,tLong,rLong⟩:=hv.row 0 (by decide)
 obtain⟨cSyntax,tSyntax,rSyntax⟩:=hv.row 1 (by decide)
 obtain⟨cDeep,tDeep,rDeep⟩:=hv.row 2 (by decide)
 obtain⟨cType,tType,rType⟩:=hv.row 3 (by decide)
 obtain⟨cStore,tStore,rStore⟩:=hv.row 4 (by decide)
 obtain⟨cTwice,tTwice,rTwice⟩:=hv.row 5 (by decide)
 obtain⟨cMany,tMany,rMany⟩:=hv.row 6 (by decide)
 obtain⟨cTimes,tTimes,rTimes⟩:=hv.row 7 (by decide)
 obtain⟨cCode,tCode,rCode⟩:=hv.row 8 (by decide)
 go_enter Tryz.func22,Tryz.ntmps22
 go_wp2_with fail
 refine(is_wrap_other fa (A 0) (A 8) cCode cLong tCode tLong _ hw (hv.apart _ (by decide) _ (by decide) (by decide)) rCode rLong).mono ?_
 rintro e w' ⟨rfl,rfl⟩
 go_wp2_with fail
 refine(is_wrap_other fa (A 1) (A 8) cCode cSyntax tCode tSyntax _ hw (hv.apart _ (by decide) _ (by decide) (by decide)) rCode rSyntax).mono ?_
 rintro e w' ⟨rfl,rfl⟩
 go_wp2_with fail
 refine(is_wrap_other fa (A 2) (A 8) cCode cDeep tCode tDeep _ hw (hv.apart _ (by decide) _ (by decide) (by decide)) rCode rDeep).mono ?_
 rintro e w' ⟨rfl,rfl⟩
 go_wp2_with fail
 refine(is_wrap_other fa (A 3) (A 8) cCode cType tCode tType _ hw (hv.apart _ (by decide) _ (by decide) (by decide)) rCode rType).mono ?_
 rintro e w' ⟨rfl,rfl⟩
 go_wp2_with fail
 refine(is_wrap_other fa (A 4) (A 8) cCode cStore tCode tStore _ hw (hv.apart _ (by decide) _ (by decide) (by decide)) rCode rStore).mono ?_
 rintro e w' ⟨rfl,rfl⟩
 go_wp2_with fail
 refine(is_wrap_other fa (A 5) (A 8) cCode cTwice tCode tTwice _ hw (hv.apart _ (by decide) _ (by decide) (by decide)) rCode rTwice).mono ?_
 rintro e w' ⟨rfl,rfl⟩
 go_wp2_with fail
 refine(is_wrap_other fa (A 6) (A 8) cCode cMany tCode tMany _ hw (hv.apart _ (by decide) _ (by decide) (by decide)) rCode rMany).mono ?_
 rintro e w' ⟨rfl,rfl⟩
 go_wp2_with fail
 refine(is_wrap_other fa (A 7) (A 8) cCode cTimes tCode tTimes _ hw (hv.apart _ (by decide) _ (by decide) (by decide)) rCode rTimes).mono ?_
 rintro e w' ⟨rfl,rfl⟩
 go_wp2_with fail
 refine(is_wrap_same fa (A 8) _ hw).mono ?_
 rintro e w' ⟨rfl,rfl⟩
 go_wp2
 go_ret
 exact⟨rfl,rfl⟩
set_option maxHeartbeats 2000000 in
theorem number_sum(A:Nat→Addr)(m:Int)(w:World)(hv:Vars w A m) :
  Calls Tryz.prog 22 #[.iface 491 (.pointer (some (A 9)))] w fun e w'=>e=.returned (.int .i64 10)∧w'=w:=by
 have vLong:=hv.sent 0 (by decide)
 have vSyntax:=hv.sent 1 (by decide)
 have vDeep:=hv.sent 2 (by decide)
 have vType:=hv.sent 3 (by decide)
 have vStore:=hv.sent 4 (by decide)
 have vTwice:=hv.sent 5 (by decide)
 have vMany:=hv.sent 6 (by decide)
 have vTimes:=hv.sent 7 (by decide)
 have vCode:=hv.sent 8 (by decide)
 have vSum:=hv.sent 9 (by decide)
 obtain⟨cLong,tLong,rLong⟩:=hv.row 0 (by decide)
 obtain⟨cSyntax,tSyntax,rSyntax⟩:=hv.row 1 (by decide)
 obtain⟨cDeep,tDeep,rDeep⟩:=hv.row 2 (by decide)
 obtain⟨cType,tType,rType⟩:=hv.row 3 (by decide)
 obtain⟨cStore,tStore,rStore⟩:=hv.row 4 (by decide)
 obtain⟨cTwice,tTwice,rTwice⟩:=hv.row 5 (by decide)
 obtain⟨cMany,tMany,rMany⟩:=hv.row 6 (by decide)
 obtain⟨cTimes,tTimes,rTimes⟩:=hv.row 7 (by decide)
 obtain⟨cCode,tCode,rCode⟩:=hv.row 8 (by decide)
 obtain⟨cSum,tSum,rSum⟩:=hv.row 9 (by decide)
 go_enter Tryz.func22,Tryz.ntmps22
 go_wp2_with fail
 refine(is_other (A 9) (A 0) cSum cLong tSum tLong _ (hv.apart _ (by decide) _ (by decide) (by decide)) rSum rLong).mono ?_
 rintro e w' ⟨rfl,rfl⟩
 go_wp2_with fail
 refine(is_other (A 9) (A 1) cSum cSyntax tSum tSyntax _ (hv.apart _ (by decide) _ (by decide) (by decide)) rSum rSyntax).mono ?_
 rintro e w' ⟨rfl,rfl⟩
 go_wp2_with fail
 refine(is_other (A 9) (A 2) cSum cDeep tSum tDeep _ (hv.apart _ (by decide) _ (by decide) (by decide)) rSum rDeep).mono ?_
 rintro e w' ⟨rfl,rfl⟩
 go_wp2_with fail
 refine(is_other (A 9) (A 3) cSum cType tSum tType _ (hv.apart _ (by decide) _ (by decide) (by decide)) rSum rType).mono ?_
 rintro e w' ⟨rfl,rfl⟩
 go_wp2_with fail
 refine(is_other (A 9) (A 4) cSum cStore tSum tStore _ (hv.apart _ (by decide) _ (by decide) (by decide)) rSum rStore).mono ?_
 rintro e w' ⟨rfl,rfl⟩
 go_wp2_with fail
 refine(is_other (A 9) (A 5) cSum cTwice tSum tTwice _ (hv.apart _ (by decide) _ (by decide) (by decide)) rSum rTwice).mono ?_
 rintro e w' ⟨rfl,rfl⟩
 go_wp2_with fail
 refine(is_other (A 9) (A 6) cSum cMany tSum tMany _ (hv.apart _ (by decide) _ (by decide) (by decide)) rSum rMany).mono ?_
 rintro e w' ⟨rfl,rfl⟩
 go_wp2_with fail
 refine(is_other (A 9) (A 7) cSum cTimes tSum tTimes _ (hv.apart _ (by decide) _ (by decide) (by decide)) rSum rTimes).mono ?_
 rintro e w' ⟨rfl,rfl⟩
 go_wp2_with fail
 refine(is_other (A 9) (A 8) cSum cCode tSum tCode _ (hv.apart _ (by decide) _ (by decide) (by decide)) rSum rCode).mono ?_
 rintro e w' ⟨rfl,rfl⟩
 go_wp2_with fail
 refine(is_same (A 9) _).mono ?_
 rintro e w' ⟨rfl,rfl⟩
 go_wp2
 go_ret
 exact⟨rfl,rfl⟩
set_option maxHeartbeats 2000000 in
theorem number_refer(A:Nat→Addr)(m:Int)(w:World)(hv:Vars w A m)(fa:Nat)(hw:w.cell? ⟨fa,2,none⟩=some (.iface 491 (.pointer (some (A 10))))) :
  Calls Tryz.prog 22 #[.iface 115 (.pointer (some ⟨fa,0,none⟩))] w fun e w'=>e=.returned (.int .i64 11)∧w'=w:=by
 have vLong:=hv.sent 0 (by decide)
 have vSyntax:=hv.sent 1 (by decide)
 have vDeep:=hv.sent 2 (by decide)
 have vType:=hv.sent 3 (by decide)
 have vStore:=hv.sent 4 (by decide)
 have vTwice:=hv.sent 5 (by decide)
 have vMany:=hv.sent 6 (by decide)
 have vTimes:=hv.sent 7 (by decide)
 have vCode:=hv.sent 8 (by decide)
 have vSum:=hv.sent 9 (by decide)
 have vRefer:=hv.sent 10 (by decide)
 obtain⟨cLong,tLong,rLong⟩:=hv.row 0 (by decide)
 obtain⟨cSyntax,tSyntax,rSyntax⟩:=hv.row 1 (by decide)
 obtain⟨cDeep,tDeep,rDeep⟩:=hv.row 2 (by decide)
 obtain⟨cType,tType,rType⟩:=hv.row 3 (by decide)
 obtain⟨cStore,tStore,rStore⟩:=hv.row 4 (by decide)
 obtain⟨cTwice,tTwice,rTwice⟩:=hv.row 5 (by decide)
 obtain⟨cMany,tMany,rMany⟩:=hv.row 6 (by decide)
 obtain⟨cTimes,tTimes,rTimes⟩:=hv.row 7 (by decide)
 obtain⟨cCode,tCode,rCode⟩:=hv.row 8 (by decide)
 obtain⟨cSum,tSum,rSum⟩:=hv.row 9 (by decide)
 obtain⟨cRefer,tRefer,rRefer⟩:=hv.row 10 (by decide)
 go_enter Tryz.func22,Tryz.ntmps22
 go_wp2_with fail
 refine(is_wrap_other fa (A 0) (A 10) cRefer cLong tRefer tLong _ hw (hv.apart _ (by decide) _ (by decide) (by decide)) rRefer rLong).mono ?_
 rintro e w' ⟨rfl,rfl⟩
 go_wp2_with fail
 refine(is_wrap_other fa (A 1) (A 10) cRefer cSyntax tRefer tSyntax _ hw (hv.apart _ (by decide) _ (by decide) (by decide)) rRefer rSyntax).mono ?_
 rintro e w' ⟨rfl,rfl⟩
 go_wp2_with fail
 refine(is_wrap_other fa (A 2) (A 10) cRefer cDeep tRefer tDeep _ hw (hv.apart _ (by decide) _ (by decide) (by decide)) rRefer rDeep).mono ?_
 rintro e w' ⟨rfl,rfl⟩
 go_wp2_with fail
 refine(is_wrap_other fa (A 3) (A 10) cRefer cType tRefer tType _ hw (hv.apart _ (by decide) _ (by decide) (by decide)) rRefer rType).mono ?_
 rintro e w' ⟨rfl,rfl⟩
 go_wp2_with fail
 refine(is_wrap_other fa (A 4) (A 10) cRefer cStore tRefer tStore _ hw (hv.apart _ (by decide) _ (by decide) (by decide)) rRefer rStore).mono ?_
 rintro e w' ⟨rfl,rfl⟩
 go_wp2_with fail
 refine(is_wrap_other fa (A 5) (A 10) cRefer cTwice tRefer tTwice _ hw (hv.apart _ (by decide) _ (by decide) (by decide)) rRefer rTwice).mono ?_
 rintro e w' ⟨rfl,rfl⟩
 go_wp2_with fail
 refine(is_wrap_other fa (A 6) (A 10) cRefer cMany tRefer tMany _ hw (hv.apart _ (by decide) _ (by decide) (by decide)) rRefer rMany).mono ?_
 rintro e w' ⟨rfl,rfl⟩
 go_wp2_with fail
 refine(is_wrap_other fa (A 7) (A 10) cRefer cTimes tRefer tTimes _ hw (hv.apart _ (by decide) _ (by decide) (by decide)) rRefer rTimes).mono ?_
 rintro e w' ⟨rfl,rfl⟩
 go_wp2_with fail
 refine(is_wrap_other fa (A 8) (A 10) cRefer cCode tRefer tCode _ hw (hv.apart _ (by decide) _ (by decide) (by decide)) rRefer rCode).mono ?_
 rintro e w' ⟨rfl,rfl⟩
 go_wp2_with fail
 refine(is_wrap_other fa (A 9) (A 10) cRefer cSum tRefer tSum _ hw (hv.apart _ (by decide) _ (by decide) (by decide)) rRefer rSum).mono ?_
 rintro e w' ⟨rfl,rfl⟩
 go_wp2_with fail
 refine(is_wrap_same fa (A 10) _ hw).mono ?_
 rintro e w' ⟨rfl,rfl⟩
 go_wp2
 go_ret
 exact⟨rfl,rfl⟩
set_option maxHeartbeats 2000000 in
theorem number_stack(A:Nat→Addr)(m:Int)(w:World)(hv:Vars w A m)(fa:Nat)(hw:w.cell? ⟨fa,2,none⟩=some (.iface 491 (.pointer (some (A 11))))) :
  Calls Tryz.prog 22 #[.iface 115 (.pointer (some ⟨fa,0,none⟩))] w fun e w'=>e=.returned (.int .i64 12)∧w'=w:=by
 have vLong:=hv.sent 0 (by decide)
 have vSyntax:=hv.sent 1 (by decide)
 have vDeep:=hv.sent 2 (by decide)
 have vType:=hv.sent 3 (by decide)
 have vStore:=hv.sent 4 (by decide)
 have vTwice:=hv.sent 5 (by decide)
 have vMany:=hv.sent 6 (by decide)
 have vTimes:=hv.sent 7 (by decide)
 have vCode:=hv.sent 8 (by decide)
 have vSum:=hv.sent 9 (by decide)
 have vRefer:=hv.sent 10 (by decide)
 have vStack:=hv.sent 11 (by decide)
 obtain⟨cLong,tLong,rLong⟩:=hv.row 0 (by decide)
 obtain⟨cSyntax,tSyntax,rSyntax⟩:=hv.row 1 (by decide)
 obtain⟨cDeep,tDeep,rDeep⟩:=hv.row 2 (by decide)
 obtain⟨cType,tType,rType⟩:=hv.row 3 (by decide)
 obtain⟨cStore,tStore,rStore⟩:=hv.row 4 (by decide)
 obtain⟨cTwice,tTwice,rTwice⟩:=hv.row 5 (by decide)
 obtain⟨cMany,tMany,rMany⟩:=hv.row 6 (by decide)
 obtain⟨cTimes,tTimes,rTimes⟩:=hv.row 7 (by decide)
 obtain⟨cCode,tCode,rCode⟩:=hv.row 8 (by decide)
 obtain⟨cSum,tSum,rSum⟩:=hv.row 9 (by decide)
 obtain⟨cRefer,tRefer,rRefer⟩:=hv.row 10 (by decide)
 obtain⟨cStack,tStack,rStack⟩:=hv.row 11 (by decide)
 go_enter Tryz.func22,Tryz.ntmps22
 go_wp2_with fail
 refine(is_wrap_other fa (A 0) (A 11) cStack cLong tStack tLong _ hw (hv.apart _ (by decide) _ (by decide) (by decide)) rStack rLong).mono ?_
 rintro e w' ⟨rfl,rfl⟩
 go_wp2_with fail
 refine(is_wrap_other fa (A 1) (A 11) cStack cSyntax tStack tSyntax _ hw (hv.apart _ (by decide) _ (by decide) (by decide)) rStack rSyntax).mono ?_
 rintro e w' ⟨rfl,rfl⟩
 go_wp2_with fail
 refine(is_wrap_other fa (A 2) (A 11) cStack cDeep tStack tDeep _ hw (hv.apart _ (by decide) _ (by decide) (by decide)) rStack rDeep).mono ?_
 rintro e w' ⟨rfl,rfl⟩
 go_wp2_with fail
 refine(is_wrap_other fa (A 3) (A 11) cStack cType tStack tType _ hw (hv.apart _ (by decide) _ (by decide) (by decide)) rStack rType).mono ?_
 rintro e w' ⟨rfl,rfl⟩
 go_wp2_with fail
 refine(is_wrap_other fa (A 4) (A 11) cStack cStore tStack tStore _ hw (hv.apart _ (by decide) _ (by decide) (by decide)) rStack rStore).mono ?_
 rintro e w' ⟨rfl,rfl⟩
 go_wp2_with fail
 refine(is_wrap_other fa (A 5) (A 11) cStack cTwice tStack tTwice _ hw (hv.apart _ (by decide) _ (by decide) (by decide)) rStack rTwice).mono ?_
 rintro e w' ⟨rfl,rfl⟩
 go_wp2_with fail
 refine(is_wrap_other fa (A 6) (A 11) cStack cMany tStack tMany _ hw (hv.apart _ (by decide) _ (by decide) (by decide)) rStack rMany).mono ?_
 rintro e w' ⟨rfl,rfl⟩
 go_wp2_with fail
 refine(is_wrap_other fa (A 7) (A 11) cStack cTimes tStack tTimes _ hw (hv.apart _ (by decide) _ (by decide) (by decide)) rStack rTimes).mono ?_
 rintro e w' ⟨rfl,rfl⟩
 go_wp2_with fail
 refine(is_wrap_other fa (A 8) (A 11) cStack cCode tStack tCode _ hw (hv.apart _ (by decide) _ (by decide) (by decide)) rStack rCode).mono ?_
 rintro e w' ⟨rfl,rfl⟩
 go_wp2_with fail
 refine(is_wrap_other fa (A 9) (A 11) cStack cSum tStack tSum _ hw (hv.apart _ (by decide) _ (by decide) (by decide)) rStack rSum).mono ?_
 rintro e w' ⟨rfl,rfl⟩
 go_wp2_with fail
 refine(is_wrap_other fa (A 10) (A 11) cStack cRefer tStack tRefer _ hw (hv.apart _ (by decide) _ (by decide) (by decide)) rStack rRefer).mono ?_
 rintro e w' ⟨rfl,rfl⟩
 go_wp2_with fail
 refine(is_wrap_same fa (A 11) _ hw).mono ?_
 rintro e w' ⟨rfl,rfl⟩
 go_wp2
 go_ret
 exact⟨rfl,rfl⟩
end Go.Proofs.YtkodhpilkaihjaaGreatDoor
namespace Go.Proofs.YtkodhpilkaihjaaGreatDoor
open Go.RowKit Go.Extern.Stop Go.Stop Go.Extern LS
theorem as_nil(t:Value)(w:World) :
  Calls Tryz.prog 41 #[.nilIface,t] w fun e w'=>e=.returned (.bool false)∧w'=w:=by
 go_enter Tryz.func41,Tryz.ntmps41
 go_wp2
 go_ret
 exact⟨rfl,rfl⟩
def entValueOf:Array Value→Sem Value:=fun args=>ReflectliteValue.unpack (args.getD 0 (.tuple #[]))
def entType : Array Value → Sem Value := ReflectliteValue.methodAny (ReflectliteValue.valueError "reflectlite.Value.Type" 0) fun t _ _ _ => ReflectliteType.toType t
def entIsNil : Array Value → Sem Value := ReflectliteValue.method (ReflectliteValue.valueError "reflectlite.Value.IsNil" 0) ReflectliteValue.isNil
def entKind:Array Value→Sem Value:=ReflectliteType.abiMethod fun t=>do pure (.int .u8 (←Rtype.kind t))
def entElem:Array Value→Sem Value:=ReflectliteType.method ReflectliteType.elem
def entImpl : Array Value → Sem Value := ReflectliteType.relation "Implements" ReflectliteType.implements_
def entAssign : Array Value → Sem Value := ReflectliteType.relation "AssignableTo" ReflectliteType.assignableTo
def entElemV : Array Value → Sem Value := ReflectliteValue.method (ReflectliteValue.valueError "reflectlite.Value.Elem" 0) ReflectliteValue.elem
theorem x_valueOf (args : Array Value) (w : World) : (callFunc 84 args).run Tryz.prog w = ((entValueOf args).run Tryz.prog w).andThen fun v w' => .ok (.value v) w' :=
  run_callFunc_extern Tryz.func84 (by kernel_rfl) (by kernel_rfl) (by kernel_rfl) (by kernel_rfl) args w
theorem x_type (args : Array Value) (w : World) : (callFunc 85 args).run Tryz.prog w = ((entType args).run Tryz.prog w).andThen fun v w' => .ok (.value v) w' :=
  run_callFunc_extern Tryz.func85 (by kernel_rfl) (by kernel_rfl) (by kernel_rfl) (by kernel_rfl) args w
theorem x_isNil (args : Array Value) (w : World) : (callFunc 86 args).run Tryz.prog w = ((entIsNil args).run Tryz.prog w).andThen fun v w' => .ok (.value v) w' :=
  run_callFunc_extern Tryz.func86 (by kernel_rfl) (by kernel_rfl) (by kernel_rfl) (by kernel_rfl) args w
theorem x_kind (args : Array Value) (w : World) : (callFunc 336 args).run Tryz.prog w = ((entKind args).run Tryz.prog w).andThen fun v w' => .ok (.value v) w' :=
  run_callFunc_extern Tryz.func336 (by kernel_rfl) (by kernel_rfl) (by kernel_rfl) (by kernel_rfl) args w
theorem x_elem (args : Array Value) (w : World) : (callFunc 354 args).run Tryz.prog w = ((entElem args).run Tryz.prog w).andThen fun v w' => .ok (.value v) w' :=
  run_callFunc_extern Tryz.func354 (by kernel_rfl) (by kernel_rfl) (by kernel_rfl) (by kernel_rfl) args w
theorem x_impl (args : Array Value) (w : World) : (callFunc 355 args).run Tryz.prog w = ((entImpl args).run Tryz.prog w).andThen fun v w' => .ok (.value v) w' :=
  run_callFunc_extern Tryz.func355 (by kernel_rfl) (by kernel_rfl) (by kernel_rfl) (by kernel_rfl) args w
theorem x_assign (args : Array Value) (w : World) : (callFunc 352 args).run Tryz.prog w = ((entAssign args).run Tryz.prog w).andThen fun v w' => .ok (.value v) w' :=
  run_callFunc_extern Tryz.func352 (by kernel_rfl) (by kernel_rfl) (by kernel_rfl) (by kernel_rfl) args w
theorem x_elemV (args : Array Value) (w : World) : (callFunc 150 args).run Tryz.prog w = ((entElemV args).run Tryz.prog w).andThen fun v w' => .ok (.value v) w' :=
  run_callFunc_extern Tryz.func150 (by kernel_rfl) (by kernel_rfl) (by kernel_rfl) (by kernel_rfl) args w
theorem x_set (args : Array Value) (w : World) : (callFunc 151 args).run Tryz.prog w = ((ReflectliteValue.set args).run Tryz.prog w).andThen fun v w' => .ok (.value v) w' :=
  run_callFunc_extern Tryz.func151 (by kernel_rfl) (by kernel_rfl) (by kernel_rfl) (by kernel_rfl) args w
theorem f_valueOf2(t:Addr)(w:World):(entValueOf #[.iface 117 (.pointer (some t))]).run Tryz.prog w
  = .ok (.agg #[.pointer (some ⟨20,117,none⟩),.pointer (some ⟨w.heap.size,0,none⟩),.int .u64 150]) (w.alloc (.cells #[.pointer (some t)] 117)):=by kernel_rfl
theorem f_type2(a:Addr)(w:World):(entType #[.agg #[.pointer (some ⟨20,117,none⟩),.pointer (some a),.int .u64 150]]).run Tryz.prog w
  = .ok (.iface 316 (.agg #[.pointer (some ⟨20,117,none⟩)])) w:=by kernel_rfl
theorem m_kind (h : Value) (w : World) : (Go.method 620 316 (.agg #[h]) "Kind").run Tryz.prog w = .ok (336, h) w := by kernel_rfl
theorem f_kind2(w:World):(entKind #[.pointer (some ⟨20,117,none⟩)]).run Tryz.prog w=.ok (.int .u8 22) w:=by kernel_rfl
theorem f_kind1(w:World):(entKind #[.pointer (some ⟨20,115,none⟩)]).run Tryz.prog w=.ok (.int .u8 22) w:=by kernel_rfl
theorem m_elem (h : Value) (w : World) : (Go.method 620 316 (.agg #[h]) "Elem").run Tryz.prog w = .ok (354, .agg #[h]) w := by kernel_rfl
theorem m_impl (h : Value) (w : World) : (Go.method 620 316 (.agg #[h]) "Implements").run Tryz.prog w = .ok (355, .agg #[h]) w := by kernel_rfl
theorem m_assign (h : Value) (w : World) : (Go.method 620 316 (.agg #[h]) "AssignableTo").run Tryz.prog w = .ok (352, .agg #[h]) w := by kernel_rfl
theorem f_elem2(w:World):(entElem #[.agg #[.pointer (some ⟨20,117,none⟩)]]).run Tryz.prog w=.ok (.iface 316 (.agg #[.pointer (some ⟨20,115,none⟩)])) w:=by kernel_rfl
theorem f_impl1(w:World):(entImpl #[.agg #[.pointer (some ⟨20,115,none⟩)],.iface 316 (.agg #[.pointer (some ⟨20,60,none⟩)])]).run Tryz.prog w=.ok (.bool true) w:=by kernel_rfl
theorem f_typeOf1(v:Value)(w:World):(ReflectliteType.typeOf #[.iface 115 v]).run Tryz.prog w=.ok (.iface 316 (.agg #[.pointer (some ⟨20,115,none⟩)])) w:=by kernel_rfl
theorem f_assign1(w:World):(entAssign #[.agg #[.pointer (some ⟨20,115,none⟩)],.iface 316 (.agg #[.pointer (some ⟨20,115,none⟩)])]).run Tryz.prog w=.ok (.bool true) w:=by kernel_rfl
theorem f_assignE(w:World):(entAssign #[.agg #[.pointer (some ⟨20,491,none⟩)],.iface 316 (.agg #[.pointer (some ⟨20,115,none⟩)])]).run Tryz.prog w=.ok (.bool false) w:=by kernel_rfl
theorem f_valueOf1(e:Addr)(w:World):(entValueOf #[.iface 115 (.pointer (some e))]).run Tryz.prog w
  = .ok (.agg #[.pointer (some ⟨20,115,none⟩),.pointer (some ⟨w.heap.size,0,none⟩),.int .u64 150]) (w.alloc (.cells #[.pointer (some e)] 115)):=by kernel_rfl
theorem noAsE(v:Value)(xT:TypeId)(w:World):(Instr.typeAssert (.iface 491 v) xT 327 true).run Tryz.prog w=.ok (.tuple #[.nilIface,.bool false]) w:=run_typeAssert_lacksB Tryz.underlying327 (by kernel_rfl) (by kernel_rfl) v xT w
theorem p_two(a:Addr)(w:World):(ReflectliteValue.parts (.agg #[.pointer (some ⟨20,117,none⟩),.pointer (some a),.int .u64 150])).run Tryz.prog w=.ok (some (117,a,150)) w:=by kernel_rfl
theorem f_isNil2(a p:Addr)(W:World)(ha:W.cell? a=some (.pointer (some p))) :
  (entIsNil #[.agg #[.pointer (some ⟨20,117,none⟩),.pointer (some a),.int .u64 150]]).run Tryz.prog W=.ok (.bool false) W:=by
 refine(congrArg (fun q=>Sem.run Tryz.prog q W) (show entIsNil _=(ReflectliteValue.parts (.agg #[.pointer (some ⟨20,117,none⟩),.pointer (some a),.int .u64 150]) >>= fun r=>_) from rfl)).trans ?_
 simp only[Sem.run_bind,p_two,Result.andThen]
 simp[ReflectliteValue.isNil,loadVar,isAgg,underlying,Tryz.underlying117,ha,Result.andThen]
theorem p_elem2(w:World):(Rtype.elem? 117).run Tryz.prog w=.ok (some 115) w:=by kernel_rfl
theorem p_mk1(p:Addr)(w:World):(ReflectliteValue.mk 115 p ReflectliteValue.flagAddr).run Tryz.prog w=.ok (.agg #[.pointer (some ⟨20,115,none⟩),.pointer (some p),.int .u64 406]) w:=by kernel_rfl
theorem f_elemV2(a p:Addr)(W:World)(ha:W.cell? a=some (.pointer (some p))) :
  (entElemV #[.agg #[.pointer (some ⟨20,117,none⟩),.pointer (some a),.int .u64 150]]).run Tryz.prog W
   = .ok (.agg #[.pointer (some ⟨20,115,none⟩),.pointer (some p),.int .u64 406]) W:=by
 refine(congrArg (fun q=>Sem.run Tryz.prog q W) (show entElemV _=(ReflectliteValue.parts (.agg #[.pointer (some ⟨20,117,none⟩),.pointer (some a),.int .u64 150]) >>= fun r=>_) from rfl)).trans ?_
 simp only[Sem.run_bind,p_two,Result.andThen]
 simp[ReflectliteValue.elem,loadVar,isAgg,underlying,Tryz.underlying117,ha,Result.andThen,p_elem2,p_mk1]
theorem p_oneA(a:Addr)(w:World):(ReflectliteValue.parts (.agg #[.pointer (some ⟨20,115,none⟩),.pointer (some a),.int .u64 406])).run Tryz.prog w=.ok (some (115,a,406)) w:=by kernel_rfl
theorem p_one(a:Addr)(w:World):(ReflectliteValue.parts (.agg #[.pointer (some ⟨20,115,none⟩),.pointer (some a),.int .u64 150])).run Tryz.prog w=.ok (some (115,a,150)) w:=by kernel_rfl
theorem p_direct(w:World):(Rtype.directlyAssignable 115 115).run Tryz.prog w=.ok true w:=by kernel_rfl
theorem f_set1(ta b e:Addr)(old:Value)(W:World)(hb:W.cell? b=some (.pointer (some e)))(ht:W.cell? ta=some old)(hf:W.frozen? ta=false) :
  (ReflectliteValue.set #[.agg #[.pointer (some ⟨20,115,none⟩),.pointer (some ta),.int .u64 406],.agg #[.pointer (some ⟨20,115,none⟩),.pointer (some b),.int .u64 150]]).run Tryz.prog W
   = .ok (.tuple #[]) (W.setCell ta (.pointer (some e))):=by
 refine(congrArg (fun q=>Sem.run Tryz.prog q W) (show ReflectliteValue.set _=(ReflectliteValue.parts (.agg #[.pointer (some ⟨20,115,none⟩),.pointer (some ta),.int .u64 406]) >>= fun r=>ReflectliteValue.parts (.agg #[.pointer (some ⟨20,115,none⟩),.pointer (some b),.int .u64 150]) >>= fun s=>_) from rfl)).trans ?_
 simp only[Sem.run_bind,p_oneA,p_one,Result.andThen]
 simp[ReflectliteValue.flagAddr,loadVar,isAgg,underlying,Tryz.underlying115,hb,Result.andThen,p_direct,storeVar,Value.cells,storeCells,Addr.add]
 rw[run_store Tryz.prog W ta _ _ (by rfl)]
 simp[ht,hf]
set_option maxHeartbeats 4000000 in
theorem as_hit(e t:Addr)(old:Value)(w:World)(hg:w.cell? ⟨13,0,none⟩=some (.iface 316 (.agg #[.pointer (some ⟨20,60,none⟩)])))(ht0:w.cell? t=some old)(hf0:w.frozen? t=false) :
  Calls Tryz.prog 41 #[.iface 115 (.pointer (some e)),.iface 117 (.pointer (some t))] w fun ev w'=>ev=.returned (.bool true)∧w'=((((w.alloc (.cells #[.pointer (some t)] 117)).alloc (.cells #[.pointer (some ⟨20,117,none⟩),.pointer (some ⟨w.heap.size,0,none⟩),.int .u64 150] 196)).alloc (.cells #[.pointer (some ⟨20,117,none⟩),.pointer (some ⟨w.heap.size,0,none⟩),.int .u64 150] 196)).alloc (.cells #[.pointer (some e)] 115)).setCell t (.pointer (some e)):=by
 have h6:=x_valueOf
 have h7:=x_type
 have h8:=x_isNil
 have h27:=x_kind
 have h37:=x_elem
 have h38:=x_impl
 have h10:=x_typeOf
 have h35:=x_assign
 have h11:=x_elemV
 have h12:=x_set
 have tO:=f_typeOf1
 have mA:=m_assign
 have a25:=f_assign1
 have v25:=f_valueOf1
 have f6:=f_valueOf2
 have f7:=f_type2
 have mK:=m_kind
 have mE:=m_elem
 have mI:=m_impl
 have k27:=f_kind2
 have k25:=f_kind1
 have e27:=f_elem2
 have i25:=f_impl1
 have n8:=f_isNil2 ⟨w.heap.size,0,none⟩ t ((w.alloc (.cells #[.pointer (some t)] 117)).alloc (.cells #[.pointer (some ⟨20,117,none⟩),.pointer (some ⟨w.heap.size,0,none⟩),.int .u64 150] 196)) (by simp)
 have hlt:13<w.heap.size:=World.block_lt_of_cell? _ _ hg
 have hg2:((w.alloc (.cells #[.pointer (some t)] 117)).alloc (.cells #[.pointer (some ⟨20,117,none⟩),.pointer (some ⟨w.heap.size,0,none⟩),.int .u64 150] 196)).cell? ⟨13,0,none⟩=some (.iface 316 (.agg #[.pointer (some ⟨20,60,none⟩)])):=by
  rw[World.cell?_alloc_lt _ _ ⟨13,0,none⟩ (by simp;omega),World.cell?_alloc_lt _ _ ⟨13,0,none⟩ hlt];exact hg
 have htl:=World.block_lt_of_cell? _ _ ht0
 have el:=f_elemV2 ⟨w.heap.size,0,none⟩ t (((w.alloc (.cells #[.pointer (some t)] 117)).alloc (.cells #[.pointer (some ⟨20,117,none⟩),.pointer (some ⟨w.heap.size,0,none⟩),.int .u64 150] 196)).alloc (.cells #[.pointer (some ⟨20,117,none⟩),.pointer (some ⟨w.heap.size,0,none⟩),.int .u64 150] 196)) (by rw[World.cell?_alloc_lt _ _ ⟨w.heap.size,0,none⟩ (by simp;omega)];simp)
 have st:=f_set1 t ⟨w.heap.size+1+1+1,0,none⟩ e old ((((w.alloc (.cells #[.pointer (some t)] 117)).alloc (.cells #[.pointer (some ⟨20,117,none⟩),.pointer (some ⟨w.heap.size,0,none⟩),.int .u64 150] 196)).alloc (.cells #[.pointer (some ⟨20,117,none⟩),.pointer (some ⟨w.heap.size,0,none⟩),.int .u64 150] 196)).alloc (.cells #[.pointer (some e)] 115))
  (by rw[World.cell?_alloc_at _ _ _ _ (by simp)];rfl)
  (by rw[World.cell?_alloc_lt _ _ t (by simp;omega),World.cell?_alloc_lt _ _ t (by simp;omega),World.cell?_alloc_lt _ _ t (by simp;omega),World.cell?_alloc_lt _ _ t htl];exact ht0)
  (by rw[World.frozen?_alloc_old _ _ t (by simp;omega),World.frozen?_alloc_old _ _ t (by simp;omega),World.frozen?_alloc_old _ _ t (by simp;omega),World.frozen?_alloc_old _ _ t (Nat.ne_of_lt htl)];exact hf0)
 go_enter Tryz.func41,Tryz.ntmps41
 go_wp2
 refine wp_loop_rounds 1 ?_
 rw[rounds_succ]
 go_wp2
 go_ret
 exact⟨rfl,rfl⟩
set_option maxHeartbeats 4000000 in
theorem as_miss(e t:Addr)(w:World)(hg:w.cell? ⟨13,0,none⟩=some (.iface 316 (.agg #[.pointer (some ⟨20,60,none⟩)]))) :
  Calls Tryz.prog 41 #[.iface 491 (.pointer (some e)),.iface 117 (.pointer (some t))] w fun ev w'=>ev=.returned (.bool false)∧Below w.heap.size w w':=by
 have h6:=x_valueOf
 have h7:=x_type
 have h8:=x_isNil
 have h27:=x_kind
 have h37:=x_elem
 have h38:=x_impl
 have h10:=x_typeOf
 have h35:=x_assign
 have tO:=Tryz.isTypeOf
 have mA:=m_assign
 have a25:=f_assignE
 have f6:=f_valueOf2
 have f7:=f_type2
 have mK:=m_kind
 have mE:=m_elem
 have mI:=m_impl
 have k27:=f_kind2
 have k25:=f_kind1
 have e27:=f_elem2
 have i25:=f_impl1
 have nA:=noAsE
 have uE:=Tryz.noUnwrapE
 have vE:=Tryz.noUnwrapsE
 have n8:=f_isNil2 ⟨w.heap.size,0,none⟩ t ((w.alloc (.cells #[.pointer (some t)] 117)).alloc (.cells #[.pointer (some ⟨20,117,none⟩),.pointer (some ⟨w.heap.size,0,none⟩),.int .u64 150] 196)) (by simp)
 have hlt:13<w.heap.size:=World.block_lt_of_cell? _ _ hg
 have hg2:((w.alloc (.cells #[.pointer (some t)] 117)).alloc (.cells #[.pointer (some ⟨20,117,none⟩),.pointer (some ⟨w.heap.size,0,none⟩),.int .u64 150] 196)).cell? ⟨13,0,none⟩=some (.iface 316 (.agg #[.pointer (some ⟨20,60,none⟩)])):=by
  rw[World.cell?_alloc_lt _ _ ⟨13,0,none⟩ (by simp;omega),World.cell?_alloc_lt _ _ ⟨13,0,none⟩ hlt];exact hg
 go_enter Tryz.func41,Tryz.ntmps41
 go_wp2
 refine wp_loop_rounds 1 ?_
 rw[rounds_succ]
 go_wp2
 go_ret
 exact⟨rfl,(by repeat first|exact Below.refl _ _|assumption|refine Below.alloc ?_ ?_ _|refine Below.setCell ?_ ?_ _|refine below_drewN' ?_ _|refine Below.drew ?_|omega|(simp;omega)|simp)⟩
end Go.Proofs.YtkodhpilkaihjaaGreatDoor

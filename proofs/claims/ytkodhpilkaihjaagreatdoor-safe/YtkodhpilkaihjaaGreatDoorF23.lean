/- Parts. -/
import Derived.Test.YtkodhpilkaihjaaGreatDoorCards
import Derived.SevenTiedAt
set_option linter.all false
set_option maxRecDepth 100000
set_option maxHeartbeats 16000000
namespace Go.Proofs.YtkodhpilkaihjaaGreatDoor
open Go.Proofs.Tryz
open Go
theorem ZOo:Rows.safeRow.wfByText (OpenSpec.ofChange Rows.safeSpec)=true:=by kernel_rfl
theorem ZOl:true=prog.looks []:=by kernel_rfl
theorem ZOk:false=Rows.safeRow.goesBy prog:=by kernel_rfl
theorem ZOm : Tryz.prog.funcNamed "gauge/gaugekeep.Safe" = some 5 := by kernel_rfl
theorem ZOn:([9,9,26,3].all fun u=>!prog.wantsStandIn u)=true:=by kernel_rfl

/- Parts. -/
import Derived.Test.YtkodhpilkaihjaaGreatDoorCards
import Derived.SevenTiedAt
set_option linter.all false
set_option maxRecDepth 100000
set_option maxHeartbeats 16000000
namespace Go.Proofs.YtkodhpilkaihjaaGreatDoor
open Go.Proofs.Tryz
open Go
theorem ZDZ:Rows.verifiedRow.wfByText (OpenSpec.ofChange Rows.verifiedSpec)=true:=by kernel_rfl
theorem ZDW:true=prog.looks []:=by kernel_rfl
theorem ZDV:false=Rows.verifiedRow.goesBy prog:=by kernel_rfl
theorem ZDX : Tryz.prog.funcNamed "gauge/gaugelaw.Verified" = some 3 := by kernel_rfl
theorem ZDY:([9,9].all fun u=>!prog.wantsStandIn u)=true:=by kernel_rfl

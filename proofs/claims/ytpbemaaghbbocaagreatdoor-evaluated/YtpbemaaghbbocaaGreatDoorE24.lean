/- Parts. -/
import Derived.Test.YtpbemaaghbbocaaGreatDoorCards
import Derived.SevenTiedAt
set_option linter.all false
set_option maxRecDepth 100000
set_option maxHeartbeats 16000000
namespace Go.Proofs.YtpbemaaghbbocaaGreatDoor
open Go.Proofs.Tryz
open Go
theorem ZLK:Rows.evaluatedRow.wfByText (OpenSpec.ofChange Rows.evaluatedSpec)=true:=by kernel_rfl
theorem ZLH:true=prog.looks []:=by kernel_rfl
theorem ZLG:false=Rows.evaluatedRow.goesBy prog:=by kernel_rfl
theorem ZLI : Tryz.prog.funcNamed "gauge/gaugelaw.Evaluated" = some 3 := by kernel_rfl
theorem ZLJ:([9,9,23,9,9,23].all fun u=>!prog.wantsStandIn u)=true:=by kernel_rfl

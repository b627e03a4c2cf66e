/- Parts. -/
import Derived.Test.YtmfnolgpaoldpaaGreatDoorCards
import Derived.SevenTiedAt
set_option linter.all false
set_option maxRecDepth 100000
set_option maxHeartbeats 16000000
namespace Go.Proofs.YtmfnolgpaoldpaaGreatDoor
open Go.Proofs.Tryz
open Go
theorem wu:Rows.executedRow.wfByText (OpenSpec.ofChange Rows.executedSpec)=true:=by kernel_rfl
theorem wh:true=prog.looks []:=by kernel_rfl
theorem wg:false=Rows.executedRow.goesBy prog:=by kernel_rfl
theorem wm:Tryz.prog.funcNamed "gauge/gaugelaw.Executed"=some 3:=by kernel_rfl
theorem wt:([9,9,23,3].all λu=>!prog.wantsStandIn u)=true:=by kernel_rfl

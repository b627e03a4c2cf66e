/- Parts. -/
import Derived.Test.YtcdgkkfipdoeeaaGreatDoorCards
import Derived.SevenTiedAt
set_option linter.all false
set_option maxRecDepth 100000
set_option maxHeartbeats 16000000
namespace Go.Proofs.YtcdgkkfipdoeeaaGreatDoor
open Go.Proofs.Tryz
open Go
theorem ZDZ:Rows.compiledRow.wfByText (OpenSpec.ofChange Rows.compiledSpec)=true:=by kernel_rfl
theorem ZDW:true=prog.looks []:=by kernel_rfl
theorem ZDV:false=Rows.compiledRow.goesBy prog:=by kernel_rfl
theorem ZDX : Tryz.prog.funcNamed "gauge/gaugekeep.Compiled" = some 3 := by kernel_rfl
theorem ZDY:([9,3,9,23].all fun u=>!prog.wantsStandIn u)=true:=by kernel_rfl

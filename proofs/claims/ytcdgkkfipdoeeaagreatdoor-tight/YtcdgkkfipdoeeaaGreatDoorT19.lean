/- Parts. -/
import Derived.Test.YtcdgkkfipdoeeaaGreatDoorCards
import Derived.SevenTiedAt
set_option linter.all false
set_option maxRecDepth 100000
set_option maxHeartbeats 16000000
namespace Go.Proofs.YtcdgkkfipdoeeaaGreatDoor
open Go.Proofs.Tryz
open Go
theorem ZIG:Rows.tightRow.wfByText (OpenSpec.ofChange Rows.tightSpec)=true:=by kernel_rfl
theorem ZID:true=prog.looks []:=by kernel_rfl
theorem ZIC:false=Rows.tightRow.goesBy prog:=by kernel_rfl
theorem ZIE : Tryz.prog.funcNamed "gauge/gaugekeep.Tight" = some 4 := by kernel_rfl
theorem ZIF:([9,3].all fun u=>!prog.wantsStandIn u)=true:=by kernel_rfl

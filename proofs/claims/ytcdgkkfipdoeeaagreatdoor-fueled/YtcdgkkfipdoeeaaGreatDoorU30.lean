/- Parts. -/
import Derived.Test.YtcdgkkfipdoeeaaGreatDoorCards
import Derived.SevenTiedAt
set_option linter.all false
set_option maxRecDepth 100000
set_option maxHeartbeats 16000000
namespace Go.Proofs.YtcdgkkfipdoeeaaGreatDoor
open Go.Proofs.Tryz
open Go
theorem ZFM:Rows.fueledRow.wfByText (OpenSpec.ofChange Rows.fueledSpec)=true:=by kernel_rfl
theorem ZFJ:true=prog.looks []:=by kernel_rfl
theorem ZFI:false=Rows.fueledRow.goesBy prog:=by kernel_rfl
theorem ZFK : Tryz.prog.funcNamed "gauge/gaugekeep.Fueled" = some 5 := by kernel_rfl
theorem ZFL:([9,3,9,23,3].all fun u=>!prog.wantsStandIn u)=true:=by kernel_rfl

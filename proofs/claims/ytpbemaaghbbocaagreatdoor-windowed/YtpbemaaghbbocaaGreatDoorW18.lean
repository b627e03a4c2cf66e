/- Parts. -/
import Derived.Test.YtpbemaaghbbocaaGreatDoorCards
import Derived.SevenTiedAt
set_option linter.all false
set_option maxRecDepth 100000
set_option maxHeartbeats 16000000
namespace Go.Proofs.YtpbemaaghbbocaaGreatDoor
open Go.Proofs.Tryz
open Go
theorem ZQe:Rows.windowedRow.wfByText (OpenSpec.ofChange Rows.windowedSpec)=true:=by kernel_rfl
theorem ZQb:true=prog.looks []:=by kernel_rfl
theorem ZQa:false=Rows.windowedRow.goesBy prog:=by kernel_rfl
theorem ZQc : Tryz.prog.funcNamed "gauge/gaugekeep.Windowed" = some 6 := by kernel_rfl
theorem ZQd:([37,3,3].all fun u=>!prog.wantsStandIn u)=true:=by kernel_rfl

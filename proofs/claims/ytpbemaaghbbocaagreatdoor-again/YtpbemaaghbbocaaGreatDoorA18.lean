/- Parts. -/
import Derived.Test.YtpbemaaghbbocaaGreatDoorCards
import Derived.SevenTiedAt
set_option linter.all false
set_option maxRecDepth 100000
set_option maxHeartbeats 16000000
namespace Go.Proofs.YtpbemaaghbbocaaGreatDoor
open Go.Proofs.Tryz
open Go
theorem ZOo:Rows.againRow.wfByText (OpenSpec.ofChange Rows.againSpec)=true:=by kernel_rfl
theorem ZOl:true=prog.looks []:=by kernel_rfl
theorem ZOk:false=Rows.againRow.goesBy prog:=by kernel_rfl
theorem ZOm : Tryz.prog.funcNamed "gauge/gaugekeep.Again" = some 4 := by kernel_rfl
theorem ZOn:([9,9,23].all fun u=>!prog.wantsStandIn u)=true:=by kernel_rfl

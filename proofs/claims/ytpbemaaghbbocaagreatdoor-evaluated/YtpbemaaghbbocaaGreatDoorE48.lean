/- Parts. -/
import Derived.Test.YtpbemaaghbbocaaGreatDoorRows
import Derived.Test.YtpbemaaghbbocaaGreatDoorCards
import Derived.Test.YtpbemaaghbbocaaGreatDoorChecked
import Derived.SevenTiedAt
import Derived.KernelRfl
namespace Go.Proofs.YtpbemaaghbbocaaGreatDoor
open Go
theorem ZmX:Rows.evaluatedRow.wfByText (OpenSpec.ofChange Rows.evaluatedSpec)=true:=by kernel_rfl
theorem ZmU:true=Tryz.prog.looks []:=by kernel_rfl
theorem ZmT:false=Rows.evaluatedRow.goesBy Tryz.prog:=by kernel_rfl
theorem ZmV : Tryz.prog.funcNamed "gauge/gaugelaw.Evaluated" = some 3 := by kernel_rfl
theorem ZmW:([9,9,23,9,9,23].all fun u=>!Tryz.prog.wantsStandIn u)=true:=by kernel_rfl
end Go.Proofs.YtpbemaaghbbocaaGreatDoor

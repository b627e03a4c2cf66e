/- Parts. -/
import Derived.Test.YtmncdbepjhmkgaaGreatDoorCards
import Derived.SevenTiedAt
set_option linter.all false
set_option maxRecDepth 100000
set_option maxHeartbeats 16000000
namespace Go.Proofs.YtmncdbepjhmkgaaGreatDoor
open Go.Proofs.Tryz
open Go
theorem ZSi:Rows.printedRow.wfByText (OpenSpec.ofChange Rows.printedSpec)=true:=by kernel_rfl
theorem ZSf:true=prog.looks []:=by kernel_rfl
theorem ZSe:false=Rows.printedRow.goesBy prog:=by kernel_rfl
theorem ZSg : Tryz.prog.funcNamed "gauge/gaugelaw.Printed" = some 3 := by kernel_rfl
theorem ZSh:([9,9].all fun u=>!prog.wantsStandIn u)=true:=by kernel_rfl

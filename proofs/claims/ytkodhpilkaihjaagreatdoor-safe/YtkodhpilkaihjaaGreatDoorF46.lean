/- Parts. -/
import Derived.Test.YtkodhpilkaihjaaGreatDoorRows
import Derived.Test.YtkodhpilkaihjaaGreatDoorCards
import Derived.Test.YtkodhpilkaihjaaGreatDoorChecked
import Derived.SevenTiedAt
import Derived.KernelRfl
namespace Go.Proofs.YtkodhpilkaihjaaGreatDoor
open Go
theorem Zqn:Rows.safeRow.wfByText (OpenSpec.ofChange Rows.safeSpec)=true:=by kernel_rfl
theorem Zqk:true=Tryz.prog.looks []:=by kernel_rfl
theorem Zqj:false=Rows.safeRow.goesBy Tryz.prog:=by kernel_rfl
theorem Zql : Tryz.prog.funcNamed "gauge/gaugekeep.Safe" = some 5 := by kernel_rfl
theorem Zqm:([9,9,26,3].all fun u=>!Tryz.prog.wantsStandIn u)=true:=by kernel_rfl
end Go.Proofs.YtkodhpilkaihjaaGreatDoor

/- Parts. -/
import Derived.Test.YtkodhpilkaihjaaGreatDoorRows
import Derived.Test.YtkodhpilkaihjaaGreatDoorCards
import Derived.Test.YtkodhpilkaihjaaGreatDoorChecked
import Derived.SevenTiedAt
import Derived.KernelRfl
namespace Go.Proofs.YtkodhpilkaihjaaGreatDoor
open Go
theorem vc_wf : Rows.verifiedRow.wfByText (OpenSpec.ofChange Rows.verifiedSpec) = true := by kernel_rfl
theorem vc_looks : true = Tryz.prog.looks [] := by kernel_rfl
theorem vc_goes : false = Rows.verifiedRow.goesBy Tryz.prog := by kernel_rfl
theorem vc_name : Tryz.prog.funcNamed "gauge/gaugelaw.Verified" = some 3 := by kernel_rfl
theorem vc_stand : ([9, 9].all fun u => !Tryz.prog.wantsStandIn u) = true := by kernel_rfl
end Go.Proofs.YtkodhpilkaihjaaGreatDoor

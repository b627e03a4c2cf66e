/- Parts. -/
import Derived.Test.YtpbemaaghbbocaaGreatDoorRows
import Derived.Test.YtpbemaaghbbocaaGreatDoorCards
import Derived.Test.YtpbemaaghbbocaaGreatDoorChecked
import Derived.SevenTiedAt
import Derived.KernelRfl
namespace Go.Proofs.YtpbemaaghbbocaaGreatDoor
open Go
theorem kc_wf : Rows.againRow.wfByText (OpenSpec.ofChange Rows.againSpec) = true := by kernel_rfl
theorem kc_looks : true = Tryz.prog.looks [] := by kernel_rfl
theorem kc_goes : false = Rows.againRow.goesBy Tryz.prog := by kernel_rfl
theorem kc_name : Tryz.prog.funcNamed "gauge/gaugekeep.Again" = some 4 := by kernel_rfl
theorem kc_stand : ([9, 9, 23].all fun u => !Tryz.prog.wantsStandIn u) = true := by kernel_rfl
end Go.Proofs.YtpbemaaghbbocaaGreatDoor

/- Parts. -/
import Derived.Test.YtcdgkkfipdoeeaaGreatDoorRows
import Derived.Test.YtcdgkkfipdoeeaaGreatDoorCards
import Derived.Test.YtcdgkkfipdoeeaaGreatDoorChecked
import Derived.SevenTiedAt
import Derived.KernelRfl
namespace Go.Proofs.YtcdgkkfipdoeeaaGreatDoor
open Go
theorem Zyq:Rows.tightRow.wfByText (OpenSpec.ofChange Rows.tightSpec)=true:=by kernel_rfl
theorem Zyn:true=Tryz.prog.looks []:=by kernel_rfl
theorem Zym:false=Rows.tightRow.goesBy Tryz.prog:=by kernel_rfl
theorem Zyo : Tryz.prog.funcNamed "gauge/gaugekeep.Tight" = some 4 := by kernel_rfl
theorem Zyp:([9,3].all fun u=>!Tryz.prog.wantsStandIn u)=true:=by kernel_rfl
end Go.Proofs.YtcdgkkfipdoeeaaGreatDoor

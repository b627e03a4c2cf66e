/- Parts. -/
import Derived.Test.YtcdgkkfipdoeeaaGreatDoorT42
import Derived.Test.YtcdgkkfipdoeeaaGreatDoorT43
namespace Go.Proofs.YtcdgkkfipdoeeaaGreatDoor
open Go.ChangeShapes Go.WideShapes Go.ChangeAt Go.RowKit LS
theorem Zyu:Rows.TightSaid:=
 OpenClaim.holds_of_wide 4 Tryz.f4 rfl rfl rfl rfl rfl rfl rfl ⟨rfl, rfl, rfl, rfl, rfl⟩ rfl rfl rfl rfl rfl (by kernel_rfl) Tryz.func4 Zyz
   (of_decide_eq_true (by kernel_rfl)) (by unfold Func.isWrapper;first|(rw[if_pos (by decide +kernel)];kernel_rfl)|(rw[if_neg (by decide +kernel)];exact⟨rfl,rfl⟩))
   (fun os started H enc _=>Zyv os started H enc)
end Go.Proofs.YtcdgkkfipdoeeaaGreatDoor

/- Parts. -/
import Derived.Test.YtkodhpilkaihjaaGreatDoorF43
import Derived.Test.YtkodhpilkaihjaaGreatDoorF44
namespace Go.Proofs.YtkodhpilkaihjaaGreatDoor
open Go.ChangeShapes Go.WideShapes Go.ChangeAt Go.RowKit LS
theorem Zt6:Rows.SafeSaid:=
 OpenClaim.holds_of_wide 5 Tryz.f5 rfl rfl rfl rfl rfl rfl rfl ⟨rfl, rfl, rfl, rfl, rfl⟩ rfl rfl rfl rfl rfl (by kernel_rfl) Tryz.func5 Zqx
   (of_decide_eq_true (by kernel_rfl)) (by unfold Func.isWrapper;first|(rw[if_pos (by decide +kernel)];kernel_rfl)|(rw[if_neg (by decide +kernel)];exact⟨rfl,rfl⟩))
   (fun os started H enc _=>Zt7 os started H enc)
end Go.Proofs.YtkodhpilkaihjaaGreatDoor

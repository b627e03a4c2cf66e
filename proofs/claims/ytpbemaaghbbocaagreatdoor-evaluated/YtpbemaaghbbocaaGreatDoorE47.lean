/- Parts. -/
import Derived.Test.YtpbemaaghbbocaaGreatDoorE45
import Derived.Test.YtpbemaaghbbocaaGreatDoorE46
namespace Go.Proofs.YtpbemaaghbbocaaGreatDoor
open Go.ChangeShapes Go.WideShapes Go.ChangeAt Go.RowKit LS
theorem ZnG:Rows.EvaluatedSaid:=
 OpenClaim.holds_of_wide 3 Tryz.f3 rfl rfl rfl rfl rfl rfl rfl ⟨rfl, rfl, rfl, rfl, rfl⟩ rfl rfl rfl rfl rfl (by kernel_rfl) Tryz.func3 Zm0
   (of_decide_eq_true (by kernel_rfl)) (by unfold Func.isWrapper;first|(rw[if_pos (by decide +kernel)];kernel_rfl)|(rw[if_neg (by decide +kernel)];exact⟨rfl,rfl⟩))
   (fun os started H enc _=>ZnH os started H enc)
end Go.Proofs.YtpbemaaghbbocaaGreatDoor

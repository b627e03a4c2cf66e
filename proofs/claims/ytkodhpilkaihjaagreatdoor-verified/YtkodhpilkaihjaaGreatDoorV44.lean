/- Parts. -/
import Derived.Test.YtkodhpilkaihjaaGreatDoorV42
import Derived.Test.YtkodhpilkaihjaaGreatDoorV43
namespace Go.Proofs.YtkodhpilkaihjaaGreatDoor
open Go.ChangeShapes Go.WideShapes Go.ChangeAt Go.RowKit LS
theorem verified_holds : Rows.VerifiedSaid :=
  OpenClaim.holds_of_wide 3 Tryz.f3 rfl rfl rfl rfl rfl rfl rfl ⟨rfl, rfl, rfl, rfl, rfl⟩ rfl rfl rfl rfl rfl (by kernel_rfl) Tryz.func3 vj_joined
    (of_decide_eq_true (by kernel_rfl)) (by unfold Func.isWrapper; first | (rw [if_pos (by decide +kernel)]; kernel_rfl) | (rw [if_neg (by decide +kernel)]; exact ⟨rfl, rfl⟩))
    (fun os started H enc _ => verified_lifted os started H enc)
end Go.Proofs.YtkodhpilkaihjaaGreatDoor

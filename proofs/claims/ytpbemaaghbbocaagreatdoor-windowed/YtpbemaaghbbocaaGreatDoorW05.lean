/- Windowed, its tied card: whatever is asked, the law that of one series each window says what going through all samples comes to returns true and leaves its arguments as they were, the listed variables holding what the program's own text lays in them. -/
import Derived.Test.YtpbemaaghbbocaaGreatDoorW00
import Derived.Test.YtpbemaaghbbocaaGreatDoorW03
import Derived.Test.YtpbemaaghbbocaaGreatDoorW04
import Derived.Test.YtpbemaaghbbocaaGreatDoorRows
import Derived.Test.YtpbemaaghbbocaaGreatDoorCards
import Derived.Test.YtpbemaaghbbocaaGreatDoorChecked
import Derived.SevenTiedAt
import Derived.KernelRfl
namespace Go.Proofs.YtpbemaaghbbocaaGreatDoor
open Go.ChangeShapes Go.WideShapes Go.ChangeAt Go.RowKit LS
theorem windowed_holds : Rows.WindowedSaid :=
  OpenClaim.holds_of_wide 6 Tryz.f6 rfl rfl rfl rfl rfl rfl rfl ⟨rfl, rfl, rfl, rfl, rfl⟩ rfl rfl rfl rfl rfl (by kernel_rfl) Tryz.func6 wj_joined
    (of_decide_eq_true (by kernel_rfl)) (by unfold Func.isWrapper; first | (rw [if_pos (by decide +kernel)]; kernel_rfl) | (rw [if_neg (by decide +kernel)]; exact ⟨rfl, rfl⟩))
    (fun os started H enc _ => windowed_lifted os started H enc)
end Go.Proofs.YtpbemaaghbbocaaGreatDoor
namespace Go.Proofs.YtpbemaaghbbocaaGreatDoor
open Go
theorem wc_wf : Rows.windowedRow.wfByText (OpenSpec.ofChange Rows.windowedSpec) = true := by kernel_rfl
theorem wc_looks : true = Tryz.prog.looks [] := by kernel_rfl
theorem wc_goes : false = Rows.windowedRow.goesBy Tryz.prog := by kernel_rfl
theorem wc_name : Tryz.prog.funcNamed "gauge/gaugekeep.Windowed" = some 6 := by kernel_rfl
theorem wc_stand : ([37, 3, 3].all fun u => !Tryz.prog.wantsStandIn u) = true := by kernel_rfl
end Go.Proofs.YtpbemaaghbbocaaGreatDoor
namespace Go.Proofs.YtpbemaaghbbocaaGreatDoor
open Go
theorem windowed_card : Rows.WindowedCardSaid :=
  Claim7.holds_tied_plain_at .later [] _ true _ true
    windowed_holds (fun _ h => by cases h) wc_wf (fun _ h => by cases h) windowed_row_tie rfl ⟨rfl, rfl⟩ (by kernel_rfl) rfl
    (fun f fn hf hfn => by
      obtain rfl : f = 6 := Option.some.inj (wc_name.symm.trans hf) |>.symm
      obtain rfl : fn = Tryz.f6 := (Option.some.inj (Tryz.func6.symm.trans hfn)).symm
      exact ⟨wc_looks, fun j t ht => by
        rw [Tryz.params6] at ht
        have hm : t ∈ [37, 3, 3] := by simpa using Array.mem_of_getElem? ht
        exact (show Tryz.prog.wantsStandIn t = false by simpa using List.all_eq_true.1 wc_stand t hm)⟩)
    wc_goes
end Go.Proofs.YtpbemaaghbbocaaGreatDoor

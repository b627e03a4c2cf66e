/- Shuffled, its tied card: where what it reads is of bulk at most 1048576, the law that the order of a store's lines is not seen returns true and leaves its arguments as they were, the listed variables holding what the program's own text lays in them. -/
import Derived.Test.YtpbemaaghbbocaaGreatDoorH00
import Derived.Test.YtpbemaaghbbocaaGreatDoorH02
import Derived.Test.YtpbemaaghbbocaaGreatDoorH03
import Derived.Test.YtpbemaaghbbocaaGreatDoorRows
import Derived.Test.YtpbemaaghbbocaaGreatDoorCards
import Derived.Test.YtpbemaaghbbocaaGreatDoorChecked
import Derived.SevenTiedAt
import Derived.KernelRfl
namespace Go.Proofs.YtpbemaaghbbocaaGreatDoor
open Go.ChangeShapes Go.WideShapes Go.ChangeAt Go.RowKit LS
set_option maxRecDepth 100000 in
theorem shuffled_holds : Rows.ShuffledUptoSaid :=
  OpenClaim.holds_of_cond 5 Tryz.f5 rfl rfl rfl rfl rfl rfl rfl ⟨rfl, rfl, rfl, rfl, rfl⟩ rfl rfl rfl rfl rfl (by kernel_rfl) Tryz.func5 hj_joined
    (of_decide_eq_true (by kernel_rfl)) (by unfold Func.isWrapper; first | (rw [if_pos (by decide +kernel)]; kernel_rfl) | (rw [if_neg (by decide +kernel)]; exact ⟨rfl, rfl⟩))
    (fun os started H enc _ F => by rw [OpenClaim.pre_eq_preRow]; exact shuffled_lifted os started H enc F)
end Go.Proofs.YtpbemaaghbbocaaGreatDoor
namespace Go.Proofs.YtpbemaaghbbocaaGreatDoor
open Go
theorem hc_wf : Rows.shuffledUptoRow.wfByText (Rows.OpenSpec.upto Rows.shuffledSpec) = true := by kernel_rfl
theorem hc_looks : true = Tryz.prog.looks [] := by kernel_rfl
theorem hc_goes : false = Rows.shuffledUptoRow.goesBy Tryz.prog := by kernel_rfl
theorem hc_name : Tryz.prog.funcNamed "gauge/gaugekeep.Shuffled" = some 5 := by kernel_rfl
theorem hc_stand : ([31, 3, 4, 9, 23].all fun u => !Tryz.prog.wantsStandIn u) = true := by kernel_rfl
end Go.Proofs.YtpbemaaghbbocaaGreatDoor
namespace Go.Proofs.YtpbemaaghbbocaaGreatDoor
open Go
theorem shuffled_card : Rows.ShuffledUptoCardSaid :=
  Claim7.holds_tied_plain_at .later [] _ true _ true
    shuffled_holds (fun _ h => by cases h) hc_wf (fun _ h => by cases h) shuffledUpto_row_tie rfl ⟨rfl, rfl⟩ (by kernel_rfl) rfl
    (fun f fn hf hfn => by
      obtain rfl : f = 5 := Option.some.inj (hc_name.symm.trans hf) |>.symm
      obtain rfl : fn = Tryz.f5 := (Option.some.inj (Tryz.func5.symm.trans hfn)).symm
      exact ⟨hc_looks, fun j t ht => by
        rw [Tryz.params5] at ht
        have hm : t ∈ [31, 3, 4, 9, 23] := by simpa using Array.mem_of_getElem? ht
        exact (show Tryz.prog.wantsStandIn t = false by simpa using List.all_eq_true.1 hc_stand t hm)⟩)
    hc_goes
end Go.Proofs.YtpbemaaghbbocaaGreatDoor

/- Loaded, its tied card: whatever the two texts are, the law that Load is as the document says returns true and leaves its arguments as they were, the listed variables holding what the program's own text lays in them. -/
import Derived.Test.YtmncdbepjhmkgaaDoorProof
import Derived.SevenTiedAt
namespace Go.Proofs.YtmncdbepjhmkgaaDoor
open Go

theorem loaded_card : Rows.LoadedCardSaid :=
  Claim7.holds_tied_plain_at .later [] _ true _ true
    loaded_holds (fun _ h => by cases h) (by kernel_rfl) (fun _ h => by cases h) loaded_row_tie rfl ⟨rfl, rfl⟩ (by kernel_rfl) rfl
    (fun f fn hf hfn => by
      obtain rfl : f = 3 := Option.some.inj ((show Tryd.prog.funcNamed "gauge/gaugelaw.Loaded" = some 3 by kernel_rfl).symm.trans hf) |>.symm
      obtain rfl : fn = Tryd.f3 := (Option.some.inj (Tryd.func3.symm.trans hfn)).symm
      exact ⟨by kernel_rfl, fun j t ht => by
        rw [Tryd.params3] at ht
        have hm : t ∈ [9, 9] := by simpa using Array.mem_of_getElem? ht
        have hall : ([9, 9].all fun u => !Tryd.prog.wantsStandIn u) = true := by kernel_rfl
        exact (show Tryd.prog.wantsStandIn t = false by simpa using List.all_eq_true.1 hall t hm)⟩)
    (by kernel_rfl)
end Go.Proofs.YtmncdbepjhmkgaaDoor

/- Printed, its tied card: whatever the two texts are, the law that Print is as the document says returns true and leaves its arguments as they were, the listed variables holding what the program's own text lays in them. -/
import Derived.Test.YtmncdbepjhmkgaaGreatDoorRows
import Derived.Test.YtmncdbepjhmkgaaGreatDoorCards
import Derived.Test.YtmncdbepjhmkgaaGreatDoorChecked
import Derived.SevenTiedAt
import Derived.KernelRfl
import Derived.Test.YtmncdbepjhmkgaaGreatDoorJ49
/- The closed facts of Printed's card, one by one. -/
namespace Go.Proofs.YtmncdbepjhmkgaaGreatDoor
open Go

theorem pc_wf : Rows.printedRow.wfByText (OpenSpec.ofChange Rows.printedSpec) = true := by kernel_rfl
theorem pc_looks : true = Tryz.prog.looks [] := by kernel_rfl
theorem pc_goes : false = Rows.printedRow.goesBy Tryz.prog := by kernel_rfl
theorem pc_name : Tryz.prog.funcNamed "gauge/gaugelaw.Printed" = some 3 := by kernel_rfl
theorem pc_stand : ([9, 9].all fun u => !Tryz.prog.wantsStandIn u) = true := by kernel_rfl
end Go.Proofs.YtmncdbepjhmkgaaGreatDoor
namespace Go.Proofs.YtmncdbepjhmkgaaGreatDoor
open Go

theorem printed_card : Rows.PrintedCardSaid :=
  Claim7.holds_tied_plain_at .later [] _ true _ true
    printed_holds (fun _ h => by cases h) pc_wf (fun _ h => by cases h) printed_row_tie rfl ⟨rfl, rfl⟩ (by kernel_rfl) rfl
    (fun f fn hf hfn => by
      obtain rfl : f = 3 := Option.some.inj (pc_name.symm.trans hf) |>.symm
      obtain rfl : fn = Tryz.f3 := (Option.some.inj (Tryz.func3.symm.trans hfn)).symm
      exact ⟨pc_looks, fun j t ht => by
        rw [Tryz.params3] at ht
        have hm : t ∈ [9, 9] := by simpa using Array.mem_of_getElem? ht
        exact (show Tryz.prog.wantsStandIn t = false by simpa using List.all_eq_true.1 pc_stand t hm)⟩)
    pc_goes
end Go.Proofs.YtmncdbepjhmkgaaGreatDoor

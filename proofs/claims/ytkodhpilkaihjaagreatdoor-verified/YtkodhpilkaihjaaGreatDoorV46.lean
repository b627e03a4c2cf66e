/- Verified, its tied card: whatever the two texts are, the law that Verify is as the document says returns true and leaves its arguments as they were, the listed variables holding what the program's own text lays in them. -/
import Derived.Test.YtkodhpilkaihjaaGreatDoorV44
import Derived.Test.YtkodhpilkaihjaaGreatDoorV45
import Derived.SevenTiedAt
namespace Go.Proofs.YtkodhpilkaihjaaGreatDoor
open Go
theorem verified_card : Rows.VerifiedCardSaid :=
  Claim7.holds_tied_plain_at .later [] _ true _ true
    verified_holds (fun _ h => by cases h) vc_wf (fun _ h => by cases h) verified_row_tie rfl ⟨rfl, rfl⟩ (by kernel_rfl) rfl
    (fun f fn hf hfn => by
      obtain rfl : f = 3 := Option.some.inj (vc_name.symm.trans hf) |>.symm
      obtain rfl : fn = Tryz.f3 := (Option.some.inj (Tryz.func3.symm.trans hfn)).symm
      exact ⟨vc_looks, fun j t ht => by
        rw [Tryz.params3] at ht
        have hm : t ∈ [9, 9] := by simpa using Array.mem_of_getElem? ht
        exact (show Tryz.prog.wantsStandIn t = false by simpa using List.all_eq_true.1 vc_stand t hm)⟩)
    vc_goes
end Go.Proofs.YtkodhpilkaihjaaGreatDoor

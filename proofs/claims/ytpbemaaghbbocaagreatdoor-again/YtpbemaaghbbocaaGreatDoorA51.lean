/- Again, its tied card: whatever is asked, the law that what is printed prints again as itself and says the same returns true and leaves its arguments as they were, the listed variables holding what the program's own text lays in them. -/
import Derived.Test.YtpbemaaghbbocaaGreatDoorA49
import Derived.Test.YtpbemaaghbbocaaGreatDoorA50
import Derived.SevenTiedAt
namespace Go.Proofs.YtpbemaaghbbocaaGreatDoor
open Go
theorem again_card : Rows.AgainCardSaid :=
  Claim7.holds_tied_plain_at .later [] _ true _ true
    again_holds (fun _ h => by cases h) kc_wf (fun _ h => by cases h) again_row_tie rfl ⟨rfl, rfl⟩ (by kernel_rfl) rfl
    (fun f fn hf hfn => by
      obtain rfl : f = 4 := Option.some.inj (kc_name.symm.trans hf) |>.symm
      obtain rfl : fn = Tryz.f4 := (Option.some.inj (Tryz.func4.symm.trans hfn)).symm
      exact ⟨kc_looks, fun j t ht => by
        rw [Tryz.params4] at ht
        have hm : t ∈ [9, 9, 23] := by simpa using Array.mem_of_getElem? ht
        exact (show Tryz.prog.wantsStandIn t = false by simpa using List.all_eq_true.1 kc_stand t hm)⟩)
    kc_goes
end Go.Proofs.YtpbemaaghbbocaaGreatDoor

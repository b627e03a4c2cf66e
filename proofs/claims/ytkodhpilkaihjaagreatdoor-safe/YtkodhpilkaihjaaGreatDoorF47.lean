/- Safe, its tied card: whatever the bytes, the store, the span and the fuel, the law that code that was looked over never goes wrong, and is no code with a byte turned, returns true and leaves its arguments as they were, the listed variables holding what the program's own text lays in them. -/
import Derived.Test.YtkodhpilkaihjaaGreatDoorF45
import Derived.Test.YtkodhpilkaihjaaGreatDoorF46
import Derived.SevenTiedAt
namespace Go.Proofs.YtkodhpilkaihjaaGreatDoor
open Go
theorem safe_card:Rows.SafeCardSaid:=
 Claim7.holds_tied_plain_at .later [] _ true _ true
  Zt6 (fun _ h=>by cases h) Zqn (fun _ h=>by cases h) safe_row_tie rfl ⟨rfl,rfl⟩ (by kernel_rfl) rfl
  (fun f fn hf hfn => by
    obtain rfl:f=5:=Option.some.inj (Zql.symm.trans hf) |>.symm
    obtain rfl:fn=Tryz.f5:=(Option.some.inj (Tryz.func5.symm.trans hfn)).symm
    exact ⟨Zqk, fun j t ht => by
      rw[Tryz.params5]at ht
      have hm:t∈[9,9,26,3]:=by simpa using Array.mem_of_getElem? ht
      exact(show Tryz.prog.wantsStandIn t=false by simpa using List.all_eq_true.1 Zqm t hm)⟩)
  Zqj
end Go.Proofs.YtkodhpilkaihjaaGreatDoor

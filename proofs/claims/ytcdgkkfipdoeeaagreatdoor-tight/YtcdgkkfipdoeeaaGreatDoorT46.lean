/- Tight, its tied card: whatever the query and the flags, the law that what the flags promise is done (with Fold a scalar is one instruction, with Share what stands there twice is worked out once, with Thread no jump leads to a jump) returns true and leaves its arguments as they were, the listed variables holding what the program's own text lays in them. -/
import Derived.Test.YtcdgkkfipdoeeaaGreatDoorT44
import Derived.Test.YtcdgkkfipdoeeaaGreatDoorT45
import Derived.SevenTiedAt
namespace Go.Proofs.YtcdgkkfipdoeeaaGreatDoor
open Go
theorem tight_card:Rows.TightCardSaid:=
 Claim7.holds_tied_plain_at .later [] _ true _ true
  Zyu (fun _ h=>by cases h) Zyq (fun _ h=>by cases h) tight_row_tie rfl ⟨rfl,rfl⟩ (by kernel_rfl) rfl
  (fun f fn hf hfn => by
    obtain rfl:f=4:=Option.some.inj (Zyo.symm.trans hf) |>.symm
    obtain rfl:fn=Tryz.f4:=(Option.some.inj (Tryz.func4.symm.trans hfn)).symm
    exact ⟨Zyn, fun j t ht => by
      rw[Tryz.params4]at ht
      have hm:t∈[9,3]:=by simpa using Array.mem_of_getElem? ht
      exact(show Tryz.prog.wantsStandIn t=false by simpa using List.all_eq_true.1 Zyp t hm)⟩)
  Zym
end Go.Proofs.YtcdgkkfipdoeeaaGreatDoor

/- Evaluated, its tied card: whatever is asked, the law that Eval is as the document says returns true and leaves its arguments as they were, the listed variables holding what the program's own text lays in them. -/
import Derived.Test.YtpbemaaghbbocaaGreatDoorE47
import Derived.Test.YtpbemaaghbbocaaGreatDoorE48
import Derived.SevenTiedAt
namespace Go.Proofs.YtpbemaaghbbocaaGreatDoor
open Go
theorem evaluated_card:Rows.EvaluatedCardSaid:=
 Claim7.holds_tied_plain_at .later [] _ true _ true
  ZnG (fun _ h=>by cases h) ZmX (fun _ h=>by cases h) evaluated_row_tie rfl ⟨rfl,rfl⟩ (by kernel_rfl) rfl
  (fun f fn hf hfn => by
    obtain rfl:f=3:=Option.some.inj (ZmV.symm.trans hf) |>.symm
    obtain rfl:fn=Tryz.f3:=(Option.some.inj (Tryz.func3.symm.trans hfn)).symm
    exact ⟨ZmU, fun j t ht => by
      rw[Tryz.params3]at ht
      have hm:t∈[9,9,23,9,9,23]:=by simpa using Array.mem_of_getElem? ht
      exact(show Tryz.prog.wantsStandIn t=false by simpa using List.all_eq_true.1 ZmW t hm)⟩)
  ZmT
end Go.Proofs.YtpbemaaghbbocaaGreatDoor

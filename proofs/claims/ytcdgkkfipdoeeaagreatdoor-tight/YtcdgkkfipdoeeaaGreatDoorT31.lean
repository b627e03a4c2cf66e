/- Tight, its tied card: whatever the query and the flags, the law that what the flags promise is done (with Fold a scalar is one instruction, with Share what stands there twice is worked out once, with Thread no jump leads to a jump) returns true and leaves its arguments as they were, the listed variables holding what the program's own text lays in them. -/
import Derived.Test.YtcdgkkfipdoeeaaGreatDoorT30
import Derived.Test.YtcdgkkfipdoeeaaGreatDoorT19
set_option linter.all false
set_option maxRecDepth 100000
set_option maxHeartbeats 16000000
namespace Go.Proofs.YtcdgkkfipdoeeaaGreatDoor
open Go.Proofs.Tryz
open Go
theorem tight_card:Rows.TightCardSaid:=
 Claim7.holds_tied_plain_at .later [] _ true _ true
  ZII (fun _ h=>by cases h) ZIG (fun _ h=>by cases h) tight_row_tie rfl ⟨rfl,rfl⟩ (by kernel_rfl) rfl
  (fun f fn d a => by
    obtain rfl:f=4:=Option.some.inj (ZIE.symm.trans d) |>.symm;obtain rfl:fn=f4:=(Option.some.inj (func4.symm.trans a)).symm
    exact ⟨ZID, fun j t c => by
      rw[params4]at c;have e:t∈[9,3]:=by simpa using Array.mem_of_getElem? c
      exact(show prog.wantsStandIn t=false by simpa using List.all_eq_true.1 ZIF t e)⟩)
  ZIC

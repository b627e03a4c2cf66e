/- Fueled, its tied card: whatever the query, the flags, the store, the span and the numbers, the law that with more fuel nothing changes but that it does not run out, and that compiled code never runs out of the greatest, returns true and leaves its arguments as they were, the listed variables holding what the program's own text lays in them. -/
import Derived.Test.YtcdgkkfipdoeeaaGreatDoorU42
import Derived.Test.YtcdgkkfipdoeeaaGreatDoorU30
set_option linter.all false
set_option maxRecDepth 100000
set_option maxHeartbeats 16000000
namespace Go.Proofs.YtcdgkkfipdoeeaaGreatDoor
open Go.Proofs.Tryz
open Go LS
theorem fueled_card:Rows.FueledCardSaid:=
 Claim7.holds_tied_plain_at .later [] _ true _ true
  ZFw (fun _ h=>by cases h) ZFM (fun _ h=>by cases h) fueled_row_tie rfl ⟨rfl,rfl⟩ (by kernel_rfl) rfl
  (fun f fn d a => by
    obtain rfl:f=5:=Yax (ZFK.symm.trans d) |>.symm;obtain rfl:fn=f5:=(Yax (func5.symm.trans a)).symm
    exact ⟨ZFJ, fun j t c => by
      rw[params5]at c;have e:t∈[9,3,9,23,3]:=by simpa using Array.mem_of_getElem? c
      exact(show prog.wantsStandIn t=false by simpa using Ybu.1 ZFL t e)⟩)
  ZFI

/- Compiled, its tied card: whatever the query, the flags, the store and the span, the law that what Compile gives is code that Verify takes, and that Exec of it answers what Eval answers of the query, returns true and leaves its arguments as they were, the listed variables holding what the program's own text lays in them. -/
import Derived.Test.YtcdgkkfipdoeeaaGreatDoorO25
import Derived.Test.YtcdgkkfipdoeeaaGreatDoorO17
set_option linter.all false
set_option maxRecDepth 100000
set_option maxHeartbeats 16000000
namespace Go.Proofs.YtcdgkkfipdoeeaaGreatDoor
open Go.Proofs.Tryz
open Go LS
theorem compiled_card:Rows.CompiledCardSaid:=
 Claim7.holds_tied_plain_at .later [] _ true _ true
  Zu3 (fun _ h=>by cases h) ZDZ (fun _ h=>by cases h) compiled_row_tie rfl ⟨rfl,rfl⟩ (by kernel_rfl) rfl
  (fun f fn d a => by
    obtain rfl:f=3:=Yax (ZDX.symm.trans d) |>.symm;obtain rfl:fn=f3:=(Yax (func3.symm.trans a)).symm
    exact ⟨ZDW, fun j t c => by
      rw[params3]at c;have e:t∈[9,3,9,23]:=by simpa using Array.mem_of_getElem? c
      exact(show prog.wantsStandIn t=false by simpa using Ybu.1 ZDY t e)⟩)
  ZDV

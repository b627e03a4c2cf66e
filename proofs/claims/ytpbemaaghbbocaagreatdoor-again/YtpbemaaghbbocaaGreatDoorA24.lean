/- Again, its tied card: whatever is asked, the law that what is printed prints again as itself and says the same returns true and leaves its arguments as they were, the listed variables holding what the program's own text lays in them. -/
import Derived.Test.YtpbemaaghbbocaaGreatDoorA23
import Derived.Test.YtpbemaaghbbocaaGreatDoorA12
import Derived.Test.YtpbemaaghbbocaaGreatDoorA18
set_option linter.all false
set_option maxRecDepth 100000
set_option maxHeartbeats 16000000
namespace Go.Proofs.YtpbemaaghbbocaaGreatDoor
open Go.Proofs.Tryz
open Go.ChangeShapes Go.WideShapes Go.ChangeAt Go.RowKit LS
theorem ZOg:Rows.AgainSaid:=
 OpenClaim.holds_of_wide 4 f4 rfl rfl rfl rfl rfl rfl rfl ⟨rfl, rfl, rfl, rfl, rfl⟩ rfl rfl rfl rfl rfl Kr func4 ZOq
   (of_decide_eq_true Kr) (by unfold Func.isWrapper;first|(rw[if_pos (by decide +kernel)];kernel_rfl)|(rw[if_neg (by decide +kernel)];exact⟨rfl,rfl⟩))
   (fun os started H enc _=>ZOh os started H enc)
open Go
theorem again_card:Rows.AgainCardSaid:=
 Claim7.holds_tied_plain_at .later [] _ true _ true
  ZOg (fun _ h=>by cases h) ZOo (fun _ h=>by cases h) again_row_tie rfl ⟨rfl,rfl⟩ (by kernel_rfl) rfl
  (fun f fn d a => by
    obtain rfl:f=4:=Option.some.inj (ZOm.symm.trans d) |>.symm;obtain rfl:fn=f4:=(Option.some.inj (func4.symm.trans a)).symm
    exact ⟨ZOl, fun j t c => by
      rw[params4]at c;have e:t∈[9,9,23]:=by simpa using Array.mem_of_getElem? c
      exact(show prog.wantsStandIn t=false by simpa using List.all_eq_true.1 ZOn t e)⟩)
  ZOk

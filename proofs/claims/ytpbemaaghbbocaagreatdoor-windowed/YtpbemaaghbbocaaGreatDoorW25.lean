/- Windowed, its tied card: whatever is asked, the law that of one series each window says what going through all samples comes to returns true and leaves its arguments as they were, the listed variables holding what the program's own text lays in them. -/
import Derived.Test.YtpbemaaghbbocaaGreatDoorW24
import Derived.Test.YtpbemaaghbbocaaGreatDoorW12
import Derived.Test.YtpbemaaghbbocaaGreatDoorW18
set_option linter.all false
set_option maxRecDepth 100000
set_option maxHeartbeats 16000000
namespace Go.Proofs.YtpbemaaghbbocaaGreatDoor
open Go.Proofs.Tryz
open Go.ChangeShapes Go.WideShapes Go.ChangeAt Go.RowKit LS
theorem ZQf:Rows.WindowedSaid:=
 OpenClaim.holds_of_wide 6 f6 rfl rfl rfl rfl rfl rfl rfl ⟨rfl, rfl, rfl, rfl, rfl⟩ rfl rfl rfl rfl rfl Kr func6 ZQj
   (of_decide_eq_true Kr) (by unfold Func.isWrapper;first|(rw[if_pos (by decide +kernel)];kernel_rfl)|(rw[if_neg (by decide +kernel)];exact⟨rfl,rfl⟩))
   (fun os started H enc _=>ZQg os started H enc)
open Go
theorem windowed_card:Rows.WindowedCardSaid:=
 Claim7.holds_tied_plain_at .later [] _ true _ true
  ZQf (fun _ h=>by cases h) ZQe (fun _ h=>by cases h) windowed_row_tie rfl ⟨rfl,rfl⟩ (by kernel_rfl) rfl
  (fun f fn d a => by
    obtain rfl:f=6:=Option.some.inj (ZQc.symm.trans d) |>.symm;obtain rfl:fn=f6:=(Option.some.inj (func6.symm.trans a)).symm
    exact ⟨ZQb, fun j t c => by
      rw[params6]at c;have e:t∈[37,3,3]:=by simpa using Array.mem_of_getElem? c
      exact(show prog.wantsStandIn t=false by simpa using List.all_eq_true.1 ZQd t e)⟩)
  ZQa

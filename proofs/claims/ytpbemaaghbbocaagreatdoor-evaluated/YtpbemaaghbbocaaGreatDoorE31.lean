/- Evaluated, its tied card: whatever is asked, the law that Eval is as the document says returns true and leaves its arguments as they were, the listed variables holding what the program's own text lays in them. -/
import Derived.Test.YtpbemaaghbbocaaGreatDoorE30
import Derived.Test.YtpbemaaghbbocaaGreatDoorE15
import Derived.Test.YtpbemaaghbbocaaGreatDoorE24
set_option linter.all false
set_option maxRecDepth 100000
set_option maxHeartbeats 16000000
namespace Go.Proofs.YtpbemaaghbbocaaGreatDoor
open Go.Proofs.Tryz
open Go.ChangeShapes Go.WideShapes Go.ChangeAt Go.RowKit LS
theorem ZMl:Rows.EvaluatedSaid:=
 OpenClaim.holds_of_wide 3 f3 rfl rfl rfl rfl rfl rfl rfl ⟨rfl, rfl, rfl, rfl, rfl⟩ rfl rfl rfl rfl rfl Kr func3 ZLM
   (of_decide_eq_true Kr) (by unfold Func.isWrapper;first|(rw[if_pos (by decide +kernel)];kernel_rfl)|(rw[if_neg (by decide +kernel)];exact⟨rfl,rfl⟩))
   (fun os started H enc _=>ZMm os started H enc)
open Go
theorem evaluated_card:Rows.EvaluatedCardSaid:=
 Claim7.holds_tied_plain_at .later [] _ true _ true
  ZMl (fun _ h=>by cases h) ZLK (fun _ h=>by cases h) evaluated_row_tie rfl ⟨rfl,rfl⟩ (by kernel_rfl) rfl
  (fun f fn d a => by
    obtain rfl:f=3:=Option.some.inj (ZLI.symm.trans d) |>.symm;obtain rfl:fn=f3:=(Option.some.inj (func3.symm.trans a)).symm
    exact ⟨ZLH, fun j t c => by
      rw[params3]at c;have e:t∈[9,9,23,9,9,23]:=by simpa using Array.mem_of_getElem? c
      exact(show prog.wantsStandIn t=false by simpa using List.all_eq_true.1 ZLJ t e)⟩)
  ZLG

/- Safe, its tied card: whatever the bytes, the store, the span and the fuel, the law that code that was looked over never goes wrong, and is no code with a byte turned, returns true and leaves its arguments as they were, the listed variables holding what the program's own text lays in them. -/
import Derived.Test.YtkodhpilkaihjaaGreatDoorF30
import Derived.Test.YtkodhpilkaihjaaGreatDoorF13
import Derived.Test.YtkodhpilkaihjaaGreatDoorF23
set_option linter.all false
set_option maxRecDepth 100000
set_option maxHeartbeats 16000000
namespace Go.Proofs.YtkodhpilkaihjaaGreatDoor
open Go.Proofs.Tryz
open Go.ChangeShapes Go.WideShapes Go.ChangeAt Go.RowKit LS
theorem ZXF:Rows.SafeSaid:=
 OpenClaim.holds_of_wide 5 f5 rfl rfl rfl rfl rfl rfl rfl ⟨rfl, rfl, rfl, rfl, rfl⟩ rfl rfl rfl rfl rfl Kr func5 ZOq
   (of_decide_eq_true Kr) (by unfold Func.isWrapper;first|(rw[if_pos (by decide +kernel)];kernel_rfl)|(rw[if_neg (by decide +kernel)];exact⟨rfl,rfl⟩))
   (fun os started H enc _=>ZXG os started H enc)
open Go
theorem safe_card:Rows.SafeCardSaid:=
 Claim7.holds_tied_plain_at .later [] _ true _ true
  ZXF (fun _ h=>by cases h) ZOo (fun _ h=>by cases h) safe_row_tie rfl ⟨rfl,rfl⟩ (by kernel_rfl) rfl
  (fun f fn d a => by
    obtain rfl:f=5:=Option.some.inj (ZOm.symm.trans d) |>.symm;obtain rfl:fn=f5:=(Option.some.inj (func5.symm.trans a)).symm
    exact ⟨ZOl, fun j t c => by
      rw[params5]at c;have e:t∈[9,9,26,3]:=by simpa using Array.mem_of_getElem? c
      exact(show prog.wantsStandIn t=false by simpa using List.all_eq_true.1 ZOn t e)⟩)
  ZOk

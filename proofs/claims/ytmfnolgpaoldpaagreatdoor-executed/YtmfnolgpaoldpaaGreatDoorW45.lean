/- Executed, its tied card: whatever the two codes, stores, spans and fuels, the law that Exec answers as the document says, each time that it is asked, returns true and leaves its arguments as they were, the listed variables holding what the program's own text lays in them. -/
import Derived.Test.YtmfnolgpaoldpaaGreatDoorW44
import Derived.Test.YtmfnolgpaoldpaaGreatDoorW21
import Derived.Test.YtmfnolgpaoldpaaGreatDoorW38
set_option linter.all false
set_option maxRecDepth 100000
set_option maxHeartbeats 16000000
namespace Go.Proofs.YtmfnolgpaoldpaaGreatDoor
open Go.Proofs.Tryz
open Go.ChangeShapes Go.WideShapes Go.ChangeAt Go.RowKit LS
theorem tR:Rows.ExecutedSaid:=
 OpenClaim.holds_of_wide 3 f3 rfl rfl rfl rfl rfl rfl rfl ⟨rfl,rfl,rfl,rfl,rfl⟩ rfl rfl rfl rfl rfl Kr func3 wB
  (Rw Kr) (by unfold Func.isWrapper;first|(rw[Ye<|by decide+kernel];kernel_rfl)|(rw[Yd<|by decide+kernel];exact⟨rfl,rfl⟩))
  λos started H enc _=>tS os started H enc
open Go
theorem executed_card:Rows.ExecutedCardSaid:=
 Claim7.holds_tied_plain_at .later [] _ true _ true
  tR (λ_ h=>by cases h) wu (λ_ h=>by cases h) executed_row_tie rfl ⟨rfl,rfl⟩ (by kernel_rfl) rfl
  (λf fn d a=>by
   obtain rfl:f=3:=Option.some.inj (wm.symm.trans d)|>.symm;obtain rfl:fn=f3:=(Option.some.inj<|func3.symm.trans a).symm;exact⟨wh,λj t c=>by
    rw[params3]at c;have e:t∈[9,9,23,3]:=by have:=Array.mem_of_getElem? c;simp at this⊢;rcases this with h|h|h|h|h|h<;>simp[h]
    exact(show prog.wantsStandIn t=false by simpa using List.all_eq_true.1 wt t e)⟩)
  wg

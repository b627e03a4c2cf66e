/- Shuffled, its tied card: where what it reads is of bulk at most 1048576, the law that the order of a store's lines is not seen returns true and leaves its arguments as they were, the listed variables holding what the program's own text lays in them. -/
import Derived.Test.YtpbemaaghbbocaaGreatDoorH22
import Derived.Test.YtpbemaaghbbocaaGreatDoorH11
import Derived.Test.YtpbemaaghbbocaaGreatDoorH17
set_option linter.all false
set_option maxRecDepth 100000
set_option maxHeartbeats 16000000
namespace Go.Proofs.YtpbemaaghbbocaaGreatDoor
open Go.Proofs.Tryz
open Go.ChangeShapes Go.WideShapes Go.ChangeAt Go.RowKit LS
theorem ZRQ:Rows.ShuffledUptoSaid:=
 OpenClaim.holds_of_cond 5 f5 rfl rfl rfl rfl rfl rfl rfl ⟨rfl, rfl, rfl, rfl, rfl⟩ rfl rfl rfl rfl rfl Kr func5 ZRd
   (of_decide_eq_true Kr) (by unfold Func.isWrapper;first|(rw[if_pos (by decide +kernel)];kernel_rfl)|(rw[if_neg (by decide +kernel)];exact⟨rfl,rfl⟩))
   (fun os started H enc _ F=>by rw[OpenClaim.pre_eq_preRow];exact ZRR os started H enc F)
open Go
theorem shuffled_card:Rows.ShuffledUptoCardSaid:=
 Claim7.holds_tied_plain_at .later [] _ true _ true
  ZRQ (fun _ h=>by cases h) ZRb (fun _ h=>by cases h) shuffledUpto_row_tie rfl ⟨rfl,rfl⟩ (by kernel_rfl) rfl
  (fun f fn d a => by
    obtain rfl:f=5:=Option.some.inj (ZQ9.symm.trans d) |>.symm;obtain rfl:fn=f5:=(Option.some.inj (func5.symm.trans a)).symm
    exact ⟨ZQ8, fun j t c => by
      rw[params5]at c;have e:t∈[31,3,4,9,23]:=by simpa using Array.mem_of_getElem? c
      exact(show prog.wantsStandIn t=false by simpa using List.all_eq_true.1 ZRa t e)⟩)
  ZQ7

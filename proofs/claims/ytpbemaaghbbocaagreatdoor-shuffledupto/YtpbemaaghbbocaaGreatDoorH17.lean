/- Parts. -/
import Derived.Test.YtpbemaaghbbocaaGreatDoorCards
import Derived.SevenTiedAt
set_option linter.all false
set_option maxRecDepth 100000
set_option maxHeartbeats 16000000
namespace Go.Proofs.YtpbemaaghbbocaaGreatDoor
open Go.Proofs.Tryz
open Go
theorem ZRb:Rows.shuffledUptoRow.wfByText (Rows.OpenSpec.upto Rows.shuffledSpec)=true:=by kernel_rfl
theorem ZQ8:true=prog.looks []:=by kernel_rfl
theorem ZQ7:false=Rows.shuffledUptoRow.goesBy prog:=by kernel_rfl
theorem ZQ9 : Tryz.prog.funcNamed "gauge/gaugekeep.Shuffled" = some 5 := by kernel_rfl
theorem ZRa:([31,3,4,9,23].all fun u=>!prog.wantsStandIn u)=true:=by kernel_rfl

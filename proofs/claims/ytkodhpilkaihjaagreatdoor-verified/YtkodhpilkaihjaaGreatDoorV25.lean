/- Verified, its tied card: whatever the two texts are, the law that Verify is as the document says returns true and leaves its arguments as they were, the listed variables holding what the program's own text lays in them. -/
import Derived.Test.YtkodhpilkaihjaaGreatDoorV24
import Derived.Test.YtkodhpilkaihjaaGreatDoorV16
import Derived.Test.YtkodhpilkaihjaaGreatDoorV23
set_option linter.all false
set_option maxRecDepth 100000
set_option maxHeartbeats 16000000
namespace Go.Proofs.YtkodhpilkaihjaaGreatDoor
open Go.Proofs.Tryz
open Go.ChangeShapes Go.WideShapes Go.ChangeAt Go.RowKit LS
theorem ZXN:Rows.VerifiedSaid:=
 OpenClaim.holds_of_wide 3 f3 rfl rfl rfl rfl rfl rfl rfl ⟨rfl, rfl, rfl, rfl, rfl⟩ rfl rfl rfl rfl rfl Kr func3 ZD3
   (of_decide_eq_true Kr) (by unfold Func.isWrapper;first|(rw[if_pos (by decide +kernel)];kernel_rfl)|(rw[if_neg (by decide +kernel)];exact⟨rfl,rfl⟩))
   (fun os started H enc _=>ZXO os started H enc)
open Go
theorem verified_card:Rows.VerifiedCardSaid:=
 Claim7.holds_tied_plain_at .later [] _ true _ true
  ZXN (fun _ h=>by cases h) ZDZ (fun _ h=>by cases h) verified_row_tie rfl ⟨rfl,rfl⟩ (by kernel_rfl) rfl
  (fun f fn c a => by
    obtain rfl:f=3:=Option.some.inj (ZDX.symm.trans c) |>.symm;obtain rfl:fn=f3:=(Option.some.inj (func3.symm.trans a)).symm
    exact ⟨ZDW, fun j t b => by
      rw[params3]at b;have d:t∈[9,9]:=by simpa using Array.mem_of_getElem? b
      exact(show prog.wantsStandIn t=false by simpa using List.all_eq_true.1 ZDY t d)⟩)
  ZDV

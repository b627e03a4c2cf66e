/- The number of an error in a store or a span. -/
import Derived.Test.YtmncdbepjhmkgaaDoorNumOf
namespace Go.Proofs.YtmncdbepjhmkgaaDoor
open Go.RowKit LS
set_option maxHeartbeats 2000000 in
theorem number_store (A : Nat → Addr) (m : Int) (w : World) (hv : Vars w A m) (fa : Nat) (hw : w.cell? ⟨fa, 2, none⟩ = some (.iface 155 (.pointer (some (A 5))))) :
    Calls Tryd.prog 9 #[.iface 53 (.pointer (some ⟨fa, 0, none⟩))] w fun e w' => e = .returned (.int .i64 5) ∧ w' = w := by
  have v := hv.all
  go_enter Tryd.func9, Tryd.ntmps9
  iterate 4 (go_wp2_with fail; refine cret (wrapNe hv hw) ?_)
  go_wp2_with fail
  refine cret (is_wrap_same _ _ _ hw) ?_
  go_wp2
  go_ret
  exact ⟨rfl, rfl⟩
set_option maxHeartbeats 2000000 in
theorem number_twice (A : Nat → Addr) (m : Int) (w : World) (hv : Vars w A m) (fa : Nat) (hw : w.cell? ⟨fa, 2, none⟩ = some (.iface 155 (.pointer (some (A 6))))) :
    Calls Tryd.prog 9 #[.iface 53 (.pointer (some ⟨fa, 0, none⟩))] w fun e w' => e = .returned (.int .i64 6) ∧ w' = w := by
  have v := hv.all
  go_enter Tryd.func9, Tryd.ntmps9
  iterate 5 (go_wp2_with fail; refine cret (wrapNe hv hw) ?_)
  go_wp2_with fail
  refine cret (is_wrap_same _ _ _ hw) ?_
  go_wp2
  go_ret
  exact ⟨rfl, rfl⟩
set_option maxHeartbeats 2000000 in
theorem number_many (A : Nat → Addr) (m : Int) (w : World) (hv : Vars w A m) :
    Calls Tryd.prog 9 #[.iface 155 (.pointer (some (A 1)))] w fun e w' => e = .returned (.int .i64 7) ∧ w' = w := by
  have v := hv.all
  go_enter Tryd.func9, Tryd.ntmps9
  iterate 6 (go_wp2_with fail; refine cret (sentNe hv) ?_)
  go_wp2_with fail
  refine cret (is_same _ _) ?_
  go_wp2
  go_ret
  exact ⟨rfl, rfl⟩
set_option maxHeartbeats 2000000 in
theorem number_times (A : Nat → Addr) (m : Int) (w : World) (hv : Vars w A m) :
    Calls Tryd.prog 9 #[.iface 155 (.pointer (some (A 7)))] w fun e w' => e = .returned (.int .i64 8) ∧ w' = w := by
  have v := hv.all
  go_enter Tryd.func9, Tryd.ntmps9
  iterate 7 (go_wp2_with fail; refine cret (sentNe hv) ?_)
  go_wp2_with fail
  refine cret (is_same _ _) ?_
  go_wp2
  go_ret
  exact ⟨rfl, rfl⟩
end Go.Proofs.YtmncdbepjhmkgaaDoor

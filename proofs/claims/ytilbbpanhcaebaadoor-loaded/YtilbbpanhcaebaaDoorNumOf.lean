/- The number that the program tells of an error in a query. -/
import Derived.Test.YtilbbpanhcaebaaDoorErrs
namespace Go.Proofs.YtilbbpanhcaebaaDoor
open Go.RowKit LS

set_option maxHeartbeats 2000000 in
theorem number_nil (A : Nat → Addr) (m : Int) (w : World) (hv : Vars w A m) :
    Calls Tryd.prog 9 #[.nilIface] w fun e w' => e = .returned (.int .i64 0) ∧ w' = w := by
  have vLong := hv.sent 0 (by decide)
  have vSyntax := hv.sent 2 (by decide)
  have vDeep := hv.sent 3 (by decide)
  have vType := hv.sent 4 (by decide)
  have vStore := hv.sent 5 (by decide)
  have vTwice := hv.sent 6 (by decide)
  have vMany := hv.sent 1 (by decide)
  have vTimes := hv.sent 7 (by decide)
  have vCode := hv.sent 8 (by decide)
  have vSum := hv.sent 9 (by decide)
  have vRefer := hv.sent 10 (by decide)
  have vStack := hv.sent 11 (by decide)
  have vFuel := hv.sent 12 (by decide)
  go_enter Tryd.func9, Tryd.ntmps9
  go_wp2_with fail
  refine (is_nil (A 0) _).mono ?_
  rintro e w' ⟨rfl, rfl⟩
  go_wp2_with fail
  refine (is_nil (A 2) _).mono ?_
  rintro e w' ⟨rfl, rfl⟩
  go_wp2_with fail
  refine (is_nil (A 3) _).mono ?_
  rintro e w' ⟨rfl, rfl⟩
  go_wp2_with fail
  refine (is_nil (A 4) _).mono ?_
  rintro e w' ⟨rfl, rfl⟩
  go_wp2_with fail
  refine (is_nil (A 5) _).mono ?_
  rintro e w' ⟨rfl, rfl⟩
  go_wp2_with fail
  refine (is_nil (A 6) _).mono ?_
  rintro e w' ⟨rfl, rfl⟩
  go_wp2_with fail
  refine (is_nil (A 1) _).mono ?_
  rintro e w' ⟨rfl, rfl⟩
  go_wp2_with fail
  refine (is_nil (A 7) _).mono ?_
  rintro e w' ⟨rfl, rfl⟩
  go_wp2_with fail
  refine (is_nil (A 8) _).mono ?_
  rintro e w' ⟨rfl, rfl⟩
  go_wp2_with fail
  refine (is_nil (A 9) _).mono ?_
  rintro e w' ⟨rfl, rfl⟩
  go_wp2_with fail
  refine (is_nil (A 10) _).mono ?_
  rintro e w' ⟨rfl, rfl⟩
  go_wp2_with fail
  refine (is_nil (A 11) _).mono ?_
  rintro e w' ⟨rfl, rfl⟩
  go_wp2_with fail
  refine (is_nil (A 12) _).mono ?_
  rintro e w' ⟨rfl, rfl⟩
  go_wp2
  go_ret
  exact ⟨rfl, rfl⟩
set_option maxHeartbeats 2000000 in
theorem number_long (A : Nat → Addr) (m : Int) (w : World) (hv : Vars w A m) :
    Calls Tryd.prog 9 #[.iface 155 (.pointer (some (A 0)))] w fun e w' => e = .returned (.int .i64 1) ∧ w' = w := by
  have vLong := hv.sent 0 (by decide)
  go_enter Tryd.func9, Tryd.ntmps9
  go_wp2_with fail
  refine (is_same (A 0) _).mono ?_
  rintro e w' ⟨rfl, rfl⟩
  go_wp2
  go_ret
  exact ⟨rfl, rfl⟩
set_option maxHeartbeats 2000000 in
theorem number_syntax (A : Nat → Addr) (m : Int) (w : World) (hv : Vars w A m) (fa : Nat) (hw : w.cell? ⟨fa, 2, none⟩ = some (.iface 155 (.pointer (some (A 2))))) :
    Calls Tryd.prog 9 #[.iface 53 (.pointer (some ⟨fa, 0, none⟩))] w fun e w' => e = .returned (.int .i64 2) ∧ w' = w := by
  have vLong := hv.sent 0 (by decide)
  have vSyntax := hv.sent 2 (by decide)
  obtain ⟨cLong, tLong, rLong⟩ := hv.row 0 (by decide)
  obtain ⟨cSyntax, tSyntax, rSyntax⟩ := hv.row 2 (by decide)
  go_enter Tryd.func9, Tryd.ntmps9
  go_wp2_with fail
  refine (is_wrap_other fa (A 0) (A 2) cSyntax cLong tSyntax tLong _ hw (hv.apart _ (by decide) _ (by decide) (by decide)) rSyntax rLong).mono ?_
  rintro e w' ⟨rfl, rfl⟩
  go_wp2_with fail
  refine (is_wrap_same fa (A 2) _ hw).mono ?_
  rintro e w' ⟨rfl, rfl⟩
  go_wp2
  go_ret
  exact ⟨rfl, rfl⟩
set_option maxHeartbeats 2000000 in
theorem number_deep (A : Nat → Addr) (m : Int) (w : World) (hv : Vars w A m) (fa : Nat) (hw : w.cell? ⟨fa, 2, none⟩ = some (.iface 155 (.pointer (some (A 3))))) :
    Calls Tryd.prog 9 #[.iface 53 (.pointer (some ⟨fa, 0, none⟩))] w fun e w' => e = .returned (.int .i64 3) ∧ w' = w := by
  have vLong := hv.sent 0 (by decide)
  have vSyntax := hv.sent 2 (by decide)
  have vDeep := hv.sent 3 (by decide)
  obtain ⟨cLong, tLong, rLong⟩ := hv.row 0 (by decide)
  obtain ⟨cSyntax, tSyntax, rSyntax⟩ := hv.row 2 (by decide)
  obtain ⟨cDeep, tDeep, rDeep⟩ := hv.row 3 (by decide)
  go_enter Tryd.func9, Tryd.ntmps9
  go_wp2_with fail
  refine (is_wrap_other fa (A 0) (A 3) cDeep cLong tDeep tLong _ hw (hv.apart _ (by decide) _ (by decide) (by decide)) rDeep rLong).mono ?_
  rintro e w' ⟨rfl, rfl⟩
  go_wp2_with fail
  refine (is_wrap_other fa (A 2) (A 3) cDeep cSyntax tDeep tSyntax _ hw (hv.apart _ (by decide) _ (by decide) (by decide)) rDeep rSyntax).mono ?_
  rintro e w' ⟨rfl, rfl⟩
  go_wp2_with fail
  refine (is_wrap_same fa (A 3) _ hw).mono ?_
  rintro e w' ⟨rfl, rfl⟩
  go_wp2
  go_ret
  exact ⟨rfl, rfl⟩
set_option maxHeartbeats 2000000 in
theorem number_type (A : Nat → Addr) (m : Int) (w : World) (hv : Vars w A m) :
    Calls Tryd.prog 9 #[.iface 155 (.pointer (some (A 4)))] w fun e w' => e = .returned (.int .i64 4) ∧ w' = w := by
  have vLong := hv.sent 0 (by decide)
  have vSyntax := hv.sent 2 (by decide)
  have vDeep := hv.sent 3 (by decide)
  have vType := hv.sent 4 (by decide)
  obtain ⟨cLong, tLong, rLong⟩ := hv.row 0 (by decide)
  obtain ⟨cSyntax, tSyntax, rSyntax⟩ := hv.row 2 (by decide)
  obtain ⟨cDeep, tDeep, rDeep⟩ := hv.row 3 (by decide)
  obtain ⟨cType, tType, rType⟩ := hv.row 4 (by decide)
  go_enter Tryd.func9, Tryd.ntmps9
  go_wp2_with fail
  refine (is_other (A 4) (A 0) cType cLong tType tLong _ (hv.apart _ (by decide) _ (by decide) (by decide)) rType rLong).mono ?_
  rintro e w' ⟨rfl, rfl⟩
  go_wp2_with fail
  refine (is_other (A 4) (A 2) cType cSyntax tType tSyntax _ (hv.apart _ (by decide) _ (by decide) (by decide)) rType rSyntax).mono ?_
  rintro e w' ⟨rfl, rfl⟩
  go_wp2_with fail
  refine (is_other (A 4) (A 3) cType cDeep tType tDeep _ (hv.apart _ (by decide) _ (by decide) (by decide)) rType rDeep).mono ?_
  rintro e w' ⟨rfl, rfl⟩
  go_wp2_with fail
  refine (is_same (A 4) _).mono ?_
  rintro e w' ⟨rfl, rfl⟩
  go_wp2
  go_ret
  exact ⟨rfl, rfl⟩
end Go.Proofs.YtilbbpanhcaebaaDoor

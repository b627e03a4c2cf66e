/- The number that the program tells of an error in a store, or in times. -/
import Derived.Test.YtilbbpanhcaebaaDoorErrs
namespace Go.Proofs.YtilbbpanhcaebaaDoor
open Go.RowKit LS

set_option maxHeartbeats 2000000 in
theorem number_store (A : Nat → Addr) (m : Int) (w : World) (hv : Vars w A m) (fa : Nat) (hw : w.cell? ⟨fa, 2, none⟩ = some (.iface 155 (.pointer (some (A 5))))) :
    Calls Tryd.prog 9 #[.iface 53 (.pointer (some ⟨fa, 0, none⟩))] w fun e w' => e = .returned (.int .i64 5) ∧ w' = w := by
  have vLong := hv.sent 0 (by decide)
  have vSyntax := hv.sent 2 (by decide)
  have vDeep := hv.sent 3 (by decide)
  have vType := hv.sent 4 (by decide)
  have vStore := hv.sent 5 (by decide)
  obtain ⟨cLong, tLong, rLong⟩ := hv.row 0 (by decide)
  obtain ⟨cSyntax, tSyntax, rSyntax⟩ := hv.row 2 (by decide)
  obtain ⟨cDeep, tDeep, rDeep⟩ := hv.row 3 (by decide)
  obtain ⟨cType, tType, rType⟩ := hv.row 4 (by decide)
  obtain ⟨cStore, tStore, rStore⟩ := hv.row 5 (by decide)
  go_enter Tryd.func9, Tryd.ntmps9
  go_wp2_with fail
  refine (is_wrap_other fa (A 0) (A 5) cStore cLong tStore tLong _ hw (hv.apart _ (by decide) _ (by decide) (by decide)) rStore rLong).mono ?_
  rintro e w' ⟨rfl, rfl⟩
  go_wp2_with fail
  refine (is_wrap_other fa (A 2) (A 5) cStore cSyntax tStore tSyntax _ hw (hv.apart _ (by decide) _ (by decide) (by decide)) rStore rSyntax).mono ?_
  rintro e w' ⟨rfl, rfl⟩
  go_wp2_with fail
  refine (is_wrap_other fa (A 3) (A 5) cStore cDeep tStore tDeep _ hw (hv.apart _ (by decide) _ (by decide) (by decide)) rStore rDeep).mono ?_
  rintro e w' ⟨rfl, rfl⟩
  go_wp2_with fail
  refine (is_wrap_other fa (A 4) (A 5) cStore cType tStore tType _ hw (hv.apart _ (by decide) _ (by decide) (by decide)) rStore rType).mono ?_
  rintro e w' ⟨rfl, rfl⟩
  go_wp2_with fail
  refine (is_wrap_same fa (A 5) _ hw).mono ?_
  rintro e w' ⟨rfl, rfl⟩
  go_wp2
  go_ret
  exact ⟨rfl, rfl⟩
set_option maxHeartbeats 2000000 in
theorem number_twice (A : Nat → Addr) (m : Int) (w : World) (hv : Vars w A m) (fa : Nat) (hw : w.cell? ⟨fa, 2, none⟩ = some (.iface 155 (.pointer (some (A 6))))) :
    Calls Tryd.prog 9 #[.iface 53 (.pointer (some ⟨fa, 0, none⟩))] w fun e w' => e = .returned (.int .i64 6) ∧ w' = w := by
  have vLong := hv.sent 0 (by decide)
  have vSyntax := hv.sent 2 (by decide)
  have vDeep := hv.sent 3 (by decide)
  have vType := hv.sent 4 (by decide)
  have vStore := hv.sent 5 (by decide)
  have vTwice := hv.sent 6 (by decide)
  obtain ⟨cLong, tLong, rLong⟩ := hv.row 0 (by decide)
  obtain ⟨cSyntax, tSyntax, rSyntax⟩ := hv.row 2 (by decide)
  obtain ⟨cDeep, tDeep, rDeep⟩ := hv.row 3 (by decide)
  obtain ⟨cType, tType, rType⟩ := hv.row 4 (by decide)
  obtain ⟨cStore, tStore, rStore⟩ := hv.row 5 (by decide)
  obtain ⟨cTwice, tTwice, rTwice⟩ := hv.row 6 (by decide)
  go_enter Tryd.func9, Tryd.ntmps9
  go_wp2_with fail
  refine (is_wrap_other fa (A 0) (A 6) cTwice cLong tTwice tLong _ hw (hv.apart _ (by decide) _ (by decide) (by decide)) rTwice rLong).mono ?_
  rintro e w' ⟨rfl, rfl⟩
  go_wp2_with fail
  refine (is_wrap_other fa (A 2) (A 6) cTwice cSyntax tTwice tSyntax _ hw (hv.apart _ (by decide) _ (by decide) (by decide)) rTwice rSyntax).mono ?_
  rintro e w' ⟨rfl, rfl⟩
  go_wp2_with fail
  refine (is_wrap_other fa (A 3) (A 6) cTwice cDeep tTwice tDeep _ hw (hv.apart _ (by decide) _ (by decide) (by decide)) rTwice rDeep).mono ?_
  rintro e w' ⟨rfl, rfl⟩
  go_wp2_with fail
  refine (is_wrap_other fa (A 4) (A 6) cTwice cType tTwice tType _ hw (hv.apart _ (by decide) _ (by decide) (by decide)) rTwice rType).mono ?_
  rintro e w' ⟨rfl, rfl⟩
  go_wp2_with fail
  refine (is_wrap_other fa (A 5) (A 6) cTwice cStore tTwice tStore _ hw (hv.apart _ (by decide) _ (by decide) (by decide)) rTwice rStore).mono ?_
  rintro e w' ⟨rfl, rfl⟩
  go_wp2_with fail
  refine (is_wrap_same fa (A 6) _ hw).mono ?_
  rintro e w' ⟨rfl, rfl⟩
  go_wp2
  go_ret
  exact ⟨rfl, rfl⟩
set_option maxHeartbeats 2000000 in
theorem number_many (A : Nat → Addr) (m : Int) (w : World) (hv : Vars w A m) :
    Calls Tryd.prog 9 #[.iface 155 (.pointer (some (A 1)))] w fun e w' => e = .returned (.int .i64 7) ∧ w' = w := by
  have vLong := hv.sent 0 (by decide)
  have vSyntax := hv.sent 2 (by decide)
  have vDeep := hv.sent 3 (by decide)
  have vType := hv.sent 4 (by decide)
  have vStore := hv.sent 5 (by decide)
  have vTwice := hv.sent 6 (by decide)
  have vMany := hv.sent 1 (by decide)
  obtain ⟨cLong, tLong, rLong⟩ := hv.row 0 (by decide)
  obtain ⟨cSyntax, tSyntax, rSyntax⟩ := hv.row 2 (by decide)
  obtain ⟨cDeep, tDeep, rDeep⟩ := hv.row 3 (by decide)
  obtain ⟨cType, tType, rType⟩ := hv.row 4 (by decide)
  obtain ⟨cStore, tStore, rStore⟩ := hv.row 5 (by decide)
  obtain ⟨cTwice, tTwice, rTwice⟩ := hv.row 6 (by decide)
  obtain ⟨cMany, tMany, rMany⟩ := hv.row 1 (by decide)
  go_enter Tryd.func9, Tryd.ntmps9
  go_wp2_with fail
  refine (is_other (A 1) (A 0) cMany cLong tMany tLong _ (hv.apart _ (by decide) _ (by decide) (by decide)) rMany rLong).mono ?_
  rintro e w' ⟨rfl, rfl⟩
  go_wp2_with fail
  refine (is_other (A 1) (A 2) cMany cSyntax tMany tSyntax _ (hv.apart _ (by decide) _ (by decide) (by decide)) rMany rSyntax).mono ?_
  rintro e w' ⟨rfl, rfl⟩
  go_wp2_with fail
  refine (is_other (A 1) (A 3) cMany cDeep tMany tDeep _ (hv.apart _ (by decide) _ (by decide) (by decide)) rMany rDeep).mono ?_
  rintro e w' ⟨rfl, rfl⟩
  go_wp2_with fail
  refine (is_other (A 1) (A 4) cMany cType tMany tType _ (hv.apart _ (by decide) _ (by decide) (by decide)) rMany rType).mono ?_
  rintro e w' ⟨rfl, rfl⟩
  go_wp2_with fail
  refine (is_other (A 1) (A 5) cMany cStore tMany tStore _ (hv.apart _ (by decide) _ (by decide) (by decide)) rMany rStore).mono ?_
  rintro e w' ⟨rfl, rfl⟩
  go_wp2_with fail
  refine (is_other (A 1) (A 6) cMany cTwice tMany tTwice _ (hv.apart _ (by decide) _ (by decide) (by decide)) rMany rTwice).mono ?_
  rintro e w' ⟨rfl, rfl⟩
  go_wp2_with fail
  refine (is_same (A 1) _).mono ?_
  rintro e w' ⟨rfl, rfl⟩
  go_wp2
  go_ret
  exact ⟨rfl, rfl⟩
set_option maxHeartbeats 2000000 in
theorem number_times (A : Nat → Addr) (m : Int) (w : World) (hv : Vars w A m) :
    Calls Tryd.prog 9 #[.iface 155 (.pointer (some (A 7)))] w fun e w' => e = .returned (.int .i64 8) ∧ w' = w := by
  have vLong := hv.sent 0 (by decide)
  have vSyntax := hv.sent 2 (by decide)
  have vDeep := hv.sent 3 (by decide)
  have vType := hv.sent 4 (by decide)
  have vStore := hv.sent 5 (by decide)
  have vTwice := hv.sent 6 (by decide)
  have vMany := hv.sent 1 (by decide)
  have vTimes := hv.sent 7 (by decide)
  obtain ⟨cLong, tLong, rLong⟩ := hv.row 0 (by decide)
  obtain ⟨cSyntax, tSyntax, rSyntax⟩ := hv.row 2 (by decide)
  obtain ⟨cDeep, tDeep, rDeep⟩ := hv.row 3 (by decide)
  obtain ⟨cType, tType, rType⟩ := hv.row 4 (by decide)
  obtain ⟨cStore, tStore, rStore⟩ := hv.row 5 (by decide)
  obtain ⟨cTwice, tTwice, rTwice⟩ := hv.row 6 (by decide)
  obtain ⟨cMany, tMany, rMany⟩ := hv.row 1 (by decide)
  obtain ⟨cTimes, tTimes, rTimes⟩ := hv.row 7 (by decide)
  go_enter Tryd.func9, Tryd.ntmps9
  go_wp2_with fail
  refine (is_other (A 7) (A 0) cTimes cLong tTimes tLong _ (hv.apart _ (by decide) _ (by decide) (by decide)) rTimes rLong).mono ?_
  rintro e w' ⟨rfl, rfl⟩
  go_wp2_with fail
  refine (is_other (A 7) (A 2) cTimes cSyntax tTimes tSyntax _ (hv.apart _ (by decide) _ (by decide) (by decide)) rTimes rSyntax).mono ?_
  rintro e w' ⟨rfl, rfl⟩
  go_wp2_with fail
  refine (is_other (A 7) (A 3) cTimes cDeep tTimes tDeep _ (hv.apart _ (by decide) _ (by decide) (by decide)) rTimes rDeep).mono ?_
  rintro e w' ⟨rfl, rfl⟩
  go_wp2_with fail
  refine (is_other (A 7) (A 4) cTimes cType tTimes tType _ (hv.apart _ (by decide) _ (by decide) (by decide)) rTimes rType).mono ?_
  rintro e w' ⟨rfl, rfl⟩
  go_wp2_with fail
  refine (is_other (A 7) (A 5) cTimes cStore tTimes tStore _ (hv.apart _ (by decide) _ (by decide) (by decide)) rTimes rStore).mono ?_
  rintro e w' ⟨rfl, rfl⟩
  go_wp2_with fail
  refine (is_other (A 7) (A 6) cTimes cTwice tTimes tTwice _ (hv.apart _ (by decide) _ (by decide) (by decide)) rTimes rTwice).mono ?_
  rintro e w' ⟨rfl, rfl⟩
  go_wp2_with fail
  refine (is_other (A 7) (A 1) cTimes cMany tTimes tMany _ (hv.apart _ (by decide) _ (by decide) (by decide)) rTimes rMany).mono ?_
  rintro e w' ⟨rfl, rfl⟩
  go_wp2_with fail
  refine (is_same (A 7) _).mono ?_
  rintro e w' ⟨rfl, rfl⟩
  go_wp2
  go_ret
  exact ⟨rfl, rfl⟩
end Go.Proofs.YtilbbpanhcaebaaDoor

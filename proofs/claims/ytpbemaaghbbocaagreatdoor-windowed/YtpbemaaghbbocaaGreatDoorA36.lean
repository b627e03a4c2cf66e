/- Parts. -/
import Derived.Test.YtpbemaaghbbocaaGreatDoorA35
namespace Go.Proofs.YtpbemaaghbbocaaGreatDoor
open Go.RowKit LS
set_option maxHeartbeats 1000000 in
theorem place_nil (w : World) :
    Calls Tryz.prog 21 #[.nilIface] w fun e w' => e = .returned (.int .i64 0) ∧ Below w.heap.size w w' := by
  go_enter Tryz.func21, Tryz.ntmps21
  go_wp2_with fail
  refine (as_nil _ _).mono ?_
  rintro e w' ⟨rfl, rfl⟩
  go_wp2
  go_ret
  exact ⟨rfl, (by repeat (first | exact Below.refl _ _ | assumption | refine Below.alloc ?_ (by first | omega | (simp; omega) | simp) _ | refine Below.setCell ?_ (by first | omega | (simp; omega) | simp) _ | refine below_drewN' ?_ _ | refine Below.drew ?_))⟩
set_option maxHeartbeats 1000000 in
theorem place_bare (A : Nat → Addr) (m : Int) (a : Addr) (w : World) (hv : Vars w A m) :
    Calls Tryz.prog 21 #[.iface 389 (.pointer (some a))] w fun e w' => e = .returned (.int .i64 0) ∧ Below w.heap.size w w' := by
  have hB : Below w.heap.size w (w.alloc (.cells #[.pointer none] 94)) := (Below.refl _ _).alloc (Nat.le_refl _) _
  go_enter Tryz.func21, Tryz.ntmps21
  go_wp2_with fail
  refine (as_miss _ _ _ (hv.alloc _).handle).mono ?_
  rintro e w' ⟨rfl, hb⟩
  have hb' : Below w.heap.size w w' := hB.trans (hb.mono (by simp))
  clear hb hB
  go_wp2
  go_ret
  exact ⟨rfl, hb'⟩
set_option maxHeartbeats 1000000 in
theorem place_fault (A : Nat → Addr) (m : Int) (fa : Nat) (i : Int) (w : World) (hv : Vars w A m) (hp : w.cell? ⟨fa, 1, none⟩ = some (.int .i64 i)) :
    Calls Tryz.prog 21 #[.iface 94 (.pointer (some ⟨fa, 0, none⟩))] w fun e w' => e = .returned (.int .i64 i) ∧ Below w.heap.size w w' := by
  have hfl : fa < w.heap.size := World.block_lt_of_cell? _ _ hp
  go_enter Tryz.func21, Tryz.ntmps21
  go_wp2_with fail
  refine (as_hit _ _ (.pointer none) _ (hv.alloc _).handle (by simp) (by simp)).mono ?_
  rintro e w' ⟨rfl, hw⟩
  have hb' : Below w.heap.size w w' := by rw [hw]; exact (by repeat (first | exact Below.refl _ _ | assumption | refine Below.alloc ?_ (by first | omega | (simp; omega) | simp) _ | refine Below.setCell ?_ (by first | omega | (simp; omega) | simp) _ | refine below_drewN' ?_ _ | refine Below.drew ?_))
  have c1 : w'.cell? ⟨w.heap.size, 0, none⟩ = some (.pointer (some ⟨fa, 0, none⟩)) := by
    rw [hw]
    refine World.cell?_setCell_same _ _ _ (u := .pointer none) ?_
    refine (Below.cell (B := w.heap.size + 1) (w := w.alloc (.cells #[.pointer none] 94)) ?_ (Nat.lt_succ_self _)).trans (by simp)
    exact (by repeat (first | exact Below.refl _ _ | assumption | refine Below.alloc ?_ (by first | omega | (simp; omega) | simp) _ | refine Below.setCell ?_ (by first | omega | (simp; omega) | simp) _ | refine below_drewN' ?_ _ | refine Below.drew ?_))
  have c2 : w'.cell? ⟨fa, 1, none⟩ = some (.int .i64 i) := (hb'.cell (p := ⟨fa, 1, none⟩) hfl).trans hp
  clear hw
  go_wp2
  go_ret
  exact ⟨rfl, hb'⟩
set_option maxHeartbeats 2000000 in
theorem number_store (A : Nat → Addr) (m : Int) (w : World) (hv : Vars w A m) (fa : Nat) (hw : w.cell? ⟨fa, 2, none⟩ = some (.iface 389 (.pointer (some (A 4))))) :
    Calls Tryz.prog 20 #[.iface 94 (.pointer (some ⟨fa, 0, none⟩))] w fun e w' => e = .returned (.int .i64 5) ∧ w' = w := by
  have vLong := hv.sent 0 (by decide)
  have vSyntax := hv.sent 1 (by decide)
  have vDeep := hv.sent 2 (by decide)
  have vType := hv.sent 3 (by decide)
  have vStore := hv.sent 4 (by decide)
  obtain ⟨cLong, tLong, rLong⟩ := hv.row 0 (by decide)
  obtain ⟨cSyntax, tSyntax, rSyntax⟩ := hv.row 1 (by decide)
  obtain ⟨cDeep, tDeep, rDeep⟩ := hv.row 2 (by decide)
  obtain ⟨cType, tType, rType⟩ := hv.row 3 (by decide)
  obtain ⟨cStore, tStore, rStore⟩ := hv.row 4 (by decide)
  go_enter Tryz.func20, Tryz.ntmps20
  go_wp2_with fail
  refine (is_wrap_other fa (A 0) (A 4) cStore cLong tStore tLong _ hw (hv.apart _ (by decide) _ (by decide) (by decide)) rStore rLong).mono ?_
  rintro e w' ⟨rfl, rfl⟩
  go_wp2_with fail
  refine (is_wrap_other fa (A 1) (A 4) cStore cSyntax tStore tSyntax _ hw (hv.apart _ (by decide) _ (by decide) (by decide)) rStore rSyntax).mono ?_
  rintro e w' ⟨rfl, rfl⟩
  go_wp2_with fail
  refine (is_wrap_other fa (A 2) (A 4) cStore cDeep tStore tDeep _ hw (hv.apart _ (by decide) _ (by decide) (by decide)) rStore rDeep).mono ?_
  rintro e w' ⟨rfl, rfl⟩
  go_wp2_with fail
  refine (is_wrap_other fa (A 3) (A 4) cStore cType tStore tType _ hw (hv.apart _ (by decide) _ (by decide) (by decide)) rStore rType).mono ?_
  rintro e w' ⟨rfl, rfl⟩
  go_wp2_with fail
  refine (is_wrap_same fa (A 4) _ hw).mono ?_
  rintro e w' ⟨rfl, rfl⟩
  go_wp2
  go_ret
  exact ⟨rfl, rfl⟩
set_option maxHeartbeats 2000000 in
theorem number_twice (A : Nat → Addr) (m : Int) (w : World) (hv : Vars w A m) (fa : Nat) (hw : w.cell? ⟨fa, 2, none⟩ = some (.iface 389 (.pointer (some (A 5))))) :
    Calls Tryz.prog 20 #[.iface 94 (.pointer (some ⟨fa, 0, none⟩))] w fun e w' => e = .returned (.int .i64 6) ∧ w' = w := by
  have vLong := hv.sent 0 (by decide)
  have vSyntax := hv.sent 1 (by decide)
  have vDeep := hv.sent 2 (by decide)
  have vType := hv.sent 3 (by decide)
  have vStore := hv.sent 4 (by decide)
  have vTwice := hv.sent 5 (by decide)
  obtain ⟨cLong, tLong, rLong⟩ := hv.row 0 (by decide)
  obtain ⟨cSyntax, tSyntax, rSyntax⟩ := hv.row 1 (by decide)
  obtain ⟨cDeep, tDeep, rDeep⟩ := hv.row 2 (by decide)
  obtain ⟨cType, tType, rType⟩ := hv.row 3 (by decide)
  obtain ⟨cStore, tStore, rStore⟩ := hv.row 4 (by decide)
  obtain ⟨cTwice, tTwice, rTwice⟩ := hv.row 5 (by decide)
  go_enter Tryz.func20, Tryz.ntmps20
  go_wp2_with fail
  refine (is_wrap_other fa (A 0) (A 5) cTwice cLong tTwice tLong _ hw (hv.apart _ (by decide) _ (by decide) (by decide)) rTwice rLong).mono ?_
  rintro e w' ⟨rfl, rfl⟩
  go_wp2_with fail
  refine (is_wrap_other fa (A 1) (A 5) cTwice cSyntax tTwice tSyntax _ hw (hv.apart _ (by decide) _ (by decide) (by decide)) rTwice rSyntax).mono ?_
  rintro e w' ⟨rfl, rfl⟩
  go_wp2_with fail
  refine (is_wrap_other fa (A 2) (A 5) cTwice cDeep tTwice tDeep _ hw (hv.apart _ (by decide) _ (by decide) (by decide)) rTwice rDeep).mono ?_
  rintro e w' ⟨rfl, rfl⟩
  go_wp2_with fail
  refine (is_wrap_other fa (A 3) (A 5) cTwice cType tTwice tType _ hw (hv.apart _ (by decide) _ (by decide) (by decide)) rTwice rType).mono ?_
  rintro e w' ⟨rfl, rfl⟩
  go_wp2_with fail
  refine (is_wrap_other fa (A 4) (A 5) cTwice cStore tTwice tStore _ hw (hv.apart _ (by decide) _ (by decide) (by decide)) rTwice rStore).mono ?_
  rintro e w' ⟨rfl, rfl⟩
  go_wp2_with fail
  refine (is_wrap_same fa (A 5) _ hw).mono ?_
  rintro e w' ⟨rfl, rfl⟩
  go_wp2
  go_ret
  exact ⟨rfl, rfl⟩
set_option maxHeartbeats 2000000 in
theorem number_many (A : Nat → Addr) (m : Int) (w : World) (hv : Vars w A m) :
    Calls Tryz.prog 20 #[.iface 389 (.pointer (some (A 6)))] w fun e w' => e = .returned (.int .i64 7) ∧ w' = w := by
  have vLong := hv.sent 0 (by decide)
  have vSyntax := hv.sent 1 (by decide)
  have vDeep := hv.sent 2 (by decide)
  have vType := hv.sent 3 (by decide)
  have vStore := hv.sent 4 (by decide)
  have vTwice := hv.sent 5 (by decide)
  have vMany := hv.sent 6 (by decide)
  obtain ⟨cLong, tLong, rLong⟩ := hv.row 0 (by decide)
  obtain ⟨cSyntax, tSyntax, rSyntax⟩ := hv.row 1 (by decide)
  obtain ⟨cDeep, tDeep, rDeep⟩ := hv.row 2 (by decide)
  obtain ⟨cType, tType, rType⟩ := hv.row 3 (by decide)
  obtain ⟨cStore, tStore, rStore⟩ := hv.row 4 (by decide)
  obtain ⟨cTwice, tTwice, rTwice⟩ := hv.row 5 (by decide)
  obtain ⟨cMany, tMany, rMany⟩ := hv.row 6 (by decide)
  go_enter Tryz.func20, Tryz.ntmps20
  go_wp2_with fail
  refine (is_other (A 6) (A 0) cMany cLong tMany tLong _ (hv.apart _ (by decide) _ (by decide) (by decide)) rMany rLong).mono ?_
  rintro e w' ⟨rfl, rfl⟩
  go_wp2_with fail
  refine (is_other (A 6) (A 1) cMany cSyntax tMany tSyntax _ (hv.apart _ (by decide) _ (by decide) (by decide)) rMany rSyntax).mono ?_
  rintro e w' ⟨rfl, rfl⟩
  go_wp2_with fail
  refine (is_other (A 6) (A 2) cMany cDeep tMany tDeep _ (hv.apart _ (by decide) _ (by decide) (by decide)) rMany rDeep).mono ?_
  rintro e w' ⟨rfl, rfl⟩
  go_wp2_with fail
  refine (is_other (A 6) (A 3) cMany cType tMany tType _ (hv.apart _ (by decide) _ (by decide) (by decide)) rMany rType).mono ?_
  rintro e w' ⟨rfl, rfl⟩
  go_wp2_with fail
  refine (is_other (A 6) (A 4) cMany cStore tMany tStore _ (hv.apart _ (by decide) _ (by decide) (by decide)) rMany rStore).mono ?_
  rintro e w' ⟨rfl, rfl⟩
  go_wp2_with fail
  refine (is_other (A 6) (A 5) cMany cTwice tMany tTwice _ (hv.apart _ (by decide) _ (by decide) (by decide)) rMany rTwice).mono ?_
  rintro e w' ⟨rfl, rfl⟩
  go_wp2_with fail
  refine (is_same (A 6) _).mono ?_
  rintro e w' ⟨rfl, rfl⟩
  go_wp2
  go_ret
  exact ⟨rfl, rfl⟩
set_option maxHeartbeats 2000000 in
theorem number_times (A : Nat → Addr) (m : Int) (w : World) (hv : Vars w A m) :
    Calls Tryz.prog 20 #[.iface 389 (.pointer (some (A 7)))] w fun e w' => e = .returned (.int .i64 8) ∧ w' = w := by
  have vLong := hv.sent 0 (by decide)
  have vSyntax := hv.sent 1 (by decide)
  have vDeep := hv.sent 2 (by decide)
  have vType := hv.sent 3 (by decide)
  have vStore := hv.sent 4 (by decide)
  have vTwice := hv.sent 5 (by decide)
  have vMany := hv.sent 6 (by decide)
  have vTimes := hv.sent 7 (by decide)
  obtain ⟨cLong, tLong, rLong⟩ := hv.row 0 (by decide)
  obtain ⟨cSyntax, tSyntax, rSyntax⟩ := hv.row 1 (by decide)
  obtain ⟨cDeep, tDeep, rDeep⟩ := hv.row 2 (by decide)
  obtain ⟨cType, tType, rType⟩ := hv.row 3 (by decide)
  obtain ⟨cStore, tStore, rStore⟩ := hv.row 4 (by decide)
  obtain ⟨cTwice, tTwice, rTwice⟩ := hv.row 5 (by decide)
  obtain ⟨cMany, tMany, rMany⟩ := hv.row 6 (by decide)
  obtain ⟨cTimes, tTimes, rTimes⟩ := hv.row 7 (by decide)
  go_enter Tryz.func20, Tryz.ntmps20
  go_wp2_with fail
  refine (is_other (A 7) (A 0) cTimes cLong tTimes tLong _ (hv.apart _ (by decide) _ (by decide) (by decide)) rTimes rLong).mono ?_
  rintro e w' ⟨rfl, rfl⟩
  go_wp2_with fail
  refine (is_other (A 7) (A 1) cTimes cSyntax tTimes tSyntax _ (hv.apart _ (by decide) _ (by decide) (by decide)) rTimes rSyntax).mono ?_
  rintro e w' ⟨rfl, rfl⟩
  go_wp2_with fail
  refine (is_other (A 7) (A 2) cTimes cDeep tTimes tDeep _ (hv.apart _ (by decide) _ (by decide) (by decide)) rTimes rDeep).mono ?_
  rintro e w' ⟨rfl, rfl⟩
  go_wp2_with fail
  refine (is_other (A 7) (A 3) cTimes cType tTimes tType _ (hv.apart _ (by decide) _ (by decide) (by decide)) rTimes rType).mono ?_
  rintro e w' ⟨rfl, rfl⟩
  go_wp2_with fail
  refine (is_other (A 7) (A 4) cTimes cStore tTimes tStore _ (hv.apart _ (by decide) _ (by decide) (by decide)) rTimes rStore).mono ?_
  rintro e w' ⟨rfl, rfl⟩
  go_wp2_with fail
  refine (is_other (A 7) (A 5) cTimes cTwice tTimes tTwice _ (hv.apart _ (by decide) _ (by decide) (by decide)) rTimes rTwice).mono ?_
  rintro e w' ⟨rfl, rfl⟩
  go_wp2_with fail
  refine (is_other (A 7) (A 6) cTimes cMany tTimes tMany _ (hv.apart _ (by decide) _ (by decide) (by decide)) rTimes rMany).mono ?_
  rintro e w' ⟨rfl, rfl⟩
  go_wp2_with fail
  refine (is_same (A 7) _).mono ?_
  rintro e w' ⟨rfl, rfl⟩
  go_wp2
  go_ret
  exact ⟨rfl, rfl⟩
end Go.Proofs.YtpbemaaghbbocaaGreatDoor

/- The place that the program tells of an error. -/
import Derived.Test.YtmncdbepjhmkgaaDoorErrAs2
import Derived.Test.YtmncdbepjhmkgaaDoorNumOf
namespace Go.Proofs.YtmncdbepjhmkgaaDoor
open Go.RowKit LS

set_option maxHeartbeats 1000000 in
theorem place_nil (w : World) :
    Calls Tryd.prog 10 #[.nilIface] w fun e w' => e = .returned (.int .i64 0) ∧ Below w.heap.size w w' := by
  go_enter Tryd.func10, Tryd.ntmps10
  go_wp2_with fail
  refine (as_nil _ _).mono ?_
  rintro e w' ⟨rfl, rfl⟩
  go_wp2
  go_ret
  exact ⟨rfl, belB⟩

set_option maxHeartbeats 1000000 in
theorem place_bare (A : Nat → Addr) (m : Int) (a : Addr) (w : World) (hv : Vars w A m) :
    Calls Tryd.prog 10 #[.iface 155 (.pointer (some a))] w fun e w' => e = .returned (.int .i64 0) ∧ Below w.heap.size w w' := by
  have hB : Below w.heap.size w (w.alloc (.cells #[.pointer none] 53)) := (Below.refl _ _).alloc (Nat.le_refl _) _
  go_enter Tryd.func10, Tryd.ntmps10
  go_wp2_with fail
  refine (as_miss _ _ _ (hv.alloc _).handle).mono ?_
  rintro e w' ⟨rfl, hb⟩
  have hb' : Below w.heap.size w w' := hB.trans (hb.mono (by simp))
  clear hb hB
  go_wp2
  go_ret
  exact ⟨rfl, hb'⟩

set_option maxHeartbeats 1000000 in
theorem place_fault (A : Nat → Addr) (m : Int) (fa : Nat) (i : Int) (w : World) (hv : Vars w A m) (hp : w.cell? ⟨fa, 1, none⟩ = some (.int .i64 i)) :
    Calls Tryd.prog 10 #[.iface 53 (.pointer (some ⟨fa, 0, none⟩))] w fun e w' => e = .returned (.int .i64 i) ∧ Below w.heap.size w w' := by
  have hfl : fa < w.heap.size := World.block_lt_of_cell? _ _ hp
  go_enter Tryd.func10, Tryd.ntmps10
  go_wp2_with fail
  refine (as_hit _ _ (.pointer none) _ (hv.alloc _).handle (by simp) (by simp)).mono ?_
  rintro e w' ⟨rfl, hw⟩
  have hb' : Below w.heap.size w w' := by rw [hw]; exact belB
  have c1 : w'.cell? ⟨w.heap.size, 0, none⟩ = some (.pointer (some ⟨fa, 0, none⟩)) := by
    rw [hw]
    refine World.cell?_setCell_same _ _ _ (u := .pointer none) ?_
    refine (Below.cell (B := w.heap.size + 1) (w := w.alloc (.cells #[.pointer none] 53)) ?_ (Nat.lt_succ_self _)).trans (by simp)
    exact belB
  have c2 : w'.cell? ⟨fa, 1, none⟩ = some (.int .i64 i) := (hb'.cell (p := ⟨fa, 1, none⟩) hfl).trans hp
  clear hw
  go_wp2
  go_ret
  exact ⟨rfl, hb'⟩
end Go.Proofs.YtmncdbepjhmkgaaDoor

/- What the program's Load answers of any text. -/
import Derived.Test.YtmncdbepjhmkgaaDoorPlaceOf
import Derived.Test.YtmncdbepjhmkgaaDoorNumOfL
import Derived.Test.YtmncdbepjhmkgaaDoorDevTwice
namespace Go.Proofs.YtmncdbepjhmkgaaDoor
open Go.RowKit LS

/-- The answer of Load: the error's number and its place. -/
def loadRes (l : List UInt8) : Nat × Nat :=
  if 6000 < l.length then (1, 0) else match linesAcc 0 [] (split 10 l) with
    | .inl i => (5, i)
    | .inr es => match twiceAcc 0 [] (split 10 l) with
      | some i => (6, i)
      | none => if 30 < es.length ∨ 200 < sumTo es es.length then (7, 0) else (0, 0)

/-- What kind of error the reader hands back: its number and place. -/
def LErrIs (w : World) (A : Nat → Addr) (err : Value) (r : Nat × Nat) : Prop :=
  (err = .nilIface ∧ r = (0, 0)) ∨
  (err = .iface 155 (.pointer (some (A 0))) ∧ r = (1, 0)) ∨
  (err = .iface 155 (.pointer (some (A 1))) ∧ r = (7, 0)) ∨
  (∃ i fa : Nat, err = .iface 53 (.pointer (some ⟨fa, 0, none⟩)) ∧ r = (5, i) ∧ w.cell? ⟨fa, 1, none⟩ = some (.int .i64 i) ∧ w.cell? ⟨fa, 2, none⟩ = some (.iface 155 (.pointer (some (A 5))))) ∨
  (∃ i fa : Nat, err = .iface 53 (.pointer (some ⟨fa, 0, none⟩)) ∧ r = (6, i) ∧ w.cell? ⟨fa, 1, none⟩ = some (.int .i64 i) ∧ w.cell? ⟨fa, 2, none⟩ = some (.iface 155 (.pointer (some (A 6)))))

theorem cells_of_heap {w : World} {fa : Nat} {x y z : Value} {t : TypeId} (h : w.heap[fa]? = some (.cells #[x, y, z] t (0, 0))) : w.cell? ⟨fa, 1, none⟩ = some y ∧ w.cell? ⟨fa, 2, none⟩ = some z := by
  simp [World.cell?, h]

set_option maxHeartbeats 1000000 in
/-- gauge.Load, out of what Read hands back. -/
theorem load_of (s : ByteArray) (A : Nat → Addr) (m : Int) (r : Nat × Nat) (w : World) (hv : Vars w A m)
    (hread : Hid (Calls Tryd.prog 8 #[.string s] w fun e w' => ∃ sv err, e = .returned (.tuple #[sv, err]) ∧ Hid (LErrIs w' A err r) ∧ Below w.heap.size w w')) :
    Calls Tryd.prog 5 #[.string s] w fun e w' => e = .returned (.tuple #[.int .i64 r.1, .int .i64 r.2]) ∧ Below w.heap.size w w' := by
  go_enter Tryd.func5, Tryd.ntmps5
  go_wp2_with fail
  refine hread.out.mono ?_
  rintro e w1 ⟨sv, err, rfl, herr, hb1⟩
  have hv1 := hv.below hb1
  rcases herr.out with ⟨rfl, rfl⟩ | ⟨rfl, rfl⟩ | ⟨rfl, rfl⟩ | ⟨i, fa, rfl, rfl, h1, h2⟩ | ⟨i, fa, rfl, rfl, h1, h2⟩
  · go_wp2_with (first | (go_at_call 9; refine (number_nil A m _ hv1).mono ?_; rintro e w' ⟨rfl, rfl⟩) | (go_at_call 10; refine (place_nil _).mono ?_; rintro e w' ⟨rfl, hb2⟩))
    go_ret2
    exact ⟨rfl, hb1.trans (hb2.mono hb1.size)⟩
  · go_wp2_with (first | (go_at_call 9; refine (number_long A m _ hv1).mono ?_; rintro e w' ⟨rfl, rfl⟩) | (go_at_call 10; refine (place_bare A m _ _ hv1).mono ?_; rintro e w' ⟨rfl, hb2⟩))
    go_ret2
    exact ⟨rfl, hb1.trans (hb2.mono hb1.size)⟩
  · go_wp2_with (first | (go_at_call 9; refine (number_many A m _ hv1).mono ?_; rintro e w' ⟨rfl, rfl⟩) | (go_at_call 10; refine (place_bare A m _ _ hv1).mono ?_; rintro e w' ⟨rfl, hb2⟩))
    go_ret2
    exact ⟨rfl, hb1.trans (hb2.mono hb1.size)⟩
  · go_wp2_with (first | (go_at_call 9; refine (number_store A m _ hv1 fa h2).mono ?_; rintro e w' ⟨rfl, rfl⟩) | (go_at_call 10; refine (place_fault A m fa i _ hv1 h1).mono ?_; rintro e w' ⟨rfl, hb2⟩))
    go_ret2
    exact ⟨rfl, hb1.trans (hb2.mono hb1.size)⟩
  · go_wp2_with (first | (go_at_call 9; refine (number_twice A m _ hv1 fa h2).mono ?_; rintro e w' ⟨rfl, rfl⟩) | (go_at_call 10; refine (place_fault A m fa i _ hv1 h1).mono ?_; rintro e w' ⟨rfl, hb2⟩))
    go_ret2
    exact ⟨rfl, hb1.trans (hb2.mono hb1.size)⟩
end Go.Proofs.YtmncdbepjhmkgaaDoor

/- The law: whatever the two texts are, Load is as the document says, each time that it is asked. -/
import Derived.Test.YtmncdbepjhmkgaaDoorRefLoad
namespace Go.Proofs.YtmncdbepjhmkgaaDoor
open Go.RowKit LS

theorem devLoad_any (s : ByteArray) (A : Nat → Addr) (m : Int) (w : World) (hv : Vars w A m) (hs : s.size ≤ maxLen) :
    Calls Tryd.prog 5 #[.string s] w fun e w' => e = .returned (.tuple #[.int .i64 (loadRes (bl s)).1, .int .i64 (loadRes (bl s)).2]) ∧ Below w.heap.size w w' := by
  refine load_of s A m (loadRes (bl s)) w hv ?_
  by_cases h : s.size ≤ 6000
  · refine hid ((read_short s A m w hv h).mono ?_)
    rintro e w' ⟨sv, err, h1, h2, h3, _⟩
    exact ⟨sv, err, h1, h2, h3⟩
  · have e : loadRes (bl s) = (1, 0) := by unfold loadRes; rw [if_pos (by rw [bl_length]; omega)]
    rw [e]
    exact read_long s A m w hv (by omega) hs
theorem refLoad_any (s : ByteArray) (w : World) (hs : s.size ≤ maxLen) :
    Calls Tryd.prog 6 #[.string s] w fun e w' => ∃ v, e = .returned (.tuple #[v, .int .i64 (loadRes (bl s)).1, .int .i64 (loadRes (bl s)).2]) ∧ Below w.heap.size w w' := by
  by_cases h : s.size ≤ 6000
  · refine (rLoad_short s w h).mono ?_
    rintro e w' ⟨v, h1, h2, _⟩
    exact ⟨v, h1, h2⟩
  · have e : loadRes (bl s) = (1, 0) := by unfold loadRes; rw [if_pos (by rw [bl_length]; omega)]
    rw [e]
    exact rLoad_long s w (by omega) hs

set_option maxHeartbeats 1000000 in
theorem load_true (s : ByteArray) (A : Nat → Addr) (m : Int) (w : World) (hv : Vars w A m) (hs : s.size ≤ maxLen) :
    Calls Tryd.prog 4 #[.string s] w fun e w' => e = .returned (.bool true) ∧ Below w.heap.size w w' := by
  go_enter Tryd.func4, Tryd.ntmps4
  go_wp2_with fail
  refine (devLoad_any s A m _ hv hs).mono ?_
  rintro e w1 ⟨rfl, hb1⟩
  go_wp2_with fail
  refine (refLoad_any s _ hs).mono ?_
  rintro e w2 ⟨v, rfl, hb2⟩
  have hb : Below w.heap.size w w2 := hb1.trans (hb2.mono hb1.size)
  clear hb1 hb2
  generalize (loadRes (bl s)).1 = a
  generalize (loadRes (bl s)).2 = b
  go_wp2_with (go_at_call 7; refine (num_any _ _).mono ?_; rintro e w' ⟨rfl, rfl⟩)
  go_ret
  exact ⟨by simp, hb⟩

set_option maxHeartbeats 1000000 in
theorem loaded_true (s t : ByteArray) (A : Nat → Addr) (m : Int) (w : World) (hv : Vars w A m) (hs : s.size ≤ maxLen) (ht : t.size ≤ maxLen) :
    Calls Tryd.prog 3 #[.string s, .string t] w fun e w' => e = .returned (.bool true) ∧ Below w.heap.size w w' := by
  go_enter Tryd.func3, Tryd.ntmps3
  go_wp2_with fail
  refine (load_true s A m _ hv hs).mono ?_
  rintro e w1 ⟨rfl, hb1⟩
  have hv1 := hv.below hb1
  go_wp2_with fail
  refine (load_true t A m _ hv1 ht).mono ?_
  rintro e w2 ⟨rfl, hb2⟩
  have hv2 := hv1.below hb2
  have hB2 : Below w.heap.size w w2 := hb1.trans (hb2.mono hb1.size)
  go_wp2_with fail
  refine (load_true s A m _ hv2 hs).mono ?_
  rintro e w3 ⟨rfl, hb3⟩
  have hv3 := hv2.below hb3
  have hB3 : Below w.heap.size w w3 := hB2.trans (hb3.mono hB2.size)
  go_wp2_with fail
  refine (load_true _ A m _ hv3 (by unfold maxLen; decide)).mono ?_
  rintro e w4 ⟨rfl, hb4⟩
  have hv4 := hv3.below hb4
  have hB4 : Below w.heap.size w w4 := hB3.trans (hb4.mono hB3.size)
  go_wp2_with fail
  refine (load_true _ A m _ hv4 (by unfold maxLen; decide)).mono ?_
  rintro e w5 ⟨rfl, hb5⟩
  have hB5 : Below w.heap.size w w5 := hB4.trans (hb5.mono hB4.size)
  go_wp2
  go_ret
  exact ⟨rfl, hB5⟩
end Go.Proofs.YtmncdbepjhmkgaaDoor

/- What the smallest functions of the two sides answer: letters, digits, names, words, where a byte is. -/
import Derived.Test.YtmncdbepjhmkgaaDoorProg
import Derived.Test.YtmncdbepjhmkgaaDoorPure
import Derived.WalkKit
import Derived.WalkSpells
import Derived.WalkLawsBesides
namespace Go.Proofs.YtmncdbepjhmkgaaDoor
open Go.RowKit LS

theorem ret_bool {a b : Bool} (h : a = b) : Ending.returned (.bool a) = .returned (.bool b) := by rw [h]
theorem ret_int {k : IntKind} {a b : Int} (h : a = b) : Ending.returned (.int k a) = .returned (.int k b) := by rw [h]

theorem letter_any (c : UInt8) (w : World) :
    Calls Tryd.prog 34 #[.int .u8 c.toNat] w fun e w' => e = .returned (.bool (letter c)) ∧ w' = w := by
  go_enter Tryd.func34, Tryd.ntmps34
  go_wp2
  all_goals
    go_ret
    exact ⟨ret_bool (by unfold letter; simp; omega), rfl⟩
theorem isLetter_any (c : UInt8) (w : World) :
    Calls Tryd.prog 52 #[.int .u8 c.toNat] w fun e w' => e = .returned (.bool (letter c)) ∧ w' = w := by
  go_enter Tryd.func52, Tryd.ntmps52
  go_wp2
  all_goals
    go_ret
    exact ⟨ret_bool (by unfold letter; simp; omega), rfl⟩
theorem digit_any (c : UInt8) (w : World) :
    Calls Tryd.prog 47 #[.int .u8 c.toNat] w fun e w' => e = .returned (.bool (digit c)) ∧ w' = w := by
  go_enter Tryd.func47, Tryd.ntmps47
  go_wp2
  all_goals
    go_ret
    exact ⟨ret_bool (by unfold digit; simp; omega), rfl⟩
theorem isDigit_any (c : UInt8) (w : World) :
    Calls Tryd.prog 64 #[.int .u8 c.toNat] w fun e w' => e = .returned (.bool (digit c)) ∧ w' = w := by
  go_enter Tryd.func64, Tryd.ntmps64
  go_wp2
  all_goals
    go_ret
    exact ⟨ret_bool (by unfold digit; simp; omega), rfl⟩

theorem num_any (n : Int) (w : World) :
    Calls Tryd.prog 7 #[.int .i64 n] w fun e w' => e = .returned (.int .i64 n) ∧ w' = w := by
  go_enter Tryd.func7, Tryd.ntmps7
  go_wp2
  go_ret
  exact ⟨rfl, rfl⟩

set_option maxHeartbeats 400000 in
theorem rIsName_big (s : ByteArray) (w : World) (hs : s.size ≤ 70000) :
    Calls Tryd.prog 21 #[.string s] w fun e w' => e = .returned (.bool (isName (bl s))) ∧ w' = w := by
  go_enter Tryd.func21, Tryd.ntmps21
  go_wp2
  go_loop [3] (fun i => ∃ k : Nat, k ≤ s.size ∧ i = .int .i64 k ∧ ((bl s).take k).all letter = true) (fun i => s.size - (intOf i).toNat)
  case atStart => exact ⟨0, Nat.zero_le _, rfl, by simp⟩
  case round =>
    obtain ⟨k, hk, rfl, ha0⟩ := hrel
    have ha : Hid (((bl s).take k).all letter = true) := ha0
    clear ha0
    by_cases hlt : k < s.size
    · cases hl : letter s[k]
      · have HF : Hid (isName (bl s) = false) := by unfold isName; rw [all_fail letter s k hlt hl]; rfl
        go_wp2_with (go_at_call 34; refine (letter_any _ _).mono ?_; rintro e w' ⟨rfl, rfl⟩)
        go_ret
        exact ⟨ret_bool HF.out.symm, rfl⟩
      · have HF := all_step letter s k hlt ha.out hl
        have HF' : Hid (((bl s).take (k + 1)).all letter = true) := HF
        clear HF
        go_wp2_with (go_at_call 34; refine (letter_any _ _).mono ?_; rintro e w' ⟨rfl, rfl⟩)
        go_round
        case rel => exact ⟨k + 1, by omega, by go_num, HF'.out⟩
        case measure => simp [intOf]; omega
    · have HF : Hid (isName (bl s) = (decide (1 ≤ (s.size : Int)) && decide ((s.size : Int) ≤ 8))) := by
        unfold isName; rw [all_end letter s k hlt ha.out, bl_length]; rfl
      go_wp2
      all_goals
        go_ret
        refine ⟨ret_bool ?_, rfl⟩
        rw [HF.out]
        simp; omega
theorem rIsName_any (s : ByteArray) (w : World) (hs : s.size ≤ 6000) :
    Calls Tryd.prog 21 #[.string s] w fun e w' => e = .returned (.bool (isName (bl s))) ∧ w' = w := rIsName_big s w (by omega)
end Go.Proofs.YtmncdbepjhmkgaaDoor

/- What the functions of names, words and numbers answer, on both sides, and where a byte is. -/
import Derived.Test.YtmncdbepjhmkgaaDoorLeaf
namespace Go.Proofs.YtmncdbepjhmkgaaDoor
open Go.RowKit LS

set_option maxHeartbeats 400000 in
theorem wIsName_big (s : ByteArray) (w : World) (hs : s.size ≤ 70000) :
    Calls Tryd.prog 40 #[.string s] w fun e w' => e = .returned (.bool (isName (bl s))) ∧ w' = w := by
  by_cases h1 : s.size < 1 ∨ 8 < s.size
  · have HF : Hid (isName (bl s) = false) := hid (by
      unfold isName; rw [bl_length]
      have : (decide (1 ≤ (s.size : Int)) && decide ((s.size : Int) ≤ 8)) = false := by simp; omega
      rw [this]; simp)
    go_enter Tryd.func40, Tryd.ntmps40
    go_wp2
    all_goals first | omega | (go_ret; exact ⟨ret_bool HF.out.symm, rfl⟩)
  · have h2 : 1 ≤ (s.size : Int) := by omega
    have h3 : (s.size : Int) ≤ 8 := by omega
    go_enter Tryd.func40, Tryd.ntmps40
    go_wp2
    go_loop [14] (fun i => ∃ k : Nat, k ≤ s.size ∧ i = .int .i64 k ∧ ((bl s).take k).all letter = true) (fun i => s.size - (intOf i).toNat)
    case atStart => exact ⟨0, Nat.zero_le _, rfl, by simp⟩
    case round =>
      obtain ⟨k, hk, rfl, ha0⟩ := hrel
      have ha : Hid (((bl s).take k).all letter = true) := ha0
      clear ha0
      by_cases hlt : k < s.size
      · cases hl : letter s[k]
        · have HF : Hid (isName (bl s) = false) := by unfold isName; rw [all_fail letter s k hlt hl]; rfl
          go_wp2_with (go_at_call 52; refine (isLetter_any _ _).mono ?_; rintro e w' ⟨rfl, rfl⟩)
          go_ret
          exact ⟨ret_bool HF.out.symm, rfl⟩
        · have HF' : Hid (((bl s).take (k + 1)).all letter = true) := all_step letter s k hlt ha.out hl
          go_wp2_with (go_at_call 52; refine (isLetter_any _ _).mono ?_; rintro e w' ⟨rfl, rfl⟩)
          go_round
          case rel => exact ⟨k + 1, by omega, by go_num, HF'.out⟩
          case measure => simp [intOf]; omega
      · have HF : Hid (isName (bl s) = true) := hid (by
          unfold isName; rw [all_end letter s k hlt ha.out, bl_length]; simp; omega)
        go_wp2
        go_ret
        exact ⟨ret_bool HF.out.symm, rfl⟩
theorem wIsName_any (s : ByteArray) (w : World) (hs : s.size ≤ 6000) :
    Calls Tryd.prog 40 #[.string s] w fun e w' => e = .returned (.bool (isName (bl s))) ∧ w' = w := wIsName_big s w (by omega)
set_option maxHeartbeats 400000 in
theorem rIsWord_any (s : ByteArray) (w : World) (hs : s.size ≤ 6000) :
    Calls Tryd.prog 35 #[.string s] w fun e w' => e = .returned (.bool (isWord (bl s))) ∧ w' = w := by
  go_enter Tryd.func35, Tryd.ntmps35
  go_wp2
  go_loop [3] (fun i => ∃ k : Nat, k ≤ s.size ∧ i = .int .i64 k ∧ ((bl s).take k).all (fun c => letter c || digit c) = true) (fun i => s.size - (intOf i).toNat)
  case atStart => exact ⟨0, Nat.zero_le _, rfl, by simp⟩
  case round =>
    obtain ⟨k, hk, rfl, ha0⟩ := hrel
    have ha : Hid (((bl s).take k).all (fun c => letter c || digit c) = true) := ha0
    clear ha0
    by_cases hlt : k < s.size
    · have HS : Hid ((letter s[k] || digit s[k]) = true → ((bl s).take (k + 1)).all (fun c => letter c || digit c) = true) := all_step (fun c => letter c || digit c) s k hlt ha.out
      have HN : Hid ((letter s[k] || digit s[k]) = false → isWord (bl s) = false) := fun h => by
        unfold isWord; rw [all_fail (fun c => letter c || digit c) s k hlt h]; rfl
      cases hl : letter s[k] <;> cases hd : digit s[k]
      · go_wp2_with (first | (go_at_call 34; refine (letter_any _ _).mono ?_; rintro e w' ⟨rfl, rfl⟩) | (go_at_call 47; refine (digit_any _ _).mono ?_; rintro e w' ⟨rfl, rfl⟩))
        go_ret
        exact ⟨ret_bool (HN.out (by rw [hl, hd]; rfl)).symm, rfl⟩
      all_goals
        go_wp2_with (first | (go_at_call 34; refine (letter_any _ _).mono ?_; rintro e w' ⟨rfl, rfl⟩) | (go_at_call 47; refine (digit_any _ _).mono ?_; rintro e w' ⟨rfl, rfl⟩))
        go_round
        case rel => exact ⟨k + 1, by omega, by go_num, HS.out (by rw [hl, hd]; rfl)⟩
        case measure => simp [intOf]; omega
    · have HF : Hid (isWord (bl s) = decide ((s.size : Int) ≤ 8)) := by
        unfold isWord; rw [all_end _ s k hlt ha.out, bl_length]; rfl
      go_wp2
      go_ret
      exact ⟨ret_bool HF.out.symm, rfl⟩

set_option maxHeartbeats 400000 in
theorem wIsWord_any (s : ByteArray) (w : World) (hs : s.size ≤ 6000) :
    Calls Tryd.prog 53 #[.string s] w fun e w' => e = .returned (.bool (isWord (bl s))) ∧ w' = w := by
  by_cases h1 : 8 < s.size
  · have HF : Hid (isWord (bl s) = false) := hid (by
      unfold isWord; rw [bl_length]
      have : decide ((s.size : Int) ≤ 8) = false := by simp; omega
      rw [this]; simp)
    go_enter Tryd.func53, Tryd.ntmps53
    go_wp2
    go_ret
    exact ⟨ret_bool HF.out.symm, rfl⟩
  · have h3 : (s.size : Int) ≤ 8 := by omega
    go_enter Tryd.func53, Tryd.ntmps53
    go_wp2
    go_loop [9] (fun i => ∃ k : Nat, k ≤ s.size ∧ i = .int .i64 k ∧ ((bl s).take k).all (fun c => letter c || digit c) = true) (fun i => s.size - (intOf i).toNat)
    case atStart => exact ⟨0, Nat.zero_le _, rfl, by simp⟩
    case round =>
      obtain ⟨k, hk, rfl, ha0⟩ := hrel
      have ha : Hid (((bl s).take k).all (fun c => letter c || digit c) = true) := ha0
      clear ha0
      by_cases hlt : k < s.size
      · have HS : Hid ((letter s[k] || digit s[k]) = true → ((bl s).take (k + 1)).all (fun c => letter c || digit c) = true) := all_step (fun c => letter c || digit c) s k hlt ha.out
        have HN : Hid ((letter s[k] || digit s[k]) = false → isWord (bl s) = false) := fun h => by
          unfold isWord; rw [all_fail (fun c => letter c || digit c) s k hlt h]; rfl
        cases hl : letter s[k] <;> cases hd : digit s[k]
        · go_wp2_with (first | (go_at_call 52; refine (isLetter_any _ _).mono ?_; rintro e w' ⟨rfl, rfl⟩) | (go_at_call 64; refine (isDigit_any _ _).mono ?_; rintro e w' ⟨rfl, rfl⟩))
          go_ret
          exact ⟨ret_bool (HN.out (by rw [hl, hd]; rfl)).symm, rfl⟩
        all_goals
          go_wp2_with (first | (go_at_call 52; refine (isLetter_any _ _).mono ?_; rintro e w' ⟨rfl, rfl⟩) | (go_at_call 64; refine (isDigit_any _ _).mono ?_; rintro e w' ⟨rfl, rfl⟩))
          go_round
          case rel => exact ⟨k + 1, by omega, by go_num, HS.out (by rw [hl, hd]; rfl)⟩
          case measure => simp [intOf]; omega
      · have HF : Hid (isWord (bl s) = true) := hid (by
          unfold isWord; rw [all_end _ s k hlt ha.out, bl_length]; simp; omega)
        go_wp2
        go_ret
        exact ⟨ret_bool HF.out.symm, rfl⟩

/-- what seek answers as an int. -/
def seekI (c : UInt8) (l : List UInt8) : Int := match LS.seek c l with | none => -1 | some i => i
theorem seekI_some {c : UInt8} {l : List UInt8} {i : Nat} (h : LS.seek c l = some i) : seekI c l = i := by unfold seekI; rw [h]
theorem seekI_none {c : UInt8} {l : List UInt8} (h : LS.seek c l = none) : seekI c l = -1 := by unfold seekI; rw [h]
theorem seek_found (c : UInt8) (s : ByteArray) (k : Nat) (h : k < s.size) (hn : LS.seek c ((bl s).take k) = none) (he : s[k] = c) : seekI c (bl s) = k := by
  have e : bl s = (bl s).take k ++ (bl s).drop k := (List.take_append_drop _ _).symm
  refine seekI_some ?_
  rw [e, seek_append_miss _ _ _ hn, drop_cons s k h]
  simp [LS.seek, he, bl_length]; omega
theorem seek_on (c : UInt8) (s : ByteArray) (k : Nat) (h : k < s.size) (hn : LS.seek c ((bl s).take k) = none) (he : s[k] ≠ c) : LS.seek c ((bl s).take (k + 1)) = none := by
  rw [take_snoc s k h, seek_append_miss _ _ _ hn]; simp [LS.seek, he]

set_option maxHeartbeats 400000 in
theorem seek_big (s : ByteArray) (c : UInt8) (w : World) (hs : s.size ≤ 70000) :
    Calls Tryd.prog 20 #[.string s, .int .u8 c.toNat] w fun e w' => e = .returned (.int .i64 (seekI c (bl s))) ∧ w' = w := by
  go_enter Tryd.func20, Tryd.ntmps20
  go_wp2
  go_loop [5] (fun i => ∃ k : Nat, k ≤ s.size ∧ i = .int .i64 k ∧ LS.seek c ((bl s).take k) = none) (fun i => s.size - (intOf i).toNat)
  case atStart => exact ⟨0, Nat.zero_le _, rfl, by simp [LS.seek]⟩
  case round =>
    obtain ⟨k, hk, rfl, ha0⟩ := hrel
    have ha : Hid (LS.seek c ((bl s).take k) = none) := ha0
    clear ha0
    by_cases hlt : k < s.size
    · by_cases he : s[k] = c
      · have HF : Hid (seekI c (bl s) = k) := seek_found c s k hlt ha.out he
        have hb : ((s[k].toNat : Int) == (c.toNat : Int)) = true := by rw [he]; simp
        clear he
        go_wp2
        go_ret
        exact ⟨ret_int HF.out.symm, rfl⟩
      · have HF : Hid (LS.seek c ((bl s).take (k + 1)) = none) := seek_on c s k hlt ha.out he
        have hb : ((s[k].toNat : Int) == (c.toNat : Int)) = false := by
          rw [beq_eq_false_iff_ne]; intro h; exact he (UInt8.toNat_inj.1 (by omega))
        clear he
        go_wp2
        go_round
        case rel => exact ⟨k + 1, by omega, by go_num, HF.out⟩
        case measure => simp [intOf]; omega
    · have HF : Hid (seekI c (bl s) = -1) := by
        have := ha.out
        rw [List.take_of_length_le (by rw [bl_length]; omega)] at this
        exact seekI_none this
      go_wp2
      go_ret
      exact ⟨ret_int HF.out.symm, rfl⟩
theorem seek_any (s : ByteArray) (c : UInt8) (w : World) (hs : s.size ≤ 6000) :
    Calls Tryd.prog 20 #[.string s, .int .u8 c.toNat] w fun e w' => e = .returned (.int .i64 (seekI c (bl s))) ∧ w' = w := seek_big s c w (by omega)
end Go.Proofs.YtmncdbepjhmkgaaDoor

/- What the two readers of numbers answer. -/
import Derived.Test.YtmncdbepjhmkgaaDoorLeaf2
namespace Go.Proofs.YtmncdbepjhmkgaaDoor
open Go.RowKit LS

def numI (most : Nat) (l : List UInt8) : Int := match number most l with | none => -1 | some v => v
theorem numI_none {most : Nat} {l : List UInt8} (h : number most l = none) : numI most l = -1 := by unfold numI; rw [h]
theorem numI_some {most v : Nat} {l : List UInt8} (h : number most l = some v) : numI most l = v := by unfold numI; rw [h]
theorem number_short (most : Nat) (s : ByteArray) (h : s.size < 1) : number most (bl s) = none := by
  unfold number; rw [if_pos (Or.inl (by rw [bl_length]; exact h))]
theorem number_zero (most : Nat) (s : ByteArray) (h1 : 1 < s.size) (h : s[0].toNat = 48) : number most (bl s) = none := by
  unfold number
  refine if_pos (Or.inr (Or.inl ⟨?_, by rw [bl_length]; exact h1⟩))
  rw [List.head?_eq_getElem?, List.getElem?_eq_getElem (by rw [bl_length]; omega), bl_get s 0 (by omega)]
  exact congrArg some (UInt8.toNat_inj.1 h)
theorem number_bad (most : Nat) (s : ByteArray) (k : Nat) (h : k < s.size) (hd : digit s[k] = false) : number most (bl s) = none := by
  unfold number; exact if_pos (Or.inr (Or.inr (Or.inl (all_fail digit s k h hd))))
theorem number_over (most : Nat) (s : ByteArray) (k : Nat) (h : k < s.size) (ho : most < 10 * val ((bl s).take k) + (s[k].toNat - 48)) : number most (bl s) = none := by
  unfold number
  refine if_pos (Or.inr (Or.inr (Or.inr ?_)))
  have := val_take_le (bl s) (k + 1)
  rw [take_snoc s k h, val_snoc] at this
  omega
theorem number_ok (most : Nat) (s : ByteArray) (k : Nat) (h : ¬ k < s.size) (h1 : 1 ≤ s.size) (hz : ¬ (s[0].toNat = 48 ∧ 1 < s.size)) (ha : ((bl s).take k).all digit = true) (hv : val ((bl s).take k) ≤ most) : number most (bl s) = some (val ((bl s).take k)) := by
  have ha' := all_end digit s k h ha
  rw [List.take_of_length_le (by rw [bl_length]; omega)] at hv ⊢
  unfold number
  refine if_neg ?_
  rintro (h | ⟨h, h'⟩ | h | h)
  · rw [bl_length] at h; omega
  · rw [bl_length] at h'
    rw [List.head?_eq_getElem?, List.getElem?_eq_getElem (by rw [bl_length]; omega), bl_get s 0 (by omega)] at h
    exact hz ⟨by rw [Option.some.inj h]; rfl, h'⟩
  · rw [ha'] at h; cases h
  · omega
theorem val_step (s : ByteArray) (k : Nat) (h : k < s.size) : val ((bl s).take (k + 1)) = 10 * val ((bl s).take k) + (s[k].toNat - 48) := by
  rw [take_snoc s k h, val_snoc]

set_option maxHeartbeats 1000000 in
theorem rNumber_big (s : ByteArray) (most : Nat) (w : World) (hs : s.size ≤ 70000) (hm : most ≤ 1000000000) :
    Calls Tryd.prog 36 #[.string s, .int .i64 most] w fun e w' => e = .returned (.int .i64 (numI most (bl s))) ∧ w' = w := by
  by_cases h0 : s.size < 1
  · have HF : Hid (numI most (bl s) = -1) := numI_none (number_short most s h0)
    go_enter Tryd.func36, Tryd.ntmps36
    go_wp2
    go_ret
    exact ⟨ret_int HF.out.symm, rfl⟩
  have h1 : 1 ≤ s.size := by omega
  by_cases hz : s[0].toNat = 48 ∧ 1 < s.size
  · have HF : Hid (numI most (bl s) = -1) := numI_none (number_zero most s hz.2 hz.1)
    have hz1 : ((s[0].toNat : Int) == 48) = true := by rw [hz.1]; rfl
    have hz2 := hz.2
    clear hz
    go_enter Tryd.func36, Tryd.ntmps36
    go_wp2
    go_ret
    exact ⟨ret_int HF.out.symm, rfl⟩
  have HZ : Hid (¬ (s[0].toNat = 48 ∧ 1 < s.size)) := hz
  have hd1 : decide ((s.size : Int) < 1) = false := by simp; omega
  have hcase : (((s[0].toNat : Int) == 48) = true ∧ decide (1 < (s.size : Int)) = false) ∨ ((s[0].toNat : Int) == 48) = false := by
    by_cases hz1 : s[0].toNat = 48
    · exact Or.inl ⟨by rw [hz1]; rfl, by simp; have : ¬ 1 < s.size := fun h => hz ⟨hz1, h⟩; omega⟩
    · exact Or.inr (by rw [beq_eq_false_iff_ne]; omega)
  clear hz h0
  rcases hcase with ⟨hz3, hd2⟩ | hz3
  all_goals
    go_enter Tryd.func36, Tryd.ntmps36
    go_wp2
    go_loop [5, 6] (fun n i => ∃ k : Nat, k ≤ s.size ∧ i = .int .i64 k ∧ n = .int .i64 (val ((bl s).take k)) ∧ val ((bl s).take k) ≤ most ∧ ((bl s).take k).all digit = true) (fun _ i => s.size - (intOf i).toNat)
    case atStart => exact ⟨0, Nat.zero_le _, rfl, by simp [val], by simp [val], by simp⟩
    case round =>
      obtain ⟨k, hk, rfl, rfl, hv, ha0⟩ := hrel
      have ha : Hid (((bl s).take k).all digit = true) := ha0
      clear ha0
      by_cases hlt : k < s.size
      · cases hd : digit s[k]
        · have HF : Hid (numI most (bl s) = -1) := numI_none (number_bad most s k hlt hd)
          go_wp2_with (go_at_call 47; refine (digit_any _ _).mono ?_; rintro e w' ⟨rfl, rfl⟩)
          go_ret
          exact ⟨ret_int HF.out.symm, rfl⟩
        · obtain ⟨d1, d2⟩ := digit_bounds hd
          have HS : Hid (val ((bl s).take (k + 1)) = 10 * val ((bl s).take k) + (s[k].toNat - 48)) := val_step s k hlt
          have HA : Hid (((bl s).take (k + 1)).all digit = true) := all_step digit s k hlt ha.out hd
          by_cases ho : most < 10 * val ((bl s).take k) + (s[k].toNat - 48)
          · have HF : Hid (numI most (bl s) = -1) := numI_none (number_over most s k hlt ho)
            go_wp2_with (go_at_call 47; refine (digit_any _ _).mono ?_; rintro e w' ⟨rfl, rfl⟩)
            go_ret
            exact ⟨ret_int HF.out.symm, rfl⟩
          · go_wp2_with (go_at_call 47; refine (digit_any _ _).mono ?_; rintro e w' ⟨rfl, rfl⟩)
            go_round
            case rel => exact ⟨k + 1, by omega, by go_num, by rw [HS.out]; go_num, by rw [HS.out]; omega, HA.out⟩
            case measure => simp [intOf]; omega
      · have HF : Hid (numI most (bl s) = val ((bl s).take k)) := numI_some (number_ok most s k hlt h1 HZ.out ha.out hv)
        go_wp2
        go_ret
        exact ⟨ret_int HF.out.symm, rfl⟩
theorem rNumber_any (s : ByteArray) (most : Nat) (w : World) (hs : s.size ≤ 6000) (hm : most ≤ 1000000000) :
    Calls Tryd.prog 36 #[.string s, .int .i64 most] w fun e w' => e = .returned (.int .i64 (numI most (bl s))) ∧ w' = w := rNumber_big s most w (by omega) hm
def numT (most : Nat) (l : List UInt8) : Value := .tuple #[.int .i64 ((number most l).getD 0 : Nat), .bool (number most l).isSome]
theorem numT_none {most : Nat} {l : List UInt8} (h : number most l = none) : numT most l = .tuple #[.int .i64 0, .bool false] := by unfold numT; rw [h]; rfl
theorem numT_some {most v : Nat} {l : List UInt8} (h : number most l = some v) : numT most l = .tuple #[.int .i64 v, .bool true] := by unfold numT; rw [h]; rfl

set_option maxHeartbeats 1000000 in
theorem wNumber_big (s : ByteArray) (most : Nat) (w : World) (hs : s.size ≤ 70000) (hm9 : 9 ≤ most) (hm : most ≤ 1000000000) :
    Calls Tryd.prog 66 #[.string s, .int .i64 most] w fun e w' => e = .returned (numT most (bl s)) ∧ w' = w := by
  by_cases h0 : s.size < 1
  · have HF : Hid (numT most (bl s) = _) := numT_none (number_short most s h0)
    have he : s.toList.isEmpty = true := empty_of h0
    go_enter Tryd.func66, Tryd.ntmps66
    go_wp2
    go_ret2
    exact ⟨by rw [HF.out]; rfl, rfl⟩
  have h1 : 1 ≤ s.size := by omega
  have he : s.toList.isEmpty = false := not_empty_of h1
  by_cases hz : s[0].toNat = 48 ∧ 1 < s.size
  · have HF : Hid (numT most (bl s) = _) := numT_none (number_zero most s hz.2 hz.1)
    have hz1 : ((s[0].toNat : Int) == 48) = true := by rw [hz.1]; rfl
    have hz2 := hz.2
    clear hz
    go_enter Tryd.func66, Tryd.ntmps66
    go_wp2
    go_ret2
    exact ⟨by rw [HF.out]; rfl, rfl⟩
  have HZ : Hid (¬ (s[0].toNat = 48 ∧ 1 < s.size)) := hz
  have hcase : (((s[0].toNat : Int) == 48) = true ∧ decide (1 < (s.size : Int)) = false) ∨ ((s[0].toNat : Int) == 48) = false := by
    by_cases hz1 : s[0].toNat = 48
    · exact Or.inl ⟨by rw [hz1]; rfl, by simp; have : ¬ 1 < s.size := fun h => hz ⟨hz1, h⟩; omega⟩
    · exact Or.inr (by rw [beq_eq_false_iff_ne]; omega)
  clear hz h0
  rcases hcase with ⟨hz3, hd2⟩ | hz3
  all_goals
    go_enter Tryd.func66, Tryd.ntmps66
    go_wp2
    go_loop [6, 23] (fun n i => ∃ k : Nat, k ≤ s.size ∧ i = .int .i64 k ∧ n = .int .i64 (val ((bl s).take k)) ∧ val ((bl s).take k) ≤ most ∧ ((bl s).take k).all digit = true) (fun _ i => s.size - (intOf i).toNat)
    case atStart => exact ⟨0, Nat.zero_le _, rfl, by simp [val], by simp [val], by simp⟩
    case round =>
      obtain ⟨k, hk, rfl, rfl, hv, ha0⟩ := hrel
      have ha : Hid (((bl s).take k).all digit = true) := ha0
      clear ha0
      by_cases hlt : k < s.size
      · cases hd : digit s[k]
        · have HF : Hid (numT most (bl s) = _) := numT_none (number_bad most s k hlt hd)
          go_wp2_with (go_at_call 64; refine (isDigit_any _ _).mono ?_; rintro e w' ⟨rfl, rfl⟩)
          go_ret2
          exact ⟨by rw [HF.out]; rfl, rfl⟩
        · obtain ⟨d1, d2⟩ := digit_bounds hd
          have HS : Hid (val ((bl s).take (k + 1)) = 10 * val ((bl s).take k) + (s[k].toNat - 48)) := val_step s k hlt
          have HA : Hid (((bl s).take (k + 1)).all digit = true) := all_step digit s k hlt ha.out hd
          by_cases ho : most < 10 * val ((bl s).take k) + (s[k].toNat - 48)
          · have HF : Hid (numT most (bl s) = _) := numT_none (number_over most s k hlt ho)
            go_wp2_with (go_at_call 64; refine (isDigit_any _ _).mono ?_; rintro e w' ⟨rfl, rfl⟩)
            all_goals first | (exfalso; omega) | (go_ret2; exact ⟨by rw [HF.out]; rfl, rfl⟩)
          · go_wp2_with (go_at_call 64; refine (isDigit_any _ _).mono ?_; rintro e w' ⟨rfl, rfl⟩)
            all_goals first | (exfalso; omega) | skip
            go_round
            case rel => exact ⟨k + 1, by omega, by go_num, by rw [HS.out]; go_num, by rw [HS.out]; omega, HA.out⟩
            case measure => simp [intOf]; omega
      · have HF : Hid (numT most (bl s) = _) := numT_some (number_ok most s k hlt h1 HZ.out ha.out hv)
        go_wp2
        go_ret2
        exact ⟨by rw [HF.out]; rfl, rfl⟩
theorem wNumber_any (s : ByteArray) (most : Nat) (w : World) (hs : s.size ≤ 6000) (hm9 : 9 ≤ most) (hm : most ≤ 1000000000) :
    Calls Tryd.prog 66 #[.string s, .int .i64 most] w fun e w' => e = .returned (numT most (bl s)) ∧ w' = w := wNumber_big s most w (by omega) hm9 hm
end Go.Proofs.YtmncdbepjhmkgaaDoor

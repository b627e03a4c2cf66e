/- Parts. -/
import Derived.Test.YtpbemaaghbbocaaGreatDoorA00
namespace Go.Proofs.YtpbemaaghbbocaaGreatDoor
open Go.RowKit LS
def numI (most : Nat) (l : List UInt8) : Int := match number most l with | none => -1 | some v => v
theorem numI_none {most : Nat} {l : List UInt8} (h : number most l = none) : numI most l = -1 := by unfold numI; rw [h]
theorem numI_some {most v : Nat} {l : List UInt8} (h : number most l = some v) : numI most l = v := by unfold numI; rw [h]
theorem number_short (most : Nat) (s : ByteArray) (h : s.size < 1) : number most (bl s) = none := by
  unfold number; rw [if_pos (Or.inl (by rw [bl_length]; exact h))]
theorem number_zero (most : Nat) (s : ByteArray) (h1 : 1 < s.size) (h : s[0].toNat = 48) : number most (bl s) = none := by
  unfold number
  refine if_pos (Or.inr (Or.inl ⟨?_, by rw [bl_length]; exact h1⟩))
  rw [List.head?_eq_getElem?, List.getElem?_eq_getElem (by rw [bl_length]; omega), bl_get s 0 (by omega)]
  exact congrArg some (UInt8.toNat_inj.1 h)
theorem number_bad (most : Nat) (s : ByteArray) (k : Nat) (h : k < s.size) (hd : digit s[k] = false) : number most (bl s) = none := by
  unfold number; exact if_pos (Or.inr (Or.inr (Or.inl (all_fail digit s k h hd))))
theorem number_over (most : Nat) (s : ByteArray) (k : Nat) (h : k < s.size) (ho : most < 10 * val ((bl s).take k) + (s[k].toNat - 48)) : number most (bl s) = none := by
  unfold number
  refine if_pos (Or.inr (Or.inr (Or.inr ?_)))
  have := val_take_le (bl s) (k + 1)
  rw [take_snoc s k h, val_snoc] at this
  omega
theorem number_ok (most : Nat) (s : ByteArray) (k : Nat) (h : ¬ k < s.size) (h1 : 1 ≤ s.size) (hz : ¬ (s[0].toNat = 48 ∧ 1 < s.size)) (ha : ((bl s).take k).all digit = true) (hv : val ((bl s).take k) ≤ most) : number most (bl s) = some (val ((bl s).take k)) := by
  have ha' := all_end digit s k h ha
  rw [List.take_of_length_le (by rw [bl_length]; omega)] at hv ⊢
  unfold number
  refine if_neg ?_
  rintro (h | ⟨h, h'⟩ | h | h)
  · rw [bl_length] at h; omega
  · rw [bl_length] at h'
    rw [List.head?_eq_getElem?, List.getElem?_eq_getElem (by rw [bl_length]; omega), bl_get s 0 (by omega)] at h
    exact hz ⟨by rw [Option.some.inj h]; rfl, h'⟩
  · rw [ha'] at h; cases h
  · omega
theorem val_step (s : ByteArray) (k : Nat) (h : k < s.size) : val ((bl s).take (k + 1)) = 10 * val ((bl s).take k) + (s[k].toNat - 48) := by
  rw [take_snoc s k h, val_snoc]
set_option maxHeartbeats 1000000 in
theorem rNumber_any (s : ByteArray) (most : Nat) (w : World) (hs : s.size ≤ 6000) (hm : most ≤ 1000000000) :
    Calls Tryz.prog 146 #[.string s, .int .i64 most] w fun e w' => e = .returned (.int .i64 (numI most (bl s))) ∧ w' = w := by
  by_cases h0 : s.size < 1
  · have HF : Hid (numI most (bl s) = -1) := numI_none (number_short most s h0)
    go_enter Tryz.func146, Tryz.ntmps146
    go_wp2
    go_ret
    exact ⟨ret_int HF.out.symm, rfl⟩
  have h1 : 1 ≤ s.size := by omega
  by_cases hz : s[0].toNat = 48 ∧ 1 < s.size
  · have HF : Hid (numI most (bl s) = -1) := numI_none (number_zero most s hz.2 hz.1)
    have hz1 : ((s[0].toNat : Int) == 48) = true := by rw [hz.1]; rfl
    have hz2 := hz.2
    clear hz
    go_enter Tryz.func146, Tryz.ntmps146
    go_wp2
    go_ret
    exact ⟨ret_int HF.out.symm, rfl⟩
  have HZ : Hid (¬ (s[0].toNat = 48 ∧ 1 < s.size)) := hz
  have hd1 : decide ((s.size : Int) < 1) = false := by simp; omega
  have hcase : (((s[0].toNat : Int) == 48) = true ∧ decide (1 < (s.size : Int)) = false) ∨ ((s[0].toNat : Int) == 48) = false := by
    by_cases hz1 : s[0].toNat = 48
    · exact Or.inl ⟨by rw [hz1]; rfl, by simp; have : ¬ 1 < s.size := fun h => hz ⟨hz1, h⟩; omega⟩
    · exact Or.inr (by rw [beq_eq_false_iff_ne]; omega)
  clear hz h0
  rcases hcase with ⟨hz3, hd2⟩ | hz3
  all_goals
    go_enter Tryz.func146, Tryz.ntmps146
    go_wp2
    go_loop [5, 6] (fun n i => ∃ k : Nat, k ≤ s.size ∧ i = .int .i64 k ∧ n = .int .i64 (val ((bl s).take k)) ∧ val ((bl s).take k) ≤ most ∧ ((bl s).take k).all digit = true) (fun _ i => s.size - (intOf i).toNat)
    case atStart => exact ⟨0, Nat.zero_le _, rfl, by simp [val], by simp [val], by simp⟩
    case round =>
      obtain ⟨k, hk, rfl, rfl, hv, ha0⟩ := hrel
      have ha : Hid (((bl s).take k).all digit = true) := ha0
      clear ha0
      by_cases hlt : k < s.size
      · cases hd : digit s[k]
        · have HF : Hid (numI most (bl s) = -1) := numI_none (number_bad most s k hlt hd)
          go_wp2_with (go_at_call 143; refine (digit_any _ _).mono ?_; rintro e w' ⟨rfl, rfl⟩)
          go_ret
          exact ⟨ret_int HF.out.symm, rfl⟩
        · obtain ⟨d1, d2⟩ := digit_bounds hd
          have HS : Hid (val ((bl s).take (k + 1)) = 10 * val ((bl s).take k) + (s[k].toNat - 48)) := val_step s k hlt
          have HA : Hid (((bl s).take (k + 1)).all digit = true) := all_step digit s k hlt ha.out hd
          by_cases ho : most < 10 * val ((bl s).take k) + (s[k].toNat - 48)
          · have HF : Hid (numI most (bl s) = -1) := numI_none (number_over most s k hlt ho)
            go_wp2_with (go_at_call 143; refine (digit_any _ _).mono ?_; rintro e w' ⟨rfl, rfl⟩)
            go_ret
            exact ⟨ret_int HF.out.symm, rfl⟩
          · go_wp2_with (go_at_call 143; refine (digit_any _ _).mono ?_; rintro e w' ⟨rfl, rfl⟩)
            go_round
            case rel => exact ⟨k + 1, by omega, by go_num, by rw [HS.out]; go_num, by rw [HS.out]; omega, HA.out⟩
            case measure => simp [intOf]; omega
      · have HF : Hid (numI most (bl s) = val ((bl s).take k)) := numI_some (number_ok most s k hlt h1 HZ.out ha.out hv)
        go_wp2
        go_ret
        exact ⟨ret_int HF.out.symm, rfl⟩
def numT (most : Nat) (l : List UInt8) : Value := .tuple #[.int .i64 ((number most l).getD 0 : Nat), .bool (number most l).isSome]
theorem numT_none {most : Nat} {l : List UInt8} (h : number most l = none) : numT most l = .tuple #[.int .i64 0, .bool false] := by unfold numT; rw [h]; rfl
theorem numT_some {most v : Nat} {l : List UInt8} (h : number most l = some v) : numT most l = .tuple #[.int .i64 v, .bool true] := by unfold numT; rw [h]; rfl
set_option maxHeartbeats 1000000 in
theorem wNumber_any (s : ByteArray) (most : Nat) (w : World) (hs : s.size ≤ 6000) (hm9 : 9 ≤ most) (hm : most ≤ 1000000000) :
    Calls Tryz.prog 60 #[.string s, .int .i64 most] w fun e w' => e = .returned (numT most (bl s)) ∧ w' = w := by
  by_cases h0 : s.size < 1
  · have HF : Hid (numT most (bl s) = _) := numT_none (number_short most s h0)
    have he : s.toList.isEmpty = true := empty_of h0
    go_enter Tryz.func60, Tryz.ntmps60
    go_wp2
    go_ret2
    exact ⟨by rw [HF.out]; rfl, rfl⟩
  have h1 : 1 ≤ s.size := by omega
  have he : s.toList.isEmpty = false := not_empty_of h1
  by_cases hz : s[0].toNat = 48 ∧ 1 < s.size
  · have HF : Hid (numT most (bl s) = _) := numT_none (number_zero most s hz.2 hz.1)
    have hz1 : ((s[0].toNat : Int) == 48) = true := by rw [hz.1]; rfl
    have hz2 := hz.2
    clear hz
    go_enter Tryz.func60, Tryz.ntmps60
    go_wp2
    go_ret2
    exact ⟨by rw [HF.out]; rfl, rfl⟩
  have HZ : Hid (¬ (s[0].toNat = 48 ∧ 1 < s.size)) := hz
  have hcase : (((s[0].toNat : Int) == 48) = true ∧ decide (1 < (s.size : Int)) = false) ∨ ((s[0].toNat : Int) == 48) = false := by
    by_cases hz1 : s[0].toNat = 48
    · exact Or.inl ⟨by rw [hz1]; rfl, by simp; have : ¬ 1 < s.size := fun h => hz ⟨hz1, h⟩; omega⟩
    · exact Or.inr (by rw [beq_eq_false_iff_ne]; omega)
  clear hz h0
  rcases hcase with ⟨hz3, hd2⟩ | hz3
  all_goals
    go_enter Tryz.func60, Tryz.ntmps60
    go_wp2
    go_loop [6, 23] (fun n i => ∃ k : Nat, k ≤ s.size ∧ i = .int .i64 k ∧ n = .int .i64 (val ((bl s).take k)) ∧ val ((bl s).take k) ≤ most ∧ ((bl s).take k).all digit = true) (fun _ i => s.size - (intOf i).toNat)
    case atStart => exact ⟨0, Nat.zero_le _, rfl, by simp [val], by simp [val], by simp⟩
    case round =>
      obtain ⟨k, hk, rfl, rfl, hv, ha0⟩ := hrel
      have ha : Hid (((bl s).take k).all digit = true) := ha0
      clear ha0
      by_cases hlt : k < s.size
      · cases hd : digit s[k]
        · have HF : Hid (numT most (bl s) = _) := numT_none (number_bad most s k hlt hd)
          go_wp2_with (go_at_call 58; refine (isDigit_any _ _).mono ?_; rintro e w' ⟨rfl, rfl⟩)
          go_ret2
          exact ⟨by rw [HF.out]; rfl, rfl⟩
        · obtain ⟨d1, d2⟩ := digit_bounds hd
          have HS : Hid (val ((bl s).take (k + 1)) = 10 * val ((bl s).take k) + (s[k].toNat - 48)) := val_step s k hlt
          have HA : Hid (((bl s).take (k + 1)).all digit = true) := all_step digit s k hlt ha.out hd
          by_cases ho : most < 10 * val ((bl s).take k) + (s[k].toNat - 48)
          · have HF : Hid (numT most (bl s) = _) := numT_none (number_over most s k hlt ho)
            go_wp2_with (go_at_call 58; refine (isDigit_any _ _).mono ?_; rintro e w' ⟨rfl, rfl⟩)
            all_goals first | (exfalso; omega) | (go_ret2; exact ⟨by rw [HF.out]; rfl, rfl⟩)
          · go_wp2_with (go_at_call 58; refine (isDigit_any _ _).mono ?_; rintro e w' ⟨rfl, rfl⟩)
            all_goals first | (exfalso; omega) | skip
            go_round
            case rel => exact ⟨k + 1, by omega, by go_num, by rw [HS.out]; go_num, by rw [HS.out]; omega, HA.out⟩
            case measure => simp [intOf]; omega
      · have HF : Hid (numT most (bl s) = _) := numT_some (number_ok most s k hlt h1 HZ.out ha.out hv)
        go_wp2
        go_ret2
        exact ⟨by rw [HF.out]; rfl, rfl⟩
theorem seek_some_any {s : ByteArray} {c : UInt8} {p : Nat} (ci : Int) (w : World) (hci : ci = c.toNat) (hs : s.size ≤ 6000) (h : LS.seek c (bl s) = some p) :
    Calls Tryz.prog 96 #[.string s, .int .u8 ci] w fun e w' => e = .returned (.int .i64 p) ∧ w' = w := by
  subst hci
  have := seek_any s c w hs
  rwa [seekI_some h] at this
theorem seek_none_any {s : ByteArray} {c : UInt8} (ci : Int) (w : World) (hci : ci = c.toNat) (hs : s.size ≤ 6000) (h : LS.seek c (bl s) = none) :
    Calls Tryz.prog 96 #[.string s, .int .u8 ci] w fun e w' => e = .returned (.int .i64 (-1)) ∧ w' = w := by
  subst hci
  have := seek_any s c w hs
  rwa [seekI_none h] at this
theorem rIsWord_of {s : ByteArray} {b : Bool} (w : World) (hs : s.size ≤ 6000) (h : isWord (bl s) = b) :
    Calls Tryz.prog 147 #[.string s] w fun e w' => e = .returned (.bool b) ∧ w' = w := by
  have := rIsWord_any s w hs; rwa [h] at this
theorem numI_bounds (most : Nat) (l : List UInt8) : -1 ≤ numI most l ∧ numI most l ≤ most := by
  cases h : number most l with
  | none => rw [numI_none h]; omega
  | some v => rw [numI_some h]; have := number_le h; omega
theorem rNumber_of {s : ByteArray} (most : Nat) (mi : Int) (w : World) (hmi : mi = most) (hs : s.size ≤ 6000) (hm : most ≤ 1000000000) :
    Calls Tryz.prog 146 #[.string s, .int .i64 mi] w fun e w' => e = .returned (.int .i64 (numI most (bl s))) ∧ w' = w := by
  subst hmi; exact rNumber_any s most w hs hm
end Go.Proofs.YtpbemaaghbbocaaGreatDoor
namespace Go.Proofs.YtpbemaaghbbocaaGreatDoor.LS
open Go Go.RowKit
structure Tok where
  kind : Nat
  txt : List UInt8
  at_ : Nat
def run (p : UInt8 → Bool) : List UInt8 → Nat
  | [] => 0
  | b :: l => if p b then run p l + 1 else 0
def signs : List UInt8 := [40, 41, 123, 125, 91, 93, 44, 61, 43, 45, 42, 47]
def lexC (l : List UInt8) (j : Nat) (c : UInt8) (r : List UInt8) : Tok × Nat :=
  if digit c then (if (number 1000000000 ((c :: r).take (run digit (c :: r)))).isSome then ⟨1, (c :: r).take (run digit (c :: r)), j⟩ else ⟨5, [], j⟩, j + run digit (c :: r))
  else if letter c then (if 8 < run letter (c :: r) then ⟨5, [], j⟩ else ⟨2, (c :: r).take (run letter (c :: r)), j⟩, j + run letter (c :: r))
  else if c == 34 then match seek 34 r with
    | none => (⟨5, [], j⟩, l.length)
    | some p => (if isWord (r.take p) then ⟨3, r.take p, j⟩ else ⟨5, [], j⟩, j + p + 2)
  else if c == 33 && r.head? == some 61 then (⟨4, [33, 61], j⟩, j + 2)
  else if (seek c signs).isSome then (⟨4, [c], j⟩, j + 1) else (⟨5, [], j⟩, j + 1)
def lexJ (l : List UInt8) (j : Nat) : Tok × Nat := match l.drop j with
  | [] => (⟨0, [], j⟩, j)
  | c :: r => lexC l j c r
def lexAt (l : List UInt8) (i : Nat) : Tok × Nat := lexJ l (i + run (· == 32) (l.drop i))
theorem run_le (p : UInt8 → Bool) (l : List UInt8) : run p l ≤ l.length := by
  induction l with
  | nil => exact Nat.le_refl _
  | cons b l ih => unfold run; split <;> simp; omega
theorem lexAt_skip (s : ByteArray) (j : Nat) (h : j < s.size) (hc : s[j] = 32) : lexAt (bl s) j = lexAt (bl s) (j + 1) := by
  unfold lexAt
  rw [drop_cons s j h]
  have : run (· == 32) (s[j] :: (bl s).drop (j + 1)) = run (· == 32) ((bl s).drop (j + 1)) + 1 := by rw [hc]; rfl
  rw [this, show j + (run (· == 32) ((bl s).drop (j + 1)) + 1) = j + 1 + run (· == 32) ((bl s).drop (j + 1)) by omega]
theorem lexAt_at (s : ByteArray) (j : Nat) (h : j < s.size) (hc : s[j] ≠ 32) : lexAt (bl s) j = lexC (bl s) j s[j] ((bl s).drop (j + 1)) := by
  unfold lexAt
  rw [drop_cons s j h]
  have : run (· == 32) (s[j] :: (bl s).drop (j + 1)) = 0 := by simp [run, hc]
  rw [this, Nat.add_zero]
  unfold lexJ
  rw [drop_cons s j h]
theorem lexAt_end (s : ByteArray) (j : Nat) (h : ¬ j < s.size) (hj : j ≤ s.size) : lexAt (bl s) j = (⟨0, [], j⟩, j) := by
  have hd : (bl s).drop j = [] := List.drop_of_length_le (by rw [bl_length]; omega)
  unfold lexAt
  rw [hd]
  show lexJ (bl s) j = _
  unfold lexJ
  rw [hd]
theorem run_cut (p : UInt8 → Bool) (s : ByteArray) (j k : Nat) (hj : j ≤ k) (hk : k ≤ s.size) (ha : ∀ i (h : i < s.size), j ≤ i → i < k → p s[i] = true) (he : ∀ h : k < s.size, p s[k] = false) : j + run p ((bl s).drop j) = k := by
  induction hd : k - j generalizing j with
  | zero =>
    obtain rfl : j = k := by omega
    by_cases h : j < s.size
    · rw [drop_cons s j h]; simp [run, he h]
    · rw [List.drop_of_length_le (by rw [bl_length]; omega)]; rfl
  | succ n ih =>
    have h : j < s.size := by omega
    have := ih (j + 1) (by omega) (fun i hi h1 h2 => ha i hi (by omega) h2) (by omega)
    rw [drop_cons s j h]
    simp only [run, ha j h (Nat.le_refl _) (by omega), if_true]
    omega
end Go.Proofs.YtpbemaaghbbocaaGreatDoor.LS
namespace Go.Proofs.YtpbemaaghbbocaaGreatDoor
open Go.RowKit LS
set_option maxHeartbeats 1000000 in
theorem while_digit (s : ByteArray) (j : Nat) (w : World) (hs : s.size ≤ 6000) (hj : j ≤ s.size) :
    Calls Tryz.prog 145 #[.string s, .int .i64 j, .bool true] w fun e w' => e = .returned (.int .i64 ((j + run digit ((bl s).drop j) : Nat) : Int)) ∧ w' = w := by
  go_enter Tryz.func145, Tryz.ntmps145
  go_wp2
  go_loop [1] (fun i => ∃ k : Nat, k ≤ s.size ∧ j ≤ k ∧ i = .int .i64 k ∧ Hid (∀ q (h : q < s.size), j ≤ q → q < k → digit s[q] = true)) (fun i => s.size - (intOf i).toNat)
  case atStart => exact ⟨j, hj, Nat.le_refl _, rfl, fun q h h1 h2 => by omega⟩
  case round =>
    obtain ⟨k, hk, hjk, rfl, ha⟩ := hrel
    by_cases hlt : k < s.size
    · cases hl : digit s[k]
      · have HF : Hid (j + run digit ((bl s).drop j) = k) := run_cut _ s j k hjk hk ha.out (fun _ => hl)
        go_wp2_with (first | (go_at_call 144; refine (letter_any _ _).mono ?_; rintro e w' ⟨rfl, rfl⟩) | (go_at_call 143; refine (digit_any _ _).mono ?_; rintro e w' ⟨rfl, rfl⟩))
        go_ret
        exact ⟨ret_int (by have := HF.out; omega), rfl⟩
      · have HF : Hid (∀ q (h : q < s.size), j ≤ q → q < k + 1 → digit s[q] = true) := fun q h h1 h2 => by
          rcases Nat.lt_succ_iff_lt_or_eq.1 h2 with h3 | h3
          · exact ha.out q h h1 h3
          · subst h3; exact hl
        go_wp2_with (first | (go_at_call 144; refine (letter_any _ _).mono ?_; rintro e w' ⟨rfl, rfl⟩) | (go_at_call 143; refine (digit_any _ _).mono ?_; rintro e w' ⟨rfl, rfl⟩))
        go_round
        case rel => exact ⟨k + 1, by omega, by omega, by go_num, HF⟩
        case measure => simp [intOf]; omega
    · have HF : Hid (j + run digit ((bl s).drop j) = k) := run_cut _ s j k hjk hk ha.out (fun h => absurd h hlt)
      go_wp2
      go_ret
      exact ⟨ret_int (by have := HF.out; omega), rfl⟩
set_option maxHeartbeats 1000000 in
theorem while_letter (s : ByteArray) (j : Nat) (w : World) (hs : s.size ≤ 6000) (hj : j ≤ s.size) :
    Calls Tryz.prog 145 #[.string s, .int .i64 j, .bool false] w fun e w' => e = .returned (.int .i64 ((j + run letter ((bl s).drop j) : Nat) : Int)) ∧ w' = w := by
  go_enter Tryz.func145, Tryz.ntmps145
  go_wp2
  go_loop [1] (fun i => ∃ k : Nat, k ≤ s.size ∧ j ≤ k ∧ i = .int .i64 k ∧ Hid (∀ q (h : q < s.size), j ≤ q → q < k → letter s[q] = true)) (fun i => s.size - (intOf i).toNat)
  case atStart => exact ⟨j, hj, Nat.le_refl _, rfl, fun q h h1 h2 => by omega⟩
  case round =>
    obtain ⟨k, hk, hjk, rfl, ha⟩ := hrel
    by_cases hlt : k < s.size
    · cases hl : letter s[k]
      · have HF : Hid (j + run letter ((bl s).drop j) = k) := run_cut _ s j k hjk hk ha.out (fun _ => hl)
        go_wp2_with (first | (go_at_call 144; refine (letter_any _ _).mono ?_; rintro e w' ⟨rfl, rfl⟩) | (go_at_call 143; refine (digit_any _ _).mono ?_; rintro e w' ⟨rfl, rfl⟩))
        go_ret
        exact ⟨ret_int (by have := HF.out; omega), rfl⟩
      · have HF : Hid (∀ q (h : q < s.size), j ≤ q → q < k + 1 → letter s[q] = true) := fun q h h1 h2 => by
          rcases Nat.lt_succ_iff_lt_or_eq.1 h2 with h3 | h3
          · exact ha.out q h h1 h3
          · subst h3; exact hl
        go_wp2_with (first | (go_at_call 144; refine (letter_any _ _).mono ?_; rintro e w' ⟨rfl, rfl⟩) | (go_at_call 143; refine (digit_any _ _).mono ?_; rintro e w' ⟨rfl, rfl⟩))
        go_round
        case rel => exact ⟨k + 1, by omega, by omega, by go_num, HF⟩
        case measure => simp [intOf]; omega
    · have HF : Hid (j + run letter ((bl s).drop j) = k) := run_cut _ s j k hjk hk ha.out (fun h => absurd h hlt)
      go_wp2
      go_ret
      exact ⟨ret_int (by have := HF.out; omega), rfl⟩
end Go.Proofs.YtpbemaaghbbocaaGreatDoor

/- Parts of the proof, joined: Pure, Leaf, Leaf2 -/
import Derived.WalkKit
import Derived.Lib.Strings
import Derived.Test.YtmncdbepjhmkgaaGreatDoorProg
import Derived.WalkSpells
import Derived.WalkLawsBesides
/- What a store's text is, as plain functions on lists of bytes (names, words, numbers, cutting, splitting, lines), and the facts on them that the walks use. -/
namespace Go.Proofs.YtmncdbepjhmkgaaGreatDoor.LS
open Go Go.RowKit

theorem hid {p : Prop} (h : p) : Hid p := h
def bl (s : ByteArray) : List UInt8 := s.data.toList
theorem toList_bl (s : ByteArray) : s.toList = bl s := Lib.toList_data s
theorem bl_length (s : ByteArray) : (bl s).length = s.size := by simp [bl]
theorem empty_of {s : ByteArray} (h : s.size < 1) : s.toList.isEmpty = true := by
  rw [toList_bl, List.isEmpty_iff, ← List.length_eq_zero_iff, bl_length]; omega
theorem not_empty_of {s : ByteArray} (h : 1 ≤ s.size) : s.toList.isEmpty = false := by
  rw [toList_bl, List.isEmpty_eq_false_iff, ← List.length_pos_iff, bl_length]; omega
theorem bl_mk (l : List UInt8) : bl ⟨l.toArray⟩ = l := by simp [bl]
theorem mk_bl (s : ByteArray) : (⟨(bl s).toArray⟩ : ByteArray) = s := by simp [bl]
theorem bl_get (s : ByteArray) (k : Nat) (h : k < s.size) : (bl s)[k]'(by rw [bl_length]; exact h) = s[k] := by
  unfold bl; rfl
theorem bl_inj {a b : ByteArray} (h : bl a = bl b) : a = b := by rw [← mk_bl a, ← mk_bl b, h]
theorem bl_extract (s : ByteArray) (a b : Nat) : bl (s.extract a b) = ((bl s).take b).drop a := by
  unfold bl
  rw [ByteArray.data_extract]
  simp [Array.toList_extract]
  rw [List.drop_take]

def letter (c : UInt8) : Bool := decide (97 ≤ (c.toNat : Int)) && decide ((c.toNat : Int) ≤ 122)
def digit (c : UInt8) : Bool := decide (48 ≤ (c.toNat : Int)) && decide ((c.toNat : Int) ≤ 57)
def isName (l : List UInt8) : Bool := l.all letter && (decide (1 ≤ (l.length : Int)) && decide ((l.length : Int) ≤ 8))
def isWord (l : List UInt8) : Bool := l.all (fun c => letter c || digit c) && decide ((l.length : Int) ≤ 8)

theorem take_snoc (s : ByteArray) (k : Nat) (h : k < s.size) : (bl s).take (k + 1) = (bl s).take k ++ [s[k]] := by
  rw [List.take_succ_eq_append_getElem (by rw [bl_length]; exact h), bl_get s k h]
theorem drop_cons (s : ByteArray) (k : Nat) (h : k < s.size) : (bl s).drop k = s[k] :: (bl s).drop (k + 1) := by
  rw [List.drop_eq_getElem_cons (by rw [bl_length]; exact h), bl_get s k h]
theorem all_step (p : UInt8 → Bool) (s : ByteArray) (k : Nat) (h : k < s.size) (ha : ((bl s).take k).all p = true) (hp : p s[k] = true) : ((bl s).take (k + 1)).all p = true := by
  rw [take_snoc s k h, List.all_append, ha]; simp [hp]
theorem all_fail (p : UInt8 → Bool) (s : ByteArray) (k : Nat) (h : k < s.size) (hp : p s[k] = false) : (bl s).all p = false := by
  rw [List.all_eq_false]
  exact ⟨s[k], by rw [← bl_get s k h]; exact List.getElem_mem _, by simp [hp]⟩
theorem all_end (p : UInt8 → Bool) (s : ByteArray) (k : Nat) (h : ¬ k < s.size) (ha : ((bl s).take k).all p = true) : (bl s).all p = true := by
  rwa [List.take_of_length_le (by rw [bl_length]; omega)] at ha

/-! numbers -/
def val (l : List UInt8) : Nat := l.foldl (fun n c => 10 * n + (c.toNat - 48)) 0
def number (most : Nat) (l : List UInt8) : Option Nat :=
  if l.length < 1 ∨ (l.head? = some 48 ∧ 1 < l.length) ∨ l.all digit = false ∨ most < val l then none else some (val l)
theorem val_snoc (l : List UInt8) (c : UInt8) : val (l ++ [c]) = 10 * val l + (c.toNat - 48) := by simp [val]
theorem val_foldl_ge (r : List UInt8) : ∀ n : Nat, n ≤ r.foldl (fun n c => 10 * n + (c.toNat - 48)) n := by
  induction r with
  | nil => intro n; exact Nat.le_refl _
  | cons c r ih => intro n; exact Nat.le_trans (show n ≤ 10 * n + (c.toNat - 48) by omega) (ih _)
theorem val_take_le (l : List UInt8) (k : Nat) : val (l.take k) ≤ val l := by
  conv => rhs; rw [← List.take_append_drop k l]
  unfold val
  rw [List.foldl_append]
  exact val_foldl_ge _ _
theorem digit_bounds {c : UInt8} (h : digit c = true) : 48 ≤ c.toNat ∧ c.toNat ≤ 57 := by
  simp [digit] at h; omega

/-! where a byte is; cutting there -/
def seek (c : UInt8) : List UInt8 → Option Nat
  | [] => none
  | b :: l => if b == c then some 0 else (seek c l).map (· + 1)
def cut (c : UInt8) (l : List UInt8) : Option (List UInt8 × List UInt8) := (seek c l).map fun i => (l.take i, l.drop (i + 1))
theorem seek_append_miss (c : UInt8) (a b : List UInt8) (h : seek c a = none) : seek c (a ++ b) = (seek c b).map (· + a.length) := by
  induction a with
  | nil => simp
  | cons x a ih =>
    unfold seek at h
    split at h
    · cases h
    · rename_i hx
      have h' : seek c a = none := by simpa using h
      simp only [List.cons_append, seek, hx]
      rw [ih h']
      cases seek c b <;> simp [Nat.add_assoc]
theorem seek_none_iff (c : UInt8) (l : List UInt8) : seek c l = none ↔ c ∉ l := by
  induction l with
  | nil => simp [seek]
  | cons b l ih =>
    unfold seek
    by_cases hb : b = c
    · subst hb; simp
    · simp [hb, ih, Ne.symm hb]
theorem seek_some {c : UInt8} {l : List UInt8} {i : Nat} (h : seek c l = some i) : ∃ a b, l = a ++ c :: b ∧ a.length = i ∧ c ∉ a := by
  induction l generalizing i with
  | nil => simp [seek] at h
  | cons b l ih =>
    unfold seek at h
    by_cases hb : b = c
    · subst hb; simp at h; subst h; exact ⟨[], l, rfl, rfl, by simp⟩
    · simp [hb] at h
      obtain ⟨j, hj, rfl⟩ := h
      obtain ⟨a', b', rfl, rfl, hn⟩ := ih hj
      exact ⟨b :: a', b', rfl, by simp, by simp [hn, Ne.symm hb]⟩
theorem seek_mid (c : UInt8) (a b : List UInt8) (h : c ∉ a) : seek c (a ++ c :: b) = some a.length := by
  rw [seek_append_miss c a _ ((seek_none_iff c a).2 h)]; simp [seek]
theorem seek_lt {c : UInt8} {l : List UInt8} {i : Nat} (h : seek c l = some i) : i < l.length := by
  obtain ⟨a, b, rfl, rfl, _⟩ := seek_some h; simp

/-! splitting -/
def pre (p : List UInt8) : List (List UInt8) → List (List UInt8)
  | [] => [p]
  | h :: t => (p ++ h) :: t
def split (c : UInt8) : List UInt8 → List (List UInt8)
  | [] => [[]]
  | b :: l => if b == c then [] :: split c l else pre [b] (split c l)
theorem split_ne (c : UInt8) (l : List UInt8) : split c l ≠ [] := by
  cases l with
  | nil => simp [split]
  | cons b l =>
    unfold split
    split
    · simp
    · cases h : split c l <;> simp [pre]
theorem pre_nil (c : UInt8) (l : List UInt8) : pre [] (split c l) = split c l := by
  cases h : split c l with
  | nil => exact absurd h (split_ne c l)
  | cons a t => simp [pre]
theorem pre_pre (p q : List UInt8) (l : List (List UInt8)) (h : l ≠ []) : pre p (pre q l) = pre (p ++ q) l := by
  cases l with
  | nil => exact absurd rfl h
  | cons a t => simp [pre]
theorem split_hit (c : UInt8) (l : List UInt8) : split c (c :: l) = [] :: split c l := by simp [split]
theorem split_miss (c b : UInt8) (l : List UInt8) (h : (b == c) = false) : split c (b :: l) = pre [b] (split c l) := by
  simp only [split, h]; rfl
theorem split_append (c : UInt8) (p r : List UInt8) (h : c ∉ p) : split c (p ++ r) = pre p (split c r) := by
  induction p with
  | nil => rw [List.nil_append, pre_nil]
  | cons x p ih =>
    have hx : (x == c) = false := by simp; rintro rfl; simp at h
    rw [List.cons_append, split_miss c x _ hx, ih (by simp at h; exact h.2), pre_pre _ _ _ (split_ne c r)]; rfl
theorem split_length (c : UInt8) (l : List UInt8) : (split c l).length ≤ l.length + 1 := by
  induction l with
  | nil => simp [split]
  | cons b l ih =>
    by_cases hb : b = c
    · subst hb; rw [split_hit]; simp; exact ih
    · rw [split_miss c b l (by simp [hb])]
      cases h2 : split c l with
      | nil => simp [pre]
      | cons a t => rw [h2] at ih; simp [pre]; simp at ih; omega
end Go.Proofs.YtmncdbepjhmkgaaGreatDoor.LS
/- What the smallest functions of the two sides answer: letters, digits, names, words, where a byte is. -/
namespace Go.Proofs.YtmncdbepjhmkgaaGreatDoor
open Go.RowKit LS

theorem ret_bool {a b : Bool} (h : a = b) : Ending.returned (.bool a) = .returned (.bool b) := by rw [h]
theorem ret_int {k : IntKind} {a b : Int} (h : a = b) : Ending.returned (.int k a) = .returned (.int k b) := by rw [h]

theorem letter_any (c : UInt8) (w : World) :
    Calls Tryz.prog 81 #[.int .u8 c.toNat] w fun e w' => e = .returned (.bool (letter c)) ∧ w' = w := by
  go_enter Tryz.func81, Tryz.ntmps81
  go_wp2
  all_goals
    go_ret
    exact ⟨ret_bool (by unfold letter; simp; omega), rfl⟩
theorem isLetter_any (c : UInt8) (w : World) :
    Calls Tryz.prog 36 #[.int .u8 c.toNat] w fun e w' => e = .returned (.bool (letter c)) ∧ w' = w := by
  go_enter Tryz.func36, Tryz.ntmps36
  go_wp2
  all_goals
    go_ret
    exact ⟨ret_bool (by unfold letter; simp; omega), rfl⟩
theorem digit_any (c : UInt8) (w : World) :
    Calls Tryz.prog 80 #[.int .u8 c.toNat] w fun e w' => e = .returned (.bool (digit c)) ∧ w' = w := by
  go_enter Tryz.func80, Tryz.ntmps80
  go_wp2
  all_goals
    go_ret
    exact ⟨ret_bool (by unfold digit; simp; omega), rfl⟩
theorem isDigit_any (c : UInt8) (w : World) :
    Calls Tryz.prog 33 #[.int .u8 c.toNat] w fun e w' => e = .returned (.bool (digit c)) ∧ w' = w := by
  go_enter Tryz.func33, Tryz.ntmps33
  go_wp2
  all_goals
    go_ret
    exact ⟨ret_bool (by unfold digit; simp; omega), rfl⟩

theorem num_any (n : Int) (w : World) :
    Calls Tryz.prog 7 #[.int .i64 n] w fun e w' => e = .returned (.int .i64 n) ∧ w' = w := by
  go_enter Tryz.func7, Tryz.ntmps7
  go_wp2
  go_ret
  exact ⟨rfl, rfl⟩

end Go.Proofs.YtmncdbepjhmkgaaGreatDoor
/- What the functions of names, words and numbers answer, on both sides, and where a byte is. -/
namespace Go.Proofs.YtmncdbepjhmkgaaGreatDoor
open Go.RowKit LS

set_option maxHeartbeats 400000 in
theorem wIsName_any (s : ByteArray) (w : World) (hs : s.size ≤ 6000) :
    Calls Tryz.prog 37 #[.string s] w fun e w' => e = .returned (.bool (isName (bl s))) ∧ w' = w := by
  by_cases h1 : s.size < 1 ∨ 8 < s.size
  · have HF : Hid (isName (bl s) = false) := hid (by
      unfold isName; rw [bl_length]
      have : (decide (1 ≤ (s.size : Int)) && decide ((s.size : Int) ≤ 8)) = false := by simp; omega
      rw [this]; simp)
    go_enter Tryz.func37, Tryz.ntmps37
    go_wp2
    all_goals first | omega | (go_ret; exact ⟨ret_bool HF.out.symm, rfl⟩)
  · have h2 : 1 ≤ (s.size : Int) := by omega
    have h3 : (s.size : Int) ≤ 8 := by omega
    go_enter Tryz.func37, Tryz.ntmps37
    go_wp2
    go_loop [14] (fun i => ∃ k : Nat, k ≤ s.size ∧ i = .int .i64 k ∧ ((bl s).take k).all letter = true) (fun i => s.size - (intOf i).toNat)
    case atStart => exact ⟨0, Nat.zero_le _, rfl, by simp⟩
    case round =>
      obtain ⟨k, hk, rfl, ha0⟩ := hrel
      have ha : Hid (((bl s).take k).all letter = true) := ha0
      clear ha0
      by_cases hlt : k < s.size
      · cases hl : letter s[k]
        · have HF : Hid (isName (bl s) = false) := by unfold isName; rw [all_fail letter s k hlt hl]; rfl
          go_wp2_with (go_at_call 36; refine (isLetter_any _ _).mono ?_; rintro e w' ⟨rfl, rfl⟩)
          go_ret
          exact ⟨ret_bool HF.out.symm, rfl⟩
        · have HF' : Hid (((bl s).take (k + 1)).all letter = true) := all_step letter s k hlt ha.out hl
          go_wp2_with (go_at_call 36; refine (isLetter_any _ _).mono ?_; rintro e w' ⟨rfl, rfl⟩)
          go_round
          case rel => exact ⟨k + 1, by omega, by go_num, HF'.out⟩
          case measure => simp [intOf]; omega
      · have HF : Hid (isName (bl s) = true) := hid (by
          unfold isName; rw [all_end letter s k hlt ha.out, bl_length]; simp; omega)
        go_wp2
        go_ret
        exact ⟨ret_bool HF.out.symm, rfl⟩

set_option maxHeartbeats 400000 in
theorem rIsWord_any (s : ByteArray) (w : World) (hs : s.size ≤ 6000) :
    Calls Tryz.prog 85 #[.string s] w fun e w' => e = .returned (.bool (isWord (bl s))) ∧ w' = w := by
  go_enter Tryz.func85, Tryz.ntmps85
  go_wp2
  go_loop [3] (fun i => ∃ k : Nat, k ≤ s.size ∧ i = .int .i64 k ∧ ((bl s).take k).all (fun c => letter c || digit c) = true) (fun i => s.size - (intOf i).toNat)
  case atStart => exact ⟨0, Nat.zero_le _, rfl, by simp⟩
  case round =>
    obtain ⟨k, hk, rfl, ha0⟩ := hrel
    have ha : Hid (((bl s).take k).all (fun c => letter c || digit c) = true) := ha0
    clear ha0
    by_cases hlt : k < s.size
    · have HS : Hid ((letter s[k] || digit s[k]) = true → ((bl s).take (k + 1)).all (fun c => letter c || digit c) = true) := all_step (fun c => letter c || digit c) s k hlt ha.out
      have HN : Hid ((letter s[k] || digit s[k]) = false → isWord (bl s) = false) := fun h => by
        unfold isWord; rw [all_fail (fun c => letter c || digit c) s k hlt h]; rfl
      cases hl : letter s[k] <;> cases hd : digit s[k]
      · go_wp2_with (first | (go_at_call 81; refine (letter_any _ _).mono ?_; rintro e w' ⟨rfl, rfl⟩) | (go_at_call 80; refine (digit_any _ _).mono ?_; rintro e w' ⟨rfl, rfl⟩))
        go_ret
        exact ⟨ret_bool (HN.out (by rw [hl, hd]; rfl)).symm, rfl⟩
      all_goals
        go_wp2_with (first | (go_at_call 81; refine (letter_any _ _).mono ?_; rintro e w' ⟨rfl, rfl⟩) | (go_at_call 80; refine (digit_any _ _).mono ?_; rintro e w' ⟨rfl, rfl⟩))
        go_round
        case rel => exact ⟨k + 1, by omega, by go_num, HS.out (by rw [hl, hd]; rfl)⟩
        case measure => simp [intOf]; omega
    · have HF : Hid (isWord (bl s) = decide ((s.size : Int) ≤ 8)) := by
        unfold isWord; rw [all_end _ s k hlt ha.out, bl_length]; rfl
      go_wp2
      go_ret
      exact ⟨ret_bool HF.out.symm, rfl⟩

set_option maxHeartbeats 400000 in
theorem wIsWord_any (s : ByteArray) (w : World) (hs : s.size ≤ 6000) :
    Calls Tryz.prog 38 #[.string s] w fun e w' => e = .returned (.bool (isWord (bl s))) ∧ w' = w := by
  by_cases h1 : 8 < s.size
  · have HF : Hid (isWord (bl s) = false) := hid (by
      unfold isWord; rw [bl_length]
      have : decide ((s.size : Int) ≤ 8) = false := by simp; omega
      rw [this]; simp)
    go_enter Tryz.func38, Tryz.ntmps38
    go_wp2
    go_ret
    exact ⟨ret_bool HF.out.symm, rfl⟩
  · have h3 : (s.size : Int) ≤ 8 := by omega
    go_enter Tryz.func38, Tryz.ntmps38
    go_wp2
    go_loop [9] (fun i => ∃ k : Nat, k ≤ s.size ∧ i = .int .i64 k ∧ ((bl s).take k).all (fun c => letter c || digit c) = true) (fun i => s.size - (intOf i).toNat)
    case atStart => exact ⟨0, Nat.zero_le _, rfl, by simp⟩
    case round =>
      obtain ⟨k, hk, rfl, ha0⟩ := hrel
      have ha : Hid (((bl s).take k).all (fun c => letter c || digit c) = true) := ha0
      clear ha0
      by_cases hlt : k < s.size
      · have HS : Hid ((letter s[k] || digit s[k]) = true → ((bl s).take (k + 1)).all (fun c => letter c || digit c) = true) := all_step (fun c => letter c || digit c) s k hlt ha.out
        have HN : Hid ((letter s[k] || digit s[k]) = false → isWord (bl s) = false) := fun h => by
          unfold isWord; rw [all_fail (fun c => letter c || digit c) s k hlt h]; rfl
        cases hl : letter s[k] <;> cases hd : digit s[k]
        · go_wp2_with (first | (go_at_call 36; refine (isLetter_any _ _).mono ?_; rintro e w' ⟨rfl, rfl⟩) | (go_at_call 33; refine (isDigit_any _ _).mono ?_; rintro e w' ⟨rfl, rfl⟩))
          go_ret
          exact ⟨ret_bool (HN.out (by rw [hl, hd]; rfl)).symm, rfl⟩
        all_goals
          go_wp2_with (first | (go_at_call 36; refine (isLetter_any _ _).mono ?_; rintro e w' ⟨rfl, rfl⟩) | (go_at_call 33; refine (isDigit_any _ _).mono ?_; rintro e w' ⟨rfl, rfl⟩))
          go_round
          case rel => exact ⟨k + 1, by omega, by go_num, HS.out (by rw [hl, hd]; rfl)⟩
          case measure => simp [intOf]; omega
      · have HF : Hid (isWord (bl s) = true) := hid (by
          unfold isWord; rw [all_end _ s k hlt ha.out, bl_length]; simp; omega)
        go_wp2
        go_ret
        exact ⟨ret_bool HF.out.symm, rfl⟩

/-- what seek answers as an int. -/
def seekI (c : UInt8) (l : List UInt8) : Int := match LS.seek c l with | none => -1 | some i => i
theorem seekI_some {c : UInt8} {l : List UInt8} {i : Nat} (h : LS.seek c l = some i) : seekI c l = i := by unfold seekI; rw [h]
theorem seekI_none {c : UInt8} {l : List UInt8} (h : LS.seek c l = none) : seekI c l = -1 := by unfold seekI; rw [h]
theorem seek_found (c : UInt8) (s : ByteArray) (k : Nat) (h : k < s.size) (hn : LS.seek c ((bl s).take k) = none) (he : s[k] = c) : seekI c (bl s) = k := by
  have e : bl s = (bl s).take k ++ (bl s).drop k := (List.take_append_drop _ _).symm
  refine seekI_some ?_
  rw [e, seek_append_miss _ _ _ hn, drop_cons s k h]
  simp [LS.seek, he, bl_length]; omega
theorem seek_on (c : UInt8) (s : ByteArray) (k : Nat) (h : k < s.size) (hn : LS.seek c ((bl s).take k) = none) (he : s[k] ≠ c) : LS.seek c ((bl s).take (k + 1)) = none := by
  rw [take_snoc s k h, seek_append_miss _ _ _ hn]; simp [LS.seek, he]

set_option maxHeartbeats 400000 in
theorem seek_any (s : ByteArray) (c : UInt8) (w : World) (hs : s.size ≤ 6000) :
    Calls Tryz.prog 84 #[.string s, .int .u8 c.toNat] w fun e w' => e = .returned (.int .i64 (seekI c (bl s))) ∧ w' = w := by
  go_enter Tryz.func84, Tryz.ntmps84
  go_wp2
  go_loop [5] (fun i => ∃ k : Nat, k ≤ s.size ∧ i = .int .i64 k ∧ LS.seek c ((bl s).take k) = none) (fun i => s.size - (intOf i).toNat)
  case atStart => exact ⟨0, Nat.zero_le _, rfl, by simp [LS.seek]⟩
  case round =>
    obtain ⟨k, hk, rfl, ha0⟩ := hrel
    have ha : Hid (LS.seek c ((bl s).take k) = none) := ha0
    clear ha0
    by_cases hlt : k < s.size
    · by_cases he : s[k] = c
      · have HF : Hid (seekI c (bl s) = k) := seek_found c s k hlt ha.out he
        have hb : ((s[k].toNat : Int) == (c.toNat : Int)) = true := by rw [he]; simp
        clear he
        go_wp2
        go_ret
        exact ⟨ret_int HF.out.symm, rfl⟩
      · have HF : Hid (LS.seek c ((bl s).take (k + 1)) = none) := seek_on c s k hlt ha.out he
        have hb : ((s[k].toNat : Int) == (c.toNat : Int)) = false := by
          rw [beq_eq_false_iff_ne]; intro h; exact he (UInt8.toNat_inj.1 (by omega))
        clear he
        go_wp2
        go_round
        case rel => exact ⟨k + 1, by omega, by go_num, HF.out⟩
        case measure => simp [intOf]; omega
    · have HF : Hid (seekI c (bl s) = -1) := by
        have := ha.out
        rw [List.take_of_length_le (by rw [bl_length]; omega)] at this
        exact seekI_none this
      go_wp2
      go_ret
      exact ⟨ret_int HF.out.symm, rfl⟩
end Go.Proofs.YtmncdbepjhmkgaaGreatDoor

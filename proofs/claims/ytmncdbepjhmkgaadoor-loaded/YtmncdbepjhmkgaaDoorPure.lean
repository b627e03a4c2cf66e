/- What a store's text is, as plain functions on lists of bytes (names, words, numbers, cutting, splitting, lines), and the facts on them that the walks use. -/
import Derived.WalkKit
import Derived.Lib.Strings
namespace Go.Proofs.YtmncdbepjhmkgaaDoor.LS
open Go Go.RowKit

theorem hid {p : Prop} (h : p) : Hid p := h
def bl (s : ByteArray) : List UInt8 := s.data.toList
theorem toList_bl (s : ByteArray) : s.toList = bl s := Lib.toList_data s
theorem bl_length (s : ByteArray) : (bl s).length = s.size := by simp [bl]
theorem empty_of {s : ByteArray} (h : s.size < 1) : s.toList.isEmpty = true := by
  rw [toList_bl, List.isEmpty_iff, ← List.length_eq_zero_iff, bl_length]; omega
theorem not_empty_of {s : ByteArray} (h : 1 ≤ s.size) : s.toList.isEmpty = false := by
  rw [toList_bl, List.isEmpty_eq_false_iff, ← List.length_pos_iff, bl_length]; omega
theorem bl_mk (l : List UInt8) : bl ⟨l.toArray⟩ = l := by simp [bl]
theorem mk_bl (s : ByteArray) : (⟨(bl s).toArray⟩ : ByteArray) = s := by simp [bl]
theorem bl_get (s : ByteArray) (k : Nat) (h : k < s.size) : (bl s)[k]'(by rw [bl_length]; exact h) = s[k] := by
  unfold bl; rfl
theorem bl_inj {a b : ByteArray} (h : bl a = bl b) : a = b := by rw [← mk_bl a, ← mk_bl b, h]
theorem bl_extract (s : ByteArray) (a b : Nat) : bl (s.extract a b) = ((bl s).take b).drop a := by
  unfold bl
  rw [ByteArray.data_extract]
  simp [Array.toList_extract]
  rw [List.drop_take]

def letter (c : UInt8) : Bool := decide (97 ≤ (c.toNat : Int)) && decide ((c.toNat : Int) ≤ 122)
def digit (c : UInt8) : Bool := decide (48 ≤ (c.toNat : Int)) && decide ((c.toNat : Int) ≤ 57)
def isName (l : List UInt8) : Bool := l.all letter && (decide (1 ≤ (l.length : Int)) && decide ((l.length : Int) ≤ 8))
def isWord (l : List UInt8) : Bool := l.all (fun c => letter c || digit c) && decide ((l.length : Int) ≤ 8)

theorem take_snoc (s : ByteArray) (k : Nat) (h : k < s.size) : (bl s).take (k + 1) = (bl s).take k ++ [s[k]] := by
  rw [List.take_succ_eq_append_getElem (by rw [bl_length]; exact h), bl_get s k h]
theorem drop_cons (s : ByteArray) (k : Nat) (h : k < s.size) : (bl s).drop k = s[k] :: (bl s).drop (k + 1) := by
  rw [List.drop_eq_getElem_cons (by rw [bl_length]; exact h), bl_get s k h]
theorem all_step (p : UInt8 → Bool) (s : ByteArray) (k : Nat) (h : k < s.size) (ha : ((bl s).take k).all p = true) (hp : p s[k] = true) : ((bl s).take (k + 1)).all p = true := by
  rw [take_snoc s k h, List.all_append, ha]; simp [hp]
theorem all_fail (p : UInt8 → Bool) (s : ByteArray) (k : Nat) (h : k < s.size) (hp : p s[k] = false) : (bl s).all p = false := by
  rw [List.all_eq_false]
  exact ⟨s[k], by rw [← bl_get s k h]; exact List.getElem_mem _, by simp [hp]⟩
theorem all_end (p : UInt8 → Bool) (s : ByteArray) (k : Nat) (h : ¬ k < s.size) (ha : ((bl s).take k).all p = true) : (bl s).all p = true := by
  rwa [List.take_of_length_le (by rw [bl_length]; omega)] at ha

/-! numbers -/
def val (l : List UInt8) : Nat := l.foldl (fun n c => 10 * n + (c.toNat - 48)) 0
def number (most : Nat) (l : List UInt8) : Option Nat :=
  if l.length < 1 ∨ (l.head? = some 48 ∧ 1 < l.length) ∨ l.all digit = false ∨ most < val l then none else some (val l)
theorem val_snoc (l : List UInt8) (c : UInt8) : val (l ++ [c]) = 10 * val l + (c.toNat - 48) := by simp [val]
theorem val_foldl_ge (r : List UInt8) : ∀ n : Nat, n ≤ r.foldl (fun n c => 10 * n + (c.toNat - 48)) n := by
  induction r with
  | nil => intro n; exact Nat.le_refl _
  | cons c r ih => intro n; exact Nat.le_trans (show n ≤ 10 * n + (c.toNat - 48) by omega) (ih _)
theorem val_take_le (l : List UInt8) (k : Nat) : val (l.take k) ≤ val l := by
  conv => rhs; rw [← List.take_append_drop k l]
  unfold val
  rw [List.foldl_append]
  exact val_foldl_ge _ _
theorem digit_bounds {c : UInt8} (h : digit c = true) : 48 ≤ c.toNat ∧ c.toNat ≤ 57 := by
  simp [digit] at h; omega

/-! where a byte is; cutting there -/
def seek (c : UInt8) : List UInt8 → Option Nat
  | [] => none
  | b :: l => if b == c then some 0 else (seek c l).map (· + 1)
def cut (c : UInt8) (l : List UInt8) : Option (List UInt8 × List UInt8) := (seek c l).map fun i => (l.take i, l.drop (i + 1))
theorem seek_append_miss (c : UInt8) (a b : List UInt8) (h : seek c a = none) : seek c (a ++ b) = (seek c b).map (· + a.length) := by
  induction a with
  | nil => simp
  | cons x a ih =>
    unfold seek at h
    split at h
    · cases h
    · rename_i hx
      have h' : seek c a = none := by simpa using h
      simp only [List.cons_append, seek, hx]
      rw [ih h']
      cases seek c b <;> simp [Nat.add_assoc]
theorem seek_none_iff (c : UInt8) (l : List UInt8) : seek c l = none ↔ c ∉ l := by
  induction l with
  | nil => simp [seek]
  | cons b l ih =>
    unfold seek
    by_cases hb : b = c
    · subst hb; simp
    · simp [hb, ih, Ne.symm hb]
theorem seek_some {c : UInt8} {l : List UInt8} {i : Nat} (h : seek c l = some i) : ∃ a b, l = a ++ c :: b ∧ a.length = i ∧ c ∉ a := by
  induction l generalizing i with
  | nil => simp [seek] at h
  | cons b l ih =>
    unfold seek at h
    by_cases hb : b = c
    · subst hb; simp at h; subst h; exact ⟨[], l, rfl, rfl, by simp⟩
    · simp [hb] at h
      obtain ⟨j, hj, rfl⟩ := h
      obtain ⟨a', b', rfl, rfl, hn⟩ := ih hj
      exact ⟨b :: a', b', rfl, by simp, by simp [hn, Ne.symm hb]⟩
theorem seek_mid (c : UInt8) (a b : List UInt8) (h : c ∉ a) : seek c (a ++ c :: b) = some a.length := by
  rw [seek_append_miss c a _ ((seek_none_iff c a).2 h)]; simp [seek]
theorem seek_lt {c : UInt8} {l : List UInt8} {i : Nat} (h : seek c l = some i) : i < l.length := by
  obtain ⟨a, b, rfl, rfl, _⟩ := seek_some h; simp

/-! splitting -/
def pre (p : List UInt8) : List (List UInt8) → List (List UInt8)
  | [] => [p]
  | h :: t => (p ++ h) :: t
def split (c : UInt8) : List UInt8 → List (List UInt8)
  | [] => [[]]
  | b :: l => if b == c then [] :: split c l else pre [b] (split c l)
theorem split_ne (c : UInt8) (l : List UInt8) : split c l ≠ [] := by
  cases l with
  | nil => simp [split]
  | cons b l =>
    unfold split
    split
    · simp
    · cases h : split c l <;> simp [pre]
theorem pre_nil (c : UInt8) (l : List UInt8) : pre [] (split c l) = split c l := by
  cases h : split c l with
  | nil => exact absurd h (split_ne c l)
  | cons a t => simp [pre]
theorem pre_pre (p q : List UInt8) (l : List (List UInt8)) (h : l ≠ []) : pre p (pre q l) = pre (p ++ q) l := by
  cases l with
  | nil => exact absurd rfl h
  | cons a t => simp [pre]
theorem split_hit (c : UInt8) (l : List UInt8) : split c (c :: l) = [] :: split c l := by simp [split]
theorem split_miss (c b : UInt8) (l : List UInt8) (h : (b == c) = false) : split c (b :: l) = pre [b] (split c l) := by
  simp only [split, h]; rfl
theorem split_append (c : UInt8) (p r : List UInt8) (h : c ∉ p) : split c (p ++ r) = pre p (split c r) := by
  induction p with
  | nil => rw [List.nil_append, pre_nil]
  | cons x p ih =>
    have hx : (x == c) = false := by simp; rintro rfl; simp at h
    rw [List.cons_append, split_miss c x _ hx, ih (by simp at h; exact h.2), pre_pre _ _ _ (split_ne c r)]; rfl
theorem split_length (c : UInt8) (l : List UInt8) : (split c l).length ≤ l.length + 1 := by
  induction l with
  | nil => simp [split]
  | cons b l ih =>
    by_cases hb : b = c
    · subst hb; rw [split_hit]; simp; exact ih
    · rw [split_miss c b l (by simp [hb])]
      cases h2 : split c l with
      | nil => simp [pre]
      | cons a t => rw [h2] at ih; simp [pre]; simp at ih; omega
end Go.Proofs.YtmncdbepjhmkgaaDoor.LS

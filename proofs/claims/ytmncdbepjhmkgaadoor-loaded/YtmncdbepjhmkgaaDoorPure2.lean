/- The rest of a store's plain functions: values, samples, labels, lines; and how the library's cutting and splitting are these functions. -/
import Derived.Test.YtmncdbepjhmkgaaDoorPure
import Derived.Lib.SplitLaws
import Derived.Lib.IndexMore
namespace Go.Proofs.YtmncdbepjhmkgaaDoor.LS
open Go Go.RowKit

theorem index_one (c : UInt8) (l : List UInt8) : Lib.index l [c] = match seek c l with | none => -1 | some i => (i : Int) := by
  induction l with
  | nil => rfl
  | cons b l ih =>
    unfold Lib.index seek
    by_cases hb : b = c
    · subst hb; simp [List.isPrefixOf]
    · have h1 : [c].isPrefixOf (b :: l) = false := by simp [List.isPrefixOf, Ne.symm hb]
      have h2 : (b == c) = false := by simp [hb]
      rw [if_neg (by simp [h1]), ih, h2]
      cases seek c l with
      | none => rfl
      | some i =>
        have h3 : ¬ (((i : Int) == -1) = true) := by simp
        simp only [Bool.false_eq_true, if_false, Option.map_some]
        rw [if_neg h3]; rfl
theorem libcut_some {c : UInt8} {l x y : List UInt8} (h : cut c l = some (x, y)) : Lib.cut l [c] = (x, y, true) := by
  unfold cut at h
  cases hs : seek c l with
  | none => rw [hs] at h; cases h
  | some i =>
    rw [hs] at h
    simp only [Option.map_some, Option.some.injEq, Prod.mk.injEq] at h
    unfold Lib.cut
    rw [index_one, hs]
    simp only [List.length_singleton, Int.toNat_natCast]
    rw [if_pos (by omega), h.1, h.2]
theorem libcut_none {c : UInt8} {l : List UInt8} (h : cut c l = none) : Lib.cut l [c] = (l, [], false) := by
  unfold cut at h
  cases hs : seek c l with
  | some i => rw [hs] at h; cases h
  | none =>
    unfold Lib.cut
    rw [index_one, hs]
    rfl
theorem cut_some {c : UInt8} {l x y : List UInt8} (h : cut c l = some (x, y)) : l = x ++ c :: y ∧ c ∉ x := by
  unfold cut at h
  cases hs : seek c l with
  | none => rw [hs] at h; cases h
  | some i =>
    rw [hs] at h
    simp only [Option.map_some, Option.some.injEq, Prod.mk.injEq] at h
    obtain ⟨a, b, rfl, rfl, hn⟩ := seek_some hs
    have e1 : x = a := by rw [← h.1]; simp
    have e2 : y = b := by rw [← h.2]; simp
    subst e1; subst e2
    exact ⟨rfl, hn⟩
theorem cut_none {c : UInt8} {l : List UInt8} (h : cut c l = none) : c ∉ l := by
  rw [← seek_none_iff]; unfold cut at h; simpa using h
theorem cut_mid {c : UInt8} {x y : List UInt8} (h : c ∉ x) : cut c (x ++ c :: y) = some (x, y) := by
  unfold cut; rw [seek_mid c x y h]; simp

theorem splitK_one (c : UInt8) : ∀ (n : Nat) (l : List UInt8), l.length ≤ n → Lib.splitK [c] 0 (Lib.count l [c]) l = split c l := by
  intro n
  induction n with
  | zero =>
    intro l hl
    obtain rfl : l = [] := List.length_eq_zero_iff.1 (by omega)
    rw [Lib.count_miss rfl]; rfl
  | succ n ih =>
    intro l hl
    cases hs : seek c l with
    | none =>
      rw [Lib.count_miss (by rw [index_one, hs])]
      have hn := (seek_none_iff c l).1 hs
      have := split_append c l [] hn
      rw [List.append_nil] at this
      rw [this]; simp [Lib.splitK, split, pre]
    | some i =>
      obtain ⟨a, b, rfl, rfl, hn⟩ := seek_some hs
      have hi : Lib.index (a ++ c :: b) [c] = (a.length : Int) := by rw [index_one, hs]
      rw [Lib.count_hit (by simp) hi]
      have e1 : (a ++ c :: b).drop (a.length + [c].length) = b := by simp
      rw [e1, Nat.add_comm, Lib.splitK, if_neg (by rw [hi]; simp), hi]
      rw [show ((a.length : Int)).toNat = a.length by omega, e1, ih b (by simp at hl; omega), split_append c a _ hn, split_hit]
      simp [pre]

def strip (c : UInt8) : List UInt8 → List UInt8 × Bool
  | [] => ([], false)
  | b :: t => if b == c then (t, true) else (b :: t, false)
theorem libstrip (c : UInt8) (l : List UInt8) : (Lib.trimPrefix l [c], Lib.hasPrefix l [c]) = strip c l := by
  cases l with
  | nil => rfl
  | cons b t =>
    by_cases hb : b = c
    · subst hb; simp [Lib.trimPrefix, Lib.hasPrefix, strip]
    · have h1 : [c].isPrefixOf (b :: t) = false := by simp [List.isPrefixOf, Ne.symm hb]
      simp [Lib.trimPrefix, Lib.hasPrefix, strip, hb, h1]
theorem strip_length (c : UInt8) (l : List UInt8) : (strip c l).1.length ≤ l.length := by
  cases l with
  | nil => simp [strip]
  | cons b t => by_cases h : (b == c) = true <;> simp [strip, h]

/-! values, samples -/
def valueOk (d : List UInt8) : Bool := match number 1000000000 (strip 45 d).1 with
  | none => false
  | some v => !((strip 45 d).2 && v == 0)
def sample (t : List UInt8) : Option Nat := match cut 58 t with
  | none => none
  | some (a, d) => match number 1000000 a with
    | none => none
    | some tm => if valueOk d then some tm else none
def samplesAcc : Int → Nat → List (List UInt8) → Option Nat
  | _, n, [] => some n
  | last, n, x :: xs => match sample x with
    | none => none
    | some t => if (t : Int) ≤ last then none else samplesAcc t (n + 1) xs
def samples (l : List UInt8) : Option Nat := match strip 32 l with
  | (r, f) => if l = [] then some 0 else if f then samplesAcc (-1) 0 (split 32 r) else none

/-! labels -/
def leS (a b : List UInt8) : Bool := Op.bytesLess a b || a == b
def label (last : List UInt8) (x : List UInt8) : Option (List UInt8 × List UInt8) := match cut 61 x with
  | none => none
  | some (n, v) => if isName n && isWord v && !v.isEmpty && !leS n last then some (n, v) else none
def labelsAcc : List UInt8 → List (List UInt8 × List UInt8) → List (List UInt8) → Option (List (List UInt8 × List UInt8))
  | _, acc, [] => some acc
  | last, acc, x :: xs => match label last x with
    | none => none
    | some p => labelsAcc p.1 (acc ++ [p]) xs
def labels (l : List UInt8) : Option (List (List UInt8 × List UInt8)) := if l = [] then some [] else labelsAcc [] [] (split 44 l)

/-! lines -/
def line (l : List UInt8) : Option (List UInt8 × List UInt8 × Nat) := match cut 123 l with
  | none => none
  | some (name, rest) => match cut 125 rest with
    | none => none
    | some (inside, behind) => if isName name && (labels inside).isSome then (samples behind).map (fun n => (name, inside, n)) else none
theorem line_noopen {l : List UInt8} (h : cut 123 l = none) : line l = none := by unfold line; rw [h]
theorem line_noclose {l name rest : List UInt8} (h : cut 123 l = some (name, rest)) (h2 : cut 125 rest = none) : line l = none := by unfold line; rw [h]; simp only [h2]
theorem line_of {l name rest inside behind : List UInt8} (h : cut 123 l = some (name, rest)) (h2 : cut 125 rest = some (inside, behind)) :
    line l = if isName name && (labels inside).isSome then (samples behind).map (fun n => (name, inside, n)) else none := by unfold line; rw [h]; simp only [h2]

/-- a series of a store: its line's number, its name, what stands between its braces, how many samples it has. -/
structure Entry where
  at_ : Nat
  name : List UInt8
  inside : List UInt8
  count : Nat
def linesAcc : Nat → List Entry → List (List UInt8) → Nat ⊕ List Entry
  | _, acc, [] => .inr acc
  | i, acc, x :: xs => if x = [] then linesAcc (i + 1) acc xs else match line x with
    | none => .inl i
    | some (a, b, n) => linesAcc (i + 1) (acc ++ [⟨i, a, b, n⟩]) xs
theorem linesAcc_empty {i : Nat} {acc : List Entry} {ps : List (List UInt8)} (hk : i < ps.length) (h : ps.getD i [] = []) : linesAcc i acc (ps.drop i) = linesAcc (i + 1) acc (ps.drop (i + 1)) := by
  have e : ps.getD i [] = ps[i] := by simp [hk]
  rw [List.drop_eq_getElem_cons hk, linesAcc, ← e, if_pos h]
theorem linesAcc_bad {i : Nat} {acc : List Entry} {ps : List (List UInt8)} (hk : i < ps.length) (h : ps.getD i [] ≠ []) (hl : line (ps.getD i []) = none) : linesAcc i acc (ps.drop i) = .inl i := by
  have e : ps.getD i [] = ps[i] := by simp [hk]
  rw [List.drop_eq_getElem_cons hk, linesAcc, ← e, if_neg h, hl]
theorem linesAcc_cons {i : Nat} {acc : List Entry} {ps : List (List UInt8)} (hk : i < ps.length) (h : ps.getD i [] ≠ []) {a b : List UInt8} {n : Nat} (hl : line (ps.getD i []) = some (a, b, n)) :
    linesAcc i acc (ps.drop i) = linesAcc (i + 1) (acc ++ [⟨i, a, b, n⟩]) (ps.drop (i + 1)) := by
  have e : ps.getD i [] = ps[i] := by simp [hk]
  rw [List.drop_eq_getElem_cons hk, linesAcc, ← e, if_neg h, hl]
theorem linesAcc_end {i : Nat} {acc : List Entry} {ps : List (List UInt8)} (hk : ¬ i < ps.length) : linesAcc i acc (ps.drop i) = .inr acc := by
  rw [List.drop_of_length_le (by omega)]; rfl
end Go.Proofs.YtmncdbepjhmkgaaDoor.LS

/- That labels are written as they were read, and that the two ways of looking for a series that is there twice come to the same. -/
import Derived.Test.YtmncdbepjhmkgaaDoorRefWritten
import Derived.Test.YtmncdbepjhmkgaaDoorDevRead
namespace Go.Proofs.YtmncdbepjhmkgaaDoor
open Go.RowKit LS

def joinC : List (List UInt8) → List UInt8
  | [] => []
  | [x] => x
  | x :: y :: r => x ++ 44 :: joinC (y :: r)
theorem joinC_cons (x : List UInt8) (l : List (List UInt8)) (h : l ≠ []) : joinC (x :: l) = x ++ 44 :: joinC l := by
  cases l with
  | nil => exact absurd rfl h
  | cons y r => rfl
theorem joinC_pre (p : List UInt8) (l : List (List UInt8)) (h : l ≠ []) : joinC (pre p l) = p ++ joinC l := by
  cases l with
  | nil => exact absurd rfl h
  | cons y r =>
    cases r with
    | nil => rfl
    | cons z t => simp [pre, joinC]
theorem join_split (l : List UInt8) : joinC (split 44 l) = l := by
  induction l with
  | nil => rfl
  | cons b l ih =>
    by_cases hb : b = 44
    · subst hb; rw [split_hit, joinC_cons _ _ (split_ne 44 l), ih]; rfl
    · rw [split_miss 44 b l (by simp [hb]), joinC_pre _ _ (split_ne 44 l), ih]; rfl
theorem joinC_snoc (xs : List (List UInt8)) (x : List UInt8) (h : xs ≠ []) : joinC (xs ++ [x]) = joinC xs ++ 44 :: x := by
  induction xs with
  | nil => exact absurd rfl h
  | cons y r ih =>
    cases r with
    | nil => rfl
    | cons z t =>
      rw [List.cons_append, joinC_cons y (z :: t ++ [x]) (by simp), ih (by simp), joinC_cons y (z :: t) (by simp)]; simp
def wr1 (p : List UInt8 × List UInt8) : List UInt8 := p.1 ++ [61] ++ p.2
theorem writtenTo_join (ps : List (List UInt8 × List UInt8)) (k : Nat) (hk : k ≤ ps.length) : writtenTo ps k = joinC ((ps.take k).map wr1) := by
  induction k with
  | zero => rfl
  | succ k ih =>
    have ih' := ih (by omega)
    have e : ps.getD k ([], []) = ps[k] := by simp [show k < ps.length by omega]
    rw [writtenTo, e, List.take_succ_eq_append_getElem (by omega), List.map_append, List.map_cons, List.map_nil]
    by_cases h0 : 0 < k
    · rw [if_pos h0, joinC_snoc _ _ (by intro h; have h3 := congrArg List.length h; rw [List.length_map, List.length_take] at h3; simp only [List.length_nil] at h3; omega), ih']
      simp [wr1]
    · obtain rfl : k = 0 := by omega
      simp [writtenTo, joinC, wr1]
theorem label_text {last x : List UInt8} {p : List UInt8 × List UInt8} (h : label last x = some p) : x = wr1 p := by
  unfold label at h
  cases hc : cut 61 x with
  | none => rw [hc] at h; cases h
  | some q =>
    obtain ⟨n, v⟩ := q
    rw [hc] at h
    simp only at h
    split at h
    · have := Option.some.inj h; subst this
      rw [(cut_some hc).1]; simp [wr1]
    · cases h
theorem labelsAcc_map {last : List UInt8} {acc ps : List (List UInt8 × List UInt8)} {xs : List (List UInt8)} (h : labelsAcc last acc xs = some ps) : ∃ qs, ps = acc ++ qs ∧ xs = qs.map wr1 := by
  induction xs generalizing last acc with
  | nil => simp only [labelsAcc, Option.some.injEq] at h; exact ⟨[], by simp [h], rfl⟩
  | cons x xs ih =>
    unfold labelsAcc at h
    cases hl : label last x with
    | none => rw [hl] at h; cases h
    | some p =>
      rw [hl] at h
      obtain ⟨qs, e1, e2⟩ := ih h
      exact ⟨p :: qs, by rw [e1]; simp, by rw [e2, List.map_cons, label_text hl]⟩
/-- Labels are written as they were read. -/
theorem written_back {l : List UInt8} {ps : List (List UInt8 × List UInt8)} (h : labels l = some ps) : writtenTo ps ps.length = l := by
  unfold labels at h
  split at h
  · rename_i hl; have := Option.some.inj h; subst this; rw [hl]; rfl
  · obtain ⟨qs, e1, e2⟩ := labelsAcc_map h
    simp at e1; subst e1
    rw [writtenTo_join _ _ (Nat.le_refl _), List.take_length, ← e2, join_split]

def keyOfE (e : Entry) : List UInt8 := e.name ++ 123 :: e.inside
theorem no_brace {n : List UInt8} (h : isName n = true) : (123 : UInt8) ∉ n := by
  intro hm
  unfold isName at h
  rw [Bool.and_eq_true] at h
  have := List.all_eq_true.1 h.1 _ hm
  exact absurd this (by decide)
theorem key_iff {e f : Entry} (he : isName e.name = true) (hf : isName f.name = true) : keyOfE e = keyOfE f ↔ e.name = f.name ∧ e.inside = f.inside := by
  constructor
  · intro h
    have h1 := seek_mid 123 e.name e.inside (no_brace he)
    have h2 := seek_mid 123 f.name f.inside (no_brace hf)
    unfold keyOfE at h
    rw [h, h2] at h1
    have hl := Option.some.inj h1
    have := List.append_inj h hl.symm
    exact ⟨this.1, (List.cons.inj this.2).2⟩
  · rintro ⟨h1, h2⟩; unfold keyOfE; rw [h1, h2]
theorem line_parts {l a b : List UInt8} {n : Nat} (h : line l = some (a, b, n)) : isName a = true ∧ (labels b).isSome = true ∧ headOf l = a ++ 123 :: b := by
  cases hc : cut 123 l with
  | none => rw [line_noopen hc] at h; cases h
  | some p =>
    obtain ⟨x, r⟩ := p
    cases hc2 : cut 125 r with
    | none => rw [line_noclose hc hc2] at h; cases h
    | some q =>
      obtain ⟨y, z⟩ := q
      rw [line_of hc hc2] at h
      split at h
      · rename_i hok
        rw [Bool.and_eq_true] at hok
        cases hs : samples z with
        | none => rw [hs] at h; cases h
        | some k =>
          rw [hs] at h
          simp only [Option.map_some, Option.some.injEq, Prod.mk.injEq] at h
          obtain ⟨rfl, rfl, rfl⟩ := h
          refine ⟨hok.1, hok.2, ?_⟩
          have hl : l = (x ++ 123 :: y) ++ 125 :: z := by rw [(cut_some hc).1, (cut_some hc2).1]; simp
          have hnx : (125 : UInt8) ∉ x := by
            intro hm
            have h1 := hok.1
            unfold isName at h1
            rw [Bool.and_eq_true] at h1
            exact absurd (List.all_eq_true.1 h1.1 _ hm) (by decide)
          have hn : (125 : UInt8) ∉ x ++ 123 :: y := by
            simp only [List.mem_append, List.mem_cons, not_or]
            exact ⟨hnx, by decide, (cut_some hc2).2⟩
          unfold headOf
          rw [hl, cut_mid hn]
      · cases h
def dupFrom : List Entry → List Entry → Option Nat
  | _, [] => none
  | seen, e :: r => if (seen.map keyOfE).contains (keyOfE e) then some e.at_ else dupFrom (seen ++ [e]) r
theorem twice_dup {i : Nat} {acc es : List Entry} {ps : List (List UInt8)} (h : linesAcc i acc ps = .inr es) : ∃ rest, es = acc ++ rest ∧ twiceAcc i (acc.map keyOfE) ps = dupFrom acc rest := by
  induction ps generalizing i acc with
  | nil => simp only [linesAcc, Sum.inr.injEq] at h; exact ⟨[], by simp [h], rfl⟩
  | cons x xs ih =>
    unfold linesAcc at h
    unfold twiceAcc
    split at h
    · rename_i hx; rw [if_pos hx]; exact ih h
    · rename_i hx
      rw [if_neg hx]
      cases hl : line x with
      | none => rw [hl] at h; cases h
      | some t =>
        obtain ⟨a, b, n⟩ := t
        rw [hl] at h
        simp only at h
        obtain ⟨rest, e1, e2⟩ := ih h
        refine ⟨⟨i, a, b, n⟩ :: rest, by rw [e1]; simp, ?_⟩
        have hk : headOf x = keyOfE ⟨i, a, b, n⟩ := (line_parts hl).2.2
        rw [hk, dupFrom]
        split
        · rfl
        · rw [List.map_append] at e2; exact e2
theorem twice_eq {es : List Entry} {ps : List (List UInt8)} (h : linesAcc 0 [] ps = .inr es) : twiceAcc 0 [] ps = dupFrom [] es := by
  obtain ⟨rest, e1, e2⟩ := twice_dup h
  simp at e1; subst e1; exact e2
theorem dupFrom_hit {es : List Entry} {i k : Nat} (hi : i < es.length) (hk : k < i) (he : keyOfE (es[k]'(by omega)) = keyOfE es[i]) : dupFrom (es.take i) (es.drop i) = some (es[i]).at_ := by
  rw [List.drop_eq_getElem_cons hi, dupFrom, if_pos]
  rw [List.contains_iff_mem, ← he]
  refine List.mem_map.2 ⟨es[k]'(by omega), ?_, rfl⟩
  rw [List.mem_iff_getElem]
  exact ⟨k, by rw [List.length_take]; omega, by simp⟩
theorem dupFrom_miss {es : List Entry} {i : Nat} (hi : i < es.length) (hn : ∀ k (hk : k < i), keyOfE (es[k]'(by omega)) ≠ keyOfE es[i]) : dupFrom (es.take i) (es.drop i) = dupFrom (es.take (i + 1)) (es.drop (i + 1)) := by
  rw [List.drop_eq_getElem_cons hi, dupFrom, if_neg, List.take_succ_eq_append_getElem hi]
  rw [List.contains_iff_mem]
  intro hm
  obtain ⟨f, hf, hfe⟩ := List.mem_map.1 hm
  obtain ⟨k, hk, rfl⟩ := List.mem_iff_getElem.1 hf
  rw [List.length_take] at hk
  exact hn k (by omega) (by simpa using hfe)
end Go.Proofs.YtmncdbepjhmkgaaDoor

/- Samples as plain numbers: what their texts say. -/
import Derived.Test.YtmncdbepjhmkgaaDoorNum
import Derived.Test.YtmncdbepjhmkgaaDoorOwnC
import Derived.Test.YtmncdbepjhmkgaaDoorPure2
namespace Go.Proofs.YtmncdbepjhmkgaaDoor
open Go.RowKit LS

theorem numI_bds (most : Nat) (l : List UInt8) : -1 ≤ numI most l ∧ numI most l ≤ most := by
  cases h : number most l with
  | none => rw [numI_none h]; omega
  | some v => rw [numI_some h]; have := number_le h; omega
def flatP : List (Int × Int) → List Value
  | [] => []
  | x :: l => .int .i64 x.1 :: .int .i64 x.2 :: flatP l
theorem flatP_append (l m : List (Int × Int)) : flatP (l ++ m) = flatP l ++ flatP m := by
  induction l with
  | nil => rfl
  | cons a l ih => simp [flatP, ih]
theorem flatP_get (l : List (Int × Int)) (j : Nat) : (flatP l)[j * 2]? = l[j]?.map (fun x => .int .i64 x.1) ∧ (flatP l)[j * 2 + 1]? = l[j]?.map (fun x => .int .i64 x.2) := by
  induction l generalizing j with
  | nil => simp [flatP]
  | cons r l ih =>
    cases j with
    | zero => simp [flatP]
    | succ j =>
      obtain ⟨h1, h2⟩ := ih j
      refine ⟨?_, ?_⟩
      · rw [show (j + 1) * 2 = j * 2 + 1 + 1 by omega]; simpa [flatP] using h1
      · rw [show (j + 1) * 2 + 1 = j * 2 + 1 + 1 + 1 by omega]; simpa [flatP] using h2
def smOk (x : Int × Int) : Prop := -1000000 ≤ x.1 ∧ x.1 ≤ 1000000 ∧ -1000000000 ≤ x.2 ∧ x.2 ≤ 1000000000
/-- what a sample's text says, if it is one. -/
def valI (d : List UInt8) : Int := match strip 45 d with
  | (d', less) => if less then -(numI 1000000000 d') else numI 1000000000 d'
def smV (x : List UInt8) : Int × Int := match cut 58 x with
  | none => (0, 0)
  | some (a, d) => (numI 1000000 a, valI d)
def samsL : List UInt8 → List (Int × Int)
  | [] => []
  | _ :: t => (split 32 t).map smV
theorem smV_of {x a d d' : List UInt8} {less : Bool} {t v : Int} (hc : cut 58 x = some (a, d)) (hst : strip 45 d = (d', less)) (ht : numI 1000000 a = t) (hv : numI 1000000000 d' = v) : smV x = (t, if less then -v else v) := by
  unfold smV valI; rw [hc]; simp only [hst, ht, hv]
theorem smV_ok (x : List UInt8) : smOk (smV x) := by
  unfold smV
  split
  · unfold smOk; decide
  · rename_i a d _
    have h1 := numI_bds 1000000 a
    unfold valI
    cases hd : strip 45 d with
    | mk d' less =>
      have h2 := numI_bds 1000000000 d'
      unfold smOk
      cases less
      · simp only [Bool.false_eq_true, if_false]; omega
      · simp only [if_true]; omega
theorem flatP_step {l : List (List UInt8)} {k : Nat} (hk : k < l.length) {x : List UInt8} (hx : x = l.getD k []) {t v : Int} (hs : smV x = (t, v)) : flatP ((l.map smV).take (k + 1)) = flatP ((l.map smV).take k) ++ [.int .i64 t, .int .i64 v] := by
  have e : l[k] = x := by rw [hx, List.getD_eq_getElem?_getD, List.getElem?_eq_getElem hk]; rfl
  rw [← List.map_take, ← List.map_take, List.take_succ_eq_append_getElem hk, List.map_append, flatP_append, List.map_singleton, e, hs]
  rfl
/-- the samples of a line. -/
def sams1 (l : List UInt8) : List (Int × Int) := match LS.seek 125 l with
  | some b => samsL (l.drop (b + 1))
  | none => []
theorem sams1_of {l x r y z : List UInt8} (hn : isName x = true) (h1 : cut 123 l = some (x, r)) (h2 : cut 125 r = some (y, z)) : sams1 l = samsL z := by
  obtain ⟨e1, n1⟩ := cut_some h1
  obtain ⟨e2, n2⟩ := cut_some h2
  have hx : (125 : UInt8) ∉ x := by
    intro hm
    unfold isName at hn
    rw [Bool.and_eq_true] at hn
    have := List.all_eq_true.1 hn.1 _ hm
    exact absurd this (by decide)
  have hl : l = (x ++ 123 :: y) ++ 125 :: z := by rw [e1, e2]; simp
  have hs : LS.seek 125 l = some (x ++ 123 :: y).length := by
    rw [hl]
    refine seek_mid 125 _ z ?_
    rw [List.mem_append, List.mem_cons]
    rintro (h | h | h)
    · exact hx h
    · exact absurd h (by decide)
    · exact n2 h
  unfold sams1
  rw [hs, hl]
  simp only
  congr 1
  rw [show (x ++ 123 :: y) ++ 125 :: z = ((x ++ 123 :: y) ++ [125]) ++ z by simp, List.drop_append_of_le_length (by simp; omega), List.drop_of_length_le (by simp; omega)]
  rfl
end Go.Proofs.YtmncdbepjhmkgaaDoor

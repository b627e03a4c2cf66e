/- The series that the document's own reader keeps in memory: what they hold, and that it stays. -/
import Derived.Test.YtmncdbepjhmkgaaDoorRefPure
namespace Go.Proofs.YtmncdbepjhmkgaaDoor
open Go.RowKit LS


theorem label_bounds {last x : List UInt8} {p : List UInt8 × List UInt8} (h : label last x = some p) : p.1.length ≤ 8 ∧ p.2.length ≤ 8 := by
  unfold label at h
  cases hc : cut 61 x with
  | none => rw [hc] at h; cases h
  | some q =>
    obtain ⟨n, v⟩ := q
    rw [hc] at h
    simp only at h
    split at h
    · rename_i hok
      have := Option.some.inj h; subst this
      simp only [Bool.and_eq_true] at hok
      have h1 := hok.1.1.1
      have h2 := hok.1.1.2
      unfold isName at h1
      unfold isWord at h2
      simp only [Bool.and_eq_true, decide_eq_true_eq] at h1 h2
      exact ⟨by have := h1.2.2; show n.length ≤ 8; omega, by have := h2.2; show v.length ≤ 8; omega⟩
    · cases h
theorem labelsAcc_bounds {last : List UInt8} {acc ps : List (List UInt8 × List UInt8)} {xs : List (List UInt8)} (h : labelsAcc last acc xs = some ps) (ha : ∀ p ∈ acc, p.1.length ≤ 8 ∧ p.2.length ≤ 8) : ps.length = acc.length + xs.length ∧ ∀ p ∈ ps, p.1.length ≤ 8 ∧ p.2.length ≤ 8 := by
  induction xs generalizing last acc with
  | nil => simp only [labelsAcc, Option.some.injEq] at h; subst h; exact ⟨rfl, ha⟩
  | cons x xs ih =>
    unfold labelsAcc at h
    cases hl : label last x with
    | none => rw [hl] at h; cases h
    | some p =>
      rw [hl] at h
      have := ih h (fun q hq => by
        rcases List.mem_append.1 hq with hq | hq
        · exact ha q hq
        · simp at hq; subst hq; exact label_bounds hl)
      exact ⟨by rw [this.1]; simp; omega, this.2⟩
theorem labels_bounds {l : List UInt8} {ps : List (List UInt8 × List UInt8)} (h : labels l = some ps) (hl : l.length ≤ 6000) : ps.length ≤ 6001 ∧ ∀ p ∈ ps, p.1.length ≤ 8 ∧ p.2.length ≤ 8 := by
  unfold labels at h
  split at h
  · have := Option.some.inj h; subst this; simp
  · have := labelsAcc_bounds h (by simp)
    exact ⟨by rw [this.1]; have := split_length 44 l; simp; omega, this.2⟩
theorem line_inside_le {l a b : List UInt8} {n : Nat} (h : line l = some (a, b, n)) : b.length ≤ l.length := by
  have h3 := (line_parts h).2.2
  have : (headOf l).length ≤ l.length := by
    unfold headOf
    cases hc : cut 125 l with
    | none => exact Nat.le_refl _
    | some p => obtain ⟨x, y⟩ := p; rw [(cut_some hc).1]; simp
  rw [h3] at this; simp at this; omega

/-- The labels at lv are those of the text inside. -/
def LabOwn (w : World) (lv : Value) (inside : List UInt8) : Prop := ∃ qs : List (ByteArray × ByteArray), w.ownsRow 0 64 2 lv qs.length (flat2 qs) ∧ labels inside = some (qs.map bl2)
theorem LabOwn.below {w w' : World} {lv : Value} {inside : List UInt8} (h : LabOwn w lv inside) (hb : Below w.heap.size w w') : LabOwn w' lv inside := by
  obtain ⟨qs, h1, h2⟩ := h; exact ⟨qs, own_below h1 hb, h2⟩
theorem LabOwn.grown {w w' : World} {lv : Value} {inside : List UInt8} {b : Nat} {e : TypeId} {s : Nat} {v : Value} {n : Nat} {xs : List Value} (h : LabOwn w lv inside) (hg : w.grownBy w' v.ownBlock) (hv : w.ownsRow b e s v n xs) (he : 64 ≠ e) : LabOwn w' lv inside := by
  obtain ⟨qs, h1, h2⟩ := h; exact ⟨qs, h1.kept hg (own_ne h1 hv he), h2⟩
/-- The rows are the entries. -/
def AllLab (w : World) (rs : List (Value × Value × Value)) (es : List Entry) : Prop := rs.length = es.length ∧ ∀ j (h : j < es.length), ∃ (nm : ByteArray) (la : Option Addr) (ln lc : Nat) (sa : Option Addr) (sc : Nat),
  rs[j]? = some (.string nm, .slice la ln lc, .slice sa (es[j]).count sc) ∧ bl nm = (es[j]).name ∧ isName (es[j]).name = true ∧ (es[j]).inside.length ≤ 6000 ∧ LabOwn w (.slice la ln lc) (es[j]).inside
theorem AllLab.nil (w : World) : AllLab w [] [] := ⟨rfl, fun j h => by simp at h⟩
theorem AllLab.below {w w' : World} {rs : List (Value × Value × Value)} {es : List Entry} (h : AllLab w rs es) (hb : Below w.heap.size w w') : AllLab w' rs es :=
  ⟨h.1, fun j hj => by obtain ⟨nm, la, ln, lc, sa, sc, e1, e2, e3, e4, e5⟩ := h.2 j hj; exact ⟨nm, la, ln, lc, sa, sc, e1, e2, e3, e4, e5.below hb⟩⟩
theorem AllLab.grown {w w' : World} {rs : List (Value × Value × Value)} {es : List Entry} {b : Nat} {e : TypeId} {s : Nat} {v : Value} {n : Nat} {xs : List Value} (h : AllLab w rs es) (hg : w.grownBy w' v.ownBlock) (hv : w.ownsRow b e s v n xs) (he : 64 ≠ e) : AllLab w' rs es :=
  ⟨h.1, fun j hj => by obtain ⟨nm, la, ln, lc, sa, sc, e1, e2, e3, e4, e5⟩ := h.2 j hj; exact ⟨nm, la, ln, lc, sa, sc, e1, e2, e3, e4, e5.grown hg hv he⟩⟩
theorem AllLab.snoc {w : World} {rs : List (Value × Value × Value)} {es : List Entry} (h : AllLab w rs es) (x : Entry) (nm : ByteArray) (la : Option Addr) (ln lc : Nat) (sa : Option Addr) (sc : Nat)
    (h1 : bl nm = x.name) (h2 : isName x.name = true) (h3 : x.inside.length ≤ 6000) (h4 : LabOwn w (.slice la ln lc) x.inside) : AllLab w (rs ++ [(.string nm, .slice la ln lc, .slice sa x.count sc)]) (es ++ [x]) := by
  refine ⟨by simp [h.1], fun j hj => ?_⟩
  by_cases hlt : j < es.length
  · obtain ⟨nm', la', ln', lc', sa', sc', e1, e2⟩ := h.2 j hlt
    refine ⟨nm', la', ln', lc', sa', sc', ?_⟩
    rw [List.getElem?_append_left (by rw [h.1]; exact hlt), List.getElem_append_left hlt]
    exact ⟨e1, e2⟩
  · have hj' : j = es.length := by simp at hj; omega
    subst hj'
    refine ⟨nm, la, ln, lc, sa, sc, ?_⟩
    rw [List.getElem?_append_right (by rw [h.1]; exact Nat.le_refl _), h.1]
    simp [h1, h2, h3, h4]
/-- the rows' samples are those of the entries' lines. -/
def AllSam (w : World) (rs : List (Value × Value × Value)) (es : List Entry) (P : List (List UInt8)) : Prop := ∀ j (h : j < es.length), ∃ (x y : Value) (sa : Option Addr) (sc : Nat), rs[j]? = some (x, y, .slice sa (es[j]).count sc) ∧ w.ownsRow 0 98 2 (.slice sa (es[j]).count sc) (es[j]).count (flatP (sams1 (P.getD (es[j]).at_ [])))
theorem AllSam.nil (w : World) (P : List (List UInt8)) : AllSam w [] [] P := fun j h => by simp at h
theorem AllSam.below {w w' : World} {rs : List (Value × Value × Value)} {es : List Entry} {P : List (List UInt8)} (h : AllSam w rs es P) (hb : Below w.heap.size w w') : AllSam w' rs es P := fun j hj => by
  obtain ⟨x, y, sa, sc, e1, e2⟩ := h j hj; exact ⟨x, y, sa, sc, e1, own_below e2 hb⟩
theorem AllSam.grown {w w' : World} {rs : List (Value × Value × Value)} {es : List Entry} {P : List (List UInt8)} {b : Nat} {e : TypeId} {s : Nat} {v : Value} {n : Nat} {xs : List Value} (h : AllSam w rs es P) (hg : w.grownBy w' v.ownBlock) (hv : w.ownsRow b e s v n xs) (he : 98 ≠ e) : AllSam w' rs es P := fun j hj => by
  obtain ⟨x, y, sa, sc, e1, e2⟩ := h j hj; exact ⟨x, y, sa, sc, e1, e2.kept hg (own_ne e2 hv he)⟩
theorem AllSam.snoc {w : World} {rs : List (Value × Value × Value)} {es : List Entry} {P : List (List UInt8)} (hl : rs.length = es.length) (h : AllSam w rs es P) (z : Entry) (x y : Value) (sa : Option Addr) (sc : Nat)
    (h1 : w.ownsRow 0 98 2 (.slice sa z.count sc) z.count (flatP (sams1 (P.getD z.at_ [])))) : AllSam w (rs ++ [(x, y, .slice sa z.count sc)]) (es ++ [z]) P := fun j hj => by
  by_cases hlt : j < es.length
  · obtain ⟨x', y', sa', sc', e1, e2⟩ := h j hlt
    refine ⟨x', y', sa', sc', ?_⟩
    rw [List.getElem?_append_left (by rw [hl]; exact hlt), List.getElem_append_left hlt]
    exact ⟨e1, e2⟩
  · have hj' : j = es.length := by simp at hj; omega
    subst hj'
    refine ⟨x, y, sa, sc, ?_⟩
    rw [List.getElem?_append_right (by rw [hl]; exact Nat.le_refl _), hl]
    simp only [Nat.sub_self, List.getElem?_cons_zero, List.getElem_append_right (Nat.le_refl _), List.getElem_cons_zero]
    exact ⟨trivial, h1⟩
/-- the store as it was read. -/
def LoadedV (w : World) (v : Value) (l : List UInt8) : Prop := ∃ (es : List Entry) (rs : List (Value × Value × Value)), linesAcc 0 [] (split 10 l) = .inr es ∧ dupFrom [] es = none ∧ es.length ≤ 30 ∧ w.ownsRow 0 44 3 v es.length (flat3 rs) ∧ AllLab w rs es ∧ AllSam w rs es (split 10 l)
theorem LoadedV.below {w w' : World} {v : Value} {l : List UInt8} (h : LoadedV w v l) (hb : Below w.heap.size w w') : LoadedV w' v l := by
  obtain ⟨es, rs, h1, h2, h3, h4, h5, h6⟩ := h; exact ⟨es, rs, h1, h2, h3, own_below h4 hb, h5.below hb, h6.below hb⟩
/-- Written, of the labels of an entry: the text between its braces. -/
theorem rWritten_of {lv : Value} {inside : List UInt8} (w : World) (h : LabOwn w lv inside) (hi : inside.length ≤ 6000) :
    Calls Tryd.prog 13 #[lv] w fun e w' => ∃ r : ByteArray, e = .returned (.string r) ∧ Hid (bl r = inside) ∧ ∃ n, w' = w.drewN n := by
  obtain ⟨qs, hown, hl⟩ := h
  have hbd := labels_bounds hl hi
  have hlen : qs.length ≤ 6001 := by have := hbd.1; rwa [List.length_map] at this
  refine (rWritten_any lv 0 qs w hown hlen (fun q hq => ?_)).mono ?_
  · have := hbd.2 (bl2 q) (List.mem_map.2 ⟨q, hq, rfl⟩)
    have h1 : q.1.size ≤ 8 := by rw [← bl_length]; exact this.1
    have h2 : q.2.size ≤ 8 := by rw [← bl_length]; exact this.2
    exact ⟨by omega, by omega⟩
  · rintro e w' ⟨r, rfl, hr, hw⟩
    refine ⟨r, rfl, ?_, hw⟩
    rw [hr.out]
    have := written_back hl
    rwa [List.length_map] at this
end Go.Proofs.YtmncdbepjhmkgaaDoor

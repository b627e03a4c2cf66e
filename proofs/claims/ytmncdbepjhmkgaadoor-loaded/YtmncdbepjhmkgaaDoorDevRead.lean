/- What the program's reader of a store answers of any text. -/
import Derived.Test.YtmncdbepjhmkgaaDoorDevLoad
namespace Go.Proofs.YtmncdbepjhmkgaaDoor
open Go.RowKit LS

theorem samplesAcc_le {last : Int} {n : Nat} {ps : List (List UInt8)} {k : Nat} (h : samplesAcc last n ps = some k) : k ≤ n + ps.length := by
  induction ps generalizing last n with
  | nil => simp [samplesAcc] at h; omega
  | cons x xs ih =>
    unfold samplesAcc at h
    cases hs : sample x with
    | none => rw [hs] at h; cases h
    | some t =>
      rw [hs] at h
      simp only at h
      split at h
      · cases h
      · have := ih h; simp; omega
theorem samples_le {l : List UInt8} {n : Nat} (h : samples l = some n) : n ≤ l.length + 1 := by
  unfold samples at h
  have h3 := strip_length 32 l
  generalize strip 32 l = st at h h3
  obtain ⟨r, f⟩ := st
  simp only at h h3
  split at h
  · have := Option.some.inj h; omega
  · split at h
    · have h1 := samplesAcc_le h; have h2 := split_length 32 r; omega
    · cases h
theorem line_le {l a b : List UInt8} {n : Nat} (h : line l = some (a, b, n)) : n ≤ l.length + 1 := by
  cases hc : cut 123 l with
  | none => rw [line_noopen hc] at h; cases h
  | some p =>
    obtain ⟨x, r⟩ := p
    cases hc2 : cut 125 r with
    | none => rw [line_noclose hc hc2] at h; cases h
    | some q =>
      obtain ⟨y, z⟩ := q
      rw [line_of hc hc2] at h
      have h1 : z.length ≤ l.length := by
        rw [(cut_some hc).1, (cut_some hc2).1]; simp; omega
      split at h
      · cases hs : samples z with
        | none => rw [hs] at h; cases h
        | some k =>
          rw [hs] at h
          simp at h
          have := samples_le hs
          omega
      · cases h
theorem linesAcc_bounds {i : Nat} {acc es : List Entry} {ps : List (List UInt8)} (h : linesAcc i acc ps = .inr es) (ha : ∀ e ∈ acc, e.count ≤ 6001) (hp : ∀ p ∈ ps, p.length ≤ 6000) :
    es.length ≤ acc.length + ps.length ∧ ∀ e ∈ es, e.count ≤ 6001 := by
  induction ps generalizing i acc with
  | nil =>
    simp only [linesAcc, Sum.inr.injEq] at h
    subst h; exact ⟨by simp, ha⟩
  | cons x xs ih =>
    unfold linesAcc at h
    split at h
    · have := ih h ha (fun p hp' => hp p (by simp [hp'])); exact ⟨by simp; omega, this.2⟩
    · cases hl : line x with
      | none => rw [hl] at h; cases h
      | some t =>
        obtain ⟨a, b, n⟩ := t
        rw [hl] at h
        simp only at h
        have h6 := hp x (by simp)
        have hn := line_le hl
        have := ih h (fun e he => by
          rcases List.mem_append.1 he with he | he
          · exact ha e he
          · simp at he; subst he; show n ≤ 6001; omega) (fun p hp' => hp p (by simp [hp']))
        exact ⟨by have := this.1; simp at this ⊢; omega, this.2⟩

set_option maxHeartbeats 1000000 in
theorem read_long (s : ByteArray) (A : Nat → Addr) (m : Int) (w : World) (hv : Vars w A m) (hs : 6000 < s.size) (hs2 : s.size ≤ maxLen) :
    Calls Tryd.prog 8 #[.string s] w fun e w' => ∃ sv err, e = .returned (.tuple #[sv, err]) ∧ Hid (LErrIs w' A err (1, 0)) ∧ Below w.heap.size w w' := by
  unfold maxLen at hs2
  have hg := hv.sent 0 (by decide)
  go_enter Tryd.func8, Tryd.ntmps8
  go_wp2
  go_region
  all_goals (try go_wp2)
  all_goals (go_ret2; exact ⟨_, _, rfl, Or.inr (Or.inl ⟨rfl, rfl⟩), belB⟩)

/-- the store as the program has read it. -/
def ReadV (w : World) (v : Value) (l : List UInt8) : Prop := ∃ (es : List Entry) (rs : List (Value × Value × Value × Value)), linesAcc 0 [] (split 10 l) = .inr es ∧ es.length ≤ 30 ∧ w.ownsRow 0 71 4 v es.length (flat4 rs) ∧ AllV w rs es (split 10 l)
theorem ReadV.below {w w' : World} {v : Value} {l : List UInt8} (h : ReadV w v l) (hb : Below w.heap.size w w') : ReadV w' v l := by
  obtain ⟨es, rs, h1, h2, h3, h4⟩ := h; exact ⟨es, rs, h1, h2, own_below h3 hb, h4.below hb⟩
set_option maxHeartbeats 2000000 in
theorem read_short (s : ByteArray) (A : Nat → Addr) (m : Int) (w : World) (hv : Vars w A m) (hs : s.size ≤ 6000) :
    Calls Tryd.prog 8 #[.string s] w fun e w' => ∃ sv err, e = .returned (.tuple #[sv, err]) ∧ Hid (LErrIs w' A err (loadRes (bl s))) ∧ Below w.heap.size w w' ∧ Hid ((loadRes (bl s)).1 = 0 → ReadV w' sv (bl s)) := by
  have hL : Hid (∀ x, (match linesAcc 0 [] (split 10 (bl s)) with
    | .inl i => (5, i)
    | .inr es => match twiceAcc 0 [] (split 10 (bl s)) with
      | some i => (6, i)
      | none => if 30 < es.length ∨ 200 < sumTo es es.length then (7, 0) else (0, 0)) = x → loadRes (bl s) = x) := by
    intro x hx; unfold loadRes; rw [if_neg (by rw [bl_length]; omega)]; exact hx
  have hn6 : (split 10 (bl s)).length ≤ 6001 := by have := split_length 10 (bl s); rw [bl_length] at this; omega
  have hp6 : Hid (∀ i, i < (split 10 (bl s)).length → ((split 10 (bl s)).getD i []).length ≤ 6000) := fun i hi => by
    have := split_getD_le 10 (bl s) i hi; rw [bl_length] at this; omega
  go_enter Tryd.func8, Tryd.ntmps8
  go_wp2_with fail
  refine (split_any 10 s m _ hs hv.max).mono ?_
  rintro e w1 ⟨n, rfl, hn, hrow, hb1⟩
  have HN : Hid (n = (split 10 (bl s)).length) := hn
  have hn7 : n ≤ 6001 := by omega
  have hw1 : w.heap.size < w1.heap.size := hrow.1
  clear hn hn6
  have hv1 := hv.below hb1
  go_wp2_with fail
  refine (readLines_any w.heap.size (split 10 (bl s)) n A m _ HN hn7 hp6 hrow hv1).mono ?_
  rintro e w2 ⟨hb2, hcase⟩
  have hv2 := hv1.below hb2
  have hB2 : Below w.heap.size w w2 := hb1.trans (hb2.mono hb1.size)
  rcases hcase with ⟨i, fa, rfl, hfa, hl⟩ | ⟨v, es, rs, rfl, hown, hl, HAV⟩
  · obtain ⟨c1, c2⟩ := cells_of_heap hfa
    have HZ : Hid (loadRes (bl s) = (5, i)) := hid (hL.out (5, i) (by rw [hl.out]))
    have HR : Hid (LErrIs w2 A (.iface 53 (.pointer (some ⟨fa, 0, none⟩))) (loadRes (bl s))) := by
      rw [hL.out (5, i) (by rw [hl.out])]
      exact Or.inr (Or.inr (Or.inr (Or.inl ⟨i, fa, rfl, rfl, c1, c2⟩)))
    clear c1 c2 hfa
    go_wp2
    go_ret2
    exact ⟨_, _, rfl, HR, hB2, hid (fun h => by rw [HZ.out] at h; cases h)⟩
  · have hbd := linesAcc_bounds hl.out.2 (fun e he => by simp at he) (fun p hp => by
      have := split_piece_le 10 (bl s) p hp; rw [bl_length] at this; omega)
    have hrow2 := hrow.below hb2 hw1
    go_wp2_with fail
    refine (lookForTwice_any w.heap.size (split 10 (bl s)) n A m _ HN hn7 hp6 hrow2 hv2).mono ?_
    rintro e w3 ⟨hb3, hcase3⟩
    have hv3 := hv2.below hb3
    have hB3 : Below w.heap.size w w3 := hB2.trans (hb3.mono hB2.size)
    rcases hcase3 with ⟨i, fa, rfl, hfa, ht⟩ | ⟨rfl, ht⟩
    · obtain ⟨c1, c2⟩ := cells_of_heap hfa
      have HZ : Hid (loadRes (bl s) = (6, i)) := hid (hL.out (6, i) (by rw [hl.out.2]; simp only [ht.out]))
      have HR : Hid (LErrIs w3 A (.iface 53 (.pointer (some ⟨fa, 0, none⟩))) (loadRes (bl s))) := by
        rw [hL.out (6, i) (by rw [hl.out.2]; simp only [ht.out])]
        exact Or.inr (Or.inr (Or.inr (Or.inr ⟨i, fa, rfl, rfl, c1, c2⟩)))
      clear c1 c2 hfa
      go_wp2
      go_ret2
      exact ⟨_, _, rfl, HR, hB3, hid (fun h => by rw [HZ.out] at h; cases h)⟩
    · have hown3 := own_below hown hb3
      have hle : es.length ≤ 6001 := by have := hbd.1; simp at this; have := HN.out; omega
      have HC : Hid (∀ e ∈ es, e.count ≤ 6001) := hbd.2
      have hsum := sumTo_le es hbd.2 es.length
      have HM : Hid (loadRes (bl s) = if 30 < es.length ∨ 200 < sumTo es es.length then (7, 0) else (0, 0)) := hL.out _ (by rw [hl.out.2]; simp only [ht.out])
      have hR : Hid (RowsAre rs es) := hl.out.1
      have hg3 := hv3.sent 1 (by decide)
      obtain ⟨av, cp, rfl⟩ := own_shape hown
      have HLN : Hid (linesAcc 0 [] (split 10 (bl s)) = .inr es) := hl.out.2
      have HAV3 := hid (HAV.out.below hb3)
      clear hbd hown hl
      by_cases h30 : 30 < es.length
      · have hd : decide (30 < (es.length : Int)) = true := by simp; omega
        have HR : Hid (loadRes (bl s) = (7, 0)) := hid (by rw [HM.out, if_pos (Or.inl h30)])
        go_wp2
        go_region
        all_goals (try go_wp2)
        all_goals (go_ret2; exact ⟨_, _, rfl, (by rw [HR.out]; exact Or.inr (Or.inr (Or.inl ⟨rfl, rfl⟩))), belB, hid (fun h => by rw [HR.out] at h; cases h)⟩)
      · have hd : decide (30 < (es.length : Int)) = false := by simp; omega
        go_wp2_with fail
        refine (countSamples_any _ es rs _ hown3 hR HC hle).mono ?_
        rintro e w4 ⟨rfl, hb4⟩
        have hB4 : Below w.heap.size w w4 := hB3.trans (hb4.mono hB3.size)
        have hg4 := (hv3.below hb4).sent 1 (by decide)
        by_cases h200 : 200 < sumTo es es.length
        · have HR : Hid (loadRes (bl s) = (7, 0)) := hid (by rw [HM.out, if_pos (Or.inr h200)])
          have hd2 : decide (200 < (sumTo es es.length : Int)) = true := by simp; omega
          go_wp2
          go_region
          all_goals (try go_wp2)
          all_goals (go_ret2; exact ⟨_, _, rfl, (by rw [HR.out]; exact Or.inr (Or.inr (Or.inl ⟨rfl, rfl⟩))), belB, hid (fun h => by rw [HR.out] at h; cases h)⟩)
        · have HR : Hid (loadRes (bl s) = (0, 0)) := hid (by rw [HM.out, if_neg (by rintro (h | h) <;> omega)])
          have hd2 : decide (200 < (sumTo es es.length : Int)) = false := by simp; omega
          go_wp2
          go_ret2
          exact ⟨_, _, rfl, (by rw [HR.out]; exact Or.inl ⟨rfl, rfl⟩), hB4, hid (fun _ => ⟨es, rs, HLN.out, by omega, own_below hown3 hb4, HAV3.out.below hb4⟩)⟩
end Go.Proofs.YtmncdbepjhmkgaaDoor

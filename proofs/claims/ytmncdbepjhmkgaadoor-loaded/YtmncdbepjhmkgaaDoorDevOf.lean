/- What the program makes of a list of labels: the list again, and its text. -/
import Derived.Test.YtmncdbepjhmkgaaDoorDevLabels
import Derived.Test.YtmncdbepjhmkgaaDoorDevBld
namespace Go.Proofs.YtmncdbepjhmkgaaDoor
open Go.RowKit LS

def labelS (p : ByteArray × ByteArray) : List UInt8 := bl p.1 ++ 61 :: bl p.2
/-- labels as they are told, up to one of them. -/
def labelsS : List (ByteArray × ByteArray) → List UInt8
  | [] => []
  | [p] => labelS p
  | p :: l => labelS p ++ 44 :: labelsS l
theorem labelsS_snoc (l : List (ByteArray × ByteArray)) (p : ByteArray × ByteArray) : labelsS (l ++ [p]) = (if l.isEmpty then [] else labelsS l ++ [44]) ++ labelS p := by
  induction l with
  | nil => rfl
  | cons a l ih =>
    cases l with
    | nil => simp [labelsS]
    | cons c l =>
      have e : labelsS (a :: c :: l ++ [p]) = labelS a ++ 44 :: labelsS (c :: l ++ [p]) := rfl
      rw [e, ih]
      simp [labelsS]
theorem labelsS_len (l : List (ByteArray × ByteArray)) (h : ∀ p ∈ l, p.1.size ≤ 6000 ∧ p.2.size ≤ 6000) : (labelsS l).length ≤ 12002 * l.length := by
  induction l with
  | nil => simp [labelsS]
  | cons a l ih =>
    have h1 := h a (List.mem_cons_self ..)
    have h2 := ih (fun p hp => h p (List.mem_cons_of_mem _ hp))
    have h3 : (labelS a).length ≤ 12001 := by unfold labelS; rw [List.length_append, List.length_cons, bl_length, bl_length]; omega
    cases l with
    | nil => simp [labelsS]; omega
    | cons c l =>
      have e : labelsS (a :: c :: l) = labelS a ++ 44 :: labelsS (c :: l) := rfl
      rw [e, List.length_append, List.length_cons]
      simp at *
      omega

theorem flatL_one (l : List (ByteArray × ByteArray)) : ∀ u ∈ flatL l, u.oneCell' = true := by
  induction l with
  | nil => intro u hu; cases hu
  | cons a l ih =>
    intro u hu
    simp [flatL] at hu
    rcases hu with rfl | rfl | hu
    · rfl
    · rfl
    · exact ih u hu
set_option maxRecDepth 100000 in
set_option maxHeartbeats 1000000 in
theorem clone_any (a : Option Addr) (n cap : Nat) (w : World) (qs : List (ByteArray × ByteArray)) (h : LabelRow w 0 (.slice a n cap) n qs) :
    Calls Tryd.prog 57 #[.slice a n cap] w fun e w' => ∃ (a' : Option Addr) (cap' : Nat), e = .returned (.slice a' n cap') ∧ LabelRow w' 0 (.slice a' n cap') n qs ∧ Below w.heap.size w w' := by
  obtain ⟨i0, hi, hz0, hz1, hz2⟩ := info_parts Tryd.infoLabel
  obtain ⟨hown, hn, hz⟩ := h
  rcases hown.2 with ⟨hv, hn0⟩ | ⟨g, cp, cur, hv, _⟩
  · injection hv with h1 h2 h3
    subst h1; subst h2; subst h3
    have HZ : Hid (LabelRow w 0 (.slice none 0 0) 0 qs) := ⟨hown, hn, hz⟩
    have he : ∀ W : World, (binOp .eql 66 (.slice none 0 0) (.slice none 0 0)).run Tryd.prog W = .ok (.bool true) W := fun _ => rfl
    clear hown hz
    go_enter Tryd.func57, Tryd.ntmps57
    go_wp2
    go_ret
    exact ⟨none, 0, rfl, HZ.out, Below.refl _ _⟩
  · injection hv with h1 h2 h3
    subst h1; subst h3
    have HC : Hid (∀ j u, (flatL qs)[j]? = some u → w.cell? ((⟨g, 0, none⟩ : Addr).add j) = some u) := hown.cells rfl
    have hl : (flatL qs).length = n * 2 := hown.1
    have he : ∀ W : World, (binOp .eql 66 (.slice (some ⟨g, 0, none⟩) n cap) (.slice none 0 0)).run Tryd.prog W = .ok (.bool false) W := fun _ => rfl
    have HZ : Hid (∀ p ∈ qs, p.1.size ≤ 6000 ∧ p.2.size ≤ 6000) := hz
    clear hown hz
    go_enter Tryd.func57, Tryd.ntmps57
    go_wp2_with (at_builtin; refine wpList_append_own _ rfl (.tmp 5) (.tmp 6) 66 rfl w.heap.size 126 i0 (.agg #[.string ByteArray.empty, .string ByteArray.empty]) 2 32 Tryd.underlying66 hi hz0 hz1 hz2 rfl (by decide) _ 0 [] rfl (World.ownsRow_made w #[] 0 (Nat.le_refl _) (by unfold maxLen; omega) rfl) ⟨g, 0, none⟩ n _ (flatL qs) rfl hl ?c1 ?c2 ?c3 ?c4 ?c5 ?_)
    case c1 => intro j u hj; have := HC.out j u hj; rw [add_zero_block] at this; try rw [add_zero_block]
               rw [World.cell?_alloc_lt _ _ _ (World.block_lt_of_cell? _ _ this)]; exact this
    case c2 => exact flatL_one qs
    case c3 => unfold maxLen; omega
    case c4 => omega
    intro v' w3 hown3 hgrow _
    obtain ⟨av, cp3, hv3⟩ := own_shape hown3
    subst hv3
    have hb3 : Below w.heap.size w w3 := ((Below.refl _ _).alloc (Nat.le_refl _) _).grown hgrow (by simp) (fun q hq => by simp [Value.ownBlock] at hq; omega)
    go_wp2
    go_ret
    exact ⟨av, cp3, rfl, ⟨own_zeroL hown3, hn, HZ.out⟩, hb3⟩
theorem builder_below {T e : TypeId} {B b : Nat} {bs : List Value} {w w' : World} (h : Lib.IsBuilderF T e B b bs w) (hb : Below w.heap.size w w') : Lib.IsBuilderF T e B b bs w' := by
  have one : ∀ p, Lib.BuilderAtF T e B b p bs w → Lib.BuilderAtF T e B b p bs w' := by
    intro p h1
    have hlt := h1.lt
    obtain ⟨hB, v, hbk, hown, hne⟩ := h1
    refine ⟨hB, v, (hb.block b hlt).trans hbk, ⟨hown.1, ?_⟩, hne⟩
    rcases hown.2 with hn | ⟨g, cap, cur, fz, hv, hbg, hg, rest⟩
    · exact .inl hn
    · exact .inr ⟨g, cap, cur, fz, hv, hbg, (hb.block g (Array.getElem?_eq_some_iff.1 hg).1).trans hg, rest⟩
  exact h.elim (fun x => .inl (one _ x)) (fun x => .inr (one _ x))
theorem LabelRow.below {w w' : World} {base : Nat} {v : Value} {n : Nat} {qs : List (ByteArray × ByteArray)} (h : LabelRow w base v n qs) (hb : Below w.heap.size w w') : LabelRow w' base v n qs := ⟨own_below h.1 hb, h.2⟩
theorem own_same' {w w' : World} {base : Nat} {e : TypeId} {size : Nat} {v : Value} {n : Nat} {xs : List Value} (h : w.ownsRow base e size v n xs) (hb : ∀ k, v.ownBlock = some k → w'.heap[k]? = w.heap[k]?) : w'.ownsRow base e size v n xs := by
  refine ⟨h.1, ?_⟩
  rcases h.2 with h2 | ⟨g, cap, cur, rfl, hg, hh, r⟩
  · exact Or.inl h2
  · exact Or.inr ⟨g, cap, cur, rfl, hg, (hb g rfl).trans hh, r⟩
theorem own_others {w w' : World} {base : Nat} {e u : TypeId} {size : Nat} {v : Value} {n : Nat} {xs : List Value} {b : Nat} (h : w.ownsRow base e size v n xs) (hk : Lib.OthersKept u (some b) w w') (he : e ≠ u) (hb : v.ownBlock ≠ some b) : w'.ownsRow base e size v n xs := by
  refine ⟨h.1, ?_⟩
  rcases h.2 with h2 | ⟨g, cap, cur, rfl, hg, hh, r⟩
  · exact Or.inl h2
  · exact Or.inr ⟨g, cap, cur, rfl, hg, hk g _ hh (fun x => hb x) (fun c fz x => by injection x with _ x2; exact he x2), r⟩
theorem builder_ne {T e t : TypeId} {B b : Nat} {bs : List Value} {w : World} (h : Lib.IsBuilderF T e B b bs w) {base size n : Nat} {v : Value} {xs : List Value} (hown : w.ownsRow base t size v n xs) (ht : T ≠ t) : v.ownBlock ≠ some b := by
  rcases h with ⟨_, _, hb, _⟩ | ⟨_, _, hb, _⟩ <;> exact fun x => own_ne_block hown hb ht x.symm
theorem two_cells {w : World} {a : Nat} {x y : Value} {t : TypeId} {fr : Nat × Nat} (h : w.heap[a]? = some (.cells #[x, y] t fr)) : w.cell? ⟨a, 0, none⟩ = some x ∧ w.cell? ⟨a, 1, none⟩ = some y := by
  constructor <;> simp [World.cell?, h]
theorem bl_appD (a b : ByteArray) : bl (a ++ b) = bl a ++ bl b := by simp [bl]
set_option maxRecDepth 100000 in
set_option maxHeartbeats 600000 in
theorem of_any (a : Option Addr) (n cap : Nat) (w : World) (qs : List (ByteArray × ByteArray)) (h : LabelRow w 0 (.slice a n cap) n qs) :
    Calls Tryd.prog 43 #[.slice a n cap] w fun e w' => ∃ (a' : Option Addr) (cap' : Nat), e = .returned (.agg #[.slice a' n cap', .string ⟨(labelsS qs).toArray⟩]) ∧ LabelRow w' 0 (.slice a' n cap') n qs ∧ Below w.heap.size w w' := by
  have hlen : qs.length = n := by have := h.1.1; rw [flatL_length] at this; omega
  have HR : Hid (LabelRow w 0 (.slice a n cap) n qs) := h
  have hn6 : n ≤ 6001 := h.2.1
  have HLS : Hid (∀ k, (labelsS (qs.take k)).length ≤ 12002 * 6001) := hid (fun k => by
    have := labelsS_len (qs.take k) (fun p hp => h.2.2 p (List.mem_of_mem_take hp))
    rw [List.length_take] at this
    have h2 : min k qs.length ≤ 6001 := by omega
    exact Nat.le_trans this (Nat.mul_le_mul_left _ h2))
  clear h
  go_enter Tryd.func43, Tryd.ntmps43
  go_wp2
  go_loopw [8] (fun i wr => ∃ k : Nat, k ≤ n ∧ i = .int .i64 k ∧ Hid (Lib.IsBuilderF 136 5 (w.heap.size + 1) (w.heap.size + 1) (Lib.byteCells (labelsS (qs.take k))) wr) ∧ Hid (Below (w.heap.size + 1) (w.alloc (.cells #[.slice none 0 0, .string ⟨#[]⟩] 68)) wr)) (fun i _ => n - (intOf i).toNat)
  case atStart =>
    refine ⟨0, Nat.zero_le _, rfl, ?_, (Below.refl _ _).alloc (by simp) _⟩
    have := Lib.IsBuilderF.of (Lib.fresh_isBuilder 136 5 (w.alloc (.cells #[.slice none 0 0, .string ⟨#[]⟩] 68)))
    rw [Go.Deep.nblk_alloc] at this
    exact this
  case round =>
    obtain ⟨k, hk, rfl, HI, HB⟩ := hrel
    have hwr : w.heap.size + 1 ≤ wr.heap.size := by have := HB.out.size; rw [Go.Deep.nblk_alloc] at this; exact this
    have HBw : Hid (Below w.heap.size w wr) := hid (((Below.refl w.heap.size w).alloc (Nat.le_refl _) _).trans (HB.out.mono (by omega)))
    by_cases hlt : k < n
    · have hg : ∃ g, a = some ⟨g, 0, none⟩ := by
        obtain ⟨g, cp, hv⟩ := own_some HR.out.1 (by omega)
        injection hv with hv1; exact ⟨g, hv1⟩
      obtain ⟨g, rfl⟩ := hg
      have hkq : k < qs.length := by omega
      obtain ⟨f1, f2⟩ := flatL_get qs k
      rw [List.getElem?_eq_getElem hkq] at f1 f2
      have hgl := own_lt HR.out.1
      have c1 : wr.cell? ⟨g, k * 2, none⟩ = some (.string qs[k].1) := (HBw.out.cell (p := ⟨g, k * 2, none⟩) hgl).trans (own_cell HR.out.1 _ _ f1)
      have c2 : wr.cell? ⟨g, k * 2 + 1, none⟩ = some (.string qs[k].2) := (HBw.out.cell (p := ⟨g, k * 2 + 1, none⟩) hgl).trans (own_cell HR.out.1 _ _ f2)
      have hz := HR.out.2.2 qs[k] (List.getElem_mem hkq)
      have HT : Hid (labelsS (qs.take (k + 1)) = (if (qs.take k).isEmpty then [] else labelsS (qs.take k) ++ [44]) ++ labelS qs[k]) := hid (by
        rw [List.take_succ_eq_append_getElem hkq]; exact labelsS_snoc _ _)
      have hls := HLS.out k
      generalize qs[k] = p at *
      obtain ⟨x, y⟩ := p
      clear f1 f2
      have hzx : x.size ≤ 6000 := hz.1
      have hzy : y.size ≤ 6000 := hz.2
      clear hz
      have hnew : ∀ t, (wr.alloc (.cells #[.string x, .string y] t)).heap[wr.heap.size]? = some (.cells #[.string x, .string y] t (0, 0)) := fun t => Go.Deep.blk_alloc_new _ _
      have hl1 : (Lib.byteCells (labelsS (qs.take k))).length + (⟨#[44]⟩ : ByteArray).size ≤ 140737488355328 := by rw [Lib.byteCells_length]; show _ + 1 ≤ _; omega
      have hl2 : (Lib.byteCells (labelsS (qs.take k))).length + (x ++ ⟨#[61]⟩ ++ y).size ≤ 140737488355328 := by
        rw [Lib.byteCells_length, ByteArray.size_append, ByteArray.size_append]; show _ + (_ + 1 + _) ≤ _; omega
      have hl3 : (Lib.byteCells (labelsS (qs.take k) ++ [44])).length + (x ++ ⟨#[61]⟩ ++ y).size ≤ 140737488355328 := by
        rw [Lib.byteCells_length, List.length_append, ByteArray.size_append, ByteArray.size_append]; show _ + 1 + (_ + 1 + _) ≤ _; omega
      have hb2 : w.heap.size + 1 < wr.heap.size := by
        rcases HI.out with h | h <;> exact h.lt
      have hb1 : ∀ o, w.heap.size + 1 ≤ (wr.alloc o).heap.size := fun o => by rw [Go.Deep.nblk_alloc]; omega
      by_cases hk0 : k = 0
      · have HT2 : Hid (labelsS (qs.take (k + 1)) = labelsS (qs.take k) ++ labelS (x, y)) := hid (by rw [HT.out, hk0]; rfl)
        have hdec : decide (0 < (k : Int)) = false := decide_eq_false (by omega)
        clear HT
        have c1' : wr.cell? ⟨g, 0, none⟩ = some (.string x) := by rw [hk0] at c1; simpa using c1
        have c2' : wr.cell? ⟨g, 1, none⟩ = some (.string y) := by rw [hk0] at c2; simpa using c2
        go_wp2_with fail
        clear hdec
        refine (bld_write (w.heap.size + 1) (w.heap.size + 1) _ _ _ (Lib.IsBuilderF.alloc HI.out _) hl2 (hb1 _)).mono ?_
        rintro e W2 ⟨rfl, h2, b2, k2⟩
        have HI2 : Hid (Lib.IsBuilderF 136 5 (w.heap.size + 1) (w.heap.size + 1) (Lib.byteCells (labelsS (qs.take (k + 1)))) W2) := hid (by
          rw [HT2.out, Lib.byteCells_append]; refine Or.inr ?_
          have e : Lib.byteCells (labelS (x, y)) = Lib.strCells (x ++ ⟨#[61]⟩ ++ y) := by
            rw [Lib.strCells_eq]; show _ = Lib.byteCells (bl _); rw [bl_appD, bl_appD, List.append_assoc]; rfl
          rw [e]; exact h2)
        have HB2 : Hid (Below (w.heap.size + 1) (w.alloc (.cells #[.slice none 0 0, .string ⟨#[]⟩] 68)) W2) := (HB.out.alloc hwr _).trans b2
        clear h2 b2 k2
        go_wp2
        go_roundw
        case rel => exact ⟨k + 1, by omega, by subst hk0; rfl, HI2, HB2⟩
        case measure => simp [intOf]; omega
      · have HT2 : Hid (labelsS (qs.take (k + 1)) = labelsS (qs.take k) ++ [44] ++ labelS (x, y)) := hid (by
          rw [HT.out, if_neg (by rw [List.isEmpty_iff]; intro e; have := congrArg List.length e; rw [List.length_take, List.length_nil] at this; omega)])
        have hdec : decide (0 < (k : Int)) = true := decide_eq_true (by omega)
        have hk2 : 0 < k := by omega
        clear HT
        go_wp2_with fail
        clear hk0 hdec hk2
        refine (bld_write (w.heap.size + 1) (w.heap.size + 1) _ _ _ (Lib.IsBuilderF.alloc HI.out _) hl1 (hb1 _)).mono ?_
        rintro e W1 ⟨rfl, h1, b1, k1⟩
        obtain ⟨o0, o1⟩ := two_cells (k1 wr.heap.size _ (hnew _) (by simp; omega) (by intro c fz h; simp at h))
        have hW1 : w.heap.size + 1 ≤ W1.heap.size := by have := b1.size; rw [Go.Deep.nblk_alloc] at this; omega
        have HI1 : Hid (Lib.IsBuilderF 136 5 (w.heap.size + 1) (w.heap.size + 1) (Lib.byteCells (labelsS (qs.take k) ++ [44])) W1) := hid (by
          rw [Lib.byteCells_append]; exact Or.inr h1)
        have HB1 : Hid (Below (w.heap.size + 1) (w.alloc (.cells #[.slice none 0 0, .string ⟨#[]⟩] 68)) W1) := (HB.out.alloc hwr _).trans b1
        clear h1 b1 k1
        go_wp2_with fail
        refine (bld_write (w.heap.size + 1) (w.heap.size + 1) _ _ _ HI1.out hl3 hW1).mono ?_
        rintro e W2 ⟨rfl, h2, b2, k2⟩
        have HI2 : Hid (Lib.IsBuilderF 136 5 (w.heap.size + 1) (w.heap.size + 1) (Lib.byteCells (labelsS (qs.take (k + 1)))) W2) := hid (by
          rw [HT2.out, Lib.byteCells_append]; refine Or.inr ?_
          have e : Lib.byteCells (labelS (x, y)) = Lib.strCells (x ++ ⟨#[61]⟩ ++ y) := by
            rw [Lib.strCells_eq]; show _ = Lib.byteCells (bl _); rw [bl_appD, bl_appD, List.append_assoc]; rfl
          rw [e]; exact h2)
        have HB2 : Hid (Below (w.heap.size + 1) (w.alloc (.cells #[.slice none 0 0, .string ⟨#[]⟩] 68)) W2) := HB1.out.trans b2
        clear h2 b2 k2 o0 o1
        go_wp2
        go_roundw
        case rel => exact ⟨k + 1, by omega, by go_num, HI2, HB2⟩
        case measure => simp [intOf]; omega
    · obtain rfl : k = n := by omega
      have HI2 : Hid (Lib.IsBuilderF 136 5 (w.heap.size + 1) (w.heap.size + 1) (Lib.byteCells (labelsS qs)) wr) := hid (by
        have := HI.out; rwa [List.take_of_length_le (by omega)] at this)
      clear HI
      go_wp2_with fail
      refine (clone_any _ _ _ wr qs (LabelRow.below HR.out HBw.out)).mono ?_
      rintro e w2 ⟨a', cap', rfl, hr2, hb2⟩
      have HR2 : Hid (LabelRow w2 0 (.slice a' k cap') k qs) := hr2
      have HI3 : Hid (Lib.IsBuilderF 136 5 (w.heap.size + 1) (w.heap.size + 1) (Lib.byteCells (labelsS qs)) w2) := builder_below HI2.out hb2
      have HB3 : Hid (Below (w.heap.size + 1) (w.alloc (.cells #[.slice none 0 0, .string ⟨#[]⟩] 68)) w2) := HB.out.trans (hb2.mono hwr)
      have hw2 : w.heap.size + 1 ≤ w2.heap.size := Nat.le_trans hwr hb2.size
      clear hr2 hb2
      go_wp2_with fail
      refine (Tryd.Builder_String_any_k (w.heap.size + 1) (w.heap.size + 1) (labelsS qs) _ HI3.out hw2).mono ?_
      rintro e w3 ⟨rfl, _, b3, k3⟩
      have hbox : w3.heap[w.heap.size]? = some (.cells #[.slice none 0 0, .string ⟨#[]⟩] 68 (0, 0)) := ((HB3.out.trans b3).block _ (by omega)).trans (Go.Deep.blk_alloc_new _ _)
      obtain ⟨k0, k1⟩ := two_cells hbox
      have g0 : w3.frozen? ⟨w.heap.size, 0, none⟩ = false := by simp [World.frozen?, hbox]
      have g1 : w3.frozen? ⟨w.heap.size, 1, none⟩ = false := by simp [World.frozen?, hbox]
      have ho3 : w3.ownsRow 0 126 2 (.slice a' k cap') k (flatL qs) := own_others HR2.out.1 k3 (by decide) (builder_ne HI3.out HR2.out.1 (by decide))
      have HO3 : Hid (∀ x y, ((w3.setCell ⟨w.heap.size, 0, none⟩ x).setCell ⟨w.heap.size, 1, none⟩ y).ownsRow 0 126 2 (.slice a' k cap') k (flatL qs)) := fun x y => own_same' ho3 (fun j hj => by
        have hne : j ≠ w.heap.size := by rintro rfl; exact own_ne_block ho3 hbox (by decide) hj.symm
        rw [Go.Deep.blk_setCell_other _ _ _ _ hne, Go.Deep.blk_setCell_other _ _ _ _ hne])
      have HBw3 : Hid (Below w.heap.size w w3) := ((Below.refl w.heap.size w).alloc (Nat.le_refl _) _).trans ((HB3.out.trans b3).mono (by omega))
      clear ho3 hbox b3 k3
      go_wp2
      exact bodyPost_ret (v := .agg #[.slice a' k cap', .string ⟨(labelsS qs).toArray⟩]) (by simp [results, Tryd.results43, go_sem, k0, k1]) rfl ⟨a', cap', rfl, ⟨HO3.out _ _, HR2.out.2⟩, (HBw3.out.setCell (p := ⟨w.heap.size, 0, none⟩) (Nat.le_refl _) _).setCell (p := ⟨w.heap.size, 1, none⟩) (Nat.le_refl _) _⟩
end Go.Proofs.YtmncdbepjhmkgaaDoor

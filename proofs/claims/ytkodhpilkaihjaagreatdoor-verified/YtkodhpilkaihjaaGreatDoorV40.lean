/- Parts. -/
import Derived.Test.YtkodhpilkaihjaaGreatDoorV39
namespace Go.Proofs.YtkodhpilkaihjaaGreatDoor
open Go.RowKit LS
theorem numAt_ok {l : List UInt8} {p n : Nat} (h : ¬ l.length < p + n) : numAt l p n = .ok (back (sub l p n), p + n) := by
  unfold numAt textN; rw [if_neg h]
theorem numAt_no {l : List UInt8} {p n : Nat} (h : l.length < p + n) : numAt l p n = .error (9, l.length) := by
  unfold numAt textN; rw [if_pos h]
theorem const_no {l : List UInt8} {p : Nat} (h : l.length < p + 4) : constAt l p = .error (9, l.length) := by
  unfold constAt; rw [numAt_no h]
theorem const_bad {l : List UInt8} {p : Nat} {v : Int} (h : ¬ l.length < p + 4) (hv : v = signed (back (sub l p 4))) (hb : v < -1000000000 ∨ 1000000000 < v) : constAt l p = .error (9, p) := by
  unfold constAt; rw [numAt_ok h]; simp only; rw [← hv, if_pos hb]
theorem const_ok {l : List UInt8} {p : Nat} {v : Int} (h : ¬ l.length < p + 4) (hv : v = signed (back (sub l p 4))) (hb : ¬ (v < -1000000000 ∨ 1000000000 < v)) : constAt l p = .ok (v, p + 4) := by
  unfold constAt; rw [numAt_ok h]; simp only; rw [← hv, if_neg hb]
theorem text_no {l : List UInt8} {p : Nat} (h : l.length < p + 2) : textAt l p = .error (9, l.length) := by
  unfold textAt; rw [numAt_no h]
theorem text_cut {l : List UInt8} {p n : Nat} (h : ¬ l.length < p + 2) (hn : n = back (sub l p 2)) (h2 : l.length < p + 2 + n) : textAt l p = .error (9, l.length) := by
  unfold textAt; rw [numAt_ok h]; simp only; rw [← hn]; unfold textN; rw [if_pos h2]
theorem text_ok {l : List UInt8} {p n : Nat} (h : ¬ l.length < p + 2) (hn : n = back (sub l p 2)) (h2 : ¬ l.length < p + 2 + n) : textAt l p = .ok (sub l (p + 2) n, p + 2 + n) := by
  unfold textAt; rw [numAt_ok h]; simp only; rw [← hn]; unfold textN; rw [if_neg h2]
theorem pick_text {l : List UInt8} {p : Nat} {e : Nat × Nat} (h : textAt l p = .error e) : pickAt l p = .error e := by unfold LS.pickAt; rw [h]
theorem group_text {l : List UInt8} {p : Nat} {e : Nat × Nat} (h : textAt l p = .error e) : groupAt l p = .error e := by unfold LS.groupAt; rw [h]
theorem pick_non {l : List UInt8} {p q : Nat} {t : List UInt8} (h : textAt l p = .ok (t, q)) (hp : pickQ t = none) : pickAt l p = .error (9, p) := by unfold LS.pickAt; rw [h]; simp only; rw [hp]
theorem pick_som {l : List UInt8} {p q : Nat} {t : List UInt8} {x : Nd × Nat} (h : textAt l p = .ok (t, q)) (hp : pickQ t = some x) : pickAt l p = .ok (x, q) := by unfold LS.pickAt; rw [h]; simp only; rw [hp]
theorem group_non {l : List UInt8} {p q : Nat} {t : List UInt8} (h : textAt l p = .ok (t, q)) (hp : groupQ t = none) : groupAt l p = .error (9, p) := by unfold LS.groupAt; rw [h]; simp only; rw [hp]
theorem group_som {l : List UInt8} {p q : Nat} {t : List UInt8} {x : List (List UInt8)} (h : textAt l p = .ok (t, q)) (hp : groupQ t = some x) : groupAt l p = .ok (x, q) := by unfold LS.groupAt; rw [h]; simp only; rw [hp]
def itemsQ (l : List UInt8) (n1 p : Nat) (i : Nat) : Except (Nat × Nat) (List (Nd × Nat) × List (List (List UInt8)) × Nat) := match many (LS.pickAt l) p (min i n1) with
  | .error e => .error e
  | .ok ps => match many (groupAt l) ps.2 (i - n1) with
    | .error e => .error e
    | .ok gs => .ok (ps.1, gs.1, gs.2)
theorem items_zero (l : List UInt8) (n1 p : Nat) : itemsQ l n1 p 0 = .ok ([], [], p) := by
  unfold itemsQ; rw [Nat.zero_min, Nat.zero_sub]; rfl
theorem items_pick {l : List UInt8} {n1 p i q r : Nat} {ps : List (Nd × Nat)} {gs : List (List (List UInt8))} {y : Nd × Nat} (hi : i < n1) (h : itemsQ l n1 p i = .ok (ps, gs, q)) (hy : LS.pickAt l q = .ok (y, r)) : itemsQ l n1 p (i + 1) = .ok (ps ++ [y], gs, r) := by
  unfold itemsQ at h ⊢
  rw [Nat.min_eq_left (by omega), Nat.sub_eq_zero_of_le (by omega)] at h ⊢
  cases hm : many (LS.pickAt l) p i with
  | error e => rw [hm] at h; cases h
  | ok x =>
    rw [hm] at h
    simp only [many] at h
    injection h with h; injection h with h1 h2; injection h2 with h2 h3
    obtain ⟨xs, q'⟩ := x
    simp only at h1 h2 h3
    subst h1 h2 h3
    rw [many_step_ok hm hy]; rfl
theorem items_pick_err {l : List UInt8} {n1 p i q n2 : Nat} {ps : List (Nd × Nat)} {gs : List (List (List UInt8))} {e : Nat × Nat} (hi : i < n1) (h : itemsQ l n1 p i = .ok (ps, gs, q)) (hy : LS.pickAt l q = .error e) : itemsQ l n1 p (n1 + n2) = .error e := by
  unfold itemsQ at h ⊢
  rw [Nat.min_eq_left (by omega), Nat.sub_eq_zero_of_le (by omega)] at h
  rw [Nat.min_eq_right (by omega)]
  cases hm : many (LS.pickAt l) p i with
  | error e => rw [hm] at h; cases h
  | ok x =>
    rw [hm] at h
    simp only [many] at h
    injection h with h; injection h with h1 h2; injection h2 with h2 h3
    obtain ⟨xs, q'⟩ := x
    simp only at h1 h2 h3
    subst h1 h2 h3
    rw [many_step_err hm hy n1 hi]
theorem items_group {l : List UInt8} {n1 p i q r : Nat} {ps : List (Nd × Nat)} {gs : List (List (List UInt8))} {y : List (List UInt8)} (hi : ¬ i < n1) (h : itemsQ l n1 p i = .ok (ps, gs, q)) (hy : groupAt l q = .ok (y, r)) : itemsQ l n1 p (i + 1) = .ok (ps, gs ++ [y], r) := by
  unfold itemsQ at h ⊢
  rw [Nat.min_eq_right (by omega)] at h ⊢
  rw [show i + 1 - n1 = i - n1 + 1 by omega]
  cases hm : many (LS.pickAt l) p n1 with
  | error e => rw [hm] at h; cases h
  | ok x =>
    rw [hm] at h
    simp only at h ⊢
    cases hg : many (groupAt l) x.2 (i - n1) with
    | error e => rw [hg] at h; cases h
    | ok z =>
      rw [hg] at h
      simp only at h
      injection h with h; injection h with h1 h2; injection h2 with h2 h3
      obtain ⟨zs, q'⟩ := z
      simp only at h1 h2 h3
      subst h1 h2 h3
      rw [many_step_ok hg hy]
theorem items_group_err {l : List UInt8} {n1 p i q n2 : Nat} {ps : List (Nd × Nat)} {gs : List (List (List UInt8))} {e : Nat × Nat} (hi : ¬ i < n1) (hi2 : i < n1 + n2) (h : itemsQ l n1 p i = .ok (ps, gs, q)) (hy : groupAt l q = .error e) : itemsQ l n1 p (n1 + n2) = .error e := by
  unfold itemsQ at h ⊢
  rw [Nat.min_eq_right (by omega)] at h ⊢
  rw [show n1 + n2 - n1 = n2 by omega]
  cases hm : many (LS.pickAt l) p n1 with
  | error e => rw [hm] at h; cases h
  | ok x =>
    rw [hm] at h
    simp only at h ⊢
    cases hg : many (groupAt l) x.2 (i - n1) with
    | error e => rw [hg] at h; cases h
    | ok z =>
      rw [hg] at h
      simp only at h
      injection h with h; injection h with h1 h2; injection h2 with h2 h3
      obtain ⟨zs, q'⟩ := z
      simp only at h1 h2 h3
      subst h1 h2 h3
      rw [many_step_err hg hy n2 (by omega)]
theorem decode_items {l : List UInt8} {n0 n1 n2 n3 : Nat} {cs : List Int} {p : Nat} (hh : headQ l = .ok (n0, n1, n2, n3)) (hc : many (constAt l) 9 n0 = .ok (cs, p)) :
    decodeQ l = match itemsQ l n1 p (n1 + n2) with
      | .error e => .error e
      | .ok x => restQ l cs x.1 x.2.1 x.2.2 n3 := by
  unfold decodeQ itemsQ restQ
  rw [hh]
  simp only
  rw [hc, Nat.min_eq_right (by omega), show n1 + n2 - n1 = n2 by omega]
  simp only
  cases many (LS.pickAt l) p n1 with
  | error e => rfl
  | ok ps =>
    simp only
    cases many (groupAt l) ps.2 n2 with
    | error e => rfl
    | ok gs => rfl
theorem decode_const_err {l : List UInt8} {n0 n1 n2 n3 : Nat} {e : Nat × Nat} (hh : headQ l = .ok (n0, n1, n2, n3)) (hc : many (constAt l) 9 n0 = .error e) : decodeQ l = .error e := by
  unfold decodeQ; rw [hh]; simp only; rw [hc]
theorem decode_head_err {l : List UInt8} {e : Nat × Nat} (hh : headQ l = .error e) : decodeQ l = .error e := by unfold decodeQ; rw [hh]
theorem textAt_le {l : List UInt8} {p n : Nat} (hn : n = back (sub l p 2)) : n ≤ 65535 := by
  have := back_lt_of (l := sub l p 2) (n := 2) (by unfold sub; rw [List.length_take]; omega)
  rw [← hn] at this
  omega
theorem Tryz.infoI64R : (Tryz.prog.info? 2).map (fun i => (i.zero, i.size, i.bytes)) = some (some (.int .i64 0), 1, 8) := by kernel_rfl
theorem Tryz.infoPartR : (Tryz.prog.info? 92).map (fun i => (i.zero, i.size, i.bytes)) = some (some (.agg #[.int .i64 0, .int .i64 0, .int .i64 0, .string ⟨#[]⟩, .slice none 0 0, .slice none 0 0, .int .i64 0, .int .i64 0]), 8, 104) := by kernel_rfl
theorem Tryz.infoStrsR : (Tryz.prog.info? 90).map (fun i => (i.zero, i.size, i.bytes)) = some (some (.slice none 0 0), 1, 24) := by kernel_rfl
structure DecA (w0 wr : World) (cb nb : Nat) (ns : List Value) (xs : List Int) (ca : Option Addr) (n cc : Nat) : Prop where
  box : BAt wr cb [.slice ca n cc, .slice none 0 0, .slice none 0 0, .slice none 0 0] 101
  nbx : BAt wr nb ns 2
  own : wr.ownsRow (nb + 1) 2 1 (.slice ca n cc) n (xs.map (.int .i64))
  bel : Below w0.heap.size w0 wr
  lo : w0.heap.size ≤ cb
  lo2 : w0.heap.size ≤ nb
theorem DecA.below {w0 wr w1 : World} {cb nb : Nat} {ns : List Value} {xs : List Int} {ca : Option Addr} {n cc : Nat} (h : DecA w0 wr cb nb ns xs ca n cc) (hb : Below wr.heap.size wr w1) : DecA w0 w1 cb nb ns xs ca n cc :=
  ⟨h.box.below hb, h.nbx.below hb, own_below h.own hb, h.bel.trans (hb.mono h.bel.size), h.lo, h.lo2⟩
theorem below_ownH {w0 w w' : World} {v : Value} {base : Nat} {e : TypeId} {sz n : Nat} {xs : List Value} (h : Below w0.heap.size w0 w) (hle : w0.heap.size ≤ base) (ho : w.ownsRow base e sz v n xs) (hg : w.grownBy w' v.ownBlock) : Below w0.heap.size w0 w' := by
  refine ⟨hg.os.trans h.os, hg.tape.trans h.tape, hg.output.trans h.output, Nat.le_trans h.size hg.size, ?_⟩
  intro j hj
  rw [hg.block j (Nat.lt_of_lt_of_le hj h.size) (fun e => by have := (ho.lt j e.symm).1; omega), h.block j hj]
theorem DecA.app {w0 wr w1 : World} {cb nb : Nat} {ns : List Value} {xs : List Int} {ca : Option Addr} {n cc : Nat} (h : DecA w0 wr cb nb ns xs ca n cc) {ga nc : Nat} {v : Int}
    (hg : wr.grownBy w1 (Value.slice ca n cc).ownBlock) (ho : w1.ownsRow (nb + 1) 2 1 (.slice (some ⟨ga, 0, none⟩) (n + 1) nc) (n + 1) (xs.map (.int .i64) ++ [.int .i64 v])) :
    BAt w1 cb [.slice ca n cc, .slice none 0 0, .slice none 0 0, .slice none 0 0] 101 ∧ DecA w0 (w1.setCell ⟨cb, 0, none⟩ (.slice (some ⟨ga, 0, none⟩) (n + 1) nc)) cb nb ns (xs ++ [v]) (some ⟨ga, 0, none⟩) (n + 1) nc := by
  have hb1 : BAt w1 cb [.slice ca n cc, .slice none 0 0, .slice none 0 0, .slice none 0 0] 101 := h.box.ownGrownR h.own hg (by decide)
  have hn1 : BAt w1 nb ns 2 := h.nbx.grown hg (fun e => by have := (h.own.lt nb e.symm).1; omega)
  have hne : nb ≠ cb := fun e => by
    have h1 := hn1
    rw [e] at h1
    have h2 := h1.symm.trans hb1
    injection h2 with h2
    injection h2 with _ h3
    exact absurd h3 (by decide)
  refine ⟨hb1, hb1.setkM 0 _, hn1.other hne _, ?_, Below.setCell (p := ⟨cb, 0, none⟩) (below_ownH h.bel (Nat.le_succ_of_le h.lo2) h.own hg) h.lo _, h.lo, h.lo2⟩
  rw [List.map_append]
  exact own_same ho (fun k hk => Go.Deep.blk_setCell_other _ _ _ _ (by
    rintro rfl
    exact own_ne_block ho hb1 (by decide) hk.symm))
structure DecB (w0 wr : World) (cb nb : Nat) (ns : List Value) (cs : List Int) (ps : List (Nd × Nat)) (gs : List (List (List UInt8))) (cv : Value) (pa : Option Addr) (pn pc : Nat) (ga : Option Addr) (gn gc : Nat) (l : List PV) (g : List (Option Addr × Nat × Nat)) : Prop where
  base : RBase wr ⟨cs, ps, gs, []⟩ cv (.slice pa pn pc) (.slice ga gn gc) l g
  pown : wr.ownsRow w0.heap.size 92 8 (.slice pa pn pc) pn (flatPV l)
  gown : wr.ownsRow w0.heap.size 90 1 (.slice ga gn gc) gn (g.map fun y => .slice y.1 y.2.1 y.2.2)
  box : BAt wr cb [cv, .slice pa pn pc, .slice ga gn gc, .slice none 0 0] 101
  nbx : BAt wr nb ns 2
  bel : Below w0.heap.size w0 wr
  lo : w0.heap.size ≤ cb
  lp : ps.length = pn
  lg : gs.length = gn
theorem RBase.below {w w' : World} {c : CodeQ} {cv pv gv : Value} {l : List PV} {g : List (Option Addr × Nat × Nat)} (h : RBase w c cv pv gv l g) (hb : Below w.heap.size w w') : RBase w' c cv pv gv l g := h.keep (RowKeep.below _ hb)
theorem DecB.below {w0 wr w1 : World} {cb nb : Nat} {ns : List Value} {cs : List Int} {ps : List (Nd × Nat)} {gs : List (List (List UInt8))} {cv : Value} {pa : Option Addr} {pn pc : Nat} {ga : Option Addr} {gn gc : Nat} {l : List PV} {g : List (Option Addr × Nat × Nat)} (h : DecB w0 wr cb nb ns cs ps gs cv pa pn pc ga gn gc l g) (hb : Below wr.heap.size wr w1) : DecB w0 w1 cb nb ns cs ps gs cv pa pn pc ga gn gc l g :=
  ⟨h.base.below hb, own_below h.pown hb, own_below h.gown hb, h.box.below hb, h.nbx.below hb, h.bel.trans (hb.mono h.bel.size), h.lo, h.lp, h.lg⟩
theorem flatPV_app (l m : List PV) : flatPV (l ++ m) = flatPV l ++ flatPV m := by
  induction l with
  | nil => rfl
  | cons a l ih => show a.cells ++ flatPV (l ++ m) = a.cells ++ flatPV l ++ flatPV m; rw [ih, List.append_assoc]
theorem bat_ne {w : World} {a b : Nat} {c d : List Value} {t u : TypeId} (h : BAt w a c t) (h' : BAt w b d u) (ht : t ≠ u) : a ≠ b := fun e => by
  rw [e] at h
  have h2 := h.symm.trans h'
  injection h2 with h2
  injection h2 with _ h3
  exact ht h3
theorem snoc_get {α : Type} {l : List α} {x y : α} {i : Nat} (h : (l ++ [x])[i]? = some y) : l[i]? = some y ∨ (i = l.length ∧ y = x) := by
  by_cases hi : i < l.length
  · rw [List.getElem?_append_left hi] at h; exact Or.inl h
  · rw [List.getElem?_append_right (by omega)] at h
    have : i - l.length = 0 := by
      cases hh : i - l.length with
      | zero => rfl
      | succ k => rw [hh] at h; simp at h
    rw [this] at h
    simp at h
    exact Or.inr ⟨by omega, h.symm⟩
theorem DecB.appP {w0 wr w1 : World} {cb nb : Nat} {ns : List Value} {cs : List Int} {ps : List (Nd × Nat)} {gs : List (List (List UInt8))} {cv : Value} {pa : Option Addr} {pn pc : Nat} {ga : Option Addr} {gn gc : Nat} {l : List PV} {g : List (Option Addr × Nat × Nat)} (h : DecB w0 wr cb nb ns cs ps gs cv pa pn pc ga gn gc l g) {x : Nd × Nat} {p : PV} {na nc : Nat}
    (hx : PkOk wr x p) (hg : wr.grownBy w1 (Value.slice pa pn pc).ownBlock) (ho : w1.ownsRow w0.heap.size 92 8 (.slice (some ⟨na, 0, none⟩) (pn + 1) nc) (pn + 1) (flatPV l ++ p.cells)) :
    BAt w1 cb [cv, .slice pa pn pc, .slice ga gn gc, .slice none 0 0] 101 ∧ DecB w0 (w1.setCell ⟨cb, 1, none⟩ (.slice (some ⟨na, 0, none⟩) (pn + 1) nc)) cb nb ns cs (ps ++ [x]) gs cv (some ⟨na, 0, none⟩) (pn + 1) nc ga gn gc (l ++ [p]) g := by
  have hb1 : BAt w1 cb [cv, .slice pa pn pc, .slice ga gn gc, .slice none 0 0] 101 := h.box.ownGrownR h.pown hg (by decide)
  have hn1 : BAt w1 nb ns 2 := h.nbx.ownGrownR h.pown hg (by decide)
  have hk1 : RowKeep [92, 101] wr w1 := RowKeep.grown h.pown hg (by decide)
  have hk2 : RowKeep [92, 101] w1 (w1.setCell ⟨cb, 1, none⟩ (.slice (some ⟨na, 0, none⟩) (pn + 1) nc)) := RowKeep.set hb1 (by decide) _ _
  have hk := hk1.trans hk2
  have ho2 : (w1.setCell ⟨cb, 1, none⟩ (.slice (some ⟨na, 0, none⟩) (pn + 1) nc)).ownsRow w0.heap.size 92 8 (.slice (some ⟨na, 0, none⟩) (pn + 1) nc) (pn + 1) (flatPV (l ++ [p])) := by
    rw [flatPV_app, show flatPV [p] = p.cells from List.append_nil _]
    exact own_same ho (fun k hq => Go.Deep.blk_setCell_other _ _ _ _ (by
      rintro rfl
      exact own_ne_block ho hb1 (by decide) hq.symm))
  refine ⟨hb1, ⟨?_, ho2, hk _ _ _ _ _ _ h.gown (by decide), hb1.setkM 1 _, hn1.other (bat_ne hn1 hb1 (by decide)) _, Below.setCell (p := ⟨cb, 1, none⟩) (below_ownR h.bel h.pown hg) h.lo _, h.lo, by rw [List.length_append, h.lp]; rfl, h.lg⟩⟩
  refine ⟨hk _ _ _ _ _ _ h.base.cs (by decide), ?_, by simp [h.base.pl], fun i y q h1 h2 => ?_, hk _ _ _ _ _ _ h.base.gs (by decide), h.base.gl, fun i y z h1 h2 => ?_⟩
  · show (w1.setCell _ _).ownsRow 0 _ 8 _ (ps ++ [x]).length _
    rw [List.length_append, h.lp]
    exact own_zero ho2
  · have hpl : l.length = ps.length := h.base.pl
    rcases snoc_get h1 with h1 | ⟨e1, rfl⟩
    · rcases snoc_get h2 with h2 | ⟨e2, rfl⟩
      · exact (h.base.pk i y q h1 h2).keep hk (by decide)
      · have := (List.getElem?_eq_some_iff.1 h1).1
        omega
    · rcases snoc_get h2 with h2 | ⟨e2, rfl⟩
      · have := (List.getElem?_eq_some_iff.1 h2).1
        omega
      · exact hx.keep hk (by decide)
  · obtain ⟨bs, h3, h4⟩ := h.base.gk i y z h1 h2
    exact ⟨bs, hk _ _ _ _ _ _ h3 (by decide), h4⟩
theorem DecB.appG {w0 wr w1 : World} {cb nb : Nat} {ns : List Value} {cs : List Int} {ps : List (Nd × Nat)} {gs : List (List (List UInt8))} {cv : Value} {pa : Option Addr} {pn pc : Nat} {ga : Option Addr} {gn gc : Nat} {l : List PV} {g : List (Option Addr × Nat × Nat)} (h : DecB w0 wr cb nb ns cs ps gs cv pa pn pc ga gn gc l g) {x : List (List UInt8)} {a : Option Addr} {m c na nc : Nat}
    (hx : ∃ bs : List ByteArray, wr.ownsRow 0 9 1 (.slice a m c) bs.length (bs.map .string) ∧ bs.map bl = x) (hg : wr.grownBy w1 (Value.slice ga gn gc).ownBlock) (ho : w1.ownsRow w0.heap.size 90 1 (.slice (some ⟨na, 0, none⟩) (gn + 1) nc) (gn + 1) ((g.map fun y => .slice y.1 y.2.1 y.2.2) ++ [.slice a m c])) :
    BAt w1 cb [cv, .slice pa pn pc, .slice ga gn gc, .slice none 0 0] 101 ∧ DecB w0 (w1.setCell ⟨cb, 2, none⟩ (.slice (some ⟨na, 0, none⟩) (gn + 1) nc)) cb nb ns cs ps (gs ++ [x]) cv pa pn pc (some ⟨na, 0, none⟩) (gn + 1) nc l (g ++ [(a, m, c)]) := by
  have hb1 : BAt w1 cb [cv, .slice pa pn pc, .slice ga gn gc, .slice none 0 0] 101 := h.box.ownGrownR h.gown hg (by decide)
  have hn1 : BAt w1 nb ns 2 := h.nbx.ownGrownR h.gown hg (by decide)
  have hk1 : RowKeep [90, 101] wr w1 := RowKeep.grown h.gown hg (by decide)
  have hk2 : RowKeep [90, 101] w1 (w1.setCell ⟨cb, 2, none⟩ (.slice (some ⟨na, 0, none⟩) (gn + 1) nc)) := RowKeep.set hb1 (by decide) _ _
  have hk := hk1.trans hk2
  have ho2 : (w1.setCell ⟨cb, 2, none⟩ (.slice (some ⟨na, 0, none⟩) (gn + 1) nc)).ownsRow w0.heap.size 90 1 (.slice (some ⟨na, 0, none⟩) (gn + 1) nc) (gn + 1) ((g ++ [(a, m, c)]).map fun y => .slice y.1 y.2.1 y.2.2) := by
    rw [List.map_append]
    exact own_same ho (fun k hq => Go.Deep.blk_setCell_other _ _ _ _ (by
      rintro rfl
      exact own_ne_block ho hb1 (by decide) hq.symm))
  refine ⟨hb1, ⟨?_, hk _ _ _ _ _ _ h.pown (by decide), ho2, hb1.setkM 2 _, hn1.other (bat_ne hn1 hb1 (by decide)) _, Below.setCell (p := ⟨cb, 2, none⟩) (below_ownR h.bel h.gown hg) h.lo _, h.lo, h.lp, by rw [List.length_append, h.lg]; rfl⟩⟩
  refine ⟨hk _ _ _ _ _ _ h.base.cs (by decide), hk _ _ _ _ _ _ h.base.ps (by decide), h.base.pl, fun i y q h1 h2 => (h.base.pk i y q h1 h2).keep hk (by decide), ?_, by simp [h.base.gl], fun i y z h1 h2 => ?_⟩
  · show (w1.setCell _ _).ownsRow 0 _ 1 _ (gs ++ [x]).length _
    rw [List.length_append, h.lg]
    exact own_zero ho2
  · have hpl : g.length = gs.length := h.base.gl
    rcases snoc_get h1 with h1 | ⟨e1, rfl⟩
    · rcases snoc_get h2 with h2 | ⟨e2, rfl⟩
      · obtain ⟨bs, h3, h4⟩ := h.base.gk i y z h1 h2
        exact ⟨bs, hk _ _ _ _ _ _ h3 (by decide), h4⟩
      · have := (List.getElem?_eq_some_iff.1 h1).1
        omega
    · rcases snoc_get h2 with h2 | ⟨e2, rfl⟩
      · have := (List.getElem?_eq_some_iff.1 h2).1
        omega
      · obtain ⟨bs, h3, h4⟩ := hx
        exact ⟨bs, hk _ _ _ _ _ _ h3 (by decide), h4⟩
theorem DecA.toB {w0 wr : World} {cb nb : Nat} {ns : List Value} {xs : List Int} {ca : Option Addr} {n cc : Nat} (h : DecA w0 wr cb nb ns xs ca n cc) (hl : xs.length = n) : DecB w0 wr cb nb ns xs [] [] (.slice ca n cc) none 0 0 none 0 0 [] [] :=
  ⟨⟨by rw [hl]; exact own_zero h.own, World.ownsRow_nil _ _ _ _, rfl, (fun _ _ _ h1 => by simp at h1), World.ownsRow_nil _ _ _ _, rfl, fun _ _ _ h1 => by simp at h1⟩, World.ownsRow_nil _ _ _ _, World.ownsRow_nil _ _ _ _, h.box, h.nbx, h.bel, h.lo, rfl, rfl⟩
theorem DecB.toR {w0 wr : World} {cb nb : Nat} {ns : List Value} {cs : List Int} {ps : List (Nd × Nat)} {gs : List (List (List UInt8))} {cv : Value} {pa : Option Addr} {pn pc : Nat} {ga : Option Addr} {gn gc : Nat} {l : List PV} {g : List (Option Addr × Nat × Nat)} (h : DecB w0 wr cb nb ns cs ps gs cv pa pn pc ga gn gc l g) : RestI w0 wr cb cs ps gs [] cv (.slice pa pn pc) (.slice ga gn gc) none 0 0 l g :=
  ⟨h.base, h.box, World.ownsRow_nil _ _ _ _, h.bel, fun _ hx => nomatch hx⟩
set_option maxRecDepth 100000 in
set_option maxHeartbeats 32000000 in
theorem decode_any (s : ByteArray) (w : World) (hs : s.size ≤ maxLen) :
    Calls Tryz.prog 27 #[.string s] w fun e w' => ∃ (v : Value) (c p : Nat), e = .returned (.tuple #[v, .int .i64 c, .int .i64 p]) ∧ Hid (RestR w' (decodeQ (bl s)) v c p) ∧ Below w.heap.size w w' := by
  have hsz : s.size ≤ 9223372036854775807 := by unfold maxLen at hs; omega
  have HSM := hid hs
  clear hs
  obtain ⟨i0, hi, hz0, hz1, hz2⟩ := info_parts Tryz.infoI64R
  obtain ⟨j0, hj, hy0, hy1, hy2⟩ := info_parts Tryz.infoPartR
  obtain ⟨m0, hm, hx0, hx1, hx2⟩ := info_parts Tryz.infoStrsR
  by_cases h1 : s.size < 1
  · have HE : Hid (decodeQ (bl s) = .error (9, 0)) := hid (decode_head_err (by
      unfold headQ
      rw [if_pos]
      have : bl s = [] := List.length_eq_zero_iff.1 (by rw [bl_length]; omega)
      rw [this]; simp))
    go_enter Tryz.func27, Tryz.ntmps27
    go_wp2
    go_ret3
    exact ⟨_, 9, 0, rfl, hid (RestR.mkErr HE.out (by decide)), (by repeat (first | exact Below.refl _ _ | assumption | refine Below.alloc ?_ (by first | omega | (simp; omega) | simp) _ | refine Below.setCell ?_ (by first | omega | (simp; omega) | simp) _ | refine below_drewN' ?_ _ | refine Below.drew ?_))⟩
  · have h0 : 0 < s.size := by omega
    have hhd : (bl s).head? = some s[0] := by
      rw [List.head?_eq_getElem?, List.getElem?_eq_getElem (by rw [bl_length]; exact h0), bl_get s 0 h0]
    by_cases h103 : s[0] = 103
    · have d103 : ((s[0].toNat : Int) != 103) = false := by rw [h103]; rfl
      by_cases h9 : s.size < 9
      · have HE : Hid (decodeQ (bl s) = .error (9, s.size)) := hid (decode_head_err (by
          unfold headQ
          rw [if_neg (by rw [hhd, h103]; simp), if_pos (by rw [bl_length]; exact h9), bl_length]))
        clear hhd h103
        go_enter Tryz.func27, Tryz.ntmps27
        go_wp2
        go_ret3
        exact ⟨_, 9, s.size, rfl, hid (RestR.mkErr HE.out (by decide)), (by repeat (first | exact Below.refl _ _ | assumption | refine Below.alloc ?_ (by first | omega | (simp; omega) | simp) _ | refine Below.setCell ?_ (by first | omega | (simp; omega) | simp) _ | refine below_drewN' ?_ _ | refine Below.drew ?_))⟩
      · obtain ⟨n0, hn0⟩ : ∃ n0, n0 = back (sub (bl s) 1 2) := ⟨_, rfl⟩
        obtain ⟨n1, hn1⟩ : ∃ n1, n1 = back (sub (bl s) 3 2) := ⟨_, rfl⟩
        obtain ⟨n2, hn2⟩ : ∃ n2, n2 = back (sub (bl s) 5 2) := ⟨_, rfl⟩
        obtain ⟨n3, hn3⟩ : ∃ n3, n3 = back (sub (bl s) 7 2) := ⟨_, rfl⟩
        have HH : Hid (headQ (bl s) = .ok (n0, n1, n2, n3)) := hid (by
          unfold headQ
          rw [if_neg (by rw [hhd, h103]; simp), if_neg (by rw [bl_length]; exact h9), hn0, hn1, hn2, hn3])
        have b0 := textAt_le hn0
        have b1 := textAt_le hn1
        have b2 := textAt_le hn2
        have b3 := textAt_le hn3
        have HN := hid (And.intro hn0 (And.intro hn1 (And.intro hn2 hn3)))
        clear hhd h103 hn0 hn1 hn2 hn3
        have e0 : bl (s.extract 1 3) = sub (bl s) 1 2 := sub_bl s 1 2
        have e1 : bl (s.extract 3 5) = sub (bl s) 3 2 := sub_bl s 3 2
        have e2 : bl (s.extract 5 7) = sub (bl s) 5 2 := sub_bl s 5 2
        have e3 : bl (s.extract 7 9) = sub (bl s) 7 2 := sub_bl s 7 2
        have HE4 := hid (And.intro e0 (And.intro e1 (And.intro e2 e3)))
        clear e0 e1 e2 e3
        go_enter Tryz.func27, Tryz.ntmps27
        go_upto_region 6 with fail
        refine wp_gen fun W hW => ?_
        have hbW : Below w.heap.size w W := by rw [hW]; exact (Below.refl _ _).alloc (Nat.le_refl _) _
        have HXW : Hid (BAt W w.heap.size [.slice none 0 0, .slice none 0 0, .slice none 0 0, .slice none 0 0] 101) := hid (by rw [hW]; exact (show BAt _ _ _ _ from Go.Deep.blk_alloc_new w _))
        have HBW := hid hbW
        have hcb : w.heap.size ≤ w.heap.size := Nat.le_refl _
        obtain ⟨cb, hcbe⟩ : ∃ cb, cb = w.heap.size := ⟨_, rfl⟩
        rw [← hcbe] at HXW ⊢
        have HCB : Hid (w.heap.size ≤ cb) := hid (by omega)
        clear hW hbW hcb hcbe d103
        have HA0 : Hid (∀ o, o = Obj.cells #[.int .i64 n0, .int .i64 n1, .int .i64 n2, .int .i64 n3] 2 → DecA w (W.drew.alloc o) cb W.heap.size [.int .i64 n0, .int .i64 n1, .int .i64 n2, .int .i64 n3] [] none 0 0) := hid (fun o ho => by
          subst ho
          have hb1 : Below W.heap.size W (W.drew.alloc (Obj.cells #[.int .i64 n0, .int .i64 n1, .int .i64 n2, .int .i64 n3] 2)) := ((Below.refl _ _).drew).alloc (Nat.le_refl _) _
          exact ⟨HXW.out.below hb1, (show BAt _ _ _ _ from Go.Deep.blk_alloc_new W.drew _), World.ownsRow_nil _ _ _ _, HBW.out.trans (hb1.mono HBW.out.size), HCB.out, HBW.out.size⟩)
        have i3 : (3 : Int) ≤ (s.size : Int) := by omega
        have i5 : (5 : Int) ≤ (s.size : Int) := by omega
        have i7 : (7 : Int) ≤ (s.size : Int) := by omega
        have i9 : (9 : Int) ≤ (s.size : Int) := by omega
        refine beginT 13 (fun _ => True) (by kernel_rfl) trivial (fun hHeld => ?_)
        refine takeT (i := 0) (d := 32) (v := ?v0) rfl rfl (by kernel_rfl) (fun _ _ _ h => h) (Or.inl ⟨by rfl, ?hy0⟩) hHeld ?rs0
        case hy0 => (intro w hSw; go_simp; try with_reducible rfl)
        case rs0 =>
        try simp only [List.setIfInBounds_toArray, List.set_cons_zero, List.set_cons_succ]
        refine takeT (i := 1) (d := 33) (v := ?v1) rfl rfl (by kernel_rfl) (fun _ _ _ h => h) (Or.inl ⟨by rfl, ?hy1⟩) hHeld ?rs1
        case hy1 => (intro w hSw; go_simp; try with_reducible rfl)
        case rs1 =>
        try simp only [List.setIfInBounds_toArray, List.set_cons_zero, List.set_cons_succ]
        refine takeT (i := 3) (d := 35) (v := ?v3) rfl rfl (by kernel_rfl) (fun _ _ _ h => h) (Or.inl ⟨by rfl, ?hy3⟩) hHeld ?rs3
        case hy3 => (intro w hSw; go_simp; try with_reducible rfl)
        case rs3 =>
        try simp only [List.setIfInBounds_toArray, List.set_cons_zero, List.set_cons_succ]
        refine takeT (i := 4) (d := 36) (v := ?v4) rfl rfl (by kernel_rfl) (fun _ _ _ h => h) (Or.inl ⟨by rfl, ?hy4⟩) hHeld ?rs4
        case hy4 => (intro w hSw; go_simp; try with_reducible rfl)
        case rs4 =>
        try simp only [List.setIfInBounds_toArray, List.set_cons_zero, List.set_cons_succ]
        refine takeT (i := 6) (d := 38) (v := ?v6) rfl rfl (by kernel_rfl) (fun _ _ _ h => h) (Or.inl ⟨by rfl, ?hy6⟩) hHeld ?rs6
        case hy6 => (intro w hSw; go_simp; try with_reducible rfl)
        case rs6 =>
        try simp only [List.setIfInBounds_toArray, List.set_cons_zero, List.set_cons_succ]
        refine takeT (i := 7) (d := 39) (v := ?v7) rfl rfl (by kernel_rfl) (fun _ _ _ h => h) (Or.inl ⟨by rfl, ?hy7⟩) hHeld ?rs7
        case hy7 => (intro w hSw; go_simp; try with_reducible rfl)
        case rs7 =>
        try simp only [List.setIfInBounds_toArray, List.set_cons_zero, List.set_cons_succ]
        refine takeT (i := 9) (d := 41) (v := ?v9) rfl rfl (by kernel_rfl) (fun _ _ _ h => h) (Or.inl ⟨by rfl, ?hy9⟩) hHeld ?rs9
        case hy9 => (intro w hSw; go_simp; try with_reducible rfl)
        case rs9 =>
        try simp only [List.setIfInBounds_toArray, List.set_cons_zero, List.set_cons_succ]
        refine takeT (i := 10) (d := 42) (v := ?v10) rfl rfl (by kernel_rfl) (fun _ _ _ h => h) (Or.inl ⟨by rfl, ?hy10⟩) hHeld ?rs10
        case hy10 => (intro w hSw; go_simp; try with_reducible rfl)
        case rs10 =>
        try simp only [List.setIfInBounds_toArray, List.set_cons_zero, List.set_cons_succ]
        refine stepT (i := 2) (by kernel_rfl) rfl (fun K hK => ?_)
        go_simp
        refine (rBack_any _ _ (by rw [ByteArray.size_extract]; omega)).mono ?_
        rintro e w1 ⟨rfl, rfl⟩
        rw [HE4.out.1, ← HN.out.1]
        go_simp
        refine hK.out _ _ hHeld (fun hHeld => ?_)
        clear hK K
        try simp only [Act.put, List.setIfInBounds_toArray, List.set_cons_zero, List.set_cons_succ]
        refine stepT (i := 5) (by kernel_rfl) rfl (fun K hK => ?_)
        go_simp
        refine (rBack_any _ _ (by rw [ByteArray.size_extract]; omega)).mono ?_
        rintro e w1 ⟨rfl, rfl⟩
        rw [HE4.out.2.1, ← HN.out.2.1]
        go_simp
        refine hK.out _ _ hHeld (fun hHeld => ?_)
        clear hK K
        try simp only [Act.put, List.setIfInBounds_toArray, List.set_cons_zero, List.set_cons_succ]
        refine stepT (i := 8) (by kernel_rfl) rfl (fun K hK => ?_)
        go_simp
        refine (rBack_any _ _ (by rw [ByteArray.size_extract]; omega)).mono ?_
        rintro e w1 ⟨rfl, rfl⟩
        rw [HE4.out.2.2.1, ← HN.out.2.2.1]
        go_simp
        refine hK.out _ _ hHeld (fun hHeld => ?_)
        clear hK K
        try simp only [Act.put, List.setIfInBounds_toArray, List.set_cons_zero, List.set_cons_succ]
        refine stepT (i := 11) (by kernel_rfl) rfl (fun K hK => ?_)
        go_simp
        refine (rBack_any _ _ (by rw [ByteArray.size_extract]; omega)).mono ?_
        rintro e w1 ⟨rfl, rfl⟩
        rw [HE4.out.2.2.2, ← HN.out.2.2.2]
        go_simp
        refine hK.out _ _ hHeld (fun hHeld => ?_)
        clear hK K
        try simp only [Act.put, List.setIfInBounds_toArray, List.set_cons_zero, List.set_cons_succ]
        refine stepT (i := 12) (by kernel_rfl) rfl (fun K hK => ?_)
        go_simp
        refine hK.out _ _ trivial (fun hHeld => ?_)
        clear hK K
        try simp only [Act.put, List.setIfInBounds_toArray, List.set_cons_zero, List.set_cons_succ]
        refine lastT (by kernel_rfl) (by kernel_rfl) rfl (by kernel_rfl) (fun K hK => ?_)
        go_simp
        refine hK.out _ _ ?_
        clear hK K hHeld
        go_upto_region 7 with fail
        refine wp_gen fun W2 hW2 => ?_
        have HA2 : Hid (DecA w W2 cb W.heap.size [.int .i64 n0, .int .i64 n1, .int .i64 n2, .int .i64 n3] [] none 0 0) := hid (by rw [hW2]; exact HA0.out _ rfl)
        clear hW2 HA0 HXW HBW
        generalize W.heap.size = nb at *
        have HCE : Hid (∀ k x, many (constAt (bl s)) 9 k = .error x → k ≤ n0 → decodeQ (bl s) = .error x) := hid (fun k x he hk => decode_const_err HH.out (many_err he n0 hk))
        go_wp2
        go_loopw [7, 8] (fun av iv wr => ∃ (k p : Nat) (xs : List Int) (ca : Option Addr) (cc : Nat), k ≤ n0 ∧ iv = .int .i64 k ∧ av = .int .i64 p ∧ p ≤ s.size ∧ p ≤ 9 + 4 * k ∧ Hid (many (constAt (bl s)) 9 k = .ok (xs, p)) ∧ Hid (DecA w wr cb nb [.int .i64 n0, .int .i64 n1, .int .i64 n2, .int .i64 n3] xs ca k cc)) (fun _ iv _ => n0 - (intOf iv).toNat)
        case atStart => exact ⟨0, 9, [], none, 0, Nat.zero_le _, rfl, rfl, by omega, by omega, hid rfl, HA2⟩
        case round =>
          clear HA2
          obtain ⟨k, p, xs, ca, cc, hk, rfl, rfl, hp, hpk, HM, HA⟩ := hrel
          have m0 := HA.out.nbx.cell 0
          simp only [List.getElem?_cons_zero] at m0
          have hnl := HA.out.nbx.lt
          by_cases hlt : k < n0
          · by_cases h4 : s.size < p + 4
            · have HE : Hid (decodeQ (bl s) = .error (9, s.size)) := hid (HCE.out (k + 1) (9, s.size) (many_step_err HM.out (by rw [const_no (by rw [bl_length]; exact h4), bl_length]) _ (Nat.lt_succ_self k)) (by omega))
              go_wp2
              go_ret3
              exact ⟨_, 9, s.size, rfl, hid (RestR.mkErr HE.out (by decide)), HA.out.bel⟩
            · have h4b : ¬ (bl s).length < p + 4 := by rw [bl_length]; exact h4
              have hle4 : p + 4 ≤ s.size := by omega
              have HSB : Hid (bl (s.extract p (p + 4)) = sub (bl s) p 4) := hid (sub_bl s p 4)
              go_wp2_with fail
              refine (rBack_any _ _ (by rw [ByteArray.size_extract]; omega)).mono ?_
              rintro e wr ⟨rfl, rfl⟩
              rw [HSB.out]
              obtain ⟨v0, hv0⟩ : ∃ v0, v0 = back (sub (bl s) p 4) := ⟨_, rfl⟩
              rw [← hv0]
              obtain ⟨vz, hvz⟩ : ∃ vz, vz = signed v0 := ⟨_, rfl⟩
              have hvb : v0 < 4294967296 := by rw [hv0]; exact back_lt_of (n := 4) (by unfold sub; rw [List.length_take]; omega)
              have HVZ : Hid (vz = signed (back (sub (bl s) p 4))) := hid (by rw [hvz, hv0])
              obtain ⟨bb, hbb⟩ : ∃ bb, decide ((2147483648 : Int) ≤ (v0 : Int)) = bb := ⟨_, rfl⟩
              have hvc : (bb = true ∧ IntKind.i64.wrap ((v0 : Int) - 4294967296) = vz) ∨ (bb = false ∧ (v0 : Int) = vz) := by
                rw [hvz, ← hbb]; unfold signed
                by_cases hh : 2147483648 ≤ v0
                · rw [if_pos hh]; exact Or.inl ⟨decide_eq_true (by omega), by rw [IntKind.wrap_i64]; omega⟩
                · rw [if_neg hh]; exact Or.inr ⟨decide_eq_false (by omega), rfl⟩
              have HVL : Hid (-2147483648 ≤ vz ∧ vz < 2147483648) := hid (by
                rw [hvz]; unfold signed
                by_cases hh : 2147483648 ≤ v0
                · rw [if_pos hh]; omega
                · rw [if_neg hh]; omega)
              clear hv0 hvz HSB hvb
              go_upto_if 66 with fail
              (try rw [hbb])
              clear hbb
              go_cut [9] from 45 to 87 (fun s9 wx => s9 = .int .i64 vz ∧ wx = wr)
              case first =>
                rcases hvc with ⟨rfl, hz⟩ | ⟨rfl, hz⟩
                · have HZ := hid hz
                  clear hz
                  go_wp2
                  go_meet
                  exact ⟨by rw [← HZ.out]; exact congrArg (Value.int .i64) (by rw [IntKind.wrap_i64]; first | rfl | (unfold wrap64; rfl) | (unfold wrap64; omega) | simp [wrap64]), rfl⟩
                · have HZ := hid hz
                  clear hz
                  go_wp2
                  go_meet
                  exact ⟨by rw [HZ.out], rfl⟩
              case rest =>
              obtain ⟨rfl, rfl⟩ := hcut
              rename World => wr
              clear hvc
              by_cases hb1 : vz < -1000000000
              · have HE : Hid (decodeQ (bl s) = .error (9, p)) := hid (HCE.out (k + 1) (9, p) (many_step_err HM.out (const_bad h4b HVZ.out (Or.inl hb1)) _ (Nat.lt_succ_self k)) (by omega))
                go_wp2
                go_ret3
                exact ⟨_, 9, p, rfl, hid (RestR.mkErr HE.out (by decide)), HA.out.bel⟩
              · by_cases hb2 : 1000000000 < vz
                · have HE : Hid (decodeQ (bl s) = .error (9, p)) := hid (HCE.out (k + 1) (9, p) (many_step_err HM.out (const_bad h4b HVZ.out (Or.inr hb2)) _ (Nat.lt_succ_self k)) (by omega))
                  go_wp2
                  go_ret3
                  exact ⟨_, 9, p, rfl, hid (RestR.mkErr HE.out (by decide)), HA.out.bel⟩
                · have HM2 : Hid (many (constAt (bl s)) 9 (k + 1) = .ok (xs ++ [vz], p + 4)) := hid (many_step_ok HM.out (const_ok h4b HVZ.out (fun h => by rcases h with h | h <;> omega)))
                  have hown := HA.out.own
                  have c0 := HA.out.box.cell 0
                  simp only [List.getElem?_cons_zero] at c0
                  have hcl := HA.out.box.lt
                  have HAW : Hid (∀ o, DecA w (wr.alloc o) cb nb [.int .i64 n0, .int .i64 n1, .int .i64 n2, .int .i64 n3] xs ca k cc) := hid (fun o => HA.out.below ((Below.refl _ _).alloc (Nat.le_refl _) _))
                  clear HM HA h4b m0
                  go_wp2_with (at_builtin; refine wpList_append_own _ rfl (.tmp 80) (.tmp 82) 81 rfl (nb + 1) 2 i0 (.int .i64 0) 1 8 Tryz.underlying81 hi hz0 hz1 hz2 rfl (by decide) _ _ _ rfl (hown.alloc _) ⟨wr.heap.size, 0, none⟩ 1 1 [.int .i64 vz] rfl rfl ?c1 ?c2 ?c3 ?c4 ?c5 ?_)
                  (try case c1 => exact cell_one_new _ _ _)
                  case c2 => first | rfl | (intro u hu; simp at hu; subst hu; rfl)
                  case c3 => unfold maxLen; omega
                  case c4 => omega
                  case c5 => first | omega | (simp; omega)
                  intro v' w3 hown3 hgrow _
                  obtain ⟨g3, cp3, hv3⟩ := own_some hown3 (by omega)
                  subst hv3
                  obtain ⟨hb3, ha3⟩ := (HAW.out _).app (by exact hgrow) hown3
                  have HA3 := hid ha3
                  have HB3 := hid hb3
                  clear hown3 hgrow ha3 hb3 c0 hown hcl
                  have c0 := HB3.out.cell 0
                  have f0 := HB3.out.frozen 0
                  have hcl := HB3.out.lt
                  simp only [List.getElem?_cons_zero] at c0
                  go_wp2
                  go_roundw
                  case rel => exact ⟨k + 1, p + 4, _, _, _, by omega, by go_num, by go_num, by omega, by omega, HM2, HA3⟩
                  case measure => simp [intOf]; omega
          · obtain rfl : n0 = k := by omega
            have HLN : Hid (xs.length = n0) := hid (many_len HM.out)
            have HB0 := hid (HA.out.toB HLN.out)
            have HDI := hid (decode_items HH.out HM.out)
            have hp9 : p ≤ 262149 := by omega
            obtain ⟨p1, hp1⟩ : ∃ p1, p1 = p := ⟨_, rfl⟩
            have HP0 : Hid (itemsQ (bl s) n1 p1 0 = .ok ([], [], p)) := hid (by rw [items_zero, hp1])
            rw [← hp1] at HDI
            clear hp1 HM HLN HCE
            have HAL := hid HA.out.bel
            clear HA hlt hk hpk
            generalize Value.slice ca n0 cc = cv at *
            have HIE : Hid (∀ e, itemsQ (bl s) n1 p1 (n1 + n2) = .error e → decodeQ (bl s) = .error e) := hid (fun e he => by rw [HDI.out, he])
            have HIO : Hid (∀ ps gs q, itemsQ (bl s) n1 p1 (n1 + n2) = .ok (ps, gs, q) → decodeQ (bl s) = restQ (bl s) xs ps gs q n3) := hid (fun ps gs q he => by rw [HDI.out, he])
            clear HDI
            go_wp2
            clear m0 hnl
            go_loopw [7, 10] (fun av iv wr => ∃ (i p : Nat) (ps : List (Nd × Nat)) (gs : List (List (List UInt8))) (pa : Option Addr) (pn pc : Nat) (ga : Option Addr) (gn gc : Nat) (l : List PV) (g : List (Option Addr × Nat × Nat)), i ≤ n1 + n2 ∧ iv = .int .i64 i ∧ av = .int .i64 p ∧ p ≤ s.size ∧ p ≤ 262149 + 65537 * i ∧ pn ≤ i ∧ gn ≤ i ∧ Hid (itemsQ (bl s) n1 p1 i = .ok (ps, gs, p)) ∧ Hid (DecB w wr cb nb [.int .i64 n0, .int .i64 n1, .int .i64 n2, .int .i64 n3] xs ps gs cv pa pn pc ga gn gc l g)) (fun _ iv _ => n1 + n2 - (intOf iv).toNat)
            case atStart => exact ⟨0, p, [], [], none, 0, 0, none, 0, 0, [], [], Nat.zero_le _, rfl, rfl, hp, by omega, Nat.le_refl _, Nat.le_refl _, HP0, HB0⟩
            case round =>
              clear HB0 HP0
              obtain ⟨i, p, ps, gs, pa, pn, pc, ga, gn, gc, l, g, hi2, rfl, rfl, hp, hpi, hpn, hgn, HM, HD⟩ := hrel
              have m1 := HD.out.nbx.cell 1
              have m2 := HD.out.nbx.cell 2
              simp only [List.getElem?_cons_zero, List.getElem?_cons_succ] at m1 m2
              have hnl := HD.out.nbx.lt
              have ws : IntKind.i64.wrap ((n1 : Int) + (n2 : Int)) = (n1 : Int) + (n2 : Int) := by rw [IntKind.wrap_i64]; omega
              by_cases hlt : i < n1 + n2
              · have hlI : (i : Int) < (n1 : Int) + (n2 : Int) := by omega
                go_wp2
                go_quiet (fail)
                go_upto_region 23 with fail
                refine wp_gen fun W hW => ?_
                have hbW : Below wr.heap.size wr W := by rw [hW]; exact (by first | exact below_drewN' (Below.refl _ _) _ | exact (Below.refl _ _).drew | exact Below.refl _ _)
                have HDW := hid (HD.out.below hbW)
                clear hW hbW HD m1 m2 hlI ws hnl
                have m1 := HDW.out.nbx.cell 1
                simp only [List.getElem?_cons_zero, List.getElem?_cons_succ] at m1
                have hnl := HDW.out.nbx.lt
                have HTE : Hid (∀ e, textAt (bl s) p = .error e → decodeQ (bl s) = .error e) := hid (fun e he => HIE.out e (by
                  by_cases hh : i < n1
                  · exact items_pick_err hh HM.out (pick_text he)
                  · exact items_group_err hh hlt HM.out (group_text he)))
                by_cases h2 : s.size < p + 2
                · have HE : Hid (decodeQ (bl s) = .error (9, s.size)) := hid (HTE.out _ (by rw [text_no (by rw [bl_length]; exact h2), bl_length]))
                  go_wp2
                  go_ret3
                  exact ⟨_, 9, s.size, rfl, hid (RestR.mkErr HE.out (by decide)), HDW.out.bel⟩
                · have h2b : ¬ (bl s).length < p + 2 := by rw [bl_length]; exact h2
                  have hle2 : p + 2 ≤ s.size := by omega
                  have HSB : Hid (bl (s.extract p (p + 2)) = sub (bl s) p 2) := hid (sub_bl s p 2)
                  have hpb : p ≤ 9000000000 := by omega
                  go_wp2_with fail
                  refine (rBack_any _ _ (by rw [ByteArray.size_extract]; omega)).mono ?_
                  rintro e W ⟨rfl, rfl⟩
                  rw [HSB.out]
                  obtain ⟨tn, htn⟩ : ∃ tn, tn = back (sub (bl s) p 2) := ⟨_, rfl⟩
                  rw [← htn]
                  have htb := textAt_le htn
                  have HTN := hid htn
                  clear htn HSB
                  by_cases h3 : s.size < p + 2 + tn
                  · have HE : Hid (decodeQ (bl s) = .error (9, s.size)) := hid (HTE.out _ (by rw [text_cut h2b HTN.out (by rw [bl_length]; exact h3), bl_length]))
                    go_wp2
                    go_ret3
                    exact ⟨_, 9, s.size, rfl, hid (RestR.mkErr HE.out (by decide)), HDW.out.bel⟩
                  · have HTX := hid (text_ok h2b HTN.out (by rw [bl_length]; exact h3))
                    have hle3 : p + 2 + tn ≤ s.size := by omega
                    clear h2b HTN HTE
                    go_upto_region 29 with fail
                    obtain ⟨tx, htx⟩ : ∃ tx, s.extract (p + 2) (p + 2 + tn) = tx := ⟨_, rfl⟩
                    rw [htx]
                    have htz : tx.size ≤ 65535 := by rw [← htx, ByteArray.size_extract]; omega
                    rw [← sub_bl s (p + 2) tn, htx] at HTX
                    clear htx
                    by_cases hin : i < n1
                    · have hinI : (i : Int) < (n1 : Int) := by omega
                      go_wp2_with fail
                      refine (pickOf_any tx W htz).mono ?_
                      rintro e w2 ⟨x, ok, rfl, HPR, hb2⟩
                      have HD2 := hid (HDW.out.below hb2)
                      clear hb2 HDW hinI m1 hnl
                      cases hpq : pickQ (bl tx) with
                      | none =>
                        have hok : ok = .bool false := by have := HPR.out; rw [hpq] at this; exact this
                        subst hok
                        have HE : Hid (decodeQ (bl s) = .error (9, p)) := hid (HIE.out _ (items_pick_err hin HM.out (pick_non HTX.out hpq)))
                        clear hpq HPR
                        have hbel : Hid (∀ o, Below w.heap.size w (w2.alloc o)) := hid (fun o => HD2.out.bel.alloc HD2.out.bel.size _)
                        unfold pvV
                        go_wp2
                        go_ret3
                        exact ⟨_, 9, p, rfl, hid (RestR.mkErr HE.out (by decide)), hbel.out _⟩
                      | some y =>
                        have hok : ok = .bool true ∧ PkOk w2 y x := by have := HPR.out; rw [hpq] at this; exact this
                        obtain ⟨rfl, hpk⟩ := hok
                        have HM2 : Hid (itemsQ (bl s) n1 p1 (i + 1) = .ok (ps ++ [y], gs, p + 2 + tn)) := hid (items_pick hin HM.out (pick_som HTX.out hpq))
                        have HPK := hid hpk
                        clear hpq HPR hpk HM HTX
                        obtain ⟨xk, xn, xo, xm, xca, xcn, xcc, xba, xbn, xbc, xa, xb⟩ := x
                        unfold pvV
                        simp only
                        go_upto_region 33 with fail
                        refine wp_gen fun W3 hW3 => ?_
                        have hb3 : Below w2.heap.size w2 W3 := by rw [hW3]; exact (Below.refl _ _).alloc (Nat.le_refl _) _
                        have HX3 : Hid (BAt W3 w2.heap.size [.int .i64 xk, .int .i64 xn, .int .i64 xo, .string xm, .slice xca xcn xcc, .slice xba xbn xbc, .int .i64 xa, .int .i64 xb] 92) := hid (by rw [hW3]; exact (show BAt _ _ _ _ from Go.Deep.blk_alloc_new w2 _))
                        have HD3 := hid (HD2.out.below hb3)
                        have HPK3 := hid (HPK.out.below hb3)
                        have HXN : Hid (¬ (Value.slice pa pn pc).ownBlock = some w2.heap.size) := hid (fun e => by have := (HD2.out.pown.lt _ e).2; omega)
                        clear hW3 hb3 HD2 HPK
                        generalize w2.heap.size = px at *
                        have hS0 : W3.drew.cell? ⟨cb, 1, none⟩ = some (.slice pa pn pc) ∧ W3.drew.cell? ⟨px, 0, none⟩ = some (.int .i64 xk) ∧ W3.drew.cell? ⟨px, 1, none⟩ = some (.int .i64 xn) ∧ W3.drew.cell? ⟨px, 2, none⟩ = some (.int .i64 xo) ∧ W3.drew.cell? ⟨px, 3, none⟩ = some (.string xm) ∧ W3.drew.cell? ⟨px, 4, none⟩ = some (.slice xca xcn xcc) ∧ W3.drew.cell? ⟨px, 5, none⟩ = some (.slice xba xbn xbc) ∧ W3.drew.cell? ⟨px, 6, none⟩ = some (.int .i64 xa) ∧ W3.drew.cell? ⟨px, 7, none⟩ = some (.int .i64 xb) := ⟨HD3.out.box.cell 1, HX3.out.cell 0, HX3.out.cell 1, HX3.out.cell 2, HX3.out.cell 3, HX3.out.cell 4, HX3.out.cell 5, HX3.out.cell 6, HX3.out.cell 7⟩
                        have hcl := HD3.out.box.lt
                        have hxl := HX3.out.lt
                        have HOW : Hid (∀ o, (W3.drew.alloc o).ownsRow w.heap.size 92 8 (.slice pa pn pc) pn (flatPV l)) := hid (fun o => HD3.out.pown.drew.alloc o)
                        have HDA : Hid (∀ o, DecB w (W3.drew.alloc o) cb nb [.int .i64 n0, .int .i64 n1, .int .i64 n2, .int .i64 n3] xs ps gs cv pa pn pc ga gn gc l g) := hid (fun o => HD3.out.below (((Below.refl _ _).drew).alloc (Nat.le_refl _) _))
                        have HXA : Hid (∀ o, BAt (W3.drew.alloc o) px [.int .i64 xk, .int .i64 xn, .int .i64 xo, .string xm, .slice xca xcn xcc, .slice xba xbn xbc, .int .i64 xa, .int .i64 xb] 92) := hid (fun o => HX3.out.below (((Below.refl _ _).drew).alloc (Nat.le_refl _) _))
                        have HPA : Hid (∀ o, PkOk (W3.drew.alloc o) y ⟨xk, xn, xo, xm, xca, xcn, xcc, xba, xbn, xbc, xa, xb⟩) := hid (fun o => HPK3.out.below (((Below.refl _ _).drew).alloc (Nat.le_refl _) _))
                        have hpn2 : pn ≤ 131070 := by omega
                        have hwW : w.heap.size ≤ W3.heap.size := HD3.out.bel.size
                        refine beginT 10 (fun w' => w'.cell? ⟨cb, 1, none⟩ = some (.slice pa pn pc) ∧ w'.cell? ⟨px, 0, none⟩ = some (.int .i64 xk) ∧ w'.cell? ⟨px, 1, none⟩ = some (.int .i64 xn) ∧ w'.cell? ⟨px, 2, none⟩ = some (.int .i64 xo) ∧ w'.cell? ⟨px, 3, none⟩ = some (.string xm) ∧ w'.cell? ⟨px, 4, none⟩ = some (.slice xca xcn xcc) ∧ w'.cell? ⟨px, 5, none⟩ = some (.slice xba xbn xbc) ∧ w'.cell? ⟨px, 6, none⟩ = some (.int .i64 xa) ∧ w'.cell? ⟨px, 7, none⟩ = some (.int .i64 xb)) (by kernel_rfl) (by exact hS0) (fun hHeld => ?_)
                        clear hS0
                        refine takeT (i := 0) (d := 139) (v := ?qv0) rfl rfl (by kernel_rfl) (fun _ _ _ h => h) (Or.inl ⟨by rfl, ?qhy0⟩) hHeld ?qrs0
                        case qhy0 => (intro w hSw; go_simp; try with_reducible rfl)
                        case qrs0 =>
                        try simp only [List.setIfInBounds_toArray, List.set_cons_zero, List.set_cons_succ]
                        refine takeT (i := 1) (d := 140) (v := ?qv1) rfl rfl (by kernel_rfl) (fun _ _ _ h => h) (Or.inl ⟨by rfl, ?qhy1⟩) hHeld ?qrs1
                        case qhy1 => (intro w hSw; go_simp; try with_reducible rfl)
                        case qrs1 =>
                        try simp only [List.setIfInBounds_toArray, List.set_cons_zero, List.set_cons_succ]
                        refine takeT (i := 2) (d := 141) (v := ?qv2) rfl rfl (by kernel_rfl) (fun _ _ _ h => h) (Or.inl ⟨by rfl, ?qhy2⟩) hHeld ?qrs2
                        case qhy2 => (intro w hSw; go_simp; try with_reducible rfl)
                        case qrs2 =>
                        try simp only [List.setIfInBounds_toArray, List.set_cons_zero, List.set_cons_succ]
                        refine takeT (i := 3) (d := 142) (v := ?qv3) rfl rfl (by kernel_rfl) (fun _ _ _ h => h) (Or.inl ⟨by rfl, ?qhy3⟩) hHeld ?qrs3
                        case qhy3 => (intro w hSw; go_simp; try with_reducible rfl)
                        case qrs3 =>
                        try simp only [List.setIfInBounds_toArray, List.set_cons_zero, List.set_cons_succ]
                        refine takeT (i := 4) (d := 143) (v := ?qv4) rfl rfl (by kernel_rfl) (fun _ _ _ h => h) (Or.inl ⟨by rfl, ?qhy4⟩) hHeld ?qrs4
                        case qhy4 => (intro w hSw; go_simp; try with_reducible rfl)
                        case qrs4 =>
                        try simp only [List.setIfInBounds_toArray, List.set_cons_zero, List.set_cons_succ]
                        refine takeT (i := 5) (d := 144) (v := ?qv5) rfl rfl (by kernel_rfl) (fun _ _ _ h => h) (Or.inl ⟨by rfl, ?qhy5⟩) hHeld ?qrs5
                        case qhy5 => (intro w hSw; go_simp; try with_reducible rfl)
                        case qrs5 =>
                        try simp only [List.setIfInBounds_toArray, List.set_cons_zero, List.set_cons_succ]
                        refine stepT (i := 6) (by kernel_rfl) rfl (fun K hK => ?_)
                        go_simp
                        refine hK.out _ _ ⟨(HDA.out _).box.cell 1, (HXA.out _).cell 0, (HXA.out _).cell 1, (HXA.out _).cell 2, (HXA.out _).cell 3, (HXA.out _).cell 4, (HXA.out _).cell 5, (HXA.out _).cell 6, (HXA.out _).cell 7⟩ (fun hHeld => ?_)
                        clear hK K
                        try simp only [Act.put, List.setIfInBounds_toArray, List.set_cons_zero, List.set_cons_succ]
                        refine stepT (i := 7) (by kernel_rfl) rfl (fun K hK => ?_)
                        refine step_append_own rfl (.tmp 143) (.tmp 145) 98 rfl w.heap.size 92 j0 _ 8 104 Tryz.underlying98 hj hy0 hy1 hy2 rfl (by decide) (.slice pa pn pc) pn (flatPV l) (by simp [Act.eval]) (by exact HOW.out _) ⟨W3.heap.size, 0, none⟩ 1 1 [.int .i64 xk, .int .i64 xn, .int .i64 xo, .string xm, .slice xca xcn xcc, .slice xba xbn xbc, .int .i64 xa, .int .i64 xb] (by simp [Act.eval]) rfl ?h2 ?h3 ?h4 ?h5 ?h6 ?_
                        case h2 => exact cells_new rfl
                        case h3 => intro u hu; simp at hu; rcases hu with rfl | rfl | rfl | rfl | rfl | rfl | rfl | rfl <;> rfl
                        case h4 => unfold maxLen; omega
                        case h5 => omega
                        case h6 => simp; omega
                        intro v1 w1 hown1 hgrow1 _
                        obtain ⟨g1, cp1, hv1⟩ := own_some hown1 (by omega)
                        subst hv1
                        obtain ⟨hb9, hd9⟩ := (HDA.out _).appP (HPA.out _) (by exact hgrow1) hown1
                        have HB9 := hid hb9
                        have HD9 := hid hd9
                        have hx9 := (HXA.out _).grown hgrow1 (fun e => HXN.out e.symm)
                        refine hK.out _ _ ⟨hb9.cell 1, hx9.cell 0, hx9.cell 1, hx9.cell 2, hx9.cell 3, hx9.cell 4, hx9.cell 5, hx9.cell 6, hx9.cell 7⟩ (fun hHeld => ?_)
                        clear hK K hb9 hd9 hx9 hown1 hgrow1
                        try simp only [Act.put, List.setIfInBounds_toArray]
                        refine takeT (i := 8) (d := 147) (v := ?qv8) rfl rfl (by kernel_rfl) (fun _ _ _ h => h) (Or.inl ⟨by rfl, ?qhy8⟩) hHeld ?qrs8
                        case qhy8 => (intro w hSw; go_simp; try with_reducible rfl)
                        case qrs8 =>
                        refine takeT (i := 9) (d := 148) (v := ?qv9) rfl rfl (by kernel_rfl) (fun _ _ _ h => h) (Or.inl ⟨by rfl, ?qhy9⟩) hHeld ?qrs9
                        case qhy9 => (intro w hSw; go_simp; try with_reducible rfl)
                        case qrs9 =>
                        refine lastT (by kernel_rfl) (by kernel_rfl) rfl (by kernel_rfl) (fun K hK => ?_)
                        have yc := HB9.out.cell 1
                        have yf := HB9.out.frozen 1
                        simp only [List.getElem?_cons_zero, List.getElem?_cons_succ] at yc
                        clear hHeld
                        go_simp
                        refine hK.out _ _ ?_
                        clear hK K yc yf
                        go_wp2
                        go_roundw
                        case rel => exact ⟨i + 1, p + 2 + tn, _, _, _, _, _, _, _, _, _, _, by omega, by go_num, by go_num, hle3, by omega, by omega, by omega, HM2, HD9⟩
                        case measure => simp [intOf]; omega
                    · have hinI : ¬ (i : Int) < (n1 : Int) := by omega
                      go_wp2_with fail
                      refine (groupOf_any tx W htz).mono ?_
                      rintro e w2 ⟨ya, yn, yc, ok, rfl, HGR, hb2⟩
                      have HD2 := hid (HDW.out.below hb2)
                      clear hb2 HDW hinI m1 hnl
                      cases hpq : groupQ (bl tx) with
                      | none =>
                        have hok : ok = .bool false := by have := HGR.out; rw [hpq] at this; exact this
                        subst hok
                        have HE : Hid (decodeQ (bl s) = .error (9, p)) := hid (HIE.out _ (items_group_err hin hlt HM.out (group_non HTX.out hpq)))
                        clear hpq HGR
                        go_wp2
                        go_ret3
                        exact ⟨_, 9, p, rfl, hid (RestR.mkErr HE.out (by decide)), HD2.out.bel⟩
                      | some y =>
                        have hok : ok = .bool true ∧ ∃ bs : List ByteArray, w2.ownsRow 0 9 1 (.slice ya yn yc) bs.length (bs.map .string) ∧ bs.map bl = y := by have := HGR.out; rw [hpq] at this; exact this
                        obtain ⟨rfl, hgk⟩ := hok
                        have HM2 : Hid (itemsQ (bl s) n1 p1 (i + 1) = .ok (ps, gs ++ [y], p + 2 + tn)) := hid (items_group hin HM.out (group_som HTX.out hpq))
                        have HGK : Hid (∀ o, ∃ bs : List ByteArray, (w2.alloc o).ownsRow 0 9 1 (.slice ya yn yc) bs.length (bs.map .string) ∧ bs.map bl = y) := hid (fun o => by
                          obtain ⟨bs, h1, h2⟩ := hgk
                          exact ⟨bs, h1.alloc o, h2⟩)
                        have HDA : Hid (∀ o, DecB w (w2.alloc o) cb nb [.int .i64 n0, .int .i64 n1, .int .i64 n2, .int .i64 n3] xs ps gs cv pa pn pc ga gn gc l g) := hid (fun o => HD2.out.below ((Below.refl _ _).alloc (Nat.le_refl _) _))
                        have hown := HD2.out.gown
                        have c2 := HD2.out.box.cell 2
                        simp only [List.getElem?_cons_zero, List.getElem?_cons_succ] at c2
                        have hcl := HD2.out.box.lt
                        have hgn2 : gn ≤ 131070 := by omega
                        have hw2 : w.heap.size ≤ w2.heap.size := HD2.out.bel.size
                        clear hpq HGR hgk HM HTX HD2
                        go_wp2_with (at_builtin; refine wpList_append_own _ rfl (.tmp 161) (.tmp 163) 55 rfl w.heap.size 90 m0 (.slice none 0 0) 1 24 Tryz.underlying55 hm hx0 hx1 hx2 rfl (by decide) _ _ _ rfl (hown.alloc _) ⟨w2.heap.size, 0, none⟩ 1 1 [.slice ya yn yc] rfl rfl ?d1 ?d2 ?d3 ?d4 ?d5 ?_)
                        (try case d1 => exact cell_one_new _ _ _)
                        case d2 => first | rfl | (intro u hu; simp at hu; subst hu; rfl)
                        case d3 => unfold maxLen; omega
                        case d4 => omega
                        case d5 => first | omega | (simp; omega)
                        intro v' w3 hown3 hgrow _
                        obtain ⟨g3, cp3, hv3⟩ := own_some hown3 (by omega)
                        subst hv3
                        obtain ⟨hb3, ha3⟩ := (HDA.out _).appG (HGK.out _) (by exact hgrow) hown3
                        have HA3 := hid ha3
                        have HB3 := hid hb3
                        clear hown3 hgrow ha3 hb3 c2 hown hcl
                        have c2 := HB3.out.cell 2
                        have f2 := HB3.out.frozen 2
                        have hcl := HB3.out.lt
                        simp only [List.getElem?_cons_zero, List.getElem?_cons_succ] at c2
                        go_wp2
                        go_roundw
                        case rel => exact ⟨i + 1, p + 2 + tn, _, _, _, _, _, _, _, _, _, _, by omega, by go_num, by go_num, hle3, by omega, by omega, by omega, HM2, HA3⟩
                        case measure => simp [intOf]; omega
              · obtain rfl : i = n1 + n2 := by omega
                have hlI : ¬ ((n1 + n2 : Nat) : Int) < (n1 : Int) + (n2 : Int) := by omega
                go_wp2
                go_quiet (fail)
                go_upto_region 39 with fail
                refine wp_gen fun W hW => ?_
                have hbW : Below wr.heap.size wr W := by rw [hW]; exact (by first | exact below_drewN' (Below.refl _ _) _ | exact (Below.refl _ _).drew | exact Below.refl _ _)
                have HDW := hid (HD.out.below hbW)
                have HDQ := hid (HIO.out ps gs p HM.out)
                clear hW hbW HD m1 m2 hlI ws hnl
                have m3 := HDW.out.nbx.cell 3
                simp only [List.getElem?_cons_zero, List.getElem?_cons_succ] at m3
                have hnl := HDW.out.nbx.lt
                go_wp2_with fail
                refine (rest_any w W s p n3 cb xs ps gs cv _ _ l g HDW.out.toR HCB.out HSM.out hp (by omega) b3).mono ?_
                rintro e w2 ⟨v, c, q, rfl, HR, hb2⟩
                have HR2 : Hid (RestR w2 (decodeQ (bl s)) v c q) := hid (by rw [HDQ.out]; exact HR.out)
                go_wp2
                go_ret3
                exact ⟨v, c, q, rfl, HR2, hb2⟩
    · have d103 : ((s[0].toNat : Int) != 103) = true := by
        rw [bne_iff_ne]; intro e; exact h103 (UInt8.toNat_inj.1 (by show _ = 103; omega))
      have HE : Hid (decodeQ (bl s) = .error (9, 0)) := hid (decode_head_err (by
        unfold headQ
        rw [if_pos (by rw [hhd]; intro e; injection e with e; exact h103 e)]))
      clear hhd h103
      go_enter Tryz.func27, Tryz.ntmps27
      go_wp2
      go_ret3
      exact ⟨_, 9, 0, rfl, hid (RestR.mkErr HE.out (by decide)), (by repeat (first | exact Below.refl _ _ | assumption | refine Below.alloc ?_ (by first | omega | (simp; omega) | simp) _ | refine Below.setCell ?_ (by first | omega | (simp; omega) | simp) _ | refine below_drewN' ?_ _ | refine Below.drew ?_))⟩
end Go.Proofs.YtkodhpilkaihjaaGreatDoor

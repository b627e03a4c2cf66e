/- Parts of the proof, joined: DKind -/
import Derived.Test.YtmncdbepjhmkgaaGreatDoorJ37
/- The kinds of parts, as the program tells them. -/
namespace Go.Proofs.YtmncdbepjhmkgaaGreatDoor
open Go.RowKit LS
attribute [local go_sem] asNumberNumber asNumberNegative asNumberPair asNumberGroup asNumberWindow asNumberSelector asNegativeNumber asNegativeNegative asNegativePair asNegativeGroup asNegativeWindow asNegativeSelector asPairNumber asPairNegative asPairPair asPairGroup asPairWindow asPairSelector asGroupNumber asGroupNegative asGroupPair asGroupGroup asGroupWindow asGroupSelector asWindowNumber asWindowNegative asWindowPair asWindowGroup asWindowWindow asWindowSelector asSelectorNumber asSelectorNegative asSelectorPair asSelectorGroup asSelectorWindow asSelectorSelector

/-- what KindOf hands back. -/
def KR (tp : Addr) (t : Tr) (kd : Int) (err : Value) : Prop := (kindT t = 0 ∧ err = .iface 198 (.pointer (some tp))) ∨ (kindT t = 1 ∧ kd = 0 ∧ err = .nilIface) ∨ (kindT t = 2 ∧ kd = 1 ∧ err = .nilIface)
def TypeAt (w : World) (tp : Addr) : Prop := w.cell? ⟨3, 0, none⟩ = some (.iface 198 (.pointer (some tp)))
theorem TypeAt.below {w w' : World} {tp : Addr} (h : TypeAt w tp) (hb : Below w.heap.size w w') : TypeAt w' tp := (hb.cell (p := ⟨_, 0, none⟩) (World.block_lt_of_cell? _ _ h)).trans h
def KC (t : Tr) : Prop := ∀ (w : World) (v : Value) (tp : Addr), PartV w t v → TypeAt w tp →
  Calls Tryz.prog 19 #[v] w fun e w' => ∃ (kd : Int) (err : Value), e = .returned (.tuple #[.int .i64 kd, err]) ∧ Hid (KR tp t kd err) ∧ Below w.heap.size w w'
theorem want_vector {t : Tr} (h : KC t) (w : World) (v : Value) (tp : Addr) (hv : PartV w t v) (ht : TypeAt w tp) :
    Calls Tryz.prog 44 #[v] w fun e w' => ∃ err : Value, e = .returned err ∧ Hid ((kindT t = 2 ∧ err = .nilIface) ∨ (kindT t ≠ 2 ∧ err = .iface 198 (.pointer (some tp)))) ∧ Below w.heap.size w w' := by
  have HC : Hid (Calls Tryz.prog 19 #[v] w _) := h w v tp hv ht
  have HT : Hid (TypeAt w tp) := ht
  obtain ⟨ty, u, rfl⟩ := PartV.shape hv
  clear h hv ht
  go_enter Tryz.func44, Tryz.ntmps44
  go_wp2_with fail
  refine HC.out.mono ?_
  rintro e w1 ⟨kd, err, rfl, hk, hb⟩
  have HB : Hid (Below w.heap.size w w1) := hb
  have htc : w1.cell? ⟨3, 0, none⟩ = some (.iface 198 (.pointer (some tp))) := HT.out.below hb
  clear hb HC
  rcases hk.out with ⟨h0, rfl⟩ | ⟨h0, rfl, rfl⟩ | ⟨h0, rfl, rfl⟩
  · have H0 : Hid (kindT t = 0) := h0
    clear hk h0
    go_wp2
    go_ret
    exact ⟨_, rfl, Or.inr ⟨by rw [H0.out]; decide, rfl⟩, HB.out⟩
  · have H0 : Hid (kindT t = 1) := h0
    clear hk h0
    go_wp2
    go_ret
    exact ⟨_, rfl, Or.inr ⟨by rw [H0.out]; decide, rfl⟩, HB.out⟩
  · have H0 : Hid (kindT t = 2) := h0
    clear hk h0
    go_wp2
    go_ret
    exact ⟨_, rfl, Or.inl ⟨H0.out, rfl⟩, HB.out⟩
theorem kindT_pair {x y : Nat} {a : Nd} {l r : Tr} (h : a.kind = 4 ∨ a.kind = 6) : kindT (.node x y a l r) = if kindT l = 0 ∨ kindT r = 0 ∨ (a.kind = 6 ∧ kindT l + kindT r ≠ 4) then 0 else if kindT l + kindT r = 2 then 1 else 2 := by
  show (if a.kind = 0 then _ else _) = _
  rw [if_neg (by omega), if_neg (by omega), if_neg (by omega), if_neg (by omega)]
set_option maxRecDepth 100000 in
set_option maxHeartbeats 4000000 in
theorem kind_pair {x y : Nat} {a : Nd} {l r : Tr} (hk : a.kind = 4 ∨ a.kind = 6) (hl : KC l) (hr : KC r) (w : World) (vl vr : Value) (tp : Addr) (hvl : PartV w l vl) (hvr : PartV w r vr) (ht : TypeAt w tp) :
    Calls Tryz.prog 45 #[.agg #[.int .i64 (opNo a), vl, vr]] w fun e w' => ∃ (kd : Int) (err : Value), e = .returned (.tuple #[.int .i64 kd, err]) ∧ Hid (KR tp (.node x y a l r) kd err) ∧ Below w.heap.size w w' := by
  obtain ⟨tyl, ul, rfl⟩ := PartV.shape hvl
  obtain ⟨tyr, ur, rfl⟩ := PartV.shape hvr
  have HKT := hid (kindT_pair (x := x) (y := y) (l := l) (r := r) hk)
  have HVR : Hid (PartV w r (.iface tyr ur)) := hvr
  have HT : Hid (TypeAt w tp) := ht
  obtain ⟨o, ho⟩ : ∃ o, o = opNo a := ⟨_, rfl⟩
  have hop : (a.kind = 6 ∧ ((o : Int) == 0) = true) ∨ (a.kind = 4 ∧ ((o : Int) == 0) = false) := by
    rcases hk with h | h
    · right
      refine ⟨h, ?_⟩
      rw [beq_eq_false_iff_ne, ho]; unfold opNo; rw [if_neg (by omega)]; omega
    · left
      refine ⟨h, ?_⟩
      rw [ho]; unfold opNo; rw [if_pos h]; rfl
  rw [← ho]
  have HC0 : Hid (∀ (W : World), Below w.heap.size w W → Calls Tryz.prog 19 #[.iface tyl ul] W fun e w' => ∃ (kd : Int) (err : Value), e = .returned (.tuple #[.int .i64 kd, err]) ∧ Hid (KR tp l kd err) ∧ Below W.heap.size W w') := hid (fun W hW => hl W _ tp (hvl.below hW) (ht.below hW))
  have HC1 : Hid (∀ (W : World), Below w.heap.size w W → Calls Tryz.prog 19 #[.iface tyr ur] W fun e w' => ∃ (kd : Int) (err : Value), e = .returned (.tuple #[.int .i64 kd, err]) ∧ Hid (KR tp r kd err) ∧ Below W.heap.size W w') := hid (fun W hW => hr W _ tp (hvr.below hW) (ht.below hW))
  clear hvl hvr ht hl hr hk ho
  go_enter Tryz.func45, Tryz.ntmps45
  go_upto_region 1 with fail
  refine wp_gen fun W0 hW0 => ?_
  have HB0 : Hid (Below w.heap.size w W0) := hid (by rw [hW0]; exact (Below.refl _ _).alloc (Nat.le_refl _) _)
  have HP0 : Hid (BAt W0 w.heap.size [.int .i64 o, .iface tyl ul, .iface tyr ur] 98) := hid (by rw [hW0]; exact Go.Deep.blk_alloc_new _ _)
  clear hW0
  have p0 := HP0.out.cell 0
  have p1 := HP0.out.cell 1
  have p2 := HP0.out.cell 2
  simp only [List.getElem?_cons_zero, List.getElem?_cons_succ] at p0 p1 p2
  go_wp2_with fail
  refine (HC0.out W0 HB0.out).mono ?_
  rintro e w1 ⟨kd, err, rfl, hkl, hb1⟩
  have HB1 : Hid (Below w.heap.size w w1) := HB0.out.trans (hb1.mono HB0.out.size)
  have HP1 := hid (HP0.out.below hb1)
  clear hb1 HB0 HP0 p0 p1 p2
  have p0 := HP1.out.cell 0
  have p1 := HP1.out.cell 1
  have p2 := HP1.out.cell 2
  simp only [List.getElem?_cons_zero, List.getElem?_cons_succ] at p0 p1 p2
  rcases hkl.out with ⟨hl0, rfl⟩ | ⟨hl0, rfl, rfl⟩ | ⟨hl0, rfl, rfl⟩
  · have HR : Hid (kindT (.node x y a l r) = 0) := hid (by rw [HKT.out, if_pos (Or.inl hl0)])
    clear hkl hl0
    go_wp2
    go_ret2
    exact ⟨_, _, rfl, Or.inl ⟨HR.out, rfl⟩, HB1.out⟩
  all_goals
    have HL0 := hid hl0
    clear hkl hl0
    go_wp2_with fail
    refine (HC1.out w1 HB1.out).mono ?_
    rintro e w2 ⟨kd2, err2, rfl, hkr, hb2⟩
    have HB2 : Hid (Below w.heap.size w w2) := HB1.out.trans (hb2.mono HB1.out.size)
    have HP2 := hid (HP1.out.below hb2)
    have htc : w2.cell? ⟨3, 0, none⟩ = some (.iface 198 (.pointer (some tp))) := HT.out.below HB2.out
    clear hb2 HB1 HP1 p0 p1 p2
    have p0 := HP2.out.cell 0
    simp only [List.getElem?_cons_zero] at p0
    rcases hkr.out with ⟨hr0, rfl⟩ | ⟨hr0, rfl, rfl⟩ | ⟨hr0, rfl, rfl⟩
    · have HR : Hid (kindT (.node x y a l r) = 0) := hid (by rw [HKT.out, if_pos (Or.inr (Or.inl hr0))])
      clear hkr hr0
      go_wp2
      go_ret2
      exact ⟨_, _, rfl, Or.inl ⟨HR.out, rfl⟩, HB2.out⟩
    all_goals
      have HR0 := hid hr0
      clear hkr hr0
      rcases hop with ⟨ha, ho⟩ | ⟨ha, ho⟩
      all_goals
        have HKX := hid (show kindT (.node x y a l r) = _ by rw [HKT.out, HL0.out, HR0.out, ha])
        clear ha
        first
          | (go_wp2
             go_ret2
             exact ⟨_, _, rfl, by first | exact Or.inr (Or.inl ⟨by rw [HKX.out]; rfl, rfl, rfl⟩) | exact Or.inr (Or.inr ⟨by rw [HKX.out]; rfl, rfl, rfl⟩) | exact Or.inl ⟨by rw [HKX.out]; rfl, rfl⟩, HB2.out⟩)
          | (go_wp2
             go_region
             all_goals
               go_wp2
               go_ret2
               exact ⟨_, _, rfl, Or.inl ⟨by rw [HKX.out]; rfl, rfl⟩, by exact ⟨HB2.out.os, HB2.out.tape, HB2.out.output, HB2.out.size, HB2.out.block⟩⟩)
set_option maxRecDepth 100000 in
set_option maxHeartbeats 4000000 in
theorem kind_any : ∀ t : Tr, KC t
  | .nil => fun _ _ _ h => h.elim
  | .node x y a l r => by
    have ihl := kind_any l
    have ihr := kind_any r
    intro w v tp hv ht
    rcases hv with ⟨hk, rfl⟩ | ⟨hk, nm, la, ln, lc, rfl, _⟩ | ⟨hk, wd, nm, la, ln, lc, rfl, _⟩ | ⟨hk, z, rfl, hz⟩ | ⟨hk, wd, la, ln, lc, z, rfl, _, _, hz⟩ | ⟨hk, z1, z2, rfl, hz1, hz2⟩
    · have HK : Hid (kindT (.node x y a l r) = 1) := hid (by show (if a.kind = 0 then _ else _) = _; rw [if_pos hk])
      clear ihl ihr hk ht
      go_enter Tryz.func19, Tryz.ntmps19
      go_wp2
      go_ret2
      exact ⟨_, _, rfl, Or.inr (Or.inl ⟨HK.out, rfl, rfl⟩), (by repeat (first | exact Below.refl _ _ | assumption | refine Below.alloc ?_ (by first | omega | (simp; omega) | simp) _ | refine Below.setCell ?_ (by first | omega | (simp; omega) | simp) _ | refine below_drewN' ?_ _ | refine Below.drew ?_))⟩
    · have HK : Hid (kindT (.node x y a l r) = 2) := hid (by show (if a.kind = 0 then _ else _) = _; rw [if_neg (by omega), if_pos (Or.inl hk)])
      clear ihl ihr hk ht
      go_enter Tryz.func19, Tryz.ntmps19
      go_wp2
      go_ret2
      exact ⟨_, _, rfl, Or.inr (Or.inr ⟨HK.out, rfl, rfl⟩), (by repeat (first | exact Below.refl _ _ | assumption | refine Below.alloc ?_ (by first | omega | (simp; omega) | simp) _ | refine Below.setCell ?_ (by first | omega | (simp; omega) | simp) _ | refine below_drewN' ?_ _ | refine Below.drew ?_))⟩
    · have HK : Hid (kindT (.node x y a l r) = 2) := hid (by show (if a.kind = 0 then _ else _) = _; rw [if_neg (by omega), if_pos (Or.inr hk)])
      clear ihl ihr hk ht
      go_enter Tryz.func19, Tryz.ntmps19
      go_wp2
      go_ret2
      exact ⟨_, _, rfl, Or.inr (Or.inr ⟨HK.out, rfl, rfl⟩), (by repeat (first | exact Below.refl _ _ | assumption | refine Below.alloc ?_ (by first | omega | (simp; omega) | simp) _ | refine Below.setCell ?_ (by first | omega | (simp; omega) | simp) _ | refine below_drewN' ?_ _ | refine Below.drew ?_))⟩
    · have HK : Hid (kindT (.node x y a l r) = kindT l) := hid (by show (if a.kind = 0 then _ else _) = _; rw [if_neg (by omega), if_neg (by omega), if_pos hk])
      obtain ⟨ty, u, rfl⟩ := PartV.shape hz
      have HC : Hid (∀ W, Below w.heap.size w W → Calls Tryz.prog 19 #[.iface ty u] W fun e w' => ∃ (kd : Int) (err : Value), e = .returned (.tuple #[.int .i64 kd, err]) ∧ Hid (KR tp l kd err) ∧ Below W.heap.size W w') := hid (fun W hW => ihl W _ tp (hz.below hW) (ht.below hW))
      clear ihl ihr hk ht hz
      go_enter Tryz.func19, Tryz.ntmps19
      go_wp2_with fail
      refine calls_gen fun W hW => ?_
      have HB : Hid (Below w.heap.size w W) := hid (by rw [hW]; exact (by repeat (first | exact Below.refl _ _ | assumption | refine Below.alloc ?_ (by first | omega | (simp; omega) | simp) _ | refine Below.setCell ?_ (by first | omega | (simp; omega) | simp) _ | refine below_drewN' ?_ _ | refine Below.drew ?_)))
      clear hW
      refine (HC.out W HB.out).mono ?_
      rintro e w1 ⟨kd, err, rfl, hkr, hb⟩
      have HB1 : Hid (Below w.heap.size w w1) := HB.out.trans (hb.mono HB.out.size)
      clear hb
      go_wp2
      go_ret2
      exact ⟨_, _, rfl, by unfold KR; rw [HK.out]; exact hkr, HB1.out⟩
    · have HK : Hid (kindT (.node x y a l r) = if kindT l = 2 then 2 else 0) := hid (by show (if a.kind = 0 then _ else _) = _; rw [if_neg (by omega), if_neg (by omega), if_neg (by omega), if_pos hk])
      obtain ⟨ty, u, rfl⟩ := PartV.shape hz
      have HC : Hid (∀ W, Below w.heap.size w W → Calls Tryz.prog 44 #[.iface ty u] W fun e w' => ∃ err : Value, e = .returned err ∧ Hid ((kindT l = 2 ∧ err = .nilIface) ∨ (kindT l ≠ 2 ∧ err = .iface 198 (.pointer (some tp)))) ∧ Below W.heap.size W w') := hid (fun W hW => want_vector ihl W _ tp (hz.below hW) (ht.below hW))
      clear ihl ihr hk ht hz
      go_enter Tryz.func19, Tryz.ntmps19
      go_wp2_with fail
      refine calls_gen fun W hW => ?_
      have HB : Hid (Below w.heap.size w W) := hid (by rw [hW]; exact (by repeat (first | exact Below.refl _ _ | assumption | refine Below.alloc ?_ (by first | omega | (simp; omega) | simp) _ | refine Below.setCell ?_ (by first | omega | (simp; omega) | simp) _ | refine below_drewN' ?_ _ | refine Below.drew ?_)))
      clear hW
      refine (HC.out W HB.out).mono ?_
      rintro e w1 ⟨err, rfl, hkr, hb⟩
      have HB1 : Hid (Below w.heap.size w w1) := HB.out.trans (hb.mono HB.out.size)
      clear hb
      go_wp2
      go_ret2
      refine ⟨_, _, rfl, ?_, HB1.out⟩
      rcases hkr.out with ⟨h2, he⟩ | ⟨h2, he⟩
      · exact Or.inr (Or.inr ⟨by rw [HK.out, if_pos h2], rfl, he⟩)
      · exact Or.inl ⟨by rw [HK.out, if_neg h2], he⟩
    · obtain ⟨ty, u, rfl⟩ := PartV.shape hz1
      obtain ⟨ty2, u2, rfl⟩ := PartV.shape hz2
      have HC : Hid (∀ W, Below w.heap.size w W → Calls Tryz.prog 45 #[.agg #[.int .i64 (opNo a), .iface ty u, .iface ty2 u2]] W fun e w' => ∃ (kd : Int) (err : Value), e = .returned (.tuple #[.int .i64 kd, err]) ∧ Hid (KR tp (.node x y a l r) kd err) ∧ Below W.heap.size W w') := hid (fun W hW => kind_pair hk ihl ihr W _ _ tp (hz1.below hW) (hz2.below hW) (ht.below hW))
      clear ihl ihr hk ht hz1 hz2
      go_enter Tryz.func19, Tryz.ntmps19
      go_wp2_with fail
      refine calls_gen fun W hW => ?_
      have HB : Hid (Below w.heap.size w W) := hid (by rw [hW]; exact (by repeat (first | exact Below.refl _ _ | assumption | refine Below.alloc ?_ (by first | omega | (simp; omega) | simp) _ | refine Below.setCell ?_ (by first | omega | (simp; omega) | simp) _ | refine below_drewN' ?_ _ | refine Below.drew ?_)))
      clear hW
      refine (HC.out W HB.out).mono ?_
      rintro e w1 ⟨kd, err, rfl, hkr, hb⟩
      have HB1 : Hid (Below w.heap.size w w1) := HB.out.trans (hb.mono HB.out.size)
      clear hb
      go_wp2
      go_ret2
      exact ⟨_, _, rfl, hkr, HB1.out⟩
end Go.Proofs.YtmncdbepjhmkgaaGreatDoor

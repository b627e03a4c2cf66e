/- Parts. -/
import Derived.Test.YtpbemaaghbbocaaGreatDoorA11
namespace Go.Proofs.YtpbemaaghbbocaaGreatDoor
open Go.RowKit LS
theorem idx_get {w : List UInt8} : ∀ {l : List (List UInt8)} {g : Nat}, idx w l = some g → l.getD g [] = w
  | [], _, h => by cases h
  | x :: l, g, h => by
    unfold idx at h
    by_cases hx : x = w
    · rw [if_pos hx] at h
      injection h with h
      subst h; exact hx
    · rw [if_neg hx] at h
      cases hi : idx w l with
      | none => rw [hi] at h; cases h
      | some j =>
        rw [hi] at h
        injection h with h
        subst h
        exact idx_get (l := l) hi
theorem begins_starts {p : PTok} {t : Tok} (h : TokIs p t) (hw : TokWf t) (hk : t.kind ≤ 5) : beginsB p = startsT t := by
  have m1 := mark_isT h hw hk (s := ⟨#[45]⟩) (by decide) (by decide)
  have m2 := mark_isT h hw hk (s := ⟨#[40]⟩) (by decide) (by decide)
  have hx : p.tx.toList = t.txt := by rw [toList_bl]; exact h.2.2.1
  unfold beginsB startsT
  have hp := pk_mark hk
  have h1 := h.1
  by_cases k1 : t.kind = 1
  · have e : ((p.kd : Int) == 0) = true := by rw [h1, hp.2.2.2.1.2 k1]; rfl
    rw [e, k1]; simp
  · have e : ((p.kd : Int) == 0) = false := by
      rw [beq_eq_false_iff_ne]; intro e
      exact k1 (hp.2.2.2.1.1 (by omega))
    rw [e, beq_eq_false_iff_ne.2 k1]
    by_cases k2 : t.kind = 2
    · have e2 : ((p.kd : Int) == 1) = true := by rw [h1, hp.2.1.2 k2]; rfl
      have z1 : isT [45] t = false := by rw [← show markB p ⟨#[45]⟩ = isT [45] t from m1]; unfold markB; rw [h1, hp.2.1.2 k2]; rfl
      have z2 : isT [40] t = false := by rw [← show markB p ⟨#[40]⟩ = isT [40] t from m2]; unfold markB; rw [h1, hp.2.1.2 k2]; rfl
      rw [e2, z1, z2, k2, hx]
      unfold isT
      rw [k2]
      simp [wOr, wBy]
    · have e2 : ((p.kd : Int) == 1) = false := by
        rw [beq_eq_false_iff_ne]; intro e
        exact k2 (hp.2.1.1 (by omega))
      rw [e2, beq_eq_false_iff_ne.2 k2, show markB p ⟨#[45]⟩ = isT [45] t from m1, show markB p ⟨#[40]⟩ = isT [40] t from m2]
      simp
theorem innerP_num {rec : Nat → List Tok → Nat → Out Tr} {ts : List Tok} {d : Nat} (h : (hd ts).kind = 1) : innerP rec ts d = .ok (leafT ⟨0, 0, numV (hd ts).txt, [], [], []⟩, ts.tail) := if_pos h
theorem innerP_neg {rec : Nat → List Tok → Nat → Out Tr} {ts : List Tok} {d : Nat} (h : ¬ (hd ts).kind = 1) (h2 : isT [45] (hd ts) = true) : innerP rec ts d = bnd (rec 3 ts.tail d) fun a r => .ok (.node 0 0 (nd0 3 0) a .nil, r) := by
  unfold innerP; rw [if_neg h, if_pos h2]
theorem innerP_within {rec : Nat → List Tok → Nat → Out Tr} {ts : List Tok} {d : Nat} (h : ¬ (hd ts).kind = 1) (h2 : ¬ isT [45] (hd ts) = true) (h3 : isT [40] (hd ts) = true) : innerP rec ts d = withinP rec ts d := by
  unfold innerP; rw [if_neg h, if_neg h2, if_pos h3]
theorem innerP_group {rec : Nat → List Tok → Nat → Out Tr} {ts : List Tok} {d g : Nat} (h : ¬ (hd ts).kind = 1) (h2 : ¬ isT [45] (hd ts) = true) (h3 : ¬ isT [40] (hd ts) = true) (h4 : idx (hd ts).txt groupWords = some g) : innerP rec ts d = groupP rec g ts.tail d := by
  unfold innerP; rw [if_neg h, if_neg h2, if_neg h3, h4]
theorem innerP_win {rec : Nat → List Tok → Nat → Out Tr} {ts : List Tok} {d o : Nat} (h : ¬ (hd ts).kind = 1) (h2 : ¬ isT [45] (hd ts) = true) (h3 : ¬ isT [40] (hd ts) = true) (h4 : idx (hd ts).txt groupWords = none) (h5 : idx (hd ts).txt overWords = some o) : innerP rec ts d = winP o ts.tail := by
  unfold innerP; rw [if_neg h, if_neg h2, if_neg h3, h4]; simp only; rw [h5]
theorem innerP_sel {rec : Nat → List Tok → Nat → Out Tr} {ts : List Tok} {d : Nat} (h : ¬ (hd ts).kind = 1) (h2 : ¬ isT [45] (hd ts) = true) (h3 : ¬ isT [40] (hd ts) = true) (h4 : idx (hd ts).txt groupWords = none) (h5 : idx (hd ts).txt overWords = none) : innerP rec ts d = bnd (selP ts) fun p r => .ok (leafT p, r) := by
  unfold innerP; rw [if_neg h, if_neg h2, if_neg h3, h4]; simp only; rw [h5]
theorem startsT_live {t : Tok} (h : startsT t = true) : ¬ (t.kind = 0 ∨ t.kind = 5) := by
  rintro (h0 | h0)
  all_goals
    unfold startsT isT at h
    rw [h0] at h
    simp at h
set_option maxRecDepth 100000 in
set_option maxHeartbeats 8000000 in
theorem factor_t {rec : Nat → List Tok → Nat → Out Tr} {m : Nat}
    (hfa : Reads 65 (fun d => [.int .i64 (d + 1 : Nat)]) (rec 3) (fun ts => ts.length < m))
    (hbr : Reads 111 (fun d => [.int .i64 (d + 1 : Nat)]) (withinP rec) (fun ts => ts.length ≤ m)) :
    Reads 65 (fun d => [.int .i64 (d + 1 : Nat)]) (factorP rec) (fun ts => ts.length ≤ m) := by
  intro w R k ts deep h hdp hts
  have H : Hid (RK w R k ts) := h
  have HD : Hid (deep ≤ 20) := hdp
  have HM : Hid (ts.length ≤ m) := hts
  have hbl : R.b < w.heap.size := (Array.getElem?_eq_some_iff.1 h.rd.cells).1
  clear h hts
  go_enter Tryz.func65, Tryz.ntmps65
  go_wp2_with fail
  refine (token_t H.out).mono ?_
  rintro e w1 ⟨⟨kd, at_, tx, tv⟩, rfl, ht, hb1⟩
  have HG1 : Hid (w.grownBy w1 (some R.b)) := grown_of_below hb1
  have HK1 : Hid (RK w1 R k ts) := H.out.below hb1
  clear hb1
  go_upto_region 2 with fail
  refine wp_gen fun W2 hW2 => ?_
  have hb2 : Below w1.heap.size w1 W2 := by rw [hW2]; exact (Below.refl _ _).alloc (Nat.le_refl _) _
  have HT2 : Hid (BAt W2 w1.heap.size [.int .i64 kd, .int .i64 at_, .string tx, .int .i64 tv] 87) := hid (by rw [hW2]; exact Go.Deep.blk_alloc_new _ _)
  have HG2 : Hid (w.grownBy W2 (some R.b)) := grown_trans HG1.out (grown_of_below hb2)
  have HK2 : Hid (RK W2 R k ts) := HK1.out.below hb2
  have hz1 : R.b < w1.heap.size := by have := HG1.out.size; omega
  have HWF := hid HK2.out.wf.head
  clear hW2 hb2 HG1 HK1
  have t0 := HT2.out.cell 0
  have t1 := HT2.out.cell 1
  have t2 := HT2.out.cell 2
  have t3 := HT2.out.cell 3
  simp only [List.getElem?_cons_zero, List.getElem?_cons_succ] at t0 t1 t2 t3
  go_wp2_with fail
  refine (begins_any ⟨kd, at_, tx, tv⟩ W2).mono ?_
  rintro e w3 ⟨rfl, hb3⟩
  rw [begins_starts ht.out HWF.out.1 HWF.out.2.2]
  have HT3 := hid (HT2.out.below hb3)
  have HG3 : Hid (w.grownBy w3 (some R.b)) := grown_trans HG2.out (grown_of_below hb3)
  have HK3 : Hid (RK w3 R k ts) := HK2.out.below hb3
  clear hb3 HT2 HG2 HK2 t0 t1 t2 t3
  cases hst : startsT (LS.hd ts)
  · have HPE : Hid (factorP rec ts deep = .error (2, (LS.hd ts).at_)) := hid (by unfold factorP; rw [if_neg (by rw [hst]; decide)])
    clear hst
    go_wp2_with fail
    refine (cannotStand_t HK3.out).mono ?_
    rintro e wE ⟨v, rfl, HE, hbE⟩
    obtain ⟨fa, rfl⟩ := HE.out.shape
    have HGE : Hid (w.grownBy wE (some R.b)) := grown_trans HG3.out (grown_of_below hbE)
    clear hbE
    go_wp2
    go_ret2
    exact ⟨_, _, rfl, Or.inl rfl, by rw [HPE.out]; exact HE, HGE.out⟩
  · have HLV : Hid (¬ ((LS.hd ts).kind = 0 ∨ (LS.hd ts).kind = 5)) := startsT_live hst
    by_cases hd20 : deep = 20
    · have HPE : Hid (factorP rec ts deep = .error (3, (LS.hd ts).at_)) := hid (by unfold factorP; rw [if_pos hst, if_pos hd20])
      subst hd20
      have t1 := HT3.out.cell 1
      simp only [List.getElem?_cons_zero, List.getElem?_cons_succ] at t1
      have hdg := HK3.out.dp
      clear hst
      go_wp2_with fail
      refine (atByte_any _ _ _).mono ?_
      rintro e wE ⟨rfl, hwE⟩
      have HE : Hid (ErrIs wE R (3, (LS.hd ts).at_) (.iface 94 (.pointer (some ⟨w3.heap.size, 0, none⟩)))) := hid (Or.inr ⟨rfl, w3.heap.size, rfl, by rw [hwE]; refine (Go.Deep.blk_alloc_new _ _).trans ?_; rw [show (at_ : Int) = ((LS.hd ts).at_ : Int) from congrArg _ ht.out.2.1]⟩)
      have HGE : Hid (w.grownBy wE (some R.b)) := hid (by rw [hwE]; exact grown_alloc HG3.out _)
      clear hwE
      go_wp2
      go_ret2
      exact ⟨_, _, rfl, Or.inl rfl, by rw [HPE.out]; exact HE, HGE.out⟩
    · have hd19 : deep ≤ 19 := by omega
      have HPF : Hid (factorP rec ts deep = innerP rec ts (deep + 1)) := hid (by unfold factorP; rw [if_pos hst, if_neg hd20])
      obtain ⟨rc0, rc1, rfz, rcx⟩ := HK3.out.rd.all
      have hlt := HK3.out.lt
      have hln := HK3.out.len
      clear rcx hst hd20
      have t0 := HT3.out.cell 0
      have t1 := HT3.out.cell 1
      have t2 := HT3.out.cell 2
      have t3 := HT3.out.cell 3
      simp only [List.getElem?_cons_zero, List.getElem?_cons_succ] at t0 t1 t2 t3
      by_cases hk1 : (LS.hd ts).kind = 1
      · have hkd : kd = 0 := by have := ht.out.1; rw [hk1] at this; exact this
        subst hkd
        have HTV : Hid ((tv : Int) = numV (LS.hd ts).txt) := ht.out.2.2.2 hk1
        have HPI : Hid (factorP rec ts deep = .ok (leafT ⟨0, 0, numV (LS.hd ts).txt, [], [], []⟩, ts.tail)) := hid (by rw [HPF.out, innerP_num hk1])
        clear hk1
        go_upto_region 8 with fail
        refine wp_gen fun W8 hW8 => ?_
        have HK8 : Hid (RK W8 R (k + 1) ts.tail) := hid (by rw [hW8]; exact HK3.out.step HLV.out)
        have HG8 : Hid (w.grownBy W8 (some R.b)) := hid (by rw [hW8]; exact grown_set HG3.out (Or.inl rfl) _)
        have HT8 : Hid (BAt W8 w1.heap.size [.int .i64 (0 : Nat), .int .i64 at_, .string tx, .int .i64 tv] 87) := hid (by rw [hW8]; exact HT3.out.other (by show w1.heap.size ≠ R.b; omega) _)
        clear hW8 rc0 rc1 rfz t0 t1 t2 t3
        have t3 := HT8.out.cell 3
        simp only [List.getElem?_cons_zero, List.getElem?_cons_succ] at t3
        go_wp2
        go_ret2
        exact ⟨_, _, rfl, Or.inr ⟨_, _, rfl⟩, by rw [HPI.out]; exact ⟨rfl, ⟨_, HK8.out⟩, Or.inl ⟨rfl, by rw [← HTV.out]; rfl⟩⟩, HG8.out⟩
      · have hkd : ((kd : Int) == 0) = false := by
          rw [beq_eq_false_iff_ne]; intro e
          exact hk1 ((pk_mark HWF.out.2.2).2.2.2.1.1 (by have := ht.out.1; simp only at this; omega))
        have HK1N : Hid (¬ (LS.hd ts).kind = 1) := hk1
        clear hk1
        go_wp2_with fail
        refine (isMark_t ht.out HWF.out.1 HWF.out.2.2 ⟨#[45]⟩ (by decide) (by decide) w3).mono ?_
        rintro e w4 ⟨rfl, hb4⟩
        have HT4 := hid (HT3.out.below hb4)
        have HG4 : Hid (w.grownBy w4 (some R.b)) := grown_trans HG3.out (grown_of_below hb4)
        have HK4 : Hid (RK w4 R k ts) := HK3.out.below hb4
        clear hb4 HT3 HG3 HK3 t0 t1 t2 t3 rc0 rc1 rfz
        obtain ⟨rc0, rc1, rfz, rcx⟩ := HK4.out.rd.all
        have t0 := HT4.out.cell 0
        have t1 := HT4.out.cell 1
        have t2 := HT4.out.cell 2
        have t3 := HT4.out.cell 3
        simp only [List.getElem?_cons_zero, List.getElem?_cons_succ] at t0 t1 t2 t3
        clear rcx
        by_cases hmn : isT [45] (LS.hd ts) = true
        · rw [show isT (bl ⟨#[45]⟩) (LS.hd ts) = true from hmn]
          have HPI : Hid (factorP rec ts deep = bnd (rec 3 ts.tail (deep + 1)) fun a r => .ok (.node 0 0 (nd0 3 0) a .nil, r)) := hid (by rw [HPF.out, innerP_neg HK1N.out hmn])
          clear hmn
          go_upto_region 11 with fail
          refine wp_gen fun W8 hW8 => ?_
          have HK8 : Hid (RK W8 R (k + 1) ts.tail) := hid (by rw [hW8]; exact HK4.out.step HLV.out)
          have HG8 : Hid (w.grownBy W8 (some R.b)) := hid (by rw [hW8]; exact grown_set HG4.out (Or.inl rfl) _)
          clear hW8 rc0 rc1 rfz t0 t1 t2 t3 HK4 HG4 HT4
          go_wp2_with fail
          refine (hfa W8 R (k + 1) ts.tail (deep + 1) HK8.out (by omega) (by show ts.tail.length < m; have := H.out.pos; have := HM.out; rw [List.length_tail]; omega)).mono ?_
          rintro e w9 ⟨pv, v, rfl, hif, hres, hg9⟩
          have HG9 : Hid (w.grownBy w9 (some R.b)) := grown_trans HG8.out hg9
          clear hg9
          rcases hif with rfl | ⟨ty, u, rfl⟩
          all_goals
            go_wp2
            go_ret2
            refine ⟨_, _, rfl, Or.inr ⟨_, _, rfl⟩, ?_, HG9.out⟩
            rw [HPI.out]
            cases hrp : rec 3 ts.tail (deep + 1) with
            | error er => exact hres.out.err hrp
            | ok pr =>
              obtain ⟨t, r3⟩ := pr
              obtain ⟨h1, h2, h3⟩ := hres.out.good hrp
              exact ⟨h1, h2, Or.inr (Or.inr (Or.inr (Or.inl ⟨rfl, _, rfl, h3⟩)))⟩
        · rw [show isT (bl ⟨#[45]⟩) (LS.hd ts) = false from Bool.eq_false_iff.2 hmn]
          have HMN : Hid (¬ isT [45] (LS.hd ts) = true) := hmn
          clear hmn
          go_wp2_with fail
          refine (isMark_t ht.out HWF.out.1 HWF.out.2.2 ⟨#[40]⟩ (by decide) (by decide) w4).mono ?_
          rintro e w5 ⟨rfl, hb5⟩
          have HT5 := hid (HT4.out.below hb5)
          have HG5 : Hid (w.grownBy w5 (some R.b)) := grown_trans HG4.out (grown_of_below hb5)
          have HK5 : Hid (RK w5 R k ts) := HK4.out.below hb5
          clear hb5 HT4 HG4 HK4 t0 t1 t2 t3 rc0 rc1 rfz
          obtain ⟨rc0, rc1, rfz, rcx⟩ := HK5.out.rd.all
          have t2 := HT5.out.cell 2
          simp only [List.getElem?_cons_zero, List.getElem?_cons_succ] at t2
          clear rcx
          by_cases hop : isT [40] (LS.hd ts) = true
          · rw [show isT (bl ⟨#[40]⟩) (LS.hd ts) = true from hop]
            have HPI : Hid (factorP rec ts deep = withinP rec ts (deep + 1)) := hid (by rw [HPF.out, innerP_within HK1N.out HMN.out hop])
            clear hop
            go_wp2_with fail
            refine (hbr w5 R k ts (deep + 1) HK5.out (by omega) HM.out).mono ?_
            rintro e w9 ⟨pv, v, rfl, hif, hres, hg9⟩
            have HG9 : Hid (w.grownBy w9 (some R.b)) := grown_trans HG5.out hg9
            have HIF : Hid (IfaceV pv) := hif
            clear hg9 hif
            go_wp2
            go_ret2
            exact ⟨_, _, rfl, HIF.out, by rw [HPI.out]; exact hres, HG9.out⟩
          · rw [show isT (bl ⟨#[40]⟩) (LS.hd ts) = false from Bool.eq_false_iff.2 hop]
            have HOPN : Hid (¬ isT [40] (LS.hd ts) = true) := hop
            have HTX : Hid (bl tx = (LS.hd ts).txt) := ht.out.2.2.1
            clear hop
            go_wp2_with fail
            refine (isGroupWord_any tx _).mono ?_
            rintro e wq ⟨rfl, rfl⟩
            rw [HTX.out]
            cases hgi : idx (LS.hd ts).txt groupWords with
            | some g =>
              have HPI : Hid (factorP rec ts deep = groupP rec g ts.tail (deep + 1)) := hid (by rw [HPF.out, innerP_group HK1N.out HMN.out HOPN.out hgi])
              have HWD : Hid (bl tx = groupWords.getD g []) := hid (by rw [idx_get hgi, HTX.out])
              rw [show (some g).isSome = true from rfl]
              clear hgi
              go_upto_region 17 with fail
              refine wp_gen fun W8 hW8 => ?_
              have HK8 : Hid (RK W8 R (k + 1) ts.tail) := hid (by rw [hW8]; exact HK5.out.step HLV.out)
              have HG8 : Hid (w.grownBy W8 (some R.b)) := hid (by rw [hW8]; exact grown_set HG5.out (Or.inl rfl) _)
              have HT8 : Hid (BAt W8 w1.heap.size [.int .i64 kd, .int .i64 at_, .string tx, .int .i64 tv] 87) := hid (by rw [hW8]; exact HT5.out.other (by show w1.heap.size ≠ R.b; omega) _)
              clear hW8 rc0 rc1 rfz t2 HK5 HG5 HT5
              have t2 := HT8.out.cell 2
              simp only [List.getElem?_cons_zero, List.getElem?_cons_succ] at t2
              go_wp2_with fail
              refine (group_t hbr tx g HWD.out W8 R (k + 1) ts.tail (deep + 1) HK8.out (by omega) (by show ts.tail.length ≤ m; have := HM.out; rw [List.length_tail]; omega)).mono ?_
              rintro e w9 ⟨pv, v, rfl, hif, hres, hg9⟩
              have HG9 : Hid (w.grownBy w9 (some R.b)) := grown_trans HG8.out hg9
              have HIF : Hid (IfaceV pv) := hif
              clear hg9 hif
              go_wp2
              go_ret2
              exact ⟨_, _, rfl, HIF.out, by rw [HPI.out]; exact hres, HG9.out⟩
            | none =>
              rw [show (none : Option Nat).isSome = false from rfl]
              have HGN : Hid (idx (LS.hd ts).txt groupWords = none) := hgi
              clear hgi
              go_wp2_with fail
              refine (isWindowWord_any tx _).mono ?_
              rintro e wq ⟨rfl, rfl⟩
              rw [HTX.out]
              cases hoi : idx (LS.hd ts).txt overWords with
              | some o =>
                have HPI : Hid (factorP rec ts deep = winP o ts.tail) := hid (by rw [HPF.out, innerP_win HK1N.out HMN.out HOPN.out HGN.out hoi])
                have HWD : Hid (bl tx = overWords.getD o []) := hid (by rw [idx_get hoi, HTX.out])
                rw [show (some o).isSome = true from rfl]
                clear hoi
                go_upto_region 20 with fail
                refine wp_gen fun W8 hW8 => ?_
                have HK8 : Hid (RK W8 R (k + 1) ts.tail) := hid (by rw [hW8]; exact HK5.out.step HLV.out)
                have HG8 : Hid (w.grownBy W8 (some R.b)) := hid (by rw [hW8]; exact grown_set HG5.out (Or.inl rfl) _)
                have HT8 : Hid (BAt W8 w1.heap.size [.int .i64 kd, .int .i64 at_, .string tx, .int .i64 tv] 87) := hid (by rw [hW8]; exact HT5.out.other (by show w1.heap.size ≠ R.b; omega) _)
                clear hW8 rc0 rc1 rfz t2 HK5 HG5 HT5
                have t2 := HT8.out.cell 2
                simp only [List.getElem?_cons_zero, List.getElem?_cons_succ] at t2
                go_wp2_with fail
                refine (window_t HK8.out tx o HWD.out).mono ?_
                rintro e w9 ⟨pv, v, rfl, hif, hres, hg9⟩
                have HG9 : Hid (w.grownBy w9 (some R.b)) := grown_trans HG8.out hg9
                have HIF : Hid (IfaceV pv) := hif
                clear hg9 hif
                go_wp2
                go_ret2
                exact ⟨_, _, rfl, HIF.out, by rw [HPI.out]; exact hres, HG9.out⟩
              | none =>
                rw [show (none : Option Nat).isSome = false from rfl]
                have HPI : Hid (factorP rec ts deep = bnd (selP ts) fun p r => .ok (leafT p, r)) := hid (by rw [HPF.out, innerP_sel HK1N.out HMN.out HOPN.out HGN.out hoi])
                clear hoi
                go_wp2_with fail
                refine (selector_t HK5.out).mono ?_
                rintro e w9 ⟨nm, la, ln, lc, v, rfl, hres, hg9⟩
                have HG9 : Hid (w.grownBy w9 (some R.b)) := grown_trans HG5.out hg9
                clear hg9
                go_wp2
                go_ret2
                refine ⟨_, _, rfl, Or.inr ⟨_, _, rfl⟩, ?_, HG9.out⟩
                rw [HPI.out]
                cases hsp : selP ts with
                | error er => exact hres.out.err hsp
                | ok pr =>
                  obtain ⟨nd, r3⟩ := pr
                  obtain ⟨h1, h2, h3, h4⟩ := hres.out.good hsp
                  exact ⟨h1, h2, Or.inr (Or.inl ⟨(tw_selP hsp).2.1, nm, la, ln, lc, rfl, h3, h4⟩)⟩
end Go.Proofs.YtpbemaaghbbocaaGreatDoor

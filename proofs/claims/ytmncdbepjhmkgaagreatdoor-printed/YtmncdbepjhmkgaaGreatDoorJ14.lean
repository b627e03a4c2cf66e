/- Parts of the proof, joined: QFactor -/
import Derived.Test.YtmncdbepjhmkgaaGreatDoorJ13
import Derived.Deep.LoopGhost
/- What the document's reader does at a factor. -/
namespace Go.Proofs.YtmncdbepjhmkgaaGreatDoor
open Go.RowKit LS

theorem St.setDeep {w : World} {b : Nat} {pv : Value} {s : ByteArray} {deep : Nat} {r : Out Unit} (h : St w b pv s deep r) (d : Nat) : St (w.setCell ⟨b, 6, none⟩ (.int .i64 d)) b pv s d r := by
  cases r with
  | error x =>
    obtain ⟨q, h1, h2, h3, h4, h5, h6⟩ := h
    exact ⟨{ q with deep := d }, h1.set 6 _ rfl, h2, rfl, h4, h5, h6⟩
  | ok x =>
    obtain ⟨⟨q, h1, h2, h3, h4, h5, h6, h7⟩, _⟩ := h
    exact ⟨⟨{ q with deep := d }, h1.set 6 _ rfl, h2, h3, rfl, h5, h6, h7⟩, trivial⟩
theorem St.deepCell {w : World} {b : Nat} {pv : Value} {s : ByteArray} {deep : Nat} {r : Out Unit} (h : St w b pv s deep r) : w.cell? ⟨b, 6, none⟩ = some (.int .i64 deep) ∧ w.frozen? ⟨b, 6, none⟩ = false := by
  obtain ⟨q, hq, _, hd, _⟩ := h.view
  rw [← hd]
  exact ⟨hq.all.2.2.2.2.2.2.1, hq.frozen 6⟩
theorem PartRes.redeep {w w1 w2 : World} {b : Nat} {pv : Value} {s : ByteArray} {deep d : Nat} {xs : List Value} {M : Nat} {R : Out Tr} {i : Int} (hk : Kept b pv w pv w1) (h : PartRes w1 b pv s d xs M R i w2) : PartRes w b pv s deep xs M R i (w2.setCell ⟨b, 6, none⟩ (.int .i64 deep)) := by
  obtain ⟨n', pv', ys, h1, h2, h3, h4, h5⟩ := h.out
  have hg : w2.grownBy (w2.setCell ⟨b, 6, none⟩ (.int .i64 deep)) (some b) := grown_set (grown_refl _ _) (Or.inl rfl) _
  obtain ⟨q, hq, _⟩ := h1.view
  refine ⟨n', pv', ys, h1.setDeep deep, row_grown h1 h2 hg, (hk.trans h3).grown hg, h4, ?_⟩
  intro t z e
  obtain ⟨k, k1, k2, k3⟩ := h5 t z e
  refine ⟨k, k1, ?_, k3⟩
  have := Rep.kept hq h2 ((Kept.refl b pv' w2).grown hg) [] t k k2
  rwa [List.append_nil] at this
def ErrC (f : FuncId) : Prop := ∀ (w : World) (b : Nat) (pv : Value) (e p deep : Nat), QErr w b pv e p deep → Calls Tryz.prog f #[.pointer (some ⟨b, 0, none⟩)] w fun r w' => r = .returned (.int .i64 0) ∧ w' = w
theorem PartC.of_ok {f : FuncId} {s : ByteArray} {R : List Tok → Nat → Out Tr} {L : Nat} (he : ErrC f)
    (h : ∀ (w : World) (b : Nat) (pv : Value) (deep : Nat) (ts : List Tok) (n : Nat) (xs : List Value) (M : Nat), St w b pv s deep (.ok ((), ts)) → w.ownsRow 0 80 8 pv n xs → M ≤ 6000 → n + ts.length ≤ M → ts.length ≤ L → deep ≤ 20 →
      Calls Tryz.prog f #[.pointer (some ⟨b, 0, none⟩)] w fun e w' => ∃ i : Int, e = .returned (.int .i64 i) ∧ PartRes w b pv s deep xs M (R ts deep) i w') : PartC f s R L := by
  intro w b pv deep r n xs M h1 h2 h3 h4 h5 h6
  cases r with
  | error x =>
    refine (he w b pv x.1 x.2 deep h1).mono ?_
    rintro e w' ⟨rfl, rfl⟩
    exact ⟨0, rfl, PartRes.error h1 h2 h4⟩
  | ok x => exact h w b pv deep x.2 n xs M h1 h2 h3 h4 (h5 _ rfl) h6
theorem St.pos {w : World} {b : Nat} {pv : Value} {s : ByteArray} {deep : Nat} {ts : List Tok} (h : St w b pv s deep (.ok ((), ts))) : 0 < ts.length := by
  obtain ⟨_, _, _, _, _, _, h, _⟩ := h.tok; omega
theorem PartC.zero {f : FuncId} {s : ByteArray} {R : List Tok → Nat → Out Tr} (he : ErrC f) : PartC f s R 0 :=
  PartC.of_ok he fun w b pv deep ts n xs M h1 _ _ _ h5 _ => absurd h1.pos (by omega)
theorem starts_word {t : Tok} (h : startsT t = true) (hk : t.kind ≠ 1) (hm : isT [45] t = false) (ho : isT [40] t = false) : t.kind = 2 ∧ isT wOr t = false ∧ isT wBy t = false := by
  unfold startsT at h
  rw [hm, ho] at h
  have : (t.kind == 1) = false := by rw [beq_eq_false_iff_ne]; exact hk
  rw [this] at h
  simp at h
  exact ⟨h.1.1, h.1.2, h.2⟩
/-- inner, whatever a factor begins with. -/
theorem inner_any {s : ByteArray} (hs : s.size ≤ 5000) {rec : Nat → List Tok → Nat → Out Tr} {L : Nat} (hf : PartC 100 s (fun ts d => rec 3 ts d) L) (hq : PartC 25 s (fun ts d => rec 0 ts d) L)
    {w : World} {b : Nat} {pv : Value} {deep : Nat} {ts : List Tok} (h : St w b pv s deep (.ok ((), ts))) (hst : startsT (hd ts) = true) (hL : ts.length ≤ L + 1) {n : Nat} {xs : List Value} {M : Nat} (hown : w.ownsRow 0 80 8 pv n xs) (hM : M ≤ 6000) (hB : n + ts.length ≤ M) (hdp : deep ≤ 20) :
    Calls Tryz.prog 107 #[.pointer (some ⟨b, 0, none⟩), .bool (isT [45] (hd ts)), .bool (isT [40] (hd ts))] w fun e w' => ∃ i : Int, e = .returned (.int .i64 i) ∧ PartRes w b pv s deep xs M (innerP rec ts deep) i w' := by
  have hw := within_c (by omega : s.size ≤ 6000) hq
  by_cases hk : (hd ts).kind = 1
  · exact inner_num h hs _ _ hk rec hown hM hB
  · cases hm : isT [45] (hd ts)
    · cases ho : isT [40] (hd ts)
      · obtain ⟨hk2, hor, hby⟩ := starts_word hst hk hm ho
        cases hg : idx (hd ts).txt groupWords with
        | some g => exact inner_group h hs hk2 hm ho hg hw hL hown hM hB hdp
        | none =>
          cases hv : idx (hd ts).txt overWords with
          | some o => exact inner_win h hs hk2 hm ho hg hv rec hown hM hB
          | none => exact inner_sel h hs hk2 hm ho hg hv (by unfold reserved; rw [hg, hv, hor, hby]; rfl) rec hown hM hB
      · exact inner_open h hk hm ho hw hL hown hM hB hdp
    · exact inner_neg h hs _ hk hm hf hL hown hM hB hdp
set_option maxRecDepth 100000 in
set_option maxHeartbeats 4000000 in
theorem factor_c {s : ByteArray} (hs : s.size ≤ 5000) {rec : Nat → List Tok → Nat → Out Tr} {L : Nat} (hf : PartC 100 s (fun ts d => rec 3 ts d) L) (hq : PartC 25 s (fun ts d => rec 0 ts d) L) :
    PartC 100 s (factorP rec) (L + 1) := by
  refine PartC.of_ok (fun w b pv e p deep h => QErr.factor h) ?_
  intro w b pv deep ts n xs M h hown hM hB hL hdp
  obtain ⟨q, hqa, hqt, hqs, hqe, hqd, htl, _⟩ := h.tok
  obtain ⟨c0, c1, c2, c3, c4, c5, c6, c7, c8⟩ := hqa.all
  rw [hqd] at c6
  rw [hqe] at c7
  have hlt := hqa.lt
  have fz6 := hqa.frozen 6
  have HF : Hid (PartC 100 s (fun ts d => rec 3 ts d) L) := hf
  have HQ : Hid (PartC 25 s (fun ts d => rec 0 ts d) L) := hq
  have H : Hid (St w b pv s deep (.ok ((), ts))) := h
  have HO : Hid (w.ownsRow 0 80 8 pv n xs) := hown
  obtain ⟨x1, hx1⟩ : ∃ x, ((q.k : Int) == 1) = x := ⟨_, rfl⟩
  obtain ⟨x2, hx2⟩ : ∃ x, ((q.k : Int) == 2) = x := ⟨_, rfl⟩
  have HST : Hid (startsT (hd ts) = (x1 || isT [45] (hd ts) || isT [40] (hd ts) || (x2 && !isT wOr (hd ts) && !isT wBy (hd ts)))) := hid (by
    unfold startsT
    have e1 : ((hd ts).kind == 1) = x1 := by rw [← hx1, ← (tok_k hqt).1, Bool.eq_iff_iff, beq_iff_eq, beq_iff_eq]; omega
    have e2 : ((hd ts).kind == 2) = x2 := by rw [← hx2, ← (tok_k hqt).1, Bool.eq_iff_iff, beq_iff_eq, beq_iff_eq]; omega
    rw [e1, e2])
  clear h hown hqa hqt c0 c1 c2 c4 c5 c8 hf hq hqe hqd
  go_enter Tryz.func100, Tryz.ntmps100
  go_wp2_with fail
  refine (St.is H.out _).mono ?_
  rintro e w1 ⟨rfl, rfl⟩
  go_wp2_with fail
  refine (St.is H.out _).mono ?_
  rintro e w2 ⟨rfl, rfl⟩
  go_wp2_with fail
  refine (St.is H.out _).mono ?_
  rintro e w3 ⟨rfl, rfl⟩
  go_wp2_with fail
  refine (St.is H.out _).mono ?_
  rintro e w4 ⟨rfl, rfl⟩
  rw [show isR (bl ⟨#[111, 114]⟩) (.ok ((), ts)) = isT wOr (hd ts) from rfl, show isR (bl ⟨#[98, 121]⟩) (.ok ((), ts)) = isT wBy (hd ts) from rfl, show isR (bl ⟨#[45]⟩) (.ok ((), ts)) = isT [45] (hd ts) from rfl, show isR (bl ⟨#[40]⟩) (.ok ((), ts)) = isT [40] (hd ts) from rfl]
  obtain ⟨mi, hmi⟩ : ∃ x, isT [45] (hd ts) = x := ⟨_, rfl⟩
  obtain ⟨op, hop⟩ : ∃ x, isT [40] (hd ts) = x := ⟨_, rfl⟩
  have HM : Hid (isT [45] (hd ts) = mi ∧ isT [40] (hd ts) = op) := ⟨hmi, hop⟩
  rw [hmi, hop]
  have hst2 := HST.out
  rw [hmi, hop] at hst2
  obtain ⟨sv, hsv⟩ : ∃ x, startsT (hd ts) = x := ⟨_, rfl⟩
  rw [hsv] at hst2
  generalize isT wOr (hd ts) = vo at *
  generalize isT wBy (hd ts) = vb at *
  have HSV : Hid (startsT (hd ts) = sv) := hsv
  have HS2 : Hid (sv = (x1 || mi || op || (x2 && !vo && !vb))) := hst2
  clear hmi hop hsv hst2 HST
  go_upto_region 5 with fail
  go_cut [7] (fun s7 wx => s7 = .bool sv ∧ wx = w4)
  case first =>
    cases x1
    · cases mi
      · cases op
        · cases x2
          · go_wp2; go_meet; exact ⟨by rw [HS2.out]; rfl, rfl⟩
          · cases vo
            · cases vb
              · go_wp2; go_meet; exact ⟨by rw [HS2.out]; rfl, rfl⟩
              · go_wp2; go_meet; exact ⟨by rw [HS2.out]; rfl, rfl⟩
            · go_wp2; go_meet; exact ⟨by rw [HS2.out]; rfl, rfl⟩
        · go_wp2; go_meet; exact ⟨by rw [HS2.out]; rfl, rfl⟩
      · go_wp2; go_meet; exact ⟨by rw [HS2.out]; simp, rfl⟩
    · go_wp2; go_meet; exact ⟨by rw [HS2.out]; simp, rfl⟩
  case rest =>
  obtain ⟨rfl, rfl⟩ := hcut
  clear HS2 hx1 hx2 c3
  cases sv
  · have HR : Hid (factorP rec ts deep = .error (2, (hd ts).at_)) := hid (by unfold factorP; rw [HSV.out]; rfl)
    go_wp2_with fail
    refine (St.fail H.out 2 _ rfl (by decide)).mono ?_
    rintro e w5 ⟨rfl, hst, hg⟩
    have HP : Hid (PartRes wc b pv s deep xs M (factorP rec ts deep) 0 w5) := hid (by
      rw [HR.out]
      exact (PartRes.error hst (row_grown H.out HO.out hg) (by omega)).pre ((Kept.refl _ _ _).grown hg))
    clear hst hg
    go_wp2
    go_ret
    exact ⟨_, rfl, HP.out⟩
  · by_cases hd20 : deep = 20
    · have HR : Hid (factorP rec ts deep = .error (3, (hd ts).at_)) := hid (by unfold factorP; rw [HSV.out, if_pos rfl, if_pos hd20])
      have hdb : ((deep : Int) == 20) = true := by rw [hd20]; rfl
      go_wp2_with fail
      refine (St.fail H.out 3 _ rfl (by decide)).mono ?_
      rintro e w5 ⟨rfl, hst, hg⟩
      have HP : Hid (PartRes wc b pv s deep xs M (factorP rec ts deep) 0 w5) := hid (by
        rw [HR.out]
        exact (PartRes.error hst (row_grown H.out HO.out hg) (by omega)).pre ((Kept.refl _ _ _).grown hg))
      clear hst hg
      go_wp2
      go_ret
      exact ⟨_, rfl, HP.out⟩
    · have HR : Hid (factorP rec ts deep = innerP rec ts (deep + 1)) := hid (by unfold factorP; rw [HSV.out, if_pos rfl, if_neg hd20])
      have hdb : ((deep : Int) == 20) = false := by rw [beq_eq_false_iff_ne]; omega
      have hd19 : deep + 1 ≤ 20 := by omega
      obtain ⟨W, hW⟩ : ∃ W, W = wc.setCell ⟨b, 6, none⟩ (.int .i64 ((deep + 1 : Nat) : Int)) := ⟨_, rfl⟩
      have hg : wc.grownBy W (some b) := by rw [hW]; exact grown_set (grown_refl _ _) (Or.inl rfl) _
      have HS5 : Hid (St W b pv s (deep + 1) (.ok ((), ts))) := hid (by rw [hW]; exact St.setDeep H.out (deep + 1))
      have HO5 : Hid (W.ownsRow 0 80 8 pv n xs) := row_grown H.out HO.out hg
      have HK5 : Hid (Kept b pv wc pv W) := (Kept.refl _ _ _).grown hg
      have HW : Hid (W = wc.setCell ⟨b, 6, none⟩ (.int .i64 ((deep + 1 : Nat) : Int))) := hW
      clear hg hW
      go_wp2_with fail
      clear c6 c7 fz6
      rw [show wc.setCell ⟨b, 6, none⟩ (.int .i64 ((deep : Int) + 1)) = W from by rw [HW.out]; rfl]
      have hin := inner_any hs HF.out HQ.out HS5.out HSV.out hL HO5.out hM hB hd19
      rw [HM.out.1, HM.out.2] at hin
      refine hin.mono ?_
      rintro e w6 ⟨i, rfl, hp⟩
      have HPR : Hid (PartRes wc b pv s deep xs M (factorP rec ts deep) i (w6.setCell ⟨b, 6, none⟩ (.int .i64 deep))) := hid (by rw [HR.out]; exact PartRes.redeep HK5.out hp)
      obtain ⟨n6, pv6, ys6, s6, _⟩ := hp.out
      obtain ⟨c6, fz6⟩ := s6.deepCell
      clear hp s6 hin HW
      have e19 : ((deep + 1 : Nat) : Int) - 1 = deep := by omega
      go_wp2
      go_ret
      exact ⟨_, rfl, HPR.out⟩
end Go.Proofs.YtmncdbepjhmkgaaGreatDoor

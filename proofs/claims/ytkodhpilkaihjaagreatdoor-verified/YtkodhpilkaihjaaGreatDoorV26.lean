/- Parts. -/
import Derived.Test.YtkodhpilkaihjaaGreatDoorV25
import Derived.Test.YtkodhpilkaihjaaGreatDoorV11
namespace Go.Proofs.YtkodhpilkaihjaaGreatDoor
open Go.RowKit LS
def DecC (w : World) (A : Nat → Addr) (r : Except (Nat × Nat) CodeQ) (v err : Value) : Prop := match r with
  | .ok c => err = .nilIface ∧ CodV w c v
  | .error x => v = .agg #[.slice none 0 0, .slice none 0 0, .slice none 0 0, .slice none 0 0] ∧ ((x.1 = 9 ∧ ErrAt w err x.2 (A 8)) ∨ (x = (10, 0) ∧ err = .iface 491 (.pointer (some (A 9)))))
theorem DecC.mkOk {w : World} {A : Nat → Addr} {r : Except (Nat × Nat) CodeQ} {v err : Value} {c : CodeQ} (hr : r = .ok c) (h : err = .nilIface ∧ CodV w c v) : DecC w A r v err := by subst hr; exact h
theorem DecC.mkErr {w : World} {A : Nat → Addr} {r : Except (Nat × Nat) CodeQ} {v err : Value} {x : Nat × Nat} (hr : r = .error x) (h : v = .agg #[.slice none 0 0, .slice none 0 0, .slice none 0 0, .slice none 0 0] ∧ ((x.1 = 9 ∧ ErrAt w err x.2 (A 8)) ∨ (x = (10, 0) ∧ err = .iface 491 (.pointer (some (A 9)))))) : DecC w A r v err := by subst hr; exact h
theorem set4_below {w0 w : World} {a : Nat} (h : Below w0.heap.size w0 w) (ha : w0.heap.size ≤ a) (x y z u : Value) : Below w0.heap.size w0 (set4 w a x y z u) :=
  (((h.setCell (p := ⟨a, 0, none⟩) ha _).setCell (p := ⟨a, 1, none⟩) ha _).setCell (p := ⟨a, 2, none⟩) ha _).setCell (p := ⟨a, 3, none⟩) ha _
theorem CodV.shape {w : World} {c : CodeQ} {v : Value} (h : CodV w c v) : ∃ (a0 a1 a2 a3 : Option Addr) (n0 n1 n2 n3 c0 c1 c2 c3 : Nat), v = .agg #[.slice a0 n0 c0, .slice a1 n1 c1, .slice a2 n2 c2, .slice a3 n3 c3] := by
  obtain ⟨cv, pv, gv, iv, rfl, h⟩ := h
  obtain ⟨a0, c0, rfl⟩ := h.cs.shape
  obtain ⟨a1, c1, rfl⟩ := h.ps.shape
  obtain ⟨a2, c2, rfl⟩ := h.gs.shape
  obtain ⟨a3, c3, rfl⟩ := h.is.shape
  exact ⟨_, _, _, _, _, _, _, _, _, _, _, _, rfl⟩
theorem CodV.below {w w' : World} {l : CodeQ} {v : Value} (h : CodV w l v) (hb : Below w.heap.size w w') : CodV w' l v := by
  obtain ⟨cv, pv, gv, iv, e, h⟩ := h
  refine ⟨cv, pv, gv, iv, e, own_below h.cs hb, ?_, ?_, own_below h.is hb⟩
  · obtain ⟨xs, h1, h2, h3⟩ := h.ps; exact ⟨xs, own_below h1 hb, h2, fun x hx => (h3 x hx).below hb⟩
  · obtain ⟨xs, h1, h2, h3⟩ := h.gs; exact ⟨xs, own_below h1 hb, h2, fun x hx => (h3 x hx).below hb⟩
theorem ErrAt.kept1 {w w' : World} {v : Value} {p : Int} {a : Addr} (h : ErrAt w v p a) {b : Nat} {c : List Value} {t : TypeId} (hq : BAt w b c t) (hg : w.grownBy w' (some b)) (he : t ≠ 119) : ErrAt w' v p a := h.grown hg hq he
theorem body_le {l : List UInt8} {x : CodeQ × Nat} (h : bodyQ l = .ok x) : x.2 ≤ l.length := by
  unfold bodyQ at h
  cases hh : headQ l with
  | error e => rw [hh] at h; cases h
  | ok n =>
    rw [hh] at h
    have h9 : 9 ≤ l.length := by
      unfold headQ at hh
      split at hh
      · cases hh
      · split at hh
        · cases hh
        · omega
    simp only at h
    cases h1 : many (constAt l) 9 n.1 with
    | error e => rw [h1] at h; cases h
    | ok cs =>
      rw [h1] at h
      simp only at h
      have g1 := many_le (n := l.length) (fun p x h => constAt_le h) h9 h1
      cases h2 : many (pickAt l) cs.2 n.2.1 with
      | error e => rw [h2] at h; cases h
      | ok ps =>
        rw [h2] at h
        simp only at h
        have g2 := many_le (n := l.length) (fun p x h => pickAt_le h) g1 h2
        cases h3 : many (groupAt l) ps.2 n.2.2.1 with
        | error e => rw [h3] at h; cases h
        | ok gs =>
          rw [h3] at h
          simp only at h
          have g3 := many_le (n := l.length) (fun p x h => groupAt_le h) g2 h3
          cases h4 : many (insAt l) gs.2 n.2.2.2 with
          | error e => rw [h4] at h; cases h
          | ok is =>
            rw [h4] at h
            injection h with h
            subst h
            exact many_le (n := l.length) (fun p x h => (insAt_le h).1) g3 h4
set_option maxRecDepth 100000 in
set_option maxHeartbeats 16000000 in
theorem pread_any (s : ByteArray) (A : Nat → Addr) (m : Int) (w : World) (hv : Vars w A m) (ht : PowTab w) (hB : 20 ≤ w.heap.size) (hs : s.size ≤ maxLen) :
    Calls Tryz.prog 38 #[.string s] w fun e w' => ∃ v err, e = .returned (.tuple #[v, err]) ∧ Hid (DecC w' A (decodeQ (bl s)) v err) ∧ Below w.heap.size w w' := by
  have HGD : Hid (Ground w A m (w.heap.size + 1)) := hid ⟨hv, ht, hB, by omega⟩
  have HSZ := hid hs
  have hs' := hs
  unfold maxLen at hs'
  clear hv ht hB hs
  go_enter Tryz.func38, Tryz.ntmps38
  go_wp2_with fail
  refine calls_gen fun W hW => ?_
  have hbW : Below w.heap.size w W := by rw [hW]; exact ((Below.refl _ _).alloc (Nat.le_refl _) _).alloc (by simp) _
  have HXW : Hid (BAt W w.heap.size [.slice none 0 0, .slice none 0 0, .slice none 0 0, .slice none 0 0] 58) := hid (by
    rw [hW]; exact (((Below.refl _ _).alloc (Nat.le_refl _) _).block _ (by simp)).trans (Go.Deep.blk_alloc_new _ _))
  have HRW : Hid (RdAt W (w.heap.size + 1) s 0) := hid (by
    rw [hW]; have := Go.Deep.blk_alloc_new (w.alloc (.cells #[.slice none 0 0, .slice none 0 0, .slice none 0 0, .slice none 0 0] 58)) (.cells #[.string s, .int .i64 0] 178); rwa [Go.Deep.nblk_alloc] at this)
  have HBW := hid hbW
  clear hW hbW
  refine (rcode_any s (w.heap.size + 1) A m w W HGD.out HSZ.out HBW.out HRW.out).mono ?_
  rintro e w1 ⟨v, err, rfl, HC, hg1⟩
  have HB1 : Hid (Below w.heap.size w w1) := hid (below_by HBW.out hg1 HGD.out.b)
  have HX1 := hid (HXW.out.grown hg1 (by intro e; injection e with e; omega))
  clear hg1 HXW HRW HBW
  cases hb : bodyQ (bl s) with
  | error x =>
    obtain ⟨fa, rfl⟩ := HC.out.errShape hb
    obtain ⟨hx1, hx2, ⟨a0, a1, a2, a3, n0, n1, n2, n3, e0, e1, e2, e3, rfl⟩, _⟩ := HC.out.err hb
    have HD : Hid (decodeQ (bl s) = .error x) := hid (by rw [decode_body, hb])
    have HE := hid hx2
    have HX9 := hid hx1
    have hx1l := HX1.out.lt
    clear HC hb hx1 hx2
    have f0 := HX1.out.frozen 0
    have f1 := HX1.out.frozen 1
    have f2 := HX1.out.frozen 2
    have f3 := HX1.out.frozen 3
    have c0 := HX1.out.cell 0
    have c1 := HX1.out.cell 1
    have c2 := HX1.out.cell 2
    have c3 := HX1.out.cell 3
    simp only [List.getElem?_cons_zero, List.getElem?_cons_succ] at c0 c1 c2 c3
    go_wp2
    change bodyPost _ _ _ _ _ ((set4 w1 w.heap.size (.slice none 0 0) (.slice none 0 0) (.slice none 0 0) (.slice none 0 0)).alloc (.cells #[.slice a0 n0 e0, .slice a1 n1 e1, .slice a2 n2 e2, .slice a3 n3 e3] 58))
    have st := (set4_at HX1.out (x := .slice none 0 0) (y := .slice none 0 0) (z := .slice none 0 0) (u := .slice none 0 0)).below ((Below.refl _ _).alloc (Nat.le_refl _) (.cells #[.slice a0 n0 e0, .slice a1 n1 e1, .slice a2 n2 e2, .slice a3 n3 e3] 58))
    have s0 := st.cell 0
    have s1 := st.cell 1
    have s2 := st.cell 2
    have s3 := st.cell 3
    simp only [List.getElem?_cons_zero, List.getElem?_cons_succ] at s0 s1 s2 s3
    have HBX := hid ((set4_below HB1.out (Nat.le_refl _) (.slice none 0 0) (.slice none 0 0) (.slice none 0 0) (.slice none 0 0)).alloc (set4_below HB1.out (Nat.le_refl _) (.slice none 0 0) (.slice none 0 0) (.slice none 0 0) (.slice none 0 0)).size (.cells #[.slice a0 n0 e0, .slice a1 n1 e1, .slice a2 n2 e2, .slice a3 n3 e3] 58))
    have HE2 := hid ((HE.out.kept1 HX1.out (set4_self w1 w.heap.size (.slice none 0 0) (.slice none 0 0) (.slice none 0 0) (.slice none 0 0)) (by decide)).below ((Below.refl _ _).alloc (Nat.le_refl _) (.cells #[.slice a0 n0 e0, .slice a1 n1 e1, .slice a2 n2 e2, .slice a3 n3 e3] 58)))
    generalize (set4 w1 w.heap.size (.slice none 0 0) (.slice none 0 0) (.slice none 0 0) (.slice none 0 0)).alloc (.cells #[.slice a0 n0 e0, .slice a1 n1 e1, .slice a2 n2 e2, .slice a3 n3 e3] 58) = WX at *
    exact bodyPost_ret (v := .tuple #[.agg #[.slice none 0 0, .slice none 0 0, .slice none 0 0, .slice none 0 0], .iface 115 (.pointer (some ⟨fa, 0, none⟩))]) (by simp [results, Tryz.results38, go_sem, s0, s1, s2, s3]) rfl ⟨_, _, rfl, hid (DecC.mkErr HD.out ⟨rfl, Or.inl ⟨HX9.out, HE2.out⟩⟩), HBX.out⟩
  | ok x =>
    obtain ⟨c, q⟩ := x
    obtain ⟨rfl, hcv, hrd⟩ := HC.out.ok hb
    obtain ⟨a0, a1, a2, a3, n0, n1, n2, n3, e0, e1, e2, e3, rfl⟩ := hcv.shape
    have hq := body_le hb
    simp only at hq hrd hcv
    rw [bl_length] at hq
    have HRD := hid hrd
    have HCV := hid hcv
    have HDB : Hid (decodeQ (bl s) = if (bl s).length < q + 4 then .error (9, (bl s).length) else if q + 4 < (bl s).length then .error (9, q + 4) else
        if back ((bl s).drop q) ≠ sumQ ((bl s).take q) then .error (10, 0) else .ok c) := hid (by rw [decode_body, hb])
    have rc := hrd.cell 1
    simp only [List.getElem?_cons_zero, List.getElem?_cons_succ] at rc
    have hx1l := HX1.out.lt
    have hrl := hrd.lt
    clear HC hb hrd hcv
    go_wp2_with fail
    refine calls_gen fun W2 hW2 => ?_
    have hb2 : Below w1.heap.size w1 W2 := by rw [hW2]; exact (Below.refl _ _).alloc (Nat.le_refl _) _
    have HB2 : Hid (Below w.heap.size w W2) := hid (HB1.out.trans (hb2.mono HB1.out.size))
    have HX2 := hid (HX1.out.below hb2)
    have HR2 := hid (HRD.out.below hb2)
    have HY2 : Hid (BAt W2 w1.heap.size [.slice a0 n0 e0, .slice a1 n1 e1, .slice a2 n2 e2, .slice a3 n3 e3] 58) := hid (by rw [hW2]; exact Go.Deep.blk_alloc_new _ _)
    have HCV2 := hid (HCV.out.below hb2)
    clear hW2 hb2 rc HX1 HB1 HRD HCV
    refine (rnumber_any s q 4 (w.heap.size + 1) _ W2 HR2.out (HGD.out.code HB2.out) hq HSZ.out (by omega)).mono ?_
    rintro e w3 ⟨v, err, rfl, HC, hg3⟩
    have HB3 : Hid (Below w.heap.size w w3) := hid (below_by HB2.out hg3 HGD.out.b)
    have HX3 := hid (HX2.out.grown hg3 (by intro e; injection e with e; omega))
    have HY3 := hid (HY2.out.grown hg3 (by intro e; injection e with e; omega))
    have HCV3 := hid (HCV2.out.kept1 HR2.out hg3 (by decide) (by decide) (by decide) (by decide) (by decide) (by decide))
    have hx3l := HX3.out.lt
    have hy3l := HY3.out.lt
    clear hg3 HX2 HY2 HCV2 HR2 HB2
    have f0 := HX3.out.frozen 0
    have f1 := HX3.out.frozen 1
    have f2 := HX3.out.frozen 2
    have f3 := HX3.out.frozen 3
    have c0 := HX3.out.cell 0
    have c1 := HX3.out.cell 1
    have c2 := HX3.out.cell 2
    have c3 := HX3.out.cell 3
    simp only [List.getElem?_cons_zero, List.getElem?_cons_succ] at c0 c1 c2 c3
    cases hn : numAt (bl s) q 4 with
    | error x =>
      obtain ⟨fa, rfl⟩ := HC.out.errShape hn
      obtain ⟨hx1, hx2, rfl, _⟩ := HC.out.err hn
      have hxe : x = (9, (bl s).length) ∧ (bl s).length < q + 4 := by
        unfold numAt at hn
        cases ht : textN (bl s) q 4 with
        | ok y => rw [ht] at hn; cases hn
        | error y =>
          rw [ht] at hn
          injection hn with hn
          unfold textN at ht
          split at ht
          · injection ht with ht; exact ⟨by rw [← hn, ← ht], by assumption⟩
          · cases ht
      have HD : Hid (decodeQ (bl s) = .error x) := hid (by rw [HDB.out, if_pos hxe.2, hxe.1])
      have HE := hid hx2
      have HX9 := hid hx1
      clear HC hn hx1 hx2 hxe HDB
      go_wp2
      change bodyPost _ _ _ _ _ (set4 w3 w.heap.size (.slice none 0 0) (.slice none 0 0) (.slice none 0 0) (.slice none 0 0))
      have st := set4_at HX3.out (x := .slice none 0 0) (y := .slice none 0 0) (z := .slice none 0 0) (u := .slice none 0 0)
      have s0 := st.cell 0
      have s1 := st.cell 1
      have s2 := st.cell 2
      have s3 := st.cell 3
      simp only [List.getElem?_cons_zero, List.getElem?_cons_succ] at s0 s1 s2 s3
      have HBX := hid (set4_below HB3.out (Nat.le_refl _) (.slice none 0 0) (.slice none 0 0) (.slice none 0 0) (.slice none 0 0))
      have HE2 := hid (HE.out.kept1 HX3.out (set4_self w3 w.heap.size (.slice none 0 0) (.slice none 0 0) (.slice none 0 0) (.slice none 0 0)) (by decide))
      generalize set4 w3 w.heap.size (.slice none 0 0) (.slice none 0 0) (.slice none 0 0) (.slice none 0 0) = WX at *
      exact bodyPost_ret (v := .tuple #[.agg #[.slice none 0 0, .slice none 0 0, .slice none 0 0, .slice none 0 0], .iface 115 (.pointer (some ⟨fa, 0, none⟩))]) (by simp [results, Tryz.results38, go_sem, s0, s1, s2, s3]) rfl ⟨_, _, rfl, hid (DecC.mkErr HD.out ⟨rfl, Or.inl ⟨HX9.out, HE2.out⟩⟩), HBX.out⟩
    | ok x =>
      obtain ⟨n, q2⟩ := x
      obtain ⟨rfl, rfl, hr3⟩ := HC.out.ok hn
      obtain ⟨hn1, hn2, hn3, hn4⟩ := numAt_ok hn
      simp only at hn1 hn2 hn3 hn4 hr3
      have hn4 : n < 4294967296 := hn4
      rw [bl_length] at hn1
      have HR3 := hid hr3
      have HNN := hid hn2
      have rc := hr3.cell 1
      simp only [List.getElem?_cons_zero, List.getElem?_cons_succ] at rc
      have HQ2 := hid hn3
      have hq2 : q2 = q + 4 := hn3
      clear HC hn hn2 hn3 hr3
      by_cases hlt : q2 < s.size
      · have HD : Hid (decodeQ (bl s) = .error (9, q2)) := hid (by rw [HDB.out, if_neg (by rw [bl_length]; omega), if_pos (by rw [bl_length]; omega), hq2])
        have hlz : (q2 : Int) < s.size := by omega
        clear HDB hq2
        go_wp2_with fail
        refine (cstand_any _ _ _ (HGD.out.code HB3.out)).mono ?_
        rintro e w4 ⟨v, rfl, hv, hb4⟩
        have HE := hv
        have HB4 : Hid (Below w.heap.size w w4) := hid (HB3.out.trans (hb4.mono HB3.out.size))
        have HX4 := hid (HX3.out.below hb4)
        obtain ⟨fa, rfl⟩ := ErrAt.shape hv.out
        clear hb4 HX3 f0 f1 f2 f3 c0 c1 c2 c3 rc hv
        have f0 := HX4.out.frozen 0
        have f1 := HX4.out.frozen 1
        have f2 := HX4.out.frozen 2
        have f3 := HX4.out.frozen 3
        have c0 := HX4.out.cell 0
        have c1 := HX4.out.cell 1
        have c2 := HX4.out.cell 2
        have c3 := HX4.out.cell 3
        simp only [List.getElem?_cons_zero, List.getElem?_cons_succ] at c0 c1 c2 c3
        go_wp2
        change bodyPost _ _ _ _ _ (set4 w4 w.heap.size (.slice none 0 0) (.slice none 0 0) (.slice none 0 0) (.slice none 0 0))
        have st := set4_at HX4.out (x := .slice none 0 0) (y := .slice none 0 0) (z := .slice none 0 0) (u := .slice none 0 0)
        have s0 := st.cell 0
        have s1 := st.cell 1
        have s2 := st.cell 2
        have s3 := st.cell 3
        simp only [List.getElem?_cons_zero, List.getElem?_cons_succ] at s0 s1 s2 s3
        have HBX := hid (set4_below HB4.out (Nat.le_refl _) (.slice none 0 0) (.slice none 0 0) (.slice none 0 0) (.slice none 0 0))
        have HE2 := hid (HE.out.kept1 HX4.out (set4_self w4 w.heap.size (.slice none 0 0) (.slice none 0 0) (.slice none 0 0) (.slice none 0 0)) (by decide))
        generalize set4 w4 w.heap.size (.slice none 0 0) (.slice none 0 0) (.slice none 0 0) (.slice none 0 0) = WX at *
        exact bodyPost_ret (v := .tuple #[.agg #[.slice none 0 0, .slice none 0 0, .slice none 0 0, .slice none 0 0], .iface 115 (.pointer (some ⟨fa, 0, none⟩))]) (by simp [results, Tryz.results38, go_sem, s0, s1, s2, s3]) rfl ⟨_, _, rfl, hid (DecC.mkErr HD.out ⟨rfl, Or.inl ⟨rfl, HE2.out⟩⟩), HBX.out⟩
      · have hlz : ¬ (q2 : Int) < s.size := by omega
        have hqs : q + 4 = s.size := by omega
        have hbody : bl (s.extract 0 q) = (bl s).take q := by rw [bl_extract]; rfl
        have hsub : sub (bl s) q 4 = (bl s).drop q := by unfold sub; exact List.take_of_length_le (by rw [List.length_drop, bl_length]; omega)
        have hQ := sumQ_lt ((bl s).take q)
        have HDB2 : Hid (decodeQ (bl s) = if n ≠ sumQ ((bl s).take q) then .error (10, 0) else .ok c) := hid (by rw [HDB.out, if_neg (by rw [bl_length]; omega), if_neg (by rw [bl_length]; omega), HNN.out, hsub])
        have hes : (s.extract 0 q).size ≤ maxLen := by unfold maxLen; rw [ByteArray.size_extract]; omega
        obtain ⟨SQ, hSQ⟩ : ∃ SQ, SQ = sumQ ((bl s).take q) := ⟨_, rfl⟩
        have HPS : Hid (∀ W', Calls Tryz.prog 77 #[.string (s.extract 0 q)] W' fun e w' => e = .returned (.int .u32 SQ) ∧ w' = W') := hid (fun W' => by rw [hSQ, ← hbody]; exact pSum_any (s.extract 0 q) W' hes)
        rw [← hSQ] at HDB2 hQ
        have HSM := hid (HGD.out.v.below HB3.out)
        have gs : w3.cell? ⟨9, 0, none⟩ = some (.iface 491 (.pointer (some (A 9)))) := HSM.out.sent _ (by decide)
        clear HDB hsub hbody hSQ HNN hes hq2
        by_cases he : n = SQ
        · subst he
          have HD : Hid (decodeQ (bl s) = .ok c) := hid (by rw [HDB2.out, if_neg (by simp)])
          have hne : (((n : Int) % 4294967296) != (n : Int)) = false := by rw [Int.emod_eq_of_lt (by omega) (by omega)]; simp
          have y0 := HY3.out.cell 0
          have y1 := HY3.out.cell 1
          have y2 := HY3.out.cell 2
          have y3 := HY3.out.cell 3
          simp only [List.getElem?_cons_zero, List.getElem?_cons_succ] at y0 y1 y2 y3
          clear HDB2 gs
          go_wp2_with (go_at_call 77; refine (HPS.out _).mono ?_; rintro e wq ⟨rfl, rfl⟩)
          change bodyPost _ _ _ _ _ (set4 wq w.heap.size (.slice a0 n0 e0) (.slice a1 n1 e1) (.slice a2 n2 e2) (.slice a3 n3 e3))
          have st := set4_at HX3.out (x := .slice a0 n0 e0) (y := .slice a1 n1 e1) (z := .slice a2 n2 e2) (u := .slice a3 n3 e3)
          have s0 := st.cell 0
          have s1 := st.cell 1
          have s2 := st.cell 2
          have s3 := st.cell 3
          simp only [List.getElem?_cons_zero, List.getElem?_cons_succ] at s0 s1 s2 s3
          have HBX := hid (set4_below HB3.out (Nat.le_refl _) (.slice a0 n0 e0) (.slice a1 n1 e1) (.slice a2 n2 e2) (.slice a3 n3 e3))
          have HE2 := hid (HCV3.out.kept1 HX3.out (set4_self wq w.heap.size (.slice a0 n0 e0) (.slice a1 n1 e1) (.slice a2 n2 e2) (.slice a3 n3 e3)) (by decide) (by decide) (by decide) (by decide) (by decide) (by decide))
          generalize set4 wq w.heap.size (.slice a0 n0 e0) (.slice a1 n1 e1) (.slice a2 n2 e2) (.slice a3 n3 e3) = WX at *
          exact bodyPost_ret (v := .tuple #[.agg #[.slice a0 n0 e0, .slice a1 n1 e1, .slice a2 n2 e2, .slice a3 n3 e3], .nilIface]) (by simp [results, Tryz.results38, go_sem, s0, s1, s2, s3]) rfl ⟨_, _, rfl, hid (DecC.mkOk HD.out ⟨rfl, HE2.out⟩), HBX.out⟩
        · have HD : Hid (decodeQ (bl s) = .error (10, 0)) := hid (by rw [HDB2.out, if_pos he])
          have hne : (((n : Int) % 4294967296) != (SQ : Int)) = true := by rw [Int.emod_eq_of_lt (by omega) (by omega), bne_iff_ne]; omega
          clear HDB2
          go_wp2_with (go_at_call 77; refine (HPS.out _).mono ?_; rintro e wq ⟨rfl, rfl⟩)
          have hng := HGD.out.n
          have HXD : Hid (BAt wq.drew w.heap.size [.slice none 0 0, .slice none 0 0, .slice none 0 0, .slice none 0 0] 58) := hid (HX3.out.below ((Below.refl _ _).drew))
          have HBD : Hid (Below w.heap.size w wq.drew) := hid (HB3.out.drew)
          have h9 : ¬ w.heap.size = 9 := by omega
          have h9' : ¬ 9 = w.heap.size := by omega
          go_region
          all_goals
            go_wp2
            change bodyPost _ _ _ _ _ (set4 wq.drew w.heap.size (.slice none 0 0) (.slice none 0 0) (.slice none 0 0) (.slice none 0 0))
            have st := set4_at HXD.out (x := .slice none 0 0) (y := .slice none 0 0) (z := .slice none 0 0) (u := .slice none 0 0)
            have s0 := st.cell 0
            have s1 := st.cell 1
            have s2 := st.cell 2
            have s3 := st.cell 3
            simp only [List.getElem?_cons_zero, List.getElem?_cons_succ] at s0 s1 s2 s3
            have HBX := hid (set4_below HBD.out (Nat.le_refl _) (.slice none 0 0) (.slice none 0 0) (.slice none 0 0) (.slice none 0 0))
            generalize set4 wq.drew w.heap.size (.slice none 0 0) (.slice none 0 0) (.slice none 0 0) (.slice none 0 0) = WX at *
            exact bodyPost_ret (v := .tuple #[.agg #[.slice none 0 0, .slice none 0 0, .slice none 0 0, .slice none 0 0], .iface 491 (.pointer (some (A 9)))]) (by simp [results, Tryz.results38, go_sem, s0, s1, s2, s3]) rfl ⟨_, _, rfl, hid (DecC.mkErr HD.out ⟨rfl, Or.inr ⟨rfl, rfl⟩⟩), HBX.out⟩
def cellS (a : Ah) (i : Nat) : Value := if i = 0 then .bool a.known else if i = 1 then .bool a.clash else if i = 2 then .int .i64 a.stack.length else if i < 67 then .int .u8 ((a.stack.reverse.getD (i - 3) 0 : Nat) : Int) else .int .u8 ((a.slots.getD (i - 67) 0 : Nat) : Int)
def stC (a : Ah) : List Value := (List.range 83).map (cellS a)
theorem stC_length (a : Ah) : (stC a).length = 83 := by simp [stC]
theorem stC_get (a : Ah) (i : Nat) (h : i < 83) : (stC a)[i]? = some (cellS a i) := by
  unfold stC; rw [List.getElem?_map, List.getElem?_range h]; rfl
theorem stC_one (a : Ah) : ∀ v ∈ stC a, v.oneCell' = true := by
  intro v hv
  obtain ⟨i, _, rfl⟩ := List.mem_map.1 hv
  unfold cellS; repeat' split
  all_goals rfl
theorem stC_stack (a : Ah) (j : Nat) (h : j < 64) : (stC a)[3 + j]? = some (.int .u8 ((a.stack.reverse.getD j 0 : Nat) : Int)) := by
  rw [stC_get a _ (by omega)]
  unfold cellS
  rw [if_neg (by omega), if_neg (by omega), if_neg (by omega), if_pos (by omega), show 3 + j - 3 = j by omega]
theorem stC_slot (a : Ah) (j : Nat) (h : j < 16) : (stC a)[67 + j]? = some (.int .u8 ((a.slots.getD j 0 : Nat) : Int)) := by
  rw [stC_get a _ (by omega)]
  unfold cellS
  rw [if_neg (by omega), if_neg (by omega), if_neg (by omega), if_neg (by omega), show 67 + j - 67 = j by omega]
theorem stC_ext {l : List Value} {a : Ah} (hl : l.length = 83) (h : ∀ i, i < 83 → l[i]? = some (cellS a i)) : l = stC a := by
  apply List.ext_getElem?
  intro i
  by_cases hi : i < 83
  · rw [h i hi, stC_get a i hi]
  · rw [List.getElem?_eq_none (by omega), List.getElem?_eq_none (by rw [stC_length]; omega)]
theorem stC_push (a : Ah) (k : Nat) (hl : a.stack.length < 64) : ((stC a).set (3 + a.stack.length) (.int .u8 (k : Int))).set 2 (.int .i64 ((a.stack.length + 1 : Nat) : Int)) = stC { a with stack := k :: a.stack } := by
  refine stC_ext (by simp [stC_length]) (fun i hi => ?_)
  rw [List.getElem?_set]
  by_cases h2 : 2 = i
  · subst h2
    rw [if_pos rfl, if_pos (by simp [stC_length])]
    rfl
  · rw [if_neg h2, List.getElem?_set]
    by_cases h3 : 3 + a.stack.length = i
    · subst h3
      rw [if_pos rfl, if_pos (by rw [stC_length]; omega)]
      unfold cellS
      rw [if_neg (by omega), if_neg (by omega), if_neg (by omega), if_pos (by omega), show 3 + a.stack.length - 3 = a.stack.length by omega]
      congr 2
      rw [List.reverse_cons, List.getD_eq_getElem?_getD, List.getElem?_append_right (by simp)]
      simp
    · rw [if_neg h3, stC_get a i hi]
      congr 1
      unfold cellS
      by_cases h0 : i = 0
      · rw [if_pos h0, if_pos h0]
      · rw [if_neg h0, if_neg h0]
        by_cases h1 : i = 1
        · rw [if_pos h1, if_pos h1]
        · have h2' : ¬ i = 2 := fun e => h2 e.symm
          rw [if_neg h1, if_neg h1, if_neg h2', if_neg h2']
          by_cases h67 : i < 67
          · rw [if_pos h67, if_pos h67]
            congr 2
            show a.stack.reverse.getD (i - 3) 0 = (k :: a.stack).reverse.getD (i - 3) 0
            rw [List.reverse_cons, List.getD_eq_getElem?_getD, List.getD_eq_getElem?_getD]
            by_cases hh : i - 3 < a.stack.length
            · rw [List.getElem?_append_left (by simpa using hh)]
            · rw [List.getElem?_eq_none (by simp; omega), List.getElem?_eq_none (by simp; omega)]
          · rw [if_neg h67, if_neg h67]
theorem stC_pop (a : Ah) (hl : a.stack.length ≤ 64) (h0 : 0 < a.stack.length) : ((stC a).set 2 (.int .i64 ((a.stack.length - 1 : Nat) : Int))).set (3 + (a.stack.length - 1)) (.int .u8 0) = stC { a with stack := a.stack.tail } := by
  obtain ⟨k, r, hk⟩ : ∃ k r, a.stack = k :: r := by
    cases hs : a.stack with
    | nil => rw [hs] at h0; simp at h0
    | cons k r => exact ⟨k, r, rfl⟩
  refine stC_ext (by simp [stC_length]) (fun i hi => ?_)
  have hrl : a.stack.length - 1 = r.length := by rw [hk]; simp
  rw [hrl]
  have hrl2 : r.length < 64 := by omega
  rw [List.getElem?_set]
  by_cases h3 : 3 + r.length = i
  · subst h3
    rw [if_pos rfl, if_pos (by simp [stC_length]; omega)]
    unfold cellS
    rw [if_neg (by omega), if_neg (by omega), if_neg (by omega), if_pos (by omega), show 3 + r.length - 3 = r.length by omega, hk]
    simp
  · rw [if_neg h3, List.getElem?_set]
    by_cases h2 : 2 = i
    · subst h2
      rw [if_pos rfl, if_pos (by simp [stC_length])]
      unfold cellS
      rw [hk]; simp
    · rw [if_neg h2, stC_get a i hi]
      congr 1
      unfold cellS
      by_cases h0 : i = 0
      · rw [if_pos h0, if_pos h0]
      · rw [if_neg h0, if_neg h0]
        by_cases h1 : i = 1
        · rw [if_pos h1, if_pos h1]
        · have h2' : ¬ i = 2 := fun e => h2 e.symm
          rw [if_neg h1, if_neg h1, if_neg h2', if_neg h2']
          by_cases h67 : i < 67
          · rw [if_pos h67, if_pos h67, hk]
            congr 2
            show (k :: r).reverse.getD (i - 3) 0 = r.reverse.getD (i - 3) 0
            rw [List.reverse_cons, List.getD_eq_getElem?_getD, List.getD_eq_getElem?_getD]
            by_cases hh : i - 3 < r.length
            · rw [List.getElem?_append_left (by simpa using hh)]
            · rw [List.getElem?_eq_none (by simp; omega), List.getElem?_eq_none (by simp; omega)]
          · rw [if_neg h67, if_neg h67]
theorem stC_store (a : Ah) (j k : Nat) (hj : j < 16) (hsl : a.slots.length = 16) : (stC a).set (67 + j) (.int .u8 (k : Int)) = stC { a with slots := a.slots.set j k } := by
  refine stC_ext (by simp [stC_length]) (fun i hi => ?_)
  rw [List.getElem?_set]
  by_cases h3 : 67 + j = i
  · subst h3
    rw [if_pos rfl, if_pos (by rw [stC_length]; omega)]
    unfold cellS
    rw [if_neg (by omega), if_neg (by omega), if_neg (by omega), if_neg (by omega), show 67 + j - 67 = j by omega]
    simp [List.getD_eq_getElem?_getD, hsl, hj]
  · rw [if_neg h3, stC_get a i hi]
    congr 1
    unfold cellS
    by_cases h0 : i = 0
    · rw [if_pos h0, if_pos h0]
    · rw [if_neg h0, if_neg h0]
      by_cases h1 : i = 1
      · rw [if_pos h1, if_pos h1]
      · rw [if_neg h1, if_neg h1]
        by_cases h2 : i = 2
        · rw [if_pos h2, if_pos h2]
        · rw [if_neg h2, if_neg h2]
          by_cases h67 : i < 67
          · rw [if_pos h67, if_pos h67]
          · rw [if_neg h67, if_neg h67]
            congr 2
            show a.slots.getD (i - 67) 0 = (a.slots.set j k).getD (i - 67) 0
            rw [List.getD_eq_getElem?_getD, List.getD_eq_getElem?_getD, List.getElem?_set_ne (by omega)]
abbrev StAt (w : World) (nb : Nat) (a : Ah) : Prop := BAt w nb (stC a) 312
theorem StAt.cells {w : World} {nb : Nat} {a : Ah} (h : StAt w nb a) : w.cell? ⟨nb, 0, none⟩ = some (.bool a.known) ∧ w.cell? ⟨nb, 1, none⟩ = some (.bool a.clash) ∧ w.cell? ⟨nb, 2, none⟩ = some (.int .i64 a.stack.length) :=
  ⟨(h.cell 0).trans (stC_get a 0 (by decide)), (h.cell 1).trans (stC_get a 1 (by decide)), (h.cell 2).trans (stC_get a 2 (by decide))⟩
theorem StAt.stack {w : World} {nb : Nat} {a : Ah} (h : StAt w nb a) (j : Nat) (hj : j < 64) : w.cell? ⟨nb, 3 + j, none⟩ = some (.int .u8 ((a.stack.reverse.getD j 0 : Nat) : Int)) := (h.cell _).trans (stC_stack a j hj)
theorem StAt.slot {w : World} {nb : Nat} {a : Ah} (h : StAt w nb a) (j : Nat) (hj : j < 16) : w.cell? ⟨nb, 67 + j, none⟩ = some (.int .u8 ((a.slots.getD j 0 : Nat) : Int)) := (h.cell _).trans (stC_slot a j hj)
def putK (k : Nat) (a : Ah) : Option Ah := if k = 0 ∨ a.stack.length = 64 then none else some { a with stack := k :: a.stack }
theorem isPlain_any (k : Nat) (w : World) : Calls Tryz.prog 202 #[.int .u8 k] w fun e w' => e = .returned (.bool (plainK k)) ∧ w' = w := by
  by_cases h1 : k = 1
  · subst h1
    go_enter Tryz.func202, Tryz.ntmps202
    go_wp2
    go_ret
    exact ⟨rfl, rfl⟩
  · by_cases h2 : k = 2
    · subst h2
      go_enter Tryz.func202, Tryz.ntmps202
      go_wp2
      go_ret
      exact ⟨rfl, rfl⟩
    · have HP : Hid (plainK k = false) := hid (by unfold plainK; simp [h1, h2])
      have e1 : ((k : Int) == 1) = false := by rw [beq_eq_false_iff_ne]; omega
      have e2 : ((k : Int) == 2) = false := by rw [beq_eq_false_iff_ne]; omega
      go_enter Tryz.func202, Tryz.ntmps202
      go_wp2
      go_ret
      exact ⟨ret_bool HP.out.symm, rfl⟩
set_option maxRecDepth 100000 in
set_option maxHeartbeats 4000000 in
theorem sput_any (nb : Nat) (a : Ah) (k : Nat) (w : World) (h : StAt w nb a) (hl : a.stack.length ≤ 64) :
    Calls Tryz.prog 199 #[.pointer (some ⟨nb, 0, none⟩), .int .u8 k] w fun e w' => e = .returned (.bool (putK k a).isSome) ∧ Hid (∀ a', putK k a = some a' → StAt w' nb a') ∧ w.grownBy w' (some nb) := by
  obtain ⟨c0, c1, c2⟩ := h.cells
  have H := hid h
  by_cases h0 : k = 0
  · subst h0
    have HN : Hid (putK 0 a = none) := hid (if_pos (Or.inl rfl))
    clear h c0 c1
    go_enter Tryz.func199, Tryz.ntmps199
    go_wp2
    go_ret
    exact ⟨by rw [HN.out]; rfl, hid (fun a' e => by rw [HN.out] at e; cases e), grown_refl _ _⟩
  · have hk0 : ((k : Int) == 0) = false := by rw [beq_eq_false_iff_ne]; omega
    by_cases h64 : a.stack.length = 64
    · have HN : Hid (putK k a = none) := hid (if_pos (Or.inr h64))
      rw [h64] at c2
      clear h c0 c1
      go_enter Tryz.func199, Tryz.ntmps199
      go_wp2
      go_ret
      exact ⟨by rw [HN.out]; rfl, hid (fun a' e => by rw [HN.out] at e; cases e), grown_refl _ _⟩
    · have HS : Hid (putK k a = some { a with stack := k :: a.stack }) := hid (if_neg (by omega))
      have hlt : a.stack.length < 64 := by omega
      have h6 : ((a.stack.length : Int) == 64) = false := by rw [beq_eq_false_iff_ne]; omega
      have d0 := h.stack a.stack.length hlt
      have f0 := h.frozen (3 + a.stack.length)
      have f2 := h.frozen 2
      have HST : Hid (StAt ((w.drew.setCell ⟨nb, 3 + a.stack.length, none⟩ (.int .u8 k)).setCell ⟨nb, 2, none⟩ (.int .i64 ((a.stack.length + 1 : Nat) : Int))) nb { a with stack := k :: a.stack }) := hid (by
        have := ((h.below ((Below.refl _ _).drew)).setk (3 + a.stack.length) (.int .u8 k)).setk 2 (.int .i64 ((a.stack.length + 1 : Nat) : Int))
        rw [stC_push a k hlt] at this
        exact this)
      have HG : Hid (w.grownBy ((w.drew.setCell ⟨nb, 3 + a.stack.length, none⟩ (.int .u8 k)).setCell ⟨nb, 2, none⟩ (.int .i64 ((a.stack.length + 1 : Nat) : Int))) (some nb)) := hid (grown_set (p := ⟨nb, 2, none⟩) (grown_set (p := ⟨nb, 3 + a.stack.length, none⟩) (grown_drew (grown_refl _ _)) (Or.inl rfl) _) (Or.inl rfl) _)
      generalize hn : a.stack.length = n at *
      clear h c0 c1
      go_enter Tryz.func199, Tryz.ntmps199
      go_wp2
      go_region
      all_goals
        go_wp2
        go_ret
        exact ⟨by rw [HS.out]; rfl, hid (fun a' e => by rw [HS.out] at e; injection e with e; subst e; exact HST.out), HG.out⟩
set_option maxRecDepth 100000 in
set_option maxHeartbeats 4000000 in
theorem stake_any (nb : Nat) (a : Ah) (w : World) (h : StAt w nb a) (hl : a.stack.length ≤ 64) :
    Calls Tryz.prog 201 #[.pointer (some ⟨nb, 0, none⟩)] w fun e w' => e = .returned (.int .u8 ((a.stack.headD 0 : Nat) : Int)) ∧ Hid (StAt w' nb { a with stack := a.stack.tail }) ∧ w.grownBy w' (some nb) := by
  obtain ⟨c0, c1, c2⟩ := h.cells
  have H := hid h
  cases hs : a.stack with
  | nil =>
    rw [hs] at c2
    have HE : Hid (StAt w nb { a with stack := ([] : List Nat).tail }) := hid (by
      have : { a with stack := ([] : List Nat).tail } = a := by rw [← show a.stack = ([] : List Nat).tail from hs]
      rw [this]; exact h)
    clear h c0 c1 hs
    go_enter Tryz.func201, Tryz.ntmps201
    go_wp2
    go_ret
    exact ⟨rfl, HE, grown_refl _ _⟩
  | cons k r =>
    have hl1 : a.stack.length = r.length + 1 := by rw [hs]; rfl
    have hn : r.length < 64 := by omega
    have d0 : w.cell? ⟨nb, 3 + r.length, none⟩ = some (.int .u8 (k : Int)) := by
      have := h.stack r.length hn
      rw [hs] at this
      rw [this]; simp
    have f0 := h.frozen (3 + r.length)
    have f2 := h.frozen 2
    rw [hl1] at c2
    have hne : (((r.length : Int) + 1) == 0) = false := by rw [beq_eq_false_iff_ne]; omega
    have HST : Hid (∀ W : World, (∀ j, W.heap[j]? = w.heap[j]?) → StAt ((W.setCell ⟨nb, 2, none⟩ (.int .i64 (r.length : Int))).setCell ⟨nb, 3 + r.length, none⟩ (.int .u8 0)) nb { a with stack := r }) := hid (fun W hW => by
      have h1 : StAt W nb a := (hW nb).trans h
      have h2 := (h1.setk 2 (.int .i64 (r.length : Int))).setk (3 + r.length) (.int .u8 0)
      have h3 := stC_pop a hl (by omega)
      rw [hl1, Nat.add_sub_cancel] at h3
      rw [h3, show a.stack.tail = r by rw [hs]; rfl] at h2
      exact h2)
    rw [show (k :: r).headD 0 = k from rfl, show (k :: r).tail = r from rfl]
    generalize r.length = n at *
    clear h c0 c1 hs hl1 H
    go_enter Tryz.func201, Tryz.ntmps201
    go_wp2
    go_region
    all_goals
      go_wp2
      go_region
      all_goals
        go_wp2
        go_ret
        exact ⟨rfl, hid (HST.out w (fun _ => rfl)), grown_set (p := ⟨nb, 3 + n, none⟩) (grown_drew (grown_drew (grown_set (p := ⟨nb, 2, none⟩) (grown_refl _ _) (Or.inl rfl) _))) (Or.inl rfl) _⟩
theorem canJump_any (op arg : Nat) (w : World) : Calls Tryz.prog 146 #[.agg #[.int .i64 op, .int .i64 arg]] w fun e w' => e = .returned (.bool (canJump op)) ∧ Below w.heap.size w w' := by
  by_cases h1 : op = 9
  · subst h1
    go_enter Tryz.func146, Tryz.ntmps146
    go_wp2
    go_ret
    exact ⟨rfl, (by repeat (first | exact Below.refl _ _ | assumption | refine Below.alloc ?_ (by first | omega | (simp; omega) | simp) _ | refine Below.setCell ?_ (by first | omega | (simp; omega) | simp) _ | refine below_drewN' ?_ _ | refine Below.drew ?_))⟩
  · by_cases h2 : op = 10
    · subst h2
      go_enter Tryz.func146, Tryz.ntmps146
      go_wp2
      go_ret
      exact ⟨rfl, (by repeat (first | exact Below.refl _ _ | assumption | refine Below.alloc ?_ (by first | omega | (simp; omega) | simp) _ | refine Below.setCell ?_ (by first | omega | (simp; omega) | simp) _ | refine below_drewN' ?_ _ | refine Below.drew ?_))⟩
    · have HP : Hid (canJump op = false) := hid (by unfold canJump; simp [h1, h2])
      have e1 : ((op : Int) == 9) = false := by rw [beq_eq_false_iff_ne]; omega
      have e2 : ((op : Int) == 10) = false := by rw [beq_eq_false_iff_ne]; omega
      go_enter Tryz.func146, Tryz.ntmps146
      go_wp2
      go_ret
      exact ⟨ret_bool HP.out.symm, (by repeat (first | exact Below.refl _ _ | assumption | refine Below.alloc ?_ (by first | omega | (simp; omega) | simp) _ | refine Below.setCell ?_ (by first | omega | (simp; omega) | simp) _ | refine below_drewN' ?_ _ | refine Below.drew ?_))⟩
theorem hasSlot_any (op arg : Nat) (w : World) : Calls Tryz.prog 149 #[.agg #[.int .i64 op, .int .i64 arg]] w fun e w' => e = .returned (.bool (hasSlot op)) ∧ Below w.heap.size w w' := by
  by_cases h1 : op = 12
  · subst h1
    go_enter Tryz.func149, Tryz.ntmps149
    go_wp2
    go_ret
    exact ⟨rfl, (by repeat (first | exact Below.refl _ _ | assumption | refine Below.alloc ?_ (by first | omega | (simp; omega) | simp) _ | refine Below.setCell ?_ (by first | omega | (simp; omega) | simp) _ | refine below_drewN' ?_ _ | refine Below.drew ?_))⟩
  · by_cases h2 : op = 13
    · subst h2
      go_enter Tryz.func149, Tryz.ntmps149
      go_wp2
      go_ret
      exact ⟨rfl, (by repeat (first | exact Below.refl _ _ | assumption | refine Below.alloc ?_ (by first | omega | (simp; omega) | simp) _ | refine Below.setCell ?_ (by first | omega | (simp; omega) | simp) _ | refine below_drewN' ?_ _ | refine Below.drew ?_))⟩
    · have HP : Hid (hasSlot op = false) := hid (by unfold hasSlot; simp [h1, h2])
      have e1 : ((op : Int) == 12) = false := by rw [beq_eq_false_iff_ne]; omega
      have e2 : ((op : Int) == 13) = false := by rw [beq_eq_false_iff_ne]; omega
      go_enter Tryz.func149, Tryz.ntmps149
      go_wp2
      go_ret
      exact ⟨ret_bool HP.out.symm, (by repeat (first | exact Below.refl _ _ | assumption | refine Below.alloc ?_ (by first | omega | (simp; omega) | simp) _ | refine Below.setCell ?_ (by first | omega | (simp; omega) | simp) _ | refine below_drewN' ?_ _ | refine Below.drew ?_))⟩
theorem isRange_any (nm : ByteArray) (la : Option Addr) (ln lc n : Nat) (w : World) : Calls Tryz.prog 226 #[.agg #[.string nm, .slice la ln lc, .int .i64 n]] w fun e w' => e = .returned (.bool (decide (0 < n))) ∧ Below w.heap.size w w' := by
  by_cases h : 0 < n
  · have h1 : (0 : Int) < n := by omega
    go_enter Tryz.func226, Tryz.ntmps226
    go_wp2
    go_ret
    exact ⟨ret_bool (by simp [h]), (by repeat (first | exact Below.refl _ _ | assumption | refine Below.alloc ?_ (by first | omega | (simp; omega) | simp) _ | refine Below.setCell ?_ (by first | omega | (simp; omega) | simp) _ | refine below_drewN' ?_ _ | refine Below.drew ?_))⟩
  · have h1 : ¬ (0 : Int) < n := by omega
    go_enter Tryz.func226, Tryz.ntmps226
    go_wp2
    go_ret
    exact ⟨ret_bool rfl, (by repeat (first | exact Below.refl _ _ | assumption | refine Below.alloc ?_ (by first | omega | (simp; omega) | simp) _ | refine Below.setCell ?_ (by first | omega | (simp; omega) | simp) _ | refine below_drewN' ?_ _ | refine Below.drew ?_))⟩
theorem kindOf_any (nm : ByteArray) (la : Option Addr) (ln lc n : Nat) (nd : Nd) (w : World) : Calls Tryz.prog 200 #[.agg #[.string nm, .slice la ln lc, .int .i64 n]] w fun e w' => e = .returned (.int .u8 (kindOfP (nd, n) : Nat)) ∧ Below w.heap.size w w' := by
  go_enter Tryz.func200, Tryz.ntmps200
  go_wp2_with fail
  refine calls_gen fun W hW => ?_
  have hbW : Below w.heap.size w W := by rw [hW]; exact (Below.refl _ _).alloc (Nat.le_refl _) _
  have HBW := hid hbW
  clear hW hbW
  refine (isRange_any nm la ln lc n W).mono ?_
  rintro e w1 ⟨rfl, hb1⟩
  have HB1 : Hid (Below w.heap.size w w1) := hid (HBW.out.trans (hb1.mono HBW.out.size))
  clear hb1
  by_cases h : 0 < n
  · have hd : decide (0 < n) = true := by simp [h]
    have HK : Hid (kindOfP (nd, n) = 3) := hid (if_pos h)
    rw [hd]
    clear hd h
    go_wp2
    go_ret
    exact ⟨by rw [HK.out]; rfl, HB1.out⟩
  · have hd : decide (0 < n) = false := by simp [h]
    have HK : Hid (kindOfP (nd, n) = 2) := hid (if_neg h)
    rw [hd]
    clear hd h
    go_wp2
    go_ret
    exact ⟨by rw [HK.out]; rfl, HB1.out⟩
theorem put_push {k : Nat} (hk : k ≠ 0) (a : Ah) : (putK k a).isSome = (pushQ k a.stack a.slots).isSome ∧ ∀ st sl, pushQ k a.stack a.slots = some (st, sl) → putK k a = some { a with stack := st, slots := sl } := by
  unfold putK pushQ
  by_cases h : a.stack.length = 64
  · rw [if_pos (Or.inr h), if_pos h]; exact ⟨rfl, fun _ _ e => by cases e⟩
  · rw [if_neg (by rintro (e | e) <;> contradiction), if_neg h]
    exact ⟨rfl, fun st sl e => by injection e with e; injection e with e1 e2; subst e1; subst e2; rfl⟩
theorem put_zero (a : Ah) : putK 0 a = none := if_pos (Or.inl rfl)
def DoneC (w w' : World) (nb : Nat) (a : Ah) (r : Option (List Nat × List Nat)) (ok : Bool) : Prop := ok = r.isSome ∧ (∀ st sl, r = some (st, sl) → StAt w' nb { a with stack := st, slots := sl }) ∧ w.grownBy w' (some nb)
theorem DoneC.put {w w' : World} {nb : Nat} {a a1 : Ah} {k : Nat} {r : Option (List Nat × List Nat)} (hk : k ≠ 0) (hr : r = pushQ k a1.stack a1.slots) (ha : a1.known = a.known ∧ a1.clash = a.clash) (h : ∀ a', putK k a1 = some a' → StAt w' nb a') (hg : w.grownBy w' (some nb)) : DoneC w w' nb a r (putK k a1).isSome := by
  have hp := put_push hk a1
  subst hr
  refine ⟨hp.1, fun st sl e => ?_, hg⟩
  have := h _ (hp.2 st sl e)
  rw [ha.1, ha.2] at this
  exact this
theorem DoneC.no {w w' : World} {nb : Nat} {a : Ah} {r : Option (List Nat × List Nat)} (hr : r = none) (hg : w.grownBy w' (some nb)) : DoneC w w' nb a r false := by
  subst hr; exact ⟨rfl, (fun _ _ e => nomatch e), hg⟩
end Go.Proofs.YtkodhpilkaihjaaGreatDoor

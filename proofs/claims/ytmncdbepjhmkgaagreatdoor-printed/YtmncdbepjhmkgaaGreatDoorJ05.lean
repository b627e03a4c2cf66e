/- Parts of the proof, joined: QNext, QTake, QKind -/
import Derived.Test.YtmncdbepjhmkgaaGreatDoorJ04
/- What the document's reader does as it goes on to the next token. -/
namespace Go.Proofs.YtmncdbepjhmkgaaGreatDoor
open Go.RowKit LS

set_option maxRecDepth 100000 in
set_option maxHeartbeats 4000000 in
theorem qnext_any (w : World) (b : Nat) (q : QV) (h : QAt w b q) (hs : q.s.size ≤ 6000) (hi : q.at_ ≤ q.s.size) :
    Calls Tryz.prog 24 #[.pointer (some ⟨b, 0, none⟩)] w fun r w' => r = .returned (.tuple #[]) ∧ (∃ ts : ByteArray, bl ts = (lexAt (bl q.s) q.at_).1.txt ∧
      QAt w' b { q with at_ := (lexAt (bl q.s) q.at_).2, k := (lexAt (bl q.s) q.at_).1.kind, tx := ts, ta := (lexAt (bl q.s) q.at_).1.at_ }) ∧ w.grownBy w' (some b) := by
  obtain ⟨c0, c1, c2, c3, c4, c5, c6, c7, c8⟩ := h.all
  have hlt := h.lt
  have HQ : Hid (QAt w b q) := h
  clear h
  generalize hr : lexAt (bl q.s) q.at_ = r
  have HR : Hid _ := hr
  clear hr
  go_enter Tryz.func24, Tryz.ntmps24
  go_upto_region 0 with fail
  go_cut [2, 3] (fun s2 s3 wx => ∃ (x : Nat) (ts : ByteArray), s2 = .pointer (some ⟨x, 0, none⟩) ∧ s3 = .int .i64 r.2 ∧ Hid (bl ts = r.1.txt) ∧ b ≠ x ∧ Hid (QAt wx b q) ∧ Hid (w.grownBy wx (some b)) ∧
    wx.cell? ⟨x, 0, none⟩ = some (.int .i64 r.1.kind) ∧ wx.cell? ⟨x, 1, none⟩ = some (.string ts) ∧ wx.cell? ⟨x, 2, none⟩ = some (.int .i64 r.1.at_))
  case first =>
    go_region_with (go_at_call 59; refine (lex_any _ _ _ hs hi).mono ?_; rintro e w1 ⟨⟨ts, hts⟩, hb1⟩; rw [HR.out] at hts; obtain ⟨rfl, htx⟩ := hts; try (have hbx := box3_of (w := w) (x := .int .i64 0) (y := .string ⟨#[]⟩) (z := .int .i64 0) (t := 72) hb1 rfl; obtain ⟨k0, k1, k2, g0, g1, g2⟩ := hbx))
    all_goals
      have hq1 : QAt w1 b q := by first | exact QAt.below (w := w.drew) HQ.out hb1 | exact QAt.below (w := (w.alloc _).drew) (QAt.alloc HQ.out _) hb1
      have hg1 : w.grownBy w1 (some b) := by first | exact grown_below (b := w.drew) (grown_drew (grown_refl _ _)) hb1 | exact grown_below (b := (w.alloc _).drew) (grown_drew (grown_alloc (grown_refl _ _) _)) hb1
      have hsz : w.heap.size ≤ w1.heap.size := hg1.size
      have hne : b ≠ w.heap.size := by omega
      have hne1 : b ≠ w1.heap.size := by omega
      clear c0 c1 c2 c3 c4 c5 c6 c7 c8 hb1
      go_wp2_with fail
      go_meet
      first
        | exact ⟨w1.heap.size, ts, rfl, rfl, htx, hne1, QAt.alloc hq1 _, grown_alloc hg1 _, by simp, by simp, by simp⟩
        | exact ⟨w.heap.size, ts, rfl, rfl, htx, hne, QAt.other (QAt.other (QAt.other hq1 hne _) hne _) hne _, grown_set (grown_set (grown_set hg1 (Or.inr (Nat.le_refl _)) _) (Or.inr (Nat.le_refl _)) _) (Or.inr (Nat.le_refl _)) _, set3_cells k0 k1 k2⟩
  case rest =>
    obtain ⟨x, ts, rfl, rfl, HT, hbx, HQ1, HG, k0, k1, k2⟩ := hcut
    clear c0 c1 c2 c3 c4 c5 c6 c7 c8
    obtain ⟨c0, c1, c2, c3, c4, c5, c6, c7, c8⟩ := QAt.all HQ1.out
    have f2 := QAt.frozen HQ1.out 2
    have f3 := QAt.frozen HQ1.out 3
    have f4 := QAt.frozen HQ1.out 4
    have f5 := QAt.frozen HQ1.out 5
    go_wp2
    go_end0
    have hq := HQ1.out
    have hg := HG.out
    refine ⟨rfl, ⟨ts, HT.out, ?_⟩, (by repeat (first | exact grown_refl _ _ | assumption | refine grown_set ?_ (by first | exact Or.inl rfl | (right; omega) | (right; simp; omega)) _ | refine grown_alloc ?_ _ | refine grown_drew ?_))⟩
    refine QAt.set (q := { q with k := r.1.kind, tx := ts, ta := r.1.at_ }) ?_ 2 _ rfl
    refine QAt.set (q := { q with k := r.1.kind, tx := ts }) ?_ 5 _ rfl
    refine QAt.set (q := { q with k := r.1.kind }) ?_ 4 _ rfl
    refine QAt.set (q := q) ?_ 3 _ rfl
    exact hq
end Go.Proofs.YtmncdbepjhmkgaaGreatDoor
/- What the document's reader does as it takes a sign, a word, a token of a kind. -/
namespace Go.Proofs.YtmncdbepjhmkgaaGreatDoor
open Go.RowKit LS

/-- The reader in block b has seen no error; the tokens ts are still to come. -/
def QIs (w : World) (b : Nat) (pv : Value) (s : ByteArray) (ts : List Tok) (deep : Nat) : Prop := ∃ q : QV, QAt w b q ∧ q.pv = pv ∧ q.s = s ∧ q.deep = deep ∧ q.e = 0 ∧ q.at_ ≤ s.size ∧ Toks (bl s) (tokOf q) q.at_ ts
/-- It has seen the error e at the place p. -/
def QErr (w : World) (b : Nat) (pv : Value) (e p : Nat) (deep : Nat) : Prop := ∃ q : QV, QAt w b q ∧ q.pv = pv ∧ q.deep = deep ∧ q.e = e ∧ e ≠ 0 ∧ q.pl = p
def QRes {α : Type} (w : World) (b : Nat) (pv : Value) (s : ByteArray) (deep : Nat) (r : Out α) (good : α → Prop) : Prop := match r with
  | .error x => QErr w b pv x.1 x.2 deep
  | .ok x => QIs w b pv s x.2 deep ∧ good x.1
theorem QIs.kept {w w' : World} {b : Nat} {pv : Value} {s : ByteArray} {ts : List Tok} {deep : Nat} (h : QIs w b pv s ts deep) (hw : w'.heap[b]? = w.heap[b]?) : QIs w' b pv s ts deep := by
  obtain ⟨q, h1, h2⟩ := h; exact ⟨q, hw.trans h1, h2⟩
theorem QErr.kept {w w' : World} {b : Nat} {pv : Value} {e p deep : Nat} (h : QErr w b pv e p deep) (hw : w'.heap[b]? = w.heap[b]?) : QErr w' b pv e p deep := by
  obtain ⟨q, h1, h2⟩ := h; exact ⟨q, hw.trans h1, h2⟩
theorem QIs.lt {w : World} {b : Nat} {pv : Value} {s : ByteArray} {ts : List Tok} {deep : Nat} (h : QIs w b pv s ts deep) : b < w.heap.size := by obtain ⟨q, h1, _⟩ := h; exact h1.lt
theorem QErr.lt {w : World} {b : Nat} {pv : Value} {e p deep : Nat} (h : QErr w b pv e p deep) : b < w.heap.size := by obtain ⟨q, h1, _⟩ := h; exact h1.lt
theorem QIs.is {w : World} {b : Nat} {pv : Value} {s : ByteArray} {ts : List Tok} {deep : Nat} (h : QIs w b pv s ts deep) (c : ByteArray) :
    Calls Tryz.prog 61 #[.pointer (some ⟨b, 0, none⟩), .string c] w fun r w' => r = .returned (.bool (isT (bl c) (hd ts))) ∧ w' = w := by
  obtain ⟨q, h1, _, _, _, h5, _, h7⟩ := h
  rw [h7.hd]; exact qis_ok w b q c h1 h5
theorem QErr.is {w : World} {b : Nat} {pv : Value} {e p deep : Nat} (h : QErr w b pv e p deep) (c : ByteArray) :
    Calls Tryz.prog 61 #[.pointer (some ⟨b, 0, none⟩), .string c] w fun r w' => r = .returned (.bool false) ∧ w' = w := by
  obtain ⟨q, h1, _, _, h4, h5, _⟩ := h
  exact qis_err w b q c h1 (by rw [h4]; exact h5)
theorem QErr.fail {w : World} {b : Nat} {pv : Value} {e p deep : Nat} (h : QErr w b pv e p deep) (c : Int) :
    Calls Tryz.prog 26 #[.pointer (some ⟨b, 0, none⟩), .int .i64 c] w fun r w' => r = .returned (.tuple #[]) ∧ w' = w := by
  obtain ⟨q, h1, _, _, h4, h5, _⟩ := h
  exact qfail_err w b q c h1 (by rw [h4]; exact h5)
theorem QIs.fail {w : World} {b : Nat} {pv : Value} {s : ByteArray} {ts : List Tok} {deep : Nat} (h : QIs w b pv s ts deep) (c : Nat) (ci : Int) (hci : ci = c) (hc : c ≠ 0) :
    Calls Tryz.prog 26 #[.pointer (some ⟨b, 0, none⟩), .int .i64 ci] w fun r w' => r = .returned (.tuple #[]) ∧ QErr w' b pv c (hd ts).at_ deep ∧ w.grownBy w' (some b) := by
  subst hci
  obtain ⟨q, h1, h2, h3, h4, h5, h6, h7⟩ := h
  rw [h7.hd]
  refine (qfail_ok w b q c h1 h5).mono ?_
  rintro r w' ⟨rfl, hq, hg⟩
  exact ⟨rfl, ⟨_, hq, h2, h4, rfl, hc, rfl⟩, hg⟩
theorem QIs.next {w : World} {b : Nat} {pv : Value} {s : ByteArray} {ts : List Tok} {deep : Nat} (h : QIs w b pv s ts deep) (hs : s.size ≤ 6000) (hl : ¬ ((hd ts).kind = 0 ∨ (hd ts).kind = 5)) :
    Calls Tryz.prog 24 #[.pointer (some ⟨b, 0, none⟩)] w fun r w' => r = .returned (.tuple #[]) ∧ QIs w' b pv s ts.tail deep ∧ w.grownBy w' (some b) := by
  obtain ⟨q, h1, h2, rfl, h4, h5, h6, h7⟩ := h
  rw [h7.hd] at hl
  refine (qnext_any w b q h1 hs h6).mono ?_
  rintro r w' ⟨rfl, ⟨tx, htx, hq⟩, hg⟩
  have h8 := h7.next hl (by rw [bl_length]; exact h6)
  refine ⟨rfl, ⟨_, hq, h2, rfl, h4, h5, ?_, ?_⟩, hg⟩
  · have := (lexAt_gt (bl q.s) q.at_ (by rw [bl_length]; exact h6)).2; rw [bl_length] at this; exact this
  · have e : tokOf { q with at_ := (lexAt (bl q.s) q.at_).2, k := (lexAt (bl q.s) q.at_).1.kind, tx := tx, ta := (lexAt (bl q.s) q.at_).1.at_ } = (lexAt (bl q.s) q.at_).1 := by
      show (⟨_, bl tx, _⟩ : Tok) = _; rw [htx]
    rw [e]; exact h8

set_option maxHeartbeats 1000000 in
theorem QErr.take {w : World} {b : Nat} {pv : Value} {e p deep : Nat} (h : QErr w b pv e p deep) (c : ByteArray) :
    Calls Tryz.prog 116 #[.pointer (some ⟨b, 0, none⟩), .string c] w fun r w' => r = .returned (.tuple #[]) ∧ w' = w := by
  have H : Hid (QErr w b pv e p deep) := h
  clear h
  go_enter Tryz.func116, Tryz.ntmps116
  go_wp2_with fail
  refine (QErr.is H.out c).mono ?_
  rintro r w' ⟨rfl, rfl⟩
  go_wp2_with fail
  refine (QErr.fail H.out _).mono ?_
  rintro r w' ⟨rfl, rfl⟩
  go_wp2
  first | go_end0 | refine bodyPost_ret (results_none rfl _ _ _) rfl ?_
  exact ⟨rfl, rfl⟩
set_option maxHeartbeats 1000000 in
theorem QIs.take {w : World} {b : Nat} {pv : Value} {s : ByteArray} {ts : List Tok} {deep : Nat} (h : QIs w b pv s ts deep) (hs : s.size ≤ 6000) (c : ByteArray) :
    Calls Tryz.prog 116 #[.pointer (some ⟨b, 0, none⟩), .string c] w fun r w' => r = .returned (.tuple #[]) ∧ QRes w' b pv s deep (takeP (bl c) ts) (fun _ => True) ∧ w.grownBy w' (some b) := by
  have H : Hid (QIs w b pv s ts deep) := h
  clear h
  cases hc : isT (bl c) (hd ts)
  · have HR : Hid (takeP (bl c) ts = .error (2, (hd ts).at_)) := hid (by unfold takeP; rw [hc]; rfl)
    have HC : Hid _ := hc
    clear hc
    go_enter Tryz.func116, Tryz.ntmps116
    go_wp2_with fail
    refine (QIs.is H.out c).mono ?_
    rw [HC.out]
    rintro r w' ⟨rfl, rfl⟩
    go_wp2_with fail
    refine (QIs.fail H.out 2 _ rfl (by decide)).mono ?_
    rintro r w' ⟨rfl, hq, hg⟩
    have HQ : Hid _ := hq
    have HG : Hid _ := hg
    clear hq hg
    go_wp2
    first | go_end0 | refine bodyPost_ret (results_none rfl _ _ _) rfl ?_
    rw [HR.out]
    exact ⟨rfl, HQ.out, HG.out⟩
  · have HR : Hid (takeP (bl c) ts = .ok ((), ts.tail)) := hid (by unfold takeP; rw [hc]; rfl)
    have HC : Hid _ := hc
    clear hc
    go_enter Tryz.func116, Tryz.ntmps116
    go_wp2_with fail
    refine (QIs.is H.out c).mono ?_
    rw [HC.out]
    rintro r w' ⟨rfl, rfl⟩
    go_wp2_with fail
    refine (QIs.next H.out hs (isT_live HC.out)).mono ?_
    rintro r w' ⟨rfl, hq, hg⟩
    have HQ : Hid _ := hq
    have HG : Hid _ := hg
    clear hq hg
    go_wp2
    first | go_end0 | refine bodyPost_ret (results_none rfl _ _ _) rfl ?_
    rw [HR.out]
    exact ⟨rfl, ⟨HQ.out, trivial⟩, HG.out⟩
end Go.Proofs.YtmncdbepjhmkgaaGreatDoor
/- What the document's reader does as it takes a token of a kind. -/
namespace Go.Proofs.YtmncdbepjhmkgaaGreatDoor
open Go.RowKit LS

set_option maxHeartbeats 1000000 in
theorem QErr.kind {w : World} {b : Nat} {pv : Value} {e p deep : Nat} (h : QErr w b pv e p deep) (c : Int) :
    Calls Tryz.prog 118 #[.pointer (some ⟨b, 0, none⟩), .int .i64 c] w fun r w' => r = .returned (.string ⟨#[]⟩) ∧ w' = w := by
  obtain ⟨q, h1, h2, h3, h4, h5, h6⟩ := h
  obtain ⟨c0, c1, c2, c3, c4, c5, c6, c7, c8⟩ := h1.all
  have hne : ((q.e : Int) != 0) = true := by rw [bne_iff_ne]; omega
  have H : Hid (QErr w b pv e p deep) := ⟨q, h1, h2, h3, h4, h5, h6⟩
  clear h1 h2 h3 h4 h5 h6
  go_enter Tryz.func118, Tryz.ntmps118
  go_wp2_with fail
  refine (QErr.fail H.out _).mono ?_
  rintro r w' ⟨rfl, rfl⟩
  go_wp2
  go_ret
  exact ⟨rfl, rfl⟩
set_option maxHeartbeats 1000000 in
theorem QIs.kind {w : World} {b : Nat} {pv : Value} {s : ByteArray} {ts : List Tok} {deep : Nat} (h : QIs w b pv s ts deep) (hs : s.size ≤ 6000) (k : Nat) (ki : Int) (hki : ki = k) (hk : ¬ (k = 0 ∨ k = 5)) :
    Calls Tryz.prog 118 #[.pointer (some ⟨b, 0, none⟩), .int .i64 ki] w fun r w' => ∃ x : ByteArray, r = .returned (.string x) ∧ QRes w' b pv s deep (kindP k ts) (fun a => bl x = a) ∧ w.grownBy w' (some b) := by
  subst hki
  have H : Hid (QIs w b pv s ts deep) := h
  obtain ⟨q, h1, h2, h3, h4, h5, h6, h7⟩ := h
  obtain ⟨c0, c1, c2, c3, c4, c5, c6, c7, c8⟩ := h1.all
  have hz : ((q.e : Int) != 0) = false := by rw [h5]; rfl
  have hh := h7.hd
  clear h1 h2 h3 h4 h5 h6 h7
  by_cases hc : q.k = k
  · have hck : ((q.k : Int) != (k : Int)) = false := by rw [hc]; simp
    have HR : Hid (kindP k ts = .ok (bl q.tx, ts.tail)) := hid (by
      unfold kindP; rw [hh, if_pos (show (tokOf q).kind = k from hc)]; rfl)
    have HL : Hid (¬ ((hd ts).kind = 0 ∨ (hd ts).kind = 5)) := hid (by rw [hh]; show ¬ (q.k = 0 ∨ q.k = 5); rw [hc]; exact hk)
    clear hc hh hk
    go_enter Tryz.func118, Tryz.ntmps118
    go_wp2_with fail
    refine (QIs.next H.out hs HL.out).mono ?_
    rintro r w' ⟨rfl, hq, hg⟩
    have HQ : Hid _ := hq
    have HG : Hid _ := hg
    clear hq hg
    go_wp2
    go_ret
    rw [HR.out]
    exact ⟨q.tx, rfl, ⟨HQ.out, rfl⟩, HG.out⟩
  · have hck : ((q.k : Int) != (k : Int)) = true := by rw [bne_iff_ne]; omega
    have HR : Hid (kindP k ts = .error (2, (hd ts).at_)) := hid (by
      unfold kindP; rw [if_neg (show ¬ (hd ts).kind = k by rw [hh]; exact hc)])
    clear hc hh hk
    go_enter Tryz.func118, Tryz.ntmps118
    go_wp2_with fail
    refine (QIs.fail H.out 2 _ rfl (by decide)).mono ?_
    rintro r w' ⟨rfl, hq, hg⟩
    have HQ : Hid _ := hq
    have HG : Hid _ := hg
    clear hq hg
    go_wp2
    go_ret
    rw [HR.out]
    exact ⟨⟨#[]⟩, rfl, HQ.out, HG.out⟩
end Go.Proofs.YtmncdbepjhmkgaaGreatDoor

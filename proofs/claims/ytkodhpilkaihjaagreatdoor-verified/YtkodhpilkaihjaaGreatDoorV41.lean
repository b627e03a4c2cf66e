/- Parts. -/
import Derived.Test.YtkodhpilkaihjaaGreatDoorV36
import Derived.Test.YtkodhpilkaihjaaGreatDoorV40
import Derived.Test.YtkodhpilkaihjaaGreatDoorV33
namespace Go.Proofs.YtkodhpilkaihjaaGreatDoor
open Go.RowKit LS
theorem refersTo_num {c : CodeQ} {x : Nat × Nat} : ∀ {n : Nat}, refersTo c n = .error x → x.1 = 11
  | 0, h => by cases h
  | n + 1, h => by
    unfold refersTo at h
    cases hr : refersTo c n with
    | error e => rw [hr] at h; injection h with h; subst h; exact refersTo_num hr
    | ok u =>
      rw [hr] at h
      simp only at h
      split at h
      · cases h
      · injection h with h; subst h; rfl
theorem passQ_num {c : CodeQ} {x : Nat × Nat} : ∀ {n : Nat}, passQ c n = .error x → x.1 = 12
  | 0, h => by cases h
  | n + 1, h => by
    unfold passQ at h
    cases hr : passQ c n with
    | error e => rw [hr] at h; injection h with h; subst h; exact passQ_num hr
    | ok u =>
      rw [hr] at h
      simp only at h
      unfold passOne at h
      simp only at h
      split at h
      · split at h
        · injection h with h; subst h; rfl
        · split at h
          · injection h with h; subst h; rfl
          · cases h
      · cases h
theorem verifyQ_num {c : CodeQ} {x : Nat × Nat} (h : verifyQ c = .error x) : x.1 ≠ 0 := by
  unfold verifyQ at h
  split at h
  · rename_i e he
    injection h with h; subst h
    rw [refersTo_num he]; decide
  · split at h
    · rename_i e he
      injection h with h; subst h
      unfold highQ at he
      split at he
      · rename_i e2 he2
        injection he with he; subst he
        rw [passQ_num he2]; decide
      · split at he
        · cases he
        · injection he with he; subst he; show (12 : Nat) ≠ 0; decide
    · cases h
theorem results_tmp5R {fn : Func} {t u v x y : Tmp} (h : fn.results = #[.tmp t, .tmp u, .tmp v, .tmp x, .tmp y]) (tmps : Array Value) (P : Program) (w : World) :
    (results fn tmps).run P w = .ok (.tuple #[tmps.getD t undef, tmps.getD u undef, tmps.getD v undef, tmps.getD x undef, tmps.getD y undef]) w := by
  simp [results, h]
def LookR (w : World) (r : Except (Nat × Nat) (CodeQ × Nat × Nat)) (v : Value) (a b c p : Nat) : Prop := match r with
  | .error x => a = 0 ∧ b = 0 ∧ c = x.1 ∧ p = x.2 ∧ c ≠ 0
  | .ok x => a = x.2.1 ∧ b = x.2.2 ∧ c = 0 ∧ p = 0 ∧ ∃ (cb : Nat) (cv pv gv iv : Value) (l : List PV) (g : List (Option Addr × Nat × Nat)), v = .pointer (some ⟨cb, 0, none⟩) ∧ VerP w cb x.1 cv pv gv iv l g
theorem LookR.mkErr {w : World} {r : Except (Nat × Nat) (CodeQ × Nat × Nat)} {v : Value} {c p : Nat} (h : r = .error (c, p)) (h0 : c ≠ 0) : LookR w r v 0 0 c p := by subst h; exact ⟨rfl, rfl, rfl, rfl, h0⟩
theorem LookR.mkOk {w : World} {r : Except (Nat × Nat) (CodeQ × Nat × Nat)} {code : CodeQ} {a b cb : Nat} {cv pv gv iv : Value} {l : List PV} {g : List (Option Addr × Nat × Nat)} (h : r = .ok (code, a, b)) (hp : VerP w cb code cv pv gv iv l g) : LookR w r (.pointer (some ⟨cb, 0, none⟩)) a b 0 0 := by subst h; exact ⟨rfl, rfl, rfl, rfl, cb, cv, pv, gv, iv, l, g, rfl, hp⟩
theorem LookR.zero {w : World} {r : Except (Nat × Nat) (CodeQ × Nat × Nat)} {v : Value} {a b c p : Nat} (h : LookR w r v a b c p) (hc : c ≠ 0) : a = 0 ∧ b = 0 := by
  cases r with
  | error x => exact ⟨h.1, h.2.1⟩
  | ok x => exact absurd h.2.2.1 hc
set_option maxRecDepth 100000 in
set_option maxHeartbeats 4000000 in
theorem looked_any (s : ByteArray) (w : World) (hs : s.size ≤ maxLen) :
    Calls Tryz.prog 15 #[.string s] w fun e w' => ∃ (v : Value) (a b c p : Nat), e = .returned (.tuple #[v, .int .i64 a, .int .i64 b, .int .i64 c, .int .i64 p]) ∧ Hid (LookR w' (lookedQ (bl s)) v a b c p) ∧ Below w.heap.size w w' := by
  go_enter Tryz.func15, Tryz.ntmps15
  go_wp2_with fail
  refine (decode_any s w hs).mono ?_
  rintro e w1 ⟨v, c, p, rfl, HR, hb1⟩
  have HB1 := hid hb1
  clear hb1
  cases hd : decodeQ (bl s) with
  | error x =>
    have hr := HR.out
    rw [hd] at hr
    obtain ⟨_, h1, h2, h0⟩ := hr
    have HL : Hid (lookedQ (bl s) = .error (c, p)) := hid (by unfold lookedQ; rw [hd, h1, h2])
    have hc0 : ((c : Int) != 0) = true := by rw [bne_iff_ne]; omega
    clear hd HR h1 h2
    go_wp2
    (try simp only [Exit.inBlock, Exit.then])
    refine bodyPost_ret (results_tmp5R rfl _ _ _) rfl ?_
    exact ⟨_, 0, 0, c, p, rfl, hid (LookR.mkErr HL.out h0), HB1.out⟩
  | ok code =>
    have hr := HR.out
    rw [hd] at hr
    obtain ⟨rfl, rfl, cb, cv, pv, gv, iv, l, g, rfl, hrc, hln, hop⟩ := hr
    have HP := hid (show VerP w1 cb code cv pv gv iv l g from ⟨hrc, hln, hop⟩)
    have HLV : Hid (lookedQ (bl s) = match verifyQ code with
      | .error e => .error e
      | .ok x => .ok (code, x)) := hid (by unfold lookedQ; rw [hd]; simp only; cases verifyQ code <;> rfl)
    clear hd HR hrc hln hop
    go_wp2_with fail
    refine (rVerify_any w1 cb code cv pv gv iv l g HP.out).mono ?_
    rintro e w2 ⟨a, b, d, q, rfl, HV, hb2⟩
    have HB2 : Hid (Below w.heap.size w w2) := hid (HB1.out.trans (hb2.mono HB1.out.size))
    have HP2 : Hid (VerP w2 cb code cv pv gv iv l g) := hid ⟨HP.out.code.below hb2, HP.out.ln, HP.out.op⟩
    have HF : Hid (LookR w2 (lookedQ (bl s)) (.pointer (some ⟨cb, 0, none⟩)) a b d q) := hid (by
      have h1 := HV.out
      have h2 := HLV.out
      cases hv : verifyQ code with
      | error x =>
        rw [hv] at h1 h2
        have h3 : ((0 : Nat), (0 : Nat), x.1, x.2) = (a, b, d, q) := h1
        injection h3 with e1 h3; injection h3 with e2 h3; injection h3 with e3 e4
        subst e1 e2 e3 e4
        exact LookR.mkErr h2 (verifyQ_num hv)
      | ok x =>
        rw [hv] at h1 h2
        have h3 : (x.1, x.2, (0 : Nat), (0 : Nat)) = (a, b, d, q) := h1
        injection h3 with e1 h3; injection h3 with e2 h3; injection h3 with e3 e4
        subst e1 e2 e3 e4
        exact LookR.mkOk h2 HP2.out)
    clear hb2 HV HLV HP HB1
    go_wp2
    (try simp only [Exit.inBlock, Exit.then])
    refine bodyPost_ret (results_tmp5R rfl _ _ _) rfl ?_
    exact ⟨_, a, b, d, q, rfl, HF, HB2.out⟩
theorem look_ver {w : World} {r : Except (Nat × Nat) (CodeQ × Nat × Nat)} {v : Value} {a b c p : Nat} (h : LookR w r v a b c p) : verR r = (a, b, c, p) := by
  cases r with
  | error x => obtain ⟨rfl, rfl, rfl, rfl, _⟩ := h; rfl
  | ok x => obtain ⟨rfl, rfl, rfl, rfl, _⟩ := h; rfl
theorem vnum_any (v : Int) (w : World) : Calls Tryz.prog 16 #[.int .i64 v] w fun e w' => e = .returned (.int .i64 v) ∧ w' = w := by
  go_enter Tryz.func16, Tryz.ntmps16
  go_wp2
  go_ret
  exact ⟨rfl, rfl⟩
set_option maxRecDepth 100000 in
set_option maxHeartbeats 4000000 in
theorem verify_true (s : ByteArray) (A : Nat → Addr) (m : Int) (w : World) (hv : Vars w A m) (ht : PowTab w) (hB : 20 ≤ w.heap.size) (hs : s.size ≤ maxLen) :
    Calls Tryz.prog 6 #[.string s] w fun e w' => e = .returned (.bool true) ∧ Below w.heap.size w w' := by
  have HC : Hid (Calls Tryz.prog 10 #[.string s] w _) := hid (gVerify_any s A m w hv ht hB hs)
  have HL : Hid (∀ W, Calls Tryz.prog 15 #[.string s] W _) := hid (fun W => looked_any s W hs)
  clear hv ht hB hs
  go_enter Tryz.func6, Tryz.ntmps6
  go_wp2_with fail
  refine HC.out.mono ?_
  rintro e w1 ⟨a, b, c, p, rfl, HQ, hb1⟩
  have HB1 := hid hb1
  clear hb1 HC
  go_wp2_with fail
  refine calls_gen fun W hW => ?_
  have hbW : Below w1.heap.size w1 W := by rw [hW]; exact (by repeat (first | exact Below.refl _ _ | assumption | refine Below.alloc ?_ (by first | omega | (simp; omega) | simp) _ | refine Below.setCell ?_ (by first | omega | (simp; omega) | simp) _ | refine below_drewN' ?_ _ | refine Below.drew ?_))
  have HNW : Hid (BAt W w1.heap.size [.int .i64 a, .int .i64 b] 31) := hid (by rw [hW]; exact (show BAt _ _ _ _ from Go.Deep.blk_alloc_new w1 _))
  have HBW : Hid (Below w.heap.size w W) := hid (HB1.out.trans (hbW.mono HB1.out.size))
  clear hW hbW HB1
  generalize w1.heap.size = nb at *
  refine (HL.out W).mono ?_
  rintro e w2 ⟨v, a2, b2, c2, p2, rfl, HR, hb2⟩
  have HB2 : Hid (Below w.heap.size w w2) := hid (HBW.out.trans (hb2.mono HBW.out.size))
  have HN2 := hid (HNW.out.below hb2)
  have he : (a2, b2, c2, p2) = (a, b, c, p) := (look_ver HR.out).symm.trans HQ.out
  injection he with e1 he; injection he with e2 he; injection he with e3 e4
  subst e1 e2 e3 e4
  have HZ : Hid (c2 ≠ 0 → a2 = 0 ∧ b2 = 0) := hid (fun h => HR.out.zero h)
  have n0 := HN2.out.cell 0
  have n1 := HN2.out.cell 1
  simp only [List.getElem?_cons_zero, List.getElem?_cons_succ] at n0 n1
  clear hb2 HR HQ HL HBW HNW
  by_cases hc : c2 = 0
  · subst hc
    go_wp2_with (go_at_call 16; refine (vnum_any _ _).mono ?_; rintro e w' ⟨rfl, rfl⟩)
    go_ret
    exact ⟨by simp, HB2.out⟩
  · obtain ⟨e1, e2⟩ := HZ.out hc
    subst e1 e2
    have hc0 : ((c2 : Int) != 0) = true := by rw [bne_iff_ne]; omega
    go_wp2_with (go_at_call 16; refine (vnum_any _ _).mono ?_; rintro e w' ⟨rfl, rfl⟩)
    go_ret
    exact ⟨by simp, HB2.out⟩
set_option maxRecDepth 100000 in
set_option maxHeartbeats 4000000 in
theorem simple_any (w : World) : Calls Tryz.prog 7 #[] w fun e w' => ∃ r : ByteArray, e = .returned (.string r) ∧ r.size ≤ maxLen ∧ Below w.heap.size w w' := by
  go_enter Tryz.func7, Tryz.ntmps7
  go_wp2_with fail
  refine (rSealed_any _ w (by decide)).mono ?_
  rintro e w1 ⟨r, rfl, HR, hb1⟩
  have hz : r.size ≤ maxLen := by
    have h1 := congrArg List.length HR.out
    rw [List.length_append, bl_length, bl_length, digL_len] at h1
    rw [h1]; decide
  have HZ := hid hz
  clear hz HR
  go_wp2
  go_ret
  exact ⟨r, rfl, HZ.out, hb1⟩
set_option maxRecDepth 100000 in
set_option maxHeartbeats 4000000 in
theorem verified_true (s t : ByteArray) (A : Nat → Addr) (m : Int) (w : World) (hv : Vars w A m) (htb : PowTab w) (hB : 20 ≤ w.heap.size) (hs : s.size ≤ maxLen) (ht : t.size ≤ maxLen) :
    Calls Tryz.prog 3 #[.string s, .string t] w fun e w' => e = .returned (.bool true) ∧ Below w.heap.size w w' := by
  have HS : Hid (∀ (q : ByteArray) (w' : World), Below w.heap.size w w' → q.size ≤ maxLen → Calls Tryz.prog 6 #[.string q] w' fun e w'' => e = .returned (.bool true) ∧ Below w.heap.size w w'') := hid (fun q w' hb hq => (verify_true q A m w' (hv.below hb) (htb.low hb hB) (Nat.le_trans hB hb.size) hq).mono (fun e w'' ⟨h1, h2⟩ => ⟨h1, hb.trans (h2.mono hb.size)⟩))
  have HSZ := hid (And.intro hs ht)
  clear hv htb hB hs ht
  go_enter Tryz.func3, Tryz.ntmps3
  go_wp2_with fail
  refine (HS.out s w (Below.refl _ _) HSZ.out.1).mono ?_
  rintro e w1 ⟨rfl, hb1⟩
  have HB1 := hid hb1
  clear hb1
  go_wp2_with fail
  refine (HS.out t w1 HB1.out HSZ.out.2).mono ?_
  rintro e w2 ⟨rfl, hb2⟩
  have HB2 := hid hb2
  clear hb2
  go_wp2_with fail
  refine (HS.out s w2 HB2.out HSZ.out.1).mono ?_
  rintro e w3 ⟨rfl, hb3⟩
  have HB3 := hid hb3
  clear hb3
  go_wp2_with fail
  refine (simple_any w3).mono ?_
  rintro e w4 ⟨r, rfl, hr, hb4⟩
  have HB4 : Hid (Below w.heap.size w w4) := hid (HB3.out.trans (hb4.mono HB3.out.size))
  have HRZ := hid hr
  clear hb4 hr
  go_wp2_with fail
  refine (HS.out r w4 HB4.out HRZ.out).mono ?_
  rintro e w5 ⟨rfl, hb5⟩
  go_wp2
  go_ret
  exact ⟨rfl, hb5⟩
end Go.Proofs.YtkodhpilkaihjaaGreatDoor

/- Parts. -/
import Derived.Test.YtpbemaaghbbocaaGreatDoorA15
import Derived.Test.YtpbemaaghbbocaaGreatDoorA10
import Derived.Test.YtpbemaaghbbocaaGreatDoorA13
import Derived.Test.YtpbemaaghbbocaaGreatDoorA14
import Derived.Test.YtpbemaaghbbocaaGreatDoorA08
import Derived.Laws.IdiomStrings
namespace Go.Proofs.YtpbemaaghbbocaaGreatDoor
open Go.RowKit LS
theorem Rep.at {w : World} {pv : Value} {n : Nat} {xs : List Value} (hown : w.ownsRow 0 131 8 pv n xs) {x y : Nat} {nd : Nd} {l r : Tr} {i : Nat} (h : Rep w xs (.node x y nd l r) i) :
    ∃ (g cp : Nat) (p : PV) (a c : Nat), pv = .slice (some ⟨g, 0, none⟩) n cp ∧ g < w.heap.size ∧ i < n ∧ partIs w nd p ∧ p.a = a ∧ p.b = c ∧ Rep w xs l a ∧ Rep w xs r c ∧
      w.cell? ⟨g, i * 8, none⟩ = some (.int .i64 p.k) ∧ w.cell? ⟨g, i * 8 + 1, none⟩ = some (.int .i64 p.n) ∧ w.cell? ⟨g, i * 8 + 2, none⟩ = some (.int .i64 p.op) ∧ w.cell? ⟨g, i * 8 + 3, none⟩ = some (.string p.nm) ∧
      w.cell? ⟨g, i * 8 + 4, none⟩ = some (.slice p.ca p.cn p.cc) ∧ w.cell? ⟨g, i * 8 + 5, none⟩ = some (.slice p.ba p.bn p.bc) ∧ w.cell? ⟨g, i * 8 + 6, none⟩ = some (.int .i64 p.a) ∧ w.cell? ⟨g, i * 8 + 7, none⟩ = some (.int .i64 p.b) := by
  obtain ⟨p, a, c, h1, h2, h3, h4, _, _, h7, h8⟩ := h
  have hlen := congrArg List.length h1
  rw [cells_len, List.length_take, List.length_drop, hown.1] at hlen
  have hi : i < n := by omega
  obtain ⟨g, cp, rfl⟩ := own_some hown (by omega)
  have hc : ∀ j v, j < 8 → p.cells[j]? = some v → w.cell? ⟨g, i * 8 + j, none⟩ = some v := by
    intro j v hj hv
    refine own_cell hown _ _ ?_
    rw [← h1, List.getElem?_take, if_pos hj, List.getElem?_drop] at hv
    exact hv
  exact ⟨g, cp, p, a, c, rfl, own_lt hown, hi, h2, h3, h4, h7, h8, hc 0 _ (by decide) rfl, hc 1 _ (by decide) rfl, hc 2 _ (by decide) rfl, hc 3 _ (by decide) rfl, hc 4 _ (by decide) rfl, hc 5 _ (by decide) rfl, hc 6 _ (by decide) rfl, hc 7 _ (by decide) rfl⟩
theorem NamesAre.below {w w' : World} {base : Nat} {p : PV} {ns : List (List UInt8)} (h : NamesAre w base p ns) (hb : Below w.heap.size w w') : NamesAre w' base p ns := by
  obtain ⟨bs, h1, h2⟩ := h
  exact ⟨bs, own_below h1 hb, h2⟩
theorem CondsAre.below {w w' : World} {base : Nat} {p : PV} {ns : List (List UInt8 × List UInt8 × Bool)} (h : CondsAre w base p ns) (hb : Below w.heap.size w w') : CondsAre w' base p ns := by
  obtain ⟨bs, h1, h2⟩ := h
  exact ⟨bs, own_below h1 hb, h2⟩
theorem Rep.below {w w' : World} {xs : List Value} (hb : Below w.heap.size w w') : ∀ (t : Tr) (i : Nat), Rep w xs t i → Rep w' xs t i
  | .nil, _, _ => trivial
  | .node _ _ nd l r, i, h => by
    obtain ⟨p, u, c, h1, ⟨g1, g2, g3, g4, g5, g6⟩, h3, h4, h5, h6, h7, h8⟩ := h
    exact ⟨p, u, c, h1, ⟨g1, g2, g3, g4, g5.below hb, g6.below hb⟩, h3, h4, h5, h6, Rep.below hb l u h7, Rep.below hb r c h8⟩
theorem kindT_le (t : Tr) : kindT t ≤ 2 := by
  cases t with
  | nil => decide
  | node x y a l r =>
    unfold kindT
    have hl := kindT_le l
    split
    · decide
    · split
      · decide
      · split
        · exact hl
        · split
          · split <;> decide
          · split
            · decide
            · split <;> decide
termination_by t
structure RowAt (w : World) (b : Nat) (pv : Value) (n : Nat) (xs : List Value) : Prop where
  cell : w.cell? ⟨b, 0, none⟩ = some pv
  own : w.ownsRow 0 131 8 pv n xs
theorem RowAt.below {w w' : World} {b : Nat} {pv : Value} {n : Nat} {xs : List Value} (h : RowAt w b pv n xs) (hb : Below w.heap.size w w') : RowAt w' b pv n xs :=
  ⟨(hb.cell (p := ⟨b, 0, none⟩) (World.block_lt_of_cell? _ _ h.cell)).trans h.cell, own_below h.own hb⟩
theorem lexAll_tw (l : List UInt8) (hl : l.length ≤ 300) : ∀ (n i : Nat), tw (lexAll l n i) ≤ 332 * (lexAll l n i).length
  | 0, _ => Nat.le_refl _
  | n + 1, i => by
    have h1 := lexAt_txt l i
    have h2 := lexAll_tw l hl n (lexAt l i).2
    unfold lexAll
    split
    · simp [tw]; omega
    · simp [tw]; omega
theorem wf_plain {k j : Nat} {x : List UInt8} (h2 : k ≠ 2) (h4 : k ≠ 4) (h5 : k ≤ 5) : TokWf ⟨k, x, j⟩ ∧ (⟨k, x, j⟩ : Tok).kind ≤ 5 := ⟨⟨fun h => absurd h h2, fun h => absurd h h4⟩, h5⟩
theorem wf_two {j : Nat} {x : List UInt8} (h : x.all letter = true) : TokWf ⟨2, x, j⟩ ∧ (⟨2, x, j⟩ : Tok).kind ≤ 5 := ⟨⟨fun _ => h, fun h => absurd (show (2 : Nat) = 4 from h) (by decide)⟩, by show (2 : Nat) ≤ 5; decide⟩
theorem wf_four {j : Nat} {x : List UInt8} (h : x.all (fun c => !letter c) = true) : TokWf ⟨4, x, j⟩ ∧ (⟨4, x, j⟩ : Tok).kind ≤ 5 := ⟨⟨fun h => absurd (show (4 : Nat) = 2 from h) (by decide), fun _ => h⟩, by show (4 : Nat) ≤ 5; decide⟩
theorem lexC_wf (l : List UInt8) (j : Nat) (c : UInt8) (r : List UInt8) : TokWf (lexC l j c r).1 ∧ (lexC l j c r).1.kind ≤ 5 := by
  unfold lexC
  split
  · split
    · exact wf_plain (by decide) (by decide) (by decide)
    · exact wf_plain (by decide) (by decide) (by decide)
  · rename_i hd
    split
    · split
      · exact wf_plain (by decide) (by decide) (by decide)
      · exact wf_two (run_all letter _)
    · rename_i hl
      split
      · split
        · exact wf_plain (by decide) (by decide) (by decide)
        · split
          · exact wf_plain (by decide) (by decide) (by decide)
          · exact wf_plain (by decide) (by decide) (by decide)
      · split
        · exact wf_four (by decide)
        · split
          · refine wf_four ?_
            show ([c].all fun c => !letter c) = true
            have : letter c = false := Bool.eq_false_iff.2 hl
            simp [this]
          · exact wf_plain (by decide) (by decide) (by decide)
theorem lexAt_wf (l : List UInt8) (i : Nat) : TokWf (lexAt l i).1 ∧ (lexAt l i).1.kind ≤ 5 := by
  unfold lexAt lexJ
  split
  · exact wf_plain (by decide) (by decide) (by decide)
  · exact lexC_wf _ _ _ _
theorem toksWf_lex (l : List UInt8) : ∀ (n i : Nat), i ≤ l.length → l.length + 1 ≤ n + i → ToksWf (lexAll l n i)
  | 0, i, h1, h2 => absurd h2 (by omega)
  | n + 1, i, h1, h2 => by
    show ToksWf (if (lexAt l i).1.kind = 0 ∨ (lexAt l i).1.kind = 5 then [(lexAt l i).1] else (lexAt l i).1 :: lexAll l n (lexAt l i).2)
    by_cases h : (lexAt l i).1.kind = 0 ∨ (lexAt l i).1.kind = 5
    · rw [if_pos h]; exact h
    · rw [if_neg h]
      have hg := lexAt_gt l i h1
      have hw := lexAt_wf l i
      have ih := toksWf_lex l n (lexAt l i).2 hg.2 (by have := hg.1 (fun e => h (Or.inl e)); omega)
      cases hr : lexAll l n (lexAt l i).2 with
      | nil => rw [hr] at ih; exact ih.elim
      | cons u m =>
        rw [hr] at ih
        exact ⟨by have := hw.2; omega, hw.1, ih⟩
theorem below_of_grown {w w' : World} {b B : Nat} (h : w.grownBy w' (some b)) (hb : B ≤ b) (hB : B ≤ w.heap.size) : Below B w w' :=
  ⟨h.os, h.tape, h.output, h.size, fun j hj => h.block j (by omega) (fun e => by injection e with e; omega)⟩
def RdIs (w : World) (lg sy dp tp : Addr) (r : Except (Nat × Nat) Tr) (pv v : Value) : Prop := match r with
  | .ok t => v = .nilIface ∧ PartV w t pv
  | .error x => (x = (1, 0) ∧ v = .iface 389 (.pointer (some lg))) ∨ (x = (4, 0) ∧ v = .iface 389 (.pointer (some tp))) ∨ (x.1 = 2 ∧ ErrAt w v x.2 sy) ∨ (x.1 = 3 ∧ ErrAt w v x.2 dp)
theorem RdIs.error {w : World} {lg sy dp tp : Addr} {r : Except (Nat × Nat) Tr} {pv v : Value} {x : Nat × Nat} (hr : r = .error x) (h : (x = (1, 0) ∧ v = .iface 389 (.pointer (some lg))) ∨ (x = (4, 0) ∧ v = .iface 389 (.pointer (some tp))) ∨ (x.1 = 2 ∧ ErrAt w v x.2 sy) ∨ (x.1 = 3 ∧ ErrAt w v x.2 dp)) : RdIs w lg sy dp tp r pv v := by subst hr; exact h
theorem RdIs.fine {w : World} {lg sy dp tp : Addr} {r : Except (Nat × Nat) Tr} {pv v : Value} {t : Tr} (hr : r = .ok t) (h : v = .nilIface ∧ PartV w t pv) : RdIs w lg sy dp tp r pv v := by subst hr; exact h
structure Sents (w : World) (lg sy dp tp : Addr) : Prop where
  lg : w.cell? ⟨0, 0, none⟩ = some (.iface 389 (.pointer (some lg)))
  sy : w.cell? ⟨1, 0, none⟩ = some (.iface 389 (.pointer (some sy)))
  dp : w.cell? ⟨2, 0, none⟩ = some (.iface 389 (.pointer (some dp)))
  tp : w.cell? ⟨3, 0, none⟩ = some (.iface 389 (.pointer (some tp)))
theorem Sents.below {w w' : World} {lg sy dp tp : Addr} (h : Sents w lg sy dp tp) (hb : Below w.heap.size w w') : Sents w' lg sy dp tp :=
  ⟨(hb.cell (p := ⟨_, 0, none⟩) (World.block_lt_of_cell? _ _ h.lg)).trans h.lg, (hb.cell (p := ⟨_, 0, none⟩) (World.block_lt_of_cell? _ _ h.sy)).trans h.sy, (hb.cell (p := ⟨_, 0, none⟩) (World.block_lt_of_cell? _ _ h.dp)).trans h.dp, (hb.cell (p := ⟨_, 0, none⟩) (World.block_lt_of_cell? _ _ h.tp)).trans h.tp⟩
set_option maxRecDepth 100000 in
set_option maxHeartbeats 8000000 in
theorem sRead_any (s : ByteArray) (w : World) (hlim : s.size ≤ 9223372036854775807) {lg sy dp tp : Addr} (hS : Sents w lg sy dp tp) :
    Calls Tryz.prog 19 #[.string s] w fun e w' => ∃ pv v : Value, e = .returned (.tuple #[pv, v]) ∧ Hid (RdIs w' lg sy dp tp (readQ (bl s)) pv v) ∧ Below w.heap.size w w' := by
  by_cases hl : 300 < s.size
  · have HR : Hid (readQ (bl s) = .error (1, 0)) := hid (by unfold readQ; rw [bl_length, if_pos hl])
    have hd : (300 : Int) < s.size := by omega
    have hlg := hS.lg
    clear hS
    go_enter Tryz.func19, Tryz.ntmps19
    go_wp2
    go_region
    all_goals
      go_wp2
      go_ret2
      exact ⟨_, _, rfl, RdIs.error HR.out (Or.inl ⟨rfl, rfl⟩), (by repeat (first | exact Below.refl _ _ | assumption | refine Below.alloc ?_ (by first | omega | (simp; omega) | simp) _ | refine Below.setCell ?_ (by first | omega | (simp; omega) | simp) _ | refine below_drewN' ?_ _ | refine Below.drew ?_))⟩
  · have hl3 : s.size ≤ 300 := by omega
    have hd : ¬ ((300 : Int) < s.size) := by omega
    obtain ⟨ts, hts⟩ : ∃ ts, ts = lexAll (bl s) ((bl s).length + 1) 0 := ⟨_, rfl⟩
    have HLN : Hid (ts.length ≤ 301) := hid (by
      have := lexAll_len (bl s) ((bl s).length + 1) 0 (Nat.zero_le _)
      rw [← hts, bl_length] at this
      omega)
    have HWF : Hid (ToksWf ts) := hid (by rw [hts]; exact toksWf_lex _ _ _ (Nat.zero_le _) (by omega))
    have HRQ : Hid (readQ (bl s) = match parse (10 * ts.length + 5) false 0 .nil ts 0 with
      | .error e => .error e
      | .ok (t, r) => if (LS.hd r).kind = 0 then (if kindT t = 0 then .error (4, 0) else .ok t) else .error (2, (LS.hd r).at_)) := hid (by
      unfold readQ; rw [bl_length, if_neg hl, ← bl_length, ← hts]
      cases parse (10 * ts.length + 5) false 0 .nil ts 0 with
      | error e => rfl
      | ok x => rfl)
    have HS : Hid (Sents w lg sy dp tp) := hS
    have HTS : Hid (ts = lexAll (bl s) ((bl s).length + 1) 0) := hts
    clear hts hS hl
    go_enter Tryz.func19, Tryz.ntmps19
    go_wp2_with fail
    refine (lex_prog s w hl3).mono ?_
    rintro e w1 ⟨v, ps, rfl, hown, hall, hb1⟩
    rw [← HTS.out] at hall
    have HPL : Hid (ps.length = ts.length) := hall.out.length
    have hpp : 0 < ps.length := by rw [HPL.out]; exact HWF.out.head.2.1
    obtain ⟨g, cp, rfl⟩ := own_some hown hpp
    have HO1 : Hid (w1.ownsRow 0 87 4 (.slice (some ⟨g, 0, none⟩) ps.length cp) ps.length (flatT ps)) := hown
    have HB1 : Hid (Below w.heap.size w w1) := hb1
    have HS1 : Hid (Sents w1 lg sy dp tp) := HS.out.below hb1
    clear hown hb1
    go_wp2_with fail
    refine calls_gen fun W hW => ?_
    have hbW : Below w1.heap.size w1 W := by rw [hW]; exact (Below.refl _ _).alloc (Nat.le_refl _) _
    have HBW : Hid (Below w.heap.size w W) := HB1.out.trans (hbW.mono HB1.out.size)
    have HSW : Hid (Sents W lg sy dp tp) := HS1.out.below hbW
    have HK : Hid (RK W ⟨w1.heap.size, g, cp, ps, sy, dp⟩ 0 ts) := hid ⟨⟨by rw [hW]; exact Go.Deep.blk_alloc_new _ _, own_below HO1.out hbW, hpp⟩, hall.out, HWF.out, by show ps.length ≤ 302; rw [HPL.out]; have := HLN.out; omega, HSW.out.sy, HSW.out.dp⟩
    have hzW : w1.heap.size < W.heap.size := by rw [hW]; simp
    have hz1 : w.heap.size ≤ w1.heap.size := HB1.out.size
    clear hW hbW HO1 hall HS1 HB1
    refine ((all_t (10 * ts.length + 5)).1 0 (by decide) (10 * ts.length + 5) (Nat.le_refl _) W ⟨w1.heap.size, g, cp, ps, sy, dp⟩ 0 ts 0 HK.out (by decide) (by show 10 * ts.length + 5 ≤ 10 * ts.length + 5 + 0; omega)).mono ?_
    rintro e w2 ⟨pv, v, rfl, hif, hres, hg2⟩
    have hb2 : Below w.heap.size W w2 := below_of_grown hg2 hz1 (by omega)
    have HB2 : Hid (Below w.heap.size w w2) := HBW.out.trans hb2
    have HS2 : Hid (Sents w2 lg sy dp tp) := HS.out.below HB2.out
    clear hg2 hb2
    cases hpr : parse (10 * ts.length + 5) false 0 .nil ts 0 with
    | error er =>
      have HE := hid (hres.out.err hpr)
      obtain ⟨fa, rfl⟩ := HE.out.shape
      have HPE : Hid (readQ (bl s) = .error er) := hid (by rw [HRQ.out, hpr])
      clear hres hpr
      go_wp2
      go_ret2
      exact ⟨_, _, rfl, RdIs.error HPE.out (Or.inr (Or.inr HE.out)), HB2.out⟩
    | ok pr =>
      obtain ⟨t, r⟩ := pr
      obtain ⟨rfl, ⟨k2, hk2⟩, hv2⟩ := hres.out.good hpr
      have HK2 : Hid (RK w2 ⟨w1.heap.size, g, cp, ps, sy, dp⟩ k2 r) := hk2
      have HV2 : Hid (PartV w2 t pv) := hv2
      have HRQ2 : Hid (readQ (bl s) = if (LS.hd r).kind = 0 then (if kindT t = 0 then .error (4, 0) else .ok t) else .error (2, (LS.hd r).at_)) := hid (by rw [HRQ.out, hpr])
      obtain ⟨ty, u, hsh⟩ := PartV.shape hv2
      subst hsh
      clear hres hpr hk2 hv2 hif HRQ
      go_wp2_with fail
      refine (token_t HK2.out).mono ?_
      rintro e w3 ⟨⟨kd, at_, tx, tv⟩, rfl, ht, hb3⟩
      have HB3 : Hid (Below w.heap.size w w3) := HB2.out.trans (hb3.mono HB2.out.size)
      have HK3 := hid (HK2.out.below hb3)
      have HV3 : Hid (PartV w3 t (.iface ty u)) := HV2.out.below hb3
      clear hb3 HB2 HK2 HV2
      have hpk := pk_mark HK3.out.wf.head.2.2
      by_cases hk0 : (LS.hd r).kind = 0
      · have hkd : kd = 4 := by have := ht.out.1; simp only at this; rw [this, hpk.2.2.2.2.2 hk0]
        subst hkd
        have HRQ3 : Hid (readQ (bl s) = if kindT t = 0 then .error (4, 0) else .ok t) := hid (by rw [HRQ2.out, if_pos hk0])
        have hf : ∀ W : World, (Instr.field 87 (.agg #[.int .i64 4, .int .i64 at_, .string tx, .int .i64 tv]) 0).run Tryz.prog W = .ok (.int .i64 4) W := fun _ => rfl
        clear hk0 hpk ht
        go_wp2_with fail
        refine (kind_any t w3 _ tp HV3.out (HS.out.below HB3.out).tp).mono ?_
        rintro e w4 ⟨kd, err, rfl, hkr, hb4⟩
        have HB4 : Hid (Below w.heap.size w w4) := HB3.out.trans (hb4.mono HB3.out.size)
        have HV4 : Hid (PartV w4 t (.iface ty u)) := HV3.out.below hb4
        clear hb4
        rcases hkr.out with ⟨h0, rfl⟩ | ⟨h0, rfl, rfl⟩ | ⟨h0, rfl, rfl⟩
        · have HRX : Hid (readQ (bl s) = .error (4, 0)) := hid (by rw [HRQ3.out, if_pos h0])
          clear hkr h0
          go_wp2
          go_ret2
          exact ⟨_, _, rfl, RdIs.error HRX.out (Or.inr (Or.inl ⟨rfl, rfl⟩)), HB4.out⟩
        all_goals
          have HRX : Hid (readQ (bl s) = .ok t) := hid (by rw [HRQ3.out, if_neg (by omega)])
          clear hkr h0
          go_wp2
          go_ret2
          exact ⟨_, _, rfl, RdIs.fine HRX.out ⟨rfl, HV4.out⟩, HB4.out⟩
      · have hkd : ((kd : Int) != 4) = true := by
          rw [bne_iff_ne]; intro e
          exact hk0 (hpk.2.2.2.2.1 (by have := ht.out.1; simp only at this; omega))
        have HRX : Hid (readQ (bl s) = .error (2, (LS.hd r).at_)) := hid (by rw [HRQ2.out, if_neg hk0])
        have hf : ∀ W : World, (Instr.field 87 (.agg #[.int .i64 kd, .int .i64 at_, .string tx, .int .i64 tv]) 0).run Tryz.prog W = .ok (.int .i64 kd) W := fun _ => rfl
        clear hk0 hpk
        go_wp2_with fail
        refine (cannotStand_t HK3.out).mono ?_
        rintro e wE ⟨v, rfl, HE, hbE⟩
        obtain ⟨fa, rfl⟩ := HE.out.shape
        have HBE : Hid (Below w.heap.size w wE) := HB3.out.trans (hbE.mono HB3.out.size)
        clear hbE
        go_wp2
        go_ret2
        exact ⟨_, _, rfl, RdIs.error HRX.out (Or.inr (Or.inr HE.out)), HBE.out⟩
theorem bl_app (a b : ByteArray) : bl (a ++ b) = bl a ++ bl b := by simp [bl]
def dig (d : Nat) : UInt8 := UInt8.ofNat (48 + d)
def decS (n : Nat) : List UInt8 := if n ≤ 9 then [dig n] else decS (n / 10) ++ [dig (n % 10)]
termination_by n
decreasing_by omega
theorem decS_small {n : Nat} (h : n ≤ 9) : decS n = [dig n] := by rw [decS, if_pos h]
theorem decS_great {n : Nat} (h : ¬ n ≤ 9) : decS n = decS (n / 10) ++ [dig (n % 10)] := by rw [decS, if_neg h]
def opS (o : Nat) : List UInt8 := [[43], [45], [42], [47]].getD o []
def coreS (a : Nd) (pl pr : Nat → List UInt8) : List UInt8 :=
  if a.kind = 0 then decS a.n.toNat
  else if a.kind = 1 then selS a
  else if a.kind = 2 then overWords.getD a.op [] ++ [40] ++ selS a ++ [91] ++ decS a.n.toNat ++ [93, 41]
  else if a.kind = 3 then [45] ++ pl 4
  else if a.kind = 5 then groupWords.getD a.op [] ++ [32, 98, 121, 32, 40] ++ commas a.by_ ++ [41, 32, 40] ++ pl 1 ++ [41]
  else if a.kind = 6 then pl 1 ++ [32, 111, 114, 32] ++ pr 2
  else pl (tightT a) ++ [32] ++ opS a.op ++ [32] ++ pr (tightT a + 1)
def wrapS (b : Bool) (s : List UInt8) : List UInt8 := if b then [40] ++ s ++ [41] else s
def printT : Tr → Nat → List UInt8
  | .nil, _ => []
  | .node _ _ a l r, must => wrapS (decide (tightT a < must)) (coreS a (printT l) (printT r))
theorem decS_len : ∀ (k n : Nat), n < 10 ^ (k + 1) → (decS n).length ≤ k + 1
  | 0, n, h => by rw [decS_small (by simp at h; omega)]; simp
  | k + 1, n, h => by
    by_cases h9 : n ≤ 9
    · rw [decS_small h9]; simp
    · rw [decS_great h9, List.length_append]
      have := decS_len k (n / 10) (by rw [Nat.pow_succ] at h; omega)
      simp
      omega
theorem commas_cons (a b : List UInt8) (l : List (List UInt8)) : commas (a :: b :: l) = a ++ 44 :: commas (b :: l) := rfl
theorem commas_len : ∀ (l : List (List UInt8)), (commas l).length ≤ nw l
  | [] => Nat.le_refl _
  | [a] => by simp [commas, nw]
  | a :: b :: l => by
    have := commas_len (b :: l)
    rw [commas_cons, List.length_append, List.length_cons]
    simp only [nw] at *
    omega
theorem condS_len (c : List UInt8 × List UInt8 × Bool) : (condS c).length ≤ c.1.length + c.2.1.length + 4 := by
  unfold condS
  split <;> simp <;> omega
theorem nw_conds : ∀ (l : List (List UInt8 × List UInt8 × Bool)), nw (l.map condS) ≤ cw l
  | [] => Nat.le_refl _
  | c :: l => by
    have := nw_conds l
    have := condS_len c
    simp only [List.map_cons, nw, cw]
    omega
theorem selS_len (a : Nd) : (selS a).length ≤ a.name.length + cw a.conds + 2 := by
  unfold selS
  split
  · omega
  · have h1 := commas_len (a.conds.map condS)
    have h2 := nw_conds a.conds
    simp only [List.length_append, List.length_cons, List.length_nil]
    omega
theorem getD_len (ws : List (List UInt8)) (h : ∀ x ∈ ws, x.length ≤ 5) (i : Nat) : (ws.getD i []).length ≤ 5 := by
  rw [List.getD_eq_getElem?_getD]
  cases hi : ws[i]? with
  | none => simp
  | some x => exact h x (List.mem_of_getElem? hi)
theorem coreS_len {a : Nd} (hn : a.n ≤ 1000000000) {pl pr : Nat → List UInt8} {x y : Nat} (hl : ∀ m, (pl m).length ≤ x) (hr : ∀ m, (pr m).length ≤ y) : (coreS a pl pr).length + 2 ≤ ownW a + x + y := by
  have hd : (decS a.n.toNat).length ≤ 10 := decS_len 9 _ (by have : a.n.toNat ≤ 1000000000 := by omega
                                                             have : (10 : Nat) ^ 10 = 10000000000 := by decide
                                                             omega)
  have hs := selS_len a
  have hc := commas_len a.by_
  have ho := getD_len overWords (by decide) a.op
  have hg := getD_len groupWords (by decide) a.op
  have hop := getD_len [[43], [45], [42], [47]] (by decide) a.op
  have l1 := hl 1; have l4 := hl 4; have lt := hl (tightT a)
  have r2 := hr 2; have rt := hr (tightT a + 1)
  unfold coreS ownW
  split
  · omega
  · split
    · omega
    · split
      · simp only [List.length_append, List.length_cons, List.length_nil]; omega
      · split
        · simp only [List.length_append, List.length_cons, List.length_nil]; omega
        · split
          · simp only [List.length_append, List.length_cons, List.length_nil]; omega
          · split
            · simp only [List.length_append, List.length_cons, List.length_nil]; omega
            · unfold opS
              simp only [List.length_append, List.length_cons, List.length_nil]; omega
theorem wrapS_len (b : Bool) (s : List UInt8) : (wrapS b s).length ≤ s.length + 2 := by
  unfold wrapS; split <;> simp <;> omega
theorem printT_len : ∀ (t : Tr) (m : Nat), wfT t → (printT t m).length ≤ wT t
  | .nil, _, _ => Nat.le_refl _
  | .node x y a l r, m, h => by
    have hl := printT_len l
    have hr := printT_len r
    have h1 := coreS_len h.2.2.2.2.2.1 (pl := printT l) (pr := printT r) (x := wT l) (y := wT r) (fun m => hl m h.2.2.2.2.2.2.2.2.2.2.1) (fun m => hr m h.2.2.2.2.2.2.2.2.2.2.2)
    have h2 := wrapS_len (decide (tightT a < m)) (coreS a (printT l) (printT r))
    unfold printT wT
    omega
theorem commas_snoc (l : List (List UInt8)) (a : List UInt8) : commas (l ++ [a]) = (if l.isEmpty then [] else commas l ++ [44]) ++ a := by
  induction l with
  | nil => rfl
  | cons b l ih =>
    cases l with
    | nil => simp [commas]
    | cons c l =>
      have e : commas (b :: c :: l ++ [a]) = b ++ 44 :: commas (c :: l ++ [a]) := rfl
      rw [e, ih]
      simp [commas]
def printQ (l : List UInt8) : List UInt8 × Nat × Nat := match readQ l with
  | .error x => ([], x.1, x.2)
  | .ok t => (printT t 1, 0, 0)
end Go.Proofs.YtpbemaaghbbocaaGreatDoor
namespace Go.Proofs.YtpbemaaghbbocaaGreatDoor.LS
open Go Go.RowKit
abbrev Lab := List UInt8 × List UInt8
abbrev El := List Lab × Int
structure Ser where
  name : List UInt8
  labs : List Lab
  sams : List (Int × Int)
inductive VV where
  | sc (n : Int)
  | vec (l : List El)
def lab1 (p : Lab) : List UInt8 := p.1 ++ [61] ++ p.2
def wrt (l : List Lab) : List UInt8 := Go.Proofs.YtpbemaaghbbocaaGreatDoor.LS.commas (l.map lab1)
def cutV (n : Int) : Int := if 1000000000 < n then 1000000000 else if n < -1000000000 then -1000000000 else n
def placedV : List El → El → List El
  | [], x => [x]
  | y :: l, x => if Op.bytesLess (wrt x.1) (wrt y.1) then x :: y :: l else y :: placedV l x
def wordV : List Lab → List UInt8 → List UInt8
  | [], _ => []
  | p :: l, n => if p.1 = n then p.2 else wordV l n
def condOk (s : Ser) (c : List UInt8 × List UInt8 × Bool) : Bool := !((decide (wordV s.labs c.1 = c.2.1)) == c.2.2)
def picksV (a : Nd) (s : Ser) : Bool := a.conds.all (condOk s) && decide (a.name = s.name)
def withinV (l : List (Int × Int)) (n t : Int) : List (Int × Int) := l.filter fun x => decide (t - n < x.1) && decide (x.1 ≤ t)
def maxL : Int → List Int → Int
  | m, [] => m
  | m, x :: l => maxL (if m < x then x else m) l
def minL : Int → List Int → Int
  | m, [] => m
  | m, x :: l => minL (if x < m then x else m) l
def toldV (op : Nat) (l : List Int) : Int :=
  if op = 0 then l.sum else if op = 1 then maxL (l.headD 0) l else if op = 2 then minL (l.headD 0) l else if op = 3 then (l.length : Int) else l.getLastD 0 - l.headD 0
def oneV (op : Option Nat) (l : List (Int × Int)) : Int := match op with
  | none => (l.getLastD (0, 0)).2
  | some o => cutV (toldV o (l.map (·.2)))
def windowedV (st : List Ser) (a : Nd) (op : Option Nat) (size t : Int) : List El :=
  st.foldl (fun acc s => if picksV a s && !(withinV s.sams size t).isEmpty then placedV acc (s.labs, oneV op (withinV s.sams size t)) else acc) []
def twoV (op : Nat) (a b : Int) : Int := if op = 0 then cutV (a + b) else if op = 1 then cutV (a - b) else if op = 2 then cutV (a * b) else if b = 0 then 0 else a.tdiv b
def arithV (op : Nat) : VV → VV → VV
  | .sc a, .sc b => .sc (twoV op a b)
  | .sc a, .vec y => .vec (y.map fun e => (e.1, twoV op a e.2))
  | .vec x, .sc b => .vec (x.map fun e => (e.1, twoV op e.2 b))
  | .vec x, .vec y => .vec (x.flatMap fun e => (y.filter fun f => decide (wrt e.1 = wrt f.1)).map fun f => (e.1, twoV op e.2 f.2))
def negV : VV → VV
  | .sc a => .sc (-a)
  | .vec x => .vec (x.map fun e => (e.1, -e.2))
def keptV (l : List Lab) (by_ : List (List UInt8)) : List Lab := l.filter fun p => by_.contains p.1
def groupAcc (op : Nat) (by_ : List (List UInt8)) (all : List El) : List El → List El → List El
  | _, [] => []
  | pre, e :: l => (if pre.any (fun f => decide (wrt (keptV f.1 by_) = wrt (keptV e.1 by_))) then [] else [(keptV e.1 by_, cutV (toldV op ((all.filter fun f => decide (wrt (keptV f.1 by_) = wrt (keptV e.1 by_))).map (·.2))))]) ++ groupAcc op by_ all (pre ++ [e]) l
def groupV (op : Nat) (by_ : List (List UInt8)) (l : List El) : List El := (groupAcc op by_ l [] l).foldl placedV []
def elems : VV → List El
  | .sc _ => []
  | .vec l => l
def sayT (st : List Ser) (t : Int) : Tr → VV
  | .nil => .vec []
  | .node _ _ a l r => if a.kind = 0 then .sc a.n else if a.kind = 1 then .vec (windowedV st a none 10 t) else if a.kind = 2 then .vec (windowedV st a (some a.op) a.n t)
    else if a.kind = 3 then negV (sayT st t l) else if a.kind = 5 then .vec (groupV a.op a.by_ (elems (sayT st t l)))
    else if a.kind = 6 then (if (elems (sayT st t l)).isEmpty then sayT st t r else sayT st t l) else arithV a.op (sayT st t l) (sayT st t r)
def decI (n : Int) : List UInt8 := if n < 0 then [45] ++ decS n.natAbs else decS n.toNat
def elS (e : El) : List UInt8 := [32, 123] ++ wrt e.1 ++ [125] ++ decI e.2
def answeredV (t : Int) : VV → List UInt8
  | .sc n => decI t ++ [32] ++ decI n
  | .vec l => decI t ++ (l.map elS).flatten
end Go.Proofs.YtpbemaaghbbocaaGreatDoor.LS
namespace Go.Proofs.YtpbemaaghbbocaaGreatDoor
open Go.RowKit LS
def winT : Tr → Prop
  | .nil => True
  | .node _ _ a l r => (a.kind = 2 → 1 ≤ a.n ∧ a.n ≤ 1000) ∧ winT l ∧ winT r
def InvW (rec : Nat → List Tok → Nat → Out Tr) : Prop := ∀ lv t d z, rec lv t d = .ok z → winT z.1
theorem leaf_win {a : Nd} (h : a.kind = 2 → 1 ≤ a.n ∧ a.n ≤ 1000) : winT (leafT a) := ⟨h, trivial, trivial⟩
theorem w_winP {o : Nat} {ts : List Tok} {z : Tr × List Tok} (h : winP o ts = .ok z) : winT z.1 := by
  unfold winP at h
  obtain ⟨_, t1, h1, h⟩ := bnd_ok h
  obtain ⟨p, t2, h2, h⟩ := bnd_ok h
  obtain ⟨_, t3, h3, h⟩ := bnd_ok h
  obtain ⟨m, t4, h4, h⟩ := bnd_ok h
  obtain ⟨_, t5, h5, h⟩ := bnd_ok h
  obtain ⟨_, t6, h6, h⟩ := bnd_ok h
  injection h with h; subst h
  have a4 : 1 ≤ m ∧ m ≤ 1000 := by
    unfold sizeP at h4
    split at h4
    · rename_i hh
      injection h4 with h4; injection h4 with h4 h4'; subst h4
      exact ⟨hh.2, (numI_bounds 1000 _).2⟩
    · cases h4
  exact leaf_win (fun _ => a4)
theorem w_withinP {rec : Nat → List Tok → Nat → Out Tr} (hr : InvW rec) {ts : List Tok} {deep : Nat} {z : Tr × List Tok} (h : withinP rec ts deep = .ok z) : winT z.1 := by
  unfold withinP at h
  obtain ⟨_, t1, h1, h⟩ := bnd_ok h
  obtain ⟨a, t2, h2, h⟩ := bnd_ok h
  obtain ⟨_, t3, h3, h⟩ := bnd_ok h
  injection h with h; subst h
  show winT a
  exact hr _ _ _ _ h2
theorem w_groupP {rec : Nat → List Tok → Nat → Out Tr} (hr : InvW rec) {g : Nat} {ts : List Tok} {deep : Nat} {z : Tr × List Tok} (h : groupP rec g ts deep = .ok z) : winT z.1 := by
  unfold groupP at h
  obtain ⟨_, t1, h1, h⟩ := bnd_ok h
  obtain ⟨_, t2, h2, h⟩ := bnd_ok h
  obtain ⟨ns, t3, h3, h⟩ := bnd_ok h
  obtain ⟨a, t4, h4, h⟩ := bnd_ok h
  injection h with h; subst h
  exact ⟨fun h => absurd (show (5 : Nat) = 2 from h) (by decide), w_withinP hr h4, trivial⟩
theorem w_innerP {rec : Nat → List Tok → Nat → Out Tr} (hr : InvW rec) {ts : List Tok} {deep : Nat} {z : Tr × List Tok} (h : innerP rec ts deep = .ok z) : winT z.1 := by
  unfold innerP at h
  split at h
  · injection h with h; subst h
    exact leaf_win (fun h => absurd (show (0 : Nat) = 2 from h) (by decide))
  · split at h
    · obtain ⟨a, t1, h1, h⟩ := bnd_ok h
      injection h with h; subst h
      exact ⟨fun h => absurd (show (3 : Nat) = 2 from h) (by decide), hr _ _ _ _ h1, trivial⟩
    · split at h
      · exact w_withinP hr h
      · split at h
        · exact w_groupP hr h
        · split at h
          · exact w_winP h
          · obtain ⟨p, t1, h1, h⟩ := bnd_ok h
            injection h with h; subst h
            obtain ⟨a1, a2, a3, a4, a5⟩ := tw_selP h1
            simp only at a2
            exact leaf_win (fun h => absurd (a2.symm.trans h) (by decide))
theorem parse_win : ∀ (n : Nat) (m : Bool) (lv : Nat) (a : Tr) (ts : List Tok) (deep : Nat) (z : Tr × List Tok), (m = true → winT a) → parse n m lv a ts deep = .ok z → winT z.1
  | 0, _, _, _, _, _, _, _, h => by cases h
  | n + 1, false, lv, a, ts, deep, z, _, h => by
    have hr : InvW (fun lv t d => parse n false lv .nil t d) := fun lv t d z h => parse_win n false lv .nil t d z (fun h => nomatch h) h
    unfold parse at h
    split at h
    · unfold factorP at h
      split at h
      · split at h
        · cases h
        · exact w_innerP hr h
      · cases h
    · obtain ⟨b, t1, h1, h2⟩ := bnd_ok h
      exact parse_win n true lv b t1 deep z (fun _ => hr _ _ _ _ h1) h2
  | n + 1, true, lv, a, ts, deep, z, ha, h => by
    unfold parse at h
    split at h
    · injection h with h; subst h; exact ha rfl
    · rename_i p hp
      obtain ⟨b, t1, h1, h2⟩ := bnd_ok h
      have l1 := parse_win n false _ _ _ _ _ (fun h => nomatch h) h1
      refine parse_win n true lv (.node 0 0 (nd0 p.1 p.2) a b) t1 deep z (fun _ => ⟨fun hk => ?_, ha rfl, l1⟩) h2
      unfold LS.opAt at hp
      exfalso
      have hk' : p.1 = 2 := hk
      repeat (first | (split at hp) | (injection hp with hp; subst hp; exact absurd hk' (by decide)) | cases hp)
theorem readQ_win {l : List UInt8} {t : Tr} (h : readQ l = .ok t) : winT t ∧ kindT t ≠ 0 := by
  unfold readQ at h
  split at h
  · cases h
  · split at h
    · cases h
    · rename_i t' r hp
      split at h
      · split at h
        · cases h
        · injection h with h; subst h; rename_i hk; exact ⟨(parse_win _ false _ _ _ _ (t', r) (fun h => nomatch h) hp : winT t'), hk⟩
      · cases h
def isVec : VV → Bool
  | .sc _ => false
  | .vec _ => true
theorem arithV_vec (op : Nat) (a b : VV) : isVec (arithV op a b) = (isVec a || isVec b) := by cases a <;> cases b <;> rfl
theorem say_kind (st : List Ser) (tm : Int) : ∀ t : Tr, wfT t → isNil t = false → kindT t ≠ 0 → isVec (sayT st tm t) = decide (kindT t = 2)
  | .nil, _, h, _ => by cases h
  | .node x y a l r, hw, _, hk => by
    obtain ⟨w1, w2, w3, w4, w5, w6, w7, w8, w9, w10, wl, wr⟩ := hw
    have ihl := say_kind st tm l wl
    have ihr := say_kind st tm r wr
    unfold kindT at hk ⊢
    unfold sayT
    by_cases h0 : a.kind = 0
    · rw [if_pos h0, if_pos h0]; rfl
    rw [if_neg h0] at hk ⊢
    rw [if_neg h0]
    by_cases h1 : a.kind = 1
    · rw [if_pos h1, if_pos (Or.inl h1)]; rfl
    by_cases h2 : a.kind = 2
    · rw [if_neg h1, if_pos h2, if_pos (Or.inr h2)]; rfl
    rw [if_neg (show ¬ (a.kind = 1 ∨ a.kind = 2) by omega)] at hk ⊢
    rw [if_neg h1, if_neg h2]
    by_cases h3 : a.kind = 3
    · rw [if_pos h3] at hk ⊢
      rw [if_pos h3, ← ihl (w7 (by omega)) hk]
      cases sayT st tm l <;> rfl
    rw [if_neg h3] at hk ⊢
    rw [if_neg h3]
    by_cases h5 : a.kind = 5
    · rw [if_pos h5] at hk ⊢
      rw [if_pos h5]
      by_cases hl : kindT l = 2
      · rw [if_pos hl]; rfl
      · rw [if_neg hl] at hk; exact absurd rfl hk
    rw [if_neg h5] at hk ⊢
    rw [if_neg h5]
    have hnr := w8 (by omega)
    have hnl := w7 (by omega)
    by_cases hb : kindT l = 0 ∨ kindT r = 0 ∨ (a.kind = 6 ∧ kindT l + kindT r ≠ 4)
    · rw [if_pos hb] at hk; exact absurd rfl hk
    rw [if_neg hb] at hk ⊢
    have hl0 : kindT l ≠ 0 := fun h => hb (Or.inl h)
    have hr0 : kindT r ≠ 0 := fun h => hb (Or.inr (Or.inl h))
    have kl := kindT_le l
    have kr := kindT_le r
    have il := ihl hnl hl0
    have ir := ihr hnr hr0
    by_cases h6 : a.kind = 6
    · have h4 : kindT l + kindT r = 4 := by
        refine Classical.byContradiction fun h => hb (Or.inr (Or.inr ⟨h6, h⟩))
      rw [if_pos h6, if_neg (show ¬ kindT l + kindT r = 2 by omega)]
      split
      · rw [ir]; simp; omega
      · rw [il]; simp; omega
    · rw [if_neg h6, arithV_vec, il, ir]
      split
      · simp; omega
      · simp; omega
end Go.Proofs.YtpbemaaghbbocaaGreatDoor

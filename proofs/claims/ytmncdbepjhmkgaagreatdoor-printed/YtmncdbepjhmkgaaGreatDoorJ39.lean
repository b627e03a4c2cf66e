/- Parts of the proof, joined: DRead, DevBld -/
import Derived.Test.YtmncdbepjhmkgaaGreatDoorJ37
import Derived.Test.YtmncdbepjhmkgaaGreatDoorJ38
import Derived.Test.YtmncdbepjhmkgaaGreatDoorJ28
import Derived.Test.YtmncdbepjhmkgaaGreatDoorJ19
import Derived.Test.YtmncdbepjhmkgaaGreatDoorJ00
import Derived.Shelf.Strings.BuilderK
/- A query, as the program reads it. -/
namespace Go.Proofs.YtmncdbepjhmkgaaGreatDoor
open Go.RowKit LS

theorem wf_plain {k j : Nat} {x : List UInt8} (h2 : k ≠ 2) (h4 : k ≠ 4) (h5 : k ≤ 5) : TokWf ⟨k, x, j⟩ ∧ (⟨k, x, j⟩ : Tok).kind ≤ 5 := ⟨⟨fun h => absurd h h2, fun h => absurd h h4⟩, h5⟩
theorem wf_two {j : Nat} {x : List UInt8} (h : x.all letter = true) : TokWf ⟨2, x, j⟩ ∧ (⟨2, x, j⟩ : Tok).kind ≤ 5 := ⟨⟨fun _ => h, fun h => absurd (show (2 : Nat) = 4 from h) (by decide)⟩, by show (2 : Nat) ≤ 5; decide⟩
theorem wf_four {j : Nat} {x : List UInt8} (h : x.all (fun c => !letter c) = true) : TokWf ⟨4, x, j⟩ ∧ (⟨4, x, j⟩ : Tok).kind ≤ 5 := ⟨⟨fun h => absurd (show (4 : Nat) = 2 from h) (by decide), fun _ => h⟩, by show (4 : Nat) ≤ 5; decide⟩
theorem lexC_wf (l : List UInt8) (j : Nat) (c : UInt8) (r : List UInt8) : TokWf (lexC l j c r).1 ∧ (lexC l j c r).1.kind ≤ 5 := by
  unfold lexC
  split
  · split
    · exact wf_plain (by decide) (by decide) (by decide)
    · exact wf_plain (by decide) (by decide) (by decide)
  · rename_i hd
    split
    · split
      · exact wf_plain (by decide) (by decide) (by decide)
      · exact wf_two (run_all letter _)
    · rename_i hl
      split
      · split
        · exact wf_plain (by decide) (by decide) (by decide)
        · split
          · exact wf_plain (by decide) (by decide) (by decide)
          · exact wf_plain (by decide) (by decide) (by decide)
      · split
        · exact wf_four (by decide)
        · split
          · refine wf_four ?_
            show ([c].all fun c => !letter c) = true
            have : letter c = false := Bool.eq_false_iff.2 hl
            simp [this]
          · exact wf_plain (by decide) (by decide) (by decide)
theorem lexAt_wf (l : List UInt8) (i : Nat) : TokWf (lexAt l i).1 ∧ (lexAt l i).1.kind ≤ 5 := by
  unfold lexAt lexJ
  split
  · exact wf_plain (by decide) (by decide) (by decide)
  · exact lexC_wf _ _ _ _
theorem toksWf_lex (l : List UInt8) : ∀ (n i : Nat), i ≤ l.length → l.length + 1 ≤ n + i → ToksWf (lexAll l n i)
  | 0, i, h1, h2 => absurd h2 (by omega)
  | n + 1, i, h1, h2 => by
    show ToksWf (if (lexAt l i).1.kind = 0 ∨ (lexAt l i).1.kind = 5 then [(lexAt l i).1] else (lexAt l i).1 :: lexAll l n (lexAt l i).2)
    by_cases h : (lexAt l i).1.kind = 0 ∨ (lexAt l i).1.kind = 5
    · rw [if_pos h]; exact h
    · rw [if_neg h]
      have hg := lexAt_gt l i h1
      have hw := lexAt_wf l i
      have ih := toksWf_lex l n (lexAt l i).2 hg.2 (by have := hg.1 (fun e => h (Or.inl e)); omega)
      cases hr : lexAll l n (lexAt l i).2 with
      | nil => rw [hr] at ih; exact ih.elim
      | cons u m =>
        rw [hr] at ih
        exact ⟨by have := hw.2; omega, hw.1, ih⟩
theorem below_of_grown {w w' : World} {b B : Nat} (h : w.grownBy w' (some b)) (hb : B ≤ b) (hB : B ≤ w.heap.size) : Below B w w' :=
  ⟨h.os, h.tape, h.output, h.size, fun j hj => h.block j (by omega) (fun e => by injection e with e; omega)⟩
/-- What the program's reading hands back, held against the plain one. -/
def RdIs (w : World) (lg sy dp tp : Addr) (r : Except (Nat × Nat) Tr) (pv v : Value) : Prop := match r with
  | .ok t => v = .nilIface ∧ PartV w t pv
  | .error x => (x = (1, 0) ∧ v = .iface 198 (.pointer (some lg))) ∨ (x = (4, 0) ∧ v = .iface 198 (.pointer (some tp))) ∨ (x.1 = 2 ∧ ErrAt w v x.2 sy) ∨ (x.1 = 3 ∧ ErrAt w v x.2 dp)
theorem RdIs.error {w : World} {lg sy dp tp : Addr} {r : Except (Nat × Nat) Tr} {pv v : Value} {x : Nat × Nat} (hr : r = .error x) (h : (x = (1, 0) ∧ v = .iface 198 (.pointer (some lg))) ∨ (x = (4, 0) ∧ v = .iface 198 (.pointer (some tp))) ∨ (x.1 = 2 ∧ ErrAt w v x.2 sy) ∨ (x.1 = 3 ∧ ErrAt w v x.2 dp)) : RdIs w lg sy dp tp r pv v := by subst hr; exact h
theorem RdIs.fine {w : World} {lg sy dp tp : Addr} {r : Except (Nat × Nat) Tr} {pv v : Value} {t : Tr} (hr : r = .ok t) (h : v = .nilIface ∧ PartV w t pv) : RdIs w lg sy dp tp r pv v := by subst hr; exact h
structure Sents (w : World) (lg sy dp tp : Addr) : Prop where
  lg : w.cell? ⟨0, 0, none⟩ = some (.iface 198 (.pointer (some lg)))
  sy : w.cell? ⟨1, 0, none⟩ = some (.iface 198 (.pointer (some sy)))
  dp : w.cell? ⟨2, 0, none⟩ = some (.iface 198 (.pointer (some dp)))
  tp : w.cell? ⟨3, 0, none⟩ = some (.iface 198 (.pointer (some tp)))
theorem Sents.below {w w' : World} {lg sy dp tp : Addr} (h : Sents w lg sy dp tp) (hb : Below w.heap.size w w') : Sents w' lg sy dp tp :=
  ⟨(hb.cell (p := ⟨_, 0, none⟩) (World.block_lt_of_cell? _ _ h.lg)).trans h.lg, (hb.cell (p := ⟨_, 0, none⟩) (World.block_lt_of_cell? _ _ h.sy)).trans h.sy, (hb.cell (p := ⟨_, 0, none⟩) (World.block_lt_of_cell? _ _ h.dp)).trans h.dp, (hb.cell (p := ⟨_, 0, none⟩) (World.block_lt_of_cell? _ _ h.tp)).trans h.tp⟩
set_option maxRecDepth 100000 in
set_option maxHeartbeats 8000000 in
theorem sRead_any (s : ByteArray) (w : World) (hlim : s.size ≤ 9223372036854775807) {lg sy dp tp : Addr} (hS : Sents w lg sy dp tp) :
    Calls Tryz.prog 8 #[.string s] w fun e w' => ∃ pv v : Value, e = .returned (.tuple #[pv, v]) ∧ Hid (RdIs w' lg sy dp tp (readQ (bl s)) pv v) ∧ Below w.heap.size w w' := by
  by_cases hl : 300 < s.size
  · have HR : Hid (readQ (bl s) = .error (1, 0)) := hid (by unfold readQ; rw [bl_length, if_pos hl])
    have hd : (300 : Int) < s.size := by omega
    have hlg := hS.lg
    clear hS
    go_enter Tryz.func8, Tryz.ntmps8
    go_wp2
    go_region
    all_goals
      go_wp2
      go_ret2
      exact ⟨_, _, rfl, RdIs.error HR.out (Or.inl ⟨rfl, rfl⟩), (by repeat (first | exact Below.refl _ _ | assumption | refine Below.alloc ?_ (by first | omega | (simp; omega) | simp) _ | refine Below.setCell ?_ (by first | omega | (simp; omega) | simp) _ | refine below_drewN' ?_ _ | refine Below.drew ?_))⟩
  · have hl3 : s.size ≤ 300 := by omega
    have hd : ¬ ((300 : Int) < s.size) := by omega
    obtain ⟨ts, hts⟩ : ∃ ts, ts = lexAll (bl s) ((bl s).length + 1) 0 := ⟨_, rfl⟩
    have HLN : Hid (ts.length ≤ 301) := hid (by
      have := lexAll_len (bl s) ((bl s).length + 1) 0 (Nat.zero_le _)
      rw [← hts, bl_length] at this
      omega)
    have HWF : Hid (ToksWf ts) := hid (by rw [hts]; exact toksWf_lex _ _ _ (Nat.zero_le _) (by omega))
    have HRQ : Hid (readQ (bl s) = match parse (10 * ts.length + 5) false 0 .nil ts 0 with
      | .error e => .error e
      | .ok (t, r) => if (LS.hd r).kind = 0 then (if kindT t = 0 then .error (4, 0) else .ok t) else .error (2, (LS.hd r).at_)) := hid (by
      unfold readQ; rw [bl_length, if_neg hl, ← bl_length, ← hts]
      cases parse (10 * ts.length + 5) false 0 .nil ts 0 with
      | error e => rfl
      | ok x => rfl)
    have HS : Hid (Sents w lg sy dp tp) := hS
    have HTS : Hid (ts = lexAll (bl s) ((bl s).length + 1) 0) := hts
    clear hts hS hl
    go_enter Tryz.func8, Tryz.ntmps8
    go_wp2_with fail
    refine (lex_prog s w hl3).mono ?_
    rintro e w1 ⟨v, ps, rfl, hown, hall, hb1⟩
    rw [← HTS.out] at hall
    have HPL : Hid (ps.length = ts.length) := hall.out.length
    have hpp : 0 < ps.length := by rw [HPL.out]; exact HWF.out.head.2.1
    obtain ⟨g, cp, rfl⟩ := own_some hown hpp
    have HO1 : Hid (w1.ownsRow 0 52 4 (.slice (some ⟨g, 0, none⟩) ps.length cp) ps.length (flatT ps)) := hown
    have HB1 : Hid (Below w.heap.size w w1) := hb1
    have HS1 : Hid (Sents w1 lg sy dp tp) := HS.out.below hb1
    clear hown hb1
    go_wp2_with fail
    refine calls_gen fun W hW => ?_
    have hbW : Below w1.heap.size w1 W := by rw [hW]; exact (Below.refl _ _).alloc (Nat.le_refl _) _
    have HBW : Hid (Below w.heap.size w W) := HB1.out.trans (hbW.mono HB1.out.size)
    have HSW : Hid (Sents W lg sy dp tp) := HS1.out.below hbW
    have HK : Hid (RK W ⟨w1.heap.size, g, cp, ps, sy, dp⟩ 0 ts) := hid ⟨⟨by rw [hW]; exact Go.Deep.blk_alloc_new _ _, own_below HO1.out hbW, hpp⟩, hall.out, HWF.out, by show ps.length ≤ 302; rw [HPL.out]; have := HLN.out; omega, HSW.out.sy, HSW.out.dp⟩
    have hzW : w1.heap.size < W.heap.size := by rw [hW]; simp
    have hz1 : w.heap.size ≤ w1.heap.size := HB1.out.size
    clear hW hbW HO1 hall HS1 HB1
    refine ((all_t (10 * ts.length + 5)).1 0 (by decide) (10 * ts.length + 5) (Nat.le_refl _) W ⟨w1.heap.size, g, cp, ps, sy, dp⟩ 0 ts 0 HK.out (by decide) (by show 10 * ts.length + 5 ≤ 10 * ts.length + 5 + 0; omega)).mono ?_
    rintro e w2 ⟨pv, v, rfl, hif, hres, hg2⟩
    have hb2 : Below w.heap.size W w2 := below_of_grown hg2 hz1 (by omega)
    have HB2 : Hid (Below w.heap.size w w2) := HBW.out.trans hb2
    have HS2 : Hid (Sents w2 lg sy dp tp) := HS.out.below HB2.out
    clear hg2 hb2
    cases hpr : parse (10 * ts.length + 5) false 0 .nil ts 0 with
    | error er =>
      have HE := hid (hres.out.err hpr)
      obtain ⟨fa, rfl⟩ := HE.out.shape
      have HPE : Hid (readQ (bl s) = .error er) := hid (by rw [HRQ.out, hpr])
      clear hres hpr
      go_wp2
      go_ret2
      exact ⟨_, _, rfl, RdIs.error HPE.out (Or.inr (Or.inr HE.out)), HB2.out⟩
    | ok pr =>
      obtain ⟨t, r⟩ := pr
      obtain ⟨rfl, ⟨k2, hk2⟩, hv2⟩ := hres.out.good hpr
      have HK2 : Hid (RK w2 ⟨w1.heap.size, g, cp, ps, sy, dp⟩ k2 r) := hk2
      have HV2 : Hid (PartV w2 t pv) := hv2
      have HRQ2 : Hid (readQ (bl s) = if (LS.hd r).kind = 0 then (if kindT t = 0 then .error (4, 0) else .ok t) else .error (2, (LS.hd r).at_)) := hid (by rw [HRQ.out, hpr])
      obtain ⟨ty, u, hsh⟩ := PartV.shape hv2
      subst hsh
      clear hres hpr hk2 hv2 hif HRQ
      go_wp2_with fail
      refine (token_t HK2.out).mono ?_
      rintro e w3 ⟨⟨kd, at_, tx, tv⟩, rfl, ht, hb3⟩
      have HB3 : Hid (Below w.heap.size w w3) := HB2.out.trans (hb3.mono HB2.out.size)
      have HK3 := hid (HK2.out.below hb3)
      have HV3 : Hid (PartV w3 t (.iface ty u)) := HV2.out.below hb3
      clear hb3 HB2 HK2 HV2
      have hpk := pk_mark HK3.out.wf.head.2.2
      by_cases hk0 : (LS.hd r).kind = 0
      · have hkd : kd = 4 := by have := ht.out.1; simp only at this; rw [this, hpk.2.2.2.2.2 hk0]
        subst hkd
        have HRQ3 : Hid (readQ (bl s) = if kindT t = 0 then .error (4, 0) else .ok t) := hid (by rw [HRQ2.out, if_pos hk0])
        have hf : ∀ W : World, (Instr.field 52 (.agg #[.int .i64 4, .int .i64 at_, .string tx, .int .i64 tv]) 0).run Tryz.prog W = .ok (.int .i64 4) W := fun _ => rfl
        clear hk0 hpk ht
        go_wp2_with fail
        refine (kind_any t w3 _ tp HV3.out (HS.out.below HB3.out).tp).mono ?_
        rintro e w4 ⟨kd, err, rfl, hkr, hb4⟩
        have HB4 : Hid (Below w.heap.size w w4) := HB3.out.trans (hb4.mono HB3.out.size)
        have HV4 : Hid (PartV w4 t (.iface ty u)) := HV3.out.below hb4
        clear hb4
        rcases hkr.out with ⟨h0, rfl⟩ | ⟨h0, rfl, rfl⟩ | ⟨h0, rfl, rfl⟩
        · have HRX : Hid (readQ (bl s) = .error (4, 0)) := hid (by rw [HRQ3.out, if_pos h0])
          clear hkr h0
          go_wp2
          go_ret2
          exact ⟨_, _, rfl, RdIs.error HRX.out (Or.inr (Or.inl ⟨rfl, rfl⟩)), HB4.out⟩
        all_goals
          have HRX : Hid (readQ (bl s) = .ok t) := hid (by rw [HRQ3.out, if_neg (by omega)])
          clear hkr h0
          go_wp2
          go_ret2
          exact ⟨_, _, rfl, RdIs.fine HRX.out ⟨rfl, HV4.out⟩, HB4.out⟩
      · have hkd : ((kd : Int) != 4) = true := by
          rw [bne_iff_ne]; intro e
          exact hk0 (hpk.2.2.2.2.1 (by have := ht.out.1; simp only at this; omega))
        have HRX : Hid (readQ (bl s) = .error (2, (LS.hd r).at_)) := hid (by rw [HRQ2.out, if_neg hk0])
        have hf : ∀ W : World, (Instr.field 52 (.agg #[.int .i64 kd, .int .i64 at_, .string tx, .int .i64 tv]) 0).run Tryz.prog W = .ok (.int .i64 kd) W := fun _ => rfl
        clear hk0 hpk
        go_wp2_with fail
        refine (cannotStand_t HK3.out).mono ?_
        rintro e wE ⟨v, rfl, HE, hbE⟩
        obtain ⟨fa, rfl⟩ := HE.out.shape
        have HBE : Hid (Below w.heap.size w wE) := HB3.out.trans (hbE.mono HB3.out.size)
        clear hbE
        go_wp2
        go_ret2
        exact ⟨_, _, rfl, RdIs.error HRX.out (Or.inr (Or.inr HE.out)), HBE.out⟩
end Go.Proofs.YtmncdbepjhmkgaaGreatDoor
/- What (*strings.Builder).WriteString does to a builder that the call has made itself. -/
namespace Go.Proofs.YtmncdbepjhmkgaaGreatDoor
open Go.RowKit LS

theorem bld_size : (Tryz.prog.info? 67).map (·.size) = some 2 := by kernel_rfl
theorem bld_lies : liesAt Tryz.prog Tryz.prog.depth 67 (2 / Tryz.prog.cellsOf 67) 0 67 1 = true := by kernel_rfl
theorem bld_byte : (Tryz.prog.info? 5).map (fun i => (i.zero, i.size, i.bytes)) = some (some (.int .u8 0), 1, 1) := by kernel_rfl
set_option maxRecDepth 100000 in
set_option maxHeartbeats 1000000 in
theorem bld_copy_used (b : Nat) (w : World) (h0 : w.cell? ⟨b, 0, none⟩ = some (.pointer (some ⟨b, 0, none⟩))) :
    Calls Tryz.prog 76 #[.pointer (some ⟨b, 0, none⟩)] w fun e w' => e = .returned (.tuple #[]) ∧ w' = w := by
  obtain ⟨j, hj, _⟩ := Option.map_eq_some_iff.1 bld_size
  go_enter Tryz.func76, Tryz.ntmps76
  go_wp2
  rw [Lib.run_neq_ptr_same w _ Tryz.underlying64 hj]
  go_wp2
  go_end0
  exact ⟨rfl, rfl⟩
set_option maxRecDepth 100000 in
set_option maxHeartbeats 1000000 in
theorem bld_copy_fresh (b : Nat) (w : World) (h0 : w.cell? ⟨b, 0, none⟩ = some (.pointer none)) (hsh : w.shape? b = some (67, 2)) (hfz : w.frozen? ⟨b, 0, none⟩ = false) :
    Calls Tryz.prog 76 #[.pointer (some ⟨b, 0, none⟩)] w fun e w' => e = .returned (.tuple #[]) ∧ w' = w.setCell ⟨b, 0, none⟩ (.pointer (some ⟨b, 0, none⟩)) := by
  obtain ⟨j, hj, hjs⟩ := Option.map_eq_some_iff.1 bld_size
  go_enter Tryz.func76, Tryz.ntmps76
  go_wp2
  rw [Lib.run_to_unsafe w ⟨b, 0, none⟩ Tryz.underlying64 Tryz.underlying113 hj (by rw [hjs]; decide) hsh (Nat.zero_lt_succ 1)]
  simp only [Result.andThen]
  rw [Oper.upon_value]
  go_wp2
  rw [run_callFunc_extern Tryz.func97 (by kernel_rfl) (by kernel_rfl) (by kernel_rfl) (e := Extern.AbiNoEscape.same) (by kernel_rfl)]
  rw [Lib.run_noEscape]
  simp only [Result.andThen]
  rw [Oper.upon_value]
  go_wp2
  rw [Lib.run_from_unsafe w ⟨b, 0, none⟩ Tryz.underlying113 Tryz.underlying64 hj hsh bld_lies]
  simp only [Result.andThen]
  rw [Oper.upon_value]
  go_wp2
  go_end0
  exact ⟨rfl, rfl⟩
theorem bld_copy (B b : Nat) (bs : List Value) (w : World) (h : Lib.IsBuilderF 67 5 B b bs w) :
    Calls Tryz.prog 76 #[.pointer (some ⟨b, 0, none⟩)] w fun e w' => e = .returned (.tuple #[]) ∧ (Lib.BuilderAtF 67 5 B b (.pointer (some ⟨b, 0, none⟩)) bs w' ∧ Below B w w' ∧ Lib.OthersKept 5 (some b) w w') := by
  rcases h with h | h
  · refine (bld_copy_fresh b w h.cell0 h.shape h.frozen0).mono ?_
    rintro e w' ⟨rfl, rfl⟩
    exact ⟨rfl, h.used _, (Below.refl B w).setCell (p := ⟨b, 0, none⟩) h.1 _, (Lib.OthersKept.refl _ _ w).setCell ⟨b, 0, none⟩ rfl _⟩
  · refine (bld_copy_used b w h.cell0).mono ?_
    rintro e w' ⟨rfl, rfl⟩
    exact ⟨rfl, h, Below.refl B _, Lib.OthersKept.refl _ _ _⟩
set_option maxRecDepth 100000 in
set_option maxHeartbeats 2000000 in
theorem bld_write (B b : Nat) (bs : List Value) (s : ByteArray) (w : World) (h : Lib.IsBuilderF 67 5 B b bs w) (hlen : bs.length + s.size ≤ 140737488355328) (hBw : B ≤ w.heap.size) :
    Calls Tryz.prog 52 #[.pointer (some ⟨b, 0, none⟩), .string s] w fun e w' => e = .returned (.tuple #[.int .i64 s.size, .nilIface]) ∧ (Lib.BuilderAtF 67 5 B b (.pointer (some ⟨b, 0, none⟩)) (bs ++ Lib.strCells s) w' ∧ Below B w w' ∧ Lib.OthersKept 5 (some b) w w') := by
  obtain ⟨i0, hi, hz0, hz1, hz2⟩ := info_parts bld_byte
  go_enter Tryz.func52, Tryz.ntmps52
  go_wp2_with fail
  refine (bld_copy B b bs _ h).mono ?_
  rintro e w1 ⟨rfl, h1, hb1, hk1⟩
  obtain ⟨hB, v, hbk, hown, hne⟩ := h1
  have c0 : w1.cell? ⟨b, 0, none⟩ = some (.pointer (some ⟨b, 0, none⟩)) := by rw [Lib.cell_of_heap hbk]; rfl
  have c1 : w1.cell? ⟨b, 1, none⟩ = some v := by rw [Lib.cell_of_heap hbk]; rfl
  go_wp2_with (at_builtin; refine Lib.wpList_append_own_stringF _ rfl _ _ 65 9 rfl B 5 i0 Tryz.underlying65 Tryz.underlying9 hi hz0 hz1 hz2 _ _ _ rfl hown s rfl ?c3 ?c4 ?c5 ?_)
  case c3 => unfold maxLen; omega
  case c4 => omega
  case c5 => have := hb1.size; omega
  intro v' w2 hown' hgrow _
  have hlt : b < w1.heap.size := by
    rcases Nat.lt_or_ge b w1.heap.size with h' | h'
    · exact h'
    · simp [Array.getElem?_eq_none h'] at hbk
  have hb2 : w2.heap[b]? = some (.cells #[.pointer (some ⟨b, 0, none⟩), v] 67 (0, 0)) := by
    rw [hgrow.block b hlt (fun e => hne e.symm)]
    exact hbk
  have d0 : w2.cell? ⟨b, 0, none⟩ = some (.pointer (some ⟨b, 0, none⟩)) := by rw [Lib.cell_of_heap hb2]; rfl
  have d1 : w2.cell? ⟨b, 1, none⟩ = some v := by rw [Lib.cell_of_heap hb2]; rfl
  have f1 : w2.frozen? ⟨b, 1, none⟩ = false := Lib.frozen_of_heap hb2 1
  obtain ⟨ao, n', cap, rfl⟩ : ∃ ao n' cap, v' = .slice ao n' cap := by
    rcases hown'.2 with ⟨hv, _⟩ | ⟨g, cap, cur, fz, hv, _⟩
    · exact ⟨_, _, _, hv⟩
    · exact ⟨_, _, _, hv⟩
  go_wp2
  go_ret2
  refine ⟨rfl, ?_, ?_, (hk1.grown hgrow (Lib.ownsRowF_kind hown)).setCell ⟨b, 1, none⟩ rfl _⟩
  · exact Lib.BuilderAtF.put (T := 67) (e := 5) hB hb2 (bs' := bs ++ Lib.strCells s) (by simpa [Lib.strCells_length] using hown') (by decide)
  · exact (hb1.grown hgrow (by have := hb1.size; omega) (fun k hk => (hown.lt k hk).1)).setCell (p := ⟨b, 1, none⟩) hB _
end Go.Proofs.YtmncdbepjhmkgaaGreatDoor

/- Parts. -/
import Derived.Test.YtkodhpilkaihjaaGreatDoorV30
import Derived.Test.YtkodhpilkaihjaaGreatDoorV00
import Derived.Test.YtkodhpilkaihjaaGreatDoorV01
import Derived.LaidEql
import Derived.Stop.Asserts
import Derived.RowKitTokens
namespace Go.Proofs.YtkodhpilkaihjaaGreatDoor
open Go.RowKit LS
set_option linter.unusedSimpArgs false in
set_option maxRecDepth 100000 in
set_option maxHeartbeats 8000000 in
theorem canBe_any (w : World) (c : CodeQ) (i op arg : Nat) (a0 a1 a2 a3 : Option Addr) (e0 e1 e2 e3 : Nat) (hop : op ≤ 13) (harg : arg < 65536) :
    Calls Tryz.prog 78 #[.agg #[.slice a0 c.consts.length e0, .slice a1 c.picks.length e1, .slice a2 c.groups.length e2, .slice a3 c.ins.length e3], .int .i64 i, .agg #[.int .i64 op, .int .i64 arg]] w fun e w' => e = .returned (.bool (refersQ c i (op, arg))) ∧ Below w.heap.size w w' := by
  obtain ⟨nc, hnc⟩ : ∃ nc, nc = c.consts.length := ⟨_, rfl⟩
  obtain ⟨np, hnp⟩ : ∃ np, np = c.picks.length := ⟨_, rfl⟩
  obtain ⟨ng, hng⟩ : ∃ ng, ng = c.groups.length := ⟨_, rfl⟩
  obtain ⟨ni, hni⟩ : ∃ ni, ni = c.ins.length := ⟨_, rfl⟩
  rw [← hnc, ← hnp, ← hng, ← hni]
  have HE : Hid (nc = c.consts.length ∧ np = c.picks.length ∧ ng = c.groups.length ∧ ni = c.ins.length) := hid ⟨hnc, hnp, hng, hni⟩
  clear hnc hnp hng hni
  rcases (by omega : op = 0 ∨ op = 1 ∨ op = 2 ∨ op = 3 ∨ op = 4 ∨ op = 5 ∨ op = 6 ∨ op = 7 ∨ op = 8 ∨ op = 9 ∨ op = 10 ∨ op = 11 ∨ op = 12 ∨ op = 13) with rfl | rfl | rfl | rfl | rfl | rfl | rfl | rfl | rfl | rfl | rfl | rfl | rfl | rfl
  all_goals
    go_enter Tryz.func78, Tryz.ntmps78
    go_wp2
    all_goals
      go_ret
      refine ⟨ret_bool ?_, (by repeat (first | exact Below.refl _ _ | assumption | refine Below.alloc ?_ (by first | omega | (simp; omega) | simp) _ | refine Below.setCell ?_ (by first | omega | (simp; omega) | simp) _ | refine below_drewN' ?_ _ | refine Below.drew ?_))⟩
      first
        | (simp only [refersQ, ← HE.out.1, ← HE.out.2.1, ← HE.out.2.2.1, ← HE.out.2.2.2]; done)
        | (simp only [refersQ, ← HE.out.1, ← HE.out.2.1, ← HE.out.2.2.1, ← HE.out.2.2.2]; rw [Bool.eq_iff_iff]; simp; done)
        | (simp only [refersQ, ← HE.out.1, ← HE.out.2.1, ← HE.out.2.2.1, ← HE.out.2.2.2]; rw [Bool.eq_iff_iff]; simp; omega)
set_option maxRecDepth 100000 in
set_option maxHeartbeats 8000000 in
theorem slotsOf_any (w : World) (A : Nat → Addr) (m : Int) (c : CodeQ) (a0 a1 a2 a3 : Option Addr) (n0 n1 n2 e0 e1 e2 e3 : Nat) (h : HighP w A m c a0 a1 a2 a3 n0 n1 n2 e0 e1 e2 e3) :
    Calls Tryz.prog 81 #[.agg #[.slice a0 n0 e0, .slice a1 n1 e1, .slice a2 n2 e2, .slice a3 c.ins.length e3]] w fun e w' => e = .returned (.int .i64 (slotsTo c.ins : Nat)) ∧ Below w.heap.size w w' := by
  have HP := hid h
  have hln := h.ln
  obtain ⟨n, hn⟩ : ∃ n, n = c.ins.length := ⟨_, rfl⟩
  rw [← hn] at hln ⊢
  have HN := hid hn
  clear h hn
  go_enter Tryz.func81, Tryz.ntmps81
  go_wp2
  go_loopw [3, 9] (fun sv iv wr => ∃ (k s : Nat), k ≤ n ∧ iv = .int .i64 k ∧ sv = .int .i64 s ∧ s ≤ 65536 ∧ Hid (s = slotsTo (c.ins.take k)) ∧ Hid (Below w.heap.size w wr))
    (fun _ iv _ => n - (intOf iv).toNat)
  case atStart => exact ⟨0, 0, Nat.zero_le _, rfl, rfl, by decide, hid rfl, hid (by repeat (first | exact Below.refl _ _ | assumption | refine Below.alloc ?_ (by first | omega | (simp; omega) | simp) _ | refine Below.setCell ?_ (by first | omega | (simp; omega) | simp) _ | refine below_drewN' ?_ _ | refine Below.drew ?_))⟩
  case round =>
    obtain ⟨k, s, hk, rfl, rfl, hs, HS, HBr⟩ := hrel
    by_cases hlt : k < n
    · have hlz : (k : Int) < n := by omega
      have hkn : k < c.ins.length := by rw [← HN.out]; exact hlt
      have HIr := hid (HP.out.cv.below HBr.out).is
      obtain ⟨gi, cpi, hgi⟩ := own_some HIr.out (by omega)
      injection hgi with hgi1 hgi2 hgi3
      subst hgi1
      have i0c := own_cell HIr.out _ _ (flatI_get c.ins k hkn).1
      have i1c := own_cell HIr.out _ _ (flatI_get c.ins k hkn).2
      have hgil := own_lt HIr.out
      have hop := HP.out.op c.ins[k] (List.getElem_mem hkn)
      have HNX : Hid (slotsTo (c.ins.take (k + 1)) = if hasSlot c.ins[k].1 then max s (c.ins[k].2 + 1) else s) := hid (by rw [List.take_succ_eq_append_getElem hkn, slotsTo_snoc, ← HS.out])
      generalize c.ins[k] = x at *
      obtain ⟨op, arg⟩ := x
      simp only at i0c i1c HNX hop
      clear hgi2 hgi3 HIr
      go_wp2_with fail
      refine calls_gen fun W hW => ?_
      have hbW : Below wr.heap.size wr W := by rw [hW]; exact (Below.refl _ _).alloc (Nat.le_refl _) _
      have HBW : Hid (Below w.heap.size w W) := hid (HBr.out.trans (hbW.mono HBr.out.size))
      have HOW : Hid (BAt W wr.heap.size [.int .i64 op, .int .i64 arg] 184) := hid (by rw [hW]; exact Go.Deep.blk_alloc_new _ _)
      clear hW hbW i0c i1c
      refine (hasSlot_any op arg W).mono ?_
      rintro e w2 ⟨rfl, hb2⟩
      have HB2 : Hid (Below w.heap.size w w2) := hid (HBW.out.trans (hb2.mono HBW.out.size))
      have HO2 := hid (HOW.out.below hb2)
      clear hb2 HOW HBW
      have o1 := HO2.out.cell 1
      simp only [List.getElem?_cons_zero, List.getElem?_cons_succ] at o1
      cases hh : hasSlot op with
      | true =>
        have HNY : Hid (slotsTo (c.ins.take (k + 1)) = max s (arg + 1)) := hid (by rw [HNX.out, hh]; rfl)
        clear hh HNX
        go_wp2
        go_roundw
        case rel => exact ⟨k + 1, max s (arg + 1), by omega, by go_num, by first | rfl | go_num | (congr 1; omega), by omega, hid HNY.out.symm, HB2⟩
        case measure => simp [intOf]; omega
      | false =>
        have HNY : Hid (slotsTo (c.ins.take (k + 1)) = s) := hid (by rw [HNX.out, hh]; rfl)
        clear hh HNX
        go_wp2
        go_roundw
        case rel => exact ⟨k + 1, s, by omega, by go_num, rfl, hs, hid HNY.out.symm, HB2⟩
        case measure => simp [intOf]; omega
    · obtain rfl : k = n := by omega
      have HF : Hid (s = slotsTo c.ins) := hid (by rw [HS.out, HN.out, List.take_length])
      go_wp2
      go_ret
      exact ⟨ret_u32 (by rw [HF.out]), HBr.out⟩
def LookC (w : World) (A : Nat → Addr) (r : Except (Nat × Nat) (Nat × Nat)) (v err : Value) : Prop := match r with
  | .ok x => v = .agg #[.int .i64 x.1, .int .i64 x.2] ∧ err = .nilIface
  | .error x => v = .agg #[.int .i64 0, .int .i64 0] ∧ ((x.1 = 11 ∧ ErrPl w err x.2 (A 10)) ∨ (x.1 = 12 ∧ ErrPl w err x.2 (A 11)))
theorem LookC.mkOk {w : World} {A : Nat → Addr} {r : Except (Nat × Nat) (Nat × Nat)} {v err : Value} {x : Nat × Nat} (hr : r = .ok x) (h : v = .agg #[.int .i64 x.1, .int .i64 x.2] ∧ err = .nilIface) : LookC w A r v err := by subst hr; exact h
theorem LookC.mkErr {w : World} {A : Nat → Addr} {r : Except (Nat × Nat) (Nat × Nat)} {v err : Value} {x : Nat × Nat} (hr : r = .error x) (h : v = .agg #[.int .i64 0, .int .i64 0] ∧ ((x.1 = 11 ∧ ErrPl w err x.2 (A 10)) ∨ (x.1 = 12 ∧ ErrPl w err x.2 (A 11)))) : LookC w A r v err := by subst hr; exact h
theorem set2_below {w0 w : World} {a : Nat} (h : Below w0.heap.size w0 w) (ha : w0.heap.size ≤ a) (x y : Value) : Below w0.heap.size w0 (set2 w a x y) :=
  (h.setCell (p := ⟨a, 0, none⟩) ha _).setCell (p := ⟨a, 1, none⟩) ha _
theorem errPl_set2 {w : World} {v : Value} {p : Int} {a : Addr} (h : ErrPl w v p a) {b : Nat} (hb : ∀ fa : Nat, v = .iface 115 (.pointer (some ⟨fa, 0, none⟩)) → fa ≠ b) (x y : Value) : ErrPl (set2 w b x y) v p a := by
  obtain ⟨fa, h1, h2, h3⟩ := h
  have hne := hb fa h1
  have e : (set2 w b x y).heap[fa]? = w.heap[fa]? := set2_other w b x y hne
  refine ⟨fa, h1, ?_, ?_⟩
  · unfold World.cell? at h2 ⊢; simp only at h2 ⊢; rw [e]; exact h2
  · unfold World.cell? at h3 ⊢; simp only at h3 ⊢; rw [e]; exact h3
theorem refersTo_all {c : CodeQ} : ∀ (k : Nat), refersTo c k = .ok () → ∀ i, i < k → refersQ c i (c.ins.getD i (0, 0)) = true
  | 0, _, i, hi => by omega
  | k + 1, h, i, hi => by
    unfold refersTo at h
    cases hk : refersTo c k with
    | error e => rw [hk] at h; cases h
    | ok u =>
      rw [hk] at h
      simp only at h
      by_cases e : i = k
      · subst e
        cases hr : refersQ c i (c.ins.getD i (0, 0)) with
        | true => rfl
        | false => rw [hr] at h; cases h
      · exact refersTo_all k hk i (by omega)
structure LookP (w : World) (A : Nat → Addr) (m : Int) (c : CodeQ) (a0 a1 a2 a3 : Option Addr) (e0 e1 e2 e3 : Nat) : Prop where
  v : Vars w A m
  n : 20 ≤ w.heap.size
  cv : CodeV w c (.slice a0 c.consts.length e0) (.slice a1 c.picks.length e1) (.slice a2 c.groups.length e2) (.slice a3 c.ins.length e3)
  ln : c.ins.length ≤ 65535
  op : ∀ x ∈ c.ins, x.1 ≤ 13 ∧ x.2 < 65536
theorem LookP.high {w w' : World} {A : Nat → Addr} {m : Int} {c : CodeQ} {a0 a1 a2 a3 : Option Addr} {e0 e1 e2 e3 : Nat} (h : LookP w A m c a0 a1 a2 a3 e0 e1 e2 e3) (hb : Below w.heap.size w w') (hr : refersTo c c.ins.length = .ok ()) : HighP w' A m c a0 a1 a2 a3 c.consts.length c.picks.length c.groups.length e0 e1 e2 e3 :=
  ⟨h.v.below hb, Nat.le_trans h.n hb.size, h.cv.below hb, h.ln, fun i hi => refersTo_all _ hr i hi, h.op⟩
set_option maxRecDepth 100000 in
set_option maxHeartbeats 16000000 in
theorem look_any (w : World) (A : Nat → Addr) (m : Int) (c : CodeQ) (a0 a1 a2 a3 : Option Addr) (e0 e1 e2 e3 : Nat) (h : LookP w A m c a0 a1 a2 a3 e0 e1 e2 e3) :
    Calls Tryz.prog 39 #[.agg #[.slice a0 c.consts.length e0, .slice a1 c.picks.length e1, .slice a2 c.groups.length e2, .slice a3 c.ins.length e3]] w fun e w' => ∃ v err, e = .returned (.tuple #[v, err]) ∧ Hid (LookC w' A (verifyQ c) v err) ∧ Below w.heap.size w w' := by
  have HP := hid h
  have hln := h.ln
  have HCB : Hid (∀ (W : World) (i op arg : Nat), op ≤ 13 → arg < 65536 → Calls Tryz.prog 78 #[.agg #[.slice a0 c.consts.length e0, .slice a1 c.picks.length e1, .slice a2 c.groups.length e2, .slice a3 c.ins.length e3], .int .i64 i, .agg #[.int .i64 op, .int .i64 arg]] W _) := hid (fun W i op arg h1 h2 => canBe_any W c i op arg a0 a1 a2 a3 e0 e1 e2 e3 h1 h2)
  have HHI : Hid (∀ W, Below w.heap.size w W → refersTo c c.ins.length = .ok () → Calls Tryz.prog 80 #[.agg #[.slice a0 c.consts.length e0, .slice a1 c.picks.length e1, .slice a2 c.groups.length e2, .slice a3 c.ins.length e3]] W _) := hid (fun W h1 h2 => high_any W A m c a0 a1 a2 a3 _ _ _ e0 e1 e2 e3 (h.high h1 h2))
  have HSL : Hid (∀ W, Below w.heap.size w W → refersTo c c.ins.length = .ok () → Calls Tryz.prog 81 #[.agg #[.slice a0 c.consts.length e0, .slice a1 c.picks.length e1, .slice a2 c.groups.length e2, .slice a3 c.ins.length e3]] W _) := hid (fun W h1 h2 => slotsOf_any W A m c a0 a1 a2 a3 _ _ _ e0 e1 e2 e3 (h.high h1 h2))
  obtain ⟨n, hn⟩ : ∃ n, n = c.ins.length := ⟨_, rfl⟩
  rw [← hn] at hln HCB HHI HSL ⊢
  generalize c.consts.length = n0 at *
  generalize c.picks.length = n1 at *
  generalize c.groups.length = n2 at *
  have HN := hid hn
  clear h hn
  go_enter Tryz.func39, Tryz.ntmps39
  go_wp2
  go_loopw [11] (fun iv wr => ∃ k : Nat, k ≤ n ∧ iv = .int .i64 k ∧ Hid (refersTo c k = .ok ()) ∧ Hid (BAt wr w.heap.size [.slice a0 n0 e0, .slice a1 n1 e1, .slice a2 n2 e2, .slice a3 n e3] 58) ∧ Hid (BAt wr (w.heap.size + 1) [.int .i64 0, .int .i64 0] 31) ∧ Hid (Below w.heap.size w wr))
    (fun iv _ => n - (intOf iv).toNat)
  case atStart =>
    refine ⟨0, Nat.zero_le _, rfl, hid rfl, hid ((((Below.refl _ _).alloc (Nat.le_refl _) _).block _ (by simp)).trans (Go.Deep.blk_alloc_new _ _)), hid ?_, hid (by repeat (first | exact Below.refl _ _ | assumption | refine Below.alloc ?_ (by first | omega | (simp; omega) | simp) _ | refine Below.setCell ?_ (by first | omega | (simp; omega) | simp) _ | refine below_drewN' ?_ _ | refine Below.drew ?_))⟩
    have := Go.Deep.blk_alloc_new (w.alloc (.cells #[.slice a0 n0 e0, .slice a1 n1 e1, .slice a2 n2 e2, .slice a3 n e3] 58)) (.cells #[.int .i64 0, .int .i64 0] 31)
    rwa [Go.Deep.nblk_alloc] at this
  case round =>
    obtain ⟨k, hk, rfl, HRT, HCr, HNr, HBr⟩ := hrel
    have q0 := HCr.out.cell 0
    have q1 := HCr.out.cell 1
    have q2 := HCr.out.cell 2
    have q3 := HCr.out.cell 3
    simp only [List.getElem?_cons_zero, List.getElem?_cons_succ] at q0 q1 q2 q3
    have hcl := HCr.out.lt
    have hnl := HNr.out.lt
    by_cases hlt : k < n
    · have hlz : (k : Int) < n := by omega
      have hkn : k < c.ins.length := by rw [← HN.out]; exact hlt
      have HIr := hid (HP.out.cv.below HBr.out).is
      obtain ⟨gi, cpi, hgi⟩ := own_some HIr.out (by omega)
      injection hgi with hgi1 hgi2 hgi3
      subst hgi1
      have i0c := own_cell HIr.out _ _ (flatI_get c.ins k hkn).1
      have i1c := own_cell HIr.out _ _ (flatI_get c.ins k hkn).2
      have hgil := own_lt HIr.out
      have hop := HP.out.op c.ins[k] (List.getElem_mem hkn)
      have HNX : Hid (refersTo c (k + 1) = if refersQ c k c.ins[k] then .ok () else .error (11, k)) := hid (by
        show (match refersTo c k with | .error e => _ | .ok _ => _) = _
        rw [HRT.out]
        simp only
        rw [List.getD_eq_getElem?_getD, List.getElem?_eq_getElem hkn]; rfl)
      generalize c.ins[k] = x at *
      obtain ⟨op, arg⟩ := x
      simp only at i0c i1c HNX hop
      clear hgi2 hgi3 HIr
      go_wp2_with fail
      refine calls_gen fun W hW => ?_
      have hbW : Below wr.heap.size wr W := by rw [hW]; exact (Below.refl _ _).alloc (Nat.le_refl _) _
      have HBW : Hid (Below w.heap.size w W) := hid (HBr.out.trans (hbW.mono HBr.out.size))
      have HCW := hid (HCr.out.below hbW)
      have HNW := hid (HNr.out.below hbW)
      clear hW hbW i0c i1c HCr HNr HBr q0 q1 q2 q3
      refine (HCB.out W k op arg hop.1 hop.2).mono ?_
      rintro e w2 ⟨rfl, hb2⟩
      have HB2 : Hid (Below w.heap.size w w2) := hid (HBW.out.trans (hb2.mono HBW.out.size))
      have HC2 := hid (HCW.out.below hb2)
      have HN2 := hid (HNW.out.below hb2)
      clear hb2 HCW HNW HBW
      cases hh : refersQ c k (op, arg) with
      | true =>
        have HNY : Hid (refersTo c (k + 1) = .ok ()) := hid (by rw [HNX.out, hh]; rfl)
        clear hh HNX
        go_wp2
        go_roundw
        case rel => exact ⟨k + 1, by omega, by go_num, HNY, HC2, HN2, HB2⟩
        case measure => simp [intOf]; omega
      | false =>
        have HVE : Hid (verifyQ c = .error (11, k)) := hid (by
          unfold verifyQ
          rw [refersTo_err (k := k + 1) (e := (11, k)) (by rw [HNX.out, hh]; rfl) _ (by omega)])
        have gs : w2.cell? ⟨10, 0, none⟩ = some (.iface 491 (.pointer (some (A 10)))) := (HP.out.v.below HB2.out).sent _ (by decide)
        clear hh HNX
        go_wp2_with fail
        refine (atIns_any _ _ _).mono ?_
        rintro e w9 ⟨v, rfl, HE, hb9⟩
        have HB9 : Hid (Below w.heap.size w w9) := hid (HB2.out.trans (hb9.mono HB2.out.size))
        have HN9 := hid (HN2.out.below hb9)
        clear hb9
        obtain ⟨fa, rfl, hf1, hf2⟩ := HE.out
        have HFN : Hid (∀ fb : Nat, Value.iface 115 (.pointer (some ⟨fa, 0, none⟩)) = .iface 115 (.pointer (some ⟨fb, 0, none⟩)) → fb ≠ w.heap.size + 1) := hid (fun fb e1 e2 => by
          injection e1 with _ e1; injection e1 with e1; injection e1 with e1; injection e1 with e1; subst e1; subst e2
          rw [HN9.out.cell 2] at hf2; cases hf2)
        clear hf1 hf2
        have f0 := HN9.out.frozen 0
        have f1 := HN9.out.frozen 1
        have z0 := HN9.out.cell 0
        have z1 := HN9.out.cell 1
        simp only [List.getElem?_cons_zero, List.getElem?_cons_succ] at z0 z1
        go_wp2
        change bodyPost _ _ _ _ _ (set2 w9 (w.heap.size + 1) (.int .i64 0) (.int .i64 0))
        have st := set2_at HN9.out (x := .int .i64 0) (y := .int .i64 0)
        have s0 := st.cell 0
        have s1 := st.cell 1
        simp only [List.getElem?_cons_zero, List.getElem?_cons_succ] at s0 s1
        have HBX := hid (set2_below (w0 := w) (a := w.heap.size + 1) HB9.out (Nat.le_succ _) (.int .i64 0) (.int .i64 0))
        have HE2 := hid (errPl_set2 HE.out HFN.out (.int .i64 0) (.int .i64 0))
        generalize set2 w9 (w.heap.size + 1) (.int .i64 0) (.int .i64 0) = WX at *
        exact bodyPost_ret (v := .tuple #[.agg #[.int .i64 0, .int .i64 0], .iface 115 (.pointer (some ⟨fa, 0, none⟩))]) (by simp [results, Tryz.results39, go_sem, s0, s1]) rfl ⟨_, _, rfl, hid (LookC.mkErr HVE.out ⟨rfl, Or.inl ⟨rfl, HE2.out⟩⟩), HBX.out⟩
    · obtain rfl : k = n := by omega
      have HRA : Hid (refersTo c c.ins.length = .ok ()) := hid (by rw [← HN.out]; exact HRT.out)
      go_wp2_with fail
      refine (HHI.out wr HBr.out HRT.out).mono ?_
      rintro e w5 ⟨v, err, rfl, HHC, hb5⟩
      have HB5 : Hid (Below w.heap.size w w5) := hid (HBr.out.trans (hb5.mono HBr.out.size))
      have HC5 := hid (HCr.out.below hb5)
      have HN5 := hid (HNr.out.below hb5)
      clear hb5 HCr HNr q0 q1 q2 q3
      cases hq : highQ c with
      | error x =>
        rw [hq] at HHC
        obtain ⟨rfl, hx, he⟩ := HHC.out
        have HVE : Hid (verifyQ c = .error x) := hid (by unfold verifyQ; rw [HRA.out]; simp only; rw [hq])
        have HE := hid he
        have HXE := hid hx
        clear HHC hq he hx
        obtain ⟨fa, rfl, hf1, hf2⟩ := HE.out
        have HFN : Hid (∀ fb : Nat, Value.iface 115 (.pointer (some ⟨fa, 0, none⟩)) = .iface 115 (.pointer (some ⟨fb, 0, none⟩)) → fb ≠ w.heap.size + 1) := hid (fun fb e1 e2 => by
          injection e1 with _ e1; injection e1 with e1; injection e1 with e1; injection e1 with e1; subst e1; subst e2
          rw [HN5.out.cell 2] at hf2; cases hf2)
        clear hf1 hf2
        have f0 := HN5.out.frozen 0
        have f1 := HN5.out.frozen 1
        have z0 := HN5.out.cell 0
        have z1 := HN5.out.cell 1
        simp only [List.getElem?_cons_zero, List.getElem?_cons_succ] at z0 z1
        go_wp2
        change bodyPost _ _ _ _ _ (set2 w5 (w.heap.size + 1) (.int .i64 0) (.int .i64 0))
        have st := set2_at HN5.out (x := .int .i64 0) (y := .int .i64 0)
        have s0 := st.cell 0
        have s1 := st.cell 1
        simp only [List.getElem?_cons_zero, List.getElem?_cons_succ] at s0 s1
        have HBX := hid (set2_below (w0 := w) (a := w.heap.size + 1) HB5.out (Nat.le_succ _) (.int .i64 0) (.int .i64 0))
        have HE2 := hid (errPl_set2 HE.out HFN.out (.int .i64 0) (.int .i64 0))
        generalize set2 w5 (w.heap.size + 1) (.int .i64 0) (.int .i64 0) = WX at *
        exact bodyPost_ret (v := .tuple #[.agg #[.int .i64 0, .int .i64 0], .iface 115 (.pointer (some ⟨fa, 0, none⟩))]) (by simp [results, Tryz.results39, go_sem, s0, s1]) rfl ⟨_, _, rfl, hid (LookC.mkErr HVE.out ⟨rfl, Or.inr ⟨HXE.out, HE2.out⟩⟩), HBX.out⟩
      | ok mm =>
        rw [hq] at HHC
        obtain ⟨rfl, rfl⟩ := HHC.out
        have HVE : Hid (verifyQ c = .ok (mm, slotsTo c.ins)) := hid (by unfold verifyQ; rw [HRA.out]; simp only; rw [hq])
        clear HHC hq
        have q0 := HC5.out.cell 0
        have q1 := HC5.out.cell 1
        have q2 := HC5.out.cell 2
        have q3 := HC5.out.cell 3
        simp only [List.getElem?_cons_zero, List.getElem?_cons_succ] at q0 q1 q2 q3
        go_wp2_with fail
        refine (HSL.out w5 HB5.out HRT.out).mono ?_
        rintro e w6 ⟨rfl, hb6⟩
        have HB6 : Hid (Below w.heap.size w w6) := hid (HB5.out.trans (hb6.mono HB5.out.size))
        have HN6 := hid (HN5.out.below hb6)
        clear hb6 q0 q1 q2 q3
        generalize slotsTo c.ins = sn at *
        have f0 := HN6.out.frozen 0
        have f1 := HN6.out.frozen 1
        have z0 := HN6.out.cell 0
        have z1 := HN6.out.cell 1
        simp only [List.getElem?_cons_zero, List.getElem?_cons_succ] at z0 z1
        go_wp2
        change bodyPost _ _ _ _ _ (set2 w6 (w.heap.size + 1) (.int .i64 mm) (.int .i64 sn))
        have st := set2_at HN6.out (x := .int .i64 mm) (y := .int .i64 sn)
        have s0 := st.cell 0
        have s1 := st.cell 1
        simp only [List.getElem?_cons_zero, List.getElem?_cons_succ] at s0 s1
        have HBX := hid (set2_below (w0 := w) (a := w.heap.size + 1) HB6.out (Nat.le_succ _) (.int .i64 mm) (.int .i64 sn))
        generalize set2 w6 (w.heap.size + 1) (.int .i64 mm) (.int .i64 sn) = WX at *
        exact bodyPost_ret (v := .tuple #[.agg #[.int .i64 mm, .int .i64 sn], .nilIface]) (by simp [results, Tryz.results39, go_sem, s0, s1]) rfl ⟨_, _, rfl, hid (LookC.mkOk HVE.out ⟨rfl, rfl⟩), HBX.out⟩
end Go.Proofs.YtkodhpilkaihjaaGreatDoor
namespace Go.Proofs.YtkodhpilkaihjaaGreatDoor
open Go.RowKit Go.Extern.Stop Go.Stop Go.Extern LS
def entCmp : Array Value → Sem Value := ReflectliteType.method fun t => do Rtype.noPackHeld "Comparable" t; pure (.bool (← typeInfo t).comparable)
theorem Tryz.isTypeOf(v:Value)(w:World):(Extern.ReflectliteType.typeOf #[.iface 491 v]).run Tryz.prog w=.ok (.iface 316 (.agg #[.pointer (some ⟨20,491,none⟩)])) w:=by kernel_rfl
theorem Tryz.isComparable(w:World):(entCmp #[.agg #[.pointer (some ⟨20,491,none⟩)]]).run Tryz.prog w=.ok (.bool true) w:=by kernel_rfl
theorem Tryz.isMethodComparable (v : Value) (w : World) : (Go.method 620 316 v "Comparable").run Tryz.prog w = .ok (353, v) w := by kernel_rfl
theorem Tryz.isComp:(Tryz.prog.info? 491).map (·.comparable)=some true:=by kernel_rfl
theorem Tryz.isSize:(Tryz.prog.info? 509).map (·.size)=some 1:=by kernel_rfl
theorem Tryz.noIsE(v:Value)(xT:TypeId)(w:World):(Instr.typeAssert (.iface 491 v) xT 318 true).run Tryz.prog w=.ok (.tuple #[.nilIface,.bool false]) w:=run_typeAssert_lacksB Tryz.underlying318 (by kernel_rfl) (by kernel_rfl) v xT w
theorem Tryz.noUnwrapE(v:Value)(xT:TypeId)(w:World):(Instr.typeAssert (.iface 491 v) xT 321 true).run Tryz.prog w=.ok (.tuple #[.nilIface,.bool false]) w:=run_typeAssert_lacksB Tryz.underlying321 (by kernel_rfl) (by kernel_rfl) v xT w
theorem Tryz.noUnwrapsE(v:Value)(xT:TypeId)(w:World):(Instr.typeAssert (.iface 491 v) xT 322 true).run Tryz.prog w=.ok (.tuple #[.nilIface,.bool false]) w:=run_typeAssert_lacksB Tryz.underlying322 (by kernel_rfl) (by kernel_rfl) v xT w
theorem Tryz.noIsW(v:Value)(xT:TypeId)(w:World):(Instr.typeAssert (.iface 115 v) xT 318 true).run Tryz.prog w=.ok (.tuple #[.nilIface,.bool false]) w:=run_typeAssert_lacksB Tryz.underlying318 (by kernel_rfl) (by kernel_rfl) v xT w
theorem Tryz.hasUnwrapW(v:Value)(xT:TypeId)(w:World):(Instr.typeAssert (.iface 115 v) xT 321 true).run Tryz.prog w=.ok (.tuple #[.iface 115 v,.bool true]) w:=run_typeAssert_hasB Tryz.underlying321 (by kernel_rfl) v xT w
theorem Tryz.methodUnwrap (v : Value) (w : World) : (Go.method 620 115 v "Unwrap").run Tryz.prog w = .ok (340, v) w := by kernel_rfl
theorem x_typeOf (args : Array Value) (w : World) : (callFunc 82 args).run Tryz.prog w = ((ReflectliteType.typeOf args).run Tryz.prog w).andThen fun v w' => .ok (.value v) w' :=
  run_callFunc_extern Tryz.func82 (by kernel_rfl) (by kernel_rfl) (by kernel_rfl) (by kernel_rfl) args w
theorem x_cmp (args : Array Value) (w : World) : (callFunc 353 args).run Tryz.prog w = ((entCmp args).run Tryz.prog w).andThen fun v w' => .ok (.value v) w' :=
  run_callFunc_extern Tryz.func353 (by kernel_rfl) (by kernel_rfl) (by kernel_rfl) (by kernel_rfl) args w
set_option maxHeartbeats 1000000 in
theorem is_same(a:Addr)(w:World) :
  Calls Tryz.prog 40 #[.iface 491 (.pointer (some a)),.iface 491 (.pointer (some a))] w fun e w'=>e=.returned (.bool true)∧w'=w:=by
 obtain⟨i,hi,hcmp⟩:=Option.map_eq_some_iff.1 Tryz.isComp
 obtain⟨j,hj,hjs⟩:=Option.map_eq_some_iff.1 Tryz.isSize
 have h8:=x_typeOf
 have h32:=x_cmp
 have tT:=Tryz.isTypeOf
 have cT:=Tryz.isComparable
 have mR:=Tryz.isMethodComparable
 have heq:=run_eql_iface_ptr_same (P:=Tryz.prog) w a Tryz.underlying60 Tryz.underlying491 hi hcmp hj
 go_enter Tryz.func40,Tryz.ntmps40
 go_wp2
 refine wp_loop_rounds 1 ?_
 rw[rounds_succ]
 go_wp2
 go_ret
 exact⟨rfl,rfl⟩
theorem is_nil(b:Addr)(w:World) :
  Calls Tryz.prog 40 #[.nilIface,.iface 491 (.pointer (some b))] w fun e w'=>e=.returned (.bool false)∧w'=w:=by
 have hn:=run_eql_iface_nil_left (P:=Tryz.prog) w 491 (.pointer (some b)) Tryz.underlying60
 go_enter Tryz.func40,Tryz.ntmps40
 go_wp2
 go_ret
 exact⟨rfl,rfl⟩
set_option maxHeartbeats 1000000 in
theorem is_other(a b:Addr)(ca cb:Array Value)(ta tb:TypeId)(w:World)(hne:a≠b)(ha:w.heap[a.block]?=some (.cells ca ta (0,0)))(hb:w.heap[b.block]?=some (.cells cb tb (0,0))) :
  Calls Tryz.prog 40 #[.iface 491 (.pointer (some a)),.iface 491 (.pointer (some b))] w fun e w'=>e=.returned (.bool false)∧w'=w:=by
 obtain⟨i,hi,hcmp⟩:=Option.map_eq_some_iff.1 Tryz.isComp
 obtain⟨j,hj,hjs⟩:=Option.map_eq_some_iff.1 Tryz.isSize
 have h8:=x_typeOf
 have h32:=x_cmp
 have tT:=Tryz.isTypeOf
 have cT:=Tryz.isComparable
 have mR:=Tryz.isMethodComparable
 have nE:=Tryz.noIsE
 have uE:=Tryz.noUnwrapE
 have vE:=Tryz.noUnwrapsE
 have nW:=Tryz.noIsW
 have uW:=Tryz.hasUnwrapW
 have mU:=Tryz.methodUnwrap
 have heq:=run_eql_iface_ptr_other (P:=Tryz.prog) w Tryz.underlying60 Tryz.underlying491 hi hcmp hj (by rw[hjs];decide) hne ha hb
 go_enter Tryz.func40,Tryz.ntmps40
 go_wp2
 refine wp_loop_rounds 1 ?_
 rw[rounds_succ]
 go_wp2
 go_ret
 exact⟨rfl,rfl⟩
set_option maxHeartbeats 1000000 in
theorem is_wrap_same(pb:Nat)(b:Addr)(w:World)(h1:w.cell? ⟨pb,2,none⟩=some (.iface 491 (.pointer (some b)))) :
  Calls Tryz.prog 40 #[.iface 115 (.pointer (some ⟨pb,0,none⟩)),.iface 491 (.pointer (some b))] w fun e w'=>e=.returned (.bool true)∧w'=w:=by
 obtain⟨i,hi,hcmp⟩:=Option.map_eq_some_iff.1 Tryz.isComp
 obtain⟨j,hj,hjs⟩:=Option.map_eq_some_iff.1 Tryz.isSize
 have h8:=x_typeOf
 have h32:=x_cmp
 have tT:=Tryz.isTypeOf
 have cT:=Tryz.isComparable
 have mR:=Tryz.isMethodComparable
 have nE:=Tryz.noIsE
 have uE:=Tryz.noUnwrapE
 have vE:=Tryz.noUnwrapsE
 have nW:=Tryz.noIsW
 have uW:=Tryz.hasUnwrapW
 have mU:=Tryz.methodUnwrap
 have heq:=run_eql_iface_ptr_same (P:=Tryz.prog) w b Tryz.underlying60 Tryz.underlying491 hi hcmp hj
 have hty:=run_eql_iface_types (P:=Tryz.prog) 115 491 (.pointer (some ⟨pb,0,none⟩)) (.pointer (some b)) Tryz.underlying60 (by decide) w
 go_enter Tryz.func40,Tryz.ntmps40
 go_wp2
 refine wp_loop_rounds 2 ?_
 rw[rounds_succ]
 go_wp2
 rw[rounds_succ]
 go_wp2
 go_ret
 exact⟨rfl,rfl⟩
set_option maxHeartbeats 1000000 in
theorem is_wrap_other(pb:Nat)(b a:Addr)(ca cb:Array Value)(ta tb:TypeId)(w:World)(h1:w.cell? ⟨pb,2,none⟩=some (.iface 491 (.pointer (some a))))(hne:a≠b)(ha:w.heap[a.block]?=some (.cells ca ta (0,0)))(hb:w.heap[b.block]?=some (.cells cb tb (0,0))) :
  Calls Tryz.prog 40 #[.iface 115 (.pointer (some ⟨pb,0,none⟩)),.iface 491 (.pointer (some b))] w fun e w'=>e=.returned (.bool false)∧w'=w:=by
 obtain⟨i,hi,hcmp⟩:=Option.map_eq_some_iff.1 Tryz.isComp
 obtain⟨j,hj,hjs⟩:=Option.map_eq_some_iff.1 Tryz.isSize
 have h8:=x_typeOf
 have h32:=x_cmp
 have tT:=Tryz.isTypeOf
 have cT:=Tryz.isComparable
 have mR:=Tryz.isMethodComparable
 have nE:=Tryz.noIsE
 have uE:=Tryz.noUnwrapE
 have vE:=Tryz.noUnwrapsE
 have nW:=Tryz.noIsW
 have uW:=Tryz.hasUnwrapW
 have mU:=Tryz.methodUnwrap
 have heq:=run_eql_iface_ptr_other (P:=Tryz.prog) w Tryz.underlying60 Tryz.underlying491 hi hcmp hj (by rw[hjs];decide) hne ha hb
 have hty:=run_eql_iface_types (P:=Tryz.prog) 115 491 (.pointer (some ⟨pb,0,none⟩)) (.pointer (some b)) Tryz.underlying60 (by decide) w
 go_enter Tryz.func40,Tryz.ntmps40
 go_wp2
 refine wp_loop_rounds 2 ?_
 rw[rounds_succ]
 go_wp2
 rw[rounds_succ]
 go_wp2
 go_ret
 exact⟨rfl,rfl⟩
end Go.Proofs.YtkodhpilkaihjaaGreatDoor

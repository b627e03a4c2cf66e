/- Parts. -/
import Derived.Test.YtkodhpilkaihjaaGreatDoorV35
import Derived.Test.YtkodhpilkaihjaaGreatDoorV30
import Derived.Test.YtkodhpilkaihjaaGreatDoorV28
import Derived.Deep.DeepCutAuto
namespace Go.Proofs.YtkodhpilkaihjaaGreatDoor
open Go.RowKit LS
def verV (r : Except (Nat × Nat) (Nat × Nat)) : Nat × Nat × Nat × Nat := match r with
  | .ok x => (x.1, x.2, 0, 0)
  | .error x => (0, 0, x.1, x.2)
structure VerP (w : World) (cb : Nat) (c : CodeQ) (cv pv gv iv : Value) (pl : List PV) (gl : List (Option Addr × Nat × Nat)) : Prop where
  code : RCode w cb c cv pv gv iv pl gl
  ln : c.ins.length ≤ 65535
  op : ∀ x ∈ c.ins, x.1 ≤ 13 ∧ x.2 < 65536
theorem putsB_size (c : CodeQ) (op arg : Nat) (took sl : ByteArray) : (putsB c op arg took sl).size ≤ took.size + 1 := by
  unfold putsB
  split
  all_goals first
    | (show (1 : Nat) ≤ _; omega)
    | (show (0 : Nat) ≤ _; omega)
    | (split <;> (show (1 : Nat) ≤ _; omega))
    | omega
    | (rw [ByteArray.size_extract]; omega)
theorem refersTo_allR {c : CodeQ} : ∀ {n : Nat}, refersTo c n = .ok () → ∀ i, i < n → refersQ c i (c.ins.getD i (0, 0)) = true
  | 0, _, i, hi => absurd hi (Nat.not_lt_zero _)
  | n + 1, h, i, hi => by
    unfold refersTo at h
    cases hr : refersTo c n with
    | error e => rw [hr] at h; cases h
    | ok u =>
      rw [hr] at h
      simp only at h
      by_cases e : i = n
      · subst e
        cases hq : refersQ c i (c.ins.getD i (0, 0)) with
        | true => rfl
        | false => rw [hq] at h; cases h
      · exact refersTo_allR hr i (by omega)
structure MPack (l : List Ah) (i : Nat) (st sl : List Nat) (X H : ByteArray) (bk bc : Bool) (bs bz : ByteArray) (cl : Bool) (S1 L1 : ByteArray) : Prop where
  at0 : ∀ (W : World) (g : Nat) (t : TypeId), BAt W g (flatA l) t → W.cell? ⟨g, i * 4, none⟩ = some (.bool bk) ∧ W.cell? ⟨g, i * 4 + 1, none⟩ = some (.bool bc) ∧ W.cell? ⟨g, i * 4 + 2, none⟩ = some (.string bs) ∧ W.cell? ⟨g, i * 4 + 3, none⟩ = some (.string bz)
  call : ∀ W : World, Calls Tryz.prog 57 #[.agg #[.bool bk, .bool bc, .string bs, .string bz], .string X, .string H] W fun e w' => e = .returned (.agg #[.bool true, .bool cl, .string S1, .string L1]) ∧ Below W.heap.size W w'
  put : ∀ (W : World) (g : Nat) (t : TypeId), BAt W g (flatA l) t → BAt (set4o W g (i * 4) (.bool true) (.bool cl) (.string S1) (.string L1)) g (flatA (l.set i (meetQ (l.getD i ah0) st sl))) t
  ok : ∀ x ∈ l.set i (meetQ (l.getD i ah0) st sl), AhK x
theorem meet_pack {l : List Ah} {i : Nat} {st sl : List Nat} {X H : ByteArray} (hi : i < l.length) (hl : ∀ x ∈ l, AhK x) (h1 : st.length ≤ 64) (h2 : ∀ k ∈ st, k ≠ 0) (h3 : sl.length = 16) (h4 : ∀ k ∈ st, k ≤ 3) (h5 : ∀ k ∈ sl, k ≤ 3) (hX : X = stB st) (hH : H = slB sl) :
    ∃ bk bc bs bz cl S1 L1, Hid (MPack l i st sl X H bk bc bs bz cl S1 L1) := by
  have hk := getD_k hl i
  obtain ⟨cl, S1, L1, HM1, HME⟩ := rmeet_ah (l.getD i ah0) st sl hk h3 h4 h5
  rw [← hX, ← hH] at HME
  refine ⟨_, _, _, _, cl, S1, L1, hid ⟨fun W g t hb => ⟨?_, ?_, ?_, ?_⟩, HME.out, fun W g t hb => set4o_at hb hi HM1.out, set_k hl (meet_k hk h1 h2 h3 h4 h5) i⟩⟩
  · rw [hb.cell]; exact flatA_get l i 0 hi (by decide)
  · rw [hb.cell]; exact flatA_get l i 1 hi (by decide)
  · rw [hb.cell]; exact flatA_get l i 2 hi (by decide)
  · rw [hb.cell]; exact flatA_get l i 3 hi (by decide)
set_option maxRecDepth 100000 in
set_option maxHeartbeats 32000000 in
theorem rVerify_any (w : World) (cb : Nat) (c : CodeQ) (cv pv gv iv : Value) (pl : List PV) (gl : List (Option Addr × Nat × Nat)) (h : VerP w cb c cv pv gv iv pl gl) :
    Calls Tryz.prog 28 #[.pointer (some ⟨cb, 0, none⟩)] w fun e w' => ∃ a b d p : Nat, e = .returned (.tuple #[.int .i64 a, .int .i64 b, .int .i64 d, .int .i64 p]) ∧ Hid (verV (verifyQ c) = (a, b, d, p)) ∧ Below w.heap.size w w' := by
  obtain ⟨ia, ic, rfl⟩ := own_shape h.code.is
  have HP := hid h
  have hln := h.ln
  obtain ⟨i0, hi, hz0, hz1, hz2⟩ := info_parts Tryz.infoAhead
  obtain ⟨n, hn⟩ : ∃ n, n = c.ins.length := ⟨_, rfl⟩
  rw [← hn] at hln
  have HN := hid hn
  clear h hn
  go_enter Tryz.func28, Tryz.ntmps28
  go_wp2
  go_loopw [6, 7] (fun nv iv wr => ∃ (k sn : Nat), k ≤ n ∧ iv = .int .i64 k ∧ nv = .int .i64 sn ∧ sn ≤ 16 ∧ Hid (refersTo c k = .ok ()) ∧ Hid (slotsTo (c.ins.take k) = sn) ∧ Hid (Below w.heap.size w wr))
    (fun _ iv _ => n - (intOf iv).toNat)
  case atStart => exact ⟨0, 0, Nat.zero_le _, rfl, rfl, by decide, hid rfl, hid rfl, hid (Below.refl _ _)⟩
  case round =>
    obtain ⟨k, sn, hk, rfl, rfl, hsn, HRT, HST, HBr⟩ := hrel
    have HRC := hid (HP.out.code.below HBr.out)
    have d3 := HRC.out.box.cell 3
    simp only [List.getElem?_cons_zero, List.getElem?_cons_succ] at d3
    rw [← HN.out] at d3
    have hcbl := HRC.out.box.lt
    by_cases hlt : k < n
    · as_aux_lemma =>
      have hkn : k < c.ins.length := by rw [← HN.out]; exact hlt
      obtain ⟨gi, cpi, hgi⟩ := own_some HRC.out.is (by omega)
      injection hgi with hgi1 hgi2 hgi3
      subst hgi1
      rcases hx0 : c.ins[k] with ⟨op, arg⟩
      have hop := HP.out.op (op, arg) (by rw [← hx0]; exact List.getElem_mem hkn)
      obtain ⟨hop1, hop2⟩ := hop
      simp only at hop1 hop2
      have HRQ := hid (refers_any wr cb c _ _ _ _ _ _ HRC.out k hkn HP.out.op)
      rw [hx0] at HRQ
      have HXD : Hid (c.ins.getD k (0, 0) = (op, arg)) := hid (by rw [List.getD_eq_getElem?_getD, List.getElem?_eq_getElem hkn, hx0]; rfl)
      have HX0 := hid hx0
      clear hx0 hgi2 hgi3
      cases hr : refersQ c k (op, arg) with
      | false =>
        rw [hr] at HRQ
        have HVE : Hid (verV (verifyQ c) = (0, 0, 11, k)) := hid (by
          unfold verifyQ
          rw [refersTo_err (k := k + 1) (e := (11, k)) (by unfold refersTo; rw [HRT.out]; simp only; rw [HXD.out, hr]; rfl) _ (by rw [← HN.out]; omega)]
          rfl)
        go_wp2_with fail
        refine HRQ.out.mono ?_
        rintro e w2 ⟨rfl, hb2⟩
        have HB2 : Hid (Below w.heap.size w w2) := hid (HBr.out.trans (hb2.mono HBr.out.size))
        clear hb2 d3
        go_wp2
        (try simp only [Exit.inBlock, Exit.then])
        refine bodyPost_ret (results_tmp4V rfl _ _ _) rfl ?_
        exact ⟨0, 0, 11, k, rfl, HVE, HB2.out⟩
      | true =>
        rw [hr] at HRQ
        have HRT2 : Hid (refersTo c (k + 1) = .ok ()) := hid (by unfold refersTo; rw [HRT.out]; simp only; rw [HXD.out, hr]; rfl)
        have HSN : Hid (slotsTo (c.ins.take (k + 1)) = if hasSlot op then max sn (arg + 1) else sn) := hid (by
          rw [List.take_succ_eq_append_getElem hkn, HX0.out, slotsTo_snoc, HST.out])
        have hslot : op = 12 ∨ op = 13 → arg < 16 := by
          rintro (rfl | rfl) <;> simpa [refersQ] using hr
        go_wp2_with fail
        refine HRQ.out.mono ?_
        rintro e w2 ⟨rfl, hb2⟩
        have HB2 : Hid (Below w.heap.size w w2) := hid (HBr.out.trans (hb2.mono HBr.out.size))
        have HRC2 := hid (HRC.out.below hb2)
        clear hb2 d3 HRC hcbl HRQ
        have d3 := HRC2.out.box.cell 3
        simp only [List.getElem?_cons_zero, List.getElem?_cons_succ] at d3
        rw [← HN.out] at d3
        have i0c := own_cell HRC2.out.is _ _ (flatI_get c.ins k hkn).1
        have i1c := own_cell HRC2.out.is _ _ (flatI_get c.ins k hkn).2
        rw [HX0.out] at i0c i1c
        simp only at i0c i1c
        have hcbl := HRC2.out.box.lt
        have hgil := own_lt HRC2.out.is
        by_cases h12 : op = 12
        · subst h12
          have ha := hslot (Or.inl rfl)
          clear hslot
          by_cases hge : sn ≤ arg
          · have HS2 : Hid (slotsTo (c.ins.take (k + 1)) = arg + 1) := hid (by rw [HSN.out]; show max sn (arg + 1) = _; omega)
            go_wp2
            go_roundw
            case rel => exact ⟨k + 1, arg + 1, by omega, by go_num, by go_num, by omega, HRT2, HS2, hid (HB2.out.alloc HB2.out.size _)⟩
            case measure => simp [intOf]; omega
          · have HS2 : Hid (slotsTo (c.ins.take (k + 1)) = sn) := hid (by rw [HSN.out]; show max sn (arg + 1) = _; omega)
            go_wp2
            go_roundw
            case rel => exact ⟨k + 1, sn, by omega, by go_num, by go_num, by omega, HRT2, HS2, hid (HB2.out.alloc HB2.out.size _)⟩
            case measure => simp [intOf]; omega
        · by_cases h13 : op = 13
          · subst h13
            have ha := hslot (Or.inr rfl)
            clear hslot
            by_cases hge : sn ≤ arg
            · have HS2 : Hid (slotsTo (c.ins.take (k + 1)) = arg + 1) := hid (by rw [HSN.out]; show max sn (arg + 1) = _; omega)
              go_wp2
              go_roundw
              case rel => exact ⟨k + 1, arg + 1, by omega, by go_num, by go_num, by omega, HRT2, HS2, hid (HB2.out.alloc HB2.out.size _)⟩
              case measure => simp [intOf]; omega
            · have HS2 : Hid (slotsTo (c.ins.take (k + 1)) = sn) := hid (by rw [HSN.out]; show max sn (arg + 1) = _; omega)
              go_wp2
              go_roundw
              case rel => exact ⟨k + 1, sn, by omega, by go_num, by go_num, by omega, HRT2, HS2, hid (HB2.out.alloc HB2.out.size _)⟩
              case measure => simp [intOf]; omega
          · have HS2 : Hid (slotsTo (c.ins.take (k + 1)) = sn) := hid (by
              rw [HSN.out]
              have : hasSlot op = false := by unfold hasSlot; simp [h12, h13]
              rw [this]; rfl)
            have e12 : ((op : Int) == 12) = false := by rw [beq_eq_false_iff_ne]; omega
            have e13 : ((op : Int) == 13) = false := by rw [beq_eq_false_iff_ne]; omega
            clear hslot
            go_wp2
            go_roundw
            case rel => exact ⟨k + 1, sn, by omega, by go_num, by go_num, by omega, HRT2, HS2, hid (HB2.out.alloc HB2.out.size _)⟩
            case measure => simp [intOf]; omega
    · obtain rfl : n = k := by omega
      have HSA : Hid (slotsTo c.ins = sn) := hid (by rw [← HST.out, List.take_of_length_le (by rw [← HN.out]; exact Nat.le_refl _)])
      have HVO : Hid (∀ m, highQ c = .ok m → verV (verifyQ c) = (m, sn, 0, 0)) := hid (fun m hm => by
        unfold verifyQ; rw [← HN.out, HRT.out]; simp only; rw [hm]; simp only; rw [HSA.out]; rfl)
      have HVE : Hid (∀ p, highQ c = .error (12, p) → verV (verifyQ c) = (0, 0, 12, p)) := hid (fun p hp => by
        unfold verifyQ; rw [← HN.out, HRT.out]; simp only; rw [hp]; rfl)
      have HRF := hid (refersTo_allR HRT.out)
      clear HRT HST HSA hk hlt
      go_wp2_with (at_make; refine wpList_make_full _ rfl _ _ 137 rfl wr.heap.size 139 i0 _ 4 Tryz.underlying137 hi hz0 hz1 _ _ _ _ (n + 1) rfl rfl ?e1 ?e2 ?b2 ?b3 ?b4 ?_)
      case e1 => go_num
      case e2 => go_num
      case b2 => rw [hz2]; omega
      case b3 => unfold maxLen; omega
      case b4 => simp
      intro w1 hown hgrow
      have hb1 : Below wr.heap.size wr w1 := ⟨hgrow.os, hgrow.tape, hgrow.output, hgrow.size, fun k hk => hgrow.block k hk (by simp)⟩
      have HG1 : Hid (BAt w1 wr.heap.size (flatA (List.replicate (n + 1) ah0)) 139) := hid (by have := own_full hown; rwa [made_zeroA] at this)
      have HB1 : Hid (Below w.heap.size w w1) := hid (HBr.out.trans (hb1.mono HBr.out.size))
      have hgw : w.heap.size ≤ wr.heap.size := HBr.out.size
      clear hown hgrow hb1 d3 hcbl HRC HBr
      generalize wr.heap.size = g at *
      have g0 : w1.cell? ⟨g, 0, none⟩ = some (.bool false) := by rw [HG1.out.cell]; rfl
      have g1 : w1.cell? ⟨g, 1, none⟩ = some (.bool false) := by rw [HG1.out.cell]; rfl
      have g2 : w1.cell? ⟨g, 2, none⟩ = some (.string ⟨#[]⟩) := by rw [HG1.out.cell]; rfl
      have g3 : w1.cell? ⟨g, 3, none⟩ = some (.string ⟨#[]⟩) := by rw [HG1.out.cell]; rfl
      have f0 := HG1.out.frozen 0
      have f1 := HG1.out.frozen 1
      have f2 := HG1.out.frozen 2
      have f3 := HG1.out.frozen 3
      have hgl := HG1.out.lt
      have HG2 : Hid (BAt (set4o w1 g 0 (.bool true) (.bool false) (.string ⟨#[]⟩) (.string ⟨#[45, 45, 45, 45, 45, 45, 45, 45, 45, 45, 45, 45, 45, 45, 45, 45]⟩)) g (flatA (pass0 n)) 139) := hid (by
        have := set4o_at (i := 0) (b := ⟨true, false, [], List.replicate 16 0⟩) HG1.out (by simp) (show ahC _ = [.bool true, .bool false, .string ⟨#[]⟩, .string ⟨#[45, 45, 45, 45, 45, 45, 45, 45, 45, 45, 45, 45, 45, 45, 45, 45]⟩] from rfl)
        exact this)
      have HB2 : Hid (Below w.heap.size w (set4o w1 g 0 (.bool true) (.bool false) (.string ⟨#[]⟩) (.string ⟨#[45, 45, 45, 45, 45, 45, 45, 45, 45, 45, 45, 45, 45, 45, 45, 45]⟩))) := hid (set4o_below HB1.out hgw _ _ _ _ _)
      clear HB1 HG1
      go_wp2
      clear g0 g1 g2 g3 f0 f1 f2 f3 hgl
      go_loopw [11, 12] (fun mv iv wr => ∃ (k mo : Nat) (l : List Ah), k ≤ n ∧ iv = .int .i64 k ∧ mv = .int .i64 mo ∧ mo ≤ 64 ∧ Hid (l.length = n + 1) ∧ Hid (passQ c k = .ok (l, mo)) ∧ Hid (∀ x ∈ l, AhK x) ∧ Hid (BAt wr g (flatA l) 139) ∧ Hid (Below w.heap.size w wr))
        (fun _ iv _ => n - (intOf iv).toNat)
      case atStart => exact ⟨0, 0, pass0 n, Nat.zero_le _, rfl, rfl, by decide, hid (by simp [pass0]), hid (by rw [HN.out]; rfl), hid (pass0_k n), HG2, HB2⟩
      case round =>
        obtain ⟨k, mo, l, hk, rfl, rfl, hmo, HLL, HPQ, HOK, HGr, HBr⟩ := hrel
        clear HG2 HB2
        have HRC := hid (HP.out.code.below HBr.out)
        have d3 := HRC.out.box.cell 3
        simp only [List.getElem?_cons_zero, List.getElem?_cons_succ] at d3
        rw [← HN.out] at d3
        have hcbl := HRC.out.box.lt
        have hgl := HGr.out.lt
        by_cases hlt : k < n
        · have hkn : k < c.ins.length := by rw [← HN.out]; exact hlt
          obtain ⟨gi, cpi, hgi⟩ := own_some HRC.out.is (by omega)
          injection hgi with hgi1 hgi2 hgi3
          subst hgi1
          rcases hx0 : c.ins[k] with ⟨op, arg⟩
          have hop := HP.out.op (op, arg) (by rw [← hx0]; exact List.getElem_mem hkn)
          obtain ⟨hop1, hop2⟩ := hop
          simp only at hop1 hop2
          have HXD : Hid (c.ins.getD k (0, 0) = (op, arg)) := hid (by rw [List.getD_eq_getElem?_getD, List.getElem?_eq_getElem hkn, hx0]; rfl)
          have i0c := own_cell HRC.out.is _ _ (flatI_get c.ins k hkn).1
          have i1c := own_cell HRC.out.is _ _ (flatI_get c.ins k hkn).2
          rw [hx0] at i0c i1c
          simp only at i0c i1c
          have hgil := own_lt HRC.out.is
          have hr : refersQ c k (op, arg) = true := by have := HRF.out k hlt; rwa [HXD.out] at this
          have HR := hid hr
          clear hx0 hgi2 hgi3 hr
          obtain ⟨a, ha⟩ : ∃ a, a = l.getD k ah0 := ⟨_, rfl⟩
          have HAE := hid ha
          have HAK : Hid (AhK a) := hid (by rw [ha]; exact getD_k HOK.out k)
          have hkl : k < l.length := by rw [HLL.out]; omega
          have c0 : wr.cell? ⟨g, k * 4, none⟩ = some (.bool a.known) := by rw [HGr.out.cell, ha]; exact flatA_get l k 0 hkl (by decide)
          have c1 : wr.cell? ⟨g, k * 4 + 1, none⟩ = some (.bool a.clash) := by rw [HGr.out.cell, ha]; exact flatA_get l k 1 hkl (by decide)
          have c2 : wr.cell? ⟨g, k * 4 + 2, none⟩ = some (.string (stB a.stack)) := by rw [HGr.out.cell, ha]; exact flatA_get l k 2 hkl (by decide)
          have c3 : wr.cell? ⟨g, k * 4 + 3, none⟩ = some (.string (if a.known then slB a.slots else ⟨#[]⟩)) := by rw [HGr.out.cell, ha]; exact flatA_get l k 3 hkl (by decide)
          have HPO : Hid (passQ c (k + 1) = passOne c k l mo) := hid (by show (match passQ c k with | .error e => _ | .ok x => _) = _; rw [HPQ.out])
          clear ha hkl
          cases hkn2 : a.known with
          | false =>
            rw [hkn2] at c0 c3
            have HPN : Hid (passQ c (k + 1) = .ok (l, mo)) := hid (by rw [HPO.out]; unfold passOne; simp only; rw [← HAE.out, hkn2]; rfl)
            go_wp2
            go_roundw
            case rel => exact ⟨k + 1, mo, l, by omega, by go_num, rfl, hmo, HLL, HPN, HOK, hid (HGr.out.below ((Below.refl _ _).alloc (Nat.le_refl _) _)), hid (HBr.out.alloc HBr.out.size _)⟩
            case measure => simp [intOf]; omega
          | true =>
            rw [hkn2] at c0 c3
            rw [if_pos rfl] at c3
            have HERR : Hid (passOne c k l mo = .error (12, k) → verV (verifyQ c) = (0, 0, 12, k)) := hid (fun he => HVE.out k (by
              unfold highQ
              rw [passQ_err (k := k + 1) (e := (12, k)) (by rw [HPO.out, he]) _ (by rw [← HN.out]; omega)]))
            have HCL : Hid (a.clash = true → passOne c k l mo = .error (12, k)) := hid (fun hc => by
              unfold passOne; simp only; rw [← HAE.out, hkn2, hc]; rfl)
            have HON : Hid (a.clash = false → stepQ c (op, arg) a.stack a.slots = none → passOne c k l mo = .error (12, k)) := hid (fun hc hs => by
              unfold passOne; simp only; rw [← HAE.out, hkn2, hc, HXD.out]; simp only [if_true, if_false, Bool.false_eq_true]; rw [hs])
            have HOS : Hid (a.clash = false → ∀ st sl, stepQ c (op, arg) a.stack a.slots = some (st, sl) → passQ c (k + 1) = .ok (goOn (op, arg) k st sl l, max mo st.length)) := hid (fun hc st sl hs => by
              rw [HPO.out]; unfold passOne; simp only; rw [← HAE.out, hkn2, hc, HXD.out]; simp only [if_true, if_false, Bool.false_eq_true]; rw [hs])
            have HD := hid (doc_step c k op arg a.stack a.slots hop1 HR.out HAK.out.ok.ln (fun x hx => ⟨HAK.out.ok.kd x hx, HAK.out.st x hx⟩) HAK.out.ok.sl HAK.out.sl)
            have hSs : (stB a.stack).size ≤ 64 := by rw [stB_size]; exact HAK.out.ok.ln
            have hLs : (slB a.slots).size = 16 := by rw [slB_size]; exact HAK.out.ok.sl
            have HLS := hid hLs
            clear hLs hkn2 HPO HPQ HAE
            obtain ⟨S, hS⟩ : ∃ S, stB a.stack = S := ⟨_, rfl⟩
            obtain ⟨L, hL⟩ : ∃ L, slB a.slots = L := ⟨_, rfl⟩
            rw [hS] at c2 hSs HD
            rw [hL] at c3 HLS HD
            clear hS hL
            obtain ⟨acl, hacl⟩ : ∃ acl, a.clash = acl := ⟨_, rfl⟩
            rw [hacl] at c1 HCL HON HOS
            clear hacl
            go_upto_region 20 with fail
            refine wp_gen fun W hW => ?_
            have hbW : Below wr.heap.size wr W := by rw [hW]; exact ((Below.refl _ _).alloc (Nat.le_refl _) _).alloc (by simp) _
            have HXA : Hid (BAt W wr.heap.size [.bool true, .bool acl, .string S, .string L] 139) := hid (by
              rw [hW]; exact BAt.below (show BAt _ _ _ _ from Go.Deep.blk_alloc_new wr _) ((Below.refl _ _).alloc (Nat.le_refl _) _))
            have HXI : Hid (BAt W (wr.heap.size + 1) [.int .i64 op, .int .i64 arg] 136) := hid (by
              rw [hW]
              have := fun o => Go.Deep.blk_alloc_new (wr.alloc o) (.cells #[.int .i64 op, .int .i64 arg] 136)
              simp only [Go.Deep.nblk_alloc] at this
              exact this _)
            have HGW := hid (HGr.out.below hbW)
            have HBW : Hid (Below w.heap.size w W) := hid (HBr.out.trans (hbW.mono HBr.out.size))
            have hga : ¬ wr.heap.size = g := by omega
            have hgi : ¬ wr.heap.size + 1 = g := by omega
            clear hW hbW c0 c1 c2 c3 i0c i1c d3 HRC HGr HBr hcbl hgl hgil
            generalize wr.heap.size + 1 = xi at *
            generalize wr.heap.size = xa at *
            have x1 := HXA.out.cell 1
            have x2 := HXA.out.cell 2
            have x3 := HXA.out.cell 3
            have y0 := HXI.out.cell 0
            have y1 := HXI.out.cell 1
            simp only [List.getElem?_cons_zero, List.getElem?_cons_succ] at x1 x2 x3 y0 y1
            go_wp2_with fail
            refine (wants_any op _ hop1).mono ?_
            rintro e W ⟨rfl, rfl⟩
            obtain ⟨Wd, hWd⟩ : ∃ Wd, wantsS op = Wd := ⟨_, rfl⟩
            rw [hWd] at HD ⊢
            clear hWd
            have hWs := HD.out.wle
            go_wp2_with fail
            refine (fits_any S Wd _ (by omega) hWs).mono ?_
            rintro e w3 ⟨rfl, hb3⟩
            have HB3 : Hid (Below w.heap.size w w3) := hid (HBW.out.trans (hb3.mono HBW.out.size))
            have HXA3 := hid (HXA.out.below hb3)
            have HXI3 := hid (HXI.out.below hb3)
            have HG3 := hid (HGW.out.below hb3)
            clear hb3 x1 x2 x3 y0 y1 HXA HXI HGW HBW
            have x1 := HXA3.out.cell 1
            have x2 := HXA3.out.cell 2
            have x3 := HXA3.out.cell 3
            have y0 := HXI3.out.cell 0
            have y1 := HXI3.out.cell 1
            simp only [List.getElem?_cons_zero, List.getElem?_cons_succ] at x1 x2 x3 y0 y1
            obtain ⟨fb, hfb⟩ : ∃ fb, fitsB S Wd = fb := ⟨_, rfl⟩
            rw [hfb]
            have HFB := hid hfb
            clear hfb
            obtain ⟨bad, hbad⟩ : ∃ bad : Bool, bad = (acl || (!fb || (decide (op = 13) && decide ((bl L).getD arg 0 = 45)))) := ⟨_, rfl⟩
            have HBAD := hid hbad
            clear hbad
            have HLD : Hid (op = 13 → arg < L.size) := hid HD.out.ld
            have HGD : Hid (∀ h : arg < L.size, (bl L).getD arg 0 = L[arg]) := hid (fun h => by
              rw [List.getD_eq_getElem?_getD, List.getElem?_eq_getElem (by rw [bl_length]; exact h), bl_get L arg h]; rfl)
            go_upto_region 22 with fail
            go_cut [16, 119] from 71 to 204 (fun s16 s119 wx => s16 = .bool fb ∧ s119 = .bool bad ∧ wx = w3)
            case first => as_aux_lemma =>
              cases hac : acl with
              | true =>
                rw [hac] at x1
                have hb : bad = true := by rw [HBAD.out, hac]; rfl
                subst hb
                go_wp2
                go_meet
                exact ⟨rfl, rfl, rfl⟩
              | false =>
                rw [hac] at x1
                cases hfv : fb with
                | false =>
                  have hb : bad = true := by rw [HBAD.out, hac, hfv]; rfl
                  subst hb
                  go_wp2
                  go_meet
                  exact ⟨by rw [hfv], rfl, rfl⟩
                | true =>
                  by_cases h13 : op = 13
                  · have hla := HLD.out h13
                    have e13 : ((op : Int) == 13) = true := by rw [beq_iff_eq]; omega
                    by_cases h45 : (bl L).getD arg 0 = 45
                    · have hb : bad = true := by rw [HBAD.out, hac, hfv, decide_eq_true h13, decide_eq_true h45]; rfl
                      have d45 : (((L[arg].toNat : Nat) : Int) == 45) = true := by rw [← HGD.out hla, h45]; rfl
                      clear h45 h13
                      subst hb
                      go_wp2
                      go_meet
                      exact ⟨by rw [hfv], rfl, rfl⟩
                    · have hb : bad = false := by rw [HBAD.out, hac, hfv, decide_eq_true h13, decide_eq_false h45]; rfl
                      have d45 : (((L[arg].toNat : Nat) : Int) == 45) = false := by rw [beq_eq_false_iff_ne]; intro e; exact h45 (by rw [HGD.out hla]; exact UInt8.toNat_inj.1 (by show _ = 45; omega))
                      clear h45 h13
                      subst hb
                      go_wp2
                      go_meet
                      exact ⟨by rw [hfv], rfl, rfl⟩
                  · have hb : bad = false := by rw [HBAD.out, hac, hfv, decide_eq_false h13]; rfl
                    have e13 : ((op : Int) == 13) = false := by rw [beq_eq_false_iff_ne]; omega
                    clear h13
                    subst hb
                    go_wp2
                    go_meet
                    exact ⟨by rw [hfv], rfl, rfl⟩
            case rest =>
            obtain ⟨rfl, rfl, rfl⟩ := hcut
            rename World => w3
            cases hb : bad with
            | true =>
              have HV := hid (HERR.out (by
                have h1 := HBAD.out
                rw [hb] at h1
                cases ha : acl with
                | true => exact HCL.out ha
                | false =>
                  cases hf : fb with
                  | false => exact HON.out ha (HD.out.no (by rw [HFB.out, hf]))
                  | true =>
                    rw [ha, hf] at h1
                    have h2 : (decide (op = 13) && decide ((bl L).getD arg 0 = 45)) = true := h1.symm
                    rw [Bool.and_eq_true] at h2
                    exact HON.out ha (HD.out.no2 (of_decide_eq_true h2.1) (of_decide_eq_true h2.2))))
              go_wp2
              (try simp only [Exit.inBlock, Exit.then])
              refine bodyPost_ret (results_tmp4V rfl _ _ _) rfl ?_
              exact ⟨0, 0, 12, k, rfl, HV, HB3.out⟩
            | false =>
              have hgood : acl = false ∧ fb = true ∧ (op = 13 → ¬ (bl L).getD arg 0 = 45) := by
                have h1 := HBAD.out
                rw [hb] at h1
                cases ha : acl with
                | true => rw [ha] at h1; cases h1
                | false =>
                  cases hf : fb with
                  | false => rw [ha, hf] at h1; cases h1
                  | true =>
                    refine ⟨rfl, rfl, fun e1 e2 => ?_⟩
                    rw [ha, hf, decide_eq_true e1, decide_eq_true e2] at h1
                    cases h1
              obtain ⟨hac, hft, hgo⟩ := hgood
              have HON2 := hid (HON.out hac)
              have HOS2 := hid (HOS.out hac)
              have HF : Hid (fitsB S Wd = true) := hid (by rw [HFB.out, hft])
              have HGO := hid hgo
              have hle : Wd.size ≤ S.size := HD.out.le HF.out
              clear HON HOS HCL HBAD HFB HGD hac hft hgo hb
              go_upto_region 25 with fail
              obtain ⟨LO, hLO⟩ : ∃ LO, S.extract 0 (S.size - Wd.size) = LO := ⟨_, rfl⟩
              rw [hLO]
              have hLs : LO.size ≤ S.size := by rw [← hLO, ByteArray.size_extract]; omega
              have HLZ : Hid (S.size - Wd.size = LO.size) := hid (by rw [← hLO, ByteArray.size_extract]; omega)
              have HLO := hid hLO
              clear hLO
              go_upto_region 26 with fail
              obtain ⟨TK, hTK⟩ : ∃ TK, S.extract LO.size S.size = TK := ⟨_, rfl⟩
              rw [hTK]
              have hTs : TK.size ≤ 2 := by rw [← hTK, ByteArray.size_extract, ← HLZ.out]; omega
              have HDB : Hid (64 < (LO ++ putsB c op arg TK L).size → stepQ c (op, arg) a.stack a.slots = none) := hid (fun h => HD.out.big HF.out HGO.out (by rw [HLO.out, HLZ.out, hTK]; exact h))
              have HDO : Hid (¬ 64 < (LO ++ putsB c op arg TK L).size → ∃ st' sl', stepQ c (op, arg) a.stack a.slots = some (st', sl') ∧ LO ++ putsB c op arg TK L = stB st' ∧ hasB op arg TK L = slB sl') := hid (fun h => by
                have := HD.out.ok HF.out HGO.out (by rw [HLO.out, HLZ.out, hTK]; exact h)
                rwa [HLO.out, HLZ.out, hTK] at this)
              have HPZ : Hid ((putsB c op arg TK L).size ≤ 3) := hid (by have := putsB_size c op arg TK L; omega)
              clear hTK HLO HLZ hle HD HF HGO
              go_wp2_with fail
              refine (puts_any w3 cb c op arg TK L hop1 hop2 ((HP.out.code.below HB3.out).pickAt HR.out) HLD.out).mono ?_
              rintro e w4 ⟨rfl, hb4⟩
              have HB4 : Hid (Below w.heap.size w w4) := hid (HB3.out.trans (hb4.mono HB3.out.size))
              have HXA4 := hid (HXA3.out.below hb4)
              have HXI4 := hid (HXI3.out.below hb4)
              have HG4 := hid (HG3.out.below hb4)
              obtain ⟨P, hP⟩ : ∃ P, putsB c op arg TK L = P := ⟨_, rfl⟩
              rw [hP] at HDB HDO HPZ ⊢
              have hPz := HPZ.out
              clear hb4 x1 x2 x3 y0 y1 HXA3 HXI3 HG3 HB3 HPZ hP
              have x3 := HXA4.out.cell 3
              have y0 := HXI4.out.cell 0
              have y1 := HXI4.out.cell 1
              simp only [List.getElem?_cons_zero, List.getElem?_cons_succ] at x3 y0 y1
              go_upto_if 147 with fail
              obtain ⟨X, hX⟩ : ∃ X, LO ++ P = X := ⟨_, rfl⟩
              rw [hX] at HDB HDO ⊢
              obtain ⟨H, hH⟩ : ∃ H, hasB op arg TK L = H := ⟨_, rfl⟩
              rw [hH] at HDO
              have HH := hid hH
              clear hX hH
              go_cut [20] from 71 to 204 (fun s20 wx => s20 = .string H ∧ Hid (Below w4.heap.size w4 wx))
              case first => as_aux_lemma =>
                by_cases h12 : op = 12
                · have e12 : ((op : Int) == 12) = true := by rw [beq_iff_eq]; omega
                  have ha16 : arg < 16 := by have := HR.out; rw [h12] at this; simpa [refersQ] using this
                  have hL16 := HLS.out
                  have HHe : Hid (L.extract 0 arg ++ TK ++ L.extract (arg + 1) L.size = H) := hid (by rw [← HH.out]; unfold hasB; rw [if_pos h12])
                  have hale : arg + 1 ≤ L.size := by omega
                  have hLle : L.size ≤ 16 := by omega
                  clear h12 hL16
                  go_wp2
                  go_quiet (fail)
                  go_wp2
                  go_meet
                  exact ⟨by rw [HHe.out], hid (by repeat (first | exact Below.refl _ _ | assumption | refine Below.alloc ?_ (by first | omega | (simp; omega) | simp) _ | refine Below.setCell ?_ (by first | omega | (simp; omega) | simp) _ | refine below_drewN' ?_ _ | refine Below.drew ?_))⟩
                · have e12 : ((op : Int) == 12) = false := by rw [beq_eq_false_iff_ne]; omega
                  have HHe : Hid (L = H) := hid (by rw [← HH.out]; unfold hasB; rw [if_neg h12])
                  clear h12
                  go_wp2
                  go_meet
                  exact ⟨by rw [HHe.out], hid (Below.refl _ _)⟩
              case rest =>
              obtain ⟨rfl, HBc⟩ := hcut
              rename World => w5
              have HB5 : Hid (Below w.heap.size w w5) := hid (HB4.out.trans (HBc.out.mono HB4.out.size))
              have HXI5 := hid (HXI4.out.below HBc.out)
              have HG5 := hid (HG4.out.below HBc.out)
              clear x3 y0 y1 HXA4 HXI4 HG4 HB4 HBc HH
              by_cases hbig : 64 < X.size
              · have HV := hid (HERR.out (HON2.out (HDB.out hbig)))
                go_wp2
                (try simp only [Exit.inBlock, Exit.then])
                refine bodyPost_ret (results_tmp4V rfl _ _ _) rfl ?_
                exact ⟨0, 0, 12, k, rfl, HV, HB5.out⟩
              · obtain ⟨st', sl', hst, hXe, hHe⟩ := HDO.out hbig
                obtain ⟨z1, z2, z3⟩ := step_ok HR.out HAK.out.ok.ln HAK.out.ok.kd HAK.out.ok.sl hst
                obtain ⟨z4, z5⟩ := step_three HAK.out.st HAK.out.sl hst
                have HSP := hid (And.intro z1 (And.intro z2 (And.intro z3 (And.intro z4 (And.intro z5 (And.intro hXe hHe))))))
                obtain ⟨mo2, hmo2⟩ : ∃ mo2, mo2 = max mo X.size := ⟨_, rfl⟩
                have HPN : Hid (passQ c (k + 1) = .ok (goOn (op, arg) k st' sl' l, mo2)) := hid (by rw [HOS2.out st' sl' hst, hmo2, hXe, stB_size])
                have hmo64 : mo2 ≤ 64 := by omega
                clear hst hXe hHe z1 z2 z3 z4 z5 HDB HDO HON2 HOS2
                go_upto_if 167 with fail
                go_cut [11] from 71 to 204 (fun s11 wx => s11 = .int .i64 mo2 ∧ wx = w5)
                case first => as_aux_lemma =>
                  by_cases hgt : mo < X.size
                  · have hm2 : mo2 = X.size := by omega
                    clear hmo2
                    subst hm2
                    go_wp2
                    go_meet
                    exact ⟨rfl, rfl⟩
                  · have hm2 : mo2 = mo := by omega
                    clear hmo2
                    subst hm2
                    go_wp2
                    go_meet
                    exact ⟨rfl, rfl⟩
                case rest =>
                obtain ⟨rfl, rfl⟩ := hcut
                rename World => w5
                clear hmo2
                obtain ⟨cj, hcj⟩ : ∃ cj, cj = canJump op := ⟨_, rfl⟩
                have HCJ := hid hcj
                clear hcj
                have y0 := HXI5.out.cell 0
                have y1 := HXI5.out.cell 1
                simp only [List.getElem?_cons_zero, List.getElem?_cons_succ] at y0 y1
                go_upto_region 34 with fail
                go_cut [177] from 71 to 204 (fun s177 wx => s177 = .bool cj ∧ wx = w5)
                case first => as_aux_lemma =>
                  by_cases h9 : op = 9
                  · have e9 : ((op : Int) == 9) = true := by rw [beq_iff_eq]; omega
                    have hj : cj = true := by rw [HCJ.out, h9]; rfl
                    clear h9
                    subst hj
                    go_wp2
                    go_meet
                    exact ⟨rfl, rfl⟩
                  · have e9 : ((op : Int) == 9) = false := by rw [beq_eq_false_iff_ne]; omega
                    by_cases h10 : op = 10
                    · have e10 : ((op : Int) == 10) = true := by rw [beq_iff_eq]; omega
                      have hj : cj = true := by rw [HCJ.out, h10]; rfl
                      clear h9 h10
                      subst hj
                      go_wp2
                      go_meet
                      exact ⟨rfl, rfl⟩
                    · have e10 : ((op : Int) == 10) = false := by rw [beq_eq_false_iff_ne]; omega
                      have hj : cj = false := by rw [HCJ.out]; unfold canJump; simp [h9, h10]
                      clear h9 h10
                      subst hj
                      go_wp2
                      go_meet
                      exact ⟨rfl, rfl⟩
                case rest =>
                obtain ⟨rfl, rfl⟩ := hcut
                rename World => w5
                obtain ⟨l1, hl1⟩ : ∃ l1, l1 = if cj then l.set arg (meetQ (l.getD arg ah0) st' sl') else l := ⟨_, rfl⟩
                have HL1 := hid hl1
                clear hl1
                go_upto_if 177 with fail
                go_cut [] from 71 to 204 (fun wx => Hid (BAt wx g (flatA l1) 139) ∧ Hid (∀ x ∈ l1, AhK x) ∧ Hid (BAt wx xi [.int .i64 op, .int .i64 arg] 136) ∧ Hid (Below w.heap.size w wx))
                case first => as_aux_lemma =>
                  cases hj : cj with
                  | false =>
                    have hl1 : l1 = l := by rw [HL1.out, hj]; rfl
                    subst hl1
                    go_wp2
                    go_meet
                    exact ⟨HG5, HOK, HXI5, HB5⟩
                  | true =>
                    have harg : k < arg ∧ arg ≤ n := by
                      have h1 := HR.out
                      have h2 := HCJ.out
                      rw [hj] at h2
                      have h3 : op = 9 ∨ op = 10 := by
                        have := h2.symm; unfold canJump at this; simpa using this
                      rw [HN.out]
                      rcases h3 with h3 | h3 <;> (rw [h3] at h1; simpa [refersQ] using h1)
                    have hargn := harg.2
                    clear harg
                    have hal : arg < l.length := by rw [HLL.out]; omega
                    obtain ⟨q1, q2, q3, q4, q5, q6, q7⟩ := HSP.out
                    obtain ⟨bk, bc, bs, bz, cl, S1, L1, HMP⟩ := meet_pack hal HOK.out q1 q2 q3 q4 q5 q6 q7
                    have HL1e : Hid (l1 = l.set arg (meetQ (l.getD arg ah0) st' sl')) := hid (by rw [HL1.out, hj]; rfl)
                    clear q1 q2 q3 q4 q5 q6 q7 hal hj
                    obtain ⟨k0, k1, k2, k3⟩ := HMP.out.at0 _ _ _ HG5.out
                    have hgl := HG5.out.lt
                    have hxl := HXI5.out.lt
                    have ab1 : arg < n + 1 := by omega
                    have ab2 : (arg : Int) < (n : Int) + 1 := by omega
                    have ab3 : (arg : Int) < ((n + 1 : Nat) : Int) := by omega
                    have hS0 : w5.drew.cell? ⟨xi, 1, none⟩ = some (.int .i64 arg) ∧ w5.drew.cell? ⟨g, arg * 4, none⟩ = some (.bool bk) ∧ w5.drew.cell? ⟨g, arg * 4 + 1, none⟩ = some (.bool bc) ∧ w5.drew.cell? ⟨g, arg * 4 + 2, none⟩ = some (.string bs) ∧ w5.drew.cell? ⟨g, arg * 4 + 3, none⟩ = some (.string bz) := ⟨y1, k0, k1, k2, k3⟩
                    have HSG : Hid (∀ w6 : World, Below w5.heap.size w5 w6 → (w6.cell? ⟨xi, 1, none⟩ = some (.int .i64 arg) ∧ w6.cell? ⟨g, arg * 4, none⟩ = some (.bool bk) ∧ w6.cell? ⟨g, arg * 4 + 1, none⟩ = some (.bool bc) ∧ w6.cell? ⟨g, arg * 4 + 2, none⟩ = some (.string bs) ∧ w6.cell? ⟨g, arg * 4 + 3, none⟩ = some (.string bz))) := hid (fun w6 hb => by
                      obtain ⟨k0, k1, k2, k3⟩ := HMP.out.at0 _ _ _ (HG5.out.below hb)
                      exact ⟨(HXI5.out.below hb).cell 1, k0, k1, k2, k3⟩)
                    go_wp2_with fail
                    clear k0 k1 k2 k3 y0 y1
                    refine beginT 12 (fun w' => w'.cell? ⟨xi, 1, none⟩ = some (.int .i64 arg) ∧ w'.cell? ⟨g, arg * 4, none⟩ = some (.bool bk) ∧ w'.cell? ⟨g, arg * 4 + 1, none⟩ = some (.bool bc) ∧ w'.cell? ⟨g, arg * 4 + 2, none⟩ = some (.string bs) ∧ w'.cell? ⟨g, arg * 4 + 3, none⟩ = some (.string bz)) (by kernel_rfl) (by exact hS0) (fun hHeld => ?_)
                    clear hS0
                    refine takeT (i := 0) (d := 178) (v := ?v0) rfl rfl (by kernel_rfl) (fun _ _ _ h => h) (Or.inl ⟨by rfl, ?hy0⟩) hHeld ?rs0
                    case hy0 => (intro w hSw; go_simp; try with_reducible rfl)
                    case rs0 =>
                    try simp only [List.setIfInBounds_toArray, List.set_cons_zero, List.set_cons_succ]
                    refine takeT (i := 1) (d := 179) (v := ?v1) rfl rfl (by kernel_rfl) (fun _ _ _ h => h) (Or.inl ⟨by rfl, ?hy1⟩) hHeld ?rs1
                    case hy1 => (intro w hSw; go_simp; try with_reducible rfl)
                    case rs1 =>
                    try simp only [List.setIfInBounds_toArray, List.set_cons_zero, List.set_cons_succ]
                    refine takeT (i := 2) (d := 180) (v := ?v2) rfl rfl (by kernel_rfl) (fun _ _ _ h => h) (Or.inl ⟨by rfl, ?hy2⟩) hHeld ?rs2
                    case hy2 => (intro w hSw; go_simp; try with_reducible rfl)
                    case rs2 =>
                    try simp only [List.setIfInBounds_toArray, List.set_cons_zero, List.set_cons_succ]
                    refine takeT (i := 3) (d := 181) (v := ?v3) rfl rfl (by kernel_rfl) (fun _ _ _ h => h) (Or.inl ⟨by rfl, ?hy3⟩) hHeld ?rs3
                    case hy3 => (intro w hSw; go_simp; try with_reducible rfl)
                    case rs3 =>
                    try simp only [List.setIfInBounds_toArray, List.set_cons_zero, List.set_cons_succ]
                    refine takeT (i := 4) (d := 182) (v := ?v4) rfl rfl (by kernel_rfl) (fun _ _ _ h => h) (Or.inl ⟨by rfl, ?hy4⟩) hHeld ?rs4
                    case hy4 => (intro w hSw; go_simp; try with_reducible rfl)
                    case rs4 =>
                    try simp only [List.setIfInBounds_toArray, List.set_cons_zero, List.set_cons_succ]
                    refine takeT (i := 5) (d := 183) (v := ?v5) rfl rfl (by kernel_rfl) (fun _ _ _ h => h) (Or.inl ⟨by rfl, ?hy5⟩) hHeld ?rs5
                    case hy5 => (intro w hSw; go_simp; try with_reducible rfl)
                    case rs5 =>
                    try simp only [List.setIfInBounds_toArray, List.set_cons_zero, List.set_cons_succ]
                    refine takeT (i := 6) (d := 184) (v := ?v6) rfl rfl (by kernel_rfl) (fun _ _ _ h => h) (Or.inl ⟨by rfl, ?hy6⟩) hHeld ?rs6
                    case hy6 => (intro w hSw; go_simp; try with_reducible rfl)
                    case rs6 =>
                    try simp only [List.setIfInBounds_toArray, List.set_cons_zero, List.set_cons_succ]
                    refine takeT (i := 7) (d := 185) (v := ?v7) rfl rfl (by kernel_rfl) (fun _ _ _ h => h) (Or.inl ⟨by rfl, ?hy7⟩) hHeld ?rs7
                    case hy7 => (intro w hSw; go_simp; try with_reducible rfl)
                    case rs7 =>
                    try simp only [List.setIfInBounds_toArray, List.set_cons_zero, List.set_cons_succ]
                    refine takeT (i := 8) (d := 186) (v := ?v8) rfl rfl (by kernel_rfl) (fun _ _ _ h => h) (Or.inl ⟨by rfl, ?hy8⟩) hHeld ?rs8
                    case hy8 => (intro w hSw; go_simp; try with_reducible rfl)
                    case rs8 =>
                    try simp only [List.setIfInBounds_toArray, List.set_cons_zero, List.set_cons_succ]
                    refine takeT (i := 9) (d := 187) (v := ?v9) rfl rfl (by kernel_rfl) (fun _ _ _ h => h) (Or.inl ⟨by rfl, ?hy9⟩) hHeld ?rs9
                    case hy9 => (intro w hSw; go_simp; try with_reducible rfl)
                    case rs9 =>
                    try simp only [List.setIfInBounds_toArray, List.set_cons_zero, List.set_cons_succ]
                    refine stepT (i := 10) (by kernel_rfl) rfl (fun K hK => ?_)
                    go_simp
                    refine (HMP.out.call _).mono ?_
                    rintro e w6 ⟨rfl, hb6⟩
                    have HB6 : Hid (Below w5.heap.size w5 w6) := hid ⟨hb6.os, hb6.tape, hb6.output, hb6.size, hb6.block⟩
                    clear hb6
                    go_simp
                    refine hK.out _ _ (HSG.out _ HB6.out) (fun hHeld => ?_)
                    clear hK K
                    try simp only [Act.put, List.setIfInBounds_toArray, List.set_cons_zero, List.set_cons_succ]
                    refine takeT (i := 11) (d := 189) (v := ?v11) rfl rfl (by kernel_rfl) (fun _ _ _ h => h) (Or.inl ⟨by rfl, ?hy11⟩) hHeld ?rs11
                    case hy11 => (intro w hSw; go_simp; try with_reducible rfl)
                    case rs11 =>
                    try simp only [List.setIfInBounds_toArray, List.set_cons_zero, List.set_cons_succ]
                    refine lastT (by kernel_rfl) (by kernel_rfl) rfl (by kernel_rfl) (fun K hK => ?_)
                    have HG6 := hid (HG5.out.below HB6.out)
                    obtain ⟨k0, k1, k2, k3⟩ := HMP.out.at0 _ _ _ HG6.out
                    have f0 := HG6.out.frozen (arg * 4)
                    have f1 := HG6.out.frozen (arg * 4 + 1)
                    have f2 := HG6.out.frozen (arg * 4 + 2)
                    have f3 := HG6.out.frozen (arg * 4 + 3)
                    have HG7 : Hid (BAt (set4o w6 g (arg * 4) (.bool true) (.bool cl) (.string S1) (.string L1)) g (flatA l1) 139) := hid (by rw [HL1e.out]; exact HMP.out.put _ _ _ HG6.out)
                    have HOK7 : Hid (∀ x ∈ l1, AhK x) := hid (by rw [HL1e.out]; exact HMP.out.ok)
                    have HXI7 : Hid (BAt (set4o w6 g (arg * 4) (.bool true) (.bool cl) (.string S1) (.string L1)) xi [.int .i64 op, .int .i64 arg] 136) := hid (set4o_other (HXI5.out.below HB6.out) hgi)
                    have HB7 : Hid (Below w.heap.size w (set4o w6 g (arg * 4) (.bool true) (.bool cl) (.string S1) (.string L1))) := hid (set4o_below (HB5.out.trans (HB6.out.mono HB5.out.size)) hgw _ _ _ _ _)
                    clear hHeld
                    go_simp
                    refine hK.out _ _ ?_
                    clear hK K k0 k1 k2 k3 f0 f1 f2 f3
                    go_wp2
                    go_meet
                    exact ⟨HG7, HOK7, HXI7, HB7⟩
                case rest =>
                obtain ⟨HG6, HOK6, HXI6, HB6⟩ := hcut
                rename World => w6
                clear y0 y1 HG5 HXI5 HB5
                have y0 := HXI6.out.cell 0
                simp only [List.getElem?_cons_zero] at y0
                have HLL1 : Hid (l1.length = n + 1) := hid (by rw [HL1.out]; split <;> simp [HLL.out])
                by_cases h9 : op = 9
                · as_aux_lemma =>
                  have n9 : ((op : Int) != 9) = false := by rw [bne_eq_false_iff_eq]; omega
                  have HPN2 : Hid (passQ c (k + 1) = .ok (l1, mo2)) := hid (by rw [HPN.out]; unfold goOn; simp only; rw [if_pos h9, HL1.out, HCJ.out])
                  clear h9
                  go_wp2
                  go_roundw
                  case rel => exact ⟨k + 1, mo2, l1, by omega, by go_num, rfl, hmo64, HLL1, HPN2, HOK6, HG6, HB6⟩
                  case measure => simp [intOf]; omega
                · as_aux_lemma =>
                  have n9 : ((op : Int) != 9) = true := by rw [bne_iff_ne]; omega
                  have hal : k + 1 < l1.length := by rw [HLL1.out]; omega
                  obtain ⟨q1, q2, q3, q4, q5, q6, q7⟩ := HSP.out
                  obtain ⟨bk, bc, bs, bz, cl, S1, L1, HMP⟩ := meet_pack hal HOK6.out q1 q2 q3 q4 q5 q6 q7
                  have HPN2 : Hid (passQ c (k + 1) = .ok (l1.set (k + 1) (meetQ (l1.getD (k + 1) ah0) st' sl'), mo2)) := hid (by rw [HPN.out]; unfold goOn; simp only; rw [if_neg h9, HL1.out, HCJ.out])
                  have HLL2 : Hid ((l1.set (k + 1) (meetQ (l1.getD (k + 1) ah0) st' sl')).length = n + 1) := hid (by rw [List.length_set, HLL1.out])
                  clear q1 q2 q3 q4 q5 q6 q7 hal h9
                  obtain ⟨k0, k1, k2, k3⟩ := HMP.out.at0 _ _ _ HG6.out
                  have hgl := HG6.out.lt
                  go_wp2_with fail
                  refine (HMP.out.call _).mono ?_
                  rintro e w7 ⟨rfl, hb7⟩
                  have HG7 := hid (HG6.out.below hb7)
                  have HB7 : Hid (Below w.heap.size w w7) := hid (HB6.out.trans (hb7.mono HB6.out.size))
                  clear hb7 k0 k1 k2 k3 y0 hgl
                  obtain ⟨k0, k1, k2, k3⟩ := HMP.out.at0 _ _ _ HG7.out
                  have f0 := HG7.out.frozen ((k + 1) * 4)
                  have f1 := HG7.out.frozen ((k + 1) * 4 + 1)
                  have f2 := HG7.out.frozen ((k + 1) * 4 + 2)
                  have f3 := HG7.out.frozen ((k + 1) * 4 + 3)
                  have hgl := HG7.out.lt
                  have HG8 := hid (HMP.out.put _ _ _ HG7.out)
                  have HOK8 := hid HMP.out.ok
                  have HB8 : Hid (Below w.heap.size w (set4o w7 g ((k + 1) * 4) (.bool true) (.bool cl) (.string S1) (.string L1))) := hid (set4o_below HB7.out hgw _ _ _ _ _)
                  go_wp2
                  go_roundw
                  case rel => exact ⟨k + 1, mo2, _, by omega, by go_num, rfl, hmo64, HLL2, HPN2, HOK8, HG8, HB8⟩
                  case measure => simp [intOf]; omega
        · as_aux_lemma =>
          obtain rfl : n = k := by omega
          have hkl : n < l.length := by rw [HLL.out]; omega
          obtain ⟨a, ha⟩ : ∃ a, a = l.getD n ah0 := ⟨_, rfl⟩
          have HAK : Hid (AhK a) := hid (by rw [ha]; exact getD_k HOK.out n)
          have c0 : wr.cell? ⟨g, n * 4, none⟩ = some (.bool a.known) := by rw [HGr.out.cell, ha]; exact flatA_get l n 0 hkl (by decide)
          have c1 : wr.cell? ⟨g, n * 4 + 1, none⟩ = some (.bool a.clash) := by rw [HGr.out.cell, ha]; exact flatA_get l n 1 hkl (by decide)
          have c2 : wr.cell? ⟨g, n * 4 + 2, none⟩ = some (.string (stB a.stack)) := by rw [HGr.out.cell, ha]; exact flatA_get l n 2 hkl (by decide)
          have c3 : wr.cell? ⟨g, n * 4 + 3, none⟩ = some (.string (if a.known then slB a.slots else ⟨#[]⟩)) := by rw [HGr.out.cell, ha]; exact flatA_get l n 3 hkl (by decide)
          have HYES : Hid (isAns a = true → verV (verifyQ c) = (mo, sn, 0, 0)) := hid (fun h => HVO.out mo (by
            unfold highQ; rw [← HN.out, HPQ.out]; simp only; rw [← ha, h]; rfl))
          have HNO : Hid (isAns a = false → verV (verifyQ c) = (0, 0, 12, n)) := hid (fun h => HVE.out n (by
            unfold highQ; rw [← HN.out, HPQ.out]; simp only; rw [← ha, h]; rfl))
          have HSV : Hid (isAns a = (!a.clash && (decide (stB a.stack = ⟨#[115]⟩) || decide (stB a.stack = ⟨#[118]⟩)))) := hid (by
            unfold isAns
            have h1 : decide (stB a.stack = ⟨#[115]⟩) = decide (a.stack = [1]) := decide_eq_decide.2 (stB_inj (y := [1]) HAK.out.st (by decide))
            have h2 : decide (stB a.stack = ⟨#[118]⟩) = decide (a.stack = [2]) := decide_eq_decide.2 (stB_inj (y := [2]) HAK.out.st (by decide))
            rw [h1, h2])
          clear hkl HPQ ha
          generalize stB a.stack = S at *
          generalize (if a.known then slB a.slots else ⟨#[]⟩) = L at *
          generalize a.known = kn at *
          generalize hac : a.clash = acl at *
          obtain ⟨ans, hans⟩ : ∃ ans, isAns a = ans := ⟨_, rfl⟩
          rw [hans] at HYES HNO HSV
          clear hans hac
          go_upto_region 39 with fail
          refine wp_gen fun W hW => ?_
          have hbW : Below wr.heap.size wr W := by rw [hW]; exact (Below.refl _ _).alloc (Nat.le_refl _) _
          have HXA : Hid (BAt W wr.heap.size [.bool kn, .bool acl, .string S, .string L] 139) := hid (by rw [hW]; exact (show BAt _ _ _ _ from Go.Deep.blk_alloc_new wr _))
          have HBW : Hid (Below w.heap.size w W) := hid (HBr.out.trans (hbW.mono HBr.out.size))
          have HRCW := hid (HRC.out.below hbW)
          clear hW hbW c0 c1 c2 c3 d3 HRC HGr HBr hcbl hgl
          generalize wr.heap.size = xa at *
          have x1 := HXA.out.cell 1
          have x2 := HXA.out.cell 2
          have d3 := HRCW.out.box.cell 3
          simp only [List.getElem?_cons_zero, List.getElem?_cons_succ] at x1 x2 d3
          rw [← HN.out] at d3
          have hcbl := HRCW.out.box.lt
          cases hac : acl with
          | true =>
            rw [hac] at x1
            have hA : ans = false := by rw [HSV.out, hac]; rfl
            have HV := hid (HNO.out hA)
            go_wp2
            go_quiet (fail)
            go_wp2
            (try simp only [Exit.inBlock, Exit.then])
            refine bodyPost_ret (results_tmp4V rfl _ _ _) rfl ?_
            exact ⟨0, 0, 12, n, rfl, HV, (by have := HBW.out; first | exact this | exact this.drew | exact below_drewN' this _)⟩
          | false =>
            rw [hac] at x1
            by_cases hs : S = ⟨#[115]⟩
            · have hA : ans = true := by rw [HSV.out, hac, decide_eq_true hs]; rfl
              have HV := hid (HYES.out hA)
              subst hs
              go_wp2
              (try simp only [Exit.inBlock, Exit.then])
              refine bodyPost_ret (results_tmp4V rfl _ _ _) rfl ?_
              exact ⟨mo, sn, 0, 0, rfl, HV, HBW.out⟩
            · have s1 : (S.toList == [115]) = false := by
                have h1 := (bl_beqV S ⟨#[115]⟩).trans (decide_eq_false hs)
                rw [toList_bl ⟨#[115]⟩] at h1
                exact h1
              by_cases hv : S = ⟨#[118]⟩
              · have hA : ans = true := by rw [HSV.out, hac, decide_eq_true hv, Bool.or_true]; rfl
                have HV := hid (HYES.out hA)
                subst hv
                clear s1
                go_wp2
                (try simp only [Exit.inBlock, Exit.then])
                refine bodyPost_ret (results_tmp4V rfl _ _ _) rfl ?_
                exact ⟨mo, sn, 0, 0, rfl, HV, HBW.out⟩
              · have s2 : (S.toList == [118]) = false := by
                  have h1 := (bl_beqV S ⟨#[118]⟩).trans (decide_eq_false hv)
                  rw [toList_bl ⟨#[118]⟩] at h1
                  exact h1
                have hA : ans = false := by rw [HSV.out, hac, decide_eq_false hs, decide_eq_false hv]; rfl
                have HV := hid (HNO.out hA)
                clear hs hv
                go_wp2
                go_quiet (fail)
                go_wp2
                (try simp only [Exit.inBlock, Exit.then])
                refine bodyPost_ret (results_tmp4V rfl _ _ _) rfl ?_
                exact ⟨0, 0, 12, n, rfl, HV, (by have := HBW.out; first | exact this | exact this.drew | exact below_drewN' this _)⟩
end Go.Proofs.YtkodhpilkaihjaaGreatDoor

/- Parts. -/
import Derived.Test.YtpbemaaghbbocaaGreatDoorA23
import Derived.Test.YtpbemaaghbbocaaGreatDoorA25
namespace Go.Proofs.YtpbemaaghbbocaaGreatDoor
open Go.RowKit LS
theorem twith_x (l : List Int) (x : Int) (hl : l.length ≤ 10000) (hx : ∀ y ∈ l, vOk y) (hv : vOk x) (t0 t1 t2 t3 t4 t5 : Int) (ht : talC l = [.int .i64 t0, .int .i64 t1, .int .i64 t2, .int .i64 t3, .int .i64 t4, .int .i64 t5]) (w : World) : Calls Tryz.prog 173 #[.agg #[.int .i64 t0, .int .i64 t1, .int .i64 t2, .int .i64 t3, .int .i64 t4, .int .i64 t5], .int .i64 x] w fun e w' => ∃ r0 r1 r2 r3 r4 r5 : Int, e = .returned (.agg #[.int .i64 r0, .int .i64 r1, .int .i64 r2, .int .i64 r3, .int .i64 r4, .int .i64 r5]) ∧ Hid (talC (l ++ [x]) = [.int .i64 r0, .int .i64 r1, .int .i64 r2, .int .i64 r3, .int .i64 r4, .int .i64 r5]) ∧ Below w.heap.size w w' := by
  have h := twith_any l x hl hx hv w
  unfold talV at h
  rw [ht] at h
  refine h.mono ?_
  rintro e w' ⟨rfl, hb⟩
  exact ⟨_, _, _, _, _, _, rfl, hid rfl, hb⟩
theorem ttell_x (op : Nat) (hop : op ≤ 4) (l : List Int) (hl : l.length ≤ 10000) (hx : ∀ y ∈ l, vOk y) (t0 t1 t2 t3 t4 t5 : Int) (ht : talC l = [.int .i64 t0, .int .i64 t1, .int .i64 t2, .int .i64 t3, .int .i64 t4, .int .i64 t5]) (w : World) : Calls Tryz.prog 174 #[.agg #[.int .i64 t0, .int .i64 t1, .int .i64 t2, .int .i64 t3, .int .i64 t4, .int .i64 t5], .int .i64 op] w fun e w' => e = .returned (.int .i64 (cutV (toldV op l))) ∧ Below w.heap.size w w' := by
  have h := ttell_any op hop l hl hx w
  unfold talV at h
  rw [ht] at h
  exact h
def set6 (w : World) (a : Nat) (x0 x1 x2 x3 x4 x5 : Value) : World := (((((w.setCell ⟨a, 0, none⟩ x0).setCell ⟨a, 1, none⟩ x1).setCell ⟨a, 2, none⟩ x2).setCell ⟨a, 3, none⟩ x3).setCell ⟨a, 4, none⟩ x4).setCell ⟨a, 5, none⟩ x5
theorem set6_at {w : World} {a : Nat} {p0 p1 p2 p3 p4 p5 x0 x1 x2 x3 x4 x5 : Value} {t : TypeId} (h : BAt w a [p0, p1, p2, p3, p4, p5] t) : BAt (set6 w a x0 x1 x2 x3 x4 x5) a [x0, x1, x2, x3, x4, x5] t := by
  unfold BAt at h
  unfold BAt set6
  simp only [World.setCell, Array.getElem?_modify, h, if_true, Option.map_some]; rfl
theorem set6_below {w : World} {B a : Nat} (hB : B ≤ a) (x0 x1 x2 x3 x4 x5 : Value) : Below B w (set6 w a x0 x1 x2 x3 x4 x5) := by
  unfold set6
  exact ((((((Below.refl B w).setCell (p := ⟨a, 0, none⟩) hB _).setCell (p := ⟨a, 1, none⟩) hB _).setCell (p := ⟨a, 2, none⟩) hB _).setCell (p := ⟨a, 3, none⟩) hB _).setCell (p := ⟨a, 4, none⟩) hB _).setCell (p := ⟨a, 5, none⟩) hB _
theorem set6_other {w : World} {a b : Nat} {c : List Value} {t : TypeId} (h : BAt w b c t) (hb : b ≠ a) (x0 x1 x2 x3 x4 x5 : Value) : BAt (set6 w a x0 x1 x2 x3 x4 x5) b c t := by
  unfold set6
  exact (((((h.other (p := ⟨a, 0, none⟩) hb _).other (p := ⟨a, 1, none⟩) hb _).other (p := ⟨a, 2, none⟩) hb _).other (p := ⟨a, 3, none⟩) hb _).other (p := ⟨a, 4, none⟩) hb _).other (p := ⟨a, 5, none⟩) hb _
theorem talC_six (l : List Int) : ∃ t0 t1 t2 t3 t4 t5 : Int, talC l = [.int .i64 t0, .int .i64 t1, .int .i64 t2, .int .i64 t3, .int .i64 t4, .int .i64 t5] := ⟨_, _, _, _, _, _, rfl⟩
set_option linter.unusedSimpArgs false in
set_option maxRecDepth 100000 in
set_option maxHeartbeats 8000000 in
theorem pover_any (op : Nat) (hop : op ≤ 4) (rv : Value) (rs : List Str) (st : List Ser) (nd : Nd) (n t : Int) (w : World) (hr : RngV w rv rs) (hm : rs.map Str.pr = rangeV st nd n t) (hds : Dst st) (hrl : rs.length ≤ 30) :
    Calls Tryz.prog 133 #[.int .i64 op, rv] w fun e w' => ∃ v is, e = .returned v ∧ Hid (VecV w' v (windowedV st nd (some op) n t) is) ∧ Below w.heap.size w w' := by
  obtain ⟨i0, hi, hz0, hz1, hz2⟩ := info_parts Tryz.infoItem
  obtain ⟨ra, rcp, rfl⟩ := own_shape hr.row
  have HR : Hid (RngV w (.slice ra rs.length rcp) rs) := hr
  have HM : Hid (rs.map Str.pr = rangeV st nd n t ∧ Dst st) := ⟨hm, hds⟩
  clear hr hm hds
  go_enter Tryz.func133, Tryz.ntmps133
  go_wp2_with (at_make; refine wpList_make_own _ rfl _ _ 252 rfl w.heap.size 255 i0 _ 3 Tryz.underlying252 hi hz0 hz1 _ _ _ rs.length rfl rfl rfl ?b2 ?b3 ?b4 ?_)
  case b2 => rw [hz2]; omega
  case b3 => unfold maxLen; omega
  case b4 => exact Nat.le_refl _
  intro w1 hown1 hgrow1
  have HB1 : Hid (Below w.heap.size w w1) := hid ((Below.refl _ _).grown hgrow1 (Nat.le_refl _) (fun q hq => by cases hq))
  have HR1 := hid (HR.out.below HB1.out)
  clear hgrow1
  go_wp2
  go_loopw [5, 16] (fun v i wr => ∃ k : Nat, k ≤ rs.length ∧ i = .int .i64 k ∧ wr.ownsRow w.heap.size 255 3 v k (encs (itms (some op) (rs.take k))) ∧ Hid (RngV wr (.slice ra rs.length rcp) rs) ∧ Hid (Below w.heap.size w wr))
    (fun _ i _ => rs.length - (intOf i).toNat)
  case atStart => exact ⟨0, Nat.zero_le _, rfl, hown1, HR1, HB1⟩
  case round =>
    rename World => wo
    obtain ⟨k, hk, rfl, hown, HRr, HB⟩ := hrel
    have hwr := HB.out.size
    by_cases hlt : k < rs.length
    · have hg : ∃ g, ra = some ⟨g, 0, none⟩ := by
        obtain ⟨g, cp', h⟩ := own_some HRr.out.row (by omega)
        injection h with h1; exact ⟨g, h1⟩
      obtain ⟨g, rfl⟩ := hg
      obtain ⟨f1, f2, f3⟩ := encR_get rs k hlt
      have d1 := own_cell HRr.out.row _ _ f1
      have d2 := own_cell HRr.out.row _ _ f2
      have d3 := own_cell HRr.out.row _ _ f3
      have HSO : Hid (StrOk wo rs[k]) := hid (HRr.out.ok _ (List.getElem_mem hlt))
      have HTK : Hid (itms (some op) (rs.take (k + 1)) = itms (some op) (rs.take k) ++ [(rs[k]).itm (oneV (some op) (rs[k]).sams)]) := hid (by
        rw [List.take_succ_eq_append_getElem hlt]; unfold itms; rw [List.map_append]; rfl)
      generalize rs[k] = s at *
      clear f1 f2 f3
      have hkz : (k : Int) < (rs.length : Int) := by omega
      obtain ⟨sg, soff, hsa, hsam⟩ := HSO.out.sam.resolve_left HSO.out.ne
      have hsl := HSO.out.len
      rw [hsa] at d3
      have hsgl : sg < wo.heap.size := by
        have hj : 0 < s.sams.length := List.length_pos_iff.2 HSO.out.ne
        exact World.block_lt_of_cell? _ _ (hsam.cells 0 hj).1
      have HSM : Hid (SamAt wo sg soff s.sams) := hsam
      clear hsam hsa
      obtain ⟨sn, hsn⟩ : ∃ sn, s.sams.length = sn := ⟨_, rfl⟩
      have HSN : Hid (s.sams.length = sn) := hsn
      rw [hsn] at d3 hsl
      clear hsn
      go_wp2
      go_loopw [23] (fun i wi => ∃ j : Nat, j ≤ sn ∧ i = .int .i64 j ∧ Hid (Below wo.heap.size wo wi) ∧ Hid (BAt wi wo.heap.size [.slice s.a s.n s.c, .string s.tx, .slice (some ⟨sg, soff, none⟩) sn s.sc] 311) ∧ Hid (BAt wi (wo.heap.size + 1) (talC ((s.sams.take j).map (·.2))) 303))
        (fun i _ => sn - (intOf i).toNat)
      case atStart =>
        refine ⟨0, Nat.zero_le _, rfl, hid (((Below.refl _ _).alloc (Nat.le_refl _) _).alloc (by simp) _), hid ?_, hid ?_⟩
        · exact (((Below.refl _ _).alloc (Nat.le_refl _) _).block _ (by simp)).trans (Go.Deep.blk_alloc_new _ _)
        · have := Go.Deep.blk_alloc_new (wo.alloc (.cells #[.slice s.a s.n s.c, .string s.tx, .slice (some ⟨sg, soff, none⟩) sn s.sc] 311)) (.cells #[.int .i64 0, .int .i64 0, .int .i64 0, .int .i64 0, .int .i64 0, .int .i64 0] 303)
          rw [Go.Deep.nblk_alloc] at this
          exact this
      case round =>
        obtain ⟨j, hj, rfl, HBi, HX, HT⟩ := hrel
        have hwi := HBi.out.size
        have hwx := HX.out.lt
        have hwt := HT.out.lt
        by_cases hjl : j < sn
        · have hjs : j < s.sams.length := by rw [HSN.out]; exact hjl
          obtain ⟨m1, m2⟩ := HSM.out.cells j hjs
          have m1' := (KeepsC.below HBi.out).cell m1
          have m2' := (KeepsC.below HBi.out).cell m2
          have HOKX : Hid (vOk (s.sams[j]).2) := hid (HSO.out.ok _ (List.getElem_mem hjs)).2.2
          have HTJ : Hid ((s.sams.take (j + 1)).map (·.2) = (s.sams.take j).map (·.2) ++ [(s.sams[j]).2]) := hid (by rw [List.take_succ_eq_append_getElem hjs, List.map_append]; rfl)
          have HLL : Hid (((s.sams.take j).map (·.2)).length ≤ 10000 ∧ ∀ y ∈ (s.sams.take j).map (·.2), vOk y) := hid ⟨by rw [List.length_map, List.length_take]; omega, fun y hy => by
            obtain ⟨z, hz, rfl⟩ := List.mem_map.1 hy
            exact (HSO.out.ok z (List.mem_of_mem_take hz)).2.2⟩
          generalize (s.sams[j]).1 = x1 at *
          generalize (s.sams[j]).2 = x2 at *
          clear m1 m2
          obtain ⟨t0, t1, t2, t3, t4, t5, htal⟩ := talC_six ((s.sams.take j).map (·.2))
          rw [htal] at HT
          have HTL : Hid (talC ((s.sams.take j).map (·.2)) = [.int .i64 t0, .int .i64 t1, .int .i64 t2, .int .i64 t3, .int .i64 t4, .int .i64 t5]) := htal
          clear htal
          have c0 := HT.out.cell 0
          have c1 := HT.out.cell 1
          have c2 := HT.out.cell 2
          have c3 := HT.out.cell 3
          have c4 := HT.out.cell 4
          have c5 := HT.out.cell 5
          simp only [List.getElem?_cons_zero, List.getElem?_cons_succ] at c0 c1 c2 c3 c4 c5
          have hjz : (j : Int) < (sn : Int) := by omega
          go_wp2_with fail
          refine calls_gen fun W hW => ?_
          have hbW : Below wr.heap.size wr W := by rw [hW]; exact (Below.refl _ _).alloc (Nat.le_refl _) _
          have HTW := hid (HT.out.below hbW)
          have HXW := hid (HX.out.below hbW)
          have HBW : Hid (Below wo.heap.size wo W) := hid (HBi.out.trans (hbW.mono hwi))
          clear hW hbW c0 c1 c2 c3 c4 c5 HT HX HBi m1' m2'
          refine (twith_x _ x2 HLL.out.1 HLL.out.2 HOKX.out t0 t1 t2 t3 t4 t5 HTL.out _).mono ?_
          rintro e w5 ⟨r0, r1, r2, r3, r4, r5, rfl, HRT, hb5⟩
          have HT5 := hid (HTW.out.below hb5)
          have HX5 := hid (HXW.out.below hb5)
          have HB5 : Hid (Below wo.heap.size wo w5) := hid (HBW.out.trans (hb5.mono HBW.out.size))
          clear hb5 HTW HXW HBW HTL HLL HOKX
          have z0 := HT5.out.frozen 0
          have z1 := HT5.out.frozen 1
          have z2 := HT5.out.frozen 2
          have z3 := HT5.out.frozen 3
          have z4 := HT5.out.frozen 4
          have z5 := HT5.out.frozen 5
          have c0 := HT5.out.cell 0
          have c1 := HT5.out.cell 1
          have c2 := HT5.out.cell 2
          have c3 := HT5.out.cell 3
          have c4 := HT5.out.cell 4
          have c5 := HT5.out.cell 5
          simp only [List.getElem?_cons_zero, List.getElem?_cons_succ] at c0 c1 c2 c3 c4 c5
          go_wp2
          go_roundw
          case rel =>
            refine ⟨j + 1, by omega, by go_num, hid (HB5.out.trans (set6_below (by omega) _ _ _ _ _ _)), hid (set6_other HX5.out (by omega) _ _ _ _ _ _), hid ?_⟩
            rw [HTJ.out, HRT.out]
            exact set6_at HT5.out
          case measure => simp [intOf]; omega
        · obtain rfl : j = sn := by omega
          have htake : s.sams.take j = s.sams := by rw [← HSN.out, List.take_length]
          rw [htake] at HT
          obtain ⟨t0, t1, t2, t3, t4, t5, htal⟩ := talC_six (s.sams.map (·.2))
          rw [htal] at HT
          have HTL : Hid (talC (s.sams.map (·.2)) = [.int .i64 t0, .int .i64 t1, .int .i64 t2, .int .i64 t3, .int .i64 t4, .int .i64 t5]) := htal
          have HLL : Hid ((s.sams.map (·.2)).length ≤ 10000 ∧ ∀ y ∈ s.sams.map (·.2), vOk y) := hid ⟨by rw [List.length_map, HSN.out]; omega, fun y hy => by
            obtain ⟨z, hz, rfl⟩ := List.mem_map.1 hy
            exact (HSO.out.ok z hz).2.2⟩
          have HONE : Hid (oneV (some op) s.sams = cutV (toldV op (s.sams.map (·.2)))) := hid rfl
          generalize oneV (some op) s.sams = one at *
          clear htal htake
          have c0 := HT.out.cell 0
          have c1 := HT.out.cell 1
          have c2 := HT.out.cell 2
          have c3 := HT.out.cell 3
          have c4 := HT.out.cell 4
          have c5 := HT.out.cell 5
          have y0 := HX.out.cell 0
          have y1 := HX.out.cell 1
          simp only [List.getElem?_cons_zero, List.getElem?_cons_succ] at c0 c1 c2 c3 c4 c5 y0 y1
          have hownI := own_below hown HBi.out
          have HRI := hid (HRr.out.below HBi.out)
          have HBI : Hid (Below w.heap.size w wr) := hid (HB.out.trans (HBi.out.mono hwr))
          clear hown HRr HB HSM d1 d2 d3
          have hwI := HBI.out.size
          go_upto_region 11 with fail
          have HSB : Hid (∀ w', BAt w' wo.heap.size [.slice s.a s.n s.c, .string s.tx, .slice (some ⟨sg, soff, none⟩) j s.sc] 311 → BAt w' (wo.heap.size + 1) [.int .i64 t0, .int .i64 t1, .int .i64 t2, .int .i64 t3, .int .i64 t4, .int .i64 t5] 303 → w'.cell? ⟨wo.heap.size, 0, none⟩ = some (.slice s.a s.n s.c) ∧ w'.cell? ⟨wo.heap.size, 1, none⟩ = some (.string s.tx) ∧ w'.cell? ⟨wo.heap.size + 1, 0, none⟩ = some (.int .i64 t0) ∧ w'.cell? ⟨wo.heap.size + 1, 1, none⟩ = some (.int .i64 t1) ∧ w'.cell? ⟨wo.heap.size + 1, 2, none⟩ = some (.int .i64 t2) ∧ w'.cell? ⟨wo.heap.size + 1, 3, none⟩ = some (.int .i64 t3) ∧ w'.cell? ⟨wo.heap.size + 1, 4, none⟩ = some (.int .i64 t4) ∧ w'.cell? ⟨wo.heap.size + 1, 5, none⟩ = some (.int .i64 t5)) := hid (fun w' h1 h2 => ⟨h1.cell 0, h1.cell 1, h2.cell 0, h2.cell 1, h2.cell 2, h2.cell 3, h2.cell 4, h2.cell 5⟩)
          refine beginT 9 (fun w' => w'.cell? ⟨wo.heap.size, 0, none⟩ = some (.slice s.a s.n s.c) ∧ w'.cell? ⟨wo.heap.size, 1, none⟩ = some (.string s.tx) ∧ w'.cell? ⟨wo.heap.size + 1, 0, none⟩ = some (.int .i64 t0) ∧ w'.cell? ⟨wo.heap.size + 1, 1, none⟩ = some (.int .i64 t1) ∧ w'.cell? ⟨wo.heap.size + 1, 2, none⟩ = some (.int .i64 t2) ∧ w'.cell? ⟨wo.heap.size + 1, 3, none⟩ = some (.int .i64 t3) ∧ w'.cell? ⟨wo.heap.size + 1, 4, none⟩ = some (.int .i64 t4) ∧ w'.cell? ⟨wo.heap.size + 1, 5, none⟩ = some (.int .i64 t5)) (by kernel_rfl) (by exact HSB.out _ HX.out HT.out) (fun hHeld => ?_)
          clear c0 c1 c2 c3 c4 c5 y0 y1
          refine takeT (i := 0) (d := 32) (v := ?v0) rfl rfl (by kernel_rfl) (fun _ _ _ h => h) (Or.inl ⟨by rfl, ?hy0⟩) hHeld ?rs0
          case hy0 => (intro w hSw; go_simp; try with_reducible rfl)
          case rs0 =>
          try simp only [Act.put, List.setIfInBounds_toArray, List.set_cons_zero, List.set_cons_succ]
          refine takeT (i := 1) (d := 33) (v := ?v1) rfl rfl (by kernel_rfl) (fun _ _ _ h => h) (Or.inl ⟨by rfl, ?hy1⟩) hHeld ?rs1
          case hy1 => (intro w hSw; go_simp; try with_reducible rfl)
          case rs1 =>
          try simp only [Act.put, List.setIfInBounds_toArray, List.set_cons_zero, List.set_cons_succ]
          refine takeT (i := 2) (d := 34) (v := ?v2) rfl rfl (by kernel_rfl) (fun _ _ _ h => h) (Or.inl ⟨by rfl, ?hy2⟩) hHeld ?rs2
          case hy2 => (intro w hSw; go_simp; try with_reducible rfl)
          case rs2 =>
          try simp only [Act.put, List.setIfInBounds_toArray, List.set_cons_zero, List.set_cons_succ]
          refine takeT (i := 3) (d := 35) (v := ?v3) rfl rfl (by kernel_rfl) (fun _ _ _ h => h) (Or.inl ⟨by rfl, ?hy3⟩) hHeld ?rs3
          case hy3 => (intro w hSw; go_simp; try with_reducible rfl)
          case rs3 =>
          try simp only [Act.put, List.setIfInBounds_toArray, List.set_cons_zero, List.set_cons_succ]
          refine takeT (i := 4) (d := 36) (v := ?v4) rfl rfl (by kernel_rfl) (fun _ _ _ h => h) (Or.inl ⟨by rfl, ?hy4⟩) hHeld ?rs4
          case hy4 => (intro w hSw; go_simp; try with_reducible rfl)
          case rs4 =>
          try simp only [Act.put, List.setIfInBounds_toArray, List.set_cons_zero, List.set_cons_succ]
          refine stepT (i := 5) (by kernel_rfl) rfl (fun K hK => ?_)
          go_simp
          refine (ttell_x op hop _ HLL.out.1 HLL.out.2 t0 t1 t2 t3 t4 t5 HTL.out _).mono ?_
          rintro e w5 ⟨rfl, hb5⟩
          have HB5 : Hid (Below wr.heap.size wr w5) := hid ⟨hb5.os, hb5.tape, hb5.output, hb5.size, hb5.block⟩
          have HT5 := hid (HT.out.below HB5.out)
          have HX5 := hid (HX.out.below HB5.out)
          clear hb5
          rw [← HONE.out]
          go_simp
          refine hK.out _ _ (HSB.out _ HX5.out HT5.out) (fun hHeld => ?_)
          clear hK K
          try simp only [Act.put, List.setIfInBounds_toArray, List.set_cons_zero, List.set_cons_succ]
          refine takeT (i := 6) (d := 38) (v := ?v6) rfl rfl (by kernel_rfl) (fun _ _ _ h => h) (Or.inl ⟨by rfl, ?hy6⟩) hHeld ?rs6
          case hy6 => (intro w hSw; go_simp; try with_reducible rfl)
          case rs6 =>
          try simp only [Act.put, List.setIfInBounds_toArray, List.set_cons_zero, List.set_cons_succ]
          refine stepT (i := 7) (by kernel_rfl) rfl (fun K hK => ?_)
          have HBA : Hid (∀ o, Below w5.heap.size w5 (w5.alloc o)) := hid (fun o => (Below.refl _ _).alloc (Nat.le_refl _) _)
          go_simp
          refine hK.out _ _ (HSB.out _ (HX5.out.below (HBA.out _)) (HT5.out.below (HBA.out _))) (fun hHeld => ?_)
          clear hK K
          try simp only [Act.put, List.setIfInBounds_toArray, List.set_cons_zero, List.set_cons_succ]
          refine stepT (i := 8) (by kernel_rfl) rfl (fun K hK => ?_)
          have hown5 := own_below hownI HB5.out
          have hw5 := HB5.out.size
          refine step_append_own rfl (.tmp 32) (.tmp 39) 252 rfl w.heap.size 255 i0 _ 3 48 Tryz.underlying252 hi hz0 hz1 hz2 rfl (by decide) _ k (encs (itms (some op) (rs.take k))) (by simp [Act.eval]) (hown5.alloc _) ⟨w5.heap.size, 0, none⟩ 1 1 [.slice s.a s.n s.c, .string s.tx, .int .i64 one] (by simp [Act.eval]) rfl ?h2 ?h3 ?h4 ?h5 ?h6 ?_
          case h2 => exact cells_new rfl
          case h3 => intro u hu; simp at hu; rcases hu with rfl | rfl | rfl <;> rfl
          case h4 => unfold maxLen; omega
          case h5 => omega
          case h6 => simp; omega
          intro v6 w6 hown6 hgrow6 _
          have hkb : KeepsB 255 wr w6 := (KeepsB.below (HB5.out.trans ((HBA.out _).mono hw5)) _).trans (KeepsB.grown hgrow6 (hown5.alloc _))
          have HB6 : Hid (Below w.heap.size w w6) := hid ((HBI.out.trans ((HB5.out.trans ((HBA.out _).mono hw5)).mono hwI)).grown hgrow6 (by simp; omega) (fun q hq => (hown5.lt q hq).1))
          have hown7 : w6.ownsRow w.heap.size 255 3 v6 (k + 1) (encs (itms (some op) (rs.take (k + 1)))) := by
            rw [HTK.out, encs_append]; exact hown6
          have HR6 := hid (HRI.out.kb hkb (by decide) (by decide) (by decide))
          refine hK.out _ _ (HSB.out _ (hkb _ _ _ _ (by decide) HX.out) (hkb _ _ _ _ (by decide) HT.out)) (fun hHeld => ?_)
          clear hK K
          try simp only [Act.put, List.setIfInBounds_toArray, List.set_cons_zero, List.set_cons_succ]
          refine lastT (by kernel_rfl) (by kernel_rfl) rfl (by kernel_rfl) (fun K hK => ?_)
          go_simp
          refine hK.out _ _ ?_
          clear hK K hgrow6 hown6 hown5 hownI hkb
          go_wp2
          go_roundw
          case rel => exact ⟨k + 1, by omega, by go_num, hown7, HR6, HB6⟩
          case measure => simp [intOf]; omega
    · obtain rfl : k = rs.length := by omega
      rw [List.take_length] at hown
      have HEL : Hid ((itms (some op) rs).map Itm.el = pickedV st nd (some op) n t) := hid (itms_el (some op) rs _ nd n t HM.out.1)
      have hlen : (itms (some op) rs).length = rs.length := by unfold itms; rw [List.length_map]
      rw [← hlen] at hown
      have HSI := hid (sortItems_any w.heap.size _ (itms (some op) rs) wo hown hwr (by omega) (fun i hi => by
        unfold itms at hi
        obtain ⟨s, hs, rfl⟩ := List.mem_map.1 hi
        exact itm_ok (HRr.out.ok s hs) (oneV_ok (some op) _ (HRr.out.ok s hs).ok)) (by rw [HEL.out]; exact picked_dst HM.out.2 nd (some op) n t))
      rw [HEL.out] at HSI
      clear hown
      go_wp2_with fail
      refine HSI.out.mono ?_
      rintro e w5 ⟨rfl, is', H5⟩
      have HB5 : Hid (Below w.heap.size w w5) := hid (HB.out.trans H5.out.2)
      have HV5 : Hid (VecV w5 _ (windowedV st nd (some op) n t) is') := hid (by rw [windowedV_picked]; exact H5.out.1)
      go_wp2
      go_ret
      exact ⟨_, is', rfl, HV5, HB5.out⟩
def chg (f : Int → Int) (l : List Itm) : List Itm := l.map fun i => { i with v := f i.v }
theorem chg_el (f : Int → Int) (l : List Itm) : (chg f l).map Itm.el = (l.map Itm.el).map fun e => (e.1, f e.2) := by
  unfold chg; rw [List.map_map, List.map_map]; rfl
theorem VecV.kb {t : TypeId} {w w' : World} {v : Value} {l : List El} {is : List Itm} (h : VecV w v l is) (hk : KeepsB t w w') (h0 : 255 ≠ t) (h1 : 320 ≠ t) : VecV w' v l is := ⟨hk.own h.row h0, h.els, fun i hi => (h.ok i hi).kb hk h1, h.len⟩
set_option linter.unusedSimpArgs false in
set_option maxRecDepth 100000 in
set_option maxHeartbeats 8000000 in
theorem each_any (v : Value) (l : List El) (is : List Itm) (g : Nat) (cb : Array Value) (f : Int → Int) (w : World) (hv : VecV w v l is) (eg : ∀ args w, (callFunc g args).run Tryz.prog w = .ok (.enter g args) w)
    (hf : ∀ W, Below w.heap.size w W → ∀ x, vOk x → Calls Tryz.prog g (#[.int .i64 x] ++ cb) W fun e w' => e = .returned (.int .i64 (f x)) ∧ Below W.heap.size W w') (hfo : ∀ x, vOk x → vOk (f x)) :
    Calls Tryz.prog 163 #[v, .func (.func g) #[] cb] w fun e w' => ∃ v' is', e = .returned v' ∧ Hid (VecV w' v' (l.map fun e => (e.1, f e.2)) is') ∧ Below w.heap.size w w' := by
  obtain ⟨i0, hi, hz0, hz1, hz2⟩ := info_parts Tryz.infoItem
  obtain ⟨ra, rcp, rfl⟩ := own_shape hv.row
  have HV : Hid (VecV w (.slice ra is.length rcp) l is) := hv
  have hrl : is.length ≤ 1000 := hv.len
  have HF : Hid (∀ W, Below w.heap.size w W → ∀ x, vOk x → Calls Tryz.prog g (#[.int .i64 x] ++ cb) W fun e w' => e = .returned (.int .i64 (f x)) ∧ Below W.heap.size W w') := hf
  have HFO : Hid (∀ x, vOk x → vOk (f x)) := hfo
  clear hv hf hfo
  go_enter Tryz.func163, Tryz.ntmps163
  go_wp2_with (at_make; refine wpList_make_own _ rfl _ _ 253 rfl w.heap.size 255 i0 _ 3 Tryz.underlying253 hi hz0 hz1 _ _ _ is.length rfl rfl rfl ?b2 ?b3 ?b4 ?_)
  case b2 => rw [hz2]; omega
  case b3 => unfold maxLen; omega
  case b4 => exact Nat.le_refl _
  intro w1 hown1 hgrow1
  have HB1 : Hid (Below w.heap.size w w1) := hid ((Below.refl _ _).grown hgrow1 (Nat.le_refl _) (fun q hq => by cases hq))
  clear hgrow1
  go_wp2
  go_loopw [5, 13] (fun v i wr => ∃ k : Nat, k ≤ is.length ∧ i = .int .i64 k ∧ wr.ownsRow w.heap.size 255 3 v k (encs (chg f (is.take k))) ∧ Hid (∀ i ∈ is, ItmOk wr i) ∧ Hid (Below w.heap.size w wr))
    (fun _ i _ => is.length - (intOf i).toNat)
  case atStart => exact ⟨0, Nat.zero_le _, rfl, hown1, hid (fun i hi => (HV.out.ok i hi).below HB1.out), HB1⟩
  case round =>
    rename World => wo
    obtain ⟨k, hk, rfl, hown, HOK, HB⟩ := hrel
    have hwr := HB.out.size
    by_cases hlt : k < is.length
    · have hg : ∃ g, ra = some ⟨g, 0, none⟩ := by
        obtain ⟨g, cp', h⟩ := own_some HV.out.row (by omega)
        injection h with h1; exact ⟨g, h1⟩
      obtain ⟨vg, rfl⟩ := hg
      have HVR := hid (own_below HV.out.row HB.out)
      obtain ⟨f1, f2, f3⟩ := encs_get is k hlt
      have d1 := own_cell HVR.out _ _ f1
      have d2 := own_cell HVR.out _ _ f2
      have d3 := own_cell HVR.out _ _ f3
      have HTK : Hid (chg f (is.take (k + 1)) = chg f (is.take k) ++ [{ is[k] with v := f (is[k]).v }]) := hid (by
        rw [List.take_succ_eq_append_getElem hlt]; unfold chg; rw [List.map_append]; rfl)
      have HSV : Hid (vOk (is[k]).v) := hid (HOK.out _ (List.getElem_mem hlt)).vok
      generalize is[k] = s at *
      clear f1 f2 f3
      have hkz : (k : Int) < (is.length : Int) := by omega
      go_upto_region 5 with fail
      refine wp_gen fun wr hW => ?_
      have hbW : Below wo.heap.size wo wr := by rw [hW]; exact (Below.refl _ _).alloc (Nat.le_refl _) _
      have HX : Hid (BAt wr wo.heap.size [.slice s.a s.n s.c, .string s.tx, .int .i64 s.v] 255) := hid (by rw [hW]; exact Go.Deep.blk_alloc_new _ _)
      have HBI : Hid (Below w.heap.size w wr) := hid (HB.out.trans (hbW.mono hwr))
      have HNE := hid (fun q hq => (hown.lt q hq).2)
      have hownI := own_below hown hbW
      have HOKI : Hid (∀ i ∈ is, ItmOk wr i) := hid (fun i hi => (HOK.out i hi).below hbW)
      have hwI := HBI.out.size
      clear hW hbW hown HB HOK HVR d1 d2 d3
      have HSB : Hid (∀ w', BAt w' wo.heap.size [.slice s.a s.n s.c, .string s.tx, .int .i64 s.v] 255 → w'.cell? ⟨wo.heap.size, 0, none⟩ = some (.slice s.a s.n s.c) ∧ w'.cell? ⟨wo.heap.size, 1, none⟩ = some (.string s.tx) ∧ w'.cell? ⟨wo.heap.size, 2, none⟩ = some (.int .i64 s.v)) := hid (fun w' h1 => ⟨h1.cell 0, h1.cell 1, h1.cell 2⟩)
      refine beginT 10 (fun w' => w'.cell? ⟨wo.heap.size, 0, none⟩ = some (.slice s.a s.n s.c) ∧ w'.cell? ⟨wo.heap.size, 1, none⟩ = some (.string s.tx) ∧ w'.cell? ⟨wo.heap.size, 2, none⟩ = some (.int .i64 s.v)) (by kernel_rfl) (by exact HSB.out _ HX.out) (fun hHeld => ?_)
      refine takeT (i := 0) (d := 17) (v := ?v0) rfl rfl (by kernel_rfl) (fun _ _ _ h => h) (Or.inl ⟨by rfl, ?hy0⟩) hHeld ?rs0
      case hy0 => (intro w hSw; go_simp; try with_reducible rfl)
      case rs0 =>
      try simp only [Act.put, List.setIfInBounds_toArray, List.set_cons_zero, List.set_cons_succ]
      refine takeT (i := 1) (d := 18) (v := ?v1) rfl rfl (by kernel_rfl) (fun _ _ _ h => h) (Or.inl ⟨by rfl, ?hy1⟩) hHeld ?rs1
      case hy1 => (intro w hSw; go_simp; try with_reducible rfl)
      case rs1 =>
      try simp only [Act.put, List.setIfInBounds_toArray, List.set_cons_zero, List.set_cons_succ]
      refine takeT (i := 2) (d := 19) (v := ?v2) rfl rfl (by kernel_rfl) (fun _ _ _ h => h) (Or.inl ⟨by rfl, ?hy2⟩) hHeld ?rs2
      case hy2 => (intro w hSw; go_simp; try with_reducible rfl)
      case rs2 =>
      try simp only [Act.put, List.setIfInBounds_toArray, List.set_cons_zero, List.set_cons_succ]
      refine takeT (i := 3) (d := 20) (v := ?v3) rfl rfl (by kernel_rfl) (fun _ _ _ h => h) (Or.inl ⟨by rfl, ?hy3⟩) hHeld ?rs3
      case hy3 => (intro w hSw; go_simp; try with_reducible rfl)
      case rs3 =>
      try simp only [Act.put, List.setIfInBounds_toArray, List.set_cons_zero, List.set_cons_succ]
      refine takeT (i := 4) (d := 21) (v := ?v4) rfl rfl (by kernel_rfl) (fun _ _ _ h => h) (Or.inl ⟨by rfl, ?hy4⟩) hHeld ?rs4
      case hy4 => (intro w hSw; go_simp; try with_reducible rfl)
      case rs4 =>
      try simp only [Act.put, List.setIfInBounds_toArray, List.set_cons_zero, List.set_cons_succ]
      refine takeT (i := 5) (d := 22) (v := ?v5) rfl rfl (by kernel_rfl) (fun _ _ _ h => h) (Or.inl ⟨by rfl, ?hy5⟩) hHeld ?rs5
      case hy5 => (intro w hSw; go_simp; try with_reducible rfl)
      case rs5 =>
      try simp only [Act.put, List.setIfInBounds_toArray, List.set_cons_zero, List.set_cons_succ]
      refine stepT (i := 6) (by kernel_rfl) rfl (fun K hK => ?_)
      have HCL := hid (HF.out wr.drew (by exact ⟨HBI.out.os, HBI.out.tape, HBI.out.output, HBI.out.size, HBI.out.block⟩) s.v HSV.out)
      go_simp
      refine HCL.out.mono ?_
      rintro e w5 ⟨rfl, hb5⟩
      have HB5 : Hid (Below wr.heap.size wr w5) := hid ⟨hb5.os, hb5.tape, hb5.output, hb5.size, hb5.block⟩
      have HX5 := hid (HX.out.below HB5.out)
      clear hb5 HCL
      go_simp
      refine hK.out _ _ (HSB.out _ HX5.out) (fun hHeld => ?_)
      clear hK K
      try simp only [Act.put, List.setIfInBounds_toArray, List.set_cons_zero, List.set_cons_succ]
      refine takeT (i := 7) (d := 24) (v := ?v7) rfl rfl (by kernel_rfl) (fun _ _ _ h => h) (Or.inl ⟨by rfl, ?hy7⟩) hHeld ?rs7
      case hy7 => (intro w hSw; go_simp; try with_reducible rfl)
      case rs7 =>
      try simp only [Act.put, List.setIfInBounds_toArray, List.set_cons_zero, List.set_cons_succ]
      refine stepT (i := 8) (by kernel_rfl) rfl (fun K hK => ?_)
      have HBA : Hid (∀ o, Below w5.heap.size w5 (w5.alloc o)) := hid (fun o => (Below.refl _ _).alloc (Nat.le_refl _) _)
      go_simp
      refine hK.out _ _ (HSB.out _ (HX5.out.below (HBA.out _))) (fun hHeld => ?_)
      clear hK K
      try simp only [Act.put, List.setIfInBounds_toArray, List.set_cons_zero, List.set_cons_succ]
      refine stepT (i := 9) (by kernel_rfl) rfl (fun K hK => ?_)
      have hown5 := own_below hownI HB5.out
      have hw5 := HB5.out.size
      refine step_append_own rfl (.tmp 17) (.tmp 25) 253 rfl w.heap.size 255 i0 _ 3 48 Tryz.underlying253 hi hz0 hz1 hz2 rfl (by decide) _ k (encs (chg f (is.take k))) (by simp [Act.eval]) (hown5.alloc _) ⟨w5.heap.size, 0, none⟩ 1 1 [.slice s.a s.n s.c, .string s.tx, .int .i64 (f s.v)] (by simp [Act.eval]) rfl ?h2 ?h3 ?h4 ?h5 ?h6 ?_
      case h2 => exact cells_new rfl
      case h3 => intro u hu; simp at hu; rcases hu with rfl | rfl | rfl <;> rfl
      case h4 => unfold maxLen; omega
      case h5 => omega
      case h6 => simp; omega
      intro v6 w6 hown6 hgrow6 hwhere6
      have HNI : Hid (∀ i ∈ is, ItmOk w6 i) := hid (fun i hi => (HOKI.out i hi).kb ((KeepsB.below (HB5.out.trans ((HBA.out _).mono hw5)) _).trans (KeepsB.grown hgrow6 (hown5.alloc _))) (by decide))
      have HB6 : Hid (Below w.heap.size w w6) := hid ((HBI.out.trans ((HB5.out.trans ((HBA.out _).mono hw5)).mono hwI)).grown hgrow6 (by simp; omega) (fun q hq => (hown5.lt q hq).1))
      have hown7 : w6.ownsRow w.heap.size 255 3 v6 (k + 1) (encs (chg f (is.take (k + 1)))) := by
        rw [HTK.out, encs_append]; exact hown6
      have HX6 : Hid (BAt w6 wo.heap.size [.slice s.a s.n s.c, .string s.tx, .int .i64 s.v] 255) := hid ((HX5.out.below (HBA.out _)).grown hgrow6 (fun e => by have := HNE.out _ e.symm; omega))
      refine hK.out _ _ (HSB.out _ HX6.out) (fun hHeld => ?_)
      clear hK K
      try simp only [Act.put, List.setIfInBounds_toArray, List.set_cons_zero, List.set_cons_succ]
      refine lastT (by kernel_rfl) (by kernel_rfl) rfl (by kernel_rfl) (fun K hK => ?_)
      go_simp
      refine hK.out _ _ ?_
      clear hK K hgrow6 hown6 hown5 hownI hwhere6
      go_wp2
      go_roundw
      case rel => exact ⟨k + 1, by omega, by go_num, hown7, HNI, HB6⟩
      case measure => simp [intOf]; omega
    · obtain rfl : k = is.length := by omega
      rw [List.take_length] at hown
      have hlen : (chg f is).length = is.length := by unfold chg; rw [List.length_map]
      rw [← hlen] at hown
      have HVV : Hid (VecV wo _ (l.map fun e => (e.1, f e.2)) (chg f is)) := hid ⟨hown.mono (Nat.zero_le _), by rw [chg_el, HV.out.els], fun i hi => by
        unfold chg at hi
        obtain ⟨j, hj, rfl⟩ := List.mem_map.1 hi
        exact ⟨(HOK.out j hj).lb, HFO.out _ (HOK.out j hj).vok⟩, by rw [hlen]; exact hrl⟩
      clear hown
      go_wp2
      go_ret
      exact ⟨_, _, rfl, HVV, HB.out⟩
end Go.Proofs.YtpbemaaghbbocaaGreatDoor

/- What the document's own Load answers of any text. -/
import Derived.Test.YtmncdbepjhmkgaaDoorRefRows
namespace Go.Proofs.YtmncdbepjhmkgaaDoor
open Go.RowKit LS

theorem Tryd.infoRSeries : (Tryd.prog.info? 44).map (fun i => (i.zero, i.size, i.bytes)) = some (some (.agg #[.string ByteArray.empty, .slice none 0 0, .slice none 0 0]), 3, 64) := by kernel_rfl
theorem Tryd.infoInt : (Tryd.prog.info? 3).map (fun i => (i.zero, i.size, i.bytes)) = some (some (.int .i64 0), 1, 8) := by kernel_rfl

theorem rLoad_long (s : ByteArray) (w : World) (hs : 6000 < s.size) (hs2 : s.size ≤ maxLen) :
    Calls Tryd.prog 6 #[.string s] w fun e w' => ∃ v, e = .returned (.tuple #[v, .int .i64 1, .int .i64 0]) ∧ Below w.heap.size w w' := by
  unfold maxLen at hs2
  go_enter Tryd.func6, Tryd.ntmps6
  go_wp2
  go_ret3
  exact ⟨_, rfl, Below.refl _ _⟩

def atsOf (es : List Entry) : List Value := es.map fun e => .int .i64 (e.at_ : Int)
theorem sumTo_snoc (es : List Entry) (x : Entry) : sumTo (es ++ [x]) (es ++ [x]).length = sumTo es es.length + x.count := by
  unfold sumTo; rw [List.take_length, List.take_length, List.map_append, List.sum_append]; simp

def keyAt (es : List Entry) (i : Nat) : List UInt8 := (es[i]?.map keyOfE).getD []
theorem keyAt_lt {es : List Entry} {i : Nat} (h : i < es.length) : keyAt es i = keyOfE es[i] := by unfold keyAt; rw [List.getElem?_eq_getElem h]; rfl
theorem dup_hit {es : List Entry} {i k : Nat} (hi : i < es.length) (hk : k < i) (he : keyAt es k = keyAt es i) : dupFrom (es.take i) (es.drop i) = some (es[i]).at_ :=
  dupFrom_hit hi hk (by rw [← keyAt_lt, ← keyAt_lt]; exact he)
theorem dup_miss {es : List Entry} {i : Nat} (hi : i < es.length) (hn : ∀ k, k < i → keyAt es k ≠ keyAt es i) : dupFrom (es.take i) (es.drop i) = dupFrom (es.take (i + 1)) (es.drop (i + 1)) :=
  dupFrom_miss hi (fun k hk => by rw [← keyAt_lt, ← keyAt_lt]; exact hn k hk)
theorem key_same {es : List Entry} {i k : Nat} (hi : i < es.length) (hk : k < es.length) (n1 : isName (es[i]).name = true) (n2 : isName (es[k]).name = true) : keyAt es k = keyAt es i ↔ (es[i]).name = (es[k]).name ∧ (es[i]).inside = (es[k]).inside := by
  rw [keyAt_lt hi, keyAt_lt hk, key_iff n2 n1]
  exact ⟨fun h => ⟨h.1.symm, h.2.symm⟩, fun h => ⟨h.1.symm, h.2.symm⟩⟩

set_option maxRecDepth 100000 in
set_option maxHeartbeats 4000000 in
theorem rLoad_short (s : ByteArray) (w : World) (hs : s.size ≤ 6000) :
    Calls Tryd.prog 6 #[.string s] w fun e w' => ∃ v, e = .returned (.tuple #[v, .int .i64 (loadRes (bl s)).1, .int .i64 (loadRes (bl s)).2]) ∧ Below w.heap.size w w' ∧ Hid ((loadRes (bl s)).1 = 0 → LoadedV w' v (bl s)) := by
  obtain ⟨i0, hi, hz0, hz1, hz2⟩ := info_parts Tryd.infoRSeries
  obtain ⟨j0, hj, hy0, hy1, hy2⟩ := info_parts Tryd.infoInt
  have hL : Hid (∀ x, (match linesAcc 0 [] (split 10 (bl s)) with
    | .inl i => (5, i)
    | .inr es => match twiceAcc 0 [] (split 10 (bl s)) with
      | some i => (6, i)
      | none => if 30 < es.length ∨ 200 < sumTo es es.length then (7, 0) else (0, 0)) = x → loadRes (bl s) = x) := by
    intro x hx; unfold loadRes; rw [if_neg (by rw [bl_length]; omega)]; exact hx
  go_enter Tryd.func6, Tryd.ntmps6
  go_wp2_with fail
  refine (rSplit_of s 10 _ _ rfl hs).mono ?_
  rintro e w1 ⟨g, n, cp, bs, rfl, hn, hg0, hgl, hcells, hsp, hb1⟩
  have HN : Hid (n = bs.length) := hn
  have hn6 : n ≤ 6001 := by
    have := split_length 10 (bl s); rw [← hsp.out, List.length_map, bl_length] at this; omega
  clear hn
  go_wp2
  go_loopw [5, 6, 8, 9] (fun v av nv i wr => ∃ (k : Nat) (es : List Entry) (rs : List (Value × Value × Value)), k ≤ n ∧ i = .int .i64 k ∧ es.length ≤ k ∧ nv = .int .i64 (sumTo es es.length) ∧ sumTo es es.length ≤ 6001 * k ∧
      wr.ownsRow w1.heap.size 44 3 v es.length (flat3 rs) ∧ wr.ownsRow w1.heap.size 3 1 av es.length (atsOf es) ∧ Hid (AllLab wr rs es ∧ AllSam wr rs es (split 10 (bl s))) ∧ Hid (linesAcc 0 [] (split 10 (bl s)) = linesAcc k es ((split 10 (bl s)).drop k)) ∧ Below w1.heap.size w1 wr)
    (fun _ _ _ i _ => n - (intOf i).toNat)
  case atStart => exact ⟨0, [], [], Nat.zero_le _, rfl, Nat.le_refl _, rfl, Nat.le_refl _, World.ownsRow_nil _ _ _ _, World.ownsRow_nil _ _ _ _, ⟨AllLab.nil _, AllSam.nil _ _⟩, rfl, Below.refl _ _⟩
  case round =>
    obtain ⟨k, es, rs, hk, rfl, hek, rfl, hsum, hown, hat, HAL, HA, hbr⟩ := hrel
    have hwr : w1.heap.size ≤ wr.heap.size := hbr.size
    by_cases hlt : k < n
    · have hkb : k < bs.length := by rw [← HN.out]; exact hlt
      have hkl : k < (split 10 (bl s)).length := by rw [← hsp.out, List.length_map]; exact hkb
      have hck : wr.cell? ⟨g, k, none⟩ = some (.string bs[k]) := (hbr.cell (p := ⟨g, k, none⟩) hgl).trans (hcells.out k hkb)
      have HK : Hid (bl bs[k] = (split 10 (bl s)).getD k []) := map_bl_get hsp.out k hkb
      generalize bs[k] = sk at hck HK
      have hsk6 : sk.size ≤ 6000 := by rw [size_of_bl HK.out]; have := split_getD_le 10 (bl s) k hkl; rw [bl_length] at this; omega
      cases he : sk.toList.isEmpty
      · have HNE : Hid ((split 10 (bl s)).getD k [] ≠ []) := by rw [← HK.out]; exact ne_of_nonempty he
        go_wp2_with fail
        refine (rLine_any sk _ hsk6).mono ?_
        rintro e w2 ⟨nm, la, ln, lc, sa, sn, sc, ok, rfl, hres, hb2⟩
        have hw2 : wr.heap.size ≤ w2.heap.size := hb2.size
        have hB2 : Below w1.heap.size w1 w2 := hbr.trans (hb2.mono hwr)
        rcases hres with ⟨rfl, inside, qs, hlab, hline⟩ | ⟨rfl, hline⟩
        · have hline1 := hline.out.1
          have hsn : sn ≤ 6001 := by have := line_le hline1; rw [bl_length] at this; omega
          have hnm : isName (bl nm) = true := (line_parts hline1).1
          have hin : inside.length ≤ 6000 := by have := line_inside_le hline1; rw [bl_length] at this; omega
          have HF : Hid (linesAcc 0 [] (split 10 (bl s)) = linesAcc (k + 1) (es ++ [⟨k, bl nm, inside, sn⟩]) ((split 10 (bl s)).drop (k + 1))) := hid (by
            rw [HA.out]; exact linesAcc_cons hkl HNE.out (by rw [← HK.out]; exact hline1))
          have hlo : LabOwn w2 (.slice la ln lc) inside := ⟨qs, hlab.mono (Nat.zero_le _), hline.out.2.1⟩
          have HAL2 : Hid (AllLab w2 (rs ++ [(.string nm, .slice la ln lc, .slice sa sn sc)]) (es ++ [⟨k, bl nm, inside, sn⟩]) ∧ AllSam w2 (rs ++ [(.string nm, .slice la ln lc, .slice sa sn sc)]) (es ++ [⟨k, bl nm, inside, sn⟩]) (split 10 (bl s))) := ⟨(HAL.out.1.below hb2).snoc ⟨k, bl nm, inside, sn⟩ nm la ln lc sa sc rfl hnm hin hlo, AllSam.snoc HAL.out.1.1 (HAL.out.2.below hb2) ⟨k, bl nm, inside, sn⟩ _ _ sa sc (by show w2.ownsRow 0 98 2 (.slice sa sn sc) sn (flatP (sams1 ((split 10 (bl s)).getD k []))); rw [← HK.out]; exact hline.out.2.2.mono (Nat.zero_le _))⟩
          have hown2 := own_below hown hb2
          have hat2 := own_below hat hb2
          have HS : Hid (sumTo (es ++ [(⟨k, bl nm, inside, sn⟩ : Entry)]) (es ++ [(⟨k, bl nm, inside, sn⟩ : Entry)]).length = sumTo es es.length + sn) := sumTo_snoc es ⟨k, bl nm, inside, sn⟩
          clear hline1 hlab hline hlo HAL HA hown hat hnm hin
          go_wp2_with (at_builtin; refine wpList_append_own _ rfl (.tmp 43) (.tmp 45) 27 rfl w1.heap.size 44 i0 (.agg #[.string ByteArray.empty, .slice none 0 0, .slice none 0 0]) 3 64 Tryd.underlying27 hi hz0 hz1 hz2 rfl (by decide) _ _ _ rfl ((hown2.alloc _).alloc _) ⟨w2.heap.size + 1, 0, none⟩ 1 1 [.string nm, .slice la ln lc, .slice sa sn sc] rfl rfl ?c1 ?c2 ?c3 ?c4 ?c5 ?_)
          case c1 => exact cells_three (by simp) (by simp) (by simp)
          case c2 => intro u hu; simp at hu; rcases hu with rfl | rfl | rfl <;> rfl
          case c3 => unfold maxLen; omega
          case c4 => omega
          case c5 => simp; omega
          intro v3 w3 hown3 hgrow3 _
          have hs3 : w2.heap.size + 1 + 1 ≤ w3.heap.size := by have := hgrow3.size; simp at this; omega
          have hB3 : Below w1.heap.size w1 w3 := ((hB2.alloc (by omega) _).alloc (by simp; omega) _).grown hgrow3 (by simp; omega) (fun q hq => (hown2.lt q hq).1)
          have hat3 : w3.ownsRow w1.heap.size 3 1 _ es.length (atsOf es) := ((hat2.alloc _).alloc _).kept hgrow3 (own_ne hat2 hown2 (by decide))
          have hb23 : ∀ o o' : Obj, Below w2.heap.size w2 ((w2.alloc o).alloc o') := fun o o' => ((Below.refl _ _).alloc (Nat.le_refl _) _).alloc (by simp) _
          have hAL3 : Hid (AllLab w3 (rs ++ [(.string nm, .slice la ln lc, .slice sa sn sc)]) (es ++ [⟨k, bl nm, inside, sn⟩]) ∧ AllSam w3 (rs ++ [(.string nm, .slice la ln lc, .slice sa sn sc)]) (es ++ [⟨k, bl nm, inside, sn⟩]) (split 10 (bl s))) := ⟨AllLab.grown (HAL2.out.1.below (hb23 _ _)) hgrow3 ((hown2.alloc _).alloc _) (by decide), AllSam.grown (HAL2.out.2.below (hb23 _ _)) hgrow3 ((hown2.alloc _).alloc _) (by decide)⟩
          have hx3 : w3.heap[w2.heap.size]? = some (.cells #[.string nm, .slice la ln lc, .slice sa sn sc] 44 (0, 0)) := by
            refine (hgrow3.block w2.heap.size (by simp; omega) ?_).trans ?_
            · intro he; have := (hown2.lt _ he.symm).2; simp at this
            · rw [Below.heap_alloc _ _ _ (by simp)]; exact Array.getElem?_push_size
          have hc3 : w3.cell? ⟨w2.heap.size, 2, none⟩ = some (.slice sa sn sc) := (cells_of_heap hx3).2
          have hown4 : w3.ownsRow w1.heap.size 44 3 v3 (es ++ [(⟨k, bl nm, inside, sn⟩ : Entry)]).length (flat3 (rs ++ [(.string nm, .slice la ln lc, .slice sa sn sc)])) := by
            rw [flat3_append, List.length_append]; exact hown3
          clear hown3 hgrow3 hown2 hat2 HAL2
          go_wp2_with (at_builtin; refine wpList_append_own _ rfl (.tmp 47) (.tmp 49) 38 rfl w1.heap.size 3 j0 (.int .i64 0) 1 8 Tryd.underlying38 hj hy0 hy1 hy2 rfl (by decide) _ _ _ rfl (hat3.alloc _) ⟨w3.heap.size, 0, none⟩ 1 1 [.int .i64 k] rfl rfl ?c1 ?c2 ?c3 ?c4 ?c5 ?_)
          case c1 => exact cell_one_new _ _ _
          case c2 => intro u hu; simp at hu; subst hu; rfl
          case c3 => unfold maxLen; omega
          case c4 => omega
          case c5 => simp; omega
          intro v5 w5 hat5 hgrow5 _
          have hB5 : Below w1.heap.size w1 w5 := (hB3.alloc (by omega) _).grown hgrow5 (by simp; omega) (fun q hq => (hat3.lt q hq).1)
          have hown5 := (hown4.alloc (.cells #[.int .i64 k] 3)).kept hgrow5 (own_ne hown4 hat3 (by decide))
          have hb35 : ∀ o : Obj, Below w3.heap.size w3 (w3.alloc o) := fun o => (Below.refl _ _).alloc (Nat.le_refl _) _
          have hAL5 : Hid (AllLab w5 (rs ++ [(.string nm, .slice la ln lc, .slice sa sn sc)]) (es ++ [⟨k, bl nm, inside, sn⟩]) ∧ AllSam w5 (rs ++ [(.string nm, .slice la ln lc, .slice sa sn sc)]) (es ++ [⟨k, bl nm, inside, sn⟩]) (split 10 (bl s))) := ⟨AllLab.grown (hAL3.out.1.below (hb35 _)) hgrow5 (hat3.alloc _) (by decide), AllSam.grown (hAL3.out.2.below (hb35 _)) hgrow5 (hat3.alloc _) (by decide)⟩
          have hc5 : w5.cell? ⟨w2.heap.size, 2, none⟩ = some (.slice sa sn sc) := by
            refine hgrow5.cell (a := ⟨w2.heap.size, 2, none⟩) ?_ (own_ne_block hat3 hx3 (by decide))
            rw [World.cell?_alloc_lt _ _ _ (by show w2.heap.size < w3.heap.size; omega)]; exact hc3
          have hat6 : w5.ownsRow w1.heap.size 3 1 v5 (es ++ [(⟨k, bl nm, inside, sn⟩ : Entry)]).length (atsOf (es ++ [(⟨k, bl nm, inside, sn⟩ : Entry)])) := by
            unfold atsOf; rw [List.map_append, List.length_append]; exact hat5
          clear hat5 hgrow5 hown4 hat3 hAL3 hc3 hx3 hb23 hb35
          go_wp2
          go_roundw
          case rel => exact ⟨k + 1, _, _, by omega, by go_num, by simp; omega, by rw [HS.out]; go_num, by rw [HS.out]; omega, hown5, hat6, hAL5, HF, hB5⟩
          case measure => simp [intOf]; omega
        · have HF : Hid (linesAcc 0 [] (split 10 (bl s)) = .inl k) := hid (by
            rw [HA.out]; exact linesAcc_bad hkl HNE.out (by rw [← HK.out]; exact hline.out))
          have HR : Hid (loadRes (bl s) = (5, k)) := hL.out _ (by rw [HF.out])
          go_wp2
          go_ret3
          exact ⟨_, by rw [HR.out]; rfl, hb1.trans ((hB2.alloc (by omega) _).mono hb1.size), hid (fun h => by rw [HR.out] at h; cases h)⟩
      · have HF : Hid (linesAcc 0 [] (split 10 (bl s)) = linesAcc (k + 1) es ((split 10 (bl s)).drop (k + 1))) := hid (by
          rw [HA.out]; exact linesAcc_empty hkl (by rw [← HK.out]; exact nil_of_empty he))
        go_wp2
        go_roundw
        case rel => exact ⟨k + 1, es, rs, by omega, by go_num, by omega, rfl, by omega, hown, hat, HAL, HF, hbr⟩
        case measure => simp [intOf]; omega
    · have HF : Hid (linesAcc 0 [] (split 10 (bl s)) = .inr es) := hid (by
        rw [HA.out]; exact linesAcc_end (by rw [← hsp.out, List.length_map, ← HN.out]; exact hlt))
      have hes6 : es.length ≤ 6001 := by omega
      have HTw : Hid (twiceAcc 0 [] (split 10 (bl s)) = dupFrom [] es) := twice_eq HF.out
      obtain ⟨lv, lcp, rfl⟩ := own_shape hown
      obtain ⟨tv, tcp, rfl⟩ := own_shape hat
      have hBr : Below w.heap.size w wr := hb1.trans (hbr.mono hb1.size)
      clear HA hcells hsp
      go_wp2
      go_loopw [12] (fun i wi => ∃ (m nd : Nat), m ≤ es.length ∧ i = .int .i64 m ∧ wi = wr.drewN nd ∧ Hid (dupFrom [] es = dupFrom (es.take m) (es.drop m))) (fun i _ => es.length - (intOf i).toNat)
      case atStart => exact ⟨0, 0, Nat.zero_le _, rfl, rfl, rfl⟩
      case round =>
        obtain ⟨m, nd, hm, rfl, rfl, HD⟩ := hrel
        by_cases hlm : m < es.length
        · obtain ⟨gl, hgl2⟩ : ∃ gl, lv = some ⟨gl, 0, none⟩ := by
            obtain ⟨gl, cp', h⟩ := own_some hown (by omega)
            injection h with h1; exact ⟨gl, h1⟩
          obtain ⟨ga, hga2⟩ : ∃ ga, tv = some ⟨ga, 0, none⟩ := by
            obtain ⟨ga, cp', h⟩ := own_some hat (by omega)
            injection h with h1; exact ⟨ga, h1⟩
          subst hgl2
          subst hga2
          have hct : wr.cell? ⟨ga, m, none⟩ = some (.int .i64 (es[m]).at_) := own_cell hat m _ (by simp [atsOf, hlm])
          obtain ⟨nmi, lai, lni, lci, sai, sci, r1, r2, r3, r4, r5⟩ := HAL.out.1.2 m hlm
          obtain ⟨f1, f2, _⟩ := flat3_get rs m
          rw [r1] at f1 f2
          have ci1 : wr.cell? ⟨gl, m * 3, none⟩ = some (.string nmi) := own_cell hown _ _ f1
          have ci2 : wr.cell? ⟨gl, m * 3 + 1, none⟩ = some (.slice lai lni lci) := own_cell hown _ _ f2
          have HI : Hid (bl nmi = (es[m]).name ∧ isName (es[m]).name = true ∧ (es[m]).inside.length ≤ 6000 ∧ LabOwn wr (.slice lai lni lci) (es[m]).inside) := ⟨r2, r3, r4, r5⟩
          have HAt : Hid (dupFrom (es.take m) (es.drop m) = dupFrom [] es) := HD.out.symm
          generalize hat_ : (es[m]).at_ = atm at hct
          have HAtm : Hid ((es[m]).at_ = atm) := hat_
          clear r1 r2 r3 r4 r5 f1 f2 hat_ HD
          go_wp2
          go_loopw [13] (fun j wj => ∃ (q nd : Nat), q ≤ m ∧ j = .int .i64 q ∧ wj = wr.drewN nd ∧ Hid (∀ k, k < q → keyAt es k ≠ keyAt es m)) (fun j _ => m - (intOf j).toNat)
          case atStart => exact ⟨0, nd, Nat.zero_le _, rfl, rfl, fun k h => absurd h (Nat.not_lt_zero _)⟩
          case round =>
            obtain ⟨q, nd2, hqm, rfl, rfl, HQ⟩ := hrel
            by_cases hlq : q < m
            · have hlq2 : q < es.length := by omega
              obtain ⟨nmk, lak, lnk, lck, sak, sck, r1, r2, r3, r4, r5⟩ := HAL.out.1.2 q hlq2
              obtain ⟨f1, f2, _⟩ := flat3_get rs q
              rw [r1] at f1 f2
              have ck1 : wr.cell? ⟨gl, q * 3, none⟩ = some (.string nmk) := own_cell hown _ _ f1
              have ck2 : wr.cell? ⟨gl, q * 3 + 1, none⟩ = some (.slice lak lnk lck) := own_cell hown _ _ f2
              have HKq : Hid (bl nmk = (es[q]).name ∧ isName (es[q]).name = true ∧ (es[q]).inside.length ≤ 6000 ∧ LabOwn wr (.slice lak lnk lck) (es[q]).inside) := ⟨r2, r3, r4, r5⟩
              clear r1 r2 r3 r4 r5 f1 f2
              go_wp2_with fail
              refine (rWritten_of _ (HI.out.2.2.2.below (below_drewN _ _ _)) HI.out.2.2.1).mono ?_
              rintro e wx ⟨ra, rfl, hra, na, rfl⟩
              go_wp2_with fail
              refine (rWritten_of _ (HKq.out.2.2.2.below (below_drewN _ _ _)) HKq.out.2.2.1).mono ?_
              rintro e wx ⟨rb, rfl, hrb, nb, rfl⟩
              have hks := key_same hlm hlq2 HI.out.2.1 HKq.out.2.1
              have hwn : ((nmi.toList == nmk.toList) = true ∧ (ra.toList == rb.toList) = true ∧ keyAt es q = keyAt es m) ∨ ((nmi.toList == nmk.toList) = true ∧ (ra.toList == rb.toList) = false ∧ keyAt es q ≠ keyAt es m) ∨ ((nmi.toList == nmk.toList) = false ∧ keyAt es q ≠ keyAt es m) := by
                rw [toList_bl, toList_bl, toList_bl, toList_bl, HI.out.1, HKq.out.1, hra.out, hrb.out]
                by_cases h1 : (es[m]).name = (es[q]).name
                · by_cases h2 : (es[m]).inside = (es[q]).inside
                  · exact Or.inl ⟨by rw [h1]; simp, by rw [h2]; simp, hks.2 ⟨h1, h2⟩⟩
                  · exact Or.inr (Or.inl ⟨by rw [h1]; simp, by simp [h2], fun h => h2 (hks.1 h).2⟩)
                · exact Or.inr (Or.inr ⟨by simp [h1], fun h => h1 (hks.1 h).1⟩)
              clear hks
              rcases hwn with ⟨e1, e2, hk3⟩ | ⟨e1, e2, hk3⟩ | ⟨e1, hk3⟩
              · have HR : Hid (loadRes (bl s) = (6, atm)) := hL.out _ (by
                  rw [HF.out]; simp only [HTw.out]; rw [← HAt.out, dup_hit hlm hlq hk3, HAtm.out])
                clear hk3
                go_wp2
                go_quiet (fail)
                go_wp2
                go_quiet (fail)
                go_wp2
                go_ret3
                exact ⟨_, by rw [HR.out]; rfl, belB, hid (fun h => by rw [HR.out] at h; cases h)⟩
              · have HQ2 : Hid (∀ k, k < q + 1 → keyAt es k ≠ keyAt es m) := fun k hk => by
                  rcases Nat.lt_succ_iff_lt_or_eq.1 hk with h | rfl
                  · exact HQ.out k h
                  · exact hk3
                clear hk3
                go_wp2
                go_quiet (fail)
                go_wp2
                go_roundw
                case rel => exact ⟨q + 1, _, by omega, by go_num, rfl, HQ2⟩
                case measure => simp [intOf]; omega
              · have HQ2 : Hid (∀ k, k < q + 1 → keyAt es k ≠ keyAt es m) := fun k hk => by
                  rcases Nat.lt_succ_iff_lt_or_eq.1 hk with h | rfl
                  · exact HQ.out k h
                  · exact hk3
                clear hk3
                go_wp2
                go_quiet (fail)
                go_wp2
                go_roundw
                case rel => exact ⟨q + 1, _, by omega, by go_num, rfl, HQ2⟩
                case measure => simp [intOf]; omega
            · obtain rfl : q = m := by omega
              have HD2 : Hid (dupFrom [] es = dupFrom (es.take (q + 1)) (es.drop (q + 1))) := hid (by rw [← HAt.out]; exact dup_miss hlm HQ.out)
              go_wp2
              go_roundw
              case rel => exact ⟨q + 1, nd2, by omega, by go_num, rfl, HD2⟩
              case measure => simp [intOf]; omega
        · have HND : Hid (dupFrom [] es = none) := hid (by rw [HD.out, List.drop_of_length_le (by omega)]; rfl)
          have HM : Hid (loadRes (bl s) = if 30 < es.length ∨ 200 < sumTo es es.length then (7, 0) else (0, 0)) := hL.out _ (by
            have h0 : dupFrom [] es = none := by rw [HD.out, List.drop_of_length_le (by omega)]; rfl
            rw [HF.out]; simp only [HTw.out, h0])
          by_cases h30 : 30 < es.length
          · have hd : decide (30 < (es.length : Int)) = true := by simp; omega
            have HR : Hid (loadRes (bl s) = (7, 0)) := hid (by rw [HM.out, if_pos (Or.inl h30)])
            go_wp2
            go_ret3
            exact ⟨_, by rw [HR.out]; rfl, belB, hid (fun h => by rw [HR.out] at h; cases h)⟩
          · have hd : decide (30 < (es.length : Int)) = false := by simp; omega
            by_cases h200 : 200 < sumTo es es.length
            · have hd2 : decide (200 < (sumTo es es.length : Int)) = true := by simp; omega
              have HR : Hid (loadRes (bl s) = (7, 0)) := hid (by rw [HM.out, if_pos (Or.inr h200)])
              go_wp2
              go_ret3
              exact ⟨_, by rw [HR.out]; rfl, belB, hid (fun h => by rw [HR.out] at h; cases h)⟩
            · have hd2 : decide (200 < (sumTo es es.length : Int)) = false := by simp; omega
              have HR : Hid (loadRes (bl s) = (0, 0)) := hid (by rw [HM.out, if_neg (by rintro (h | h) <;> omega)])
              have HLD : Hid (∀ nd, LoadedV (wr.drewN nd) (.slice lv es.length lcp) (bl s)) := hid (fun nd => LoadedV.below ⟨es, rs, HF.out, HND.out, by omega, hown.mono (Nat.zero_le _), HAL.out.1, HAL.out.2⟩ (below_drewN _ _ _))
              go_wp2
              go_ret3
              exact ⟨_, by rw [HR.out]; rfl, belB, hid (fun _ => HLD.out _)⟩
end Go.Proofs.YtmncdbepjhmkgaaDoor

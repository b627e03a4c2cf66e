/- What the document's own reader of one line answers. -/
import Derived.Test.YtmncdbepjhmkgaaDoorRefSamples
namespace Go.Proofs.YtmncdbepjhmkgaaDoor
open Go.RowKit LS

set_option maxHeartbeats 400000 in
theorem rSamples_any (s : ByteArray) (w : World) (hs : s.size ≤ 6000) :
    Calls Tryd.prog 23 #[.string s] w fun e w' => ∃ (a : Option Addr) (n cap : Nat) (ok : Bool), e = .returned (.tuple #[.slice a n cap, .bool ok]) ∧
      Hid ((ok = true ∧ samples (bl s) = some n) ∨ (ok = false ∧ samples (bl s) = none)) ∧ Hid (ok = true → w'.ownsRow w.heap.size 98 2 (.slice a n cap) n (flatP (samsL (bl s)))) ∧ Below w.heap.size w w' := by
  cases he : s.toList.isEmpty
  · have hne := ne_of_nonempty he
    cases hl : bl s with
    | nil => exact absurd hl hne
    | cons b t =>
      by_cases hb : b = 32
      · subst hb
        have hF : samples (32 :: t) = samplesAcc (-1) 0 (split 32 t) := by unfold samples; simp [strip]
        rw [hF]
        exact rSamples_loop s t w hs he hl
      · have HF : Hid (samples (b :: t) = none) := hid (by unfold samples; simp [strip, hb])
        have HL : Hid (bl s = b :: t) := hl
        clear hl hne
        go_enter Tryd.func23, Tryd.ntmps23
        go_wp2_with fail
        refine (rSplit_of s 32 _ _ rfl hs).mono ?_
        rintro e w1 ⟨g, n, cp, bs, rfl, hn, hg0, hgl, hcells, hsp, hb1⟩
        have hb0 : 0 < bs.length := by
          have : bs.length = (split 32 (bl s)).length := by rw [← hsp.out, List.length_map]
          rw [this]; exact List.length_pos_iff.2 (split_ne 32 (bl s))
        have hn0 : 0 < n := by omega
        have hc0 : w1.cell? ⟨g, 0, none⟩ = some (.string bs[0]) := hcells.out 0 hb0
        have he0 : bs[0].toList.isEmpty = false := by
          rw [toList_bl, map_bl_get hsp.out 0 hb0, HL.out, split_miss 32 b t (by simp [hb])]
          cases split 32 t <;> rfl
        generalize bs[0] = s0 at hc0 he0
        have HN : Hid (n = bs.length) := hn
        clear hn
        go_wp2
        go_ret2
        exact ⟨none, 0, 0, false, rfl, Or.inr ⟨rfl, HF.out⟩, hid (fun h => by cases h), hb1⟩
  · have HF : Hid (samples (bl s) = some 0) := hid (by rw [nil_of_empty he]; rfl)
    go_enter Tryd.func23, Tryd.ntmps23
    go_wp2
    go_ret2
    have HE : Hid (samsL (bl s) = []) := hid (by rw [nil_of_empty he]; rfl)
    exact ⟨none, 0, 0, true, rfl, Or.inl ⟨rfl, HF.out⟩, hid (fun _ => by rw [HE.out]; exact World.ownsRow_nil _ _ _ _), Below.refl _ _⟩

set_option maxHeartbeats 400000 in
theorem rLabels_any (s : ByteArray) (w : World) (hs : s.size ≤ 6000) :
    Calls Tryd.prog 22 #[.string s] w fun e w' => ∃ (a : Option Addr) (n cap : Nat) (ok : Bool), e = .returned (.tuple #[.slice a n cap, .bool ok]) ∧
      ((ok = true ∧ ∃ qs, w'.ownsRow w.heap.size 64 2 (.slice a n cap) qs.length (flat2 qs) ∧ Hid (labels (bl s) = some (qs.map bl2))) ∨ (ok = false ∧ Hid (labels (bl s) = none))) ∧ Below w.heap.size w w' := by
  cases he : s.toList.isEmpty
  · have hF : labels (bl s) = labelsAcc [] [] (split 44 (bl s)) := by unfold labels; rw [if_neg (ne_of_nonempty he)]
    rw [hF]
    exact rLabels_loop s w hs he
  · have HF : Hid (labels (bl s) = some (([] : List (ByteArray × ByteArray)).map bl2)) := hid (by rw [nil_of_empty he]; rfl)
    go_enter Tryd.func22, Tryd.ntmps22
    go_wp2
    go_ret2
    exact ⟨none, 0, 0, true, rfl, Or.inl ⟨rfl, [], World.ownsRow_nil _ _ _ _, HF⟩, Below.refl _ _⟩

theorem line_mid {l : List UInt8} {a b : Nat} (ha : LS.seek 123 l = some a) (hb : LS.seek 125 l = some b) (hab : a < b) :
    cut 123 l = some (l.take a, l.drop (a + 1)) ∧ cut 125 (l.drop (a + 1)) = some ((l.take b).drop (a + 1), l.drop (b + 1)) := by
  refine ⟨cut_seek ha, ?_⟩
  obtain ⟨x, y, hl, hx, hn⟩ := seek_some hb
  have e1 : l.drop (a + 1) = x.drop (a + 1) ++ 125 :: y := by rw [hl, List.drop_append_of_le_length (by omega)]
  have e2 : l.take b = x := by rw [hl, ← hx]; simp
  have e3 : l.drop (b + 1) = y := by rw [hl, ← hx]; simp
  rw [e1, e2, e3]
  exact cut_mid (fun h => hn (List.mem_of_mem_drop h))
theorem line_before {l : List UInt8} {a b : Nat} (ha : LS.seek 123 l = some a) (hb : LS.seek 125 l = some b) (hba : b < a) : line l = none := by
  obtain ⟨x, y, hl, hx, hn⟩ := seek_some hb
  have hnm : isName (l.take a) = false := by
    have : (l.take a).all letter = false := by
      rw [List.all_eq_false]
      refine ⟨125, ?_, by decide⟩
      rw [List.mem_iff_getElem?]
      refine ⟨b, ?_⟩
      rw [List.getElem?_take, if_pos hba, hl, ← hx]; simp
    unfold isName; rw [this]; rfl
  have hc := cut_seek ha
  cases hc2 : cut 125 (l.drop (a + 1)) with
  | none => exact line_noclose hc hc2
  | some q => obtain ⟨y, z⟩ := q; rw [line_of hc hc2, hnm]; rfl
theorem line_noclose' {l : List UInt8} {a : Nat} (ha : LS.seek 123 l = some a) (hb : LS.seek 125 l = none) : line l = none := by
  have hn := (seek_none_iff 125 l).1 hb
  refine line_noclose (cut_seek ha) ?_
  exact cut_seek_none ((seek_none_iff _ _).2 (fun h => hn (List.mem_of_mem_drop h)))

theorem box33 {w w1 : World} {x y z x' y' z' : Value} {t : TypeId} (hb : Below (w.heap.size + 1 + 1) ((w.alloc (.cells #[x, y, z] t)).alloc (.cells #[x', y', z'] t)) w1) :
    (w1.cell? ⟨w.heap.size, 0, none⟩ = some x ∧ w1.cell? ⟨w.heap.size, 1, none⟩ = some y ∧ w1.cell? ⟨w.heap.size, 2, none⟩ = some z ∧
    w1.frozen? ⟨w.heap.size, 0, none⟩ = false ∧ w1.frozen? ⟨w.heap.size, 1, none⟩ = false ∧ w1.frozen? ⟨w.heap.size, 2, none⟩ = false) ∧
    (w1.cell? ⟨w.heap.size + 1, 0, none⟩ = some x' ∧ w1.cell? ⟨w.heap.size + 1, 1, none⟩ = some y' ∧ w1.cell? ⟨w.heap.size + 1, 2, none⟩ = some z' ∧
    w1.frozen? ⟨w.heap.size + 1, 0, none⟩ = false ∧ w1.frozen? ⟨w.heap.size + 1, 1, none⟩ = false ∧ w1.frozen? ⟨w.heap.size + 1, 2, none⟩ = false) := by
  have h2 : ∀ o, w1.cell? ⟨w.heap.size + 1, o, none⟩ = ((w.alloc (.cells #[x, y, z] t)).alloc (.cells #[x', y', z'] t)).cell? ⟨w.heap.size + 1, o, none⟩ := fun o => hb.cell (p := ⟨_, o, none⟩) (Nat.lt_succ_self _)
  have f2 : ∀ o, w1.frozen? ⟨w.heap.size + 1, o, none⟩ = ((w.alloc (.cells #[x, y, z] t)).alloc (.cells #[x', y', z'] t)).frozen? ⟨w.heap.size + 1, o, none⟩ := fun o => hb.frozen (p := ⟨_, o, none⟩) (Nat.lt_succ_self _)
  have b1 : Below (w.heap.size + 1) (w.alloc (.cells #[x, y, z] t)) w1 := ((Below.refl _ _).alloc (by simp) _).trans (hb.mono (by omega))
  obtain ⟨k0, k1, k2, g0, g1, g2⟩ := box3 b1
  exact ⟨⟨k0, k1, k2, g0, g1, g2⟩, by simp [h2, f2]⟩

set_option maxRecDepth 100000 in
set_option maxHeartbeats 2000000 in
theorem rLine_any (s : ByteArray) (w : World) (hs : s.size ≤ 6000) :
    Calls Tryd.prog 12 #[.string s] w fun e w' => ∃ (nm : ByteArray) (la : Option Addr) (ln lc : Nat) (sa : Option Addr) (sn sc : Nat) (ok : Bool), e = .returned (.tuple #[.agg #[.string nm, .slice la ln lc, .slice sa sn sc], .bool ok]) ∧
      ((ok = true ∧ ∃ (inside : List UInt8) (qs : List (ByteArray × ByteArray)), w'.ownsRow w.heap.size 64 2 (.slice la ln lc) qs.length (flat2 qs) ∧ Hid (line (bl s) = some (bl nm, inside, sn) ∧ labels inside = some (qs.map bl2) ∧ w'.ownsRow w.heap.size 98 2 (.slice sa sn sc) sn (flatP (sams1 (bl s))))) ∨ (ok = false ∧ Hid (line (bl s) = none))) ∧ Below w.heap.size w w' := by
  cases ha : LS.seek 123 (bl s) with
  | none =>
    have HL : Hid (line (bl s) = none) := line_noopen (cut_seek_none ha)
    have HA : Hid (LS.seek 123 (bl s) = none) := ha
    clear ha
    cases hb : LS.seek 125 (bl s) with
    | none =>
      have HB : Hid (LS.seek 125 (bl s) = none) := hb
      clear hb
      go_enter Tryd.func12, Tryd.ntmps12
      go_wp2_with fail
      refine (seek_none_any (c := 123) _ _ rfl hs HA.out).mono ?_
      rintro e w2 ⟨rfl, rfl⟩
      go_wp2_with fail
      refine (seek_none_any (c := 125) _ _ rfl hs HB.out).mono ?_
      rintro e w2 ⟨rfl, rfl⟩
      go_wp2
      exact bodyPost_ret (v := .tuple #[.agg #[.string ⟨#[]⟩, .slice none 0 0, .slice none 0 0], .bool false]) (by simp [results, Tryd.results12, go_sem]) rfl ⟨⟨#[]⟩, none, 0, 0, none, 0, 0, false, rfl, Or.inr ⟨rfl, HL⟩, belB⟩
    | some b =>
      have HB : Hid (LS.seek 125 (bl s) = some b) := hb
      clear hb
      go_enter Tryd.func12, Tryd.ntmps12
      go_wp2_with fail
      refine (seek_none_any (c := 123) _ _ rfl hs HA.out).mono ?_
      rintro e w2 ⟨rfl, rfl⟩
      go_wp2_with fail
      refine (seek_some_any (c := 125) _ _ rfl hs HB.out).mono ?_
      rintro e w2 ⟨rfl, rfl⟩
      go_wp2
      exact bodyPost_ret (v := .tuple #[.agg #[.string ⟨#[]⟩, .slice none 0 0, .slice none 0 0], .bool false]) (by simp [results, Tryd.results12, go_sem]) rfl ⟨⟨#[]⟩, none, 0, 0, none, 0, 0, false, rfl, Or.inr ⟨rfl, HL⟩, belB⟩
  | some a =>
    have HA : Hid (LS.seek 123 (bl s) = some a) := ha
    have ha6 : a < s.size := by rw [← bl_length]; exact seek_lt ha
    clear ha
    cases hb : LS.seek 125 (bl s) with
    | none =>
      have HL : Hid (line (bl s) = none) := line_noclose' HA.out hb
      have HB : Hid (LS.seek 125 (bl s) = none) := hb
      clear hb
      go_enter Tryd.func12, Tryd.ntmps12
      go_wp2_with fail
      refine (seek_some_any (c := 123) _ _ rfl hs HA.out).mono ?_
      rintro e w2 ⟨rfl, rfl⟩
      go_wp2_with fail
      refine (seek_none_any (c := 125) _ _ rfl hs HB.out).mono ?_
      rintro e w2 ⟨rfl, rfl⟩
      go_wp2
      exact bodyPost_ret (v := .tuple #[.agg #[.string ⟨#[]⟩, .slice none 0 0, .slice none 0 0], .bool false]) (by simp [results, Tryd.results12, go_sem]) rfl ⟨⟨#[]⟩, none, 0, 0, none, 0, 0, false, rfl, Or.inr ⟨rfl, HL⟩, belB⟩
    | some b =>
      have HB : Hid (LS.seek 125 (bl s) = some b) := hb
      have hb6 : b < s.size := by rw [← bl_length]; exact seek_lt hb
      have hab0 : a ≠ b := by
        intro e; subst e
        obtain ⟨x, y, e1, e2, _⟩ := seek_some hb
        obtain ⟨x', y', e3, e4, _⟩ := seek_some HA.out
        have h1 : (bl s)[a]? = some 125 := by rw [e1, ← e2]; simp
        have h2 : (bl s)[a]? = some 123 := by rw [e3, ← e4]; simp
        rw [h1] at h2; exact absurd h2 (by decide)
      clear hb
      by_cases hba : b < a
      · have HL : Hid (line (bl s) = none) := line_before HA.out HB.out hba
        go_enter Tryd.func12, Tryd.ntmps12
        go_wp2_with fail
        refine (seek_some_any (c := 123) _ _ rfl hs HA.out).mono ?_
        rintro e w2 ⟨rfl, rfl⟩
        go_wp2_with fail
        refine (seek_some_any (c := 125) _ _ rfl hs HB.out).mono ?_
        rintro e w2 ⟨rfl, rfl⟩
        go_wp2
        exact bodyPost_ret (v := .tuple #[.agg #[.string ⟨#[]⟩, .slice none 0 0, .slice none 0 0], .bool false]) (by simp [results, Tryd.results12, go_sem]) rfl ⟨⟨#[]⟩, none, 0, 0, none, 0, 0, false, rfl, Or.inr ⟨rfl, HL⟩, belB⟩
      · have hab : a < b := by omega
        have hab1 : a + 1 ≤ b := hab
        clear hab0
        have e0 : bl (s.extract 0 a) = (bl s).take a := by rw [bl_extract]; simp
        have e1 : bl (s.extract (a + 1) b) = ((bl s).take b).drop (a + 1) := bl_extract s (a + 1) b
        have e2 : bl (s.extract (b + 1) s.size) = (bl s).drop (b + 1) := by rw [bl_extract, List.take_of_length_le (by rw [bl_length]; exact Nat.le_refl _)]
        have HLine : Hid (line (bl s) = if isName (bl (s.extract 0 a)) && (labels (bl (s.extract (a + 1) b))).isSome then (samples (bl (s.extract (b + 1) s.size))).map (fun n => (bl (s.extract 0 a), bl (s.extract (a + 1) b), n)) else none) := hid (by
          obtain ⟨c1, c2⟩ := line_mid HA.out HB.out hab
          rw [e0, e1, e2]; exact line_of c1 c2)
        have HSA1 : Hid (sams1 (bl s) = samsL (bl (s.extract (b + 1) s.size))) := hid (by unfold sams1; rw [HB.out, e2])
        clear e0 e1 e2
        have hx6 : (s.extract 0 a).size ≤ 6000 := by rw [ByteArray.size_extract]; omega
        have hy6 : (s.extract (a + 1) b).size ≤ 6000 := by rw [ByteArray.size_extract]; omega
        have hz6 : (s.extract (b + 1) s.size).size ≤ 6000 := by rw [ByteArray.size_extract]; omega
        have ha7 : a ≤ s.size := Nat.le_of_lt ha6
        have hb7 : b ≤ s.size := Nat.le_of_lt hb6
        have hb8 : b + 1 ≤ s.size := hb6
        go_enter Tryd.func12, Tryd.ntmps12
        go_wp2_with fail
        refine (seek_some_any (c := 123) _ _ rfl hs HA.out).mono ?_
        rintro e w2 ⟨rfl, rfl⟩
        go_wp2_with fail
        refine (seek_some_any (c := 125) _ _ rfl hs HB.out).mono ?_
        rintro e w2 ⟨rfl, rfl⟩
        go_wp2_with fail
        obtain ⟨b0, hb0⟩ : ∃ b0, isName (bl (s.extract 0 a)) = b0 := ⟨_, rfl⟩
        refine (rIsName_of _ hx6 hb0).mono ?_
        rintro e w2 ⟨rfl, rfl⟩
        rw [hb0] at HLine
        have HN : Hid _ := hb0
        clear hb0
        go_wp2_with fail
        refine (rLabels_any _ _ hy6).mono ?_
        rintro e w3 ⟨la, ln, lc, ok1, rfl, hlab, hb3⟩
        have hb3' : Below (w.heap.size + 1 + 1) ((w.alloc (.cells #[.string ⟨#[]⟩, .slice none 0 0, .slice none 0 0] 44)).alloc (.cells #[.string (s.extract 0 a), .slice none 0 0, .slice none 0 0] 44)) w3 := hb3.mono (B' := w.heap.size + 1 + 1) (by simp)
        have hz3 : w.heap.size + 1 + 1 ≤ w3.heap.size := by have := hb3.size; simp at this; omega
        clear hb3
        go_wp2_with fail
        refine (rSamples_any _ _ hz6).mono ?_
        rintro e w4 ⟨sa, sn, sc, ok2, rfl, hsam, hsro, hb4⟩
        have hb4' := hb3'.trans (hb4.mono hz3)
        obtain ⟨⟨k0, k1, k2, g0, g1, g2⟩, ⟨m0, m1, m2, n0, n1, n2⟩⟩ := box33 hb4'
        have hB4 : Below w.heap.size w w4 := (((Below.refl w.heap.size w).alloc (Nat.le_refl _) _).alloc (by simp) _).trans (hb4'.mono (by omega))
        clear hb4' hb3'
        have hres : (b0 && ok1 && ok2) = true ∧ (∃ qs, w4.ownsRow (w.heap.size + 1 + 1) 64 2 (.slice la ln lc) qs.length (flat2 qs) ∧ Hid (line (bl s) = some (bl (s.extract 0 a), bl (s.extract (a + 1) b), sn) ∧ labels (bl (s.extract (a + 1) b)) = some (qs.map bl2) ∧ w4.ownsRow (w.heap.size + 1 + 1) 98 2 (.slice sa sn sc) sn (flatP (sams1 (bl s))))) ∨ ((b0 && ok1 && ok2) = false ∧ Hid (line (bl s) = none)) := by
          have HLo := HLine.out
          rcases hlab with ⟨rfl, qs, hown, hl⟩ | ⟨rfl, hl⟩
          · rcases hsam.out with ⟨rfl, hsm⟩ | ⟨rfl, hsm⟩
            · cases b0
              · exact Or.inr ⟨rfl, by rw [HLo]; rfl⟩
              · refine Or.inl ⟨rfl, qs, own_below (hown.mono (by simp)) hb4, by rw [HLo, hl.out, hsm]; rfl, hl.out, by rw [HSA1.out]; exact (hsro.out rfl).mono hz3⟩
            · exact Or.inr ⟨by cases b0 <;> rfl, by rw [HLo, hl.out, hsm]; cases b0 <;> rfl⟩
          · exact Or.inr ⟨by cases b0 <;> cases ok2 <;> rfl, by rw [HLo, hl.out]; cases b0 <;> rfl⟩
        clear hlab hsam hsro hb4 HLine HN
        obtain ⟨okk, hokk⟩ : ∃ okk, (b0 && ok1 && ok2) = okk := ⟨_, rfl⟩
        rw [hokk] at hres
        have hend : ∀ W : World, W = ((((w4.setCell ⟨w.heap.size + 1, 1, none⟩ (.slice la ln lc)).setCell ⟨w.heap.size + 1, 2, none⟩ (.slice sa sn sc)).setCell ⟨w.heap.size, 0, none⟩ (.string (s.extract 0 a))).setCell ⟨w.heap.size, 1, none⟩ (.slice la ln lc)).setCell ⟨w.heap.size, 2, none⟩ (.slice sa sn sc) →
            ((okk = true ∧ ∃ (inside : List UInt8) (qs : List (ByteArray × ByteArray)), W.ownsRow w.heap.size 64 2 (.slice la ln lc) qs.length (flat2 qs) ∧ Hid (line (bl s) = some (bl (s.extract 0 a), inside, sn) ∧ labels inside = some (qs.map bl2) ∧ W.ownsRow w.heap.size 98 2 (.slice sa sn sc) sn (flatP (sams1 (bl s))))) ∨ (okk = false ∧ Hid (line (bl s) = none))) ∧ Below w.heap.size w W := by
          rintro W rfl
          refine ⟨?_, belB⟩
          rcases hres with ⟨h1, qs, hown, h2⟩ | h
          · refine Or.inl ⟨h1, _, qs, ?_, h2.out.1, h2.out.2.1, ?_⟩
            · refine World.ownsRow.mono (base := w.heap.size + 1 + 1) ?_ (by omega)
              exact ownsRow_setCell_below (ownsRow_setCell_below (ownsRow_setCell_below (ownsRow_setCell_below (ownsRow_setCell_below hown (by simp) _) (by simp) _) (by simp; omega) _) (by simp; omega) _) (by simp; omega) _
            · refine World.ownsRow.mono (base := w.heap.size + 1 + 1) ?_ (by omega)
              exact ownsRow_setCell_below (ownsRow_setCell_below (ownsRow_setCell_below (ownsRow_setCell_below (ownsRow_setCell_below h2.out.2.2 (by simp) _) (by simp) _) (by simp; omega) _) (by simp; omega) _) (by simp; omega) _
          · exact Or.inr h
        clear hres hB4
        have Hend : Hid _ := hend
        clear hend
        have Hok : Hid _ := hokk
        clear hokk
        cases b0 <;> cases ok1 <;> cases ok2
        all_goals
          obtain rfl := Hok.out
          go_wp2
          exact bodyPost_ret (v := .tuple #[.agg #[.string (s.extract 0 a), .slice la ln lc, .slice sa sn sc], .bool _]) (by simp [results, Tryd.results12, go_sem, k0, k1, k2]) rfl ⟨s.extract 0 a, la, ln, lc, sa, sn, sc, _, rfl, (Hend.out _ rfl).1, (Hend.out _ rfl).2⟩
end Go.Proofs.YtmncdbepjhmkgaaDoor

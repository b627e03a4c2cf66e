/- What the document's own reader of labels answers. -/
import Derived.Test.YtmncdbepjhmkgaaDoorRefBase
import Derived.Test.YtmncdbepjhmkgaaDoorDevSeries
import Derived.Test.YtmncdbepjhmkgaaDoorDevCount
import Derived.BigRegion
import Derived.Deep.Onto
namespace Go.Proofs.YtmncdbepjhmkgaaDoor
open Go.RowKit LS

theorem Tryd.infoRLabel : (Tryd.prog.info? 64).map (fun i => (i.zero, i.size, i.bytes)) = some (some (.agg #[.string ByteArray.empty, .string ByteArray.empty]), 2, 32) := by kernel_rfl
def flat2 : List (ByteArray × ByteArray) → List Value
  | [] => []
  | r :: rs => .string r.1 :: .string r.2 :: flat2 rs
theorem flat2_append (a b : List (ByteArray × ByteArray)) : flat2 (a ++ b) = flat2 a ++ flat2 b := by
  induction a with
  | nil => rfl
  | cons r a ih => simp [flat2, ih]
theorem flat2_get (rs : List (ByteArray × ByteArray)) (j : Nat) : (flat2 rs)[j * 2]? = rs[j]?.map (fun r => .string r.1) ∧ (flat2 rs)[j * 2 + 1]? = rs[j]?.map (fun r => .string r.2) := by
  induction rs generalizing j with
  | nil => simp [flat2]
  | cons r rs ih =>
    cases j with
    | zero => simp [flat2]
    | succ j =>
      obtain ⟨h1, h2⟩ := ih j
      refine ⟨?_, ?_⟩
      · rw [show (j + 1) * 2 = j * 2 + 1 + 1 by omega]; simpa [flat2] using h1
      · rw [show (j + 1) * 2 + 1 = j * 2 + 1 + 1 + 1 by omega]; simpa [flat2] using h2
def bl2 (r : ByteArray × ByteArray) : List UInt8 × List UInt8 := (bl r.1, bl r.2)
theorem rIsName_of {s : ByteArray} {b : Bool} (w : World) (hs : s.size ≤ 6000) (h : isName (bl s) = b) :
    Calls Tryd.prog 21 #[.string s] w fun e w' => e = .returned (.bool b) ∧ w' = w := by
  have := rIsName_any s w hs; rwa [h] at this

set_option maxRecDepth 100000 in
set_option maxHeartbeats 4000000 in
theorem rLabels_loop (s : ByteArray) (w : World) (hs : s.size ≤ 6000) (hne : s.toList.isEmpty = false) :
    Calls Tryd.prog 22 #[.string s] w fun e w' => ∃ (a : Option Addr) (n cap : Nat) (ok : Bool), e = .returned (.tuple #[.slice a n cap, .bool ok]) ∧
      ((ok = true ∧ ∃ qs, w'.ownsRow w.heap.size 64 2 (.slice a n cap) qs.length (flat2 qs) ∧ Hid (labelsAcc [] [] (split 44 (bl s)) = some (qs.map bl2))) ∨ (ok = false ∧ Hid (labelsAcc [] [] (split 44 (bl s)) = none))) ∧ Below w.heap.size w w' := by
  obtain ⟨i0, hi, hz0, hz1, hz2⟩ := info_parts Tryd.infoRLabel
  go_enter Tryd.func22, Tryd.ntmps22
  go_wp2_with fail
  refine (rSplit_of s 44 _ _ rfl hs).mono ?_
  rintro e w1 ⟨g, n, cp, bs, rfl, hn, hg0, hgl, hcells, hsp, hb1⟩
  have HN : Hid (n = bs.length) := hn
  have hn6 : n ≤ 6001 := by
    have := split_length 44 (bl s); rw [← hsp.out, List.length_map, bl_length] at this; omega
  clear hn
  go_wp2
  go_loopw [4, 6, 7] (fun v last i wr => ∃ (k : Nat) (ls : ByteArray) (qs : List (ByteArray × ByteArray)), k ≤ n ∧ i = .int .i64 k ∧ last = .string ls ∧ qs.length = k ∧ wr.ownsRow w1.heap.size 64 2 v qs.length (flat2 qs) ∧ Hid (labelsAcc [] [] (split 44 (bl s)) = labelsAcc (bl ls) (qs.map bl2) ((split 44 (bl s)).drop k)) ∧ Below w1.heap.size w1 wr)
    (fun _ _ i _ => n - (intOf i).toNat)
  case atStart => exact ⟨0, ⟨#[]⟩, [], Nat.zero_le _, rfl, rfl, rfl, World.ownsRow_nil _ _ _ _, rfl, Below.refl _ _⟩
  case round =>
    obtain ⟨k, ls, qs, hk, rfl, rfl, hqk, hown, HA, hbr⟩ := hrel
    have HQ : Hid (qs.length = k) := hqk
    have hq6 : qs.length ≤ 6001 := by omega
    clear hqk
    have hwr : w1.heap.size ≤ wr.heap.size := hbr.size
    by_cases hlt : k < n
    · have hkb : k < bs.length := by rw [← HN.out]; exact hlt
      have hkl : k < (split 44 (bl s)).length := by rw [← hsp.out, List.length_map]; exact hkb
      have hck : wr.cell? ⟨g, k, none⟩ = some (.string bs[k]) := (hbr.cell (p := ⟨g, k, none⟩) hgl).trans (hcells.out k hkb)
      have HK : Hid (bl bs[k] = (split 44 (bl s)).getD k []) := map_bl_get hsp.out k hkb
      generalize bs[k] = sk at hck HK
      have hsk6 : sk.size ≤ 6000 := by rw [size_of_bl HK.out]; have := split_getD_le 44 (bl s) k hkl; rw [bl_length] at this; omega
      cases hc : LS.seek 61 (bl sk) with
      | none =>
        have HF : Hid (labelsAcc [] [] (split 44 (bl s)) = none) := hid (by rw [HA.out]; exact labelsAcc_bad hkl HK.out (label_nocut (cut_seek_none hc)))
        have HC : Hid (LS.seek 61 (bl sk) = none) := hc
        clear hc
        go_wp2_with fail
        refine (seek_none_any (c := 61) _ _ rfl hsk6 HC.out).mono ?_
        rintro e w2 ⟨rfl, rfl⟩
        go_wp2
        go_ret2
        exact ⟨none, 0, 0, false, rfl, Or.inr ⟨rfl, HF⟩, hb1.trans (hbr.mono hb1.size)⟩
      | some p =>
        have hp : p < sk.size := by rw [← bl_length]; exact seek_lt hc
        have hlab := label_cut (last := bl ls) (cut_seek hc)
        have HC : Hid (LS.seek 61 (bl sk) = some p) := hc
        clear hc
        have e1 : bl (sk.extract 0 p) = (bl sk).take p := by rw [bl_extract]; simp
        have e2 : bl (sk.extract (p + 1) sk.size) = (bl sk).drop (p + 1) := by rw [bl_extract, List.take_of_length_le (by rw [bl_length]; exact Nat.le_refl _)]
        rw [← e1, ← e2] at hlab
        have hx6 : (sk.extract 0 p).size ≤ 6000 := by rw [← bl_length, e1, List.length_take, bl_length]; omega
        have hy6 : (sk.extract (p + 1) sk.size).size ≤ 6000 := by rw [← bl_length, e2, List.length_drop, bl_length]; omega
        clear e1 e2
        have hp1 : p ≤ sk.size := Nat.le_of_lt hp
        have hp2 : p + 1 ≤ sk.size := hp
        have hp3 : (p : Int) + 1 ≤ (sk.size : Int) := by omega
        have hck2 : ∀ o, (wr.alloc o).cell? ⟨g, k, none⟩ = some (.string sk) := fun o => by
          rw [World.cell?_alloc_lt _ _ _ (by exact Nat.lt_of_lt_of_le hgl hwr)]; exact hck
        have hck3 : ∀ o, (wr.alloc o).drew.cell? ⟨g, k, none⟩ = some (.string sk) := hck2
        obtain ⟨b1, hb1e⟩ : ∃ b, isName (bl (sk.extract 0 p)) = b := ⟨_, rfl⟩
        obtain ⟨b2, hb2e⟩ : ∃ b, isWord (bl (sk.extract (p + 1) sk.size)) = b := ⟨_, rfl⟩
        obtain ⟨b3, hb3e⟩ : ∃ b, (bl (sk.extract (p + 1) sk.size)).isEmpty = b := ⟨_, rfl⟩
        obtain ⟨b4, hb4e⟩ : ∃ b, leS (bl (sk.extract 0 p)) (bl ls) = b := ⟨_, rfl⟩
        rw [hb1e, hb2e, hb3e, hb4e] at hlab
        have f1 : Hid (isName (bl (sk.extract 0 p)) = b1) := hb1e
        have f2 : Hid (isWord (bl (sk.extract (p + 1) sk.size)) = b2) := hb2e
        have f3 : (sk.extract (p + 1) sk.size).toList.isEmpty = b3 := by rw [toList_bl]; exact hb3e
        have f4 : (Op.bytesLess (sk.extract 0 p).toList ls.toList || (sk.extract 0 p).toList == ls.toList) = b4 := by rw [leS_bytes]; exact hb4e
        clear hb1e hb2e hb3e hb4e
        have hcase : (b1 = true ∧ b2 = true ∧ b3 = false ∧ b4 = false) ∨ (b1 = false ∨ (b1 = true ∧ b2 = false) ∨ (b1 = true ∧ b2 = true ∧ b3 = true) ∨ (b1 = true ∧ b2 = true ∧ b3 = false ∧ b4 = true)) := by
          cases b1 <;> cases b2 <;> cases b3 <;> cases b4 <;> simp
        rcases hcase with ⟨rfl, rfl, rfl, rfl⟩ | hcase
        · have HF : Hid (labelsAcc [] [] (split 44 (bl s)) = labelsAcc (bl (sk.extract 0 p)) ((qs ++ [(sk.extract 0 p, sk.extract (p + 1) sk.size)]).map bl2) ((split 44 (bl s)).drop (k + 1))) := hid (by
            rw [HA.out, List.map_append]; exact labelsAcc_cons hkl HK.out (by simpa using hlab))
          clear hlab HA
          go_wp2_with fail
          refine (seek_some_any (c := 61) _ _ rfl hsk6 HC.out).mono ?_
          rintro e w2 ⟨rfl, hw2⟩
          subst hw2
          go_wp2
          go_region
          have hb2 : Below w1.heap.size w1 (w2.alloc (.cells #[.string (sk.extract 0 p), .string (sk.extract (p + 1) sk.size)] 64)) := hbr.alloc hwr _
          go_wp2_with (first | (go_at_call 21; refine (rIsName_of _ hx6 f1.out).mono ?_; rintro e w' ⟨rfl, rfl⟩) | (go_at_call 35; refine (rIsWord_of _ hy6 f2.out).mono ?_; rintro e w' ⟨rfl, rfl⟩) | (at_builtin; refine wpList_append_own _ rfl (.tmp 69) (.tmp 71) 41 rfl w1.heap.size 64 i0 (.agg #[.string ByteArray.empty, .string ByteArray.empty]) 2 32 Tryd.underlying41 hi hz0 hz1 hz2 rfl (by decide) _ _ _ rfl (World.ownsRow.drew ((hown.alloc _).alloc _)) ⟨w2.heap.size + 1, 0, none⟩ 1 1 [.string (sk.extract 0 p), .string (sk.extract (p + 1) sk.size)] rfl rfl ?c1 ?c2 ?c3 ?c4 ?c5 ?_))
          case c1 => exact cells_two (by first | simp | exact (World.cell?_alloc_at _ _ _ _ (by simp)).trans rfl) (by first | simp | exact (World.cell?_alloc_at _ _ _ _ (by simp)).trans rfl)
          case c2 => intro u hu; simp at hu; rcases hu with rfl | rfl <;> rfl
          case c3 => unfold maxLen; omega
          case c4 => omega
          case c5 => simp; omega
          intro v' w3 hown3 hgrow _
          have hb3 : Below w1.heap.size w1 w3 := (Below.drew ((hbr.alloc hwr _).alloc (by simp; omega) _)).grown hgrow (by simp; omega) (fun q hq => (hown.lt q hq).1)
          have hown4 : w3.ownsRow w1.heap.size 64 2 v' (qs ++ [(sk.extract 0 p, sk.extract (p + 1) sk.size)]).length (flat2 (qs ++ [(sk.extract 0 p, sk.extract (p + 1) sk.size)])) := by
            rw [flat2_append, List.length_append]; exact hown3
          clear hown hgrow hown3 hb2
          go_wp2
          go_roundw
          case rel => exact ⟨k + 1, _, _, by omega, by go_num, rfl, by rw [List.length_append, HQ.out]; rfl, hown4, HF, hb3⟩
          case measure => simp [intOf]; omega
        · have HF : Hid (labelsAcc [] [] (split 44 (bl s)) = none) := hid (by
            rw [HA.out]; refine labelsAcc_bad hkl HK.out ?_
            rw [hlab]
            rcases hcase with rfl | ⟨rfl, rfl⟩ | ⟨rfl, rfl, rfl⟩ | ⟨rfl, rfl, rfl, rfl⟩ <;> simp)
          clear hlab
          go_wp2_with fail
          refine (seek_some_any (c := 61) _ _ rfl hsk6 HC.out).mono ?_
          rintro e w2 ⟨rfl, hw2⟩
          subst hw2
          go_wp2
          go_region
          rcases hcase with rfl | ⟨rfl, rfl⟩ | ⟨rfl, rfl, rfl⟩ | ⟨rfl, rfl, rfl, rfl⟩
          all_goals
            go_wp2_with (first | (go_at_call 21; refine (rIsName_of _ hx6 f1.out).mono ?_; rintro e w' ⟨rfl, rfl⟩) | (go_at_call 35; refine (rIsWord_of _ hy6 f2.out).mono ?_; rintro e w' ⟨rfl, rfl⟩))
            go_ret2
            exact ⟨none, 0, 0, false, rfl, Or.inr ⟨rfl, HF⟩, hb1.trans ((Below.drew (hbr.alloc hwr _)).mono hb1.size)⟩
    · have HF : Hid (labelsAcc [] [] (split 44 (bl s)) = some (qs.map bl2)) := hid (by
        rw [HA.out]; exact labelsAcc_end (by rw [← hsp.out, List.length_map, ← HN.out]; exact hlt))
      obtain ⟨av, cp, hv⟩ := own_shape hown
      rw [hv] at hown ⊢
      go_wp2
      go_ret2
      exact ⟨_, _, _, true, rfl, Or.inl ⟨rfl, qs, hown.mono hb1.size, HF⟩, hb1.trans (hbr.mono hb1.size)⟩
end Go.Proofs.YtmncdbepjhmkgaaDoor

/- What the program's reader of a line's samples answers. -/
import Derived.Test.YtmncdbepjhmkgaaDoorDevVal
import Derived.Deep.Onto
namespace Go.Proofs.YtmncdbepjhmkgaaDoor
open Go.RowKit LS

theorem Tryd.infoSample : (Tryd.prog.info? 130).map (fun i => (i.zero, i.size, i.bytes)) = some (some (.agg #[.int .i64 0, .int .i64 0]), 2, 16) := by kernel_rfl

theorem samplesAcc_cons {last : Int} {n : Nat} {ps : List (List UInt8)} {k : Nat} (hk : k < ps.length) {l : List UInt8} (hl : l = ps.getD k []) {t : Nat} (hs : sample l = some t) (ht : ¬ (t : Int) ≤ last) :
    samplesAcc last n (ps.drop k) = samplesAcc t (n + 1) (ps.drop (k + 1)) := by
  have e : ps.getD k [] = ps[k] := by simp [hk]
  rw [List.drop_eq_getElem_cons hk, samplesAcc, ← e, ← hl, hs]
  simp [ht]
theorem samplesAcc_bad {last : Int} {n : Nat} {ps : List (List UInt8)} {k : Nat} (hk : k < ps.length) {l : List UInt8} (hl : l = ps.getD k []) (hs : sample l = none ∨ ∃ t : Nat, sample l = some t ∧ (t : Int) ≤ last) :
    samplesAcc last n (ps.drop k) = none := by
  have e : ps.getD k [] = ps[k] := by simp [hk]
  rw [List.drop_eq_getElem_cons hk, samplesAcc, ← e, ← hl]
  rcases hs with h | ⟨t, h, h'⟩
  · rw [h]
  · rw [h]; simp [h']
theorem samplesAcc_end {last : Int} {n : Nat} {ps : List (List UInt8)} {k : Nat} (hk : ¬ k < ps.length) : samplesAcc last n (ps.drop k) = some n := by
  rw [List.drop_of_length_le (by omega)]; rfl

set_option maxRecDepth 100000 in
set_option maxHeartbeats 1000000 in
theorem samplesLoop (s r : ByteArray) (m : Int) (w : World) (hs : s.size ≤ 6000) (hm : w.cell? ⟨14, 0, none⟩ = some (.int .i64 m)) (Hst : Hid (strip 32 (bl s) = (bl r, true))) (hne : s.toList.isEmpty = false) :
    Calls Tryd.prog 42 #[.string s] w fun e w' => ∃ (sv : Value) (ok : Bool), e = .returned (.tuple #[sv, .bool ok]) ∧
      Hid ((ok = true ∧ ∃ a n cap, sv = .slice a n cap ∧ samplesAcc (-1) 0 (split 32 (bl r)) = some n ∧ w'.ownsRow w.heap.size 130 2 sv n (flatP ((split 32 (bl r)).map smV))) ∨ (ok = false ∧ samplesAcc (-1) 0 (split 32 (bl r)) = none)) ∧ Below w.heap.size w w' := by
  have hr : r.size ≤ 6000 := by
    have := strip_length 32 (bl s); rw [Hst.out, bl_length, bl_length] at this; omega
  obtain ⟨i0, hi, hz0, hz1, hz2⟩ := info_parts Tryd.infoSample
  have hgl := World.block_lt_of_cell? _ _ hm
  go_enter Tryd.func42, Tryd.ntmps42
  go_wp2_with fail
  refine (cutPrefix_of _ Hst.out).mono ?_
  rintro e w' ⟨a, rfl, ha, rfl⟩
  obtain rfl : a = r := bl_inj ha.out
  clear ha
  go_wp2_with fail
  refine (split_any 32 a m _ hr hm).mono ?_
  rintro e w1 ⟨n, rfl, hn, hrow, hb1⟩
  have HP : Hid (n = (split 32 (bl a)).length) := hn
  have hn6 : n ≤ 6001 := by rw [hn]; have := split_length 32 (bl a); rw [bl_length] at this; omega
  clear hn
  have hw1 : w'.heap.size + 1 ≤ w1.heap.size := hrow.1
  go_wp2
  go_loopw [6, 7, 24] (fun v last i wr => ∃ (k : Nat) (L : Int), k ≤ n ∧ i = .int .i64 k ∧ last = .int .i64 L ∧ -1 ≤ L ∧ L ≤ 1000000 ∧ wr.ownsRow (w'.heap.size + 1) 130 2 v k (flatP (((split 32 (bl a)).map smV).take k)) ∧ Hid (samplesAcc (-1) 0 (split 32 (bl a)) = samplesAcc L k ((split 32 (bl a)).drop k)) ∧ Below (w'.heap.size + 1) w1 wr)
    (fun _ _ i _ => n - (intOf i).toNat)
  case atStart => exact ⟨0, -1, Nat.zero_le _, rfl, rfl, by omega, by omega, World.ownsRow_nil _ _ _ _, rfl, Below.refl _ _⟩
  case round =>
    obtain ⟨k, L, hk, rfl, rfl, hL1, hL2, hown, HA, hbr⟩ := hrel
    have hwr : w'.heap.size + 1 ≤ wr.heap.size := Nat.le_trans hw1 hbr.size
    by_cases hlt : k < n
    · have hkl : k < (split 32 (bl a)).length := by rw [← HP.out]; exact hlt
      obtain ⟨sk, hck, hsk⟩ := (hrow.below hbr (Nat.lt_succ_self _)).2 k hkl
      have hsk6 : sk.size ≤ 6000 := by rw [size_of_bl hsk]; have := split_getD_le 32 (bl a) k hkl; rw [bl_length] at this; omega
      have HK : Hid (bl sk = (split 32 (bl a)).getD k []) := hsk
      clear hsk
      have hmr : wr.cell? ⟨14, 0, none⟩ = some (.int .i64 m) := by
        rw [hbr.cell (p := ⟨_, 0, none⟩) (by simpa using Nat.lt_succ_of_lt hgl), hb1.cell (p := ⟨_, 0, none⟩) hgl]; exact hm
      go_wp2_with fail
      refine (readSample_any sk m _ hsk6 hmr).mono ?_
      rintro e w2 ⟨tm, v2, ok, rfl, hsam, hb2⟩
      have hw2 : wr.heap.size ≤ w2.heap.size := hb2.size
      have hbw : Below (w'.heap.size + 1) w1 w2 := hbr.trans (hb2.mono hwr)
      have hown2 := own_below hown hb2
      cases ok
      · have HF : Hid (samplesAcc (-1) 0 (split 32 (bl a)) = none) := hid (by
          rw [HA.out]; refine samplesAcc_bad hkl HK.out (Or.inl ?_)
          rcases hsam.out with ⟨h, _⟩ | ⟨_, h⟩
          · cases h
          · exact h)
        go_wp2
        go_ret2
        exact ⟨_, false, rfl, Or.inr ⟨rfl, HF.out⟩, (hb1.trans (hbw.mono (by omega))).alloc (by omega) _⟩
      · obtain ⟨t, hst, htt, ht6, hsv⟩ : ∃ t : Nat, sample (bl sk) = some t ∧ tm = t ∧ t ≤ 1000000 ∧ smV (bl sk) = (tm, v2) := by
          rcases hsam.out with ⟨_, h⟩ | ⟨h, _⟩
          · exact h
          · cases h
        have HT : Hid (sample (bl sk) = some t) := hst
        have HFP := hid (flatP_step hkl HK.out hsv)
        clear hst hsam hsv
        have ht7 : tm ≤ 1000000 := by omega
        have ht8 : 0 ≤ tm := by omega
        have HTM : Hid (tm = t) := htt
        clear htt
        by_cases hle : tm ≤ L
        · have HF : Hid (samplesAcc (-1) 0 (split 32 (bl a)) = none) := hid (by
            rw [HA.out]; exact samplesAcc_bad hkl HK.out (Or.inr ⟨t, HT.out, by rw [← HTM.out]; exact hle⟩))
          go_wp2
          go_ret2
          exact ⟨_, false, rfl, Or.inr ⟨rfl, HF.out⟩, (hb1.trans (hbw.mono (by omega))).alloc (by omega) _⟩
        · have HF : Hid (samplesAcc (-1) 0 (split 32 (bl a)) = samplesAcc t (k + 1) ((split 32 (bl a)).drop (k + 1))) := hid (by
            rw [HA.out]; exact samplesAcc_cons hkl HK.out HT.out (by rw [← HTM.out]; exact hle))
          go_wp2_with (at_builtin; refine wpList_append_own _ rfl (.tmp 41) (.tmp 43) 69 rfl (w'.heap.size + 1) 130 i0 (.agg #[.int .i64 0, .int .i64 0]) 2 16 Tryd.underlying69 hi hz0 hz1 hz2 rfl (by decide) _ _ _ rfl ((hown2.alloc _).alloc _) ⟨w2.heap.size + 1, 0, none⟩ 1 1 [.int .i64 tm, .int .i64 v2] rfl rfl ?c1 ?c2 ?c3 ?c4 ?c5 ?_)
          case c1 => exact cells_two (by simp) (by simp)
          case c2 => intro u hu; simp at hu; rcases hu with rfl | rfl <;> rfl
          case c3 => unfold maxLen; omega
          case c4 => omega
          case c5 => simp; omega
          intro v' w3 hown3 hgrow _
          rw [← HFP.out] at hown3
          have hlt3 := hown2.lt
          have hb3 : Below (w'.heap.size + 1) w1 w3 := (((hbw.alloc (by omega) _).alloc (by simp; omega) _)).grown hgrow (by simp; omega) (fun j hj => (hlt3 j hj).1)
          have hc3 : w3.cell? ⟨w2.heap.size, 0, none⟩ = some (.int .i64 tm) := by
            refine hgrow.cell (a := ⟨w2.heap.size, 0, none⟩) (by simp) ?_
            intro he; have := (hlt3 _ he.symm).2; simp at this
          clear hown2 hown hgrow hbw
          go_wp2
          go_roundw
          case rel => exact ⟨k + 1, tm, by omega, by go_num, rfl, by omega, by omega, hown3, by rw [HTM.out]; exact HF, hb3⟩
          case measure => simp [intOf]; omega
    · have HF : Hid (samplesAcc (-1) 0 (split 32 (bl a)) = some k) := hid (by
        rw [HA.out]; exact samplesAcc_end (by rw [← HP.out]; exact hlt))
      obtain ⟨av, cp, hv⟩ := own_shape hown
      rw [hv] at hown
      rw [hv]
      have HOW : Hid (wr.ownsRow w'.heap.size 130 2 (.slice av k cp) k (flatP ((split 32 (bl a)).map smV))) := hid (by
        rw [List.take_of_length_le (by rw [List.length_map]; have := HP.out; omega)] at hown
        exact hown.mono (by omega))
      clear hown
      go_wp2
      go_ret2
      exact ⟨_, true, rfl, Or.inl ⟨rfl, av, k, cp, rfl, HF.out, HOW.out⟩, hb1.trans (hbr.mono (by omega))⟩
end Go.Proofs.YtmncdbepjhmkgaaDoor

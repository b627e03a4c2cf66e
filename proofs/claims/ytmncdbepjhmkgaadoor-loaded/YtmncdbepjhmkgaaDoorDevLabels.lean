/- What the program's readers of a line's samples and labels answer. -/
import Derived.Test.YtmncdbepjhmkgaaDoorDevSamples
namespace Go.Proofs.YtmncdbepjhmkgaaDoor
open Go.RowKit LS


set_option maxHeartbeats 400000 in
theorem readSamples_any (s : ByteArray) (m : Int) (w : World) (hs : s.size ≤ 6000) (hm : w.cell? ⟨14, 0, none⟩ = some (.int .i64 m)) :
    Calls Tryd.prog 42 #[.string s] w fun e w' => ∃ (sv : Value) (ok : Bool), e = .returned (.tuple #[sv, .bool ok]) ∧
      Hid ((ok = true ∧ ∃ a n cap, sv = .slice a n cap ∧ samples (bl s) = some n ∧ w'.ownsRow w.heap.size 130 2 sv n (flatP (samsL (bl s)))) ∨ (ok = false ∧ samples (bl s) = none)) ∧ Below w.heap.size w w' := by
  cases he : s.toList.isEmpty
  · have hne := ne_of_nonempty he
    cases hst : strip 32 (bl s) with
    | mk r f =>
      cases f
      · have HF : Hid (samples (bl s) = none) := hid (by unfold samples; rw [hst]; simp [hne])
        have Hst : Hid (strip 32 (bl s) = (r, false)) := hst
        clear hst hne
        go_enter Tryd.func42, Tryd.ntmps42
        go_wp2_with fail
        refine (cutPrefix_of _ Hst.out).mono ?_
        rintro e w' ⟨a, rfl, ha, rfl⟩
        go_wp2
        go_ret2
        exact ⟨_, false, rfl, Or.inr ⟨rfl, HF.out⟩, Below.refl _ _⟩
      · have hF : samples (bl s) = samplesAcc (-1) 0 (split 32 r) := by unfold samples; rw [hst]; simp [hne]
        have hE : samsL (bl s) = (split 32 r).map smV := by
          cases hl : bl s with
          | nil => exact absurd hl hne
          | cons c t =>
            rw [hl] at hst
            by_cases hc : c = 32
            · subst hc; simp [strip] at hst; rw [← hst]; rfl
            · simp [strip, hc] at hst
        rw [hF, hE]
        have := samplesLoop s ⟨r.toArray⟩ m w hs hm (by rw [bl_mk]; exact hst) he
        rwa [bl_mk] at this
  · have HF : Hid (samples (bl s) = some 0) := hid (by rw [nil_of_empty he]; rfl)
    go_enter Tryd.func42, Tryd.ntmps42
    go_wp2
    go_ret2
    have HE : Hid (samsL (bl s) = []) := hid (by rw [nil_of_empty he]; rfl)
    exact ⟨_, true, rfl, Or.inl ⟨rfl, none, 0, 0, rfl, HF.out, by rw [HE.out]; exact World.ownsRow_nil _ _ _ _⟩, Below.refl _ _⟩

def flatL : List (ByteArray × ByteArray) → List Value
  | [] => []
  | p :: l => .string p.1 :: .string p.2 :: flatL l
def blP (p : ByteArray × ByteArray) : List UInt8 × List UInt8 := (bl p.1, bl p.2)
theorem flatL_append (l m : List (ByteArray × ByteArray)) : flatL (l ++ m) = flatL l ++ flatL m := by
  induction l with
  | nil => rfl
  | cons a l ih => simp [flatL, ih]
theorem flatL_length (l : List (ByteArray × ByteArray)) : (flatL l).length = l.length * 2 := by
  induction l with
  | nil => rfl
  | cons a l ih => simp [flatL, ih]; omega
theorem flatL_get (l : List (ByteArray × ByteArray)) (j : Nat) : (flatL l)[j * 2]? = l[j]?.map (fun p => .string p.1) ∧ (flatL l)[j * 2 + 1]? = l[j]?.map (fun p => .string p.2) := by
  induction l generalizing j with
  | nil => simp [flatL]
  | cons r l ih =>
    cases j with
    | zero => simp [flatL]
    | succ j =>
      obtain ⟨h1, h2⟩ := ih j
      refine ⟨?_, ?_⟩
      · rw [show (j + 1) * 2 = j * 2 + 1 + 1 by omega]; simpa [flatL] using h1
      · rw [show (j + 1) * 2 + 1 = j * 2 + 1 + 1 + 1 by omega]; simpa [flatL] using h2
theorem own_zeroL {w : World} {base : Nat} {e : TypeId} {size : Nat} {v : Value} {n : Nat} {xs : List Value} (h : w.ownsRow base e size v n xs) : w.ownsRow 0 e size v n xs := by
  refine ⟨h.1, ?_⟩
  rcases h.2 with h2 | ⟨g, cap, cur, rfl, _, r⟩
  · exact Or.inl h2
  · exact Or.inr ⟨g, cap, cur, rfl, Nat.zero_le _, r⟩
/-- A row of labels in memory, none of them long. -/
def LabelRow (w : World) (base : Nat) (v : Value) (n : Nat) (qs : List (ByteArray × ByteArray)) : Prop := w.ownsRow base 126 2 v n (flatL qs) ∧ n ≤ 6001 ∧ ∀ p ∈ qs, p.1.size ≤ 6000 ∧ p.2.size ≤ 6000
theorem Tryd.infoLabel : (Tryd.prog.info? 126).map (fun i => (i.zero, i.size, i.bytes)) = some (some (.agg #[.string ByteArray.empty, .string ByteArray.empty]), 2, 32) := by kernel_rfl

theorem labelsAcc_cons {last : List UInt8} {acc : List (List UInt8 × List UInt8)} {ps : List (List UInt8)} {k : Nat} (hk : k < ps.length) {l : List UInt8} (hl : l = ps.getD k []) {p : List UInt8 × List UInt8} (hs : label last l = some p) :
    labelsAcc last acc (ps.drop k) = labelsAcc p.1 (acc ++ [p]) (ps.drop (k + 1)) := by
  have e : ps.getD k [] = ps[k] := by simp [hk]
  rw [List.drop_eq_getElem_cons hk, labelsAcc, ← e, ← hl, hs]
theorem labelsAcc_bad {last : List UInt8} {acc : List (List UInt8 × List UInt8)} {ps : List (List UInt8)} {k : Nat} (hk : k < ps.length) {l : List UInt8} (hl : l = ps.getD k []) (hs : label last l = none) :
    labelsAcc last acc (ps.drop k) = none := by
  have e : ps.getD k [] = ps[k] := by simp [hk]
  rw [List.drop_eq_getElem_cons hk, labelsAcc, ← e, ← hl, hs]
theorem labelsAcc_end {last : List UInt8} {acc : List (List UInt8 × List UInt8)} {ps : List (List UInt8)} {k : Nat} (hk : ¬ k < ps.length) : labelsAcc last acc (ps.drop k) = some acc := by
  rw [List.drop_of_length_le (by omega)]; rfl
theorem label_cut {last l n v : List UInt8} (h : cut 61 l = some (n, v)) : label last l = if isName n && isWord v && !v.isEmpty && !leS n last then some (n, v) else none := by
  unfold label; rw [h]
theorem label_nocut {last l : List UInt8} (h : cut 61 l = none) : label last l = none := by unfold label; rw [h]
theorem leS_bytes (a b : ByteArray) : (Op.bytesLess a.toList b.toList || a.toList == b.toList) = leS (bl a) (bl b) := by rw [toList_bl, toList_bl]; rfl

theorem wIsName_of {s : ByteArray} {b : Bool} (w : World) (hs : s.size ≤ 6000) (h : isName (bl s) = b) :
    Calls Tryd.prog 40 #[.string s] w fun e w' => e = .returned (.bool b) ∧ w' = w := by
  have := wIsName_any s w hs; rwa [h] at this
theorem wIsWord_of {s : ByteArray} {b : Bool} (w : World) (hs : s.size ≤ 6000) (h : isWord (bl s) = b) :
    Calls Tryd.prog 53 #[.string s] w fun e w' => e = .returned (.bool b) ∧ w' = w := by
  have := wIsWord_any s w hs; rwa [h] at this

set_option maxRecDepth 100000 in
set_option maxHeartbeats 2000000 in
theorem readLabels_loop (s : ByteArray) (m : Int) (w : World) (hs : s.size ≤ 6000) (hm : w.cell? ⟨14, 0, none⟩ = some (.int .i64 m)) (hne : s.toList.isEmpty = false) :
    Calls Tryd.prog 41 #[.string s] w fun e w' => ∃ (a : Option Addr) (n cap : Nat) (ok : Bool), e = .returned (.tuple #[.slice a n cap, .bool ok]) ∧
      Hid (ok = (labelsAcc [] [] (split 44 (bl s))).isSome ∧ (ok = true → ∃ qs, LabelRow w' 0 (.slice a n cap) n qs ∧ labelsAcc [] [] (split 44 (bl s)) = some (qs.map blP))) ∧ Below w.heap.size w w' := by
  obtain ⟨i0, hi, hz0, hz1, hz2⟩ := info_parts Tryd.infoLabel
  have hgl := World.block_lt_of_cell? _ _ hm
  go_enter Tryd.func41, Tryd.ntmps41
  go_wp2_with fail
  refine (split_any 44 s m _ hs hm).mono ?_
  rintro e w1 ⟨n, rfl, hn, hrow, hb1⟩
  have HP : Hid (n = (split 44 (bl s)).length) := hn
  have hn6 : n ≤ 6001 := by rw [hn]; have := split_length 44 (bl s); rw [bl_length] at this; omega
  clear hn
  have hw1 : w.heap.size + 1 ≤ w1.heap.size := hrow.1
  go_wp2
  go_loopw [4, 5, 16] (fun v last i wr => ∃ (k : Nat) (ls : ByteArray) (qs : List (ByteArray × ByteArray)), k ≤ n ∧ i = .int .i64 k ∧ last = .string ls ∧ wr.ownsRow (w.heap.size + 1) 126 2 v k (flatL qs) ∧ Hid (labelsAcc [] [] (split 44 (bl s)) = labelsAcc (bl ls) (qs.map blP) ((split 44 (bl s)).drop k)) ∧ Below (w.heap.size + 1) w1 wr ∧ Hid (∀ p ∈ qs, p.1.size ≤ 6000 ∧ p.2.size ≤ 6000))
    (fun _ _ i _ => n - (intOf i).toNat)
  case atStart => exact ⟨0, ⟨#[]⟩, [], Nat.zero_le _, rfl, rfl, World.ownsRow_nil _ _ _ _, rfl, Below.refl _ _, fun p hp => (by cases hp)⟩
  case round =>
    obtain ⟨k, ls, qs, hk, rfl, rfl, hown, HA, hbr, HZ⟩ := hrel
    have hwr : w.heap.size + 1 ≤ wr.heap.size := Nat.le_trans hw1 hbr.size
    by_cases hlt : k < n
    · have hkl : k < (split 44 (bl s)).length := by rw [← HP.out]; exact hlt
      obtain ⟨sk, hck, hsk⟩ := (hrow.below hbr (Nat.lt_succ_self _)).2 k hkl
      have hsk6 : sk.size ≤ 6000 := by rw [size_of_bl hsk]; have := split_getD_le 44 (bl s) k hkl; rw [bl_length] at this; omega
      have HK : Hid (bl sk = (split 44 (bl s)).getD k []) := hsk
      clear hsk
      have hmr : wr.cell? ⟨14, 0, none⟩ = some (.int .i64 m) := by
        rw [hbr.cell (p := ⟨_, 0, none⟩) (by simpa using Nat.lt_succ_of_lt hgl), hb1.cell (p := ⟨_, 0, none⟩) hgl]; exact hm
      cases hc : cut 61 (bl sk) with
      | none =>
        have HF : Hid (labelsAcc [] [] (split 44 (bl s)) = none) := hid (by rw [HA.out]; exact labelsAcc_bad hkl HK.out (label_nocut hc))
        have HC : Hid (cut 61 (bl sk) = none) := hc
        clear hc
        go_wp2_with fail
        refine (cut_miss m _ hsk6 hmr HC.out).mono ?_
        rintro e w2 ⟨a, b, rfl, hab, j, rfl⟩
        go_wp2
        go_ret2
        exact ⟨none, 0, 0, false, rfl, ⟨by rw [HF.out]; rfl, fun h => (by cases h)⟩, hb1.trans (below_drewN' (hbr.mono (by omega)) _)⟩
      | some p =>
        obtain ⟨x, y⟩ := p
        have hxl : x.length ≤ sk.size ∧ y.length ≤ sk.size := by rw [← bl_length, (cut_some hc).1]; simp; omega
        have hlab := label_cut (last := bl ls) hc
        have HC : Hid (cut 61 (bl sk) = some (x, y)) := hc
        clear hc
        obtain ⟨b1, hb1e⟩ : ∃ b, isName x = b := ⟨_, rfl⟩
        obtain ⟨b2, hb2e⟩ : ∃ b, y.isEmpty = b := ⟨_, rfl⟩
        obtain ⟨b3, hb3e⟩ : ∃ b, isWord y = b := ⟨_, rfl⟩
        obtain ⟨b4, hb4e⟩ : ∃ b, leS x (bl ls) = b := ⟨_, rfl⟩
        rw [hb1e, hb2e, hb3e, hb4e] at hlab
        have HB : Hid (isName x = b1 ∧ y.isEmpty = b2 ∧ isWord y = b3 ∧ leS x (bl ls) = b4) := ⟨hb1e, hb2e, hb3e, hb4e⟩
        clear hb1e hb2e hb3e hb4e
        have hcase : (b1 = true ∧ b2 = false ∧ b3 = true ∧ b4 = false) ∨ (b1 = false ∨ (b1 = true ∧ b2 = true) ∨ (b1 = true ∧ b2 = false ∧ b3 = false) ∨ (b1 = true ∧ b2 = false ∧ b3 = true ∧ b4 = true)) := by
          cases b1 <;> cases b2 <;> cases b3 <;> cases b4 <;> simp
        rcases hcase with ⟨rfl, rfl, rfl, rfl⟩ | hcase
        · have HF : Hid (labelsAcc [] [] (split 44 (bl s)) = labelsAcc x (qs.map blP ++ [(x, y)]) ((split 44 (bl s)).drop (k + 1))) := hid (by
            rw [HA.out]; exact labelsAcc_cons hkl HK.out (by simpa using hlab))
          clear hlab
          go_wp2_with fail
          refine (cut_hit m _ hsk6 hmr HC.out).mono ?_
          rintro e w2 ⟨a, b, rfl, hab, j, rfl⟩
          have hsa : a.size ≤ 6000 := by rw [size_of_bl hab.out.1]; omega
          have hsb : b.size ≤ 6000 := by rw [size_of_bl hab.out.2]; omega
          have f1 : Hid (isName (bl a) = true) := by rw [hab.out.1]; exact HB.out.1
          have f2 : b.toList.isEmpty = false := by rw [toList_bl, hab.out.2]; exact HB.out.2.1
          have f3 : Hid (isWord (bl b) = true) := by rw [hab.out.2]; exact HB.out.2.2.1
          have f4 : (Op.bytesLess a.toList ls.toList || a.toList == ls.toList) = false := by rw [leS_bytes, hab.out.1]; exact HB.out.2.2.2
          have HF2 : Hid (labelsAcc [] [] (split 44 (bl s)) = labelsAcc (bl a) ((qs ++ [(a, b)]).map blP) ((split 44 (bl s)).drop (k + 1))) := by rw [List.map_append, List.map_singleton, blP, hab.out.1, hab.out.2]; exact HF
          have HZ2 : Hid (∀ p ∈ qs ++ [(a, b)], p.1.size ≤ 6000 ∧ p.2.size ≤ 6000) := hid (by
            intro p hp
            rcases List.mem_append.1 hp with h | h
            · exact HZ.out p h
            · rw [List.mem_singleton.1 h]; exact ⟨hsa, hsb⟩)
          have hown2 := own_drewN hown j
          go_wp2_with (first | (go_at_call 40; refine (wIsName_of _ hsa f1.out).mono ?_; rintro e w' ⟨rfl, rfl⟩) | (go_at_call 53; refine (wIsWord_of _ hsb f3.out).mono ?_; rintro e w' ⟨rfl, rfl⟩) | (at_builtin; refine wpList_append_own _ rfl (.tmp 47) (.tmp 51) 66 rfl (w.heap.size + 1) 126 i0 (.agg #[.string ByteArray.empty, .string ByteArray.empty]) 2 32 Tryd.underlying66 hi hz0 hz1 hz2 rfl (by decide) _ _ _ rfl (hown2.alloc _) ⟨wr.heap.size, 0, none⟩ 1 1 [.string a, .string b] rfl rfl ?c1 ?c2 ?c3 ?c4 ?c5 ?_))
          case c1 => exact cells_two ((World.cell?_alloc_at _ _ _ _ rfl).trans rfl) ((World.cell?_alloc_at _ _ _ _ rfl).trans rfl)
          case c2 => intro u hu; simp at hu; rcases hu with rfl | rfl <;> rfl
          case c3 => unfold maxLen; omega
          case c4 => omega
          case c5 => simp; omega
          intro v' w3 hown3 hgrow _
          have hb3 : Below (w.heap.size + 1) w1 w3 := ((below_drewN' hbr j).alloc (by simp; omega) _).grown hgrow (by simp; omega) (fun q hq => (hown2.lt q hq).1)
          have hown4 : w3.ownsRow (w.heap.size + 1) 126 2 v' (k + 1) (flatL (qs ++ [(a, b)])) := by rw [flatL_append]; exact hown3
          clear hown2 hown hgrow hown3
          go_wp2
          go_roundw
          case rel => exact ⟨k + 1, a, _, by omega, by go_num, rfl, hown4, HF2, hb3, HZ2⟩
          case measure => simp [intOf]; omega
        · have HF : Hid (labelsAcc [] [] (split 44 (bl s)) = none) := hid (by
            rw [HA.out]; refine labelsAcc_bad hkl HK.out ?_
            rw [hlab]
            rcases hcase with rfl | ⟨rfl, rfl⟩ | ⟨rfl, rfl, rfl⟩ | ⟨rfl, rfl, rfl, rfl⟩ <;> simp)
          clear hlab
          go_wp2_with fail
          refine (cut_hit m _ hsk6 hmr HC.out).mono ?_
          rintro e w2 ⟨a, b, rfl, hab, j, rfl⟩
          have hsa : a.size ≤ 6000 := by rw [size_of_bl hab.out.1]; omega
          have hsb : b.size ≤ 6000 := by rw [size_of_bl hab.out.2]; omega
          have f1 : Hid (isName (bl a) = b1) := by rw [hab.out.1]; exact HB.out.1
          have f2 : b.toList.isEmpty = b2 := by rw [toList_bl, hab.out.2]; exact HB.out.2.1
          have f3 : Hid (isWord (bl b) = b3) := by rw [hab.out.2]; exact HB.out.2.2.1
          have f4 : (Op.bytesLess a.toList ls.toList || a.toList == ls.toList) = b4 := by rw [leS_bytes, hab.out.1]; exact HB.out.2.2.2
          rcases hcase with rfl | ⟨rfl, rfl⟩ | ⟨rfl, rfl, rfl⟩ | ⟨rfl, rfl, rfl, rfl⟩
          all_goals
            go_wp2_with (first | (go_at_call 40; refine (wIsName_of _ hsa f1.out).mono ?_; rintro e w' ⟨rfl, rfl⟩) | (go_at_call 53; refine (wIsWord_of _ hsb f3.out).mono ?_; rintro e w' ⟨rfl, rfl⟩))
            go_ret2
            exact ⟨none, 0, 0, false, rfl, ⟨by rw [HF.out]; rfl, fun h => (by cases h)⟩, hb1.trans (below_drewN' (hbr.mono (by omega)) _)⟩
    · have HF : Hid (labelsAcc [] [] (split 44 (bl s)) = some (qs.map blP)) := hid (by
        rw [HA.out]; exact labelsAcc_end (by rw [← HP.out]; exact hlt))
      obtain ⟨av, cp, hv⟩ := own_shape hown
      rw [hv]
      rw [hv] at hown
      have hk6 : k ≤ 6001 := by omega
      go_wp2
      go_ret2
      exact ⟨_, _, _, true, rfl, ⟨by rw [HF.out]; rfl, fun _ => ⟨qs, ⟨own_zeroL hown, hk6, HZ.out⟩, HF.out⟩⟩, hb1.trans (hbr.mono (by omega))⟩
end Go.Proofs.YtmncdbepjhmkgaaDoor

/- What the document's own splitting answers. -/
import Derived.Test.YtmncdbepjhmkgaaDoorNum
import Derived.Test.YtmncdbepjhmkgaaDoorOwnC
namespace Go.Proofs.YtmncdbepjhmkgaaDoor
open Go.RowKit LS

theorem Tryd.infoString : (Tryd.prog.info? 9).map (fun i => (i.zero, i.size, i.bytes)) = some (some (.string ByteArray.empty), 1, 16) := by kernel_rfl

theorem split_none {c : UInt8} {l : List UInt8} (h : c ∉ l) : split c l = [l] := by
  have := split_append c l [] h; rw [List.append_nil] at this; rw [this]; simp [split, pre]
theorem seg_step {s : ByteArray} {f k : Nat} (hf : f ≤ k) (hk : k < s.size) : ((bl s).take (k + 1)).drop f = ((bl s).take k).drop f ++ [s[k]] := by
  rw [take_snoc s k hk, List.drop_append_of_le_length (by rw [List.length_take, bl_length]; omega)]
theorem drop_seg {s : ByteArray} {f k : Nat} (hf : f ≤ k) : (bl s).drop f = ((bl s).take k).drop f ++ (bl s).drop k := by
  conv => lhs; rw [← List.take_append_drop k (bl s)]
  by_cases h : k ≤ (bl s).length
  · rw [List.drop_append_of_le_length (by rw [List.length_take]; omega)]
  · rw [List.drop_of_length_le (i := k) (by omega), List.append_nil, List.append_nil]

set_option maxRecDepth 100000 in
set_option maxHeartbeats 1000000 in
theorem rSplit_big (s : ByteArray) (c : UInt8) (w : World) (hs : s.size ≤ 70000) :
    Calls Tryd.prog 11 #[.string s, .int .u8 c.toNat] w fun e w' => ∃ (v : Value) (bs : List ByteArray), e = .returned v ∧
      w'.ownsRow w.heap.size 9 1 v bs.length (bs.map Value.string) ∧ Hid (bs.map bl = split c (bl s)) ∧ Below w.heap.size w w' := by
  obtain ⟨i0, hi, hz0, hz1, hz2⟩ := info_parts Tryd.infoString
  go_enter Tryd.func11, Tryd.ntmps11
  go_wp2
  go_loopw [5, 6, 7] (fun v fr i wr => ∃ (k f : Nat) (bs : List ByteArray), k ≤ s.size + 1 ∧ i = .int .i64 k ∧ fr = .int .i64 f ∧ bs.length ≤ k ∧ wr.ownsRow w.heap.size 9 1 v bs.length (bs.map Value.string) ∧ Below w.heap.size w wr ∧ f ≤ k ∧
      Hid ((k ≤ s.size ∧ split c (bl s) = bs.map bl ++ split c ((bl s).drop f) ∧ c ∉ ((bl s).take k).drop f) ∨ (k = s.size + 1 ∧ split c (bl s) = bs.map bl)))
    (fun _ _ i _ => s.size + 1 - (intOf i).toNat)
  case atStart => exact ⟨0, 0, [], Nat.zero_le _, rfl, rfl, Nat.le_refl _, World.ownsRow_nil _ _ _ _, Below.refl _ _, Nat.le_refl _, Or.inl ⟨Nat.zero_le _, by simp, by simp⟩⟩
  case round =>
    obtain ⟨k, f, bs, hk, rfl, rfl, hbk, hown, hbr, hfk, HA⟩ := hrel
    have hwr : w.heap.size ≤ wr.heap.size := hbr.size
    by_cases hle : k ≤ s.size
    · have HB : Hid (split c (bl s) = bs.map bl ++ split c ((bl s).drop f) ∧ c ∉ ((bl s).take k).drop f) := by
        rcases HA.out with ⟨_, h1, h2⟩ | ⟨h, _⟩
        · exact ⟨h1, h2⟩
        · omega
      clear HA
      have hcase : (k = s.size ∧ ((k : Int) == (s.size : Int)) = true) ∨ (((k : Int) == (s.size : Int)) = false ∧ ∃ h : k < s.size, ((s[k].toNat : Int) == (c.toNat : Int)) = true ∧ s[k] = c) ∨ (((k : Int) == (s.size : Int)) = false ∧ ∃ h : k < s.size, ((s[k].toNat : Int) == (c.toNat : Int)) = false ∧ s[k] ≠ c) := by
        by_cases h : k < s.size
        · have h0 : ((k : Int) == (s.size : Int)) = false := by rw [beq_eq_false_iff_ne]; omega
          by_cases he : s[k] = c
          · exact Or.inr (Or.inl ⟨h0, h, by rw [he]; simp, he⟩)
          · exact Or.inr (Or.inr ⟨h0, h, by rw [beq_eq_false_iff_ne]; intro hh; exact he (UInt8.toNat_inj.1 (by omega)), he⟩)
        · exact Or.inl ⟨by omega, by rw [beq_iff_eq]; omega⟩
      rcases hcase with ⟨hks, hb0⟩ | ⟨hb0, hlt, hb1, he⟩ | ⟨hb0, hlt, hb1, he⟩
      · have HF : Hid ((k + 1 ≤ s.size ∧ split c (bl s) = (bs ++ [s.extract f k]).map bl ++ split c ((bl s).drop (k + 1)) ∧ c ∉ ((bl s).take (k + 1)).drop (k + 1)) ∨ (k + 1 = s.size + 1 ∧ split c (bl s) = (bs ++ [s.extract f k]).map bl)) := by
          refine Or.inr ⟨by omega, ?_⟩
          have h2 := HB.out.2
          have hd := drop_seg (s := s) hfk
          rw [List.drop_of_length_le (i := k) (by rw [bl_length]; omega), List.append_nil] at hd
          rw [HB.out.1, hd, split_none h2, List.map_append, List.map_cons, List.map_nil, bl_extract]
        have HK : Hid (k = s.size) := hks
        clear hks HB
        go_wp2_with (at_builtin; refine wpList_append_own _ rfl (.tmp 25) (.tmp 30) 39 rfl w.heap.size 9 i0 (.string ByteArray.empty) 1 16 Tryd.underlying39 hi hz0 hz1 hz2 rfl (by decide) _ _ _ rfl (hown.alloc _) ⟨wr.heap.size, 0, none⟩ 1 1 [.string (s.extract f k)] rfl rfl ?c1 ?c2 ?c3 ?c4 ?c5 ?_)
        case c1 => exact cell_one_new _ _ _
        case c2 => intro u hu; simp at hu; subst hu; rfl
        case c3 => unfold maxLen; omega
        case c4 => omega
        case c5 => simp; omega
        intro v' w3 hown3 hgrow _
        have hb3 : Below w.heap.size w w3 := (hbr.alloc (by omega) _).grown hgrow (by simp; omega) (fun q hq => (hown.lt q hq).1)
        have hown4 : w3.ownsRow w.heap.size 9 1 v' (bs ++ [s.extract f k]).length ((bs ++ [s.extract f k]).map Value.string) := by
          rw [List.length_append, List.map_append]; exact hown3
        clear hown hgrow hown3
        go_wp2
        go_roundw
        case rel => exact ⟨k + 1, k + 1, _, by omega, by go_num, by go_num, by simp; omega, hown4, hb3, Nat.le_refl _, HF⟩
        case measure => simp [intOf]; omega
      · have HF : Hid ((k + 1 ≤ s.size ∧ split c (bl s) = (bs ++ [s.extract f k]).map bl ++ split c ((bl s).drop (k + 1)) ∧ c ∉ ((bl s).take (k + 1)).drop (k + 1)) ∨ (k + 1 = s.size + 1 ∧ split c (bl s) = (bs ++ [s.extract f k]).map bl)) := by
          refine Or.inl ⟨by omega, ?_, ?_⟩
          · have hd := drop_seg (s := s) hfk
            rw [drop_cons s k hlt, he] at hd
            rw [HB.out.1, hd, split_append c _ _ HB.out.2, split_hit, List.map_append, List.map_cons, List.map_nil, bl_extract]
            simp [pre]
          · rw [List.drop_of_length_le (by rw [List.length_take]; omega)]; simp
        clear HB he
        go_wp2_with (at_builtin; refine wpList_append_own _ rfl (.tmp 25) (.tmp 30) 39 rfl w.heap.size 9 i0 (.string ByteArray.empty) 1 16 Tryd.underlying39 hi hz0 hz1 hz2 rfl (by decide) _ _ _ rfl (hown.alloc _) ⟨wr.heap.size, 0, none⟩ 1 1 [.string (s.extract f k)] rfl rfl ?c1 ?c2 ?c3 ?c4 ?c5 ?_)
        case c1 => exact cell_one_new _ _ _
        case c2 => intro u hu; simp at hu; subst hu; rfl
        case c3 => unfold maxLen; omega
        case c4 => omega
        case c5 => simp; omega
        intro v' w3 hown3 hgrow _
        have hb3 : Below w.heap.size w w3 := (hbr.alloc (by omega) _).grown hgrow (by simp; omega) (fun q hq => (hown.lt q hq).1)
        have hown4 : w3.ownsRow w.heap.size 9 1 v' (bs ++ [s.extract f k]).length ((bs ++ [s.extract f k]).map Value.string) := by
          rw [List.length_append, List.map_append]; exact hown3
        clear hown hgrow hown3
        go_wp2
        go_roundw
        case rel => exact ⟨k + 1, k + 1, _, by omega, by go_num, by go_num, by simp; omega, hown4, hb3, Nat.le_refl _, HF⟩
        case measure => simp [intOf]; omega
      · have HF : Hid ((k + 1 ≤ s.size ∧ split c (bl s) = bs.map bl ++ split c ((bl s).drop f) ∧ c ∉ ((bl s).take (k + 1)).drop f) ∨ (k + 1 = s.size + 1 ∧ split c (bl s) = bs.map bl)) := by
          refine Or.inl ⟨by omega, HB.out.1, ?_⟩
          rw [seg_step hfk hlt, List.mem_append, not_or]
          exact ⟨HB.out.2, by simp; exact fun h => he h.symm⟩
        clear HB he
        go_wp2
        go_roundw
        case rel => exact ⟨k + 1, f, bs, by omega, by go_num, rfl, by omega, hown, hbr, by omega, HF⟩
        case measure => simp [intOf]; omega
    · have HF : Hid (bs.map bl = split c (bl s)) := hid (by
        rcases HA.out with ⟨h, _⟩ | ⟨_, h⟩
        · omega
        · exact h.symm)
      go_wp2
      go_ret
      exact ⟨_, bs, rfl, hown, HF, hbr⟩
theorem rSplit_any (s : ByteArray) (c : UInt8) (w : World) (hs : s.size ≤ 6000) :
    Calls Tryd.prog 11 #[.string s, .int .u8 c.toNat] w fun e w' => ∃ (v : Value) (bs : List ByteArray), e = .returned v ∧
      w'.ownsRow w.heap.size 9 1 v bs.length (bs.map Value.string) ∧ Hid (bs.map bl = split c (bl s)) ∧ Below w.heap.size w w' := rSplit_big s c w (by omega)
end Go.Proofs.YtmncdbepjhmkgaaDoor

/- Parts of the proof, joined: RefSplit, RefBase, QLex -/
import Derived.Test.YtmncdbepjhmkgaaGreatDoorJ01
/- What the document's own splitting answers. -/
namespace Go.Proofs.YtmncdbepjhmkgaaGreatDoor
open Go.RowKit LS

theorem Tryz.infoString : (Tryz.prog.info? 9).map (fun i => (i.zero, i.size, i.bytes)) = some (some (.string ByteArray.empty), 1, 16) := by kernel_rfl

theorem split_none {c : UInt8} {l : List UInt8} (h : c ∉ l) : split c l = [l] := by
  have := split_append c l [] h; rw [List.append_nil] at this; rw [this]; simp [split, pre]
theorem seg_step {s : ByteArray} {f k : Nat} (hf : f ≤ k) (hk : k < s.size) : ((bl s).take (k + 1)).drop f = ((bl s).take k).drop f ++ [s[k]] := by
  rw [take_snoc s k hk, List.drop_append_of_le_length (by rw [List.length_take, bl_length]; omega)]
theorem drop_seg {s : ByteArray} {f k : Nat} (hf : f ≤ k) : (bl s).drop f = ((bl s).take k).drop f ++ (bl s).drop k := by
  conv => lhs; rw [← List.take_append_drop k (bl s)]
  by_cases h : k ≤ (bl s).length
  · rw [List.drop_append_of_le_length (by rw [List.length_take]; omega)]
  · rw [List.drop_of_length_le (i := k) (by omega), List.append_nil, List.append_nil]

set_option maxRecDepth 100000 in
set_option maxHeartbeats 1000000 in
theorem rSplit_any (s : ByteArray) (c : UInt8) (w : World) (hs : s.size ≤ 6000) :
    Calls Tryz.prog 30 #[.string s, .int .u8 c.toNat] w fun e w' => ∃ (v : Value) (bs : List ByteArray), e = .returned v ∧
      w'.ownsRow w.heap.size 9 1 v bs.length (bs.map Value.string) ∧ Hid (bs.map bl = split c (bl s)) ∧ Below w.heap.size w w' := by
  obtain ⟨i0, hi, hz0, hz1, hz2⟩ := info_parts Tryz.infoString
  go_enter Tryz.func30, Tryz.ntmps30
  go_wp2
  go_loopw [5, 6, 7] (fun v fr i wr => ∃ (k f : Nat) (bs : List ByteArray), k ≤ s.size + 1 ∧ i = .int .i64 k ∧ fr = .int .i64 f ∧ bs.length ≤ k ∧ wr.ownsRow w.heap.size 9 1 v bs.length (bs.map Value.string) ∧ Below w.heap.size w wr ∧ f ≤ k ∧
      Hid ((k ≤ s.size ∧ split c (bl s) = bs.map bl ++ split c ((bl s).drop f) ∧ c ∉ ((bl s).take k).drop f) ∨ (k = s.size + 1 ∧ split c (bl s) = bs.map bl)))
    (fun _ _ i _ => s.size + 1 - (intOf i).toNat)
  case atStart => exact ⟨0, 0, [], Nat.zero_le _, rfl, rfl, Nat.le_refl _, World.ownsRow_nil _ _ _ _, Below.refl _ _, Nat.le_refl _, Or.inl ⟨Nat.zero_le _, by simp, by simp⟩⟩
  case round =>
    obtain ⟨k, f, bs, hk, rfl, rfl, hbk, hown, hbr, hfk, HA⟩ := hrel
    have hwr : w.heap.size ≤ wr.heap.size := hbr.size
    by_cases hle : k ≤ s.size
    · have HB : Hid (split c (bl s) = bs.map bl ++ split c ((bl s).drop f) ∧ c ∉ ((bl s).take k).drop f) := by
        rcases HA.out with ⟨_, h1, h2⟩ | ⟨h, _⟩
        · exact ⟨h1, h2⟩
        · omega
      clear HA
      have hcase : (k = s.size ∧ ((k : Int) == (s.size : Int)) = true) ∨ (((k : Int) == (s.size : Int)) = false ∧ ∃ h : k < s.size, ((s[k].toNat : Int) == (c.toNat : Int)) = true ∧ s[k] = c) ∨ (((k : Int) == (s.size : Int)) = false ∧ ∃ h : k < s.size, ((s[k].toNat : Int) == (c.toNat : Int)) = false ∧ s[k] ≠ c) := by
        by_cases h : k < s.size
        · have h0 : ((k : Int) == (s.size : Int)) = false := by rw [beq_eq_false_iff_ne]; omega
          by_cases he : s[k] = c
          · exact Or.inr (Or.inl ⟨h0, h, by rw [he]; simp, he⟩)
          · exact Or.inr (Or.inr ⟨h0, h, by rw [beq_eq_false_iff_ne]; intro hh; exact he (UInt8.toNat_inj.1 (by omega)), he⟩)
        · exact Or.inl ⟨by omega, by rw [beq_iff_eq]; omega⟩
      rcases hcase with ⟨hks, hb0⟩ | ⟨hb0, hlt, hb1, he⟩ | ⟨hb0, hlt, hb1, he⟩
      · have HF : Hid ((k + 1 ≤ s.size ∧ split c (bl s) = (bs ++ [s.extract f k]).map bl ++ split c ((bl s).drop (k + 1)) ∧ c ∉ ((bl s).take (k + 1)).drop (k + 1)) ∨ (k + 1 = s.size + 1 ∧ split c (bl s) = (bs ++ [s.extract f k]).map bl)) := by
          refine Or.inr ⟨by omega, ?_⟩
          have h2 := HB.out.2
          have hd := drop_seg (s := s) hfk
          rw [List.drop_of_length_le (i := k) (by rw [bl_length]; omega), List.append_nil] at hd
          rw [HB.out.1, hd, split_none h2, List.map_append, List.map_cons, List.map_nil, bl_extract]
        have HK : Hid (k = s.size) := hks
        clear hks HB
        go_wp2_with (at_builtin; refine wpList_append_own _ rfl (.tmp 25) (.tmp 30) 78 rfl w.heap.size 9 i0 (.string ByteArray.empty) 1 16 Tryz.underlying78 hi hz0 hz1 hz2 rfl (by decide) _ _ _ rfl (hown.alloc _) ⟨wr.heap.size, 0, none⟩ 1 1 [.string (s.extract f k)] rfl rfl ?c1 ?c2 ?c3 ?c4 ?c5 ?_)
        case c1 => exact cell_one_new _ _ _
        case c2 => intro u hu; simp at hu; subst hu; rfl
        case c3 => unfold maxLen; omega
        case c4 => omega
        case c5 => simp; omega
        intro v' w3 hown3 hgrow _
        have hb3 : Below w.heap.size w w3 := (hbr.alloc (by omega) _).grown hgrow (by simp; omega) (fun q hq => (hown.lt q hq).1)
        have hown4 : w3.ownsRow w.heap.size 9 1 v' (bs ++ [s.extract f k]).length ((bs ++ [s.extract f k]).map Value.string) := by
          rw [List.length_append, List.map_append]; exact hown3
        clear hown hgrow hown3
        go_wp2
        go_roundw
        case rel => exact ⟨k + 1, k + 1, _, by omega, by go_num, by go_num, by simp; omega, hown4, hb3, Nat.le_refl _, HF⟩
        case measure => simp [intOf]; omega
      · have HF : Hid ((k + 1 ≤ s.size ∧ split c (bl s) = (bs ++ [s.extract f k]).map bl ++ split c ((bl s).drop (k + 1)) ∧ c ∉ ((bl s).take (k + 1)).drop (k + 1)) ∨ (k + 1 = s.size + 1 ∧ split c (bl s) = (bs ++ [s.extract f k]).map bl)) := by
          refine Or.inl ⟨by omega, ?_, ?_⟩
          · have hd := drop_seg (s := s) hfk
            rw [drop_cons s k hlt, he] at hd
            rw [HB.out.1, hd, split_append c _ _ HB.out.2, split_hit, List.map_append, List.map_cons, List.map_nil, bl_extract]
            simp [pre]
          · rw [List.drop_of_length_le (by rw [List.length_take]; omega)]; simp
        clear HB he
        go_wp2_with (at_builtin; refine wpList_append_own _ rfl (.tmp 25) (.tmp 30) 78 rfl w.heap.size 9 i0 (.string ByteArray.empty) 1 16 Tryz.underlying78 hi hz0 hz1 hz2 rfl (by decide) _ _ _ rfl (hown.alloc _) ⟨wr.heap.size, 0, none⟩ 1 1 [.string (s.extract f k)] rfl rfl ?c1 ?c2 ?c3 ?c4 ?c5 ?_)
        case c1 => exact cell_one_new _ _ _
        case c2 => intro u hu; simp at hu; subst hu; rfl
        case c3 => unfold maxLen; omega
        case c4 => omega
        case c5 => simp; omega
        intro v' w3 hown3 hgrow _
        have hb3 : Below w.heap.size w w3 := (hbr.alloc (by omega) _).grown hgrow (by simp; omega) (fun q hq => (hown.lt q hq).1)
        have hown4 : w3.ownsRow w.heap.size 9 1 v' (bs ++ [s.extract f k]).length ((bs ++ [s.extract f k]).map Value.string) := by
          rw [List.length_append, List.map_append]; exact hown3
        clear hown hgrow hown3
        go_wp2
        go_roundw
        case rel => exact ⟨k + 1, k + 1, _, by omega, by go_num, by go_num, by simp; omega, hown4, hb3, Nat.le_refl _, HF⟩
        case measure => simp [intOf]; omega
      · have HF : Hid ((k + 1 ≤ s.size ∧ split c (bl s) = bs.map bl ++ split c ((bl s).drop f) ∧ c ∉ ((bl s).take (k + 1)).drop f) ∨ (k + 1 = s.size + 1 ∧ split c (bl s) = bs.map bl)) := by
          refine Or.inl ⟨by omega, HB.out.1, ?_⟩
          rw [seg_step hfk hlt, List.mem_append, not_or]
          exact ⟨HB.out.2, by simp; exact fun h => he h.symm⟩
        clear HB he
        go_wp2
        go_roundw
        case rel => exact ⟨k + 1, f, bs, by omega, by go_num, rfl, by omega, hown, hbr, by omega, HF⟩
        case measure => simp [intOf]; omega
    · have HF : Hid (bs.map bl = split c (bl s)) := hid (by
        rcases HA.out with ⟨h, _⟩ | ⟨_, h⟩
        · omega
        · exact h.symm)
      go_wp2
      go_ret
      exact ⟨_, bs, rfl, hown, HF, hbr⟩
end Go.Proofs.YtmncdbepjhmkgaaGreatDoor
/- The document's own splitting and seeking, in the forms that the walks take. -/
namespace Go.Proofs.YtmncdbepjhmkgaaGreatDoor
open Go.RowKit LS

theorem cut_seek {c : UInt8} {l : List UInt8} {p : Nat} (h : LS.seek c l = some p) : cut c l = some (l.take p, l.drop (p + 1)) := by unfold cut; rw [h]; rfl
theorem cut_seek_none {c : UInt8} {l : List UInt8} (h : LS.seek c l = none) : cut c l = none := by unfold cut; rw [h]; rfl
theorem seek_some_any {s : ByteArray} {c : UInt8} {p : Nat} (ci : Int) (w : World) (hci : ci = c.toNat) (hs : s.size ≤ 6000) (h : LS.seek c (bl s) = some p) :
    Calls Tryz.prog 84 #[.string s, .int .u8 ci] w fun e w' => e = .returned (.int .i64 p) ∧ w' = w := by
  subst hci
  have := seek_any s c w hs
  rwa [seekI_some h] at this
theorem seek_none_any {s : ByteArray} {c : UInt8} (ci : Int) (w : World) (hci : ci = c.toNat) (hs : s.size ≤ 6000) (h : LS.seek c (bl s) = none) :
    Calls Tryz.prog 84 #[.string s, .int .u8 ci] w fun e w' => e = .returned (.int .i64 (-1)) ∧ w' = w := by
  subst hci
  have := seek_any s c w hs
  rwa [seekI_none h] at this
theorem rIsWord_of {s : ByteArray} {b : Bool} (w : World) (hs : s.size ≤ 6000) (h : isWord (bl s) = b) :
    Calls Tryz.prog 85 #[.string s] w fun e w' => e = .returned (.bool b) ∧ w' = w := by
  have := rIsWord_any s w hs; rwa [h] at this
theorem rSplit_of (s : ByteArray) (c : UInt8) (ci : Int) (w : World) (hci : ci = c.toNat) (hs : s.size ≤ 6000) :
    Calls Tryz.prog 30 #[.string s, .int .u8 ci] w fun e w' => ∃ (g n cp : Nat) (bs : List ByteArray), e = .returned (.slice (some ⟨g, 0, none⟩) n cp) ∧
      n = bs.length ∧ w.heap.size ≤ g ∧ g < w'.heap.size ∧ Hid (∀ i (h : i < bs.length), w'.cell? ⟨g, i, none⟩ = some (.string bs[i])) ∧ Hid (bs.map bl = split c (bl s)) ∧ Below w.heap.size w w' := by
  subst hci
  refine (rSplit_any s c w hs).mono ?_
  rintro e w' ⟨v, bs, rfl, hown, hsp, hb⟩
  have hpos : 0 < bs.length := by
    have : bs.length = (split c (bl s)).length := by rw [← hsp.out, List.length_map]
    rw [this]; exact List.length_pos_iff.2 (split_ne c (bl s))
  obtain ⟨g, cp, rfl⟩ := own_some hown hpos
  refine ⟨g, bs.length, cp, bs, rfl, rfl, (hown.lt g rfl).1, own_lt hown, fun i hi => own_cell hown i _ (by simp [hi]), hsp, hb⟩
theorem map_bl_get {bs : List ByteArray} {ps : List (List UInt8)} (h : bs.map bl = ps) (i : Nat) (hi : i < bs.length) : bl bs[i] = ps.getD i [] := by
  subst h; simp [hi]
theorem numI_bounds (most : Nat) (l : List UInt8) : -1 ≤ numI most l ∧ numI most l ≤ most := by
  cases h : number most l with
  | none => rw [numI_none h]; omega
  | some v => rw [numI_some h]; have := number_le h; omega
theorem rNumber_of {s : ByteArray} (most : Nat) (mi : Int) (w : World) (hmi : mi = most) (hs : s.size ≤ 6000) (hm : most ≤ 1000000000) :
    Calls Tryz.prog 83 #[.string s, .int .i64 mi] w fun e w' => e = .returned (.int .i64 (numI most (bl s))) ∧ w' = w := by
  subst hmi; exact rNumber_any s most w hs hm
theorem number_of_numI {most : Nat} {l : List UInt8} {t : Int} (h : numI most l = t) (ht : 0 ≤ t) : number most l = some t.toNat := by
  cases hn : number most l with
  | none => rw [numI_none hn] at h; omega
  | some v => rw [numI_some hn] at h; subst h; rfl
theorem number_none_of {most : Nat} {l : List UInt8} {t : Int} (h : numI most l = t) (ht : t < 0) : number most l = none := by
  cases hn : number most l with
  | none => rfl
  | some v => rw [numI_some hn] at h; omega
end Go.Proofs.YtmncdbepjhmkgaaGreatDoor
/- Tokens, as a plain function on bytes; and what the document's own lexer answers. -/
namespace Go.Proofs.YtmncdbepjhmkgaaGreatDoor.LS
open Go Go.RowKit

structure Tok where
  kind : Nat
  txt : List UInt8
  at_ : Nat
def run (p : UInt8 → Bool) : List UInt8 → Nat
  | [] => 0
  | b :: l => if p b then run p l + 1 else 0
def signs : List UInt8 := [40, 41, 123, 125, 91, 93, 44, 61, 43, 45, 42, 47]
def lexC (l : List UInt8) (j : Nat) (c : UInt8) (r : List UInt8) : Tok × Nat :=
  if digit c then (if (number 1000000000 ((c :: r).take (run digit (c :: r)))).isSome then ⟨1, (c :: r).take (run digit (c :: r)), j⟩ else ⟨5, [], j⟩, j + run digit (c :: r))
  else if letter c then (if 8 < run letter (c :: r) then ⟨5, [], j⟩ else ⟨2, (c :: r).take (run letter (c :: r)), j⟩, j + run letter (c :: r))
  else if c == 34 then match seek 34 r with
    | none => (⟨5, [], j⟩, l.length)
    | some p => (if isWord (r.take p) then ⟨3, r.take p, j⟩ else ⟨5, [], j⟩, j + p + 2)
  else if c == 33 && r.head? == some 61 then (⟨4, [33, 61], j⟩, j + 2)
  else if (seek c signs).isSome then (⟨4, [c], j⟩, j + 1) else (⟨5, [], j⟩, j + 1)
def lexJ (l : List UInt8) (j : Nat) : Tok × Nat := match l.drop j with
  | [] => (⟨0, [], j⟩, j)
  | c :: r => lexC l j c r
/-- the first token from place i on, and the place behind it. -/
def lexAt (l : List UInt8) (i : Nat) : Tok × Nat := lexJ l (i + run (· == 32) (l.drop i))
theorem run_le (p : UInt8 → Bool) (l : List UInt8) : run p l ≤ l.length := by
  induction l with
  | nil => exact Nat.le_refl _
  | cons b l ih => unfold run; split <;> simp; omega
theorem lexAt_skip (s : ByteArray) (j : Nat) (h : j < s.size) (hc : s[j] = 32) : lexAt (bl s) j = lexAt (bl s) (j + 1) := by
  unfold lexAt
  rw [drop_cons s j h]
  have : run (· == 32) (s[j] :: (bl s).drop (j + 1)) = run (· == 32) ((bl s).drop (j + 1)) + 1 := by rw [hc]; rfl
  rw [this, show j + (run (· == 32) ((bl s).drop (j + 1)) + 1) = j + 1 + run (· == 32) ((bl s).drop (j + 1)) by omega]
theorem lexAt_at (s : ByteArray) (j : Nat) (h : j < s.size) (hc : s[j] ≠ 32) : lexAt (bl s) j = lexC (bl s) j s[j] ((bl s).drop (j + 1)) := by
  unfold lexAt
  rw [drop_cons s j h]
  have : run (· == 32) (s[j] :: (bl s).drop (j + 1)) = 0 := by simp [run, hc]
  rw [this, Nat.add_zero]
  unfold lexJ
  rw [drop_cons s j h]
theorem lexAt_end (s : ByteArray) (j : Nat) (h : ¬ j < s.size) (hj : j ≤ s.size) : lexAt (bl s) j = (⟨0, [], j⟩, j) := by
  have hd : (bl s).drop j = [] := List.drop_of_length_le (by rw [bl_length]; omega)
  unfold lexAt
  rw [hd]
  show lexJ (bl s) j = _
  unfold lexJ
  rw [hd]
theorem run_cut (p : UInt8 → Bool) (s : ByteArray) (j k : Nat) (hj : j ≤ k) (hk : k ≤ s.size) (ha : ∀ i (h : i < s.size), j ≤ i → i < k → p s[i] = true) (he : ∀ h : k < s.size, p s[k] = false) : j + run p ((bl s).drop j) = k := by
  induction hd : k - j generalizing j with
  | zero =>
    obtain rfl : j = k := by omega
    by_cases h : j < s.size
    · rw [drop_cons s j h]; simp [run, he h]
    · rw [List.drop_of_length_le (by rw [bl_length]; omega)]; rfl
  | succ n ih =>
    have h : j < s.size := by omega
    have := ih (j + 1) (by omega) (fun i hi h1 h2 => ha i hi (by omega) h2) (by omega)
    rw [drop_cons s j h]
    simp only [run, ha j h (Nat.le_refl _) (by omega), if_true]
    omega
end Go.Proofs.YtmncdbepjhmkgaaGreatDoor.LS
namespace Go.Proofs.YtmncdbepjhmkgaaGreatDoor
open Go.RowKit LS

set_option maxHeartbeats 1000000 in
theorem while_digit (s : ByteArray) (j : Nat) (w : World) (hs : s.size ≤ 6000) (hj : j ≤ s.size) :
    Calls Tryz.prog 82 #[.string s, .int .i64 j, .bool true] w fun e w' => e = .returned (.int .i64 ((j + run digit ((bl s).drop j) : Nat) : Int)) ∧ w' = w := by
  go_enter Tryz.func82, Tryz.ntmps82
  go_wp2
  go_loop [1] (fun i => ∃ k : Nat, k ≤ s.size ∧ j ≤ k ∧ i = .int .i64 k ∧ Hid (∀ q (h : q < s.size), j ≤ q → q < k → digit s[q] = true)) (fun i => s.size - (intOf i).toNat)
  case atStart => exact ⟨j, hj, Nat.le_refl _, rfl, fun q h h1 h2 => by omega⟩
  case round =>
    obtain ⟨k, hk, hjk, rfl, ha⟩ := hrel
    by_cases hlt : k < s.size
    · cases hl : digit s[k]
      · have HF : Hid (j + run digit ((bl s).drop j) = k) := run_cut _ s j k hjk hk ha.out (fun _ => hl)
        go_wp2_with (first | (go_at_call 81; refine (letter_any _ _).mono ?_; rintro e w' ⟨rfl, rfl⟩) | (go_at_call 80; refine (digit_any _ _).mono ?_; rintro e w' ⟨rfl, rfl⟩))
        go_ret
        exact ⟨ret_int (by have := HF.out; omega), rfl⟩
      · have HF : Hid (∀ q (h : q < s.size), j ≤ q → q < k + 1 → digit s[q] = true) := fun q h h1 h2 => by
          rcases Nat.lt_succ_iff_lt_or_eq.1 h2 with h3 | h3
          · exact ha.out q h h1 h3
          · subst h3; exact hl
        go_wp2_with (first | (go_at_call 81; refine (letter_any _ _).mono ?_; rintro e w' ⟨rfl, rfl⟩) | (go_at_call 80; refine (digit_any _ _).mono ?_; rintro e w' ⟨rfl, rfl⟩))
        go_round
        case rel => exact ⟨k + 1, by omega, by omega, by go_num, HF⟩
        case measure => simp [intOf]; omega
    · have HF : Hid (j + run digit ((bl s).drop j) = k) := run_cut _ s j k hjk hk ha.out (fun h => absurd h hlt)
      go_wp2
      go_ret
      exact ⟨ret_int (by have := HF.out; omega), rfl⟩
set_option maxHeartbeats 1000000 in
theorem while_letter (s : ByteArray) (j : Nat) (w : World) (hs : s.size ≤ 6000) (hj : j ≤ s.size) :
    Calls Tryz.prog 82 #[.string s, .int .i64 j, .bool false] w fun e w' => e = .returned (.int .i64 ((j + run letter ((bl s).drop j) : Nat) : Int)) ∧ w' = w := by
  go_enter Tryz.func82, Tryz.ntmps82
  go_wp2
  go_loop [1] (fun i => ∃ k : Nat, k ≤ s.size ∧ j ≤ k ∧ i = .int .i64 k ∧ Hid (∀ q (h : q < s.size), j ≤ q → q < k → letter s[q] = true)) (fun i => s.size - (intOf i).toNat)
  case atStart => exact ⟨j, hj, Nat.le_refl _, rfl, fun q h h1 h2 => by omega⟩
  case round =>
    obtain ⟨k, hk, hjk, rfl, ha⟩ := hrel
    by_cases hlt : k < s.size
    · cases hl : letter s[k]
      · have HF : Hid (j + run letter ((bl s).drop j) = k) := run_cut _ s j k hjk hk ha.out (fun _ => hl)
        go_wp2_with (first | (go_at_call 81; refine (letter_any _ _).mono ?_; rintro e w' ⟨rfl, rfl⟩) | (go_at_call 80; refine (digit_any _ _).mono ?_; rintro e w' ⟨rfl, rfl⟩))
        go_ret
        exact ⟨ret_int (by have := HF.out; omega), rfl⟩
      · have HF : Hid (∀ q (h : q < s.size), j ≤ q → q < k + 1 → letter s[q] = true) := fun q h h1 h2 => by
          rcases Nat.lt_succ_iff_lt_or_eq.1 h2 with h3 | h3
          · exact ha.out q h h1 h3
          · subst h3; exact hl
        go_wp2_with (first | (go_at_call 81; refine (letter_any _ _).mono ?_; rintro e w' ⟨rfl, rfl⟩) | (go_at_call 80; refine (digit_any _ _).mono ?_; rintro e w' ⟨rfl, rfl⟩))
        go_round
        case rel => exact ⟨k + 1, by omega, by omega, by go_num, HF⟩
        case measure => simp [intOf]; omega
    · have HF : Hid (j + run letter ((bl s).drop j) = k) := run_cut _ s j k hjk hk ha.out (fun h => absurd h hlt)
      go_wp2
      go_ret
      exact ⟨ret_int (by have := HF.out; omega), rfl⟩
end Go.Proofs.YtmncdbepjhmkgaaGreatDoor

/- Parts of the proof, joined: Num, OwnC -/
import Derived.Test.YtmncdbepjhmkgaaGreatDoorJ00
import Derived.WalkSpells
import Derived.WalkLawsBesides
/- What the two readers of numbers answer. -/
namespace Go.Proofs.YtmncdbepjhmkgaaGreatDoor
open Go.RowKit LS

def numI (most : Nat) (l : List UInt8) : Int := match number most l with | none => -1 | some v => v
theorem numI_none {most : Nat} {l : List UInt8} (h : number most l = none) : numI most l = -1 := by unfold numI; rw [h]
theorem numI_some {most v : Nat} {l : List UInt8} (h : number most l = some v) : numI most l = v := by unfold numI; rw [h]
theorem number_short (most : Nat) (s : ByteArray) (h : s.size < 1) : number most (bl s) = none := by
  unfold number; rw [if_pos (Or.inl (by rw [bl_length]; exact h))]
theorem number_zero (most : Nat) (s : ByteArray) (h1 : 1 < s.size) (h : s[0].toNat = 48) : number most (bl s) = none := by
  unfold number
  refine if_pos (Or.inr (Or.inl ⟨?_, by rw [bl_length]; exact h1⟩))
  rw [List.head?_eq_getElem?, List.getElem?_eq_getElem (by rw [bl_length]; omega), bl_get s 0 (by omega)]
  exact congrArg some (UInt8.toNat_inj.1 h)
theorem number_bad (most : Nat) (s : ByteArray) (k : Nat) (h : k < s.size) (hd : digit s[k] = false) : number most (bl s) = none := by
  unfold number; exact if_pos (Or.inr (Or.inr (Or.inl (all_fail digit s k h hd))))
theorem number_over (most : Nat) (s : ByteArray) (k : Nat) (h : k < s.size) (ho : most < 10 * val ((bl s).take k) + (s[k].toNat - 48)) : number most (bl s) = none := by
  unfold number
  refine if_pos (Or.inr (Or.inr (Or.inr ?_)))
  have := val_take_le (bl s) (k + 1)
  rw [take_snoc s k h, val_snoc] at this
  omega
theorem number_ok (most : Nat) (s : ByteArray) (k : Nat) (h : ¬ k < s.size) (h1 : 1 ≤ s.size) (hz : ¬ (s[0].toNat = 48 ∧ 1 < s.size)) (ha : ((bl s).take k).all digit = true) (hv : val ((bl s).take k) ≤ most) : number most (bl s) = some (val ((bl s).take k)) := by
  have ha' := all_end digit s k h ha
  rw [List.take_of_length_le (by rw [bl_length]; omega)] at hv ⊢
  unfold number
  refine if_neg ?_
  rintro (h | ⟨h, h'⟩ | h | h)
  · rw [bl_length] at h; omega
  · rw [bl_length] at h'
    rw [List.head?_eq_getElem?, List.getElem?_eq_getElem (by rw [bl_length]; omega), bl_get s 0 (by omega)] at h
    exact hz ⟨by rw [Option.some.inj h]; rfl, h'⟩
  · rw [ha'] at h; cases h
  · omega
theorem val_step (s : ByteArray) (k : Nat) (h : k < s.size) : val ((bl s).take (k + 1)) = 10 * val ((bl s).take k) + (s[k].toNat - 48) := by
  rw [take_snoc s k h, val_snoc]

set_option maxHeartbeats 1000000 in
theorem rNumber_any (s : ByteArray) (most : Nat) (w : World) (hs : s.size ≤ 6000) (hm : most ≤ 1000000000) :
    Calls Tryz.prog 83 #[.string s, .int .i64 most] w fun e w' => e = .returned (.int .i64 (numI most (bl s))) ∧ w' = w := by
  by_cases h0 : s.size < 1
  · have HF : Hid (numI most (bl s) = -1) := numI_none (number_short most s h0)
    go_enter Tryz.func83, Tryz.ntmps83
    go_wp2
    go_ret
    exact ⟨ret_int HF.out.symm, rfl⟩
  have h1 : 1 ≤ s.size := by omega
  by_cases hz : s[0].toNat = 48 ∧ 1 < s.size
  · have HF : Hid (numI most (bl s) = -1) := numI_none (number_zero most s hz.2 hz.1)
    have hz1 : ((s[0].toNat : Int) == 48) = true := by rw [hz.1]; rfl
    have hz2 := hz.2
    clear hz
    go_enter Tryz.func83, Tryz.ntmps83
    go_wp2
    go_ret
    exact ⟨ret_int HF.out.symm, rfl⟩
  have HZ : Hid (¬ (s[0].toNat = 48 ∧ 1 < s.size)) := hz
  have hd1 : decide ((s.size : Int) < 1) = false := by simp; omega
  have hcase : (((s[0].toNat : Int) == 48) = true ∧ decide (1 < (s.size : Int)) = false) ∨ ((s[0].toNat : Int) == 48) = false := by
    by_cases hz1 : s[0].toNat = 48
    · exact Or.inl ⟨by rw [hz1]; rfl, by simp; have : ¬ 1 < s.size := fun h => hz ⟨hz1, h⟩; omega⟩
    · exact Or.inr (by rw [beq_eq_false_iff_ne]; omega)
  clear hz h0
  rcases hcase with ⟨hz3, hd2⟩ | hz3
  all_goals
    go_enter Tryz.func83, Tryz.ntmps83
    go_wp2
    go_loop [5, 6] (fun n i => ∃ k : Nat, k ≤ s.size ∧ i = .int .i64 k ∧ n = .int .i64 (val ((bl s).take k)) ∧ val ((bl s).take k) ≤ most ∧ ((bl s).take k).all digit = true) (fun _ i => s.size - (intOf i).toNat)
    case atStart => exact ⟨0, Nat.zero_le _, rfl, by simp [val], by simp [val], by simp⟩
    case round =>
      obtain ⟨k, hk, rfl, rfl, hv, ha0⟩ := hrel
      have ha : Hid (((bl s).take k).all digit = true) := ha0
      clear ha0
      by_cases hlt : k < s.size
      · cases hd : digit s[k]
        · have HF : Hid (numI most (bl s) = -1) := numI_none (number_bad most s k hlt hd)
          go_wp2_with (go_at_call 80; refine (digit_any _ _).mono ?_; rintro e w' ⟨rfl, rfl⟩)
          go_ret
          exact ⟨ret_int HF.out.symm, rfl⟩
        · obtain ⟨d1, d2⟩ := digit_bounds hd
          have HS : Hid (val ((bl s).take (k + 1)) = 10 * val ((bl s).take k) + (s[k].toNat - 48)) := val_step s k hlt
          have HA : Hid (((bl s).take (k + 1)).all digit = true) := all_step digit s k hlt ha.out hd
          by_cases ho : most < 10 * val ((bl s).take k) + (s[k].toNat - 48)
          · have HF : Hid (numI most (bl s) = -1) := numI_none (number_over most s k hlt ho)
            go_wp2_with (go_at_call 80; refine (digit_any _ _).mono ?_; rintro e w' ⟨rfl, rfl⟩)
            go_ret
            exact ⟨ret_int HF.out.symm, rfl⟩
          · go_wp2_with (go_at_call 80; refine (digit_any _ _).mono ?_; rintro e w' ⟨rfl, rfl⟩)
            go_round
            case rel => exact ⟨k + 1, by omega, by go_num, by rw [HS.out]; go_num, by rw [HS.out]; omega, HA.out⟩
            case measure => simp [intOf]; omega
      · have HF : Hid (numI most (bl s) = val ((bl s).take k)) := numI_some (number_ok most s k hlt h1 HZ.out ha.out hv)
        go_wp2
        go_ret
        exact ⟨ret_int HF.out.symm, rfl⟩

def numT (most : Nat) (l : List UInt8) : Value := .tuple #[.int .i64 ((number most l).getD 0 : Nat), .bool (number most l).isSome]
theorem numT_none {most : Nat} {l : List UInt8} (h : number most l = none) : numT most l = .tuple #[.int .i64 0, .bool false] := by unfold numT; rw [h]; rfl
theorem numT_some {most v : Nat} {l : List UInt8} (h : number most l = some v) : numT most l = .tuple #[.int .i64 v, .bool true] := by unfold numT; rw [h]; rfl

set_option maxHeartbeats 1000000 in
theorem wNumber_any (s : ByteArray) (most : Nat) (w : World) (hs : s.size ≤ 6000) (hm9 : 9 ≤ most) (hm : most ≤ 1000000000) :
    Calls Tryz.prog 35 #[.string s, .int .i64 most] w fun e w' => e = .returned (numT most (bl s)) ∧ w' = w := by
  by_cases h0 : s.size < 1
  · have HF : Hid (numT most (bl s) = _) := numT_none (number_short most s h0)
    have he : s.toList.isEmpty = true := empty_of h0
    go_enter Tryz.func35, Tryz.ntmps35
    go_wp2
    go_ret2
    exact ⟨by rw [HF.out]; rfl, rfl⟩
  have h1 : 1 ≤ s.size := by omega
  have he : s.toList.isEmpty = false := not_empty_of h1
  by_cases hz : s[0].toNat = 48 ∧ 1 < s.size
  · have HF : Hid (numT most (bl s) = _) := numT_none (number_zero most s hz.2 hz.1)
    have hz1 : ((s[0].toNat : Int) == 48) = true := by rw [hz.1]; rfl
    have hz2 := hz.2
    clear hz
    go_enter Tryz.func35, Tryz.ntmps35
    go_wp2
    go_ret2
    exact ⟨by rw [HF.out]; rfl, rfl⟩
  have HZ : Hid (¬ (s[0].toNat = 48 ∧ 1 < s.size)) := hz
  have hcase : (((s[0].toNat : Int) == 48) = true ∧ decide (1 < (s.size : Int)) = false) ∨ ((s[0].toNat : Int) == 48) = false := by
    by_cases hz1 : s[0].toNat = 48
    · exact Or.inl ⟨by rw [hz1]; rfl, by simp; have : ¬ 1 < s.size := fun h => hz ⟨hz1, h⟩; omega⟩
    · exact Or.inr (by rw [beq_eq_false_iff_ne]; omega)
  clear hz h0
  rcases hcase with ⟨hz3, hd2⟩ | hz3
  all_goals
    go_enter Tryz.func35, Tryz.ntmps35
    go_wp2
    go_loop [6, 23] (fun n i => ∃ k : Nat, k ≤ s.size ∧ i = .int .i64 k ∧ n = .int .i64 (val ((bl s).take k)) ∧ val ((bl s).take k) ≤ most ∧ ((bl s).take k).all digit = true) (fun _ i => s.size - (intOf i).toNat)
    case atStart => exact ⟨0, Nat.zero_le _, rfl, by simp [val], by simp [val], by simp⟩
    case round =>
      obtain ⟨k, hk, rfl, rfl, hv, ha0⟩ := hrel
      have ha : Hid (((bl s).take k).all digit = true) := ha0
      clear ha0
      by_cases hlt : k < s.size
      · cases hd : digit s[k]
        · have HF : Hid (numT most (bl s) = _) := numT_none (number_bad most s k hlt hd)
          go_wp2_with (go_at_call 33; refine (isDigit_any _ _).mono ?_; rintro e w' ⟨rfl, rfl⟩)
          go_ret2
          exact ⟨by rw [HF.out]; rfl, rfl⟩
        · obtain ⟨d1, d2⟩ := digit_bounds hd
          have HS : Hid (val ((bl s).take (k + 1)) = 10 * val ((bl s).take k) + (s[k].toNat - 48)) := val_step s k hlt
          have HA : Hid (((bl s).take (k + 1)).all digit = true) := all_step digit s k hlt ha.out hd
          by_cases ho : most < 10 * val ((bl s).take k) + (s[k].toNat - 48)
          · have HF : Hid (numT most (bl s) = _) := numT_none (number_over most s k hlt ho)
            go_wp2_with (go_at_call 33; refine (isDigit_any _ _).mono ?_; rintro e w' ⟨rfl, rfl⟩)
            all_goals first | (exfalso; omega) | (go_ret2; exact ⟨by rw [HF.out]; rfl, rfl⟩)
          · go_wp2_with (go_at_call 33; refine (isDigit_any _ _).mono ?_; rintro e w' ⟨rfl, rfl⟩)
            all_goals first | (exfalso; omega) | skip
            go_round
            case rel => exact ⟨k + 1, by omega, by go_num, by rw [HS.out]; go_num, by rw [HS.out]; omega, HA.out⟩
            case measure => simp [intOf]; omega
      · have HF : Hid (numT most (bl s) = _) := numT_some (number_ok most s k hlt h1 HZ.out ha.out hv)
        go_wp2
        go_ret2
        exact ⟨by rw [HF.out]; rfl, rfl⟩
end Go.Proofs.YtmncdbepjhmkgaaGreatDoor
/- What stays owned, what stays below, small facts on cells: no function of the program is named here. -/
namespace Go.Proofs.YtmncdbepjhmkgaaGreatDoor
open Go.RowKit LS

theorem bl_one (c : UInt8) : (⟨#[c]⟩ : ByteArray).data.toList = [c] := rfl
theorem own_below {w w' : World} {base : Nat} {e : TypeId} {size : Nat} {v : Value} {n : Nat} {xs : List Value} (h : w.ownsRow base e size v n xs) (hb : Below w.heap.size w w') : w'.ownsRow base e size v n xs := by
  obtain ⟨h1, h2⟩ := h
  refine ⟨h1, ?_⟩
  rcases h2 with h2 | ⟨g, cap, cur, hv, hg, hh, r⟩
  · exact Or.inl h2
  · have hlt : g < w.heap.size := by
      rcases Nat.lt_or_ge g w.heap.size with h | h
      · exact h
      · rw [Array.getElem?_eq_none h] at hh; cases hh
    exact Or.inr ⟨g, cap, cur, hv, hg, by rw [hb.block g hlt]; exact hh, r⟩
theorem own_shape {w : World} {base : Nat} {e : TypeId} {size : Nat} {v : Value} {n : Nat} {xs : List Value} (h : w.ownsRow base e size v n xs) : ∃ av cp, v = .slice av n cp := by
  rcases h.2 with ⟨h, h'⟩ | ⟨g, cap, cur, h, _⟩
  · exact ⟨none, 0, by rw [h, h']⟩
  · exact ⟨_, _, h⟩
theorem own_drewN {w : World} {base : Nat} {e : TypeId} {size : Nat} {v : Value} {n : Nat} {xs : List Value} (h : w.ownsRow base e size v n xs) (k : Nat) : (w.drewN k).ownsRow base e size v n xs := h
theorem below_drewN (B : Nat) (w : World) (k : Nat) : Below B w (w.drewN k) := ⟨rfl, rfl, rfl, Nat.le_refl _, fun _ _ => rfl⟩
theorem below_drewN' {B : Nat} {a w : World} (h : Below B a w) (k : Nat) : Below B a (w.drewN k) := h.trans (below_drewN B w k)
theorem below_undrew {B : Nat} {w w' : World} {k : Nat} (h : Below B (w.drewN k) w') : Below B w w' := ⟨h.os, h.tape, h.output, h.size, h.block⟩
theorem size_of_bl {s : ByteArray} {r : List UInt8} (h : bl s = r) : s.size = r.length := by rw [← bl_length, h]
theorem cells_two {W : World} {a : Nat} {u v : Value} (h0 : W.cell? ⟨a, 0, none⟩ = some u) (h1 : W.cell? ⟨a, 1, none⟩ = some v) : ∀ j x, [u, v][j]? = some x → W.cell? ((⟨a, 0, none⟩ : Addr).add j) = some x := by
  intro j x hj
  match j, hj with
  | 0, hj => simp at hj; subst hj; simpa [Addr.add] using h0
  | 1, hj => simp at hj; subst hj; simpa [Addr.add] using h1
theorem bcell {W w1 : World} (hb : Below W.heap.size W w1) : (∀ b o, b < W.heap.size → w1.cell? ⟨b, o, none⟩ = W.cell? ⟨b, o, none⟩) ∧ (∀ b o, b < W.heap.size → w1.frozen? ⟨b, o, none⟩ = W.frozen? ⟨b, o, none⟩) :=
  ⟨fun b o h => hb.cell (p := ⟨b, o, none⟩) h, fun b o h => hb.frozen (p := ⟨b, o, none⟩) h⟩
theorem box3 {w w1 : World} {x y z : Value} {t : TypeId} (hb : Below (w.heap.size + 1) (w.alloc (.cells #[x, y, z] t)) w1) :
    w1.cell? ⟨w.heap.size, 0, none⟩ = some x ∧ w1.cell? ⟨w.heap.size, 1, none⟩ = some y ∧ w1.cell? ⟨w.heap.size, 2, none⟩ = some z ∧
    w1.frozen? ⟨w.heap.size, 0, none⟩ = false ∧ w1.frozen? ⟨w.heap.size, 1, none⟩ = false ∧ w1.frozen? ⟨w.heap.size, 2, none⟩ = false := by
  have h : ∀ o, w1.cell? ⟨w.heap.size, o, none⟩ = (w.alloc (.cells #[x, y, z] t)).cell? ⟨w.heap.size, o, none⟩ := fun o => hb.cell (p := ⟨_, o, none⟩) (Nat.lt_succ_self _)
  have f : ∀ o, w1.frozen? ⟨w.heap.size, o, none⟩ = (w.alloc (.cells #[x, y, z] t)).frozen? ⟨w.heap.size, o, none⟩ := fun o => hb.frozen (p := ⟨_, o, none⟩) (Nat.lt_succ_self _)
  simp [h, f]
theorem cells_three {W : World} {a : Nat} {u v x : Value} (h0 : W.cell? ⟨a, 0, none⟩ = some u) (h1 : W.cell? ⟨a, 1, none⟩ = some v) (h2 : W.cell? ⟨a, 2, none⟩ = some x) : ∀ j y, [u, v, x][j]? = some y → W.cell? ((⟨a, 0, none⟩ : Addr).add j) = some y := by
  intro j y hj
  match j, hj with
  | 0, hj => simp at hj; subst hj; simpa [Addr.add] using h0
  | 1, hj => simp at hj; subst hj; simpa [Addr.add] using h1
  | 2, hj => simp at hj; subst hj; simpa [Addr.add] using h2
theorem add_zero_block (g j : Nat) : (⟨g, 0, none⟩ : Addr).add j = ⟨g, j, none⟩ := by
  by_cases h : j = 0 <;> simp [Addr.add, h]
theorem own_cell {w : World} {base : Nat} {e : TypeId} {size : Nat} {g n cp : Nat} {xs : List Value} (h : w.ownsRow base e size (.slice (some ⟨g, 0, none⟩) n cp) n xs) (j : Nat) (u : Value) (hj : xs[j]? = some u) : w.cell? ⟨g, j, none⟩ = some u := by
  have := h.cells rfl j u hj; rwa [add_zero_block] at this
theorem own_lt {w : World} {base : Nat} {e : TypeId} {size : Nat} {g n cp : Nat} {xs : List Value} (h : w.ownsRow base e size (.slice (some ⟨g, 0, none⟩) n cp) n xs) : g < w.heap.size := (h.lt g rfl).2
theorem own_some {w : World} {base : Nat} {e : TypeId} {size : Nat} {v : Value} {n : Nat} {xs : List Value} (h : w.ownsRow base e size v n xs) (hn : 0 < n) : ∃ g cp, v = .slice (some ⟨g, 0, none⟩) n cp := by
  rcases h.2 with ⟨_, h0⟩ | ⟨g, cap, cur, hv, _⟩
  · omega
  · exact ⟨g, cap, hv⟩
theorem own_ne {w : World} {b1 b2 : Nat} {e1 e2 : TypeId} {s1 s2 : Nat} {v1 v2 : Value} {n1 n2 : Nat} {xs1 xs2 : List Value} (h1 : w.ownsRow b1 e1 s1 v1 n1 xs1) (h2 : w.ownsRow b2 e2 s2 v2 n2 xs2) (he : e1 ≠ e2) : v1.ownBlock = none ∨ v1.ownBlock ≠ v2.ownBlock := by
  rcases h1.2 with ⟨rfl, _⟩ | ⟨g1, c1, cur1, rfl, _, hh1, _⟩
  · exact Or.inl rfl
  · right
    rcases h2.2 with ⟨rfl, _⟩ | ⟨g2, c2, cur2, rfl, _, hh2, _⟩
    · simp [Value.ownBlock]
    · intro h
      have hg : g1 = g2 := by simpa [Value.ownBlock] using h
      subst hg
      rw [hh1] at hh2
      injection hh2 with h3
      injection h3 with _ h4
      exact he h4
theorem own_ne_block {w : World} {b : Nat} {e : TypeId} {sz : Nat} {v : Value} {n : Nat} {xs : List Value} (h : w.ownsRow b e sz v n xs) {q : Nat} {c : Array Value} {t : TypeId} {fr : Nat × Nat} (hq : w.heap[q]? = some (.cells c t fr)) (ht : t ≠ e) : some q ≠ v.ownBlock := by
  rcases h.2 with ⟨rfl, _⟩ | ⟨g, cp, cur, rfl, _, hh, _⟩
  · simp [Value.ownBlock]
  · intro he
    have hg : q = g := by simpa [Value.ownBlock] using he
    subst hg
    rw [hq] at hh
    injection hh with h3
    injection h3 with _ h4
    exact ht h4
theorem nil_of_empty {s : ByteArray} (h : s.toList.isEmpty = true) : bl s = [] := by rw [toList_bl] at h; exact List.isEmpty_iff.1 h
theorem ne_of_nonempty {s : ByteArray} (h : s.toList.isEmpty = false) : bl s ≠ [] := by rw [toList_bl] at h; exact List.isEmpty_eq_false_iff.1 h
theorem split_piece_le (c : UInt8) (l : List UInt8) : ∀ x ∈ split c l, x.length ≤ l.length := by
  induction l with
  | nil => simp [split]
  | cons b l ih =>
    intro x hx
    by_cases hb : b = c
    · subst hb; rw [split_hit] at hx
      rcases List.mem_cons.1 hx with rfl | hx
      · simp
      · have := ih x hx; simp; omega
    · rw [split_miss c b l (by simp [hb])] at hx
      cases hsp : split c l with
      | nil => exact absurd hsp (split_ne c l)
      | cons h t =>
        rw [hsp] at hx ih
        simp only [pre] at hx
        rcases List.mem_cons.1 hx with rfl | hx
        · have := ih h (by simp); simp; omega
        · have := ih x (by simp [hx]); simp; omega
theorem split_getD_le (c : UInt8) (l : List UInt8) (k : Nat) (hk : k < (split c l).length) : ((split c l).getD k []).length ≤ l.length := by
  have e : (split c l).getD k [] = (split c l)[k] := by simp [hk]
  rw [e]; exact split_piece_le c l _ (List.getElem_mem _)
theorem number_le {most v : Nat} {l : List UInt8} (h : number most l = some v) : v ≤ most := by
  unfold number at h; split at h
  · cases h
  · rename_i hn; have := Option.some.inj h; simp at hn; omega
end Go.Proofs.YtmncdbepjhmkgaaGreatDoor

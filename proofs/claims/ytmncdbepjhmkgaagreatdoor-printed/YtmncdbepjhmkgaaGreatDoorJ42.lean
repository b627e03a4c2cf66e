/- Parts of the proof, joined: DWr3 -/
import Derived.Test.YtmncdbepjhmkgaaGreatDoorJ41
import Derived.Test.YtmncdbepjhmkgaaGreatDoorJ27
/- Parts, printed by the program: ranks, joined names, brackets. -/
namespace Go.Proofs.YtmncdbepjhmkgaaGreatDoor
open Go.RowKit LS

theorem commas_inter : ∀ xs : List (List UInt8), ([44] : List UInt8).intercalate xs = commas xs
  | [] => rfl
  | [a] => by simp [List.intercalate, commas]
  | a :: b :: l => by
    have ih := commas_inter (b :: l)
    rw [commas_cons, ← ih]
    simp [List.intercalate]
theorem join_t {w : World} (la : Option Addr) (ln lc : Nat) (ns : List (List UInt8)) (h : NamesV w (.slice la ln lc) ns) (hl : nw ns ≤ 1000000) :
    Calls Tryz.prog 57 #[.slice la ln lc, .string ⟨#[44]⟩] w fun e w' => ∃ s : ByteArray, e = .returned (.string s) ∧ Hid (bl s = commas ns) ∧ Below w.heap.size w w' := by
  obtain ⟨bs, hown, hbs⟩ := h
  have hln : ln = bs.length := by obtain ⟨_, _, e⟩ := own_shape hown; injection e
  subst hln
  by_cases hz : bs.length = 0
  · rw [hz]
    refine (Tryz.strings_Join_none la lc ⟨#[44]⟩ w).mono ?_
    rintro e w' ⟨rfl, rfl⟩
    have : bs = [] := List.eq_nil_of_length_eq_zero hz
    subst this
    exact ⟨_, rfl, hid (by rw [← hbs]; rfl), Below.refl _ _⟩
  · obtain ⟨g, cp, hg⟩ := own_some hown (by omega)
    injection hg with hg1 _ hg2
    subst hg1 hg2
    have hj : Lib.join (bs.map (·.data.toList)) [44] = commas ns := by
      rw [← hbs]; exact commas_inter _
    have hcm := commas_len ns
    have hcap : bs.length ≤ lc := by
      rcases hown.2 with ⟨e, _⟩ | ⟨g', cap, cur, e, _, _, hc, _⟩
      · cases e
      · injection e with _ _ e; subst e; exact hc
    have hbl : bs.length ≤ 1000000 := by
      have h1 : bs.length ≤ nw (bs.map bl) := by
        clear hj hcap hown hbs hz
        induction bs with
        | nil => exact Nat.zero_le _
        | cons c l ih => simp only [List.map_cons, nw, List.length_cons]; omega
      rw [hbs] at h1; omega
    refine (Tryz.strings_Join g 0 lc bs ⟨#[44]⟩ w ?_ (own_lt hown) (by omega) hcap (by show (Lib.join (bs.map (·.data.toList)) [44]).length ≤ _; rw [hj]; omega)).mono ?_
    · intro j x hj
      rw [Nat.zero_add]
      exact own_cell hown j _ (by show (bs.map Value.string)[j]? = _; rw [List.getElem?_map, hj]; rfl)
    · rintro e w' ⟨rfl, hb⟩
      exact ⟨_, rfl, hid (by show bl (ByteArray.mk (Lib.join (bs.map (·.data.toList)) [44]).toArray) = _; rw [bl_mk, hj]), hb⟩
theorem tight_rank {a : Nd} (hk : a.kind = 4 ∨ a.kind = 6) (ho : a.kind = 4 → a.op ≤ 3) : rankOf (opNo a) + 1 = tightT a ∧ opNo a ≤ 4 := by
  rcases hk with h | h
  · have h3 := ho h
    have e1 : opNo a = a.op + 1 := by unfold opNo; rw [if_neg (by omega)]
    have e2 : tightT a = if a.op < 2 then 2 else 3 := by unfold tightT; rw [if_neg (by omega), if_pos h]
    rw [e1, e2]
    refine ⟨?_, by omega⟩
    unfold rankOf
    rw [if_neg (by omega)]
    by_cases h2 : a.op < 2
    · rw [if_pos h2, if_pos (by omega)]
    · rw [if_neg h2, if_neg (by omega)]
  · have e1 : opNo a = 0 := by unfold opNo; rw [if_pos h]
    have e2 : tightT a = 1 := by unfold tightT; rw [if_pos h]
    rw [e1, e2]
    exact ⟨rfl, by omega⟩
theorem core_pair {a : Nd} (hk : a.kind = 4 ∨ a.kind = 6) (ho : a.kind = 4 → a.op ≤ 3) (pl pr : Nat → List UInt8) : coreS a pl pr = pl (tightT a) ++ [32] ++ signOf (opNo a) ++ [32] ++ pr (tightT a + 1) := by
  unfold coreS
  rw [if_neg (by omega), if_neg (by omega), if_neg (by omega), if_neg (by omega), if_neg (by omega)]
  rcases hk with h | h
  · rw [if_neg (by omega)]
    have := ho h
    have e : opS a.op = signOf (opNo a) := by
      unfold opNo; rw [if_neg (by omega)]
      rcases (by omega : a.op = 0 ∨ a.op = 1 ∨ a.op = 2 ∨ a.op = 3) with h | h | h | h <;> rw [h] <;> rfl
    rw [e]
  · have e : tightT a = 1 := by unfold tightT; rw [if_pos h]
    rw [if_pos h, e]
    unfold opNo signOf
    rw [if_pos h, if_pos rfl]
    simp
theorem rankN (W : World) (v : Value) : Calls Tryz.prog 141 #[v] W fun e w' => e = .returned (.int .i64 3) ∧ Below W.heap.size W w' := by
  go_enter Tryz.func141, Tryz.ntmps141
  go_wp2
  all_goals
    go_ret
    exact ⟨rfl, (by repeat (first | exact Below.refl _ _ | assumption | refine Below.alloc ?_ (by first | omega | (simp; omega) | simp) _ | refine Below.setCell ?_ (by first | omega | (simp; omega) | simp) _ | refine below_drewN' ?_ _ | refine Below.drew ?_))⟩
theorem rankG (W : World) (v : Value) : Calls Tryz.prog 142 #[v] W fun e w' => e = .returned (.int .i64 3) ∧ Below W.heap.size W w' := by
  go_enter Tryz.func142, Tryz.ntmps142
  go_wp2
  all_goals
    go_ret
    exact ⟨rfl, (by repeat (first | exact Below.refl _ _ | assumption | refine Below.alloc ?_ (by first | omega | (simp; omega) | simp) _ | refine Below.setCell ?_ (by first | omega | (simp; omega) | simp) _ | refine below_drewN' ?_ _ | refine Below.drew ?_))⟩
theorem rankU (W : World) (v : Value) : Calls Tryz.prog 143 #[v] W fun e w' => e = .returned (.int .i64 3) ∧ Below W.heap.size W w' := by
  go_enter Tryz.func143, Tryz.ntmps143
  go_wp2
  all_goals
    go_ret
    exact ⟨rfl, (by repeat (first | exact Below.refl _ _ | assumption | refine Below.alloc ?_ (by first | omega | (simp; omega) | simp) _ | refine Below.setCell ?_ (by first | omega | (simp; omega) | simp) _ | refine below_drewN' ?_ _ | refine Below.drew ?_))⟩
theorem rankW (W : World) (v : Value) : Calls Tryz.prog 148 #[v] W fun e w' => e = .returned (.int .i64 3) ∧ Below W.heap.size W w' := by
  go_enter Tryz.func148, Tryz.ntmps148
  go_wp2
  all_goals
    go_ret
    exact ⟨rfl, (by repeat (first | exact Below.refl _ _ | assumption | refine Below.alloc ?_ (by first | omega | (simp; omega) | simp) _ | refine Below.setCell ?_ (by first | omega | (simp; omega) | simp) _ | refine below_drewN' ?_ _ | refine Below.drew ?_))⟩
theorem rankS (W : World) (v : Value) : Calls Tryz.prog 147 #[v] W fun e w' => e = .returned (.int .i64 3) ∧ Below W.heap.size W w' := by
  go_enter Tryz.func147, Tryz.ntmps147
  go_wp2
  all_goals
    go_ret
    exact ⟨rfl, (by repeat (first | exact Below.refl _ _ | assumption | refine Below.alloc ?_ (by first | omega | (simp; omega) | simp) _ | refine Below.setCell ?_ (by first | omega | (simp; omega) | simp) _ | refine below_drewN' ?_ _ | refine Below.drew ?_))⟩
theorem rankP (W : World) (o : Nat) (ho : o ≤ 4) (ty1 ty2 : TypeId) (u1 u2 : Value) : Calls Tryz.prog 55 #[.agg #[.int .i64 o, .iface ty1 u1, .iface ty2 u2]] W fun e w' => e = .returned (.int .i64 (rankOf o)) ∧ Below W.heap.size W w' := by
  have hb : Below W.heap.size W (W.alloc (.cells #[.int .i64 o, .iface ty1 u1, .iface ty2 u2] 98)) := (Below.refl _ _).alloc (Nat.le_refl _) _
  go_enter Tryz.func55, Tryz.ntmps55
  go_wp2_with (go_at_call 42; refine (rank_any o ho _).mono ?_; rintro e wq ⟨rfl, rfl⟩)
  go_ret
  exact ⟨rfl, hb⟩
theorem mN (v : Value) (w : World) : (Go.method 327 101 v "gauge/syntax.rank").run Tryz.prog w = .ok (141, v) w := by kernel_rfl
theorem mG (v : Value) (w : World) : (Go.method 327 103 v "gauge/syntax.rank").run Tryz.prog w = .ok (142, v) w := by kernel_rfl
theorem mU (v : Value) (w : World) : (Go.method 327 105 v "gauge/syntax.rank").run Tryz.prog w = .ok (143, v) w := by kernel_rfl
theorem mW (v : Value) (w : World) : (Go.method 327 132 v "gauge/syntax.rank").run Tryz.prog w = .ok (148, v) w := by kernel_rfl
theorem mS (v : Value) (w : World) : (Go.method 327 130 v "gauge/syntax.rank").run Tryz.prog w = .ok (147, v) w := by kernel_rfl
theorem mP (v : Value) (w : World) : (Go.method 327 98 v "gauge/syntax.rank").run Tryz.prog w = .ok (55, v) w := by kernel_rfl
theorem part_rank {w : World} {x y : Nat} {a : Nd} {l r : Tr} {v : Value} (h : PartV w (.node x y a l r) v) (ho : a.kind = 4 → a.op ≤ 3) : ∃ (ty : TypeId) (u : Value) (f : FuncId), v = .iface ty u ∧ (∀ W, (Go.method 327 ty u "gauge/syntax.rank").run Tryz.prog W = .ok (f, u) W) ∧ (∀ W, (callFunc f #[u]).run Tryz.prog W = .ok (.enter f #[u]) W) ∧ (∀ W, Calls Tryz.prog f #[u] W fun e w' => e = .returned (.int .i64 ((tightT a - 1 : Nat) : Int)) ∧ Below W.heap.size W w') := by
  have h4 : a.kind ≤ 3 ∨ a.kind = 5 → tightT a - 1 = 3 := by
    intro h; unfold tightT; rw [if_neg (by omega), if_neg (by omega)]
  rcases h with ⟨hk, rfl⟩ | ⟨hk, nm, la, ln, lc, rfl, _⟩ | ⟨hk, wd, nm, la, ln, lc, rfl, _⟩ | ⟨hk, z, rfl, hz⟩ | ⟨hk, wd, la, ln, lc, z, rfl, _, _, hz⟩ | ⟨hk, z1, z2, rfl, hz1, hz2⟩
  · exact ⟨_, _, _, rfl, fun W => mN _ W, fun W => by kernel_rfl, fun W => by rw [h4 (by omega)]; exact rankN W _⟩
  · exact ⟨_, _, _, rfl, fun W => mS _ W, fun W => by kernel_rfl, fun W => by rw [h4 (by omega)]; exact rankS W _⟩
  · exact ⟨_, _, _, rfl, fun W => mW _ W, fun W => by kernel_rfl, fun W => by rw [h4 (by omega)]; exact rankW W _⟩
  · exact ⟨_, _, _, rfl, fun W => mG _ W, fun W => by kernel_rfl, fun W => by rw [h4 (by omega)]; exact rankG W _⟩
  · exact ⟨_, _, _, rfl, fun W => mU _ W, fun W => by kernel_rfl, fun W => by rw [h4 (by omega)]; exact rankU W _⟩
  · obtain ⟨t1, u1, rfl⟩ := PartV.shape hz1
    obtain ⟨t2, u2, rfl⟩ := PartV.shape hz2
    have ht := tight_rank hk ho
    exact ⟨_, _, _, rfl, fun W => mP _ W, fun W => by kernel_rfl, fun W => by rw [show tightT a - 1 = rankOf (opNo a) by omega]; exact rankP W _ ht.2 _ _ _ _⟩
/-- The contracts of the two printing functions. -/
def WC (t : Tr) : Prop := ∀ (w : World) (v : Value) (B b : Nat) (l : List UInt8), PartV w t v → WB w B b l → PowTab w → 18 ≤ B → l.length + wT t ≤ big →
  Calls Tryz.prog 22 #[.pointer (some ⟨b, 0, none⟩), v] w fun e w' => e = .returned (.tuple #[]) ∧ Hid (WB w' B b (l ++ printT t 1)) ∧ Hid (WK B b w w')
def WW (t : Tr) : Prop := ∀ (w : World) (v : Value) (B b : Nat) (l : List UInt8) (j : Nat), PartV w t v → WB w B b l → PowTab w → 18 ≤ B → l.length + wT t + 2 ≤ big →
  Calls Tryz.prog 54 #[.pointer (some ⟨b, 0, none⟩), v, .int .i64 j] w fun e w' => e = .returned (.tuple #[]) ∧ Hid (WB w' B b (l ++ printT t (j + 1))) ∧ Hid (WK B b w w')
theorem printT_one {x y : Nat} {a : Nd} {l r : Tr} : printT (.node x y a l r) 1 = coreS a (printT l) (printT r) := by
  show wrapS (decide (tightT a < 1)) _ = _
  rw [decide_eq_false (by unfold tightT; split <;> (try split) <;> (try split) <;> omega)]; rfl
set_option maxRecDepth 100000 in
set_option maxHeartbeats 4000000 in
theorem within_t {t : Tr} (hwf : wfT t) (h : WC t) : WW t := by
  intro w v B b l j hp hw ht hB hl
  match t, hwf, h, hp, hl with
  | .node x y a p q, hwf, h, hp, hl =>
    obtain ⟨ty, u, f, rfl, hm, hcf, hc⟩ := part_rank hp hwf.2.2.1
    have HP : Hid (PartV w (.node x y a p q) (.iface ty u)) := hp
    have HW : Hid (WB w B b l) := hw
    have HT : Hid (PowTab w) := ht
    have HB : Hid (18 ≤ B) := hB
    have HL : Hid (l.length + wT (.node x y a p q) + 2 ≤ big) := hl
    have HC : Hid (∀ W, Calls Tryz.prog f #[u] W fun e w' => e = .returned (.int .i64 ((tightT a - 1 : Nat) : Int)) ∧ Below W.heap.size W w') := hc
    have HTG : Hid (1 ≤ tightT a) := hid (by unfold tightT; split <;> (try split) <;> (try split) <;> omega)
    have HCL : Hid ((printT (.node x y a p q) 1).length + 2 ≤ wT (.node x y a p q)) := hid (by
      rw [printT_one]
      exact coreS_len hwf.2.2.2.2.2.1 (fun m => printT_len p m hwf.2.2.2.2.2.2.2.2.2.2.1) (fun m => printT_len q m hwf.2.2.2.2.2.2.2.2.2.2.2))
    clear hc hp hw ht hB hl
    go_enter Tryz.func54, Tryz.ntmps54
    go_wp2_with fail
    refine (HC.out w).mono ?_
    rintro e w1 ⟨rfl, hb1⟩
    have HP1 : Hid (PartV w1 (.node x y a p q) (.iface ty u)) := HP.out.below hb1
    have HW1 : Hid (WB w1 B b l) := HW.out.below hb1
    have HK1 : Hid (WK B b w w1) := WK.below hb1 HW.out.le
    have HT1 : Hid (PowTab w1) := HT.out.low HK1.out.low HB.out
    clear hb1 hm hcf
    obtain ⟨rk, hrk⟩ : ∃ rk, rk = tightT a - 1 := ⟨_, rfl⟩
    rw [← hrk]
    by_cases hge : (j : Int) ≤ rk
    · have HX : Hid (printT (.node x y a p q) (j + 1) = printT (.node x y a p q) 1) := hid (by
        rw [printT_one]
        show wrapS (decide (tightT a < j + 1)) _ = _
        rw [decide_eq_false (by have := HTG.out; omega)]; rfl)
      clear hrk
      go_wp2_with fail
      refine (h w1 _ B b l HP1.out HW1.out HT1.out HB.out (by have := HL.out; omega)).mono ?_
      rintro e w2 ⟨rfl, HW2, HK2'⟩
      have HK2 : Hid (WK B b w w2) := HK1.out.trans HK2'.out
      clear HK2'
      go_wp2
      exact bodyPost_ret (v := .tuple #[]) (results_none rfl _ _ _) rfl ⟨rfl, by rw [HX.out]; exact HW2, HK2⟩
    · have HX : Hid (printT (.node x y a p q) (j + 1) = [40] ++ printT (.node x y a p q) 1 ++ [41]) := hid (by
        rw [printT_one]
        show wrapS (decide (tightT a < j + 1)) _ = _
        rw [decide_eq_true (by have := HTG.out; omega)]; rfl)
      clear hrk
      go_wp2_with fail
      refine (put_t HW1.out ⟨#[40]⟩ (by have h1 := HL.out; have h2 := HCL.out; show _ + 1 ≤ _; omega)).mono ?_
      rintro e w2 ⟨rfl, HW2, HK2'⟩
      have HK2 : Hid (WK B b w w2) := HK1.out.trans HK2'.out
      have HP2 : Hid (PartV w2 (.node x y a p q) (.iface ty u)) := hid (PartV.wrote HW1.out HK2'.out HP1.out)
      have HT2 : Hid (PowTab w2) := HT.out.low HK2.out.low HB.out
      clear HK2' HP1 HW1 HK1 HT1
      go_wp2_with fail
      refine (h w2 _ B b _ HP2.out HW2.out HT2.out HB.out (by rw [List.length_append, bl_length]; have h1 := HL.out; show _ + 1 + _ ≤ _; omega)).mono ?_
      rintro e w3 ⟨rfl, HW3, HK3'⟩
      have HK3 : Hid (WK B b w w3) := HK2.out.trans HK3'.out
      clear HK3' HP2 HW2 HK2 HT2
      go_wp2_with fail
      refine (put_t HW3.out ⟨#[41]⟩ (by simp only [List.length_append, bl_length]; have h1 := HL.out; have h2 := HCL.out; show _ + 1 + _ + 1 ≤ _; omega)).mono ?_
      rintro e w4 ⟨rfl, HW4, HK4'⟩
      have HK4 : Hid (WK B b w w4) := HK3.out.trans HK4'.out
      have HW5 : Hid (WB w4 B b (l ++ printT (.node x y a p q) (j + 1))) := hid (by
        rw [HX.out]; have := HW4.out; simp only [List.append_assoc] at this ⊢; exact this)
      clear HK4' HW4
      go_wp2
      go_end0
      exact ⟨rfl, HW5, HK4⟩
end Go.Proofs.YtmncdbepjhmkgaaGreatDoor

/- Parts. -/
import Derived.Test.YtpbemaaghbbocaaGreatDoorA40
import Derived.Test.YtpbemaaghbbocaaGreatDoorA09
namespace Go.Proofs.YtpbemaaghbbocaaGreatDoor
open Go.RowKit LS
theorem commas_inter : ∀ xs : List (List UInt8), ([44] : List UInt8).intercalate xs = commas xs
  | [] => rfl
  | [a] => by simp [List.intercalate, commas]
  | a :: b :: l => by
    have ih := commas_inter (b :: l)
    rw [commas_cons, ← ih]
    simp [List.intercalate]
theorem join_t {w : World} (la : Option Addr) (ln lc : Nat) (ns : List (List UInt8)) (h : NamesV w (.slice la ln lc) ns) (hl : nw ns ≤ 1000000) :
    Calls Tryz.prog 82 #[.slice la ln lc, .string ⟨#[44]⟩] w fun e w' => ∃ s : ByteArray, e = .returned (.string s) ∧ Hid (bl s = commas ns) ∧ Below w.heap.size w w' := by
  obtain ⟨bs, hown, hbs⟩ := h
  have hln : ln = bs.length := by obtain ⟨_, _, e⟩ := own_shape hown; injection e
  subst hln
  by_cases hz : bs.length = 0
  · rw [hz]
    refine (Tryz.strings_Join_none la lc ⟨#[44]⟩ w).mono ?_
    rintro e w' ⟨rfl, rfl⟩
    have : bs = [] := List.eq_nil_of_length_eq_zero hz
    subst this
    exact ⟨_, rfl, hid (by rw [← hbs]; rfl), Below.refl _ _⟩
  · obtain ⟨g, cp, hg⟩ := own_some hown (by omega)
    injection hg with hg1 _ hg2
    subst hg1 hg2
    have hj : Lib.join (bs.map (·.data.toList)) [44] = commas ns := by
      rw [← hbs]; exact commas_inter _
    have hcm := commas_len ns
    have hcap : bs.length ≤ lc := by
      rcases hown.2 with ⟨e, _⟩ | ⟨g', cap, cur, e, _, _, hc, _⟩
      · cases e
      · injection e with _ _ e; subst e; exact hc
    have hbl : bs.length ≤ 1000000 := by
      have h1 : bs.length ≤ nw (bs.map bl) := by
        clear hj hcap hown hbs hz
        induction bs with
        | nil => exact Nat.zero_le _
        | cons c l ih => simp only [List.map_cons, nw, List.length_cons]; omega
      rw [hbs] at h1; omega
    refine (Tryz.strings_Join g 0 lc bs ⟨#[44]⟩ w ?_ (own_lt hown) (by omega) hcap (by show (Lib.join (bs.map (·.data.toList)) [44]).length ≤ _; rw [hj]; omega)).mono ?_
    · intro j x hj
      rw [Nat.zero_add]
      exact own_cell hown j _ (by show (bs.map Value.string)[j]? = _; rw [List.getElem?_map, hj]; rfl)
    · rintro e w' ⟨rfl, hb⟩
      exact ⟨_, rfl, hid (by show bl (ByteArray.mk (Lib.join (bs.map (·.data.toList)) [44]).toArray) = _; rw [bl_mk, hj]), hb⟩
theorem tight_rank {a : Nd} (hk : a.kind = 4 ∨ a.kind = 6) (ho : a.kind = 4 → a.op ≤ 3) : rankOf (opNo a) + 1 = tightT a ∧ opNo a ≤ 4 := by
  rcases hk with h | h
  · have h3 := ho h
    have e1 : opNo a = a.op + 1 := by unfold opNo; rw [if_neg (by omega)]
    have e2 : tightT a = if a.op < 2 then 2 else 3 := by unfold tightT; rw [if_neg (by omega), if_pos h]
    rw [e1, e2]
    refine ⟨?_, by omega⟩
    unfold rankOf
    rw [if_neg (by omega)]
    by_cases h2 : a.op < 2
    · rw [if_pos h2, if_pos (by omega)]
    · rw [if_neg h2, if_neg (by omega)]
  · have e1 : opNo a = 0 := by unfold opNo; rw [if_pos h]
    have e2 : tightT a = 1 := by unfold tightT; rw [if_pos h]
    rw [e1, e2]
    exact ⟨rfl, by omega⟩
theorem core_pair {a : Nd} (hk : a.kind = 4 ∨ a.kind = 6) (ho : a.kind = 4 → a.op ≤ 3) (pl pr : Nat → List UInt8) : coreS a pl pr = pl (tightT a) ++ [32] ++ signOf (opNo a) ++ [32] ++ pr (tightT a + 1) := by
  unfold coreS
  rw [if_neg (by omega), if_neg (by omega), if_neg (by omega), if_neg (by omega), if_neg (by omega)]
  rcases hk with h | h
  · rw [if_neg (by omega)]
    have := ho h
    have e : opS a.op = signOf (opNo a) := by
      unfold opNo; rw [if_neg (by omega)]
      rcases (by omega : a.op = 0 ∨ a.op = 1 ∨ a.op = 2 ∨ a.op = 3) with h | h | h | h <;> rw [h] <;> rfl
    rw [e]
  · have e : tightT a = 1 := by unfold tightT; rw [if_pos h]
    rw [if_pos h, e]
    unfold opNo signOf
    rw [if_pos h, if_pos rfl]
    simp
theorem rankN (W : World) (v : Value) : Calls Tryz.prog 279 #[v] W fun e w' => e = .returned (.int .i64 3) ∧ Below W.heap.size W w' := by
  go_enter Tryz.func279, Tryz.ntmps279
  go_wp2
  all_goals
    go_ret
    exact ⟨rfl, (by repeat (first | exact Below.refl _ _ | assumption | refine Below.alloc ?_ (by first | omega | (simp; omega) | simp) _ | refine Below.setCell ?_ (by first | omega | (simp; omega) | simp) _ | refine below_drewN' ?_ _ | refine Below.drew ?_))⟩
theorem rankG (W : World) (v : Value) : Calls Tryz.prog 280 #[v] W fun e w' => e = .returned (.int .i64 3) ∧ Below W.heap.size W w' := by
  go_enter Tryz.func280, Tryz.ntmps280
  go_wp2
  all_goals
    go_ret
    exact ⟨rfl, (by repeat (first | exact Below.refl _ _ | assumption | refine Below.alloc ?_ (by first | omega | (simp; omega) | simp) _ | refine Below.setCell ?_ (by first | omega | (simp; omega) | simp) _ | refine below_drewN' ?_ _ | refine Below.drew ?_))⟩
theorem rankU (W : World) (v : Value) : Calls Tryz.prog 281 #[v] W fun e w' => e = .returned (.int .i64 3) ∧ Below W.heap.size W w' := by
  go_enter Tryz.func281, Tryz.ntmps281
  go_wp2
  all_goals
    go_ret
    exact ⟨rfl, (by repeat (first | exact Below.refl _ _ | assumption | refine Below.alloc ?_ (by first | omega | (simp; omega) | simp) _ | refine Below.setCell ?_ (by first | omega | (simp; omega) | simp) _ | refine below_drewN' ?_ _ | refine Below.drew ?_))⟩
theorem rankW (W : World) (v : Value) : Calls Tryz.prog 286 #[v] W fun e w' => e = .returned (.int .i64 3) ∧ Below W.heap.size W w' := by
  go_enter Tryz.func286, Tryz.ntmps286
  go_wp2
  all_goals
    go_ret
    exact ⟨rfl, (by repeat (first | exact Below.refl _ _ | assumption | refine Below.alloc ?_ (by first | omega | (simp; omega) | simp) _ | refine Below.setCell ?_ (by first | omega | (simp; omega) | simp) _ | refine below_drewN' ?_ _ | refine Below.drew ?_))⟩
theorem rankS (W : World) (v : Value) : Calls Tryz.prog 285 #[v] W fun e w' => e = .returned (.int .i64 3) ∧ Below W.heap.size W w' := by
  go_enter Tryz.func285, Tryz.ntmps285
  go_wp2
  all_goals
    go_ret
    exact ⟨rfl, (by repeat (first | exact Below.refl _ _ | assumption | refine Below.alloc ?_ (by first | omega | (simp; omega) | simp) _ | refine Below.setCell ?_ (by first | omega | (simp; omega) | simp) _ | refine below_drewN' ?_ _ | refine Below.drew ?_))⟩
theorem rankP (W : World) (o : Nat) (ho : o ≤ 4) (ty1 ty2 : TypeId) (u1 u2 : Value) : Calls Tryz.prog 80 #[.agg #[.int .i64 o, .iface ty1 u1, .iface ty2 u2]] W fun e w' => e = .returned (.int .i64 (rankOf o)) ∧ Below W.heap.size W w' := by
  have hb : Below W.heap.size W (W.alloc (.cells #[.int .i64 o, .iface ty1 u1, .iface ty2 u2] 149)) := (Below.refl _ _).alloc (Nat.le_refl _) _
  go_enter Tryz.func80, Tryz.ntmps80
  go_wp2_with (go_at_call 67; refine (rank_any o ho _).mono ?_; rintro e wq ⟨rfl, rfl⟩)
  go_ret
  exact ⟨rfl, hb⟩
theorem mN (v : Value) (w : World) : (Go.method 518 152 v "gauge/syntax.rank").run Tryz.prog w = .ok (279, v) w := by kernel_rfl
theorem mG (v : Value) (w : World) : (Go.method 518 154 v "gauge/syntax.rank").run Tryz.prog w = .ok (280, v) w := by kernel_rfl
theorem mU (v : Value) (w : World) : (Go.method 518 156 v "gauge/syntax.rank").run Tryz.prog w = .ok (281, v) w := by kernel_rfl
theorem mW (v : Value) (w : World) : (Go.method 518 181 v "gauge/syntax.rank").run Tryz.prog w = .ok (286, v) w := by kernel_rfl
theorem mS (v : Value) (w : World) : (Go.method 518 179 v "gauge/syntax.rank").run Tryz.prog w = .ok (285, v) w := by kernel_rfl
theorem mP (v : Value) (w : World) : (Go.method 518 149 v "gauge/syntax.rank").run Tryz.prog w = .ok (80, v) w := by kernel_rfl
theorem part_rank {w : World} {x y : Nat} {a : Nd} {l r : Tr} {v : Value} (h : PartV w (.node x y a l r) v) (ho : a.kind = 4 → a.op ≤ 3) : ∃ (ty : TypeId) (u : Value) (f : FuncId), v = .iface ty u ∧ (∀ W, (Go.method 518 ty u "gauge/syntax.rank").run Tryz.prog W = .ok (f, u) W) ∧ (∀ W, (callFunc f #[u]).run Tryz.prog W = .ok (.enter f #[u]) W) ∧ (∀ W, Calls Tryz.prog f #[u] W fun e w' => e = .returned (.int .i64 ((tightT a - 1 : Nat) : Int)) ∧ Below W.heap.size W w') := by
  have h4 : a.kind ≤ 3 ∨ a.kind = 5 → tightT a - 1 = 3 := by
    intro h; unfold tightT; rw [if_neg (by omega), if_neg (by omega)]
  rcases h with ⟨hk, rfl⟩ | ⟨hk, nm, la, ln, lc, rfl, _⟩ | ⟨hk, wd, nm, la, ln, lc, rfl, _⟩ | ⟨hk, z, rfl, hz⟩ | ⟨hk, wd, la, ln, lc, z, rfl, _, _, hz⟩ | ⟨hk, z1, z2, rfl, hz1, hz2⟩
  · exact ⟨_, _, _, rfl, fun W => mN _ W, fun W => by kernel_rfl, fun W => by rw [h4 (by omega)]; exact rankN W _⟩
  · exact ⟨_, _, _, rfl, fun W => mS _ W, fun W => by kernel_rfl, fun W => by rw [h4 (by omega)]; exact rankS W _⟩
  · exact ⟨_, _, _, rfl, fun W => mW _ W, fun W => by kernel_rfl, fun W => by rw [h4 (by omega)]; exact rankW W _⟩
  · exact ⟨_, _, _, rfl, fun W => mG _ W, fun W => by kernel_rfl, fun W => by rw [h4 (by omega)]; exact rankG W _⟩
  · exact ⟨_, _, _, rfl, fun W => mU _ W, fun W => by kernel_rfl, fun W => by rw [h4 (by omega)]; exact rankU W _⟩
  · obtain ⟨t1, u1, rfl⟩ := PartV.shape hz1
    obtain ⟨t2, u2, rfl⟩ := PartV.shape hz2
    have ht := tight_rank hk ho
    exact ⟨_, _, _, rfl, fun W => mP _ W, fun W => by kernel_rfl, fun W => by rw [show tightT a - 1 = rankOf (opNo a) by omega]; exact rankP W _ ht.2 _ _ _ _⟩
def WC (t : Tr) : Prop := ∀ (w : World) (v : Value) (B b : Nat) (l : List UInt8), PartV w t v → WB w B b l → PowTab w → 20 ≤ B → l.length + wT t ≤ big →
  Calls Tryz.prog 38 #[.pointer (some ⟨b, 0, none⟩), v] w fun e w' => e = .returned (.tuple #[]) ∧ Hid (WB w' B b (l ++ printT t 1)) ∧ Hid (WK B b w w')
def WW (t : Tr) : Prop := ∀ (w : World) (v : Value) (B b : Nat) (l : List UInt8) (j : Nat), PartV w t v → WB w B b l → PowTab w → 20 ≤ B → l.length + wT t + 2 ≤ big →
  Calls Tryz.prog 79 #[.pointer (some ⟨b, 0, none⟩), v, .int .i64 j] w fun e w' => e = .returned (.tuple #[]) ∧ Hid (WB w' B b (l ++ printT t (j + 1))) ∧ Hid (WK B b w w')
theorem printT_one {x y : Nat} {a : Nd} {l r : Tr} : printT (.node x y a l r) 1 = coreS a (printT l) (printT r) := by
  show wrapS (decide (tightT a < 1)) _ = _
  rw [decide_eq_false (by unfold tightT; split <;> (try split) <;> (try split) <;> omega)]; rfl
set_option maxRecDepth 100000 in
set_option maxHeartbeats 4000000 in
theorem within_t {t : Tr} (hwf : wfT t) (h : WC t) : WW t := by
  intro w v B b l j hp hw ht hB hl
  match t, hwf, h, hp, hl with
  | .node x y a p q, hwf, h, hp, hl =>
    obtain ⟨ty, u, f, rfl, hm, hcf, hc⟩ := part_rank hp hwf.2.2.1
    have HP : Hid (PartV w (.node x y a p q) (.iface ty u)) := hp
    have HW : Hid (WB w B b l) := hw
    have HT : Hid (PowTab w) := ht
    have HB : Hid (20 ≤ B) := hB
    have HL : Hid (l.length + wT (.node x y a p q) + 2 ≤ big) := hl
    have HC : Hid (∀ W, Calls Tryz.prog f #[u] W fun e w' => e = .returned (.int .i64 ((tightT a - 1 : Nat) : Int)) ∧ Below W.heap.size W w') := hc
    have HTG : Hid (1 ≤ tightT a) := hid (by unfold tightT; split <;> (try split) <;> (try split) <;> omega)
    have HCL : Hid ((printT (.node x y a p q) 1).length + 2 ≤ wT (.node x y a p q)) := hid (by
      rw [printT_one]
      exact coreS_len hwf.2.2.2.2.2.1 (fun m => printT_len p m hwf.2.2.2.2.2.2.2.2.2.2.1) (fun m => printT_len q m hwf.2.2.2.2.2.2.2.2.2.2.2))
    clear hc hp hw ht hB hl
    go_enter Tryz.func79, Tryz.ntmps79
    go_wp2_with fail
    refine (HC.out w).mono ?_
    rintro e w1 ⟨rfl, hb1⟩
    have HP1 : Hid (PartV w1 (.node x y a p q) (.iface ty u)) := HP.out.below hb1
    have HW1 : Hid (WB w1 B b l) := HW.out.below hb1
    have HK1 : Hid (WK B b w w1) := WK.below hb1 HW.out.le
    have HT1 : Hid (PowTab w1) := HT.out.low HK1.out.low HB.out
    clear hb1 hm hcf
    obtain ⟨rk, hrk⟩ : ∃ rk, rk = tightT a - 1 := ⟨_, rfl⟩
    rw [← hrk]
    by_cases hge : (j : Int) ≤ rk
    · have HX : Hid (printT (.node x y a p q) (j + 1) = printT (.node x y a p q) 1) := hid (by
        rw [printT_one]
        show wrapS (decide (tightT a < j + 1)) _ = _
        rw [decide_eq_false (by have := HTG.out; omega)]; rfl)
      clear hrk
      go_wp2_with fail
      refine (h w1 _ B b l HP1.out HW1.out HT1.out HB.out (by have := HL.out; omega)).mono ?_
      rintro e w2 ⟨rfl, HW2, HK2'⟩
      have HK2 : Hid (WK B b w w2) := HK1.out.trans HK2'.out
      clear HK2'
      go_wp2
      exact bodyPost_ret (v := .tuple #[]) (results_none rfl _ _ _) rfl ⟨rfl, by rw [HX.out]; exact HW2, HK2⟩
    · have HX : Hid (printT (.node x y a p q) (j + 1) = [40] ++ printT (.node x y a p q) 1 ++ [41]) := hid (by
        rw [printT_one]
        show wrapS (decide (tightT a < j + 1)) _ = _
        rw [decide_eq_true (by have := HTG.out; omega)]; rfl)
      clear hrk
      go_wp2_with fail
      refine (put_t HW1.out ⟨#[40]⟩ (by have h1 := HL.out; have h2 := HCL.out; show _ + 1 ≤ _; omega)).mono ?_
      rintro e w2 ⟨rfl, HW2, HK2'⟩
      have HK2 : Hid (WK B b w w2) := HK1.out.trans HK2'.out
      have HP2 : Hid (PartV w2 (.node x y a p q) (.iface ty u)) := hid (PartV.wrote HW1.out HK2'.out HP1.out)
      have HT2 : Hid (PowTab w2) := HT.out.low HK2.out.low HB.out
      clear HK2' HP1 HW1 HK1 HT1
      go_wp2_with fail
      refine (h w2 _ B b _ HP2.out HW2.out HT2.out HB.out (by rw [List.length_append, bl_length]; have h1 := HL.out; show _ + 1 + _ ≤ _; omega)).mono ?_
      rintro e w3 ⟨rfl, HW3, HK3'⟩
      have HK3 : Hid (WK B b w w3) := HK2.out.trans HK3'.out
      clear HK3' HP2 HW2 HK2 HT2
      go_wp2_with fail
      refine (put_t HW3.out ⟨#[41]⟩ (by simp only [List.length_append, bl_length]; have h1 := HL.out; have h2 := HCL.out; show _ + 1 + _ + 1 ≤ _; omega)).mono ?_
      rintro e w4 ⟨rfl, HW4, HK4'⟩
      have HK4 : Hid (WK B b w w4) := HK3.out.trans HK4'.out
      have HW5 : Hid (WB w4 B b (l ++ printT (.node x y a p q) (j + 1))) := hid (by
        rw [HX.out]; have := HW4.out; simp only [List.append_assoc] at this ⊢; exact this)
      clear HK4' HW4
      go_wp2
      go_end0
      exact ⟨rfl, HW5, HK4⟩
attribute [local go_sem ↓] Go.wp_at_zero Go.wp_at_succ
attribute [local go_sem] asNumberNumber asNumberNegative asNumberPair asNumberGroup asNumberWindow asNumberSelector asNegativeNumber asNegativeNegative asNegativePair asNegativeGroup asNegativeWindow asNegativeSelector asPairNumber asPairNegative asPairPair asPairGroup asPairWindow asPairSelector asGroupNumber asGroupNegative asGroupPair asGroupGroup asGroupWindow asGroupSelector asWindowNumber asWindowNegative asWindowPair asWindowGroup asWindowWindow asWindowSelector asSelectorNumber asSelectorNegative asSelectorPair asSelectorGroup asSelectorWindow asSelectorSelector
theorem coreS_num {a : Nd} (h : a.kind = 0) (pl pr : Nat → List UInt8) : coreS a pl pr = decS a.n.toNat := by unfold coreS; rw [if_pos h]
theorem coreS_sel {a : Nd} (h : a.kind = 1) (pl pr : Nat → List UInt8) : coreS a pl pr = selS a := by unfold coreS; rw [if_neg (by omega), if_pos h]
theorem coreS_win {a : Nd} (h : a.kind = 2) (pl pr : Nat → List UInt8) : coreS a pl pr = overWords.getD a.op [] ++ [40] ++ selS a ++ [91] ++ decS a.n.toNat ++ [93, 41] := by unfold coreS; rw [if_neg (by omega), if_neg (by omega), if_pos h]
theorem coreS_neg {a : Nd} (h : a.kind = 3) (pl pr : Nat → List UInt8) : coreS a pl pr = [45] ++ pl 4 := by unfold coreS; rw [if_neg (by omega), if_neg (by omega), if_neg (by omega), if_pos h]
theorem coreS_grp {a : Nd} (h : a.kind = 5) (pl pr : Nat → List UInt8) : coreS a pl pr = groupWords.getD a.op [] ++ [32, 98, 121, 32, 40] ++ commas a.by_ ++ [41, 32, 40] ++ pl 1 ++ [41] := by unfold coreS; rw [if_neg (by omega), if_neg (by omega), if_neg (by omega), if_neg (by omega), if_pos h]
theorem dec_len {n : Int} (h : n ≤ 1000000000) : (decS n.toNat).length ≤ 10 := by
  refine decS_len 9 _ ?_
  have h1 : n.toNat ≤ 1000000000 := by omega
  have h2 : (10 : Nat) ^ 10 = 10000000000 := by decide
  omega
set_option maxRecDepth 100000 in
set_option maxHeartbeats 8000000 in
theorem wr_num {x y : Nat} {a : Nd} {p q : Tr} (hwf : wfT (.node x y a p q)) (hk : a.kind = 0) (w : World) (B b : Nat) (l : List UInt8) (hw : WB w B b l) (ht : PowTab w) (hB : 20 ≤ B) (hl : l.length + wT (.node x y a p q) ≤ big) :
    Calls Tryz.prog 38 #[.pointer (some ⟨b, 0, none⟩), .iface 152 (.agg #[.int .i64 a.n])] w fun e w' => e = .returned (.tuple #[]) ∧ Hid (WB w' B b (l ++ printT (.node x y a p q) 1)) ∧ Hid (WK B b w w') := by
  have HX : Hid (printT (.node x y a p q) 1 = decS a.n.toNat) := hid (by rw [printT_one, coreS_num hk])
  have HW : Hid (WB w B b l) := hw
  have HT : Hid (PowTab w) := ht
  have HB : Hid (20 ≤ B) := hB
  have HN : Hid (0 ≤ a.n ∧ a.n ≤ 1000000000) := ⟨hwf.2.2.2.2.1, hwf.2.2.2.2.2.1⟩
  have HL : Hid (l.length + 24 ≤ big) := hid (by have h1 : ownW a + wT p + wT q = wT (.node x y a p q) := rfl; unfold ownW at h1; omega)
  obtain ⟨n, hn⟩ : ∃ n, n = a.n := ⟨_, rfl⟩
  rw [← hn] at HN HX ⊢
  clear hw ht hB hl hwf hk hn
  go_enter Tryz.func38, Tryz.ntmps38
  go_wp2_with fail
  refine calls_gen fun W hW => ?_
  have hbW : Below w.heap.size w W := by rw [hW]; exact (Below.refl _ _).alloc (Nat.le_refl _) _
  have HWW : Hid (WB W B b l) := HW.out.below hbW
  have HKW : Hid (WK B b w W) := WK.below hbW HW.out.le
  have HTW : Hid (PowTab W) := HT.out.low HKW.out.low HB.out
  clear hW hbW
  refine (itoa_t HTW.out n HN.out.1 HN.out.2).mono ?_
  rintro e w1 ⟨s, rfl, hs, hb1⟩
  have HW1 : Hid (WB w1 B b l) := HWW.out.below hb1
  have HK1 : Hid (WK B b w w1) := HKW.out.trans (WK.below hb1 HWW.out.le)
  clear hb1
  go_wp2_with fail
  refine (put_t HW1.out s (by rw [size_of_bl hs.out]; have := dec_len HN.out.2; have := HL.out; omega)).mono ?_
  rintro e w2 ⟨rfl, HW2, HK2'⟩
  have HK2 : Hid (WK B b w w2) := HK1.out.trans HK2'.out
  clear HK2'
  go_wp2
  go_end0
  exact ⟨rfl, by rw [HX.out, ← hs.out]; exact HW2, HK2⟩
set_option maxRecDepth 100000 in
set_option maxHeartbeats 8000000 in
theorem wr_sel {x y : Nat} {a : Nd} {p q : Tr} (hk : a.kind = 1) (nm : ByteArray) (la : Option Addr) (ln lc : Nat) (w : World) (hnm : bl nm = a.name) (hc : CondsV w (.slice la ln lc) a.conds) (B b : Nat) (l : List UInt8) (hw : WB w B b l) (hl : l.length + wT (.node x y a p q) ≤ big) :
    Calls Tryz.prog 38 #[.pointer (some ⟨b, 0, none⟩), .iface 179 (.agg #[.string nm, .slice la ln lc])] w fun e w' => e = .returned (.tuple #[]) ∧ Hid (WB w' B b (l ++ printT (.node x y a p q) 1)) ∧ Hid (WK B b w w') := by
  have HX : Hid (printT (.node x y a p q) 1 = selS a) := hid (by rw [printT_one, coreS_sel hk])
  have HW : Hid (WB w B b l) := hw
  have HNM : Hid (bl nm = a.name) := hnm
  have HC : Hid (CondsV w (.slice la ln lc) a.conds) := hc
  have HL : Hid (l.length + a.name.length + cw a.conds + 10 ≤ big) := hid (by have h1 : ownW a + wT p + wT q = wT (.node x y a p q) := rfl; unfold ownW at h1; omega)
  clear hw hl hk hnm hc
  go_enter Tryz.func38, Tryz.ntmps38
  go_wp2_with fail
  refine calls_gen fun W hW => ?_
  have hbW : Below w.heap.size w W := by rw [hW]; exact (Below.refl _ _).alloc (Nat.le_refl _) _
  have HWW : Hid (WB W B b l) := HW.out.below hbW
  have HKW : Hid (WK B b w W) := WK.below hbW HW.out.le
  have HCW : Hid (CondsV W (.slice la ln lc) a.conds) := HC.out.below hbW
  clear hW hbW
  refine (wsel_t HWW.out nm la ln lc a HNM.out HCW.out HL.out).mono ?_
  rintro e w2 ⟨rfl, HW2, HK2'⟩
  have HK2 : Hid (WK B b w w2) := HKW.out.trans HK2'.out
  clear HK2'
  go_wp2
  go_end0
  exact ⟨rfl, by rw [HX.out]; exact HW2, HK2⟩
set_option maxRecDepth 100000 in
set_option maxHeartbeats 8000000 in
theorem wr_win {x y : Nat} {a : Nd} {p q : Tr} (hwf : wfT (.node x y a p q)) (hk : a.kind = 2) (wd nm : ByteArray) (la : Option Addr) (ln lc : Nat) (w : World) (hwd : bl wd = overWords.getD a.op []) (hnm : bl nm = a.name) (hc : CondsV w (.slice la ln lc) a.conds) (B b : Nat) (l : List UInt8) (hw : WB w B b l) (ht : PowTab w) (hB : 20 ≤ B) (hl : l.length + wT (.node x y a p q) ≤ big) :
    Calls Tryz.prog 38 #[.pointer (some ⟨b, 0, none⟩), .iface 181 (.agg #[.string wd, .string nm, .slice la ln lc, .int .i64 a.n])] w fun e w' => e = .returned (.tuple #[]) ∧ Hid (WB w' B b (l ++ printT (.node x y a p q) 1)) ∧ Hid (WK B b w w') := by
  have HX : Hid (printT (.node x y a p q) 1 = bl wd ++ [40] ++ selS a ++ [91] ++ decS a.n.toNat ++ [93, 41]) := hid (by rw [printT_one, coreS_win hk, hwd])
  have HW : Hid (WB w B b l) := hw
  have HT : Hid (PowTab w) := ht
  have HB : Hid (20 ≤ B) := hB
  have HN : Hid (0 ≤ a.n ∧ a.n ≤ 1000000000) := ⟨hwf.2.2.2.2.1, hwf.2.2.2.2.2.1⟩
  have HNM : Hid (bl nm = a.name) := hnm
  have HC : Hid (CondsV w (.slice la ln lc) a.conds) := hc
  have hwl : wd.size ≤ 5 := by rw [size_of_bl hwd]; exact getD_len overWords (by decide) a.op
  have HL : Hid (l.length + a.name.length + cw a.conds + 24 ≤ big) := hid (by have h1 : ownW a + wT p + wT q = wT (.node x y a p q) := rfl; unfold ownW at h1; omega)
  have HSL : Hid ((selS a).length ≤ a.name.length + cw a.conds + 2) := hid (selS_len a)
  obtain ⟨n, hn⟩ : ∃ n, n = a.n := ⟨_, rfl⟩
  rw [← hn] at HN HX ⊢
  have a1 : ∀ W, (Op.stringOp .add wd ⟨#[40]⟩).run Tryz.prog W = .ok (.string (wd ++ ⟨#[40]⟩)) W := fun W => run_string_add_sum W _ _ (by show wd.size + 1 ≤ _; omega)
  have HS1 : Hid ((wd ++ ⟨#[40]⟩ : ByteArray).size = wd.size + 1) := hid (by rw [ByteArray.size_append]; rfl)
  clear hw ht hB hl hwf hk hn hwd hnm hc
  go_enter Tryz.func38, Tryz.ntmps38
  go_upto_region 20 with fail
  refine wp_gen fun W hW => ?_
  have hbW : Below w.heap.size w W := by rw [hW]; exact (Below.refl _ _).alloc (Nat.le_refl _) _
  have HP0 : Hid (BAt W w.heap.size [.string wd, .string nm, .slice la ln lc, .int .i64 n] 181) := hid (by rw [hW]; exact Go.Deep.blk_alloc_new _ _)
  have HWW : Hid (WB W B b l) := HW.out.below hbW
  have HKW : Hid (WK B b w W) := WK.below hbW HW.out.le
  have HCW : Hid (CondsV W (.slice la ln lc) a.conds) := HC.out.below hbW
  clear hW hbW
  have p0 := HP0.out.cell 0
  simp only [List.getElem?_cons_zero] at p0
  go_wp2_with fail
  refine (put_t HWW.out _ (by rw [HS1.out]; have := HL.out; omega)).mono ?_
  rintro e w1 ⟨rfl, HW1, HK1'⟩
  have HK1 : Hid (WK B b w w1) := HKW.out.trans HK1'.out
  have HP1 := hid (WK.bat HWW.out HK1'.out HP0.out (by decide) (by decide))
  have HC1 : Hid (CondsV w1 (.slice la ln lc) a.conds) := hid (HCW.out.wrote HWW.out HK1'.out)
  clear HK1' p0 HP0 HWW HKW HCW
  have p1 := HP1.out.cell 1
  have p2 := HP1.out.cell 2
  simp only [List.getElem?_cons_zero, List.getElem?_cons_succ] at p1 p2
  go_wp2_with fail
  refine (wsel_t HW1.out nm la ln lc a HNM.out HC1.out (by rw [List.length_append, bl_length, HS1.out]; have := HL.out; omega)).mono ?_
  rintro e w2 ⟨rfl, HW2, HK2'⟩
  have HK2 : Hid (WK B b w w2) := HK1.out.trans HK2'.out
  have HP2 := hid (WK.bat HW1.out HK2'.out HP1.out (by decide) (by decide))
  have HT2 : Hid (PowTab w2) := HT.out.low HK2.out.low HB.out
  clear HK2' p1 p2 HP1 HW1 HK1 HC1
  have p3 := HP2.out.cell 3
  simp only [List.getElem?_cons_zero, List.getElem?_cons_succ] at p3
  go_wp2_with fail
  refine (itoa_t HT2.out n HN.out.1 HN.out.2).mono ?_
  rintro e w3 ⟨s, rfl, hs, hb3⟩
  have HW3 := hid (HW2.out.below hb3)
  have HK3 : Hid (WK B b w w3) := HK2.out.trans (WK.below hb3 HW2.out.le)
  have hss : s.size ≤ 10 := by rw [size_of_bl hs.out]; exact dec_len HN.out.2
  have b1 : ∀ W, (Op.stringOp .add ⟨#[91]⟩ s).run Tryz.prog W = .ok (.string (⟨#[91]⟩ ++ s)) W := fun W => run_string_add_sum W _ _ (by show 1 + s.size ≤ _; omega)
  have HS2 : Hid ((⟨#[91]⟩ ++ s : ByteArray).size = 1 + s.size) := hid (by rw [ByteArray.size_append]; rfl)
  have b2 : ∀ W, (Op.stringOp .add (⟨#[91]⟩ ++ s) ⟨#[93, 41]⟩).run Tryz.prog W = .ok (.string ((⟨#[91]⟩ ++ s) ++ ⟨#[93, 41]⟩)) W := fun W => run_string_add_sum W _ _ (by rw [HS2.out]; show _ + 2 ≤ _; omega)
  have HS3 : Hid (((⟨#[91]⟩ ++ s) ++ ⟨#[93, 41]⟩ : ByteArray).size = 1 + s.size + 2) := hid (by rw [ByteArray.size_append, HS2.out]; rfl)
  clear hb3 p3 HW2 HK2 HT2
  go_wp2_with fail
  refine (put_t HW3.out _ (by rw [HS3.out]; simp only [List.length_append, bl_length]; rw [HS1.out]; have := HL.out; have := HSL.out; omega)).mono ?_
  rintro e w4 ⟨rfl, HW4, HK4'⟩
  have HK4 : Hid (WK B b w w4) := HK3.out.trans HK4'.out
  have HW5 : Hid (WB w4 B b (l ++ printT (.node x y a p q) 1)) := hid (by
    rw [HX.out, ← hs.out]
    have := HW4.out
    rw [bl_app, bl_app, bl_app] at this
    simp only [List.append_assoc] at this ⊢
    exact this)
  clear HK4' HW4
  go_wp2
  go_end0
  exact ⟨rfl, HW5, HK4⟩
set_option maxRecDepth 100000 in
set_option maxHeartbeats 8000000 in
theorem wr_neg {x y : Nat} {a : Nd} {p q : Tr} (hk : a.kind = 3) (ih : WW p) (w : World) (z : Value) (hz : PartV w p z) (B b : Nat) (l : List UInt8) (hw : WB w B b l) (ht : PowTab w) (hB : 20 ≤ B) (hl : l.length + wT (.node x y a p q) ≤ big) :
    Calls Tryz.prog 38 #[.pointer (some ⟨b, 0, none⟩), .iface 154 (.agg #[z])] w fun e w' => e = .returned (.tuple #[]) ∧ Hid (WB w' B b (l ++ printT (.node x y a p q) 1)) ∧ Hid (WK B b w w') := by
  have HX : Hid (printT (.node x y a p q) 1 = [45] ++ printT p 4) := hid (by rw [printT_one, coreS_neg hk])
  have HW : Hid (WB w B b l) := hw
  have HT : Hid (PowTab w) := ht
  have HB : Hid (20 ≤ B) := hB
  have HL : Hid (l.length + 24 + wT p ≤ big) := hid (by have h1 : ownW a + wT p + wT q = wT (.node x y a p q) := rfl; unfold ownW at h1; omega)
  have HZ : Hid (PartV w p z) := hz
  obtain ⟨ty, u, hsh⟩ := PartV.shape hz
  subst hsh
  clear hw ht hB hl hk hz
  go_enter Tryz.func38, Tryz.ntmps38
  go_upto_region 6 with fail
  refine wp_gen fun W hW => ?_
  have hbW : Below w.heap.size w W := by rw [hW]; exact (Below.refl _ _).alloc (Nat.le_refl _) _
  have HP0 : Hid (BAt W w.heap.size [.iface ty u] 154) := hid (by rw [hW]; exact Go.Deep.blk_alloc_new _ _)
  have HWW : Hid (WB W B b l) := HW.out.below hbW
  have HKW : Hid (WK B b w W) := WK.below hbW HW.out.le
  have HZW : Hid (PartV W p (.iface ty u)) := HZ.out.below hbW
  clear hW hbW
  go_wp2_with fail
  refine (put_t HWW.out ⟨#[45]⟩ (by have := HL.out; show _ + 1 ≤ _; omega)).mono ?_
  rintro e w1 ⟨rfl, HW1, HK1'⟩
  have HK1 : Hid (WK B b w w1) := HKW.out.trans HK1'.out
  have HP1 := hid (WK.bat HWW.out HK1'.out HP0.out (by decide) (by decide))
  have HZ1 : Hid (PartV w1 p (.iface ty u)) := hid (PartV.wrote HWW.out HK1'.out HZW.out)
  have HT1 : Hid (PowTab w1) := HT.out.low HK1.out.low HB.out
  clear HK1' HP0 HWW HKW HZW
  have p0 := HP1.out.cell 0
  simp only [List.getElem?_cons_zero] at p0
  go_wp2_with fail
  refine (ih w1 _ B b _ 3 HZ1.out HW1.out HT1.out HB.out (by rw [List.length_append, bl_length]; have := HL.out; show _ + 1 + _ + 2 ≤ _; omega)).mono ?_
  rintro e w2 ⟨rfl, HW2, HK2'⟩
  have HK2 : Hid (WK B b w w2) := HK1.out.trans HK2'.out
  have HW3 : Hid (WB w2 B b (l ++ printT (.node x y a p q) 1)) := hid (by rw [HX.out, ← List.append_assoc]; exact HW2.out)
  clear HK2' HW2
  go_wp2
  go_end0
  exact ⟨rfl, HW3, HK2⟩
end Go.Proofs.YtpbemaaghbbocaaGreatDoor

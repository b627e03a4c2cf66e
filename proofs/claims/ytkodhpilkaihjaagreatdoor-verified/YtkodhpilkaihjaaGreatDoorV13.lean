/- Parts. -/
import Derived.Test.YtkodhpilkaihjaaGreatDoorV11
import Derived.Test.YtkodhpilkaihjaaGreatDoorV12
import Derived.Test.YtkodhpilkaihjaaGreatDoorV10
import Derived.Test.YtkodhpilkaihjaaGreatDoorV07
import Derived.Test.YtkodhpilkaihjaaGreatDoorV08
namespace Go.Proofs.YtkodhpilkaihjaaGreatDoor
open Go.RowKit LS
theorem RdC.kept {α : Type} {V : World → α → Value → Prop} {Z : Value → Prop} {w w' : World} {b : Nat} {s : ByteArray} {ca : Addr} {r : RdR α} {v err : Value} (h : RdC V Z w b s ca r v err) {a : Nat} {c : List Value} {t : TypeId} (hg : w.grownBy w' (some a)) (hq : BAt w a c t) (h1 : t ≠ 178) (h2 : t ≠ 119) (hV : ∀ x, V w x v → V w' x v) : RdC V Z w' b s ca r v err := by
  have hb : ∀ p, RdAt w b s p → RdAt w' b s p := fun p hp => hp.grown hg (fun e => by
    injection e with e; subst e
    unfold RdAt at hp; unfold BAt at hp hq; rw [hp] at hq; injection hq with hq; injection hq with _ e2; exact h1 e2.symm)
  cases r with
  | ok x => exact ⟨h.1, hV _ h.2.1, hb _ h.2.2⟩
  | error x =>
    obtain ⟨h1, h3, h4, p, h5⟩ := h
    exact ⟨h1, h3.grown hg hq h2, h4, p, hb _ h5⟩
theorem set2_self (w : World) (a : Nat) (x y : Value) : w.grownBy (set2 w a x y) (some a) := grown_set (grown_set (grown_refl w (some a)) (Or.inl rfl) _) (Or.inl rfl) _
def IV (_ : World) (a : Nat × Nat) (v : Value) : Prop := v = .agg #[.int .i64 a.1, .int .i64 a.2]
def IZ (v : Value) : Prop := ∃ x y : Int, v = .agg #[.int .i64 x, .int .i64 y]
theorem RdC.errMap {α β : Type} {V : World → α → Value → Prop} {Z : Value → Prop} {V' : World → β → Value → Prop} {Z' : Value → Prop} {w : World} {b : Nat} {s : ByteArray} {ca : Addr} {r : RdR α} {r' : RdR β} {v v' err : Value} {x : Nat × Nat} (h : RdC V Z w b s ca r v err) (hr : r = .error x) (hr' : r' = .error x) (hz : Z' v') : RdC V' Z' w b s ca r' v' err := by
  obtain ⟨h1, h2, _, h4⟩ := h.err hr
  exact RdC.mkErr hr' ⟨h1, h2, hz, h4⟩
theorem RdC.errShape {α : Type} {V : World → α → Value → Prop} {Z : Value → Prop} {w : World} {b : Nat} {s : ByteArray} {ca : Addr} {r : RdR α} {v err : Value} {x : Nat × Nat} (h : RdC V Z w b s ca r v err) (hr : r = .error x) : ∃ fa : Nat, err = .iface 115 (.pointer (some ⟨fa, 0, none⟩)) := ErrAt.shape (h.err hr).2.1
set_option maxRecDepth 100000 in
set_option maxHeartbeats 4000000 in
theorem rins_any (s : ByteArray) (p b : Nat) (ca : Addr) (w : World) (hr : RdAt w b s p) (hc : CodeS w ca) (hb : 20 ≤ b) (hp : p ≤ s.size) (hs : s.size ≤ maxLen) :
    Calls Tryz.prog 143 #[.pointer (some ⟨b, 0, none⟩)] w fun e w' => ∃ v err, e = .returned (.tuple #[v, err]) ∧ Hid (RdC IV IZ w' b s ca (insAt (bl s) p) v err) ∧ w.grownBy w' (some b) := by
  have hbl := hr.lt
  have HT : Hid (∀ (p n : Nat) (w : World), RdAt w b s p → CodeS w ca → p ≤ s.size → n ≤ 4 → Calls Tryz.prog 75 #[.pointer (some ⟨b, 0, none⟩), .int .i64 n] w _) := hid (fun p n w h1 h2 h3 h4 => rnumber_any s p n b ca w h1 h2 h3 hs h4)
  have HC0 : Hid (CodeS w ca) := hc
  have HR0 := hid hr
  have c1 : w.cell? ⟨b, 1, none⟩ = some (.int .i64 p) := hr.cell 1
  clear hr hc hs
  go_enter Tryz.func143, Tryz.ntmps143
  go_wp2_with fail
  refine calls_gen fun W hW => ?_
  have hbW : Below w.heap.size w W := by rw [hW]; exact (Below.refl _ _).alloc (Nat.le_refl _) _
  have HXW : Hid (BAt W w.heap.size [.int .i64 0, .int .i64 0] 184) := hid (by rw [hW]; exact Go.Deep.blk_alloc_new _ _)
  have HGW : Hid (w.grownBy W (some b)) := hid (grown_of_below hbW)
  have HCW := hid (HC0.out.below hbW)
  have HRW := hid (HR0.out.below hbW)
  clear hW hbW c1
  refine (HT.out p 1 W HRW.out HCW.out hp (by omega)).mono ?_
  rintro e w1 ⟨v, err, rfl, HC, hg1⟩
  have HG1 : Hid (w.grownBy w1 (some b)) := hid (grown_trans HGW.out hg1)
  have HX1 := hid (HXW.out.grown hg1 (by intro e; injection e with e; omega))
  have HC1 : Hid (CodeS w1 ca) := hid (HCW.out.grown hg1 hb)
  clear hg1 HGW HXW HCW HRW
  cases ht : numAt (bl s) p 1 with
  | error x =>
    obtain ⟨fa, rfl⟩ := HC.out.errShape ht
    have HF : Hid (RdC IV IZ w1 b s ca (insAt (bl s) p) (.agg #[.int .i64 0, .int .i64 0]) (.iface 115 (.pointer (some ⟨fa, 0, none⟩)))) := hid (HC.out.errMap ht (by unfold insAt; rw [ht]) ⟨0, 0, rfl⟩)
    obtain ⟨_, _, rfl, _⟩ := HC.out.err ht
    clear HC ht
    have f0 := HX1.out.frozen 0
    have f1 := HX1.out.frozen 1
    have c0 := HX1.out.cell 0
    have c1 := HX1.out.cell 1
    simp only [List.getElem?_cons_zero, List.getElem?_cons_succ] at c0 c1
    go_wp2
    change bodyPost _ _ _ _ _ (set2 w1 w.heap.size (.int .i64 0) (.int .i64 0))
    have st := set2_at HX1.out (x := .int .i64 0) (y := .int .i64 0)
    have s0 := st.cell 0
    have s1 := st.cell 1
    simp only [List.getElem?_cons_zero, List.getElem?_cons_succ] at s0 s1
    have HE2 := hid (HF.out.kept (set2_self w1 w.heap.size (.int .i64 0) (.int .i64 0)) HX1.out (by decide) (by decide) (fun _ h => h))
    have HGX := hid (set2_grown HG1.out (Nat.le_refl _) (.int .i64 0) (.int .i64 0))
    generalize set2 w1 w.heap.size (.int .i64 0) (.int .i64 0) = WX at *
    exact bodyPost_ret (v := .tuple #[.agg #[.int .i64 0, .int .i64 0], .iface 115 (.pointer (some ⟨fa, 0, none⟩))]) (by simp [results, Tryz.results143, go_sem, s0, s1]) rfl ⟨_, _, rfl, HE2, HGX.out⟩
  | ok x =>
    obtain ⟨op, q⟩ := x
    obtain ⟨rfl, rfl, hq⟩ := HC.out.ok ht
    have hlt := (numAt_ok ht).2.2.2
    have hql : q ≤ s.size := by have := numAt_ok ht; rw [bl_length] at this; simp only at this; omega
    simp only at hq hlt
    have hlt : op < 256 := hlt
    have HR1 := hid hq
    have HX : Hid (insAt (bl s) p = if 13 < op then .error (9, p) else match numAt (bl s) q 2 with
      | .error e => .error e
      | .ok y => .ok ((op, y.1), y.2)) := hid (by unfold insAt; rw [ht]; rfl)
    clear HC ht hq
    have f0 := HX1.out.frozen 0
    have f1 := HX1.out.frozen 1
    have c0 := HX1.out.cell 0
    have c1 := HX1.out.cell 1
    simp only [List.getElem?_cons_zero, List.getElem?_cons_succ] at c0 c1
    by_cases h13 : 13 < op
    · have HY : Hid (insAt (bl s) p = .error (9, p)) := hid (by rw [HX.out, if_pos h13])
      have hd : (13 : Int) < op := by omega
      clear HX
      go_wp2_with fail
      refine (cstand_any _ ca _ HC1.out).mono ?_
      rintro e w2 ⟨v, rfl, hv, hb2⟩
      have HF : Hid (RdC IV IZ w2 b s ca (insAt (bl s) p) (.agg #[.int .i64 0, .int .i64 0]) v) := hid (RdC.mkErr HY.out ⟨rfl, hv.out, ⟨0, 0, rfl⟩, _, HR1.out.below hb2⟩)
      have HG2 : Hid (w.grownBy w2 (some b)) := hid (grown_below HG1.out hb2)
      have HX2 := hid (HX1.out.below hb2)
      obtain ⟨fa, rfl⟩ := ErrAt.shape hv.out
      clear hv hb2 f0 f1 c0 c1
      have f0 := HX2.out.frozen 0
      have f1 := HX2.out.frozen 1
      have c0 := HX2.out.cell 0
      have c1 := HX2.out.cell 1
      simp only [List.getElem?_cons_zero, List.getElem?_cons_succ] at c0 c1
      go_wp2
      change bodyPost _ _ _ _ _ (set2 w2 w.heap.size (.int .i64 0) (.int .i64 0))
      have st := set2_at HX2.out (x := .int .i64 0) (y := .int .i64 0)
      have s0 := st.cell 0
      have s1 := st.cell 1
      simp only [List.getElem?_cons_zero, List.getElem?_cons_succ] at s0 s1
      have HE2 := hid (HF.out.kept (set2_self w2 w.heap.size (.int .i64 0) (.int .i64 0)) HX2.out (by decide) (by decide) (fun _ h => h))
      have HGX := hid (set2_grown HG2.out (Nat.le_refl _) (.int .i64 0) (.int .i64 0))
      generalize set2 w2 w.heap.size (.int .i64 0) (.int .i64 0) = WX at *
      exact bodyPost_ret (v := .tuple #[.agg #[.int .i64 0, .int .i64 0], .iface 115 (.pointer (some ⟨fa, 0, none⟩))]) (by simp [results, Tryz.results143, go_sem, s0, s1]) rfl ⟨_, _, rfl, HE2, HGX.out⟩
    · have hd : ¬ (13 : Int) < op := by omega
      have HY : Hid (insAt (bl s) p = match numAt (bl s) q 2 with
        | .error e => .error e
        | .ok y => .ok ((op, y.1), y.2)) := hid (by rw [HX.out, if_neg h13])
      clear HX
      go_wp2_with fail
      refine (HT.out q 2 w1 HR1.out HC1.out hql (by omega)).mono ?_
      rintro e w2 ⟨v, err, rfl, HC, hg2⟩
      have HG2 : Hid (w.grownBy w2 (some b)) := hid (grown_trans HG1.out hg2)
      have HX2 := hid (HX1.out.grown hg2 (by intro e; injection e with e; omega))
      clear hg2 f0 f1 c0 c1
      have f0 := HX2.out.frozen 0
      have f1 := HX2.out.frozen 1
      have c0 := HX2.out.cell 0
      have c1 := HX2.out.cell 1
      simp only [List.getElem?_cons_zero, List.getElem?_cons_succ] at c0 c1
      obtain ⟨a, hva, hif, HF⟩ : ∃ a : Nat, v = .int .i64 a ∧ (err = .nilIface ∨ ∃ fa : Nat, err = .iface 115 (.pointer (some ⟨fa, 0, none⟩))) ∧ Hid (RdC IV IZ w2 b s ca (insAt (bl s) p) (.agg #[.int .i64 op, .int .i64 a]) err) := by
        cases ht : numAt (bl s) q 2 with
        | error x =>
          obtain ⟨_, _, hz, _⟩ := HC.out.err ht
          exact ⟨0, hz, Or.inr (HC.out.errShape ht), hid (HC.out.errMap ht (by rw [HY.out, ht]) ⟨_, _, rfl⟩)⟩
        | ok x =>
          obtain ⟨h1, h2, h3⟩ := HC.out.ok ht
          exact ⟨x.1, h2, Or.inl h1, hid (RdC.mkOk (x := ((op, x.1), x.2)) (by rw [HY.out, ht]) ⟨h1, rfl, h3⟩)⟩
      subst hva
      clear HC HY
      rcases hif with rfl | ⟨fa, rfl⟩
      all_goals
        go_wp2
        change bodyPost _ _ _ _ _ (set2 w2 w.heap.size (.int .i64 op) (.int .i64 a))
        have st := set2_at HX2.out (x := .int .i64 op) (y := .int .i64 a)
        have s0 := st.cell 0
        have s1 := st.cell 1
        simp only [List.getElem?_cons_zero, List.getElem?_cons_succ] at s0 s1
        have HE2 := hid (HF.out.kept (set2_self w2 w.heap.size (.int .i64 op) (.int .i64 a)) HX2.out (by decide) (by decide) (fun _ h => h))
        have HGX := hid (set2_grown HG2.out (Nat.le_refl _) (.int .i64 op) (.int .i64 a))
        generalize set2 w2 w.heap.size (.int .i64 op) (.int .i64 a) = WX at *
      · exact bodyPost_ret (v := .tuple #[.agg #[.int .i64 op, .int .i64 a], .nilIface]) (by simp [results, Tryz.results143, go_sem, s0, s1]) rfl ⟨_, _, rfl, HE2, HGX.out⟩
      · exact bodyPost_ret (v := .tuple #[.agg #[.int .i64 op, .int .i64 a], .iface 115 (.pointer (some ⟨fa, 0, none⟩))]) (by simp [results, Tryz.results143, go_sem, s0, s1]) rfl ⟨_, _, rfl, HE2, HGX.out⟩
set_option maxRecDepth 100000 in
set_option maxHeartbeats 2000000 in
theorem rtext_any (s : ByteArray) (p b : Nat) (ca : Addr) (w : World) (hr : RdAt w b s p) (hc : CodeS w ca) (hb : 20 ≤ b) (hp : p ≤ s.size) (hs : s.size ≤ maxLen) :
    Calls Tryz.prog 196 #[.pointer (some ⟨b, 0, none⟩)] w fun e w' => ∃ v err, e = .returned (.tuple #[v, err]) ∧ Hid (RdC SVt SZ w' b s ca (textAt (bl s) p) v err) ∧ w.grownBy w' (some b) := by
  have HT : Hid (Calls Tryz.prog 75 #[.pointer (some ⟨b, 0, none⟩), .int .i64 (2 : Nat)] w _) := hid (rnumber_any s p 2 b ca w hr hc hp hs (by omega))
  have HK : Hid (∀ (p n : Nat) (w : World), RdAt w b s p → CodeS w ca → p ≤ s.size → n ≤ 70000 → Calls Tryz.prog 144 #[.pointer (some ⟨b, 0, none⟩), .int .i64 n] w _) := hid (fun p n w h1 h2 h3 h4 => rtake_any s p n b ca w h1 h2 h3 hs h4)
  have HC0 : Hid (CodeS w ca) := hc
  clear hr hc hs
  go_enter Tryz.func196, Tryz.ntmps196
  go_wp2_with fail
  refine HT.out.mono ?_
  rintro e w1 ⟨v, err, rfl, HC, HG⟩
  clear HT
  cases ht : numAt (bl s) p 2 with
  | error x =>
    obtain ⟨fa, rfl⟩ := HC.out.errShape ht
    have HF : Hid (RdC SVt SZ w1 b s ca (textAt (bl s) p) (.string ⟨#[]⟩) (.iface 115 (.pointer (some ⟨fa, 0, none⟩)))) := hid (HC.out.errMap ht (by unfold textAt; rw [ht]) rfl)
    obtain ⟨_, _, rfl, _⟩ := HC.out.err ht
    clear HC ht
    go_wp2
    go_ret2
    exact ⟨_, _, rfl, HF, HG⟩
  | ok x =>
    obtain ⟨n, q⟩ := x
    obtain ⟨rfl, rfl, hq⟩ := HC.out.ok ht
    have hlt := (numAt_ok ht).2.2.2
    have hql : q ≤ s.size := by have := numAt_ok ht; rw [bl_length] at this; simp only at this; omega
    simp only at hq hlt
    have hlt : n < 65536 := hlt
    have HR1 := hid hq
    have HC1 : Hid (CodeS w1 ca) := hid (HC0.out.grown HG hb)
    have HX : Hid (textAt (bl s) p = textN (bl s) q n) := hid (by unfold textAt; rw [ht])
    clear HC ht hq
    go_wp2_with fail
    refine (HK.out q n w1 HR1.out HC1.out hql (by omega)).mono ?_
    rintro e w2 ⟨v, err, rfl, HC, hg2⟩
    have HG2 : Hid (w.grownBy w2 (some b)) := hid (grown_trans HG hg2)
    have HF : Hid (RdC SVt SZ w2 b s ca (textAt (bl s) p) v err) := hid (by rw [HX.out]; exact HC.out)
    obtain ⟨⟨t, hvt⟩, hif⟩ : (∃ t : ByteArray, v = .string t) ∧ (err = .nilIface ∨ ∃ fa : Nat, err = .iface 115 (.pointer (some ⟨fa, 0, none⟩))) := by
      cases ht : textN (bl s) q n with
      | error x =>
        obtain ⟨_, _, hz, _⟩ := HC.out.err ht
        exact ⟨⟨_, hz⟩, Or.inr (HC.out.errShape ht)⟩
      | ok x =>
        obtain ⟨h1, ⟨t, h2, _⟩, h3⟩ := HC.out.ok ht
        exact ⟨⟨t, h2⟩, Or.inl h1⟩
    subst hvt
    clear hg2 HC HX
    rcases hif with rfl | ⟨fa, rfl⟩
    all_goals
      go_wp2
      go_ret2
      exact ⟨_, _, rfl, HF, HG2.out⟩
def flatI : List (Nat × Nat) → List Value
  | [] => []
  | x :: l => .int .i64 x.1 :: .int .i64 x.2 :: flatI l
theorem flatI_append (l m : List (Nat × Nat)) : flatI (l ++ m) = flatI l ++ flatI m := by
  induction l with
  | nil => rfl
  | cons a l ih => simp [flatI, ih]
theorem flatI_get (l : List (Nat × Nat)) (j : Nat) (hj : j < l.length) : (flatI l)[j * 2]? = some (.int .i64 l[j].1) ∧ (flatI l)[j * 2 + 1]? = some (.int .i64 l[j].2) := by
  induction l generalizing j with
  | nil => simp at hj
  | cons r l ih =>
    cases j with
    | zero => exact ⟨rfl, rfl⟩
    | succ j =>
      have h := ih j (by simpa using hj)
      rw [show (j + 1) * 2 = j * 2 + 1 + 1 by omega]
      simpa [flatI] using h
def OneC {α : Type} (f : FuncId) (V : World → α → Value → Prop) (Z : Value → Prop) (w0 : World) (b : Nat) (s : ByteArray) (ca : Addr) (one : Nat → RdR α) : Prop :=
  ∀ (p : Nat) (w : World), Below w0.heap.size w0 w → RdAt w b s p → p ≤ s.size →
    Calls Tryz.prog f #[.pointer (some ⟨b, 0, none⟩)] w fun e w' => ∃ v err, e = .returned (.tuple #[v, err]) ∧ Hid (RdC V Z w' b s ca (one p) v err) ∧ w.grownBy w' (some b)
theorem below_by {w0 w w' : World} {b : Nat} (h : Below w0.heap.size w0 w) (hg : w.grownBy w' (some b)) (hb : w0.heap.size ≤ b) : Below w0.heap.size w0 w' :=
  h.trans ⟨hg.os, hg.tape, hg.output, hg.size, fun k hk => hg.block k (Nat.lt_of_lt_of_le hk h.size) (by intro e; injection e with e; omega)⟩
def RowZ (v : Value) : Prop := v = .slice none 0 0
def ConstsV (w : World) (cs : List Int) (v : Value) : Prop := w.ownsRow 0 3 1 v cs.length (cs.map (.int .i64))
theorem Tryz.infoIntV : (Tryz.prog.info? 3).map (fun i => (i.zero, i.size, i.bytes)) = some (some (.int .i64 0), 1, 8) := by kernel_rfl
theorem Tryz.infoIns : (Tryz.prog.info? 184).map (fun i => (i.zero, i.size, i.bytes)) = some (some (.agg #[.int .i64 0, .int .i64 0]), 2, 16) := by kernel_rfl
theorem row_keeps {w w' : World} {b base : Nat} {e : TypeId} {sz : Nat} {v : Value} {n : Nat} {xs : List Value} (h : w.ownsRow base e sz v n xs) (hg : w.grownBy w' (some b)) (hb : b < base) : w'.ownsRow base e sz v n xs :=
  h.kept hg (Or.inr (fun e => by have := (h.lt b e).1; omega))
set_option maxRecDepth 100000 in
set_option maxHeartbeats 4000000 in
theorem manyInt_any (s : ByteArray) (p n b : Nat) (ca : Addr) (w0 w : World) (h0 : Below w0.heap.size w0 w) (hb : w0.heap.size ≤ b) (hr : RdAt w b s p) (hp : p ≤ s.size) (hn : n ≤ 65535) (one : Nat → RdR Int) (h1 : OneC 137 KV NZ w0 b s ca one) (hq : ∀ p x, one p = .ok x → p ≤ s.size → x.2 ≤ s.size) :
    Calls Tryz.prog 136 #[.pointer (some ⟨b, 0, none⟩), .int .i64 n, .func (.func 137) #[] #[]] w fun e w' => ∃ v err, e = .returned (.tuple #[v, err]) ∧ Hid (RdC ConstsV RowZ w' b s ca (many one p n) v err) ∧ w.grownBy w' (some b) := by
  have hbl := hr.lt
  obtain ⟨i0, hi, hz0, hz1, hz2⟩ := info_parts Tryz.infoIntV
  have H1 := hid h1
  have HQ := hid hq
  have H0 := hid h0
  have HR := hid hr
  have HB0 := hid hb
  clear hr h1 hq h0 hb
  go_enter Tryz.func136, Tryz.ntmps136
  go_wp2
  go_loopw [8, 12] (fun v i wr => ∃ (k q : Nat) (xs : List Int), k ≤ n ∧ i = .int .i64 k ∧ q ≤ s.size ∧ Hid (many one p k = .ok (xs, q)) ∧ Hid (RdAt wr b s q) ∧ xs.length = k ∧ wr.ownsRow w.heap.size 3 1 v xs.length (xs.map (.int .i64)) ∧ Hid (w.grownBy wr (some b)))
    (fun _ i _ => n - (intOf i).toNat)
  case atStart => exact ⟨0, p, [], Nat.zero_le _, rfl, hp, hid rfl, HR, rfl, World.ownsRow_nil _ _ _ _, hid (grown_refl _ _)⟩
  case round =>
    obtain ⟨k, q, xs, hk, rfl, hq, HM, HRr, hxl, hown, HG⟩ := hrel
    have HXL := hid hxl
    clear hxl
    by_cases hlt : k < n
    · have hlz : (k : Int) < n := by omega
      obtain ⟨av, cp, rfl⟩ := own_shape hown
      have HO := hid hown
      clear hown
      go_wp2_with fail
      refine (H1.out q wr (below_by H0.out HG.out HB0.out) HRr.out hq).mono ?_
      rintro e w1 ⟨v, err, rfl, HC, hg1⟩
      have HG1 : Hid (w.grownBy w1 (some b)) := hid (grown_trans HG.out hg1)
      have hown1 := row_keeps HO.out hg1 hbl
      clear hg1 HO HG HRr
      cases ho : one q with
      | error x =>
        obtain ⟨fa, rfl⟩ := HC.out.errShape ho
        have HF : Hid (RdC ConstsV RowZ w1 b s ca (many one p n) (.slice none 0 0) (.iface 115 (.pointer (some ⟨fa, 0, none⟩)))) := hid (HC.out.errMap ho (many_step_err HM.out ho n hlt) rfl)
        have hz := (HC.out.err ho).2.2.1
        obtain rfl := hz
        clear HC ho hown1
        go_wp2
        go_ret2
        exact ⟨_, _, rfl, HF, HG1.out⟩
      | ok x =>
        obtain ⟨y, q2⟩ := x
        obtain ⟨rfl, hv, hr1⟩ := HC.out.ok ho
        have HM1 := hid (many_step_ok HM.out ho)
        have hq2 := HQ.out q (y, q2) ho hq
        have HR1 := hid hr1
        simp only at hq2
        have hw1 : w.heap.size ≤ w1.heap.size := HG1.out.size
        obtain rfl := hv
        clear HC ho hr1 HM
        go_wp2_with (at_builtin; refine wpList_append_own _ rfl (.tmp 23) (.tmp 25) 53 rfl w.heap.size 3 i0 (.int .i64 0) 1 8 Tryz.underlying53 hi hz0 hz1 hz2 rfl (by decide) _ _ _ rfl (hown1.alloc _) ⟨w1.heap.size, 0, none⟩ 1 1 [.int .i64 y] rfl rfl ?c1 ?c2 ?c3 ?c4 ?c5 ?_)
        case c1 => exact cells_new rfl
        case c2 => intro u hu; simp at hu; rw [hu]; rfl
        case c3 => have := HXL.out; unfold maxLen; omega
        case c4 => have := HXL.out; omega
        case c5 => have := HXL.out; simp; omega
        intro v' w3 hown3 hgrow _
        have HG3 : Hid (w.grownBy w3 (some b)) := hid (grown_ownD (grown_alloc HG1.out _) hgrow (fun z hz => (hown1.lt z hz).1))
        have HR3 : Hid (RdAt w3 b s q2) := hid ((HR1.out.below ((Below.refl _ _).alloc (Nat.le_refl _) _)).grown hgrow (fun e => by have := (hown1.lt b e.symm).1; omega))
        have hown4 : w3.ownsRow w.heap.size 3 1 v' (xs ++ [y]).length ((xs ++ [y]).map (.int .i64)) := by
          rw [List.length_append, List.map_append]; exact hown3
        clear hown1 hgrow hown3
        go_wp2
        go_roundw
        case rel => exact ⟨k + 1, q2, xs ++ [y], by omega, by go_num, hq2, HM1, HR3, by rw [List.length_append, HXL.out]; rfl, hown4, HG3⟩
        case measure => simp [intOf]; omega
    · obtain rfl : k = n := by omega
      obtain ⟨av, cp, rfl⟩ := own_shape hown
      have HF : Hid (RdC ConstsV RowZ wr b s ca (many one p k) (.slice av xs.length cp) .nilIface) := hid (RdC.mkOk HM.out ⟨rfl, own_zero hown, HRr.out⟩)
      clear hown
      go_wp2
      go_ret2
      exact ⟨_, _, rfl, HF, HG.out⟩
def rankOf(o:Nat):Nat:=if o=0 then 0 else if o≤2 then 1 else 2
def signOf(o:Nat):List UInt8:=if o=0 then [111,114] else if o=1 then [43] else if o=2 then [45] else if o=3 then [42] else [47]
theorem rank_any (o : Nat) (ho : o ≤ 4) (w : World) : Calls Tryz.prog 125 #[.int .i64 o] w fun e w' => e = .returned (.int .i64 (rankOf o)) ∧ w' = w := by
  have h:o=0∨o=1∨o=2∨o=3∨o=4:=by omega
  rcases h with rfl|rfl|rfl|rfl|rfl
  all_goals
    go_enter Tryz.func125,Tryz.ntmps125
    go_wp2
    go_ret
    exact⟨rfl,rfl⟩
theorem sign_any (o : Nat) (ho : o ≤ 4) (w : World) : Calls Tryz.prog 133 #[.int .i64 o] w fun e w' => e = .returned (.string ⟨(signOf o).toArray⟩) ∧ w' = w := by
  have h:o=0∨o=1∨o=2∨o=3∨o=4:=by omega
  rcases h with rfl|rfl|rfl|rfl|rfl
  all_goals
    go_enter Tryz.func133,Tryz.ntmps133
    go_wp2
    go_ret
    exact⟨rfl,rfl⟩
def beginsB(t:PTok):Bool:=if ((t.kd:Int) == 0)then true else if ((t.kd:Int) == 1)then !(t.tx.toList == [111,114]) && !(t.tx.toList == [98,121])else markB t ⟨#[45]⟩ || markB t ⟨#[40]⟩
set_option maxRecDepth 100000 in
set_option maxHeartbeats 1000000 in
theorem begins_any(t:PTok)(w:World) :
  Calls Tryz.prog 184 #[.agg #[.int .i64 t.kd,.int .i64 t.at_,.string t.tx,.int .i64 t.v]] w fun e w'=>e=.returned (.bool (beginsB t))∧Below w.heap.size w w':=by
 have HT0:Hid (TAt (w.alloc (.cells #[.int .i64 t.kd,.int .i64 t.at_,.string t.tx,.int .i64 t.v] 167)) w.heap.size t):=Go.Deep.blk_alloc_new _ _
 have HB0:Hid (Below w.heap.size w (w.alloc (.cells #[.int .i64 t.kd,.int .i64 t.at_,.string t.tx,.int .i64 t.v] 167))):=(Below.refl _ _).alloc (Nat.le_refl _) _
 obtain⟨x0,h0⟩:∃x,((t.kd:Int) == 0)=x:=⟨_,rfl⟩
 obtain⟨x1,h1⟩:∃x,((t.kd:Int) == 1)=x:=⟨_,rfl⟩
 obtain⟨y1,g1⟩:∃x,(t.tx.toList == [111,114])=x:=⟨_,rfl⟩
 obtain⟨y2,g2⟩:∃x,(t.tx.toList == [98,121])=x:=⟨_,rfl⟩
 obtain⟨z1,f1⟩:∃x,markB t ⟨#[45]⟩=x:=⟨_,rfl⟩
 obtain⟨z2,f2⟩:∃x,markB t ⟨#[40]⟩=x:=⟨_,rfl⟩
 have HF:Hid (beginsB t=if x0 then true else if x1 then !y1 && !y2 else z1 || z2):=hid (by unfold beginsB;rw[h0,h1,g1,g2,f1,f2])
 have HZ:Hid (markB t ⟨#[45]⟩=z1∧markB t ⟨#[40]⟩=z2):=⟨f1,f2⟩
 rw[HF.out]
 clear HF f1 f2
 cases x0
 ·cases x1
  ·go_enter Tryz.func184,Tryz.ntmps184
   go_wp2_with fail
   refine(mark_step t _ HZ.out.1 w _ w.heap.size HT0.out HB0.out).mono ?_
   rintro e w1 ⟨rfl,HT1,HB1⟩
   clear HT0 HB0
   cases z1
   ·obtain⟨k0,k1,k2,k3⟩:=TAt.all HT1.out
    go_wp2_with fail
    clear k0 k1 k2 k3
    refine(mark_step t _ HZ.out.2 w w1 w.heap.size HT1.out HB1.out).mono ?_
    rintro e w2 ⟨rfl,HT2,HB2⟩
    cases z2
    ·go_wp2
     go_ret
     exact⟨rfl,HB2.out⟩
    ·go_wp2
     go_ret
     exact⟨rfl,HB2.out⟩
   ·go_wp2
    go_ret
    exact⟨rfl,HB1.out⟩
  ·cases y1 <;> cases y2
   all_goals
    go_enter Tryz.func184,Tryz.ntmps184
    go_wp2
    go_ret
    exact⟨rfl,HB0.out⟩
 ·go_enter Tryz.func184,Tryz.ntmps184
  go_wp2
  go_ret
  exact⟨rfl,HB0.out⟩
def tw:List Tok→Nat
 | []=>0
 | t::r=>t.txt.length+30+tw r
def cw:List (List UInt8×List UInt8×Bool)→Nat
 | []=>0
 | c::r=>c.1.length+c.2.1.length+6+cw r
def nw:List (List UInt8)→Nat
 | []=>0
 | c::r=>c.length+1+nw r
def ownW(a:Nd):Nat:=24+a.name.length+cw a.conds+nw a.by_
def wT:Tr→Nat
 | .nil=>0
 | .node _ _ a l r=>ownW a+wT l+wT r
def isNil:Tr→Bool
 | .nil=>true
 | .node _ _ _ _ _=>false
def wfT:Tr→Prop
 | .nil=>True
 | .node _ _ a l r=>a.kind≤6∧a.op≤4∧(a.kind=4→a.op≤3)∧(a.kind=5→a.op≤3)∧0≤a.n∧a.n≤1000000000∧(3≤a.kind→isNil l=false)∧(a.kind=4∨a.kind=6→isNil r=false)∧(a.kind≤2→isNil l=true∧isNil r=true)∧(a.kind=3∨a.kind=5→isNil r=true)∧wfT l∧wfT r
theorem tw_tail(ts:List Tok):tw ts.tail≤tw ts:=by
 cases ts with
 | nil=>exact Nat.le_refl _
 | cons t r=>show tw r≤t.txt.length+30+tw r;omega
theorem tw_hd{ts:List Tok}(h:¬((hd ts).kind=0)):(hd ts).txt.length+30+tw ts.tail=tw ts:=by
 cases ts with
 | nil=>exact absurd rfl h
 | cons t r=>rfl
theorem tw_takeP{c:List UInt8}{ts:List Tok}{z:Unit×List Tok}(h:takeP c ts=.ok z):tw z.2+30≤tw ts:=by
 unfold takeP at h
 split at h
 ·rename_i e
  injection h with h;subst h
  have:=tw_hd (fun h=>isT_live e (Or.inl h))
  show tw ts.tail+30≤tw ts
  omega
 ·cases h
theorem tw_kindP{k:Nat}{ts:List Tok}{z:List UInt8×List Tok}(hk:k≠0)(h:kindP k ts=.ok z):tw z.2+z.1.length+30=tw ts:=by
 unfold kindP at h
 split at h
 ·rename_i e
  injection h with h;subst h
  have:=tw_hd (ts:=ts) (by rw[e];exact hk)
  show tw ts.tail+(hd ts).txt.length+30=tw ts
  omega
 ·cases h
theorem cw_append(l m:List (List UInt8×List UInt8×Bool)):cw (l++m)=cw l+cw m:=by
 induction l with
 | nil=>simp[cw]
 | cons a l ih=>simp[cw,ih];omega
theorem nw_append(l m:List (List UInt8)):nw (l++m)=nw l+nw m:=by
 induction l with
 | nil=>simp[nw]
 | cons a l ih=>simp[nw,ih];omega
theorem tw_listP{α:Type}{item:List Tok→Out α}{close:List UInt8}(f:List α→Nat)(hf:∀t z l,item t=.ok z→f (l++[z.1])+tw z.2≤f l+tw t):∀(n:Nat) (acc:List α) (ts:List Tok) (z:List α×List Tok),listP item close n acc ts=.ok z→f z.1+tw z.2≤f acc+tw ts
 | 0,_,_,_,h=>by cases h
 | n + 1, acc, ts, z, h => by
   have h':(if isT close (hd ts)then .ok (acc,ts.tail)else bnd (if acc.isEmpty then .ok ((),ts)else takeP [44] ts) fun _ r=>bnd (item r) fun a r=>listP item close n (acc++[a]) r)=.ok z:=h
   cases hc:isT close (hd ts)
   · rw[hc]at h'
     obtain⟨_,t1,h1,h2⟩:=bnd_ok (x:=if acc.isEmpty then .ok ((),ts)else takeP [44] ts) h'
     obtain⟨a,t2,h3,h4⟩:=bnd_ok h2
     have l1:tw t1≤tw ts:=by
       split at h1
       · injection h1 with h1;injection h1 with _ h1;subst h1;exact Nat.le_refl _
       · have:=tw_takeP h1;simp at this;omega
     have l2:=hf t1 _ acc h3
     have l3:=tw_listP f hf n _ _ _ h4
     simp at l2
     omega
   · rw[hc]at h'
     injection h' with h';subst h'
     have:=tw_tail ts
     show f acc+tw ts.tail≤f acc+tw ts
     omega
theorem tw_condP(t:List Tok)(z:(List UInt8×List UInt8×Bool)×List Tok)(l:List (List UInt8×List UInt8×Bool))(h:condP t=.ok z):cw (l++[z.1])+tw z.2≤cw l+tw t:=by
 unfold condP at h
 obtain⟨a,t1,h1,h⟩:=bnd_ok h
 obtain⟨v,t2,h2,h⟩:=bnd_ok h
 obtain⟨b,t3,h3,h⟩:=bnd_ok h
 injection h with h;subst h
 have l1:=tw_kindP (by decide) h1
 have l3:=tw_kindP (by decide) h3
 have l2:tw t2≤tw t1:=by
  unfold signP at h2
  split at h2
  ·injection h2 with h2;injection h2 with _ h2;subst h2;exact tw_tail _
  ·obtain⟨_,t4,h4,h5⟩:=bnd_ok h2
   injection h5 with h5;injection h5 with _ h5;subst h5
   have:=tw_takeP h4
   simp at this
   omega
 rw[cw_append]
 simp[cw]at *
 omega
theorem tw_selP{ts:List Tok}{z:Nd×List Tok}(h:selP ts=.ok z):ownW z.1+6+tw z.2≤tw ts∧z.1.kind=1∧z.1.op=0∧z.1.n=0∧z.1.by_=[]:=by
 unfold selP at h
 obtain⟨a,t,h1,h2⟩:=bnd_ok h
 have l1:tw t+a.length+30=tw ts:=by
  unfold nameP at h1
  split at h1
  ·cases h1
  ·exact tw_kindP (by decide) h1
 split at h2
 ·obtain⟨cs,t2,h3,h4⟩:=bnd_ok h2
  injection h4 with h4;subst h4
  have l2:=tw_listP cw tw_condP _ _ _ _ h3
  have l3:=tw_tail t
  refine⟨?_,rfl,rfl,rfl,rfl⟩
  simp[ownW,cw,nw]at *
  omega
 ·injection h2 with h2;subst h2
  refine⟨?_,rfl,rfl,rfl,rfl⟩
  simp[ownW,cw,nw]at *
  omega
theorem numV_bounds(l:List UInt8):0≤numV l∧numV l≤1000000000:=by
 unfold numV
 cases h:number 1000000000 l with
 | none=>simp
 | some v=>have:=number_le h;simp;omega
theorem leaf_wf{a:Nd}(hk:a.kind≤2)(ho:a.op≤4)(hn:0≤a.n∧a.n≤1000000000):wfT (leafT a):=
 ⟨by omega,ho,by omega,by omega,hn.1,hn.2,by omega,by omega,fun _=>⟨rfl,rfl⟩,by omega,trivial,trivial⟩
theorem tw_winP{o:Nat}(ho:o≤4){ts:List Tok}{z:Tr×List Tok}(h:winP o ts=.ok z):wfT z.1∧isNil z.1=false∧wT z.1+tw z.2≤tw ts:=by
 unfold winP at h
 obtain⟨_,t1,h1,h⟩:=bnd_ok h
 obtain⟨p,t2,h2,h⟩:=bnd_ok h
 obtain⟨_,t3,h3,h⟩:=bnd_ok h
 obtain⟨m,t4,h4,h⟩:=bnd_ok h
 obtain⟨_,t5,h5,h⟩:=bnd_ok h
 obtain⟨_,t6,h6,h⟩:=bnd_ok h
 injection h with h;subst h
 have a1:=tw_takeP h1
 have a2:=tw_selP h2
 have a3:=tw_takeP h3
 have a4:tw t4≤tw t3∧1≤m∧m≤1000:=by
  unfold sizeP at h4
  split at h4
  ·rename_i hh
   injection h4 with h4;injection h4 with h4 h4';subst h4;subst h4'
   exact⟨tw_tail _,hh.2,(numI_bounds 1000 _).2⟩
  ·cases h4
 have a5:=tw_takeP h5
 have a6:=tw_takeP h6
 refine⟨leaf_wf (Nat.le_refl 2) ho ⟨by show 0≤m;omega,by show m≤_;omega⟩,rfl,?_⟩
 simp[leafT,wT,ownW,nw]at *
 omega
def InvP(rec:Nat→List Tok→Nat→Out Tr):Prop:=∀lv t d z,rec lv t d=.ok z→wfT z.1∧isNil z.1=false∧wT z.1+tw z.2≤tw t
theorem tw_withinP{rec:Nat→List Tok→Nat→Out Tr}(hr:InvP rec){ts:List Tok}{deep:Nat}{z:Tr×List Tok}(h:withinP rec ts deep=.ok z):wfT z.1∧isNil z.1=false∧wT z.1+tw z.2≤tw ts:=by
 unfold withinP at h
 obtain⟨_,t1,h1,h⟩:=bnd_ok h
 obtain⟨a,t2,h2,h⟩:=bnd_ok h
 obtain⟨_,t3,h3,h⟩:=bnd_ok h
 injection h with h;subst h
 have a1:=tw_takeP h1
 obtain⟨b1,b2,b3⟩:=hr _ _ _ _ h2
 have a3:=tw_takeP h3
 refine⟨b1,b2,?_⟩
 simp at *
 omega
theorem tw_groupP{rec:Nat→List Tok→Nat→Out Tr}(hr:InvP rec){g:Nat}(hg:g≤3){ts:List Tok}{deep:Nat}{z:Tr×List Tok}(h:groupP rec g ts deep=.ok z):wfT z.1∧isNil z.1=false∧wT z.1+tw z.2≤tw ts:=by
 unfold groupP at h
 obtain⟨_,t1,h1,h⟩:=bnd_ok h
 obtain⟨_,t2,h2,h⟩:=bnd_ok h
 obtain⟨ns,t3,h3,h⟩:=bnd_ok h
 obtain⟨a,t4,h4,h⟩:=bnd_ok h
 injection h with h;subst h
 have a1:=tw_takeP h1
 have a2:=tw_takeP h2
 have a3:=tw_listP nw (fun t z l hz=>by have:=tw_kindP (by decide) hz;rw[nw_append];simp[nw];omega) _ _ _ _ h3
 obtain⟨b1,b2,b3⟩:=tw_withinP hr h4
 refine⟨⟨by show(5:Nat)≤6;omega,by show g≤4;omega,fun _=>hg,fun _=>hg,Int.le_refl _,by show(0:Int)≤_;omega,fun _=>b2,fun h=>by simp at h,fun h=>absurd (show(5:Nat)≤2 from h) (by omega),fun _=>rfl,b1,trivial⟩,rfl,?_⟩
 simp[wT,ownW,cw,nw]at *
 omega
theorem idx_small{w:List UInt8}{l:List (List UInt8)}{i:Nat}(h:idx w l=some i):i<l.length:=by
 induction l generalizing i with
 | nil=>cases h
 | cons x l ih=>
  unfold idx at h
  split at h
  ·injection h with h;subst h;simp
  ·cases hi:idx w l with
   | none=>rw[hi]at h;cases h
   | some j=>rw[hi]at h;injection h with h;subst h;have:=ih hi;simp;omega
theorem tw_innerP{rec:Nat→List Tok→Nat→Out Tr}(hr:InvP rec){ts:List Tok}{deep:Nat}{z:Tr×List Tok}(h:innerP rec ts deep=.ok z):wfT z.1∧isNil z.1=false∧wT z.1+tw z.2≤tw ts:=by
 unfold innerP at h
 have ht:=tw_tail ts
 split at h
 ·rename_i hk
  injection h with h;subst h
  have:=tw_hd (ts:=ts) (by omega)
  refine⟨leaf_wf (Nat.zero_le _) (Nat.zero_le _) (numV_bounds _),rfl,?_⟩
  simp[leafT,wT,ownW,cw,nw]at *
  omega
 ·split at h
  ·rename_i hm
   obtain⟨a,t1,h1,h⟩:=bnd_ok h
   injection h with h;subst h
   obtain⟨b1,b2,b3⟩:=hr _ _ _ _ h1
   have:=tw_hd (ts:=ts) (fun h=>isT_live hm (Or.inl h))
   refine⟨⟨by show(3:Nat)≤6;omega,Nat.zero_le _,fun _=>Nat.zero_le _,fun _=>Nat.zero_le _,Int.le_refl _,by show(0:Int)≤_;omega,fun _=>b2,fun h=>by simp[nd0]at h,fun h=>absurd (show(3:Nat)≤2 from h) (by omega),fun _=>rfl,b1,trivial⟩,rfl,?_⟩
   simp[wT,ownW,cw,nw,nd0]at *
   omega
  ·split at h
   ·exact tw_withinP hr h
   ·split at h
    ·rename_i g hg
     have:=idx_small hg
     obtain⟨b1,b2,b3⟩:=tw_groupP hr (show g≤3 by simp[groupWords]at this;omega) h
     exact⟨b1,b2,by omega⟩
    ·split at h
     ·rename_i o ho
      have:=idx_small ho
      obtain⟨b1,b2,b3⟩:=tw_winP (show o≤4 by simp[overWords]at this;omega) h
      exact⟨b1,b2,by omega⟩
     ·obtain⟨p,t1,h1,h⟩:=bnd_ok h
      injection h with h;subst h
      obtain⟨a1,a2,a3,a4,a5⟩:=tw_selP h1
      simp only at a1 a2 a3 a4
      refine⟨leaf_wf (by omega) (by omega) ⟨by omega,by omega⟩,rfl,?_⟩
      simp[leafT,wT]at *
      omega
theorem parse_wf:∀(n:Nat) (m:Bool) (lv:Nat) (a:Tr) (ts:List Tok) (deep:Nat) (z:Tr×List Tok),(m=true→wfT a∧isNil a=false)→parse n m lv a ts deep=.ok z→wfT z.1∧isNil z.1=false∧wT z.1+tw z.2≤tw ts+(if m then wT a else 0)
 | 0,_,_,_,_,_,_,_,h=>by cases h
 | n + 1, false, lv, a, ts, deep, z, _, h => by
   have hr : InvP (fun lv t d => parse n false lv .nil t d) := fun lv t d z h => by
     obtain⟨h1,h2,h3⟩:=parse_wf n false lv .nil t d z (fun h=>nomatch h) h
     exact⟨h1,h2,by simpa using h3⟩
   unfold parse at h
   split at h
   · unfold factorP at h
     split at h
     · split at h
       · cases h
       · obtain⟨h1,h2,h3⟩:=tw_innerP hr h
         exact⟨h1,h2,by simpa using h3⟩
     · cases h
   · obtain⟨b,t1,h1,h2⟩:=bnd_ok h
     obtain⟨l1,l2,l3⟩:=hr _ _ _ _ h1
     obtain⟨m1,m2,m3⟩:=parse_wf n true lv b t1 deep z (fun _=>⟨l1,l2⟩) h2
     refine⟨m1,m2,?_⟩
     simp at l3 m3 ⊢
     omega
 | n + 1, true, lv, a, ts, deep, z, ha, h => by
   obtain⟨ha1,ha2⟩:=ha rfl
   unfold parse at h
   split at h
   · injection h with h;subst h;exact⟨ha1,ha2,by simp;omega⟩
   · rename_i p hp
     obtain⟨b,t1,h1,h2⟩:=bnd_ok h
     obtain⟨l1,l2,l3⟩:=parse_wf n false _ _ _ _ _ (fun h=>nomatch h) h1
     have hop:((p.1=4∧p.2≤3)∨(p.1=6∧p.2=0))∧tw ts.tail+30≤tw ts:=by
       have hl:∀c,isT c (hd ts)=true→tw ts.tail+30≤tw ts:=fun c hc=>by have:=tw_hd (ts:=ts) (fun h=>isT_live hc (Or.inl h));omega
       unfold LS.opAt at hp
       split at hp
       · split at hp
         · rename_i hc;injection hp with hp;subst hp;exact⟨Or.inr ⟨rfl,rfl⟩,hl _ hc⟩
         · cases hp
       · split at hp
         · split at hp
           · rename_i hc;injection hp with hp;subst hp;exact⟨Or.inl ⟨rfl,by decide⟩,hl _ hc⟩
           · split at hp
             · rename_i hc;injection hp with hp;subst hp;exact⟨Or.inl ⟨rfl,by decide⟩,hl _ hc⟩
             · cases hp
         · split at hp
           · rename_i hc;injection hp with hp;subst hp;exact⟨Or.inl ⟨rfl,by decide⟩,hl _ hc⟩
           · split at hp
             · rename_i hc;injection hp with hp;subst hp;exact⟨Or.inl ⟨rfl,by decide⟩,hl _ hc⟩
             · cases hp
     obtain⟨hk,htl⟩:=hop
     have hw:wfT (.node 0 0 (nd0 p.1 p.2) a b):=by
       refine⟨?_,?_,?_,?_,Int.le_refl _,by show(0:Int)≤_;omega,fun _=>ha2,fun _=>l2,?_,?_,ha1,l1⟩
       · show p.1≤6;omega
       · show p.2≤4;omega
       · intro h;show p.2≤3;omega
       · intro h;exact absurd (show p.1=5 from h) (by omega)
       · intro h;exact absurd (show p.1≤2 from h) (by omega)
       · intro h;exact absurd (show p.1=3∨p.1=5 from h) (by omega)
     obtain⟨m1,m2,m3⟩:=parse_wf n true lv _ t1 deep z (fun _=>⟨hw,rfl⟩) h2
     refine⟨m1,m2,?_⟩
     simp[wT,ownW,cw,nw,nd0]at l3 m3 ⊢
     omega
def opNo(a:Nd):Nat:=if a.kind=6 then 0 else a.op+1
def PartV(w:World):Tr→Value→Prop
 | .nil,_=>False
 | .node _ _ a l r,v=>
  (a.kind=0∧v=.iface 270 (.agg #[.int .i64 a.n]))∨
  (a.kind=1∧∃(nm:ByteArray) (la:Option Addr) (ln lc:Nat),v=.iface 281 (.agg #[.string nm,.slice la ln lc])∧bl nm=a.name∧CondsV w (.slice la ln lc) a.conds)∨
  (a.kind=2∧∃(wd nm:ByteArray) (la:Option Addr) (ln lc:Nat),v=.iface 283 (.agg #[.string wd,.string nm,.slice la ln lc,.int .i64 a.n])∧bl wd=overWords.getD a.op []∧bl nm=a.name∧CondsV w (.slice la ln lc) a.conds)∨
  (a.kind=3∧∃x,v=.iface 272 (.agg #[x])∧PartV w l x)∨
  (a.kind=5∧∃(wd:ByteArray) (la:Option Addr) (ln lc:Nat) (x:Value),v=.iface 274 (.agg #[.string wd,.slice la ln lc,x])∧bl wd=groupWords.getD a.op []∧NamesV w (.slice la ln lc) a.by_∧PartV w l x)∨
  ((a.kind=4∨a.kind=6)∧∃x y,v=.iface 268 (.agg #[.int .i64 (opNo a),x,y])∧PartV w l x∧PartV w r y)
def IfaceV(v:Value):Prop:=v=.nilIface∨∃(ty:TypeId) (u:Value),v=.iface ty u
theorem PartV.shape{w:World} : ∀ {t:Tr} {v:Value},PartV w t v→∃(ty:TypeId) (u:Value),v=.iface ty u
 | .nil,_,h=>h.elim
 | .node _ _ a l r, v, h => by
   rcases h with ⟨_,h⟩|⟨_,_,_,_,_,h,_⟩|⟨_,_,_,_,_,_,h,_⟩|⟨_,_,h,_⟩|⟨_,_,_,_,_,_,h,_⟩|⟨_,_,_,h,_⟩
   all_goals exact⟨_,_,h⟩
theorem CondsV.below{w w':World}{v:Value}{ns:List (List UInt8×List UInt8×Bool)}(h:CondsV w v ns)(hb:Below w.heap.size w w'):CondsV w' v ns:=by
 obtain⟨bs,h1,h2⟩:=h;exact⟨bs,own_below h1 hb,h2⟩
theorem NamesV.below{w w':World}{v:Value}{ns:List (List UInt8)}(h:NamesV w v ns)(hb:Below w.heap.size w w'):NamesV w' v ns:=by
 obtain⟨bs,h1,h2⟩:=h;exact⟨bs,own_below h1 hb,h2⟩
theorem PartV.mono{w w':World}(hc:∀v cs,CondsV w v cs→CondsV w' v cs)(hn:∀v ns,NamesV w v ns→NamesV w' v ns):∀(t:Tr) (v:Value),PartV w t v→PartV w' t v
 | .nil,_,h=>h
 | .node _ _ a l r, v, h => by
   have ihl:=PartV.mono hc hn l
   have ihr:=PartV.mono hc hn r
   rcases h with h|⟨h1,nm,la,ln,lc,h2,h3,h4⟩|⟨h1,wd,nm,la,ln,lc,h2,h3,h4,h5⟩|⟨h1,x,h2,h3⟩|⟨h1,wd,la,ln,lc,x,h2,h3,h4,h5⟩|⟨h1,x,y,h2,h3,h4⟩
   · exact Or.inl h
   · exact Or.inr (Or.inl ⟨h1,nm,la,ln,lc,h2,h3,hc _ _ h4⟩)
   · exact Or.inr (Or.inr (Or.inl ⟨h1,wd,nm,la,ln,lc,h2,h3,h4,hc _ _ h5⟩))
   · exact Or.inr (Or.inr (Or.inr (Or.inl ⟨h1,x,h2,ihl x h3⟩)))
   · exact Or.inr (Or.inr (Or.inr (Or.inr (Or.inl ⟨h1,wd,la,ln,lc,x,h2,h3,hn _ _ h4,ihl x h5⟩))))
   · exact Or.inr (Or.inr (Or.inr (Or.inr (Or.inr ⟨h1,x,y,h2,ihl x h3,ihr y h4⟩))))
theorem PartV.below{w w':World}{t:Tr}{v:Value}(h:PartV w t v)(hb:Below w.heap.size w w'):PartV w' t v:=PartV.mono (fun _ _ h=>h.below hb) (fun _ _ h=>h.below hb) t v h
theorem PartV.kept{w w':World}{t:Tr}{v:Value}(h:PartV w t v){b:Nat}(hg:w.grownBy w' (some b)){c:Array Value}{ty:TypeId}{fr:Nat×Nat}(hq:w.heap[b]?=some (.cells c ty fr))(h1:ty≠379)(h2:ty≠9):PartV w' t v:=
 PartV.mono (fun _ _ h=>h.kept hg hq h1) (fun _ _ h=>h.kept hg hq h2) t v h
theorem PartV.read{w w':World}{R:RS}{k:Nat}{ts:List Tok}{t:Tr}{v:Value}(h:PartV w t v)(hr:RK w R k ts)(hg:w.grownBy w' (some R.b)):PartV w' t v:=h.kept hg hr.rd.cells (by decide) (by decide)
theorem CondsV.read{w w':World}{R:RS}{k:Nat}{ts:List Tok}{v:Value}{cs:List (List UInt8×List UInt8×Bool)}(h:CondsV w v cs)(hr:RK w R k ts)(hg:w.grownBy w' (some R.b)):CondsV w' v cs:=h.kept hg hr.rd.cells (by decide)
theorem NamesV.read{w w':World}{R:RS}{k:Nat}{ts:List Tok}{v:Value}{cs:List (List UInt8)}(h:NamesV w v cs)(hr:RK w R k ts)(hg:w.grownBy w' (some R.b)):NamesV w' v cs:=h.kept hg hr.rd.cells (by decide)
theorem Res.err{α:Type}{R:RS}{V:World→α→Prop}{w:World}{r:Out α}{v:Value}(h:Res R V w r v){e:Nat×Nat}(hr:r=.error e):ErrIs w R e v:=by subst hr;exact h
theorem Res.good{α:Type}{R:RS}{V:World→α→Prop}{w:World}{r:Out α}{v:Value}(h:Res R V w r v){a:α}{ts:List Tok}(hr:r=.ok (a,ts)):v=.nilIface∧(∃k,RK w R k ts)∧V w a:=by subst hr;exact h
end Go.Proofs.YtkodhpilkaihjaaGreatDoor

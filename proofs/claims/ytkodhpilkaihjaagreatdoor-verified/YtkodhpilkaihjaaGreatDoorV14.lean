/- Parts. -/
import Derived.Test.YtkodhpilkaihjaaGreatDoorV13
import Derived.Deep.RegionHeld3
import Derived.Deep.DrawnRows
namespace Go.Proofs.YtkodhpilkaihjaaGreatDoor
open Go.RowKit LS
theorem own_kept2 {w w' : World} {b1 b2 : Nat} {e1 e2 : TypeId} {s1 s2 : Nat} {v1 v2 : Value} {n1 n2 : Nat} {xs1 xs2 : List Value} (h1 : w.ownsRow b1 e1 s1 v1 n1 xs1) (h2 : w.ownsRow b2 e2 s2 v2 n2 xs2) (hg : w.grownBy w' v2.ownBlock) (he : e1 ≠ e2) : w'.ownsRow b1 e1 s1 v1 n1 xs1 :=
  own_same h1 (fun k hk => hg.block k (h1.lt k hk).2 (fun e => by
    rcases own_ne h1 h2 he with h | h
    · rw [h] at hk; cases hk
    · exact h (hk.trans e)))
theorem own_kept1 {w w' : World} {b1 : Nat} {e1 : TypeId} {s1 : Nat} {v1 : Value} {n1 : Nat} {xs1 : List Value} (h1 : w.ownsRow b1 e1 s1 v1 n1 xs1) {b : Nat} {c : List Value} {t : TypeId} (hq : BAt w b c t) (hg : w.grownBy w' (some b)) (he : t ≠ e1) : w'.ownsRow b1 e1 s1 v1 n1 xs1 :=
  own_same h1 (fun k hk => hg.block k (h1.lt k hk).2 (fun e => by
    injection e with e; subst e
    exact own_ne_block h1 hq he hk.symm))
def InsV (w : World) (is : List (Nat × Nat)) (v : Value) : Prop := w.ownsRow 0 184 2 v is.length (flatI is)
structure Pk where
  nm : ByteArray
  la : Option Addr
  ln : Nat
  lc : Nat
  nd : Nd
  n : Nat
def Pk.enc (x : Pk) : List Value := [.string x.nm, .slice x.la x.ln x.lc, .int .i64 x.n]
def Pk.pr (x : Pk) : Nd × Nat := (x.nd, x.n)
structure Pk.ok (w : World) (x : Pk) : Prop where
  nm : bl x.nm = x.nd.name
  cs : CondsV w (.slice x.la x.ln x.lc) x.nd.conds
def encPk (l : List Pk) : List Value := (l.map Pk.enc).flatten
theorem encPk_append (l m : List Pk) : encPk (l ++ m) = encPk l ++ encPk m := by unfold encPk; rw [List.map_append, List.flatten_append]
theorem encPk_get (l : List Pk) (j : Nat) (hj : j < l.length) : (encPk l)[j * 3]? = some (.string l[j].nm) ∧ (encPk l)[j * 3 + 1]? = some (.slice l[j].la l[j].ln l[j].lc) ∧ (encPk l)[j * 3 + 2]? = some (.int .i64 l[j].n) := by
  induction l generalizing j with
  | nil => simp at hj
  | cons a l ih =>
    have e : encPk (a :: l) = .string a.nm :: .slice a.la a.ln a.lc :: .int .i64 a.n :: encPk l := rfl
    cases j with
    | zero => rw [e]; exact ⟨rfl, rfl, rfl⟩
    | succ j =>
      have h := ih j (by simpa using hj)
      rw [e, show (j + 1) * 3 = j * 3 + 1 + 1 + 1 by omega]
      simpa using h
def PickV (w : World) (a : Nd × Nat) (v : Value) : Prop := ∃ x : Pk, v = .agg #[.string x.nm, .slice x.la x.ln x.lc, .int .i64 x.n] ∧ x.pr = a ∧ x.ok w
def PickZ (v : Value) : Prop := v = .agg #[.string ⟨#[]⟩, .slice none 0 0, .int .i64 0]
def PicksV (w : World) (ps : List (Nd × Nat)) (v : Value) : Prop := ∃ xs : List Pk, w.ownsRow 0 294 3 v xs.length (encPk xs) ∧ xs.map Pk.pr = ps ∧ ∀ x ∈ xs, x.ok w
structure Gp where
  la : Option Addr
  ln : Nat
  lc : Nat
  ns : List (List UInt8)
def Gp.ok (w : World) (x : Gp) : Prop := ∃ bs : List ByteArray, w.ownsRow 0 9 1 (.slice x.la x.ln x.lc) bs.length (flatS bs) ∧ ((bs.map bl).Pairwise fun a b => Op.bytesLess b a = false) ∧ (∀ y, y ∈ bs.map bl ↔ y ∈ x.ns) ∧ bs.length ≤ 70001
def encGp (l : List Gp) : List Value := l.map fun x => .slice x.la x.ln x.lc
def GroupV (w : World) (a : List (List UInt8)) (v : Value) : Prop := ∃ x : Gp, v = .slice x.la x.ln x.lc ∧ x.ns = a ∧ x.ok w
def GroupsV (w : World) (gs : List (List (List UInt8))) (v : Value) : Prop := ∃ xs : List Gp, w.ownsRow 0 90 1 v xs.length (encGp xs) ∧ xs.map Gp.ns = gs ∧ ∀ x ∈ xs, x.ok w
theorem Pk.ok.below {w w' : World} {x : Pk} (h : x.ok w) (hb : Below w.heap.size w w') : x.ok w' := ⟨h.nm, h.cs.below hb⟩
theorem Pk.ok.kept1 {w w' : World} {x : Pk} (h : x.ok w) {b : Nat} {c : List Value} {t : TypeId} (hq : BAt w b c t) (hg : w.grownBy w' (some b)) (he : t ≠ 379) : x.ok w' := by
  obtain ⟨bs, h1, h2⟩ := h.cs; exact ⟨h.nm, bs, own_kept1 h1 hq hg he, h2⟩
theorem Pk.ok.kept2 {w w' : World} {x : Pk} (h : x.ok w) {b2 : Nat} {e2 : TypeId} {s2 : Nat} {v2 : Value} {n2 : Nat} {xs2 : List Value} (ho : w.ownsRow b2 e2 s2 v2 n2 xs2) (hg : w.grownBy w' v2.ownBlock) (he : 379 ≠ e2) : x.ok w' := by
  obtain ⟨bs, h1, h2⟩ := h.cs; exact ⟨h.nm, bs, own_kept2 h1 ho hg he, h2⟩
theorem Gp.ok.below {w w' : World} {x : Gp} (h : x.ok w) (hb : Below w.heap.size w w') : x.ok w' := by
  obtain ⟨bs, h1, h2⟩ := h; exact ⟨bs, own_below h1 hb, h2⟩
theorem Gp.ok.kept1 {w w' : World} {x : Gp} (h : x.ok w) {b : Nat} {c : List Value} {t : TypeId} (hq : BAt w b c t) (hg : w.grownBy w' (some b)) (he : t ≠ 9) : x.ok w' := by
  obtain ⟨bs, h1, h2⟩ := h; exact ⟨bs, own_kept1 h1 hq hg he, h2⟩
theorem Gp.ok.kept2 {w w' : World} {x : Gp} (h : x.ok w) {b2 : Nat} {e2 : TypeId} {s2 : Nat} {v2 : Value} {n2 : Nat} {xs2 : List Value} (ho : w.ownsRow b2 e2 s2 v2 n2 xs2) (hg : w.grownBy w' v2.ownBlock) (he : 9 ≠ e2) : x.ok w' := by
  obtain ⟨bs, h1, h2⟩ := h; exact ⟨bs, own_kept2 h1 ho hg he, h2⟩
theorem Tryz.infoSelC : (Tryz.prog.info? 294).map (fun i => (i.zero, i.size, i.bytes)) = some (some (.agg #[.string ByteArray.empty, .slice none 0 0, .int .i64 0]), 3, 48) := by kernel_rfl
theorem Tryz.infoStrs : (Tryz.prog.info? 90).map (fun i => (i.zero, i.size, i.bytes)) = some (some (.slice none 0 0), 1, 24) := by kernel_rfl
theorem RdC.belowE {α : Type} {V : World → α → Value → Prop} {Z : Value → Prop} {w w' : World} {b : Nat} {s : ByteArray} {ca : Addr} {r : RdR α} {v err : Value} {x : Nat × Nat} (h : RdC V Z w b s ca r v err) (hr : r = .error x) (hb : Below w.heap.size w w') : RdC V Z w' b s ca r v err := by
  obtain ⟨h1, h2, h3, p, h4⟩ := h.err hr
  exact RdC.mkErr hr ⟨h1, h2.below hb, h3, p, h4.below hb⟩
set_option maxRecDepth 100000 in
set_option maxHeartbeats 4000000 in
theorem manyIns_any (s : ByteArray) (p n b : Nat) (ca : Addr) (w0 w : World) (h0 : Below w0.heap.size w0 w) (hb : w0.heap.size ≤ b) (hr : RdAt w b s p) (hp : p ≤ s.size) (hn : n ≤ 65535) (one : Nat → RdR (Nat × Nat)) (h1 : OneC 143 IV IZ w0 b s ca one) (hq : ∀ p x, one p = .ok x → p ≤ s.size → x.2 ≤ s.size) :
    Calls Tryz.prog 142 #[.pointer (some ⟨b, 0, none⟩), .int .i64 n, .func (.func 143) #[] #[]] w fun e w' => ∃ v err, e = .returned (.tuple #[v, err]) ∧ Hid (RdC InsV RowZ w' b s ca (many one p n) v err) ∧ w.grownBy w' (some b) := by
  have hbl := hr.lt
  obtain ⟨i0, hi, hz0, hz1, hz2⟩ := info_parts Tryz.infoIns
  have H1 := hid h1
  have HQ := hid hq
  have H0 := hid h0
  have HR := hid hr
  have HB0 := hid hb
  clear hr h1 hq h0 hb
  go_enter Tryz.func142, Tryz.ntmps142
  go_wp2
  go_loopw [8, 12] (fun v i wr => ∃ (k q : Nat) (xs : List (Nat × Nat)), k ≤ n ∧ i = .int .i64 k ∧ q ≤ s.size ∧ Hid (many one p k = .ok (xs, q)) ∧ Hid (RdAt wr b s q) ∧ xs.length = k ∧ wr.ownsRow w.heap.size 184 2 v xs.length (flatI xs) ∧ Hid (w.grownBy wr (some b)))
    (fun _ i _ => n - (intOf i).toNat)
  case atStart => exact ⟨0, p, [], Nat.zero_le _, rfl, hp, hid rfl, HR, rfl, World.ownsRow_nil _ _ _ _, hid (grown_refl _ _)⟩
  case round =>
    obtain ⟨k, q, xs, hk, rfl, hq, HM, HRr, hxl, hown, HG⟩ := hrel
    have HXL := hid hxl
    clear hxl
    by_cases hlt : k < n
    · have hlz : (k : Int) < n := by omega
      obtain ⟨av, cp, rfl⟩ := own_shape hown
      have HO := hid hown
      clear hown
      go_wp2_with fail
      refine (H1.out q wr (below_by H0.out HG.out HB0.out) HRr.out hq).mono ?_
      rintro e w1 ⟨v, err, rfl, HC, hg1⟩
      have HG1 : Hid (w.grownBy w1 (some b)) := hid (grown_trans HG.out hg1)
      have hown1 := row_keeps HO.out hg1 hbl
      clear hg1 HO HG HRr
      cases ho : one q with
      | error x =>
        obtain ⟨fa, rfl⟩ := HC.out.errShape ho
        have HF : Hid (RdC InsV RowZ w1 b s ca (many one p n) (.slice none 0 0) (.iface 115 (.pointer (some ⟨fa, 0, none⟩)))) := hid (HC.out.errMap ho (many_step_err HM.out ho n hlt) rfl)
        have hz := (HC.out.err ho).2.2.1
        obtain ⟨x0, y0, rfl⟩ := hz
        have HME := hid (many_step_err HM.out ho n hlt)
        clear HC ho hown1
        go_wp2
        go_ret2
        exact ⟨_, _, rfl, hid (HF.out.belowE HME.out ((Below.refl _ _).alloc (Nat.le_refl _) _)), grown_alloc HG1.out _⟩
      | ok x =>
        obtain ⟨z, q2⟩ := x
        obtain ⟨rfl, hv, hr1⟩ := HC.out.ok ho
        have HM1 := hid (many_step_ok HM.out ho)
        have hq2 := HQ.out q (z, q2) ho hq
        have HR1 := hid hr1
        simp only at hq2
        have hw1 : w.heap.size ≤ w1.heap.size := HG1.out.size
        obtain rfl := hv
        obtain ⟨y, hy⟩ : ∃ y, y = z := ⟨_, rfl⟩
        subst hy
        clear HC ho hr1 HM
        go_wp2_with (at_builtin; refine wpList_append_own _ rfl (.tmp 23) (.tmp 25) 56 rfl w.heap.size 184 i0 (.agg #[.int .i64 0, .int .i64 0]) 2 16 Tryz.underlying56 hi hz0 hz1 hz2 rfl (by decide) _ _ _ rfl ((hown1.alloc _).alloc _) ⟨w1.heap.size + 1, 0, none⟩ 1 1 [.int .i64 y.1, .int .i64 y.2] rfl rfl ?c1 ?c2 ?c3 ?c4 ?c5 ?_)
        case c1 => exact cells_new (by simp)
        case c2 => intro u hu; simp at hu; rcases hu with rfl | rfl <;> rfl
        case c3 => have := HXL.out; unfold maxLen; omega
        case c4 => have := HXL.out; omega
        case c5 => have := HXL.out; simp; omega
        intro v' w3 hown3 hgrow _
        have HG3 : Hid (w.grownBy w3 (some b)) := hid (grown_ownD (grown_alloc (grown_alloc HG1.out _) _) hgrow (fun z hz => (hown1.lt z hz).1))
        have HR3 : Hid (RdAt w3 b s q2) := hid ((HR1.out.below (((Below.refl _ _).alloc (Nat.le_refl _) _).alloc (by simp) _)).grown hgrow (fun e => by have := (hown1.lt b e.symm).1; omega))
        have hown4 : w3.ownsRow w.heap.size 184 2 v' (xs ++ [y]).length (flatI (xs ++ [y])) := by
          rw [List.length_append, flatI_append]; exact hown3
        clear hown1 hgrow hown3
        go_wp2
        go_roundw
        case rel => exact ⟨k + 1, q2, xs ++ [y], by omega, by go_num, hq2, HM1, HR3, by rw [List.length_append, HXL.out]; rfl, hown4, HG3⟩
        case measure => simp [intOf]; omega
    · obtain rfl : k = n := by omega
      obtain ⟨av, cp, rfl⟩ := own_shape hown
      have HF : Hid (RdC InsV RowZ wr b s ca (many one p k) (.slice av xs.length cp) .nilIface) := hid (RdC.mkOk HM.out ⟨rfl, own_zero hown, HRr.out⟩)
      clear hown
      go_wp2
      go_ret2
      exact ⟨_, _, rfl, HF, HG.out⟩
set_option maxRecDepth 100000 in
set_option maxHeartbeats 4000000 in
theorem manyPick_any (s : ByteArray) (p n b : Nat) (ca : Addr) (w0 w : World) (h0 : Below w0.heap.size w0 w) (hb : w0.heap.size ≤ b) (hr : RdAt w b s p) (hp : p ≤ s.size) (hn : n ≤ 65535) (one : Nat → RdR (Nd × Nat)) (h1 : OneC 139 PickV PickZ w0 b s ca one) (hq : ∀ p x, one p = .ok x → p ≤ s.size → x.2 ≤ s.size) :
    Calls Tryz.prog 138 #[.pointer (some ⟨b, 0, none⟩), .int .i64 n, .func (.func 139) #[] #[]] w fun e w' => ∃ v err, e = .returned (.tuple #[v, err]) ∧ Hid (RdC PicksV RowZ w' b s ca (many one p n) v err) ∧ w.grownBy w' (some b) := by
  have hbl := hr.lt
  obtain ⟨i0, hi, hz0, hz1, hz2⟩ := info_parts Tryz.infoSelC
  have H1 := hid h1
  have HQ := hid hq
  have H0 := hid h0
  have HR := hid hr
  have HB0 := hid hb
  clear hr h1 hq h0 hb
  go_enter Tryz.func138, Tryz.ntmps138
  go_wp2
  go_loopw [8, 12] (fun v i wr => ∃ (k q : Nat) (xs : List Pk), k ≤ n ∧ i = .int .i64 k ∧ q ≤ s.size ∧ Hid (many one p k = .ok (xs.map Pk.pr, q)) ∧ Hid (RdAt wr b s q) ∧ xs.length = k ∧ wr.ownsRow w.heap.size 294 3 v xs.length (encPk xs) ∧ Hid (w.grownBy wr (some b)) ∧ Hid (∀ x ∈ xs, x.ok wr))
    (fun _ i _ => n - (intOf i).toNat)
  case atStart => exact ⟨0, p, [], Nat.zero_le _, rfl, hp, hid rfl, HR, rfl, World.ownsRow_nil _ _ _ _, hid (grown_refl _ _), hid (fun x hx => nomatch hx)⟩
  case round =>
    obtain ⟨k, q, xs, hk, rfl, hq, HM, HRr, hxl, hown, HG, HOK⟩ := hrel
    have HXL := hid hxl
    clear hxl
    by_cases hlt : k < n
    · have hlz : (k : Int) < n := by omega
      obtain ⟨av, cp, rfl⟩ := own_shape hown
      have HO := hid hown
      clear hown
      go_wp2_with fail
      refine (H1.out q wr (below_by H0.out HG.out HB0.out) HRr.out hq).mono ?_
      rintro e w1 ⟨v, err, rfl, HC, hg1⟩
      have HG1 : Hid (w.grownBy w1 (some b)) := hid (grown_trans HG.out hg1)
      have hown1 := row_keeps HO.out hg1 hbl
      have HOK1 : Hid (∀ x ∈ xs, x.ok w1) := hid (fun x hx => (HOK.out x hx).kept1 HRr.out hg1 (by decide))
      clear HOK
      clear hg1 HO HG HRr
      cases ho : one q with
      | error x =>
        obtain ⟨fa, rfl⟩ := HC.out.errShape ho
        have HF : Hid (RdC PicksV RowZ w1 b s ca (many one p n) (.slice none 0 0) (.iface 115 (.pointer (some ⟨fa, 0, none⟩)))) := hid (HC.out.errMap ho (many_step_err HM.out ho n hlt) rfl)
        have hz := (HC.out.err ho).2.2.1
        obtain rfl := hz
        have HME := hid (many_step_err HM.out ho n hlt)
        clear HC ho hown1
        go_wp2
        go_ret2
        exact ⟨_, _, rfl, hid (HF.out.belowE HME.out ((Below.refl _ _).alloc (Nat.le_refl _) _)), grown_alloc HG1.out _⟩
      | ok x =>
        obtain ⟨z, q2⟩ := x
        obtain ⟨rfl, hv, hr1⟩ := HC.out.ok ho
        have HM1 := hid (many_step_ok HM.out ho)
        have hq2 := HQ.out q (z, q2) ho hq
        have HR1 := hid hr1
        simp only at hq2
        have hw1 : w.heap.size ≤ w1.heap.size := HG1.out.size
        obtain ⟨y, rfl, rfl, hyo⟩ := hv
        have HYO := hid hyo
        clear hyo
        clear HC ho hr1 HM
        go_wp2_with (at_builtin; refine wpList_append_own _ rfl (.tmp 23) (.tmp 25) 54 rfl w.heap.size 294 i0 (.agg #[.string ByteArray.empty, .slice none 0 0, .int .i64 0]) 3 48 Tryz.underlying54 hi hz0 hz1 hz2 rfl (by decide) _ _ _ rfl ((hown1.alloc _).alloc _) ⟨w1.heap.size + 1, 0, none⟩ 1 1 [.string y.nm, .slice y.la y.ln y.lc, .int .i64 y.n] rfl rfl ?c1 ?c2 ?c3 ?c4 ?c5 ?_)
        case c1 => exact cells_new (by simp)
        case c2 => intro u hu; simp at hu; rcases hu with rfl | rfl | rfl <;> rfl
        case c3 => have := HXL.out; unfold maxLen; omega
        case c4 => have := HXL.out; omega
        case c5 => have := HXL.out; simp; omega
        intro v' w3 hown3 hgrow _
        have HG3 : Hid (w.grownBy w3 (some b)) := hid (grown_ownD (grown_alloc (grown_alloc HG1.out _) _) hgrow (fun z hz => (hown1.lt z hz).1))
        have HR3 : Hid (RdAt w3 b s q2) := hid ((HR1.out.below (((Below.refl _ _).alloc (Nat.le_refl _) _).alloc (by simp) _)).grown hgrow (fun e => by have := (hown1.lt b e.symm).1; omega))
        have hown4 : w3.ownsRow w.heap.size 294 3 v' (xs ++ [y]).length (encPk (xs ++ [y])) := by
          rw [List.length_append, encPk_append]; exact hown3
        have HOK3 : Hid (∀ x ∈ xs ++ [y], x.ok w3) := hid (fun x hx => by
          have hb3 : x.ok w1 := by
            rcases List.mem_append.1 hx with hx | hx
            · exact HOK1.out x hx
            · rw [List.mem_singleton] at hx; subst hx; exact HYO.out
          exact (hb3.below (((Below.refl _ _).alloc (Nat.le_refl _) _).alloc (by simp) _)).kept2 ((hown1.alloc _).alloc _) hgrow (by decide))
        clear hown1 hgrow hown3
        go_wp2
        go_roundw
        case rel => exact ⟨k + 1, q2, xs ++ [y], by omega, by go_num, hq2, hid (by rw [List.map_append]; exact HM1.out), HR3, by rw [List.length_append, HXL.out]; rfl, hown4, HG3, HOK3⟩
        case measure => simp [intOf]; omega
    · obtain rfl : k = n := by omega
      obtain ⟨av, cp, rfl⟩ := own_shape hown
      have HF : Hid (RdC PicksV RowZ wr b s ca (many one p k) (.slice av xs.length cp) .nilIface) := hid (RdC.mkOk HM.out ⟨rfl, ⟨xs, own_zero hown, rfl, HOK.out⟩, HRr.out⟩)
      clear hown
      go_wp2
      go_ret2
      exact ⟨_, _, rfl, HF, HG.out⟩
set_option maxRecDepth 100000 in
set_option maxHeartbeats 4000000 in
theorem manyGrp_any (s : ByteArray) (p n b : Nat) (ca : Addr) (w0 w : World) (h0 : Below w0.heap.size w0 w) (hb : w0.heap.size ≤ b) (hr : RdAt w b s p) (hp : p ≤ s.size) (hn : n ≤ 65535) (one : Nat → RdR (List (List UInt8))) (h1 : OneC 141 GroupV RowZ w0 b s ca one) (hq : ∀ p x, one p = .ok x → p ≤ s.size → x.2 ≤ s.size) :
    Calls Tryz.prog 140 #[.pointer (some ⟨b, 0, none⟩), .int .i64 n, .func (.func 141) #[] #[]] w fun e w' => ∃ v err, e = .returned (.tuple #[v, err]) ∧ Hid (RdC GroupsV RowZ w' b s ca (many one p n) v err) ∧ w.grownBy w' (some b) := by
  have hbl := hr.lt
  obtain ⟨i0, hi, hz0, hz1, hz2⟩ := info_parts Tryz.infoStrs
  have H1 := hid h1
  have HQ := hid hq
  have H0 := hid h0
  have HR := hid hr
  have HB0 := hid hb
  clear hr h1 hq h0 hb
  go_enter Tryz.func140, Tryz.ntmps140
  go_wp2
  go_loopw [8, 12] (fun v i wr => ∃ (k q : Nat) (xs : List Gp), k ≤ n ∧ i = .int .i64 k ∧ q ≤ s.size ∧ Hid (many one p k = .ok (xs.map Gp.ns, q)) ∧ Hid (RdAt wr b s q) ∧ xs.length = k ∧ wr.ownsRow w.heap.size 90 1 v xs.length (encGp xs) ∧ Hid (w.grownBy wr (some b)) ∧ Hid (∀ x ∈ xs, x.ok wr))
    (fun _ i _ => n - (intOf i).toNat)
  case atStart => exact ⟨0, p, [], Nat.zero_le _, rfl, hp, hid rfl, HR, rfl, World.ownsRow_nil _ _ _ _, hid (grown_refl _ _), hid (fun x hx => nomatch hx)⟩
  case round =>
    obtain ⟨k, q, xs, hk, rfl, hq, HM, HRr, hxl, hown, HG, HOK⟩ := hrel
    have HXL := hid hxl
    clear hxl
    by_cases hlt : k < n
    · have hlz : (k : Int) < n := by omega
      obtain ⟨av, cp, rfl⟩ := own_shape hown
      have HO := hid hown
      clear hown
      go_wp2_with fail
      refine (H1.out q wr (below_by H0.out HG.out HB0.out) HRr.out hq).mono ?_
      rintro e w1 ⟨v, err, rfl, HC, hg1⟩
      have HG1 : Hid (w.grownBy w1 (some b)) := hid (grown_trans HG.out hg1)
      have hown1 := row_keeps HO.out hg1 hbl
      have HOK1 : Hid (∀ x ∈ xs, x.ok w1) := hid (fun x hx => (HOK.out x hx).kept1 HRr.out hg1 (by decide))
      clear HOK
      clear hg1 HO HG HRr
      cases ho : one q with
      | error x =>
        obtain ⟨fa, rfl⟩ := HC.out.errShape ho
        have HF : Hid (RdC GroupsV RowZ w1 b s ca (many one p n) (.slice none 0 0) (.iface 115 (.pointer (some ⟨fa, 0, none⟩)))) := hid (HC.out.errMap ho (many_step_err HM.out ho n hlt) rfl)
        have hz := (HC.out.err ho).2.2.1
        obtain rfl := hz
        clear HC ho hown1
        go_wp2
        go_ret2
        exact ⟨_, _, rfl, HF, HG1.out⟩
      | ok x =>
        obtain ⟨z, q2⟩ := x
        obtain ⟨rfl, hv, hr1⟩ := HC.out.ok ho
        have HM1 := hid (many_step_ok HM.out ho)
        have hq2 := HQ.out q (z, q2) ho hq
        have HR1 := hid hr1
        simp only at hq2
        have hw1 : w.heap.size ≤ w1.heap.size := HG1.out.size
        obtain ⟨y, rfl, rfl, hyo⟩ := hv
        have HYO := hid hyo
        clear hyo
        clear HC ho hr1 HM
        go_wp2_with (at_builtin; refine wpList_append_own _ rfl (.tmp 23) (.tmp 25) 55 rfl w.heap.size 90 i0 (.slice none 0 0) 1 24 Tryz.underlying55 hi hz0 hz1 hz2 rfl (by decide) _ _ _ rfl (hown1.alloc _) ⟨w1.heap.size, 0, none⟩ 1 1 [.slice y.la y.ln y.lc] rfl rfl ?c1 ?c2 ?c3 ?c4 ?c5 ?_)
        case c1 => exact cells_new (by simp)
        case c2 => intro u hu; simp at hu; rw [hu]; rfl
        case c3 => have := HXL.out; unfold maxLen; omega
        case c4 => have := HXL.out; omega
        case c5 => have := HXL.out; simp; omega
        intro v' w3 hown3 hgrow _
        have HG3 : Hid (w.grownBy w3 (some b)) := hid (grown_ownD (grown_alloc HG1.out _) hgrow (fun z hz => (hown1.lt z hz).1))
        have HR3 : Hid (RdAt w3 b s q2) := hid ((HR1.out.below ((Below.refl _ _).alloc (Nat.le_refl _) _)).grown hgrow (fun e => by have := (hown1.lt b e.symm).1; omega))
        have hown4 : w3.ownsRow w.heap.size 90 1 v' (xs ++ [y]).length (encGp (xs ++ [y])) := by
          rw [List.length_append, show encGp (xs ++ [y]) = encGp xs ++ [.slice y.la y.ln y.lc] by unfold encGp; rw [List.map_append]; rfl]; exact hown3
        have HOK3 : Hid (∀ x ∈ xs ++ [y], x.ok w3) := hid (fun x hx => by
          have hb3 : x.ok w1 := by
            rcases List.mem_append.1 hx with hx | hx
            · exact HOK1.out x hx
            · rw [List.mem_singleton] at hx; subst hx; exact HYO.out
          exact (hb3.below ((Below.refl _ _).alloc (Nat.le_refl _) _)).kept2 (hown1.alloc _) hgrow (by decide))
        clear hown1 hgrow hown3
        go_wp2
        go_roundw
        case rel => exact ⟨k + 1, q2, xs ++ [y], by omega, by go_num, hq2, hid (by rw [List.map_append]; exact HM1.out), HR3, by rw [List.length_append, HXL.out]; rfl, hown4, HG3, HOK3⟩
        case measure => simp [intOf]; omega
    · obtain rfl : k = n := by omega
      obtain ⟨av, cp, rfl⟩ := own_shape hown
      have HF : Hid (RdC GroupsV RowZ wr b s ca (many one p k) (.slice av xs.length cp) .nilIface) := hid (RdC.mkOk HM.out ⟨rfl, ⟨xs, own_zero hown, rfl, HOK.out⟩, HRr.out⟩)
      clear hown
      go_wp2
      go_ret2
      exact ⟨_, _, rfl, HF, HG.out⟩
attribute [local go_sem ↓] Go.wp_at_zero Go.wp_at_succ
theorem size_num(l:List UInt8):(1≤numI 1000 l ↔ 1≤numV l∧numV l≤1000)∧(1≤numI 1000 l→numI 1000 l=numV l):=by
 unfold numI numV number
 by_cases hc:l.length<1∨(l.head?=some 48∧1<l.length)∨l.all digit=false
 ·rw[if_pos (by rcases hc with h|h|h;exact Or.inl h;exact Or.inr (Or.inl h);exact Or.inr (Or.inr (Or.inl h)))]
  rw[if_pos (by rcases hc with h|h|h;exact Or.inl h;exact Or.inr (Or.inl h);exact Or.inr (Or.inr (Or.inl h)))]
  simp
 ·have hn:∀most,most<val l→(l.length<1∨(l.head?=some 48∧1<l.length)∨l.all digit=false∨most<val l):=fun _ h=>Or.inr (Or.inr (Or.inr h))
  have hp:∀most,¬most<val l→¬(l.length<1∨(l.head?=some 48∧1<l.length)∨l.all digit=false∨most<val l):=by
   rintro most h (h1|h1|h1|h1)
   ·exact hc (Or.inl h1)
   ·exact hc (Or.inr (Or.inl h1))
   ·exact hc (Or.inr (Or.inr h1))
   ·exact h h1
  by_cases h1:1000<val l
  ·rw[if_pos (hn _ h1)]
   by_cases h2:1000000000<val l
   ·rw[if_pos (hn _ h2)];simp
   ·rw[if_neg (hp _ h2)]
    simp only[Option.getD_some]
    constructor
    ·constructor
     ·intro h;omega
     ·intro h;omega
    ·intro h;omega
  ·rw[if_neg (hp _ h1),if_neg (hp _ (by omega))]
   simp only[Option.getD_some]
   constructor
   ·constructor
    ·intro h;omega
    ·intro h;omega
   ·intro _;trivial
def lenP(ts:List Tok):Out Int:=bnd (takeP [91] ts) fun _ r=>bnd (sizeP r) fun n r=>bnd (takeP [93] r) fun _ r=>.ok (n,r)
theorem winP_via (o : Nat) (ts : List Tok) : winP o ts = bnd (takeP [40] ts) fun _ r => bnd (selP r) fun p r => bnd (lenP r) fun n r => bnd (takeP [41] r) fun _ r => .ok (leafT ⟨2, o, n, p.name, p.conds, []⟩, r) := by
  unfold winP lenP
  cases h1:takeP [40] ts with
  | error e=>rfl
  | ok p1=>
    obtain⟨a1,r1⟩:=p1
    simp only[bnd]
    cases h2:selP r1 with
    | error e=>rfl
    | ok p2=>
      obtain⟨a2,r2⟩:=p2
      simp only
      cases h3:takeP [91] r2 with
      | error e=>rfl
      | ok p3=>
        obtain⟨a3,r3⟩:=p3
        simp only
        cases h4:sizeP r3 with
        | error e=>rfl
        | ok p4=>
          obtain⟨a4,r4⟩:=p4
          simp only
          cases h5:takeP [93] r4 with
          | error e=>rfl
          | ok p5=>rfl
theorem takeP_cases(s:List UInt8)(ts:List Tok):(isT s (hd ts)=true∧takeP s ts=.ok ((),ts.tail))∨(¬isT s (hd ts)=true∧takeP s ts=.error (2,(hd ts).at_)):=by
 by_cases h:isT s (hd ts)=true
 ·exact Or.inl ⟨h,takeP_pos h⟩
 ·exact Or.inr ⟨h,takeP_neg h⟩
set_option maxRecDepth 100000 in
set_option maxHeartbeats 4000000 in
theorem windowLength_t{w:World}{R:RS}{k:Nat}{ts:List Tok}(h:RK w R k ts) :
  Calls Tryz.prog 237 #[.pointer (some ⟨R.b,0,none⟩)] w fun e w'=>∃(n:Int) (v:Value),e=.returned (.tuple #[.int .i64 n,v])∧Hid (Res R (fun _ m=>n=m) w' (lenP ts) v)∧w.grownBy w' (some R.b):=by
 have H:Hid (RK w R k ts):=h
 have hbl:R.b<w.heap.size:=(Array.getElem?_eq_some_iff.1 h.rd.cells).1
 clear h
 go_enter Tryz.func237,Tryz.ntmps237
 go_wp2_with fail
 refine(takeMark_t H.out ⟨#[91]⟩ (by decide) (by decide)).mono ?_
 rintro e w1 ⟨v,rfl,hres,hg⟩
 have HG1:Hid (w.grownBy w1 (some R.b)):=hg
 clear hg
 rcases takeP_cases [91] ts with ⟨h1,htp⟩|⟨h1,htp⟩
 ·obtain⟨rfl,⟨k1,hk1⟩,_⟩:=hres.out.good htp
  have HK1:Hid (RK w1 R k1 ts.tail):=hk1
  have HP1:Hid (lenP ts=bnd (sizeP ts.tail) fun n r=>bnd (takeP [93] r) fun _ r=>.ok (n,r)):=hid (by unfold lenP;rw[htp];rfl)
  clear hres hk1 h1 htp
  go_wp2_with fail
  refine(token_t HK1.out).mono ?_
  rintro e w2 ⟨⟨kd,at_,tx,tv⟩,rfl,ht,hb2⟩
  have HG2:Hid (w.grownBy w2 (some R.b)):=grown_trans HG1.out (grown_of_below hb2)
  have HK2:Hid (RK w2 R k1 ts.tail):=HK1.out.below hb2
  clear hb2 HG1 HK1
  go_upto_region 5 with fail
  refine wp_gen fun W6 hW6=>?_
  have hb6:Below w2.heap.size w2 W6:=by rw[hW6];exact(Below.refl _ _).alloc (Nat.le_refl _) _
  have HT7:Hid (BAt W6 w2.heap.size [.int .i64 kd,.int .i64 at_,.string tx,.int .i64 tv] 167):=hid (by rw[hW6];exact Go.Deep.blk_alloc_new _ _)
  have HG7:Hid (w.grownBy W6 (some R.b)):=grown_trans HG2.out (grown_of_below hb6)
  have HK7:Hid (RK W6 R k1 ts.tail):=HK2.out.below hb6
  have hz2:R.b<w2.heap.size:=by have:=HG2.out.size;omega
  clear hW6 hb6 HK2 HG2
  have t0:=HT7.out.cell 0
  have t3:=HT7.out.cell 3
  simp only[List.getElem?_cons_zero,List.getElem?_cons_succ]at t0 t3
  have hsn:=size_num (hd ts.tail).txt
  by_cases hk1:(hd ts.tail).kind=1
  ·have hkd:kd=0:=by have:=ht.out.1;rw[hk1]at this;exact this
   subst hkd
   have htv:(tv:Int)=numV (hd ts.tail).txt:=ht.out.2.2.2 hk1
   by_cases hn:1≤numI 1000 (hd ts.tail).txt
   ·have hv:=hsn.1.1 hn
    rw[←htv]at hv
    have hv1:=hv.1
    have hv2:=hv.2
    have HSP:Hid (sizeP ts.tail=.ok ((tv:Int),ts.tail.tail)):=hid (by unfold sizeP;rw[if_pos ⟨hk1,hn⟩,hsn.2 hn,←htv])
    have HD:Hid (¬((hd ts.tail).kind=0∨(hd ts.tail).kind=5)):=hid (by omega)
    obtain⟨rc0,rc1,rfz,rcx⟩:=HK7.out.rd.all
    have hlt:=HK7.out.lt
    have hln:=HK7.out.len
    clear hn hsn htv hv hk1 ht
    go_upto_region 8 with fail
    refine wp_gen fun W8 hW8=>?_
    have HK8:Hid (RK W8 R (k1+1) ts.tail.tail):=hid (by rw[hW8];exact HK7.out.step HD.out)
    have HG8:Hid (w.grownBy W8 (some R.b)):=hid (by rw[hW8];exact grown_set HG7.out (Or.inl rfl) _)
    have HT8:Hid (BAt W8 w2.heap.size [.int .i64 (0:Nat),.int .i64 at_,.string tx,.int .i64 tv] 167):=hid (by rw[hW8];exact HT7.out.other (by show w2.heap.size≠R.b;omega) _)
    clear hW8 rc0 rc1 rfz rcx t0 t3 HT7 HK7 HG7
    have e3:=HT8.out.cell 3
    simp only[List.getElem?_cons_zero,List.getElem?_cons_succ]at e3
    have HK8d:Hid (RK W8.drew R (k1+1) ts.tail.tail):=HK8.out.below ((Below.refl _ _).drew)
    have HG8d:Hid (w.grownBy W8.drew (some R.b)):=grown_trans HG8.out (grown_of_below ((Below.refl _ _).drew))
    go_region_held3 (fun w' => w'.cell? ⟨w2.heap.size, 3, none⟩ = some (.int .i64 tv)) (first | exact e9 | exact e3 | go_keep) (first
      | (go_at_call 233
         refine(takeMark_t HK8d.out ⟨#[93]⟩ (by decide) (by decide)).mono ?_
         rintro e w9 ⟨v,rfl,hres,hg9⟩
         have e9:w9.cell? ⟨w2.heap.size,3,none⟩=some (.int .i64 tv):=(World.cell?_of_block (a:=⟨w2.heap.size,3,none⟩) (hg9.block _ (World.block_lt_of_cell? _ _ e3) (by simp;omega))).trans e3
         have HG9:Hid (w.grownBy w9 (some R.b)):=grown_trans HG8d.out hg9
         clear hg9))
    all_goals
     go_wp2
     go_ret2
     refine⟨_,_,rfl,?_,HG9.out⟩
     rw[HP1.out,HSP.out]
     show Hid (Res R _ _ (bnd (takeP [93] ts.tail.tail) _) _)
     rcases takeP_cases [93] ts.tail.tail with ⟨_,htp⟩|⟨_,htp⟩
     ·obtain⟨h1,h2,_⟩:=hres.out.good htp
      rw[htp]
      exact⟨h1,h2,rfl⟩
     ·have:=hres.out.err htp
      rw[htp]
      exact this
   ·have HPE:Hid (lenP ts=.error (2,(hd ts.tail).at_)):=hid (by rw[HP1.out];unfold sizeP;rw[if_neg (fun h=>hn h.2)];rfl)
    have hv:(tv:Int)<1∨1000<(tv:Int):=by
     rw[htv]
     by_cases h1:1≤numV (hd ts.tail).txt∧numV (hd ts.tail).txt≤1000
     ·exact absurd (hsn.1.2 h1) hn
     ·omega
    clear hn hsn htv hk1 ht
    by_cases hv1:(tv:Int)<1
    all_goals
     have hv2:¬(tv:Int)<1→1000<(tv:Int):=by omega
     clear hv
     try have hv3:=hv2 hv1
     clear hv2
     go_wp2_with fail
     refine(cannotStand_t HK7.out).mono ?_
     rintro e wE ⟨v,rfl,HE,hbE⟩
     obtain⟨fa,rfl⟩:=HE.out.shape
     have HGE:Hid (w.grownBy wE (some R.b)):=grown_trans HG7.out (grown_of_below hbE)
     clear hbE
     go_wp2
     go_ret2
     exact⟨_,_,rfl,by rw[HPE.out];exact HE,HGE.out⟩
  ·have hkd:((kd:Int) != 0)=true:=by
    rw[bne_iff_ne];intro e
    exact hk1 ((pk_mark HK7.out.wf.head.2.2).2.2.2.1.1 (by have:=ht.out.1;simp only at this;omega))
   have HPE:Hid (lenP ts=.error (2,(hd ts.tail).at_)):=hid (by rw[HP1.out];unfold sizeP;rw[if_neg (fun h=>hk1 h.1)];rfl)
   clear hsn ht hk1
   go_wp2_with fail
   refine(cannotStand_t HK7.out).mono ?_
   rintro e wE ⟨v,rfl,HE,hbE⟩
   obtain⟨fa,rfl⟩:=HE.out.shape
   have HGE:Hid (w.grownBy wE (some R.b)):=grown_trans HG7.out (grown_of_below hbE)
   clear hbE
   go_wp2
   go_ret2
   exact⟨_,_,rfl,by rw[HPE.out];exact HE,HGE.out⟩
 ·have HPE:Hid (lenP ts=.error (2,(hd ts).at_)):=hid (by unfold lenP;rw[htp];rfl)
  have HE:=hid (hres.out.err htp)
  obtain⟨fa,rfl⟩:=HE.out.shape
  clear hres htp h1
  go_wp2
  go_ret2
  exact⟨_,_,rfl,by rw[HPE.out];exact HE,HG1.out⟩
end Go.Proofs.YtkodhpilkaihjaaGreatDoor
namespace Go.Proofs.YtkodhpilkaihjaaGreatDoor
open Go.RowKit LS
attribute [local go_sem ↓] Go.wp_at_zero Go.wp_at_succ
set_option maxRecDepth 100000 in
set_option maxHeartbeats 4000000 in
theorem window_t{w:World}{R:RS}{k:Nat}{ts:List Tok}(h:RK w R k ts)(wd:ByteArray)(o:Nat)(hwd:bl wd=overWords.getD o []) :
  Calls Tryz.prog 190 #[.pointer (some ⟨R.b,0,none⟩),.string wd] w fun e w'=>∃(pv v:Value),e=.returned (.tuple #[pv,v])∧IfaceV pv∧Hid (Res R (fun w' t=>PartV w' t pv) w' (winP o ts) v)∧w.grownBy w' (some R.b):=by
 have H:Hid (RK w R k ts):=h
 have HWD:Hid (bl wd=overWords.getD o []):=hwd
 have hbl:R.b<w.heap.size:=(Array.getElem?_eq_some_iff.1 h.rd.cells).1
 clear h hwd
 go_enter Tryz.func190,Tryz.ntmps190
 go_wp2_with fail
 refine(takeMark_t H.out ⟨#[40]⟩ (by decide) (by decide)).mono ?_
 rintro e w1 ⟨v,rfl,hres,hg⟩
 have HG1:Hid (w.grownBy w1 (some R.b)):=hg
 clear hg
 rcases takeP_cases [40] ts with ⟨h1,htp⟩|⟨h1,htp⟩
 ·obtain⟨rfl,⟨k1,hk1⟩,_⟩:=hres.out.good htp
  have HK1:Hid (RK w1 R k1 ts.tail):=hk1
  have HP1:Hid (winP o ts=bnd (selP ts.tail) fun p r=>bnd (lenP r) fun n r=>bnd (takeP [41] r) fun _ r=>.ok (leafT ⟨2,o,n,p.name,p.conds,[]⟩,r)):=hid (by rw[winP_via,htp];rfl)
  clear hres hk1 h1 htp
  go_wp2_with fail
  refine(selector_t HK1.out).mono ?_
  rintro e w2 ⟨nm,la,ln,lc,v,rfl,hres,hg2⟩
  have HG2:Hid (w.grownBy w2 (some R.b)):=grown_trans HG1.out hg2
  have hz2:R.b<w2.heap.size:=by have:=HG2.out.size;omega
  clear hg2 HG1 HK1
  cases hsp:selP ts.tail with
  | error er=>
   have HE:=hid (hres.out.err hsp)
   obtain⟨fa,rfl⟩:=HE.out.shape
   have HPE:Hid (winP o ts=.error er):=hid (by rw[HP1.out,hsp];rfl)
   clear hres hsp
   go_wp2
   go_ret2
   exact⟨_,_,rfl,Or.inl rfl,by rw[HPE.out];exact HE.out.below ((Below.refl _ _).alloc (Nat.le_refl _) _),grown_alloc HG2.out _⟩
  | ok pr=>
   obtain⟨nd,r2⟩:=pr
   obtain⟨rfl,⟨k2,hk2⟩,hnm,hcs⟩:=hres.out.good hsp
   have HP2:Hid (winP o ts=bnd (lenP r2) fun n r=>bnd (takeP [41] r) fun _ r=>.ok (leafT ⟨2,o,n,nd.name,nd.conds,[]⟩,r)):=hid (by rw[HP1.out,hsp];rfl)
   have HNM:Hid (bl nm=nd.name):=hnm
   have HCS:Hid (CondsV w2 (.slice la ln lc) nd.conds):=hcs
   have HK2:Hid (RK w2 R k2 r2):=hk2
   clear hres hsp hk2 hnm hcs HP1
   go_wp2_with fail
   refine calls_gen fun W3 hW3=>?_
   have hb3:Below w2.heap.size w2 W3:=by rw[hW3];exact(Below.refl _ _).alloc (Nat.le_refl _) _
   have HT3:Hid (BAt W3 w2.heap.size [.string nm,.slice la ln lc] 281):=hid (by rw[hW3];exact Go.Deep.blk_alloc_new _ _)
   have HG3:Hid (w.grownBy W3 (some R.b)):=grown_trans HG2.out (grown_of_below hb3)
   have HK3:Hid (RK W3 R k2 r2):=HK2.out.below hb3
   have HC3:Hid (CondsV W3 (.slice la ln lc) nd.conds):=HCS.out.below hb3
   clear hW3 hb3 HG2 HK2 HCS
   refine(windowLength_t HK3.out).mono ?_
   rintro e w4 ⟨n,v,rfl,hres,hg4⟩
   have HG4:Hid (w.grownBy w4 (some R.b)):=grown_trans HG3.out hg4
   have HC4:Hid (CondsV w4 (.slice la ln lc) nd.conds):=HC3.out.read HK3.out hg4
   have HT4:Hid (BAt w4 w2.heap.size [.string nm,.slice la ln lc] 281):=HT3.out.grown hg4 (by simp;omega)
   clear hg4 HG3 HC3 HT3 HK3
   cases hlp:lenP r2 with
   | error er=>
    have HE:=hid (hres.out.err hlp)
    obtain⟨fa,rfl⟩:=HE.out.shape
    have HPE:Hid (winP o ts=.error er):=hid (by rw[HP2.out,hlp];rfl)
    clear hres hlp
    go_wp2
    go_ret2
    exact⟨_,_,rfl,Or.inl rfl,by rw[HPE.out];exact HE,HG4.out⟩
   | ok pr=>
    obtain⟨n',r4⟩:=pr
    obtain⟨rfl,⟨k4,hk4⟩,hn⟩:=hres.out.good hlp
    subst hn
    have HP3:Hid (winP o ts=bnd (takeP [41] r4) fun _ r=>.ok (leafT ⟨2,o,n,nd.name,nd.conds,[]⟩,r)):=hid (by rw[HP2.out,hlp];rfl)
    have HK4:Hid (RK w4 R k4 r4):=hk4
    clear hres hlp hk4 HP2
    have e0:=HT4.out.cell 0
    have e1:=HT4.out.cell 1
    simp only[List.getElem?_cons_zero,List.getElem?_cons_succ]at e0 e1
    have HK4d:Hid (RK w4.drew R k4 r4):=HK4.out.below ((Below.refl _ _).drew)
    have HG4d:Hid (w.grownBy w4.drew (some R.b)):=grown_trans HG4.out (grown_of_below ((Below.refl _ _).drew))
    have HC4d:Hid (CondsV w4.drew (.slice la ln lc) nd.conds):=HC4.out.below ((Below.refl _ _).drew)
    go_upto_region 10 with fail
    go_region_held3 (fun w' => w'.cell? ⟨w2.heap.size, 0, none⟩ = some (.string nm) ∧ w'.cell? ⟨w2.heap.size, 1, none⟩ = some (.slice la ln lc)) (first | exact ⟨e90, e91⟩ | exact ⟨e0, e1⟩ | go_keep) (first
      | (go_at_call 233
         refine(takeMark_t HK4d.out ⟨#[41]⟩ (by decide) (by decide)).mono ?_
         rintro e w9 ⟨v,rfl,hres,hg9⟩
         have e90:w9.cell? ⟨w2.heap.size,0,none⟩=some (.string nm):=(World.cell?_of_block (a:=⟨w2.heap.size,0,none⟩) (hg9.block _ (World.block_lt_of_cell? _ _ e0) (by simp;omega))).trans e0
         have e91:w9.cell? ⟨w2.heap.size,1,none⟩=some (.slice la ln lc):=(World.cell?_of_block (a:=⟨w2.heap.size,1,none⟩) (hg9.block _ (World.block_lt_of_cell? _ _ e1) (by simp;omega))).trans e1
         have HG9:Hid (w.grownBy w9 (some R.b)):=grown_trans HG4d.out hg9
         have HC9:Hid (CondsV w9 (.slice la ln lc) nd.conds):=HC4d.out.read HK4d.out hg9
         clear hg9))
    all_goals
     go_wp2
     go_ret2
     refine⟨_,_,rfl,Or.inr ⟨_,_,rfl⟩,?_,HG9.out⟩
     rw[HP3.out]
     rcases takeP_cases [41] r4 with ⟨_,htp⟩|⟨_,htp⟩
     ·obtain⟨h1,h2,_⟩:=hres.out.good htp
      rw[htp]
      exact⟨h1,h2,Or.inr (Or.inr (Or.inl ⟨rfl,wd,nm,la,ln,lc,rfl,HWD.out,HNM.out,HC9.out⟩))⟩
     ·have:=hres.out.err htp
      rw[htp]
      exact this
 ·have HPE:Hid (winP o ts=.error (2,(hd ts).at_)):=hid (by rw[winP_via,htp];rfl)
  have HE:=hid (hres.out.err htp)
  obtain⟨fa,rfl⟩:=HE.out.shape
  clear hres htp h1
  go_wp2
  go_ret2
  exact⟨_,_,rfl,Or.inl rfl,by rw[HPE.out];exact HE,HG1.out⟩
end Go.Proofs.YtkodhpilkaihjaaGreatDoor

/- Parts. -/
import Derived.Test.YtkodhpilkaihjaaGreatDoorV31
import Derived.Test.YtkodhpilkaihjaaGreatDoorV32
import Derived.Test.YtkodhpilkaihjaaGreatDoorV26
namespace Go.Proofs.YtkodhpilkaihjaaGreatDoor
open Go.RowKit LS
set_option maxHeartbeats 2000000 in
theorem number_nil(A:Nat→Addr)(m:Int)(w:World)(hv:Vars w A m) :
  Calls Tryz.prog 22 #[.nilIface] w fun e w'=>e=.returned (.int .i64 0)∧w'=w:=by
 have vLong:=hv.sent 0 (by decide)
 have vSyntax:=hv.sent 1 (by decide)
 have vDeep:=hv.sent 2 (by decide)
 have vType:=hv.sent 3 (by decide)
 have vStore:=hv.sent 4 (by decide)
 have vTwice:=hv.sent 5 (by decide)
 have vMany:=hv.sent 6 (by decide)
 have vTimes:=hv.sent 7 (by decide)
 have vCode:=hv.sent 8 (by decide)
 have vSum:=hv.sent 9 (by decide)
 have vRefer:=hv.sent 10 (by decide)
 have vStack:=hv.sent 11 (by decide)
 have vFuel:=hv.sent 12 (by decide)
 go_enter Tryz.func22,Tryz.ntmps22
 go_wp2_with fail
 refine(is_nil (A 0) _).mono ?_
 rintro e w' ⟨rfl,rfl⟩
 go_wp2_with fail
 refine(is_nil (A 1) _).mono ?_
 rintro e w' ⟨rfl,rfl⟩
 go_wp2_with fail
 refine(is_nil (A 2) _).mono ?_
 rintro e w' ⟨rfl,rfl⟩
 go_wp2_with fail
 refine(is_nil (A 3) _).mono ?_
 rintro e w' ⟨rfl,rfl⟩
 go_wp2_with fail
 refine(is_nil (A 4) _).mono ?_
 rintro e w' ⟨rfl,rfl⟩
 go_wp2_with fail
 refine(is_nil (A 5) _).mono ?_
 rintro e w' ⟨rfl,rfl⟩
 go_wp2_with fail
 refine(is_nil (A 6) _).mono ?_
 rintro e w' ⟨rfl,rfl⟩
 go_wp2_with fail
 refine(is_nil (A 7) _).mono ?_
 rintro e w' ⟨rfl,rfl⟩
 go_wp2_with fail
 refine(is_nil (A 8) _).mono ?_
 rintro e w' ⟨rfl,rfl⟩
 go_wp2_with fail
 refine(is_nil (A 9) _).mono ?_
 rintro e w' ⟨rfl,rfl⟩
 go_wp2_with fail
 refine(is_nil (A 10) _).mono ?_
 rintro e w' ⟨rfl,rfl⟩
 go_wp2_with fail
 refine(is_nil (A 11) _).mono ?_
 rintro e w' ⟨rfl,rfl⟩
 go_wp2_with fail
 refine(is_nil (A 12) _).mono ?_
 rintro e w' ⟨rfl,rfl⟩
 go_wp2
 go_ret
 exact⟨rfl,rfl⟩
set_option maxHeartbeats 1000000 in
theorem place_nil(w:World) :
  Calls Tryz.prog 23 #[.nilIface] w fun e w'=>e=.returned (.int .i64 0)∧Below w.heap.size w w':=by
 go_enter Tryz.func23,Tryz.ntmps23
 go_wp2_with fail
 refine(as_nil _ _).mono ?_
 rintro e w' ⟨rfl,rfl⟩
 go_wp2
 go_ret
 exact⟨rfl,(by repeat first|exact Below.refl _ _|assumption|refine Below.alloc ?_ ?_ _|refine Below.setCell ?_ ?_ _|refine below_drewN' ?_ _|refine Below.drew ?_|omega|(simp;omega)|simp)⟩
set_option maxHeartbeats 1000000 in
theorem place_bare(A:Nat→Addr)(m:Int)(a:Addr)(w:World)(hv:Vars w A m) :
  Calls Tryz.prog 23 #[.iface 491 (.pointer (some a))] w fun e w'=>e=.returned (.int .i64 0)∧Below w.heap.size w w':=by
 have hB:Below w.heap.size w (w.alloc (.cells #[.pointer none] 115)):=(Below.refl _ _).alloc (Nat.le_refl _) _
 go_enter Tryz.func23,Tryz.ntmps23
 go_wp2_with fail
 refine(as_miss _ _ _ (hv.alloc _).handle).mono ?_
 rintro e w' ⟨rfl,hb⟩
 have hb':Below w.heap.size w w':=hB.trans (hb.mono (by simp))
 clear hb hB
 go_wp2
 go_ret
 exact⟨rfl,hb'⟩
set_option maxHeartbeats 1000000 in
theorem place_fault(A:Nat→Addr)(m:Int)(fa:Nat)(i:Int)(w:World)(hv:Vars w A m)(hp:w.cell? ⟨fa,1,none⟩=some (.int .i64 i)) :
  Calls Tryz.prog 23 #[.iface 115 (.pointer (some ⟨fa,0,none⟩))] w fun e w'=>e=.returned (.int .i64 i)∧Below w.heap.size w w':=by
 have hfl:fa<w.heap.size:=World.block_lt_of_cell? _ _ hp
 go_enter Tryz.func23,Tryz.ntmps23
 go_wp2_with fail
 refine(as_hit _ _ (.pointer none) _ (hv.alloc _).handle (by simp) (by simp)).mono ?_
 rintro e w' ⟨rfl,hw⟩
 have hb':Below w.heap.size w w':=by rw[hw];exact(by repeat first|exact Below.refl _ _|assumption|refine Below.alloc ?_ ?_ _|refine Below.setCell ?_ ?_ _|refine below_drewN' ?_ _|refine Below.drew ?_|omega|(simp;omega)|simp)
 have c1:w'.cell? ⟨w.heap.size,0,none⟩=some (.pointer (some ⟨fa,0,none⟩)):=by
  rw[hw]
  refine World.cell?_setCell_same _ _ _ (u:=.pointer none) ?_
  refine(Below.cell (B:=w.heap.size+1) (w:=w.alloc (.cells #[.pointer none] 115)) ?_ (Nat.lt_succ_self _)).trans (by simp)
  exact(by repeat first|exact Below.refl _ _|assumption|refine Below.alloc ?_ ?_ _|refine Below.setCell ?_ ?_ _|refine below_drewN' ?_ _|refine Below.drew ?_|omega|(simp;omega)|simp)
 have c2:w'.cell? ⟨fa,1,none⟩=some (.int .i64 i):=(hb'.cell (p:=⟨fa,1,none⟩) hfl).trans hp
 clear hw
 go_wp2
 go_ret
 exact⟨rfl,hb'⟩
theorem many_all {α : Type} {one : Nat → RdR α} {p : Nat} {P : α → Prop} (h1 : ∀ p x, one p = .ok x → P x.1) : ∀ {k : Nat} {xs : List α} {q : Nat}, many one p k = .ok (xs, q) → ∀ x ∈ xs, P x
  | 0, xs, q, h => by injection h with h; injection h with h1 h2; subst h1; intro x hx; cases hx
  | k + 1, xs, q, h => by
    unfold many at h
    cases hm : many one p k with
    | error e => rw [hm] at h; cases h
    | ok x =>
      rw [hm] at h
      simp only at h
      cases ho : one x.2 with
      | error e => rw [ho] at h; cases h
      | ok y =>
        rw [ho] at h
        injection h with h; injection h with h2 h3
        subst h2
        intro z hz
        rcases List.mem_append.1 hz with hz | hz
        · exact many_all h1 (show many one p k = .ok (x.1, x.2) from hm) z hz
        · rw [List.mem_singleton] at hz; subst hz; exact h1 _ _ ho
theorem head_last {l : List UInt8} {n : Nat × Nat × Nat × Nat} (h : headQ l = .ok n) : n.2.2.2 ≤ 65535 := by
  unfold headQ at h
  split at h
  · cases h
  · split at h
    · cases h
    · injection h with h
      subst h
      have : back (sub l 7 2) < 256 ^ 2 := back_lt_of (by unfold sub; simp; omega)
      simp only
      omega
theorem decode_ins {l : List UInt8} {c : CodeQ} (h : decodeQ l = .ok c) : c.ins.length ≤ 65535 ∧ ∀ x ∈ c.ins, x.1 ≤ 13 ∧ x.2 < 65536 := by
  unfold decodeQ at h
  cases h0 : headQ l with
  | error e => rw [h0] at h; cases h
  | ok n =>
    rw [h0] at h; simp only at h
    cases h1 : many (constAt l) 9 n.1 with
    | error e => rw [h1] at h; cases h
    | ok cs =>
      rw [h1] at h; simp only at h
      cases h2 : many (pickAt l) cs.2 n.2.1 with
      | error e => rw [h2] at h; cases h
      | ok ps =>
        rw [h2] at h; simp only at h
        cases h3 : many (groupAt l) ps.2 n.2.2.1 with
        | error e => rw [h3] at h; cases h
        | ok gs =>
          rw [h3] at h; simp only at h
          cases h4 : many (insAt l) gs.2 n.2.2.2 with
          | error e => rw [h4] at h; cases h
          | ok is =>
            rw [h4] at h; simp only at h
            split at h
            · cases h
            · split at h
              · cases h
              · split at h
                · cases h
                · injection h with h
                  subst h
                  refine ⟨?_, ?_⟩
                  · have := many_len (show many (insAt l) gs.2 n.2.2.2 = .ok (is.1, is.2) from h4)
                    have := head_last h0
                    simp only
                    omega
                  · exact many_all (fun p x h => (insAt_le h).2) (show many (insAt l) gs.2 n.2.2.2 = .ok (is.1, is.2) from h4)
def BadV (w : World) (A : Nat → Addr) (x : Nat × Nat) (err : Value) : Prop :=
  (x.1 = 9 ∧ ErrPl w err x.2 (A 8)) ∨ (x = (10, 0) ∧ err = .iface 491 (.pointer (some (A 9)))) ∨ (x.1 = 11 ∧ ErrPl w err x.2 (A 10)) ∨ (x.1 = 12 ∧ ErrPl w err x.2 (A 11))
def OverC (w : World) (A : Nat → Addr) (r : Except (Nat × Nat) (CodeQ × Nat × Nat)) (v n err : Value) : Prop := match r with
  | .ok x => CodV w x.1 v ∧ n = .agg #[.int .i64 x.2.1, .int .i64 x.2.2] ∧ err = .nilIface
  | .error x => n = .agg #[.int .i64 0, .int .i64 0] ∧ BadV w A x err
theorem OverC.mkOk {w : World} {A : Nat → Addr} {r : Except (Nat × Nat) (CodeQ × Nat × Nat)} {v n err : Value} {x : CodeQ × Nat × Nat} (hr : r = .ok x) (h : CodV w x.1 v ∧ n = .agg #[.int .i64 x.2.1, .int .i64 x.2.2] ∧ err = .nilIface) : OverC w A r v n err := by subst hr; exact h
theorem OverC.mkErr {w : World} {A : Nat → Addr} {r : Except (Nat × Nat) (CodeQ × Nat × Nat)} {v n err : Value} {x : Nat × Nat} (hr : r = .error x) (h : n = .agg #[.int .i64 0, .int .i64 0] ∧ BadV w A x err) : OverC w A r v n err := by subst hr; exact h
theorem ErrAt.pl {w : World} {v : Value} {p : Int} {a : Addr} (h : ErrAt w v p a) : ErrPl w v p a := by
  obtain ⟨fa, h1, h2⟩ := h
  exact ⟨fa, h1, by simp [World.cell?, h2], by simp [World.cell?, h2]⟩
theorem BadV.below {w w' : World} {A : Nat → Addr} {x : Nat × Nat} {err : Value} (h : BadV w A x err) (hb : Below w.heap.size w w') : BadV w' A x err := by
  rcases h with h | h | h | h
  · exact Or.inl ⟨h.1, h.2.below hb⟩
  · exact Or.inr (Or.inl h)
  · exact Or.inr (Or.inr (Or.inl ⟨h.1, h.2.below hb⟩))
  · exact Or.inr (Or.inr (Or.inr ⟨h.1, h.2.below hb⟩))
theorem OverC.below {w w' : World} {A : Nat → Addr} {r : Except (Nat × Nat) (CodeQ × Nat × Nat)} {v n err : Value} (h : OverC w A r v n err) (hb : Below w.heap.size w w') : OverC w' A r v n err := by
  cases r with
  | ok x => exact ⟨h.1.below hb, h.2⟩
  | error x => exact ⟨h.1, h.2.below hb⟩
theorem ErrPl.kept2 {w w' : World} {v : Value} {p : Int} {a : Addr} (h : ErrPl w v p a) {b : Nat} {c : List Value} {t : TypeId} (hq : BAt w b c t) (hg : w.grownBy w' (some b)) (hc : ∀ t v, c[2]? ≠ some (.iface t v)) : ErrPl w' v p a := by
  obtain ⟨fa, h1, h2, h3⟩ := h
  have hne : some fa ≠ some b := by
    intro e; injection e with e; subst e
    rw [hq.cell 2] at h3
    exact hc _ _ h3
  have hl : fa < w.heap.size := World.block_lt_of_cell? _ _ h3
  have e := hg.block fa hl hne
  refine ⟨fa, h1, ?_, ?_⟩
  · unfold World.cell? at h2 ⊢; simp only at h2 ⊢; rw [e]; exact h2
  · unfold World.cell? at h3 ⊢; simp only at h3 ⊢; rw [e]; exact h3
theorem BadV.kept2 {w w' : World} {A : Nat → Addr} {x : Nat × Nat} {err : Value} (h : BadV w A x err) {b : Nat} {c : List Value} {t : TypeId} (hq : BAt w b c t) (hg : w.grownBy w' (some b)) (hc : ∀ t v, c[2]? ≠ some (.iface t v)) : BadV w' A x err := by
  rcases h with h | h | h | h
  · exact Or.inl ⟨h.1, h.2.kept2 hq hg hc⟩
  · exact Or.inr (Or.inl h)
  · exact Or.inr (Or.inr (Or.inl ⟨h.1, h.2.kept2 hq hg hc⟩))
  · exact Or.inr (Or.inr (Or.inr ⟨h.1, h.2.kept2 hq hg hc⟩))
theorem OverC.kept2 {w w' : World} {A : Nat → Addr} {r : Except (Nat × Nat) (CodeQ × Nat × Nat)} {v n err : Value} (h : OverC w A r v n err) {b : Nat} {c : List Value} {t : TypeId} (hq : BAt w b c t) (hg : w.grownBy w' (some b)) (hc : ∀ t v, c[2]? ≠ some (.iface t v))
    (h1 : t ≠ 3) (h2 : t ≠ 294) (h3 : t ≠ 379) (h4 : t ≠ 90) (h5 : t ≠ 9) (h6 : t ≠ 184) : OverC w' A r v n err := by
  cases r with
  | ok x => exact ⟨h.1.kept1 hq hg h1 h2 h3 h4 h5 h6, h.2⟩
  | error x => exact ⟨h.1, h.2.kept2 hq hg hc⟩
theorem BadV.shape {w : World} {A : Nat → Addr} {x : Nat × Nat} {err : Value} (h : BadV w A x err) : (∃ fa : Nat, err = .iface 115 (.pointer (some ⟨fa, 0, none⟩))) ∨ err = .iface 491 (.pointer (some (A 9))) := by
  rcases h with ⟨_, fa, h, _⟩ | h | ⟨_, fa, h, _⟩ | ⟨_, fa, h, _⟩
  · exact Or.inl ⟨fa, h⟩
  · exact Or.inr h.2
  · exact Or.inl ⟨fa, h⟩
  · exact Or.inl ⟨fa, h⟩
structure OverE (w0 w W : World) (A : Nat → Addr) (r : Except (Nat × Nat) (CodeQ × Nat × Nat)) (v n err : Value) (b d : Nat) (x0 x1 x2 x3 y0 y1 : Value) : Prop where
  oc : OverC W A r v n err
  ob : Below w0.heap.size w0 W
  ox : BAt W b [x0, x1, x2, x3] 58
  oy : BAt W d [y0, y1] 31
theorem over_set {w0 w : World} {A : Nat → Addr} {r : Except (Nat × Nat) (CodeQ × Nat × Nat)} {v n err : Value} {b d : Nat} (h : OverC w A r v n err) (hB : Below w0.heap.size w0 w) (hb : w0.heap.size ≤ b) (hd : w0.heap.size ≤ d) (hne : b ≠ d)
    (hX : BAt w b [.slice none 0 0, .slice none 0 0, .slice none 0 0, .slice none 0 0] 58) (hZ : BAt w d [.int .i64 0, .int .i64 0] 31) (x0 x1 x2 x3 y0 y1 : Value) :
    OverE w0 w (set2 (set4 w b x0 x1 x2 x3) d y0 y1) A r v n err b d x0 x1 x2 x3 y0 y1 := by
  have g1 := set4_self w b x0 x1 x2 x3
  have z1 := hZ.grown g1 (by intro e; injection e with e; exact hne e.symm)
  have g2 := set2_self (set4 w b x0 x1 x2 x3) d y0 y1
  exact ⟨(h.kept2 hX g1 (by intro t v; simp) (by decide) (by decide) (by decide) (by decide) (by decide) (by decide)).kept2 z1 g2 (by intro t v; simp) (by decide) (by decide) (by decide) (by decide) (by decide) (by decide),
    set2_below (set4_below hB hb _ _ _ _) hd _ _, (set4_at hX).grown g2 (by intro e; injection e with e; exact hne e), set2_at z1⟩
theorem LookP.mk' {w : World} {A : Nat → Addr} {m : Int} {c : CodeQ} {l : List UInt8} {a0 a1 a2 a3 : Option Addr} {n0 n1 n2 n3 e0 e1 e2 e3 : Nat} (hv : Vars w A m) (hn : 20 ≤ w.heap.size) (hc : CodV w c (.agg #[.slice a0 n0 e0, .slice a1 n1 e1, .slice a2 n2 e2, .slice a3 n3 e3])) (hl : decodeQ l = .ok c) :
    (n0 = c.consts.length ∧ n1 = c.picks.length ∧ n2 = c.groups.length ∧ n3 = c.ins.length) ∧ LookP w A m c a0 a1 a2 a3 e0 e1 e2 e3 := by
  obtain ⟨cv, pv, gv, iv, e, h⟩ := hc
  injection e with e
  injection e with e
  simp only [List.cons.injEq, and_true] at e
  obtain ⟨rfl, rfl, rfl, rfl⟩ := e
  obtain ⟨b0, f0, h0⟩ := h.cs.shape
  obtain ⟨b1, f1, h1⟩ := h.ps.shape
  obtain ⟨b2, f2, h2⟩ := h.gs.shape
  obtain ⟨b3, f3, h3⟩ := h.is.shape
  injection h0 with _ h0 _
  injection h1 with _ h1 _
  injection h2 with _ h2 _
  injection h3 with _ h3 _
  subst h0 h1 h2 h3
  exact ⟨⟨rfl, rfl, rfl, rfl⟩, hv, hn, h, (decode_ins hl).1, (decode_ins hl).2⟩
set_option maxRecDepth 100000 in
set_option maxHeartbeats 16000000 in
theorem lookOver_any (s : ByteArray) (A : Nat → Addr) (m : Int) (w : World) (hv : Vars w A m) (ht : PowTab w) (hB : 20 ≤ w.heap.size) (hs : s.size ≤ maxLen) :
    Calls Tryz.prog 21 #[.string s] w fun e w' => ∃ v n err, e = .returned (.tuple #[v, n, err]) ∧ Hid (OverC w' A (lookedQ (bl s)) v n err) ∧ CodZ v ∧ Below w.heap.size w w' := by
  have HPR : Hid (∀ W, Below w.heap.size w W → Calls Tryz.prog 38 #[.string s] W _) := hid (fun W hb => pread_any s A m W (hv.below hb) (ht.low hb hB) (Nat.le_trans hB hb.size) hs)
  have HV := hid hv
  have HGN := hid hB
  clear hv ht hB hs
  go_enter Tryz.func21, Tryz.ntmps21
  go_wp2_with fail
  refine calls_gen fun W hW => ?_
  have hbW : Below w.heap.size w W := by rw [hW]; exact ((Below.refl _ _).alloc (Nat.le_refl _) _).alloc (by simp) _
  have HXW : Hid (BAt W w.heap.size [.slice none 0 0, .slice none 0 0, .slice none 0 0, .slice none 0 0] 58) := hid (by
    rw [hW]; exact (((Below.refl _ _).alloc (Nat.le_refl _) _).block _ (by simp)).trans (Go.Deep.blk_alloc_new _ _))
  have HZW : Hid (BAt W (w.heap.size + 1) [.int .i64 0, .int .i64 0] 31) := hid (by
    rw [hW]; have := Go.Deep.blk_alloc_new (w.alloc (.cells #[.slice none 0 0, .slice none 0 0, .slice none 0 0, .slice none 0 0] 58)) (.cells #[.int .i64 0, .int .i64 0] 31); rwa [Go.Deep.nblk_alloc] at this)
  have HBW := hid hbW
  clear hW hbW
  refine (HPR.out W HBW.out).mono ?_
  rintro e w1 ⟨v, err, rfl, HC, hb1⟩
  have HB1 : Hid (Below w.heap.size w w1) := hid (HBW.out.trans (hb1.mono HBW.out.size))
  have HX1 := hid (HXW.out.below hb1)
  have HZ1 := hid (HZW.out.below hb1)
  clear hb1 HXW HZW HBW
  cases hd : decodeQ (bl s) with
  | error x =>
    have HLQ : Hid (lookedQ (bl s) = .error x) := hid (by unfold lookedQ; rw [hd])
    have HBD : Hid (BadV w1 A x err) := hid (by
      have h := HC.out
      rw [hd] at h
      rcases h.2 with h | h
      · exact Or.inl ⟨h.1, h.2.pl⟩
      · exact Or.inr (Or.inl h))
    obtain rfl : v = .agg #[.slice none 0 0, .slice none 0 0, .slice none 0 0, .slice none 0 0] := by
      have h := HC.out
      rw [hd] at h
      exact h.1
    have HOC : Hid (OverC w1 A (lookedQ (bl s)) (.agg #[.slice none 0 0, .slice none 0 0, .slice none 0 0, .slice none 0 0]) (.agg #[.int .i64 0, .int .i64 0]) err) := hid (OverC.mkErr HLQ.out ⟨rfl, HBD.out⟩)
    have HOE := hid (over_set (b := w.heap.size) (d := w.heap.size + 1) HOC.out HB1.out (Nat.le_refl _) (Nat.le_add_right _ _) (by omega) HX1.out HZ1.out (.slice none 0 0) (.slice none 0 0) (.slice none 0 0) (.slice none 0 0) (.int .i64 0) (.int .i64 0))
    have hx1l := HX1.out.lt
    have hz1l := HZ1.out.lt
    have f0 := HX1.out.frozen 0
    have f1 := HX1.out.frozen 1
    have f2 := HX1.out.frozen 2
    have f3 := HX1.out.frozen 3
    have c0 := HX1.out.cell 0
    have c1 := HX1.out.cell 1
    have c2 := HX1.out.cell 2
    have c3 := HX1.out.cell 3
    have i0 := HZ1.out.frozen 0
    have i1 := HZ1.out.frozen 1
    have j0 := HZ1.out.cell 0
    have j1 := HZ1.out.cell 1
    simp only [List.getElem?_cons_zero, List.getElem?_cons_succ] at c0 c1 c2 c3 j0 j1
    have hsh := HBD.out.shape
    clear HC hd HBD HLQ HOC
    rcases hsh with ⟨fa, rfl⟩ | rfl
    all_goals
      go_wp2
      change bodyPost _ _ _ _ _ ((set2 (set4 w1 w.heap.size (.slice none 0 0) (.slice none 0 0) (.slice none 0 0) (.slice none 0 0)) (w.heap.size + 1) (.int .i64 0) (.int .i64 0)).alloc (.cells #[.slice none 0 0, .slice none 0 0, .slice none 0 0, .slice none 0 0] 58))
      clear f0 f1 f2 f3 c0 c1 c2 c3 i0 i1 j0 j1
      generalize set2 (set4 w1 w.heap.size (.slice none 0 0) (.slice none 0 0) (.slice none 0 0) (.slice none 0 0)) (w.heap.size + 1) (.int .i64 0) (.int .i64 0) = WY at *
      have hbY : Below WY.heap.size WY (WY.alloc (.cells #[.slice none 0 0, .slice none 0 0, .slice none 0 0, .slice none 0 0] 58)) := (Below.refl _ _).alloc (Nat.le_refl _) _
      have HBX := hid (HOE.out.ob.trans (hbY.mono HOE.out.ob.size))
      have HO2 := hid (HOE.out.oc.below hbY)
      have sx := HOE.out.ox.below hbY
      have sy := HOE.out.oy.below hbY
      have s0 := sx.cell 0
      have s1 := sx.cell 1
      have s2 := sx.cell 2
      have s3 := sx.cell 3
      have t0 := sy.cell 0
      have t1 := sy.cell 1
      simp only [List.getElem?_cons_zero, List.getElem?_cons_succ] at s0 s1 s2 s3 t0 t1
      generalize WY.alloc (.cells #[.slice none 0 0, .slice none 0 0, .slice none 0 0, .slice none 0 0] 58) = WX at *
    · exact bodyPost_ret (v := .tuple #[.agg #[.slice none 0 0, .slice none 0 0, .slice none 0 0, .slice none 0 0], .agg #[.int .i64 0, .int .i64 0], .iface 115 (.pointer (some ⟨fa, 0, none⟩))]) (by simp [results, Tryz.results21, go_sem, s0, s1, s2, s3, t0, t1]) rfl ⟨_, _, _, rfl, HO2, ⟨_, _, _, _, _, _, _, _, _, _, _, _, rfl⟩, HBX.out⟩
    · exact bodyPost_ret (v := .tuple #[.agg #[.slice none 0 0, .slice none 0 0, .slice none 0 0, .slice none 0 0], .agg #[.int .i64 0, .int .i64 0], .iface 491 (.pointer (some (A 9)))]) (by simp [results, Tryz.results21, go_sem, s0, s1, s2, s3, t0, t1]) rfl ⟨_, _, _, rfl, HO2, ⟨_, _, _, _, _, _, _, _, _, _, _, _, rfl⟩, HBX.out⟩
  | ok c =>
    obtain ⟨rfl, hcv⟩ : err = .nilIface ∧ CodV w1 c v := by
      have h := HC.out
      rw [hd] at h
      exact h
    obtain ⟨a0, a1, a2, a3, n0, n1, n2, n3, e0, e1, e2, e3, rfl⟩ := hcv.shape
    have HCV := hid hcv
    have HLK : Hid (∀ W, Below w1.heap.size w1 W → Calls Tryz.prog 39 #[.agg #[.slice a0 n0 e0, .slice a1 n1 e1, .slice a2 n2 e2, .slice a3 n3 e3]] W fun e w' => ∃ v err, e = .returned (.tuple #[v, err]) ∧ Hid (LookC w' A (verifyQ c) v err) ∧ Below W.heap.size W w') := hid (fun W hb => by
      obtain ⟨⟨rfl, rfl, rfl, rfl⟩, hp⟩ := LookP.mk' (HV.out.below ((HB1.out.trans (hb.mono HB1.out.size)))) (Nat.le_trans HGN.out (Nat.le_trans HB1.out.size hb.size)) (hcv.below hb) hd
      exact look_any W A m c a0 a1 a2 a3 e0 e1 e2 e3 hp)
    have HLQ : Hid (lookedQ (bl s) = match verifyQ c with | .error e => .error e | .ok x => .ok (c, x)) := hid (by unfold lookedQ; rw [hd]; rfl)
    have hx1l := HX1.out.lt
    have hz1l := HZ1.out.lt
    clear HC hd hcv
    go_wp2_with fail
    refine calls_gen fun W2 hW2 => ?_
    have hb2 : Below w1.heap.size w1 W2 := by rw [hW2]; exact (Below.refl _ _).alloc (Nat.le_refl _) _
    have HQ2 : Hid (BAt W2 w1.heap.size [.slice a0 n0 e0, .slice a1 n1 e1, .slice a2 n2 e2, .slice a3 n3 e3] 58) := hid (by rw [hW2]; exact Go.Deep.blk_alloc_new _ _)
    have HB2 : Hid (Below w.heap.size w W2) := hid (HB1.out.trans (hb2.mono HB1.out.size))
    have HX2 := hid (HX1.out.below hb2)
    have HZ2 := hid (HZ1.out.below hb2)
    have HC2 := hid (HCV.out.below hb2)
    clear hW2 HX1 HZ1 HCV HB1
    refine (HLK.out W2 hb2).mono ?_
    rintro e w3 ⟨nv, er, rfl, HLC, hb3⟩
    have HB3 : Hid (Below w.heap.size w w3) := hid (HB2.out.trans (hb3.mono HB2.out.size))
    have HX3 := hid (HX2.out.below hb3)
    have HZ3 := hid (HZ2.out.below hb3)
    have HQ3 := hid (HQ2.out.below hb3)
    have HC3 := hid (HC2.out.below hb3)
    clear hb2 hb3 HX2 HZ2 HQ2 HC2 HB2 HLK HPR
    obtain ⟨mm, sn, rfl, HOC⟩ : ∃ (mm sn : Nat), nv = .agg #[.int .i64 mm, .int .i64 sn] ∧ Hid (OverC w3 A (lookedQ (bl s)) (.agg #[.slice a0 n0 e0, .slice a1 n1 e1, .slice a2 n2 e2, .slice a3 n3 e3]) (.agg #[.int .i64 mm, .int .i64 sn]) er) := by
      have h := HLC.out
      cases hq : verifyQ c with
      | ok x =>
        rw [hq] at h
        obtain ⟨rfl, rfl⟩ := h
        exact ⟨_, _, rfl, hid (OverC.mkOk (x := (c, x)) (by rw [HLQ.out, hq]) ⟨HC3.out, rfl, rfl⟩)⟩
      | error x =>
        rw [hq] at h
        obtain ⟨rfl, h⟩ := h
        refine ⟨0, 0, rfl, hid (OverC.mkErr (x := x) (by rw [HLQ.out, hq]) ⟨rfl, ?_⟩)⟩
        rcases h with h | h
        · exact Or.inr (Or.inr (Or.inl h))
        · exact Or.inr (Or.inr (Or.inr h))
    clear HLC HLQ HC3
    have hx3l := HX3.out.lt
    have hz3l := HZ3.out.lt
    have hq3l := HQ3.out.lt
    have f0 := HX3.out.frozen 0
    have f1 := HX3.out.frozen 1
    have f2 := HX3.out.frozen 2
    have f3 := HX3.out.frozen 3
    have c0 := HX3.out.cell 0
    have c1 := HX3.out.cell 1
    have c2 := HX3.out.cell 2
    have c3 := HX3.out.cell 3
    have i0 := HZ3.out.frozen 0
    have i1 := HZ3.out.frozen 1
    have j0 := HZ3.out.cell 0
    have j1 := HZ3.out.cell 1
    have q0 := HQ3.out.cell 0
    have q1 := HQ3.out.cell 1
    have q2 := HQ3.out.cell 2
    have q3 := HQ3.out.cell 3
    simp only [List.getElem?_cons_zero, List.getElem?_cons_succ] at c0 c1 c2 c3 j0 j1 q0 q1 q2 q3
    go_wp2_with fail
    have hxd : w1.heap.size ≠ w.heap.size := by omega
    have hxd' : w.heap.size ≠ w1.heap.size := by omega
    have hxe : w1.heap.size ≠ w.heap.size + 1 := by omega
    have hxe' : w.heap.size + 1 ≠ w1.heap.size := by omega
    have HOE := hid (over_set (b := w.heap.size) (d := w.heap.size + 1) HOC.out HB3.out (Nat.le_refl _) (Nat.le_add_right _ _) (by omega) HX3.out HZ3.out (.slice a0 n0 e0) (.slice a1 n1 e1) (.slice a2 n2 e2) (.slice a3 n3 e3) (.int .i64 mm) (.int .i64 sn))
    clear HOC HX3 HZ3 HQ3
    go_region
    all_goals
      go_wp2
      change bodyPost _ _ _ _ _ ((set2 (set4 w3 w.heap.size (.slice a0 n0 e0) (.slice a1 n1 e1) (.slice a2 n2 e2) (.slice a3 n3 e3)) (w.heap.size + 1) (.int .i64 mm) (.int .i64 sn)).alloc (.cells #[.int .i64 mm, .int .i64 sn] 31)).drew
      clear f0 f1 f2 f3 c0 c1 c2 c3 i0 i1 j0 j1 q0 q1 q2 q3
      generalize set2 (set4 w3 w.heap.size (.slice a0 n0 e0) (.slice a1 n1 e1) (.slice a2 n2 e2) (.slice a3 n3 e3)) (w.heap.size + 1) (.int .i64 mm) (.int .i64 sn) = WY at *
      have hbY : Below WY.heap.size WY (WY.alloc (.cells #[.int .i64 mm, .int .i64 sn] 31)).drew := ((Below.refl _ _).alloc (Nat.le_refl _) _).drew
      have HBX := hid (HOE.out.ob.trans (hbY.mono HOE.out.ob.size))
      have HO2 := hid (HOE.out.oc.below hbY)
      have sx := HOE.out.ox.below hbY
      have sy := HOE.out.oy.below hbY
      have s0 := sx.cell 0
      have s1 := sx.cell 1
      have s2 := sx.cell 2
      have s3 := sx.cell 3
      have t0 := sy.cell 0
      have t1 := sy.cell 1
      simp only [List.getElem?_cons_zero, List.getElem?_cons_succ] at s0 s1 s2 s3 t0 t1
      generalize (WY.alloc (.cells #[.int .i64 mm, .int .i64 sn] 31)).drew = WX at *
      exact bodyPost_ret (v := .tuple #[.agg #[.slice a0 n0 e0, .slice a1 n1 e1, .slice a2 n2 e2, .slice a3 n3 e3], .agg #[.int .i64 mm, .int .i64 sn], er]) (by simp [results, Tryz.results21, go_sem, s0, s1, s2, s3, t0, t1]) rfl ⟨_, _, _, rfl, HO2, ⟨_, _, _, _, _, _, _, _, _, _, _, _, rfl⟩, HBX.out⟩
def verR (r : Except (Nat × Nat) (CodeQ × Nat × Nat)) : Nat × Nat × Nat × Nat := match r with
  | .ok x => (x.2.1, x.2.2, 0, 0)
  | .error x => (0, 0, x.1, x.2)
def Asks (w : World) (err : Value) (c p : Nat) : Prop := ∀ W, Below w.heap.size w W → Calls Tryz.prog 22 #[err] W (fun e w' => e = .returned (.int .i64 c) ∧ w' = W) ∧ Calls Tryz.prog 23 #[err] W (fun e w' => e = .returned (.int .i64 p) ∧ Below W.heap.size W w')
theorem BadV.asks {w : World} {A : Nat → Addr} {m : Int} {x : Nat × Nat} {err : Value} (h : BadV w A x err) (hv : Vars w A m) : Asks w err x.1 x.2 := by
  intro W hb
  obtain ⟨x1, x2⟩ := x
  have hv' := hv.below hb
  rcases h.below hb with ⟨hx, fa, rfl, h1, h2⟩ | ⟨hx, rfl⟩ | ⟨hx, fa, rfl, h1, h2⟩ | ⟨hx, fa, rfl, h1, h2⟩
  · simp only at hx; subst hx
    exact ⟨number_code A m W hv' fa h2, place_fault A m fa _ W hv' h1⟩
  · injection hx with hx1 hx2; subst hx1 hx2
    exact ⟨number_sum A m W hv', place_bare A m _ W hv'⟩
  · simp only at hx; subst hx
    exact ⟨number_refer A m W hv' fa h2, place_fault A m fa _ W hv' h1⟩
  · simp only at hx; subst hx
    exact ⟨number_stack A m W hv' fa h2, place_fault A m fa _ W hv' h1⟩
theorem OverC.asks {w : World} {A : Nat → Addr} {m : Int} {r : Except (Nat × Nat) (CodeQ × Nat × Nat)} {v n err : Value} (h : OverC w A r v n err) (hv : Vars w A m) :
    ∃ a b c p : Nat, n = .agg #[.int .i64 a, .int .i64 b] ∧ Hid (verR r = (a, b, c, p)) ∧ Hid (Asks w err c p) := by
  cases r with
  | ok x =>
    obtain ⟨_, rfl, rfl⟩ := h
    exact ⟨_, _, 0, 0, rfl, hid rfl, hid (fun W hb => ⟨number_nil A m W (hv.below hb), place_nil W⟩)⟩
  | error x =>
    obtain ⟨rfl, h⟩ := h
    exact ⟨0, 0, x.1, x.2, rfl, hid rfl, hid (h.asks hv)⟩
set_option maxRecDepth 100000 in
set_option maxHeartbeats 16000000 in
theorem gVerify_any (s : ByteArray) (A : Nat → Addr) (m : Int) (w : World) (hv : Vars w A m) (ht : PowTab w) (hB : 20 ≤ w.heap.size) (hs : s.size ≤ maxLen) :
    Calls Tryz.prog 10 #[.string s] w fun e w' => ∃ a b c p : Nat, e = .returned (.tuple #[.agg #[.int .i64 a, .int .i64 b], .int .i64 c, .int .i64 p]) ∧ Hid (verR (lookedQ (bl s)) = (a, b, c, p)) ∧ Below w.heap.size w w' := by
  have HLO : Hid (∀ W, Below w.heap.size w W → Calls Tryz.prog 21 #[.string s] W _) := hid (fun W hb => lookOver_any s A m W (hv.below hb) (ht.low hb hB) (Nat.le_trans hB hb.size) hs)
  have HV := hid hv
  clear hv ht hB hs
  go_enter Tryz.func10, Tryz.ntmps10
  go_wp2_with fail
  refine calls_gen fun W hW => ?_
  have hbW : Below w.heap.size w W := by rw [hW]; exact (Below.refl _ _).alloc (Nat.le_refl _) _
  have HZW : Hid (BAt W w.heap.size [.int .i64 0, .int .i64 0] 31) := hid (by rw [hW]; exact Go.Deep.blk_alloc_new _ _)
  have HBW := hid hbW
  clear hW hbW
  refine (HLO.out W HBW.out).mono ?_
  rintro e w1 ⟨v, n, err, rfl, HC, ⟨a0, a1, a2, a3, n0, n1, n2, n3, e0, e1, e2, e3, rfl⟩, hb1⟩
  have HB1 : Hid (Below w.heap.size w w1) := hid (HBW.out.trans (hb1.mono HBW.out.size))
  have HZ1 := hid (HZW.out.below hb1)
  clear hb1 HZW HBW HLO
  obtain ⟨a, b, c, p, rfl, HR, HA⟩ := HC.out.asks (HV.out.below HB1.out)
  have hz1l := HZ1.out.lt
  clear HC
  go_upto_region 2 with fail
  refine wp_gen fun W2 hW2 => ?_
  have hb2 : Below w1.heap.size w1 W2 := by rw [hW2]; exact ((Below.refl _ _).alloc (Nat.le_refl _) _).alloc (by simp) _
  have HQ2 : Hid (BAt W2 (w1.heap.size + 1) [.int .i64 a, .int .i64 b] 31) := hid (by
    rw [hW2]; have := Go.Deep.blk_alloc_new (w1.alloc (.cells #[.slice a0 n0 e0, .slice a1 n1 e1, .slice a2 n2 e2, .slice a3 n3 e3] 58)) (.cells #[.int .i64 a, .int .i64 b] 31); rwa [Go.Deep.nblk_alloc] at this)
  have HB2 : Hid (Below w.heap.size w W2) := hid (HB1.out.trans (hb2.mono HB1.out.size))
  have HZ2 := hid (HZ1.out.below hb2)
  have HNU : Hid (Calls Tryz.prog 22 #[err] W2.drew _) := hid (HA.out W2.drew hb2.drew).1
  have HPL : Hid (Calls Tryz.prog 23 #[err] W2.drew _) := hid (HA.out W2.drew hb2.drew).2
  have hq2l := HQ2.out.lt
  have HZD := hid (HZ2.out.below ((Below.refl _ _).drew))
  have HQD := hid (HQ2.out.below ((Below.refl _ _).drew))
  have HBD := hid HB2.out.drew
  have r0 := HQD.out.cell 0
  have r1 := HQD.out.cell 1
  have r0' := HQ2.out.cell 0
  have r1' := HQ2.out.cell 1
  simp only [List.getElem?_cons_zero, List.getElem?_cons_succ] at r0 r1 r0' r1'
  have hne : ¬ w1.heap.size + 1 = w.heap.size := by omega
  have hne' : ¬ w.heap.size = w1.heap.size + 1 := by omega
  clear hW2 hb2 HA HZ1 HB1 HB2 HZ2 HQ2
  go_region_with (first
    | (go_at_call 22; refine HNU.out.mono ?_; rintro e wq ⟨rfl, rfl⟩)
    | (go_at_call 23
       refine HPL.out.mono ?_
       rintro e w5 ⟨rfl, hb5⟩
       have HB5 : Hid (Below w.heap.size w w5) := hid (HBD.out.trans (hb5.mono HBD.out.size))
       have HZ5 := hid (HZD.out.below hb5)
       have HQ5 := hid (HQD.out.below hb5)
       have p0 := HQ5.out.cell 0
       have p1 := HQ5.out.cell 1
       simp only [List.getElem?_cons_zero, List.getElem?_cons_succ] at p0 p1
       have z0 := HZ5.out.cell 0
       have z1 := HZ5.out.cell 1
       simp only [List.getElem?_cons_zero, List.getElem?_cons_succ] at z0 z1
       have f0 := HZ5.out.frozen 0
       have f1 := HZ5.out.frozen 1
       clear hb5))
  all_goals
    go_wp2
    change bodyPost _ _ _ _ _ (set2 w5 w.heap.size (.int .i64 a) (.int .i64 b))
    have st := set2_at HZ5.out (x := .int .i64 a) (y := .int .i64 b)
    have s0 := st.cell 0
    have s1 := st.cell 1
    simp only [List.getElem?_cons_zero, List.getElem?_cons_succ] at s0 s1
    have HBX := hid (set2_below (w0 := w) (a := w.heap.size) HB5.out (Nat.le_refl _) (.int .i64 a) (.int .i64 b))
    clear z0 z1 f0 f1 p0 p1
    generalize set2 w5 w.heap.size (.int .i64 a) (.int .i64 b) = WX at *
    exact bodyPost_ret (v := .tuple #[.agg #[.int .i64 a, .int .i64 b], .int .i64 c, .int .i64 p]) (by simp [results, Tryz.results10, go_sem, s0, s1]) rfl ⟨a, b, c, p, rfl, HR, HBX.out⟩
end Go.Proofs.YtkodhpilkaihjaaGreatDoor

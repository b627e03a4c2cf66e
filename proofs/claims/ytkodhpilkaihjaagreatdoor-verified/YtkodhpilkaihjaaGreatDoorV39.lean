/- Parts. -/
import Derived.Test.YtkodhpilkaihjaaGreatDoorV38
import Derived.Test.YtkodhpilkaihjaaGreatDoorV28
import Derived.Test.YtkodhpilkaihjaaGreatDoorV10
import Derived.Test.YtkodhpilkaihjaaGreatDoorV35
import Derived.Test.YtkodhpilkaihjaaGreatDoorV01
namespace Go.Proofs.YtkodhpilkaihjaaGreatDoor
open Go.RowKit LS
def RowKeep (bad : List TypeId) (w w' : World) : Prop := ∀ (b : Nat) (e : TypeId) (sz : Nat) (v : Value) (n : Nat) (xs : List Value), w.ownsRow b e sz v n xs → e ∉ bad → w'.ownsRow b e sz v n xs
theorem RowKeep.refl (bad : List TypeId) (w : World) : RowKeep bad w w := fun _ _ _ _ _ _ h _ => h
theorem RowKeep.trans {bad : List TypeId} {w w1 w2 : World} (h : RowKeep bad w w1) (h' : RowKeep bad w1 w2) : RowKeep bad w w2 := fun b e sz v n xs ho he => h' b e sz v n xs (h b e sz v n xs ho he) he
theorem RowKeep.below (bad : List TypeId) {w w' : World} (h : Below w.heap.size w w') : RowKeep bad w w' := fun _ _ _ _ _ _ ho _ => own_below ho h
theorem RowKeep.grown {bad : List TypeId} {w w' : World} {b : Nat} {e : TypeId} {sz : Nat} {v : Value} {n : Nat} {xs : List Value} (ho : w.ownsRow b e sz v n xs) (hg : w.grownBy w' v.ownBlock) (he : e ∈ bad) : RowKeep bad w w' := fun b2 e2 s2 v2 n2 xs2 h2 he2 => own_same h2 (fun k hk => hg.block k (h2.lt k hk).2 (fun e3 => by
  have hne : e2 ≠ e := fun e4 => he2 (by rw [e4]; exact he)
  rcases own_ne h2 ho hne with h5 | h5
  · rw [h5] at hk; cases hk
  · exact h5 (by rw [hk]; exact e3)))
theorem RowKeep.set {bad : List TypeId} {w : World} {a : Nat} {c : List Value} {t : TypeId} (hb : BAt w a c t) (ht : t ∈ bad) (i : Nat) (x : Value) : RowKeep bad w (w.setCell ⟨a, i, none⟩ x) := fun b2 e2 s2 v2 n2 xs2 h2 he2 => own_same h2 (fun k hk => Go.Deep.blk_setCell_other _ _ _ _ (by
  rintro rfl
  exact own_ne_block h2 hb (fun e4 => he2 (by rw [← e4]; exact ht)) hk.symm))
theorem below_ownR {w0 w w' : World} {v : Value} {e : TypeId} {sz n : Nat} {xs : List Value} (h : Below w0.heap.size w0 w) (ho : w.ownsRow w0.heap.size e sz v n xs) (hg : w.grownBy w' v.ownBlock) : Below w0.heap.size w0 w' := by
  refine ⟨hg.os.trans h.os, hg.tape.trans h.tape, hg.output.trans h.output, Nat.le_trans h.size hg.size, ?_⟩
  intro j hj
  rw [hg.block j (Nat.lt_of_lt_of_le hj h.size) (fun e => by have := (ho.lt j e.symm).1; omega), h.block j hj]
theorem BAt.ownGrownR {w w' : World} {a : Nat} {c : List Value} {t : TypeId} (h : BAt w a c t) {base : Nat} {e : TypeId} {sz : Nat} {v : Value} {n : Nat} {xs : List Value} (ho : w.ownsRow base e sz v n xs) (hg : w.grownBy w' v.ownBlock) (ht : t ≠ e) : BAt w' a c t :=
  (hg.block a h.lt (own_ne_block ho h ht)).trans h
structure RBase (w : World) (c : CodeQ) (cv pv gv : Value) (l : List PV) (g : List (Option Addr × Nat × Nat)) : Prop where
  cs : w.ownsRow 0 2 1 cv c.consts.length (c.consts.map (.int .i64))
  ps : w.ownsRow 0 92 8 pv c.picks.length (flatPV l)
  pl : l.length = c.picks.length
  pk : ∀ (i : Nat) (x : Nd × Nat) (p : PV), c.picks[i]? = some x → l[i]? = some p → PkOk w x p
  gs : w.ownsRow 0 90 1 gv c.groups.length (g.map fun y => .slice y.1 y.2.1 y.2.2)
  gl : g.length = c.groups.length
  gk : ∀ (i : Nat) (x : List (List UInt8)) (y : Option Addr × Nat × Nat), c.groups[i]? = some x → g[i]? = some y → ∃ bs : List ByteArray, w.ownsRow 0 9 1 (.slice y.1 y.2.1 y.2.2) bs.length (bs.map .string) ∧ bs.map bl = x
theorem PkOk.keep {bad : List TypeId} {w w' : World} {x : Nd × Nat} {p : PV} (h : PkOk w x p) (hk : RowKeep bad w w') (h1 : 372 ∉ bad) : PkOk w' x p := ⟨h.k, h.n, h.nm, by
  obtain ⟨qs, h2, h3⟩ := h.cs
  exact ⟨qs, hk _ _ _ _ _ _ h2 h1, h3⟩⟩
theorem RBase.keep {w w' : World} {c : CodeQ} {cv pv gv : Value} {l : List PV} {g : List (Option Addr × Nat × Nat)} (h : RBase w c cv pv gv l g) (hk : RowKeep [136, 101] w w') : RBase w' c cv pv gv l g :=
  ⟨hk _ _ _ _ _ _ h.cs (by decide), hk _ _ _ _ _ _ h.ps (by decide), h.pl, fun i x p h1 h2 => (h.pk i x p h1 h2).keep hk (by decide), hk _ _ _ _ _ _ h.gs (by decide), h.gl, fun i x y h1 h2 => by
    obtain ⟨bs, h3, h4⟩ := h.gk i x y h1 h2
    exact ⟨bs, hk _ _ _ _ _ _ h3 (by decide), h4⟩⟩
theorem RBase.code {w : World} {cs : List Int} {ps : List (Nd × Nat)} {gs : List (List (List UInt8))} {cv pv gv iv : Value} {l : List PV} {g : List (Option Addr × Nat × Nat)} {cb : Nat} {is : List (Nat × Nat)} (h : RBase w ⟨cs, ps, gs, []⟩ cv pv gv l g) (hb : BAt w cb [cv, pv, gv, iv] 101) (hi : w.ownsRow 0 136 2 iv is.length (flatI is)) : RCode w cb ⟨cs, ps, gs, is⟩ cv pv gv iv l g :=
  ⟨hb, h.cs, h.ps, h.pl, h.pk, h.gs, h.gl, h.gk, hi⟩
def restQ (l : List UInt8) (cs : List Int) (ps : List (Nd × Nat)) (gs : List (List (List UInt8))) (p n : Nat) : Except (Nat × Nat) CodeQ := match many (insAt l) p n with
  | .error e => .error e
  | .ok is => if l.length < is.2 + 4 then .error (9, l.length) else if is.2 + 4 < l.length then .error (9, is.2 + 4) else
    if back (l.drop is.2) ≠ sumQ (l.take is.2) then .error (10, 0) else .ok ⟨cs, ps, gs, is.1⟩
theorem sub_one {l : List UInt8} {p : Nat} (h : p < l.length) : sub l p 1 = [l[p]] := by
  unfold sub; rw [List.drop_eq_getElem_cons h]; rfl
theorem back_one (c : UInt8) : back [c] = c.toNat := by simp [back]
theorem num_one {l : List UInt8} {p : Nat} (h : p < l.length) : numAt l p 1 = .ok ((l[p]).toNat, p + 1) := by
  unfold numAt textN; rw [if_neg (by omega)]; simp only; rw [sub_one h, back_one]
theorem ins_short {l : List UInt8} {p : Nat} (h : l.length < p + 1) : insAt l p = .error (9, l.length) := by
  unfold insAt numAt textN; rw [if_pos h]
theorem ins_big {l : List UInt8} {p : Nat} (h : p < l.length) (hb : 13 < (l[p]).toNat) : insAt l p = .error (9, p) := by
  unfold insAt; rw [num_one h]; simp only; rw [if_pos hb]
theorem ins_cut {l : List UInt8} {p : Nat} (h : p < l.length) (hb : ¬ 13 < (l[p]).toNat) (h3 : l.length < p + 3) : insAt l p = .error (9, l.length) := by
  unfold insAt; rw [num_one h]; simp only; rw [if_neg hb]
  unfold numAt textN; rw [if_pos (by omega)]
theorem ins_ok {l : List UInt8} {p : Nat} (h : p < l.length) (hb : ¬ 13 < (l[p]).toNat) (h3 : ¬ l.length < p + 3) : insAt l p = .ok (((l[p]).toNat, back (sub l (p + 1) 2)), p + 3) := by
  unfold insAt; rw [num_one h]; simp only; rw [if_neg hb]
  unfold numAt textN; rw [if_neg (by omega)]
theorem sub_bl (s : ByteArray) (p n : Nat) : bl (s.extract p (p + n)) = sub (bl s) p n := by
  rw [bl_extract, List.drop_take]; unfold sub; congr 1; omega
theorem sealed_iff {l : List UInt8} {p : Nat} (h : p + 4 = l.length) : l.take p ++ digL (sumQ (l.take p)) 4 = l ↔ back (l.drop p) = sumQ (l.take p) := by
  have hd : (l.drop p).length = 4 := by rw [List.length_drop]; omega
  constructor
  · intro e
    have h1 : l.take p ++ digL (sumQ (l.take p)) 4 = l.take p ++ l.drop p := by rw [e, List.take_append_drop]
    have h2 := List.append_cancel_left h1
    rw [← h2]
    exact back_digL 4 _ (sumQ_lt _)
  · intro e
    rw [← e]
    have := digL_back (l.drop p)
    rw [hd] at this
    rw [this, List.take_append_drop]
def RestR (w : World) (r : Except (Nat × Nat) CodeQ) (v : Value) (c p : Nat) : Prop := match r with
  | .error x => v = .pointer none ∧ c = x.1 ∧ p = x.2 ∧ c ≠ 0
  | .ok code => c = 0 ∧ p = 0 ∧ ∃ (cb : Nat) (cv pv gv iv : Value) (l : List PV) (g : List (Option Addr × Nat × Nat)), v = .pointer (some ⟨cb, 0, none⟩) ∧ RCode w cb code cv pv gv iv l g ∧ code.ins.length ≤ 65535 ∧ ∀ x ∈ code.ins, x.1 ≤ 13 ∧ x.2 < 65536
theorem RestR.mkErr {w : World} {r : Except (Nat × Nat) CodeQ} {c p : Nat} (h : r = .error (c, p)) (h0 : c ≠ 0) : RestR w r (.pointer none) c p := by subst h; exact ⟨rfl, rfl, rfl, h0⟩
theorem RestR.mkOk {w : World} {r : Except (Nat × Nat) CodeQ} {code : CodeQ} {cb : Nat} {cv pv gv iv : Value} {l : List PV} {g : List (Option Addr × Nat × Nat)} (h : r = .ok code) (hc : RCode w cb code cv pv gv iv l g) (hl : code.ins.length ≤ 65535) (ho : ∀ x ∈ code.ins, x.1 ≤ 13 ∧ x.2 < 65536) : RestR w r (.pointer (some ⟨cb, 0, none⟩)) 0 0 := by subst h; exact ⟨rfl, rfl, cb, cv, pv, gv, iv, l, g, rfl, hc, hl, ho⟩
theorem Tryz.infoInsR : (Tryz.prog.info? 136).map (fun i => (i.zero, i.size, i.bytes)) = some (some (.agg #[.int .i64 0, .int .i64 0]), 2, 16) := by kernel_rfl
structure RestI (w0 wr : World) (cb : Nat) (cs : List Int) (ps : List (Nd × Nat)) (gs : List (List (List UInt8))) (is : List (Nat × Nat)) (cv pv gv : Value) (ia : Option Addr) (n ic : Nat) (l : List PV) (g : List (Option Addr × Nat × Nat)) : Prop where
  base : RBase wr ⟨cs, ps, gs, []⟩ cv pv gv l g
  box : BAt wr cb [cv, pv, gv, .slice ia n ic] 101
  own : wr.ownsRow w0.heap.size 136 2 (.slice ia n ic) n (flatI is)
  bel : Below w0.heap.size w0 wr
  op : ∀ x ∈ is, x.1 ≤ 13 ∧ x.2 < 65536
theorem RestI.app {w0 wr w1 : World} {cb : Nat} {cs : List Int} {ps : List (Nd × Nat)} {gs : List (List (List UInt8))} {is : List (Nat × Nat)} {cv pv gv : Value} {ia : Option Addr} {n ic : Nat} {l : List PV} {g : List (Option Addr × Nat × Nat)} (h : RestI w0 wr cb cs ps gs is cv pv gv ia n ic l g) (hcb : w0.heap.size ≤ cb) {ga nc op arg : Nat}
    (hg : wr.grownBy w1 (Value.slice ia n ic).ownBlock) (ho : w1.ownsRow w0.heap.size 136 2 (.slice (some ⟨ga, 0, none⟩) (n + 1) nc) (n + 1) (flatI is ++ [.int .i64 op, .int .i64 arg])) (h1 : op ≤ 13) (h2 : arg < 65536) :
    RestI w0 (w1.setCell ⟨cb, 3, none⟩ (.slice (some ⟨ga, 0, none⟩) (n + 1) nc)) cb cs ps gs (is ++ [(op, arg)]) cv pv gv (some ⟨ga, 0, none⟩) (n + 1) nc l g := by
  have hk1 : RowKeep [136, 101] wr w1 := RowKeep.grown h.own hg (by decide)
  have hb1 : BAt w1 cb [cv, pv, gv, .slice ia n ic] 101 := h.box.ownGrownR h.own hg (by decide)
  have hk2 : RowKeep [136, 101] w1 (w1.setCell ⟨cb, 3, none⟩ (.slice (some ⟨ga, 0, none⟩) (n + 1) nc)) := RowKeep.set hb1 (by decide) _ _
  refine ⟨h.base.keep (hk1.trans hk2), hb1.setkM 3 _, ?_, ?_, fun x hx => ?_⟩
  · rw [flatI_append]
    exact own_same ho (fun k hk => Go.Deep.blk_setCell_other _ _ _ _ (by
      rintro rfl
      exact own_ne_block ho hb1 (by decide) hk.symm))
  · exact Below.setCell (p := ⟨cb, 3, none⟩) (below_ownR h.bel h.own hg) hcb _
  · rcases List.mem_append.1 hx with hx | hx
    · exact h.op x hx
    · rw [List.mem_singleton] at hx; subst hx; exact ⟨h1, h2⟩
theorem RestI.below {w0 wr w1 : World} {cb : Nat} {cs : List Int} {ps : List (Nd × Nat)} {gs : List (List (List UInt8))} {is : List (Nat × Nat)} {cv pv gv : Value} {ia : Option Addr} {n ic : Nat} {l : List PV} {g : List (Option Addr × Nat × Nat)} (h : RestI w0 wr cb cs ps gs is cv pv gv ia n ic l g) (hb : Below wr.heap.size wr w1) : RestI w0 w1 cb cs ps gs is cv pv gv ia n ic l g :=
  ⟨h.base.keep (RowKeep.below _ hb), h.box.below hb, own_below h.own hb, h.bel.trans (hb.mono h.bel.size), h.op⟩
set_option maxRecDepth 100000 in
set_option maxHeartbeats 32000000 in
theorem rest_any (w0 w : World) (s : ByteArray) (p0 n cb : Nat) (cs : List Int) (ps : List (Nd × Nat)) (gs : List (List (List UInt8))) (cv pv gv : Value) (l : List PV) (g : List (Option Addr × Nat × Nat)) (h : RestI w0 w cb cs ps gs [] cv pv gv none 0 0 l g) (hcb : w0.heap.size ≤ cb) (hs : s.size ≤ maxLen) (hp0 : p0 ≤ s.size) (hpb : p0 ≤ 10000000000) (hn : n ≤ 65535) :
    Calls Tryz.prog 52 #[.pointer (some ⟨cb, 0, none⟩), .string s, .int .i64 p0, .int .i64 n] w fun e w' => ∃ (v : Value) (c p : Nat), e = .returned (.tuple #[v, .int .i64 c, .int .i64 p]) ∧ Hid (RestR w' (restQ (bl s) cs ps gs p0 n) v c p) ∧ Below w0.heap.size w0 w' := by
  have HI0 := hid h
  have hsz : s.size ≤ 9223372036854775807 := by unfold maxLen at hs; omega
  obtain ⟨i0, hi, hz0, hz1, hz2⟩ := info_parts Tryz.infoInsR
  have HCB := hid hcb
  have HBE : Hid (∀ k x, many (insAt (bl s)) p0 k = .error x → k ≤ n → restQ (bl s) cs ps gs p0 n = .error x) := hid (fun k x he hk => by
    unfold restQ; rw [many_err he n hk])
  clear h hs
  go_enter Tryz.func52, Tryz.ntmps52
  go_wp2
  go_loopw [2, 11] (fun av iv wr => ∃ (k p : Nat) (is : List (Nat × Nat)) (ia : Option Addr) (ic : Nat), k ≤ n ∧ iv = .int .i64 k ∧ av = .int .i64 p ∧ p ≤ s.size ∧ p ≤ p0 + 3 * k ∧ Hid (many (insAt (bl s)) p0 k = .ok (is, p)) ∧ Hid (RestI w0 wr cb cs ps gs is cv pv gv ia k ic l g)) (fun _ iv _ => n - (intOf iv).toNat)
  case atStart => exact ⟨0, p0, [], none, 0, Nat.zero_le _, rfl, rfl, hp0, Nat.le_refl _, hid rfl, HI0⟩
  case round =>
    clear HI0
    obtain ⟨k, p, is, ia, ic, hk, rfl, rfl, hp, hpk, HM, HI⟩ := hrel
    by_cases hlt : k < n
    · by_cases hin : p < s.size
      · have hpb : p < (bl s).length := by rw [bl_length]; exact hin
        have hget : (bl s)[p] = s[p] := bl_get s p hin
        by_cases hbig : 13 < s[p].toNat
        · have HE : Hid (restQ (bl s) cs ps gs p0 n = .error (9, p)) := hid (HBE.out (k + 1) (9, p) (many_step_err HM.out (ins_big hpb (by rw [hget]; exact hbig)) _ (Nat.lt_succ_self k)) (by omega))
          have hbI : (13 : Int) < (s[p].toNat : Int) := by omega
          clear hget
          go_wp2
          go_ret3
          exact ⟨_, 9, p, rfl, hid (RestR.mkErr HE.out (by decide)), HI.out.bel⟩
        · have hbI : ¬ (13 : Int) < (s[p].toNat : Int) := by omega
          by_cases h3 : s.size < p + 3
          · have HE : Hid (restQ (bl s) cs ps gs p0 n = .error (9, s.size)) := hid (HBE.out (k + 1) (9, s.size) (many_step_err HM.out (by rw [ins_cut hpb (by rw [hget]; exact hbig) (by rw [bl_length]; exact h3), bl_length]) _ (Nat.lt_succ_self k)) (by omega))
            clear hget
            go_wp2
            go_ret3
            exact ⟨_, 9, s.size, rfl, hid (RestR.mkErr HE.out (by decide)), HI.out.bel⟩
          · have HM2 : Hid (many (insAt (bl s)) p0 (k + 1) = .ok (is ++ [(s[p].toNat, back (sub (bl s) (p + 1) 2))], p + 3)) := hid (many_step_ok HM.out (by rw [ins_ok hpb (by rw [hget]; exact hbig) (by rw [bl_length]; exact h3), hget]))
            have HAR : Hid (back (sub (bl s) (p + 1) 2) < 65536) := hid (back_lt_of (n := 2) (by unfold sub; rw [List.length_take]; omega))
            obtain ⟨arg, harg⟩ : ∃ arg, arg = back (sub (bl s) (p + 1) 2) := ⟨_, rfl⟩
            rw [← harg] at HM2
            rw [← harg] at HAR
            have HARG := hid harg
            have hle3 : p + 3 ≤ s.size := by omega
            have hop13 : s[p].toNat ≤ 13 := by omega
            clear hget harg HM hbig
            have b3 := HI.out.box.cell 3
            simp only [List.getElem?_cons_zero, List.getElem?_cons_succ] at b3
            have hbl := HI.out.box.lt
            have wr1 : IntKind.i64.wrap ((p : Int) + 1) = (p : Int) + 1 := by rw [IntKind.wrap_i64]; omega
            have wr3 : IntKind.i64.wrap ((p : Int) + 3) = (p : Int) + 3 := by rw [IntKind.wrap_i64]; omega
            have wo : IntKind.i64.wrap (s[p].toNat : Int) = (s[p].toNat : Int) := by rw [IntKind.wrap_i64]; omega
            have nn1 : (0 : Int) ≤ (p : Int) + 1 := by omega
            have nn3 : (0 : Int) ≤ (p : Int) + 3 := by omega
            have tn3 : ((p : Int) + 3).toNat = p + 3 := by omega
            have HOW : Hid (∀ o, (wr.drew.alloc o).ownsRow w0.heap.size 136 2 (.slice ia k ic) k (flatI is)) := hid (fun o => HI.out.own.drew.alloc o)
            have HIW : Hid (∀ o, RestI w0 (wr.drew.alloc o) cb cs ps gs is cv pv gv ia k ic l g) := hid (fun o => HI.out.below (((Below.refl _ _).drew).alloc (Nat.le_refl _) _))
            have hS0 : wr.drew.cell? ⟨cb, 3, none⟩ = some (.slice ia k ic) := b3
            have HSA : Hid (∀ o, (wr.drew.alloc o).cell? ⟨cb, 3, none⟩ = some (.slice ia k ic)) := hid (fun o => (HIW.out o).box.cell 3)
            have HBN : Hid (∀ o, (wr.drew.alloc o).heap[wr.heap.size]? = some o) := hid (fun o => Go.Deep.blk_alloc_new wr.drew o)
            go_upto_region 8 with fail
            clear b3 h3
            refine beginT 21 (fun w' => w'.cell? ⟨cb, 3, none⟩ = some (.slice ia k ic)) (by kernel_rfl) (by exact hS0) (fun hHeld => ?_)
            clear hS0
            refine takeT (i := 0) (d := 36) (v := ?v0) rfl rfl (by kernel_rfl) (fun _ _ _ h => h) (Or.inl ⟨by rfl, ?hy0⟩) hHeld ?rs0
            case hy0 => (intro w hSw; go_simp; try with_reducible rfl)
            case rs0 =>
            try simp only [List.setIfInBounds_toArray, List.set_cons_zero, List.set_cons_succ]
            refine takeT (i := 1) (d := 37) (v := ?v1) rfl rfl (by kernel_rfl) (fun _ _ _ h => h) (Or.inl ⟨by rfl, ?hy1⟩) hHeld ?rs1
            case hy1 => (intro w hSw; go_simp; try with_reducible rfl)
            case rs1 =>
            try simp only [List.setIfInBounds_toArray, List.set_cons_zero, List.set_cons_succ]
            refine takeT (i := 2) (d := 38) (v := ?v2) rfl rfl (by kernel_rfl) (fun _ _ _ h => h) (Or.inl ⟨by rfl, ?hy2⟩) hHeld ?rs2
            case hy2 => (intro w hSw; go_simp; try with_reducible rfl)
            case rs2 =>
            try simp only [List.setIfInBounds_toArray, List.set_cons_zero, List.set_cons_succ]
            refine takeT (i := 3) (d := 39) (v := ?v3) rfl rfl (by kernel_rfl) (fun _ _ _ h => h) (Or.inl ⟨by rfl, ?hy3⟩) hHeld ?rs3
            case hy3 => (intro w hSw; go_simp; try with_reducible rfl)
            case rs3 =>
            try simp only [List.setIfInBounds_toArray, List.set_cons_zero, List.set_cons_succ]
            refine takeT (i := 4) (d := 40) (v := ?v4) rfl rfl (by kernel_rfl) (fun _ _ _ h => h) (Or.inl ⟨by rfl, ?hy4⟩) hHeld ?rs4
            case hy4 => (intro w hSw; go_simp; try with_reducible rfl)
            case rs4 =>
            try simp only [List.setIfInBounds_toArray, List.set_cons_zero, List.set_cons_succ]
            refine takeT (i := 5) (d := 41) (v := ?v5) rfl rfl (by kernel_rfl) (fun _ _ _ h => h) (Or.inl ⟨by rfl, ?hy5⟩) hHeld ?rs5
            case hy5 => (intro w hSw; go_simp; try with_reducible rfl)
            case rs5 =>
            try simp only [List.setIfInBounds_toArray, List.set_cons_zero, List.set_cons_succ]
            refine takeT (i := 6) (d := 42) (v := ?v6) rfl rfl (by kernel_rfl) (fun _ _ _ h => h) (Or.inl ⟨by rfl, ?hy6⟩) hHeld ?rs6
            case hy6 => (intro w hSw; go_simp; try with_reducible rfl)
            case rs6 =>
            try simp only [List.setIfInBounds_toArray, List.set_cons_zero, List.set_cons_succ]
            refine takeT (i := 7) (d := 43) (v := ?v7) rfl rfl (by kernel_rfl) (fun _ _ _ h => h) (Or.inl ⟨by rfl, ?hy7⟩) hHeld ?rs7
            case hy7 => (intro w hSw; go_simp; try with_reducible rfl)
            case rs7 =>
            try simp only [List.setIfInBounds_toArray, List.set_cons_zero, List.set_cons_succ]
            refine takeT (i := 8) (d := 44) (v := ?v8) rfl rfl (by kernel_rfl) (fun _ _ _ h => h) (Or.inl ⟨by rfl, ?hy8⟩) hHeld ?rs8
            case hy8 => (intro w hSw; go_simp; try with_reducible rfl)
            case rs8 =>
            try simp only [List.setIfInBounds_toArray, List.set_cons_zero, List.set_cons_succ]
            refine takeT (i := 9) (d := 45) (v := ?v9) rfl rfl (by kernel_rfl) (fun _ _ _ h => h) (Or.inl ⟨by rfl, ?hy9⟩) hHeld ?rs9
            case hy9 => (intro w hSw; go_simp; try with_reducible rfl)
            case rs9 =>
            try simp only [List.setIfInBounds_toArray, List.set_cons_zero, List.set_cons_succ]
            refine takeT (i := 10) (d := 46) (v := ?v10) rfl rfl (by kernel_rfl) (fun _ _ _ h => h) (Or.inl ⟨by rfl, ?hy10⟩) hHeld ?rs10
            case hy10 => (intro w hSw; go_simp; try with_reducible rfl)
            case rs10 =>
            try simp only [List.setIfInBounds_toArray, List.set_cons_zero, List.set_cons_succ]
            refine takeT (i := 11) (d := 47) (v := ?v11) rfl rfl (by kernel_rfl) (fun _ _ _ h => h) (Or.inl ⟨by rfl, ?hy11⟩) hHeld ?rs11
            case hy11 => (intro w hSw; go_simp; try with_reducible rfl)
            case rs11 =>
            try simp only [List.setIfInBounds_toArray, List.set_cons_zero, List.set_cons_succ]
            refine takeT (i := 12) (d := 48) (v := ?v12) rfl rfl (by kernel_rfl) (fun _ _ _ h => h) (Or.inl ⟨by rfl, ?hy12⟩) hHeld ?rs12
            case hy12 => (intro w hSw; go_simp; try with_reducible rfl)
            case rs12 =>
            try simp only [List.setIfInBounds_toArray, List.set_cons_zero, List.set_cons_succ]
            refine takeT (i := 13) (d := 49) (v := ?v13) rfl rfl (by kernel_rfl) (fun _ _ _ h => h) (Or.inl ⟨by rfl, ?hy13⟩) hHeld ?rs13
            case hy13 => (intro w hSw; go_simp; try with_reducible rfl)
            case rs13 =>
            try simp only [List.setIfInBounds_toArray, List.set_cons_zero, List.set_cons_succ]
            refine takeT (i := 14) (d := 50) (v := ?v14) rfl rfl (by kernel_rfl) (fun _ _ _ h => h) (Or.inl ⟨by rfl, ?hy14⟩) hHeld ?rs14
            case hy14 => (intro w hSw; go_simp; try with_reducible rfl)
            case rs14 =>
            try simp only [List.setIfInBounds_toArray, List.set_cons_zero, List.set_cons_succ]
            refine stepT (i := 15) (by kernel_rfl) rfl (fun K hK => ?_)
            go_simp
            refine (rBack_any _ _ (by rw [ByteArray.size_extract]; omega)).mono ?_
            rintro e w1 ⟨rfl, rfl⟩
            rw [show s.extract (p + 1) (p + 3) = s.extract (p + 1) (p + 1 + 2) from rfl, sub_bl s (p + 1) 2, ← HARG.out]
            go_simp
            refine hK.out _ _ hHeld (fun hHeld => ?_)
            clear hK K
            try simp only [Act.put, List.setIfInBounds_toArray, List.set_cons_zero, List.set_cons_succ]
            refine takeT (i := 16) (d := 52) (v := ?v16) rfl rfl (by kernel_rfl) (fun _ _ _ h => h) (Or.inl ⟨by rfl, ?hy16⟩) hHeld ?rs16
            case hy16 => (intro w hSw; go_simp; try with_reducible rfl)
            case rs16 =>
            try simp only [List.setIfInBounds_toArray, List.set_cons_zero, List.set_cons_succ]
            refine stepT (i := 17) (by kernel_rfl) rfl (fun K hK => ?_)
            go_simp
            refine hK.out _ _ (HSA.out _) (fun hHeld => ?_)
            clear hK K
            try simp only [Act.put, List.setIfInBounds_toArray, List.set_cons_zero, List.set_cons_succ]
            refine stepT (i := 18) (by kernel_rfl) rfl (fun K hK => ?_)
            refine step_append_own rfl (.tmp 40) (.tmp 53) 99 rfl w0.heap.size 136 i0 _ 2 16 Tryz.underlying99 hi hz0 hz1 hz2 rfl (by decide) (.slice ia k ic) k (flatI is) (by simp [Act.eval]) (by exact HOW.out _) ⟨wr.heap.size, 0, none⟩ 1 1 [.int .i64 s[p].toNat, .int .i64 arg] (by simp [Act.eval]) rfl ?h2 ?h3 ?h4 ?h5 ?h6 ?_
            case h2 => first | exact cells_new (HBN.out _) | exact cells_new rfl | exact cells_two (by simp; exact wo) (by simp)
            case h3 => intro u hu; simp at hu; rcases hu with rfl | rfl <;> rfl
            case h4 => unfold maxLen; omega
            case h5 => omega
            case h6 => simp; omega
            intro v1 w1 hown1 hgrow1 _
            obtain ⟨g1, cp1, hv1⟩ := own_some hown1 (by omega)
            subst hv1
            have HN : Hid (RestI w0 (w1.setCell ⟨cb, 3, none⟩ (.slice (some ⟨g1, 0, none⟩) (k + 1) cp1)) cb cs ps gs (is ++ [(s[p].toNat, arg)]) cv pv gv (some ⟨g1, 0, none⟩) (k + 1) cp1 l g) := hid ((HIW.out _).app HCB.out (by exact hgrow1) hown1 hop13 HAR.out)
            have hv9 : BAt w1 cb [cv, pv, gv, .slice ia k ic] 101 := (HIW.out _).box.ownGrownR (HOW.out _) hgrow1 (by decide)
            have HV9 := hid hv9
            have hS1 : w1.cell? ⟨cb, 3, none⟩ = some (.slice ia k ic) := hv9.cell 3
            refine hK.out _ _ hS1 (fun hHeld => ?_)
            clear hK K
            try simp only [Act.put, List.setIfInBounds_toArray]
            refine takeT (i := 19) (d := 55) (v := ?v19) rfl rfl (by kernel_rfl) (fun _ _ _ h => h) (Or.inl ⟨by rfl, ?hy19⟩) hHeld ?rs19
            case hy19 => (intro w hSw; go_simp; try with_reducible rfl)
            case rs19 =>
            refine takeT (i := 20) (d := 56) (v := ?v20) rfl rfl (by kernel_rfl) (fun _ _ _ h => h) (Or.inl ⟨by rfl, ?hy20⟩) hHeld ?rs20
            case hy20 => (intro w hSw; go_simp; try with_reducible rfl)
            case rs20 =>
            refine lastT (by kernel_rfl) (by kernel_rfl) rfl (by kernel_rfl) (fun K hK => ?_)
            have yf := HV9.out.frozen 3
            clear hown1 hgrow1 hv9
            go_simp
            refine hK.out _ _ ?_
            clear hK K hS1 yf
            go_wp2
            go_roundw
            case rel => exact ⟨k + 1, p + 3, _, _, _, by omega, by go_num, by go_num, by omega, by omega, HM2, HN⟩
            case measure => simp [intOf]; omega
      · have HE : Hid (restQ (bl s) cs ps gs p0 n = .error (9, s.size)) := hid (HBE.out (k + 1) (9, s.size) (many_step_err HM.out (by rw [ins_short (by rw [bl_length]; omega), bl_length]) _ (Nat.lt_succ_self k)) (by omega))
        have h3 : s.size < p + 3 := by omega
        go_wp2
        go_ret3
        exact ⟨_, 9, s.size, rfl, hid (RestR.mkErr HE.out (by decide)), HI.out.bel⟩
    · obtain rfl : n = k := by omega
      have HLN : Hid (is.length = n) := hid (many_len HM.out)
      have HRQ : Hid (restQ (bl s) cs ps gs p0 n = if s.size < p + 4 then .error (9, s.size) else if p + 4 < s.size then .error (9, p + 4) else
        if back ((bl s).drop p) ≠ sumQ ((bl s).take p) then .error (10, 0) else .ok ⟨cs, ps, gs, is⟩) := hid (by
        unfold restQ; rw [HM.out]; simp only; rw [bl_length])
      by_cases h4 : s.size < p + 4
      · have HE := hid (HRQ.out.trans (if_pos h4))
        go_wp2
        go_ret3
        exact ⟨_, 9, s.size, rfl, hid (RestR.mkErr HE.out (by decide)), HI.out.bel⟩
      · by_cases h5 : p + 4 < s.size
        · have HE := hid (HRQ.out.trans ((if_neg h4).trans (if_pos h5)))
          go_wp2
          go_ret3
          exact ⟨_, 9, p + 4, by first | rfl | go_num, hid (RestR.mkErr HE.out (by decide)), HI.out.bel⟩
        · have he4 : p + 4 = s.size := by omega
          have HE4 := hid he4
          clear he4
          go_wp2_with fail
          refine (rSealed_any _ wr (by rw [ByteArray.size_extract]; omega)).mono ?_
          rintro e w2 ⟨r, rfl, HR, hb2⟩
          have HI2 := hid (HI.out.below hb2)
          have HSL : Hid (r = s ↔ back ((bl s).drop p) = sumQ ((bl s).take p)) := hid (by
            rw [← sealed_iff (by rw [bl_length]; exact HE4.out), ← pre_bl, ← HR.out]
            exact ⟨fun e => by rw [e], fun e => bl_inj e⟩)
          clear hb2 HR
          by_cases hrs : r = s
          · have HE := hid (HRQ.out.trans ((if_neg h4).trans ((if_neg h5).trans (if_neg (fun h => h (HSL.out.1 hrs))))))
            subst hrs
            have HRC := hid (HI2.out.base.code (is := is) HI2.out.box (by rw [HLN.out]; exact own_zero HI2.out.own))
            have HFIN := hid (RestR.mkOk HE.out HRC.out (by rw [HLN.out]; exact hn) HI2.out.op)
            go_wp2
            go_ret3
            exact ⟨_, 0, 0, rfl, HFIN, HI2.out.bel⟩
          · have HE := hid (HRQ.out.trans ((if_neg h4).trans ((if_neg h5).trans (if_pos (fun h => hrs (HSL.out.2 h))))))
            have e1 : (r.toList == s.toList) = false := (bl_beqV r s).trans (decide_eq_false hrs)
            have e2 : (r.toList != s.toList) = true := by rw [bne, e1]; rfl
            clear hrs HSL
            go_wp2
            go_ret3
            exact ⟨_, 10, 0, rfl, hid (RestR.mkErr HE.out (by decide)), HI2.out.bel⟩
def okTo (bs : List ByteArray) (i k : Nat) : Bool := isName (bl (bs.getD i ⟨#[]⟩)) && (List.range k).all fun j => decide (bs.getD j ⟨#[]⟩ ≠ bs.getD i ⟨#[]⟩)
theorem okTo_zero (bs : List ByteArray) (i : Nat) : okTo bs i 0 = isName (bl (bs.getD i ⟨#[]⟩)) := by simp [okTo]
theorem okTo_succ (bs : List ByteArray) (i k : Nat) : okTo bs i (k + 1) = (okTo bs i k && decide (bs.getD k ⟨#[]⟩ ≠ bs.getD i ⟨#[]⟩)) := by
  unfold okTo; rw [List.range_succ, List.all_append]; simp [Bool.and_assoc]
theorem okTo_name {bs : List ByteArray} {i k : Nat} (h : okTo bs i k = true) : isName (bl (bs.getD i ⟨#[]⟩)) = true := by
  unfold okTo at h; rw [Bool.and_eq_true] at h; exact h.1
theorem okTo_ne {bs : List ByteArray} {i k j : Nat} (h : okTo bs i k = true) (hj : j < k) : bs.getD j ⟨#[]⟩ ≠ bs.getD i ⟨#[]⟩ := by
  unfold okTo at h; rw [Bool.and_eq_true] at h
  exact of_decide_eq_true (List.all_eq_true.1 h.2 j (List.mem_range.2 hj))
theorem getD_bs {bs : List ByteArray} {i : Nat} (h : i < bs.length) : bs.getD i ⟨#[]⟩ = bs[i] := by
  rw [List.getD_eq_getElem?_getD, List.getElem?_eq_getElem h]; rfl
theorem group_yes {t : List UInt8} {bs : List ByteArray} (ht : t ≠ []) (hb : bs.map bl = split 44 t) (h : ∀ i, i < bs.length → okTo bs i i = true) : groupQ t = some (split 44 t) := by
  unfold groupQ
  rw [if_neg ht, if_pos]
  rw [← hb]
  constructor
  · rw [List.all_eq_true]
    intro x hx
    obtain ⟨y, hy, rfl⟩ := List.mem_map.1 hx
    obtain ⟨i, hi, rfl⟩ := List.mem_iff_getElem.1 hy
    have := okTo_name (h i hi)
    rwa [getD_bs hi] at this
  · unfold List.Nodup
    rw [List.pairwise_iff_getElem]
    intro i j hi hj hij e
    rw [List.getElem_map, List.getElem_map] at e
    rw [List.length_map] at hi hj
    have := okTo_ne (h j hj) hij
    rw [getD_bs hi, getD_bs hj] at this
    exact this (bl_inj e)
theorem group_no {t : List UInt8} {bs : List ByteArray} (ht : t ≠ []) (hb : bs.map bl = split 44 t) {i : Nat} (hi : i < bs.length) (h : okTo bs i i = false) : groupQ t = none := by
  unfold groupQ
  rw [if_neg ht, if_neg]
  rw [← hb]
  rintro ⟨h1, h2⟩
  have : okTo bs i i = true := by
    unfold okTo
    rw [Bool.and_eq_true]
    constructor
    · rw [getD_bs hi]; exact List.all_eq_true.1 h1 _ (List.mem_map.2 ⟨_, List.getElem_mem hi, rfl⟩)
    · rw [List.all_eq_true]
      intro j hj
      have hj := List.mem_range.1 hj
      apply decide_eq_true
      rw [getD_bs hi, getD_bs (Nat.lt_trans hj hi)]
      unfold List.Nodup at h2
      rw [List.pairwise_iff_getElem] at h2
      have := h2 j i (by rw [List.length_map]; omega) (by rw [List.length_map]; omega) hj
      rw [List.getElem_map, List.getElem_map] at this
      exact fun e => this (by rw [e])
  rw [h] at this; cases this
def GroupRes (w : World) (r : Option (List (List UInt8))) (a : Option Addr) (n c : Nat) (ok : Value) : Prop := match r with
  | none => ok = .bool false
  | some x => ok = .bool true ∧ ∃ bs : List ByteArray, w.ownsRow 0 9 1 (.slice a n c) bs.length (bs.map .string) ∧ bs.map bl = x
theorem GroupRes.mkNone {w : World} {r : Option (List (List UInt8))} {a : Option Addr} {n c : Nat} (h : r = none) : GroupRes w r a n c (.bool false) := by subst h; rfl
theorem GroupRes.mkSome {w : World} {r : Option (List (List UInt8))} {a : Option Addr} {n c : Nat} {x : List (List UInt8)} (h : r = some x) (hp : ∃ bs : List ByteArray, w.ownsRow 0 9 1 (.slice a n c) bs.length (bs.map .string) ∧ bs.map bl = x) : GroupRes w r a n c (.bool true) := by subst h; exact ⟨rfl, hp⟩
set_option maxRecDepth 100000 in
set_option maxHeartbeats 16000000 in
theorem groupOf_any (t : ByteArray) (w : World) (ht : t.size ≤ 65535) :
    Calls Tryz.prog 51 #[.string t] w fun e w' => ∃ (a : Option Addr) (n c : Nat) (ok : Value), e = .returned (.tuple #[.slice a n c, ok]) ∧ Hid (GroupRes w' (groupQ (bl t)) a n c ok) ∧ Below w.heap.size w w' := by
  by_cases h0 : t = ⟨#[]⟩
  · subst h0
    have HG : Hid (groupQ (bl ⟨#[]⟩) = some []) := hid (by unfold groupQ; rw [if_pos (show bl ⟨#[]⟩ = [] from rfl)])
    go_enter Tryz.func51, Tryz.ntmps51
    go_wp2
    go_ret2
    exact ⟨none, 0, 0, _, rfl, hid (GroupRes.mkSome HG.out ⟨[], World.ownsRow_nil _ _ _ _, rfl⟩), (by repeat (first | exact Below.refl _ _ | assumption | refine Below.alloc ?_ (by first | omega | (simp; omega) | simp) _ | refine Below.setCell ?_ (by first | omega | (simp; omega) | simp) _ | refine below_drewN' ?_ _ | refine Below.drew ?_))⟩
  · have hne : (t.toList == []) = false := by
      have h1 := (bl_beqV t ⟨#[]⟩).trans (decide_eq_false h0)
      rw [toList_bl ⟨#[]⟩] at h1
      exact h1
    have HT0 : Hid (bl t ≠ []) := hid (fun e => h0 (bl_inj e))
    clear h0
    go_enter Tryz.func51, Tryz.ntmps51
    go_wp2_with fail
    refine (rSplit_big t 44 w (by omega)).mono ?_
    rintro e w1 ⟨v, bs, rfl, hown, HBS, hb1⟩
    have HB1 := hid hb1
    have HOW := hid (own_zero hown)
    have HLE : Hid (bs.length ≤ 65536) := hid (by
      have h1 := congrArg List.length HBS.out
      have h2 := split_length 44 (bl t)
      rw [List.length_map] at h1
      rw [bl_length] at h2
      omega)
    have HSZ : Hid (∀ x ∈ bs, x.size ≤ 65535) := hid (fun x hx => by
      have h1 : bl x ∈ split 44 (bl t) := by rw [← HBS.out]; exact List.mem_map.2 ⟨x, hx, rfl⟩
      have := split_piece_le 44 (bl t) _ h1
      rw [bl_length, bl_length] at this
      omega)
    obtain ⟨va, vc, rfl⟩ := own_shape hown
    clear hown hb1 hne
    have hle := HLE.out
    obtain ⟨n, hn⟩ : ∃ n, n = bs.length := ⟨_, rfl⟩
    rw [← hn] at hle ⊢
    have HN := hid hn
    clear hn
    go_wp2
    go_loopw [5] (fun iv wr => ∃ i : Nat, i ≤ n ∧ iv = .int .i64 i ∧ Hid (∀ j, j < i → okTo bs j j = true) ∧ Hid (Below w1.heap.size w1 wr)) (fun iv _ => n - (intOf iv).toNat)
    case atStart => exact ⟨0, Nat.zero_le _, rfl, hid (fun j hj => absurd hj (Nat.not_lt_zero _)), hid (Below.refl _ _)⟩
    case round =>
      obtain ⟨i, hi, rfl, HA, HBr⟩ := hrel
      by_cases hlt : i < n
      · have hib : i < bs.length := by rw [← HN.out]; exact hlt
        have HOr := hid (own_below HOW.out HBr.out)
        obtain ⟨g, cp, hg⟩ := own_some HOr.out (by omega)
        injection hg with hg1 hg2 hg3
        subst hg1
        clear hg2 hg3
        obtain ⟨x, hx⟩ : ∃ x, bs.getD i ⟨#[]⟩ = x := ⟨_, rfl⟩
        have HX := hid hx
        have ci := own_cell HOr.out i (.string x) (by rw [List.getElem?_map, List.getElem?_eq_getElem hib, ← hx, getD_bs hib]; rfl)
        have hxs : x.size ≤ 65535 := HSZ.out x (by rw [← hx, getD_bs hib]; exact List.getElem_mem hib)
        have hgl := own_lt HOr.out
        clear hx
        go_wp2_with fail
        refine (rIsName_big x wr (by omega)).mono ?_
        rintro e wr ⟨rfl, rfl⟩
        obtain ⟨ok0, hok0⟩ : ∃ ok0, isName (bl x) = ok0 := ⟨_, rfl⟩
        rw [hok0]
        have HOK0 : Hid (okTo bs i 0 = ok0) := hid (by rw [okTo_zero, HX.out, hok0])
        clear hok0
        go_wp2
        go_loopw [6, 7] (fun ov kv wq => ∃ (k : Nat) (ok : Value), k ≤ i ∧ kv = .int .i64 k ∧ ov = ok ∧ Hid (ok = .bool (okTo bs i k)) ∧ Hid (Below w1.heap.size w1 wq)) (fun _ kv _ => i - (intOf kv).toNat)
        case atStart => exact ⟨0, _, Nat.zero_le _, rfl, rfl, hid (by rw [HOK0.out]), HBr⟩
        case round =>
          obtain ⟨k, ok, hk, rfl, rfl, HOK, HBq⟩ := hrel
          clear ci HOr HOK0 hgl
          have HOq := hid (own_below HOW.out HBq.out)
          obtain ⟨b, hb⟩ : ∃ b, okTo bs i k = b := ⟨_, rfl⟩
          have hob := HOK.out
          rw [hb] at hob
          subst hob
          by_cases hki : k < i
          · have hkb : k < bs.length := by omega
            obtain ⟨y, hy⟩ : ∃ y, bs.getD k ⟨#[]⟩ = y := ⟨_, rfl⟩
            have ci := own_cell HOq.out i (.string x) (by rw [List.getElem?_map, List.getElem?_eq_getElem hib, ← HX.out, getD_bs hib]; rfl)
            have ck := own_cell HOq.out k (.string y) (by rw [List.getElem?_map, List.getElem?_eq_getElem hkb, ← hy, getD_bs hkb]; rfl)
            have hgl := own_lt HOq.out
            have hkn : k < n := by omega
            have HST : Hid (okTo bs i (k + 1) = (b && decide (y ≠ x))) := hid (by rw [okTo_succ, hb, hy, HX.out])
            clear hy hb HOK
            cases b with
            | false =>
              have HN2 : Hid (okTo bs i (k + 1) = false) := hid HST.out
              go_wp2
              go_quiet (fail)
              go_wp2
              go_roundw
              case rel => exact ⟨k + 1, _, by omega, by go_num, rfl, hid (by rw [HN2.out]), hid (by have := HBq.out; first | exact this | exact this.drew | exact below_drewN' this _)⟩
              case measure => simp [intOf]; omega
            | true =>
              by_cases hxy : y = x
              · have HN2 : Hid (okTo bs i (k + 1) = false) := hid (by rw [HST.out, decide_eq_false (fun h => h hxy)]; rfl)
                subst hxy
                go_wp2
                go_quiet (fail)
                go_wp2
                go_roundw
                case rel => exact ⟨k + 1, _, by omega, by go_num, rfl, hid (by rw [HN2.out]), hid (by have := HBq.out; first | exact this | exact this.drew | exact below_drewN' this _)⟩
                case measure => simp [intOf]; omega
              · have HN2 : Hid (okTo bs i (k + 1) = true) := hid (by rw [HST.out, decide_eq_true hxy]; rfl)
                have e1 : (y.toList == x.toList) = false := (bl_beqV y x).trans (decide_eq_false hxy)
                have e2 : (y.toList != x.toList) = true := by rw [bne, e1]; rfl
                clear hxy
                go_wp2
                go_quiet (fail)
                go_wp2
                go_roundw
                case rel => exact ⟨k + 1, _, by omega, by go_num, rfl, hid (by rw [HN2.out]), hid (by have := HBq.out; first | exact this | exact this.drew | exact below_drewN' this _)⟩
                case measure => simp [intOf]; omega
          · obtain rfl : k = i := by omega
            cases b with
            | false =>
              have HNO : Hid (groupQ (bl t) = none) := hid (group_no HT0.out HBS.out hib hb)
              have HBz : Hid (Below w.heap.size w wr) := hid (HB1.out.trans (HBq.out.mono HB1.out.size))
              go_wp2
              go_ret2
              exact ⟨none, 0, 0, _, rfl, hid (GroupRes.mkNone HNO.out), HBz.out⟩
            | true =>
              have HA2 : Hid (∀ j, j < k + 1 → okTo bs j j = true) := hid (fun j hj => by
                by_cases e : j = k
                · subst e; exact hb
                · exact HA.out j (by omega))
              clear hb
              go_wp2
              go_roundw
              case rel => exact ⟨k + 1, by omega, by go_num, HA2, HBq⟩
              case measure => simp [intOf]; omega
      · obtain rfl : i = n := by omega
        have HYES : Hid (groupQ (bl t) = some (split 44 (bl t))) := hid (group_yes HT0.out HBS.out (by rw [← HN.out]; exact HA.out))
        have HOr := hid (own_below HOW.out HBr.out)
        have HBz : Hid (Below w.heap.size w wr) := hid (HB1.out.trans (HBr.out.mono HB1.out.size))
        go_wp2
        go_ret2
        exact ⟨va, i, vc, _, rfl, hid (GroupRes.mkSome HYES.out ⟨bs, by rw [← HN.out]; have := HOr.out; rwa [← HN.out] at this, HBS.out⟩), HBz.out⟩
end Go.Proofs.YtkodhpilkaihjaaGreatDoor

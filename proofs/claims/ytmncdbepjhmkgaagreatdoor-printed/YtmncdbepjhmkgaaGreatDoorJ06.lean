/- Parts of the proof, joined: QLay, QAmong -/
import Derived.Test.YtmncdbepjhmkgaaGreatDoorJ05
import Derived.Deep.RegionLaw
/- What the document's reader does as it lays a part down. -/
namespace Go.Proofs.YtmncdbepjhmkgaaGreatDoor
open Go.RowKit LS

theorem append_where {P : Program} {w : World} {t ty : TypeId} (base : Nat) (e : TypeId) (i : TypeInfo) (z : Value) (size bytes : Nat) (h1 : P.underlying t = some (.slice e)) (h2 : P.info? e = some i) (h3 : i.zero = some z) (h4 : i.size = size) (h5 : i.bytes = bytes) (h6 : z.cells.size = size) (h7 : 0 < size)
    (v : Value) (n : Nat) (xs : List Value) (hown : w.ownsRow base e size v n xs)
    (ad : Addr) (m c : Nat) (news : List Value) (hn : news.length = m * size) (hc : ∀ j u, news[j]? = some u → w.cell? (ad.add j) = some u) (h1c : ∀ u ∈ news, u.oneCell' = true)
    (b1 : n + m ≤ maxLen) (b2 : (n + m) * bytes ≤ 140737488355328) {v' : Value} {w' : World} (hrun : (Builtin.append_ #[t, t] ty #[v, .slice (some ad) m c]).run P w = .ok v' w') :
    v'.ownBlock = v.ownBlock ∨ ∀ k, v'.ownBlock = some k → w.heap.size ≤ k := by
  have hcells := fun g hg => @World.ownsRow.cells w base e size v n xs hown g hg
  have hlen := hown.1
  rcases hown.2 with ⟨rfl, rfl⟩ | ⟨g, cap, cur, rfl, hb, hh, hnc, hcm, hcs, htk⟩
  · right
    obtain rfl : xs = [] := List.eq_nil_of_length_eq_zero (by simpa using hlen)
    obtain ⟨v2, w2, hrun2, r1, _⟩ := run_append_own (P := P) w w.heap.size t ty e i z size bytes h1 h2 h3 h4 h5 h6 h7 (.slice none 0 0) 0 [] (World.ownsRow_nil w _ e size) ad m c news hn hc h1c b1 b2 (Nat.le_refl _)
    rw [hrun] at hrun2
    injection hrun2 with e1 e2
    subst e1
    exact fun k hk => (r1.lt k hk).1
  · by_cases hroom : n + m ≤ cap
    · left
      have hfit : n * i.size + news.length ≤ cur.size := by rw [h4, hn, hcs, ← Nat.add_mul]; exact Nat.mul_le_mul_right _ hroom
      have hrun2 := run_append_room (P := P) w t ty e i h1 h2 g n cap cur hh ad m c news (by rw [h4]; exact hn) hc h1c hroom hfit
      rw [hrun] at hrun2
      injection hrun2 with e1 e2
      subst e1
      rfl
    · right
      obtain ⟨v2, w2, hrun2, r1, _⟩ := run_append_arg_grows (P := P) w t ty e i z size bytes h1 h2 h3 h4 h5 h6 h7 ⟨g, 0, none⟩ n cap xs hlen (hcells g rfl) ad m c news hn hc (by omega) b1 b2
      rw [hrun] at hrun2
      injection hrun2 with e1 e2
      subst e1
      exact fun k hk => (r1.lt k hk).1
theorem step_append_own {P : Program} {ops : Array Oper} {o : Oper} {a : Act} {w : World} {K : Act → World → Prop} {Q : Exit → Act → World → Prop} {E : Prop}
    (hg : o.guard = none) (s x : Operand) (t : TypeId) (hop : o.op = Op.call { callee := Callee.builtin Builtin.append, args := #[s, x], argTypes := #[t, t] })
    (base : Nat) (e : TypeId) (i : TypeInfo) (z : Value) (size bytes : Nat) (h1 : P.underlying t = some (.slice e)) (h2 : P.info? e = some i) (h3 : i.zero = some z) (h4 : i.size = size) (h5 : i.bytes = bytes) (h6 : z.cells.size = size) (h7 : 0 < size)
    (v : Value) (n : Nat) (xs : List Value) (hs : a.eval s = v) (hown : w.ownsRow base e size v n xs)
    (ad : Addr) (m c : Nat) (news : List Value) (hx : a.eval x = .slice (some ad) m c) (hn : news.length = m * size) (hc : ∀ j u, news[j]? = some u → w.cell? (ad.add j) = some u) (h1c : ∀ u ∈ news, u.oneCell' = true)
    (b1 : n + m ≤ maxLen) (b2 : (n + m) * bytes ≤ 140737488355328) (hbase : base ≤ w.heap.size)
    (hK : ∀ v' w', w'.ownsRow base e size v' (n + m) (xs ++ news) → w.grownBy w' v.ownBlock → (v'.ownBlock = v.ownBlock ∨ ∀ k, v'.ownBlock = some k → w.heap.size ≤ k) → K (a.put o.dst v') w') :
    if Region.wanted o (yielded ops a.tmps) = true then Oper.wp P o a w K Q else E := by
  have hw : Region.wanted o (yielded ops a.tmps) = true := by simp [Region.wanted, hg]
  rw [if_pos hw]
  obtain ⟨v', w', hrun, r1, r2, _⟩ := run_append_own (P := P) w base t o.type e i z size bytes h1 h2 h3 h4 h5 h6 h7 v n xs hown ad m c news hn hc h1c b1 b2 hbase
  have r3 := append_where base e i z size bytes h1 h2 h3 h4 h5 h6 h7 v n xs hown ad m c news hn hc h1c b1 b2 hrun
  unfold Oper.wp
  simp [execOp, hop, resolve, invoke, builtin, hs, hx, hrun, Result.andThen]
  exact hK v' w' r1 r2 r3
/-- Beside block b, only the parts' row may have changed; it is where it was, or is new. -/
structure Kept (b : Nat) (pv : Value) (w : World) (pv' : Value) (w' : World) : Prop where
  os : w'.os = w.os
  tape : w'.tape = w.tape
  output : w'.output = w.output
  size : w.heap.size ≤ w'.heap.size
  block : ∀ k, k < w.heap.size → k ≠ b → some k ≠ pv.ownBlock → w'.heap[k]? = w.heap[k]?
  own : pv'.ownBlock = pv.ownBlock ∨ ∀ k, pv'.ownBlock = some k → w.heap.size ≤ k
theorem Kept.refl (b : Nat) (pv : Value) (w : World) : Kept b pv w pv w := ⟨rfl, rfl, rfl, Nat.le_refl _, fun _ _ _ _ => rfl, Or.inl rfl⟩
theorem Kept.trans {b : Nat} {p1 p2 p3 : Value} {w1 w2 w3 : World} (h : Kept b p1 w1 p2 w2) (h' : Kept b p2 w2 p3 w3) : Kept b p1 w1 p3 w3 := by
  refine ⟨h'.os.trans h.os, h'.tape.trans h.tape, h'.output.trans h.output, Nat.le_trans h.size h'.size, ?_, ?_⟩
  · intro k hk hb hp
    refine (h'.block k (Nat.lt_of_lt_of_le hk h.size) hb ?_).trans (h.block k hk hb hp)
    rcases h.own with e | e
    · rw [e]; exact hp
    · intro e2; have := e k e2.symm; omega
  · rcases h'.own with e | e
    · rw [e]; exact h.own
    · exact Or.inr fun k hk => Nat.le_trans h.size (e k hk)
theorem Kept.grown {b : Nat} {p1 p2 : Value} {w1 w2 w3 : World} (h : Kept b p1 w1 p2 w2) (h' : w2.grownBy w3 (some b)) : Kept b p1 w1 p2 w3 :=
  h.trans ⟨h'.os, h'.tape, h'.output, h'.size, fun k hk hb _ => h'.block k hk (fun e => hb (Option.some.inj e)), Or.inl rfl⟩
theorem Tryz.infoPart : (Tryz.prog.info? 80).map (fun i => (i.zero, i.size, i.bytes)) = some (some (.agg #[.int .i64 0, .int .i64 0, .int .i64 0, .string ByteArray.empty, .slice none 0 0, .slice none 0 0, .int .i64 0, .int .i64 0]), 8, 104) := by kernel_rfl
theorem cells_eight {W : World} {a : Nat} {x0 x1 x2 x3 x4 x5 x6 x7 : Value} {t : TypeId} {fr : Nat × Nat} (h : W.heap[a]? = some (.cells #[x0, x1, x2, x3, x4, x5, x6, x7] t fr)) : ∀ j x, [x0, x1, x2, x3, x4, x5, x6, x7][j]? = some x → W.cell? ((⟨a, 0, none⟩ : Addr).add j) = some x := by
  intro j x hj
  rw [add_zero_block]
  simp only [World.cell?, h]
  simpa using hj
theorem QAt.grownBy {w w' : World} {b : Nat} {q : QV} {r : Option Nat} (h : QAt w b q) (hg : w.grownBy w' r) (hne : some b ≠ r) : QAt w' b q := (hg.block b h.lt hne).trans h
structure PV where
  k : Int
  n : Int
  op : Int
  nm : ByteArray
  ca : Option Addr
  cn : Nat
  cc : Nat
  ba : Option Addr
  bn : Nat
  bc : Nat
  a : Int
  b : Int
def PV.cells (p : PV) : List Value := [.int .i64 p.k, .int .i64 p.n, .int .i64 p.op, .string p.nm, .slice p.ca p.cn p.cc, .slice p.ba p.bn p.bc, .int .i64 p.a, .int .i64 p.b]

set_option maxRecDepth 100000 in
set_option maxHeartbeats 2000000 in
theorem qlay_any (w : World) (b : Nat) (q : QV) (h : QAt w b q) (n : Nat) (xs : List Value) (hown : w.ownsRow 0 80 8 q.pv n xs) (hn : n ≤ 6000) (p : PV) :
    Calls Tryz.prog 62 #[.pointer (some ⟨b, 0, none⟩), .agg #[.int .i64 p.k, .int .i64 p.n, .int .i64 p.op, .string p.nm, .slice p.ca p.cn p.cc, .slice p.ba p.bn p.bc, .int .i64 p.a, .int .i64 p.b]] w fun r w' =>
      ∃ pv', r = .returned (.int .i64 n) ∧ QAt w' b { q with pv := pv' } ∧ w'.ownsRow 0 80 8 pv' (n + 1) (xs ++ p.cells) ∧ Kept b q.pv w pv' w' := by
  obtain ⟨i0, hi, hz0, hz1, hz2⟩ := info_parts Tryz.infoPart
  obtain ⟨c0, c1, c2, c3, c4, c5, c6, c7, c8⟩ := h.all
  have hlt := h.lt
  have H : Hid (QAt w b q) := h
  obtain ⟨k, pn, op, nm, ca, cn, cc, ba, bn, bc, pa, pb⟩ := p
  obtain ⟨av, cp, hpv⟩ := own_shape hown
  have hown2 : w.ownsRow 0 80 8 (.slice av n cp) n xs := by rw [← hpv]; exact hown
  have HN : Hid (some b ≠ (Value.slice av n cp).ownBlock) := own_ne_block hown2 h (by decide)
  have HP : Hid (q.pv = .slice av n cp) := hpv
  have HO : Hid (∀ (o1 o2 : Obj), ((w.alloc o1).alloc o2).drew.ownsRow 0 80 8 (.slice av n cp) n xs) := fun o1 o2 => (hown2.alloc o1).alloc o2
  have HB : Hid (∀ (o1 o2 : Obj), ((w.alloc o1).alloc o2).drew.heap[w.heap.size + 1]? = some o2) := fun o1 o2 => by
    have := Go.Deep.blk_alloc_new (w.alloc o1) o2; rw [Go.Deep.nblk_alloc] at this; exact this
  have HQ0 : Hid (∀ (o1 o2 : Obj), QAt ((w.alloc o1).alloc o2).drew b q) := fun o1 o2 => QAt.alloc (QAt.alloc h o1) o2
  clear h hown hown2
  rw [hpv] at c0
  clear hpv
  go_enter Tryz.func62, Tryz.ntmps62
  go_wp2
  go_region_law (
    refine step_append_own rfl (.tmp 9) (.tmp 11) 70 rfl 0 80 i0 _ 8 104 Tryz.underlying70 hi hz0 hz1 hz2 rfl (by decide) (.slice av n cp) n xs (by simp [Act.eval]) (HO.out _ _) ⟨w.heap.size + 1, 0, none⟩ 1 1 [.int .i64 k, .int .i64 pn, .int .i64 op, .string nm, .slice ca cn cc, .slice ba bn bc, .int .i64 pa, .int .i64 pb] (by simp [Act.eval]) rfl ?h2 ?h3 ?h4 ?h5 (Nat.zero_le _) ?_
    case h2 => exact cells_eight (HB.out _ _)
    case h3 => intro u hu; simp at hu; rcases hu with rfl | rfl | rfl | rfl | rfl | rfl | rfl | rfl <;> rfl
    case h4 => unfold maxLen; omega
    case h5 => omega
    intro v1 w1 hown1 hgrow1 hwhere1
    have hq1 : QAt w1 b q := QAt.grownBy (HQ0.out _ _) hgrow1 HN.out
    obtain ⟨g1, cp1, hv1⟩ := own_some hown1 (by omega)
    subst hv1
    have d0 := (QAt.all hq1).1
    rw [HP.out] at d0
    have e0 := QAt.frozen hq1 0)
  all_goals
    have HQ1 : Hid (QAt w1 b q) := hq1
    have HO1 : Hid (w1.ownsRow 0 80 8 (.slice (some ⟨g1, 0, none⟩) (n + 1) cp1) (n + 1) (xs ++ [.int .i64 k, .int .i64 pn, .int .i64 op, .string nm, .slice ca cn cc, .slice ba bn bc, .int .i64 pa, .int .i64 pb])) := hown1
    have HG1 : Hid _ := hgrow1
    have HW1 : Hid _ := hwhere1
    clear hq1 hown1 hgrow1 hwhere1 c0 c1 c2 c3 c4 c5 c6 c7 c8
    go_wp2
    go_ret
    refine ⟨_, ret_int (by omega), QAt.set HQ1.out 0 _ rfl, World.ownsRow.kept HO1.out (grown_set (b := b) (grown_refl _ _) (Or.inl rfl) _) (Or.inr ?_), ?_⟩
    · exact fun e => own_ne_block HO1.out HQ1.out (by decide) e.symm
    · have hg := HG1.out
      have hsz := hg.size
      rw [show ((w.alloc _).alloc _).drew.heap.size = w.heap.size + 1 + 1 from by rw [show ((w.alloc _).alloc _).drew.heap.size = ((w.alloc _).alloc _).heap.size from rfl, Go.Deep.nblk_alloc, Go.Deep.nblk_alloc]] at hsz
      refine ⟨hg.os, hg.tape, hg.output, ?_, ?_, ?_⟩
      · rw [Go.Deep.nblk_setCell]; omega
      · intro j hj hjb hjp
        rw [Go.Deep.blk_setCell_other _ _ _ _ (show j ≠ b from hjb)]
        rw [HP.out] at hjp
        refine (hg.block j ?_ hjp).trans ?_
        · show j < ((w.alloc _).alloc _).heap.size
          rw [Go.Deep.nblk_alloc, Go.Deep.nblk_alloc]; omega
        · show ((w.alloc _).alloc _).heap[j]? = _
          rw [Go.Deep.blk_alloc_lt _ _ _ (by rw [Go.Deep.nblk_alloc]; omega), Go.Deep.blk_alloc_lt _ _ _ hj]
      · rw [HP.out]
        rcases HW1.out with h | h
        · exact Or.inl h
        · refine Or.inr fun j hj => ?_
          have := h j hj
          have h2 : ((w.alloc _).alloc _).heap.size ≤ j := this
          rw [Go.Deep.nblk_alloc, Go.Deep.nblk_alloc] at h2; omega
end Go.Proofs.YtmncdbepjhmkgaaGreatDoor
/- Which of some words a word is: the document's own way. -/
namespace Go.Proofs.YtmncdbepjhmkgaaGreatDoor.LS
open Go Go.RowKit
def idxI (w : List UInt8) (l : List (List UInt8)) : Int := match idx w l with
  | none => -1
  | some i => i
theorem idx_skip {w : List UInt8} {l : List (List UInt8)} (k : Nat) (hk : k < l.length) (h : l.getD k [] ≠ w) (m : Nat) (he : idxI w l = match idx w (l.drop k) with | none => -1 | some i => ((i + k : Nat) : Int)) (hm : m = k + 1) :
    idxI w l = match idx w (l.drop m) with | none => -1 | some i => ((i + m : Nat) : Int) := by
  subst hm
  rw [he]
  rw [List.drop_eq_getElem_cons hk]
  have e : l.getD k [] = l[k] := by simp [hk]
  rw [e] at h
  show (match (if l[k] = w then some 0 else (idx w (l.drop (k + 1))).map (· + 1)) with | none => (-1 : Int) | some i => ((i + k : Nat) : Int)) = _
  rw [if_neg h]
  cases idx w (l.drop (k + 1)) with
  | none => rfl
  | some i => show (((i + 1 + k : Nat)) : Int) = ((i + (k + 1) : Nat) : Int); omega
theorem idx_hit {w : List UInt8} {l : List (List UInt8)} (k : Nat) (hk : k < l.length) (h : l.getD k [] = w) (he : idxI w l = match idx w (l.drop k) with | none => -1 | some i => ((i + k : Nat) : Int)) : idxI w l = k := by
  rw [he, List.drop_eq_getElem_cons hk]
  have e : l.getD k [] = l[k] := by simp [hk]
  rw [e] at h
  show (match (if l[k] = w then some 0 else (idx w (l.drop (k + 1))).map (· + 1)) with | none => (-1 : Int) | some i => ((i + k : Nat) : Int)) = _
  rw [if_pos h]
  show ((0 + k : Nat) : Int) = k
  omega
theorem idx_end {w : List UInt8} {l : List (List UInt8)} (k : Nat) (hk : ¬ k < l.length) (he : idxI w l = match idx w (l.drop k) with | none => -1 | some i => ((i + k : Nat) : Int)) : idxI w l = -1 := by
  rw [he, List.drop_of_length_le (by omega)]; rfl
theorem idxI_start (w : List UInt8) (l : List (List UInt8)) : idxI w l = match idx w (l.drop 0) with | none => -1 | some i => ((i + 0 : Nat) : Int) := rfl
theorem idx_lt {w : List UInt8} {l : List (List UInt8)} {i : Nat} (h : idx w l = some i) : i < l.length ∧ l.getD i [] = w := by
  induction l generalizing i with
  | nil => cases h
  | cons x l ih =>
    unfold idx at h
    split at h
    · injection h with h; subst h; rename_i e; exact ⟨by simp, by simpa using e⟩
    · cases h2 : idx w l with
      | none => rw [h2] at h; cases h
      | some j => rw [h2] at h; injection h with h; subst h; have := ih h2; exact ⟨by simp; exact this.1, by simpa using this.2⟩
end Go.Proofs.YtmncdbepjhmkgaaGreatDoor.LS
namespace Go.Proofs.YtmncdbepjhmkgaaGreatDoor
open Go.RowKit LS

set_option maxHeartbeats 1000000 in
theorem among_any (s x : ByteArray) (w : World) (hs : s.size ≤ 6000) :
    Calls Tryz.prog 114 #[.string s, .string x] w fun r w' => r = .returned (.int .i64 (idxI (bl x) (split 32 (bl s)))) ∧ Below w.heap.size w w' := by
  go_enter Tryz.func114, Tryz.ntmps114
  go_wp2_with fail
  refine (rSplit_of s 32 _ _ rfl hs).mono ?_
  rintro e w1 ⟨g, n, cp, bs, rfl, hn, hg0, hgl, hcells, hsp, hb1⟩
  have HN : Hid (n = bs.length) := hn
  have hlen : (split 32 (bl s)).length = n := by rw [← hsp.out, List.length_map, hn]
  have hn6 : n ≤ 6001 := by have := split_length 32 (bl s); rw [bl_length] at this; omega
  clear hn
  have HLen : Hid _ := hlen
  clear hlen
  go_wp2
  go_loop [6] (fun i => ∃ k : Nat, k ≤ n ∧ i = .int .i64 k ∧ Hid (idxI (bl x) (split 32 (bl s)) = match idx (bl x) ((split 32 (bl s)).drop k) with | none => -1 | some i => ((i + k : Nat) : Int))) (fun i => n - (intOf i).toNat)
  case atStart => exact ⟨0, Nat.zero_le _, rfl, idxI_start _ _⟩
  case round =>
    obtain ⟨k, hk, rfl, HA⟩ := hrel
    by_cases hlt : k < n
    · have hkb : k < bs.length := by rw [← HN.out]; exact hlt
      have hkl : k < (split 32 (bl s)).length := by rw [HLen.out]; exact hlt
      have hck : w1.cell? ⟨g, k, none⟩ = some (.string bs[k]) := hcells.out k hkb
      have HK : Hid (bl bs[k] = (split 32 (bl s)).getD k []) := map_bl_get hsp.out k hkb
      generalize bs[k] = sk at hck HK
      cases he : (sk.toList == x.toList)
      · have HF : Hid (idxI (bl x) (split 32 (bl s)) = match idx (bl x) ((split 32 (bl s)).drop (k + 1)) with | none => -1 | some i => ((i + (k + 1) : Nat) : Int)) := hid (by
          refine idx_skip k hkl ?_ _ HA.out rfl
          rw [← HK.out]; rw [toList_bl, toList_bl] at he; exact beq_eq_false_iff_ne.1 he)
        go_wp2
        go_round
        case rel => exact ⟨k + 1, by omega, by go_num, HF⟩
        case measure => simp [intOf]; omega
      · have HF : Hid (idxI (bl x) (split 32 (bl s)) = k) := hid (by
          refine idx_hit k hkl ?_ HA.out
          rw [← HK.out]; rw [toList_bl, toList_bl] at he; exact beq_iff_eq.1 he)
        go_wp2
        go_ret
        exact ⟨by rw [HF.out]; rfl, hb1⟩
    · have HF : Hid (idxI (bl x) (split 32 (bl s)) = -1) := hid (idx_end k (by rw [HLen.out]; exact hlt) HA.out)
      go_wp2
      go_ret
      exact ⟨by rw [HF.out]; rfl, hb1⟩
end Go.Proofs.YtmncdbepjhmkgaaGreatDoor

/- Parts of the proof, joined: QScalar, QRead -/
import Derived.Test.YtmncdbepjhmkgaaGreatDoorJ16
import Derived.Test.YtmncdbepjhmkgaaGreatDoorJ17
/- The kind of a query: the document's own way. -/
namespace Go.Proofs.YtmncdbepjhmkgaaGreatDoor
open Go.RowKit LS

/-- where part i lies, and what its cells hold. -/
theorem Rep.at {w : World} {pv : Value} {n : Nat} {xs : List Value} (hown : w.ownsRow 0 80 8 pv n xs) {x y : Nat} {nd : Nd} {l r : Tr} {i : Nat} (h : Rep w xs (.node x y nd l r) i) :
    ∃ (g cp : Nat) (p : PV) (a c : Nat), pv = .slice (some ⟨g, 0, none⟩) n cp ∧ g < w.heap.size ∧ i < n ∧ partIs w nd p ∧ p.a = a ∧ p.b = c ∧ Rep w xs l a ∧ Rep w xs r c ∧
      w.cell? ⟨g, i * 8, none⟩ = some (.int .i64 p.k) ∧ w.cell? ⟨g, i * 8 + 1, none⟩ = some (.int .i64 p.n) ∧ w.cell? ⟨g, i * 8 + 2, none⟩ = some (.int .i64 p.op) ∧ w.cell? ⟨g, i * 8 + 3, none⟩ = some (.string p.nm) ∧
      w.cell? ⟨g, i * 8 + 4, none⟩ = some (.slice p.ca p.cn p.cc) ∧ w.cell? ⟨g, i * 8 + 5, none⟩ = some (.slice p.ba p.bn p.bc) ∧ w.cell? ⟨g, i * 8 + 6, none⟩ = some (.int .i64 p.a) ∧ w.cell? ⟨g, i * 8 + 7, none⟩ = some (.int .i64 p.b) := by
  obtain ⟨p, a, c, h1, h2, h3, h4, _, _, h7, h8⟩ := h
  have hlen := congrArg List.length h1
  rw [cells_len, List.length_take, List.length_drop, hown.1] at hlen
  have hi : i < n := by omega
  obtain ⟨g, cp, rfl⟩ := own_some hown (by omega)
  have hc : ∀ j v, j < 8 → p.cells[j]? = some v → w.cell? ⟨g, i * 8 + j, none⟩ = some v := by
    intro j v hj hv
    refine own_cell hown _ _ ?_
    rw [← h1, List.getElem?_take, if_pos hj, List.getElem?_drop] at hv
    exact hv
  exact ⟨g, cp, p, a, c, rfl, own_lt hown, hi, h2, h3, h4, h7, h8, hc 0 _ (by decide) rfl, hc 1 _ (by decide) rfl, hc 2 _ (by decide) rfl, hc 3 _ (by decide) rfl, hc 4 _ (by decide) rfl, hc 5 _ (by decide) rfl, hc 6 _ (by decide) rfl, hc 7 _ (by decide) rfl⟩
theorem NamesAre.below {w w' : World} {base : Nat} {p : PV} {ns : List (List UInt8)} (h : NamesAre w base p ns) (hb : Below w.heap.size w w') : NamesAre w' base p ns := by
  obtain ⟨bs, h1, h2⟩ := h
  exact ⟨bs, own_below h1 hb, h2⟩
theorem CondsAre.below {w w' : World} {base : Nat} {p : PV} {ns : List (List UInt8 × List UInt8 × Bool)} (h : CondsAre w base p ns) (hb : Below w.heap.size w w') : CondsAre w' base p ns := by
  obtain ⟨bs, h1, h2⟩ := h
  exact ⟨bs, own_below h1 hb, h2⟩
theorem Rep.below {w w' : World} {xs : List Value} (hb : Below w.heap.size w w') : ∀ (t : Tr) (i : Nat), Rep w xs t i → Rep w' xs t i
  | .nil, _, _ => trivial
  | .node _ _ nd l r, i, h => by
    obtain ⟨p, u, c, h1, ⟨g1, g2, g3, g4, g5, g6⟩, h3, h4, h5, h6, h7, h8⟩ := h
    exact ⟨p, u, c, h1, ⟨g1, g2, g3, g4, g5.below hb, g6.below hb⟩, h3, h4, h5, h6, Rep.below hb l u h7, Rep.below hb r c h8⟩
theorem kindT_le (t : Tr) : kindT t ≤ 2 := by
  cases t with
  | nil => decide
  | node x y a l r =>
    unfold kindT
    have hl := kindT_le l
    split
    · decide
    · split
      · decide
      · split
        · exact hl
        · split
          · split <;> decide
          · split
            · decide
            · split <;> decide
termination_by t
/-- What the row of parts in block b's first cell says, in a world. -/
structure RowAt (w : World) (b : Nat) (pv : Value) (n : Nat) (xs : List Value) : Prop where
  cell : w.cell? ⟨b, 0, none⟩ = some pv
  own : w.ownsRow 0 80 8 pv n xs
theorem RowAt.below {w w' : World} {b : Nat} {pv : Value} {n : Nat} {xs : List Value} (h : RowAt w b pv n xs) (hb : Below w.heap.size w w') : RowAt w' b pv n xs :=
  ⟨(hb.cell (p := ⟨b, 0, none⟩) (World.block_lt_of_cell? _ _ h.cell)).trans h.cell, own_below h.own hb⟩
set_option maxRecDepth 100000 in
set_option maxHeartbeats 4000000 in
theorem scalar_any (b : Nat) (pv : Value) (n : Nat) (xs : List Value) : ∀ (t : Tr) (i : Nat) (w : World), wfT t → isNil t = false → RowAt w b pv n xs → Rep w xs t i →
    Calls Tryz.prog 27 #[.pointer (some ⟨b, 0, none⟩), .int .i64 i] w fun e w' => e = .returned (.int .i64 (kindT t)) ∧ Below w.heap.size w w' := by
  intro t
  induction t with
  | nil => intro i w _ h; cases h
  | node x y nd l r ihl ihr =>
    intro i w hwf _ hrow hrep
    obtain ⟨g, cp, p, a, c, rfl, hgl, hi, hp, ha, hc, hrl, hrr, c0, c1, c2, c3, c4, c5, c6, c7⟩ := Rep.at hrow.own hrep
    have hcell := hrow.cell
    have HROW : Hid (RowAt w b (.slice (some ⟨g, 0, none⟩) n cp) n xs) := hrow
    obtain ⟨W, hW⟩ : ∃ W, W = w.alloc (.cells #[.int .i64 p.k, .int .i64 p.n, .int .i64 p.op, .string p.nm, .slice p.ca p.cn p.cc, .slice p.ba p.bn p.bc, .int .i64 p.a, .int .i64 p.b] 80) := ⟨_, rfl⟩
    have hbW : Below w.heap.size w W := by rw [hW]; exact (Below.refl _ _).alloc (Nat.le_refl _) _
    have HW : Hid (W = w.alloc (.cells #[.int .i64 p.k, .int .i64 p.n, .int .i64 p.op, .string p.nm, .slice p.ca p.cn p.cc, .slice p.ba p.bn p.bc, .int .i64 p.a, .int .i64 p.b] 80)) := hW
    have HP : Hid (PAt W w.heap.size p) := hid (by rw [hW]; exact Go.Deep.blk_alloc_new _ _)
    have HRW : Hid (RowAt W b (.slice (some ⟨g, 0, none⟩) n cp) n xs) := hrow.below hbW
    have HL : Hid (Rep W xs l a) := Rep.below hbW l a hrl
    have HR : Hid (Rep W xs r c) := Rep.below hbW r c hrr
    have HBW : Hid (Below w.heap.size w W) := hbW
    have hkk : p.k = nd.kind := hp.1
    have HWF : Hid (wfT (.node x y nd l r)) := hwf
    have hk6 : nd.kind ≤ 6 := hwf.1
    have HIL : Hid (∀ (i : Nat) (w : World), wfT l → isNil l = false → RowAt w b (.slice (some ⟨g, 0, none⟩) n cp) n xs → Rep w xs l i → Calls Tryz.prog 27 #[.pointer (some ⟨b, 0, none⟩), .int .i64 i] w fun e w' => e = .returned (.int .i64 (kindT l)) ∧ Below w.heap.size w w') := ihl
    have HIR : Hid (∀ (i : Nat) (w : World), wfT r → isNil r = false → RowAt w b (.slice (some ⟨g, 0, none⟩) n cp) n xs → Rep w xs r i → Calls Tryz.prog 27 #[.pointer (some ⟨b, 0, none⟩), .int .i64 i] w fun e w' => e = .returned (.int .i64 (kindT r)) ∧ Below w.heap.size w w') := ihr
    rw [ha, hc] at HW
    rw [ha] at c6
    rw [hc] at c7
    have HA : Hid (p.a = a ∧ p.b = c) := ⟨ha, hc⟩
    have HKK : Hid (p.k = nd.kind) := hkk
    clear ha hc hkk hp hrow hrep hW hbW hrl hrr hwf ihl ihr
    have h7 : nd.kind = 0 ∨ nd.kind = 1 ∨ nd.kind = 2 ∨ nd.kind = 3 ∨ nd.kind = 5 ∨ (nd.kind = 4 ∨ nd.kind = 6) := by omega
    rcases h7 with hk | hk | hk | hk | hk | hk
    · have HK : Hid (kindT (.node x y nd l r) = 1) := hid (by unfold kindT; rw [if_pos hk])
      have hk3 : p.k = 0 := by rw [HKK.out, hk]; rfl
      rw [hk3] at c0 HW
      clear hk3
      go_enter Tryz.func27, Tryz.ntmps27
      go_wp2
      go_ret
      rw [HK.out]
      exact ⟨rfl, (Below.refl _ _).alloc (Nat.le_refl _) _⟩
    · have HK : Hid (kindT (.node x y nd l r) = 2) := hid (by unfold kindT; rw [if_neg (by omega), if_pos (Or.inl hk)])
      have hk3 : p.k = 1 := by rw [HKK.out, hk]; rfl
      rw [hk3] at c0 HW
      clear hk3
      go_enter Tryz.func27, Tryz.ntmps27
      go_wp2
      go_ret
      rw [HK.out]
      exact ⟨rfl, (Below.refl _ _).alloc (Nat.le_refl _) _⟩
    · have HK : Hid (kindT (.node x y nd l r) = 2) := hid (by unfold kindT; rw [if_neg (by omega), if_pos (Or.inr hk)])
      have hk3 : p.k = 2 := by rw [HKK.out, hk]; rfl
      rw [hk3] at c0 HW
      clear hk3
      go_enter Tryz.func27, Tryz.ntmps27
      go_wp2
      go_ret
      rw [HK.out]
      exact ⟨rfl, (Below.refl _ _).alloc (Nat.le_refl _) _⟩
    · have HK : Hid (kindT (.node x y nd l r) = kindT l) := hid (by rw [kindT]; rw [if_neg (by omega), if_neg (by omega), if_pos hk])
      have hk3 : p.k = 3 := by rw [HKK.out, hk]; rfl
      rw [hk3] at c0 HW
      clear hk3
      go_enter Tryz.func27, Tryz.ntmps27
      go_wp2_with fail
      rw [← HW.out]
      refine (HIL.out a W HWF.out.2.2.2.2.2.2.2.2.2.2.1 (HWF.out.2.2.2.2.2.2.1 (by omega)) HRW.out HL.out).mono ?_
      rintro e w1 ⟨rfl, hb1⟩
      have HB1 : Hid (Below w.heap.size w w1) := HBW.out.trans (hb1.mono HBW.out.size)
      clear hb1
      go_wp2
      go_ret
      rw [HK.out]
      exact ⟨rfl, HB1.out⟩
    · have HK : Hid (kindT (.node x y nd l r) = if kindT l = 2 then 2 else 0) := hid (by rw [kindT]; rw [if_neg (by omega), if_neg (by omega), if_neg (by omega), if_pos hk])
      have hk3 : p.k = 5 := by rw [HKK.out, hk]; rfl
      rw [hk3] at c0 HW
      clear hk3
      go_enter Tryz.func27, Tryz.ntmps27
      go_wp2_with fail
      rw [← HW.out]
      refine (HIL.out a W HWF.out.2.2.2.2.2.2.2.2.2.2.1 (HWF.out.2.2.2.2.2.2.1 (by omega)) HRW.out HL.out).mono ?_
      rintro e w1 ⟨rfl, hb1⟩
      have HB1 : Hid (Below w.heap.size w w1) := HBW.out.trans (hb1.mono HBW.out.size)
      clear hb1
      have hle := kindT_le l
      generalize kindT l = ka at *
      have h3 : ka = 0 ∨ ka = 1 ∨ ka = 2 := by omega
      clear HIL
      rcases h3 with rfl | rfl | rfl
      all_goals
        go_wp2
        go_ret
        rw [HK.out]
        exact ⟨rfl, HB1.out⟩
    · have HK : Hid (kindT (.node x y nd l r) = if kindT l = 0 ∨ kindT r = 0 ∨ (nd.kind = 6 ∧ kindT l + kindT r ≠ 4) then 0 else if kindT l + kindT r = 2 then 1 else 2) := hid (by rw [kindT]; rw [if_neg (by omega), if_neg (by omega), if_neg (by omega), if_neg (by omega)])
      have HL3 : Hid (isNil l = false ∧ isNil r = false ∧ wfT l ∧ wfT r) := ⟨HWF.out.2.2.2.2.2.2.1 (by omega), HWF.out.2.2.2.2.2.2.2.1 hk, HWF.out.2.2.2.2.2.2.2.2.2.2.1, HWF.out.2.2.2.2.2.2.2.2.2.2.2⟩
      rcases hk with hk | hk
      all_goals
        first
          | have hk3 : p.k = 4 := by rw [HKK.out, hk]; rfl
          | have hk3 : p.k = 6 := by rw [HKK.out, hk]; rfl
        rw [hk] at HK
        rw [hk3] at c0 HW
        go_enter Tryz.func27, Tryz.ntmps27
        go_wp2_with fail
        rw [← HW.out]
        refine (HIL.out a W HL3.out.2.2.1 HL3.out.1 HRW.out HL.out).mono ?_
        rintro e w1 ⟨rfl, hb1⟩
        have HB1 : Hid (Below w.heap.size w w1) := HBW.out.trans (hb1.mono HBW.out.size)
        have HP1 : Hid (PAt w1 w.heap.size _) := PAt.kept HP.out (hb1.block _ (PAt.lt HP.out))
        have HR1 : Hid (Rep w1 xs r c) := Rep.below hb1 r c HR.out
        have HW1 : Hid (RowAt w1 b (.slice (some ⟨g, 0, none⟩) n cp) n xs) := HRW.out.below hb1
        have hz1 := HB1.out.size
        obtain ⟨k0, k1, k2, k3, k4, k5, k6, k7⟩ := PAt.all HP1.out
        rw [hk3] at k0
        rw [HA.out.1] at k6
        rw [HA.out.2] at k7
        clear hb1
        go_wp2_with fail
        clear k0 k1 k2 k3 k4 k5 k6 k7
        refine (HIR.out c w1 HL3.out.2.2.2 HL3.out.2.1 HW1.out HR1.out).mono ?_
        rintro e w2 ⟨rfl, hb2⟩
        have HB2 : Hid (Below w.heap.size w w2) := HB1.out.trans (hb2.mono hz1)
        have HP2 : Hid (PAt w2 w.heap.size _) := PAt.kept HP1.out (hb2.block _ (PAt.lt HP1.out))
        obtain ⟨k0, k1, k2, k3, k4, k5, k6, k7⟩ := PAt.all HP2.out
        rw [hk3] at k0
        clear hb2
        have hle := kindT_le l
        have hre := kindT_le r
        generalize kindT l = ka at *
        generalize kindT r = kb at *
        have h3 : ka = 0 ∨ ka = 1 ∨ ka = 2 := by omega
        have h4 : kb = 0 ∨ kb = 1 ∨ kb = 2 := by omega
        clear HIL HIR hle hre
        rcases h3 with rfl | rfl | rfl <;> rcases h4 with rfl | rfl | rfl
        all_goals
          go_wp2
          go_ret
          rw [HK.out]
          exact ⟨rfl, HB2.out⟩
end Go.Proofs.YtmncdbepjhmkgaaGreatDoor
/- A query, read: the document's own way. -/
namespace Go.Proofs.YtmncdbepjhmkgaaGreatDoor
open Go.RowKit LS

/-- A query that was read, in block b: its parts' row, the last of which is the whole. -/
def ReadIs (w : World) (b : Nat) (t : Tr) : Prop := ∃ (pv : Value) (n : Nat) (xs : List Value), RowAt w b pv (n + 1) xs ∧ n + 1 ≤ 301 ∧ Rep w xs t n ∧ wfT t ∧ isNil t = false ∧ wT t ≤ 100000
theorem lexAll_tw (l : List UInt8) (hl : l.length ≤ 300) : ∀ (n i : Nat), tw (lexAll l n i) ≤ 332 * (lexAll l n i).length
  | 0, _ => Nat.le_refl _
  | n + 1, i => by
    have h1 := lexAt_txt l i
    have h2 := lexAll_tw l hl n (lexAt l i).2
    unfold lexAll
    split
    · simp [tw]; omega
    · simp [tw]; omega
theorem first_tok {w : World} {b : Nat} {q : QV} (h : QAt w b q) (hs : q.s.size ≤ 6000) (h0 : q.at_ = 0) (he : q.e = 0) :
    Calls Tryz.prog 24 #[.pointer (some ⟨b, 0, none⟩)] w fun r w' => r = .returned (.tuple #[]) ∧ St w' b q.pv q.s q.deep (.ok ((), lexAll (bl q.s) ((bl q.s).length + 1) 0)) ∧ w.grownBy w' (some b) := by
  refine (qnext_any w b q h hs (by omega)).mono ?_
  rintro r w' ⟨rfl, ⟨tx, htx, hq⟩, hg⟩
  rw [h0] at hq htx
  refine ⟨rfl, ⟨⟨_, hq, rfl, rfl, rfl, he, ?_, ?_⟩, trivial⟩, hg⟩
  · have := (lexAt_gt (bl q.s) 0 (Nat.zero_le _)).2; rw [bl_length] at this; exact this
  · have e : tokOf { q with at_ := (lexAt (bl q.s) 0).2, k := (lexAt (bl q.s) 0).1.kind, tx := tx, ta := (lexAt (bl q.s) 0).1.at_ } = (lexAt (bl q.s) 0).1 := by
      show (⟨_, bl tx, _⟩ : Tok) = _; rw [htx]
    rw [e]; exact Toks.start _
set_option maxRecDepth 100000 in
set_option maxHeartbeats 4000000 in
theorem read_any (s : ByteArray) (w : World) (hlim : s.size ≤ 9223372036854775807) :
    Calls Tryz.prog 12 #[.string s] w fun e w' => (∃ (v : Value) (c p : Nat), e = .returned (.tuple #[v, .int .i64 c, .int .i64 p]) ∧
      Hid ((∀ x, readQ (bl s) = .error x → c = x.1 ∧ p = x.2 ∧ c ≠ 0 ∧ v = .pointer none) ∧ (∀ t, readQ (bl s) = .ok t → c = 0 ∧ p = 0 ∧ ∃ b, v = .pointer (some ⟨b, 0, none⟩) ∧ w.heap.size ≤ b ∧ ReadIs w' b t))) ∧ Below w.heap.size w w' := by
  by_cases hl : 300 < s.size
  · have HR : Hid (readQ (bl s) = .error (1, 0)) := hid (by unfold readQ; rw [bl_length, if_pos hl])
    have hd : (300 : Int) < s.size := by omega
    go_enter Tryz.func12, Tryz.ntmps12
    go_wp2
    go_ret3
    refine ⟨⟨_, 1, 0, rfl, ⟨fun x hx => ?_, fun t ht => ?_⟩⟩, Below.refl _ _⟩
    · rw [HR.out] at hx; injection hx with hx; subst hx; exact ⟨rfl, rfl, by decide, rfl⟩
    · rw [HR.out] at ht; cases ht
  · have hl3 : s.size ≤ 300 := by omega
    have hd : ¬ ((300 : Int) < s.size) := by omega
    obtain ⟨ts, hts⟩ : ∃ ts, ts = lexAll (bl s) ((bl s).length + 1) 0 := ⟨_, rfl⟩
    have hlen : ts.length ≤ 301 := by
      have := lexAll_len (bl s) ((bl s).length + 1) 0 (Nat.zero_le _)
      rw [← hts, bl_length] at this
      omega
    have htw : tw ts ≤ 100000 := by
      have := lexAll_tw (bl s) (by rw [bl_length]; exact hl3) ((bl s).length + 1) 0
      rw [← hts] at this
      omega
    have HRQ : Hid (readQ (bl s) = match parse (10 * ts.length + 5) false 0 .nil ts 0 with
      | .error e => .error e
      | .ok (t, r) => if (LS.hd r).kind = 0 then (if kindT t = 0 then .error (4, 0) else .ok t) else .error (2, (LS.hd r).at_)) := hid (by
      unfold readQ; rw [bl_length, if_neg hl, ← bl_length, ← hts]
      cases parse (10 * ts.length + 5) false 0 .nil ts 0 with
      | error e => rfl
      | ok x => rfl)
    have HTS : Hid (ts = lexAll (bl s) ((bl s).length + 1) 0) := hts
    clear hts
    obtain ⟨R, hR⟩ : ∃ R, R = parse (10 * ts.length + 5) false 0 .nil ts 0 := ⟨_, rfl⟩
    have HPR : Hid (R = parse (10 * ts.length + 5) false 0 .nil ts 0) := hR
    rw [← hR] at HRQ
    clear hR
    have HQ0 : Hid (∀ W : World, QAt (W.alloc (.cells #[.slice none 0 0, .string s, .int .i64 0, .int .i64 0, .string ⟨#[]⟩, .int .i64 0, .int .i64 0, .int .i64 0, .int .i64 0] 74)) W.heap.size ⟨.slice none 0 0, s, 0, 0, ⟨#[]⟩, 0, 0, 0, 0⟩) := fun W => Go.Deep.blk_alloc_new _ _
    go_enter Tryz.func12, Tryz.ntmps12
    go_wp2_with fail
    refine (first_tok (HQ0.out w) (by show s.size ≤ 6000; omega) rfl rfl).mono ?_
    rintro e w1 ⟨rfl, hst, hg⟩
    have HS1 : Hid (St w1 w.heap.size (.slice none 0 0) s 0 (.ok ((), ts))) := hid (by rw [HTS.out]; exact hst)
    have HB1 : Hid (Below w.heap.size w w1) := ⟨hg.os, hg.tape, hg.output, by have := hg.size; rw [Go.Deep.nblk_alloc] at this; omega, fun k hk => (hg.block k (by rw [Go.Deep.nblk_alloc]; omega) (by simp; omega)).trans (Go.Deep.blk_alloc_lt _ _ _ hk)⟩
    clear hst hg HTS
    go_wp2_with fail
    refine (query_any (by omega) ts.length w1 w.heap.size (.slice none 0 0) 0 _ 0 [] ts.length HS1.out (World.ownsRow_nil _ _ _ _) (by omega) (show 0 + ts.length ≤ ts.length by omega) (fun t e => by injection e with e; injection e with _ e; subst e; exact Nat.le_refl _) (by omega)).mono ?_
    rintro e w2 ⟨i, rfl, hp⟩
    rw [show (bnd (.ok ((), ts) : Out Unit) fun _ ts' => parse (10 * ts.length + 5) false 0 .nil ts' 0) = R from HPR.out.symm] at hp
    obtain ⟨n2, pv2, ys, s2, o2, k2, b2, r2⟩ := hp.out
    rw [List.nil_append] at o2 r2
    have HS2 : Hid (St w2 w.heap.size pv2 s 0 (unitP R)) := s2
    have HO2 : Hid (w2.ownsRow 0 80 8 pv2 n2 ys) := o2
    have HB2 : Hid (Below w.heap.size w w2) := HB1.out.trans ⟨k2.os, k2.tape, k2.output, k2.size, fun k hk => k2.block k (by have := HB1.out.size; omega) (by omega) (by simp [Value.ownBlock])⟩
    have HN2 : Hid (n2 ≤ 301) := hid (by have := b2.le; omega)
    have HR2 : Hid (∀ t z, R = .ok (t, z) → ∃ k : Nat, i = k ∧ Rep w2 ys t k ∧ k + 1 = n2) := r2
    have hz2 : w.heap.size < w2.heap.size := HS2.out.lt
    clear hp s2 o2 k2 b2 r2 HB1 HS1
    obtain ⟨q, hq, hqp, _, hqe, hqo⟩ := St.view HS2.out
    obtain ⟨c0, c1, c2, c3, c4, c5, c6, c7, c8⟩ := hq.all
    cases hRR : R with
    | error x =>
      have HRE : Hid (readQ (bl s) = .error x) := hid (by rw [HRQ.out, hRR])
      obtain ⟨e1, e2, e3⟩ := hqe x (by rw [hRR]; rfl)
      have he0 : ((q.e : Int) == 0) = false := by rw [beq_eq_false_iff_ne]; omega
      have he1 : ((q.e : Int) != 0) = true := by rw [bne_iff_ne]; omega
      have HX : Hid (q.e = x.1 ∧ q.e ≠ 0 ∧ q.pl = x.2) := ⟨e1, e2, e3⟩
      clear e1 e2 e3 hqe hqo hq hRR HRQ HR2
      go_wp2
      go_region
      all_goals
        go_wp2
        go_ret3
        refine ⟨⟨_, q.e, q.pl, rfl, ⟨fun y hy => ?_, fun t ht => ?_⟩⟩, below_drewN' HB2.out 1⟩
        · rw [HRE.out] at hy; injection hy with hy; subst hy; exact ⟨HX.out.1, HX.out.2.2, HX.out.2.1, rfl⟩
        · rw [HRE.out] at ht; cases ht
    | ok x =>
      obtain ⟨t, r⟩ := x
      rw [hRR] at HS2 HR2 HRQ
      obtain ⟨k, hik, hrep, hkn⟩ := HR2.out t r rfl
      obtain ⟨e1, e2⟩ := hqo ((), r) (by rw [hRR]; rfl)
      obtain ⟨f1, f2, f3⟩ := parse_wf _ false _ _ _ _ _ (fun h => nomatch h) (HPR.out.symm.trans hRR)
      have he0 : ((q.e : Int) == 0) = true := by rw [e1]; rfl
      have HW : Hid (wfT t ∧ isNil t = false ∧ wT t ≤ 100000) := ⟨f1, f2, by simp at f3; omega⟩
      have hqk : q.k = (LS.hd r).kind := (tok_k e2).1
      have HREP : Hid (Rep w2 ys t k) := hrep
      have HRW : Hid (RowAt w2 w.heap.size pv2 (k + 1) ys) := ⟨by rw [c0, hqp], by rw [hkn]; exact HO2.out⟩
      have hk3 : k + 1 ≤ 301 := by rw [hkn]; exact HN2.out
      clear hqe hqo hq hrep f1 f2 f3 e1 e2 hRR HR2 hqp HN2 HO2
      subst hik
      by_cases hk0 : (LS.hd r).kind = 0
      · have hkz : ((q.k : Int) != 0) = false := by rw [hqk, hk0]; rfl
        have he1 : ((q.e : Int) != 0) = false := by
          have : (q.e : Int) = 0 := by simpa using he0
          rw [this]; rfl
        have HRE : Hid (readQ (bl s) = if kindT t = 0 then .error (4, 0) else .ok t) := hid (by rw [HRQ.out]; show (if (LS.hd r).kind = 0 then _ else _) = _; rw [if_pos hk0])
        clear hk0 hqk
        go_wp2_with fail
        refine (scalar_any w.heap.size pv2 (k + 1) ys t k w2 HW.out.1 HW.out.2.1 HRW.out HREP.out).mono ?_
        rintro e w3 ⟨rfl, hb3⟩
        have HRW3 : Hid (RowAt w3 w.heap.size pv2 (k + 1) ys) := HRW.out.below hb3
        have HREP3 : Hid (Rep w3 ys t k) := Rep.below hb3 t k HREP.out
        have HB3 : Hid (Below w.heap.size w w3) := HB2.out.trans (hb3.mono (by omega))
        clear hb3
        have hle := kindT_le t
        by_cases hkt : kindT t = 0
        · have hkb : ((kindT t : Int) == 0) = true := by rw [hkt]; rfl
          have HRF : Hid (readQ (bl s) = .error (4, 0)) := hid (by rw [HRE.out, if_pos hkt])
          generalize kindT t = kt at hkb hle ⊢
          clear hkt
          go_wp2
          go_ret3
          refine ⟨⟨_, 4, 0, rfl, ⟨fun y hy => ?_, fun t' ht => ?_⟩⟩, HB3.out⟩
          · rw [HRF.out] at hy; injection hy with hy; subst hy; exact ⟨rfl, rfl, by decide, rfl⟩
          · rw [HRF.out] at ht; cases ht
        · have hkb : ((kindT t : Int) == 0) = false := by rw [beq_eq_false_iff_ne]; omega
          have HRF : Hid (readQ (bl s) = .ok t) := hid (by rw [HRE.out, if_neg hkt])
          generalize kindT t = kt at hkb hle ⊢
          clear hkt
          go_wp2
          go_ret3
          refine ⟨⟨_, 0, 0, rfl, ⟨fun y hy => ?_, fun t' ht => ?_⟩⟩, HB3.out⟩
          · rw [HRF.out] at hy; cases hy
          · rw [HRF.out] at ht; injection ht with ht; subst ht
            exact ⟨rfl, rfl, w.heap.size, rfl, Nat.le_refl _, pv2, k, ys, HRW3.out, hk3, HREP3.out, HW.out.1, HW.out.2.1, HW.out.2.2⟩
      · have hkz : ((q.k : Int) != 0) = true := by rw [hqk, bne_iff_ne]; omega
        have HRE : Hid (readQ (bl s) = .error (2, (LS.hd r).at_)) := hid (by rw [HRQ.out]; show (if (LS.hd r).kind = 0 then _ else _) = _; rw [if_neg hk0])
        clear hk0 hqk
        go_wp2_with fail
        refine (St.fail HS2.out 2 _ rfl (by decide)).mono ?_
        rintro e w3 ⟨rfl, hst, hg⟩
        obtain ⟨q3, hq3, _, _, hqe3, _⟩ := St.view hst
        obtain ⟨g1, g2, g3⟩ := hqe3 (2, (LS.hd r).at_) rfl
        obtain ⟨d0, d1, d2, d3, d4, d5, d6, d7, d8⟩ := hq3.all
        have he1 : ((q3.e : Int) != 0) = true := by rw [bne_iff_ne]; omega
        have HX : Hid (q3.e = 2 ∧ q3.pl = (LS.hd r).at_) := ⟨g1, g3⟩
        have HB3 : Hid (Below w.heap.size w w3) := HB2.out.trans ⟨hg.os, hg.tape, hg.output, hg.size, fun j hj => hg.block j (by omega) (by simp; omega)⟩
        clear hst hg hq3 hqe3 g1 g2 g3 c0 c1 c2 c3 c4 c5 c6 c7 c8
        go_wp2
        go_region
        all_goals
          go_wp2
          go_ret3
          refine ⟨⟨_, q3.e, q3.pl, rfl, ⟨fun y hy => ?_, fun t ht => ?_⟩⟩, below_drewN' HB3.out 1⟩
          · rw [HRE.out] at hy; injection hy with hy; subst hy; exact ⟨HX.out.1, HX.out.2, by rw [HX.out.1]; decide, rfl⟩
          · rw [HRE.out] at ht; cases ht
end Go.Proofs.YtmncdbepjhmkgaaGreatDoor

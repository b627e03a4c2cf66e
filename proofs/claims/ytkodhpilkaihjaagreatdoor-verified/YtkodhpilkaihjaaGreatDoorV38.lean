/- Parts. -/
import Derived.Test.YtkodhpilkaihjaaGreatDoorV20
import Derived.Test.YtkodhpilkaihjaaGreatDoorV37
import Derived.Test.YtkodhpilkaihjaaGreatDoorV35
namespace Go.Proofs.YtkodhpilkaihjaaGreatDoor
open Go.RowKit LS
theorem selQ_errR {l : List UInt8} {x : Nat × Nat} (h : readQ l = .error x) : selQ l = none := by unfold selQ; rw [h]
theorem selQ_kindR {l : List UInt8} {x y : Nat} {a : Nd} {p q : Tr} (h : readQ l = .ok (.node x y a p q)) (hk : a.kind ≠ 1) : selQ l = none := by
  unfold selQ; rw [h]; simp only; rw [if_neg (fun e => hk e.1)]
theorem selQ_yes {l : List UInt8} {x y : Nat} {a : Nd} {p q : Tr} (h : readQ l = .ok (.node x y a p q)) (hk : a.kind = 1) (hs : selS a = l) : selQ l = some a := by
  unfold selQ; rw [h]; simp only; rw [if_pos ⟨hk, hs⟩]
theorem selQ_no {l : List UInt8} {x y : Nat} {a : Nd} {p q : Tr} (h : readQ l = .ok (.node x y a p q)) (hs : ¬ selS a = l) : selQ l = none := by
  unfold selQ; rw [h]; simp only; rw [if_neg (fun e => hs e.2)]
def pvV (p : PV) : Value := .agg #[.int .i64 p.k, .int .i64 p.n, .int .i64 p.op, .string p.nm, .slice p.ca p.cn p.cc, .slice p.ba p.bn p.bc, .int .i64 p.a, .int .i64 p.b]
def pvZ : PV := ⟨0, 0, 0, ⟨#[]⟩, none, 0, 0, none, 0, 0, 0, 0⟩
def PickRes (w : World) (r : Option (Nd × Nat)) (p : PV) (ok : Value) : Prop := match r with
  | none => ok = .bool false
  | some x => ok = .bool true ∧ PkOk w x p
theorem PickRes.mkNone {w : World} {r : Option (Nd × Nat)} {p : PV} (h : r = none) : PickRes w r p (.bool false) := by subst h; rfl
theorem PickRes.mkSome {w : World} {r : Option (Nd × Nat)} {p : PV} {x : Nd × Nat} (h : r = some x) (hp : PkOk w x p) : PickRes w r p (.bool true) := by subst h; exact ⟨rfl, hp⟩
structure FirstP (w : World) (b : Nat) (g cp : Nat) (a : Nd) (p : PV) : Prop where
  at0 : w.cell? ⟨b, 0, none⟩ = some (.slice (some ⟨g, 0, none⟩) 1 cp)
  c : ∀ i, i < 8 → w.cell? ⟨g, i, none⟩ = p.cells[i]?
  k : p.k = a.kind
  nm : bl p.nm = a.name
  cs : CondsAre w 0 p a.conds
  sz : a.name.length + cw a.conds ≤ 200000
theorem read_first {w : World} {b : Nat} {x y : Nat} {a : Nd} {l r : Tr} (h : ReadIs w b (.node x y a l r)) :
    ∃ (g cp n : Nat), w.cell? ⟨b, 0, none⟩ = some (.slice (some ⟨g, 0, none⟩) (n + 1) cp) ∧ n + 1 ≤ 301 ∧ (n ≠ 0 → a.kind ≠ 1) ∧ (n = 0 → ∃ p, FirstP w b g cp a p) := by
  obtain ⟨pv, n, xs, hr, h1, h2, h3, _, h5, h6⟩ := h
  obtain ⟨g, cp, rfl⟩ := own_some hr.own (by omega)
  refine ⟨g, cp, n, hr.cell, h1, fun hn hk => ?_, fun hn => ?_⟩
  · obtain ⟨hl, hr2⟩ := h3.2.2.2.2.2.2.2.2.1 (by omega)
    cases l with
    | node _ _ _ _ _ => cases hl
    | nil => cases r with
      | node _ _ _ _ _ => cases hr2
      | nil =>
        have : n + 1 = 0 + 0 + 1 := h6
        omega
  · subst hn
    obtain ⟨p, _, _, hc, hp, _⟩ := h2
    refine ⟨p, hr.cell, fun i hi => ?_, hp.1, hp.2.2.2.1, hp.2.2.2.2.1, ?_⟩
    · rw [← hc, Nat.zero_mul, List.drop_zero, List.getElem?_take, if_pos hi]
      have hlen : i < xs.length := by
        have := congrArg List.length hc
        rw [Nat.zero_mul, List.drop_zero, List.length_take, cells_len] at this
        omega
      rw [List.getElem?_eq_getElem hlen]
      exact own_cell hr.own _ _ (List.getElem?_eq_getElem hlen)
    · have h7 : ownW a + wT l + wT r ≤ 100000 := h5
      unfold ownW at h7
      omega
def set8p (w : World) (a : Nat) (p : PV) : World := (((((((w.setCell ⟨a, 0, none⟩ (.int .i64 p.k)).setCell ⟨a, 1, none⟩ (.int .i64 p.n)).setCell ⟨a, 2, none⟩ (.int .i64 p.op)).setCell ⟨a, 3, none⟩ (.string p.nm)).setCell ⟨a, 4, none⟩ (.slice p.ca p.cn p.cc)).setCell ⟨a, 5, none⟩ (.slice p.ba p.bn p.bc)).setCell ⟨a, 6, none⟩ (.int .i64 p.a)).setCell ⟨a, 7, none⟩ (.int .i64 p.b)
theorem set8p_at {w : World} {a : Nat} {q p : PV} {t : TypeId} (h : BAt w a q.cells t) : BAt (set8p w a p) a p.cells t :=
  (((((((h.setkM 0 (.int .i64 p.k)).setkM 1 (.int .i64 p.n)).setkM 2 (.int .i64 p.op)).setkM 3 (.string p.nm)).setkM 4 (.slice p.ca p.cn p.cc)).setkM 5 (.slice p.ba p.bn p.bc)).setkM 6 (.int .i64 p.a)).setkM 7 (.int .i64 p.b)
theorem set8p_below {w0 w : World} {a : Nat} (h : Below w0.heap.size w0 w) (ha : w0.heap.size ≤ a) (p : PV) : Below w0.heap.size w0 (set8p w a p) :=
  (((((((h.setCell (p := ⟨a, 0, none⟩) ha _).setCell (p := ⟨a, 1, none⟩) ha _).setCell (p := ⟨a, 2, none⟩) ha _).setCell (p := ⟨a, 3, none⟩) ha _).setCell (p := ⟨a, 4, none⟩) ha _).setCell (p := ⟨a, 5, none⟩) ha _).setCell (p := ⟨a, 6, none⟩) ha _).setCell (p := ⟨a, 7, none⟩) ha _
theorem set8p_heap {w : World} {a k : Nat} (p : PV) (hk : k ≠ a) : (set8p w a p).heap[k]? = w.heap[k]? := by
  unfold set8p
  iterate 8 rw [Go.Deep.blk_setCell_other _ _ _ _ hk]
theorem CondsAre.set8 {w : World} {a : Nat} {q p : PV} {cs : List (List UInt8 × List UInt8 × Bool)} (h : CondsAre w 0 p cs) (hb : BAt w a q.cells 92) (p' : PV) : CondsAre (set8p w a p') 0 p cs := by
  obtain ⟨qs, h1, h2⟩ := h
  refine ⟨qs, own_same h1 (fun k hk => set8p_heap p' ?_), h2⟩
  rintro rfl
  exact own_ne_block h1 hb (by decide) hk.symm
theorem CondsAre.set1 {w : World} {a i : Nat} {v : Value} {q p : PV} {cs : List (List UInt8 × List UInt8 × Bool)} (h : CondsAre w 0 p cs) (hb : BAt w a q.cells 92) : CondsAre (w.setCell ⟨a, i, none⟩ v) 0 p cs := by
  obtain ⟨qs, h1, h2⟩ := h
  refine ⟨qs, own_same h1 (fun k hk => Go.Deep.blk_setCell_other _ _ _ _ ?_), h2⟩
  rintro rfl
  exact own_ne_block h1 hb (by decide) hk.symm
theorem last_at (t : ByteArray) (h : 0 < t.size) : (bl t).getLast? = some (t[t.size - 1]'(by omega)) := by
  rw [List.getLast?_eq_getElem?, bl_length, List.getElem?_eq_getElem (by rw [bl_length]; omega), bl_get t (t.size - 1) (by omega)]
theorem mid_bl (t : ByteArray) (p : Nat) : bl (t.extract (p + 1) (t.size - 1)) = ((bl t).drop (p + 1)).dropLast := by
  rw [bl_extract, List.dropLast_eq_take, List.length_drop, bl_length, List.drop_take]
  congr 1; omega
theorem pre_bl (t : ByteArray) (p : Nat) : bl (t.extract 0 p) = (bl t).take p := by rw [bl_extract, List.drop_zero]
set_option maxRecDepth 100000 in
set_option maxHeartbeats 16000000 in
theorem pickOf_any (t : ByteArray) (w : World) (ht : t.size ≤ 65535) :
    Calls Tryz.prog 50 #[.string t] w fun e w' => ∃ (p : PV) (ok : Value), e = .returned (.tuple #[pvV p, ok]) ∧ Hid (PickRes w' (pickQ (bl t)) p ok) ∧ Below w.heap.size w w' := by
  go_enter Tryz.func50, Tryz.ntmps50
  go_wp2_with fail
  refine calls_gen fun W hW => ?_
  have hbW : Below w.heap.size w W := by rw [hW]; exact (Below.refl _ _).alloc (Nat.le_refl _) _
  have HZW : Hid (BAt W w.heap.size pvZ.cells 92) := hid (by rw [hW]; exact (show BAt _ _ _ _ from Go.Deep.blk_alloc_new w _))
  have HBW := hid hbW
  clear hW hbW
  obtain ⟨rb, hrbe⟩ : ∃ rb, rb = w.heap.size := ⟨_, rfl⟩
  rw [← hrbe] at HZW ⊢
  have hrb : w.heap.size ≤ rb := by omega
  clear hrbe
  refine (seek_big t 91 W (by omega)).mono ?_
  rintro e w1 ⟨rfl, rfl⟩
  rename World => w1
  obtain ⟨pI, hpI⟩ : ∃ pI, seekI 91 (bl t) = pI := ⟨_, rfl⟩
  rw [hpI]
  have HPI := hid hpI
  clear hpI
  go_upto_if 15 with fail
  go_cut [5, 6] (fun s5 s6 wx => ∃ (sel : ByteArray) (nz : Nat), s5 = .int .i64 nz ∧ s6 = .string sel ∧ sel.size ≤ 70000 ∧ wx = w1 ∧ Hid (pickQ (bl t) = (selQ (bl sel)).map fun a => (a, nz)) ∧ nz ≤ 1000 ∧ Hid ((pI = -1 ∧ nz = 0) ∨ (0 ≤ pI ∧ pI ≤ 70000 ∧ 0 < nz)))
  case first =>
    cases hs : LS.seek 91 (bl t) with
    | none =>
      have hn : pI = -1 := by rw [← HPI.out, seekI_none hs]
      subst hn
      go_wp2
      go_meet
      exact ⟨t, 0, rfl, rfl, by omega, rfl, hid (by unfold pickQ; rw [hs]), by decide, hid (by simp)⟩
    | some p =>
      have hn : pI = (p : Int) := by rw [← HPI.out, seekI_some hs]
      subst hn
      have hp : p < t.size := by
        have := seek_lt hs; rwa [bl_length] at this
      have hlast := last_at t (by omega)
      have HPQ : Hid (pickQ (bl t) = if (bl t).getLast? = some 93 then (match number 1000 ((bl t).drop (p + 1)).dropLast with
        | some n => if n = 0 then none else (selQ ((bl t).take p)).map fun a => (a, n)
        | none => none) else none) := hid (by unfold pickQ; rw [hs]; rfl)
      by_cases h93 : (bl t).getLast? = some 93
      · have hc : t[t.size - 1]'(by omega) = 93 := by rw [hlast] at h93; injection h93
        have d93 : (((t[t.size - 1]'(by omega)).toNat : Int) != 93) = false := by rw [hc]; rfl
        have hne : ¬ p = t.size - 1 := by
          intro e
          obtain ⟨a, b, h1, h2, _⟩ := seek_some hs
          have h3 : (bl t)[p]? = some 91 := by rw [h1, ← h2]; simp
          rw [List.getLast?_eq_getElem?, bl_length, ← e, h3] at h93
          exact absurd h93 (by decide)
        have hle : p + 1 ≤ t.size - 1 := by omega
        rw [if_pos h93] at HPQ
        clear hc hlast h93 hne
        go_wp2_with fail
        refine (rNumber_big _ 1000 _ (by rw [ByteArray.size_extract]; omega) (by decide)).mono ?_
        rintro e w2 ⟨rfl, rfl⟩
        rename World => w1
        rw [mid_bl t p]
        obtain ⟨l1, hl1⟩ : ∃ l1, l1 = ((bl t).drop (p + 1)).dropLast := ⟨_, rfl⟩
        rw [← hl1] at HPQ ⊢
        clear hl1
        have hnb := numI_bounds 1000 l1
        obtain ⟨nI, hnI⟩ : ∃ nI, numI 1000 l1 = nI := ⟨_, rfl⟩
        rw [hnI] at hnb ⊢
        have HNI := hid hnI
        clear hnI
        by_cases h1 : nI < 1
        · have HN : Hid (pickQ (bl t) = none) := hid (by
            rw [HPQ.out]
            cases hnum : number 1000 l1 with
            | none => rfl
            | some n =>
              have := HNI.out
              rw [numI_some hnum] at this
              simp only
              rw [if_pos (by omega)])
          clear HPQ d93
          have z0 := HZW.out.cell 0
          have z1 := HZW.out.cell 1
          have z2 := HZW.out.cell 2
          have z3 := HZW.out.cell 3
          have z4 := HZW.out.cell 4
          have z5 := HZW.out.cell 5
          have z6 := HZW.out.cell 6
          have z7 := HZW.out.cell 7
          simp only [pvZ, PV.cells, List.getElem?_cons_zero, List.getElem?_cons_succ] at z0 z1 z2 z3 z4 z5 z6 z7
          have f0 := HZW.out.frozen 0
          have f1 := HZW.out.frozen 1
          have f2 := HZW.out.frozen 2
          have f3 := HZW.out.frozen 3
          have f4 := HZW.out.frozen 4
          have f5 := HZW.out.frozen 5
          have f6 := HZW.out.frozen 6
          have f7 := HZW.out.frozen 7
          have hzl := HZW.out.lt
          go_wp2
          change bodyPost _ _ _ _ _ (set8p w1 rb pvZ)
          have st := set8p_at (p := pvZ) HZW.out
          have s0 : (set8p w1 rb pvZ).cell? ⟨rb, 0, none⟩ = some (.int .i64 0) := st.cell 0
          have s1 : (set8p w1 rb pvZ).cell? ⟨rb, 1, none⟩ = some (.int .i64 0) := st.cell 1
          have s2 : (set8p w1 rb pvZ).cell? ⟨rb, 2, none⟩ = some (.int .i64 0) := st.cell 2
          have s3 : (set8p w1 rb pvZ).cell? ⟨rb, 3, none⟩ = some (.string ⟨#[]⟩) := st.cell 3
          have s4 : (set8p w1 rb pvZ).cell? ⟨rb, 4, none⟩ = some (.slice none 0 0) := st.cell 4
          have s5 : (set8p w1 rb pvZ).cell? ⟨rb, 5, none⟩ = some (.slice none 0 0) := st.cell 5
          have s6 : (set8p w1 rb pvZ).cell? ⟨rb, 6, none⟩ = some (.int .i64 0) := st.cell 6
          have s7 : (set8p w1 rb pvZ).cell? ⟨rb, 7, none⟩ = some (.int .i64 0) := st.cell 7
          have HBX := hid (set8p_below HBW.out hrb pvZ)
          clear z0 f0 z1 f1 z2 f2 z3 f3 z4 f4 z5 f5 z6 f6 z7 f7
          generalize set8p w1 rb pvZ = WX at *
          exact bodyPost_ret (v := .tuple #[pvV pvZ, .bool false]) (by simp [results, Tryz.results50, go_sem, pvV, pvZ, s0, s1, s2, s3, s4, s5, s6, s7]) rfl ⟨pvZ, _, rfl, hid (PickRes.mkNone HN.out), HBX.out⟩
        · obtain ⟨n, rfl⟩ : ∃ n : Nat, nI = n := ⟨nI.toNat, by omega⟩
          have hn1 : 0 < n := by omega
          have HN : Hid (pickQ (bl t) = (selQ (bl (t.extract 0 p))).map fun a => (a, n)) := hid (by
            rw [HPQ.out, pre_bl]
            cases hnum : number 1000 l1 with
            | none => have := HNI.out; rw [numI_none hnum] at this; omega
            | some m =>
              have := HNI.out
              rw [numI_some hnum] at this
              obtain rfl : m = n := by omega
              simp only
              rw [if_neg (by omega)])
          clear HPQ d93
          go_wp2
          go_meet
          exact ⟨_, n, rfl, rfl, by rw [ByteArray.size_extract]; omega, rfl, HN, by omega, hid (Or.inr ⟨by omega, by omega, hn1⟩)⟩
      · have d93 : (((t[t.size - 1]'(by omega)).toNat : Int) != 93) = true := by
          rw [bne_iff_ne]
          intro e
          exact h93 (by rw [hlast]; congr 1; exact UInt8.toNat_inj.1 (by show _ = 93; omega))
        have HN : Hid (pickQ (bl t) = none) := hid (by rw [HPQ.out, if_neg h93])
        clear hlast h93 HPQ
        have z0 := HZW.out.cell 0
        have z1 := HZW.out.cell 1
        have z2 := HZW.out.cell 2
        have z3 := HZW.out.cell 3
        have z4 := HZW.out.cell 4
        have z5 := HZW.out.cell 5
        have z6 := HZW.out.cell 6
        have z7 := HZW.out.cell 7
        simp only [pvZ, PV.cells, List.getElem?_cons_zero, List.getElem?_cons_succ] at z0 z1 z2 z3 z4 z5 z6 z7
        have f0 := HZW.out.frozen 0
        have f1 := HZW.out.frozen 1
        have f2 := HZW.out.frozen 2
        have f3 := HZW.out.frozen 3
        have f4 := HZW.out.frozen 4
        have f5 := HZW.out.frozen 5
        have f6 := HZW.out.frozen 6
        have f7 := HZW.out.frozen 7
        have hzl := HZW.out.lt
        go_wp2
        change bodyPost _ _ _ _ _ (set8p w1 rb pvZ)
        have st := set8p_at (p := pvZ) HZW.out
        have s0 : (set8p w1 rb pvZ).cell? ⟨rb, 0, none⟩ = some (.int .i64 0) := st.cell 0
        have s1 : (set8p w1 rb pvZ).cell? ⟨rb, 1, none⟩ = some (.int .i64 0) := st.cell 1
        have s2 : (set8p w1 rb pvZ).cell? ⟨rb, 2, none⟩ = some (.int .i64 0) := st.cell 2
        have s3 : (set8p w1 rb pvZ).cell? ⟨rb, 3, none⟩ = some (.string ⟨#[]⟩) := st.cell 3
        have s4 : (set8p w1 rb pvZ).cell? ⟨rb, 4, none⟩ = some (.slice none 0 0) := st.cell 4
        have s5 : (set8p w1 rb pvZ).cell? ⟨rb, 5, none⟩ = some (.slice none 0 0) := st.cell 5
        have s6 : (set8p w1 rb pvZ).cell? ⟨rb, 6, none⟩ = some (.int .i64 0) := st.cell 6
        have s7 : (set8p w1 rb pvZ).cell? ⟨rb, 7, none⟩ = some (.int .i64 0) := st.cell 7
        have HBX := hid (set8p_below HBW.out hrb pvZ)
        clear z0 f0 z1 f1 z2 f2 z3 f3 z4 f4 z5 f5 z6 f6 z7 f7
        generalize set8p w1 rb pvZ = WX at *
        exact bodyPost_ret (v := .tuple #[pvV pvZ, .bool false]) (by simp [results, Tryz.results50, go_sem, pvV, pvZ, s0, s1, s2, s3, s4, s5, s6, s7]) rfl ⟨pvZ, _, rfl, hid (PickRes.mkNone HN.out), HBX.out⟩
  case rest =>
  obtain ⟨sel, nz, rfl, rfl, hsel, rfl, HPQ, hnz, HPN⟩ := hcut
  rename World => w1
  go_wp2_with fail
  refine (read_any sel w1 (by omega)).mono ?_
  rintro e w2 ⟨⟨v, cn, pn, rfl, HRD⟩, hb2⟩
  have HB2 : Hid (Below w.heap.size w w2) := hid (HBW.out.trans (hb2.mono HBW.out.size))
  have HZ2 := hid (HZW.out.below hb2)
  clear hb2 HZW HBW
  cases hq : readQ (bl sel) with
  | error x =>
    obtain ⟨h1, _, h3, h4⟩ := HRD.out.1 x hq
    subst h4
    have HN : Hid (pickQ (bl t) = none) := hid (by rw [HPQ.out, selQ_errR hq]; rfl)
    have hcn : ((cn : Int) != 0) = true := by rw [bne_iff_ne]; omega
    clear HRD h1 h3 hq
    have z0 := HZ2.out.cell 0
    have z1 := HZ2.out.cell 1
    have z2 := HZ2.out.cell 2
    have z3 := HZ2.out.cell 3
    have z4 := HZ2.out.cell 4
    have z5 := HZ2.out.cell 5
    have z6 := HZ2.out.cell 6
    have z7 := HZ2.out.cell 7
    simp only [pvZ, PV.cells, List.getElem?_cons_zero, List.getElem?_cons_succ] at z0 z1 z2 z3 z4 z5 z6 z7
    have f0 := HZ2.out.frozen 0
    have f1 := HZ2.out.frozen 1
    have f2 := HZ2.out.frozen 2
    have f3 := HZ2.out.frozen 3
    have f4 := HZ2.out.frozen 4
    have f5 := HZ2.out.frozen 5
    have f6 := HZ2.out.frozen 6
    have f7 := HZ2.out.frozen 7
    have hzl := HZ2.out.lt
    go_wp2
    change bodyPost _ _ _ _ _ (set8p w2 rb pvZ)
    have st := set8p_at (p := pvZ) HZ2.out
    have s0 : (set8p w2 rb pvZ).cell? ⟨rb, 0, none⟩ = some (.int .i64 0) := st.cell 0
    have s1 : (set8p w2 rb pvZ).cell? ⟨rb, 1, none⟩ = some (.int .i64 0) := st.cell 1
    have s2 : (set8p w2 rb pvZ).cell? ⟨rb, 2, none⟩ = some (.int .i64 0) := st.cell 2
    have s3 : (set8p w2 rb pvZ).cell? ⟨rb, 3, none⟩ = some (.string ⟨#[]⟩) := st.cell 3
    have s4 : (set8p w2 rb pvZ).cell? ⟨rb, 4, none⟩ = some (.slice none 0 0) := st.cell 4
    have s5 : (set8p w2 rb pvZ).cell? ⟨rb, 5, none⟩ = some (.slice none 0 0) := st.cell 5
    have s6 : (set8p w2 rb pvZ).cell? ⟨rb, 6, none⟩ = some (.int .i64 0) := st.cell 6
    have s7 : (set8p w2 rb pvZ).cell? ⟨rb, 7, none⟩ = some (.int .i64 0) := st.cell 7
    have HBX := hid (set8p_below HB2.out hrb pvZ)
    clear z0 f0 z1 f1 z2 f2 z3 f3 z4 f4 z5 f5 z6 f6 z7 f7
    generalize set8p w2 rb pvZ = WX at *
    exact bodyPost_ret (v := .tuple #[pvV pvZ, .bool false]) (by simp [results, Tryz.results50, go_sem, pvV, pvZ, s0, s1, s2, s3, s4, s5, s6, s7]) rfl ⟨pvZ, _, rfl, hid (PickRes.mkNone HN.out), HBX.out⟩
  | ok tr =>
    obtain ⟨h1, _, b, h4, hbb, hri⟩ := HRD.out.2 tr hq
    subst h1 h4
    cases tr with
    | nil =>
      obtain ⟨_, _, _, _, _, _, _, hnil, _⟩ := hri
      cases hnil
    | node tx ty a l r =>
      obtain ⟨g, cp, n, hc0, hn3, hnk, hfst⟩ := read_first hri
      have HFS := hid hfst
      have HRO := hid hri
      clear HRD hri hfst
      have hbl := World.block_lt_of_cell? _ _ hc0
      simp only at hbl
      by_cases hn0 : n = 0
      · subst hn0
        obtain ⟨p, HF⟩ := HFS.out rfl
        have HF := hid HF
        have p0 := HF.out.c 0 (by decide)
        have p1 := HF.out.c 1 (by decide)
        have p2 := HF.out.c 2 (by decide)
        have p3 := HF.out.c 3 (by decide)
        have p4 := HF.out.c 4 (by decide)
        have p5 := HF.out.c 5 (by decide)
        have p6 := HF.out.c 6 (by decide)
        have p7 := HF.out.c 7 (by decide)
        simp only [PV.cells, List.getElem?_cons_zero, List.getElem?_cons_succ] at p0 p1 p2 p3 p4 p5 p6 p7
        have hgl := World.block_lt_of_cell? _ _ p0
        simp only at hgl
        by_cases hk1 : a.kind = 1
        · have hpk : p.k = 1 := by rw [HF.out.k, hk1]; rfl
          have HPK := hid hpk
          rw [hpk] at p0
          clear hpk hnk
          go_wp2_with fail
          rw [← HPK.out]
          refine (selText_any w2 p a HF.out.nm HF.out.cs HF.out.sz).mono ?_
          rintro e w3 ⟨r3, rfl, hr3, HR3, hb3⟩
          have HB3 : Hid (Below w.heap.size w w3) := hid (HB2.out.trans (hb3.mono HB2.out.size))
          have HZ3 := hid (HZ2.out.below hb3)
          have HC3 : Hid (∀ q : Addr, q.block < w2.heap.size → w3.cell? q = w2.cell? q) := hid (fun q hq => hb3.cell hq)
          have hc3 := (HC3.out ⟨b, 0, none⟩ hbl).trans hc0
          have HCS3 := hid (HF.out.cs.below' hb3)
          have q0 := (HC3.out ⟨g, 0, none⟩ hgl).trans p0
          have q1 := (HC3.out ⟨g, 1, none⟩ hgl).trans p1
          have q2 := (HC3.out ⟨g, 2, none⟩ hgl).trans p2
          have q3 := (HC3.out ⟨g, 3, none⟩ hgl).trans p3
          have q4 := (HC3.out ⟨g, 4, none⟩ hgl).trans p4
          have q5 := (HC3.out ⟨g, 5, none⟩ hgl).trans p5
          have q6 := (HC3.out ⟨g, 6, none⟩ hgl).trans p6
          have q7 := (HC3.out ⟨g, 7, none⟩ hgl).trans p7
          have hbl3 : b < w3.heap.size := Nat.lt_of_lt_of_le hbl hb3.size
          have hgl3 : g < w3.heap.size := Nat.lt_of_lt_of_le hgl hb3.size
          clear p0 p1 p2 p3 p4 p5 p6 p7 hc0 hb3 hbl hgl HC3 HZ2 HB2
          by_cases hse : selS a = bl sel
          · have hre : r3 = sel := bl_inj (HR3.out.trans hse)
            subst hre
            have HSQ : Hid (pickQ (bl t) = some (a, nz)) := hid (by rw [HPQ.out, selQ_yes hq hk1 hse]; rfl)
            clear hse hq hk1 HPQ
            go_upto_if 82 with fail
            refine wp_gen fun W4 hW4 => ?_
            have hb4 : Below w3.heap.size w3 W4 := by rw [hW4]; exact (Below.refl _ _).alloc (Nat.le_refl _) _
            have HX4 : Hid (BAt W4 w3.heap.size ({ p with k := 1 } : PV).cells 92) := hid (by rw [hW4]; exact (show BAt _ _ _ _ from Go.Deep.blk_alloc_new w3 _))
            have HZ4 := hid (HZ3.out.below hb4)
            have HB4 := hid (HB3.out.trans (hb4.mono HB3.out.size))
            have HCS4 := hid (HCS3.out.below' hb4)
            have hxr : ¬ w3.heap.size = rb := by have := HZ3.out.lt; omega
            have hwx : w.heap.size ≤ w3.heap.size := HB3.out.size
            clear hW4 hb4 q0 q1 q2 q3 q4 q5 q6 q7 hc3 hbl3 hgl3 HCS3 HZ3 HB3
            generalize w3.heap.size = xa at *
            rcases HPN.out with ⟨e1, e2⟩ | ⟨e1, e1b, e2⟩
            · subst e1 e2
              have z0 := HZ4.out.cell 0
              have z1 := HZ4.out.cell 1
              have z2 := HZ4.out.cell 2
              have z3 := HZ4.out.cell 3
              have z4 := HZ4.out.cell 4
              have z5 := HZ4.out.cell 5
              have z6 := HZ4.out.cell 6
              have z7 := HZ4.out.cell 7
              simp only [pvZ, PV.cells, List.getElem?_cons_zero, List.getElem?_cons_succ] at z0 z1 z2 z3 z4 z5 z6 z7
              have f0 := HZ4.out.frozen 0
              have f1 := HZ4.out.frozen 1
              have f2 := HZ4.out.frozen 2
              have f3 := HZ4.out.frozen 3
              have f4 := HZ4.out.frozen 4
              have f5 := HZ4.out.frozen 5
              have f6 := HZ4.out.frozen 6
              have f7 := HZ4.out.frozen 7
              have x0 := HX4.out.cell 0
              have x1 := HX4.out.cell 1
              have x2 := HX4.out.cell 2
              have x3 := HX4.out.cell 3
              have x4 := HX4.out.cell 4
              have x5 := HX4.out.cell 5
              have x6 := HX4.out.cell 6
              have x7 := HX4.out.cell 7
              simp only [PV.cells, List.getElem?_cons_zero, List.getElem?_cons_succ] at x0 x1 x2 x3 x4 x5 x6 x7
              have hzl := HZ4.out.lt
              have hxl := HX4.out.lt
              go_wp2
              change bodyPost _ _ _ _ _ (set8p W4 rb { p with k := 1 })
              have HZ5 := hid (HZ4.out)
              have st := set8p_at (p := { p with k := 1 }) HZ5.out
              have s0 := st.cell 0
              have s1 := st.cell 1
              have s2 := st.cell 2
              have s3 := st.cell 3
              have s4 := st.cell 4
              have s5 := st.cell 5
              have s6 := st.cell 6
              have s7 := st.cell 7
              simp only [PV.cells, List.getElem?_cons_zero, List.getElem?_cons_succ] at s0 s1 s2 s3 s4 s5 s6 s7
              have HBX := hid (set8p_below (HB4.out) hrb { p with k := 1 })
              have HCX : Hid (CondsAre (set8p W4 rb { p with k := 1 }) 0 p a.conds) := hid ((HCS4.out).set8 HZ5.out _)
              clear z0 f0 x0 z1 f1 x1 z2 f2 x2 z3 f3 x3 z4 f4 x4 z5 f5 x5 z6 f6 x6 z7 f7 x7
              generalize set8p W4 rb { p with k := 1 } = WX at *
              have HOKX : Hid (PkOk WX (a, 0) { p with k := 1 }) := hid ⟨by rfl, fun h => absurd h (Nat.not_lt_zero _), HF.out.nm, HCX.out⟩
              exact bodyPost_ret (v := .tuple #[pvV { p with k := 1 }, .bool true]) (by simp [results, Tryz.results50, go_sem, pvV, s0, s1, s2, s3, s4, s5, s6, s7]) rfl ⟨_, _, rfl, hid (PickRes.mkSome HSQ.out HOKX.out), HBX.out⟩
            · clear HPN
              have z0 := HZ4.out.cell 0
              have z1 := HZ4.out.cell 1
              have z2 := HZ4.out.cell 2
              have z3 := HZ4.out.cell 3
              have z4 := HZ4.out.cell 4
              have z5 := HZ4.out.cell 5
              have z6 := HZ4.out.cell 6
              have z7 := HZ4.out.cell 7
              simp only [pvZ, PV.cells, List.getElem?_cons_zero, List.getElem?_cons_succ] at z0 z1 z2 z3 z4 z5 z6 z7
              have f0 := HZ4.out.frozen 0
              have f1 := HZ4.out.frozen 1
              have f2 := HZ4.out.frozen 2
              have f3 := HZ4.out.frozen 3
              have f4 := HZ4.out.frozen 4
              have f5 := HZ4.out.frozen 5
              have f6 := HZ4.out.frozen 6
              have f7 := HZ4.out.frozen 7
              have x0 := HX4.out.cell 0
              have x1 := HX4.out.cell 1
              have x2 := HX4.out.cell 2
              have x3 := HX4.out.cell 3
              have x4 := HX4.out.cell 4
              have x5 := HX4.out.cell 5
              have x6 := HX4.out.cell 6
              have x7 := HX4.out.cell 7
              simp only [PV.cells, List.getElem?_cons_zero, List.getElem?_cons_succ] at x0 x1 x2 x3 x4 x5 x6 x7
              have hzl := HZ4.out.lt
              have hxl := HX4.out.lt
              have xf0 := HX4.out.frozen 0
              have xf1 := HX4.out.frozen 1
              go_wp2
              change bodyPost _ _ _ _ _ (set8p ((W4.setCell ⟨xa, 0, none⟩ (.int .i64 2)).setCell ⟨xa, 1, none⟩ (.int .i64 nz)) rb { p with k := 2, n := nz })
              have HZ5 := hid ((HZ4.out.other (p := ⟨xa, 0, none⟩) (fun e => hxr e.symm) (.int .i64 2)).other (p := ⟨xa, 1, none⟩) (fun e => hxr e.symm) (.int .i64 nz))
              have st := set8p_at (p := { p with k := 2, n := nz }) HZ5.out
              have s0 := st.cell 0
              have s1 := st.cell 1
              have s2 := st.cell 2
              have s3 := st.cell 3
              have s4 := st.cell 4
              have s5 := st.cell 5
              have s6 := st.cell 6
              have s7 := st.cell 7
              simp only [PV.cells, List.getElem?_cons_zero, List.getElem?_cons_succ] at s0 s1 s2 s3 s4 s5 s6 s7
              have HBX := hid (set8p_below ((HB4.out.setCell (p := ⟨xa, 0, none⟩) hwx (.int .i64 2)).setCell (p := ⟨xa, 1, none⟩) hwx (.int .i64 nz)) hrb { p with k := 2, n := nz })
              have HCX : Hid (CondsAre (set8p ((W4.setCell ⟨xa, 0, none⟩ (.int .i64 2)).setCell ⟨xa, 1, none⟩ (.int .i64 nz)) rb { p with k := 2, n := nz }) 0 p a.conds) := hid (((HCS4.out.set1 HX4.out).set1 (q := { p with k := 2 }) (HX4.out.setkM 0 _)).set8 HZ5.out _)
              clear z0 f0 x0 z1 f1 x1 z2 f2 x2 z3 f3 x3 z4 f4 x4 z5 f5 x5 z6 f6 x6 z7 f7 x7
              generalize set8p ((W4.setCell ⟨xa, 0, none⟩ (.int .i64 2)).setCell ⟨xa, 1, none⟩ (.int .i64 nz)) rb { p with k := 2, n := nz } = WX at *
              have HOKX : Hid (PkOk WX (a, nz) { p with k := 2, n := nz }) := hid ⟨by show (2 : Int) = if 0 < nz then 2 else 1; rw [if_pos e2], fun _ => rfl, HF.out.nm, HCX.out⟩
              exact bodyPost_ret (v := .tuple #[pvV { p with k := 2, n := nz }, .bool true]) (by simp [results, Tryz.results50, go_sem, pvV, s0, s1, s2, s3, s4, s5, s6, s7]) rfl ⟨_, _, rfl, hid (PickRes.mkSome HSQ.out HOKX.out), HBX.out⟩
          · have hne : (r3.toList != sel.toList) = true := by
              rw [bne_iff_ne]
              intro e
              exact hse (by rw [← HR3.out, ← toList_bl, ← toList_bl, e])
            have hne2 : (r3.toList == sel.toList) = false := by
              rw [beq_eq_false_iff_ne]
              intro e
              exact hse (by rw [← HR3.out, ← toList_bl, ← toList_bl, e])
            have HN : Hid (pickQ (bl t) = none) := hid (by rw [HPQ.out, selQ_no hq hse]; rfl)
            clear hse hq hk1 HPQ
            have z0 := HZ3.out.cell 0
            have z1 := HZ3.out.cell 1
            have z2 := HZ3.out.cell 2
            have z3 := HZ3.out.cell 3
            have z4 := HZ3.out.cell 4
            have z5 := HZ3.out.cell 5
            have z6 := HZ3.out.cell 6
            have z7 := HZ3.out.cell 7
            simp only [pvZ, PV.cells, List.getElem?_cons_zero, List.getElem?_cons_succ] at z0 z1 z2 z3 z4 z5 z6 z7
            have f0 := HZ3.out.frozen 0
            have f1 := HZ3.out.frozen 1
            have f2 := HZ3.out.frozen 2
            have f3 := HZ3.out.frozen 3
            have f4 := HZ3.out.frozen 4
            have f5 := HZ3.out.frozen 5
            have f6 := HZ3.out.frozen 6
            have f7 := HZ3.out.frozen 7
            have hzl := HZ3.out.lt
            go_wp2
            change bodyPost _ _ _ _ _ (set8p w3 rb pvZ)
            have st := set8p_at (p := pvZ) HZ3.out
            have s0 : (set8p w3 rb pvZ).cell? ⟨rb, 0, none⟩ = some (.int .i64 0) := st.cell 0
            have s1 : (set8p w3 rb pvZ).cell? ⟨rb, 1, none⟩ = some (.int .i64 0) := st.cell 1
            have s2 : (set8p w3 rb pvZ).cell? ⟨rb, 2, none⟩ = some (.int .i64 0) := st.cell 2
            have s3 : (set8p w3 rb pvZ).cell? ⟨rb, 3, none⟩ = some (.string ⟨#[]⟩) := st.cell 3
            have s4 : (set8p w3 rb pvZ).cell? ⟨rb, 4, none⟩ = some (.slice none 0 0) := st.cell 4
            have s5 : (set8p w3 rb pvZ).cell? ⟨rb, 5, none⟩ = some (.slice none 0 0) := st.cell 5
            have s6 : (set8p w3 rb pvZ).cell? ⟨rb, 6, none⟩ = some (.int .i64 0) := st.cell 6
            have s7 : (set8p w3 rb pvZ).cell? ⟨rb, 7, none⟩ = some (.int .i64 0) := st.cell 7
            have HBX := hid (set8p_below HB3.out hrb pvZ)
            clear z0 f0 z1 f1 z2 f2 z3 f3 z4 f4 z5 f5 z6 f6 z7 f7
            generalize set8p w3 rb pvZ = WX at *
            exact bodyPost_ret (v := .tuple #[pvV pvZ, .bool false]) (by simp [results, Tryz.results50, go_sem, pvV, pvZ, s0, s1, s2, s3, s4, s5, s6, s7]) rfl ⟨pvZ, _, rfl, hid (PickRes.mkNone HN.out), HBX.out⟩
        · have hpk : ((p.k : Int) != 1) = true := by rw [bne_iff_ne, HF.out.k]; omega
          have HN : Hid (pickQ (bl t) = none) := hid (by rw [HPQ.out, selQ_kindR hq hk1]; rfl)
          clear hk1 hq
          have z0 := HZ2.out.cell 0
          have z1 := HZ2.out.cell 1
          have z2 := HZ2.out.cell 2
          have z3 := HZ2.out.cell 3
          have z4 := HZ2.out.cell 4
          have z5 := HZ2.out.cell 5
          have z6 := HZ2.out.cell 6
          have z7 := HZ2.out.cell 7
          simp only [pvZ, PV.cells, List.getElem?_cons_zero, List.getElem?_cons_succ] at z0 z1 z2 z3 z4 z5 z6 z7
          have f0 := HZ2.out.frozen 0
          have f1 := HZ2.out.frozen 1
          have f2 := HZ2.out.frozen 2
          have f3 := HZ2.out.frozen 3
          have f4 := HZ2.out.frozen 4
          have f5 := HZ2.out.frozen 5
          have f6 := HZ2.out.frozen 6
          have f7 := HZ2.out.frozen 7
          have hzl := HZ2.out.lt
          go_wp2
          change bodyPost _ _ _ _ _ (set8p w2 rb pvZ)
          have st := set8p_at (p := pvZ) HZ2.out
          have s0 : (set8p w2 rb pvZ).cell? ⟨rb, 0, none⟩ = some (.int .i64 0) := st.cell 0
          have s1 : (set8p w2 rb pvZ).cell? ⟨rb, 1, none⟩ = some (.int .i64 0) := st.cell 1
          have s2 : (set8p w2 rb pvZ).cell? ⟨rb, 2, none⟩ = some (.int .i64 0) := st.cell 2
          have s3 : (set8p w2 rb pvZ).cell? ⟨rb, 3, none⟩ = some (.string ⟨#[]⟩) := st.cell 3
          have s4 : (set8p w2 rb pvZ).cell? ⟨rb, 4, none⟩ = some (.slice none 0 0) := st.cell 4
          have s5 : (set8p w2 rb pvZ).cell? ⟨rb, 5, none⟩ = some (.slice none 0 0) := st.cell 5
          have s6 : (set8p w2 rb pvZ).cell? ⟨rb, 6, none⟩ = some (.int .i64 0) := st.cell 6
          have s7 : (set8p w2 rb pvZ).cell? ⟨rb, 7, none⟩ = some (.int .i64 0) := st.cell 7
          have HBX := hid (set8p_below HB2.out hrb pvZ)
          clear z0 f0 z1 f1 z2 f2 z3 f3 z4 f4 z5 f5 z6 f6 z7 f7
          generalize set8p w2 rb pvZ = WX at *
          exact bodyPost_ret (v := .tuple #[pvV pvZ, .bool false]) (by simp [results, Tryz.results50, go_sem, pvV, pvZ, s0, s1, s2, s3, s4, s5, s6, s7]) rfl ⟨pvZ, _, rfl, hid (PickRes.mkNone HN.out), HBX.out⟩
      · have hnn : ((IntKind.i64.wrap ((n : Int) + 1)) != 1) = true := by rw [bne_iff_ne, IntKind.wrap_i64]; omega
        have HN : Hid (pickQ (bl t) = none) := hid (by rw [HPQ.out, selQ_kindR hq (hnk hn0)]; rfl)
        clear hq hnk
        have z0 := HZ2.out.cell 0
        have z1 := HZ2.out.cell 1
        have z2 := HZ2.out.cell 2
        have z3 := HZ2.out.cell 3
        have z4 := HZ2.out.cell 4
        have z5 := HZ2.out.cell 5
        have z6 := HZ2.out.cell 6
        have z7 := HZ2.out.cell 7
        simp only [pvZ, PV.cells, List.getElem?_cons_zero, List.getElem?_cons_succ] at z0 z1 z2 z3 z4 z5 z6 z7
        have f0 := HZ2.out.frozen 0
        have f1 := HZ2.out.frozen 1
        have f2 := HZ2.out.frozen 2
        have f3 := HZ2.out.frozen 3
        have f4 := HZ2.out.frozen 4
        have f5 := HZ2.out.frozen 5
        have f6 := HZ2.out.frozen 6
        have f7 := HZ2.out.frozen 7
        have hzl := HZ2.out.lt
        go_wp2
        change bodyPost _ _ _ _ _ (set8p w2 rb pvZ)
        have st := set8p_at (p := pvZ) HZ2.out
        have s0 : (set8p w2 rb pvZ).cell? ⟨rb, 0, none⟩ = some (.int .i64 0) := st.cell 0
        have s1 : (set8p w2 rb pvZ).cell? ⟨rb, 1, none⟩ = some (.int .i64 0) := st.cell 1
        have s2 : (set8p w2 rb pvZ).cell? ⟨rb, 2, none⟩ = some (.int .i64 0) := st.cell 2
        have s3 : (set8p w2 rb pvZ).cell? ⟨rb, 3, none⟩ = some (.string ⟨#[]⟩) := st.cell 3
        have s4 : (set8p w2 rb pvZ).cell? ⟨rb, 4, none⟩ = some (.slice none 0 0) := st.cell 4
        have s5 : (set8p w2 rb pvZ).cell? ⟨rb, 5, none⟩ = some (.slice none 0 0) := st.cell 5
        have s6 : (set8p w2 rb pvZ).cell? ⟨rb, 6, none⟩ = some (.int .i64 0) := st.cell 6
        have s7 : (set8p w2 rb pvZ).cell? ⟨rb, 7, none⟩ = some (.int .i64 0) := st.cell 7
        have HBX := hid (set8p_below HB2.out hrb pvZ)
        clear z0 f0 z1 f1 z2 f2 z3 f3 z4 f4 z5 f5 z6 f6 z7 f7
        generalize set8p w2 rb pvZ = WX at *
        exact bodyPost_ret (v := .tuple #[pvV pvZ, .bool false]) (by simp [results, Tryz.results50, go_sem, pvV, pvZ, s0, s1, s2, s3, s4, s5, s6, s7]) rfl ⟨pvZ, _, rfl, hid (PickRes.mkNone HN.out), HBX.out⟩
end Go.Proofs.YtkodhpilkaihjaaGreatDoor

/- Parts of the proof, joined: DSel, DPart -/
import Derived.Test.YtmncdbepjhmkgaaGreatDoorJ32
import Derived.Test.YtmncdbepjhmkgaaGreatDoorJ27
import Derived.Test.YtmncdbepjhmkgaaGreatDoorJ17
/- A selector, as the program reads it. -/
namespace Go.Proofs.YtmncdbepjhmkgaaGreatDoor
open Go.RowKit LS

def canB (s : ByteArray) : Bool := !decide (wOr = bl s) && !decide (wBy = bl s) && !(idx (bl s) groupWords).isSome && !(idx (bl s) overWords).isSome
theorem canName_b (s : ByteArray) (w : World) : Calls Tryz.prog 94 #[.string s] w fun e w' => e = .returned (.bool (canB s)) ∧ w' = w := canName_any s w
theorem not_or {s : List UInt8} {a : List UInt8} (h : s = a) : decide (a = s) = true := by rw [h]; exact decide_eq_true rfl
/-- the program asks the text alone, and the kind behind it: that comes to the same. -/
theorem nameP_can {ts : List Tok} {s : ByteArray} (hs : bl s = (hd ts).txt) (hc : canB s = true) : nameP ts = kindP 2 ts := by
  unfold nameP
  by_cases hr : reserved (hd ts) = true
  · rw [if_pos hr]
    exfalso
    unfold canB at hc
    rw [hs] at hc
    unfold reserved at hr
    simp only [Bool.and_eq_true, Bool.not_eq_true', decide_eq_false_iff_not] at hc
    simp only [Bool.or_eq_true] at hr
    obtain ⟨⟨⟨h1, h2⟩, h3⟩, h4⟩ := hc
    rcases hr with ((hr | hr) | hr) | hr
    · rw [h3] at hr; cases hr
    · rw [h4] at hr; cases hr
    · exact h1 (isT_txt hr).symm
    · exact h2 (isT_txt hr).symm
  · rw [if_neg hr]
theorem nameP_cannot {ts : List Tok} {s : ByteArray} (hs : bl s = (hd ts).txt) (hc : canB s = false) : nameP ts = .error (2, (hd ts).at_) := by
  unfold nameP
  by_cases hr : reserved (hd ts) = true
  · rw [if_pos hr]
  · rw [if_neg hr]
    refine kindP_neg (fun hk => hr ?_)
    unfold canB at hc
    rw [hs] at hc
    unfold reserved
    have ht : ∀ a : List UInt8, decide (a = (hd ts).txt) = isT a (hd ts) := by
      intro a
      unfold isT
      rw [hk, Bool.eq_iff_iff, decide_eq_true_iff, Bool.and_eq_true, beq_iff_eq]
      exact ⟨fun h => ⟨rfl, h.symm⟩, fun h => h.2.symm⟩
    rw [ht, ht] at hc
    generalize isT wOr (hd ts) = b1 at *
    generalize isT wBy (hd ts) = b2 at *
    generalize (idx (hd ts).txt groupWords).isSome = b3 at *
    generalize (idx (hd ts).txt overWords).isSome = b4 at *
    cases b1 <;> cases b2 <;> cases b3 <;> cases b4 <;> first | rfl | cases hc
def set2 (w : World) (a : Nat) (x y : Value) : World := (w.setCell ⟨a, 0, none⟩ x).setCell ⟨a, 1, none⟩ y
theorem set2_at {w : World} {a : Nat} {p q x y : Value} {t : TypeId} (h : BAt w a [p, q] t) : BAt (set2 w a x y) a [x, y] t := by
  unfold BAt at h
  unfold BAt set2
  simp only [World.setCell, Array.getElem?_modify, h, if_true, Option.map_some]; rfl
theorem set2_other (w : World) (a : Nat) (x y : Value) {b : Nat} (hb : b ≠ a) : (set2 w a x y).heap[b]? = w.heap[b]? := by
  unfold set2
  rw [Go.Deep.blk_setCell_other _ _ _ _ hb, Go.Deep.blk_setCell_other _ _ _ _ hb]
theorem set2_grown {w0 w : World} {a b : Nat} (h : w0.grownBy w (some b)) (ha : w0.heap.size ≤ a) (x y : Value) : w0.grownBy (set2 w a x y) (some b) :=
  grown_set (grown_set h (Or.inr ha) _) (Or.inr ha) _
theorem ErrIs.set2 {w : World} {R : RS} {e : Nat × Nat} {v : Value} (h : ErrIs w R e v) {a : Nat} {c : List Value} {t : TypeId} (hq : BAt w a c t) (ht : t ≠ 63) (x y : Value) : ErrIs (set2 w a x y) R e v := by
  refine h.grown (b := a) ?_ hq ht
  exact grown_set (grown_set (grown_refl w (some a)) (Or.inl rfl) _) (Or.inl rfl) _
theorem NamesV.same {w w' : World} {v : Value} {ns : List (List UInt8)} (h : NamesV w v ns) (hg : ∀ j, v.ownBlock = some j → w'.heap[j]? = w.heap[j]?) : NamesV w' v ns := by
  obtain ⟨bs, h1, h2⟩ := h; exact ⟨bs, own_same h1 hg, h2⟩
theorem CondsV.same {w w' : World} {v : Value} {ns : List (List UInt8 × List UInt8 × Bool)} (h : CondsV w v ns) (hg : ∀ j, v.ownBlock = some j → w'.heap[j]? = w.heap[j]?) : CondsV w' v ns := by
  obtain ⟨bs, h1, h2⟩ := h; exact ⟨bs, own_same h1 hg, h2⟩
/-- a row of conditions lies in a block of its own kind: writes into blocks of another kind leave it. -/
theorem CondsV.kept {w w' : World} {v : Value} {ns : List (List UInt8 × List UInt8 × Bool)} (h : CondsV w v ns) {b : Nat} (hg : w.grownBy w' (some b)) {c : Array Value} {t : TypeId} {fr : Nat × Nat} (hq : w.heap[b]? = some (.cells c t fr)) (ht : t ≠ 160) : CondsV w' v ns := by
  obtain ⟨bs, h1, h2⟩ := h
  have hne := own_ne_block h1 hq ht
  exact ⟨bs, own_same h1 (fun j hj => hg.block j (h1.lt j hj).2 (fun e => by injection e with e; subst e; exact hne hj.symm)), h2⟩
theorem NamesV.kept {w w' : World} {v : Value} {ns : List (List UInt8)} (h : NamesV w v ns) {b : Nat} (hg : w.grownBy w' (some b)) {c : Array Value} {t : TypeId} {fr : Nat × Nat} (hq : w.heap[b]? = some (.cells c t fr)) (ht : t ≠ 9) : NamesV w' v ns := by
  obtain ⟨bs, h1, h2⟩ := h
  have hne := own_ne_block h1 hq ht
  exact ⟨bs, own_same h1 (fun j hj => hg.block j (h1.lt j hj).2 (fun e => by injection e with e; subst e; exact hne hj.symm)), h2⟩
theorem CondsV.set2 {w : World} {v : Value} {ns : List (List UInt8 × List UInt8 × Bool)} (h : CondsV w v ns) {a : Nat} {c : List Value} {t : TypeId} (hq : BAt w a c t) (ht : t ≠ 160) (x y : Value) : CondsV (set2 w a x y) v ns :=
  h.kept (b := a) (grown_set (grown_set (grown_refl w (some a)) (Or.inl rfl) _) (Or.inl rfl) _) hq ht
set_option maxRecDepth 100000 in
set_option maxHeartbeats 4000000 in
theorem selector_t {w : World} {R : RS} {k : Nat} {ts : List Tok} (h : RK w R k ts) :
    Calls Tryz.prog 72 #[.pointer (some ⟨R.b, 0, none⟩)] w fun e w' => ∃ (nm : ByteArray) (la : Option Addr) (ln lc : Nat) (v : Value), e = .returned (.tuple #[.agg #[.string nm, .slice la ln lc], v]) ∧ Hid (Res R (fun w' nd => bl nm = nd.name ∧ CondsV w' (.slice la ln lc) nd.conds) w' (selP ts) v) ∧ w.grownBy w' (some R.b) := by
  have H : Hid (RK w R k ts) := h
  have hbl : R.b < w.heap.size := (Array.getElem?_eq_some_iff.1 h.rd.cells).1
  clear h
  go_enter Tryz.func72, Tryz.ntmps72
  go_wp2_with fail
  refine calls_gen fun W0 hW0 => ?_
  have HK0 : Hid (RK W0 R k ts) := hid (by rw [hW0]; exact H.out.below ((Below.refl _ _).alloc (Nat.le_refl _) _))
  have HC0 : Hid (BAt W0 w.heap.size [.string ByteArray.empty, .slice none 0 0] 130) := hid (by rw [hW0]; exact Go.Deep.blk_alloc_new _ _)
  have HG0 : Hid (w.grownBy W0 (some R.b)) := hid (by rw [hW0]; exact grown_alloc (grown_refl _ _) _)
  clear hW0
  refine (token_t HK0.out).mono ?_
  rintro e w1 ⟨⟨kd, at_, tx, tv⟩, rfl, ht, hb1⟩
  have HC1 := hid (HC0.out.below hb1)
  have HG1 : Hid (w.grownBy w1 (some R.b)) := grown_trans HG0.out (grown_of_below hb1)
  have HK1 : Hid (RK w1 R k ts) := HK0.out.below hb1
  clear hb1 HC0 HG0 HK0
  have HTX : Hid (bl tx = (hd ts).txt) := ht.out.2.2.1
  have hf : ∀ W : World, (Instr.field 52 (.agg #[.int .i64 kd, .int .i64 at_, .string tx, .int .i64 tv]) 2).run Tryz.prog W = .ok (.string tx) W := fun _ => rfl
  go_wp2_with fail
  refine (canName_b tx _).mono ?_
  rintro e w1 ⟨rfl, rfl⟩
  cases hc : canB tx
  · have HPE : Hid (selP ts = .error (2, (hd ts).at_)) := hid (by unfold selP; rw [nameP_cannot HTX.out hc]; rfl)
    clear hc
    go_wp2_with fail
    refine (cannotStand_t HK1.out).mono ?_
    rintro e wE ⟨v, rfl, HE, hbE⟩
    obtain ⟨fa, rfl⟩ := HE.out.shape
    have HCE := hid (HC1.out.below hbE)
    have HGE : Hid (w.grownBy wE (some R.b)) := grown_trans HG1.out (grown_of_below hbE)
    clear hbE
    have f0 := HCE.out.frozen 0
    have f1 := HCE.out.frozen 1
    have c0 := HCE.out.cell 0
    have c1 := HCE.out.cell 1
    simp only [List.getElem?_cons_zero, List.getElem?_cons_succ] at c0 c1
    go_wp2
    change bodyPost _ _ _ _ _ (set2 wE w.heap.size (.string ⟨#[]⟩) (.slice none 0 0))
    have s := set2_at HCE.out (x := .string ⟨#[]⟩) (y := .slice none 0 0)
    have s0 := s.cell 0
    have s1 := s.cell 1
    simp only [List.getElem?_cons_zero, List.getElem?_cons_succ] at s0 s1
    have HE2 := hid (HE.out.set2 HCE.out (by decide) (.string ⟨#[]⟩) (.slice none 0 0))
    have HGX := hid (set2_grown HGE.out (Nat.le_refl _) (.string ⟨#[]⟩) (.slice none 0 0))
    generalize set2 wE w.heap.size (.string ⟨#[]⟩) (.slice none 0 0) = WX at *
    exact bodyPost_ret (v := .tuple #[.agg #[.string ⟨#[]⟩, .slice none 0 0], .iface 59 (.pointer (some ⟨fa, 0, none⟩))]) (by simp [results, Tryz.results72, go_sem, s0, s1]) rfl ⟨_, _, _, _, _, rfl, by rw [HPE.out]; exact HE2, HGX.out⟩
  · have HNP : Hid (nameP ts = kindP 2 ts) := nameP_can HTX.out hc
    clear hc
    go_wp2_with fail
    refine (takeName_t HK1.out).mono ?_
    rintro e w2 ⟨x, v, rfl, hres, hg⟩
    have HC2 : Hid (BAt w2 w.heap.size [.string ByteArray.empty, .slice none 0 0] 130) := HC1.out.grown hg (by simp; omega)
    have HG2 : Hid (w.grownBy w2 (some R.b)) := grown_trans HG1.out hg
    clear hg HC1 HG1 HK1
    by_cases hk2 : (hd ts).kind = 2
    · rw [kindP_pos hk2] at hres
      obtain ⟨rfl, ⟨k2, hk⟩, hx⟩ := hres.out
      have HK2 : Hid (RK w2 R k2 ts.tail) := hk
      have HX : Hid (bl x = (hd ts).txt) := hx
      have HNO : Hid (nameP ts = .ok ((hd ts).txt, ts.tail)) := hid (by rw [HNP.out, kindP_pos hk2])
      clear hres hk hx hk2
      go_wp2_with fail
      refine (token_t HK2.out).mono ?_
      rintro e w3 ⟨⟨kd3, at3, tx3, tv3⟩, rfl, ht3, hb3⟩
      have HC3 := hid (HC2.out.below hb3)
      have HG3 : Hid (w.grownBy w3 (some R.b)) := grown_trans HG2.out (grown_of_below hb3)
      have HK3 : Hid (RK w3 R k2 ts.tail) := HK2.out.below hb3
      clear hb3 HC2 HG2 HK2
      go_wp2_with fail
      refine (isMark_t ht3.out HK3.out.wf.head.1 HK3.out.wf.head.2.2 ⟨#[123]⟩ (by decide) (by decide) _).mono ?_
      rintro e w4 ⟨rfl, hb4⟩
      have HC4 := hid (HC3.out.below hb4)
      have HG4 : Hid (w.grownBy w4 (some R.b)) := grown_trans HG3.out (grown_of_below hb4)
      have HK4 : Hid (RK w4 R k2 ts.tail) := HK3.out.below hb4
      clear hb4 HC3 HG3 HK3 ht3
      by_cases ho : isT [123] (hd ts.tail) = true
      · rw [show isT (bl ⟨#[123]⟩) (hd ts.tail) = true from ho]
        obtain ⟨PL, hPL⟩ : ∃ PL, PL = bnd (takeP [123] ts.tail) fun _ r => listP condP [125] (r.length + 1) [] r := ⟨_, rfl⟩
        have HSP : Hid (selP ts = bnd PL fun cs r => .ok (⟨1, 0, 0, (hd ts).txt, cs, []⟩, r)) := hid (by
          unfold selP; rw [HNO.out]; show (if isT [123] (hd ts.tail) = true then _ else _) = _
          rw [if_pos ho, hPL, takeP_pos ho]
          have hl : ts.tail.length = ts.tail.tail.length + 1 := by have := HK4.out.pos; rw [List.length_tail (l := ts.tail)]; omega
          rw [hl]; rfl)
        have HPL : Hid (PL = bnd (takeP [123] ts.tail) fun _ r => listP condP [125] (r.length + 1) [] r) := hPL
        clear hPL ho
        go_wp2_with fail
        refine (listConds_t HK4.out ⟨#[123]⟩ ⟨#[125]⟩ (by decide) (by decide)).mono ?_
        rintro e w5 ⟨la, ln, lc, v, rfl, hres, hg5⟩
        rw [show (bnd (takeP (bl ⟨#[123]⟩) ts.tail) fun _ r => listP condP (bl ⟨#[125]⟩) (r.length + 1) [] r) = PL from HPL.out.symm] at hres
        have HC5 : Hid (BAt w5 w.heap.size [.string ByteArray.empty, .slice none 0 0] 130) := HC4.out.grown hg5 (by simp; omega)
        have HG5 : Hid (w.grownBy w5 (some R.b)) := grown_trans HG4.out hg5
        clear hg5 HC4 HG4 HK4
        have f0 := HC5.out.frozen 0
        have f1 := HC5.out.frozen 1
        have c0 := HC5.out.cell 0
        have c1 := HC5.out.cell 1
        simp only [List.getElem?_cons_zero, List.getElem?_cons_succ] at c0 c1
        go_wp2
        change bodyPost _ _ _ _ _ (set2 w5 w.heap.size (.string x) (.slice la ln lc))
        have s := set2_at HC5.out (x := .string x) (y := .slice la ln lc)
        have s0 := s.cell 0
        have s1 := s.cell 1
        simp only [List.getElem?_cons_zero, List.getElem?_cons_succ] at s0 s1
        have HGX := hid (set2_grown HG5.out (Nat.le_refl _) (.string x) (.slice la ln lc))
        have HRX : Hid (Res R (fun w' nd => bl x = nd.name ∧ CondsV w' (.slice la ln lc) nd.conds) (set2 w5 w.heap.size (.string x) (.slice la ln lc)) (selP ts) v) := hid (by
          rw [HSP.out]
          cases hpl : PL with
          | error er => rw [hpl] at hres; exact ErrIs.set2 hres.out HC5.out (by decide) _ _
          | ok pr =>
            rw [hpl] at hres
            obtain ⟨h1, ⟨kk, h2⟩, h3⟩ := hres.out
            exact ⟨h1, ⟨kk, RK.fresh H.out h2 (Nat.le_refl _) (fun j hj => set2_other _ _ _ _ hj)⟩, HX.out, CondsV.set2 h3 HC5.out (by decide) _ _⟩)
        clear hres
        generalize set2 w5 w.heap.size (.string x) (.slice la ln lc) = WX at *
        exact bodyPost_ret (v := .tuple #[.agg #[.string x, .slice la ln lc], v]) (by simp [results, Tryz.results72, go_sem, s0, s1]) rfl ⟨_, _, _, _, _, rfl, HRX, HGX.out⟩
      · rw [show isT (bl ⟨#[123]⟩) (hd ts.tail) = false from Bool.eq_false_iff.2 ho]
        have HSP : Hid (selP ts = .ok (⟨1, 0, 0, (hd ts).txt, [], []⟩, ts.tail)) := hid (by
          unfold selP; rw [HNO.out]; show (if isT [123] (hd ts.tail) = true then _ else _) = _
          rw [if_neg ho])
        clear ho
        have f0 := HC4.out.frozen 0
        have f1 := HC4.out.frozen 1
        have c0 := HC4.out.cell 0
        have c1 := HC4.out.cell 1
        simp only [List.getElem?_cons_zero, List.getElem?_cons_succ] at c0 c1
        go_wp2
        change bodyPost _ _ _ _ _ (set2 w4 w.heap.size (.string x) (.slice none 0 0))
        have s := set2_at HC4.out (x := .string x) (y := .slice none 0 0)
        have s0 := s.cell 0
        have s1 := s.cell 1
        simp only [List.getElem?_cons_zero, List.getElem?_cons_succ] at s0 s1
        have HGX := hid (set2_grown HG4.out (Nat.le_refl _) (.string x) (.slice none 0 0))
        have HKX := hid (RK.fresh H.out HK4.out (w' := set2 w4 w.heap.size (.string x) (.slice none 0 0)) (Nat.le_refl _) (fun j hj => set2_other _ _ _ _ hj))
        generalize set2 w4 w.heap.size (.string x) (.slice none 0 0) = WX at *
        exact bodyPost_ret (v := .tuple #[.agg #[.string x, .slice none 0 0], .nilIface]) (by simp [results, Tryz.results72, go_sem, s0, s1]) rfl ⟨_, _, _, _, _, rfl, by rw [HSP.out]; exact ⟨rfl, ⟨_, HKX.out⟩, HX.out, [], World.ownsRow_nil _ _ _ _, rfl⟩, HGX.out⟩
    · rw [kindP_neg hk2] at hres
      have HPE : Hid (selP ts = .error (2, (hd ts).at_)) := hid (by unfold selP; rw [HNP.out, kindP_neg hk2]; rfl)
      obtain ⟨fa, rfl⟩ := hres.out.shape
      have HE : Hid (ErrIs w2 R (2, (hd ts).at_) _) := hres.out
      clear hres hk2
      have f0 := HC2.out.frozen 0
      have f1 := HC2.out.frozen 1
      have c0 := HC2.out.cell 0
      have c1 := HC2.out.cell 1
      simp only [List.getElem?_cons_zero, List.getElem?_cons_succ] at c0 c1
      go_wp2
      change bodyPost _ _ _ _ _ (set2 w2 w.heap.size (.string x) (.slice none 0 0))
      have s := set2_at HC2.out (x := .string x) (y := .slice none 0 0)
      have s0 := s.cell 0
      have s1 := s.cell 1
      simp only [List.getElem?_cons_zero, List.getElem?_cons_succ] at s0 s1
      have HE2 := hid (HE.out.set2 HC2.out (by decide) (.string x) (.slice none 0 0))
      have HGX := hid (set2_grown HG2.out (Nat.le_refl _) (.string x) (.slice none 0 0))
      generalize set2 w2 w.heap.size (.string x) (.slice none 0 0) = WX at *
      exact bodyPost_ret (v := .tuple #[.agg #[.string x, .slice none 0 0], .iface 59 (.pointer (some ⟨fa, 0, none⟩))]) (by simp [results, Tryz.results72, go_sem, s0, s1]) rfl ⟨_, _, _, _, _, rfl, by rw [HPE.out]; exact HE2, HGX.out⟩
end Go.Proofs.YtmncdbepjhmkgaaGreatDoor
/- Parts, as the program has them: a tree, held against the plain one. -/
namespace Go.Proofs.YtmncdbepjhmkgaaGreatDoor
open Go.RowKit LS

/-- The program's number for an operator. -/
def opNo (a : Nd) : Nat := if a.kind = 6 then 0 else a.op + 1
def SelV (w : World) (v : Value) (a : Nd) : Prop := ∃ (nm : ByteArray) (la : Option Addr) (ln lc : Nat), v = .agg #[.string nm, .slice la ln lc] ∧ bl nm = a.name ∧ CondsV w (.slice la ln lc) a.conds
/-- The program's value stands for the tree. -/
def PartV (w : World) : Tr → Value → Prop
  | .nil, _ => False
  | .node _ _ a l r, v =>
    (a.kind = 0 ∧ v = .iface 101 (.agg #[.int .i64 a.n])) ∨
    (a.kind = 1 ∧ ∃ (nm : ByteArray) (la : Option Addr) (ln lc : Nat), v = .iface 130 (.agg #[.string nm, .slice la ln lc]) ∧ bl nm = a.name ∧ CondsV w (.slice la ln lc) a.conds) ∨
    (a.kind = 2 ∧ ∃ (wd nm : ByteArray) (la : Option Addr) (ln lc : Nat), v = .iface 132 (.agg #[.string wd, .string nm, .slice la ln lc, .int .i64 a.n]) ∧ bl wd = overWords.getD a.op [] ∧ bl nm = a.name ∧ CondsV w (.slice la ln lc) a.conds) ∨
    (a.kind = 3 ∧ ∃ x, v = .iface 103 (.agg #[x]) ∧ PartV w l x) ∨
    (a.kind = 5 ∧ ∃ (wd : ByteArray) (la : Option Addr) (ln lc : Nat) (x : Value), v = .iface 105 (.agg #[.string wd, .slice la ln lc, x]) ∧ bl wd = groupWords.getD a.op [] ∧ NamesV w (.slice la ln lc) a.by_ ∧ PartV w l x) ∨
    ((a.kind = 4 ∨ a.kind = 6) ∧ ∃ x y, v = .iface 98 (.agg #[.int .i64 (opNo a), x, y]) ∧ PartV w l x ∧ PartV w r y)
/-- an interface's value: none, or one of a type. -/
def IfaceV (v : Value) : Prop := v = .nilIface ∨ ∃ (ty : TypeId) (u : Value), v = .iface ty u
theorem PartV.shape {w : World} : ∀ {t : Tr} {v : Value}, PartV w t v → ∃ (ty : TypeId) (u : Value), v = .iface ty u
  | .nil, _, h => h.elim
  | .node _ _ a l r, v, h => by
    rcases h with ⟨_, h⟩ | ⟨_, _, _, _, _, h, _⟩ | ⟨_, _, _, _, _, _, h, _⟩ | ⟨_, _, h, _⟩ | ⟨_, _, _, _, _, _, h, _⟩ | ⟨_, _, _, h, _⟩
    all_goals exact ⟨_, _, h⟩
theorem CondsV.below {w w' : World} {v : Value} {ns : List (List UInt8 × List UInt8 × Bool)} (h : CondsV w v ns) (hb : Below w.heap.size w w') : CondsV w' v ns := by
  obtain ⟨bs, h1, h2⟩ := h; exact ⟨bs, own_below h1 hb, h2⟩
theorem NamesV.below {w w' : World} {v : Value} {ns : List (List UInt8)} (h : NamesV w v ns) (hb : Below w.heap.size w w') : NamesV w' v ns := by
  obtain ⟨bs, h1, h2⟩ := h; exact ⟨bs, own_below h1 hb, h2⟩
theorem PartV.mono {w w' : World} (hc : ∀ v cs, CondsV w v cs → CondsV w' v cs) (hn : ∀ v ns, NamesV w v ns → NamesV w' v ns) : ∀ (t : Tr) (v : Value), PartV w t v → PartV w' t v
  | .nil, _, h => h
  | .node _ _ a l r, v, h => by
    have ihl := PartV.mono hc hn l
    have ihr := PartV.mono hc hn r
    rcases h with h | ⟨h1, nm, la, ln, lc, h2, h3, h4⟩ | ⟨h1, wd, nm, la, ln, lc, h2, h3, h4, h5⟩ | ⟨h1, x, h2, h3⟩ | ⟨h1, wd, la, ln, lc, x, h2, h3, h4, h5⟩ | ⟨h1, x, y, h2, h3, h4⟩
    · exact Or.inl h
    · exact Or.inr (Or.inl ⟨h1, nm, la, ln, lc, h2, h3, hc _ _ h4⟩)
    · exact Or.inr (Or.inr (Or.inl ⟨h1, wd, nm, la, ln, lc, h2, h3, h4, hc _ _ h5⟩))
    · exact Or.inr (Or.inr (Or.inr (Or.inl ⟨h1, x, h2, ihl x h3⟩)))
    · exact Or.inr (Or.inr (Or.inr (Or.inr (Or.inl ⟨h1, wd, la, ln, lc, x, h2, h3, hn _ _ h4, ihl x h5⟩))))
    · exact Or.inr (Or.inr (Or.inr (Or.inr (Or.inr ⟨h1, x, y, h2, ihl x h3, ihr y h4⟩))))
theorem PartV.below {w w' : World} {t : Tr} {v : Value} (h : PartV w t v) (hb : Below w.heap.size w w') : PartV w' t v := PartV.mono (fun _ _ h => h.below hb) (fun _ _ h => h.below hb) t v h
/-- a write into a block of another kind. -/
theorem PartV.kept {w w' : World} {t : Tr} {v : Value} (h : PartV w t v) {b : Nat} (hg : w.grownBy w' (some b)) {c : Array Value} {ty : TypeId} {fr : Nat × Nat} (hq : w.heap[b]? = some (.cells c ty fr)) (h1 : ty ≠ 160) (h2 : ty ≠ 9) : PartV w' t v :=
  PartV.mono (fun _ _ h => h.kept hg hq h1) (fun _ _ h => h.kept hg hq h2) t v h
/-- the reader goes on: what was read stays. -/
theorem PartV.read {w w' : World} {R : RS} {k : Nat} {ts : List Tok} {t : Tr} {v : Value} (h : PartV w t v) (hr : RK w R k ts) (hg : w.grownBy w' (some R.b)) : PartV w' t v := h.kept hg hr.rd.cells (by decide) (by decide)
theorem CondsV.read {w w' : World} {R : RS} {k : Nat} {ts : List Tok} {v : Value} {cs : List (List UInt8 × List UInt8 × Bool)} (h : CondsV w v cs) (hr : RK w R k ts) (hg : w.grownBy w' (some R.b)) : CondsV w' v cs := h.kept hg hr.rd.cells (by decide)
theorem NamesV.read {w w' : World} {R : RS} {k : Nat} {ts : List Tok} {v : Value} {cs : List (List UInt8)} (h : NamesV w v cs) (hr : RK w R k ts) (hg : w.grownBy w' (some R.b)) : NamesV w' v cs := h.kept hg hr.rd.cells (by decide)
theorem Res.err {α : Type} {R : RS} {V : World → α → Prop} {w : World} {r : Out α} {v : Value} (h : Res R V w r v) {e : Nat × Nat} (hr : r = .error e) : ErrIs w R e v := by subst hr; exact h
theorem Res.good {α : Type} {R : RS} {V : World → α → Prop} {w : World} {r : Out α} {v : Value} (h : Res R V w r v) {a : α} {ts : List Tok} (hr : r = .ok (a, ts)) : v = .nilIface ∧ (∃ k, RK w R k ts) ∧ V w a := by subst hr; exact h
end Go.Proofs.YtmncdbepjhmkgaaGreatDoor

/- Parts. -/
import Derived.Test.YtpbemaaghbbocaaGreatDoorA08
import Derived.Test.YtpbemaaghbbocaaGreatDoorA05
namespace Go.Proofs.YtpbemaaghbbocaaGreatDoor
open Go.RowKit LS
set_option maxRecDepth 100000 in
set_option maxHeartbeats 4000000 in
theorem listConds_t {w : World} {R : RS} {k : Nat} {ts : List Tok} (h : RK w R k ts) (op cl : ByteArray) (hop : (bl op).all (fun c => !letter c) = true ∧ bl op ≠ []) (hcl : (bl cl).all (fun c => !letter c) = true ∧ bl cl ≠ []) :
    Calls Tryz.prog 158 #[.pointer (some ⟨R.b, 0, none⟩), .string op, .string cl, .func (.func 159) #[] #[]] w fun e w' => ∃ (la : Option Addr) (ln lc : Nat) (v : Value), e = .returned (.tuple #[.slice la ln lc, v]) ∧ Hid (Res R (fun w' ns => CondsV w' (.slice la ln lc) ns) w' (bnd (takeP (bl op) ts) fun _ r => listP condP (bl cl) (r.length + 1) [] r) v) ∧ w.grownBy w' (some R.b) := by
  have H : Hid (RK w R k ts) := h
  have hbl : R.b < w.heap.size := (Array.getElem?_eq_some_iff.1 h.rd.cells).1
  obtain ⟨i0, hi, hz0, hz1, hz2⟩ := info_parts Tryz.infoCondD
  have HOP : Hid ((bl op).all (fun c => !letter c) = true ∧ bl op ≠ []) := hop
  have HCL : Hid ((bl cl).all (fun c => !letter c) = true ∧ bl cl ≠ []) := hcl
  clear h hop hcl
  obtain ⟨PL, hPL⟩ : ∃ PL : Out (List (List UInt8 × List UInt8 × Bool)), PL = bnd (takeP (bl op) ts) fun _ r => listP condP (bl cl) (r.length + 1) [] r := ⟨_, rfl⟩
  rw [← hPL]
  have HPL0 : Hid (PL = bnd (takeP (bl op) ts) fun _ r => listP condP (bl cl) (r.length + 1) [] r) := hPL
  clear hPL
  go_enter Tryz.func158, Tryz.ntmps158
  go_wp2_with fail
  refine (takeMark_t H.out op HOP.out.1 HOP.out.2).mono ?_
  rintro e w1 ⟨v, rfl, hres, hg⟩
  have HG1 : Hid (w.grownBy w1 (some R.b)) := hg
  clear hg
  by_cases h1 : isT (bl op) (hd ts) = true
  · rw [takeP_pos h1] at hres
    have HPL : Hid (listP condP (bl cl) (ts.tail.length + 1) [] ts.tail = PL) := hid (by rw [HPL0.out, takeP_pos h1]; rfl)
    obtain ⟨rfl, ⟨k1, hk1⟩, _⟩ := hres.out
    have HK1 : Hid (RK w1 R k1 ts.tail) := hk1
    clear hres hk1 h1
    obtain ⟨r0, hr0⟩ : ∃ r0, r0 = ts.tail := ⟨_, rfl⟩
    rw [← hr0] at HK1 HPL
    clear hr0
    go_wp2
    go_loopg [11] r0.length (fun g v11 wr => ∃ (bs : List (ByteArray × ByteArray × Bool)) (r : List Tok) (k2 n : Nat), g = r.length ∧ Hid (RK wr R k2 r) ∧ Hid (wr.ownsRow w.heap.size 247 3 v11 bs.length (flatCo bs)) ∧ Hid (r.length < n ∧ bs.length + r.length ≤ 302 ∧ listP condP (bl cl) n (bs.map condB) r = PL) ∧ Hid (w.grownBy wr (some R.b)))
    case atStart => exact ⟨[], r0, k1, r0.length + 1, rfl, HK1, World.ownsRow_nil _ _ _ _, ⟨by omega, by have := HK1.out.size; have := HK1.out.len; simp; omega, HPL.out⟩, HG1⟩
    case round =>
      obtain ⟨bs, r, k2, n, hgr, HK, HO, HN, HG⟩ := hrel
      clear HK1 HG1 HPL
      obtain ⟨m, rfl⟩ : ∃ m, n = m + 1 := ⟨n - 1, by have := HN.out.1; omega⟩
      obtain ⟨av, cp, hv⟩ := own_shape HO.out
      subst hv
      go_wp2_with fail
      refine (token_t HK.out).mono ?_
      rintro e w2 ⟨⟨kd, at_, tx, tv⟩, rfl, ht, hb2⟩
      have HK2 : Hid (RK w2 R k2 r) := HK.out.below hb2
      have HO2 := hid (own_below HO.out hb2)
      have HG2 : Hid (w.grownBy w2 (some R.b)) := grown_trans HG.out (grown_of_below hb2)
      clear hb2 HK HO HG
      go_wp2_with fail
      refine (isMark_t ht.out HK2.out.wf.head.1 HK2.out.wf.head.2.2 cl HCL.out.1 HCL.out.2 w2).mono ?_
      rintro e w3 ⟨rfl, hb3⟩
      have HK3 : Hid (RK w3 R k2 r) := HK2.out.below hb3
      have HO3 := hid (own_below HO2.out hb3)
      have HG3 : Hid (w.grownBy w3 (some R.b)) := grown_trans HG2.out (grown_of_below hb3)
      clear hb3 HK2 HO2 HG2 ht
      by_cases hc : isT (bl cl) (hd r) = true
      · rw [hc]
        have HPL : Hid (PL = .ok (bs.map condB, r.tail)) := hid (by rw [← HN.out.2.2, listP_end hc])
        have HTP : Hid (takeP (bl cl) r = .ok ((), r.tail)) := takeP_pos hc
        clear hc
        go_wp2_with fail
        refine (takeMark_t HK3.out cl HCL.out.1 HCL.out.2).mono ?_
        rintro e w4 ⟨v, rfl, hres, hg4⟩
        rw [HTP.out] at hres
        obtain ⟨rfl, hk4, _⟩ := hres.out
        have HKX : Hid (∃ k, RK w4 R k r.tail) := hk4
        have HO4 := hid (own_grown HO3.out hg4 hbl)
        have HG4 : Hid (w.grownBy w4 (some R.b)) := grown_trans HG3.out hg4
        clear hres hk4 hg4
        go_wp2
        go_ret2
        exact ⟨_, _, _, _, rfl, by rw [HPL.out]; exact ⟨rfl, HKX.out, bs, own_zero HO4.out, rfl⟩, HG4.out⟩
      · have hc' : isT (bl cl) (hd r) = false := Bool.eq_false_iff.2 hc
        rw [hc']
        by_cases hb : bs = []
        · subst hb
          have HPL : Hid ((bnd (condP r) fun a z => listP condP (bl cl) m [a] z) = PL) := hid (by rw [← HN.out.2.2]; exact (listP_first hc').symm)
          have hl0 : ([] : List (ByteArray × ByteArray × Bool)).length = 0 := rfl
          clear hc hc'
          go_wp2_with fail
          refine (condition_t HK3.out).mono ?_
          rintro e w5 ⟨x, ng, z, v, rfl, hres, hg5⟩
          have HO5 := hid (own_grown HO3.out hg5 hbl)
          have HG5 : Hid (w.grownBy w5 (some R.b)) := grown_trans HG3.out hg5
          clear hg5
          cases hit : condP r with
          | error er =>
            rw [hit] at hres
            obtain ⟨fa, rfl⟩ := hres.out.shape
            have HE : Hid (ErrIs w5 R er _) := hres.out
            have HP2 : Hid (PL = .error er) := hid (by rw [← HPL.out, hit]; rfl)
            clear hres hit
            go_wp2
            go_ret2
            exact ⟨_, _, _, _, rfl, by rw [HP2.out]; exact HE.out.below ((Below.refl _ _).alloc (Nat.le_refl _) _), grown_alloc HG5.out _⟩
          | ok pr =>
            obtain ⟨a, y⟩ := pr
            rw [hit] at hres
            obtain ⟨rfl, ⟨k5, hk5⟩, hx⟩ := hres.out
            have HX : Hid (condB (x, z, ng) = a) := hid (by unfold condB; simp only [hx.1, hx.2.1, hx.2.2])
            have HK5 : Hid (RK w5 R k5 y) := hk5
            have hlen : y.length ≤ (r).tail.length := condP_tail hit
            have hy : y.length < r.length := by have h9 := HK3.out.pos; simp only [List.length_tail] at hlen; omega
            have HP2 : Hid (listP condP (bl cl) m (([] ++ [(x, z, ng)]).map condB) y = PL) := hid (by rw [← HPL.out, hit, List.map_append]; rw [← HX.out]; rfl)
            have hnn := HN.out.2.1
            have hmm := HN.out.1
            clear hres hk5 hx hit hlen
            go_wp2_with (at_builtin; refine wpList_append_own _ rfl (.tmp 43) (.tmp 45) 177 rfl w.heap.size 247 i0 (.agg #[.string ByteArray.empty, .bool false, .string ByteArray.empty]) 3 40 Tryz.underlying177 hi hz0 hz1 hz2 rfl (by decide) _ _ _ rfl ((HO5.out.alloc _).alloc _) ⟨w5.heap.size + 1, 0, none⟩ 1 1 [.string x, .bool ng, .string z] rfl rfl ?c1 ?c2 ?c3 ?c4 ?c5 ?_)
            case c1 => exact cells_new (by simp)
            case c2 => intro u hu; simp at hu; rcases hu with rfl | rfl | rfl <;> rfl
            case c3 => unfold maxLen; omega
            case c4 => omega
            case c5 => simp; have := HG5.out.size; omega
            intro v' w6 hown6 hgrow _
            have HG6 : Hid (w.grownBy w6 (some R.b)) := hid (grown_ownD (grown_alloc (grown_alloc HG5.out _) _) hgrow (fun q hq => (HO5.out.lt q hq).1))
            have HK6 : Hid (RK w6 R k5 y) := hid (RK.grown H.out (HK5.out.below (((Below.refl _ _).alloc (Nat.le_refl _) _).alloc (by simp) _)) hgrow (fun q hq => (HO5.out.lt q hq).1))
            have HO6 : Hid (w6.ownsRow w.heap.size 247 3 v' ([] ++ [(x, z, ng)]).length (flatCo ([] ++ [(x, z, ng)]))) := hid (by rw [flatCo_append, List.length_append]; exact hown6)
            clear hown6 hgrow
            go_wp2
            go_roundg y.length
            case measure => omega
            case rel => exact ⟨_, y, k5, m, rfl, HK6, HO6, ⟨by omega, by simp; omega, HP2.out⟩, HG6⟩
        · have hbl0 : 0 < bs.length := List.length_pos_iff.2 hb
          have HPL : Hid ((bnd (takeP [44] r) fun _ z => bnd (condP z) fun a y => listP condP (bl cl) m (bs.map condB ++ [a]) y) = PL) := hid (by rw [← HN.out.2.2]; exact (listP_next hc' (by simpa using hb)).symm)
          clear hc hc' hb
          go_wp2_with fail
          refine (takeMark_t HK3.out ⟨#[44]⟩ (by decide) (by decide)).mono ?_
          rintro e w4 ⟨v, rfl, hres, hg4⟩
          have HO4 := hid (own_grown HO3.out hg4 hbl)
          have HG4 : Hid (w.grownBy w4 (some R.b)) := grown_trans HG3.out hg4
          clear hg4
          by_cases hcm : isT [44] (hd r) = true
          · rw [show takeP (bl ⟨#[44]⟩) r = .ok ((), r.tail) from takeP_pos hcm] at hres
            obtain ⟨rfl, ⟨k4, hk4⟩, _⟩ := hres.out
            have HK4 : Hid (RK w4 R k4 r.tail) := hk4
            have HPL2 : Hid ((bnd (condP r.tail) fun a y => listP condP (bl cl) m (bs.map condB ++ [a]) y) = PL) := hid (by rw [← HPL.out, takeP_pos hcm]; rfl)
            clear hres hk4 hcm HPL HK3 HO3 HG3
            go_wp2_with fail
            refine (condition_t HK4.out).mono ?_
            rintro e w5 ⟨x, ng, z, v, rfl, hres, hg5⟩
            have HO5 := hid (own_grown HO4.out hg5 hbl)
            have HG5 : Hid (w.grownBy w5 (some R.b)) := grown_trans HG4.out hg5
            clear hg5
            cases hit : condP r.tail with
            | error er =>
              rw [hit] at hres
              obtain ⟨fa, rfl⟩ := hres.out.shape
              have HE : Hid (ErrIs w5 R er _) := hres.out
              have HP2 : Hid (PL = .error er) := hid (by rw [← HPL2.out, hit]; rfl)
              clear hres hit
              go_wp2
              go_ret2
              exact ⟨_, _, _, _, rfl, by rw [HP2.out]; exact HE.out.below ((Below.refl _ _).alloc (Nat.le_refl _) _), grown_alloc HG5.out _⟩
            | ok pr =>
              obtain ⟨a, y⟩ := pr
              rw [hit] at hres
              obtain ⟨rfl, ⟨k5, hk5⟩, hx⟩ := hres.out
              have HX : Hid (condB (x, z, ng) = a) := hid (by unfold condB; simp only [hx.1, hx.2.1, hx.2.2])
              have HK5 : Hid (RK w5 R k5 y) := hk5
              have hlen : y.length ≤ (r.tail).tail.length := condP_tail hit
              have hy : y.length < r.length := by have h9 := HK4.out.pos; simp only [List.length_tail] at h9 hlen; omega
              have HP2 : Hid (listP condP (bl cl) m ((bs ++ [(x, z, ng)]).map condB) y = PL) := hid (by rw [← HPL2.out, hit, List.map_append]; rw [← HX.out]; rfl)
              have hnn := HN.out.2.1
              have hmm := HN.out.1
              clear hres hk5 hx hit hlen
              go_wp2_with (at_builtin; refine wpList_append_own _ rfl (.tmp 43) (.tmp 45) 177 rfl w.heap.size 247 i0 (.agg #[.string ByteArray.empty, .bool false, .string ByteArray.empty]) 3 40 Tryz.underlying177 hi hz0 hz1 hz2 rfl (by decide) _ _ _ rfl ((HO5.out.alloc _).alloc _) ⟨w5.heap.size + 1, 0, none⟩ 1 1 [.string x, .bool ng, .string z] rfl rfl ?c1 ?c2 ?c3 ?c4 ?c5 ?_)
              case c1 => exact cells_new (by simp)
              case c2 => intro u hu; simp at hu; rcases hu with rfl | rfl | rfl <;> rfl
              case c3 => unfold maxLen; omega
              case c4 => omega
              case c5 => simp; have := HG5.out.size; omega
              intro v' w6 hown6 hgrow _
              have HG6 : Hid (w.grownBy w6 (some R.b)) := hid (grown_ownD (grown_alloc (grown_alloc HG5.out _) _) hgrow (fun q hq => (HO5.out.lt q hq).1))
              have HK6 : Hid (RK w6 R k5 y) := hid (RK.grown H.out (HK5.out.below (((Below.refl _ _).alloc (Nat.le_refl _) _).alloc (by simp) _)) hgrow (fun q hq => (HO5.out.lt q hq).1))
              have HO6 : Hid (w6.ownsRow w.heap.size 247 3 v' (bs ++ [(x, z, ng)]).length (flatCo (bs ++ [(x, z, ng)]))) := hid (by rw [flatCo_append, List.length_append]; exact hown6)
              clear hown6 hgrow
              go_wp2
              go_roundg y.length
              case measure => omega
              case rel => exact ⟨_, y, k5, m, rfl, HK6, HO6, ⟨by omega, by simp; omega, HP2.out⟩, HG6⟩
          · rw [show takeP (bl ⟨#[44]⟩) r = .error (2, (hd r).at_) from takeP_neg hcm] at hres
            obtain ⟨fa, rfl⟩ := hres.out.shape
            have HE : Hid (ErrIs w4 R (2, (hd r).at_) _) := hres.out
            have HP2 : Hid (PL = .error (2, (hd r).at_)) := hid (by rw [← HPL.out, takeP_neg hcm]; rfl)
            clear hres
            go_wp2
            go_ret2
            exact ⟨_, _, _, _, rfl, by rw [HP2.out]; exact HE, HG4.out⟩
  · rw [takeP_neg h1] at hres
    have HP2 : Hid (PL = .error (2, (hd ts).at_)) := hid (by rw [HPL0.out, takeP_neg h1]; rfl)
    obtain ⟨fa, rfl⟩ := hres.out.shape
    have HE : Hid (ErrIs w1 R (2, (hd ts).at_) _) := hres.out
    clear hres
    go_wp2
    go_ret2
    exact ⟨_, _, _, _, rfl, by rw [HP2.out]; exact HE, HG1.out⟩
def canB (s : ByteArray) : Bool := !decide (wOr = bl s) && !decide (wBy = bl s) && !(idx (bl s) groupWords).isSome && !(idx (bl s) overWords).isSome
theorem canName_b (s : ByteArray) (w : World) : Calls Tryz.prog 157 #[.string s] w fun e w' => e = .returned (.bool (canB s)) ∧ w' = w := canName_any s w
theorem nameP_can {ts : List Tok} {s : ByteArray} (hs : bl s = (hd ts).txt) (hc : canB s = true) : nameP ts = kindP 2 ts := by
  unfold nameP
  by_cases hr : reserved (hd ts) = true
  · rw [if_pos hr]
    exfalso
    unfold canB at hc
    rw [hs] at hc
    unfold reserved at hr
    simp only [Bool.and_eq_true, Bool.not_eq_true', decide_eq_false_iff_not] at hc
    simp only [Bool.or_eq_true] at hr
    obtain ⟨⟨⟨h1, h2⟩, h3⟩, h4⟩ := hc
    rcases hr with ((hr | hr) | hr) | hr
    · rw [h3] at hr; cases hr
    · rw [h4] at hr; cases hr
    · exact h1 (isT_txt hr).symm
    · exact h2 (isT_txt hr).symm
  · rw [if_neg hr]
theorem nameP_cannot {ts : List Tok} {s : ByteArray} (hs : bl s = (hd ts).txt) (hc : canB s = false) : nameP ts = .error (2, (hd ts).at_) := by
  unfold nameP
  by_cases hr : reserved (hd ts) = true
  · rw [if_pos hr]
  · rw [if_neg hr]
    refine kindP_neg (fun hk => hr ?_)
    unfold canB at hc
    rw [hs] at hc
    unfold reserved
    have ht : ∀ a : List UInt8, decide (a = (hd ts).txt) = isT a (hd ts) := by
      intro a
      unfold isT
      rw [hk, Bool.eq_iff_iff, decide_eq_true_iff, Bool.and_eq_true, beq_iff_eq]
      exact ⟨fun h => ⟨rfl, h.symm⟩, fun h => h.2.symm⟩
    rw [ht, ht] at hc
    generalize isT wOr (hd ts) = b1 at *
    generalize isT wBy (hd ts) = b2 at *
    generalize (idx (hd ts).txt groupWords).isSome = b3 at *
    generalize (idx (hd ts).txt overWords).isSome = b4 at *
    cases b1 <;> cases b2 <;> cases b3 <;> cases b4 <;> first | rfl | cases hc
def set2 (w : World) (a : Nat) (x y : Value) : World := (w.setCell ⟨a, 0, none⟩ x).setCell ⟨a, 1, none⟩ y
theorem set2_at {w : World} {a : Nat} {p q x y : Value} {t : TypeId} (h : BAt w a [p, q] t) : BAt (set2 w a x y) a [x, y] t := by
  unfold BAt at h
  unfold BAt set2
  simp only [World.setCell, Array.getElem?_modify, h, if_true, Option.map_some]; rfl
theorem set2_other (w : World) (a : Nat) (x y : Value) {b : Nat} (hb : b ≠ a) : (set2 w a x y).heap[b]? = w.heap[b]? := by
  unfold set2
  rw [Go.Deep.blk_setCell_other _ _ _ _ hb, Go.Deep.blk_setCell_other _ _ _ _ hb]
theorem set2_grown {w0 w : World} {a b : Nat} (h : w0.grownBy w (some b)) (ha : w0.heap.size ≤ a) (x y : Value) : w0.grownBy (set2 w a x y) (some b) :=
  grown_set (grown_set h (Or.inr ha) _) (Or.inr ha) _
theorem ErrIs.set2 {w : World} {R : RS} {e : Nat × Nat} {v : Value} (h : ErrIs w R e v) {a : Nat} {c : List Value} {t : TypeId} (hq : BAt w a c t) (ht : t ≠ 98) (x y : Value) : ErrIs (set2 w a x y) R e v := by
  refine h.grown (b := a) ?_ hq ht
  exact grown_set (grown_set (grown_refl w (some a)) (Or.inl rfl) _) (Or.inl rfl) _
theorem NamesV.same {w w' : World} {v : Value} {ns : List (List UInt8)} (h : NamesV w v ns) (hg : ∀ j, v.ownBlock = some j → w'.heap[j]? = w.heap[j]?) : NamesV w' v ns := by
  obtain ⟨bs, h1, h2⟩ := h; exact ⟨bs, own_same h1 hg, h2⟩
theorem CondsV.same {w w' : World} {v : Value} {ns : List (List UInt8 × List UInt8 × Bool)} (h : CondsV w v ns) (hg : ∀ j, v.ownBlock = some j → w'.heap[j]? = w.heap[j]?) : CondsV w' v ns := by
  obtain ⟨bs, h1, h2⟩ := h; exact ⟨bs, own_same h1 hg, h2⟩
theorem CondsV.kept {w w' : World} {v : Value} {ns : List (List UInt8 × List UInt8 × Bool)} (h : CondsV w v ns) {b : Nat} (hg : w.grownBy w' (some b)) {c : Array Value} {t : TypeId} {fr : Nat × Nat} (hq : w.heap[b]? = some (.cells c t fr)) (ht : t ≠ 247) : CondsV w' v ns := by
  obtain ⟨bs, h1, h2⟩ := h
  have hne := own_ne_block h1 hq ht
  exact ⟨bs, own_same h1 (fun j hj => hg.block j (h1.lt j hj).2 (fun e => by injection e with e; subst e; exact hne hj.symm)), h2⟩
theorem NamesV.kept {w w' : World} {v : Value} {ns : List (List UInt8)} (h : NamesV w v ns) {b : Nat} (hg : w.grownBy w' (some b)) {c : Array Value} {t : TypeId} {fr : Nat × Nat} (hq : w.heap[b]? = some (.cells c t fr)) (ht : t ≠ 9) : NamesV w' v ns := by
  obtain ⟨bs, h1, h2⟩ := h
  have hne := own_ne_block h1 hq ht
  exact ⟨bs, own_same h1 (fun j hj => hg.block j (h1.lt j hj).2 (fun e => by injection e with e; subst e; exact hne hj.symm)), h2⟩
theorem CondsV.set2 {w : World} {v : Value} {ns : List (List UInt8 × List UInt8 × Bool)} (h : CondsV w v ns) {a : Nat} {c : List Value} {t : TypeId} (hq : BAt w a c t) (ht : t ≠ 247) (x y : Value) : CondsV (set2 w a x y) v ns :=
  h.kept (b := a) (grown_set (grown_set (grown_refl w (some a)) (Or.inl rfl) _) (Or.inl rfl) _) hq ht
set_option maxRecDepth 100000 in
set_option maxHeartbeats 4000000 in
theorem selector_t {w : World} {R : RS} {k : Nat} {ts : List Tok} (h : RK w R k ts) :
    Calls Tryz.prog 116 #[.pointer (some ⟨R.b, 0, none⟩)] w fun e w' => ∃ (nm : ByteArray) (la : Option Addr) (ln lc : Nat) (v : Value), e = .returned (.tuple #[.agg #[.string nm, .slice la ln lc], v]) ∧ Hid (Res R (fun w' nd => bl nm = nd.name ∧ CondsV w' (.slice la ln lc) nd.conds) w' (selP ts) v) ∧ w.grownBy w' (some R.b) := by
  have H : Hid (RK w R k ts) := h
  have hbl : R.b < w.heap.size := (Array.getElem?_eq_some_iff.1 h.rd.cells).1
  clear h
  go_enter Tryz.func116, Tryz.ntmps116
  go_wp2_with fail
  refine calls_gen fun W0 hW0 => ?_
  have HK0 : Hid (RK W0 R k ts) := hid (by rw [hW0]; exact H.out.below ((Below.refl _ _).alloc (Nat.le_refl _) _))
  have HC0 : Hid (BAt W0 w.heap.size [.string ByteArray.empty, .slice none 0 0] 179) := hid (by rw [hW0]; exact Go.Deep.blk_alloc_new _ _)
  have HG0 : Hid (w.grownBy W0 (some R.b)) := hid (by rw [hW0]; exact grown_alloc (grown_refl _ _) _)
  clear hW0
  refine (token_t HK0.out).mono ?_
  rintro e w1 ⟨⟨kd, at_, tx, tv⟩, rfl, ht, hb1⟩
  have HC1 := hid (HC0.out.below hb1)
  have HG1 : Hid (w.grownBy w1 (some R.b)) := grown_trans HG0.out (grown_of_below hb1)
  have HK1 : Hid (RK w1 R k ts) := HK0.out.below hb1
  clear hb1 HC0 HG0 HK0
  have HTX : Hid (bl tx = (hd ts).txt) := ht.out.2.2.1
  have hf : ∀ W : World, (Instr.field 87 (.agg #[.int .i64 kd, .int .i64 at_, .string tx, .int .i64 tv]) 2).run Tryz.prog W = .ok (.string tx) W := fun _ => rfl
  go_wp2_with fail
  refine (canName_b tx _).mono ?_
  rintro e w1 ⟨rfl, rfl⟩
  cases hc : canB tx
  · have HPE : Hid (selP ts = .error (2, (hd ts).at_)) := hid (by unfold selP; rw [nameP_cannot HTX.out hc]; rfl)
    clear hc
    go_wp2_with fail
    refine (cannotStand_t HK1.out).mono ?_
    rintro e wE ⟨v, rfl, HE, hbE⟩
    obtain ⟨fa, rfl⟩ := HE.out.shape
    have HCE := hid (HC1.out.below hbE)
    have HGE : Hid (w.grownBy wE (some R.b)) := grown_trans HG1.out (grown_of_below hbE)
    clear hbE
    have f0 := HCE.out.frozen 0
    have f1 := HCE.out.frozen 1
    have c0 := HCE.out.cell 0
    have c1 := HCE.out.cell 1
    simp only [List.getElem?_cons_zero, List.getElem?_cons_succ] at c0 c1
    go_wp2
    change bodyPost _ _ _ _ _ (set2 wE w.heap.size (.string ⟨#[]⟩) (.slice none 0 0))
    have s := set2_at HCE.out (x := .string ⟨#[]⟩) (y := .slice none 0 0)
    have s0 := s.cell 0
    have s1 := s.cell 1
    simp only [List.getElem?_cons_zero, List.getElem?_cons_succ] at s0 s1
    have HE2 := hid (HE.out.set2 HCE.out (by decide) (.string ⟨#[]⟩) (.slice none 0 0))
    have HGX := hid (set2_grown HGE.out (Nat.le_refl _) (.string ⟨#[]⟩) (.slice none 0 0))
    generalize set2 wE w.heap.size (.string ⟨#[]⟩) (.slice none 0 0) = WX at *
    exact bodyPost_ret (v := .tuple #[.agg #[.string ⟨#[]⟩, .slice none 0 0], .iface 94 (.pointer (some ⟨fa, 0, none⟩))]) (by simp [results, Tryz.results116, go_sem, s0, s1]) rfl ⟨_, _, _, _, _, rfl, by rw [HPE.out]; exact HE2, HGX.out⟩
  · have HNP : Hid (nameP ts = kindP 2 ts) := nameP_can HTX.out hc
    clear hc
    go_wp2_with fail
    refine (takeName_t HK1.out).mono ?_
    rintro e w2 ⟨x, v, rfl, hres, hg⟩
    have HC2 : Hid (BAt w2 w.heap.size [.string ByteArray.empty, .slice none 0 0] 179) := HC1.out.grown hg (by simp; omega)
    have HG2 : Hid (w.grownBy w2 (some R.b)) := grown_trans HG1.out hg
    clear hg HC1 HG1 HK1
    by_cases hk2 : (hd ts).kind = 2
    · rw [kindP_pos hk2] at hres
      obtain ⟨rfl, ⟨k2, hk⟩, hx⟩ := hres.out
      have HK2 : Hid (RK w2 R k2 ts.tail) := hk
      have HX : Hid (bl x = (hd ts).txt) := hx
      have HNO : Hid (nameP ts = .ok ((hd ts).txt, ts.tail)) := hid (by rw [HNP.out, kindP_pos hk2])
      clear hres hk hx hk2
      go_wp2_with fail
      refine (token_t HK2.out).mono ?_
      rintro e w3 ⟨⟨kd3, at3, tx3, tv3⟩, rfl, ht3, hb3⟩
      have HC3 := hid (HC2.out.below hb3)
      have HG3 : Hid (w.grownBy w3 (some R.b)) := grown_trans HG2.out (grown_of_below hb3)
      have HK3 : Hid (RK w3 R k2 ts.tail) := HK2.out.below hb3
      clear hb3 HC2 HG2 HK2
      go_wp2_with fail
      refine (isMark_t ht3.out HK3.out.wf.head.1 HK3.out.wf.head.2.2 ⟨#[123]⟩ (by decide) (by decide) _).mono ?_
      rintro e w4 ⟨rfl, hb4⟩
      have HC4 := hid (HC3.out.below hb4)
      have HG4 : Hid (w.grownBy w4 (some R.b)) := grown_trans HG3.out (grown_of_below hb4)
      have HK4 : Hid (RK w4 R k2 ts.tail) := HK3.out.below hb4
      clear hb4 HC3 HG3 HK3 ht3
      by_cases ho : isT [123] (hd ts.tail) = true
      · rw [show isT (bl ⟨#[123]⟩) (hd ts.tail) = true from ho]
        obtain ⟨PL, hPL⟩ : ∃ PL, PL = bnd (takeP [123] ts.tail) fun _ r => listP condP [125] (r.length + 1) [] r := ⟨_, rfl⟩
        have HSP : Hid (selP ts = bnd PL fun cs r => .ok (⟨1, 0, 0, (hd ts).txt, cs, []⟩, r)) := hid (by
          unfold selP; rw [HNO.out]; show (if isT [123] (hd ts.tail) = true then _ else _) = _
          rw [if_pos ho, hPL, takeP_pos ho]
          have hl : ts.tail.length = ts.tail.tail.length + 1 := by have := HK4.out.pos; rw [List.length_tail (l := ts.tail)]; omega
          rw [hl]; rfl)
        have HPL : Hid (PL = bnd (takeP [123] ts.tail) fun _ r => listP condP [125] (r.length + 1) [] r) := hPL
        clear hPL ho
        go_wp2_with fail
        refine (listConds_t HK4.out ⟨#[123]⟩ ⟨#[125]⟩ (by decide) (by decide)).mono ?_
        rintro e w5 ⟨la, ln, lc, v, rfl, hres, hg5⟩
        rw [show (bnd (takeP (bl ⟨#[123]⟩) ts.tail) fun _ r => listP condP (bl ⟨#[125]⟩) (r.length + 1) [] r) = PL from HPL.out.symm] at hres
        have HC5 : Hid (BAt w5 w.heap.size [.string ByteArray.empty, .slice none 0 0] 179) := HC4.out.grown hg5 (by simp; omega)
        have HG5 : Hid (w.grownBy w5 (some R.b)) := grown_trans HG4.out hg5
        clear hg5 HC4 HG4 HK4
        have f0 := HC5.out.frozen 0
        have f1 := HC5.out.frozen 1
        have c0 := HC5.out.cell 0
        have c1 := HC5.out.cell 1
        simp only [List.getElem?_cons_zero, List.getElem?_cons_succ] at c0 c1
        go_wp2
        change bodyPost _ _ _ _ _ (set2 w5 w.heap.size (.string x) (.slice la ln lc))
        have s := set2_at HC5.out (x := .string x) (y := .slice la ln lc)
        have s0 := s.cell 0
        have s1 := s.cell 1
        simp only [List.getElem?_cons_zero, List.getElem?_cons_succ] at s0 s1
        have HGX := hid (set2_grown HG5.out (Nat.le_refl _) (.string x) (.slice la ln lc))
        have HRX : Hid (Res R (fun w' nd => bl x = nd.name ∧ CondsV w' (.slice la ln lc) nd.conds) (set2 w5 w.heap.size (.string x) (.slice la ln lc)) (selP ts) v) := hid (by
          rw [HSP.out]
          cases hpl : PL with
          | error er => rw [hpl] at hres; exact ErrIs.set2 hres.out HC5.out (by decide) _ _
          | ok pr =>
            rw [hpl] at hres
            obtain ⟨h1, ⟨kk, h2⟩, h3⟩ := hres.out
            exact ⟨h1, ⟨kk, RK.fresh H.out h2 (Nat.le_refl _) (fun j hj => set2_other _ _ _ _ hj)⟩, HX.out, CondsV.set2 h3 HC5.out (by decide) _ _⟩)
        clear hres
        generalize set2 w5 w.heap.size (.string x) (.slice la ln lc) = WX at *
        exact bodyPost_ret (v := .tuple #[.agg #[.string x, .slice la ln lc], v]) (by simp [results, Tryz.results116, go_sem, s0, s1]) rfl ⟨_, _, _, _, _, rfl, HRX, HGX.out⟩
      · rw [show isT (bl ⟨#[123]⟩) (hd ts.tail) = false from Bool.eq_false_iff.2 ho]
        have HSP : Hid (selP ts = .ok (⟨1, 0, 0, (hd ts).txt, [], []⟩, ts.tail)) := hid (by
          unfold selP; rw [HNO.out]; show (if isT [123] (hd ts.tail) = true then _ else _) = _
          rw [if_neg ho])
        clear ho
        have f0 := HC4.out.frozen 0
        have f1 := HC4.out.frozen 1
        have c0 := HC4.out.cell 0
        have c1 := HC4.out.cell 1
        simp only [List.getElem?_cons_zero, List.getElem?_cons_succ] at c0 c1
        go_wp2
        change bodyPost _ _ _ _ _ (set2 w4 w.heap.size (.string x) (.slice none 0 0))
        have s := set2_at HC4.out (x := .string x) (y := .slice none 0 0)
        have s0 := s.cell 0
        have s1 := s.cell 1
        simp only [List.getElem?_cons_zero, List.getElem?_cons_succ] at s0 s1
        have HGX := hid (set2_grown HG4.out (Nat.le_refl _) (.string x) (.slice none 0 0))
        have HKX := hid (RK.fresh H.out HK4.out (w' := set2 w4 w.heap.size (.string x) (.slice none 0 0)) (Nat.le_refl _) (fun j hj => set2_other _ _ _ _ hj))
        generalize set2 w4 w.heap.size (.string x) (.slice none 0 0) = WX at *
        exact bodyPost_ret (v := .tuple #[.agg #[.string x, .slice none 0 0], .nilIface]) (by simp [results, Tryz.results116, go_sem, s0, s1]) rfl ⟨_, _, _, _, _, rfl, by rw [HSP.out]; exact ⟨rfl, ⟨_, HKX.out⟩, HX.out, [], World.ownsRow_nil _ _ _ _, rfl⟩, HGX.out⟩
    · rw [kindP_neg hk2] at hres
      have HPE : Hid (selP ts = .error (2, (hd ts).at_)) := hid (by unfold selP; rw [HNP.out, kindP_neg hk2]; rfl)
      obtain ⟨fa, rfl⟩ := hres.out.shape
      have HE : Hid (ErrIs w2 R (2, (hd ts).at_) _) := hres.out
      clear hres hk2
      have f0 := HC2.out.frozen 0
      have f1 := HC2.out.frozen 1
      have c0 := HC2.out.cell 0
      have c1 := HC2.out.cell 1
      simp only [List.getElem?_cons_zero, List.getElem?_cons_succ] at c0 c1
      go_wp2
      change bodyPost _ _ _ _ _ (set2 w2 w.heap.size (.string x) (.slice none 0 0))
      have s := set2_at HC2.out (x := .string x) (y := .slice none 0 0)
      have s0 := s.cell 0
      have s1 := s.cell 1
      simp only [List.getElem?_cons_zero, List.getElem?_cons_succ] at s0 s1
      have HE2 := hid (HE.out.set2 HC2.out (by decide) (.string x) (.slice none 0 0))
      have HGX := hid (set2_grown HG2.out (Nat.le_refl _) (.string x) (.slice none 0 0))
      generalize set2 w2 w.heap.size (.string x) (.slice none 0 0) = WX at *
      exact bodyPost_ret (v := .tuple #[.agg #[.string x, .slice none 0 0], .iface 94 (.pointer (some ⟨fa, 0, none⟩))]) (by simp [results, Tryz.results116, go_sem, s0, s1]) rfl ⟨_, _, _, _, _, rfl, by rw [HPE.out]; exact HE2, HGX.out⟩
def rankOf (o : Nat) : Nat := if o = 0 then 0 else if o ≤ 2 then 1 else 2
def signOf (o : Nat) : List UInt8 := if o = 0 then [111, 114] else if o = 1 then [43] else if o = 2 then [45] else if o = 3 then [42] else [47]
theorem rank_any (o : Nat) (ho : o ≤ 4) (w : World) : Calls Tryz.prog 67 #[.int .i64 o] w fun e w' => e = .returned (.int .i64 (rankOf o)) ∧ w' = w := by
  have h : o = 0 ∨ o = 1 ∨ o = 2 ∨ o = 3 ∨ o = 4 := by omega
  rcases h with rfl | rfl | rfl | rfl | rfl
  all_goals
    go_enter Tryz.func67, Tryz.ntmps67
    go_wp2
    go_ret
    exact ⟨rfl, rfl⟩
theorem sign_any (o : Nat) (ho : o ≤ 4) (w : World) : Calls Tryz.prog 81 #[.int .i64 o] w fun e w' => e = .returned (.string ⟨(signOf o).toArray⟩) ∧ w' = w := by
  have h : o = 0 ∨ o = 1 ∨ o = 2 ∨ o = 3 ∨ o = 4 := by omega
  rcases h with rfl | rfl | rfl | rfl | rfl
  all_goals
    go_enter Tryz.func81, Tryz.ntmps81
    go_wp2
    go_ret
    exact ⟨rfl, rfl⟩
def beginsB (t : PTok) : Bool := if ((t.kd : Int) == 0) then true else if ((t.kd : Int) == 1) then !(t.tx.toList == [111, 114]) && !(t.tx.toList == [98, 121]) else markB t ⟨#[45]⟩ || markB t ⟨#[40]⟩
set_option maxRecDepth 100000 in
set_option maxHeartbeats 1000000 in
theorem begins_any (t : PTok) (w : World) :
    Calls Tryz.prog 109 #[.agg #[.int .i64 t.kd, .int .i64 t.at_, .string t.tx, .int .i64 t.v]] w fun e w' => e = .returned (.bool (beginsB t)) ∧ Below w.heap.size w w' := by
  have HT0 : Hid (TAt (w.alloc (.cells #[.int .i64 t.kd, .int .i64 t.at_, .string t.tx, .int .i64 t.v] 87)) w.heap.size t) := Go.Deep.blk_alloc_new _ _
  have HB0 : Hid (Below w.heap.size w (w.alloc (.cells #[.int .i64 t.kd, .int .i64 t.at_, .string t.tx, .int .i64 t.v] 87))) := (Below.refl _ _).alloc (Nat.le_refl _) _
  obtain ⟨x0, h0⟩ : ∃ x, ((t.kd : Int) == 0) = x := ⟨_, rfl⟩
  obtain ⟨x1, h1⟩ : ∃ x, ((t.kd : Int) == 1) = x := ⟨_, rfl⟩
  obtain ⟨y1, g1⟩ : ∃ x, (t.tx.toList == [111, 114]) = x := ⟨_, rfl⟩
  obtain ⟨y2, g2⟩ : ∃ x, (t.tx.toList == [98, 121]) = x := ⟨_, rfl⟩
  obtain ⟨z1, f1⟩ : ∃ x, markB t ⟨#[45]⟩ = x := ⟨_, rfl⟩
  obtain ⟨z2, f2⟩ : ∃ x, markB t ⟨#[40]⟩ = x := ⟨_, rfl⟩
  have HF : Hid (beginsB t = if x0 then true else if x1 then !y1 && !y2 else z1 || z2) := hid (by unfold beginsB; rw [h0, h1, g1, g2, f1, f2])
  have HZ : Hid (markB t ⟨#[45]⟩ = z1 ∧ markB t ⟨#[40]⟩ = z2) := ⟨f1, f2⟩
  rw [HF.out]
  clear HF f1 f2
  cases x0
  · cases x1
    · go_enter Tryz.func109, Tryz.ntmps109
      go_wp2_with fail
      refine (mark_step t _ HZ.out.1 w _ w.heap.size HT0.out HB0.out).mono ?_
      rintro e w1 ⟨rfl, HT1, HB1⟩
      clear HT0 HB0
      cases z1
      · obtain ⟨k0, k1, k2, k3⟩ := TAt.all HT1.out
        go_wp2_with fail
        clear k0 k1 k2 k3
        refine (mark_step t _ HZ.out.2 w w1 w.heap.size HT1.out HB1.out).mono ?_
        rintro e w2 ⟨rfl, HT2, HB2⟩
        cases z2
        · go_wp2
          go_ret
          exact ⟨rfl, HB2.out⟩
        · go_wp2
          go_ret
          exact ⟨rfl, HB2.out⟩
      · go_wp2
        go_ret
        exact ⟨rfl, HB1.out⟩
    · cases y1 <;> cases y2
      all_goals
        go_enter Tryz.func109, Tryz.ntmps109
        go_wp2
        go_ret
        exact ⟨rfl, HB0.out⟩
  · go_enter Tryz.func109, Tryz.ntmps109
    go_wp2
    go_ret
    exact ⟨rfl, HB0.out⟩
end Go.Proofs.YtpbemaaghbbocaaGreatDoor

/- Parts of the proof, joined: DWin, DWin2 -/
import Derived.Test.YtmncdbepjhmkgaaGreatDoorJ33
import Derived.Deep.RegionHeld3
import Derived.Deep.DrawnRows
/- A window, as the program reads it. -/
namespace Go.Proofs.YtmncdbepjhmkgaaGreatDoor
open Go.RowKit LS
attribute [local go_sem ↓] Go.wp_at_zero Go.wp_at_succ

theorem size_num (l : List UInt8) : (1 ≤ numI 1000 l ↔ 1 ≤ numV l ∧ numV l ≤ 1000) ∧ (1 ≤ numI 1000 l → numI 1000 l = numV l) := by
  unfold numI numV number
  by_cases hc : l.length < 1 ∨ (l.head? = some 48 ∧ 1 < l.length) ∨ l.all digit = false
  · rw [if_pos (by rcases hc with h | h | h; exact Or.inl h; exact Or.inr (Or.inl h); exact Or.inr (Or.inr (Or.inl h)))]
    rw [if_pos (by rcases hc with h | h | h; exact Or.inl h; exact Or.inr (Or.inl h); exact Or.inr (Or.inr (Or.inl h)))]
    simp
  · have hn : ∀ most, most < val l → (l.length < 1 ∨ (l.head? = some 48 ∧ 1 < l.length) ∨ l.all digit = false ∨ most < val l) := fun _ h => Or.inr (Or.inr (Or.inr h))
    have hp : ∀ most, ¬ most < val l → ¬ (l.length < 1 ∨ (l.head? = some 48 ∧ 1 < l.length) ∨ l.all digit = false ∨ most < val l) := by
      rintro most h (h1 | h1 | h1 | h1)
      · exact hc (Or.inl h1)
      · exact hc (Or.inr (Or.inl h1))
      · exact hc (Or.inr (Or.inr h1))
      · exact h h1
    by_cases h1 : 1000 < val l
    · rw [if_pos (hn _ h1)]
      by_cases h2 : 1000000000 < val l
      · rw [if_pos (hn _ h2)]; simp
      · rw [if_neg (hp _ h2)]
        simp only [Option.getD_some]
        constructor
        · constructor
          · intro h; omega
          · intro h; omega
        · intro h; omega
    · rw [if_neg (hp _ h1), if_neg (hp _ (by omega))]
      simp only [Option.getD_some]
      constructor
      · constructor
        · intro h; omega
        · intro h; omega
      · intro _; trivial
def lenP (ts : List Tok) : Out Int := bnd (takeP [91] ts) fun _ r => bnd (sizeP r) fun n r => bnd (takeP [93] r) fun _ r => .ok (n, r)
theorem winP_via (o : Nat) (ts : List Tok) : winP o ts = bnd (takeP [40] ts) fun _ r => bnd (selP r) fun p r => bnd (lenP r) fun n r => bnd (takeP [41] r) fun _ r => .ok (leafT ⟨2, o, n, p.name, p.conds, []⟩, r) := by
  unfold winP lenP
  cases h1 : takeP [40] ts with
  | error e => rfl
  | ok p1 =>
    obtain ⟨a1, r1⟩ := p1
    simp only [bnd]
    cases h2 : selP r1 with
    | error e => rfl
    | ok p2 =>
      obtain ⟨a2, r2⟩ := p2
      simp only
      cases h3 : takeP [91] r2 with
      | error e => rfl
      | ok p3 =>
        obtain ⟨a3, r3⟩ := p3
        simp only
        cases h4 : sizeP r3 with
        | error e => rfl
        | ok p4 =>
          obtain ⟨a4, r4⟩ := p4
          simp only
          cases h5 : takeP [93] r4 with
          | error e => rfl
          | ok p5 => rfl
theorem takeP_cases (s : List UInt8) (ts : List Tok) : (isT s (hd ts) = true ∧ takeP s ts = .ok ((), ts.tail)) ∨ (¬ isT s (hd ts) = true ∧ takeP s ts = .error (2, (hd ts).at_)) := by
  by_cases h : isT s (hd ts) = true
  · exact Or.inl ⟨h, takeP_pos h⟩
  · exact Or.inr ⟨h, takeP_neg h⟩
set_option maxRecDepth 100000 in
set_option maxHeartbeats 4000000 in
theorem windowLength_t {w : World} {R : RS} {k : Nat} {ts : List Tok} (h : RK w R k ts) :
    Calls Tryz.prog 93 #[.pointer (some ⟨R.b, 0, none⟩)] w fun e w' => ∃ (n : Int) (v : Value), e = .returned (.tuple #[.int .i64 n, v]) ∧ Hid (Res R (fun _ m => n = m) w' (lenP ts) v) ∧ w.grownBy w' (some R.b) := by
  have H : Hid (RK w R k ts) := h
  have hbl : R.b < w.heap.size := (Array.getElem?_eq_some_iff.1 h.rd.cells).1
  clear h
  go_enter Tryz.func93, Tryz.ntmps93
  go_wp2_with fail
  refine (takeMark_t H.out ⟨#[91]⟩ (by decide) (by decide)).mono ?_
  rintro e w1 ⟨v, rfl, hres, hg⟩
  have HG1 : Hid (w.grownBy w1 (some R.b)) := hg
  clear hg
  rcases takeP_cases [91] ts with ⟨h1, htp⟩ | ⟨h1, htp⟩
  · obtain ⟨rfl, ⟨k1, hk1⟩, _⟩ := hres.out.good htp
    have HK1 : Hid (RK w1 R k1 ts.tail) := hk1
    have HP1 : Hid (lenP ts = bnd (sizeP ts.tail) fun n r => bnd (takeP [93] r) fun _ r => .ok (n, r)) := hid (by unfold lenP; rw [htp]; rfl)
    clear hres hk1 h1 htp
    go_wp2_with fail
    refine (token_t HK1.out).mono ?_
    rintro e w2 ⟨⟨kd, at_, tx, tv⟩, rfl, ht, hb2⟩
    have HG2 : Hid (w.grownBy w2 (some R.b)) := grown_trans HG1.out (grown_of_below hb2)
    have HK2 : Hid (RK w2 R k1 ts.tail) := HK1.out.below hb2
    clear hb2 HG1 HK1
    go_upto_region 5 with fail
    refine wp_gen fun W6 hW6 => ?_
    have hb6 : Below w2.heap.size w2 W6 := by rw [hW6]; exact (Below.refl _ _).alloc (Nat.le_refl _) _
    have HT7 : Hid (BAt W6 w2.heap.size [.int .i64 kd, .int .i64 at_, .string tx, .int .i64 tv] 52) := hid (by rw [hW6]; exact Go.Deep.blk_alloc_new _ _)
    have HG7 : Hid (w.grownBy W6 (some R.b)) := grown_trans HG2.out (grown_of_below hb6)
    have HK7 : Hid (RK W6 R k1 ts.tail) := HK2.out.below hb6
    have hz2 : R.b < w2.heap.size := by have := HG2.out.size; omega
    clear hW6 hb6 HK2 HG2
    have t0 := HT7.out.cell 0
    have t3 := HT7.out.cell 3
    simp only [List.getElem?_cons_zero, List.getElem?_cons_succ] at t0 t3
    have hsn := size_num (hd ts.tail).txt
    by_cases hk1 : (hd ts.tail).kind = 1
    · have hkd : kd = 0 := by have := ht.out.1; rw [hk1] at this; exact this
      subst hkd
      have htv : (tv : Int) = numV (hd ts.tail).txt := ht.out.2.2.2 hk1
      by_cases hn : 1 ≤ numI 1000 (hd ts.tail).txt
      · have hv := hsn.1.1 hn
        rw [← htv] at hv
        have hv1 := hv.1
        have hv2 := hv.2
        have HSP : Hid (sizeP ts.tail = .ok ((tv : Int), ts.tail.tail)) := hid (by unfold sizeP; rw [if_pos ⟨hk1, hn⟩, hsn.2 hn, ← htv])
        have HD : Hid (¬ ((hd ts.tail).kind = 0 ∨ (hd ts.tail).kind = 5)) := hid (by omega)
        obtain ⟨rc0, rc1, rfz, rcx⟩ := HK7.out.rd.all
        have hlt := HK7.out.lt
        have hln := HK7.out.len
        clear hn hsn htv hv hk1 ht
        go_upto_region 8 with fail
        refine wp_gen fun W8 hW8 => ?_
        have HK8 : Hid (RK W8 R (k1 + 1) ts.tail.tail) := hid (by rw [hW8]; exact HK7.out.step HD.out)
        have HG8 : Hid (w.grownBy W8 (some R.b)) := hid (by rw [hW8]; exact grown_set HG7.out (Or.inl rfl) _)
        have HT8 : Hid (BAt W8 w2.heap.size [.int .i64 (0 : Nat), .int .i64 at_, .string tx, .int .i64 tv] 52) := hid (by rw [hW8]; exact HT7.out.other (by show w2.heap.size ≠ R.b; omega) _)
        clear hW8 rc0 rc1 rfz rcx t0 t3 HT7 HK7 HG7
        have e3 := HT8.out.cell 3
        simp only [List.getElem?_cons_zero, List.getElem?_cons_succ] at e3
        have HK8d : Hid (RK W8.drew R (k1 + 1) ts.tail.tail) := HK8.out.below ((Below.refl _ _).drew)
        have HG8d : Hid (w.grownBy W8.drew (some R.b)) := grown_trans HG8.out (grown_of_below ((Below.refl _ _).drew))
        go_region_held3 (fun w' => w'.cell? ⟨w2.heap.size, 3, none⟩ = some (.int .i64 tv)) (first | exact e9 | exact e3 | go_keep) (first
          | (go_at_call 89
             refine (takeMark_t HK8d.out ⟨#[93]⟩ (by decide) (by decide)).mono ?_
             rintro e w9 ⟨v, rfl, hres, hg9⟩
             have e9 : w9.cell? ⟨w2.heap.size, 3, none⟩ = some (.int .i64 tv) := (World.cell?_of_block (a := ⟨w2.heap.size, 3, none⟩) (hg9.block _ (World.block_lt_of_cell? _ _ e3) (by simp; omega))).trans e3
             have HG9 : Hid (w.grownBy w9 (some R.b)) := grown_trans HG8d.out hg9
             clear hg9))
        all_goals
          go_wp2
          go_ret2
          refine ⟨_, _, rfl, ?_, HG9.out⟩
          rw [HP1.out, HSP.out]
          show Hid (Res R _ _ (bnd (takeP [93] ts.tail.tail) _) _)
          rcases takeP_cases [93] ts.tail.tail with ⟨_, htp⟩ | ⟨_, htp⟩
          · obtain ⟨h1, h2, _⟩ := hres.out.good htp
            rw [htp]
            exact ⟨h1, h2, rfl⟩
          · have := hres.out.err htp
            rw [htp]
            exact this
      · have HPE : Hid (lenP ts = .error (2, (hd ts.tail).at_)) := hid (by rw [HP1.out]; unfold sizeP; rw [if_neg (fun h => hn h.2)]; rfl)
        have hv : (tv : Int) < 1 ∨ 1000 < (tv : Int) := by
          rw [htv]
          by_cases h1 : 1 ≤ numV (hd ts.tail).txt ∧ numV (hd ts.tail).txt ≤ 1000
          · exact absurd (hsn.1.2 h1) hn
          · omega
        clear hn hsn htv hk1 ht
        by_cases hv1 : (tv : Int) < 1
        all_goals
          have hv2 : ¬ (tv : Int) < 1 → 1000 < (tv : Int) := by omega
          clear hv
          try have hv3 := hv2 hv1
          clear hv2
          go_wp2_with fail
          refine (cannotStand_t HK7.out).mono ?_
          rintro e wE ⟨v, rfl, HE, hbE⟩
          obtain ⟨fa, rfl⟩ := HE.out.shape
          have HGE : Hid (w.grownBy wE (some R.b)) := grown_trans HG7.out (grown_of_below hbE)
          clear hbE
          go_wp2
          go_ret2
          exact ⟨_, _, rfl, by rw [HPE.out]; exact HE, HGE.out⟩
    · have hkd : ((kd : Int) != 0) = true := by
        rw [bne_iff_ne]; intro e
        exact hk1 ((pk_mark HK7.out.wf.head.2.2).2.2.2.1.1 (by have := ht.out.1; simp only at this; omega))
      have HPE : Hid (lenP ts = .error (2, (hd ts.tail).at_)) := hid (by rw [HP1.out]; unfold sizeP; rw [if_neg (fun h => hk1 h.1)]; rfl)
      clear hsn ht hk1
      go_wp2_with fail
      refine (cannotStand_t HK7.out).mono ?_
      rintro e wE ⟨v, rfl, HE, hbE⟩
      obtain ⟨fa, rfl⟩ := HE.out.shape
      have HGE : Hid (w.grownBy wE (some R.b)) := grown_trans HG7.out (grown_of_below hbE)
      clear hbE
      go_wp2
      go_ret2
      exact ⟨_, _, rfl, by rw [HPE.out]; exact HE, HGE.out⟩
  · have HPE : Hid (lenP ts = .error (2, (hd ts).at_)) := hid (by unfold lenP; rw [htp]; rfl)
    have HE := hid (hres.out.err htp)
    obtain ⟨fa, rfl⟩ := HE.out.shape
    clear hres htp h1
    go_wp2
    go_ret2
    exact ⟨_, _, rfl, by rw [HPE.out]; exact HE, HG1.out⟩
end Go.Proofs.YtmncdbepjhmkgaaGreatDoor
/- A window, whole, as the program reads it. -/
namespace Go.Proofs.YtmncdbepjhmkgaaGreatDoor
open Go.RowKit LS
attribute [local go_sem ↓] Go.wp_at_zero Go.wp_at_succ

set_option maxRecDepth 100000 in
set_option maxHeartbeats 4000000 in
theorem window_t {w : World} {R : RS} {k : Nat} {ts : List Tok} (h : RK w R k ts) (wd : ByteArray) (o : Nat) (hwd : bl wd = overWords.getD o []) :
    Calls Tryz.prog 71 #[.pointer (some ⟨R.b, 0, none⟩), .string wd] w fun e w' => ∃ (pv v : Value), e = .returned (.tuple #[pv, v]) ∧ IfaceV pv ∧ Hid (Res R (fun w' t => PartV w' t pv) w' (winP o ts) v) ∧ w.grownBy w' (some R.b) := by
  have H : Hid (RK w R k ts) := h
  have HWD : Hid (bl wd = overWords.getD o []) := hwd
  have hbl : R.b < w.heap.size := (Array.getElem?_eq_some_iff.1 h.rd.cells).1
  clear h hwd
  go_enter Tryz.func71, Tryz.ntmps71
  go_wp2_with fail
  refine (takeMark_t H.out ⟨#[40]⟩ (by decide) (by decide)).mono ?_
  rintro e w1 ⟨v, rfl, hres, hg⟩
  have HG1 : Hid (w.grownBy w1 (some R.b)) := hg
  clear hg
  rcases takeP_cases [40] ts with ⟨h1, htp⟩ | ⟨h1, htp⟩
  · obtain ⟨rfl, ⟨k1, hk1⟩, _⟩ := hres.out.good htp
    have HK1 : Hid (RK w1 R k1 ts.tail) := hk1
    have HP1 : Hid (winP o ts = bnd (selP ts.tail) fun p r => bnd (lenP r) fun n r => bnd (takeP [41] r) fun _ r => .ok (leafT ⟨2, o, n, p.name, p.conds, []⟩, r)) := hid (by rw [winP_via, htp]; rfl)
    clear hres hk1 h1 htp
    go_wp2_with fail
    refine (selector_t HK1.out).mono ?_
    rintro e w2 ⟨nm, la, ln, lc, v, rfl, hres, hg2⟩
    have HG2 : Hid (w.grownBy w2 (some R.b)) := grown_trans HG1.out hg2
    have hz2 : R.b < w2.heap.size := by have := HG2.out.size; omega
    clear hg2 HG1 HK1
    cases hsp : selP ts.tail with
    | error er =>
      have HE := hid (hres.out.err hsp)
      obtain ⟨fa, rfl⟩ := HE.out.shape
      have HPE : Hid (winP o ts = .error er) := hid (by rw [HP1.out, hsp]; rfl)
      clear hres hsp
      go_wp2
      go_ret2
      exact ⟨_, _, rfl, Or.inl rfl, by rw [HPE.out]; exact HE.out.below ((Below.refl _ _).alloc (Nat.le_refl _) _), grown_alloc HG2.out _⟩
    | ok pr =>
      obtain ⟨nd, r2⟩ := pr
      obtain ⟨rfl, ⟨k2, hk2⟩, hnm, hcs⟩ := hres.out.good hsp
      have HP2 : Hid (winP o ts = bnd (lenP r2) fun n r => bnd (takeP [41] r) fun _ r => .ok (leafT ⟨2, o, n, nd.name, nd.conds, []⟩, r)) := hid (by rw [HP1.out, hsp]; rfl)
      have HNM : Hid (bl nm = nd.name) := hnm
      have HCS : Hid (CondsV w2 (.slice la ln lc) nd.conds) := hcs
      have HK2 : Hid (RK w2 R k2 r2) := hk2
      clear hres hsp hk2 hnm hcs HP1
      go_wp2_with fail
      refine calls_gen fun W3 hW3 => ?_
      have hb3 : Below w2.heap.size w2 W3 := by rw [hW3]; exact (Below.refl _ _).alloc (Nat.le_refl _) _
      have HT3 : Hid (BAt W3 w2.heap.size [.string nm, .slice la ln lc] 130) := hid (by rw [hW3]; exact Go.Deep.blk_alloc_new _ _)
      have HG3 : Hid (w.grownBy W3 (some R.b)) := grown_trans HG2.out (grown_of_below hb3)
      have HK3 : Hid (RK W3 R k2 r2) := HK2.out.below hb3
      have HC3 : Hid (CondsV W3 (.slice la ln lc) nd.conds) := HCS.out.below hb3
      clear hW3 hb3 HG2 HK2 HCS
      refine (windowLength_t HK3.out).mono ?_
      rintro e w4 ⟨n, v, rfl, hres, hg4⟩
      have HG4 : Hid (w.grownBy w4 (some R.b)) := grown_trans HG3.out hg4
      have HC4 : Hid (CondsV w4 (.slice la ln lc) nd.conds) := HC3.out.read HK3.out hg4
      have HT4 : Hid (BAt w4 w2.heap.size [.string nm, .slice la ln lc] 130) := HT3.out.grown hg4 (by simp; omega)
      clear hg4 HG3 HC3 HT3 HK3
      cases hlp : lenP r2 with
      | error er =>
        have HE := hid (hres.out.err hlp)
        obtain ⟨fa, rfl⟩ := HE.out.shape
        have HPE : Hid (winP o ts = .error er) := hid (by rw [HP2.out, hlp]; rfl)
        clear hres hlp
        go_wp2
        go_ret2
        exact ⟨_, _, rfl, Or.inl rfl, by rw [HPE.out]; exact HE, HG4.out⟩
      | ok pr =>
        obtain ⟨n', r4⟩ := pr
        obtain ⟨rfl, ⟨k4, hk4⟩, hn⟩ := hres.out.good hlp
        subst hn
        have HP3 : Hid (winP o ts = bnd (takeP [41] r4) fun _ r => .ok (leafT ⟨2, o, n, nd.name, nd.conds, []⟩, r)) := hid (by rw [HP2.out, hlp]; rfl)
        have HK4 : Hid (RK w4 R k4 r4) := hk4
        clear hres hlp hk4 HP2
        have e0 := HT4.out.cell 0
        have e1 := HT4.out.cell 1
        simp only [List.getElem?_cons_zero, List.getElem?_cons_succ] at e0 e1
        have HK4d : Hid (RK w4.drew R k4 r4) := HK4.out.below ((Below.refl _ _).drew)
        have HG4d : Hid (w.grownBy w4.drew (some R.b)) := grown_trans HG4.out (grown_of_below ((Below.refl _ _).drew))
        have HC4d : Hid (CondsV w4.drew (.slice la ln lc) nd.conds) := HC4.out.below ((Below.refl _ _).drew)
        go_upto_region 10 with fail
        go_region_held3 (fun w' => w'.cell? ⟨w2.heap.size, 0, none⟩ = some (.string nm) ∧ w'.cell? ⟨w2.heap.size, 1, none⟩ = some (.slice la ln lc)) (first | exact ⟨e90, e91⟩ | exact ⟨e0, e1⟩ | go_keep) (first
          | (go_at_call 89
             refine (takeMark_t HK4d.out ⟨#[41]⟩ (by decide) (by decide)).mono ?_
             rintro e w9 ⟨v, rfl, hres, hg9⟩
             have e90 : w9.cell? ⟨w2.heap.size, 0, none⟩ = some (.string nm) := (World.cell?_of_block (a := ⟨w2.heap.size, 0, none⟩) (hg9.block _ (World.block_lt_of_cell? _ _ e0) (by simp; omega))).trans e0
             have e91 : w9.cell? ⟨w2.heap.size, 1, none⟩ = some (.slice la ln lc) := (World.cell?_of_block (a := ⟨w2.heap.size, 1, none⟩) (hg9.block _ (World.block_lt_of_cell? _ _ e1) (by simp; omega))).trans e1
             have HG9 : Hid (w.grownBy w9 (some R.b)) := grown_trans HG4d.out hg9
             have HC9 : Hid (CondsV w9 (.slice la ln lc) nd.conds) := HC4d.out.read HK4d.out hg9
             clear hg9))
        all_goals
          go_wp2
          go_ret2
          refine ⟨_, _, rfl, Or.inr ⟨_, _, rfl⟩, ?_, HG9.out⟩
          rw [HP3.out]
          rcases takeP_cases [41] r4 with ⟨_, htp⟩ | ⟨_, htp⟩
          · obtain ⟨h1, h2, _⟩ := hres.out.good htp
            rw [htp]
            exact ⟨h1, h2, Or.inr (Or.inr (Or.inl ⟨rfl, wd, nm, la, ln, lc, rfl, HWD.out, HNM.out, HC9.out⟩))⟩
          · have := hres.out.err htp
            rw [htp]
            exact this
  · have HPE : Hid (winP o ts = .error (2, (hd ts).at_)) := hid (by rw [winP_via, htp]; rfl)
    have HE := hid (hres.out.err htp)
    obtain ⟨fa, rfl⟩ := HE.out.shape
    clear hres htp h1
    go_wp2
    go_ret2
    exact ⟨_, _, rfl, Or.inl rfl, by rw [HPE.out]; exact HE, HG1.out⟩
end Go.Proofs.YtmncdbepjhmkgaaGreatDoor

/- Parts. -/
import Derived.Test.YtpbemaaghbbocaaGreatDoorA10
namespace Go.Proofs.YtpbemaaghbbocaaGreatDoor
open Go.RowKit LS
attribute [local go_sem ↓] Go.wp_at_zero Go.wp_at_succ
set_option maxRecDepth 100000 in
set_option maxHeartbeats 4000000 in
theorem window_t {w : World} {R : RS} {k : Nat} {ts : List Tok} (h : RK w R k ts) (wd : ByteArray) (o : Nat) (hwd : bl wd = overWords.getD o []) :
    Calls Tryz.prog 115 #[.pointer (some ⟨R.b, 0, none⟩), .string wd] w fun e w' => ∃ (pv v : Value), e = .returned (.tuple #[pv, v]) ∧ IfaceV pv ∧ Hid (Res R (fun w' t => PartV w' t pv) w' (winP o ts) v) ∧ w.grownBy w' (some R.b) := by
  have H : Hid (RK w R k ts) := h
  have HWD : Hid (bl wd = overWords.getD o []) := hwd
  have hbl : R.b < w.heap.size := (Array.getElem?_eq_some_iff.1 h.rd.cells).1
  clear h hwd
  go_enter Tryz.func115, Tryz.ntmps115
  go_wp2_with fail
  refine (takeMark_t H.out ⟨#[40]⟩ (by decide) (by decide)).mono ?_
  rintro e w1 ⟨v, rfl, hres, hg⟩
  have HG1 : Hid (w.grownBy w1 (some R.b)) := hg
  clear hg
  rcases takeP_cases [40] ts with ⟨h1, htp⟩ | ⟨h1, htp⟩
  · obtain ⟨rfl, ⟨k1, hk1⟩, _⟩ := hres.out.good htp
    have HK1 : Hid (RK w1 R k1 ts.tail) := hk1
    have HP1 : Hid (winP o ts = bnd (selP ts.tail) fun p r => bnd (lenP r) fun n r => bnd (takeP [41] r) fun _ r => .ok (leafT ⟨2, o, n, p.name, p.conds, []⟩, r)) := hid (by rw [winP_via, htp]; rfl)
    clear hres hk1 h1 htp
    go_wp2_with fail
    refine (selector_t HK1.out).mono ?_
    rintro e w2 ⟨nm, la, ln, lc, v, rfl, hres, hg2⟩
    have HG2 : Hid (w.grownBy w2 (some R.b)) := grown_trans HG1.out hg2
    have hz2 : R.b < w2.heap.size := by have := HG2.out.size; omega
    clear hg2 HG1 HK1
    cases hsp : selP ts.tail with
    | error er =>
      have HE := hid (hres.out.err hsp)
      obtain ⟨fa, rfl⟩ := HE.out.shape
      have HPE : Hid (winP o ts = .error er) := hid (by rw [HP1.out, hsp]; rfl)
      clear hres hsp
      go_wp2
      go_ret2
      exact ⟨_, _, rfl, Or.inl rfl, by rw [HPE.out]; exact HE.out.below ((Below.refl _ _).alloc (Nat.le_refl _) _), grown_alloc HG2.out _⟩
    | ok pr =>
      obtain ⟨nd, r2⟩ := pr
      obtain ⟨rfl, ⟨k2, hk2⟩, hnm, hcs⟩ := hres.out.good hsp
      have HP2 : Hid (winP o ts = bnd (lenP r2) fun n r => bnd (takeP [41] r) fun _ r => .ok (leafT ⟨2, o, n, nd.name, nd.conds, []⟩, r)) := hid (by rw [HP1.out, hsp]; rfl)
      have HNM : Hid (bl nm = nd.name) := hnm
      have HCS : Hid (CondsV w2 (.slice la ln lc) nd.conds) := hcs
      have HK2 : Hid (RK w2 R k2 r2) := hk2
      clear hres hsp hk2 hnm hcs HP1
      go_wp2_with fail
      refine calls_gen fun W3 hW3 => ?_
      have hb3 : Below w2.heap.size w2 W3 := by rw [hW3]; exact (Below.refl _ _).alloc (Nat.le_refl _) _
      have HT3 : Hid (BAt W3 w2.heap.size [.string nm, .slice la ln lc] 179) := hid (by rw [hW3]; exact Go.Deep.blk_alloc_new _ _)
      have HG3 : Hid (w.grownBy W3 (some R.b)) := grown_trans HG2.out (grown_of_below hb3)
      have HK3 : Hid (RK W3 R k2 r2) := HK2.out.below hb3
      have HC3 : Hid (CondsV W3 (.slice la ln lc) nd.conds) := HCS.out.below hb3
      clear hW3 hb3 HG2 HK2 HCS
      refine (windowLength_t HK3.out).mono ?_
      rintro e w4 ⟨n, v, rfl, hres, hg4⟩
      have HG4 : Hid (w.grownBy w4 (some R.b)) := grown_trans HG3.out hg4
      have HC4 : Hid (CondsV w4 (.slice la ln lc) nd.conds) := HC3.out.read HK3.out hg4
      have HT4 : Hid (BAt w4 w2.heap.size [.string nm, .slice la ln lc] 179) := HT3.out.grown hg4 (by simp; omega)
      clear hg4 HG3 HC3 HT3 HK3
      cases hlp : lenP r2 with
      | error er =>
        have HE := hid (hres.out.err hlp)
        obtain ⟨fa, rfl⟩ := HE.out.shape
        have HPE : Hid (winP o ts = .error er) := hid (by rw [HP2.out, hlp]; rfl)
        clear hres hlp
        go_wp2
        go_ret2
        exact ⟨_, _, rfl, Or.inl rfl, by rw [HPE.out]; exact HE, HG4.out⟩
      | ok pr =>
        obtain ⟨n', r4⟩ := pr
        obtain ⟨rfl, ⟨k4, hk4⟩, hn⟩ := hres.out.good hlp
        subst hn
        have HP3 : Hid (winP o ts = bnd (takeP [41] r4) fun _ r => .ok (leafT ⟨2, o, n, nd.name, nd.conds, []⟩, r)) := hid (by rw [HP2.out, hlp]; rfl)
        have HK4 : Hid (RK w4 R k4 r4) := hk4
        clear hres hlp hk4 HP2
        have e0 := HT4.out.cell 0
        have e1 := HT4.out.cell 1
        simp only [List.getElem?_cons_zero, List.getElem?_cons_succ] at e0 e1
        have HK4d : Hid (RK w4.drew R k4 r4) := HK4.out.below ((Below.refl _ _).drew)
        have HG4d : Hid (w.grownBy w4.drew (some R.b)) := grown_trans HG4.out (grown_of_below ((Below.refl _ _).drew))
        have HC4d : Hid (CondsV w4.drew (.slice la ln lc) nd.conds) := HC4.out.below ((Below.refl _ _).drew)
        go_upto_region 10 with fail
        go_region_held3 (fun w' => w'.cell? ⟨w2.heap.size, 0, none⟩ = some (.string nm) ∧ w'.cell? ⟨w2.heap.size, 1, none⟩ = some (.slice la ln lc)) (first | exact ⟨e90, e91⟩ | exact ⟨e0, e1⟩ | go_keep) (first
          | (go_at_call 152
             refine (takeMark_t HK4d.out ⟨#[41]⟩ (by decide) (by decide)).mono ?_
             rintro e w9 ⟨v, rfl, hres, hg9⟩
             have e90 : w9.cell? ⟨w2.heap.size, 0, none⟩ = some (.string nm) := (World.cell?_of_block (a := ⟨w2.heap.size, 0, none⟩) (hg9.block _ (World.block_lt_of_cell? _ _ e0) (by simp; omega))).trans e0
             have e91 : w9.cell? ⟨w2.heap.size, 1, none⟩ = some (.slice la ln lc) := (World.cell?_of_block (a := ⟨w2.heap.size, 1, none⟩) (hg9.block _ (World.block_lt_of_cell? _ _ e1) (by simp; omega))).trans e1
             have HG9 : Hid (w.grownBy w9 (some R.b)) := grown_trans HG4d.out hg9
             have HC9 : Hid (CondsV w9 (.slice la ln lc) nd.conds) := HC4d.out.read HK4d.out hg9
             clear hg9))
        all_goals
          go_wp2
          go_ret2
          refine ⟨_, _, rfl, Or.inr ⟨_, _, rfl⟩, ?_, HG9.out⟩
          rw [HP3.out]
          rcases takeP_cases [41] r4 with ⟨_, htp⟩ | ⟨_, htp⟩
          · obtain ⟨h1, h2, _⟩ := hres.out.good htp
            rw [htp]
            exact ⟨h1, h2, Or.inr (Or.inr (Or.inl ⟨rfl, wd, nm, la, ln, lc, rfl, HWD.out, HNM.out, HC9.out⟩))⟩
          · have := hres.out.err htp
            rw [htp]
            exact this
  · have HPE : Hid (winP o ts = .error (2, (hd ts).at_)) := hid (by rw [winP_via, htp]; rfl)
    have HE := hid (hres.out.err htp)
    obtain ⟨fa, rfl⟩ := HE.out.shape
    clear hres htp h1
    go_wp2
    go_ret2
    exact ⟨_, _, rfl, Or.inl rfl, by rw [HPE.out]; exact HE, HG1.out⟩
end Go.Proofs.YtpbemaaghbbocaaGreatDoor
namespace Go.Proofs.YtpbemaaghbbocaaGreatDoor
open Go.RowKit LS
def Reads (f : FuncId) (args : Nat → List Value) (P : List Tok → Nat → Out Tr) (ok : List Tok → Prop) : Prop := ∀ (w : World) (R : RS) (k : Nat) (ts : List Tok) (deep : Nat), RK w R k ts → deep ≤ 20 → ok ts →
  Calls Tryz.prog f ⟨.pointer (some ⟨R.b, 0, none⟩) :: args deep⟩ w fun e w' => ∃ (pv v : Value), e = .returned (.tuple #[pv, v]) ∧ IfaceV pv ∧ Hid (Res R (fun w' t => PartV w' t pv) w' (P ts deep) v) ∧ w.grownBy w' (some R.b)
set_option maxRecDepth 100000 in
set_option maxHeartbeats 4000000 in
theorem bracketed_t {rec : Nat → List Tok → Nat → Out Tr} {m : Nat} (hp : Reads 32 (fun d => [.int .i64 0, .int .i64 (d + 1 : Nat)]) (rec 0) (fun ts => ts.length < m)) :
    Reads 111 (fun d => [.int .i64 (d + 1 : Nat)]) (withinP rec) (fun ts => ts.length ≤ m) := by
  intro w R k ts deep h hd hts
  have H : Hid (RK w R k ts) := h
  have HD : Hid (deep ≤ 20) := hd
  have HM : Hid (ts.length ≤ m) := hts
  clear h hd hts
  go_enter Tryz.func111, Tryz.ntmps111
  go_wp2_with fail
  refine (takeMark_t H.out ⟨#[40]⟩ (by decide) (by decide)).mono ?_
  rintro e w1 ⟨v, rfl, hres, hg⟩
  have HG1 : Hid (w.grownBy w1 (some R.b)) := hg
  clear hg
  rcases takeP_cases [40] ts with ⟨h1, htp⟩ | ⟨h1, htp⟩
  · obtain ⟨rfl, ⟨k1, hk1⟩, _⟩ := hres.out.good htp
    have HK1 : Hid (RK w1 R k1 ts.tail) := hk1
    have HP1 : Hid (withinP rec ts deep = bnd (rec 0 ts.tail deep) fun a r => bnd (takeP [41] r) fun _ r => .ok (a, r)) := hid (by unfold withinP; rw [htp]; rfl)
    clear hres hk1 h1 htp
    go_wp2_with fail
    refine (hp w1 R k1 ts.tail deep HK1.out HD.out (by show ts.tail.length < m; have := H.out.pos; have := HM.out; rw [List.length_tail]; omega)).mono ?_
    rintro e w2 ⟨pv, v, rfl, hif, hres, hg2⟩
    have HG2 : Hid (w.grownBy w2 (some R.b)) := grown_trans HG1.out hg2
    clear hg2 HG1 HK1
    cases hrp : rec 0 ts.tail deep with
    | error er =>
      have HE := hid (hres.out.err hrp)
      obtain ⟨fa, rfl⟩ := HE.out.shape
      have HPE : Hid (withinP rec ts deep = .error er) := hid (by rw [HP1.out, hrp]; rfl)
      clear hres hrp
      go_wp2
      go_ret2
      exact ⟨_, _, rfl, Or.inl rfl, by rw [HPE.out]; exact HE, HG2.out⟩
    | ok pr =>
      obtain ⟨t, r2⟩ := pr
      obtain ⟨rfl, ⟨k2, hk2⟩, hpv⟩ := hres.out.good hrp
      have HP2 : Hid (withinP rec ts deep = bnd (takeP [41] r2) fun _ r => .ok (t, r)) := hid (by rw [HP1.out, hrp]; rfl)
      have HK2 : Hid (RK w2 R k2 r2) := hk2
      have HV2 : Hid (PartV w2 t pv) := hpv
      clear hres hrp hk2 hpv HP1
      go_wp2_with fail
      refine (takeMark_t HK2.out ⟨#[41]⟩ (by decide) (by decide)).mono ?_
      rintro e w3 ⟨v, rfl, hres, hg3⟩
      have HG3 : Hid (w.grownBy w3 (some R.b)) := grown_trans HG2.out hg3
      have HV3 : Hid (PartV w3 t pv) := HV2.out.read HK2.out hg3
      have HIF : Hid (IfaceV pv) := hif
      clear hg3 HG2 HV2 hif
      go_wp2
      go_ret2
      refine ⟨_, _, rfl, HIF.out, ?_, HG3.out⟩
      rw [HP2.out]
      rcases takeP_cases [41] r2 with ⟨_, htp⟩ | ⟨_, htp⟩
      · obtain ⟨h1, h2, _⟩ := hres.out.good htp
        rw [htp]
        exact ⟨h1, h2, HV3.out⟩
      · have := hres.out.err htp
        rw [htp]
        exact this
  · have HPE : Hid (withinP rec ts deep = .error (2, (LS.hd ts).at_)) := hid (by unfold withinP; rw [htp]; rfl)
    have HE := hid (hres.out.err htp)
    obtain ⟨fa, rfl⟩ := HE.out.shape
    clear hres htp h1
    go_wp2
    go_ret2
    exact ⟨_, _, rfl, Or.inl rfl, by rw [HPE.out]; exact HE, HG1.out⟩
theorem groupP_via (rec : Nat → List Tok → Nat → Out Tr) (g : Nat) (ts : List Tok) (deep : Nat) : groupP rec g ts deep = bnd (takeP wBy ts) fun _ r => bnd (bnd (takeP [40] r) fun _ r => listP (kindP 2) [41] (r.length + 1) [] r) fun ns r => bnd (withinP rec r deep) fun a r => .ok (.node 0 0 ⟨5, g, 0, [], [], ns⟩ a .nil, r) := by
  unfold groupP
  cases h1 : takeP wBy ts with
  | error e => rfl
  | ok p1 =>
    obtain ⟨a1, r1⟩ := p1
    simp only [bnd]
    cases h2 : takeP [40] r1 with
    | error e => rfl
    | ok p2 => rfl
theorem listNames_len {ts : List Tok} {ns : List (List UInt8)} {r : List Tok} (h : (bnd (takeP [40] ts) fun _ r => listP (kindP 2) [41] (r.length + 1) [] r) = .ok (ns, r)) : r.length ≤ ts.length := by
  have hl : ∀ (n : Nat) (acc : List (List UInt8)) (ts : List Tok) (z : List (List UInt8) × List Tok), listP (kindP 2) [41] n acc ts = .ok z → z.2.length ≤ ts.length := by
    intro n
    induction n with
    | zero => intro acc ts z h; cases h
    | succ n ih =>
      intro acc ts z h
      by_cases hc : isT [41] (hd ts) = true
      · rw [listP_end hc] at h; cases h; simp
      · have hc' : isT [41] (hd ts) = false := Bool.eq_false_iff.2 hc
        by_cases ha : acc = []
        · subst ha
          rw [listP_first hc'] at h
          cases hk : kindP 2 ts with
          | error e => rw [hk] at h; cases h
          | ok p =>
            obtain ⟨a, r⟩ := p
            rw [hk] at h
            have h1 := ih _ _ _ h
            have h2 := kindP_tail hk
            subst h2
            simp at h1; omega
        · rw [listP_next hc' ha] at h
          rcases takeP_cases [44] ts with ⟨_, htp⟩ | ⟨_, htp⟩
          · rw [htp] at h
            simp only [bnd] at h
            cases hk : kindP 2 ts.tail with
            | error e => rw [hk] at h; cases h
            | ok p =>
              obtain ⟨a, r⟩ := p
              rw [hk] at h
              have h1 := ih _ _ _ h
              have h2 := kindP_tail hk
              subst h2
              simp at h1; omega
          · rw [htp] at h; cases h
  rcases takeP_cases [40] ts with ⟨_, htp⟩ | ⟨_, htp⟩
  · rw [htp] at h
    have := hl _ _ _ _ h
    simp at this; omega
  · rw [htp] at h; cases h
set_option maxRecDepth 100000 in
set_option maxHeartbeats 4000000 in
theorem group_t {rec : Nat → List Tok → Nat → Out Tr} {m : Nat} (hp : Reads 111 (fun d => [.int .i64 (d + 1 : Nat)]) (withinP rec) (fun ts => ts.length ≤ m)) (wd : ByteArray) (g : Nat) (hwd : bl wd = groupWords.getD g []) :
    Reads 113 (fun d => [.string wd, .int .i64 (d + 1 : Nat)]) (groupP rec g) (fun ts => ts.length ≤ m) := by
  intro w R k ts deep h hd hts
  have H : Hid (RK w R k ts) := h
  have HWD : Hid (bl wd = groupWords.getD g []) := hwd
  have HD : Hid (deep ≤ 20) := hd
  have HM : Hid (ts.length ≤ m) := hts
  clear h hd hts hwd
  go_enter Tryz.func113, Tryz.ntmps113
  go_wp2_with fail
  refine (takeWord_t H.out ⟨#[98, 121]⟩ (by decide) (by decide)).mono ?_
  rintro e w1 ⟨v, rfl, hres, hg⟩
  have HG1 : Hid (w.grownBy w1 (some R.b)) := hg
  clear hg
  rcases takeP_cases wBy ts with ⟨h1, htp⟩ | ⟨h1, htp⟩
  · obtain ⟨rfl, ⟨k1, hk1⟩, _⟩ := hres.out.good htp
    have HK1 : Hid (RK w1 R k1 ts.tail) := hk1
    have HP1 : Hid (groupP rec g ts deep = bnd (bnd (takeP [40] ts.tail) fun _ r => listP (kindP 2) [41] (r.length + 1) [] r) fun ns r => bnd (withinP rec r deep) fun a r => .ok (.node 0 0 ⟨5, g, 0, [], [], ns⟩ a .nil, r)) := hid (by rw [groupP_via, htp]; rfl)
    clear hres hk1 h1 htp
    go_wp2_with fail
    refine (listNames_t HK1.out ⟨#[40]⟩ ⟨#[41]⟩ (by decide) (by decide)).mono ?_
    rintro e w2 ⟨la, ln, lc, v, rfl, hres, hg2⟩
    have HG2 : Hid (w.grownBy w2 (some R.b)) := grown_trans HG1.out hg2
    clear hg2 HG1 HK1
    cases hlp : (bnd (takeP [40] ts.tail) fun _ r => listP (kindP 2) [41] (r.length + 1) [] r) with
    | error er =>
      have HE := hid (hres.out.err hlp)
      obtain ⟨fa, rfl⟩ := HE.out.shape
      have HPE : Hid (groupP rec g ts deep = .error er) := hid (by rw [HP1.out, hlp]; rfl)
      clear hres hlp
      go_wp2
      go_ret2
      exact ⟨_, _, rfl, Or.inl rfl, by rw [HPE.out]; exact HE, HG2.out⟩
    | ok pr =>
      obtain ⟨ns, r2⟩ := pr
      obtain ⟨rfl, ⟨k2, hk2⟩, hns⟩ := hres.out.good hlp
      have HP2 : Hid (groupP rec g ts deep = bnd (withinP rec r2 deep) fun a r => .ok (.node 0 0 ⟨5, g, 0, [], [], ns⟩ a .nil, r)) := hid (by rw [HP1.out, hlp]; rfl)
      have HK2 : Hid (RK w2 R k2 r2) := hk2
      have HN2 : Hid (NamesV w2 (.slice la ln lc) ns) := hns
      have HL2 : Hid (r2.length ≤ m) := hid (by have := listNames_len hlp; have := HM.out; rw [List.length_tail] at *; omega)
      clear hres hlp hk2 hns HP1
      go_wp2_with fail
      refine (hp w2 R k2 r2 deep HK2.out HD.out HL2.out).mono ?_
      rintro e w3 ⟨pv, v, rfl, hif, hres, hg3⟩
      have HG3 : Hid (w.grownBy w3 (some R.b)) := grown_trans HG2.out hg3
      have HN3 : Hid (NamesV w3 (.slice la ln lc) ns) := HN2.out.read HK2.out hg3
      clear hg3 HG2 HN2
      rcases hif with rfl | ⟨ty, u, rfl⟩
      all_goals
        go_wp2
        go_ret2
        refine ⟨_, _, rfl, Or.inr ⟨_, _, rfl⟩, ?_, HG3.out⟩
        rw [HP2.out]
        cases hwp : withinP rec r2 deep with
        | error er => exact hres.out.err hwp
        | ok pr =>
          obtain ⟨t, r3⟩ := pr
          obtain ⟨h1, h2, h3⟩ := hres.out.good hwp
          exact ⟨h1, h2, Or.inr (Or.inr (Or.inr (Or.inr (Or.inl ⟨rfl, wd, la, ln, lc, _, rfl, HWD.out, HN3.out, h3⟩))))⟩
  · have HPE : Hid (groupP rec g ts deep = .error (2, (LS.hd ts).at_)) := hid (by rw [groupP_via, htp]; rfl)
    have HE := hid (hres.out.err htp)
    obtain ⟨fa, rfl⟩ := HE.out.shape
    clear hres htp h1
    go_wp2
    go_ret2
    exact ⟨_, _, rfl, Or.inl rfl, by rw [HPE.out]; exact HE, HG1.out⟩
end Go.Proofs.YtpbemaaghbbocaaGreatDoor

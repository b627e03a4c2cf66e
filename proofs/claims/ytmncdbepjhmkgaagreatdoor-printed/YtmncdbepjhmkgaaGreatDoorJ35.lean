/- Parts of the proof, joined: DBr -/
import Derived.Test.YtmncdbepjhmkgaaGreatDoorJ34
/- Brackets and groups, as the program reads them. -/
namespace Go.Proofs.YtmncdbepjhmkgaaGreatDoor
open Go.RowKit LS

/-- The contract of a reading method on parts, at a plain reading. -/
def Reads (f : FuncId) (args : Nat → List Value) (P : List Tok → Nat → Out Tr) (ok : List Tok → Prop) : Prop := ∀ (w : World) (R : RS) (k : Nat) (ts : List Tok) (deep : Nat), RK w R k ts → deep ≤ 20 → ok ts →
  Calls Tryz.prog f ⟨.pointer (some ⟨R.b, 0, none⟩) :: args deep⟩ w fun e w' => ∃ (pv v : Value), e = .returned (.tuple #[pv, v]) ∧ IfaceV pv ∧ Hid (Res R (fun w' t => PartV w' t pv) w' (P ts deep) v) ∧ w.grownBy w' (some R.b)
set_option maxRecDepth 100000 in
set_option maxHeartbeats 4000000 in
theorem bracketed_t {rec : Nat → List Tok → Nat → Out Tr} {m : Nat} (hp : Reads 16 (fun d => [.int .i64 0, .int .i64 (d + 1 : Nat)]) (rec 0) (fun ts => ts.length < m)) :
    Reads 67 (fun d => [.int .i64 (d + 1 : Nat)]) (withinP rec) (fun ts => ts.length ≤ m) := by
  intro w R k ts deep h hd hts
  have H : Hid (RK w R k ts) := h
  have HD : Hid (deep ≤ 20) := hd
  have HM : Hid (ts.length ≤ m) := hts
  clear h hd hts
  go_enter Tryz.func67, Tryz.ntmps67
  go_wp2_with fail
  refine (takeMark_t H.out ⟨#[40]⟩ (by decide) (by decide)).mono ?_
  rintro e w1 ⟨v, rfl, hres, hg⟩
  have HG1 : Hid (w.grownBy w1 (some R.b)) := hg
  clear hg
  rcases takeP_cases [40] ts with ⟨h1, htp⟩ | ⟨h1, htp⟩
  · obtain ⟨rfl, ⟨k1, hk1⟩, _⟩ := hres.out.good htp
    have HK1 : Hid (RK w1 R k1 ts.tail) := hk1
    have HP1 : Hid (withinP rec ts deep = bnd (rec 0 ts.tail deep) fun a r => bnd (takeP [41] r) fun _ r => .ok (a, r)) := hid (by unfold withinP; rw [htp]; rfl)
    clear hres hk1 h1 htp
    go_wp2_with fail
    refine (hp w1 R k1 ts.tail deep HK1.out HD.out (by show ts.tail.length < m; have := H.out.pos; have := HM.out; rw [List.length_tail]; omega)).mono ?_
    rintro e w2 ⟨pv, v, rfl, hif, hres, hg2⟩
    have HG2 : Hid (w.grownBy w2 (some R.b)) := grown_trans HG1.out hg2
    clear hg2 HG1 HK1
    cases hrp : rec 0 ts.tail deep with
    | error er =>
      have HE := hid (hres.out.err hrp)
      obtain ⟨fa, rfl⟩ := HE.out.shape
      have HPE : Hid (withinP rec ts deep = .error er) := hid (by rw [HP1.out, hrp]; rfl)
      clear hres hrp
      go_wp2
      go_ret2
      exact ⟨_, _, rfl, Or.inl rfl, by rw [HPE.out]; exact HE, HG2.out⟩
    | ok pr =>
      obtain ⟨t, r2⟩ := pr
      obtain ⟨rfl, ⟨k2, hk2⟩, hpv⟩ := hres.out.good hrp
      have HP2 : Hid (withinP rec ts deep = bnd (takeP [41] r2) fun _ r => .ok (t, r)) := hid (by rw [HP1.out, hrp]; rfl)
      have HK2 : Hid (RK w2 R k2 r2) := hk2
      have HV2 : Hid (PartV w2 t pv) := hpv
      clear hres hrp hk2 hpv HP1
      go_wp2_with fail
      refine (takeMark_t HK2.out ⟨#[41]⟩ (by decide) (by decide)).mono ?_
      rintro e w3 ⟨v, rfl, hres, hg3⟩
      have HG3 : Hid (w.grownBy w3 (some R.b)) := grown_trans HG2.out hg3
      have HV3 : Hid (PartV w3 t pv) := HV2.out.read HK2.out hg3
      have HIF : Hid (IfaceV pv) := hif
      clear hg3 HG2 HV2 hif
      go_wp2
      go_ret2
      refine ⟨_, _, rfl, HIF.out, ?_, HG3.out⟩
      rw [HP2.out]
      rcases takeP_cases [41] r2 with ⟨_, htp⟩ | ⟨_, htp⟩
      · obtain ⟨h1, h2, _⟩ := hres.out.good htp
        rw [htp]
        exact ⟨h1, h2, HV3.out⟩
      · have := hres.out.err htp
        rw [htp]
        exact this
  · have HPE : Hid (withinP rec ts deep = .error (2, (LS.hd ts).at_)) := hid (by unfold withinP; rw [htp]; rfl)
    have HE := hid (hres.out.err htp)
    obtain ⟨fa, rfl⟩ := HE.out.shape
    clear hres htp h1
    go_wp2
    go_ret2
    exact ⟨_, _, rfl, Or.inl rfl, by rw [HPE.out]; exact HE, HG1.out⟩
theorem groupP_via (rec : Nat → List Tok → Nat → Out Tr) (g : Nat) (ts : List Tok) (deep : Nat) : groupP rec g ts deep = bnd (takeP wBy ts) fun _ r => bnd (bnd (takeP [40] r) fun _ r => listP (kindP 2) [41] (r.length + 1) [] r) fun ns r => bnd (withinP rec r deep) fun a r => .ok (.node 0 0 ⟨5, g, 0, [], [], ns⟩ a .nil, r) := by
  unfold groupP
  cases h1 : takeP wBy ts with
  | error e => rfl
  | ok p1 =>
    obtain ⟨a1, r1⟩ := p1
    simp only [bnd]
    cases h2 : takeP [40] r1 with
    | error e => rfl
    | ok p2 => rfl
theorem listNames_len {ts : List Tok} {ns : List (List UInt8)} {r : List Tok} (h : (bnd (takeP [40] ts) fun _ r => listP (kindP 2) [41] (r.length + 1) [] r) = .ok (ns, r)) : r.length ≤ ts.length := by
  have hl : ∀ (n : Nat) (acc : List (List UInt8)) (ts : List Tok) (z : List (List UInt8) × List Tok), listP (kindP 2) [41] n acc ts = .ok z → z.2.length ≤ ts.length := by
    intro n
    induction n with
    | zero => intro acc ts z h; cases h
    | succ n ih =>
      intro acc ts z h
      by_cases hc : isT [41] (hd ts) = true
      · rw [listP_end hc] at h; cases h; simp
      · have hc' : isT [41] (hd ts) = false := Bool.eq_false_iff.2 hc
        by_cases ha : acc = []
        · subst ha
          rw [listP_first hc'] at h
          cases hk : kindP 2 ts with
          | error e => rw [hk] at h; cases h
          | ok p =>
            obtain ⟨a, r⟩ := p
            rw [hk] at h
            have h1 := ih _ _ _ h
            have h2 := kindP_tail hk
            subst h2
            simp at h1; omega
        · rw [listP_next hc' ha] at h
          rcases takeP_cases [44] ts with ⟨_, htp⟩ | ⟨_, htp⟩
          · rw [htp] at h
            simp only [bnd] at h
            cases hk : kindP 2 ts.tail with
            | error e => rw [hk] at h; cases h
            | ok p =>
              obtain ⟨a, r⟩ := p
              rw [hk] at h
              have h1 := ih _ _ _ h
              have h2 := kindP_tail hk
              subst h2
              simp at h1; omega
          · rw [htp] at h; cases h
  rcases takeP_cases [40] ts with ⟨_, htp⟩ | ⟨_, htp⟩
  · rw [htp] at h
    have := hl _ _ _ _ h
    simp at this; omega
  · rw [htp] at h; cases h
set_option maxRecDepth 100000 in
set_option maxHeartbeats 4000000 in
theorem group_t {rec : Nat → List Tok → Nat → Out Tr} {m : Nat} (hp : Reads 67 (fun d => [.int .i64 (d + 1 : Nat)]) (withinP rec) (fun ts => ts.length ≤ m)) (wd : ByteArray) (g : Nat) (hwd : bl wd = groupWords.getD g []) :
    Reads 69 (fun d => [.string wd, .int .i64 (d + 1 : Nat)]) (groupP rec g) (fun ts => ts.length ≤ m) := by
  intro w R k ts deep h hd hts
  have H : Hid (RK w R k ts) := h
  have HWD : Hid (bl wd = groupWords.getD g []) := hwd
  have HD : Hid (deep ≤ 20) := hd
  have HM : Hid (ts.length ≤ m) := hts
  clear h hd hts hwd
  go_enter Tryz.func69, Tryz.ntmps69
  go_wp2_with fail
  refine (takeWord_t H.out ⟨#[98, 121]⟩ (by decide) (by decide)).mono ?_
  rintro e w1 ⟨v, rfl, hres, hg⟩
  have HG1 : Hid (w.grownBy w1 (some R.b)) := hg
  clear hg
  rcases takeP_cases wBy ts with ⟨h1, htp⟩ | ⟨h1, htp⟩
  · obtain ⟨rfl, ⟨k1, hk1⟩, _⟩ := hres.out.good htp
    have HK1 : Hid (RK w1 R k1 ts.tail) := hk1
    have HP1 : Hid (groupP rec g ts deep = bnd (bnd (takeP [40] ts.tail) fun _ r => listP (kindP 2) [41] (r.length + 1) [] r) fun ns r => bnd (withinP rec r deep) fun a r => .ok (.node 0 0 ⟨5, g, 0, [], [], ns⟩ a .nil, r)) := hid (by rw [groupP_via, htp]; rfl)
    clear hres hk1 h1 htp
    go_wp2_with fail
    refine (listNames_t HK1.out ⟨#[40]⟩ ⟨#[41]⟩ (by decide) (by decide)).mono ?_
    rintro e w2 ⟨la, ln, lc, v, rfl, hres, hg2⟩
    have HG2 : Hid (w.grownBy w2 (some R.b)) := grown_trans HG1.out hg2
    clear hg2 HG1 HK1
    cases hlp : (bnd (takeP [40] ts.tail) fun _ r => listP (kindP 2) [41] (r.length + 1) [] r) with
    | error er =>
      have HE := hid (hres.out.err hlp)
      obtain ⟨fa, rfl⟩ := HE.out.shape
      have HPE : Hid (groupP rec g ts deep = .error er) := hid (by rw [HP1.out, hlp]; rfl)
      clear hres hlp
      go_wp2
      go_ret2
      exact ⟨_, _, rfl, Or.inl rfl, by rw [HPE.out]; exact HE, HG2.out⟩
    | ok pr =>
      obtain ⟨ns, r2⟩ := pr
      obtain ⟨rfl, ⟨k2, hk2⟩, hns⟩ := hres.out.good hlp
      have HP2 : Hid (groupP rec g ts deep = bnd (withinP rec r2 deep) fun a r => .ok (.node 0 0 ⟨5, g, 0, [], [], ns⟩ a .nil, r)) := hid (by rw [HP1.out, hlp]; rfl)
      have HK2 : Hid (RK w2 R k2 r2) := hk2
      have HN2 : Hid (NamesV w2 (.slice la ln lc) ns) := hns
      have HL2 : Hid (r2.length ≤ m) := hid (by have := listNames_len hlp; have := HM.out; rw [List.length_tail] at *; omega)
      clear hres hlp hk2 hns HP1
      go_wp2_with fail
      refine (hp w2 R k2 r2 deep HK2.out HD.out HL2.out).mono ?_
      rintro e w3 ⟨pv, v, rfl, hif, hres, hg3⟩
      have HG3 : Hid (w.grownBy w3 (some R.b)) := grown_trans HG2.out hg3
      have HN3 : Hid (NamesV w3 (.slice la ln lc) ns) := HN2.out.read HK2.out hg3
      clear hg3 HG2 HN2
      rcases hif with rfl | ⟨ty, u, rfl⟩
      all_goals
        go_wp2
        go_ret2
        refine ⟨_, _, rfl, Or.inr ⟨_, _, rfl⟩, ?_, HG3.out⟩
        rw [HP2.out]
        cases hwp : withinP rec r2 deep with
        | error er => exact hres.out.err hwp
        | ok pr =>
          obtain ⟨t, r3⟩ := pr
          obtain ⟨h1, h2, h3⟩ := hres.out.good hwp
          exact ⟨h1, h2, Or.inr (Or.inr (Or.inr (Or.inr (Or.inl ⟨rfl, wd, la, ln, lc, _, rfl, HWD.out, HN3.out, h3⟩))))⟩
  · have HPE : Hid (groupP rec g ts deep = .error (2, (LS.hd ts).at_)) := hid (by rw [groupP_via, htp]; rfl)
    have HE := hid (hres.out.err htp)
    obtain ⟨fa, rfl⟩ := HE.out.shape
    clear hres htp h1
    go_wp2
    go_ret2
    exact ⟨_, _, rfl, Or.inl rfl, by rw [HPE.out]; exact HE, HG1.out⟩
end Go.Proofs.YtmncdbepjhmkgaaGreatDoor

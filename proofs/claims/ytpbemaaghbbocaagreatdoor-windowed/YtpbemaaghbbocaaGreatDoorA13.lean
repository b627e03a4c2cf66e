/- Parts. -/
import Derived.Test.YtpbemaaghbbocaaGreatDoorA12
import Derived.Test.YtpbemaaghbbocaaGreatDoorA07
import Derived.Deep.LoopGhost
import Derived.Test.YtpbemaaghbbocaaGreatDoorA10
namespace Go.Proofs.YtpbemaaghbbocaaGreatDoor
open Go.RowKit LS
theorem op_some {p : PTok} {u : Tok} (h : TokIs p u) (hw : TokWf u) (hk : u.kind ≤ 5) {lv : Nat} (hl : lv ≤ 2) {kd op : Nat} (ho : LS.opAt lv u = some (kd, op)) : ∃ j, opOf p = some j ∧ j ≤ 4 ∧ rankOf j = lv ∧ opNo (nd0 kd op) = j ∧ (kd = 4 ∨ kd = 6) ∧ ¬ (u.kind = 0 ∨ u.kind = 5) := by
  have m0 : wordB p ⟨#[111, 114]⟩ = isT wOr u := word_isT h hw hk (s := ⟨#[111, 114]⟩) (by decide) (by decide)
  have m1 : markB p ⟨#[43]⟩ = isT [43] u := mark_isT h hw hk (s := ⟨#[43]⟩) (by decide) (by decide)
  have m2 : markB p ⟨#[45]⟩ = isT [45] u := mark_isT h hw hk (s := ⟨#[45]⟩) (by decide) (by decide)
  have m3 : markB p ⟨#[42]⟩ = isT [42] u := mark_isT h hw hk (s := ⟨#[42]⟩) (by decide) (by decide)
  have m4 : markB p ⟨#[47]⟩ = isT [47] u := mark_isT h hw hk (s := ⟨#[47]⟩) (by decide) (by decide)
  unfold opOf
  rw [m0, m1, m2, m3, m4]
  unfold LS.opAt at ho
  rcases (by omega : lv = 0 ∨ lv = 1 ∨ lv = 2) with rfl | rfl | rfl
  · by_cases a : isT wOr u = true
    · rw [if_pos rfl, if_pos a] at ho
      injection ho with ho; injection ho with h1 h2; subst h1 h2
      rw [if_pos a]
      exact ⟨0, rfl, by decide, rfl, rfl, Or.inr rfl, isT_dead a⟩
    · rw [if_pos rfl, if_neg a] at ho; cases ho
  · rw [if_neg (by decide), if_pos rfl] at ho
    by_cases a : isT [43] u = true
    · rw [if_pos a] at ho
      injection ho with ho; injection ho with h1 h2; subst h1 h2
      rw [isT_other a (u := wOr) (by decide), if_neg (by decide), if_pos a]
      exact ⟨1, rfl, by decide, rfl, rfl, Or.inl rfl, isT_dead a⟩
    · rw [if_neg a] at ho
      by_cases b : isT [45] u = true
      · rw [if_pos b] at ho
        injection ho with ho; injection ho with h1 h2; subst h1 h2
        rw [isT_other b (u := wOr) (by decide), if_neg (by decide), if_neg a, if_pos b]
        exact ⟨2, rfl, by decide, rfl, rfl, Or.inl rfl, isT_dead b⟩
      · rw [if_neg b] at ho; cases ho
  · rw [if_neg (by decide), if_neg (by decide)] at ho
    by_cases a : isT [42] u = true
    · rw [if_pos a] at ho
      injection ho with ho; injection ho with h1 h2; subst h1 h2
      rw [isT_other a (u := wOr) (by decide), if_neg (by decide), isT_other a (u := [43]) (by decide), if_neg (by decide), isT_other a (u := [45]) (by decide), if_neg (by decide), if_pos a]
      exact ⟨3, rfl, by decide, rfl, rfl, Or.inl rfl, isT_dead a⟩
    · rw [if_neg a] at ho
      by_cases b : isT [47] u = true
      · rw [if_pos b] at ho
        injection ho with ho; injection ho with h1 h2; subst h1 h2
        rw [isT_other b (u := wOr) (by decide), if_neg (by decide), isT_other b (u := [43]) (by decide), if_neg (by decide), isT_other b (u := [45]) (by decide), if_neg (by decide), if_neg a, if_pos b]
        exact ⟨4, rfl, by decide, rfl, rfl, Or.inl rfl, isT_dead b⟩
      · rw [if_neg b] at ho; cases ho
theorem op_none {p : PTok} {u : Tok} (h : TokIs p u) (hw : TokWf u) (hk : u.kind ≤ 5) {lv : Nat} (hl : lv ≤ 2) (ho : LS.opAt lv u = none) : opOf p = none ∨ ∃ j, opOf p = some j ∧ j ≤ 4 ∧ rankOf j ≠ lv := by
  have m0 : wordB p ⟨#[111, 114]⟩ = isT wOr u := word_isT h hw hk (s := ⟨#[111, 114]⟩) (by decide) (by decide)
  have m1 : markB p ⟨#[43]⟩ = isT [43] u := mark_isT h hw hk (s := ⟨#[43]⟩) (by decide) (by decide)
  have m2 : markB p ⟨#[45]⟩ = isT [45] u := mark_isT h hw hk (s := ⟨#[45]⟩) (by decide) (by decide)
  have m3 : markB p ⟨#[42]⟩ = isT [42] u := mark_isT h hw hk (s := ⟨#[42]⟩) (by decide) (by decide)
  have m4 : markB p ⟨#[47]⟩ = isT [47] u := mark_isT h hw hk (s := ⟨#[47]⟩) (by decide) (by decide)
  unfold opOf
  rw [m0, m1, m2, m3, m4]
  unfold LS.opAt at ho
  generalize isT wOr u = b0 at *
  generalize isT [43] u = b1 at *
  generalize isT [45] u = b2 at *
  generalize isT [42] u = b3 at *
  generalize isT [47] u = b4 at *
  rcases (by omega : lv = 0 ∨ lv = 1 ∨ lv = 2) with rfl | rfl | rfl <;> cases b0 <;> cases b1 <;> cases b2 <;> cases b3 <;> cases b4 <;> first
    | exact Or.inl rfl
    | exact Or.inr ⟨0, rfl, by decide, by decide⟩
    | exact Or.inr ⟨1, rfl, by decide, by decide⟩
    | exact Or.inr ⟨2, rfl, by decide, by decide⟩
    | exact Or.inr ⟨3, rfl, by decide, by decide⟩
    | exact Or.inr ⟨4, rfl, by decide, by decide⟩
    | cases ho
theorem parse_line {n lv : Nat} {ts : List Tok} {deep : Nat} (h : lv ≠ 3) : parse (n + 1) false lv .nil ts deep = bnd (parse n false (lv + 1) .nil ts deep) fun a r => parse n true lv a r deep := by
  show (if lv = 3 then _ else _) = _
  rw [if_neg h]
theorem parse_fac {n : Nat} {ts : List Tok} {deep : Nat} : parse (n + 1) false 3 .nil ts deep = factorP (fun lv ts d => parse n false lv .nil ts d) ts deep := by
  show (if 3 = 3 then _ else _) = _
  rw [if_pos rfl]
theorem parse_stop {n lv : Nat} {a : Tr} {ts : List Tok} {deep : Nat} (h : LS.opAt lv (hd ts) = none) : parse (n + 1) true lv a ts deep = .ok (a, ts) := by
  show (match LS.opAt lv (hd ts) with | none => _ | some p => _) = _
  rw [h]
theorem parse_more {n lv : Nat} {a : Tr} {ts : List Tok} {deep : Nat} {p : Nat × Nat} (h : LS.opAt lv (hd ts) = some p) : parse (n + 1) true lv a ts deep = bnd (parse n false (lv + 1) .nil ts.tail deep) fun b r => parse n true lv (.node 0 0 (nd0 p.1 p.2) a b) r deep := by
  show (match LS.opAt lv (hd ts) with | none => _ | some p => _) = _
  rw [h]
def RP (lv n : Nat) : Prop := Reads 32 (fun d => [.int .i64 lv, .int .i64 (d + 1 : Nat)]) (fun ts d => parse n false lv .nil ts d) (fun ts => 10 * ts.length + 5 ≤ n + lv)
def RF (n : Nat) : Prop := Reads 65 (fun d => [.int .i64 (d + 1 : Nat)]) (fun ts d => parse n false 3 .nil ts d) (fun ts => 10 * ts.length + 2 ≤ n)
theorem part_fac {n : Nat} (hf : RF n) : RP 3 n := by
  intro w R k ts deep h hd hts
  have HC : Hid (Calls Tryz.prog 65 #[.pointer (some ⟨R.b, 0, none⟩), .int .i64 (deep + 1 : Nat)] w _) := hf w R k ts deep h hd (by show 10 * ts.length + 2 ≤ n; have h' : 10 * ts.length + 5 ≤ n + 3 := hts; omega)
  clear h hd hts hf
  go_enter Tryz.func32, Tryz.ntmps32
  go_wp2_with fail
  refine HC.out.mono ?_
  rintro e w1 ⟨pv, v, rfl, hif, hres, hg⟩
  have HIF : Hid (IfaceV pv) := hif
  have HG : Hid (w.grownBy w1 (some R.b)) := hg
  clear hif hg
  go_wp2
  go_ret2
  exact ⟨_, _, rfl, HIF.out, hres, HG.out⟩
set_option maxRecDepth 100000 in
set_option maxHeartbeats 8000000 in
theorem part_line {n lv : Nat} (hlv : lv ≤ 2) (hp : ∀ m, m ≤ n → RP (lv + 1) m) : RP lv (n + 1) := by
  intro w R k ts deep h hd hts
  have H : Hid (RK w R k ts) := h
  have HD : Hid (deep ≤ 20) := hd
  have hts' : 10 * ts.length + 5 ≤ n + 1 + lv := hts
  have hbl : R.b < w.heap.size := (Array.getElem?_eq_some_iff.1 h.rd.cells).1
  have HC : Hid (∀ m, m ≤ n → ∀ (w : World) (k : Nat) (ts : List Tok), RK w R k ts → 10 * ts.length + 5 ≤ m + (lv + 1) → Calls Tryz.prog 32 #[.pointer (some ⟨R.b, 0, none⟩), .int .i64 ((lv : Int) + 1), .int .i64 ((deep : Int) + 1)] w fun e w' => ∃ (pv v : Value), e = .returned (.tuple #[pv, v]) ∧ IfaceV pv ∧ Hid (Res R (fun w' t => PartV w' t pv) w' (parse m false (lv + 1) .nil ts deep) v) ∧ w.grownBy w' (some R.b)) := hid (fun m hm w k ts h1 h2 => hp m hm w R k ts deep h1 hd h2)
  have h3 : ((lv : Int) == 3) = false := by rw [beq_eq_false_iff_ne]; omega
  obtain ⟨PR, hPR⟩ : ∃ PR, PR = parse (n + 1) false lv .nil ts deep := ⟨_, rfl⟩
  have HPR : Hid (PR = bnd (parse n false (lv + 1) .nil ts deep) fun a r => parse n true lv a r deep) := hid (by rw [hPR, parse_line (by omega)])
  show Calls _ _ _ _ (fun e w' => ∃ (pv v : Value), e = .returned (.tuple #[pv, v]) ∧ IfaceV pv ∧ Hid (Res R (fun w' t => PartV w' t pv) w' (parse (n + 1) false lv .nil ts deep) v) ∧ w.grownBy w' (some R.b))
  rw [← hPR]
  clear h hd hts hp hPR
  go_enter Tryz.func32, Tryz.ntmps32
  go_wp2_with fail
  refine (HC.out n (Nat.le_refl _) w k ts H.out (by omega)).mono ?_
  rintro e w1 ⟨pv, v, rfl, hif, hres, hg⟩
  have HG1 : Hid (w.grownBy w1 (some R.b)) := hg
  clear hg
  cases hrp : parse n false (lv + 1) .nil ts deep with
  | error er =>
    have HE := hid (hres.out.err hrp)
    obtain ⟨fa, rfl⟩ := HE.out.shape
    have HPE : Hid (PR = .error er) := hid (by rw [HPR.out, hrp]; rfl)
    clear hres hrp
    go_wp2
    go_ret2
    exact ⟨_, _, rfl, Or.inl rfl, by rw [HPE.out]; exact HE, HG1.out⟩
  | ok pr =>
    obtain ⟨a0, r0⟩ := pr
    obtain ⟨rfl, ⟨k1, hk1⟩, hv⟩ := hres.out.good hrp
    have HK1 : Hid (RK w1 R k1 r0) := hk1
    have HV1 : Hid (PartV w1 a0 pv) := hv
    have HP1 : Hid (parse n true lv a0 r0 deep = PR) := hid (by rw [HPR.out, hrp]; rfl)
    have hlen : r0.length + 1 ≤ ts.length := parse_len n false (lv + 1) .nil ts deep _ hrp
    clear hres hrp hk1 hv HPR hif
    go_wp2
    go_loopg [8] r0.length (fun g v8 wr => ∃ (a : Tr) (r : List Tok) (k2 m : Nat), g = r.length ∧ Hid (PartV wr a v8) ∧ Hid (RK wr R k2 r) ∧ Hid (10 * r.length + 5 ≤ m ∧ m ≤ n ∧ parse m true lv a r deep = PR) ∧ Hid (w.grownBy wr (some R.b)))
    case atStart => exact ⟨a0, r0, k1, n, rfl, HV1, HK1, ⟨by omega, Nat.le_refl _, HP1.out⟩, HG1⟩
    case round =>
      obtain ⟨a, r, k2, m, hgr, HV, HK, HN, HG⟩ := hrel
      clear HV1 HK1 HP1 HG1
      obtain ⟨m, rfl⟩ : ∃ m', m = m' + 1 := ⟨m - 1, by have := HN.out.1; omega⟩
      obtain ⟨ty, u, hsh⟩ := PartV.shape HV.out
      subst hsh
      go_wp2_with fail
      refine (token_t HK.out).mono ?_
      rintro e w2 ⟨⟨kd, at_, tx, tv⟩, rfl, ht, hb2⟩
      have HK2 : Hid (RK w2 R k2 r) := HK.out.below hb2
      have HV2 : Hid (PartV w2 a (.iface ty u)) := HV.out.below hb2
      have HG2 : Hid (w.grownBy w2 (some R.b)) := grown_trans HG.out (grown_of_below hb2)
      have HWF := hid HK2.out.wf.head
      clear hb2 HK HV HG
      go_wp2_with fail
      refine (operatorOf_any ⟨kd, at_, tx, tv⟩ _).mono ?_
      rintro e w3 ⟨rfl, hb3⟩
      have HK3 : Hid (RK w3 R k2 r) := HK2.out.below hb3
      have HV3 : Hid (PartV w3 a (.iface ty u)) := HV2.out.below hb3
      have HG3 : Hid (w.grownBy w3 (some R.b)) := grown_trans HG2.out (grown_of_below hb3)
      clear hb3 HK2 HV2 HG2
      cases hop : LS.opAt lv (LS.hd r) with
      | none =>
        have HPL : Hid (PR = .ok (a, r)) := hid (by rw [← HN.out.2.2, parse_stop hop])
        rcases op_none ht.out HWF.out.1 HWF.out.2.2 hlv hop with ho | ⟨j, ho, hj4, hrk⟩
        · rw [ho]
          clear hop ho
          go_wp2
          go_ret2
          exact ⟨_, _, rfl, Or.inr ⟨_, _, rfl⟩, by rw [HPL.out]; exact ⟨rfl, ⟨_, HK3.out⟩, HV3.out⟩, HG3.out⟩
        · rw [ho]
          have hr2 : ((rankOf j : Int) != lv) = true := by rw [bne_iff_ne]; omega
          rw [show (some j).getD 0 = j from rfl, show (some j).isSome = true from rfl]
          clear hop ho
          go_wp2_with (go_at_call 67; refine (rank_any j hj4 _).mono ?_; rintro e wq ⟨rfl, rfl⟩)
          go_ret2
          exact ⟨_, _, rfl, Or.inr ⟨_, _, rfl⟩, by rw [HPL.out]; exact ⟨rfl, ⟨_, HK3.out⟩, HV3.out⟩, HG3.out⟩
      | some p =>
        obtain ⟨j, ho, hj4, hrk, hno, hk46, hdead⟩ := op_some ht.out HWF.out.1 HWF.out.2.2 hlv hop
        have HPL : Hid ((bnd (parse m false (lv + 1) .nil r.tail deep) fun b r => parse m true lv (.node 0 0 (nd0 p.1 p.2) a b) r deep) = PR) := hid (by rw [← HN.out.2.2, parse_more hop])
        have HNO : Hid (opNo (nd0 p.1 p.2) = j ∧ (p.1 = 4 ∨ p.1 = 6)) := ⟨hno, hk46⟩
        have HDE : Hid (¬ ((LS.hd r).kind = 0 ∨ (LS.hd r).kind = 5)) := hdead
        have hr2 : ((rankOf j : Int) != lv) = false := by rw [bne_eq_false_iff_eq]; omega
        rw [ho, show (some j).getD 0 = j from rfl, show (some j).isSome = true from rfl]
        obtain ⟨rc0, rc1, rfz, rcx⟩ := HK3.out.rd.all
        have hlt := HK3.out.lt
        have hln := HK3.out.len
        have hm1 := HN.out.1
        have hm2 := HN.out.2.1
        clear hop ho hno hk46 hdead rcx
        go_upto_region 10 with (go_at_call 67; refine (rank_any j hj4 _).mono ?_; rintro e wq ⟨rfl, rfl⟩)
        refine wp_gen fun W8 hW8 => ?_
        have HK8 : Hid (RK W8 R (k2 + 1) r.tail) := hid (by rw [hW8]; exact HK3.out.step HDE.out)
        have HG8 : Hid (w.grownBy W8 (some R.b)) := hid (by rw [hW8]; exact grown_set HG3.out (Or.inl rfl) _)
        have HV8 : Hid (PartV W8 a (.iface ty u)) := hid (by rw [hW8]; exact HV3.out.read HK3.out (grown_set (grown_refl _ _) (Or.inl rfl) _))
        have hpos := HK3.out.pos
        have hpos8 := HK8.out.pos
        rw [List.length_tail] at hpos8
        clear hW8 rc0 rc1 rfz HK3 HG3 HV3
        go_wp2_with fail
        refine (HC.out m (by omega) W8 (k2 + 1) r.tail HK8.out (by rw [List.length_tail]; omega)).mono ?_
        rintro e w9 ⟨pv, v, rfl, hif, hres, hg9⟩
        have HG9 : Hid (w.grownBy w9 (some R.b)) := grown_trans HG8.out hg9
        have HV9 : Hid (PartV w9 a (.iface ty u)) := HV8.out.read HK8.out hg9
        clear hg9 HG8 HV8
        cases hrp : parse m false (lv + 1) .nil r.tail deep with
        | error er =>
          have HE := hid (hres.out.err hrp)
          obtain ⟨fa, rfl⟩ := HE.out.shape
          have HPE : Hid (PR = .error er) := hid (by rw [← HPL.out, hrp]; rfl)
          clear hres hrp
          go_wp2
          go_ret2
          exact ⟨_, _, rfl, Or.inl rfl, by rw [HPE.out]; exact HE, HG9.out⟩
        | ok pr =>
          obtain ⟨b, y⟩ := pr
          obtain ⟨rfl, ⟨k9, hk9⟩, hv9⟩ := hres.out.good hrp
          have HK9 : Hid (RK w9 R k9 y) := hk9
          have HW9 : Hid (PartV w9 b pv) := hv9
          have HP9 : Hid (parse m true lv (.node 0 0 (nd0 p.1 p.2) a b) y deep = PR) := hid (by rw [← HPL.out, hrp]; rfl)
          have hylen := parse_len m false (lv + 1) .nil r.tail deep _ hrp
          simp only [List.length_tail, Bool.false_eq_true, if_false] at hylen
          obtain ⟨ty2, u2, hsh2⟩ := PartV.shape hv9
          subst hsh2
          have HV10 : Hid (PartV w9 (.node 0 0 (nd0 p.1 p.2) a b) (.iface 149 (.agg #[.int .i64 j, .iface ty u, .iface ty2 u2]))) := hid (Or.inr (Or.inr (Or.inr (Or.inr (Or.inr ⟨HNO.out.2, _, _, by rw [HNO.out.1], HV9.out, HW9.out⟩)))))
          clear hres hrp hk9 hv9 hif HPL
          go_wp2
          go_roundg y.length
          case measure => omega
          case rel => exact ⟨_, y, k9, m, rfl, HV10, HK9, ⟨by omega, by omega, HP9.out⟩, HG9⟩
theorem all_t : ∀ n, (∀ lv, lv ≤ 3 → ∀ m, m ≤ n → RP lv m) ∧ (∀ m, m ≤ n → RF m)
  | 0 => by
    constructor
    · intro lv hlv m hm w R k ts deep _ _ hts
      exact absurd (show 10 * ts.length + 5 ≤ m + lv from hts) (by omega)
    · intro m hm w R k ts deep _ _ hts
      exact absurd (show 10 * ts.length + 2 ≤ m from hts) (by omega)
  | n + 1 => by
    obtain ⟨ih1, ih2⟩ := all_t n
    have hf : RF (n + 1) := by
      intro w R k ts deep h hd hts
      have hts' : 10 * ts.length + 2 ≤ n + 1 := hts
      show Calls _ _ _ _ (fun e w' => ∃ (pv v : Value), e = .returned (.tuple #[pv, v]) ∧ IfaceV pv ∧ Hid (Res R (fun w' t => PartV w' t pv) w' (parse (n + 1) false 3 .nil ts deep) v) ∧ w.grownBy w' (some R.b))
      rw [parse_fac]
      refine factor_t (rec := fun lv ts d => parse n false lv .nil ts d) (m := ts.length) ?_ (bracketed_t ?_) w R k ts deep h hd (Nat.le_refl _)
      · intro w R k ts2 deep h hd h2
        exact ih2 n (Nat.le_refl _) w R k ts2 deep h hd (by show 10 * ts2.length + 2 ≤ n; have h3 : ts2.length < ts.length := h2; omega)
      · intro w R k ts2 deep h hd h2
        exact ih1 0 (by omega) n (Nat.le_refl _) w R k ts2 deep h hd (by show 10 * ts2.length + 5 ≤ n + 0; have h3 : ts2.length < ts.length := h2; omega)
    constructor
    · intro lv hlv m hm
      by_cases h0 : m ≤ n
      · exact ih1 lv hlv m h0
      · obtain rfl : m = n + 1 := by omega
        by_cases h3 : lv = 3
        · subst h3; exact part_fac hf
        · exact part_line (by omega) (fun m hm => ih1 (lv + 1) (by omega) m hm)
    · intro m hm
      by_cases h0 : m ≤ n
      · exact ih2 m h0
      · obtain rfl : m = n + 1 := by omega
        exact hf
theorem asNumberNumber (v : Value) (w : World) : (Instr.typeAssert (.iface 152 v) 50 152 true).run Tryz.prog w = .ok (.tuple #[v, .bool true]) w := by kernel_rfl
theorem asNumberNegative (v : Value) (w : World) : (Instr.typeAssert (.iface 152 v) 50 154 true).run Tryz.prog w = .ok (.tuple #[.agg #[.nilIface], .bool false]) w := by kernel_rfl
theorem asNumberPair (v : Value) (w : World) : (Instr.typeAssert (.iface 152 v) 50 149 true).run Tryz.prog w = .ok (.tuple #[.agg #[.int .i64 0, .nilIface, .nilIface], .bool false]) w := by kernel_rfl
theorem asNumberGroup (v : Value) (w : World) : (Instr.typeAssert (.iface 152 v) 50 156 true).run Tryz.prog w = .ok (.tuple #[.agg #[.string ByteArray.empty, .slice none 0 0, .nilIface], .bool false]) w := by kernel_rfl
theorem asNumberWindow (v : Value) (w : World) : (Instr.typeAssert (.iface 152 v) 50 181 true).run Tryz.prog w = .ok (.tuple #[.agg #[.string ByteArray.empty, .string ByteArray.empty, .slice none 0 0, .int .i64 0], .bool false]) w := by kernel_rfl
theorem asNumberSelector (v : Value) (w : World) : (Instr.typeAssert (.iface 152 v) 50 179 true).run Tryz.prog w = .ok (.tuple #[.agg #[.string ByteArray.empty, .slice none 0 0], .bool false]) w := by kernel_rfl
theorem asNegativeNumber (v : Value) (w : World) : (Instr.typeAssert (.iface 154 v) 50 152 true).run Tryz.prog w = .ok (.tuple #[.agg #[.int .i64 0], .bool false]) w := by kernel_rfl
theorem asNegativeNegative (v : Value) (w : World) : (Instr.typeAssert (.iface 154 v) 50 154 true).run Tryz.prog w = .ok (.tuple #[v, .bool true]) w := by kernel_rfl
theorem asNegativePair (v : Value) (w : World) : (Instr.typeAssert (.iface 154 v) 50 149 true).run Tryz.prog w = .ok (.tuple #[.agg #[.int .i64 0, .nilIface, .nilIface], .bool false]) w := by kernel_rfl
theorem asNegativeGroup (v : Value) (w : World) : (Instr.typeAssert (.iface 154 v) 50 156 true).run Tryz.prog w = .ok (.tuple #[.agg #[.string ByteArray.empty, .slice none 0 0, .nilIface], .bool false]) w := by kernel_rfl
theorem asNegativeWindow (v : Value) (w : World) : (Instr.typeAssert (.iface 154 v) 50 181 true).run Tryz.prog w = .ok (.tuple #[.agg #[.string ByteArray.empty, .string ByteArray.empty, .slice none 0 0, .int .i64 0], .bool false]) w := by kernel_rfl
theorem asNegativeSelector (v : Value) (w : World) : (Instr.typeAssert (.iface 154 v) 50 179 true).run Tryz.prog w = .ok (.tuple #[.agg #[.string ByteArray.empty, .slice none 0 0], .bool false]) w := by kernel_rfl
theorem asPairNumber (v : Value) (w : World) : (Instr.typeAssert (.iface 149 v) 50 152 true).run Tryz.prog w = .ok (.tuple #[.agg #[.int .i64 0], .bool false]) w := by kernel_rfl
theorem asPairNegative (v : Value) (w : World) : (Instr.typeAssert (.iface 149 v) 50 154 true).run Tryz.prog w = .ok (.tuple #[.agg #[.nilIface], .bool false]) w := by kernel_rfl
theorem asPairPair (v : Value) (w : World) : (Instr.typeAssert (.iface 149 v) 50 149 true).run Tryz.prog w = .ok (.tuple #[v, .bool true]) w := by kernel_rfl
theorem asPairGroup (v : Value) (w : World) : (Instr.typeAssert (.iface 149 v) 50 156 true).run Tryz.prog w = .ok (.tuple #[.agg #[.string ByteArray.empty, .slice none 0 0, .nilIface], .bool false]) w := by kernel_rfl
theorem asPairWindow (v : Value) (w : World) : (Instr.typeAssert (.iface 149 v) 50 181 true).run Tryz.prog w = .ok (.tuple #[.agg #[.string ByteArray.empty, .string ByteArray.empty, .slice none 0 0, .int .i64 0], .bool false]) w := by kernel_rfl
theorem asPairSelector (v : Value) (w : World) : (Instr.typeAssert (.iface 149 v) 50 179 true).run Tryz.prog w = .ok (.tuple #[.agg #[.string ByteArray.empty, .slice none 0 0], .bool false]) w := by kernel_rfl
theorem asGroupNumber (v : Value) (w : World) : (Instr.typeAssert (.iface 156 v) 50 152 true).run Tryz.prog w = .ok (.tuple #[.agg #[.int .i64 0], .bool false]) w := by kernel_rfl
theorem asGroupNegative (v : Value) (w : World) : (Instr.typeAssert (.iface 156 v) 50 154 true).run Tryz.prog w = .ok (.tuple #[.agg #[.nilIface], .bool false]) w := by kernel_rfl
theorem asGroupPair (v : Value) (w : World) : (Instr.typeAssert (.iface 156 v) 50 149 true).run Tryz.prog w = .ok (.tuple #[.agg #[.int .i64 0, .nilIface, .nilIface], .bool false]) w := by kernel_rfl
theorem asGroupGroup (v : Value) (w : World) : (Instr.typeAssert (.iface 156 v) 50 156 true).run Tryz.prog w = .ok (.tuple #[v, .bool true]) w := by kernel_rfl
theorem asGroupWindow (v : Value) (w : World) : (Instr.typeAssert (.iface 156 v) 50 181 true).run Tryz.prog w = .ok (.tuple #[.agg #[.string ByteArray.empty, .string ByteArray.empty, .slice none 0 0, .int .i64 0], .bool false]) w := by kernel_rfl
theorem asGroupSelector (v : Value) (w : World) : (Instr.typeAssert (.iface 156 v) 50 179 true).run Tryz.prog w = .ok (.tuple #[.agg #[.string ByteArray.empty, .slice none 0 0], .bool false]) w := by kernel_rfl
theorem asWindowNumber (v : Value) (w : World) : (Instr.typeAssert (.iface 181 v) 50 152 true).run Tryz.prog w = .ok (.tuple #[.agg #[.int .i64 0], .bool false]) w := by kernel_rfl
theorem asWindowNegative (v : Value) (w : World) : (Instr.typeAssert (.iface 181 v) 50 154 true).run Tryz.prog w = .ok (.tuple #[.agg #[.nilIface], .bool false]) w := by kernel_rfl
theorem asWindowPair (v : Value) (w : World) : (Instr.typeAssert (.iface 181 v) 50 149 true).run Tryz.prog w = .ok (.tuple #[.agg #[.int .i64 0, .nilIface, .nilIface], .bool false]) w := by kernel_rfl
theorem asWindowGroup (v : Value) (w : World) : (Instr.typeAssert (.iface 181 v) 50 156 true).run Tryz.prog w = .ok (.tuple #[.agg #[.string ByteArray.empty, .slice none 0 0, .nilIface], .bool false]) w := by kernel_rfl
theorem asWindowWindow (v : Value) (w : World) : (Instr.typeAssert (.iface 181 v) 50 181 true).run Tryz.prog w = .ok (.tuple #[v, .bool true]) w := by kernel_rfl
theorem asWindowSelector (v : Value) (w : World) : (Instr.typeAssert (.iface 181 v) 50 179 true).run Tryz.prog w = .ok (.tuple #[.agg #[.string ByteArray.empty, .slice none 0 0], .bool false]) w := by kernel_rfl
theorem asSelectorNumber (v : Value) (w : World) : (Instr.typeAssert (.iface 179 v) 50 152 true).run Tryz.prog w = .ok (.tuple #[.agg #[.int .i64 0], .bool false]) w := by kernel_rfl
theorem asSelectorNegative (v : Value) (w : World) : (Instr.typeAssert (.iface 179 v) 50 154 true).run Tryz.prog w = .ok (.tuple #[.agg #[.nilIface], .bool false]) w := by kernel_rfl
theorem asSelectorPair (v : Value) (w : World) : (Instr.typeAssert (.iface 179 v) 50 149 true).run Tryz.prog w = .ok (.tuple #[.agg #[.int .i64 0, .nilIface, .nilIface], .bool false]) w := by kernel_rfl
theorem asSelectorGroup (v : Value) (w : World) : (Instr.typeAssert (.iface 179 v) 50 156 true).run Tryz.prog w = .ok (.tuple #[.agg #[.string ByteArray.empty, .slice none 0 0, .nilIface], .bool false]) w := by kernel_rfl
theorem asSelectorWindow (v : Value) (w : World) : (Instr.typeAssert (.iface 179 v) 50 181 true).run Tryz.prog w = .ok (.tuple #[.agg #[.string ByteArray.empty, .string ByteArray.empty, .slice none 0 0, .int .i64 0], .bool false]) w := by kernel_rfl
theorem asSelectorSelector (v : Value) (w : World) : (Instr.typeAssert (.iface 179 v) 50 179 true).run Tryz.prog w = .ok (.tuple #[v, .bool true]) w := by kernel_rfl
end Go.Proofs.YtpbemaaghbbocaaGreatDoor

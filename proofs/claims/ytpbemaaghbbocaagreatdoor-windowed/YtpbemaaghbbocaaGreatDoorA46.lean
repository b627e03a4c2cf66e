/- Parts. -/
import Derived.Test.YtpbemaaghbbocaaGreatDoorA43
import Derived.Test.YtpbemaaghbbocaaGreatDoorA45
import Derived.Test.YtpbemaaghbbocaaGreatDoorA34
import Derived.Lib.SmallJoins
import Derived.OpenShut
namespace Go.Proofs.YtpbemaaghbbocaaGreatDoor
open Go.RowKit LS
theorem print_of_read {q r : List UInt8} (h : readQ q = readQ r) : printQ q = printQ r := by unfold printQ; rw [h]
theorem eval_of_read {q r : List UInt8} (h : readQ q = readQ r) (s : List UInt8) (f l st : Int) : evalQ q s f l st = evalQ r s f l st := by unfold evalQ; rw [h]
theorem read_err {q : List UInt8} {x : Nat × Nat} (h : readQ q = .error x) (s : List UInt8) (f l st : Int) : printQ q = ([], x.1, x.2) ∧ evalQ q s f l st = ([], x.1, x.2) := by
  unfold printQ evalQ; rw [h]; exact ⟨rfl, rfl⟩
set_option maxRecDepth 100000 in
set_option maxHeartbeats 8000000 in
theorem again_true (q s : ByteArray) (f l st : Int) (A : Nat → Addr) (m : Int) (w : World) (hv : Vars w A m) (ht : PowTab w) (hB : 20 ≤ w.heap.size) (hq : q.size ≤ 9223372036854775807) (hs : s.size ≤ maxLen) :
    Calls Tryz.prog 4 #[.string q, .string s, .agg #[.int .i64 f, .int .i64 l, .int .i64 st]] w fun e w' => e = .returned (.bool true) ∧ Below w.heap.size w w' := by
  have HA : Hid (∀ W, Below w.heap.size w W → Calls Tryz.prog 8 #[] W _) := hid (fun W hb => awake_any A m W (hv.below hb) (ht.low hb hB) (Nat.le_trans hB hb.size))
  have HP : Hid (∀ (p : ByteArray) W, p.size ≤ 9223372036854775807 → Below w.heap.size w W → Calls Tryz.prog 9 #[.string p] W _) := hid (fun p W hp hb => gPrint_any p A m W (hv.below hb) (ht.low hb hB) (Nat.le_trans hB hb.size) hp)
  have HE : Hid (∀ (p : ByteArray) W, p.size ≤ 9223372036854775807 → Below w.heap.size w W → Calls Tryz.prog 10 #[.string p, .string s, .agg #[.int .i64 f, .int .i64 l, .int .i64 st]] W _) := hid (fun p W hp hb => gEval_any p s f l st A m W (hv.below hb) (ht.low hb hB) (Nat.le_trans hB hb.size) hp hs)
  have HQ0 := hid hq
  clear hv ht hB hs hq
  go_enter Tryz.func4, Tryz.ntmps4
  go_wp2_with fail
  refine calls_gen fun W hW => ?_
  have hbW : Below w.heap.size w W := by rw [hW]; exact (Below.refl _ _).alloc (Nat.le_refl _) _
  have HX : Hid (BAt W w.heap.size [.int .i64 f, .int .i64 l, .int .i64 st] 23) := hid (by rw [hW]; exact Go.Deep.blk_alloc_new _ _)
  refine (HA.out W hbW).mono ?_
  rintro e w1 ⟨rfl, hb1⟩
  have HB1 : Hid (Below w.heap.size w w1) := hid (hbW.trans (hb1.mono hbW.size))
  have HX1 := hid (HX.out.below hb1)
  clear hb1 hbW hW HA HX
  go_wp2_with fail
  refine (HP.out q w1 HQ0.out HB1.out).mono ?_
  rintro e w2 ⟨p, c, at_, rfl, HPQ, HPX, hb2⟩
  have HB2 : Hid (Below w.heap.size w w2) := hid (HB1.out.trans (hb2.mono HB1.out.size))
  have HX2 := hid (HX1.out.below hb2)
  clear hb2 HB1 HX1
  have x0 := HX2.out.cell 0
  have x1 := HX2.out.cell 1
  have x2 := HX2.out.cell 2
  simp only [List.getElem?_cons_zero, List.getElem?_cons_succ] at x0 x1 x2
  go_wp2_with fail
  clear x0 x1 x2
  refine (HE.out q w2 HQ0.out HB2.out).mono ?_
  rintro e w3 ⟨a, ef, eat, rfl, HEQ, hb3⟩
  have HB3 : Hid (Below w.heap.size w w3) := hid (HB2.out.trans (hb3.mono HB2.out.size))
  have HX3 := hid (HX2.out.below hb3)
  clear hb3 HB2 HX2
  cases hr : readQ (bl q) with
  | error x =>
    obtain ⟨k1, k2⟩ := read_err hr (bl s) f l st
    have k1' := HPQ.out.symm.trans k1
    have k2' := HEQ.out.symm.trans k2
    injection k1' with a1 a2
    injection a2 with a2 a3
    injection k2' with b1 b2
    injection b2 with b2 b3
    have hc : c ≠ 0 := by
      rcases HPX.out with ⟨t, ht⟩ | h
      · rw [hr] at ht; cases ht
      · exact h
    obtain rfl : p = ⟨#[]⟩ := bl_is a1
    obtain rfl : a = ⟨#[]⟩ := bl_is b1
    obtain rfl : ef = c := b2.trans a2.symm
    have hne : ((ef : Int) != 0) = true := by rw [bne_iff_ne]; omega
    clear HPQ HEQ HPX k1 k2 a1 a2 a3 b1 b2 b3 hr HX3 HP HE
    go_wp2
    go_ret
    exact ⟨by simp, HB3.out⟩
  | ok t =>
    have hp1 : printQ (bl q) = (printT t 1, 0, 0) := by unfold printQ; rw [hr]
    have k1' := HPQ.out.symm.trans hp1
    injection k1' with a1 a2
    injection a2 with a2 a3
    subst a2 a3
    have hwt := readQ_wf hr
    have hps : p.size ≤ 100000 := by
      rw [← bl_length, a1]
      exact Nat.le_trans (printT_len t 1 hwt.1) hwt.2.2
    have hrp := read_print hr
    rw [← a1] at hrp
    have HRP : Hid (readQ (bl p) = if 300 < (bl p).length then .error (1, 0) else readQ (bl q)) := hid (by rw [hrp, hr])
    have HPS := hid hps
    have HBP : Hid (printQ (bl q) = (bl p, 0, 0)) := hid (by rw [hp1, a1])
    clear hp1 a1 hwt hrp hr hps HPQ HPX
    go_wp2_with fail
    refine (HP.out p w3 (Nat.le_trans HPS.out (by decide)) HB3.out).mono ?_
    rintro e w4 ⟨q2, g, gat, rfl, HPQ, HPX, hb4⟩
    have HB4 : Hid (Below w.heap.size w w4) := hid (HB3.out.trans (hb4.mono HB3.out.size))
    have HX4 := hid (HX3.out.below hb4)
    clear hb4 HB3 HX3
    by_cases hlong : 300 < p.size
    · have hr1 : readQ (bl p) = .error (1, 0) := by rw [HRP.out, if_pos (by rw [bl_length]; exact hlong)]
      obtain ⟨k1, _⟩ := read_err hr1 [] 0 0 0
      have k1' := HPQ.out.symm.trans k1
      injection k1' with a1 a2
      injection a2 with a2 a3
      subst a2 a3
      have hlt : (300 : Int) < p.size := by omega
      clear HPQ HPX HRP k1 a1 hr1 HX4 HP HE HEQ
      go_wp2
      go_ret
      exact ⟨by simp, HB4.out⟩
    · have hr1 : readQ (bl p) = readQ (bl q) := by rw [HRP.out, if_neg (by rw [bl_length]; exact hlong)]
      have k1 := print_of_read hr1
      rw [HPQ.out, HBP.out] at k1
      injection k1 with a1 a2
      injection a2 with a2 a3
      subst a2 a3
      obtain rfl : q2 = p := bl_inj a1
      have HEE : Hid (∀ x, evalQ (bl q2) (bl s) f l st = x → evalQ (bl q) (bl s) f l st = x) := hid (fun x hx => by rw [← eval_of_read hr1]; exact hx)
      clear HPQ HPX HRP a1 hr1 HBP
      have x0 := HX4.out.cell 0
      have x1 := HX4.out.cell 1
      have x2 := HX4.out.cell 2
      simp only [List.getElem?_cons_zero, List.getElem?_cons_succ] at x0 x1 x2
      go_wp2_with fail
      clear x0 x1 x2
      refine (HE.out q2 w4 (Nat.le_trans HPS.out (by decide)) HB4.out).mono ?_
      rintro e w5 ⟨b, eh, eto, rfl, HEQ2, hb5⟩
      have HB5 : Hid (Below w.heap.size w w5) := hid (HB4.out.trans (hb5.mono HB4.out.size))
      have k2 := HEQ.out.symm.trans (HEE.out _ HEQ2.out)
      injection k2 with b1 b2
      injection b2 with b2 b3
      subst b2 b3
      obtain rfl : a = b := bl_inj b1
      clear HEQ HEQ2 HEE b1 hb5 HX4 HP HE
      go_wp2
      go_ret
      exact ⟨by simp, HB5.out⟩
end Go.Proofs.YtpbemaaghbbocaaGreatDoor
namespace Go.Proofs.YtpbemaaghbbocaaGreatDoor
open Go.ChangeShapes Go.WideShapes Go.ChangeAt Go.RowKit LS
theorem cellsSpan : Tryz.prog.cellsOf 23 = 3 := by kernel_rfl
section
open Go.Joins
variable {H : Type} {enc : TypeId × Value → H} {w : World} {base : Nat} {spare : Nat → Bool} {held : Bool}
set_option maxRecDepth 100000 in
theorem open_span {r : Reach} {b0 : Nat} {v : Value} {d : DataW H} {p : List MemPlace} (hv : Value.okWide Tryz.prog w r b0 23 v) (h : DataW.Trod enc Tryz.prog w base spare held 23 v d p) :
    ∃ f l s : Int, v = .agg #[.int .i64 f, .int .i64 l, .int .i64 s] ∧ d = .agg [.lit (.int .i64 f), .lit (.int .i64 l), .lit (.int .i64 s)] ∧ p = [] ∧ (Lit.int .i64 f).wf = true ∧ (Lit.int .i64 l).wf = true ∧ (Lit.int .i64 s).wf = true := by
  obtain ⟨c0, c1, c2, y0, y1, y2, m, rfl, rfl, rfl, hy0, hy1, hy2⟩ := open_agg3 Tryz.underlying23 (by kernel_rfl) cellsSpan hv h
  obtain ⟨a, e0, rfl, wa⟩ := DataW.trod_int Tryz.underlying3 hy0
  obtain ⟨b, e1, rfl, wb⟩ := DataW.trod_int Tryz.underlying3 hy1
  obtain ⟨c, e2, rfl, wc⟩ := DataW.trod_int Tryz.underlying3 hy2
  simp at e0 e1 e2
  subst e0 e1 e2
  exact ⟨a, b, c, rfl, rfl, rfl, wa, wb, wc⟩
set_option maxRecDepth 100000 in
theorem shut_span {f l s : Int} (wf : (Lit.int .i64 f).wf = true) (wl : (Lit.int .i64 l).wf = true) (ws : (Lit.int .i64 s).wf = true) :
    DataW.Trod enc Tryz.prog w base spare held 23 (.agg #[.int .i64 f, .int .i64 l, .int .i64 s]) (.agg [.lit (.int .i64 f), .lit (.int .i64 l), .lit (.int .i64 s)]) [] :=
  shut_agg3 (y0 := (.lit (.int .i64 f), [])) (y1 := (.lit (.int .i64 l), [])) (y2 := (.lit (.int .i64 s), [])) Tryz.underlying23 (by kernel_rfl) cellsSpan ⟨1, by simp [DataW.trod, Tryz.underlying3, wf]⟩ ⟨1, by simp [DataW.trod, Tryz.underlying3, wl]⟩ ⟨1, by simp [DataW.trod, Tryz.underlying3, ws]⟩
theorem trodAll_three {t0 t1 t2 : TypeId} {args : Array Value} {ds : List (DataW H)} {ps : List MemPlace} (h : DataW.TrodAll enc Tryz.prog w base spare held [t0, t1, t2] args.toList ds ps) :
    ∃ v0 v1 v2 d0 d1 d2 p0 p1 p2, args = #[v0, v1, v2] ∧ ds = [d0, d1, d2] ∧ ps = p0 ++ (p1 ++ (p2 ++ [])) ∧ DataW.Trod enc Tryz.prog w base spare held t0 v0 d0 p0 ∧ DataW.Trod enc Tryz.prog w base spare held t1 v1 d1 p1 ∧ DataW.Trod enc Tryz.prog w base spare held t2 v2 d2 p2 := by
  obtain ⟨v0, l0, d0, e0, p0, q0, ha, rfl, rfl, h0, h⟩ := trodAll_cons h
  obtain ⟨v1, l1, d1, e1, p1, q1, rfl, rfl, rfl, h1, h⟩ := trodAll_cons h
  obtain ⟨v2, l2, d2, e2, p2, q2, rfl, rfl, rfl, h2, h⟩ := trodAll_cons h
  obtain ⟨rfl, rfl, rfl⟩ := trodAll_nil h
  exact ⟨v0, v1, v2, d0, d1, d2, p0, p1, p2, by rw [← Array.toArray_toList (xs := args), ha], rfl, rfl, h0, h1, h2⟩
end
end Go.Proofs.YtpbemaaghbbocaaGreatDoor

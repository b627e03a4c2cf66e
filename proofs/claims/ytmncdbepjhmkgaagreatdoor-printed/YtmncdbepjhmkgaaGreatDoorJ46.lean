/- Parts of the proof, joined: ErrAs2, PlaceOf, PLaw -/
import Derived.Test.YtmncdbepjhmkgaaGreatDoorJ45
import Derived.Test.YtmncdbepjhmkgaaGreatDoorJ39
import Derived.Test.YtmncdbepjhmkgaaGreatDoorJ44
import Derived.Test.YtmncdbepjhmkgaaGreatDoorJ25
/- errors.As, walked: of a fault (it is found and handed over) and of a sentinel (it is none). -/
namespace Go.Proofs.YtmncdbepjhmkgaaGreatDoor
open Go.RowKit Go.Extern.Stop Go.Stop Go.Extern LS

set_option maxHeartbeats 4000000 in
theorem as_hit (e t : Addr) (old : Value) (w : World) (hg : w.cell? ⟨13, 0, none⟩ = some (.iface 145 (.agg #[.pointer (some ⟨18, 33, none⟩)]))) (ht0 : w.cell? t = some old) (hf0 : w.frozen? t = false) :
    Calls Tryz.prog 21 #[.iface 59 (.pointer (some e)), .iface 61 (.pointer (some t))] w fun ev w' => ev = .returned (.bool true) ∧ w' = ((((w.alloc (.cells #[.pointer (some t)] 61)).alloc (.cells #[.pointer (some ⟨18, 61, none⟩), .pointer (some ⟨w.heap.size, 0, none⟩), .int .u64 150] 116)).alloc (.cells #[.pointer (some ⟨18, 61, none⟩), .pointer (some ⟨w.heap.size, 0, none⟩), .int .u64 150] 116)).alloc (.cells #[.pointer (some e)] 59)).setCell t (.pointer (some e)) := by
  have h6 := x_valueOf
  have h7 := x_type
  have h8 := x_isNil
  have h27 := x_kind
  have h37 := x_elem
  have h38 := x_impl
  have h10 := x_typeOf
  have h35 := x_assign
  have h11 := x_elemV
  have h12 := x_set
  have tO := f_typeOf1
  have mA := m_assign
  have a25 := f_assign1
  have v25 := f_valueOf1
  have f6 := f_valueOf2
  have f7 := f_type2
  have mK := m_kind
  have mE := m_elem
  have mI := m_impl
  have k27 := f_kind2
  have k25 := f_kind1
  have e27 := f_elem2
  have i25 := f_impl1
  have n8 := f_isNil2 ⟨w.heap.size, 0, none⟩ t ((w.alloc (.cells #[.pointer (some t)] 61)).alloc (.cells #[.pointer (some ⟨18, 61, none⟩), .pointer (some ⟨w.heap.size, 0, none⟩), .int .u64 150] 116)) (by simp)
  have hlt : 13 < w.heap.size := World.block_lt_of_cell? _ _ hg
  have hg2 : ((w.alloc (.cells #[.pointer (some t)] 61)).alloc (.cells #[.pointer (some ⟨18, 61, none⟩), .pointer (some ⟨w.heap.size, 0, none⟩), .int .u64 150] 116)).cell? ⟨13, 0, none⟩ = some (.iface 145 (.agg #[.pointer (some ⟨18, 33, none⟩)])) := by
    rw [World.cell?_alloc_lt _ _ ⟨13, 0, none⟩ (by simp; omega), World.cell?_alloc_lt _ _ ⟨13, 0, none⟩ hlt]; exact hg
  have htl := World.block_lt_of_cell? _ _ ht0
  have el := f_elemV2 ⟨w.heap.size, 0, none⟩ t (((w.alloc (.cells #[.pointer (some t)] 61)).alloc (.cells #[.pointer (some ⟨18, 61, none⟩), .pointer (some ⟨w.heap.size, 0, none⟩), .int .u64 150] 116)).alloc (.cells #[.pointer (some ⟨18, 61, none⟩), .pointer (some ⟨w.heap.size, 0, none⟩), .int .u64 150] 116)) (by rw [World.cell?_alloc_lt _ _ ⟨w.heap.size, 0, none⟩ (by simp; omega)]; simp)
  have st := f_set1 t ⟨w.heap.size + 1 + 1 + 1, 0, none⟩ e old ((((w.alloc (.cells #[.pointer (some t)] 61)).alloc (.cells #[.pointer (some ⟨18, 61, none⟩), .pointer (some ⟨w.heap.size, 0, none⟩), .int .u64 150] 116)).alloc (.cells #[.pointer (some ⟨18, 61, none⟩), .pointer (some ⟨w.heap.size, 0, none⟩), .int .u64 150] 116)).alloc (.cells #[.pointer (some e)] 59))
    (by rw [World.cell?_alloc_at _ _ _ _ (by simp)]; rfl)
    (by rw [World.cell?_alloc_lt _ _ t (by simp; omega), World.cell?_alloc_lt _ _ t (by simp; omega), World.cell?_alloc_lt _ _ t (by simp; omega), World.cell?_alloc_lt _ _ t htl]; exact ht0)
    (by rw [World.frozen?_alloc_old _ _ t (by simp; omega), World.frozen?_alloc_old _ _ t (by simp; omega), World.frozen?_alloc_old _ _ t (by simp; omega), World.frozen?_alloc_old _ _ t (Nat.ne_of_lt htl)]; exact hf0)
  go_enter Tryz.func21, Tryz.ntmps21
  go_wp2
  refine wp_loop_rounds 1 ?_
  rw [rounds_succ]
  go_wp2
  go_ret
  exact ⟨rfl, rfl⟩

set_option maxHeartbeats 4000000 in
theorem as_miss (e t : Addr) (w : World) (hg : w.cell? ⟨13, 0, none⟩ = some (.iface 145 (.agg #[.pointer (some ⟨18, 33, none⟩)]))) :
    Calls Tryz.prog 21 #[.iface 198 (.pointer (some e)), .iface 61 (.pointer (some t))] w fun ev w' => ev = .returned (.bool false) ∧ Below w.heap.size w w' := by
  have h6 := x_valueOf
  have h7 := x_type
  have h8 := x_isNil
  have h27 := x_kind
  have h37 := x_elem
  have h38 := x_impl
  have h10 := x_typeOf
  have h35 := x_assign
  have tO := Tryz.isTypeOf
  have mA := m_assign
  have a25 := f_assignE
  have f6 := f_valueOf2
  have f7 := f_type2
  have mK := m_kind
  have mE := m_elem
  have mI := m_impl
  have k27 := f_kind2
  have k25 := f_kind1
  have e27 := f_elem2
  have i25 := f_impl1
  have nA := noAsE
  have uE := Tryz.noUnwrapE
  have vE := Tryz.noUnwrapsE
  have n8 := f_isNil2 ⟨w.heap.size, 0, none⟩ t ((w.alloc (.cells #[.pointer (some t)] 61)).alloc (.cells #[.pointer (some ⟨18, 61, none⟩), .pointer (some ⟨w.heap.size, 0, none⟩), .int .u64 150] 116)) (by simp)
  have hlt : 13 < w.heap.size := World.block_lt_of_cell? _ _ hg
  have hg2 : ((w.alloc (.cells #[.pointer (some t)] 61)).alloc (.cells #[.pointer (some ⟨18, 61, none⟩), .pointer (some ⟨w.heap.size, 0, none⟩), .int .u64 150] 116)).cell? ⟨13, 0, none⟩ = some (.iface 145 (.agg #[.pointer (some ⟨18, 33, none⟩)])) := by
    rw [World.cell?_alloc_lt _ _ ⟨13, 0, none⟩ (by simp; omega), World.cell?_alloc_lt _ _ ⟨13, 0, none⟩ hlt]; exact hg
  go_enter Tryz.func21, Tryz.ntmps21
  go_wp2
  refine wp_loop_rounds 1 ?_
  rw [rounds_succ]
  go_wp2
  go_ret
  exact ⟨rfl, (by repeat (first | exact Below.refl _ _ | assumption | refine Below.alloc ?_ (by first | omega | (simp; omega) | simp) _ | refine Below.setCell ?_ (by first | omega | (simp; omega) | simp) _ | refine below_drewN' ?_ _ | refine Below.drew ?_))⟩
end Go.Proofs.YtmncdbepjhmkgaaGreatDoor
/- The place that the program tells of an error. -/
namespace Go.Proofs.YtmncdbepjhmkgaaGreatDoor
open Go.RowKit LS

set_option maxHeartbeats 1000000 in
theorem place_nil (w : World) :
    Calls Tryz.prog 10 #[.nilIface] w fun e w' => e = .returned (.int .i64 0) ∧ Below w.heap.size w w' := by
  go_enter Tryz.func10, Tryz.ntmps10
  go_wp2_with fail
  refine (as_nil _ _).mono ?_
  rintro e w' ⟨rfl, rfl⟩
  go_wp2
  go_ret
  exact ⟨rfl, (by repeat (first | exact Below.refl _ _ | assumption | refine Below.alloc ?_ (by first | omega | (simp; omega) | simp) _ | refine Below.setCell ?_ (by first | omega | (simp; omega) | simp) _ | refine below_drewN' ?_ _ | refine Below.drew ?_))⟩

set_option maxHeartbeats 1000000 in
theorem place_bare (A : Nat → Addr) (m : Int) (a : Addr) (w : World) (hv : Vars w A m) :
    Calls Tryz.prog 10 #[.iface 198 (.pointer (some a))] w fun e w' => e = .returned (.int .i64 0) ∧ Below w.heap.size w w' := by
  have hB : Below w.heap.size w (w.alloc (.cells #[.pointer none] 59)) := (Below.refl _ _).alloc (Nat.le_refl _) _
  go_enter Tryz.func10, Tryz.ntmps10
  go_wp2_with fail
  refine (as_miss _ _ _ (hv.alloc _).handle).mono ?_
  rintro e w' ⟨rfl, hb⟩
  have hb' : Below w.heap.size w w' := hB.trans (hb.mono (by simp))
  clear hb hB
  go_wp2
  go_ret
  exact ⟨rfl, hb'⟩

set_option maxHeartbeats 1000000 in
theorem place_fault (A : Nat → Addr) (m : Int) (fa : Nat) (i : Int) (w : World) (hv : Vars w A m) (hp : w.cell? ⟨fa, 1, none⟩ = some (.int .i64 i)) :
    Calls Tryz.prog 10 #[.iface 59 (.pointer (some ⟨fa, 0, none⟩))] w fun e w' => e = .returned (.int .i64 i) ∧ Below w.heap.size w w' := by
  have hfl : fa < w.heap.size := World.block_lt_of_cell? _ _ hp
  go_enter Tryz.func10, Tryz.ntmps10
  go_wp2_with fail
  refine (as_hit _ _ (.pointer none) _ (hv.alloc _).handle (by simp) (by simp)).mono ?_
  rintro e w' ⟨rfl, hw⟩
  have hb' : Below w.heap.size w w' := by rw [hw]; exact (by repeat (first | exact Below.refl _ _ | assumption | refine Below.alloc ?_ (by first | omega | (simp; omega) | simp) _ | refine Below.setCell ?_ (by first | omega | (simp; omega) | simp) _ | refine below_drewN' ?_ _ | refine Below.drew ?_))
  have c1 : w'.cell? ⟨w.heap.size, 0, none⟩ = some (.pointer (some ⟨fa, 0, none⟩)) := by
    rw [hw]
    refine World.cell?_setCell_same _ _ _ (u := .pointer none) ?_
    refine (Below.cell (B := w.heap.size + 1) (w := w.alloc (.cells #[.pointer none] 59)) ?_ (Nat.lt_succ_self _)).trans (by simp)
    exact (by repeat (first | exact Below.refl _ _ | assumption | refine Below.alloc ?_ (by first | omega | (simp; omega) | simp) _ | refine Below.setCell ?_ (by first | omega | (simp; omega) | simp) _ | refine below_drewN' ?_ _ | refine Below.drew ?_))
  have c2 : w'.cell? ⟨fa, 1, none⟩ = some (.int .i64 i) := (hb'.cell (p := ⟨fa, 1, none⟩) hfl).trans hp
  clear hw
  go_wp2
  go_ret
  exact ⟨rfl, hb'⟩
end Go.Proofs.YtmncdbepjhmkgaaGreatDoor
/- Printed's law: whatever the two texts are, Print is as the document says, each time that it is asked. -/
namespace Go.Proofs.YtmncdbepjhmkgaaGreatDoor
open Go.RowKit LS

theorem readQ_wf {l : List UInt8} {t : Tr} (h : readQ l = .ok t) : wfT t ∧ isNil t = false ∧ wT t ≤ 100000 := by
  unfold readQ at h
  by_cases hl : 300 < l.length
  · rw [if_pos hl] at h; cases h
  · rw [if_neg hl] at h
    have h1 := lexAll_len l (l.length + 1) 0 (Nat.zero_le _)
    have h2 := lexAll_tw l (by omega) (l.length + 1) 0
    cases hp : parse (10 * (lexAll l (l.length + 1) 0).length + 5) false 0 .nil (lexAll l (l.length + 1) 0) 0 with
    | error e => rw [hp] at h; cases h
    | ok z =>
      obtain ⟨t', r⟩ := z
      rw [hp] at h
      have hw := parse_wf _ _ _ _ _ _ _ (fun e => by cases e) hp
      simp only at h
      by_cases h0 : (hd r).kind = 0
      · rw [if_pos h0] at h
        by_cases hk : kindT t' = 0
        · rw [if_pos hk] at h; cases h
        · rw [if_neg hk] at h
          injection h with h
          subst h
          refine ⟨hw.1, hw.2.1, ?_⟩
          have h3 := hw.2.2
          rw [if_neg (by decide)] at h3
          simp only at h3
          omega
      · rw [if_neg h0] at h; cases h
theorem Vars.sents {w : World} {A : Nat → Addr} {m : Int} (h : Vars w A m) : Sents w (A 0) (A 1) (A 2) (A 3) :=
  ⟨h.sent _ (by decide), h.sent _ (by decide), h.sent _ (by decide), h.sent _ (by decide)⟩
theorem ErrAt.cells {w : World} {v : Value} {p : Int} {a : Addr} (h : ErrAt w v p a) : ∃ fa : Nat, v = .iface 59 (.pointer (some ⟨fa, 0, none⟩)) ∧ w.cell? ⟨fa, 1, none⟩ = some (.int .i64 p) ∧ w.cell? ⟨fa, 2, none⟩ = some (.iface 198 (.pointer (some a))) := by
  obtain ⟨fa, h1, h2⟩ := h
  exact ⟨fa, h1, by simp [World.cell?, h2], by simp [World.cell?, h2]⟩
set_option maxRecDepth 100000 in
set_option maxHeartbeats 4000000 in
theorem gPrint_any (s : ByteArray) (A : Nat → Addr) (m : Int) (w : World) (hv : Vars w A m) (ht : PowTab w) (hB : 18 ≤ w.heap.size) (hlim : s.size ≤ 9223372036854775807) :
    Calls Tryz.prog 5 #[.string s] w fun e w' => ∃ (r : ByteArray) (c p : Nat), e = .returned (.tuple #[.string r, .int .i64 c, .int .i64 p]) ∧ Hid (printQ (bl s) = (bl r, c, p)) ∧ Below w.heap.size w w' := by
  have HR : Hid (Calls Tryz.prog 8 #[.string s] w _) := sRead_any s w hlim hv.sents
  have HV : Hid (Vars w A m) := hv
  have HT : Hid (PowTab w) := ht
  have HBn : Hid (18 ≤ w.heap.size) := hB
  clear hv ht hB
  go_enter Tryz.func5, Tryz.ntmps5
  go_wp2_with fail
  refine HR.out.mono ?_
  rintro e w1 ⟨pv, v, rfl, hres, hb1⟩
  have HB1 : Hid (Below w.heap.size w w1) := hb1
  have HV1 : Hid (Vars w1 A m) := HV.out.below hb1
  have HT1 : Hid (PowTab w1) := HT.out.low hb1 HBn.out
  have HB1n : Hid (18 ≤ w1.heap.size) := Nat.le_trans HBn.out hb1.size
  clear hb1 HR
  cases hq : readQ (bl s) with
  | ok t =>
    rw [hq] at hres
    obtain ⟨rfl, hpv⟩ := hres.out
    obtain ⟨hwf, hnil, hwt⟩ := readQ_wf hq
    have HQ : Hid (printQ (bl s) = (printT t 1, 0, 0)) := hid (by unfold printQ; rw [hq])
    have HC : Hid (Calls Tryz.prog 11 #[pv] w1 _) := sPrint_any hwf hwt w1 pv hpv HT1.out HB1n.out
    obtain ⟨ty, u, hsh⟩ := PartV.shape hpv
    subst hsh
    clear hres hq hpv hwf hnil hwt
    go_wp2_with fail
    refine HC.out.mono ?_
    rintro e w2 ⟨r, rfl, hr, hb2⟩
    have HB2 : Hid (Below w.heap.size w w2) := HB1.out.trans (hb2.mono HB1.out.size)
    clear hb2 HC
    go_wp2
    go_ret3
    exact ⟨r, 0, 0, rfl, hid (by rw [HQ.out, hr.out]), HB2.out⟩
  | error x =>
    rw [hq] at hres
    have HQ : Hid (printQ (bl s) = ([], x.1, x.2)) := hid (by unfold printQ; rw [hq])
    clear hq
    rcases hres.out with ⟨rfl, rfl⟩ | ⟨rfl, rfl⟩ | ⟨hx, he⟩ | ⟨hx, he⟩
    · clear hres
      go_wp2_with fail
      refine (number_long A m _ HV1.out).mono ?_
      rintro e wq ⟨rfl, rfl⟩
      go_wp2_with fail
      refine (place_bare A m _ _ HV1.out).mono ?_
      rintro e w2 ⟨rfl, hb2⟩
      have HB2 : Hid (Below w.heap.size w w2) := HB1.out.trans (hb2.mono HB1.out.size)
      clear hb2
      go_wp2
      go_ret3
      exact ⟨⟨#[]⟩, 1, 0, rfl, HQ, HB2.out⟩
    · clear hres
      go_wp2_with fail
      refine (number_type A m _ HV1.out).mono ?_
      rintro e wq ⟨rfl, rfl⟩
      go_wp2_with fail
      refine (place_bare A m _ _ HV1.out).mono ?_
      rintro e w2 ⟨rfl, hb2⟩
      have HB2 : Hid (Below w.heap.size w w2) := HB1.out.trans (hb2.mono HB1.out.size)
      clear hb2
      go_wp2
      go_ret3
      exact ⟨⟨#[]⟩, 4, 0, rfl, HQ, HB2.out⟩
    · obtain ⟨x1, x2⟩ := x
      simp only at hx he
      subst hx
      obtain ⟨fa, rfl, hc1, hc2⟩ := he.cells
      clear hres he
      have HC1 : Hid (w1.cell? ⟨fa, 1, none⟩ = some (.int .i64 x2)) := hc1
      have HC2 := hid hc2
      clear hc1 hc2
      go_wp2_with fail
      refine (number_syntax A m _ HV1.out fa HC2.out).mono ?_
      rintro e wq ⟨rfl, rfl⟩
      go_wp2_with fail
      refine (place_fault A m fa x2 _ HV1.out HC1.out).mono ?_
      rintro e w2 ⟨rfl, hb2⟩
      have HB2 : Hid (Below w.heap.size w w2) := HB1.out.trans (hb2.mono HB1.out.size)
      clear hb2
      go_wp2
      go_ret3
      exact ⟨⟨#[]⟩, 2, x2, rfl, HQ, HB2.out⟩
    · obtain ⟨x1, x2⟩ := x
      simp only at hx he
      subst hx
      obtain ⟨fa, rfl, hc1, hc2⟩ := he.cells
      clear hres he
      have HC1 : Hid (w1.cell? ⟨fa, 1, none⟩ = some (.int .i64 x2)) := hc1
      have HC2 := hid hc2
      clear hc1 hc2
      go_wp2_with fail
      refine (number_deep A m _ HV1.out fa HC2.out).mono ?_
      rintro e wq ⟨rfl, rfl⟩
      go_wp2_with fail
      refine (place_fault A m fa x2 _ HV1.out HC1.out).mono ?_
      rintro e w2 ⟨rfl, hb2⟩
      have HB2 : Hid (Below w.heap.size w w2) := HB1.out.trans (hb2.mono HB1.out.size)
      clear hb2
      go_wp2
      go_ret3
      exact ⟨⟨#[]⟩, 3, x2, rfl, HQ, HB2.out⟩
theorem pnum_any (v : Int) (w : World) : Calls Tryz.prog 7 #[.int .i64 v] w fun e w' => e = .returned (.int .i64 v) ∧ w' = w := by
  go_enter Tryz.func7, Tryz.ntmps7
  go_wp2
  go_ret
  exact ⟨rfl, rfl⟩
set_option maxHeartbeats 1000000 in
theorem prints_true (s : ByteArray) (A : Nat → Addr) (m : Int) (w : World) (hv : Vars w A m) (ht : PowTab w) (hB : 18 ≤ w.heap.size) (hlim : s.size ≤ 9223372036854775807) :
    Calls Tryz.prog 4 #[.string s] w fun e w' => e = .returned (.bool true) ∧ Below w.heap.size w w' := by
  have HC : Hid (Calls Tryz.prog 5 #[.string s] w _) := gPrint_any s A m w hv ht hB hlim
  clear hv ht hB
  go_enter Tryz.func4, Tryz.ntmps4
  go_wp2_with fail
  refine HC.out.mono ?_
  rintro e w1 ⟨r, c, p, rfl, hq, hb1⟩
  have HB1 : Hid (Below w.heap.size w w1) := hb1
  clear hb1 HC
  go_wp2_with fail
  refine (qPrint_any s _ hlim).mono ?_
  rintro e w2 ⟨r2, c2, p2, rfl, hq2, hb2⟩
  have HB2 : Hid (Below w.heap.size w w2) := HB1.out.trans (hb2.mono HB1.out.size)
  have he := hq.out.symm.trans hq2.out
  injection he with h1 h2
  injection h2 with h2 h3
  obtain rfl : r = r2 := bl_inj h1
  subst h2 h3
  clear hq hq2 hb2 h1
  go_wp2_with (go_at_call 7; refine (pnum_any _ _).mono ?_; rintro e w' ⟨rfl, rfl⟩)
  go_ret
  exact ⟨by simp, HB2.out⟩
set_option maxHeartbeats 1000000 in
theorem printed_true (s t : ByteArray) (A : Nat → Addr) (m : Int) (w : World) (hv : Vars w A m) (htb : PowTab w) (hB : 18 ≤ w.heap.size) (hs : s.size ≤ 9223372036854775807) (ht : t.size ≤ 9223372036854775807) :
    Calls Tryz.prog 3 #[.string s, .string t] w fun e w' => e = .returned (.bool true) ∧ Below w.heap.size w w' := by
  have HS : Hid (∀ (q : ByteArray) (w' : World), Below w.heap.size w w' → q.size ≤ 9223372036854775807 → Calls Tryz.prog 4 #[.string q] w' fun e w'' => e = .returned (.bool true) ∧ Below w.heap.size w w'') := hid (fun q w' hb hq => (prints_true q A m w' (hv.below hb) (htb.low hb hB) (Nat.le_trans hB hb.size) hq).mono (fun e w'' ⟨h1, h2⟩ => ⟨h1, hb.trans (h2.mono hb.size)⟩))
  clear hv htb hB
  go_enter Tryz.func3, Tryz.ntmps3
  go_wp2_with fail
  refine (HS.out s w (Below.refl _ _) hs).mono ?_
  rintro e w1 ⟨rfl, HB1⟩
  go_wp2_with fail
  refine (HS.out t w1 HB1 ht).mono ?_
  rintro e w2 ⟨rfl, HB2⟩
  go_wp2_with fail
  refine (HS.out s w2 HB2 hs).mono ?_
  rintro e w3 ⟨rfl, HB3⟩
  go_wp2_with fail
  refine (HS.out _ w3 HB3 (by decide)).mono ?_
  rintro e w4 ⟨rfl, HB4⟩
  go_wp2
  go_ret
  exact ⟨rfl, HB4⟩
end Go.Proofs.YtmncdbepjhmkgaaGreatDoor

/- Parts. -/
import Derived.Test.YtpbemaaghbbocaaGreatDoorA30
import Derived.Test.YtpbemaaghbbocaaGreatDoorA13
namespace Go.Proofs.YtpbemaaghbbocaaGreatDoor
open Go.RowKit LS
structure MOk (x mb gb : Nat) (sv : Value) (ss : List Srs) (tm : Int) (w : World) : Prop where
  m : BAt w mb [sv, .int .i64 tm, .pointer (some ⟨gb, 0, none⟩)] 188
  g : BAt w gb [.map (some x)] 250
  map : MapX w x
  sto : StoP w sv ss
theorem MOk.belX {x mb gb : Nat} {sv : Value} {ss : List Srs} {tm : Int} {w w' : World} (h : MOk x mb gb sv ss tm w) (hb : BelX x w.heap.size w w') (hm : MapX w' x) : MOk x mb gb sv ss tm w' := by
  have hk := KeepsC.belX hb h.map
  exact ⟨hk _ _ _ _ h.m, hk _ _ _ _ h.g, hm, h.sto.keepsC hk⟩
theorem MOk.below {x mb gb : Nat} {sv : Value} {ss : List Srs} {tm : Int} {w w' : World} (h : MOk x mb gb sv ss tm w) (hb : Below w.heap.size w w') : MOk x mb gb sv ss tm w' := by
  refine h.belX (BelX.of hb) ?_
  obtain ⟨es, cl, hx⟩ := h.map
  exact ⟨es, cl, (hb.block x (Array.getElem?_eq_some_iff.1 hx).1).trans hx⟩
theorem PartV.keepsC {w w' : World} {t : Tr} {v : Value} (h : PartV w t v) (hk : KeepsC w w') : PartV w' t v := PartV.mono (fun _ _ h => h.keepsC hk) (fun _ _ h => h.keepsC hk) t v h
def SayP (x mb gb : Nat) (sv : Value) (ss : List Srs) (tm : Int) (t : Tr) (w : World) (e : Ending) (w' : World) : Prop := ∃ v, e = .returned v ∧ Hid (ValP w' v (sayT (ss.map Srs.ser) tm t)) ∧ Hid (MOk x mb gb sv ss tm w') ∧ Hid (BelX x w.heap.size w w')
def SayCG (x mb gb : Nat) (sv : Value) (ss : List Srs) (tm : Int) (t : Tr) : Prop := ∀ (pv : Value) (w : World), MOk x mb gb sv ss tm w → PartV w t pv → Calls Tryz.prog 87 #[.pointer (some ⟨mb, 0, none⟩), pv] w (SayP x mb gb sv ss tm t w)
variable {x mb gb : Nat} {sv : Value} {ss : List Srs} {tm : Int}
set_option maxHeartbeats 2000000 in
theorem says_num (nd : Nd) (l r : Tr) (a b : Nat) (hk : nd.kind = 0) (hn : vOk nd.n) : SayCG x mb gb sv ss tm (.node a b nd l r) := by
  intro pv w hM hP
  have hpv : pv = .iface 152 (.agg #[.int .i64 nd.n]) := by
    rcases hP with ⟨_, h⟩ | ⟨h, _⟩ | ⟨h, _⟩ | ⟨h, _⟩ | ⟨h, _⟩ | ⟨h, _⟩
    · exact h
    all_goals omega
  subst hpv
  have HS : Hid (sayT (ss.map Srs.ser) tm (.node a b nd l r) = .sc nd.n) := hid (by unfold sayT; rw [if_pos hk])
  have HM : Hid (MOk x mb gb sv ss tm w) := hM
  have HN : Hid (vOk nd.n) := hn
  clear hP hM hn
  have h1 := asNumberNumber (.agg #[.int .i64 nd.n])
  go_enter Tryz.func87, Tryz.ntmps87
  go_wp2
  go_ret
  have hb : ∀ o, Below w.heap.size w (w.alloc o) := fun o => (Below.refl _ _).alloc (Nat.le_refl _) _
  exact ⟨_, rfl, hid (by rw [HS.out]; exact ⟨rfl, HN.out⟩), hid (HM.out.below (hb _)), hid (BelX.of (hb _))⟩
set_option maxHeartbeats 4000000 in
theorem says_neg (nd : Nd) (l r : Tr) (a b : Nat) (hk : nd.kind = 3) (ihl : SayCG x mb gb sv ss tm l) : SayCG x mb gb sv ss tm (.node a b nd l r) := by
  intro pv w hM hP
  obtain ⟨y, hpv, hy⟩ : ∃ y, pv = .iface 154 (.agg #[y]) ∧ PartV w l y := by
    rcases hP with ⟨h, _⟩ | ⟨h, _⟩ | ⟨h, _⟩ | ⟨_, y, h1, h2⟩ | ⟨h, _⟩ | ⟨h, _⟩
    · omega
    · omega
    · omega
    · exact ⟨y, h1, h2⟩
    · omega
    · omega
  subst hpv
  obtain ⟨ty, uv, rfl⟩ := hy.shape
  have HS : Hid (sayT (ss.map Srs.ser) tm (.node a b nd l r) = negV (sayT (ss.map Srs.ser) tm l)) := hid (by rw [sayT, if_neg (by omega), if_neg (by omega), if_neg (by omega), if_pos hk])
  have HM : Hid (MOk x mb gb sv ss tm w) := hM
  have HY : Hid (PartV w l (.iface ty uv)) := hy
  have HI : Hid (SayCG x mb gb sv ss tm l) := ihl
  clear hP hM hy ihl
  have h1 := asNegativeNumber (.agg #[.iface ty uv])
  have h2 := asNegativeNegative (.agg #[.iface ty uv])
  go_enter Tryz.func87, Tryz.ntmps87
  go_wp2_with fail
  refine calls_gen fun W hW => ?_
  have hbW : Below w.heap.size w W := by rw [hW]; exact (Below.refl _ _).alloc (Nat.le_refl _) _
  clear hW
  refine (HI.out _ W (HM.out.below hbW) (HY.out.below hbW)).mono ?_
  rintro e w5 ⟨v5, rfl, HV5, HM5, HB5⟩
  have HBw : Hid (BelX x w.heap.size w w5) := hid ((BelX.of hbW).trans (HB5.out.mono hbW.size))
  clear hbW HB5
  go_wp2_with fail
  refine (pneg_any v5 _ w5 HV5.out).mono ?_
  rintro e w6 ⟨v6, rfl, HV6, hb6⟩
  have HM6 := hid (HM5.out.below hb6)
  have HB6 : Hid (BelX x w.heap.size w w6) := hid (HBw.out.trans ((BelX.of hb6).mono HBw.out.size))
  clear hb6
  go_wp2
  go_ret
  exact ⟨_, rfl, hid (by rw [HS.out]; exact HV6.out), HM6, HB6⟩
def VecP (x mb gb : Nat) (sv : Value) (ss : List Srs) (tm : Int) (t : Tr) (w : World) (e : Ending) (w' : World) : Prop := ∃ s l is, e = .returned s ∧ Hid (VecV w' s l is ∧ sayT (ss.map Srs.ser) tm t = .vec l) ∧ Hid (MOk x mb gb sv ss tm w') ∧ Hid (BelX x w.heap.size w w')
set_option maxHeartbeats 4000000 in
theorem vector_any (t : Tr) (hv : isVec (sayT (ss.map Srs.ser) tm t) = true) (ih : SayCG x mb gb sv ss tm t) (ty : TypeId) (uv : Value) (w : World) (hM : MOk x mb gb sv ss tm w) (hP : PartV w t (.iface ty uv)) : Calls Tryz.prog 132 #[.pointer (some ⟨mb, 0, none⟩), .iface ty uv] w (VecP x mb gb sv ss tm t w) := by
  have HC := hid (ih _ w hM hP)
  obtain ⟨l, hl⟩ : ∃ l, sayT (ss.map Srs.ser) tm t = .vec l := by
    cases h : sayT (ss.map Srs.ser) tm t with
    | sc n => rw [h] at hv; cases hv
    | vec l => exact ⟨l, rfl⟩
  have HL : Hid (sayT (ss.map Srs.ser) tm t = .vec l) := hl
  clear hM hP hv hl ih
  go_enter Tryz.func132, Tryz.ntmps132
  go_wp2_with fail
  refine HC.out.mono ?_
  rintro e w5 ⟨v5, rfl, HV5, HM5, HB5⟩
  have hv5 := HV5.out
  rw [HL.out] at hv5
  obtain ⟨s, is, rfl, hvv⟩ := hv5
  have HVV : Hid (VecV w5 s l is) := hvv
  obtain ⟨sa, scp, rfl⟩ := own_shape hvv.row
  clear hvv HV5
  have h1 := asVV (.slice sa is.length scp)
  go_wp2
  go_ret
  exact ⟨_, l, is, rfl, hid ⟨HVV.out, HL.out⟩, HM5, HB5⟩
def EitP (x mb gb : Nat) (sv : Value) (ss : List Srs) (tm : Int) (t u : Tr) (w : World) (e : Ending) (w' : World) : Prop := ∃ s l is, e = .returned s ∧ Hid (VecV w' s l is ∧ (if (elems (sayT (ss.map Srs.ser) tm t)).isEmpty then sayT (ss.map Srs.ser) tm u else sayT (ss.map Srs.ser) tm t) = .vec l) ∧ Hid (MOk x mb gb sv ss tm w') ∧ Hid (BelX x w.heap.size w w')
set_option maxHeartbeats 4000000 in
theorem either_any (t u : Tr) (ht : isVec (sayT (ss.map Srs.ser) tm t) = true) (hu : isVec (sayT (ss.map Srs.ser) tm u) = true) (iht : SayCG x mb gb sv ss tm t) (ihu : SayCG x mb gb sv ss tm u) (ty uy : TypeId) (tv uv : Value) (w : World) (hM : MOk x mb gb sv ss tm w) (hPt : PartV w t (.iface ty tv)) (hPu : PartV w u (.iface uy uv)) :
    Calls Tryz.prog 126 #[.pointer (some ⟨mb, 0, none⟩), .iface ty tv, .iface uy uv] w (EitP x mb gb sv ss tm t u w) := by
  have HC := hid (vector_any t ht iht ty tv w hM hPt)
  have HU : Hid (∀ W, MOk x mb gb sv ss tm W → PartV W u (.iface uy uv) → Calls Tryz.prog 132 #[.pointer (some ⟨mb, 0, none⟩), .iface uy uv] W (VecP x mb gb sv ss tm u W)) := hid (fun W h1 h2 => vector_any u hu ihu uy uv W h1 h2)
  have HPU : Hid (PartV w u (.iface uy uv)) := hPu
  have HMX : Hid (MapX w x) := hid hM.map
  clear hM hPt hPu ht hu iht ihu
  go_enter Tryz.func126, Tryz.ntmps126
  go_wp2_with fail
  refine HC.out.mono ?_
  rintro e w5 ⟨s, l, is, rfl, HV5, HM5, HB5⟩
  obtain ⟨sa, scp, rfl⟩ := own_shape HV5.out.1.row
  have hll : is.length = l.length := HV5.out.1.len'.symm
  have hlen := HV5.out.1.len
  by_cases h0 : is.length = 0
  · have HE : Hid ((elems (sayT (ss.map Srs.ser) tm t)).isEmpty = true) := hid (by rw [HV5.out.2]; show l.isEmpty = true; rw [List.isEmpty_iff]; exact List.eq_nil_of_length_eq_zero (by omega))
    rw [h0]
    have hk := KeepsC.belX HB5.out HMX.out
    have HP5 : Hid (PartV w5 u (.iface uy uv)) := hid (HPU.out.keepsC hk)
    clear hk hll hlen h0
    go_wp2_with fail
    refine (HU.out w5 HM5.out HP5.out).mono ?_
    rintro e w6 ⟨s6, l6, is6, rfl, HV6, HM6, HB6⟩
    have HBw : Hid (BelX x w.heap.size w w6) := hid (HB5.out.trans (HB6.out.mono HB5.out.size))
    go_wp2
    go_ret
    exact ⟨_, l6, is6, rfl, hid ⟨HV6.out.1, by rw [if_pos HE.out]; exact HV6.out.2⟩, HM6, HBw⟩
  · have HE : Hid (¬ (elems (sayT (ss.map Srs.ser) tm t)).isEmpty = true) := hid (by rw [HV5.out.2]; show ¬ l.isEmpty = true; rw [List.isEmpty_iff]; intro e; subst e; exact h0 hll)
    have hpos : (0 : Int) < (is.length : Int) := by omega
    clear hll
    go_wp2
    go_ret
    exact ⟨_, l, is, rfl, hid ⟨HV5.out.1, by rw [if_neg HE.out]; exact HV5.out.2⟩, HM5, HB5⟩
end Go.Proofs.YtpbemaaghbbocaaGreatDoor
namespace Go.Proofs.YtpbemaaghbbocaaGreatDoor
open Go.RowKit LS
variable {x mb gb : Nat} {sv : Value} {ss : List Srs} {tm : Int}
set_option maxRecDepth 100000 in
set_option maxHeartbeats 8000000 in
theorem says_sel (nd : Nd) (l r : Tr) (a b : Nat) (hk : nd.kind = 1) (hds : Dst (ss.map Srs.ser)) (ht0 : -1000000 ≤ tm) (ht1 : tm ≤ 1000000) : SayCG x mb gb sv ss tm (.node a b nd l r) := by
  intro pv w hM hP
  obtain ⟨nm, la, ln, lc, hpv, hnm, hcv⟩ : ∃ (nm : ByteArray) (la : Option Addr) (ln lc : Nat), pv = .iface 179 (.agg #[.string nm, .slice la ln lc]) ∧ bl nm = nd.name ∧ CondsV w (.slice la ln lc) nd.conds := by
    rcases hP with ⟨h, _⟩ | ⟨_, h⟩ | ⟨h, _⟩ | ⟨h, _⟩ | ⟨h, _⟩ | ⟨h, _⟩
    · omega
    · exact h
    all_goals omega
  subst hpv
  obtain ⟨sa, scp, rfl⟩ := own_shape hM.sto.row
  have HS : Hid (sayT (ss.map Srs.ser) tm (.node a b nd l r) = .vec (windowedV (ss.map Srs.ser) nd none 10 tm)) := hid (by rw [sayT, if_neg (by omega), if_pos hk])
  have HM : Hid (MOk x mb gb (.slice sa ss.length scp) ss tm w) := hM
  have HPK : Hid (∀ W, Below w.heap.size w W → Calls Tryz.prog 135 #[.slice sa ss.length scp, .agg #[.string nm, .slice la ln lc], .int .i64 tm] W _) := hid (fun W hW => ppick_any _ ss nm la ln lc nd tm W (hM.below hW).sto hds hnm (hcv.below hW) ht0 ht1)
  clear hP hM hnm hcv hds
  have h1 := asSelectorNumber (.agg #[.string nm, .slice la ln lc])
  have h2 := asSelectorNegative (.agg #[.string nm, .slice la ln lc])
  have h3 := asSelectorPair (.agg #[.string nm, .slice la ln lc])
  have h4 := asSelectorGroup (.agg #[.string nm, .slice la ln lc])
  have h5 := asSelectorWindow (.agg #[.string nm, .slice la ln lc])
  have h6 := asSelectorSelector (.agg #[.string nm, .slice la ln lc])
  go_enter Tryz.func87, Tryz.ntmps87
  go_upto_region 22 with fail
  refine wp_gen fun W hW => ?_
  have hbW : Below w.heap.size w W := by rw [hW]; exact (Below.refl _ _).alloc (Nat.le_refl _) _
  have HX : Hid (BAt W w.heap.size [.string nm, .slice la ln lc] 179) := hid (by rw [hW]; exact Go.Deep.blk_alloc_new _ _)
  have HMW := hid (HM.out.below hbW)
  have HBW : Hid (Below w.heap.size w W) := hid hbW
  clear hW hbW h1 h2 h3 h4 h5 h6
  have x0 := HX.out.cell 0
  have x1 := HX.out.cell 1
  have m0 := HMW.out.m.cell 0
  have m1 := HMW.out.m.cell 1
  simp only [List.getElem?_cons_zero, List.getElem?_cons_succ] at x0 x1 m0 m1
  go_region_held3 (fun w' => w'.cell? ⟨w.heap.size, 0, none⟩ = some (.string nm) ∧ w'.cell? ⟨w.heap.size, 1, none⟩ = some (.slice la ln lc) ∧ w'.cell? ⟨mb, 0, none⟩ = some (.slice sa ss.length scp) ∧ w'.cell? ⟨mb, 1, none⟩ = some (.int .i64 tm)) (first | exact ⟨x0, x1, m0, m1⟩ | exact HS5.out | go_keep) (first
    | (go_at_call 135
       refine (HPK.out _ (by exact ⟨HBW.out.os, HBW.out.tape, HBW.out.output, HBW.out.size, HBW.out.block⟩)).mono ?_
       rintro e w5 ⟨v5, is5, rfl, HV5, hb5⟩
       have HB5 : Hid (Below W.heap.size W w5) := hid ⟨hb5.os, hb5.tape, hb5.output, hb5.size, hb5.block⟩
       have HS5 := hid (And.intro ((HX.out.below HB5.out).cell 0) (And.intro ((HX.out.below HB5.out).cell 1) (And.intro ((HMW.out.below HB5.out).m.cell 0) ((HMW.out.below HB5.out).m.cell 1))))
       clear hb5))
  have HBf : Hid (BelX x w.heap.size w w5) := hid (BelX.of (HBW.out.trans (HB5.out.mono HBW.out.size)))
  have HMf := hid (HMW.out.below HB5.out)
  go_wp2
  go_ret
  exact ⟨_, rfl, hid (by rw [HS.out]; exact ⟨_, is5, rfl, HV5.out⟩), HMf, HBf⟩
set_option maxRecDepth 100000 in
set_option maxHeartbeats 8000000 in
theorem says_win (nd : Nd) (l r : Tr) (a b : Nat) (hk : nd.kind = 2) (hop : nd.op ≤ 4) (hn : 1 ≤ nd.n ∧ nd.n ≤ 1000) (hds : Dst (ss.map Srs.ser)) (ht0 : -1000000 ≤ tm) (ht1 : tm ≤ 1000000) : SayCG x mb gb sv ss tm (.node a b nd l r) := by
  intro pv w hM hP
  obtain ⟨wd, nm, la, ln, lc, hpv, hwd, hnm, hcv⟩ : ∃ (wd nm : ByteArray) (la : Option Addr) (ln lc : Nat), pv = .iface 181 (.agg #[.string wd, .string nm, .slice la ln lc, .int .i64 nd.n]) ∧ bl wd = overWords.getD nd.op [] ∧ bl nm = nd.name ∧ CondsV w (.slice la ln lc) nd.conds := by
    rcases hP with ⟨h, _⟩ | ⟨h, _⟩ | ⟨_, h⟩ | ⟨h, _⟩ | ⟨h, _⟩ | ⟨h, _⟩
    · omega
    · omega
    · exact h
    all_goals omega
  subst hpv
  obtain ⟨sa, scp, rfl⟩ := own_shape hM.sto.row
  have HS : Hid (sayT (ss.map Srs.ser) tm (.node a b nd l r) = .vec (windowedV (ss.map Srs.ser) nd (some nd.op) nd.n tm)) := hid (by rw [sayT, if_neg (by omega), if_neg (by omega), if_pos hk])
  have HM : Hid (MOk x mb gb (.slice sa ss.length scp) ss tm w) := hM
  have HPR : Hid (∀ W, Below w.heap.size w W → Calls Tryz.prog 134 #[.slice sa ss.length scp, .agg #[.string nm, .slice la ln lc], .int .i64 nd.n, .int .i64 tm] W _) := hid (fun W hW => prange_any _ ss nm la ln lc nd nd.n tm W (hM.below hW).sto hnm (hcv.below hW) (by omega) hn.2 ht0 ht1)
  have HMO : Hid (∀ W, Calls Tryz.prog 131 #[.string wd] W _) := hid (fun W => measure_over wd nd.op hop hwd W)
  have HDS : Hid (Dst (ss.map Srs.ser)) := hds
  have HLN : Hid (ss.length ≤ 30) := hid hM.sto.len
  clear hP hM hnm hcv hds hwd hn
  obtain ⟨nn, hnn⟩ : ∃ nn, nn = nd.n := ⟨_, rfl⟩
  rw [← hnn] at HPR HS ⊢
  clear hnn
  have h1 := asWindowNumber (.agg #[.string wd, .string nm, .slice la ln lc, .int .i64 nn])
  have h2 := asWindowNegative (.agg #[.string wd, .string nm, .slice la ln lc, .int .i64 nn])
  have h3 := asWindowPair (.agg #[.string wd, .string nm, .slice la ln lc, .int .i64 nn])
  have h4 := asWindowGroup (.agg #[.string wd, .string nm, .slice la ln lc, .int .i64 nn])
  have h5 := asWindowWindow (.agg #[.string wd, .string nm, .slice la ln lc, .int .i64 nn])
  go_enter Tryz.func87, Tryz.ntmps87
  go_upto_region 19 with fail
  refine wp_gen fun W hW => ?_
  have hbW : Below w.heap.size w W := by rw [hW]; exact (Below.refl _ _).alloc (Nat.le_refl _) _
  have HX : Hid (BAt W w.heap.size [.string wd, .string nm, .slice la ln lc, .int .i64 nn] 181) := hid (by rw [hW]; exact Go.Deep.blk_alloc_new _ _)
  have HMW := hid (HM.out.below hbW)
  have HBW : Hid (Below w.heap.size w W) := hid hbW
  clear hW hbW h1 h2 h3 h4 h5
  have x0 := HX.out.cell 0
  have x1 := HX.out.cell 1
  have x2 := HX.out.cell 2
  have x3 := HX.out.cell 3
  have m0 := HMW.out.m.cell 0
  have m1 := HMW.out.m.cell 1
  simp only [List.getElem?_cons_zero, List.getElem?_cons_succ] at x0 x1 x2 x3 m0 m1
  have HSB : Hid (∀ w', Below W.heap.size W w' → w'.cell? ⟨w.heap.size, 0, none⟩ = some (.string wd) ∧ w'.cell? ⟨w.heap.size, 1, none⟩ = some (.string nm) ∧ w'.cell? ⟨w.heap.size, 2, none⟩ = some (.slice la ln lc) ∧ w'.cell? ⟨w.heap.size, 3, none⟩ = some (.int .i64 nn) ∧ w'.cell? ⟨mb, 0, none⟩ = some (.slice sa ss.length scp) ∧ w'.cell? ⟨mb, 1, none⟩ = some (.int .i64 tm)) := hid (fun w' h => ⟨(HX.out.below h).cell 0, (HX.out.below h).cell 1, (HX.out.below h).cell 2, (HX.out.below h).cell 3, (HMW.out.below h).m.cell 0, (HMW.out.below h).m.cell 1⟩)
  go_region_held3 (fun w' => w'.cell? ⟨w.heap.size, 0, none⟩ = some (.string wd) ∧ w'.cell? ⟨w.heap.size, 1, none⟩ = some (.string nm) ∧ w'.cell? ⟨w.heap.size, 2, none⟩ = some (.slice la ln lc) ∧ w'.cell? ⟨w.heap.size, 3, none⟩ = some (.int .i64 nn) ∧ w'.cell? ⟨mb, 0, none⟩ = some (.slice sa ss.length scp) ∧ w'.cell? ⟨mb, 1, none⟩ = some (.int .i64 tm)) (first | exact ⟨x0, x1, x2, x3, m0, m1⟩ | exact HSB.out _ HB6.out | exact HSB.out _ HB5.out | go_keep) (first
    | (go_at_call 131
       refine (HMO.out _).mono ?_
       rintro e w4 ⟨rfl, rfl⟩)
    | (go_at_call 134
       refine (HPR.out _ (by exact ⟨HBW.out.os, HBW.out.tape, HBW.out.output, HBW.out.size, HBW.out.block⟩)).mono ?_
       rintro e w5 ⟨v5, rs5, rfl, HV5, hb5⟩
       have HB5 : Hid (Below W.heap.size W w5) := hid ⟨hb5.os, hb5.tape, hb5.output, hb5.size, hb5.block⟩
       clear hb5)
    | (go_at_call 133
       refine (pover_any nd.op hop v5 rs5 (ss.map Srs.ser) nd nn tm _ HV5.out.1 HV5.out.2 HDS.out (by
         have h1 := congrArg List.length HV5.out.2
         rw [List.length_map] at h1
         have h2 := rangeV_len (ss.map Srs.ser) nd nn tm
         rw [List.length_map] at h2
         have := HLN.out
         omega)).mono ?_
       rintro e w6 ⟨v6, is6, rfl, HV6, hb6⟩
       have HB6 : Hid (Below W.heap.size W w6) := hid (HB5.out.trans (hb6.mono HB5.out.size))
       clear hb6))
  have HBf : Hid (BelX x w.heap.size w w6) := hid (BelX.of (HBW.out.trans (HB6.out.mono HBW.out.size)))
  have HMf := hid (HMW.out.below HB6.out)
  go_wp2
  go_ret
  exact ⟨_, rfl, hid (by rw [HS.out]; exact ⟨_, is6, rfl, HV6.out⟩), HMf, HBf⟩
set_option maxRecDepth 100000 in
set_option maxHeartbeats 8000000 in
theorem says_or (nd : Nd) (l r : Tr) (a b : Nat) (hk : nd.kind = 6) (hl : isVec (sayT (ss.map Srs.ser) tm l) = true) (hr : isVec (sayT (ss.map Srs.ser) tm r) = true) (ihl : SayCG x mb gb sv ss tm l) (ihr : SayCG x mb gb sv ss tm r) : SayCG x mb gb sv ss tm (.node a b nd l r) := by
  intro pv w hM hP
  obtain ⟨p, q, hpv, hp, hq⟩ : ∃ p q, pv = .iface 149 (.agg #[.int .i64 (opNo nd), p, q]) ∧ PartV w l p ∧ PartV w r q := by
    rcases hP with ⟨h, _⟩ | ⟨h, _⟩ | ⟨h, _⟩ | ⟨h, _⟩ | ⟨h, _⟩ | ⟨_, h⟩
    · omega
    · omega
    · omega
    · omega
    · omega
    · exact h
  have ho : opNo nd = 0 := by unfold opNo; rw [if_pos hk]
  rw [ho] at hpv
  subst hpv
  obtain ⟨ty, tv, rfl⟩ := hp.shape
  obtain ⟨uy, uv, rfl⟩ := hq.shape
  have HS : Hid (sayT (ss.map Srs.ser) tm (.node a b nd l r) = if (elems (sayT (ss.map Srs.ser) tm l)).isEmpty then sayT (ss.map Srs.ser) tm r else sayT (ss.map Srs.ser) tm l) := hid (by rw [sayT, if_neg (by omega), if_neg (by omega), if_neg (by omega), if_neg (by omega), if_neg (by omega), if_pos hk])
  have HM : Hid (MOk x mb gb sv ss tm w) := hM
  have HE : Hid (∀ W, Below w.heap.size w W → Calls Tryz.prog 126 #[.pointer (some ⟨mb, 0, none⟩), .iface ty tv, .iface uy uv] W (EitP x mb gb sv ss tm l r W)) := hid (fun W hW => either_any l r hl hr ihl ihr ty uy tv uv W (hM.below hW) (hp.below hW) (hq.below hW))
  clear hP hM hp hq hl hr ihl ihr ho
  have h1 := asPairNumber (.agg #[.int .i64 (0 : Nat), .iface ty tv, .iface uy uv])
  have h2 := asPairNegative (.agg #[.int .i64 (0 : Nat), .iface ty tv, .iface uy uv])
  have h3 := asPairPair (.agg #[.int .i64 (0 : Nat), .iface ty tv, .iface uy uv])
  simp only [Int.natCast_zero] at *
  go_enter Tryz.func87, Tryz.ntmps87
  go_wp2_with fail
  refine calls_gen fun W hW => ?_
  have hbW : Below w.heap.size w W := by rw [hW]; exact (Below.refl _ _).alloc (Nat.le_refl _) _
  clear hW
  refine (HE.out W hbW).mono ?_
  rintro e w5 ⟨s, l5, is5, rfl, HV5, HM5, HB5⟩
  have HBf : Hid (BelX x w.heap.size w w5) := hid ((BelX.of hbW).trans (HB5.out.mono hbW.size))
  clear hbW
  go_wp2
  go_ret
  exact ⟨_, rfl, hid (by rw [HS.out, HV5.out.2]; exact ⟨_, is5, rfl, HV5.out.1⟩), HM5, HBf⟩
end Go.Proofs.YtpbemaaghbbocaaGreatDoor
namespace Go.Proofs.YtpbemaaghbbocaaGreatDoor
open Go.RowKit LS
variable {x mb gb : Nat} {sv : Value} {ss : List Srs} {tm : Int}
theorem MapX.lt {w : World} {x : Nat} (h : MapX w x) : x < w.heap.size := by
  obtain ⟨es, cl, hx⟩ := h
  exact (Array.getElem?_eq_some_iff.1 hx).1
set_option maxRecDepth 100000 in
set_option maxHeartbeats 8000000 in
theorem says_arith (nd : Nd) (l r : Tr) (a b : Nat) (hk : nd.kind = 4) (hop : nd.op ≤ 3) (hvr : VOk 1000 (sayT (ss.map Srs.ser) tm r)) (ihl : SayCG x mb gb sv ss tm l) (ihr : SayCG x mb gb sv ss tm r) : SayCG x mb gb sv ss tm (.node a b nd l r) := by
  intro pv w hM hP
  obtain ⟨p, q, hpv, hp, hq⟩ : ∃ p q, pv = .iface 149 (.agg #[.int .i64 (opNo nd), p, q]) ∧ PartV w l p ∧ PartV w r q := by
    rcases hP with ⟨h, _⟩ | ⟨h, _⟩ | ⟨h, _⟩ | ⟨h, _⟩ | ⟨h, _⟩ | ⟨_, h⟩
    · omega
    · omega
    · omega
    · omega
    · omega
    · exact h
  have ho : opNo nd = nd.op + 1 := by unfold opNo; rw [if_neg (by omega)]
  rw [ho] at hpv
  subst hpv
  obtain ⟨ty, tv, rfl⟩ := hp.shape
  obtain ⟨uy, uv, rfl⟩ := hq.shape
  have HS : Hid (sayT (ss.map Srs.ser) tm (.node a b nd l r) = arithV nd.op (sayT (ss.map Srs.ser) tm l) (sayT (ss.map Srs.ser) tm r)) := hid (by rw [sayT, if_neg (by omega), if_neg (by omega), if_neg (by omega), if_neg (by omega), if_neg (by omega), if_neg (by omega)])
  have HM : Hid (MOk x mb gb sv ss tm w) := hM
  have HP : Hid (PartV w l (.iface ty tv) ∧ PartV w r (.iface uy uv)) := ⟨hp, hq⟩
  have HVR : Hid (VOk 1000 (sayT (ss.map Srs.ser) tm r)) := hvr
  have HIL : Hid (∀ W, MOk x mb gb sv ss tm W → PartV W l (.iface ty tv) → Calls Tryz.prog 87 #[.pointer (some ⟨mb, 0, none⟩), .iface ty tv] W (SayP x mb gb sv ss tm l W)) := hid (fun W h1 h2 => ihl _ W h1 h2)
  have HIR : Hid (∀ W, MOk x mb gb sv ss tm W → PartV W r (.iface uy uv) → Calls Tryz.prog 87 #[.pointer (some ⟨mb, 0, none⟩), .iface uy uv] W (SayP x mb gb sv ss tm r W)) := hid (fun W h1 h2 => ihr _ W h1 h2)
  obtain ⟨oz, hoz⟩ : ∃ oz : Int, oz = ((nd.op + 1 : Nat) : Int) := ⟨_, rfl⟩
  have HOZ : Hid (oz = ((nd.op + 1 : Nat) : Int)) := hoz
  have hoz0 : (oz == 0) = false := by rw [beq_eq_false_iff_ne]; omega
  rw [← hoz]
  have hxl := hM.map.lt
  clear hP hM hp hq hvr ihl ihr ho hoz
  have h1 := asPairNumber (.agg #[.int .i64 oz, .iface ty tv, .iface uy uv])
  have h2 := asPairNegative (.agg #[.int .i64 oz, .iface ty tv, .iface uy uv])
  have h3 := asPairPair (.agg #[.int .i64 oz, .iface ty tv, .iface uy uv])
  go_enter Tryz.func87, Tryz.ntmps87
  go_upto_region 12 with fail
  refine wp_gen fun W hW => ?_
  have hbW : Below w.heap.size w W := by rw [hW]; exact (Below.refl _ _).alloc (Nat.le_refl _) _
  have HX : Hid (BAt W w.heap.size [.int .i64 oz, .iface ty tv, .iface uy uv] 149) := hid (by rw [hW]; exact Go.Deep.blk_alloc_new _ _)
  have HMW := hid (HM.out.below hbW)
  have HPW : Hid (PartV W l (.iface ty tv) ∧ PartV W r (.iface uy uv)) := hid ⟨HP.out.1.below hbW, HP.out.2.below hbW⟩
  have HBW : Hid (Below w.heap.size w W) := hid hbW
  clear hW hbW h1 h2 h3 hoz0
  have x0 := HX.out.cell 0
  have x1 := HX.out.cell 1
  have x2 := HX.out.cell 2
  simp only [List.getElem?_cons_zero, List.getElem?_cons_succ] at x0 x1 x2
  have HSB : Hid (∀ w', BelX x W.heap.size W w' → w'.cell? ⟨w.heap.size, 0, none⟩ = some (.int .i64 oz) ∧ w'.cell? ⟨w.heap.size, 1, none⟩ = some (.iface ty tv) ∧ w'.cell? ⟨w.heap.size, 2, none⟩ = some (.iface uy uv)) := hid (fun w' h => by
    have g := HX.out.belX h (by omega)
    exact ⟨g.cell 0, g.cell 1, g.cell 2⟩)
  go_region_held3 (fun w' => w'.cell? ⟨w.heap.size, 0, none⟩ = some (.int .i64 oz) ∧ w'.cell? ⟨w.heap.size, 1, none⟩ = some (.iface ty tv) ∧ w'.cell? ⟨w.heap.size, 2, none⟩ = some (.iface uy uv)) (first | exact ⟨x0, x1, x2⟩ | exact HSB.out _ HB7.out | exact HSB.out _ HB6.out | exact HSB.out _ HB5.out | go_keep) (first
    | (go_at_call 87
       refine (HIR.out w5 HM5.out HP5.out).mono ?_
       rintro e w6 ⟨v6, rfl, HV6, HM6, HB6'⟩
       have HB6 : Hid (BelX x W.heap.size W w6) := hid (HB5.out.trans (HB6'.out.mono HB5.out.size))
       have HV56 : Hid (ValP w6 v5 (sayT (ss.map Srs.ser) tm l)) := hid (HV5.out.keepsC (KeepsC.belX HB6'.out HM5.out.map))
       clear HB6')
    | (go_at_call 87
       refine (HIL.out _ (by exact ⟨HMW.out.m, HMW.out.g, HMW.out.map, ⟨HMW.out.sto.row, fun s hs => (HMW.out.sto.ok s hs).keepsC (KeepsC.refl _), HMW.out.sto.len⟩⟩) (by exact HPW.out.1.keepsC (KeepsC.refl _))).mono ?_
       rintro e w5 ⟨v5, rfl, HV5, HM5, HB5'⟩
       have HB5 : Hid (BelX x W.heap.size W w5) := hid ⟨HB5'.out.os, HB5'.out.tape, HB5'.out.output, HB5'.out.size, HB5'.out.block⟩
       have HP5 : Hid (PartV w5 r (.iface uy uv)) := hid (HPW.out.2.keepsC (KeepsC.belX HB5.out HMW.out.map))
       clear HB5')
    | (go_at_call 127
       rw [HOZ.out]
       refine (parith_any nd.op hop v5 v6 _ _ w6 HV56.out HV6.out HVR.out).mono ?_
       rw [← HOZ.out]
       rintro e w7 ⟨v7, rfl, HV7, hb7⟩
       have HM7 := hid (HM6.out.below hb7)
       have HB7 : Hid (BelX x W.heap.size W w7) := hid (HB6.out.trans ((BelX.of hb7).mono HB6.out.size))
       clear hb7))
  have HBf : Hid (BelX x w.heap.size w w7) := hid ((BelX.of HBW.out).trans (HB7.out.mono HBW.out.size))
  go_wp2
  go_ret
  exact ⟨_, rfl, hid (by rw [HS.out]; exact HV7.out), HM7, HBf⟩
theorem keptV_mem {ns ms : List (List UInt8)} (h : ∀ z, z ∈ ns ↔ z ∈ ms) (l : List Lab) : keptV l ns = keptV l ms := by
  unfold keptV
  refine List.filter_congr (fun p _ => ?_)
  rw [Bool.eq_iff_iff, List.contains_iff_mem, List.contains_iff_mem]
  exact h p.1
theorem groupAcc_names {ns ms : List (List UInt8)} (h : ∀ z, z ∈ ns ↔ z ∈ ms) (op : Nat) (all : List El) : ∀ (l pre : List El), groupAcc op ns all pre l = groupAcc op ms all pre l
  | [], _ => rfl
  | e :: l, pre => by
    rw [groupAcc, groupAcc, groupAcc_names h op all l (pre ++ [e])]
    have hk : (fun f : El => keptV f.1 ns) = fun f => keptV f.1 ms := funext fun f => keptV_mem h f.1
    simp only [keptV_mem h]
theorem groupV_names {ns ms : List (List UInt8)} (h : ∀ z, z ∈ ns ↔ z ∈ ms) (op : Nat) (l : List El) : groupV op ns l = groupV op ms l := by unfold groupV; rw [groupAcc_names h]
set_option maxRecDepth 100000 in
set_option maxHeartbeats 8000000 in
theorem says_group (nd : Nd) (l r : Tr) (a b : Nat) (hk : nd.kind = 5) (hop : nd.op ≤ 3) (hnl : nd.by_.length ≤ 100000) (hvl : isVec (sayT (ss.map Srs.ser) tm l) = true) (ihl : SayCG x mb gb sv ss tm l) : SayCG x mb gb sv ss tm (.node a b nd l r) := by
  intro pv w hM hP
  obtain ⟨wd, la, ln, lc, q, hpv, hwd, hnv, hq⟩ : ∃ (wd : ByteArray) (la : Option Addr) (ln lc : Nat) (q : Value), pv = .iface 156 (.agg #[.string wd, .slice la ln lc, q]) ∧ bl wd = groupWords.getD nd.op [] ∧ NamesV w (.slice la ln lc) nd.by_ ∧ PartV w l q := by
    rcases hP with ⟨h, _⟩ | ⟨h, _⟩ | ⟨h, _⟩ | ⟨h, _⟩ | ⟨_, h⟩ | ⟨h, _⟩
    · omega
    · omega
    · omega
    · omega
    · exact h
    · omega
  subst hpv
  obtain ⟨ty, tv, rfl⟩ := hq.shape
  obtain ⟨bs, hbo, hbb⟩ := hnv
  have hbl : bs.length ≤ 100000 := by rw [← hbb, List.length_map] at hnl; exact hnl
  obtain ⟨av, cpv, hav⟩ := own_shape hbo
  injection hav with e1 e2 e3
  subst e2
  have HS : Hid (sayT (ss.map Srs.ser) tm (.node a b nd l r) = .vec (groupV nd.op (bs.map bl) (elems (sayT (ss.map Srs.ser) tm l)))) := hid (by rw [sayT, if_neg (by omega), if_neg (by omega), if_neg (by omega), if_neg (by omega), if_pos hk, hbb])
  have HM : Hid (MOk x mb gb sv ss tm w) := hM
  have HP : Hid (PartV w l (.iface ty tv)) := hq
  have HBO : Hid (w.ownsRow 0 9 1 (.slice la bs.length lc) bs.length (flatS bs)) := hbo
  have HIV : Hid (∀ W, MOk x mb gb sv ss tm W → PartV W l (.iface ty tv) → Calls Tryz.prog 132 #[.pointer (some ⟨mb, 0, none⟩), .iface ty tv] W (VecP x mb gb sv ss tm l W)) := hid (fun W h1 h2 => vector_any l hvl ihl ty tv W h1 h2)
  have HMO : Hid (∀ W, Calls Tryz.prog 131 #[.string wd] W _) := hid (fun W => measure_group wd nd.op hop hwd W)
  have hxl := hM.map.lt
  clear hP hM hq hbo hvl ihl hwd hbb hnl e1 e3
  have h1 := asGroupNumber (.agg #[.string wd, .slice la bs.length lc, .iface ty tv])
  have h2 := asGroupNegative (.agg #[.string wd, .slice la bs.length lc, .iface ty tv])
  have h3 := asGroupPair (.agg #[.string wd, .slice la bs.length lc, .iface ty tv])
  have h4 := asGroupGroup (.agg #[.string wd, .slice la bs.length lc, .iface ty tv])
  go_enter Tryz.func87, Tryz.ntmps87
  go_wp2_with fail
  refine calls_gen fun W hW => ?_
  have hbW : Below w.heap.size w W := by rw [hW]; exact (Below.refl _ _).alloc (Nat.le_refl _) _
  have HX : Hid (BAt W w.heap.size [.string wd, .slice la bs.length lc, .iface ty tv] 156) := hid (by rw [hW]; exact Go.Deep.blk_alloc_new _ _)
  have HBW : Hid (Below w.heap.size w W) := hid hbW
  clear hW hbW h1 h2 h3 h4
  refine (values_any _ W la bs.length lc rfl).mono ?_
  rintro e w2 ⟨rfl, hw2⟩
  have hb2 : Below W.heap.size W w2 := by rw [hw2]; exact (Below.refl _ _).alloc (Nat.le_refl _) _
  have hc2 : w2.cell? ⟨W.heap.size, 0, none⟩ = some (.slice la bs.length lc) := by rw [hw2]; exact World.cell?_alloc_at _ _ _ _ (by simp) |>.trans rfl
  have hs2 : W.heap.size < w2.heap.size := by rw [hw2]; simp
  have HSO := hid (sorted_any W.heap.size (.slice la bs.length lc) bs hbl w2 hs2 hc2 (own_below HBO.out (HBW.out.trans (hb2.mono HBW.out.size))))
  have HB2 : Hid (Below w.heap.size w w2) := hid (HBW.out.trans (hb2.mono HBW.out.size))
  have HX2 := hid (HX.out.below hb2)
  clear hw2 hb2 hc2 hs2 HX HBW
  go_wp2_with fail
  refine HSO.out.mono ?_
  rintro e w3 ⟨nv, bs', rfl, HN3, hb3⟩
  obtain ⟨na, ncp, rfl⟩ := own_shape HN3.out.1
  have HB3 : Hid (Below w.heap.size w w3) := hid (HB2.out.trans (hb3.mono HB2.out.size))
  have HX3 := hid (HX2.out.below hb3)
  have HM3 := hid (HM.out.below HB3.out)
  have HP3 : Hid (PartV w3 l (.iface ty tv)) := hid (HP.out.below HB3.out)
  clear hb3 HX2 HB2 HSO
  have x0 := HX3.out.cell 0
  have x1 := HX3.out.cell 1
  have x2 := HX3.out.cell 2
  have m2 := HM3.out.m.cell 2
  simp only [List.getElem?_cons_zero, List.getElem?_cons_succ] at x0 x1 x2 m2
  have hmx : mb ≠ x := by
    intro e
    obtain ⟨es, cl, hx⟩ := HM3.out.map
    have := HM3.out.m
    rw [e] at this
    unfold BAt at this
    rw [hx] at this; cases this
  have HSB : Hid (∀ w', BelX x w3.heap.size w3 w' → w'.cell? ⟨w.heap.size, 0, none⟩ = some (.string wd) ∧ w'.cell? ⟨w.heap.size, 2, none⟩ = some (.iface ty tv) ∧ w'.cell? ⟨mb, 2, none⟩ = some (.pointer (some ⟨gb, 0, none⟩))) := hid (fun w' h => by
    have g := HX3.out.belX h (by omega)
    have g2 := HM3.out.m.belX h hmx
    exact ⟨g.cell 0, g.cell 2, g2.cell 2⟩)
  go_upto_region 16 with fail
  go_region_held3 (fun w' => w'.cell? ⟨w.heap.size, 0, none⟩ = some (.string wd) ∧ w'.cell? ⟨w.heap.size, 2, none⟩ = some (.iface ty tv) ∧ w'.cell? ⟨mb, 2, none⟩ = some (.pointer (some ⟨gb, 0, none⟩))) (first | exact ⟨x0, x2, m2⟩ | exact HSB.out _ HB7.out | exact HSB.out _ HB6.out | go_keep) (first
    | (go_at_call 131
       refine (HMO.out _).mono ?_
       rintro e w4 ⟨rfl, rfl⟩)
    | (go_at_call 132
       refine (HIV.out _ (by exact ⟨HM3.out.m, HM3.out.g, HM3.out.map, ⟨HM3.out.sto.row, fun s hs => (HM3.out.sto.ok s hs).keepsC (KeepsC.refl _), HM3.out.sto.len⟩⟩) (by exact HP3.out.keepsC (KeepsC.refl _))).mono ?_
       rintro e w6 ⟨v6, l6, is6, rfl, HV6, HM6, HB6'⟩
       have HB6 : Hid (BelX x w3.heap.size w3 w6) := hid ⟨HB6'.out.os, HB6'.out.tape, HB6'.out.output, HB6'.out.size, HB6'.out.block⟩
       have HN6 := hid ((KeepsC.belX HB6.out HM3.out.map).own HN3.out.1)
       clear HB6')
    | (go_at_call 130
       refine (measureP_any gb x nd.op hop _ bs' v6 l6 is6 w6 HM6.out.g HM6.out.map HN6.out (by rw [HN3.out.2.1]; exact hbl) HN3.out.2.2.1 HV6.out.1).mono ?_
       rintro e w7 ⟨v7, is7, rfl, HV7, hb7⟩
       have HM7 := hid (HM6.out.belX hb7 HV7.out.2)
       have HB7 : Hid (BelX x w3.heap.size w3 w7) := hid (HB6.out.trans (hb7.mono HB6.out.size))
       clear hb7))
  have HBf : Hid (BelX x w.heap.size w w7) := hid ((BelX.of HB3.out).trans (HB7.out.mono HB3.out.size))
  have HVf : Hid (VecV w7 v7 (groupV nd.op (bs.map bl) l6) is7) := hid (by rw [← groupV_names HN3.out.2.2.2]; exact HV7.out.1)
  go_wp2
  go_ret
  exact ⟨_, rfl, hid (by rw [HS.out, HV6.out.2]; exact ⟨_, is7, rfl, HVf.out⟩), HM7, HBf⟩
end Go.Proofs.YtpbemaaghbbocaaGreatDoor

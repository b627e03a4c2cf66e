/- Parts. -/
import Derived.Test.YtpbemaaghbbocaaGreatDoorA26
namespace Go.Proofs.YtpbemaaghbbocaaGreatDoor
open Go.RowKit LS
set_option maxHeartbeats 2000000 in
theorem find1_any (x : Itm) (tx : ByteArray) (w : World) : Calls Tryz.prog 216 #[.agg #[.slice x.a x.n x.c, .string x.tx, .int .i64 x.v], .string tx] w fun e w' => e = .returned (.int .i64 (cmpV (bl x.tx) (bl tx))) ∧ Below w.heap.size w w' := by
  obtain ⟨xa, xn, xc, xt, xq, xv⟩ := x
  simp only
  go_enter Tryz.func216, Tryz.ntmps216
  go_wp2_with fail
  refine (lstr_any _ _ _ _ _).mono ?_
  rintro e w5 ⟨rfl, o5, hw5⟩
  have HB : Hid (Below w.heap.size w w5) := hid (by rw [hw5]; exact ((Below.refl _ _).alloc (Nat.le_refl _) _).alloc (by simp) _)
  clear hw5
  go_wp2_with (go_at_call 200; refine (cmp_any _ _ _).mono ?_; rintro e w6 ⟨rfl, rfl⟩)
  go_ret
  exact ⟨rfl, HB.out⟩
theorem cmpV_zero {x y : List UInt8} (h : cmpV x y = 0) : x = y := by
  unfold cmpV at h
  cases h1 : Op.bytesLess x y with
  | true => rw [h1] at h; simp at h
  | false =>
    cases h2 : Op.bytesLess y x with
    | true => rw [h1, h2] at h; simp at h
    | false => exact bls_tri _ _ h1 h2
theorem cmpV_self (x : List UInt8) : cmpV x x = 0 := by unfold cmpV; rw [bls_irrefl]; rfl
def TxS (is : List Itm) : Prop := is.Pairwise fun a b => Op.bytesLess (bl a.tx) (bl b.tx) = true
theorem TxS.mono {is : List Itm} (h : TxS is) {y : List UInt8} {i j : Nat} (hi : i ≤ j) (hj : j < is.length) (hl : Op.bytesLess (bl is[j].tx) y = true) : Op.bytesLess (bl (is[i]'(by omega)).tx) y = true := by
  rcases Nat.lt_or_ge i j with h1 | h1
  · exact bls_trans _ _ _ (List.pairwise_iff_getElem.1 h i j (by omega) hj h1) hl
  · obtain rfl : i = j := by omega
    exact hl
def BsIs (is : List Itm) (y : List UInt8) (k : Nat) (ok : Bool) : Prop := (ok = true ∧ ∃ h : k < is.length, bl (is[k]).tx = y) ∨ (ok = false ∧ ∀ i ∈ is, bl i.tx ≠ y)
theorem bs_none {is : List Itm} (hs : TxS is) {y : List UInt8} {k : Nat} (h1 : ∀ j (h : j < is.length), j < k → Op.bytesLess (bl is[j].tx) y = true) (h2 : ∀ j (h : j < is.length), k ≤ j → Op.bytesLess (bl is[j].tx) y = false) (h3 : ∀ h : k < is.length, bl (is[k]).tx ≠ y) : ∀ i ∈ is, bl i.tx ≠ y := by
  intro i hi he
  obtain ⟨j, hj, rfl⟩ := List.mem_iff_getElem.1 hi
  rcases Nat.lt_or_ge j k with hjk | hjk
  · have := h1 j hj hjk
    rw [he, bls_irrefl] at this
    cases this
  · rcases Nat.lt_or_ge k j with hk | hk
    · have e1 := List.pairwise_iff_getElem.1 hs k j (by omega) hj hk
      rw [he, h2 k (by omega) (Nat.le_refl _)] at e1
      cases e1
    · obtain rfl : k = j := by omega
      exact h3 hj he
set_option maxRecDepth 100000 in
set_option maxHeartbeats 8000000 in
theorem bsf_any (v : Value) (is : List Itm) (tx : ByteArray) (w : World) (hrow : w.ownsRow 0 255 3 v is.length (encs is)) (hlen : is.length ≤ 1000) (hs : TxS is) :
    Calls Tryz.prog 215 #[v, .string tx, .func (.func 216) #[] #[]] w fun e w' => ∃ (k : Nat) (ok : Bool), e = .returned (.tuple #[.int .i64 k, .bool ok]) ∧ Hid (BsIs is (bl tx) k ok) ∧ Below w.heap.size w w' := by
  obtain ⟨ra, rcp, rfl⟩ := own_shape hrow
  have HR : Hid (w.ownsRow 0 255 3 (.slice ra is.length rcp) is.length (encs is)) := hrow
  have HS : Hid (TxS is) := hs
  clear hrow hs
  go_enter Tryz.func215, Tryz.ntmps215
  go_wp2
  go_loopg [9, 10] is.length (fun kx s5 s6 wr => ∃ lo hi : Nat, s5 = .int .i64 lo ∧ s6 = .int .i64 hi ∧ lo ≤ hi ∧ hi ≤ is.length ∧ hi - lo ≤ kx ∧ Hid (Below w.heap.size w wr) ∧ Hid ((∀ j (h : j < is.length), j < lo → Op.bytesLess (bl is[j].tx) (bl tx) = true) ∧ (∀ j (h : j < is.length), hi ≤ j → Op.bytesLess (bl is[j].tx) (bl tx) = false)))
  case atStart => exact ⟨0, is.length, rfl, rfl, Nat.zero_le _, Nat.le_refl _, by omega, hid (Below.refl _ _), hid ⟨fun j _ h => absurd h (Nat.not_lt_zero _), fun j h h' => by omega⟩⟩
  case round =>
    obtain ⟨lo, hi, rfl, rfl, hlh, hin, hg, HB, I⟩ := hrel
    by_cases hlt : lo < hi
    · have hml : (lo + hi) / 2 < is.length := by omega
      have hg : ∃ g, ra = some ⟨g, 0, none⟩ := by
        obtain ⟨g, cp', h⟩ := own_some HR.out (by omega)
        injection h with h1; exact ⟨g, h1⟩
      obtain ⟨g, rfl⟩ := hg
      have HVR := hid (own_below HR.out HB.out)
      obtain ⟨f1, f2, f3⟩ := encs_get is ((lo + hi) / 2) hml
      have d1 := own_cell HVR.out _ _ f1
      have d2 := own_cell HVR.out _ _ f2
      have d3 := own_cell HVR.out _ _ f3
      have hmz : (((lo + hi) / 2 : Nat) : Int) = ((lo : Int) + (hi : Int)) / 2 := by omega
      have hmn : (((lo : Int) + (hi : Int)) / 2).toNat = (lo + hi) / 2 := by omega
      have hc := find1_any is[(lo + hi) / 2] tx wr
      have HM1 : Hid (Op.bytesLess (bl (is[(lo + hi) / 2]).tx) (bl tx) = true → ∀ i (h : i < is.length), i ≤ (lo + hi) / 2 → Op.bytesLess (bl is[i].tx) (bl tx) = true) := hid (fun hl i h h' => HS.out.mono h' hml hl)
      have HM2 : Hid (Op.bytesLess (bl (is[(lo + hi) / 2]).tx) (bl tx) = false → ∀ i (h : i < is.length), (lo + hi) / 2 ≤ i → Op.bytesLess (bl is[i].tx) (bl tx) = false) := hid (fun hl i h h' => by
        cases hb : Op.bytesLess (bl is[i].tx) (bl tx) with
        | false => rfl
        | true => rw [HS.out.mono h' h hb] at hl; cases hl)
      have hcn := cmpV_neg (bl (is[(lo + hi) / 2]).tx) (bl tx)
      clear f1 f2 f3 HVR
      generalize is[(lo + hi) / 2] = x at *
      obtain ⟨xa, xn, xc, xt, xq, xv⟩ := x
      simp only at hc HM1 HM2 hcn d1 d2 d3
      generalize cmpV (bl xt) (bl tx) = cr at *
      cases hx : Op.bytesLess (bl xt) (bl tx) with
      | true =>
        rw [hx] at hcn
        have HX := hid (HM1.out hx)
        clear hx
        have hneg : cr < 0 := by simpa using hcn
        clear hcn
        go_wp2_with (go_at_call 216; refine hc.mono ?_; rintro e w' ⟨rfl, hb⟩)
        go_roundg (hi - ((lo + hi) / 2 + 1))
        case measure => omega
        case rel =>
          exact ⟨(lo + hi) / 2 + 1, hi, by rw [show ((lo : Int) + (hi : Int)) / 2 + 1 = (((lo + hi) / 2 + 1 : Nat) : Int) by omega], rfl, by omega, hin, Nat.le_refl _, hid (HB.out.trans (hb.mono HB.out.size)), hid ⟨fun j h h' => HX.out j h (by omega), I.out.2⟩⟩
      | false =>
        rw [hx] at hcn
        have HX := hid (HM2.out hx)
        clear hx
        have hneg : ¬ cr < 0 := by simpa using hcn
        clear hcn
        go_wp2_with (go_at_call 216; refine hc.mono ?_; rintro e w' ⟨rfl, hb⟩)
        go_roundg ((lo + hi) / 2 - lo)
        case measure => omega
        case rel =>
          exact ⟨lo, (lo + hi) / 2, rfl, by rw [show ((lo : Int) + (hi : Int)) / 2 = (((lo + hi) / 2 : Nat) : Int) by omega], by omega, by omega, Nat.le_refl _, hid (HB.out.trans (hb.mono HB.out.size)), hid ⟨I.out.1, HX.out⟩⟩
    · obtain rfl : hi = lo := by omega
      have hb := HB.out
      by_cases hll : hi < is.length
      · have hg : ∃ g, ra = some ⟨g, 0, none⟩ := by
          obtain ⟨g, cp', h⟩ := own_some HR.out (by omega)
          injection h with h1; exact ⟨g, h1⟩
        obtain ⟨g, rfl⟩ := hg
        have HVR := hid (own_below HR.out HB.out)
        obtain ⟨f1, f2, f3⟩ := encs_get is hi hll
        have d1 := own_cell HVR.out _ _ f1
        have d2 := own_cell HVR.out _ _ f2
        have d3 := own_cell HVR.out _ _ f3
        have hc := find1_any is[hi] tx wr
        have HZ1 : Hid (cmpV (bl (is[hi]).tx) (bl tx) = 0 → BsIs is (bl tx) hi true) := hid (fun h => Or.inl ⟨rfl, hll, cmpV_zero h⟩)
        have HZ2 : Hid (cmpV (bl (is[hi]).tx) (bl tx) ≠ 0 → BsIs is (bl tx) hi false) := hid (fun h => Or.inr ⟨rfl, bs_none HS.out I.out.1 I.out.2 (fun _ e => h (by rw [e]; exact cmpV_self _))⟩)
        generalize is[hi] = x at *
        obtain ⟨xa, xn, xc, xt, xq, xv⟩ := x
        simp only at hc HZ1 HZ2 d1 d2 d3
        generalize cmpV (bl xt) (bl tx) = cr at *
        clear f1 f2 f3 HVR
        by_cases h0 : cr = 0
        · have HZ := hid (HZ1.out h0)
          subst h0
          go_wp2_with (go_at_call 216; refine hc.mono ?_; rintro e w' ⟨rfl, hb5⟩)
          have hb6 := hb.trans (hb5.mono hb.size)
          go_ret2
          exact ⟨hi, true, rfl, HZ, hb6⟩
        · have HZ := hid (HZ2.out h0)
          have h0b : (cr == 0) = false := by simpa using h0
          go_wp2_with (go_at_call 216; refine hc.mono ?_; rintro e w' ⟨rfl, hb5⟩)
          have hb6 := hb.trans (hb5.mono hb.size)
          go_ret2
          exact ⟨hi, false, rfl, HZ, hb6⟩
      · have HZ : Hid (BsIs is (bl tx) hi false) := hid (Or.inr ⟨rfl, bs_none HS.out I.out.1 I.out.2 (fun h => absurd h hll)⟩)
        go_wp2
        go_ret2
        exact ⟨hi, false, rfl, HZ, hb⟩
def fdT (ys : List Itm) (y : List UInt8) : Option Itm := ys.find? fun j => decide (bl j.tx = y)
theorem fdT_some {ys : List Itm} (hs : TxS ys) {k : Nat} (hk : k < ys.length) {y : List UInt8} (h : bl (ys[k]).tx = y) : fdT ys y = some ys[k] := by
  unfold fdT
  rw [List.find?_eq_some_iff_getElem]
  refine ⟨by simpa using h, k, hk, rfl, fun j hj => ?_⟩
  have e := List.pairwise_iff_getElem.1 hs j k (by omega) hk hj
  simp only [Bool.not_eq_true', decide_eq_false_iff_not]
  intro e2
  rw [e2, h, bls_irrefl] at e
  cases e
theorem fdT_none {ys : List Itm} {y : List UInt8} (h : ∀ i ∈ ys, bl i.tx ≠ y) : fdT ys y = none := by
  unfold fdT
  rw [List.find?_eq_none]
  intro x hx
  simpa using h x hx
def FdIs (ys : List Itm) (y : List UInt8) (x : Int) (ok : Bool) : Prop := (ok = true ∧ ∃ j ∈ ys, fdT ys y = some j ∧ x = j.v) ∨ (ok = false ∧ fdT ys y = none)
set_option maxRecDepth 100000 in
set_option maxHeartbeats 4000000 in
theorem find_any (v : Value) (is : List Itm) (a : Option Addr) (n c : Nat) (tx : ByteArray) (w : World) (hrow : w.ownsRow 0 255 3 v is.length (encs is)) (hlen : is.length ≤ 1000) (hs : TxS is) :
    Calls Tryz.prog 193 #[v, .agg #[.slice a n c, .string tx]] w fun e w' => ∃ (x : Int) (ok : Bool), e = .returned (.tuple #[.int .i64 x, .bool ok]) ∧ Hid (FdIs is (bl tx) x ok) ∧ Below w.heap.size w w' := by
  obtain ⟨ra, rcp, rfl⟩ := own_shape hrow
  have HR : Hid (w.ownsRow 0 255 3 (.slice ra is.length rcp) is.length (encs is)) := hrow
  have HS : Hid (TxS is) := hs
  clear hrow hs
  go_enter Tryz.func193, Tryz.ntmps193
  go_wp2_with fail
  refine (lstr_any _ _ _ _ _).mono ?_
  rintro e w5 ⟨rfl, o5, hw5⟩
  have HB : Hid (Below w.heap.size w w5) := hid (by rw [hw5]; exact ((Below.refl _ _).alloc (Nat.le_refl _) _).alloc (by simp) _)
  clear hw5
  go_wp2_with fail
  refine (bsf_any _ is tx _ (own_below HR.out HB.out) hlen HS.out).mono ?_
  rintro e w6 ⟨k, ok, rfl, HK, hb6⟩
  have HB6 : Hid (Below w.heap.size w w6) := hid (HB.out.trans (hb6.mono HB.out.size))
  clear hb6 HB
  rcases HK.out with ⟨rfl, hk, hkt⟩ | ⟨rfl, hn⟩
  · have hg : ∃ g, ra = some ⟨g, 0, none⟩ := by
      obtain ⟨g, cp', h⟩ := own_some HR.out (by omega)
      injection h with h1; exact ⟨g, h1⟩
    obtain ⟨g, rfl⟩ := hg
    have d3 := own_cell (own_below HR.out HB6.out) _ _ (encs_get is k hk).2.2
    have HF : Hid (FdIs is (bl tx) (is[k]).v true) := hid (Or.inl ⟨rfl, is[k], List.getElem_mem hk, fdT_some HS.out hk hkt, rfl⟩)
    have hkz : (k : Int) < (is.length : Int) := by omega
    clear hkt HK
    generalize (is[k]).v = x at *
    go_wp2
    go_ret2
    exact ⟨x, true, rfl, HF, HB6.out⟩
  · have HF : Hid (FdIs is (bl tx) 0 false) := hid (Or.inr ⟨rfl, fdT_none hn⟩)
    clear hn HK
    go_wp2
    go_ret2
    exact ⟨0, false, rfl, HF, HB6.out⟩
def wItm (op : Nat) (ys : List Itm) (i : Itm) : Option Itm := (fdT ys (bl i.tx)).map fun j => { i with v := twoV op i.v j.v }
theorem fm_snoc {α β : Type} (f : α → Option β) (l : List α) (a : α) : (l ++ [a]).filterMap f = l.filterMap f ++ (f a).toList := by
  rw [List.filterMap_append]
  cases h : f a <;> simp [h]
theorem find_congr {α : Type} {p q : α → Bool} : ∀ {l : List α}, (∀ a ∈ l, p a = q a) → l.find? p = l.find? q
  | [], _ => rfl
  | a :: l, h => by
    rw [List.find?_cons, List.find?_cons, h a (by simp), find_congr (l := l) (fun b hb => h b (List.mem_cons_of_mem _ hb))]
theorem wItm_el {op : Nat} {w : World} {ys : List Itm} (hy : ∀ j ∈ ys, ItmOk w j) {i : Itm} (hi : ItmOk w i) : (wItm op ys i).map Itm.el = vvF op (ys.map Itm.el) i.el := by
  unfold wItm vvF fdT
  rw [List.find?_map, Option.map_map, Option.map_map]
  have e : ys.find? (fun j => decide (bl j.tx = bl i.tx)) = ys.find? ((fun f => decide (wrt i.el.1 = wrt f.1)) ∘ Itm.el) := by
    refine find_congr (fun j hj => ?_)
    show decide (bl j.tx = bl i.tx) = decide (wrt i.labs = wrt j.labs)
    unfold Itm.labs
    rw [← hi.lb.txt, ← (hy j hj).lb.txt, decide_eq_decide]
    exact ⟨fun h => h.symm, fun h => h.symm⟩
  rw [e]
  rfl
theorem wItm_els {op : Nat} {w : World} {ys : List Itm} (hy : ∀ j ∈ ys, ItmOk w j) : ∀ {xs : List Itm}, (∀ i ∈ xs, ItmOk w i) → (xs.filterMap (wItm op ys)).map Itm.el = (xs.map Itm.el).filterMap (vvF op (ys.map Itm.el))
  | [], _ => rfl
  | i :: xs, h => by
    have e1 := wItm_el (op := op) hy (h i (by simp))
    have e2 := wItm_els (op := op) hy (xs := xs) (fun j hj => h j (List.mem_cons_of_mem _ hj))
    rw [List.map_cons, List.filterMap_cons, List.filterMap_cons]
    rw [← e1]
    cases wItm op ys i with
    | none => exact e2
    | some z => simp only [Option.map_some, List.map_cons, e2]
theorem VecV.txs {w : World} {v : Value} {l : List El} {is : List Itm} (h : VecV w v l is) (hs : Srt l) : TxS is := by
  unfold Srt at hs
  rw [← h.els, List.pairwise_map] at hs
  unfold TxS
  refine List.Pairwise.imp_of_mem ?_ hs
  intro a b ha hb hab
  rw [(h.ok a ha).lb.txt, (h.ok b hb).lb.txt]
  exact hab
set_option linter.unusedSimpArgs false in
set_option maxRecDepth 100000 in
set_option maxHeartbeats 8000000 in
theorem with_any (op : Nat) (hop : op ≤ 3) (v y : Value) (l m : List El) (is ys : List Itm) (w : World) (hv : VecV w v l is) (hy : VecV w y m ys) (hsm : Srt m) :
    Calls Tryz.prog 168 #[v, y, .int .i64 (op + 1 : Nat)] w fun e w' => ∃ v' is', e = .returned v' ∧ Hid (VecV w' v' (l.filterMap (vvF op m)) is') ∧ Below w.heap.size w w' := by
  obtain ⟨i0, hi, hz0, hz1, hz2⟩ := info_parts Tryz.infoItem
  obtain ⟨ra, rcp, rfl⟩ := own_shape hv.row
  obtain ⟨ya, ycp, rfl⟩ := own_shape hy.row
  have HV : Hid (VecV w (.slice ra is.length rcp) l is) := hv
  have HY : Hid (VecV w (.slice ya ys.length ycp) m ys) := hy
  have HTY : Hid (TxS ys) := hid (hy.txs hsm)
  have hrl : is.length ≤ 1000 := hv.len
  have hyl : ys.length ≤ 1000 := hy.len
  obtain ⟨oz, hoz⟩ : ∃ oz : Int, oz = ((op + 1 : Nat) : Int) := ⟨_, rfl⟩
  rw [← hoz]
  have HOZ : Hid (oz = ((op + 1 : Nat) : Int)) := hoz
  clear hv hy hsm hoz
  go_enter Tryz.func168, Tryz.ntmps168
  go_wp2
  go_loopw [7, 14] (fun v i wr => ∃ (k : Nat) (os : List Itm), k ≤ is.length ∧ i = .int .i64 k ∧ os.length ≤ k ∧ wr.ownsRow w.heap.size 255 3 v os.length (encs os) ∧ Hid (os = (is.take k).filterMap (wItm op ys)) ∧ Hid ((∀ i ∈ is, ItmOk wr i) ∧ ∀ i ∈ ys, ItmOk wr i) ∧ Hid (Below w.heap.size w wr))
    (fun _ i _ => is.length - (intOf i).toNat)
  case atStart => exact ⟨0, [], Nat.zero_le _, rfl, Nat.zero_le _, World.ownsRow_nil _ _ _ _, hid rfl, hid ⟨HV.out.ok, HY.out.ok⟩, hid (Below.refl _ _)⟩
  case round =>
    rename World => wo
    obtain ⟨k, os, hk, rfl, hosk, hown, HOS, HOK, HB⟩ := hrel
    have hwr := HB.out.size
    by_cases hlt : k < is.length
    · have hg : ∃ g, ra = some ⟨g, 0, none⟩ := by
        obtain ⟨g, cp', h⟩ := own_some HV.out.row (by omega)
        injection h with h1; exact ⟨g, h1⟩
      obtain ⟨vg, rfl⟩ := hg
      have HVR := hid (own_below HV.out.row HB.out)
      obtain ⟨f1, f2, f3⟩ := encs_get is k hlt
      have d1 := own_cell HVR.out _ _ f1
      have d2 := own_cell HVR.out _ _ f2
      have d3 := own_cell HVR.out _ _ f3
      have HTK : Hid ((is.take (k + 1)).filterMap (wItm op ys) = (is.take k).filterMap (wItm op ys) ++ (wItm op ys is[k]).toList) := hid (by
        rw [List.take_succ_eq_append_getElem hlt]; exact fm_snoc _ _ _)
      have HSV : Hid (vOk (is[k]).v) := hid (HOK.out.1 _ (List.getElem_mem hlt)).vok
      generalize is[k] = s at *
      clear f1 f2 f3
      have hkz : (k : Int) < (is.length : Int) := by omega
      go_wp2_with fail
      refine calls_gen fun W hW => ?_
      have hbW : Below wo.heap.size wo W := by rw [hW]; exact (Below.refl _ _).alloc (Nat.le_refl _) _
      have HXW : Hid (BAt W wo.heap.size [.slice s.a s.n s.c, .string s.tx, .int .i64 s.v] 255) := hid (by rw [hW]; exact Go.Deep.blk_alloc_new _ _)
      have HBW : Hid (Below w.heap.size w W) := hid (HB.out.trans (hbW.mono hwr))
      have HNE := hid (fun q hq => (hown.lt q hq).2)
      have hownW := own_below hown hbW
      have HOKW : Hid ((∀ i ∈ is, ItmOk W i) ∧ ∀ i ∈ ys, ItmOk W i) := hid ⟨fun i hi => (HOK.out.1 i hi).below hbW, fun i hi => (HOK.out.2 i hi).below hbW⟩
      clear hW hbW hown HB HOK HVR d1 d2 d3
      refine (find_any _ ys s.a s.n s.c s.tx _ (own_below HY.out.row HBW.out) hyl HTY.out).mono ?_
      rintro e wr ⟨x, ok, rfl, HFD, hb5⟩
      have HX := hid (HXW.out.below hb5)
      have HBI : Hid (Below w.heap.size w wr) := hid (HBW.out.trans (hb5.mono HBW.out.size))
      have hownI := own_below hownW hb5
      have HOKI : Hid ((∀ i ∈ is, ItmOk wr i) ∧ ∀ i ∈ ys, ItmOk wr i) := hid ⟨fun i hi => (HOKW.out.1 i hi).below hb5, fun i hi => (HOKW.out.2 i hi).below hb5⟩
      clear hb5 HXW HBW hownW HOKW
      have hwI := HBI.out.size
      rcases HFD.out with ⟨rfl, j, hj, hfd, rfl⟩ | ⟨rfl, hfd⟩
      · have HTK2 : Hid ((is.take (k + 1)).filterMap (wItm op ys) = os ++ [{ s with v := twoV op s.v j.v }]) := hid (by
          rw [HTK.out, ← HOS.out]; unfold wItm; rw [hfd]; rfl)
        have HJV : Hid (vOk j.v) := hid (HOKI.out.2 j hj).vok
        clear hfd HFD hj
        go_upto_region 7 with fail
        have HSB : Hid (∀ w', BAt w' wo.heap.size [.slice s.a s.n s.c, .string s.tx, .int .i64 s.v] 255 → w'.cell? ⟨wo.heap.size, 0, none⟩ = some (.slice s.a s.n s.c) ∧ w'.cell? ⟨wo.heap.size, 1, none⟩ = some (.string s.tx) ∧ w'.cell? ⟨wo.heap.size, 2, none⟩ = some (.int .i64 s.v)) := hid (fun w' h1 => ⟨h1.cell 0, h1.cell 1, h1.cell 2⟩)
        refine beginT 11 (fun w' => w'.cell? ⟨wo.heap.size, 0, none⟩ = some (.slice s.a s.n s.c) ∧ w'.cell? ⟨wo.heap.size, 1, none⟩ = some (.string s.tx) ∧ w'.cell? ⟨wo.heap.size, 2, none⟩ = some (.int .i64 s.v)) (by kernel_rfl) (by exact HSB.out _ HX.out) (fun hHeld => ?_)
        refine takeT (i := 0) (d := 26) (v := ?v0) rfl rfl (by kernel_rfl) (fun _ _ _ h => h) (Or.inl ⟨by rfl, ?hy0⟩) hHeld ?rs0
        case hy0 => (intro w hSw; go_simp; try with_reducible rfl)
        case rs0 =>
        try simp only [Act.put, List.setIfInBounds_toArray, List.set_cons_zero, List.set_cons_succ]
        refine takeT (i := 1) (d := 27) (v := ?v1) rfl rfl (by kernel_rfl) (fun _ _ _ h => h) (Or.inl ⟨by rfl, ?hy1⟩) hHeld ?rs1
        case hy1 => (intro w hSw; go_simp; try with_reducible rfl)
        case rs1 =>
        try simp only [Act.put, List.setIfInBounds_toArray, List.set_cons_zero, List.set_cons_succ]
        refine takeT (i := 2) (d := 28) (v := ?v2) rfl rfl (by kernel_rfl) (fun _ _ _ h => h) (Or.inl ⟨by rfl, ?hy2⟩) hHeld ?rs2
        case hy2 => (intro w hSw; go_simp; try with_reducible rfl)
        case rs2 =>
        try simp only [Act.put, List.setIfInBounds_toArray, List.set_cons_zero, List.set_cons_succ]
        refine takeT (i := 3) (d := 29) (v := ?v3) rfl rfl (by kernel_rfl) (fun _ _ _ h => h) (Or.inl ⟨by rfl, ?hy3⟩) hHeld ?rs3
        case hy3 => (intro w hSw; go_simp; try with_reducible rfl)
        case rs3 =>
        try simp only [Act.put, List.setIfInBounds_toArray, List.set_cons_zero, List.set_cons_succ]
        refine takeT (i := 4) (d := 30) (v := ?v4) rfl rfl (by kernel_rfl) (fun _ _ _ h => h) (Or.inl ⟨by rfl, ?hy4⟩) hHeld ?rs4
        case hy4 => (intro w hSw; go_simp; try with_reducible rfl)
        case rs4 =>
        try simp only [Act.put, List.setIfInBounds_toArray, List.set_cons_zero, List.set_cons_succ]
        refine takeT (i := 5) (d := 31) (v := ?v5) rfl rfl (by kernel_rfl) (fun _ _ _ h => h) (Or.inl ⟨by rfl, ?hy5⟩) hHeld ?rs5
        case hy5 => (intro w hSw; go_simp; try with_reducible rfl)
        case rs5 =>
        try simp only [Act.put, List.setIfInBounds_toArray, List.set_cons_zero, List.set_cons_succ]
        refine takeT (i := 6) (d := 32) (v := ?v6) rfl rfl (by kernel_rfl) (fun _ _ _ h => h) (Or.inl ⟨by rfl, ?hy6⟩) hHeld ?rs6
        case hy6 => (intro w hSw; go_simp; try with_reducible rfl)
        case rs6 =>
        try simp only [Act.put, List.setIfInBounds_toArray, List.set_cons_zero, List.set_cons_succ]
        refine stepT (i := 7) (by kernel_rfl) rfl (fun K hK => ?_)
        go_simp
        rw [HOZ.out]
        refine (vapply_any op hop s.v j.v HSV.out HJV.out _).mono ?_
        rintro e w5 ⟨rfl, rfl⟩
        rw [← HOZ.out]
        go_simp
        refine hK.out _ _ (HSB.out _ HX.out) (fun hHeld => ?_)
        clear hK K
        try simp only [Act.put, List.setIfInBounds_toArray, List.set_cons_zero, List.set_cons_succ]
        refine takeT (i := 8) (d := 34) (v := ?v8) rfl rfl (by kernel_rfl) (fun _ _ _ h => h) (Or.inl ⟨by rfl, ?hy8⟩) hHeld ?rs8
        case hy8 => (intro w hSw; go_simp; try with_reducible rfl)
        case rs8 =>
        try simp only [Act.put, List.setIfInBounds_toArray, List.set_cons_zero, List.set_cons_succ]
        refine stepT (i := 9) (by kernel_rfl) rfl (fun K hK => ?_)
        have HBA : Hid (∀ o, Below wr.heap.size wr (wr.drew.alloc o)) := hid (fun o => ((Below.refl wr.heap.size wr).drew).alloc (Nat.le_refl _) _)
        go_simp
        refine hK.out _ _ (HSB.out _ (HX.out.below (HBA.out _))) (fun hHeld => ?_)
        clear hK K
        try simp only [Act.put, List.setIfInBounds_toArray, List.set_cons_zero, List.set_cons_succ]
        refine stepT (i := 10) (by kernel_rfl) rfl (fun K hK => ?_)
        refine step_append_own rfl (.tmp 26) (.tmp 35) 253 rfl w.heap.size 255 i0 _ 3 48 Tryz.underlying253 hi hz0 hz1 hz2 rfl (by decide) _ os.length (encs os) (by simp [Act.eval]) (own_below hownI (HBA.out _)) ⟨wr.heap.size, 0, none⟩ 1 1 [.slice s.a s.n s.c, .string s.tx, .int .i64 (twoV op s.v j.v)] (by simp [Act.eval]) rfl ?h2 ?h3 ?h4 ?h5 ?h6 ?_
        case h2 => exact cells_new rfl
        case h3 => intro u hu; simp at hu; rcases hu with rfl | rfl | rfl <;> rfl
        case h4 => unfold maxLen; omega
        case h5 => omega
        case h6 => simp; omega
        intro v6 w6 hown6 hgrow6 hwhere6
        have hkb := (KeepsB.below (HBA.out _) 255).trans (KeepsB.grown hgrow6 (own_below hownI (HBA.out _)))
        have HNI : Hid ((∀ i ∈ is, ItmOk w6 i) ∧ ∀ i ∈ ys, ItmOk w6 i) := hid ⟨fun i hi => (HOKI.out.1 i hi).kb hkb (by decide), fun i hi => (HOKI.out.2 i hi).kb hkb (by decide)⟩
        have HB6 : Hid (Below w.heap.size w w6) := hid ((HBI.out.trans ((HBA.out _).mono hwI)).grown hgrow6 (by simp; omega) (fun q hq => (hownI.lt q hq).1))
        have hown7 : w6.ownsRow w.heap.size 255 3 v6 (os ++ [{ s with v := twoV op s.v j.v }]).length (encs (os ++ [{ s with v := twoV op s.v j.v }])) := by
          rw [encs_append, List.length_append]; exact hown6
        have HX6 : Hid (BAt w6 wo.heap.size [.slice s.a s.n s.c, .string s.tx, .int .i64 s.v] 255) := hid ((HX.out.below (HBA.out _)).grown hgrow6 (fun e => by have := HNE.out _ e.symm; omega))
        refine hK.out _ _ (HSB.out _ HX6.out) (fun hHeld => ?_)
        clear hK K
        try simp only [Act.put, List.setIfInBounds_toArray, List.set_cons_zero, List.set_cons_succ]
        refine lastT (by kernel_rfl) (by kernel_rfl) rfl (by kernel_rfl) (fun K hK => ?_)
        go_simp
        refine hK.out _ _ ?_
        clear hK K hgrow6 hown6 hownI hwhere6 hkb
        go_wp2
        go_roundw
        case rel => exact ⟨k + 1, _, by omega, by go_num, by simp; omega, hown7, hid HTK2.out.symm, HNI, HB6⟩
        case measure => simp [intOf]; omega
      · have HTK2 : Hid (os = (is.take (k + 1)).filterMap (wItm op ys)) := hid (by
          rw [HTK.out, ← HOS.out]; unfold wItm; rw [hfd]; simp)
        clear hfd HFD
        go_wp2
        go_roundw
        case rel => exact ⟨k + 1, os, by omega, by go_num, by omega, hownI, HTK2, HOKI, HBI⟩
        case measure => simp [intOf]; omega
    · obtain rfl : k = is.length := by omega
      have HVV : Hid (VecV wo _ (l.filterMap (vvF op m)) os) := hid (by
        have e := HOS.out
        rw [List.take_length] at e
        refine ⟨hown.mono (Nat.zero_le _), by rw [e, wItm_els HOK.out.2 HOK.out.1, HV.out.els, HY.out.els], fun i hi => ?_, by omega⟩
        rw [e] at hi
        obtain ⟨z, hz, hzi⟩ := List.mem_filterMap.1 hi
        unfold wItm at hzi
        obtain ⟨q, hq, rfl⟩ := Option.map_eq_some_iff.1 hzi
        exact ⟨(HOK.out.1 z hz).lb, twoV_ok op _ _ (HOK.out.1 z hz).vok⟩)
      clear hown
      go_wp2
      go_ret
      exact ⟨_, _, rfl, HVV, HB.out⟩
end Go.Proofs.YtpbemaaghbbocaaGreatDoor

/- Parts. -/
import Derived.Test.YtpbemaaghbbocaaGreatDoorA27
namespace Go.Proofs.YtpbemaaghbbocaaGreatDoor
open Go.RowKit LS
theorem asSS (v : Value) (w : World) : (Instr.typeAssert (.iface 251 v) 191 251 true).run Tryz.prog w = .ok (.tuple #[v, .bool true]) w := by kernel_rfl
theorem asVS (v : Value) (w : World) : (Instr.typeAssert (.iface 253 v) 191 251 true).run Tryz.prog w = .ok (.tuple #[.int .i64 0, .bool false]) w := by kernel_rfl
theorem asVV (v : Value) (w : World) : (Instr.typeAssert (.iface 253 v) 191 253 true).run Tryz.prog w = .ok (.tuple #[v, .bool true]) w := by kernel_rfl
set_option maxHeartbeats 1000000 in
theorem neg1_any (x : Int) (hx : vOk x) (w : World) : Calls Tryz.prog 164 #[.int .i64 x] w fun e w' => e = .returned (.int .i64 (-x)) ∧ Below w.heap.size w w' := by
  unfold vOk at hx
  go_enter Tryz.func164, Tryz.ntmps164
  go_wp2
  go_ret
  exact ⟨rfl, Below.refl _ _⟩
theorem neg_vOk {x : Int} (h : vOk x) : vOk (-x) := by unfold vOk at *; omega
set_option maxHeartbeats 2000000 in
theorem pneg_any (v : Value) (V : VV) (w : World) (h : ValP w v V) : Calls Tryz.prog 125 #[v] w fun e w' => ∃ v', e = .returned v' ∧ Hid (ValP w' v' (negV V)) ∧ Below w.heap.size w w' := by
  cases V with
  | sc n =>
    obtain ⟨rfl, hn⟩ := h
    have HN : Hid (vOk (-n)) := hid (neg_vOk hn)
    have h1 := asSS (.int .i64 n)
    unfold vOk at hn
    go_enter Tryz.func125, Tryz.ntmps125
    go_wp2
    go_ret
    exact ⟨_, rfl, hid ⟨rfl, HN.out⟩, Below.refl _ _⟩
  | vec l =>
    obtain ⟨s, is, rfl, hv⟩ := h
    have HV : Hid (VecV w s l is) := hv
    have h1 := asVS s
    have h2 := asVV s
    have eg : ∀ args w, (callFunc 164 args).run Tryz.prog w = .ok (.enter 164 args) w := enters_of Tryz.func164 (by kernel_rfl) rfl
    have HE := hid (each_any s l is 164 #[] (fun x => -x) w HV.out eg (fun W _ x hx => neg1_any x hx W) (fun x hx => neg_vOk hx))
    clear hv eg
    go_enter Tryz.func125, Tryz.ntmps125
    go_wp2_with (go_at_call 163; refine HE.out.mono ?_; rintro e w5 ⟨v', is', rfl, HV5, hb5⟩)
    go_ret
    exact ⟨_, rfl, hid ⟨v', is', rfl, HV5.out⟩, hb5⟩
set_option maxHeartbeats 2000000 in
theorem ar1_any (op : Nat) (hop : op ≤ 3) (a x : Int) (ha : vOk a) (hx : vOk x) (b1 b2 : Nat) (w : World) (h1 : w.cell? ⟨b1, 0, none⟩ = some (.int .i64 (op + 1 : Nat))) (h2 : w.cell? ⟨b2, 0, none⟩ = some (.int .i64 a)) : Calls Tryz.prog 166 #[.int .i64 x, .pointer (some ⟨b1, 0, none⟩), .pointer (some ⟨b2, 0, none⟩)] w fun e w' => e = .returned (.int .i64 (twoV op a x)) ∧ Below w.heap.size w w' := by
  obtain ⟨oz, hoz⟩ : ∃ oz : Int, oz = ((op + 1 : Nat) : Int) := ⟨_, rfl⟩
  rw [← hoz] at h1
  have HA : Hid (∀ W, Calls Tryz.prog 165 #[.int .i64 oz, .int .i64 a, .int .i64 x] W fun e w' => e = .returned (.int .i64 (twoV op a x)) ∧ w' = W) := hid (fun W => by rw [hoz]; exact vapply_any op hop a x ha hx W)
  clear ha hx hoz
  go_enter Tryz.func166, Tryz.ntmps166
  go_wp2_with (go_at_call 165; refine (HA.out _).mono ?_; rintro e w' ⟨rfl, rfl⟩)
  go_ret
  exact ⟨rfl, Below.refl _ _⟩
set_option maxHeartbeats 2000000 in
theorem ar2_any (op : Nat) (hop : op ≤ 3) (a x : Int) (ha : vOk a) (hx : vOk x) (b1 b2 : Nat) (w : World) (h1 : w.cell? ⟨b1, 0, none⟩ = some (.int .i64 (op + 1 : Nat))) (h2 : w.cell? ⟨b2, 0, none⟩ = some (.int .i64 a)) : Calls Tryz.prog 167 #[.int .i64 x, .pointer (some ⟨b1, 0, none⟩), .pointer (some ⟨b2, 0, none⟩)] w fun e w' => e = .returned (.int .i64 (twoV op x a)) ∧ Below w.heap.size w w' := by
  obtain ⟨oz, hoz⟩ : ∃ oz : Int, oz = ((op + 1 : Nat) : Int) := ⟨_, rfl⟩
  rw [← hoz] at h1
  have HA : Hid (∀ W, Calls Tryz.prog 165 #[.int .i64 oz, .int .i64 x, .int .i64 a] W fun e w' => e = .returned (.int .i64 (twoV op x a)) ∧ w' = W) := hid (fun W => by rw [hoz]; exact vapply_any op hop x a hx ha W)
  clear ha hx hoz
  go_enter Tryz.func167, Tryz.ntmps167
  go_wp2_with (go_at_call 165; refine (HA.out _).mono ?_; rintro e w' ⟨rfl, rfl⟩)
  go_ret
  exact ⟨rfl, Below.refl _ _⟩
theorem two_boxG (w : World) (x y : Value) (s t : TypeId) : BAt ((w.alloc (.cells #[x] s)).alloc (.cells #[y] t)) w.heap.size [x] s ∧ BAt ((w.alloc (.cells #[x] s)).alloc (.cells #[y] t)) (w.heap.size + 1) [y] t := by
  refine ⟨(((Below.refl _ _).alloc (Nat.le_refl _) _).block _ (by simp)).trans (Go.Deep.blk_alloc_new _ _), ?_⟩
  have := Go.Deep.blk_alloc_new (w.alloc (.cells #[x] s)) (.cells #[y] t)
  rw [Go.Deep.nblk_alloc] at this
  exact this
set_option maxHeartbeats 4000000 in
theorem parith_any (op : Nat) (hop : op ≤ 3) (x y : Value) (X Y : VV) (w : World) (hx : ValP w x X) (hy : ValP w y Y) (hsy : VOk 1000 Y) : Calls Tryz.prog 127 #[.int .i64 (op + 1 : Nat), x, y] w fun e w' => ∃ v', e = .returned v' ∧ Hid (ValP w' v' (arithV op X Y)) ∧ Below w.heap.size w w' := by
  obtain ⟨oz, hoz⟩ : ∃ oz : Int, oz = ((op + 1 : Nat) : Int) := ⟨_, rfl⟩
  rw [← hoz]
  have HOZ : Hid (oz = ((op + 1 : Nat) : Int)) := hoz
  clear hoz
  have eg1 : ∀ args w, (callFunc 166 args).run Tryz.prog w = .ok (.enter 166 args) w := enters_of Tryz.func166 (by kernel_rfl) rfl
  have eg2 : ∀ args w, (callFunc 167 args).run Tryz.prog w = .ok (.enter 167 args) w := enters_of Tryz.func167 (by kernel_rfl) rfl
  have EG1 : Hid _ := hid eg1
  have EG2 : Hid _ := hid eg2
  clear eg1 eg2
  cases X with
  | sc a =>
    obtain ⟨rfl, ha⟩ := hx
    have h1 := asSS (.int .i64 a)
    cases Y with
    | sc b =>
      obtain ⟨rfl, hb⟩ := hy
      have h2 := asSS (.int .i64 b)
      have HA : Hid (∀ W, Calls Tryz.prog 165 #[.int .i64 oz, .int .i64 a, .int .i64 b] W fun e w' => e = .returned (.int .i64 (twoV op a b)) ∧ w' = W) := hid (fun W => by rw [HOZ.out]; exact vapply_any op hop a b ha hb W)
      have HVO : Hid (vOk (twoV op a b)) := hid (twoV_ok op a b ha)
      clear ha hb
      go_enter Tryz.func127, Tryz.ntmps127
      go_wp2_with (go_at_call 165; refine (HA.out _).mono ?_; rintro e w' ⟨rfl, rfl⟩)
      go_ret
      exact ⟨_, rfl, hid ⟨rfl, HVO.out⟩, (by repeat (first | exact Below.refl _ _ | assumption | refine Below.alloc ?_ (by first | omega | (simp; omega) | simp) _ | refine Below.setCell ?_ (by first | omega | (simp; omega) | simp) _ | refine below_drewN' ?_ _ | refine Below.drew ?_))⟩
    | vec m =>
      obtain ⟨s, is, rfl, hv⟩ := hy
      have HV : Hid (VecV w s m is) := hv
      have HA : Hid (vOk a) := ha
      have h2 := asVS s
      have h3 := asVV s
      clear hv ha
      go_enter Tryz.func127, Tryz.ntmps127
      go_wp2_with fail
      refine calls_gen fun W hW => ?_
      have hbW : Below w.heap.size w W := by rw [hW]; exact ((Below.refl _ _).alloc (Nat.le_refl _) _).alloc (by simp) _
      have HBX : Hid (W.cell? ⟨w.heap.size, 0, none⟩ = some (.int .i64 oz) ∧ W.cell? ⟨w.heap.size + 1, 0, none⟩ = some (.int .i64 a)) := hid (by rw [hW]; obtain ⟨g1, g2⟩ := two_boxG w (.int .i64 oz) (.int .i64 a) 144 251; exact ⟨g1.cell 0, g2.cell 0⟩)
      clear hW
      refine (each_any s m is 166 #[.pointer (some ⟨w.heap.size, 0, none⟩), .pointer (some ⟨w.heap.size + 1, 0, none⟩)] (fun z => twoV op a z) W (HV.out.below hbW) EG1.out (fun W' hW' z hz => ar1_any op hop a z HA.out hz _ _ W' (by rw [← HOZ.out]; exact (KeepsC.below hW').cell HBX.out.1) ((KeepsC.below hW').cell HBX.out.2)) (fun z _ => twoV_ok op a z HA.out)).mono ?_
      rintro e w5 ⟨v', is', rfl, HV5, hb5⟩
      have hb6 := hbW.trans (hb5.mono hbW.size)
      go_wp2
      go_ret
      exact ⟨_, rfl, hid ⟨v', is', rfl, HV5.out⟩, hb6⟩
  | vec l =>
    obtain ⟨s, is, rfl, hv⟩ := hx
    have HV : Hid (VecV w s l is) := hv
    have h1 := asVS s
    have h2 := asVV s
    clear hv
    cases Y with
    | sc b =>
      obtain ⟨rfl, hb⟩ := hy
      have h3 := asSS (.int .i64 b)
      have HA : Hid (vOk b) := hb
      clear hb
      go_enter Tryz.func127, Tryz.ntmps127
      go_wp2_with fail
      refine calls_gen fun W hW => ?_
      have hbW : Below w.heap.size w W := by rw [hW]; exact ((Below.refl _ _).alloc (Nat.le_refl _) _).alloc (by simp) _
      have HBX : Hid (W.cell? ⟨w.heap.size, 0, none⟩ = some (.int .i64 oz) ∧ W.cell? ⟨w.heap.size + 1, 0, none⟩ = some (.int .i64 b)) := hid (by rw [hW]; obtain ⟨g1, g2⟩ := two_boxG w (.int .i64 oz) (.int .i64 b) 144 251; exact ⟨g1.cell 0, g2.cell 0⟩)
      clear hW
      refine (each_any s l is 167 #[.pointer (some ⟨w.heap.size, 0, none⟩), .pointer (some ⟨w.heap.size + 1, 0, none⟩)] (fun z => twoV op z b) W (HV.out.below hbW) EG2.out (fun W' hW' z hz => ar2_any op hop b z HA.out hz _ _ W' (by rw [← HOZ.out]; exact (KeepsC.below hW').cell HBX.out.1) ((KeepsC.below hW').cell HBX.out.2)) (fun z hz => twoV_ok op z b hz)).mono ?_
      rintro e w5 ⟨v', is', rfl, HV5, hb5⟩
      have hb6 := hbW.trans (hb5.mono hbW.size)
      go_wp2
      go_ret
      exact ⟨_, rfl, hid ⟨v', is', rfl, HV5.out⟩, hb6⟩
    | vec m =>
      obtain ⟨s2, is2, rfl, hv2⟩ := hy
      have HV2 : Hid (VecV w s2 m is2) := hv2
      have HSM : Hid (Srt m) := hid hsy.1
      have h3 := asVS s2
      have h4 := asVV s2
      clear hv2 hsy
      go_enter Tryz.func127, Tryz.ntmps127
      go_wp2_with fail
      refine calls_gen fun W hW => ?_
      have hbW : Below w.heap.size w W := by rw [hW]; exact (Below.refl _ _).alloc (Nat.le_refl _) _
      clear hW
      rw [HOZ.out]
      refine (with_any op hop s s2 l m is is2 W (HV.out.below hbW) (HV2.out.below hbW) HSM.out).mono ?_
      rw [← HOZ.out]
      rintro e w5 ⟨v', is', rfl, HV5, hb5⟩
      have hb6 := hbW.trans (hb5.mono hbW.size)
      have HV6 : Hid (ValP w5 (.iface 253 v') (arithV op (.vec l) (.vec m))) := hid (by rw [arith_vvF op l m HSM.out]; exact ⟨v', is', rfl, HV5.out⟩)
      go_wp2
      go_ret
      exact ⟨_, rfl, HV6, hb6⟩
def NmS (bs : List ByteArray) : Prop := bs.Pairwise fun a b => Op.bytesLess (bl b) (bl a) = false
theorem NmS.le {bs : List ByteArray} (h : NmS bs) {i j : Nat} (hi : i ≤ j) (hj : j < bs.length) : Op.bytesLess (bl bs[j]) (bl (bs[i]'(by omega))) = false := by
  rcases Nat.lt_or_ge i j with h1 | h1
  · exact List.pairwise_iff_getElem.1 h i j (by omega) hj h1
  · obtain rfl : i = j := by omega
    exact bls_irrefl _
theorem bls_le_lt {x y z : List UInt8} (h1 : Op.bytesLess y x = false) (h2 : Op.bytesLess y z = true) : Op.bytesLess x z = true := by
  cases h3 : Op.bytesLess x y with
  | true => exact bls_trans _ _ _ h3 h2
  | false => rw [bls_tri _ _ h3 h1]; exact h2
theorem flatS_get (bs : List ByteArray) (j : Nat) (hj : j < bs.length) : (flatS bs)[j]? = some (.string bs[j]) := by
  unfold flatS; rw [List.getElem?_map, List.getElem?_eq_getElem hj]; rfl
theorem nm_mem {bs : List ByteArray} (hs : NmS bs) {y : List UInt8} {k : Nat} (h1 : ∀ j (h : j < bs.length), j < k → Op.bytesLess (bl bs[j]) y = true) (h2 : ∀ j (h : j < bs.length), k ≤ j → Op.bytesLess (bl bs[j]) y = false) (hm : y ∈ bs.map bl) : ∃ h : k < bs.length, bl bs[k] = y := by
  obtain ⟨b, hb, rfl⟩ := List.mem_map.1 hm
  obtain ⟨j, hj, rfl⟩ := List.mem_iff_getElem.1 hb
  have hkj : k ≤ j := by
    rcases Nat.lt_or_ge j k with h | h
    · have := h1 j hj h
      rw [bls_irrefl] at this; cases this
    · exact h
  exact ⟨by omega, bls_tri _ _ (h2 k (by omega) (Nat.le_refl _)) (hs.le hkj hj)⟩
set_option maxRecDepth 100000 in
set_option maxHeartbeats 8000000 in
theorem bsn_any (v : Value) (bs : List ByteArray) (tx : ByteArray) (w : World) (hrow : w.ownsRow 0 9 1 v bs.length (flatS bs)) (hlen : bs.length ≤ 100000) (hs : NmS bs) :
    Calls Tryz.prog 197 #[v, .string tx] w fun e w' => ∃ k : Nat, e = .returned (.tuple #[.int .i64 k, .bool (decide (bl tx ∈ bs.map bl))]) ∧ w' = w := by
  obtain ⟨ra, rcp, rfl⟩ := own_shape hrow
  have HR : Hid (w.ownsRow 0 9 1 (.slice ra bs.length rcp) bs.length (flatS bs)) := hrow
  have HS : Hid (NmS bs) := hs
  obtain ⟨fd, hfd⟩ : ∃ fd, fd = decide (bl tx ∈ bs.map bl) := ⟨_, rfl⟩
  rw [← hfd]
  have HFD : Hid (fd = decide (bl tx ∈ bs.map bl)) := hfd
  clear hrow hs hfd
  go_enter Tryz.func197, Tryz.ntmps197
  go_wp2
  go_loopg [7, 8] bs.length (fun kx s5 s6 wr => ∃ lo hi : Nat, s5 = .int .i64 lo ∧ s6 = .int .i64 hi ∧ lo ≤ hi ∧ hi ≤ bs.length ∧ hi - lo ≤ kx ∧ wr = w ∧ Hid ((∀ j (h : j < bs.length), j < lo → Op.bytesLess (bl bs[j]) (bl tx) = true) ∧ (∀ j (h : j < bs.length), hi ≤ j → Op.bytesLess (bl bs[j]) (bl tx) = false)))
  case atStart => exact ⟨0, bs.length, rfl, rfl, Nat.zero_le _, Nat.le_refl _, by omega, rfl, hid ⟨fun j _ h => absurd h (Nat.not_lt_zero _), fun j h h' => by omega⟩⟩
  case round =>
    obtain ⟨lo, hi, rfl, rfl, hlh, hin, hg, rfl, I⟩ := hrel
    by_cases hlt : lo < hi
    · have hml : (lo + hi) / 2 < bs.length := by omega
      have hg : ∃ g, ra = some ⟨g, 0, none⟩ := by
        obtain ⟨g, cp', h⟩ := own_some HR.out (by omega)
        injection h with h1; exact ⟨g, h1⟩
      obtain ⟨g, rfl⟩ := hg
      have d1 := own_cell HR.out _ _ (flatS_get bs ((lo + hi) / 2) hml)
      have hmz : (((lo + hi) / 2 : Nat) : Int) = ((lo : Int) + (hi : Int)) / 2 := by omega
      have hmn : (((lo : Int) + (hi : Int)) / 2).toNat = (lo + hi) / 2 := by omega
      have hc := less_any bs[(lo + hi) / 2] tx
      have HM1 : Hid (Op.bytesLess (bl bs[(lo + hi) / 2]) (bl tx) = true → ∀ i (h : i < bs.length), i ≤ (lo + hi) / 2 → Op.bytesLess (bl bs[i]) (bl tx) = true) := hid (fun hl i h h' => bls_le_lt (HS.out.le h' hml) hl)
      have HM2 : Hid (Op.bytesLess (bl bs[(lo + hi) / 2]) (bl tx) = false → ∀ i (h : i < bs.length), (lo + hi) / 2 ≤ i → Op.bytesLess (bl bs[i]) (bl tx) = false) := hid (fun hl i h h' => by
        cases hb : Op.bytesLess (bl bs[i]) (bl tx) with
        | false => rfl
        | true => rw [bls_le_lt (HS.out.le h' h) hb] at hl; cases hl)
      generalize bs[(lo + hi) / 2] = x at *
      cases hx : Op.bytesLess (bl x) (bl tx) with
      | true =>
        rw [hx] at hc
        have HX := hid (HM1.out hx)
        clear hx
        go_wp2_with (go_at_call 223; refine (hc _).mono ?_; rintro e w' ⟨rfl, rfl⟩)
        go_roundg (hi - ((lo + hi) / 2 + 1))
        case measure => omega
        case rel =>
          exact ⟨(lo + hi) / 2 + 1, hi, by rw [show ((lo : Int) + (hi : Int)) / 2 + 1 = (((lo + hi) / 2 + 1 : Nat) : Int) by omega], rfl, by omega, hin, Nat.le_refl _, rfl, hid ⟨fun j h h' => HX.out j h (by omega), I.out.2⟩⟩
      | false =>
        rw [hx] at hc
        have HX := hid (HM2.out hx)
        clear hx
        go_wp2_with (go_at_call 223; refine (hc _).mono ?_; rintro e w' ⟨rfl, rfl⟩)
        go_roundg ((lo + hi) / 2 - lo)
        case measure => omega
        case rel =>
          exact ⟨lo, (lo + hi) / 2, rfl, by rw [show ((lo : Int) + (hi : Int)) / 2 = (((lo + hi) / 2 : Nat) : Int) by omega], by omega, by omega, Nat.le_refl _, rfl, hid ⟨I.out.1, HX.out⟩⟩
    · obtain rfl : hi = lo := by omega
      by_cases hll : hi < bs.length
      · have hg : ∃ g, ra = some ⟨g, 0, none⟩ := by
          obtain ⟨g, cp', h⟩ := own_some HR.out (by omega)
          injection h with h1; exact ⟨g, h1⟩
        obtain ⟨g, rfl⟩ := hg
        have d1 := own_cell HR.out _ _ (flatS_get bs hi hll)
        have he : (bs[hi].toList == tx.toList) = fd := by
          rw [bl_beqG, HFD.out, decide_eq_decide]
          constructor
          · intro h; rw [← h]; exact List.mem_map.2 ⟨_, List.getElem_mem hll, rfl⟩
          · intro h; exact (nm_mem HS.out I.out.1 I.out.2 h).2
        clear HFD
        generalize bs[hi] = x at *
        cases fd
        · go_wp2_with (go_at_call 227; refine (nan2_any _ _).mono ?_; rintro e w' ⟨rfl, rfl⟩)
          go_ret2
          exact ⟨hi, rfl, rfl⟩
        · go_wp2_with (go_at_call 227; refine (nan2_any _ _).mono ?_; rintro e w' ⟨rfl, rfl⟩)
          go_ret2
          exact ⟨hi, rfl, rfl⟩
      · have he : fd = false := by
          rw [HFD.out, decide_eq_false_iff_not]
          intro h
          exact hll (nm_mem HS.out I.out.1 I.out.2 h).1
        subst he
        go_wp2
        go_ret2
        exact ⟨hi, rfl, rfl⟩
theorem keptV_snoc (l : List Lab) (p : Lab) (ns : List (List UInt8)) : keptV (l ++ [p]) ns = if p.1 ∈ ns then keptV l ns ++ [p] else keptV l ns := by
  unfold keptV
  rw [List.filter_append]
  split
  · rename_i h; rw [List.filter_cons_of_pos (by simpa using h)]; rfl
  · rename_i h; rw [List.filter_cons_of_neg (by simpa using h)]; simp
set_option maxRecDepth 100000 in
set_option maxHeartbeats 8000000 in
theorem lamong_any (a : Option Addr) (n c : Nat) (tx : ByteArray) (qs : List (ByteArray × ByteArray)) (nv : Value) (bs : List ByteArray) (w : World) (hl : LbOk w a n c tx qs) (hn : w.ownsRow 0 9 1 nv bs.length (flatS bs)) (hbl : bs.length ≤ 100000) (hs : NmS bs) :
    Calls Tryz.prog 172 #[.agg #[.slice a n c, .string tx], nv] w fun e w' => ∃ (a' : Option Addr) (n' c' : Nat) (tx' : ByteArray) (qs' : List (ByteArray × ByteArray)), e = .returned (.agg #[.slice a' n' c', .string tx']) ∧ Hid (LbOk w' a' n' c' tx' qs' ∧ qs'.map blP = keptV (qs.map blP) (bs.map bl)) ∧ Below w.heap.size w w' := by
  obtain ⟨i0, hi, hz0, hz1, hz2⟩ := info_parts Tryz.infoLabel
  have hqn : qs.length = n := by have := hl.row.1.1; rw [flatL_length] at this; omega
  subst hqn
  obtain ⟨na, ncp, rfl⟩ := own_shape hn
  have HL : Hid (LbOk w a qs.length c tx qs) := hl
  have hn6 : qs.length ≤ 6001 := hl.row.2.1
  have HBS : Hid (∀ W, Below w.heap.size w W → ∀ nm : ByteArray, Calls Tryz.prog 197 #[.slice na bs.length ncp, .string nm] W fun e w' => ∃ k : Nat, e = .returned (.tuple #[.int .i64 k, .bool (decide (bl nm ∈ bs.map bl))]) ∧ w' = W) := hid (fun W hW nm => bsn_any _ bs nm W (own_below hn hW) hbl hs)
  clear hl hn hs
  go_enter Tryz.func172, Tryz.ntmps172
  go_wp2
  go_loopw [5, 13] (fun v i wr => ∃ (k : Nat) (os : List (ByteArray × ByteArray)), k ≤ qs.length ∧ i = .int .i64 k ∧ os.length ≤ k ∧ wr.ownsRow (w.heap.size + 2) 320 2 v os.length (flatL os) ∧ Hid (os.map blP = keptV ((qs.take k).map blP) (bs.map bl) ∧ ∀ p ∈ os, p ∈ qs) ∧ Hid (BAt wr w.heap.size [.slice a qs.length c, .string tx] 196) ∧ Hid (BAt wr (w.heap.size + 1) [.slice none 0 0, .string ⟨#[]⟩] 196) ∧ Hid (Below w.heap.size w wr))
    (fun _ i _ => qs.length - (intOf i).toNat)
  case atStart =>
    obtain ⟨g1, g2⟩ : BAt ((w.alloc (.cells #[.slice a qs.length c, .string tx] 196)).alloc (.cells #[.slice none 0 0, .string ⟨#[]⟩] 196)) w.heap.size [.slice a qs.length c, .string tx] 196 ∧ BAt ((w.alloc (.cells #[.slice a qs.length c, .string tx] 196)).alloc (.cells #[.slice none 0 0, .string ⟨#[]⟩] 196)) (w.heap.size + 1) [.slice none 0 0, .string ⟨#[]⟩] 196 := by
      refine ⟨(((Below.refl _ _).alloc (Nat.le_refl _) _).block _ (by simp)).trans (Go.Deep.blk_alloc_new _ _), ?_⟩
      have := Go.Deep.blk_alloc_new (w.alloc (.cells #[.slice a qs.length c, .string tx] 196)) (.cells #[.slice none 0 0, .string ⟨#[]⟩] 196)
      rw [Go.Deep.nblk_alloc] at this
      exact this
    exact ⟨0, [], Nat.zero_le _, rfl, Nat.zero_le _, World.ownsRow_nil _ _ _ _, hid ⟨rfl, fun p hp => by cases hp⟩, hid g1, hid g2, hid (((Below.refl _ _).alloc (Nat.le_refl _) _).alloc (by simp) _)⟩
  case round =>
    rename World => wo
    obtain ⟨k, os, hk, rfl, hosk, hown, HOS, HB0, HB1, HB⟩ := hrel
    have hwr := HB.out.size
    have hw0 := HB0.out.lt
    have hw1 := HB1.out.lt
    by_cases hlt : k < qs.length
    · have hg : ∃ g, a = some ⟨g, 0, none⟩ := by
        obtain ⟨g, cp', h⟩ := own_some HL.out.row.1 (by omega)
        injection h with h1; exact ⟨g, h1⟩
      obtain ⟨g, rfl⟩ := hg
      have HVR := hid (own_below HL.out.row.1 HB.out)
      obtain ⟨f1, f2⟩ := flatL_get qs k
      rw [List.getElem?_eq_getElem hlt] at f1 f2
      have d1 := own_cell HVR.out _ _ f1
      have d2 := own_cell HVR.out _ _ f2
      have HTK : Hid (keptV ((qs.take (k + 1)).map blP) (bs.map bl) = if bl (qs[k]).1 ∈ bs.map bl then keptV ((qs.take k).map blP) (bs.map bl) ++ [blP qs[k]] else keptV ((qs.take k).map blP) (bs.map bl)) := hid (by
        rw [List.take_succ_eq_append_getElem hlt, List.map_append]; exact keptV_snoc _ _ _)
      have HMQ : Hid (qs[k] ∈ qs) := hid (List.getElem_mem hlt)
      generalize qs[k] = q at *
      obtain ⟨x, y⟩ := q
      simp only at d1 d2
      clear f1 f2 HVR
      have hkz : (k : Int) < (qs.length : Int) := by omega
      go_wp2_with fail
      refine calls_gen fun W hW => ?_
      have hbW : Below wo.heap.size wo W := by rw [hW]; exact (Below.refl _ _).alloc (Nat.le_refl _) _
      have HX : Hid (BAt W wo.heap.size [.string x, .string y] 320) := hid (by rw [hW]; exact Go.Deep.blk_alloc_new _ _)
      have HBW : Hid (Below w.heap.size w W) := hid (HB.out.trans (hbW.mono hwr))
      have HNE := hid (fun q hq => (hown.lt q hq).2)
      have hownW := own_below hown hbW
      have HB0W := hid (HB0.out.below hbW)
      have HB1W := hid (HB1.out.below hbW)
      clear hW hbW hown HB d1 d2 HB0 HB1
      refine (HBS.out W HBW.out x).mono ?_
      rintro e w5 ⟨kk, rfl, rfl⟩
      have hwx := HX.out.lt
      by_cases hm : bl x ∈ bs.map bl
      · rw [decide_eq_true hm]
        have HTK2 : Hid ((os ++ [(x, y)]).map blP = keptV ((qs.take (k + 1)).map blP) (bs.map bl) ∧ ∀ p ∈ os ++ [(x, y)], p ∈ qs) := hid ⟨by rw [HTK.out, if_pos hm, List.map_append, HOS.out.1]; rfl, fun p hp => by
          rcases List.mem_append.1 hp with hp | hp
          · exact HOS.out.2 p hp
          · rw [List.mem_singleton] at hp; subst hp; exact HMQ.out⟩
        clear hm
        have x0 := HX.out.cell 0
        have x1 := HX.out.cell 1
        simp only [List.getElem?_cons_zero, List.getElem?_cons_succ] at x0 x1
        go_wp2_with (at_builtin; refine wpList_append_own _ rfl (.tmp 25) (.tmp 27) 194 rfl (w.heap.size + 2) 320 i0 (.agg #[.string ByteArray.empty, .string ByteArray.empty]) 2 32 Tryz.underlying194 hi hz0 hz1 hz2 rfl (by decide) _ _ _ rfl (hownW.alloc _) ⟨w5.heap.size, 0, none⟩ 1 1 [.string x, .string y] rfl rfl ?c1 ?c2 ?c3 ?c4 ?c5 ?_)
        case c1 => exact cells_new rfl
        case c2 => intro u hu; simp at hu; rcases hu with rfl | rfl <;> rfl
        case c3 => unfold maxLen; omega
        case c4 => omega
        case c5 => simp; omega
        intro v6 w6 hown6 hgrow6 _
        have hbA : ∀ o, Below w5.heap.size w5 (w5.alloc o) := fun o => (Below.refl _ _).alloc (Nat.le_refl _) _
        have hkb := (KeepsB.below (hbA _) 320).trans (KeepsB.grown hgrow6 (hownW.alloc _))
        have HB6 : Hid (Below w.heap.size w w6) := hid ((HBW.out.alloc (by omega) _).grown hgrow6 (by simp; omega) (fun q hq => by have := (hownW.lt q hq).1; omega))
        have hown7 : w6.ownsRow (w.heap.size + 2) 320 2 v6 (os ++ [(x, y)]).length (flatL (os ++ [(x, y)])) := by
          rw [flatL_append, List.length_append]; exact hown6
        have HB06 : Hid (BAt w6 w.heap.size [.slice (some ⟨g, 0, none⟩) qs.length c, .string tx] 196) := hid (hkb _ _ _ _ (by decide) HB0W.out)
        have HB16 : Hid (BAt w6 (w.heap.size + 1) [.slice none 0 0, .string ⟨#[]⟩] 196) := hid (hkb _ _ _ _ (by decide) HB1W.out)
        clear hgrow6 hown6 hownW hkb x0 x1 hbA
        go_wp2
        go_roundw
        case rel => exact ⟨k + 1, _, by omega, by go_num, by simp; omega, hown7, HTK2, HB06, HB16, HB6⟩
        case measure => simp [intOf]; omega
      · rw [decide_eq_false hm]
        have HTK2 : Hid (os.map blP = keptV ((qs.take (k + 1)).map blP) (bs.map bl) ∧ ∀ p ∈ os, p ∈ qs) := hid ⟨by rw [HTK.out, if_neg hm]; exact HOS.out.1, HOS.out.2⟩
        clear hm
        go_wp2
        go_roundw
        case rel => exact ⟨k + 1, os, by omega, by go_num, by omega, hownW, HTK2, HB0W, HB1W, HBW⟩
        case measure => simp [intOf]; omega
    · obtain rfl : k = qs.length := by omega
      have HK : Hid (os.map blP = keptV (qs.map blP) (bs.map bl)) := hid (by have := HOS.out.1; rwa [List.take_length] at this)
      have HWF : Hid (LabsWf (os.map blP)) := hid (by rw [HK.out]; exact HL.out.wf.kept _)
      have HSZ : Hid (∀ p ∈ os, p.1.size ≤ 6000 ∧ p.2.size ≤ 6000) := hid (fun p hp => HL.out.row.2.2 p (HOS.out.2 p hp))
      obtain ⟨va, vcp, hva⟩ := own_shape hown
      subst hva
      have y0 := HB0.out.cell 0
      have y1 := HB0.out.cell 1
      have z0 := HB1.out.cell 0
      have z1 := HB1.out.cell 1
      have fz0 := HB1.out.frozen 0
      have fz1 := HB1.out.frozen 1
      simp only [List.getElem?_cons_zero, List.getElem?_cons_succ] at y0 y1 z0 z1
      by_cases hle : os.length = qs.length
      · have hez : ((os.length : Int) == (qs.length : Int)) = true := by simp [hle]
        have HEQ : Hid (qs.map blP = keptV (qs.map blP) (bs.map bl)) := hid (by
          unfold keptV
          refine (List.filter_eq_self.2 ?_).symm
          have h1 := HK.out
          have h2 : (keptV (qs.map blP) (bs.map bl)).length = (qs.map blP).length := by rw [← h1, List.length_map, List.length_map, hle]
          unfold keptV at h2
          exact List.length_filter_eq_length_iff.1 h2)
        have HLo : Hid (LbOk wo a qs.length c tx qs) := hid (HL.out.keepsC (KeepsC.below HB.out))
        have HLS : Hid (∀ x y, LbOk ((wo.setCell ⟨w.heap.size + 1, 0, none⟩ x).setCell ⟨w.heap.size + 1, 1, none⟩ y) a qs.length c tx qs) := hid (fun x y => ⟨⟨own_same' HLo.out.row.1 (fun j hj => by
          have hne : j ≠ w.heap.size + 1 := by rintro rfl; exact own_ne_block HLo.out.row.1 HB1.out (by decide) hj.symm
          rw [Go.Deep.blk_setCell_other _ _ _ _ hne, Go.Deep.blk_setCell_other _ _ _ _ hne]), HLo.out.row.2⟩, HLo.out.txt, HLo.out.wf⟩)
        clear hown
        go_wp2
        exact bodyPost_ret (v := .agg #[.slice a qs.length c, .string tx]) (by simp [results, Tryz.results172, go_sem, z0, z1]) rfl ⟨a, qs.length, c, tx, qs, rfl, hid ⟨HLS.out _ _, HEQ.out⟩, (HB.out.setCell (p := ⟨w.heap.size + 1, 0, none⟩) (by show w.heap.size ≤ w.heap.size + 1; omega) _).setCell (p := ⟨w.heap.size + 1, 1, none⟩) (by show w.heap.size ≤ w.heap.size + 1; omega) _⟩
      · have hez : ((os.length : Int) == (qs.length : Int)) = false := by rw [beq_eq_false_iff_ne]; omega
        have HRO : Hid (LabelRow wo 0 (.slice va os.length vcp) os.length os) := hid ⟨hown.mono (Nat.zero_le _), by omega, HSZ.out⟩
        clear hown
        go_wp2_with fail
        refine (of_any va os.length vcp _ os HRO.out).mono ?_
        rintro e w5 ⟨a', c', rfl, hr5, hb5⟩
        have HB15 := hid (HB1.out.below hb5)
        have HB5 : Hid (Below w.heap.size w w5) := hid (HB.out.trans (hb5.mono hwr))
        have HL5 : Hid (LbOk w5 a' os.length c' ⟨(labelsS os).toArray⟩ os) := hid ⟨hr5, by rw [labelsS_wrt]; rfl, HWF.out⟩
        have HLS : Hid (∀ x y, LbOk ((w5.setCell ⟨w.heap.size + 1, 0, none⟩ x).setCell ⟨w.heap.size + 1, 1, none⟩ y) a' os.length c' ⟨(labelsS os).toArray⟩ os) := hid (fun x y => ⟨⟨own_same' HL5.out.row.1 (fun j hj => by
          have hne : j ≠ w.heap.size + 1 := by rintro rfl; exact own_ne_block HL5.out.row.1 HB15.out (by decide) hj.symm
          rw [Go.Deep.blk_setCell_other _ _ _ _ hne, Go.Deep.blk_setCell_other _ _ _ _ hne]), HL5.out.row.2⟩, HL5.out.txt, HL5.out.wf⟩)
        clear y0 y1 z0 z1 fz0 fz1 hr5 hb5
        have z0 := HB15.out.cell 0
        have z1 := HB15.out.cell 1
        have fz0 := HB15.out.frozen 0
        have fz1 := HB15.out.frozen 1
        simp only [List.getElem?_cons_zero, List.getElem?_cons_succ] at z0 z1
        go_wp2
        exact bodyPost_ret (v := .agg #[.slice a' os.length c', .string ⟨(labelsS os).toArray⟩]) (by simp [results, Tryz.results172, go_sem, z0, z1]) rfl ⟨a', os.length, c', _, os, rfl, hid ⟨HLS.out _ _, HK.out⟩, (HB5.out.setCell (p := ⟨w.heap.size + 1, 0, none⟩) (by show w.heap.size ≤ w.heap.size + 1; omega) _).setCell (p := ⟨w.heap.size + 1, 1, none⟩) (by show w.heap.size ≤ w.heap.size + 1; omega) _⟩
end Go.Proofs.YtpbemaaghbbocaaGreatDoor

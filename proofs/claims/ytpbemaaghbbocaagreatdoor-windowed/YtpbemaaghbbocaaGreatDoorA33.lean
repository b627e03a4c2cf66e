/- Parts. -/
import Derived.Test.YtpbemaaghbbocaaGreatDoorA13
import Derived.Test.YtpbemaaghbbocaaGreatDoorA19
import Derived.Test.YtpbemaaghbbocaaGreatDoorAX
import Derived.Test.YtpbemaaghbbocaaGreatDoorA16
import Derived.WalkSmall
import Derived.Test.YtpbemaaghbbocaaGreatDoorA32
namespace Go.Proofs.YtpbemaaghbbocaaGreatDoor
open Go.RowKit LS
theorem at_below {T e : TypeId} {B b : Nat} {p : Value} {bs : List Value} {w w' : World} (h : Lib.BuilderAtF T e B b p bs w) (hb : Below w.heap.size w w') : Lib.BuilderAtF T e B b p bs w' := by
  obtain ⟨h1, v, h2, ⟨h3, h4⟩, h5⟩ := h
  refine ⟨h1, v, (hb.block b (Array.getElem?_eq_some_iff.1 h2).1).trans h2, ⟨h3, ?_⟩, h5⟩
  rcases h4 with h6 | ⟨g, cap, cur, fz, h6, h7, h8, h9⟩
  · exact Or.inl h6
  · exact Or.inr ⟨g, cap, cur, fz, h6, h7, (hb.block g (Array.getElem?_eq_some_iff.1 h8).1).trans h8, h9⟩
theorem bld_below {T e : TypeId} {B b : Nat} {bs : List Value} {w w' : World} (h : Lib.IsBuilderF T e B b bs w) (hb : Below w.heap.size w w') : Lib.IsBuilderF T e B b bs w' := by
  rcases h with h | h
  · exact Or.inl (at_below h hb)
  · exact Or.inr (at_below h hb)
theorem others_below {e : TypeId} {b : Option Nat} {w w' : World} (h : Below w.heap.size w w') : Lib.OthersKept e b w w' := fun k _ hk _ _ => (h.block k (Array.getElem?_eq_some_iff.1 hk).1).trans hk
structure WB (w : World) (B b : Nat) (l : List UInt8) : Prop where
  bd : Lib.IsBuilderF 101 5 B b (Lib.byteCells l) w
  le : B ≤ w.heap.size
structure WK (B b : Nat) (w w' : World) : Prop where
  low : Below B w w'
  kept : Lib.OthersKept 5 (some b) w w'
theorem WK.refl (B b : Nat) (w : World) : WK B b w w := ⟨Below.refl _ _, Lib.OthersKept.refl _ _ _⟩
theorem WK.trans {B b : Nat} {w1 w2 w3 : World} (h : WK B b w1 w2) (h' : WK B b w2 w3) : WK B b w1 w3 := ⟨h.low.trans h'.low, h.kept.trans h'.kept⟩
theorem WK.below {B b : Nat} {w w' : World} (h : Below w.heap.size w w') (hB : B ≤ w.heap.size) : WK B b w w' := ⟨h.mono hB, others_below h⟩
theorem WB.below {w w' : World} {B b : Nat} {l : List UInt8} (h : WB w B b l) (hb : Below w.heap.size w w') : WB w' B b l := ⟨bld_below h.bd hb, Nat.le_trans h.le hb.size⟩
theorem WB.ne {w : World} {B b : Nat} {l : List UInt8} (h : WB w B b l) : b < w.heap.size ∧ ∃ c, w.heap[b]? = some (.cells c 101 (0, 0)) := by
  rcases h.bd with h | h
  · obtain ⟨_, v, hb, _⟩ := h; exact ⟨(Array.getElem?_eq_some_iff.1 hb).1, _, hb⟩
  · obtain ⟨_, v, hb, _⟩ := h; exact ⟨(Array.getElem?_eq_some_iff.1 hb).1, _, hb⟩
theorem WK.block {w w' : World} {B b : Nat} {l : List UInt8} (hw : WB w B b l) (h : WK B b w w') {a : Nat} {c : Array Value} {t : TypeId} {fr : Nat × Nat} (ha : w.heap[a]? = some (.cells c t fr)) (h1 : t ≠ 101) (h2 : t ≠ 5) : w'.heap[a]? = some (.cells c t fr) := by
  refine h.kept a _ ha ?_ ?_
  · intro e
    injection e with e
    subst e
    obtain ⟨_, c', hb⟩ := hw.ne
    rw [hb] at ha
    injection ha with ha
    injection ha with _ ha
    exact h1 ha.symm
  · intro c' fz e
    injection e with _ e
    exact h2 e
theorem WK.bat {w w' : World} {B b : Nat} {l : List UInt8} (hw : WB w B b l) (h : WK B b w w') {a : Nat} {c : List Value} {t : TypeId} (ha : BAt w a c t) (h1 : t ≠ 101) (h2 : t ≠ 5) : BAt w' a c t := WK.block hw h ha h1 h2
theorem WK.own {w w' : World} {B b : Nat} {l : List UInt8} (hw : WB w B b l) (h : WK B b w w') {base : Nat} {e : TypeId} {size : Nat} {v : Value} {n : Nat} {xs : List Value} (ho : w.ownsRow base e size v n xs) (h1 : e ≠ 101) (h2 : e ≠ 5) : w'.ownsRow base e size v n xs := by
  refine ⟨ho.1, ?_⟩
  rcases ho.2 with h3 | ⟨g, cap, cur, h3, h4, h5, h6⟩
  · exact Or.inl h3
  · exact Or.inr ⟨g, cap, cur, h3, h4, WK.block hw h h5 h1 h2, h6⟩
theorem PartV.wrote {w w' : World} {B b : Nat} {l : List UInt8} (hw : WB w B b l) (h : WK B b w w') {t : Tr} {v : Value} (hp : PartV w t v) : PartV w' t v :=
  PartV.mono (fun _ _ ⟨bs, h1, h2⟩ => ⟨bs, WK.own hw h h1 (by decide) (by decide), h2⟩) (fun _ _ ⟨bs, h1, h2⟩ => ⟨bs, WK.own hw h h1 (by decide) (by decide), h2⟩) t v hp
theorem CondsV.wrote {w w' : World} {B b : Nat} {l : List UInt8} (hw : WB w B b l) (h : WK B b w w') {v : Value} {cs : List (List UInt8 × List UInt8 × Bool)} (hp : CondsV w v cs) : CondsV w' v cs := by
  obtain ⟨bs, h1, h2⟩ := hp; exact ⟨bs, WK.own hw h h1 (by decide) (by decide), h2⟩
theorem NamesV.wrote {w w' : World} {B b : Nat} {l : List UInt8} (hw : WB w B b l) (h : WK B b w w') {v : Value} {cs : List (List UInt8)} (hp : NamesV w v cs) : NamesV w' v cs := by
  obtain ⟨bs, h1, h2⟩ := hp; exact ⟨bs, WK.own hw h h1 (by decide) (by decide), h2⟩
theorem bytes_app (l : List UInt8) (s : ByteArray) : Lib.byteCells l ++ Lib.strCells s = Lib.byteCells (l ++ bl s) := by
  unfold Lib.byteCells Lib.strCells bl
  rw [List.map_append]
def big : Nat := 1000000
theorem put_t {w : World} {B b : Nat} {l : List UInt8} (h : WB w B b l) (s : ByteArray) (hl : l.length + s.size ≤ big) :
    Calls Tryz.prog 77 #[.pointer (some ⟨b, 0, none⟩), .string s] w fun e w' => e = .returned (.tuple #[.int .i64 s.size, .nilIface]) ∧ Hid (WB w' B b (l ++ bl s)) ∧ Hid (WK B b w w') := by
  refine (bld_write B b (Lib.byteCells l) s w h.bd (by rw [Lib.byteCells_length]; unfold big at hl; omega) h.le).mono ?_
  rintro e w' ⟨rfl, h1, h2, h3⟩
  rw [bytes_app] at h1
  exact ⟨rfl, ⟨Or.inr h1, Nat.le_trans h.le h2.size⟩, ⟨h2, h3⟩⟩
theorem dec_itoa (n : Nat) : Lib.decDigits n = decS n := by
  induction n using Nat.strongRecOn with
  | _ n ih =>
    by_cases h : n ≤ 9
    · rw [decS_small h, Lib.decDigits, dif_pos (by omega)]
      rfl
    · rw [decS_great h, Lib.decDigits, dif_neg (by omega), ih (n / 10) (by omega)]
      rfl
def PowTab (w : World) : Prop := Lib.TabIs Tryz.prog w "internal/strconv.uint64pow10" .u64 Lib.pow10Tab
theorem Tryz.gPow : Tryz.prog.globalNamed "internal/strconv.uint64pow10" = some 15 := by kernel_rfl
theorem PowTab.low {w w' : World} {B : Nat} (h : PowTab w) (hb : Below B w w') (hB : 20 ≤ B) : PowTab w' := var?_below hb Tryz.gPow (Nat.lt_of_lt_of_le (by decide) hB) h
theorem itoa_t {w : World} (h : PowTab w) (n : Int) (h0 : 0 ≤ n) (h1 : n ≤ 1000000000) :
    Calls Tryz.prog 78 #[.int .i64 n] w fun e w' => ∃ s : ByteArray, e = .returned (.string s) ∧ Hid (bl s = decS n.toNat) ∧ Below w.heap.size w w' := by
  refine (Tryz.strconv_Itoa n (by omega) (by omega) w h).mono ?_
  rintro e w' ⟨rfl, k, os, rfl⟩
  refine ⟨_, rfl, hid ?_, ?_⟩
  · rw [bl_mk]; unfold Lib.itoa; rw [if_neg (by omega), dec_itoa]
  · exact ⟨rfl, rfl, rfl, by simp [Go.Sort.grow, World.drewN], fun k hk => by simp [Go.Sort.grow, World.drewN, Array.getElem?_append, hk]⟩
theorem put_big {w : World} {B b : Nat} {l : List UInt8} (h : WB w B b l) (s : ByteArray) (hl : l.length + s.size ≤ 140737488355328) :
    Calls Tryz.prog 77 #[.pointer (some ⟨b, 0, none⟩), .string s] w fun e w' => e = .returned (.tuple #[.int .i64 s.size, .nilIface]) ∧ Hid (WB w' B b (l ++ bl s)) ∧ Hid (WK B b w w') := by
  refine (bld_write B b (Lib.byteCells l) s w h.bd (by rw [Lib.byteCells_length]; omega) h.le).mono ?_
  rintro e w' ⟨rfl, h1, h2, h3⟩
  rw [bytes_app] at h1
  exact ⟨rfl, ⟨Or.inr h1, Nat.le_trans h.le h2.size⟩, ⟨h2, h3⟩⟩
theorem itoa_i {w : World} (h : PowTab w) (n : Int) (hn : vOk n) :
    Calls Tryz.prog 78 #[.int .i64 n] w fun e w' => ∃ s : ByteArray, e = .returned (.string s) ∧ Hid (bl s = decI n) ∧ s.size ≤ 1000000002 ∧ Below w.heap.size w w' := by
  have hlen := decI_len n hn
  unfold vOk at hn
  refine (Tryz.strconv_Itoa n (by omega) (by omega) w h).mono ?_
  rintro e w' ⟨rfl, k, os, rfl⟩
  have he : Lib.itoa n = decI n := by
    unfold Lib.itoa decI
    by_cases hneg : n < 0
    · rw [if_pos hneg, if_pos hneg, dec_itoa]; rfl
    · rw [if_neg hneg, if_neg hneg, dec_itoa]
  refine ⟨_, rfl, hid ?_, ?_, ?_⟩
  · rw [bl_mk, he]
  · show (Lib.itoa n).toArray.size ≤ _
    rw [he]; simpa using hlen
  · exact ⟨rfl, rfl, rfl, by simp [Go.Sort.grow, World.drewN], fun k hk => by simp [Go.Sort.grow, World.drewN, Array.getElem?_append, hk]⟩
theorem LbOk.size {w : World} {a : Option Addr} {n c : Nat} {tx : ByteArray} {qs : List (ByteArray × ByteArray)} (h : LbOk w a n c tx qs) : tx.size ≤ 108018 := by
  rw [← bl_length, h.txt]; exact h.wf.len
def lineS (t : Int) (is : List Itm) : List UInt8 := decI t ++ ((is.map Itm.el).map elS).flatten
theorem lineS_snoc (t : Int) (l : List Itm) (s : Itm) : lineS t (l ++ [s]) = lineS t l ++ elS s.el := by
  unfold lineS; simp
theorem elS_len {s : Itm} (h1 : (wrt s.labs).length ≤ 108018) (h2 : vOk s.v) : (elS s.el).length ≤ 1000108030 := by
  have := decI_len s.v h2
  show ([32, 123] ++ wrt s.labs ++ [125] ++ decI s.v).length ≤ _
  simp only [List.length_append, List.length_cons, List.length_nil]
  omega
theorem lineS_len {t : Int} (ht : vOk t) : ∀ is : List Itm, (∀ i ∈ is, (wrt i.labs).length ≤ 108018 ∧ vOk i.v) → (lineS t is).length ≤ 1000000002 + 1000108030 * is.length
  | [], _ => by have := decI_len t ht; simpa [lineS] using this
  | s :: is, h => by
    have h1 := lineS_len ht is (fun i hi => h i (List.mem_cons_of_mem _ hi))
    have h2 := elS_len (h s (by simp)).1 (h s (by simp)).2
    have e : (lineS t (s :: is)).length = (lineS t is).length + (elS s.el).length := by
      unfold lineS
      simp only [List.map_cons, List.flatten_cons, List.length_append]
      omega
    rw [e, List.length_cons]
    omega
set_option linter.unusedSimpArgs false in
set_option maxRecDepth 100000 in
set_option maxHeartbeats 8000000 in
theorem lineSc_any (t : Int) (ht : vOk t) (v : Value) (n : Int) (w : World) (hv : ValP w v (.sc n)) (hp : PowTab w) (hB : 20 ≤ w.heap.size) :
    Calls Tryz.prog 86 #[.int .i64 t, v] w fun e w' => ∃ r : ByteArray, e = .returned (.string r) ∧ Hid (bl r = answeredV t (.sc n)) ∧ r.size ≤ 40000000000 ∧ Below w.heap.size w w' := by
  have HP : Hid (PowTab w) := hp
  have HNG : Hid (20 ≤ w.heap.size) := hB
  have HT : Hid (vOk t) := ht
  clear hp hB ht
  obtain ⟨rfl, hn'⟩ := hv
  have HN : Hid (vOk n) := hn'
  have h1 := asSS (.int .i64 n)
  clear hn'
  go_enter Tryz.func86, Tryz.ntmps86
  go_wp2_with fail
  refine calls_gen fun W hW => ?_
  have hbW : Below w.heap.size w W := by rw [hW]; exact (Below.refl _ _).alloc (Nat.le_refl _) _
  have HWW : Hid (WB W w.heap.size w.heap.size []) := hid ⟨Or.inl ⟨Nat.le_refl _, .slice none 0 0, by rw [hW]; exact Go.Deep.blk_alloc_new _ _, ⟨rfl, Or.inl ⟨rfl, rfl⟩⟩, by simp [Value.ownBlock]⟩, hbW.size⟩
  have HBW : Hid (Below w.heap.size w W) := hid hbW
  have HPW := hid (HP.out.low hbW HNG.out)
  clear hW hbW
  refine (itoa_i HPW.out t HT.out).mono ?_
  rintro e w1 ⟨s1, rfl, HS1, hz1, hb1⟩
  have HW1 := hid (HWW.out.below hb1)
  have HB1 : Hid (Below w.heap.size w w1) := hid (HBW.out.trans (hb1.mono HBW.out.size))
  have HP1 := hid (HPW.out.low hb1 (by have := HNG.out; have := HBW.out.size; omega))
  clear hb1 HWW HBW HPW
  go_wp2_with fail
  refine (put_big HW1.out s1 (by simp; omega)).mono ?_
  rintro e w2 ⟨rfl, HW2, HK2⟩
  have HB2 : Hid (Below w.heap.size w w2) := hid (HB1.out.trans HK2.out.low)
  have HP2 := hid (HP1.out.low HK2.out.low HNG.out)
  clear HW1 HB1 HP1
  go_wp2_with fail
  refine (itoa_i HP2.out n HN.out).mono ?_
  rintro e w3 ⟨s3, rfl, HS3, hz3, hb3⟩
  have HW3 := hid (HW2.out.below hb3)
  have HB3 : Hid (Below w.heap.size w w3) := hid (HB2.out.trans (hb3.mono HB2.out.size))
  clear hb3 HW2 HB2
  have HSZ : Hid ((⟨#[32]⟩ ++ s3 : ByteArray).size = 1 + s3.size) := hid (by rw [ByteArray.size_append]; rfl)
  have HBX : Hid (bl (⟨#[32]⟩ ++ s3 : ByteArray) = [32] ++ decI n) := hid (by rw [bl_appD, HS3.out]; rfl)
  go_wp2_with fail
  generalize (⟨#[32]⟩ ++ s3 : ByteArray) = x at HSZ HBX ⊢
  have hzx : x.size ≤ 1000000003 := by have := HSZ.out; omega
  clear HSZ
  refine (put_big HW3.out x (by have b : ([] ++ bl s1).length = s1.size := (by rw [List.nil_append, bl_length]); omega)).mono ?_
  rintro e w4 ⟨rfl, HW4, HK4⟩
  have HB4 : Hid (Below w.heap.size w w4) := hid (HB3.out.trans HK4.out.low)
  have HE : Hid ([] ++ bl s1 ++ bl x = answeredV t (.sc n)) := hid (by rw [HBX.out, HS1.out]; show [] ++ decI t ++ ([32] ++ decI n) = decI t ++ [32] ++ decI n; simp)
  have HSZ5 : Hid (([] ++ bl s1 ++ bl x).length ≤ 40000000000) := hid (by have b : ([] ++ bl s1 ++ bl x).length = s1.size + x.size := (by rw [List.nil_append, List.length_append, bl_length, bl_length]); omega)
  generalize [] ++ bl s1 ++ bl x = z at HW4 HE HSZ5
  go_wp2_with fail
  refine (Tryz.Builder_String_any_f w.heap.size w.heap.size _ w4 HW4.out.bd HW4.out.le).mono ?_
  rintro e w5 ⟨rfl, _, hb5⟩
  have HB5 : Hid (Below w.heap.size w w5) := hid (HB4.out.trans hb5)
  clear hb5 HK4
  go_wp2
  go_ret
  exact ⟨_, rfl, hid (by rw [bl_mk, HE.out]), by have a := HSZ5.out; rw [← List.size_toArray] at a; exact a, HB5.out⟩
set_option linter.unusedSimpArgs false in
set_option maxRecDepth 100000 in
set_option maxHeartbeats 8000000 in
theorem lineVec_any (t : Int) (ht : vOk t) (v : Value) (l : List El) (w : World) (hv : ValP w v (.vec l)) (hn : VOk 30 (.vec l)) (hp : PowTab w) (hB : 20 ≤ w.heap.size) :
    Calls Tryz.prog 86 #[.int .i64 t, v] w fun e w' => ∃ r : ByteArray, e = .returned (.string r) ∧ Hid (bl r = answeredV t (.vec l)) ∧ r.size ≤ 40000000000 ∧ Below w.heap.size w w' := by
  have HP : Hid (PowTab w) := hp
  have HNG : Hid (20 ≤ w.heap.size) := hB
  have HT : Hid (vOk t) := ht
  clear hp hB ht
  obtain ⟨s, is, rfl, hvv⟩ := hv
  have hlen : is.length ≤ 30 := by rw [← hvv.len']; exact hn.2
  obtain ⟨ra, rcp, rfl⟩ := own_shape hvv.row
  have HV : Hid (VecV w (.slice ra is.length rcp) l is) := hvv
  have HLS : Hid (∀ k, (lineS t (is.take k)).length ≤ 40000000000 - 2000000000) := hid (fun k => by
    have := lineS_len HT.out (is.take k) (fun i hi => ⟨(hvv.ok i (List.mem_of_mem_take hi)).lb.wf.len, (hvv.ok i (List.mem_of_mem_take hi)).vok⟩)
    rw [List.length_take] at this
    omega)
  have h1 := asVS (.slice ra is.length rcp)
  have h2 := asVV (.slice ra is.length rcp)
  clear hn hvv
  go_enter Tryz.func86, Tryz.ntmps86
  go_wp2_with fail
  refine calls_gen fun W hW => ?_
  have hbW : Below w.heap.size w W := by rw [hW]; exact (Below.refl _ _).alloc (Nat.le_refl _) _
  have HWW : Hid (WB W w.heap.size w.heap.size []) := hid ⟨Or.inl ⟨Nat.le_refl _, .slice none 0 0, by rw [hW]; exact Go.Deep.blk_alloc_new _ _, ⟨rfl, Or.inl ⟨rfl, rfl⟩⟩, by simp [Value.ownBlock]⟩, hbW.size⟩
  have HBW : Hid (Below w.heap.size w W) := hid hbW
  have HPW := hid (HP.out.low hbW HNG.out)
  clear hW hbW
  refine (itoa_i HPW.out t HT.out).mono ?_
  rintro e w1 ⟨s1, rfl, HS1, hz1, hb1⟩
  have HW1 := hid (HWW.out.below hb1)
  have HB1 : Hid (Below w.heap.size w w1) := hid (HBW.out.trans (hb1.mono HBW.out.size))
  clear hb1 HWW HBW HPW
  go_wp2_with fail
  refine (put_big HW1.out s1 (by simp; omega)).mono ?_
  rintro e w2 ⟨rfl, HW2, HK2⟩
  have HB2 : Hid (Below w.heap.size w w2) := hid (HB1.out.trans HK2.out.low)
  have HW2' : Hid (WB w2 w.heap.size w.heap.size (lineS t [])) := hid (by have := HW2.out; rw [HS1.out] at this; simpa [lineS] using this)
  clear HW1 HB1 HW2 HK2
  go_wp2
  go_loopw [26] (fun i wr => ∃ k : Nat, k ≤ is.length ∧ i = .int .i64 k ∧ Hid (WB wr w.heap.size w.heap.size (lineS t (is.take k))) ∧ Hid (Below w.heap.size w wr)) (fun i _ => is.length - (intOf i).toNat)
  case atStart => exact ⟨0, Nat.zero_le _, rfl, HW2', HB2⟩
  case round =>
    rename World => wo
    obtain ⟨k, hk, rfl, HWB, HB⟩ := hrel
    have hwo := HB.out.size
    by_cases hlt : k < is.length
    · have hg : ∃ g, ra = some ⟨g, 0, none⟩ := by
        obtain ⟨g, cp', h⟩ := own_some HV.out.row (by omega)
        injection h with h1; exact ⟨g, h1⟩
      obtain ⟨vg, rfl⟩ := hg
      have HVR := hid (own_below HV.out.row HB.out)
      obtain ⟨f1, f2, f3⟩ := encs_get is k hlt
      have d1 := own_cell HVR.out _ _ f1
      have d2 := own_cell HVR.out _ _ f2
      have d3 := own_cell HVR.out _ _ f3
      have HSO := hid (HV.out.ok _ (List.getElem_mem hlt))
      have HTK : Hid (lineS t (is.take (k + 1)) = lineS t (is.take k) ++ elS (is[k]).el) := hid (by rw [List.take_succ_eq_append_getElem hlt]; exact lineS_snoc _ _ _)
      generalize is[k] = s at *
      have hsz := HSO.out.lb.size
      have q1 : ¬ 9223372036854775807 < 2 + s.tx.size := by omega
      have q2 : ¬ 9223372036854775807 < 2 + s.tx.size + 1 := by omega
      clear f1 f2 f3 HVR
      have hkz : (k : Int) < (is.length : Int) := by omega
      go_upto_region 12 with fail
      refine wp_gen fun W hW => ?_
      have hbW : Below wo.heap.size wo W := by rw [hW]; exact (Below.refl _ _).alloc (Nat.le_refl _) _
      have HX : Hid (BAt W wo.heap.size [.slice s.a s.n s.c, .string s.tx, .int .i64 s.v] 255) := hid (by rw [hW]; exact Go.Deep.blk_alloc_new _ _)
      have HWW := hid (HWB.out.below hbW)
      have HBW : Hid (Below w.heap.size w W) := hid (HB.out.trans (hbW.mono hwo))
      clear hW hbW d1 d2 d3 HWB HB
      have hwW := HBW.out.size
      have x0 := HX.out.cell 0
      have x1 := HX.out.cell 1
      have x2 := HX.out.cell 2
      simp only [List.getElem?_cons_zero, List.getElem?_cons_succ] at x0 x1 x2
      have HSB : Hid (∀ w', BAt w' wo.heap.size [.slice s.a s.n s.c, .string s.tx, .int .i64 s.v] 255 → w'.cell? ⟨wo.heap.size, 0, none⟩ = some (.slice s.a s.n s.c) ∧ w'.cell? ⟨wo.heap.size, 1, none⟩ = some (.string s.tx) ∧ w'.cell? ⟨wo.heap.size, 2, none⟩ = some (.int .i64 s.v)) := hid (fun w' h => ⟨h.cell 0, h.cell 1, h.cell 2⟩)
      go_region_held3 (fun w' => w'.cell? ⟨wo.heap.size, 0, none⟩ = some (.slice s.a s.n s.c) ∧ w'.cell? ⟨wo.heap.size, 1, none⟩ = some (.string s.tx) ∧ w'.cell? ⟨wo.heap.size, 2, none⟩ = some (.int .i64 s.v)) (first | exact ⟨x0, x1, x2⟩ | exact HSB.out _ HX7.out | exact HSB.out _ HX6.out | exact HSB.out _ HX5.out | go_keep) (first
        | (go_at_call 124
           refine (lstr_any _ _ _ _ _).mono ?_
           rintro e w5 ⟨rfl, o5, hw5⟩
           have HB5 : Hid (Below W.heap.size W w5) := hid (by rw [hw5]; exact ((Below.refl _ _).drew).alloc (Nat.le_refl _) _)
           have HX5 := hid (HX.out.below HB5.out)
           clear hw5)
        | (go_at_call 78
           refine (itoa_i (HP.out.low (HBW.out.trans (HB5.out.mono hwW)) HNG.out) s.v HSO.out.vok).mono ?_
           rintro e w6 ⟨s6, rfl, HS6, hz6, hb6⟩
           have HB6 : Hid (Below W.heap.size W w6) := hid (HB5.out.trans (hb6.mono HB5.out.size))
           have HX6 := hid (HX.out.below HB6.out)
           have HSZ6 : Hid ((⟨#[32, 123]⟩ ++ s.tx ++ ⟨#[125]⟩ ++ s6 : ByteArray).size = 2 + s.tx.size + 1 + s6.size) := hid (by rw [ByteArray.size_append, ByteArray.size_append, ByteArray.size_append]; rfl)
           have HBL6 : Hid (bl (⟨#[32, 123]⟩ ++ s.tx ++ ⟨#[125]⟩ ++ s6 : ByteArray) = elS s.el) := hid (by
             rw [bl_appD, bl_appD, bl_appD, HS6.out, HSO.out.lb.txt]; rfl)
           have q3 : ¬ 9223372036854775807 < 2 + s.tx.size + 1 + s6.size := by omega
           clear hb6)
        | (go_at_call 77
           generalize (⟨#[32, 123]⟩ ++ s.tx ++ ⟨#[125]⟩ ++ s6 : ByteArray) = x6 at HSZ6 HBL6 ⊢
           have hzx : x6.size ≤ 1000108030 := (by have := HSZ6.out; omega)
           clear HSZ6
           refine (put_big (HWW.out.below HB6.out) x6 (by have := HLS.out k; omega)).mono ?_
           rintro e w7 ⟨rfl, HW7, HK7⟩
           have HX7 : Hid (BAt w7 wo.heap.size [.slice s.a s.n s.c, .string s.tx, .int .i64 s.v] 255) := hid (WK.bat (HWW.out.below HB6.out) HK7.out HX6.out (by decide) (by decide))))
      have HWf : Hid (WB w7 w.heap.size w.heap.size (lineS t (is.take (k + 1)))) := hid (by rw [HTK.out, ← HBL6.out]; exact HW7.out)
      have HBf : Hid (Below w.heap.size w w7) := hid ((HBW.out.trans (HB6.out.mono hwW)).trans HK7.out.low)
      go_wp2
      go_roundw
      case rel => exact ⟨k + 1, by omega, by go_num, HWf, HBf⟩
      case measure => simp [intOf]; omega
    · obtain rfl : k = is.length := by omega
      rw [List.take_length] at HWB
      have HE : Hid (lineS t is = answeredV t (.vec l)) := hid (by unfold lineS; rw [HV.out.els]; rfl)
      go_wp2_with fail
      refine (Tryz.Builder_String_any_f w.heap.size w.heap.size _ wo HWB.out.bd HWB.out.le).mono ?_
      rintro e w5 ⟨rfl, _, hb5⟩
      have HB5 : Hid (Below w.heap.size w w5) := hid (HB.out.trans hb5)
      clear hb5
      go_wp2
      go_ret
      exact ⟨_, rfl, hid (by rw [bl_mk, HE.out]), by have a := HLS.out is.length; rw [List.take_length, ← List.size_toArray] at a; exact Nat.le_trans a (by omega), HB5.out⟩
theorem line_any (t : Int) (ht : vOk t) (v : Value) (V : VV) (w : World) (hv : ValP w v V) (hn : VOk 30 V) (hp : PowTab w) (hB : 20 ≤ w.heap.size) :
    Calls Tryz.prog 86 #[.int .i64 t, v] w fun e w' => ∃ r : ByteArray, e = .returned (.string r) ∧ Hid (bl r = answeredV t V) ∧ r.size ≤ 40000000000 ∧ Below w.heap.size w w' := by
  cases V with
  | sc n => exact lineSc_any t ht v n w hv hp hB
  | vec l => exact lineVec_any t ht v l w hv hn hp hB
end Go.Proofs.YtpbemaaghbbocaaGreatDoor

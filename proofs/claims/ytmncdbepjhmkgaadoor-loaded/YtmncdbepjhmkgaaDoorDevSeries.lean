/- What the program's reader of one line answers. -/
import Derived.Test.YtmncdbepjhmkgaaDoorDevOf
namespace Go.Proofs.YtmncdbepjhmkgaaDoor
open Go.RowKit LS

set_option maxHeartbeats 400000 in
theorem readLabels_any (s : ByteArray) (m : Int) (w : World) (hs : s.size ≤ 6000) (hm : w.cell? ⟨14, 0, none⟩ = some (.int .i64 m)) :
    Calls Tryd.prog 41 #[.string s] w fun e w' => ∃ (a : Option Addr) (n cap : Nat) (ok : Bool), e = .returned (.tuple #[.slice a n cap, .bool ok]) ∧
      Hid (ok = (labels (bl s)).isSome ∧ (ok = true → ∃ qs, LabelRow w' 0 (.slice a n cap) n qs ∧ labels (bl s) = some (qs.map blP))) ∧ Below w.heap.size w w' := by
  cases he : s.toList.isEmpty
  · have hne := ne_of_nonempty he
    have hF : labels (bl s) = labelsAcc [] [] (split 44 (bl s)) := by unfold labels; rw [if_neg hne]
    rw [hF]
    exact readLabels_loop s m w hs hm he
  · have HF : Hid (labels (bl s) = some []) := hid (by rw [nil_of_empty he]; rfl)
    go_enter Tryd.func41, Tryd.ntmps41
    go_wp2
    go_ret2
    exact ⟨none, 0, 0, true, rfl, ⟨by rw [HF.out]; rfl, fun _ => ⟨[], ⟨World.ownsRow_nil _ _ _ _, by omega, fun p hp => (by cases hp)⟩, HF.out⟩⟩, Below.refl _ _⟩

theorem readLabels_bad {s : ByteArray} (m : Int) (w : World) (hs : s.size ≤ 6000) (hm : w.cell? ⟨14, 0, none⟩ = some (.int .i64 m)) (h : (labels (bl s)).isSome = false) :
    Calls Tryd.prog 41 #[.string s] w fun e w' => ∃ (a : Option Addr) (n cap : Nat), e = .returned (.tuple #[.slice a n cap, .bool false]) ∧ Below w.heap.size w w' := by
  refine (readLabels_any s m w hs hm).mono ?_
  rintro e w' ⟨a, n, cap, ok, rfl, hok, hb⟩
  exact ⟨a, n, cap, by rw [hok.out.1, h], hb⟩
theorem readLabels_good {s : ByteArray} (m : Int) (w : World) (hs : s.size ≤ 6000) (hm : w.cell? ⟨14, 0, none⟩ = some (.int .i64 m)) (h : (labels (bl s)).isSome = true) :
    Calls Tryd.prog 41 #[.string s] w fun e w' => ∃ (a : Option Addr) (n cap : Nat) (qs : List (ByteArray × ByteArray)), e = .returned (.tuple #[.slice a n cap, .bool true]) ∧ Hid (LabelRow w' 0 (.slice a n cap) n qs ∧ labels (bl s) = some (qs.map blP)) ∧ Below w.heap.size w w' := by
  refine (readLabels_any s m w hs hm).mono ?_
  rintro e w' ⟨a, n, cap, ok, rfl, hok, hb⟩
  have e : ok = true := by rw [hok.out.1, h]
  subst e
  obtain ⟨qs, h1, h2⟩ := hok.out.2 rfl
  exact ⟨a, n, cap, qs, rfl, ⟨h1, h2⟩, hb⟩
theorem box4 {w w1 : World} {x y z u : Value} {t : TypeId} (hb : Below (w.heap.size + 1) (w.alloc (.cells #[x, y, z, u] t)) w1) :
    w1.cell? ⟨w.heap.size, 0, none⟩ = some x ∧ w1.cell? ⟨w.heap.size, 1, none⟩ = some y ∧ w1.cell? ⟨w.heap.size, 2, none⟩ = some z ∧ w1.cell? ⟨w.heap.size, 3, none⟩ = some u ∧
    w1.frozen? ⟨w.heap.size, 0, none⟩ = false ∧ w1.frozen? ⟨w.heap.size, 1, none⟩ = false ∧ w1.frozen? ⟨w.heap.size, 2, none⟩ = false ∧ w1.frozen? ⟨w.heap.size, 3, none⟩ = false := by
  have h : w1.heap[w.heap.size]? = some (.cells #[x, y, z, u] t (0, 0)) := (hb.block _ (by omega)).trans (Go.Deep.blk_alloc_new _ _)
  refine ⟨?_, ?_, ?_, ?_, ?_, ?_, ?_, ?_⟩ <;> simp [World.cell?, World.frozen?, h]
theorem readSamples_none {s : ByteArray} (m : Int) (w : World) (hs : s.size ≤ 6000) (hm : w.cell? ⟨14, 0, none⟩ = some (.int .i64 m)) (h : samples (bl s) = none) :
    Calls Tryd.prog 42 #[.string s] w fun e w' => ∃ sv : Value, e = .returned (.tuple #[sv, .bool false]) ∧ Below w.heap.size w w' := by
  refine (readSamples_any s m w hs hm).mono ?_
  rintro e w' ⟨sv, ok, rfl, hok, hb⟩
  rcases hok.out with ⟨_, _, _, _, _, h', _⟩ | ⟨h', _⟩
  · rw [h] at h'; cases h'
  · exact ⟨sv, by rw [h'], hb⟩
theorem readSamples_some {s : ByteArray} {n : Nat} (m : Int) (w : World) (hs : s.size ≤ 6000) (hm : w.cell? ⟨14, 0, none⟩ = some (.int .i64 m)) (h : samples (bl s) = some n) :
    Calls Tryd.prog 42 #[.string s] w fun e w' => ∃ a cap, e = .returned (.tuple #[.slice a n cap, .bool true]) ∧ Hid (w'.ownsRow w.heap.size 130 2 (.slice a n cap) n (flatP (samsL (bl s)))) ∧ Below w.heap.size w w' := by
  refine (readSamples_any s m w hs hm).mono ?_
  rintro e w' ⟨sv, ok, rfl, hok, hb⟩
  rcases hok.out with ⟨h1, a, n', cap, h2, h', h3⟩ | ⟨_, h'⟩
  · rw [h] at h'; obtain rfl := Option.some.inj h'
    exact ⟨a, cap, by rw [h1, h2], by rw [← h2]; exact h3, hb⟩
  · rw [h] at h'; cases h'



/-- a series as the program has it: name, labels, their text, samples. -/
def SeriesV (w : World) (l : List UInt8) (nm : ByteArray) (lv : Value) (tx : ByteArray) (sv : Value) (sn : Nat) : Prop := ∃ (inside : List UInt8) (qs : List (ByteArray × ByteArray)), line l = some (bl nm, inside, sn) ∧ labels inside = some (qs.map blP) ∧ LabelRow w 0 lv qs.length qs ∧ bl tx = labelsS qs ∧ w.ownsRow 0 130 2 sv sn (flatP (sams1 l))
theorem SeriesV.below {w w' : World} {l : List UInt8} {nm : ByteArray} {lv : Value} {tx : ByteArray} {sv : Value} {sn : Nat} (h : SeriesV w l nm lv tx sv sn) (hb : Below w.heap.size w w') : SeriesV w' l nm lv tx sv sn := by
  obtain ⟨i, qs, h1, h2, h3, h4, h5⟩ := h; exact ⟨i, qs, h1, h2, h3.below hb, h4, own_below h5 hb⟩
theorem SeriesV.other {w w' : World} {l : List UInt8} {nm : ByteArray} {lv : Value} {tx : ByteArray} {sv : Value} {sn : Nat} (h : SeriesV w l nm lv tx sv sn) {a : Nat} {c : Array Value} {fr : Nat × Nat} (hq : w.heap[a]? = some (.cells c 71 fr)) (hg : ∀ j, j ≠ a → w'.heap[j]? = w.heap[j]?) : SeriesV w' l nm lv tx sv sn := by
  obtain ⟨i, qs, h1, h2, h3, h4, h5⟩ := h
  exact ⟨i, qs, h1, h2, ⟨own_same' h3.1 (fun j hj => hg j (fun e => own_ne_block h3.1 hq (by decide) (by rw [hj, e]))), h3.2⟩, h4, own_same' h5 (fun j hj => hg j (fun e => own_ne_block h5 hq (by decide) (by rw [hj, e])))⟩
/-- What readSeries hands back. -/
def SeriesIs (w : World) (l : List UInt8) (nm : ByteArray) (lv : Value) (tx : ByteArray) (sv : Value) (sn : Nat) (ok : Bool) : Prop := (ok = true ∧ SeriesV w l nm lv tx sv sn) ∨ (ok = false ∧ line l = none)

theorem hm_below {w w' : World} {m : Int} {B : Nat} (hm : w.cell? ⟨14, 0, none⟩ = some (.int .i64 m)) (hb : Below B w w') (hB : 14 < B) : w'.cell? ⟨14, 0, none⟩ = some (.int .i64 m) :=
  (hb.cell (p := ⟨_, 0, none⟩) hB).trans hm

set_option maxRecDepth 100000 in
set_option maxHeartbeats 2000000 in
theorem readSeries_any (s : ByteArray) (m : Int) (w : World) (hs : s.size ≤ 6000) (hm : w.cell? ⟨14, 0, none⟩ = some (.int .i64 m)) :
    Calls Tryd.prog 25 #[.string s] w fun e w' => ∃ (nm : ByteArray) (a : Option Addr) (n cap : Nat) (tx : ByteArray) (sa : Option Addr) (sn sc : Nat) (ok : Bool), e = .returned (.tuple #[.agg #[.string nm, .slice a n cap, .string tx, .slice sa sn sc], .bool ok]) ∧
      Hid (SeriesIs w' (bl s) nm (.slice a n cap) tx (.slice sa sn sc) sn ok) ∧ Below w.heap.size w w' := by
  have hgl := World.block_lt_of_cell? _ _ hm
  have hm1 : ∀ o, (w.alloc o).cell? ⟨14, 0, none⟩ = some (.int .i64 m) := fun o => by
    rw [World.cell?_alloc_lt _ _ _ hgl]; exact hm
  have hm2 : ∀ o (j : Nat), ((w.alloc o).drewN j).cell? ⟨14, 0, none⟩ = some (.int .i64 m) := fun o j => hm1 o
  cases hc : cut 123 (bl s) with
  | none =>
    have HS : Hid (∀ W nm lv tx sv, SeriesIs W (bl s) nm lv tx sv 0 false) := hid (fun _ _ _ _ _ => Or.inr ⟨rfl, line_noopen hc⟩)
    have HC : Hid (cut 123 (bl s) = none) := hc
    clear hc
    go_enter Tryd.func25, Tryd.ntmps25
    go_wp2_with fail
    refine (cut_miss m _ hs (hm1 _) HC.out).mono ?_
    rintro e w' ⟨a, b, rfl, hab, j, rfl⟩
    have hsb : b.size ≤ 6000 := by rw [size_of_bl hab.out.2]; simp
    go_wp2_with fail
    refine (cut_miss m _ hsb (hm2 _ _) (by rw [hab.out.2]; rfl)).mono ?_
    rintro e w' ⟨a2, b2, rfl, hab2, j2, rfl⟩
    go_wp2
    exact bodyPost_ret (v := .tuple #[.agg #[.string ⟨#[]⟩, .slice none 0 0, .string ⟨#[]⟩, .slice none 0 0], .bool false]) (by simp [results, Tryd.results25, go_sem]) rfl ⟨⟨#[]⟩, none, 0, 0, ⟨#[]⟩, none, 0, 0, false, rfl, hid (HS.out _ _ _ _ _), belB⟩
  | some p =>
    obtain ⟨x, r⟩ := p
    have hxl : x.length ≤ s.size ∧ r.length ≤ s.size := by rw [← bl_length, (cut_some hc).1]; simp; omega
    have HC : Hid (cut 123 (bl s) = some (x, r)) := hc
    clear hc
    cases hc2 : cut 125 r with
    | none =>
      have HS : Hid (∀ W nm lv tx sv, SeriesIs W (bl s) nm lv tx sv 0 false) := hid (fun _ _ _ _ _ => Or.inr ⟨rfl, line_noclose HC.out hc2⟩)
      have HC2 : Hid (cut 125 r = none) := hc2
      clear hc2
      go_enter Tryd.func25, Tryd.ntmps25
      go_wp2_with fail
      refine (cut_hit m _ hs (hm1 _) HC.out).mono ?_
      rintro e w' ⟨a, b, rfl, hab, j, rfl⟩
      have hsb : b.size ≤ 6000 := by rw [size_of_bl hab.out.2]; omega
      go_wp2_with fail
      refine (cut_miss m _ hsb (hm2 _ _) (by rw [hab.out.2]; exact HC2.out)).mono ?_
      rintro e w' ⟨a2, b2, rfl, hab2, j2, rfl⟩
      go_wp2
      exact bodyPost_ret (v := .tuple #[.agg #[.string ⟨#[]⟩, .slice none 0 0, .string ⟨#[]⟩, .slice none 0 0], .bool false]) (by simp [results, Tryd.results25, go_sem]) rfl ⟨⟨#[]⟩, none, 0, 0, ⟨#[]⟩, none, 0, 0, false, rfl, hid (HS.out _ _ _ _ _), belB⟩
    | some q =>
      obtain ⟨y, z⟩ := q
      have hyl : y.length ≤ r.length ∧ z.length ≤ r.length := by rw [(cut_some hc2).1]; simp; omega
      have HC2 : Hid (cut 125 r = some (y, z)) := hc2
      have hline := line_of HC.out hc2
      clear hc2
      cases hn : isName x
      · have HS : Hid (∀ W nm lv tx sv, SeriesIs W (bl s) nm lv tx sv 0 false) := hid (fun _ _ _ _ _ => Or.inr ⟨rfl, by rw [hline, hn]; rfl⟩)
        have HN : Hid (isName x = false) := hn
        clear hn hline
        go_enter Tryd.func25, Tryd.ntmps25
        go_wp2_with fail
        refine (cut_hit m _ hs (hm1 _) HC.out).mono ?_
        rintro e w' ⟨a, b, rfl, hab, j, rfl⟩
        have hsa : a.size ≤ 6000 := by rw [size_of_bl hab.out.1]; omega
        have hsb : b.size ≤ 6000 := by rw [size_of_bl hab.out.2]; omega
        go_wp2_with fail
        refine (cut_hit m _ hsb (hm2 _ _) (by rw [hab.out.2]; exact HC2.out)).mono ?_
        rintro e w' ⟨a2, b2, rfl, hab2, j2, rfl⟩
        go_wp2_with fail
        refine (wIsName_of (b := false) _ hsa (by rw [hab.out.1]; exact HN.out)).mono ?_
        rintro e w' ⟨rfl, rfl⟩
        go_wp2
        exact bodyPost_ret (v := .tuple #[.agg #[.string ⟨#[]⟩, .slice none 0 0, .string ⟨#[]⟩, .slice none 0 0], .bool false]) (by simp [results, Tryd.results25, go_sem]) rfl ⟨⟨#[]⟩, none, 0, 0, ⟨#[]⟩, none, 0, 0, false, rfl, hid (HS.out _ _ _ _ _), belB⟩
      · have HN : Hid (isName x = true) := hn
        rw [hn] at hline
        clear hn
        go_enter Tryd.func25, Tryd.ntmps25
        have Hline : Hid _ := hline
        clear hline
        go_wp2_with fail
        refine (cut_hit m _ hs (hm1 _) HC.out).mono ?_
        rintro e w' ⟨a, b, rfl, hab, j, rfl⟩
        have hsa : a.size ≤ 6000 := by rw [size_of_bl hab.out.1]; omega
        have hsb : b.size ≤ 6000 := by rw [size_of_bl hab.out.2]; omega
        go_wp2_with fail
        refine (cut_hit m _ hsb (hm2 _ _) (by rw [hab.out.2]; exact HC2.out)).mono ?_
        rintro e w' ⟨a2, b2, rfl, hab2, j2, rfl⟩
        have hsa2 : a2.size ≤ 6000 := by rw [size_of_bl hab2.out.1]; omega
        have hsb2 : b2.size ≤ 6000 := by rw [size_of_bl hab2.out.2]; omega
        go_wp2_with fail
        refine (wIsName_of (b := true) _ hsa (by rw [hab.out.1]; exact HN.out)).mono ?_
        rintro e w' ⟨rfl, rfl⟩
        cases hlb : (labels y).isSome
        · have HS : Hid (∀ W nm lv tx sv, SeriesIs W (bl s) nm lv tx sv 0 false) := hid (fun _ _ _ _ _ => Or.inr ⟨rfl, by rw [Hline.out, hlb]; rfl⟩)
          have HL : Hid ((labels y).isSome = false) := hlb
          clear hlb
          go_wp2_with fail
          refine (readLabels_bad m _ hsa2 (hm2 _ _) (by rw [hab2.out.1]; exact HL.out)).mono ?_
          rintro e w3 ⟨la, ln, lc, rfl, hb3⟩
          have hb3' : Below (w.heap.size + 1) (w.alloc (.cells #[.string ⟨#[]⟩, .slice none 0 0, .string ⟨#[]⟩, .slice none 0 0] 71)) w3 := (below_undrew hb3).mono (B' := w.heap.size + 1) (by simp)
          have hB3 : Below w.heap.size w w3 := ((Below.refl w.heap.size w).alloc (Nat.le_refl _) _).trans (hb3'.mono (by omega))
          obtain ⟨k0, k1, k2, k3, g0, g1, g2, g3⟩ := box4 hb3'
          clear hb3 hb3'
          go_wp2
          exact bodyPost_ret (v := .tuple #[.agg #[.string ⟨#[]⟩, .slice none 0 0, .string ⟨#[]⟩, .slice none 0 0], .bool false]) (by simp [results, Tryd.results25, go_sem, k0, k1, k2, k3]) rfl ⟨⟨#[]⟩, none, 0, 0, ⟨#[]⟩, none, 0, 0, false, rfl, hid (HS.out _ _ _ _ _), belB⟩
        · have HL : Hid ((labels y).isSome = true) := hlb
          rw [hlb] at Hline
          clear hlb
          go_wp2_with fail
          refine (readLabels_good m _ hsa2 (hm2 _ _) (by rw [hab2.out.1]; exact HL.out)).mono ?_
          rintro e w3 ⟨la, ln, lc, qs, rfl, HQ, hb3⟩
          have hz3 : w.heap.size + 1 ≤ w3.heap.size := by have := hb3.size; simp at this; omega
          have hm3 : w3.cell? ⟨14, 0, none⟩ = some (.int .i64 m) := hm_below (hm2 _ _) hb3 (by simp; omega)
          have hb3' : Below (w.heap.size + 1) (w.alloc (.cells #[.string ⟨#[]⟩, .slice none 0 0, .string ⟨#[]⟩, .slice none 0 0] 71)) w3 := (below_undrew hb3).mono (B' := w.heap.size + 1) (by simp)
          have hB3 : Below w.heap.size w w3 := ((Below.refl w.heap.size w).alloc (Nat.le_refl _) _).trans (hb3'.mono (by omega))
          clear hb3
          cases hsm : samples z with
          | none =>
            have HS : Hid (∀ W nm lv tx sv, SeriesIs W (bl s) nm lv tx sv 0 false) := hid (fun _ _ _ _ _ => Or.inr ⟨rfl, by rw [Hline.out, hsm]; rfl⟩)
            have HM : Hid (samples z = none) := hsm
            clear hsm
            go_wp2_with fail
            refine (readSamples_none m _ hsb2 hm3 (by rw [hab2.out.2]; exact HM.out)).mono ?_
            rintro e w4 ⟨sv, rfl, hb4⟩
            obtain ⟨k0, k1, k2, k3, g0, g1, g2, g3⟩ := box4 (hb3'.trans (hb4.mono hz3))
            have hB4 : Below w.heap.size w w4 := hB3.trans (hb4.mono (by omega))
            clear hb3' hb4 hB3
            go_wp2
            exact bodyPost_ret (v := .tuple #[.agg #[.string ⟨#[]⟩, .slice none 0 0, .string ⟨#[]⟩, .slice none 0 0], .bool false]) (by simp [results, Tryd.results25, go_sem, k0, k1, k2, k3]) rfl ⟨⟨#[]⟩, none, 0, 0, ⟨#[]⟩, none, 0, 0, false, rfl, hid (HS.out _ _ _ _ _), belB⟩
          | some n =>
            have HS : Hid (line (bl s) = some (x, y, n)) := hid (by rw [Hline.out, hsm]; rfl)
            have HSA : Hid (sams1 (bl s) = samsL z) := hid (sams1_of HN.out HC.out HC2.out)
            have HM : Hid (samples z = some n) := hsm
            clear hsm
            go_wp2_with fail
            refine (readSamples_some m _ hsb2 hm3 (by rw [hab2.out.2]; exact HM.out)).mono ?_
            rintro e w4 ⟨sa, sc, rfl, HSR, hb4⟩
            have HR4 : Hid (LabelRow w4 0 (.slice la ln lc) ln qs) := LabelRow.below HQ.out.1 hb4
            have hb44 := hb3'.trans (hb4.mono hz3)
            have hz4 : w.heap.size + 1 ≤ w4.heap.size := Nat.le_trans hz3 hb4.size
            have hB4 : Below w.heap.size w w4 := hB3.trans (hb4.mono (by omega))
            clear hb3' hb4 hB3
            go_wp2_with fail
            refine (of_any _ _ _ w4 qs HR4.out).mono ?_
            rintro e w5 ⟨oa, oc, rfl, hr5, hb5⟩
            have hqn : qs.length = ln := by have := HR4.out.1.1; rw [flatL_length] at this; omega
            have HSV : Hid (SeriesV w5 (bl s) a (.slice oa ln oc) ⟨(labelsS qs).toArray⟩ (.slice sa n sc) n) := hid ⟨y, qs, by rw [HS.out, hab.out.1], by rw [← hab2.out.1]; exact HQ.out.2, by rw [hqn]; exact hr5, bl_mk _, by rw [HSA.out, ← hab2.out.2]; exact own_below (own_zeroL HSR.out) hb5⟩
            clear hqn
            obtain ⟨k0, k1, k2, k3, g0, g1, g2, g3⟩ := box4 (hb44.trans (hb5.mono hz4))
            have HBX : Hid (w5.heap[w.heap.size]? = some (.cells #[.string ⟨#[]⟩, .slice none 0 0, .string ⟨#[]⟩, .slice none 0 0] 71 (0, 0))) := hid (((hb44.trans (hb5.mono hz4)).block _ (by omega)).trans (Go.Deep.blk_alloc_new _ _))
            have hB5 : Below w.heap.size w w5 := hB4.trans (hb5.mono (by omega))
            clear hb44 hb5 hr5 hB4
            go_wp2
            exact bodyPost_ret (v := .tuple #[.agg #[.string a, .slice oa ln oc, .string ⟨(labelsS qs).toArray⟩, .slice sa n sc], .bool true]) (by simp [results, Tryd.results25, go_sem, k0, k1, k2, k3]) rfl ⟨a, oa, ln, oc, _, sa, n, sc, true, rfl, hid (Or.inl ⟨rfl, HSV.out.other HBX.out (fun j hj => by first | rfl | (repeat rw [Go.Deep.blk_setCell_other _ _ _ _ (by exact hj)]))⟩), belB⟩
end Go.Proofs.YtmncdbepjhmkgaaDoor

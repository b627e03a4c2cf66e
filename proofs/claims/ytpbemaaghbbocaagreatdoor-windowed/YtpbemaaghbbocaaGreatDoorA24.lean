/- Parts. -/
import Derived.Test.YtpbemaaghbbocaaGreatDoorA19
import Derived.Deep.Onto
import Derived.Test.YtpbemaaghbbocaaGreatDoorA00
namespace Go.Proofs.YtpbemaaghbbocaaGreatDoor
open Go.RowKit LS
set_option maxHeartbeats 400000 in
theorem readLabels_any (s : ByteArray) (m : Int) (w : World) (hs : s.size ≤ 6000) (hm : w.cell? ⟨14, 0, none⟩ = some (.int .i64 m)) :
    Calls Tryz.prog 139 #[.string s] w fun e w' => ∃ (a : Option Addr) (n cap : Nat) (ok : Bool), e = .returned (.tuple #[.slice a n cap, .bool ok]) ∧
      Hid (ok = (labels (bl s)).isSome ∧ (ok = true → ∃ qs, LabelRow w' 0 (.slice a n cap) n qs ∧ labels (bl s) = some (qs.map blP))) ∧ Below w.heap.size w w' := by
  cases he : s.toList.isEmpty
  · have hne := ne_of_nonempty he
    have hF : labels (bl s) = labelsAcc [] [] (split 44 (bl s)) := by unfold labels; rw [if_neg hne]
    rw [hF]
    exact readLabels_loop s m w hs hm he
  · have HF : Hid (labels (bl s) = some []) := hid (by rw [nil_of_empty he]; rfl)
    go_enter Tryz.func139, Tryz.ntmps139
    go_wp2
    go_ret2
    exact ⟨none, 0, 0, true, rfl, ⟨by rw [HF.out]; rfl, fun _ => ⟨[], ⟨World.ownsRow_nil _ _ _ _, by omega, fun p hp => nomatch hp⟩, HF.out⟩⟩, Below.refl _ _⟩
theorem readLabels_bad {s : ByteArray} (m : Int) (w : World) (hs : s.size ≤ 6000) (hm : w.cell? ⟨14, 0, none⟩ = some (.int .i64 m)) (h : (labels (bl s)).isSome = false) :
    Calls Tryz.prog 139 #[.string s] w fun e w' => ∃ (a : Option Addr) (n cap : Nat), e = .returned (.tuple #[.slice a n cap, .bool false]) ∧ Below w.heap.size w w' := by
  refine (readLabels_any s m w hs hm).mono ?_
  rintro e w' ⟨a, n, cap, ok, rfl, hok, hb⟩
  exact ⟨a, n, cap, by rw [hok.out.1, h], hb⟩
theorem readLabels_good {s : ByteArray} (m : Int) (w : World) (hs : s.size ≤ 6000) (hm : w.cell? ⟨14, 0, none⟩ = some (.int .i64 m)) (h : (labels (bl s)).isSome = true) :
    Calls Tryz.prog 139 #[.string s] w fun e w' => ∃ (a : Option Addr) (n cap : Nat) (qs : List (ByteArray × ByteArray)), e = .returned (.tuple #[.slice a n cap, .bool true]) ∧ Hid (LabelRow w' 0 (.slice a n cap) n qs ∧ labels (bl s) = some (qs.map blP)) ∧ Below w.heap.size w w' := by
  refine (readLabels_any s m w hs hm).mono ?_
  rintro e w' ⟨a, n, cap, ok, rfl, hok, hb⟩
  have e : ok = true := by rw [hok.out.1, h]
  subst e
  obtain ⟨qs, h1, h2⟩ := hok.out.2 rfl
  exact ⟨a, n, cap, qs, rfl, ⟨h1, h2⟩, hb⟩
theorem box4 {w w1 : World} {x y z u : Value} {t : TypeId} (hb : Below (w.heap.size + 1) (w.alloc (.cells #[x, y, z, u] t)) w1) :
    w1.cell? ⟨w.heap.size, 0, none⟩ = some x ∧ w1.cell? ⟨w.heap.size, 1, none⟩ = some y ∧ w1.cell? ⟨w.heap.size, 2, none⟩ = some z ∧ w1.cell? ⟨w.heap.size, 3, none⟩ = some u ∧
    w1.frozen? ⟨w.heap.size, 0, none⟩ = false ∧ w1.frozen? ⟨w.heap.size, 1, none⟩ = false ∧ w1.frozen? ⟨w.heap.size, 2, none⟩ = false ∧ w1.frozen? ⟨w.heap.size, 3, none⟩ = false := by
  have h : w1.heap[w.heap.size]? = some (.cells #[x, y, z, u] t (0, 0)) := (hb.block _ (by omega)).trans (Go.Deep.blk_alloc_new _ _)
  refine ⟨?_, ?_, ?_, ?_, ?_, ?_, ?_, ?_⟩ <;> simp [World.cell?, World.frozen?, h]
theorem readSamples_none {s : ByteArray} (m : Int) (w : World) (hs : s.size ≤ 6000) (hm : w.cell? ⟨14, 0, none⟩ = some (.int .i64 m)) (h : samples (bl s) = none) :
    Calls Tryz.prog 140 #[.string s] w fun e w' => ∃ sv : Value, e = .returned (.tuple #[sv, .bool false]) ∧ Below w.heap.size w w' := by
  refine (readSamples_any s m w hs hm).mono ?_
  rintro e w' ⟨sv, ok, rfl, hok, hb⟩
  rcases hok.out with ⟨_, _, _, _, _, h', _⟩ | ⟨h', _⟩
  · rw [h] at h'; cases h'
  · exact ⟨sv, by rw [h'], hb⟩
theorem readSamples_some {s : ByteArray} {n : Nat} (m : Int) (w : World) (hs : s.size ≤ 6000) (hm : w.cell? ⟨14, 0, none⟩ = some (.int .i64 m)) (h : samples (bl s) = some n) :
    Calls Tryz.prog 140 #[.string s] w fun e w' => ∃ a cap, e = .returned (.tuple #[.slice a n cap, .bool true]) ∧ Hid (w'.ownsRow w.heap.size 313 2 (.slice a n cap) n (flatP (samsL (bl s)))) ∧ Below w.heap.size w w' := by
  refine (readSamples_any s m w hs hm).mono ?_
  rintro e w' ⟨sv, ok, rfl, hok, hb⟩
  rcases hok.out with ⟨h1, a, n', cap, h2, h', h3⟩ | ⟨_, h'⟩
  · rw [h] at h'; obtain rfl := Option.some.inj h'
    exact ⟨a, cap, by rw [h1, h2], by rw [← h2]; exact h3, hb⟩
  · rw [h] at h'; cases h'
def SeriesV (w : World) (l : List UInt8) (nm : ByteArray) (lv : Value) (tx : ByteArray) (sv : Value) (sn : Nat) : Prop := ∃ (inside : List UInt8) (qs : List (ByteArray × ByteArray)), line l = some (bl nm, inside, sn) ∧ labels inside = some (qs.map blP) ∧ LabelRow w 0 lv qs.length qs ∧ bl tx = labelsS qs ∧ w.ownsRow 0 313 2 sv sn (flatP (sams1 l))
theorem SeriesV.below {w w' : World} {l : List UInt8} {nm : ByteArray} {lv : Value} {tx : ByteArray} {sv : Value} {sn : Nat} (h : SeriesV w l nm lv tx sv sn) (hb : Below w.heap.size w w') : SeriesV w' l nm lv tx sv sn := by
  obtain ⟨i, qs, h1, h2, h3, h4, h5⟩ := h; exact ⟨i, qs, h1, h2, h3.below hb, h4, own_below h5 hb⟩
theorem SeriesV.other {w w' : World} {l : List UInt8} {nm : ByteArray} {lv : Value} {tx : ByteArray} {sv : Value} {sn : Nat} (h : SeriesV w l nm lv tx sv sn) {a : Nat} {c : Array Value} {fr : Nat × Nat} (hq : w.heap[a]? = some (.cells c 199 fr)) (hg : ∀ j, j ≠ a → w'.heap[j]? = w.heap[j]?) : SeriesV w' l nm lv tx sv sn := by
  obtain ⟨i, qs, h1, h2, h3, h4, h5⟩ := h
  exact ⟨i, qs, h1, h2, ⟨own_same' h3.1 (fun j hj => hg j (fun e => own_ne_block h3.1 hq (by decide) (by rw [hj, e]))), h3.2⟩, h4, own_same' h5 (fun j hj => hg j (fun e => own_ne_block h5 hq (by decide) (by rw [hj, e])))⟩
def SeriesIs (w : World) (l : List UInt8) (nm : ByteArray) (lv : Value) (tx : ByteArray) (sv : Value) (sn : Nat) (ok : Bool) : Prop := (ok = true ∧ SeriesV w l nm lv tx sv sn) ∨ (ok = false ∧ line l = none)
theorem hm_below {w w' : World} {m : Int} {B : Nat} (hm : w.cell? ⟨14, 0, none⟩ = some (.int .i64 m)) (hb : Below B w w') (hB : 14 < B) : w'.cell? ⟨14, 0, none⟩ = some (.int .i64 m) :=
  (hb.cell (p := ⟨_, 0, none⟩) hB).trans hm
set_option maxRecDepth 100000 in
set_option maxHeartbeats 2000000 in
theorem readSeries_any (s : ByteArray) (m : Int) (w : World) (hs : s.size ≤ 6000) (hm : w.cell? ⟨14, 0, none⟩ = some (.int .i64 m)) :
    Calls Tryz.prog 89 #[.string s] w fun e w' => ∃ (nm : ByteArray) (a : Option Addr) (n cap : Nat) (tx : ByteArray) (sa : Option Addr) (sn sc : Nat) (ok : Bool), e = .returned (.tuple #[.agg #[.string nm, .slice a n cap, .string tx, .slice sa sn sc], .bool ok]) ∧
      Hid (SeriesIs w' (bl s) nm (.slice a n cap) tx (.slice sa sn sc) sn ok) ∧ Below w.heap.size w w' := by
  have hgl := World.block_lt_of_cell? _ _ hm
  have hm1 : ∀ o, (w.alloc o).cell? ⟨14, 0, none⟩ = some (.int .i64 m) := fun o => by
    rw [World.cell?_alloc_lt _ _ _ hgl]; exact hm
  have hm2 : ∀ o (j : Nat), ((w.alloc o).drewN j).cell? ⟨14, 0, none⟩ = some (.int .i64 m) := fun o j => hm1 o
  cases hc : cut 123 (bl s) with
  | none =>
    have HS : Hid (∀ W nm lv tx sv, SeriesIs W (bl s) nm lv tx sv 0 false) := hid (fun _ _ _ _ _ => Or.inr ⟨rfl, line_noopen hc⟩)
    have HC : Hid (cut 123 (bl s) = none) := hc
    clear hc
    go_enter Tryz.func89, Tryz.ntmps89
    go_wp2_with fail
    refine (cut_miss m _ hs (hm1 _) HC.out).mono ?_
    rintro e w' ⟨a, b, rfl, hab, j, rfl⟩
    have hsb : b.size ≤ 6000 := by rw [size_of_bl hab.out.2]; simp
    go_wp2_with fail
    refine (cut_miss m _ hsb (hm2 _ _) (by rw [hab.out.2]; rfl)).mono ?_
    rintro e w' ⟨a2, b2, rfl, hab2, j2, rfl⟩
    go_wp2
    exact bodyPost_ret (v := .tuple #[.agg #[.string ⟨#[]⟩, .slice none 0 0, .string ⟨#[]⟩, .slice none 0 0], .bool false]) (by simp [results, Tryz.results89, go_sem]) rfl ⟨⟨#[]⟩, none, 0, 0, ⟨#[]⟩, none, 0, 0, false, rfl, hid (HS.out _ _ _ _ _), (by repeat (first | exact Below.refl _ _ | assumption | refine Below.alloc ?_ (by first | omega | (simp; omega) | simp) _ | refine Below.setCell ?_ (by first | omega | (simp; omega) | simp) _ | refine below_drewN' ?_ _ | refine Below.drew ?_))⟩
  | some p =>
    obtain ⟨x, r⟩ := p
    have hxl : x.length ≤ s.size ∧ r.length ≤ s.size := by rw [← bl_length, (cut_some hc).1]; simp; omega
    have HC : Hid (cut 123 (bl s) = some (x, r)) := hc
    clear hc
    cases hc2 : cut 125 r with
    | none =>
      have HS : Hid (∀ W nm lv tx sv, SeriesIs W (bl s) nm lv tx sv 0 false) := hid (fun _ _ _ _ _ => Or.inr ⟨rfl, line_noclose HC.out hc2⟩)
      have HC2 : Hid (cut 125 r = none) := hc2
      clear hc2
      go_enter Tryz.func89, Tryz.ntmps89
      go_wp2_with fail
      refine (cut_hit m _ hs (hm1 _) HC.out).mono ?_
      rintro e w' ⟨a, b, rfl, hab, j, rfl⟩
      have hsb : b.size ≤ 6000 := by rw [size_of_bl hab.out.2]; omega
      go_wp2_with fail
      refine (cut_miss m _ hsb (hm2 _ _) (by rw [hab.out.2]; exact HC2.out)).mono ?_
      rintro e w' ⟨a2, b2, rfl, hab2, j2, rfl⟩
      go_wp2
      exact bodyPost_ret (v := .tuple #[.agg #[.string ⟨#[]⟩, .slice none 0 0, .string ⟨#[]⟩, .slice none 0 0], .bool false]) (by simp [results, Tryz.results89, go_sem]) rfl ⟨⟨#[]⟩, none, 0, 0, ⟨#[]⟩, none, 0, 0, false, rfl, hid (HS.out _ _ _ _ _), (by repeat (first | exact Below.refl _ _ | assumption | refine Below.alloc ?_ (by first | omega | (simp; omega) | simp) _ | refine Below.setCell ?_ (by first | omega | (simp; omega) | simp) _ | refine below_drewN' ?_ _ | refine Below.drew ?_))⟩
    | some q =>
      obtain ⟨y, z⟩ := q
      have hyl : y.length ≤ r.length ∧ z.length ≤ r.length := by rw [(cut_some hc2).1]; simp; omega
      have HC2 : Hid (cut 125 r = some (y, z)) := hc2
      have hline := line_of HC.out hc2
      clear hc2
      cases hn : isName x
      · have HS : Hid (∀ W nm lv tx sv, SeriesIs W (bl s) nm lv tx sv 0 false) := hid (fun _ _ _ _ _ => Or.inr ⟨rfl, by rw [hline, hn]; rfl⟩)
        have HN : Hid (isName x = false) := hn
        clear hn hline
        go_enter Tryz.func89, Tryz.ntmps89
        go_wp2_with fail
        refine (cut_hit m _ hs (hm1 _) HC.out).mono ?_
        rintro e w' ⟨a, b, rfl, hab, j, rfl⟩
        have hsa : a.size ≤ 6000 := by rw [size_of_bl hab.out.1]; omega
        have hsb : b.size ≤ 6000 := by rw [size_of_bl hab.out.2]; omega
        go_wp2_with fail
        refine (cut_hit m _ hsb (hm2 _ _) (by rw [hab.out.2]; exact HC2.out)).mono ?_
        rintro e w' ⟨a2, b2, rfl, hab2, j2, rfl⟩
        go_wp2_with fail
        refine (wIsName_of (b := false) _ hsa (by rw [hab.out.1]; exact HN.out)).mono ?_
        rintro e w' ⟨rfl, rfl⟩
        go_wp2
        exact bodyPost_ret (v := .tuple #[.agg #[.string ⟨#[]⟩, .slice none 0 0, .string ⟨#[]⟩, .slice none 0 0], .bool false]) (by simp [results, Tryz.results89, go_sem]) rfl ⟨⟨#[]⟩, none, 0, 0, ⟨#[]⟩, none, 0, 0, false, rfl, hid (HS.out _ _ _ _ _), (by repeat (first | exact Below.refl _ _ | assumption | refine Below.alloc ?_ (by first | omega | (simp; omega) | simp) _ | refine Below.setCell ?_ (by first | omega | (simp; omega) | simp) _ | refine below_drewN' ?_ _ | refine Below.drew ?_))⟩
      · have HN : Hid (isName x = true) := hn
        rw [hn] at hline
        clear hn
        go_enter Tryz.func89, Tryz.ntmps89
        have Hline : Hid _ := hline
        clear hline
        go_wp2_with fail
        refine (cut_hit m _ hs (hm1 _) HC.out).mono ?_
        rintro e w' ⟨a, b, rfl, hab, j, rfl⟩
        have hsa : a.size ≤ 6000 := by rw [size_of_bl hab.out.1]; omega
        have hsb : b.size ≤ 6000 := by rw [size_of_bl hab.out.2]; omega
        go_wp2_with fail
        refine (cut_hit m _ hsb (hm2 _ _) (by rw [hab.out.2]; exact HC2.out)).mono ?_
        rintro e w' ⟨a2, b2, rfl, hab2, j2, rfl⟩
        have hsa2 : a2.size ≤ 6000 := by rw [size_of_bl hab2.out.1]; omega
        have hsb2 : b2.size ≤ 6000 := by rw [size_of_bl hab2.out.2]; omega
        go_wp2_with fail
        refine (wIsName_of (b := true) _ hsa (by rw [hab.out.1]; exact HN.out)).mono ?_
        rintro e w' ⟨rfl, rfl⟩
        cases hlb : (labels y).isSome
        · have HS : Hid (∀ W nm lv tx sv, SeriesIs W (bl s) nm lv tx sv 0 false) := hid (fun _ _ _ _ _ => Or.inr ⟨rfl, by rw [Hline.out, hlb]; rfl⟩)
          have HL : Hid ((labels y).isSome = false) := hlb
          clear hlb
          go_wp2_with fail
          refine (readLabels_bad m _ hsa2 (hm2 _ _) (by rw [hab2.out.1]; exact HL.out)).mono ?_
          rintro e w3 ⟨la, ln, lc, rfl, hb3⟩
          have hb3' : Below (w.heap.size + 1) (w.alloc (.cells #[.string ⟨#[]⟩, .slice none 0 0, .string ⟨#[]⟩, .slice none 0 0] 199)) w3 := (below_undrew hb3).mono (B' := w.heap.size + 1) (by simp)
          have hB3 : Below w.heap.size w w3 := ((Below.refl w.heap.size w).alloc (Nat.le_refl _) _).trans (hb3'.mono (by omega))
          obtain ⟨k0, k1, k2, k3, g0, g1, g2, g3⟩ := box4 hb3'
          clear hb3 hb3'
          go_wp2
          exact bodyPost_ret (v := .tuple #[.agg #[.string ⟨#[]⟩, .slice none 0 0, .string ⟨#[]⟩, .slice none 0 0], .bool false]) (by simp [results, Tryz.results89, go_sem, k0, k1, k2, k3]) rfl ⟨⟨#[]⟩, none, 0, 0, ⟨#[]⟩, none, 0, 0, false, rfl, hid (HS.out _ _ _ _ _), (by repeat (first | exact Below.refl _ _ | assumption | refine Below.alloc ?_ (by first | omega | (simp; omega) | simp) _ | refine Below.setCell ?_ (by first | omega | (simp; omega) | simp) _ | refine below_drewN' ?_ _ | refine Below.drew ?_))⟩
        · have HL : Hid ((labels y).isSome = true) := hlb
          rw [hlb] at Hline
          clear hlb
          go_wp2_with fail
          refine (readLabels_good m _ hsa2 (hm2 _ _) (by rw [hab2.out.1]; exact HL.out)).mono ?_
          rintro e w3 ⟨la, ln, lc, qs, rfl, HQ, hb3⟩
          have hz3 : w.heap.size + 1 ≤ w3.heap.size := by have := hb3.size; simp at this; omega
          have hm3 : w3.cell? ⟨14, 0, none⟩ = some (.int .i64 m) := hm_below (hm2 _ _) hb3 (by simp; omega)
          have hb3' : Below (w.heap.size + 1) (w.alloc (.cells #[.string ⟨#[]⟩, .slice none 0 0, .string ⟨#[]⟩, .slice none 0 0] 199)) w3 := (below_undrew hb3).mono (B' := w.heap.size + 1) (by simp)
          have hB3 : Below w.heap.size w w3 := ((Below.refl w.heap.size w).alloc (Nat.le_refl _) _).trans (hb3'.mono (by omega))
          clear hb3
          cases hsm : samples z with
          | none =>
            have HS : Hid (∀ W nm lv tx sv, SeriesIs W (bl s) nm lv tx sv 0 false) := hid (fun _ _ _ _ _ => Or.inr ⟨rfl, by rw [Hline.out, hsm]; rfl⟩)
            have HM : Hid (samples z = none) := hsm
            clear hsm
            go_wp2_with fail
            refine (readSamples_none m _ hsb2 hm3 (by rw [hab2.out.2]; exact HM.out)).mono ?_
            rintro e w4 ⟨sv, rfl, hb4⟩
            obtain ⟨k0, k1, k2, k3, g0, g1, g2, g3⟩ := box4 (hb3'.trans (hb4.mono hz3))
            have hB4 : Below w.heap.size w w4 := hB3.trans (hb4.mono (by omega))
            clear hb3' hb4 hB3
            go_wp2
            exact bodyPost_ret (v := .tuple #[.agg #[.string ⟨#[]⟩, .slice none 0 0, .string ⟨#[]⟩, .slice none 0 0], .bool false]) (by simp [results, Tryz.results89, go_sem, k0, k1, k2, k3]) rfl ⟨⟨#[]⟩, none, 0, 0, ⟨#[]⟩, none, 0, 0, false, rfl, hid (HS.out _ _ _ _ _), (by repeat (first | exact Below.refl _ _ | assumption | refine Below.alloc ?_ (by first | omega | (simp; omega) | simp) _ | refine Below.setCell ?_ (by first | omega | (simp; omega) | simp) _ | refine below_drewN' ?_ _ | refine Below.drew ?_))⟩
          | some n =>
            have HS : Hid (line (bl s) = some (x, y, n)) := hid (by rw [Hline.out, hsm]; rfl)
            have HSA : Hid (sams1 (bl s) = samsL z) := hid (sams1_of HN.out HC.out HC2.out)
            have HM : Hid (samples z = some n) := hsm
            clear hsm
            go_wp2_with fail
            refine (readSamples_some m _ hsb2 hm3 (by rw [hab2.out.2]; exact HM.out)).mono ?_
            rintro e w4 ⟨sa, sc, rfl, HSR, hb4⟩
            have HR4 : Hid (LabelRow w4 0 (.slice la ln lc) ln qs) := LabelRow.below HQ.out.1 hb4
            have hb44 := hb3'.trans (hb4.mono hz3)
            have hz4 : w.heap.size + 1 ≤ w4.heap.size := Nat.le_trans hz3 hb4.size
            have hB4 : Below w.heap.size w w4 := hB3.trans (hb4.mono (by omega))
            clear hb3' hb4 hB3
            go_wp2_with fail
            refine (of_any _ _ _ w4 qs HR4.out).mono ?_
            rintro e w5 ⟨oa, oc, rfl, hr5, hb5⟩
            have hqn : qs.length = ln := by have := HR4.out.1.1; rw [flatL_length] at this; omega
            have HSV : Hid (SeriesV w5 (bl s) a (.slice oa ln oc) ⟨(labelsS qs).toArray⟩ (.slice sa n sc) n) := hid ⟨y, qs, by rw [HS.out, hab.out.1], by rw [← hab2.out.1]; exact HQ.out.2, by rw [hqn]; exact hr5, bl_mk _, by rw [HSA.out, ← hab2.out.2]; exact own_below (own_zeroL HSR.out) hb5⟩
            clear hqn
            obtain ⟨k0, k1, k2, k3, g0, g1, g2, g3⟩ := box4 (hb44.trans (hb5.mono hz4))
            have HBX : Hid (w5.heap[w.heap.size]? = some (.cells #[.string ⟨#[]⟩, .slice none 0 0, .string ⟨#[]⟩, .slice none 0 0] 199 (0, 0))) := hid (((hb44.trans (hb5.mono hz4)).block _ (by omega)).trans (Go.Deep.blk_alloc_new _ _))
            have hB5 : Below w.heap.size w w5 := hB4.trans (hb5.mono (by omega))
            clear hb44 hb5 hr5 hB4
            go_wp2
            exact bodyPost_ret (v := .tuple #[.agg #[.string a, .slice oa ln oc, .string ⟨(labelsS qs).toArray⟩, .slice sa n sc], .bool true]) (by simp [results, Tryz.results89, go_sem, k0, k1, k2, k3]) rfl ⟨a, oa, ln, oc, _, sa, n, sc, true, rfl, hid (Or.inl ⟨rfl, HSV.out.other HBX.out (fun j hj => by first | rfl | (repeat rw [Go.Deep.blk_setCell_other _ _ _ _ (by exact hj)]))⟩), (by repeat (first | exact Below.refl _ _ | assumption | refine Below.alloc ?_ (by first | omega | (simp; omega) | simp) _ | refine Below.setCell ?_ (by first | omega | (simp; omega) | simp) _ | refine below_drewN' ?_ _ | refine Below.drew ?_))⟩
theorem atLine_any (i : Int) (what : Value) (w : World) :
    Calls Tryz.prog 90 #[.int .i64 i, .iface 389 what] w fun e w' => e = .returned (.iface 94 (.pointer (some ⟨w.heap.size, 0, none⟩))) ∧ w' = w.alloc (.cells #[.string ⟨#[108, 105, 110, 101]⟩, .int .i64 i, .iface 389 what] 98) := by
  go_enter Tryz.func90, Tryz.ntmps90
  go_wp2
  go_ret
  exact ⟨rfl, rfl⟩
theorem Tryz.infoSeries : (Tryz.prog.info? 199).map (fun i => (i.zero, i.size, i.bytes)) = some (some (.agg #[.string ByteArray.empty, .slice none 0 0, .string ByteArray.empty, .slice none 0 0]), 4, 80) := by kernel_rfl
theorem cells_four {W : World} {a : Nat} {u v x z : Value} (h0 : W.cell? ⟨a, 0, none⟩ = some u) (h1 : W.cell? ⟨a, 1, none⟩ = some v) (h2 : W.cell? ⟨a, 2, none⟩ = some x) (h3 : W.cell? ⟨a, 3, none⟩ = some z) : ∀ j y, [u, v, x, z][j]? = some y → W.cell? ((⟨a, 0, none⟩ : Addr).add j) = some y := by
  intro j y hj
  rw [add_zero_block]
  match j, hj with
  | 0, hj => simp at hj; subst hj; exact h0
  | 1, hj => simp at hj; subst hj; exact h1
  | 2, hj => simp at hj; subst hj; exact h2
  | 3, hj => simp at hj; subst hj; exact h3
def flat3 : List (Value × Value × Value) → List Value
  | [] => []
  | r :: rs => r.1 :: r.2.1 :: r.2.2 :: flat3 rs
def flat4 : List (Value × Value × Value × Value) → List Value
  | [] => []
  | r :: rs => r.1 :: r.2.1 :: r.2.2.1 :: r.2.2.2 :: flat4 rs
theorem flat4_append (a b : List (Value × Value × Value × Value)) : flat4 (a ++ b) = flat4 a ++ flat4 b := by
  induction a with
  | nil => rfl
  | cons r a ih => simp [flat4, ih]
theorem flat4_get (rs : List (Value × Value × Value × Value)) (j : Nat) : (flat4 rs)[j * 4]? = rs[j]?.map (·.1) ∧ (flat4 rs)[j * 4 + 1]? = rs[j]?.map (·.2.1) ∧ (flat4 rs)[j * 4 + 2]? = rs[j]?.map (·.2.2.1) ∧ (flat4 rs)[j * 4 + 3]? = rs[j]?.map (·.2.2.2) := by
  induction rs generalizing j with
  | nil => simp [flat4]
  | cons r rs ih =>
    cases j with
    | zero => simp [flat4]
    | succ j =>
      obtain ⟨h1, h2, h3, h4⟩ := ih j
      refine ⟨?_, ?_, ?_, ?_⟩
      · rw [show (j + 1) * 4 = j * 4 + 1 + 1 + 1 + 1 by omega]; simpa [flat4] using h1
      · rw [show (j + 1) * 4 + 1 = j * 4 + 1 + 1 + 1 + 1 + 1 by omega]; simpa [flat4] using h2
      · rw [show (j + 1) * 4 + 2 = j * 4 + 2 + 1 + 1 + 1 + 1 by omega]; simpa [flat4] using h3
      · rw [show (j + 1) * 4 + 3 = j * 4 + 3 + 1 + 1 + 1 + 1 by omega]; simpa [flat4] using h4
def RowsAre (rs : List (Value × Value × Value × Value)) (es : List Entry) : Prop := rs.length = es.length ∧ ∀ j (h : j < es.length), ∃ nm a n c tx sa sc, rs[j]? = some (.string nm, .slice a n c, .string tx, .slice sa (es[j]).count sc)
theorem RowsAre.snoc {rs : List (Value × Value × Value × Value)} {es : List Entry} (h : RowsAre rs es) (x : Entry) (nm : ByteArray) (a : Option Addr) (n c : Nat) (tx : ByteArray) (sa : Option Addr) (sc : Nat) :
    RowsAre (rs ++ [(.string nm, .slice a n c, .string tx, .slice sa x.count sc)]) (es ++ [x]) := by
  refine ⟨by simp [h.1], fun j hj => ?_⟩
  by_cases hlt : j < es.length
  · obtain ⟨nm', a', n', c', tx', sa', sc', e⟩ := h.2 j hlt
    exact ⟨nm', a', n', c', tx', sa', sc', by rw [List.getElem?_append_left (by rw [h.1]; exact hlt), e, List.getElem_append_left hlt]⟩
  · have hj' : j = es.length := by simp at hj; omega
    subst hj'
    refine ⟨nm, a, n, c, tx, sa, sc, ?_⟩
    rw [List.getElem?_append_right (by rw [h.1]; exact Nat.le_refl _), h.1]; simp
theorem SeriesV.grown {w w' : World} {l : List UInt8} {nm : ByteArray} {lv : Value} {tx : ByteArray} {sv : Value} {sn : Nat} (h : SeriesV w l nm lv tx sv sn) {b : Nat} {e : TypeId} {s : Nat} {v : Value} {n : Nat} {xs : List Value} (hg : w.grownBy w' v.ownBlock) (hv : w.ownsRow b e s v n xs) (h1 : 320 ≠ e) (h2 : 313 ≠ e) : SeriesV w' l nm lv tx sv sn := by
  obtain ⟨i, qs, e1, e2, e3, e4, e5⟩ := h
  exact ⟨i, qs, e1, e2, ⟨e3.1.kept hg (own_ne e3.1 hv h1), e3.2⟩, e4, e5.kept hg (own_ne e5 hv h2)⟩
def AllV (w : World) (rs : List (Value × Value × Value × Value)) (es : List Entry) (ps : List (List UInt8)) : Prop := ∀ j (h : j < es.length), ∃ (nm : ByteArray) (a : Option Addr) (n c : Nat) (tx : ByteArray) (sa : Option Addr) (sc : Nat), rs[j]? = some (.string nm, .slice a n c, .string tx, .slice sa (es[j]).count sc) ∧ SeriesV w (ps.getD (es[j]).at_ []) nm (.slice a n c) tx (.slice sa (es[j]).count sc) (es[j]).count ∧ line (ps.getD (es[j]).at_ []) = some ((es[j]).name, (es[j]).inside, (es[j]).count)
theorem AllV.below {w w' : World} {rs : List (Value × Value × Value × Value)} {es : List Entry} {ps : List (List UInt8)} (h : AllV w rs es ps) (hb : Below w.heap.size w w') : AllV w' rs es ps := fun j hj => by
  obtain ⟨nm, a, n, c, tx, sa, sc, e1, e2, e3⟩ := h j hj; exact ⟨nm, a, n, c, tx, sa, sc, e1, e2.below hb, e3⟩
theorem AllV.grown {w w' : World} {rs : List (Value × Value × Value × Value)} {es : List Entry} {ps : List (List UInt8)} (h : AllV w rs es ps) {b : Nat} {e : TypeId} {s : Nat} {v : Value} {n : Nat} {xs : List Value} (hg : w.grownBy w' v.ownBlock) (hv : w.ownsRow b e s v n xs) (h1 : 320 ≠ e) (h2 : 313 ≠ e) : AllV w' rs es ps := fun j hj => by
  obtain ⟨nm, a, n, c, tx, sa, sc, e1, e2, e3⟩ := h j hj; exact ⟨nm, a, n, c, tx, sa, sc, e1, e2.grown hg hv h1 h2, e3⟩
theorem AllV.snoc {w : World} {rs : List (Value × Value × Value × Value)} {es : List Entry} {ps : List (List UInt8)} (hl : rs.length = es.length) (h : AllV w rs es ps) (z : Entry) (nm : ByteArray) (a : Option Addr) (n c : Nat) (tx : ByteArray) (sa : Option Addr) (sc : Nat)
    (h1 : SeriesV w (ps.getD z.at_ []) nm (.slice a n c) tx (.slice sa z.count sc) z.count) (h2 : line (ps.getD z.at_ []) = some (z.name, z.inside, z.count)) : AllV w (rs ++ [(.string nm, .slice a n c, .string tx, .slice sa z.count sc)]) (es ++ [z]) ps := fun j hj => by
  by_cases hlt : j < es.length
  · obtain ⟨nm', a', n', c', tx', sa', sc', e1, e2⟩ := h j hlt
    refine ⟨nm', a', n', c', tx', sa', sc', ?_⟩
    rw [List.getElem?_append_left (by rw [hl]; exact hlt), List.getElem_append_left hlt]
    exact ⟨e1, e2⟩
  · have hj' : j = es.length := by simp at hj; omega
    subst hj'
    refine ⟨nm, a, n, c, tx, sa, sc, ?_⟩
    rw [List.getElem?_append_right (by rw [hl]; exact Nat.le_refl _), hl]
    simp only [Nat.sub_self, List.getElem?_cons_zero, List.getElem_append_right (Nat.le_refl _), List.getElem_cons_zero]
    exact ⟨trivial, h1, h2⟩
set_option maxRecDepth 100000 in
set_option maxHeartbeats 2000000 in
theorem readLines_any (g : Nat) (ps : List (List UInt8)) (n : Nat) (A : Nat → Addr) (m : Int) (w : World) (hn : Hid (n = ps.length)) (hn6 : n ≤ 6001) (hp6 : Hid (∀ i, i < ps.length → (ps.getD i []).length ≤ 6000)) (hrow : StrRow w g ps) (hv : Vars w A m) :
    Calls Tryz.prog 43 #[.slice (some ⟨g, 0, none⟩) n n] w fun e w' => Below w.heap.size w w' ∧
      ((∃ (i : Nat) (fa : Nat), e = .returned (.tuple #[.slice none 0 0, .iface 94 (.pointer (some ⟨fa, 0, none⟩))]) ∧ w'.heap[fa]? = some (.cells #[.string ⟨#[108, 105, 110, 101]⟩, .int .i64 i, .iface 389 (.pointer (some (A 4)))] 98 (0, 0)) ∧ Hid (linesAcc 0 [] ps = .inl i)) ∨
       (∃ (v : Value) (es : List Entry) (rs : List (Value × Value × Value × Value)), e = .returned (.tuple #[v, .nilIface]) ∧ w'.ownsRow 0 199 4 v es.length (flat4 rs) ∧ Hid (RowsAre rs es ∧ linesAcc 0 [] ps = .inr es) ∧ Hid (AllV w' rs es ps))) := by
  obtain ⟨i0, hi, hz0, hz1, hz2⟩ := info_parts Tryz.infoSeries
  have hgl : g < w.heap.size := hrow.1
  go_enter Tryz.func43, Tryz.ntmps43
  go_wp2
  go_loopw [4, 11] (fun v i wr => ∃ (k : Nat) (es : List Entry) (rs : List (Value × Value × Value × Value)), k ≤ n ∧ i = .int .i64 k ∧ es.length ≤ k ∧ wr.ownsRow w.heap.size 199 4 v es.length (flat4 rs) ∧ Hid (RowsAre rs es ∧ linesAcc 0 [] ps = linesAcc k es (ps.drop k)) ∧ Hid (AllV wr rs es ps) ∧ Below w.heap.size w wr)
    (fun _ i _ => n - (intOf i).toNat)
  case atStart => exact ⟨0, [], [], Nat.zero_le _, rfl, Nat.zero_le _, World.ownsRow_nil _ _ _ _, ⟨⟨rfl, fun j h => by simp at h⟩, rfl⟩, hid (fun j h => by simp at h), Below.refl _ _⟩
  case round =>
    obtain ⟨k, es, rs, hk, rfl, hek, hown, HA, HAV, hbr⟩ := hrel
    have hwr : w.heap.size ≤ wr.heap.size := hbr.size
    have hvr := hv.below hbr
    by_cases hlt : k < n
    · have hkl : k < ps.length := by rw [← hn.out]; exact hlt
      obtain ⟨sk, hck, hsk⟩ := (hrow.below hbr hgl).2 k hkl
      have hsk6 : sk.size ≤ 6000 := by rw [size_of_bl hsk]; exact hp6.out k hkl
      have HK : Hid (bl sk = ps.getD k []) := hsk
      clear hsk
      cases he : sk.toList.isEmpty
      · have HNE : Hid (ps.getD k [] ≠ []) := by rw [← HK.out]; exact ne_of_nonempty he
        have hmr := hvr.max
        have hst := hvr.sent 4 (by decide)
        go_wp2_with fail
        refine (readSeries_any sk m _ hsk6 hmr).mono ?_
        rintro e w2 ⟨nm, la, ln, lc, tx, sa, sn, sc, ok, rfl, hser, hb2⟩
        have hst2 : w2.cell? ⟨4, 0, none⟩ = some (.iface 389 (.pointer (some (A 4)))) := (hvr.below hb2).sent _ (by decide)
        have hst3 : ∀ o, (w2.alloc o).cell? ⟨4, 0, none⟩ = some (.iface 389 (.pointer (some (A 4)))) := fun o => ((hvr.below hb2).alloc o).sent _ (by decide)
        have hbw : Below w.heap.size w w2 := hbr.trans (hb2.mono hwr)
        have hw2 : w.heap.size ≤ w2.heap.size := hbw.size
        have hown2 := own_below hown hb2
        clear hst hmr hvr
        cases ok
        · have HF : Hid (linesAcc 0 [] ps = .inl k) := hid (by
            rw [HA.out.2]; refine linesAcc_bad hkl HNE.out ?_
            rw [← HK.out]
            rcases hser.out with ⟨h, _⟩ | ⟨_, h⟩
            · cases h
            · exact h)
          go_wp2_with (go_at_call 90; refine (atLine_any _ _ _).mono ?_; rintro e w' ⟨rfl, rfl⟩)
          go_ret2
          refine ⟨(by repeat (first | exact Below.refl _ _ | assumption | refine Below.alloc ?_ (by first | omega | (simp; omega) | simp) _ | refine Below.setCell ?_ (by first | omega | (simp; omega) | simp) _ | refine below_drewN' ?_ _ | refine Below.drew ?_)), Or.inl ⟨k, w2.heap.size + 1, rfl, ?_, HF⟩⟩
          rw [show w2.heap.size + 1 = (w2.alloc (.cells #[.string nm, .slice la ln lc, .string tx, .slice sa sn sc] 199)).heap.size by simp]
          exact Array.getElem?_push_size
        · have HSV : Hid (SeriesV w2 (bl sk) nm (.slice la ln lc) tx (.slice sa sn sc) sn) := hid (by
            rcases hser.out with ⟨_, h⟩ | ⟨h, _⟩
            · exact h
            · cases h)
          obtain ⟨na, ins, hli⟩ : ∃ name inside, line (bl sk) = some (name, inside, sn) := by
            obtain ⟨ins, qs, h, _⟩ := HSV.out; exact ⟨_, ins, h⟩
          have HAV2 : Hid (AllV w2 (rs ++ [(.string nm, .slice la ln lc, .string tx, .slice sa sn sc)]) (es ++ [⟨k, na, ins, sn⟩]) ps) := hid (AllV.snoc HA.out.1.1 (HAV.out.below hb2) ⟨k, na, ins, sn⟩ nm la ln lc tx sa sc (by show SeriesV w2 (ps.getD k []) nm (.slice la ln lc) tx (.slice sa sn sc) sn; rw [← HK.out]; exact HSV.out) (by show line (ps.getD k []) = some (na, ins, sn); rw [← HK.out]; exact hli))
          have HF : Hid (RowsAre (rs ++ [(.string nm, .slice la ln lc, .string tx, .slice sa sn sc)]) (es ++ [⟨k, na, ins, sn⟩]) ∧ linesAcc 0 [] ps = linesAcc (k + 1) (es ++ [⟨k, na, ins, sn⟩]) (ps.drop (k + 1))) :=
            ⟨HA.out.1.snoc ⟨k, na, ins, sn⟩ nm la ln lc tx sa sc, by rw [HA.out.2]; exact linesAcc_cons hkl HNE.out (by rw [← HK.out]; exact hli)⟩
          clear hli hser
          go_wp2_with (at_builtin; refine wpList_append_own _ rfl (.tmp 28) (.tmp 30) 60 rfl w.heap.size 199 i0 (.agg #[.string ByteArray.empty, .slice none 0 0, .string ByteArray.empty, .slice none 0 0]) 4 80 Tryz.underlying60 hi hz0 hz1 hz2 rfl (by decide) _ _ _ rfl ((hown2.alloc _).alloc _) ⟨w2.heap.size + 1, 0, none⟩ 1 1 [.string nm, .slice la ln lc, .string tx, .slice sa sn sc] rfl rfl ?c1 ?c2 ?c3 ?c4 ?c5 ?_)
          case c1 => exact cells_four (by simp) (by simp) (by simp) (by simp)
          case c2 => intro u hu; simp at hu; rcases hu with rfl | rfl | rfl | rfl <;> rfl
          case c3 => unfold maxLen; omega
          case c4 => omega
          case c5 => simp; omega
          intro v' w3 hown3 hgrow _
          have hb3 : Below w.heap.size w w3 := ((hbw.alloc (by omega) _).alloc (by simp; omega) _).grown hgrow (by simp; omega) (fun q hq => (hown2.lt q hq).1)
          have hown4 : w3.ownsRow w.heap.size 199 4 v' (es ++ [(⟨k, na, ins, sn⟩ : Entry)]).length (flat4 (rs ++ [(.string nm, .slice la ln lc, .string tx, .slice sa sn sc)])) := by
            rw [flat4_append, List.length_append]; exact hown3
          have hb23 : ∀ o o' : Obj, Below w2.heap.size w2 ((w2.alloc o).alloc o') := fun o o' => ((Below.refl _ _).alloc (Nat.le_refl _) _).alloc (by simp) _
          have HAV3 : Hid (AllV w3 (rs ++ [(.string nm, .slice la ln lc, .string tx, .slice sa sn sc)]) (es ++ [⟨k, na, ins, sn⟩]) ps) := hid ((HAV2.out.below (hb23 _ _)).grown hgrow ((hown2.alloc _).alloc _) (by decide) (by decide))
          clear hown2 hown hgrow hown3 hb23
          go_wp2
          go_roundw
          case rel => exact ⟨k + 1, _, _, by omega, by go_num, by simp; omega, hown4, HF, HAV3, hb3⟩
          case measure => simp [intOf]; omega
      · have HF : Hid (RowsAre rs es ∧ linesAcc 0 [] ps = linesAcc (k + 1) es (ps.drop (k + 1))) :=
          ⟨HA.out.1, by rw [HA.out.2]; exact linesAcc_empty hkl (by rw [← HK.out]; exact nil_of_empty he)⟩
        go_wp2
        go_roundw
        case rel => exact ⟨k + 1, es, rs, by omega, by go_num, by omega, hown, HF, HAV, hbr⟩
        case measure => simp [intOf]; omega
    · have HF : Hid (RowsAre rs es ∧ linesAcc 0 [] ps = .inr es) := ⟨HA.out.1, by rw [HA.out.2]; exact linesAcc_end (by rw [← hn.out]; exact hlt)⟩
      go_wp2
      go_ret2
      exact ⟨hbr, Or.inr ⟨_, es, rs, rfl, hown.mono (Nat.zero_le _), HF, HAV⟩⟩
end Go.Proofs.YtpbemaaghbbocaaGreatDoor

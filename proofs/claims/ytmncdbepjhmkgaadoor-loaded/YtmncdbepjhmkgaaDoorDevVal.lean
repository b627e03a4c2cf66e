/- What the program's readers of values, samples and labels answer. -/
import Derived.Test.YtmncdbepjhmkgaaDoorLibC
import Derived.Test.YtmncdbepjhmkgaaDoorSamP
namespace Go.Proofs.YtmncdbepjhmkgaaDoor
open Go.RowKit LS

theorem valueOk_none {d : List UInt8} (h : number 1000000000 (strip 45 d).1 = none) : valueOk d = false := by unfold valueOk; rw [h]
theorem valueOk_some {d : List UInt8} {v : Nat} (h : number 1000000000 (strip 45 d).1 = some v) : valueOk d = !((strip 45 d).2 && v == 0) := by unfold valueOk; rw [h]

theorem wNumber_none {r : List UInt8} (s : ByteArray) (most : Nat) (mi : Int) (w : World) (hmi : mi = most) (hs : s.size ≤ 6000) (hm9 : 9 ≤ most) (hm : most ≤ 1000000000) (hr : bl s = r) (hn : number most r = none) :
    Calls Tryd.prog 66 #[.string s, .int .i64 mi] w fun e w' => e = .returned (.tuple #[.int .i64 0, .bool false]) ∧ w' = w := by
  subst hmi; subst hr
  have := wNumber_any s most w hs hm9 hm
  rwa [numT_none hn] at this
theorem wNumber_some {r : List UInt8} {v : Nat} (s : ByteArray) (most : Nat) (mi : Int) (w : World) (hmi : mi = most) (hs : s.size ≤ 6000) (hm9 : 9 ≤ most) (hm : most ≤ 1000000000) (hr : bl s = r) (hn : number most r = some v) :
    Calls Tryd.prog 66 #[.string s, .int .i64 mi] w fun e w' => e = .returned (.tuple #[.int .i64 v, .bool true]) ∧ w' = w := by
  subst hmi; subst hr
  have := wNumber_any s most w hs hm9 hm
  rwa [numT_some hn] at this
theorem cutPrefix_of {c : UInt8} {s : ByteArray} {r : List UInt8} {f : Bool} (w : World) (h : strip c (bl s) = (r, f)) :
    Calls Tryd.prog 54 #[.string s, .string ⟨#[c]⟩] w fun e w' => ∃ a : ByteArray, e = .returned (.tuple #[.string a, .bool f]) ∧ Hid (bl a = r) ∧ w' = w := by
  have := cutPrefix_any c s w
  rwa [h] at this

theorem valI_of {d d' : List UInt8} {less : Bool} {v : Int} (hst : strip 45 d = (d', less)) (hv : numI 1000000000 d' = v) : valI d = if less then -v else v := by
  unfold valI; rw [hst]; simp only [hv]
set_option maxHeartbeats 1000000 in
theorem readValue_any (s : ByteArray) (w : World) (hs : s.size ≤ 6000) :
    Calls Tryd.prog 67 #[.string s] w fun e w' => ∃ v : Int, e = .returned (.tuple #[.int .i64 v, .bool (valueOk (bl s))]) ∧ w' = w ∧ Hid (valueOk (bl s) = true → v = valI (bl s)) := by
  have hl : (strip 45 (bl s)).1.length ≤ s.size := by rw [← bl_length]; exact strip_length 45 (bl s)
  have hVn := @valueOk_none (bl s)
  have hVs := @valueOk_some (bl s)
  generalize hst : strip 45 (bl s) = st at *
  obtain ⟨r, f⟩ := st
  have Hst : Hid (strip 45 (bl s) = (r, f)) := hst
  clear hst
  simp only at hl hVn hVs
  cases hn : number 1000000000 r with
  | none =>
    have HV : Hid (valueOk (bl s) = false) := hVn hn
    have HN : Hid (number 1000000000 r = none) := hn
    clear hn hVn hVs
    cases f <;>
    · go_enter Tryd.func67, Tryd.ntmps67
      go_wp2_with fail
      refine (cutPrefix_of _ Hst.out).mono ?_
      rintro e w' ⟨a, rfl, ha, rfl⟩
      have hsa : a.size ≤ 6000 := by rw [size_of_bl ha.out]; omega
      go_wp2_with fail
      refine (wNumber_none a 1000000000 _ _ rfl hsa (by omega) (by omega) ha.out HN.out).mono ?_
      rintro e w' ⟨rfl, rfl⟩
      go_wp2
      go_ret2
      exact ⟨_, by rw [HV.out]; rfl, rfl, hid (fun h => by rw [HV.out] at h; cases h)⟩
  | some v =>
    have hv := number_le hn
    have HN : Hid (number 1000000000 r = some v) := hn
    have hV := hVs hn
    clear hn hVn hVs
    have hcase : (f = false ∧ valueOk (bl s) = true) ∨ (f = true ∧ ((v : Int) != 0) = true ∧ valueOk (bl s) = true) ∨ (f = true ∧ ((v : Int) != 0) = false ∧ valueOk (bl s) = false) := by
      cases f
      · exact Or.inl ⟨rfl, by simpa using hV⟩
      · by_cases hz : v = 0
        · subst hz; exact Or.inr (Or.inr ⟨rfl, rfl, by simpa using hV⟩)
        · exact Or.inr (Or.inl ⟨rfl, by simp; omega, by rw [hV]; simp [hz]⟩)
    clear hV
    rcases hcase with ⟨rfl, hV⟩ | ⟨rfl, hb, hV⟩ | ⟨rfl, hb, hV⟩
    all_goals
      have HV : Hid (valueOk (bl s) = _) := hV
      have HVI := hid (valI_of Hst.out (numI_some HN.out)).symm
      clear hV
      go_enter Tryd.func67, Tryd.ntmps67
      go_wp2_with fail
      refine (cutPrefix_of _ Hst.out).mono ?_
      rintro e w' ⟨a, rfl, ha, rfl⟩
      have hsa : a.size ≤ 6000 := by rw [size_of_bl ha.out]; omega
      go_wp2_with fail
      refine (wNumber_some a 1000000000 _ _ rfl hsa (by omega) (by omega) ha.out HN.out).mono ?_
      rintro e w' ⟨rfl, rfl⟩
      go_wp2
      go_ret2
      exact ⟨_, by rw [HV.out]; rfl, rfl, hid (fun h => by first | (rw [HV.out] at h; cases h; done) | exact HVI.out)⟩

/-- readSample: its time where it is one. -/
def SampleIs (l : List UInt8) (tm v : Int) (ok : Bool) : Prop := (ok = true ∧ ∃ t : Nat, sample l = some t ∧ tm = t ∧ t ≤ 1000000 ∧ smV l = (tm, v)) ∨ (ok = false ∧ sample l = none)

set_option maxHeartbeats 1000000 in
theorem readSample_any (s : ByteArray) (m : Int) (w : World) (hs : s.size ≤ 6000) (hm : w.cell? ⟨14, 0, none⟩ = some (.int .i64 m)) :
    Calls Tryd.prog 55 #[.string s] w fun e w' => ∃ (tm v : Int) (ok : Bool), e = .returned (.tuple #[.agg #[.int .i64 tm, .int .i64 v], .bool ok]) ∧ Hid (SampleIs (bl s) tm v ok) ∧ Below w.heap.size w w' := by
  have hm1 : ∀ o, (w.alloc o).cell? ⟨14, 0, none⟩ = some (.int .i64 m) := fun o => by
    rw [World.cell?_alloc_lt _ _ _ (World.block_lt_of_cell? _ _ hm)]; exact hm
  cases hc : cut 58 (bl s) with
  | none =>
    have HS : Hid (SampleIs (bl s) 0 0 false) := Or.inr ⟨rfl, by unfold sample; rw [hc]⟩
    have HC : Hid (cut 58 (bl s) = none) := hc
    clear hc
    go_enter Tryd.func55, Tryd.ntmps55
    go_wp2_with fail
    refine (cut_miss m _ hs (hm1 _) HC.out).mono ?_
    rintro e w' ⟨a, b, rfl, hab, n, rfl⟩
    go_wp2
    exact bodyPost_ret (v := .tuple #[.agg #[.int .i64 0, .int .i64 0], .bool false]) (by simp [results, Tryd.results55, go_sem]) rfl ⟨0, 0, false, rfl, HS, belB⟩
  | some xy =>
    obtain ⟨x, y⟩ := xy
    have hxl : x.length ≤ s.size ∧ y.length ≤ s.size := by
      rw [← bl_length, (cut_some hc).1]; simp; omega
    have HC : Hid (cut 58 (bl s) = some (x, y)) := hc
    cases hn : number 1000000 x with
    | none =>
      have HS : Hid (SampleIs (bl s) 0 0 false) := Or.inr ⟨rfl, by unfold sample; rw [hc]; simp only [hn]⟩
      have HN : Hid (number 1000000 x = none) := hn
      clear hc hn
      go_enter Tryd.func55, Tryd.ntmps55
      go_wp2_with fail
      refine (cut_hit m _ hs (hm1 _) HC.out).mono ?_
      rintro e w' ⟨a, b, rfl, hab, n, rfl⟩
      have hsa : a.size ≤ 6000 := by rw [size_of_bl hab.out.1]; omega
      go_wp2_with fail
      refine (wNumber_none a 1000000 _ _ rfl hsa (by omega) (by omega) hab.out.1 HN.out).mono ?_
      rintro e w' ⟨rfl, rfl⟩
      go_wp2
      exact bodyPost_ret (v := .tuple #[.agg #[.int .i64 0, .int .i64 0], .bool false]) (by simp [results, Tryd.results55, go_sem]) rfl ⟨0, 0, false, rfl, HS, belB⟩
    | some t =>
      have ht := number_le hn
      have HS : Hid (∀ v : Int, (valueOk y = true → v = valI y) → SampleIs (bl s) t v (valueOk y)) := hid (by
        intro v hvv
        cases hv : valueOk y
        · exact Or.inr ⟨rfl, by unfold sample; rw [hc]; simp [hn, hv]⟩
        · exact Or.inl ⟨rfl, t, by unfold sample; rw [hc]; simp [hn, hv], rfl, ht, by unfold smV; rw [hc]; simp only [numI_some hn, hvv hv]⟩)
      have HN : Hid (number 1000000 x = some t) := hn
      clear hc hn
      go_enter Tryd.func55, Tryd.ntmps55
      go_wp2_with fail
      refine (cut_hit m _ hs (hm1 _) HC.out).mono ?_
      rintro e w' ⟨a, b, rfl, hab, n, rfl⟩
      have hsa : a.size ≤ 6000 := by rw [size_of_bl hab.out.1]; omega
      have hsb : b.size ≤ 6000 := by rw [size_of_bl hab.out.2]; omega
      go_wp2_with fail
      refine (wNumber_some a 1000000 _ _ rfl hsa (by omega) (by omega) hab.out.1 HN.out).mono ?_
      rintro e w' ⟨rfl, rfl⟩
      go_wp2_with fail
      refine (readValue_any b _ hsb).mono ?_
      rintro e w' ⟨v, rfl, rfl, HVV⟩
      rw [hab.out.2]
      rw [hab.out.2] at HVV
      go_wp2
      exact bodyPost_ret (v := .tuple #[.agg #[.int .i64 t, .int .i64 v], .bool (valueOk y)]) (by simp [results, Tryd.results55, go_sem]) rfl ⟨t, v, valueOk y, rfl, hid (HS.out v HVV.out), belB⟩
end Go.Proofs.YtmncdbepjhmkgaaDoor

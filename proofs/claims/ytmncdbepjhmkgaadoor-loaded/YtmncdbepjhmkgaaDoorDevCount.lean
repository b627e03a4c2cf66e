/- How many samples the program counts in the series that it has read. -/
import Derived.Test.YtmncdbepjhmkgaaDoorDevLines
namespace Go.Proofs.YtmncdbepjhmkgaaDoor
open Go.RowKit LS

def sumTo (es : List Entry) (k : Nat) : Nat := ((es.take k).map (·.count)).sum
theorem sumTo_succ (es : List Entry) (k : Nat) (h : k < es.length) : sumTo es (k + 1) = sumTo es k + (es[k]).count := by
  unfold sumTo; rw [List.take_succ_eq_append_getElem h, List.map_append, List.sum_append]; rfl
theorem sumTo_le (es : List Entry) (h : ∀ e ∈ es, e.count ≤ 6001) (k : Nat) : sumTo es k ≤ 6001 * k := by
  induction k with
  | zero => simp [sumTo]
  | succ k ih =>
    by_cases hk : k < es.length
    · rw [sumTo_succ es k hk]; have := h _ (List.getElem_mem hk); omega
    · have : sumTo es (k + 1) = sumTo es k := by unfold sumTo; rw [List.take_of_length_le (by omega), List.take_of_length_le (by omega)]
      omega

set_option maxRecDepth 100000 in
set_option maxHeartbeats 1000000 in
theorem countSamples_any (v : Value) (es : List Entry) (rs : List (Value × Value × Value × Value)) (w : World) (hown : w.ownsRow 0 71 4 v es.length (flat4 rs)) (hR : Hid (RowsAre rs es)) (hc : Hid (∀ e ∈ es, e.count ≤ 6001)) (hl : es.length ≤ 6001) :
    Calls Tryd.prog 17 #[v] w fun e w' => e = .returned (.int .i64 (sumTo es es.length)) ∧ Below w.heap.size w w' := by
  obtain ⟨av, cp, rfl⟩ := own_shape hown
  go_enter Tryd.func17, Tryd.ntmps17
  go_wp2
  go_loopw [3, 8] (fun c i wr => ∃ k : Nat, k ≤ es.length ∧ i = .int .i64 k ∧ c = .int .i64 (sumTo es k) ∧ Below w.heap.size w wr) (fun _ i _ => es.length - (intOf i).toNat)
  case atStart => exact ⟨0, Nat.zero_le _, rfl, by simp [sumTo], Below.refl _ _⟩
  case round =>
    obtain ⟨k, hk, rfl, rfl, hbr⟩ := hrel
    have hwr : w.heap.size ≤ wr.heap.size := hbr.size
    have hs1 := sumTo_le es hc.out k
    by_cases hlt : k < es.length
    · have HS : Hid (sumTo es (k + 1) = sumTo es k + (es[k]).count) := sumTo_succ es k hlt
      have hcb := hc.out _ (List.getElem_mem hlt)
      obtain ⟨nm, a, n, c, tx, sa, sc, hr⟩ := hR.out.2 k hlt
      obtain ⟨f1, f2, f3, f4⟩ := flat4_get rs k
      rw [hr] at f1 f2 f3 f4
      have hg : ∃ g, av = some ⟨g, 0, none⟩ := by
        obtain ⟨g, cp', h⟩ := own_some hown (by omega)
        injection h with h1; exact ⟨g, h1⟩
      obtain ⟨g, rfl⟩ := hg
      have hgl := own_lt hown
      have c1 : wr.cell? ⟨g, k * 4, none⟩ = some (.string nm) := (hbr.cell (p := ⟨g, k * 4, none⟩) hgl).trans (own_cell hown _ _ f1)
      have c2 : wr.cell? ⟨g, k * 4 + 1, none⟩ = some (.slice a n c) := (hbr.cell (p := ⟨g, k * 4 + 1, none⟩) hgl).trans (own_cell hown _ _ f2)
      have c3 : wr.cell? ⟨g, k * 4 + 2, none⟩ = some (.string tx) := (hbr.cell (p := ⟨g, k * 4 + 2, none⟩) hgl).trans (own_cell hown _ _ f3)
      have c4 : wr.cell? ⟨g, k * 4 + 3, none⟩ = some (.slice sa (es[k]).count sc) := (hbr.cell (p := ⟨g, k * 4 + 3, none⟩) hgl).trans (own_cell hown _ _ f4)
      generalize (es[k]).count = cnt at *
      clear hr f1 f2 f3 f4
      go_wp2
      go_roundw
      case rel => exact ⟨k + 1, by omega, by go_num, by rw [HS.out]; go_num, belB⟩
      case measure => simp [intOf]; omega
    · obtain rfl : k = es.length := by omega
      go_wp2
      go_ret
      exact ⟨rfl, hbr⟩
end Go.Proofs.YtmncdbepjhmkgaaDoor

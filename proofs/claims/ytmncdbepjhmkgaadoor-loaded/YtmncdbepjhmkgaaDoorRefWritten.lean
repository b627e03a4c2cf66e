/- What the document's own writer of labels answers. -/
import Derived.Test.YtmncdbepjhmkgaaDoorRefLine
import Derived.BigQuiet
import Derived.Deep.QuietTactic
namespace Go.Proofs.YtmncdbepjhmkgaaDoor
open Go.RowKit LS

def writtenTo (ps : List (List UInt8 × List UInt8)) : Nat → List UInt8
  | 0 => []
  | k + 1 => (if 0 < k then writtenTo ps k ++ [44] else writtenTo ps k) ++ (ps.getD k ([], [])).1 ++ [61] ++ (ps.getD k ([], [])).2
theorem bl_append (a b : ByteArray) : bl (a ++ b) = bl a ++ bl b := by simp [bl]

set_option maxRecDepth 100000 in
set_option maxHeartbeats 1000000 in
theorem rWritten_any (v : Value) (base : Nat) (qs : List (ByteArray × ByteArray)) (w : World) (hown : w.ownsRow base 64 2 v qs.length (flat2 qs)) (hl : qs.length ≤ 6001) (hq : Hid (∀ q ∈ qs, q.1.size ≤ 6000 ∧ q.2.size ≤ 6000)) :
    Calls Tryd.prog 13 #[v] w fun e w' => ∃ r : ByteArray, e = .returned (.string r) ∧ Hid (bl r = writtenTo (qs.map bl2) qs.length) ∧ ∃ n, w' = w.drewN n := by
  obtain ⟨av, cp, rfl⟩ := own_shape hown
  go_enter Tryd.func13, Tryd.ntmps13
  go_wp2
  go_loopw [3, 4] (fun sv i wr => ∃ (k : Nat) (r : ByteArray) (nd : Nat), k ≤ qs.length ∧ i = .int .i64 k ∧ sv = .string r ∧ r.size ≤ 12002 * k ∧ Hid (bl r = writtenTo (qs.map bl2) k) ∧ wr = w.drewN nd) (fun _ i _ => qs.length - (intOf i).toNat)
  case atStart => exact ⟨0, ⟨#[]⟩, 0, Nat.zero_le _, rfl, rfl, Nat.le_refl _, rfl, rfl⟩
  case round =>
    obtain ⟨k, r, nd, hk, rfl, rfl, hrs, HR, rfl⟩ := hrel
    by_cases hlt : k < qs.length
    · obtain ⟨f1, f2⟩ := flat2_get qs k
      have hqk : qs[k]? = some qs[k] := List.getElem?_eq_getElem hlt
      rw [hqk] at f1 f2
      have hg : ∃ g, av = some ⟨g, 0, none⟩ := by
        obtain ⟨g, cp', h⟩ := own_some hown (by omega)
        injection h with h1; exact ⟨g, h1⟩
      obtain ⟨g, rfl⟩ := hg
      have c1 : w.cell? ⟨g, k * 2, none⟩ = some (.string (qs[k]).1) := own_cell hown _ _ f1
      have c2 : w.cell? ⟨g, k * 2 + 1, none⟩ = some (.string (qs[k]).2) := own_cell hown _ _ f2
      have HP : Hid ((qs.map bl2).getD k ([], []) = (bl (qs[k]).1, bl (qs[k]).2)) := hid (by simp [hlt, bl2])
      have hq2 := hq.out _ (List.getElem_mem hlt)
      generalize (qs[k]).1 = x at *
      generalize (qs[k]).2 = y at *
      clear hqk f1 f2
      by_cases h0 : 0 < k
      · have HF : Hid (bl (((r ++ ⟨#[44]⟩) ++ x) ++ ⟨#[61]⟩ ++ y) = writtenTo (qs.map bl2) (k + 1)) := hid (by
          rw [writtenTo, if_pos h0, HP.out, bl_append, bl_append, bl_append, bl_append, HR.out]; rfl)
        have hsz : (((r ++ ⟨#[44]⟩) ++ x) ++ ⟨#[61]⟩ ++ y).size ≤ 12002 * (k + 1) := by simp only [ByteArray.size_append]; have e44 : (⟨#[44]⟩ : ByteArray).size = 1 := rfl; have e61 : (⟨#[61]⟩ : ByteArray).size = 1 := rfl; omega
        have a1 : ∀ W, (Op.stringOp .add r ⟨#[44]⟩).run Tryd.prog W = .ok (.string (r ++ ⟨#[44]⟩)) W := fun W => run_string_add_sum W r ⟨#[44]⟩ (by have e44 : (⟨#[44]⟩ : ByteArray).size = 1 := rfl; omega)
        have a2 : ∀ W, (Op.stringOp .add (r ++ ⟨#[44]⟩) x).run Tryd.prog W = .ok (.string ((r ++ ⟨#[44]⟩) ++ x)) W := fun W => run_string_add_sum W _ _ (by simp only [ByteArray.size_append]; have e44 : (⟨#[44]⟩ : ByteArray).size = 1 := rfl; omega)
        have a3 : ∀ W, (Op.stringOp .add ((r ++ ⟨#[44]⟩) ++ x) ⟨#[61]⟩).run Tryd.prog W = .ok (.string (((r ++ ⟨#[44]⟩) ++ x) ++ ⟨#[61]⟩)) W := fun W => run_string_add_sum W _ _ (by simp only [ByteArray.size_append]; have e44 : (⟨#[44]⟩ : ByteArray).size = 1 := rfl; have e61 : (⟨#[61]⟩ : ByteArray).size = 1 := rfl; omega)
        have a4 : ∀ W, (Op.stringOp .add (((r ++ ⟨#[44]⟩) ++ x) ++ ⟨#[61]⟩) y).run Tryd.prog W = .ok (.string ((((r ++ ⟨#[44]⟩) ++ x) ++ ⟨#[61]⟩) ++ y)) W := fun W => run_string_add_sum W _ _ (by simp only [ByteArray.size_append]; have e44 : (⟨#[44]⟩ : ByteArray).size = 1 := rfl; have e61 : (⟨#[61]⟩ : ByteArray).size = 1 := rfl; omega)
        go_wp2
        go_quiet (fail)
        go_wp2
        go_roundw
        case rel => exact ⟨k + 1, _, _, by omega, by go_num, rfl, hsz, HF, rfl⟩
        case measure => simp [intOf]; omega
      · have HF : Hid (bl ((r ++ x) ++ ⟨#[61]⟩ ++ y) = writtenTo (qs.map bl2) (k + 1)) := hid (by
          rw [writtenTo, if_neg h0, HP.out, bl_append, bl_append, bl_append, HR.out]; rfl)
        have hsz : ((r ++ x) ++ ⟨#[61]⟩ ++ y).size ≤ 12002 * (k + 1) := by simp only [ByteArray.size_append]; have e61 : (⟨#[61]⟩ : ByteArray).size = 1 := rfl; omega
        have a2 : ∀ W, (Op.stringOp .add r x).run Tryd.prog W = .ok (.string (r ++ x)) W := fun W => run_string_add_sum W _ _ (by omega)
        have a3 : ∀ W, (Op.stringOp .add (r ++ x) ⟨#[61]⟩).run Tryd.prog W = .ok (.string ((r ++ x) ++ ⟨#[61]⟩)) W := fun W => run_string_add_sum W _ _ (by simp only [ByteArray.size_append]; have e61 : (⟨#[61]⟩ : ByteArray).size = 1 := rfl; omega)
        have a4 : ∀ W, (Op.stringOp .add ((r ++ x) ++ ⟨#[61]⟩) y).run Tryd.prog W = .ok (.string (((r ++ x) ++ ⟨#[61]⟩) ++ y)) W := fun W => run_string_add_sum W _ _ (by simp only [ByteArray.size_append]; have e61 : (⟨#[61]⟩ : ByteArray).size = 1 := rfl; omega)
        go_wp2
        go_quiet (fail)
        go_wp2
        go_roundw
        case rel => exact ⟨k + 1, _, _, by omega, by go_num, rfl, hsz, HF, rfl⟩
        case measure => simp [intOf]; omega
    · obtain rfl : k = qs.length := by omega
      go_wp2
      go_ret
      exact ⟨r, rfl, HR, nd, rfl⟩
end Go.Proofs.YtmncdbepjhmkgaaDoor

/- The number that the program tells of an error in a query. -/
import Derived.Test.YtmncdbepjhmkgaaDoorErrs
namespace Go.Proofs.YtmncdbepjhmkgaaDoor
open Go.RowKit LS
theorem Vars.all {w : World} {A : Nat → Addr} {m : Int} (h : Vars w A m) : ∀ g, g < 13 → w.cell? ⟨g, 0, none⟩ = some (.iface 155 (.pointer (some (A g)))) := fun g hg => h.sent g (by unfold sents; simp; omega)
theorem wrapNe {w : World} {A : Nat → Addr} {m : Int} {fa g h : Nat} (hv : Vars w A m) (hw : w.cell? ⟨fa, 2, none⟩ = some (.iface 155 (.pointer (some (A g))))) (hg : g ∈ sents := by decide) (hh : h ∈ sents := by decide) (hn : g ≠ h := by decide) :
    Calls Tryd.prog 18 #[.iface 53 (.pointer (some ⟨fa, 0, none⟩)), .iface 155 (.pointer (some (A h)))] w fun e w' => e = .returned (.bool false) ∧ w' = w := by
  obtain ⟨c, t, r⟩ := hv.row g hg
  obtain ⟨c', t', r'⟩ := hv.row h hh
  exact is_wrap_other _ _ _ _ _ _ _ _ hw (hv.apart _ hg _ hh hn) r r'
theorem sentNe {w : World} {A : Nat → Addr} {m : Int} {g h : Nat} (hv : Vars w A m) (hg : g ∈ sents := by decide) (hh : h ∈ sents := by decide) (hn : g ≠ h := by decide) :
    Calls Tryd.prog 18 #[.iface 155 (.pointer (some (A g))), .iface 155 (.pointer (some (A h)))] w fun e w' => e = .returned (.bool false) ∧ w' = w := by
  obtain ⟨c, t, r⟩ := hv.row g hg
  obtain ⟨c', t', r'⟩ := hv.row h hh
  exact is_other _ _ _ _ _ _ _ (hv.apart _ hg _ hh hn) r r'
set_option maxHeartbeats 2000000 in
theorem number_nil (A : Nat → Addr) (m : Int) (w : World) (hv : Vars w A m) :
    Calls Tryd.prog 9 #[.nilIface] w fun e w' => e = .returned (.int .i64 0) ∧ w' = w := by
  have v := hv.all
  go_enter Tryd.func9, Tryd.ntmps9
  iterate 13 (go_wp2_with fail; refine cret (is_nil _ _) ?_)
  go_wp2
  go_ret
  exact ⟨rfl, rfl⟩
set_option maxHeartbeats 2000000 in
theorem number_long (A : Nat → Addr) (m : Int) (w : World) (hv : Vars w A m) :
    Calls Tryd.prog 9 #[.iface 155 (.pointer (some (A 0)))] w fun e w' => e = .returned (.int .i64 1) ∧ w' = w := by
  have v := hv.all
  go_enter Tryd.func9, Tryd.ntmps9
  go_wp2_with fail
  refine cret (is_same _ _) ?_
  go_wp2
  go_ret
  exact ⟨rfl, rfl⟩
set_option maxHeartbeats 2000000 in
theorem number_syn (A : Nat → Addr) (m : Int) (w : World) (hv : Vars w A m) (fa : Nat) (hw : w.cell? ⟨fa, 2, none⟩ = some (.iface 155 (.pointer (some (A 2))))) :
    Calls Tryd.prog 9 #[.iface 53 (.pointer (some ⟨fa, 0, none⟩))] w fun e w' => e = .returned (.int .i64 2) ∧ w' = w := by
  have v := hv.all
  go_enter Tryd.func9, Tryd.ntmps9
  iterate 1 (go_wp2_with fail; refine cret (wrapNe hv hw) ?_)
  go_wp2_with fail
  refine cret (is_wrap_same _ _ _ hw) ?_
  go_wp2
  go_ret
  exact ⟨rfl, rfl⟩
set_option maxHeartbeats 2000000 in
theorem number_deep (A : Nat → Addr) (m : Int) (w : World) (hv : Vars w A m) (fa : Nat) (hw : w.cell? ⟨fa, 2, none⟩ = some (.iface 155 (.pointer (some (A 3))))) :
    Calls Tryd.prog 9 #[.iface 53 (.pointer (some ⟨fa, 0, none⟩))] w fun e w' => e = .returned (.int .i64 3) ∧ w' = w := by
  have v := hv.all
  go_enter Tryd.func9, Tryd.ntmps9
  iterate 2 (go_wp2_with fail; refine cret (wrapNe hv hw) ?_)
  go_wp2_with fail
  refine cret (is_wrap_same _ _ _ hw) ?_
  go_wp2
  go_ret
  exact ⟨rfl, rfl⟩
set_option maxHeartbeats 2000000 in
theorem number_type (A : Nat → Addr) (m : Int) (w : World) (hv : Vars w A m) :
    Calls Tryd.prog 9 #[.iface 155 (.pointer (some (A 4)))] w fun e w' => e = .returned (.int .i64 4) ∧ w' = w := by
  have v := hv.all
  go_enter Tryd.func9, Tryd.ntmps9
  iterate 3 (go_wp2_with fail; refine cret (sentNe hv) ?_)
  go_wp2_with fail
  refine cret (is_same _ _) ?_
  go_wp2
  go_ret
  exact ⟨rfl, rfl⟩
end Go.Proofs.YtmncdbepjhmkgaaDoor

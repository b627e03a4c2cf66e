/- Parts of the proof, joined: PFacts -/
import Derived.Test.YtmncdbepjhmkgaaGreatDoorRows
import Derived.Test.YtmncdbepjhmkgaaGreatDoorChecked
import Derived.JoinedOf
import Derived.KernelRfl
/- The closed facts of Printed's row, one by one. -/
namespace Go.Proofs.YtmncdbepjhmkgaaGreatDoor
open Go

theorem pj_wf : (Rows.printedRow.wf (OpenSpec.ofChange Rows.printedSpec)) = true := by kernel_rfl
theorem pj_lo : (laidOutB Tryz.prog) = true := by kernel_rfl
theorem pj_mr : (mapsRowed Tryz.prog) = true := by kernel_rfl
theorem pj_rr : (Tryz.f3.params.all (Tryz.prog.readableRec ·)) = true := by kernel_rfl
theorem pj_nt : (namedTie Tryz.prog Rows.printedRow.named Rows.printedSpec.vars) = true := by kernel_rfl
theorem pj_s1 : ((Rows.printedRow.stops == [])) = true := by kernel_rfl
theorem pj_s2 : ((Tryz.prog.stops == [])) = true := by kernel_rfl
theorem pj_s3 : ((Rows.printedRow.knobs == [])) = true := by kernel_rfl
theorem pj_s4 : ((Tryz.prog.stopKnobs == [])) = true := by kernel_rfl
theorem pj_ip : ((Rows.printedRow.inPlace == Tryz.prog.inPlace 3)) = true := by kernel_rfl
theorem pj_uf : ((Rows.printedRow.unfollowed == Tryz.prog.unfollowed 3)) = true := by kernel_rfl
theorem pj_rc : ((Rows.printedRow.recurses == Tryz.prog.recurses 3)) = true := by kernel_rfl
theorem pj_vn : ((Rows.printedRow.named == Tryz.prog.varsNamed 3)) = true := by kernel_rfl
theorem pj_m1 : ((Rows.printedRow.maps == (Tryz.f3.params.toList ++ Rows.printedSpec.plain.varTypes Tryz.prog).any (Tryz.prog.mapsRec ·))) = true := by kernel_rfl
theorem pj_m2 : ((Rows.printedRow.ifaces == (Tryz.f3.params.toList ++ Rows.printedSpec.plain.varTypes Tryz.prog).any (Tryz.prog.ifacesRec ·))) = true := by kernel_rfl
theorem pj_m3 : ((Rows.printedRow.mapsOut == Tryz.prog.mapsAmong Tryz.f3.resultTypes.toList)) = true := by kernel_rfl
theorem pj_m4 : ((Rows.printedRow.loops == (Tryz.f3.params.toList ++ Rows.printedSpec.plain.varTypes Tryz.prog).any (Tryz.prog.loopsFrom ·))) = true := by kernel_rfl
theorem pj_m5 : ((Rows.printedRow.wideKeys == (Tryz.f3.params.toList ++ Rows.printedSpec.plain.varTypes Tryz.prog ++ Tryz.f3.resultTypes.toList).any (Tryz.prog.wideKeysFrom ·))) = true := by kernel_rfl
theorem pj_v1 : (Rows.printedSpec.vars.all (Tryz.prog.varReadable ·)) = true := by kernel_rfl
theorem pj_v2 : (Tryz.f3.resultTypes.all (fun t => Tryz.prog.readableRec t && decide (t < Tryz.prog.types.size))) = true := by kernel_rfl
theorem pj_v3 : ((Rows.printedRow.ifacesOut == Tryz.f3.resultTypes.toList.any (Tryz.prog.ifacesRec ·))) = true := by kernel_rfl
theorem pj_v4 : ((Rows.printedRow.loopsOut == Tryz.f3.resultTypes.toList.any (Tryz.prog.loopsFrom ·))) = true := by kernel_rfl
theorem pj_v5 : ((Rows.printedRow.plainKeys == Tryz.prog.plainKeys)) = true := by kernel_rfl
theorem pj_v6 : (Rows.printedRow.shortTexts.isNone) = true := by kernel_rfl
theorem pj_v7 : (Tryz.prog.stopsHeard) = true := by kernel_rfl
theorem pj_v8 : (Tryz.prog.mayEnter) = true := by kernel_rfl
theorem pj_v9 : ((Rows.printedRow.lifted == Tryz.prog.liftsFinal)) = true := by kernel_rfl
theorem pj_w1 : ((Tryz.prog.make == some Rows.printedRow.make)) = true := by kernel_rfl
theorem pj_w2 : ((Rows.printedRow.kinds == (if Rows.printedRow.domain.isEmpty then [] else Tryz.f3.params.toList.map fun t => match Tryz.prog.underlying t with | some (.int k) => some k | _ => none))) = true := by kernel_rfl
theorem pj_w3 : ((Rows.printedRow.pinned == Rows.printedRow.pinnedBy)) = true := by kernel_rfl
theorem pj_w4 : ((Rows.printedRow.veiled == (Tryz.f3.params.toList ++ Rows.printedSpec.plain.varTypes Tryz.prog ++ Tryz.f3.resultTypes.toList).any (Tryz.prog.veiledRec ·))) = true := by kernel_rfl
theorem pj_w5 : (Rows.printedRow.veiledFits Tryz.prog Tryz.f3.params.toList (Tryz.f3.params.toList ++ Rows.printedSpec.plain.varTypes Tryz.prog ++ Tryz.f3.resultTypes.toList)) = true := by kernel_rfl
theorem pj_joined : joinedFacts Tryz.prog 3 Tryz.f3 Rows.printedSpec Rows.printedRow = true := by
  unfold joinedFacts
  rw [pj_wf, pj_lo, pj_mr, pj_rr, pj_nt, pj_s1, pj_s2, pj_s3, pj_s4, pj_ip, pj_uf, pj_rc, pj_vn, pj_m1, pj_m2, pj_m3, pj_m4, pj_m5, pj_v1, pj_v2, pj_v3, pj_v4, pj_v5, pj_v6, pj_v7, pj_v8, pj_v9, pj_w1, pj_w3, pj_w4, pj_w5]
  kernel_rfl
end Go.Proofs.YtmncdbepjhmkgaaGreatDoor

/- Parts. -/
import Derived.Test.YtkodhpilkaihjaaGreatDoorRows
import Derived.Test.YtkodhpilkaihjaaGreatDoorChecked
import Derived.JoinedOf
import Derived.KernelRfl
namespace Go.Proofs.YtkodhpilkaihjaaGreatDoor
open Go
theorem vj_wf : (Rows.verifiedRow.wf (OpenSpec.ofChange Rows.verifiedSpec)) = true := by kernel_rfl
theorem vj_lo : (laidOutB Tryz.prog) = true := by kernel_rfl
theorem vj_mr : (mapsRowed Tryz.prog) = true := by kernel_rfl
theorem vj_rr : (Tryz.f3.params.all (Tryz.prog.readableRec ·)) = true := by kernel_rfl
theorem vj_nt : (namedTie Tryz.prog Rows.verifiedRow.named Rows.verifiedSpec.vars) = true := by kernel_rfl
theorem vj_s1 : ((Rows.verifiedRow.stops == [])) = true := by kernel_rfl
theorem vj_s2 : ((Tryz.prog.stops == [])) = true := by kernel_rfl
theorem vj_s3 : ((Rows.verifiedRow.knobs == [])) = true := by kernel_rfl
theorem vj_s4 : ((Tryz.prog.stopKnobs == [])) = true := by kernel_rfl
theorem vj_ip : ((Rows.verifiedRow.inPlace == Tryz.prog.inPlace 3)) = true := by kernel_rfl
theorem vj_uf : ((Rows.verifiedRow.unfollowed == Tryz.prog.unfollowed 3)) = true := by kernel_rfl
theorem vj_rc : ((Rows.verifiedRow.recurses == Tryz.prog.recurses 3)) = true := by kernel_rfl
theorem vj_vn : ((Rows.verifiedRow.named == Tryz.prog.varsNamed 3)) = true := by kernel_rfl
theorem vj_m1 : ((Rows.verifiedRow.maps == (Tryz.f3.params.toList ++ Rows.verifiedSpec.plain.varTypes Tryz.prog).any (Tryz.prog.mapsRec ·))) = true := by kernel_rfl
theorem vj_m2 : ((Rows.verifiedRow.ifaces == (Tryz.f3.params.toList ++ Rows.verifiedSpec.plain.varTypes Tryz.prog).any (Tryz.prog.ifacesRec ·))) = true := by kernel_rfl
theorem vj_m3 : ((Rows.verifiedRow.mapsOut == Tryz.prog.mapsAmong Tryz.f3.resultTypes.toList)) = true := by kernel_rfl
theorem vj_m4 : ((Rows.verifiedRow.loops == (Tryz.f3.params.toList ++ Rows.verifiedSpec.plain.varTypes Tryz.prog).any (Tryz.prog.loopsFrom ·))) = true := by kernel_rfl
theorem vj_m5 : ((Rows.verifiedRow.wideKeys == (Tryz.f3.params.toList ++ Rows.verifiedSpec.plain.varTypes Tryz.prog ++ Tryz.f3.resultTypes.toList).any (Tryz.prog.wideKeysFrom ·))) = true := by kernel_rfl
theorem vj_v1 : (Rows.verifiedSpec.vars.all (Tryz.prog.varReadable ·)) = true := by kernel_rfl
theorem vj_v2 : (Tryz.f3.resultTypes.all (fun t => Tryz.prog.readableRec t && decide (t < Tryz.prog.types.size))) = true := by kernel_rfl
theorem vj_v3 : ((Rows.verifiedRow.ifacesOut == Tryz.f3.resultTypes.toList.any (Tryz.prog.ifacesRec ·))) = true := by kernel_rfl
theorem vj_v4 : ((Rows.verifiedRow.loopsOut == Tryz.f3.resultTypes.toList.any (Tryz.prog.loopsFrom ·))) = true := by kernel_rfl
theorem vj_v5 : ((Rows.verifiedRow.plainKeys == Tryz.prog.plainKeys)) = true := by kernel_rfl
theorem vj_v6 : (Rows.verifiedRow.shortTexts.isNone) = true := by kernel_rfl
theorem vj_v7 : (Tryz.prog.stopsHeard) = true := by kernel_rfl
theorem vj_v8 : (Tryz.prog.mayEnter) = true := by kernel_rfl
theorem vj_v9 : ((Rows.verifiedRow.lifted == Tryz.prog.liftsFinal)) = true := by kernel_rfl
theorem vj_w1 : ((Tryz.prog.make == some Rows.verifiedRow.make)) = true := by kernel_rfl
theorem vj_w3 : ((Rows.verifiedRow.pinned == Rows.verifiedRow.pinnedBy)) = true := by kernel_rfl
theorem vj_w4 : ((Rows.verifiedRow.veiled == (Tryz.f3.params.toList ++ Rows.verifiedSpec.plain.varTypes Tryz.prog ++ Tryz.f3.resultTypes.toList).any (Tryz.prog.veiledRec ·))) = true := by kernel_rfl
theorem vj_w5 : (Rows.verifiedRow.veiledFits Tryz.prog Tryz.f3.params.toList (Tryz.f3.params.toList ++ Rows.verifiedSpec.plain.varTypes Tryz.prog ++ Tryz.f3.resultTypes.toList)) = true := by kernel_rfl
theorem vj_joined : joinedFacts Tryz.prog 3 Tryz.f3 Rows.verifiedSpec Rows.verifiedRow = true := by
  unfold joinedFacts
  rw [vj_wf, vj_lo, vj_mr, vj_rr, vj_nt, vj_s1, vj_s2, vj_s3, vj_s4, vj_ip, vj_uf, vj_rc, vj_vn, vj_m1, vj_m2, vj_m3, vj_m4, vj_m5, vj_v1, vj_v2, vj_v3, vj_v4, vj_v5, vj_v6, vj_v7, vj_v8, vj_v9, vj_w1, vj_w3, vj_w4, vj_w5]
  kernel_rfl
end Go.Proofs.YtkodhpilkaihjaaGreatDoor

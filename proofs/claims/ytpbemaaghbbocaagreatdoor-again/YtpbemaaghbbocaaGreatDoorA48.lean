/- Parts. -/
import Derived.Test.YtpbemaaghbbocaaGreatDoorRows
import Derived.Test.YtpbemaaghbbocaaGreatDoorChecked
import Derived.JoinedOf
import Derived.KernelRfl
namespace Go.Proofs.YtpbemaaghbbocaaGreatDoor
open Go
theorem kj_wf : (Rows.againRow.wf (OpenSpec.ofChange Rows.againSpec)) = true := by kernel_rfl
theorem kj_lo : (laidOutB Tryz.prog) = true := by kernel_rfl
theorem kj_mr : (mapsRowed Tryz.prog) = true := by kernel_rfl
theorem kj_rr : (Tryz.f4.params.all (Tryz.prog.readableRec ·)) = true := by kernel_rfl
theorem kj_nt : (namedTie Tryz.prog Rows.againRow.named Rows.againSpec.vars) = true := by kernel_rfl
theorem kj_s1 : ((Rows.againRow.stops == [])) = true := by kernel_rfl
theorem kj_s2 : ((Tryz.prog.stops == [])) = true := by kernel_rfl
theorem kj_s3 : ((Rows.againRow.knobs == [])) = true := by kernel_rfl
theorem kj_s4 : ((Tryz.prog.stopKnobs == [])) = true := by kernel_rfl
theorem kj_ip : ((Rows.againRow.inPlace == Tryz.prog.inPlace 4)) = true := by kernel_rfl
theorem kj_uf : ((Rows.againRow.unfollowed == Tryz.prog.unfollowed 4)) = true := by kernel_rfl
theorem kj_rc : ((Rows.againRow.recurses == Tryz.prog.recurses 4)) = true := by kernel_rfl
theorem kj_vn : ((Rows.againRow.named == Tryz.prog.varsNamed 4)) = true := by kernel_rfl
theorem kj_m1 : ((Rows.againRow.maps == (Tryz.f4.params.toList ++ Rows.againSpec.plain.varTypes Tryz.prog).any (Tryz.prog.mapsRec ·))) = true := by kernel_rfl
theorem kj_m2 : ((Rows.againRow.ifaces == (Tryz.f4.params.toList ++ Rows.againSpec.plain.varTypes Tryz.prog).any (Tryz.prog.ifacesRec ·))) = true := by kernel_rfl
theorem kj_m3 : ((Rows.againRow.mapsOut == Tryz.prog.mapsAmong Tryz.f4.resultTypes.toList)) = true := by kernel_rfl
theorem kj_m4 : ((Rows.againRow.loops == (Tryz.f4.params.toList ++ Rows.againSpec.plain.varTypes Tryz.prog).any (Tryz.prog.loopsFrom ·))) = true := by kernel_rfl
theorem kj_m5 : ((Rows.againRow.wideKeys == (Tryz.f4.params.toList ++ Rows.againSpec.plain.varTypes Tryz.prog ++ Tryz.f4.resultTypes.toList).any (Tryz.prog.wideKeysFrom ·))) = true := by kernel_rfl
theorem kj_v1 : (Rows.againSpec.vars.all (Tryz.prog.varReadable ·)) = true := by kernel_rfl
theorem kj_v2 : (Tryz.f4.resultTypes.all (fun t => Tryz.prog.readableRec t && decide (t < Tryz.prog.types.size))) = true := by kernel_rfl
theorem kj_v3 : ((Rows.againRow.ifacesOut == Tryz.f4.resultTypes.toList.any (Tryz.prog.ifacesRec ·))) = true := by kernel_rfl
theorem kj_v4 : ((Rows.againRow.loopsOut == Tryz.f4.resultTypes.toList.any (Tryz.prog.loopsFrom ·))) = true := by kernel_rfl
theorem kj_v5 : ((Rows.againRow.plainKeys == Tryz.prog.plainKeys)) = true := by kernel_rfl
theorem kj_v6 : (Rows.againRow.shortTexts.isNone) = true := by kernel_rfl
theorem kj_v7 : (Tryz.prog.stopsHeard) = true := by kernel_rfl
theorem kj_v8 : (Tryz.prog.mayEnter) = true := by kernel_rfl
theorem kj_v9 : ((Rows.againRow.lifted == Tryz.prog.liftsFinal)) = true := by kernel_rfl
theorem kj_w1 : ((Tryz.prog.make == some Rows.againRow.make)) = true := by kernel_rfl
theorem kj_w3 : ((Rows.againRow.pinned == Rows.againRow.pinnedBy)) = true := by kernel_rfl
theorem kj_w4 : ((Rows.againRow.veiled == (Tryz.f4.params.toList ++ Rows.againSpec.plain.varTypes Tryz.prog ++ Tryz.f4.resultTypes.toList).any (Tryz.prog.veiledRec ·))) = true := by kernel_rfl
theorem kj_w5 : (Rows.againRow.veiledFits Tryz.prog Tryz.f4.params.toList (Tryz.f4.params.toList ++ Rows.againSpec.plain.varTypes Tryz.prog ++ Tryz.f4.resultTypes.toList)) = true := by kernel_rfl
theorem kj_joined : joinedFacts Tryz.prog 4 Tryz.f4 Rows.againSpec Rows.againRow = true := by
  unfold joinedFacts
  rw [kj_wf, kj_lo, kj_mr, kj_rr, kj_nt, kj_s1, kj_s2, kj_s3, kj_s4, kj_ip, kj_uf, kj_rc, kj_vn, kj_m1, kj_m2, kj_m3, kj_m4, kj_m5, kj_v1, kj_v2, kj_v3, kj_v4, kj_v5, kj_v6, kj_v7, kj_v8, kj_v9, kj_w1, kj_w3, kj_w4, kj_w5]
  kernel_rfl
end Go.Proofs.YtpbemaaghbbocaaGreatDoor

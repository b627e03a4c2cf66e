/- Parts. -/
import Derived.Test.YtpbemaaghbbocaaGreatDoorRows
import Derived.Test.YtpbemaaghbbocaaGreatDoorChecked
import Derived.JoinedOf
import Derived.KernelRfl
namespace Go.Proofs.YtpbemaaghbbocaaGreatDoor
open Go
theorem wj_wf : (Rows.windowedRow.wf (OpenSpec.ofChange Rows.windowedSpec)) = true := by kernel_rfl
theorem wj_lo : (laidOutB Tryz.prog) = true := by kernel_rfl
theorem wj_mr : (mapsRowed Tryz.prog) = true := by kernel_rfl
theorem wj_rr : (Tryz.f6.params.all (Tryz.prog.readableRec ·)) = true := by kernel_rfl
theorem wj_nt : (namedTie Tryz.prog Rows.windowedRow.named Rows.windowedSpec.vars) = true := by kernel_rfl
theorem wj_s1 : ((Rows.windowedRow.stops == [])) = true := by kernel_rfl
theorem wj_s2 : ((Tryz.prog.stops == [])) = true := by kernel_rfl
theorem wj_s3 : ((Rows.windowedRow.knobs == [])) = true := by kernel_rfl
theorem wj_s4 : ((Tryz.prog.stopKnobs == [])) = true := by kernel_rfl
theorem wj_ip : ((Rows.windowedRow.inPlace == Tryz.prog.inPlace 6)) = true := by kernel_rfl
theorem wj_uf : ((Rows.windowedRow.unfollowed == Tryz.prog.unfollowed 6)) = true := by kernel_rfl
theorem wj_rc : ((Rows.windowedRow.recurses == Tryz.prog.recurses 6)) = true := by kernel_rfl
theorem wj_vn : ((Rows.windowedRow.named == Tryz.prog.varsNamed 6)) = true := by kernel_rfl
theorem wj_m1 : ((Rows.windowedRow.maps == (Tryz.f6.params.toList ++ Rows.windowedSpec.plain.varTypes Tryz.prog).any (Tryz.prog.mapsRec ·))) = true := by kernel_rfl
theorem wj_m2 : ((Rows.windowedRow.ifaces == (Tryz.f6.params.toList ++ Rows.windowedSpec.plain.varTypes Tryz.prog).any (Tryz.prog.ifacesRec ·))) = true := by kernel_rfl
theorem wj_m3 : ((Rows.windowedRow.mapsOut == Tryz.prog.mapsAmong Tryz.f6.resultTypes.toList)) = true := by kernel_rfl
theorem wj_m4 : ((Rows.windowedRow.loops == (Tryz.f6.params.toList ++ Rows.windowedSpec.plain.varTypes Tryz.prog).any (Tryz.prog.loopsFrom ·))) = true := by kernel_rfl
theorem wj_m5 : ((Rows.windowedRow.wideKeys == (Tryz.f6.params.toList ++ Rows.windowedSpec.plain.varTypes Tryz.prog ++ Tryz.f6.resultTypes.toList).any (Tryz.prog.wideKeysFrom ·))) = true := by kernel_rfl
theorem wj_v1 : (Rows.windowedSpec.vars.all (Tryz.prog.varReadable ·)) = true := by kernel_rfl
theorem wj_v2 : (Tryz.f6.resultTypes.all (fun t => Tryz.prog.readableRec t && decide (t < Tryz.prog.types.size))) = true := by kernel_rfl
theorem wj_v3 : ((Rows.windowedRow.ifacesOut == Tryz.f6.resultTypes.toList.any (Tryz.prog.ifacesRec ·))) = true := by kernel_rfl
theorem wj_v4 : ((Rows.windowedRow.loopsOut == Tryz.f6.resultTypes.toList.any (Tryz.prog.loopsFrom ·))) = true := by kernel_rfl
theorem wj_v5 : ((Rows.windowedRow.plainKeys == Tryz.prog.plainKeys)) = true := by kernel_rfl
theorem wj_v6 : (Rows.windowedRow.shortTexts.isNone) = true := by kernel_rfl
theorem wj_v7 : (Tryz.prog.stopsHeard) = true := by kernel_rfl
theorem wj_v8 : (Tryz.prog.mayEnter) = true := by kernel_rfl
theorem wj_v9 : ((Rows.windowedRow.lifted == Tryz.prog.liftsFinal)) = true := by kernel_rfl
theorem wj_w1 : ((Tryz.prog.make == some Rows.windowedRow.make)) = true := by kernel_rfl
theorem wj_w3 : ((Rows.windowedRow.pinned == Rows.windowedRow.pinnedBy)) = true := by kernel_rfl
theorem wj_w4 : ((Rows.windowedRow.veiled == (Tryz.f6.params.toList ++ Rows.windowedSpec.plain.varTypes Tryz.prog ++ Tryz.f6.resultTypes.toList).any (Tryz.prog.veiledRec ·))) = true := by kernel_rfl
theorem wj_w5 : (Rows.windowedRow.veiledFits Tryz.prog Tryz.f6.params.toList (Tryz.f6.params.toList ++ Rows.windowedSpec.plain.varTypes Tryz.prog ++ Tryz.f6.resultTypes.toList)) = true := by kernel_rfl
theorem wj_joined : joinedFacts Tryz.prog 6 Tryz.f6 Rows.windowedSpec Rows.windowedRow = true := by
  unfold joinedFacts
  rw [wj_wf, wj_lo, wj_mr, wj_rr, wj_nt, wj_s1, wj_s2, wj_s3, wj_s4, wj_ip, wj_uf, wj_rc, wj_vn, wj_m1, wj_m2, wj_m3, wj_m4, wj_m5, wj_v1, wj_v2, wj_v3, wj_v4, wj_v5, wj_v6, wj_v7, wj_v8, wj_v9, wj_w1, wj_w3, wj_w4, wj_w5]
  kernel_rfl
end Go.Proofs.YtpbemaaghbbocaaGreatDoor

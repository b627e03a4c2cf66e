/- Parts. -/
import Derived.Test.YtpbemaaghbbocaaGreatDoorRows
import Derived.Test.YtpbemaaghbbocaaGreatDoorChecked
import Derived.JoinedOf
import Derived.KernelRfl
namespace Go.Proofs.YtpbemaaghbbocaaGreatDoor
open Go
theorem hj_wf : (Rows.shuffledUptoRow.wf (OpenSpec.ofChange Rows.shuffledSpec)) = true := by kernel_rfl
theorem hj_lo : (laidOutB Tryz.prog) = true := by kernel_rfl
theorem hj_mr : (mapsRowed Tryz.prog) = true := by kernel_rfl
theorem hj_rr : (Tryz.f5.params.all (Tryz.prog.readableRec ·)) = true := by kernel_rfl
theorem hj_nt : (namedTie Tryz.prog Rows.shuffledUptoRow.named Rows.shuffledSpec.vars) = true := by kernel_rfl
theorem hj_s1 : ((Rows.shuffledUptoRow.stops == [])) = true := by kernel_rfl
theorem hj_s2 : ((Tryz.prog.stops == [])) = true := by kernel_rfl
theorem hj_s3 : ((Rows.shuffledUptoRow.knobs == [])) = true := by kernel_rfl
theorem hj_s4 : ((Tryz.prog.stopKnobs == [])) = true := by kernel_rfl
theorem hj_ip : ((Rows.shuffledUptoRow.inPlace == Tryz.prog.inPlace 5)) = true := by kernel_rfl
theorem hj_uf : ((Rows.shuffledUptoRow.unfollowed == Tryz.prog.unfollowed 5)) = true := by kernel_rfl
theorem hj_rc : ((Rows.shuffledUptoRow.recurses == Tryz.prog.recurses 5)) = true := by kernel_rfl
theorem hj_vn : ((Rows.shuffledUptoRow.named == Tryz.prog.varsNamed 5)) = true := by kernel_rfl
theorem hj_m1 : ((Rows.shuffledUptoRow.maps == (Tryz.f5.params.toList ++ Rows.shuffledSpec.plain.varTypes Tryz.prog).any (Tryz.prog.mapsRec ·))) = true := by kernel_rfl
theorem hj_m2 : ((Rows.shuffledUptoRow.ifaces == (Tryz.f5.params.toList ++ Rows.shuffledSpec.plain.varTypes Tryz.prog).any (Tryz.prog.ifacesRec ·))) = true := by kernel_rfl
theorem hj_m3 : ((Rows.shuffledUptoRow.mapsOut == Tryz.prog.mapsAmong Tryz.f5.resultTypes.toList)) = true := by kernel_rfl
theorem hj_m4 : ((Rows.shuffledUptoRow.loops == (Tryz.f5.params.toList ++ Rows.shuffledSpec.plain.varTypes Tryz.prog).any (Tryz.prog.loopsFrom ·))) = true := by kernel_rfl
theorem hj_m5 : ((Rows.shuffledUptoRow.wideKeys == (Tryz.f5.params.toList ++ Rows.shuffledSpec.plain.varTypes Tryz.prog ++ Tryz.f5.resultTypes.toList).any (Tryz.prog.wideKeysFrom ·))) = true := by kernel_rfl
theorem hj_v1 : (Rows.shuffledSpec.vars.all (Tryz.prog.varReadable ·)) = true := by kernel_rfl
theorem hj_v2 : (Tryz.f5.resultTypes.all (fun t => Tryz.prog.readableRec t && decide (t < Tryz.prog.types.size))) = true := by kernel_rfl
theorem hj_v3 : ((Rows.shuffledUptoRow.ifacesOut == Tryz.f5.resultTypes.toList.any (Tryz.prog.ifacesRec ·))) = true := by kernel_rfl
theorem hj_v4 : ((Rows.shuffledUptoRow.loopsOut == Tryz.f5.resultTypes.toList.any (Tryz.prog.loopsFrom ·))) = true := by kernel_rfl
theorem hj_v5 : ((Rows.shuffledUptoRow.plainKeys == Tryz.prog.plainKeys)) = true := by kernel_rfl
theorem hj_v6 : (Rows.shuffledUptoRow.shortTexts.isNone) = true := by kernel_rfl
theorem hj_v7 : (Tryz.prog.stopsHeard) = true := by kernel_rfl
theorem hj_v8 : (Tryz.prog.mayEnter) = true := by kernel_rfl
theorem hj_v9 : ((Rows.shuffledUptoRow.lifted == Tryz.prog.liftsFinal)) = true := by kernel_rfl
theorem hj_w1 : ((Tryz.prog.make == some Rows.shuffledUptoRow.make)) = true := by kernel_rfl
theorem hj_w3 : ((Rows.shuffledUptoRow.pinned == Rows.shuffledUptoRow.pinnedBy)) = true := by kernel_rfl
theorem hj_w4 : ((Rows.shuffledUptoRow.veiled == (Tryz.f5.params.toList ++ Rows.shuffledSpec.plain.varTypes Tryz.prog ++ Tryz.f5.resultTypes.toList).any (Tryz.prog.veiledRec ·))) = true := by kernel_rfl
theorem hj_w5 : (Rows.shuffledUptoRow.veiledFits Tryz.prog Tryz.f5.params.toList (Tryz.f5.params.toList ++ Rows.shuffledSpec.plain.varTypes Tryz.prog ++ Tryz.f5.resultTypes.toList)) = true := by kernel_rfl
theorem hj_joined : joinedFacts Tryz.prog 5 Tryz.f5 Rows.shuffledSpec Rows.shuffledUptoRow = true := by
  unfold joinedFacts
  rw [hj_wf, hj_lo, hj_mr, hj_rr, hj_nt, hj_s1, hj_s2, hj_s3, hj_s4, hj_ip, hj_uf, hj_rc, hj_vn, hj_m1, hj_m2, hj_m3, hj_m4, hj_m5, hj_v1, hj_v2, hj_v3, hj_v4, hj_v5, hj_v6, hj_v7, hj_v8, hj_v9, hj_w1, hj_w3, hj_w4, hj_w5]
  kernel_rfl
end Go.Proofs.YtpbemaaghbbocaaGreatDoor

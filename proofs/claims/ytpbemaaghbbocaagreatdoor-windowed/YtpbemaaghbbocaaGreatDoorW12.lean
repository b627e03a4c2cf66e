/- Parts. -/
import Derived.Test.YtpbemaaghbbocaaGreatDoorRows
import Derived.JoinedOf
set_option linter.all false
set_option maxRecDepth 100000
set_option maxHeartbeats 16000000
namespace Go.Proofs.YtpbemaaghbbocaaGreatDoor
open Go.Proofs.Tryz
open Go
theorem ZQN:(Rows.windowedRow.wf (OpenSpec.ofChange Rows.windowedSpec))=true:=by kernel_rfl
theorem ZQk:(laidOutB prog)=true:=by kernel_rfl
theorem ZQq:(mapsRowed prog)=true:=by kernel_rfl
theorem ZQt:(f6.params.all (prog.readableRec ·))=true:=by kernel_rfl
theorem ZQr:(namedTie prog Rows.windowedRow.named Rows.windowedSpec.vars)=true:=by kernel_rfl
theorem ZQu:((Rows.windowedRow.stops == []))=true:=by kernel_rfl
theorem ZQv:((prog.stops == []))=true:=by kernel_rfl
theorem ZQw:((Rows.windowedRow.knobs == []))=true:=by kernel_rfl
theorem ZQx:((prog.stopKnobs == []))=true:=by kernel_rfl
theorem ZQi:((Rows.windowedRow.inPlace == prog.inPlace 6))=true:=by kernel_rfl
theorem ZQy:((Rows.windowedRow.unfollowed == prog.unfollowed 6))=true:=by kernel_rfl
theorem ZQs:((Rows.windowedRow.recurses == prog.recurses 6))=true:=by kernel_rfl
theorem ZQI:((Rows.windowedRow.named == prog.varsNamed 6))=true:=by kernel_rfl
theorem ZQl:((Rows.windowedRow.maps == (f6.params.toList++Rows.windowedSpec.plain.varTypes prog).any (prog.mapsRec ·)))=true:=by kernel_rfl
theorem ZQm:((Rows.windowedRow.ifaces == (f6.params.toList++Rows.windowedSpec.plain.varTypes prog).any (prog.ifacesRec ·)))=true:=by kernel_rfl
theorem ZQn:((Rows.windowedRow.mapsOut == prog.mapsAmong f6.resultTypes.toList))=true:=by kernel_rfl
theorem ZQo:((Rows.windowedRow.loops == (f6.params.toList++Rows.windowedSpec.plain.varTypes prog).any (prog.loopsFrom ·)))=true:=by kernel_rfl
theorem ZQp:((Rows.windowedRow.wideKeys == (f6.params.toList++Rows.windowedSpec.plain.varTypes prog++f6.resultTypes.toList).any (prog.wideKeysFrom ·)))=true:=by kernel_rfl
theorem ZQz:(Rows.windowedSpec.vars.all (prog.varReadable ·))=true:=by kernel_rfl
theorem ZQA:(f6.resultTypes.all (fun t=>prog.readableRec t && decide (t<prog.types.size)))=true:=by kernel_rfl
theorem ZQB:((Rows.windowedRow.ifacesOut == f6.resultTypes.toList.any (prog.ifacesRec ·)))=true:=by kernel_rfl
theorem ZQC:((Rows.windowedRow.loopsOut == f6.resultTypes.toList.any (prog.loopsFrom ·)))=true:=by kernel_rfl
theorem ZQD:((Rows.windowedRow.plainKeys == prog.plainKeys))=true:=by kernel_rfl
theorem ZQE:(Rows.windowedRow.shortTexts.isNone)=true:=by kernel_rfl
theorem ZQF:(prog.stopsHeard)=true:=by kernel_rfl
theorem ZQG:(prog.mayEnter)=true:=by kernel_rfl
theorem ZQH:((Rows.windowedRow.lifted == prog.liftsFinal))=true:=by kernel_rfl
theorem ZQJ:((prog.make == some Rows.windowedRow.make))=true:=by kernel_rfl
theorem ZQK:((Rows.windowedRow.pinned == Rows.windowedRow.pinnedBy))=true:=by kernel_rfl
theorem ZQL:((Rows.windowedRow.veiled == (f6.params.toList++Rows.windowedSpec.plain.varTypes prog++f6.resultTypes.toList).any (prog.veiledRec ·)))=true:=by kernel_rfl
theorem ZQM:(Rows.windowedRow.veiledFits prog f6.params.toList (f6.params.toList++Rows.windowedSpec.plain.varTypes prog++f6.resultTypes.toList))=true:=by kernel_rfl
theorem ZQj:joinedFacts prog 6 f6 Rows.windowedSpec Rows.windowedRow=true:=by
 unfold joinedFacts;rw[ZQN,ZQk,ZQq,ZQt,ZQr,ZQu,ZQv,ZQw,ZQx,ZQi,ZQy,ZQs,ZQI,ZQl,ZQm,ZQn,ZQo,ZQp,ZQz,ZQA,ZQB,ZQC,ZQD,ZQE,ZQF,ZQG,ZQH,ZQJ,ZQK,ZQL,ZQM]
 kernel_rfl

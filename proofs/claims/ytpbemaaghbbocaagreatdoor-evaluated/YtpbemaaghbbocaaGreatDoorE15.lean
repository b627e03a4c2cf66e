/- Parts. -/
import Derived.Test.YtpbemaaghbbocaaGreatDoorRows
import Derived.JoinedOf
set_option linter.all false
set_option maxRecDepth 100000
set_option maxHeartbeats 16000000
namespace Go.Proofs.YtpbemaaghbbocaaGreatDoor
open Go.Proofs.Tryz
open Go
theorem ZMg:(Rows.evaluatedRow.wf (OpenSpec.ofChange Rows.evaluatedSpec))=true:=by kernel_rfl
theorem ZLN:(laidOutB prog)=true:=by kernel_rfl
theorem ZLT:(mapsRowed prog)=true:=by kernel_rfl
theorem ZLW:(f3.params.all (prog.readableRec ·))=true:=by kernel_rfl
theorem ZLU:(namedTie prog Rows.evaluatedRow.named Rows.evaluatedSpec.vars)=true:=by kernel_rfl
theorem ZLX:((Rows.evaluatedRow.stops == []))=true:=by kernel_rfl
theorem ZLY:((prog.stops == []))=true:=by kernel_rfl
theorem ZLZ:((Rows.evaluatedRow.knobs == []))=true:=by kernel_rfl
theorem ZL0:((prog.stopKnobs == []))=true:=by kernel_rfl
theorem ZLL:((Rows.evaluatedRow.inPlace == prog.inPlace 3))=true:=by kernel_rfl
theorem ZL1:((Rows.evaluatedRow.unfollowed == prog.unfollowed 3))=true:=by kernel_rfl
theorem ZLV:((Rows.evaluatedRow.recurses == prog.recurses 3))=true:=by kernel_rfl
theorem ZMb:((Rows.evaluatedRow.named == prog.varsNamed 3))=true:=by kernel_rfl
theorem ZLO:((Rows.evaluatedRow.maps == (f3.params.toList++Rows.evaluatedSpec.plain.varTypes prog).any (prog.mapsRec ·)))=true:=by kernel_rfl
theorem ZLP:((Rows.evaluatedRow.ifaces == (f3.params.toList++Rows.evaluatedSpec.plain.varTypes prog).any (prog.ifacesRec ·)))=true:=by kernel_rfl
theorem ZLQ:((Rows.evaluatedRow.mapsOut == prog.mapsAmong f3.resultTypes.toList))=true:=by kernel_rfl
theorem ZLR:((Rows.evaluatedRow.loops == (f3.params.toList++Rows.evaluatedSpec.plain.varTypes prog).any (prog.loopsFrom ·)))=true:=by kernel_rfl
theorem ZLS:((Rows.evaluatedRow.wideKeys == (f3.params.toList++Rows.evaluatedSpec.plain.varTypes prog++f3.resultTypes.toList).any (prog.wideKeysFrom ·)))=true:=by kernel_rfl
theorem ZL2:(Rows.evaluatedSpec.vars.all (prog.varReadable ·))=true:=by kernel_rfl
theorem ZL3:(f3.resultTypes.all (fun t=>prog.readableRec t && decide (t<prog.types.size)))=true:=by kernel_rfl
theorem ZL4:((Rows.evaluatedRow.ifacesOut == f3.resultTypes.toList.any (prog.ifacesRec ·)))=true:=by kernel_rfl
theorem ZL5:((Rows.evaluatedRow.loopsOut == f3.resultTypes.toList.any (prog.loopsFrom ·)))=true:=by kernel_rfl
theorem ZL6:((Rows.evaluatedRow.plainKeys == prog.plainKeys))=true:=by kernel_rfl
theorem ZL7:(Rows.evaluatedRow.shortTexts.isNone)=true:=by kernel_rfl
theorem ZL8:(prog.stopsHeard)=true:=by kernel_rfl
theorem ZL9:(prog.mayEnter)=true:=by kernel_rfl
theorem ZMa:((Rows.evaluatedRow.lifted == prog.liftsFinal))=true:=by kernel_rfl
theorem ZMc:((prog.make == some Rows.evaluatedRow.make))=true:=by kernel_rfl
theorem ZMd:((Rows.evaluatedRow.pinned == Rows.evaluatedRow.pinnedBy))=true:=by kernel_rfl
theorem ZMe:((Rows.evaluatedRow.veiled == (f3.params.toList++Rows.evaluatedSpec.plain.varTypes prog++f3.resultTypes.toList).any (prog.veiledRec ·)))=true:=by kernel_rfl
theorem ZMf:(Rows.evaluatedRow.veiledFits prog f3.params.toList (f3.params.toList++Rows.evaluatedSpec.plain.varTypes prog++f3.resultTypes.toList))=true:=by kernel_rfl
theorem ZLM:joinedFacts prog 3 f3 Rows.evaluatedSpec Rows.evaluatedRow=true:=by
 unfold joinedFacts;rw[ZMg,ZLN,ZLT,ZLW,ZLU,ZLX,ZLY,ZLZ,ZL0,ZLL,ZL1,ZLV,ZMb,ZLO,ZLP,ZLQ,ZLR,ZLS,ZL2,ZL3,ZL4,ZL5,ZL6,ZL7,ZL8,ZL9,ZMa,ZMc,ZMd,ZMe,ZMf]
 kernel_rfl

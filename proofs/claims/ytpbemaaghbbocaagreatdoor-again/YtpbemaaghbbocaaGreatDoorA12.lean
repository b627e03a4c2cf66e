/- Parts. -/
import Derived.Test.YtpbemaaghbbocaaGreatDoorRows
import Derived.JoinedOf
set_option linter.all false
set_option maxRecDepth 100000
set_option maxHeartbeats 16000000
namespace Go.Proofs.YtpbemaaghbbocaaGreatDoor
open Go.Proofs.Tryz
open Go
theorem ZOU:(Rows.againRow.wf (OpenSpec.ofChange Rows.againSpec))=true:=by kernel_rfl
theorem ZOr:(laidOutB prog)=true:=by kernel_rfl
theorem ZOx:(mapsRowed prog)=true:=by kernel_rfl
theorem ZOA:(f4.params.all (prog.readableRec ·))=true:=by kernel_rfl
theorem ZOy:(namedTie prog Rows.againRow.named Rows.againSpec.vars)=true:=by kernel_rfl
theorem ZOB:((Rows.againRow.stops == []))=true:=by kernel_rfl
theorem ZOC:((prog.stops == []))=true:=by kernel_rfl
theorem ZOD:((Rows.againRow.knobs == []))=true:=by kernel_rfl
theorem ZOE:((prog.stopKnobs == []))=true:=by kernel_rfl
theorem ZOp:((Rows.againRow.inPlace == prog.inPlace 4))=true:=by kernel_rfl
theorem ZOF:((Rows.againRow.unfollowed == prog.unfollowed 4))=true:=by kernel_rfl
theorem ZOz:((Rows.againRow.recurses == prog.recurses 4))=true:=by kernel_rfl
theorem ZOP:((Rows.againRow.named == prog.varsNamed 4))=true:=by kernel_rfl
theorem ZOs:((Rows.againRow.maps == (f4.params.toList++Rows.againSpec.plain.varTypes prog).any (prog.mapsRec ·)))=true:=by kernel_rfl
theorem ZOt:((Rows.againRow.ifaces == (f4.params.toList++Rows.againSpec.plain.varTypes prog).any (prog.ifacesRec ·)))=true:=by kernel_rfl
theorem ZOu:((Rows.againRow.mapsOut == prog.mapsAmong f4.resultTypes.toList))=true:=by kernel_rfl
theorem ZOv:((Rows.againRow.loops == (f4.params.toList++Rows.againSpec.plain.varTypes prog).any (prog.loopsFrom ·)))=true:=by kernel_rfl
theorem ZOw:((Rows.againRow.wideKeys == (f4.params.toList++Rows.againSpec.plain.varTypes prog++f4.resultTypes.toList).any (prog.wideKeysFrom ·)))=true:=by kernel_rfl
theorem ZOG:(Rows.againSpec.vars.all (prog.varReadable ·))=true:=by kernel_rfl
theorem ZOH:(f4.resultTypes.all (fun t=>prog.readableRec t && decide (t<prog.types.size)))=true:=by kernel_rfl
theorem ZOI:((Rows.againRow.ifacesOut == f4.resultTypes.toList.any (prog.ifacesRec ·)))=true:=by kernel_rfl
theorem ZOJ:((Rows.againRow.loopsOut == f4.resultTypes.toList.any (prog.loopsFrom ·)))=true:=by kernel_rfl
theorem ZOK:((Rows.againRow.plainKeys == prog.plainKeys))=true:=by kernel_rfl
theorem ZOL:(Rows.againRow.shortTexts.isNone)=true:=by kernel_rfl
theorem ZOM:(prog.stopsHeard)=true:=by kernel_rfl
theorem ZON:(prog.mayEnter)=true:=by kernel_rfl
theorem ZOO:((Rows.againRow.lifted == prog.liftsFinal))=true:=by kernel_rfl
theorem ZOQ:((prog.make == some Rows.againRow.make))=true:=by kernel_rfl
theorem ZOR:((Rows.againRow.pinned == Rows.againRow.pinnedBy))=true:=by kernel_rfl
theorem ZOS:((Rows.againRow.veiled == (f4.params.toList++Rows.againSpec.plain.varTypes prog++f4.resultTypes.toList).any (prog.veiledRec ·)))=true:=by kernel_rfl
theorem ZOT:(Rows.againRow.veiledFits prog f4.params.toList (f4.params.toList++Rows.againSpec.plain.varTypes prog++f4.resultTypes.toList))=true:=by kernel_rfl
theorem ZOq:joinedFacts prog 4 f4 Rows.againSpec Rows.againRow=true:=by
 unfold joinedFacts;rw[ZOU,ZOr,ZOx,ZOA,ZOy,ZOB,ZOC,ZOD,ZOE,ZOp,ZOF,ZOz,ZOP,ZOs,ZOt,ZOu,ZOv,ZOw,ZOG,ZOH,ZOI,ZOJ,ZOK,ZOL,ZOM,ZON,ZOO,ZOQ,ZOR,ZOS,ZOT]
 kernel_rfl

/- Parts. -/
import Derived.Test.YtkodhpilkaihjaaGreatDoorRows
import Derived.JoinedOf
set_option linter.all false
set_option maxRecDepth 100000
set_option maxHeartbeats 16000000
namespace Go.Proofs.YtkodhpilkaihjaaGreatDoor
open Go.Proofs.Tryz
open Go
theorem ZOU:(Rows.safeRow.wf (OpenSpec.ofChange Rows.safeSpec))=true:=by kernel_rfl
theorem ZOr:(laidOutB prog)=true:=by kernel_rfl
theorem ZOx:(mapsRowed prog)=true:=by kernel_rfl
theorem ZOA:(f5.params.all (prog.readableRec ·))=true:=by kernel_rfl
theorem ZOy:(namedTie prog Rows.safeRow.named Rows.safeSpec.vars)=true:=by kernel_rfl
theorem ZOB:((Rows.safeRow.stops == []))=true:=by kernel_rfl
theorem ZOC:((prog.stops == []))=true:=by kernel_rfl
theorem ZOD:((Rows.safeRow.knobs == []))=true:=by kernel_rfl
theorem ZOE:((prog.stopKnobs == []))=true:=by kernel_rfl
theorem ZOp:((Rows.safeRow.inPlace == prog.inPlace 5))=true:=by kernel_rfl
theorem ZOF:((Rows.safeRow.unfollowed == prog.unfollowed 5))=true:=by kernel_rfl
theorem ZOz:((Rows.safeRow.recurses == prog.recurses 5))=true:=by kernel_rfl
theorem ZOP:((Rows.safeRow.named == prog.varsNamed 5))=true:=by kernel_rfl
theorem ZOs:((Rows.safeRow.maps == (f5.params.toList++Rows.safeSpec.plain.varTypes prog).any (prog.mapsRec ·)))=true:=by kernel_rfl
theorem ZOt:((Rows.safeRow.ifaces == (f5.params.toList++Rows.safeSpec.plain.varTypes prog).any (prog.ifacesRec ·)))=true:=by kernel_rfl
theorem ZOu:((Rows.safeRow.mapsOut == prog.mapsAmong f5.resultTypes.toList))=true:=by kernel_rfl
theorem ZOv:((Rows.safeRow.loops == (f5.params.toList++Rows.safeSpec.plain.varTypes prog).any (prog.loopsFrom ·)))=true:=by kernel_rfl
theorem ZOw:((Rows.safeRow.wideKeys == (f5.params.toList++Rows.safeSpec.plain.varTypes prog++f5.resultTypes.toList).any (prog.wideKeysFrom ·)))=true:=by kernel_rfl
theorem ZOG:(Rows.safeSpec.vars.all (prog.varReadable ·))=true:=by kernel_rfl
theorem ZOH:(f5.resultTypes.all (fun t=>prog.readableRec t && decide (t<prog.types.size)))=true:=by kernel_rfl
theorem ZOI:((Rows.safeRow.ifacesOut == f5.resultTypes.toList.any (prog.ifacesRec ·)))=true:=by kernel_rfl
theorem ZOJ:((Rows.safeRow.loopsOut == f5.resultTypes.toList.any (prog.loopsFrom ·)))=true:=by kernel_rfl
theorem ZOK:((Rows.safeRow.plainKeys == prog.plainKeys))=true:=by kernel_rfl
theorem ZOL:(Rows.safeRow.shortTexts.isNone)=true:=by kernel_rfl
theorem ZOM:(prog.stopsHeard)=true:=by kernel_rfl
theorem ZON:(prog.mayEnter)=true:=by kernel_rfl
theorem ZOO:((Rows.safeRow.lifted == prog.liftsFinal))=true:=by kernel_rfl
theorem ZOQ:((prog.make == some Rows.safeRow.make))=true:=by kernel_rfl
theorem ZOR:((Rows.safeRow.pinned == Rows.safeRow.pinnedBy))=true:=by kernel_rfl
theorem ZOS:((Rows.safeRow.veiled == (f5.params.toList++Rows.safeSpec.plain.varTypes prog++f5.resultTypes.toList).any (prog.veiledRec ·)))=true:=by kernel_rfl
theorem ZOT:(Rows.safeRow.veiledFits prog f5.params.toList (f5.params.toList++Rows.safeSpec.plain.varTypes prog++f5.resultTypes.toList))=true:=by kernel_rfl
theorem ZOq:joinedFacts prog 5 f5 Rows.safeSpec Rows.safeRow=true:=by
 unfold joinedFacts;rw[ZOU,ZOr,ZOx,ZOA,ZOy,ZOB,ZOC,ZOD,ZOE,ZOp,ZOF,ZOz,ZOP,ZOs,ZOt,ZOu,ZOv,ZOw,ZOG,ZOH,ZOI,ZOJ,ZOK,ZOL,ZOM,ZON,ZOO,ZOQ,ZOR,ZOS,ZOT]
 kernel_rfl

/- Parts. -/
import Derived.Test.YtcdgkkfipdoeeaaGreatDoorRows
import Derived.JoinedOf
set_option linter.all false
set_option maxRecDepth 100000
set_option maxHeartbeats 16000000
namespace Go.Proofs.YtcdgkkfipdoeeaaGreatDoor
open Go.Proofs.Tryz
open Go
theorem ZGi:(Rows.fueledRow.wf (OpenSpec.ofChange Rows.fueledSpec))=true:=by kernel_rfl
theorem ZFP:(laidOutB prog)=true:=by kernel_rfl
theorem ZFV:(mapsRowed prog)=true:=by kernel_rfl
theorem ZFY:(f5.params.all (prog.readableRec ·))=true:=by kernel_rfl
theorem ZFW:(namedTie prog Rows.fueledRow.named Rows.fueledSpec.vars)=true:=by kernel_rfl
theorem ZFZ:((Rows.fueledRow.stops == []))=true:=by kernel_rfl
theorem ZF0:((prog.stops == []))=true:=by kernel_rfl
theorem ZF1:((Rows.fueledRow.knobs == []))=true:=by kernel_rfl
theorem ZF2:((prog.stopKnobs == []))=true:=by kernel_rfl
theorem ZFN:((Rows.fueledRow.inPlace == prog.inPlace 5))=true:=by kernel_rfl
theorem ZF3:((Rows.fueledRow.unfollowed == prog.unfollowed 5))=true:=by kernel_rfl
theorem ZFX:((Rows.fueledRow.recurses == prog.recurses 5))=true:=by kernel_rfl
theorem ZGd:((Rows.fueledRow.named == prog.varsNamed 5))=true:=by kernel_rfl
theorem ZFQ:((Rows.fueledRow.maps == (f5.params.toList++Rows.fueledSpec.plain.varTypes prog).any (prog.mapsRec ·)))=true:=by kernel_rfl
theorem ZFR:((Rows.fueledRow.ifaces == (f5.params.toList++Rows.fueledSpec.plain.varTypes prog).any (prog.ifacesRec ·)))=true:=by kernel_rfl
theorem ZFS:((Rows.fueledRow.mapsOut == prog.mapsAmong f5.resultTypes.toList))=true:=by kernel_rfl
theorem ZFT:((Rows.fueledRow.loops == (f5.params.toList++Rows.fueledSpec.plain.varTypes prog).any (prog.loopsFrom ·)))=true:=by kernel_rfl
theorem ZFU:((Rows.fueledRow.wideKeys == (f5.params.toList++Rows.fueledSpec.plain.varTypes prog++f5.resultTypes.toList).any (prog.wideKeysFrom ·)))=true:=by kernel_rfl
theorem ZF4:(Rows.fueledSpec.vars.all (prog.varReadable ·))=true:=by kernel_rfl
theorem ZF5:(f5.resultTypes.all (fun t=>prog.readableRec t && decide (t<prog.types.size)))=true:=by kernel_rfl
theorem ZF6:((Rows.fueledRow.ifacesOut == f5.resultTypes.toList.any (prog.ifacesRec ·)))=true:=by kernel_rfl
theorem ZF7:((Rows.fueledRow.loopsOut == f5.resultTypes.toList.any (prog.loopsFrom ·)))=true:=by kernel_rfl
theorem ZF8:((Rows.fueledRow.plainKeys == prog.plainKeys))=true:=by kernel_rfl
theorem ZF9:(Rows.fueledRow.shortTexts.isNone)=true:=by kernel_rfl
theorem ZGa:(prog.stopsHeard)=true:=by kernel_rfl
theorem ZGb:(prog.mayEnter)=true:=by kernel_rfl
theorem ZGc:((Rows.fueledRow.lifted == prog.liftsFinal))=true:=by kernel_rfl
theorem ZGe:((prog.make == some Rows.fueledRow.make))=true:=by kernel_rfl
theorem ZGf:((Rows.fueledRow.pinned == Rows.fueledRow.pinnedBy))=true:=by kernel_rfl
theorem ZGg:((Rows.fueledRow.veiled == (f5.params.toList++Rows.fueledSpec.plain.varTypes prog++f5.resultTypes.toList).any (prog.veiledRec ·)))=true:=by kernel_rfl
theorem ZGh:(Rows.fueledRow.veiledFits prog f5.params.toList (f5.params.toList++Rows.fueledSpec.plain.varTypes prog++f5.resultTypes.toList))=true:=by kernel_rfl
theorem ZFO:joinedFacts prog 5 f5 Rows.fueledSpec Rows.fueledRow=true:=by
 unfold joinedFacts;rw[ZGi,ZFP,ZFV,ZFY,ZFW,ZFZ,ZF0,ZF1,ZF2,ZFN,ZF3,ZFX,ZGd,ZFQ,ZFR,ZFS,ZFT,ZFU,ZF4,ZF5,ZF6,ZF7,ZF8,ZF9,ZGa,ZGb,ZGc,ZGe,ZGf,ZGg,ZGh]
 kernel_rfl

/- Parts. -/
import Derived.Test.YtcdgkkfipdoeeaaGreatDoorRows
import Derived.JoinedOf
set_option linter.all false
set_option maxRecDepth 100000
set_option maxHeartbeats 16000000
namespace Go.Proofs.YtcdgkkfipdoeeaaGreatDoor
open Go.Proofs.Tryz
open Go
theorem ZJg:(Rows.tightRow.wf (OpenSpec.ofChange Rows.tightSpec))=true:=by kernel_rfl
theorem ZIN:(laidOutB prog)=true:=by kernel_rfl
theorem ZIT:(mapsRowed prog)=true:=by kernel_rfl
theorem ZIW:(f4.params.all (prog.readableRec ·))=true:=by kernel_rfl
theorem ZIU:(namedTie prog Rows.tightRow.named Rows.tightSpec.vars)=true:=by kernel_rfl
theorem ZIX:((Rows.tightRow.stops == []))=true:=by kernel_rfl
theorem ZIY:((prog.stops == []))=true:=by kernel_rfl
theorem ZIZ:((Rows.tightRow.knobs == []))=true:=by kernel_rfl
theorem ZI0:((prog.stopKnobs == []))=true:=by kernel_rfl
theorem ZIL:((Rows.tightRow.inPlace == prog.inPlace 4))=true:=by kernel_rfl
theorem ZI1:((Rows.tightRow.unfollowed == prog.unfollowed 4))=true:=by kernel_rfl
theorem ZIV:((Rows.tightRow.recurses == prog.recurses 4))=true:=by kernel_rfl
theorem ZJb:((Rows.tightRow.named == prog.varsNamed 4))=true:=by kernel_rfl
theorem ZIO:((Rows.tightRow.maps == (f4.params.toList++Rows.tightSpec.plain.varTypes prog).any (prog.mapsRec ·)))=true:=by kernel_rfl
theorem ZIP:((Rows.tightRow.ifaces == (f4.params.toList++Rows.tightSpec.plain.varTypes prog).any (prog.ifacesRec ·)))=true:=by kernel_rfl
theorem ZIQ:((Rows.tightRow.mapsOut == prog.mapsAmong f4.resultTypes.toList))=true:=by kernel_rfl
theorem ZIR:((Rows.tightRow.loops == (f4.params.toList++Rows.tightSpec.plain.varTypes prog).any (prog.loopsFrom ·)))=true:=by kernel_rfl
theorem ZIS:((Rows.tightRow.wideKeys == (f4.params.toList++Rows.tightSpec.plain.varTypes prog++f4.resultTypes.toList).any (prog.wideKeysFrom ·)))=true:=by kernel_rfl
theorem ZI2:(Rows.tightSpec.vars.all (prog.varReadable ·))=true:=by kernel_rfl
theorem ZI3:(f4.resultTypes.all (fun t=>prog.readableRec t && decide (t<prog.types.size)))=true:=by kernel_rfl
theorem ZI4:((Rows.tightRow.ifacesOut == f4.resultTypes.toList.any (prog.ifacesRec ·)))=true:=by kernel_rfl
theorem ZI5:((Rows.tightRow.loopsOut == f4.resultTypes.toList.any (prog.loopsFrom ·)))=true:=by kernel_rfl
theorem ZI6:((Rows.tightRow.plainKeys == prog.plainKeys))=true:=by kernel_rfl
theorem ZI7:(Rows.tightRow.shortTexts.isNone)=true:=by kernel_rfl
theorem ZI8:(prog.stopsHeard)=true:=by kernel_rfl
theorem ZI9:(prog.mayEnter)=true:=by kernel_rfl
theorem ZJa:((Rows.tightRow.lifted == prog.liftsFinal))=true:=by kernel_rfl
theorem ZJc:((prog.make == some Rows.tightRow.make))=true:=by kernel_rfl
theorem ZJd:((Rows.tightRow.pinned == Rows.tightRow.pinnedBy))=true:=by kernel_rfl
theorem ZJe:((Rows.tightRow.veiled == (f4.params.toList++Rows.tightSpec.plain.varTypes prog++f4.resultTypes.toList).any (prog.veiledRec ·)))=true:=by kernel_rfl
theorem ZJf:(Rows.tightRow.veiledFits prog f4.params.toList (f4.params.toList++Rows.tightSpec.plain.varTypes prog++f4.resultTypes.toList))=true:=by kernel_rfl
theorem ZIM:joinedFacts prog 4 f4 Rows.tightSpec Rows.tightRow=true:=by
 unfold joinedFacts;rw[ZJg,ZIN,ZIT,ZIW,ZIU,ZIX,ZIY,ZIZ,ZI0,ZIL,ZI1,ZIV,ZJb,ZIO,ZIP,ZIQ,ZIR,ZIS,ZI2,ZI3,ZI4,ZI5,ZI6,ZI7,ZI8,ZI9,ZJa,ZJc,ZJd,ZJe,ZJf]
 kernel_rfl

/- Parts. -/
import Derived.Test.YtmfnolgpaoldpaaGreatDoorRows
import Derived.JoinedOf
set_option linter.all false
set_option maxRecDepth 100000
set_option maxHeartbeats 16000000
namespace Go.Proofs.YtmfnolgpaoldpaaGreatDoor
open Go.Proofs.Tryz
open Go
theorem xP:(Rows.executedRow.wf<|OpenSpec.ofChange Rows.executedSpec)=true:=by kernel_rfl
theorem wC:(laidOutB prog)=true:=by kernel_rfl
theorem wJ:(mapsRowed prog)=true:=by kernel_rfl
theorem wM:(f3.params.all (prog.readableRec ·))=true:=by kernel_rfl
theorem wK:(namedTie prog Rows.executedRow.named Rows.executedSpec.vars)=true:=by kernel_rfl
theorem wN:((Rows.executedRow.stops==[]))=true:=by kernel_rfl
theorem xw:((prog.stops==[]))=true:=by kernel_rfl
theorem xx:((Rows.executedRow.knobs==[]))=true:=by kernel_rfl
theorem xz:((prog.stopKnobs==[]))=true:=by kernel_rfl
theorem wv:((Rows.executedRow.inPlace==prog.inPlace 3))=true:=by kernel_rfl
theorem xA:((Rows.executedRow.unfollowed==prog.unfollowed 3))=true:=by kernel_rfl
theorem wL:((Rows.executedRow.recurses==prog.recurses 3))=true:=by kernel_rfl
theorem xK:((Rows.executedRow.named==prog.varsNamed 3))=true:=by kernel_rfl
theorem wD:((Rows.executedRow.maps==(f3.params.toList++Rows.executedSpec.plain.varTypes prog).any (prog.mapsRec ·)))=true:=by kernel_rfl
theorem wF:((Rows.executedRow.ifaces==(f3.params.toList++Rows.executedSpec.plain.varTypes prog).any (prog.ifacesRec ·)))=true:=by kernel_rfl
theorem wG:((Rows.executedRow.mapsOut==prog.mapsAmong f3.resultTypes.toList))=true:=by kernel_rfl
theorem wH:((Rows.executedRow.loops==(f3.params.toList++Rows.executedSpec.plain.varTypes prog).any (prog.loopsFrom ·)))=true:=by kernel_rfl
theorem wI:((Rows.executedRow.wideKeys==(f3.params.toList++Rows.executedSpec.plain.varTypes prog++f3.resultTypes.toList).any (prog.wideKeysFrom ·)))=true:=by kernel_rfl
theorem xB:(Rows.executedSpec.vars.all (prog.varReadable ·))=true:=by kernel_rfl
theorem xC:(f3.resultTypes.all λt=>prog.readableRec t&&decide (t<prog.types.size))=true:=by kernel_rfl
theorem xD:((Rows.executedRow.ifacesOut==f3.resultTypes.toList.any (prog.ifacesRec ·)))=true:=by kernel_rfl
theorem xE:((Rows.executedRow.loopsOut==f3.resultTypes.toList.any (prog.loopsFrom ·)))=true:=by kernel_rfl
theorem xF:((Rows.executedRow.plainKeys==prog.plainKeys))=true:=by kernel_rfl
theorem xG:(Rows.executedRow.shortTexts.isNone)=true:=by kernel_rfl
theorem xH:(prog.stopsHeard)=true:=by kernel_rfl
theorem xI:(prog.mayEnter)=true:=by kernel_rfl
theorem xJ:((Rows.executedRow.lifted==prog.liftsFinal))=true:=by kernel_rfl
theorem xL:((prog.make==some Rows.executedRow.make))=true:=by kernel_rfl
theorem xM:((Rows.executedRow.pinned==Rows.executedRow.pinnedBy))=true:=by kernel_rfl
theorem xN:((Rows.executedRow.veiled==(f3.params.toList++Rows.executedSpec.plain.varTypes prog++f3.resultTypes.toList).any (prog.veiledRec ·)))=true:=by kernel_rfl
theorem xO:(Rows.executedRow.veiledFits prog f3.params.toList<|f3.params.toList++Rows.executedSpec.plain.varTypes prog++f3.resultTypes.toList)=true:=by kernel_rfl
theorem wB:joinedFacts prog 3 f3 Rows.executedSpec Rows.executedRow=true:=by
 unfold joinedFacts;rw[xP,wC,wJ,wM,wK,wN,xw,xx,xz,wv,xA,wL,xK,wD,wF,wG,wH,wI,xB,xC,xD,xE,xF,xG,xH,xI,xJ,xL,xM,xN,xO];kernel_rfl

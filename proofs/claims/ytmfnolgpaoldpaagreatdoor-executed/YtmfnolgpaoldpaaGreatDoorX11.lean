/- Parts. -/
import Derived.Test.YtmfnolgpaoldpaaGreatDoorRows
import Derived.JoinedOf
set_option linter.all false
set_option maxRecDepth 100000
set_option maxHeartbeats 16000000
namespace Go.Proofs.YtmfnolgpaoldpaaGreatDoor
open Go.Proofs.Tryz
open Go
theorem xL:(Rows.executedRow.wf<|OpenSpec.ofChange Rows.executedSpec)=true:=by kernel_rfl
theorem wm:(laidOutB prog)=true:=by kernel_rfl
theorem wD:(mapsRowed prog)=true:=by kernel_rfl
theorem wH:(f3.params.all (prog.readableRec ·))=true:=by kernel_rfl
theorem wF:(namedTie prog Rows.executedRow.named Rows.executedSpec.vars)=true:=by kernel_rfl
theorem wI:((Rows.executedRow.stops==[]))=true:=by kernel_rfl
theorem xj:((prog.stops==[]))=true:=by kernel_rfl
theorem xp:((Rows.executedRow.knobs==[]))=true:=by kernel_rfl
theorem xr:((prog.stopKnobs==[]))=true:=by kernel_rfl
theorem wg:((Rows.executedRow.inPlace==prog.inPlace 3))=true:=by kernel_rfl
theorem xu:((Rows.executedRow.unfollowed==prog.unfollowed 3))=true:=by kernel_rfl
theorem wG:((Rows.executedRow.recurses==prog.recurses 3))=true:=by kernel_rfl
theorem xG:((Rows.executedRow.named==prog.varsNamed 3))=true:=by kernel_rfl
theorem wt:((Rows.executedRow.maps==(f3.params.toList++Rows.executedSpec.plain.varTypes prog).any (prog.mapsRec ·)))=true:=by kernel_rfl
theorem wu:((Rows.executedRow.ifaces==(f3.params.toList++Rows.executedSpec.plain.varTypes prog).any (prog.ifacesRec ·)))=true:=by kernel_rfl
theorem wv:((Rows.executedRow.mapsOut==prog.mapsAmong f3.resultTypes.toList))=true:=by kernel_rfl
theorem wB:((Rows.executedRow.loops==(f3.params.toList++Rows.executedSpec.plain.varTypes prog).any (prog.loopsFrom ·)))=true:=by kernel_rfl
theorem wC:((Rows.executedRow.wideKeys==(f3.params.toList++Rows.executedSpec.plain.varTypes prog++f3.resultTypes.toList).any (prog.wideKeysFrom ·)))=true:=by kernel_rfl
theorem xw:(Rows.executedSpec.vars.all (prog.varReadable ·))=true:=by kernel_rfl
theorem xx:(f3.resultTypes.all λt=>prog.readableRec t&&decide (t<prog.types.size))=true:=by kernel_rfl
theorem xz:((Rows.executedRow.ifacesOut==f3.resultTypes.toList.any (prog.ifacesRec ·)))=true:=by kernel_rfl
theorem xA:((Rows.executedRow.loopsOut==f3.resultTypes.toList.any (prog.loopsFrom ·)))=true:=by kernel_rfl
theorem xB:((Rows.executedRow.plainKeys==prog.plainKeys))=true:=by kernel_rfl
theorem xC:(Rows.executedRow.shortTexts.isNone)=true:=by kernel_rfl
theorem xD:(prog.stopsHeard)=true:=by kernel_rfl
theorem xE:(prog.mayEnter)=true:=by kernel_rfl
theorem xF:((Rows.executedRow.lifted==prog.liftsFinal))=true:=by kernel_rfl
theorem xH:((prog.make==some Rows.executedRow.make))=true:=by kernel_rfl
theorem xI:((Rows.executedRow.pinned==Rows.executedRow.pinnedBy))=true:=by kernel_rfl
theorem xJ:((Rows.executedRow.veiled==(f3.params.toList++Rows.executedSpec.plain.varTypes prog++f3.resultTypes.toList).any (prog.veiledRec ·)))=true:=by kernel_rfl
theorem xK:(Rows.executedRow.veiledFits prog f3.params.toList<|f3.params.toList++Rows.executedSpec.plain.varTypes prog++f3.resultTypes.toList)=true:=by kernel_rfl
theorem wh:joinedFacts prog 3 f3 Rows.executedSpec Rows.executedRow=true:=by
 unfold joinedFacts;rw[xL,wm,wD,wH,wF,wI,xj,xp,xr,wg,xu,wG,xG,wt,wu,wv,wB,wC,xw,xx,xz,xA,xB,xC,xD,xE,xF,xH,xI,xJ,xK];kernel_rfl

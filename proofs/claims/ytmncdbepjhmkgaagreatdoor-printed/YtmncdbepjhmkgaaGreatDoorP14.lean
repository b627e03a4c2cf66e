/- Parts. -/
import Derived.Test.YtmncdbepjhmkgaaGreatDoorRows
import Derived.JoinedOf
set_option linter.all false
set_option maxRecDepth 100000
set_option maxHeartbeats 16000000
namespace Go.Proofs.YtmncdbepjhmkgaaGreatDoor
open Go.Proofs.Tryz
open Go
theorem ZSO:(Rows.printedRow.wf (OpenSpec.ofChange Rows.printedSpec))=true:=by kernel_rfl
theorem ZSl:(laidOutB prog)=true:=by kernel_rfl
theorem ZSr:(mapsRowed prog)=true:=by kernel_rfl
theorem ZSu:(f3.params.all (prog.readableRec ·))=true:=by kernel_rfl
theorem ZSs:(namedTie prog Rows.printedRow.named Rows.printedSpec.vars)=true:=by kernel_rfl
theorem ZSv:((Rows.printedRow.stops == []))=true:=by kernel_rfl
theorem ZSw:((prog.stops == []))=true:=by kernel_rfl
theorem ZSx:((Rows.printedRow.knobs == []))=true:=by kernel_rfl
theorem ZSy:((prog.stopKnobs == []))=true:=by kernel_rfl
theorem ZSj:((Rows.printedRow.inPlace == prog.inPlace 3))=true:=by kernel_rfl
theorem ZSz:((Rows.printedRow.unfollowed == prog.unfollowed 3))=true:=by kernel_rfl
theorem ZSt:((Rows.printedRow.recurses == prog.recurses 3))=true:=by kernel_rfl
theorem ZSJ:((Rows.printedRow.named == prog.varsNamed 3))=true:=by kernel_rfl
theorem ZSm:((Rows.printedRow.maps == (f3.params.toList++Rows.printedSpec.plain.varTypes prog).any (prog.mapsRec ·)))=true:=by kernel_rfl
theorem ZSn:((Rows.printedRow.ifaces == (f3.params.toList++Rows.printedSpec.plain.varTypes prog).any (prog.ifacesRec ·)))=true:=by kernel_rfl
theorem ZSo:((Rows.printedRow.mapsOut == prog.mapsAmong f3.resultTypes.toList))=true:=by kernel_rfl
theorem ZSp:((Rows.printedRow.loops == (f3.params.toList++Rows.printedSpec.plain.varTypes prog).any (prog.loopsFrom ·)))=true:=by kernel_rfl
theorem ZSq:((Rows.printedRow.wideKeys == (f3.params.toList++Rows.printedSpec.plain.varTypes prog++f3.resultTypes.toList).any (prog.wideKeysFrom ·)))=true:=by kernel_rfl
theorem ZSA:(Rows.printedSpec.vars.all (prog.varReadable ·))=true:=by kernel_rfl
theorem ZSB:(f3.resultTypes.all (fun t=>prog.readableRec t && decide (t<prog.types.size)))=true:=by kernel_rfl
theorem ZSC:((Rows.printedRow.ifacesOut == f3.resultTypes.toList.any (prog.ifacesRec ·)))=true:=by kernel_rfl
theorem ZSD:((Rows.printedRow.loopsOut == f3.resultTypes.toList.any (prog.loopsFrom ·)))=true:=by kernel_rfl
theorem ZSE:((Rows.printedRow.plainKeys == prog.plainKeys))=true:=by kernel_rfl
theorem ZSF:(Rows.printedRow.shortTexts.isNone)=true:=by kernel_rfl
theorem ZSG:(prog.stopsHeard)=true:=by kernel_rfl
theorem ZSH:(prog.mayEnter)=true:=by kernel_rfl
theorem ZSI:((Rows.printedRow.lifted == prog.liftsFinal))=true:=by kernel_rfl
theorem ZSK:((prog.make == some Rows.printedRow.make))=true:=by kernel_rfl
theorem ZTc:((Rows.printedRow.kinds == (if Rows.printedRow.domain.isEmpty then [] else f3.params.toList.map fun t=>match prog.underlying t with|some (.int k)=>some k|_=>none)))=true:=by kernel_rfl
theorem ZSL:((Rows.printedRow.pinned == Rows.printedRow.pinnedBy))=true:=by kernel_rfl
theorem ZSM:((Rows.printedRow.veiled == (f3.params.toList++Rows.printedSpec.plain.varTypes prog++f3.resultTypes.toList).any (prog.veiledRec ·)))=true:=by kernel_rfl
theorem ZSN:(Rows.printedRow.veiledFits prog f3.params.toList (f3.params.toList++Rows.printedSpec.plain.varTypes prog++f3.resultTypes.toList))=true:=by kernel_rfl
theorem ZSk:joinedFacts prog 3 f3 Rows.printedSpec Rows.printedRow=true:=by
 unfold joinedFacts;rw[ZSO,ZSl,ZSr,ZSu,ZSs,ZSv,ZSw,ZSx,ZSy,ZSj,ZSz,ZSt,ZSJ,ZSm,ZSn,ZSo,ZSp,ZSq,ZSA,ZSB,ZSC,ZSD,ZSE,ZSF,ZSG,ZSH,ZSI,ZSK,ZSL,ZSM,ZSN]
 kernel_rfl

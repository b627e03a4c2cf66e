/- Parts. -/
import Derived.Test.YtpbemaaghbbocaaGreatDoorRows
import Derived.JoinedOf
set_option linter.all false
set_option maxRecDepth 100000
set_option maxHeartbeats 16000000
namespace Go.Proofs.YtpbemaaghbbocaaGreatDoor
open Go.Proofs.Tryz
open Go
theorem ZRH:(Rows.shuffledUptoRow.wf (OpenSpec.ofChange Rows.shuffledSpec))=true:=by kernel_rfl
theorem ZRe:(laidOutB prog)=true:=by kernel_rfl
theorem ZRk:(mapsRowed prog)=true:=by kernel_rfl
theorem ZRn:(f5.params.all (prog.readableRec ·))=true:=by kernel_rfl
theorem ZRl:(namedTie prog Rows.shuffledUptoRow.named Rows.shuffledSpec.vars)=true:=by kernel_rfl
theorem ZRo:((Rows.shuffledUptoRow.stops == []))=true:=by kernel_rfl
theorem ZRp:((prog.stops == []))=true:=by kernel_rfl
theorem ZRq:((Rows.shuffledUptoRow.knobs == []))=true:=by kernel_rfl
theorem ZRr:((prog.stopKnobs == []))=true:=by kernel_rfl
theorem ZRc:((Rows.shuffledUptoRow.inPlace == prog.inPlace 5))=true:=by kernel_rfl
theorem ZRs:((Rows.shuffledUptoRow.unfollowed == prog.unfollowed 5))=true:=by kernel_rfl
theorem ZRm:((Rows.shuffledUptoRow.recurses == prog.recurses 5))=true:=by kernel_rfl
theorem ZRC:((Rows.shuffledUptoRow.named == prog.varsNamed 5))=true:=by kernel_rfl
theorem ZRf:((Rows.shuffledUptoRow.maps == (f5.params.toList++Rows.shuffledSpec.plain.varTypes prog).any (prog.mapsRec ·)))=true:=by kernel_rfl
theorem ZRg:((Rows.shuffledUptoRow.ifaces == (f5.params.toList++Rows.shuffledSpec.plain.varTypes prog).any (prog.ifacesRec ·)))=true:=by kernel_rfl
theorem ZRh:((Rows.shuffledUptoRow.mapsOut == prog.mapsAmong f5.resultTypes.toList))=true:=by kernel_rfl
theorem ZRi:((Rows.shuffledUptoRow.loops == (f5.params.toList++Rows.shuffledSpec.plain.varTypes prog).any (prog.loopsFrom ·)))=true:=by kernel_rfl
theorem ZRj:((Rows.shuffledUptoRow.wideKeys == (f5.params.toList++Rows.shuffledSpec.plain.varTypes prog++f5.resultTypes.toList).any (prog.wideKeysFrom ·)))=true:=by kernel_rfl
theorem ZRt:(Rows.shuffledSpec.vars.all (prog.varReadable ·))=true:=by kernel_rfl
theorem ZRu:(f5.resultTypes.all (fun t=>prog.readableRec t && decide (t<prog.types.size)))=true:=by kernel_rfl
theorem ZRv:((Rows.shuffledUptoRow.ifacesOut == f5.resultTypes.toList.any (prog.ifacesRec ·)))=true:=by kernel_rfl
theorem ZRw:((Rows.shuffledUptoRow.loopsOut == f5.resultTypes.toList.any (prog.loopsFrom ·)))=true:=by kernel_rfl
theorem ZRx:((Rows.shuffledUptoRow.plainKeys == prog.plainKeys))=true:=by kernel_rfl
theorem ZRy:(Rows.shuffledUptoRow.shortTexts.isNone)=true:=by kernel_rfl
theorem ZRz:(prog.stopsHeard)=true:=by kernel_rfl
theorem ZRA:(prog.mayEnter)=true:=by kernel_rfl
theorem ZRB:((Rows.shuffledUptoRow.lifted == prog.liftsFinal))=true:=by kernel_rfl
theorem ZRD:((prog.make == some Rows.shuffledUptoRow.make))=true:=by kernel_rfl
theorem ZRE:((Rows.shuffledUptoRow.pinned == Rows.shuffledUptoRow.pinnedBy))=true:=by kernel_rfl
theorem ZRF:((Rows.shuffledUptoRow.veiled == (f5.params.toList++Rows.shuffledSpec.plain.varTypes prog++f5.resultTypes.toList).any (prog.veiledRec ·)))=true:=by kernel_rfl
theorem ZRG:(Rows.shuffledUptoRow.veiledFits prog f5.params.toList (f5.params.toList++Rows.shuffledSpec.plain.varTypes prog++f5.resultTypes.toList))=true:=by kernel_rfl
theorem ZRd:joinedFacts prog 5 f5 Rows.shuffledSpec Rows.shuffledUptoRow=true:=by
 unfold joinedFacts;rw[ZRH,ZRe,ZRk,ZRn,ZRl,ZRo,ZRp,ZRq,ZRr,ZRc,ZRs,ZRm,ZRC,ZRf,ZRg,ZRh,ZRi,ZRj,ZRt,ZRu,ZRv,ZRw,ZRx,ZRy,ZRz,ZRA,ZRB,ZRD,ZRE,ZRF,ZRG]
 kernel_rfl

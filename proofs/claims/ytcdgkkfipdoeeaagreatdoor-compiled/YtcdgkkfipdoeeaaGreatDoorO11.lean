/- Parts. -/
import Derived.Test.YtcdgkkfipdoeeaaGreatDoorRows
import Derived.JoinedOf
set_option linter.all false
set_option maxRecDepth 100000
set_option maxHeartbeats 16000000
namespace Go.Proofs.YtcdgkkfipdoeeaaGreatDoor
open Go.Proofs.Tryz
open Go
theorem ZEx:(Rows.compiledRow.wf (OpenSpec.ofChange Rows.compiledSpec))=true:=by kernel_rfl
theorem ZD4:(laidOutB prog)=true:=by kernel_rfl
theorem ZEa:(mapsRowed prog)=true:=by kernel_rfl
theorem ZEd:(f3.params.all (prog.readableRec ·))=true:=by kernel_rfl
theorem ZEb:(namedTie prog Rows.compiledRow.named Rows.compiledSpec.vars)=true:=by kernel_rfl
theorem ZEe:((Rows.compiledRow.stops == []))=true:=by kernel_rfl
theorem ZEf:((prog.stops == []))=true:=by kernel_rfl
theorem ZEg:((Rows.compiledRow.knobs == []))=true:=by kernel_rfl
theorem ZEh:((prog.stopKnobs == []))=true:=by kernel_rfl
theorem ZD2:((Rows.compiledRow.inPlace == prog.inPlace 3))=true:=by kernel_rfl
theorem ZEi:((Rows.compiledRow.unfollowed == prog.unfollowed 3))=true:=by kernel_rfl
theorem ZEc:((Rows.compiledRow.recurses == prog.recurses 3))=true:=by kernel_rfl
theorem ZEs:((Rows.compiledRow.named == prog.varsNamed 3))=true:=by kernel_rfl
theorem ZD5:((Rows.compiledRow.maps == (f3.params.toList++Rows.compiledSpec.plain.varTypes prog).any (prog.mapsRec ·)))=true:=by kernel_rfl
theorem ZD6:((Rows.compiledRow.ifaces == (f3.params.toList++Rows.compiledSpec.plain.varTypes prog).any (prog.ifacesRec ·)))=true:=by kernel_rfl
theorem ZD7:((Rows.compiledRow.mapsOut == prog.mapsAmong f3.resultTypes.toList))=true:=by kernel_rfl
theorem ZD8:((Rows.compiledRow.loops == (f3.params.toList++Rows.compiledSpec.plain.varTypes prog).any (prog.loopsFrom ·)))=true:=by kernel_rfl
theorem ZD9:((Rows.compiledRow.wideKeys == (f3.params.toList++Rows.compiledSpec.plain.varTypes prog++f3.resultTypes.toList).any (prog.wideKeysFrom ·)))=true:=by kernel_rfl
theorem ZEj:(Rows.compiledSpec.vars.all (prog.varReadable ·))=true:=by kernel_rfl
theorem ZEk:(f3.resultTypes.all (fun t=>prog.readableRec t && decide (t<prog.types.size)))=true:=by kernel_rfl
theorem ZEl:((Rows.compiledRow.ifacesOut == f3.resultTypes.toList.any (prog.ifacesRec ·)))=true:=by kernel_rfl
theorem ZEm:((Rows.compiledRow.loopsOut == f3.resultTypes.toList.any (prog.loopsFrom ·)))=true:=by kernel_rfl
theorem ZEn:((Rows.compiledRow.plainKeys == prog.plainKeys))=true:=by kernel_rfl
theorem ZEo:(Rows.compiledRow.shortTexts.isNone)=true:=by kernel_rfl
theorem ZEp:(prog.stopsHeard)=true:=by kernel_rfl
theorem ZEq:(prog.mayEnter)=true:=by kernel_rfl
theorem ZEr:((Rows.compiledRow.lifted == prog.liftsFinal))=true:=by kernel_rfl
theorem ZEt:((prog.make == some Rows.compiledRow.make))=true:=by kernel_rfl
theorem ZEu:((Rows.compiledRow.pinned == Rows.compiledRow.pinnedBy))=true:=by kernel_rfl
theorem ZEv:((Rows.compiledRow.veiled == (f3.params.toList++Rows.compiledSpec.plain.varTypes prog++f3.resultTypes.toList).any (prog.veiledRec ·)))=true:=by kernel_rfl
theorem ZEw:(Rows.compiledRow.veiledFits prog f3.params.toList (f3.params.toList++Rows.compiledSpec.plain.varTypes prog++f3.resultTypes.toList))=true:=by kernel_rfl
theorem ZD3:joinedFacts prog 3 f3 Rows.compiledSpec Rows.compiledRow=true:=by
 unfold joinedFacts;rw[ZEx,ZD4,ZEa,ZEd,ZEb,ZEe,ZEf,ZEg,ZEh,ZD2,ZEi,ZEc,ZEs,ZD5,ZD6,ZD7,ZD8,ZD9,ZEj,ZEk,ZEl,ZEm,ZEn,ZEo,ZEp,ZEq,ZEr,ZEt,ZEu,ZEv,ZEw]
 kernel_rfl

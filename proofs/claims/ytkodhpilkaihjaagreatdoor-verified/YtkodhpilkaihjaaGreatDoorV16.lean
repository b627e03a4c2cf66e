/- Parts. -/
import Derived.Test.YtkodhpilkaihjaaGreatDoorRows
import Derived.JoinedOf
set_option linter.all false
set_option maxRecDepth 100000
set_option maxHeartbeats 16000000
namespace Go.Proofs.YtkodhpilkaihjaaGreatDoor
open Go.Proofs.Tryz
open Go
theorem ZEx:(Rows.verifiedRow.wf (OpenSpec.ofChange Rows.verifiedSpec))=true:=by kernel_rfl
theorem ZD4:(laidOutB prog)=true:=by kernel_rfl
theorem ZEa:(mapsRowed prog)=true:=by kernel_rfl
theorem ZEd:(f3.params.all (prog.readableRec ·))=true:=by kernel_rfl
theorem ZEb:(namedTie prog Rows.verifiedRow.named Rows.verifiedSpec.vars)=true:=by kernel_rfl
theorem ZEe:((Rows.verifiedRow.stops == []))=true:=by kernel_rfl
theorem ZEf:((prog.stops == []))=true:=by kernel_rfl
theorem ZEg:((Rows.verifiedRow.knobs == []))=true:=by kernel_rfl
theorem ZEh:((prog.stopKnobs == []))=true:=by kernel_rfl
theorem ZD2:((Rows.verifiedRow.inPlace == prog.inPlace 3))=true:=by kernel_rfl
theorem ZEi:((Rows.verifiedRow.unfollowed == prog.unfollowed 3))=true:=by kernel_rfl
theorem ZEc:((Rows.verifiedRow.recurses == prog.recurses 3))=true:=by kernel_rfl
theorem ZEs:((Rows.verifiedRow.named == prog.varsNamed 3))=true:=by kernel_rfl
theorem ZD5:((Rows.verifiedRow.maps == (f3.params.toList++Rows.verifiedSpec.plain.varTypes prog).any (prog.mapsRec ·)))=true:=by kernel_rfl
theorem ZD6:((Rows.verifiedRow.ifaces == (f3.params.toList++Rows.verifiedSpec.plain.varTypes prog).any (prog.ifacesRec ·)))=true:=by kernel_rfl
theorem ZD7:((Rows.verifiedRow.mapsOut == prog.mapsAmong f3.resultTypes.toList))=true:=by kernel_rfl
theorem ZD8:((Rows.verifiedRow.loops == (f3.params.toList++Rows.verifiedSpec.plain.varTypes prog).any (prog.loopsFrom ·)))=true:=by kernel_rfl
theorem ZD9:((Rows.verifiedRow.wideKeys == (f3.params.toList++Rows.verifiedSpec.plain.varTypes prog++f3.resultTypes.toList).any (prog.wideKeysFrom ·)))=true:=by kernel_rfl
theorem ZEj:(Rows.verifiedSpec.vars.all (prog.varReadable ·))=true:=by kernel_rfl
theorem ZEk:(f3.resultTypes.all (fun t=>prog.readableRec t && decide (t<prog.types.size)))=true:=by kernel_rfl
theorem ZEl:((Rows.verifiedRow.ifacesOut == f3.resultTypes.toList.any (prog.ifacesRec ·)))=true:=by kernel_rfl
theorem ZEm:((Rows.verifiedRow.loopsOut == f3.resultTypes.toList.any (prog.loopsFrom ·)))=true:=by kernel_rfl
theorem ZEn:((Rows.verifiedRow.plainKeys == prog.plainKeys))=true:=by kernel_rfl
theorem ZEo:(Rows.verifiedRow.shortTexts.isNone)=true:=by kernel_rfl
theorem ZEp:(prog.stopsHeard)=true:=by kernel_rfl
theorem ZEq:(prog.mayEnter)=true:=by kernel_rfl
theorem ZEr:((Rows.verifiedRow.lifted == prog.liftsFinal))=true:=by kernel_rfl
theorem ZEt:((prog.make == some Rows.verifiedRow.make))=true:=by kernel_rfl
theorem ZEu:((Rows.verifiedRow.pinned == Rows.verifiedRow.pinnedBy))=true:=by kernel_rfl
theorem ZEv:((Rows.verifiedRow.veiled == (f3.params.toList++Rows.verifiedSpec.plain.varTypes prog++f3.resultTypes.toList).any (prog.veiledRec ·)))=true:=by kernel_rfl
theorem ZEw:(Rows.verifiedRow.veiledFits prog f3.params.toList (f3.params.toList++Rows.verifiedSpec.plain.varTypes prog++f3.resultTypes.toList))=true:=by kernel_rfl
theorem ZD3:joinedFacts prog 3 f3 Rows.verifiedSpec Rows.verifiedRow=true:=by
 unfold joinedFacts;rw[ZEx,ZD4,ZEa,ZEd,ZEb,ZEe,ZEf,ZEg,ZEh,ZD2,ZEi,ZEc,ZEs,ZD5,ZD6,ZD7,ZD8,ZD9,ZEj,ZEk,ZEl,ZEm,ZEn,ZEo,ZEp,ZEq,ZEr,ZEt,ZEu,ZEv,ZEw]
 kernel_rfl

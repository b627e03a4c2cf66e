/- Parts. -/
import Derived.Test.YtkodhpilkaihjaaGreatDoorRows
import Derived.Test.YtkodhpilkaihjaaGreatDoorChecked
import Derived.JoinedOf
import Derived.KernelRfl
namespace Go.Proofs.YtkodhpilkaihjaaGreatDoor
open Go
theorem Zq1:(Rows.safeRow.wf (OpenSpec.ofChange Rows.safeSpec))=true:=by kernel_rfl
theorem Zqy:(laidOutB Tryz.prog)=true:=by kernel_rfl
theorem ZqE:(mapsRowed Tryz.prog)=true:=by kernel_rfl
theorem ZqH:(Tryz.f5.params.all (Tryz.prog.readableRec ·))=true:=by kernel_rfl
theorem ZqF:(namedTie Tryz.prog Rows.safeRow.named Rows.safeSpec.vars)=true:=by kernel_rfl
theorem ZqI:((Rows.safeRow.stops == []))=true:=by kernel_rfl
theorem ZqJ:((Tryz.prog.stops == []))=true:=by kernel_rfl
theorem ZqK:((Rows.safeRow.knobs == []))=true:=by kernel_rfl
theorem ZqL:((Tryz.prog.stopKnobs == []))=true:=by kernel_rfl
theorem Zqw:((Rows.safeRow.inPlace == Tryz.prog.inPlace 5))=true:=by kernel_rfl
theorem ZqM:((Rows.safeRow.unfollowed == Tryz.prog.unfollowed 5))=true:=by kernel_rfl
theorem ZqG:((Rows.safeRow.recurses == Tryz.prog.recurses 5))=true:=by kernel_rfl
theorem ZqW:((Rows.safeRow.named == Tryz.prog.varsNamed 5))=true:=by kernel_rfl
theorem Zqz:((Rows.safeRow.maps == (Tryz.f5.params.toList++Rows.safeSpec.plain.varTypes Tryz.prog).any (Tryz.prog.mapsRec ·)))=true:=by kernel_rfl
theorem ZqA:((Rows.safeRow.ifaces == (Tryz.f5.params.toList++Rows.safeSpec.plain.varTypes Tryz.prog).any (Tryz.prog.ifacesRec ·)))=true:=by kernel_rfl
theorem ZqB:((Rows.safeRow.mapsOut == Tryz.prog.mapsAmong Tryz.f5.resultTypes.toList))=true:=by kernel_rfl
theorem ZqC:((Rows.safeRow.loops == (Tryz.f5.params.toList++Rows.safeSpec.plain.varTypes Tryz.prog).any (Tryz.prog.loopsFrom ·)))=true:=by kernel_rfl
theorem ZqD:((Rows.safeRow.wideKeys == (Tryz.f5.params.toList++Rows.safeSpec.plain.varTypes Tryz.prog++Tryz.f5.resultTypes.toList).any (Tryz.prog.wideKeysFrom ·)))=true:=by kernel_rfl
theorem ZqN:(Rows.safeSpec.vars.all (Tryz.prog.varReadable ·))=true:=by kernel_rfl
theorem ZqO:(Tryz.f5.resultTypes.all (fun t=>Tryz.prog.readableRec t && decide (t<Tryz.prog.types.size)))=true:=by kernel_rfl
theorem ZqP:((Rows.safeRow.ifacesOut == Tryz.f5.resultTypes.toList.any (Tryz.prog.ifacesRec ·)))=true:=by kernel_rfl
theorem ZqQ:((Rows.safeRow.loopsOut == Tryz.f5.resultTypes.toList.any (Tryz.prog.loopsFrom ·)))=true:=by kernel_rfl
theorem ZqR:((Rows.safeRow.plainKeys == Tryz.prog.plainKeys))=true:=by kernel_rfl
theorem ZqS:(Rows.safeRow.shortTexts.isNone)=true:=by kernel_rfl
theorem ZqT:(Tryz.prog.stopsHeard)=true:=by kernel_rfl
theorem ZqU:(Tryz.prog.mayEnter)=true:=by kernel_rfl
theorem ZqV:((Rows.safeRow.lifted == Tryz.prog.liftsFinal))=true:=by kernel_rfl
theorem ZqX:((Tryz.prog.make == some Rows.safeRow.make))=true:=by kernel_rfl
theorem ZqY:((Rows.safeRow.pinned == Rows.safeRow.pinnedBy))=true:=by kernel_rfl
theorem ZqZ:((Rows.safeRow.veiled == (Tryz.f5.params.toList++Rows.safeSpec.plain.varTypes Tryz.prog++Tryz.f5.resultTypes.toList).any (Tryz.prog.veiledRec ·)))=true:=by kernel_rfl
theorem Zq0:(Rows.safeRow.veiledFits Tryz.prog Tryz.f5.params.toList (Tryz.f5.params.toList++Rows.safeSpec.plain.varTypes Tryz.prog++Tryz.f5.resultTypes.toList))=true:=by kernel_rfl
theorem Zqx:joinedFacts Tryz.prog 5 Tryz.f5 Rows.safeSpec Rows.safeRow=true:=by
 unfold joinedFacts
 rw[Zq1,Zqy,ZqE,ZqH,ZqF,ZqI,ZqJ,ZqK,ZqL,Zqw,ZqM,ZqG,ZqW,Zqz,ZqA,ZqB,ZqC,ZqD,ZqN,ZqO,ZqP,ZqQ,ZqR,ZqS,ZqT,ZqU,ZqV,ZqX,ZqY,ZqZ,Zq0]
 kernel_rfl
end Go.Proofs.YtkodhpilkaihjaaGreatDoor

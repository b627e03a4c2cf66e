/- Parts. -/
import Derived.Test.YtcdgkkfipdoeeaaGreatDoorRows
import Derived.Test.YtcdgkkfipdoeeaaGreatDoorChecked
import Derived.JoinedOf
import Derived.KernelRfl
namespace Go.Proofs.YtcdgkkfipdoeeaaGreatDoor
open Go
theorem Zy3:(Rows.tightRow.wf (OpenSpec.ofChange Rows.tightSpec))=true:=by kernel_rfl
theorem ZyA:(laidOutB Tryz.prog)=true:=by kernel_rfl
theorem ZyG:(mapsRowed Tryz.prog)=true:=by kernel_rfl
theorem ZyJ:(Tryz.f4.params.all (Tryz.prog.readableRec ·))=true:=by kernel_rfl
theorem ZyH:(namedTie Tryz.prog Rows.tightRow.named Rows.tightSpec.vars)=true:=by kernel_rfl
theorem ZyK:((Rows.tightRow.stops == []))=true:=by kernel_rfl
theorem ZyL:((Tryz.prog.stops == []))=true:=by kernel_rfl
theorem ZyM:((Rows.tightRow.knobs == []))=true:=by kernel_rfl
theorem ZyN:((Tryz.prog.stopKnobs == []))=true:=by kernel_rfl
theorem Zyy:((Rows.tightRow.inPlace == Tryz.prog.inPlace 4))=true:=by kernel_rfl
theorem ZyO:((Rows.tightRow.unfollowed == Tryz.prog.unfollowed 4))=true:=by kernel_rfl
theorem ZyI:((Rows.tightRow.recurses == Tryz.prog.recurses 4))=true:=by kernel_rfl
theorem ZyY:((Rows.tightRow.named == Tryz.prog.varsNamed 4))=true:=by kernel_rfl
theorem ZyB:((Rows.tightRow.maps == (Tryz.f4.params.toList++Rows.tightSpec.plain.varTypes Tryz.prog).any (Tryz.prog.mapsRec ·)))=true:=by kernel_rfl
theorem ZyC:((Rows.tightRow.ifaces == (Tryz.f4.params.toList++Rows.tightSpec.plain.varTypes Tryz.prog).any (Tryz.prog.ifacesRec ·)))=true:=by kernel_rfl
theorem ZyD:((Rows.tightRow.mapsOut == Tryz.prog.mapsAmong Tryz.f4.resultTypes.toList))=true:=by kernel_rfl
theorem ZyE:((Rows.tightRow.loops == (Tryz.f4.params.toList++Rows.tightSpec.plain.varTypes Tryz.prog).any (Tryz.prog.loopsFrom ·)))=true:=by kernel_rfl
theorem ZyF:((Rows.tightRow.wideKeys == (Tryz.f4.params.toList++Rows.tightSpec.plain.varTypes Tryz.prog++Tryz.f4.resultTypes.toList).any (Tryz.prog.wideKeysFrom ·)))=true:=by kernel_rfl
theorem ZyP:(Rows.tightSpec.vars.all (Tryz.prog.varReadable ·))=true:=by kernel_rfl
theorem ZyQ:(Tryz.f4.resultTypes.all (fun t=>Tryz.prog.readableRec t && decide (t<Tryz.prog.types.size)))=true:=by kernel_rfl
theorem ZyR:((Rows.tightRow.ifacesOut == Tryz.f4.resultTypes.toList.any (Tryz.prog.ifacesRec ·)))=true:=by kernel_rfl
theorem ZyS:((Rows.tightRow.loopsOut == Tryz.f4.resultTypes.toList.any (Tryz.prog.loopsFrom ·)))=true:=by kernel_rfl
theorem ZyT:((Rows.tightRow.plainKeys == Tryz.prog.plainKeys))=true:=by kernel_rfl
theorem ZyU:(Rows.tightRow.shortTexts.isNone)=true:=by kernel_rfl
theorem ZyV:(Tryz.prog.stopsHeard)=true:=by kernel_rfl
theorem ZyW:(Tryz.prog.mayEnter)=true:=by kernel_rfl
theorem ZyX:((Rows.tightRow.lifted == Tryz.prog.liftsFinal))=true:=by kernel_rfl
theorem ZyZ:((Tryz.prog.make == some Rows.tightRow.make))=true:=by kernel_rfl
theorem Zy0:((Rows.tightRow.pinned == Rows.tightRow.pinnedBy))=true:=by kernel_rfl
theorem Zy1:((Rows.tightRow.veiled == (Tryz.f4.params.toList++Rows.tightSpec.plain.varTypes Tryz.prog++Tryz.f4.resultTypes.toList).any (Tryz.prog.veiledRec ·)))=true:=by kernel_rfl
theorem Zy2:(Rows.tightRow.veiledFits Tryz.prog Tryz.f4.params.toList (Tryz.f4.params.toList++Rows.tightSpec.plain.varTypes Tryz.prog++Tryz.f4.resultTypes.toList))=true:=by kernel_rfl
theorem Zyz:joinedFacts Tryz.prog 4 Tryz.f4 Rows.tightSpec Rows.tightRow=true:=by
 unfold joinedFacts
 rw[Zy3,ZyA,ZyG,ZyJ,ZyH,ZyK,ZyL,ZyM,ZyN,Zyy,ZyO,ZyI,ZyY,ZyB,ZyC,ZyD,ZyE,ZyF,ZyP,ZyQ,ZyR,ZyS,ZyT,ZyU,ZyV,ZyW,ZyX,ZyZ,Zy0,Zy1,Zy2]
 kernel_rfl
end Go.Proofs.YtcdgkkfipdoeeaaGreatDoor

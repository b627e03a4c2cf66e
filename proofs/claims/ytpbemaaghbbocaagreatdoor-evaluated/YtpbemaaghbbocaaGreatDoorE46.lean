/- Parts. -/
import Derived.Test.YtpbemaaghbbocaaGreatDoorRows
import Derived.Test.YtpbemaaghbbocaaGreatDoorChecked
import Derived.JoinedOf
import Derived.KernelRfl
namespace Go.Proofs.YtpbemaaghbbocaaGreatDoor
open Go
theorem Znu:(Rows.evaluatedRow.wf (OpenSpec.ofChange Rows.evaluatedSpec))=true:=by kernel_rfl
theorem Zm1:(laidOutB Tryz.prog)=true:=by kernel_rfl
theorem Zm7:(mapsRowed Tryz.prog)=true:=by kernel_rfl
theorem Zna:(Tryz.f3.params.all (Tryz.prog.readableRec ·))=true:=by kernel_rfl
theorem Zm8:(namedTie Tryz.prog Rows.evaluatedRow.named Rows.evaluatedSpec.vars)=true:=by kernel_rfl
theorem Znb:((Rows.evaluatedRow.stops == []))=true:=by kernel_rfl
theorem Znc:((Tryz.prog.stops == []))=true:=by kernel_rfl
theorem Znd:((Rows.evaluatedRow.knobs == []))=true:=by kernel_rfl
theorem Zne:((Tryz.prog.stopKnobs == []))=true:=by kernel_rfl
theorem ZmZ:((Rows.evaluatedRow.inPlace == Tryz.prog.inPlace 3))=true:=by kernel_rfl
theorem Znf:((Rows.evaluatedRow.unfollowed == Tryz.prog.unfollowed 3))=true:=by kernel_rfl
theorem Zm9:((Rows.evaluatedRow.recurses == Tryz.prog.recurses 3))=true:=by kernel_rfl
theorem Znp:((Rows.evaluatedRow.named == Tryz.prog.varsNamed 3))=true:=by kernel_rfl
theorem Zm2:((Rows.evaluatedRow.maps == (Tryz.f3.params.toList++Rows.evaluatedSpec.plain.varTypes Tryz.prog).any (Tryz.prog.mapsRec ·)))=true:=by kernel_rfl
theorem Zm3:((Rows.evaluatedRow.ifaces == (Tryz.f3.params.toList++Rows.evaluatedSpec.plain.varTypes Tryz.prog).any (Tryz.prog.ifacesRec ·)))=true:=by kernel_rfl
theorem Zm4:((Rows.evaluatedRow.mapsOut == Tryz.prog.mapsAmong Tryz.f3.resultTypes.toList))=true:=by kernel_rfl
theorem Zm5:((Rows.evaluatedRow.loops == (Tryz.f3.params.toList++Rows.evaluatedSpec.plain.varTypes Tryz.prog).any (Tryz.prog.loopsFrom ·)))=true:=by kernel_rfl
theorem Zm6:((Rows.evaluatedRow.wideKeys == (Tryz.f3.params.toList++Rows.evaluatedSpec.plain.varTypes Tryz.prog++Tryz.f3.resultTypes.toList).any (Tryz.prog.wideKeysFrom ·)))=true:=by kernel_rfl
theorem Zng:(Rows.evaluatedSpec.vars.all (Tryz.prog.varReadable ·))=true:=by kernel_rfl
theorem Znh:(Tryz.f3.resultTypes.all (fun t=>Tryz.prog.readableRec t && decide (t<Tryz.prog.types.size)))=true:=by kernel_rfl
theorem Zni:((Rows.evaluatedRow.ifacesOut == Tryz.f3.resultTypes.toList.any (Tryz.prog.ifacesRec ·)))=true:=by kernel_rfl
theorem Znj:((Rows.evaluatedRow.loopsOut == Tryz.f3.resultTypes.toList.any (Tryz.prog.loopsFrom ·)))=true:=by kernel_rfl
theorem Znk:((Rows.evaluatedRow.plainKeys == Tryz.prog.plainKeys))=true:=by kernel_rfl
theorem Znl:(Rows.evaluatedRow.shortTexts.isNone)=true:=by kernel_rfl
theorem Znm:(Tryz.prog.stopsHeard)=true:=by kernel_rfl
theorem Znn:(Tryz.prog.mayEnter)=true:=by kernel_rfl
theorem Zno:((Rows.evaluatedRow.lifted == Tryz.prog.liftsFinal))=true:=by kernel_rfl
theorem Znq:((Tryz.prog.make == some Rows.evaluatedRow.make))=true:=by kernel_rfl
theorem Znr:((Rows.evaluatedRow.pinned == Rows.evaluatedRow.pinnedBy))=true:=by kernel_rfl
theorem Zns:((Rows.evaluatedRow.veiled == (Tryz.f3.params.toList++Rows.evaluatedSpec.plain.varTypes Tryz.prog++Tryz.f3.resultTypes.toList).any (Tryz.prog.veiledRec ·)))=true:=by kernel_rfl
theorem Znt:(Rows.evaluatedRow.veiledFits Tryz.prog Tryz.f3.params.toList (Tryz.f3.params.toList++Rows.evaluatedSpec.plain.varTypes Tryz.prog++Tryz.f3.resultTypes.toList))=true:=by kernel_rfl
theorem Zm0:joinedFacts Tryz.prog 3 Tryz.f3 Rows.evaluatedSpec Rows.evaluatedRow=true:=by
 unfold joinedFacts
 rw[Znu,Zm1,Zm7,Zna,Zm8,Znb,Znc,Znd,Zne,ZmZ,Znf,Zm9,Znp,Zm2,Zm3,Zm4,Zm5,Zm6,Zng,Znh,Zni,Znj,Znk,Znl,Znm,Znn,Zno,Znq,Znr,Zns,Znt]
 kernel_rfl
end Go.Proofs.YtpbemaaghbbocaaGreatDoor

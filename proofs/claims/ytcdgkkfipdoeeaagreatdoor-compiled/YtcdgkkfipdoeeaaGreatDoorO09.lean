/- Parts. -/
import Derived.Test.YtcdgkkfipdoeeaaGreatDoorO08
import Derived.Lib.SmallJoins
set_option linter.all false
set_option maxRecDepth 100000
set_option maxHeartbeats 16000000
namespace Go.Proofs.YtcdgkkfipdoeeaaGreatDoor
open Go.Proofs.Tryz
open Go.ChangeShapes Go.WideShapes Go.ChangeAt Go.RowKit LS
theorem Zn7:prog.cellsOf 23=3:=by rfl
section
open Go.Joins
variable {H:Type} {enc:TypeId×Value->H} {w:World} {base:Nat} {spare:Nat->Bool} {held:Bool}
theorem ZzP{r:Reach}{b0:Nat}{v:Value}{d:DataW H}{p:List MemPlace}(j:Value.okWide prog w r b0 23 v)(h:DataW.Trod enc prog w base spare held 23 v d p) :
  ∃f l s:Int,v=.agg #[.int .i64 f,.int .i64 l,.int .i64 s]/\d=.agg [.lit (.int .i64 f),.lit (.int .i64 l),.lit (.int .i64 s)]/\p=[]/\(Lit.int .i64 f).wf=true/\(Lit.int .i64 l).wf=true/\(Lit.int .i64 s).wf=true:=by
 obtain⟨c0,c1,c2,y0,y1,y2,m,rfl,rfl,rfl,e,g,i⟩:=open_agg3 underlying23 (by rfl) Zn7 j h;obtain⟨a,e0,rfl,k⟩:=Yfr underlying3 e;obtain⟨b,e1,rfl,n⟩:=Yfr underlying3 g;obtain⟨c,e2,rfl,o⟩:=Yfr underlying3 i;simp at e0 e1 e2;subst e0 e1 e2;exact⟨a,b,c,rfl,rfl,rfl,k,n,o⟩
theorem ZCc{f l s:Int}(a:(Lit.int .i64 f).wf=true)(c:(Lit.int .i64 l).wf=true)(d:(Lit.int .i64 s).wf=true) :
  DataW.Trod enc prog w base spare held 23 (.agg #[.int .i64 f,.int .i64 l,.int .i64 s]) (.agg [.lit (.int .i64 f),.lit (.int .i64 l),.lit (.int .i64 s)]) []:=
 shut_agg3 (y0:=(.lit (.int .i64 f),[])) (y1:=(.lit (.int .i64 l),[])) (y2:=(.lit (.int .i64 s),[])) underlying23 (by rfl) Zn7 ⟨1,by simp[DataW.trod,underlying3,a]⟩ ⟨1,by simp[DataW.trod,underlying3,c]⟩ ⟨1,by simp[DataW.trod,underlying3,d]⟩
end

/- Parts. -/
import Derived.Test.YtpbemaaghbbocaaGreatDoorE12
import Derived.Test.YtpbemaaghbbocaaGreatDoorE28
import Derived.Lib.SmallJoins
set_option linter.all false
set_option maxRecDepth 100000
set_option maxHeartbeats 16000000
namespace Go.Proofs.YtpbemaaghbbocaaGreatDoor
open Go.Proofs.Tryz
open Go.ChangeShapes Go.WideShapes Go.ChangeAt Go.RowKit LS
variable {p ps:List MemPlace}
theorem Zn7:prog.cellsOf 23=3:=by kernel_rfl
section
open Go.Joins
variable {H:Type} {enc:TypeId×Value->H} {w:World} {base:Nat} {spare:Nat->Bool} {held:Bool}
theorem ZzP{r:Reach}{b0:Nat}{v:Value}{d:DataW H}(j:Value.okWide prog w r b0 23 v)(h:DataW.Trod enc prog w base spare held 23 v d p) :
  ∃f l s:Int,v=.agg #[.int .i64 f,.int .i64 l,.int .i64 s]/\d=.agg [.lit (.int .i64 f),.lit (.int .i64 l),.lit (.int .i64 s)]/\p=[]/\(Lit.int .i64 f).wf=true/\(Lit.int .i64 l).wf=true/\(Lit.int .i64 s).wf=true:=by
 obtain⟨c0,c1,c2,y0,y1,y2,m,rfl,rfl,rfl,e,g,i⟩:=open_agg3 underlying23 Kr Zn7 j h;obtain⟨a,e0,rfl,k⟩:=Yfr underlying3 e;obtain⟨b,e1,rfl,n⟩:=Yfr underlying3 g;obtain⟨c,e2,rfl,wc⟩:=Yfr underlying3 i;simp at e0 e1 e2;subst e0 e1 e2;exact⟨a,b,c,rfl,rfl,rfl,k,n,wc⟩
theorem ZCc{f l s:Int}(a:(Lit.int .i64 f).wf=true)(c:(Lit.int .i64 l).wf=true)(d:(Lit.int .i64 s).wf=true) :
  DataW.Trod enc prog w base spare held 23 (.agg #[.int .i64 f,.int .i64 l,.int .i64 s]) (.agg [.lit (.int .i64 f),.lit (.int .i64 l),.lit (.int .i64 s)]) []:=
 shut_agg3 (y0:=(.lit (.int .i64 f),[])) (y1:=(.lit (.int .i64 l),[])) (y2:=(.lit (.int .i64 s),[])) underlying23 Kr Zn7 ⟨1,by simp[DataW.trod,underlying3,a]⟩ ⟨1,by simp[DataW.trod,underlying3,c]⟩ ⟨1,by simp[DataW.trod,underlying3,d]⟩
theorem ZFH{t0 t1 t2 t3 t4 t5:TypeId}{args:Array Value}{ds:List (DataW H)}(h:DataW.TrodAll enc prog w base spare held [t0,t1,t2,t3,t4,t5] args.toList ds ps) :
  ∃v0 v1 v2 v3 v4 v5 d0 d1 d2 d3 d4 d5 p0 p1 p2 p3 p4 p5,args=#[v0,v1,v2,v3,v4,v5]/\ds=[d0,d1,d2,d3,d4,d5]/\ps=p0++(p1++(p2++(p3++(p4++(p5++[])))))/\DataW.Trod enc prog w base spare held t0 v0 d0 p0/\DataW.Trod enc prog w base spare held t1 v1 d1 p1/\DataW.Trod enc prog w base spare held t2 v2 d2 p2/\DataW.Trod enc prog w base spare held t3 v3 d3 p3/\DataW.Trod enc prog w base spare held t4 v4 d4 p4/\DataW.Trod enc prog w base spare held t5 v5 d5 p5:=by
 obtain⟨v0,l0,d0,e0,p0,q0,a,rfl,rfl,c,h⟩:=trodAll_cons h;obtain⟨v1,l1,d1,e1,p1,q1,rfl,rfl,rfl,d,h⟩:=trodAll_cons h;obtain⟨v2,l2,d2,e2,p2,q2,rfl,rfl,rfl,e,h⟩:=trodAll_cons h;obtain⟨v3,l3,d3,e3,p3,q3,rfl,rfl,rfl,f,h⟩:=trodAll_cons h;obtain⟨v4,l4,d4,e4,p4,q4,rfl,rfl,rfl,g,h⟩:=trodAll_cons h;obtain⟨v5,l5,d5,e5,p5,q5,rfl,rfl,rfl,i,h⟩:=trodAll_cons h;obtain⟨rfl,rfl,rfl⟩:=trodAll_nil h;exact⟨v0,v1,v2,v3,v4,v5,d0,d1,d2,d3,d4,d5,p0,p1,p2,p3,p4,p5,by rw[<-Array.toArray_toList (xs:=args),a],rfl,rfl,c,d,e,f,g,i⟩
end

/- Parts. -/
import Derived.Test.YtmfnolgpaoldpaaGreatDoorRows
import Derived.Test.YtmfnolgpaoldpaaGreatDoorW00
import Derived.LaidHandle
import Derived.Stop.LaidTwo
import Derived.Shelf.Vars
import Derived.Lay
import Derived.Lib.SmallJoins
set_option linter.all false
set_option maxRecDepth 100000
set_option maxHeartbeats 16000000
namespace Go.Proofs.YtmfnolgpaoldpaaGreatDoor
open Go.Proofs.Tryz
open Go.ChangeShapes Go.WideShapes Go.ChangeAt Go.RowKit LS
variable {p ps:List MemPlace}{l r:List<|String×DataW Unit}{W w:World}
theorem fZ{P:Program}{x y:String×DataW Unit}(h:laidMet P (x::y::r) w):laidMet P (x::r) w:=by
 obtain⟨n,d⟩:=x;obtain⟨n',d'⟩:=y;obtain⟨ps,⟨g,t,cs,f,p,q,i,j,k,l,⟨g',t',cs',f',p',q',k1,k2,k3,k4,k5,e'⟩,e⟩,c,m⟩:=h;subst e';have a:(MemPlace.row ⟨g,0,none⟩ cs.size++p++q').Sublist ps:=e▸List.Sublist.append (List.Sublist.refl _) (List.sublist_append_right _ _);exact⟨_,⟨g,t,cs,f,p,q',i,j,k,l,k5,rfl⟩,c.sublist a,λb off o=>m b _<|a.mem o⟩
theorem own:ownKnob prog.godebug=none:=by rfl
theorem qj:Tryz.prog.globalNamed "errors.errorType"=some 13:=by rfl
theorem gP:(Tryz.prog.cutTypes.find? (·.1== "internal/reflectlite.rtype")).map (·.2)=some 242:=by rfl
theorem kh:((List.range 498).filter λt=>prog.rowNamed t [101,114,114,111,114])=[37]:=Kr
theorem Ed (u:TypeId)(h:Tryz.prog.typeName? 3 u=some "*errors.errorString"):u=469:=
 typeName_ptr_named (nm:= "errors.errorString") (by kernel_rfl) (by kernel_rfl) (by decide) u h
theorem te:prog.cellsOf 487=1:=by rfl
theorem tf:prog.cellsOf 9=1:=by rfl
theorem rL (h:handlesMet Tryz.prog (("errors.errorType",Rows.laid_errors_errorType)::l) W):W.cell? ⟨13,0,none⟩=some (.iface 242<|.agg #[.pointer<|some ⟨20,37,none⟩]):=by
 obtain⟨name,u,ty,e1,e2,e3,e4,e5⟩:=h _<|Re ..;have en:=(Uc e1).symm;subst en;obtain rfl:=Uc<|gP.symm.trans e2;have hm:ty∈(List.range 498).filter λt=>prog.rowNamed t _:=Qv.2 ⟨RY.2<|by assumption,e4⟩;rw[kh]at hm;obtain rfl:=Vs.1 hm;have hh:typeHandle prog 37=.pointer (some ⟨20,37,none⟩):=Kr;rw[hh]at e5;simpa using Iz qj e5 0
def JX(W:World)(x y:Nat):Prop:=∃(a b:Addr)(c d:Array Value)(t u:TypeId),W.cell? ⟨x,0,none⟩=some (.iface 469<|.pointer<|some a)/\W.cell? ⟨y,0,none⟩=some (.iface 469<|.pointer<|some b)/\a≠b/\W.heap[a.block]?=some (.cells c t (0,0))/\W.heap[b.block]?=some (.cells d u (0,0))
def VQ(d:DataW Unit):LB:=match d with
 |.iface _<|.ptr<|.agg [.lit<|.string t]=>t
 |_=>[]
def NM (x:String×List UInt8×Nat):String×DataW Unit:=(x.1,.iface "*errors.errorString"<|.ptr<|.agg [.lit<|.string x.2.1])
def KS(x:String×LB×Nat):Prop:=prog.globalNamed x.1=some x.2.2/\(prog.globals[x.2.2]?).map (·.type)=some 37
def L6:List<|String×List UInt8×Nat:=[("gauge/fault.Long",VQ Rows.laid_gauge_fault_Long,0),("gauge/fault.Syntax",VQ Rows.laid_gauge_fault_Syntax,1),("gauge/fault.Deep",VQ Rows.laid_gauge_fault_Deep,2),("gauge/fault.Type",VQ Rows.laid_gauge_fault_Type,3),("gauge/fault.Store",VQ Rows.laid_gauge_fault_Store,4),("gauge/fault.Twice",VQ Rows.laid_gauge_fault_Twice,5),("gauge/fault.Many",VQ Rows.laid_gauge_fault_Many,6),("gauge/fault.Times",VQ Rows.laid_gauge_fault_Times,7),("gauge/fault.Code",VQ Rows.laid_gauge_fault_Code,8),("gauge/fault.Sum",VQ Rows.laid_gauge_fault_Sum,9),("gauge/fault.Refer",VQ Rows.laid_gauge_fault_Refer,10),("gauge/fault.Stack",VQ Rows.laid_gauge_fault_Stack,11),("gauge/fault.Fuel",VQ Rows.laid_gauge_fault_Fuel,12)]
theorem rl:∀x∈L6,KS x:=by
 have h:(L6.all λx=>decide (prog.globalNamed x.1=some x.2.2)&&decide ((prog.globals[x.2.2]?).map (·.type)=some 37))=true:=Kr;intro x a;have:=Tt.1 h x a;constructor<;>simp_all
theorem AN{W:World}{r:List<|String×DataW Unit}{x:String×LB×Nat}(f:KS x):∀l:List<|String×LB×Nat,(∀y∈l,KS y)->laidMet prog (NM x::(l.map NM++r)) W->∀y∈l,JX W x.2.2 y.2.2
 |[],_,_,y,e=>by cases e
 |z::l,g,h,y,e=>by
  rcases X0.1 e with rfl|e
  .have e:=g y<|Re ..;obtain⟨a,b,_,_,c,d,t,u,i,j,_,_,_,_,_,_,k,ra,rb⟩:=laid_sentinels2 h f.1 f.2 e.1 e.2 underlying37 Ed underlying469 underlying487 rfl rfl underlying9 te tf;exact⟨a,b,c,d,t,u,by simpa using Iz f.1 i 0,by simpa using Iz e.1 j 0,k,ra,rb⟩
  .exact AN f l (λy h=>g y<|Vf _ h) (fZ h) y e
theorem B9 {W:World}{r:List<|String×DataW Unit}:∀l:List<|String×LB×Nat,(∀y∈l,KS y)->laidMet prog (l.map NM++r) W->l.Pairwise λx y=>JX W x.2.2 y.2.2
 |[],_,_=>.nil
 |_::l,a,h=>.cons (AN (a _<|Re ..) l (λy h=>a y<|Vf _ h) h)<|B9 l (λy h=>a y<|Vf _ h) h.tail
theorem Ai{R:Nat->Nat->Prop}(c:∀x y,R x y->R y x):∀{l:List Nat},l.Pairwise R->∀x∈l,∀y∈l,x≠y->R x y
 |[],_,x,a,_,_,_=>by cases a
 |z::l,d,x,a,y,e,f=>by
  obtain⟨h,t⟩:=Rg.1 d;rcases X0.1 a with rfl|i<;>rcases X0.1 e with rfl|j
  .omega
  .simp_all
  .simp_all
  .exact Ai c t x i y j f
def JT(W:World)(g:Nat):Addr:=match W.cell? ⟨g,0,none⟩with
 |some<|.iface _<|.pointer<|some a=>a
 |_=>⟨0,0,none⟩
theorem yh (h:laidMet Tryz.prog (("gauge/fault.Long",Rows.laid_gauge_fault_Long)::("gauge/fault.Syntax",Rows.laid_gauge_fault_Syntax)::("gauge/fault.Deep",Rows.laid_gauge_fault_Deep)::("gauge/fault.Type",Rows.laid_gauge_fault_Type)::("gauge/fault.Store",Rows.laid_gauge_fault_Store)::("gauge/fault.Twice",Rows.laid_gauge_fault_Twice)::("gauge/fault.Many",Rows.laid_gauge_fault_Many)::("gauge/fault.Times",Rows.laid_gauge_fault_Times)::("gauge/fault.Code",Rows.laid_gauge_fault_Code)::("gauge/fault.Sum",Rows.laid_gauge_fault_Sum)::("gauge/fault.Refer",Rows.laid_gauge_fault_Refer)::("gauge/fault.Stack",Rows.laid_gauge_fault_Stack)::("gauge/fault.Fuel",Rows.laid_gauge_fault_Fuel)::r) W)
 (hh:W.cell? ⟨13,0,none⟩=some (.iface 242<|.agg #[.pointer<|some ⟨20,37,none⟩]))
 {m:Int}(hm:W.cell? ⟨14,0,none⟩=some (E m)):∃A,YC W A m:=by
 have P:=Ai (λx y ⟨a,b,c,d,t,u,h1,h2,h3,h4,h5⟩=>⟨b,a,d,c,u,t,h2,h1,λe=>h3 e.symm,h5,h4⟩) (l:=QG)<|Rx.2<|B9 _ rl h;have Q:∀g∈QG,∃h,JX W g h:=λg hg=>⟨if g=0 then 1 else 0,P g hg _ (by split<;>decide)<|by split<;>omega⟩;refine⟨JT W,hm,λg hg=>?_,λg hg k hk hn=>?_,λg hg=>?_,hh⟩
 .obtain⟨k,a,b,c,d,t,u,h1,h2,h3,h4,h5⟩:=Q g hg;simp only[JT,h1]
 .obtain⟨a,b,c,d,t,u,h1,h2,h3,h4,h5⟩:=P g hg k hk hn;simp only[JT,h1,h2];exact h3
 .obtain⟨k,a,b,c,d,t,u,h1,h2,h3,h4,h5⟩:=Q g hg;simp only[JT,h1];simp_all
theorem ET:prog.cellsOf 23=3:=by rfl
section
open Go.Joins
variable {H:Type} {enc:TypeId×Value->H} {w:World} {base:Nat} {spare:Nat->Bool} {held:Bool}
theorem B5{r:Reach}{b0:Nat}{v:Value}{d:DataW H}(j:Value.okWide prog w r b0 23 v)(h:DataW.Trod enc prog w base spare held 23 v d p):
 ∃f l s:Int,v=.agg #[.int .i64 f,.int .i64 l,.int .i64 s]/\d=.agg [.lit<|.int .i64 f,.lit<|.int .i64 l,.lit<|.int .i64 s]/\p=[]/\(Lit.int .i64 f).wf=true/\(Lit.int .i64 l).wf=true/\(Lit.int .i64 s).wf=true:=by
 obtain⟨c0,c1,c2,y0,y1,y2,m,rfl,rfl,rfl,e,g,i⟩:=open_agg3 underlying23 (by rfl) ET j h;obtain⟨a,e0,rfl,k⟩:=Ij underlying3 e;obtain⟨b,e1,rfl,n⟩:=Ij underlying3 g;obtain⟨c,e2,rfl,wc⟩:=Ij underlying3 i;simp at e0 e1 e2;subst e0 e1 e2;exact⟨a,b,c,rfl,rfl,rfl,k,n,wc⟩
theorem zc{f l s:Int}(a:(Lit.int .i64 f).wf=true)(c:(Lit.int .i64 l).wf=true)(d:(Lit.int .i64 s).wf=true):
 DataW.Trod enc prog w base spare held 23 (.agg #[.int .i64 f,.int .i64 l,.int .i64 s]) (.agg [.lit<|.int .i64 f,.lit<|.int .i64 l,.lit<|.int .i64 s]) []:=
 shut_agg3 (y0:=(.lit<|.int .i64 f,[])) (y1:=(.lit<|.int .i64 l,[])) (y2:=(.lit<|.int .i64 s,[])) underlying23 (by rfl) ET ⟨1,by simp[DataW.trod,underlying3,a]⟩ ⟨1,by simp[DataW.trod,underlying3,c]⟩ ⟨1,by simp[DataW.trod,underlying3,d]⟩
theorem yO{H:Type}{enc:TypeId×Value->H}{w:World}{base:Nat}{spare:Nat->Bool}{held:Bool}{t0 t1 t2 t3 t4 t5 t6 t7:TypeId}{args:Array Value}{ds:List<|DataW H}(h:DataW.TrodAll enc prog w base spare held [t0,t1,t2,t3,t4,t5,t6,t7] args.toList ds ps):
 ∃v0 v1 v2 v3 v4 v5 v6 v7 d0 d1 d2 d3 d4 d5 d6 d7 p0 p1 p2 p3 p4 p5 p6 p7,args=#[v0,v1,v2,v3,v4,v5,v6,v7]/\ds=[d0,d1,d2,d3,d4,d5,d6,d7]/\ps=p0++(p1++(p2++(p3++(p4++(p5++(p6++(p7++[])))))))/\DataW.Trod enc prog w base spare held t0 v0 d0 p0/\DataW.Trod enc prog w base spare held t1 v1 d1 p1/\DataW.Trod enc prog w base spare held t2 v2 d2 p2/\DataW.Trod enc prog w base spare held t3 v3 d3 p3/\DataW.Trod enc prog w base spare held t4 v4 d4 p4/\DataW.Trod enc prog w base spare held t5 v5 d5 p5/\DataW.Trod enc prog w base spare held t6 v6 d6 p6/\DataW.Trod enc prog w base spare held t7 v7 d7 p7:=by
 obtain⟨v0,l0,d0,e0,p0,q0,a,rfl,rfl,c,h⟩:=trodAll_cons h;obtain⟨v1,l1,d1,e1,p1,q1,rfl,rfl,rfl,d,h⟩:=trodAll_cons h;obtain⟨v2,l2,d2,e2,p2,q2,rfl,rfl,rfl,e,h⟩:=trodAll_cons h;obtain⟨v3,l3,d3,e3,p3,q3,rfl,rfl,rfl,f,h⟩:=trodAll_cons h;obtain⟨v4,l4,d4,e4,p4,q4,rfl,rfl,rfl,g,h⟩:=trodAll_cons h;obtain⟨v5,l5,d5,e5,p5,q5,rfl,rfl,rfl,i,h⟩:=trodAll_cons h;obtain⟨v6,l6,d6,e6,p6,q6,rfl,rfl,rfl,j,h⟩:=trodAll_cons h;obtain⟨v7,l7,d7,e7,p7,q7,rfl,rfl,rfl,k,h⟩:=trodAll_cons h;obtain⟨rfl,rfl,rfl⟩:=trodAll_nil h;exact⟨v0,v1,v2,v3,v4,v5,v6,v7,d0,d1,d2,d3,d4,d5,d6,d7,p0,p1,p2,p3,p4,p5,p6,p7,by rw[<-Array.toArray_toList (xs:=args),a],rfl,rfl,c,d,e,f,g,i,j,k⟩
end

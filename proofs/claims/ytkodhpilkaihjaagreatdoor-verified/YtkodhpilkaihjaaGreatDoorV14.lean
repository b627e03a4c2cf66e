/- Parts. -/
import Derived.Test.YtkodhpilkaihjaaGreatDoorRows
import Derived.Test.YtkodhpilkaihjaaGreatDoorV00
import Derived.ProofKit
import Derived.LaidHandle
import Derived.Stop.LaidTwo
import Derived.Shelf.Vars
import Derived.Lay
set_option linter.all false
set_option maxRecDepth 100000
set_option maxHeartbeats 16000000
namespace Go.Proofs.YtkodhpilkaihjaaGreatDoor
open Go.Proofs.Tryz
open Go.ChangeShapes Go.WideShapes Go.ChangeAt Go.RowKit LS
variable {l r:List (String × DataW Unit)}{W w:World}
theorem ZCk{P:Program}{x y:String×DataW Unit}{r:List (String×DataW Unit)}(h:laidMet P (x::y::r) w):laidMet P (x::r) w:=by
 obtain⟨n,d⟩:=x;obtain⟨n',d'⟩:=y;obtain⟨ps,⟨g,t,cs,f,p,q,i,j,k,l,⟨g',t',cs',f',p',q',k1,k2,k3,k4,k5,e'⟩,e⟩,c,m⟩:=h;subst e'
 have a:(MemPlace.row ⟨g,0,none⟩ cs.size++p++q').Sublist ps:=by
  rw[e];exact List.Sublist.append (List.Sublist.refl _) (List.sublist_append_right _ _)
 exact⟨_,⟨g,t,cs,f,p,q',i,j,k,l,k5,rfl⟩,c.sublist a,fun b off o=>m b off (a.mem o)⟩
theorem own:ownKnob prog.godebug=none:=by kernel_rfl
theorem Zwq : Tryz.prog.globalNamed "errors.errorType" = some 13 := by kernel_rfl
theorem ZBA : (Tryz.prog.cutTypes.find? (·.1 == "internal/reflectlite.rtype")).map (·.2) = some 316 := by kernel_rfl
theorem ZzG:((List.range 520).filter fun t=>prog.rowNamed t [101,114,114,111,114])=[60]:=by kernel_rfl
theorem Zy9:prog.types.size=520:=by kernel_rfl
theorem rowE (u : TypeId) (h : Tryz.prog.typeName? 3 u = some "*errors.errorString") : u = 491 :=
 typeName_ptr_named (nm := "errors.errorString") (by kernel_rfl) (by kernel_rfl) (by decide) u h
theorem Zuv:prog.cellsOf 509=1:=by kernel_rfl
theorem Zuw:prog.cellsOf 9=1:=by kernel_rfl
theorem ZwP   (h : handlesMet Tryz.prog (("errors.errorType", Rows.laid_errors_errorType) :: l) W) : W.cell? ⟨13, 0, none⟩ = some (.iface 316 (.agg #[.pointer (some ⟨20, 60, none⟩)])) := by
 obtain⟨name,u,ty,e1,e2,e3,e4,e5⟩:=h _ (Yay ..);have en:name=[101,114,114,111,114]:=(Yax e1).symm;subst en;obtain rfl:=Yax (ZBA.symm.trans e2);have hm:ty∈(List.range 520).filter fun t=>prog.rowNamed t [101,114,114,111,114]:=List.mem_filter.2 ⟨Yb9.2 (by rw[<-Zy9];exact e3),e4⟩;rw[ZzG]at hm;obtain rfl:=Yap.1 hm;have hh:typeHandle prog 60=.pointer (some ⟨20,60,none⟩):=by kernel_rfl
 rw[hh]at e5;simpa using Yfh Zwq e5 0
def Two(W:World)(x y:Nat):Prop:=∃(a b:Addr) (c d:Array Value) (t u:TypeId),W.cell? ⟨x,0,none⟩=some (.iface 491 (.pointer (some a)))/\W.cell? ⟨y,0,none⟩=some (.iface 491 (.pointer (some b)))/\a≠b/\W.heap[a.block]?=some (.cells c t (0,0))/\W.heap[b.block]?=some (.cells d u (0,0))
def txtD(d:DataW Unit):LB:=match d with
 | .iface _ (.ptr (.agg [.lit (.string t)]))=>t
 | _=>[]
def entD (x : String × List UInt8 × Nat) : String × DataW Unit := (x.1, .iface "*errors.errorString" (.ptr (.agg [.lit (.string x.2.1)])))
def ZiL(x:String×LB×Nat):Prop:=prog.globalNamed x.1=some x.2.2/\(prog.globals[x.2.2]?).map (·.type)=some 60
def ents : List (String × List UInt8 × Nat) := [("gauge/fault.Long", txtD Rows.laid_gauge_fault_Long, 0), ("gauge/fault.Syntax", txtD Rows.laid_gauge_fault_Syntax, 1), ("gauge/fault.Deep", txtD Rows.laid_gauge_fault_Deep, 2), ("gauge/fault.Type", txtD Rows.laid_gauge_fault_Type, 3), ("gauge/fault.Store", txtD Rows.laid_gauge_fault_Store, 4), ("gauge/fault.Twice", txtD Rows.laid_gauge_fault_Twice, 5), ("gauge/fault.Many", txtD Rows.laid_gauge_fault_Many, 6), ("gauge/fault.Times", txtD Rows.laid_gauge_fault_Times, 7), ("gauge/fault.Code", txtD Rows.laid_gauge_fault_Code, 8), ("gauge/fault.Sum", txtD Rows.laid_gauge_fault_Sum, 9), ("gauge/fault.Refer", txtD Rows.laid_gauge_fault_Refer, 10), ("gauge/fault.Stack", txtD Rows.laid_gauge_fault_Stack, 11), ("gauge/fault.Fuel", txtD Rows.laid_gauge_fault_Fuel, 12)]
theorem ZvQ:∀x∈ents,ZiL x:=by
 have h:(ents.all fun x=>decide (prog.globalNamed x.1=some x.2.2) && decide ((prog.globals[x.2.2]?).map (·.type)=some 60))=true:=by kernel_rfl
 intro x a;have:=Ybu.1 h x a;rw[Yas,decide_eq_true_iff,decide_eq_true_iff]at this;exact this
theorem ZsU{r:List (String×DataW Unit)}{x:String×LB×Nat}(f:ZiL x):∀l:List (String×LB×Nat),(∀y∈l,ZiL y)->laidMet prog (entD x::(l.map entD++r)) W->∀y∈l,Two W x.2.2 y.2.2
 | [],_,_,y,e=>by cases e
 | z :: l, g, h, y, e => by
   rcases Yau.1 e with rfl|e
   · have e:=g y (Yay ..)
     obtain⟨a,b,_,_,c,d,t,u,i,j,_,_,_,_,_,_,k,ra,rb⟩:=laid_sentinels2 h f.1 f.2 e.1 e.2 underlying60 rowE underlying491 underlying509 rfl rfl underlying9 Zuv Zuw;exact⟨a,b,c,d,t,u,by simpa using Yfh f.1 i 0,by simpa using Yfh e.1 j 0,k,ra,rb⟩
   · exact ZsU f l (fun y h=>g y (Yam _ h)) (ZCk h) y e
theorem Zrw   : ∀ l : List (String × LB × Nat), (∀ y ∈ l, ZiL y) -> laidMet prog (l.map entD ++ r) W -> l.Pairwise fun x y => Two W x.2.2 y.2.2
  | [],_,_=>.nil
  | _::l,a,h=>.cons (ZsU (a _ (Yay ..)) l (fun y h=>a y (Yam _ h)) h) (Zrw l (fun y h=>a y (Yam _ h)) h.tail)
theorem ZrJ{R:Nat->Nat->Prop}(b:∀x y,R x y->R y x):∀ {l:List Nat},l.Pairwise R->∀x∈l,∀y∈l,x≠y->R x y
 | [],_,x,a,_,_,_=>by cases a
 | z :: l, d, x, a, y, e, c => by
   obtain⟨h,t⟩:=Ybg.1 d;rcases Yau.1 a with rfl|i <;> rcases Yau.1 e with rfl|j
   · exact absurd rfl c
   · exact h _ j
   · exact b _ _ (h _ i)
   · exact ZrJ b t x i y j c
def adr(W:World)(g:Nat):Addr:=match W.cell? ⟨g,0,none⟩with
 | some (.iface _ (.pointer (some a)))=>a
 | _=>⟨0,0,none⟩
theorem ZDU   (h : laidMet Tryz.prog (("gauge/fault.Long", Rows.laid_gauge_fault_Long) :: ("gauge/fault.Syntax", Rows.laid_gauge_fault_Syntax) :: ("gauge/fault.Deep", Rows.laid_gauge_fault_Deep) :: ("gauge/fault.Type", Rows.laid_gauge_fault_Type) :: ("gauge/fault.Store", Rows.laid_gauge_fault_Store) :: ("gauge/fault.Twice", Rows.laid_gauge_fault_Twice) :: ("gauge/fault.Many", Rows.laid_gauge_fault_Many) :: ("gauge/fault.Times", Rows.laid_gauge_fault_Times) :: ("gauge/fault.Code", Rows.laid_gauge_fault_Code) :: ("gauge/fault.Sum", Rows.laid_gauge_fault_Sum) :: ("gauge/fault.Refer", Rows.laid_gauge_fault_Refer) :: ("gauge/fault.Stack", Rows.laid_gauge_fault_Stack) :: ("gauge/fault.Fuel", Rows.laid_gauge_fault_Fuel) :: r) W)
  (hh:W.cell? ⟨13,0,none⟩=some (.iface 316 (.agg #[.pointer (some ⟨20,60,none⟩)])))
  {m:Int} (hm:W.cell? ⟨14,0,none⟩=some (Vi m)):∃A,Vars W A m:=by
 have P:=ZrJ (R:=Two W) (fun x y ⟨a,b,c,d,t,u,h1,h2,h3,h4,h5⟩=>⟨b,a,d,c,u,t,h2,h1,fun e=>h3 e.symm,h5,h4⟩) (l:=ZTz) (List.pairwise_map.2 (Zrw ents ZvQ h));have Q:∀g∈ZTz,∃h,Two W g h:=fun g hg=>⟨if g=0 then 1 else 0,P g hg _ (by split <;> decide) (by split <;> omega)⟩
 refine⟨adr W,hm,fun g hg=>?_,fun g hg k hk hn=>?_,fun g hg=>?_,hh⟩
 ·obtain⟨k,a,b,c,d,t,u,h1,h2,h3,h4,h5⟩:=Q g hg;simp only[adr,h1]
 ·obtain⟨a,b,c,d,t,u,h1,h2,h3,h4,h5⟩:=P g hg k hk hn;simp only[adr,h1,h2];exact h3
 ·obtain⟨k,a,b,c,d,t,u,h1,h2,h3,h4,h5⟩:=Q g hg;simp only[adr,h1];exact⟨_,_,h4⟩

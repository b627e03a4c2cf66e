/- Parts. -/
import Derived.Test.YtcdgkkfipdoeeaaGreatDoorO23
import Derived.Test.YtcdgkkfipdoeeaaGreatDoorO09
import Derived.Test.YtcdgkkfipdoeeaaGreatDoorCards
import Derived.Test.YtcdgkkfipdoeeaaGreatDoorTie
set_option linter.all false
set_option maxRecDepth 100000
set_option maxHeartbeats 16000000
namespace Go.Proofs.YtcdgkkfipdoeeaaGreatDoor
open Go.Proofs.Tryz
open Go.ChangeShapes Go.WideShapes Go.ChangeAt Go.RowKit LS
open Go.ChangeMaps (open_string shut_string)
variable {args:Array Value}{W w:World}
def Zkr(w:World):World:={ w with heap:=w.heap.modify 13 fun
 | .cells _ t frozen=>.cells #[.iface 209 (.agg #[.pointer (some ⟨20,46,none⟩)])] t frozen
 | o=>o }
def ZeH:List (String×DataW Unit):=Rows.compiledRow.laid.filter fun x=>x.2.handleName?.isNone
theorem vMet {os:Os}  : laidMetH prog Rows.compiledRow.laid (((Zkr (World.holding prog os ⟨#[], #[], []⟩)).layVars prog ZeH).forCall (fun _ _ => 0) ⟨#[], args, []⟩).memory := by
  have e1:(ZeH.filter fun x=>(ZeH.map (·.1)).contains _)=ZeH:=Yeg.2 fun x a=>Ydk.2 (Ybe.2 ⟨x,a,rfl⟩);have e2:(ZeH.filter fun x=>!(ZeH.map (·.1)).contains _)=[]:=Yc1.2 fun x a=>by rw[Ydk.2 (Ybe.2 ⟨x,a,rfl⟩)];simp
  have h:laidMet prog _ _:=
    laidMet_layVars (w0:=Zkr (World.holding prog os ⟨#[],#[],[]⟩)) _ _ (by rw[e1]) (by rw[e1];kernel_rfl) (by rw[e1];kernel_rfl) (e2▸LaidIn.none)
  exact laidMetH_of_parts (h.of_heap (by simp[World.memory,World.forCall,Input.heap])) Kr
theorem ZyJ:(((begin prog (fun _ _=>0) default).world.heap[20 - 1]?).bind Obj.row?).isSome=true:=by kernel_rfl
theorem ZyK(h:W.ShapedOpen prog):20<=W.heap.size:=by
 obtain⟨⟨z,t⟩,a⟩:=Ycw.1 ZyJ;obtain⟨cs,c,_⟩:=h.1 (20 - 1) z t (by rw[show prog.globals.size=20 by kernel_rfl];decide) a;have:=(Yae.1 c).1;omega
theorem ZAO:(Rows.laid_internal_strconv_uint64pow10:DataW Unit)=Lib.tabData .u64 Lib.pow10Tab:=by rfl
theorem ZAN  {r : List (String × DataW Unit)} (h : laidMet Tryz.prog (("internal/strconv.uint64pow10", Rows.laid_internal_strconv_uint64pow10) :: r) W) : ZR W := by
 rw[ZAO]at h;exact Lib.tabIs_of_head Tryz.gPow (t:=392) (e:=363) (n:=20) Kr Kr Kr Kr Kr h
theorem ZDi{H:Type}{enc:TypeId×Value->H}{base:Nat}{spare:Nat->Bool}{a:Bool}{t0 t1 t2 t3:TypeId}{ds:List (DataW H)}{ps:List MemPlace}(h:DataW.TrodAll enc prog w base spare a [t0,t1,t2,t3] args.toList ds ps) :
  ∃v0 v1 v2 v3 d0 d1 d2 d3 p0 p1 p2 p3,args=#[v0,v1,v2,v3]/\ds=[d0,d1,d2,d3]/\ps=p0++(p1++(p2++(p3++[])))/\DataW.Trod enc prog w base spare a t0 v0 d0 p0/\DataW.Trod enc prog w base spare a t1 v1 d1 p1/\DataW.Trod enc prog w base spare a t2 v2 d2 p2/\DataW.Trod enc prog w base spare a t3 v3 d3 p3:=by
 obtain⟨v0,l0,d0,e0,p0,q0,c,rfl,rfl,d,h⟩:=trodAll_cons h;obtain⟨v1,l1,d1,e1,p1,q1,rfl,rfl,rfl,e,h⟩:=trodAll_cons h;obtain⟨v2,l2,d2,e2,p2,q2,rfl,rfl,rfl,f,h⟩:=trodAll_cons h;obtain⟨v3,l3,d3,e3,p3,q3,rfl,rfl,rfl,g,h⟩:=trodAll_cons h;obtain⟨rfl,rfl,rfl⟩:=trodAll_nil h;exact⟨v0,v1,v2,v3,d0,d1,d2,d3,p0,p1,p2,p3,by rw[<-Array.toArray_toList (xs:=args),c],rfl,rfl,d,e,f,g⟩
theorem Zu4(os:Os)(started:os.Started)(H:Type)(enc:TypeId×Value->H) :
  ReturnsInHanded {} checked os 3 .any (fun w args => (Rows.compiledSpec.pre enc prog f3 [] false w args /\ laidMetH prog Rows.compiledRow.laid w) /\ sizedMet enc prog f3 (OpenSpec.ofChange Rows.compiledSpec) false w args)
    (Rows.compiledSpec.post enc prog f3 false true false false):=by
 refine returnsInHanded_of_calls own started Kr
   (ChangeSpec.witness_shaped (X := fun w _ => laidMetH _ _ w) _ _ #[.string ⟨#[]⟩, Vi 0, .string ⟨#[]⟩, .agg #[Vi 0, Vi 0, Vi 0]] 8 (World.layVars_os _ _ _)
     (World.shaped_of_ZipB Kr Kr) Kr Kr Kr (vMet)) ?_
 intro w tape i _ hsh _ hok hpre hholds;obtain⟨_,_,_,fn',hfn',_,_,_,_,hval0⟩:=hok;have e:=Yax (hfn'.symm.trans func3);subst e;obtain⟨⟨⟨ds,gs,before,hw0,_⟩,hL0⟩,_⟩:=hpre;have hW:=DataW.Whole.of_heap (w':=w.forCall tape i) (by rfl) hw0;have hL:laidMetH _ _ (w.forCall tape i):=hL0.of_heap (by rfl);generalize w.forCall tape i=W at *
 generalize i.args=args at *
 have hval:∀(j:Nat) t v,f3.params[j]?=some t->args[j]?=some v->Value.okWide prog W _ _ t v:=hval0;have hW':=hW;obtain⟨p,q,hA0,hV0,rfl,_,_⟩:=hW;have hA:=hA0;have hV:DataW.TrodVars _ _ W _ [] _ q:=hV0;rw[params3]at hA hval;obtain⟨v0,v1,v2,v3,d0,d1,d2,d3,p0,p1,p2,p3,rfl,rfl,rfl,h0,h1,h2,h3⟩:=ZDi hA;obtain⟨rfl,rfl⟩:=trodVars_none hV;obtain⟨s,rfl,rfl,rfl,hs⟩:=open_string underlying9 (hval 0 9 v0 rfl rfl) h0;obtain⟨c3,rfl,rfl,rfl,hc3⟩:=open_int underlying3 (hval 1 3 v1 rfl rfl) h1;obtain⟨t,rfl,rfl,rfl,ht⟩:=open_string underlying9 (hval 2 9 v2 rfl rfl) h2;obtain⟨f,l,st,rfl,rfl,rfl,wf1,wl1,ws1⟩:=ZzP (hval 3 23 v3 rfl rfl) h3;simp only[Yca]at hW';have hL2 : laidMet _ [("math/bits.deBruijn32tab", Rows.laid_math_bits_deBruijn32tab), ("math/bits.deBruijn64tab", Rows.laid_math_bits_deBruijn64tab), ("internal/strconv.uint64pow10", Rows.laid_internal_strconv_uint64pow10), ("unicode/utf8.acceptRanges", Rows.laid_unicode_utf8_acceptRanges), ("gauge/fault.Long", Rows.laid_gauge_fault_Long), ("gauge/fault.Syntax", Rows.laid_gauge_fault_Syntax), ("gauge/fault.Deep", Rows.laid_gauge_fault_Deep), ("gauge/fault.Type", Rows.laid_gauge_fault_Type), ("gauge/fault.Store", Rows.laid_gauge_fault_Store), ("gauge/fault.Twice", Rows.laid_gauge_fault_Twice), ("gauge/fault.Many", Rows.laid_gauge_fault_Many), ("gauge/fault.Times", Rows.laid_gauge_fault_Times), ("gauge/fault.Code", Rows.laid_gauge_fault_Code), ("gauge/fault.Sum", Rows.laid_gauge_fault_Sum), ("gauge/fault.Refer", Rows.laid_gauge_fault_Refer), ("gauge/fault.Stack", Rows.laid_gauge_fault_Stack), ("gauge/fault.Fuel", Rows.laid_gauge_fault_Fuel), ("unicode/utf8.first", Rows.laid_unicode_utf8_first)] W ∧ handlesMet _ [("errors.errorType", Rows.laid_errors_errorType)] W := hL
 obtain⟨m,hm⟩:∃m,W.cell? ⟨14,0,none⟩=some (Vi m):=cell_of_shapedOpen_int (zero:=#[Vi 0]) (t:=3) hsh (of_decide_eq_true Kr) Kr rfl Kr Kr underlying3;obtain⟨A,hvars⟩:=ZDU hL2.1.tail.tail.tail.tail (ZwP hL2.2) hm;have hpow:=ZAN hL2.1.tail.tail;have hng:=ZyK hsh
 have hwf : ∀ c : Int, (Lit.int _ c).wf = true -> -9223372036854775808 <= c /\ c <= 9223372036854775807 := fun c hc => by
   simp[Lit.wf]at hc;rw[show IntKind.i64.min=(-9223372036854775808) from by decide]at hc;exact hc
 refine(Zu5 s t f l A m W hvars hpow hng hs ht (hwf _ hc3)).mono fun e W' ⟨he,hb⟩=>?_;subst he
 have hp:Rows.compiledSpec.post _ _ _ _ true false false W #[.string s,.int _ _,.string t,.agg _] (.bool _) _:=
  ⟨_,_,_,[],[],[],hW',trodAll_mk1 (shut_bool underlying4 _),trodAll_cons_mk (shut_string underlying9 hs) (trodAll_cons_mk (shut_int underlying3 hc3) (trodAll_cons_mk (shut_string underlying9 ht) (trodAll_cons_mk (ZCc wf1 wl1 ws1) trodAll_mk0))),rfl,hb.frame _,fun h=>by cases h⟩
 exact ChangeSpec.post_blind hp

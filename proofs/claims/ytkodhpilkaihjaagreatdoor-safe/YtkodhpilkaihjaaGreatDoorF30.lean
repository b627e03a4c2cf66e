/- Parts. -/
import Derived.Test.YtkodhpilkaihjaaGreatDoorF10
import Derived.Test.YtkodhpilkaihjaaGreatDoorF29
import Derived.Test.YtkodhpilkaihjaaGreatDoorCards
import Derived.Test.YtkodhpilkaihjaaGreatDoorTie
set_option linter.all false
set_option maxRecDepth 100000
set_option maxHeartbeats 16000000
namespace Go.Proofs.YtkodhpilkaihjaaGreatDoor
open Go.Proofs.Tryz
open Go.ChangeShapes Go.WideShapes Go.ChangeAt Go.RowKit LS
open Go.ChangeMaps (open_string shut_string)
variable {W:World}
def ZOe(w:World):World:={ w with heap:=w.heap.modify 13 fun
 | .cells _ t frozen=>.cells #[.iface 316 (.agg #[.pointer (some ⟨20,60,none⟩)])] t frozen
 | o=>o }
def ZOd:List (String×DataW Unit):=Rows.safeRow.laid.filter fun x=>x.2.handleName?.isNone
theorem kMet (os : Os) {args:Array Value} : laidMetH prog Rows.safeRow.laid (((ZOe (World.holding prog os ⟨#[], #[], []⟩)).layVars prog ZOd).forCall (fun _ _ => 0) ⟨#[], args, []⟩).memory := by
  have e1:(ZOd.filter fun x=>(ZOd.map (·.1)).contains x.1)=ZOd:=Yeg.2 fun x a=>Ydk.2 (Ybe.2 ⟨x,a,rfl⟩);have e2:(ZOd.filter fun x=>!(ZOd.map (·.1)).contains x.1)=[]:=Yc1.2 fun x a=>by rw[Ydk.2 (Ybe.2 ⟨x,a,rfl⟩)];simp
  have h:laidMet prog ZOd ((ZOe (World.holding prog os ⟨#[],#[],[]⟩)).layVars prog ZOd):=
    laidMet_layVars (w0:=ZOe (World.holding prog os ⟨#[],#[],[]⟩)) (ZOd.map (·.1)) [] (by rw[e1]) (by rw[e1];kernel_rfl) (by rw[e1];kernel_rfl) (by rw[e2];exact LaidIn.none)
  exact laidMetH_of_parts (h.of_heap (by simp[World.memory,World.forCall,Input.heap])) Kr
theorem ZyJ:(((begin prog (fun _ _=>0) default).world.heap[20 - 1]?).bind Obj.row?).isSome=true:=by kernel_rfl
theorem ZyK(h:W.ShapedOpen prog):20<=W.heap.size:=by
 obtain⟨⟨z,t⟩,a⟩:=Ycw.1 ZyJ;obtain⟨cs,c,_⟩:=h.1 (20 - 1) z t (by rw[show prog.globals.size=20 by kernel_rfl];decide) a;have:=(Yae.1 c).1;omega
theorem ZAO:(Rows.laid_internal_strconv_uint64pow10:DataW Unit)=Lib.tabData .u64 Lib.pow10Tab:=by rfl
theorem ZAN  {r : List (String × DataW Unit)} (h : laidMet Tryz.prog (("internal/strconv.uint64pow10", Rows.laid_internal_strconv_uint64pow10) :: r) W) : ZR W := by
 rw[ZAO]at h;exact Lib.tabIs_of_head Tryz.gPow (t:=467) (e:=443) (n:=20) Kr Kr Kr Kr Kr h
theorem ZXG(os:Os)(started:os.Started)(H:Type)(enc:TypeId×Value->H) :
  ReturnsInHanded {} checked os 5 .any (fun w args => (Rows.safeSpec.pre enc prog f5 [] false w args /\ laidMetH prog Rows.safeRow.laid w) /\ sizedMet enc prog f5 (OpenSpec.ofChange Rows.safeSpec) false w args)
    (Rows.safeSpec.post enc prog f5 false true false false):=by
 refine returnsInHanded_of_calls own started Kr
   (ChangeSpec.witness_shaped (enc := enc) (C := checked) (os := os) (X := fun w _ => laidMetH prog Rows.safeRow.laid w) false ((ZOe (World.holding prog os ⟨#[], #[], []⟩)).layVars prog ZOd) #[.string ⟨#[]⟩, .string ⟨#[]⟩, .agg #[Vi 0, Vi 0, Vi 0], Vi 0, Vi 0, Vi 0] 8 (World.layVars_os _ _ _)
     (World.shaped_of_ZipB Kr Kr) Kr Kr Kr (kMet os)) ?_
 intro w tape i _ hsh _ hok hpre hholds;obtain⟨_,_,_,fn',hfn',_,_,_,_,hval0⟩:=hok;have e:fn'=f5:=Yax (hfn'.symm.trans func5);subst e;obtain⟨⟨⟨ds,gs,before,hw0,_⟩,hL0⟩,_⟩:=hpre;have hW:=DataW.Whole.of_heap (w':=w.forCall tape i) (by rfl) hw0;have hL:laidMetH prog Rows.safeRow.laid (w.forCall tape i):=hL0.of_heap (by rfl);generalize w.forCall tape i=W at *
 generalize i.args=args at *
 have hval:∀(j:Nat) t v,f5.params[j]?=some t->args[j]?=some v->Value.okWide prog W .any w.heap.size t v:=hval0;have hW':=hW;obtain⟨p,q,hA0,hV0,rfl,_,_⟩:=hW;have hA:DataW.TrodAll enc prog W 0 (fun _=>true) true f5.params.toList args.toList ds p:=hA0;have hV:DataW.TrodVars enc prog W (fun _=>true) [] gs q:=hV0;rw[params5]at hA hval;obtain⟨v0,v1,v2,v3,v4,v5,d0,d1,d2,d3,d4,d5,p0,p1,p2,p3,p4,p5,rfl,rfl,rfl,h0,h1,h2,h3,h4,h5⟩:=ZFH hA;obtain⟨rfl,rfl⟩:=trodVars_none hV;obtain⟨s,rfl,rfl,rfl,hs⟩:=open_string underlying9 (hval 0 9 v0 rfl rfl) h0;obtain⟨t,rfl,rfl,rfl,ht⟩:=open_string underlying9 (hval 1 9 v1 rfl rfl) h1;obtain⟨f,l,st,rfl,rfl,rfl,wf1,wl1,ws1⟩:=ZzP (hval 2 26 v2 rfl rfl) h2;obtain⟨c3,rfl,rfl,rfl,hc3⟩:=open_int underlying3 (hval 3 3 v3 rfl rfl) h3;obtain⟨c4,rfl,rfl,rfl,hc4⟩:=open_int underlying3 (hval 4 3 v4 rfl rfl) h4;obtain⟨c5,rfl,rfl,rfl,hc5⟩:=open_int underlying3 (hval 5 3 v5 rfl rfl) h5;simp only[Yca]at hW';have hL2 : laidMet Tryz.prog [("math/bits.deBruijn32tab", Rows.laid_math_bits_deBruijn32tab), ("math/bits.deBruijn64tab", Rows.laid_math_bits_deBruijn64tab), ("internal/strconv.uint64pow10", Rows.laid_internal_strconv_uint64pow10), ("unicode/utf8.acceptRanges", Rows.laid_unicode_utf8_acceptRanges), ("gauge/fault.Long", Rows.laid_gauge_fault_Long), ("gauge/fault.Syntax", Rows.laid_gauge_fault_Syntax), ("gauge/fault.Deep", Rows.laid_gauge_fault_Deep), ("gauge/fault.Type", Rows.laid_gauge_fault_Type), ("gauge/fault.Store", Rows.laid_gauge_fault_Store), ("gauge/fault.Twice", Rows.laid_gauge_fault_Twice), ("gauge/fault.Many", Rows.laid_gauge_fault_Many), ("gauge/fault.Times", Rows.laid_gauge_fault_Times), ("gauge/fault.Code", Rows.laid_gauge_fault_Code), ("gauge/fault.Sum", Rows.laid_gauge_fault_Sum), ("gauge/fault.Refer", Rows.laid_gauge_fault_Refer), ("gauge/fault.Stack", Rows.laid_gauge_fault_Stack), ("gauge/fault.Fuel", Rows.laid_gauge_fault_Fuel), ("unicode/utf8.first", Rows.laid_unicode_utf8_first)] W ∧ handlesMet Tryz.prog [("errors.errorType", Rows.laid_errors_errorType)] W := hL
 obtain⟨m,hm⟩:∃m,W.cell? ⟨14,0,none⟩=some (Vi m):=cell_of_shapedOpen_int (zero:=#[Vi 0]) (t:=3) hsh (of_decide_eq_true Kr) Kr rfl Kr Kr underlying3;obtain⟨A,hvars⟩:=ZDU hL2.1.tail.tail.tail.tail (ZwP hL2.2) hm;have hpow:ZR W:=ZAN hL2.1.tail.tail;have hng:=ZyK hsh
 have hwf : ∀ c : Int, (Lit.int .i64 c).wf = true -> -9223372036854775808 <= c /\ c <= 9223372036854775807 := fun c hc => by
   simp[Lit.wf]at hc;rw[show IntKind.i64.min=(-9223372036854775808:Int) from by decide]at hc;exact hc
 refine(ZXH s t f l st c3 c4 c5 A m W hvars hpow hng hs ht (hwf c3 hc3).1 (hwf c3 hc3).2 (hwf c4 hc4).1 (hwf c4 hc4).2 (hwf c5 hc5).1 (hwf c5 hc5).2).mono fun e W' ⟨he,hb⟩=>?_;subst he
 have hp:Rows.safeSpec.post enc prog f5 false true false false W #[.string s,.string t,.agg #[Vi f,Vi l,Vi st],Vi c3,Vi c4,Vi c5] (.bool true) W':=
  ⟨_,_,_,[],[],[],hW',trodAll_mk1 (shut_bool underlying4 _),trodAll_cons_mk (shut_string underlying9 hs) (trodAll_cons_mk (shut_string underlying9 ht) (trodAll_cons_mk (ZCc wf1 wl1 ws1) (trodAll_cons_mk (shut_int underlying3 hc3) (trodAll_cons_mk (shut_int underlying3 hc4) (trodAll_cons_mk (shut_int underlying3 hc5) trodAll_mk0))))),rfl,hb.frame _,fun h=>by cases h⟩
 exact ChangeSpec.post_blind hp

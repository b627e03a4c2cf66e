/- Parts. -/
import Derived.Test.YtkodhpilkaihjaaGreatDoorV14
import Derived.Test.YtkodhpilkaihjaaGreatDoorV22
import Derived.Test.YtkodhpilkaihjaaGreatDoorCards
import Derived.Test.YtkodhpilkaihjaaGreatDoorTie
set_option linter.all false
set_option maxRecDepth 100000
set_option maxHeartbeats 16000000
namespace Go.Proofs.YtkodhpilkaihjaaGreatDoor
open Go.Proofs.Tryz
open Go.ChangeShapes Go.WideShapes Go.ChangeAt Go.RowKit LS
open Go.ChangeMaps (open_string shut_string)
variable {W:World}
def Zkr(w:World):World:={ w with heap:=w.heap.modify 13 fun
 | .cells _ t frozen=>.cells #[.iface 316 (.agg #[.pointer (some ⟨20,60,none⟩)])] t frozen
 | o=>o }
def ZeH:List (String×DataW Unit):=Rows.verifiedRow.laid.filter fun x=>x.2.handleName?.isNone
theorem vMet (os : Os) {args:Array Value} : laidMetH prog Rows.verifiedRow.laid (((Zkr (World.holding prog os ⟨#[], #[], []⟩)).layVars prog ZeH).forCall (fun _ _ => 0) ⟨#[], args, []⟩).memory := by
  have e1:(ZeH.filter fun x=>(ZeH.map (·.1)).contains x.1)=ZeH:=List.filter_eq_self.2 fun x a=>Ydk.2 (Ybe.2 ⟨x,a,rfl⟩);have e2:(ZeH.filter fun x=>!(ZeH.map (·.1)).contains x.1)=[]:=List.filter_eq_nil_iff.2 fun x a=>by rw[Ydk.2 (Ybe.2 ⟨x,a,rfl⟩)];simp
  have h:laidMet prog ZeH ((Zkr (World.holding prog os ⟨#[],#[],[]⟩)).layVars prog ZeH):=
    laidMet_layVars (w0:=Zkr (World.holding prog os ⟨#[],#[],[]⟩)) (ZeH.map (·.1)) [] (by rw[e1]) (by rw[e1];kernel_rfl) (by rw[e1];kernel_rfl) (by rw[e2];exact LaidIn.none)
  exact laidMetH_of_parts (h.of_heap (by simp[World.memory,World.forCall,Input.heap])) Kr
theorem ZyJ:(((begin prog (fun _ _=>0) default).world.heap[20 - 1]?).bind Obj.row?).isSome=true:=by kernel_rfl
theorem ZyK(h:W.ShapedOpen prog):20<=W.heap.size:=by
 obtain⟨⟨z,t⟩,a⟩:=Ycw.1 ZyJ;obtain⟨cs,b,_⟩:=h.1 (20 - 1) z t (by rw[show prog.globals.size=20 by kernel_rfl];decide) a;have:=(Yae.1 b).1;omega
theorem ZAO:(Rows.laid_internal_strconv_uint64pow10:DataW Unit)=Lib.tabData .u64 Lib.pow10Tab:=by rfl
theorem ZAN  {r : List (String × DataW Unit)} (h : laidMet Tryz.prog (("internal/strconv.uint64pow10", Rows.laid_internal_strconv_uint64pow10) :: r) W) : ZR W := by
 rw[ZAO]at h;exact Lib.tabIs_of_head Tryz.gPow (t:=467) (e:=443) (n:=20) Kr Kr Kr Kr Kr h
theorem ZXO(os:Os)(started:os.Started)(H:Type)(enc:TypeId×Value->H) :
  ReturnsInHanded {} checked os 3 .any (fun w args => (Rows.verifiedSpec.pre enc prog f3 [] false w args /\ laidMetH prog Rows.verifiedRow.laid w) /\ sizedMet enc prog f3 (OpenSpec.ofChange Rows.verifiedSpec) false w args)
    (Rows.verifiedSpec.post enc prog f3 false true false false):=by
 refine returnsInHanded_of_calls own started Kr
   (ChangeSpec.witness_shaped (enc := enc) (C := checked) (os := os) (X := fun w _ => laidMetH prog Rows.verifiedRow.laid w) false ((Zkr (World.holding prog os ⟨#[], #[], []⟩)).layVars prog ZeH) #[.string ⟨#[]⟩, .string ⟨#[]⟩] 8 (World.layVars_os _ _ _)
     (World.shaped_of_ZipB Kr Kr) Kr Kr Kr (vMet os)) ?_
 intro w tape i _ hsh _ hok hpre hholds;obtain⟨_,_,_,fn',hfn',_,_,_,_,hval0⟩:=hok;have e:fn'=f3:=Yax (hfn'.symm.trans func3);subst e;obtain⟨⟨⟨ds,gs,before,hw0,_⟩,hL0⟩,_⟩:=hpre;have hW:=DataW.Whole.of_heap (w':=w.forCall tape i) (by rfl) hw0;have hL:laidMetH prog Rows.verifiedRow.laid (w.forCall tape i):=hL0.of_heap (by rfl);generalize w.forCall tape i=W at *
 generalize i.args=args at *
 have hval:∀(j:Nat) t v,f3.params[j]?=some t->args[j]?=some v->Value.okWide prog W .any w.heap.size t v:=hval0;have hW':=hW;obtain⟨p,q,hA0,hV0,rfl,_,_⟩:=hW;have hA:DataW.TrodAll enc prog W 0 (fun _=>true) true f3.params.toList args.toList ds p:=hA0;have hV:DataW.TrodVars enc prog W (fun _=>true) [] gs q:=hV0;rw[params3]at hA hval;obtain⟨v0,v1,d0,d1,p0,p1,rfl,rfl,rfl,h0,h1⟩:=trodAll_two hA;obtain⟨rfl,rfl⟩:=trodVars_none hV;obtain⟨s,rfl,rfl,rfl,hs⟩:=open_string underlying9 (hval 0 9 v0 rfl rfl) h0;obtain⟨t,rfl,rfl,rfl,ht⟩:=open_string underlying9 (hval 1 9 v1 rfl rfl) h1;simp only[Yca]at hW';have hL2 : laidMet Tryz.prog [("math/bits.deBruijn32tab", Rows.laid_math_bits_deBruijn32tab), ("math/bits.deBruijn64tab", Rows.laid_math_bits_deBruijn64tab), ("internal/strconv.uint64pow10", Rows.laid_internal_strconv_uint64pow10), ("unicode/utf8.acceptRanges", Rows.laid_unicode_utf8_acceptRanges), ("gauge/fault.Long", Rows.laid_gauge_fault_Long), ("gauge/fault.Syntax", Rows.laid_gauge_fault_Syntax), ("gauge/fault.Deep", Rows.laid_gauge_fault_Deep), ("gauge/fault.Type", Rows.laid_gauge_fault_Type), ("gauge/fault.Store", Rows.laid_gauge_fault_Store), ("gauge/fault.Twice", Rows.laid_gauge_fault_Twice), ("gauge/fault.Many", Rows.laid_gauge_fault_Many), ("gauge/fault.Times", Rows.laid_gauge_fault_Times), ("gauge/fault.Code", Rows.laid_gauge_fault_Code), ("gauge/fault.Sum", Rows.laid_gauge_fault_Sum), ("gauge/fault.Refer", Rows.laid_gauge_fault_Refer), ("gauge/fault.Stack", Rows.laid_gauge_fault_Stack), ("gauge/fault.Fuel", Rows.laid_gauge_fault_Fuel), ("unicode/utf8.first", Rows.laid_unicode_utf8_first)] W ∧ handlesMet Tryz.prog [("errors.errorType", Rows.laid_errors_errorType)] W := hL
 obtain⟨m,hm⟩:∃m,W.cell? ⟨14,0,none⟩=some (Vi m):=cell_of_shapedOpen_int (zero:=#[Vi 0]) (t:=3) hsh (of_decide_eq_true Kr) Kr rfl Kr Kr underlying3;obtain⟨A,hvars⟩:=ZDU hL2.1.tail.tail.tail.tail (ZwP hL2.2) hm;have hpow:ZR W:=ZAN hL2.1.tail.tail;have hng:=ZyK hsh;refine(ZXP s t A m W hvars hpow hng hs ht).mono fun e W' ⟨he,hb⟩=>?_;subst he
 have hp:Rows.verifiedSpec.post enc prog f3 false true false false W #[.string s,.string t] (.bool true) W':=
  ⟨_,_,_,[],[],[],hW',trodAll_mk1 (shut_bool underlying4 _),trodAll_mk2 (shut_string underlying9 hs) (shut_string underlying9 ht),rfl,hb.frame _,fun h=>by cases h⟩
 exact ChangeSpec.post_blind hp

/- Parts. -/
import Derived.Test.YtcdgkkfipdoeeaaGreatDoorT01
import Derived.Test.YtcdgkkfipdoeeaaGreatDoorT41
import Derived.Lib.LaidTab
import Derived.Shelf.Vars
import Derived.Test.YtcdgkkfipdoeeaaGreatDoorCards
import Derived.Test.YtcdgkkfipdoeeaaGreatDoorTie
set_option maxRecDepth 100000
namespace Go.Proofs.YtcdgkkfipdoeeaaGreatDoor
open Go.ChangeShapes Go.WideShapes Go.ChangeAt Go.RowKit LS
open Go.ChangeMaps (open_string shut_string)
def ZiR(w:World):World:={ w with heap:=w.heap.modify 13 fun
 | .cells _ t frozen=>.cells #[.iface 209 (.agg #[.pointer (some ⟨20,46,none⟩)])] t frozen
 | o=>o }
def Zeh:List (String×DataW Unit):=Rows.tightRow.laid.filter fun x=>x.2.handleName?.isNone
theorem tMet (os : Os) (args : Array Value) : laidMetH Tryz.prog Rows.tightRow.laid (((ZiR (World.holding Tryz.prog os ⟨#[], #[], []⟩)).layVars Tryz.prog Zeh).forCall (fun _ _ => 0) ⟨#[], args, []⟩).memory := by
  have e1:(Zeh.filter fun x=>(Zeh.map (·.1)).contains x.1)=Zeh:=List.filter_eq_self.2 fun x hx=>List.contains_iff_mem.2 (List.mem_map.2 ⟨x,hx,rfl⟩)
  have e2:(Zeh.filter fun x=>!(Zeh.map (·.1)).contains x.1)=[]:=List.filter_eq_nil_iff.2 fun x hx=>by rw[List.contains_iff_mem.2 (List.mem_map.2 ⟨x,hx,rfl⟩)];simp
  have h:laidMet Tryz.prog Zeh ((ZiR (World.holding Tryz.prog os ⟨#[],#[],[]⟩)).layVars Tryz.prog Zeh):=
    laidMet_layVars (w0:=ZiR (World.holding Tryz.prog os ⟨#[],#[],[]⟩)) (Zeh.map (·.1)) [] (by rw[e1]) (by rw[e1];kernel_rfl) (by rw[e1];kernel_rfl) (by rw[e2];exact LaidIn.none)
  exact laidMetH_of_parts (h.of_heap (by simp[World.memory,World.forCall,Input.heap])) (by kernel_rfl)
theorem ZuT:(((begin Tryz.prog (fun _ _=>0) default).world.heap[20 - 1]?).bind Obj.row?).isSome=true:=by kernel_rfl
theorem ZuU{W:World}(h:W.ShapedOpen Tryz.prog):20<=W.heap.size:=by
 obtain⟨⟨z,t⟩,hz⟩:=Option.isSome_iff_exists.1 ZuT
 obtain⟨cs,hc,_⟩:=h.1 (20 - 1) z t (by rw[show Tryz.prog.globals.size=20 by kernel_rfl];decide) hz
 have:=(Array.getElem?_eq_some_iff.1 hc).1
 omega
theorem Zwt:(Rows.laid_internal_strconv_uint64pow10:DataW Unit)=Lib.tabData .u64 Lib.pow10Tab:=by rfl
theorem Zws {W : World} {r : List (String × DataW Unit)} (h : laidMet Tryz.prog (("internal/strconv.uint64pow10", Rows.laid_internal_strconv_uint64pow10) :: r) W) : Zu W := by
 rw[Zwt]at h
 exact Lib.tabIs_of_head Tryz.gPow (t:=392) (e:=363) (n:=20) (by kernel_rfl) (by kernel_rfl) (by kernel_rfl) (by kernel_rfl) (by kernel_rfl) h
theorem Zyv(os:Os)(started:os.Started)(H:Type)(enc:TypeId×Value->H) :
  ReturnsInHanded {} Tryz.checked os 4 .any (fun w args => (Rows.tightSpec.pre enc Tryz.prog Tryz.f4 [] false w args /\ laidMetH Tryz.prog Rows.tightRow.laid w) /\ sizedMet enc Tryz.prog Tryz.f4 (OpenSpec.ofChange Rows.tightSpec) false w args)
    (Rows.tightSpec.post enc Tryz.prog Tryz.f4 false true false false):=by
 refine returnsInHanded_of_calls own started (by kernel_rfl)
   (ChangeSpec.witness_shaped (enc := enc) (C := Tryz.checked) (os := os) (X := fun w _ => laidMetH Tryz.prog Rows.tightRow.laid w) false ((ZiR (World.holding Tryz.prog os ⟨#[], #[], []⟩)).layVars Tryz.prog Zeh) #[.string ⟨#[]⟩, .int .i64 0] 8 (World.layVars_os _ _ _)
     (World.shaped_of_ZipB (by kernel_rfl) (by kernel_rfl)) (by kernel_rfl) (by kernel_rfl) (by kernel_rfl) (tMet os _)) ?_
 intro w tape i _ hsh _ hok hpre hholds
 obtain⟨_,_,_,fn',hfn',_,_,_,_,hval0⟩:=hok
 have e:fn'=Tryz.f4:=Option.some.inj (hfn'.symm.trans Tryz.func4)
 subst e
 obtain⟨⟨⟨ds,gs,before,hw0,_⟩,hL0⟩,_⟩:=hpre
 have hW:=DataW.Whole.of_heap (w':=w.forCall tape i) (by rfl) hw0
 have hL:laidMetH Tryz.prog Rows.tightRow.laid (w.forCall tape i):=hL0.of_heap (by rfl)
 generalize w.forCall tape i=W at *
 generalize i.args=args at *
 have hval:∀(j:Nat) t v,Tryz.f4.params[j]?=some t->args[j]?=some v->Value.okWide Tryz.prog W .any w.heap.size t v:=hval0
 have hW':=hW
 obtain⟨p,q,hA0,hV0,rfl,_,_⟩:=hW
 have hA:DataW.TrodAll enc Tryz.prog W 0 (fun _=>true) true Tryz.f4.params.toList args.toList ds p:=hA0
 have hV:DataW.TrodVars enc Tryz.prog W (fun _=>true) [] gs q:=hV0
 rw[Tryz.params4]at hA hval
 obtain⟨v0,v1,d0,d1,p0,p1,rfl,rfl,rfl,h0,h1⟩:=trodAll_two hA
 obtain⟨rfl,rfl⟩:=trodVars_none hV
 obtain⟨s,rfl,rfl,rfl,hs⟩:=open_string Tryz.underlying9 (hval 0 9 v0 rfl rfl) h0
 obtain⟨c3,rfl,rfl,rfl,hc3⟩:=open_int Tryz.underlying3 (hval 1 3 v1 rfl rfl) h1
 simp only[List.append_nil]at hW'
 have hL2 : laidMet Tryz.prog [("math/bits.deBruijn32tab", Rows.laid_math_bits_deBruijn32tab), ("math/bits.deBruijn64tab", Rows.laid_math_bits_deBruijn64tab), ("internal/strconv.uint64pow10", Rows.laid_internal_strconv_uint64pow10), ("unicode/utf8.acceptRanges", Rows.laid_unicode_utf8_acceptRanges), ("gauge/fault.Long", Rows.laid_gauge_fault_Long), ("gauge/fault.Syntax", Rows.laid_gauge_fault_Syntax), ("gauge/fault.Deep", Rows.laid_gauge_fault_Deep), ("gauge/fault.Type", Rows.laid_gauge_fault_Type), ("gauge/fault.Store", Rows.laid_gauge_fault_Store), ("gauge/fault.Twice", Rows.laid_gauge_fault_Twice), ("gauge/fault.Many", Rows.laid_gauge_fault_Many), ("gauge/fault.Times", Rows.laid_gauge_fault_Times), ("gauge/fault.Code", Rows.laid_gauge_fault_Code), ("gauge/fault.Sum", Rows.laid_gauge_fault_Sum), ("gauge/fault.Refer", Rows.laid_gauge_fault_Refer), ("gauge/fault.Stack", Rows.laid_gauge_fault_Stack), ("gauge/fault.Fuel", Rows.laid_gauge_fault_Fuel), ("unicode/utf8.first", Rows.laid_unicode_utf8_first)] W ∧ handlesMet Tryz.prog [("errors.errorType", Rows.laid_errors_errorType)] W := hL
 obtain⟨m,hm⟩:∃m,W.cell? ⟨14,0,none⟩=some (.int .i64 m):=cell_of_shapedOpen_int (zero:=#[.int .i64 0]) (t:=3) hsh (of_decide_eq_true (by kernel_rfl)) (by kernel_rfl) rfl (by kernel_rfl) (by kernel_rfl) Tryz.underlying3
 obtain⟨A,hvars⟩:=ZzF hL2.1.tail.tail.tail.tail (Ztk hL2.2) hm
 have hpow:Zu W:=Zws hL2.1.tail.tail
 have hng:=ZuU hsh
 have hwf : ∀ c : Int, (Lit.int .i64 c).wf = true -> -9223372036854775808 <= c /\ c <= 9223372036854775807 := fun c hc => by
   simp[Lit.wf]at hc
   rw[show IntKind.i64.min=(-9223372036854775808:Int) from by decide]at hc
   exact hc
 refine(Zyw s c3 A m W hvars hpow hng hs (hwf c3 hc3).1 (hwf c3 hc3).2).mono fun e W' ⟨he,hb⟩=>?_
 subst he
 have hp:Rows.tightSpec.post enc Tryz.prog Tryz.f4 false true false false W #[.string s,.int .i64 c3] (.bool true) W':=
  ⟨_,_,_,[],[],[],hW',trodAll_mk1 (shut_bool Tryz.underlying4 _),trodAll_mk2 (shut_string Tryz.underlying9 hs) (shut_int Tryz.underlying3 hc3),rfl,hb.frame _,fun h=>by cases h⟩
 exact ChangeSpec.post_blind hp
end Go.Proofs.YtcdgkkfipdoeeaaGreatDoor

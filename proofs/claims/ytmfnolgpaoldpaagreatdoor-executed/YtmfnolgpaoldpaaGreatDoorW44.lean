/- Parts. -/
import Derived.Test.YtmfnolgpaoldpaaGreatDoorW18
import Derived.Test.YtmfnolgpaoldpaaGreatDoorW43
import Derived.Test.YtmfnolgpaoldpaaGreatDoorCards
import Derived.Test.YtmfnolgpaoldpaaGreatDoorTie
set_option linter.all false
set_option maxRecDepth 100000
set_option maxHeartbeats 16000000
namespace Go.Proofs.YtmfnolgpaoldpaaGreatDoor
open Go.Proofs.Tryz
open Go.ChangeShapes Go.WideShapes Go.ChangeAt Go.RowKit LS
open Go.ChangeMaps (open_string shut_string)
variable {W:World}
def Jr(w:World):World:={w with heap:=w.heap.modify 13 λ
 |.cells _ t frozen=>.cells #[.iface 242<|.agg #[.pointer<|some ⟨20,37,none⟩]] t frozen
 |o=>o}
def Q6:List<|String×DataW Unit:=Rows.executedRow.laid.filter λx=>x.2.handleName?.isNone
theorem Ef (os:Os){args:Array Value}:laidMetH prog Rows.executedRow.laid (((Jr<|World.holding prog os ⟨#[],#[],[]⟩).layVars prog Q6).forCall (λ_ _=>0) ⟨#[],args,[]⟩).memory:=by
 have e1:(Q6.filter λx=>(Q6.map (·.1)).contains x.1)=Q6:=J3.2 λx a=>L8.2<|XJ.2 ⟨x,a,rfl⟩;have e2:(Q6.filter λx=>!(Q6.map (·.1)).contains x.1)=[]:=MW.2 λx a=>by rw[L8.2<|XJ.2 ⟨x,a,rfl⟩];simp
 have h:laidMet prog Q6<|(Jr<|World.holding prog os ⟨#[],#[],[]⟩).layVars prog Q6:=
  laidMet_layVars (w0:=Jr<|World.holding prog os ⟨#[],#[],[]⟩) (Q6.map (·.1)) [] (by rw[e1]) (by rw[e1];kernel_rfl) (by rw[e1];kernel_rfl)<|by rw[e2];exact LaidIn.none
 exact laidMetH_of_parts (h.of_heap<|by simp[World.memory,World.forCall,Input.heap]) Kr
theorem mu:(((begin prog (λ_ _=>0) default).world.heap[20-1]?).bind Obj.row?).isSome=true:=Kr
theorem mw(h:W.ShapedOpen prog):20<=W.heap.size:=by
 obtain⟨⟨z,t⟩,a⟩:=MV.1 mu;obtain⟨cs,c,_⟩:=h.1 (20-1) z t (by rw[show prog.globals.size=20 by kernel_rfl];decide) a;have:=(Xr.1 c).1;omega
theorem jW:(Rows.laid_internal_strconv_uint64pow10:DataW Unit)=Lib.tabData .u64 Lib.pow10Tab:=by rfl
theorem jV {r:List<|String×DataW Unit}(h:laidMet Tryz.prog (("internal/strconv.uint64pow10",Rows.laid_internal_strconv_uint64pow10)::r) W):Vw W:=by
 rw[jW]at h;exact Lib.tabIs_of_head Tryz.gPow (t:=403) (e:=368) (n:=20) Kr Kr Kr Kr Kr h
theorem tS(os:Os)(started:os.Started)(H:Type)(enc:TypeId×Value->H):
 ReturnsInHanded {} checked os 3 .any (λw args=>(Rows.executedSpec.pre enc prog f3 [] false w args/\laidMetH prog Rows.executedRow.laid w)/\sizedMet enc prog f3 (OpenSpec.ofChange Rows.executedSpec) false w args)
  (Rows.executedSpec.post enc prog f3 false true false false):=by
 refine returnsInHanded_of_calls own started Kr
  (ChangeSpec.witness_shaped (enc:=enc) (C:=checked) (os:=os) (X:=λw _=>laidMetH prog Rows.executedRow.laid w) false ((Jr<|World.holding prog os ⟨#[],#[],[]⟩).layVars prog Q6) #[.string ⟨#[]⟩,.string ⟨#[]⟩,.agg #[E 0,E 0,E 0],E 0,.string ⟨#[]⟩,.string ⟨#[]⟩,.agg #[E 0,E 0,E 0],E 0] 8 (World.layVars_os _ _ _)
   (World.shaped_of_ZipB Kr Kr) Kr Kr Kr<|Ef os) ?_;intro w tape i _ hsh _ hok hpre hholds;obtain⟨_,_,_,fn',hfn',_,_,_,_,hval0⟩:=hok;have e:fn'=f3:=Uc<|hfn'.symm.trans func3;subst e;obtain⟨⟨⟨ds,gs,before,hw0,_⟩,hL0⟩,_⟩:=hpre;have hW:=DataW.Whole.of_heap (w':=w.forCall tape i) (by rfl) hw0;have hL:laidMetH prog Rows.executedRow.laid<|w.forCall tape i:=hL0.of_heap<|by rfl
 generalize w.forCall tape i=W at*;generalize i.args=args at*;have hval:∀(j:Nat) t v,f3.params[j]?=some t→args[j]?=some v→Value.okWide prog W .any w.heap.size t v:=hval0;have hW':=hW;obtain⟨p,q,hA0,hV0,rfl,_,_⟩:=hW;have hA:DataW.TrodAll enc prog W 0 (λ_=>true) true f3.params.toList args.toList ds p:=hA0;have hV:DataW.TrodVars enc prog W (λ_=>true) [] gs q:=hV0;rw[params3]at hA hval;obtain⟨v0,v1,v2,v3,v4,v5,v6,v7,d0,d1,d2,d3,d4,d5,d6,d7,p0,p1,p2,p3,p4,p5,p6,p7,rfl,rfl,rfl,h0,h1,h2,h3,h4,h5,h6,h7⟩:=yO hA;obtain⟨rfl,rfl⟩:=trodVars_none hV;obtain⟨q,rfl,rfl,rfl,hq⟩:=open_string underlying9 (hval 0 9 v0 rfl rfl) h0;obtain⟨s,rfl,rfl,rfl,hs⟩:=open_string underlying9 (hval 1 9 v1 rfl rfl) h1;obtain⟨f,l,st,rfl,rfl,rfl,wf1,wl1,ws1⟩:=B5 (hval 2 23 v2 rfl rfl) h2;obtain⟨c3,rfl,rfl,rfl,hc3⟩:=open_int underlying3 (hval 3 3 v3 rfl rfl) h3;obtain⟨q',rfl,rfl,rfl,hq'⟩:=open_string underlying9 (hval 4 9 v4 rfl rfl) h4;obtain⟨s',rfl,rfl,rfl,hs'⟩:=open_string underlying9 (hval 5 9 v5 rfl rfl) h5;obtain⟨f',l',st',rfl,rfl,rfl,wf2,wl2,ws2⟩:=B5 (hval 6 23 v6 rfl rfl) h6;obtain⟨c7,rfl,rfl,rfl,hc7⟩:=open_int underlying3 (hval 7 3 v7 rfl rfl) h7;simp only[V6]at hW';have hL2:laidMet Tryz.prog [("math/bits.deBruijn32tab",Rows.laid_math_bits_deBruijn32tab),("math/bits.deBruijn64tab",Rows.laid_math_bits_deBruijn64tab),("internal/strconv.uint64pow10",Rows.laid_internal_strconv_uint64pow10),("unicode/utf8.acceptRanges",Rows.laid_unicode_utf8_acceptRanges),("gauge/fault.Long",Rows.laid_gauge_fault_Long),("gauge/fault.Syntax",Rows.laid_gauge_fault_Syntax),("gauge/fault.Deep",Rows.laid_gauge_fault_Deep),("gauge/fault.Type",Rows.laid_gauge_fault_Type),("gauge/fault.Store",Rows.laid_gauge_fault_Store),("gauge/fault.Twice",Rows.laid_gauge_fault_Twice),("gauge/fault.Many",Rows.laid_gauge_fault_Many),("gauge/fault.Times",Rows.laid_gauge_fault_Times),("gauge/fault.Code",Rows.laid_gauge_fault_Code),("gauge/fault.Sum",Rows.laid_gauge_fault_Sum),("gauge/fault.Refer",Rows.laid_gauge_fault_Refer),("gauge/fault.Stack",Rows.laid_gauge_fault_Stack),("gauge/fault.Fuel",Rows.laid_gauge_fault_Fuel),("unicode/utf8.first",Rows.laid_unicode_utf8_first)] W∧handlesMet Tryz.prog [("errors.errorType",Rows.laid_errors_errorType)] W:=hL;obtain⟨m,hm⟩:∃m,W.cell? ⟨14,0,none⟩=some (E m):=cell_of_shapedOpen_int (zero:=#[E 0]) (t:=3) hsh (Rw Kr) Kr rfl Kr Kr underlying3;obtain⟨A,hvars⟩:=yh hL2.1.tail.tail.tail.tail (rL hL2.2) hm;have hpow:Vw W:=jV hL2.1.tail.tail;have hng:=mw hsh;refine(tU q s f l st c3 q' s' f' l' st' c7 A m W hvars hpow hng hq hs hq' hs').mono λe W' ⟨he,hb⟩=>?_;subst he;have hp:Rows.executedSpec.post enc prog f3 false true false false W #[.string q,.string s,.agg #[E f,E l,E st],E c3,.string q',.string s',.agg #[E f',E l',E st'],E c7] (.bool true) W':=
  ⟨_,_,_,[],[],[],hW',trodAll_mk1<|shut_bool underlying4 _,trodAll_cons_mk (shut_string underlying9 hq)<|trodAll_cons_mk (shut_string underlying9 hs)<|trodAll_cons_mk (zc wf1 wl1 ws1)<|trodAll_cons_mk (shut_int underlying3 hc3)<|trodAll_cons_mk (shut_string underlying9 hq')<|trodAll_cons_mk (shut_string underlying9 hs')<|trodAll_cons_mk (zc wf2 wl2 ws2)<|trodAll_cons_mk (shut_int underlying3 hc7) trodAll_mk0,rfl,hb.frame _,λh=>by cases h⟩;exact ChangeSpec.post_blind hp

/- Parts. -/
import Derived.Test.YtpbemaaghbbocaaGreatDoorW09
import Derived.Test.YtpbemaaghbbocaaGreatDoorW23
import Derived.Deep.SlicePairs
import Derived.Test.YtpbemaaghbbocaaGreatDoorCards
import Derived.Test.YtpbemaaghbbocaaGreatDoorTie
set_option linter.all false
set_option maxRecDepth 100000
set_option maxHeartbeats 16000000
namespace Go.Proofs.YtpbemaaghbbocaaGreatDoor
open Go.Proofs.Tryz
open Go.ChangeShapes Go.WideShapes Go.ChangeAt Go.RowKit LS
open Go.ChangeMaps (open_string shut_string)
variable {W:World}
def ZOe(w:World):World:={ w with heap:=w.heap.modify 13 fun
 | .cells _ t frozen=>.cells #[.iface 232 (.agg #[.pointer (some ⟨20,52,none⟩)])] t frozen
 | o=>o }
def ZOd:List (String×DataW Unit):=Rows.windowedRow.laid.filter fun x=>x.2.handleName?.isNone
theorem kMet (os : Os) {args:Array Value} : laidMetH prog Rows.windowedRow.laid (((ZOe (World.holding prog os ⟨#[], #[], []⟩)).layVars prog ZOd).forCall (fun _ _ => 0) ⟨#[], args, []⟩).memory := by
  have e1:(ZOd.filter fun x=>(ZOd.map (·.1)).contains x.1)=ZOd:=Yeg.2 fun x a=>Ydk.2 (Ybe.2 ⟨x,a,rfl⟩);have e2:(ZOd.filter fun x=>!(ZOd.map (·.1)).contains x.1)=[]:=Yc1.2 fun x a=>by rw[Ydk.2 (Ybe.2 ⟨x,a,rfl⟩)];simp
  have h:laidMet prog ZOd ((ZOe (World.holding prog os ⟨#[],#[],[]⟩)).layVars prog ZOd):=
    laidMet_layVars (w0:=ZOe (World.holding prog os ⟨#[],#[],[]⟩)) (ZOd.map (·.1)) [] (by rw[e1]) (by rw[e1];kernel_rfl) (by rw[e1];kernel_rfl) (by rw[e2];exact LaidIn.none)
  exact laidMetH_of_parts (h.of_heap (by simp[World.memory,World.forCall,Input.heap])) Kr
theorem ZyJ:(((begin prog (fun _ _=>0) default).world.heap[20 - 1]?).bind Obj.row?).isSome=true:=by kernel_rfl
theorem ZyK(h:W.ShapedOpen prog):20<=W.heap.size:=by
 obtain⟨⟨z,t⟩,a⟩:=Ycw.1 ZyJ;obtain⟨cs,c,_⟩:=h.1 (20 - 1) z t (by rw[show prog.globals.size=20 by kernel_rfl];decide) a;have:=(Yae.1 c).1;omega
theorem ZAO:(Rows.laid_internal_strconv_uint64pow10:DataW Unit)=Lib.tabData .u64 Lib.pow10Tab:=by rfl
theorem ZAN  {r : List (String × DataW Unit)} (h : laidMet Tryz.prog (("internal/strconv.uint64pow10", Rows.laid_internal_strconv_uint64pow10) :: r) W) : ZR W := by
 rw[ZAO]at h;exact Lib.tabIs_of_head Tryz.gPow (t:=347) (e:=328) (n:=20) Kr Kr Kr Kr Kr h
theorem ZQg(os:Os)(started:os.Started)(H:Type)(enc:TypeId×Value->H) :
  ReturnsInHanded {} checked os 6 .any (fun w args => (Rows.windowedSpec.pre enc prog f6 [] false w args /\ laidMetH prog Rows.windowedRow.laid w) /\ sizedMet enc prog f6 (OpenSpec.ofChange Rows.windowedSpec) false w args)
    (Rows.windowedSpec.post enc prog f6 false true false false):=by
 refine returnsInHanded_of_calls own started Kr
   (ChangeSpec.witness_shaped (enc := enc) (C := checked) (os := os) (X := fun w _ => laidMetH prog Rows.windowedRow.laid w) false ((ZOe (World.holding prog os ⟨#[], #[], []⟩)).layVars prog ZOd) #[S0, Vi 0, Vi 0] 8 (World.layVars_os _ _ _)
     (World.shaped_of_ZipB Kr Kr) Kr Kr Kr (kMet os)) ?_
 intro w tape i _ hsh _ hok hpre hholds;obtain⟨_,_,_,fn',hfn',_,_,_,_,hval0⟩:=hok;have e:fn'=f6:=Yax (hfn'.symm.trans func6);subst e;obtain⟨⟨⟨ds,gs,before,hw0,_⟩,hL0⟩,_⟩:=hpre;have hW:=DataW.Whole.of_heap (w':=w.forCall tape i) (by rfl) hw0;have hL:laidMetH prog Rows.windowedRow.laid (w.forCall tape i):=hL0.of_heap (by rfl);generalize w.forCall tape i=W at *
 generalize i.args=args at *
 have hval:∀(j:Nat) t v,f6.params[j]?=some t->args[j]?=some v->Value.okWide prog W .any w.heap.size t v:=hval0;have hW':=hW;obtain⟨p,q,hA0,hV0,rfl,_,_⟩:=hW;have hA:DataW.TrodAll enc prog W 0 (fun _=>true) true f6.params.toList args.toList ds p:=hA0;have hV:DataW.TrodVars enc prog W (fun _=>true) [] gs q:=hV0;rw[params6]at hA hval;obtain⟨v0,v1,v2,d0,d1,d2,p0,p1,p2,rfl,rfl,rfl,h0,h1,h2⟩:=ZOW hA;obtain⟨rfl,rfl⟩:=trodVars_none hV;obtain⟨c1,rfl,rfl,rfl,hc1⟩:=open_int underlying3 (hval 1 3 v1 rfl rfl) h1;obtain⟨c2,rfl,rfl,rfl,hc2⟩:=open_int underlying3 (hval 2 3 v2 rfl rfl) h2;obtain⟨a0,n,cap,rfl⟩:=okWide_slice underlying37 (hval 0 37 v0 rfl rfl);have h0k:=h0;obtain⟨fuel,hf⟩:=h0;have hlt:∀x∈p0,x.block<W.heap.size:=fun x hx=>by simpa using hW'.lt x (by simp[hx])
 simp only[Yca]at hW';have hL2 : laidMet Tryz.prog [("math/bits.deBruijn32tab", Rows.laid_math_bits_deBruijn32tab), ("math/bits.deBruijn64tab", Rows.laid_math_bits_deBruijn64tab), ("internal/strconv.uint64pow10", Rows.laid_internal_strconv_uint64pow10), ("unicode/utf8.acceptRanges", Rows.laid_unicode_utf8_acceptRanges), ("gauge/fault.Long", Rows.laid_gauge_fault_Long), ("gauge/fault.Syntax", Rows.laid_gauge_fault_Syntax), ("gauge/fault.Deep", Rows.laid_gauge_fault_Deep), ("gauge/fault.Type", Rows.laid_gauge_fault_Type), ("gauge/fault.Store", Rows.laid_gauge_fault_Store), ("gauge/fault.Twice", Rows.laid_gauge_fault_Twice), ("gauge/fault.Many", Rows.laid_gauge_fault_Many), ("gauge/fault.Times", Rows.laid_gauge_fault_Times), ("gauge/fault.Code", Rows.laid_gauge_fault_Code), ("gauge/fault.Sum", Rows.laid_gauge_fault_Sum), ("gauge/fault.Refer", Rows.laid_gauge_fault_Refer), ("gauge/fault.Stack", Rows.laid_gauge_fault_Stack), ("gauge/fault.Fuel", Rows.laid_gauge_fault_Fuel), ("unicode/utf8.first", Rows.laid_unicode_utf8_first)] W ∧ handlesMet Tryz.prog [("errors.errorType", Rows.laid_errors_errorType)] W := hL
 obtain⟨m,hm⟩:∃m,W.cell? ⟨14,0,none⟩=some (Vi m):=cell_of_shapedOpen_int (zero:=#[Vi 0]) (t:=3) hsh (of_decide_eq_true Kr) Kr rfl Kr Kr underlying3;obtain⟨A,hvars⟩:=ZDU hL2.1.tail.tail.tail.tail (ZwP hL2.2) hm;have hpow:ZR W:=ZAN hL2.1.tail.tail;have hng:=ZyK hsh
 have hwf : ∀ c : Int, (Lit.int .i64 c).wf = true -> -9223372036854775808 <= c /\ c <= 9223372036854775807 := fun c hc => by
   simp[Lit.wf]at hc;rw[show IntKind.i64.min=(-9223372036854775808:Int) from by decide]at hc;exact hc
 have hex:∃Rd:Nat->Int×Int,n<=maxLen/\((a0=none/\n=0/\cap=0)∨∃a:Addr,a0=some a/\(0<n->a.block<W.heap.size)/\∀i,i<n->W.cell? (a.add (i*2))=some (Vi (Rd i).1)/\W.cell? (a.add (i*2+1))=some (Vi (Rd i).2))/\∀i,i<n->(-9223372036854775808<=(Rd i).1/\(Rd i).1<=9223372036854775807)/\(-9223372036854775808<=(Rd i).2/\(Rd i).2<=9223372036854775807):=by
  rcases Go.Deep.open_slice_pairs underlying37 underlying40 Kr rfl rfl Kr Kr hf with ⟨hcs,hx⟩|⟨a,len,cap',mm,nn,V0,V1,D0,D1,P0,P1,hcs,_,hl,hmx,hmm,hx,hcell⟩
  ·have hcs':[Value.slice a0 n cap]=[S0]:=hcs;injection hcs' with hcs' _;injection hcs' with e1 e2 e3;exact⟨fun _=>(0,0),by omega,Or.inl ⟨e1,e2,e3⟩,fun i hi=>by omega⟩
  ·have hcs':[Value.slice a0 n cap]=[.slice (some a) len cap']:=hcs;injection hcs' with hcs' _;injection hcs' with e1 e2 e3;subst e1 e2 e3;have hmn:mm=cap:=by rw[hmm];rfl
   have each : ∀ i, i < n -> ∃ x : Int × Int, V0 i = Vi x.1 /\ V1 i = Vi x.2 /\ (-9223372036854775808 <= x.1 /\ x.1 <= 9223372036854775807) /\ (-9223372036854775808 <= x.2 /\ x.2 <= 9223372036854775807) := fun i hi => by
     obtain⟨_,_,g0,g1⟩:=hcell i Om;obtain⟨x,e0,_,w0⟩:=DataW.trod_int underlying3 g0;obtain⟨y,e1,_,w1⟩:=DataW.trod_int underlying3 g1;simp at e0 e1;exact⟨(x,y),e0,e1,hwf x w0,hwf y w1⟩
   obtain⟨Rd,hR⟩:=Go.Deep.choose_lt each;refine⟨Rd,by omega,Or.inr ⟨a,rfl,fun h=>?_,fun i hi=>?_⟩,fun i hi=>⟨(hR i hi).2.2.1,(hR i hi).2.2.2⟩⟩
   ·have hc0:=(hcell 0 Om).1;rw[show a.add (0*2)=a from rfl]at hc0;simp only[World.cell?]at hc0;cases hh:W.heap[a.block]? with
    | none=>rw[hh]at hc0;cases hc0
    | some o=>exact(Yae.1 hh).1
   ·obtain⟨k0,k1,_,_⟩:=hcell i Om;rw[k0,k1,(hR i hi).1,(hR i hi).2.1];exact⟨rfl,rfl⟩
 obtain⟨Rd,hn,ha,hrd⟩:=hex;refine(ZQh a0 n cap c1 c2 Rd A m W hvars hpow hng hn (hwf c1 hc1) (hwf c2 hc2) ha hrd).mono fun e W' ⟨he,hb⟩=>?_;subst he
 have hp:Rows.windowedSpec.post enc prog f6 false true false false W #[.slice a0 n cap,Vi c1,Vi c2] (.bool true) W':=
  ⟨_,_,_,[],p0,[],hW',trodAll_mk1 (shut_bool underlying4 _),(by
   have:=trodAll_cons_mk (Below.trod Kr Kr (of_decide_eq_true Kr) h0k hb hlt) (trodAll_cons_mk (shut_int underlying3 hc1) (trodAll_cons_mk (shut_int underlying3 hc2) trodAll_mk0));simp only[Yca]at this;exact this),rfl,hb.frame _,fun h=>by cases h⟩
 exact ChangeSpec.post_blind hp

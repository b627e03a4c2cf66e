/- Parts. -/
import Derived.Test.YtpbemaaghbbocaaGreatDoorH08
import Derived.Test.YtpbemaaghbbocaaGreatDoorH21
import Derived.Deep.DeepHandedRow
import Derived.Test.YtpbemaaghbbocaaGreatDoorCards
import Derived.Test.YtpbemaaghbbocaaGreatDoorTie
set_option linter.all false
set_option maxRecDepth 100000
set_option maxHeartbeats 16000000
namespace Go.Proofs.YtpbemaaghbbocaaGreatDoor
open Go.Proofs.Tryz
open Go.ChangeShapes Go.WideShapes Go.ChangeAt Go.RowKit LS
open Go.ChangeMaps (open_string shut_string)
variable {W:World}
def ZOe(w:World):World:={ w with heap:=w.heap.modify 13 fun
 | .cells _ t frozen=>.cells #[.iface 232 (.agg #[.pointer (some ⟨20,52,none⟩)])] t frozen
 | o=>o }
def ZOd:List (String×DataW Unit):=Rows.shuffledUptoRow.laid.filter fun x=>x.2.handleName?.isNone
theorem kMet (os : Os) {args:Array Value} : laidMetH prog Rows.shuffledUptoRow.laid (((ZOe (World.holding prog os ⟨#[], #[], []⟩)).layVars prog ZOd).forCall (fun _ _ => 0) ⟨#[], args, []⟩).memory := by
  have e1:(ZOd.filter fun x=>(ZOd.map (·.1)).contains x.1)=ZOd:=Yeg.2 fun x a=>Ydk.2 (Ybe.2 ⟨x,a,rfl⟩);have e2:(ZOd.filter fun x=>!(ZOd.map (·.1)).contains x.1)=[]:=Yc1.2 fun x a=>by rw[Ydk.2 (Ybe.2 ⟨x,a,rfl⟩)];simp
  have h:laidMet prog ZOd ((ZOe (World.holding prog os ⟨#[],#[],[]⟩)).layVars prog ZOd):=
    laidMet_layVars (w0:=ZOe (World.holding prog os ⟨#[],#[],[]⟩)) (ZOd.map (·.1)) [] (by rw[e1]) (by rw[e1];kernel_rfl) (by rw[e1];kernel_rfl) (by rw[e2];exact LaidIn.none)
  exact laidMetH_of_parts (h.of_heap (by simp[World.memory,World.forCall,Input.heap])) Kr
theorem ZyJ:(((begin prog (fun _ _=>0) default).world.heap[20 - 1]?).bind Obj.row?).isSome=true:=by kernel_rfl
theorem ZyK(h:W.ShapedOpen prog):20<=W.heap.size:=by
 obtain⟨⟨z,t⟩,a⟩:=Ycw.1 ZyJ;obtain⟨cs,c,_⟩:=h.1 (20 - 1) z t (by rw[show prog.globals.size=20 by kernel_rfl];decide) a;have:=(Yae.1 c).1;omega
theorem ZAO:(Rows.laid_internal_strconv_uint64pow10:DataW Unit)=Lib.tabData .u64 Lib.pow10Tab:=by rfl
theorem ZAN  {r : List (String × DataW Unit)} (h : laidMet Tryz.prog (("internal/strconv.uint64pow10", Rows.laid_internal_strconv_uint64pow10) :: r) W) : ZR W := by
 rw[ZAO]at h;exact Lib.tabIs_of_head Tryz.gPow (t:=347) (e:=328) (n:=20) Kr Kr Kr Kr Kr h
theorem ZQ3{H:Type}(d:DataW H):1<=Rows.uptoBulk d:=by
 cases d with
 | lit l=>cases l <;> simp[Rows.uptoBulk]
 | nil=>simp[Rows.uptoBulk]
 | ptr d=>simp[Rows.uptoBulk]
 | slice e s=>simp[Rows.uptoBulk]
 | agg p=>simp[Rows.uptoBulk]
 | iface t d=>simp[Rows.uptoBulk]
 | map e=>simp[Rows.uptoBulk]
 | held h=>simp[Rows.uptoBulk]
theorem ZQQ{H:Type} : ∀(l:List (DataW H)) (d:DataW H),d∈l->Rows.uptoBulk d<=Rows.uptoBulkAll l
 | [],d,h=>by cases h
 | x :: l, d, h => by
   rw[Rows.uptoBulkAll];rcases Yau.1 h with rfl|h
   · omega
   · have:=ZQQ l d h;omega
theorem ZQV{H:Type} : ∀l:List (DataW H),l.length<=Rows.uptoBulkAll l
 | []=>Yag _
 | x :: l => by
   rw[Rows.uptoBulkAll,Yaj];have:=ZQV l;have:=ZQ3 x;omega
theorem ZRR(os:Os)(started:os.Started)(H:Type)(enc:TypeId×Value->H)(F:Stop.Interp) :
  ReturnsInHanded {} checked os 5 .any ((Rows.OpenSpec.upto Rows.shuffledSpec).preRow enc prog f5 Rows.shuffledUptoRow.domain false Rows.shuffledUptoRow.laid)
   (((Rows.OpenSpec.upto Rows.shuffledSpec).at F).post enc prog f5 false true false false):=by
 have hx:DataW.whole enc prog (((ZOe (World.holding prog os ⟨#[],#[],[]⟩)).layVars prog ZOd).forCall (fun _ _=>0) ⟨#[],#[S0,.int .i64 0,.bool false,.string ⟨#[]⟩,.agg #[.int .i64 0,.int .i64 0,.int .i64 0]],[]⟩).memory f5.params.toList Rows.shuffledSpec.vars false #[Value.slice none 0 0,.int .i64 0,.bool false,.string ⟨#[]⟩,.agg #[.int .i64 0,.int .i64 0,.int .i64 0]].toList 8=some ([.nil,.lit (.int .i64 0),.lit (.bool false),.lit (.string []),.agg [.lit (.int .i64 0),.lit (.int .i64 0),.lit (.int .i64 0)]],[],[]):=by kernel_rfl
 refine returnsInHanded_of_row (C := checked) (s := Rows.OpenSpec.upto Rows.shuffledSpec) own started Kr func5
   ⟨(ZOe (World.holding prog os ⟨#[], #[], []⟩)).layVars prog ZOd, fun _ _ => 0, ⟨#[], #[S0, Vi 0, .bool false, .string ⟨#[]⟩, .agg #[Vi 0, Vi 0, Vi 0]], []⟩, World.layVars_os _ _ _, World.shaped_of_ZipB Kr Kr, rfl, (Input.okWide_of_okWideB Kr).2,
     OpenSpec.preRow_of_cond 8 hx Kr (fun k hk => by cases hk; kernel_rfl) Kr (kMet os), by
       simp only[Assume.holds];exact⟨by simp,by simp,by simp,by simp,by simp⟩⟩ ?_
 intro W base args ds gs before hval0 hW _ hcond _ hL hsh _;have hval:∀(j:Nat) t v,f5.params[j]?=some t->args[j]?=some v->Value.okWide prog W .any base t v:=hval0;have hW':=hW;obtain⟨p,q,hA0,hV0,rfl,_,_⟩:=hW;have hA:DataW.TrodAll enc prog W 0 (fun _=>true) true f5.params.toList args.toList ds p:=hA0;have hV:DataW.TrodVars enc prog W (fun _=>true) [] gs q:=hV0;rw[params5]at hA hval;obtain⟨v0,v1,v2,v3,v4,d0,d1,d2,d3,d4,p0,p1,p2,p3,p4,rfl,rfl,rfl,h0,h1,h2,h3,h4⟩:=ZRU hA;obtain⟨rfl,rfl⟩:=trodVars_none hV;obtain⟨c,rfl,rfl,rfl,hc⟩:=open_int underlying3 (hval 1 3 v1 rfl rfl) h1;obtain⟨back,rfl,rfl,rfl⟩:=open_bool underlying4 (hval 2 4 v2 rfl rfl) h2;obtain⟨q,rfl,rfl,rfl,hq⟩:=open_string underlying9 (hval 3 9 v3 rfl rfl) h3;obtain⟨f,l,st,rfl,rfl,rfl,wf1,wl1,ws1⟩:=ZzP (hval 4 23 v4 rfl rfl) h4;obtain⟨a0,n,cap,rfl⟩:=okWide_slice underlying31 (hval 0 31 v0 rfl rfl);have h0k:=h0;obtain⟨fuel,hf⟩:=h0;have hbulk:Rows.uptoBulkAll ([d0,.lit (.int .i64 c),.lit (.bool back),.lit (.string q.data.toList),.agg [.lit (.int .i64 f),.lit (.int .i64 l),.lit (.int .i64 st)]]++[])<=1048576:=of_decide_eq_true (hcond _ rfl);have hb0:Rows.uptoBulk d0<=1048576:=Yah (ZQQ _ d0 (by simp)) hbulk;have hlt:∀x∈p0,x.block<W.heap.size:=fun x hx=>by simpa using hW'.lt x (by simp[hx])
 simp only[Yca]at hW';have hL2 : laidMet Tryz.prog [("math/bits.deBruijn32tab", Rows.laid_math_bits_deBruijn32tab), ("math/bits.deBruijn64tab", Rows.laid_math_bits_deBruijn64tab), ("internal/strconv.uint64pow10", Rows.laid_internal_strconv_uint64pow10), ("unicode/utf8.acceptRanges", Rows.laid_unicode_utf8_acceptRanges), ("gauge/fault.Long", Rows.laid_gauge_fault_Long), ("gauge/fault.Syntax", Rows.laid_gauge_fault_Syntax), ("gauge/fault.Deep", Rows.laid_gauge_fault_Deep), ("gauge/fault.Type", Rows.laid_gauge_fault_Type), ("gauge/fault.Store", Rows.laid_gauge_fault_Store), ("gauge/fault.Twice", Rows.laid_gauge_fault_Twice), ("gauge/fault.Many", Rows.laid_gauge_fault_Many), ("gauge/fault.Times", Rows.laid_gauge_fault_Times), ("gauge/fault.Code", Rows.laid_gauge_fault_Code), ("gauge/fault.Sum", Rows.laid_gauge_fault_Sum), ("gauge/fault.Refer", Rows.laid_gauge_fault_Refer), ("gauge/fault.Stack", Rows.laid_gauge_fault_Stack), ("gauge/fault.Fuel", Rows.laid_gauge_fault_Fuel), ("unicode/utf8.first", Rows.laid_unicode_utf8_first)] W ∧ handlesMet Tryz.prog [("errors.errorType", Rows.laid_errors_errorType)] W := hL
 obtain⟨m,hm⟩:∃m,W.cell? ⟨14,0,none⟩=some (Vi m):=cell_of_shapedOpen_int (zero:=#[Vi 0]) (t:=3) hsh (of_decide_eq_true Kr) Kr rfl Kr Kr underlying3;obtain⟨A,hvars⟩:=ZDU hL2.1.tail.tail.tail.tail (ZwP hL2.2) hm;have hpow:ZR W:=ZAN hL2.1.tail.tail;have hng:=ZyK hsh
 have hcw : -9223372036854775808<=c/\c<=9223372036854775807:=by
  have h:=hc;simp[Lit.wf]at h;rw[show IntKind.i64.min=(-9223372036854775808:Int) from by decide]at h;exact h
 have hex:∃Sx:Nat->BA,n<=1048576/\((a0=none/\n=0/\cap=0)∨∃a:Addr,a0=some a/\(0<n->a.block<W.heap.size)/\(∀i,i<n->W.cell? (a.add i)=some (.string (Sx i)))/\∀i,i<n->(Sx i).size<=1048576):=by
  rcases Go.Deep.open_strs underlying31 underlying9 Kr hf with ⟨hcs,hx⟩|⟨a,len,cap',mm,Sx,hcs,_,hl,_,hmm,hx,hcell⟩
  ·have hcs':[Value.slice a0 n cap]=[S0]:=hcs;injection hcs' with hcs' _;injection hcs' with e1 e2 e3;exact⟨fun _=>⟨#[]⟩,by omega,Or.inl ⟨e1,e2,e3⟩⟩
  ·have hcs':[Value.slice a0 n cap]=[.slice (some a) len cap']:=hcs;injection hcs' with hcs' _;injection hcs' with e1 e2 e3;subst e1 e2 e3;have hmn:mm=cap:=by rw[hmm];rfl
   injection hx with hx1 hx2;subst hx1;rw[Rows.uptoBulk]at hb0;have hl1:=ZQV ((List.range n).map fun i=>(DataW.lit (.string (Sx i).data.toList):DataW H));rw[Yak,Ygy]at hl1;refine⟨Sx,by omega,Or.inr ⟨a,rfl,fun h=>?_,fun i hi=>(hcell i Om).1,fun i hi=>?_⟩⟩
   ·have hc0:=(hcell 0 Om).1;rw[show a.add 0=a from rfl]at hc0;simp only[World.cell?]at hc0;cases hh:W.heap[a.block]? with
    | none=>rw[hh]at hc0;cases hc0
    | some o=>exact(Yae.1 hh).1
   ·have:=ZQQ ((List.range n).map fun i=>(DataW.lit (.string (Sx i).data.toList):DataW H)) (.lit (.string (Sx i).data.toList)) (Ybe.2 ⟨i,Yb9.2 hi,rfl⟩);rw[Rows.uptoBulk]at this;have e:(Sx i).data.toList.length=(Sx i).size:=by simp
    omega
 obtain⟨Sx,hn,ha⟩:=hex;refine(ZRS a0 n cap c back q f l st Sx A m W hvars hpow hng hn hcw.1 hcw.2 (Yah hq (by unfold maxLen;decide)) ha).mono fun e W' ⟨he,hb⟩=>?_;refine⟨_,he,?_⟩
 exact⟨_,_,_,[],p0,[],hW',trodAll_mk1 (shut_bool underlying4 _),(by
  have:=trodAll_cons_mk (Below.trod Kr Kr (of_decide_eq_true Kr) h0k hb hlt) (trodAll_cons_mk (shut_int underlying3 hc) (trodAll_cons_mk (shut_bool underlying4 back) (trodAll_cons_mk (shut_string underlying9 hq) (trodAll_cons_mk (ZCc wf1 wl1 ws1) trodAll_mk0))));simp only[Yca]at this;exact this),rfl,hb.frame _,fun h=>by cases h⟩

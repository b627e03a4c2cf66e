/- Parts. -/
import Derived.Stop.Asserts
import Derived.RowKitTokens
import Derived.Test.YtmfnolgpaoldpaaGreatDoorW06
import Derived.BigQuiet
set_option linter.all false
set_option maxRecDepth 100000
set_option maxHeartbeats 16000000
namespace Go.Proofs.YtmfnolgpaoldpaaGreatDoor
open Go.Proofs.Tryz
open Go.RowKit Go.Extern.Stop Go.Stop Go.Extern LS
variable {a b e:Addr}{ca cb:Array Value}{W:BA}{m:Int}{sl st:List Nat}{l:List PV}{g:List<|Option Addr×Nat×Nat}{arg fa op pb:Nat}{A:Nat->Addr}{p:PV}{w w':World}{c:Yb}
def D0:Array Value→Sem Value:=ReflectliteType.method λt=>do Rtype.noPackHeld "Comparable" t;pure<|.bool (←typeInfo t).comparable
theorem Tryz.isTypeOf(v:Value)(w:World):(Extern.ReflectliteType.typeOf #[.iface 469 v]).run Tryz.prog w=.ok (.iface 242<|.agg #[.pointer<|some ⟨20,469,none⟩]) w:=Kr
theorem Tryz.isComparable(w:World):(D0 #[.agg #[.pointer<|some ⟨20,469,none⟩]]).run Tryz.prog w=.ok (.bool true) w:=Kr
theorem Tryz.isMethodComparable (v:Value)(w:World):(Go.method 598 242 v "Comparable").run Tryz.prog w=.ok (332,v) w:=by kernel_rfl
theorem Tryz.isComp:(Tryz.prog.info? 469).map (·.comparable)=some true:=Kr
theorem Tryz.isSize:(Tryz.prog.info? 487).map (·.size)=some 1:=Kr
theorem Tryz.noIsE(v:Value)(xT:TypeId)(w:World):(Instr.typeAssert (.iface 469 v) xT 244 true).run Tryz.prog w=.ok (.tuple #[.nilIface,.bool false]) w:=run_typeAssert_lacksB Tryz.underlying244 Kr Kr v _ w
theorem Tryz.noUnwrapE(v:Value)(xT:TypeId)(w:World):(Instr.typeAssert (.iface 469 v) xT 247 true).run Tryz.prog w=.ok (.tuple #[.nilIface,.bool false]) w:=run_typeAssert_lacksB Tryz.underlying247 Kr Kr v _ w
theorem Tryz.noUnwrapsE(v:Value)(xT:TypeId)(w:World):(Instr.typeAssert (.iface 469 v) xT 249 true).run Tryz.prog w=.ok (.tuple #[.nilIface,.bool false]) w:=run_typeAssert_lacksB Tryz.underlying249 Kr Kr v _ w
theorem Tryz.noIsW(v:Value)(xT:TypeId)(w:World):(Instr.typeAssert (.iface 92 v) xT 244 true).run Tryz.prog w=.ok (.tuple #[.nilIface,.bool false]) w:=run_typeAssert_lacksB Tryz.underlying244 Kr Kr v _ w
theorem Tryz.hasUnwrapW(v:Value)(xT:TypeId)(w:World):(Instr.typeAssert (.iface 92 v) xT 247 true).run Tryz.prog w=.ok (.tuple #[.iface 92 v,.bool true]) w:=run_typeAssert_hasB Tryz.underlying247 Kr v _ w
theorem Tryz.methodUnwrap (v:Value)(w:World):(Go.method 598 92 v "Unwrap").run Tryz.prog w=.ok (320,v) w:=by kernel_rfl
theorem Mh (args:Array Value)(w:World):(callFunc 53 args).run prog w=((ReflectliteType.typeOf args).run prog w).andThen λv u=>.ok (.value v) u:=
 RU func53 Kr Kr Kr Kr args w
theorem Js (args:Array Value)(w:World):(callFunc 332 args).run prog w=((D0 args).run prog w).andThen λv u=>.ok (.value v) u:=
 RU func332 Kr Kr Kr Kr args w
theorem M8:
 CP 26 #[.iface 469<|.pointer<|some a,.iface 469<|.pointer<|some a] w λe u=>e=.returned (.bool true)/\u=w:=by
 obtain⟨i,d,c⟩:=RV.1 Tryz.isComp;obtain⟨j,f,g⟩:=RV.1 Tryz.isSize;have l:=Mh;have h:=Js;have tT:=Tryz.isTypeOf;have cT:=Tryz.isComparable;have mR:=Tryz.isMethodComparable;have k:=run_eql_iface_ptr_same w a underlying37 underlying469 d c f;go_enter func26,ntmps26;go_wp2;refine Ok 1 ?_;rw[Q4];go_wp2;go_ret;exact⟨rfl,rfl⟩
theorem od:
 CP 26 #[.nilIface,.iface 469<|.pointer<|some b] w λe u=>e=.returned (.bool false)/\u=w:=by
 have a:=run_eql_iface_nil_left w 469 (.pointer<|some b) underlying37;go_enter func26,ntmps26;go_wp2;go_ret;exact⟨rfl,rfl⟩
theorem oe{ta tb:TypeId}(d:a≠b)(g:w.heap[a.block]?=some (.cells ca ta (0,0)))(h:w.heap[b.block]?=some (.cells cb tb (0,0))):
 CP 26 #[.iface 469<|.pointer<|some a,.iface 469<|.pointer<|some b] w λe u=>e=.returned (.bool false)/\u=w:=by
 obtain⟨i,k,c⟩:=RV.1 Tryz.isComp;obtain⟨j,l,f⟩:=RV.1 Tryz.isSize;have o:=Mh;have m:=Js;have tT:=Tryz.isTypeOf;have cT:=Tryz.isComparable;have mR:=Tryz.isMethodComparable;have nE:=Tryz.noIsE;have uE:=Tryz.noUnwrapE;have vE:=Tryz.noUnwrapsE;have nW:=Tryz.noIsW;have uW:=Tryz.hasUnwrapW;have mU:=Tryz.methodUnwrap;have n:=run_eql_iface_ptr_other w underlying37 underlying469 k c l (by rw[f];decide) d g h;go_enter func26,ntmps26;go_wp2;refine Ok 1 ?_;rw[Q4];go_wp2;go_ret;exact⟨rfl,rfl⟩
theorem M9(l:w.cell? ⟨pb,2,none⟩=some (.iface 469<|.pointer<|some b)):
 CP 26 #[.iface 92<|Vp pb,.iface 469<|.pointer<|some b] w λe u=>e=.returned (.bool true)/\u=w:=by
 obtain⟨i,c,a⟩:=RV.1 Tryz.isComp;obtain⟨j,d,f⟩:=RV.1 Tryz.isSize;have m:=Mh;have g:=Js;have tT:=Tryz.isTypeOf;have cT:=Tryz.isComparable;have mR:=Tryz.isMethodComparable;have nE:=Tryz.noIsE;have uE:=Tryz.noUnwrapE;have vE:=Tryz.noUnwrapsE;have nW:=Tryz.noIsW;have uW:=Tryz.hasUnwrapW;have mU:=Tryz.methodUnwrap;have h:=run_eql_iface_ptr_same w b underlying37 underlying469 c a d;have k:=run_eql_iface_types 92 469 (Vp pb) (.pointer<|some b) underlying37 N w;go_enter func26,ntmps26;go_wp2;refine Ok 2 ?_;rw[Q4];go_wp2;rw[Q4];go_wp2;go_ret;exact⟨rfl,rfl⟩
theorem og{ta tb:TypeId}(p:w.cell? ⟨pb,2,none⟩=some (.iface 469<|.pointer<|some a))(d:a≠b)(g:w.heap[a.block]?=some (.cells ca ta (0,0)))(h:w.heap[b.block]?=some (.cells cb tb (0,0))):
 CP 26 #[.iface 92<|Vp pb,.iface 469<|.pointer<|some b] w λe u=>e=.returned (.bool false)/\u=w:=by
 obtain⟨i,k,c⟩:=RV.1 Tryz.isComp;obtain⟨j,l,f⟩:=RV.1 Tryz.isSize;have q:=Mh;have m:=Js;have tT:=Tryz.isTypeOf;have cT:=Tryz.isComparable;have mR:=Tryz.isMethodComparable;have nE:=Tryz.noIsE;have uE:=Tryz.noUnwrapE;have vE:=Tryz.noUnwrapsE;have nW:=Tryz.noIsW;have uW:=Tryz.hasUnwrapW;have mU:=Tryz.methodUnwrap;have n:=run_eql_iface_ptr_other w underlying37 underlying469 k c l (by rw[f];decide) d g h;have o:=run_eql_iface_types 92 469 (Vp pb) (.pointer<|some b) underlying37 N w;go_enter func26,ntmps26;go_wp2;refine Ok 2 ?_;rw[Q4];go_wp2;rw[Q4];go_wp2;go_ret;exact⟨rfl,rfl⟩
open Go.RowKit LS Go.Proofs.Tryz
theorem YC.all(h:YC w A m):∀g,g<13->w.cell? ⟨g,0,none⟩=some (.iface 469<|.pointer<|some<|A g):=λg a=>h.sent g<|by unfold QG;simp;omega
theorem Lw {g h:Nat}(a:YC w A m)(i:w.cell? ⟨fa,2,none⟩=some (.iface 469<|.pointer<|some<|A g))(d:g∈QG:=by decide)(f:h∈QG:=by decide)(j:g≠h:=by decide):
 CP 26 #[.iface 92<|Vp fa,.iface 469<|.pointer<|some<|A h] w λe u=>e=.returned (.bool false)/\u=w:=by
  obtain⟨c,t,r⟩:=a.row g d;obtain⟨c',t',r'⟩:=a.row h f;exact og i (a.apart _ d _ f j) r r'
theorem JH {g h:Nat}(a:YC w A m)(d:g∈QG:=by decide)(f:h∈QG:=by decide)(i:g≠h:=by decide):
 CP 26 #[.iface 469<|.pointer<|some<|A g,.iface 469<|.pointer<|some<|A h] w λe u=>e=.returned (.bool false)/\u=w:=by
  obtain⟨c,t,r⟩:=a.row g d;obtain⟨c',t',r'⟩:=a.row h f;exact oe (a.apart _ d _ f i) r r'
theorem FA(A:Nat->Addr)(m:Int)(w:World)(a:YC w A m):
 CP 12 #[.nilIface] w λe u=>e=.returned (E 0)/\u=w:=by
 have v:=a.all;go_enter func12,ntmps12;iterate 13 (go_wp2_with fail;refine YK (od) ?_)
 go_wp2;go_ret;exact⟨C,C⟩
theorem oM(A:Nat->Addr)(m:Int)(w:World)(a:YC w A m):
 CP 12 #[.iface 469<|.pointer<|some<|A 0] w λe u=>e=.returned (E 1)/\u=w:=by
 have v:=a.all;go_enter func12,ntmps12;go_wp2_with fail;refine YK (M8) ?_;go_wp2;go_ret;exact⟨C,C⟩
theorem nP(A:Nat->Addr)(m:Int)(w:World)(a:YC w A m)(c:w.cell? ⟨fa,2,none⟩=some (.iface 469<|.pointer<|some<|A 8)):
 CP 12 #[.iface 92<|Vp fa] w λe u=>e=.returned (E 9)/\u=w:=by
 have v:=a.all;go_enter func12,ntmps12;iterate 8 (go_wp2_with fail;refine YK (Lw a c) ?_)
 go_wp2_with fail;refine YK (M9 c) ?_;go_wp2;go_ret;exact⟨C,C⟩
theorem oS(A:Nat->Addr)(m:Int)(w:World)(a:YC w A m):
 CP 12 #[.iface 469<|.pointer<|some<|A 9] w λe u=>e=.returned (E 10)/\u=w:=by
 have v:=a.all;go_enter func12,ntmps12;iterate 9 (go_wp2_with fail;refine YK (JH a) ?_)
 go_wp2_with fail;refine YK (M8) ?_;go_wp2;go_ret;exact⟨C,C⟩
theorem oP(A:Nat->Addr)(m:Int)(w:World)(a:YC w A m)(c:w.cell? ⟨fa,2,none⟩=some (.iface 469<|.pointer<|some<|A 10)):
 CP 12 #[.iface 92<|Vp fa] w λe u=>e=.returned (E 11)/\u=w:=by
 have v:=a.all;go_enter func12,ntmps12;iterate 10 (go_wp2_with fail;refine YK (Lw a c) ?_)
 go_wp2_with fail;refine YK (M9 c) ?_;go_wp2;go_ret;exact⟨C,C⟩
theorem oQ(A:Nat->Addr)(m:Int)(w:World)(a:YC w A m)(c:w.cell? ⟨fa,2,none⟩=some (.iface 469<|.pointer<|some<|A 11)):
 CP 12 #[.iface 92<|Vp fa] w λe u=>e=.returned (E 12)/\u=w:=by
 have v:=a.all;go_enter func12,ntmps12;iterate 11 (go_wp2_with fail;refine YK (Lw a c) ?_)
 go_wp2_with fail;refine YK (M9 c) ?_;go_wp2;go_ret;exact⟨C,C⟩
theorem nQ(A:Nat->Addr)(m:Int)(w:World)(a:YC w A m):
 CP 12 #[.iface 469<|.pointer<|some<|A 12] w λe u=>e=.returned (E 13)/\u=w:=by
 have v:=a.all;go_enter func12,ntmps12;iterate 12 (go_wp2_with fail;refine YK (JH a) ?_)
 go_wp2_with fail;refine YK (M8) ?_;go_wp2;go_ret;exact⟨C,C⟩
theorem vt{t:Value}:
 CP 27 #[.nilIface,t] w λe u=>e=.returned (.bool false)/\u=w:=by
 go_enter func27,ntmps27;go_wp2;go_ret;exact⟨rfl,rfl⟩
def Hy:Array Value->Sem Value:=λargs=>ReflectliteValue.unpack<|args.getD 0<|.tuple #[]
def D3:Array Value→Sem Value:=ReflectliteValue.methodAny (ReflectliteValue.valueError "reflectlite.Value.Type" 0) λt _ _ _=>ReflectliteType.toType t
def Hv:Array Value→Sem Value:=ReflectliteValue.method (ReflectliteValue.valueError "reflectlite.Value.IsNil" 0) ReflectliteValue.isNil
def Hw:Array Value->Sem Value:=ReflectliteType.abiMethod λt=>do pure<|.int .u8<|<-Rtype.kind t
def D1:Array Value->Sem Value:=ReflectliteType.method ReflectliteType.elem
def D2:Array Value→Sem Value:=ReflectliteType.relation "Implements" ReflectliteType.implements_
def Ht:Array Value→Sem Value:=ReflectliteType.relation "AssignableTo" ReflectliteType.assignableTo
def Hu:Array Value→Sem Value:=ReflectliteValue.method (ReflectliteValue.valueError "reflectlite.Value.Elem" 0) ReflectliteValue.elem
theorem zK (args:Array Value)(w:World):(callFunc 55 args).run prog w=((Hy args).run prog w).andThen λv u=>.ok (.value v) u:=
 RU func55 Kr Kr Kr Kr args w
theorem zJ (args:Array Value)(w:World):(callFunc 56 args).run prog w=((D3 args).run prog w).andThen λv u=>.ok (.value v) u:=
 RU func56 Kr Kr Kr Kr args w
theorem zH (args:Array Value)(w:World):(callFunc 57 args).run prog w=((Hv args).run prog w).andThen λv u=>.ok (.value v) u:=
 RU func57 Kr Kr Kr Kr args w
theorem zI (args:Array Value)(w:World):(callFunc 316 args).run prog w=((Hw args).run prog w).andThen λv u=>.ok (.value v) u:=
 RU func316 Kr Kr Kr Kr args w
theorem zF (args:Array Value)(w:World):(callFunc 333 args).run prog w=((D1 args).run prog w).andThen λv u=>.ok (.value v) u:=
 RU func333 Kr Kr Kr Kr args w
theorem zG (args:Array Value)(w:World):(callFunc 334 args).run prog w=((D2 args).run prog w).andThen λv u=>.ok (.value v) u:=
 RU func334 Kr Kr Kr Kr args w
theorem zE (args:Array Value)(w:World):(callFunc 331 args).run prog w=((Ht args).run prog w).andThen λv u=>.ok (.value v) u:=
 RU func331 Kr Kr Kr Kr args w
theorem wb (args:Array Value)(w:World):(callFunc 103 args).run prog w=((Hu args).run prog w).andThen λv u=>.ok (.value v) u:=
 RU func103 Kr Kr Kr Kr args w
theorem we (args:Array Value)(w:World):(callFunc 104 args).run prog w=((ReflectliteValue.set args).run prog w).andThen λv u=>.ok (.value v) u:=
 RU func104 Kr Kr Kr Kr args w
theorem Cb(t:Addr)(w:World):(Hy #[.iface 94<|.pointer<|some t]).run prog w
 =.ok (.agg #[.pointer<|some ⟨20,94,none⟩,Vp w.heap.size,.int .u64 150]) (w.alloc<|.cells #[.pointer<|some t] 94):=Kr
theorem Ca(a:Addr)(w:World):(D3 #[.agg #[.pointer<|some ⟨20,94,none⟩,.pointer<|some a,.int .u64 150]]).run prog w
 =.ok (.iface 242<|.agg #[.pointer<|some ⟨20,94,none⟩]) w:=Kr
theorem Cy (h:Value)(w:World):(Go.method 598 242 (.agg #[h]) "Kind").run Tryz.prog w=.ok (316,h) w:=by kernel_rfl
theorem D9(w:World):(Hw #[.pointer<|some ⟨20,94,none⟩]).run prog w=.ok (.int .u8 22) w:=Kr
theorem D8(w:World):(Hw #[.pointer<|some ⟨20,92,none⟩]).run prog w=.ok (.int .u8 22) w:=Kr
theorem Cw (h:Value)(w:World):(Go.method 598 242 (.agg #[h]) "Elem").run Tryz.prog w=.ok (333,.agg #[h]) w:=by kernel_rfl
theorem Cx (h:Value)(w:World):(Go.method 598 242 (.agg #[h]) "Implements").run Tryz.prog w=.ok (334,.agg #[h]) w:=by kernel_rfl
theorem Cv (h:Value)(w:World):(Go.method 598 242 (.agg #[h]) "AssignableTo").run Tryz.prog w=.ok (331,.agg #[h]) w:=by kernel_rfl
theorem D5(w:World):(D1 #[.agg #[.pointer<|some ⟨20,94,none⟩]]).run prog w=.ok (.iface 242<|.agg #[.pointer<|some ⟨20,92,none⟩]) w:=Kr
theorem D6(w:World):(D2 #[.agg #[.pointer<|some ⟨20,92,none⟩],.iface 242<|.agg #[.pointer<|some ⟨20,37,none⟩]]).run prog w=.ok (.bool true) w:=Kr
theorem tZ(v:Value)(w:World):(ReflectliteType.typeOf #[.iface 92 v]).run prog w=.ok (.iface 242<|.agg #[.pointer<|some ⟨20,92,none⟩]) w:=Kr
theorem tV(w:World):(Ht #[.agg #[.pointer<|some ⟨20,92,none⟩],.iface 242<|.agg #[.pointer<|some ⟨20,92,none⟩]]).run prog w=.ok (.bool true) w:=Kr
theorem tW(w:World):(Ht #[.agg #[.pointer<|some ⟨20,469,none⟩],.iface 242<|.agg #[.pointer<|some ⟨20,92,none⟩]]).run prog w=.ok (.bool false) w:=Kr
theorem se(e:Addr)(w:World):(Hy #[.iface 92<|.pointer<|some e]).run prog w
 =.ok (.agg #[.pointer<|some ⟨20,92,none⟩,Vp w.heap.size,.int .u64 150]) (w.alloc<|.cells #[.pointer<|some e] 92):=Kr
theorem nL(v:Value)(xT:TypeId)(w:World):(Instr.typeAssert (.iface 469 v) xT 254 true).run prog w=.ok (.tuple #[.nilIface,.bool false]) w:=run_typeAssert_lacksB underlying254 Kr Kr v _ w
theorem B8(a:Addr)(w:World):(ReflectliteValue.parts<|.agg #[.pointer<|some ⟨20,94,none⟩,.pointer<|some a,.int .u64 150]).run prog w=.ok (some (94,a,150)) w:=Kr
theorem D7(a p:Addr)(W:World)(c:W.cell? a=some (.pointer<|some p)):
 (Hv #[.agg #[.pointer<|some ⟨20,94,none⟩,.pointer<|some a,.int .u64 150]]).run prog W=.ok (.bool false) W:=by
 refine(congrArg (λq=>Sem.run _ q W)<|show Hv _=(ReflectliteValue.parts (.agg _)>>=λr=>_)from rfl).trans ?_;simp only[KB,B8,Result.andThen];simp[ReflectliteValue.isNil,loadVar,isAgg,underlying,underlying94,c,Result.andThen]
theorem kM(w:World):(Rtype.elem? 94).run prog w=.ok (some 92) w:=Kr
theorem kN(p:Addr)(w:World):(ReflectliteValue.mk 92 p ReflectliteValue.flagAddr).run prog w=.ok (.agg #[.pointer<|some ⟨20,92,none⟩,.pointer<|some p,.int .u64 406]) w:=Kr
theorem tX(a p:Addr)(W:World)(c:W.cell? a=some (.pointer<|some p)):
 (Hu #[.agg #[.pointer<|some ⟨20,94,none⟩,.pointer<|some a,.int .u64 150]]).run prog W
  =.ok (.agg #[.pointer<|some ⟨20,92,none⟩,.pointer<|some p,.int .u64 406]) W:=by
 refine(congrArg (λq=>Sem.run _ q W)<|show Hu _=(ReflectliteValue.parts (.agg _)>>=λr=>_)from rfl).trans ?_;simp only[KB,B8,Result.andThen];simp[ReflectliteValue.elem,loadVar,isAgg,underlying,underlying94,c,Result.andThen,kM,kN]
theorem lh(a:Addr)(w:World):(ReflectliteValue.parts<|.agg #[.pointer<|some ⟨20,92,none⟩,.pointer<|some a,.int .u64 406]).run prog w=.ok (some (92,a,406)) w:=Kr
theorem kO(a:Addr)(w:World):(ReflectliteValue.parts<|.agg #[.pointer<|some ⟨20,92,none⟩,.pointer<|some a,.int .u64 150]).run prog w=.ok (some (92,a,150)) w:=Kr
theorem kL(w:World):(Rtype.directlyAssignable 92 92).run prog w=.ok true w:=Kr
theorem tY(ta b e:Addr)(old:Value)(W:World)(a:W.cell? b=some (.pointer<|some e))(c:W.cell? ta=some old)(d:W.frozen? ta=false):
 (ReflectliteValue.set #[.agg #[.pointer<|some ⟨20,92,none⟩,.pointer<|some ta,.int .u64 406],.agg #[.pointer<|some ⟨20,92,none⟩,.pointer<|some b,.int .u64 150]]).run prog W
  =.ok (.tuple #[]) (W.setCell ta<|.pointer<|some e):=by
 refine(congrArg (λq=>Sem.run _ q W)<|show ReflectliteValue.set _=(ReflectliteValue.parts (.agg _)>>=λr=>ReflectliteValue.parts (.agg _)>>=λs=>_)from rfl).trans ?_;simp only[KB,lh,kO,Result.andThen];simp[ReflectliteValue.flagAddr,loadVar,isAgg,underlying,underlying92,a,Result.andThen,kL,storeVar,Value.cells,storeCells,Addr.add];rw[run_store _ W _ _ _<|by rfl];simp[c,d]
theorem vp{t:Addr}(old:Value)(f:w.cell? ⟨13,0,none⟩=some (.iface 242<|.agg #[.pointer<|some ⟨20,37,none⟩]))(c:w.cell? t=some old)(g:w.frozen? t=false):
 CP 27 #[.iface 92<|.pointer<|some e,.iface 94<|.pointer<|some t] w λev u=>ev=.returned (.bool true)/\u=((((w.alloc<|.cells #[.pointer<|some t] 94).alloc<|.cells #[.pointer<|some ⟨20,94,none⟩,Vp w.heap.size,.int .u64 150] 148).alloc<|.cells #[.pointer<|some ⟨20,94,none⟩,Vp w.heap.size,.int .u64 150] 148).alloc<|.cells #[.pointer<|some e] 92).setCell t (.pointer<|some e):=by
 have p:=zK;have q:=zJ;have r:=zH;have h:=zI;have i:=zF;have j:=zG;have k:=Mh;have l:=zE;have m:=wb;have n:=we;have tO:=tZ;have mA:=Cv;have a25:=tV;have v25:=se;have f6:=Cb;have f7:=Ca;have mK:=Cy;have mE:=Cw;have mI:=Cx;have k27:=D9;have k25:=D8;have e27:=D5;have i25:=D6;have n8:=D7 ⟨w.heap.size,0,none⟩ t ((w.alloc<|.cells #[.pointer<|some t] 94).alloc<|.cells #[.pointer<|some ⟨20,94,none⟩,Vp w.heap.size,.int .u64 150] 148) Sm;have d:13<w.heap.size:=Xi _ _ f;have o:((w.alloc<|.cells #[.pointer<|some t] 94).alloc<|.cells #[.pointer<|some ⟨20,94,none⟩,Vp w.heap.size,.int .u64 150] 148).cell? ⟨13,0,none⟩=some (.iface 242<|.agg #[.pointer<|some ⟨20,37,none⟩]):=by rwa [TN _ _ ⟨13,0,none⟩<|by simp;omega,TN _ _ ⟨13,0,none⟩ d]
 have a:=Xi _ _ c;have el:=tX ⟨w.heap.size,0,none⟩ t (((w.alloc<|.cells #[.pointer<|some t] 94).alloc<|.cells #[.pointer<|some ⟨20,94,none⟩,Vp w.heap.size,.int .u64 150] 148).alloc<|.cells #[.pointer<|some ⟨20,94,none⟩,Vp w.heap.size,.int .u64 150] 148)<|by rw[TN _ _ ⟨w.heap.size,0,none⟩<|by simp;omega];simp
 have st:=tY t ⟨w.heap.size+1+1+1,0,none⟩ e old ((((w.alloc<|.cells #[.pointer<|some t] 94).alloc<|.cells #[.pointer<|some ⟨20,94,none⟩,Vp w.heap.size,.int .u64 150] 148).alloc<|.cells #[.pointer<|some ⟨20,94,none⟩,Vp w.heap.size,.int .u64 150] 148).alloc<|.cells #[.pointer<|some e] 92)
  (by rw[Ry _ _ _ _ Sm];rfl)
  (by rwa [TN _ _ t<|by simp;omega,TN _ _ t<|by simp;omega,TN _ _ t<|by simp;omega,TN _ _ t a])
  (by rwa [Kg _ _ t<|by simp;omega,Kg _ _ t<|by simp;omega,Kg _ _ t<|by simp;omega,Kg _ _ t<|Nat.ne_of_lt a]);go_enter func27,ntmps27;go_wp2;refine Ok 1 ?_;rw[Q4];go_wp2;go_ret;exact⟨rfl,rfl⟩
theorem vq{t:Addr}(c:w.cell? ⟨13,0,none⟩=some (.iface 242<|.agg #[.pointer<|some ⟨20,37,none⟩])):
 CP 27 #[.iface 469<|.pointer<|some e,.iface 94<|.pointer<|some t] w λev u=>ev=.returned (.bool false)/\BW w u:=by
 have k:=zK;have l:=zJ;have m:=zH;have d:=zI;have f:=zF;have g:=zG;have h:=Mh;have i:=zE;have tO:=Tryz.isTypeOf;have mA:=Cv;have a25:=tW;have f6:=Cb;have f7:=Ca;have mK:=Cy;have mE:=Cw;have mI:=Cx;have k27:=D9;have k25:=D8;have e27:=D5;have i25:=D6;have nA:=nL;have uE:=Tryz.noUnwrapE;have vE:=Tryz.noUnwrapsE;have n8:=D7 ⟨w.heap.size,0,none⟩ t ((w.alloc<|.cells #[.pointer<|some t] 94).alloc<|.cells #[.pointer<|some ⟨20,94,none⟩,Vp w.heap.size,.int .u64 150] 148) Sm;have a:13<w.heap.size:=Xi _ _ c;have j:((w.alloc<|.cells #[.pointer<|some t] 94).alloc<|.cells #[.pointer<|some ⟨20,94,none⟩,Vp w.heap.size,.int .u64 150] 148).cell? ⟨13,0,none⟩=some (.iface 242<|.agg #[.pointer<|some ⟨20,37,none⟩]):=by rwa [TN _ _ ⟨13,0,none⟩<|by simp;omega,TN _ _ ⟨13,0,none⟩ a]
 go_enter func27,ntmps27;go_wp2;refine Ok 1 ?_;rw[Q4];go_wp2;go_ret;exact⟨rfl,Yh⟩
theorem GV(w:World):
 CP 13 #[.nilIface] w λe u=>e=.returned (E 0)/\BW w u:=by
 go_enter func13,ntmps13;go_wp2_with fail;refine YK (vt) ?_;go_wp2;go_ret;exact⟨C,Yh⟩
theorem LG(A:Nat->Addr)(m:Int)(w:World)(d:YC w A m):
 CP 13 #[.iface 469<|.pointer<|some a] w λe u=>e=.returned (E 0)/\BW w u:=by
 have f:Below _ w<|w.alloc<|.cells #[.pointer none] 92:=Yc;go_enter func13,ntmps13;go_wp2_with fail;refine(vq (d.alloc _).handle).mono ?_;rintro e u ⟨rfl,g⟩;have c:=f.trans<|g.mono Sm;go_wp2;go_ret;exact⟨C,c⟩
theorem LH(A:Nat->Addr)(m:Int){i:Int}(w:World)(h:YC w A m)(f:w.cell? ⟨fa,1,none⟩=some (E i)):
 CP 13 #[.iface 92<|Vp fa] w λe a=>e=.returned (E i)/\BW w a:=by
 have g:fa<w.heap.size:=Xi _ _ f;go_enter func13,ntmps13;go_wp2_with fail;refine(vp (.pointer none) (h.alloc _).handle Sm Sm).mono ?_;rintro e a ⟨rfl,d⟩;have c:BW w a:=d▸Yh;have c1:a.cell? ⟨w.heap.size,0,none⟩=some (Vp fa):=by
  rw[d];refine Ke _ _ _ (u:=.pointer none) ?_;refine(Below.cell (B:=w.heap.size+1) (w:=w.alloc<|.cells #[.pointer none] 92) ?_<|RA _).trans Sm;exact Yh
 have c2:=(c.cell g).trans f;clear d;go_wp2;go_ret;exact⟨C,c⟩
def TF:List PV->List Value
 |[]=>[]
 |p::l=>p.cells++TF l
structure Vq (w:World)(x:Nd×Nat)(p:PV):Prop where
 k:p.k=if 0<x.2 then 2 else 1
 n:0<x.2->p.n=x.2
 nm:bl p.nm=x.1.name
 cs:ZP w 0 p x.1.kq
structure X8 (w:World)(cb:Nat)(c:Yb)(cv pv gv iv:Value)(l:List PV)(g:List<|Option Addr×Nat×Nat):Prop where
 box:Ya w cb [cv,pv,gv,iv] 69
 cs:w.ownsRow 0 2 1 cv c.jq.length<|c.jq.map<|.int .i64
 ps:w.ownsRow 0 59 8 pv c.jw.length<|TF l
 pl:l.length=c.jw.length
 pk:∀(i:Nat)(x:Nd×Nat)(p:PV),c.jw[i]?=some x->l[i]?=some p->Vq w x p
 gs:w.ownsRow 0 57 1 gv c.jv.length<|g.map λy=>.slice y.1 y.2.1 y.2.2
 gl:g.length=c.jv.length
 gk:∀(i:Nat)(x:List<|LB)(y:Option Addr×Nat×Nat),c.jv[i]?=some x->g[i]?=some y->∃bs:List BA,w.ownsRow 0 9 1 (.slice y.1 y.2.1 y.2.2) bs.length (bs.map .string)/\bs.map bl=x
 is:w.ownsRow 0 110 2 iv c.jz.length<|SS c.jz
theorem ZP.below'{cs:List<|LB×LB×Bool}(h:ZP w 0 p cs)(a:BW w w'):ZP w' 0 p cs:=by
 obtain⟨qs,c,d⟩:=h;exact⟨qs,Ze c a,d⟩
theorem Vq.below{x:Nd×Nat}(h:Vq w x p)(a:BW w w'):Vq w' x p:=⟨h.k,h.n,h.nm,h.cs.below' a⟩
theorem X8.below{cb:Nat}{cv pv gv iv:Value}(h:X8 w cb c cv pv gv iv l g)(a:BW w w'):X8 w' cb c cv pv gv iv l g:=
 ⟨h.box.below a,Ze h.cs a,Ze h.ps a,h.pl,λi x p d e=>(h.pk i x p d e).below a,Ze h.gs a,h.gl,λi x y d e=>by
  obtain⟨bs,f,j⟩:=h.gk i x y d e;exact⟨bs,Ze f a,j⟩,Ze h.is a⟩
theorem gJ{a b:Bool}(h:a=b):Ending.returned (.bool a)=.returned (.bool b):=by rw[h]
def JA(nc np ng ni i op arg:Nat):Bool:=match op with
 |0=>decide<|arg<nc
 |1=>decide<|arg<np
 |2=>decide<|arg<5
 |3=>decide<|arg<4
 |4=>decide<|arg=0
 |9=>decide<|i<arg/\arg<=ni
 |10=>decide<|i<arg/\arg<=ni
 |11=>decide<|arg=0
 |12=>decide<|arg<16
 |13=>decide<|arg<16
 |_=>decide<|arg<ng
theorem gF(c:Yb)(i op arg:Nat):Zy c i (op,arg)=JA c.jq.length c.jw.length c.jv.length c.jz.length i op arg:=rfl
structure ML (w:World)(cb i op arg nc np ngr ni:Nat)(ca pa ga:Option Addr)(cc pc gc ic g:Nat):Prop where
 box:Ya w cb [.slice ca nc cc,.slice pa np pc,.slice ga ngr gc,.slice (some ⟨g,0,none⟩) ni ic] 69
 lt:i<ni
 c0:w.cell? ⟨g,i*2,none⟩=some (E op)
 c1:w.cell? ⟨g,i*2+1,none⟩=some (E arg)
theorem gH(w:World)(cb i op arg nc np ngr ni:Nat)(ca pa ga:Option Addr)(cc pc gc ic g:Nat)(h:ML w cb i op arg nc np ngr ni ca pa ga cc pc gc ic g)(l:op<=13)(k:arg<65536)(c:Yb)(e1:c.jq.length=nc)(e2:c.jw.length=np)(e3:c.jv.length=ngr)(e4:c.jz.length=ni):
 CP 63 #[Vp cb,E i] w λe u=>e=.returned (.bool<|Zy c i (op,arg))/\BW w u:=by
 rw[gF,e1,e2,e3,e4];have p:=I h.box;have m:=h.lt;have c0:=h.c0;have c1:=h.c1;have b0:=h.box.cell 0;have b1:=h.box.cell 1;have b2:=h.box.cell 2;have b3:=h.box.cell 3;simp only[Yf]at b0 b1 b2 b3;have n:=h.box.lt;have f:=Xi _ _ c0;simp only at f;clear e1 e2 e3 e4 h;have o:(i:Int)<ni:=X;have a:(i<arg/\decide ((i:Int)<arg)=true/\(i:Int)<arg)∨(¬i<arg/\decide ((i:Int)<arg)=false/\¬(i:Int)<arg):=by
  by_cases d:i<arg
  .exact Or.inl ⟨d,WI X,X⟩
  .exact Or.inr ⟨d,Wl X,X⟩
 rcases a with⟨d,a,j⟩|⟨d,a,j⟩;all_goals
  rcases(X:op=0∨op=1∨op=2∨op=3∨op=4∨op=5∨op=6∨op=7∨op=8∨op=9∨op=10∨op=11∨op=12∨op=13)with rfl|rfl|rfl|rfl|rfl|rfl|rfl|rfl|rfl|rfl|rfl|rfl|rfl|rfl;all_goals
   go_enter func63,ntmps63;go_wp2;try
    go_quiet (fail);go_wp2
   all_goals
    go_ret;refine⟨gJ ?_,Yh⟩;first
     |(simp only[JA];done)
     |(simp only[JA];rw[Ud];simp;done)
     |(simp only[JA];rw[Ud];simp;omega)
theorem gG(w:World)(cb:Nat)(c:Yb){cv pv gv iv:Value}(h:X8 w cb c cv pv gv iv l g)(i:Nat)(a:i<c.jz.length)(f:∀x∈c.jz,x.1<=13/\x.2<65536):
 CP 63 #[Vp cb,E i] w λe u=>e=.returned (.bool<|Zy c i c.jz[i])/\BW w u:=by
 obtain⟨ca,cc,rfl⟩:=Zd h.cs;obtain⟨pa,pc,rfl⟩:=Zd h.ps;obtain⟨ga,gc,rfl⟩:=Zd h.gs;obtain⟨gi,ic,rfl⟩:=Zm h.is X;have c0:=Zc h.is _ _ (SA c.jz i a).1;have c1:=Zc h.is _ _ (SA c.jz i a).2;have d:=f c.jz[i]<|List.getElem_mem a;exact gH w cb i c.jz[i].1 c.jz[i].2 _ _ _ _ ca pa ga cc pc gc ic gi ⟨h.box,a,c0,c1⟩ d.1 d.2 c C C C C
def Mf(op:Nat):BA:=match op with
 |0=>⟨#[]⟩
 |1=>⟨#[]⟩
 |2=>⟨#[114]⟩
 |3=>⟨#[110,110]⟩
 |4=>⟨#[110]⟩
 |9=>⟨#[]⟩
 |11=>⟨#[97]⟩
 |12=>⟨#[97]⟩
 |13=>⟨#[]⟩
 |_=>⟨#[118]⟩
theorem yw(op:Nat)(a:op<=13):
 CP 64 #[E op] w λe u=>e=.returned (.string<|Mf op)/\u=w:=by
 rcases(X:op=0∨op=1∨op=2∨op=3∨op=4∨op=5∨op=6∨op=7∨op=8∨op=9∨op=10∨op=11∨op=12∨op=13)with rfl|rfl|rfl|rfl|rfl|rfl|rfl|rfl|rfl|rfl|rfl|rfl|rfl|rfl;all_goals
  go_enter func64,ntmps64;go_wp2;go_ret;exact⟨C,C⟩
def kl(k:Nat):UInt8:=match k with
 |1=>115
 |2=>118
 |3=>114
 |_=>45
theorem Fg{x y:Nat}(a:x<=3)(c:y<=3)(h:kl x=kl y):x=y:=by
 rcases(X:x=0∨x=1∨x=2∨x=3)with rfl|rfl|rfl|rfl<;>rcases(X:y=0∨y=1∨y=2∨y=3)with rfl|rfl|rfl|rfl<;>first|rfl|exact absurd h N
def Sq(l:LB):BA:=⟨l.toArray⟩
theorem K4{l:LB}:bl (Sq l)=l:=Ta l
theorem EG(l:LB):(Sq l).size=l.length:=by rw[<-Zb,K4]
def T6(st:List Nat):LB:=(st.map kl).reverse
def Xp(st:List Nat):BA:=Sq<|T6 st
def WO(sl:List Nat):BA:=Sq<|sl.map kl
theorem zg(st:List Nat):(T6 st).length=st.length:=by simp[T6]
theorem S2(st:List Nat):(Xp st).size=st.length:=by unfold Xp;rw[EG,zg]
theorem Ng(sl:List Nat):(WO sl).size=sl.length:=by unfold WO;rw[EG,Yz]
theorem Rl(st:List Nat):bl (Xp st)=T6 st:=K4
theorem Mj(sl:List Nat):bl (WO sl)=sl.map kl:=K4
theorem Cz:∀{x y:List Nat},(∀k∈x,k<=3)->(∀k∈y,k<=3)->x.map kl=y.map kl->x=y
 |[],[],_,_,_=>C
 |[],_::_,_,_,h=>(by cases h)
 |_::_,[],_,_,h=>(by cases h)
 |a::x,b::y,d,e,h=>by
  rw[Wb,Wb]at h;injection h with h1 h2;rw[Fg (d a Sm) (e b Sm) h1,Cz (λk c=>d k<|by simp[c]) (λk c=>e k<|by simp[c]) h2]
theorem GG{x y:List Nat}(a:∀k∈x,k<=3)(c:∀k∈y,k<=3):Xp x=Xp y↔x=y:=by
 constructor
 .intro h;have d:T6 x=T6 y:=by rw[<-Rl,<-Rl,h]
  exact Cz a c<|List.reverse_inj.1 d
 .intro h;rw[h]
theorem Ov(a b:BA):(a.toList==b.toList)=decide (a=b):=by
 by_cases h:a=b
 .subst h;simp
 .rw[Wl h,YB];intro e;exact h<|LS.ZbH<|by rw[<-ZA,<-ZA,e]
theorem fs(st:List Nat)(m:Nat):(T6 st).take (st.length-m)=T6 (st.drop m):=by
 unfold T6;rw[List.take_reverse,Yz,Kz];by_cases h:m<=st.length
 .congr 2;omega
 .rw[Ts<|by rw[Yz];omega,Ts<|by rw[Yz];omega]
theorem fq(m:Nat)(h:m<=st.length):(T6 st).drop (st.length-m)=T6 (st.take m):=by
 unfold T6;rw[List.drop_reverse,Yz,Q3];congr 2;omega
theorem GH(st:List Nat)(m:Nat):(Xp st).extract 0 (st.length-m)=Xp (st.drop m):=LS.ZbH<|by rw[WL,Rl,Rl,PF,fs]
theorem JO{m:Nat}(h:m<=st.length):(Xp st).extract (st.length-m) st.length=Xp (st.take m):=LS.ZbH<|by
 rw[WL,Rl,Rl,Wm<|by rw[zg];exact Yj _,fq m h]
theorem GF(x y:List Nat):Xp x++Xp y=Xp (y++x):=LS.ZbH<|by rw[PT,Rl,Rl,Rl];simp[T6]
def UY(a b:UInt8):Bool:=a==97||(a==b||(a==110&&b !=114))
def VU(s w:BA):Bool:=decide (w.size<=s.size)&&(List.range w.size).all λj=>UY ((bl w).getD j 0)<|(bl s).getD (s.size-w.size+j) 0
def F8(op:Nat)(st:List Nat):Bool:=match op with
 |0=>true
 |1=>true
 |2=>match st with
  |k::_=>decide<|k=3
  |[]=>false
 |3=>match st with
  |y::k::_=>ZO k&&ZO y
  |_=>false
 |4=>match st with
  |k::_=>ZO k
  |[]=>false
 |9=>true
 |11=>match st with
  |_::_=>true
  |[]=>false
 |12=>match st with
  |_::_=>true
  |[]=>false
 |13=>true
 |_=>match st with
  |k::_=>decide<|k=2
  |[]=>false
theorem yK(k:Nat)(r:List Nat):(bl<|Xp<|k::r).getD ((Xp<|k::r).size-1+0) 0=kl k:=by
 rw[Rl,S2];simp[T6,Y0]
theorem yL(y k:Nat)(r:List Nat):(bl<|Xp<|y::k::r).getD ((Xp<|y::k::r).size-2+0) 0=kl k:=by
 rw[Rl,S2];simp[T6,Y0]
theorem yM(y k:Nat)(r:List Nat):(bl<|Xp<|y::k::r).getD ((Xp<|y::k::r).size-2+1) 0=kl y:=by
 rw[Rl,S2];simp[T6,Y0]
theorem sB{s w:BA}(h:w.size=0):VU s w=true:=by unfold VU;rw[h];rfl
theorem Cf{w:BA}(h:0<w.size):VU (Xp []) w=false:=by
 unfold VU;rw[show(Xp _).size=0 from C,Wl X];rfl
theorem Jb(a:UInt8)(k:Nat)(r:List Nat):VU (Xp<|k::r) ⟨#[a]⟩=UY a (kl k):=by
 unfold VU;rw[show(⟨#[a]⟩:BA).size=1 from C,WI<|by rw[S2,Y1];omega,show List.range 1=[0]from C];simp only[Im,List.all_nil,Ol,Il];rw[yK];rfl
theorem Ea(k:Nat)(h:k<=3):UY 114 (kl k)=decide (k=3):=by
 rcases(X:k=0∨k=1∨k=2∨k=3)with rfl|rfl|rfl|rfl<;>rfl
theorem Eb(k:Nat)(h:k<=3):UY 118 (kl k)=decide (k=2):=by
 rcases(X:k=0∨k=1∨k=2∨k=3)with rfl|rfl|rfl|rfl<;>rfl
theorem NP(k:Nat)(h:k<=3)(a:k≠0):UY 110 (kl k)=ZO k:=by
 rcases(X:k=1∨k=2∨k=3)with rfl|rfl|rfl<;>rfl
theorem F9{b:UInt8}:UY 97 b=true:=rfl
theorem Ce(e:op<=13)(c:∀k∈st,k≠0/\k<=3):VU (Xp st) (Mf op)=F8 op st:=by
 rcases(X:op=0∨op=1∨op=2∨op=3∨op=4∨op=5∨op=6∨op=7∨op=8∨op=9∨op=10∨op=11∨op=12∨op=13)with rfl|rfl|rfl|rfl|rfl|rfl|rfl|rfl|rfl|rfl|rfl|rfl|rfl|rfl;case inr.inr.inr.inl=>
  cases st with
  |nil=>exact Cf N
  |cons y r=>
   cases r with
   |nil=>rfl
   |cons k r=>
    show VU (Xp<|y::k::r) ⟨#[110,110]⟩=(ZO k&&ZO y);unfold VU;rw[show(⟨#[110,110]⟩:BA).size=2 from C,WI<|by rw[S2,Y1,Y1];omega,show List.range 2=[0,1]from C];simp only[Im,List.all_nil,Ol,Il];rw[yL,yM];have a:=c k Sm;have d:=c y Sm;show(UY 110 (kl k)&&UY 110 (kl y))=_;rw[NP k a.2 a.1,NP y d.2 d.1]
 all_goals first
  |exact sB C
  |(cases st with
   |nil=>exact Cf N
   |cons k r=>
    have a:=c k Sm;first
     |exact(Jb 114 k r).trans<|Ea k a.2
     |exact(Jb 110 k r).trans<|NP k a.2 a.1
     |exact(Jb 97 k r).trans<|F9
     |exact(Jb 118 k r).trans<|Eb k a.2)
def Rs(c:Yb)(op arg:Nat)(took sl:BA):BA:=match op with
 |0=>⟨#[115]⟩
 |1=>if(c.jw[arg]?.map VF).getD 0=3 then⟨#[114]⟩else⟨#[118]⟩
 |3=>if took=⟨#[115,115]⟩then⟨#[115]⟩else⟨#[118]⟩
 |4=>took
 |9=>⟨#[]⟩
 |10=>took
 |11=>⟨#[]⟩
 |12=>⟨#[]⟩
 |13=>sl.extract arg<|arg+1
 |_=>⟨#[118]⟩
def S8(op arg:Nat)(took sl:BA):BA:=if op=12 then sl.extract 0 arg++took++sl.extract (arg+1) sl.size else sl
theorem lT(c:Yb)(h:arg<c.jw.length):(c.jw[arg]?.map VF).getD 0=3∨(c.jw[arg]?.map VF).getD 0=2:=by
 rw[List.getElem?_eq_getElem h];show VF _=3∨VF _=2;unfold VF;split<;>simp
theorem ee{a:Nat}(h:a<sl.length):(WO sl).extract a (a+1)=Xp [sl.getD a 0]:=LS.ZbH<|by
 rw[WL,Mj,Rl,Ri];rw[show a+1-a=1 by omega,List.drop_eq_getElem_cons<|by rwa [Yz]];simp[T6,Y0,h]
theorem ed{a:Nat}(h:a<sl.length):(bl<|WO sl).getD a 0=kl (sl.getD a 0):=by
 rw[Mj];simp[Y0,h]
theorem ef{a:Nat}(k:Nat)(h:a<sl.length):(WO sl).extract 0 a++Xp [k]++(WO sl).extract (a+1) (WO sl).size=WO (sl.set a k):=LS.ZbH<|by
 rw[PT,PT,WL,WL,Rl,Mj,Mj,Ng,PF,Wm (i:=sl.length)<|by rw[Yz];exact Yj _];rw[List.set_eq_take_append_cons_drop,Ye h,Y9,Wb,Q3,Kz];simp[T6]
structure Rd (c:Yb)(op arg:Nat)(st sl:List Nat)(S L W:BA):Prop where
 wle:W.size<=2
 no:VU S W=false->Zr c (op,arg) st sl=none
 le:VU S W=true->W.size<=S.size
 ld:op=13->arg<L.size
 no2:op=13->(bl L).getD arg 0=45->Zr c (op,arg) st sl=none
 big:VU S W=true->(op=13->¬(bl L).getD arg 0=45)->64<(S.extract 0 (S.size-W.size)++Rs c op arg (S.extract (S.size-W.size) S.size) L).size->Zr c (op,arg) st sl=none
 ok:VU S W=true->(op=13->¬(bl L).getD arg 0=45)->¬64<(S.extract 0 (S.size-W.size)++Rs c op arg (S.extract (S.size-W.size) S.size) L).size->∃st' sl',Zr c (op,arg) st sl=some (st',sl')/\S.extract 0 (S.size-W.size)++Rs c op arg (S.extract (S.size-W.size) S.size) L=Xp st'/\S8 op arg (S.extract (S.size-W.size) S.size) L=WO sl'
theorem yu:(Mf op).size<=2:=by unfold Mf;split<;>decide
theorem Hz{S:BA}(h:VU S W=true):W.size<=S.size:=by
 unfold VU at h;rw[Vu]at h;exact Rw h.1
theorem ud(p:W.size<=2)(q:VU (Xp st) W=false->Zr c (op,arg) st sl=none)
 (g:op=13->arg<sl.length/\(sl.getD arg 0=0->Zr c (op,arg) st sl=none))
 (h:VU (Xp st) W=true->(op=13->sl.getD arg 0≠0)->∃P sl',Rs c op arg (Xp<|st.take W.size) (WO sl)=Xp P/\S8 op arg (Xp<|st.take W.size) (WO sl)=WO sl'/\Zr c (op,arg) st sl=if 64<(P++st.drop W.size).length then none else some (P++st.drop W.size,sl'))
 (r:∀k∈sl,k<=3):
 Rd c op arg st sl (Xp st) (WO sl) W:=by
 have l:op=13->((bl _).getD _ 0=45↔sl.getD _ 0=0):=λe=>by
  rw[ed (g e).1];have d:sl.getD arg 0<=3:=Y0▸List.getElem?_eq_getElem (g e).1▸r _ (List.getElem_mem _);constructor
  .intro i;exact Fg d N i
  .intro i;rw[i];rfl
 refine⟨p,q,Hz,λe=>by rw[Ng];exact(g e).1,λe f=>(g e).2<|(l e).1 f,λf m d=>?_,λf m d=>?_⟩
 .obtain⟨P,sl',j,_,n⟩:=h f λe o=>m e<|(l e).2 o;have a:=Hz f;rw[S2]at a;rw[S2,GH,JO a,j,GF,S2]at d;rw[n,Ye d]
 .obtain⟨P,sl',j,i,n⟩:=h f λe o=>m e<|(l e).2 o;have a:=Hz f;rw[S2]at a;rw[S2,GH,JO a,j,GF,S2]at d;refine⟨P++st.drop W.size,sl',?_,?_,?_⟩
  .rw[n,Yd d]
  .rw[S2,GH,JO a,j,GF]
  .rw[S2,JO a,i]
theorem P4{k:Nat}(h:st.length<=64):Z4 k st sl=if 64<([k]++st).length then none else some ([k]++st,sl):=by
 unfold Z4;by_cases a:st.length=64
 .rw[Ye a,Ye<|by simp;omega]
 .rw[Yd a,Yd<|by simp;omega];rfl
theorem Hc(h:st.length<=64):some (st,sl)=if 64<([]++st).length then none else some ([]++st,sl):=by
 rw[Yd<|by simp;omega];rfl
theorem ue(c:Yb)(i op arg:Nat)(st sl:List Nat)(o:op<=13)(l:Zy c i (op,arg)=true)(d:st.length<=64)(q:∀k∈st,k≠0/\k<=3)(w:sl.length=16)(t:∀k∈sl,k<=3):
 Rd c op arg st sl (Xp st) (WO sl)<|Mf op:=by
 refine ud (yu) ?_ ?_ ?_ t
 .intro a;rw[Ce o q]at a;rcases(X:(op=0∨op=1∨op=9∨op=13)∨op=2∨op=3∨op=4∨(op=11∨op=12)∨(op=5∨op=6∨op=7∨op=8∨op=10))with e|rfl|rfl|rfl|e|e
  .rcases e with rfl|rfl|rfl|rfl<;>cases a
  .cases st with
   |nil=>rfl
   |cons k r=>
    have a:=Ki a;simp only[Zr];rw[Yd a]
  .cases st with
   |nil=>rfl
   |cons y r=>
    cases r with
    |nil=>rfl
    |cons k r=>
     have a:(ZO k&&ZO y)=false:=a;show(if(ZO k&&ZO y)=true then _ else none)=none;rw[a];rfl
  .cases st with
   |nil=>rfl
   |cons k r=>
    have a:ZO k=false:=a;show(if ZO k=true then _ else none)=none;rw[a];rfl
  .cases st with
   |nil=>rcases e with rfl|rfl<;>rfl
   |cons k r=>rcases e with rfl|rfl<;>cases a
  .cases st with
   |nil=>rcases e with rfl|rfl|rfl|rfl|rfl<;>rfl
   |cons k r=>
    have s:¬k=2:=by rcases e with rfl|rfl|rfl|rfl|rfl<;>exact Ki a
    rcases e with rfl|rfl|rfl|rfl|rfl<;>(show(if k=2 then _ else none)=none;rw[Yd s])
 .rintro rfl;have m:arg<16:=by simpa [Zy]using l
  refine⟨X,λe=>?_⟩;simp only[Zr];rw[Ye e]
 .intro a p;rw[Ce o q]at a;rcases(X:op=0∨op=1∨op=2∨op=3∨op=4∨op=9∨op=10∨op=11∨op=12∨op=13∨(op=5∨op=6∨op=7∨op=8))with rfl|rfl|rfl|rfl|rfl|rfl|rfl|rfl|rfl|rfl|g
  .exact⟨[1],sl,C,C,P4 d⟩
  .have m:arg<c.jw.length:=by simpa [Zy]using l
   rcases lT c m with n|n
   .exact⟨[3],sl,by show(if _ then _ else _)=_;rw[Ye n];rfl,C,by
    simp only[Zr];rw[n];exact P4 d⟩
   .exact⟨[2],sl,by show(if _ then _ else _)=_;rw[Yd X];rfl,C,by
    simp only[Zr];rw[n];exact P4 d⟩
  .cases st with
   |nil=>cases a
   |cons k r=>
    have f:=Rw a;exact⟨[2],sl,C,C,by
     simp only[Zr];rw[Ye f];exact P4<|by simp only[Y1]at d;omega⟩
  .cases st with
   |nil=>cases a
   |cons y r=>
    cases r with
    |nil=>cases a
    |cons k r=>
     have a:(ZO k&&ZO y)=true:=a;have h:=a;rw[Vu]at h;have u:k=1∨k=2:=by simpa [ZO]using h.1
     have v:y=1∨y=2:=by simpa [ZO]using h.2
     have j:r.length<=64:=by simp only[Y1]at d;omega
     refine⟨[max k y],sl,?_,C,?_⟩
     .rcases u with rfl|rfl<;>rcases v with rfl|rfl<;>rfl
     .simp only[Zr];rw[Ye a];exact P4 j
  .cases st with
   |nil=>cases a
   |cons k r=>
    have h:ZO k=true:=a;exact⟨[k],sl,C,C,by
     simp only[Zr];rw[Ye h];exact P4<|by simp only[Y1]at d;omega⟩
  .exact⟨[],sl,C,C,Hc d⟩
  .cases st with
   |nil=>cases a
   |cons k r=>
    have f:=Rw a;subst f;exact⟨[2],sl,C,C,by
     simp only[Zr];exact P4<|by simp only[Y1]at d;omega⟩
  .cases st with
   |nil=>cases a
   |cons k r=>exact⟨[],sl,C,C,Hc<|by simp only[Y1]at d;omega⟩
  .cases st with
   |nil=>cases a
   |cons k r=>
    have m:arg<16:=by simpa [Zy]using l
    exact⟨[],sl.set _ k,C,by
     unfold S8;rw[Ye C];exact ef k X,Hc<|by simp only[Y1]at d;omega⟩
  .have m:arg<16:=by simpa [Zy]using l
   have e:=p C;exact⟨[sl.getD _ 0],sl,ee X,C,by
    simp only[Zr];rw[Yd e];exact P4 d⟩
  .cases st with
   |nil=>rcases g with rfl|rfl|rfl|rfl<;>cases a
   |cons k r=>
    have f:k=2:=by rcases g with rfl|rfl|rfl|rfl<;>exact Rw a
    subst f;have j:r.length<=64:=by simp only[Y1]at d;omega
    rcases g with rfl|rfl|rfl|rfl<;>exact⟨[2],sl,C,C,by
     simp only[Zr];exact P4 j⟩
theorem fC{x:Nat×Nat}{st' sl':List Nat}(a:∀k∈st,k<=3)(e:∀k∈sl,k<=3)(h:Zr c x st sl=some (st',sl')):(∀k∈st',k<=3)/\(∀k∈sl',k<=3):=by
 have push:∀{k:Nat}{r s:List _},k<=3->(∀k∈r,k<=3)->(∀k∈s,k<=3)->Z4 k r s=some (st',sl')->(∀k∈st',k<=3)/\(∀k∈sl',k<=3):=λ{k r s} d g i h=>by
  unfold Z4 at h;split at h
  .cases h
  .injection h with h;injection h with e1 e2;subst e1;subst e2;exact⟨λx f=>by
   rcases X0.1 f with rfl|f
   .exact d
   .exact g x f,i⟩
 have keep:∀{r s:List _},(∀k∈r,k<=3)->(∀k∈s,k<=3)->some (r,s)=some (st',sl')->(∀k∈st',k<=3)/\(∀k∈sl',k<=3):=λ{r s} g i h=>by
  injection h with h;injection h with e1 e2;subst e1;subst e2;exact⟨g,i⟩
 obtain⟨op,arg⟩:=x;unfold Zr at h;simp only at h;split at h
 .exact push N a e h
 .refine push ?_ a e h;cases c.jw[arg]? with
  |none=>decide
  |some y=>show VF y<=3;unfold VF;split<;>decide
 .split at h
  .split at h
   .exact push N (λk d=>a k<|by simp[d]) e h
   .cases h
  .cases h
 .split at h
  .rename_i y k r;split at h
   .exact push (by have:=a y Sm;have:=a k Sm;omega) (λk d=>a k<|by simp[d]) e h
   .cases h
  .cases h
 .split at h
  .rename_i k r;split at h
   .exact push (a k Sm) (λk d=>a k<|by simp[d]) e h
   .cases h
  .cases h
 .exact keep a e h
 .split at h
  .exact keep (λk d=>a k<|by simp[d]) e h
  .cases h
 .split at h
  .rename_i k r;exact keep (λk d=>a k<|by simp[d]) (λx f=>by
   rcases NU f with f|f
   .exact e x f
   .rw[f];exact a k Sm) h
  .cases h
 .split at h
  .cases h
  .refine push ?_ a e h;rw[Y0];cases j:sl[arg]? with
   |none=>decide
   |some k=>exact e k<|QY j
 .split at h
  .split at h
   .exact push N (λk d=>a k<|by simp[d]) e h
   .cases h
  .cases h

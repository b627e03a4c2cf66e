/- Parts. -/
import Derived.Test.YtkodhpilkaihjaaGreatDoorF00
import Derived.LaidEql
import Derived.Stop.Asserts
import Derived.RowKitTokens
set_option maxHeartbeats 4000000
namespace Go.Proofs.YtkodhpilkaihjaaGreatDoor
open Go.RowKit Go.Extern.Stop Go.Stop Go.Extern LS
def Zkr : Array Value → Sem Value := ReflectliteType.method fun t => do Rtype.noPackHeld "Comparable" t; pure (.bool (← typeInfo t).comparable)
theorem Tryz.isTypeOf(v:Value)(w:World):(Extern.ReflectliteType.typeOf #[.iface 491 v]).run Tryz.prog w=.ok (.iface 316 (.agg #[.pointer (some ⟨20,491,none⟩)])) w:=by kernel_rfl
theorem Tryz.isComparable(w:World):(Zkr #[.agg #[.pointer (some ⟨20,491,none⟩)]]).run Tryz.prog w=.ok (.bool true) w:=by kernel_rfl
theorem Tryz.isMethodComparable (v : Value) (w : World) : (Go.method 620 316 v "Comparable").run Tryz.prog w = .ok (353, v) w := by kernel_rfl
theorem Tryz.isComp:(Tryz.prog.info? 491).map (·.comparable)=some true:=by kernel_rfl
theorem Tryz.isSize:(Tryz.prog.info? 509).map (·.size)=some 1:=by kernel_rfl
theorem Tryz.noIsE(v:Value)(xT:TypeId)(w:World):(Instr.typeAssert (.iface 491 v) xT 318 true).run Tryz.prog w=.ok (.tuple #[.nilIface,.bool false]) w:=run_typeAssert_lacksB Tryz.underlying318 (by kernel_rfl) (by kernel_rfl) v xT w
theorem Tryz.noUnwrapE(v:Value)(xT:TypeId)(w:World):(Instr.typeAssert (.iface 491 v) xT 321 true).run Tryz.prog w=.ok (.tuple #[.nilIface,.bool false]) w:=run_typeAssert_lacksB Tryz.underlying321 (by kernel_rfl) (by kernel_rfl) v xT w
theorem Tryz.noUnwrapsE(v:Value)(xT:TypeId)(w:World):(Instr.typeAssert (.iface 491 v) xT 322 true).run Tryz.prog w=.ok (.tuple #[.nilIface,.bool false]) w:=run_typeAssert_lacksB Tryz.underlying322 (by kernel_rfl) (by kernel_rfl) v xT w
theorem Tryz.noIsW(v:Value)(xT:TypeId)(w:World):(Instr.typeAssert (.iface 115 v) xT 318 true).run Tryz.prog w=.ok (.tuple #[.nilIface,.bool false]) w:=run_typeAssert_lacksB Tryz.underlying318 (by kernel_rfl) (by kernel_rfl) v xT w
theorem Tryz.hasUnwrapW(v:Value)(xT:TypeId)(w:World):(Instr.typeAssert (.iface 115 v) xT 321 true).run Tryz.prog w=.ok (.tuple #[.iface 115 v,.bool true]) w:=run_typeAssert_hasB Tryz.underlying321 (by kernel_rfl) v xT w
theorem Tryz.methodUnwrap (v : Value) (w : World) : (Go.method 620 115 v "Unwrap").run Tryz.prog w = .ok (340, v) w := by kernel_rfl
theorem ZfJ (args : Array Value) (w : World) : (callFunc 82 args).run Tryz.prog w = ((ReflectliteType.typeOf args).run Tryz.prog w).andThen fun v w' => .ok (.value v) w' :=
  run_callFunc_extern Tryz.func82 (by kernel_rfl) (by kernel_rfl) (by kernel_rfl) (by kernel_rfl) args w
theorem ZhL (args : Array Value) (w : World) : (callFunc 353 args).run Tryz.prog w = ((Zkr args).run Tryz.prog w).andThen fun v w' => .ok (.value v) w' :=
  run_callFunc_extern Tryz.func353 (by kernel_rfl) (by kernel_rfl) (by kernel_rfl) (by kernel_rfl) args w
theorem Zfl(a:Addr)(w:World) :
  Calls Tryz.prog 40 #[.iface 491 (.pointer (some a)),.iface 491 (.pointer (some a))] w fun e w'=>e=.returned (.bool true)/\w'=w:=by
 obtain⟨i,hi,hcmp⟩:=Option.map_eq_some_iff.1 Tryz.isComp
 obtain⟨j,hj,hjs⟩:=Option.map_eq_some_iff.1 Tryz.isSize
 have h8:=ZfJ
 have h32:=ZhL
 have tT:=Tryz.isTypeOf
 have cT:=Tryz.isComparable
 have mR:=Tryz.isMethodComparable
 have heq:=run_eql_iface_ptr_same (P:=Tryz.prog) w a Tryz.underlying60 Tryz.underlying491 hi hcmp hj
 go_enter Tryz.func40,Tryz.ntmps40
 go_wp2
 refine wp_loop_rounds 1 ?_
 rw[rounds_succ]
 go_wp2
 go_ret
 exact⟨rfl,rfl⟩
theorem Zdc(b:Addr)(w:World) :
  Calls Tryz.prog 40 #[.nilIface,.iface 491 (.pointer (some b))] w fun e w'=>e=.returned (.bool false)/\w'=w:=by
 have hn:=run_eql_iface_nil_left (P:=Tryz.prog) w 491 (.pointer (some b)) Tryz.underlying60
 go_enter Tryz.func40,Tryz.ntmps40
 go_wp2
 go_ret
 exact⟨rfl,rfl⟩
theorem ZT(a b:Addr)(ca cb:Array Value)(ta tb:TypeId)(w:World)(hne:a≠b)(ha:w.heap[a.block]?=some (.cells ca ta (0,0)))(hb:w.heap[b.block]?=some (.cells cb tb (0,0))) :
  Calls Tryz.prog 40 #[.iface 491 (.pointer (some a)),.iface 491 (.pointer (some b))] w fun e w'=>e=.returned (.bool false)/\w'=w:=by
 obtain⟨i,hi,hcmp⟩:=Option.map_eq_some_iff.1 Tryz.isComp
 obtain⟨j,hj,hjs⟩:=Option.map_eq_some_iff.1 Tryz.isSize
 have h8:=ZfJ
 have h32:=ZhL
 have tT:=Tryz.isTypeOf
 have cT:=Tryz.isComparable
 have mR:=Tryz.isMethodComparable
 have nE:=Tryz.noIsE
 have uE:=Tryz.noUnwrapE
 have vE:=Tryz.noUnwrapsE
 have nW:=Tryz.noIsW
 have uW:=Tryz.hasUnwrapW
 have mU:=Tryz.methodUnwrap
 have heq:=run_eql_iface_ptr_other (P:=Tryz.prog) w Tryz.underlying60 Tryz.underlying491 hi hcmp hj (by rw[hjs];decide) hne ha hb
 go_enter Tryz.func40,Tryz.ntmps40
 go_wp2
 refine wp_loop_rounds 1 ?_
 rw[rounds_succ]
 go_wp2
 go_ret
 exact⟨rfl,rfl⟩
theorem ZeT(pb:Nat)(b:Addr)(w:World)(h1:w.cell? ⟨pb,2,none⟩=some (.iface 491 (.pointer (some b)))) :
  Calls Tryz.prog 40 #[.iface 115 (.pointer (some ⟨pb,0,none⟩)),.iface 491 (.pointer (some b))] w fun e w'=>e=.returned (.bool true)/\w'=w:=by
 obtain⟨i,hi,hcmp⟩:=Option.map_eq_some_iff.1 Tryz.isComp
 obtain⟨j,hj,hjs⟩:=Option.map_eq_some_iff.1 Tryz.isSize
 have h8:=ZfJ
 have h32:=ZhL
 have tT:=Tryz.isTypeOf
 have cT:=Tryz.isComparable
 have mR:=Tryz.isMethodComparable
 have nE:=Tryz.noIsE
 have uE:=Tryz.noUnwrapE
 have vE:=Tryz.noUnwrapsE
 have nW:=Tryz.noIsW
 have uW:=Tryz.hasUnwrapW
 have mU:=Tryz.methodUnwrap
 have heq:=run_eql_iface_ptr_same (P:=Tryz.prog) w b Tryz.underlying60 Tryz.underlying491 hi hcmp hj
 have hty:=run_eql_iface_types (P:=Tryz.prog) 115 491 (.pointer (some ⟨pb,0,none⟩)) (.pointer (some b)) Tryz.underlying60 (by decide) w
 go_enter Tryz.func40,Tryz.ntmps40
 go_wp2
 refine wp_loop_rounds 2 ?_
 rw[rounds_succ]
 go_wp2
 rw[rounds_succ]
 go_wp2
 go_ret
 exact⟨rfl,rfl⟩
theorem ZJ(pb:Nat)(b a:Addr)(ca cb:Array Value)(ta tb:TypeId)(w:World)(h1:w.cell? ⟨pb,2,none⟩=some (.iface 491 (.pointer (some a))))(hne:a≠b)(ha:w.heap[a.block]?=some (.cells ca ta (0,0)))(hb:w.heap[b.block]?=some (.cells cb tb (0,0))) :
  Calls Tryz.prog 40 #[.iface 115 (.pointer (some ⟨pb,0,none⟩)),.iface 491 (.pointer (some b))] w fun e w'=>e=.returned (.bool false)/\w'=w:=by
 obtain⟨i,hi,hcmp⟩:=Option.map_eq_some_iff.1 Tryz.isComp
 obtain⟨j,hj,hjs⟩:=Option.map_eq_some_iff.1 Tryz.isSize
 have h8:=ZfJ
 have h32:=ZhL
 have tT:=Tryz.isTypeOf
 have cT:=Tryz.isComparable
 have mR:=Tryz.isMethodComparable
 have nE:=Tryz.noIsE
 have uE:=Tryz.noUnwrapE
 have vE:=Tryz.noUnwrapsE
 have nW:=Tryz.noIsW
 have uW:=Tryz.hasUnwrapW
 have mU:=Tryz.methodUnwrap
 have heq:=run_eql_iface_ptr_other (P:=Tryz.prog) w Tryz.underlying60 Tryz.underlying491 hi hcmp hj (by rw[hjs];decide) hne ha hb
 have hty:=run_eql_iface_types (P:=Tryz.prog) 115 491 (.pointer (some ⟨pb,0,none⟩)) (.pointer (some b)) Tryz.underlying60 (by decide) w
 go_enter Tryz.func40,Tryz.ntmps40
 go_wp2
 refine wp_loop_rounds 2 ?_
 rw[rounds_succ]
 go_wp2
 rw[rounds_succ]
 go_wp2
 go_ret
 exact⟨rfl,rfl⟩
theorem ZnL(t:Value)(w:World) :
  Calls Tryz.prog 41 #[.nilIface,t] w fun e w'=>e=.returned (.bool false)/\w'=w:=by
 go_enter Tryz.func41,Tryz.ntmps41
 go_wp2
 go_ret
 exact⟨rfl,rfl⟩
def Zio:Array Value->Sem Value:=fun args=>ReflectliteValue.unpack (args.getD 0 (.tuple #[]))
def Zku : Array Value → Sem Value := ReflectliteValue.methodAny (ReflectliteValue.valueError "reflectlite.Value.Type" 0) fun t _ _ _ => ReflectliteType.toType t
def Zim : Array Value → Sem Value := ReflectliteValue.method (ReflectliteValue.valueError "reflectlite.Value.IsNil" 0) ReflectliteValue.isNil
def Zin:Array Value->Sem Value:=ReflectliteType.abiMethod fun t=>do pure (.int .u8 (<-Rtype.kind t))
def Zks:Array Value->Sem Value:=ReflectliteType.method ReflectliteType.elem
def Zkt : Array Value → Sem Value := ReflectliteType.relation "Implements" ReflectliteType.implements_
def Zik : Array Value → Sem Value := ReflectliteType.relation "AssignableTo" ReflectliteType.assignableTo
def Zil : Array Value → Sem Value := ReflectliteValue.method (ReflectliteValue.valueError "reflectlite.Value.Elem" 0) ReflectliteValue.elem
theorem Znv (args : Array Value) (w : World) : (callFunc 84 args).run Tryz.prog w = ((Zio args).run Tryz.prog w).andThen fun v w' => .ok (.value v) w' :=
  run_callFunc_extern Tryz.func84 (by kernel_rfl) (by kernel_rfl) (by kernel_rfl) (by kernel_rfl) args w
theorem Znu (args : Array Value) (w : World) : (callFunc 85 args).run Tryz.prog w = ((Zku args).run Tryz.prog w).andThen fun v w' => .ok (.value v) w' :=
  run_callFunc_extern Tryz.func85 (by kernel_rfl) (by kernel_rfl) (by kernel_rfl) (by kernel_rfl) args w
theorem Zns (args : Array Value) (w : World) : (callFunc 86 args).run Tryz.prog w = ((Zim args).run Tryz.prog w).andThen fun v w' => .ok (.value v) w' :=
  run_callFunc_extern Tryz.func86 (by kernel_rfl) (by kernel_rfl) (by kernel_rfl) (by kernel_rfl) args w
theorem Znt (args : Array Value) (w : World) : (callFunc 336 args).run Tryz.prog w = ((Zin args).run Tryz.prog w).andThen fun v w' => .ok (.value v) w' :=
  run_callFunc_extern Tryz.func336 (by kernel_rfl) (by kernel_rfl) (by kernel_rfl) (by kernel_rfl) args w
theorem Znq (args : Array Value) (w : World) : (callFunc 354 args).run Tryz.prog w = ((Zks args).run Tryz.prog w).andThen fun v w' => .ok (.value v) w' :=
  run_callFunc_extern Tryz.func354 (by kernel_rfl) (by kernel_rfl) (by kernel_rfl) (by kernel_rfl) args w
theorem Znr (args : Array Value) (w : World) : (callFunc 355 args).run Tryz.prog w = ((Zkt args).run Tryz.prog w).andThen fun v w' => .ok (.value v) w' :=
  run_callFunc_extern Tryz.func355 (by kernel_rfl) (by kernel_rfl) (by kernel_rfl) (by kernel_rfl) args w
theorem Znp (args : Array Value) (w : World) : (callFunc 352 args).run Tryz.prog w = ((Zik args).run Tryz.prog w).andThen fun v w' => .ok (.value v) w' :=
  run_callFunc_extern Tryz.func352 (by kernel_rfl) (by kernel_rfl) (by kernel_rfl) (by kernel_rfl) args w
theorem Zwj (args : Array Value) (w : World) : (callFunc 150 args).run Tryz.prog w = ((Zil args).run Tryz.prog w).andThen fun v w' => .ok (.value v) w' :=
  run_callFunc_extern Tryz.func150 (by kernel_rfl) (by kernel_rfl) (by kernel_rfl) (by kernel_rfl) args w
theorem Zwk (args : Array Value) (w : World) : (callFunc 151 args).run Tryz.prog w = ((ReflectliteValue.set args).run Tryz.prog w).andThen fun v w' => .ok (.value v) w' :=
  run_callFunc_extern Tryz.func151 (by kernel_rfl) (by kernel_rfl) (by kernel_rfl) (by kernel_rfl) args w
theorem ZkD(t:Addr)(w:World):(Zio #[.iface 117 (.pointer (some t))]).run Tryz.prog w
  = .ok (.agg #[.pointer (some ⟨20,117,none⟩),.pointer (some ⟨w.heap.size,0,none⟩),.int .u64 150]) (w.alloc (.cells #[.pointer (some t)] 117)):=by kernel_rfl
theorem ZkC(a:Addr)(w:World):(Zku #[.agg #[.pointer (some ⟨20,117,none⟩),.pointer (some a),.int .u64 150]]).run Tryz.prog w
  = .ok (.iface 316 (.agg #[.pointer (some ⟨20,117,none⟩)])) w:=by kernel_rfl
theorem Zlq (h : Value) (w : World) : (Go.method 620 316 (.agg #[h]) "Kind").run Tryz.prog w = .ok (336, h) w := by kernel_rfl
theorem ZkB(w:World):(Zin #[.pointer (some ⟨20,117,none⟩)]).run Tryz.prog w=.ok (.int .u8 22) w:=by kernel_rfl
theorem ZkA(w:World):(Zin #[.pointer (some ⟨20,115,none⟩)]).run Tryz.prog w=.ok (.int .u8 22) w:=by kernel_rfl
theorem Zlo (h : Value) (w : World) : (Go.method 620 316 (.agg #[h]) "Elem").run Tryz.prog w = .ok (354, .agg #[h]) w := by kernel_rfl
theorem Zlp (h : Value) (w : World) : (Go.method 620 316 (.agg #[h]) "Implements").run Tryz.prog w = .ok (355, .agg #[h]) w := by kernel_rfl
theorem Zln (h : Value) (w : World) : (Go.method 620 316 (.agg #[h]) "AssignableTo").run Tryz.prog w = .ok (352, .agg #[h]) w := by kernel_rfl
theorem Zkx(w:World):(Zks #[.agg #[.pointer (some ⟨20,117,none⟩)]]).run Tryz.prog w=.ok (.iface 316 (.agg #[.pointer (some ⟨20,115,none⟩)])) w:=by kernel_rfl
theorem Zky(w:World):(Zkt #[.agg #[.pointer (some ⟨20,115,none⟩)],.iface 316 (.agg #[.pointer (some ⟨20,60,none⟩)])]).run Tryz.prog w=.ok (.bool true) w:=by kernel_rfl
theorem Zpa(v:Value)(w:World):(ReflectliteType.typeOf #[.iface 115 v]).run Tryz.prog w=.ok (.iface 316 (.agg #[.pointer (some ⟨20,115,none⟩)])) w:=by kernel_rfl
theorem Zo6(w:World):(Zik #[.agg #[.pointer (some ⟨20,115,none⟩)],.iface 316 (.agg #[.pointer (some ⟨20,115,none⟩)])]).run Tryz.prog w=.ok (.bool true) w:=by kernel_rfl
theorem Zo7(w:World):(Zik #[.agg #[.pointer (some ⟨20,491,none⟩)],.iface 316 (.agg #[.pointer (some ⟨20,115,none⟩)])]).run Tryz.prog w=.ok (.bool false) w:=by kernel_rfl
theorem Zpb(e:Addr)(w:World):(Zio #[.iface 115 (.pointer (some e))]).run Tryz.prog w
  = .ok (.agg #[.pointer (some ⟨20,115,none⟩),.pointer (some ⟨w.heap.size,0,none⟩),.int .u64 150]) (w.alloc (.cells #[.pointer (some e)] 115)):=by kernel_rfl
theorem Zsl(v:Value)(xT:TypeId)(w:World):(Instr.typeAssert (.iface 491 v) xT 327 true).run Tryz.prog w=.ok (.tuple #[.nilIface,.bool false]) w:=run_typeAssert_lacksB Tryz.underlying327 (by kernel_rfl) (by kernel_rfl) v xT w
theorem ZlZ(a:Addr)(w:World):(ReflectliteValue.parts (.agg #[.pointer (some ⟨20,117,none⟩),.pointer (some a),.int .u64 150])).run Tryz.prog w=.ok (some (117,a,150)) w:=by kernel_rfl
theorem Zkz(a p:Addr)(W:World)(ha:W.cell? a=some (.pointer (some p))) :
  (Zim #[.agg #[.pointer (some ⟨20,117,none⟩),.pointer (some a),.int .u64 150]]).run Tryz.prog W=.ok (.bool false) W:=by
 refine(congrArg (fun q=>Sem.run Tryz.prog q W) (show Zim _=(ReflectliteValue.parts (.agg #[.pointer (some ⟨20,117,none⟩),.pointer (some a),.int .u64 150]) >>= fun r=>_) from rfl)).trans ?_
 simp only[Sem.run_bind,ZlZ,Result.andThen]
 simp[ReflectliteValue.isNil,loadVar,isAgg,underlying,Tryz.underlying117,ha,Result.andThen]
theorem ZsN(w:World):(Rtype.elem? 117).run Tryz.prog w=.ok (some 115) w:=by kernel_rfl
theorem ZsO(p:Addr)(w:World):(ReflectliteValue.mk 115 p ReflectliteValue.flagAddr).run Tryz.prog w=.ok (.agg #[.pointer (some ⟨20,115,none⟩),.pointer (some p),.int .u64 406]) w:=by kernel_rfl
theorem Zo8(a p:Addr)(W:World)(ha:W.cell? a=some (.pointer (some p))) :
  (Zil #[.agg #[.pointer (some ⟨20,117,none⟩),.pointer (some a),.int .u64 150]]).run Tryz.prog W
   = .ok (.agg #[.pointer (some ⟨20,115,none⟩),.pointer (some p),.int .u64 406]) W:=by
 refine(congrArg (fun q=>Sem.run Tryz.prog q W) (show Zil _=(ReflectliteValue.parts (.agg #[.pointer (some ⟨20,117,none⟩),.pointer (some a),.int .u64 150]) >>= fun r=>_) from rfl)).trans ?_
 simp only[Sem.run_bind,ZlZ,Result.andThen]
 simp[ReflectliteValue.elem,loadVar,isAgg,underlying,Tryz.underlying117,ha,Result.andThen,ZsN,ZsO]
theorem ZsQ(a:Addr)(w:World):(ReflectliteValue.parts (.agg #[.pointer (some ⟨20,115,none⟩),.pointer (some a),.int .u64 406])).run Tryz.prog w=.ok (some (115,a,406)) w:=by kernel_rfl
theorem ZsP(a:Addr)(w:World):(ReflectliteValue.parts (.agg #[.pointer (some ⟨20,115,none⟩),.pointer (some a),.int .u64 150])).run Tryz.prog w=.ok (some (115,a,150)) w:=by kernel_rfl
theorem ZsM(w:World):(Rtype.directlyAssignable 115 115).run Tryz.prog w=.ok true w:=by kernel_rfl
theorem Zo9(ta b e:Addr)(old:Value)(W:World)(hb:W.cell? b=some (.pointer (some e)))(ht:W.cell? ta=some old)(hf:W.frozen? ta=false) :
  (ReflectliteValue.set #[.agg #[.pointer (some ⟨20,115,none⟩),.pointer (some ta),.int .u64 406],.agg #[.pointer (some ⟨20,115,none⟩),.pointer (some b),.int .u64 150]]).run Tryz.prog W
   = .ok (.tuple #[]) (W.setCell ta (.pointer (some e))):=by
 refine(congrArg (fun q=>Sem.run Tryz.prog q W) (show ReflectliteValue.set _=(ReflectliteValue.parts (.agg #[.pointer (some ⟨20,115,none⟩),.pointer (some ta),.int .u64 406]) >>= fun r=>ReflectliteValue.parts (.agg #[.pointer (some ⟨20,115,none⟩),.pointer (some b),.int .u64 150]) >>= fun s=>_) from rfl)).trans ?_
 simp only[Sem.run_bind,ZsQ,ZsP,Result.andThen]
 simp[ReflectliteValue.flagAddr,loadVar,isAgg,underlying,Tryz.underlying115,hb,Result.andThen,ZsM,storeVar,Value.cells,storeCells,Addr.add]
 rw[run_store Tryz.prog W ta _ _ (by rfl)]
 simp[ht,hf]
theorem ZnJ(e t:Addr)(old:Value)(w:World)(hg:w.cell? ⟨13,0,none⟩=some (.iface 316 (.agg #[.pointer (some ⟨20,60,none⟩)])))(ht0:w.cell? t=some old)(hf0:w.frozen? t=false) :
  Calls Tryz.prog 41 #[.iface 115 (.pointer (some e)),.iface 117 (.pointer (some t))] w fun ev w'=>ev=.returned (.bool true)/\w'=((((w.alloc (.cells #[.pointer (some t)] 117)).alloc (.cells #[.pointer (some ⟨20,117,none⟩),.pointer (some ⟨w.heap.size,0,none⟩),.int .u64 150] 196)).alloc (.cells #[.pointer (some ⟨20,117,none⟩),.pointer (some ⟨w.heap.size,0,none⟩),.int .u64 150] 196)).alloc (.cells #[.pointer (some e)] 115)).setCell t (.pointer (some e)):=by
 have h6:=Znv
 have h7:=Znu
 have h8:=Zns
 have h27:=Znt
 have h37:=Znq
 have h38:=Znr
 have h10:=ZfJ
 have h35:=Znp
 have h11:=Zwj
 have h12:=Zwk
 have tO:=Zpa
 have mA:=Zln
 have a25:=Zo6
 have v25:=Zpb
 have f6:=ZkD
 have f7:=ZkC
 have mK:=Zlq
 have mE:=Zlo
 have mI:=Zlp
 have k27:=ZkB
 have k25:=ZkA
 have e27:=Zkx
 have i25:=Zky
 have n8:=Zkz ⟨w.heap.size,0,none⟩ t ((w.alloc (.cells #[.pointer (some t)] 117)).alloc (.cells #[.pointer (some ⟨20,117,none⟩),.pointer (some ⟨w.heap.size,0,none⟩),.int .u64 150] 196)) (by simp)
 have hlt:13<w.heap.size:=World.block_lt_of_cell? _ _ hg
 have hg2:((w.alloc (.cells #[.pointer (some t)] 117)).alloc (.cells #[.pointer (some ⟨20,117,none⟩),.pointer (some ⟨w.heap.size,0,none⟩),.int .u64 150] 196)).cell? ⟨13,0,none⟩=some (.iface 316 (.agg #[.pointer (some ⟨20,60,none⟩)])):=by
  rw[World.cell?_alloc_lt _ _ ⟨13,0,none⟩ (by simp;omega),World.cell?_alloc_lt _ _ ⟨13,0,none⟩ hlt];exact hg
 have htl:=World.block_lt_of_cell? _ _ ht0
 have el:=Zo8 ⟨w.heap.size,0,none⟩ t (((w.alloc (.cells #[.pointer (some t)] 117)).alloc (.cells #[.pointer (some ⟨20,117,none⟩),.pointer (some ⟨w.heap.size,0,none⟩),.int .u64 150] 196)).alloc (.cells #[.pointer (some ⟨20,117,none⟩),.pointer (some ⟨w.heap.size,0,none⟩),.int .u64 150] 196)) (by rw[World.cell?_alloc_lt _ _ ⟨w.heap.size,0,none⟩ (by simp;omega)];simp)
 have st:=Zo9 t ⟨w.heap.size+1+1+1,0,none⟩ e old ((((w.alloc (.cells #[.pointer (some t)] 117)).alloc (.cells #[.pointer (some ⟨20,117,none⟩),.pointer (some ⟨w.heap.size,0,none⟩),.int .u64 150] 196)).alloc (.cells #[.pointer (some ⟨20,117,none⟩),.pointer (some ⟨w.heap.size,0,none⟩),.int .u64 150] 196)).alloc (.cells #[.pointer (some e)] 115))
  (by rw[World.cell?_alloc_at _ _ _ _ (by simp)];rfl)
  (by rw[World.cell?_alloc_lt _ _ t (by simp;omega),World.cell?_alloc_lt _ _ t (by simp;omega),World.cell?_alloc_lt _ _ t (by simp;omega),World.cell?_alloc_lt _ _ t htl];exact ht0)
  (by rw[World.frozen?_alloc_old _ _ t (by simp;omega),World.frozen?_alloc_old _ _ t (by simp;omega),World.frozen?_alloc_old _ _ t (by simp;omega),World.frozen?_alloc_old _ _ t (Nat.ne_of_lt htl)];exact hf0)
 go_enter Tryz.func41,Tryz.ntmps41
 go_wp2
 refine wp_loop_rounds 1 ?_
 rw[rounds_succ]
 go_wp2
 go_ret
 exact⟨rfl,rfl⟩
theorem ZnK(e t:Addr)(w:World)(hg:w.cell? ⟨13,0,none⟩=some (.iface 316 (.agg #[.pointer (some ⟨20,60,none⟩)]))) :
  Calls Tryz.prog 41 #[.iface 491 (.pointer (some e)),.iface 117 (.pointer (some t))] w fun ev w'=>ev=.returned (.bool false)/\Below w.heap.size w w':=by
 have h6:=Znv
 have h7:=Znu
 have h8:=Zns
 have h27:=Znt
 have h37:=Znq
 have h38:=Znr
 have h10:=ZfJ
 have h35:=Znp
 have tO:=Tryz.isTypeOf
 have mA:=Zln
 have a25:=Zo7
 have f6:=ZkD
 have f7:=ZkC
 have mK:=Zlq
 have mE:=Zlo
 have mI:=Zlp
 have k27:=ZkB
 have k25:=ZkA
 have e27:=Zkx
 have i25:=Zky
 have nA:=Zsl
 have uE:=Tryz.noUnwrapE
 have vE:=Tryz.noUnwrapsE
 have n8:=Zkz ⟨w.heap.size,0,none⟩ t ((w.alloc (.cells #[.pointer (some t)] 117)).alloc (.cells #[.pointer (some ⟨20,117,none⟩),.pointer (some ⟨w.heap.size,0,none⟩),.int .u64 150] 196)) (by simp)
 have hlt:13<w.heap.size:=World.block_lt_of_cell? _ _ hg
 have hg2:((w.alloc (.cells #[.pointer (some t)] 117)).alloc (.cells #[.pointer (some ⟨20,117,none⟩),.pointer (some ⟨w.heap.size,0,none⟩),.int .u64 150] 196)).cell? ⟨13,0,none⟩=some (.iface 316 (.agg #[.pointer (some ⟨20,60,none⟩)])):=by
  rw[World.cell?_alloc_lt _ _ ⟨13,0,none⟩ (by simp;omega),World.cell?_alloc_lt _ _ ⟨13,0,none⟩ hlt];exact hg
 go_enter Tryz.func41,Tryz.ntmps41
 go_wp2
 refine wp_loop_rounds 1 ?_
 rw[rounds_succ]
 go_wp2
 go_ret
 exact⟨rfl,(by repeat first|exact Below.refl _ _|assumption|refine Below.alloc ?_ ?_ _|refine Below.setCell ?_ ?_ _|refine Zg ?_ _|refine Below.drew ?_|omega|(simp;omega)|simp)⟩
open Go.RowKit LS
theorem Zf5(A:Nat->Addr)(m:Int)(w:World)(hv:Vars w A m) :
  Calls Tryz.prog 22 #[.nilIface] w fun e w'=>e=.returned (.int .i64 0)/\w'=w:=by
 have vLong:=hv.sent 0 (by decide)
 have vSyntax:=hv.sent 1 (by decide)
 have vDeep:=hv.sent 2 (by decide)
 have vType:=hv.sent 3 (by decide)
 have vStore:=hv.sent 4 (by decide)
 have vTwice:=hv.sent 5 (by decide)
 have vMany:=hv.sent 6 (by decide)
 have vTimes:=hv.sent 7 (by decide)
 have vCode:=hv.sent 8 (by decide)
 have vSum:=hv.sent 9 (by decide)
 have vRefer:=hv.sent 10 (by decide)
 have vStack:=hv.sent 11 (by decide)
 have vFuel:=hv.sent 12 (by decide)
 go_enter Tryz.func22,Tryz.ntmps22
 go_wp2_with fail
 refine(Zdc (A 0) _).mono ?_
 rintro e w' ⟨rfl,rfl⟩
 go_wp2_with fail
 refine(Zdc (A 1) _).mono ?_
 rintro e w' ⟨rfl,rfl⟩
 go_wp2_with fail
 refine(Zdc (A 2) _).mono ?_
 rintro e w' ⟨rfl,rfl⟩
 go_wp2_with fail
 refine(Zdc (A 3) _).mono ?_
 rintro e w' ⟨rfl,rfl⟩
 go_wp2_with fail
 refine(Zdc (A 4) _).mono ?_
 rintro e w' ⟨rfl,rfl⟩
 go_wp2_with fail
 refine(Zdc (A 5) _).mono ?_
 rintro e w' ⟨rfl,rfl⟩
 go_wp2_with fail
 refine(Zdc (A 6) _).mono ?_
 rintro e w' ⟨rfl,rfl⟩
 go_wp2_with fail
 refine(Zdc (A 7) _).mono ?_
 rintro e w' ⟨rfl,rfl⟩
 go_wp2_with fail
 refine(Zdc (A 8) _).mono ?_
 rintro e w' ⟨rfl,rfl⟩
 go_wp2_with fail
 refine(Zdc (A 9) _).mono ?_
 rintro e w' ⟨rfl,rfl⟩
 go_wp2_with fail
 refine(Zdc (A 10) _).mono ?_
 rintro e w' ⟨rfl,rfl⟩
 go_wp2_with fail
 refine(Zdc (A 11) _).mono ?_
 rintro e w' ⟨rfl,rfl⟩
 go_wp2_with fail
 refine(Zdc (A 12) _).mono ?_
 rintro e w' ⟨rfl,rfl⟩
 go_wp2
 go_ret
 exact⟨rfl,rfl⟩
theorem Zhj(A:Nat->Addr)(m:Int)(w:World)(hv:Vars w A m) :
  Calls Tryz.prog 22 #[.iface 491 (.pointer (some (A 0)))] w fun e w'=>e=.returned (.int .i64 1)/\w'=w:=by
 have vLong:=hv.sent 0 (by decide)
 go_enter Tryz.func22,Tryz.ntmps22
 go_wp2_with fail
 refine(Zfl (A 0) _).mono ?_
 rintro e w' ⟨rfl,rfl⟩
 go_wp2
 go_ret
 exact⟨rfl,rfl⟩
theorem ZlS(A:Nat->Addr)(m:Int)(w:World)(hv:Vars w A m)(fa:Nat)(hw:w.cell? ⟨fa,2,none⟩=some (.iface 491 (.pointer (some (A 1))))) :
  Calls Tryz.prog 22 #[.iface 115 (.pointer (some ⟨fa,0,none⟩))] w fun e w'=>e=.returned (.int .i64 2)/\w'=w:=by
 have vLong:=hv.sent 0 (by decide)
 have vSyntax:=hv.sent 1 (by decide)
 obtain⟨cLong,ZX,rLong⟩:=hv.row 0 (by decide)
 obtain⟨cSyntax,ZR,rSyntax⟩:=hv.row 1 (by decide)
 go_enter Tryz.func22,Tryz.ntmps22
 go_wp2_with fail
 refine(ZJ fa (A 0) (A 1) cSyntax cLong ZR ZX _ hw (hv.apart _ (by decide) _ (by decide) (by decide)) rSyntax rLong).mono ?_
 rintro e w' ⟨rfl,rfl⟩
 go_wp2_with fail
 refine(ZeT fa (A 1) _ hw).mono ?_
 rintro e w' ⟨rfl,rfl⟩
 go_wp2
 go_ret
 exact⟨rfl,rfl⟩
theorem ZlO(A:Nat->Addr)(m:Int)(w:World)(hv:Vars w A m)(fa:Nat)(hw:w.cell? ⟨fa,2,none⟩=some (.iface 491 (.pointer (some (A 2))))) :
  Calls Tryz.prog 22 #[.iface 115 (.pointer (some ⟨fa,0,none⟩))] w fun e w'=>e=.returned (.int .i64 3)/\w'=w:=by
 have vLong:=hv.sent 0 (by decide)
 have vSyntax:=hv.sent 1 (by decide)
 have vDeep:=hv.sent 2 (by decide)
 obtain⟨cLong,ZX,rLong⟩:=hv.row 0 (by decide)
 obtain⟨cSyntax,ZR,rSyntax⟩:=hv.row 1 (by decide)
 obtain⟨cDeep,ZW,rDeep⟩:=hv.row 2 (by decide)
 go_enter Tryz.func22,Tryz.ntmps22
 go_wp2_with fail
 refine(ZJ fa (A 0) (A 2) cDeep cLong ZW ZX _ hw (hv.apart _ (by decide) _ (by decide) (by decide)) rDeep rLong).mono ?_
 rintro e w' ⟨rfl,rfl⟩
 go_wp2_with fail
 refine(ZJ fa (A 1) (A 2) cDeep cSyntax ZW ZR _ hw (hv.apart _ (by decide) _ (by decide) (by decide)) rDeep rSyntax).mono ?_
 rintro e w' ⟨rfl,rfl⟩
 go_wp2_with fail
 refine(ZeT fa (A 2) _ hw).mono ?_
 rintro e w' ⟨rfl,rfl⟩
 go_wp2
 go_ret
 exact⟨rfl,rfl⟩
theorem ZlU(A:Nat->Addr)(m:Int)(w:World)(hv:Vars w A m) :
  Calls Tryz.prog 22 #[.iface 491 (.pointer (some (A 3)))] w fun e w'=>e=.returned (.int .i64 4)/\w'=w:=by
 have vLong:=hv.sent 0 (by decide)
 have vSyntax:=hv.sent 1 (by decide)
 have vDeep:=hv.sent 2 (by decide)
 have vType:=hv.sent 3 (by decide)
 obtain⟨cLong,ZX,rLong⟩:=hv.row 0 (by decide)
 obtain⟨cSyntax,ZR,rSyntax⟩:=hv.row 1 (by decide)
 obtain⟨cDeep,ZW,rDeep⟩:=hv.row 2 (by decide)
 obtain⟨cType,Z1,rType⟩:=hv.row 3 (by decide)
 go_enter Tryz.func22,Tryz.ntmps22
 go_wp2_with fail
 refine(ZT (A 3) (A 0) cType cLong Z1 ZX _ (hv.apart _ (by decide) _ (by decide) (by decide)) rType rLong).mono ?_
 rintro e w' ⟨rfl,rfl⟩
 go_wp2_with fail
 refine(ZT (A 3) (A 1) cType cSyntax Z1 ZR _ (hv.apart _ (by decide) _ (by decide) (by decide)) rType rSyntax).mono ?_
 rintro e w' ⟨rfl,rfl⟩
 go_wp2_with fail
 refine(ZT (A 3) (A 2) cType cDeep Z1 ZW _ (hv.apart _ (by decide) _ (by decide) (by decide)) rType rDeep).mono ?_
 rintro e w' ⟨rfl,rfl⟩
 go_wp2_with fail
 refine(Zfl (A 3) _).mono ?_
 rintro e w' ⟨rfl,rfl⟩
 go_wp2
 go_ret
 exact⟨rfl,rfl⟩
theorem Zf9(w:World) :
  Calls Tryz.prog 23 #[.nilIface] w fun e w'=>e=.returned (.int .i64 0)/\Below w.heap.size w w':=by
 go_enter Tryz.func23,Tryz.ntmps23
 go_wp2_with fail
 refine(ZnL _ _).mono ?_
 rintro e w' ⟨rfl,rfl⟩
 go_wp2
 go_ret
 exact⟨rfl,(by repeat first|exact Below.refl _ _|assumption|refine Below.alloc ?_ ?_ _|refine Below.setCell ?_ ?_ _|refine Zg ?_ _|refine Below.drew ?_|omega|(simp;omega)|simp)⟩
theorem Zde(A:Nat->Addr)(m:Int)(a:Addr)(w:World)(hv:Vars w A m) :
  Calls Tryz.prog 23 #[.iface 491 (.pointer (some a))] w fun e w'=>e=.returned (.int .i64 0)/\Below w.heap.size w w':=by
 have hB:Below w.heap.size w (w.alloc (.cells #[.pointer none] 115)):=Zbal
 go_enter Tryz.func23,Tryz.ntmps23
 go_wp2_with fail
 refine(ZnK _ _ _ (hv.alloc _).handle).mono ?_
 rintro e w' ⟨rfl,hb⟩
 have hb':Below w.heap.size w w':=hB.trans (hb.mono (by simp))
 clear hb hB
 go_wp2
 go_ret
 exact⟨rfl,hb'⟩
theorem Zdf(A:Nat->Addr)(m:Int)(fa:Nat)(i:Int)(w:World)(hv:Vars w A m)(hp:w.cell? ⟨fa,1,none⟩=some (.int .i64 i)) :
  Calls Tryz.prog 23 #[.iface 115 (.pointer (some ⟨fa,0,none⟩))] w fun e w'=>e=.returned (.int .i64 i)/\Below w.heap.size w w':=by
 have hfl:fa<w.heap.size:=World.block_lt_of_cell? _ _ hp
 go_enter Tryz.func23,Tryz.ntmps23
 go_wp2_with fail
 refine(ZnJ _ _ (.pointer none) _ (hv.alloc _).handle (by simp) (by simp)).mono ?_
 rintro e w' ⟨rfl,hw⟩
 have hb':Below w.heap.size w w':=by rw[hw];exact(by repeat first|exact Below.refl _ _|assumption|refine Below.alloc ?_ ?_ _|refine Below.setCell ?_ ?_ _|refine Zg ?_ _|refine Below.drew ?_|omega|(simp;omega)|simp)
 have c1:w'.cell? ⟨w.heap.size,0,none⟩=some (.pointer (some ⟨fa,0,none⟩)):=by
  rw[hw]
  refine World.cell?_setCell_same _ _ _ (u:=.pointer none) ?_
  refine(Below.cell (B:=w.heap.size+1) (w:=w.alloc (.cells #[.pointer none] 115)) ?_ (Nat.lt_succ_self _)).trans (by simp)
  exact(by repeat first|exact Below.refl _ _|assumption|refine Below.alloc ?_ ?_ _|refine Below.setCell ?_ ?_ _|refine Zg ?_ _|refine Below.drew ?_|omega|(simp;omega)|simp)
 have c2:w'.cell? ⟨fa,1,none⟩=some (.int .i64 i):=(hb'.cell (p:=⟨fa,1,none⟩) hfl).trans hp
 clear hw
 go_wp2
 go_ret
 exact⟨rfl,hb'⟩
theorem ZiN(A:Nat->Addr)(m:Int)(w:World)(hv:Vars w A m)(fa:Nat)(hw:w.cell? ⟨fa,2,none⟩=some (.iface 491 (.pointer (some (A 4))))) :
  Calls Tryz.prog 22 #[.iface 115 (.pointer (some ⟨fa,0,none⟩))] w fun e w'=>e=.returned (.int .i64 5)/\w'=w:=by
 have vLong:=hv.sent 0 (by decide)
 have vSyntax:=hv.sent 1 (by decide)
 have vDeep:=hv.sent 2 (by decide)
 have vType:=hv.sent 3 (by decide)
 have vStore:=hv.sent 4 (by decide)
 obtain⟨cLong,ZX,rLong⟩:=hv.row 0 (by decide)
 obtain⟨cSyntax,ZR,rSyntax⟩:=hv.row 1 (by decide)
 obtain⟨cDeep,ZW,rDeep⟩:=hv.row 2 (by decide)
 obtain⟨cType,Z1,rType⟩:=hv.row 3 (by decide)
 obtain⟨cStore,Z2,rStore⟩:=hv.row 4 (by decide)
 go_enter Tryz.func22,Tryz.ntmps22
 go_wp2_with fail
 refine(ZJ fa (A 0) (A 4) cStore cLong Z2 ZX _ hw (hv.apart _ (by decide) _ (by decide) (by decide)) rStore rLong).mono ?_
 rintro e w' ⟨rfl,rfl⟩
 go_wp2_with fail
 refine(ZJ fa (A 1) (A 4) cStore cSyntax Z2 ZR _ hw (hv.apart _ (by decide) _ (by decide) (by decide)) rStore rSyntax).mono ?_
 rintro e w' ⟨rfl,rfl⟩
 go_wp2_with fail
 refine(ZJ fa (A 2) (A 4) cStore cDeep Z2 ZW _ hw (hv.apart _ (by decide) _ (by decide) (by decide)) rStore rDeep).mono ?_
 rintro e w' ⟨rfl,rfl⟩
 go_wp2_with fail
 refine(ZJ fa (A 3) (A 4) cStore cType Z2 Z1 _ hw (hv.apart _ (by decide) _ (by decide) (by decide)) rStore rType).mono ?_
 rintro e w' ⟨rfl,rfl⟩
 go_wp2_with fail
 refine(ZeT fa (A 4) _ hw).mono ?_
 rintro e w' ⟨rfl,rfl⟩
 go_wp2
 go_ret
 exact⟨rfl,rfl⟩
theorem ZiO(A:Nat->Addr)(m:Int)(w:World)(hv:Vars w A m)(fa:Nat)(hw:w.cell? ⟨fa,2,none⟩=some (.iface 491 (.pointer (some (A 5))))) :
  Calls Tryz.prog 22 #[.iface 115 (.pointer (some ⟨fa,0,none⟩))] w fun e w'=>e=.returned (.int .i64 6)/\w'=w:=by
 have vLong:=hv.sent 0 (by decide)
 have vSyntax:=hv.sent 1 (by decide)
 have vDeep:=hv.sent 2 (by decide)
 have vType:=hv.sent 3 (by decide)
 have vStore:=hv.sent 4 (by decide)
 have vTwice:=hv.sent 5 (by decide)
 obtain⟨cLong,ZX,rLong⟩:=hv.row 0 (by decide)
 obtain⟨cSyntax,ZR,rSyntax⟩:=hv.row 1 (by decide)
 obtain⟨cDeep,ZW,rDeep⟩:=hv.row 2 (by decide)
 obtain⟨cType,Z1,rType⟩:=hv.row 3 (by decide)
 obtain⟨cStore,Z2,rStore⟩:=hv.row 4 (by decide)
 obtain⟨cTwice,Z5,rTwice⟩:=hv.row 5 (by decide)
 go_enter Tryz.func22,Tryz.ntmps22
 go_wp2_with fail
 refine(ZJ fa (A 0) (A 5) cTwice cLong Z5 ZX _ hw (hv.apart _ (by decide) _ (by decide) (by decide)) rTwice rLong).mono ?_
 rintro e w' ⟨rfl,rfl⟩
 go_wp2_with fail
 refine(ZJ fa (A 1) (A 5) cTwice cSyntax Z5 ZR _ hw (hv.apart _ (by decide) _ (by decide) (by decide)) rTwice rSyntax).mono ?_
 rintro e w' ⟨rfl,rfl⟩
 go_wp2_with fail
 refine(ZJ fa (A 2) (A 5) cTwice cDeep Z5 ZW _ hw (hv.apart _ (by decide) _ (by decide) (by decide)) rTwice rDeep).mono ?_
 rintro e w' ⟨rfl,rfl⟩
 go_wp2_with fail
 refine(ZJ fa (A 3) (A 5) cTwice cType Z5 Z1 _ hw (hv.apart _ (by decide) _ (by decide) (by decide)) rTwice rType).mono ?_
 rintro e w' ⟨rfl,rfl⟩
 go_wp2_with fail
 refine(ZJ fa (A 4) (A 5) cTwice cStore Z5 Z2 _ hw (hv.apart _ (by decide) _ (by decide) (by decide)) rTwice rStore).mono ?_
 rintro e w' ⟨rfl,rfl⟩
 go_wp2_with fail
 refine(ZeT fa (A 5) _ hw).mono ?_
 rintro e w' ⟨rfl,rfl⟩
 go_wp2
 go_ret
 exact⟨rfl,rfl⟩
theorem ZiM(A:Nat->Addr)(m:Int)(w:World)(hv:Vars w A m) :
  Calls Tryz.prog 22 #[.iface 491 (.pointer (some (A 6)))] w fun e w'=>e=.returned (.int .i64 7)/\w'=w:=by
 have vLong:=hv.sent 0 (by decide)
 have vSyntax:=hv.sent 1 (by decide)
 have vDeep:=hv.sent 2 (by decide)
 have vType:=hv.sent 3 (by decide)
 have vStore:=hv.sent 4 (by decide)
 have vTwice:=hv.sent 5 (by decide)
 have vMany:=hv.sent 6 (by decide)
 obtain⟨cLong,ZX,rLong⟩:=hv.row 0 (by decide)
 obtain⟨cSyntax,ZR,rSyntax⟩:=hv.row 1 (by decide)
 obtain⟨cDeep,ZW,rDeep⟩:=hv.row 2 (by decide)
 obtain⟨cType,Z1,rType⟩:=hv.row 3 (by decide)
 obtain⟨cStore,Z2,rStore⟩:=hv.row 4 (by decide)
 obtain⟨cTwice,Z5,rTwice⟩:=hv.row 5 (by decide)
 obtain⟨cMany,Z9,rMany⟩:=hv.row 6 (by decide)
 go_enter Tryz.func22,Tryz.ntmps22
 go_wp2_with fail
 refine(ZT (A 6) (A 0) cMany cLong Z9 ZX _ (hv.apart _ (by decide) _ (by decide) (by decide)) rMany rLong).mono ?_
 rintro e w' ⟨rfl,rfl⟩
 go_wp2_with fail
 refine(ZT (A 6) (A 1) cMany cSyntax Z9 ZR _ (hv.apart _ (by decide) _ (by decide) (by decide)) rMany rSyntax).mono ?_
 rintro e w' ⟨rfl,rfl⟩
 go_wp2_with fail
 refine(ZT (A 6) (A 2) cMany cDeep Z9 ZW _ (hv.apart _ (by decide) _ (by decide) (by decide)) rMany rDeep).mono ?_
 rintro e w' ⟨rfl,rfl⟩
 go_wp2_with fail
 refine(ZT (A 6) (A 3) cMany cType Z9 Z1 _ (hv.apart _ (by decide) _ (by decide) (by decide)) rMany rType).mono ?_
 rintro e w' ⟨rfl,rfl⟩
 go_wp2_with fail
 refine(ZT (A 6) (A 4) cMany cStore Z9 Z2 _ (hv.apart _ (by decide) _ (by decide) (by decide)) rMany rStore).mono ?_
 rintro e w' ⟨rfl,rfl⟩
 go_wp2_with fail
 refine(ZT (A 6) (A 5) cMany cTwice Z9 Z5 _ (hv.apart _ (by decide) _ (by decide) (by decide)) rMany rTwice).mono ?_
 rintro e w' ⟨rfl,rfl⟩
 go_wp2_with fail
 refine(Zfl (A 6) _).mono ?_
 rintro e w' ⟨rfl,rfl⟩
 go_wp2
 go_ret
 exact⟨rfl,rfl⟩
theorem ZlT(A:Nat->Addr)(m:Int)(w:World)(hv:Vars w A m) :
  Calls Tryz.prog 22 #[.iface 491 (.pointer (some (A 7)))] w fun e w'=>e=.returned (.int .i64 8)/\w'=w:=by
 have vLong:=hv.sent 0 (by decide)
 have vSyntax:=hv.sent 1 (by decide)
 have vDeep:=hv.sent 2 (by decide)
 have vType:=hv.sent 3 (by decide)
 have vStore:=hv.sent 4 (by decide)
 have vTwice:=hv.sent 5 (by decide)
 have vMany:=hv.sent 6 (by decide)
 have vTimes:=hv.sent 7 (by decide)
 obtain⟨cLong,ZX,rLong⟩:=hv.row 0 (by decide)
 obtain⟨cSyntax,ZR,rSyntax⟩:=hv.row 1 (by decide)
 obtain⟨cDeep,ZW,rDeep⟩:=hv.row 2 (by decide)
 obtain⟨cType,Z1,rType⟩:=hv.row 3 (by decide)
 obtain⟨cStore,Z2,rStore⟩:=hv.row 4 (by decide)
 obtain⟨cTwice,Z5,rTwice⟩:=hv.row 5 (by decide)
 obtain⟨cMany,Z9,rMany⟩:=hv.row 6 (by decide)
 obtain⟨cTimes,Zbb,rTimes⟩:=hv.row 7 (by decide)
 go_enter Tryz.func22,Tryz.ntmps22
 go_wp2_with fail
 refine(ZT (A 7) (A 0) cTimes cLong Zbb ZX _ (hv.apart _ (by decide) _ (by decide) (by decide)) rTimes rLong).mono ?_
 rintro e w' ⟨rfl,rfl⟩
 go_wp2_with fail
 refine(ZT (A 7) (A 1) cTimes cSyntax Zbb ZR _ (hv.apart _ (by decide) _ (by decide) (by decide)) rTimes rSyntax).mono ?_
 rintro e w' ⟨rfl,rfl⟩
 go_wp2_with fail
 refine(ZT (A 7) (A 2) cTimes cDeep Zbb ZW _ (hv.apart _ (by decide) _ (by decide) (by decide)) rTimes rDeep).mono ?_
 rintro e w' ⟨rfl,rfl⟩
 go_wp2_with fail
 refine(ZT (A 7) (A 3) cTimes cType Zbb Z1 _ (hv.apart _ (by decide) _ (by decide) (by decide)) rTimes rType).mono ?_
 rintro e w' ⟨rfl,rfl⟩
 go_wp2_with fail
 refine(ZT (A 7) (A 4) cTimes cStore Zbb Z2 _ (hv.apart _ (by decide) _ (by decide) (by decide)) rTimes rStore).mono ?_
 rintro e w' ⟨rfl,rfl⟩
 go_wp2_with fail
 refine(ZT (A 7) (A 5) cTimes cTwice Zbb Z5 _ (hv.apart _ (by decide) _ (by decide) (by decide)) rTimes rTwice).mono ?_
 rintro e w' ⟨rfl,rfl⟩
 go_wp2_with fail
 refine(ZT (A 7) (A 6) cTimes cMany Zbb Z9 _ (hv.apart _ (by decide) _ (by decide) (by decide)) rTimes rMany).mono ?_
 rintro e w' ⟨rfl,rfl⟩
 go_wp2_with fail
 refine(Zfl (A 7) _).mono ?_
 rintro e w' ⟨rfl,rfl⟩
 go_wp2
 go_ret
 exact⟨rfl,rfl⟩
end Go.Proofs.YtkodhpilkaihjaaGreatDoor
namespace Go.Proofs.YtkodhpilkaihjaaGreatDoor.LS
open Go Go.RowKit
structure Tok where
 kind:Nat
 txt:List UInt8
 at_:Nat
def run(p:UInt8->Bool):List UInt8->Nat
 | []=>0
 | b::l=>if p b then run p l+1 else 0
def Zdu:List UInt8:=[40,41,123,125,91,93,44,61,43,45,42,47]
def lexC(l:List UInt8)(j:Nat)(c:UInt8)(r:List UInt8):Tok×Nat:=
 if Zt c then (if (ZE 1000000000 ((c::r).take (run Zt (c::r)))).isSome then ⟨1,(c::r).take (run Zt (c::r)),j⟩else ⟨5,[],j⟩,j+run Zt (c::r))
 else if Zl c then (if 8<run Zl (c::r)then ⟨5,[],j⟩else ⟨2,(c::r).take (run Zl (c::r)),j⟩,j+run Zl (c::r))
 else if c == 34 then match seek 34 r with
  | none=>(⟨5,[],j⟩,l.length)
  | some p=>(if Z7 (r.take p)then ⟨3,r.take p,j⟩else ⟨5,[],j⟩,j+p+2)
 else if c == 33 && r.head? == some 61 then (⟨4,[33,61],j⟩,j+2)
 else if (seek c Zdu).isSome then (⟨4,[c],j⟩,j+1)else (⟨5,[],j⟩,j+1)
def lexJ(l:List UInt8)(j:Nat):Tok×Nat:=match l.drop j with
 | []=>(⟨0,[],j⟩,j)
 | c::r=>lexC l j c r
def Zs(l:List UInt8)(i:Nat):Tok×Nat:=lexJ l (i+run (· == 32) (l.drop i))
theorem Zgc(p:UInt8->Bool)(l:List UInt8):run p l<=l.length:=by
 induction l with
 | nil=>exact Nat.le_refl _
 | cons b l ih=>unfold run;split <;> simp;omega
theorem Zrp(s:ByteArray)(j:Nat)(h:j<s.size)(hc:s[j]=32):Zs (bl s) j=Zs (bl s) (j+1):=by
 unfold Zs
 rw[ZdA s j h]
 have:run (· == 32) (s[j]::(bl s).drop (j+1))=run (· == 32) ((bl s).drop (j+1))+1:=by rw[hc];rfl
 rw[this,show j+(run (· == 32) ((bl s).drop (j+1))+1)=j+1+run (· == 32) ((bl s).drop (j+1)) by omega]
theorem Zg9(s:ByteArray)(j:Nat)(h:j<s.size)(hc:s[j]≠32):Zs (bl s) j=lexC (bl s) j s[j] ((bl s).drop (j+1)):=by
 unfold Zs
 rw[ZdA s j h]
 have:run (· == 32) (s[j]::(bl s).drop (j+1))=0:=by simp[run,hc]
 rw[this,Nat.add_zero]
 unfold lexJ
 rw[ZdA s j h]
theorem Zlh(s:ByteArray)(j:Nat)(h:¬j<s.size)(hj:j<=s.size):Zs (bl s) j=(⟨0,[],j⟩,j):=by
 have hd:(bl s).drop j=[]:=List.drop_of_length_le (by rw[Ze];omega)
 unfold Zs
 rw[hd]
 show lexJ (bl s) j=_
 unfold lexJ
 rw[hd]
end Go.Proofs.YtkodhpilkaihjaaGreatDoor.LS
namespace Go.Proofs.YtkodhpilkaihjaaGreatDoor
open Go.RowKit LS
end Go.Proofs.YtkodhpilkaihjaaGreatDoor

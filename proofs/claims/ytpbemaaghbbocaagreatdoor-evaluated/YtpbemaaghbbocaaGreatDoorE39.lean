/- Parts. -/
import Derived.Test.YtpbemaaghbbocaaGreatDoorE00
import Derived.Test.YtpbemaaghbbocaaGreatDoorE01
import Derived.LaidEql
import Derived.Stop.Asserts
import Derived.RowKitTokens
namespace Go.Proofs.YtpbemaaghbbocaaGreatDoor
open Go.RowKit Go.Extern.Stop Go.Stop Go.Extern LS
def ZiQ : Array Value → Sem Value := ReflectliteType.method fun t => do Rtype.noPackHeld "Comparable" t; pure (.bool (← typeInfo t).comparable)
theorem Tryz.isTypeOf(v:Value)(w:World):(Extern.ReflectliteType.typeOf #[.iface 389 v]).run Tryz.prog w=.ok (.iface 232 (.agg #[.pointer (some ⟨20,389,none⟩)])) w:=by kernel_rfl
theorem Tryz.isComparable(w:World):(ZiQ #[.agg #[.pointer (some ⟨20,389,none⟩)]]).run Tryz.prog w=.ok (.bool true) w:=by kernel_rfl
theorem Tryz.isMethodComparable (v : Value) (w : World) : (Go.method 518 232 v "Comparable").run Tryz.prog w = .ok (289, v) w := by kernel_rfl
theorem Tryz.isComp:(Tryz.prog.info? 389).map (·.comparable)=some true:=by kernel_rfl
theorem Tryz.isSize:(Tryz.prog.info? 407).map (·.size)=some 1:=by kernel_rfl
theorem Tryz.noIsE(v:Value)(xT:TypeId)(w:World):(Instr.typeAssert (.iface 389 v) xT 234 true).run Tryz.prog w=.ok (.tuple #[.nilIface,.bool false]) w:=run_typeAssert_lacksB Tryz.underlying234 (by kernel_rfl) (by kernel_rfl) v xT w
theorem Tryz.noUnwrapE(v:Value)(xT:TypeId)(w:World):(Instr.typeAssert (.iface 389 v) xT 237 true).run Tryz.prog w=.ok (.tuple #[.nilIface,.bool false]) w:=run_typeAssert_lacksB Tryz.underlying237 (by kernel_rfl) (by kernel_rfl) v xT w
theorem Tryz.noUnwrapsE(v:Value)(xT:TypeId)(w:World):(Instr.typeAssert (.iface 389 v) xT 238 true).run Tryz.prog w=.ok (.tuple #[.nilIface,.bool false]) w:=run_typeAssert_lacksB Tryz.underlying238 (by kernel_rfl) (by kernel_rfl) v xT w
theorem Tryz.noIsW(v:Value)(xT:TypeId)(w:World):(Instr.typeAssert (.iface 94 v) xT 234 true).run Tryz.prog w=.ok (.tuple #[.nilIface,.bool false]) w:=run_typeAssert_lacksB Tryz.underlying234 (by kernel_rfl) (by kernel_rfl) v xT w
theorem Tryz.hasUnwrapW(v:Value)(xT:TypeId)(w:World):(Instr.typeAssert (.iface 94 v) xT 237 true).run Tryz.prog w=.ok (.tuple #[.iface 94 v,.bool true]) w:=run_typeAssert_hasB Tryz.underlying237 (by kernel_rfl) v xT w
theorem Tryz.methodUnwrap (v : Value) (w : World) : (Go.method 518 94 v "Unwrap").run Tryz.prog w = .ok (277, v) w := by kernel_rfl
theorem ZeX (args : Array Value) (w : World) : (callFunc 71 args).run Tryz.prog w = ((ReflectliteType.typeOf args).run Tryz.prog w).andThen fun v w' => .ok (.value v) w' :=
  run_callFunc_extern Tryz.func71 (by kernel_rfl) (by kernel_rfl) (by kernel_rfl) (by kernel_rfl) args w
theorem Zgt (args : Array Value) (w : World) : (callFunc 289 args).run Tryz.prog w = ((ZiQ args).run Tryz.prog w).andThen fun v w' => .ok (.value v) w' :=
  run_callFunc_extern Tryz.func289 (by kernel_rfl) (by kernel_rfl) (by kernel_rfl) (by kernel_rfl) args w
set_option maxHeartbeats 1000000 in
theorem ZfZ(a:Addr)(w:World) :
  Calls Tryz.prog 36 #[.iface 389 (.pointer (some a)),.iface 389 (.pointer (some a))] w fun e w'=>e=.returned (.bool true)∧w'=w:=by
 obtain⟨i,hi,hcmp⟩:=Option.map_eq_some_iff.1 Tryz.isComp
 obtain⟨j,hj,hjs⟩:=Option.map_eq_some_iff.1 Tryz.isSize
 have h8:=ZeX
 have h32:=Zgt
 have tT:=Tryz.isTypeOf
 have cT:=Tryz.isComparable
 have mR:=Tryz.isMethodComparable
 have heq:=run_eql_iface_ptr_same (P:=Tryz.prog) w a Tryz.underlying52 Tryz.underlying389 hi hcmp hj
 go_enter Tryz.func36,Tryz.ntmps36
 go_wp2
 refine wp_loop_rounds 1 ?_
 rw[rounds_succ]
 go_wp2
 go_ret
 exact⟨rfl,rfl⟩
theorem ZcW(b:Addr)(w:World) :
  Calls Tryz.prog 36 #[.nilIface,.iface 389 (.pointer (some b))] w fun e w'=>e=.returned (.bool false)∧w'=w:=by
 have hn:=run_eql_iface_nil_left (P:=Tryz.prog) w 389 (.pointer (some b)) Tryz.underlying52
 go_enter Tryz.func36,Tryz.ntmps36
 go_wp2
 go_ret
 exact⟨rfl,rfl⟩
set_option maxHeartbeats 1000000 in
theorem Zcj(a b:Addr)(ca cb:Array Value)(ta tb:TypeId)(w:World)(hne:a≠b)(ha:w.heap[a.block]?=some (.cells ca ta (0,0)))(hb:w.heap[b.block]?=some (.cells cb tb (0,0))) :
  Calls Tryz.prog 36 #[.iface 389 (.pointer (some a)),.iface 389 (.pointer (some b))] w fun e w'=>e=.returned (.bool false)∧w'=w:=by
 obtain⟨i,hi,hcmp⟩:=Option.map_eq_some_iff.1 Tryz.isComp
 obtain⟨j,hj,hjs⟩:=Option.map_eq_some_iff.1 Tryz.isSize
 have h8:=ZeX
 have h32:=Zgt
 have tT:=Tryz.isTypeOf
 have cT:=Tryz.isComparable
 have mR:=Tryz.isMethodComparable
 have nE:=Tryz.noIsE
 have uE:=Tryz.noUnwrapE
 have vE:=Tryz.noUnwrapsE
 have nW:=Tryz.noIsW
 have uW:=Tryz.hasUnwrapW
 have mU:=Tryz.methodUnwrap
 have heq:=run_eql_iface_ptr_other (P:=Tryz.prog) w Tryz.underlying52 Tryz.underlying389 hi hcmp hj (by rw[hjs];decide) hne ha hb
 go_enter Tryz.func36,Tryz.ntmps36
 go_wp2
 refine wp_loop_rounds 1 ?_
 rw[rounds_succ]
 go_wp2
 go_ret
 exact⟨rfl,rfl⟩
set_option maxHeartbeats 1000000 in
theorem Zf0(pb:Nat)(b:Addr)(w:World)(h1:w.cell? ⟨pb,2,none⟩=some (.iface 389 (.pointer (some b)))) :
  Calls Tryz.prog 36 #[.iface 94 (.pointer (some ⟨pb,0,none⟩)),.iface 389 (.pointer (some b))] w fun e w'=>e=.returned (.bool true)∧w'=w:=by
 obtain⟨i,hi,hcmp⟩:=Option.map_eq_some_iff.1 Tryz.isComp
 obtain⟨j,hj,hjs⟩:=Option.map_eq_some_iff.1 Tryz.isSize
 have h8:=ZeX
 have h32:=Zgt
 have tT:=Tryz.isTypeOf
 have cT:=Tryz.isComparable
 have mR:=Tryz.isMethodComparable
 have nE:=Tryz.noIsE
 have uE:=Tryz.noUnwrapE
 have vE:=Tryz.noUnwrapsE
 have nW:=Tryz.noIsW
 have uW:=Tryz.hasUnwrapW
 have mU:=Tryz.methodUnwrap
 have heq:=run_eql_iface_ptr_same (P:=Tryz.prog) w b Tryz.underlying52 Tryz.underlying389 hi hcmp hj
 have hty:=run_eql_iface_types (P:=Tryz.prog) 94 389 (.pointer (some ⟨pb,0,none⟩)) (.pointer (some b)) Tryz.underlying52 (by decide) w
 go_enter Tryz.func36,Tryz.ntmps36
 go_wp2
 refine wp_loop_rounds 2 ?_
 rw[rounds_succ]
 go_wp2
 rw[rounds_succ]
 go_wp2
 go_ret
 exact⟨rfl,rfl⟩
set_option maxHeartbeats 1000000 in
theorem Zc8(pb:Nat)(b a:Addr)(ca cb:Array Value)(ta tb:TypeId)(w:World)(h1:w.cell? ⟨pb,2,none⟩=some (.iface 389 (.pointer (some a))))(hne:a≠b)(ha:w.heap[a.block]?=some (.cells ca ta (0,0)))(hb:w.heap[b.block]?=some (.cells cb tb (0,0))) :
  Calls Tryz.prog 36 #[.iface 94 (.pointer (some ⟨pb,0,none⟩)),.iface 389 (.pointer (some b))] w fun e w'=>e=.returned (.bool false)∧w'=w:=by
 obtain⟨i,hi,hcmp⟩:=Option.map_eq_some_iff.1 Tryz.isComp
 obtain⟨j,hj,hjs⟩:=Option.map_eq_some_iff.1 Tryz.isSize
 have h8:=ZeX
 have h32:=Zgt
 have tT:=Tryz.isTypeOf
 have cT:=Tryz.isComparable
 have mR:=Tryz.isMethodComparable
 have nE:=Tryz.noIsE
 have uE:=Tryz.noUnwrapE
 have vE:=Tryz.noUnwrapsE
 have nW:=Tryz.noIsW
 have uW:=Tryz.hasUnwrapW
 have mU:=Tryz.methodUnwrap
 have heq:=run_eql_iface_ptr_other (P:=Tryz.prog) w Tryz.underlying52 Tryz.underlying389 hi hcmp hj (by rw[hjs];decide) hne ha hb
 have hty:=run_eql_iface_types (P:=Tryz.prog) 94 389 (.pointer (some ⟨pb,0,none⟩)) (.pointer (some b)) Tryz.underlying52 (by decide) w
 go_enter Tryz.func36,Tryz.ntmps36
 go_wp2
 refine wp_loop_rounds 2 ?_
 rw[rounds_succ]
 go_wp2
 rw[rounds_succ]
 go_wp2
 go_ret
 exact⟨rfl,rfl⟩
theorem Zma(t:Value)(w:World) :
  Calls Tryz.prog 37 #[.nilIface,t] w fun e w'=>e=.returned (.bool false)∧w'=w:=by
 go_enter Tryz.func37,Tryz.ntmps37
 go_wp2
 go_ret
 exact⟨rfl,rfl⟩
def ZgU:Array Value→Sem Value:=fun args=>ReflectliteValue.unpack (args.getD 0 (.tuple #[]))
def ZiT : Array Value → Sem Value := ReflectliteValue.methodAny (ReflectliteValue.valueError "reflectlite.Value.Type" 0) fun t _ _ _ => ReflectliteType.toType t
def ZgS : Array Value → Sem Value := ReflectliteValue.method (ReflectliteValue.valueError "reflectlite.Value.IsNil" 0) ReflectliteValue.isNil
def ZgT:Array Value→Sem Value:=ReflectliteType.abiMethod fun t=>do pure (.int .u8 (←Rtype.kind t))
def ZiR:Array Value→Sem Value:=ReflectliteType.method ReflectliteType.elem
def ZiS : Array Value → Sem Value := ReflectliteType.relation "Implements" ReflectliteType.implements_
def ZgQ : Array Value → Sem Value := ReflectliteType.relation "AssignableTo" ReflectliteType.assignableTo
def ZgR : Array Value → Sem Value := ReflectliteValue.method (ReflectliteValue.valueError "reflectlite.Value.Elem" 0) ReflectliteValue.elem
theorem Zlz (args : Array Value) (w : World) : (callFunc 73 args).run Tryz.prog w = ((ZgU args).run Tryz.prog w).andThen fun v w' => .ok (.value v) w' :=
  run_callFunc_extern Tryz.func73 (by kernel_rfl) (by kernel_rfl) (by kernel_rfl) (by kernel_rfl) args w
theorem Zly (args : Array Value) (w : World) : (callFunc 74 args).run Tryz.prog w = ((ZiT args).run Tryz.prog w).andThen fun v w' => .ok (.value v) w' :=
  run_callFunc_extern Tryz.func74 (by kernel_rfl) (by kernel_rfl) (by kernel_rfl) (by kernel_rfl) args w
theorem Zlw (args : Array Value) (w : World) : (callFunc 75 args).run Tryz.prog w = ((ZgS args).run Tryz.prog w).andThen fun v w' => .ok (.value v) w' :=
  run_callFunc_extern Tryz.func75 (by kernel_rfl) (by kernel_rfl) (by kernel_rfl) (by kernel_rfl) args w
theorem Zlx (args : Array Value) (w : World) : (callFunc 273 args).run Tryz.prog w = ((ZgT args).run Tryz.prog w).andThen fun v w' => .ok (.value v) w' :=
  run_callFunc_extern Tryz.func273 (by kernel_rfl) (by kernel_rfl) (by kernel_rfl) (by kernel_rfl) args w
theorem Zlu (args : Array Value) (w : World) : (callFunc 290 args).run Tryz.prog w = ((ZiR args).run Tryz.prog w).andThen fun v w' => .ok (.value v) w' :=
  run_callFunc_extern Tryz.func290 (by kernel_rfl) (by kernel_rfl) (by kernel_rfl) (by kernel_rfl) args w
theorem Zlv (args : Array Value) (w : World) : (callFunc 291 args).run Tryz.prog w = ((ZiS args).run Tryz.prog w).andThen fun v w' => .ok (.value v) w' :=
  run_callFunc_extern Tryz.func291 (by kernel_rfl) (by kernel_rfl) (by kernel_rfl) (by kernel_rfl) args w
theorem Zlt (args : Array Value) (w : World) : (callFunc 288 args).run Tryz.prog w = ((ZgQ args).run Tryz.prog w).andThen fun v w' => .ok (.value v) w' :=
  run_callFunc_extern Tryz.func288 (by kernel_rfl) (by kernel_rfl) (by kernel_rfl) (by kernel_rfl) args w
theorem ZtJ (args : Array Value) (w : World) : (callFunc 118 args).run Tryz.prog w = ((ZgR args).run Tryz.prog w).andThen fun v w' => .ok (.value v) w' :=
  run_callFunc_extern Tryz.func118 (by kernel_rfl) (by kernel_rfl) (by kernel_rfl) (by kernel_rfl) args w
theorem ZtK (args : Array Value) (w : World) : (callFunc 119 args).run Tryz.prog w = ((ReflectliteValue.set args).run Tryz.prog w).andThen fun v w' => .ok (.value v) w' :=
  run_callFunc_extern Tryz.func119 (by kernel_rfl) (by kernel_rfl) (by kernel_rfl) (by kernel_rfl) args w
theorem Zi0(t:Addr)(w:World):(ZgU #[.iface 96 (.pointer (some t))]).run Tryz.prog w
  = .ok (.agg #[.pointer (some ⟨20,96,none⟩),.pointer (some ⟨w.heap.size,0,none⟩),.int .u64 150]) (w.alloc (.cells #[.pointer (some t)] 96)):=by kernel_rfl
theorem ZiZ(a:Addr)(w:World):(ZiT #[.agg #[.pointer (some ⟨20,96,none⟩),.pointer (some a),.int .u64 150]]).run Tryz.prog w
  = .ok (.iface 232 (.agg #[.pointer (some ⟨20,96,none⟩)])) w:=by kernel_rfl
theorem ZjO (h : Value) (w : World) : (Go.method 518 232 (.agg #[h]) "Kind").run Tryz.prog w = .ok (273, h) w := by kernel_rfl
theorem ZiY(w:World):(ZgT #[.pointer (some ⟨20,96,none⟩)]).run Tryz.prog w=.ok (.int .u8 22) w:=by kernel_rfl
theorem ZiX(w:World):(ZgT #[.pointer (some ⟨20,94,none⟩)]).run Tryz.prog w=.ok (.int .u8 22) w:=by kernel_rfl
theorem ZjM (h : Value) (w : World) : (Go.method 518 232 (.agg #[h]) "Elem").run Tryz.prog w = .ok (290, .agg #[h]) w := by kernel_rfl
theorem ZjN (h : Value) (w : World) : (Go.method 518 232 (.agg #[h]) "Implements").run Tryz.prog w = .ok (291, .agg #[h]) w := by kernel_rfl
theorem ZjL (h : Value) (w : World) : (Go.method 518 232 (.agg #[h]) "AssignableTo").run Tryz.prog w = .ok (288, .agg #[h]) w := by kernel_rfl
theorem ZiU(w:World):(ZiR #[.agg #[.pointer (some ⟨20,96,none⟩)]]).run Tryz.prog w=.ok (.iface 232 (.agg #[.pointer (some ⟨20,94,none⟩)])) w:=by kernel_rfl
theorem ZiV(w:World):(ZiS #[.agg #[.pointer (some ⟨20,94,none⟩)],.iface 232 (.agg #[.pointer (some ⟨20,52,none⟩)])]).run Tryz.prog w=.ok (.bool true) w:=by kernel_rfl
theorem ZnN(v:Value)(w:World):(ReflectliteType.typeOf #[.iface 94 v]).run Tryz.prog w=.ok (.iface 232 (.agg #[.pointer (some ⟨20,94,none⟩)])) w:=by kernel_rfl
theorem ZnJ(w:World):(ZgQ #[.agg #[.pointer (some ⟨20,94,none⟩)],.iface 232 (.agg #[.pointer (some ⟨20,94,none⟩)])]).run Tryz.prog w=.ok (.bool true) w:=by kernel_rfl
theorem ZnK(w:World):(ZgQ #[.agg #[.pointer (some ⟨20,389,none⟩)],.iface 232 (.agg #[.pointer (some ⟨20,94,none⟩)])]).run Tryz.prog w=.ok (.bool false) w:=by kernel_rfl
theorem ZnO(e:Addr)(w:World):(ZgU #[.iface 94 (.pointer (some e))]).run Tryz.prog w
  = .ok (.agg #[.pointer (some ⟨20,94,none⟩),.pointer (some ⟨w.heap.size,0,none⟩),.int .u64 150]) (w.alloc (.cells #[.pointer (some e)] 94)):=by kernel_rfl
theorem Zp9(v:Value)(xT:TypeId)(w:World):(Instr.typeAssert (.iface 389 v) xT 243 true).run Tryz.prog w=.ok (.tuple #[.nilIface,.bool false]) w:=run_typeAssert_lacksB Tryz.underlying243 (by kernel_rfl) (by kernel_rfl) v xT w
theorem Zke(a:Addr)(w:World):(ReflectliteValue.parts (.agg #[.pointer (some ⟨20,96,none⟩),.pointer (some a),.int .u64 150])).run Tryz.prog w=.ok (some (96,a,150)) w:=by kernel_rfl
theorem ZiW(a p:Addr)(W:World)(ha:W.cell? a=some (.pointer (some p))) :
  (ZgS #[.agg #[.pointer (some ⟨20,96,none⟩),.pointer (some a),.int .u64 150]]).run Tryz.prog W=.ok (.bool false) W:=by
 refine(congrArg (fun q=>Sem.run Tryz.prog q W) (show ZgS _=(ReflectliteValue.parts (.agg #[.pointer (some ⟨20,96,none⟩),.pointer (some a),.int .u64 150]) >>= fun r=>_) from rfl)).trans ?_
 simp only[Sem.run_bind,Zke,Result.andThen]
 simp[ReflectliteValue.isNil,loadVar,isAgg,underlying,Tryz.underlying96,ha,Result.andThen]
theorem Zqy(w:World):(Rtype.elem? 96).run Tryz.prog w=.ok (some 94) w:=by kernel_rfl
theorem Zqz(p:Addr)(w:World):(ReflectliteValue.mk 94 p ReflectliteValue.flagAddr).run Tryz.prog w=.ok (.agg #[.pointer (some ⟨20,94,none⟩),.pointer (some p),.int .u64 406]) w:=by kernel_rfl
theorem ZnL(a p:Addr)(W:World)(ha:W.cell? a=some (.pointer (some p))) :
  (ZgR #[.agg #[.pointer (some ⟨20,96,none⟩),.pointer (some a),.int .u64 150]]).run Tryz.prog W
   = .ok (.agg #[.pointer (some ⟨20,94,none⟩),.pointer (some p),.int .u64 406]) W:=by
 refine(congrArg (fun q=>Sem.run Tryz.prog q W) (show ZgR _=(ReflectliteValue.parts (.agg #[.pointer (some ⟨20,96,none⟩),.pointer (some a),.int .u64 150]) >>= fun r=>_) from rfl)).trans ?_
 simp only[Sem.run_bind,Zke,Result.andThen]
 simp[ReflectliteValue.elem,loadVar,isAgg,underlying,Tryz.underlying96,ha,Result.andThen,Zqy,Zqz]
theorem ZqB(a:Addr)(w:World):(ReflectliteValue.parts (.agg #[.pointer (some ⟨20,94,none⟩),.pointer (some a),.int .u64 406])).run Tryz.prog w=.ok (some (94,a,406)) w:=by kernel_rfl
theorem ZqA(a:Addr)(w:World):(ReflectliteValue.parts (.agg #[.pointer (some ⟨20,94,none⟩),.pointer (some a),.int .u64 150])).run Tryz.prog w=.ok (some (94,a,150)) w:=by kernel_rfl
theorem Zqx(w:World):(Rtype.directlyAssignable 94 94).run Tryz.prog w=.ok true w:=by kernel_rfl
theorem ZnM(ta b e:Addr)(old:Value)(W:World)(hb:W.cell? b=some (.pointer (some e)))(ht:W.cell? ta=some old)(hf:W.frozen? ta=false) :
  (ReflectliteValue.set #[.agg #[.pointer (some ⟨20,94,none⟩),.pointer (some ta),.int .u64 406],.agg #[.pointer (some ⟨20,94,none⟩),.pointer (some b),.int .u64 150]]).run Tryz.prog W
   = .ok (.tuple #[]) (W.setCell ta (.pointer (some e))):=by
 refine(congrArg (fun q=>Sem.run Tryz.prog q W) (show ReflectliteValue.set _=(ReflectliteValue.parts (.agg #[.pointer (some ⟨20,94,none⟩),.pointer (some ta),.int .u64 406]) >>= fun r=>ReflectliteValue.parts (.agg #[.pointer (some ⟨20,94,none⟩),.pointer (some b),.int .u64 150]) >>= fun s=>_) from rfl)).trans ?_
 simp only[Sem.run_bind,ZqB,ZqA,Result.andThen]
 simp[ReflectliteValue.flagAddr,loadVar,isAgg,underlying,Tryz.underlying94,hb,Result.andThen,Zqx,storeVar,Value.cells,storeCells,Addr.add]
 rw[run_store Tryz.prog W ta _ _ (by rfl)]
 simp[ht,hf]
set_option maxHeartbeats 4000000 in
theorem Zl8(e t:Addr)(old:Value)(w:World)(hg:w.cell? ⟨13,0,none⟩=some (.iface 232 (.agg #[.pointer (some ⟨20,52,none⟩)])))(ht0:w.cell? t=some old)(hf0:w.frozen? t=false) :
  Calls Tryz.prog 37 #[.iface 94 (.pointer (some e)),.iface 96 (.pointer (some t))] w fun ev w'=>ev=.returned (.bool true)∧w'=((((w.alloc (.cells #[.pointer (some t)] 96)).alloc (.cells #[.pointer (some ⟨20,96,none⟩),.pointer (some ⟨w.heap.size,0,none⟩),.int .u64 150] 166)).alloc (.cells #[.pointer (some ⟨20,96,none⟩),.pointer (some ⟨w.heap.size,0,none⟩),.int .u64 150] 166)).alloc (.cells #[.pointer (some e)] 94)).setCell t (.pointer (some e)):=by
 have h6:=Zlz
 have h7:=Zly
 have h8:=Zlw
 have h27:=Zlx
 have h37:=Zlu
 have h38:=Zlv
 have h10:=ZeX
 have h35:=Zlt
 have h11:=ZtJ
 have h12:=ZtK
 have tO:=ZnN
 have mA:=ZjL
 have a25:=ZnJ
 have v25:=ZnO
 have f6:=Zi0
 have f7:=ZiZ
 have mK:=ZjO
 have mE:=ZjM
 have mI:=ZjN
 have k27:=ZiY
 have k25:=ZiX
 have e27:=ZiU
 have i25:=ZiV
 have n8:=ZiW ⟨w.heap.size,0,none⟩ t ((w.alloc (.cells #[.pointer (some t)] 96)).alloc (.cells #[.pointer (some ⟨20,96,none⟩),.pointer (some ⟨w.heap.size,0,none⟩),.int .u64 150] 166)) (by simp)
 have hlt:13<w.heap.size:=World.block_lt_of_cell? _ _ hg
 have hg2:((w.alloc (.cells #[.pointer (some t)] 96)).alloc (.cells #[.pointer (some ⟨20,96,none⟩),.pointer (some ⟨w.heap.size,0,none⟩),.int .u64 150] 166)).cell? ⟨13,0,none⟩=some (.iface 232 (.agg #[.pointer (some ⟨20,52,none⟩)])):=by
  rw[World.cell?_alloc_lt _ _ ⟨13,0,none⟩ (by simp;omega),World.cell?_alloc_lt _ _ ⟨13,0,none⟩ hlt];exact hg
 have htl:=World.block_lt_of_cell? _ _ ht0
 have el:=ZnL ⟨w.heap.size,0,none⟩ t (((w.alloc (.cells #[.pointer (some t)] 96)).alloc (.cells #[.pointer (some ⟨20,96,none⟩),.pointer (some ⟨w.heap.size,0,none⟩),.int .u64 150] 166)).alloc (.cells #[.pointer (some ⟨20,96,none⟩),.pointer (some ⟨w.heap.size,0,none⟩),.int .u64 150] 166)) (by rw[World.cell?_alloc_lt _ _ ⟨w.heap.size,0,none⟩ (by simp;omega)];simp)
 have st:=ZnM t ⟨w.heap.size+1+1+1,0,none⟩ e old ((((w.alloc (.cells #[.pointer (some t)] 96)).alloc (.cells #[.pointer (some ⟨20,96,none⟩),.pointer (some ⟨w.heap.size,0,none⟩),.int .u64 150] 166)).alloc (.cells #[.pointer (some ⟨20,96,none⟩),.pointer (some ⟨w.heap.size,0,none⟩),.int .u64 150] 166)).alloc (.cells #[.pointer (some e)] 94))
  (by rw[World.cell?_alloc_at _ _ _ _ (by simp)];rfl)
  (by rw[World.cell?_alloc_lt _ _ t (by simp;omega),World.cell?_alloc_lt _ _ t (by simp;omega),World.cell?_alloc_lt _ _ t (by simp;omega),World.cell?_alloc_lt _ _ t htl];exact ht0)
  (by rw[World.frozen?_alloc_old _ _ t (by simp;omega),World.frozen?_alloc_old _ _ t (by simp;omega),World.frozen?_alloc_old _ _ t (by simp;omega),World.frozen?_alloc_old _ _ t (Nat.ne_of_lt htl)];exact hf0)
 go_enter Tryz.func37,Tryz.ntmps37
 go_wp2
 refine wp_loop_rounds 1 ?_
 rw[rounds_succ]
 go_wp2
 go_ret
 exact⟨rfl,rfl⟩
set_option maxHeartbeats 4000000 in
theorem Zl9(e t:Addr)(w:World)(hg:w.cell? ⟨13,0,none⟩=some (.iface 232 (.agg #[.pointer (some ⟨20,52,none⟩)]))) :
  Calls Tryz.prog 37 #[.iface 389 (.pointer (some e)),.iface 96 (.pointer (some t))] w fun ev w'=>ev=.returned (.bool false)∧Below w.heap.size w w':=by
 have h6:=Zlz
 have h7:=Zly
 have h8:=Zlw
 have h27:=Zlx
 have h37:=Zlu
 have h38:=Zlv
 have h10:=ZeX
 have h35:=Zlt
 have tO:=Tryz.isTypeOf
 have mA:=ZjL
 have a25:=ZnK
 have f6:=Zi0
 have f7:=ZiZ
 have mK:=ZjO
 have mE:=ZjM
 have mI:=ZjN
 have k27:=ZiY
 have k25:=ZiX
 have e27:=ZiU
 have i25:=ZiV
 have nA:=Zp9
 have uE:=Tryz.noUnwrapE
 have vE:=Tryz.noUnwrapsE
 have n8:=ZiW ⟨w.heap.size,0,none⟩ t ((w.alloc (.cells #[.pointer (some t)] 96)).alloc (.cells #[.pointer (some ⟨20,96,none⟩),.pointer (some ⟨w.heap.size,0,none⟩),.int .u64 150] 166)) (by simp)
 have hlt:13<w.heap.size:=World.block_lt_of_cell? _ _ hg
 have hg2:((w.alloc (.cells #[.pointer (some t)] 96)).alloc (.cells #[.pointer (some ⟨20,96,none⟩),.pointer (some ⟨w.heap.size,0,none⟩),.int .u64 150] 166)).cell? ⟨13,0,none⟩=some (.iface 232 (.agg #[.pointer (some ⟨20,52,none⟩)])):=by
  rw[World.cell?_alloc_lt _ _ ⟨13,0,none⟩ (by simp;omega),World.cell?_alloc_lt _ _ ⟨13,0,none⟩ hlt];exact hg
 go_enter Tryz.func37,Tryz.ntmps37
 go_wp2
 refine wp_loop_rounds 1 ?_
 rw[rounds_succ]
 go_wp2
 go_ret
 exact⟨rfl,(by repeat first|exact Below.refl _ _|assumption|refine Below.alloc ?_ ?_ _|refine Below.setCell ?_ ?_ _|refine Zk ?_ _|refine Below.drew ?_|omega|(simp;omega)|simp)⟩
end Go.Proofs.YtpbemaaghbbocaaGreatDoor
namespace Go.Proofs.YtpbemaaghbbocaaGreatDoor
open Go.RowKit LS
set_option maxHeartbeats 2000000 in
theorem Zqg(A:Nat→Addr)(m:Int)(w:World)(hv:Vars w A m) :
  Calls Tryz.prog 20 #[.nilIface] w fun e w'=>e=.returned (.int .i64 0)∧w'=w:=by
 have vLong:=hv.sent 0 (by decide)
 have vSyntax:=hv.sent 1 (by decide)
 have vDeep:=hv.sent 2 (by decide)
 have vType:=hv.sent 3 (by decide)
 have vStore:=hv.sent 4 (by decide)
 have vTwice:=hv.sent 5 (by decide)
 have vMany:=hv.sent 6 (by decide)
 have vTimes:=hv.sent 7 (by decide)
 have vCode:=hv.sent 8 (by decide)
 have vSum:=hv.sent 9 (by decide)
 have vRefer:=hv.sent 10 (by decide)
 have vStack:=hv.sent 11 (by decide)
 have vFuel:=hv.sent 12 (by decide)
 go_enter Tryz.func20,Tryz.ntmps20
 go_wp2_with fail
 refine(ZcW (A 0) _).mono ?_
 rintro e w' ⟨rfl,rfl⟩
 go_wp2_with fail
 refine(ZcW (A 1) _).mono ?_
 rintro e w' ⟨rfl,rfl⟩
 go_wp2_with fail
 refine(ZcW (A 2) _).mono ?_
 rintro e w' ⟨rfl,rfl⟩
 go_wp2_with fail
 refine(ZcW (A 3) _).mono ?_
 rintro e w' ⟨rfl,rfl⟩
 go_wp2_with fail
 refine(ZcW (A 4) _).mono ?_
 rintro e w' ⟨rfl,rfl⟩
 go_wp2_with fail
 refine(ZcW (A 5) _).mono ?_
 rintro e w' ⟨rfl,rfl⟩
 go_wp2_with fail
 refine(ZcW (A 6) _).mono ?_
 rintro e w' ⟨rfl,rfl⟩
 go_wp2_with fail
 refine(ZcW (A 7) _).mono ?_
 rintro e w' ⟨rfl,rfl⟩
 go_wp2_with fail
 refine(ZcW (A 8) _).mono ?_
 rintro e w' ⟨rfl,rfl⟩
 go_wp2_with fail
 refine(ZcW (A 9) _).mono ?_
 rintro e w' ⟨rfl,rfl⟩
 go_wp2_with fail
 refine(ZcW (A 10) _).mono ?_
 rintro e w' ⟨rfl,rfl⟩
 go_wp2_with fail
 refine(ZcW (A 11) _).mono ?_
 rintro e w' ⟨rfl,rfl⟩
 go_wp2_with fail
 refine(ZcW (A 12) _).mono ?_
 rintro e w' ⟨rfl,rfl⟩
 go_wp2
 go_ret
 exact⟨rfl,rfl⟩
set_option maxHeartbeats 2000000 in
theorem Zqe(A:Nat→Addr)(m:Int)(w:World)(hv:Vars w A m) :
  Calls Tryz.prog 20 #[.iface 389 (.pointer (some (A 0)))] w fun e w'=>e=.returned (.int .i64 1)∧w'=w:=by
 have vLong:=hv.sent 0 (by decide)
 go_enter Tryz.func20,Tryz.ntmps20
 go_wp2_with fail
 refine(ZfZ (A 0) _).mono ?_
 rintro e w' ⟨rfl,rfl⟩
 go_wp2
 go_ret
 exact⟨rfl,rfl⟩
set_option maxHeartbeats 2000000 in
theorem Zqj(A:Nat→Addr)(m:Int)(w:World)(hv:Vars w A m)(fa:Nat)(hw:w.cell? ⟨fa,2,none⟩=some (.iface 389 (.pointer (some (A 1))))) :
  Calls Tryz.prog 20 #[.iface 94 (.pointer (some ⟨fa,0,none⟩))] w fun e w'=>e=.returned (.int .i64 2)∧w'=w:=by
 have vLong:=hv.sent 0 (by decide)
 have vSyntax:=hv.sent 1 (by decide)
 obtain⟨cLong,Zbo,rLong⟩:=hv.row 0 (by decide)
 obtain⟨cSyntax,Zbk,rSyntax⟩:=hv.row 1 (by decide)
 go_enter Tryz.func20,Tryz.ntmps20
 go_wp2_with fail
 refine(Zc8 fa (A 0) (A 1) cSyntax cLong Zbk Zbo _ hw (hv.apart _ (by decide) _ (by decide) (by decide)) rSyntax rLong).mono ?_
 rintro e w' ⟨rfl,rfl⟩
 go_wp2_with fail
 refine(Zf0 fa (A 1) _ hw).mono ?_
 rintro e w' ⟨rfl,rfl⟩
 go_wp2
 go_ret
 exact⟨rfl,rfl⟩
set_option maxHeartbeats 2000000 in
theorem Zqd(A:Nat→Addr)(m:Int)(w:World)(hv:Vars w A m)(fa:Nat)(hw:w.cell? ⟨fa,2,none⟩=some (.iface 389 (.pointer (some (A 2))))) :
  Calls Tryz.prog 20 #[.iface 94 (.pointer (some ⟨fa,0,none⟩))] w fun e w'=>e=.returned (.int .i64 3)∧w'=w:=by
 have vLong:=hv.sent 0 (by decide)
 have vSyntax:=hv.sent 1 (by decide)
 have vDeep:=hv.sent 2 (by decide)
 obtain⟨cLong,Zbo,rLong⟩:=hv.row 0 (by decide)
 obtain⟨cSyntax,Zbk,rSyntax⟩:=hv.row 1 (by decide)
 obtain⟨cDeep,Zbn,rDeep⟩:=hv.row 2 (by decide)
 go_enter Tryz.func20,Tryz.ntmps20
 go_wp2_with fail
 refine(Zc8 fa (A 0) (A 2) cDeep cLong Zbn Zbo _ hw (hv.apart _ (by decide) _ (by decide) (by decide)) rDeep rLong).mono ?_
 rintro e w' ⟨rfl,rfl⟩
 go_wp2_with fail
 refine(Zc8 fa (A 1) (A 2) cDeep cSyntax Zbn Zbk _ hw (hv.apart _ (by decide) _ (by decide) (by decide)) rDeep rSyntax).mono ?_
 rintro e w' ⟨rfl,rfl⟩
 go_wp2_with fail
 refine(Zf0 fa (A 2) _ hw).mono ?_
 rintro e w' ⟨rfl,rfl⟩
 go_wp2
 go_ret
 exact⟨rfl,rfl⟩
set_option maxHeartbeats 2000000 in
theorem Zqm(A:Nat→Addr)(m:Int)(w:World)(hv:Vars w A m) :
  Calls Tryz.prog 20 #[.iface 389 (.pointer (some (A 3)))] w fun e w'=>e=.returned (.int .i64 4)∧w'=w:=by
 have vLong:=hv.sent 0 (by decide)
 have vSyntax:=hv.sent 1 (by decide)
 have vDeep:=hv.sent 2 (by decide)
 have vType:=hv.sent 3 (by decide)
 obtain⟨cLong,Zbo,rLong⟩:=hv.row 0 (by decide)
 obtain⟨cSyntax,Zbk,rSyntax⟩:=hv.row 1 (by decide)
 obtain⟨cDeep,Zbn,rDeep⟩:=hv.row 2 (by decide)
 obtain⟨cType,Zbs,rType⟩:=hv.row 3 (by decide)
 go_enter Tryz.func20,Tryz.ntmps20
 go_wp2_with fail
 refine(Zcj (A 3) (A 0) cType cLong Zbs Zbo _ (hv.apart _ (by decide) _ (by decide) (by decide)) rType rLong).mono ?_
 rintro e w' ⟨rfl,rfl⟩
 go_wp2_with fail
 refine(Zcj (A 3) (A 1) cType cSyntax Zbs Zbk _ (hv.apart _ (by decide) _ (by decide) (by decide)) rType rSyntax).mono ?_
 rintro e w' ⟨rfl,rfl⟩
 go_wp2_with fail
 refine(Zcj (A 3) (A 2) cType cDeep Zbs Zbn _ (hv.apart _ (by decide) _ (by decide) (by decide)) rType rDeep).mono ?_
 rintro e w' ⟨rfl,rfl⟩
 go_wp2_with fail
 refine(ZfZ (A 3) _).mono ?_
 rintro e w' ⟨rfl,rfl⟩
 go_wp2
 go_ret
 exact⟨rfl,rfl⟩
end Go.Proofs.YtpbemaaghbbocaaGreatDoor

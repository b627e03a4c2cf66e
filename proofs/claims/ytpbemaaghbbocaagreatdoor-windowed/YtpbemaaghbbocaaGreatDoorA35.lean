/- Parts. -/
import Derived.Test.YtpbemaaghbbocaaGreatDoorA00
import Derived.Test.YtpbemaaghbbocaaGreatDoorA01
import Derived.LaidEql
import Derived.Stop.Asserts
import Derived.RowKitTokens
namespace Go.Proofs.YtpbemaaghbbocaaGreatDoor
open Go.RowKit Go.Extern.Stop Go.Stop Go.Extern LS
def entCmp : Array Value → Sem Value := ReflectliteType.method fun t => do Rtype.noPackHeld "Comparable" t; pure (.bool (← typeInfo t).comparable)
theorem Tryz.isTypeOf (v : Value) (w : World) : (Extern.ReflectliteType.typeOf #[.iface 389 v]).run Tryz.prog w = .ok (.iface 232 (.agg #[.pointer (some ⟨20, 389, none⟩)])) w := by kernel_rfl
theorem Tryz.isComparable (w : World) : (entCmp #[.agg #[.pointer (some ⟨20, 389, none⟩)]]).run Tryz.prog w = .ok (.bool true) w := by kernel_rfl
theorem Tryz.isMethodComparable (v : Value) (w : World) : (Go.method 518 232 v "Comparable").run Tryz.prog w = .ok (289, v) w := by kernel_rfl
theorem Tryz.isComp : (Tryz.prog.info? 389).map (·.comparable) = some true := by kernel_rfl
theorem Tryz.isSize : (Tryz.prog.info? 407).map (·.size) = some 1 := by kernel_rfl
theorem Tryz.noIsE (v : Value) (xT : TypeId) (w : World) : (Instr.typeAssert (.iface 389 v) xT 234 true).run Tryz.prog w = .ok (.tuple #[.nilIface, .bool false]) w := run_typeAssert_lacksB Tryz.underlying234 (by kernel_rfl) (by kernel_rfl) v xT w
theorem Tryz.noUnwrapE (v : Value) (xT : TypeId) (w : World) : (Instr.typeAssert (.iface 389 v) xT 237 true).run Tryz.prog w = .ok (.tuple #[.nilIface, .bool false]) w := run_typeAssert_lacksB Tryz.underlying237 (by kernel_rfl) (by kernel_rfl) v xT w
theorem Tryz.noUnwrapsE (v : Value) (xT : TypeId) (w : World) : (Instr.typeAssert (.iface 389 v) xT 238 true).run Tryz.prog w = .ok (.tuple #[.nilIface, .bool false]) w := run_typeAssert_lacksB Tryz.underlying238 (by kernel_rfl) (by kernel_rfl) v xT w
theorem Tryz.noIsW (v : Value) (xT : TypeId) (w : World) : (Instr.typeAssert (.iface 94 v) xT 234 true).run Tryz.prog w = .ok (.tuple #[.nilIface, .bool false]) w := run_typeAssert_lacksB Tryz.underlying234 (by kernel_rfl) (by kernel_rfl) v xT w
theorem Tryz.hasUnwrapW (v : Value) (xT : TypeId) (w : World) : (Instr.typeAssert (.iface 94 v) xT 237 true).run Tryz.prog w = .ok (.tuple #[.iface 94 v, .bool true]) w := run_typeAssert_hasB Tryz.underlying237 (by kernel_rfl) v xT w
theorem Tryz.methodUnwrap (v : Value) (w : World) : (Go.method 518 94 v "Unwrap").run Tryz.prog w = .ok (277, v) w := by kernel_rfl
theorem x_typeOf (args : Array Value) (w : World) : (callFunc 71 args).run Tryz.prog w = ((ReflectliteType.typeOf args).run Tryz.prog w).andThen fun v w' => .ok (.value v) w' :=
  run_callFunc_extern Tryz.func71 (by kernel_rfl) (by kernel_rfl) (by kernel_rfl) (by kernel_rfl) args w
theorem x_cmp (args : Array Value) (w : World) : (callFunc 289 args).run Tryz.prog w = ((entCmp args).run Tryz.prog w).andThen fun v w' => .ok (.value v) w' :=
  run_callFunc_extern Tryz.func289 (by kernel_rfl) (by kernel_rfl) (by kernel_rfl) (by kernel_rfl) args w
set_option maxHeartbeats 1000000 in
theorem is_same (a : Addr) (w : World) :
    Calls Tryz.prog 36 #[.iface 389 (.pointer (some a)), .iface 389 (.pointer (some a))] w fun e w' => e = .returned (.bool true) ∧ w' = w := by
  obtain ⟨i, hi, hcmp⟩ := Option.map_eq_some_iff.1 Tryz.isComp
  obtain ⟨j, hj, hjs⟩ := Option.map_eq_some_iff.1 Tryz.isSize
  have h8 := x_typeOf
  have h32 := x_cmp
  have tT := Tryz.isTypeOf
  have cT := Tryz.isComparable
  have mR := Tryz.isMethodComparable
  have heq := run_eql_iface_ptr_same (P := Tryz.prog) w a Tryz.underlying52 Tryz.underlying389 hi hcmp hj
  go_enter Tryz.func36, Tryz.ntmps36
  go_wp2
  refine wp_loop_rounds 1 ?_
  rw [rounds_succ]
  go_wp2
  go_ret
  exact ⟨rfl, rfl⟩
theorem is_nil (b : Addr) (w : World) :
    Calls Tryz.prog 36 #[.nilIface, .iface 389 (.pointer (some b))] w fun e w' => e = .returned (.bool false) ∧ w' = w := by
  have hn := run_eql_iface_nil_left (P := Tryz.prog) w 389 (.pointer (some b)) Tryz.underlying52
  go_enter Tryz.func36, Tryz.ntmps36
  go_wp2
  go_ret
  exact ⟨rfl, rfl⟩
set_option maxHeartbeats 1000000 in
theorem is_other (a b : Addr) (ca cb : Array Value) (ta tb : TypeId) (w : World) (hne : a ≠ b) (ha : w.heap[a.block]? = some (.cells ca ta (0, 0))) (hb : w.heap[b.block]? = some (.cells cb tb (0, 0))) :
    Calls Tryz.prog 36 #[.iface 389 (.pointer (some a)), .iface 389 (.pointer (some b))] w fun e w' => e = .returned (.bool false) ∧ w' = w := by
  obtain ⟨i, hi, hcmp⟩ := Option.map_eq_some_iff.1 Tryz.isComp
  obtain ⟨j, hj, hjs⟩ := Option.map_eq_some_iff.1 Tryz.isSize
  have h8 := x_typeOf
  have h32 := x_cmp
  have tT := Tryz.isTypeOf
  have cT := Tryz.isComparable
  have mR := Tryz.isMethodComparable
  have nE := Tryz.noIsE
  have uE := Tryz.noUnwrapE
  have vE := Tryz.noUnwrapsE
  have nW := Tryz.noIsW
  have uW := Tryz.hasUnwrapW
  have mU := Tryz.methodUnwrap
  have heq := run_eql_iface_ptr_other (P := Tryz.prog) w Tryz.underlying52 Tryz.underlying389 hi hcmp hj (by rw [hjs]; decide) hne ha hb
  go_enter Tryz.func36, Tryz.ntmps36
  go_wp2
  refine wp_loop_rounds 1 ?_
  rw [rounds_succ]
  go_wp2
  go_ret
  exact ⟨rfl, rfl⟩
set_option maxHeartbeats 1000000 in
theorem is_wrap_same (pb : Nat) (b : Addr) (w : World) (h1 : w.cell? ⟨pb, 2, none⟩ = some (.iface 389 (.pointer (some b)))) :
    Calls Tryz.prog 36 #[.iface 94 (.pointer (some ⟨pb, 0, none⟩)), .iface 389 (.pointer (some b))] w fun e w' => e = .returned (.bool true) ∧ w' = w := by
  obtain ⟨i, hi, hcmp⟩ := Option.map_eq_some_iff.1 Tryz.isComp
  obtain ⟨j, hj, hjs⟩ := Option.map_eq_some_iff.1 Tryz.isSize
  have h8 := x_typeOf
  have h32 := x_cmp
  have tT := Tryz.isTypeOf
  have cT := Tryz.isComparable
  have mR := Tryz.isMethodComparable
  have nE := Tryz.noIsE
  have uE := Tryz.noUnwrapE
  have vE := Tryz.noUnwrapsE
  have nW := Tryz.noIsW
  have uW := Tryz.hasUnwrapW
  have mU := Tryz.methodUnwrap
  have heq := run_eql_iface_ptr_same (P := Tryz.prog) w b Tryz.underlying52 Tryz.underlying389 hi hcmp hj
  have hty := run_eql_iface_types (P := Tryz.prog) 94 389 (.pointer (some ⟨pb, 0, none⟩)) (.pointer (some b)) Tryz.underlying52 (by decide) w
  go_enter Tryz.func36, Tryz.ntmps36
  go_wp2
  refine wp_loop_rounds 2 ?_
  rw [rounds_succ]
  go_wp2
  rw [rounds_succ]
  go_wp2
  go_ret
  exact ⟨rfl, rfl⟩
set_option maxHeartbeats 1000000 in
theorem is_wrap_other (pb : Nat) (b a : Addr) (ca cb : Array Value) (ta tb : TypeId) (w : World) (h1 : w.cell? ⟨pb, 2, none⟩ = some (.iface 389 (.pointer (some a)))) (hne : a ≠ b) (ha : w.heap[a.block]? = some (.cells ca ta (0, 0))) (hb : w.heap[b.block]? = some (.cells cb tb (0, 0))) :
    Calls Tryz.prog 36 #[.iface 94 (.pointer (some ⟨pb, 0, none⟩)), .iface 389 (.pointer (some b))] w fun e w' => e = .returned (.bool false) ∧ w' = w := by
  obtain ⟨i, hi, hcmp⟩ := Option.map_eq_some_iff.1 Tryz.isComp
  obtain ⟨j, hj, hjs⟩ := Option.map_eq_some_iff.1 Tryz.isSize
  have h8 := x_typeOf
  have h32 := x_cmp
  have tT := Tryz.isTypeOf
  have cT := Tryz.isComparable
  have mR := Tryz.isMethodComparable
  have nE := Tryz.noIsE
  have uE := Tryz.noUnwrapE
  have vE := Tryz.noUnwrapsE
  have nW := Tryz.noIsW
  have uW := Tryz.hasUnwrapW
  have mU := Tryz.methodUnwrap
  have heq := run_eql_iface_ptr_other (P := Tryz.prog) w Tryz.underlying52 Tryz.underlying389 hi hcmp hj (by rw [hjs]; decide) hne ha hb
  have hty := run_eql_iface_types (P := Tryz.prog) 94 389 (.pointer (some ⟨pb, 0, none⟩)) (.pointer (some b)) Tryz.underlying52 (by decide) w
  go_enter Tryz.func36, Tryz.ntmps36
  go_wp2
  refine wp_loop_rounds 2 ?_
  rw [rounds_succ]
  go_wp2
  rw [rounds_succ]
  go_wp2
  go_ret
  exact ⟨rfl, rfl⟩
theorem as_nil (t : Value) (w : World) :
    Calls Tryz.prog 37 #[.nilIface, t] w fun e w' => e = .returned (.bool false) ∧ w' = w := by
  go_enter Tryz.func37, Tryz.ntmps37
  go_wp2
  go_ret
  exact ⟨rfl, rfl⟩
def entValueOf : Array Value → Sem Value := fun args => ReflectliteValue.unpack (args.getD 0 (.tuple #[]))
def entType : Array Value → Sem Value := ReflectliteValue.methodAny (ReflectliteValue.valueError "reflectlite.Value.Type" 0) fun t _ _ _ => ReflectliteType.toType t
def entIsNil : Array Value → Sem Value := ReflectliteValue.method (ReflectliteValue.valueError "reflectlite.Value.IsNil" 0) ReflectliteValue.isNil
def entKind : Array Value → Sem Value := ReflectliteType.abiMethod fun t => do pure (.int .u8 (← Rtype.kind t))
def entElem : Array Value → Sem Value := ReflectliteType.method ReflectliteType.elem
def entImpl : Array Value → Sem Value := ReflectliteType.relation "Implements" ReflectliteType.implements_
def entAssign : Array Value → Sem Value := ReflectliteType.relation "AssignableTo" ReflectliteType.assignableTo
def entElemV : Array Value → Sem Value := ReflectliteValue.method (ReflectliteValue.valueError "reflectlite.Value.Elem" 0) ReflectliteValue.elem
theorem x_valueOf (args : Array Value) (w : World) : (callFunc 73 args).run Tryz.prog w = ((entValueOf args).run Tryz.prog w).andThen fun v w' => .ok (.value v) w' :=
  run_callFunc_extern Tryz.func73 (by kernel_rfl) (by kernel_rfl) (by kernel_rfl) (by kernel_rfl) args w
theorem x_type (args : Array Value) (w : World) : (callFunc 74 args).run Tryz.prog w = ((entType args).run Tryz.prog w).andThen fun v w' => .ok (.value v) w' :=
  run_callFunc_extern Tryz.func74 (by kernel_rfl) (by kernel_rfl) (by kernel_rfl) (by kernel_rfl) args w
theorem x_isNil (args : Array Value) (w : World) : (callFunc 75 args).run Tryz.prog w = ((entIsNil args).run Tryz.prog w).andThen fun v w' => .ok (.value v) w' :=
  run_callFunc_extern Tryz.func75 (by kernel_rfl) (by kernel_rfl) (by kernel_rfl) (by kernel_rfl) args w
theorem x_kind (args : Array Value) (w : World) : (callFunc 273 args).run Tryz.prog w = ((entKind args).run Tryz.prog w).andThen fun v w' => .ok (.value v) w' :=
  run_callFunc_extern Tryz.func273 (by kernel_rfl) (by kernel_rfl) (by kernel_rfl) (by kernel_rfl) args w
theorem x_elem (args : Array Value) (w : World) : (callFunc 290 args).run Tryz.prog w = ((entElem args).run Tryz.prog w).andThen fun v w' => .ok (.value v) w' :=
  run_callFunc_extern Tryz.func290 (by kernel_rfl) (by kernel_rfl) (by kernel_rfl) (by kernel_rfl) args w
theorem x_impl (args : Array Value) (w : World) : (callFunc 291 args).run Tryz.prog w = ((entImpl args).run Tryz.prog w).andThen fun v w' => .ok (.value v) w' :=
  run_callFunc_extern Tryz.func291 (by kernel_rfl) (by kernel_rfl) (by kernel_rfl) (by kernel_rfl) args w
theorem x_assign (args : Array Value) (w : World) : (callFunc 288 args).run Tryz.prog w = ((entAssign args).run Tryz.prog w).andThen fun v w' => .ok (.value v) w' :=
  run_callFunc_extern Tryz.func288 (by kernel_rfl) (by kernel_rfl) (by kernel_rfl) (by kernel_rfl) args w
theorem x_elemV (args : Array Value) (w : World) : (callFunc 118 args).run Tryz.prog w = ((entElemV args).run Tryz.prog w).andThen fun v w' => .ok (.value v) w' :=
  run_callFunc_extern Tryz.func118 (by kernel_rfl) (by kernel_rfl) (by kernel_rfl) (by kernel_rfl) args w
theorem x_set (args : Array Value) (w : World) : (callFunc 119 args).run Tryz.prog w = ((ReflectliteValue.set args).run Tryz.prog w).andThen fun v w' => .ok (.value v) w' :=
  run_callFunc_extern Tryz.func119 (by kernel_rfl) (by kernel_rfl) (by kernel_rfl) (by kernel_rfl) args w
theorem f_valueOf2 (t : Addr) (w : World) : (entValueOf #[.iface 96 (.pointer (some t))]).run Tryz.prog w
    = .ok (.agg #[.pointer (some ⟨20, 96, none⟩), .pointer (some ⟨w.heap.size, 0, none⟩), .int .u64 150]) (w.alloc (.cells #[.pointer (some t)] 96)) := by kernel_rfl
theorem f_type2 (a : Addr) (w : World) : (entType #[.agg #[.pointer (some ⟨20, 96, none⟩), .pointer (some a), .int .u64 150]]).run Tryz.prog w
    = .ok (.iface 232 (.agg #[.pointer (some ⟨20, 96, none⟩)])) w := by kernel_rfl
theorem m_kind (h : Value) (w : World) : (Go.method 518 232 (.agg #[h]) "Kind").run Tryz.prog w = .ok (273, h) w := by kernel_rfl
theorem f_kind2 (w : World) : (entKind #[.pointer (some ⟨20, 96, none⟩)]).run Tryz.prog w = .ok (.int .u8 22) w := by kernel_rfl
theorem f_kind1 (w : World) : (entKind #[.pointer (some ⟨20, 94, none⟩)]).run Tryz.prog w = .ok (.int .u8 22) w := by kernel_rfl
theorem m_elem (h : Value) (w : World) : (Go.method 518 232 (.agg #[h]) "Elem").run Tryz.prog w = .ok (290, .agg #[h]) w := by kernel_rfl
theorem m_impl (h : Value) (w : World) : (Go.method 518 232 (.agg #[h]) "Implements").run Tryz.prog w = .ok (291, .agg #[h]) w := by kernel_rfl
theorem m_assign (h : Value) (w : World) : (Go.method 518 232 (.agg #[h]) "AssignableTo").run Tryz.prog w = .ok (288, .agg #[h]) w := by kernel_rfl
theorem f_elem2 (w : World) : (entElem #[.agg #[.pointer (some ⟨20, 96, none⟩)]]).run Tryz.prog w = .ok (.iface 232 (.agg #[.pointer (some ⟨20, 94, none⟩)])) w := by kernel_rfl
theorem f_impl1 (w : World) : (entImpl #[.agg #[.pointer (some ⟨20, 94, none⟩)], .iface 232 (.agg #[.pointer (some ⟨20, 52, none⟩)])]).run Tryz.prog w = .ok (.bool true) w := by kernel_rfl
theorem f_typeOf1 (v : Value) (w : World) : (ReflectliteType.typeOf #[.iface 94 v]).run Tryz.prog w = .ok (.iface 232 (.agg #[.pointer (some ⟨20, 94, none⟩)])) w := by kernel_rfl
theorem f_assign1 (w : World) : (entAssign #[.agg #[.pointer (some ⟨20, 94, none⟩)], .iface 232 (.agg #[.pointer (some ⟨20, 94, none⟩)])]).run Tryz.prog w = .ok (.bool true) w := by kernel_rfl
theorem f_assignE (w : World) : (entAssign #[.agg #[.pointer (some ⟨20, 389, none⟩)], .iface 232 (.agg #[.pointer (some ⟨20, 94, none⟩)])]).run Tryz.prog w = .ok (.bool false) w := by kernel_rfl
theorem f_valueOf1 (e : Addr) (w : World) : (entValueOf #[.iface 94 (.pointer (some e))]).run Tryz.prog w
    = .ok (.agg #[.pointer (some ⟨20, 94, none⟩), .pointer (some ⟨w.heap.size, 0, none⟩), .int .u64 150]) (w.alloc (.cells #[.pointer (some e)] 94)) := by kernel_rfl
theorem noAsE (v : Value) (xT : TypeId) (w : World) : (Instr.typeAssert (.iface 389 v) xT 243 true).run Tryz.prog w = .ok (.tuple #[.nilIface, .bool false]) w := run_typeAssert_lacksB Tryz.underlying243 (by kernel_rfl) (by kernel_rfl) v xT w
theorem p_two (a : Addr) (w : World) : (ReflectliteValue.parts (.agg #[.pointer (some ⟨20, 96, none⟩), .pointer (some a), .int .u64 150])).run Tryz.prog w = .ok (some (96, a, 150)) w := by kernel_rfl
theorem f_isNil2 (a p : Addr) (W : World) (ha : W.cell? a = some (.pointer (some p))) :
    (entIsNil #[.agg #[.pointer (some ⟨20, 96, none⟩), .pointer (some a), .int .u64 150]]).run Tryz.prog W = .ok (.bool false) W := by
  refine (congrArg (fun q => Sem.run Tryz.prog q W) (show entIsNil _ = (ReflectliteValue.parts (.agg #[.pointer (some ⟨20, 96, none⟩), .pointer (some a), .int .u64 150]) >>= fun r => _) from rfl)).trans ?_
  simp only [Sem.run_bind, p_two, Result.andThen]
  simp [ReflectliteValue.isNil, loadVar, isAgg, underlying, Tryz.underlying96, ha, Result.andThen]
theorem p_elem2 (w : World) : (Rtype.elem? 96).run Tryz.prog w = .ok (some 94) w := by kernel_rfl
theorem p_mk1 (p : Addr) (w : World) : (ReflectliteValue.mk 94 p ReflectliteValue.flagAddr).run Tryz.prog w = .ok (.agg #[.pointer (some ⟨20, 94, none⟩), .pointer (some p), .int .u64 406]) w := by kernel_rfl
theorem f_elemV2 (a p : Addr) (W : World) (ha : W.cell? a = some (.pointer (some p))) :
    (entElemV #[.agg #[.pointer (some ⟨20, 96, none⟩), .pointer (some a), .int .u64 150]]).run Tryz.prog W
      = .ok (.agg #[.pointer (some ⟨20, 94, none⟩), .pointer (some p), .int .u64 406]) W := by
  refine (congrArg (fun q => Sem.run Tryz.prog q W) (show entElemV _ = (ReflectliteValue.parts (.agg #[.pointer (some ⟨20, 96, none⟩), .pointer (some a), .int .u64 150]) >>= fun r => _) from rfl)).trans ?_
  simp only [Sem.run_bind, p_two, Result.andThen]
  simp [ReflectliteValue.elem, loadVar, isAgg, underlying, Tryz.underlying96, ha, Result.andThen, p_elem2, p_mk1]
theorem p_oneA (a : Addr) (w : World) : (ReflectliteValue.parts (.agg #[.pointer (some ⟨20, 94, none⟩), .pointer (some a), .int .u64 406])).run Tryz.prog w = .ok (some (94, a, 406)) w := by kernel_rfl
theorem p_one (a : Addr) (w : World) : (ReflectliteValue.parts (.agg #[.pointer (some ⟨20, 94, none⟩), .pointer (some a), .int .u64 150])).run Tryz.prog w = .ok (some (94, a, 150)) w := by kernel_rfl
theorem p_direct (w : World) : (Rtype.directlyAssignable 94 94).run Tryz.prog w = .ok true w := by kernel_rfl
theorem f_set1 (ta b e : Addr) (old : Value) (W : World) (hb : W.cell? b = some (.pointer (some e))) (ht : W.cell? ta = some old) (hf : W.frozen? ta = false) :
    (ReflectliteValue.set #[.agg #[.pointer (some ⟨20, 94, none⟩), .pointer (some ta), .int .u64 406], .agg #[.pointer (some ⟨20, 94, none⟩), .pointer (some b), .int .u64 150]]).run Tryz.prog W
      = .ok (.tuple #[]) (W.setCell ta (.pointer (some e))) := by
  refine (congrArg (fun q => Sem.run Tryz.prog q W) (show ReflectliteValue.set _ = (ReflectliteValue.parts (.agg #[.pointer (some ⟨20, 94, none⟩), .pointer (some ta), .int .u64 406]) >>= fun r => ReflectliteValue.parts (.agg #[.pointer (some ⟨20, 94, none⟩), .pointer (some b), .int .u64 150]) >>= fun s => _) from rfl)).trans ?_
  simp only [Sem.run_bind, p_oneA, p_one, Result.andThen]
  simp [ReflectliteValue.flagAddr, loadVar, isAgg, underlying, Tryz.underlying94, hb, Result.andThen, p_direct, storeVar, Value.cells, storeCells, Addr.add]
  rw [run_store Tryz.prog W ta _ _ (by rfl)]
  simp [ht, hf]
set_option maxHeartbeats 4000000 in
theorem as_hit (e t : Addr) (old : Value) (w : World) (hg : w.cell? ⟨13, 0, none⟩ = some (.iface 232 (.agg #[.pointer (some ⟨20, 52, none⟩)]))) (ht0 : w.cell? t = some old) (hf0 : w.frozen? t = false) :
    Calls Tryz.prog 37 #[.iface 94 (.pointer (some e)), .iface 96 (.pointer (some t))] w fun ev w' => ev = .returned (.bool true) ∧ w' = ((((w.alloc (.cells #[.pointer (some t)] 96)).alloc (.cells #[.pointer (some ⟨20, 96, none⟩), .pointer (some ⟨w.heap.size, 0, none⟩), .int .u64 150] 166)).alloc (.cells #[.pointer (some ⟨20, 96, none⟩), .pointer (some ⟨w.heap.size, 0, none⟩), .int .u64 150] 166)).alloc (.cells #[.pointer (some e)] 94)).setCell t (.pointer (some e)) := by
  have h6 := x_valueOf
  have h7 := x_type
  have h8 := x_isNil
  have h27 := x_kind
  have h37 := x_elem
  have h38 := x_impl
  have h10 := x_typeOf
  have h35 := x_assign
  have h11 := x_elemV
  have h12 := x_set
  have tO := f_typeOf1
  have mA := m_assign
  have a25 := f_assign1
  have v25 := f_valueOf1
  have f6 := f_valueOf2
  have f7 := f_type2
  have mK := m_kind
  have mE := m_elem
  have mI := m_impl
  have k27 := f_kind2
  have k25 := f_kind1
  have e27 := f_elem2
  have i25 := f_impl1
  have n8 := f_isNil2 ⟨w.heap.size, 0, none⟩ t ((w.alloc (.cells #[.pointer (some t)] 96)).alloc (.cells #[.pointer (some ⟨20, 96, none⟩), .pointer (some ⟨w.heap.size, 0, none⟩), .int .u64 150] 166)) (by simp)
  have hlt : 13 < w.heap.size := World.block_lt_of_cell? _ _ hg
  have hg2 : ((w.alloc (.cells #[.pointer (some t)] 96)).alloc (.cells #[.pointer (some ⟨20, 96, none⟩), .pointer (some ⟨w.heap.size, 0, none⟩), .int .u64 150] 166)).cell? ⟨13, 0, none⟩ = some (.iface 232 (.agg #[.pointer (some ⟨20, 52, none⟩)])) := by
    rw [World.cell?_alloc_lt _ _ ⟨13, 0, none⟩ (by simp; omega), World.cell?_alloc_lt _ _ ⟨13, 0, none⟩ hlt]; exact hg
  have htl := World.block_lt_of_cell? _ _ ht0
  have el := f_elemV2 ⟨w.heap.size, 0, none⟩ t (((w.alloc (.cells #[.pointer (some t)] 96)).alloc (.cells #[.pointer (some ⟨20, 96, none⟩), .pointer (some ⟨w.heap.size, 0, none⟩), .int .u64 150] 166)).alloc (.cells #[.pointer (some ⟨20, 96, none⟩), .pointer (some ⟨w.heap.size, 0, none⟩), .int .u64 150] 166)) (by rw [World.cell?_alloc_lt _ _ ⟨w.heap.size, 0, none⟩ (by simp; omega)]; simp)
  have st := f_set1 t ⟨w.heap.size + 1 + 1 + 1, 0, none⟩ e old ((((w.alloc (.cells #[.pointer (some t)] 96)).alloc (.cells #[.pointer (some ⟨20, 96, none⟩), .pointer (some ⟨w.heap.size, 0, none⟩), .int .u64 150] 166)).alloc (.cells #[.pointer (some ⟨20, 96, none⟩), .pointer (some ⟨w.heap.size, 0, none⟩), .int .u64 150] 166)).alloc (.cells #[.pointer (some e)] 94))
    (by rw [World.cell?_alloc_at _ _ _ _ (by simp)]; rfl)
    (by rw [World.cell?_alloc_lt _ _ t (by simp; omega), World.cell?_alloc_lt _ _ t (by simp; omega), World.cell?_alloc_lt _ _ t (by simp; omega), World.cell?_alloc_lt _ _ t htl]; exact ht0)
    (by rw [World.frozen?_alloc_old _ _ t (by simp; omega), World.frozen?_alloc_old _ _ t (by simp; omega), World.frozen?_alloc_old _ _ t (by simp; omega), World.frozen?_alloc_old _ _ t (Nat.ne_of_lt htl)]; exact hf0)
  go_enter Tryz.func37, Tryz.ntmps37
  go_wp2
  refine wp_loop_rounds 1 ?_
  rw [rounds_succ]
  go_wp2
  go_ret
  exact ⟨rfl, rfl⟩
set_option maxHeartbeats 4000000 in
theorem as_miss (e t : Addr) (w : World) (hg : w.cell? ⟨13, 0, none⟩ = some (.iface 232 (.agg #[.pointer (some ⟨20, 52, none⟩)]))) :
    Calls Tryz.prog 37 #[.iface 389 (.pointer (some e)), .iface 96 (.pointer (some t))] w fun ev w' => ev = .returned (.bool false) ∧ Below w.heap.size w w' := by
  have h6 := x_valueOf
  have h7 := x_type
  have h8 := x_isNil
  have h27 := x_kind
  have h37 := x_elem
  have h38 := x_impl
  have h10 := x_typeOf
  have h35 := x_assign
  have tO := Tryz.isTypeOf
  have mA := m_assign
  have a25 := f_assignE
  have f6 := f_valueOf2
  have f7 := f_type2
  have mK := m_kind
  have mE := m_elem
  have mI := m_impl
  have k27 := f_kind2
  have k25 := f_kind1
  have e27 := f_elem2
  have i25 := f_impl1
  have nA := noAsE
  have uE := Tryz.noUnwrapE
  have vE := Tryz.noUnwrapsE
  have n8 := f_isNil2 ⟨w.heap.size, 0, none⟩ t ((w.alloc (.cells #[.pointer (some t)] 96)).alloc (.cells #[.pointer (some ⟨20, 96, none⟩), .pointer (some ⟨w.heap.size, 0, none⟩), .int .u64 150] 166)) (by simp)
  have hlt : 13 < w.heap.size := World.block_lt_of_cell? _ _ hg
  have hg2 : ((w.alloc (.cells #[.pointer (some t)] 96)).alloc (.cells #[.pointer (some ⟨20, 96, none⟩), .pointer (some ⟨w.heap.size, 0, none⟩), .int .u64 150] 166)).cell? ⟨13, 0, none⟩ = some (.iface 232 (.agg #[.pointer (some ⟨20, 52, none⟩)])) := by
    rw [World.cell?_alloc_lt _ _ ⟨13, 0, none⟩ (by simp; omega), World.cell?_alloc_lt _ _ ⟨13, 0, none⟩ hlt]; exact hg
  go_enter Tryz.func37, Tryz.ntmps37
  go_wp2
  refine wp_loop_rounds 1 ?_
  rw [rounds_succ]
  go_wp2
  go_ret
  exact ⟨rfl, (by repeat (first | exact Below.refl _ _ | assumption | refine Below.alloc ?_ (by first | omega | (simp; omega) | simp) _ | refine Below.setCell ?_ (by first | omega | (simp; omega) | simp) _ | refine below_drewN' ?_ _ | refine Below.drew ?_))⟩
end Go.Proofs.YtpbemaaghbbocaaGreatDoor
namespace Go.Proofs.YtpbemaaghbbocaaGreatDoor
open Go.RowKit LS
set_option maxHeartbeats 2000000 in
theorem number_nil (A : Nat → Addr) (m : Int) (w : World) (hv : Vars w A m) :
    Calls Tryz.prog 20 #[.nilIface] w fun e w' => e = .returned (.int .i64 0) ∧ w' = w := by
  have vLong := hv.sent 0 (by decide)
  have vSyntax := hv.sent 1 (by decide)
  have vDeep := hv.sent 2 (by decide)
  have vType := hv.sent 3 (by decide)
  have vStore := hv.sent 4 (by decide)
  have vTwice := hv.sent 5 (by decide)
  have vMany := hv.sent 6 (by decide)
  have vTimes := hv.sent 7 (by decide)
  have vCode := hv.sent 8 (by decide)
  have vSum := hv.sent 9 (by decide)
  have vRefer := hv.sent 10 (by decide)
  have vStack := hv.sent 11 (by decide)
  have vFuel := hv.sent 12 (by decide)
  go_enter Tryz.func20, Tryz.ntmps20
  go_wp2_with fail
  refine (is_nil (A 0) _).mono ?_
  rintro e w' ⟨rfl, rfl⟩
  go_wp2_with fail
  refine (is_nil (A 1) _).mono ?_
  rintro e w' ⟨rfl, rfl⟩
  go_wp2_with fail
  refine (is_nil (A 2) _).mono ?_
  rintro e w' ⟨rfl, rfl⟩
  go_wp2_with fail
  refine (is_nil (A 3) _).mono ?_
  rintro e w' ⟨rfl, rfl⟩
  go_wp2_with fail
  refine (is_nil (A 4) _).mono ?_
  rintro e w' ⟨rfl, rfl⟩
  go_wp2_with fail
  refine (is_nil (A 5) _).mono ?_
  rintro e w' ⟨rfl, rfl⟩
  go_wp2_with fail
  refine (is_nil (A 6) _).mono ?_
  rintro e w' ⟨rfl, rfl⟩
  go_wp2_with fail
  refine (is_nil (A 7) _).mono ?_
  rintro e w' ⟨rfl, rfl⟩
  go_wp2_with fail
  refine (is_nil (A 8) _).mono ?_
  rintro e w' ⟨rfl, rfl⟩
  go_wp2_with fail
  refine (is_nil (A 9) _).mono ?_
  rintro e w' ⟨rfl, rfl⟩
  go_wp2_with fail
  refine (is_nil (A 10) _).mono ?_
  rintro e w' ⟨rfl, rfl⟩
  go_wp2_with fail
  refine (is_nil (A 11) _).mono ?_
  rintro e w' ⟨rfl, rfl⟩
  go_wp2_with fail
  refine (is_nil (A 12) _).mono ?_
  rintro e w' ⟨rfl, rfl⟩
  go_wp2
  go_ret
  exact ⟨rfl, rfl⟩
set_option maxHeartbeats 2000000 in
theorem number_long (A : Nat → Addr) (m : Int) (w : World) (hv : Vars w A m) :
    Calls Tryz.prog 20 #[.iface 389 (.pointer (some (A 0)))] w fun e w' => e = .returned (.int .i64 1) ∧ w' = w := by
  have vLong := hv.sent 0 (by decide)
  go_enter Tryz.func20, Tryz.ntmps20
  go_wp2_with fail
  refine (is_same (A 0) _).mono ?_
  rintro e w' ⟨rfl, rfl⟩
  go_wp2
  go_ret
  exact ⟨rfl, rfl⟩
set_option maxHeartbeats 2000000 in
theorem number_syntax (A : Nat → Addr) (m : Int) (w : World) (hv : Vars w A m) (fa : Nat) (hw : w.cell? ⟨fa, 2, none⟩ = some (.iface 389 (.pointer (some (A 1))))) :
    Calls Tryz.prog 20 #[.iface 94 (.pointer (some ⟨fa, 0, none⟩))] w fun e w' => e = .returned (.int .i64 2) ∧ w' = w := by
  have vLong := hv.sent 0 (by decide)
  have vSyntax := hv.sent 1 (by decide)
  obtain ⟨cLong, tLong, rLong⟩ := hv.row 0 (by decide)
  obtain ⟨cSyntax, tSyntax, rSyntax⟩ := hv.row 1 (by decide)
  go_enter Tryz.func20, Tryz.ntmps20
  go_wp2_with fail
  refine (is_wrap_other fa (A 0) (A 1) cSyntax cLong tSyntax tLong _ hw (hv.apart _ (by decide) _ (by decide) (by decide)) rSyntax rLong).mono ?_
  rintro e w' ⟨rfl, rfl⟩
  go_wp2_with fail
  refine (is_wrap_same fa (A 1) _ hw).mono ?_
  rintro e w' ⟨rfl, rfl⟩
  go_wp2
  go_ret
  exact ⟨rfl, rfl⟩
set_option maxHeartbeats 2000000 in
theorem number_deep (A : Nat → Addr) (m : Int) (w : World) (hv : Vars w A m) (fa : Nat) (hw : w.cell? ⟨fa, 2, none⟩ = some (.iface 389 (.pointer (some (A 2))))) :
    Calls Tryz.prog 20 #[.iface 94 (.pointer (some ⟨fa, 0, none⟩))] w fun e w' => e = .returned (.int .i64 3) ∧ w' = w := by
  have vLong := hv.sent 0 (by decide)
  have vSyntax := hv.sent 1 (by decide)
  have vDeep := hv.sent 2 (by decide)
  obtain ⟨cLong, tLong, rLong⟩ := hv.row 0 (by decide)
  obtain ⟨cSyntax, tSyntax, rSyntax⟩ := hv.row 1 (by decide)
  obtain ⟨cDeep, tDeep, rDeep⟩ := hv.row 2 (by decide)
  go_enter Tryz.func20, Tryz.ntmps20
  go_wp2_with fail
  refine (is_wrap_other fa (A 0) (A 2) cDeep cLong tDeep tLong _ hw (hv.apart _ (by decide) _ (by decide) (by decide)) rDeep rLong).mono ?_
  rintro e w' ⟨rfl, rfl⟩
  go_wp2_with fail
  refine (is_wrap_other fa (A 1) (A 2) cDeep cSyntax tDeep tSyntax _ hw (hv.apart _ (by decide) _ (by decide) (by decide)) rDeep rSyntax).mono ?_
  rintro e w' ⟨rfl, rfl⟩
  go_wp2_with fail
  refine (is_wrap_same fa (A 2) _ hw).mono ?_
  rintro e w' ⟨rfl, rfl⟩
  go_wp2
  go_ret
  exact ⟨rfl, rfl⟩
set_option maxHeartbeats 2000000 in
theorem number_type (A : Nat → Addr) (m : Int) (w : World) (hv : Vars w A m) :
    Calls Tryz.prog 20 #[.iface 389 (.pointer (some (A 3)))] w fun e w' => e = .returned (.int .i64 4) ∧ w' = w := by
  have vLong := hv.sent 0 (by decide)
  have vSyntax := hv.sent 1 (by decide)
  have vDeep := hv.sent 2 (by decide)
  have vType := hv.sent 3 (by decide)
  obtain ⟨cLong, tLong, rLong⟩ := hv.row 0 (by decide)
  obtain ⟨cSyntax, tSyntax, rSyntax⟩ := hv.row 1 (by decide)
  obtain ⟨cDeep, tDeep, rDeep⟩ := hv.row 2 (by decide)
  obtain ⟨cType, tType, rType⟩ := hv.row 3 (by decide)
  go_enter Tryz.func20, Tryz.ntmps20
  go_wp2_with fail
  refine (is_other (A 3) (A 0) cType cLong tType tLong _ (hv.apart _ (by decide) _ (by decide) (by decide)) rType rLong).mono ?_
  rintro e w' ⟨rfl, rfl⟩
  go_wp2_with fail
  refine (is_other (A 3) (A 1) cType cSyntax tType tSyntax _ (hv.apart _ (by decide) _ (by decide) (by decide)) rType rSyntax).mono ?_
  rintro e w' ⟨rfl, rfl⟩
  go_wp2_with fail
  refine (is_other (A 3) (A 2) cType cDeep tType tDeep _ (hv.apart _ (by decide) _ (by decide) (by decide)) rType rDeep).mono ?_
  rintro e w' ⟨rfl, rfl⟩
  go_wp2_with fail
  refine (is_same (A 3) _).mono ?_
  rintro e w' ⟨rfl, rfl⟩
  go_wp2
  go_ret
  exact ⟨rfl, rfl⟩
end Go.Proofs.YtpbemaaghbbocaaGreatDoor

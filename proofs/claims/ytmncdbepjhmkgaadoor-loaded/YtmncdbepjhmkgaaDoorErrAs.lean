/- What errors.As answers of no error, of a sentinel and of a fault, where a fault is asked for. -/
import Derived.Test.YtmncdbepjhmkgaaDoorErrs
namespace Go.Proofs.YtmncdbepjhmkgaaDoor
open Go.RowKit Go.Extern.Stop Go.Stop Go.Extern LS

theorem as_nil (t : Value) (w : World) :
    Calls Tryd.prog 19 #[.nilIface, t] w fun e w' => e = .returned (.bool false) ∧ w' = w := by
  go_enter Tryd.func19, Tryd.ntmps19
  go_wp2
  go_ret
  exact ⟨rfl, rfl⟩

def entValueOf : Array Value → Sem Value := fun args => ReflectliteValue.unpack (args.getD 0 (.tuple #[]))
def entType : Array Value → Sem Value := ReflectliteValue.methodAny (ReflectliteValue.valueError "reflectlite.Value.Type" 0) fun t _ _ _ => ReflectliteType.toType t
def entIsNil : Array Value → Sem Value := ReflectliteValue.method (ReflectliteValue.valueError "reflectlite.Value.IsNil" 0) ReflectliteValue.isNil
def entKind : Array Value → Sem Value := ReflectliteType.abiMethod fun t => do pure (.int .u8 (← Rtype.kind t))
def entElem : Array Value → Sem Value := ReflectliteType.method ReflectliteType.elem
def entImpl : Array Value → Sem Value := ReflectliteType.relation "Implements" ReflectliteType.implements_
def entAssign : Array Value → Sem Value := ReflectliteType.relation "AssignableTo" ReflectliteType.assignableTo
def entElemV : Array Value → Sem Value := ReflectliteValue.method (ReflectliteValue.valueError "reflectlite.Value.Elem" 0) ReflectliteValue.elem

theorem x_valueOf (args : Array Value) (w : World) : (callFunc 30 args).run Tryd.prog w = ((entValueOf args).run Tryd.prog w).andThen fun v w' => .ok (.value v) w' :=
  run_callFunc_extern Tryd.func30 (by kernel_rfl) (by kernel_rfl) (by kernel_rfl) (by kernel_rfl) args w
theorem x_type (args : Array Value) (w : World) : (callFunc 31 args).run Tryd.prog w = ((entType args).run Tryd.prog w).andThen fun v w' => .ok (.value v) w' :=
  run_callFunc_extern Tryd.func31 (by kernel_rfl) (by kernel_rfl) (by kernel_rfl) (by kernel_rfl) args w
theorem x_isNil (args : Array Value) (w : World) : (callFunc 32 args).run Tryd.prog w = ((entIsNil args).run Tryd.prog w).andThen fun v w' => .ok (.value v) w' :=
  run_callFunc_extern Tryd.func32 (by kernel_rfl) (by kernel_rfl) (by kernel_rfl) (by kernel_rfl) args w
theorem x_kind (args : Array Value) (w : World) : (callFunc 87 args).run Tryd.prog w = ((entKind args).run Tryd.prog w).andThen fun v w' => .ok (.value v) w' :=
  run_callFunc_extern Tryd.func87 (by kernel_rfl) (by kernel_rfl) (by kernel_rfl) (by kernel_rfl) args w
theorem x_elem (args : Array Value) (w : World) : (callFunc 99 args).run Tryd.prog w = ((entElem args).run Tryd.prog w).andThen fun v w' => .ok (.value v) w' :=
  run_callFunc_extern Tryd.func99 (by kernel_rfl) (by kernel_rfl) (by kernel_rfl) (by kernel_rfl) args w
theorem x_impl (args : Array Value) (w : World) : (callFunc 100 args).run Tryd.prog w = ((entImpl args).run Tryd.prog w).andThen fun v w' => .ok (.value v) w' :=
  run_callFunc_extern Tryd.func100 (by kernel_rfl) (by kernel_rfl) (by kernel_rfl) (by kernel_rfl) args w
theorem x_assign (args : Array Value) (w : World) : (callFunc 97 args).run Tryd.prog w = ((entAssign args).run Tryd.prog w).andThen fun v w' => .ok (.value v) w' :=
  run_callFunc_extern Tryd.func97 (by kernel_rfl) (by kernel_rfl) (by kernel_rfl) (by kernel_rfl) args w
theorem x_elemV (args : Array Value) (w : World) : (callFunc 45 args).run Tryd.prog w = ((entElemV args).run Tryd.prog w).andThen fun v w' => .ok (.value v) w' :=
  run_callFunc_extern Tryd.func45 (by kernel_rfl) (by kernel_rfl) (by kernel_rfl) (by kernel_rfl) args w
theorem x_set (args : Array Value) (w : World) : (callFunc 46 args).run Tryd.prog w = ((ReflectliteValue.set args).run Tryd.prog w).andThen fun v w' => .ok (.value v) w' :=
  run_callFunc_extern Tryd.func46 (by kernel_rfl) (by kernel_rfl) (by kernel_rfl) (by kernel_rfl) args w

theorem f_valueOf2 (t : Addr) (w : World) : (entValueOf #[.iface 55 (.pointer (some t))]).run Tryd.prog w
    = .ok (.agg #[.pointer (some ⟨17, 55, none⟩), .pointer (some ⟨w.heap.size, 0, none⟩), .int .u64 150]) (w.alloc (.cells #[.pointer (some t)] 55)) := by kernel_rfl
theorem f_type2 (a : Addr) (w : World) : (entType #[.agg #[.pointer (some ⟨17, 55, none⟩), .pointer (some a), .int .u64 150]]).run Tryd.prog w
    = .ok (.iface 107 (.agg #[.pointer (some ⟨17, 55, none⟩)])) w := by kernel_rfl
theorem m_kind (h : Value) (w : World) : (Go.method 286 107 (.agg #[h]) "Kind").run Tryd.prog w = .ok (87, h) w := by kernel_rfl
theorem f_kind2 (w : World) : (entKind #[.pointer (some ⟨17, 55, none⟩)]).run Tryd.prog w = .ok (.int .u8 22) w := by kernel_rfl
theorem f_kind1 (w : World) : (entKind #[.pointer (some ⟨17, 53, none⟩)]).run Tryd.prog w = .ok (.int .u8 22) w := by kernel_rfl
theorem m_elem (h : Value) (w : World) : (Go.method 286 107 (.agg #[h]) "Elem").run Tryd.prog w = .ok (99, .agg #[h]) w := by kernel_rfl
theorem m_impl (h : Value) (w : World) : (Go.method 286 107 (.agg #[h]) "Implements").run Tryd.prog w = .ok (100, .agg #[h]) w := by kernel_rfl
theorem m_assign (h : Value) (w : World) : (Go.method 286 107 (.agg #[h]) "AssignableTo").run Tryd.prog w = .ok (97, .agg #[h]) w := by kernel_rfl
theorem f_elem2 (w : World) : (entElem #[.agg #[.pointer (some ⟨17, 55, none⟩)]]).run Tryd.prog w = .ok (.iface 107 (.agg #[.pointer (some ⟨17, 53, none⟩)])) w := by kernel_rfl
theorem f_impl1 (w : World) : (entImpl #[.agg #[.pointer (some ⟨17, 53, none⟩)], .iface 107 (.agg #[.pointer (some ⟨17, 33, none⟩)])]).run Tryd.prog w = .ok (.bool true) w := by kernel_rfl
theorem f_typeOf1 (v : Value) (w : World) : (ReflectliteType.typeOf #[.iface 53 v]).run Tryd.prog w = .ok (.iface 107 (.agg #[.pointer (some ⟨17, 53, none⟩)])) w := by kernel_rfl
theorem f_assign1 (w : World) : (entAssign #[.agg #[.pointer (some ⟨17, 53, none⟩)], .iface 107 (.agg #[.pointer (some ⟨17, 53, none⟩)])]).run Tryd.prog w = .ok (.bool true) w := by kernel_rfl
theorem f_assignE (w : World) : (entAssign #[.agg #[.pointer (some ⟨17, 155, none⟩)], .iface 107 (.agg #[.pointer (some ⟨17, 53, none⟩)])]).run Tryd.prog w = .ok (.bool false) w := by kernel_rfl
theorem f_valueOf1 (e : Addr) (w : World) : (entValueOf #[.iface 53 (.pointer (some e))]).run Tryd.prog w
    = .ok (.agg #[.pointer (some ⟨17, 53, none⟩), .pointer (some ⟨w.heap.size, 0, none⟩), .int .u64 150]) (w.alloc (.cells #[.pointer (some e)] 53)) := by kernel_rfl
theorem noAsE (v : Value) (xT : TypeId) (w : World) : (Instr.typeAssert (.iface 155 v) xT 119 true).run Tryd.prog w = .ok (.tuple #[.nilIface, .bool false]) w := run_typeAssert_lacksB Tryd.underlying119 (by kernel_rfl) (by kernel_rfl) v xT w

theorem p_two (a : Addr) (w : World) : (ReflectliteValue.parts (.agg #[.pointer (some ⟨17, 55, none⟩), .pointer (some a), .int .u64 150])).run Tryd.prog w = .ok (some (55, a, 150)) w := by kernel_rfl
theorem f_isNil2 (a p : Addr) (W : World) (ha : W.cell? a = some (.pointer (some p))) :
    (entIsNil #[.agg #[.pointer (some ⟨17, 55, none⟩), .pointer (some a), .int .u64 150]]).run Tryd.prog W = .ok (.bool false) W := by
  refine (congrArg (fun q => Sem.run Tryd.prog q W) (show entIsNil _ = (ReflectliteValue.parts (.agg #[.pointer (some ⟨17, 55, none⟩), .pointer (some a), .int .u64 150]) >>= fun r => _) from rfl)).trans ?_
  simp only [Sem.run_bind, p_two, Result.andThen]
  simp [ReflectliteValue.isNil, loadVar, isAgg, underlying, Tryd.underlying55, ha, Result.andThen]
theorem p_elem2 (w : World) : (Rtype.elem? 55).run Tryd.prog w = .ok (some 53) w := by kernel_rfl
theorem p_mk1 (p : Addr) (w : World) : (ReflectliteValue.mk 53 p ReflectliteValue.flagAddr).run Tryd.prog w = .ok (.agg #[.pointer (some ⟨17, 53, none⟩), .pointer (some p), .int .u64 406]) w := by kernel_rfl
theorem f_elemV2 (a p : Addr) (W : World) (ha : W.cell? a = some (.pointer (some p))) :
    (entElemV #[.agg #[.pointer (some ⟨17, 55, none⟩), .pointer (some a), .int .u64 150]]).run Tryd.prog W
      = .ok (.agg #[.pointer (some ⟨17, 53, none⟩), .pointer (some p), .int .u64 406]) W := by
  refine (congrArg (fun q => Sem.run Tryd.prog q W) (show entElemV _ = (ReflectliteValue.parts (.agg #[.pointer (some ⟨17, 55, none⟩), .pointer (some a), .int .u64 150]) >>= fun r => _) from rfl)).trans ?_
  simp only [Sem.run_bind, p_two, Result.andThen]
  simp [ReflectliteValue.elem, loadVar, isAgg, underlying, Tryd.underlying55, ha, Result.andThen, p_elem2, p_mk1]
theorem p_oneA (a : Addr) (w : World) : (ReflectliteValue.parts (.agg #[.pointer (some ⟨17, 53, none⟩), .pointer (some a), .int .u64 406])).run Tryd.prog w = .ok (some (53, a, 406)) w := by kernel_rfl
theorem p_one (a : Addr) (w : World) : (ReflectliteValue.parts (.agg #[.pointer (some ⟨17, 53, none⟩), .pointer (some a), .int .u64 150])).run Tryd.prog w = .ok (some (53, a, 150)) w := by kernel_rfl
theorem p_direct (w : World) : (Rtype.directlyAssignable 53 53).run Tryd.prog w = .ok true w := by kernel_rfl
theorem f_set1 (ta b e : Addr) (old : Value) (W : World) (hb : W.cell? b = some (.pointer (some e))) (ht : W.cell? ta = some old) (hf : W.frozen? ta = false) :
    (ReflectliteValue.set #[.agg #[.pointer (some ⟨17, 53, none⟩), .pointer (some ta), .int .u64 406], .agg #[.pointer (some ⟨17, 53, none⟩), .pointer (some b), .int .u64 150]]).run Tryd.prog W
      = .ok (.tuple #[]) (W.setCell ta (.pointer (some e))) := by
  refine (congrArg (fun q => Sem.run Tryd.prog q W) (show ReflectliteValue.set _ = (ReflectliteValue.parts (.agg #[.pointer (some ⟨17, 53, none⟩), .pointer (some ta), .int .u64 406]) >>= fun r => ReflectliteValue.parts (.agg #[.pointer (some ⟨17, 53, none⟩), .pointer (some b), .int .u64 150]) >>= fun s => _) from rfl)).trans ?_
  simp only [Sem.run_bind, p_oneA, p_one, Result.andThen]
  simp [ReflectliteValue.flagAddr, loadVar, isAgg, underlying, Tryd.underlying53, hb, Result.andThen, p_direct, storeVar, Value.cells, storeCells, Addr.add]
  rw [run_store Tryd.prog W ta _ _ (by rfl)]
  simp [ht, hf]
end Go.Proofs.YtmncdbepjhmkgaaDoor

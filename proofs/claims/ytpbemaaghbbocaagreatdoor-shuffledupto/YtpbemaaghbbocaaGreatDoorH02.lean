/- Parts. -/
import Derived.Test.YtpbemaaghbbocaaGreatDoorH00
import Derived.Test.YtpbemaaghbbocaaGreatDoorA34
import Derived.Test.YtpbemaaghbbocaaGreatDoorH01
import Derived.Deep.DeepHandedRow
import Derived.Deep.Strs
import Derived.Carry
import Derived.Test.YtpbemaaghbbocaaGreatDoorA46
import Derived.Lib.LaidTab
import Derived.Shelf.Vars
import Derived.Test.YtpbemaaghbbocaaGreatDoorCards
import Derived.Test.YtpbemaaghbbocaaGreatDoorTie
namespace Go.Proofs.YtpbemaaghbbocaaGreatDoor
open Go.ChangeShapes Go.WideShapes Go.ChangeAt Go.RowKit LS
open Go.ChangeMaps (open_string shut_string)
def kHandle (w : World) : World := { w with heap := w.heap.modify 13 fun
  | .cells _ t frozen => .cells #[.iface 232 (.agg #[.pointer (some ⟨20, 52, none⟩)])] t frozen
  | o => o }
def kRest : List (String × DataW Unit) := Rows.shuffledUptoRow.laid.filter fun x => x.2.handleName?.isNone
theorem kMet (os : Os) (args : Array Value) : laidMetH Tryz.prog Rows.shuffledUptoRow.laid (((kHandle (World.holding Tryz.prog os ⟨#[], #[], []⟩)).layVars Tryz.prog kRest).forCall (fun _ _ => 0) ⟨#[], args, []⟩).memory := by
  have e1 : (kRest.filter fun x => (kRest.map (·.1)).contains x.1) = kRest := List.filter_eq_self.2 fun x hx => List.contains_iff_mem.2 (List.mem_map.2 ⟨x, hx, rfl⟩)
  have e2 : (kRest.filter fun x => !(kRest.map (·.1)).contains x.1) = [] := List.filter_eq_nil_iff.2 fun x hx => by rw [List.contains_iff_mem.2 (List.mem_map.2 ⟨x, hx, rfl⟩)]; simp
  have h : laidMet Tryz.prog kRest ((kHandle (World.holding Tryz.prog os ⟨#[], #[], []⟩)).layVars Tryz.prog kRest) :=
    laidMet_layVars (w0 := kHandle (World.holding Tryz.prog os ⟨#[], #[], []⟩)) (kRest.map (·.1)) [] (by rw [e1]) (by rw [e1]; kernel_rfl) (by rw [e1]; kernel_rfl) (by rw [e2]; exact LaidIn.none)
  exact laidMetH_of_parts (h.of_heap (by simp [World.memory, World.forCall, Input.heap])) (by kernel_rfl)
theorem low_row : (((begin Tryz.prog (fun _ _ => 0) default).world.heap[20 - 1]?).bind Obj.row?).isSome = true := by kernel_rfl
theorem low_size {W : World} (h : W.ShapedOpen Tryz.prog) : 20 ≤ W.heap.size := by
  obtain ⟨⟨z, t⟩, hz⟩ := Option.isSome_iff_exists.1 low_row
  obtain ⟨cs, hc, _⟩ := h.1 (20 - 1) z t (by rw [show Tryz.prog.globals.size = 20 by kernel_rfl]; decide) hz
  have := (Array.getElem?_eq_some_iff.1 hc).1
  omega
theorem pow_tab : (Rows.laid_internal_strconv_uint64pow10 : DataW Unit) = Lib.tabData .u64 Lib.pow10Tab := by rfl
theorem pow_laid {W : World} {r : List (String × DataW Unit)} (h : laidMet Tryz.prog (("internal/strconv.uint64pow10", Rows.laid_internal_strconv_uint64pow10) :: r) W) : PowTab W := by
  rw [pow_tab] at h
  exact Lib.tabIs_of_head Tryz.gPow (t := 347) (e := 328) (n := 20) (by kernel_rfl) (by kernel_rfl) (by kernel_rfl) (by kernel_rfl) (by kernel_rfl) h
theorem bulk_pos {H : Type} (d : DataW H) : 1 ≤ Rows.uptoBulk d := by
  cases d with
  | lit l => cases l <;> simp [Rows.uptoBulk]
  | nil => simp [Rows.uptoBulk]
  | ptr d => simp [Rows.uptoBulk]
  | slice e s => simp [Rows.uptoBulk]
  | agg p => simp [Rows.uptoBulk]
  | iface t d => simp [Rows.uptoBulk]
  | map e => simp [Rows.uptoBulk]
  | held h => simp [Rows.uptoBulk]
theorem bulk_mem {H : Type} : ∀ (l : List (DataW H)) (d : DataW H), d ∈ l → Rows.uptoBulk d ≤ Rows.uptoBulkAll l
  | [], d, h => by cases h
  | x :: l, d, h => by
    rw [Rows.uptoBulkAll]
    rcases List.mem_cons.1 h with rfl | h
    · omega
    · have := bulk_mem l d h; omega
theorem bulk_len {H : Type} : ∀ l : List (DataW H), l.length ≤ Rows.uptoBulkAll l
  | [] => Nat.zero_le _
  | x :: l => by
    rw [Rows.uptoBulkAll, List.length_cons]
    have := bulk_len l
    have := bulk_pos x
    omega
set_option maxRecDepth 100000 in
theorem shuffled_lifted (os : Os) (started : os.Started) (H : Type) (enc : TypeId × Value → H) (F : Stop.Interp) :
    ReturnsInHanded {} Tryz.checked os 5 .any ((Rows.OpenSpec.upto Rows.shuffledSpec).preRow enc Tryz.prog Tryz.f5 Rows.shuffledUptoRow.domain false Rows.shuffledUptoRow.laid)
      (((Rows.OpenSpec.upto Rows.shuffledSpec).at F).post enc Tryz.prog Tryz.f5 false true false false) := by
  have hx : DataW.whole enc Tryz.prog (((kHandle (World.holding Tryz.prog os ⟨#[], #[], []⟩)).layVars Tryz.prog kRest).forCall (fun _ _ => 0) ⟨#[], #[.slice none 0 0, .int .i64 0, .bool false, .string ⟨#[]⟩, .agg #[.int .i64 0, .int .i64 0, .int .i64 0]], []⟩).memory Tryz.f5.params.toList Rows.shuffledSpec.vars false #[Value.slice none 0 0, .int .i64 0, .bool false, .string ⟨#[]⟩, .agg #[.int .i64 0, .int .i64 0, .int .i64 0]].toList 8 = some ([.nil, .lit (.int .i64 0), .lit (.bool false), .lit (.string []), .agg [.lit (.int .i64 0), .lit (.int .i64 0), .lit (.int .i64 0)]], [], []) := by kernel_rfl
  refine returnsInHanded_of_row (C := Tryz.checked) (s := Rows.OpenSpec.upto Rows.shuffledSpec) own started (by kernel_rfl) Tryz.func5
    ⟨(kHandle (World.holding Tryz.prog os ⟨#[], #[], []⟩)).layVars Tryz.prog kRest, fun _ _ => 0, ⟨#[], #[.slice none 0 0, .int .i64 0, .bool false, .string ⟨#[]⟩, .agg #[.int .i64 0, .int .i64 0, .int .i64 0]], []⟩, World.layVars_os _ _ _, World.shaped_of_ZipB (by kernel_rfl) (by kernel_rfl), rfl, (Input.okWide_of_okWideB (by kernel_rfl)).2,
      OpenSpec.preRow_of_cond 8 hx (by kernel_rfl) (fun k hk => by cases hk; kernel_rfl) (by kernel_rfl) (kMet os _), by
        simp only [Assume.holds]
        exact ⟨by simp, by simp, by simp, by simp, by simp⟩⟩ ?_
  intro W base args ds gs before hval0 hW _ hcond _ hL hsh _
  have hval : ∀ (j : Nat) t v, Tryz.f5.params[j]? = some t → args[j]? = some v → Value.okWide Tryz.prog W .any base t v := hval0
  have hW' := hW
  obtain ⟨p, q, hA0, hV0, rfl, _, _⟩ := hW
  have hA : DataW.TrodAll enc Tryz.prog W 0 (fun _ => true) true Tryz.f5.params.toList args.toList ds p := hA0
  have hV : DataW.TrodVars enc Tryz.prog W (fun _ => true) [] gs q := hV0
  rw [Tryz.params5] at hA hval
  obtain ⟨v0, v1, v2, v3, v4, d0, d1, d2, d3, d4, p0, p1, p2, p3, p4, rfl, rfl, rfl, h0, h1, h2, h3, h4⟩ := trodAll_five hA
  obtain ⟨rfl, rfl⟩ := trodVars_none hV
  obtain ⟨c, rfl, rfl, rfl, hc⟩ := open_int Tryz.underlying3 (hval 1 3 v1 rfl rfl) h1
  obtain ⟨back, rfl, rfl, rfl⟩ := open_bool Tryz.underlying4 (hval 2 4 v2 rfl rfl) h2
  obtain ⟨q, rfl, rfl, rfl, hq⟩ := open_string Tryz.underlying9 (hval 3 9 v3 rfl rfl) h3
  obtain ⟨f, l, st, rfl, rfl, rfl, wf1, wl1, ws1⟩ := open_span (hval 4 23 v4 rfl rfl) h4
  obtain ⟨a0, n, cap, rfl⟩ := okWide_slice Tryz.underlying31 (hval 0 31 v0 rfl rfl)
  have h0k := h0
  obtain ⟨fuel, hf⟩ := h0
  have hbulk : Rows.uptoBulkAll ([d0, .lit (.int .i64 c), .lit (.bool back), .lit (.string q.data.toList), .agg [.lit (.int .i64 f), .lit (.int .i64 l), .lit (.int .i64 st)]] ++ []) ≤ 1048576 := of_decide_eq_true (hcond _ rfl)
  have hb0 : Rows.uptoBulk d0 ≤ 1048576 := Nat.le_trans (bulk_mem _ d0 (by simp)) hbulk
  have hlt : ∀ x ∈ p0, x.block < W.heap.size := fun x hx => by simpa using hW'.lt x (by simp [hx])
  simp only [List.append_nil] at hW'
  have hL2 : laidMet Tryz.prog [("math/bits.deBruijn32tab", Rows.laid_math_bits_deBruijn32tab), ("math/bits.deBruijn64tab", Rows.laid_math_bits_deBruijn64tab), ("internal/strconv.uint64pow10", Rows.laid_internal_strconv_uint64pow10), ("unicode/utf8.acceptRanges", Rows.laid_unicode_utf8_acceptRanges), ("gauge/fault.Long", Rows.laid_gauge_fault_Long), ("gauge/fault.Syntax", Rows.laid_gauge_fault_Syntax), ("gauge/fault.Deep", Rows.laid_gauge_fault_Deep), ("gauge/fault.Type", Rows.laid_gauge_fault_Type), ("gauge/fault.Store", Rows.laid_gauge_fault_Store), ("gauge/fault.Twice", Rows.laid_gauge_fault_Twice), ("gauge/fault.Many", Rows.laid_gauge_fault_Many), ("gauge/fault.Times", Rows.laid_gauge_fault_Times), ("gauge/fault.Code", Rows.laid_gauge_fault_Code), ("gauge/fault.Sum", Rows.laid_gauge_fault_Sum), ("gauge/fault.Refer", Rows.laid_gauge_fault_Refer), ("gauge/fault.Stack", Rows.laid_gauge_fault_Stack), ("gauge/fault.Fuel", Rows.laid_gauge_fault_Fuel), ("unicode/utf8.first", Rows.laid_unicode_utf8_first)] W ∧ handlesMet Tryz.prog [("errors.errorType", Rows.laid_errors_errorType)] W := hL
  obtain ⟨m, hm⟩ : ∃ m, W.cell? ⟨14, 0, none⟩ = some (.int .i64 m) := cell_of_shapedOpen_int (zero := #[.int .i64 0]) (t := 3) hsh (of_decide_eq_true (by kernel_rfl)) (by kernel_rfl) rfl (by kernel_rfl) (by kernel_rfl) Tryz.underlying3
  obtain ⟨A, hvars⟩ := vars_of hL2.1.tail.tail.tail.tail (handle_of hL2.2) hm
  have hpow : PowTab W := pow_laid hL2.1.tail.tail
  have hng := low_size hsh
  have hcw : -9223372036854775808 ≤ c ∧ c ≤ 9223372036854775807 := by
    have h := hc
    simp [Lit.wf] at h
    rw [show IntKind.i64.min = (-9223372036854775808 : Int) from by decide] at h
    exact h
  have hex : ∃ Sx : Nat → ByteArray, n ≤ 1048576 ∧ ((a0 = none ∧ n = 0 ∧ cap = 0) ∨ ∃ a : Addr, a0 = some a ∧ (0 < n → a.block < W.heap.size) ∧ (∀ i, i < n → W.cell? (a.add i) = some (.string (Sx i))) ∧ ∀ i, i < n → (Sx i).size ≤ 1048576) := by
    rcases Go.Deep.open_strs Tryz.underlying31 Tryz.underlying9 (by kernel_rfl) hf with ⟨hcs, hx⟩ | ⟨a, len, cap', mm, Sx, hcs, _, hl, _, hmm, hx, hcell⟩
    · have hcs' : [Value.slice a0 n cap] = [.slice none 0 0] := hcs
      injection hcs' with hcs' _
      injection hcs' with e1 e2 e3
      exact ⟨fun _ => ⟨#[]⟩, by omega, Or.inl ⟨e1, e2, e3⟩⟩
    · have hcs' : [Value.slice a0 n cap] = [.slice (some a) len cap'] := hcs
      injection hcs' with hcs' _
      injection hcs' with e1 e2 e3
      subst e1 e2 e3
      have hmn : mm = cap := by rw [hmm]; rfl
      injection hx with hx1 hx2
      subst hx1
      rw [Rows.uptoBulk] at hb0
      have hl1 := bulk_len ((List.range n).map fun i => (DataW.lit (.string (Sx i).data.toList) : DataW H))
      rw [List.length_map, List.length_range] at hl1
      refine ⟨Sx, by omega, Or.inr ⟨a, rfl, fun h => ?_, fun i hi => (hcell i (by omega)).1, fun i hi => ?_⟩⟩
      · have hc0 := (hcell 0 (by omega)).1
        rw [show a.add 0 = a from rfl] at hc0
        simp only [World.cell?] at hc0
        cases hh : W.heap[a.block]? with
        | none => rw [hh] at hc0; cases hc0
        | some o => exact (Array.getElem?_eq_some_iff.1 hh).1
      · have := bulk_mem ((List.range n).map fun i => (DataW.lit (.string (Sx i).data.toList) : DataW H)) (.lit (.string (Sx i).data.toList)) (List.mem_map.2 ⟨i, List.mem_range.2 hi, rfl⟩)
        rw [Rows.uptoBulk] at this
        have e : (Sx i).data.toList.length = (Sx i).size := by simp
        omega
  obtain ⟨Sx, hn, ha⟩ := hex
  refine (shuffled_true a0 n cap c back q f l st Sx A m W hvars hpow hng hn hcw.1 hcw.2 (Nat.le_trans hq (by unfold maxLen; decide)) ha).mono fun e W' ⟨he, hb⟩ => ?_
  refine ⟨_, he, ?_⟩
  exact ⟨_, _, _, [], p0, [], hW', trodAll_mk1 (shut_bool Tryz.underlying4 _), (by
    have := trodAll_cons_mk (Below.trod (by kernel_rfl) (by kernel_rfl) (of_decide_eq_true (by kernel_rfl)) h0k hb hlt) (trodAll_cons_mk (shut_int Tryz.underlying3 hc) (trodAll_cons_mk (shut_bool Tryz.underlying4 back) (trodAll_cons_mk (shut_string Tryz.underlying9 hq) (trodAll_cons_mk (shut_span wf1 wl1 ws1) trodAll_mk0))))
    simp only [List.append_nil] at this
    exact this), rfl, hb.frame _, fun h => by cases h⟩
end Go.Proofs.YtpbemaaghbbocaaGreatDoor

/- Parts. -/
import Derived.Test.YtpbemaaghbbocaaGreatDoorW00
import Derived.Test.YtpbemaaghbbocaaGreatDoorA34
import Derived.Test.YtpbemaaghbbocaaGreatDoorW02
import Derived.Deep.SlicePairs
import Derived.Carry
import Derived.Test.YtpbemaaghbbocaaGreatDoorA46
import Derived.Lib.LaidTab
import Derived.Shelf.Vars
import Derived.Test.YtpbemaaghbbocaaGreatDoorCards
import Derived.Test.YtpbemaaghbbocaaGreatDoorTie
namespace Go.Proofs.YtpbemaaghbbocaaGreatDoor
open Go.ChangeShapes Go.WideShapes Go.ChangeAt Go.RowKit LS
open Go.ChangeMaps (open_string shut_string)
def kHandle (w : World) : World := { w with heap := w.heap.modify 13 fun
  | .cells _ t frozen => .cells #[.iface 232 (.agg #[.pointer (some ⟨20, 52, none⟩)])] t frozen
  | o => o }
def kRest : List (String × DataW Unit) := Rows.windowedRow.laid.filter fun x => x.2.handleName?.isNone
theorem kMet (os : Os) (args : Array Value) : laidMetH Tryz.prog Rows.windowedRow.laid (((kHandle (World.holding Tryz.prog os ⟨#[], #[], []⟩)).layVars Tryz.prog kRest).forCall (fun _ _ => 0) ⟨#[], args, []⟩).memory := by
  have e1 : (kRest.filter fun x => (kRest.map (·.1)).contains x.1) = kRest := List.filter_eq_self.2 fun x hx => List.contains_iff_mem.2 (List.mem_map.2 ⟨x, hx, rfl⟩)
  have e2 : (kRest.filter fun x => !(kRest.map (·.1)).contains x.1) = [] := List.filter_eq_nil_iff.2 fun x hx => by rw [List.contains_iff_mem.2 (List.mem_map.2 ⟨x, hx, rfl⟩)]; simp
  have h : laidMet Tryz.prog kRest ((kHandle (World.holding Tryz.prog os ⟨#[], #[], []⟩)).layVars Tryz.prog kRest) :=
    laidMet_layVars (w0 := kHandle (World.holding Tryz.prog os ⟨#[], #[], []⟩)) (kRest.map (·.1)) [] (by rw [e1]) (by rw [e1]; kernel_rfl) (by rw [e1]; kernel_rfl) (by rw [e2]; exact LaidIn.none)
  exact laidMetH_of_parts (h.of_heap (by simp [World.memory, World.forCall, Input.heap])) (by kernel_rfl)
theorem low_row : (((begin Tryz.prog (fun _ _ => 0) default).world.heap[20 - 1]?).bind Obj.row?).isSome = true := by kernel_rfl
theorem low_size {W : World} (h : W.ShapedOpen Tryz.prog) : 20 ≤ W.heap.size := by
  obtain ⟨⟨z, t⟩, hz⟩ := Option.isSome_iff_exists.1 low_row
  obtain ⟨cs, hc, _⟩ := h.1 (20 - 1) z t (by rw [show Tryz.prog.globals.size = 20 by kernel_rfl]; decide) hz
  have := (Array.getElem?_eq_some_iff.1 hc).1
  omega
theorem pow_tab : (Rows.laid_internal_strconv_uint64pow10 : DataW Unit) = Lib.tabData .u64 Lib.pow10Tab := by rfl
theorem pow_laid {W : World} {r : List (String × DataW Unit)} (h : laidMet Tryz.prog (("internal/strconv.uint64pow10", Rows.laid_internal_strconv_uint64pow10) :: r) W) : PowTab W := by
  rw [pow_tab] at h
  exact Lib.tabIs_of_head Tryz.gPow (t := 347) (e := 328) (n := 20) (by kernel_rfl) (by kernel_rfl) (by kernel_rfl) (by kernel_rfl) (by kernel_rfl) h
set_option maxRecDepth 100000 in
theorem windowed_lifted (os : Os) (started : os.Started) (H : Type) (enc : TypeId × Value → H) :
    ReturnsInHanded {} Tryz.checked os 6 .any (fun w args => (Rows.windowedSpec.pre enc Tryz.prog Tryz.f6 [] false w args ∧ laidMetH Tryz.prog Rows.windowedRow.laid w) ∧ sizedMet enc Tryz.prog Tryz.f6 (OpenSpec.ofChange Rows.windowedSpec) false w args)
      (Rows.windowedSpec.post enc Tryz.prog Tryz.f6 false true false false) := by
  refine returnsInHanded_of_calls own started (by kernel_rfl)
    (ChangeSpec.witness_shaped (enc := enc) (C := Tryz.checked) (os := os) (X := fun w _ => laidMetH Tryz.prog Rows.windowedRow.laid w) false ((kHandle (World.holding Tryz.prog os ⟨#[], #[], []⟩)).layVars Tryz.prog kRest) #[.slice none 0 0, .int .i64 0, .int .i64 0] 8 (World.layVars_os _ _ _)
      (World.shaped_of_ZipB (by kernel_rfl) (by kernel_rfl)) (by kernel_rfl) (by kernel_rfl) (by kernel_rfl) (kMet os _)) ?_
  intro w tape i _ hsh _ hok hpre hholds
  obtain ⟨_, _, _, fn', hfn', _, _, _, _, hval0⟩ := hok
  have e : fn' = Tryz.f6 := Option.some.inj (hfn'.symm.trans Tryz.func6)
  subst e
  obtain ⟨⟨⟨ds, gs, before, hw0, _⟩, hL0⟩, _⟩ := hpre
  have hW := DataW.Whole.of_heap (w' := w.forCall tape i) (by rfl) hw0
  have hL : laidMetH Tryz.prog Rows.windowedRow.laid (w.forCall tape i) := hL0.of_heap (by rfl)
  generalize w.forCall tape i = W at *
  generalize i.args = args at *
  have hval : ∀ (j : Nat) t v, Tryz.f6.params[j]? = some t → args[j]? = some v → Value.okWide Tryz.prog W .any w.heap.size t v := hval0
  have hW' := hW
  obtain ⟨p, q, hA0, hV0, rfl, _, _⟩ := hW
  have hA : DataW.TrodAll enc Tryz.prog W 0 (fun _ => true) true Tryz.f6.params.toList args.toList ds p := hA0
  have hV : DataW.TrodVars enc Tryz.prog W (fun _ => true) [] gs q := hV0
  rw [Tryz.params6] at hA hval
  obtain ⟨v0, v1, v2, d0, d1, d2, p0, p1, p2, rfl, rfl, rfl, h0, h1, h2⟩ := trodAll_three hA
  obtain ⟨rfl, rfl⟩ := trodVars_none hV
  obtain ⟨c1, rfl, rfl, rfl, hc1⟩ := open_int Tryz.underlying3 (hval 1 3 v1 rfl rfl) h1
  obtain ⟨c2, rfl, rfl, rfl, hc2⟩ := open_int Tryz.underlying3 (hval 2 3 v2 rfl rfl) h2
  obtain ⟨a0, n, cap, rfl⟩ := okWide_slice Tryz.underlying37 (hval 0 37 v0 rfl rfl)
  have h0k := h0
  obtain ⟨fuel, hf⟩ := h0
  have hlt : ∀ x ∈ p0, x.block < W.heap.size := fun x hx => by simpa using hW'.lt x (by simp [hx])
  simp only [List.append_nil] at hW'
  have hL2 : laidMet Tryz.prog [("math/bits.deBruijn32tab", Rows.laid_math_bits_deBruijn32tab), ("math/bits.deBruijn64tab", Rows.laid_math_bits_deBruijn64tab), ("internal/strconv.uint64pow10", Rows.laid_internal_strconv_uint64pow10), ("unicode/utf8.acceptRanges", Rows.laid_unicode_utf8_acceptRanges), ("gauge/fault.Long", Rows.laid_gauge_fault_Long), ("gauge/fault.Syntax", Rows.laid_gauge_fault_Syntax), ("gauge/fault.Deep", Rows.laid_gauge_fault_Deep), ("gauge/fault.Type", Rows.laid_gauge_fault_Type), ("gauge/fault.Store", Rows.laid_gauge_fault_Store), ("gauge/fault.Twice", Rows.laid_gauge_fault_Twice), ("gauge/fault.Many", Rows.laid_gauge_fault_Many), ("gauge/fault.Times", Rows.laid_gauge_fault_Times), ("gauge/fault.Code", Rows.laid_gauge_fault_Code), ("gauge/fault.Sum", Rows.laid_gauge_fault_Sum), ("gauge/fault.Refer", Rows.laid_gauge_fault_Refer), ("gauge/fault.Stack", Rows.laid_gauge_fault_Stack), ("gauge/fault.Fuel", Rows.laid_gauge_fault_Fuel), ("unicode/utf8.first", Rows.laid_unicode_utf8_first)] W ∧ handlesMet Tryz.prog [("errors.errorType", Rows.laid_errors_errorType)] W := hL
  obtain ⟨m, hm⟩ : ∃ m, W.cell? ⟨14, 0, none⟩ = some (.int .i64 m) := cell_of_shapedOpen_int (zero := #[.int .i64 0]) (t := 3) hsh (of_decide_eq_true (by kernel_rfl)) (by kernel_rfl) rfl (by kernel_rfl) (by kernel_rfl) Tryz.underlying3
  obtain ⟨A, hvars⟩ := vars_of hL2.1.tail.tail.tail.tail (handle_of hL2.2) hm
  have hpow : PowTab W := pow_laid hL2.1.tail.tail
  have hng := low_size hsh
  have hwf : ∀ c : Int, (Lit.int .i64 c).wf = true → -9223372036854775808 ≤ c ∧ c ≤ 9223372036854775807 := fun c hc => by
    simp [Lit.wf] at hc
    rw [show IntKind.i64.min = (-9223372036854775808 : Int) from by decide] at hc
    exact hc
  have hex : ∃ Rd : Nat → Int × Int, n ≤ maxLen ∧ ((a0 = none ∧ n = 0 ∧ cap = 0) ∨ ∃ a : Addr, a0 = some a ∧ (0 < n → a.block < W.heap.size) ∧ ∀ i, i < n → W.cell? (a.add (i * 2)) = some (.int .i64 (Rd i).1) ∧ W.cell? (a.add (i * 2 + 1)) = some (.int .i64 (Rd i).2)) ∧ ∀ i, i < n → (-9223372036854775808 ≤ (Rd i).1 ∧ (Rd i).1 ≤ 9223372036854775807) ∧ (-9223372036854775808 ≤ (Rd i).2 ∧ (Rd i).2 ≤ 9223372036854775807) := by
    rcases Go.Deep.open_slice_pairs Tryz.underlying37 Tryz.underlying40 (by kernel_rfl) rfl rfl (by kernel_rfl) (by kernel_rfl) hf with ⟨hcs, hx⟩ | ⟨a, len, cap', mm, nn, V0, V1, D0, D1, P0, P1, hcs, _, hl, hmx, hmm, hx, hcell⟩
    · have hcs' : [Value.slice a0 n cap] = [.slice none 0 0] := hcs
      injection hcs' with hcs' _
      injection hcs' with e1 e2 e3
      exact ⟨fun _ => (0, 0), by omega, Or.inl ⟨e1, e2, e3⟩, fun i hi => by omega⟩
    · have hcs' : [Value.slice a0 n cap] = [.slice (some a) len cap'] := hcs
      injection hcs' with hcs' _
      injection hcs' with e1 e2 e3
      subst e1 e2 e3
      have hmn : mm = cap := by rw [hmm]; rfl
      have each : ∀ i, i < n → ∃ x : Int × Int, V0 i = .int .i64 x.1 ∧ V1 i = .int .i64 x.2 ∧ (-9223372036854775808 ≤ x.1 ∧ x.1 ≤ 9223372036854775807) ∧ (-9223372036854775808 ≤ x.2 ∧ x.2 ≤ 9223372036854775807) := fun i hi => by
        obtain ⟨_, _, g0, g1⟩ := hcell i (by omega)
        obtain ⟨x, e0, _, w0⟩ := DataW.trod_int Tryz.underlying3 g0
        obtain ⟨y, e1, _, w1⟩ := DataW.trod_int Tryz.underlying3 g1
        simp at e0 e1
        exact ⟨(x, y), e0, e1, hwf x w0, hwf y w1⟩
      obtain ⟨Rd, hR⟩ := Go.Deep.choose_lt each
      refine ⟨Rd, by omega, Or.inr ⟨a, rfl, fun h => ?_, fun i hi => ?_⟩, fun i hi => ⟨(hR i hi).2.2.1, (hR i hi).2.2.2⟩⟩
      · have hc0 := (hcell 0 (by omega)).1
        rw [show a.add (0 * 2) = a from rfl] at hc0
        simp only [World.cell?] at hc0
        cases hh : W.heap[a.block]? with
        | none => rw [hh] at hc0; cases hc0
        | some o => exact (Array.getElem?_eq_some_iff.1 hh).1
      · obtain ⟨k0, k1, _, _⟩ := hcell i (by omega)
        rw [k0, k1, (hR i hi).1, (hR i hi).2.1]
        exact ⟨rfl, rfl⟩
  obtain ⟨Rd, hn, ha, hrd⟩ := hex
  refine (windowed_true a0 n cap c1 c2 Rd A m W hvars hpow hng hn (hwf c1 hc1) (hwf c2 hc2) ha hrd).mono fun e W' ⟨he, hb⟩ => ?_
  subst he
  have hp : Rows.windowedSpec.post enc Tryz.prog Tryz.f6 false true false false W #[.slice a0 n cap, .int .i64 c1, .int .i64 c2] (.bool true) W' :=
    ⟨_, _, _, [], p0, [], hW', trodAll_mk1 (shut_bool Tryz.underlying4 _), (by
      have := trodAll_cons_mk (Below.trod (by kernel_rfl) (by kernel_rfl) (of_decide_eq_true (by kernel_rfl)) h0k hb hlt) (trodAll_cons_mk (shut_int Tryz.underlying3 hc1) (trodAll_cons_mk (shut_int Tryz.underlying3 hc2) trodAll_mk0))
      simp only [List.append_nil] at this
      exact this), rfl, hb.frame _, fun h => by cases h⟩
  exact ChangeSpec.post_blind hp
end Go.Proofs.YtpbemaaghbbocaaGreatDoor

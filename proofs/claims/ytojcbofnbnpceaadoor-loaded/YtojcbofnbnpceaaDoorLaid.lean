/- What the listed package-level variables hold when the call begins, in the words of the walks; and the frame of the statement. -/
import Derived.Test.YtojcbofnbnpceaaDoorRows
import Derived.Test.YtojcbofnbnpceaaDoorLaw
import Derived.ProofKit
import Derived.LaidLaws
import Derived.LaidHandle
import Derived.Stop.LaidTwo
import Derived.Shelf.Vars
import Derived.Lay
namespace Go.Proofs.YtojcbofnbnpceaaDoor
open Go.ChangeShapes Go.WideShapes Go.ChangeAt Go.RowKit LS

theorem skip_second {P : Program} {x y : String × DataW Unit} {r : List (String × DataW Unit)} {w : World} (h : laidMet P (x :: y :: r) w) : laidMet P (x :: r) w := by
  obtain ⟨n, d⟩ := x
  obtain ⟨n', d'⟩ := y
  obtain ⟨ps, ⟨g, t, cs, f, p, q, h1, h2, h3, h4, ⟨g', t', cs', f', p', q', k1, k2, k3, k4, k5, e'⟩, e⟩, hnd, hr⟩ := h
  subst e'
  have hsub : (MemPlace.row ⟨g, 0, none⟩ cs.size ++ p ++ q').Sublist ps := by
    rw [e]; exact List.Sublist.append (List.Sublist.refl _) (List.sublist_append_right _ _)
  exact ⟨_, ⟨g, t, cs, f, p, q', h1, h2, h3, h4, k5, rfl⟩, hnd.sublist hsub, fun b off hm => hr b off (hsub.mem hm)⟩

theorem own : ownKnob Tryd.prog.godebug = none := by kernel_rfl
theorem gLong : Tryd.prog.globalNamed "gauge/fault.Long" = some 0 := by kernel_rfl
theorem tLong : (Tryd.prog.globals[0]?).map (·.type) = some 33 := by kernel_rfl
theorem gSyntax : Tryd.prog.globalNamed "gauge/fault.Syntax" = some 2 := by kernel_rfl
theorem tSyntax : (Tryd.prog.globals[2]?).map (·.type) = some 33 := by kernel_rfl
theorem gDeep : Tryd.prog.globalNamed "gauge/fault.Deep" = some 3 := by kernel_rfl
theorem tDeep : (Tryd.prog.globals[3]?).map (·.type) = some 33 := by kernel_rfl
theorem gType : Tryd.prog.globalNamed "gauge/fault.Type" = some 4 := by kernel_rfl
theorem tType : (Tryd.prog.globals[4]?).map (·.type) = some 33 := by kernel_rfl
theorem gStore : Tryd.prog.globalNamed "gauge/fault.Store" = some 5 := by kernel_rfl
theorem tStore : (Tryd.prog.globals[5]?).map (·.type) = some 33 := by kernel_rfl
theorem gTwice : Tryd.prog.globalNamed "gauge/fault.Twice" = some 6 := by kernel_rfl
theorem tTwice : (Tryd.prog.globals[6]?).map (·.type) = some 33 := by kernel_rfl
theorem gMany : Tryd.prog.globalNamed "gauge/fault.Many" = some 1 := by kernel_rfl
theorem tMany : (Tryd.prog.globals[1]?).map (·.type) = some 33 := by kernel_rfl
theorem gTimes : Tryd.prog.globalNamed "gauge/fault.Times" = some 7 := by kernel_rfl
theorem tTimes : (Tryd.prog.globals[7]?).map (·.type) = some 33 := by kernel_rfl
theorem gHandle : Tryd.prog.globalNamed "errors.errorType" = some 8 := by kernel_rfl
theorem rtypeRow : (Tryd.prog.cutTypes.find? (·.1 == "internal/reflectlite.rtype")).map (·.2) = some 107 := by kernel_rfl
theorem oneRow : ((List.range 186).filter fun t => Tryd.prog.rowNamed t [101, 114, 114, 111, 114]) = [33] := by kernel_rfl
theorem nTypes : Tryd.prog.types.size = 186 := by kernel_rfl
theorem rowE (u : TypeId) (h : Tryd.prog.typeName? 3 u = some "*errors.errorString") : u = 155 :=
  typeName_ptr_named (nm := "errors.errorString") (by kernel_rfl) (by kernel_rfl) (by decide) u h
theorem cellsE : Tryd.prog.cellsOf 174 = 1 := by kernel_rfl
theorem cellsS : Tryd.prog.cellsOf 9 = 1 := by kernel_rfl

theorem handle_of {W : World} {l : List (String × DataW Unit)} (h : handlesMet Tryd.prog (("errors.errorType", Rows.laid_errors_errorType) :: l) W) : W.cell? ⟨8, 0, none⟩ = some (.iface 107 (.agg #[.pointer (some ⟨12, 33, none⟩)])) := by
  obtain ⟨name, u, ty, e1, e2, e3, e4, e5⟩ := h _ (List.mem_cons_self ..)
  have en : name = [101, 114, 114, 111, 114] := (Option.some.inj e1).symm
  subst en
  obtain rfl := Option.some.inj (rtypeRow.symm.trans e2)
  have hm : ty ∈ (List.range 186).filter fun t => Tryd.prog.rowNamed t [101, 114, 114, 111, 114] := List.mem_filter.2 ⟨List.mem_range.2 (by rw [← nTypes]; exact e3), e4⟩
  rw [oneRow] at hm
  obtain rfl := List.mem_singleton.1 hm
  have hh : typeHandle Tryd.prog 33 = .pointer (some ⟨12, 33, none⟩) := by kernel_rfl
  rw [hh] at e5
  simpa using World.var?_cell gHandle e5 0

theorem same_addr {W : World} {n : String} {t : TypeId} {a b : Addr} (h : W.var? Tryd.prog n = some #[.iface t (.pointer (some a))]) (k : W.var? Tryd.prog n = some #[.iface t (.pointer (some b))]) : a = b := by
  rw [h] at k; simpa using k

def addrs (aLong aSyntax aDeep aType aStore aTwice aMany aTimes : Addr) : Nat → Addr := fun g =>
  if g = 0 then aLong else if g = 2 then aSyntax else if g = 3 then aDeep else if g = 4 then aType else if g = 5 then aStore else if g = 6 then aTwice else if g = 1 then aMany else aTimes

set_option maxHeartbeats 2000000 in
theorem vars_of {W : World} (h : laidMet Tryd.prog [("gauge/fault.Long", Rows.laid_gauge_fault_Long), ("gauge/fault.Syntax", Rows.laid_gauge_fault_Syntax), ("gauge/fault.Deep", Rows.laid_gauge_fault_Deep), ("gauge/fault.Type", Rows.laid_gauge_fault_Type), ("gauge/fault.Store", Rows.laid_gauge_fault_Store), ("gauge/fault.Twice", Rows.laid_gauge_fault_Twice), ("gauge/fault.Many", Rows.laid_gauge_fault_Many), ("gauge/fault.Times", Rows.laid_gauge_fault_Times), ("unicode/utf8.first", Rows.laid_unicode_utf8_first)] W)
    (hh : W.cell? ⟨8, 0, none⟩ = some (.iface 107 (.agg #[.pointer (some ⟨12, 33, none⟩)])))
    {m : Int} (hm : W.cell? ⟨9, 0, none⟩ = some (.int .i64 m)) : ∃ A, Vars W A m := by
  obtain ⟨aLong, _, _, _, cLong, _, uLong, _, vLong, _, _, _, _, _, _, _, _, rLong, _⟩ := laid_sentinels2 h gLong tLong gSyntax tSyntax Tryd.underlying33 rowE Tryd.underlying155 Tryd.underlying174 rfl rfl Tryd.underlying9 cellsE cellsS
  obtain ⟨aSyntax, _, _, _, cSyntax, _, uSyntax, _, vSyntax, _, _, _, _, _, _, _, _, rSyntax, _⟩ := laid_sentinels2 h.tail gSyntax tSyntax gDeep tDeep Tryd.underlying33 rowE Tryd.underlying155 Tryd.underlying174 rfl rfl Tryd.underlying9 cellsE cellsS
  obtain ⟨aDeep, _, _, _, cDeep, _, uDeep, _, vDeep, _, _, _, _, _, _, _, _, rDeep, _⟩ := laid_sentinels2 h.tail.tail gDeep tDeep gType tType Tryd.underlying33 rowE Tryd.underlying155 Tryd.underlying174 rfl rfl Tryd.underlying9 cellsE cellsS
  obtain ⟨aType, _, _, _, cType, _, uType, _, vType, _, _, _, _, _, _, _, _, rType, _⟩ := laid_sentinels2 h.tail.tail.tail gType tType gStore tStore Tryd.underlying33 rowE Tryd.underlying155 Tryd.underlying174 rfl rfl Tryd.underlying9 cellsE cellsS
  obtain ⟨aStore, _, _, _, cStore, _, uStore, _, vStore, _, _, _, _, _, _, _, _, rStore, _⟩ := laid_sentinels2 h.tail.tail.tail.tail gStore tStore gTwice tTwice Tryd.underlying33 rowE Tryd.underlying155 Tryd.underlying174 rfl rfl Tryd.underlying9 cellsE cellsS
  obtain ⟨aTwice, _, _, _, cTwice, _, uTwice, _, vTwice, _, _, _, _, _, _, _, _, rTwice, _⟩ := laid_sentinels2 h.tail.tail.tail.tail.tail gTwice tTwice gMany tMany Tryd.underlying33 rowE Tryd.underlying155 Tryd.underlying174 rfl rfl Tryd.underlying9 cellsE cellsS
  obtain ⟨aMany, _, _, _, cMany, _, uMany, _, vMany, _, _, _, _, _, _, _, _, rMany, _⟩ := laid_sentinels2 h.tail.tail.tail.tail.tail.tail gMany tMany gTimes tTimes Tryd.underlying33 rowE Tryd.underlying155 Tryd.underlying174 rfl rfl Tryd.underlying9 cellsE cellsS
  obtain ⟨_, aTimes, _, _, _, cTimes, _, uTimes, _, vTimes, _, _, _, _, _, _, _, _, rTimes⟩ := laid_sentinels2 h.tail.tail.tail.tail.tail.tail gMany tMany gTimes tTimes Tryd.underlying33 rowE Tryd.underlying155 Tryd.underlying174 rfl rfl Tryd.underlying9 cellsE cellsS
  have nLongSyntax : aLong ≠ aSyntax := by
    obtain ⟨x, y, _, _, _, _, _, _, hx, hy, _, _, _, _, _, _, hne, _, _⟩ := laid_sentinels2 h gLong tLong gSyntax tSyntax Tryd.underlying33 rowE Tryd.underlying155 Tryd.underlying174 rfl rfl Tryd.underlying9 cellsE cellsS
    rw [same_addr vLong hx, same_addr vSyntax hy]; exact hne
  have nLongDeep : aLong ≠ aDeep := by
    obtain ⟨x, y, _, _, _, _, _, _, hx, hy, _, _, _, _, _, _, hne, _, _⟩ := laid_sentinels2 (skip_second h) gLong tLong gDeep tDeep Tryd.underlying33 rowE Tryd.underlying155 Tryd.underlying174 rfl rfl Tryd.underlying9 cellsE cellsS
    rw [same_addr vLong hx, same_addr vDeep hy]; exact hne
  have nLongType : aLong ≠ aType := by
    obtain ⟨x, y, _, _, _, _, _, _, hx, hy, _, _, _, _, _, _, hne, _, _⟩ := laid_sentinels2 (skip_second (skip_second h)) gLong tLong gType tType Tryd.underlying33 rowE Tryd.underlying155 Tryd.underlying174 rfl rfl Tryd.underlying9 cellsE cellsS
    rw [same_addr vLong hx, same_addr vType hy]; exact hne
  have nLongStore : aLong ≠ aStore := by
    obtain ⟨x, y, _, _, _, _, _, _, hx, hy, _, _, _, _, _, _, hne, _, _⟩ := laid_sentinels2 (skip_second (skip_second (skip_second h))) gLong tLong gStore tStore Tryd.underlying33 rowE Tryd.underlying155 Tryd.underlying174 rfl rfl Tryd.underlying9 cellsE cellsS
    rw [same_addr vLong hx, same_addr vStore hy]; exact hne
  have nLongTwice : aLong ≠ aTwice := by
    obtain ⟨x, y, _, _, _, _, _, _, hx, hy, _, _, _, _, _, _, hne, _, _⟩ := laid_sentinels2 (skip_second (skip_second (skip_second (skip_second h)))) gLong tLong gTwice tTwice Tryd.underlying33 rowE Tryd.underlying155 Tryd.underlying174 rfl rfl Tryd.underlying9 cellsE cellsS
    rw [same_addr vLong hx, same_addr vTwice hy]; exact hne
  have nLongMany : aLong ≠ aMany := by
    obtain ⟨x, y, _, _, _, _, _, _, hx, hy, _, _, _, _, _, _, hne, _, _⟩ := laid_sentinels2 (skip_second (skip_second (skip_second (skip_second (skip_second h))))) gLong tLong gMany tMany Tryd.underlying33 rowE Tryd.underlying155 Tryd.underlying174 rfl rfl Tryd.underlying9 cellsE cellsS
    rw [same_addr vLong hx, same_addr vMany hy]; exact hne
  have nLongTimes : aLong ≠ aTimes := by
    obtain ⟨x, y, _, _, _, _, _, _, hx, hy, _, _, _, _, _, _, hne, _, _⟩ := laid_sentinels2 (skip_second (skip_second (skip_second (skip_second (skip_second (skip_second h)))))) gLong tLong gTimes tTimes Tryd.underlying33 rowE Tryd.underlying155 Tryd.underlying174 rfl rfl Tryd.underlying9 cellsE cellsS
    rw [same_addr vLong hx, same_addr vTimes hy]; exact hne
  have nSyntaxDeep : aSyntax ≠ aDeep := by
    obtain ⟨x, y, _, _, _, _, _, _, hx, hy, _, _, _, _, _, _, hne, _, _⟩ := laid_sentinels2 h.tail gSyntax tSyntax gDeep tDeep Tryd.underlying33 rowE Tryd.underlying155 Tryd.underlying174 rfl rfl Tryd.underlying9 cellsE cellsS
    rw [same_addr vSyntax hx, same_addr vDeep hy]; exact hne
  have nSyntaxType : aSyntax ≠ aType := by
    obtain ⟨x, y, _, _, _, _, _, _, hx, hy, _, _, _, _, _, _, hne, _, _⟩ := laid_sentinels2 (skip_second h.tail) gSyntax tSyntax gType tType Tryd.underlying33 rowE Tryd.underlying155 Tryd.underlying174 rfl rfl Tryd.underlying9 cellsE cellsS
    rw [same_addr vSyntax hx, same_addr vType hy]; exact hne
  have nSyntaxStore : aSyntax ≠ aStore := by
    obtain ⟨x, y, _, _, _, _, _, _, hx, hy, _, _, _, _, _, _, hne, _, _⟩ := laid_sentinels2 (skip_second (skip_second h.tail)) gSyntax tSyntax gStore tStore Tryd.underlying33 rowE Tryd.underlying155 Tryd.underlying174 rfl rfl Tryd.underlying9 cellsE cellsS
    rw [same_addr vSyntax hx, same_addr vStore hy]; exact hne
  have nSyntaxTwice : aSyntax ≠ aTwice := by
    obtain ⟨x, y, _, _, _, _, _, _, hx, hy, _, _, _, _, _, _, hne, _, _⟩ := laid_sentinels2 (skip_second (skip_second (skip_second h.tail))) gSyntax tSyntax gTwice tTwice Tryd.underlying33 rowE Tryd.underlying155 Tryd.underlying174 rfl rfl Tryd.underlying9 cellsE cellsS
    rw [same_addr vSyntax hx, same_addr vTwice hy]; exact hne
  have nSyntaxMany : aSyntax ≠ aMany := by
    obtain ⟨x, y, _, _, _, _, _, _, hx, hy, _, _, _, _, _, _, hne, _, _⟩ := laid_sentinels2 (skip_second (skip_second (skip_second (skip_second h.tail)))) gSyntax tSyntax gMany tMany Tryd.underlying33 rowE Tryd.underlying155 Tryd.underlying174 rfl rfl Tryd.underlying9 cellsE cellsS
    rw [same_addr vSyntax hx, same_addr vMany hy]; exact hne
  have nSyntaxTimes : aSyntax ≠ aTimes := by
    obtain ⟨x, y, _, _, _, _, _, _, hx, hy, _, _, _, _, _, _, hne, _, _⟩ := laid_sentinels2 (skip_second (skip_second (skip_second (skip_second (skip_second h.tail))))) gSyntax tSyntax gTimes tTimes Tryd.underlying33 rowE Tryd.underlying155 Tryd.underlying174 rfl rfl Tryd.underlying9 cellsE cellsS
    rw [same_addr vSyntax hx, same_addr vTimes hy]; exact hne
  have nDeepType : aDeep ≠ aType := by
    obtain ⟨x, y, _, _, _, _, _, _, hx, hy, _, _, _, _, _, _, hne, _, _⟩ := laid_sentinels2 h.tail.tail gDeep tDeep gType tType Tryd.underlying33 rowE Tryd.underlying155 Tryd.underlying174 rfl rfl Tryd.underlying9 cellsE cellsS
    rw [same_addr vDeep hx, same_addr vType hy]; exact hne
  have nDeepStore : aDeep ≠ aStore := by
    obtain ⟨x, y, _, _, _, _, _, _, hx, hy, _, _, _, _, _, _, hne, _, _⟩ := laid_sentinels2 (skip_second h.tail.tail) gDeep tDeep gStore tStore Tryd.underlying33 rowE Tryd.underlying155 Tryd.underlying174 rfl rfl Tryd.underlying9 cellsE cellsS
    rw [same_addr vDeep hx, same_addr vStore hy]; exact hne
  have nDeepTwice : aDeep ≠ aTwice := by
    obtain ⟨x, y, _, _, _, _, _, _, hx, hy, _, _, _, _, _, _, hne, _, _⟩ := laid_sentinels2 (skip_second (skip_second h.tail.tail)) gDeep tDeep gTwice tTwice Tryd.underlying33 rowE Tryd.underlying155 Tryd.underlying174 rfl rfl Tryd.underlying9 cellsE cellsS
    rw [same_addr vDeep hx, same_addr vTwice hy]; exact hne
  have nDeepMany : aDeep ≠ aMany := by
    obtain ⟨x, y, _, _, _, _, _, _, hx, hy, _, _, _, _, _, _, hne, _, _⟩ := laid_sentinels2 (skip_second (skip_second (skip_second h.tail.tail))) gDeep tDeep gMany tMany Tryd.underlying33 rowE Tryd.underlying155 Tryd.underlying174 rfl rfl Tryd.underlying9 cellsE cellsS
    rw [same_addr vDeep hx, same_addr vMany hy]; exact hne
  have nDeepTimes : aDeep ≠ aTimes := by
    obtain ⟨x, y, _, _, _, _, _, _, hx, hy, _, _, _, _, _, _, hne, _, _⟩ := laid_sentinels2 (skip_second (skip_second (skip_second (skip_second h.tail.tail)))) gDeep tDeep gTimes tTimes Tryd.underlying33 rowE Tryd.underlying155 Tryd.underlying174 rfl rfl Tryd.underlying9 cellsE cellsS
    rw [same_addr vDeep hx, same_addr vTimes hy]; exact hne
  have nTypeStore : aType ≠ aStore := by
    obtain ⟨x, y, _, _, _, _, _, _, hx, hy, _, _, _, _, _, _, hne, _, _⟩ := laid_sentinels2 h.tail.tail.tail gType tType gStore tStore Tryd.underlying33 rowE Tryd.underlying155 Tryd.underlying174 rfl rfl Tryd.underlying9 cellsE cellsS
    rw [same_addr vType hx, same_addr vStore hy]; exact hne
  have nTypeTwice : aType ≠ aTwice := by
    obtain ⟨x, y, _, _, _, _, _, _, hx, hy, _, _, _, _, _, _, hne, _, _⟩ := laid_sentinels2 (skip_second h.tail.tail.tail) gType tType gTwice tTwice Tryd.underlying33 rowE Tryd.underlying155 Tryd.underlying174 rfl rfl Tryd.underlying9 cellsE cellsS
    rw [same_addr vType hx, same_addr vTwice hy]; exact hne
  have nTypeMany : aType ≠ aMany := by
    obtain ⟨x, y, _, _, _, _, _, _, hx, hy, _, _, _, _, _, _, hne, _, _⟩ := laid_sentinels2 (skip_second (skip_second h.tail.tail.tail)) gType tType gMany tMany Tryd.underlying33 rowE Tryd.underlying155 Tryd.underlying174 rfl rfl Tryd.underlying9 cellsE cellsS
    rw [same_addr vType hx, same_addr vMany hy]; exact hne
  have nTypeTimes : aType ≠ aTimes := by
    obtain ⟨x, y, _, _, _, _, _, _, hx, hy, _, _, _, _, _, _, hne, _, _⟩ := laid_sentinels2 (skip_second (skip_second (skip_second h.tail.tail.tail))) gType tType gTimes tTimes Tryd.underlying33 rowE Tryd.underlying155 Tryd.underlying174 rfl rfl Tryd.underlying9 cellsE cellsS
    rw [same_addr vType hx, same_addr vTimes hy]; exact hne
  have nStoreTwice : aStore ≠ aTwice := by
    obtain ⟨x, y, _, _, _, _, _, _, hx, hy, _, _, _, _, _, _, hne, _, _⟩ := laid_sentinels2 h.tail.tail.tail.tail gStore tStore gTwice tTwice Tryd.underlying33 rowE Tryd.underlying155 Tryd.underlying174 rfl rfl Tryd.underlying9 cellsE cellsS
    rw [same_addr vStore hx, same_addr vTwice hy]; exact hne
  have nStoreMany : aStore ≠ aMany := by
    obtain ⟨x, y, _, _, _, _, _, _, hx, hy, _, _, _, _, _, _, hne, _, _⟩ := laid_sentinels2 (skip_second h.tail.tail.tail.tail) gStore tStore gMany tMany Tryd.underlying33 rowE Tryd.underlying155 Tryd.underlying174 rfl rfl Tryd.underlying9 cellsE cellsS
    rw [same_addr vStore hx, same_addr vMany hy]; exact hne
  have nStoreTimes : aStore ≠ aTimes := by
    obtain ⟨x, y, _, _, _, _, _, _, hx, hy, _, _, _, _, _, _, hne, _, _⟩ := laid_sentinels2 (skip_second (skip_second h.tail.tail.tail.tail)) gStore tStore gTimes tTimes Tryd.underlying33 rowE Tryd.underlying155 Tryd.underlying174 rfl rfl Tryd.underlying9 cellsE cellsS
    rw [same_addr vStore hx, same_addr vTimes hy]; exact hne
  have nTwiceMany : aTwice ≠ aMany := by
    obtain ⟨x, y, _, _, _, _, _, _, hx, hy, _, _, _, _, _, _, hne, _, _⟩ := laid_sentinels2 h.tail.tail.tail.tail.tail gTwice tTwice gMany tMany Tryd.underlying33 rowE Tryd.underlying155 Tryd.underlying174 rfl rfl Tryd.underlying9 cellsE cellsS
    rw [same_addr vTwice hx, same_addr vMany hy]; exact hne
  have nTwiceTimes : aTwice ≠ aTimes := by
    obtain ⟨x, y, _, _, _, _, _, _, hx, hy, _, _, _, _, _, _, hne, _, _⟩ := laid_sentinels2 (skip_second h.tail.tail.tail.tail.tail) gTwice tTwice gTimes tTimes Tryd.underlying33 rowE Tryd.underlying155 Tryd.underlying174 rfl rfl Tryd.underlying9 cellsE cellsS
    rw [same_addr vTwice hx, same_addr vTimes hy]; exact hne
  have nManyTimes : aMany ≠ aTimes := by
    obtain ⟨x, y, _, _, _, _, _, _, hx, hy, _, _, _, _, _, _, hne, _, _⟩ := laid_sentinels2 h.tail.tail.tail.tail.tail.tail gMany tMany gTimes tTimes Tryd.underlying33 rowE Tryd.underlying155 Tryd.underlying174 rfl rfl Tryd.underlying9 cellsE cellsS
    rw [same_addr vMany hx, same_addr vTimes hy]; exact hne
  refine ⟨addrs aLong aSyntax aDeep aType aStore aTwice aMany aTimes, hm, ?_, ?_, ?_, hh⟩
  · intro g hg
    simp only [sents, List.mem_cons, List.mem_nil_iff, or_false] at hg
    rcases hg with rfl | rfl | rfl | rfl | rfl | rfl | rfl | rfl
    · simpa [addrs] using World.var?_cell gLong vLong 0
    · simpa [addrs] using World.var?_cell gSyntax vSyntax 0
    · simpa [addrs] using World.var?_cell gDeep vDeep 0
    · simpa [addrs] using World.var?_cell gType vType 0
    · simpa [addrs] using World.var?_cell gStore vStore 0
    · simpa [addrs] using World.var?_cell gTwice vTwice 0
    · simpa [addrs] using World.var?_cell gMany vMany 0
    · simpa [addrs] using World.var?_cell gTimes vTimes 0
  · intro g hg g' hg' hne
    simp only [sents, List.mem_cons, List.mem_nil_iff, or_false] at hg hg'
    rcases hg with rfl | rfl | rfl | rfl | rfl | rfl | rfl | rfl <;> rcases hg' with rfl | rfl | rfl | rfl | rfl | rfl | rfl | rfl
    all_goals first | exact absurd rfl hne | skip
    · simpa [addrs] using nLongSyntax
    · simpa [addrs] using nLongDeep
    · simpa [addrs] using nLongType
    · simpa [addrs] using nLongStore
    · simpa [addrs] using nLongTwice
    · simpa [addrs] using nLongMany
    · simpa [addrs] using nLongTimes
    · simpa [addrs] using nLongSyntax.symm
    · simpa [addrs] using nSyntaxDeep
    · simpa [addrs] using nSyntaxType
    · simpa [addrs] using nSyntaxStore
    · simpa [addrs] using nSyntaxTwice
    · simpa [addrs] using nSyntaxMany
    · simpa [addrs] using nSyntaxTimes
    · simpa [addrs] using nLongDeep.symm
    · simpa [addrs] using nSyntaxDeep.symm
    · simpa [addrs] using nDeepType
    · simpa [addrs] using nDeepStore
    · simpa [addrs] using nDeepTwice
    · simpa [addrs] using nDeepMany
    · simpa [addrs] using nDeepTimes
    · simpa [addrs] using nLongType.symm
    · simpa [addrs] using nSyntaxType.symm
    · simpa [addrs] using nDeepType.symm
    · simpa [addrs] using nTypeStore
    · simpa [addrs] using nTypeTwice
    · simpa [addrs] using nTypeMany
    · simpa [addrs] using nTypeTimes
    · simpa [addrs] using nLongStore.symm
    · simpa [addrs] using nSyntaxStore.symm
    · simpa [addrs] using nDeepStore.symm
    · simpa [addrs] using nTypeStore.symm
    · simpa [addrs] using nStoreTwice
    · simpa [addrs] using nStoreMany
    · simpa [addrs] using nStoreTimes
    · simpa [addrs] using nLongTwice.symm
    · simpa [addrs] using nSyntaxTwice.symm
    · simpa [addrs] using nDeepTwice.symm
    · simpa [addrs] using nTypeTwice.symm
    · simpa [addrs] using nStoreTwice.symm
    · simpa [addrs] using nTwiceMany
    · simpa [addrs] using nTwiceTimes
    · simpa [addrs] using nLongMany.symm
    · simpa [addrs] using nSyntaxMany.symm
    · simpa [addrs] using nDeepMany.symm
    · simpa [addrs] using nTypeMany.symm
    · simpa [addrs] using nStoreMany.symm
    · simpa [addrs] using nTwiceMany.symm
    · simpa [addrs] using nManyTimes
    · simpa [addrs] using nLongTimes.symm
    · simpa [addrs] using nSyntaxTimes.symm
    · simpa [addrs] using nDeepTimes.symm
    · simpa [addrs] using nTypeTimes.symm
    · simpa [addrs] using nStoreTimes.symm
    · simpa [addrs] using nTwiceTimes.symm
    · simpa [addrs] using nManyTimes.symm
  · intro g hg
    simp only [sents, List.mem_cons, List.mem_nil_iff, or_false] at hg
    rcases hg with rfl | rfl | rfl | rfl | rfl | rfl | rfl | rfl
    · exact ⟨cLong, uLong, by simpa [addrs] using rLong⟩
    · exact ⟨cSyntax, uSyntax, by simpa [addrs] using rSyntax⟩
    · exact ⟨cDeep, uDeep, by simpa [addrs] using rDeep⟩
    · exact ⟨cType, uType, by simpa [addrs] using rType⟩
    · exact ⟨cStore, uStore, by simpa [addrs] using rStore⟩
    · exact ⟨cTwice, uTwice, by simpa [addrs] using rTwice⟩
    · exact ⟨cMany, uMany, by simpa [addrs] using rMany⟩
    · exact ⟨cTimes, uTimes, by simpa [addrs] using rTimes⟩
end Go.Proofs.YtojcbofnbnpceaaDoor

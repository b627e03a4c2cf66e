/- Parts of the proof, joined: Laid -/
import Derived.Test.YtmncdbepjhmkgaaGreatDoorRows
import Derived.Test.YtmncdbepjhmkgaaGreatDoorJ44
import Derived.Test.YtmncdbepjhmkgaaGreatDoorJ02
import Derived.ProofKit
import Derived.LaidLaws
import Derived.LaidHandle
import Derived.Stop.LaidTwo
import Derived.Shelf.Vars
import Derived.Lay
/- What the listed package-level variables hold when the call begins, in the words of the walks; and the frame of the statement. -/
namespace Go.Proofs.YtmncdbepjhmkgaaGreatDoor
open Go.ChangeShapes Go.WideShapes Go.ChangeAt Go.RowKit LS

theorem skip_second {P : Program} {x y : String × DataW Unit} {r : List (String × DataW Unit)} {w : World} (h : laidMet P (x :: y :: r) w) : laidMet P (x :: r) w := by
  obtain ⟨n, d⟩ := x
  obtain ⟨n', d'⟩ := y
  obtain ⟨ps, ⟨g, t, cs, f, p, q, h1, h2, h3, h4, ⟨g', t', cs', f', p', q', k1, k2, k3, k4, k5, e'⟩, e⟩, hnd, hr⟩ := h
  subst e'
  have hsub : (MemPlace.row ⟨g, 0, none⟩ cs.size ++ p ++ q').Sublist ps := by
    rw [e]; exact List.Sublist.append (List.Sublist.refl _) (List.sublist_append_right _ _)
  exact ⟨_, ⟨g, t, cs, f, p, q', h1, h2, h3, h4, k5, rfl⟩, hnd.sublist hsub, fun b off hm => hr b off (hsub.mem hm)⟩

theorem own : ownKnob Tryz.prog.godebug = none := by kernel_rfl
theorem gLong : Tryz.prog.globalNamed "gauge/fault.Long" = some 0 := by kernel_rfl
theorem tLong : (Tryz.prog.globals[0]?).map (·.type) = some 33 := by kernel_rfl
theorem gSyntax : Tryz.prog.globalNamed "gauge/fault.Syntax" = some 1 := by kernel_rfl
theorem tSyntax : (Tryz.prog.globals[1]?).map (·.type) = some 33 := by kernel_rfl
theorem gDeep : Tryz.prog.globalNamed "gauge/fault.Deep" = some 2 := by kernel_rfl
theorem tDeep : (Tryz.prog.globals[2]?).map (·.type) = some 33 := by kernel_rfl
theorem gType : Tryz.prog.globalNamed "gauge/fault.Type" = some 3 := by kernel_rfl
theorem tType : (Tryz.prog.globals[3]?).map (·.type) = some 33 := by kernel_rfl
theorem gStore : Tryz.prog.globalNamed "gauge/fault.Store" = some 4 := by kernel_rfl
theorem tStore : (Tryz.prog.globals[4]?).map (·.type) = some 33 := by kernel_rfl
theorem gTwice : Tryz.prog.globalNamed "gauge/fault.Twice" = some 5 := by kernel_rfl
theorem tTwice : (Tryz.prog.globals[5]?).map (·.type) = some 33 := by kernel_rfl
theorem gMany : Tryz.prog.globalNamed "gauge/fault.Many" = some 6 := by kernel_rfl
theorem tMany : (Tryz.prog.globals[6]?).map (·.type) = some 33 := by kernel_rfl
theorem gTimes : Tryz.prog.globalNamed "gauge/fault.Times" = some 7 := by kernel_rfl
theorem tTimes : (Tryz.prog.globals[7]?).map (·.type) = some 33 := by kernel_rfl
theorem gCode : Tryz.prog.globalNamed "gauge/fault.Code" = some 8 := by kernel_rfl
theorem tCode : (Tryz.prog.globals[8]?).map (·.type) = some 33 := by kernel_rfl
theorem gSum : Tryz.prog.globalNamed "gauge/fault.Sum" = some 9 := by kernel_rfl
theorem tSum : (Tryz.prog.globals[9]?).map (·.type) = some 33 := by kernel_rfl
theorem gRefer : Tryz.prog.globalNamed "gauge/fault.Refer" = some 10 := by kernel_rfl
theorem tRefer : (Tryz.prog.globals[10]?).map (·.type) = some 33 := by kernel_rfl
theorem gStack : Tryz.prog.globalNamed "gauge/fault.Stack" = some 11 := by kernel_rfl
theorem tStack : (Tryz.prog.globals[11]?).map (·.type) = some 33 := by kernel_rfl
theorem gFuel : Tryz.prog.globalNamed "gauge/fault.Fuel" = some 12 := by kernel_rfl
theorem tFuel : (Tryz.prog.globals[12]?).map (·.type) = some 33 := by kernel_rfl
theorem gHandle : Tryz.prog.globalNamed "errors.errorType" = some 13 := by kernel_rfl
theorem rtypeRow : (Tryz.prog.cutTypes.find? (·.1 == "internal/reflectlite.rtype")).map (·.2) = some 145 := by kernel_rfl
theorem oneRow : ((List.range 227).filter fun t => Tryz.prog.rowNamed t [101, 114, 114, 111, 114]) = [33] := by kernel_rfl
theorem nTypes : Tryz.prog.types.size = 227 := by kernel_rfl
theorem rowE (u : TypeId) (h : Tryz.prog.typeName? 3 u = some "*errors.errorString") : u = 198 :=
  typeName_ptr_named (nm := "errors.errorString") (by kernel_rfl) (by kernel_rfl) (by decide) u h
theorem cellsE : Tryz.prog.cellsOf 216 = 1 := by kernel_rfl
theorem cellsS : Tryz.prog.cellsOf 9 = 1 := by kernel_rfl

theorem handle_of {W : World} {l : List (String × DataW Unit)} (h : handlesMet Tryz.prog (("errors.errorType", Rows.laid_errors_errorType) :: l) W) : W.cell? ⟨13, 0, none⟩ = some (.iface 145 (.agg #[.pointer (some ⟨18, 33, none⟩)])) := by
  obtain ⟨name, u, ty, e1, e2, e3, e4, e5⟩ := h _ (List.mem_cons_self ..)
  have en : name = [101, 114, 114, 111, 114] := (Option.some.inj e1).symm
  subst en
  obtain rfl := Option.some.inj (rtypeRow.symm.trans e2)
  have hm : ty ∈ (List.range 227).filter fun t => Tryz.prog.rowNamed t [101, 114, 114, 111, 114] := List.mem_filter.2 ⟨List.mem_range.2 (by rw [← nTypes]; exact e3), e4⟩
  rw [oneRow] at hm
  obtain rfl := List.mem_singleton.1 hm
  have hh : typeHandle Tryz.prog 33 = .pointer (some ⟨18, 33, none⟩) := by kernel_rfl
  rw [hh] at e5
  simpa using World.var?_cell gHandle e5 0

theorem same_addr {W : World} {n : String} {t : TypeId} {a b : Addr} (h : W.var? Tryz.prog n = some #[.iface t (.pointer (some a))]) (k : W.var? Tryz.prog n = some #[.iface t (.pointer (some b))]) : a = b := by
  rw [h] at k; simpa using k

def addrs (aLong aSyntax aDeep aType aStore aTwice aMany aTimes aCode aSum aRefer aStack aFuel : Addr) : Nat → Addr := fun g =>
  if g = 0 then aLong else if g = 1 then aSyntax else if g = 2 then aDeep else if g = 3 then aType else if g = 4 then aStore else if g = 5 then aTwice else if g = 6 then aMany else if g = 7 then aTimes else if g = 8 then aCode else if g = 9 then aSum else if g = 10 then aRefer else if g = 11 then aStack else aFuel

set_option maxHeartbeats 2000000 in
theorem vars_of {W : World} {r : List (String × DataW Unit)} (h : laidMet Tryz.prog (("gauge/fault.Long", Rows.laid_gauge_fault_Long) :: ("gauge/fault.Syntax", Rows.laid_gauge_fault_Syntax) :: ("gauge/fault.Deep", Rows.laid_gauge_fault_Deep) :: ("gauge/fault.Type", Rows.laid_gauge_fault_Type) :: ("gauge/fault.Store", Rows.laid_gauge_fault_Store) :: ("gauge/fault.Twice", Rows.laid_gauge_fault_Twice) :: ("gauge/fault.Many", Rows.laid_gauge_fault_Many) :: ("gauge/fault.Times", Rows.laid_gauge_fault_Times) :: ("gauge/fault.Code", Rows.laid_gauge_fault_Code) :: ("gauge/fault.Sum", Rows.laid_gauge_fault_Sum) :: ("gauge/fault.Refer", Rows.laid_gauge_fault_Refer) :: ("gauge/fault.Stack", Rows.laid_gauge_fault_Stack) :: ("gauge/fault.Fuel", Rows.laid_gauge_fault_Fuel) :: r) W)
    (hh : W.cell? ⟨13, 0, none⟩ = some (.iface 145 (.agg #[.pointer (some ⟨18, 33, none⟩)])))
    {m : Int} (hm : W.cell? ⟨14, 0, none⟩ = some (.int .i64 m)) : ∃ A, Vars W A m := by
  obtain ⟨aLong, _, _, _, cLong, _, uLong, _, vLong, _, _, _, _, _, _, _, _, rLong, _⟩ := laid_sentinels2 h gLong tLong gSyntax tSyntax Tryz.underlying33 rowE Tryz.underlying198 Tryz.underlying216 rfl rfl Tryz.underlying9 cellsE cellsS
  obtain ⟨aSyntax, _, _, _, cSyntax, _, uSyntax, _, vSyntax, _, _, _, _, _, _, _, _, rSyntax, _⟩ := laid_sentinels2 h.tail gSyntax tSyntax gDeep tDeep Tryz.underlying33 rowE Tryz.underlying198 Tryz.underlying216 rfl rfl Tryz.underlying9 cellsE cellsS
  obtain ⟨aDeep, _, _, _, cDeep, _, uDeep, _, vDeep, _, _, _, _, _, _, _, _, rDeep, _⟩ := laid_sentinels2 h.tail.tail gDeep tDeep gType tType Tryz.underlying33 rowE Tryz.underlying198 Tryz.underlying216 rfl rfl Tryz.underlying9 cellsE cellsS
  obtain ⟨aType, _, _, _, cType, _, uType, _, vType, _, _, _, _, _, _, _, _, rType, _⟩ := laid_sentinels2 h.tail.tail.tail gType tType gStore tStore Tryz.underlying33 rowE Tryz.underlying198 Tryz.underlying216 rfl rfl Tryz.underlying9 cellsE cellsS
  obtain ⟨aStore, _, _, _, cStore, _, uStore, _, vStore, _, _, _, _, _, _, _, _, rStore, _⟩ := laid_sentinels2 h.tail.tail.tail.tail gStore tStore gTwice tTwice Tryz.underlying33 rowE Tryz.underlying198 Tryz.underlying216 rfl rfl Tryz.underlying9 cellsE cellsS
  obtain ⟨aTwice, _, _, _, cTwice, _, uTwice, _, vTwice, _, _, _, _, _, _, _, _, rTwice, _⟩ := laid_sentinels2 h.tail.tail.tail.tail.tail gTwice tTwice gMany tMany Tryz.underlying33 rowE Tryz.underlying198 Tryz.underlying216 rfl rfl Tryz.underlying9 cellsE cellsS
  obtain ⟨aMany, _, _, _, cMany, _, uMany, _, vMany, _, _, _, _, _, _, _, _, rMany, _⟩ := laid_sentinels2 h.tail.tail.tail.tail.tail.tail gMany tMany gTimes tTimes Tryz.underlying33 rowE Tryz.underlying198 Tryz.underlying216 rfl rfl Tryz.underlying9 cellsE cellsS
  obtain ⟨aTimes, _, _, _, cTimes, _, uTimes, _, vTimes, _, _, _, _, _, _, _, _, rTimes, _⟩ := laid_sentinels2 h.tail.tail.tail.tail.tail.tail.tail gTimes tTimes gCode tCode Tryz.underlying33 rowE Tryz.underlying198 Tryz.underlying216 rfl rfl Tryz.underlying9 cellsE cellsS
  obtain ⟨aCode, _, _, _, cCode, _, uCode, _, vCode, _, _, _, _, _, _, _, _, rCode, _⟩ := laid_sentinels2 h.tail.tail.tail.tail.tail.tail.tail.tail gCode tCode gSum tSum Tryz.underlying33 rowE Tryz.underlying198 Tryz.underlying216 rfl rfl Tryz.underlying9 cellsE cellsS
  obtain ⟨aSum, _, _, _, cSum, _, uSum, _, vSum, _, _, _, _, _, _, _, _, rSum, _⟩ := laid_sentinels2 h.tail.tail.tail.tail.tail.tail.tail.tail.tail gSum tSum gRefer tRefer Tryz.underlying33 rowE Tryz.underlying198 Tryz.underlying216 rfl rfl Tryz.underlying9 cellsE cellsS
  obtain ⟨aRefer, _, _, _, cRefer, _, uRefer, _, vRefer, _, _, _, _, _, _, _, _, rRefer, _⟩ := laid_sentinels2 h.tail.tail.tail.tail.tail.tail.tail.tail.tail.tail gRefer tRefer gStack tStack Tryz.underlying33 rowE Tryz.underlying198 Tryz.underlying216 rfl rfl Tryz.underlying9 cellsE cellsS
  obtain ⟨aStack, _, _, _, cStack, _, uStack, _, vStack, _, _, _, _, _, _, _, _, rStack, _⟩ := laid_sentinels2 h.tail.tail.tail.tail.tail.tail.tail.tail.tail.tail.tail gStack tStack gFuel tFuel Tryz.underlying33 rowE Tryz.underlying198 Tryz.underlying216 rfl rfl Tryz.underlying9 cellsE cellsS
  obtain ⟨_, aFuel, _, _, _, cFuel, _, uFuel, _, vFuel, _, _, _, _, _, _, _, _, rFuel⟩ := laid_sentinels2 h.tail.tail.tail.tail.tail.tail.tail.tail.tail.tail.tail gStack tStack gFuel tFuel Tryz.underlying33 rowE Tryz.underlying198 Tryz.underlying216 rfl rfl Tryz.underlying9 cellsE cellsS
  have nLongSyntax : aLong ≠ aSyntax := by
    obtain ⟨x, y, _, _, _, _, _, _, hx, hy, _, _, _, _, _, _, hne, _, _⟩ := laid_sentinels2 h gLong tLong gSyntax tSyntax Tryz.underlying33 rowE Tryz.underlying198 Tryz.underlying216 rfl rfl Tryz.underlying9 cellsE cellsS
    rw [same_addr vLong hx, same_addr vSyntax hy]; exact hne
  have nLongDeep : aLong ≠ aDeep := by
    obtain ⟨x, y, _, _, _, _, _, _, hx, hy, _, _, _, _, _, _, hne, _, _⟩ := laid_sentinels2 (skip_second h) gLong tLong gDeep tDeep Tryz.underlying33 rowE Tryz.underlying198 Tryz.underlying216 rfl rfl Tryz.underlying9 cellsE cellsS
    rw [same_addr vLong hx, same_addr vDeep hy]; exact hne
  have nLongType : aLong ≠ aType := by
    obtain ⟨x, y, _, _, _, _, _, _, hx, hy, _, _, _, _, _, _, hne, _, _⟩ := laid_sentinels2 (skip_second (skip_second h)) gLong tLong gType tType Tryz.underlying33 rowE Tryz.underlying198 Tryz.underlying216 rfl rfl Tryz.underlying9 cellsE cellsS
    rw [same_addr vLong hx, same_addr vType hy]; exact hne
  have nLongStore : aLong ≠ aStore := by
    obtain ⟨x, y, _, _, _, _, _, _, hx, hy, _, _, _, _, _, _, hne, _, _⟩ := laid_sentinels2 (skip_second (skip_second (skip_second h))) gLong tLong gStore tStore Tryz.underlying33 rowE Tryz.underlying198 Tryz.underlying216 rfl rfl Tryz.underlying9 cellsE cellsS
    rw [same_addr vLong hx, same_addr vStore hy]; exact hne
  have nLongTwice : aLong ≠ aTwice := by
    obtain ⟨x, y, _, _, _, _, _, _, hx, hy, _, _, _, _, _, _, hne, _, _⟩ := laid_sentinels2 (skip_second (skip_second (skip_second (skip_second h)))) gLong tLong gTwice tTwice Tryz.underlying33 rowE Tryz.underlying198 Tryz.underlying216 rfl rfl Tryz.underlying9 cellsE cellsS
    rw [same_addr vLong hx, same_addr vTwice hy]; exact hne
  have nLongMany : aLong ≠ aMany := by
    obtain ⟨x, y, _, _, _, _, _, _, hx, hy, _, _, _, _, _, _, hne, _, _⟩ := laid_sentinels2 (skip_second (skip_second (skip_second (skip_second (skip_second h))))) gLong tLong gMany tMany Tryz.underlying33 rowE Tryz.underlying198 Tryz.underlying216 rfl rfl Tryz.underlying9 cellsE cellsS
    rw [same_addr vLong hx, same_addr vMany hy]; exact hne
  have nLongTimes : aLong ≠ aTimes := by
    obtain ⟨x, y, _, _, _, _, _, _, hx, hy, _, _, _, _, _, _, hne, _, _⟩ := laid_sentinels2 (skip_second (skip_second (skip_second (skip_second (skip_second (skip_second h)))))) gLong tLong gTimes tTimes Tryz.underlying33 rowE Tryz.underlying198 Tryz.underlying216 rfl rfl Tryz.underlying9 cellsE cellsS
    rw [same_addr vLong hx, same_addr vTimes hy]; exact hne
  have nLongCode : aLong ≠ aCode := by
    obtain ⟨x, y, _, _, _, _, _, _, hx, hy, _, _, _, _, _, _, hne, _, _⟩ := laid_sentinels2 (skip_second (skip_second (skip_second (skip_second (skip_second (skip_second (skip_second h))))))) gLong tLong gCode tCode Tryz.underlying33 rowE Tryz.underlying198 Tryz.underlying216 rfl rfl Tryz.underlying9 cellsE cellsS
    rw [same_addr vLong hx, same_addr vCode hy]; exact hne
  have nLongSum : aLong ≠ aSum := by
    obtain ⟨x, y, _, _, _, _, _, _, hx, hy, _, _, _, _, _, _, hne, _, _⟩ := laid_sentinels2 (skip_second (skip_second (skip_second (skip_second (skip_second (skip_second (skip_second (skip_second h)))))))) gLong tLong gSum tSum Tryz.underlying33 rowE Tryz.underlying198 Tryz.underlying216 rfl rfl Tryz.underlying9 cellsE cellsS
    rw [same_addr vLong hx, same_addr vSum hy]; exact hne
  have nLongRefer : aLong ≠ aRefer := by
    obtain ⟨x, y, _, _, _, _, _, _, hx, hy, _, _, _, _, _, _, hne, _, _⟩ := laid_sentinels2 (skip_second (skip_second (skip_second (skip_second (skip_second (skip_second (skip_second (skip_second (skip_second h))))))))) gLong tLong gRefer tRefer Tryz.underlying33 rowE Tryz.underlying198 Tryz.underlying216 rfl rfl Tryz.underlying9 cellsE cellsS
    rw [same_addr vLong hx, same_addr vRefer hy]; exact hne
  have nLongStack : aLong ≠ aStack := by
    obtain ⟨x, y, _, _, _, _, _, _, hx, hy, _, _, _, _, _, _, hne, _, _⟩ := laid_sentinels2 (skip_second (skip_second (skip_second (skip_second (skip_second (skip_second (skip_second (skip_second (skip_second (skip_second h)))))))))) gLong tLong gStack tStack Tryz.underlying33 rowE Tryz.underlying198 Tryz.underlying216 rfl rfl Tryz.underlying9 cellsE cellsS
    rw [same_addr vLong hx, same_addr vStack hy]; exact hne
  have nLongFuel : aLong ≠ aFuel := by
    obtain ⟨x, y, _, _, _, _, _, _, hx, hy, _, _, _, _, _, _, hne, _, _⟩ := laid_sentinels2 (skip_second (skip_second (skip_second (skip_second (skip_second (skip_second (skip_second (skip_second (skip_second (skip_second (skip_second h))))))))))) gLong tLong gFuel tFuel Tryz.underlying33 rowE Tryz.underlying198 Tryz.underlying216 rfl rfl Tryz.underlying9 cellsE cellsS
    rw [same_addr vLong hx, same_addr vFuel hy]; exact hne
  have nSyntaxDeep : aSyntax ≠ aDeep := by
    obtain ⟨x, y, _, _, _, _, _, _, hx, hy, _, _, _, _, _, _, hne, _, _⟩ := laid_sentinels2 h.tail gSyntax tSyntax gDeep tDeep Tryz.underlying33 rowE Tryz.underlying198 Tryz.underlying216 rfl rfl Tryz.underlying9 cellsE cellsS
    rw [same_addr vSyntax hx, same_addr vDeep hy]; exact hne
  have nSyntaxType : aSyntax ≠ aType := by
    obtain ⟨x, y, _, _, _, _, _, _, hx, hy, _, _, _, _, _, _, hne, _, _⟩ := laid_sentinels2 (skip_second h.tail) gSyntax tSyntax gType tType Tryz.underlying33 rowE Tryz.underlying198 Tryz.underlying216 rfl rfl Tryz.underlying9 cellsE cellsS
    rw [same_addr vSyntax hx, same_addr vType hy]; exact hne
  have nSyntaxStore : aSyntax ≠ aStore := by
    obtain ⟨x, y, _, _, _, _, _, _, hx, hy, _, _, _, _, _, _, hne, _, _⟩ := laid_sentinels2 (skip_second (skip_second h.tail)) gSyntax tSyntax gStore tStore Tryz.underlying33 rowE Tryz.underlying198 Tryz.underlying216 rfl rfl Tryz.underlying9 cellsE cellsS
    rw [same_addr vSyntax hx, same_addr vStore hy]; exact hne
  have nSyntaxTwice : aSyntax ≠ aTwice := by
    obtain ⟨x, y, _, _, _, _, _, _, hx, hy, _, _, _, _, _, _, hne, _, _⟩ := laid_sentinels2 (skip_second (skip_second (skip_second h.tail))) gSyntax tSyntax gTwice tTwice Tryz.underlying33 rowE Tryz.underlying198 Tryz.underlying216 rfl rfl Tryz.underlying9 cellsE cellsS
    rw [same_addr vSyntax hx, same_addr vTwice hy]; exact hne
  have nSyntaxMany : aSyntax ≠ aMany := by
    obtain ⟨x, y, _, _, _, _, _, _, hx, hy, _, _, _, _, _, _, hne, _, _⟩ := laid_sentinels2 (skip_second (skip_second (skip_second (skip_second h.tail)))) gSyntax tSyntax gMany tMany Tryz.underlying33 rowE Tryz.underlying198 Tryz.underlying216 rfl rfl Tryz.underlying9 cellsE cellsS
    rw [same_addr vSyntax hx, same_addr vMany hy]; exact hne
  have nSyntaxTimes : aSyntax ≠ aTimes := by
    obtain ⟨x, y, _, _, _, _, _, _, hx, hy, _, _, _, _, _, _, hne, _, _⟩ := laid_sentinels2 (skip_second (skip_second (skip_second (skip_second (skip_second h.tail))))) gSyntax tSyntax gTimes tTimes Tryz.underlying33 rowE Tryz.underlying198 Tryz.underlying216 rfl rfl Tryz.underlying9 cellsE cellsS
    rw [same_addr vSyntax hx, same_addr vTimes hy]; exact hne
  have nSyntaxCode : aSyntax ≠ aCode := by
    obtain ⟨x, y, _, _, _, _, _, _, hx, hy, _, _, _, _, _, _, hne, _, _⟩ := laid_sentinels2 (skip_second (skip_second (skip_second (skip_second (skip_second (skip_second h.tail)))))) gSyntax tSyntax gCode tCode Tryz.underlying33 rowE Tryz.underlying198 Tryz.underlying216 rfl rfl Tryz.underlying9 cellsE cellsS
    rw [same_addr vSyntax hx, same_addr vCode hy]; exact hne
  have nSyntaxSum : aSyntax ≠ aSum := by
    obtain ⟨x, y, _, _, _, _, _, _, hx, hy, _, _, _, _, _, _, hne, _, _⟩ := laid_sentinels2 (skip_second (skip_second (skip_second (skip_second (skip_second (skip_second (skip_second h.tail))))))) gSyntax tSyntax gSum tSum Tryz.underlying33 rowE Tryz.underlying198 Tryz.underlying216 rfl rfl Tryz.underlying9 cellsE cellsS
    rw [same_addr vSyntax hx, same_addr vSum hy]; exact hne
  have nSyntaxRefer : aSyntax ≠ aRefer := by
    obtain ⟨x, y, _, _, _, _, _, _, hx, hy, _, _, _, _, _, _, hne, _, _⟩ := laid_sentinels2 (skip_second (skip_second (skip_second (skip_second (skip_second (skip_second (skip_second (skip_second h.tail)))))))) gSyntax tSyntax gRefer tRefer Tryz.underlying33 rowE Tryz.underlying198 Tryz.underlying216 rfl rfl Tryz.underlying9 cellsE cellsS
    rw [same_addr vSyntax hx, same_addr vRefer hy]; exact hne
  have nSyntaxStack : aSyntax ≠ aStack := by
    obtain ⟨x, y, _, _, _, _, _, _, hx, hy, _, _, _, _, _, _, hne, _, _⟩ := laid_sentinels2 (skip_second (skip_second (skip_second (skip_second (skip_second (skip_second (skip_second (skip_second (skip_second h.tail))))))))) gSyntax tSyntax gStack tStack Tryz.underlying33 rowE Tryz.underlying198 Tryz.underlying216 rfl rfl Tryz.underlying9 cellsE cellsS
    rw [same_addr vSyntax hx, same_addr vStack hy]; exact hne
  have nSyntaxFuel : aSyntax ≠ aFuel := by
    obtain ⟨x, y, _, _, _, _, _, _, hx, hy, _, _, _, _, _, _, hne, _, _⟩ := laid_sentinels2 (skip_second (skip_second (skip_second (skip_second (skip_second (skip_second (skip_second (skip_second (skip_second (skip_second h.tail)))))))))) gSyntax tSyntax gFuel tFuel Tryz.underlying33 rowE Tryz.underlying198 Tryz.underlying216 rfl rfl Tryz.underlying9 cellsE cellsS
    rw [same_addr vSyntax hx, same_addr vFuel hy]; exact hne
  have nDeepType : aDeep ≠ aType := by
    obtain ⟨x, y, _, _, _, _, _, _, hx, hy, _, _, _, _, _, _, hne, _, _⟩ := laid_sentinels2 h.tail.tail gDeep tDeep gType tType Tryz.underlying33 rowE Tryz.underlying198 Tryz.underlying216 rfl rfl Tryz.underlying9 cellsE cellsS
    rw [same_addr vDeep hx, same_addr vType hy]; exact hne
  have nDeepStore : aDeep ≠ aStore := by
    obtain ⟨x, y, _, _, _, _, _, _, hx, hy, _, _, _, _, _, _, hne, _, _⟩ := laid_sentinels2 (skip_second h.tail.tail) gDeep tDeep gStore tStore Tryz.underlying33 rowE Tryz.underlying198 Tryz.underlying216 rfl rfl Tryz.underlying9 cellsE cellsS
    rw [same_addr vDeep hx, same_addr vStore hy]; exact hne
  have nDeepTwice : aDeep ≠ aTwice := by
    obtain ⟨x, y, _, _, _, _, _, _, hx, hy, _, _, _, _, _, _, hne, _, _⟩ := laid_sentinels2 (skip_second (skip_second h.tail.tail)) gDeep tDeep gTwice tTwice Tryz.underlying33 rowE Tryz.underlying198 Tryz.underlying216 rfl rfl Tryz.underlying9 cellsE cellsS
    rw [same_addr vDeep hx, same_addr vTwice hy]; exact hne
  have nDeepMany : aDeep ≠ aMany := by
    obtain ⟨x, y, _, _, _, _, _, _, hx, hy, _, _, _, _, _, _, hne, _, _⟩ := laid_sentinels2 (skip_second (skip_second (skip_second h.tail.tail))) gDeep tDeep gMany tMany Tryz.underlying33 rowE Tryz.underlying198 Tryz.underlying216 rfl rfl Tryz.underlying9 cellsE cellsS
    rw [same_addr vDeep hx, same_addr vMany hy]; exact hne
  have nDeepTimes : aDeep ≠ aTimes := by
    obtain ⟨x, y, _, _, _, _, _, _, hx, hy, _, _, _, _, _, _, hne, _, _⟩ := laid_sentinels2 (skip_second (skip_second (skip_second (skip_second h.tail.tail)))) gDeep tDeep gTimes tTimes Tryz.underlying33 rowE Tryz.underlying198 Tryz.underlying216 rfl rfl Tryz.underlying9 cellsE cellsS
    rw [same_addr vDeep hx, same_addr vTimes hy]; exact hne
  have nDeepCode : aDeep ≠ aCode := by
    obtain ⟨x, y, _, _, _, _, _, _, hx, hy, _, _, _, _, _, _, hne, _, _⟩ := laid_sentinels2 (skip_second (skip_second (skip_second (skip_second (skip_second h.tail.tail))))) gDeep tDeep gCode tCode Tryz.underlying33 rowE Tryz.underlying198 Tryz.underlying216 rfl rfl Tryz.underlying9 cellsE cellsS
    rw [same_addr vDeep hx, same_addr vCode hy]; exact hne
  have nDeepSum : aDeep ≠ aSum := by
    obtain ⟨x, y, _, _, _, _, _, _, hx, hy, _, _, _, _, _, _, hne, _, _⟩ := laid_sentinels2 (skip_second (skip_second (skip_second (skip_second (skip_second (skip_second h.tail.tail)))))) gDeep tDeep gSum tSum Tryz.underlying33 rowE Tryz.underlying198 Tryz.underlying216 rfl rfl Tryz.underlying9 cellsE cellsS
    rw [same_addr vDeep hx, same_addr vSum hy]; exact hne
  have nDeepRefer : aDeep ≠ aRefer := by
    obtain ⟨x, y, _, _, _, _, _, _, hx, hy, _, _, _, _, _, _, hne, _, _⟩ := laid_sentinels2 (skip_second (skip_second (skip_second (skip_second (skip_second (skip_second (skip_second h.tail.tail))))))) gDeep tDeep gRefer tRefer Tryz.underlying33 rowE Tryz.underlying198 Tryz.underlying216 rfl rfl Tryz.underlying9 cellsE cellsS
    rw [same_addr vDeep hx, same_addr vRefer hy]; exact hne
  have nDeepStack : aDeep ≠ aStack := by
    obtain ⟨x, y, _, _, _, _, _, _, hx, hy, _, _, _, _, _, _, hne, _, _⟩ := laid_sentinels2 (skip_second (skip_second (skip_second (skip_second (skip_second (skip_second (skip_second (skip_second h.tail.tail)))))))) gDeep tDeep gStack tStack Tryz.underlying33 rowE Tryz.underlying198 Tryz.underlying216 rfl rfl Tryz.underlying9 cellsE cellsS
    rw [same_addr vDeep hx, same_addr vStack hy]; exact hne
  have nDeepFuel : aDeep ≠ aFuel := by
    obtain ⟨x, y, _, _, _, _, _, _, hx, hy, _, _, _, _, _, _, hne, _, _⟩ := laid_sentinels2 (skip_second (skip_second (skip_second (skip_second (skip_second (skip_second (skip_second (skip_second (skip_second h.tail.tail))))))))) gDeep tDeep gFuel tFuel Tryz.underlying33 rowE Tryz.underlying198 Tryz.underlying216 rfl rfl Tryz.underlying9 cellsE cellsS
    rw [same_addr vDeep hx, same_addr vFuel hy]; exact hne
  have nTypeStore : aType ≠ aStore := by
    obtain ⟨x, y, _, _, _, _, _, _, hx, hy, _, _, _, _, _, _, hne, _, _⟩ := laid_sentinels2 h.tail.tail.tail gType tType gStore tStore Tryz.underlying33 rowE Tryz.underlying198 Tryz.underlying216 rfl rfl Tryz.underlying9 cellsE cellsS
    rw [same_addr vType hx, same_addr vStore hy]; exact hne
  have nTypeTwice : aType ≠ aTwice := by
    obtain ⟨x, y, _, _, _, _, _, _, hx, hy, _, _, _, _, _, _, hne, _, _⟩ := laid_sentinels2 (skip_second h.tail.tail.tail) gType tType gTwice tTwice Tryz.underlying33 rowE Tryz.underlying198 Tryz.underlying216 rfl rfl Tryz.underlying9 cellsE cellsS
    rw [same_addr vType hx, same_addr vTwice hy]; exact hne
  have nTypeMany : aType ≠ aMany := by
    obtain ⟨x, y, _, _, _, _, _, _, hx, hy, _, _, _, _, _, _, hne, _, _⟩ := laid_sentinels2 (skip_second (skip_second h.tail.tail.tail)) gType tType gMany tMany Tryz.underlying33 rowE Tryz.underlying198 Tryz.underlying216 rfl rfl Tryz.underlying9 cellsE cellsS
    rw [same_addr vType hx, same_addr vMany hy]; exact hne
  have nTypeTimes : aType ≠ aTimes := by
    obtain ⟨x, y, _, _, _, _, _, _, hx, hy, _, _, _, _, _, _, hne, _, _⟩ := laid_sentinels2 (skip_second (skip_second (skip_second h.tail.tail.tail))) gType tType gTimes tTimes Tryz.underlying33 rowE Tryz.underlying198 Tryz.underlying216 rfl rfl Tryz.underlying9 cellsE cellsS
    rw [same_addr vType hx, same_addr vTimes hy]; exact hne
  have nTypeCode : aType ≠ aCode := by
    obtain ⟨x, y, _, _, _, _, _, _, hx, hy, _, _, _, _, _, _, hne, _, _⟩ := laid_sentinels2 (skip_second (skip_second (skip_second (skip_second h.tail.tail.tail)))) gType tType gCode tCode Tryz.underlying33 rowE Tryz.underlying198 Tryz.underlying216 rfl rfl Tryz.underlying9 cellsE cellsS
    rw [same_addr vType hx, same_addr vCode hy]; exact hne
  have nTypeSum : aType ≠ aSum := by
    obtain ⟨x, y, _, _, _, _, _, _, hx, hy, _, _, _, _, _, _, hne, _, _⟩ := laid_sentinels2 (skip_second (skip_second (skip_second (skip_second (skip_second h.tail.tail.tail))))) gType tType gSum tSum Tryz.underlying33 rowE Tryz.underlying198 Tryz.underlying216 rfl rfl Tryz.underlying9 cellsE cellsS
    rw [same_addr vType hx, same_addr vSum hy]; exact hne
  have nTypeRefer : aType ≠ aRefer := by
    obtain ⟨x, y, _, _, _, _, _, _, hx, hy, _, _, _, _, _, _, hne, _, _⟩ := laid_sentinels2 (skip_second (skip_second (skip_second (skip_second (skip_second (skip_second h.tail.tail.tail)))))) gType tType gRefer tRefer Tryz.underlying33 rowE Tryz.underlying198 Tryz.underlying216 rfl rfl Tryz.underlying9 cellsE cellsS
    rw [same_addr vType hx, same_addr vRefer hy]; exact hne
  have nTypeStack : aType ≠ aStack := by
    obtain ⟨x, y, _, _, _, _, _, _, hx, hy, _, _, _, _, _, _, hne, _, _⟩ := laid_sentinels2 (skip_second (skip_second (skip_second (skip_second (skip_second (skip_second (skip_second h.tail.tail.tail))))))) gType tType gStack tStack Tryz.underlying33 rowE Tryz.underlying198 Tryz.underlying216 rfl rfl Tryz.underlying9 cellsE cellsS
    rw [same_addr vType hx, same_addr vStack hy]; exact hne
  have nTypeFuel : aType ≠ aFuel := by
    obtain ⟨x, y, _, _, _, _, _, _, hx, hy, _, _, _, _, _, _, hne, _, _⟩ := laid_sentinels2 (skip_second (skip_second (skip_second (skip_second (skip_second (skip_second (skip_second (skip_second h.tail.tail.tail)))))))) gType tType gFuel tFuel Tryz.underlying33 rowE Tryz.underlying198 Tryz.underlying216 rfl rfl Tryz.underlying9 cellsE cellsS
    rw [same_addr vType hx, same_addr vFuel hy]; exact hne
  have nStoreTwice : aStore ≠ aTwice := by
    obtain ⟨x, y, _, _, _, _, _, _, hx, hy, _, _, _, _, _, _, hne, _, _⟩ := laid_sentinels2 h.tail.tail.tail.tail gStore tStore gTwice tTwice Tryz.underlying33 rowE Tryz.underlying198 Tryz.underlying216 rfl rfl Tryz.underlying9 cellsE cellsS
    rw [same_addr vStore hx, same_addr vTwice hy]; exact hne
  have nStoreMany : aStore ≠ aMany := by
    obtain ⟨x, y, _, _, _, _, _, _, hx, hy, _, _, _, _, _, _, hne, _, _⟩ := laid_sentinels2 (skip_second h.tail.tail.tail.tail) gStore tStore gMany tMany Tryz.underlying33 rowE Tryz.underlying198 Tryz.underlying216 rfl rfl Tryz.underlying9 cellsE cellsS
    rw [same_addr vStore hx, same_addr vMany hy]; exact hne
  have nStoreTimes : aStore ≠ aTimes := by
    obtain ⟨x, y, _, _, _, _, _, _, hx, hy, _, _, _, _, _, _, hne, _, _⟩ := laid_sentinels2 (skip_second (skip_second h.tail.tail.tail.tail)) gStore tStore gTimes tTimes Tryz.underlying33 rowE Tryz.underlying198 Tryz.underlying216 rfl rfl Tryz.underlying9 cellsE cellsS
    rw [same_addr vStore hx, same_addr vTimes hy]; exact hne
  have nStoreCode : aStore ≠ aCode := by
    obtain ⟨x, y, _, _, _, _, _, _, hx, hy, _, _, _, _, _, _, hne, _, _⟩ := laid_sentinels2 (skip_second (skip_second (skip_second h.tail.tail.tail.tail))) gStore tStore gCode tCode Tryz.underlying33 rowE Tryz.underlying198 Tryz.underlying216 rfl rfl Tryz.underlying9 cellsE cellsS
    rw [same_addr vStore hx, same_addr vCode hy]; exact hne
  have nStoreSum : aStore ≠ aSum := by
    obtain ⟨x, y, _, _, _, _, _, _, hx, hy, _, _, _, _, _, _, hne, _, _⟩ := laid_sentinels2 (skip_second (skip_second (skip_second (skip_second h.tail.tail.tail.tail)))) gStore tStore gSum tSum Tryz.underlying33 rowE Tryz.underlying198 Tryz.underlying216 rfl rfl Tryz.underlying9 cellsE cellsS
    rw [same_addr vStore hx, same_addr vSum hy]; exact hne
  have nStoreRefer : aStore ≠ aRefer := by
    obtain ⟨x, y, _, _, _, _, _, _, hx, hy, _, _, _, _, _, _, hne, _, _⟩ := laid_sentinels2 (skip_second (skip_second (skip_second (skip_second (skip_second h.tail.tail.tail.tail))))) gStore tStore gRefer tRefer Tryz.underlying33 rowE Tryz.underlying198 Tryz.underlying216 rfl rfl Tryz.underlying9 cellsE cellsS
    rw [same_addr vStore hx, same_addr vRefer hy]; exact hne
  have nStoreStack : aStore ≠ aStack := by
    obtain ⟨x, y, _, _, _, _, _, _, hx, hy, _, _, _, _, _, _, hne, _, _⟩ := laid_sentinels2 (skip_second (skip_second (skip_second (skip_second (skip_second (skip_second h.tail.tail.tail.tail)))))) gStore tStore gStack tStack Tryz.underlying33 rowE Tryz.underlying198 Tryz.underlying216 rfl rfl Tryz.underlying9 cellsE cellsS
    rw [same_addr vStore hx, same_addr vStack hy]; exact hne
  have nStoreFuel : aStore ≠ aFuel := by
    obtain ⟨x, y, _, _, _, _, _, _, hx, hy, _, _, _, _, _, _, hne, _, _⟩ := laid_sentinels2 (skip_second (skip_second (skip_second (skip_second (skip_second (skip_second (skip_second h.tail.tail.tail.tail))))))) gStore tStore gFuel tFuel Tryz.underlying33 rowE Tryz.underlying198 Tryz.underlying216 rfl rfl Tryz.underlying9 cellsE cellsS
    rw [same_addr vStore hx, same_addr vFuel hy]; exact hne
  have nTwiceMany : aTwice ≠ aMany := by
    obtain ⟨x, y, _, _, _, _, _, _, hx, hy, _, _, _, _, _, _, hne, _, _⟩ := laid_sentinels2 h.tail.tail.tail.tail.tail gTwice tTwice gMany tMany Tryz.underlying33 rowE Tryz.underlying198 Tryz.underlying216 rfl rfl Tryz.underlying9 cellsE cellsS
    rw [same_addr vTwice hx, same_addr vMany hy]; exact hne
  have nTwiceTimes : aTwice ≠ aTimes := by
    obtain ⟨x, y, _, _, _, _, _, _, hx, hy, _, _, _, _, _, _, hne, _, _⟩ := laid_sentinels2 (skip_second h.tail.tail.tail.tail.tail) gTwice tTwice gTimes tTimes Tryz.underlying33 rowE Tryz.underlying198 Tryz.underlying216 rfl rfl Tryz.underlying9 cellsE cellsS
    rw [same_addr vTwice hx, same_addr vTimes hy]; exact hne
  have nTwiceCode : aTwice ≠ aCode := by
    obtain ⟨x, y, _, _, _, _, _, _, hx, hy, _, _, _, _, _, _, hne, _, _⟩ := laid_sentinels2 (skip_second (skip_second h.tail.tail.tail.tail.tail)) gTwice tTwice gCode tCode Tryz.underlying33 rowE Tryz.underlying198 Tryz.underlying216 rfl rfl Tryz.underlying9 cellsE cellsS
    rw [same_addr vTwice hx, same_addr vCode hy]; exact hne
  have nTwiceSum : aTwice ≠ aSum := by
    obtain ⟨x, y, _, _, _, _, _, _, hx, hy, _, _, _, _, _, _, hne, _, _⟩ := laid_sentinels2 (skip_second (skip_second (skip_second h.tail.tail.tail.tail.tail))) gTwice tTwice gSum tSum Tryz.underlying33 rowE Tryz.underlying198 Tryz.underlying216 rfl rfl Tryz.underlying9 cellsE cellsS
    rw [same_addr vTwice hx, same_addr vSum hy]; exact hne
  have nTwiceRefer : aTwice ≠ aRefer := by
    obtain ⟨x, y, _, _, _, _, _, _, hx, hy, _, _, _, _, _, _, hne, _, _⟩ := laid_sentinels2 (skip_second (skip_second (skip_second (skip_second h.tail.tail.tail.tail.tail)))) gTwice tTwice gRefer tRefer Tryz.underlying33 rowE Tryz.underlying198 Tryz.underlying216 rfl rfl Tryz.underlying9 cellsE cellsS
    rw [same_addr vTwice hx, same_addr vRefer hy]; exact hne
  have nTwiceStack : aTwice ≠ aStack := by
    obtain ⟨x, y, _, _, _, _, _, _, hx, hy, _, _, _, _, _, _, hne, _, _⟩ := laid_sentinels2 (skip_second (skip_second (skip_second (skip_second (skip_second h.tail.tail.tail.tail.tail))))) gTwice tTwice gStack tStack Tryz.underlying33 rowE Tryz.underlying198 Tryz.underlying216 rfl rfl Tryz.underlying9 cellsE cellsS
    rw [same_addr vTwice hx, same_addr vStack hy]; exact hne
  have nTwiceFuel : aTwice ≠ aFuel := by
    obtain ⟨x, y, _, _, _, _, _, _, hx, hy, _, _, _, _, _, _, hne, _, _⟩ := laid_sentinels2 (skip_second (skip_second (skip_second (skip_second (skip_second (skip_second h.tail.tail.tail.tail.tail)))))) gTwice tTwice gFuel tFuel Tryz.underlying33 rowE Tryz.underlying198 Tryz.underlying216 rfl rfl Tryz.underlying9 cellsE cellsS
    rw [same_addr vTwice hx, same_addr vFuel hy]; exact hne
  have nManyTimes : aMany ≠ aTimes := by
    obtain ⟨x, y, _, _, _, _, _, _, hx, hy, _, _, _, _, _, _, hne, _, _⟩ := laid_sentinels2 h.tail.tail.tail.tail.tail.tail gMany tMany gTimes tTimes Tryz.underlying33 rowE Tryz.underlying198 Tryz.underlying216 rfl rfl Tryz.underlying9 cellsE cellsS
    rw [same_addr vMany hx, same_addr vTimes hy]; exact hne
  have nManyCode : aMany ≠ aCode := by
    obtain ⟨x, y, _, _, _, _, _, _, hx, hy, _, _, _, _, _, _, hne, _, _⟩ := laid_sentinels2 (skip_second h.tail.tail.tail.tail.tail.tail) gMany tMany gCode tCode Tryz.underlying33 rowE Tryz.underlying198 Tryz.underlying216 rfl rfl Tryz.underlying9 cellsE cellsS
    rw [same_addr vMany hx, same_addr vCode hy]; exact hne
  have nManySum : aMany ≠ aSum := by
    obtain ⟨x, y, _, _, _, _, _, _, hx, hy, _, _, _, _, _, _, hne, _, _⟩ := laid_sentinels2 (skip_second (skip_second h.tail.tail.tail.tail.tail.tail)) gMany tMany gSum tSum Tryz.underlying33 rowE Tryz.underlying198 Tryz.underlying216 rfl rfl Tryz.underlying9 cellsE cellsS
    rw [same_addr vMany hx, same_addr vSum hy]; exact hne
  have nManyRefer : aMany ≠ aRefer := by
    obtain ⟨x, y, _, _, _, _, _, _, hx, hy, _, _, _, _, _, _, hne, _, _⟩ := laid_sentinels2 (skip_second (skip_second (skip_second h.tail.tail.tail.tail.tail.tail))) gMany tMany gRefer tRefer Tryz.underlying33 rowE Tryz.underlying198 Tryz.underlying216 rfl rfl Tryz.underlying9 cellsE cellsS
    rw [same_addr vMany hx, same_addr vRefer hy]; exact hne
  have nManyStack : aMany ≠ aStack := by
    obtain ⟨x, y, _, _, _, _, _, _, hx, hy, _, _, _, _, _, _, hne, _, _⟩ := laid_sentinels2 (skip_second (skip_second (skip_second (skip_second h.tail.tail.tail.tail.tail.tail)))) gMany tMany gStack tStack Tryz.underlying33 rowE Tryz.underlying198 Tryz.underlying216 rfl rfl Tryz.underlying9 cellsE cellsS
    rw [same_addr vMany hx, same_addr vStack hy]; exact hne
  have nManyFuel : aMany ≠ aFuel := by
    obtain ⟨x, y, _, _, _, _, _, _, hx, hy, _, _, _, _, _, _, hne, _, _⟩ := laid_sentinels2 (skip_second (skip_second (skip_second (skip_second (skip_second h.tail.tail.tail.tail.tail.tail))))) gMany tMany gFuel tFuel Tryz.underlying33 rowE Tryz.underlying198 Tryz.underlying216 rfl rfl Tryz.underlying9 cellsE cellsS
    rw [same_addr vMany hx, same_addr vFuel hy]; exact hne
  have nTimesCode : aTimes ≠ aCode := by
    obtain ⟨x, y, _, _, _, _, _, _, hx, hy, _, _, _, _, _, _, hne, _, _⟩ := laid_sentinels2 h.tail.tail.tail.tail.tail.tail.tail gTimes tTimes gCode tCode Tryz.underlying33 rowE Tryz.underlying198 Tryz.underlying216 rfl rfl Tryz.underlying9 cellsE cellsS
    rw [same_addr vTimes hx, same_addr vCode hy]; exact hne
  have nTimesSum : aTimes ≠ aSum := by
    obtain ⟨x, y, _, _, _, _, _, _, hx, hy, _, _, _, _, _, _, hne, _, _⟩ := laid_sentinels2 (skip_second h.tail.tail.tail.tail.tail.tail.tail) gTimes tTimes gSum tSum Tryz.underlying33 rowE Tryz.underlying198 Tryz.underlying216 rfl rfl Tryz.underlying9 cellsE cellsS
    rw [same_addr vTimes hx, same_addr vSum hy]; exact hne
  have nTimesRefer : aTimes ≠ aRefer := by
    obtain ⟨x, y, _, _, _, _, _, _, hx, hy, _, _, _, _, _, _, hne, _, _⟩ := laid_sentinels2 (skip_second (skip_second h.tail.tail.tail.tail.tail.tail.tail)) gTimes tTimes gRefer tRefer Tryz.underlying33 rowE Tryz.underlying198 Tryz.underlying216 rfl rfl Tryz.underlying9 cellsE cellsS
    rw [same_addr vTimes hx, same_addr vRefer hy]; exact hne
  have nTimesStack : aTimes ≠ aStack := by
    obtain ⟨x, y, _, _, _, _, _, _, hx, hy, _, _, _, _, _, _, hne, _, _⟩ := laid_sentinels2 (skip_second (skip_second (skip_second h.tail.tail.tail.tail.tail.tail.tail))) gTimes tTimes gStack tStack Tryz.underlying33 rowE Tryz.underlying198 Tryz.underlying216 rfl rfl Tryz.underlying9 cellsE cellsS
    rw [same_addr vTimes hx, same_addr vStack hy]; exact hne
  have nTimesFuel : aTimes ≠ aFuel := by
    obtain ⟨x, y, _, _, _, _, _, _, hx, hy, _, _, _, _, _, _, hne, _, _⟩ := laid_sentinels2 (skip_second (skip_second (skip_second (skip_second h.tail.tail.tail.tail.tail.tail.tail)))) gTimes tTimes gFuel tFuel Tryz.underlying33 rowE Tryz.underlying198 Tryz.underlying216 rfl rfl Tryz.underlying9 cellsE cellsS
    rw [same_addr vTimes hx, same_addr vFuel hy]; exact hne
  have nCodeSum : aCode ≠ aSum := by
    obtain ⟨x, y, _, _, _, _, _, _, hx, hy, _, _, _, _, _, _, hne, _, _⟩ := laid_sentinels2 h.tail.tail.tail.tail.tail.tail.tail.tail gCode tCode gSum tSum Tryz.underlying33 rowE Tryz.underlying198 Tryz.underlying216 rfl rfl Tryz.underlying9 cellsE cellsS
    rw [same_addr vCode hx, same_addr vSum hy]; exact hne
  have nCodeRefer : aCode ≠ aRefer := by
    obtain ⟨x, y, _, _, _, _, _, _, hx, hy, _, _, _, _, _, _, hne, _, _⟩ := laid_sentinels2 (skip_second h.tail.tail.tail.tail.tail.tail.tail.tail) gCode tCode gRefer tRefer Tryz.underlying33 rowE Tryz.underlying198 Tryz.underlying216 rfl rfl Tryz.underlying9 cellsE cellsS
    rw [same_addr vCode hx, same_addr vRefer hy]; exact hne
  have nCodeStack : aCode ≠ aStack := by
    obtain ⟨x, y, _, _, _, _, _, _, hx, hy, _, _, _, _, _, _, hne, _, _⟩ := laid_sentinels2 (skip_second (skip_second h.tail.tail.tail.tail.tail.tail.tail.tail)) gCode tCode gStack tStack Tryz.underlying33 rowE Tryz.underlying198 Tryz.underlying216 rfl rfl Tryz.underlying9 cellsE cellsS
    rw [same_addr vCode hx, same_addr vStack hy]; exact hne
  have nCodeFuel : aCode ≠ aFuel := by
    obtain ⟨x, y, _, _, _, _, _, _, hx, hy, _, _, _, _, _, _, hne, _, _⟩ := laid_sentinels2 (skip_second (skip_second (skip_second h.tail.tail.tail.tail.tail.tail.tail.tail))) gCode tCode gFuel tFuel Tryz.underlying33 rowE Tryz.underlying198 Tryz.underlying216 rfl rfl Tryz.underlying9 cellsE cellsS
    rw [same_addr vCode hx, same_addr vFuel hy]; exact hne
  have nSumRefer : aSum ≠ aRefer := by
    obtain ⟨x, y, _, _, _, _, _, _, hx, hy, _, _, _, _, _, _, hne, _, _⟩ := laid_sentinels2 h.tail.tail.tail.tail.tail.tail.tail.tail.tail gSum tSum gRefer tRefer Tryz.underlying33 rowE Tryz.underlying198 Tryz.underlying216 rfl rfl Tryz.underlying9 cellsE cellsS
    rw [same_addr vSum hx, same_addr vRefer hy]; exact hne
  have nSumStack : aSum ≠ aStack := by
    obtain ⟨x, y, _, _, _, _, _, _, hx, hy, _, _, _, _, _, _, hne, _, _⟩ := laid_sentinels2 (skip_second h.tail.tail.tail.tail.tail.tail.tail.tail.tail) gSum tSum gStack tStack Tryz.underlying33 rowE Tryz.underlying198 Tryz.underlying216 rfl rfl Tryz.underlying9 cellsE cellsS
    rw [same_addr vSum hx, same_addr vStack hy]; exact hne
  have nSumFuel : aSum ≠ aFuel := by
    obtain ⟨x, y, _, _, _, _, _, _, hx, hy, _, _, _, _, _, _, hne, _, _⟩ := laid_sentinels2 (skip_second (skip_second h.tail.tail.tail.tail.tail.tail.tail.tail.tail)) gSum tSum gFuel tFuel Tryz.underlying33 rowE Tryz.underlying198 Tryz.underlying216 rfl rfl Tryz.underlying9 cellsE cellsS
    rw [same_addr vSum hx, same_addr vFuel hy]; exact hne
  have nReferStack : aRefer ≠ aStack := by
    obtain ⟨x, y, _, _, _, _, _, _, hx, hy, _, _, _, _, _, _, hne, _, _⟩ := laid_sentinels2 h.tail.tail.tail.tail.tail.tail.tail.tail.tail.tail gRefer tRefer gStack tStack Tryz.underlying33 rowE Tryz.underlying198 Tryz.underlying216 rfl rfl Tryz.underlying9 cellsE cellsS
    rw [same_addr vRefer hx, same_addr vStack hy]; exact hne
  have nReferFuel : aRefer ≠ aFuel := by
    obtain ⟨x, y, _, _, _, _, _, _, hx, hy, _, _, _, _, _, _, hne, _, _⟩ := laid_sentinels2 (skip_second h.tail.tail.tail.tail.tail.tail.tail.tail.tail.tail) gRefer tRefer gFuel tFuel Tryz.underlying33 rowE Tryz.underlying198 Tryz.underlying216 rfl rfl Tryz.underlying9 cellsE cellsS
    rw [same_addr vRefer hx, same_addr vFuel hy]; exact hne
  have nStackFuel : aStack ≠ aFuel := by
    obtain ⟨x, y, _, _, _, _, _, _, hx, hy, _, _, _, _, _, _, hne, _, _⟩ := laid_sentinels2 h.tail.tail.tail.tail.tail.tail.tail.tail.tail.tail.tail gStack tStack gFuel tFuel Tryz.underlying33 rowE Tryz.underlying198 Tryz.underlying216 rfl rfl Tryz.underlying9 cellsE cellsS
    rw [same_addr vStack hx, same_addr vFuel hy]; exact hne
  refine ⟨addrs aLong aSyntax aDeep aType aStore aTwice aMany aTimes aCode aSum aRefer aStack aFuel, hm, ?_, ?_, ?_, hh⟩
  · intro g hg
    simp only [sents, List.mem_cons, List.mem_nil_iff, or_false] at hg
    rcases hg with rfl | rfl | rfl | rfl | rfl | rfl | rfl | rfl | rfl | rfl | rfl | rfl | rfl
    · simpa [addrs] using World.var?_cell gLong vLong 0
    · simpa [addrs] using World.var?_cell gSyntax vSyntax 0
    · simpa [addrs] using World.var?_cell gDeep vDeep 0
    · simpa [addrs] using World.var?_cell gType vType 0
    · simpa [addrs] using World.var?_cell gStore vStore 0
    · simpa [addrs] using World.var?_cell gTwice vTwice 0
    · simpa [addrs] using World.var?_cell gMany vMany 0
    · simpa [addrs] using World.var?_cell gTimes vTimes 0
    · simpa [addrs] using World.var?_cell gCode vCode 0
    · simpa [addrs] using World.var?_cell gSum vSum 0
    · simpa [addrs] using World.var?_cell gRefer vRefer 0
    · simpa [addrs] using World.var?_cell gStack vStack 0
    · simpa [addrs] using World.var?_cell gFuel vFuel 0
  · intro g hg g' hg' hne
    simp only [sents, List.mem_cons, List.mem_nil_iff, or_false] at hg hg'
    rcases hg with rfl | rfl | rfl | rfl | rfl | rfl | rfl | rfl | rfl | rfl | rfl | rfl | rfl <;> rcases hg' with rfl | rfl | rfl | rfl | rfl | rfl | rfl | rfl | rfl | rfl | rfl | rfl | rfl
    all_goals first | exact absurd rfl hne | skip
    · simpa [addrs] using nLongSyntax
    · simpa [addrs] using nLongDeep
    · simpa [addrs] using nLongType
    · simpa [addrs] using nLongStore
    · simpa [addrs] using nLongTwice
    · simpa [addrs] using nLongMany
    · simpa [addrs] using nLongTimes
    · simpa [addrs] using nLongCode
    · simpa [addrs] using nLongSum
    · simpa [addrs] using nLongRefer
    · simpa [addrs] using nLongStack
    · simpa [addrs] using nLongFuel
    · simpa [addrs] using nLongSyntax.symm
    · simpa [addrs] using nSyntaxDeep
    · simpa [addrs] using nSyntaxType
    · simpa [addrs] using nSyntaxStore
    · simpa [addrs] using nSyntaxTwice
    · simpa [addrs] using nSyntaxMany
    · simpa [addrs] using nSyntaxTimes
    · simpa [addrs] using nSyntaxCode
    · simpa [addrs] using nSyntaxSum
    · simpa [addrs] using nSyntaxRefer
    · simpa [addrs] using nSyntaxStack
    · simpa [addrs] using nSyntaxFuel
    · simpa [addrs] using nLongDeep.symm
    · simpa [addrs] using nSyntaxDeep.symm
    · simpa [addrs] using nDeepType
    · simpa [addrs] using nDeepStore
    · simpa [addrs] using nDeepTwice
    · simpa [addrs] using nDeepMany
    · simpa [addrs] using nDeepTimes
    · simpa [addrs] using nDeepCode
    · simpa [addrs] using nDeepSum
    · simpa [addrs] using nDeepRefer
    · simpa [addrs] using nDeepStack
    · simpa [addrs] using nDeepFuel
    · simpa [addrs] using nLongType.symm
    · simpa [addrs] using nSyntaxType.symm
    · simpa [addrs] using nDeepType.symm
    · simpa [addrs] using nTypeStore
    · simpa [addrs] using nTypeTwice
    · simpa [addrs] using nTypeMany
    · simpa [addrs] using nTypeTimes
    · simpa [addrs] using nTypeCode
    · simpa [addrs] using nTypeSum
    · simpa [addrs] using nTypeRefer
    · simpa [addrs] using nTypeStack
    · simpa [addrs] using nTypeFuel
    · simpa [addrs] using nLongStore.symm
    · simpa [addrs] using nSyntaxStore.symm
    · simpa [addrs] using nDeepStore.symm
    · simpa [addrs] using nTypeStore.symm
    · simpa [addrs] using nStoreTwice
    · simpa [addrs] using nStoreMany
    · simpa [addrs] using nStoreTimes
    · simpa [addrs] using nStoreCode
    · simpa [addrs] using nStoreSum
    · simpa [addrs] using nStoreRefer
    · simpa [addrs] using nStoreStack
    · simpa [addrs] using nStoreFuel
    · simpa [addrs] using nLongTwice.symm
    · simpa [addrs] using nSyntaxTwice.symm
    · simpa [addrs] using nDeepTwice.symm
    · simpa [addrs] using nTypeTwice.symm
    · simpa [addrs] using nStoreTwice.symm
    · simpa [addrs] using nTwiceMany
    · simpa [addrs] using nTwiceTimes
    · simpa [addrs] using nTwiceCode
    · simpa [addrs] using nTwiceSum
    · simpa [addrs] using nTwiceRefer
    · simpa [addrs] using nTwiceStack
    · simpa [addrs] using nTwiceFuel
    · simpa [addrs] using nLongMany.symm
    · simpa [addrs] using nSyntaxMany.symm
    · simpa [addrs] using nDeepMany.symm
    · simpa [addrs] using nTypeMany.symm
    · simpa [addrs] using nStoreMany.symm
    · simpa [addrs] using nTwiceMany.symm
    · simpa [addrs] using nManyTimes
    · simpa [addrs] using nManyCode
    · simpa [addrs] using nManySum
    · simpa [addrs] using nManyRefer
    · simpa [addrs] using nManyStack
    · simpa [addrs] using nManyFuel
    · simpa [addrs] using nLongTimes.symm
    · simpa [addrs] using nSyntaxTimes.symm
    · simpa [addrs] using nDeepTimes.symm
    · simpa [addrs] using nTypeTimes.symm
    · simpa [addrs] using nStoreTimes.symm
    · simpa [addrs] using nTwiceTimes.symm
    · simpa [addrs] using nManyTimes.symm
    · simpa [addrs] using nTimesCode
    · simpa [addrs] using nTimesSum
    · simpa [addrs] using nTimesRefer
    · simpa [addrs] using nTimesStack
    · simpa [addrs] using nTimesFuel
    · simpa [addrs] using nLongCode.symm
    · simpa [addrs] using nSyntaxCode.symm
    · simpa [addrs] using nDeepCode.symm
    · simpa [addrs] using nTypeCode.symm
    · simpa [addrs] using nStoreCode.symm
    · simpa [addrs] using nTwiceCode.symm
    · simpa [addrs] using nManyCode.symm
    · simpa [addrs] using nTimesCode.symm
    · simpa [addrs] using nCodeSum
    · simpa [addrs] using nCodeRefer
    · simpa [addrs] using nCodeStack
    · simpa [addrs] using nCodeFuel
    · simpa [addrs] using nLongSum.symm
    · simpa [addrs] using nSyntaxSum.symm
    · simpa [addrs] using nDeepSum.symm
    · simpa [addrs] using nTypeSum.symm
    · simpa [addrs] using nStoreSum.symm
    · simpa [addrs] using nTwiceSum.symm
    · simpa [addrs] using nManySum.symm
    · simpa [addrs] using nTimesSum.symm
    · simpa [addrs] using nCodeSum.symm
    · simpa [addrs] using nSumRefer
    · simpa [addrs] using nSumStack
    · simpa [addrs] using nSumFuel
    · simpa [addrs] using nLongRefer.symm
    · simpa [addrs] using nSyntaxRefer.symm
    · simpa [addrs] using nDeepRefer.symm
    · simpa [addrs] using nTypeRefer.symm
    · simpa [addrs] using nStoreRefer.symm
    · simpa [addrs] using nTwiceRefer.symm
    · simpa [addrs] using nManyRefer.symm
    · simpa [addrs] using nTimesRefer.symm
    · simpa [addrs] using nCodeRefer.symm
    · simpa [addrs] using nSumRefer.symm
    · simpa [addrs] using nReferStack
    · simpa [addrs] using nReferFuel
    · simpa [addrs] using nLongStack.symm
    · simpa [addrs] using nSyntaxStack.symm
    · simpa [addrs] using nDeepStack.symm
    · simpa [addrs] using nTypeStack.symm
    · simpa [addrs] using nStoreStack.symm
    · simpa [addrs] using nTwiceStack.symm
    · simpa [addrs] using nManyStack.symm
    · simpa [addrs] using nTimesStack.symm
    · simpa [addrs] using nCodeStack.symm
    · simpa [addrs] using nSumStack.symm
    · simpa [addrs] using nReferStack.symm
    · simpa [addrs] using nStackFuel
    · simpa [addrs] using nLongFuel.symm
    · simpa [addrs] using nSyntaxFuel.symm
    · simpa [addrs] using nDeepFuel.symm
    · simpa [addrs] using nTypeFuel.symm
    · simpa [addrs] using nStoreFuel.symm
    · simpa [addrs] using nTwiceFuel.symm
    · simpa [addrs] using nManyFuel.symm
    · simpa [addrs] using nTimesFuel.symm
    · simpa [addrs] using nCodeFuel.symm
    · simpa [addrs] using nSumFuel.symm
    · simpa [addrs] using nReferFuel.symm
    · simpa [addrs] using nStackFuel.symm
  · intro g hg
    simp only [sents, List.mem_cons, List.mem_nil_iff, or_false] at hg
    rcases hg with rfl | rfl | rfl | rfl | rfl | rfl | rfl | rfl | rfl | rfl | rfl | rfl | rfl
    · exact ⟨cLong, uLong, by simpa [addrs] using rLong⟩
    · exact ⟨cSyntax, uSyntax, by simpa [addrs] using rSyntax⟩
    · exact ⟨cDeep, uDeep, by simpa [addrs] using rDeep⟩
    · exact ⟨cType, uType, by simpa [addrs] using rType⟩
    · exact ⟨cStore, uStore, by simpa [addrs] using rStore⟩
    · exact ⟨cTwice, uTwice, by simpa [addrs] using rTwice⟩
    · exact ⟨cMany, uMany, by simpa [addrs] using rMany⟩
    · exact ⟨cTimes, uTimes, by simpa [addrs] using rTimes⟩
    · exact ⟨cCode, uCode, by simpa [addrs] using rCode⟩
    · exact ⟨cSum, uSum, by simpa [addrs] using rSum⟩
    · exact ⟨cRefer, uRefer, by simpa [addrs] using rRefer⟩
    · exact ⟨cStack, uStack, by simpa [addrs] using rStack⟩
    · exact ⟨cFuel, uFuel, by simpa [addrs] using rFuel⟩
end Go.Proofs.YtmncdbepjhmkgaaGreatDoor

/- Parts. -/
import Derived.Test.YtkodhpilkaihjaaGreatDoorRows
import Derived.Test.YtkodhpilkaihjaaGreatDoorV00
import Derived.Test.YtkodhpilkaihjaaGreatDoorV01
import Derived.ProofKit
import Derived.LaidLaws
import Derived.LaidHandle
import Derived.Stop.LaidTwo
import Derived.Shelf.Vars
import Derived.Lay
namespace Go.Proofs.YtkodhpilkaihjaaGreatDoor
open Go.ChangeShapes Go.WideShapes Go.ChangeAt Go.RowKit LS
theorem skip_second{P:Program}{x y:String×DataW Unit}{r:List (String×DataW Unit)}{w:World}(h:laidMet P (x::y::r) w):laidMet P (x::r) w:=by
 obtain⟨n,d⟩:=x
 obtain⟨n',d'⟩:=y
 obtain⟨ps,⟨g,t,cs,f,p,q,h1,h2,h3,h4,⟨g',t',cs',f',p',q',k1,k2,k3,k4,k5,e'⟩,e⟩,hnd,hr⟩:=h
 subst e'
 have hsub:(MemPlace.row ⟨g,0,none⟩ cs.size++p++q').Sublist ps:=by
  rw[e];exact List.Sublist.append (List.Sublist.refl _) (List.sublist_append_right _ _)
 exact⟨_,⟨g,t,cs,f,p,q',h1,h2,h3,h4,k5,rfl⟩,hnd.sublist hsub,fun b off hm=>hr b off (hsub.mem hm)⟩
theorem own:ownKnob Tryz.prog.godebug=none:=by kernel_rfl
theorem gLong : Tryz.prog.globalNamed "gauge/fault.Long" = some 0 := by kernel_rfl
theorem tLong:(Tryz.prog.globals[0]?).map (·.type)=some 60:=by kernel_rfl
theorem gSyntax : Tryz.prog.globalNamed "gauge/fault.Syntax" = some 1 := by kernel_rfl
theorem tSyntax:(Tryz.prog.globals[1]?).map (·.type)=some 60:=by kernel_rfl
theorem gDeep : Tryz.prog.globalNamed "gauge/fault.Deep" = some 2 := by kernel_rfl
theorem tDeep:(Tryz.prog.globals[2]?).map (·.type)=some 60:=by kernel_rfl
theorem gType : Tryz.prog.globalNamed "gauge/fault.Type" = some 3 := by kernel_rfl
theorem tType:(Tryz.prog.globals[3]?).map (·.type)=some 60:=by kernel_rfl
theorem gStore : Tryz.prog.globalNamed "gauge/fault.Store" = some 4 := by kernel_rfl
theorem tStore:(Tryz.prog.globals[4]?).map (·.type)=some 60:=by kernel_rfl
theorem gTwice : Tryz.prog.globalNamed "gauge/fault.Twice" = some 5 := by kernel_rfl
theorem tTwice:(Tryz.prog.globals[5]?).map (·.type)=some 60:=by kernel_rfl
theorem gMany : Tryz.prog.globalNamed "gauge/fault.Many" = some 6 := by kernel_rfl
theorem tMany:(Tryz.prog.globals[6]?).map (·.type)=some 60:=by kernel_rfl
theorem gTimes : Tryz.prog.globalNamed "gauge/fault.Times" = some 7 := by kernel_rfl
theorem tTimes:(Tryz.prog.globals[7]?).map (·.type)=some 60:=by kernel_rfl
theorem gCode : Tryz.prog.globalNamed "gauge/fault.Code" = some 8 := by kernel_rfl
theorem tCode:(Tryz.prog.globals[8]?).map (·.type)=some 60:=by kernel_rfl
theorem gSum : Tryz.prog.globalNamed "gauge/fault.Sum" = some 9 := by kernel_rfl
theorem tSum:(Tryz.prog.globals[9]?).map (·.type)=some 60:=by kernel_rfl
theorem gRefer : Tryz.prog.globalNamed "gauge/fault.Refer" = some 10 := by kernel_rfl
theorem tRefer:(Tryz.prog.globals[10]?).map (·.type)=some 60:=by kernel_rfl
theorem gStack : Tryz.prog.globalNamed "gauge/fault.Stack" = some 11 := by kernel_rfl
theorem tStack:(Tryz.prog.globals[11]?).map (·.type)=some 60:=by kernel_rfl
theorem gFuel : Tryz.prog.globalNamed "gauge/fault.Fuel" = some 12 := by kernel_rfl
theorem tFuel:(Tryz.prog.globals[12]?).map (·.type)=some 60:=by kernel_rfl
theorem gHandle : Tryz.prog.globalNamed "errors.errorType" = some 13 := by kernel_rfl
theorem rtypeRow : (Tryz.prog.cutTypes.find? (·.1 == "internal/reflectlite.rtype")).map (·.2) = some 316 := by kernel_rfl
theorem oneRow:((List.range 520).filter fun t=>Tryz.prog.rowNamed t [101,114,114,111,114])=[60]:=by kernel_rfl
theorem nTypes:Tryz.prog.types.size=520:=by kernel_rfl
theorem rowE (u : TypeId) (h : Tryz.prog.typeName? 3 u = some "*errors.errorString") : u = 491 :=
 typeName_ptr_named (nm := "errors.errorString") (by kernel_rfl) (by kernel_rfl) (by decide) u h
theorem cellsE:Tryz.prog.cellsOf 509=1:=by kernel_rfl
theorem cellsS:Tryz.prog.cellsOf 9=1:=by kernel_rfl
theorem handle_of {W : World} {l : List (String × DataW Unit)} (h : handlesMet Tryz.prog (("errors.errorType", Rows.laid_errors_errorType) :: l) W) : W.cell? ⟨13, 0, none⟩ = some (.iface 316 (.agg #[.pointer (some ⟨20, 60, none⟩)])) := by
 obtain⟨name,u,ty,e1,e2,e3,e4,e5⟩:=h _ (List.mem_cons_self ..)
 have en:name=[101,114,114,111,114]:=(Option.some.inj e1).symm
 subst en
 obtain rfl:=Option.some.inj (rtypeRow.symm.trans e2)
 have hm:ty∈(List.range 520).filter fun t=>Tryz.prog.rowNamed t [101,114,114,111,114]:=List.mem_filter.2 ⟨List.mem_range.2 (by rw[←nTypes];exact e3),e4⟩
 rw[oneRow]at hm
 obtain rfl:=List.mem_singleton.1 hm
 have hh:typeHandle Tryz.prog 60=.pointer (some ⟨20,60,none⟩):=by kernel_rfl
 rw[hh]at e5
 simpa using World.var?_cell gHandle e5 0
theorem same_addr{W:World}{n:String}{t:TypeId}{a b:Addr}(h:W.var? Tryz.prog n=some #[.iface t (.pointer (some a))])(k:W.var? Tryz.prog n=some #[.iface t (.pointer (some b))]):a=b:=by
 rw[h]at k;simpa using k
def addrs(aLong aSyntax aDeep aType aStore aTwice aMany aTimes aCode aSum aRefer aStack aFuel:Addr):Nat→Addr:=fun g=>
 if g=0 then aLong else if g=1 then aSyntax else if g=2 then aDeep else if g=3 then aType else if g=4 then aStore else if g=5 then aTwice else if g=6 then aMany else if g=7 then aTimes else if g=8 then aCode else if g=9 then aSum else if g=10 then aRefer else if g=11 then aStack else aFuel
theorem apart2 {n0 n1 : String} {t0 t1 : List UInt8} {r : List (String × DataW Unit)} {W : World} {g0 g1 : Nat} {a b : Addr} (h : laidMet Tryz.prog ((n0, .iface "*errors.errorString" (.ptr (.agg [.lit (.string t0)]))) :: (n1, .iface "*errors.errorString" (.ptr (.agg [.lit (.string t1)]))) :: r) W)
  (hg0:Tryz.prog.globalNamed n0=some g0) (ht0:(Tryz.prog.globals[g0]?).map (·.type)=some 60) (hg1:Tryz.prog.globalNamed n1=some g1) (ht1:(Tryz.prog.globals[g1]?).map (·.type)=some 60)
  (va:W.var? Tryz.prog n0=some #[.iface 491 (.pointer (some a))]) (vb:W.var? Tryz.prog n1=some #[.iface 491 (.pointer (some b))]):a≠b:=by
 obtain⟨x,y,_,_,_,_,_,_,hx,hy,_,_,_,_,_,_,hne,_,_⟩:=laid_sentinels2 h hg0 ht0 hg1 ht1 Tryz.underlying60 rowE Tryz.underlying491 Tryz.underlying509 rfl rfl Tryz.underlying9 cellsE cellsS
 rw[same_addr va hx,same_addr vb hy];exact hne
set_option maxHeartbeats 2000000 in
theorem vars_of {W : World} {r : List (String × DataW Unit)} (h : laidMet Tryz.prog (("gauge/fault.Long", Rows.laid_gauge_fault_Long) :: ("gauge/fault.Syntax", Rows.laid_gauge_fault_Syntax) :: ("gauge/fault.Deep", Rows.laid_gauge_fault_Deep) :: ("gauge/fault.Type", Rows.laid_gauge_fault_Type) :: ("gauge/fault.Store", Rows.laid_gauge_fault_Store) :: ("gauge/fault.Twice", Rows.laid_gauge_fault_Twice) :: ("gauge/fault.Many", Rows.laid_gauge_fault_Many) :: ("gauge/fault.Times", Rows.laid_gauge_fault_Times) :: ("gauge/fault.Code", Rows.laid_gauge_fault_Code) :: ("gauge/fault.Sum", Rows.laid_gauge_fault_Sum) :: ("gauge/fault.Refer", Rows.laid_gauge_fault_Refer) :: ("gauge/fault.Stack", Rows.laid_gauge_fault_Stack) :: ("gauge/fault.Fuel", Rows.laid_gauge_fault_Fuel) :: r) W)
  (hh:W.cell? ⟨13,0,none⟩=some (.iface 316 (.agg #[.pointer (some ⟨20,60,none⟩)])))
  {m:Int} (hm:W.cell? ⟨14,0,none⟩=some (.int .i64 m)):∃A,Vars W A m:=by
 obtain⟨aLong,_,_,_,cLong,_,uLong,_,vLong,_,_,_,_,_,_,_,_,rLong,_⟩:=laid_sentinels2 h gLong tLong gSyntax tSyntax Tryz.underlying60 rowE Tryz.underlying491 Tryz.underlying509 rfl rfl Tryz.underlying9 cellsE cellsS
 obtain⟨aSyntax,_,_,_,cSyntax,_,uSyntax,_,vSyntax,_,_,_,_,_,_,_,_,rSyntax,_⟩:=laid_sentinels2 h.tail gSyntax tSyntax gDeep tDeep Tryz.underlying60 rowE Tryz.underlying491 Tryz.underlying509 rfl rfl Tryz.underlying9 cellsE cellsS
 obtain⟨aDeep,_,_,_,cDeep,_,uDeep,_,vDeep,_,_,_,_,_,_,_,_,rDeep,_⟩:=laid_sentinels2 h.tail.tail gDeep tDeep gType tType Tryz.underlying60 rowE Tryz.underlying491 Tryz.underlying509 rfl rfl Tryz.underlying9 cellsE cellsS
 obtain⟨aType,_,_,_,cType,_,uType,_,vType,_,_,_,_,_,_,_,_,rType,_⟩:=laid_sentinels2 h.tail.tail.tail gType tType gStore tStore Tryz.underlying60 rowE Tryz.underlying491 Tryz.underlying509 rfl rfl Tryz.underlying9 cellsE cellsS
 obtain⟨aStore,_,_,_,cStore,_,uStore,_,vStore,_,_,_,_,_,_,_,_,rStore,_⟩:=laid_sentinels2 h.tail.tail.tail.tail gStore tStore gTwice tTwice Tryz.underlying60 rowE Tryz.underlying491 Tryz.underlying509 rfl rfl Tryz.underlying9 cellsE cellsS
 obtain⟨aTwice,_,_,_,cTwice,_,uTwice,_,vTwice,_,_,_,_,_,_,_,_,rTwice,_⟩:=laid_sentinels2 h.tail.tail.tail.tail.tail gTwice tTwice gMany tMany Tryz.underlying60 rowE Tryz.underlying491 Tryz.underlying509 rfl rfl Tryz.underlying9 cellsE cellsS
 obtain⟨aMany,_,_,_,cMany,_,uMany,_,vMany,_,_,_,_,_,_,_,_,rMany,_⟩:=laid_sentinels2 h.tail.tail.tail.tail.tail.tail gMany tMany gTimes tTimes Tryz.underlying60 rowE Tryz.underlying491 Tryz.underlying509 rfl rfl Tryz.underlying9 cellsE cellsS
 obtain⟨aTimes,_,_,_,cTimes,_,uTimes,_,vTimes,_,_,_,_,_,_,_,_,rTimes,_⟩:=laid_sentinels2 h.tail.tail.tail.tail.tail.tail.tail gTimes tTimes gCode tCode Tryz.underlying60 rowE Tryz.underlying491 Tryz.underlying509 rfl rfl Tryz.underlying9 cellsE cellsS
 obtain⟨aCode,_,_,_,cCode,_,uCode,_,vCode,_,_,_,_,_,_,_,_,rCode,_⟩:=laid_sentinels2 h.tail.tail.tail.tail.tail.tail.tail.tail gCode tCode gSum tSum Tryz.underlying60 rowE Tryz.underlying491 Tryz.underlying509 rfl rfl Tryz.underlying9 cellsE cellsS
 obtain⟨aSum,_,_,_,cSum,_,uSum,_,vSum,_,_,_,_,_,_,_,_,rSum,_⟩:=laid_sentinels2 h.tail.tail.tail.tail.tail.tail.tail.tail.tail gSum tSum gRefer tRefer Tryz.underlying60 rowE Tryz.underlying491 Tryz.underlying509 rfl rfl Tryz.underlying9 cellsE cellsS
 obtain⟨aRefer,_,_,_,cRefer,_,uRefer,_,vRefer,_,_,_,_,_,_,_,_,rRefer,_⟩:=laid_sentinels2 h.tail.tail.tail.tail.tail.tail.tail.tail.tail.tail gRefer tRefer gStack tStack Tryz.underlying60 rowE Tryz.underlying491 Tryz.underlying509 rfl rfl Tryz.underlying9 cellsE cellsS
 obtain⟨aStack,_,_,_,cStack,_,uStack,_,vStack,_,_,_,_,_,_,_,_,rStack,_⟩:=laid_sentinels2 h.tail.tail.tail.tail.tail.tail.tail.tail.tail.tail.tail gStack tStack gFuel tFuel Tryz.underlying60 rowE Tryz.underlying491 Tryz.underlying509 rfl rfl Tryz.underlying9 cellsE cellsS
 obtain⟨_,aFuel,_,_,_,cFuel,_,uFuel,_,vFuel,_,_,_,_,_,_,_,_,rFuel⟩:=laid_sentinels2 h.tail.tail.tail.tail.tail.tail.tail.tail.tail.tail.tail gStack tStack gFuel tFuel Tryz.underlying60 rowE Tryz.underlying491 Tryz.underlying509 rfl rfl Tryz.underlying9 cellsE cellsS
 have nLongSyntax:=apart2 h gLong tLong gSyntax tSyntax vLong vSyntax
 have nLongDeep:=apart2 (skip_second h) gLong tLong gDeep tDeep vLong vDeep
 have nLongType:=apart2 (skip_second (skip_second h)) gLong tLong gType tType vLong vType
 have nLongStore:=apart2 (skip_second (skip_second (skip_second h))) gLong tLong gStore tStore vLong vStore
 have nLongTwice:=apart2 (skip_second (skip_second (skip_second (skip_second h)))) gLong tLong gTwice tTwice vLong vTwice
 have nLongMany:=apart2 (skip_second (skip_second (skip_second (skip_second (skip_second h))))) gLong tLong gMany tMany vLong vMany
 have nLongTimes:=apart2 (skip_second (skip_second (skip_second (skip_second (skip_second (skip_second h)))))) gLong tLong gTimes tTimes vLong vTimes
 have nLongCode:=apart2 (skip_second (skip_second (skip_second (skip_second (skip_second (skip_second (skip_second h))))))) gLong tLong gCode tCode vLong vCode
 have nLongSum:=apart2 (skip_second (skip_second (skip_second (skip_second (skip_second (skip_second (skip_second (skip_second h)))))))) gLong tLong gSum tSum vLong vSum
 have nLongRefer:=apart2 (skip_second (skip_second (skip_second (skip_second (skip_second (skip_second (skip_second (skip_second (skip_second h))))))))) gLong tLong gRefer tRefer vLong vRefer
 have nLongStack:=apart2 (skip_second (skip_second (skip_second (skip_second (skip_second (skip_second (skip_second (skip_second (skip_second (skip_second h)))))))))) gLong tLong gStack tStack vLong vStack
 have nLongFuel:=apart2 (skip_second (skip_second (skip_second (skip_second (skip_second (skip_second (skip_second (skip_second (skip_second (skip_second (skip_second h))))))))))) gLong tLong gFuel tFuel vLong vFuel
 have nSyntaxDeep:=apart2 h.tail gSyntax tSyntax gDeep tDeep vSyntax vDeep
 have nSyntaxType:=apart2 (skip_second h.tail) gSyntax tSyntax gType tType vSyntax vType
 have nSyntaxStore:=apart2 (skip_second (skip_second h.tail)) gSyntax tSyntax gStore tStore vSyntax vStore
 have nSyntaxTwice:=apart2 (skip_second (skip_second (skip_second h.tail))) gSyntax tSyntax gTwice tTwice vSyntax vTwice
 have nSyntaxMany:=apart2 (skip_second (skip_second (skip_second (skip_second h.tail)))) gSyntax tSyntax gMany tMany vSyntax vMany
 have nSyntaxTimes:=apart2 (skip_second (skip_second (skip_second (skip_second (skip_second h.tail))))) gSyntax tSyntax gTimes tTimes vSyntax vTimes
 have nSyntaxCode:=apart2 (skip_second (skip_second (skip_second (skip_second (skip_second (skip_second h.tail)))))) gSyntax tSyntax gCode tCode vSyntax vCode
 have nSyntaxSum:=apart2 (skip_second (skip_second (skip_second (skip_second (skip_second (skip_second (skip_second h.tail))))))) gSyntax tSyntax gSum tSum vSyntax vSum
 have nSyntaxRefer:=apart2 (skip_second (skip_second (skip_second (skip_second (skip_second (skip_second (skip_second (skip_second h.tail)))))))) gSyntax tSyntax gRefer tRefer vSyntax vRefer
 have nSyntaxStack:=apart2 (skip_second (skip_second (skip_second (skip_second (skip_second (skip_second (skip_second (skip_second (skip_second h.tail))))))))) gSyntax tSyntax gStack tStack vSyntax vStack
 have nSyntaxFuel:=apart2 (skip_second (skip_second (skip_second (skip_second (skip_second (skip_second (skip_second (skip_second (skip_second (skip_second h.tail)))))))))) gSyntax tSyntax gFuel tFuel vSyntax vFuel
 have nDeepType:=apart2 h.tail.tail gDeep tDeep gType tType vDeep vType
 have nDeepStore:=apart2 (skip_second h.tail.tail) gDeep tDeep gStore tStore vDeep vStore
 have nDeepTwice:=apart2 (skip_second (skip_second h.tail.tail)) gDeep tDeep gTwice tTwice vDeep vTwice
 have nDeepMany:=apart2 (skip_second (skip_second (skip_second h.tail.tail))) gDeep tDeep gMany tMany vDeep vMany
 have nDeepTimes:=apart2 (skip_second (skip_second (skip_second (skip_second h.tail.tail)))) gDeep tDeep gTimes tTimes vDeep vTimes
 have nDeepCode:=apart2 (skip_second (skip_second (skip_second (skip_second (skip_second h.tail.tail))))) gDeep tDeep gCode tCode vDeep vCode
 have nDeepSum:=apart2 (skip_second (skip_second (skip_second (skip_second (skip_second (skip_second h.tail.tail)))))) gDeep tDeep gSum tSum vDeep vSum
 have nDeepRefer:=apart2 (skip_second (skip_second (skip_second (skip_second (skip_second (skip_second (skip_second h.tail.tail))))))) gDeep tDeep gRefer tRefer vDeep vRefer
 have nDeepStack:=apart2 (skip_second (skip_second (skip_second (skip_second (skip_second (skip_second (skip_second (skip_second h.tail.tail)))))))) gDeep tDeep gStack tStack vDeep vStack
 have nDeepFuel:=apart2 (skip_second (skip_second (skip_second (skip_second (skip_second (skip_second (skip_second (skip_second (skip_second h.tail.tail))))))))) gDeep tDeep gFuel tFuel vDeep vFuel
 have nTypeStore:=apart2 h.tail.tail.tail gType tType gStore tStore vType vStore
 have nTypeTwice:=apart2 (skip_second h.tail.tail.tail) gType tType gTwice tTwice vType vTwice
 have nTypeMany:=apart2 (skip_second (skip_second h.tail.tail.tail)) gType tType gMany tMany vType vMany
 have nTypeTimes:=apart2 (skip_second (skip_second (skip_second h.tail.tail.tail))) gType tType gTimes tTimes vType vTimes
 have nTypeCode:=apart2 (skip_second (skip_second (skip_second (skip_second h.tail.tail.tail)))) gType tType gCode tCode vType vCode
 have nTypeSum:=apart2 (skip_second (skip_second (skip_second (skip_second (skip_second h.tail.tail.tail))))) gType tType gSum tSum vType vSum
 have nTypeRefer:=apart2 (skip_second (skip_second (skip_second (skip_second (skip_second (skip_second h.tail.tail.tail)))))) gType tType gRefer tRefer vType vRefer
 have nTypeStack:=apart2 (skip_second (skip_second (skip_second (skip_second (skip_second (skip_second (skip_second h.tail.tail.tail))))))) gType tType gStack tStack vType vStack
 have nTypeFuel:=apart2 (skip_second (skip_second (skip_second (skip_second (skip_second (skip_second (skip_second (skip_second h.tail.tail.tail)))))))) gType tType gFuel tFuel vType vFuel
 have nStoreTwice:=apart2 h.tail.tail.tail.tail gStore tStore gTwice tTwice vStore vTwice
 have nStoreMany:=apart2 (skip_second h.tail.tail.tail.tail) gStore tStore gMany tMany vStore vMany
 have nStoreTimes:=apart2 (skip_second (skip_second h.tail.tail.tail.tail)) gStore tStore gTimes tTimes vStore vTimes
 have nStoreCode:=apart2 (skip_second (skip_second (skip_second h.tail.tail.tail.tail))) gStore tStore gCode tCode vStore vCode
 have nStoreSum:=apart2 (skip_second (skip_second (skip_second (skip_second h.tail.tail.tail.tail)))) gStore tStore gSum tSum vStore vSum
 have nStoreRefer:=apart2 (skip_second (skip_second (skip_second (skip_second (skip_second h.tail.tail.tail.tail))))) gStore tStore gRefer tRefer vStore vRefer
 have nStoreStack:=apart2 (skip_second (skip_second (skip_second (skip_second (skip_second (skip_second h.tail.tail.tail.tail)))))) gStore tStore gStack tStack vStore vStack
 have nStoreFuel:=apart2 (skip_second (skip_second (skip_second (skip_second (skip_second (skip_second (skip_second h.tail.tail.tail.tail))))))) gStore tStore gFuel tFuel vStore vFuel
 have nTwiceMany:=apart2 h.tail.tail.tail.tail.tail gTwice tTwice gMany tMany vTwice vMany
 have nTwiceTimes:=apart2 (skip_second h.tail.tail.tail.tail.tail) gTwice tTwice gTimes tTimes vTwice vTimes
 have nTwiceCode:=apart2 (skip_second (skip_second h.tail.tail.tail.tail.tail)) gTwice tTwice gCode tCode vTwice vCode
 have nTwiceSum:=apart2 (skip_second (skip_second (skip_second h.tail.tail.tail.tail.tail))) gTwice tTwice gSum tSum vTwice vSum
 have nTwiceRefer:=apart2 (skip_second (skip_second (skip_second (skip_second h.tail.tail.tail.tail.tail)))) gTwice tTwice gRefer tRefer vTwice vRefer
 have nTwiceStack:=apart2 (skip_second (skip_second (skip_second (skip_second (skip_second h.tail.tail.tail.tail.tail))))) gTwice tTwice gStack tStack vTwice vStack
 have nTwiceFuel:=apart2 (skip_second (skip_second (skip_second (skip_second (skip_second (skip_second h.tail.tail.tail.tail.tail)))))) gTwice tTwice gFuel tFuel vTwice vFuel
 have nManyTimes:=apart2 h.tail.tail.tail.tail.tail.tail gMany tMany gTimes tTimes vMany vTimes
 have nManyCode:=apart2 (skip_second h.tail.tail.tail.tail.tail.tail) gMany tMany gCode tCode vMany vCode
 have nManySum:=apart2 (skip_second (skip_second h.tail.tail.tail.tail.tail.tail)) gMany tMany gSum tSum vMany vSum
 have nManyRefer:=apart2 (skip_second (skip_second (skip_second h.tail.tail.tail.tail.tail.tail))) gMany tMany gRefer tRefer vMany vRefer
 have nManyStack:=apart2 (skip_second (skip_second (skip_second (skip_second h.tail.tail.tail.tail.tail.tail)))) gMany tMany gStack tStack vMany vStack
 have nManyFuel:=apart2 (skip_second (skip_second (skip_second (skip_second (skip_second h.tail.tail.tail.tail.tail.tail))))) gMany tMany gFuel tFuel vMany vFuel
 have nTimesCode:=apart2 h.tail.tail.tail.tail.tail.tail.tail gTimes tTimes gCode tCode vTimes vCode
 have nTimesSum:=apart2 (skip_second h.tail.tail.tail.tail.tail.tail.tail) gTimes tTimes gSum tSum vTimes vSum
 have nTimesRefer:=apart2 (skip_second (skip_second h.tail.tail.tail.tail.tail.tail.tail)) gTimes tTimes gRefer tRefer vTimes vRefer
 have nTimesStack:=apart2 (skip_second (skip_second (skip_second h.tail.tail.tail.tail.tail.tail.tail))) gTimes tTimes gStack tStack vTimes vStack
 have nTimesFuel:=apart2 (skip_second (skip_second (skip_second (skip_second h.tail.tail.tail.tail.tail.tail.tail)))) gTimes tTimes gFuel tFuel vTimes vFuel
 have nCodeSum:=apart2 h.tail.tail.tail.tail.tail.tail.tail.tail gCode tCode gSum tSum vCode vSum
 have nCodeRefer:=apart2 (skip_second h.tail.tail.tail.tail.tail.tail.tail.tail) gCode tCode gRefer tRefer vCode vRefer
 have nCodeStack:=apart2 (skip_second (skip_second h.tail.tail.tail.tail.tail.tail.tail.tail)) gCode tCode gStack tStack vCode vStack
 have nCodeFuel:=apart2 (skip_second (skip_second (skip_second h.tail.tail.tail.tail.tail.tail.tail.tail))) gCode tCode gFuel tFuel vCode vFuel
 have nSumRefer:=apart2 h.tail.tail.tail.tail.tail.tail.tail.tail.tail gSum tSum gRefer tRefer vSum vRefer
 have nSumStack:=apart2 (skip_second h.tail.tail.tail.tail.tail.tail.tail.tail.tail) gSum tSum gStack tStack vSum vStack
 have nSumFuel:=apart2 (skip_second (skip_second h.tail.tail.tail.tail.tail.tail.tail.tail.tail)) gSum tSum gFuel tFuel vSum vFuel
 have nReferStack:=apart2 h.tail.tail.tail.tail.tail.tail.tail.tail.tail.tail gRefer tRefer gStack tStack vRefer vStack
 have nReferFuel:=apart2 (skip_second h.tail.tail.tail.tail.tail.tail.tail.tail.tail.tail) gRefer tRefer gFuel tFuel vRefer vFuel
 have nStackFuel:=apart2 h.tail.tail.tail.tail.tail.tail.tail.tail.tail.tail.tail gStack tStack gFuel tFuel vStack vFuel
 refine⟨addrs aLong aSyntax aDeep aType aStore aTwice aMany aTimes aCode aSum aRefer aStack aFuel,hm,?_,?_,?_,hh⟩
 ·intro g hg
  simp only[sents,List.mem_cons,List.mem_nil_iff,or_false]at hg
  rcases hg with rfl|rfl|rfl|rfl|rfl|rfl|rfl|rfl|rfl|rfl|rfl|rfl|rfl
  ·simpa [addrs] using World.var?_cell gLong vLong 0
  ·simpa [addrs] using World.var?_cell gSyntax vSyntax 0
  ·simpa [addrs] using World.var?_cell gDeep vDeep 0
  ·simpa [addrs] using World.var?_cell gType vType 0
  ·simpa [addrs] using World.var?_cell gStore vStore 0
  ·simpa [addrs] using World.var?_cell gTwice vTwice 0
  ·simpa [addrs] using World.var?_cell gMany vMany 0
  ·simpa [addrs] using World.var?_cell gTimes vTimes 0
  ·simpa [addrs] using World.var?_cell gCode vCode 0
  ·simpa [addrs] using World.var?_cell gSum vSum 0
  ·simpa [addrs] using World.var?_cell gRefer vRefer 0
  ·simpa [addrs] using World.var?_cell gStack vStack 0
  ·simpa [addrs] using World.var?_cell gFuel vFuel 0
 ·intro g hg g' hg' hne
  simp only[sents,List.mem_cons,List.mem_nil_iff,or_false]at hg hg'
  rcases hg with rfl|rfl|rfl|rfl|rfl|rfl|rfl|rfl|rfl|rfl|rfl|rfl|rfl <;> rcases hg' with rfl|rfl|rfl|rfl|rfl|rfl|rfl|rfl|rfl|rfl|rfl|rfl|rfl
  all_goals first|exact absurd rfl hne|skip
  ·simpa [addrs] using nLongSyntax
  ·simpa [addrs] using nLongDeep
  ·simpa [addrs] using nLongType
  ·simpa [addrs] using nLongStore
  ·simpa [addrs] using nLongTwice
  ·simpa [addrs] using nLongMany
  ·simpa [addrs] using nLongTimes
  ·simpa [addrs] using nLongCode
  ·simpa [addrs] using nLongSum
  ·simpa [addrs] using nLongRefer
  ·simpa [addrs] using nLongStack
  ·simpa [addrs] using nLongFuel
  ·simpa [addrs] using nLongSyntax.symm
  ·simpa [addrs] using nSyntaxDeep
  ·simpa [addrs] using nSyntaxType
  ·simpa [addrs] using nSyntaxStore
  ·simpa [addrs] using nSyntaxTwice
  ·simpa [addrs] using nSyntaxMany
  ·simpa [addrs] using nSyntaxTimes
  ·simpa [addrs] using nSyntaxCode
  ·simpa [addrs] using nSyntaxSum
  ·simpa [addrs] using nSyntaxRefer
  ·simpa [addrs] using nSyntaxStack
  ·simpa [addrs] using nSyntaxFuel
  ·simpa [addrs] using nLongDeep.symm
  ·simpa [addrs] using nSyntaxDeep.symm
  ·simpa [addrs] using nDeepType
  ·simpa [addrs] using nDeepStore
  ·simpa [addrs] using nDeepTwice
  ·simpa [addrs] using nDeepMany
  ·simpa [addrs] using nDeepTimes
  ·simpa [addrs] using nDeepCode
  ·simpa [addrs] using nDeepSum
  ·simpa [addrs] using nDeepRefer
  ·simpa [addrs] using nDeepStack
  ·simpa [addrs] using nDeepFuel
  ·simpa [addrs] using nLongType.symm
  ·simpa [addrs] using nSyntaxType.symm
  ·simpa [addrs] using nDeepType.symm
  ·simpa [addrs] using nTypeStore
  ·simpa [addrs] using nTypeTwice
  ·simpa [addrs] using nTypeMany
  ·simpa [addrs] using nTypeTimes
  ·simpa [addrs] using nTypeCode
  ·simpa [addrs] using nTypeSum
  ·simpa [addrs] using nTypeRefer
  ·simpa [addrs] using nTypeStack
  ·simpa [addrs] using nTypeFuel
  ·simpa [addrs] using nLongStore.symm
  ·simpa [addrs] using nSyntaxStore.symm
  ·simpa [addrs] using nDeepStore.symm
  ·simpa [addrs] using nTypeStore.symm
  ·simpa [addrs] using nStoreTwice
  ·simpa [addrs] using nStoreMany
  ·simpa [addrs] using nStoreTimes
  ·simpa [addrs] using nStoreCode
  ·simpa [addrs] using nStoreSum
  ·simpa [addrs] using nStoreRefer
  ·simpa [addrs] using nStoreStack
  ·simpa [addrs] using nStoreFuel
  ·simpa [addrs] using nLongTwice.symm
  ·simpa [addrs] using nSyntaxTwice.symm
  ·simpa [addrs] using nDeepTwice.symm
  ·simpa [addrs] using nTypeTwice.symm
  ·simpa [addrs] using nStoreTwice.symm
  ·simpa [addrs] using nTwiceMany
  ·simpa [addrs] using nTwiceTimes
  ·simpa [addrs] using nTwiceCode
  ·simpa [addrs] using nTwiceSum
  ·simpa [addrs] using nTwiceRefer
  ·simpa [addrs] using nTwiceStack
  ·simpa [addrs] using nTwiceFuel
  ·simpa [addrs] using nLongMany.symm
  ·simpa [addrs] using nSyntaxMany.symm
  ·simpa [addrs] using nDeepMany.symm
  ·simpa [addrs] using nTypeMany.symm
  ·simpa [addrs] using nStoreMany.symm
  ·simpa [addrs] using nTwiceMany.symm
  ·simpa [addrs] using nManyTimes
  ·simpa [addrs] using nManyCode
  ·simpa [addrs] using nManySum
  ·simpa [addrs] using nManyRefer
  ·simpa [addrs] using nManyStack
  ·simpa [addrs] using nManyFuel
  ·simpa [addrs] using nLongTimes.symm
  ·simpa [addrs] using nSyntaxTimes.symm
  ·simpa [addrs] using nDeepTimes.symm
  ·simpa [addrs] using nTypeTimes.symm
  ·simpa [addrs] using nStoreTimes.symm
  ·simpa [addrs] using nTwiceTimes.symm
  ·simpa [addrs] using nManyTimes.symm
  ·simpa [addrs] using nTimesCode
  ·simpa [addrs] using nTimesSum
  ·simpa [addrs] using nTimesRefer
  ·simpa [addrs] using nTimesStack
  ·simpa [addrs] using nTimesFuel
  ·simpa [addrs] using nLongCode.symm
  ·simpa [addrs] using nSyntaxCode.symm
  ·simpa [addrs] using nDeepCode.symm
  ·simpa [addrs] using nTypeCode.symm
  ·simpa [addrs] using nStoreCode.symm
  ·simpa [addrs] using nTwiceCode.symm
  ·simpa [addrs] using nManyCode.symm
  ·simpa [addrs] using nTimesCode.symm
  ·simpa [addrs] using nCodeSum
  ·simpa [addrs] using nCodeRefer
  ·simpa [addrs] using nCodeStack
  ·simpa [addrs] using nCodeFuel
  ·simpa [addrs] using nLongSum.symm
  ·simpa [addrs] using nSyntaxSum.symm
  ·simpa [addrs] using nDeepSum.symm
  ·simpa [addrs] using nTypeSum.symm
  ·simpa [addrs] using nStoreSum.symm
  ·simpa [addrs] using nTwiceSum.symm
  ·simpa [addrs] using nManySum.symm
  ·simpa [addrs] using nTimesSum.symm
  ·simpa [addrs] using nCodeSum.symm
  ·simpa [addrs] using nSumRefer
  ·simpa [addrs] using nSumStack
  ·simpa [addrs] using nSumFuel
  ·simpa [addrs] using nLongRefer.symm
  ·simpa [addrs] using nSyntaxRefer.symm
  ·simpa [addrs] using nDeepRefer.symm
  ·simpa [addrs] using nTypeRefer.symm
  ·simpa [addrs] using nStoreRefer.symm
  ·simpa [addrs] using nTwiceRefer.symm
  ·simpa [addrs] using nManyRefer.symm
  ·simpa [addrs] using nTimesRefer.symm
  ·simpa [addrs] using nCodeRefer.symm
  ·simpa [addrs] using nSumRefer.symm
  ·simpa [addrs] using nReferStack
  ·simpa [addrs] using nReferFuel
  ·simpa [addrs] using nLongStack.symm
  ·simpa [addrs] using nSyntaxStack.symm
  ·simpa [addrs] using nDeepStack.symm
  ·simpa [addrs] using nTypeStack.symm
  ·simpa [addrs] using nStoreStack.symm
  ·simpa [addrs] using nTwiceStack.symm
  ·simpa [addrs] using nManyStack.symm
  ·simpa [addrs] using nTimesStack.symm
  ·simpa [addrs] using nCodeStack.symm
  ·simpa [addrs] using nSumStack.symm
  ·simpa [addrs] using nReferStack.symm
  ·simpa [addrs] using nStackFuel
  ·simpa [addrs] using nLongFuel.symm
  ·simpa [addrs] using nSyntaxFuel.symm
  ·simpa [addrs] using nDeepFuel.symm
  ·simpa [addrs] using nTypeFuel.symm
  ·simpa [addrs] using nStoreFuel.symm
  ·simpa [addrs] using nTwiceFuel.symm
  ·simpa [addrs] using nManyFuel.symm
  ·simpa [addrs] using nTimesFuel.symm
  ·simpa [addrs] using nCodeFuel.symm
  ·simpa [addrs] using nSumFuel.symm
  ·simpa [addrs] using nReferFuel.symm
  ·simpa [addrs] using nStackFuel.symm
 ·intro g hg
  simp only[sents,List.mem_cons,List.mem_nil_iff,or_false]at hg
  rcases hg with rfl|rfl|rfl|rfl|rfl|rfl|rfl|rfl|rfl|rfl|rfl|rfl|rfl
  ·exact⟨cLong,uLong,by simpa [addrs] using rLong⟩
  ·exact⟨cSyntax,uSyntax,by simpa [addrs] using rSyntax⟩
  ·exact⟨cDeep,uDeep,by simpa [addrs] using rDeep⟩
  ·exact⟨cType,uType,by simpa [addrs] using rType⟩
  ·exact⟨cStore,uStore,by simpa [addrs] using rStore⟩
  ·exact⟨cTwice,uTwice,by simpa [addrs] using rTwice⟩
  ·exact⟨cMany,uMany,by simpa [addrs] using rMany⟩
  ·exact⟨cTimes,uTimes,by simpa [addrs] using rTimes⟩
  ·exact⟨cCode,uCode,by simpa [addrs] using rCode⟩
  ·exact⟨cSum,uSum,by simpa [addrs] using rSum⟩
  ·exact⟨cRefer,uRefer,by simpa [addrs] using rRefer⟩
  ·exact⟨cStack,uStack,by simpa [addrs] using rStack⟩
  ·exact⟨cFuel,uFuel,by simpa [addrs] using rFuel⟩
end Go.Proofs.YtkodhpilkaihjaaGreatDoor

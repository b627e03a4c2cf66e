/- Parts. -/
import Derived.Test.YtcdgkkfipdoeeaaGreatDoorRows
import Derived.Test.YtcdgkkfipdoeeaaGreatDoorT00
import Derived.ProofKit
import Derived.LaidLaws
import Derived.LaidHandle
import Derived.Stop.LaidTwo
import Derived.Shelf.Vars
import Derived.Lay
set_option maxHeartbeats 2000000
namespace Go.Proofs.YtcdgkkfipdoeeaaGreatDoor
open Go.ChangeShapes Go.WideShapes Go.ChangeAt Go.RowKit LS
theorem Za{P:Program}{x y:String×DataW Unit}{r:List (String×DataW Unit)}{w:World}(h:laidMet P (x::y::r) w):laidMet P (x::r) w:=by
 obtain⟨n,d⟩:=x
 obtain⟨n',d'⟩:=y
 obtain⟨ps,⟨g,t,cs,f,p,q,h1,h2,h3,h4,⟨g',t',cs',f',p',q',k1,k2,k3,k4,k5,e'⟩,e⟩,hnd,hr⟩:=h
 subst e'
 have hsub:(MemPlace.row ⟨g,0,none⟩ cs.size++p++q').Sublist ps:=by
  rw[e];exact List.Sublist.append (List.Sublist.refl _) (List.sublist_append_right _ _)
 exact⟨_,⟨g,t,cs,f,p,q',h1,h2,h3,h4,k5,rfl⟩,hnd.sublist hsub,fun b off hm=>hr b off (hsub.mem hm)⟩
theorem own:ownKnob Tryz.prog.godebug=none:=by kernel_rfl
theorem Zc6 : Tryz.prog.globalNamed "gauge/fault.Long" = some 0 := by kernel_rfl
theorem Zbt:(Tryz.prog.globals[0]?).map (·.type)=some 46:=by kernel_rfl
theorem ZcM : Tryz.prog.globalNamed "gauge/fault.Syntax" = some 1 := by kernel_rfl
theorem Zbn:(Tryz.prog.globals[1]?).map (·.type)=some 46:=by kernel_rfl
theorem ZcH : Tryz.prog.globalNamed "gauge/fault.Deep" = some 2 := by kernel_rfl
theorem Zbs:(Tryz.prog.globals[2]?).map (·.type)=some 46:=by kernel_rfl
theorem ZcP : Tryz.prog.globalNamed "gauge/fault.Type" = some 3 := by kernel_rfl
theorem Zbz:(Tryz.prog.globals[3]?).map (·.type)=some 46:=by kernel_rfl
theorem ZcL : Tryz.prog.globalNamed "gauge/fault.Store" = some 4 := by kernel_rfl
theorem ZbG:(Tryz.prog.globals[4]?).map (·.type)=some 46:=by kernel_rfl
theorem ZcO : Tryz.prog.globalNamed "gauge/fault.Twice" = some 5 := by kernel_rfl
theorem ZbQ:(Tryz.prog.globals[5]?).map (·.type)=some 46:=by kernel_rfl
theorem ZcJ : Tryz.prog.globalNamed "gauge/fault.Many" = some 6 := by kernel_rfl
theorem ZbW:(Tryz.prog.globals[6]?).map (·.type)=some 46:=by kernel_rfl
theorem ZcN : Tryz.prog.globalNamed "gauge/fault.Times" = some 7 := by kernel_rfl
theorem Zb2:(Tryz.prog.globals[7]?).map (·.type)=some 46:=by kernel_rfl
theorem ZcG : Tryz.prog.globalNamed "gauge/fault.Code" = some 8 := by kernel_rfl
theorem Zdb:(Tryz.prog.globals[8]?).map (·.type)=some 46:=by kernel_rfl
theorem gSum : Tryz.prog.globalNamed "gauge/fault.Sum" = some 9 := by kernel_rfl
theorem tSum:(Tryz.prog.globals[9]?).map (·.type)=some 46:=by kernel_rfl
theorem ZcK : Tryz.prog.globalNamed "gauge/fault.Refer" = some 10 := by kernel_rfl
theorem Zdd:(Tryz.prog.globals[10]?).map (·.type)=some 46:=by kernel_rfl
theorem Zcz : Tryz.prog.globalNamed "gauge/fault.Stack" = some 11 := by kernel_rfl
theorem ZcW:(Tryz.prog.globals[11]?).map (·.type)=some 46:=by kernel_rfl
theorem ZcI : Tryz.prog.globalNamed "gauge/fault.Fuel" = some 12 := by kernel_rfl
theorem Zdc:(Tryz.prog.globals[12]?).map (·.type)=some 46:=by kernel_rfl
theorem Zs5 : Tryz.prog.globalNamed "errors.errorType" = some 13 := by kernel_rfl
theorem Zw9 : (Tryz.prog.cutTypes.find? (·.1 == "internal/reflectlite.rtype")).map (·.2) = some 209 := by kernel_rfl
theorem ZvG:((List.range 462).filter fun t=>Tryz.prog.rowNamed t [101,114,114,111,114])=[46]:=by kernel_rfl
theorem Zva:Tryz.prog.types.size=462:=by kernel_rfl
theorem rowE (u : TypeId) (h : Tryz.prog.typeName? 3 u = some "*errors.errorString") : u = 432 :=
 typeName_ptr_named (nm := "errors.errorString") (by kernel_rfl) (by kernel_rfl) (by decide) u h
theorem Zc2:Tryz.prog.cellsOf 451=1:=by kernel_rfl
theorem Zc3:Tryz.prog.cellsOf 9=1:=by kernel_rfl
theorem Ztk {W : World} {l : List (String × DataW Unit)} (h : handlesMet Tryz.prog (("errors.errorType", Rows.laid_errors_errorType) :: l) W) : W.cell? ⟨13, 0, none⟩ = some (.iface 209 (.agg #[.pointer (some ⟨20, 46, none⟩)])) := by
 obtain⟨name,u,ty,e1,e2,e3,e4,e5⟩:=h _ (List.mem_cons_self ..)
 have en:name=[101,114,114,111,114]:=(Option.some.inj e1).symm
 subst en
 obtain rfl:=Option.some.inj (Zw9.symm.trans e2)
 have hm:ty∈(List.range 462).filter fun t=>Tryz.prog.rowNamed t [101,114,114,111,114]:=List.mem_filter.2 ⟨List.mem_range.2 (by rw[<-Zva];exact e3),e4⟩
 rw[ZvG]at hm
 obtain rfl:=List.mem_singleton.1 hm
 have hh:typeHandle Tryz.prog 46=.pointer (some ⟨20,46,none⟩):=by kernel_rfl
 rw[hh]at e5
 simpa using World.var?_cell Zs5 e5 0
theorem Zpj{W:World}{n:String}{t:TypeId}{a b:Addr}(h:W.var? Tryz.prog n=some #[.iface t (.pointer (some a))])(k:W.var? Tryz.prog n=some #[.iface t (.pointer (some b))]):a=b:=by
 rw[h]at k;simpa using k
def Zc(aLong aSyntax aDeep aType aStore aTwice aMany aTimes aCode aSum aRefer aStack aFuel:Addr):Nat->Addr:=fun g=>
 if g=0 then aLong else if g=1 then aSyntax else if g=2 then aDeep else if g=3 then aType else if g=4 then aStore else if g=5 then aTwice else if g=6 then aMany else if g=7 then aTimes else if g=8 then aCode else if g=9 then aSum else if g=10 then aRefer else if g=11 then aStack else aFuel
theorem Zq {n0 n1 : String} {t0 t1 : List UInt8} {r : List (String × DataW Unit)} {W : World} {g0 g1 : Nat} {a b : Addr} (h : laidMet Tryz.prog ((n0, .iface "*errors.errorString" (.ptr (.agg [.lit (.string t0)]))) :: (n1, .iface "*errors.errorString" (.ptr (.agg [.lit (.string t1)]))) :: r) W)
  (hg0:Tryz.prog.globalNamed n0=some g0) (ht0:(Tryz.prog.globals[g0]?).map (·.type)=some 46) (hg1:Tryz.prog.globalNamed n1=some g1) (ht1:(Tryz.prog.globals[g1]?).map (·.type)=some 46)
  (va:W.var? Tryz.prog n0=some #[.iface 432 (.pointer (some a))]) (vb:W.var? Tryz.prog n1=some #[.iface 432 (.pointer (some b))]):a≠b:=by
 obtain⟨x,y,_,_,_,_,_,_,hx,hy,_,_,_,_,_,_,hne,_,_⟩:=laid_sentinels2 h hg0 ht0 hg1 ht1 Tryz.underlying46 rowE Tryz.underlying432 Tryz.underlying451 rfl rfl Tryz.underlying9 Zc2 Zc3
 rw[Zpj va hx,Zpj vb hy];exact hne
theorem ZzF {W : World} {r : List (String × DataW Unit)} (h : laidMet Tryz.prog (("gauge/fault.Long", Rows.laid_gauge_fault_Long) :: ("gauge/fault.Syntax", Rows.laid_gauge_fault_Syntax) :: ("gauge/fault.Deep", Rows.laid_gauge_fault_Deep) :: ("gauge/fault.Type", Rows.laid_gauge_fault_Type) :: ("gauge/fault.Store", Rows.laid_gauge_fault_Store) :: ("gauge/fault.Twice", Rows.laid_gauge_fault_Twice) :: ("gauge/fault.Many", Rows.laid_gauge_fault_Many) :: ("gauge/fault.Times", Rows.laid_gauge_fault_Times) :: ("gauge/fault.Code", Rows.laid_gauge_fault_Code) :: ("gauge/fault.Sum", Rows.laid_gauge_fault_Sum) :: ("gauge/fault.Refer", Rows.laid_gauge_fault_Refer) :: ("gauge/fault.Stack", Rows.laid_gauge_fault_Stack) :: ("gauge/fault.Fuel", Rows.laid_gauge_fault_Fuel) :: r) W)
  (hh:W.cell? ⟨13,0,none⟩=some (.iface 209 (.agg #[.pointer (some ⟨20,46,none⟩)])))
  {m:Int} (hm:W.cell? ⟨14,0,none⟩=some (.int .i64 m)):∃A,Vars W A m:=by
 obtain⟨aLong,_,_,_,cLong,_,uLong,_,vLong,_,_,_,_,_,_,_,_,rLong,_⟩:=laid_sentinels2 h Zc6 Zbt ZcM Zbn Tryz.underlying46 rowE Tryz.underlying432 Tryz.underlying451 rfl rfl Tryz.underlying9 Zc2 Zc3
 obtain⟨aSyntax,_,_,_,cSyntax,_,uSyntax,_,vSyntax,_,_,_,_,_,_,_,_,rSyntax,_⟩:=laid_sentinels2 h.tail ZcM Zbn ZcH Zbs Tryz.underlying46 rowE Tryz.underlying432 Tryz.underlying451 rfl rfl Tryz.underlying9 Zc2 Zc3
 obtain⟨aDeep,_,_,_,cDeep,_,uDeep,_,vDeep,_,_,_,_,_,_,_,_,rDeep,_⟩:=laid_sentinels2 h.tail.tail ZcH Zbs ZcP Zbz Tryz.underlying46 rowE Tryz.underlying432 Tryz.underlying451 rfl rfl Tryz.underlying9 Zc2 Zc3
 obtain⟨aType,_,_,_,cType,_,uType,_,vType,_,_,_,_,_,_,_,_,rType,_⟩:=laid_sentinels2 h.tail.tail.tail ZcP Zbz ZcL ZbG Tryz.underlying46 rowE Tryz.underlying432 Tryz.underlying451 rfl rfl Tryz.underlying9 Zc2 Zc3
 obtain⟨aStore,_,_,_,cStore,_,uStore,_,vStore,_,_,_,_,_,_,_,_,rStore,_⟩:=laid_sentinels2 h.tail.tail.tail.tail ZcL ZbG ZcO ZbQ Tryz.underlying46 rowE Tryz.underlying432 Tryz.underlying451 rfl rfl Tryz.underlying9 Zc2 Zc3
 obtain⟨aTwice,_,_,_,cTwice,_,uTwice,_,vTwice,_,_,_,_,_,_,_,_,rTwice,_⟩:=laid_sentinels2 h.tail.tail.tail.tail.tail ZcO ZbQ ZcJ ZbW Tryz.underlying46 rowE Tryz.underlying432 Tryz.underlying451 rfl rfl Tryz.underlying9 Zc2 Zc3
 obtain⟨aMany,_,_,_,cMany,_,uMany,_,vMany,_,_,_,_,_,_,_,_,rMany,_⟩:=laid_sentinels2 h.tail.tail.tail.tail.tail.tail ZcJ ZbW ZcN Zb2 Tryz.underlying46 rowE Tryz.underlying432 Tryz.underlying451 rfl rfl Tryz.underlying9 Zc2 Zc3
 obtain⟨aTimes,_,_,_,cTimes,_,uTimes,_,vTimes,_,_,_,_,_,_,_,_,rTimes,_⟩:=laid_sentinels2 h.tail.tail.tail.tail.tail.tail.tail ZcN Zb2 ZcG Zdb Tryz.underlying46 rowE Tryz.underlying432 Tryz.underlying451 rfl rfl Tryz.underlying9 Zc2 Zc3
 obtain⟨aCode,_,_,_,cCode,_,uCode,_,vCode,_,_,_,_,_,_,_,_,rCode,_⟩:=laid_sentinels2 h.tail.tail.tail.tail.tail.tail.tail.tail ZcG Zdb gSum tSum Tryz.underlying46 rowE Tryz.underlying432 Tryz.underlying451 rfl rfl Tryz.underlying9 Zc2 Zc3
 obtain⟨aSum,_,_,_,cSum,_,uSum,_,vSum,_,_,_,_,_,_,_,_,rSum,_⟩:=laid_sentinels2 h.tail.tail.tail.tail.tail.tail.tail.tail.tail gSum tSum ZcK Zdd Tryz.underlying46 rowE Tryz.underlying432 Tryz.underlying451 rfl rfl Tryz.underlying9 Zc2 Zc3
 obtain⟨aRefer,_,_,_,cRefer,_,uRefer,_,vRefer,_,_,_,_,_,_,_,_,rRefer,_⟩:=laid_sentinels2 h.tail.tail.tail.tail.tail.tail.tail.tail.tail.tail ZcK Zdd Zcz ZcW Tryz.underlying46 rowE Tryz.underlying432 Tryz.underlying451 rfl rfl Tryz.underlying9 Zc2 Zc3
 obtain⟨aStack,_,_,_,cStack,_,uStack,_,vStack,_,_,_,_,_,_,_,_,rStack,_⟩:=laid_sentinels2 h.tail.tail.tail.tail.tail.tail.tail.tail.tail.tail.tail Zcz ZcW ZcI Zdc Tryz.underlying46 rowE Tryz.underlying432 Tryz.underlying451 rfl rfl Tryz.underlying9 Zc2 Zc3
 obtain⟨_,aFuel,_,_,_,cFuel,_,uFuel,_,vFuel,_,_,_,_,_,_,_,_,rFuel⟩:=laid_sentinels2 h.tail.tail.tail.tail.tail.tail.tail.tail.tail.tail.tail Zcz ZcW ZcI Zdc Tryz.underlying46 rowE Tryz.underlying432 Tryz.underlying451 rfl rfl Tryz.underlying9 Zc2 Zc3
 have nLongSyntax:=Zq h Zc6 Zbt ZcM Zbn vLong vSyntax
 have nLongDeep:=Zq (Za h) Zc6 Zbt ZcH Zbs vLong vDeep
 have nLongType:=Zq (Za (Za h)) Zc6 Zbt ZcP Zbz vLong vType
 have nLongStore:=Zq (Za (Za (Za h))) Zc6 Zbt ZcL ZbG vLong vStore
 have nLongTwice:=Zq (Za (Za (Za (Za h)))) Zc6 Zbt ZcO ZbQ vLong vTwice
 have nLongMany:=Zq (Za (Za (Za (Za (Za h))))) Zc6 Zbt ZcJ ZbW vLong vMany
 have nLongTimes:=Zq (Za (Za (Za (Za (Za (Za h)))))) Zc6 Zbt ZcN Zb2 vLong vTimes
 have nLongCode:=Zq (Za (Za (Za (Za (Za (Za (Za h))))))) Zc6 Zbt ZcG Zdb vLong vCode
 have nLongSum:=Zq (Za (Za (Za (Za (Za (Za (Za (Za h)))))))) Zc6 Zbt gSum tSum vLong vSum
 have nLongRefer:=Zq (Za (Za (Za (Za (Za (Za (Za (Za (Za h))))))))) Zc6 Zbt ZcK Zdd vLong vRefer
 have nLongStack:=Zq (Za (Za (Za (Za (Za (Za (Za (Za (Za (Za h)))))))))) Zc6 Zbt Zcz ZcW vLong vStack
 have nLongFuel:=Zq (Za (Za (Za (Za (Za (Za (Za (Za (Za (Za (Za h))))))))))) Zc6 Zbt ZcI Zdc vLong vFuel
 have nSyntaxDeep:=Zq h.tail ZcM Zbn ZcH Zbs vSyntax vDeep
 have nSyntaxType:=Zq (Za h.tail) ZcM Zbn ZcP Zbz vSyntax vType
 have nSyntaxStore:=Zq (Za (Za h.tail)) ZcM Zbn ZcL ZbG vSyntax vStore
 have nSyntaxTwice:=Zq (Za (Za (Za h.tail))) ZcM Zbn ZcO ZbQ vSyntax vTwice
 have nSyntaxMany:=Zq (Za (Za (Za (Za h.tail)))) ZcM Zbn ZcJ ZbW vSyntax vMany
 have nSyntaxTimes:=Zq (Za (Za (Za (Za (Za h.tail))))) ZcM Zbn ZcN Zb2 vSyntax vTimes
 have nSyntaxCode:=Zq (Za (Za (Za (Za (Za (Za h.tail)))))) ZcM Zbn ZcG Zdb vSyntax vCode
 have nSyntaxSum:=Zq (Za (Za (Za (Za (Za (Za (Za h.tail))))))) ZcM Zbn gSum tSum vSyntax vSum
 have nSyntaxRefer:=Zq (Za (Za (Za (Za (Za (Za (Za (Za h.tail)))))))) ZcM Zbn ZcK Zdd vSyntax vRefer
 have nSyntaxStack:=Zq (Za (Za (Za (Za (Za (Za (Za (Za (Za h.tail))))))))) ZcM Zbn Zcz ZcW vSyntax vStack
 have nSyntaxFuel:=Zq (Za (Za (Za (Za (Za (Za (Za (Za (Za (Za h.tail)))))))))) ZcM Zbn ZcI Zdc vSyntax vFuel
 have nDeepType:=Zq h.tail.tail ZcH Zbs ZcP Zbz vDeep vType
 have nDeepStore:=Zq (Za h.tail.tail) ZcH Zbs ZcL ZbG vDeep vStore
 have nDeepTwice:=Zq (Za (Za h.tail.tail)) ZcH Zbs ZcO ZbQ vDeep vTwice
 have nDeepMany:=Zq (Za (Za (Za h.tail.tail))) ZcH Zbs ZcJ ZbW vDeep vMany
 have nDeepTimes:=Zq (Za (Za (Za (Za h.tail.tail)))) ZcH Zbs ZcN Zb2 vDeep vTimes
 have nDeepCode:=Zq (Za (Za (Za (Za (Za h.tail.tail))))) ZcH Zbs ZcG Zdb vDeep vCode
 have nDeepSum:=Zq (Za (Za (Za (Za (Za (Za h.tail.tail)))))) ZcH Zbs gSum tSum vDeep vSum
 have nDeepRefer:=Zq (Za (Za (Za (Za (Za (Za (Za h.tail.tail))))))) ZcH Zbs ZcK Zdd vDeep vRefer
 have nDeepStack:=Zq (Za (Za (Za (Za (Za (Za (Za (Za h.tail.tail)))))))) ZcH Zbs Zcz ZcW vDeep vStack
 have nDeepFuel:=Zq (Za (Za (Za (Za (Za (Za (Za (Za (Za h.tail.tail))))))))) ZcH Zbs ZcI Zdc vDeep vFuel
 have nTypeStore:=Zq h.tail.tail.tail ZcP Zbz ZcL ZbG vType vStore
 have nTypeTwice:=Zq (Za h.tail.tail.tail) ZcP Zbz ZcO ZbQ vType vTwice
 have nTypeMany:=Zq (Za (Za h.tail.tail.tail)) ZcP Zbz ZcJ ZbW vType vMany
 have nTypeTimes:=Zq (Za (Za (Za h.tail.tail.tail))) ZcP Zbz ZcN Zb2 vType vTimes
 have nTypeCode:=Zq (Za (Za (Za (Za h.tail.tail.tail)))) ZcP Zbz ZcG Zdb vType vCode
 have nTypeSum:=Zq (Za (Za (Za (Za (Za h.tail.tail.tail))))) ZcP Zbz gSum tSum vType vSum
 have nTypeRefer:=Zq (Za (Za (Za (Za (Za (Za h.tail.tail.tail)))))) ZcP Zbz ZcK Zdd vType vRefer
 have nTypeStack:=Zq (Za (Za (Za (Za (Za (Za (Za h.tail.tail.tail))))))) ZcP Zbz Zcz ZcW vType vStack
 have nTypeFuel:=Zq (Za (Za (Za (Za (Za (Za (Za (Za h.tail.tail.tail)))))))) ZcP Zbz ZcI Zdc vType vFuel
 have nStoreTwice:=Zq h.tail.tail.tail.tail ZcL ZbG ZcO ZbQ vStore vTwice
 have nStoreMany:=Zq (Za h.tail.tail.tail.tail) ZcL ZbG ZcJ ZbW vStore vMany
 have nStoreTimes:=Zq (Za (Za h.tail.tail.tail.tail)) ZcL ZbG ZcN Zb2 vStore vTimes
 have nStoreCode:=Zq (Za (Za (Za h.tail.tail.tail.tail))) ZcL ZbG ZcG Zdb vStore vCode
 have nStoreSum:=Zq (Za (Za (Za (Za h.tail.tail.tail.tail)))) ZcL ZbG gSum tSum vStore vSum
 have nStoreRefer:=Zq (Za (Za (Za (Za (Za h.tail.tail.tail.tail))))) ZcL ZbG ZcK Zdd vStore vRefer
 have nStoreStack:=Zq (Za (Za (Za (Za (Za (Za h.tail.tail.tail.tail)))))) ZcL ZbG Zcz ZcW vStore vStack
 have nStoreFuel:=Zq (Za (Za (Za (Za (Za (Za (Za h.tail.tail.tail.tail))))))) ZcL ZbG ZcI Zdc vStore vFuel
 have nTwiceMany:=Zq h.tail.tail.tail.tail.tail ZcO ZbQ ZcJ ZbW vTwice vMany
 have nTwiceTimes:=Zq (Za h.tail.tail.tail.tail.tail) ZcO ZbQ ZcN Zb2 vTwice vTimes
 have nTwiceCode:=Zq (Za (Za h.tail.tail.tail.tail.tail)) ZcO ZbQ ZcG Zdb vTwice vCode
 have nTwiceSum:=Zq (Za (Za (Za h.tail.tail.tail.tail.tail))) ZcO ZbQ gSum tSum vTwice vSum
 have nTwiceRefer:=Zq (Za (Za (Za (Za h.tail.tail.tail.tail.tail)))) ZcO ZbQ ZcK Zdd vTwice vRefer
 have nTwiceStack:=Zq (Za (Za (Za (Za (Za h.tail.tail.tail.tail.tail))))) ZcO ZbQ Zcz ZcW vTwice vStack
 have nTwiceFuel:=Zq (Za (Za (Za (Za (Za (Za h.tail.tail.tail.tail.tail)))))) ZcO ZbQ ZcI Zdc vTwice vFuel
 have nManyTimes:=Zq h.tail.tail.tail.tail.tail.tail ZcJ ZbW ZcN Zb2 vMany vTimes
 have nManyCode:=Zq (Za h.tail.tail.tail.tail.tail.tail) ZcJ ZbW ZcG Zdb vMany vCode
 have nManySum:=Zq (Za (Za h.tail.tail.tail.tail.tail.tail)) ZcJ ZbW gSum tSum vMany vSum
 have nManyRefer:=Zq (Za (Za (Za h.tail.tail.tail.tail.tail.tail))) ZcJ ZbW ZcK Zdd vMany vRefer
 have nManyStack:=Zq (Za (Za (Za (Za h.tail.tail.tail.tail.tail.tail)))) ZcJ ZbW Zcz ZcW vMany vStack
 have nManyFuel:=Zq (Za (Za (Za (Za (Za h.tail.tail.tail.tail.tail.tail))))) ZcJ ZbW ZcI Zdc vMany vFuel
 have nTimesCode:=Zq h.tail.tail.tail.tail.tail.tail.tail ZcN Zb2 ZcG Zdb vTimes vCode
 have nTimesSum:=Zq (Za h.tail.tail.tail.tail.tail.tail.tail) ZcN Zb2 gSum tSum vTimes vSum
 have nTimesRefer:=Zq (Za (Za h.tail.tail.tail.tail.tail.tail.tail)) ZcN Zb2 ZcK Zdd vTimes vRefer
 have nTimesStack:=Zq (Za (Za (Za h.tail.tail.tail.tail.tail.tail.tail))) ZcN Zb2 Zcz ZcW vTimes vStack
 have nTimesFuel:=Zq (Za (Za (Za (Za h.tail.tail.tail.tail.tail.tail.tail)))) ZcN Zb2 ZcI Zdc vTimes vFuel
 have nCodeSum:=Zq h.tail.tail.tail.tail.tail.tail.tail.tail ZcG Zdb gSum tSum vCode vSum
 have nCodeRefer:=Zq (Za h.tail.tail.tail.tail.tail.tail.tail.tail) ZcG Zdb ZcK Zdd vCode vRefer
 have nCodeStack:=Zq (Za (Za h.tail.tail.tail.tail.tail.tail.tail.tail)) ZcG Zdb Zcz ZcW vCode vStack
 have nCodeFuel:=Zq (Za (Za (Za h.tail.tail.tail.tail.tail.tail.tail.tail))) ZcG Zdb ZcI Zdc vCode vFuel
 have nSumRefer:=Zq h.tail.tail.tail.tail.tail.tail.tail.tail.tail gSum tSum ZcK Zdd vSum vRefer
 have nSumStack:=Zq (Za h.tail.tail.tail.tail.tail.tail.tail.tail.tail) gSum tSum Zcz ZcW vSum vStack
 have nSumFuel:=Zq (Za (Za h.tail.tail.tail.tail.tail.tail.tail.tail.tail)) gSum tSum ZcI Zdc vSum vFuel
 have nReferStack:=Zq h.tail.tail.tail.tail.tail.tail.tail.tail.tail.tail ZcK Zdd Zcz ZcW vRefer vStack
 have nReferFuel:=Zq (Za h.tail.tail.tail.tail.tail.tail.tail.tail.tail.tail) ZcK Zdd ZcI Zdc vRefer vFuel
 have nStackFuel:=Zq h.tail.tail.tail.tail.tail.tail.tail.tail.tail.tail.tail Zcz ZcW ZcI Zdc vStack vFuel
 refine⟨Zc aLong aSyntax aDeep aType aStore aTwice aMany aTimes aCode aSum aRefer aStack aFuel,hm,?_,?_,?_,hh⟩
 ·intro g hg
  simp only[sents,List.mem_cons,List.mem_nil_iff,or_false]at hg
  rcases hg with rfl|rfl|rfl|rfl|rfl|rfl|rfl|rfl|rfl|rfl|rfl|rfl|rfl
  ·simpa [Zc] using World.var?_cell Zc6 vLong 0
  ·simpa [Zc] using World.var?_cell ZcM vSyntax 0
  ·simpa [Zc] using World.var?_cell ZcH vDeep 0
  ·simpa [Zc] using World.var?_cell ZcP vType 0
  ·simpa [Zc] using World.var?_cell ZcL vStore 0
  ·simpa [Zc] using World.var?_cell ZcO vTwice 0
  ·simpa [Zc] using World.var?_cell ZcJ vMany 0
  ·simpa [Zc] using World.var?_cell ZcN vTimes 0
  ·simpa [Zc] using World.var?_cell ZcG vCode 0
  ·simpa [Zc] using World.var?_cell gSum vSum 0
  ·simpa [Zc] using World.var?_cell ZcK vRefer 0
  ·simpa [Zc] using World.var?_cell Zcz vStack 0
  ·simpa [Zc] using World.var?_cell ZcI vFuel 0
 ·intro g hg g' hg' hne
  simp only[sents,List.mem_cons,List.mem_nil_iff,or_false]at hg hg'
  rcases hg with rfl|rfl|rfl|rfl|rfl|rfl|rfl|rfl|rfl|rfl|rfl|rfl|rfl <;> rcases hg' with rfl|rfl|rfl|rfl|rfl|rfl|rfl|rfl|rfl|rfl|rfl|rfl|rfl
  all_goals first|exact absurd rfl hne|skip
  ·simpa [Zc] using nLongSyntax
  ·simpa [Zc] using nLongDeep
  ·simpa [Zc] using nLongType
  ·simpa [Zc] using nLongStore
  ·simpa [Zc] using nLongTwice
  ·simpa [Zc] using nLongMany
  ·simpa [Zc] using nLongTimes
  ·simpa [Zc] using nLongCode
  ·simpa [Zc] using nLongSum
  ·simpa [Zc] using nLongRefer
  ·simpa [Zc] using nLongStack
  ·simpa [Zc] using nLongFuel
  ·simpa [Zc] using nLongSyntax.symm
  ·simpa [Zc] using nSyntaxDeep
  ·simpa [Zc] using nSyntaxType
  ·simpa [Zc] using nSyntaxStore
  ·simpa [Zc] using nSyntaxTwice
  ·simpa [Zc] using nSyntaxMany
  ·simpa [Zc] using nSyntaxTimes
  ·simpa [Zc] using nSyntaxCode
  ·simpa [Zc] using nSyntaxSum
  ·simpa [Zc] using nSyntaxRefer
  ·simpa [Zc] using nSyntaxStack
  ·simpa [Zc] using nSyntaxFuel
  ·simpa [Zc] using nLongDeep.symm
  ·simpa [Zc] using nSyntaxDeep.symm
  ·simpa [Zc] using nDeepType
  ·simpa [Zc] using nDeepStore
  ·simpa [Zc] using nDeepTwice
  ·simpa [Zc] using nDeepMany
  ·simpa [Zc] using nDeepTimes
  ·simpa [Zc] using nDeepCode
  ·simpa [Zc] using nDeepSum
  ·simpa [Zc] using nDeepRefer
  ·simpa [Zc] using nDeepStack
  ·simpa [Zc] using nDeepFuel
  ·simpa [Zc] using nLongType.symm
  ·simpa [Zc] using nSyntaxType.symm
  ·simpa [Zc] using nDeepType.symm
  ·simpa [Zc] using nTypeStore
  ·simpa [Zc] using nTypeTwice
  ·simpa [Zc] using nTypeMany
  ·simpa [Zc] using nTypeTimes
  ·simpa [Zc] using nTypeCode
  ·simpa [Zc] using nTypeSum
  ·simpa [Zc] using nTypeRefer
  ·simpa [Zc] using nTypeStack
  ·simpa [Zc] using nTypeFuel
  ·simpa [Zc] using nLongStore.symm
  ·simpa [Zc] using nSyntaxStore.symm
  ·simpa [Zc] using nDeepStore.symm
  ·simpa [Zc] using nTypeStore.symm
  ·simpa [Zc] using nStoreTwice
  ·simpa [Zc] using nStoreMany
  ·simpa [Zc] using nStoreTimes
  ·simpa [Zc] using nStoreCode
  ·simpa [Zc] using nStoreSum
  ·simpa [Zc] using nStoreRefer
  ·simpa [Zc] using nStoreStack
  ·simpa [Zc] using nStoreFuel
  ·simpa [Zc] using nLongTwice.symm
  ·simpa [Zc] using nSyntaxTwice.symm
  ·simpa [Zc] using nDeepTwice.symm
  ·simpa [Zc] using nTypeTwice.symm
  ·simpa [Zc] using nStoreTwice.symm
  ·simpa [Zc] using nTwiceMany
  ·simpa [Zc] using nTwiceTimes
  ·simpa [Zc] using nTwiceCode
  ·simpa [Zc] using nTwiceSum
  ·simpa [Zc] using nTwiceRefer
  ·simpa [Zc] using nTwiceStack
  ·simpa [Zc] using nTwiceFuel
  ·simpa [Zc] using nLongMany.symm
  ·simpa [Zc] using nSyntaxMany.symm
  ·simpa [Zc] using nDeepMany.symm
  ·simpa [Zc] using nTypeMany.symm
  ·simpa [Zc] using nStoreMany.symm
  ·simpa [Zc] using nTwiceMany.symm
  ·simpa [Zc] using nManyTimes
  ·simpa [Zc] using nManyCode
  ·simpa [Zc] using nManySum
  ·simpa [Zc] using nManyRefer
  ·simpa [Zc] using nManyStack
  ·simpa [Zc] using nManyFuel
  ·simpa [Zc] using nLongTimes.symm
  ·simpa [Zc] using nSyntaxTimes.symm
  ·simpa [Zc] using nDeepTimes.symm
  ·simpa [Zc] using nTypeTimes.symm
  ·simpa [Zc] using nStoreTimes.symm
  ·simpa [Zc] using nTwiceTimes.symm
  ·simpa [Zc] using nManyTimes.symm
  ·simpa [Zc] using nTimesCode
  ·simpa [Zc] using nTimesSum
  ·simpa [Zc] using nTimesRefer
  ·simpa [Zc] using nTimesStack
  ·simpa [Zc] using nTimesFuel
  ·simpa [Zc] using nLongCode.symm
  ·simpa [Zc] using nSyntaxCode.symm
  ·simpa [Zc] using nDeepCode.symm
  ·simpa [Zc] using nTypeCode.symm
  ·simpa [Zc] using nStoreCode.symm
  ·simpa [Zc] using nTwiceCode.symm
  ·simpa [Zc] using nManyCode.symm
  ·simpa [Zc] using nTimesCode.symm
  ·simpa [Zc] using nCodeSum
  ·simpa [Zc] using nCodeRefer
  ·simpa [Zc] using nCodeStack
  ·simpa [Zc] using nCodeFuel
  ·simpa [Zc] using nLongSum.symm
  ·simpa [Zc] using nSyntaxSum.symm
  ·simpa [Zc] using nDeepSum.symm
  ·simpa [Zc] using nTypeSum.symm
  ·simpa [Zc] using nStoreSum.symm
  ·simpa [Zc] using nTwiceSum.symm
  ·simpa [Zc] using nManySum.symm
  ·simpa [Zc] using nTimesSum.symm
  ·simpa [Zc] using nCodeSum.symm
  ·simpa [Zc] using nSumRefer
  ·simpa [Zc] using nSumStack
  ·simpa [Zc] using nSumFuel
  ·simpa [Zc] using nLongRefer.symm
  ·simpa [Zc] using nSyntaxRefer.symm
  ·simpa [Zc] using nDeepRefer.symm
  ·simpa [Zc] using nTypeRefer.symm
  ·simpa [Zc] using nStoreRefer.symm
  ·simpa [Zc] using nTwiceRefer.symm
  ·simpa [Zc] using nManyRefer.symm
  ·simpa [Zc] using nTimesRefer.symm
  ·simpa [Zc] using nCodeRefer.symm
  ·simpa [Zc] using nSumRefer.symm
  ·simpa [Zc] using nReferStack
  ·simpa [Zc] using nReferFuel
  ·simpa [Zc] using nLongStack.symm
  ·simpa [Zc] using nSyntaxStack.symm
  ·simpa [Zc] using nDeepStack.symm
  ·simpa [Zc] using nTypeStack.symm
  ·simpa [Zc] using nStoreStack.symm
  ·simpa [Zc] using nTwiceStack.symm
  ·simpa [Zc] using nManyStack.symm
  ·simpa [Zc] using nTimesStack.symm
  ·simpa [Zc] using nCodeStack.symm
  ·simpa [Zc] using nSumStack.symm
  ·simpa [Zc] using nReferStack.symm
  ·simpa [Zc] using nStackFuel
  ·simpa [Zc] using nLongFuel.symm
  ·simpa [Zc] using nSyntaxFuel.symm
  ·simpa [Zc] using nDeepFuel.symm
  ·simpa [Zc] using nTypeFuel.symm
  ·simpa [Zc] using nStoreFuel.symm
  ·simpa [Zc] using nTwiceFuel.symm
  ·simpa [Zc] using nManyFuel.symm
  ·simpa [Zc] using nTimesFuel.symm
  ·simpa [Zc] using nCodeFuel.symm
  ·simpa [Zc] using nSumFuel.symm
  ·simpa [Zc] using nReferFuel.symm
  ·simpa [Zc] using nStackFuel.symm
 ·intro g hg
  simp only[sents,List.mem_cons,List.mem_nil_iff,or_false]at hg
  rcases hg with rfl|rfl|rfl|rfl|rfl|rfl|rfl|rfl|rfl|rfl|rfl|rfl|rfl
  ·exact⟨cLong,uLong,by simpa [Zc] using rLong⟩
  ·exact⟨cSyntax,uSyntax,by simpa [Zc] using rSyntax⟩
  ·exact⟨cDeep,uDeep,by simpa [Zc] using rDeep⟩
  ·exact⟨cType,uType,by simpa [Zc] using rType⟩
  ·exact⟨cStore,uStore,by simpa [Zc] using rStore⟩
  ·exact⟨cTwice,uTwice,by simpa [Zc] using rTwice⟩
  ·exact⟨cMany,uMany,by simpa [Zc] using rMany⟩
  ·exact⟨cTimes,uTimes,by simpa [Zc] using rTimes⟩
  ·exact⟨cCode,uCode,by simpa [Zc] using rCode⟩
  ·exact⟨cSum,uSum,by simpa [Zc] using rSum⟩
  ·exact⟨cRefer,uRefer,by simpa [Zc] using rRefer⟩
  ·exact⟨cStack,uStack,by simpa [Zc] using rStack⟩
  ·exact⟨cFuel,uFuel,by simpa [Zc] using rFuel⟩
end Go.Proofs.YtcdgkkfipdoeeaaGreatDoor

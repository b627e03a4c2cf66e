/- Parts. -/
import Derived.Test.YtkodhpilkaihjaaGreatDoorRows
import Derived.Test.YtkodhpilkaihjaaGreatDoorF00
import Derived.ProofKit
import Derived.LaidLaws
import Derived.LaidHandle
import Derived.Stop.LaidTwo
import Derived.Shelf.Vars
import Derived.Lay
set_option maxHeartbeats 2000000
namespace Go.Proofs.YtkodhpilkaihjaaGreatDoor
open Go.ChangeShapes Go.WideShapes Go.ChangeAt Go.RowKit LS
theorem Za{P:Program}{x y:String×DataW Unit}{r:List (String×DataW Unit)}{w:World}(h:laidMet P (x::y::r) w):laidMet P (x::r) w:=by
 obtain⟨n,d⟩:=x
 obtain⟨n',d'⟩:=y
 obtain⟨ps,⟨g,t,cs,f,p,q,h1,h2,h3,h4,⟨g',t',cs',f',p',q',k1,k2,k3,k4,k5,e'⟩,e⟩,hnd,hr⟩:=h
 subst e'
 have hsub:(MemPlace.row ⟨g,0,none⟩ cs.size++p++q').Sublist ps:=by
  rw[e];exact List.Sublist.append (List.Sublist.refl _) (List.sublist_append_right _ _)
 exact⟨_,⟨g,t,cs,f,p,q',h1,h2,h3,h4,k5,rfl⟩,hnd.sublist hsub,fun b off hm=>hr b off (hsub.mem hm)⟩
theorem own:ownKnob Tryz.prog.godebug=none:=by kernel_rfl
theorem Zc1 : Tryz.prog.globalNamed "gauge/fault.Long" = some 0 := by kernel_rfl
theorem ZX:(Tryz.prog.globals[0]?).map (·.type)=some 60:=by kernel_rfl
theorem ZcK : Tryz.prog.globalNamed "gauge/fault.Syntax" = some 1 := by kernel_rfl
theorem ZR:(Tryz.prog.globals[1]?).map (·.type)=some 60:=by kernel_rfl
theorem ZcF : Tryz.prog.globalNamed "gauge/fault.Deep" = some 2 := by kernel_rfl
theorem ZW:(Tryz.prog.globals[2]?).map (·.type)=some 60:=by kernel_rfl
theorem ZcN : Tryz.prog.globalNamed "gauge/fault.Type" = some 3 := by kernel_rfl
theorem Z1:(Tryz.prog.globals[3]?).map (·.type)=some 60:=by kernel_rfl
theorem ZcJ : Tryz.prog.globalNamed "gauge/fault.Store" = some 4 := by kernel_rfl
theorem Z2:(Tryz.prog.globals[4]?).map (·.type)=some 60:=by kernel_rfl
theorem ZcM : Tryz.prog.globalNamed "gauge/fault.Twice" = some 5 := by kernel_rfl
theorem Z5:(Tryz.prog.globals[5]?).map (·.type)=some 60:=by kernel_rfl
theorem ZcH : Tryz.prog.globalNamed "gauge/fault.Many" = some 6 := by kernel_rfl
theorem Z9:(Tryz.prog.globals[6]?).map (·.type)=some 60:=by kernel_rfl
theorem ZcL : Tryz.prog.globalNamed "gauge/fault.Times" = some 7 := by kernel_rfl
theorem Zbb:(Tryz.prog.globals[7]?).map (·.type)=some 60:=by kernel_rfl
theorem ZcE : Tryz.prog.globalNamed "gauge/fault.Code" = some 8 := by kernel_rfl
theorem Zbe:(Tryz.prog.globals[8]?).map (·.type)=some 60:=by kernel_rfl
theorem gSum : Tryz.prog.globalNamed "gauge/fault.Sum" = some 9 := by kernel_rfl
theorem tSum:(Tryz.prog.globals[9]?).map (·.type)=some 60:=by kernel_rfl
theorem ZcI : Tryz.prog.globalNamed "gauge/fault.Refer" = some 10 := by kernel_rfl
theorem Zbl:(Tryz.prog.globals[10]?).map (·.type)=some 60:=by kernel_rfl
theorem Zcv : Tryz.prog.globalNamed "gauge/fault.Stack" = some 11 := by kernel_rfl
theorem Zbm:(Tryz.prog.globals[11]?).map (·.type)=some 60:=by kernel_rfl
theorem ZcG : Tryz.prog.globalNamed "gauge/fault.Fuel" = some 12 := by kernel_rfl
theorem Zbr:(Tryz.prog.globals[12]?).map (·.type)=some 60:=by kernel_rfl
theorem Zpv : Tryz.prog.globalNamed "errors.errorType" = some 13 := by kernel_rfl
theorem Zt0 : (Tryz.prog.cutTypes.find? (·.1 == "internal/reflectlite.rtype")).map (·.2) = some 316 := by kernel_rfl
theorem Zsw:((List.range 520).filter fun t=>Tryz.prog.rowNamed t [101,114,114,111,114])=[60]:=by kernel_rfl
theorem Zsg:Tryz.prog.types.size=520:=by kernel_rfl
theorem rowE (u : TypeId) (h : Tryz.prog.typeName? 3 u = some "*errors.errorString") : u = 491 :=
 typeName_ptr_named (nm := "errors.errorString") (by kernel_rfl) (by kernel_rfl) (by decide) u h
theorem ZcZ:Tryz.prog.cellsOf 509=1:=by kernel_rfl
theorem Zc0:Tryz.prog.cellsOf 9=1:=by kernel_rfl
theorem ZpP {W : World} {l : List (String × DataW Unit)} (h : handlesMet Tryz.prog (("errors.errorType", Rows.laid_errors_errorType) :: l) W) : W.cell? ⟨13, 0, none⟩ = some (.iface 316 (.agg #[.pointer (some ⟨20, 60, none⟩)])) := by
 obtain⟨name,u,ty,e1,e2,e3,e4,e5⟩:=h _ (List.mem_cons_self ..)
 have en:name=[101,114,114,111,114]:=(Option.some.inj e1).symm
 subst en
 obtain rfl:=Option.some.inj (Zt0.symm.trans e2)
 have hm:ty∈(List.range 520).filter fun t=>Tryz.prog.rowNamed t [101,114,114,111,114]:=List.mem_filter.2 ⟨List.mem_range.2 (by rw[<-Zsg];exact e3),e4⟩
 rw[Zsw]at hm
 obtain rfl:=List.mem_singleton.1 hm
 have hh:typeHandle Tryz.prog 60=.pointer (some ⟨20,60,none⟩):=by kernel_rfl
 rw[hh]at e5
 simpa using World.var?_cell Zpv e5 0
theorem Zmp{W:World}{n:String}{t:TypeId}{a b:Addr}(h:W.var? Tryz.prog n=some #[.iface t (.pointer (some a))])(k:W.var? Tryz.prog n=some #[.iface t (.pointer (some b))]):a=b:=by
 rw[h]at k;simpa using k
def Zb(aLong aSyntax aDeep aType aStore aTwice aMany aTimes aCode aSum aRefer aStack aFuel:Addr):Nat->Addr:=fun g=>
 if g=0 then aLong else if g=1 then aSyntax else if g=2 then aDeep else if g=3 then aType else if g=4 then aStore else if g=5 then aTwice else if g=6 then aMany else if g=7 then aTimes else if g=8 then aCode else if g=9 then aSum else if g=10 then aRefer else if g=11 then aStack else aFuel
theorem Zi {n0 n1 : String} {t0 t1 : List UInt8} {r : List (String × DataW Unit)} {W : World} {g0 g1 : Nat} {a b : Addr} (h : laidMet Tryz.prog ((n0, .iface "*errors.errorString" (.ptr (.agg [.lit (.string t0)]))) :: (n1, .iface "*errors.errorString" (.ptr (.agg [.lit (.string t1)]))) :: r) W)
  (hg0:Tryz.prog.globalNamed n0=some g0) (ht0:(Tryz.prog.globals[g0]?).map (·.type)=some 60) (hg1:Tryz.prog.globalNamed n1=some g1) (ht1:(Tryz.prog.globals[g1]?).map (·.type)=some 60)
  (va:W.var? Tryz.prog n0=some #[.iface 491 (.pointer (some a))]) (vb:W.var? Tryz.prog n1=some #[.iface 491 (.pointer (some b))]):a≠b:=by
 obtain⟨x,y,_,_,_,_,_,_,hx,hy,_,_,_,_,_,_,hne,_,_⟩:=laid_sentinels2 h hg0 ht0 hg1 ht1 Tryz.underlying60 rowE Tryz.underlying491 Tryz.underlying509 rfl rfl Tryz.underlying9 ZcZ Zc0
 rw[Zmp va hx,Zmp vb hy];exact hne
theorem ZvS {W : World} {r : List (String × DataW Unit)} (h : laidMet Tryz.prog (("gauge/fault.Long", Rows.laid_gauge_fault_Long) :: ("gauge/fault.Syntax", Rows.laid_gauge_fault_Syntax) :: ("gauge/fault.Deep", Rows.laid_gauge_fault_Deep) :: ("gauge/fault.Type", Rows.laid_gauge_fault_Type) :: ("gauge/fault.Store", Rows.laid_gauge_fault_Store) :: ("gauge/fault.Twice", Rows.laid_gauge_fault_Twice) :: ("gauge/fault.Many", Rows.laid_gauge_fault_Many) :: ("gauge/fault.Times", Rows.laid_gauge_fault_Times) :: ("gauge/fault.Code", Rows.laid_gauge_fault_Code) :: ("gauge/fault.Sum", Rows.laid_gauge_fault_Sum) :: ("gauge/fault.Refer", Rows.laid_gauge_fault_Refer) :: ("gauge/fault.Stack", Rows.laid_gauge_fault_Stack) :: ("gauge/fault.Fuel", Rows.laid_gauge_fault_Fuel) :: r) W)
  (hh:W.cell? ⟨13,0,none⟩=some (.iface 316 (.agg #[.pointer (some ⟨20,60,none⟩)])))
  {m:Int} (hm:W.cell? ⟨14,0,none⟩=some (.int .i64 m)):∃A,Vars W A m:=by
 obtain⟨aLong,_,_,_,cLong,_,uLong,_,vLong,_,_,_,_,_,_,_,_,rLong,_⟩:=laid_sentinels2 h Zc1 ZX ZcK ZR Tryz.underlying60 rowE Tryz.underlying491 Tryz.underlying509 rfl rfl Tryz.underlying9 ZcZ Zc0
 obtain⟨aSyntax,_,_,_,cSyntax,_,uSyntax,_,vSyntax,_,_,_,_,_,_,_,_,rSyntax,_⟩:=laid_sentinels2 h.tail ZcK ZR ZcF ZW Tryz.underlying60 rowE Tryz.underlying491 Tryz.underlying509 rfl rfl Tryz.underlying9 ZcZ Zc0
 obtain⟨aDeep,_,_,_,cDeep,_,uDeep,_,vDeep,_,_,_,_,_,_,_,_,rDeep,_⟩:=laid_sentinels2 h.tail.tail ZcF ZW ZcN Z1 Tryz.underlying60 rowE Tryz.underlying491 Tryz.underlying509 rfl rfl Tryz.underlying9 ZcZ Zc0
 obtain⟨aType,_,_,_,cType,_,uType,_,vType,_,_,_,_,_,_,_,_,rType,_⟩:=laid_sentinels2 h.tail.tail.tail ZcN Z1 ZcJ Z2 Tryz.underlying60 rowE Tryz.underlying491 Tryz.underlying509 rfl rfl Tryz.underlying9 ZcZ Zc0
 obtain⟨aStore,_,_,_,cStore,_,uStore,_,vStore,_,_,_,_,_,_,_,_,rStore,_⟩:=laid_sentinels2 h.tail.tail.tail.tail ZcJ Z2 ZcM Z5 Tryz.underlying60 rowE Tryz.underlying491 Tryz.underlying509 rfl rfl Tryz.underlying9 ZcZ Zc0
 obtain⟨aTwice,_,_,_,cTwice,_,uTwice,_,vTwice,_,_,_,_,_,_,_,_,rTwice,_⟩:=laid_sentinels2 h.tail.tail.tail.tail.tail ZcM Z5 ZcH Z9 Tryz.underlying60 rowE Tryz.underlying491 Tryz.underlying509 rfl rfl Tryz.underlying9 ZcZ Zc0
 obtain⟨aMany,_,_,_,cMany,_,uMany,_,vMany,_,_,_,_,_,_,_,_,rMany,_⟩:=laid_sentinels2 h.tail.tail.tail.tail.tail.tail ZcH Z9 ZcL Zbb Tryz.underlying60 rowE Tryz.underlying491 Tryz.underlying509 rfl rfl Tryz.underlying9 ZcZ Zc0
 obtain⟨aTimes,_,_,_,cTimes,_,uTimes,_,vTimes,_,_,_,_,_,_,_,_,rTimes,_⟩:=laid_sentinels2 h.tail.tail.tail.tail.tail.tail.tail ZcL Zbb ZcE Zbe Tryz.underlying60 rowE Tryz.underlying491 Tryz.underlying509 rfl rfl Tryz.underlying9 ZcZ Zc0
 obtain⟨aCode,_,_,_,cCode,_,uCode,_,vCode,_,_,_,_,_,_,_,_,rCode,_⟩:=laid_sentinels2 h.tail.tail.tail.tail.tail.tail.tail.tail ZcE Zbe gSum tSum Tryz.underlying60 rowE Tryz.underlying491 Tryz.underlying509 rfl rfl Tryz.underlying9 ZcZ Zc0
 obtain⟨aSum,_,_,_,cSum,_,uSum,_,vSum,_,_,_,_,_,_,_,_,rSum,_⟩:=laid_sentinels2 h.tail.tail.tail.tail.tail.tail.tail.tail.tail gSum tSum ZcI Zbl Tryz.underlying60 rowE Tryz.underlying491 Tryz.underlying509 rfl rfl Tryz.underlying9 ZcZ Zc0
 obtain⟨aRefer,_,_,_,cRefer,_,uRefer,_,vRefer,_,_,_,_,_,_,_,_,rRefer,_⟩:=laid_sentinels2 h.tail.tail.tail.tail.tail.tail.tail.tail.tail.tail ZcI Zbl Zcv Zbm Tryz.underlying60 rowE Tryz.underlying491 Tryz.underlying509 rfl rfl Tryz.underlying9 ZcZ Zc0
 obtain⟨aStack,_,_,_,cStack,_,uStack,_,vStack,_,_,_,_,_,_,_,_,rStack,_⟩:=laid_sentinels2 h.tail.tail.tail.tail.tail.tail.tail.tail.tail.tail.tail Zcv Zbm ZcG Zbr Tryz.underlying60 rowE Tryz.underlying491 Tryz.underlying509 rfl rfl Tryz.underlying9 ZcZ Zc0
 obtain⟨_,aFuel,_,_,_,cFuel,_,uFuel,_,vFuel,_,_,_,_,_,_,_,_,rFuel⟩:=laid_sentinels2 h.tail.tail.tail.tail.tail.tail.tail.tail.tail.tail.tail Zcv Zbm ZcG Zbr Tryz.underlying60 rowE Tryz.underlying491 Tryz.underlying509 rfl rfl Tryz.underlying9 ZcZ Zc0
 have nLongSyntax:=Zi h Zc1 ZX ZcK ZR vLong vSyntax
 have nLongDeep:=Zi (Za h) Zc1 ZX ZcF ZW vLong vDeep
 have nLongType:=Zi (Za (Za h)) Zc1 ZX ZcN Z1 vLong vType
 have nLongStore:=Zi (Za (Za (Za h))) Zc1 ZX ZcJ Z2 vLong vStore
 have nLongTwice:=Zi (Za (Za (Za (Za h)))) Zc1 ZX ZcM Z5 vLong vTwice
 have nLongMany:=Zi (Za (Za (Za (Za (Za h))))) Zc1 ZX ZcH Z9 vLong vMany
 have nLongTimes:=Zi (Za (Za (Za (Za (Za (Za h)))))) Zc1 ZX ZcL Zbb vLong vTimes
 have nLongCode:=Zi (Za (Za (Za (Za (Za (Za (Za h))))))) Zc1 ZX ZcE Zbe vLong vCode
 have nLongSum:=Zi (Za (Za (Za (Za (Za (Za (Za (Za h)))))))) Zc1 ZX gSum tSum vLong vSum
 have nLongRefer:=Zi (Za (Za (Za (Za (Za (Za (Za (Za (Za h))))))))) Zc1 ZX ZcI Zbl vLong vRefer
 have nLongStack:=Zi (Za (Za (Za (Za (Za (Za (Za (Za (Za (Za h)))))))))) Zc1 ZX Zcv Zbm vLong vStack
 have nLongFuel:=Zi (Za (Za (Za (Za (Za (Za (Za (Za (Za (Za (Za h))))))))))) Zc1 ZX ZcG Zbr vLong vFuel
 have nSyntaxDeep:=Zi h.tail ZcK ZR ZcF ZW vSyntax vDeep
 have nSyntaxType:=Zi (Za h.tail) ZcK ZR ZcN Z1 vSyntax vType
 have nSyntaxStore:=Zi (Za (Za h.tail)) ZcK ZR ZcJ Z2 vSyntax vStore
 have nSyntaxTwice:=Zi (Za (Za (Za h.tail))) ZcK ZR ZcM Z5 vSyntax vTwice
 have nSyntaxMany:=Zi (Za (Za (Za (Za h.tail)))) ZcK ZR ZcH Z9 vSyntax vMany
 have nSyntaxTimes:=Zi (Za (Za (Za (Za (Za h.tail))))) ZcK ZR ZcL Zbb vSyntax vTimes
 have nSyntaxCode:=Zi (Za (Za (Za (Za (Za (Za h.tail)))))) ZcK ZR ZcE Zbe vSyntax vCode
 have nSyntaxSum:=Zi (Za (Za (Za (Za (Za (Za (Za h.tail))))))) ZcK ZR gSum tSum vSyntax vSum
 have nSyntaxRefer:=Zi (Za (Za (Za (Za (Za (Za (Za (Za h.tail)))))))) ZcK ZR ZcI Zbl vSyntax vRefer
 have nSyntaxStack:=Zi (Za (Za (Za (Za (Za (Za (Za (Za (Za h.tail))))))))) ZcK ZR Zcv Zbm vSyntax vStack
 have nSyntaxFuel:=Zi (Za (Za (Za (Za (Za (Za (Za (Za (Za (Za h.tail)))))))))) ZcK ZR ZcG Zbr vSyntax vFuel
 have nDeepType:=Zi h.tail.tail ZcF ZW ZcN Z1 vDeep vType
 have nDeepStore:=Zi (Za h.tail.tail) ZcF ZW ZcJ Z2 vDeep vStore
 have nDeepTwice:=Zi (Za (Za h.tail.tail)) ZcF ZW ZcM Z5 vDeep vTwice
 have nDeepMany:=Zi (Za (Za (Za h.tail.tail))) ZcF ZW ZcH Z9 vDeep vMany
 have nDeepTimes:=Zi (Za (Za (Za (Za h.tail.tail)))) ZcF ZW ZcL Zbb vDeep vTimes
 have nDeepCode:=Zi (Za (Za (Za (Za (Za h.tail.tail))))) ZcF ZW ZcE Zbe vDeep vCode
 have nDeepSum:=Zi (Za (Za (Za (Za (Za (Za h.tail.tail)))))) ZcF ZW gSum tSum vDeep vSum
 have nDeepRefer:=Zi (Za (Za (Za (Za (Za (Za (Za h.tail.tail))))))) ZcF ZW ZcI Zbl vDeep vRefer
 have nDeepStack:=Zi (Za (Za (Za (Za (Za (Za (Za (Za h.tail.tail)))))))) ZcF ZW Zcv Zbm vDeep vStack
 have nDeepFuel:=Zi (Za (Za (Za (Za (Za (Za (Za (Za (Za h.tail.tail))))))))) ZcF ZW ZcG Zbr vDeep vFuel
 have nTypeStore:=Zi h.tail.tail.tail ZcN Z1 ZcJ Z2 vType vStore
 have nTypeTwice:=Zi (Za h.tail.tail.tail) ZcN Z1 ZcM Z5 vType vTwice
 have nTypeMany:=Zi (Za (Za h.tail.tail.tail)) ZcN Z1 ZcH Z9 vType vMany
 have nTypeTimes:=Zi (Za (Za (Za h.tail.tail.tail))) ZcN Z1 ZcL Zbb vType vTimes
 have nTypeCode:=Zi (Za (Za (Za (Za h.tail.tail.tail)))) ZcN Z1 ZcE Zbe vType vCode
 have nTypeSum:=Zi (Za (Za (Za (Za (Za h.tail.tail.tail))))) ZcN Z1 gSum tSum vType vSum
 have nTypeRefer:=Zi (Za (Za (Za (Za (Za (Za h.tail.tail.tail)))))) ZcN Z1 ZcI Zbl vType vRefer
 have nTypeStack:=Zi (Za (Za (Za (Za (Za (Za (Za h.tail.tail.tail))))))) ZcN Z1 Zcv Zbm vType vStack
 have nTypeFuel:=Zi (Za (Za (Za (Za (Za (Za (Za (Za h.tail.tail.tail)))))))) ZcN Z1 ZcG Zbr vType vFuel
 have nStoreTwice:=Zi h.tail.tail.tail.tail ZcJ Z2 ZcM Z5 vStore vTwice
 have nStoreMany:=Zi (Za h.tail.tail.tail.tail) ZcJ Z2 ZcH Z9 vStore vMany
 have nStoreTimes:=Zi (Za (Za h.tail.tail.tail.tail)) ZcJ Z2 ZcL Zbb vStore vTimes
 have nStoreCode:=Zi (Za (Za (Za h.tail.tail.tail.tail))) ZcJ Z2 ZcE Zbe vStore vCode
 have nStoreSum:=Zi (Za (Za (Za (Za h.tail.tail.tail.tail)))) ZcJ Z2 gSum tSum vStore vSum
 have nStoreRefer:=Zi (Za (Za (Za (Za (Za h.tail.tail.tail.tail))))) ZcJ Z2 ZcI Zbl vStore vRefer
 have nStoreStack:=Zi (Za (Za (Za (Za (Za (Za h.tail.tail.tail.tail)))))) ZcJ Z2 Zcv Zbm vStore vStack
 have nStoreFuel:=Zi (Za (Za (Za (Za (Za (Za (Za h.tail.tail.tail.tail))))))) ZcJ Z2 ZcG Zbr vStore vFuel
 have nTwiceMany:=Zi h.tail.tail.tail.tail.tail ZcM Z5 ZcH Z9 vTwice vMany
 have nTwiceTimes:=Zi (Za h.tail.tail.tail.tail.tail) ZcM Z5 ZcL Zbb vTwice vTimes
 have nTwiceCode:=Zi (Za (Za h.tail.tail.tail.tail.tail)) ZcM Z5 ZcE Zbe vTwice vCode
 have nTwiceSum:=Zi (Za (Za (Za h.tail.tail.tail.tail.tail))) ZcM Z5 gSum tSum vTwice vSum
 have nTwiceRefer:=Zi (Za (Za (Za (Za h.tail.tail.tail.tail.tail)))) ZcM Z5 ZcI Zbl vTwice vRefer
 have nTwiceStack:=Zi (Za (Za (Za (Za (Za h.tail.tail.tail.tail.tail))))) ZcM Z5 Zcv Zbm vTwice vStack
 have nTwiceFuel:=Zi (Za (Za (Za (Za (Za (Za h.tail.tail.tail.tail.tail)))))) ZcM Z5 ZcG Zbr vTwice vFuel
 have nManyTimes:=Zi h.tail.tail.tail.tail.tail.tail ZcH Z9 ZcL Zbb vMany vTimes
 have nManyCode:=Zi (Za h.tail.tail.tail.tail.tail.tail) ZcH Z9 ZcE Zbe vMany vCode
 have nManySum:=Zi (Za (Za h.tail.tail.tail.tail.tail.tail)) ZcH Z9 gSum tSum vMany vSum
 have nManyRefer:=Zi (Za (Za (Za h.tail.tail.tail.tail.tail.tail))) ZcH Z9 ZcI Zbl vMany vRefer
 have nManyStack:=Zi (Za (Za (Za (Za h.tail.tail.tail.tail.tail.tail)))) ZcH Z9 Zcv Zbm vMany vStack
 have nManyFuel:=Zi (Za (Za (Za (Za (Za h.tail.tail.tail.tail.tail.tail))))) ZcH Z9 ZcG Zbr vMany vFuel
 have nTimesCode:=Zi h.tail.tail.tail.tail.tail.tail.tail ZcL Zbb ZcE Zbe vTimes vCode
 have nTimesSum:=Zi (Za h.tail.tail.tail.tail.tail.tail.tail) ZcL Zbb gSum tSum vTimes vSum
 have nTimesRefer:=Zi (Za (Za h.tail.tail.tail.tail.tail.tail.tail)) ZcL Zbb ZcI Zbl vTimes vRefer
 have nTimesStack:=Zi (Za (Za (Za h.tail.tail.tail.tail.tail.tail.tail))) ZcL Zbb Zcv Zbm vTimes vStack
 have nTimesFuel:=Zi (Za (Za (Za (Za h.tail.tail.tail.tail.tail.tail.tail)))) ZcL Zbb ZcG Zbr vTimes vFuel
 have nCodeSum:=Zi h.tail.tail.tail.tail.tail.tail.tail.tail ZcE Zbe gSum tSum vCode vSum
 have nCodeRefer:=Zi (Za h.tail.tail.tail.tail.tail.tail.tail.tail) ZcE Zbe ZcI Zbl vCode vRefer
 have nCodeStack:=Zi (Za (Za h.tail.tail.tail.tail.tail.tail.tail.tail)) ZcE Zbe Zcv Zbm vCode vStack
 have nCodeFuel:=Zi (Za (Za (Za h.tail.tail.tail.tail.tail.tail.tail.tail))) ZcE Zbe ZcG Zbr vCode vFuel
 have nSumRefer:=Zi h.tail.tail.tail.tail.tail.tail.tail.tail.tail gSum tSum ZcI Zbl vSum vRefer
 have nSumStack:=Zi (Za h.tail.tail.tail.tail.tail.tail.tail.tail.tail) gSum tSum Zcv Zbm vSum vStack
 have nSumFuel:=Zi (Za (Za h.tail.tail.tail.tail.tail.tail.tail.tail.tail)) gSum tSum ZcG Zbr vSum vFuel
 have nReferStack:=Zi h.tail.tail.tail.tail.tail.tail.tail.tail.tail.tail ZcI Zbl Zcv Zbm vRefer vStack
 have nReferFuel:=Zi (Za h.tail.tail.tail.tail.tail.tail.tail.tail.tail.tail) ZcI Zbl ZcG Zbr vRefer vFuel
 have nStackFuel:=Zi h.tail.tail.tail.tail.tail.tail.tail.tail.tail.tail.tail Zcv Zbm ZcG Zbr vStack vFuel
 refine⟨Zb aLong aSyntax aDeep aType aStore aTwice aMany aTimes aCode aSum aRefer aStack aFuel,hm,?_,?_,?_,hh⟩
 ·intro g hg
  simp only[sents,List.mem_cons,List.mem_nil_iff,or_false]at hg
  rcases hg with rfl|rfl|rfl|rfl|rfl|rfl|rfl|rfl|rfl|rfl|rfl|rfl|rfl
  ·simpa [Zb] using World.var?_cell Zc1 vLong 0
  ·simpa [Zb] using World.var?_cell ZcK vSyntax 0
  ·simpa [Zb] using World.var?_cell ZcF vDeep 0
  ·simpa [Zb] using World.var?_cell ZcN vType 0
  ·simpa [Zb] using World.var?_cell ZcJ vStore 0
  ·simpa [Zb] using World.var?_cell ZcM vTwice 0
  ·simpa [Zb] using World.var?_cell ZcH vMany 0
  ·simpa [Zb] using World.var?_cell ZcL vTimes 0
  ·simpa [Zb] using World.var?_cell ZcE vCode 0
  ·simpa [Zb] using World.var?_cell gSum vSum 0
  ·simpa [Zb] using World.var?_cell ZcI vRefer 0
  ·simpa [Zb] using World.var?_cell Zcv vStack 0
  ·simpa [Zb] using World.var?_cell ZcG vFuel 0
 ·intro g hg g' hg' hne
  simp only[sents,List.mem_cons,List.mem_nil_iff,or_false]at hg hg'
  rcases hg with rfl|rfl|rfl|rfl|rfl|rfl|rfl|rfl|rfl|rfl|rfl|rfl|rfl <;> rcases hg' with rfl|rfl|rfl|rfl|rfl|rfl|rfl|rfl|rfl|rfl|rfl|rfl|rfl
  all_goals first|exact absurd rfl hne|skip
  ·simpa [Zb] using nLongSyntax
  ·simpa [Zb] using nLongDeep
  ·simpa [Zb] using nLongType
  ·simpa [Zb] using nLongStore
  ·simpa [Zb] using nLongTwice
  ·simpa [Zb] using nLongMany
  ·simpa [Zb] using nLongTimes
  ·simpa [Zb] using nLongCode
  ·simpa [Zb] using nLongSum
  ·simpa [Zb] using nLongRefer
  ·simpa [Zb] using nLongStack
  ·simpa [Zb] using nLongFuel
  ·simpa [Zb] using nLongSyntax.symm
  ·simpa [Zb] using nSyntaxDeep
  ·simpa [Zb] using nSyntaxType
  ·simpa [Zb] using nSyntaxStore
  ·simpa [Zb] using nSyntaxTwice
  ·simpa [Zb] using nSyntaxMany
  ·simpa [Zb] using nSyntaxTimes
  ·simpa [Zb] using nSyntaxCode
  ·simpa [Zb] using nSyntaxSum
  ·simpa [Zb] using nSyntaxRefer
  ·simpa [Zb] using nSyntaxStack
  ·simpa [Zb] using nSyntaxFuel
  ·simpa [Zb] using nLongDeep.symm
  ·simpa [Zb] using nSyntaxDeep.symm
  ·simpa [Zb] using nDeepType
  ·simpa [Zb] using nDeepStore
  ·simpa [Zb] using nDeepTwice
  ·simpa [Zb] using nDeepMany
  ·simpa [Zb] using nDeepTimes
  ·simpa [Zb] using nDeepCode
  ·simpa [Zb] using nDeepSum
  ·simpa [Zb] using nDeepRefer
  ·simpa [Zb] using nDeepStack
  ·simpa [Zb] using nDeepFuel
  ·simpa [Zb] using nLongType.symm
  ·simpa [Zb] using nSyntaxType.symm
  ·simpa [Zb] using nDeepType.symm
  ·simpa [Zb] using nTypeStore
  ·simpa [Zb] using nTypeTwice
  ·simpa [Zb] using nTypeMany
  ·simpa [Zb] using nTypeTimes
  ·simpa [Zb] using nTypeCode
  ·simpa [Zb] using nTypeSum
  ·simpa [Zb] using nTypeRefer
  ·simpa [Zb] using nTypeStack
  ·simpa [Zb] using nTypeFuel
  ·simpa [Zb] using nLongStore.symm
  ·simpa [Zb] using nSyntaxStore.symm
  ·simpa [Zb] using nDeepStore.symm
  ·simpa [Zb] using nTypeStore.symm
  ·simpa [Zb] using nStoreTwice
  ·simpa [Zb] using nStoreMany
  ·simpa [Zb] using nStoreTimes
  ·simpa [Zb] using nStoreCode
  ·simpa [Zb] using nStoreSum
  ·simpa [Zb] using nStoreRefer
  ·simpa [Zb] using nStoreStack
  ·simpa [Zb] using nStoreFuel
  ·simpa [Zb] using nLongTwice.symm
  ·simpa [Zb] using nSyntaxTwice.symm
  ·simpa [Zb] using nDeepTwice.symm
  ·simpa [Zb] using nTypeTwice.symm
  ·simpa [Zb] using nStoreTwice.symm
  ·simpa [Zb] using nTwiceMany
  ·simpa [Zb] using nTwiceTimes
  ·simpa [Zb] using nTwiceCode
  ·simpa [Zb] using nTwiceSum
  ·simpa [Zb] using nTwiceRefer
  ·simpa [Zb] using nTwiceStack
  ·simpa [Zb] using nTwiceFuel
  ·simpa [Zb] using nLongMany.symm
  ·simpa [Zb] using nSyntaxMany.symm
  ·simpa [Zb] using nDeepMany.symm
  ·simpa [Zb] using nTypeMany.symm
  ·simpa [Zb] using nStoreMany.symm
  ·simpa [Zb] using nTwiceMany.symm
  ·simpa [Zb] using nManyTimes
  ·simpa [Zb] using nManyCode
  ·simpa [Zb] using nManySum
  ·simpa [Zb] using nManyRefer
  ·simpa [Zb] using nManyStack
  ·simpa [Zb] using nManyFuel
  ·simpa [Zb] using nLongTimes.symm
  ·simpa [Zb] using nSyntaxTimes.symm
  ·simpa [Zb] using nDeepTimes.symm
  ·simpa [Zb] using nTypeTimes.symm
  ·simpa [Zb] using nStoreTimes.symm
  ·simpa [Zb] using nTwiceTimes.symm
  ·simpa [Zb] using nManyTimes.symm
  ·simpa [Zb] using nTimesCode
  ·simpa [Zb] using nTimesSum
  ·simpa [Zb] using nTimesRefer
  ·simpa [Zb] using nTimesStack
  ·simpa [Zb] using nTimesFuel
  ·simpa [Zb] using nLongCode.symm
  ·simpa [Zb] using nSyntaxCode.symm
  ·simpa [Zb] using nDeepCode.symm
  ·simpa [Zb] using nTypeCode.symm
  ·simpa [Zb] using nStoreCode.symm
  ·simpa [Zb] using nTwiceCode.symm
  ·simpa [Zb] using nManyCode.symm
  ·simpa [Zb] using nTimesCode.symm
  ·simpa [Zb] using nCodeSum
  ·simpa [Zb] using nCodeRefer
  ·simpa [Zb] using nCodeStack
  ·simpa [Zb] using nCodeFuel
  ·simpa [Zb] using nLongSum.symm
  ·simpa [Zb] using nSyntaxSum.symm
  ·simpa [Zb] using nDeepSum.symm
  ·simpa [Zb] using nTypeSum.symm
  ·simpa [Zb] using nStoreSum.symm
  ·simpa [Zb] using nTwiceSum.symm
  ·simpa [Zb] using nManySum.symm
  ·simpa [Zb] using nTimesSum.symm
  ·simpa [Zb] using nCodeSum.symm
  ·simpa [Zb] using nSumRefer
  ·simpa [Zb] using nSumStack
  ·simpa [Zb] using nSumFuel
  ·simpa [Zb] using nLongRefer.symm
  ·simpa [Zb] using nSyntaxRefer.symm
  ·simpa [Zb] using nDeepRefer.symm
  ·simpa [Zb] using nTypeRefer.symm
  ·simpa [Zb] using nStoreRefer.symm
  ·simpa [Zb] using nTwiceRefer.symm
  ·simpa [Zb] using nManyRefer.symm
  ·simpa [Zb] using nTimesRefer.symm
  ·simpa [Zb] using nCodeRefer.symm
  ·simpa [Zb] using nSumRefer.symm
  ·simpa [Zb] using nReferStack
  ·simpa [Zb] using nReferFuel
  ·simpa [Zb] using nLongStack.symm
  ·simpa [Zb] using nSyntaxStack.symm
  ·simpa [Zb] using nDeepStack.symm
  ·simpa [Zb] using nTypeStack.symm
  ·simpa [Zb] using nStoreStack.symm
  ·simpa [Zb] using nTwiceStack.symm
  ·simpa [Zb] using nManyStack.symm
  ·simpa [Zb] using nTimesStack.symm
  ·simpa [Zb] using nCodeStack.symm
  ·simpa [Zb] using nSumStack.symm
  ·simpa [Zb] using nReferStack.symm
  ·simpa [Zb] using nStackFuel
  ·simpa [Zb] using nLongFuel.symm
  ·simpa [Zb] using nSyntaxFuel.symm
  ·simpa [Zb] using nDeepFuel.symm
  ·simpa [Zb] using nTypeFuel.symm
  ·simpa [Zb] using nStoreFuel.symm
  ·simpa [Zb] using nTwiceFuel.symm
  ·simpa [Zb] using nManyFuel.symm
  ·simpa [Zb] using nTimesFuel.symm
  ·simpa [Zb] using nCodeFuel.symm
  ·simpa [Zb] using nSumFuel.symm
  ·simpa [Zb] using nReferFuel.symm
  ·simpa [Zb] using nStackFuel.symm
 ·intro g hg
  simp only[sents,List.mem_cons,List.mem_nil_iff,or_false]at hg
  rcases hg with rfl|rfl|rfl|rfl|rfl|rfl|rfl|rfl|rfl|rfl|rfl|rfl|rfl
  ·exact⟨cLong,uLong,by simpa [Zb] using rLong⟩
  ·exact⟨cSyntax,uSyntax,by simpa [Zb] using rSyntax⟩
  ·exact⟨cDeep,uDeep,by simpa [Zb] using rDeep⟩
  ·exact⟨cType,uType,by simpa [Zb] using rType⟩
  ·exact⟨cStore,uStore,by simpa [Zb] using rStore⟩
  ·exact⟨cTwice,uTwice,by simpa [Zb] using rTwice⟩
  ·exact⟨cMany,uMany,by simpa [Zb] using rMany⟩
  ·exact⟨cTimes,uTimes,by simpa [Zb] using rTimes⟩
  ·exact⟨cCode,uCode,by simpa [Zb] using rCode⟩
  ·exact⟨cSum,uSum,by simpa [Zb] using rSum⟩
  ·exact⟨cRefer,uRefer,by simpa [Zb] using rRefer⟩
  ·exact⟨cStack,uStack,by simpa [Zb] using rStack⟩
  ·exact⟨cFuel,uFuel,by simpa [Zb] using rFuel⟩
end Go.Proofs.YtkodhpilkaihjaaGreatDoor

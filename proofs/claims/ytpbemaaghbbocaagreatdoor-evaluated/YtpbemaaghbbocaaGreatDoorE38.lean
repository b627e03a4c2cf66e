/- Parts. -/
import Derived.Test.YtpbemaaghbbocaaGreatDoorRows
import Derived.Test.YtpbemaaghbbocaaGreatDoorE00
import Derived.Test.YtpbemaaghbbocaaGreatDoorE01
import Derived.ProofKit
import Derived.LaidLaws
import Derived.LaidHandle
import Derived.Stop.LaidTwo
import Derived.Shelf.Vars
import Derived.Lay
namespace Go.Proofs.YtpbemaaghbbocaaGreatDoor
open Go.ChangeShapes Go.WideShapes Go.ChangeAt Go.RowKit LS
theorem Za{P:Program}{x y:String×DataW Unit}{r:List (String×DataW Unit)}{w:World}(h:laidMet P (x::y::r) w):laidMet P (x::r) w:=by
 obtain⟨n,d⟩:=x
 obtain⟨n',d'⟩:=y
 obtain⟨ps,⟨g,t,cs,f,p,q,h1,h2,h3,h4,⟨g',t',cs',f',p',q',k1,k2,k3,k4,k5,e'⟩,e⟩,hnd,hr⟩:=h
 subst e'
 have hsub:(MemPlace.row ⟨g,0,none⟩ cs.size++p++q').Sublist ps:=by
  rw[e];exact List.Sublist.append (List.Sublist.refl _) (List.sublist_append_right _ _)
 exact⟨_,⟨g,t,cs,f,p,q',h1,h2,h3,h4,k5,rfl⟩,hnd.sublist hsub,fun b off hm=>hr b off (hsub.mem hm)⟩
theorem own:ownKnob Tryz.prog.godebug=none:=by kernel_rfl
theorem ZcL : Tryz.prog.globalNamed "gauge/fault.Long" = some 0 := by kernel_rfl
theorem Zbo:(Tryz.prog.globals[0]?).map (·.type)=some 52:=by kernel_rfl
theorem Zct : Tryz.prog.globalNamed "gauge/fault.Syntax" = some 1 := by kernel_rfl
theorem Zbk:(Tryz.prog.globals[1]?).map (·.type)=some 52:=by kernel_rfl
theorem Zco : Tryz.prog.globalNamed "gauge/fault.Deep" = some 2 := by kernel_rfl
theorem Zbn:(Tryz.prog.globals[2]?).map (·.type)=some 52:=by kernel_rfl
theorem Zcw : Tryz.prog.globalNamed "gauge/fault.Type" = some 3 := by kernel_rfl
theorem Zbs:(Tryz.prog.globals[3]?).map (·.type)=some 52:=by kernel_rfl
theorem Zcs : Tryz.prog.globalNamed "gauge/fault.Store" = some 4 := by kernel_rfl
theorem Zbv:(Tryz.prog.globals[4]?).map (·.type)=some 52:=by kernel_rfl
theorem Zcv : Tryz.prog.globalNamed "gauge/fault.Twice" = some 5 := by kernel_rfl
theorem Zbz:(Tryz.prog.globals[5]?).map (·.type)=some 52:=by kernel_rfl
theorem Zcq : Tryz.prog.globalNamed "gauge/fault.Many" = some 6 := by kernel_rfl
theorem ZbE:(Tryz.prog.globals[6]?).map (·.type)=some 52:=by kernel_rfl
theorem Zcu : Tryz.prog.globalNamed "gauge/fault.Times" = some 7 := by kernel_rfl
theorem ZbK:(Tryz.prog.globals[7]?).map (·.type)=some 52:=by kernel_rfl
theorem Zcn : Tryz.prog.globalNamed "gauge/fault.Code" = some 8 := by kernel_rfl
theorem ZcR:(Tryz.prog.globals[8]?).map (·.type)=some 52:=by kernel_rfl
theorem gSum : Tryz.prog.globalNamed "gauge/fault.Sum" = some 9 := by kernel_rfl
theorem tSum:(Tryz.prog.globals[9]?).map (·.type)=some 52:=by kernel_rfl
theorem Zcr : Tryz.prog.globalNamed "gauge/fault.Refer" = some 10 := by kernel_rfl
theorem ZcT:(Tryz.prog.globals[10]?).map (·.type)=some 52:=by kernel_rfl
theorem Zcg : Tryz.prog.globalNamed "gauge/fault.Stack" = some 11 := by kernel_rfl
theorem ZcA:(Tryz.prog.globals[11]?).map (·.type)=some 52:=by kernel_rfl
theorem Zcp : Tryz.prog.globalNamed "gauge/fault.Fuel" = some 12 := by kernel_rfl
theorem ZcS:(Tryz.prog.globals[12]?).map (·.type)=some 52:=by kernel_rfl
theorem Zoc : Tryz.prog.globalNamed "errors.errorType" = some 13 := by kernel_rfl
theorem ZrF : (Tryz.prog.cutTypes.find? (·.1 == "internal/reflectlite.rtype")).map (·.2) = some 232 := by kernel_rfl
theorem Zqp:((List.range 418).filter fun t=>Tryz.prog.rowNamed t [101,114,114,111,114])=[52]:=by kernel_rfl
theorem ZpX:Tryz.prog.types.size=418:=by kernel_rfl
theorem rowE (u : TypeId) (h : Tryz.prog.typeName? 3 u = some "*errors.errorString") : u = 389 :=
 typeName_ptr_named (nm := "errors.errorString") (by kernel_rfl) (by kernel_rfl) (by decide) u h
theorem ZcG:Tryz.prog.cellsOf 407=1:=by kernel_rfl
theorem ZcH:Tryz.prog.cellsOf 9=1:=by kernel_rfl
theorem Zor {W : World} {l : List (String × DataW Unit)} (h : handlesMet Tryz.prog (("errors.errorType", Rows.laid_errors_errorType) :: l) W) : W.cell? ⟨13, 0, none⟩ = some (.iface 232 (.agg #[.pointer (some ⟨20, 52, none⟩)])) := by
 obtain⟨name,u,ty,e1,e2,e3,e4,e5⟩:=h _ (List.mem_cons_self ..)
 have en:name=[101,114,114,111,114]:=(Option.some.inj e1).symm
 subst en
 obtain rfl:=Option.some.inj (ZrF.symm.trans e2)
 have hm:ty∈(List.range 418).filter fun t=>Tryz.prog.rowNamed t [101,114,114,111,114]:=List.mem_filter.2 ⟨List.mem_range.2 (by rw[←ZpX];exact e3),e4⟩
 rw[Zqp]at hm
 obtain rfl:=List.mem_singleton.1 hm
 have hh:typeHandle Tryz.prog 52=.pointer (some ⟨20,52,none⟩):=by kernel_rfl
 rw[hh]at e5
 simpa using World.var?_cell Zoc e5 0
theorem Zku{W:World}{n:String}{t:TypeId}{a b:Addr}(h:W.var? Tryz.prog n=some #[.iface t (.pointer (some a))])(k:W.var? Tryz.prog n=some #[.iface t (.pointer (some b))]):a=b:=by
 rw[h]at k;simpa using k
def Zb(aLong aSyntax aDeep aType aStore aTwice aMany aTimes aCode aSum aRefer aStack aFuel:Addr):Nat→Addr:=fun g=>
 if g=0 then aLong else if g=1 then aSyntax else if g=2 then aDeep else if g=3 then aType else if g=4 then aStore else if g=5 then aTwice else if g=6 then aMany else if g=7 then aTimes else if g=8 then aCode else if g=9 then aSum else if g=10 then aRefer else if g=11 then aStack else aFuel
theorem Zt {n0 n1 : String} {t0 t1 : List UInt8} {r : List (String × DataW Unit)} {W : World} {g0 g1 : Nat} {a b : Addr} (h : laidMet Tryz.prog ((n0, .iface "*errors.errorString" (.ptr (.agg [.lit (.string t0)]))) :: (n1, .iface "*errors.errorString" (.ptr (.agg [.lit (.string t1)]))) :: r) W)
  (hg0:Tryz.prog.globalNamed n0=some g0) (ht0:(Tryz.prog.globals[g0]?).map (·.type)=some 52) (hg1:Tryz.prog.globalNamed n1=some g1) (ht1:(Tryz.prog.globals[g1]?).map (·.type)=some 52)
  (va:W.var? Tryz.prog n0=some #[.iface 389 (.pointer (some a))]) (vb:W.var? Tryz.prog n1=some #[.iface 389 (.pointer (some b))]):a≠b:=by
 obtain⟨x,y,_,_,_,_,_,_,hx,hy,_,_,_,_,_,_,hne,_,_⟩:=laid_sentinels2 h hg0 ht0 hg1 ht1 Tryz.underlying52 rowE Tryz.underlying389 Tryz.underlying407 rfl rfl Tryz.underlying9 ZcG ZcH
 rw[Zku va hx,Zku vb hy];exact hne
set_option maxHeartbeats 2000000 in
theorem Zti {W : World} {r : List (String × DataW Unit)} (h : laidMet Tryz.prog (("gauge/fault.Long", Rows.laid_gauge_fault_Long) :: ("gauge/fault.Syntax", Rows.laid_gauge_fault_Syntax) :: ("gauge/fault.Deep", Rows.laid_gauge_fault_Deep) :: ("gauge/fault.Type", Rows.laid_gauge_fault_Type) :: ("gauge/fault.Store", Rows.laid_gauge_fault_Store) :: ("gauge/fault.Twice", Rows.laid_gauge_fault_Twice) :: ("gauge/fault.Many", Rows.laid_gauge_fault_Many) :: ("gauge/fault.Times", Rows.laid_gauge_fault_Times) :: ("gauge/fault.Code", Rows.laid_gauge_fault_Code) :: ("gauge/fault.Sum", Rows.laid_gauge_fault_Sum) :: ("gauge/fault.Refer", Rows.laid_gauge_fault_Refer) :: ("gauge/fault.Stack", Rows.laid_gauge_fault_Stack) :: ("gauge/fault.Fuel", Rows.laid_gauge_fault_Fuel) :: r) W)
  (hh:W.cell? ⟨13,0,none⟩=some (.iface 232 (.agg #[.pointer (some ⟨20,52,none⟩)])))
  {m:Int} (hm:W.cell? ⟨14,0,none⟩=some (.int .i64 m)):∃A,Vars W A m:=by
 obtain⟨aLong,_,_,_,cLong,_,uLong,_,vLong,_,_,_,_,_,_,_,_,rLong,_⟩:=laid_sentinels2 h ZcL Zbo Zct Zbk Tryz.underlying52 rowE Tryz.underlying389 Tryz.underlying407 rfl rfl Tryz.underlying9 ZcG ZcH
 obtain⟨aSyntax,_,_,_,cSyntax,_,uSyntax,_,vSyntax,_,_,_,_,_,_,_,_,rSyntax,_⟩:=laid_sentinels2 h.tail Zct Zbk Zco Zbn Tryz.underlying52 rowE Tryz.underlying389 Tryz.underlying407 rfl rfl Tryz.underlying9 ZcG ZcH
 obtain⟨aDeep,_,_,_,cDeep,_,uDeep,_,vDeep,_,_,_,_,_,_,_,_,rDeep,_⟩:=laid_sentinels2 h.tail.tail Zco Zbn Zcw Zbs Tryz.underlying52 rowE Tryz.underlying389 Tryz.underlying407 rfl rfl Tryz.underlying9 ZcG ZcH
 obtain⟨aType,_,_,_,cType,_,uType,_,vType,_,_,_,_,_,_,_,_,rType,_⟩:=laid_sentinels2 h.tail.tail.tail Zcw Zbs Zcs Zbv Tryz.underlying52 rowE Tryz.underlying389 Tryz.underlying407 rfl rfl Tryz.underlying9 ZcG ZcH
 obtain⟨aStore,_,_,_,cStore,_,uStore,_,vStore,_,_,_,_,_,_,_,_,rStore,_⟩:=laid_sentinels2 h.tail.tail.tail.tail Zcs Zbv Zcv Zbz Tryz.underlying52 rowE Tryz.underlying389 Tryz.underlying407 rfl rfl Tryz.underlying9 ZcG ZcH
 obtain⟨aTwice,_,_,_,cTwice,_,uTwice,_,vTwice,_,_,_,_,_,_,_,_,rTwice,_⟩:=laid_sentinels2 h.tail.tail.tail.tail.tail Zcv Zbz Zcq ZbE Tryz.underlying52 rowE Tryz.underlying389 Tryz.underlying407 rfl rfl Tryz.underlying9 ZcG ZcH
 obtain⟨aMany,_,_,_,cMany,_,uMany,_,vMany,_,_,_,_,_,_,_,_,rMany,_⟩:=laid_sentinels2 h.tail.tail.tail.tail.tail.tail Zcq ZbE Zcu ZbK Tryz.underlying52 rowE Tryz.underlying389 Tryz.underlying407 rfl rfl Tryz.underlying9 ZcG ZcH
 obtain⟨aTimes,_,_,_,cTimes,_,uTimes,_,vTimes,_,_,_,_,_,_,_,_,rTimes,_⟩:=laid_sentinels2 h.tail.tail.tail.tail.tail.tail.tail Zcu ZbK Zcn ZcR Tryz.underlying52 rowE Tryz.underlying389 Tryz.underlying407 rfl rfl Tryz.underlying9 ZcG ZcH
 obtain⟨aCode,_,_,_,cCode,_,uCode,_,vCode,_,_,_,_,_,_,_,_,rCode,_⟩:=laid_sentinels2 h.tail.tail.tail.tail.tail.tail.tail.tail Zcn ZcR gSum tSum Tryz.underlying52 rowE Tryz.underlying389 Tryz.underlying407 rfl rfl Tryz.underlying9 ZcG ZcH
 obtain⟨aSum,_,_,_,cSum,_,uSum,_,vSum,_,_,_,_,_,_,_,_,rSum,_⟩:=laid_sentinels2 h.tail.tail.tail.tail.tail.tail.tail.tail.tail gSum tSum Zcr ZcT Tryz.underlying52 rowE Tryz.underlying389 Tryz.underlying407 rfl rfl Tryz.underlying9 ZcG ZcH
 obtain⟨aRefer,_,_,_,cRefer,_,uRefer,_,vRefer,_,_,_,_,_,_,_,_,rRefer,_⟩:=laid_sentinels2 h.tail.tail.tail.tail.tail.tail.tail.tail.tail.tail Zcr ZcT Zcg ZcA Tryz.underlying52 rowE Tryz.underlying389 Tryz.underlying407 rfl rfl Tryz.underlying9 ZcG ZcH
 obtain⟨aStack,_,_,_,cStack,_,uStack,_,vStack,_,_,_,_,_,_,_,_,rStack,_⟩:=laid_sentinels2 h.tail.tail.tail.tail.tail.tail.tail.tail.tail.tail.tail Zcg ZcA Zcp ZcS Tryz.underlying52 rowE Tryz.underlying389 Tryz.underlying407 rfl rfl Tryz.underlying9 ZcG ZcH
 obtain⟨_,aFuel,_,_,_,cFuel,_,uFuel,_,vFuel,_,_,_,_,_,_,_,_,rFuel⟩:=laid_sentinels2 h.tail.tail.tail.tail.tail.tail.tail.tail.tail.tail.tail Zcg ZcA Zcp ZcS Tryz.underlying52 rowE Tryz.underlying389 Tryz.underlying407 rfl rfl Tryz.underlying9 ZcG ZcH
 have nLongSyntax:=Zt h ZcL Zbo Zct Zbk vLong vSyntax
 have nLongDeep:=Zt (Za h) ZcL Zbo Zco Zbn vLong vDeep
 have nLongType:=Zt (Za (Za h)) ZcL Zbo Zcw Zbs vLong vType
 have nLongStore:=Zt (Za (Za (Za h))) ZcL Zbo Zcs Zbv vLong vStore
 have nLongTwice:=Zt (Za (Za (Za (Za h)))) ZcL Zbo Zcv Zbz vLong vTwice
 have nLongMany:=Zt (Za (Za (Za (Za (Za h))))) ZcL Zbo Zcq ZbE vLong vMany
 have nLongTimes:=Zt (Za (Za (Za (Za (Za (Za h)))))) ZcL Zbo Zcu ZbK vLong vTimes
 have nLongCode:=Zt (Za (Za (Za (Za (Za (Za (Za h))))))) ZcL Zbo Zcn ZcR vLong vCode
 have nLongSum:=Zt (Za (Za (Za (Za (Za (Za (Za (Za h)))))))) ZcL Zbo gSum tSum vLong vSum
 have nLongRefer:=Zt (Za (Za (Za (Za (Za (Za (Za (Za (Za h))))))))) ZcL Zbo Zcr ZcT vLong vRefer
 have nLongStack:=Zt (Za (Za (Za (Za (Za (Za (Za (Za (Za (Za h)))))))))) ZcL Zbo Zcg ZcA vLong vStack
 have nLongFuel:=Zt (Za (Za (Za (Za (Za (Za (Za (Za (Za (Za (Za h))))))))))) ZcL Zbo Zcp ZcS vLong vFuel
 have nSyntaxDeep:=Zt h.tail Zct Zbk Zco Zbn vSyntax vDeep
 have nSyntaxType:=Zt (Za h.tail) Zct Zbk Zcw Zbs vSyntax vType
 have nSyntaxStore:=Zt (Za (Za h.tail)) Zct Zbk Zcs Zbv vSyntax vStore
 have nSyntaxTwice:=Zt (Za (Za (Za h.tail))) Zct Zbk Zcv Zbz vSyntax vTwice
 have nSyntaxMany:=Zt (Za (Za (Za (Za h.tail)))) Zct Zbk Zcq ZbE vSyntax vMany
 have nSyntaxTimes:=Zt (Za (Za (Za (Za (Za h.tail))))) Zct Zbk Zcu ZbK vSyntax vTimes
 have nSyntaxCode:=Zt (Za (Za (Za (Za (Za (Za h.tail)))))) Zct Zbk Zcn ZcR vSyntax vCode
 have nSyntaxSum:=Zt (Za (Za (Za (Za (Za (Za (Za h.tail))))))) Zct Zbk gSum tSum vSyntax vSum
 have nSyntaxRefer:=Zt (Za (Za (Za (Za (Za (Za (Za (Za h.tail)))))))) Zct Zbk Zcr ZcT vSyntax vRefer
 have nSyntaxStack:=Zt (Za (Za (Za (Za (Za (Za (Za (Za (Za h.tail))))))))) Zct Zbk Zcg ZcA vSyntax vStack
 have nSyntaxFuel:=Zt (Za (Za (Za (Za (Za (Za (Za (Za (Za (Za h.tail)))))))))) Zct Zbk Zcp ZcS vSyntax vFuel
 have nDeepType:=Zt h.tail.tail Zco Zbn Zcw Zbs vDeep vType
 have nDeepStore:=Zt (Za h.tail.tail) Zco Zbn Zcs Zbv vDeep vStore
 have nDeepTwice:=Zt (Za (Za h.tail.tail)) Zco Zbn Zcv Zbz vDeep vTwice
 have nDeepMany:=Zt (Za (Za (Za h.tail.tail))) Zco Zbn Zcq ZbE vDeep vMany
 have nDeepTimes:=Zt (Za (Za (Za (Za h.tail.tail)))) Zco Zbn Zcu ZbK vDeep vTimes
 have nDeepCode:=Zt (Za (Za (Za (Za (Za h.tail.tail))))) Zco Zbn Zcn ZcR vDeep vCode
 have nDeepSum:=Zt (Za (Za (Za (Za (Za (Za h.tail.tail)))))) Zco Zbn gSum tSum vDeep vSum
 have nDeepRefer:=Zt (Za (Za (Za (Za (Za (Za (Za h.tail.tail))))))) Zco Zbn Zcr ZcT vDeep vRefer
 have nDeepStack:=Zt (Za (Za (Za (Za (Za (Za (Za (Za h.tail.tail)))))))) Zco Zbn Zcg ZcA vDeep vStack
 have nDeepFuel:=Zt (Za (Za (Za (Za (Za (Za (Za (Za (Za h.tail.tail))))))))) Zco Zbn Zcp ZcS vDeep vFuel
 have nTypeStore:=Zt h.tail.tail.tail Zcw Zbs Zcs Zbv vType vStore
 have nTypeTwice:=Zt (Za h.tail.tail.tail) Zcw Zbs Zcv Zbz vType vTwice
 have nTypeMany:=Zt (Za (Za h.tail.tail.tail)) Zcw Zbs Zcq ZbE vType vMany
 have nTypeTimes:=Zt (Za (Za (Za h.tail.tail.tail))) Zcw Zbs Zcu ZbK vType vTimes
 have nTypeCode:=Zt (Za (Za (Za (Za h.tail.tail.tail)))) Zcw Zbs Zcn ZcR vType vCode
 have nTypeSum:=Zt (Za (Za (Za (Za (Za h.tail.tail.tail))))) Zcw Zbs gSum tSum vType vSum
 have nTypeRefer:=Zt (Za (Za (Za (Za (Za (Za h.tail.tail.tail)))))) Zcw Zbs Zcr ZcT vType vRefer
 have nTypeStack:=Zt (Za (Za (Za (Za (Za (Za (Za h.tail.tail.tail))))))) Zcw Zbs Zcg ZcA vType vStack
 have nTypeFuel:=Zt (Za (Za (Za (Za (Za (Za (Za (Za h.tail.tail.tail)))))))) Zcw Zbs Zcp ZcS vType vFuel
 have nStoreTwice:=Zt h.tail.tail.tail.tail Zcs Zbv Zcv Zbz vStore vTwice
 have nStoreMany:=Zt (Za h.tail.tail.tail.tail) Zcs Zbv Zcq ZbE vStore vMany
 have nStoreTimes:=Zt (Za (Za h.tail.tail.tail.tail)) Zcs Zbv Zcu ZbK vStore vTimes
 have nStoreCode:=Zt (Za (Za (Za h.tail.tail.tail.tail))) Zcs Zbv Zcn ZcR vStore vCode
 have nStoreSum:=Zt (Za (Za (Za (Za h.tail.tail.tail.tail)))) Zcs Zbv gSum tSum vStore vSum
 have nStoreRefer:=Zt (Za (Za (Za (Za (Za h.tail.tail.tail.tail))))) Zcs Zbv Zcr ZcT vStore vRefer
 have nStoreStack:=Zt (Za (Za (Za (Za (Za (Za h.tail.tail.tail.tail)))))) Zcs Zbv Zcg ZcA vStore vStack
 have nStoreFuel:=Zt (Za (Za (Za (Za (Za (Za (Za h.tail.tail.tail.tail))))))) Zcs Zbv Zcp ZcS vStore vFuel
 have nTwiceMany:=Zt h.tail.tail.tail.tail.tail Zcv Zbz Zcq ZbE vTwice vMany
 have nTwiceTimes:=Zt (Za h.tail.tail.tail.tail.tail) Zcv Zbz Zcu ZbK vTwice vTimes
 have nTwiceCode:=Zt (Za (Za h.tail.tail.tail.tail.tail)) Zcv Zbz Zcn ZcR vTwice vCode
 have nTwiceSum:=Zt (Za (Za (Za h.tail.tail.tail.tail.tail))) Zcv Zbz gSum tSum vTwice vSum
 have nTwiceRefer:=Zt (Za (Za (Za (Za h.tail.tail.tail.tail.tail)))) Zcv Zbz Zcr ZcT vTwice vRefer
 have nTwiceStack:=Zt (Za (Za (Za (Za (Za h.tail.tail.tail.tail.tail))))) Zcv Zbz Zcg ZcA vTwice vStack
 have nTwiceFuel:=Zt (Za (Za (Za (Za (Za (Za h.tail.tail.tail.tail.tail)))))) Zcv Zbz Zcp ZcS vTwice vFuel
 have nManyTimes:=Zt h.tail.tail.tail.tail.tail.tail Zcq ZbE Zcu ZbK vMany vTimes
 have nManyCode:=Zt (Za h.tail.tail.tail.tail.tail.tail) Zcq ZbE Zcn ZcR vMany vCode
 have nManySum:=Zt (Za (Za h.tail.tail.tail.tail.tail.tail)) Zcq ZbE gSum tSum vMany vSum
 have nManyRefer:=Zt (Za (Za (Za h.tail.tail.tail.tail.tail.tail))) Zcq ZbE Zcr ZcT vMany vRefer
 have nManyStack:=Zt (Za (Za (Za (Za h.tail.tail.tail.tail.tail.tail)))) Zcq ZbE Zcg ZcA vMany vStack
 have nManyFuel:=Zt (Za (Za (Za (Za (Za h.tail.tail.tail.tail.tail.tail))))) Zcq ZbE Zcp ZcS vMany vFuel
 have nTimesCode:=Zt h.tail.tail.tail.tail.tail.tail.tail Zcu ZbK Zcn ZcR vTimes vCode
 have nTimesSum:=Zt (Za h.tail.tail.tail.tail.tail.tail.tail) Zcu ZbK gSum tSum vTimes vSum
 have nTimesRefer:=Zt (Za (Za h.tail.tail.tail.tail.tail.tail.tail)) Zcu ZbK Zcr ZcT vTimes vRefer
 have nTimesStack:=Zt (Za (Za (Za h.tail.tail.tail.tail.tail.tail.tail))) Zcu ZbK Zcg ZcA vTimes vStack
 have nTimesFuel:=Zt (Za (Za (Za (Za h.tail.tail.tail.tail.tail.tail.tail)))) Zcu ZbK Zcp ZcS vTimes vFuel
 have nCodeSum:=Zt h.tail.tail.tail.tail.tail.tail.tail.tail Zcn ZcR gSum tSum vCode vSum
 have nCodeRefer:=Zt (Za h.tail.tail.tail.tail.tail.tail.tail.tail) Zcn ZcR Zcr ZcT vCode vRefer
 have nCodeStack:=Zt (Za (Za h.tail.tail.tail.tail.tail.tail.tail.tail)) Zcn ZcR Zcg ZcA vCode vStack
 have nCodeFuel:=Zt (Za (Za (Za h.tail.tail.tail.tail.tail.tail.tail.tail))) Zcn ZcR Zcp ZcS vCode vFuel
 have nSumRefer:=Zt h.tail.tail.tail.tail.tail.tail.tail.tail.tail gSum tSum Zcr ZcT vSum vRefer
 have nSumStack:=Zt (Za h.tail.tail.tail.tail.tail.tail.tail.tail.tail) gSum tSum Zcg ZcA vSum vStack
 have nSumFuel:=Zt (Za (Za h.tail.tail.tail.tail.tail.tail.tail.tail.tail)) gSum tSum Zcp ZcS vSum vFuel
 have nReferStack:=Zt h.tail.tail.tail.tail.tail.tail.tail.tail.tail.tail Zcr ZcT Zcg ZcA vRefer vStack
 have nReferFuel:=Zt (Za h.tail.tail.tail.tail.tail.tail.tail.tail.tail.tail) Zcr ZcT Zcp ZcS vRefer vFuel
 have nStackFuel:=Zt h.tail.tail.tail.tail.tail.tail.tail.tail.tail.tail.tail Zcg ZcA Zcp ZcS vStack vFuel
 refine⟨Zb aLong aSyntax aDeep aType aStore aTwice aMany aTimes aCode aSum aRefer aStack aFuel,hm,?_,?_,?_,hh⟩
 ·intro g hg
  simp only[sents,List.mem_cons,List.mem_nil_iff,or_false]at hg
  rcases hg with rfl|rfl|rfl|rfl|rfl|rfl|rfl|rfl|rfl|rfl|rfl|rfl|rfl
  ·simpa [Zb] using World.var?_cell ZcL vLong 0
  ·simpa [Zb] using World.var?_cell Zct vSyntax 0
  ·simpa [Zb] using World.var?_cell Zco vDeep 0
  ·simpa [Zb] using World.var?_cell Zcw vType 0
  ·simpa [Zb] using World.var?_cell Zcs vStore 0
  ·simpa [Zb] using World.var?_cell Zcv vTwice 0
  ·simpa [Zb] using World.var?_cell Zcq vMany 0
  ·simpa [Zb] using World.var?_cell Zcu vTimes 0
  ·simpa [Zb] using World.var?_cell Zcn vCode 0
  ·simpa [Zb] using World.var?_cell gSum vSum 0
  ·simpa [Zb] using World.var?_cell Zcr vRefer 0
  ·simpa [Zb] using World.var?_cell Zcg vStack 0
  ·simpa [Zb] using World.var?_cell Zcp vFuel 0
 ·intro g hg g' hg' hne
  simp only[sents,List.mem_cons,List.mem_nil_iff,or_false]at hg hg'
  rcases hg with rfl|rfl|rfl|rfl|rfl|rfl|rfl|rfl|rfl|rfl|rfl|rfl|rfl <;> rcases hg' with rfl|rfl|rfl|rfl|rfl|rfl|rfl|rfl|rfl|rfl|rfl|rfl|rfl
  all_goals first|exact absurd rfl hne|skip
  ·simpa [Zb] using nLongSyntax
  ·simpa [Zb] using nLongDeep
  ·simpa [Zb] using nLongType
  ·simpa [Zb] using nLongStore
  ·simpa [Zb] using nLongTwice
  ·simpa [Zb] using nLongMany
  ·simpa [Zb] using nLongTimes
  ·simpa [Zb] using nLongCode
  ·simpa [Zb] using nLongSum
  ·simpa [Zb] using nLongRefer
  ·simpa [Zb] using nLongStack
  ·simpa [Zb] using nLongFuel
  ·simpa [Zb] using nLongSyntax.symm
  ·simpa [Zb] using nSyntaxDeep
  ·simpa [Zb] using nSyntaxType
  ·simpa [Zb] using nSyntaxStore
  ·simpa [Zb] using nSyntaxTwice
  ·simpa [Zb] using nSyntaxMany
  ·simpa [Zb] using nSyntaxTimes
  ·simpa [Zb] using nSyntaxCode
  ·simpa [Zb] using nSyntaxSum
  ·simpa [Zb] using nSyntaxRefer
  ·simpa [Zb] using nSyntaxStack
  ·simpa [Zb] using nSyntaxFuel
  ·simpa [Zb] using nLongDeep.symm
  ·simpa [Zb] using nSyntaxDeep.symm
  ·simpa [Zb] using nDeepType
  ·simpa [Zb] using nDeepStore
  ·simpa [Zb] using nDeepTwice
  ·simpa [Zb] using nDeepMany
  ·simpa [Zb] using nDeepTimes
  ·simpa [Zb] using nDeepCode
  ·simpa [Zb] using nDeepSum
  ·simpa [Zb] using nDeepRefer
  ·simpa [Zb] using nDeepStack
  ·simpa [Zb] using nDeepFuel
  ·simpa [Zb] using nLongType.symm
  ·simpa [Zb] using nSyntaxType.symm
  ·simpa [Zb] using nDeepType.symm
  ·simpa [Zb] using nTypeStore
  ·simpa [Zb] using nTypeTwice
  ·simpa [Zb] using nTypeMany
  ·simpa [Zb] using nTypeTimes
  ·simpa [Zb] using nTypeCode
  ·simpa [Zb] using nTypeSum
  ·simpa [Zb] using nTypeRefer
  ·simpa [Zb] using nTypeStack
  ·simpa [Zb] using nTypeFuel
  ·simpa [Zb] using nLongStore.symm
  ·simpa [Zb] using nSyntaxStore.symm
  ·simpa [Zb] using nDeepStore.symm
  ·simpa [Zb] using nTypeStore.symm
  ·simpa [Zb] using nStoreTwice
  ·simpa [Zb] using nStoreMany
  ·simpa [Zb] using nStoreTimes
  ·simpa [Zb] using nStoreCode
  ·simpa [Zb] using nStoreSum
  ·simpa [Zb] using nStoreRefer
  ·simpa [Zb] using nStoreStack
  ·simpa [Zb] using nStoreFuel
  ·simpa [Zb] using nLongTwice.symm
  ·simpa [Zb] using nSyntaxTwice.symm
  ·simpa [Zb] using nDeepTwice.symm
  ·simpa [Zb] using nTypeTwice.symm
  ·simpa [Zb] using nStoreTwice.symm
  ·simpa [Zb] using nTwiceMany
  ·simpa [Zb] using nTwiceTimes
  ·simpa [Zb] using nTwiceCode
  ·simpa [Zb] using nTwiceSum
  ·simpa [Zb] using nTwiceRefer
  ·simpa [Zb] using nTwiceStack
  ·simpa [Zb] using nTwiceFuel
  ·simpa [Zb] using nLongMany.symm
  ·simpa [Zb] using nSyntaxMany.symm
  ·simpa [Zb] using nDeepMany.symm
  ·simpa [Zb] using nTypeMany.symm
  ·simpa [Zb] using nStoreMany.symm
  ·simpa [Zb] using nTwiceMany.symm
  ·simpa [Zb] using nManyTimes
  ·simpa [Zb] using nManyCode
  ·simpa [Zb] using nManySum
  ·simpa [Zb] using nManyRefer
  ·simpa [Zb] using nManyStack
  ·simpa [Zb] using nManyFuel
  ·simpa [Zb] using nLongTimes.symm
  ·simpa [Zb] using nSyntaxTimes.symm
  ·simpa [Zb] using nDeepTimes.symm
  ·simpa [Zb] using nTypeTimes.symm
  ·simpa [Zb] using nStoreTimes.symm
  ·simpa [Zb] using nTwiceTimes.symm
  ·simpa [Zb] using nManyTimes.symm
  ·simpa [Zb] using nTimesCode
  ·simpa [Zb] using nTimesSum
  ·simpa [Zb] using nTimesRefer
  ·simpa [Zb] using nTimesStack
  ·simpa [Zb] using nTimesFuel
  ·simpa [Zb] using nLongCode.symm
  ·simpa [Zb] using nSyntaxCode.symm
  ·simpa [Zb] using nDeepCode.symm
  ·simpa [Zb] using nTypeCode.symm
  ·simpa [Zb] using nStoreCode.symm
  ·simpa [Zb] using nTwiceCode.symm
  ·simpa [Zb] using nManyCode.symm
  ·simpa [Zb] using nTimesCode.symm
  ·simpa [Zb] using nCodeSum
  ·simpa [Zb] using nCodeRefer
  ·simpa [Zb] using nCodeStack
  ·simpa [Zb] using nCodeFuel
  ·simpa [Zb] using nLongSum.symm
  ·simpa [Zb] using nSyntaxSum.symm
  ·simpa [Zb] using nDeepSum.symm
  ·simpa [Zb] using nTypeSum.symm
  ·simpa [Zb] using nStoreSum.symm
  ·simpa [Zb] using nTwiceSum.symm
  ·simpa [Zb] using nManySum.symm
  ·simpa [Zb] using nTimesSum.symm
  ·simpa [Zb] using nCodeSum.symm
  ·simpa [Zb] using nSumRefer
  ·simpa [Zb] using nSumStack
  ·simpa [Zb] using nSumFuel
  ·simpa [Zb] using nLongRefer.symm
  ·simpa [Zb] using nSyntaxRefer.symm
  ·simpa [Zb] using nDeepRefer.symm
  ·simpa [Zb] using nTypeRefer.symm
  ·simpa [Zb] using nStoreRefer.symm
  ·simpa [Zb] using nTwiceRefer.symm
  ·simpa [Zb] using nManyRefer.symm
  ·simpa [Zb] using nTimesRefer.symm
  ·simpa [Zb] using nCodeRefer.symm
  ·simpa [Zb] using nSumRefer.symm
  ·simpa [Zb] using nReferStack
  ·simpa [Zb] using nReferFuel
  ·simpa [Zb] using nLongStack.symm
  ·simpa [Zb] using nSyntaxStack.symm
  ·simpa [Zb] using nDeepStack.symm
  ·simpa [Zb] using nTypeStack.symm
  ·simpa [Zb] using nStoreStack.symm
  ·simpa [Zb] using nTwiceStack.symm
  ·simpa [Zb] using nManyStack.symm
  ·simpa [Zb] using nTimesStack.symm
  ·simpa [Zb] using nCodeStack.symm
  ·simpa [Zb] using nSumStack.symm
  ·simpa [Zb] using nReferStack.symm
  ·simpa [Zb] using nStackFuel
  ·simpa [Zb] using nLongFuel.symm
  ·simpa [Zb] using nSyntaxFuel.symm
  ·simpa [Zb] using nDeepFuel.symm
  ·simpa [Zb] using nTypeFuel.symm
  ·simpa [Zb] using nStoreFuel.symm
  ·simpa [Zb] using nTwiceFuel.symm
  ·simpa [Zb] using nManyFuel.symm
  ·simpa [Zb] using nTimesFuel.symm
  ·simpa [Zb] using nCodeFuel.symm
  ·simpa [Zb] using nSumFuel.symm
  ·simpa [Zb] using nReferFuel.symm
  ·simpa [Zb] using nStackFuel.symm
 ·intro g hg
  simp only[sents,List.mem_cons,List.mem_nil_iff,or_false]at hg
  rcases hg with rfl|rfl|rfl|rfl|rfl|rfl|rfl|rfl|rfl|rfl|rfl|rfl|rfl
  ·exact⟨cLong,uLong,by simpa [Zb] using rLong⟩
  ·exact⟨cSyntax,uSyntax,by simpa [Zb] using rSyntax⟩
  ·exact⟨cDeep,uDeep,by simpa [Zb] using rDeep⟩
  ·exact⟨cType,uType,by simpa [Zb] using rType⟩
  ·exact⟨cStore,uStore,by simpa [Zb] using rStore⟩
  ·exact⟨cTwice,uTwice,by simpa [Zb] using rTwice⟩
  ·exact⟨cMany,uMany,by simpa [Zb] using rMany⟩
  ·exact⟨cTimes,uTimes,by simpa [Zb] using rTimes⟩
  ·exact⟨cCode,uCode,by simpa [Zb] using rCode⟩
  ·exact⟨cSum,uSum,by simpa [Zb] using rSum⟩
  ·exact⟨cRefer,uRefer,by simpa [Zb] using rRefer⟩
  ·exact⟨cStack,uStack,by simpa [Zb] using rStack⟩
  ·exact⟨cFuel,uFuel,by simpa [Zb] using rFuel⟩
end Go.Proofs.YtpbemaaghbbocaaGreatDoor

/- Parts. -/
import Derived.Shelf.SlSortCmp.WholeK
import Derived.Test.YtmfnolgpaoldpaaGreatDoorProg
set_option linter.all false
set_option maxRecDepth 100000
set_option maxHeartbeats 16000000
namespace Go.Proofs
open Go.Shelf
open Tryz
variable {p:Prop}
theorem Tryz.krs(h:p:=by kernel_rfl):p:=h
theorem Tryz.kds(h:p:=by decide):p:=h
theorem Tryz.kfs{α:Type}{a:Option α}{b c:α}(h:a=some b)(e:b=c:=by kernel_rfl):a=some c:=h.trans (congrArg some e)
def Tryz.sortItem_ren:Go.Shelf.Ren:=⟨fun|6=>177|15=>207|14=>206|28=>241|29=>227|20=>233|21=>234|22=>235|23=>236|24=>237|25=>238|26=>239|27=>240|46=>265|47=>266|48=>267|49=>268|50=>269|57=>286|n=>n,fun|22=>220|24=>223|25=>350|3=>3|39=>288|0=>0|53=>74|55=>368|4=>4|46=>408|45=>407|50=>351|5=>5|9=>9|66=>440|70=>444|76=>455|77=>456|n=>n,fun|n=>n⟩
theorem Tryz.sortItem:Go.Proofs.SlLaysF0.n6 Tryz.prog Tryz.sortItem_ren:=⟨krs,⟨f177.name,kds,kfs func177⟩,⟨f206.name,kds,kfs func206⟩,kfs func207,⟨f233.name,kds,kfs func233⟩,⟨f234.name,kds,kfs func234⟩,⟨f235.name,kds,kfs func235⟩,⟨f236.name,kds,kfs func236⟩,⟨f237.name,kds,kfs func237⟩,⟨f238.name,kds,kfs func238⟩,⟨f239.name,kds,kfs func239⟩,⟨f240.name,kds,kfs func240⟩,kfs func241,kfs func227,⟨f265.name,kds,kfs func265⟩,kfs func266,kfs func267,⟨f268.name,kds,kfs func268⟩,⟨f269.name,kds,kfs func269⟩,⟨f286.name,kds,kfs func286⟩,underlying0,isAgg0,sizeOf0,zeroValue0,underlying3,isAgg3,sizeOf3,zeroValue3,underlying4,isAgg4,sizeOf4,zeroValue4,underlying5,isAgg5,sizeOf5,zeroValue5,underlying9,isAgg9,sizeOf9,zeroValue9,underlying220,isAgg220,sizeOf220,zeroValue220,underlying350,isAgg350,sizeOf350,zeroValue350,underlying288,isAgg288,sizeOf288,zeroValue288,underlying407,isAgg407,sizeOf407,zeroValue407,underlying408,isAgg408,sizeOf408,zeroValue408,underlying351,isAgg351,sizeOf351,zeroValue351,underlying74,isAgg74,sizeOf74,zeroValue74,underlying368,isAgg368,sizeOf368,zeroValue368,underlying440,isAgg440,sizeOf440,zeroValue440,underlying444,isAgg444,sizeOf444,zeroValue444,underlying455,isAgg455,sizeOf455,zeroValue455,underlying456,isAgg456,sizeOf456,zeroValue456⟩

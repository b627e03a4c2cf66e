/- Parts. -/
import Derived.Shelf.SlSortCmp.WholeK
import Derived.Test.YtpbemaaghbbocaaGreatDoorProg
set_option linter.all false
set_option maxRecDepth 100000
set_option maxHeartbeats 16000000
namespace Go.Proofs
open Go.Shelf
open Tryz
variable {p:Prop}
theorem Tryz.krs(h:p:=by kernel_rfl):p:=h
theorem Tryz.kds(h:p:=by decide):p:=h
theorem Tryz.kfs{α:Type}{a:Option α}{b c:α}(h:a=some b)(e:b=c:=by kernel_rfl):a=some c:=h.trans (congrArg some e)
def Tryz.sortItem_ren:Go.Shelf.Ren:=⟨fun|6=>198|15=>196|14=>228|28=>226|29=>211|20=>246|21=>247|22=>248|23=>249|24=>250|25=>251|26=>252|27=>253|46=>255|47=>242|48=>243|49=>256|50=>257|57=>258|n=>n,fun|22=>252|24=>255|25=>341|3=>3|39=>338|0=>0|53=>348|55=>328|4=>4|46=>354|45=>353|50=>138|5=>5|9=>9|66=>370|70=>374|76=>383|77=>384|n=>n,fun|n=>n⟩
theorem Tryz.sortItem:Go.Proofs.SlLaysF0.n6 Tryz.prog Tryz.sortItem_ren:=⟨krs,⟨f198.name,kds,kfs func198⟩,⟨f228.name,kds,kfs func228⟩,kfs func196,⟨f246.name,kds,kfs func246⟩,⟨f247.name,kds,kfs func247⟩,⟨f248.name,kds,kfs func248⟩,⟨f249.name,kds,kfs func249⟩,⟨f250.name,kds,kfs func250⟩,⟨f251.name,kds,kfs func251⟩,⟨f252.name,kds,kfs func252⟩,⟨f253.name,kds,kfs func253⟩,kfs func226,kfs func211,⟨f255.name,kds,kfs func255⟩,kfs func242,kfs func243,⟨f256.name,kds,kfs func256⟩,⟨f257.name,kds,kfs func257⟩,⟨f258.name,kds,kfs func258⟩,underlying0,isAgg0,sizeOf0,zeroValue0,underlying3,isAgg3,sizeOf3,zeroValue3,underlying4,isAgg4,sizeOf4,zeroValue4,underlying5,isAgg5,sizeOf5,zeroValue5,underlying9,isAgg9,sizeOf9,zeroValue9,underlying252,isAgg252,sizeOf252,zeroValue252,underlying341,isAgg341,sizeOf341,zeroValue341,underlying338,isAgg338,sizeOf338,zeroValue338,underlying353,isAgg353,sizeOf353,zeroValue353,underlying354,isAgg354,sizeOf354,zeroValue354,underlying138,isAgg138,sizeOf138,zeroValue138,underlying348,isAgg348,sizeOf348,zeroValue348,underlying328,isAgg328,sizeOf328,zeroValue328,underlying370,isAgg370,sizeOf370,zeroValue370,underlying374,isAgg374,sizeOf374,zeroValue374,underlying383,isAgg383,sizeOf383,zeroValue383,underlying384,isAgg384,sizeOf384,zeroValue384⟩

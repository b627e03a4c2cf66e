/- Parts. -/
import Derived.Shelf.SlSortCmp.WholeK
import Derived.Test.YtkodhpilkaihjaaGreatDoorProg
set_option linter.all false
set_option maxRecDepth 100000
set_option maxHeartbeats 16000000
namespace Go.Proofs
open Go.Shelf
open Tryz
variable {p:Prop}
theorem Tryz.krs(h:p:=by kernel_rfl):p:=h
theorem Tryz.kds(h:p:=by decide):p:=h
theorem Tryz.kfs{α:Type}{a:Option α}{b c:α}(h:a=some b)(e:b=c:=by kernel_rfl):a=some c:=h.trans (congrArg some e)
def Tryz.sortItem_ren:Go.Shelf.Ren:=⟨fun|6=>256|15=>254|14=>285|28=>282|29=>283|20=>300|21=>301|22=>302|23=>303|24=>304|25=>305|26=>306|27=>307|46=>312|47=>296|48=>297|49=>313|50=>314|57=>321|n=>n,fun|22=>341|24=>344|25=>437|3=>3|39=>306|0=>0|53=>76|55=>443|4=>4|46=>458|45=>457|50=>258|5=>5|9=>9|66=>469|70=>473|76=>481|77=>482|n=>n,fun|n=>n⟩
theorem Tryz.sortItem:Go.Proofs.SlLaysF0.n6 Tryz.prog Tryz.sortItem_ren:=⟨krs,⟨f256.name,kds,kfs func256⟩,⟨f285.name,kds,kfs func285⟩,kfs func254,⟨f300.name,kds,kfs func300⟩,⟨f301.name,kds,kfs func301⟩,⟨f302.name,kds,kfs func302⟩,⟨f303.name,kds,kfs func303⟩,⟨f304.name,kds,kfs func304⟩,⟨f305.name,kds,kfs func305⟩,⟨f306.name,kds,kfs func306⟩,⟨f307.name,kds,kfs func307⟩,kfs func282,kfs func283,⟨f312.name,kds,kfs func312⟩,kfs func296,kfs func297,⟨f313.name,kds,kfs func313⟩,⟨f314.name,kds,kfs func314⟩,⟨f321.name,kds,kfs func321⟩,underlying0,isAgg0,sizeOf0,zeroValue0,underlying3,isAgg3,sizeOf3,zeroValue3,underlying4,isAgg4,sizeOf4,zeroValue4,underlying5,isAgg5,sizeOf5,zeroValue5,underlying9,isAgg9,sizeOf9,zeroValue9,underlying341,isAgg341,sizeOf341,zeroValue341,underlying437,isAgg437,sizeOf437,zeroValue437,underlying306,isAgg306,sizeOf306,zeroValue306,underlying457,isAgg457,sizeOf457,zeroValue457,underlying458,isAgg458,sizeOf458,zeroValue458,underlying258,isAgg258,sizeOf258,zeroValue258,underlying76,isAgg76,sizeOf76,zeroValue76,underlying443,isAgg443,sizeOf443,zeroValue443,underlying469,isAgg469,sizeOf469,zeroValue469,underlying473,isAgg473,sizeOf473,zeroValue473,underlying481,isAgg481,sizeOf481,zeroValue481,underlying482,isAgg482,sizeOf482,zeroValue482⟩

/- Parts. -/
import Derived.Shelf.SlSortCmp.WholeK
import Derived.Test.YtcdgkkfipdoeeaaGreatDoorProg
set_option linter.all false
set_option maxRecDepth 100000
set_option maxHeartbeats 16000000
namespace Go.Proofs
open Go.Shelf
open Tryz
variable {p:Prop}
theorem Tryz.krs(h:p:=by kernel_rfl):p:=h
theorem Tryz.kds(h:p:=by decide):p:=h
theorem Tryz.kfs{α:Type}{a:Option α}{b c:α}(h:a=some b)(e:b=c:=by kernel_rfl):a=some c:=h.trans (congrArg some e)
def Tryz.sortItem_ren:Go.Shelf.Ren:=⟨fun|6=>235|15=>233|14=>267|28=>265|29=>241|20=>281|21=>282|22=>283|23=>284|24=>285|25=>286|26=>287|27=>288|46=>290|47=>277|48=>278|49=>291|50=>292|57=>293|n=>n,fun|22=>283|24=>286|25=>388|3=>3|39=>225|0=>0|53=>160|55=>363|4=>4|46=>400|45=>399|50=>106|5=>5|9=>9|66=>414|70=>418|76=>427|77=>37|n=>n,fun|n=>n⟩
theorem Tryz.sortItem:Go.Proofs.SlLaysF0.n6 Tryz.prog Tryz.sortItem_ren:=⟨krs,⟨f235.name,kds,kfs func235⟩,⟨f267.name,kds,kfs func267⟩,kfs func233,⟨f281.name,kds,kfs func281⟩,⟨f282.name,kds,kfs func282⟩,⟨f283.name,kds,kfs func283⟩,⟨f284.name,kds,kfs func284⟩,⟨f285.name,kds,kfs func285⟩,⟨f286.name,kds,kfs func286⟩,⟨f287.name,kds,kfs func287⟩,⟨f288.name,kds,kfs func288⟩,kfs func265,kfs func241,⟨f290.name,kds,kfs func290⟩,kfs func277,kfs func278,⟨f291.name,kds,kfs func291⟩,⟨f292.name,kds,kfs func292⟩,⟨f293.name,kds,kfs func293⟩,underlying0,isAgg0,sizeOf0,zeroValue0,underlying3,isAgg3,sizeOf3,zeroValue3,underlying4,isAgg4,sizeOf4,zeroValue4,underlying5,isAgg5,sizeOf5,zeroValue5,underlying9,isAgg9,sizeOf9,zeroValue9,underlying283,isAgg283,sizeOf283,zeroValue283,underlying388,isAgg388,sizeOf388,zeroValue388,underlying225,isAgg225,sizeOf225,zeroValue225,underlying399,isAgg399,sizeOf399,zeroValue399,underlying400,isAgg400,sizeOf400,zeroValue400,underlying106,isAgg106,sizeOf106,zeroValue106,underlying160,isAgg160,sizeOf160,zeroValue160,underlying363,isAgg363,sizeOf363,zeroValue363,underlying414,isAgg414,sizeOf414,zeroValue414,underlying418,isAgg418,sizeOf418,zeroValue418,underlying427,isAgg427,sizeOf427,zeroValue427,underlying37,isAgg37,sizeOf37,zeroValue37⟩

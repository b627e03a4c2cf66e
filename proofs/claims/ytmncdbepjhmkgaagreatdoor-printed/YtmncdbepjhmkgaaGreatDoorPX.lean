import Derived.Shelf.Strings.OnBuilder
import Derived.Shelf.Small.Strs
import Derived.Shelf.Strconv.Itoa3
import Derived.Shelf.Strings.Prefix
import Derived.Shelf.Strings.BuilderCap
import Derived.Test.YtmncdbepjhmkgaaGreatDoorProg
set_option maxRecDepth 100000
namespace Go.Proofs
open Go.Shelf
open Tryz
theorem Tryz.kr{p:Prop}(h:p:=by kernel_rfl):p:=h
theorem Tryz.kd{p:Prop}(h:p:=by decide):p:=h
theorem Tryz.kf{α:Type}{a:Option α}{b c:α}(h:a=some b)(e:b=c:=by kernel_rfl):a=some c:=h.trans (congrArg some e)
def Tryz.lays169_ren:Go.Shelf.Ren:=⟨fun|169=>23|n=>n,fun|70=>64|9=>9|0=>0|72=>67|37=>65|127=>134|3=>3|5=>5|n=>n,fun|n=>n⟩
theorem Tryz.lays169:Go.Proofs.Lays.n169 Tryz.prog Tryz.lays169_ren:=⟨kr,kf func23,underlying0,isAgg0,sizeOf0,zeroValue0,underlying3,isAgg3,sizeOf3,zeroValue3,underlying9,isAgg9,sizeOf9,zeroValue9,underlying65,isAgg65,sizeOf65,zeroValue65,underlying64,isAgg64,sizeOf64,zeroValue64,underlying67,isAgg67,sizeOf67,zeroValue67,underlying134,isAgg134,sizeOf134,zeroValue134⟩
theorem Tryz.Builder_Extra_169:Builder.Extra Tryz.prog Tryz.lays169_ren:={sizeBuilder:=kr,liesBuilder:=kr,t5:=underlying5,a5:=isAgg5,z5:=sizeOf5,v5:=zeroValue5,infoByte:=kr,cellsByte:=kr,sizeByte:=kr,neB5:=kd}
def Tryz.lays156_ren:Go.Shelf.Ren:=⟨fun|156=>57|165=>78|166=>52|169=>23|240=>76|241=>99|276=>97|277=>106|n=>n,fun|31=>78|9=>9|3=>3|4=>4|0=>0|20=>20|72=>67|76=>123|70=>64|37=>65|75=>33|127=>134|164=>113|5=>5|80=>69|n=>n,fun|n=>n⟩
theorem Tryz.lays156:Go.Proofs.Lays.n156 Tryz.prog Tryz.lays156_ren:=⟨kr,kf func57,kf func78,kf func52,kf func23,kf func76,kf func99,kf func97,kf func106,underlying0,isAgg0,sizeOf0,zeroValue0,underlying3,isAgg3,sizeOf3,zeroValue3,underlying4,isAgg4,sizeOf4,zeroValue4,underlying9,isAgg9,sizeOf9,zeroValue9,underlying20,isAgg20,sizeOf20,zeroValue20,underlying78,isAgg78,sizeOf78,zeroValue78,underlying65,isAgg65,sizeOf65,zeroValue65,underlying64,isAgg64,sizeOf64,zeroValue64,underlying67,isAgg67,sizeOf67,zeroValue67,underlying33,isAgg33,sizeOf33,zeroValue33,underlying123,isAgg123,sizeOf123,zeroValue123,underlying134,isAgg134,sizeOf134,zeroValue134,underlying113,isAgg113,sizeOf113,zeroValue113⟩
theorem Tryz.Builder_Extra_156:Builder.Extra Tryz.prog Tryz.lays156_ren:={sizeBuilder:=kr,liesBuilder:=kr,t5:=underlying5,a5:=isAgg5,z5:=sizeOf5,v5:=zeroValue5,infoByte:=kr,cellsByte:=kr,sizeByte:=kr,neB5:=kd}
open Go.RowKit in
theorem Tryz.strings_Join_none(a:Option Addr)(c:Nat)(sep:ByteArray)(w:World) :
  Calls Tryz.prog 57 #[.slice a 0 c,.string sep] w fun e w'=>e=.returned (.string ⟨#[]⟩)/\w'=w:=Any.strings_Join_none Tryz.lays156 Tryz.Builder_Extra_156 a c sep w
open Go.RowKit in
theorem Tryz.strings_Join(bk o c:Nat)(xs:List ByteArray)(sep:ByteArray)(w:World)(hcells:∀(j:Nat) x,xs[j]?=some x->w.cell? ⟨bk,o+j,none⟩=some (.string x))(hbk:bk<w.heap.size)(hN:xs.length<=140737488355328)(hcap:xs.length<=c)(hlen:(Lib.join (xs.map (·.data.toList)) sep.data.toList).length<=140737488355328) :
  Calls Tryz.prog 57 #[.slice (some ⟨bk,o,none⟩) xs.length c,.string sep] w fun e w'=>e=.returned (.string ⟨(Lib.join (xs.map (·.data.toList)) sep.data.toList).toArray⟩)/\Below w.heap.size w w':=Any.strings_Join Tryz.lays156 Tryz.Builder_Extra_156 bk o c xs sep w hcells hbk hN hcap hlen
def Tryz.lays137_ren:Go.Shelf.Ren:=⟨fun|137=>64|217=>88|266=>101|n=>n,fun|9=>9|5=>5|3=>3|n=>n,fun|n=>n⟩
theorem Tryz.lays137:Go.Proofs.Lays.n137 Tryz.prog Tryz.lays137_ren:=⟨kr,kf func64,kf func88,kf func101,underlying3,isAgg3,sizeOf3,zeroValue3,underlying5,isAgg5,sizeOf5,zeroValue5,underlying9,isAgg9,sizeOf9,zeroValue9⟩
open Go.RowKit in
theorem Tryz.strings_IndexByte(s:ByteArray)(c:Int)(w:World) :
  Calls Tryz.prog 64 #[.string s,.int .u8 c] w fun e w'=>e=.returned (.int .i64 (Lib.indexByte s.data.toList c.toNat.toUInt8))/\w'=w:=Any.strings_IndexByte Tryz.lays137 s c w
open Go.RowKit in
theorem Tryz.Builder_String_any_f(B b:Nat)(l:List UInt8)(w:World)(h:Lib.IsBuilderF 67 5 B b (Lib.byteCells l) w)(hBw:B<=w.heap.size) :
  Calls Tryz.prog 23 #[.pointer (some ⟨b,0,none⟩)] w fun e w'=>e=.returned (.string ⟨l.toArray⟩)/\(Lib.IsBuilderF 67 5 B b (Lib.byteCells l) w'/\Below B w w'):=Any.Builder_String_any_f Tryz.lays169 Tryz.Builder_Extra_169 B b l w h hBw
def Tryz.laysM171_ren:Go.Shelf.Ren:=⟨fun|171=>53|243=>77|246=>98|283=>102|284=>103|285=>104|286=>105|129=>109|317=>108|318=>110|319=>111|320=>112|337=>119|338=>120|n=>n,fun|3=>3|9=>9|2=>2|4=>4|171=>177|0=>0|53=>178|37=>65|5=>5|173=>181|212=>186|51=>187|20=>20|213=>188|46=>190|232=>196|233=>197|n=>n,fun|17=>15|18=>16|19=>17|n=>n⟩
theorem Tryz.laysM171:Go.Proofs.LaysM.n171 Tryz.prog Tryz.laysM171_ren:={mixed:=kr,f129:=kf func109,f171:=kf func53,f243:=kf func77,f246:=kf func98,f283:=kf func102,f284:=kf func103,f285:=kf func104,f286:=kf func105,f317:=kf func108,f318:=kf func110,f319:=kf func111,f320:=kf func112,f337:=kf func119,f338:=kf func120,t0:=underlying0,a0:=isAgg0,z0:=sizeOf0,v0:=zeroValue0,t2:=underlying2,a2:=isAgg2,z2:=sizeOf2,v2:=zeroValue2,t3:=underlying3,a3:=isAgg3,z3:=sizeOf3,v3:=zeroValue3,t4:=underlying4,a4:=isAgg4,z4:=sizeOf4,v4:=zeroValue4,t5:=underlying5,a5:=isAgg5,z5:=sizeOf5,v5:=zeroValue5,t9:=underlying9,a9:=isAgg9,z9:=sizeOf9,v9:=zeroValue9,t20:=underlying20,a20:=isAgg20,z20:=sizeOf20,v20:=zeroValue20,t37:=underlying65,a37:=isAgg65,z37:=sizeOf65,v37:=zeroValue65,t46:=underlying190,a46:=isAgg190,z46:=sizeOf190,v46:=zeroValue190,t51:=underlying187,a51:=isAgg187,z51:=sizeOf187,v51:=zeroValue187,t53:=underlying178,a53:=isAgg178,z53:=sizeOf178,v53:=zeroValue178,t171:=underlying177,a171:=isAgg177,z171:=sizeOf177,v171:=zeroValue177,t173:=underlying181,a173:=isAgg181,z173:=sizeOf181,v173:=zeroValue181,t212:=underlying186,a212:=isAgg186,z212:=sizeOf186,v212:=zeroValue186,t213:=underlying188,a213:=isAgg188,z213:=sizeOf188,t232:=underlying196,a232:=isAgg196,z232:=sizeOf196,v232:=zeroValue196,t233:=underlying197,a233:=isAgg197,z233:=sizeOf197,v233:=zeroValue197,g17:=kr,g18:=kr,g19:=kr,i0:=kr,i2:=kr,i3:=kr,i4:=kr,i5:=kr,i9:=kr,i20:=kr,i37:=kr,i46:=kr,i51:=kr,i53:=kr,i171:=kr,i173:=kr,i212:=kr,i232:=kr,i233:=kr,m17:=kr,m18:=kr,m19:=kr}
open Go.RowKit Go.Sort Go.Lib in
theorem Tryz.strconv_Itoa (n : Int) (h0 : -9223372036854775808 ≤ n) (h1 : n ≤ 9223372036854775807) (w : World) (htab : Lib.TabIs Tryz.prog w "internal/strconv.uint64pow10" .u64 Lib.pow10Tab) :
  Calls Tryz.prog 53 #[.int .i64 n] w fun e w'=>e=.returned (.string ⟨(Lib.itoa n).toArray⟩)/\∃k os,w'=grow (w.drewN k) os:=Any.strconv_Itoa Tryz.laysM171 n h0 h1 w htab
def Tryz.lays99_ren:Go.Shelf.Ren:=⟨fun|99=>63|206=>87|n=>n,fun|9=>9|4=>4|3=>3|n=>n,fun|n=>n⟩
theorem Tryz.lays99:Go.Proofs.Lays.n99 Tryz.prog Tryz.lays99_ren:=⟨kr,kf func63,kf func87,underlying3,isAgg3,sizeOf3,zeroValue3,underlying4,isAgg4,sizeOf4,zeroValue4,underlying9,isAgg9,sizeOf9,zeroValue9⟩
open Go.RowKit Go.Lib in
theorem Tryz.strings_HasPrefix(s p:ByteArray)(w:World) :
  Calls Tryz.prog 63 #[.string s,.string p] w fun e w'=>e=.returned (.bool (Lib.hasPrefix s.data.toList p.data.toList))/\w'=w:=Any.strings_HasPrefix Tryz.lays99 s p w
end Go.Proofs
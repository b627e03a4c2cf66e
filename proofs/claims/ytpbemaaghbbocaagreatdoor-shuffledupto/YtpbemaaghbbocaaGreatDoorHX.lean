import Derived.Shelf.Strings.OnBuilder
import Derived.Shelf.Small.Bits
import Derived.Shelf.Small.Strs
import Derived.Shelf.Small.Wraps
import Derived.Shelf.Strconv.Itoa3
import Derived.Shelf.Strings.Shaped
import Derived.Shelf.Sort.Plain
import Derived.Shelf.Strings.SplitShaped
import Derived.Shelf.Unicode.DecodeAny
import Derived.Shelf.Strings.BuilderCap
import Derived.Shelf.Slices.In.SortNone
import Derived.Test.YtpbemaaghbbocaaGreatDoorProg
set_option maxRecDepth 100000
namespace Go.Proofs
open Go.Shelf
open Tryz
theorem Tryz.kr{p:Prop}(h:p:=by kernel_rfl):p:=h
theorem Tryz.kd{p:Prop}(h:p:=by decide):p:=h
theorem Tryz.kf{α:Type}{a:Option α}{b c:α}(h:a=some b)(e:b=c:=by kernel_rfl):a=some c:=h.trans (congrArg some e)
def Tryz.lays169_ren:Go.Shelf.Ren:=⟨fun|169=>39|n=>n,fun|70=>99|9=>9|0=>0|72=>101|37=>63|127=>183|3=>3|5=>5|n=>n,fun|n=>n⟩
theorem Tryz.lays169:Go.Proofs.Lays.n169 Tryz.prog Tryz.lays169_ren:=⟨kr,kf func39,underlying0,isAgg0,sizeOf0,zeroValue0,underlying3,isAgg3,sizeOf3,zeroValue3,underlying9,isAgg9,sizeOf9,zeroValue9,underlying63,isAgg63,sizeOf63,zeroValue63,underlying99,isAgg99,sizeOf99,zeroValue99,underlying101,isAgg101,sizeOf101,zeroValue101,underlying183,isAgg183,sizeOf183,zeroValue183⟩
theorem Tryz.Builder_Extra_169:Builder.Extra Tryz.prog Tryz.lays169_ren:={sizeBuilder:=kr,liesBuilder:=kr,t5:=underlying5,a5:=isAgg5,z5:=sizeOf5,v5:=zeroValue5,infoByte:=kr,cellsByte:=kr,sizeByte:=kr,neB5:=kd}
def Tryz.lays156_ren:Go.Shelf.Ren:=⟨fun|156=>82|165=>122|166=>77|169=>39|240=>120|241=>162|276=>160|277=>191|n=>n,fun|31=>31|9=>9|3=>3|4=>4|0=>0|20=>20|72=>101|76=>173|70=>99|37=>63|75=>52|127=>183|164=>163|5=>5|80=>103|n=>n,fun|n=>n⟩
theorem Tryz.lays156:Go.Proofs.Lays.n156 Tryz.prog Tryz.lays156_ren:=⟨kr,kf func82,kf func122,kf func77,kf func39,kf func120,kf func162,kf func160,kf func191,underlying0,isAgg0,sizeOf0,zeroValue0,underlying3,isAgg3,sizeOf3,zeroValue3,underlying4,isAgg4,sizeOf4,zeroValue4,underlying9,isAgg9,sizeOf9,zeroValue9,underlying20,isAgg20,sizeOf20,zeroValue20,underlying31,isAgg31,sizeOf31,zeroValue31,underlying63,isAgg63,sizeOf63,zeroValue63,underlying99,isAgg99,sizeOf99,zeroValue99,underlying101,isAgg101,sizeOf101,zeroValue101,underlying52,isAgg52,sizeOf52,zeroValue52,underlying173,isAgg173,sizeOf173,zeroValue173,underlying183,isAgg183,sizeOf183,zeroValue183,underlying163,isAgg163,sizeOf163,zeroValue163⟩
theorem Tryz.Builder_Extra_156:Builder.Extra Tryz.prog Tryz.lays156_ren:={sizeBuilder:=kr,liesBuilder:=kr,t5:=underlying5,a5:=isAgg5,z5:=sizeOf5,v5:=zeroValue5,infoByte:=kr,cellsByte:=kr,sizeByte:=kr,neB5:=kd}
open Go.RowKit in
theorem Tryz.strings_Join_none(a:Option Addr)(c:Nat)(sep:ByteArray)(w:World) :
  Calls Tryz.prog 82 #[.slice a 0 c,.string sep] w fun e w'=>e=.returned (.string ⟨#[]⟩)/\w'=w:=Any.strings_Join_none Tryz.lays156 Tryz.Builder_Extra_156 a c sep w
open Go.RowKit in
theorem Tryz.strings_Join(bk o c:Nat)(xs:List ByteArray)(sep:ByteArray)(w:World)(hcells:∀(j:Nat) x,xs[j]?=some x->w.cell? ⟨bk,o+j,none⟩=some (.string x))(hbk:bk<w.heap.size)(hN:xs.length<=140737488355328)(hcap:xs.length<=c)(hlen:(Lib.join (xs.map (·.data.toList)) sep.data.toList).length<=140737488355328) :
  Calls Tryz.prog 82 #[.slice (some ⟨bk,o,none⟩) xs.length c,.string sep] w fun e w'=>e=.returned (.string ⟨(Lib.join (xs.map (·.data.toList)) sep.data.toList).toArray⟩)/\Below w.heap.size w w':=Any.strings_Join Tryz.lays156 Tryz.Builder_Extra_156 bk o c xs sep w hcells hbk hN hcap hlen
def Tryz.lays125_ren:Go.Shelf.Ren:=⟨fun|125=>196|128=>226|129=>211|n=>n,fun|46=>338|3=>3|51=>348|53=>328|4=>4|5=>5|9=>9|n=>n,fun|n=>n⟩
theorem Tryz.lays125:Go.Proofs.Lays.n125 Tryz.prog Tryz.lays125_ren:=⟨kr,kf func196,kf func226,kf func211,underlying3,isAgg3,sizeOf3,zeroValue3,underlying4,isAgg4,sizeOf4,zeroValue4,underlying5,isAgg5,sizeOf5,zeroValue5,underlying9,isAgg9,sizeOf9,zeroValue9,underlying338,isAgg338,sizeOf338,zeroValue338,underlying348,isAgg348,sizeOf348,zeroValue348,underlying328,isAgg328,sizeOf328,zeroValue328⟩
theorem Tryz.bits_Len(x:Int)(w:World)(h0:0<=x)(h1:x<=18446744073709551615) :
  Calls Tryz.prog 196 #[.int .u64 x] w fun e w'=>e=.returned (.int .i64 (Lib.bitLen x.toNat))/\w'=w:=Any.bits_Len Tryz.lays125 x w h0 h1
def Tryz.lays137_ren:Go.Shelf.Ren:=⟨fun|137=>108|217=>151|266=>186|n=>n,fun|9=>9|5=>5|3=>3|n=>n,fun|n=>n⟩
theorem Tryz.lays137:Go.Proofs.Lays.n137 Tryz.prog Tryz.lays137_ren:=⟨kr,kf func108,kf func151,kf func186,underlying3,isAgg3,sizeOf3,zeroValue3,underlying5,isAgg5,sizeOf5,zeroValue5,underlying9,isAgg9,sizeOf9,zeroValue9⟩
open Go.RowKit in
theorem Tryz.strings_IndexByte(s:ByteArray)(c:Int)(w:World) :
  Calls Tryz.prog 108 #[.string s,.int .u8 c] w fun e w'=>e=.returned (.int .i64 (Lib.indexByte s.data.toList c.toNat.toUInt8))/\w'=w:=Any.strings_IndexByte Tryz.lays137 s c w
def Tryz.lays210_ren:Go.Shelf.Ren:=⟨fun|210=>207|206=>150|n=>n,fun|9=>9|4=>4|3=>3|n=>n,fun|n=>n⟩
def Tryz.lays103_ren:Go.Shelf.Ren:=⟨fun|103=>182|210=>207|206=>150|n=>n,fun|9=>9|4=>4|24=>321|3=>3|n=>n,fun|n=>n⟩
theorem Tryz.lays103:Go.Proofs.Lays.n103 Tryz.prog Tryz.lays103_ren:=⟨kr,kf func182,kf func150,kf func207,underlying3,isAgg3,sizeOf3,zeroValue3,underlying4,isAgg4,sizeOf4,zeroValue4,underlying9,isAgg9,sizeOf9,zeroValue9,underlying321,isAgg321,sizeOf321,zeroValue321⟩
open Go.RowKit in
theorem Tryz.strings_CutPrefix(s p:ByteArray)(w:World) :
  Calls Tryz.prog 182 #[.string s,.string p] w fun e w'=>e=.returned (.tuple #[.string ⟨(Lib.trimPrefix s.data.toList p.data.toList).toArray⟩,.bool (Lib.hasPrefix s.data.toList p.data.toList)])/\w'=w:=Any.strings_CutPrefix Tryz.lays103 s p w
open Go.RowKit in
theorem Tryz.Builder_String_any_f(B b:Nat)(l:List UInt8)(w:World)(h:Lib.IsBuilderF 101 5 B b (Lib.byteCells l) w)(hBw:B<=w.heap.size) :
  Calls Tryz.prog 39 #[.pointer (some ⟨b,0,none⟩)] w fun e w'=>e=.returned (.string ⟨l.toArray⟩)/\(Lib.IsBuilderF 101 5 B b (Lib.byteCells l) w'/\Below B w w'):=Any.Builder_String_any_f Tryz.lays169 Tryz.Builder_Extra_169 B b l w h hBw
open Go.RowKit in
theorem Tryz.Builder_String_any_k(B b:Nat)(l:List UInt8)(w:World)(h:Lib.IsBuilderF 101 5 B b (Lib.byteCells l) w)(hBw:B<=w.heap.size) :
  Calls Tryz.prog 39 #[.pointer (some ⟨b,0,none⟩)] w fun e w'=>e=.returned (.string ⟨l.toArray⟩)/\(Lib.IsBuilderF 101 5 B b (Lib.byteCells l) w'/\Below B w w'/\Lib.OthersKept 5 (some b) w w'):=Any.Builder_String_any_k Tryz.lays169 Tryz.Builder_Extra_169 B b l w h hBw
def Tryz.laysM246_ren:Go.Shelf.Ren:=⟨fun|246=>161|283=>187|284=>188|285=>189|286=>190|129=>211|317=>210|318=>212|319=>213|320=>214|337=>239|338=>240|n=>n,fun|2=>2|3=>3|9=>9|4=>4|171=>327|0=>0|53=>328|37=>63|5=>5|173=>331|212=>347|51=>348|20=>20|213=>349|46=>338|232=>381|233=>382|n=>n,fun|17=>15|18=>18|19=>19|n=>n⟩
def Tryz.laysM243_ren:Go.Shelf.Ren:=⟨fun|243=>121|246=>161|283=>187|284=>188|285=>189|286=>190|129=>211|317=>210|318=>212|319=>213|320=>214|337=>239|338=>240|n=>n,fun|3=>3|9=>9|2=>2|4=>4|171=>327|0=>0|53=>328|37=>63|5=>5|173=>331|212=>347|51=>348|20=>20|213=>349|46=>338|232=>381|233=>382|n=>n,fun|17=>15|18=>18|19=>19|n=>n⟩
def Tryz.laysM171_ren:Go.Shelf.Ren:=⟨fun|171=>78|243=>121|246=>161|283=>187|284=>188|285=>189|286=>190|129=>211|317=>210|318=>212|319=>213|320=>214|337=>239|338=>240|n=>n,fun|3=>3|9=>9|2=>2|4=>4|171=>327|0=>0|53=>328|37=>63|5=>5|173=>331|212=>347|51=>348|20=>20|213=>349|46=>338|232=>381|233=>382|n=>n,fun|17=>15|18=>18|19=>19|n=>n⟩
theorem Tryz.laysM171:Go.Proofs.LaysM.n171 Tryz.prog Tryz.laysM171_ren:={mixed:=kr,f129:=kf func211,f171:=kf func78,f243:=kf func121,f246:=kf func161,f283:=kf func187,f284:=kf func188,f285:=kf func189,f286:=kf func190,f317:=kf func210,f318:=kf func212,f319:=kf func213,f320:=kf func214,f337:=kf func239,f338:=kf func240,t0:=underlying0,a0:=isAgg0,z0:=sizeOf0,v0:=zeroValue0,t2:=underlying2,a2:=isAgg2,z2:=sizeOf2,v2:=zeroValue2,t3:=underlying3,a3:=isAgg3,z3:=sizeOf3,v3:=zeroValue3,t4:=underlying4,a4:=isAgg4,z4:=sizeOf4,v4:=zeroValue4,t5:=underlying5,a5:=isAgg5,z5:=sizeOf5,v5:=zeroValue5,t9:=underlying9,a9:=isAgg9,z9:=sizeOf9,v9:=zeroValue9,t20:=underlying20,a20:=isAgg20,z20:=sizeOf20,v20:=zeroValue20,t37:=underlying63,a37:=isAgg63,z37:=sizeOf63,v37:=zeroValue63,t46:=underlying338,a46:=isAgg338,z46:=sizeOf338,v46:=zeroValue338,t51:=underlying348,a51:=isAgg348,z51:=sizeOf348,v51:=zeroValue348,t53:=underlying328,a53:=isAgg328,z53:=sizeOf328,v53:=zeroValue328,t171:=underlying327,a171:=isAgg327,z171:=sizeOf327,v171:=zeroValue327,t173:=underlying331,a173:=isAgg331,z173:=sizeOf331,v173:=zeroValue331,t212:=underlying347,a212:=isAgg347,z212:=sizeOf347,v212:=zeroValue347,t213:=underlying349,a213:=isAgg349,z213:=sizeOf349,t232:=underlying381,a232:=isAgg381,z232:=sizeOf381,v232:=zeroValue381,t233:=underlying382,a233:=isAgg382,z233:=sizeOf382,v233:=zeroValue382,g17:=kr,g18:=kr,g19:=kr,i0:=kr,i2:=kr,i3:=kr,i4:=kr,i5:=kr,i9:=kr,i20:=kr,i37:=kr,i46:=kr,i51:=kr,i53:=kr,i171:=kr,i173:=kr,i212:=kr,i232:=kr,i233:=kr,m17:=kr,m18:=kr,m19:=kr}
open Go.RowKit Go.Sort Go.Lib in
theorem Tryz.strconv_Itoa (n : Int) (h0 : -9223372036854775808 ≤ n) (h1 : n ≤ 9223372036854775807) (w : World) (htab : Lib.TabIs Tryz.prog w "internal/strconv.uint64pow10" .u64 Lib.pow10Tab) :
  Calls Tryz.prog 78 #[.int .i64 n] w fun e w'=>e=.returned (.string ⟨(Lib.itoa n).toArray⟩)/\∃k os,w'=grow (w.drewN k) os:=Any.strconv_Itoa Tryz.laysM171 n h0 h1 w htab
def Tryz.lays219_ren:Go.Shelf.Ren:=⟨fun|219=>181|217=>151|225=>204|224=>205|267=>206|266=>186|314=>232|n=>n,fun|9=>9|3=>3|4=>4|5=>5|46=>338|146=>366|51=>348|n=>n,fun|1=>14|n=>n⟩
def Tryz.lays145_ren:Go.Shelf.Ren:=⟨fun|145=>91|220=>142|219=>181|217=>151|225=>204|224=>205|267=>206|266=>186|314=>232|n=>n,fun|9=>9|4=>4|59=>203|3=>3|5=>5|46=>338|146=>366|51=>348|n=>n,fun|1=>14|n=>n⟩
theorem Tryz.lays145:Go.Proofs.Lays.n145 Tryz.prog Tryz.lays145_ren:=⟨kr,kf func91,kf func151,kf func181,kf func142,kf func205,kf func204,kf func186,kf func206,kf func232,underlying3,isAgg3,sizeOf3,zeroValue3,underlying4,isAgg4,sizeOf4,zeroValue4,underlying5,isAgg5,sizeOf5,zeroValue5,underlying9,isAgg9,sizeOf9,zeroValue9,underlying338,isAgg338,sizeOf338,zeroValue338,underlying348,isAgg348,sizeOf348,zeroValue348,underlying203,isAgg203,sizeOf203,zeroValue203,underlying366,isAgg366,sizeOf366,zeroValue366,kr⟩
open Go.RowKit Go.Lib in
theorem Tryz.strings_Cut(s sep:ByteArray)(m:Int)(w:World)(hs:s.size<4294967281)(hm:w.cell? ⟨14,0,none⟩=some (.int .i64 m)) :
  Calls Tryz.prog 91 #[.string s,.string sep] w fun e w'=>e=.returned (.tuple #[.string ⟨(Lib.cut s.data.toList sep.data.toList).1.toArray⟩,.string ⟨(Lib.cut s.data.toList sep.data.toList).2.1.toArray⟩,.bool (Lib.cut s.data.toList sep.data.toList).2.2])/\∃n,w'=w.drewN n:=Any.strings_Cut Tryz.lays145 s sep m w hs hm
def Tryz.lays190_ren:Go.Shelf.Ren:=⟨fun|190=>170|125=>196|258=>195|128=>226|129=>211|302=>217|303=>218|304=>219|305=>220|306=>221|307=>222|308=>223|309=>224|310=>225|333=>241|329=>242|330=>243|334=>244|335=>245|336=>229|344=>254|n=>n,fun|31=>31|9=>9|3=>3|46=>338|0=>0|51=>348|53=>328|4=>4|183=>354|182=>353|131=>138|5=>5|218=>370|222=>374|228=>383|229=>384|n=>n,fun|n=>n⟩
theorem Tryz.lays190:Go.Proofs.Lays.n190 Tryz.prog Tryz.lays190_ren:=⟨kr,kf func196,kf func226,kf func211,kf func170,kf func195,kf func217,kf func218,kf func219,kf func220,kf func221,kf func222,kf func223,kf func224,kf func225,kf func242,kf func243,kf func241,kf func244,kf func245,kf func229,kf func254,underlying0,isAgg0,sizeOf0,zeroValue0,underlying3,isAgg3,sizeOf3,zeroValue3,underlying4,isAgg4,sizeOf4,zeroValue4,underlying5,isAgg5,sizeOf5,zeroValue5,underlying9,isAgg9,sizeOf9,zeroValue9,underlying31,isAgg31,sizeOf31,zeroValue31,underlying338,isAgg338,sizeOf338,zeroValue338,underlying348,isAgg348,sizeOf348,zeroValue348,underlying328,isAgg328,sizeOf328,zeroValue328,underlying138,isAgg138,sizeOf138,zeroValue138,underlying353,isAgg353,sizeOf353,zeroValue353,underlying354,isAgg354,sizeOf354,zeroValue354,underlying370,isAgg370,sizeOf370,zeroValue370,underlying374,isAgg374,sizeOf374,zeroValue374,underlying383,isAgg383,sizeOf383,zeroValue383,underlying384,isAgg384,sizeOf384,zeroValue384⟩
open Go.Sort Go.RowKit in
theorem Tryz.slices_Sort_string(blk off cap:Nat)(ss:List (List UInt8))(w:World)(hH:Holds encStr w blk off ss.toArray)(hblk:blk<w.heap.size)(hsz:ss.length<4611686018427387904) :
  Calls Tryz.prog 170 #[.slice (some ⟨blk,off,none⟩) ss.length cap] w fun e w'=>
   e=.returned (.tuple #[])/\∃n os,w'=grow (putRow encStr (Sort.ahead w n) blk off (ss.mergeSort fun x y=>decide (x<=y)).toArray) os:=Any.slices_Sort_string Tryz.lays190 blk off cap ss w hH hblk hsz
def Tryz.lays99_ren:Go.Shelf.Ren:=⟨fun|99=>107|206=>150|n=>n,fun|9=>9|4=>4|3=>3|n=>n,fun|n=>n⟩
theorem Tryz.lays99:Go.Proofs.Lays.n99 Tryz.prog Tryz.lays99_ren:=⟨kr,kf func107,kf func150,underlying3,isAgg3,sizeOf3,zeroValue3,underlying4,isAgg4,sizeOf4,zeroValue4,underlying9,isAgg9,sizeOf9,zeroValue9⟩
open Go.RowKit Go.Lib in
theorem Tryz.strings_HasPrefix(s p:ByteArray)(w:World) :
  Calls Tryz.prog 107 #[.string s,.string p] w fun e w'=>e=.returned (.bool (Lib.hasPrefix s.data.toList p.data.toList))/\w'=w:=Any.strings_HasPrefix Tryz.lays99 s p w
def Tryz.lays221_ren:Go.Shelf.Ren:=⟨fun|221=>88|268=>136|138=>137|143=>138|195=>178|197=>179|218=>180|219=>181|260=>203|217=>151|225=>204|224=>205|267=>206|266=>186|314=>232|n=>n,fun|9=>9|3=>3|31=>31|4=>4|0=>0|105=>317|21=>21|5=>5|46=>338|119=>362|139=>365|138=>364|146=>366|51=>348|n=>n,fun|1=>14|3=>16|4=>17|n=>n⟩
def Tryz.lays146_ren:Go.Shelf.Ren:=⟨fun|146=>42|221=>88|268=>136|138=>137|143=>138|195=>178|197=>179|218=>180|219=>181|260=>203|217=>151|225=>204|224=>205|267=>206|266=>186|314=>232|n=>n,fun|9=>9|31=>31|3=>3|4=>4|0=>0|105=>317|21=>21|5=>5|46=>338|119=>362|139=>365|138=>364|146=>366|51=>348|n=>n,fun|1=>14|3=>16|4=>17|n=>n⟩
theorem Tryz.lays146:Go.Proofs.Lays.n146 Tryz.prog Tryz.lays146_ren:=⟨kr,kf func137,kf func138,kf func42,kf func178,kf func179,kf func151,kf func180,kf func181,kf func88,kf func205,kf func204,kf func203,kf func186,kf func206,kf func136,kf func232,underlying0,isAgg0,sizeOf0,zeroValue0,underlying3,isAgg3,sizeOf3,zeroValue3,underlying4,isAgg4,sizeOf4,zeroValue4,underlying5,isAgg5,sizeOf5,zeroValue5,underlying9,isAgg9,sizeOf9,zeroValue9,underlying21,isAgg21,sizeOf21,zeroValue21,underlying31,isAgg31,sizeOf31,zeroValue31,underlying338,isAgg338,sizeOf338,zeroValue338,underlying348,isAgg348,sizeOf348,zeroValue348,underlying317,isAgg317,sizeOf317,zeroValue317,underlying362,isAgg362,sizeOf362,underlying364,isAgg364,sizeOf364,zeroValue364,underlying365,isAgg365,sizeOf365,zeroValue365,underlying366,isAgg366,sizeOf366,zeroValue366,kr,kr,kr⟩
open Go.RowKit Go.Lib in
theorem Tryz.strings_Split(s sep:ByteArray)(m:Int)(w:World)(hs:s.size<4294967281)(hm:w.cell? ⟨14,0,none⟩=some (.int .i64 m))(h1:1<=sep.size) :
  Calls Tryz.prog 42 #[.string s,.string sep] w fun e w'=>
   e=.returned (.slice (some ⟨w.heap.size,0,none⟩) (Lib.countB s sep+1) (Lib.countB s sep+1))/\w'=w.alloc (.cells ((Lib.splitB sep 0 (Lib.countB s sep) s).map Value.string).toArray 9):=Any.strings_Split Tryz.lays146 (by kernel_rfl) s sep m w hs hm h1
open Go.RowKit Go.Sort in
theorem Tryz.slices_Sort_string_none(p:Option Addr)(cap:Nat)(w:World) :
  Calls Tryz.prog 170 #[.slice p 0 cap] w fun e w'=>e=.returned (.tuple #[])/\w'=w:=Any.slices_Sort_string_none Tryz.lays190 p cap w
end Go.Proofs
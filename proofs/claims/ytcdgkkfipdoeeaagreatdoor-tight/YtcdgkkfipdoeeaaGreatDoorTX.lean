import Derived.Shelf.Strings.OnBuilder
import Derived.Shelf.Small.Bits
import Derived.Shelf.Small.Strs
import Derived.Shelf.Small.Wraps
import Derived.Shelf.Strconv.Itoa3
import Derived.Shelf.Strings.Shaped
import Derived.Shelf.Sort.Plain
import Derived.Shelf.Strings.SplitShaped
import Derived.Shelf.Unicode.DecodeAny
import Derived.Shelf.Strings.BuilderCap
import Derived.Shelf.Slices.Clone
import Derived.Shelf.Slices.Cells
import Derived.Shelf.Slices.In.SortNone
import Derived.Shelf.SlicesE.Compact
import Derived.Test.YtcdgkkfipdoeeaaGreatDoorProg
set_option maxRecDepth 100000
namespace Go.Proofs
open Go.Shelf
open Tryz
theorem Tryz.kr{p:Prop}(h:p:=by kernel_rfl):p:=h
theorem Tryz.kd{p:Prop}(h:p:=by decide):p:=h
theorem Tryz.kf{α:Type}{a:Option α}{b c:α}(h:a=some b)(e:b=c:=by kernel_rfl):a=some c:=h.trans (congrArg some e)
def Tryz.lays169_ren:Go.Shelf.Ren:=⟨fun|169=>35|n=>n,fun|70=>86|9=>9|0=>0|72=>89|37=>87|127=>152|3=>3|5=>5|n=>n,fun|n=>n⟩
theorem Tryz.lays169:Go.Proofs.Lays.n169 Tryz.prog Tryz.lays169_ren:=⟨kr,kf func35,underlying0,isAgg0,sizeOf0,zeroValue0,underlying3,isAgg3,sizeOf3,zeroValue3,underlying9,isAgg9,sizeOf9,zeroValue9,underlying87,isAgg87,sizeOf87,zeroValue87,underlying86,isAgg86,sizeOf86,zeroValue86,underlying89,isAgg89,sizeOf89,zeroValue89,underlying152,isAgg152,sizeOf152,zeroValue152⟩
theorem Tryz.Builder_Extra_169:Builder.Extra Tryz.prog Tryz.lays169_ren:={sizeBuilder:=kr,liesBuilder:=kr,t5:=underlying5,a5:=isAgg5,z5:=sizeOf5,v5:=zeroValue5,infoByte:=kr,cellsByte:=kr,sizeByte:=kr,neB5:=kd}
def Tryz.lays156_ren:Go.Shelf.Ren:=⟨fun|156=>68|165=>114|166=>63|169=>35|240=>112|241=>176|276=>174|277=>216|n=>n,fun|31=>122|9=>9|3=>3|4=>4|0=>0|20=>20|72=>89|76=>141|70=>86|37=>87|75=>46|127=>152|164=>131|5=>5|80=>91|n=>n,fun|n=>n⟩
theorem Tryz.lays156:Go.Proofs.Lays.n156 Tryz.prog Tryz.lays156_ren:=⟨kr,kf func68,kf func114,kf func63,kf func35,kf func112,kf func176,kf func174,kf func216,underlying0,isAgg0,sizeOf0,zeroValue0,underlying3,isAgg3,sizeOf3,zeroValue3,underlying4,isAgg4,sizeOf4,zeroValue4,underlying9,isAgg9,sizeOf9,zeroValue9,underlying20,isAgg20,sizeOf20,zeroValue20,underlying122,isAgg122,sizeOf122,zeroValue122,underlying87,isAgg87,sizeOf87,zeroValue87,underlying86,isAgg86,sizeOf86,zeroValue86,underlying89,isAgg89,sizeOf89,zeroValue89,underlying46,isAgg46,sizeOf46,zeroValue46,underlying141,isAgg141,sizeOf141,zeroValue141,underlying152,isAgg152,sizeOf152,zeroValue152,underlying131,isAgg131,sizeOf131,zeroValue131⟩
theorem Tryz.Builder_Extra_156:Builder.Extra Tryz.prog Tryz.lays156_ren:={sizeBuilder:=kr,liesBuilder:=kr,t5:=underlying5,a5:=isAgg5,z5:=sizeOf5,v5:=zeroValue5,infoByte:=kr,cellsByte:=kr,sizeByte:=kr,neB5:=kd}
open Go.RowKit in
theorem Tryz.strings_Join_none(a:Option Addr)(c:Nat)(sep:ByteArray)(w:World) :
  Calls Tryz.prog 68 #[.slice a 0 c,.string sep] w fun e w'=>e=.returned (.string ⟨#[]⟩)/\w'=w:=Any.strings_Join_none Tryz.lays156 Tryz.Builder_Extra_156 a c sep w
open Go.RowKit in
theorem Tryz.strings_Join(bk o c:Nat)(xs:List ByteArray)(sep:ByteArray)(w:World)(hcells:∀(j:Nat) x,xs[j]?=some x->w.cell? ⟨bk,o+j,none⟩=some (.string x))(hbk:bk<w.heap.size)(hN:xs.length<=140737488355328)(hcap:xs.length<=c)(hlen:(Lib.join (xs.map (·.data.toList)) sep.data.toList).length<=140737488355328) :
  Calls Tryz.prog 68 #[.slice (some ⟨bk,o,none⟩) xs.length c,.string sep] w fun e w'=>e=.returned (.string ⟨(Lib.join (xs.map (·.data.toList)) sep.data.toList).toArray⟩)/\Below w.heap.size w w':=Any.strings_Join Tryz.lays156 Tryz.Builder_Extra_156 bk o c xs sep w hcells hbk hN hcap hlen
def Tryz.lays125_ren:Go.Shelf.Ren:=⟨fun|125=>233|128=>265|129=>241|n=>n,fun|46=>225|3=>3|51=>160|53=>363|4=>4|5=>5|9=>9|n=>n,fun|n=>n⟩
theorem Tryz.lays125:Go.Proofs.Lays.n125 Tryz.prog Tryz.lays125_ren:=⟨kr,kf func233,kf func265,kf func241,underlying3,isAgg3,sizeOf3,zeroValue3,underlying4,isAgg4,sizeOf4,zeroValue4,underlying5,isAgg5,sizeOf5,zeroValue5,underlying9,isAgg9,sizeOf9,zeroValue9,underlying225,isAgg225,sizeOf225,zeroValue225,underlying160,isAgg160,sizeOf160,zeroValue160,underlying363,isAgg363,sizeOf363,zeroValue363⟩
theorem Tryz.bits_Len(x:Int)(w:World)(h0:0<=x)(h1:x<=18446744073709551615) :
  Calls Tryz.prog 233 #[.int .u64 x] w fun e w'=>e=.returned (.int .i64 (Lib.bitLen x.toNat))/\w'=w:=Any.bits_Len Tryz.lays125 x w h0 h1
def Tryz.lays137_ren:Go.Shelf.Ren:=⟨fun|137=>100|217=>165|266=>211|n=>n,fun|9=>9|5=>5|3=>3|n=>n,fun|n=>n⟩
theorem Tryz.lays137:Go.Proofs.Lays.n137 Tryz.prog Tryz.lays137_ren:=⟨kr,kf func100,kf func165,kf func211,underlying3,isAgg3,sizeOf3,zeroValue3,underlying5,isAgg5,sizeOf5,zeroValue5,underlying9,isAgg9,sizeOf9,zeroValue9⟩
open Go.RowKit in
theorem Tryz.strings_IndexByte(s:ByteArray)(c:Int)(w:World) :
  Calls Tryz.prog 100 #[.string s,.int .u8 c] w fun e w'=>e=.returned (.int .i64 (Lib.indexByte s.data.toList c.toNat.toUInt8))/\w'=w:=Any.strings_IndexByte Tryz.lays137 s c w
def Tryz.lays103_ren:Go.Shelf.Ren:=⟨fun|103=>226|210=>252|206=>164|n=>n,fun|9=>9|4=>4|24=>372|3=>3|n=>n,fun|n=>n⟩
theorem Tryz.lays103:Go.Proofs.Lays.n103 Tryz.prog Tryz.lays103_ren:=⟨kr,kf func226,kf func164,kf func252,underlying3,isAgg3,sizeOf3,zeroValue3,underlying4,isAgg4,sizeOf4,zeroValue4,underlying9,isAgg9,sizeOf9,zeroValue9,underlying372,isAgg372,sizeOf372,zeroValue372⟩
open Go.RowKit in
theorem Tryz.strings_CutPrefix(s p:ByteArray)(w:World) :
  Calls Tryz.prog 226 #[.string s,.string p] w fun e w'=>e=.returned (.tuple #[.string ⟨(Lib.trimPrefix s.data.toList p.data.toList).toArray⟩,.bool (Lib.hasPrefix s.data.toList p.data.toList)])/\w'=w:=Any.strings_CutPrefix Tryz.lays103 s p w
open Go.RowKit in
theorem Tryz.Builder_String_any_f(B b:Nat)(l:List UInt8)(w:World)(h:Lib.IsBuilderF 89 5 B b (Lib.byteCells l) w)(hBw:B<=w.heap.size) :
  Calls Tryz.prog 35 #[.pointer (some ⟨b,0,none⟩)] w fun e w'=>e=.returned (.string ⟨l.toArray⟩)/\(Lib.IsBuilderF 89 5 B b (Lib.byteCells l) w'/\Below B w w'):=Any.Builder_String_any_f Tryz.lays169 Tryz.Builder_Extra_169 B b l w h hBw
open Go.RowKit in
theorem Tryz.Builder_String_any_k(B b:Nat)(l:List UInt8)(w:World)(h:Lib.IsBuilderF 89 5 B b (Lib.byteCells l) w)(hBw:B<=w.heap.size) :
  Calls Tryz.prog 35 #[.pointer (some ⟨b,0,none⟩)] w fun e w'=>e=.returned (.string ⟨l.toArray⟩)/\(Lib.IsBuilderF 89 5 B b (Lib.byteCells l) w'/\Below B w w'/\Lib.OthersKept 5 (some b) w w'):=Any.Builder_String_any_k Tryz.lays169 Tryz.Builder_Extra_169 B b l w h hBw
def Tryz.laysM171_ren:Go.Shelf.Ren:=⟨fun|171=>64|243=>113|246=>175|283=>212|284=>213|285=>214|286=>215|129=>241|317=>240|318=>242|319=>243|320=>244|337=>271|338=>272|n=>n,fun|3=>3|9=>9|2=>2|4=>4|171=>362|0=>0|53=>363|37=>87|5=>5|173=>366|212=>392|51=>160|20=>20|213=>393|46=>225|232=>425|233=>426|n=>n,fun|17=>15|18=>18|19=>19|n=>n⟩
theorem Tryz.laysM171:Go.Proofs.LaysM.n171 Tryz.prog Tryz.laysM171_ren:={mixed:=kr,f129:=kf func241,f171:=kf func64,f243:=kf func113,f246:=kf func175,f283:=kf func212,f284:=kf func213,f285:=kf func214,f286:=kf func215,f317:=kf func240,f318:=kf func242,f319:=kf func243,f320:=kf func244,f337:=kf func271,f338:=kf func272,t0:=underlying0,a0:=isAgg0,z0:=sizeOf0,v0:=zeroValue0,t2:=underlying2,a2:=isAgg2,z2:=sizeOf2,v2:=zeroValue2,t3:=underlying3,a3:=isAgg3,z3:=sizeOf3,v3:=zeroValue3,t4:=underlying4,a4:=isAgg4,z4:=sizeOf4,v4:=zeroValue4,t5:=underlying5,a5:=isAgg5,z5:=sizeOf5,v5:=zeroValue5,t9:=underlying9,a9:=isAgg9,z9:=sizeOf9,v9:=zeroValue9,t20:=underlying20,a20:=isAgg20,z20:=sizeOf20,v20:=zeroValue20,t37:=underlying87,a37:=isAgg87,z37:=sizeOf87,v37:=zeroValue87,t46:=underlying225,a46:=isAgg225,z46:=sizeOf225,v46:=zeroValue225,t51:=underlying160,a51:=isAgg160,z51:=sizeOf160,v51:=zeroValue160,t53:=underlying363,a53:=isAgg363,z53:=sizeOf363,v53:=zeroValue363,t171:=underlying362,a171:=isAgg362,z171:=sizeOf362,v171:=zeroValue362,t173:=underlying366,a173:=isAgg366,z173:=sizeOf366,v173:=zeroValue366,t212:=underlying392,a212:=isAgg392,z212:=sizeOf392,v212:=zeroValue392,t213:=underlying393,a213:=isAgg393,z213:=sizeOf393,t232:=underlying425,a232:=isAgg425,z232:=sizeOf425,v232:=zeroValue425,t233:=underlying426,a233:=isAgg426,z233:=sizeOf426,v233:=zeroValue426,g17:=kr,g18:=kr,g19:=kr,i0:=kr,i2:=kr,i3:=kr,i4:=kr,i5:=kr,i9:=kr,i20:=kr,i37:=kr,i46:=kr,i51:=kr,i53:=kr,i171:=kr,i173:=kr,i212:=kr,i232:=kr,i233:=kr,m17:=kr,m18:=kr,m19:=kr}
open Go.RowKit Go.Sort Go.Lib in
theorem Tryz.strconv_Itoa (n : Int) (h0 : -9223372036854775808 ≤ n) (h1 : n ≤ 9223372036854775807) (w : World) (htab : Lib.TabIs Tryz.prog w "internal/strconv.uint64pow10" .u64 Lib.pow10Tab) :
  Calls Tryz.prog 64 #[.int .i64 n] w fun e w'=>e=.returned (.string ⟨(Lib.itoa n).toArray⟩)/\∃k os,w'=grow (w.drewN k) os:=Any.strconv_Itoa Tryz.laysM171 n h0 h1 w htab
def Tryz.lays145_ren:Go.Shelf.Ren:=⟨fun|145=>150|220=>195|219=>225|217=>165|225=>249|224=>250|267=>251|266=>211|314=>275|n=>n,fun|9=>9|4=>4|59=>275|3=>3|5=>5|46=>225|146=>412|51=>160|n=>n,fun|1=>14|n=>n⟩
theorem Tryz.lays145:Go.Proofs.Lays.n145 Tryz.prog Tryz.lays145_ren:=⟨kr,kf func150,kf func165,kf func225,kf func195,kf func250,kf func249,kf func211,kf func251,kf func275,underlying3,isAgg3,sizeOf3,zeroValue3,underlying4,isAgg4,sizeOf4,zeroValue4,underlying5,isAgg5,sizeOf5,zeroValue5,underlying9,isAgg9,sizeOf9,zeroValue9,underlying225,isAgg225,sizeOf225,zeroValue225,underlying160,isAgg160,sizeOf160,zeroValue160,underlying275,isAgg275,sizeOf275,zeroValue275,underlying412,isAgg412,sizeOf412,zeroValue412,kr⟩
open Go.RowKit Go.Lib in
theorem Tryz.strings_Cut(s sep:ByteArray)(m:Int)(w:World)(hs:s.size<4294967281)(hm:w.cell? ⟨14,0,none⟩=some (.int .i64 m)) :
  Calls Tryz.prog 150 #[.string s,.string sep] w fun e w'=>e=.returned (.tuple #[.string ⟨(Lib.cut s.data.toList sep.data.toList).1.toArray⟩,.string ⟨(Lib.cut s.data.toList sep.data.toList).2.1.toArray⟩,.bool (Lib.cut s.data.toList sep.data.toList).2.2])/\∃n,w'=w.drewN n:=Any.strings_Cut Tryz.lays145 s sep m w hs hm
def Tryz.lays190_ren:Go.Shelf.Ren:=⟨fun|190=>203|125=>233|258=>232|128=>265|129=>241|302=>256|303=>257|304=>258|305=>259|306=>260|307=>261|308=>262|309=>263|310=>264|333=>276|329=>277|330=>278|334=>279|335=>280|336=>268|344=>289|n=>n,fun|31=>122|9=>9|3=>3|46=>225|0=>0|51=>160|53=>363|4=>4|183=>400|182=>399|131=>106|5=>5|218=>414|222=>418|228=>427|229=>37|n=>n,fun|n=>n⟩
theorem Tryz.lays190:Go.Proofs.Lays.n190 Tryz.prog Tryz.lays190_ren:=⟨kr,kf func233,kf func265,kf func241,kf func203,kf func232,kf func256,kf func257,kf func258,kf func259,kf func260,kf func261,kf func262,kf func263,kf func264,kf func277,kf func278,kf func276,kf func279,kf func280,kf func268,kf func289,underlying0,isAgg0,sizeOf0,zeroValue0,underlying3,isAgg3,sizeOf3,zeroValue3,underlying4,isAgg4,sizeOf4,zeroValue4,underlying5,isAgg5,sizeOf5,zeroValue5,underlying9,isAgg9,sizeOf9,zeroValue9,underlying122,isAgg122,sizeOf122,zeroValue122,underlying225,isAgg225,sizeOf225,zeroValue225,underlying160,isAgg160,sizeOf160,zeroValue160,underlying363,isAgg363,sizeOf363,zeroValue363,underlying106,isAgg106,sizeOf106,zeroValue106,underlying399,isAgg399,sizeOf399,zeroValue399,underlying400,isAgg400,sizeOf400,zeroValue400,underlying414,isAgg414,sizeOf414,zeroValue414,underlying418,isAgg418,sizeOf418,zeroValue418,underlying427,isAgg427,sizeOf427,zeroValue427,underlying37,isAgg37,sizeOf37,zeroValue37⟩
open Go.Sort Go.RowKit in
theorem Tryz.slices_Sort_string(blk off cap:Nat)(ss:List (List UInt8))(w:World)(hH:Holds encStr w blk off ss.toArray)(hblk:blk<w.heap.size)(hsz:ss.length<4611686018427387904) :
  Calls Tryz.prog 203 #[.slice (some ⟨blk,off,none⟩) ss.length cap] w fun e w'=>
   e=.returned (.tuple #[])/\∃n os,w'=grow (putRow encStr (Sort.ahead w n) blk off (ss.mergeSort fun x y=>decide (x<=y)).toArray) os:=Any.slices_Sort_string Tryz.lays190 blk off cap ss w hH hblk hsz
def Tryz.lays99_ren:Go.Shelf.Ren:=⟨fun|99=>99|206=>164|n=>n,fun|9=>9|4=>4|3=>3|n=>n,fun|n=>n⟩
theorem Tryz.lays99:Go.Proofs.Lays.n99 Tryz.prog Tryz.lays99_ren:=⟨kr,kf func99,kf func164,underlying3,isAgg3,sizeOf3,zeroValue3,underlying4,isAgg4,sizeOf4,zeroValue4,underlying9,isAgg9,sizeOf9,zeroValue9⟩
open Go.RowKit Go.Lib in
theorem Tryz.strings_HasPrefix(s p:ByteArray)(w:World) :
  Calls Tryz.prog 99 #[.string s,.string p] w fun e w'=>e=.returned (.bool (Lib.hasPrefix s.data.toList p.data.toList))/\w'=w:=Any.strings_HasPrefix Tryz.lays99 s p w
def Tryz.lays146_ren:Go.Shelf.Ren:=⟨fun|146=>86|221=>147|268=>189|138=>190|143=>191|195=>222|197=>223|218=>224|219=>225|260=>248|217=>165|225=>249|224=>250|267=>251|266=>211|314=>275|n=>n,fun|9=>9|31=>122|3=>3|4=>4|0=>0|105=>375|21=>21|5=>5|46=>225|119=>408|139=>411|138=>410|146=>412|51=>160|n=>n,fun|1=>14|3=>16|4=>17|n=>n⟩
theorem Tryz.lays146:Go.Proofs.Lays.n146 Tryz.prog Tryz.lays146_ren:=⟨kr,kf func190,kf func191,kf func86,kf func222,kf func223,kf func165,kf func224,kf func225,kf func147,kf func250,kf func249,kf func248,kf func211,kf func251,kf func189,kf func275,underlying0,isAgg0,sizeOf0,zeroValue0,underlying3,isAgg3,sizeOf3,zeroValue3,underlying4,isAgg4,sizeOf4,zeroValue4,underlying5,isAgg5,sizeOf5,zeroValue5,underlying9,isAgg9,sizeOf9,zeroValue9,underlying21,isAgg21,sizeOf21,zeroValue21,underlying122,isAgg122,sizeOf122,zeroValue122,underlying225,isAgg225,sizeOf225,zeroValue225,underlying160,isAgg160,sizeOf160,zeroValue160,underlying375,isAgg375,sizeOf375,zeroValue375,underlying408,isAgg408,sizeOf408,underlying410,isAgg410,sizeOf410,zeroValue410,underlying411,isAgg411,sizeOf411,zeroValue411,underlying412,isAgg412,sizeOf412,zeroValue412,kr,kr,kr⟩
open Go.RowKit Go.Lib in
theorem Tryz.strings_Split(s sep:ByteArray)(m:Int)(w:World)(hs:s.size<4294967281)(hm:w.cell? ⟨14,0,none⟩=some (.int .i64 m))(h1:1<=sep.size) :
  Calls Tryz.prog 86 #[.string s,.string sep] w fun e w'=>
   e=.returned (.slice (some ⟨w.heap.size,0,none⟩) (Lib.countB s sep+1) (Lib.countB s sep+1))/\w'=w.alloc (.cells ((Lib.splitB sep 0 (Lib.countB s sep) s).map Value.string).toArray 9):=Any.strings_Split Tryz.lays146 (by kernel_rfl) s sep m w hs hm h1
def Tryz.laysNm215_ren:Go.Shelf.Ren:=⟨fun|15=>125|n=>n,fun|22=>54|3=>3|4=>4|n=>n,fun|n=>n⟩
theorem Tryz.laysNm215:Go.Proofs.Lays2.n15 Tryz.prog Tryz.laysNm215_ren:=⟨kr,kf func125,underlying3,isAgg3,sizeOf3,zeroValue3,underlying4,isAgg4,sizeOf4,zeroValue4,underlying54,isAgg54,sizeOf54,zeroValue54,kr⟩
open Go.RowKit Go.Lib in
theorem Tryz.slices_Clone_int(b off n c:Nat)(zs:List Int)(w:World)(hz:n<=zs.length)(hbig:n*8<=140737488355328)(hc:∀j,j<zs.length->w.cell? ⟨b,off+j,none⟩=some (.int .i64 (zs.getD j 0))) :
  Calls Tryz.prog 125 #[.slice (some ⟨b,off,none⟩) n c] w fun e w'=>∃v',e=.returned v'/\w'.ownsRow w.heap.size 3 1 v' n ((zs.take n).map (Value.int .i64))/\v'≠.slice none 0 0/\Below w.heap.size w w':=Any.slices_Clone_int Tryz.laysNm215 b off n c zs w hz hbig hc
def Tryz.lays194_ren:Go.Shelf.Ren:=⟨fun|194=>180|n=>n,fun|31=>122|9=>9|3=>3|4=>4|0=>0|n=>n,fun|n=>n⟩
theorem Tryz.lays194:Go.Proofs.Lays.n194 Tryz.prog Tryz.lays194_ren:=⟨kr,kf func180,underlying0,isAgg0,sizeOf0,zeroValue0,underlying3,isAgg3,sizeOf3,zeroValue3,underlying4,isAgg4,sizeOf4,zeroValue4,underlying9,isAgg9,sizeOf9,zeroValue9,underlying122,isAgg122,sizeOf122,zeroValue122⟩
open Go.RowKit Go.Lib Go.Sort in
theorem Tryz.slices_Compact_string(blk off cap:Nat)(zs:List (List UInt8))(w:World)(hH:Holds encStr w blk off zs.toArray)(hsz:zs.length<=9223372036854775807)(hcap:zs.length<=cap) :
  Calls Tryz.prog 180 #[.slice (some ⟨blk,off,none⟩) zs.length cap] w fun e w'=>e=.returned (.slice (some ⟨blk,off,none⟩) (Lib.compact zs).length cap)/\∃q,w'=putRow encStr (Sort.ahead w q) blk off (Lib.compact zs++List.replicate (zs.length - (Lib.compact zs).length) []).toArray:=Any.slices_Compact_string Tryz.lays194 blk off cap zs w hH hsz hcap
open Go.RowKit Go.Lib Go.Sort in
theorem Tryz.slices_Compact_string_empty(a:Option Addr)(cap:Nat)(w:World) :
  Calls Tryz.prog 180 #[.slice a 0 cap] w fun e w'=>e=.returned (.slice a 0 cap)/\w'=w:=Any.slices_Compact_string_empty Tryz.lays194 a cap w
open Go.RowKit Go.Sort in
theorem Tryz.slices_Sort_string_none(p:Option Addr)(cap:Nat)(w:World) :
  Calls Tryz.prog 203 #[.slice p 0 cap] w fun e w'=>e=.returned (.tuple #[])/\w'=w:=Any.slices_Sort_string_none Tryz.lays190 p cap w
end Go.Proofs
import Derived.Shelf.Strings.OnBuilder
import Derived.Shelf.Small.Bits
import Derived.Shelf.Small.Strs
import Derived.Shelf.Small.Wraps
import Derived.Shelf.Strconv.Itoa3
import Derived.Shelf.Strings.Shaped
import Derived.Shelf.Sort.Plain
import Derived.Shelf.Strings.SplitShaped
import Derived.Shelf.Unicode.DecodeAny
import Derived.Shelf.Strings.BuilderCap
import Derived.Shelf.Slices.In.SortNone
import Derived.Test.YtmfnolgpaoldpaaGreatDoorProg
set_option maxRecDepth 100000
namespace Go.Proofs
open Go.Shelf
open Tryz
theorem Tryz.kr{p:Prop}(h:p:=by kernel_rfl):p:=h
theorem Tryz.kd{p:Prop}(h:p:=by decide):p:=h
theorem Tryz.kf{α:Type}{a:Option α}{b c:α}(h:a=some b)(e:b=c:=by kernel_rfl):a=some c:=h.trans (congrArg some e)
def Tryz.lays169_ren:Go.Shelf.Ren:=⟨fun|169=>95|n=>n,fun|70=>215|9=>9|0=>0|72=>217|37=>119|127=>307|3=>3|5=>5|n=>n,fun|n=>n⟩
theorem Tryz.lays169:Go.Proofs.Lays.n169 Tryz.prog Tryz.lays169_ren:=⟨kr,kf func95,underlying0,isAgg0,sizeOf0,zeroValue0,underlying3,isAgg3,sizeOf3,zeroValue3,underlying9,isAgg9,sizeOf9,zeroValue9,underlying119,isAgg119,sizeOf119,zeroValue119,underlying215,isAgg215,sizeOf215,zeroValue215,underlying217,isAgg217,sizeOf217,zeroValue217,underlying307,isAgg307,sizeOf307,zeroValue307⟩
theorem Tryz.Builder_Extra_169:Builder.Extra Tryz.prog Tryz.lays169_ren:={sizeBuilder:=kr,liesBuilder:=kr,t5:=underlying5,a5:=isAgg5,z5:=sizeOf5,v5:=zeroValue5,infoByte:=kr,cellsByte:=kr,sizeByte:=kr,neB5:=kd}
def Tryz.lays156_ren:Go.Shelf.Ren:=⟨fun|156=>52|165=>102|166=>92|169=>95|240=>135|241=>150|276=>172|277=>182|n=>n,fun|31=>57|9=>9|3=>3|4=>4|0=>0|20=>20|72=>217|76=>188|70=>215|37=>119|75=>37|127=>307|164=>145|5=>5|80=>25|n=>n,fun|n=>n⟩
theorem Tryz.lays156:Go.Proofs.Lays.n156 Tryz.prog Tryz.lays156_ren:=⟨kr,kf func52,kf func102,kf func92,kf func95,kf func135,kf func150,kf func172,kf func182,underlying0,isAgg0,sizeOf0,zeroValue0,underlying3,isAgg3,sizeOf3,zeroValue3,underlying4,isAgg4,sizeOf4,zeroValue4,underlying9,isAgg9,sizeOf9,zeroValue9,underlying20,isAgg20,sizeOf20,zeroValue20,underlying57,isAgg57,sizeOf57,zeroValue57,underlying119,isAgg119,sizeOf119,zeroValue119,underlying215,isAgg215,sizeOf215,zeroValue215,underlying217,isAgg217,sizeOf217,zeroValue217,underlying37,isAgg37,sizeOf37,zeroValue37,underlying188,isAgg188,sizeOf188,zeroValue188,underlying307,isAgg307,sizeOf307,zeroValue307,underlying145,isAgg145,sizeOf145,zeroValue145⟩
theorem Tryz.Builder_Extra_156:Builder.Extra Tryz.prog Tryz.lays156_ren:={sizeBuilder:=kr,liesBuilder:=kr,t5:=underlying5,a5:=isAgg5,z5:=sizeOf5,v5:=zeroValue5,infoByte:=kr,cellsByte:=kr,sizeByte:=kr,neB5:=kd}
open Go.RowKit in
theorem Tryz.strings_Join_none(a:Option Addr)(c:Nat)(sep:ByteArray)(w:World) :
  Calls Tryz.prog 52 #[.slice a 0 c,.string sep] w fun e w'=>e=.returned (.string ⟨#[]⟩)/\w'=w:=Any.strings_Join_none Tryz.lays156 Tryz.Builder_Extra_156 a c sep w
open Go.RowKit in
theorem Tryz.strings_Join(bk o c:Nat)(xs:List ByteArray)(sep:ByteArray)(w:World)(hcells:∀(j:Nat) x,xs[j]?=some x->w.cell? ⟨bk,o+j,none⟩=some (.string x))(hbk:bk<w.heap.size)(hN:xs.length<=140737488355328)(hcap:xs.length<=c)(hlen:(Lib.join (xs.map (·.data.toList)) sep.data.toList).length<=140737488355328) :
  Calls Tryz.prog 52 #[.slice (some ⟨bk,o,none⟩) xs.length c,.string sep] w fun e w'=>e=.returned (.string ⟨(Lib.join (xs.map (·.data.toList)) sep.data.toList).toArray⟩)/\Below w.heap.size w w':=Any.strings_Join Tryz.lays156 Tryz.Builder_Extra_156 bk o c xs sep w hcells hbk hN hcap hlen
def Tryz.lays125_ren:Go.Shelf.Ren:=⟨fun|125=>207|128=>241|129=>227|n=>n,fun|46=>288|3=>3|51=>74|53=>368|4=>4|5=>5|9=>9|n=>n,fun|n=>n⟩
theorem Tryz.lays125:Go.Proofs.Lays.n125 Tryz.prog Tryz.lays125_ren:=⟨kr,kf func207,kf func241,kf func227,underlying3,isAgg3,sizeOf3,zeroValue3,underlying4,isAgg4,sizeOf4,zeroValue4,underlying5,isAgg5,sizeOf5,zeroValue5,underlying9,isAgg9,sizeOf9,zeroValue9,underlying288,isAgg288,sizeOf288,zeroValue288,underlying74,isAgg74,sizeOf74,zeroValue74,underlying368,isAgg368,sizeOf368,zeroValue368⟩
theorem Tryz.bits_Len(x:Int)(w:World)(h0:0<=x)(h1:x<=18446744073709551615) :
  Calls Tryz.prog 207 #[.int .u64 x] w fun e w'=>e=.returned (.int .i64 (Lib.bitLen x.toNat))/\w'=w:=Any.bits_Len Tryz.lays125 x w h0 h1
def Tryz.lays137_ren:Go.Shelf.Ren:=⟨fun|137=>272|217=>193|266=>223|n=>n,fun|9=>9|5=>5|3=>3|n=>n,fun|n=>n⟩
theorem Tryz.lays137:Go.Proofs.Lays.n137 Tryz.prog Tryz.lays137_ren:=⟨kr,kf func272,kf func193,kf func223,underlying3,isAgg3,sizeOf3,zeroValue3,underlying5,isAgg5,sizeOf5,zeroValue5,underlying9,isAgg9,sizeOf9,zeroValue9⟩
open Go.RowKit in
theorem Tryz.strings_IndexByte(s:ByteArray)(c:Int)(w:World) :
  Calls Tryz.prog 272 #[.string s,.int .u8 c] w fun e w'=>e=.returned (.int .i64 (Lib.indexByte s.data.toList c.toNat.toUInt8))/\w'=w:=Any.strings_IndexByte Tryz.lays137 s c w
def Tryz.lays103_ren:Go.Shelf.Ren:=⟨fun|103=>169|210=>198|206=>225|n=>n,fun|9=>9|4=>4|24=>341|3=>3|n=>n,fun|n=>n⟩
theorem Tryz.lays103:Go.Proofs.Lays.n103 Tryz.prog Tryz.lays103_ren:=⟨kr,kf func169,kf func225,kf func198,underlying3,isAgg3,sizeOf3,zeroValue3,underlying4,isAgg4,sizeOf4,zeroValue4,underlying9,isAgg9,sizeOf9,zeroValue9,underlying341,isAgg341,sizeOf341,zeroValue341⟩
open Go.RowKit in
theorem Tryz.strings_CutPrefix(s p:ByteArray)(w:World) :
  Calls Tryz.prog 169 #[.string s,.string p] w fun e w'=>e=.returned (.tuple #[.string ⟨(Lib.trimPrefix s.data.toList p.data.toList).toArray⟩,.bool (Lib.hasPrefix s.data.toList p.data.toList)])/\w'=w:=Any.strings_CutPrefix Tryz.lays103 s p w
def Tryz.lays104_ren:Go.Shelf.Ren:=⟨fun|104=>187|211=>215|207=>243|n=>n,fun|9=>9|4=>4|24=>341|3=>3|n=>n,fun|n=>n⟩
theorem Tryz.lays104:Go.Proofs.Lays.n104 Tryz.prog Tryz.lays104_ren:=⟨kr,kf func187,kf func243,kf func215,underlying3,isAgg3,sizeOf3,zeroValue3,underlying4,isAgg4,sizeOf4,zeroValue4,underlying9,isAgg9,sizeOf9,zeroValue9,underlying341,isAgg341,sizeOf341,zeroValue341⟩
open Go.RowKit in
theorem Tryz.strings_CutSuffix(s p:ByteArray)(w:World)(hs:s.size<=9223372036854775807) :
  Calls Tryz.prog 187 #[.string s,.string p] w fun e w'=>e=.returned (.tuple #[.string ⟨(Lib.trimSuffix s.data.toList p.data.toList).toArray⟩,.bool (Lib.hasSuffix s.data.toList p.data.toList)])/\w'=w:=Any.strings_CutSuffix Tryz.lays104 s p w hs
open Go.RowKit in
theorem Tryz.Builder_String_any_f(B b:Nat)(l:List UInt8)(w:World)(h:Lib.IsBuilderF 217 5 B b (Lib.byteCells l) w)(hBw:B<=w.heap.size) :
  Calls Tryz.prog 95 #[.pointer (some ⟨b,0,none⟩)] w fun e w'=>e=.returned (.string ⟨l.toArray⟩)/\(Lib.IsBuilderF 217 5 B b (Lib.byteCells l) w'/\Below B w w'):=Any.Builder_String_any_f Tryz.lays169 Tryz.Builder_Extra_169 B b l w h hBw
open Go.RowKit in
theorem Tryz.Builder_String_any_k(B b:Nat)(l:List UInt8)(w:World)(h:Lib.IsBuilderF 217 5 B b (Lib.byteCells l) w)(hBw:B<=w.heap.size) :
  Calls Tryz.prog 95 #[.pointer (some ⟨b,0,none⟩)] w fun e w'=>e=.returned (.string ⟨l.toArray⟩)/\(Lib.IsBuilderF 217 5 B b (Lib.byteCells l) w'/\Below B w w'/\Lib.OthersKept 5 (some b) w w'):=Any.Builder_String_any_k Tryz.lays169 Tryz.Builder_Extra_169 B b l w h hBw
def Tryz.laysM171_ren:Go.Shelf.Ren:=⟨fun|171=>93|243=>136|246=>173|283=>200|284=>201|285=>202|286=>203|129=>227|317=>226|318=>228|319=>229|320=>230|337=>263|338=>264|n=>n,fun|3=>3|9=>9|2=>2|4=>4|171=>367|0=>0|53=>368|37=>119|5=>5|173=>371|212=>403|51=>74|20=>20|213=>404|46=>288|232=>453|233=>454|n=>n,fun|17=>17|18=>18|19=>19|n=>n⟩
theorem Tryz.laysM171:Go.Proofs.LaysM.n171 Tryz.prog Tryz.laysM171_ren:={mixed:=kr,f129:=kf func227,f171:=kf func93,f243:=kf func136,f246:=kf func173,f283:=kf func200,f284:=kf func201,f285:=kf func202,f286:=kf func203,f317:=kf func226,f318:=kf func228,f319:=kf func229,f320:=kf func230,f337:=kf func263,f338:=kf func264,t0:=underlying0,a0:=isAgg0,z0:=sizeOf0,v0:=zeroValue0,t2:=underlying2,a2:=isAgg2,z2:=sizeOf2,v2:=zeroValue2,t3:=underlying3,a3:=isAgg3,z3:=sizeOf3,v3:=zeroValue3,t4:=underlying4,a4:=isAgg4,z4:=sizeOf4,v4:=zeroValue4,t5:=underlying5,a5:=isAgg5,z5:=sizeOf5,v5:=zeroValue5,t9:=underlying9,a9:=isAgg9,z9:=sizeOf9,v9:=zeroValue9,t20:=underlying20,a20:=isAgg20,z20:=sizeOf20,v20:=zeroValue20,t37:=underlying119,a37:=isAgg119,z37:=sizeOf119,v37:=zeroValue119,t46:=underlying288,a46:=isAgg288,z46:=sizeOf288,v46:=zeroValue288,t51:=underlying74,a51:=isAgg74,z51:=sizeOf74,v51:=zeroValue74,t53:=underlying368,a53:=isAgg368,z53:=sizeOf368,v53:=zeroValue368,t171:=underlying367,a171:=isAgg367,z171:=sizeOf367,v171:=zeroValue367,t173:=underlying371,a173:=isAgg371,z173:=sizeOf371,v173:=zeroValue371,t212:=underlying403,a212:=isAgg403,z212:=sizeOf403,v212:=zeroValue403,t213:=underlying404,a213:=isAgg404,z213:=sizeOf404,t232:=underlying453,a232:=isAgg453,z232:=sizeOf453,v232:=zeroValue453,t233:=underlying454,a233:=isAgg454,z233:=sizeOf454,v233:=zeroValue454,g17:=kr,g18:=kr,g19:=kr,i0:=kr,i2:=kr,i3:=kr,i4:=kr,i5:=kr,i9:=kr,i20:=kr,i37:=kr,i46:=kr,i51:=kr,i53:=kr,i171:=kr,i173:=kr,i212:=kr,i232:=kr,i233:=kr,m17:=kr,m18:=kr,m19:=kr}
open Go.RowKit Go.Sort Go.Lib in
theorem Tryz.strconv_Itoa (n : Int) (h0 : -9223372036854775808 ≤ n) (h1 : n ≤ 9223372036854775807) (w : World) (htab : Lib.TabIs Tryz.prog w "internal/strconv.uint64pow10" .u64 Lib.pow10Tab) :
  Calls Tryz.prog 93 #[.int .i64 n] w fun e w'=>e=.returned (.string ⟨(Lib.itoa n).toArray⟩)/\∃k os,w'=grow (w.drewN k) os:=Any.strconv_Itoa Tryz.laysM171 n h0 h1 w htab
def Tryz.lays145_ren:Go.Shelf.Ren:=⟨fun|145=>90|220=>134|219=>166|217=>193|225=>194|224=>195|267=>196|266=>223|314=>224|n=>n,fun|9=>9|4=>4|59=>205|3=>3|5=>5|46=>288|146=>400|51=>74|n=>n,fun|1=>14|n=>n⟩
theorem Tryz.lays145:Go.Proofs.Lays.n145 Tryz.prog Tryz.lays145_ren:=⟨kr,kf func90,kf func193,kf func166,kf func134,kf func195,kf func194,kf func223,kf func196,kf func224,underlying3,isAgg3,sizeOf3,zeroValue3,underlying4,isAgg4,sizeOf4,zeroValue4,underlying5,isAgg5,sizeOf5,zeroValue5,underlying9,isAgg9,sizeOf9,zeroValue9,underlying288,isAgg288,sizeOf288,zeroValue288,underlying74,isAgg74,sizeOf74,zeroValue74,underlying205,isAgg205,sizeOf205,zeroValue205,underlying400,isAgg400,sizeOf400,zeroValue400,kr⟩
open Go.RowKit Go.Lib in
theorem Tryz.strings_Cut(s sep:ByteArray)(m:Int)(w:World)(hs:s.size<4294967281)(hm:w.cell? ⟨14,0,none⟩=some (.int .i64 m)) :
  Calls Tryz.prog 90 #[.string s,.string sep] w fun e w'=>e=.returned (.tuple #[.string ⟨(Lib.cut s.data.toList sep.data.toList).1.toArray⟩,.string ⟨(Lib.cut s.data.toList sep.data.toList).2.1.toArray⟩,.bool (Lib.cut s.data.toList sep.data.toList).2.2])/\∃n,w'=w.drewN n:=Any.strings_Cut Tryz.lays145 s sep m w hs hm
def Tryz.lays190_ren:Go.Shelf.Ren:=⟨fun|190=>191|125=>207|258=>222|128=>241|129=>227|302=>255|303=>256|304=>257|305=>258|306=>259|307=>260|308=>211|309=>261|310=>262|333=>283|329=>266|330=>267|334=>284|335=>285|336=>208|344=>301|n=>n,fun|31=>57|9=>9|3=>3|46=>288|0=>0|51=>74|53=>368|4=>4|183=>408|182=>407|131=>351|5=>5|218=>440|222=>444|228=>455|229=>456|n=>n,fun|n=>n⟩
theorem Tryz.lays190:Go.Proofs.Lays.n190 Tryz.prog Tryz.lays190_ren:=⟨kr,kf func207,kf func241,kf func227,kf func191,kf func222,kf func255,kf func256,kf func257,kf func258,kf func259,kf func260,kf func211,kf func261,kf func262,kf func266,kf func267,kf func283,kf func284,kf func285,kf func208,kf func301,underlying0,isAgg0,sizeOf0,zeroValue0,underlying3,isAgg3,sizeOf3,zeroValue3,underlying4,isAgg4,sizeOf4,zeroValue4,underlying5,isAgg5,sizeOf5,zeroValue5,underlying9,isAgg9,sizeOf9,zeroValue9,underlying57,isAgg57,sizeOf57,zeroValue57,underlying288,isAgg288,sizeOf288,zeroValue288,underlying74,isAgg74,sizeOf74,zeroValue74,underlying368,isAgg368,sizeOf368,zeroValue368,underlying351,isAgg351,sizeOf351,zeroValue351,underlying407,isAgg407,sizeOf407,zeroValue407,underlying408,isAgg408,sizeOf408,zeroValue408,underlying440,isAgg440,sizeOf440,zeroValue440,underlying444,isAgg444,sizeOf444,zeroValue444,underlying455,isAgg455,sizeOf455,zeroValue455,underlying456,isAgg456,sizeOf456,zeroValue456⟩
open Go.Sort Go.RowKit in
theorem Tryz.slices_Sort_string(blk off cap:Nat)(ss:List (List UInt8))(w:World)(hH:Holds encStr w blk off ss.toArray)(hblk:blk<w.heap.size)(hsz:ss.length<4611686018427387904) :
  Calls Tryz.prog 191 #[.slice (some ⟨blk,off,none⟩) ss.length cap] w fun e w'=>
   e=.returned (.tuple #[])/\∃n os,w'=grow (putRow encStr (Sort.ahead w n) blk off (ss.mergeSort fun x y=>decide (x<=y)).toArray) os:=Any.slices_Sort_string Tryz.lays190 blk off cap ss w hH hblk hsz
def Tryz.lays99_ren:Go.Shelf.Ren:=⟨fun|99=>271|206=>225|n=>n,fun|9=>9|4=>4|3=>3|n=>n,fun|n=>n⟩
theorem Tryz.lays99:Go.Proofs.Lays.n99 Tryz.prog Tryz.lays99_ren:=⟨kr,kf func271,kf func225,underlying3,isAgg3,sizeOf3,zeroValue3,underlying4,isAgg4,sizeOf4,zeroValue4,underlying9,isAgg9,sizeOf9,zeroValue9⟩
open Go.RowKit Go.Lib in
theorem Tryz.strings_HasPrefix(s p:ByteArray)(w:World) :
  Calls Tryz.prog 271 #[.string s,.string p] w fun e w'=>e=.returned (.bool (Lib.hasPrefix s.data.toList p.data.toList))/\w'=w:=Any.strings_HasPrefix Tryz.lays99 s p w
def Tryz.lays146_ren:Go.Shelf.Ren:=⟨fun|146=>41|221=>87|268=>127|138=>128|143=>129|195=>163|197=>164|218=>165|219=>166|260=>192|217=>193|225=>194|224=>195|267=>196|266=>223|314=>224|n=>n,fun|9=>9|31=>57|3=>3|4=>4|0=>0|105=>337|21=>21|5=>5|46=>288|119=>396|139=>399|138=>398|146=>400|51=>74|n=>n,fun|1=>14|3=>15|4=>16|n=>n⟩
theorem Tryz.lays146:Go.Proofs.Lays.n146 Tryz.prog Tryz.lays146_ren:=⟨kr,kf func128,kf func129,kf func41,kf func163,kf func164,kf func193,kf func165,kf func166,kf func87,kf func195,kf func194,kf func192,kf func223,kf func196,kf func127,kf func224,underlying0,isAgg0,sizeOf0,zeroValue0,underlying3,isAgg3,sizeOf3,zeroValue3,underlying4,isAgg4,sizeOf4,zeroValue4,underlying5,isAgg5,sizeOf5,zeroValue5,underlying9,isAgg9,sizeOf9,zeroValue9,underlying21,isAgg21,sizeOf21,zeroValue21,underlying57,isAgg57,sizeOf57,zeroValue57,underlying288,isAgg288,sizeOf288,zeroValue288,underlying74,isAgg74,sizeOf74,zeroValue74,underlying337,isAgg337,sizeOf337,zeroValue337,underlying396,isAgg396,sizeOf396,underlying398,isAgg398,sizeOf398,zeroValue398,underlying399,isAgg399,sizeOf399,zeroValue399,underlying400,isAgg400,sizeOf400,zeroValue400,kr,kr,kr⟩
open Go.RowKit Go.Lib in
theorem Tryz.strings_Split(s sep:ByteArray)(m:Int)(w:World)(hs:s.size<4294967281)(hm:w.cell? ⟨14,0,none⟩=some (.int .i64 m))(h1:1<=sep.size) :
  Calls Tryz.prog 41 #[.string s,.string sep] w fun e w'=>
   e=.returned (.slice (some ⟨w.heap.size,0,none⟩) (Lib.countB s sep+1) (Lib.countB s sep+1))/\w'=w.alloc (.cells ((Lib.splitB sep 0 (Lib.countB s sep) s).map Value.string).toArray 9):=Any.strings_Split Tryz.lays146 (by kernel_rfl) s sep m w hs hm h1
end Go.Proofs
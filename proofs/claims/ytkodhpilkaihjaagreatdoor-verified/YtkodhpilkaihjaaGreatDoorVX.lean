import Derived.Shelf.Strings.OnBuilder
import Derived.Shelf.Small.Bits
import Derived.Shelf.Small.Strs
import Derived.Shelf.Small.Wraps
import Derived.Shelf.Strconv.Itoa3
import Derived.Shelf.Strings.Shaped
import Derived.Shelf.Sort.Plain
import Derived.Shelf.Strings.SplitShaped
import Derived.Shelf.Unicode.DecodeAny
import Derived.Shelf.Strings.BuilderCap
import Derived.Shelf.Slices.In.SortNone
import Derived.Test.YtkodhpilkaihjaaGreatDoorProg
set_option maxRecDepth 100000
namespace Go.Proofs
open Go.Shelf
open Tryz
theorem Tryz.kr{p:Prop}(h:p:=by kernel_rfl):p:=h
theorem Tryz.kd{p:Prop}(h:p:=by decide):p:=h
theorem Tryz.kf{α:Type}{a:Option α}{b c:α}(h:a=some b)(e:b=c:=by kernel_rfl):a=some c:=h.trans (congrArg some e)
def Tryz.lays169_ren:Go.Shelf.Ren:=⟨fun|169=>73|n=>n,fun|70=>173|9=>9|0=>0|72=>175|37=>41|127=>285|3=>3|5=>5|n=>n,fun|n=>n⟩
theorem Tryz.lays169:Go.Proofs.Lays.n169 Tryz.prog Tryz.lays169_ren:=⟨kr,kf func73,underlying0,isAgg0,sizeOf0,zeroValue0,underlying3,isAgg3,sizeOf3,zeroValue3,underlying9,isAgg9,sizeOf9,zeroValue9,underlying41,isAgg41,sizeOf41,zeroValue41,underlying173,isAgg173,sizeOf173,zeroValue173,underlying175,isAgg175,sizeOf175,zeroValue175,underlying285,isAgg285,sizeOf285,zeroValue285⟩
theorem Tryz.Builder_Extra_169:Builder.Extra Tryz.prog Tryz.lays169_ren:={sizeBuilder:=kr,liesBuilder:=kr,t5:=underlying5,a5:=isAgg5,z5:=sizeOf5,v5:=zeroValue5,infoByte:=kr,cellsByte:=kr,sizeByte:=kr,neB5:=kd}
def Tryz.lays156_ren:Go.Shelf.Ren:=⟨fun|156=>96|165=>171|166=>129|169=>73|240=>193|241=>225|276=>241|277=>261|n=>n,fun|31=>90|9=>9|3=>3|4=>4|0=>0|20=>20|72=>175|76=>180|70=>173|37=>41|75=>60|127=>285|164=>193|5=>5|80=>23|n=>n,fun|n=>n⟩
theorem Tryz.lays156:Go.Proofs.Lays.n156 Tryz.prog Tryz.lays156_ren:=⟨kr,kf func96,kf func171,kf func129,kf func73,kf func193,kf func225,kf func241,kf func261,underlying0,isAgg0,sizeOf0,zeroValue0,underlying3,isAgg3,sizeOf3,zeroValue3,underlying4,isAgg4,sizeOf4,zeroValue4,underlying9,isAgg9,sizeOf9,zeroValue9,underlying20,isAgg20,sizeOf20,zeroValue20,underlying90,isAgg90,sizeOf90,zeroValue90,underlying41,isAgg41,sizeOf41,zeroValue41,underlying173,isAgg173,sizeOf173,zeroValue173,underlying175,isAgg175,sizeOf175,zeroValue175,underlying60,isAgg60,sizeOf60,zeroValue60,underlying180,isAgg180,sizeOf180,zeroValue180,underlying285,isAgg285,sizeOf285,zeroValue285,underlying193,isAgg193,sizeOf193,zeroValue193⟩
theorem Tryz.Builder_Extra_156:Builder.Extra Tryz.prog Tryz.lays156_ren:={sizeBuilder:=kr,liesBuilder:=kr,t5:=underlying5,a5:=isAgg5,z5:=sizeOf5,v5:=zeroValue5,infoByte:=kr,cellsByte:=kr,sizeByte:=kr,neB5:=kd}
open Go.RowKit in
theorem Tryz.strings_Join_none(a:Option Addr)(c:Nat)(sep:ByteArray)(w:World) :
  Calls Tryz.prog 96 #[.slice a 0 c,.string sep] w fun e w'=>e=.returned (.string ⟨#[]⟩)/\w'=w:=Any.strings_Join_none Tryz.lays156 Tryz.Builder_Extra_156 a c sep w
open Go.RowKit in
theorem Tryz.strings_Join(bk o c:Nat)(xs:List ByteArray)(sep:ByteArray)(w:World)(hcells:∀(j:Nat) x,xs[j]?=some x->w.cell? ⟨bk,o+j,none⟩=some (.string x))(hbk:bk<w.heap.size)(hN:xs.length<=140737488355328)(hcap:xs.length<=c)(hlen:(Lib.join (xs.map (·.data.toList)) sep.data.toList).length<=140737488355328) :
  Calls Tryz.prog 96 #[.slice (some ⟨bk,o,none⟩) xs.length c,.string sep] w fun e w'=>e=.returned (.string ⟨(Lib.join (xs.map (·.data.toList)) sep.data.toList).toArray⟩)/\Below w.heap.size w w':=Any.strings_Join Tryz.lays156 Tryz.Builder_Extra_156 bk o c xs sep w hcells hbk hN hcap hlen
def Tryz.lays137_ren:Go.Shelf.Ren:=⟨fun|137=>183|217=>232|266=>264|n=>n,fun|9=>9|5=>5|3=>3|n=>n,fun|n=>n⟩
theorem Tryz.lays137:Go.Proofs.Lays.n137 Tryz.prog Tryz.lays137_ren:=⟨kr,kf func183,kf func232,kf func264,underlying3,isAgg3,sizeOf3,zeroValue3,underlying5,isAgg5,sizeOf5,zeroValue5,underlying9,isAgg9,sizeOf9,zeroValue9⟩
open Go.RowKit in
theorem Tryz.strings_IndexByte(s:ByteArray)(c:Int)(w:World) :
  Calls Tryz.prog 183 #[.string s,.int .u8 c] w fun e w'=>e=.returned (.int .i64 (Lib.indexByte s.data.toList c.toNat.toUInt8))/\w'=w:=Any.strings_IndexByte Tryz.lays137 s c w
def Tryz.lays210_ren:Go.Shelf.Ren:=⟨fun|210=>248|206=>231|n=>n,fun|9=>9|4=>4|3=>3|n=>n,fun|n=>n⟩
def Tryz.lays103_ren:Go.Shelf.Ren:=⟨fun|103=>207|210=>248|206=>231|n=>n,fun|9=>9|4=>4|24=>395|3=>3|n=>n,fun|n=>n⟩
def Tryz.lays104_ren:Go.Shelf.Ren:=⟨fun|104=>243|211=>269|207=>294|n=>n,fun|9=>9|4=>4|24=>395|3=>3|n=>n,fun|n=>n⟩
theorem Tryz.lays104:Go.Proofs.Lays.n104 Tryz.prog Tryz.lays104_ren:=⟨kr,kf func243,kf func294,kf func269,underlying3,isAgg3,sizeOf3,zeroValue3,underlying4,isAgg4,sizeOf4,zeroValue4,underlying9,isAgg9,sizeOf9,zeroValue9,underlying395,isAgg395,sizeOf395,zeroValue395⟩
open Go.RowKit in
theorem Tryz.strings_CutSuffix(s p:ByteArray)(w:World)(hs:s.size<=9223372036854775807) :
  Calls Tryz.prog 243 #[.string s,.string p] w fun e w'=>e=.returned (.tuple #[.string ⟨(Lib.trimSuffix s.data.toList p.data.toList).toArray⟩,.bool (Lib.hasSuffix s.data.toList p.data.toList)])/\w'=w:=Any.strings_CutSuffix Tryz.lays104 s p w hs
open Go.RowKit in
theorem Tryz.Builder_String_any_f(B b:Nat)(l:List UInt8)(w:World)(h:Lib.IsBuilderF 175 5 B b (Lib.byteCells l) w)(hBw:B<=w.heap.size) :
  Calls Tryz.prog 73 #[.pointer (some ⟨b,0,none⟩)] w fun e w'=>e=.returned (.string ⟨l.toArray⟩)/\(Lib.IsBuilderF 175 5 B b (Lib.byteCells l) w'/\Below B w w'):=Any.Builder_String_any_f Tryz.lays169 Tryz.Builder_Extra_169 B b l w h hBw
def Tryz.laysM246_ren:Go.Shelf.Ren:=⟨fun|246=>242|283=>265|284=>266|285=>267|286=>268|129=>283|317=>290|318=>291|319=>292|320=>293|337=>309|338=>310|n=>n,fun|2=>2|3=>3|9=>9|4=>4|171=>442|0=>0|53=>443|37=>41|5=>5|173=>446|212=>467|51=>76|20=>20|213=>468|46=>306|232=>488|233=>489|n=>n,fun|17=>17|18=>18|19=>19|n=>n⟩
def Tryz.laysM243_ren:Go.Shelf.Ren:=⟨fun|243=>194|246=>242|283=>265|284=>266|285=>267|286=>268|129=>283|317=>290|318=>291|319=>292|320=>293|337=>309|338=>310|n=>n,fun|3=>3|9=>9|2=>2|4=>4|171=>442|0=>0|53=>443|37=>41|5=>5|173=>446|212=>467|51=>76|20=>20|213=>468|46=>306|232=>488|233=>489|n=>n,fun|17=>17|18=>18|19=>19|n=>n⟩
def Tryz.laysM171_ren:Go.Shelf.Ren:=⟨fun|171=>130|243=>194|246=>242|283=>265|284=>266|285=>267|286=>268|129=>283|317=>290|318=>291|319=>292|320=>293|337=>309|338=>310|n=>n,fun|3=>3|9=>9|2=>2|4=>4|171=>442|0=>0|53=>443|37=>41|5=>5|173=>446|212=>467|51=>76|20=>20|213=>468|46=>306|232=>488|233=>489|n=>n,fun|17=>17|18=>18|19=>19|n=>n⟩
theorem Tryz.laysM171:Go.Proofs.LaysM.n171 Tryz.prog Tryz.laysM171_ren:={mixed:=kr,f129:=kf func283,f171:=kf func130,f243:=kf func194,f246:=kf func242,f283:=kf func265,f284:=kf func266,f285:=kf func267,f286:=kf func268,f317:=kf func290,f318:=kf func291,f319:=kf func292,f320:=kf func293,f337:=kf func309,f338:=kf func310,t0:=underlying0,a0:=isAgg0,z0:=sizeOf0,v0:=zeroValue0,t2:=underlying2,a2:=isAgg2,z2:=sizeOf2,v2:=zeroValue2,t3:=underlying3,a3:=isAgg3,z3:=sizeOf3,v3:=zeroValue3,t4:=underlying4,a4:=isAgg4,z4:=sizeOf4,v4:=zeroValue4,t5:=underlying5,a5:=isAgg5,z5:=sizeOf5,v5:=zeroValue5,t9:=underlying9,a9:=isAgg9,z9:=sizeOf9,v9:=zeroValue9,t20:=underlying20,a20:=isAgg20,z20:=sizeOf20,v20:=zeroValue20,t37:=underlying41,a37:=isAgg41,z37:=sizeOf41,v37:=zeroValue41,t46:=underlying306,a46:=isAgg306,z46:=sizeOf306,v46:=zeroValue306,t51:=underlying76,a51:=isAgg76,z51:=sizeOf76,v51:=zeroValue76,t53:=underlying443,a53:=isAgg443,z53:=sizeOf443,v53:=zeroValue443,t171:=underlying442,a171:=isAgg442,z171:=sizeOf442,v171:=zeroValue442,t173:=underlying446,a173:=isAgg446,z173:=sizeOf446,v173:=zeroValue446,t212:=underlying467,a212:=isAgg467,z212:=sizeOf467,v212:=zeroValue467,t213:=underlying468,a213:=isAgg468,z213:=sizeOf468,t232:=underlying488,a232:=isAgg488,z232:=sizeOf488,v232:=zeroValue488,t233:=underlying489,a233:=isAgg489,z233:=sizeOf489,v233:=zeroValue489,g17:=kr,g18:=kr,g19:=kr,i0:=kr,i2:=kr,i3:=kr,i4:=kr,i5:=kr,i9:=kr,i20:=kr,i37:=kr,i46:=kr,i51:=kr,i53:=kr,i171:=kr,i173:=kr,i212:=kr,i232:=kr,i233:=kr,m17:=kr,m18:=kr,m19:=kr}
open Go.RowKit Go.Sort Go.Lib in
theorem Tryz.strconv_Itoa (n : Int) (h0 : -9223372036854775808 ≤ n) (h1 : n ≤ 9223372036854775807) (w : World) (htab : Lib.TabIs Tryz.prog w "internal/strconv.uint64pow10" .u64 Lib.pow10Tab) :
  Calls Tryz.prog 130 #[.int .i64 n] w fun e w'=>e=.returned (.string ⟨(Lib.itoa n).toArray⟩)/\∃k os,w'=grow (w.drewN k) os:=Any.strconv_Itoa Tryz.laysM171 n h0 h1 w htab
def Tryz.lays219_ren:Go.Shelf.Ren:=⟨fun|219=>206|217=>232|225=>245|224=>246|267=>247|266=>264|314=>270|n=>n,fun|9=>9|3=>3|4=>4|5=>5|46=>306|146=>452|51=>76|n=>n,fun|1=>14|n=>n⟩
def Tryz.lays145_ren:Go.Shelf.Ren:=⟨fun|145=>91|220=>158|219=>206|217=>232|225=>245|224=>246|267=>247|266=>264|314=>270|n=>n,fun|9=>9|4=>4|59=>213|3=>3|5=>5|46=>306|146=>452|51=>76|n=>n,fun|1=>14|n=>n⟩
theorem Tryz.lays145:Go.Proofs.Lays.n145 Tryz.prog Tryz.lays145_ren:=⟨kr,kf func91,kf func232,kf func206,kf func158,kf func246,kf func245,kf func264,kf func247,kf func270,underlying3,isAgg3,sizeOf3,zeroValue3,underlying4,isAgg4,sizeOf4,zeroValue4,underlying5,isAgg5,sizeOf5,zeroValue5,underlying9,isAgg9,sizeOf9,zeroValue9,underlying306,isAgg306,sizeOf306,zeroValue306,underlying76,isAgg76,sizeOf76,zeroValue76,underlying213,isAgg213,sizeOf213,zeroValue213,underlying452,isAgg452,sizeOf452,zeroValue452,kr⟩
open Go.RowKit Go.Lib in
theorem Tryz.strings_Cut(s sep:ByteArray)(m:Int)(w:World)(hs:s.size<4294967281)(hm:w.cell? ⟨14,0,none⟩=some (.int .i64 m)) :
  Calls Tryz.prog 91 #[.string s,.string sep] w fun e w'=>e=.returned (.tuple #[.string ⟨(Lib.cut s.data.toList sep.data.toList).1.toArray⟩,.string ⟨(Lib.cut s.data.toList sep.data.toList).2.1.toArray⟩,.bool (Lib.cut s.data.toList sep.data.toList).2.2])/\∃n,w'=w.drewN n:=Any.strings_Cut Tryz.lays145 s sep m w hs hm
def Tryz.lays190_ren:Go.Shelf.Ren:=⟨fun|190=>217|125=>254|258=>253|128=>282|129=>283|302=>273|303=>274|304=>275|305=>276|306=>277|307=>278|308=>279|309=>280|310=>281|333=>295|329=>296|330=>297|334=>298|335=>299|336=>286|344=>311|n=>n,fun|31=>90|9=>9|3=>3|46=>306|0=>0|51=>76|53=>443|4=>4|183=>458|182=>457|131=>258|5=>5|218=>469|222=>473|228=>481|229=>482|n=>n,fun|n=>n⟩
theorem Tryz.lays190:Go.Proofs.Lays.n190 Tryz.prog Tryz.lays190_ren:=⟨kr,kf func254,kf func282,kf func283,kf func217,kf func253,kf func273,kf func274,kf func275,kf func276,kf func277,kf func278,kf func279,kf func280,kf func281,kf func296,kf func297,kf func295,kf func298,kf func299,kf func286,kf func311,underlying0,isAgg0,sizeOf0,zeroValue0,underlying3,isAgg3,sizeOf3,zeroValue3,underlying4,isAgg4,sizeOf4,zeroValue4,underlying5,isAgg5,sizeOf5,zeroValue5,underlying9,isAgg9,sizeOf9,zeroValue9,underlying90,isAgg90,sizeOf90,zeroValue90,underlying306,isAgg306,sizeOf306,zeroValue306,underlying76,isAgg76,sizeOf76,zeroValue76,underlying443,isAgg443,sizeOf443,zeroValue443,underlying258,isAgg258,sizeOf258,zeroValue258,underlying457,isAgg457,sizeOf457,zeroValue457,underlying458,isAgg458,sizeOf458,zeroValue458,underlying469,isAgg469,sizeOf469,zeroValue469,underlying473,isAgg473,sizeOf473,zeroValue473,underlying481,isAgg481,sizeOf481,zeroValue481,underlying482,isAgg482,sizeOf482,zeroValue482⟩
open Go.Sort Go.RowKit in
theorem Tryz.slices_Sort_string(blk off cap:Nat)(ss:List (List UInt8))(w:World)(hH:Holds encStr w blk off ss.toArray)(hblk:blk<w.heap.size)(hsz:ss.length<4611686018427387904) :
  Calls Tryz.prog 217 #[.slice (some ⟨blk,off,none⟩) ss.length cap] w fun e w'=>
   e=.returned (.tuple #[])/\∃n os,w'=grow (putRow encStr (Sort.ahead w n) blk off (ss.mergeSort fun x y=>decide (x<=y)).toArray) os:=Any.slices_Sort_string Tryz.lays190 blk off cap ss w hH hblk hsz
def Tryz.lays99_ren:Go.Shelf.Ren:=⟨fun|99=>182|206=>231|n=>n,fun|9=>9|4=>4|3=>3|n=>n,fun|n=>n⟩
theorem Tryz.lays99:Go.Proofs.Lays.n99 Tryz.prog Tryz.lays99_ren:=⟨kr,kf func182,kf func231,underlying3,isAgg3,sizeOf3,zeroValue3,underlying4,isAgg4,sizeOf4,zeroValue4,underlying9,isAgg9,sizeOf9,zeroValue9⟩
open Go.RowKit Go.Lib in
theorem Tryz.strings_HasPrefix(s p:ByteArray)(w:World) :
  Calls Tryz.prog 182 #[.string s,.string p] w fun e w'=>e=.returned (.bool (Lib.hasPrefix s.data.toList p.data.toList))/\w'=w:=Any.strings_HasPrefix Tryz.lays99 s p w
def Tryz.lays221_ren:Go.Shelf.Ren:=⟨fun|221=>88|268=>152|138=>153|143=>154|195=>203|197=>204|218=>205|219=>206|260=>244|217=>232|225=>245|224=>246|267=>247|266=>264|314=>270|n=>n,fun|9=>9|3=>3|31=>90|4=>4|0=>0|105=>391|21=>21|5=>5|46=>306|119=>448|139=>451|138=>450|146=>452|51=>76|n=>n,fun|1=>14|3=>15|4=>16|n=>n⟩
def Tryz.lays146_ren:Go.Shelf.Ren:=⟨fun|146=>42|221=>88|268=>152|138=>153|143=>154|195=>203|197=>204|218=>205|219=>206|260=>244|217=>232|225=>245|224=>246|267=>247|266=>264|314=>270|n=>n,fun|9=>9|31=>90|3=>3|4=>4|0=>0|105=>391|21=>21|5=>5|46=>306|119=>448|139=>451|138=>450|146=>452|51=>76|n=>n,fun|1=>14|3=>15|4=>16|n=>n⟩
theorem Tryz.lays146:Go.Proofs.Lays.n146 Tryz.prog Tryz.lays146_ren:=⟨kr,kf func153,kf func154,kf func42,kf func203,kf func204,kf func232,kf func205,kf func206,kf func88,kf func246,kf func245,kf func244,kf func264,kf func247,kf func152,kf func270,underlying0,isAgg0,sizeOf0,zeroValue0,underlying3,isAgg3,sizeOf3,zeroValue3,underlying4,isAgg4,sizeOf4,zeroValue4,underlying5,isAgg5,sizeOf5,zeroValue5,underlying9,isAgg9,sizeOf9,zeroValue9,underlying21,isAgg21,sizeOf21,zeroValue21,underlying90,isAgg90,sizeOf90,zeroValue90,underlying306,isAgg306,sizeOf306,zeroValue306,underlying76,isAgg76,sizeOf76,zeroValue76,underlying391,isAgg391,sizeOf391,zeroValue391,underlying448,isAgg448,sizeOf448,underlying450,isAgg450,sizeOf450,zeroValue450,underlying451,isAgg451,sizeOf451,zeroValue451,underlying452,isAgg452,sizeOf452,zeroValue452,kr,kr,kr⟩
open Go.RowKit Go.Lib in
theorem Tryz.strings_Split(s sep:ByteArray)(m:Int)(w:World)(hs:s.size<4294967281)(hm:w.cell? ⟨14,0,none⟩=some (.int .i64 m))(h1:1<=sep.size) :
  Calls Tryz.prog 42 #[.string s,.string sep] w fun e w'=>
   e=.returned (.slice (some ⟨w.heap.size,0,none⟩) (Lib.countB s sep+1) (Lib.countB s sep+1))/\w'=w.alloc (.cells ((Lib.splitB sep 0 (Lib.countB s sep) s).map Value.string).toArray 9):=Any.strings_Split Tryz.lays146 (by kernel_rfl) s sep m w hs hm h1
end Go.Proofs
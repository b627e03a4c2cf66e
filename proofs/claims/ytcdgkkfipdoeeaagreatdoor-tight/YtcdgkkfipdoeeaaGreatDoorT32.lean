/- Parts. -/
import Derived.Test.YtcdgkkfipdoeeaaGreatDoorT15
import Derived.Test.YtcdgkkfipdoeeaaGreatDoorT05
import Derived.Test.YtcdgkkfipdoeeaaGreatDoorT04
import Derived.Test.YtcdgkkfipdoeeaaGreatDoorT31
import Derived.Test.YtcdgkkfipdoeeaaGreatDoorT20
import Derived.Test.YtcdgkkfipdoeeaaGreatDoorT17
import Derived.Deep.AppendLies
import Derived.Test.YtcdgkkfipdoeeaaGreatDoorT12
import Derived.Test.YtcdgkkfipdoeeaaGreatDoorT29
import Derived.Test.YtcdgkkfipdoeeaaGreatDoorT30
import Derived.Test.YtcdgkkfipdoeeaaGreatDoorT19
set_option maxRecDepth 100000
set_option maxHeartbeats 8000000
set_option linter.unusedSimpArgs false
namespace Go.Proofs.YtcdgkkfipdoeeaaGreatDoor
open Go.RowKit LS
def TimP(w':World)(f l s:Int)(ft:Addr)(tv ev:Value):Prop:=(ZeG f l s=none/\tv=.slice none 0 0/\ev=.iface 432 (.pointer (some ft)))∨(∃ts,ZeG f l s=some ts/\ts.length<=50/\(∀t∈ts,-1000000<=t/\t<=1000000)/\ev=.nilIface/\w'.ownsRow 0 3 1 tv ts.length (ts.map (Value.int .i64)))
theorem ZuX(n:Nat):(madeCells #[Value.int .i64 0] n).toList=List.replicate n (Value.int .i64 0):=by
 refine List.ext_getElem (by simp[madeCells]) (fun i h1 h2=>?_)
 simp[madeCells,Nat.mod_one]
theorem ZwC(f l s:Int)(ft:Addr)(w:World)(hft:w.cell? ⟨7,0,none⟩=some (.iface 432 (.pointer (some ft)))) :
  Calls Tryz.prog 41 #[.agg #[.int .i64 f,.int .i64 l,.int .i64 s]] w fun e w'=>∃tv ev,e=.returned (.tuple #[tv,ev])/\Hid (TimP w' f l s ft tv ev)/\Below w.heap.size w w':=by
 obtain⟨i0,hi,hz0,hz1,hz2⟩:=info_parts Tryz.infoInt3
 have hgl:7<w.heap.size:=World.block_lt_of_cell? _ _ hft
 have hft1:∀o,(w.alloc o).cell? ⟨7,0,none⟩=some (.iface 432 (.pointer (some ft))):=fun o=>by rw[World.cell?_alloc_lt _ _ _ hgl];exact hft
 by_cases hb:badT f l s
 ·have HT:Hid (∀w',TimP w' f l s ft (.slice none 0 0) (.iface 432 (.pointer (some ft)))):=hid (fun w'=>Or.inl ⟨by unfold ZeG;rw[if_pos hb],rfl,rfl⟩)
  by_cases c1:(-1000000<=f/\f<=1000000)
  ·obtain⟨d1,d2⟩:=c1
   by_cases c2:(-1000000<=l/\l<=1000000)
   ·obtain⟨d3,d4⟩:=c2
    by_cases c3:l<f
    ·clear hb
     go_enter Tryz.func41,Tryz.ntmps41
     go_wp2_with (go_at_call 90;refine(Zfk _ _).mono ?_;rintro e w' ⟨rfl,rfl⟩)
     go_region
     all_goals (try go_wp2)
     all_goals (go_ret2;exact⟨_,_,rfl,hid (HT.out _),belB⟩)
    ·by_cases c4:s<1
     ·clear hb
      go_enter Tryz.func41,Tryz.ntmps41
      go_wp2_with (go_at_call 90;refine(Zfk _ _).mono ?_;rintro e w' ⟨rfl,rfl⟩)
      go_region
      all_goals (try go_wp2)
      all_goals (go_ret2;exact⟨_,_,rfl,hid (HT.out _),belB⟩)
     ·have c5:1000000<s:=by unfold badT at hb;omega
      clear hb
      go_enter Tryz.func41,Tryz.ntmps41
      go_wp2_with (go_at_call 90;refine(Zfk _ _).mono ?_;rintro e w' ⟨rfl,rfl⟩)
      go_region
      all_goals (try go_wp2)
      all_goals (go_ret2;exact⟨_,_,rfl,hid (HT.out _),belB⟩)
   ·have c3:(decide (-1000000<=l) && decide (l<=1000000))=false:=by simp;omega
    clear hb c2
    go_enter Tryz.func41,Tryz.ntmps41
    go_wp2_with (go_at_call 90;refine(Zfk _ _).mono ?_;rintro e w' ⟨rfl,rfl⟩)
    go_region
    all_goals (try go_wp2)
    all_goals (go_ret2;exact⟨_,_,rfl,hid (HT.out _),belB⟩)
  ·have c3:(decide (-1000000<=f) && decide (f<=1000000))=false:=by simp;omega
   clear hb c1
   go_enter Tryz.func41,Tryz.ntmps41
   go_wp2_with (go_at_call 90;refine(Zfk _ _).mono ?_;rintro e w' ⟨rfl,rfl⟩)
   go_region
   all_goals (try go_wp2)
   all_goals (go_ret2;exact⟨_,_,rfl,hid (HT.out _),belB⟩)
 ·have HG:Hid (ZeG f l s=if 50<cnt l s f then none else some ((List.range (cnt l s f)).map fun(i:Nat)=>f+(i:Int)*s)):=hid (Zyx hb)
  have hbd : -1000000<=f/\f<=1000000/\-1000000<=l/\l<=1000000/\1<=s/\s<=1000000/\f<=l:=by unfold badT at hb;omega
  obtain⟨d1,d2,d3,d4,d5,d6,d7⟩:=hbd
  clear hb
  obtain⟨m,hm⟩:∃m:Nat,(l - f).tdiv s=(m:Int):=⟨((l - f).tdiv s).toNat,by have:=Int.tdiv_nonneg (a:=l - f) (b:=s) (by omega) (by omega);omega⟩
  have hmc:cnt l s f=m+1:=by
   unfold cnt
   rw[if_pos d7,<-Int.tdiv_eq_ediv_of_nonneg (by omega),hm]
   omega
  have hmb:m<=2000000:=by
   have h1:((l - f).tdiv s).natAbs<=(l - f).natAbs:=by rw[Int.natAbs_tdiv];exact Nat.div_le_self _ _
   rw[hm]at h1
   omega
  rw[hmc]at HG
  have hs0:(s == 0)=false:=by rw[beq_eq_false_iff_ne];omega
  have hs1:s≠0:=by omega
  clear hmc
  by_cases h50:50<m+1
  ·have HT:Hid (∀w',TimP w' f l s ft (.slice none 0 0) (.iface 432 (.pointer (some ft)))):=hid (fun w'=>Or.inl ⟨by rw[HG.out,if_pos h50],rfl,rfl⟩)
   have h51:(50:Int)<(m:Int)+1:=by omega
   go_enter Tryz.func41,Tryz.ntmps41
   go_wp2_with (go_at_call 90;refine(Zfk _ _).mono ?_;rintro e w' ⟨rfl,rfl⟩)
   go_region
   all_goals (try go_wp2)
   all_goals (go_ret2;exact⟨_,_,rfl,hid (HT.out _),belB⟩)
  ·have HT:Hid (ZeG f l s=some ((List.range (m+1)).map fun(i:Nat)=>f+(i:Int)*s)):=hid (by rw[HG.out,if_neg h50])
   have h51:(m:Int)+1<=50:=by omega
   have HLT : Hid (∀ i, i < m + 1 -> -1000000 <= f + (i : Int) * s /\ f + (i : Int) * s <= 1000000) := hid (fun i hi' => by
     have h1:(i:Int)*s<=(m:Int)*s:=Int.mul_le_mul_of_nonneg_right (by omega) (by omega)
     have h2:(m:Int)*s<=l - f:=by
       rw[<-hm,Int.tdiv_eq_ediv_of_nonneg (by omega)]
       exact Int.ediv_mul_le _ hs1
     have h3:0<=(i:Int)*s:=Int.mul_nonneg (by omega) (by omega)
     omega)
   go_enter Tryz.func41,Tryz.ntmps41
   go_wp2_with (first
     | (go_at_call 90;refine(Zfk _ _).mono ?_;rintro e w' ⟨rfl,rfl⟩)
     | (at_make;refine wpList_make_full _ rfl _ _ 54 rfl w.heap.size 3 i0 _ 1 Tryz.underlying54 hi hz0 hz1 _ _ _ _ (m+1) rfl rfl ?e1 ?e2 ?b2 ?b3 ?b4 ?_))
   case e1=>rfl
   case e2=>rfl
   case b2=>rw[hz2];omega
   case b3=>unfold maxLen;omega
   case b4=>simp
   rw[ZuX]
   intro w2 hown2 hgrow2
   have HBX:Hid (BAt w2 w.heap.size [.int .i64 f,.int .i64 l,.int .i64 s] 23):=hid ((hgrow2.block _ (by simp) (by simp)).trans (Go.Deep.blk_alloc_new _ _))
   have HB2:Hid (Below w.heap.size w w2):=hid (Zbal.grown hgrow2 (by simp) (fun q hq=>by cases hq))
   clear hgrow2 hm hft1
   have hgl2:w.heap.size+1<w2.heap.size:=Zbq hown2
   go_wp2
   go_loopw [50] (fun i wr => ∃ k : Nat, k <= m + 1 /\ i = .int .i64 k /\ Hid (wr.ownsRow w.heap.size 3 1 (.slice (some ⟨w.heap.size + 1, 0, none⟩) (m + 1) (m + 1)) (m + 1) ((List.range k).map (fun (i : Nat) => Value.int .i64 (f + (i : Int) * s)) ++ List.replicate (m + 1 - k) (Value.int .i64 0))) /\ Hid (BAt wr w.heap.size [.int .i64 f, .int .i64 l, .int .i64 s] 23) /\ Hid (Below w.heap.size w wr))
     (fun i _=>m+1 - (intOf i).toNat)
   case atStart=>exact⟨0,Nat.zero_le _,rfl,hid (by simpa using hown2),HBX,HB2⟩
   case round=>
    obtain⟨k,hk,rfl,HOW,HX,HB⟩:=hrel
    by_cases hlt:k<m+1
    ·have x0:=HX.cell 0
     have x2:=HX.cell 2
     simp only[Zget]at x0 x2
     have hks:=HLT.out k hlt
     have hk3:0<=(k:Int)*s:=Int.mul_nonneg (by omega) (by omega)
     have hkw:(Go.IntKind.i64).wrap ((k:Int)*s)=(k:Int)*s:=by
      generalize(k:Int)*s=ks at *
      rw[IntKind.wrap_i64];omega
     have hfw:(Go.IntKind.i64).wrap (f+(k:Int)*s)=f+(k:Int)*s:=by
      generalize(k:Int)*s=ks at *
      rw[IntKind.wrap_i64];omega
     have hcell:wr.cell? ⟨w.heap.size+1,k,none⟩=some (.int .i64 0):=Zr HOW.out _ _ (by rw[List.getElem?_append_right (by simp),List.length_map,List.length_range,Nat.sub_self,List.getElem?_replicate,if_pos (by omega)])
     have hfz:wr.frozen? ⟨w.heap.size+1,k,none⟩=false:=by
      rcases HOW.2 with ⟨h,_⟩|⟨g,cap,cur,h,_,hh,_⟩
      ·cases h
      ·injection h with h1
       injection h1 with h1
       injection h1 with h1
       subst h1
       simp[World.frozen?,hh]
     have hkz:(k:Int)<(m:Int)+1:=by omega
     have HO2 : Hid ((wr.setCell ⟨w.heap.size + 1, k, none⟩ (.int .i64 (f + (k : Int) * s))).ownsRow w.heap.size 3 1 (.slice (some ⟨w.heap.size + 1, 0, none⟩) (m + 1) (m + 1)) (m + 1) ((List.range (k + 1)).map (fun (i : Nat) => Value.int .i64 (f + (i : Int) * s)) ++ List.replicate (m + 1 - (k + 1)) (Value.int .i64 0))) := hid (by
       have:=ZkY HOW.out k (.int .i64 (f+(k:Int)*s))
       rw[ZxA (m+1) k (fun(i:Nat)=>Value.int .i64 (f+(i:Int)*s)) _ hlt]at this
       exact this)
     go_wp2
     go_roundw
     case rel=>exact⟨k+1,by omega,by go_num,HO2,hid (HX.other (p:=⟨w.heap.size+1,k,none⟩) (by show w.heap.size≠w.heap.size+1;omega) _),hid (HB.setCell (p:=⟨w.heap.size+1,k,none⟩) (by show w.heap.size<=w.heap.size+1;omega) _)⟩
     case measure=>simp[intOf];omega
    ·obtain rfl:k=m+1:=by omega
     have HTP : Hid (TimP wr f l s ft (.slice (some ⟨w.heap.size + 1, 0, none⟩) (m + 1) (m + 1)) .nilIface) := hid (Or.inr ⟨_, HT.out, by simp; omega, fun t ht => by
       obtain⟨i,hi',rfl⟩:=List.mem_map.1 ht
       exact HLT.out i (List.mem_range.1 hi'),rfl,by
       have h1:=HOW.out
       rw[Nat.sub_self,List.replicate_zero,List.append_nil]at h1
       rw[List.length_map,List.length_range,List.map_map]
       exact h1.mono (Nat.zero_le _)⟩)
     go_wp2
     go_ret2
     exact⟨_,_,rfl,HTP,HB.out⟩
theorem Zix{w:World}{B b:Nat}{l:List UInt8}(h:WB w B b l)(s:ByteArray)(hl:l.length+s.size<=140737488355328) :
  Calls Tryz.prog 63 #[.pointer (some ⟨b,0,none⟩),.string s] w fun e w'=>e=.returned (.tuple #[.int .i64 s.size,.nilIface])/\Hid (WB w' B b (l++bl s))/\Hid (WK B b w w'):=by
 refine(ZgG B b (Lib.byteCells l) s w h.bd (by rw[Lib.byteCells_length];omega) h.le).mono ?_
 rintro e w' ⟨rfl,h1,h2,h3⟩
 rw[Zma]at h1
 exact⟨rfl,⟨Or.inr h1,Nat.le_trans h.le h2.size⟩,⟨h2,h3⟩⟩
theorem Zh1{w:World}(h:Zu w)(n:Int)(hn:vOk n) :
  Calls Tryz.prog 64 #[.int .i64 n] w fun e w'=>∃s:ByteArray,e=.returned (.string s)/\Hid (bl s=decI n)/\s.size<=1000000002/\Below w.heap.size w w':=by
 have hlen:=ZjM n hn
 unfold vOk at hn
 refine(Tryz.strconv_Itoa n (by omega) (by omega) w h).mono ?_
 rintro e w' ⟨rfl,k,os,rfl⟩
 have he:Lib.itoa n=decI n:=by
  unfold Lib.itoa decI
  by_cases hneg:n<0
  ·rw[if_pos hneg,if_pos hneg,ZjN];rfl
  ·rw[if_neg hneg,if_neg hneg,ZjN]
 refine⟨_,rfl,hid ?_,?_,?_⟩
 ·rw[Zbv,he]
 ·show(Lib.itoa n).toArray.size<=_
  rw[he];simpa using hlen
 ·exact⟨rfl,rfl,rfl,by simp[Go.Sort.grow,World.drewN],fun k hk=>by simp[Go.Sort.grow,World.drewN,Array.getElem?_append,hk]⟩
theorem LbOk.size{w:World}{a:Option Addr}{n c:Nat}{tx:ByteArray}{qs:List (ByteArray×ByteArray)}(h:LbOk w a n c tx qs):tx.size<=108018:=by
 rw[<-Zi,h.txt];exact h.wf.len
def Zcr(t:Int)(is:List Itm):List UInt8:=decI t++((is.map Itm.el).map elS).flatten
theorem ZuC(t:Int)(l:List Itm)(s:Itm):Zcr t (l++[s])=Zcr t l++elS s.el:=by
 unfold Zcr;simp
theorem Zss{s:Itm}(h1:(wrt s.labs).length<=108018)(h2:vOk s.v):(elS s.el).length<=1000108030:=by
 have:=ZjM s.v h2
 show([32,123]++wrt s.labs++[125]++decI s.v).length<=_
 simp only[List.length_append,List.length_cons,List.length_nil]
 omega
theorem Zoh{t:Int}(ht:vOk t):∀is:List Itm,(∀i∈is,(wrt i.labs).length<=108018/\vOk i.v)->(Zcr t is).length<=1000000002+1000108030*is.length
 | [],_=>by have:=ZjM t ht;simpa [Zcr] using this
 | s :: is, h => by
   have h1:=Zoh ht is (fun i hi=>h i (List.mem_cons_of_mem _ hi))
   have h2:=Zss (h s (by simp)).1 (h s (by simp)).2
   have e:(Zcr t (s::is)).length=(Zcr t is).length+(elS s.el).length:=by
     unfold Zcr
     simp only[List.map_cons,List.flatten_cons,List.length_append]
     omega
   rw[e,List.length_cons]
   omega
theorem ZuD(t:Int)(ht:vOk t)(v:Value)(n:Int)(w:World)(hv:ValP w v (.sc n))(hp:Zu w)(hB:20<=w.heap.size) :
  Calls Tryz.prog 92 #[.int .i64 t,v] w fun e w'=>∃r:ByteArray,e=.returned (.string r)/\Hid (bl r=Zfv t (.sc n))/\r.size<=40000000000/\Below w.heap.size w w':=by
 have HP:Hid (Zu w):=hp
 have HNG:Hid (20<=w.heap.size):=hB
 have HT:Hid (vOk t):=ht
 clear hp hB ht
 obtain⟨rfl,hn'⟩:=hv
 have HN:Hid (vOk n):=hn'
 have h1:=asSS (.int .i64 n)
 clear hn'
 go_enter Tryz.func92,Tryz.ntmps92
 go_wp2_with fail
 refine ZK fun W hW=>?_
 have hbW:Below w.heap.size w W:=by rw[hW];exact Zbal
 have HWW:Hid (WB W w.heap.size w.heap.size []):=hid ⟨Or.inl ⟨Nat.le_refl _,.slice none 0 0,by rw[hW];exact Go.Deep.blk_alloc_new _ _,⟨rfl,Or.inl ⟨rfl,rfl⟩⟩,by simp[Value.ownBlock]⟩,hbW.size⟩
 have HBW:Hid (Below w.heap.size w W):=hid hbW
 have HPW:=hid (HP.low hbW HNG.out)
 clear hW hbW
 refine(Zh1 HPW.out t HT.out).mono ?_
 rintro e w1 ⟨s1,rfl,HS1,hz1,hb1⟩
 have HW1:=hid (HWW.below hb1)
 have HB1:Hid (Below w.heap.size w w1):=hid (HBW.trans (hb1.mono HBW.size))
 have HP1:=hid (HPW.low hb1 (by have:=HNG.out;have:=HBW.size;omega))
 clear hb1 HWW HBW HPW
 go_wp2_with fail
 refine(Zix HW1.out s1 (by simp;omega)).mono ?_
 rintro e w2 ⟨rfl,HW2,HK2⟩
 have HB2:Hid (Below w.heap.size w w2):=hid (HB1.trans HK2.low)
 have HP2:=hid (HP1.low HK2.low HNG.out)
 clear HW1 HB1 HP1
 go_wp2_with fail
 refine(Zh1 HP2.out n HN.out).mono ?_
 rintro e w3 ⟨s3,rfl,HS3,hz3,hb3⟩
 have HW3:=hid (HW2.below hb3)
 have HB3:Hid (Below w.heap.size w w3):=hid (HB2.trans (hb3.mono HB2.size))
 clear hb3 HW2 HB2
 have HSZ:Hid ((⟨#[32]⟩++s3:ByteArray).size=1+s3.size):=hid (by rw[ByteArray.size_append];rfl)
 have HBX:Hid (bl (⟨#[32]⟩++s3:ByteArray)=[32]++decI n):=hid (by rw[ZeM,HS3.out];rfl)
 go_wp2_with fail
 generalize(⟨#[32]⟩++s3:ByteArray)=x at HSZ HBX ⊢
 have hzx:x.size<=1000000003:=by have:=HSZ.out;omega
 clear HSZ
 refine(Zix HW3.out x (by have b:([]++bl s1).length=s1.size:=(by rw[List.nil_append,Zi]);omega)).mono ?_
 rintro e w4 ⟨rfl,HW4,HK4⟩
 have HB4:Hid (Below w.heap.size w w4):=hid (HB3.trans HK4.low)
 have HE:Hid ([]++bl s1++bl x=Zfv t (.sc n)):=hid (by rw[HBX.out,HS1.out];show[]++decI t++([32]++decI n)=decI t++[32]++decI n;simp)
 have HSZ5:Hid (([]++bl s1++bl x).length<=40000000000):=hid (by have b:([]++bl s1++bl x).length=s1.size+x.size:=(by rw[List.nil_append,List.length_append,Zi,Zi]);omega)
 generalize[]++bl s1++bl x=z at HW4 HE HSZ5
 go_wp2_with fail
 refine(Tryz.Builder_String_any_f w.heap.size w.heap.size _ w4 HW4.bd HW4.le).mono ?_
 rintro e w5 ⟨rfl,_,hb5⟩
 have HB5:Hid (Below w.heap.size w w5):=hid (HB4.trans hb5)
 clear hb5 HK4
 go_wp2
 go_ret
 exact⟨_,rfl,hid (by rw[Zbv,HE.out]),by have a:=HSZ5.out;rw[<-List.size_toArray]at a;exact a,HB5.out⟩
theorem ZuE(t:Int)(ht:vOk t)(v:Value)(l:List El)(w:World)(hv:ValP w v (.vec l))(hn:VOk 30 (.vec l))(hp:Zu w)(hB:20<=w.heap.size) :
  Calls Tryz.prog 92 #[.int .i64 t,v] w fun e w'=>∃r:ByteArray,e=.returned (.string r)/\Hid (bl r=Zfv t (.vec l))/\r.size<=40000000000/\Below w.heap.size w w':=by
 have HP:Hid (Zu w):=hp
 have HNG:Hid (20<=w.heap.size):=hB
 have HT:Hid (vOk t):=ht
 clear hp hB ht
 obtain⟨s,is,rfl,hvv⟩:=hv
 have hlen:is.length<=30:=by rw[<-hvv.len'];exact hn.2
 obtain⟨ra,rcp,rfl⟩:=Zv hvv.row
 have HV:Hid (VecV w (.slice ra is.length rcp) l is):=hvv
 have HLS : Hid (∀ k, (Zcr t (is.take k)).length <= 40000000000 - 2000000000) := hid (fun k => by
   have:=Zoh HT.out (is.take k) (fun i hi=>⟨(hvv.ok i (List.mem_of_mem_take hi)).lb.wf.len,(hvv.ok i (List.mem_of_mem_take hi)).vok⟩)
   rw[List.length_take]at this
   omega)
 have h1:=asVS (.slice ra is.length rcp)
 have h2:=asVV (.slice ra is.length rcp)
 clear hn hvv
 go_enter Tryz.func92,Tryz.ntmps92
 go_wp2_with fail
 refine ZK fun W hW=>?_
 have hbW:Below w.heap.size w W:=by rw[hW];exact Zbal
 have HWW:Hid (WB W w.heap.size w.heap.size []):=hid ⟨Or.inl ⟨Nat.le_refl _,.slice none 0 0,by rw[hW];exact Go.Deep.blk_alloc_new _ _,⟨rfl,Or.inl ⟨rfl,rfl⟩⟩,by simp[Value.ownBlock]⟩,hbW.size⟩
 have HBW:Hid (Below w.heap.size w W):=hid hbW
 have HPW:=hid (HP.low hbW HNG.out)
 clear hW hbW
 refine(Zh1 HPW.out t HT.out).mono ?_
 rintro e w1 ⟨s1,rfl,HS1,hz1,hb1⟩
 have HW1:=hid (HWW.below hb1)
 have HB1:Hid (Below w.heap.size w w1):=hid (HBW.trans (hb1.mono HBW.size))
 clear hb1 HWW HBW HPW
 go_wp2_with fail
 refine(Zix HW1.out s1 (by simp;omega)).mono ?_
 rintro e w2 ⟨rfl,HW2,HK2⟩
 have HB2:Hid (Below w.heap.size w w2):=hid (HB1.trans HK2.low)
 have HW2':Hid (WB w2 w.heap.size w.heap.size (Zcr t [])):=hid (by have:=HW2.out;rw[HS1.out]at this;simpa [Zcr] using this)
 clear HW1 HB1 HW2 HK2
 go_wp2
 go_loopw [26] (fun i wr=>∃k:Nat,k<=is.length/\i=.int .i64 k/\Hid (WB wr w.heap.size w.heap.size (Zcr t (is.take k)))/\Hid (Below w.heap.size w wr)) (fun i _=>is.length - (intOf i).toNat)
 case atStart=>exact⟨0,Nat.zero_le _,rfl,HW2',HB2⟩
 case round=>
  rename World=>wo
  obtain⟨k,hk,rfl,HWB,HB⟩:=hrel
  have hwo:=HB.size
  by_cases hlt:k<is.length
  ·have hg:∃g,ra=some ⟨g,0,none⟩:=by
    obtain⟨g,cp',h⟩:=ZW HV.row (by omega)
    injection h with h1;exact⟨g,h1⟩
   obtain⟨vg,rfl⟩:=hg
   have HVR:=hid (Zw HV.row HB.out)
   obtain⟨f1,f2,f3⟩:=ZeS is k hlt
   have d1:=Zr HVR.out _ _ f1
   have d2:=Zr HVR.out _ _ f2
   have d3:=Zr HVR.out _ _ f3
   have HSO:=hid (HV.ok _ (List.getElem_mem hlt))
   have HTK:Hid (Zcr t (is.take (k+1))=Zcr t (is.take k)++elS (is[k]).el):=hid (by rw[List.take_succ_eq_append_getElem hlt];exact ZuC _ _ _)
   generalize is[k]=s at *
   have hsz:=HSO.lb.size
   have q1:¬9223372036854775807<2+s.tx.size:=by omega
   have q2:¬9223372036854775807<2+s.tx.size+1:=by omega
   clear f1 f2 f3 HVR
   have hkz:(k:Int)<(is.length:Int):=by omega
   go_upto_region 12 with fail
   refine Z9 fun W hW=>?_
   have hbW:Below wo.heap.size wo W:=by rw[hW];exact Zbal
   have HX:Hid (BAt W wo.heap.size [.slice s.a s.n s.c,.string s.tx,.int .i64 s.v] 286):=hid (by rw[hW];exact Go.Deep.blk_alloc_new _ _)
   have HWW:=hid (HWB.below hbW)
   have HBW:Hid (Below w.heap.size w W):=hid (HB.trans (hbW.mono hwo))
   clear hW hbW d1 d2 d3 HWB HB
   have hwW:=HBW.size
   have x0:=HX.cell 0
   have x1:=HX.cell 1
   have x2:=HX.cell 2
   simp only[Zget]at x0 x1 x2
   have HSB:Hid (∀w',BAt w' wo.heap.size [.slice s.a s.n s.c,.string s.tx,.int .i64 s.v] 286->w'.cell? ⟨wo.heap.size,0,none⟩=some (.slice s.a s.n s.c)/\w'.cell? ⟨wo.heap.size,1,none⟩=some (.string s.tx)/\w'.cell? ⟨wo.heap.size,2,none⟩=some (.int .i64 s.v)):=hid (fun w' h=>⟨h.cell 0,h.cell 1,h.cell 2⟩)
   go_region_held3 (fun w' => w'.cell? ⟨wo.heap.size, 0, none⟩ = some (.slice s.a s.n s.c) /\ w'.cell? ⟨wo.heap.size, 1, none⟩ = some (.string s.tx) /\ w'.cell? ⟨wo.heap.size, 2, none⟩ = some (.int .i64 s.v)) (first | exact ⟨x0, x1, x2⟩ | exact HSB.out _ HX7.out | exact HSB.out _ HX6.out | exact HSB.out _ HX5.out | go_keep) (first
     | (go_at_call 151
        refine(ZfJ _ _ _ _ _).mono ?_
        rintro e w5 ⟨rfl,o5,hw5⟩
        have HB5:Hid (Below W.heap.size W w5):=hid (by rw[hw5];exact((Below.refl _ _).drew).alloc (Nat.le_refl _) _)
        have HX5:=hid (HX.below HB5.out)
        clear hw5)
     | (go_at_call 64
        refine(Zh1 (HP.low (HBW.trans (HB5.mono hwW)) HNG.out) s.v HSO.vok).mono ?_
        rintro e w6 ⟨s6,rfl,HS6,hz6,hb6⟩
        have HB6:Hid (Below W.heap.size W w6):=hid (HB5.trans (hb6.mono HB5.size))
        have HX6:=hid (HX.below HB6.out)
        have HSZ6:Hid ((⟨#[32,123]⟩++s.tx++⟨#[125]⟩++s6:ByteArray).size=2+s.tx.size+1+s6.size):=hid (by rw[ByteArray.size_append,ByteArray.size_append,ByteArray.size_append];rfl)
        have HBL6:Hid (bl (⟨#[32,123]⟩++s.tx++⟨#[125]⟩++s6:ByteArray)=elS s.el):=hid (by
          rw[ZeM,ZeM,ZeM,HS6.out,HSO.lb.txt];rfl)
        have q3:¬9223372036854775807<2+s.tx.size+1+s6.size:=by omega
        clear hb6)
     | (go_at_call 63
        generalize(⟨#[32,123]⟩++s.tx++⟨#[125]⟩++s6:ByteArray)=x6 at HSZ6 HBL6 ⊢
        have hzx:x6.size<=1000108030:=(by have:=HSZ6.out;omega)
        clear HSZ6
        refine(Zix (HWW.below HB6.out) x6 (by have:=HLS.out k;omega)).mono ?_
        rintro e w7 ⟨rfl,HW7,HK7⟩
        have HX7:Hid (BAt w7 wo.heap.size [.slice s.a s.n s.c,.string s.tx,.int .i64 s.v] 286):=hid (WK.bat (HWW.below HB6.out) HK7.out HX6.out (by decide) (by decide))))
   have HWf:Hid (WB w7 w.heap.size w.heap.size (Zcr t (is.take (k+1)))):=hid (by rw[HTK.out,<-HBL6.out];exact HW7.out)
   have HBf:Hid (Below w.heap.size w w7):=hid ((HBW.trans (HB6.mono hwW)).trans HK7.low)
   go_wp2
   go_roundw
   case rel=>exact⟨k+1,by omega,by go_num,HWf,HBf⟩
   case measure=>simp[intOf];omega
  ·obtain rfl:k=is.length:=by omega
   rw[List.take_length]at HWB
   have HE:Hid (Zcr t is=Zfv t (.vec l)):=hid (by unfold Zcr;rw[HV.els];rfl)
   go_wp2_with fail
   refine(Tryz.Builder_String_any_f w.heap.size w.heap.size _ wo HWB.bd HWB.le).mono ?_
   rintro e w5 ⟨rfl,_,hb5⟩
   have HB5:Hid (Below w.heap.size w w5):=hid (HB.trans hb5)
   clear hb5
   go_wp2
   go_ret
   exact⟨_,rfl,hid (by rw[Zbv,HE.out]),by have a:=HLS.out is.length;rw[List.take_length,<-List.size_toArray]at a;exact Nat.le_trans a (by omega),HB5.out⟩
theorem ZuF(t:Int)(ht:vOk t)(v:Value)(V:VV)(w:World)(hv:ValP w v V)(hn:VOk 30 V)(hp:Zu w)(hB:20<=w.heap.size) :
  Calls Tryz.prog 92 #[.int .i64 t,v] w fun e w'=>∃r:ByteArray,e=.returned (.string r)/\Hid (bl r=Zfv t V)/\r.size<=40000000000/\Below w.heap.size w w':=by
 cases V with
 | sc n=>exact ZuD t ht v n w hv hp hB
 | vec l=>exact ZuE t ht v l w hv hn hp hB
theorem BAt.alloc{w:World}{a:Nat}{c:List Value}{t:TypeId}(h:BAt w a c t)(o:Obj):BAt (w.alloc o) a c t:=h.below Zbal
def ZcB:List (List UInt8)->List UInt8
 | []=>[]
 | [a]=>a
 | a::b::l=>a++10::ZcB (b::l)
theorem Zvn (w : World) : Calls Tryz.prog 91 #[] w fun e w' => e = .returned (.pointer (some ⟨w.heap.size + 1, 0, none⟩)) /\ Hid (MapX w' w.heap.size) /\ Hid (BAt w' (w.heap.size + 1) [.map (some w.heap.size)] 281) /\ w'.heap.size = w.heap.size + 2 /\ Below w.heap.size w w' := by
  have hmm:=@run_makeMap Tryz.prog
  go_enter Tryz.func91,Tryz.ntmps91
  go_wp2
  go_ret
  have h1:Below w.heap.size w (w.alloc (.map #[] 0)):=Zbal
  refine⟨rfl,hid ⟨#[],0,(Zbal.block _ (by simp)).trans (Go.Deep.blk_alloc_new _ _)⟩,hid ?_,by simp,h1.alloc (by simp) _⟩
  have:=Go.Deep.blk_alloc_new (w.alloc (.map #[] 0)) (.cells #[.map (some w.heap.size)] 281)
  rw[Go.Deep.nblk_alloc]at this
  exact this
theorem MapX.below{w w':World}{x:Nat}(h:MapX w x)(hb:Below w.heap.size w w'):MapX w' x:=by
 obtain⟨es,cl,hx⟩:=h
 exact⟨es,cl,(hb.block x (Array.getElem?_eq_some_iff.1 hx).1).trans hx⟩
theorem MapX.grown{w w':World}{x:Nat}{r:Option Nat}(h:MapX w x)(hg:w.grownBy w' r)(hn:some x≠r):MapX w' x:=by
 obtain⟨es,cl,hx⟩:=h
 exact⟨es,cl,(hg.block x (Array.getElem?_eq_some_iff.1 hx).1 hn).trans hx⟩
theorem BAt.set1{w:World}{a:Nat}{p q r x:Value}{t:TypeId}(h:BAt w a [p,q,r] t):BAt (w.setCell ⟨a,1,none⟩ x) a [p,x,r] t:=by
 unfold BAt at h
 unfold BAt
 simp only[World.setCell,Array.getElem?_modify,h,if_true,Option.map_some];rfl
theorem ZnO:∀l:List (List UInt8),Lib.join l [10]=ZcB l
 | []=>rfl
 | [a]=>by simp[Lib.join,List.intercalate,ZcB]
 | a :: b :: l => by
   have ih:=ZnO (b::l)
   rw[ZcB,<-ih]
   simp[Lib.join,List.intercalate]
theorem ZnP{n:Nat} : ∀l:List (List UInt8),(∀x∈l,x.length<=n)->(ZcB l).length<=l.length*(n+1)
 | [],_=>Nat.zero_le _
 | [a],h=>by have:=h a (by simp);simp only[ZcB,List.length_cons,List.length_nil];omega
 | a :: b :: l, h => by
   have ih:=ZnP (b::l) (fun x hx=>h x (List.mem_cons_of_mem _ hx))
   have ha:=h a (by simp)
   have e:(ZcB (a::b::l)).length=a.length+((ZcB (b::l)).length+1):=by rw[ZcB,List.length_append,List.length_cons]
   rw[e,List.length_cons,Nat.succ_mul]
   omega
theorem ZtI{w:World}{v:Value}{B:Nat}(bs:List ByteArray)(h:w.ownsRow B 9 1 v bs.length (Zbb bs))(hl:bs.length<=50)(hs:∀b∈bs,b.size<=40000000000) :
  Calls Tryz.prog 68 #[v,.string ⟨#[10]⟩] w fun e w'=>∃s:ByteArray,e=.returned (.string s)/\Hid (bl s=ZcB (bs.map bl))/\Below w.heap.size w w':=by
 by_cases hz:bs.length=0
 ·obtain⟨la,lc,rfl⟩:=Zv h
  rw[hz]
  refine(Tryz.strings_Join_none la lc ⟨#[10]⟩ w).mono ?_
  rintro e w' ⟨rfl,rfl⟩
  have:bs=[]:=List.eq_nil_of_length_eq_zero hz
  subst this
  exact⟨_,rfl,hid rfl,Below.refl _ _⟩
 ·obtain⟨g,lc,rfl⟩:=ZW h (by omega)
  have hj:Lib.join (bs.map (·.data.toList)) [10]=ZcB (bs.map bl):=ZnO _
  have hcm:=ZnP (n:=40000000000) (bs.map bl) (fun x hx=>by obtain⟨b,hb,rfl⟩:=List.mem_map.1 hx;rw[Zi];exact hs b hb)
  rw[List.length_map]at hcm
  have hcm2:(ZcB (bs.map bl)).length<=140737488355328:=by omega
  have hcap:bs.length<=lc:=by
   rcases h.2 with ⟨e,_⟩|⟨g',cap,cur,e,_,_,hc,_⟩
   ·cases e
   ·injection e with _ _ e;subst e;exact hc
  rw[<-hj]at hcm2
  refine(Tryz.strings_Join g 0 lc bs ⟨#[10]⟩ w ?_ (Zbq h) (by omega) hcap hcm2).mono ?_
  ·intro j x hj
   rw[Nat.zero_add]
   exact Zr h j _ (by show(bs.map Value.string)[j]?=_;rw[List.getElem?_map,hj];rfl)
  ·rintro e w' ⟨rfl,hb⟩
   exact⟨_,rfl,hid (by show bl (ByteArray.mk (Lib.join (bs.map (·.data.toList)) [10]).toArray)=_;rw[Zbv,hj]),hb⟩
structure MOk (x mb gb:Nat) (sv:Value) (ss:List Srs) (tm:Int) (w:World):Prop where
 m:BAt w mb [sv,.int .i64 tm,.pointer (some ⟨gb,0,none⟩)] 193
 g:BAt w gb [.map (some x)] 281
 map:MapX w x
 sto:StoP w sv ss
theorem MOk.belX{x mb gb:Nat}{sv:Value}{ss:List Srs}{tm:Int}{w w':World}(h:MOk x mb gb sv ss tm w)(hb:BelX x w.heap.size w w')(hm:MapX w' x):MOk x mb gb sv ss tm w':=by
 have hk:=Zs.belX hb h.map
 exact⟨hk _ _ _ _ h.m,hk _ _ _ _ h.g,hm,h.sto.keepsC hk⟩
theorem MOk.below{x mb gb:Nat}{sv:Value}{ss:List Srs}{tm:Int}{w w':World}(h:MOk x mb gb sv ss tm w)(hb:Below w.heap.size w w'):MOk x mb gb sv ss tm w':=by
 refine h.belX (BelX.of hb) ?_
 obtain⟨es,cl,hx⟩:=h.map
 exact⟨es,cl,(hb.block x (Array.getElem?_eq_some_iff.1 hx).1).trans hx⟩
theorem Ze.keepsC{w w':World}{t:Tr}{v:Value}(h:Ze w t v)(hk:Zs w w'):Ze w' t v:=Ze.mono (fun _ _ h=>h.keepsC hk) (fun _ _ h=>h.keepsC hk) t v h
def SayP(x mb gb:Nat)(sv:Value)(ss:List Srs)(tm:Int)(t:Tr)(w:World)(e:Ending)(w':World):Prop:=∃v,e=.returned v/\Hid (ValP w' v (sayT (ss.map Srs.ser) tm t))/\Hid (MOk x mb gb sv ss tm w')/\Hid (BelX x w.heap.size w w')
def Zb5(x mb gb:Nat)(sv:Value)(ss:List Srs)(tm:Int)(t:Tr):Prop:=∀(pv:Value) (w:World),MOk x mb gb sv ss tm w->Ze w t pv->Calls Tryz.prog 93 #[.pointer (some ⟨mb,0,none⟩),pv] w (SayP x mb gb sv ss tm t w)
variable {x mb gb:Nat} {sv:Value} {ss:List Srs} {tm:Int}
theorem Zxo(nd:Nd)(l r:Tr)(a b:Nat)(hk:nd.kind=0)(hn:vOk nd.n):Zb5 x mb gb sv ss tm (.node a b nd l r):=by
 intro pv w hM hP
 have hpv:pv=.iface 119 (.agg #[.int .i64 nd.n]):=by
  rcases hP with ⟨_,h⟩|⟨h,_⟩|⟨h,_⟩|⟨h,_⟩|⟨h,_⟩|⟨h,_⟩
  ·exact h
  all_goals omega
 subst hpv
 have HS:Hid (sayT (ss.map Srs.ser) tm (.node a b nd l r)=.sc nd.n):=hid (by unfold sayT;rw[if_pos hk])
 have HM:Hid (MOk x mb gb sv ss tm w):=hM
 have HN:Hid (vOk nd.n):=hn
 clear hP hM hn
 have h1:=Zgp (.agg #[.int .i64 nd.n])
 go_enter Tryz.func93,Tryz.ntmps93
 go_wp2
 go_ret
 have hb:∀o,Below w.heap.size w (w.alloc o):=fun o=>Zbal
 exact⟨_,rfl,hid (by rw[HS.out];exact⟨rfl,HN.out⟩),hid (HM.below (hb _)),hid (BelX.of (hb _))⟩
theorem Zxn(nd:Nd)(l r:Tr)(a b:Nat)(hk:nd.kind=3)(ihl:Zb5 x mb gb sv ss tm l):Zb5 x mb gb sv ss tm (.node a b nd l r):=by
 intro pv w hM hP
 obtain⟨y,hpv,hy⟩:∃y,pv=.iface 121 (.agg #[y])/\Ze w l y:=by
  rcases hP with ⟨h,_⟩|⟨h,_⟩|⟨h,_⟩|⟨_,y,h1,h2⟩|⟨h,_⟩|⟨h,_⟩
  ·omega
  ·omega
  ·omega
  ·exact⟨y,h1,h2⟩
  ·omega
  ·omega
 subst hpv
 obtain⟨ty,uv,rfl⟩:=hy.shape
 have HS:Hid (sayT (ss.map Srs.ser) tm (.node a b nd l r)=negV (sayT (ss.map Srs.ser) tm l)):=hid (by rw[sayT,if_neg (by omega),if_neg (by omega),if_neg (by omega),if_pos hk])
 have HM:Hid (MOk x mb gb sv ss tm w):=hM
 have HY:Hid (Ze w l (.iface ty uv)):=hy
 have HI:Hid (Zb5 x mb gb sv ss tm l):=ihl
 clear hP hM hy ihl
 have h1:=Zgo (.agg #[.iface ty uv])
 have h2:=Zgn (.agg #[.iface ty uv])
 go_enter Tryz.func93,Tryz.ntmps93
 go_wp2_with fail
 refine ZK fun W hW=>?_
 have hbW:Below w.heap.size w W:=by rw[hW];exact Zbal
 clear hW
 refine(HI.out _ W (HM.below hbW) (HY.below hbW)).mono ?_
 rintro e w5 ⟨v5,rfl,HV5,HM5,HB5⟩
 have HBw:Hid (BelX x w.heap.size w w5):=hid ((BelX.of hbW).trans (HB5.mono hbW.size))
 clear hbW HB5
 go_wp2_with fail
 refine(Zo1 v5 _ w5 HV5.out).mono ?_
 rintro e w6 ⟨v6,rfl,HV6,hb6⟩
 have HM6:=hid (HM5.below hb6)
 have HB6:Hid (BelX x w.heap.size w w6):=hid (HBw.trans ((BelX.of hb6).mono HBw.size))
 clear hb6
 go_wp2
 go_ret
 exact⟨_,rfl,hid (by rw[HS.out];exact HV6.out),HM6,HB6⟩
def VecP(x mb gb:Nat)(sv:Value)(ss:List Srs)(tm:Int)(t:Tr)(w:World)(e:Ending)(w':World):Prop:=∃s l is,e=.returned s/\Hid (VecV w' s l is/\sayT (ss.map Srs.ser) tm t=.vec l)/\Hid (MOk x mb gb sv ss tm w')/\Hid (BelX x w.heap.size w w')
theorem ZlD(t:Tr)(hv:Zds (sayT (ss.map Srs.ser) tm t)=true)(ih:Zb5 x mb gb sv ss tm t)(ty:TypeId)(uv:Value)(w:World)(hM:MOk x mb gb sv ss tm w)(hP:Ze w t (.iface ty uv)):Calls Tryz.prog 158 #[.pointer (some ⟨mb,0,none⟩),.iface ty uv] w (VecP x mb gb sv ss tm t w):=by
 have HC:=hid (ih _ w hM hP)
 obtain⟨l,hl⟩:∃l,sayT (ss.map Srs.ser) tm t=.vec l:=by
  cases h:sayT (ss.map Srs.ser) tm t with
  | sc n=>rw[h]at hv;cases hv
  | vec l=>exact⟨l,rfl⟩
 have HL:Hid (sayT (ss.map Srs.ser) tm t=.vec l):=hl
 clear hM hP hv hl ih
 go_enter Tryz.func158,Tryz.ntmps158
 go_wp2_with fail
 refine HC.mono ?_
 rintro e w5 ⟨v5,rfl,HV5,HM5,HB5⟩
 have hv5:=HV5.out
 rw[HL.out]at hv5
 obtain⟨s,is,rfl,hvv⟩:=hv5
 have HVV:Hid (VecV w5 s l is):=hvv
 obtain⟨sa,scp,rfl⟩:=Zv hvv.row
 clear hvv HV5
 have h1:=asVV (.slice sa is.length scp)
 go_wp2
 go_ret
 exact⟨_,l,is,rfl,hid ⟨HVV.out,HL.out⟩,HM5,HB5⟩
def EitP(x mb gb:Nat)(sv:Value)(ss:List Srs)(tm:Int)(t u:Tr)(w:World)(e:Ending)(w':World):Prop:=∃s l is,e=.returned s/\Hid (VecV w' s l is/\(if (ZeR (sayT (ss.map Srs.ser) tm t)).isEmpty then sayT (ss.map Srs.ser) tm u else sayT (ss.map Srs.ser) tm t)=.vec l)/\Hid (MOk x mb gb sv ss tm w')/\Hid (BelX x w.heap.size w w')
theorem Zsm(t u:Tr)(ht:Zds (sayT (ss.map Srs.ser) tm t)=true)(hu:Zds (sayT (ss.map Srs.ser) tm u)=true)(iht:Zb5 x mb gb sv ss tm t)(ihu:Zb5 x mb gb sv ss tm u)(ty uy:TypeId)(tv uv:Value)(w:World)(hM:MOk x mb gb sv ss tm w)(hPt:Ze w t (.iface ty tv))(hPu:Ze w u (.iface uy uv)) :
  Calls Tryz.prog 153 #[.pointer (some ⟨mb,0,none⟩),.iface ty tv,.iface uy uv] w (EitP x mb gb sv ss tm t u w):=by
 have HC:=hid (ZlD t ht iht ty tv w hM hPt)
 have HU:Hid (∀W,MOk x mb gb sv ss tm W->Ze W u (.iface uy uv)->Calls Tryz.prog 158 #[.pointer (some ⟨mb,0,none⟩),.iface uy uv] W (VecP x mb gb sv ss tm u W)):=hid (fun W h1 h2=>ZlD u hu ihu uy uv W h1 h2)
 have HPU:Hid (Ze w u (.iface uy uv)):=hPu
 have HMX:Hid (MapX w x):=hid hM.map
 clear hM hPt hPu ht hu iht ihu
 go_enter Tryz.func153,Tryz.ntmps153
 go_wp2_with fail
 refine HC.mono ?_
 rintro e w5 ⟨s,l,is,rfl,HV5,HM5,HB5⟩
 obtain⟨sa,scp,rfl⟩:=Zv HV5.1.row
 have hll:is.length=l.length:=HV5.1.len'.symm
 have hlen:=HV5.1.len
 by_cases h0:is.length=0
 ·have HE:Hid ((ZeR (sayT (ss.map Srs.ser) tm t)).isEmpty=true):=hid (by rw[HV5.2];show l.isEmpty=true;rw[List.isEmpty_iff];exact List.eq_nil_of_length_eq_zero (by omega))
  rw[h0]
  have hk:=Zs.belX HB5.out HMX.out
  have HP5:Hid (Ze w5 u (.iface uy uv)):=hid (HPU.keepsC hk)
  clear hk hll hlen h0
  go_wp2_with fail
  refine(HU.out w5 HM5.out HP5.out).mono ?_
  rintro e w6 ⟨s6,l6,is6,rfl,HV6,HM6,HB6⟩
  have HBw:Hid (BelX x w.heap.size w w6):=hid (HB5.trans (HB6.mono HB5.size))
  go_wp2
  go_ret
  exact⟨_,l6,is6,rfl,hid ⟨HV6.1,by rw[if_pos HE.out];exact HV6.2⟩,HM6,HBw⟩
 ·have HE:Hid (¬(ZeR (sayT (ss.map Srs.ser) tm t)).isEmpty=true):=hid (by rw[HV5.2];show ¬l.isEmpty=true;rw[List.isEmpty_iff];intro e;subst e;exact h0 hll)
  have hpos:(0:Int)<(is.length:Int):=by omega
  clear hll
  go_wp2
  go_ret
  exact⟨_,l,is,rfl,hid ⟨HV5.1,by rw[if_neg HE.out];exact HV5.2⟩,HM5,HB5⟩
end Go.Proofs.YtcdgkkfipdoeeaaGreatDoor

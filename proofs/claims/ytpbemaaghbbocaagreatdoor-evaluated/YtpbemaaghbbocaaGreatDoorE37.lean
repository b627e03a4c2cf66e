/- Parts. -/
import Derived.Test.YtpbemaaghbbocaaGreatDoorE36
namespace Go.Proofs.YtpbemaaghbbocaaGreatDoor
open Go.RowKit LS
theorem Zgd{w:World}{B b:Nat}{l:List UInt8}(h:WB w B b l)(s:ByteArray)(hl:l.length+s.size≤140737488355328) :
  Calls Tryz.prog 77 #[.pointer (some ⟨b,0,none⟩),.string s] w fun e w'=>e=.returned (.tuple #[.int .i64 s.size,.nilIface])∧Hid (WB w' B b (l++bl s))∧Hid (WK B b w w'):=by
 refine(ZfI B b (Lib.byteCells l) s w h.bd (by rw[Lib.byteCells_length];omega) h.le).mono ?_
 rintro e w' ⟨rfl,h1,h2,h3⟩
 rw[Zmu]at h1
 exact⟨rfl,⟨Or.inr h1,Nat.le_trans h.le h2.size⟩,⟨h2,h3⟩⟩
theorem Zf1{w:World}(h:Zb3 w)(n:Int)(hn:vOk n) :
  Calls Tryz.prog 78 #[.int .i64 n] w fun e w'=>∃s:ByteArray,e=.returned (.string s)∧Hid (bl s=decI n)∧s.size≤1000000002∧Below w.heap.size w w':=by
 have hlen:=Zep n hn
 unfold vOk at hn
 refine(Tryz.strconv_Itoa n (by omega) (by omega) w h).mono ?_
 rintro e w' ⟨rfl,k,os,rfl⟩
 have he:Lib.itoa n=decI n:=by
  unfold Lib.itoa decI
  by_cases hneg:n<0
  ·rw[if_pos hneg,if_pos hneg,ZiI];rfl
  ·rw[if_neg hneg,if_neg hneg,ZiI]
 refine⟨_,rfl,hid ?_,?_,?_⟩
 ·rw[Zc4,he]
 ·show(Lib.itoa n).toArray.size≤_
  rw[he];simpa using hlen
 ·exact⟨rfl,rfl,rfl,by simp[Go.Sort.grow,World.drewN],fun k hk=>by simp[Go.Sort.grow,World.drewN,Array.getElem?_append,hk]⟩
theorem LbOk.size{w:World}{a:Option Addr}{n c:Nat}{tx:ByteArray}{qs:List (ByteArray×ByteArray)}(h:LbOk w a n c tx qs):tx.size≤108018:=by
 rw[←Zg,h.txt];exact h.wf.len
def Zcd(t:Int)(is:List Itm):List UInt8:=decI t++((is.map Itm.el).map elS).flatten
theorem Zpy(t:Int)(l:List Itm)(s:Itm):Zcd t (l++[s])=Zcd t l++elS s.el:=by
 unfold Zcd;simp
theorem Znv{s:Itm}(h1:(wrt s.labs).length≤108018)(h2:vOk s.v):(elS s.el).length≤1000108030:=by
 have:=Zep s.v h2
 show([32,123]++wrt s.labs++[125]++decI s.v).length≤_
 simp only[List.length_append,List.length_cons,List.length_nil]
 omega
theorem ZjF{t:Int}(ht:vOk t):∀is:List Itm,(∀i∈is,(wrt i.labs).length≤108018∧vOk i.v)→(Zcd t is).length≤1000000002+1000108030*is.length
 | [],_=>by have:=Zep t ht;simpa [Zcd] using this
 | s :: is, h => by
   have h1:=ZjF ht is (fun i hi=>h i (List.mem_cons_of_mem _ hi))
   have h2:=Znv (h s (by simp)).1 (h s (by simp)).2
   have e:(Zcd t (s::is)).length=(Zcd t is).length+(elS s.el).length:=by
     unfold Zcd
     simp only[List.map_cons,List.flatten_cons,List.length_append]
     omega
   rw[e,List.length_cons]
   omega
set_option linter.unusedSimpArgs false in
set_option maxRecDepth 100000 in
set_option maxHeartbeats 8000000 in
theorem Zpz(t:Int)(ht:vOk t)(v:Value)(n:Int)(w:World)(hv:ValP w v (.sc n))(hp:Zb3 w)(hB:20≤w.heap.size) :
  Calls Tryz.prog 86 #[.int .i64 t,v] w fun e w'=>∃r:ByteArray,e=.returned (.string r)∧Hid (bl r=Zdh t (.sc n))∧r.size≤40000000000∧Below w.heap.size w w':=by
 have HP:Hid (Zb3 w):=hp
 have HNG:Hid (20≤w.heap.size):=hB
 have HT:Hid (vOk t):=ht
 clear hp hB ht
 obtain⟨rfl,hn'⟩:=hv
 have HN:Hid (vOk n):=hn'
 have h1:=asSS (.int .i64 n)
 clear hn'
 go_enter Tryz.func86,Tryz.ntmps86
 go_wp2_with fail
 refine Zbf fun W hW=>?_
 have hbW:Below w.heap.size w W:=by rw[hW];exact Zbal
 have HWW:Hid (WB W w.heap.size w.heap.size []):=hid ⟨Or.inl ⟨Nat.le_refl _,.slice none 0 0,by rw[hW];exact Go.Deep.blk_alloc_new _ _,⟨rfl,Or.inl ⟨rfl,rfl⟩⟩,by simp[Value.ownBlock]⟩,hbW.size⟩
 have HBW:Hid (Below w.heap.size w W):=hid hbW
 have HPW:=hid (HP.low hbW HNG.out)
 clear hW hbW
 refine(Zf1 HPW.out t HT.out).mono ?_
 rintro e w1 ⟨s1,rfl,HS1,hz1,hb1⟩
 have HW1:=hid (HWW.below hb1)
 have HB1:Hid (Below w.heap.size w w1):=hid (HBW.trans (hb1.mono HBW.size))
 have HP1:=hid (HPW.low hb1 (by have:=HNG.out;have:=HBW.size;omega))
 clear hb1 HWW HBW HPW
 go_wp2_with fail
 refine(Zgd HW1.out s1 (by simp;omega)).mono ?_
 rintro e w2 ⟨rfl,HW2,HK2⟩
 have HB2:Hid (Below w.heap.size w w2):=hid (HB1.trans HK2.low)
 have HP2:=hid (HP1.low HK2.low HNG.out)
 clear HW1 HB1 HP1
 go_wp2_with fail
 refine(Zf1 HP2.out n HN.out).mono ?_
 rintro e w3 ⟨s3,rfl,HS3,hz3,hb3⟩
 have HW3:=hid (HW2.below hb3)
 have HB3:Hid (Below w.heap.size w w3):=hid (HB2.trans (hb3.mono HB2.size))
 clear hb3 HW2 HB2
 have HSZ:Hid ((⟨#[32]⟩++s3:ByteArray).size=1+s3.size):=hid (by rw[ByteArray.size_append];rfl)
 have HBX:Hid (bl (⟨#[32]⟩++s3:ByteArray)=[32]++decI n):=hid (by rw[Zd5,HS3.out];rfl)
 go_wp2_with fail
 generalize(⟨#[32]⟩++s3:ByteArray)=x at HSZ HBX ⊢
 have hzx:x.size≤1000000003:=by have:=HSZ.out;omega
 clear HSZ
 refine(Zgd HW3.out x (by have b:([]++bl s1).length=s1.size:=(by rw[List.nil_append,Zg]);omega)).mono ?_
 rintro e w4 ⟨rfl,HW4,HK4⟩
 have HB4:Hid (Below w.heap.size w w4):=hid (HB3.trans HK4.low)
 have HE:Hid ([]++bl s1++bl x=Zdh t (.sc n)):=hid (by rw[HBX.out,HS1.out];show[]++decI t++([32]++decI n)=decI t++[32]++decI n;simp)
 have HSZ5:Hid (([]++bl s1++bl x).length≤40000000000):=hid (by have b:([]++bl s1++bl x).length=s1.size+x.size:=(by rw[List.nil_append,List.length_append,Zg,Zg]);omega)
 generalize[]++bl s1++bl x=z at HW4 HE HSZ5
 go_wp2_with fail
 refine(Tryz.Builder_String_any_f w.heap.size w.heap.size _ w4 HW4.bd HW4.le).mono ?_
 rintro e w5 ⟨rfl,_,hb5⟩
 have HB5:Hid (Below w.heap.size w w5):=hid (HB4.trans hb5)
 clear hb5 HK4
 go_wp2
 go_ret
 exact⟨_,rfl,hid (by rw[Zc4,HE.out]),by have a:=HSZ5.out;rw[←List.size_toArray]at a;exact a,HB5.out⟩
set_option linter.unusedSimpArgs false in
set_option maxRecDepth 100000 in
set_option maxHeartbeats 8000000 in
theorem ZpA(t:Int)(ht:vOk t)(v:Value)(l:List El)(w:World)(hv:ValP w v (.vec l))(hn:VOk 30 (.vec l))(hp:Zb3 w)(hB:20≤w.heap.size) :
  Calls Tryz.prog 86 #[.int .i64 t,v] w fun e w'=>∃r:ByteArray,e=.returned (.string r)∧Hid (bl r=Zdh t (.vec l))∧r.size≤40000000000∧Below w.heap.size w w':=by
 have HP:Hid (Zb3 w):=hp
 have HNG:Hid (20≤w.heap.size):=hB
 have HT:Hid (vOk t):=ht
 clear hp hB ht
 obtain⟨s,is,rfl,hvv⟩:=hv
 have hlen:is.length≤30:=by rw[←hvv.len'];exact hn.2
 obtain⟨ra,rcp,rfl⟩:=Zj hvv.row
 have HV:Hid (VecV w (.slice ra is.length rcp) l is):=hvv
 have HLS : Hid (∀ k, (Zcd t (is.take k)).length ≤ 40000000000 - 2000000000) := hid (fun k => by
   have:=ZjF HT.out (is.take k) (fun i hi=>⟨(hvv.ok i (List.mem_of_mem_take hi)).lb.wf.len,(hvv.ok i (List.mem_of_mem_take hi)).vok⟩)
   rw[List.length_take]at this
   omega)
 have h1:=asVS (.slice ra is.length rcp)
 have h2:=asVV (.slice ra is.length rcp)
 clear hn hvv
 go_enter Tryz.func86,Tryz.ntmps86
 go_wp2_with fail
 refine Zbf fun W hW=>?_
 have hbW:Below w.heap.size w W:=by rw[hW];exact Zbal
 have HWW:Hid (WB W w.heap.size w.heap.size []):=hid ⟨Or.inl ⟨Nat.le_refl _,.slice none 0 0,by rw[hW];exact Go.Deep.blk_alloc_new _ _,⟨rfl,Or.inl ⟨rfl,rfl⟩⟩,by simp[Value.ownBlock]⟩,hbW.size⟩
 have HBW:Hid (Below w.heap.size w W):=hid hbW
 have HPW:=hid (HP.low hbW HNG.out)
 clear hW hbW
 refine(Zf1 HPW.out t HT.out).mono ?_
 rintro e w1 ⟨s1,rfl,HS1,hz1,hb1⟩
 have HW1:=hid (HWW.below hb1)
 have HB1:Hid (Below w.heap.size w w1):=hid (HBW.trans (hb1.mono HBW.size))
 clear hb1 HWW HBW HPW
 go_wp2_with fail
 refine(Zgd HW1.out s1 (by simp;omega)).mono ?_
 rintro e w2 ⟨rfl,HW2,HK2⟩
 have HB2:Hid (Below w.heap.size w w2):=hid (HB1.trans HK2.low)
 have HW2':Hid (WB w2 w.heap.size w.heap.size (Zcd t [])):=hid (by have:=HW2.out;rw[HS1.out]at this;simpa [Zcd] using this)
 clear HW1 HB1 HW2 HK2
 go_wp2
 go_loopw [26] (fun i wr=>∃k:Nat,k≤is.length∧i=.int .i64 k∧Hid (WB wr w.heap.size w.heap.size (Zcd t (is.take k)))∧Hid (Below w.heap.size w wr)) (fun i _=>is.length - (intOf i).toNat)
 case atStart=>exact⟨0,Nat.zero_le _,rfl,HW2',HB2⟩
 case round=>
  rename World=>wo
  obtain⟨k,hk,rfl,HWB,HB⟩:=hrel
  have hwo:=HB.size
  by_cases hlt:k<is.length
  ·have hg:∃g,ra=some ⟨g,0,none⟩:=by
    obtain⟨g,cp',h⟩:=Zy HV.row (by omega)
    injection h with h1;exact⟨g,h1⟩
   obtain⟨vg,rfl⟩:=hg
   have HVR:=hid (Zw HV.row HB.out)
   obtain⟨f1,f2,f3⟩:=Zd9 is k hlt
   have d1:=Zn HVR.out _ _ f1
   have d2:=Zn HVR.out _ _ f2
   have d3:=Zn HVR.out _ _ f3
   have HSO:=hid (HV.ok _ (List.getElem_mem hlt))
   have HTK:Hid (Zcd t (is.take (k+1))=Zcd t (is.take k)++elS (is[k]).el):=hid (by rw[List.take_succ_eq_append_getElem hlt];exact Zpy _ _ _)
   generalize is[k]=s at *
   have hsz:=HSO.lb.size
   have q1:¬9223372036854775807<2+s.tx.size:=by omega
   have q2:¬9223372036854775807<2+s.tx.size+1:=by omega
   clear f1 f2 f3 HVR
   have hkz:(k:Int)<(is.length:Int):=by omega
   go_upto_region 12 with fail
   refine Z1 fun W hW=>?_
   have hbW:Below wo.heap.size wo W:=by rw[hW];exact Zbal
   have HX:Hid (BAt W wo.heap.size [.slice s.a s.n s.c,.string s.tx,.int .i64 s.v] 255):=hid (by rw[hW];exact Go.Deep.blk_alloc_new _ _)
   have HWW:=hid (HWB.below hbW)
   have HBW:Hid (Below w.heap.size w W):=hid (HB.trans (hbW.mono hwo))
   clear hW hbW d1 d2 d3 HWB HB
   have hwW:=HBW.size
   have x0:=HX.cell 0
   have x1:=HX.cell 1
   have x2:=HX.cell 2
   simp only[Zget]at x0 x1 x2
   have HSB:Hid (∀w',BAt w' wo.heap.size [.slice s.a s.n s.c,.string s.tx,.int .i64 s.v] 255→w'.cell? ⟨wo.heap.size,0,none⟩=some (.slice s.a s.n s.c)∧w'.cell? ⟨wo.heap.size,1,none⟩=some (.string s.tx)∧w'.cell? ⟨wo.heap.size,2,none⟩=some (.int .i64 s.v)):=hid (fun w' h=>⟨h.cell 0,h.cell 1,h.cell 2⟩)
   go_region_held3 (fun w' => w'.cell? ⟨wo.heap.size, 0, none⟩ = some (.slice s.a s.n s.c) ∧ w'.cell? ⟨wo.heap.size, 1, none⟩ = some (.string s.tx) ∧ w'.cell? ⟨wo.heap.size, 2, none⟩ = some (.int .i64 s.v)) (first | exact ⟨x0, x1, x2⟩ | exact HSB.out _ HX7.out | exact HSB.out _ HX6.out | exact HSB.out _ HX5.out | go_keep) (first
     | (go_at_call 124
        refine(ZeM _ _ _ _ _).mono ?_
        rintro e w5 ⟨rfl,o5,hw5⟩
        have HB5:Hid (Below W.heap.size W w5):=hid (by rw[hw5];exact((Below.refl _ _).drew).alloc (Nat.le_refl _) _)
        have HX5:=hid (HX.below HB5.out)
        clear hw5)
     | (go_at_call 78
        refine(Zf1 (HP.low (HBW.trans (HB5.mono hwW)) HNG.out) s.v HSO.vok).mono ?_
        rintro e w6 ⟨s6,rfl,HS6,hz6,hb6⟩
        have HB6:Hid (Below W.heap.size W w6):=hid (HB5.trans (hb6.mono HB5.size))
        have HX6:=hid (HX.below HB6.out)
        have HSZ6:Hid ((⟨#[32,123]⟩++s.tx++⟨#[125]⟩++s6:ByteArray).size=2+s.tx.size+1+s6.size):=hid (by rw[ByteArray.size_append,ByteArray.size_append,ByteArray.size_append];rfl)
        have HBL6:Hid (bl (⟨#[32,123]⟩++s.tx++⟨#[125]⟩++s6:ByteArray)=elS s.el):=hid (by
          rw[Zd5,Zd5,Zd5,HS6.out,HSO.lb.txt];rfl)
        have q3:¬9223372036854775807<2+s.tx.size+1+s6.size:=by omega
        clear hb6)
     | (go_at_call 77
        generalize(⟨#[32,123]⟩++s.tx++⟨#[125]⟩++s6:ByteArray)=x6 at HSZ6 HBL6 ⊢
        have hzx:x6.size≤1000108030:=(by have:=HSZ6.out;omega)
        clear HSZ6
        refine(Zgd (HWW.below HB6.out) x6 (by have:=HLS.out k;omega)).mono ?_
        rintro e w7 ⟨rfl,HW7,HK7⟩
        have HX7:Hid (BAt w7 wo.heap.size [.slice s.a s.n s.c,.string s.tx,.int .i64 s.v] 255):=hid (WK.bat (HWW.below HB6.out) HK7.out HX6.out (by decide) (by decide))))
   have HWf:Hid (WB w7 w.heap.size w.heap.size (Zcd t (is.take (k+1)))):=hid (by rw[HTK.out,←HBL6.out];exact HW7.out)
   have HBf:Hid (Below w.heap.size w w7):=hid ((HBW.trans (HB6.mono hwW)).trans HK7.low)
   go_wp2
   go_roundw
   case rel=>exact⟨k+1,by omega,by go_num,HWf,HBf⟩
   case measure=>simp[intOf];omega
  ·obtain rfl:k=is.length:=by omega
   rw[List.take_length]at HWB
   have HE:Hid (Zcd t is=Zdh t (.vec l)):=hid (by unfold Zcd;rw[HV.els];rfl)
   go_wp2_with fail
   refine(Tryz.Builder_String_any_f w.heap.size w.heap.size _ wo HWB.bd HWB.le).mono ?_
   rintro e w5 ⟨rfl,_,hb5⟩
   have HB5:Hid (Below w.heap.size w w5):=hid (HB.trans hb5)
   clear hb5
   go_wp2
   go_ret
   exact⟨_,rfl,hid (by rw[Zc4,HE.out]),by have a:=HLS.out is.length;rw[List.take_length,←List.size_toArray]at a;exact Nat.le_trans a (by omega),HB5.out⟩
theorem ZpB(t:Int)(ht:vOk t)(v:Value)(V:VV)(w:World)(hv:ValP w v V)(hn:VOk 30 V)(hp:Zb3 w)(hB:20≤w.heap.size) :
  Calls Tryz.prog 86 #[.int .i64 t,v] w fun e w'=>∃r:ByteArray,e=.returned (.string r)∧Hid (bl r=Zdh t V)∧r.size≤40000000000∧Below w.heap.size w w':=by
 cases V with
 | sc n=>exact Zpz t ht v n w hv hp hB
 | vec l=>exact ZpA t ht v l w hv hn hp hB
end Go.Proofs.YtpbemaaghbbocaaGreatDoor

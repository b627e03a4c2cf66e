/- Parts. -/
import Derived.Test.YtcdgkkfipdoeeaaGreatDoorT19
import Derived.Test.YtcdgkkfipdoeeaaGreatDoorTX
import Derived.RangeFuncNested
import Derived.RangeFuncBound
import Derived.RangeFuncCalls
import Derived.RangeFuncLeaves
import Derived.RangeFuncBox
import Derived.Maps.AppendAt
import Derived.Shelf.Abstract
import Derived.Shelf.RegionOpen
import Derived.WalkKit
import Derived.OwnWalkIn
import Derived.TacticsInMore
import Derived.LoopNIn
import Derived.LoopIn
import Derived.Sort.OwnSorted
import Derived.Test.YtcdgkkfipdoeeaaGreatDoorT21
import Derived.Test.YtcdgkkfipdoeeaaGreatDoorT12
import Derived.Test.YtcdgkkfipdoeeaaGreatDoorT02
set_option maxRecDepth 100000
set_option maxHeartbeats 8000000
namespace Go.Proofs.YtcdgkkfipdoeeaaGreatDoor
open Go.RowKit LS
def NmS(bs:List ByteArray):Prop:=bs.Pairwise fun a b=>Op.bytesLess (bl b) (bl a)=false
theorem NmS.le {bs : List ByteArray} (h : NmS bs) {i j : Nat} (hi : i <= j) (hj : j < bs.length) : Op.bytesLess (bl bs[j]) (bl (bs[i]'(by omega))) = false := by
  rcases Nat.lt_or_ge i j with h1|h1
  · exact List.pairwise_iff_getElem.1 h i j (by omega) hj h1
  · obtain rfl:i=j:=by omega
    exact ZcE _
theorem Zl8{x y z:List UInt8}(h1:Op.bytesLess y x=false)(h2:Op.bytesLess y z=true):Op.bytesLess x z=true:=by
 cases h3:Op.bytesLess x y with
 | true=>exact ZdG _ _ _ h3 h2
 | false=>rw[Zdq _ _ h3 h1];exact h2
theorem ZjX(bs:List ByteArray)(j:Nat)(hj:j<bs.length):(Zbb bs)[j]?=some (.string bs[j]):=by
 unfold Zbb;rw[List.getElem?_map,List.getElem?_eq_getElem hj];rfl
theorem ZoG{bs:List ByteArray}(hs:NmS bs){y:List UInt8}{k:Nat}(h1:∀j (h:j<bs.length),j<k->Op.bytesLess (bl bs[j]) y=true)(h2:∀j (h:j<bs.length),k<=j->Op.bytesLess (bl bs[j]) y=false)(hm:y∈bs.map bl):∃h:k<bs.length,bl bs[k]=y:=by
 obtain⟨b,hb,rfl⟩:=List.mem_map.1 hm
 obtain⟨j,hj,rfl⟩:=List.mem_iff_getElem.1 hb
 have hkj:k<=j:=by
  rcases Nat.lt_or_ge j k with h|h
  ·have:=h1 j hj h
   rw[ZcE]at this;cases this
  ·exact h
 exact⟨by omega,Zdq _ _ (h2 k (by omega) (Nat.le_refl _)) (hs.le hkj hj)⟩
theorem Zrn(v:Value)(bs:List ByteArray)(tx:ByteArray)(w:World)(hrow:w.ownsRow 0 9 1 v bs.length (Zbb bs))(hlen:bs.length<=100000)(hs:NmS bs) :
  Calls Tryz.prog 234 #[v,.string tx] w fun e w'=>∃k:Nat,e=.returned (.tuple #[.int .i64 k,.bool (decide (bl tx∈bs.map bl))])/\w'=w:=by
 obtain⟨ra,rcp,rfl⟩:=Zv hrow
 have HR:Hid (w.ownsRow 0 9 1 (.slice ra bs.length rcp) bs.length (Zbb bs)):=hrow
 have HS:Hid (NmS bs):=hs
 obtain⟨fd,hfd⟩:∃fd,fd=decide (bl tx∈bs.map bl):=⟨_,rfl⟩
 rw[<-hfd]
 have HFD:Hid (fd=decide (bl tx∈bs.map bl)):=hfd
 clear hrow hs hfd
 go_enter Tryz.func234,Tryz.ntmps234
 go_wp2
 go_loopg [7,8] bs.length (fun kx s5 s6 wr=>∃lo hi:Nat,s5=.int .i64 lo/\s6=.int .i64 hi/\lo<=hi/\hi<=bs.length/\hi - lo<=kx/\wr=w/\Hid ((∀j (h:j<bs.length),j<lo->Op.bytesLess (bl bs[j]) (bl tx)=true)/\(∀j (h:j<bs.length),hi<=j->Op.bytesLess (bl bs[j]) (bl tx)=false)))
 case atStart=>exact⟨0,bs.length,rfl,rfl,Nat.zero_le _,Nat.le_refl _,by omega,rfl,hid ⟨fun j _ h=>absurd h (Nat.not_lt_zero _),fun j h h'=>by omega⟩⟩
 case round=>
  obtain⟨lo,hi,rfl,rfl,hlh,hin,hg,rfl,I⟩:=hrel
  by_cases hlt:lo<hi
  ·have hml:(lo+hi) / 2<bs.length:=by omega
   have hg:∃g,ra=some ⟨g,0,none⟩:=by
    obtain⟨g,cp',h⟩:=ZW HR.out (by omega)
    injection h with h1;exact⟨g,h1⟩
   obtain⟨g,rfl⟩:=hg
   have d1:=Zr HR.out _ _ (ZjX bs ((lo+hi) / 2) hml)
   have hmz:(((lo+hi) / 2:Nat):Int)=((lo:Int)+(hi:Int)) / 2:=by omega
   have hmn:(((lo:Int)+(hi:Int)) / 2).toNat=(lo+hi) / 2:=by omega
   have hc:=Zuc bs[(lo+hi) / 2] tx
   have HM1:Hid (Op.bytesLess (bl bs[(lo+hi) / 2]) (bl tx)=true->∀i (h:i<bs.length),i<=(lo+hi) / 2->Op.bytesLess (bl bs[i]) (bl tx)=true):=hid (fun hl i h h'=>Zl8 (HS.le h' hml) hl)
   have HM2 : Hid (Op.bytesLess (bl bs[(lo + hi) / 2]) (bl tx) = false -> ∀ i (h : i < bs.length), (lo + hi) / 2 <= i -> Op.bytesLess (bl bs[i]) (bl tx) = false) := hid (fun hl i h h' => by
     cases hb:Op.bytesLess (bl bs[i]) (bl tx)with
     | false=>rfl
     | true=>rw[Zl8 (HS.le h' h) hb]at hl;cases hl)
   generalize bs[(lo+hi) / 2]=x at *
   cases hx:Op.bytesLess (bl x) (bl tx)with
   | true=>
    rw[hx]at hc
    have HX:=hid (HM1.out hx)
    clear hx
    go_wp2_with (go_at_call 262;refine(hc _).mono ?_;rintro e w' ⟨rfl,rfl⟩)
    go_roundg (hi - ((lo+hi) / 2+1))
    case measure=>omega
    case rel=>
     exact⟨(lo+hi) / 2+1,hi,by rw[show((lo:Int)+(hi:Int)) / 2+1=(((lo+hi) / 2+1:Nat):Int) by omega],rfl,by omega,hin,Nat.le_refl _,rfl,hid ⟨fun j h h'=>HX.out j h (by omega),I.2⟩⟩
   | false=>
    rw[hx]at hc
    have HX:=hid (HM2.out hx)
    clear hx
    go_wp2_with (go_at_call 262;refine(hc _).mono ?_;rintro e w' ⟨rfl,rfl⟩)
    go_roundg ((lo+hi) / 2 - lo)
    case measure=>omega
    case rel=>
     exact⟨lo,(lo+hi) / 2,rfl,by rw[show((lo:Int)+(hi:Int)) / 2=(((lo+hi) / 2:Nat):Int) by omega],by omega,by omega,Nat.le_refl _,rfl,hid ⟨I.1,HX.out⟩⟩
  ·obtain rfl:hi=lo:=by omega
   by_cases hll:hi<bs.length
   ·have hg:∃g,ra=some ⟨g,0,none⟩:=by
     obtain⟨g,cp',h⟩:=ZW HR.out (by omega)
     injection h with h1;exact⟨g,h1⟩
    obtain⟨g,rfl⟩:=hg
    have d1:=Zr HR.out _ _ (ZjX bs hi hll)
    have he:(bs[hi].toList == tx.toList)=fd:=by
     rw[Zjt,HFD.out,decide_eq_decide]
     constructor
     ·intro h;rw[<-h];exact List.mem_map.2 ⟨_,List.getElem_mem hll,rfl⟩
     ·intro h;exact(ZoG HS.out I.1 I.2 h).2
    clear HFD
    generalize bs[hi]=x at *
    cases fd
    ·go_wp2_with (go_at_call 266;refine(ZoD _ _).mono ?_;rintro e w' ⟨rfl,rfl⟩)
     go_ret2
     exact⟨hi,rfl,rfl⟩
    ·go_wp2_with (go_at_call 266;refine(ZoD _ _).mono ?_;rintro e w' ⟨rfl,rfl⟩)
     go_ret2
     exact⟨hi,rfl,rfl⟩
   ·have he:fd=false:=by
     rw[HFD.out,decide_eq_false_iff_not]
     intro h
     exact hll (ZoG HS.out I.1 I.2 h).1
    subst he
    go_wp2
    go_ret2
    exact⟨hi,rfl,rfl⟩
theorem ZtL(l:List Lab)(p:Lab)(ns:List (List UInt8)):Zz (l++[p]) ns=if p.1∈ns then Zz l ns++[p] else Zz l ns:=by
 unfold Zz
 rw[List.filter_append]
 split
 ·rename_i h;rw[List.filter_cons_of_pos (by simpa using h)];rfl
 ·rename_i h;rw[List.filter_cons_of_neg (by simpa using h)];simp
theorem Zt4(a:Option Addr)(n c:Nat)(tx:ByteArray)(qs:List (ByteArray×ByteArray))(nv:Value)(bs:List ByteArray)(w:World)(hl:LbOk w a n c tx qs)(hn:w.ownsRow 0 9 1 nv bs.length (Zbb bs))(hbl:bs.length<=100000)(hs:NmS bs) :
  Calls Tryz.prog 205 #[.agg #[.slice a n c,.string tx],nv] w fun e w'=>∃(a':Option Addr) (n' c':Nat) (tx':ByteArray) (qs':List (ByteArray×ByteArray)),e=.returned (.agg #[.slice a' n' c',.string tx'])/\Hid (LbOk w' a' n' c' tx' qs'/\qs'.map blP=Zz (qs.map blP) (bs.map bl))/\Below w.heap.size w w':=by
 obtain⟨i0,hi,hz0,hz1,hz2⟩:=info_parts Tryz.infoLabel
 have hqn:qs.length=n:=by have:=hl.row.1.1;rw[ZhK]at this;omega
 subst hqn
 obtain⟨na,ncp,rfl⟩:=Zv hn
 have HL:Hid (LbOk w a qs.length c tx qs):=hl
 have hn6:qs.length<=6001:=hl.row.2.1
 have HBS:Hid (∀W,Below w.heap.size w W->∀nm:ByteArray,Calls Tryz.prog 234 #[.slice na bs.length ncp,.string nm] W fun e w'=>∃k:Nat,e=.returned (.tuple #[.int .i64 k,.bool (decide (bl nm∈bs.map bl))])/\w'=W):=hid (fun W hW nm=>Zrn _ bs nm W (Zw hn hW) hbl hs)
 clear hl hn hs
 go_enter Tryz.func205,Tryz.ntmps205
 go_wp2
 go_loopw [5, 13] (fun v i wr => ∃ (k : Nat) (os : List (ByteArray × ByteArray)), k <= qs.length /\ i = .int .i64 k /\ os.length <= k /\ wr.ownsRow (w.heap.size + 2) 378 2 v os.length (ZbD os) /\ Hid (os.map blP = Zz ((qs.take k).map blP) (bs.map bl) /\ ∀ p ∈ os, p ∈ qs) /\ Hid (BAt wr w.heap.size [.slice a qs.length c, .string tx] 268) /\ Hid (BAt wr (w.heap.size + 1) [.slice none 0 0, .string ⟨#[]⟩] 268) /\ Hid (Below w.heap.size w wr))
   (fun _ i _=>qs.length - (intOf i).toNat)
 case atStart=>
  obtain⟨g1,g2⟩:BAt ((w.alloc (.cells #[.slice a qs.length c,.string tx] 268)).alloc (.cells #[.slice none 0 0,.string ⟨#[]⟩] 268)) w.heap.size [.slice a qs.length c,.string tx] 268/\BAt ((w.alloc (.cells #[.slice a qs.length c,.string tx] 268)).alloc (.cells #[.slice none 0 0,.string ⟨#[]⟩] 268)) (w.heap.size+1) [.slice none 0 0,.string ⟨#[]⟩] 268:=by
   refine⟨(Zbal.block _ (by simp)).trans (Go.Deep.blk_alloc_new _ _),?_⟩
   have:=Go.Deep.blk_alloc_new (w.alloc (.cells #[.slice a qs.length c,.string tx] 268)) (.cells #[.slice none 0 0,.string ⟨#[]⟩] 268)
   rw[Go.Deep.nblk_alloc]at this
   exact this
  exact⟨0,[],Nat.zero_le _,rfl,Nat.zero_le _,World.ownsRow_nil _ _ _ _,hid ⟨rfl,fun p hp=>by cases hp⟩,hid g1,hid g2,hid (Zbal.alloc (by simp) _)⟩
 case round=>
  rename World=>wo
  obtain⟨k,os,hk,rfl,hosk,hown,HOS,HB0,HB1,HB⟩:=hrel
  have hwr:=HB.size
  have hw0:=HB0.lt
  have hw1:=HB1.lt
  by_cases hlt:k<qs.length
  ·have hg:∃g,a=some ⟨g,0,none⟩:=by
    obtain⟨g,cp',h⟩:=ZW HL.row.1 (by omega)
    injection h with h1;exact⟨g,h1⟩
   obtain⟨g,rfl⟩:=hg
   have HVR:=hid (Zw HL.row.1 HB.out)
   obtain⟨f1,f2⟩:=ZhJ qs k
   rw[List.getElem?_eq_getElem hlt]at f1 f2
   have d1:=Zr HVR.out _ _ f1
   have d2:=Zr HVR.out _ _ f2
   have HTK:Hid (Zz ((qs.take (k+1)).map blP) (bs.map bl)=if bl (qs[k]).1∈bs.map bl then Zz ((qs.take k).map blP) (bs.map bl)++[blP qs[k]] else Zz ((qs.take k).map blP) (bs.map bl)):=hid (by
    rw[List.take_succ_eq_append_getElem hlt,List.map_append];exact ZtL _ _ _)
   have HMQ:Hid (qs[k]∈qs):=hid (List.getElem_mem hlt)
   generalize qs[k]=q at *
   obtain⟨x,y⟩:=q
   simp only at d1 d2
   clear f1 f2 HVR
   have hkz:(k:Int)<(qs.length:Int):=by omega
   go_wp2_with fail
   refine ZK fun W hW=>?_
   have hbW:Below wo.heap.size wo W:=by rw[hW];exact Zbal
   have HX:Hid (BAt W wo.heap.size [.string x,.string y] 378):=hid (by rw[hW];exact Go.Deep.blk_alloc_new _ _)
   have HBW:Hid (Below w.heap.size w W):=hid (HB.trans (hbW.mono hwr))
   have HNE:=hid (fun q hq=>(hown.lt q hq).2)
   have hownW:=Zw hown hbW
   have HB0W:=hid (HB0.below hbW)
   have HB1W:=hid (HB1.below hbW)
   clear hW hbW hown HB d1 d2 HB0 HB1
   refine(HBS.out W HBW.out x).mono ?_
   rintro e w5 ⟨kk,rfl,rfl⟩
   have hwx:=HX.lt
   by_cases hm:bl x∈bs.map bl
   ·rw[decide_eq_true hm]
    have HTK2 : Hid ((os ++ [(x, y)]).map blP = Zz ((qs.take (k + 1)).map blP) (bs.map bl) /\ ∀ p ∈ os ++ [(x, y)], p ∈ qs) := hid ⟨by rw [HTK.out, if_pos hm, List.map_append, HOS.1]; rfl, fun p hp => by
      rcases List.mem_append.1 hp with hp|hp
      · exact HOS.2 p hp
      · rw[List.mem_singleton]at hp;subst hp;exact HMQ.out⟩
    clear hm
    have x0:=HX.cell 0
    have x1:=HX.cell 1
    simp only[Zget]at x0 x1
    go_wp2_with (at_builtin;refine wpList_append_own _ rfl (.tmp 25) (.tmp 27) 266 rfl (w.heap.size+2) 378 i0 (.agg #[.string ByteArray.empty,.string ByteArray.empty]) 2 32 Tryz.underlying266 hi hz0 hz1 hz2 rfl (by decide) _ _ _ rfl (hownW.alloc _) ⟨w5.heap.size,0,none⟩ 1 1 [.string x,.string y] rfl rfl ?c1 ?c2 ?c3 ?c4 ?c5 ?_)
    case c1=>exact ZdH rfl
    case c2=>intro u hu;simp at hu;rcases hu with rfl|rfl <;> rfl
    case c3=>unfold maxLen;omega
    case c4=>omega
    case c5=>simp;omega
    intro v6 w6 hown6 hgrow6 _
    have hbA:∀o,Below w5.heap.size w5 (w5.alloc o):=fun o=>Zbal
    have hkb:=(Z1.below (hbA _) 378).trans (Z1.grown hgrow6 (hownW.alloc _))
    have HB6:Hid (Below w.heap.size w w6):=hid ((HBW.alloc (by omega) _).grown hgrow6 (by simp;omega) (fun q hq=>by have:=(hownW.lt q hq).1;omega))
    have hown7:w6.ownsRow (w.heap.size+2) 378 2 v6 (os++[(x,y)]).length (ZbD (os++[(x,y)])):=by
     rw[Zm8,List.length_append];exact hown6
    have HB06:Hid (BAt w6 w.heap.size [.slice (some ⟨g,0,none⟩) qs.length c,.string tx] 268):=hid (hkb _ _ _ _ (by decide) HB0W.out)
    have HB16:Hid (BAt w6 (w.heap.size+1) [.slice none 0 0,.string ⟨#[]⟩] 268):=hid (hkb _ _ _ _ (by decide) HB1W.out)
    clear hgrow6 hown6 hownW hkb x0 x1 hbA
    go_wp2
    go_roundw
    case rel=>exact⟨k+1,_,by omega,by go_num,by simp;omega,hown7,HTK2,HB06,HB16,HB6⟩
    case measure=>simp[intOf];omega
   ·rw[decide_eq_false hm]
    have HTK2:Hid (os.map blP=Zz ((qs.take (k+1)).map blP) (bs.map bl)/\∀p∈os,p∈qs):=hid ⟨by rw[HTK.out,if_neg hm];exact HOS.1,HOS.2⟩
    clear hm
    go_wp2
    go_roundw
    case rel=>exact⟨k+1,os,by omega,by go_num,by omega,hownW,HTK2,HB0W,HB1W,HBW⟩
    case measure=>simp[intOf];omega
  ·obtain rfl:k=qs.length:=by omega
   have HK:Hid (os.map blP=Zz (qs.map blP) (bs.map bl)):=hid (by have:=HOS.1;rwa [List.take_length]at this)
   have HWF:Hid (Zc0 (os.map blP)):=hid (by rw[HK.out];exact HL.wf.kept _)
   have HSZ:Hid (∀p∈os,p.1.size<=6000/\p.2.size<=6000):=hid (fun p hp=>HL.row.2.2 p (HOS.2 p hp))
   obtain⟨va,vcp,hva⟩:=Zv hown
   subst hva
   have y0:=HB0.cell 0
   have y1:=HB0.cell 1
   have z0:=HB1.cell 0
   have z1:=HB1.cell 1
   have fz0:=HB1.frozen 0
   have fz1:=HB1.frozen 1
   simp only[Zget]at y0 y1 z0 z1
   by_cases hle:os.length=qs.length
   ·have hez:((os.length:Int) == (qs.length:Int))=true:=by simp[hle]
    have HEQ:Hid (qs.map blP=Zz (qs.map blP) (bs.map bl)):=hid (by
     unfold Zz
     refine(List.filter_eq_self.2 ?_).symm
     have h1:=HK.out
     have h2:(Zz (qs.map blP) (bs.map bl)).length=(qs.map blP).length:=by rw[<-h1,List.length_map,List.length_map,hle]
     unfold Zz at h2
     exact List.length_filter_eq_length_iff.1 h2)
    have HLo:Hid (LbOk wo a qs.length c tx qs):=hid (HL.keepsC (Zs.below HB.out))
    have HLS : Hid (∀ x y, LbOk ((wo.setCell ⟨w.heap.size + 1, 0, none⟩ x).setCell ⟨w.heap.size + 1, 1, none⟩ y) a qs.length c tx qs) := hid (fun x y => ⟨⟨Zg8 HLo.row.1 (fun j hj => by
      have hne:j≠w.heap.size+1:=by rintro rfl;exact Zdl HLo.row.1 HB1.out (by decide) hj.symm
      rw[Go.Deep.blk_setCell_other _ _ _ _ hne,Go.Deep.blk_setCell_other _ _ _ _ hne]),HLo.row.2⟩,HLo.txt,HLo.wf⟩)
    clear hown
    go_wp2
    exact bodyPost_ret (v:=.agg #[.slice a qs.length c,.string tx]) (by simp[results,Tryz.results205,go_sem,z0,z1]) rfl ⟨a,qs.length,c,tx,qs,rfl,hid ⟨HLS.out _ _,HEQ.out⟩,(HB.setCell (p:=⟨w.heap.size+1,0,none⟩) (by show w.heap.size<=w.heap.size+1;omega) _).setCell (p:=⟨w.heap.size+1,1,none⟩) (by show w.heap.size<=w.heap.size+1;omega) _⟩
   ·have hez:((os.length:Int) == (qs.length:Int))=false:=by rw[beq_eq_false_iff_ne];omega
    have HRO:Hid (ZbT wo 0 (.slice va os.length vcp) os.length os):=hid ⟨hown.mono (Nat.zero_le _),by omega,HSZ.out⟩
    clear hown
    go_wp2_with fail
    refine(ZoM va os.length vcp _ os HRO.out).mono ?_
    rintro e w5 ⟨a',c',rfl,hr5,hb5⟩
    have HB15:=hid (HB1.below hb5)
    have HB5:Hid (Below w.heap.size w w5):=hid (HB.trans (hb5.mono hwr))
    have HL5:Hid (LbOk w5 a' os.length c' ⟨(ZU os).toArray⟩ os):=hid ⟨hr5,by rw[Zkn];rfl,HWF.out⟩
    have HLS : Hid (∀ x y, LbOk ((w5.setCell ⟨w.heap.size + 1, 0, none⟩ x).setCell ⟨w.heap.size + 1, 1, none⟩ y) a' os.length c' ⟨(ZU os).toArray⟩ os) := hid (fun x y => ⟨⟨Zg8 HL5.row.1 (fun j hj => by
      have hne:j≠w.heap.size+1:=by rintro rfl;exact Zdl HL5.row.1 HB15.out (by decide) hj.symm
      rw[Go.Deep.blk_setCell_other _ _ _ _ hne,Go.Deep.blk_setCell_other _ _ _ _ hne]),HL5.row.2⟩,HL5.txt,HL5.wf⟩)
    clear y0 y1 z0 z1 fz0 fz1 hr5 hb5
    have z0:=HB15.cell 0
    have z1:=HB15.cell 1
    have fz0:=HB15.frozen 0
    have fz1:=HB15.frozen 1
    simp only[Zget]at z0 z1
    go_wp2
    exact bodyPost_ret (v:=.agg #[.slice a' os.length c',.string ⟨(ZU os).toArray⟩]) (by simp[results,Tryz.results205,go_sem,z0,z1]) rfl ⟨a',os.length,c',_,os,rfl,hid ⟨HLS.out _ _,HK.out⟩,(HB5.setCell (p:=⟨w.heap.size+1,0,none⟩) (by show w.heap.size<=w.heap.size+1;omega) _).setCell (p:=⟨w.heap.size+1,1,none⟩) (by show w.heap.size<=w.heap.size+1;omega) _⟩
attribute [local go_sem] Oper.semAt_some
def Zem(bs:List ByteArray)(k:Nat):List ByteArray:=(List.range k).map fun j=>bs[j]?.getD ByteArray.empty
theorem Zzt(bs:List ByteArray)(k:Nat):Zem bs (k+1)=Zem bs k++[bs[k]?.getD ByteArray.empty]:=by simp[Zem,List.range_succ]
theorem Zzs(bs:List ByteArray)(k:Nat):(Zem bs k).length=k:=by simp[Zem]
theorem Zzr(bs:List ByteArray):Zem bs bs.length=bs:=by
 apply List.ext_getElem
 ·simp[Zem]
 ·intro i h1 h2
  simp[Zem,h2]
theorem Zp5(n:Nat)(hn:1<=n)(l Bs n₀ b len cap:Nat)(bs:List ByteArray)(hreach:len<=100000)(hb:b<n₀)(J Jx:List ByteArray->World->Prop)
  (hY:∀pre x W,J pre W->pre.length<len->YieldAt Fence.wide (n - 1) Tryz.prog l #[.string x] W fun e W'=>
   (e=.returned (.bool true)/\J (pre++[x]) W'/\Below n₀ W W')∨(e=.returned (.bool false)/\Jx (pre++[x]) W'))
  (W:World) (hBs:W.cell? ⟨Bs,0,none⟩=some (.slice (some ⟨b,0,none⟩) len cap)) (hc:∀j,j<len->W.cell? ⟨b,j,none⟩=some (.string (bs[j]?.getD ByteArray.empty))) (h0:J [] W) :
  CallsIn Fence.wide n Tryz.prog 204 #[.func (.yield l) #[] #[], .pointer (some ⟨Bs, 0, none⟩)] W fun e W' => (∃ v, e = .returned v) /\
    ((∃ys,ys=Zem bs len/\J ys W')∨(∃pre,True/\Jx pre W')):=by
 refine callsIn_of_wp Tryz.func204 rfl trivial ?_ rfl
 simp only[Tryz.ntmps204,List.size_toArray,List.length_cons,List.length_nil,Nat.reduceAdd,Nat.reduceSub,Array.replicate_succ,Array.replicate_zero,List.push_toArray,List.append_toArray,List.nil_append,List.cons_append]
 gi_wp2
 gi_loopw [7] (fun i wr => ∃ k : Nat, k <= len /\ i = .int .i64 k /\ J (Zem bs k) wr /\ Below n₀ W wr)
   (fun i _=>len - (intOf i).toNat)
 case atStart=>exact⟨0,Nat.zero_le _,rfl,h0,Below.refl _ _⟩
 case round=>
  obtain⟨k,hk,rfl,hJs,hnx⟩:=hrel
  have hcx:k<len->wr.cell? ⟨b,k,none⟩=some (.string (bs[k]?.getD ByteArray.empty)):=fun h=>(hnx.cell (p:=⟨b,k,none⟩) hb).trans (hc k h)
  by_cases hlt:k<len
  ·obtain⟨fn,tmps,assign,body,hy,hR⟩:=hY _ (bs[k]?.getD ByteArray.empty) wr hJs (by rw[Zzs];exact hlt)
   have hcx':=hcx hlt
   gi_wp2
   refine hR.mono ?_
   rintro e W3 (⟨rfl,hJ3,hk3⟩|⟨rfl,hJx3⟩)
   ·gi_wp2
    go_roundw
    case rel=>exact⟨k+1,by omega,by simp,by rw[Zzt];exact hJ3,hnx.trans hk3⟩
    case measure=>simp[intOf];omega
   ·gi_wp2
    refine bodyPost_ret (results_none rfl _ _ _) rfl ?_
    exact⟨⟨_,rfl⟩,.inr ⟨_,trivial,hJx3⟩⟩
  ·obtain rfl:k=len:=by omega
   gi_wp2
   go_end0
   exact⟨⟨_,rfl⟩,.inl ⟨_,rfl,hJs⟩⟩
theorem ZzA(n:Nat)(l Bs:Nat)(J:List ByteArray->World->Prop)(W:World)(hBs:W.cell? ⟨Bs,0,none⟩=some (.slice none 0 0))(h0:J [] W) :
  CallsIn Fence.wide n Tryz.prog 204 #[.func (.yield l) #[] #[],.pointer (some ⟨Bs,0,none⟩)] W fun e W'=>(∃v,e=.returned v)/\J [] W':=by
 refine callsIn_of_wp Tryz.func204 rfl trivial ?_ rfl
 simp only[Tryz.ntmps204,List.size_toArray,List.length_cons,List.length_nil,Nat.reduceAdd,Nat.reduceSub,Array.replicate_succ,Array.replicate_zero,List.push_toArray,List.append_toArray,List.nil_append,List.cons_append]
 gi_wp2
 gi_loopw [7] (fun i wr=>i=.int .i64 0/\J [] wr) (fun _ _=>0)
 case atStart=>exact⟨rfl,h0⟩
 case round=>
  obtain⟨rfl,hJs⟩:=hrel
  gi_wp2
  go_end0
  exact⟨⟨_,rfl⟩,hJs⟩
theorem Zp6(sv:Value)(w:World)(a:Option Addr)(len cap:Nat)(hsv:sv=.slice a len cap) :
  Calls Tryz.prog 156 #[sv] w fun e w'=>e=.returned (.func (.func 204) #[] #[.pointer (some ⟨w.heap.size,0,none⟩)])/\w'=w.alloc (.cells #[sv] 122):=by
 subst hsv
 go_enter Tryz.func156,Tryz.ntmps156
 go_wp2
 go_ret
 exact⟨rfl,rfl⟩
theorem ZzC(n:Nat)(hn:1<=n)(Bs:Nat)(sv:Value)(bs:List ByteArray)(hreach:bs.length<=100000)(w:World)(hBs:Bs<w.heap.size)(hc:w.cell? ⟨Bs,0,none⟩=some sv)(hI:w.ownsRow 0 9 1 sv bs.length (Zbb bs)) :
  SeqStopsK Fence.wide n Tryz.prog 204 #[.pointer (some ⟨Bs,0,none⟩)] (fun x:ByteArray=>#[Value.string x]) (Below w.heap.size) (fun ys=>ys=bs) (fun _=>True) bs.length w:=fun l J Jx W hW _ _ hY h0=>by
 have hc':=(hW.cell (p:=⟨Bs,0,none⟩) hBs).trans hc
 have hI':=Zw hI hW
 by_cases h0l:bs.length=0
 ·obtain rfl:bs=[]:=List.eq_nil_of_length_eq_zero h0l
  rcases hI.2 with ⟨rfl,_⟩|⟨g,cap,cur,rfl,_,hh,_⟩
  ·exact(ZzA n l Bs J W hc' h0).mono fun e W' ⟨he,hj⟩=>⟨he,.inl ⟨_,rfl,hj⟩⟩
  ·refine(Zp5 n hn l Bs w.heap.size g 0 cap [] (by omega) (Array.getElem?_eq_some_iff.1 hh).1 J Jx hY W hc' (fun j hj=>by omega) h0).mono ?_
   rintro e W' ⟨he,⟨ys,rfl,hj⟩|⟨pre,_,hj⟩⟩
   ·exact⟨he,.inl ⟨_,rfl,hj⟩⟩
   ·exact⟨he,.inr ⟨_,trivial,hj⟩⟩
 ·obtain⟨g,cp,rfl⟩:=ZW hI (by omega)
  refine (Zp5 n hn l Bs w.heap.size g bs.length cp bs hreach (Zbq hI) J Jx hY W hc' (fun j hj => by
    rw[List.getElem?_eq_getElem hj,Option.getD_some]
    exact Zr hI' _ _ (ZjX bs j hj)) h0).mono ?_
  rintro e W' ⟨he,⟨ys,rfl,hj⟩|⟨pre,_,hj⟩⟩
  ·exact⟨he,.inl ⟨_,Zzr bs,hj⟩⟩
  ·exact⟨he,.inr ⟨_,trivial,hj⟩⟩
theorem Tryz.infoStrG:(Tryz.prog.info? 9).map (fun i=>(i.zero,i.size,i.bytes))=some (some (.string ByteArray.empty),1,16):=by kernel_rfl
theorem ZqV(n:Nat)(hn:2<=n)(Bs:Nat)(sv:Value)(bs:List ByteArray)(hreach:bs.length<=100000)(w:World)(hBs:Bs<w.heap.size)(hc:w.cell? ⟨Bs,0,none⟩=some sv)(hI:w.ownsRow 0 9 1 sv bs.length (Zbb bs)) :
  CallsIn Fence.wide n Tryz.prog 231 #[.slice none 0 0,.func (.func 204) #[] #[.pointer (some ⟨Bs,0,none⟩)]] w fun e W'=>∃v,e=.returned v/\W'.ownsRow w.heap.size 9 1 v bs.length (Zbb bs)/\Below w.heap.size w W':=by
 have h1:1<=n:=by omega
 obtain⟨i0,hi,hz0,hz1,hz2⟩:=info_parts Tryz.infoStrG
 refine callsIn_of_wp_marks Tryz.func231 rfl trivial ?_ rfl
 simp only[Tryz.ntmps231,List.size_toArray,List.length_cons,List.length_nil,Nat.reduceAdd,Nat.reduceSub,Array.replicate_succ,Array.replicate_zero,List.push_toArray,List.append_toArray,List.nil_append,List.cons_append]
 gi_wp2
 have bS:=Boxed.new w 122 (.slice none 0 0)
 have hB0:Below w.heap.size w (w.alloc (.cells #[.slice none 0 0] 122)):=(Below.refl _ w).alloc (Nat.le_refl _) _
 have hseq:=ZzC (n - 1) (by omega) Bs sv bs hreach w hBs hc hI
 refine wpIn_rangeFunc_ownG rfl h1 (gf := 204) (lb := #[.pointer (some ⟨Bs, 0, none⟩)]) rfl trivial (enters_of Tryz.func204 (by kernel_rfl) rfl)
   hseq belowK_t (belowK_b (by simp)) hB0 (fun _=>rfl)
   (fun pre W=>(∃v,Boxed W w.heap.size 122 v/\W.ownsRow w.heap.size 9 1 v pre.length (Zbb pre)/\True)/\Below w.heap.size w W)
   (fun _ _ _=>False)
   (OwnFrom.and (Own.from (holdsRow_own w.heap.size w.heap.size 122 9 1 (fun pre:List ByteArray=>pre.length) (fun pre=>Zbb pre) (fun _ _=>True)) _) (ownFrom_below (Nat.le_refl _) (by simp)))
   (fun _ _ _ _ _ hs _ _=>hs)
   ⟨⟨_,bS,World.ownsRow_nil _ _ _ _,trivial⟩,hB0⟩
   (fun x=>{ tmps:=#[.slice none 0 0,.func (.func 204) #[] #[.pointer (some ⟨Bs,0,none⟩)],.pointer (some ⟨w.heap.size,0,none⟩),undef,.slice none 0 0,.string x,.func (.func 204) #[] #[.pointer (some ⟨Bs,0,none⟩)],.string x,undef,undef,undef,undef,undef],defers:=[] }) ?assign ?body ?done ?stop
 case assign=>
  intro l x W K hK
  gi_wp2
  exact hK
 case body=>
  rintro l pre x W ⟨⟨v,hv,hrow,-⟩,hB⟩ hlt
  have hvc:=hv.cell
  have hsz:=hB.size
  gi_wp2_with (gi_at_builtin;refine wpListIn_append_own _ rfl _ _ 122 rfl w.heap.size 9 i0 (.string ByteArray.empty) 1 16 Tryz.underlying122 hi hz0 hz1 hz2 rfl (by decide) _ _ _ rfl (hrow.alloc _) ⟨W.heap.size,0,none⟩ 1 1 [.string x] rfl rfl (cell_one_new _ _ _) (by simp[Value.oneCell']) (by unfold maxLen;omega) (by omega) (by simp;omega) ?_;intro v' w1 hown' hgrow _;obtain⟨g',cap',rfl⟩:=ownsRow_succ hown';obtain⟨hv1,hv2,hr2,hk2,hb2⟩:=hv.appended (by decide) hrow hB.size (Nat.le_refl _) hown' hgrow;have hc1:=hv1.cell;have hf1:=hv1.frozen)
  exact⟨hk2.from _,hb2,⟨_,hv2,by rw[ZhL,List.length_append];exact hr2,trivial⟩,hB.trans hb2⟩
 case done=>
  rintro D ys W hD rfl ⟨⟨v,hv,hrow,-⟩,hB⟩ hK
  have hvc:=hv.cell
  gi_wp2
  refine⟨by simp,.inl ⟨_,_,rfl,run_takeDeferred hK,?_⟩⟩
  exact⟨_,results_tmp rfl _ _ _,v,rfl,ownsRow_putObj hrow _ hK rfl,hB.trans (belowK_b (w:=w) (Nat.le_refl _) W D _ _ (by simp at hD;omega) hK rfl rfl)⟩
 case stop=>
  rintro D c pre W _ _ h _
  exact h.elim
theorem ZrW(Bs:Nat)(sv:Value)(bs:List ByteArray)(hreach:bs.length<=100000)(w:World)(hBs:Bs<w.heap.size)(hc:w.cell? ⟨Bs,0,none⟩=some sv)(hI:w.ownsRow 0 9 1 sv bs.length (Zbb bs)) :
  Calls Tryz.prog 202 #[.func (.func 204) #[] #[.pointer (some ⟨Bs,0,none⟩)]] w fun e W'=>∃v,e=.returned v/\W'.ownsRow w.heap.size 9 1 v bs.length (Zbb bs)/\Below w.heap.size w W':=by
 have hA:=callsIn_wide.1 (ZqV 2 (Nat.le_refl _) Bs sv bs hreach w hBs hc hI)
 have HA:Hid _:=hid hA
 clear hA hI hc
 go_enter Tryz.func202,Tryz.ntmps202
 go_wp2_with (go_at_call 231;refine HA.mono ?_;rintro e w5 ⟨v,rfl,hr,hb⟩)
 go_ret
 exact⟨v,rfl,hr,hb⟩
theorem Zic(x y:List UInt8):decide (x<=y)=!Op.bytesLess y x:=by
 rw[bytesLess_eq,Bool.eq_iff_iff,decide_eq_true_iff,Bool.not_eq_true',decide_eq_false_iff_not]
 exact Iff.rfl
theorem ZxW (ss : List (List UInt8)) : (ss.mergeSort fun x y => decide (x <= y)).Pairwise fun a b => Op.bytesLess b a = false := by
  have h := List.pairwise_mergeSort (le := fun (x y : List UInt8) => decide (x <= y)) (by
    intro a b c h1 h2
    rw[Zic,Bool.not_eq_true']at *
    cases h:Op.bytesLess c a with
    | false=>rfl
    | true=>
      cases h3:Op.bytesLess b c with
      | true=>rw[ZdG _ _ _ h3 h]at h1;cases h1
      | false=>
        have e:=Zdq _ _ h3 h2
        rw[e,h]at h1;cases h1) (by
    intro a b
    rw[Zic,Zic]
    cases h:Op.bytesLess b a with
    | false=>rfl
    | true=>
      cases h3:Op.bytesLess a b with
      | false=>rfl
      | true=>have:=ZdG _ _ _ h h3;rw[ZcE]at this;cases this) ss
  refine h.imp (fun {a b} hab=>?_)
  rw[Zic,Bool.not_eq_true']at hab
  exact hab
theorem ZhH(bs:List ByteArray):Zbb bs=(bs.map bl).map encStr:=by
 unfold Zbb
 rw[List.map_map]
 refine List.map_congr_left (fun b _=>?_)
 cases b with
 | mk d=>simp[encStr,bl]
theorem ZpC(Bs:Nat)(sv:Value)(bs:List ByteArray)(hreach:bs.length<=100000)(w:World)(hBs:Bs<w.heap.size)(hc:w.cell? ⟨Bs,0,none⟩=some sv)(hI:w.ownsRow 0 9 1 sv bs.length (Zbb bs)) :
  Calls Tryz.prog 155 #[.func (.func 204) #[] #[.pointer (some ⟨Bs,0,none⟩)]] w fun e W'=>∃v bs',e=.returned v/\Hid (W'.ownsRow w.heap.size 9 1 v bs'.length (Zbb bs')/\bs'.length=bs.length/\NmS bs'/\(∀x,x∈bs'.map bl ↔ x∈bs.map bl))/\Below w.heap.size w W':=by
 have HC:=hid (ZrW Bs sv bs hreach w hBs hc hI)
 clear hI hc
 go_enter Tryz.func155,Tryz.ntmps155
 go_wp2_with fail
 refine HC.mono ?_
 rintro e W ⟨v,rfl,hrow,hb⟩
 by_cases h0:bs.length=0
 ·obtain rfl:bs=[]:=List.eq_nil_of_length_eq_zero h0
  obtain⟨av,cp,rfl⟩:=Zv hrow
  have HR:Hid _:=hid hrow
  clear hrow
  go_wp2_with (go_at_call 203;refine(Tryz.slices_Sort_string_none _ _ _).mono ?_;rintro e w' ⟨rfl,rfl⟩)
  go_ret
  exact⟨_,[],rfl,hid ⟨HR.out,rfl,List.Pairwise.nil,fun x=>Iff.rfl⟩,hb⟩
 ·obtain⟨g,cp,rfl⟩:=ZW hrow (by omega)
  rcases hrow.2 with ⟨hv,_⟩|⟨g',cap,cur,hv,hbase,hh,r1,r2,r3,r4⟩
  ·cases hv
  injection hv with e1 e2 e3
  injection e1 with e1
  injection e1 with e1
  subst e1 e3
  have hgl:g<W.heap.size:=(Array.getElem?_eq_some_iff.1 hh).1
  obtain⟨ss,hss⟩:∃ss,ss=bs.map bl:=⟨_,rfl⟩
  have hsl:ss.length=bs.length:=by rw[hss,List.length_map]
  have hH:Sort.Holds encStr W g 0 ss.toArray:=holds_of_block hh (by rw[hsl];rw[Nat.mul_one,ZhH,<-hss]at r4;exact r4)
  have hS:=Tryz.slices_Sort_string g 0 cp ss W hH hgl (by omega)
  rw[hsl]at hS
  have HS:Hid _:=hid hS
  have HX:Hid (w.heap.size<=g/\W.heap[g]?=some (.cells cur 9 (0,0))/\bs.length<=cp/\cp<=maxLen/\cur.size=cp*1):=hid ⟨hbase,hh,r1,r2,r3⟩
  have HSS:Hid (ss=bs.map bl):=hss
  clear hS hH hrow hh hbase r1 r2 r3 r4 hss
  go_wp2_with (go_at_call 203;refine HS.mono ?_;rintro e w' ⟨rfl,nn,os,rfl⟩)
  go_ret
  obtain⟨q1,q2,q3,q4,q5⟩:=HX.out
  obtain⟨ms,hms⟩:∃ms,ms=ss.mergeSort (fun x y=>decide (x<=y)):=⟨_,rfl⟩
  have hperm:ms.Perm ss:=by rw[hms];exact List.mergeSort_perm _ _
  have hml:ms.length=ss.length:=hperm.length_eq
  have hbm : (ms.map (fun l => (⟨l.toArray⟩ : ByteArray))).map bl = ms := by
    rw[List.map_map]
    conv=>rhs;rw[<-List.map_id ms]
    exact List.map_congr_left (fun l _=>by simp[bl])
  refine⟨_,ms.map (fun l=>⟨l.toArray⟩),rfl,hid ⟨?_,by rw[List.length_map,hml,hsl],?_,fun x=>by rw[hbm,hperm.mem_iff,HSS.out]⟩,?_⟩
  ·have h6:=ownsRow_sorted (n:=nn) (os:=os) hml q1 q2 (by rw[hsl];exact q3) q4 q5
   rw[ZhH,hbm,List.length_map,hml,<-hms]
   rw[hsl]at h6 ⊢
   exact h6
  ·unfold NmS
   have:=ZxW ss
   rw[<-hms,<-hbm,List.pairwise_map]at this
   exact this
  ·exact hb.grown (grownBy_sorted _) hb.size (fun j hj=>by cases hj;exact q1)
end Go.Proofs.YtcdgkkfipdoeeaaGreatDoor
namespace Go.Proofs.YtcdgkkfipdoeeaaGreatDoor
open Go.RowKit LS
def SS(l:List (List UInt8)):Prop:=l.Pairwise fun a b=>Op.bytesLess a b=true
theorem Zke(x y:List UInt8):∀l:List (List UInt8),y∈insN x l ↔ y=x∨y∈l
 | []=>by simp[insN]
 | z :: l => by
   unfold insN
   split
   · rename_i h;subst h;simp
   · split
     · simp
     · simp only[List.mem_cons,Zke x y l]
       constructor
       · rintro(h|h|h)
         · exact Or.inr (Or.inl h)
         · exact Or.inl h
         · exact Or.inr (Or.inr h)
       · rintro(h|h|h)
         · exact Or.inr (Or.inl h)
         · exact Or.inl h
         · exact Or.inr (Or.inr h)
theorem ZnB(x:List UInt8):∀ {l:List (List UInt8)},SS l->SS (insN x l)
 | [],_=>List.pairwise_singleton _ _
 | z :: l, h => by
   obtain⟨h1,h2⟩:=List.pairwise_cons.1 h
   unfold insN
   split
   · exact h
   · rename_i hne
     split
     · rename_i hl
       refine List.pairwise_cons.2 ⟨fun y hy=>?_,h⟩
       rcases List.mem_cons.1 hy with rfl|hy
       · exact hl
       · exact ZdG _ _ _ hl (h1 y hy)
     · rename_i hl
       refine List.pairwise_cons.2 ⟨fun y hy=>?_,ZnB x h2⟩
       rcases(Zke x y l).1 hy with rfl|hy
       · cases hz:Op.bytesLess z y with
         | true=>rfl
         | false=>
           have hl':Op.bytesLess y z=false:=by simpa using hl
           exact absurd (Zdq _ _ hl' hz) hne
       · exact h1 y hy
theorem Zmk:∀l:List (List UInt8),SS (ZbC l)
 | []=>List.Pairwise.nil
 | x::l=>ZnB x (Zmk l)
theorem Zmj(y:List UInt8):∀l:List (List UInt8),y∈ZbC l ↔ y∈l
 | []=>Iff.rfl
 | x :: l => by
   show y∈insN x (ZbC l) ↔ _
   rw[Zke,Zmj y l,List.mem_cons]
theorem ZpE:∀ {a b:List (List UInt8)},SS a->SS b->(∀y,y∈a ↔ y∈b)->a=b
 | [],[],_,_,_=>rfl
 | [],y::b,_,_,h=>absurd ((h y).2 (List.mem_cons_self ..)) (by simp)
 | x::a,[],_,_,h=>absurd ((h x).1 (List.mem_cons_self ..)) (by simp)
 | x :: a, y :: b, ha, hb, h => by
   obtain⟨a1,a2⟩:=List.pairwise_cons.1 ha
   obtain⟨b1,b2⟩:=List.pairwise_cons.1 hb
   have hxy:x=y:=by
     rcases List.mem_cons.1 ((h x).1 (List.mem_cons_self ..))with e|hx
     · exact e
     · rcases List.mem_cons.1 ((h y).2 (List.mem_cons_self ..))with e|hy
       · exact e.symm
       · have:=ZdG _ _ _ (b1 x hx) (a1 y hy)
         rw[ZcE]at this;cases this
   subst hxy
   rw[ZpE a2 b2 (fun z=>?_)]
   constructor
   · intro hz
     rcases List.mem_cons.1 ((h z).1 (List.mem_cons_of_mem _ hz))with e|hz'
     · subst e;have:=a1 z hz;rw[ZcE]at this;cases this
     · exact hz'
   · intro hz
     rcases List.mem_cons.1 ((h z).2 (List.mem_cons_of_mem _ hz))with e|hz'
     · subst e;have:=b1 z hz;rw[ZcE]at this;cases this
     · exact hz'
theorem Zmw (zs : List (List UInt8)) (hs : zs.Pairwise fun a b => Op.bytesLess b a = false) : ∀ m, m <= zs.length -> SS (Lib.compactUpTo zs.toArray m) /\ (∀ y, y ∈ Lib.compactUpTo zs.toArray m ↔ y ∈ zs.take m)
  | 0,_=>by simp[Lib.compactUpTo,SS]
  | m + 1, hm => by
    obtain⟨h1,h2⟩:=Zmw zs hs m (by omega)
    have hlt:m<zs.length:=by omega
    have hget:zs.toArray[m]! =zs[m]:=by simp[hlt]
    have hle : ∀ y ∈ zs.take m, Op.bytesLess zs[m] y = false := fun y hy => by
      obtain⟨i,hi,rfl⟩:=List.mem_iff_getElem.1 hy
      rw[List.length_take]at hi
      rw[List.getElem_take]
      exact List.pairwise_iff_getElem.1 hs i m (by omega) hlt (by omega)
    rw[Lib.compactUpTo_succ]
    by_cases hk:Lib.keeps zs.toArray m=true
    · rw[if_pos hk,hget]
      have hne : ∀ y ∈ zs.take m, y ≠ zs[m] := fun y hy e => by
        obtain⟨i,hi,hiy⟩:=List.mem_iff_getElem.1 hy
        rw[List.length_take]at hi
        rw[List.getElem_take]at hiy
        have hm0:m≠0:=by omega
        have hkn:zs[m]≠zs[m - 1]:=by
          unfold Lib.keeps at hk
          simp[hm0,hlt,show m - 1<zs.length by omega]at hk
          exact hk
        rcases Nat.lt_or_ge i (m - 1)with h3|h3
        · have h4:=List.pairwise_iff_getElem.1 hs i (m - 1) (by omega) (by omega) h3
          have h5:=List.pairwise_iff_getElem.1 hs (m - 1) m (by omega) hlt (by omega)
          have h6:Op.bytesLess zs[m - 1] zs[m]=false:=by rw[<-e,<-hiy];exact h4
          exact hkn (Zdq _ _ h5 h6)
        · have:i=m - 1:=by omega
          subst this
          exact hkn (e ▸ hiy).symm
      refine⟨List.pairwise_append.2 ⟨h1,List.pairwise_singleton _ _,fun a ha b hb=>?_⟩,fun y=>?_⟩
      · rw[List.mem_singleton]at hb
        subst hb
        have ha':=(h2 a).1 ha
        cases hx:Op.bytesLess a zs[m]with
        | true=>rfl
        | false=>exact absurd (Zdq _ _ hx (hle a ha')) (hne a ha')
      · rw[List.mem_append,h2,List.take_succ_eq_append_getElem hlt,List.mem_append]
    · rw[if_neg hk,List.append_nil]
      refine⟨h1,fun y=>?_⟩
      rw[h2,List.take_succ_eq_append_getElem hlt,List.mem_append,List.mem_singleton]
      refine⟨Or.inl,fun h=>h.elim id (fun e=>?_)⟩
      have hm0:m≠0:=fun e0=>hk (by subst e0;simp[Lib.keeps])
      have hkn:zs[m]=zs[m - 1]:=by
        unfold Lib.keeps at hk
        simp[hm0,hlt,show m - 1<zs.length by omega]at hk
        exact hk
      rw[e,hkn]
      exact List.mem_take_iff_getElem.2 ⟨m - 1,by omega,rfl⟩
theorem ZrX{bs:List ByteArray}{ns:List (List UInt8)}(hs:NmS bs)(hm:∀x,x∈bs.map bl ↔ x∈ns):Lib.compact (bs.map bl)=ZbC ns:=by
 have hs':(bs.map bl).Pairwise fun a b=>Op.bytesLess b a=false:=by rw[List.pairwise_map];exact hs
 obtain⟨h1,h2⟩:=Zmw (bs.map bl) hs' (bs.map bl).length (Nat.le_refl _)
 refine ZpE h1 (Zmk ns) (fun y=>?_)
 rw[Zmj]
 show y∈Lib.compactUpTo _ _ ↔ _
 rw[h2,List.take_length,hm]
theorem ZkS:∀l:List (List UInt8),l.length<=nw l
 | []=>Nat.le_refl _
 | c::l=>by have:=ZkS l;simp only[nw,List.length_cons];omega
theorem VOk.mono{m n:Nat}{V:VV}(h:VOk m V)(hmn:m<=n):VOk n V:=by
 cases V with
 | sc _=>trivial
 | vec l=>exact⟨h.1,Nat.le_trans h.2 hmn⟩
end Go.Proofs.YtcdgkkfipdoeeaaGreatDoor

/- Parts. -/
import Derived.Test.YtcdgkkfipdoeeaaGreatDoorT19
import Derived.Test.YtcdgkkfipdoeeaaGreatDoorT14
import Derived.Test.YtcdgkkfipdoeeaaGreatDoorTX
import Derived.Test.YtcdgkkfipdoeeaaGreatDoorT03
import Derived.WalkSmall
import Derived.Deep.RegionHeld3
import Derived.Deep.DrawnRows
import Derived.Deep.LoopGhost
import Derived.Test.YtcdgkkfipdoeeaaGreatDoorT11
set_option maxRecDepth 100000
set_option maxHeartbeats 8000000
namespace Go.Proofs.YtcdgkkfipdoeeaaGreatDoor
open Go.RowKit LS
theorem Zl3{T e:TypeId}{B b:Nat}{p:Value}{bs:List Value}{w w':World}(h:Lib.BuilderAtF T e B b p bs w)(hb:Below w.heap.size w w'):Lib.BuilderAtF T e B b p bs w':=by
 obtain⟨h1,v,h2,⟨h3,h4⟩,h5⟩:=h
 refine⟨h1,v,(hb.block b (Array.getElem?_eq_some_iff.1 h2).1).trans h2,⟨h3,?_⟩,h5⟩
 rcases h4 with h6|⟨g,cap,cur,fz,h6,h7,h8,h9⟩
 ·exact Or.inl h6
 ·exact Or.inr ⟨g,cap,cur,fz,h6,h7,(hb.block g (Array.getElem?_eq_some_iff.1 h8).1).trans h8,h9⟩
theorem Zrf{T e:TypeId}{B b:Nat}{bs:List Value}{w w':World}(h:Lib.IsBuilderF T e B b bs w)(hb:Below w.heap.size w w'):Lib.IsBuilderF T e B b bs w':=by
 rcases h with h|h
 ·exact Or.inl (Zl3 h hb)
 ·exact Or.inr (Zl3 h hb)
theorem ZvP{e:TypeId}{b:Option Nat}{w w':World}(h:Below w.heap.size w w'):Lib.OthersKept e b w w':=fun k _ hk _ _=>(h.block k (Array.getElem?_eq_some_iff.1 hk).1).trans hk
structure WB (w:World) (B b:Nat) (l:List UInt8):Prop where
 bd:Lib.IsBuilderF 89 5 B b (Lib.byteCells l) w
 le:B<=w.heap.size
structure WK (B b:Nat) (w w':World):Prop where
 low:Below B w w'
 kept:Lib.OthersKept 5 (some b) w w'
theorem WK.trans{B b:Nat}{w1 w2 w3:World}(h:WK B b w1 w2)(h':WK B b w2 w3):WK B b w1 w3:=⟨h.low.trans h'.low,h.kept.trans h'.kept⟩
theorem WK.below{B b:Nat}{w w':World}(h:Below w.heap.size w w')(hB:B<=w.heap.size):WK B b w w':=⟨h.mono hB,ZvP h⟩
theorem WB.below{w w':World}{B b:Nat}{l:List UInt8}(h:WB w B b l)(hb:Below w.heap.size w w'):WB w' B b l:=⟨Zrf h.bd hb,Nat.le_trans h.le hb.size⟩
theorem WB.ne{w:World}{B b:Nat}{l:List UInt8}(h:WB w B b l):b<w.heap.size/\∃c,w.heap[b]?=some (.cells c 89 (0,0)):=by
 rcases h.bd with h|h
 ·obtain⟨_,v,hb,_⟩:=h;exact⟨(Array.getElem?_eq_some_iff.1 hb).1,_,hb⟩
 ·obtain⟨_,v,hb,_⟩:=h;exact⟨(Array.getElem?_eq_some_iff.1 hb).1,_,hb⟩
theorem WK.block{w w':World}{B b:Nat}{l:List UInt8}(hw:WB w B b l)(h:WK B b w w'){a:Nat}{c:Array Value}{t:TypeId}{fr:Nat×Nat}(ha:w.heap[a]?=some (.cells c t fr))(h1:t≠89)(h2:t≠5):w'.heap[a]?=some (.cells c t fr):=by
 refine h.kept a _ ha ?_ ?_
 ·intro e
  injection e with e
  subst e
  obtain⟨_,c',hb⟩:=hw.ne
  rw[hb]at ha
  injection ha with ha
  injection ha with _ ha
  exact h1 ha.symm
 ·intro c' fz e
  injection e with _ e
  exact h2 e
theorem WK.bat{w w':World}{B b:Nat}{l:List UInt8}(hw:WB w B b l)(h:WK B b w w'){a:Nat}{c:List Value}{t:TypeId}(ha:BAt w a c t)(h1:t≠89)(h2:t≠5):BAt w' a c t:=WK.block hw h ha h1 h2
theorem WK.own{w w':World}{B b:Nat}{l:List UInt8}(hw:WB w B b l)(h:WK B b w w'){base:Nat}{e:TypeId}{size:Nat}{v:Value}{n:Nat}{xs:List Value}(ho:w.ownsRow base e size v n xs)(h1:e≠89)(h2:e≠5):w'.ownsRow base e size v n xs:=by
 refine⟨ho.1,?_⟩
 rcases ho.2 with h3|⟨g,cap,cur,h3,h4,h5,h6⟩
 ·exact Or.inl h3
 ·exact Or.inr ⟨g,cap,cur,h3,h4,WK.block hw h h5 h1 h2,h6⟩
theorem Ze.wrote{w w':World}{B b:Nat}{l:List UInt8}(hw:WB w B b l)(h:WK B b w w'){t:Tr}{v:Value}(hp:Ze w t v):Ze w' t v:=
 Ze.mono (fun _ _ ⟨bs,h1,h2⟩=>⟨bs,WK.own hw h h1 (by decide) (by decide),h2⟩) (fun _ _ ⟨bs,h1,h2⟩=>⟨bs,WK.own hw h h1 (by decide) (by decide),h2⟩) t v hp
theorem ZI.wrote{w w':World}{B b:Nat}{l:List UInt8}(hw:WB w B b l)(h:WK B b w w'){v:Value}{cs:List (List UInt8×List UInt8×Bool)}(hp:ZI w v cs):ZI w' v cs:=by
 obtain⟨bs,h1,h2⟩:=hp;exact⟨bs,WK.own hw h h1 (by decide) (by decide),h2⟩
theorem Zma(l:List UInt8)(s:ByteArray):Lib.byteCells l++Lib.strCells s=Lib.byteCells (l++bl s):=by
 unfold Lib.byteCells Lib.strCells bl
 rw[List.map_append]
def big:Nat:=1000000
theorem ZcR{w:World}{B b:Nat}{l:List UInt8}(h:WB w B b l)(s:ByteArray)(hl:l.length+s.size<=big) :
  Calls Tryz.prog 63 #[.pointer (some ⟨b,0,none⟩),.string s] w fun e w'=>e=.returned (.tuple #[.int .i64 s.size,.nilIface])/\Hid (WB w' B b (l++bl s))/\Hid (WK B b w w'):=by
 refine(ZgG B b (Lib.byteCells l) s w h.bd (by rw[Lib.byteCells_length];unfold big at hl;omega) h.le).mono ?_
 rintro e w' ⟨rfl,h1,h2,h3⟩
 rw[Zma]at h1
 exact⟨rfl,⟨Or.inr h1,Nat.le_trans h.le h2.size⟩,⟨h2,h3⟩⟩
theorem ZjN(n:Nat):Lib.decDigits n=decS n:=by
 induction n using Nat.strongRecOn with
 | _ n ih=>
  by_cases h:n<=9
  ·rw[ZgP h,Lib.decDigits,dif_pos (by omega)]
   rfl
  ·rw[ZhG h,Lib.decDigits,dif_neg (by omega),ih (n / 10) (by omega)]
   rfl
def Zu (w : World) : Prop := Lib.TabIs Tryz.prog w "internal/strconv.uint64pow10" .u64 Lib.pow10Tab
theorem Tryz.gPow : Tryz.prog.globalNamed "internal/strconv.uint64pow10" = some 15 := by kernel_rfl
theorem Zu.low{w w':World}{B:Nat}(h:Zu w)(hb:Below B w w')(hB:20<=B):Zu w':=var?_below hb Tryz.gPow (Nat.lt_of_lt_of_le (by decide) hB) h
theorem Zkg{w:World}(h:Zu w)(n:Int)(h0:0<=n)(h1:n<=1000000000) :
  Calls Tryz.prog 64 #[.int .i64 n] w fun e w'=>∃s:ByteArray,e=.returned (.string s)/\Hid (bl s=decS n.toNat)/\Below w.heap.size w w':=by
 refine(Tryz.strconv_Itoa n (by omega) (by omega) w h).mono ?_
 rintro e w' ⟨rfl,k,os,rfl⟩
 refine⟨_,rfl,hid ?_,?_⟩
 ·rw[Zbv];unfold Lib.itoa;rw[if_neg (by omega),ZjN]
 ·exact⟨rfl,rfl,rfl,by simp[Go.Sort.grow,World.drewN],fun k hk=>by simp[Go.Sort.grow,World.drewN,Array.getElem?_append,hk]⟩
attribute [local go_sem ↓] Go.wp_at_zero Go.wp_at_succ
theorem ZmE(x y:ByteArray)(ng:Bool)(w:World) :
  Calls Tryz.prog 115 #[.agg #[.string x,.bool ng,.string y]] w fun e w'=>e=.returned (.string (if ng then ⟨#[33,61]⟩else ⟨#[61]⟩))/\Below w.heap.size w w':=by
 cases ng
 ·go_enter Tryz.func115,Tryz.ntmps115
  go_wp2
  go_ret
  exact⟨rfl,belB⟩
 ·go_enter Tryz.func115,Tryz.ntmps115
  go_wp2
  go_ret
  exact⟨rfl,belB⟩
theorem ZsO (l : List (ByteArray × ByteArray × Bool)) (j : Nat) : (ZbL l)[j * 3]? = l[j]?.map (fun t => .string t.1) /\ (ZbL l)[j * 3 + 1]? = l[j]?.map (fun t => .bool t.2.2) /\ (ZbL l)[j * 3 + 2]? = l[j]?.map (fun t => .string t.2.1) := by
  induction l generalizing j with
  | nil=>simp[ZbL]
  | cons r l ih=>
    cases j with
    | zero=>simp[ZbL]
    | succ j=>
      obtain⟨h1,h2,h3⟩:=ih j
      refine⟨?_,?_,?_⟩
      · rw[show(j+1)*3=j*3+1+1+1 by omega];simpa [ZbL] using h1
      · rw[show(j+1)*3+1=j*3+1+1+1+1 by omega];simpa [ZbL] using h2
      · rw[show(j+1)*3+2=j*3+1+1+1+1+1 by omega];simpa [ZbL] using h3
def Zb6(bs:List (ByteArray×ByteArray×Bool))(k:Nat):List UInt8:=commas ((bs.take k).map fun c=>Zbo (ZN c))
theorem Zr3(bs:List (ByteArray×ByteArray×Bool))(k:Nat)(h:k<bs.length):Zb6 bs (k+1)=(if k=0 then [] else Zb6 bs k++[44])++Zbo (ZN bs[k]):=by
 unfold Zb6
 rw[List.take_succ_eq_append_getElem h,List.map_append,List.map_singleton,Zmv]
 by_cases hk:k=0
 ·subst hk;rfl
 ·rw[if_neg hk,if_neg (by rw[List.isEmpty_iff,List.map_eq_nil_iff];intro e;have:=congrArg List.length e;rw[List.length_take,List.length_nil]at this;omega)]
theorem ZjF(bs:List (ByteArray×ByteArray×Bool))(k:Nat):(Zb6 bs k).length<=cw (bs.map ZN):=by
 unfold Zb6
 refine Nat.le_trans (Zeq _) ?_
 rw[show(fun c=>Zbo (ZN c))=Zbo ∘ ZN from rfl,<-List.map_map]
 refine Nat.le_trans (ZkR _) ?_
 rw[List.map_take]
 have:=ZmG ((bs.map ZN).take k) ((bs.map ZN).drop k)
 rw[List.take_append_drop]at this
 omega
theorem Zr2(bs:List (ByteArray×ByteArray×Bool)):Zb6 bs bs.length=commas ((bs.map ZN).map Zbo):=by
 unfold Zb6
 rw[List.take_length,List.map_map];rfl
theorem ZrZ(c:ByteArray×ByteArray×Bool):Zbo (ZN c)=bl c.1++(if c.2.2 then [33,61] else [61])++[34]++bl c.2.1++[34]:=rfl
theorem ZqB{w:World}{B b:Nat}{l:List UInt8}(h:WB w B b l)(nm:ByteArray)(la:Option Addr)(ln lc:Nat)(a:Nd)(hnm:bl nm=a.name)(hc:ZI w (.slice la ln lc) a.conds)(hlen:l.length+a.name.length+cw a.conds+10<=big) :
  Calls Tryz.prog 69 #[.pointer (some ⟨b,0,none⟩),.agg #[.string nm,.slice la ln lc]] w fun e w'=>e=.returned (.tuple #[])/\Hid (WB w' B b (l++selS a))/\Hid (WK B b w w'):=by
 obtain⟨bs,hown,hbs⟩:=hc
 have hln:ln=bs.length:=by obtain⟨_,_,e⟩:=Zv hown;injection e
 subst hln
 have HW:Hid (WB w B b l):=h
 have HNM:Hid (bl nm=a.name):=hnm
 have HBS:Hid (bs.map ZN=a.conds):=hbs
 have HLN:Hid (l.length+nm.size+cw (bs.map ZN)+10<=big):=hid (by rw[hbs,Z7 hnm];exact hlen)
 have HO:Hid (w.ownsRow 0 224 3 (.slice la bs.length lc) bs.length (ZbL bs)):=hown
 have hbg:bs.length<=1000000:=by
  have h1:=HLN.out
  have h2:bs.length<=cw (bs.map ZN):=by
   clear h1 HLN HO HBS hown hbs
   induction bs with
   | nil=>exact Nat.zero_le _
   | cons c l ih=>simp only[List.map_cons,cw,List.length_cons];omega
  unfold big at h1;omega
 clear h hnm hbs hlen hown
 go_enter Tryz.func69,Tryz.ntmps69
 go_upto_region 1 with fail
 refine Z9 fun W0 hW0=>?_
 have hb0:Below w.heap.size w W0:=by rw[hW0];exact Zbal
 have HS0:Hid (BAt W0 w.heap.size [.string nm,.slice la bs.length lc] 148):=hid (by rw[hW0];exact Go.Deep.blk_alloc_new _ _)
 have HW0:Hid (WB W0 B b l):=HW.below hb0
 have HK0:Hid (WK B b w W0):=WK.below hb0 HW.le
 have HO0:=hid (Zw HO.out hb0)
 clear hW0 hb0
 have s0:=HS0.cell 0
 have s1:=HS0.cell 1
 simp only[Zget]at s0 s1
 go_wp2_with fail
 refine(ZcR HW0.out nm (by have:=HLN.out;omega)).mono ?_
 rintro e w1 ⟨rfl,HW1,HK1'⟩
 have HK1:Hid (WK B b w w1):=HK0.trans HK1'.out
 have HS1:=hid (WK.bat HW0.out HK1'.out HS0.out (by decide) (by decide))
 have HO1:=hid (WK.own HW0.out HK1'.out HO0.out (by decide) (by decide))
 clear HK1' s0 s1 HS0 HK0 HW0 HO0
 have s1:=HS1.cell 1
 simp only[Zget]at s1
 by_cases hz:bs.length=0
 ·have HE:Hid (selS a=bl nm):=hid (by
   have:bs=[]:=List.eq_nil_of_length_eq_zero hz
   unfold selS;rw[<-HBS.out,this,HNM.out];rfl)
  rw[hz]at s1
  go_wp2
  exact bodyPost_ret (v:=.tuple #[]) (results_none rfl _ _ _) rfl ⟨rfl,by rw[HE.out];exact HW1,HK1⟩
 ·have hp:0<bs.length:=by omega
  have HE:Hid (selS a=bl nm++[123]++Zb6 bs bs.length++[125]):=hid (by
   unfold selS
   rw[if_neg (by rw[<-HBS.out];intro e;rw[List.map_eq_nil_iff]at e;subst e;exact hz rfl),Zr2,HBS.out,HNM.out])
  have hz2:((bs.length:Int) == 0)=false:=by rw[beq_eq_false_iff_ne];omega
  obtain⟨g,cp,hg⟩:=ZW HO1.out hp
  injection hg with hg1 _ hg2
  subst hg1 hg2
  go_wp2_with fail
  refine(ZcR HW1.out ⟨#[123]⟩ (by rw[List.length_append,Zi];have:=HLN.out;show _+1<=_;omega)).mono ?_
  rintro e w2 ⟨rfl,HW2,HK2'⟩
  have HK2:Hid (WK B b w w2):=HK1.trans HK2'.out
  have HS2:=hid (WK.bat HW1.out HK2'.out HS1.out (by decide) (by decide))
  have HO2:=hid (WK.own HW1.out HK2'.out HO1.out (by decide) (by decide))
  have HL2:Hid (l++bl nm++[123]++Zb6 bs 0=l++bl nm++[123]):=hid (by show _++commas ([]:List (List UInt8))=_;simp[commas])
  clear HK2' s1 HS1 HK1 HW1 HO1
  have s1:=HS2.cell 1
  simp only[Zget]at s1
  go_wp2
  go_loopg [19] bs.length (fun gk v19 wr=>∃k:Nat,k<=bs.length/\gk=bs.length - k/\v19=.int .i64 k/\Hid (WB wr B b (l++bl nm++[123]++Zb6 bs k))/\Hid (WK B b w wr)/\Hid (wr.ownsRow 0 224 3 (.slice (some ⟨g,0,none⟩) bs.length lc) bs.length (ZbL bs)))
  case atStart=>exact⟨0,Nat.zero_le _,rfl,rfl,by rw[HL2.out];exact HW2,HK2,HO2⟩
  case round=>
   obtain⟨k,hk,hgk,rfl,HWr,HKr,HOr⟩:=hrel
   clear HW2 HK2 HO2 s1 HS2
   by_cases hlt:k<bs.length
   ·have HSC:Hid (Zb6 bs (k+1)=(if k=0 then [] else Zb6 bs k++[44])++Zbo (ZN bs[k])):=hid (Zr3 bs k hlt)
    have HCL:Hid ((Zb6 bs (k+1)).length<=cw (bs.map ZN)):=hid (ZjF bs (k+1))
    have HCB:Hid (Zbo (ZN bs[k])=bl bs[k].1++(if bs[k].2.2 then [33,61] else [61])++[34]++bl bs[k].2.1++[34]):=hid (ZrZ bs[k])
    obtain⟨f1,f2,f3⟩:=ZsO bs k
    rw[List.getElem?_eq_getElem hlt]at f1 f2 f3
    simp only[Option.map_some]at f1 f2 f3
    have r0:=Zr HOr.out _ _ f1
    have r1:=Zr HOr.out _ _ f2
    have r2:=Zr HOr.out _ _ f3
    clear f1 f2 f3
    obtain⟨⟨x,y,ng⟩,hc⟩:∃c,c=bs[k]:=⟨_,rfl⟩
    rw[<-hc]at r0 r1 r2 HSC HCB
    simp only at r0 r1 r2 HCB
    have hgl:=Zbq HOr.out
    clear hc
    go_upto_region 7 with fail
    refine Z9 fun W3 hW3=>?_
    have hb3:Below wr.heap.size wr W3:=by rw[hW3];exact Zbal
    have HC3:Hid (BAt W3 wr.heap.size [.string x,.bool ng,.string y] 224):=hid (by rw[hW3];exact Go.Deep.blk_alloc_new _ _)
    have HW3:Hid (WB W3 B b (l++bl nm++[123]++Zb6 bs k)):=HWr.below hb3
    have HK3:Hid (WK B b w W3):=HKr.trans (WK.below hb3 HWr.le)
    have HO3:=hid (Zw HOr.out hb3)
    clear hW3 hb3 HWr HKr HOr r0 r1 r2
    have HKZ:Hid (k=0∨0<k):=hid (by omega)
    rcases HKZ.out with hk0|hk0
    ·have HW4:Hid (WB W3 B b (l++bl nm++[123]++(if k=0 then [] else Zb6 bs k++[44]))):=hid (by
      rw[if_pos hk0,List.append_nil]
      have h3:=HW3.out
      rw[hk0,show Zb6 bs 0=[] from rfl,List.append_nil]at h3
      exact h3)
     have HC4:=HC3
     have HK4:=HK3
     have HO4:=HO3
     clear HW3 HC3 HK3 HO3
     have hkn:¬(0:Int)<k:=by omega
     go_upto_region 9 with fail
     have c0:=HC4.cell 0
     have c1:=HC4.cell 1
     have c2:=HC4.cell 2
     simp only[Zget]at c0 c1 c2
     obtain⟨sg,hsg⟩:∃sg:ByteArray,sg=(if ng then ⟨#[33,61]⟩else ⟨#[61]⟩):=⟨_,rfl⟩
     have HSG:Hid (sg=(if ng then ⟨#[33,61]⟩else ⟨#[61]⟩)):=hsg
     have HSB:Hid (bl sg=(if ng then [33,61] else [61])):=hid (by rw[hsg];cases ng <;> rfl)
     have HXL:Hid (l.length+nm.size+1+(if k=0 then [] else Zb6 bs k++[44]).length+(Zbo (ZN (x,y,ng))).length+8<=big):=hid (by
      have h1:=HLN.out
      have h2:=HCL.out
      rw[HSC.out,List.length_append]at h2
      omega)
     have hxs:x.size+sg.size+y.size+2<=1000000:=by
      have h1:=HXL.out
      rw[HCB.out,<-HSB.out]at h1
      simp only[List.length_append,Zi,List.length_cons,List.length_nil]at h1
      unfold big at h1
      omega
     clear hsg
     have a1:∀W,(Op.stringOp .add x sg).run Tryz.prog W=.ok (.string (x++sg)) W:=fun W=>run_string_add_sum W _ _ (by omega)
     have y1:(x++sg:ByteArray).size=x.size+sg.size:=by rw[ByteArray.size_append]
     have a2:∀W,(Op.stringOp .add (x++sg) ⟨#[34]⟩).run Tryz.prog W=.ok (.string ((x++sg)++⟨#[34]⟩)) W:=fun W=>run_string_add_sum W _ _ (by rw[y1];show _+1<=_;omega)
     have y2:((x++sg)++⟨#[34]⟩:ByteArray).size=x.size+sg.size+1:=by rw[ByteArray.size_append,y1];rfl
     have a3:∀W,(Op.stringOp .add ((x++sg)++⟨#[34]⟩) y).run Tryz.prog W=.ok (.string (((x++sg)++⟨#[34]⟩)++y)) W:=fun W=>run_string_add_sum W _ _ (by rw[y2];omega)
     have y3:(((x++sg)++⟨#[34]⟩)++y:ByteArray).size=x.size+sg.size+1+y.size:=by rw[ByteArray.size_append,y2]
     have a4:∀W,(Op.stringOp .add (((x++sg)++⟨#[34]⟩)++y) ⟨#[34]⟩).run Tryz.prog W=.ok (.string ((((x++sg)++⟨#[34]⟩)++y)++⟨#[34]⟩)) W:=fun W=>run_string_add_sum W _ _ (by rw[y3];show _+1<=_;omega)
     have HSZ:Hid (((((x++sg)++⟨#[34]⟩)++y)++⟨#[34]⟩:ByteArray).size=(Zbo (ZN (x,y,ng))).length):=hid (by
      rw[HCB.out,<-HSB.out];simp only[List.length_append,Zi,ByteArray.size_append];rfl)
     have HTX:Hid (bl ((((x++sg)++⟨#[34]⟩)++y)++⟨#[34]⟩)=Zbo (ZN (x,y,ng))):=hid (by
      rw[HCB.out,<-HSB.out,Zce,Zce,Zce,Zce];rfl)
     clear y1 y2 y3 hxs
     go_region_held3 (fun w' => w'.cell? ⟨wr.heap.size, 0, none⟩ = some (.string x) /\ w'.cell? ⟨wr.heap.size, 1, none⟩ = some (.bool ng) /\ w'.cell? ⟨wr.heap.size, 2, none⟩ = some (.string y)) (first | exact ⟨e0, e1, e2⟩ | exact ⟨d0, d1, d2⟩ | exact ⟨c0, c1, c2⟩ | go_keep) (first
       | (go_at_call 115
          refine(ZmE x y ng _).mono ?_
          rintro e w5 ⟨rfl,hb5⟩
          rw[<-HSG.out]
          have HB5:Hid (Below W3.heap.size W3 w5):=hid ⟨hb5.os,hb5.tape,hb5.output,hb5.size,hb5.block⟩
          have HC5:=hid (HC4.below HB5.out)
          have d0:=HC5.cell 0
          have d1:=HC5.cell 1
          have d2:=HC5.cell 2
          simp only[Zget]at d0 d1 d2
          clear hb5)
       | (go_at_call 63
          refine(ZcR (HW4.below HB5.out) _ (by rw[HSZ.out];have:=HXL.out;simp only[List.length_append,Zi,List.length_cons,List.length_nil];omega)).mono ?_
          rintro e w6 ⟨rfl,HW6,HK6'⟩
          have HC6:=hid (WK.bat (HW4.below HB5.out) HK6'.out HC5.out (by decide) (by decide))
          have e0:=HC6.cell 0
          have e1:=HC6.cell 1
          have e2:=HC6.cell 2
          simp only[Zget]at e0 e1 e2
          have HK6:Hid (WK B b w w6):=HK4.trans ((WK.below HB5.out HW4.le).trans HK6'.out)
          have HO6:=hid (WK.own (HW4.below HB5.out) HK6'.out (Zw HO4.out HB5.out) (by decide) (by decide))
          clear HK6'))
     have HW7:Hid (WB w6 B b (l++bl nm++[123]++Zb6 bs (k+1))):=hid (by
      rw[HSC.out,<-HTX.out,<-List.append_assoc];exact HW6.out)
     go_wp2
     go_roundg (bs.length - (k+1))
     case measure=>omega
     case rel=>exact⟨k+1,by omega,rfl,by go_num,HW7,HK6,HO6⟩
    ·have HC3':=HC3
     have hkn:(0:Int)<k:=by omega
     go_wp2_with fail
     refine(ZcR HW3.out ⟨#[44]⟩ (by have h1:=HLN.out;have h2:=ZjF bs k;simp only[List.length_append,Zi];show _+1<=_;simp only[List.length_cons,List.length_nil];omega)).mono ?_
     rintro e w4 ⟨rfl,HW4',HK4'⟩
     have HW4:Hid (WB w4 B b (l++bl nm++[123]++(if k=0 then [] else Zb6 bs k++[44]))):=hid (by
      rw[if_neg (by omega),<-List.append_assoc];exact HW4'.out)
     have HC4:=hid (WK.bat HW3.out HK4'.out HC3.out (by decide) (by decide))
     have HK4:Hid (WK B b w w4):=HK3.trans HK4'.out
     have HO4:=hid (WK.own HW3.out HK4'.out HO3.out (by decide) (by decide))
     clear HW3 HC3 HK3 HO3 HK4' HW4' HC3'
     go_upto_region 9 with fail
     have c0:=HC4.cell 0
     have c1:=HC4.cell 1
     have c2:=HC4.cell 2
     simp only[Zget]at c0 c1 c2
     obtain⟨sg,hsg⟩:∃sg:ByteArray,sg=(if ng then ⟨#[33,61]⟩else ⟨#[61]⟩):=⟨_,rfl⟩
     have HSG:Hid (sg=(if ng then ⟨#[33,61]⟩else ⟨#[61]⟩)):=hsg
     have HSB:Hid (bl sg=(if ng then [33,61] else [61])):=hid (by rw[hsg];cases ng <;> rfl)
     have HXL:Hid (l.length+nm.size+1+(if k=0 then [] else Zb6 bs k++[44]).length+(Zbo (ZN (x,y,ng))).length+8<=big):=hid (by
      have h1:=HLN.out
      have h2:=HCL.out
      rw[HSC.out,List.length_append]at h2
      omega)
     have hxs:x.size+sg.size+y.size+2<=1000000:=by
      have h1:=HXL.out
      rw[HCB.out,<-HSB.out]at h1
      simp only[List.length_append,Zi,List.length_cons,List.length_nil]at h1
      unfold big at h1
      omega
     clear hsg
     have a1:∀W,(Op.stringOp .add x sg).run Tryz.prog W=.ok (.string (x++sg)) W:=fun W=>run_string_add_sum W _ _ (by omega)
     have y1:(x++sg:ByteArray).size=x.size+sg.size:=by rw[ByteArray.size_append]
     have a2:∀W,(Op.stringOp .add (x++sg) ⟨#[34]⟩).run Tryz.prog W=.ok (.string ((x++sg)++⟨#[34]⟩)) W:=fun W=>run_string_add_sum W _ _ (by rw[y1];show _+1<=_;omega)
     have y2:((x++sg)++⟨#[34]⟩:ByteArray).size=x.size+sg.size+1:=by rw[ByteArray.size_append,y1];rfl
     have a3:∀W,(Op.stringOp .add ((x++sg)++⟨#[34]⟩) y).run Tryz.prog W=.ok (.string (((x++sg)++⟨#[34]⟩)++y)) W:=fun W=>run_string_add_sum W _ _ (by rw[y2];omega)
     have y3:(((x++sg)++⟨#[34]⟩)++y:ByteArray).size=x.size+sg.size+1+y.size:=by rw[ByteArray.size_append,y2]
     have a4:∀W,(Op.stringOp .add (((x++sg)++⟨#[34]⟩)++y) ⟨#[34]⟩).run Tryz.prog W=.ok (.string ((((x++sg)++⟨#[34]⟩)++y)++⟨#[34]⟩)) W:=fun W=>run_string_add_sum W _ _ (by rw[y3];show _+1<=_;omega)
     have HSZ:Hid (((((x++sg)++⟨#[34]⟩)++y)++⟨#[34]⟩:ByteArray).size=(Zbo (ZN (x,y,ng))).length):=hid (by
      rw[HCB.out,<-HSB.out];simp only[List.length_append,Zi,ByteArray.size_append];rfl)
     have HTX:Hid (bl ((((x++sg)++⟨#[34]⟩)++y)++⟨#[34]⟩)=Zbo (ZN (x,y,ng))):=hid (by
      rw[HCB.out,<-HSB.out,Zce,Zce,Zce,Zce];rfl)
     clear y1 y2 y3 hxs
     go_region_held3 (fun w' => w'.cell? ⟨wr.heap.size, 0, none⟩ = some (.string x) /\ w'.cell? ⟨wr.heap.size, 1, none⟩ = some (.bool ng) /\ w'.cell? ⟨wr.heap.size, 2, none⟩ = some (.string y)) (first | exact ⟨e0, e1, e2⟩ | exact ⟨d0, d1, d2⟩ | exact ⟨c0, c1, c2⟩ | go_keep) (first
       | (go_at_call 115
          refine(ZmE x y ng _).mono ?_
          rintro e w5 ⟨rfl,hb5⟩
          rw[<-HSG.out]
          have HB5:Hid (Below w4.heap.size w4 w5):=hid ⟨hb5.os,hb5.tape,hb5.output,hb5.size,hb5.block⟩
          have HC5:=hid (HC4.below HB5.out)
          have d0:=HC5.cell 0
          have d1:=HC5.cell 1
          have d2:=HC5.cell 2
          simp only[Zget]at d0 d1 d2
          clear hb5)
       | (go_at_call 63
          refine(ZcR (HW4.below HB5.out) _ (by rw[HSZ.out];have:=HXL.out;simp only[List.length_append,Zi,List.length_cons,List.length_nil];omega)).mono ?_
          rintro e w6 ⟨rfl,HW6,HK6'⟩
          have HC6:=hid (WK.bat (HW4.below HB5.out) HK6'.out HC5.out (by decide) (by decide))
          have e0:=HC6.cell 0
          have e1:=HC6.cell 1
          have e2:=HC6.cell 2
          simp only[Zget]at e0 e1 e2
          have HK6:Hid (WK B b w w6):=HK4.trans ((WK.below HB5.out HW4.le).trans HK6'.out)
          have HO6:=hid (WK.own (HW4.below HB5.out) HK6'.out (Zw HO4.out HB5.out) (by decide) (by decide))
          clear HK6'))
     have HW7:Hid (WB w6 B b (l++bl nm++[123]++Zb6 bs (k+1))):=hid (by
      rw[HSC.out,<-HTX.out,<-List.append_assoc];exact HW6.out)
     go_wp2
     go_roundg (bs.length - (k+1))
     case measure=>omega
     case rel=>exact⟨k+1,by omega,rfl,by go_num,HW7,HK6,HO6⟩
   ·obtain rfl:k=bs.length:=by omega
    go_wp2_with fail
    refine(ZcR HWr.out ⟨#[125]⟩ (by have h1:=HLN.out;have h2:=ZjF bs bs.length;simp only[List.length_append,Zi,List.length_cons,List.length_nil];show _+1<=_;omega)).mono ?_
    rintro e w8 ⟨rfl,HW8,HK8'⟩
    have HK8:Hid (WK B b w w8):=HKr.trans HK8'.out
    have HW9:Hid (WB w8 B b (l++selS a)):=hid (by rw[HE.out];have:=HW8.out;simp only[List.append_assoc]at this ⊢;exact this)
    clear HK8' HW8
    go_wp2
    go_end0
    exact⟨rfl,HW9,HK8⟩
end Go.Proofs.YtcdgkkfipdoeeaaGreatDoor
namespace Go.Proofs.YtcdgkkfipdoeeaaGreatDoor
open Go.RowKit LS
theorem Zmu:∀xs:List (List UInt8),([44]:List UInt8).intercalate xs=commas xs
 | []=>rfl
 | [a]=>by simp[List.intercalate,commas]
 | a :: b :: l => by
   have ih:=Zmu (b::l)
   rw[Zmt,<-ih]
   simp[List.intercalate]
theorem Zki{w:World}(la:Option Addr)(ln lc:Nat)(ns:List (List UInt8))(h:Z4 w (.slice la ln lc) ns)(hl:nw ns<=1000000) :
  Calls Tryz.prog 68 #[.slice la ln lc,.string ⟨#[44]⟩] w fun e w'=>∃s:ByteArray,e=.returned (.string s)/\Hid (bl s=commas ns)/\Below w.heap.size w w':=by
 obtain⟨bs,hown,hbs⟩:=h
 have hln:ln=bs.length:=by obtain⟨_,_,e⟩:=Zv hown;injection e
 subst hln
 by_cases hz:bs.length=0
 ·rw[hz]
  refine(Tryz.strings_Join_none la lc ⟨#[44]⟩ w).mono ?_
  rintro e w' ⟨rfl,rfl⟩
  have:bs=[]:=List.eq_nil_of_length_eq_zero hz
  subst this
  exact⟨_,rfl,hid (by rw[<-hbs];rfl),Below.refl _ _⟩
 ·obtain⟨g,cp,hg⟩:=ZW hown (by omega)
  injection hg with hg1 _ hg2
  subst hg1 hg2
  have hj:Lib.join (bs.map (·.data.toList)) [44]=commas ns:=by
   rw[<-hbs];exact Zmu _
  have hcm:=Zeq ns
  have hcap:bs.length<=lc:=by
   rcases hown.2 with ⟨e,_⟩|⟨g',cap,cur,e,_,_,hc,_⟩
   ·cases e
   ·injection e with _ _ e;subst e;exact hc
  have hbl:bs.length<=1000000:=by
   have h1:bs.length<=nw (bs.map bl):=by
    clear hj hcap hown hbs hz
    induction bs with
    | nil=>exact Nat.zero_le _
    | cons c l ih=>simp only[List.map_cons,nw,List.length_cons];omega
   rw[hbs]at h1;omega
  refine(Tryz.strings_Join g 0 lc bs ⟨#[44]⟩ w ?_ (Zbq hown) (by omega) hcap (by show(Lib.join (bs.map (·.data.toList)) [44]).length<=_;rw[hj];omega)).mono ?_
  ·intro j x hj
   rw[Nat.zero_add]
   exact Zr hown j _ (by show(bs.map Value.string)[j]?=_;rw[List.getElem?_map,hj];rfl)
  ·rintro e w' ⟨rfl,hb⟩
   exact⟨_,rfl,hid (by show bl (ByteArray.mk (Lib.join (bs.map (·.data.toList)) [44]).toArray)=_;rw[Zbv,hj]),hb⟩
theorem ZpT{a:Nd}(hk:a.kind=4∨a.kind=6)(ho:a.kind=4->a.op<=3):ZcS (opNo a)+1=ZC a/\opNo a<=4:=by
 rcases hk with h|h
 ·have h3:=ho h
  have e1:opNo a=a.op+1:=by unfold opNo;rw[if_neg (by omega)]
  have e2:ZC a=if a.op<2 then 2 else 3:=by unfold ZC;rw[if_neg (by omega),if_pos h]
  rw[e1,e2]
  refine⟨?_,by omega⟩
  unfold ZcS
  rw[if_neg (by omega)]
  by_cases h2:a.op<2
  ·rw[if_pos h2,if_pos (by omega)]
  ·rw[if_neg h2,if_neg (by omega)]
 ·have e1:opNo a=0:=by unfold opNo;rw[if_pos h]
  have e2:ZC a=1:=by unfold ZC;rw[if_pos h]
  rw[e1,e2]
  exact⟨rfl,by omega⟩
theorem Zr9{a:Nd}(hk:a.kind=4∨a.kind=6)(ho:a.kind=4->a.op<=3)(pl pr:Nat->List UInt8):Zbk a pl pr=pl (ZC a)++[32]++Zeg (opNo a)++[32]++pr (ZC a+1):=by
 unfold Zbk
 rw[if_neg (by omega),if_neg (by omega),if_neg (by omega),if_neg (by omega),if_neg (by omega)]
 rcases hk with h|h
 ·rw[if_neg (by omega)]
  have:=ho h
  have e:opS a.op=Zeg (opNo a):=by
   unfold opNo;rw[if_neg (by omega)]
   rcases(by omega:a.op=0∨a.op=1∨a.op=2∨a.op=3)with h|h|h|h <;> rw[h] <;> rfl
  rw[e]
 ·have e:ZC a=1:=by unfold ZC;rw[if_pos h]
  rw[if_pos h,e]
  unfold opNo Zeg
  rw[if_pos h,if_pos rfl]
  simp
theorem ZwH (W : World) (v : Value) : Calls Tryz.prog 314 #[v] W fun e w' => e = .returned (.int .i64 3) /\ Below W.heap.size W w' := by
  go_enter Tryz.func314,Tryz.ntmps314
  go_wp2
  all_goals
    go_ret
    exact⟨rfl,belB⟩
theorem ZwG (W : World) (v : Value) : Calls Tryz.prog 315 #[v] W fun e w' => e = .returned (.int .i64 3) /\ Below W.heap.size W w' := by
  go_enter Tryz.func315,Tryz.ntmps315
  go_wp2
  all_goals
    go_ret
    exact⟨rfl,belB⟩
theorem ZwJ (W : World) (v : Value) : Calls Tryz.prog 316 #[v] W fun e w' => e = .returned (.int .i64 3) /\ Below W.heap.size W w' := by
  go_enter Tryz.func316,Tryz.ntmps316
  go_wp2
  all_goals
    go_ret
    exact⟨rfl,belB⟩
theorem ZwK (W : World) (v : Value) : Calls Tryz.prog 321 #[v] W fun e w' => e = .returned (.int .i64 3) /\ Below W.heap.size W w' := by
  go_enter Tryz.func321,Tryz.ntmps321
  go_wp2
  all_goals
    go_ret
    exact⟨rfl,belB⟩
theorem ZwI (W : World) (v : Value) : Calls Tryz.prog 320 #[v] W fun e w' => e = .returned (.int .i64 3) /\ Below W.heap.size W w' := by
  go_enter Tryz.func320,Tryz.ntmps320
  go_wp2
  all_goals
    go_ret
    exact⟨rfl,belB⟩
theorem Zo5 (W : World) (o : Nat) (ho : o <= 4) (ty1 ty2 : TypeId) (u1 u2 : Value) : Calls Tryz.prog 66 #[.agg #[.int .i64 o, .iface ty1 u1, .iface ty2 u2]] W fun e w' => e = .returned (.int .i64 (ZcS o)) /\ Below W.heap.size W w' := by
  have hb:Below W.heap.size W (W.alloc (.cells #[.int .i64 o,.iface ty1 u1,.iface ty2 u2] 116)):=Zbal
  go_enter Tryz.func66,Tryz.ntmps66
  go_wp2_with (go_at_call 53;refine(Zlg o ho _).mono ?_;rintro e wq ⟨rfl,rfl⟩)
  go_ret
  exact⟨rfl,hb⟩
theorem mN (v : Value) (w : World) : (Go.method 562 119 v "gauge/syntax.rank").run Tryz.prog w = .ok (314, v) w := by kernel_rfl
theorem mG (v : Value) (w : World) : (Go.method 562 121 v "gauge/syntax.rank").run Tryz.prog w = .ok (315, v) w := by kernel_rfl
theorem mU (v : Value) (w : World) : (Go.method 562 124 v "gauge/syntax.rank").run Tryz.prog w = .ok (316, v) w := by kernel_rfl
theorem mW (v : Value) (w : World) : (Go.method 562 150 v "gauge/syntax.rank").run Tryz.prog w = .ok (321, v) w := by kernel_rfl
theorem mS (v : Value) (w : World) : (Go.method 562 148 v "gauge/syntax.rank").run Tryz.prog w = .ok (320, v) w := by kernel_rfl
theorem mP (v : Value) (w : World) : (Go.method 562 116 v "gauge/syntax.rank").run Tryz.prog w = .ok (66, v) w := by kernel_rfl
theorem Zwe {w : World} {x y : Nat} {a : Nd} {l r : Tr} {v : Value} (h : Ze w (.node x y a l r) v) (ho : a.kind = 4 → a.op ≤ 3) : ∃ (ty : TypeId) (u : Value) (f : FuncId), v = .iface ty u ∧ (∀ W, (Go.method 562 ty u "gauge/syntax.rank").run Tryz.prog W = .ok (f, u) W) ∧ (∀ W, (callFunc f #[u]).run Tryz.prog W = .ok (.enter f #[u]) W) ∧ (∀ W, Calls Tryz.prog f #[u] W fun e w' => e = .returned (.int .i64 ((ZC a - 1 : Nat) : Int)) ∧ Below W.heap.size W w') := by
  have h4:a.kind<=3∨a.kind=5->ZC a - 1=3:=by
    intro h;unfold ZC;rw[if_neg (by omega),if_neg (by omega)]
  rcases h with ⟨hk,rfl⟩|⟨hk,nm,la,ln,lc,rfl,_⟩|⟨hk,wd,nm,la,ln,lc,rfl,_⟩|⟨hk,z,rfl,hz⟩|⟨hk,wd,la,ln,lc,z,rfl,_,_,hz⟩|⟨hk,z1,z2,rfl,hz1,hz2⟩
  · exact⟨_,_,_,rfl,fun W=>mN _ W,fun W=>by kernel_rfl,fun W=>by rw[h4 (by omega)];exact ZwH W _⟩
  · exact⟨_,_,_,rfl,fun W=>mS _ W,fun W=>by kernel_rfl,fun W=>by rw[h4 (by omega)];exact ZwI W _⟩
  · exact⟨_,_,_,rfl,fun W=>mW _ W,fun W=>by kernel_rfl,fun W=>by rw[h4 (by omega)];exact ZwK W _⟩
  · exact⟨_,_,_,rfl,fun W=>mG _ W,fun W=>by kernel_rfl,fun W=>by rw[h4 (by omega)];exact ZwG W _⟩
  · exact⟨_,_,_,rfl,fun W=>mU _ W,fun W=>by kernel_rfl,fun W=>by rw[h4 (by omega)];exact ZwJ W _⟩
  · obtain⟨t1,u1,rfl⟩:=Ze.shape hz1
    obtain⟨t2,u2,rfl⟩:=Ze.shape hz2
    have ht:=ZpT hk ho
    exact⟨_,_,_,rfl,fun W=>mP _ W,fun W=>by kernel_rfl,fun W=>by rw[show ZC a - 1=ZcS (opNo a) by omega];exact Zo5 W _ ht.2 _ _ _ _⟩
def WC(t:Tr):Prop:=∀(w:World) (v:Value) (B b:Nat) (l:List UInt8),Ze w t v->WB w B b l->Zu w->20<=B->l.length+wT t<=big->
 Calls Tryz.prog 34 #[.pointer (some ⟨b,0,none⟩),v] w fun e w'=>e=.returned (.tuple #[])/\Hid (WB w' B b (l++Zm t 1))/\Hid (WK B b w w')
def WW(t:Tr):Prop:=∀(w:World) (v:Value) (B b:Nat) (l:List UInt8) (j:Nat),Ze w t v->WB w B b l->Zu w->20<=B->l.length+wT t+2<=big->
 Calls Tryz.prog 65 #[.pointer (some ⟨b,0,none⟩),v,.int .i64 j] w fun e w'=>e=.returned (.tuple #[])/\Hid (WB w' B b (l++Zm t (j+1)))/\Hid (WK B b w w')
theorem ZeB{x y:Nat}{a:Nd}{l r:Tr} : Zm (.node x y a l r) 1=Zbk a (Zm l) (Zm r):=by
 show Zdn (decide (ZC a<1)) _=_
 rw[decide_eq_false (by unfold ZC;split <;> (try split) <;> (try split) <;> omega)];rfl
theorem Zqk{t:Tr}(hwf:wfT t)(h:WC t):WW t:=by
 intro w v B b l j hp hw ht hB hl
 match t,hwf,h,hp,hl with
 | .node x y a p q,hwf,h,hp,hl=>
  obtain⟨ty,u,f,rfl,hm,hcf,hc⟩:=Zwe hp hwf.2.2.1
  have HP:Hid (Ze w (.node x y a p q) (.iface ty u)):=hp
  have HW:Hid (WB w B b l):=hw
  have HT:Hid (Zu w):=ht
  have HB:Hid (20<=B):=hB
  have HL:Hid (l.length+wT (.node x y a p q)+2<=big):=hl
  have HC:Hid (∀W,Calls Tryz.prog f #[u] W fun e w'=>e=.returned (.int .i64 ((ZC a - 1:Nat):Int))/\Below W.heap.size W w'):=hc
  have HTG:Hid (1<=ZC a):=hid (by unfold ZC;split <;> (try split) <;> (try split) <;> omega)
  have HCL:Hid ((Zm (.node x y a p q) 1).length+2<=wT (.node x y a p q)):=hid (by
   rw[ZeB]
   exact ZmB hwf.2.2.2.2.2.1 (fun m=>ZeA p m hwf.2.2.2.2.2.2.2.2.2.2.1) (fun m=>ZeA q m hwf.2.2.2.2.2.2.2.2.2.2.2))
  clear hc hp hw ht hB hl
  go_enter Tryz.func65,Tryz.ntmps65
  go_wp2_with fail
  refine(HC.out w).mono ?_
  rintro e w1 ⟨rfl,hb1⟩
  have HP1:Hid (Ze w1 (.node x y a p q) (.iface ty u)):=HP.below hb1
  have HW1:Hid (WB w1 B b l):=HW.below hb1
  have HK1:Hid (WK B b w w1):=WK.below hb1 HW.le
  have HT1:Hid (Zu w1):=HT.low HK1.low HB.out
  clear hb1 hm hcf
  obtain⟨rk,hrk⟩:∃rk,rk=ZC a - 1:=⟨_,rfl⟩
  rw[<-hrk]
  by_cases hge:(j:Int)<=rk
  ·have HX:Hid (Zm (.node x y a p q) (j+1)=Zm (.node x y a p q) 1):=hid (by
    rw[ZeB]
    show Zdn (decide (ZC a<j+1)) _=_
    rw[decide_eq_false (by have:=HTG.out;omega)];rfl)
   clear hrk
   go_wp2_with fail
   refine(h w1 _ B b l HP1.out HW1.out HT1.out HB.out (by have:=HL.out;omega)).mono ?_
   rintro e w2 ⟨rfl,HW2,HK2'⟩
   have HK2:Hid (WK B b w w2):=HK1.trans HK2'.out
   clear HK2'
   go_wp2
   exact bodyPost_ret (v:=.tuple #[]) (results_none rfl _ _ _) rfl ⟨rfl,by rw[HX.out];exact HW2,HK2⟩
  ·have HX:Hid (Zm (.node x y a p q) (j+1)=[40]++Zm (.node x y a p q) 1++[41]):=hid (by
    rw[ZeB]
    show Zdn (decide (ZC a<j+1)) _=_
    rw[decide_eq_true (by have:=HTG.out;omega)];rfl)
   clear hrk
   go_wp2_with fail
   refine(ZcR HW1.out ⟨#[40]⟩ (by have h1:=HL.out;have h2:=HCL.out;show _+1<=_;omega)).mono ?_
   rintro e w2 ⟨rfl,HW2,HK2'⟩
   have HK2:Hid (WK B b w w2):=HK1.trans HK2'.out
   have HP2:Hid (Ze w2 (.node x y a p q) (.iface ty u)):=hid (Ze.wrote HW1.out HK2'.out HP1.out)
   have HT2:Hid (Zu w2):=HT.low HK2.low HB.out
   clear HK2' HP1 HW1 HK1 HT1
   go_wp2_with fail
   refine(h w2 _ B b _ HP2.out HW2.out HT2.out HB.out (by rw[List.length_append,Zi];have h1:=HL.out;show _+1+_<=_;omega)).mono ?_
   rintro e w3 ⟨rfl,HW3,HK3'⟩
   have HK3:Hid (WK B b w w3):=HK2.trans HK3'.out
   clear HK3' HP2 HW2 HK2 HT2
   go_wp2_with fail
   refine(ZcR HW3.out ⟨#[41]⟩ (by simp only[List.length_append,Zi];have h1:=HL.out;have h2:=HCL.out;show _+1+_+1<=_;omega)).mono ?_
   rintro e w4 ⟨rfl,HW4,HK4'⟩
   have HK4:Hid (WK B b w w4):=HK3.trans HK4'.out
   have HW5:Hid (WB w4 B b (l++Zm (.node x y a p q) (j+1))):=hid (by
    rw[HX.out];have:=HW4.out;simp only[List.append_assoc]at this ⊢;exact this)
   clear HK4' HW4
   go_wp2
   go_end0
   exact⟨rfl,HW5,HK4⟩
end Go.Proofs.YtcdgkkfipdoeeaaGreatDoor

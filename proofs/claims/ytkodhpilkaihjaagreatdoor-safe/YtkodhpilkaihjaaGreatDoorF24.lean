/- Parts. -/
import Derived.Test.YtkodhpilkaihjaaGreatDoorF22
import Derived.Deep.RegionHeld3
import Derived.Deep.DrawnRows
import Derived.Deep.LoopGhost
import Derived.Test.YtkodhpilkaihjaaGreatDoorF07
set_option maxRecDepth 100000
set_option maxHeartbeats 8000000
namespace Go.Proofs.YtkodhpilkaihjaaGreatDoor
open Go.RowKit LS
attribute [local go_sem ↓] Go.wp_at_zero Go.wp_at_succ
theorem Zj7(x y:ByteArray)(ng:Bool)(w:World) :
  Calls Tryz.prog 195 #[.agg #[.string x,.bool ng,.string y]] w fun e w'=>e=.returned (.string (if ng then ⟨#[33,61]⟩else ⟨#[61]⟩))/\Below w.heap.size w w':=by
 cases ng
 ·go_enter Tryz.func195,Tryz.ntmps195
  go_wp2
  go_ret
  exact⟨rfl,(by repeat first|exact Below.refl _ _|assumption|refine Below.alloc ?_ ?_ _|refine Below.setCell ?_ ?_ _|refine Zg ?_ _|refine Below.drew ?_|omega|(simp;omega)|simp)⟩
 ·go_enter Tryz.func195,Tryz.ntmps195
  go_wp2
  go_ret
  exact⟨rfl,(by repeat first|exact Below.refl _ _|assumption|refine Below.alloc ?_ ?_ _|refine Below.setCell ?_ ?_ _|refine Zg ?_ _|refine Below.drew ?_|omega|(simp;omega)|simp)⟩
theorem Zpl (l : List (ByteArray × ByteArray × Bool)) (j : Nat) : (ZbI l)[j * 3]? = l[j]?.map (fun t => .string t.1) /\ (ZbI l)[j * 3 + 1]? = l[j]?.map (fun t => .bool t.2.2) /\ (ZbI l)[j * 3 + 2]? = l[j]?.map (fun t => .string t.2.1) := by
  induction l generalizing j with
  | nil=>simp[ZbI]
  | cons r l ih=>
    cases j with
    | zero=>simp[ZbI]
    | succ j=>
      obtain⟨h1,h2,h3⟩:=ih j
      refine⟨?_,?_,?_⟩
      · rw[show(j+1)*3=j*3+1+1+1 by omega];simpa [ZbI] using h1
      · rw[show(j+1)*3+1=j*3+1+1+1+1 by omega];simpa [ZbI] using h2
      · rw[show(j+1)*3+2=j*3+1+1+1+1+1 by omega];simpa [ZbI] using h3
def Zb1(bs:List (ByteArray×ByteArray×Bool))(k:Nat):List UInt8:=commas ((bs.take k).map fun c=>Zcc (ZG c))
theorem Zoz(bs:List (ByteArray×ByteArray×Bool))(k:Nat)(h:k<bs.length):Zb1 bs (k+1)=(if k=0 then [] else Zb1 bs k++[44])++Zcc (ZG bs[k]):=by
 unfold Zb1
 rw[List.take_succ_eq_append_getElem h,List.map_append,List.map_singleton,Zj2]
 by_cases hk:k=0
 ·subst hk;rfl
 ·rw[if_neg hk,if_neg (by rw[List.isEmpty_iff,List.map_eq_nil_iff];intro e;have:=congrArg List.length e;rw[List.length_take,List.length_nil]at this;omega)]
theorem Zh8(bs:List (ByteArray×ByteArray×Bool))(k:Nat):(Zb1 bs k).length<=cw (bs.map ZG):=by
 unfold Zb1
 refine Nat.le_trans (Zfh _) ?_
 rw[show(fun c=>Zcc (ZG c))=Zcc ∘ ZG from rfl,<-List.map_map]
 refine Nat.le_trans (ZiP _) ?_
 rw[List.map_take]
 have:=Zkb ((bs.map ZG).take k) ((bs.map ZG).drop k)
 rw[List.take_append_drop]at this
 omega
theorem Zoy(bs:List (ByteArray×ByteArray×Bool)):Zb1 bs bs.length=commas ((bs.map ZG).map Zcc):=by
 unfold Zb1
 rw[List.take_length,List.map_map];rfl
theorem Zow(c:ByteArray×ByteArray×Bool):Zcc (ZG c)=bl c.1++(if c.2.2 then [33,61] else [61])++[34]++bl c.2.1++[34]:=rfl
theorem Zno{w:World}{B b:Nat}{l:List UInt8}(h:WB w B b l)(nm:ByteArray)(la:Option Addr)(ln lc:Nat)(a:Nd)(hnm:bl nm=a.name)(hc:ZA w (.slice la ln lc) a.conds)(hlen:l.length+a.name.length+cw a.conds+10<=big) :
  Calls Tryz.prog 134 #[.pointer (some ⟨b,0,none⟩),.agg #[.string nm,.slice la ln lc]] w fun e w'=>e=.returned (.tuple #[])/\Hid (WB w' B b (l++selS a))/\Hid (WK B b w w'):=by
 obtain⟨bs,hown,hbs⟩:=hc
 have hln:ln=bs.length:=by obtain⟨_,_,e⟩:=Zr hown;injection e
 subst hln
 have HW:Hid (WB w B b l):=h
 have HNM:Hid (bl nm=a.name):=hnm
 have HBS:Hid (bs.map ZG=a.conds):=hbs
 have HLN:Hid (l.length+nm.size+cw (bs.map ZG)+10<=big):=hid (by rw[hbs,ZO hnm];exact hlen)
 have HO:Hid (w.ownsRow 0 379 3 (.slice la bs.length lc) bs.length (ZbI bs)):=hown
 have hbg:bs.length<=1000000:=by
  have h1:=HLN.out
  have h2:bs.length<=cw (bs.map ZG):=by
   clear h1 HLN HO HBS hown hbs
   induction bs with
   | nil=>exact Nat.zero_le _
   | cons c l ih=>simp only[List.map_cons,cw,List.length_cons];omega
  unfold big at h1;omega
 clear h hnm hbs hlen hown
 go_enter Tryz.func134,Tryz.ntmps134
 go_upto_region 1 with fail
 refine ZK fun W0 hW0=>?_
 have hb0:Below w.heap.size w W0:=by rw[hW0];exact Zbal
 have HS0:Hid (BAt W0 w.heap.size [.string nm,.slice la bs.length lc] 281):=hid (by rw[hW0];exact Go.Deep.blk_alloc_new _ _)
 have HW0:Hid (WB W0 B b l):=HW.below hb0
 have HK0:Hid (WK B b w W0):=WK.below hb0 HW.le
 have HO0:=hid (Zm HO.out hb0)
 clear hW0 hb0
 have s0:=HS0.cell 0
 have s1:=HS0.cell 1
 simp only[Zget]at s0 s1
 go_wp2_with fail
 refine(ZcR HW0.out nm (by have:=HLN.out;omega)).mono ?_
 rintro e w1 ⟨rfl,HW1,HK1'⟩
 have HK1:Hid (WK B b w w1):=HK0.trans HK1'.out
 have HS1:=hid (WK.bat HW0.out HK1'.out HS0.out (by decide) (by decide))
 have HO1:=hid (WK.own HW0.out HK1'.out HO0.out (by decide) (by decide))
 clear HK1' s0 s1 HS0 HK0 HW0 HO0
 have s1:=HS1.cell 1
 simp only[Zget]at s1
 by_cases hz:bs.length=0
 ·have HE:Hid (selS a=bl nm):=hid (by
   have:bs=[]:=List.eq_nil_of_length_eq_zero hz
   unfold selS;rw[<-HBS.out,this,HNM.out];rfl)
  rw[hz]at s1
  go_wp2
  exact bodyPost_ret (v:=.tuple #[]) (results_none rfl _ _ _) rfl ⟨rfl,by rw[HE.out];exact HW1,HK1⟩
 ·have hp:0<bs.length:=by omega
  have HE:Hid (selS a=bl nm++[123]++Zb1 bs bs.length++[125]):=hid (by
   unfold selS
   rw[if_neg (by rw[<-HBS.out];intro e;rw[List.map_eq_nil_iff]at e;subst e;exact hz rfl),Zoy,HBS.out,HNM.out])
  have hz2:((bs.length:Int) == 0)=false:=by rw[beq_eq_false_iff_ne];omega
  obtain⟨g,cp,hg⟩:=ZV HO1.out hp
  injection hg with hg1 _ hg2
  subst hg1 hg2
  go_wp2_with fail
  refine(ZcR HW1.out ⟨#[123]⟩ (by rw[List.length_append,Ze];have:=HLN.out;show _+1<=_;omega)).mono ?_
  rintro e w2 ⟨rfl,HW2,HK2'⟩
  have HK2:Hid (WK B b w w2):=HK1.trans HK2'.out
  have HS2:=hid (WK.bat HW1.out HK2'.out HS1.out (by decide) (by decide))
  have HO2:=hid (WK.own HW1.out HK2'.out HO1.out (by decide) (by decide))
  have HL2:Hid (l++bl nm++[123]++Zb1 bs 0=l++bl nm++[123]):=hid (by show _++commas ([]:List (List UInt8))=_;simp[commas])
  clear HK2' s1 HS1 HK1 HW1 HO1
  have s1:=HS2.cell 1
  simp only[Zget]at s1
  go_wp2
  go_loopg [19] bs.length (fun gk v19 wr=>∃k:Nat,k<=bs.length/\gk=bs.length - k/\v19=.int .i64 k/\Hid (WB wr B b (l++bl nm++[123]++Zb1 bs k))/\Hid (WK B b w wr)/\Hid (wr.ownsRow 0 379 3 (.slice (some ⟨g,0,none⟩) bs.length lc) bs.length (ZbI bs)))
  case atStart=>exact⟨0,Nat.zero_le _,rfl,rfl,by rw[HL2.out];exact HW2,HK2,HO2⟩
  case round=>
   obtain⟨k,hk,hgk,rfl,HWr,HKr,HOr⟩:=hrel
   clear HW2 HK2 HO2 s1 HS2
   by_cases hlt:k<bs.length
   ·have HSC:Hid (Zb1 bs (k+1)=(if k=0 then [] else Zb1 bs k++[44])++Zcc (ZG bs[k])):=hid (Zoz bs k hlt)
    have HCL:Hid ((Zb1 bs (k+1)).length<=cw (bs.map ZG)):=hid (Zh8 bs (k+1))
    have HCB:Hid (Zcc (ZG bs[k])=bl bs[k].1++(if bs[k].2.2 then [33,61] else [61])++[34]++bl bs[k].2.1++[34]):=hid (Zow bs[k])
    obtain⟨f1,f2,f3⟩:=Zpl bs k
    rw[List.getElem?_eq_getElem hlt]at f1 f2 f3
    simp only[Option.map_some]at f1 f2 f3
    have r0:=Zj HOr.out _ _ f1
    have r1:=Zj HOr.out _ _ f2
    have r2:=Zj HOr.out _ _ f3
    clear f1 f2 f3
    obtain⟨⟨x,y,ng⟩,hc⟩:∃c,c=bs[k]:=⟨_,rfl⟩
    rw[<-hc]at r0 r1 r2 HSC HCB
    simp only at r0 r1 r2 HCB
    have hgl:=ZbX HOr.out
    clear hc
    go_upto_region 7 with fail
    refine ZK fun W3 hW3=>?_
    have hb3:Below wr.heap.size wr W3:=by rw[hW3];exact Zbal
    have HC3:Hid (BAt W3 wr.heap.size [.string x,.bool ng,.string y] 379):=hid (by rw[hW3];exact Go.Deep.blk_alloc_new _ _)
    have HW3:Hid (WB W3 B b (l++bl nm++[123]++Zb1 bs k)):=HWr.below hb3
    have HK3:Hid (WK B b w W3):=HKr.trans (WK.below hb3 HWr.le)
    have HO3:=hid (Zm HOr.out hb3)
    clear hW3 hb3 HWr HKr HOr r0 r1 r2
    have HKZ:Hid (k=0∨0<k):=hid (by omega)
    rcases HKZ.out with hk0|hk0
    ·have HW4:Hid (WB W3 B b (l++bl nm++[123]++(if k=0 then [] else Zb1 bs k++[44]))):=hid (by
      rw[if_pos hk0,List.append_nil]
      have h3:=HW3.out
      rw[hk0,show Zb1 bs 0=[] from rfl,List.append_nil]at h3
      exact h3)
     have HC4:=HC3
     have HK4:=HK3
     have HO4:=HO3
     clear HW3 HC3 HK3 HO3
     have hkn:¬(0:Int)<k:=by omega
     go_upto_region 9 with fail
     have c0:=HC4.cell 0
     have c1:=HC4.cell 1
     have c2:=HC4.cell 2
     simp only[Zget]at c0 c1 c2
     obtain⟨sg,hsg⟩:∃sg:ByteArray,sg=(if ng then ⟨#[33,61]⟩else ⟨#[61]⟩):=⟨_,rfl⟩
     have HSG:Hid (sg=(if ng then ⟨#[33,61]⟩else ⟨#[61]⟩)):=hsg
     have HSB:Hid (bl sg=(if ng then [33,61] else [61])):=hid (by rw[hsg];cases ng <;> rfl)
     have HXL:Hid (l.length+nm.size+1+(if k=0 then [] else Zb1 bs k++[44]).length+(Zcc (ZG (x,y,ng))).length+8<=big):=hid (by
      have h1:=HLN.out
      have h2:=HCL.out
      rw[HSC.out,List.length_append]at h2
      omega)
     have hxs:x.size+sg.size+y.size+2<=1000000:=by
      have h1:=HXL.out
      rw[HCB.out,<-HSB.out]at h1
      simp only[List.length_append,Ze,List.length_cons,List.length_nil]at h1
      unfold big at h1
      omega
     clear hsg
     have a1:∀W,(Op.stringOp .add x sg).run Tryz.prog W=.ok (.string (x++sg)) W:=fun W=>run_string_add_sum W _ _ (by omega)
     have y1:(x++sg:ByteArray).size=x.size+sg.size:=by rw[ByteArray.size_append]
     have a2:∀W,(Op.stringOp .add (x++sg) ⟨#[34]⟩).run Tryz.prog W=.ok (.string ((x++sg)++⟨#[34]⟩)) W:=fun W=>run_string_add_sum W _ _ (by rw[y1];show _+1<=_;omega)
     have y2:((x++sg)++⟨#[34]⟩:ByteArray).size=x.size+sg.size+1:=by rw[ByteArray.size_append,y1];rfl
     have a3:∀W,(Op.stringOp .add ((x++sg)++⟨#[34]⟩) y).run Tryz.prog W=.ok (.string (((x++sg)++⟨#[34]⟩)++y)) W:=fun W=>run_string_add_sum W _ _ (by rw[y2];omega)
     have y3:(((x++sg)++⟨#[34]⟩)++y:ByteArray).size=x.size+sg.size+1+y.size:=by rw[ByteArray.size_append,y2]
     have a4:∀W,(Op.stringOp .add (((x++sg)++⟨#[34]⟩)++y) ⟨#[34]⟩).run Tryz.prog W=.ok (.string ((((x++sg)++⟨#[34]⟩)++y)++⟨#[34]⟩)) W:=fun W=>run_string_add_sum W _ _ (by rw[y3];show _+1<=_;omega)
     have HSZ:Hid (((((x++sg)++⟨#[34]⟩)++y)++⟨#[34]⟩:ByteArray).size=(Zcc (ZG (x,y,ng))).length):=hid (by
      rw[HCB.out,<-HSB.out];simp only[List.length_append,Ze,ByteArray.size_append];rfl)
     have HTX:Hid (bl ((((x++sg)++⟨#[34]⟩)++y)++⟨#[34]⟩)=Zcc (ZG (x,y,ng))):=hid (by
      rw[HCB.out,<-HSB.out,Zcs,Zcs,Zcs,Zcs];rfl)
     clear y1 y2 y3 hxs
     go_region_held3 (fun w' => w'.cell? ⟨wr.heap.size, 0, none⟩ = some (.string x) /\ w'.cell? ⟨wr.heap.size, 1, none⟩ = some (.bool ng) /\ w'.cell? ⟨wr.heap.size, 2, none⟩ = some (.string y)) (first | exact ⟨e0, e1, e2⟩ | exact ⟨d0, d1, d2⟩ | exact ⟨c0, c1, c2⟩ | go_keep) (first
       | (go_at_call 195
          refine(Zj7 x y ng _).mono ?_
          rintro e w5 ⟨rfl,hb5⟩
          rw[<-HSG.out]
          have HB5:Hid (Below W3.heap.size W3 w5):=hid ⟨hb5.os,hb5.tape,hb5.output,hb5.size,hb5.block⟩
          have HC5:=hid (HC4.below HB5.out)
          have d0:=HC5.cell 0
          have d1:=HC5.cell 1
          have d2:=HC5.cell 2
          simp only[Zget]at d0 d1 d2
          clear hb5)
       | (go_at_call 129
          refine(ZcR (HW4.below HB5.out) _ (by rw[HSZ.out];have:=HXL.out;simp only[List.length_append,Ze,List.length_cons,List.length_nil];omega)).mono ?_
          rintro e w6 ⟨rfl,HW6,HK6'⟩
          have HC6:=hid (WK.bat (HW4.below HB5.out) HK6'.out HC5.out (by decide) (by decide))
          have e0:=HC6.cell 0
          have e1:=HC6.cell 1
          have e2:=HC6.cell 2
          simp only[Zget]at e0 e1 e2
          have HK6:Hid (WK B b w w6):=HK4.trans ((WK.below HB5.out HW4.le).trans HK6'.out)
          have HO6:=hid (WK.own (HW4.below HB5.out) HK6'.out (Zm HO4.out HB5.out) (by decide) (by decide))
          clear HK6'))
     have HW7:Hid (WB w6 B b (l++bl nm++[123]++Zb1 bs (k+1))):=hid (by
      rw[HSC.out,<-HTX.out,<-List.append_assoc];exact HW6.out)
     go_wp2
     go_roundg (bs.length - (k+1))
     case measure=>omega
     case rel=>exact⟨k+1,by omega,rfl,by go_num,HW7,HK6,HO6⟩
    ·have HC3':=HC3
     have hkn:(0:Int)<k:=by omega
     go_wp2_with fail
     refine(ZcR HW3.out ⟨#[44]⟩ (by have h1:=HLN.out;have h2:=Zh8 bs k;simp only[List.length_append,Ze];show _+1<=_;simp only[List.length_cons,List.length_nil];omega)).mono ?_
     rintro e w4 ⟨rfl,HW4',HK4'⟩
     have HW4:Hid (WB w4 B b (l++bl nm++[123]++(if k=0 then [] else Zb1 bs k++[44]))):=hid (by
      rw[if_neg (by omega),<-List.append_assoc];exact HW4'.out)
     have HC4:=hid (WK.bat HW3.out HK4'.out HC3.out (by decide) (by decide))
     have HK4:Hid (WK B b w w4):=HK3.trans HK4'.out
     have HO4:=hid (WK.own HW3.out HK4'.out HO3.out (by decide) (by decide))
     clear HW3 HC3 HK3 HO3 HK4' HW4' HC3'
     go_upto_region 9 with fail
     have c0:=HC4.cell 0
     have c1:=HC4.cell 1
     have c2:=HC4.cell 2
     simp only[Zget]at c0 c1 c2
     obtain⟨sg,hsg⟩:∃sg:ByteArray,sg=(if ng then ⟨#[33,61]⟩else ⟨#[61]⟩):=⟨_,rfl⟩
     have HSG:Hid (sg=(if ng then ⟨#[33,61]⟩else ⟨#[61]⟩)):=hsg
     have HSB:Hid (bl sg=(if ng then [33,61] else [61])):=hid (by rw[hsg];cases ng <;> rfl)
     have HXL:Hid (l.length+nm.size+1+(if k=0 then [] else Zb1 bs k++[44]).length+(Zcc (ZG (x,y,ng))).length+8<=big):=hid (by
      have h1:=HLN.out
      have h2:=HCL.out
      rw[HSC.out,List.length_append]at h2
      omega)
     have hxs:x.size+sg.size+y.size+2<=1000000:=by
      have h1:=HXL.out
      rw[HCB.out,<-HSB.out]at h1
      simp only[List.length_append,Ze,List.length_cons,List.length_nil]at h1
      unfold big at h1
      omega
     clear hsg
     have a1:∀W,(Op.stringOp .add x sg).run Tryz.prog W=.ok (.string (x++sg)) W:=fun W=>run_string_add_sum W _ _ (by omega)
     have y1:(x++sg:ByteArray).size=x.size+sg.size:=by rw[ByteArray.size_append]
     have a2:∀W,(Op.stringOp .add (x++sg) ⟨#[34]⟩).run Tryz.prog W=.ok (.string ((x++sg)++⟨#[34]⟩)) W:=fun W=>run_string_add_sum W _ _ (by rw[y1];show _+1<=_;omega)
     have y2:((x++sg)++⟨#[34]⟩:ByteArray).size=x.size+sg.size+1:=by rw[ByteArray.size_append,y1];rfl
     have a3:∀W,(Op.stringOp .add ((x++sg)++⟨#[34]⟩) y).run Tryz.prog W=.ok (.string (((x++sg)++⟨#[34]⟩)++y)) W:=fun W=>run_string_add_sum W _ _ (by rw[y2];omega)
     have y3:(((x++sg)++⟨#[34]⟩)++y:ByteArray).size=x.size+sg.size+1+y.size:=by rw[ByteArray.size_append,y2]
     have a4:∀W,(Op.stringOp .add (((x++sg)++⟨#[34]⟩)++y) ⟨#[34]⟩).run Tryz.prog W=.ok (.string ((((x++sg)++⟨#[34]⟩)++y)++⟨#[34]⟩)) W:=fun W=>run_string_add_sum W _ _ (by rw[y3];show _+1<=_;omega)
     have HSZ:Hid (((((x++sg)++⟨#[34]⟩)++y)++⟨#[34]⟩:ByteArray).size=(Zcc (ZG (x,y,ng))).length):=hid (by
      rw[HCB.out,<-HSB.out];simp only[List.length_append,Ze,ByteArray.size_append];rfl)
     have HTX:Hid (bl ((((x++sg)++⟨#[34]⟩)++y)++⟨#[34]⟩)=Zcc (ZG (x,y,ng))):=hid (by
      rw[HCB.out,<-HSB.out,Zcs,Zcs,Zcs,Zcs];rfl)
     clear y1 y2 y3 hxs
     go_region_held3 (fun w' => w'.cell? ⟨wr.heap.size, 0, none⟩ = some (.string x) /\ w'.cell? ⟨wr.heap.size, 1, none⟩ = some (.bool ng) /\ w'.cell? ⟨wr.heap.size, 2, none⟩ = some (.string y)) (first | exact ⟨e0, e1, e2⟩ | exact ⟨d0, d1, d2⟩ | exact ⟨c0, c1, c2⟩ | go_keep) (first
       | (go_at_call 195
          refine(Zj7 x y ng _).mono ?_
          rintro e w5 ⟨rfl,hb5⟩
          rw[<-HSG.out]
          have HB5:Hid (Below w4.heap.size w4 w5):=hid ⟨hb5.os,hb5.tape,hb5.output,hb5.size,hb5.block⟩
          have HC5:=hid (HC4.below HB5.out)
          have d0:=HC5.cell 0
          have d1:=HC5.cell 1
          have d2:=HC5.cell 2
          simp only[Zget]at d0 d1 d2
          clear hb5)
       | (go_at_call 129
          refine(ZcR (HW4.below HB5.out) _ (by rw[HSZ.out];have:=HXL.out;simp only[List.length_append,Ze,List.length_cons,List.length_nil];omega)).mono ?_
          rintro e w6 ⟨rfl,HW6,HK6'⟩
          have HC6:=hid (WK.bat (HW4.below HB5.out) HK6'.out HC5.out (by decide) (by decide))
          have e0:=HC6.cell 0
          have e1:=HC6.cell 1
          have e2:=HC6.cell 2
          simp only[Zget]at e0 e1 e2
          have HK6:Hid (WK B b w w6):=HK4.trans ((WK.below HB5.out HW4.le).trans HK6'.out)
          have HO6:=hid (WK.own (HW4.below HB5.out) HK6'.out (Zm HO4.out HB5.out) (by decide) (by decide))
          clear HK6'))
     have HW7:Hid (WB w6 B b (l++bl nm++[123]++Zb1 bs (k+1))):=hid (by
      rw[HSC.out,<-HTX.out,<-List.append_assoc];exact HW6.out)
     go_wp2
     go_roundg (bs.length - (k+1))
     case measure=>omega
     case rel=>exact⟨k+1,by omega,rfl,by go_num,HW7,HK6,HO6⟩
   ·obtain rfl:k=bs.length:=by omega
    go_wp2_with fail
    refine(ZcR HWr.out ⟨#[125]⟩ (by have h1:=HLN.out;have h2:=Zh8 bs bs.length;simp only[List.length_append,Ze,List.length_cons,List.length_nil];show _+1<=_;omega)).mono ?_
    rintro e w8 ⟨rfl,HW8,HK8'⟩
    have HK8:Hid (WK B b w w8):=HKr.trans HK8'.out
    have HW9:Hid (WB w8 B b (l++selS a)):=hid (by rw[HE.out];have:=HW8.out;simp only[List.append_assoc]at this ⊢;exact this)
    clear HK8' HW8
    go_wp2
    go_end0
    exact⟨rfl,HW9,HK8⟩
end Go.Proofs.YtkodhpilkaihjaaGreatDoor
namespace Go.Proofs.YtkodhpilkaihjaaGreatDoor
open Go.RowKit LS
theorem Zj1:∀xs:List (List UInt8),([44]:List UInt8).intercalate xs=commas xs
 | []=>rfl
 | [a]=>by simp[List.intercalate,commas]
 | a :: b :: l => by
   have ih:=Zj1 (b::l)
   rw[Zj0,<-ih]
   simp[List.intercalate]
theorem Zqi{w:World}(la:Option Addr)(ln lc:Nat)(ns:List (List UInt8))(h:ZbP w (.slice la ln lc) ns)(hl:nw ns<=1000000) :
  Calls Tryz.prog 96 #[.slice la ln lc,.string ⟨#[44]⟩] w fun e w'=>∃s:ByteArray,e=.returned (.string s)/\Hid (bl s=commas ns)/\Below w.heap.size w w':=by
 obtain⟨bs,hown,hbs⟩:=h
 have hln:ln=bs.length:=by obtain⟨_,_,e⟩:=Zr hown;injection e
 subst hln
 by_cases hz:bs.length=0
 ·rw[hz]
  refine(Tryz.strings_Join_none la lc ⟨#[44]⟩ w).mono ?_
  rintro e w' ⟨rfl,rfl⟩
  have:bs=[]:=List.eq_nil_of_length_eq_zero hz
  subst this
  exact⟨_,rfl,hid (by rw[<-hbs];rfl),Below.refl _ _⟩
 ·obtain⟨g,cp,hg⟩:=ZV hown (by omega)
  injection hg with hg1 _ hg2
  subst hg1 hg2
  have hj:Lib.join (bs.map (·.data.toList)) [44]=commas ns:=by
   rw[<-hbs];exact Zj1 _
  have hcm:=Zfh ns
  have hcap:bs.length<=lc:=by
   rcases hown.2 with ⟨e,_⟩|⟨g',cap,cur,e,_,_,hc,_⟩
   ·cases e
   ·injection e with _ _ e;subst e;exact hc
  have hbl:bs.length<=1000000:=by
   have h1:bs.length<=nw (bs.map bl):=by
    clear hj hcap hown hbs hz
    induction bs with
    | nil=>exact Nat.zero_le _
    | cons c l ih=>simp only[List.map_cons,nw,List.length_cons];omega
   rw[hbs]at h1;omega
  refine(Tryz.strings_Join g 0 lc bs ⟨#[44]⟩ w ?_ (ZbX hown) (by omega) hcap (by show(Lib.join (bs.map (·.data.toList)) [44]).length<=_;rw[hj];omega)).mono ?_
  ·intro j x hj
   rw[Nat.zero_add]
   exact Zj hown j _ (by show(bs.map Value.string)[j]?=_;rw[List.getElem?_map,hj];rfl)
  ·rintro e w' ⟨rfl,hb⟩
   exact⟨_,rfl,hid (by show bl (ByteArray.mk (Lib.join (bs.map (·.data.toList)) [44]).toArray)=_;rw[Zbu,hj]),hb⟩
theorem ZmQ{a:Nd}(hk:a.kind=4∨a.kind=6)(ho:a.kind=4->a.op<=3):ZcS (opNo a)+1=Zbs a/\opNo a<=4:=by
 rcases hk with h|h
 ·have h3:=ho h
  have e1:opNo a=a.op+1:=by unfold opNo;rw[if_neg (by omega)]
  have e2:Zbs a=if a.op<2 then 2 else 3:=by unfold Zbs;rw[if_neg (by omega),if_pos h]
  rw[e1,e2]
  refine⟨?_,by omega⟩
  unfold ZcS
  rw[if_neg (by omega)]
  by_cases h2:a.op<2
  ·rw[if_pos h2,if_pos (by omega)]
  ·rw[if_neg h2,if_neg (by omega)]
 ·have e1:opNo a=0:=by unfold opNo;rw[if_pos h]
  have e2:Zbs a=1:=by unfold Zbs;rw[if_pos h]
  rw[e1,e2]
  exact⟨rfl,by omega⟩
theorem ZoH{a:Nd}(hk:a.kind=4∨a.kind=6)(ho:a.kind=4->a.op<=3)(pl pr:Nat->List UInt8):Zcd a pl pr=pl (Zbs a)++[32]++Zd4 (opNo a)++[32]++pr (Zbs a+1):=by
 unfold Zcd
 rw[if_neg (by omega),if_neg (by omega),if_neg (by omega),if_neg (by omega),if_neg (by omega)]
 rcases hk with h|h
 ·rw[if_neg (by omega)]
  have:=ho h
  have e:opS a.op=Zd4 (opNo a):=by
   unfold opNo;rw[if_neg (by omega)]
   rcases(by omega:a.op=0∨a.op=1∨a.op=2∨a.op=3)with h|h|h|h <;> rw[h] <;> rfl
  rw[e]
 ·have e:Zbs a=1:=by unfold Zbs;rw[if_pos h]
  rw[if_pos h,e]
  unfold opNo Zd4
  rw[if_pos h,if_pos rfl]
  simp
theorem ZtB (W : World) (v : Value) : Calls Tryz.prog 345 #[v] W fun e w' => e = .returned (.int .i64 3) /\ Below W.heap.size W w' := by
  go_enter Tryz.func345,Tryz.ntmps345
  go_wp2
  all_goals
    go_ret
    exact⟨rfl,(by repeat first|exact Below.refl _ _|assumption|refine Below.alloc ?_ ?_ _|refine Below.setCell ?_ ?_ _|refine Zg ?_ _|refine Below.drew ?_|omega|(simp;omega)|simp)⟩
theorem ZtA (W : World) (v : Value) : Calls Tryz.prog 346 #[v] W fun e w' => e = .returned (.int .i64 3) /\ Below W.heap.size W w' := by
  go_enter Tryz.func346,Tryz.ntmps346
  go_wp2
  all_goals
    go_ret
    exact⟨rfl,(by repeat first|exact Below.refl _ _|assumption|refine Below.alloc ?_ ?_ _|refine Below.setCell ?_ ?_ _|refine Zg ?_ _|refine Below.drew ?_|omega|(simp;omega)|simp)⟩
theorem ZtD (W : World) (v : Value) : Calls Tryz.prog 347 #[v] W fun e w' => e = .returned (.int .i64 3) /\ Below W.heap.size W w' := by
  go_enter Tryz.func347,Tryz.ntmps347
  go_wp2
  all_goals
    go_ret
    exact⟨rfl,(by repeat first|exact Below.refl _ _|assumption|refine Below.alloc ?_ ?_ _|refine Below.setCell ?_ ?_ _|refine Zg ?_ _|refine Below.drew ?_|omega|(simp;omega)|simp)⟩
theorem ZtE (W : World) (v : Value) : Calls Tryz.prog 349 #[v] W fun e w' => e = .returned (.int .i64 3) /\ Below W.heap.size W w' := by
  go_enter Tryz.func349,Tryz.ntmps349
  go_wp2
  all_goals
    go_ret
    exact⟨rfl,(by repeat first|exact Below.refl _ _|assumption|refine Below.alloc ?_ ?_ _|refine Below.setCell ?_ ?_ _|refine Zg ?_ _|refine Below.drew ?_|omega|(simp;omega)|simp)⟩
theorem ZtC (W : World) (v : Value) : Calls Tryz.prog 348 #[v] W fun e w' => e = .returned (.int .i64 3) /\ Below W.heap.size W w' := by
  go_enter Tryz.func348,Tryz.ntmps348
  go_wp2
  all_goals
    go_ret
    exact⟨rfl,(by repeat first|exact Below.refl _ _|assumption|refine Below.alloc ?_ ?_ _|refine Below.setCell ?_ ?_ _|refine Zg ?_ _|refine Below.drew ?_|omega|(simp;omega)|simp)⟩
theorem Zl9 (W : World) (o : Nat) (ho : o <= 4) (ty1 ty2 : TypeId) (u1 u2 : Value) : Calls Tryz.prog 132 #[.agg #[.int .i64 o, .iface ty1 u1, .iface ty2 u2]] W fun e w' => e = .returned (.int .i64 (ZcS o)) /\ Below W.heap.size W w' := by
  have hb:Below W.heap.size W (W.alloc (.cells #[.int .i64 o,.iface ty1 u1,.iface ty2 u2] 268)):=Zbal
  go_enter Tryz.func132,Tryz.ntmps132
  go_wp2_with (go_at_call 125;refine(Zi3 o ho _).mono ?_;rintro e wq ⟨rfl,rfl⟩)
  go_ret
  exact⟨rfl,hb⟩
theorem mN (v : Value) (w : World) : (Go.method 620 270 v "gauge/syntax.rank").run Tryz.prog w = .ok (345, v) w := by kernel_rfl
theorem mG (v : Value) (w : World) : (Go.method 620 272 v "gauge/syntax.rank").run Tryz.prog w = .ok (346, v) w := by kernel_rfl
theorem mU (v : Value) (w : World) : (Go.method 620 274 v "gauge/syntax.rank").run Tryz.prog w = .ok (347, v) w := by kernel_rfl
theorem mW (v : Value) (w : World) : (Go.method 620 283 v "gauge/syntax.rank").run Tryz.prog w = .ok (349, v) w := by kernel_rfl
theorem mS (v : Value) (w : World) : (Go.method 620 281 v "gauge/syntax.rank").run Tryz.prog w = .ok (348, v) w := by kernel_rfl
theorem mP (v : Value) (w : World) : (Go.method 620 268 v "gauge/syntax.rank").run Tryz.prog w = .ok (132, v) w := by kernel_rfl
theorem ZsX {w : World} {x y : Nat} {a : Nd} {l r : Tr} {v : Value} (h : Zd w (.node x y a l r) v) (ho : a.kind = 4 → a.op ≤ 3) : ∃ (ty : TypeId) (u : Value) (f : FuncId), v = .iface ty u ∧ (∀ W, (Go.method 620 ty u "gauge/syntax.rank").run Tryz.prog W = .ok (f, u) W) ∧ (∀ W, (callFunc f #[u]).run Tryz.prog W = .ok (.enter f #[u]) W) ∧ (∀ W, Calls Tryz.prog f #[u] W fun e w' => e = .returned (.int .i64 ((Zbs a - 1 : Nat) : Int)) ∧ Below W.heap.size W w') := by
  have h4:a.kind<=3∨a.kind=5->Zbs a - 1=3:=by
    intro h;unfold Zbs;rw[if_neg (by omega),if_neg (by omega)]
  rcases h with ⟨hk,rfl⟩|⟨hk,nm,la,ln,lc,rfl,_⟩|⟨hk,wd,nm,la,ln,lc,rfl,_⟩|⟨hk,z,rfl,hz⟩|⟨hk,wd,la,ln,lc,z,rfl,_,_,hz⟩|⟨hk,z1,z2,rfl,hz1,hz2⟩
  · exact⟨_,_,_,rfl,fun W=>mN _ W,fun W=>by kernel_rfl,fun W=>by rw[h4 (by omega)];exact ZtB W _⟩
  · exact⟨_,_,_,rfl,fun W=>mS _ W,fun W=>by kernel_rfl,fun W=>by rw[h4 (by omega)];exact ZtC W _⟩
  · exact⟨_,_,_,rfl,fun W=>mW _ W,fun W=>by kernel_rfl,fun W=>by rw[h4 (by omega)];exact ZtE W _⟩
  · exact⟨_,_,_,rfl,fun W=>mG _ W,fun W=>by kernel_rfl,fun W=>by rw[h4 (by omega)];exact ZtA W _⟩
  · exact⟨_,_,_,rfl,fun W=>mU _ W,fun W=>by kernel_rfl,fun W=>by rw[h4 (by omega)];exact ZtD W _⟩
  · obtain⟨t1,u1,rfl⟩:=Zd.shape hz1
    obtain⟨t2,u2,rfl⟩:=Zd.shape hz2
    have ht:=ZmQ hk ho
    exact⟨_,_,_,rfl,fun W=>mP _ W,fun W=>by kernel_rfl,fun W=>by rw[show Zbs a - 1=ZcS (opNo a) by omega];exact Zl9 W _ ht.2 _ _ _ _⟩
def WC(t:Tr):Prop:=∀(w:World) (v:Value) (B b:Nat) (l:List UInt8),Zd w t v->WB w B b l->Zx w->20<=B->l.length+wT t<=big->
 Calls Tryz.prog 72 #[.pointer (some ⟨b,0,none⟩),v] w fun e w'=>e=.returned (.tuple #[])/\Hid (WB w' B b (l++ZD t 1))/\Hid (WK B b w w')
def WW(t:Tr):Prop:=∀(w:World) (v:Value) (B b:Nat) (l:List UInt8) (j:Nat),Zd w t v->WB w B b l->Zx w->20<=B->l.length+wT t+2<=big->
 Calls Tryz.prog 131 #[.pointer (some ⟨b,0,none⟩),v,.int .i64 j] w fun e w'=>e=.returned (.tuple #[])/\Hid (WB w' B b (l++ZD t (j+1)))/\Hid (WK B b w w')
theorem ZdI{x y:Nat}{a:Nd}{l r:Tr} : ZD (.node x y a l r) 1=Zcd a (ZD l) (ZD r):=by
 show ZfI (decide (Zbs a<1)) _=_
 rw[decide_eq_false (by unfold Zbs;split <;> (try split) <;> (try split) <;> omega)];rfl
theorem Zng{t:Tr}(hwf:wfT t)(h:WC t):WW t:=by
 intro w v B b l j hp hw ht hB hl
 match t,hwf,h,hp,hl with
 | .node x y a p q,hwf,h,hp,hl=>
  obtain⟨ty,u,f,rfl,hm,hcf,hc⟩:=ZsX hp hwf.2.2.1
  have HP:Hid (Zd w (.node x y a p q) (.iface ty u)):=hp
  have HW:Hid (WB w B b l):=hw
  have HT:Hid (Zx w):=ht
  have HB:Hid (20<=B):=hB
  have HL:Hid (l.length+wT (.node x y a p q)+2<=big):=hl
  have HC:Hid (∀W,Calls Tryz.prog f #[u] W fun e w'=>e=.returned (.int .i64 ((Zbs a - 1:Nat):Int))/\Below W.heap.size W w'):=hc
  have HTG:Hid (1<=Zbs a):=hid (by unfold Zbs;split <;> (try split) <;> (try split) <;> omega)
  have HCL:Hid ((ZD (.node x y a p q) 1).length+2<=wT (.node x y a p q)):=hid (by
   rw[ZdI]
   exact Zj6 hwf.2.2.2.2.2.1 (fun m=>Zfy p m hwf.2.2.2.2.2.2.2.2.2.2.1) (fun m=>Zfy q m hwf.2.2.2.2.2.2.2.2.2.2.2))
  clear hc hp hw ht hB hl
  go_enter Tryz.func131,Tryz.ntmps131
  go_wp2_with fail
  refine(HC.out w).mono ?_
  rintro e w1 ⟨rfl,hb1⟩
  have HP1:Hid (Zd w1 (.node x y a p q) (.iface ty u)):=HP.below hb1
  have HW1:Hid (WB w1 B b l):=HW.below hb1
  have HK1:Hid (WK B b w w1):=WK.below hb1 HW.le
  have HT1:Hid (Zx w1):=HT.low HK1.low HB.out
  clear hb1 hm hcf
  obtain⟨rk,hrk⟩:∃rk,rk=Zbs a - 1:=⟨_,rfl⟩
  rw[<-hrk]
  by_cases hge:(j:Int)<=rk
  ·have HX:Hid (ZD (.node x y a p q) (j+1)=ZD (.node x y a p q) 1):=hid (by
    rw[ZdI]
    show ZfI (decide (Zbs a<j+1)) _=_
    rw[decide_eq_false (by have:=HTG.out;omega)];rfl)
   clear hrk
   go_wp2_with fail
   refine(h w1 _ B b l HP1.out HW1.out HT1.out HB.out (by have:=HL.out;omega)).mono ?_
   rintro e w2 ⟨rfl,HW2,HK2'⟩
   have HK2:Hid (WK B b w w2):=HK1.trans HK2'.out
   clear HK2'
   go_wp2
   exact bodyPost_ret (v:=.tuple #[]) (results_none rfl _ _ _) rfl ⟨rfl,by rw[HX.out];exact HW2,HK2⟩
  ·have HX:Hid (ZD (.node x y a p q) (j+1)=[40]++ZD (.node x y a p q) 1++[41]):=hid (by
    rw[ZdI]
    show ZfI (decide (Zbs a<j+1)) _=_
    rw[decide_eq_true (by have:=HTG.out;omega)];rfl)
   clear hrk
   go_wp2_with fail
   refine(ZcR HW1.out ⟨#[40]⟩ (by have h1:=HL.out;have h2:=HCL.out;show _+1<=_;omega)).mono ?_
   rintro e w2 ⟨rfl,HW2,HK2'⟩
   have HK2:Hid (WK B b w w2):=HK1.trans HK2'.out
   have HP2:Hid (Zd w2 (.node x y a p q) (.iface ty u)):=hid (Zd.wrote HW1.out HK2'.out HP1.out)
   have HT2:Hid (Zx w2):=HT.low HK2.low HB.out
   clear HK2' HP1 HW1 HK1 HT1
   go_wp2_with fail
   refine(h w2 _ B b _ HP2.out HW2.out HT2.out HB.out (by rw[List.length_append,Ze];have h1:=HL.out;show _+1+_<=_;omega)).mono ?_
   rintro e w3 ⟨rfl,HW3,HK3'⟩
   have HK3:Hid (WK B b w w3):=HK2.trans HK3'.out
   clear HK3' HP2 HW2 HK2 HT2
   go_wp2_with fail
   refine(ZcR HW3.out ⟨#[41]⟩ (by simp only[List.length_append,Ze];have h1:=HL.out;have h2:=HCL.out;show _+1+_+1<=_;omega)).mono ?_
   rintro e w4 ⟨rfl,HW4,HK4'⟩
   have HK4:Hid (WK B b w w4):=HK3.trans HK4'.out
   have HW5:Hid (WB w4 B b (l++ZD (.node x y a p q) (j+1))):=hid (by
    rw[HX.out];have:=HW4.out;simp only[List.append_assoc]at this ⊢;exact this)
   clear HK4' HW4
   go_wp2
   go_end0
   exact⟨rfl,HW5,HK4⟩
attribute [local go_sem ↓] Go.wp_at_zero Go.wp_at_succ
attribute [local go_sem] ZgC ZhV ZhW ZhU ZhX ZgD ZgA Zgz ZhS ZhR ZhT ZgB ZfL ZfK ZfM ZhY ZhZ ZgE Zgw Zgv Zgx Zgu ZhQ Zgy ZgM ZgL ZgN ZgK ZgP ZgO ZgH ZgG ZgI ZgF ZgJ ZfN
theorem ZoE{a:Nd}(h:a.kind=0)(pl pr:Nat->List UInt8):Zcd a pl pr=decS a.n.toNat:=by unfold Zcd;rw[if_pos h]
theorem ZoF{a:Nd}(h:a.kind=1)(pl pr:Nat->List UInt8):Zcd a pl pr=selS a:=by unfold Zcd;rw[if_neg (by omega),if_pos h]
theorem ZoG{a:Nd}(h:a.kind=2)(pl pr:Nat->List UInt8):Zcd a pl pr=ZbF.getD a.op []++[40]++selS a++[91]++decS a.n.toNat++[93,41]:=by unfold Zcd;rw[if_neg (by omega),if_neg (by omega),if_pos h]
theorem ZoD{a:Nd}(h:a.kind=3)(pl pr:Nat->List UInt8):Zcd a pl pr=[45]++pl 4:=by unfold Zcd;rw[if_neg (by omega),if_neg (by omega),if_neg (by omega),if_pos h]
theorem ZoC{a:Nd}(h:a.kind=5)(pl pr:Nat->List UInt8):Zcd a pl pr=Zbp.getD a.op []++[32,98,121,32,40]++commas a.by_++[41,32,40]++pl 1++[41]:=by unfold Zcd;rw[if_neg (by omega),if_neg (by omega),if_neg (by omega),if_neg (by omega),if_pos h]
theorem Zkf{n:Int}(h:n<=1000000000):(decS n.toNat).length<=10:=by
 refine Zid 9 _ ?_
 have h1:n.toNat<=1000000000:=by omega
 have h2:(10:Nat) ^ 10=10000000000:=by decide
 omega
theorem Zwc{x y:Nat}{a:Nd}{p q:Tr}(hwf:wfT (.node x y a p q))(hk:a.kind=0)(w:World)(B b:Nat)(l:List UInt8)(hw:WB w B b l)(ht:Zx w)(hB:20<=B)(hl:l.length+wT (.node x y a p q)<=big) :
  Calls Tryz.prog 72 #[.pointer (some ⟨b,0,none⟩),.iface 270 (.agg #[.int .i64 a.n])] w fun e w'=>e=.returned (.tuple #[])/\Hid (WB w' B b (l++ZD (.node x y a p q) 1))/\Hid (WK B b w w'):=by
 have HX:Hid (ZD (.node x y a p q) 1=decS a.n.toNat):=hid (by rw[ZdI,ZoE hk])
 have HW:Hid (WB w B b l):=hw
 have HT:Hid (Zx w):=ht
 have HB:Hid (20<=B):=hB
 have HN:Hid (0<=a.n/\a.n<=1000000000):=⟨hwf.2.2.2.2.1,hwf.2.2.2.2.2.1⟩
 have HL:Hid (l.length+24<=big):=hid (by have h1:ownW a+wT p+wT q=wT (.node x y a p q):=rfl;unfold ownW at h1;omega)
 obtain⟨n,hn⟩:∃n,n=a.n:=⟨_,rfl⟩
 rw[<-hn]at HN HX ⊢
 clear hw ht hB hl hwf hk hn
 go_enter Tryz.func72,Tryz.ntmps72
 go_wp2_with fail
 refine Zn fun W hW=>?_
 have hbW:Below w.heap.size w W:=by rw[hW];exact Zbal
 have HWW:Hid (WB W B b l):=HW.below hbW
 have HKW:Hid (WK B b w W):=WK.below hbW HW.le
 have HTW:Hid (Zx W):=HT.low HKW.low HB.out
 clear hW hbW
 refine(Zk4 HTW.out n HN.1 HN.2).mono ?_
 rintro e w1 ⟨s,rfl,hs,hb1⟩
 have HW1:Hid (WB w1 B b l):=HWW.below hb1
 have HK1:Hid (WK B b w w1):=HKW.trans (WK.below hb1 HWW.le)
 clear hb1
 go_wp2_with fail
 refine(ZcR HW1.out s (by rw[ZO hs.out];have:=Zkf HN.2;have:=HL.out;omega)).mono ?_
 rintro e w2 ⟨rfl,HW2,HK2'⟩
 have HK2:Hid (WK B b w w2):=HK1.trans HK2'.out
 clear HK2'
 go_wp2
 go_end0
 exact⟨rfl,by rw[HX.out,<-hs.out];exact HW2,HK2⟩
theorem Zwe{x y:Nat}{a:Nd}{p q:Tr}(hk:a.kind=1)(nm:ByteArray)(la:Option Addr)(ln lc:Nat)(w:World)(hnm:bl nm=a.name)(hc:ZA w (.slice la ln lc) a.conds)(B b:Nat)(l:List UInt8)(hw:WB w B b l)(hl:l.length+wT (.node x y a p q)<=big) :
  Calls Tryz.prog 72 #[.pointer (some ⟨b,0,none⟩),.iface 281 (.agg #[.string nm,.slice la ln lc])] w fun e w'=>e=.returned (.tuple #[])/\Hid (WB w' B b (l++ZD (.node x y a p q) 1))/\Hid (WK B b w w'):=by
 have HX:Hid (ZD (.node x y a p q) 1=selS a):=hid (by rw[ZdI,ZoF hk])
 have HW:Hid (WB w B b l):=hw
 have HNM:Hid (bl nm=a.name):=hnm
 have HC:Hid (ZA w (.slice la ln lc) a.conds):=hc
 have HL:Hid (l.length+a.name.length+cw a.conds+10<=big):=hid (by have h1:ownW a+wT p+wT q=wT (.node x y a p q):=rfl;unfold ownW at h1;omega)
 clear hw hl hk hnm hc
 go_enter Tryz.func72,Tryz.ntmps72
 go_wp2_with fail
 refine Zn fun W hW=>?_
 have hbW:Below w.heap.size w W:=by rw[hW];exact Zbal
 have HWW:Hid (WB W B b l):=HW.below hbW
 have HKW:Hid (WK B b w W):=WK.below hbW HW.le
 have HCW:Hid (ZA W (.slice la ln lc) a.conds):=HC.below hbW
 clear hW hbW
 refine(Zno HWW.out nm la ln lc a HNM.out HCW.out HL.out).mono ?_
 rintro e w2 ⟨rfl,HW2,HK2'⟩
 have HK2:Hid (WK B b w w2):=HKW.trans HK2'.out
 clear HK2'
 go_wp2
 go_end0
 exact⟨rfl,by rw[HX.out];exact HW2,HK2⟩
theorem Zwf{x y:Nat}{a:Nd}{p q:Tr}(hwf:wfT (.node x y a p q))(hk:a.kind=2)(wd nm:ByteArray)(la:Option Addr)(ln lc:Nat)(w:World)(hwd:bl wd=ZbF.getD a.op [])(hnm:bl nm=a.name)(hc:ZA w (.slice la ln lc) a.conds)(B b:Nat)(l:List UInt8)(hw:WB w B b l)(ht:Zx w)(hB:20<=B)(hl:l.length+wT (.node x y a p q)<=big) :
  Calls Tryz.prog 72 #[.pointer (some ⟨b,0,none⟩),.iface 283 (.agg #[.string wd,.string nm,.slice la ln lc,.int .i64 a.n])] w fun e w'=>e=.returned (.tuple #[])/\Hid (WB w' B b (l++ZD (.node x y a p q) 1))/\Hid (WK B b w w'):=by
 have HX:Hid (ZD (.node x y a p q) 1=bl wd++[40]++selS a++[91]++decS a.n.toNat++[93,41]):=hid (by rw[ZdI,ZoG hk,hwd])
 have HW:Hid (WB w B b l):=hw
 have HT:Hid (Zx w):=ht
 have HB:Hid (20<=B):=hB
 have HN:Hid (0<=a.n/\a.n<=1000000000):=⟨hwf.2.2.2.2.1,hwf.2.2.2.2.2.1⟩
 have HNM:Hid (bl nm=a.name):=hnm
 have HC:Hid (ZA w (.slice la ln lc) a.conds):=hc
 have hwl:wd.size<=5:=by rw[ZO hwd];exact ZfX ZbF (by decide) a.op
 have HL:Hid (l.length+a.name.length+cw a.conds+24<=big):=hid (by have h1:ownW a+wT p+wT q=wT (.node x y a p q):=rfl;unfold ownW at h1;omega)
 have HSL:Hid ((selS a).length<=a.name.length+cw a.conds+2):=hid (Zmx a)
 obtain⟨n,hn⟩:∃n,n=a.n:=⟨_,rfl⟩
 rw[<-hn]at HN HX ⊢
 have a1:∀W,(Op.stringOp .add wd ⟨#[40]⟩).run Tryz.prog W=.ok (.string (wd++⟨#[40]⟩)) W:=fun W=>run_string_add_sum W _ _ (by show wd.size+1<=_;omega)
 have HS1:Hid ((wd++⟨#[40]⟩:ByteArray).size=wd.size+1):=hid (by rw[ByteArray.size_append];rfl)
 clear hw ht hB hl hwf hk hn hwd hnm hc
 go_enter Tryz.func72,Tryz.ntmps72
 go_upto_region 20 with fail
 refine ZK fun W hW=>?_
 have hbW:Below w.heap.size w W:=by rw[hW];exact Zbal
 have HP0:Hid (BAt W w.heap.size [.string wd,.string nm,.slice la ln lc,.int .i64 n] 283):=hid (by rw[hW];exact Go.Deep.blk_alloc_new _ _)
 have HWW:Hid (WB W B b l):=HW.below hbW
 have HKW:Hid (WK B b w W):=WK.below hbW HW.le
 have HCW:Hid (ZA W (.slice la ln lc) a.conds):=HC.below hbW
 clear hW hbW
 have p0:=HP0.cell 0
 simp only[List.getElem?_cons_zero]at p0
 go_wp2_with fail
 refine(ZcR HWW.out _ (by rw[HS1.out];have:=HL.out;omega)).mono ?_
 rintro e w1 ⟨rfl,HW1,HK1'⟩
 have HK1:Hid (WK B b w w1):=HKW.trans HK1'.out
 have HP1:=hid (WK.bat HWW.out HK1'.out HP0.out (by decide) (by decide))
 have HC1:Hid (ZA w1 (.slice la ln lc) a.conds):=hid (HCW.wrote HWW.out HK1'.out)
 clear HK1' p0 HP0 HWW HKW HCW
 have p1:=HP1.cell 1
 have p2:=HP1.cell 2
 simp only[Zget]at p1 p2
 go_wp2_with fail
 refine(Zno HW1.out nm la ln lc a HNM.out HC1.out (by rw[List.length_append,Ze,HS1.out];have:=HL.out;omega)).mono ?_
 rintro e w2 ⟨rfl,HW2,HK2'⟩
 have HK2:Hid (WK B b w w2):=HK1.trans HK2'.out
 have HP2:=hid (WK.bat HW1.out HK2'.out HP1.out (by decide) (by decide))
 have HT2:Hid (Zx w2):=HT.low HK2.low HB.out
 clear HK2' p1 p2 HP1 HW1 HK1 HC1
 have p3:=HP2.cell 3
 simp only[Zget]at p3
 go_wp2_with fail
 refine(Zk4 HT2.out n HN.1 HN.2).mono ?_
 rintro e w3 ⟨s,rfl,hs,hb3⟩
 have HW3:=hid (HW2.below hb3)
 have HK3:Hid (WK B b w w3):=HK2.trans (WK.below hb3 HW2.le)
 have hss:s.size<=10:=by rw[ZO hs.out];exact Zkf HN.2
 have b1:∀W,(Op.stringOp .add ⟨#[91]⟩ s).run Tryz.prog W=.ok (.string (⟨#[91]⟩++s)) W:=fun W=>run_string_add_sum W _ _ (by show 1+s.size<=_;omega)
 have HS2:Hid ((⟨#[91]⟩++s:ByteArray).size=1+s.size):=hid (by rw[ByteArray.size_append];rfl)
 have b2:∀W,(Op.stringOp .add (⟨#[91]⟩++s) ⟨#[93,41]⟩).run Tryz.prog W=.ok (.string ((⟨#[91]⟩++s)++⟨#[93,41]⟩)) W:=fun W=>run_string_add_sum W _ _ (by rw[HS2.out];show _+2<=_;omega)
 have HS3:Hid (((⟨#[91]⟩++s)++⟨#[93,41]⟩:ByteArray).size=1+s.size+2):=hid (by rw[ByteArray.size_append,HS2.out];rfl)
 clear hb3 p3 HW2 HK2 HT2
 go_wp2_with fail
 refine(ZcR HW3.out _ (by rw[HS3.out];simp only[List.length_append,Ze];rw[HS1.out];have:=HL.out;have:=HSL.out;omega)).mono ?_
 rintro e w4 ⟨rfl,HW4,HK4'⟩
 have HK4:Hid (WK B b w w4):=HK3.trans HK4'.out
 have HW5:Hid (WB w4 B b (l++ZD (.node x y a p q) 1)):=hid (by
  rw[HX.out,<-hs.out]
  have:=HW4.out
  rw[Zcs,Zcs,Zcs]at this
  simp only[List.append_assoc]at this ⊢
  exact this)
 clear HK4' HW4
 go_wp2
 go_end0
 exact⟨rfl,HW5,HK4⟩
theorem Zwb{x y:Nat}{a:Nd}{p q:Tr}(hk:a.kind=3)(ih:WW p)(w:World)(z:Value)(hz:Zd w p z)(B b:Nat)(l:List UInt8)(hw:WB w B b l)(ht:Zx w)(hB:20<=B)(hl:l.length+wT (.node x y a p q)<=big) :
  Calls Tryz.prog 72 #[.pointer (some ⟨b,0,none⟩),.iface 272 (.agg #[z])] w fun e w'=>e=.returned (.tuple #[])/\Hid (WB w' B b (l++ZD (.node x y a p q) 1))/\Hid (WK B b w w'):=by
 have HX:Hid (ZD (.node x y a p q) 1=[45]++ZD p 4):=hid (by rw[ZdI,ZoD hk])
 have HW:Hid (WB w B b l):=hw
 have HT:Hid (Zx w):=ht
 have HB:Hid (20<=B):=hB
 have HL:Hid (l.length+24+wT p<=big):=hid (by have h1:ownW a+wT p+wT q=wT (.node x y a p q):=rfl;unfold ownW at h1;omega)
 have HZ:Hid (Zd w p z):=hz
 obtain⟨ty,u,hsh⟩:=Zd.shape hz
 subst hsh
 clear hw ht hB hl hk hz
 go_enter Tryz.func72,Tryz.ntmps72
 go_upto_region 6 with fail
 refine ZK fun W hW=>?_
 have hbW:Below w.heap.size w W:=by rw[hW];exact Zbal
 have HP0:Hid (BAt W w.heap.size [.iface ty u] 272):=hid (by rw[hW];exact Go.Deep.blk_alloc_new _ _)
 have HWW:Hid (WB W B b l):=HW.below hbW
 have HKW:Hid (WK B b w W):=WK.below hbW HW.le
 have HZW:Hid (Zd W p (.iface ty u)):=HZ.below hbW
 clear hW hbW
 go_wp2_with fail
 refine(ZcR HWW.out ⟨#[45]⟩ (by have:=HL.out;show _+1<=_;omega)).mono ?_
 rintro e w1 ⟨rfl,HW1,HK1'⟩
 have HK1:Hid (WK B b w w1):=HKW.trans HK1'.out
 have HP1:=hid (WK.bat HWW.out HK1'.out HP0.out (by decide) (by decide))
 have HZ1:Hid (Zd w1 p (.iface ty u)):=hid (Zd.wrote HWW.out HK1'.out HZW.out)
 have HT1:Hid (Zx w1):=HT.low HK1.low HB.out
 clear HK1' HP0 HWW HKW HZW
 have p0:=HP1.cell 0
 simp only[List.getElem?_cons_zero]at p0
 go_wp2_with fail
 refine(ih w1 _ B b _ 3 HZ1.out HW1.out HT1.out HB.out (by rw[List.length_append,Ze];have:=HL.out;show _+1+_+2<=_;omega)).mono ?_
 rintro e w2 ⟨rfl,HW2,HK2'⟩
 have HK2:Hid (WK B b w w2):=HK1.trans HK2'.out
 have HW3:Hid (WB w2 B b (l++ZD (.node x y a p q) 1)):=hid (by rw[HX.out,<-List.append_assoc];exact HW2.out)
 clear HK2' HW2
 go_wp2
 go_end0
 exact⟨rfl,HW3,HK2⟩
end Go.Proofs.YtkodhpilkaihjaaGreatDoor

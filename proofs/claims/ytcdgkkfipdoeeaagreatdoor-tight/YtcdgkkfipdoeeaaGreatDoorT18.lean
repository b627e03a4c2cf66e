/- Parts. -/
import Derived.Test.YtcdgkkfipdoeeaaGreatDoorT16
import Derived.Test.YtcdgkkfipdoeeaaGreatDoorT17
import Derived.Test.YtcdgkkfipdoeeaaGreatDoorT06
set_option linter.unusedSimpArgs false
set_option maxRecDepth 100000
set_option maxHeartbeats 8000000
namespace Go.Proofs.YtcdgkkfipdoeeaaGreatDoor
open Go.RowKit LS
theorem Zzh (l : List Int) (x : Int) (hl : l.length <= 10000) (hx : ∀ y ∈ l, vOk y) (hv : vOk x) (t0 t1 t2 t3 t4 t5 : Int) (ht : talC l = [.int .i64 t0, .int .i64 t1, .int .i64 t2, .int .i64 t3, .int .i64 t4, .int .i64 t5]) (w : World) : Calls Tryz.prog 206 #[.agg #[.int .i64 t0, .int .i64 t1, .int .i64 t2, .int .i64 t3, .int .i64 t4, .int .i64 t5], .int .i64 x] w fun e w' => ∃ r0 r1 r2 r3 r4 r5 : Int, e = .returned (.agg #[.int .i64 r0, .int .i64 r1, .int .i64 r2, .int .i64 r3, .int .i64 r4, .int .i64 r5]) /\ Hid (talC (l ++ [x]) = [.int .i64 r0, .int .i64 r1, .int .i64 r2, .int .i64 r3, .int .i64 r4, .int .i64 r5]) /\ Below w.heap.size w w' := by
  have h:=ZpZ l x hl hx hv w
  unfold talV at h
  rw[ht]at h
  refine h.mono ?_
  rintro e w' ⟨rfl,hb⟩
  exact⟨_,_,_,_,_,_,rfl,hid rfl,hb⟩
theorem ZpX (op : Nat) (hop : op <= 4) (l : List Int) (hl : l.length <= 10000) (hx : ∀ y ∈ l, vOk y) (t0 t1 t2 t3 t4 t5 : Int) (ht : talC l = [.int .i64 t0, .int .i64 t1, .int .i64 t2, .int .i64 t3, .int .i64 t4, .int .i64 t5]) (w : World) : Calls Tryz.prog 207 #[.agg #[.int .i64 t0, .int .i64 t1, .int .i64 t2, .int .i64 t3, .int .i64 t4, .int .i64 t5], .int .i64 op] w fun e w' => e = .returned (.int .i64 (cutV (Zek op l))) /\ Below w.heap.size w w' := by
  have h:=Zy4 op hop l hl hx w
  unfold talV at h
  rw[ht]at h
  exact h
def set6(w:World)(a:Nat)(x0 x1 x2 x3 x4 x5:Value):World:=(((((w.setCell ⟨a,0,none⟩ x0).setCell ⟨a,1,none⟩ x1).setCell ⟨a,2,none⟩ x2).setCell ⟨a,3,none⟩ x3).setCell ⟨a,4,none⟩ x4).setCell ⟨a,5,none⟩ x5
theorem Zxx{w:World}{a:Nat}{p0 p1 p2 p3 p4 p5 x0 x1 x2 x3 x4 x5:Value}{t:TypeId}(h:BAt w a [p0,p1,p2,p3,p4,p5] t):BAt (set6 w a x0 x1 x2 x3 x4 x5) a [x0,x1,x2,x3,x4,x5] t:=by
 unfold BAt at h
 unfold BAt set6
 simp only[World.setCell,Array.getElem?_modify,h,if_true,Option.map_some];rfl
theorem Zxy{w:World}{B a:Nat}(hB:B<=a)(x0 x1 x2 x3 x4 x5:Value):Below B w (set6 w a x0 x1 x2 x3 x4 x5):=by
 unfold set6
 exact((((((Below.refl B w).setCell (p:=⟨a,0,none⟩) hB _).setCell (p:=⟨a,1,none⟩) hB _).setCell (p:=⟨a,2,none⟩) hB _).setCell (p:=⟨a,3,none⟩) hB _).setCell (p:=⟨a,4,none⟩) hB _).setCell (p:=⟨a,5,none⟩) hB _
theorem Zxz{w:World}{a b:Nat}{c:List Value}{t:TypeId}(h:BAt w b c t)(hb:b≠a)(x0 x1 x2 x3 x4 x5:Value):BAt (set6 w a x0 x1 x2 x3 x4 x5) b c t:=by
 unfold set6
 exact(((((h.other (p:=⟨a,0,none⟩) hb _).other (p:=⟨a,1,none⟩) hb _).other (p:=⟨a,2,none⟩) hb _).other (p:=⟨a,3,none⟩) hb _).other (p:=⟨a,4,none⟩) hb _).other (p:=⟨a,5,none⟩) hb _
theorem Zhi(l:List Int):∃t0 t1 t2 t3 t4 t5:Int,talC l=[.int .i64 t0,.int .i64 t1,.int .i64 t2,.int .i64 t3,.int .i64 t4,.int .i64 t5]:=⟨_,_,_,_,_,_,rfl⟩
theorem Zwr(op:Nat)(hop:op<=4)(rv:Value)(rs:List Str)(st:List Ser)(nd:Nd)(n t:Int)(w:World)(hr:RngV w rv rs)(hm:rs.map Str.pr=Zbx st nd n t)(hds:Dst st)(hrl:rs.length<=30) :
  Calls Tryz.prog 159 #[.int .i64 op,rv] w fun e w'=>∃v is,e=.returned v/\Hid (VecV w' v (ZdV st nd (some op) n t) is)/\Below w.heap.size w w':=by
 obtain⟨i0,hi,hz0,hz1,hz2⟩:=info_parts Tryz.infoItem
 obtain⟨ra,rcp,rfl⟩:=Zv hr.row
 have HR:Hid (RngV w (.slice ra rs.length rcp) rs):=hr
 have HM:Hid (rs.map Str.pr=Zbx st nd n t/\Dst st):=⟨hm,hds⟩
 clear hr hm hds
 go_enter Tryz.func159,Tryz.ntmps159
 go_wp2_with (at_make;refine wpList_make_own _ rfl _ _ 283 rfl w.heap.size 286 i0 _ 3 Tryz.underlying283 hi hz0 hz1 _ _ _ rs.length rfl rfl rfl ?b2 ?b3 ?b4 ?_)
 case b2=>rw[hz2];omega
 case b3=>unfold maxLen;omega
 case b4=>exact Nat.le_refl _
 intro w1 hown1 hgrow1
 have HB1:Hid (Below w.heap.size w w1):=hid ((Below.refl _ _).grown hgrow1 (Nat.le_refl _) (fun q hq=>by cases hq))
 have HR1:=hid (HR.below HB1.out)
 clear hgrow1
 go_wp2
 go_loopw [5, 16] (fun v i wr => ∃ k : Nat, k <= rs.length /\ i = .int .i64 k /\ wr.ownsRow w.heap.size 286 3 v k (encs (itms (some op) (rs.take k))) /\ Hid (RngV wr (.slice ra rs.length rcp) rs) /\ Hid (Below w.heap.size w wr))
   (fun _ i _=>rs.length - (intOf i).toNat)
 case atStart=>exact⟨0,Nat.zero_le _,rfl,hown1,HR1,HB1⟩
 case round=>
  rename World=>wo
  obtain⟨k,hk,rfl,hown,HRr,HB⟩:=hrel
  have hwr:=HB.size
  by_cases hlt:k<rs.length
  ·have hg:∃g,ra=some ⟨g,0,none⟩:=by
    obtain⟨g,cp',h⟩:=ZW HRr.row (by omega)
    injection h with h1;exact⟨g,h1⟩
   obtain⟨g,rfl⟩:=hg
   obtain⟨f1,f2,f3⟩:=ZmQ rs k hlt
   have d1:=Zr HRr.row _ _ f1
   have d2:=Zr HRr.row _ _ f2
   have d3:=Zr HRr.row _ _ f3
   have HSO:Hid (StrOk wo rs[k]):=hid (HRr.ok _ (List.getElem_mem hlt))
   have HTK:Hid (itms (some op) (rs.take (k+1))=itms (some op) (rs.take k)++[(rs[k]).itm (oneV (some op) (rs[k]).sams)]):=hid (by
    rw[List.take_succ_eq_append_getElem hlt];unfold itms;rw[List.map_append];rfl)
   generalize rs[k]=s at *
   clear f1 f2 f3
   have hkz:(k:Int)<(rs.length:Int):=by omega
   obtain⟨sg,soff,hsa,hsam⟩:=HSO.sam.resolve_left HSO.ne
   have hsl:=HSO.len
   rw[hsa]at d3
   have hsgl:sg<wo.heap.size:=by
    have hj:0<s.sams.length:=List.length_pos_iff.2 HSO.ne
    exact World.block_lt_of_cell? _ _ (hsam.cells 0 hj).1
   have HSM:Hid (Zhs wo sg soff s.sams):=hsam
   clear hsam hsa
   obtain⟨sn,hsn⟩:∃sn,s.sams.length=sn:=⟨_,rfl⟩
   have HSN:Hid (s.sams.length=sn):=hsn
   rw[hsn]at d3 hsl
   clear hsn
   go_wp2
   go_loopw [23] (fun i wi => ∃ j : Nat, j <= sn /\ i = .int .i64 j /\ Hid (Below wo.heap.size wo wi) /\ Hid (BAt wi wo.heap.size [.slice s.a s.n s.c, .string s.tx, .slice (some ⟨sg, soff, none⟩) sn s.sc] 356) /\ Hid (BAt wi (wo.heap.size + 1) (talC ((s.sams.take j).map (·.2))) 349))
     (fun i _=>sn - (intOf i).toNat)
   case atStart=>
    refine⟨0,Nat.zero_le _,rfl,hid (Zbal.alloc (by simp) _),hid ?_,hid ?_⟩
    ·exact(Zbal.block _ (by simp)).trans (Go.Deep.blk_alloc_new _ _)
    ·have:=Go.Deep.blk_alloc_new (wo.alloc (.cells #[.slice s.a s.n s.c,.string s.tx,.slice (some ⟨sg,soff,none⟩) sn s.sc] 356)) (.cells #[.int .i64 0,.int .i64 0,.int .i64 0,.int .i64 0,.int .i64 0,.int .i64 0] 349)
     rw[Go.Deep.nblk_alloc]at this
     exact this
   case round=>
    obtain⟨j,hj,rfl,HBi,HX,HT⟩:=hrel
    have hwi:=HBi.size
    have hwx:=HX.lt
    have hwt:=HT.lt
    by_cases hjl:j<sn
    ·have hjs:j<s.sams.length:=by rw[HSN.out];exact hjl
     obtain⟨m1,m2⟩:=HSM.cells j hjs
     have m1':=(Zs.below HBi.out).cell m1
     have m2':=(Zs.below HBi.out).cell m2
     have HOKX:Hid (vOk (s.sams[j]).2):=hid (HSO.ok _ (List.getElem_mem hjs)).2.2
     have HTJ:Hid ((s.sams.take (j+1)).map (·.2)=(s.sams.take j).map (·.2)++[(s.sams[j]).2]):=hid (by rw[List.take_succ_eq_append_getElem hjs,List.map_append];rfl)
     have HLL : Hid (((s.sams.take j).map (·.2)).length <= 10000 /\ ∀ y ∈ (s.sams.take j).map (·.2), vOk y) := hid ⟨by rw [List.length_map, List.length_take]; omega, fun y hy => by
       obtain⟨z,hz,rfl⟩:=List.mem_map.1 hy
       exact(HSO.ok z (List.mem_of_mem_take hz)).2.2⟩
     generalize(s.sams[j]).1=x1 at *
     generalize(s.sams[j]).2=x2 at *
     clear m1 m2
     obtain⟨t0,t1,t2,t3,t4,t5,htal⟩:=Zhi ((s.sams.take j).map (·.2))
     rw[htal]at HT
     have HTL:Hid (talC ((s.sams.take j).map (·.2))=[.int .i64 t0,.int .i64 t1,.int .i64 t2,.int .i64 t3,.int .i64 t4,.int .i64 t5]):=htal
     clear htal
     have c0:=HT.cell 0
     have c1:=HT.cell 1
     have c2:=HT.cell 2
     have c3:=HT.cell 3
     have c4:=HT.cell 4
     have c5:=HT.cell 5
     simp only[Zget]at c0 c1 c2 c3 c4 c5
     have hjz:(j:Int)<(sn:Int):=by omega
     go_wp2_with fail
     refine ZK fun W hW=>?_
     have hbW:Below wr.heap.size wr W:=by rw[hW];exact Zbal
     have HTW:=hid (HT.below hbW)
     have HXW:=hid (HX.below hbW)
     have HBW:Hid (Below wo.heap.size wo W):=hid (HBi.trans (hbW.mono hwi))
     clear hW hbW c0 c1 c2 c3 c4 c5 HT HX HBi m1' m2'
     refine(Zzh _ x2 HLL.1 HLL.2 HOKX.out t0 t1 t2 t3 t4 t5 HTL.out _).mono ?_
     rintro e w5 ⟨r0,r1,r2,r3,r4,r5,rfl,HRT,hb5⟩
     have HT5:=hid (HTW.below hb5)
     have HX5:=hid (HXW.below hb5)
     have HB5:Hid (Below wo.heap.size wo w5):=hid (HBW.trans (hb5.mono HBW.size))
     clear hb5 HTW HXW HBW HTL HLL HOKX
     have z0:=HT5.frozen 0
     have z1:=HT5.frozen 1
     have z2:=HT5.frozen 2
     have z3:=HT5.frozen 3
     have z4:=HT5.frozen 4
     have z5:=HT5.frozen 5
     have c0:=HT5.cell 0
     have c1:=HT5.cell 1
     have c2:=HT5.cell 2
     have c3:=HT5.cell 3
     have c4:=HT5.cell 4
     have c5:=HT5.cell 5
     simp only[Zget]at c0 c1 c2 c3 c4 c5
     go_wp2
     go_roundw
     case rel=>
      refine⟨j+1,by omega,by go_num,hid (HB5.trans (Zxy (by omega) _ _ _ _ _ _)),hid (Zxz HX5.out (by omega) _ _ _ _ _ _),hid ?_⟩
      rw[HTJ.out,HRT.out]
      exact Zxx HT5.out
     case measure=>simp[intOf];omega
    ·obtain rfl:j=sn:=by omega
     have htake:s.sams.take j=s.sams:=by rw[<-HSN.out,List.take_length]
     rw[htake]at HT
     obtain⟨t0,t1,t2,t3,t4,t5,htal⟩:=Zhi (s.sams.map (·.2))
     rw[htal]at HT
     have HTL:Hid (talC (s.sams.map (·.2))=[.int .i64 t0,.int .i64 t1,.int .i64 t2,.int .i64 t3,.int .i64 t4,.int .i64 t5]):=htal
     have HLL : Hid ((s.sams.map (·.2)).length <= 10000 /\ ∀ y ∈ s.sams.map (·.2), vOk y) := hid ⟨by rw [List.length_map, HSN.out]; omega, fun y hy => by
       obtain⟨z,hz,rfl⟩:=List.mem_map.1 hy
       exact(HSO.ok z hz).2.2⟩
     have HONE:Hid (oneV (some op) s.sams=cutV (Zek op (s.sams.map (·.2)))):=hid rfl
     generalize oneV (some op) s.sams=one at *
     clear htal htake
     have c0:=HT.cell 0
     have c1:=HT.cell 1
     have c2:=HT.cell 2
     have c3:=HT.cell 3
     have c4:=HT.cell 4
     have c5:=HT.cell 5
     have y0:=HX.cell 0
     have y1:=HX.cell 1
     simp only[Zget]at c0 c1 c2 c3 c4 c5 y0 y1
     have hownI:=Zw hown HBi.out
     have HRI:=hid (HRr.below HBi.out)
     have HBI:Hid (Below w.heap.size w wr):=hid (HB.trans (HBi.mono hwr))
     clear hown HRr HB HSM d1 d2 d3
     have hwI:=HBI.size
     go_upto_region 11 with fail
     have HSB:Hid (∀w',BAt w' wo.heap.size [.slice s.a s.n s.c,.string s.tx,.slice (some ⟨sg,soff,none⟩) j s.sc] 356->BAt w' (wo.heap.size+1) [.int .i64 t0,.int .i64 t1,.int .i64 t2,.int .i64 t3,.int .i64 t4,.int .i64 t5] 349->w'.cell? ⟨wo.heap.size,0,none⟩=some (.slice s.a s.n s.c)/\w'.cell? ⟨wo.heap.size,1,none⟩=some (.string s.tx)/\w'.cell? ⟨wo.heap.size+1,0,none⟩=some (.int .i64 t0)/\w'.cell? ⟨wo.heap.size+1,1,none⟩=some (.int .i64 t1)/\w'.cell? ⟨wo.heap.size+1,2,none⟩=some (.int .i64 t2)/\w'.cell? ⟨wo.heap.size+1,3,none⟩=some (.int .i64 t3)/\w'.cell? ⟨wo.heap.size+1,4,none⟩=some (.int .i64 t4)/\w'.cell? ⟨wo.heap.size+1,5,none⟩=some (.int .i64 t5)):=hid (fun w' h1 h2=>⟨h1.cell 0,h1.cell 1,h2.cell 0,h2.cell 1,h2.cell 2,h2.cell 3,h2.cell 4,h2.cell 5⟩)
     refine Zcm 9 (fun w'=>w'.cell? ⟨wo.heap.size,0,none⟩=some (.slice s.a s.n s.c)/\w'.cell? ⟨wo.heap.size,1,none⟩=some (.string s.tx)/\w'.cell? ⟨wo.heap.size+1,0,none⟩=some (.int .i64 t0)/\w'.cell? ⟨wo.heap.size+1,1,none⟩=some (.int .i64 t1)/\w'.cell? ⟨wo.heap.size+1,2,none⟩=some (.int .i64 t2)/\w'.cell? ⟨wo.heap.size+1,3,none⟩=some (.int .i64 t3)/\w'.cell? ⟨wo.heap.size+1,4,none⟩=some (.int .i64 t4)/\w'.cell? ⟨wo.heap.size+1,5,none⟩=some (.int .i64 t5)) (by kernel_rfl) (by exact HSB.out _ HX.out HT.out) (fun hHeld=>?_)
     clear c0 c1 c2 c3 c4 c5 y0 y1
     refine Zd 0 hHeld (h:=?_)
     refine Zd 1 hHeld (h:=?_)
     refine Zd 2 hHeld (h:=?_)
     refine Zd 3 hHeld (h:=?_)
     refine Zd 4 hHeld (h:=?_)
     refine Zbr (i:=5) (by kernel_rfl) rfl (fun K hK=>?_)
     go_simp
     refine(ZpX op hop _ HLL.1 HLL.2 t0 t1 t2 t3 t4 t5 HTL.out _).mono ?_
     rintro e w5 ⟨rfl,hb5⟩
     have HB5:Hid (Below wr.heap.size wr w5):=hid ⟨hb5.os,hb5.tape,hb5.output,hb5.size,hb5.block⟩
     have HT5:=hid (HT.below HB5.out)
     have HX5:=hid (HX.below HB5.out)
     clear hb5
     rw[<-HONE.out]
     go_simp
     refine hK.out _ _ (HSB.out _ HX5.out HT5.out) (fun hHeld=>?_)
     clear hK K
     try simp only[Act.put,Zset]
     refine Zd 6 hHeld (h:=?_)
     refine Zbr (i:=7) (by kernel_rfl) rfl (fun K hK=>?_)
     have HBA:Hid (∀o,Below w5.heap.size w5 (w5.alloc o)):=hid (fun o=>Zbal)
     go_simp
     refine hK.out _ _ (HSB.out _ (HX5.below (HBA.out _)) (HT5.below (HBA.out _))) (fun hHeld=>?_)
     clear hK K
     try simp only[Act.put,Zset]
     refine Zbr (i:=8) (by kernel_rfl) rfl (fun K hK=>?_)
     have hown5:=Zw hownI HB5.out
     have hw5:=HB5.size
     refine Ze3 rfl (.tmp 32) (.tmp 39) 283 rfl w.heap.size 286 i0 _ 3 48 Tryz.underlying283 hi hz0 hz1 hz2 rfl (by decide) _ k (encs (itms (some op) (rs.take k))) (by simp[Act.eval]) (hown5.alloc _) ⟨w5.heap.size,0,none⟩ 1 1 [.slice s.a s.n s.c,.string s.tx,.int .i64 one] (by simp[Act.eval]) rfl ?h2 ?h3 ?h4 ?h5 ?h6 ?_
     case h2=>exact ZdH rfl
     case h3=>intro u hu;simp at hu;rcases hu with rfl|rfl|rfl <;> rfl
     case h4=>unfold maxLen;omega
     case h5=>omega
     case h6=>simp;omega
     intro v6 w6 hown6 hgrow6 _
     have hkb:Z1 286 wr w6:=(Z1.below (HB5.trans ((HBA.out _).mono hw5)) _).trans (Z1.grown hgrow6 (hown5.alloc _))
     have HB6:Hid (Below w.heap.size w w6):=hid ((HBI.trans ((HB5.trans ((HBA.out _).mono hw5)).mono hwI)).grown hgrow6 (by simp;omega) (fun q hq=>(hown5.lt q hq).1))
     have hown7:w6.ownsRow w.heap.size 286 3 v6 (k+1) (encs (itms (some op) (rs.take (k+1)))):=by
      rw[HTK.out,ZgQ];exact hown6
     have HR6:=hid (HRI.kb hkb (by decide) (by decide) (by decide))
     refine hK.out _ _ (HSB.out _ (hkb _ _ _ _ (by decide) HX.out) (hkb _ _ _ _ (by decide) HT.out)) (fun hHeld=>?_)
     clear hK K
     try simp only[Act.put,Zset]
     refine Zcq (by kernel_rfl) (by kernel_rfl) rfl (by kernel_rfl) (fun K hK=>?_)
     go_simp
     refine hK.out _ _ ?_
     clear hK K hgrow6 hown6 hown5 hownI hkb
     go_wp2
     go_roundw
     case rel=>exact⟨k+1,by omega,by go_num,hown7,HR6,HB6⟩
     case measure=>simp[intOf];omega
  ·obtain rfl:k=rs.length:=by omega
   rw[List.take_length]at hown
   have HEL:Hid ((itms (some op) rs).map Itm.el=ZdO st nd (some op) n t):=hid (ZnH (some op) rs _ nd n t HM.1)
   have hlen:(itms (some op) rs).length=rs.length:=by unfold itms;rw[List.length_map]
   rw[<-hlen]at hown
   have HSI := hid (Zlt w.heap.size _ (itms (some op) rs) wo hown hwr (by omega) (fun i hi => by
     unfold itms at hi
     obtain⟨s,hs,rfl⟩:=List.mem_map.1 hi
     exact ZnG (HRr.ok s hs) (ZkT (some op) _ (HRr.ok s hs).ok)) (by rw[HEL.out];exact Zk8 HM.2 nd (some op) n t))
   rw[HEL.out]at HSI
   clear hown
   go_wp2_with fail
   refine HSI.mono ?_
   rintro e w5 ⟨rfl,is',H5⟩
   have HB5:Hid (Below w.heap.size w w5):=hid (HB.trans H5.2)
   have HV5:Hid (VecV w5 _ (ZdV st nd (some op) n t) is'):=hid (by rw[ZlG];exact H5.1)
   go_wp2
   go_ret
   exact⟨_,is',rfl,HV5,HB5.out⟩
def chg(f:Int->Int)(l:List Itm):List Itm:=l.map fun i=>{ i with v:=f i.v }
theorem ZrC (f : Int -> Int) (l : List Itm) : (chg f l).map Itm.el = (l.map Itm.el).map fun e => (e.1, f e.2) := by
  unfold chg;rw[List.map_map,List.map_map];rfl
theorem ZjQ(v:Value)(l:List El)(is:List Itm)(g:Nat)(cb:Array Value)(f:Int->Int)(w:World)(hv:VecV w v l is)(eg:∀args w,(callFunc g args).run Tryz.prog w=.ok (.enter g args) w)
  (hf:∀W,Below w.heap.size w W->∀x,vOk x->Calls Tryz.prog g (#[.int .i64 x]++cb) W fun e w'=>e=.returned (.int .i64 (f x))/\Below W.heap.size W w') (hfo:∀x,vOk x->vOk (f x)) :
  Calls Tryz.prog 196 #[v,.func (.func g) #[] cb] w fun e w'=>∃v' is',e=.returned v'/\Hid (VecV w' v' (l.map fun e=>(e.1,f e.2)) is')/\Below w.heap.size w w':=by
 obtain⟨i0,hi,hz0,hz1,hz2⟩:=info_parts Tryz.infoItem
 obtain⟨ra,rcp,rfl⟩:=Zv hv.row
 have HV:Hid (VecV w (.slice ra is.length rcp) l is):=hv
 have hrl:is.length<=1000:=hv.len
 have HF:Hid (∀W,Below w.heap.size w W->∀x,vOk x->Calls Tryz.prog g (#[.int .i64 x]++cb) W fun e w'=>e=.returned (.int .i64 (f x))/\Below W.heap.size W w'):=hf
 have HFO:Hid (∀x,vOk x->vOk (f x)):=hfo
 clear hv hf hfo
 go_enter Tryz.func196,Tryz.ntmps196
 go_wp2_with (at_make;refine wpList_make_own _ rfl _ _ 284 rfl w.heap.size 286 i0 _ 3 Tryz.underlying284 hi hz0 hz1 _ _ _ is.length rfl rfl rfl ?b2 ?b3 ?b4 ?_)
 case b2=>rw[hz2];omega
 case b3=>unfold maxLen;omega
 case b4=>exact Nat.le_refl _
 intro w1 hown1 hgrow1
 have HB1:Hid (Below w.heap.size w w1):=hid ((Below.refl _ _).grown hgrow1 (Nat.le_refl _) (fun q hq=>by cases hq))
 clear hgrow1
 go_wp2
 go_loopw [5, 13] (fun v i wr => ∃ k : Nat, k <= is.length /\ i = .int .i64 k /\ wr.ownsRow w.heap.size 286 3 v k (encs (chg f (is.take k))) /\ Hid (∀ i ∈ is, ItmOk wr i) /\ Hid (Below w.heap.size w wr))
   (fun _ i _=>is.length - (intOf i).toNat)
 case atStart=>exact⟨0,Nat.zero_le _,rfl,hown1,hid (fun i hi=>(HV.ok i hi).below HB1.out),HB1⟩
 case round=>
  rename World=>wo
  obtain⟨k,hk,rfl,hown,HOK,HB⟩:=hrel
  have hwr:=HB.size
  by_cases hlt:k<is.length
  ·have hg:∃g,ra=some ⟨g,0,none⟩:=by
    obtain⟨g,cp',h⟩:=ZW HV.row (by omega)
    injection h with h1;exact⟨g,h1⟩
   obtain⟨vg,rfl⟩:=hg
   have HVR:=hid (Zw HV.row HB.out)
   obtain⟨f1,f2,f3⟩:=ZeS is k hlt
   have d1:=Zr HVR.out _ _ f1
   have d2:=Zr HVR.out _ _ f2
   have d3:=Zr HVR.out _ _ f3
   have HTK:Hid (chg f (is.take (k+1))=chg f (is.take k)++[{ is[k]with v:=f (is[k]).v }]):=hid (by
    rw[List.take_succ_eq_append_getElem hlt];unfold chg;rw[List.map_append];rfl)
   have HSV:Hid (vOk (is[k]).v):=hid (HOK.out _ (List.getElem_mem hlt)).vok
   generalize is[k]=s at *
   clear f1 f2 f3
   have hkz:(k:Int)<(is.length:Int):=by omega
   go_upto_region 5 with fail
   refine Z9 fun wr hW=>?_
   have hbW:Below wo.heap.size wo wr:=by rw[hW];exact Zbal
   have HX:Hid (BAt wr wo.heap.size [.slice s.a s.n s.c,.string s.tx,.int .i64 s.v] 286):=hid (by rw[hW];exact Go.Deep.blk_alloc_new _ _)
   have HBI:Hid (Below w.heap.size w wr):=hid (HB.trans (hbW.mono hwr))
   have HNE:=hid (fun q hq=>(hown.lt q hq).2)
   have hownI:=Zw hown hbW
   have HOKI:Hid (∀i∈is,ItmOk wr i):=hid (fun i hi=>(HOK.out i hi).below hbW)
   have hwI:=HBI.size
   clear hW hbW hown HB HOK HVR d1 d2 d3
   have HSB:Hid (∀w',BAt w' wo.heap.size [.slice s.a s.n s.c,.string s.tx,.int .i64 s.v] 286->w'.cell? ⟨wo.heap.size,0,none⟩=some (.slice s.a s.n s.c)/\w'.cell? ⟨wo.heap.size,1,none⟩=some (.string s.tx)/\w'.cell? ⟨wo.heap.size,2,none⟩=some (.int .i64 s.v)):=hid (fun w' h1=>⟨h1.cell 0,h1.cell 1,h1.cell 2⟩)
   refine Zcm 10 (fun w'=>w'.cell? ⟨wo.heap.size,0,none⟩=some (.slice s.a s.n s.c)/\w'.cell? ⟨wo.heap.size,1,none⟩=some (.string s.tx)/\w'.cell? ⟨wo.heap.size,2,none⟩=some (.int .i64 s.v)) (by kernel_rfl) (by exact HSB.out _ HX.out) (fun hHeld=>?_)
   refine Zd 0 hHeld (h:=?_)
   refine Zd 1 hHeld (h:=?_)
   refine Zd 2 hHeld (h:=?_)
   refine Zd 3 hHeld (h:=?_)
   refine Zd 4 hHeld (h:=?_)
   refine Zd 5 hHeld (h:=?_)
   refine Zbr (i:=6) (by kernel_rfl) rfl (fun K hK=>?_)
   have HCL:=hid (HF.out wr.drew (by exact⟨HBI.os,HBI.tape,HBI.output,HBI.size,HBI.block⟩) s.v HSV.out)
   go_simp
   refine HCL.mono ?_
   rintro e w5 ⟨rfl,hb5⟩
   have HB5:Hid (Below wr.heap.size wr w5):=hid ⟨hb5.os,hb5.tape,hb5.output,hb5.size,hb5.block⟩
   have HX5:=hid (HX.below HB5.out)
   clear hb5 HCL
   go_simp
   refine hK.out _ _ (HSB.out _ HX5.out) (fun hHeld=>?_)
   clear hK K
   try simp only[Act.put,Zset]
   refine Zd 7 hHeld (h:=?_)
   refine Zbr (i:=8) (by kernel_rfl) rfl (fun K hK=>?_)
   have HBA:Hid (∀o,Below w5.heap.size w5 (w5.alloc o)):=hid (fun o=>Zbal)
   go_simp
   refine hK.out _ _ (HSB.out _ (HX5.below (HBA.out _))) (fun hHeld=>?_)
   clear hK K
   try simp only[Act.put,Zset]
   refine Zbr (i:=9) (by kernel_rfl) rfl (fun K hK=>?_)
   have hown5:=Zw hownI HB5.out
   have hw5:=HB5.size
   refine Ze3 rfl (.tmp 17) (.tmp 25) 284 rfl w.heap.size 286 i0 _ 3 48 Tryz.underlying284 hi hz0 hz1 hz2 rfl (by decide) _ k (encs (chg f (is.take k))) (by simp[Act.eval]) (hown5.alloc _) ⟨w5.heap.size,0,none⟩ 1 1 [.slice s.a s.n s.c,.string s.tx,.int .i64 (f s.v)] (by simp[Act.eval]) rfl ?h2 ?h3 ?h4 ?h5 ?h6 ?_
   case h2=>exact ZdH rfl
   case h3=>intro u hu;simp at hu;rcases hu with rfl|rfl|rfl <;> rfl
   case h4=>unfold maxLen;omega
   case h5=>omega
   case h6=>simp;omega
   intro v6 w6 hown6 hgrow6 hwhere6
   have HNI:Hid (∀i∈is,ItmOk w6 i):=hid (fun i hi=>(HOKI.out i hi).kb ((Z1.below (HB5.trans ((HBA.out _).mono hw5)) _).trans (Z1.grown hgrow6 (hown5.alloc _))) (by decide))
   have HB6:Hid (Below w.heap.size w w6):=hid ((HBI.trans ((HB5.trans ((HBA.out _).mono hw5)).mono hwI)).grown hgrow6 (by simp;omega) (fun q hq=>(hown5.lt q hq).1))
   have hown7:w6.ownsRow w.heap.size 286 3 v6 (k+1) (encs (chg f (is.take (k+1)))):=by
    rw[HTK.out,ZgQ];exact hown6
   have HX6:Hid (BAt w6 wo.heap.size [.slice s.a s.n s.c,.string s.tx,.int .i64 s.v] 286):=hid ((HX5.below (HBA.out _)).grown hgrow6 (fun e=>by have:=HNE.out _ e.symm;omega))
   refine hK.out _ _ (HSB.out _ HX6.out) (fun hHeld=>?_)
   clear hK K
   try simp only[Act.put,Zset]
   refine Zcq (by kernel_rfl) (by kernel_rfl) rfl (by kernel_rfl) (fun K hK=>?_)
   go_simp
   refine hK.out _ _ ?_
   clear hK K hgrow6 hown6 hown5 hownI hwhere6
   go_wp2
   go_roundw
   case rel=>exact⟨k+1,by omega,by go_num,hown7,HNI,HB6⟩
   case measure=>simp[intOf];omega
  ·obtain rfl:k=is.length:=by omega
   rw[List.take_length]at hown
   have hlen:(chg f is).length=is.length:=by unfold chg;rw[List.length_map]
   rw[<-hlen]at hown
   have HVV : Hid (VecV wo _ (l.map fun e => (e.1, f e.2)) (chg f is)) := hid ⟨hown.mono (Nat.zero_le _), by rw [ZrC, HV.els], fun i hi => by
     unfold chg at hi
     obtain⟨j,hj,rfl⟩:=List.mem_map.1 hi
     exact⟨(HOK.out j hj).lb,HFO.out _ (HOK.out j hj).vok⟩,by rw[hlen];exact hrl⟩
   clear hown
   go_wp2
   go_ret
   exact⟨_,_,rfl,HVV,HB.out⟩
theorem Zm3 (x : Itm) (tx : ByteArray) (w : World) : Calls Tryz.prog 255 #[.agg #[.slice x.a x.n x.c, .string x.tx, .int .i64 x.v], .string tx] w fun e w' => e = .returned (.int .i64 (cmpV (bl x.tx) (bl tx))) /\ Below w.heap.size w w' := by
  obtain⟨xa,xn,xc,xt,xq,xv⟩:=x
  simp only
  go_enter Tryz.func255,Tryz.ntmps255
  go_wp2_with fail
  refine(ZfJ _ _ _ _ _).mono ?_
  rintro e w5 ⟨rfl,o5,hw5⟩
  have HB:Hid (Below w.heap.size w w5):=hid (by rw[hw5];exact Zbal.alloc (by simp) _)
  clear hw5
  go_wp2_with (go_at_call 237;refine(Zml _ _ _).mono ?_;rintro e w6 ⟨rfl,rfl⟩)
  go_ret
  exact⟨rfl,HB.out⟩
theorem ZrI{x y:List UInt8}(h:cmpV x y=0):x=y:=by
 unfold cmpV at h
 cases h1:Op.bytesLess x y with
 | true=>rw[h1]at h;simp at h
 | false=>
  cases h2:Op.bytesLess y x with
  | true=>rw[h1,h2]at h;simp at h
  | false=>exact Zdq _ _ h1 h2
theorem ZrH(x:List UInt8):cmpV x x=0:=by unfold cmpV;rw[ZcE];rfl
def TxS(is:List Itm):Prop:=is.Pairwise fun a b=>Op.bytesLess (bl a.tx) (bl b.tx)=true
theorem TxS.mono {is : List Itm} (h : TxS is) {y : List UInt8} {i j : Nat} (hi : i <= j) (hj : j < is.length) (hl : Op.bytesLess (bl is[j].tx) y = true) : Op.bytesLess (bl (is[i]'(by omega)).tx) y = true := by
  rcases Nat.lt_or_ge i j with h1|h1
  · exact ZdG _ _ _ (List.pairwise_iff_getElem.1 h i j (by omega) hj h1) hl
  · obtain rfl:i=j:=by omega
    exact hl
def BsIs(is:List Itm)(y:List UInt8)(k:Nat)(ok:Bool):Prop:=(ok=true/\∃h:k<is.length,bl (is[k]).tx=y)∨(ok=false/\∀i∈is,bl i.tx≠y)
theorem Zl9{is:List Itm}(hs:TxS is){y:List UInt8}{k:Nat}(h1:∀j (h:j<is.length),j<k->Op.bytesLess (bl is[j].tx) y=true)(h2:∀j (h:j<is.length),k<=j->Op.bytesLess (bl is[j].tx) y=false)(h3:∀h:k<is.length,bl (is[k]).tx≠y):∀i∈is,bl i.tx≠y:=by
 intro i hi he
 obtain⟨j,hj,rfl⟩:=List.mem_iff_getElem.1 hi
 rcases Nat.lt_or_ge j k with hjk|hjk
 ·have:=h1 j hj hjk
  rw[he,ZcE]at this
  cases this
 ·rcases Nat.lt_or_ge k j with hk|hk
  ·have e1:=List.pairwise_iff_getElem.1 hs k j (by omega) hj hk
   rw[he,h2 k (by omega) (Nat.le_refl _)]at e1
   cases e1
  ·obtain rfl:k=j:=by omega
   exact h3 hj he
theorem Zrm(v:Value)(is:List Itm)(tx:ByteArray)(w:World)(hrow:w.ownsRow 0 286 3 v is.length (encs is))(hlen:is.length<=1000)(hs:TxS is) :
  Calls Tryz.prog 254 #[v,.string tx,.func (.func 255) #[] #[]] w fun e w'=>∃(k:Nat) (ok:Bool),e=.returned (.tuple #[.int .i64 k,.bool ok])/\Hid (BsIs is (bl tx) k ok)/\Below w.heap.size w w':=by
 obtain⟨ra,rcp,rfl⟩:=Zv hrow
 have HR:Hid (w.ownsRow 0 286 3 (.slice ra is.length rcp) is.length (encs is)):=hrow
 have HS:Hid (TxS is):=hs
 clear hrow hs
 go_enter Tryz.func254,Tryz.ntmps254
 go_wp2
 go_loopg [9,10] is.length (fun kx s5 s6 wr=>∃lo hi:Nat,s5=.int .i64 lo/\s6=.int .i64 hi/\lo<=hi/\hi<=is.length/\hi - lo<=kx/\Hid (Below w.heap.size w wr)/\Hid ((∀j (h:j<is.length),j<lo->Op.bytesLess (bl is[j].tx) (bl tx)=true)/\(∀j (h:j<is.length),hi<=j->Op.bytesLess (bl is[j].tx) (bl tx)=false)))
 case atStart=>exact⟨0,is.length,rfl,rfl,Nat.zero_le _,Nat.le_refl _,by omega,hid (Below.refl _ _),hid ⟨fun j _ h=>absurd h (Nat.not_lt_zero _),fun j h h'=>by omega⟩⟩
 case round=>
  obtain⟨lo,hi,rfl,rfl,hlh,hin,hg,HB,I⟩:=hrel
  by_cases hlt:lo<hi
  ·have hml:(lo+hi) / 2<is.length:=by omega
   have hg:∃g,ra=some ⟨g,0,none⟩:=by
    obtain⟨g,cp',h⟩:=ZW HR.out (by omega)
    injection h with h1;exact⟨g,h1⟩
   obtain⟨g,rfl⟩:=hg
   have HVR:=hid (Zw HR.out HB.out)
   obtain⟨f1,f2,f3⟩:=ZeS is ((lo+hi) / 2) hml
   have d1:=Zr HVR.out _ _ f1
   have d2:=Zr HVR.out _ _ f2
   have d3:=Zr HVR.out _ _ f3
   have hmz:(((lo+hi) / 2:Nat):Int)=((lo:Int)+(hi:Int)) / 2:=by omega
   have hmn:(((lo:Int)+(hi:Int)) / 2).toNat=(lo+hi) / 2:=by omega
   have hc:=Zm3 is[(lo+hi) / 2] tx wr
   have HM1:Hid (Op.bytesLess (bl (is[(lo+hi) / 2]).tx) (bl tx)=true->∀i (h:i<is.length),i<=(lo+hi) / 2->Op.bytesLess (bl is[i].tx) (bl tx)=true):=hid (fun hl i h h'=>HS.mono h' hml hl)
   have HM2 : Hid (Op.bytesLess (bl (is[(lo + hi) / 2]).tx) (bl tx) = false -> ∀ i (h : i < is.length), (lo + hi) / 2 <= i -> Op.bytesLess (bl is[i].tx) (bl tx) = false) := hid (fun hl i h h' => by
     cases hb:Op.bytesLess (bl is[i].tx) (bl tx)with
     | false=>rfl
     | true=>rw[HS.mono h' h hb]at hl;cases hl)
   have hcn:=ZgK (bl (is[(lo+hi) / 2]).tx) (bl tx)
   clear f1 f2 f3 HVR
   generalize is[(lo+hi) / 2]=x at *
   obtain⟨xa,xn,xc,xt,xq,xv⟩:=x
   simp only at hc HM1 HM2 hcn d1 d2 d3
   generalize cmpV (bl xt) (bl tx)=cr at *
   cases hx:Op.bytesLess (bl xt) (bl tx)with
   | true=>
    rw[hx]at hcn
    have HX:=hid (HM1.out hx)
    clear hx
    have hneg:cr<0:=by simpa using hcn
    clear hcn
    go_wp2_with (go_at_call 255;refine hc.mono ?_;rintro e w' ⟨rfl,hb⟩)
    go_roundg (hi - ((lo+hi) / 2+1))
    case measure=>omega
    case rel=>
     exact⟨(lo+hi) / 2+1,hi,by rw[show((lo:Int)+(hi:Int)) / 2+1=(((lo+hi) / 2+1:Nat):Int) by omega],rfl,by omega,hin,Nat.le_refl _,hid (HB.trans (hb.mono HB.size)),hid ⟨fun j h h'=>HX.out j h (by omega),I.2⟩⟩
   | false=>
    rw[hx]at hcn
    have HX:=hid (HM2.out hx)
    clear hx
    have hneg:¬cr<0:=by simpa using hcn
    clear hcn
    go_wp2_with (go_at_call 255;refine hc.mono ?_;rintro e w' ⟨rfl,hb⟩)
    go_roundg ((lo+hi) / 2 - lo)
    case measure=>omega
    case rel=>
     exact⟨lo,(lo+hi) / 2,rfl,by rw[show((lo:Int)+(hi:Int)) / 2=(((lo+hi) / 2:Nat):Int) by omega],by omega,by omega,Nat.le_refl _,hid (HB.trans (hb.mono HB.size)),hid ⟨I.1,HX.out⟩⟩
  ·obtain rfl:hi=lo:=by omega
   have hb:=HB.out
   by_cases hll:hi<is.length
   ·have hg:∃g,ra=some ⟨g,0,none⟩:=by
     obtain⟨g,cp',h⟩:=ZW HR.out (by omega)
     injection h with h1;exact⟨g,h1⟩
    obtain⟨g,rfl⟩:=hg
    have HVR:=hid (Zw HR.out HB.out)
    obtain⟨f1,f2,f3⟩:=ZeS is hi hll
    have d1:=Zr HVR.out _ _ f1
    have d2:=Zr HVR.out _ _ f2
    have d3:=Zr HVR.out _ _ f3
    have hc:=Zm3 is[hi] tx wr
    have HZ1:Hid (cmpV (bl (is[hi]).tx) (bl tx)=0->BsIs is (bl tx) hi true):=hid (fun h=>Or.inl ⟨rfl,hll,ZrI h⟩)
    have HZ2:Hid (cmpV (bl (is[hi]).tx) (bl tx)≠0->BsIs is (bl tx) hi false):=hid (fun h=>Or.inr ⟨rfl,Zl9 HS.out I.1 I.2 (fun _ e=>h (by rw[e];exact ZrH _))⟩)
    generalize is[hi]=x at *
    obtain⟨xa,xn,xc,xt,xq,xv⟩:=x
    simp only at hc HZ1 HZ2 d1 d2 d3
    generalize cmpV (bl xt) (bl tx)=cr at *
    clear f1 f2 f3 HVR
    by_cases h0:cr=0
    ·have HZ:=hid (HZ1.out h0)
     subst h0
     go_wp2_with (go_at_call 255;refine hc.mono ?_;rintro e w' ⟨rfl,hb5⟩)
     have hb6:=hb.trans (hb5.mono hb.size)
     go_ret2
     exact⟨hi,true,rfl,HZ,hb6⟩
    ·have HZ:=hid (HZ2.out h0)
     have h0b:(cr == 0)=false:=by simpa using h0
     go_wp2_with (go_at_call 255;refine hc.mono ?_;rintro e w' ⟨rfl,hb5⟩)
     have hb6:=hb.trans (hb5.mono hb.size)
     go_ret2
     exact⟨hi,false,rfl,HZ,hb6⟩
   ·have HZ:Hid (BsIs is (bl tx) hi false):=hid (Or.inr ⟨rfl,Zl9 HS.out I.1 I.2 (fun h=>absurd h hll)⟩)
    go_wp2
    go_ret2
    exact⟨hi,false,rfl,HZ,hb⟩
end Go.Proofs.YtcdgkkfipdoeeaaGreatDoor

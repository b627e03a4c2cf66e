/- Parts. -/
import Derived.Test.YtpbemaaghbbocaaGreatDoorE31
namespace Go.Proofs.YtpbemaaghbbocaaGreatDoor
open Go.RowKit LS
theorem ElsV.set{W:World}{v:Value}{zs:List (Value×El)}{a:Nat}{c:List Value}(h:ElsV W v zs)(hb:BAt W a c 76)(i:Nat)(u:Value):ElsV (W.setCell ⟨a,i,none⟩ u) v zs:=by
 have hgg:∀j,j≠a→(W.setCell ⟨a,i,none⟩ u).heap[j]?=W.heap[j]?:=fun j hj=>Go.Deep.blk_setCell_other _ _ _ _ hj
 refine⟨Zba h.own (fun j hj=>hgg j (fun e=>ZE h.own hb (by decide) (by rw[hj,e]))),h.len,fun z hz=>?_⟩
 obtain⟨⟨qs,hq⟩,h2⟩:=h.ok z hz
 exact⟨⟨qs,Zba hq.own (fun j hj=>hgg j (fun e=>ZE hq.own hb (by decide) (by rw[hj,e]))),hq.say,hq.len,hq.ok⟩,h2⟩
structure GrI (w wr:World) (xa:List Value) (vv:Value) (rs:List (Value×El)):Prop where
 bel:Below w.heap.size w wr
 xb:BAt wr w.heap.size xa 76
 rb:BAt wr (w.heap.size+1) [.bool false,.int .i64 0,.slice none 0 0] 76
 vb:BAt wr (w.heap.size+2) [.bool false,.int .i64 0,vv] 76
 els:ElsV wr vv rs
theorem GrI.below{w wr w':World}{xa:List Value}{vv:Value}{rs:List (Value×El)}(h:GrI w wr xa vv rs)(hb:Below wr.heap.size wr w'):GrI w w' xa vv rs:=
 ⟨h.bel.trans (hb.mono h.bel.size),h.xb.below hb,h.rb.below hb,h.vb.below hb,h.els.below hb⟩
theorem GrI.put{w wr:World}{xa:List Value}{vv v':Value}{rs rs':List (Value×El)}(h:GrI w wr xa vv rs)(he:ElsV wr v' rs'):GrI w (wr.setCell ⟨w.heap.size+2,2,none⟩ v') xa v' rs':=by
 have hgg:∀j,j≠w.heap.size+2→(wr.setCell ⟨w.heap.size+2,2,none⟩ v').heap[j]?=wr.heap[j]?:=fun j hj=>Go.Deep.blk_setCell_other _ _ _ _ hj
 refine⟨h.bel.setCell (p:=⟨w.heap.size+2,2,none⟩) (by show w.heap.size≤w.heap.size+2;omega) _,(hgg _ (by omega)).trans h.xb,(hgg _ (by omega)).trans h.rb,?_,he.set h.vb 2 v'⟩
 have hv:=h.vb
 unfold BAt at hv ⊢
 simp only[World.setCell,Array.getElem?_modify,hv,if_true,Option.map_some];rfl
theorem GrI.done{w wr:World}{xa:List Value}{va:Option Addr}{vn vc:Nat}{rs:List (Value×El)}(h:GrI w wr xa (.slice va vn vc) rs) :
  BAt (set3 wr (w.heap.size+1) (.bool false) (.int .i64 0) (.slice va vn vc)) (w.heap.size+1) [.bool false,.int .i64 0,.slice va vn vc] 76∧ElsV (set3 wr (w.heap.size+1) (.bool false) (.int .i64 0) (.slice va vn vc)) (.slice va vn vc) rs∧Below w.heap.size w (set3 wr (w.heap.size+1) (.bool false) (.int .i64 0) (.slice va vn vc)):=by
 refine⟨Zdr h.rb (x:=.bool false) (y:=.int .i64 0) (z:=.slice va vn vc),?_,(((h.bel.setCell (p:=⟨w.heap.size+1,0,none⟩) (by show w.heap.size≤w.heap.size+1;omega) _).setCell (p:=⟨w.heap.size+1,1,none⟩) (by show w.heap.size≤w.heap.size+1;omega) _).setCell (p:=⟨w.heap.size+1,2,none⟩) (by show w.heap.size≤w.heap.size+1;omega) _)⟩
 have e:=h.els
 refine⟨Zba e.own (fun j hj=>ZdZ _ _ _ _ _ (fun e'=>ZE e.own h.rb (by decide) (by rw[hj,e']))),e.len,fun z hz=>?_⟩
 obtain⟨⟨qs,hq⟩,h2⟩:=e.ok z hz
 exact⟨⟨qs,Zba hq.own (fun j hj=>ZdZ _ _ _ _ _ (fun e'=>ZE hq.own h.rb (by decide) (by rw[hj,e']))),hq.say,hq.len,hq.ok⟩,h2⟩
theorem GrI.start(w:World)(x0 x1 x2:Value):GrI w (((w.alloc (.cells #[x0,x1,x2] 76)).alloc (.cells #[.bool false,.int .i64 0,.slice none 0 0] 76)).alloc (.cells #[.bool false,.int .i64 0,.slice none 0 0] 76)) [x0,x1,x2] (.slice none 0 0) []:=by
 have g3:BAt (w.alloc (.cells #[x0,x1,x2] 76)) w.heap.size [x0,x1,x2] 76:=Go.Deep.blk_alloc_new w _
 have g2:BAt ((w.alloc (.cells #[x0,x1,x2] 76)).alloc (.cells #[.bool false,.int .i64 0,.slice none 0 0] 76)) (w.heap.size+1) [.bool false,.int .i64 0,.slice none 0 0] 76:=by
  have:=Go.Deep.blk_alloc_new (w.alloc (.cells #[x0,x1,x2] 76)) (.cells #[.bool false,.int .i64 0,.slice none 0 0] 76)
  rwa [World.size_alloc]at this
 have g0:=Go.Deep.blk_alloc_new ((w.alloc (.cells #[x0,x1,x2] 76)).alloc (.cells #[.bool false,.int .i64 0,.slice none 0 0] 76)) (.cells #[.bool false,.int .i64 0,.slice none 0 0] 76)
 rw[World.size_alloc,World.size_alloc]at g0
 exact⟨(by repeat first|exact Below.refl _ _|assumption|refine Below.alloc ?_ ?_ _|refine Below.setCell ?_ ?_ _|refine Zk ?_ _|refine Below.drew ?_|omega|(simp;omega)|simp),(g3.alloc _).alloc _,g2.alloc _,g0,⟨World.ownsRow_nil _ _ _ _,by simp,by simp⟩⟩
theorem Zja (op : Nat) (bs : List (List UInt8)) (all : List El) (e : El) : ∀ (l pre : List El), Zbc op bs all pre (l ++ [e]) = Zbc op bs all pre l ++ (if (pre ++ l).any (fun f => decide (wrt (Zu f.1 bs) = wrt (Zu e.1 bs))) then [] else [(Zu e.1 bs, cutV (ZbO op ((all.filter fun f => decide (wrt (Zu f.1 bs) = wrt (Zu e.1 bs))).map (·.2))))])
  | [],pre=>by simp only[List.nil_append,Zbc,List.append_nil]
  | x :: l, pre => by
    rw[List.cons_append,Zbc,Zbc,Zja op bs all e l (pre++[x]),List.append_assoc,List.append_assoc]
    rfl
def mtZ(bs:List (List UInt8))(zl:List Lab)(z:Value×El):Bool:=decide (wrt (Zu z.2.1 bs)=wrt (Zu zl bs))
theorem ZsE{α:Type}(p:α→Bool)(l:List α)(k:Nat)(h:k<l.length):(l.take (k+1)).any p=((l.take k).any p || p l[k]):=by
 rw[List.take_succ_eq_append_getElem h,List.any_append];simp
theorem ZsF{α:Type}(p:α→Bool)(l:List α)(k:Nat)(h:k<l.length):(l.take (k+1)).filter p=(l.take k).filter p++(if p l[k] then [l[k]] else []):=by
 rw[List.take_succ_eq_append_getElem h,List.filter_append]
 congr 1
 by_cases hp:p l[k]=true
 ·rw[if_pos hp,List.filter_cons_of_pos hp];rfl
 ·rw[if_neg hp,List.filter_cons_of_neg hp];rfl
set_option linter.unusedSimpArgs false in
set_option maxRecDepth 100000 in
set_option maxHeartbeats 8000000 in
theorem Zom(op:Nat)(hop:op≤3)(bv v:Value)(ns:List ByteArray)(zs:List (Value×El))(w:World)(hb:NamsV w bv ns)(h:ElsV w v zs)(hzl:zs.length≤1000) :
  Calls Tryz.prog 56 #[.int .i64 op,bv,.agg #[.bool false,.int .i64 0,v]] w fun e w'=>∃(v':Value) (rs:List (Value×El)),e=.returned (.agg #[.bool false,.int .i64 0,v'])∧Hid (ElsV w' v' rs)∧Hid (rs.map (·.2)=Zcx op (ns.map bl) (zs.map (·.2)))∧Below w.heap.size w w':=by
 obtain⟨sa,sl,rfl⟩:=Zj h.own
 obtain⟨ba,bc,rfl⟩:=Zj hb.own
 have HS:Hid (ElsV w (.slice sa zs.length sl) zs):=h
 have HN:Hid (NamsV w (.slice ba ns.length bc) ns):=hb
 obtain⟨i0,hi,hz0,hz1,hz2⟩:=info_parts Tryz.infoRSample
 clear h hb
 go_enter Tryz.func56,Tryz.ntmps56
 go_upto_region 2 with fail
 refine Z1 fun W0 hW0=>?_
 have HI0:Hid (GrI w W0 [.bool false,.int .i64 0,.slice sa zs.length sl] (.slice none 0 0) []):=hid (by rw[hW0];exact GrI.start w _ _ _)
 clear hW0
 go_wp2
 go_loopg [8] zs.length (fun gk v8 wr=>∃(i:Nat) (vv:Value) (rs:List (Value×El)),i≤zs.length∧gk=zs.length - i∧v8=.int .i64 i∧Hid (GrI w wr [.bool false,.int .i64 0,.slice sa zs.length sl] vv rs)∧Hid (rs.map (·.2)=(Zbc op (ns.map bl) (zs.map (·.2)) [] ((zs.map (·.2)).take i)).foldl Zbu [])∧Hid (rs.length≤i))
 case atStart=>exact⟨0,_,[],Nat.zero_le _,rfl,rfl,HI0,hid rfl,hid (Nat.le_refl _)⟩
 case round=>
  clear HI0
  obtain⟨i,vv,rs,hik,hgk,rfl,HI,HG,HRI⟩:=hrel
  have x2:=HI.xb.cell 2
  simp only[Zget]at x2
  by_cases hlt:i<zs.length
  ·obtain⟨g,cpx,hg⟩:=Zy HS.own (by omega)
   injection hg with hg1 _ hg2
   subst hg1 hg2
   have HSr:Hid (ElsV wr (.slice (some ⟨g,0,none⟩) zs.length sl) zs):=HS.below HI.bel
   have r0:=Zn HSr.own _ _ (by rw[(ZbV zs i).1,List.getElem?_eq_getElem hlt];rfl)
   have hok:=HSr.ok _ (List.getElem_mem hlt)
   have HGS:Hid (Zbc op (ns.map bl) (zs.map (·.2)) [] ((zs.map (·.2)).take (i+1))=Zbc op (ns.map bl) (zs.map (·.2)) [] ((zs.map (·.2)).take i)++(if (zs.take i).any (mtZ (ns.map bl) (zs[i]).2.1)then [] else [(Zu (zs[i]).2.1 (ns.map bl),cutV (ZbO op ((zs.filter (mtZ (ns.map bl) (zs[i]).2.1)).map (·.2.2))))])):=hid (by
    have hl2:i<(zs.map (·.2)).length:=by rw[List.length_map];exact hlt
    have e1:(zs.map (·.2))[i]=(zs[i]).2:=List.getElem_map ..
    rw[List.take_succ_eq_append_getElem hl2,Zja,List.nil_append,e1,←List.map_take,List.any_map,List.filter_map,List.map_map]
    rfl)
   have HMI:Hid (mtZ (ns.map bl) (zs[i]).2.1 zs[i]=true):=hid (by unfold mtZ;simp)
   have HMEM:Hid (zs[i]∈zs):=hid (List.getElem_mem hlt)
   generalize zs[i]=z at *
   obtain⟨zv,zl,zn⟩:=z
   obtain⟨⟨qz,hqz⟩,hzv⟩:=hok
   simp only at r0 hqz HGS HMI
   obtain⟨lz,cz,rfl⟩:=Zj hqz.own
   have HQZ:Hid (LabsV wr (.slice lz qz.length cz) zl qz):=hqz
   have HNr:Hid (NamsV wr (.slice ba ns.length bc) ns):=HN.below HI.bel
   clear hqz hzv HSr
   go_wp2_with fail
   refine(Zjt _ _ zl qz ns _ HQZ.out HNr.out).mono ?_
   rintro e w1 ⟨lv,ql,rfl,HL1,hb1⟩
   have HI1:=hid (HI.below hb1)
   clear hb1 x2 r0 HI HQZ HNr
   obtain⟨la1,lc1,hlv⟩:=Zj HL1.own
   subst hlv
   go_wp2_with fail
   refine(ZeA _ _ ql _ HL1.out).mono ?_
   rintro e w2 ⟨kx,rfl,HKX,n2,hw2⟩
   have hb2:Below w1.heap.size w1 w2:=by rw[hw2];exact Zk (Below.refl _ _) _
   have HI2:=hid (HI1.below hb2)
   have HL2:=hid (HL1.below hb2)
   clear hb2 hw2 HI1 HL1
   obtain⟨XA,hXA⟩:∃XA:List Value,XA=[.bool false,.int .i64 0,.slice (some ⟨g,0,none⟩) zs.length sl]:=⟨_,rfl⟩
   have HXA:=hid hXA
   rw[←hXA]at HI2
   clear hXA
   have HI9:Hid (∀W,Below w2.heap.size w2 W→GrI w W XA vv rs):=hid (fun W hb=>HI2.below hb)
   go_wp2
   go_loopg [11,12,13] zs.length (fun gj v11 v12 v13 wr=>∃(j:Nat) (ss:List (Int×Int)) (f:Bool),j≤zs.length∧gj=zs.length - j∧v13=.int .i64 j∧v12=.bool f∧Hid (wr.ownsRow w2.heap.size 220 2 v11 ss.length (ZK ss))∧Hid (ss=((zs.take j).filter (mtZ (ns.map bl) zl)).map (fun z=>(0,z.2.2)))∧Hid (f=!((zs.take (min j i)).any (mtZ (ns.map bl) zl)))∧Hid (GrI w wr XA vv rs)∧Hid (Below w2.heap.size w2 wr))
   case atStart=>exact⟨0,[],true,Nat.zero_le _,rfl,rfl,rfl,World.ownsRow_nil _ _ _ _,hid rfl,hid (by simp),HI2,Below.refl _ _⟩
   case round=>
    clear HI2
    obtain⟨j,ss,f,hj,hgj,rfl,rfl,HO,HSS0,HF,HGI,HBI⟩:=hrel
    obtain⟨s1,c1,hs1⟩:=Zj HO.out
    subst hs1
    have x2:=HGI.xb.cell 2
    rw[HXA.out]at x2
    simp only[Zget]at x2
    by_cases hjl:j<zs.length
    ·have HSr:Hid (ElsV wr (.slice (some ⟨g,0,none⟩) zs.length sl) zs):=HS.below HGI.bel
     have r0:=Zn HSr.own _ _ (by rw[(ZbV zs j).1,List.getElem?_eq_getElem hjl];rfl)
     have r1:=Zn HSr.own _ _ (by rw[(ZbV zs j).2,List.getElem?_eq_getElem hjl];rfl)
     have hgl:=ZbJ HSr.own
     have hok:=HSr.ok _ (List.getElem_mem hjl)
     have HFS:=hid (ZsF (mtZ (ns.map bl) zl) zs j hjl)
     have HAS : Hid ((zs.take (min (j + 1) i)).any (mtZ (ns.map bl) zl) = ((zs.take (min j i)).any (mtZ (ns.map bl) zl) || (decide (j < i) && mtZ (ns.map bl) zl zs[j]))) := hid (by
       by_cases hji:j<i
       · rw[show min (j+1) i=j+1 by omega,show min j i=j by omega,ZsE _ _ _ hjl];simp[hji]
       · rw[show min (j+1) i=i by omega,show min j i=i by omega];simp[hji])
     generalize zs[j]=y at *
     obtain⟨yv,yl,yn⟩:=y
     obtain⟨⟨qy,hqy⟩,hyv⟩:=hok
     have HYV:Hid (vOk yn):=hyv
     simp only at r0 r1 hqy HFS HAS
     obtain⟨ly,cy,rfl⟩:=Zj hqy.own
     have HQY:Hid (LabsV wr (.slice ly qy.length cy) yl qy):=hqy
     have HNr:Hid (NamsV wr (.slice ba ns.length bc) ns):=HN.below HGI.bel
     clear hqy hyv HSr
     go_wp2_with fail
     refine(Zjt _ _ yl qy ns _ HQY.out HNr.out).mono ?_
     rintro e w3 ⟨uv,qu,rfl,HU3,hb3⟩
     have HG3:=hid (HGI.below hb3)
     have HB3:Hid (Below w2.heap.size w2 w3):=HBI.trans (hb3.mono HBI.size)
     have HO3:=hid (Zw HO.out hb3)
     have r13:w3.cell? ⟨g,j*2+1,none⟩=_:=(hb3.cell (p:=⟨g,j*2+1,none⟩) hgl).trans r1
     have hgl3:g<w3.heap.size:=Nat.lt_of_lt_of_le hgl hb3.size
     clear hb3 x2 r0 r1 hgl HGI HBI HO HQY HNr
     obtain⟨la3,lc3,hlv3⟩:=Zj HU3.own
     subst hlv3
     go_wp2_with fail
     refine(ZeA _ _ qu _ HU3.out).mono ?_
     rintro e w4 ⟨ux,rfl,HUX,n4,hw4⟩
     have hb4:Below w3.heap.size w3 w4:=by rw[hw4];exact Zk (Below.refl _ _) _
     have HG4:=hid (HG3.below hb4)
     have HB4:Hid (Below w2.heap.size w2 w4):=HB3.trans (hb4.mono HB3.size)
     have HO4:=hid (Zw HO3.out hb4)
     have r14:w4.cell? ⟨g,j*2+1,none⟩=_:=(hb4.cell (p:=⟨g,j*2+1,none⟩) hgl3).trans r13
     clear hb4 hw4 r13 HG3 HB3 HO3 HU3 hgl3
     have x2:=HG4.xb.cell 2
     rw[HXA.out]at x2
     simp only[Zget]at x2
     have HEQ:Hid ((ux.toList == kx.toList)=mtZ (ns.map bl) zl (.slice ly qy.length cy,yl,yn)):=hid (by rw[Zem,HUX.out,HKX.out];unfold mtZ;rfl)
     have hssl:ss.length≤1000:=by
      rw[HSS0.out,List.length_map]
      have:=List.length_filter_le (mtZ (ns.map bl) zl) (zs.take j)
      rw[List.length_take]at this
      omega
     have hsz2:=HB4.size
     cases hm:mtZ (ns.map bl) zl (.slice ly qy.length cy,yl,yn)with
     | false=>
      have he:(ux.toList == kx.toList)=false:=by rw[HEQ.out,hm]
      rw[hm]at HFS HAS
      rw[Bool.and_false,Bool.or_false]at HAS
      rw[if_neg (by decide),List.append_nil]at HFS
      go_wp2
      go_roundg (zs.length - (j+1))
      case measure=>omega
      case rel=>exact⟨j+1,ss,f,by omega,rfl,by go_num,rfl,HO4,hid (by rw[HFS.out];exact HSS0.out),hid (by rw[HAS.out];exact HF.out),HG4,HB4⟩
     | true=>
      have he:(ux.toList == kx.toList)=true:=by rw[HEQ.out,hm]
      rw[hm]at HFS HAS
      rw[Bool.and_true]at HAS
      rw[if_pos rfl]at HFS
      have HSN:Hid (ss++[((0:Int),yn)]=((zs.take (j+1)).filter (mtZ (ns.map bl) zl)).map (fun z=>((0:Int),z.2.2))):=hid (by rw[HFS.out,List.map_append,←HSS0.out];rfl)
      have HFN:Hid ((f && decide (i≤j))=!((zs.take (min (j+1) i)).any (mtZ (ns.map bl) zl))):=hid (by
       rw[HAS.out,HF.out,Bool.not_or]
       congr 1
       by_cases hji:j<i
       ·simp[hji,Nat.not_le.2 hji]
       ·simp[hji,Nat.le_of_not_lt hji])
      clear HFS HAS
      go_wp2_with (at_builtin;refine wpList_append_own _ rfl (.tmp 51) (.tmp 59) 120 rfl w2.heap.size 220 i0 (.agg #[.int .i64 0,.int .i64 0]) 2 16 Tryz.underlying120 hi hz0 hz1 hz2 rfl (by decide) _ _ _ rfl (HO4.alloc _) ⟨w4.heap.size,0,none⟩ 1 1 [.int .i64 0,.int .i64 yn] rfl rfl (Zbg rfl) ?c2 ?c3 ?c4 ?c5 ?_)
      case c2=>intro u hu;simp at hu;rcases hu with rfl|rfl <;> rfl
      case c3=>unfold maxLen;first|omega|(simp;omega)
      case c4=>first|omega|(simp;omega)
      case c5=>first|omega|(simp;omega)
      intro v' w6 hown6 hgrow _
      have HB6:Hid (Below w2.heap.size w2 w6):=hid (Zdi (HB4.alloc HB4.size _) hgrow (fun q hq=>by have:=(HO4.lt q hq).1;omega))
      have HG6:Hid (GrI w w6 XA vv rs):=hid (HI9.out w6 HB6.out)
      have HO6:Hid (w6.ownsRow w2.heap.size 220 2 v' (ss++[((0:Int),yn)]).length (ZK (ss++[((0:Int),yn)]))):=hid (by
       rw[ZgV,List.length_append];exact hown6)
      clear hown6 hgrow
      cases f with
      | false=>
       rw[Bool.false_and]at HFN
       go_wp2
       go_roundg (zs.length - (j+1))
       case measure=>omega
       case rel=>exact⟨j+1,_,false,by omega,rfl,by go_num,rfl,HO6,HSN,HFN,HG6,HB6⟩
      | true=>
       rw[Bool.true_and]at HFN
       by_cases hij:i≤j
       ·rw[show decide (i≤j)=true by simp[hij]]at HFN
        go_wp2
        go_roundg (zs.length - (j+1))
        case measure=>omega
        case rel=>exact⟨j+1,_,true,by omega,rfl,by go_num,rfl,HO6,HSN,HFN,HG6,HB6⟩
       ·rw[show decide (i≤j)=false by simp[hij]]at HFN
        go_wp2
        go_roundg (zs.length - (j+1))
        case measure=>omega
        case rel=>exact⟨j+1,_,false,by omega,rfl,by go_num,rfl,HO6,HSN,HFN,HG6,HB6⟩
    ·obtain rfl:j=zs.length:=by omega
     rw[show min zs.length i=i by omega]at HF
     rw[List.take_length]at HSS0
     cases f with
     | false=>
      have HGN:Hid (Zbc op (ns.map bl) (zs.map (·.2)) [] ((zs.map (·.2)).take (i+1))=Zbc op (ns.map bl) (zs.map (·.2)) [] ((zs.map (·.2)).take i)):=hid (by
       rw[HGS.out,if_pos (by have:=HF.out;revert this;cases (zs.take i).any (mtZ (ns.map bl) zl) <;> simp),List.append_nil])
      go_wp2
      go_roundg (zs.length - (i+1))
      case measure=>omega
      case rel=>exact⟨i+1,vv,rs,by omega,rfl,by go_num,hid (by rw[←HXA.out];exact HGI.out),hid (by rw[HGN.out];exact HG.out),hid (Nat.le_succ_of_le HRI.out)⟩
     | true=>
      have HGN:Hid (Zbc op (ns.map bl) (zs.map (·.2)) [] ((zs.map (·.2)).take (i+1))=Zbc op (ns.map bl) (zs.map (·.2)) [] ((zs.map (·.2)).take i)++[(Zu zl (ns.map bl),cutV (ZbO op (ss.map (·.2))))]):=hid (by
       rw[HGS.out,if_neg (by have:=HF.out;revert this;cases (zs.take i).any (mtZ (ns.map bl) zl) <;> simp),HSS0.out,List.map_map]
       rfl)
      have HNE:Hid (0<ss.length):=hid (by
       rw[HSS0.out,List.length_map]
       exact List.length_pos_of_mem (List.mem_filter.2 ⟨HMEM.out,HMI.out⟩))
      have hssl:ss.length≤1000:=by
       rw[HSS0.out,List.length_map]
       exact Nat.le_trans (List.length_filter_le _ _) hzl
      have HSS : Hid (∀ W, W = wr.drew → SamsV W (.slice s1 ss.length c1) ss) := hid (fun W hW => by
        rw[hW]
        refine⟨(ZdH HO.out).drew,by omega,fun x hx=>?_⟩
        rw[HSS0.out,List.mem_map]at hx
        obtain⟨y,hy,rfl⟩:=hx
        have:=(HS.ok y (List.mem_filter.1 hy).1).2
        unfold vOk at this
        unfold smOk
        simp only
        omega)
      have HLI:Hid (LabsV wr (.slice la1 ql.length lc1) (Zu zl (ns.map bl)) ql):=HL2.below HBI.out
      have HRL:Hid (rs.length≤1000):=hid (by have:=HRI.out;omega)
      have v2:=HGI.vb.cell 2
      simp only[Zget]at v2
      obtain⟨va,vc,hvv⟩:=Zj HGI.els.own
      subst hvv
      have HKV:Hid (∀W,Below wr.heap.size wr W→W.cell? ⟨w.heap.size+2,2,none⟩=some (.slice va rs.length vc)):=hid (fun W hb=>(hb.cell (p:=⟨w.heap.size+2,2,none⟩) HGI.vb.lt).trans v2)
      obtain⟨tn,htn⟩:∃tn,tn=ZbO op (ss.map (·.2)):=⟨_,rfl⟩
      obtain⟨cn,hcn⟩:∃cn,cn=cutV tn:=⟨_,rfl⟩
      have HCN:Hid (cn=cutV (ZbO op (ss.map (·.2)))):=hid (by rw[hcn,htn])
      have HTOLD : Hid (∀ W, W = wr.drew → Calls Tryz.prog 103 #[.int .i64 op, .slice s1 ss.length c1] W fun e w' => e = .returned (.int .i64 tn) ∧ Below wr.heap.size wr w') := hid (fun W hW => by
        refine(ZkR op (by omega) _ ss _ (HSS.out W hW) HNE.out).mono ?_
        rintro e w1 ⟨rfl,nt,rfl⟩
        rw[htn,hW]
        exact⟨rfl,Zk ((Below.refl _ _).drew) _⟩)
      have HCUT:Hid (∀W,Calls Tryz.prog 102 #[.int .i64 tn] W fun e w'=>e=.returned (.int .i64 cn)∧w'=W):=hid (fun W=>by rw[hcn];exact Zfs tn W)
      have HPL : Hid (∀ W, Below wr.heap.size wr W → Calls Tryz.prog 104 #[.slice va rs.length vc, .agg #[.slice la1 ql.length lc1, .int .i64 cn]] W fun e w' => ∃ a3 n3 c3, e = .returned (.slice a3 n3 c3) ∧ Hid (ElsV w' (.slice a3 n3 c3) (Zbi rs (.slice la1 ql.length lc1, Zu zl (ns.map bl), cn))) ∧ Hid (Below wr.heap.size wr w')) := hid (fun W hb => by
        refine(Zhy _ rs (.slice la1 ql.length lc1,Zu zl (ns.map bl),cn) W (HGI.els.below hb) ⟨⟨ql,HLI.below hb⟩,by rw[hcn];exact Zeo _⟩ HRL.out).mono ?_
        rintro e w3 ⟨v3,rfl,HE3,hb3⟩
        obtain⟨va3,vc3,hv3⟩:=Zj HE3.own
        subst hv3
        exact⟨va3,_,vc3,rfl,HE3,hb.trans (hb3.mono hb.size)⟩)
      have HGN2:Hid (Zbc op (ns.map bl) (zs.map (·.2)) [] ((zs.map (·.2)).take (i+1))=Zbc op (ns.map bl) (zs.map (·.2)) [] ((zs.map (·.2)).take i)++[(Zu zl (ns.map bl),cn)]):=hid (by rw[HGN.out,HCN.out])
      clear htn hcn
      have hS0:wr.drew.cell? ⟨w.heap.size+2,2,none⟩=some (.slice va rs.length vc):=v2
      clear v2 hssl
      go_upto_region 17 with fail
      clear x2
      refine Zc3 10 (fun w'=>w'.cell? ⟨w.heap.size+2,2,none⟩=some (.slice va rs.length vc)) (by kernel_rfl) (by exact hS0) (fun hHeld=>?_)
      clear hS0
      refine Zd (i:=0) (d:=68) (v:=?v0) rfl rfl (by kernel_rfl) (fun _ _ _ h=>h) (Or.inl ⟨by rfl,?hy0⟩) hHeld ?rs0
      case hy0=>(intro w hSw;go_simp;try with_reducible rfl)
      case rs0=>
      try simp only[Act.put,Zset]
      refine Zd (i:=1) (d:=69) (v:=?v1) rfl rfl (by kernel_rfl) (fun _ _ _ h=>h) (Or.inl ⟨by rfl,?hy1⟩) hHeld ?rs1
      case hy1=>(intro w hSw;go_simp;try with_reducible rfl)
      case rs1=>
      try simp only[Act.put,Zset]
      refine Zd (i:=2) (d:=70) (v:=?v2) rfl rfl (by kernel_rfl) (fun _ _ _ h=>h) (Or.inl ⟨by rfl,?hy2⟩) hHeld ?rs2
      case hy2=>(intro w hSw;go_simp;try with_reducible rfl)
      case rs2=>
      try simp only[Act.put,Zset]
      refine Zd (i:=3) (d:=71) (v:=?v3) rfl rfl (by kernel_rfl) (fun _ _ _ h=>h) (Or.inl ⟨by rfl,?hy3⟩) hHeld ?rs3
      case hy3=>(intro w hSw;go_simp;try with_reducible rfl)
      case rs3=>
      try simp only[Act.put,Zset]
      refine Zd (i:=4) (d:=72) (v:=?v4) rfl rfl (by kernel_rfl) (fun _ _ _ h=>h) (Or.inl ⟨by rfl,?hy4⟩) hHeld ?rs4
      case hy4=>(intro w hSw;go_simp;try with_reducible rfl)
      case rs4=>
      try simp only[Act.put,Zset]
      refine Z0 (i:=5) (by kernel_rfl) rfl (fun K hK=>?_)
      go_simp
      refine(HTOLD.out _ rfl).mono ?_
      rintro e w1 ⟨rfl,hb1⟩
      have hHeld1:=HKV.out w1 hb1
      have HB1:Hid (Below wr.heap.size wr w1):=hb1
      clear hb1
      go_simp
      refine hK.out _ _ hHeld1 (fun hHeld=>?_)
      clear hK K
      try simp only[Act.put,Zset]
      refine Z0 (i:=6) (by kernel_rfl) rfl (fun K hK=>?_)
      go_simp
      refine(HCUT.out _).mono ?_
      rintro e w2 ⟨rfl,rfl⟩
      go_simp
      refine hK.out _ _ hHeld1 (fun hHeld=>?_)
      clear hK K
      try simp only[Act.put,Zset]
      refine Zd (i:=7) (d:=75) (v:=?v7) rfl rfl (by kernel_rfl) (fun _ _ _ h=>h) (Or.inl ⟨by rfl,?hy7⟩) hHeld ?rs7
      case hy7=>(intro w hSw;go_simp;try with_reducible rfl)
      case rs7=>
      try simp only[Act.put,Zset]
      refine Z0 (i:=8) (by kernel_rfl) rfl (fun K hK=>?_)
      go_simp
      refine(HPL.out _ HB1.out).mono ?_
      rintro e w3 ⟨a3,n3,c3,rfl,HE3,HB3⟩
      have hHeld3:=HKV.out w3 HB3.out
      have HN3:=hid ((HGI.below HB3.out).put HE3.out)
      have hv9:=(HGI.below HB3.out).vb
      go_simp
      refine hK.out _ _ hHeld3 (fun hHeld=>?_)
      clear hK K
      try simp only[Act.put,Zset]
      refine Zd (i:=9) (d:=77) (v:=?v9) rfl rfl (by kernel_rfl) (fun _ _ _ h=>h) (Or.inl ⟨by rfl,?hy9⟩) hHeld ?rs9
      case hy9=>(intro w hSw;go_simp;try with_reducible rfl)
      case rs9=>
      try simp only[Act.put,Zset]
      refine Zc9 (by kernel_rfl) (by kernel_rfl) rfl (by kernel_rfl) (fun K hK=>?_)
      have q2:=hv9.cell 2
      have qf:=hv9.frozen 2
      simp only[Zget]at q2
      clear hv9
      go_simp
      refine hK.out _ _ ?_
      clear hK K
      go_wp2
      go_roundg (zs.length - (i+1))
      case measure=>omega
      case rel=>exact⟨i+1,_,_,by omega,rfl,by go_num,hid (by rw[←HXA.out];exact HN3.out),hid (by rw[HGN2.out,List.foldl_append,←HG.out,Zkf];rfl),hid (by rw[Zfp];exact Nat.succ_le_succ HRI.out)⟩
  ·obtain rfl:i=zs.length:=by omega
   obtain⟨va,vc,hvv⟩:=Zj HI.els.own
   subst hvv
   have b0:=HI.vb.cell 0
   have b1:=HI.vb.cell 1
   have b2:=HI.vb.cell 2
   have z0:=HI.rb.frozen 0
   have z1:=HI.rb.frozen 1
   have z2:=HI.rb.frozen 2
   have t0:=HI.rb.cell 0
   have t1:=HI.rb.cell 1
   have t2:=HI.rb.cell 2
   simp only[Zget]at b0 b1 b2 t0 t1 t2
   have HD:=hid HI.done
   have HEND:Hid (rs.map (·.2)=Zcx op (ns.map bl) (zs.map (·.2))):=hid (by rw[HG.out,List.take_of_length_le (by rw[List.length_map];exact Nat.le_refl _)];rfl)
   go_wp2
   change bodyPost _ _ _ _ _ (set3 wr (w.heap.size+1) (.bool false) (.int .i64 0) (.slice va rs.length vc))
   have s0:=HD.1.cell 0
   have s1:=HD.1.cell 1
   have s2:=HD.1.cell 2
   simp only[Zget]at s0 s1 s2
   have HEX:=hid HD.2.1
   have HBX:=hid HD.2.2
   clear HD
   generalize set3 wr (w.heap.size+1) (.bool false) (.int .i64 0) (.slice va rs.length vc)=WX at *
   exact bodyPost_ret (v:=.agg #[.bool false,.int .i64 0,.slice va rs.length vc]) (by simp[results,Tryz.results56,go_sem,s0,s1,s2]) rfl (by first|exact⟨.slice va rs.length vc,rs,rfl,HEX,HEND,HBX.out⟩|exact⟨.slice va rs.length vc,rfl,rs,HEX,HEND,HBX.out⟩)
end Go.Proofs.YtpbemaaghbbocaaGreatDoor

/- Parts. -/
import Derived.Test.YtpbemaaghbbocaaGreatDoorE31
namespace Go.Proofs.YtpbemaaghbbocaaGreatDoor
open Go.RowKit LS
def eqZ(zl:List Lab)(f:Value×El):Bool:=decide (wrt zl=wrt f.2.1)
def FV(op:Nat)(ys:List (Value×El))(z:Value×El):List (Value×El):=(ys.filter (eqZ z.2.1)).map (fun f=>(z.1,z.2.1,twoV op z.2.2 f.2.2))
theorem Zgu(op:Nat)(ys:List (Value×El)):∀l:List (Value×El),(l.flatMap (FV op ys)).length≤l.length*ys.length
 | []=>by simp
 | z :: l => by
   rw[List.flatMap_cons,List.length_append,List.length_cons,Nat.succ_mul]
   have h1:=Zgu op ys l
   have h2:(FV op ys z).length≤ys.length:=by unfold FV;rw[List.length_map];exact List.length_filter_le _ _
   omega
theorem Zn9{α β:Type}(f:α→List β)(l:List α)(k:Nat)(h:k<l.length):(l.take (k+1)).flatMap f=(l.take k).flatMap f++f l[k]:=by
 rw[List.take_succ_eq_append_getElem h,List.flatMap_append];simp
theorem ZnT{α:Type}(p:α→Bool)(l:List α)(k:Nat)(h:k<l.length):(l.take (k+1)).filter p=(l.take k).filter p++(if p l[k] then [l[k]] else []):=by
 rw[List.take_succ_eq_append_getElem h,List.filter_append]
 congr 1
 by_cases hp:p l[k]=true
 ·rw[if_pos hp,List.filter_cons_of_pos hp];rfl
 ·rw[if_neg hp,List.filter_cons_of_neg hp];rfl
theorem ZlB{w:World}{op:Nat}{xs ys:List (Value×El)}(hx:∀z∈xs,ElOk w z):∀z∈xs.flatMap (FV op ys),ElOk w z:=by
 intro z hz
 obtain⟨x,hx1,hz1⟩:=List.mem_flatMap.1 hz
 unfold FV at hz1
 obtain⟨f,_,rfl⟩:=List.mem_map.1 hz1
 have:=hx x hx1
 exact⟨this.1,Zej _ _ _ this.2⟩
def SV(w:World)(g gy i j xl sl yl tl:Nat)(zv:Value)(zn yn:Int)(vv:Value)(w':World):Prop:=w'.cell? ⟨w.heap.size,2,none⟩=some (.slice (some ⟨g,0,none⟩) xl sl)∧w'.cell? ⟨g,i*2,none⟩=some zv∧w'.cell? ⟨g,i*2+1,none⟩=some (.int .i64 zn)∧w'.cell? ⟨w.heap.size+1,2,none⟩=some (.slice (some ⟨gy,0,none⟩) yl tl)∧w'.cell? ⟨gy,j*2+1,none⟩=some (.int .i64 yn)∧w'.cell? ⟨w.heap.size+3,2,none⟩=some vv
set_option maxHeartbeats 4000000 in
theorem ZlP(op:Nat)(hop:op≤3)(m n:Int)(hm:vOk m)(hn:vOk n)(ea fa:Option Addr)(ec fc:Nat)(w:World) :
  Calls Tryz.prog 57 #[.int .i64 op,.agg #[.bool true,.int .i64 m,.slice ea 0 ec],.agg #[.bool true,.int .i64 n,.slice fa 0 fc]] w fun e w'=>e=.returned (.agg #[.bool true,.int .i64 (twoV op m n),.slice none 0 0])∧Below w.heap.size w w':=by
 have HTW:Hid (∀W,Calls Tryz.prog 106 #[.int .i64 op,.int .i64 m,.int .i64 n] W fun e w'=>e=.returned (.int .i64 (twoV op m n))∧w'=W):=hid (fun W=>Zgo op hop m n hm hn W)
 clear hm hn
 generalize twoV op m n=tw at *
 go_enter Tryz.func57,Tryz.ntmps57
 go_wp2_with fail
 refine(HTW.out _).mono ?_
 rintro e w1 ⟨rfl,rfl⟩
 go_wp2
 exact bodyPost_ret (v:=.agg #[.bool true,.int .i64 tw,.slice none 0 0]) (by simp[results,Tryz.results57,go_sem]) rfl ⟨rfl,(by repeat first|exact Below.refl _ _|assumption|refine Below.alloc ?_ ?_ _|refine Below.setCell ?_ ?_ _|refine Zk ?_ _|refine Below.drew ?_|omega|(simp;omega)|simp)⟩
set_option linter.unusedSimpArgs false in
set_option maxRecDepth 100000 in
set_option maxHeartbeats 8000000 in
theorem ZlS(op:Nat)(hop:op≤3)(v u:Value)(xs ys:List (Value×El))(w:World)(h:ElsV w v xs)(h2:ElsV w u ys)(hxl:xs.length≤1000)(hyl:ys.length≤1000) :
  Calls Tryz.prog 57 #[.int .i64 op,.agg #[.bool false,.int .i64 0,v],.agg #[.bool false,.int .i64 0,u]] w fun e w'=>∃v',e=.returned (.agg #[.bool false,.int .i64 0,v'])∧Hid (ElsV w' v' (xs.flatMap (FV op ys)))∧Below w.heap.size w w':=by
 obtain⟨sa,sl,rfl⟩:=Zj h.own
 obtain⟨ta,tl,rfl⟩:=Zj h2.own
 have HS:Hid (ElsV w (.slice sa xs.length sl) xs):=h
 have HY:Hid (ElsV w (.slice ta ys.length tl) ys):=h2
 obtain⟨i0,hi,hz0,hz1,hz2⟩:=info_parts Tryz.infoREl
 clear h h2
 go_enter Tryz.func57,Tryz.ntmps57
 go_upto_region 2 with fail
 refine Z1 fun W0 hW0=>?_
 have HI0:Hid (ArI w W0 [.bool false,.int .i64 0,.slice sa xs.length sl] [.bool false,.int .i64 0,.slice ta ys.length tl] (.slice none 0 0) []):=hid (by rw[hW0];exact ArI.start w _ _ _ _ _ _)
 clear hW0
 have x0:=HI0.xb.cell 0
 have y0:=HI0.yb.cell 0
 simp only[Zget]at x0 y0
 go_wp2
 clear x0 y0
 go_loopg [9] xs.length (fun gk v9 wr=>∃(i:Nat) (vv:Value),i≤xs.length∧gk=xs.length - i∧v9=.int .i64 i∧Hid (ArI w wr [.bool false,.int .i64 0,.slice sa xs.length sl] [.bool false,.int .i64 0,.slice ta ys.length tl] vv ((xs.take i).flatMap (FV op ys))))
 case atStart=>exact⟨0,_,Nat.zero_le _,rfl,rfl,HI0⟩
 case round=>
  clear HI0
  obtain⟨i,vv,hik,hgk,rfl,HI⟩:=hrel
  obtain⟨va,vc,hvv⟩:=Zj HI.own
  subst hvv
  have x2:=HI.xb.cell 2
  have y0:=HI.yb.cell 0
  simp only[Zget]at x2 y0
  by_cases hlt:i<xs.length
  ·obtain⟨g,cpx,hg⟩:=Zy HS.own (by omega)
   injection hg with hg1 _ hg2
   subst hg1 hg2
   have HSr:Hid (ElsV wr (.slice (some ⟨g,0,none⟩) xs.length sl) xs):=HS.below HI.bel
   have r0:=Zn HSr.own _ _ (by rw[(ZbV xs i).1,List.getElem?_eq_getElem hlt];rfl)
   have HR:Hid (∀W:World,W.ownsRow 0 128 2 (.slice (some ⟨g,0,none⟩) xs.length sl) xs.length (Z6 xs)→W.cell? ⟨g,i*2,none⟩=some (xs[i]).1∧W.cell? ⟨g,i*2+1,none⟩=some (.int .i64 (xs[i]).2.2)):=hid (fun W h=>⟨Zn h _ _ (by rw[(ZbV xs i).1,List.getElem?_eq_getElem hlt];rfl),Zn h _ _ (by rw[(ZbV xs i).2,List.getElem?_eq_getElem hlt];rfl)⟩)
   have hok:=HSr.ok _ (List.getElem_mem hlt)
   have HT:=hid (Zn9 (FV op ys) xs i hlt)
   have hgl0:g<w.heap.size:=ZbJ HS.own
   generalize xs[i]=z at *
   obtain⟨zv,zl,zn⟩:=z
   obtain⟨⟨qz,hqz⟩,hzv⟩:=hok
   have HZV:Hid (vOk zn):=hzv
   simp only at r0 hqz HR
   obtain⟨lz,cz,rfl⟩:=Zj hqz.own
   have HQZ:Hid (LabsV wr (.slice lz qz.length cz) zl qz):=hqz
   have HGL:=hid hgl0
   clear hqz hzv hgl0 HSr
   go_wp2_with fail
   refine(ZeA _ zl qz _ (by exact HQZ.out)).mono ?_
   rintro e w2 ⟨kx,rfl,HKX,n2,hw2⟩
   have HI2:=hid (HI.below (w':=w2) (by rw[hw2];exact Zk (Below.refl _ _) _))
   clear hw2 x2 y0 r0 HI HQZ
   obtain⟨pre,hpre⟩:∃pre,pre=(xs.take i).flatMap (FV op ys):=⟨_,rfl⟩
   have hprel:pre.length≤i*ys.length:=by
    rw[hpre]
    have h1:=Zgu op ys (xs.take i)
    rw[List.length_take,Nat.min_eq_left (by omega)]at h1
    exact h1
   have HPL:Hid (pre.length≤1000000 - 1000):=hid (by
    have:i*ys.length≤999*1000:=Nat.mul_le_mul (by omega) hyl
    omega)
   rw[←hpre]at HI2 HT
   have HPRE:=hid hpre
   clear hpre hprel
   obtain⟨XA,hXA⟩:∃XA:List Value,XA=[.bool false,.int .i64 0,.slice (some ⟨g,0,none⟩) xs.length sl]:=⟨_,rfl⟩
   obtain⟨YA,hYA⟩:∃YA:List Value,YA=[.bool false,.int .i64 0,.slice ta ys.length tl]:=⟨_,rfl⟩
   rw[←hXA,←hYA]at HI2
   have HXY:=hid (And.intro hXA hYA)
   clear hXA hYA
   go_wp2
   go_loopg [11] ys.length (fun gj v11 wr=>∃(j:Nat) (vv:Value),j≤ys.length∧gj=ys.length - j∧v11=.int .i64 j∧Hid (ArI w wr XA YA vv (pre++((ys.take j).filter (eqZ zl)).map (fun f=>(.slice lz qz.length cz,zl,twoV op zn f.2.2)))))
   case atStart=>exact⟨0,_,Nat.zero_le _,rfl,rfl,hid (by rw[List.take_zero,List.filter_nil,List.map_nil,List.append_nil];exact HI2.out)⟩
   case round=>
    clear HI2
    obtain⟨j,vv,hj,hgj,rfl,HI⟩:=hrel
    have y2:=HI.yb.cell 2
    rw[HXY.2]at y2
    simp only[Zget]at y2
    by_cases hjl:j<ys.length
    ·obtain⟨gy,cpy,hgy⟩:=Zy HY.own (by omega)
     injection hgy with hgy1 _ hgy2
     subst hgy1 hgy2
     have HYr:Hid (ElsV wr (.slice (some ⟨gy,0,none⟩) ys.length tl) ys):=HY.below HI.bel
     have q0:=Zn HYr.own _ _ (by rw[(ZbV ys j).1,List.getElem?_eq_getElem hjl];rfl)
     have q1:=Zn HYr.own _ _ (by rw[(ZbV ys j).2,List.getElem?_eq_getElem hjl];rfl)
     have hok:=HYr.ok _ (List.getElem_mem hjl)
     have HFS:=hid (ZnT (eqZ zl) ys j hjl)
     have hgly:=ZbJ HYr.own
     have hglw:gy<w.heap.size:=ZbJ HY.own
     generalize ys[j]=y at *
     obtain⟨yv,yl,yn⟩:=y
     obtain⟨⟨qy,hqy⟩,hyv⟩:=hok
     have HYV:Hid (vOk yn):=hyv
     simp only at q0 q1 hqy HFS
     obtain⟨ly,cy,rfl⟩:=Zj hqy.own
     have HQY:Hid (LabsV wr (.slice ly qy.length cy) yl qy):=hqy
     have HGY:=hid hglw
     clear hqy hyv hglw HYr
     obtain⟨os,hos⟩:∃os,os=pre++((ys.take j).filter (eqZ zl)).map (fun f=>((.slice lz qz.length cz,zl,twoV op zn f.2.2):Value×El)):=⟨_,rfl⟩
     have hosl:os.length≤1000000:=by
      rw[hos,List.length_append,List.length_map]
      have h1:=List.length_filter_le (eqZ zl) (ys.take j)
      rw[List.length_take]at h1
      have:=HPL.out
      omega
     rw[←hos]at HI
     have HOS:=hid hos
     clear hos
     go_wp2_with fail
     refine(ZeA _ yl qy _ (by exact HQY.out)).mono ?_
     rintro e w4 ⟨ux,rfl,HUX,n4,hw4⟩
     have hb4:Below wr.heap.size wr w4:=by rw[hw4];exact Zk (Below.refl _ _) _
     have HI4:=hid (HI.below hb4)
     have q14:w4.cell? ⟨gy,j*2+1,none⟩=_:=(hb4.cell (p:=⟨gy,j*2+1,none⟩) hgly).trans q1
     clear hw4 hb4 y2 q0 q1 HI HQY hgly
     have HEQ:Hid ((kx.toList == ux.toList)=eqZ zl (.slice ly qy.length cy,yl,yn)):=hid (by rw[Zem,HUX.out,HKX.out];unfold eqZ;rfl)
     cases hm:eqZ zl (.slice ly qy.length cy,yl,yn)with
     | false=>
      have he:(kx.toList == ux.toList)=false:=by rw[HEQ.out,hm]
      rw[hm]at HFS
      rw[if_neg (by decide),List.append_nil]at HFS
      go_wp2
      go_roundg (ys.length - (j+1))
      case measure=>omega
      case rel=>exact⟨j+1,vv,by omega,rfl,by go_num,hid (by rw[HFS.out,←HOS.out];exact HI4.out)⟩
     | true=>
      have he:(kx.toList == ux.toList)=true:=by rw[HEQ.out,hm]
      rw[hm]at HFS
      rw[if_pos rfl]at HFS
      obtain⟨n1,hn1⟩:∃n1,n1=os.length:=⟨_,rfl⟩
      rw[←hn1]at hosl
      obtain⟨va,vc,hvv⟩:=Zj HI4.own
      rw[←hn1]at hvv
      subst hvv
      have HLK:Hid (os.length=n1):=hid hn1.symm
      clear hn1
      obtain⟨R0,R1⟩:=HR.out w4 (HS.below HI4.bel).own
      have x2:=HI4.xb.cell 2
      have y2:=HI4.yb.cell 2
      have v2:=HI4.vb.cell 2
      rw[HXY.1]at x2
      rw[HXY.2]at y2
      simp only[Zget]at x2 y2 v2
      have HOW:Hid (∀o,(w4.drew.alloc o).ownsRow (w.heap.size+4) 128 2 (.slice va n1 vc) n1 (Z6 os)):=hid (fun o=>by have:=HI4.own;rw[HLK.out]at this;exact this.drew.alloc o)
      have HIW:Hid (∀o,ArI w (w4.drew.alloc o) XA YA (.slice va n1 vc) os):=hid (fun o=>HI4.below (((Below.refl _ _).drew).alloc (Nat.le_refl _) _))
      have HBN:Hid (∀o,(w4.drew.alloc o).heap[w4.heap.size]?=some o):=hid (fun o=>Go.Deep.blk_alloc_new w4.drew o)
      have hzb:=HI4.vb.lt
      have hS0:SV w g gy i j xs.length sl ys.length tl (.slice lz qz.length cz) zn yn (.slice va n1 vc) w4.drew:=⟨x2,R0,R1,y2,q14,v2⟩
      have HSA:Hid (∀o,SV w g gy i j xs.length sl ys.length tl (.slice lz qz.length cz) zn yn (.slice va n1 vc) w4.drew→SV w g gy i j xs.length sl ys.length tl (.slice lz qz.length cz) zn yn (.slice va n1 vc) (w4.drew.alloc o)):=hid (fun o ⟨a,b,c,d,e,f⟩=>⟨ZbS a o,ZbS b o,ZbS c o,ZbS d o,ZbS e o,ZbS f o⟩)
      have HSG : Hid (∀ W w1 : World, SV w g gy i j xs.length sl ys.length tl (.slice lz qz.length cz) zn yn (.slice va n1 vc) W → W.grownBy w1 (Value.slice va n1 vc).ownBlock → SV w g gy i j xs.length sl ys.length tl (.slice lz qz.length cz) zn yn (.slice va n1 vc) w1) := hid (fun W w1 ⟨a, b, c, d, e, f⟩ hg => by
        have hno:∀j,j<w.heap.size+4→some j≠(Value.slice va n1 vc).ownBlock:=fun j hj he=>by have:=(HI4.own.lt j he.symm).1;omega
        have:=HGL.out
        have:=HGY.out
        exact⟨ZbT hg a (hno _ (by show w.heap.size<_;omega)),ZbT hg b (hno _ (by show g<_;omega)),ZbT hg c (hno _ (by show g<_;omega)),ZbT hg d (hno _ (by show w.heap.size+1<_;omega)),ZbT hg e (hno _ (by show gy<_;omega)),ZbT hg f (hno _ (by show w.heap.size+3<_;omega))⟩)
      clear R0 R1 x2 y2 v2 q14
      go_upto_region 23 with fail
      refine Zc3 26 (fun w'=>w'.cell? ⟨w.heap.size,2,none⟩=some (.slice (some ⟨g,0,none⟩) xs.length sl)∧w'.cell? ⟨g,i*2,none⟩=some (.slice lz qz.length cz)∧w'.cell? ⟨g,i*2+1,none⟩=some (.int .i64 zn)∧w'.cell? ⟨w.heap.size+1,2,none⟩=some (.slice (some ⟨gy,0,none⟩) ys.length tl)∧w'.cell? ⟨gy,j*2+1,none⟩=some (.int .i64 yn)∧w'.cell? ⟨w.heap.size+3,2,none⟩=some (.slice va n1 vc)) (by kernel_rfl) (by exact hS0) (fun hHeld=>?_)
      clear hS0
      refine Zd (i:=0) (d:=115) (v:=?v0) rfl rfl (by kernel_rfl) (fun _ _ _ h=>h) (Or.inl ⟨by rfl,?hy0⟩) hHeld ?rs0
      case hy0=>(intro w hSw;go_simp;try with_reducible rfl)
      case rs0=>
      try simp only[Act.put,Zset]
      refine Zd (i:=1) (d:=116) (v:=?v1) rfl rfl (by kernel_rfl) (fun _ _ _ h=>h) (Or.inl ⟨by rfl,?hy1⟩) hHeld ?rs1
      case hy1=>(intro w hSw;go_simp;try with_reducible rfl)
      case rs1=>
      try simp only[Act.put,Zset]
      refine Zd (i:=2) (d:=117) (v:=?v2) rfl rfl (by kernel_rfl) (fun _ _ _ h=>h) (Or.inl ⟨by rfl,?hy2⟩) hHeld ?rs2
      case hy2=>(intro w hSw;go_simp;try with_reducible rfl)
      case rs2=>
      try simp only[Act.put,Zset]
      refine Zd (i:=3) (d:=118) (v:=?v3) rfl rfl (by kernel_rfl) (fun _ _ _ h=>h) (Or.inl ⟨by rfl,?hy3⟩) hHeld ?rs3
      case hy3=>(intro w hSw;go_simp;try with_reducible rfl)
      case rs3=>
      try simp only[Act.put,Zset]
      refine Zd (i:=4) (d:=119) (v:=?v4) rfl rfl (by kernel_rfl) (fun _ _ _ h=>h) (Or.inl ⟨by rfl,?hy4⟩) hHeld ?rs4
      case hy4=>(intro w hSw;go_simp;try with_reducible rfl)
      case rs4=>
      try simp only[Act.put,Zset]
      refine Zd (i:=5) (d:=120) (v:=?v5) rfl rfl (by kernel_rfl) (fun _ _ _ h=>h) (Or.inl ⟨by rfl,?hy5⟩) hHeld ?rs5
      case hy5=>(intro w hSw;go_simp;try with_reducible rfl)
      case rs5=>
      try simp only[Act.put,Zset]
      refine Zd (i:=6) (d:=121) (v:=?v6) rfl rfl (by kernel_rfl) (fun _ _ _ h=>h) (Or.inl ⟨by rfl,?hy6⟩) hHeld ?rs6
      case hy6=>(intro w hSw;go_simp;try with_reducible rfl)
      case rs6=>
      try simp only[Act.put,Zset]
      refine Zd (i:=7) (d:=122) (v:=?v7) rfl rfl (by kernel_rfl) (fun _ _ _ h=>h) (Or.inl ⟨by rfl,?hy7⟩) hHeld ?rs7
      case hy7=>(intro w hSw;go_simp;try with_reducible rfl)
      case rs7=>
      try simp only[Act.put,Zset]
      refine Zd (i:=8) (d:=123) (v:=?v8) rfl rfl (by kernel_rfl) (fun _ _ _ h=>h) (Or.inl ⟨by rfl,?hy8⟩) hHeld ?rs8
      case hy8=>(intro w hSw;go_simp;try with_reducible rfl)
      case rs8=>
      try simp only[Act.put,Zset]
      refine Zd (i:=9) (d:=124) (v:=?v9) rfl rfl (by kernel_rfl) (fun _ _ _ h=>h) (Or.inl ⟨by rfl,?hy9⟩) hHeld ?rs9
      case hy9=>(intro w hSw;go_simp;try with_reducible rfl)
      case rs9=>
      try simp only[Act.put,Zset]
      refine Zd (i:=10) (d:=125) (v:=?v10) rfl rfl (by kernel_rfl) (fun _ _ _ h=>h) (Or.inl ⟨by rfl,?hy10⟩) hHeld ?rs10
      case hy10=>(intro w hSw;go_simp;try with_reducible rfl)
      case rs10=>
      try simp only[Act.put,Zset]
      refine Zd (i:=11) (d:=126) (v:=?v11) rfl rfl (by kernel_rfl) (fun _ _ _ h=>h) (Or.inl ⟨by rfl,?hy11⟩) hHeld ?rs11
      case hy11=>(intro w hSw;go_simp;try with_reducible rfl)
      case rs11=>
      try simp only[Act.put,Zset]
      refine Zd (i:=12) (d:=127) (v:=?v12) rfl rfl (by kernel_rfl) (fun _ _ _ h=>h) (Or.inl ⟨by rfl,?hy12⟩) hHeld ?rs12
      case hy12=>(intro w hSw;go_simp;try with_reducible rfl)
      case rs12=>
      try simp only[Act.put,Zset]
      refine Zd (i:=13) (d:=128) (v:=?v13) rfl rfl (by kernel_rfl) (fun _ _ _ h=>h) (Or.inl ⟨by rfl,?hy13⟩) hHeld ?rs13
      case hy13=>(intro w hSw;go_simp;try with_reducible rfl)
      case rs13=>
      try simp only[Act.put,Zset]
      refine Zd (i:=14) (d:=129) (v:=?v14) rfl rfl (by kernel_rfl) (fun _ _ _ h=>h) (Or.inl ⟨by rfl,?hy14⟩) hHeld ?rs14
      case hy14=>(intro w hSw;go_simp;try with_reducible rfl)
      case rs14=>
      try simp only[Act.put,Zset]
      refine Zd (i:=15) (d:=130) (v:=?v15) rfl rfl (by kernel_rfl) (fun _ _ _ h=>h) (Or.inl ⟨by rfl,?hy15⟩) hHeld ?rs15
      case hy15=>(intro w hSw;go_simp;try with_reducible rfl)
      case rs15=>
      try simp only[Act.put,Zset]
      refine Zd (i:=16) (d:=131) (v:=?v16) rfl rfl (by kernel_rfl) (fun _ _ _ h=>h) (Or.inl ⟨by rfl,?hy16⟩) hHeld ?rs16
      case hy16=>(intro w hSw;go_simp;try with_reducible rfl)
      case rs16=>
      try simp only[Act.put,Zset]
      refine Zd (i:=17) (d:=132) (v:=?v17) rfl rfl (by kernel_rfl) (fun _ _ _ h=>h) (Or.inl ⟨by rfl,?hy17⟩) hHeld ?rs17
      case hy17=>(intro w hSw;go_simp;try with_reducible rfl)
      case rs17=>
      try simp only[Act.put,Zset]
      refine Zd (i:=18) (d:=133) (v:=?v18) rfl rfl (by kernel_rfl) (fun _ _ _ h=>h) (Or.inl ⟨by rfl,?hy18⟩) hHeld ?rs18
      case hy18=>(intro w hSw;go_simp;try with_reducible rfl)
      case rs18=>
      try simp only[Act.put,Zset]
      refine Zd (i:=19) (d:=134) (v:=?v19) rfl rfl (by kernel_rfl) (fun _ _ _ h=>h) (Or.inl ⟨by rfl,?hy19⟩) hHeld ?rs19
      case hy19=>(intro w hSw;go_simp;try with_reducible rfl)
      case rs19=>
      try simp only[Act.put,Zset]
      refine Zd (i:=20) (d:=135) (v:=?v20) rfl rfl (by kernel_rfl) (fun _ _ _ h=>h) (Or.inl ⟨by rfl,?hy20⟩) hHeld ?rs20
      case hy20=>(intro w hSw;go_simp;try with_reducible rfl)
      case rs20=>
      try simp only[Act.put,Zset]
      refine Z0 (i:=21) (by kernel_rfl) rfl (fun K hK=>?_)
      go_simp
      refine(Zgo op hop zn yn HZV.out HYV.out _).mono ?_
      rintro e w1 ⟨rfl,rfl⟩
      go_simp
      refine hK.out _ _ hHeld (fun hHeld=>?_)
      clear hK K
      try simp only[Act.put,Zset]
      refine Zd (i:=22) (d:=137) (v:=?v22) rfl rfl (by kernel_rfl) (fun _ _ _ h=>h) (Or.inl ⟨by rfl,?hy22⟩) hHeld ?rs22
      case hy22=>(intro w hSw;go_simp;try with_reducible rfl)
      case rs22=>
      try simp only[Act.put,Zset]
      refine Z0 (i:=23) (by kernel_rfl) rfl (fun K hK=>?_)
      go_simp
      refine hK.out _ _ (HSA.out _ hHeld) (fun hHeld=>?_)
      clear hK K
      try simp only[Act.put,Zset]
      refine Z0 (i:=24) (by kernel_rfl) rfl (fun K hK=>?_)
      refine ZdI rfl (.tmp 116) (.tmp 138) 74 rfl (w.heap.size+4) 128 i0 _ 2 32 Tryz.underlying74 hi hz0 hz1 hz2 rfl (by decide) (.slice va n1 vc) n1 (Z6 os) (by simp[Act.eval]) (by exact HOW.out _) ⟨w4.heap.size,0,none⟩ 1 1 [.slice lz qz.length cz,.int .i64 (twoV op zn yn)] (by simp[Act.eval]) rfl ?h2 ?h3 ?h4 ?h5 ?h6 ?_
      case h2=>first|exact Zbg (HBN.out _)|exact Zbg rfl|exact ZdC (by first|simp|exact(World.cell?_alloc_at _ _ _ _ (by simp)).trans rfl) (by first|simp|exact(World.cell?_alloc_at _ _ _ _ (by simp)).trans rfl)
      case h3=>intro u hu;simp at hu;rcases hu with rfl|rfl <;> rfl
      case h4=>unfold maxLen;omega
      case h5=>omega
      case h6=>simp;omega
      intro v1 w1 hown1 hgrow1 _
      obtain⟨g1,cp1,hv1⟩:=Zy hown1 (by omega)
      subst hv1
      have HN:Hid (ArI w (w1.setCell ⟨w.heap.size+3,2,none⟩ (.slice (some ⟨g1,0,none⟩) (n1+1) cp1)) XA YA (.slice (some ⟨g1,0,none⟩) (n1+1) cp1) (os++[(.slice lz qz.length cz,zl,twoV op zn yn)])):=hid ((HIW.out _).app (by exact hgrow1) (by rw[ZdQ,List.length_append,HLK.out];exact hown1))
      have hv9:BAt w1 (w.heap.size+3) [.bool false,.int .i64 0,.slice va n1 vc] 76:=(HIW.out _).vb.ownGrown (HOW.out _) hgrow1 (by decide)
      have hS1:=HSG.out _ w1 (by exact hHeld) (by exact hgrow1)
      refine hK.out _ _ hS1 (fun hHeld=>?_)
      clear hK K
      try simp only[Act.put,Zset]
      refine Zd (i:=25) (d:=140) (v:=?v25) rfl rfl (by kernel_rfl) (fun _ _ _ h=>h) (Or.inl ⟨by rfl,?hy25⟩) hHeld ?rs25
      case hy25=>(intro w hSw;go_simp;try with_reducible rfl)
      case rs25=>
      try simp only[Act.put,Zset]
      refine Zc9 (by kernel_rfl) (by kernel_rfl) rfl (by kernel_rfl) (fun K hK=>?_)
      have y2:=hv9.cell 2
      have yf:=hv9.frozen 2
      simp only[Zget]at y2
      clear hv9 hown1 hgrow1
      go_simp
      refine hK.out _ _ ?_
      clear hK K
      go_wp2
      go_roundg (ys.length - (j+1))
      case measure=>omega
      case rel=>exact⟨j+1,_,by omega,rfl,by go_num,hid (by rw[HFS.out,List.map_append,←List.append_assoc,←HOS.out];exact HN.out)⟩
    ·obtain rfl:j=ys.length:=by omega
     rw[List.take_length]at HI
     go_wp2
     go_roundg (xs.length - (i+1))
     case measure=>omega
     case rel=>exact⟨i+1,vv,by omega,rfl,by go_num,hid (by rw[HT.out];obtain⟨hX,hY⟩:=HXY.out;rw[←hX,←hY];exact HI.out)⟩
  ·obtain rfl:i=xs.length:=by omega
   rw[List.take_length]at HI
   have b0:=HI.vb.cell 0
   have b1:=HI.vb.cell 1
   have b2:=HI.vb.cell 2
   have z0:=HI.rb.frozen 0
   have z1:=HI.rb.frozen 1
   have z2:=HI.rb.frozen 2
   have t0:=HI.rb.cell 0
   have t1:=HI.rb.cell 1
   have t2:=HI.rb.cell 2
   simp only[Zget]at b0 b1 b2 t0 t1 t2
   have HD:=hid (HI.done (by
    have h1:=Zgu op ys xs
    have:xs.length*ys.length≤1000*1000:=Nat.mul_le_mul hxl hyl
    omega) (ZlB (fun z hz=>(HS.ok z hz).below HI.bel)))
   generalize(xs.flatMap (FV op ys)).length=nn at *
   go_wp2
   change bodyPost _ _ _ _ _ (set3 wr (w.heap.size+2) (.bool false) (.int .i64 0) (.slice va nn vc))
   have s0:=HD.1.cell 0
   have s1:=HD.1.cell 1
   have s2:=HD.1.cell 2
   simp only[Zget]at s0 s1 s2
   have HEX:=hid HD.2.1
   have HBX:=hid HD.2.2
   clear HD
   generalize set3 wr (w.heap.size+2) (.bool false) (.int .i64 0) (.slice va nn vc)=WX at *
   exact bodyPost_ret (v:=.agg #[.bool false,.int .i64 0,.slice va nn vc]) (by simp[results,Tryz.results57,go_sem,s0,s1,s2]) rfl ⟨.slice va nn vc,rfl,HEX,HBX.out⟩
end Go.Proofs.YtpbemaaghbbocaaGreatDoor

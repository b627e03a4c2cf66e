/- Parts. -/
import Derived.Test.YtpbemaaghbbocaaGreatDoorE25
import Derived.Deep.AppendLies
namespace Go.Proofs.YtpbemaaghbbocaaGreatDoor
open Go.RowKit LS
structure ArI (w wr:World) (xa ya:List Value) (vv:Value) (zs:List (Value×El)):Prop where
 bel:Below w.heap.size w wr
 xb:BAt wr w.heap.size xa 76
 yb:BAt wr (w.heap.size+1) ya 76
 rb:BAt wr (w.heap.size+2) [.bool false,.int .i64 0,.slice none 0 0] 76
 vb:BAt wr (w.heap.size+3) [.bool false,.int .i64 0,vv] 76
 own:wr.ownsRow (w.heap.size+4) 128 2 vv zs.length (Z6 zs)
theorem ArI.below{w wr w':World}{xa ya:List Value}{vv:Value}{zs:List (Value×El)}(h:ArI w wr xa ya vv zs)(hb:Below wr.heap.size wr w'):ArI w w' xa ya vv zs:=
 ⟨h.bel.trans (hb.mono h.bel.size),h.xb.below hb,h.yb.below hb,h.rb.below hb,h.vb.below hb,Zw h.own hb⟩
theorem ArI.app{w wr w1:World}{xa ya:List Value}{vv v':Value}{zs zs':List (Value×El)}(h:ArI w wr xa ya vv zs)(hg:wr.grownBy w1 vv.ownBlock)(ho:w1.ownsRow (w.heap.size+4) 128 2 v' zs'.length (Z6 zs')) :
  ArI w (w1.setCell ⟨w.heap.size+3,2,none⟩ v') xa ya v' zs':=by
 have hx:BAt w1 w.heap.size xa 76:=h.xb.ownGrown h.own hg (by decide)
 have hy:BAt w1 (w.heap.size+1) ya 76:=h.yb.ownGrown h.own hg (by decide)
 have hr:BAt w1 (w.heap.size+2) [.bool false,.int .i64 0,.slice none 0 0] 76:=h.rb.ownGrown h.own hg (by decide)
 have hv:BAt w1 (w.heap.size+3) [.bool false,.int .i64 0,vv] 76:=h.vb.ownGrown h.own hg (by decide)
 have hgg:∀j,j≠w.heap.size+3→(w1.setCell ⟨w.heap.size+3,2,none⟩ v').heap[j]?=w1.heap[j]?:=fun j hj=>Go.Deep.blk_setCell_other _ _ _ _ hj
 refine⟨(Zdi h.bel hg (fun q hq=>by have:=(h.own.lt q hq).1;omega)).setCell (p:=⟨w.heap.size+3,2,none⟩) (by show w.heap.size≤w.heap.size+3;omega) _,(hgg _ (by omega)).trans hx,(hgg _ (by omega)).trans hy,(hgg _ (by omega)).trans hr,?_,Zba ho (fun j hj=>hgg j (fun e=>ZE ho hv (by decide) (by rw[hj,e])))⟩
 unfold BAt at hv ⊢
 simp only[World.setCell,Array.getElem?_modify,hv,if_true,Option.map_some];rfl
theorem BAt.alloc{w:World}{a:Nat}{c:List Value}{t:TypeId}(h:BAt w a c t)(o:Obj):BAt (w.alloc o) a c t:=h.below Zbal
theorem ArI.start(w:World)(x0 x1 x2 y0 y1 y2:Value):ArI w ((((w.alloc (.cells #[x0,x1,x2] 76)).alloc (.cells #[y0,y1,y2] 76)).alloc (.cells #[.bool false,.int .i64 0,.slice none 0 0] 76)).alloc (.cells #[.bool false,.int .i64 0,.slice none 0 0] 76)) [x0,x1,x2] [y0,y1,y2] (.slice none 0 0) []:=by
 have g3:BAt (w.alloc (.cells #[x0,x1,x2] 76)) w.heap.size [x0,x1,x2] 76:=Go.Deep.blk_alloc_new w _
 have g2:BAt ((w.alloc (.cells #[x0,x1,x2] 76)).alloc (.cells #[y0,y1,y2] 76)) (w.heap.size+1) [y0,y1,y2] 76:=by
  have:=Go.Deep.blk_alloc_new (w.alloc (.cells #[x0,x1,x2] 76)) (.cells #[y0,y1,y2] 76)
  rwa [World.size_alloc]at this
 have g1:BAt (((w.alloc (.cells #[x0,x1,x2] 76)).alloc (.cells #[y0,y1,y2] 76)).alloc (.cells #[.bool false,.int .i64 0,.slice none 0 0] 76)) (w.heap.size+2) [.bool false,.int .i64 0,.slice none 0 0] 76:=by
  have:=Go.Deep.blk_alloc_new ((w.alloc (.cells #[x0,x1,x2] 76)).alloc (.cells #[y0,y1,y2] 76)) (.cells #[.bool false,.int .i64 0,.slice none 0 0] 76)
  rwa [World.size_alloc,World.size_alloc]at this
 have g0:=Go.Deep.blk_alloc_new (((w.alloc (.cells #[x0,x1,x2] 76)).alloc (.cells #[y0,y1,y2] 76)).alloc (.cells #[.bool false,.int .i64 0,.slice none 0 0] 76)) (.cells #[.bool false,.int .i64 0,.slice none 0 0] 76)
 rw[World.size_alloc,World.size_alloc,World.size_alloc]at g0
 exact⟨(by repeat first|exact Below.refl _ _|assumption|refine Below.alloc ?_ ?_ _|refine Below.setCell ?_ ?_ _|refine Zk ?_ _|refine Below.drew ?_|omega|(simp;omega)|simp),((g3.alloc _).alloc _).alloc _,(g2.alloc _).alloc _,g1.alloc _,g0,World.ownsRow_nil _ _ _ _⟩
theorem ZbS{W:World}{p:Addr}{v:Value}(h:W.cell? p=some v)(o:Obj):(W.alloc o).cell? p=some v:=by rw[World.cell?_alloc_some _ _ _ (by rw[h];rfl)];exact h
theorem ZbT{W w1:World}{r:Option Nat}(hg:W.grownBy w1 r){p:Addr}{v:Value}(h:W.cell? p=some v)(hne:some p.block≠r):w1.cell? p=some v:=(hg.cell_far p (World.block_lt_of_cell? W p h) hne).trans h
theorem ArI.done{w wr:World}{xa ya:List Value}{va:Option Addr}{vn vc:Nat}{os:List (Value×El)}(h:ArI w wr xa ya (.slice va vn vc) os)(hl:os.length≤1000000)(hok:∀z∈os,ElOk wr z) :
  BAt (set3 wr (w.heap.size+2) (.bool false) (.int .i64 0) (.slice va vn vc)) (w.heap.size+2) [.bool false,.int .i64 0,.slice va vn vc] 76∧ElsV (set3 wr (w.heap.size+2) (.bool false) (.int .i64 0) (.slice va vn vc)) (.slice va vn vc) os∧Below w.heap.size w (set3 wr (w.heap.size+2) (.bool false) (.int .i64 0) (.slice va vn vc)):=by
 have hb:Below w.heap.size w (set3 wr (w.heap.size+2) (.bool false) (.int .i64 0) (.slice va vn vc)):=(((h.bel.setCell (p:=⟨w.heap.size+2,0,none⟩) (by show w.heap.size≤w.heap.size+2;omega) _).setCell (p:=⟨w.heap.size+2,1,none⟩) (by show w.heap.size≤w.heap.size+2;omega) _).setCell (p:=⟨w.heap.size+2,2,none⟩) (by show w.heap.size≤w.heap.size+2;omega) _)
 refine⟨Zdr h.rb (x:=.bool false) (y:=.int .i64 0) (z:=.slice va vn vc),⟨Zba (ZdH h.own) (fun j hj=>ZdZ _ _ _ _ _ (fun e=>ZE h.own h.rb (by decide) (by rw[hj,e]))),hl,fun z hz=>?_⟩,hb⟩
 obtain⟨⟨qs,hq⟩,h2⟩:=hok z hz
 exact⟨⟨qs,Zba hq.own (fun j hj=>ZdZ _ _ _ _ _ (fun e=>ZE hq.own h.rb (by decide) (by rw[hj,e]))),hq.say,hq.len,hq.ok⟩,h2⟩
def svZ(op:Nat)(n:Int)(z:Value×El):Value×El:=(z.1,z.2.1,twoV op n z.2.2)
def vsZ(op:Nat)(n:Int)(z:Value×El):Value×El:=(z.1,z.2.1,twoV op z.2.2 n)
set_option linter.unusedSimpArgs false in
set_option maxRecDepth 100000 in
set_option maxHeartbeats 8000000 in
theorem ZlQ(op:Nat)(hop:op≤3)(n:Int)(hn:vOk n)(ea:Option Addr)(ec:Nat)(v:Value)(zs:List (Value×El))(w:World)(h:ElsV w v zs)(hzl:zs.length≤1000) :
  Calls Tryz.prog 57 #[.int .i64 op,.agg #[.bool true,.int .i64 n,.slice ea 0 ec],.agg #[.bool false,.int .i64 0,v]] w fun e w'=>∃v',e=.returned (.agg #[.bool false,.int .i64 0,v'])∧Hid (ElsV w' v' (zs.map (svZ op n)))∧Below w.heap.size w w':=by
 obtain⟨sa,sl,rfl⟩:=Zj h.own
 have HS:Hid (ElsV w (.slice sa zs.length sl) zs):=h
 have HVN:Hid (vOk n):=hn
 obtain⟨i0,hi,hz0,hz1,hz2⟩:=info_parts Tryz.infoREl
 clear h hn
 go_enter Tryz.func57,Tryz.ntmps57
 go_upto_region 2 with fail
 refine Z1 fun W0 hW0=>?_
 have HI0:Hid (ArI w W0 [.bool true,.int .i64 n,.slice ea 0 ec] [.bool false,.int .i64 0,.slice sa zs.length sl] (.slice none 0 0) []):=hid (by rw[hW0];exact ArI.start w _ _ _ _ _ _)
 clear hW0
 have x0:=HI0.xb.cell 0
 have y0:=HI0.yb.cell 0
 simp only[Zget]at x0 y0
 go_wp2
 clear x0 y0
 go_loopg [8] zs.length (fun gk v8 wr=>∃(k:Nat) (vv:Value),k≤zs.length∧gk=zs.length - k∧v8=.int .i64 k∧Hid (ArI w wr [.bool true,.int .i64 n,.slice ea 0 ec] [.bool false,.int .i64 0,.slice sa zs.length sl] vv ((zs.take k).map (svZ op n))))
 case atStart=>exact⟨0,_,Nat.zero_le _,rfl,rfl,HI0⟩
 case round=>
  clear HI0
  obtain⟨k,vv,hk,hgk,rfl,HI⟩:=hrel
  obtain⟨va,vc,hvv⟩:=Zj HI.own
  have hlk:((zs.take k).map (svZ op n)).length=k:=by rw[List.length_map,List.length_take];omega
  rw[hlk]at hvv
  subst hvv
  have y2:=HI.yb.cell 2
  simp only[Zget]at y2
  by_cases hlt:k<zs.length
  ·obtain⟨g,cpx,hg⟩:=Zy HS.own (by omega)
   injection hg with hg1 _ hg2
   subst hg1 hg2
   have HSr:Hid (ElsV wr (.slice (some ⟨g,0,none⟩) zs.length sl) zs):=HS.below HI.bel
   have r0:=Zn HSr.own _ _ (by rw[(ZbV zs k).1,List.getElem?_eq_getElem hlt];rfl)
   have r1:=Zn HSr.own _ _ (by rw[(ZbV zs k).2,List.getElem?_eq_getElem hlt];rfl)
   have hok:=HSr.ok _ (List.getElem_mem hlt)
   have HT:Hid ((zs.take (k+1)).map (svZ op n)=(zs.take k).map (svZ op n)++[svZ op n zs[k]]):=hid (by rw[List.take_succ_eq_append_getElem hlt,List.map_append];rfl)
   have hgl0:g<w.heap.size:=ZbJ HS.own
   generalize zs[k]=z at *
   obtain⟨zv,zl,zn⟩:=z
   obtain⟨⟨qz,hqz⟩,hzv⟩:=hok
   have HZV:Hid (vOk zn):=hzv
   simp only at r0 r1 hqz
   obtain⟨lz,cz,rfl⟩:=Zj hqz.own
   clear hqz hzv
   obtain⟨os,hos⟩:∃os,os=(zs.take k).map (svZ op n):=⟨_,rfl⟩
   rw[←hos]at HI hlk HT
   obtain⟨n1,hn1⟩:∃n1,n1=k:=⟨_,rfl⟩
   rw[←hn1]at HI hlk
   have hn1s:n1≤1000:=by omega
   have HLK:Hid (os.length=n1):=hlk
   obtain⟨XA,hXA⟩:∃XA:List Value,XA=[.bool true,.int .i64 n,.slice ea 0 ec]:=⟨_,rfl⟩
   obtain⟨YA,hYA⟩:∃YA:List Value,YA=[.bool false,.int .i64 0,.slice (some ⟨g,0,none⟩) zs.length sl]:=⟨_,rfl⟩
   have x1:=HI.xb.cell 1
   simp only[Zget]at x1
   rw[←hXA,←hYA]at HI
   have v2:=HI.vb.cell 2
   simp only[Zget]at v2
   have HXY:=hid (And.intro hXA hYA)
   have HNK:=hid (And.intro hn1 hos)
   have HGL:=hid hgl0
   have HOW:Hid (∀o,(wr.drew.alloc o).ownsRow (w.heap.size+4) 128 2 (.slice va n1 vc) n1 (Z6 os)):=hid (fun o=>by have:=HI.own;rw[HLK.out]at this;exact this.drew.alloc o)
   have HIW:Hid (∀o,ArI w (wr.drew.alloc o) XA YA (.slice va n1 vc) os):=hid (fun o=>HI.below (((Below.refl _ _).drew).alloc (Nat.le_refl _) _))
   have HBN:Hid (∀o,(wr.drew.alloc o).heap[wr.heap.size]?=some o):=hid (fun o=>Go.Deep.blk_alloc_new wr.drew o)
   have hzb:=HI.vb.lt
   clear hXA hYA hn1 hos hlk hgl0
   have hS0:wr.drew.cell? ⟨w.heap.size+1,2,none⟩=some (.slice (some ⟨g,0,none⟩) zs.length sl)∧wr.drew.cell? ⟨g,k*2,none⟩=some (.slice lz qz.length cz)∧wr.drew.cell? ⟨g,k*2+1,none⟩=some (.int .i64 zn)∧wr.drew.cell? ⟨w.heap.size,1,none⟩=some (.int .i64 n)∧wr.drew.cell? ⟨w.heap.size+3,2,none⟩=some (.slice va n1 vc):=⟨y2,r0,r1,x1,v2⟩
   have HSA:Hid (∀o,(wr.drew.cell? ⟨w.heap.size+1,2,none⟩=some (.slice (some ⟨g,0,none⟩) zs.length sl)∧wr.drew.cell? ⟨g,k*2,none⟩=some (.slice lz qz.length cz)∧wr.drew.cell? ⟨g,k*2+1,none⟩=some (.int .i64 zn)∧wr.drew.cell? ⟨w.heap.size,1,none⟩=some (.int .i64 n)∧wr.drew.cell? ⟨w.heap.size+3,2,none⟩=some (.slice va n1 vc))→((wr.drew.alloc o).cell? ⟨w.heap.size+1,2,none⟩=some (.slice (some ⟨g,0,none⟩) zs.length sl)∧(wr.drew.alloc o).cell? ⟨g,k*2,none⟩=some (.slice lz qz.length cz)∧(wr.drew.alloc o).cell? ⟨g,k*2+1,none⟩=some (.int .i64 zn)∧(wr.drew.alloc o).cell? ⟨w.heap.size,1,none⟩=some (.int .i64 n)∧(wr.drew.alloc o).cell? ⟨w.heap.size+3,2,none⟩=some (.slice va n1 vc))):=hid (fun o ⟨a,b,c,d,e⟩=>⟨ZbS a o,ZbS b o,ZbS c o,ZbS d o,ZbS e o⟩)
   have HSG : Hid (∀ W w1 : World, (W.cell? ⟨w.heap.size + 1, 2, none⟩ = some (.slice (some ⟨g, 0, none⟩) zs.length sl) ∧ W.cell? ⟨g, k * 2, none⟩ = some (.slice lz qz.length cz) ∧ W.cell? ⟨g, k * 2 + 1, none⟩ = some (.int .i64 zn) ∧ W.cell? ⟨w.heap.size, 1, none⟩ = some (.int .i64 n) ∧ W.cell? ⟨w.heap.size + 3, 2, none⟩ = some (.slice va n1 vc)) → W.grownBy w1 (Value.slice va n1 vc).ownBlock → (w1.cell? ⟨w.heap.size + 1, 2, none⟩ = some (.slice (some ⟨g, 0, none⟩) zs.length sl) ∧ w1.cell? ⟨g, k * 2, none⟩ = some (.slice lz qz.length cz) ∧ w1.cell? ⟨g, k * 2 + 1, none⟩ = some (.int .i64 zn) ∧ w1.cell? ⟨w.heap.size, 1, none⟩ = some (.int .i64 n) ∧ w1.cell? ⟨w.heap.size + 3, 2, none⟩ = some (.slice va n1 vc))) := hid (fun W w1 ⟨a, b, c, d, e⟩ hg => by
     have hno:∀j,j<w.heap.size+4→some j≠(Value.slice va n1 vc).ownBlock:=fun j hj he=>by have:=(HI.own.lt j he.symm).1;omega
     have:=HGL.out
     exact⟨ZbT hg a (hno _ (by show w.heap.size+1<_;omega)),ZbT hg b (hno _ (by show g<_;omega)),ZbT hg c (hno _ (by show g<_;omega)),ZbT hg d (hno _ (by show w.heap.size<_;omega)),ZbT hg e (hno _ (by show w.heap.size+3<_;omega))⟩)
   clear r0 r1 x1 v2
   go_upto_region 10 with fail
   clear y2
   refine Zc3 22 (fun w'=>w'.cell? ⟨w.heap.size+1,2,none⟩=some (.slice (some ⟨g,0,none⟩) zs.length sl)∧w'.cell? ⟨g,k*2,none⟩=some (.slice lz qz.length cz)∧w'.cell? ⟨g,k*2+1,none⟩=some (.int .i64 zn)∧w'.cell? ⟨w.heap.size,1,none⟩=some (.int .i64 n)∧w'.cell? ⟨w.heap.size+3,2,none⟩=some (.slice va n1 vc)) (by kernel_rfl) (by exact hS0) (fun hHeld=>?_)
   clear hS0
   refine Zd (i:=0) (d:=37) (v:=?v0) rfl rfl (by kernel_rfl) (fun _ _ _ h=>h) (Or.inl ⟨by rfl,?hy0⟩) hHeld ?rs0
   case hy0=>(intro w hSw;go_simp;try with_reducible rfl)
   case rs0=>
   try simp only[Act.put,Zset]
   refine Zd (i:=1) (d:=38) (v:=?v1) rfl rfl (by kernel_rfl) (fun _ _ _ h=>h) (Or.inl ⟨by rfl,?hy1⟩) hHeld ?rs1
   case hy1=>(intro w hSw;go_simp;try with_reducible rfl)
   case rs1=>
   try simp only[Act.put,Zset]
   refine Zd (i:=2) (d:=39) (v:=?v2) rfl rfl (by kernel_rfl) (fun _ _ _ h=>h) (Or.inl ⟨by rfl,?hy2⟩) hHeld ?rs2
   case hy2=>(intro w hSw;go_simp;try with_reducible rfl)
   case rs2=>
   try simp only[Act.put,Zset]
   refine Zd (i:=3) (d:=40) (v:=?v3) rfl rfl (by kernel_rfl) (fun _ _ _ h=>h) (Or.inl ⟨by rfl,?hy3⟩) hHeld ?rs3
   case hy3=>(intro w hSw;go_simp;try with_reducible rfl)
   case rs3=>
   try simp only[Act.put,Zset]
   refine Zd (i:=4) (d:=41) (v:=?v4) rfl rfl (by kernel_rfl) (fun _ _ _ h=>h) (Or.inl ⟨by rfl,?hy4⟩) hHeld ?rs4
   case hy4=>(intro w hSw;go_simp;try with_reducible rfl)
   case rs4=>
   try simp only[Act.put,Zset]
   refine Zd (i:=5) (d:=42) (v:=?v5) rfl rfl (by kernel_rfl) (fun _ _ _ h=>h) (Or.inl ⟨by rfl,?hy5⟩) hHeld ?rs5
   case hy5=>(intro w hSw;go_simp;try with_reducible rfl)
   case rs5=>
   try simp only[Act.put,Zset]
   refine Zd (i:=6) (d:=43) (v:=?v6) rfl rfl (by kernel_rfl) (fun _ _ _ h=>h) (Or.inl ⟨by rfl,?hy6⟩) hHeld ?rs6
   case hy6=>(intro w hSw;go_simp;try with_reducible rfl)
   case rs6=>
   try simp only[Act.put,Zset]
   refine Zd (i:=7) (d:=44) (v:=?v7) rfl rfl (by kernel_rfl) (fun _ _ _ h=>h) (Or.inl ⟨by rfl,?hy7⟩) hHeld ?rs7
   case hy7=>(intro w hSw;go_simp;try with_reducible rfl)
   case rs7=>
   try simp only[Act.put,Zset]
   refine Zd (i:=8) (d:=45) (v:=?v8) rfl rfl (by kernel_rfl) (fun _ _ _ h=>h) (Or.inl ⟨by rfl,?hy8⟩) hHeld ?rs8
   case hy8=>(intro w hSw;go_simp;try with_reducible rfl)
   case rs8=>
   try simp only[Act.put,Zset]
   refine Zd (i:=9) (d:=46) (v:=?v9) rfl rfl (by kernel_rfl) (fun _ _ _ h=>h) (Or.inl ⟨by rfl,?hy9⟩) hHeld ?rs9
   case hy9=>(intro w hSw;go_simp;try with_reducible rfl)
   case rs9=>
   try simp only[Act.put,Zset]
   refine Zd (i:=10) (d:=47) (v:=?v10) rfl rfl (by kernel_rfl) (fun _ _ _ h=>h) (Or.inl ⟨by rfl,?hy10⟩) hHeld ?rs10
   case hy10=>(intro w hSw;go_simp;try with_reducible rfl)
   case rs10=>
   try simp only[Act.put,Zset]
   refine Zd (i:=11) (d:=48) (v:=?v11) rfl rfl (by kernel_rfl) (fun _ _ _ h=>h) (Or.inl ⟨by rfl,?hy11⟩) hHeld ?rs11
   case hy11=>(intro w hSw;go_simp;try with_reducible rfl)
   case rs11=>
   try simp only[Act.put,Zset]
   refine Zd (i:=12) (d:=49) (v:=?v12) rfl rfl (by kernel_rfl) (fun _ _ _ h=>h) (Or.inl ⟨by rfl,?hy12⟩) hHeld ?rs12
   case hy12=>(intro w hSw;go_simp;try with_reducible rfl)
   case rs12=>
   try simp only[Act.put,Zset]
   refine Zd (i:=13) (d:=50) (v:=?v13) rfl rfl (by kernel_rfl) (fun _ _ _ h=>h) (Or.inl ⟨by rfl,?hy13⟩) hHeld ?rs13
   case hy13=>(intro w hSw;go_simp;try with_reducible rfl)
   case rs13=>
   try simp only[Act.put,Zset]
   refine Zd (i:=14) (d:=51) (v:=?v14) rfl rfl (by kernel_rfl) (fun _ _ _ h=>h) (Or.inl ⟨by rfl,?hy14⟩) hHeld ?rs14
   case hy14=>(intro w hSw;go_simp;try with_reducible rfl)
   case rs14=>
   try simp only[Act.put,Zset]
   refine Zd (i:=15) (d:=52) (v:=?v15) rfl rfl (by kernel_rfl) (fun _ _ _ h=>h) (Or.inl ⟨by rfl,?hy15⟩) hHeld ?rs15
   case hy15=>(intro w hSw;go_simp;try with_reducible rfl)
   case rs15=>
   try simp only[Act.put,Zset]
   refine Zd (i:=16) (d:=53) (v:=?v16) rfl rfl (by kernel_rfl) (fun _ _ _ h=>h) (Or.inl ⟨by rfl,?hy16⟩) hHeld ?rs16
   case hy16=>(intro w hSw;go_simp;try with_reducible rfl)
   case rs16=>
   try simp only[Act.put,Zset]
   refine Z0 (i:=17) (by kernel_rfl) rfl (fun K hK=>?_)
   go_simp
   refine(Zgo op hop n zn HVN.out HZV.out _).mono ?_
   rintro e w1 ⟨rfl,rfl⟩
   go_simp
   refine hK.out _ _ hHeld (fun hHeld=>?_)
   clear hK K
   try simp only[Act.put,Zset]
   refine Zd (i:=18) (d:=55) (v:=?v18) rfl rfl (by kernel_rfl) (fun _ _ _ h=>h) (Or.inl ⟨by rfl,?hy18⟩) hHeld ?rs18
   case hy18=>(intro w hSw;go_simp;try with_reducible rfl)
   case rs18=>
   try simp only[Act.put,Zset]
   refine Z0 (i:=19) (by kernel_rfl) rfl (fun K hK=>?_)
   go_simp
   refine hK.out _ _ (HSA.out _ hHeld) (fun hHeld=>?_)
   clear hK K
   try simp only[Act.put,Zset]
   refine Z0 (i:=20) (by kernel_rfl) rfl (fun K hK=>?_)
   refine ZdI rfl (.tmp 38) (.tmp 56) 74 rfl (w.heap.size+4) 128 i0 _ 2 32 Tryz.underlying74 hi hz0 hz1 hz2 rfl (by decide) (.slice va n1 vc) n1 (Z6 os) (by simp[Act.eval]) (by exact HOW.out _) ⟨wr.heap.size,0,none⟩ 1 1 [.slice lz qz.length cz,.int .i64 (twoV op n zn)] (by simp[Act.eval]) rfl ?h2 ?h3 ?h4 ?h5 ?h6 ?_
   case h2=>first|exact Zbg (HBN.out _)|exact Zbg rfl|exact ZdC (by first|simp|exact(World.cell?_alloc_at _ _ _ _ (by simp)).trans rfl) (by first|simp|exact(World.cell?_alloc_at _ _ _ _ (by simp)).trans rfl)
   case h3=>intro u hu;simp at hu;rcases hu with rfl|rfl <;> rfl
   case h4=>unfold maxLen;omega
   case h5=>omega
   case h6=>simp;omega
   intro v1 w1 hown1 hgrow1 _
   obtain⟨g1,cp1,hv1⟩:=Zy hown1 (by omega)
   subst hv1
   have HN:Hid (ArI w (w1.setCell ⟨w.heap.size+3,2,none⟩ (.slice (some ⟨g1,0,none⟩) (n1+1) cp1)) XA YA (.slice (some ⟨g1,0,none⟩) (n1+1) cp1) (os++[(.slice lz qz.length cz,zl,twoV op n zn)])):=hid ((HIW.out _).app (by exact hgrow1) (by rw[ZdQ,List.length_append,HLK.out];exact hown1))
   have hv9:BAt w1 (w.heap.size+3) [.bool false,.int .i64 0,.slice va n1 vc] 76:=(HIW.out _).vb.ownGrown (HOW.out _) hgrow1 (by decide)
   have hS1:=HSG.out _ w1 (by exact hHeld) (by exact hgrow1)
   refine hK.out _ _ hS1 (fun hHeld=>?_)
   clear hK K
   try simp only[Act.put,Zset]
   refine Zd (i:=21) (d:=58) (v:=?v21) rfl rfl (by kernel_rfl) (fun _ _ _ h=>h) (Or.inl ⟨by rfl,?hy21⟩) hHeld ?rs21
   case hy21=>(intro w hSw;go_simp;try with_reducible rfl)
   case rs21=>
   try simp only[Act.put,Zset]
   refine Zc9 (by kernel_rfl) (by kernel_rfl) rfl (by kernel_rfl) (fun K hK=>?_)
   have y2:=hv9.cell 2
   have yf:=hv9.frozen 2
   simp only[Zget]at y2
   clear hv9 hown1 hgrow1
   go_simp
   refine hK.out _ _ ?_
   clear hK K
   go_wp2
   go_roundg (zs.length - (k+1))
   case measure=>omega
   case rel=>exact⟨k+1,_,by omega,rfl,by go_num,hid (by rw[HT.out];obtain⟨hX,hY⟩:=HXY.out;rw[←hX,←hY];exact HN.out)⟩
  ·obtain rfl:k=zs.length:=by omega
   rw[List.take_length]at HI
   have b0:=HI.vb.cell 0
   have b1:=HI.vb.cell 1
   have b2:=HI.vb.cell 2
   have z0:=HI.rb.frozen 0
   have z1:=HI.rb.frozen 1
   have z2:=HI.rb.frozen 2
   have t0:=HI.rb.cell 0
   have t1:=HI.rb.cell 1
   have t2:=HI.rb.cell 2
   simp only[Zget]at b0 b1 b2 t0 t1 t2
   have HD := hid (HI.done (by rw [List.length_map]; omega) (fun z hz => by
     obtain⟨y,hy,rfl⟩:=List.mem_map.mp hz
     have:=(HS.ok y hy).below HI.bel
     exact⟨this.1,Zej _ _ _ HVN.out⟩))
   go_wp2
   change bodyPost _ _ _ _ _ (set3 wr (w.heap.size+2) (.bool false) (.int .i64 0) (.slice va zs.length vc))
   have s0:=HD.1.cell 0
   have s1:=HD.1.cell 1
   have s2:=HD.1.cell 2
   simp only[Zget]at s0 s1 s2
   have HEX:=hid HD.2.1
   have HBX:=hid HD.2.2
   clear HD
   generalize set3 wr (w.heap.size+2) (.bool false) (.int .i64 0) (.slice va zs.length vc)=WX at *
   exact bodyPost_ret (v:=.agg #[.bool false,.int .i64 0,.slice va zs.length vc]) (by simp[results,Tryz.results57,go_sem,s0,s1,s2]) rfl ⟨.slice va zs.length vc,rfl,HEX,HBX.out⟩
set_option linter.unusedSimpArgs false in
set_option maxRecDepth 100000 in
set_option maxHeartbeats 8000000 in
theorem ZlR(op:Nat)(hop:op≤3)(n:Int)(hn:vOk n)(ea:Option Addr)(ec:Nat)(v:Value)(zs:List (Value×El))(w:World)(h:ElsV w v zs)(hzl:zs.length≤1000) :
  Calls Tryz.prog 57 #[.int .i64 op,.agg #[.bool false,.int .i64 0,v],.agg #[.bool true,.int .i64 n,.slice ea 0 ec]] w fun e w'=>∃v',e=.returned (.agg #[.bool false,.int .i64 0,v'])∧Hid (ElsV w' v' (zs.map (vsZ op n)))∧Below w.heap.size w w':=by
 obtain⟨sa,sl,rfl⟩:=Zj h.own
 have HS:Hid (ElsV w (.slice sa zs.length sl) zs):=h
 have HVN:Hid (vOk n):=hn
 obtain⟨i0,hi,hz0,hz1,hz2⟩:=info_parts Tryz.infoREl
 clear h hn
 go_enter Tryz.func57,Tryz.ntmps57
 go_upto_region 2 with fail
 refine Z1 fun W0 hW0=>?_
 have HI0:Hid (ArI w W0 [.bool false,.int .i64 0,.slice sa zs.length sl] [.bool true,.int .i64 n,.slice ea 0 ec] (.slice none 0 0) []):=hid (by rw[hW0];exact ArI.start w _ _ _ _ _ _)
 clear hW0
 have x0:=HI0.xb.cell 0
 have y0:=HI0.yb.cell 0
 simp only[Zget]at x0 y0
 go_wp2
 clear x0 y0
 go_loopg [9] zs.length (fun gk v8 wr=>∃(k:Nat) (vv:Value),k≤zs.length∧gk=zs.length - k∧v8=.int .i64 k∧Hid (ArI w wr [.bool false,.int .i64 0,.slice sa zs.length sl] [.bool true,.int .i64 n,.slice ea 0 ec] vv ((zs.take k).map (vsZ op n))))
 case atStart=>exact⟨0,_,Nat.zero_le _,rfl,rfl,HI0⟩
 case round=>
  clear HI0
  obtain⟨k,vv,hk,hgk,rfl,HI⟩:=hrel
  obtain⟨va,vc,hvv⟩:=Zj HI.own
  have hlk:((zs.take k).map (vsZ op n)).length=k:=by rw[List.length_map,List.length_take];omega
  rw[hlk]at hvv
  subst hvv
  have y2:=HI.xb.cell 2
  have y0:=HI.yb.cell 0
  simp only[Zget]at y2 y0
  by_cases hlt:k<zs.length
  ·obtain⟨g,cpx,hg⟩:=Zy HS.own (by omega)
   injection hg with hg1 _ hg2
   subst hg1 hg2
   have HSr:Hid (ElsV wr (.slice (some ⟨g,0,none⟩) zs.length sl) zs):=HS.below HI.bel
   have r0:=Zn HSr.own _ _ (by rw[(ZbV zs k).1,List.getElem?_eq_getElem hlt];rfl)
   have r1:=Zn HSr.own _ _ (by rw[(ZbV zs k).2,List.getElem?_eq_getElem hlt];rfl)
   have hok:=HSr.ok _ (List.getElem_mem hlt)
   have HT:Hid ((zs.take (k+1)).map (vsZ op n)=(zs.take k).map (vsZ op n)++[vsZ op n zs[k]]):=hid (by rw[List.take_succ_eq_append_getElem hlt,List.map_append];rfl)
   have hgl0:g<w.heap.size:=ZbJ HS.own
   generalize zs[k]=z at *
   obtain⟨zv,zl,zn⟩:=z
   obtain⟨⟨qz,hqz⟩,hzv⟩:=hok
   have HZV:Hid (vOk zn):=hzv
   simp only at r0 r1 hqz
   obtain⟨lz,cz,rfl⟩:=Zj hqz.own
   clear hqz hzv
   obtain⟨os,hos⟩:∃os,os=(zs.take k).map (vsZ op n):=⟨_,rfl⟩
   rw[←hos]at HI hlk HT
   obtain⟨n1,hn1⟩:∃n1,n1=k:=⟨_,rfl⟩
   rw[←hn1]at HI hlk
   have hn1s:n1≤1000:=by omega
   have HLK:Hid (os.length=n1):=hlk
   obtain⟨XA,hXA⟩:∃XA:List Value,XA=[.bool false,.int .i64 0,.slice (some ⟨g,0,none⟩) zs.length sl]:=⟨_,rfl⟩
   obtain⟨YA,hYA⟩:∃YA:List Value,YA=[.bool true,.int .i64 n,.slice ea 0 ec]:=⟨_,rfl⟩
   have x1:=HI.yb.cell 1
   simp only[Zget]at x1
   rw[←hXA,←hYA]at HI
   have v2:=HI.vb.cell 2
   simp only[Zget]at v2
   have HXY:=hid (And.intro hXA hYA)
   have HNK:=hid (And.intro hn1 hos)
   have HGL:=hid hgl0
   have HOW:Hid (∀o,(wr.drew.alloc o).ownsRow (w.heap.size+4) 128 2 (.slice va n1 vc) n1 (Z6 os)):=hid (fun o=>by have:=HI.own;rw[HLK.out]at this;exact this.drew.alloc o)
   have HIW:Hid (∀o,ArI w (wr.drew.alloc o) XA YA (.slice va n1 vc) os):=hid (fun o=>HI.below (((Below.refl _ _).drew).alloc (Nat.le_refl _) _))
   have HBN:Hid (∀o,(wr.drew.alloc o).heap[wr.heap.size]?=some o):=hid (fun o=>Go.Deep.blk_alloc_new wr.drew o)
   have hzb:=HI.vb.lt
   clear hXA hYA hn1 hos hlk hgl0
   have hS0:wr.drew.cell? ⟨w.heap.size,2,none⟩=some (.slice (some ⟨g,0,none⟩) zs.length sl)∧wr.drew.cell? ⟨g,k*2,none⟩=some (.slice lz qz.length cz)∧wr.drew.cell? ⟨g,k*2+1,none⟩=some (.int .i64 zn)∧wr.drew.cell? ⟨w.heap.size+1,1,none⟩=some (.int .i64 n)∧wr.drew.cell? ⟨w.heap.size+3,2,none⟩=some (.slice va n1 vc):=⟨y2,r0,r1,x1,v2⟩
   have HSA:Hid (∀o,(wr.drew.cell? ⟨w.heap.size,2,none⟩=some (.slice (some ⟨g,0,none⟩) zs.length sl)∧wr.drew.cell? ⟨g,k*2,none⟩=some (.slice lz qz.length cz)∧wr.drew.cell? ⟨g,k*2+1,none⟩=some (.int .i64 zn)∧wr.drew.cell? ⟨w.heap.size+1,1,none⟩=some (.int .i64 n)∧wr.drew.cell? ⟨w.heap.size+3,2,none⟩=some (.slice va n1 vc))→((wr.drew.alloc o).cell? ⟨w.heap.size,2,none⟩=some (.slice (some ⟨g,0,none⟩) zs.length sl)∧(wr.drew.alloc o).cell? ⟨g,k*2,none⟩=some (.slice lz qz.length cz)∧(wr.drew.alloc o).cell? ⟨g,k*2+1,none⟩=some (.int .i64 zn)∧(wr.drew.alloc o).cell? ⟨w.heap.size+1,1,none⟩=some (.int .i64 n)∧(wr.drew.alloc o).cell? ⟨w.heap.size+3,2,none⟩=some (.slice va n1 vc))):=hid (fun o ⟨a,b,c,d,e⟩=>⟨ZbS a o,ZbS b o,ZbS c o,ZbS d o,ZbS e o⟩)
   have HSG : Hid (∀ W w1 : World, (W.cell? ⟨w.heap.size, 2, none⟩ = some (.slice (some ⟨g, 0, none⟩) zs.length sl) ∧ W.cell? ⟨g, k * 2, none⟩ = some (.slice lz qz.length cz) ∧ W.cell? ⟨g, k * 2 + 1, none⟩ = some (.int .i64 zn) ∧ W.cell? ⟨w.heap.size + 1, 1, none⟩ = some (.int .i64 n) ∧ W.cell? ⟨w.heap.size + 3, 2, none⟩ = some (.slice va n1 vc)) → W.grownBy w1 (Value.slice va n1 vc).ownBlock → (w1.cell? ⟨w.heap.size, 2, none⟩ = some (.slice (some ⟨g, 0, none⟩) zs.length sl) ∧ w1.cell? ⟨g, k * 2, none⟩ = some (.slice lz qz.length cz) ∧ w1.cell? ⟨g, k * 2 + 1, none⟩ = some (.int .i64 zn) ∧ w1.cell? ⟨w.heap.size + 1, 1, none⟩ = some (.int .i64 n) ∧ w1.cell? ⟨w.heap.size + 3, 2, none⟩ = some (.slice va n1 vc))) := hid (fun W w1 ⟨a, b, c, d, e⟩ hg => by
     have hno:∀j,j<w.heap.size+4→some j≠(Value.slice va n1 vc).ownBlock:=fun j hj he=>by have:=(HI.own.lt j he.symm).1;omega
     have:=HGL.out
     exact⟨ZbT hg a (hno _ (by show w.heap.size<_;omega)),ZbT hg b (hno _ (by show g<_;omega)),ZbT hg c (hno _ (by show g<_;omega)),ZbT hg d (hno _ (by show w.heap.size+1<_;omega)),ZbT hg e (hno _ (by show w.heap.size+3<_;omega))⟩)
   clear r0 r1 x1 v2
   go_upto_region 16 with fail
   clear y2 y0
   refine Zc3 22 (fun w'=>w'.cell? ⟨w.heap.size,2,none⟩=some (.slice (some ⟨g,0,none⟩) zs.length sl)∧w'.cell? ⟨g,k*2,none⟩=some (.slice lz qz.length cz)∧w'.cell? ⟨g,k*2+1,none⟩=some (.int .i64 zn)∧w'.cell? ⟨w.heap.size+1,1,none⟩=some (.int .i64 n)∧w'.cell? ⟨w.heap.size+3,2,none⟩=some (.slice va n1 vc)) (by kernel_rfl) (by exact hS0) (fun hHeld=>?_)
   clear hS0
   refine Zd (i:=0) (d:=69) (v:=?v0) rfl rfl (by kernel_rfl) (fun _ _ _ h=>h) (Or.inl ⟨by rfl,?hy0⟩) hHeld ?rs0
   case hy0=>(intro w hSw;go_simp;try with_reducible rfl)
   case rs0=>
   try simp only[Act.put,Zset]
   refine Zd (i:=1) (d:=70) (v:=?v1) rfl rfl (by kernel_rfl) (fun _ _ _ h=>h) (Or.inl ⟨by rfl,?hy1⟩) hHeld ?rs1
   case hy1=>(intro w hSw;go_simp;try with_reducible rfl)
   case rs1=>
   try simp only[Act.put,Zset]
   refine Zd (i:=2) (d:=71) (v:=?v2) rfl rfl (by kernel_rfl) (fun _ _ _ h=>h) (Or.inl ⟨by rfl,?hy2⟩) hHeld ?rs2
   case hy2=>(intro w hSw;go_simp;try with_reducible rfl)
   case rs2=>
   try simp only[Act.put,Zset]
   refine Zd (i:=3) (d:=72) (v:=?v3) rfl rfl (by kernel_rfl) (fun _ _ _ h=>h) (Or.inl ⟨by rfl,?hy3⟩) hHeld ?rs3
   case hy3=>(intro w hSw;go_simp;try with_reducible rfl)
   case rs3=>
   try simp only[Act.put,Zset]
   refine Zd (i:=4) (d:=73) (v:=?v4) rfl rfl (by kernel_rfl) (fun _ _ _ h=>h) (Or.inl ⟨by rfl,?hy4⟩) hHeld ?rs4
   case hy4=>(intro w hSw;go_simp;try with_reducible rfl)
   case rs4=>
   try simp only[Act.put,Zset]
   refine Zd (i:=5) (d:=74) (v:=?v5) rfl rfl (by kernel_rfl) (fun _ _ _ h=>h) (Or.inl ⟨by rfl,?hy5⟩) hHeld ?rs5
   case hy5=>(intro w hSw;go_simp;try with_reducible rfl)
   case rs5=>
   try simp only[Act.put,Zset]
   refine Zd (i:=6) (d:=75) (v:=?v6) rfl rfl (by kernel_rfl) (fun _ _ _ h=>h) (Or.inl ⟨by rfl,?hy6⟩) hHeld ?rs6
   case hy6=>(intro w hSw;go_simp;try with_reducible rfl)
   case rs6=>
   try simp only[Act.put,Zset]
   refine Zd (i:=7) (d:=76) (v:=?v7) rfl rfl (by kernel_rfl) (fun _ _ _ h=>h) (Or.inl ⟨by rfl,?hy7⟩) hHeld ?rs7
   case hy7=>(intro w hSw;go_simp;try with_reducible rfl)
   case rs7=>
   try simp only[Act.put,Zset]
   refine Zd (i:=8) (d:=77) (v:=?v8) rfl rfl (by kernel_rfl) (fun _ _ _ h=>h) (Or.inl ⟨by rfl,?hy8⟩) hHeld ?rs8
   case hy8=>(intro w hSw;go_simp;try with_reducible rfl)
   case rs8=>
   try simp only[Act.put,Zset]
   refine Zd (i:=9) (d:=78) (v:=?v9) rfl rfl (by kernel_rfl) (fun _ _ _ h=>h) (Or.inl ⟨by rfl,?hy9⟩) hHeld ?rs9
   case hy9=>(intro w hSw;go_simp;try with_reducible rfl)
   case rs9=>
   try simp only[Act.put,Zset]
   refine Zd (i:=10) (d:=79) (v:=?v10) rfl rfl (by kernel_rfl) (fun _ _ _ h=>h) (Or.inl ⟨by rfl,?hy10⟩) hHeld ?rs10
   case hy10=>(intro w hSw;go_simp;try with_reducible rfl)
   case rs10=>
   try simp only[Act.put,Zset]
   refine Zd (i:=11) (d:=80) (v:=?v11) rfl rfl (by kernel_rfl) (fun _ _ _ h=>h) (Or.inl ⟨by rfl,?hy11⟩) hHeld ?rs11
   case hy11=>(intro w hSw;go_simp;try with_reducible rfl)
   case rs11=>
   try simp only[Act.put,Zset]
   refine Zd (i:=12) (d:=81) (v:=?v12) rfl rfl (by kernel_rfl) (fun _ _ _ h=>h) (Or.inl ⟨by rfl,?hy12⟩) hHeld ?rs12
   case hy12=>(intro w hSw;go_simp;try with_reducible rfl)
   case rs12=>
   try simp only[Act.put,Zset]
   refine Zd (i:=13) (d:=82) (v:=?v13) rfl rfl (by kernel_rfl) (fun _ _ _ h=>h) (Or.inl ⟨by rfl,?hy13⟩) hHeld ?rs13
   case hy13=>(intro w hSw;go_simp;try with_reducible rfl)
   case rs13=>
   try simp only[Act.put,Zset]
   refine Zd (i:=14) (d:=83) (v:=?v14) rfl rfl (by kernel_rfl) (fun _ _ _ h=>h) (Or.inl ⟨by rfl,?hy14⟩) hHeld ?rs14
   case hy14=>(intro w hSw;go_simp;try with_reducible rfl)
   case rs14=>
   try simp only[Act.put,Zset]
   refine Zd (i:=15) (d:=84) (v:=?v15) rfl rfl (by kernel_rfl) (fun _ _ _ h=>h) (Or.inl ⟨by rfl,?hy15⟩) hHeld ?rs15
   case hy15=>(intro w hSw;go_simp;try with_reducible rfl)
   case rs15=>
   try simp only[Act.put,Zset]
   refine Zd (i:=16) (d:=85) (v:=?v16) rfl rfl (by kernel_rfl) (fun _ _ _ h=>h) (Or.inl ⟨by rfl,?hy16⟩) hHeld ?rs16
   case hy16=>(intro w hSw;go_simp;try with_reducible rfl)
   case rs16=>
   try simp only[Act.put,Zset]
   refine Z0 (i:=17) (by kernel_rfl) rfl (fun K hK=>?_)
   go_simp
   refine(Zgo op hop zn n HZV.out HVN.out _).mono ?_
   rintro e w1 ⟨rfl,rfl⟩
   go_simp
   refine hK.out _ _ hHeld (fun hHeld=>?_)
   clear hK K
   try simp only[Act.put,Zset]
   refine Zd (i:=18) (d:=87) (v:=?v18) rfl rfl (by kernel_rfl) (fun _ _ _ h=>h) (Or.inl ⟨by rfl,?hy18⟩) hHeld ?rs18
   case hy18=>(intro w hSw;go_simp;try with_reducible rfl)
   case rs18=>
   try simp only[Act.put,Zset]
   refine Z0 (i:=19) (by kernel_rfl) rfl (fun K hK=>?_)
   go_simp
   refine hK.out _ _ (HSA.out _ hHeld) (fun hHeld=>?_)
   clear hK K
   try simp only[Act.put,Zset]
   refine Z0 (i:=20) (by kernel_rfl) rfl (fun K hK=>?_)
   refine ZdI rfl (.tmp 70) (.tmp 88) 74 rfl (w.heap.size+4) 128 i0 _ 2 32 Tryz.underlying74 hi hz0 hz1 hz2 rfl (by decide) (.slice va n1 vc) n1 (Z6 os) (by simp[Act.eval]) (by exact HOW.out _) ⟨wr.heap.size,0,none⟩ 1 1 [.slice lz qz.length cz,.int .i64 (twoV op zn n)] (by simp[Act.eval]) rfl ?h2 ?h3 ?h4 ?h5 ?h6 ?_
   case h2=>first|exact Zbg (HBN.out _)|exact Zbg rfl|exact ZdC (by first|simp|exact(World.cell?_alloc_at _ _ _ _ (by simp)).trans rfl) (by first|simp|exact(World.cell?_alloc_at _ _ _ _ (by simp)).trans rfl)
   case h3=>intro u hu;simp at hu;rcases hu with rfl|rfl <;> rfl
   case h4=>unfold maxLen;omega
   case h5=>omega
   case h6=>simp;omega
   intro v1 w1 hown1 hgrow1 _
   obtain⟨g1,cp1,hv1⟩:=Zy hown1 (by omega)
   subst hv1
   have HN:Hid (ArI w (w1.setCell ⟨w.heap.size+3,2,none⟩ (.slice (some ⟨g1,0,none⟩) (n1+1) cp1)) XA YA (.slice (some ⟨g1,0,none⟩) (n1+1) cp1) (os++[(.slice lz qz.length cz,zl,twoV op zn n)])):=hid ((HIW.out _).app (by exact hgrow1) (by rw[ZdQ,List.length_append,HLK.out];exact hown1))
   have hv9:BAt w1 (w.heap.size+3) [.bool false,.int .i64 0,.slice va n1 vc] 76:=(HIW.out _).vb.ownGrown (HOW.out _) hgrow1 (by decide)
   have hS1:=HSG.out _ w1 (by exact hHeld) (by exact hgrow1)
   refine hK.out _ _ hS1 (fun hHeld=>?_)
   clear hK K
   try simp only[Act.put,Zset]
   refine Zd (i:=21) (d:=90) (v:=?v21) rfl rfl (by kernel_rfl) (fun _ _ _ h=>h) (Or.inl ⟨by rfl,?hy21⟩) hHeld ?rs21
   case hy21=>(intro w hSw;go_simp;try with_reducible rfl)
   case rs21=>
   try simp only[Act.put,Zset]
   refine Zc9 (by kernel_rfl) (by kernel_rfl) rfl (by kernel_rfl) (fun K hK=>?_)
   have y2:=hv9.cell 2
   have yf:=hv9.frozen 2
   simp only[Zget]at y2
   clear hv9 hown1 hgrow1
   go_simp
   refine hK.out _ _ ?_
   clear hK K
   go_wp2
   go_roundg (zs.length - (k+1))
   case measure=>omega
   case rel=>exact⟨k+1,_,by omega,rfl,by go_num,hid (by rw[HT.out];obtain⟨hX,hY⟩:=HXY.out;rw[←hX,←hY];exact HN.out)⟩
  ·obtain rfl:k=zs.length:=by omega
   rw[List.take_length]at HI
   have b0:=HI.vb.cell 0
   have b1:=HI.vb.cell 1
   have b2:=HI.vb.cell 2
   have z0:=HI.rb.frozen 0
   have z1:=HI.rb.frozen 1
   have z2:=HI.rb.frozen 2
   have t0:=HI.rb.cell 0
   have t1:=HI.rb.cell 1
   have t2:=HI.rb.cell 2
   simp only[Zget]at b0 b1 b2 t0 t1 t2
   have HD := hid (HI.done (by rw [List.length_map]; omega) (fun z hz => by
     obtain⟨y,hy,rfl⟩:=List.mem_map.mp hz
     have:=(HS.ok y hy).below HI.bel
     exact⟨this.1,Zej _ _ _ this.2⟩))
   go_wp2
   change bodyPost _ _ _ _ _ (set3 wr (w.heap.size+2) (.bool false) (.int .i64 0) (.slice va zs.length vc))
   have s0:=HD.1.cell 0
   have s1:=HD.1.cell 1
   have s2:=HD.1.cell 2
   simp only[Zget]at s0 s1 s2
   have HEX:=hid HD.2.1
   have HBX:=hid HD.2.2
   clear HD
   generalize set3 wr (w.heap.size+2) (.bool false) (.int .i64 0) (.slice va zs.length vc)=WX at *
   exact bodyPost_ret (v:=.agg #[.bool false,.int .i64 0,.slice va zs.length vc]) (by simp[results,Tryz.results57,go_sem,s0,s1,s2]) rfl ⟨.slice va zs.length vc,rfl,HEX,HBX.out⟩
end Go.Proofs.YtpbemaaghbbocaaGreatDoor

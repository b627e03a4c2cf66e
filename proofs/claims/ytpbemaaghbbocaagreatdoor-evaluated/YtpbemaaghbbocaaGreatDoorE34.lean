/- Parts. -/
import Derived.Test.YtpbemaaghbbocaaGreatDoorE31
import Derived.Test.YtpbemaaghbbocaaGreatDoorE32
import Derived.Test.YtpbemaaghbbocaaGreatDoorE33
import Derived.Test.YtpbemaaghbbocaaGreatDoorE16
namespace Go.Proofs.YtpbemaaghbbocaaGreatDoor
open Go.RowKit LS
def negZ(z:Value×El):Value×El:=(z.1,z.2.1,-z.2.2)
structure NegI (w wr:World) (sc:Bool) (n m:Int) (xv vv:Value) (zs:List (Value×El)):Prop where
 bel:Below w.heap.size w wr
 xb:BAt wr w.heap.size [.bool sc,.int .i64 n,xv] 76
 rb:BAt wr (w.heap.size+1) [.bool false,.int .i64 0,.slice none 0 0] 76
 vb:BAt wr (w.heap.size+2) [.bool sc,.int .i64 m,vv] 76
 own:wr.ownsRow (w.heap.size+3) 128 2 vv zs.length (Z6 zs)
theorem NegI.below{w wr w':World}{sc:Bool}{n m:Int}{xv vv:Value}{zs:List (Value×El)}(h:NegI w wr sc n m xv vv zs)(hb:Below wr.heap.size wr w'):NegI w w' sc n m xv vv zs:=
 ⟨h.bel.trans (hb.mono h.bel.size),h.xb.below hb,h.rb.below hb,h.vb.below hb,Zw h.own hb⟩
theorem NegI.app{w wr w1:World}{sc:Bool}{n m:Int}{xv vv v':Value}{zs zs':List (Value×El)}(h:NegI w wr sc n m xv vv zs)(hg:wr.grownBy w1 vv.ownBlock)(ho:w1.ownsRow (w.heap.size+3) 128 2 v' zs'.length (Z6 zs')) :
  NegI w (w1.setCell ⟨w.heap.size+2,2,none⟩ v') sc n m xv v' zs':=by
 have hx:BAt w1 w.heap.size [.bool sc,.int .i64 n,xv] 76:=h.xb.ownGrown h.own hg (by decide)
 have hr:BAt w1 (w.heap.size+1) [.bool false,.int .i64 0,.slice none 0 0] 76:=h.rb.ownGrown h.own hg (by decide)
 have hv:BAt w1 (w.heap.size+2) [.bool sc,.int .i64 m,vv] 76:=h.vb.ownGrown h.own hg (by decide)
 have hgg:∀j,j≠w.heap.size+2→(w1.setCell ⟨w.heap.size+2,2,none⟩ v').heap[j]?=w1.heap[j]?:=fun j hj=>Go.Deep.blk_setCell_other _ _ _ _ hj
 refine⟨(Zdi h.bel hg (fun q hq=>by have:=(h.own.lt q hq).1;omega)).setCell (p:=⟨w.heap.size+2,2,none⟩) (by show w.heap.size≤w.heap.size+2;omega) _,(hgg _ (by omega)).trans hx,(hgg _ (by omega)).trans hr,?_,Zba ho (fun j hj=>hgg j (fun e=>ZE ho hv (by decide) (by rw[hj,e])))⟩
 unfold BAt at hv ⊢
 simp only[World.setCell,Array.getElem?_modify,hv,if_true,Option.map_some];rfl
set_option linter.unusedSimpArgs false in
set_option maxRecDepth 100000 in
set_option maxHeartbeats 4000000 in
theorem Zj0(sc:Bool)(n:Int)(hn:vOk n)(v:Value)(zs:List (Value×El))(w:World)(h:ElsV w v zs)(hzl:zs.length≤1000) :
  Calls Tryz.prog 55 #[.agg #[.bool sc,.int .i64 n,v]] w fun e w'=>∃v',e=.returned (.agg #[.bool sc,.int .i64 (-n),v'])∧Hid (ElsV w' v' (zs.map negZ))∧Below w.heap.size w w':=by
 obtain⟨sa,sl,rfl⟩:=Zj h.own
 have HS:Hid (ElsV w (.slice sa zs.length sl) zs):=h
 obtain⟨hn1,hn2⟩:=hn
 obtain⟨m,hm⟩:∃m,m=-n:=⟨_,rfl⟩
 have hmw:IntKind.i64.wrap (-n)=m:=by rw[hm,IntKind.wrap_i64];omega
 obtain⟨i0,hi,hz0,hz1,hz2⟩:=info_parts Tryz.infoREl
 rw[←hm]
 clear h
 go_enter Tryz.func55,Tryz.ntmps55
 go_upto_region 2 with fail
 refine Z1 fun W0 hW0=>?_
 rw[←hm]at hW0
 have HI0:Hid (NegI w W0 sc n m (.slice sa zs.length sl) (.slice none 0 0) []):=hid (by
  rw[hW0]
  have g1:=Go.Deep.blk_alloc_new ((w.alloc (.cells #[.bool sc,.int .i64 n,.slice sa zs.length sl] 76)).alloc (.cells #[.bool false,.int .i64 0,.slice none 0 0] 76)) (.cells #[.bool sc,.int .i64 m,.slice none 0 0] 76)
  have g2:=Go.Deep.blk_alloc_new (w.alloc (.cells #[.bool sc,.int .i64 n,.slice sa zs.length sl] 76)) (.cells #[.bool false,.int .i64 0,.slice none 0 0] 76)
  have g3:=Go.Deep.blk_alloc_new w (.cells #[.bool sc,.int .i64 n,.slice sa zs.length sl] 76)
  rw[World.size_alloc,World.size_alloc]at g1
  rw[World.size_alloc]at g2
  refine⟨?_,?_,?_,g1,World.ownsRow_nil _ _ _ _⟩
  ·exact(by repeat first|exact Below.refl _ _|assumption|refine Below.alloc ?_ ?_ _|refine Below.setCell ?_ ?_ _|refine Zk ?_ _|refine Below.drew ?_|omega|(simp;omega)|simp)
  ·exact((((Below.refl (w.heap.size+1) _).alloc (by simp) _).alloc (by simp) _).block _ (by omega)).trans g3
  ·exact(((Below.refl (w.heap.size+2) _).alloc (by simp) _).block _ (by omega)).trans g2)
 have HMM:=hid hm
 clear hW0 hmw hm
 generalize hmn : -n=mn
 have hmm:m=mn:=by rw[HMM.out,hmn]
 clear hmn
 subst hmm
 go_wp2
 go_loopg [4] zs.length (fun gk v4 wr=>∃(k:Nat) (vv:Value),k≤zs.length∧gk=zs.length - k∧v4=.int .i64 k∧Hid (NegI w wr sc n m (.slice sa zs.length sl) vv ((zs.take k).map negZ)))
 case atStart=>exact⟨0,_,Nat.zero_le _,rfl,rfl,HI0⟩
 case round=>
  clear HI0
  obtain⟨k,vv,hk,hgk,rfl,HI⟩:=hrel
  obtain⟨va,vc,hvv⟩:=Zj HI.own
  have hlk:((zs.take k).map negZ).length=k:=by rw[List.length_map,List.length_take];omega
  rw[hlk]at hvv
  subst hvv
  have x2:=HI.xb.cell 2
  have v2:=HI.vb.cell 2
  have vf:=HI.vb.frozen 2
  simp only[Zget]at x2 v2
  have HLK:=hid hlk
  clear hlk
  by_cases hlt:k<zs.length
  ·obtain⟨g,cpx,hg⟩:=Zy HS.own (by omega)
   injection hg with hg1 _ hg2
   subst hg1 hg2
   have HSr:Hid (ElsV wr (.slice (some ⟨g,0,none⟩) zs.length sl) zs):=HS.below HI.bel
   have r0:=Zn HSr.own _ _ (by rw[(ZbV zs k).1,List.getElem?_eq_getElem hlt];rfl)
   have r1:=Zn HSr.own _ _ (by rw[(ZbV zs k).2,List.getElem?_eq_getElem hlt];rfl)
   have hok:=HSr.ok _ (List.getElem_mem hlt)
   have HT:Hid ((zs.take (k+1)).map negZ=(zs.take k).map negZ++[negZ zs[k]]):=hid (by rw[List.take_succ_eq_append_getElem hlt,List.map_append];rfl)
   generalize zs[k]=z at *
   obtain⟨zv,zl,zn⟩:=z
   obtain⟨⟨qz,hqz⟩,hzv1,hzv2⟩:=hok
   simp only at r0 r1 hqz hzv1 hzv2
   obtain⟨lz,cz,rfl⟩:=Zj hqz.own
   clear hqz
   obtain⟨zm,hzm⟩:∃zm,zm=-zn:=⟨_,rfl⟩
   have hzw:IntKind.i64.wrap (-zn)=zm:=by rw[hzm,IntKind.wrap_i64];omega
   have HT2:Hid ((zs.take (k+1)).map negZ=(zs.take k).map negZ++[(.slice lz qz.length cz,zl,zm)]):=hid (by rw[HT.out,hzm];rfl)
   have HOW:Hid (∀o,(wr.alloc o).drew.ownsRow (w.heap.size+3) 128 2 (.slice va k vc) k (Z6 ((zs.take k).map negZ))):=hid (fun o=>by have:=HI.own;rw[HLK.out]at this;exact(this.alloc o).drew)
   have HIW:Hid (∀o,NegI w (wr.alloc o).drew sc n m (.slice (some ⟨g,0,none⟩) zs.length sl) (.slice va k vc) ((zs.take k).map negZ)):=hid (fun o=>HI.below (Below.drew Zbal))
   have HBN:Hid (∀o,(wr.alloc o).drew.heap[wr.heap.size]?=some o):=hid (fun o=>Go.Deep.blk_alloc_new wr o)
   have hzb:=HI.vb.lt
   clear hzm
   have hgl0:g<w.heap.size:=ZbJ HS.own
   have hS0:wr.drew.cell? ⟨w.heap.size,2,none⟩=some (.slice (some ⟨g,0,none⟩) zs.length sl)∧wr.drew.cell? ⟨g,k*2,none⟩=some (.slice lz qz.length cz)∧wr.drew.cell? ⟨g,k*2+1,none⟩=some (.int .i64 zn)∧wr.drew.cell? ⟨w.heap.size+2,2,none⟩=some (.slice va k vc):=⟨x2,r0,r1,v2⟩
   have HSA:Hid (∀o,(wr.drew.cell? ⟨w.heap.size,2,none⟩=some (.slice (some ⟨g,0,none⟩) zs.length sl)∧wr.drew.cell? ⟨g,k*2,none⟩=some (.slice lz qz.length cz)∧wr.drew.cell? ⟨g,k*2+1,none⟩=some (.int .i64 zn)∧wr.drew.cell? ⟨w.heap.size+2,2,none⟩=some (.slice va k vc))→((wr.drew.alloc o).cell? ⟨w.heap.size,2,none⟩=some (.slice (some ⟨g,0,none⟩) zs.length sl)∧(wr.drew.alloc o).cell? ⟨g,k*2,none⟩=some (.slice lz qz.length cz)∧(wr.drew.alloc o).cell? ⟨g,k*2+1,none⟩=some (.int .i64 zn)∧(wr.drew.alloc o).cell? ⟨w.heap.size+2,2,none⟩=some (.slice va k vc))):=hid (fun o ⟨a,b,c,d⟩=>⟨ZbS a o,ZbS b o,ZbS c o,ZbS d o⟩)
   have HSG : Hid (∀ W w1 : World, (W.cell? ⟨w.heap.size, 2, none⟩ = some (.slice (some ⟨g, 0, none⟩) zs.length sl) ∧ W.cell? ⟨g, k * 2, none⟩ = some (.slice lz qz.length cz) ∧ W.cell? ⟨g, k * 2 + 1, none⟩ = some (.int .i64 zn) ∧ W.cell? ⟨w.heap.size + 2, 2, none⟩ = some (.slice va k vc)) → W.grownBy w1 (Value.slice va k vc).ownBlock → (w1.cell? ⟨w.heap.size, 2, none⟩ = some (.slice (some ⟨g, 0, none⟩) zs.length sl) ∧ w1.cell? ⟨g, k * 2, none⟩ = some (.slice lz qz.length cz) ∧ w1.cell? ⟨g, k * 2 + 1, none⟩ = some (.int .i64 zn) ∧ w1.cell? ⟨w.heap.size + 2, 2, none⟩ = some (.slice va k vc))) := hid (fun W w1 ⟨a, b, c, d⟩ hg => by
     have hno:∀j,j<w.heap.size+3→some j≠(Value.slice va k vc).ownBlock:=fun j hj he=>by have:=(HI.own.lt j he.symm).1;omega
     exact⟨ZbT hg a (hno _ (by show w.heap.size<_;omega)),ZbT hg b (hno _ (by show g<_;omega)),ZbT hg c (hno _ (by show g<_;omega)),ZbT hg d (hno _ (by show w.heap.size+2<_;omega))⟩)
   have HOW2:Hid (∀o,(wr.drew.alloc o).ownsRow (w.heap.size+3) 128 2 (.slice va k vc) k (Z6 ((zs.take k).map negZ))):=HOW
   have HIW2:Hid (∀o,NegI w (wr.drew.alloc o) sc n m (.slice (some ⟨g,0,none⟩) zs.length sl) (.slice va k vc) ((zs.take k).map negZ)):=HIW
   have HBN2:Hid (∀o,(wr.drew.alloc o).heap[wr.heap.size]?=some o):=HBN
   clear HOW HIW HBN hgl0 r0 r1 v2 vf
   go_upto_region 5 with fail
   clear x2
   refine Zc3 19 (fun w'=>w'.cell? ⟨w.heap.size,2,none⟩=some (.slice (some ⟨g,0,none⟩) zs.length sl)∧w'.cell? ⟨g,k*2,none⟩=some (.slice lz qz.length cz)∧w'.cell? ⟨g,k*2+1,none⟩=some (.int .i64 zn)∧w'.cell? ⟨w.heap.size+2,2,none⟩=some (.slice va k vc)) (by kernel_rfl) (by exact hS0) (fun hHeld=>?_)
   clear hS0
   refine Zd (i:=0) (d:=18) (v:=?v0) rfl rfl (by kernel_rfl) (fun _ _ _ h=>h) (Or.inl ⟨by rfl,?hy0⟩) hHeld ?rs0
   case hy0=>(intro w hSw;go_simp;try with_reducible rfl)
   case rs0=>
   try simp only[Act.put,Zset]
   refine Zd (i:=1) (d:=19) (v:=?v1) rfl rfl (by kernel_rfl) (fun _ _ _ h=>h) (Or.inl ⟨by rfl,?hy1⟩) hHeld ?rs1
   case hy1=>(intro w hSw;go_simp;try with_reducible rfl)
   case rs1=>
   try simp only[Act.put,Zset]
   refine Zd (i:=2) (d:=20) (v:=?v2) rfl rfl (by kernel_rfl) (fun _ _ _ h=>h) (Or.inl ⟨by rfl,?hy2⟩) hHeld ?rs2
   case hy2=>(intro w hSw;go_simp;try with_reducible rfl)
   case rs2=>
   try simp only[Act.put,Zset]
   refine Zd (i:=3) (d:=21) (v:=?v3) rfl rfl (by kernel_rfl) (fun _ _ _ h=>h) (Or.inl ⟨by rfl,?hy3⟩) hHeld ?rs3
   case hy3=>(intro w hSw;go_simp;try with_reducible rfl)
   case rs3=>
   try simp only[Act.put,Zset]
   refine Zd (i:=4) (d:=22) (v:=?v4) rfl rfl (by kernel_rfl) (fun _ _ _ h=>h) (Or.inl ⟨by rfl,?hy4⟩) hHeld ?rs4
   case hy4=>(intro w hSw;go_simp;try with_reducible rfl)
   case rs4=>
   try simp only[Act.put,Zset]
   refine Zd (i:=5) (d:=23) (v:=?v5) rfl rfl (by kernel_rfl) (fun _ _ _ h=>h) (Or.inl ⟨by rfl,?hy5⟩) hHeld ?rs5
   case hy5=>(intro w hSw;go_simp;try with_reducible rfl)
   case rs5=>
   try simp only[Act.put,Zset]
   refine Zd (i:=6) (d:=24) (v:=?v6) rfl rfl (by kernel_rfl) (fun _ _ _ h=>h) (Or.inl ⟨by rfl,?hy6⟩) hHeld ?rs6
   case hy6=>(intro w hSw;go_simp;try with_reducible rfl)
   case rs6=>
   try simp only[Act.put,Zset]
   refine Zd (i:=7) (d:=25) (v:=?v7) rfl rfl (by kernel_rfl) (fun _ _ _ h=>h) (Or.inl ⟨by rfl,?hy7⟩) hHeld ?rs7
   case hy7=>(intro w hSw;go_simp;try with_reducible rfl)
   case rs7=>
   try simp only[Act.put,Zset]
   refine Zd (i:=8) (d:=26) (v:=?v8) rfl rfl (by kernel_rfl) (fun _ _ _ h=>h) (Or.inl ⟨by rfl,?hy8⟩) hHeld ?rs8
   case hy8=>(intro w hSw;go_simp;try with_reducible rfl)
   case rs8=>
   try simp only[Act.put,Zset]
   refine Zd (i:=9) (d:=27) (v:=?v9) rfl rfl (by kernel_rfl) (fun _ _ _ h=>h) (Or.inl ⟨by rfl,?hy9⟩) hHeld ?rs9
   case hy9=>(intro w hSw;go_simp;try with_reducible rfl)
   case rs9=>
   try simp only[Act.put,Zset]
   refine Zd (i:=10) (d:=28) (v:=?v10) rfl rfl (by kernel_rfl) (fun _ _ _ h=>h) (Or.inl ⟨by rfl,?hy10⟩) hHeld ?rs10
   case hy10=>(intro w hSw;go_simp;try with_reducible rfl)
   case rs10=>
   try simp only[Act.put,Zset]
   refine Zd (i:=11) (d:=29) (v:=?v11) rfl rfl (by kernel_rfl) (fun _ _ _ h=>h) (Or.inl ⟨by rfl,?hy11⟩) hHeld ?rs11
   case hy11=>(intro w hSw;go_simp;try with_reducible rfl)
   case rs11=>
   try simp only[Act.put,Zset]
   refine Zd (i:=12) (d:=30) (v:=?v12) rfl rfl (by kernel_rfl) (fun _ _ _ h=>h) (Or.inl ⟨by rfl,?hy12⟩) hHeld ?rs12
   case hy12=>(intro w hSw;go_simp;try with_reducible rfl)
   case rs12=>
   try simp only[Act.put,Zset]
   refine Zd (i:=13) (d:=31) (v:=?v13) rfl rfl (by kernel_rfl) (fun _ _ _ h=>h) (Or.inl ⟨by rfl,?hy13⟩) hHeld ?rs13
   case hy13=>(intro w hSw;go_simp;try with_reducible rfl)
   case rs13=>
   try simp only[Act.put,Zset]
   refine Zd (i:=14) (d:=32) (v:=?v14) rfl rfl (by kernel_rfl) (fun _ _ _ h=>h) (Or.inl ⟨by rfl,?hy14⟩) hHeld ?rs14
   case hy14=>(intro w hSw;go_simp;try with_reducible rfl)
   case rs14=>
   try simp only[Act.put,Zset]
   refine Zd (i:=15) (d:=33) (v:=?v15) rfl rfl (by kernel_rfl) (fun _ _ _ h=>h) (Or.inl ⟨by rfl,?hy15⟩) hHeld ?rs15
   case hy15=>(intro w hSw;go_simp;try with_reducible rfl)
   case rs15=>
   try simp only[Act.put,Zset]
   refine Z0 (i:=16) (by kernel_rfl) rfl (fun K hK=>?_)
   go_simp
   refine hK.out _ _ (HSA.out _ hHeld) (fun hHeld=>?_)
   clear hK K
   try simp only[Act.put,Zset]
   refine Z0 (i:=17) (by kernel_rfl) rfl (fun K hK=>?_)
   refine ZdI rfl (.tmp 19) (.tmp 34) 74 rfl (w.heap.size+3) 128 i0 _ 2 32 Tryz.underlying74 hi hz0 hz1 hz2 rfl (by decide) (.slice va k vc) k (Z6 ((zs.take k).map negZ)) (by simp[Act.eval]) (by exact HOW2.out _) ⟨wr.heap.size,0,none⟩ 1 1 [.slice lz qz.length cz,.int .i64 zm] (by simp[Act.eval]) rfl ?h2 ?h3 ?h4 ?h5 ?h6 ?_
   case h2=>first|exact Zbg (HBN2.out _)|exact Zbg rfl|exact ZdC (by first|simp|exact(World.cell?_alloc_at _ _ _ _ (by simp)).trans rfl) (by first|simp|exact(World.cell?_alloc_at _ _ _ _ (by simp)).trans rfl)
   case h3=>intro u hu;simp at hu;rcases hu with rfl|rfl <;> rfl
   case h4=>unfold maxLen;omega
   case h5=>omega
   case h6=>simp;omega
   intro v1 w1 hown1 hgrow1 _
   obtain⟨g1,cp1,hv1⟩:=Zy hown1 (by omega)
   subst hv1
   have HN:Hid (NegI w (w1.setCell ⟨w.heap.size+2,2,none⟩ (.slice (some ⟨g1,0,none⟩) (k+1) cp1)) sc n m (.slice (some ⟨g,0,none⟩) zs.length sl) (.slice (some ⟨g1,0,none⟩) (k+1) cp1) ((zs.take (k+1)).map negZ)):=hid ((HIW2.out _).app (by exact hgrow1) (by rw[HT2.out,ZdQ,List.length_append,HLK.out];exact hown1))
   have hv9:BAt w1 (w.heap.size+2) [.bool sc,.int .i64 m,.slice va k vc] 76:=(HIW2.out _).vb.ownGrown (HOW2.out _) hgrow1 (by decide)
   have hS1:=HSG.out _ w1 (by exact hHeld) (by exact hgrow1)
   refine hK.out _ _ hS1 (fun hHeld=>?_)
   clear hK K
   try simp only[Act.put,Zset]
   refine Zd (i:=18) (d:=36) (v:=?v18) rfl rfl (by kernel_rfl) (fun _ _ _ h=>h) (Or.inl ⟨by rfl,?hy18⟩) hHeld ?rs18
   case hy18=>(intro w hSw;go_simp;try with_reducible rfl)
   case rs18=>
   try simp only[Act.put,Zset]
   refine Zc9 (by kernel_rfl) (by kernel_rfl) rfl (by kernel_rfl) (fun K hK=>?_)
   have y2:=hv9.cell 2
   have yf:=hv9.frozen 2
   simp only[Zget]at y2
   clear hv9 hown1 hgrow1
   go_simp
   refine hK.out _ _ ?_
   clear hK K
   go_wp2
   go_roundg (zs.length - (k+1))
   case measure=>omega
   case rel=>exact⟨k+1,_,by omega,rfl,by go_num,HN⟩
  ·obtain rfl:k=zs.length:=by omega
   rw[List.take_length]at HI
   rw[List.take_length]at HLK
   have b0:=HI.vb.cell 0
   have b1:=HI.vb.cell 1
   have y0:=HI.rb.frozen 0
   have y1:=HI.rb.frozen 1
   have y2:=HI.rb.frozen 2
   have t0:=HI.rb.cell 0
   have t1:=HI.rb.cell 1
   have t2:=HI.rb.cell 2
   simp only[Zget]at b0 b1 t0 t1 t2
   go_wp2
   change bodyPost _ _ _ _ _ (set3 wr (w.heap.size+1) (.bool sc) (.int .i64 m) (.slice va zs.length vc))
   have s9:=Zdr HI.rb (x:=.bool sc) (y:=.int .i64 m) (z:=.slice va zs.length vc)
   have s0:=s9.cell 0
   have s1:=s9.cell 1
   have s2:=s9.cell 2
   simp only[Zget]at s0 s1 s2
   have HBX:Hid (Below w.heap.size w (set3 wr (w.heap.size+1) (.bool sc) (.int .i64 m) (.slice va zs.length vc))):=hid (((HI.bel.setCell (p:=⟨w.heap.size+1,0,none⟩) (by show w.heap.size≤w.heap.size+1;omega) _).setCell (p:=⟨w.heap.size+1,1,none⟩) (by show w.heap.size≤w.heap.size+1;omega) _).setCell (p:=⟨w.heap.size+1,2,none⟩) (by show w.heap.size≤w.heap.size+1;omega) _)
   have HEX:Hid (ElsV (set3 wr (w.heap.size+1) (.bool sc) (.int .i64 m) (.slice va zs.length vc)) (.slice va zs.length vc) (zs.map negZ)):=hid (by
    refine⟨Zba (ZdH HI.own) (fun j hj=>ZdZ _ _ _ _ _ (fun e=>ZE HI.own HI.rb (by decide) (by rw[hj,e]))),by rw[List.length_map];omega,fun z hz=>?_⟩
    obtain⟨y,hy,rfl⟩:=List.mem_map.mp hz
    have:=(HS.ok y hy).below HBX.out
    exact⟨this.1,by have:=this.2;unfold vOk at *;unfold negZ;simp only;omega⟩)
   generalize set3 wr (w.heap.size+1) (.bool sc) (.int .i64 m) (.slice va zs.length vc)=WX at *
   exact bodyPost_ret (v:=.agg #[.bool sc,.int .i64 m,.slice va zs.length vc]) (by simp[results,Tryz.results55,go_sem,s0,s1,s2]) rfl ⟨.slice va zs.length vc,rfl,HEX,HBX.out⟩
def ValV(w:World)(v:Value):VV→Prop
 | .sc n=>(∃(ea:Option Addr) (ec:Nat),v=.agg #[.bool true,.int .i64 n,.slice ea 0 ec]∧ElsV w (.slice ea 0 ec) [])∧vOk n
 | .vec l=>∃(ea:Option Addr) (ec:Nat) (zs:List (Value×El)),v=.agg #[.bool false,.int .i64 0,.slice ea zs.length ec]∧ElsV w (.slice ea zs.length ec) zs∧zs.map (·.2)=l
theorem ValV.below{w w':World}{v:Value} : ∀ {V:VV},ValV w v V→Below w.heap.size w w'→ValV w' v V
 | .sc _,⟨⟨ea,ec,h1,h2⟩,h3⟩,hb=>⟨⟨ea,ec,h1,h2.below hb⟩,h3⟩
 | .vec _,⟨ea,ec,zs,h1,h2,h3⟩,hb=>⟨ea,ec,zs,h1,h2.below hb,h3⟩
theorem ValV.other{w w':World}{v:Value}{a:Nat}{c:List Value}(hq:BAt w a c 76)(hg:∀j,j≠a→w'.heap[j]?=w.heap[j]?):∀ {V:VV},ValV w v V→ValV w' v V
 | .sc _,⟨⟨ea,ec,h1,h2⟩,h3⟩=>⟨⟨ea,ec,h1,h2.other hq hg⟩,h3⟩
 | .vec _,⟨ea,ec,zs,h1,h2,h3⟩=>⟨ea,ec,zs,h1,h2.other hq hg,h3⟩
theorem ValV.of_els{w:World}{v:Value}{zs:List (Value×El)}{l:List El}(h:ElsV w v zs)(hl:zs.map (·.2)=l):ValV w (.agg #[.bool false,.int .i64 0,v]) (.vec l):=by
 obtain⟨ea,ec,rfl⟩:=Zj h.own
 exact⟨ea,ec,zs,rfl,h,hl⟩
theorem Zp6 (v : Value) (V : VV) (w : World) (h : ValV w v V) (hk : VOk 1000 V) : Calls Tryz.prog 55 #[v] w fun e w' => ∃ v', e = .returned v' ∧ Hid (ValV w' v' (negV V)) ∧ Below w.heap.size w w' := by
  cases V with
  | sc n=>
    obtain⟨⟨fa,fc,rfl,hF⟩,hn⟩:=h
    refine(Zj0 true n hn (.slice fa 0 fc) [] w hF (by simp)).mono ?_
    rintro e w1 ⟨v',rfl,HE,hb⟩
    obtain⟨ea,ec,rfl⟩:=Zj HE.own
    exact⟨_,rfl,hid ⟨⟨ea,ec,rfl,HE.out⟩,by unfold vOk at *;omega⟩,hb⟩
  | vec l=>
    obtain⟨ea,ec,zs,rfl,hE,hl⟩:=h
    have hlen:zs.length≤1000:=by have:=hk.2;rw[←hl,List.length_map]at this;exact this
    refine(Zj0 false 0 (by unfold vOk;omega) _ zs w hE hlen).mono ?_
    rintro e w1 ⟨v',rfl,HE,hb⟩
    exact⟨_,rfl,hid (ValV.of_els HE.out (by rw[List.map_map,←hl,List.map_map];rfl)),hb⟩
theorem Zog (op : Nat) (hop : op ≤ 3) (bv v : Value) (ns : List ByteArray) (l : List El) (w : World) (hb : NamsV w bv ns) (h : ValV w v (.vec l)) (hk : l.length ≤ 1000) : Calls Tryz.prog 56 #[.int .i64 op, bv, v] w fun e w' => ∃ v', e = .returned v' ∧ Hid (ValV w' v' (.vec (Zcx op (ns.map bl) l))) ∧ Below w.heap.size w w' := by
  obtain⟨ea,ec,zs,rfl,hE,hl⟩:=h
  have hlen:zs.length≤1000:=by rw[←hl,List.length_map]at hk;exact hk
  refine(Zom op hop bv _ ns zs w hb hE hlen).mono ?_
  rintro e w1 ⟨v',rs,rfl,HE,HR,hb⟩
  exact⟨_,rfl,hid (ValV.of_els HE.out (by rw[HR.out,hl])),hb⟩
theorem ZpQ (op : Nat) (xs ys : List (Value × El)) : (xs.flatMap (FV op ys)).map (·.2) = (xs.map (·.2)).flatMap fun e => ((ys.map (·.2)).filter fun f => decide (wrt e.1 = wrt f.1)).map fun f => (e.1, twoV op e.2 f.2) := by
  induction xs with
  | nil=>rfl
  | cons x xs ih=>
    rw[List.flatMap_cons,List.map_append,ih,List.map_cons,List.flatMap_cons]
    congr 1
    unfold FV
    rw[List.map_map,List.filter_map,List.map_map]
    rfl
theorem ZlN (op : Nat) (hop : op ≤ 3) (v u : Value) (V U : VV) (w : World) (h : ValV w v V) (h2 : ValV w u U) (hk : VOk 1000 V) (hk2 : VOk 1000 U) : Calls Tryz.prog 57 #[.int .i64 op, v, u] w fun e w' => ∃ v', e = .returned v' ∧ Hid (ValV w' v' (Zdz op V U)) ∧ Below w.heap.size w w' := by
  cases V with
  | sc m=>
    obtain⟨⟨fa,fc,rfl,hF⟩,hm⟩:=h
    cases U with
    | sc n=>
      obtain⟨⟨ga,gc,rfl,hG⟩,hn⟩:=h2
      refine(ZlP op hop m n hm hn fa ga fc gc w).mono ?_
      rintro e w1 ⟨rfl,hb⟩
      exact⟨_,rfl,hid ⟨⟨none,0,rfl,⟨World.ownsRow_nil _ _ _ _,by simp,by simp⟩⟩,Zej _ _ _ hm⟩,hb⟩
    | vec l=>
      obtain⟨ea,ec,zs,rfl,hE,hl⟩:=h2
      have hlen:zs.length≤1000:=by have:=hk2.2;rw[←hl,List.length_map]at this;exact this
      refine(ZlQ op hop m hm fa fc _ zs w hE hlen).mono ?_
      rintro e w1 ⟨v',rfl,HE,hb⟩
      exact⟨_,rfl,hid (ValV.of_els HE.out (by rw[List.map_map,←hl,List.map_map];rfl)),hb⟩
  | vec k=>
    obtain⟨da,dc,xs,rfl,hX,hx⟩:=h
    have hxlen:xs.length≤1000:=by have:=hk.2;rw[←hx,List.length_map]at this;exact this
    cases U with
    | sc n=>
      obtain⟨⟨ga,gc,rfl,hG⟩,hn⟩:=h2
      refine(ZlR op hop n hn ga gc _ xs w hX hxlen).mono ?_
      rintro e w1 ⟨v',rfl,HE,hb⟩
      exact⟨_,rfl,hid (ValV.of_els HE.out (by rw[List.map_map,←hx,List.map_map];rfl)),hb⟩
    | vec l=>
      obtain⟨ea,ec,zs,rfl,hE,hl⟩:=h2
      have hlen:zs.length≤1000:=by have:=hk2.2;rw[←hl,List.length_map]at this;exact this
      refine(ZlS op hop _ _ xs zs w hX hE hxlen hlen).mono ?_
      rintro e w1 ⟨v',rfl,HE,hb⟩
      exact⟨_,rfl,hid (ValV.of_els HE.out (by rw[ZpQ,hx,hl])),hb⟩
theorem Zee{w wX:World}{x0 x1 x2:Value}{V:VV}(hv:BAt wX w.heap.size [.bool false,.int .i64 0,.slice none 0 0] 76)(hbel:Below w.heap.size w wX)(h:ValV wX (.agg #[x0,x1,x2]) V) :
  BAt (set3 wX w.heap.size x0 x1 x2) w.heap.size [x0,x1,x2] 76∧ValV (set3 wX w.heap.size x0 x1 x2) (.agg #[x0,x1,x2]) V∧Below w.heap.size w (set3 wX w.heap.size x0 x1 x2):=
 ⟨Zdr hv (x:=x0) (y:=x1) (z:=x2),h.other hv (fun _ hj=>ZdZ _ _ _ _ _ hj),((hbel.setCell (p:=⟨w.heap.size,0,none⟩) (Nat.le_refl _) _).setCell (p:=⟨w.heap.size,1,none⟩) (Nat.le_refl _) _).setCell (p:=⟨w.heap.size,2,none⟩) (Nat.le_refl _) _⟩
end Go.Proofs.YtpbemaaghbbocaaGreatDoor

/- Parts. -/
import Derived.Test.YtcdgkkfipdoeeaaGreatDoorT11
import Derived.Test.YtcdgkkfipdoeeaaGreatDoorT09
import Derived.Deep.LoopGhost
import Derived.Test.YtcdgkkfipdoeeaaGreatDoorT02
import Derived.Test.YtcdgkkfipdoeeaaGreatDoorT03
set_option maxRecDepth 100000
set_option maxHeartbeats 8000000
namespace Go.Proofs.YtcdgkkfipdoeeaaGreatDoor
open Go.RowKit LS
section
variable {w0 w w' w1 w2:World} {X:GX} {nv uv sv rv nv' uv' sv' rv':Value} {sl sl':List SelC} {rl rl':List RowC} {g g':Gq} {T:TypeId} {x:Nat}
theorem Tryz.infoNode:(Tryz.prog.info? 232).map (fun i=>(i.zero,i.size,i.bytes))=some (some (.agg #[.int .i64 0,.int .i64 0,.int .i64 0,.int .i64 0]),4,32):=by kernel_rfl
theorem ZqP(h:GI w0 w X nv uv sv rv sl rl g)(z:Nq)(hz:NOne g.nodes.length z)(hl:g.nodes.length<=500000) :
  Calls Tryz.prog 120 #[.pointer (some ⟨X.gb,0,none⟩),nodV z] w fun e w'=>e=.returned (.int .i64 ((addQ z g).1:Nat))/\Hid (GP w0 w w' X (addQ z g).2):=by
 obtain⟨f,hj,hf⟩:=h.j
 have HI:=hid h
 have HZ:=hid hz
 have HF:=hid hf
 have HJ0:=hid hj
 obtain⟨kl,hkey⟩:=hz.key (by omega)
 have HKEY:=hid hkey
 clear hj hf h hkey
 go_enter Tryz.func120,Tryz.ntmps120
 simp only[nodV]
 go_upto_region 1 with fail
 refine Z9 fun W hW=>?_
 have hb0:Below w.heap.size w W:=by rw[hW];exact belB
 have HB0:Hid (BAt W w.heap.size (nodC z) 232):=hid (by rw[hW];exact(show BAt _ _ _ _ from Go.Deep.blk_alloc_new w _))
 have HJ1:Hid (GJ w0 W X nv uv sv rv sl rl g _ f _ _):=hid (HJ0.below hb0)
 have HKT:Hid (KT w W):=hid (KT.below hb0)
 have hlk:=HJ1.num.look nodK Tryz.underlying173 HKEY.out
 clear hW hb0 HJ0
 have HNQ : Hid (∀ k, nv.ownBlock = some k -> k ≠ w.heap.size) := hid (fun k hk e => by
   obtain⟨_,hj,_⟩:=HI.j
   have:=(hj.nod.lt k hk).2
   omega)
 obtain⟨qb,hqb⟩:∃qb,w.heap.size=qb:=⟨_,rfl⟩
 rw[hqb]at HB0 HNQ ⊢
 clear hqb
 have b4:W.cell? ⟨X.gb,4,none⟩=some (.map (some X.mb)):=HJ1.box.cell 4
 have q0:W.cell? ⟨qb,0,none⟩=some (.int .i64 z.op):=HB0.cell 0
 have q1:W.cell? ⟨qb,1,none⟩=some (.int .i64 z.arg):=HB0.cell 1
 have q2:W.cell? ⟨qb,2,none⟩=some (.int .i64 (nI z.fs)):=HB0.cell 2
 have q3:W.cell? ⟨qb,3,none⟩=some (.int .i64 (nI z.sn)):=HB0.cell 3
 have hgl:=HJ1.box.lt
 have hql:=HB0.lt
 have hlk1:(Instr.lookup 173 (.map (some X.mb)) (.agg #[.int .i64 z.op,.int .i64 z.arg,.int .i64 (nI z.fs),.int .i64 (nI z.sn)]) true).run Tryz.prog W.drew=.ok (.tuple #[.int .i64 ((f z).getD 0),.bool (f z).isSome]) W.drew:=hlk _ rfl
 clear hlk
 go_region
 have HJ2:Hid (GJ w0 W.drew X nv uv sv rv sl rl g _ f _ _):=hid (HJ1.below (Below.refl _ _).drew)
 have HK2:Hid (KT w W.drew):=hid (HKT.trans (KT.below (Below.refl _ _).drew))
 have HB2:Hid (BAt W.drew qb (nodC z) 232):=HB0
 clear hlk1 b4 q0 q1 q2 q3 hgl hql HJ1 HKT HB0
 generalize W.drew=w1 at *
 have b1:w1.cell? ⟨X.gb,1,none⟩=some (.bool g.share):=HJ2.box.cell 1
 have hgl:=HJ2.box.lt
 by_cases hold:g.share=true/\(f z).isSome=true
 ·obtain⟨hsh,hfs⟩:=hold
  obtain⟨i,hi⟩:∃i,idxN z g.nodes=some i:=by
   have:=HF.out hsh z
   rw[this]at hfs
   cases hx:idxN z g.nodes with
   | none=>rw[hx]at hfs;cases hfs
   | some i=>exact⟨i,rfl⟩
  have HA:Hid (addQ z g=(i,g)):=hid (Zfc hsh hi)
  have hfz:f z=some (i:Int):=by rw[HF.out hsh z,hi];rfl
  rw[hfz]
  rw[hsh]at b1
  simp only[Option.isSome_some,Option.getD_some]
  clear hfs
  go_wp2
  go_ret
  rw[HA.out]
  exact⟨rfl,hid (GP.of ⟨⟨f,HJ2.out,HF.out⟩,HI.ulen,HI.nok,HI.ubd⟩ HK2.out)⟩
 ·have HNEW : Hid (g.share = true -> idxN z g.nodes = none) := hid (fun hsh => by
    have h1:=HF.out hsh z
    cases hx:idxN z g.nodes with
    | none=>rfl
    | some i=>rw[hx]at h1;exact absurd ⟨hsh,by rw[h1];rfl⟩ hold)
  have HA:=hid (Zfb HNEW.out)
  obtain⟨na,nc,hnv⟩:=Zv HJ2.nod
  subst hnv
  obtain⟨L,hL⟩:∃L,L=g.nodes.length:=⟨_,rfl⟩
  have HL:=hid hL
  rw[<-hL]at hl HJ2 HNQ
  clear hL hz
  go_upto_region 2 with fail
  go_cut [6,10,16,18,25] from 19 to 24 (fun _ _ _ _ v wc=>v=.bool false/\wc=w1)
  case first=>
   generalize g.share=sh at b1 hold
   generalize(f z).isSome=ts at hold ⊢
   cases ts <;> cases sh
   all_goals first
    | exact absurd ⟨rfl,rfl⟩ hold
    | (go_wp2_with fail;go_meet;exact⟨rfl,rfl⟩)
  case rest=>
  obtain⟨rfl,rfl⟩:=hcut
  clear hold b1
  obtain⟨f',hf'⟩:∃f':Nq->Option Int,f'=fun y=>if y=z then some (L:Int)else f y:=⟨_,rfl⟩
  have hf1:f' z=some (L:Int):=by rw[hf'];simp
  have hf2:∀y,y≠z->f' y=f y:=fun y hy=>by rw[hf'];simp[hy]
  obtain⟨w2,hup,hm2,hg2⟩:=HJ2.num.put nodK Tryz.underlying173 Zvp (by omega) HKEY.out (v:=L) (Zgc (by omega)) hf1 hf2 wc.drew rfl
  have HF1:=hid hf1
  have HF2:=hid hf2
  have HD:Hid (GJ w0 wc.drew X (.slice na L nc) uv sv rv sl rl g L f _ _):=hid (HJ2.below (Below.refl _ _).drew)
  have HJ3:=hid (HD.numPut hg2 hm2).1
  have HK3:Hid (KT w w2):=hid ((HK2.trans (KT.below (Below.refl _ _).drew)).trans (HD.numPut hg2 hm2).2)
  have HB3 : Hid (BAt w2 qb (nodC z) 232) := hid ((show BAt wc.drew qb _ _ from HB2.out).grown hg2 (fun e => by
    obtain⟨es,cl,ho⟩:=HD.num.obj
    injection e with e
    exact ZbO ho (show wc.drew.heap[X.mb]?=_ by rw[<-e];exact HB2.out) rfl))
  simp only[nodV]at hup
  clear hf' hf1 hf2 hm2 hg2
  have b2:wc.cell? ⟨X.gb,2,none⟩=some (.slice na L nc):=HJ2.box.cell 2
  go_upto_region 5 with fail
  clear b2
  refine Zcm 6 (fun w'=>w'.cell? ⟨X.gb,4,none⟩=some (.map (some X.mb))/\w'.cell? ⟨qb,0,none⟩=some (.int .i64 z.op)/\w'.cell? ⟨qb,1,none⟩=some (.int .i64 z.arg)/\w'.cell? ⟨qb,2,none⟩=some (.int .i64 (nI z.fs))/\w'.cell? ⟨qb,3,none⟩=some (.int .i64 (nI z.sn))) (by kernel_rfl) ⟨HJ2.box.cell 4,HB2.cell 0,HB2.cell 1,HB2.cell 2,HB2.cell 3⟩ (fun hHeld=>?_)
  refine Zd 0 hHeld (h:=?_)
  refine Zd 1 hHeld (h:=?_)
  refine Zd 2 hHeld (h:=?_)
  refine Zd 3 hHeld (h:=?_)
  refine Zd 4 hHeld (h:=?_)
  refine Zd 5 hHeld (h:=?_)
  refine Zcq (by kernel_rfl) (by kernel_rfl) rfl (by kernel_rfl) (fun K hK=>?_)
  go_simp
  refine hK.out _ _ ?_
  clear hHeld hK K hup HD HJ2 HK2 HB2 hgl
  obtain⟨i0,hi,hz0,hz1,hz2⟩:=info_parts Tryz.infoNode
  go_upto_region 6 with fail
  have HJ4:Hid (GJ w0 w2.drew X (.slice na L nc) uv sv rv sl rl g (L+1) f' _ _):=hid (HJ3.below (Below.refl _ _).drew)
  have HK4:Hid (KT w w2.drew):=hid (HK3.trans (KT.below (Below.refl _ _).drew))
  have HB4:Hid (BAt w2.drew qb (nodC z) 232):=HB3
  refine Zcm 10 (fun w'=>w'.cell? ⟨X.gb,2,none⟩=some (.slice na L nc)/\w'.cell? ⟨qb,0,none⟩=some (.int .i64 z.op)/\w'.cell? ⟨qb,1,none⟩=some (.int .i64 z.arg)/\w'.cell? ⟨qb,2,none⟩=some (.int .i64 (nI z.fs))/\w'.cell? ⟨qb,3,none⟩=some (.int .i64 (nI z.sn))) (by kernel_rfl) ⟨HJ4.box.cell 2,HB4.cell 0,HB4.cell 1,HB4.cell 2,HB4.cell 3⟩ (fun hHeld=>?_)
  clear HJ3 HK3 HB3
  refine Zd 0 hHeld (h:=?_)
  refine Zd 1 hHeld (h:=?_)
  refine Zd 2 hHeld (h:=?_)
  refine Zd 3 hHeld (h:=?_)
  refine Zd 4 hHeld (h:=?_)
  refine Zd 5 hHeld (h:=?_)
  generalize w2.drew=w3 at *
  have HJA:Hid (∀o,GJ w0 (w3.alloc o) X (.slice na L nc) uv sv rv sl rl g (L+1) f' _ _):=hid (fun o=>HJ4.below Zbal)
  have HBA:Hid (∀o,BAt (w3.alloc o) qb (nodC z) 232):=hid (fun o=>HB4.below Zbal)
  have HOA:Hid (∀o,(w3.alloc o).ownsRow X.base 232 4 (.slice na L nc) L (g.nodes.flatMap nodC)):=hid (fun o=>by have:=(HJA.out o).nod;rwa [<-HL.out]at this)
  have HKA:Hid (∀o,KT w (w3.alloc o)):=hid (fun o=>HK4.trans (KT.below Zbal))
  have HBS:Hid (X.base<=w3.heap.size):=hid (by have h1:=HJ4.bel.size;have:=HJ4.bas.1;omega)
  clear HJ4 HK4 HB4
  refine Zbr (i:=6) (by kernel_rfl) rfl (fun K hK=>?_)
  go_simp
  refine hK.out _ _ ⟨(HJA.out _).box.cell 2,(HBA.out _).cell 0,(HBA.out _).cell 1,(HBA.out _).cell 2,(HBA.out _).cell 3⟩ (fun hHeld=>?_)
  clear hK K
  try simp only[Act.put,Zset]
  refine Zbr (i:=7) (by kernel_rfl) rfl (fun K hK=>?_)
  refine Ze3 rfl (.tmp 42) (.tmp 44) 172 rfl X.base 232 i0 _ 4 32 Tryz.underlying172 hi hz0 hz1 hz2 rfl (by decide) (.slice na L nc) L (g.nodes.flatMap nodC) (by simp[Act.eval]) (HOA.out _) ⟨w3.heap.size,0,none⟩ 1 1 (nodC z) (by simp[Act.eval]) rfl Zjz ?h3 ?h4 ?h5 ?h6 ?_
  case h3=>intro u hu;simp[nodC]at hu;rcases hu with rfl|rfl|rfl|rfl <;> rfl
  case h4=>unfold maxLen;omega
  case h5=>omega
  case h6=>have:=HBS.out;simp;omega
  intro v1 w4 hown1 hgrow1 hat1
  obtain⟨g1,cp1,hv1⟩:=ZW hown1 (by omega)
  subst hv1
  obtain⟨hb4,hj4,hk4⟩:=(HJA.out _).nodApp z hgrow1 (by rw[<-HL.out];exact hown1)
  have hq4:BAt w4 qb (nodC z) 232:=(HBA.out _).grown hgrow1 (fun e=>HNQ.out qb e.symm rfl)
  have HB5:=hid hb4
  have HJ5:=hid hj4
  have HK5:=hid ((HKA.out _).trans hk4)
  have HQ5:=hid hq4
  clear hown1 hgrow1 hat1 hb4 hj4 hk4 hq4 HJA HBA HOA HKA
  refine hK.out _ _ ⟨HB5.cell 2,HQ5.cell 0,HQ5.cell 1,HQ5.cell 2,HQ5.cell 3⟩ (fun hHeld=>?_)
  clear hK K
  refine Zd 8 hHeld (h:=?_)
  refine Zd 9 hHeld (h:=?_)
  refine Zcq (by kernel_rfl) (by kernel_rfl) rfl (by kernel_rfl) (fun K hK=>?_)
  have e1:=HB5.frozen 2
  have e2:=hHeld.1
  have e3:=HB5.lt
  go_simp
  refine hK.out _ _ ?_
  have HQ6:Hid (BAt (w4.setCell ⟨X.gb,2,none⟩ (.slice (some ⟨g1,0,none⟩) (L+1) cp1)) qb (nodC z) 232):=hid ((KB.set HB5.out 2 _).bat HQ5.out (by decide))
  clear hK K e1 e2 e3 hHeld HB5 HQ5
  generalize w4.setCell ⟨X.gb,2,none⟩ (.slice (some ⟨g1,0,none⟩) (L+1) cp1)=w5 at *
  clear hi hz0 hz1 hz2 i0 HBS
  obtain⟨i0,hi,hz0,hz1,hz2⟩:=info_parts Tryz.infoInt3
  obtain⟨ua,uc,huv⟩:=Zv HJ5.use
  subst huv
  have hul:g.uses.length=L:=HI.ulen.trans HL.symm
  have HUO:Hid (∀o,(w5.alloc o).ownsRow X.base 3 1 (.slice ua L uc) L (g.uses.map intC)):=hid (fun o=>by have:=HJ5.use;simp only[hul]at this;exact this.alloc o)
  have HJA:Hid (∀o,GJ w0 (w5.alloc o) X (.slice (some ⟨g1,0,none⟩) (L+1) cp1) (.slice ua L uc) sv rv sl rl { g with nodes:=g.nodes++[z] } (L+1) f' _ _):=hid (fun o=>by have:=HJ5.below (w':=w5.alloc o) Zbal;simp only[hul]at this;exact this)
  have HBA:Hid (∀o,BAt (w5.alloc o) qb (nodC z) 232):=hid (fun o=>HQ6.below Zbal)
  have HKA:Hid (∀o,KT w (w5.alloc o)):=hid (fun o=>HK5.trans (KT.below Zbal))
  have HBS:Hid (X.base<=w5.heap.size):=hid (by have h1:=HJ5.bel.size;have:=HJ5.bas.1;omega)
  have b3:w5.cell? ⟨X.gb,3,none⟩=some (.slice ua L uc):=(HJ5.box.cell 3).trans (by rw[hul];rfl)
  have hgl:=HJ5.box.lt
  have HUL:=hid hul
  clear hul HJ5 HK5 HQ6
  go_wp2_with (at_builtin;refine wpList_append_own _ rfl (.tmp 52) (.tmp 53) 54 rfl X.base 3 i0 (.int .i64 0) 1 8 Tryz.underlying54 hi hz0 hz1 hz2 rfl (by decide) _ _ _ rfl (HUO.out _) ⟨w5.heap.size,0,none⟩ 1 1 [.int .i64 0] rfl rfl (cell_one_new _ _ _) ?c2 ?c3 ?c4 ?c5 ?_)
  case c2=>first|rfl|(intro u hu;simp at hu;subst hu;rfl)
  case c3=>unfold maxLen;omega
  case c4=>omega
  case c5=>have:=HBS.out;simp;omega
  intro v6 w6 hown6 hgrow6 _
  obtain⟨ub,uc6,hv6⟩:=ZW hown6 (by omega)
  subst hv6
  obtain⟨hb6,hj6,hk6⟩:=(HJA.out _).useApp 0 hgrow6 (by
   show w6.ownsRow _ _ _ _ (g.uses.length+1) (g.uses.map intC++[intC 0])
   rw[HUL.out];exact hown6)
  have HB7:=hid hb6
  have HQ7:=hid ((KB.set hb6 3 (.slice (some ⟨ub,0,none⟩) (L+1) uc6)).bat ((KB.row (HUO.out _) hgrow6).bat (HBA.out _) (by decide)) (by decide))
  have HJ7:=hid hj6
  have HK7:=hid ((HKA.out _).trans hk6)
  clear hown6 hgrow6 hb6 hj6 hk6 HJA HBA HKA HUO b3 hgl HBS
  have b3:w6.cell? ⟨X.gb,3,none⟩=some (.slice ua L uc):=HB7.cell 3
  have bf:=HB7.frozen 3
  have hgl:=HB7.lt
  have HG7:=hid ((KB.set HB7.out 3 (.slice (some ⟨ub,0,none⟩) (L+1) uc6)))
  generalize hw7:w6.setCell ⟨X.gb,3,none⟩ (.slice (some ⟨ub,0,none⟩) (L+1) uc6)=w7 at *
  have q0:w7.cell? ⟨qb,0,none⟩=some (.int .i64 z.op):=HQ7.cell 0
  have q1:w7.cell? ⟨qb,1,none⟩=some (.int .i64 z.arg):=HQ7.cell 1
  have q2:w7.cell? ⟨qb,2,none⟩=some (.int .i64 (nI z.fs)):=HQ7.cell 2
  have q3:w7.cell? ⟨qb,3,none⟩=some (.int .i64 (nI z.sn)):=HQ7.cell 3
  have hql:=HQ7.lt
  go_upto_region 8 with fail
  clear hw7 b3 bf hgl HB7 HG7
  go_wp2_with fail
  refine(Zlz z w7 HZ.sn).mono ?_
  rintro e w8 ⟨tv,rfl,hb8,HT⟩
  obtain⟨ta,tc,rfl,htr⟩:=HT.out
  have HT:=hid htr
  have HJ8:=hid (HJ7.below hb8)
  have HK8:=hid (HK7.trans (KT.below hb8))
  have hL3:=Zhh z
  have HLO:Hid (∀t∈Zg z,t<L):=hid (fun t ht=>by have:=HZ.low t ht;rw[HL.out];exact this)
  have HUB:Hid (ub<w7.heap.size):=hid (HJ7.use.lt ub rfl).2
  clear htr hb8 q0 q1 q2 q3 hql HJ7 HK7 HQ7
  have HAD:Hid (∀ {wz:World},GJ w0 wz X (.slice (some ⟨g1,0,none⟩) (L+1) cp1) (.slice (some ⟨ub,0,none⟩) (L+1) uc6) sv rv sl rl { g with nodes:=g.nodes++[z],uses:=(Zg z).foldl bump (g.uses++[0]) } (L+1) f' (g.sels.map ZM) (g.grps.map commas)->GI w0 wz X (.slice (some ⟨g1,0,none⟩) (L+1) cp1) (.slice (some ⟨ub,0,none⟩) (L+1) uc6) sv rv sl rl (addQ z g).2):=hid (fun hj=>HI.added HZ.out HNEW.out HF.out (by rw[HF1.out,HL.out]) HF2.out (by rw[<-HL.out];exact hj))
  generalize Zg z=ts at *
  obtain⟨M,hM⟩:∃M,M=ts.length:=⟨_,rfl⟩
  rw[<-hM]at hL3 ⊢
  have HM:=hid hM
  clear hM
  go_wp2
  go_loopw [60] (fun i wr=>∃j:Nat,j<=M/\i=.int .i64 j/\Hid (GJ w0 wr X (.slice (some ⟨g1,0,none⟩) (L+1) cp1) (.slice (some ⟨ub,0,none⟩) (L+1) uc6) sv rv sl rl { g with nodes:=g.nodes++[z],uses:=(ts.take j).foldl bump (g.uses++[0]) } (L+1) f' (g.sels.map ZM) (g.grps.map commas))/\Hid (KT w wr)/\Hid (∀b,w7.heap.size<=b->b<w8.heap.size->wr.heap[b]?=w8.heap[b]?)/\Hid (w8.heap.size<=wr.heap.size)) (fun i _=>M - (intOf i).toNat)
  case atStart=>exact⟨0,Nat.zero_le _,rfl,HJ8,HK8,hid (fun _ _ _=>rfl),hid (Nat.le_refl _)⟩
  case round=>
   obtain⟨j,hj,rfl,HJr,HKr,HNr,HZr⟩:=hrel
   by_cases hlt:j<M
   ·have hlz:(j:Int)<M:=by omega
    have hjl:j<ts.length:=by rw[<-HM.out];exact hlt
    obtain⟨b,rfl,hb1,hb2,hbc⟩:=HT.out (by omega)
    have hbh:=HNr.out b hb1 hb2
    have kc:wr.cell? ⟨b,j,none⟩=some (intC ts[j]):=by
     have:=hbc j hjl
     simp only[World.cell?,hbh]at this ⊢
     exact this
    have hbl:b<wr.heap.size:=Nat.lt_of_lt_of_le hb2 HZr.out
    have hlo:=HLO.out ts[j] (List.getElem_mem hjl)
    have HST:=hid (Zj3 bump ts (g.uses++[0]) hjl)
    have b3:wr.cell? ⟨X.gb,3,none⟩=some (.slice (some ⟨ub,0,none⟩) (L+1) uc6):=HJr.box.cell 3
    have hgl:=HJr.box.lt
    have hubl:ub<wr.heap.size:=(HJr.use.lt ub rfl).2
    have hlen:((ts.take j).foldl bump (g.uses++[0])).length=L+1:=by rw[Zj0,List.length_append,HUL.out];rfl
    have hjr:=HJr.out
    have hus:=HJr.use
    simp only[hlen]at hus
    have HUS:=hid (show GJ w0 wr X _ (.slice (some ⟨ub,0,none⟩) (({ g with nodes:=g.nodes++[z],uses:=(ts.take j).foldl bump (g.uses++[0]) } : Gq).uses.length) uc6) sv rv sl rl _ (L+1) f' _ _ by show GJ _ _ _ _ (.slice _ ((ts.take j).foldl bump (g.uses++[0])).length _) _ _ _ _ _ _ _ _ _;rw[hlen];exact hjr)
    have HBD:Hid (((ts.take j).foldl bump (g.uses++[0])).getD ts[j] 0<=2000000):=hid (by
     have h1:=ZjZ (ts.take j) (g.uses++[0]) (2*g.nodes.length) (ZlY HI.ubd) ts[j]
     rw[List.length_take]at h1
     have:=HL.out
     omega)
    generalize ts[j]=t at *
    generalize hfo:(ts.take j).foldl bump (g.uses++[0])=us at *
    have uj:wr.cell? ⟨ub,t,none⟩=some (.int .i64 (us.getD t 0:Nat)):=Zr hus t _ (by
     rw[List.getElem?_map,List.getElem?_eq_getElem (by omega)]
     simp[intC,List.getD_eq_getElem?_getD,show t<us.length by omega])
    have uf:=Zir hus t
    have HSET:=hid (HUS.useSet t (us.getD t 0+1))
    have hbd:=HBD.out
    simp only[intC]at kc
    have htz:(t:Int)<L+1:=by omega
    have HBU:Hid (bump us t=us.set t (us.getD t 0+1)):=hid rfl
    generalize us.getD t 0=ut at *
    have hinc:IntKind.i64.wrap ((ut:Int)+1)=((ut+1:Nat):Int):=by rw[IntKind.wrap_i64];omega
    have HNE:Hid (∀b,w7.heap.size<=b->b<w8.heap.size->b≠ub):=hid (fun b h1 _ e=>by have:=HUB.out;omega)
    clear hbc hbh hjr hus HUS hfo
    go_wp2
    have HJ9:Hid (GJ w0 (wr.setCell ⟨ub,t,none⟩ (.int .i64 ((ut:Int)+1))) X (.slice (some ⟨g1,0,none⟩) (L+1) cp1) (.slice (some ⟨ub,0,none⟩) (L+1) uc6) sv rv sl rl { g with nodes:=g.nodes++[z],uses:=(ts.take (j+1)).foldl bump (g.uses++[0]) } (L+1) f' (g.sels.map ZM) (g.grps.map commas)):=hid (by
     have h1:=HSET.1
     simp only[hlen]at h1
     rw[HST.out,HBU.out]
     exact h1)
    have HK9:=hid (HKr.trans HSET.2)
    have HN9 : Hid (∀ b, w7.heap.size <= b -> b < w8.heap.size -> (wr.setCell ⟨ub, t, none⟩ (.int .i64 ((ut : Int) + 1))).heap[b]? = w8.heap[b]?) := hid (fun b h1 h2 => by
      rw[Go.Deep.blk_setCell_other _ _ _ _ (HNE.out b h1 h2)];exact HNr.out b h1 h2)
    have HZ9:Hid (w8.heap.size<=(wr.setCell ⟨ub,t,none⟩ (.int .i64 ((ut:Int)+1))).heap.size):=hid (by simpa using HZr.out)
    go_roundw
    case rel=>exact⟨j+1,by omega,by simp,HJ9,HK9,HN9,HZ9⟩
    case measure=>simp[intOf];omega
   ·obtain rfl:j=M:=by omega
    have HJF:=hid (HAD.out (by have:=HJr.out;rw[HM.out,List.take_length]at this;exact this))
    go_wp2
    go_ret
    refine⟨?_,hid (GP.of HJF.out HKr.out)⟩
    rw[HA.out]
    show Ending.returned (.int .i64 (L:Int))=_
    rw[HL.out]
end
end Go.Proofs.YtcdgkkfipdoeeaaGreatDoor
namespace Go.Proofs.YtcdgkkfipdoeeaaGreatDoor
open Go.RowKit LS
theorem Zg1(t:Tr):Zf t<=2:=by
 cases t with
 | nil=>decide
 | node x y a l r=>
  unfold Zf
  have hl:=Zg1 l
  split
  ·decide
  ·split
   ·decide
   ·split
    ·exact hl
    ·split
     ·split <;> decide
     ·split
      ·decide
      ·split <;> decide
termination_by t
def winT:Tr->Prop
 | .nil=>True
 | .node _ _ a l r=>(a.kind=2->1<=a.n/\a.n<=1000)/\winT l/\winT r
def InvW(rec:Nat->List Tok->Nat->Out Tr):Prop:=∀lv t d z,rec lv t d=.ok z->winT z.1
theorem Zkq{a:Nd}(h:a.kind=2->1<=a.n/\a.n<=1000):winT (Z6 a):=⟨h,trivial,trivial⟩
theorem ZzM{o:Nat}{ts:List Tok}{z:Tr×List Tok}(h:winP o ts=.ok z):winT z.1:=by
 unfold winP at h
 obtain⟨_,t1,h1,h⟩:=Zl h
 obtain⟨p,t2,h2,h⟩:=Zl h
 obtain⟨_,t3,h3,h⟩:=Zl h
 obtain⟨m,t4,h4,h⟩:=Zl h
 obtain⟨_,t5,h5,h⟩:=Zl h
 obtain⟨_,t6,h6,h⟩:=Zl h
 injection h with h;subst h
 have a4:1<=m/\m<=1000:=by
  unfold ZcV at h4
  split at h4
  ·rename_i hh
   injection h4 with h4;injection h4 with h4 h4';subst h4
   exact⟨hh.2,(ZkK 1000 _).2⟩
  ·cases h4
 exact Zkq (fun _=>a4)
theorem Zqb{rec:Nat->List Tok->Nat->Out Tr}(hr:InvW rec){ts:List Tok}{deep:Nat}{z:Tr×List Tok}(h:Z3 rec ts deep=.ok z):winT z.1:=by
 unfold Z3 at h
 obtain⟨_,t1,h1,h⟩:=Zl h
 obtain⟨a,t2,h2,h⟩:=Zl h
 obtain⟨_,t3,h3,h⟩:=Zl h
 injection h with h;subst h
 show winT a
 exact hr _ _ _ _ h2
theorem ZzK{rec:Nat->List Tok->Nat->Out Tr}(hr:InvW rec){g:Nat}{ts:List Tok}{deep:Nat}{z:Tr×List Tok}(h:Zb0 rec g ts deep=.ok z):winT z.1:=by
 unfold Zb0 at h
 obtain⟨_,t1,h1,h⟩:=Zl h
 obtain⟨_,t2,h2,h⟩:=Zl h
 obtain⟨ns,t3,h3,h⟩:=Zl h
 obtain⟨a,t4,h4,h⟩:=Zl h
 injection h with h;subst h
 exact⟨fun h=>absurd (show(5:Nat)=2 from h) (by decide),Zqb hr h4,trivial⟩
theorem ZzL{rec:Nat->List Tok->Nat->Out Tr}(hr:InvW rec){ts:List Tok}{deep:Nat}{z:Tr×List Tok}(h:Zbd rec ts deep=.ok z):winT z.1:=by
 unfold Zbd at h
 split at h
 ·injection h with h;subst h
  exact Zkq (fun h=>absurd (show(0:Nat)=2 from h) (by decide))
 ·split at h
  ·obtain⟨a,t1,h1,h⟩:=Zl h
   injection h with h;subst h
   exact⟨fun h=>absurd (show(3:Nat)=2 from h) (by decide),hr _ _ _ _ h1,trivial⟩
  ·split at h
   ·exact Zqb hr h
   ·split at h
    ·exact ZzK hr h
    ·split at h
     ·exact ZzM h
     ·obtain⟨p,t1,h1,h⟩:=Zl h
      injection h with h;subst h
      obtain⟨a1,a2,a3,a4,a5⟩:=ZiX h1
      simp only at a2
      exact Zkq (fun h=>absurd (a2.symm.trans h) (by decide))
theorem Zha:∀(n:Nat) (m:Bool) (lv:Nat) (a:Tr) (ts:List Tok) (deep:Nat) (z:Tr×List Tok),(m=true->winT a)->Zj n m lv a ts deep=.ok z->winT z.1
 | 0,_,_,_,_,_,_,_,h=>by cases h
 | n + 1, false, lv, a, ts, deep, z, _, h => by
   have hr:InvW (fun lv t d=>Zj n false lv .nil t d):=fun lv t d z h=>Zha n false lv .nil t d z (fun h=>nomatch h) h
   unfold Zj at h
   split at h
   · unfold ZbZ at h
     split at h
     · split at h
       · cases h
       · exact ZzL hr h
     · cases h
   · obtain⟨b,t1,h1,h2⟩:=Zl h
     exact Zha n true lv b t1 deep z (fun _=>hr _ _ _ _ h1) h2
 | n + 1, true, lv, a, ts, deep, z, ha, h => by
   unfold Zj at h
   split at h
   · injection h with h;subst h;exact ha rfl
   · rename_i p hp
     obtain⟨b,t1,h1,h2⟩:=Zl h
     have l1:=Zha n false _ _ _ _ _ (fun h=>nomatch h) h1
     refine Zha n true lv (.node 0 0 (nd0 p.1 p.2) a b) t1 deep z (fun _=>⟨fun hk=>?_,ha rfl,l1⟩) h2
     unfold LS.opAt at hp
     exfalso
     have hk':p.1=2:=hk
     repeat (first|(split at hp)|(injection hp with hp;subst hp;exact absurd hk' (by decide))|cases hp)
theorem ZwS{l:List UInt8}{t:Tr}(h:ZB l=.ok t):winT t/\Zf t≠0:=by
 unfold ZB at h
 split at h
 ·cases h
 ·split at h
  ·cases h
  ·rename_i t' r hp
   split at h
   ·split at h
    ·cases h
    ·injection h with h;subst h;rename_i hk;exact⟨(Zha _ false _ _ _ _ (t',r) (fun h=>nomatch h) hp:winT t'),hk⟩
   ·cases h
def Zds:VV->Bool
 | .sc _=>false
 | .vec _=>true
theorem ZqY(op:Nat)(a b:VV):Zds (Zfe op a b)=(Zds a || Zds b):=by cases a <;> cases b <;> rfl
theorem ZiE(st:List Ser)(tm:Int):∀t:Tr,wfT t->isNil t=false->Zf t≠0->Zds (sayT st tm t)=decide (Zf t=2)
 | .nil,_,h,_=>by cases h
 | .node x y a l r, hw, _, hk => by
   obtain⟨w1,w2,w3,w4,w5,w6,w7,w8,w9,w10,wl,wr⟩:=hw
   have ihl:=ZiE st tm l wl
   have ihr:=ZiE st tm r wr
   unfold Zf at hk ⊢
   unfold sayT
   by_cases h0:a.kind=0
   · rw[if_pos h0,if_pos h0];rfl
   rw[if_neg h0]at hk ⊢
   rw[if_neg h0]
   by_cases h1:a.kind=1
   · rw[if_pos h1,if_pos (Or.inl h1)];rfl
   by_cases h2:a.kind=2
   · rw[if_neg h1,if_pos h2,if_pos (Or.inr h2)];rfl
   rw[if_neg (show ¬(a.kind=1∨a.kind=2) by omega)]at hk ⊢
   rw[if_neg h1,if_neg h2]
   by_cases h3:a.kind=3
   · rw[if_pos h3]at hk ⊢
     rw[if_pos h3,<-ihl (w7 (by omega)) hk]
     cases sayT st tm l <;> rfl
   rw[if_neg h3]at hk ⊢
   rw[if_neg h3]
   by_cases h5:a.kind=5
   · rw[if_pos h5]at hk ⊢
     rw[if_pos h5]
     by_cases hl:Zf l=2
     · rw[if_pos hl];rfl
     · rw[if_neg hl]at hk;exact absurd rfl hk
   rw[if_neg h5]at hk ⊢
   rw[if_neg h5]
   have hnr:=w8 (by omega)
   have hnl:=w7 (by omega)
   by_cases hb:Zf l=0∨Zf r=0∨(a.kind=6/\Zf l+Zf r≠4)
   · rw[if_pos hb]at hk;exact absurd rfl hk
   rw[if_neg hb]at hk ⊢
   have hl0:Zf l≠0:=fun h=>hb (Or.inl h)
   have hr0:Zf r≠0:=fun h=>hb (Or.inr (Or.inl h))
   have kl:=Zg1 l
   have kr:=Zg1 r
   have il:=ihl hnl hl0
   have ir:=ihr hnr hr0
   by_cases h6:a.kind=6
   · have h4:Zf l+Zf r=4:=by
       refine Classical.byContradiction fun h=>hb (Or.inr (Or.inr ⟨h6,h⟩))
     rw[if_pos h6,if_neg (show ¬Zf l+Zf r=2 by omega)]
     split
     · rw[ir];simp;omega
     · rw[il];simp;omega
   · rw[if_neg h6,ZqY,il,ir]
     split
     · simp;omega
     · simp;omega
theorem ZcE:∀x:List UInt8,Op.bytesLess x x=false
 | []=>rfl
 | a :: x => by
   have h:¬a<a:=UInt8.lt_irrefl a
   simp[Op.bytesLess,ZcE x,h]
theorem ZdG:∀x y z:List UInt8,Op.bytesLess x y=true->Op.bytesLess y z=true->Op.bytesLess x z=true
 | x,y,[],_,h=>by cases y <;> simp[Op.bytesLess]at h
 | x,[],c::z,h,_=>by cases x <;> simp[Op.bytesLess]at h
 | [],b::y,c::z,_,_=>rfl
 | a :: x, b :: y, c :: z, h1, h2 => by
   simp only[Op.bytesLess,Bool.or_eq_true,decide_eq_true_eq,Bool.and_eq_true,beq_iff_eq]at h1 h2 ⊢
   rcases h1 with h1|⟨rfl,h1⟩
   · rcases h2 with h2|⟨rfl,h2⟩
     · exact Or.inl (UInt8.lt_trans h1 h2)
     · exact Or.inl h1
   · rcases h2 with h2|⟨rfl,h2⟩
     · exact Or.inl h2
     · exact Or.inr ⟨rfl,ZdG x y z h1 h2⟩
theorem Zdq:∀x y:List UInt8,Op.bytesLess x y=false->Op.bytesLess y x=false->x=y
 | [],[],_,_=>rfl
 | [],b::y,h,_=>by simp[Op.bytesLess]at h
 | a::x,[],_,h=>by simp[Op.bytesLess]at h
 | a :: x, b :: y, h1, h2 => by
   simp only[Op.bytesLess,Bool.or_eq_false_iff,decide_eq_false_iff_not,Bool.and_eq_false_iff,beq_eq_false_iff_ne]at h1 h2
   have hab:a=b:=by
     have k1:¬a.toNat<b.toNat:=fun h=>h1.1 (UInt8.lt_iff_toNat_lt.2 h)
     have k2:¬b.toNat<a.toNat:=fun h=>h2.1 (UInt8.lt_iff_toNat_lt.2 h)
     exact UInt8.toNat_inj.1 (by omega)
   subst hab
   have e:=Zdq x y (h1.2.resolve_left (fun h=>h rfl)) (h2.2.resolve_left (fun h=>h rfl))
   rw[e]
def lt1(a b:El):Prop:=Op.bytesLess (wrt a.1) (wrt b.1)=true
def Srt(l:List El):Prop:=l.Pairwise lt1
theorem Zk9(l:List El)(x z:El):z∈Zb9 l x ↔ z=x∨z∈l:=by
 induction l with
 | nil=>simp[Zb9]
 | cons y l ih=>
  rw[Zb9]
  split
  ·simp
  ·rw[List.mem_cons,ih,List.mem_cons]
   constructor
   ·rintro(h|h|h)
    ·exact Or.inr (Or.inl h)
    ·exact Or.inl h
    ·exact Or.inr (Or.inr h)
   ·rintro(h|h|h)
    ·exact Or.inr (Or.inl h)
    ·exact Or.inl h
    ·exact Or.inr (Or.inr h)
theorem Zwl(l:List El)(x:El):(Zb9 l x).length=l.length+1:=by
 induction l with
 | nil=>rfl
 | cons y l ih=>
  rw[Zb9]
  split
  ·rfl
  ·rw[List.length_cons,ih,List.length_cons]
theorem Zwm(l:List El)(x:El)(h:Srt l)(hx:∀y∈l,wrt y.1≠wrt x.1):Srt (Zb9 l x):=by
 induction l with
 | nil=>exact List.pairwise_singleton _ _
 | cons y l ih=>
  obtain⟨h1,h2⟩:=List.pairwise_cons.1 h
  rw[Zb9]
  split
  ·rename_i hlt
   refine List.pairwise_cons.2 ⟨fun z hz=>?_,h⟩
   rcases List.mem_cons.1 hz with rfl|hz
   ·exact hlt
   ·exact ZdG _ _ _ hlt (h1 z hz)
  ·rename_i hlt
   refine List.pairwise_cons.2 ⟨fun z hz=>?_,ih h2 (fun y hy=>hx y (List.mem_cons_of_mem _ hy))⟩
   rcases(Zk9 l x z).1 hz with rfl|hz
   ·unfold lt1
    cases h3:Op.bytesLess (wrt y.1) (wrt z.1)with
    | true=>rfl
    | false=>exact absurd (Zdq _ _ h3 (Bool.eq_false_iff.2 hlt)) (hx y (List.mem_cons_self ..))
   ·exact h1 z hz
theorem ZgS (L : List El) : ∀ acc : List El, Srt acc -> (L.Pairwise fun a b => wrt a.1 ≠ wrt b.1) -> (∀ y ∈ acc, ∀ x ∈ L, wrt y.1 ≠ wrt x.1) ->
    Srt (L.foldl Zb9 acc)/\(L.foldl Zb9 acc).length=acc.length+L.length/\∀z,z∈L.foldl Zb9 acc ↔ z∈acc∨z∈L:=by
  induction L with
  | nil=>intro acc h _ _;exact⟨h,rfl,by simp⟩
  | cons x L ih=>
    intro acc h hp hd
    obtain⟨h1,h2⟩:=List.pairwise_cons.1 hp
    obtain ⟨k1, k2, k3⟩ := ih (Zb9 acc x) (Zwm acc x h (fun y hy => hd y hy x (List.mem_cons_self ..))) h2 (fun y hy z hz => by
      rcases(Zk9 acc x y).1 hy with rfl|hy
      · exact h1 z hz
      · exact hd y hy z (List.mem_cons_of_mem _ hz))
    refine⟨k1,by rw[List.foldl_cons,k2,Zwl,List.length_cons];omega,fun z=>?_⟩
    rw[List.foldl_cons,k3,Zk9,List.mem_cons]
    constructor
    · rintro((h|h)|h)
      · exact Or.inr (Or.inl h)
      · exact Or.inl h
      · exact Or.inr (Or.inr h)
    · rintro(h|h|h)
      · exact Or.inl (Or.inr h)
      · exact Or.inl (Or.inl h)
      · exact Or.inr h
def Dst(st:List Ser):Prop:=st.Pairwise fun s r=>¬(s.name=r.name/\wrt s.labs=wrt r.labs)
def ZdO(st:List Ser)(a:Nd)(op:Option Nat)(size t:Int):List El:=(st.filter fun s=>Zct a s && !(ZbI s.sams size t).isEmpty).map fun s=>(s.labs,oneV op (ZbI s.sams size t))
theorem ZlG(st:List Ser)(a:Nd)(op:Option Nat)(size t:Int):ZdV st a op size t=(ZdO st a op size t).foldl Zb9 []:=by
 unfold ZdV ZdO
 generalize([]:List El)=acc
 induction st generalizing acc with
 | nil=>rfl
 | cons s st ih=>
  rw[List.foldl_cons]
  by_cases h:(Zct a s && !(ZbI s.sams size t).isEmpty)=true
  ·rw[if_pos h,List.filter_cons_of_pos (by simpa using h),List.map_cons,List.foldl_cons];exact ih _
  ·rw[if_neg h,List.filter_cons_of_neg (by simpa using h)];exact ih _
theorem Zk8 {st : List Ser} (h : Dst st) (a : Nd) (op : Option Nat) (size t : Int) : (ZdO st a op size t).Pairwise fun x y => wrt x.1 ≠ wrt y.1 := by
  unfold ZdO
  rw[List.pairwise_map]
  refine List.Pairwise.imp_of_mem ?_ (h.filter _)
  intro s r hs hr hn he
  have n1:=(List.mem_filter.1 hs).2
  have n2:=(List.mem_filter.1 hr).2
  simp only[Bool.and_eq_true,Zct,decide_eq_true_eq]at n1 n2
  exact hn ⟨n1.1.2.symm.trans n2.1.2,he⟩
def VOk(n:Nat):VV->Prop
 | .sc _=>True
 | .vec l=>Srt l/\l.length<=n
theorem Zqf{st:List Ser}(h:Dst st)(a:Nd)(op:Option Nat)(size t:Int):VOk st.length (.vec (ZdV st a op size t)):=by
 rw[ZlG]
 obtain⟨h1,h2,_⟩:=ZgS (ZdO st a op size t) [] List.Pairwise.nil (Zk8 h a op size t) (by simp)
 refine⟨h1,?_⟩
 rw[h2]
 unfold ZdO
 rw[List.length_map]
 have:=List.length_filter_le (fun s=>Zct a s && !(ZbI s.sams size t).isEmpty) st
 simpa using this
theorem ZkD{l:List El}(h:Srt l)(f:El->El)(hf:∀e,(f e).1=e.1):Srt (l.map f):=by
 unfold Srt
 rw[List.pairwise_map]
 exact h.imp (fun {a b} hab=>by unfold lt1 at *;rw[hf,hf];exact hab)
theorem ZsI {y : List El} (h : Srt y) (k : List UInt8) : y.filter (fun f => decide (k = wrt f.1)) = (y.find? fun f => decide (k = wrt f.1)).toList := by
  induction y with
  | nil=>rfl
  | cons e y ih=>
    obtain⟨h1,h2⟩:=List.pairwise_cons.1 h
    by_cases he:k=wrt e.1
    · rw[List.filter_cons_of_pos (by simpa using he),List.find?_cons_of_pos (by simpa using he)]
      have : y.filter (fun f => decide (k = wrt f.1)) = [] := by
        rw[List.filter_eq_nil_iff]
        intro f hf hk
        have h3:=h1 f hf
        unfold lt1 at h3
        rw[<-he,of_decide_eq_true hk,ZcE]at h3
        cases h3
      rw[this];rfl
    · rw[List.filter_cons_of_neg (by simpa using he),List.find?_cons_of_neg (by simpa using he)]
      exact ih h2
theorem ZsQ {α β : Type} (f : α -> Option β) (l : List α) : l.flatMap (fun a => (f a).toList) = l.filterMap f := by
  induction l with
  | nil=>rfl
  | cons a l ih=>
    rw[List.flatMap_cons,ih,List.filterMap_cons]
    cases f a <;> rfl
def vvF(op:Nat)(y:List El)(e:El):Option El:=(y.find? fun f=>decide (wrt e.1=wrt f.1)).map fun f=>(e.1,twoV op e.2 f.2)
theorem Zl0(op:Nat)(x y:List El)(hy:Srt y):Zfe op (.vec x) (.vec y)=.vec (x.filterMap (vvF op y)):=by
 have h : ∀ e : El, (y.filter fun f => decide (wrt e.1 = wrt f.1)).map (fun f => (e.1, twoV op e.2 f.2)) = (vvF op y e).toList := fun e => by
   rw[ZsI hy]
   unfold vvF
   cases y.find? (fun f=>decide (wrt e.1=wrt f.1)) <;> rfl
 show VV.vec (x.flatMap fun e=>(y.filter fun f=>decide (wrt e.1=wrt f.1)).map fun f=>(e.1,twoV op e.2 f.2))=_
 rw[<-ZsQ,funext h]
theorem ZzG(op:Nat)(x y:List El)(hx:Srt x):Srt (x.filterMap (vvF op y)):=by
 unfold Srt
 rw[List.pairwise_filterMap]
 refine hx.imp ?_
 intro a b hab c hc d hd
 unfold vvF at hc hd
 cases h1:y.find? (fun f=>decide (wrt a.1=wrt f.1))with
 | none=>rw[h1]at hc;cases hc
 | some f=>
  cases h2:y.find? (fun f=>decide (wrt b.1=wrt f.1))with
  | none=>rw[h2]at hd;cases hd
  | some g=>
   rw[h1]at hc;rw[h2]at hd
   cases hc;cases hd
   exact hab
theorem ZqZ(op n:Nat)(a b:VV)(ha:VOk n a)(hb:VOk n b):VOk n (Zfe op a b):=by
 cases a with
 | sc a=>
  cases b with
  | sc b=>trivial
  | vec y=>exact⟨ZkD hb.1 _ (fun _=>rfl),by rw[List.length_map];exact hb.2⟩
 | vec x=>
  cases b with
  | sc b=>exact⟨ZkD ha.1 _ (fun _=>rfl),by rw[List.length_map];exact ha.2⟩
  | vec y=>
   rw[Zl0 op x y hb.1]
   exact⟨ZzG op x y ha.1,Nat.le_trans (List.length_filterMap_le _ _) ha.2⟩
theorem Zvj(n:Nat)(a:VV)(ha:VOk n a):VOk n (negV a):=by
 cases a with
 | sc a=>trivial
 | vec x=>exact⟨ZkD ha.1 _ (fun _=>rfl),by rw[List.length_map];exact ha.2⟩
theorem Zj8 (op : Nat) (bs : List (List UInt8)) (all : List El) : ∀ (l pre : List El), ((ZcQ op bs all pre l).Pairwise fun x y => wrt x.1 ≠ wrt y.1) /\ (ZcQ op bs all pre l).length <= l.length /\ ∀ x ∈ ZcQ op bs all pre l, ∀ f ∈ pre, wrt (Zz f.1 bs) ≠ wrt x.1
  | [],pre=>⟨List.Pairwise.nil,Nat.le_refl _,by simp[ZcQ]⟩
  | e :: l, pre => by
    obtain⟨h1,h2,h3⟩:=Zj8 op bs all l (pre++[e])
    rw[ZcQ]
    split
    · refine⟨by simpa using h1,by simp;omega,fun x hx f hf=>h3 x (by simpa using hx) f (List.mem_append_left _ hf)⟩
    · rename_i hn
      refine⟨?_,by simp;omega,?_⟩
      · rw[List.singleton_append,List.pairwise_cons]
        exact⟨fun x hx=>h3 x hx e (by simp),h1⟩
      · intro x hx f hf
        rw[List.singleton_append,List.mem_cons]at hx
        rcases hx with rfl|hx
        · intro he
          exact hn (List.any_eq_true.2 ⟨f,hf,by simpa using he⟩)
        · exact h3 x hx f (List.mem_append_left _ hf)
theorem Ztc(op:Nat)(bs:List (List UInt8))(n:Nat)(l:List El)(h:l.length<=n):VOk n (.vec (Zec op bs l)):=by
 obtain⟨h1,h2,_⟩:=Zj8 op bs l l []
 obtain⟨k1,k2,_⟩:=ZgS (ZcQ op bs l [] l) [] List.Pairwise.nil h1 (by simp)
 exact⟨k1,by show(List.foldl Zb9 [] _).length<=n;rw[k2];simp;omega⟩
theorem Zst{n:Nat}{v:VV}(h:VOk n v):(ZeR v).length<=n:=by
 cases v with
 | sc _=>exact Nat.zero_le _
 | vec l=>exact h.2
theorem ZiF{st:List Ser}(h:Dst st)(tm:Int):∀t:Tr,VOk st.length (sayT st tm t)
 | .nil=>⟨List.Pairwise.nil,Nat.zero_le _⟩
 | .node x y a l r => by
   have il:=ZiF h tm l
   have ir:=ZiF h tm r
   unfold sayT
   split
   · trivial
   split
   · exact Zqf h a _ _ _
   split
   · exact Zqf h a _ _ _
   split
   · exact Zvj _ _ il
   split
   · exact Ztc _ _ _ _ (Zst il)
   split
   · split
     · exact ir
     · exact il
   · exact ZqZ _ _ _ _ il ir
end Go.Proofs.YtcdgkkfipdoeeaaGreatDoor

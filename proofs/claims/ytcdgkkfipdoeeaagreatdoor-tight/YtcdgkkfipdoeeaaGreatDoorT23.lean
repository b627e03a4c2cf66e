/- Parts. -/
import Derived.Test.YtcdgkkfipdoeeaaGreatDoorT22
import Derived.Test.YtcdgkkfipdoeeaaGreatDoorT20
import Derived.Test.YtcdgkkfipdoeeaaGreatDoorT19
import Derived.Test.YtcdgkkfipdoeeaaGreatDoorT16
import Derived.Test.YtcdgkkfipdoeeaaGreatDoorTX
set_option maxRecDepth 100000
set_option maxHeartbeats 16000000
namespace Go.Proofs.YtcdgkkfipdoeeaaGreatDoor
open Go.RowKit LS
section
variable {w0 w w' w1 w2:World} {X:GX} {nv uv sv rv nv' uv' sv' rv':Value} {sl sl':List SelC} {rl rl':List RowC} {g g':Gq} {T:TypeId} {x n:Nat}
theorem ZvR{base:Nat}{e:TypeId}{sz gg m cap:Nat}{xs:List Value}(h:w.ownsRow base e sz (.slice (some ⟨gg,0,none⟩) m cap) m xs)(k:Nat)(hk:k<=m):w.ownsRow base e sz (.slice (some ⟨gg,0,none⟩) k cap) k (xs.take (k*sz)):=by
 obtain⟨h1,h2⟩:=h
 refine⟨by rw[List.length_take,h1];exact Nat.min_eq_left (Nat.mul_le_mul_right _ hk),?_⟩
 rcases h2 with ⟨h2,_⟩|⟨g',cap',cur,hv,hb,hg,hn,hc,hs,hx⟩
 ·cases h2
 ·injection hv with hv1 hv2 hv3
  injection hv1 with hv1
  injection hv1 with hv1 _ _
  subst hv1 hv3
  refine Or.inr ⟨_,_,cur,rfl,hb,hg,by omega,hc,hs,?_⟩
  rw[<-hx,List.take_take,Nat.min_eq_left (Nat.mul_le_mul_right _ hk)]
theorem Znr(w:World):Go.Sort.grow w #[]=w:=by simp[Go.Sort.grow]
def baL(l:List UInt8):ByteArray:=⟨l.toArray⟩
theorem Zl5(l:List (List UInt8)):(l.map baL).map bl=l:=by
 rw[List.map_map]
 conv=>rhs;rw[<-List.map_id l]
 exact List.map_congr_left (fun x _=>by simp[bl,baL])
theorem Zrx(W:World)(B:Nat)(v:Value)(bs:List ByteArray)(hr:W.ownsRow B 9 1 v bs.length (Zbb bs))(hl:bs.length<=100000) :
  Calls Tryz.prog 180 #[v] W fun e W'=>∃a k c,e=.returned (.slice a k c)/\Hid (∃cs:List ByteArray,W'.ownsRow B 9 1 (.slice a k c) cs.length (Zbb cs)/\cs.map bl=Lib.compact (bs.map bl))/\W.grownBy W' v.ownBlock:=by
 by_cases h0:bs.length=0
 ·obtain rfl:bs=[]:=List.eq_nil_of_length_eq_zero h0
  obtain⟨a,c,rfl⟩:=Zv hr
  exact (Tryz.slices_Compact_string_empty a c W).mono (fun e W' ⟨he, hw⟩ => by
    subst hw
    exact⟨a,0,c,he,hid ⟨[],hr,rfl⟩,World.grownBy.refl _ _⟩)
 ·obtain⟨gg,cp,rfl⟩:=ZW hr (by omega)
  rcases hr.2 with ⟨hv,_⟩|⟨g',cap,cur,hv,hbase,hh,r1,r2,r3,r4⟩
  ·cases hv
  injection hv with e1 e2 e3
  injection e1 with e1
  injection e1 with e1
  subst e1 e3
  obtain⟨zs,hzs⟩:∃zs,zs=bs.map bl:=⟨_,rfl⟩
  have hsl:zs.length=bs.length:=by rw[hzs,List.length_map]
  have hH:Sort.Holds encStr W gg 0 zs.toArray:=holds_of_block hh (by rw[hsl];rw[Nat.mul_one,ZhH,<-hzs]at r4;exact r4)
  have hC:=Tryz.slices_Compact_string gg 0 cp zs W hH (by omega) (by omega)
  rw[hsl]at hC
  refine hC.mono (fun e W' ⟨he,q,hw⟩=>?_)
  have hle:=Lib.compact_length_le zs
  rw[<-hzs]
  have hlen:(Lib.compact zs++List.replicate (bs.length - (Lib.compact zs).length) []).length=zs.length:=by
   rw[List.length_append,List.length_replicate];omega
  have h6:=ownsRow_sorted (n:=q) (os:=#[]) hlen hbase hh (by rw[hsl];exact r1) r2 r3
  rw[Znr,<-hw]at h6
  have h7:=ZvR h6 (Lib.compact zs).length hle
  refine⟨_,_,_,he,hid ⟨(Lib.compact zs).map baL,?_,Zl5 _⟩,?_⟩
  ·rw[ZhH,Zl5,List.length_map]
   rw[Nat.mul_one,List.map_append,List.take_append_of_le_length (by simp),List.take_of_length_le (by simp)]at h7
   exact h7
  ·have:=grownBy_sorted (w:=W) (n:=q) (g:=gg) (os:=#[]) (Lib.compact zs++List.replicate (bs.length - (Lib.compact zs).length) []).toArray
   rw[Znr,<-hw]at this
   exact this
theorem Tryz.infoRowS:(Tryz.prog.info? 122).map (fun i=>(i.zero,i.size,i.bytes))=some (some (.slice none 0 0),1,24):=by kernel_rfl
theorem Zs8{ns:List (List UInt8)}{i:Nat}(h:idx (commas (ZbC ns)) (g.grps.map commas)=some i):ZZ ns g=(i,g):=by unfold ZZ;rw[h]
theorem Zs7{ns:List (List UInt8)}(h:idx (commas (ZbC ns)) (g.grps.map commas)=none):ZZ ns g=(g.grps.length,{ g with grps:=g.grps++[ZbC ns] }):=by unfold ZZ;rw[h]
theorem ZnA(x:List UInt8):∀l:List (List UInt8),nw (insN x l)<=nw (x::l)
 | []=>Nat.le_refl _
 | y :: l => by
   unfold insN
   split
   · simp only[nw];omega
   · split
     · exact Nat.le_refl _
     · have:=ZnA x l
       simp only[nw]at this ⊢
       omega
theorem ZgJ:∀l:List (List UInt8),nw (ZbC l)<=nw l
 | []=>Nat.le_refl _
 | x :: l => by
   have h1:=ZnA x (ZbC l)
   have h2:=ZgJ l
   show nw (insN x (ZbC l))<=_
   simp only[nw]at h1 ⊢
   omega
theorem ZrB(h:GW w0 w X g)(la:Option Addr)(ln lc:Nat)(ns:List (List UInt8))(hn:Z4 w0 (.slice la ln lc) ns)(hnw:nw ns<=100000)(hsl:g.grps.length<=500000) :
  Calls Tryz.prog 122 #[.pointer (some ⟨X.gb,0,none⟩),.slice la ln lc] w fun e w'=>e=.returned (.int .i64 ((ZZ ns g).1:Nat))/\Hid (GP w0 w w' X (ZZ ns g).2):=by
 obtain⟨nv,uv,sv,rv,sl,rl,hI⟩:=h
 obtain⟨f,hj,hf⟩:=hI.j
 have HI:=hid hI
 have HF:=hid hf
 have HJ:=hid hj
 obtain⟨bs,hbo,hbs⟩:=hn
 obtain⟨_,_,he⟩:=Zv hbo
 injection he with he1 he2 he3
 subst he2
 have hbl:bs.length<=100000:=by
  have:bs.length<=nw ns:=by rw[<-hbs];have:=ZkS (bs.map bl);rwa [List.length_map]at this
  omega
 have HBO:Hid (w.ownsRow 0 9 1 (.slice la bs.length lc) bs.length (Zbb bs)):=hid (Zw hbo hj.bel)
 have HBS:=hid hbs
 have HNW:=hid hnw
 clear hI hf hj hbo hbs he1 he3
 have HVA:=hid (Zp6 (.slice la bs.length lc) w la bs.length lc rfl)
 go_enter Tryz.func122,Tryz.ntmps122
 go_wp2_with fail
 refine HVA.mono ?_
 rintro e w1 ⟨rfl,hw1⟩
 have hb1:Below w.heap.size w w1:=by rw[hw1];exact belB
 have hc1:w1.cell? ⟨w.heap.size,0,none⟩=some (.slice la bs.length lc):=by rw[hw1];simp
 have hs1:w.heap.size<w1.heap.size:=by rw[hw1];simp
 have HSO:=hid (ZpC w.heap.size (.slice la bs.length lc) bs hbl w1 hs1 hc1 (Zw HBO.out hb1))
 have HB1:=hid hb1
 clear hw1 hb1 hc1 hs1 HVA
 go_wp2_with fail
 refine HSO.mono ?_
 rintro e w2 ⟨nv2,bs2,rfl,HN2,hb2⟩
 have HB2:=hid (HB1.trans (hb2.mono HB1.size))
 have HCO:=hid (Zrx w2 w1.heap.size nv2 bs2 HN2.1 (by rw[HN2.2.1];exact hbl))
 have HCL:Hid (Lib.compact (bs2.map bl)=ZbC ns):=hid (ZrX HN2.2.2.1 (fun x=>by rw[HN2.2.2.2,HBS.out]))
 have HLT:Hid (∀k,nv2.ownBlock=some k->w.heap.size<=k):=hid (fun k hk=>Nat.le_trans HB1.size (HN2.1.lt k hk).1)
 obtain⟨a2,c2,hv2⟩:=Zv HN2.1
 subst hv2
 clear hb2 HSO HN2
 go_wp2_with fail
 refine HCO.mono ?_
 rintro e w3 ⟨ra,rk,rc,rfl,HR3,hg3⟩
 have HNV:Hid (Z4 w3 (.slice ra rk rc) (ZbC ns)):=hid (by
  obtain⟨cs,h1,h2⟩:=HR3.out
  exact⟨cs,h1.mono (Nat.zero_le _),by rw[h2,HCL.out]⟩)
 have HB3:Hid (Below w.heap.size w w3):=hid (HB2.grown hg3 HB2.size (fun k hk=>HLT.out k hk))
 clear hg3 HCO HR3 HLT
 have HJT:=hid (Zki ra rk rc (ZbC ns) HNV.out (by have:=ZgJ ns;have:=HNW.out;omega))
 go_wp2_with fail
 refine HJT.mono ?_
 rintro e w4 ⟨tx,rfl,HTX,hb4⟩
 have HB4:=hid (HB3.trans (hb4.mono HB3.size))
 have HNV4:=hid (HNV.below hb4)
 have HJ4:=hid (HJ.below HB4.out)
 have HK4:=hid (KT.below HB4.out)
 have htl:tx.size<=100000:=by
  rw[Z7 HTX.out]
  exact Nat.le_trans (Zeq _) (Nat.le_trans (ZgJ ns) HNW.out)
 clear hb4 HJT HNV HB3 HJ
 obtain⟨kl,hkl⟩:=ZpL (s:=tx) (by unfold maxLen;omega)
 have HKL:=hid hkl
 have hlk:=HJ4.gmp.look strK Tryz.underlying174 HKL.out w4 rfl
 have b8:w4.cell? ⟨X.gb,8,none⟩=some (.map (some X.gm)):=HJ4.box.cell 8
 have hgl:=HJ4.box.lt
 unfold idxV at hlk
 rw[HTX.out]at hlk
 clear hkl
 cases hix:idx (commas (ZbC ns)) (g.grps.map commas)with
 | some i=>
  rw[hix]at hlk
  simp only[Option.map_some,Option.getD_some,Option.isSome_some,Int.ofNat_eq_natCast]at hlk
  have HQ:=hid (Zs8 hix)
  go_wp2
  go_ret
  rw[HQ.out]
  exact⟨rfl,hid (GP.of ⟨⟨f,HJ4.out,HF.out⟩,HI.ulen,HI.nok,HI.ubd⟩ HK4.out)⟩
 | none=>
  rw[hix]at hlk
  simp only[Option.map_none,Option.getD_none,Option.isSome_none]at hlk
  have HQ:=hid (Zs7 hix)
  obtain⟨sa,sc,hsv⟩:=Zv HJ4.grp
  subst hsv
  obtain⟨L,hL⟩:∃L,L=g.grps.length:=⟨_,rfl⟩
  have HL:=hid hL
  rw[<-hL]at hsl HJ4
  have HIX:=hid hix
  clear hL hix
  have HLM:Hid ((g.grps.map commas).length=L):=hid (by rw[List.length_map];exact HL.symm)
  have hg1:idxV (g.grps.map commas++[commas (ZbC ns)]) tx=some (L:Int):=by
   unfold idxV
   rw[ZgW _ _ _ HIX.out,HTX.out,if_pos rfl,HLM.out];rfl
  have hg2 : ∀ a', a' ≠ tx -> idxV (g.grps.map commas ++ [commas (ZbC ns)]) a' = idxV (g.grps.map commas) a' := fun a' ha => by
    unfold idxV
    rw[ZgW _ _ _ HIX.out,if_neg (fun e=>ha (ZeN (e.trans HTX.symm)))]
  obtain⟨w5,hup,hm5,hgr5⟩:=HJ4.gmp.put strK Tryz.underlying174 ZpK (by rw[HLM.out];omega) HKL.out (v:=L) (Zgc (by omega)) hg1 hg2 w4 rfl
  have HP5:=hid (HJ4.gmPut hgr5 (gs':=g.grps.map commas++[commas (ZbC ns)]) (by rw[List.length_append];exact hm5))
  have HJ5:=hid HP5.1
  have HK5:Hid (KT w w5):=hid (HK4.trans HP5.2)
  have HNV5:Hid (Z4 w5 (.slice ra rk rc) (ZbC ns)):=hid (by
   obtain⟨es,cl,ho⟩:=HJ4.gmp.obj
   obtain⟨cs,h1,h2⟩:=HNV4.out
   exact⟨cs,(KM.of ho hgr5).own h1,h2⟩)
  have b6:w4.cell? ⟨X.gb,6,none⟩=some (.slice sa L sc):=HJ4.box.cell 6
  have c6:w5.cell? ⟨X.gb,6,none⟩=some (.slice sa L sc):=HJ5.box.cell 6
  have c6l:=HJ5.box.lt
  clear hg1 hg2 hm5 hgr5 HP5
  obtain⟨i0,hi,hz0,hz1,hz2⟩:=info_parts Tryz.infoRowS
  have HJA:Hid (∀o,GJ w0 (w5.alloc o) X nv uv sv (.slice sa L sc) sl rl g _ f _ _):=hid (fun o=>HJ5.below Zbal)
  have HOA:Hid (∀o,(w5.alloc o).ownsRow X.base 122 1 (.slice sa L sc) L (rl.map rowV)):=hid (fun o=>by have:=(HJA.out o).grp;rwa [<-HL.out]at this)
  have HNA:Hid (∀o,Z4 (w5.alloc o) (.slice ra rk rc) (ZbC ns)):=hid (fun o=>HNV5.below Zbal)
  have HKA:Hid (∀o,KT w (w5.alloc o)):=hid (fun o=>HK5.trans (KT.below Zbal))
  have HBS2:Hid (X.base<=w5.heap.size):=hid (by have h1:=HJ5.bel.size;have:=HJ5.bas.1;omega)
  clear HJ5 HK5 HNV5 HJ4 HNV4 HK4
  go_wp2_with (at_builtin;refine wpList_append_own _ rfl (.tmp 41) (.tmp 43) 56 rfl X.base 122 i0 (.slice none 0 0) 1 24 Tryz.underlying56 hi hz0 hz1 hz2 rfl (by decide) _ _ _ rfl (HOA.out _) ⟨w5.heap.size,0,none⟩ 1 1 [.slice ra rk rc] rfl rfl (cell_one_new _ _ _) ?c2 ?c3 ?c4 ?c5 ?_)
  case c2=>first|rfl|(intro u hu;simp at hu;subst hu;rfl)
  case c3=>unfold maxLen;omega
  case c4=>omega
  case c5=>have:=HBS2.out;simp;omega
  intro v6 w6 hown6 hgrow6 _
  obtain⟨ub,uc6,hv6⟩:=ZW hown6 (by omega)
  subst hv6
  obtain⟨hb6,hj6,hk6⟩:=(HJA.out _).grpApp (ra,rk,rc) (ZbC ns) (HNA.out _) hgrow6 (by rw[<-HL.out];exact hown6)
  have HB7:=hid hb6
  have HJ7:=hid hj6
  have HK7:=hid ((HKA.out _).trans hk6)
  clear hown6 hgrow6 hb6 hj6 hk6 HJA HOA HNA HKA HBS2 c6 c6l b6 b8 hgl hlk hup
  have c6:w6.cell? ⟨X.gb,6,none⟩=some (.slice sa L sc):=HB7.cell 6
  have cf:=HB7.frozen 6
  have cl:=HB7.lt
  go_wp2
  go_ret
  rw[HQ.out,<-HL.out]
  exact⟨rfl,hid (GP.of ⟨⟨f,by rw[show(g.grps++[ZbC ns]).map commas=g.grps.map commas++[commas (ZbC ns)] by simp];exact HJ7.out,HF.out⟩,HI.ulen,HI.nok,HI.ubd⟩ HK7.out)⟩
end
end Go.Proofs.YtcdgkkfipdoeeaaGreatDoor
namespace Go.Proofs.YtcdgkkfipdoeeaaGreatDoor
open Go.RowKit LS
section
variable {g g':Gq} {n:Nat}
structure GLe (g g':Gq) (k:Nat):Prop where
 n1:g.nodes.length<=g'.nodes.length
 n2:g'.nodes.length<=g.nodes.length+k
 s1:g'.sels.length<=g.sels.length+k
 r1:g'.grps.length<=g.grps.length+k
theorem GLe.refl(g:Gq)(k:Nat):GLe g g k:=⟨Nat.le_refl _,by omega,by omega,by omega⟩
theorem GLe.trans{g2:Gq}{k m:Nat}(h:GLe g g' k)(q:GLe g' g2 m):GLe g g2 (k+m):=⟨by have:=h.n1;have:=q.n1;omega,by have:=h.n2;have:=q.n2;omega,by have:=h.s1;have:=q.s1;omega,by have:=h.r1;have:=q.r1;omega⟩
theorem GLe.mono{k m:Nat}(h:GLe g g' k)(hm:k<=m):GLe g g' m:=⟨h.n1,by have:=h.n2;omega,by have:=h.s1;omega,by have:=h.r1;omega⟩
theorem Zdp(z:Nq)(g:Gq):GLe g (addQ z g).2 1/\(addQ z g).1<(addQ z g).2.nodes.length:=by
 by_cases h:g.share=true/\∃i,idxN z g.nodes=some i
 ·obtain⟨h1,i,h2⟩:=h
  rw[Zfc h1 h2]
  exact⟨GLe.refl _ _,Zka h2⟩
 ·have : g.share = true -> idxN z g.nodes = none := fun h1 => by
    cases hi:idxN z g.nodes with
    | none=>rfl
    | some i=>exact absurd ⟨h1,i,hi⟩ h
  rw[Zfb this]
  exact⟨⟨by simp,by simp,by simp,by simp⟩,by simp⟩
theorem Zvi(n:Nat)(g:Gq):GLe g (negQ n g).2 1/\(negQ n g).1<(negQ n g).2.nodes.length:=by
 unfold negQ
 split
 ·exact Zdp _ _
 ·exact Zdp _ _
theorem Zv4(o x y:Nat)(g:Gq):GLe g (Z0 o x y g).2 1/\(Z0 o x y g).1<(Z0 o x y g).2.nodes.length:=by
 unfold Z0
 split
 ·exact Zdp _ _
 ·exact Zdp _ _
theorem Zhd(y:Nd×Nat)(g:Gq):GLe g (Zx y g).2 2/\(Zx y g).1<(Zx y g).2.nodes.length:=by
 unfold Zx
 split
 ·exact⟨(Zdp _ _).1.mono (by decide),(Zdp _ _).2⟩
 ·have h:=Zdp ⟨1,(g.sels.length:Nat),none,none⟩ { g with sels:=g.sels++[y] }
  exact⟨(show GLe g { g with sels:=g.sels++[y] } 1 from⟨Nat.le_refl _,by simp,by simp,by simp⟩).trans h.1,h.2⟩
theorem ZgU(ns:List (List UInt8))(g:Gq):GLe g (ZZ ns g).2 1/\(ZZ ns g).1<=g.grps.length/\(ZZ ns g).2.nodes=g.nodes:=by
 unfold ZZ
 split
 ·rename_i i h
  exact⟨GLe.refl _ _,by have:=ZhU h;simp at this;show i<=_;omega,rfl⟩
 ·exact⟨⟨by simp,by simp,by simp,by simp⟩,Nat.le_refl _,rfl⟩
theorem Ziq(a:Nd):24<=ownW a:=by unfold ownW;omega
theorem Zch:∀(t:Tr) (g:Gq),wfT t->GLe g (Zb t g).2 (wT t)/\(isNil t=false->(Zb t g).1<(Zb t g).2.nodes.length)
 | .nil,g,_=>⟨GLe.refl _ _,fun h=>(by cases h)⟩
 | .node _ _ a l r, g, hw => by
   obtain⟨_,_,_,_,_,_,h7,h8,h9,h10,hl,hr⟩:=hw
   have ihl:=Zch l
   have ihr:=Zch r
   have hge:=Ziq a
   unfold Zb
   show GLe _ _ (ownW a+wT l+wT r)/\_
   split
   · exact⟨(Zdp _ _).1.mono (by omega),fun _=>(Zdp _ _).2⟩
   · split
     · exact⟨(Zhd _ _).1.mono (by omega),fun _=>(Zhd _ _).2⟩
     · split
       · simp only
         have h1:=Zhd (ZbJ a,a.n.toNat) g
         have h2:=Zdp ⟨2,a.op,some (Zx (ZbJ a,a.n.toNat) g).1,none⟩ (Zx (ZbJ a,a.n.toNat) g).2
         exact⟨(h1.1.trans h2.1).mono (by omega),fun _=>h2.2⟩
       · split
         · simp only
           have h1:=(ihl g hl).1
           have h2:=Zvi (Zb l g).1 (Zb l g).2
           exact⟨(h1.trans h2.1).mono (by omega),fun _=>h2.2⟩
         · split
           · simp only
             have h1:=(ihl g hl).1
             have h2:=ZgU a.by_ (Zb l g).2
             have h3:=Zdp ⟨5+a.op,(ZZ a.by_ (Zb l g).2).1,some (Zb l g).1,none⟩ (ZZ a.by_ (Zb l g).2).2
             exact⟨((h1.trans h2.1).trans h3.1).mono (by omega),fun _=>h3.2⟩
           · simp only
             have h1:=(ihl g hl).1
             have h2:=(ihr (Zb l g).2 hr).1
             split
             · have h3:=Zdp ⟨10,0,some (Zb l g).1,some (Zb r (Zb l g).2).1⟩ (Zb r (Zb l g).2).2
               exact⟨((h1.trans h2).trans h3.1).mono (by omega),fun _=>h3.2⟩
             · have h3:=Zv4 a.op (Zb l g).1 (Zb r (Zb l g).2).1 (Zb r (Zb l g).2).2
               exact⟨((h1.trans h2).trans h3.1).mono (by omega),fun _=>h3.2⟩
end
end Go.Proofs.YtcdgkkfipdoeeaaGreatDoor
namespace Go.Proofs.YtcdgkkfipdoeeaaGreatDoor
open Go.RowKit LS
section
variable {w0 w w' w1 w2:World} {X:GX} {g g':Gq}
theorem Zs9 (wd : ByteArray) (op : Nat) (hop : op <= 3) (h : bl wd = ZG.getD op []) (w : World) : Calls Tryz.prog 121 #[.string wd] w fun e w' => e = .returned (.int .i64 (5 + op : Nat)) /\ w' = w := by
  have HM:=hid (Zov wd op hop h w)
  clear h
  go_enter Tryz.func121,Tryz.ntmps121
  go_wp2_with fail
  refine HM.mono ?_
  rintro e w1 ⟨rfl,rfl⟩
  go_wp2
  go_ret
  exact⟨by simp,rfl⟩
theorem Zjq {x y : Nat} {a : Nd} {l r : Tr} (hw : wT (.node x y a l r) <= 100000) (k : Nat) (hk : k <= 1000000000) : SelW (ZbJ a, k) := ⟨⟨by show 1 <= 6; decide, by show 0 <= 4; decide, fun h => (by cases h), fun h => (by cases h), by show (0 : Int) <= 0; decide, by show (0 : Int) <= 1000000000; decide, fun h => absurd (show 3 <= 1 from h) (by decide), fun h => (by rcases h with h | h <;> cases h), fun _ => ⟨rfl, rfl⟩, fun h => (by rcases h with h | h <;> cases h), trivial, trivial⟩, rfl, by
  have h1:wT (.node x y a l r)=ownW a+wT l+wT r:=rfl
  show ownW (ZbJ a)+0+0<=100000
  have h2:ownW (ZbJ a)<=ownW a:=by unfold ownW ZbJ;simp[nw]
  omega,hk⟩
theorem GW.pow(h:GW w0 w X g)(ht:Zu w0)(hB:20<=w0.heap.size):Zu w/\20<=w.heap.size:=by
 obtain⟨a1,a2,a3,a4,a5,a6,h1⟩:=h
 obtain⟨f,hj,_⟩:=h1.j
 exact⟨ht.low hj.bel hB,Nat.le_trans hB hj.bel.size⟩
theorem Zk3(X:GX)(w0:World)(ht:Zu w0)(hB:20<=w0.heap.size):∀(t:Tr) (g:Gq) (w:World) (v:Value),GW w0 w X g->Ze w0 t v->wfT t->wT t<=100000->g.nodes.length+wT t<=400000->g.sels.length+wT t<=400000->g.grps.length+wT t<=400000->
  Calls Tryz.prog 75 #[.pointer (some ⟨X.gb,0,none⟩),v] w fun e w'=>e=.returned (.int .i64 ((Zb t g).1:Nat))/\Hid (GP w0 w w' X (Zb t g).2)
 | .nil,_,_,_,_,h,_,_,_,_,_=>h.elim
 | .node px py a l r, g, w, v, hG, hv, hwf, hwt, hn, hs, hr => by
   have IHL:=hid (Zk3 X w0 ht hB l)
   have IHR:=hid (Zk3 X w0 ht hB r)
   have HG:=hid hG
   have HWF:=hid hwf
   have HT:=hid ht
   have HBn:=hid hB
   have HWT:=hid hwt
   have hwe:wT (.node px py a l r)=ownW a+wT l+wT r:=rfl
   rw[hwe]at hn hs hr hwt
   have hge:=Ziq a
   clear hG
   rcases hv with ⟨hk,rfl⟩|⟨hk,nm,la,ln,lc,rfl,hnm,hcv⟩|⟨hk,wd,nm,la,ln,lc,rfl,hwd,hnm,hcv⟩|⟨hk,x,rfl,hx⟩|⟨hk,wd,la,ln,lc,x,rfl,hwd,hnv,hx⟩|⟨hk,x,y,rfl,hx,hy⟩
   · have HQ:Hid (Zb (.node px py a l r) g=Zcf a.n g):=hid (by unfold Zb;rw[if_pos hk])
     have HV:Hid (vOk a.n):=hid ⟨by have:=hwf.2.2.2.2.1;omega,hwf.2.2.2.2.2.1⟩
     clear hwf ht hB
     have h1:=Zgp (.agg #[.int .i64 a.n])
     go_enter Tryz.func75,Tryz.ntmps75
     go_wp2_with fail
     refine ZK fun W0 hW0=>?_
     have hb0:Below w.heap.size w W0:=by rw[hW0];exact belB
     clear hW0
     refine(ZmA (HG.below hb0) HV.out (by omega)).mono ?_
     rintro e w1 ⟨rfl,HP⟩
     go_wp2
     go_ret
     rw[HQ.out]
     exact⟨rfl,hid (GP.step (KT.below hb0) HP.out)⟩
   · have HQ:Hid (Zb (.node px py a l r) g=Zx (ZbJ a,0) g):=hid (by unfold Zb;rw[if_neg (by omega),if_pos hk])
     have HSO:Hid (ZdW w0 (nm,la,ln,lc,0) (ZbJ a,0)):=hid ⟨hnm,hcv,rfl⟩
     clear hwf ht hB hnm hcv
     have h1:=Zgs (.agg #[.string nm,.slice la ln lc])
     have h2:=Zgr (.agg #[.string nm,.slice la ln lc])
     have h3:=Zgt (.agg #[.string nm,.slice la ln lc])
     have h4:=Zgq (.agg #[.string nm,.slice la ln lc])
     have h5:=Zgv (.agg #[.string nm,.slice la ln lc])
     have h6:=Zgu (.agg #[.string nm,.slice la ln lc])
     go_enter Tryz.func75,Tryz.ntmps75
     go_wp2_with fail
     refine ZK fun W0 hW0=>?_
     have hb0:Below w.heap.size w W0:=by rw[hW0];exact belB
     clear hW0
     have hG0:=HG.below hb0
     refine(ZoY hG0 (nm,la,ln,lc,0) (ZbJ a,0) HSO.out (Zjq HWT.out 0 (by omega)) (hG0.pow HT.out HBn.out).1 (hG0.pow HT.out HBn.out).2 (by omega) (by omega)).mono ?_
     rintro e w1 ⟨rfl,HP⟩
     go_wp2
     go_ret
     rw[HQ.out]
     exact⟨rfl,hid (GP.step (KT.below hb0) HP.out)⟩
   · obtain⟨m,hm⟩:∃m:Nat,a.n=m:=⟨a.n.toNat,by have:=hwf.2.2.2.2.1;omega⟩
     have HQ:Hid (Zb (.node px py a l r) g=addQ ⟨2,a.op,some (Zx (ZbJ a,m) g).1,none⟩ (Zx (ZbJ a,m) g).2):=hid (by unfold Zb;rw[if_neg (by omega),if_neg (by omega),if_pos hk,hm];rfl)
     have HSO:Hid (ZdW w0 (nm,la,ln,lc,m) (ZbJ a,m)):=hid ⟨hnm,hcv,rfl⟩
     have hop:=hwf.2.1
     have hm9:m<=1000000000:=by have:=hwf.2.2.2.2.2.1;omega
     have HLE:=hid (Zhd (ZbJ a,m) g)
     have HMO:=hid (fun W=>Zow wd a.op hop hwd W)
     rw[hm]
     clear hwf ht hB hnm hcv hwd
     have h1:=Zgy (.agg #[.string wd,.string nm,.slice la ln lc,.int .i64 m])
     have h2:=Zgx (.agg #[.string wd,.string nm,.slice la ln lc,.int .i64 m])
     have h3:=Zgz (.agg #[.string wd,.string nm,.slice la ln lc,.int .i64 m])
     have h4:=Zgw (.agg #[.string wd,.string nm,.slice la ln lc,.int .i64 m])
     have h5:=ZgA (.agg #[.string wd,.string nm,.slice la ln lc,.int .i64 m])
     go_enter Tryz.func75,Tryz.ntmps75
     go_wp2_with fail
     refine ZK fun W0 hW0=>?_
     have hb0:Below w.heap.size w W0:=by rw[hW0];exact belB
     have HB0:Hid (BAt W0 w.heap.size [.string wd,.string nm,.slice la ln lc,.int .i64 m] 150):=hid (by rw[hW0];exact(show BAt _ _ _ _ from Go.Deep.blk_alloc_new w _))
     have HK0:=hid (KT.below hb0)
     have HG0:=hid (HG.below hb0)
     clear hW0 hb0 h1 h2 h3 h4 h5
     generalize w.heap.size=qb at *
     refine(ZoY HG0.out (nm,la,ln,lc,m) (ZbJ a,m) HSO.out (Zjq HWT.out m hm9) (HG0.pow HT.out HBn.out).1 (HG0.pow HT.out HBn.out).2 (by omega) (by omega)).mono ?_
     rintro e w1 ⟨rfl,HP⟩
     have HB1:=hid (HP.kt.bat HB0.out (by decide))
     have HG1:=hid HP.gw
     have HK1:=hid (HK0.trans HP.kt)
     clear HP HB0 HG0 HK0
     generalize Zx (ZbJ a,m) g=p at *
     have q0:w1.cell? ⟨qb,0,none⟩=some (.string wd):=HB1.cell 0
     have hql:=HB1.lt
     obtain⟨hle1,hle2⟩:=HLE.out
     have hl2:=hle1.n2
     go_wp2_with fail
     refine(HMO.out w1).mono ?_
     rintro e w2 ⟨rfl,rfl⟩
     have HA:=hid (HG1.add ⟨2,a.op,some p.1,none⟩ (ZfR (by decide) hle2 (by omega) (by omega)) (by omega))
     simp only[nI]at HA
     go_wp2_with fail
     refine HA.mono ?_
     rintro e w3 ⟨rfl,HP3⟩
     go_wp2
     go_ret
     rw[HQ.out]
     exact⟨rfl,hid (GP.step HK1.out HP3.out)⟩
   · have HQ:Hid (Zb (.node px py a l r) g=negQ (Zb l g).1 (Zb l g).2):=hid (by rw[Zb,if_neg (by omega),if_neg (by omega),if_neg (by omega),if_pos hk])
     have hwl:=hwf.2.2.2.2.2.2.2.2.2.2.1
     have HLE:=hid (Zch l g hwl)
     have hnil:=hwf.2.2.2.2.2.2.1 (by omega)
     have HX:=hid hx
     obtain⟨ty,u,hsh⟩:=Ze.shape hx
     subst hsh
     clear hwf ht hB hx
     have h1:=Zgo (.agg #[.iface ty u])
     have h2:=Zgn (.agg #[.iface ty u])
     go_enter Tryz.func75,Tryz.ntmps75
     go_wp2_with fail
     refine ZK fun W0 hW0=>?_
     have hb0:Below w.heap.size w W0:=by rw[hW0];exact belB
     have HK0:=hid (KT.below hb0)
     have HG0:=hid (HG.below hb0)
     clear hW0 hb0 h1 h2
     refine(IHL.out g W0 _ HG0.out HX.out hwl (by omega) (by omega) (by omega) (by omega)).mono ?_
     rintro e w1 ⟨rfl,HP⟩
     have HG1:=hid HP.gw
     have HK1:=hid (HK0.trans HP.kt)
     clear HP HG0 HK0
     generalize Zb l g=p at *
     obtain⟨hle1,hle2⟩:=HLE.out
     have hl2:=hle1.n2
     go_wp2_with fail
     refine(ZrJ HG1.out p.1 (hle2 hnil) (by omega)).mono ?_
     rintro e w3 ⟨rfl,HP3⟩
     go_wp2
     go_ret
     rw[HQ.out]
     exact⟨rfl,hid (GP.step HK1.out HP3.out)⟩
   · have HQ:Hid (Zb (.node px py a l r) g=addQ ⟨5+a.op,(ZZ a.by_ (Zb l g).2).1,some (Zb l g).1,none⟩ (ZZ a.by_ (Zb l g).2).2):=hid (by rw[Zb,if_neg (by omega),if_neg (by omega),if_neg (by omega),if_neg (by omega),if_pos hk])
     have hwl:=hwf.2.2.2.2.2.2.2.2.2.2.1
     have HLE:=hid (Zch l g hwl)
     have hnil:=hwf.2.2.2.2.2.2.1 (by omega)
     have hop:=hwf.2.2.2.1 hk
     have hnw:nw a.by_<=100000:=by unfold ownW at hwt;omega
     have HGO:=hid (fun W=>Zs9 wd a.op hop hwd W)
     have HX:=hid hx
     have HNV:=hid hnv
     obtain⟨ty,u,hsh⟩:=Ze.shape hx
     subst hsh
     clear hwf ht hB hx hwd hnv
     have h1:=Zgl (.agg #[.string wd,.slice la ln lc,.iface ty u])
     have h2:=Zgk (.agg #[.string wd,.slice la ln lc,.iface ty u])
     have h3:=Zgm (.agg #[.string wd,.slice la ln lc,.iface ty u])
     have h4:=Zgj (.agg #[.string wd,.slice la ln lc,.iface ty u])
     go_enter Tryz.func75,Tryz.ntmps75
     go_wp2_with fail
     refine ZK fun W0 hW0=>?_
     have hb0:Below w.heap.size w W0:=by rw[hW0];exact belB
     have HB0:Hid (BAt W0 w.heap.size [.string wd,.slice la ln lc,.iface ty u] 124):=hid (by rw[hW0];exact(show BAt _ _ _ _ from Go.Deep.blk_alloc_new w _))
     have HK0:=hid (KT.below hb0)
     have HG0:=hid (HG.below hb0)
     clear hW0 hb0 h1 h2 h3 h4
     generalize w.heap.size=qb at *
     refine(IHL.out g W0 _ HG0.out HX.out hwl (by omega) (by omega) (by omega) (by omega)).mono ?_
     rintro e w1 ⟨rfl,HP⟩
     have HB1:=hid (HP.kt.bat HB0.out (by decide))
     have HG1:=hid HP.gw
     have HK1:=hid (HK0.trans HP.kt)
     clear HP HG0 HK0 HB0
     generalize Zb l g=p at *
     obtain⟨hle1,hle2⟩:=HLE.out
     have hl2:=hle1.n2
     have hr2:=hle1.r1
     have HP1:=hid (hle2 hnil)
     have HGL:=hid (ZgU a.by_ p.2)
     go_upto_region 14 with fail
     have HB2:Hid (BAt w1.drew qb [.string wd,.slice la ln lc,.iface ty u] 124):=HB1
     have HG2:Hid (GW w0 w1.drew X p.2):=hid (HG1.below (Below.refl _ _).drew)
     have HK2:Hid (KT w w1.drew):=hid (HK1.trans (KT.below (Below.refl _ _).drew))
     refine Zcm 11 (fun w'=>w'.cell? ⟨qb,0,none⟩=some (.string wd)/\w'.cell? ⟨qb,1,none⟩=some (.slice la ln lc)) (by kernel_rfl) ⟨HB2.cell 0,HB2.cell 1⟩ (fun hHeld=>?_)
     clear HB1 HG1 HK1
     generalize w1.drew=w2 at *
     refine Zd 0 hHeld (h:=?_)
     refine Zd 1 hHeld (h:=?_)
     refine Zd 2 hHeld (h:=?_)
     refine Zd 4 hHeld (h:=?_)
     refine Zd 5 hHeld (h:=?_)
     refine Zd 6 hHeld (h:=?_)
     refine Zd 8 hHeld (h:=?_)
     refine Zbr (i:=3) (by kernel_rfl) rfl (fun K hK=>?_)
     go_simp
     refine(HGO.out w2).mono ?_
     rintro e w3 ⟨rfl,rfl⟩
     refine hK.out _ _ hHeld (fun hHeld=>?_)
     clear hK K
     try simp only[Act.put,Zset]
     refine Zbr (i:=7) (by kernel_rfl) rfl (fun K hK=>?_)
     go_simp
     refine(ZrB HG2.out la ln lc a.by_ HNV.out hnw (by omega)).mono ?_
     rintro e w4 ⟨rfl,HP4⟩
     have HB4:=hid (HP4.kt.bat HB2.out (by decide))
     have HG4:=hid HP4.gw
     have HK4:=hid (HK2.trans HP4.kt)
     clear HP4 HB2 HG2 HK2
     obtain⟨hq1,hq2,hq3⟩:=HGL.out
     generalize ZZ a.by_ p.2=q at *
     refine hK.out _ _ ⟨HB4.cell 0,HB4.cell 1⟩ (fun hHeld=>?_)
     clear hK K
     refine Zd 9 hHeld (h:=?_)
     have hq4:=hq1.n2
     have HA:=hid (HG4.add ⟨5+a.op,(q.1:Nat),some p.1,none⟩ (ZfR (by omega) (by rw[hq3];exact HP1.out) (by omega) (by omega)) (by rw[hq3];omega))
     simp only[nI]at HA
     refine Zbr (i:=10) (by kernel_rfl) rfl (fun K hK=>?_)
     go_simp
     refine HA.mono ?_
     rintro e w5 ⟨rfl,HP5⟩
     have HB5:=hid (HP5.kt.bat HB4.out (by decide))
     refine hK.out _ _ ⟨HB5.cell 0,HB5.cell 1⟩ (fun hHeld=>?_)
     clear hK K
     try simp only[Act.put,Zset]
     refine Zcq (by kernel_rfl) (by kernel_rfl) rfl (by kernel_rfl) (fun K hK=>?_)
     go_simp
     refine hK.out _ _ ?_
     clear hK K hHeld
     go_wp2
     go_ret
     rw[HQ.out]
     exact⟨rfl,hid (GP.step HK4.out HP5.out)⟩
   · have HQ:Hid (Zb (.node px py a l r) g=Zfo (opNo a) (Zb l g).1 (Zb r (Zb l g).2).1 (Zb r (Zb l g).2).2):=hid (by
       rw[Zb,if_neg (by omega),if_neg (by omega),if_neg (by omega),if_neg (by omega),if_neg (by omega)]
       unfold Zfo opNo
       rcases hk with h4|h6
       · have h6:¬a.kind=6:=by omega
         simp[h6]
       · simp[h6])
     have hwl:=hwf.2.2.2.2.2.2.2.2.2.2.1
     have hwr:=hwf.2.2.2.2.2.2.2.2.2.2.2
     have HLL:=hid (Zch l g hwl)
     have HLR:=hid (Zch r (Zb l g).2 hwr)
     have hnl:=hwf.2.2.2.2.2.2.1 (by omega)
     have hnr:=hwf.2.2.2.2.2.2.2.1 hk
     have hop:opNo a<=4:=by
       unfold opNo
       split
       · omega
       · have:=hwf.2.2.1 (by omega);omega
     have HX:=hid hx
     have HY:=hid hy
     obtain⟨ty,u,hsh⟩:=Ze.shape hx
     subst hsh
     obtain⟨ty2,u2,hsh⟩:=Ze.shape hy
     subst hsh
     generalize opNo a=oo at *
     clear hwf ht hB hx hy hk
     have h1:=Zfy (.agg #[.int .i64 oo,.iface ty u,.iface ty2 u2])
     have h2:=Zfx (.agg #[.int .i64 oo,.iface ty u,.iface ty2 u2])
     have h3:=Zfz (.agg #[.int .i64 oo,.iface ty u,.iface ty2 u2])
     go_enter Tryz.func75,Tryz.ntmps75
     go_upto_region 10 with fail
     refine Z9 fun W0 hW0=>?_
     have hb0:Below w.heap.size w W0:=by rw[hW0];exact belB
     have HB0:Hid (BAt W0.drew w.heap.size [.int .i64 oo,.iface ty u,.iface ty2 u2] 116):=hid (by rw[hW0];exact(show BAt _ _ _ _ from Go.Deep.blk_alloc_new w _))
     have HK0:Hid (KT w W0.drew):=hid (KT.below hb0.drew)
     have HG0:Hid (GW w0 W0.drew X g):=hid (HG.below hb0.drew)
     clear hW0 hb0 h1 h2 h3
     generalize w.heap.size=qb at *
     refine Zcm 12 (fun w'=>w'.cell? ⟨qb,0,none⟩=some (.int .i64 oo)/\w'.cell? ⟨qb,1,none⟩=some (.iface ty u)/\w'.cell? ⟨qb,2,none⟩=some (.iface ty2 u2)) (by kernel_rfl) ⟨HB0.cell 0,HB0.cell 1,HB0.cell 2⟩ (fun hHeld=>?_)
     generalize W0.drew=w2 at *
     refine Zd 0 hHeld (h:=?_)
     refine Zd 1 hHeld (h:=?_)
     refine Zd 2 hHeld (h:=?_)
     refine Zd 3 hHeld (h:=?_)
     refine Zd 4 hHeld (h:=?_)
     refine Zd 5 hHeld (h:=?_)
     refine Zd 7 hHeld (h:=?_)
     refine Zd 8 hHeld (h:=?_)
     refine Zd 9 hHeld (h:=?_)
     refine Zbr (i:=6) (by kernel_rfl) rfl (fun K hK=>?_)
     go_simp
     refine(IHL.out g w2 _ HG0.out HX.out hwl (by omega) (by omega) (by omega) (by omega)).mono ?_
     rintro e w3 ⟨rfl,HP⟩
     have HB3:=hid (HP.kt.bat HB0.out (by decide))
     have HG3:=hid HP.gw
     have HK3:=hid (HK0.trans HP.kt)
     clear HP HG0 HK0 HB0
     generalize Zb l g=p at *
     obtain⟨hl1,hl2⟩:=HLL.out
     have hln:=hl1.n2
     have hls:=hl1.s1
     have hlr:=hl1.r1
     refine hK.out _ _ ⟨HB3.cell 0,HB3.cell 1,HB3.cell 2⟩ (fun hHeld=>?_)
     clear hK K
     try simp only[Act.put,Zset]
     refine Zbr (i:=10) (by kernel_rfl) rfl (fun K hK=>?_)
     go_simp
     refine(IHR.out p.2 w3 _ HG3.out HY.out hwr (by omega) (by omega) (by omega) (by omega)).mono ?_
     rintro e w4 ⟨rfl,HP⟩
     have HB4:=hid (HP.kt.bat HB3.out (by decide))
     have HG4:=hid HP.gw
     have HK4:=hid (HK3.trans HP.kt)
     clear HP HG3 HK3 HB3
     generalize Zb r p.2=q at *
     obtain⟨hr1,hr2⟩:=HLR.out
     have hrn:=hr1.n2
     have hrm:=hr1.n1
     have hp1:=hl2 hnl
     have hq1:=hr2 hnr
     refine hK.out _ _ ⟨HB4.cell 0,HB4.cell 1,HB4.cell 2⟩ (fun hHeld=>?_)
     clear hK K
     try simp only[Act.put,Zset]
     refine Zbr (i:=11) (by kernel_rfl) rfl (fun K hK=>?_)
     go_simp
     refine(Zsb HG4.out oo p.1 q.1 hop (by omega) hq1 (by omega)).mono ?_
     rintro e w5 ⟨rfl,HP5⟩
     have HB5:=hid (HP5.kt.bat HB4.out (by decide))
     refine hK.out _ _ ⟨HB5.cell 0,HB5.cell 1,HB5.cell 2⟩ (fun hHeld=>?_)
     clear hK K
     try simp only[Act.put,Zset]
     refine Zcq (by kernel_rfl) (by kernel_rfl) rfl (by kernel_rfl) (fun K hK=>?_)
     go_simp
     refine hK.out _ _ ?_
     clear hK K hHeld
     go_wp2
     go_ret
     rw[HQ.out]
     exact⟨rfl,hid (GP.step HK4.out HP5.out)⟩
end
end Go.Proofs.YtcdgkkfipdoeeaaGreatDoor
namespace Go.Proofs.YtcdgkkfipdoeeaaGreatDoor
open Go.RowKit LS
section
variable {w0 w w' w1 w2:World} {X:GX} {nv uv sv rv:Value} {sl:List SelC} {rl:List RowC} {g g':Gq} {kN:Nat} {f:Nq->Option Int} {ss gs:List (List UInt8)}
theorem ZfS(w:World)(b:Nat)(e:TypeId)(sz:Nat):w.ownsRow b e sz (.slice none 0 0) 0 []:=World.ownsRow_nil w b e sz
theorem GW.new(w:World)(fl:Nat)(w':World)(hw:w'=(((w.alloc (.map #[] 0)).alloc (.map #[] 0)).alloc (.map #[] 0)).alloc (.cells #[.bool (g0 fl).fold,.bool (g0 fl).share,.slice none 0 0,.slice none 0 0,.map (some w.heap.size),.slice none 0 0,.slice none 0 0,.map (some (w.heap.size+1)),.map (some (w.heap.size+2))] 176)):GW w w' ⟨w.heap.size,w.heap.size+3,w.heap.size,w.heap.size+1,w.heap.size+2⟩ (g0 fl):=by
 have hb:∀ {a c:World} (o:Obj),c=a.alloc o->Below a.heap.size a c:=fun o e=>by rw[e];exact Zbal
 obtain⟨a1,ha1⟩:∃a1,a1=w.alloc (.map #[] 0):=⟨_,rfl⟩
 obtain⟨a2,ha2⟩:∃a2,a2=a1.alloc (.map #[] 0):=⟨_,rfl⟩
 obtain⟨a3,ha3⟩:∃a3,a3=a2.alloc (.map #[] 0):=⟨_,rfl⟩
 rw[<-ha1,<-ha2,<-ha3]at hw
 have s1:a1.heap.size=w.heap.size+1:=by rw[ha1];simp
 have s2:a2.heap.size=w.heap.size+2:=by rw[ha2];simp[s1]
 have s3:a3.heap.size=w.heap.size+3:=by rw[ha3];simp[s2]
 have m1:MapK a1 232 w.heap.size 0 nodV (fun _=>none):=by rw[ha1];exact MapK.made w _ _
 have m2:MapK a2 9 (w.heap.size+1) 0 Value.string (fun _=>none):=by rw[ha2,<-s1];exact MapK.made a1 _ _
 have m3:MapK a3 9 (w.heap.size+2) 0 Value.string (fun _=>none):=by rw[ha3,<-s2];exact MapK.made a2 _ _
 have k4:=KB.below 0 (hb _ hw)
 have k3:=KB.below 0 (hb _ ha3)
 have k2:=KB.below 0 (hb _ ha2)
 refine⟨.slice none 0 0,.slice none 0 0,.slice none 0 0,.slice none 0 0,[],[],⟨⟨fun _=>none,⟨?_,ZfS _ _ _ _,ZfS _ _ _ _,ZfS _ _ _ _,ZfS _ _ _ _,trivial,trivial,((m1.kb k2).kb k3).kb k4,(m2.kb k3).kb k4,m3.kb k4,⟨by simp,by simp,by simp⟩,⟨rfl,by simp,by simp,by simp,by simp⟩,?_⟩,fun _ x=>rfl⟩,rfl,fun i hi=>absurd hi (by simp[g0]),fun j=>by simp[g0]⟩⟩
 ·rw[hw,<-s3]
  exact(show BAt _ _ _ _ from Go.Deep.blk_alloc_new a3 _)
 ·have b1:=hb _ ha1
  have b2:=b1.trans ((hb _ ha2).mono b1.size)
  have b3:=b2.trans ((hb _ ha3).mono b2.size)
  exact b3.trans ((hb _ hw).mono b3.size)
theorem Zvm (w : World) (fl : Nat) (hf : fl <= 7) : Calls Tryz.prog 74 #[.int .i64 fl] w fun e w' => e = .returned (.pointer (some ⟨w.heap.size + 3, 0, none⟩)) /\ Hid (GW w w' ⟨w.heap.size, w.heap.size + 3, w.heap.size, w.heap.size + 1, w.heap.size + 2⟩ (g0 fl)) := by
  have hmm:=@run_makeMap Tryz.prog
  have HN:=hid (fun w' hw=>GW.new w fl w' hw)
  rcases(by omega:fl=0∨fl=1∨fl=2∨fl=3∨fl=4∨fl=5∨fl=6∨fl=7)with rfl|rfl|rfl|rfl|rfl|rfl|rfl|rfl
  all_goals
    go_enter Tryz.func74,Tryz.ntmps74
    go_wp2
    go_ret
    exact⟨rfl,hid (HN.out _ rfl)⟩
theorem MapZ.below{b N:Nat}{q:Nat->Option Int}(h:MapZ w b N q)(hb:Below w.heap.size w w'):MapZ w' b N q:=h.move (hb.block _ h.lt)
theorem Co.new(h:GI w0 w X nv uv sv rv sl rl g)(hb:Below w.heap.size w w1){lb lc:Nat}(hne:0<g.nodes.length)(hsz:g.nodes.length<=400000)(ho:w1.ownsRow w.heap.size 3 1 (.slice (some ⟨lb,0,none⟩) g.nodes.length lc) g.nodes.length (g.uses.map intC))(hw:w'=((w1.alloc (.map #[] 0)).alloc (.map #[] 0)).alloc (.cells #[.pointer (some ⟨X.gb,0,none⟩),.slice (some ⟨lb,0,none⟩) g.nodes.length lc,.map (some w1.heap.size),.map (some (w1.heap.size+1)),.slice none 0 0,.slice none 0 0] 171)) :
  ∃Y:CX,Y.cb=w1.heap.size+2/\Y.gb=X.gb/\Y.nodes=g.nodes/\Y.base=X.base/\Y.gc=graC X g nv uv sv rv/\Co w' Y (.slice none 0 0) (.slice none 0 0) (c0 g)/\Below w.heap.size w w':=by
 obtain⟨f,hj,_⟩:=h.j
 obtain⟨nb,nc,hnv⟩:=ZW hj.nod hne
 subst hnv
 have hbb:∀ {a c:World} (o:Obj),c=a.alloc o->Below a.heap.size a c:=fun o e=>by rw[e];exact Zbal
 obtain⟨a1,ha1⟩:∃a1,a1=w1.alloc (.map #[] 0):=⟨_,rfl⟩
 obtain⟨a2,ha2⟩:∃a2,a2=a1.alloc (.map #[] 0):=⟨_,rfl⟩
 rw[<-ha1,<-ha2]at hw
 have s1:a1.heap.size=w1.heap.size+1:=by rw[ha1];simp
 have s2:a2.heap.size=w1.heap.size+2:=by rw[ha2];simp[s1]
 have b1:=hbb _ ha1
 have b2:=hbb _ ha2
 have b3:=hbb _ hw
 have b13:Below w1.heap.size w1 w':=(b1.trans (b2.mono b1.size)).trans (b3.mono (Nat.le_trans b1.size b2.size))
 have bw:Below w.heap.size w w':=hb.trans (b13.mono hb.size)
 have m1:MapZ a1 w1.heap.size 16 (fun _=>none):=by rw[ha1];exact MapZ.made w1 16
 have m2:MapZ a2 (w1.heap.size+1) g.nodes.length (fun _=>none):=by rw[ha2,<-s1];exact MapZ.made a1 _
 have hbs:X.base<=w.heap.size:=by have:=hj.bel.size;have:=hj.bas.1;omega
 have hw1:=hb.size
 refine⟨⟨X.base,w1.heap.size+2,X.gb,lb,w1.heap.size,w1.heap.size+1,nb,lc,nc,graC X g (.slice (some ⟨nb,0,none⟩) g.nodes.length nc) uv sv rv,g.nodes⟩,rfl,rfl,rfl,rfl,rfl,⟨?_,hj.box.below bw,rfl,Zw hj.nod bw,(Zw ho b13).mono hbs,?_,by simp[c0],⟨fun _=>none,m2.below b3⟩,ZfS _ _ _ _,ZfS _ _ _ _,by simp[Value.ownBlock],by simp,⟨by show X.base<=w1.heap.size+2;omega,by show X.base<=w1.heap.size;omega,by show X.base<=w1.heap.size+1;omega⟩,?_,by show g.nodes.length<=1000000;omega,h.nok,fun j=>?_⟩,bw⟩
 ·rw[hw,<-s2]
  exact(show BAt _ _ _ _ from Go.Deep.blk_alloc_new a2 _)
 ·exact ((m1.below b2).below b3).congr (fun k _ => by
    show(List.replicate 16 (none:Option Int)).getD k none=none
    rw[List.getD_eq_getElem?_getD,List.getElem?_replicate]
    split <;> rfl)
 ·have:=b13.size;show X.base<=_;omega
 ·have:=h.ubd j;show g.uses.getD j 0<=_;omega
theorem Zvl(h:GI w0 w X nv uv sv rv sl rl g)(hne:0<g.nodes.length)(hsz:g.nodes.length<=400000) :
  Calls Tryz.prog 76 #[.pointer (some ⟨X.gb,0,none⟩)] w fun e w'=>∃cb,e=.returned (.pointer (some ⟨cb,0,none⟩))/\Hid (∃Y:CX,Y.cb=cb/\Y.gb=X.gb/\Y.nodes=g.nodes/\Y.base=X.base/\Y.gc=graC X g nv uv sv rv/\Co w' Y (.slice none 0 0) (.slice none 0 0) (c0 g)/\Below w.heap.size w w'):=by
 obtain⟨f,hj,hf⟩:=h.j
 have HI:=hid h
 have huse:=hj.use
 rw[h.ulen]at huse
 obtain⟨ub,uc,huv⟩:=ZW huse hne
 subst huv
 obtain⟨L,hL⟩:∃L,L=g.nodes.length:=⟨_,rfl⟩
 have b3:w.cell? ⟨X.gb,3,none⟩=some (.slice (some ⟨ub,0,none⟩) L uc):=by rw[hL];exact hj.box.cell 3
 have hgl:=hj.box.lt
 have HCL := hid (Tryz.slices_Clone_int ub 0 L uc (g.uses.map Int.ofNat) w (by rw [List.length_map, h.ulen, hL]; exact Nat.le_refl _) (by omega) (fun j hjl => by
   rw[Nat.zero_add]
   rw[List.length_map]at hjl
   refine Zr huse j _ ?_
   rw[List.getElem?_map,List.getElem?_eq_getElem hjl]
   simp[intC,List.getD_eq_getElem?_getD,hjl]))
 have HTK:Hid (((g.uses.map Int.ofNat).take L).map (Value.int .i64)=g.uses.map intC):=hid (by
  rw[List.take_of_length_le (by rw[List.length_map,h.ulen,hL];exact Nat.le_refl _),List.map_map];rfl)
 have HL:=hid hL
 have hmm:=@run_makeMap Tryz.prog
 rw[<-hL]at hne hsz
 clear h hj hf huse hL
 go_enter Tryz.func76,Tryz.ntmps76
 go_wp2_with fail
 refine HCL.mono ?_
 rintro e w1 ⟨v1,rfl,ho1,_,hb1⟩
 obtain⟨lb,lc,hv1⟩:=ZW ho1 hne
 subst hv1
 have HNEW:=hid (fun w' hw=>Co.new (w':=w') HI.out hb1 (by rw[<-HL.out];exact hne) (by rw[<-HL.out];exact hsz) (by rw[<-HL.out,<-HTK.out];exact ho1) hw)
 rw[<-HL.out]at HNEW
 clear ho1 hb1 HCL b3 hgl
 go_wp2
 go_ret
 refine⟨_,rfl,hid ?_⟩
 rw[<-HL.out]
 exact HNEW.out _ rfl
end
end Go.Proofs.YtcdgkkfipdoeeaaGreatDoor

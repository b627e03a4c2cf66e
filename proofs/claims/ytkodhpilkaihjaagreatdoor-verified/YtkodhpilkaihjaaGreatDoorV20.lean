/- Parts. -/
import Derived.Test.YtkodhpilkaihjaaGreatDoorV19
import Derived.Test.YtkodhpilkaihjaaGreatDoorV13
import Derived.Test.YtkodhpilkaihjaaGreatDoorV15
import Derived.Test.YtkodhpilkaihjaaGreatDoorV16
import Derived.Test.YtkodhpilkaihjaaGreatDoorV17
import Derived.Test.YtkodhpilkaihjaaGreatDoorV00
import Derived.Shelf.Strings.BuilderK
import Derived.Test.YtkodhpilkaihjaaGreatDoorV08
import Derived.Laws.IdiomStrings
namespace Go.Proofs.YtkodhpilkaihjaaGreatDoor
open Go.RowKit LS
theorem Rep.at{w:World}{pv:Value}{n:Nat}{xs:List Value}(hown:w.ownsRow 0 92 8 pv n xs){x y:Nat}{nd:Nd}{l r:Tr}{i:Nat}(h:Rep w xs (.node x y nd l r) i) :
  ∃(g cp:Nat) (p:PV) (a c:Nat),pv=.slice (some ⟨g,0,none⟩) n cp∧g<w.heap.size∧i<n∧partIs w nd p∧p.a=a∧p.b=c∧Rep w xs l a∧Rep w xs r c∧
   w.cell? ⟨g,i*8,none⟩=some (.int .i64 p.k)∧w.cell? ⟨g,i*8+1,none⟩=some (.int .i64 p.n)∧w.cell? ⟨g,i*8+2,none⟩=some (.int .i64 p.op)∧w.cell? ⟨g,i*8+3,none⟩=some (.string p.nm)∧
   w.cell? ⟨g,i*8+4,none⟩=some (.slice p.ca p.cn p.cc)∧w.cell? ⟨g,i*8+5,none⟩=some (.slice p.ba p.bn p.bc)∧w.cell? ⟨g,i*8+6,none⟩=some (.int .i64 p.a)∧w.cell? ⟨g,i*8+7,none⟩=some (.int .i64 p.b):=by
 obtain⟨p,a,c,h1,h2,h3,h4,_,_,h7,h8⟩:=h
 have hlen:=congrArg List.length h1
 rw[cells_len,List.length_take,List.length_drop,hown.1]at hlen
 have hi:i<n:=by omega
 obtain⟨g,cp,rfl⟩:=own_some hown (by omega)
 have hc:∀j v,j<8→p.cells[j]?=some v→w.cell? ⟨g,i*8+j,none⟩=some v:=by
  intro j v hj hv
  refine own_cell hown _ _ ?_
  rw[←h1,List.getElem?_take,if_pos hj,List.getElem?_drop]at hv
  exact hv
 exact⟨g,cp,p,a,c,rfl,own_lt hown,hi,h2,h3,h4,h7,h8,hc 0 _ (by decide) rfl,hc 1 _ (by decide) rfl,hc 2 _ (by decide) rfl,hc 3 _ (by decide) rfl,hc 4 _ (by decide) rfl,hc 5 _ (by decide) rfl,hc 6 _ (by decide) rfl,hc 7 _ (by decide) rfl⟩
theorem NamesAre.below{w w':World}{base:Nat}{p:PV}{ns:List (List UInt8)}(h:NamesAre w base p ns)(hb:Below w.heap.size w w'):NamesAre w' base p ns:=by
 obtain⟨bs,h1,h2⟩:=h
 exact⟨bs,own_below h1 hb,h2⟩
theorem CondsAre.below{w w':World}{base:Nat}{p:PV}{ns:List (List UInt8×List UInt8×Bool)}(h:CondsAre w base p ns)(hb:Below w.heap.size w w'):CondsAre w' base p ns:=by
 obtain⟨bs,h1,h2⟩:=h
 exact⟨bs,own_below h1 hb,h2⟩
theorem Rep.below{w w':World}{xs:List Value}(hb:Below w.heap.size w w'):∀(t:Tr) (i:Nat),Rep w xs t i→Rep w' xs t i
 | .nil,_,_=>trivial
 | .node _ _ nd l r, i, h => by
   obtain⟨p,u,c,h1,⟨g1,g2,g3,g4,g5,g6⟩,h3,h4,h5,h6,h7,h8⟩:=h
   exact⟨p,u,c,h1,⟨g1,g2,g3,g4,g5.below hb,g6.below hb⟩,h3,h4,h5,h6,Rep.below hb l u h7,Rep.below hb r c h8⟩
theorem kindT_le(t:Tr):kindT t≤2:=by
 cases t with
 | nil=>decide
 | node x y a l r=>
  unfold kindT
  have hl:=kindT_le l
  split
  ·decide
  ·split
   ·decide
   ·split
    ·exact hl
    ·split
     ·split <;> decide
     ·split
      ·decide
      ·split <;> decide
termination_by t
structure RowAt (w:World) (b:Nat) (pv:Value) (n:Nat) (xs:List Value):Prop where
 cell:w.cell? ⟨b,0,none⟩=some pv
 own:w.ownsRow 0 92 8 pv n xs
theorem RowAt.below{w w':World}{b:Nat}{pv:Value}{n:Nat}{xs:List Value}(h:RowAt w b pv n xs)(hb:Below w.heap.size w w'):RowAt w' b pv n xs:=
 ⟨(hb.cell (p:=⟨b,0,none⟩) (World.block_lt_of_cell? _ _ h.cell)).trans h.cell,own_below h.own hb⟩
set_option maxRecDepth 100000 in
set_option maxHeartbeats 4000000 in
theorem scalar_any(b:Nat)(pv:Value)(n:Nat)(xs:List Value):∀(t:Tr) (i:Nat) (w:World),wfT t→isNil t=false→RowAt w b pv n xs→Rep w xs t i→
  Calls Tryz.prog 178 #[.pointer (some ⟨b,0,none⟩),.int .i64 i] w fun e w'=>e=.returned (.int .i64 (kindT t))∧Below w.heap.size w w':=by
 intro t
 induction t with
 | nil=>intro i w _ h;cases h
 | node x y nd l r ihl ihr=>
  intro i w hwf _ hrow hrep
  obtain⟨g,cp,p,a,c,rfl,hgl,hi,hp,ha,hc,hrl,hrr,c0,c1,c2,c3,c4,c5,c6,c7⟩:=Rep.at hrow.own hrep
  have hcell:=hrow.cell
  have HROW:Hid (RowAt w b (.slice (some ⟨g,0,none⟩) n cp) n xs):=hrow
  obtain⟨W,hW⟩:∃W,W=w.alloc (.cells #[.int .i64 p.k,.int .i64 p.n,.int .i64 p.op,.string p.nm,.slice p.ca p.cn p.cc,.slice p.ba p.bn p.bc,.int .i64 p.a,.int .i64 p.b] 92):=⟨_,rfl⟩
  have hbW:Below w.heap.size w W:=by rw[hW];exact(Below.refl _ _).alloc (Nat.le_refl _) _
  have HW:Hid (W=w.alloc (.cells #[.int .i64 p.k,.int .i64 p.n,.int .i64 p.op,.string p.nm,.slice p.ca p.cn p.cc,.slice p.ba p.bn p.bc,.int .i64 p.a,.int .i64 p.b] 92)):=hW
  have HP:Hid (PAt W w.heap.size p):=hid (by rw[hW];exact Go.Deep.blk_alloc_new _ _)
  have HRW:Hid (RowAt W b (.slice (some ⟨g,0,none⟩) n cp) n xs):=hrow.below hbW
  have HL:Hid (Rep W xs l a):=Rep.below hbW l a hrl
  have HR:Hid (Rep W xs r c):=Rep.below hbW r c hrr
  have HBW:Hid (Below w.heap.size w W):=hbW
  have hkk:p.k=nd.kind:=hp.1
  have HWF:Hid (wfT (.node x y nd l r)):=hwf
  have hk6:nd.kind≤6:=hwf.1
  have HIL:Hid (∀(i:Nat) (w:World),wfT l→isNil l=false→RowAt w b (.slice (some ⟨g,0,none⟩) n cp) n xs→Rep w xs l i→Calls Tryz.prog 178 #[.pointer (some ⟨b,0,none⟩),.int .i64 i] w fun e w'=>e=.returned (.int .i64 (kindT l))∧Below w.heap.size w w'):=ihl
  have HIR:Hid (∀(i:Nat) (w:World),wfT r→isNil r=false→RowAt w b (.slice (some ⟨g,0,none⟩) n cp) n xs→Rep w xs r i→Calls Tryz.prog 178 #[.pointer (some ⟨b,0,none⟩),.int .i64 i] w fun e w'=>e=.returned (.int .i64 (kindT r))∧Below w.heap.size w w'):=ihr
  rw[ha,hc]at HW
  rw[ha]at c6
  rw[hc]at c7
  have HA:Hid (p.a=a∧p.b=c):=⟨ha,hc⟩
  have HKK:Hid (p.k=nd.kind):=hkk
  clear ha hc hkk hp hrow hrep hW hbW hrl hrr hwf ihl ihr
  have h7:nd.kind=0∨nd.kind=1∨nd.kind=2∨nd.kind=3∨nd.kind=5∨(nd.kind=4∨nd.kind=6):=by omega
  rcases h7 with hk|hk|hk|hk|hk|hk
  ·have HK:Hid (kindT (.node x y nd l r)=1):=hid (by unfold kindT;rw[if_pos hk])
   have hk3:p.k=0:=by rw[HKK.out,hk];rfl
   rw[hk3]at c0 HW
   clear hk3
   go_enter Tryz.func178,Tryz.ntmps178
   go_wp2
   go_ret
   rw[HK.out]
   exact⟨rfl,(Below.refl _ _).alloc (Nat.le_refl _) _⟩
  ·have HK:Hid (kindT (.node x y nd l r)=2):=hid (by unfold kindT;rw[if_neg (by omega),if_pos (Or.inl hk)])
   have hk3:p.k=1:=by rw[HKK.out,hk];rfl
   rw[hk3]at c0 HW
   clear hk3
   go_enter Tryz.func178,Tryz.ntmps178
   go_wp2
   go_ret
   rw[HK.out]
   exact⟨rfl,(Below.refl _ _).alloc (Nat.le_refl _) _⟩
  ·have HK:Hid (kindT (.node x y nd l r)=2):=hid (by unfold kindT;rw[if_neg (by omega),if_pos (Or.inr hk)])
   have hk3:p.k=2:=by rw[HKK.out,hk];rfl
   rw[hk3]at c0 HW
   clear hk3
   go_enter Tryz.func178,Tryz.ntmps178
   go_wp2
   go_ret
   rw[HK.out]
   exact⟨rfl,(Below.refl _ _).alloc (Nat.le_refl _) _⟩
  ·have HK:Hid (kindT (.node x y nd l r)=kindT l):=hid (by rw[kindT];rw[if_neg (by omega),if_neg (by omega),if_pos hk])
   have hk3:p.k=3:=by rw[HKK.out,hk];rfl
   rw[hk3]at c0 HW
   clear hk3
   go_enter Tryz.func178,Tryz.ntmps178
   go_wp2_with fail
   rw[←HW.out]
   refine(HIL.out a W HWF.out.2.2.2.2.2.2.2.2.2.2.1 (HWF.out.2.2.2.2.2.2.1 (by omega)) HRW.out HL.out).mono ?_
   rintro e w1 ⟨rfl,hb1⟩
   have HB1:Hid (Below w.heap.size w w1):=HBW.out.trans (hb1.mono HBW.out.size)
   clear hb1
   go_wp2
   go_ret
   rw[HK.out]
   exact⟨rfl,HB1.out⟩
  ·have HK:Hid (kindT (.node x y nd l r)=if kindT l=2 then 2 else 0):=hid (by rw[kindT];rw[if_neg (by omega),if_neg (by omega),if_neg (by omega),if_pos hk])
   have hk3:p.k=5:=by rw[HKK.out,hk];rfl
   rw[hk3]at c0 HW
   clear hk3
   go_enter Tryz.func178,Tryz.ntmps178
   go_wp2_with fail
   rw[←HW.out]
   refine(HIL.out a W HWF.out.2.2.2.2.2.2.2.2.2.2.1 (HWF.out.2.2.2.2.2.2.1 (by omega)) HRW.out HL.out).mono ?_
   rintro e w1 ⟨rfl,hb1⟩
   have HB1:Hid (Below w.heap.size w w1):=HBW.out.trans (hb1.mono HBW.out.size)
   clear hb1
   have hle:=kindT_le l
   generalize kindT l=ka at *
   have h3:ka=0∨ka=1∨ka=2:=by omega
   clear HIL
   rcases h3 with rfl|rfl|rfl
   all_goals
    go_wp2
    go_ret
    rw[HK.out]
    exact⟨rfl,HB1.out⟩
  ·have HK:Hid (kindT (.node x y nd l r)=if kindT l=0∨kindT r=0∨(nd.kind=6∧kindT l+kindT r≠4)then 0 else if kindT l+kindT r=2 then 1 else 2):=hid (by rw[kindT];rw[if_neg (by omega),if_neg (by omega),if_neg (by omega),if_neg (by omega)])
   have HL3:Hid (isNil l=false∧isNil r=false∧wfT l∧wfT r):=⟨HWF.out.2.2.2.2.2.2.1 (by omega),HWF.out.2.2.2.2.2.2.2.1 hk,HWF.out.2.2.2.2.2.2.2.2.2.2.1,HWF.out.2.2.2.2.2.2.2.2.2.2.2⟩
   rcases hk with hk|hk
   all_goals
    first
     | have hk3:p.k=4:=by rw[HKK.out,hk];rfl
     | have hk3:p.k=6:=by rw[HKK.out,hk];rfl
    rw[hk]at HK
    rw[hk3]at c0 HW
    go_enter Tryz.func178,Tryz.ntmps178
    go_wp2_with fail
    rw[←HW.out]
    refine(HIL.out a W HL3.out.2.2.1 HL3.out.1 HRW.out HL.out).mono ?_
    rintro e w1 ⟨rfl,hb1⟩
    have HB1:Hid (Below w.heap.size w w1):=HBW.out.trans (hb1.mono HBW.out.size)
    have HP1:Hid (PAt w1 w.heap.size _):=PAt.kept HP.out (hb1.block _ (PAt.lt HP.out))
    have HR1:Hid (Rep w1 xs r c):=Rep.below hb1 r c HR.out
    have HW1:Hid (RowAt w1 b (.slice (some ⟨g,0,none⟩) n cp) n xs):=HRW.out.below hb1
    have hz1:=HB1.out.size
    obtain⟨k0,k1,k2,k3,k4,k5,k6,k7⟩:=PAt.all HP1.out
    rw[hk3]at k0
    rw[HA.out.1]at k6
    rw[HA.out.2]at k7
    clear hb1
    go_wp2_with fail
    clear k0 k1 k2 k3 k4 k5 k6 k7
    refine(HIR.out c w1 HL3.out.2.2.2 HL3.out.2.1 HW1.out HR1.out).mono ?_
    rintro e w2 ⟨rfl,hb2⟩
    have HB2:Hid (Below w.heap.size w w2):=HB1.out.trans (hb2.mono hz1)
    have HP2:Hid (PAt w2 w.heap.size _):=PAt.kept HP1.out (hb2.block _ (PAt.lt HP1.out))
    obtain⟨k0,k1,k2,k3,k4,k5,k6,k7⟩:=PAt.all HP2.out
    rw[hk3]at k0
    clear hb2
    have hle:=kindT_le l
    have hre:=kindT_le r
    generalize kindT l=ka at *
    generalize kindT r=kb at *
    have h3:ka=0∨ka=1∨ka=2:=by omega
    have h4:kb=0∨kb=1∨kb=2:=by omega
    clear HIL HIR hle hre
    rcases h3 with rfl|rfl|rfl <;> rcases h4 with rfl|rfl|rfl
    all_goals
     go_wp2
     go_ret
     rw[HK.out]
     exact⟨rfl,HB2.out⟩
def ReadIs(w:World)(b:Nat)(t:Tr):Prop:=∃(pv:Value) (n:Nat) (xs:List Value),RowAt w b pv (n+1) xs∧n+1≤301∧Rep w xs t n∧wfT t∧isNil t=false∧wT t≤100000∧n+1=cntT t
theorem lexAll_tw(l:List UInt8)(hl:l.length≤300):∀(n i:Nat),tw (lexAll l n i)≤332*(lexAll l n i).length
 | 0,_=>Nat.le_refl _
 | n + 1, i => by
   have h1:=lexAt_txt l i
   have h2:=lexAll_tw l hl n (lexAt l i).2
   unfold lexAll
   split
   · simp[tw];omega
   · simp[tw];omega
theorem first_tok{w:World}{b:Nat}{q:QV}(h:QAt w b q)(hs:q.s.size≤6000)(h0:q.at_=0)(he:q.e=0) :
  Calls Tryz.prog 175 #[.pointer (some ⟨b,0,none⟩)] w fun r w'=>r=.returned (.tuple #[])∧St w' b q.pv q.s q.deep (.ok ((),lexAll (bl q.s) ((bl q.s).length+1) 0))∧w.grownBy w' (some b):=by
 refine(qnext_any w b q h hs (by omega)).mono ?_
 rintro r w' ⟨rfl,⟨tx,htx,hq⟩,hg⟩
 rw[h0]at hq htx
 refine⟨rfl,⟨⟨_,hq,rfl,rfl,rfl,he,?_,?_⟩,trivial⟩,hg⟩
 ·have:=(lexAt_gt (bl q.s) 0 (Nat.zero_le _)).2;rw[bl_length]at this;exact this
 ·have e:tokOf { q with at_:=(lexAt (bl q.s) 0).2,k:=(lexAt (bl q.s) 0).1.kind,tx:=tx,ta:=(lexAt (bl q.s) 0).1.at_ }=(lexAt (bl q.s) 0).1:=by
   show(⟨_,bl tx,_⟩:Tok)=_;rw[htx]
  rw[e];exact Toks.start _
set_option maxRecDepth 100000 in
set_option maxHeartbeats 4000000 in
theorem read_any(s:ByteArray)(w:World)(hlim:s.size≤9223372036854775807) :
  Calls Tryz.prog 104 #[.string s] w fun e w' => (∃ (v : Value) (c p : Nat), e = .returned (.tuple #[v, .int .i64 c, .int .i64 p]) ∧
    Hid ((∀x,readQ (bl s)=.error x→c=x.1∧p=x.2∧c≠0∧v=.pointer none)∧(∀t,readQ (bl s)=.ok t→c=0∧p=0∧∃b,v=.pointer (some ⟨b,0,none⟩)∧w.heap.size≤b∧ReadIs w' b t)))∧Below w.heap.size w w':=by
 by_cases hl:300<s.size
 ·have HR:Hid (readQ (bl s)=.error (1,0)):=hid (by unfold readQ;rw[bl_length,if_pos hl])
  have hd:(300:Int)<s.size:=by omega
  go_enter Tryz.func104,Tryz.ntmps104
  go_wp2
  go_ret3
  refine⟨⟨_,1,0,rfl,⟨fun x hx=>?_,fun t ht=>?_⟩⟩,Below.refl _ _⟩
  ·rw[HR.out]at hx;injection hx with hx;subst hx;exact⟨rfl,rfl,by decide,rfl⟩
  ·rw[HR.out]at ht;cases ht
 ·have hl3:s.size≤300:=by omega
  have hd:¬((300:Int)<s.size):=by omega
  obtain⟨ts,hts⟩:∃ts,ts=lexAll (bl s) ((bl s).length+1) 0:=⟨_,rfl⟩
  have hlen:ts.length≤301:=by
   have:=lexAll_len (bl s) ((bl s).length+1) 0 (Nat.zero_le _)
   rw[←hts,bl_length]at this
   omega
  have htw:tw ts≤100000:=by
   have:=lexAll_tw (bl s) (by rw[bl_length];exact hl3) ((bl s).length+1) 0
   rw[←hts]at this
   omega
  have HRQ:Hid (readQ (bl s)=match parse (10*ts.length+5) false 0 .nil ts 0 with
   | .error e=>.error e
   | .ok (t,r)=>if (LS.hd r).kind=0 then (if kindT t=0 then .error (4,0)else .ok t)else .error (2,(LS.hd r).at_)):=hid (by
   unfold readQ;rw[bl_length,if_neg hl,←bl_length,←hts]
   cases parse (10*ts.length+5) false 0 .nil ts 0 with
   | error e=>rfl
   | ok x=>rfl)
  have HTS:Hid (ts=lexAll (bl s) ((bl s).length+1) 0):=hts
  clear hts
  obtain⟨R,hR⟩:∃R,R=parse (10*ts.length+5) false 0 .nil ts 0:=⟨_,rfl⟩
  have HPR:Hid (R=parse (10*ts.length+5) false 0 .nil ts 0):=hR
  rw[←hR]at HRQ
  clear hR
  have HQ0:Hid (∀W:World,QAt (W.alloc (.cells #[.slice none 0 0,.string s,.int .i64 0,.int .i64 0,.string ⟨#[]⟩,.int .i64 0,.int .i64 0,.int .i64 0,.int .i64 0] 239)) W.heap.size ⟨.slice none 0 0,s,0,0,⟨#[]⟩,0,0,0,0⟩):=fun W=>Go.Deep.blk_alloc_new _ _
  go_enter Tryz.func104,Tryz.ntmps104
  go_wp2_with fail
  refine(first_tok (HQ0.out w) (by show s.size≤6000;omega) rfl rfl).mono ?_
  rintro e w1 ⟨rfl,hst,hg⟩
  have HS1:Hid (St w1 w.heap.size (.slice none 0 0) s 0 (.ok ((),ts))):=hid (by rw[HTS.out];exact hst)
  have HB1:Hid (Below w.heap.size w w1):=⟨hg.os,hg.tape,hg.output,by have:=hg.size;rw[Go.Deep.nblk_alloc]at this;omega,fun k hk=>(hg.block k (by rw[Go.Deep.nblk_alloc];omega) (by simp;omega)).trans (Go.Deep.blk_alloc_lt _ _ _ hk)⟩
  clear hst hg HTS
  go_wp2_with fail
  refine(query_any (by omega) ts.length w1 w.heap.size (.slice none 0 0) 0 _ 0 [] ts.length HS1.out (World.ownsRow_nil _ _ _ _) (by omega) (show 0+ts.length≤ts.length by omega) (fun t e=>by injection e with e;injection e with _ e;subst e;exact Nat.le_refl _) (by omega)).mono ?_
  rintro e w2 ⟨i,rfl,hp⟩
  rw[show(bnd (.ok ((),ts):Out Unit) fun _ ts'=>parse (10*ts.length+5) false 0 .nil ts' 0)=R from HPR.out.symm]at hp
  obtain⟨n2,pv2,ys,s2,o2,k2,b2,r2⟩:=hp.out
  rw[List.nil_append]at o2 r2
  have HS2:Hid (St w2 w.heap.size pv2 s 0 (unitP R)):=s2
  have HO2:Hid (w2.ownsRow 0 92 8 pv2 n2 ys):=o2
  have HB2:Hid (Below w.heap.size w w2):=HB1.out.trans ⟨k2.os,k2.tape,k2.output,k2.size,fun k hk=>k2.block k (by have:=HB1.out.size;omega) (by omega) (by simp[Value.ownBlock])⟩
  have HN2:Hid (n2≤301):=hid (by have:=b2.le;omega)
  have HR2:Hid (∀t z,R=.ok (t,z)→∃k:Nat,i=k∧Rep w2 ys t k∧k+1=n2∧ys.length=8*cntT t):=r2
  have hz2:w.heap.size<w2.heap.size:=HS2.out.lt
  clear hp s2 o2 k2 b2 r2 HB1 HS1
  obtain⟨q,hq,hqp,_,hqe,hqo⟩:=St.view HS2.out
  obtain⟨c0,c1,c2,c3,c4,c5,c6,c7,c8⟩:=hq.all
  cases hRR:R with
  | error x=>
   have HRE:Hid (readQ (bl s)=.error x):=hid (by rw[HRQ.out,hRR])
   obtain⟨e1,e2,e3⟩:=hqe x (by rw[hRR];rfl)
   have he0:((q.e:Int) == 0)=false:=by rw[beq_eq_false_iff_ne];omega
   have he1:((q.e:Int) != 0)=true:=by rw[bne_iff_ne];omega
   have HX:Hid (q.e=x.1∧q.e≠0∧q.pl=x.2):=⟨e1,e2,e3⟩
   clear e1 e2 e3 hqe hqo hq hRR HRQ HR2
   go_wp2
   go_region
   all_goals
    go_wp2
    go_ret3
    refine⟨⟨_,q.e,q.pl,rfl,⟨fun y hy=>?_,fun t ht=>?_⟩⟩,below_drewN' HB2.out 1⟩
    ·rw[HRE.out]at hy;injection hy with hy;subst hy;exact⟨HX.out.1,HX.out.2.2,HX.out.2.1,rfl⟩
    ·rw[HRE.out]at ht;cases ht
  | ok x=>
   obtain⟨t,r⟩:=x
   rw[hRR]at HS2 HR2 HRQ
   obtain⟨k,hik,hrep,hkn,hcn⟩:=HR2.out t r rfl
   have HCN:Hid (k+1=cntT t):=hid (by have:=HO2.out.1;omega)
   clear hcn
   obtain⟨e1,e2⟩:=hqo ((),r) (by rw[hRR];rfl)
   obtain⟨f1,f2,f3⟩:=parse_wf _ false _ _ _ _ _ (fun h=>nomatch h) (HPR.out.symm.trans hRR)
   have he0:((q.e:Int) == 0)=true:=by rw[e1];rfl
   have HW:Hid (wfT t∧isNil t=false∧wT t≤100000):=⟨f1,f2,by simp at f3;omega⟩
   have hqk:q.k=(LS.hd r).kind:=(tok_k e2).1
   have HREP:Hid (Rep w2 ys t k):=hrep
   have HRW:Hid (RowAt w2 w.heap.size pv2 (k+1) ys):=⟨by rw[c0,hqp],by rw[hkn];exact HO2.out⟩
   have hk3:k+1≤301:=by rw[hkn];exact HN2.out
   clear hqe hqo hq hrep f1 f2 f3 e1 e2 hRR HR2 hqp HN2 HO2
   subst hik
   by_cases hk0:(LS.hd r).kind=0
   ·have hkz:((q.k:Int) != 0)=false:=by rw[hqk,hk0];rfl
    have he1:((q.e:Int) != 0)=false:=by
     have:(q.e:Int)=0:=by simpa using he0
     rw[this];rfl
    have HRE:Hid (readQ (bl s)=if kindT t=0 then .error (4,0)else .ok t):=hid (by rw[HRQ.out];show(if (LS.hd r).kind=0 then _ else _)=_;rw[if_pos hk0])
    clear hk0 hqk
    go_wp2_with fail
    refine(scalar_any w.heap.size pv2 (k+1) ys t k w2 HW.out.1 HW.out.2.1 HRW.out HREP.out).mono ?_
    rintro e w3 ⟨rfl,hb3⟩
    have HRW3:Hid (RowAt w3 w.heap.size pv2 (k+1) ys):=HRW.out.below hb3
    have HREP3:Hid (Rep w3 ys t k):=Rep.below hb3 t k HREP.out
    have HB3:Hid (Below w.heap.size w w3):=HB2.out.trans (hb3.mono (by omega))
    clear hb3
    have hle:=kindT_le t
    by_cases hkt:kindT t=0
    ·have hkb:((kindT t:Int) == 0)=true:=by rw[hkt];rfl
     have HRF:Hid (readQ (bl s)=.error (4,0)):=hid (by rw[HRE.out,if_pos hkt])
     generalize kindT t=kt at hkb hle ⊢
     clear hkt
     go_wp2
     go_ret3
     refine⟨⟨_,4,0,rfl,⟨fun y hy=>?_,fun t' ht=>?_⟩⟩,HB3.out⟩
     ·rw[HRF.out]at hy;injection hy with hy;subst hy;exact⟨rfl,rfl,by decide,rfl⟩
     ·rw[HRF.out]at ht;cases ht
    ·have hkb:((kindT t:Int) == 0)=false:=by rw[beq_eq_false_iff_ne];omega
     have HRF:Hid (readQ (bl s)=.ok t):=hid (by rw[HRE.out,if_neg hkt])
     generalize kindT t=kt at hkb hle ⊢
     clear hkt
     go_wp2
     go_ret3
     refine⟨⟨_,0,0,rfl,⟨fun y hy=>?_,fun t' ht=>?_⟩⟩,HB3.out⟩
     ·rw[HRF.out]at hy;cases hy
     ·rw[HRF.out]at ht;injection ht with ht;subst ht
      exact⟨rfl,rfl,w.heap.size,rfl,Nat.le_refl _,pv2,k,ys,HRW3.out,hk3,HREP3.out,HW.out.1,HW.out.2.1,HW.out.2.2,HCN.out⟩
   ·have hkz:((q.k:Int) != 0)=true:=by rw[hqk,bne_iff_ne];omega
    have HRE:Hid (readQ (bl s)=.error (2,(LS.hd r).at_)):=hid (by rw[HRQ.out];show(if (LS.hd r).kind=0 then _ else _)=_;rw[if_neg hk0])
    clear hk0 hqk
    go_wp2_with fail
    refine(St.fail HS2.out 2 _ rfl (by decide)).mono ?_
    rintro e w3 ⟨rfl,hst,hg⟩
    obtain⟨q3,hq3,_,_,hqe3,_⟩:=St.view hst
    obtain⟨g1,g2,g3⟩:=hqe3 (2,(LS.hd r).at_) rfl
    obtain⟨d0,d1,d2,d3,d4,d5,d6,d7,d8⟩:=hq3.all
    have he1:((q3.e:Int) != 0)=true:=by rw[bne_iff_ne];omega
    have HX:Hid (q3.e=2∧q3.pl=(LS.hd r).at_):=⟨g1,g3⟩
    have HB3:Hid (Below w.heap.size w w3):=HB2.out.trans ⟨hg.os,hg.tape,hg.output,hg.size,fun j hj=>hg.block j (by omega) (by simp;omega)⟩
    clear hst hg hq3 hqe3 g1 g2 g3 c0 c1 c2 c3 c4 c5 c6 c7 c8
    go_wp2
    go_region
    all_goals
     go_wp2
     go_ret3
     refine⟨⟨_,q3.e,q3.pl,rfl,⟨fun y hy=>?_,fun t ht=>?_⟩⟩,below_drewN' HB3.out 1⟩
     ·rw[HRE.out]at hy;injection hy with hy;subst hy;exact⟨HX.out.1,HX.out.2,by rw[HX.out.1];decide,rfl⟩
     ·rw[HRE.out]at ht;cases ht
theorem wf_plain{k j:Nat}{x:List UInt8}(h2:k≠2)(h4:k≠4)(h5:k≤5):TokWf ⟨k,x,j⟩∧(⟨k,x,j⟩:Tok).kind≤5:=⟨⟨fun h=>absurd h h2,fun h=>absurd h h4⟩,h5⟩
theorem wf_two{j:Nat}{x:List UInt8}(h:x.all letter=true):TokWf ⟨2,x,j⟩∧(⟨2,x,j⟩:Tok).kind≤5:=⟨⟨fun _=>h,fun h=>absurd (show(2:Nat)=4 from h) (by decide)⟩,by show(2:Nat)≤5;decide⟩
theorem wf_four{j:Nat}{x:List UInt8}(h:x.all (fun c=>!letter c)=true):TokWf ⟨4,x,j⟩∧(⟨4,x,j⟩:Tok).kind≤5:=⟨⟨fun h=>absurd (show(4:Nat)=2 from h) (by decide),fun _=>h⟩,by show(4:Nat)≤5;decide⟩
theorem lexC_wf(l:List UInt8)(j:Nat)(c:UInt8)(r:List UInt8):TokWf (lexC l j c r).1∧(lexC l j c r).1.kind≤5:=by
 unfold lexC
 split
 ·split
  ·exact wf_plain (by decide) (by decide) (by decide)
  ·exact wf_plain (by decide) (by decide) (by decide)
 ·rename_i hd
  split
  ·split
   ·exact wf_plain (by decide) (by decide) (by decide)
   ·exact wf_two (run_all letter _)
  ·rename_i hl
   split
   ·split
    ·exact wf_plain (by decide) (by decide) (by decide)
    ·split
     ·exact wf_plain (by decide) (by decide) (by decide)
     ·exact wf_plain (by decide) (by decide) (by decide)
   ·split
    ·exact wf_four (by decide)
    ·split
     ·refine wf_four ?_
      show([c].all fun c=>!letter c)=true
      have:letter c=false:=Bool.eq_false_iff.2 hl
      simp[this]
     ·exact wf_plain (by decide) (by decide) (by decide)
theorem lexAt_wf(l:List UInt8)(i:Nat):TokWf (lexAt l i).1∧(lexAt l i).1.kind≤5:=by
 unfold lexAt lexJ
 split
 ·exact wf_plain (by decide) (by decide) (by decide)
 ·exact lexC_wf _ _ _ _
theorem toksWf_lex(l:List UInt8):∀(n i:Nat),i≤l.length→l.length+1≤n+i→ToksWf (lexAll l n i)
 | 0,i,h1,h2=>absurd h2 (by omega)
 | n + 1, i, h1, h2 => by
   show ToksWf (if (lexAt l i).1.kind=0∨(lexAt l i).1.kind=5 then [(lexAt l i).1] else (lexAt l i).1::lexAll l n (lexAt l i).2)
   by_cases h:(lexAt l i).1.kind=0∨(lexAt l i).1.kind=5
   · rw[if_pos h];exact h
   · rw[if_neg h]
     have hg:=lexAt_gt l i h1
     have hw:=lexAt_wf l i
     have ih:=toksWf_lex l n (lexAt l i).2 hg.2 (by have:=hg.1 (fun e=>h (Or.inl e));omega)
     cases hr:lexAll l n (lexAt l i).2 with
     | nil=>rw[hr]at ih;exact ih.elim
     | cons u m=>
       rw[hr]at ih
       exact⟨by have:=hw.2;omega,hw.1,ih⟩
theorem below_of_grown{w w':World}{b B:Nat}(h:w.grownBy w' (some b))(hb:B≤b)(hB:B≤w.heap.size):Below B w w':=
 ⟨h.os,h.tape,h.output,h.size,fun j hj=>h.block j (by omega) (fun e=>by injection e with e;omega)⟩
def RdIs(w:World)(lg sy dp tp:Addr)(r:Except (Nat×Nat) Tr)(pv v:Value):Prop:=match r with
 | .ok t=>v=.nilIface∧PartV w t pv
 | .error x=>(x=(1,0)∧v=.iface 491 (.pointer (some lg)))∨(x=(4,0)∧v=.iface 491 (.pointer (some tp)))∨(x.1=2∧ErrAt w v x.2 sy)∨(x.1=3∧ErrAt w v x.2 dp)
theorem RdIs.error{w:World}{lg sy dp tp:Addr}{r:Except (Nat×Nat) Tr}{pv v:Value}{x:Nat×Nat}(hr:r=.error x)(h:(x=(1,0)∧v=.iface 491 (.pointer (some lg)))∨(x=(4,0)∧v=.iface 491 (.pointer (some tp)))∨(x.1=2∧ErrAt w v x.2 sy)∨(x.1=3∧ErrAt w v x.2 dp)):RdIs w lg sy dp tp r pv v:=by subst hr;exact h
theorem RdIs.fine{w:World}{lg sy dp tp:Addr}{r:Except (Nat×Nat) Tr}{pv v:Value}{t:Tr}(hr:r=.ok t)(h:v=.nilIface∧PartV w t pv):RdIs w lg sy dp tp r pv v:=by subst hr;exact h
structure Sents (w:World) (lg sy dp tp:Addr):Prop where
 lg:w.cell? ⟨0,0,none⟩=some (.iface 491 (.pointer (some lg)))
 sy:w.cell? ⟨1,0,none⟩=some (.iface 491 (.pointer (some sy)))
 dp:w.cell? ⟨2,0,none⟩=some (.iface 491 (.pointer (some dp)))
 tp:w.cell? ⟨3,0,none⟩=some (.iface 491 (.pointer (some tp)))
theorem Sents.below{w w':World}{lg sy dp tp:Addr}(h:Sents w lg sy dp tp)(hb:Below w.heap.size w w'):Sents w' lg sy dp tp:=
 ⟨(hb.cell (p:=⟨_,0,none⟩) (World.block_lt_of_cell? _ _ h.lg)).trans h.lg,(hb.cell (p:=⟨_,0,none⟩) (World.block_lt_of_cell? _ _ h.sy)).trans h.sy,(hb.cell (p:=⟨_,0,none⟩) (World.block_lt_of_cell? _ _ h.dp)).trans h.dp,(hb.cell (p:=⟨_,0,none⟩) (World.block_lt_of_cell? _ _ h.tp)).trans h.tp⟩
set_option maxRecDepth 100000 in
set_option maxHeartbeats 8000000 in
theorem sRead_any(s:ByteArray)(w:World)(hlim:s.size≤9223372036854775807){lg sy dp tp:Addr}(hS:Sents w lg sy dp tp) :
  Calls Tryz.prog 36 #[.string s] w fun e w'=>∃pv v:Value,e=.returned (.tuple #[pv,v])∧Hid (RdIs w' lg sy dp tp (readQ (bl s)) pv v)∧Below w.heap.size w w':=by
 by_cases hl:300<s.size
 ·have HR:Hid (readQ (bl s)=.error (1,0)):=hid (by unfold readQ;rw[bl_length,if_pos hl])
  have hd:(300:Int)<s.size:=by omega
  have hlg:=hS.lg
  clear hS
  go_enter Tryz.func36,Tryz.ntmps36
  go_wp2
  go_region
  all_goals
   go_wp2
   go_ret2
   exact⟨_,_,rfl,RdIs.error HR.out (Or.inl ⟨rfl,rfl⟩),(by repeat first|exact Below.refl _ _|assumption|refine Below.alloc ?_ ?_ _|refine Below.setCell ?_ ?_ _|refine below_drewN' ?_ _|refine Below.drew ?_|omega|(simp;omega)|simp)⟩
 ·have hl3:s.size≤300:=by omega
  have hd:¬((300:Int)<s.size):=by omega
  obtain⟨ts,hts⟩:∃ts,ts=lexAll (bl s) ((bl s).length+1) 0:=⟨_,rfl⟩
  have HLN:Hid (ts.length≤301):=hid (by
   have:=lexAll_len (bl s) ((bl s).length+1) 0 (Nat.zero_le _)
   rw[←hts,bl_length]at this
   omega)
  have HWF:Hid (ToksWf ts):=hid (by rw[hts];exact toksWf_lex _ _ _ (Nat.zero_le _) (by omega))
  have HRQ:Hid (readQ (bl s)=match parse (10*ts.length+5) false 0 .nil ts 0 with
   | .error e=>.error e
   | .ok (t,r)=>if (LS.hd r).kind=0 then (if kindT t=0 then .error (4,0)else .ok t)else .error (2,(LS.hd r).at_)):=hid (by
   unfold readQ;rw[bl_length,if_neg hl,←bl_length,←hts]
   cases parse (10*ts.length+5) false 0 .nil ts 0 with
   | error e=>rfl
   | ok x=>rfl)
  have HS:Hid (Sents w lg sy dp tp):=hS
  have HTS:Hid (ts=lexAll (bl s) ((bl s).length+1) 0):=hts
  clear hts hS hl
  go_enter Tryz.func36,Tryz.ntmps36
  go_wp2_with fail
  refine(lex_prog s w hl3).mono ?_
  rintro e w1 ⟨v,ps,rfl,hown,hall,hb1⟩
  rw[←HTS.out]at hall
  have HPL:Hid (ps.length=ts.length):=hall.out.length
  have hpp:0<ps.length:=by rw[HPL.out];exact HWF.out.head.2.1
  obtain⟨g,cp,rfl⟩:=own_some hown hpp
  have HO1:Hid (w1.ownsRow 0 167 4 (.slice (some ⟨g,0,none⟩) ps.length cp) ps.length (flatT ps)):=hown
  have HB1:Hid (Below w.heap.size w w1):=hb1
  have HS1:Hid (Sents w1 lg sy dp tp):=HS.out.below hb1
  clear hown hb1
  go_wp2_with fail
  refine calls_gen fun W hW=>?_
  have hbW:Below w1.heap.size w1 W:=by rw[hW];exact(Below.refl _ _).alloc (Nat.le_refl _) _
  have HBW:Hid (Below w.heap.size w W):=HB1.out.trans (hbW.mono HB1.out.size)
  have HSW:Hid (Sents W lg sy dp tp):=HS1.out.below hbW
  have HK:Hid (RK W ⟨w1.heap.size,g,cp,ps,sy,dp⟩ 0 ts):=hid ⟨⟨by rw[hW];exact Go.Deep.blk_alloc_new _ _,own_below HO1.out hbW,hpp⟩,hall.out,HWF.out,by show ps.length≤302;rw[HPL.out];have:=HLN.out;omega,HSW.out.sy,HSW.out.dp⟩
  have hzW:w1.heap.size<W.heap.size:=by rw[hW];simp
  have hz1:w.heap.size≤w1.heap.size:=HB1.out.size
  clear hW hbW HO1 hall HS1 HB1
  refine((all_t (10*ts.length+5)).1 0 (by decide) (10*ts.length+5) (Nat.le_refl _) W ⟨w1.heap.size,g,cp,ps,sy,dp⟩ 0 ts 0 HK.out (by decide) (by show 10*ts.length+5≤10*ts.length+5+0;omega)).mono ?_
  rintro e w2 ⟨pv,v,rfl,hif,hres,hg2⟩
  have hb2:Below w.heap.size W w2:=below_of_grown hg2 hz1 (by omega)
  have HB2:Hid (Below w.heap.size w w2):=HBW.out.trans hb2
  have HS2:Hid (Sents w2 lg sy dp tp):=HS.out.below HB2.out
  clear hg2 hb2
  cases hpr:parse (10*ts.length+5) false 0 .nil ts 0 with
  | error er=>
   have HE:=hid (hres.out.err hpr)
   obtain⟨fa,rfl⟩:=HE.out.shape
   have HPE:Hid (readQ (bl s)=.error er):=hid (by rw[HRQ.out,hpr])
   clear hres hpr
   go_wp2
   go_ret2
   exact⟨_,_,rfl,RdIs.error HPE.out (Or.inr (Or.inr HE.out)),HB2.out⟩
  | ok pr=>
   obtain⟨t,r⟩:=pr
   obtain⟨rfl,⟨k2,hk2⟩,hv2⟩:=hres.out.good hpr
   have HK2:Hid (RK w2 ⟨w1.heap.size,g,cp,ps,sy,dp⟩ k2 r):=hk2
   have HV2:Hid (PartV w2 t pv):=hv2
   have HRQ2:Hid (readQ (bl s)=if (LS.hd r).kind=0 then (if kindT t=0 then .error (4,0)else .ok t)else .error (2,(LS.hd r).at_)):=hid (by rw[HRQ.out,hpr])
   obtain⟨ty,u,hsh⟩:=PartV.shape hv2
   subst hsh
   clear hres hpr hk2 hv2 hif HRQ
   go_wp2_with fail
   refine(token_t HK2.out).mono ?_
   rintro e w3 ⟨⟨kd,at_,tx,tv⟩,rfl,ht,hb3⟩
   have HB3:Hid (Below w.heap.size w w3):=HB2.out.trans (hb3.mono HB2.out.size)
   have HK3:=hid (HK2.out.below hb3)
   have HV3:Hid (PartV w3 t (.iface ty u)):=HV2.out.below hb3
   clear hb3 HB2 HK2 HV2
   have hpk:=pk_mark HK3.out.wf.head.2.2
   by_cases hk0:(LS.hd r).kind=0
   ·have hkd:kd=4:=by have:=ht.out.1;simp only at this;rw[this,hpk.2.2.2.2.2 hk0]
    subst hkd
    have HRQ3:Hid (readQ (bl s)=if kindT t=0 then .error (4,0)else .ok t):=hid (by rw[HRQ2.out,if_pos hk0])
    have hf:∀W:World,(Instr.field 167 (.agg #[.int .i64 4,.int .i64 at_,.string tx,.int .i64 tv]) 0).run Tryz.prog W=.ok (.int .i64 4) W:=fun _=>rfl
    clear hk0 hpk ht
    go_wp2_with fail
    refine(kind_any t w3 _ tp HV3.out (HS.out.below HB3.out).tp).mono ?_
    rintro e w4 ⟨kd,err,rfl,hkr,hb4⟩
    have HB4:Hid (Below w.heap.size w w4):=HB3.out.trans (hb4.mono HB3.out.size)
    have HV4:Hid (PartV w4 t (.iface ty u)):=HV3.out.below hb4
    clear hb4
    rcases hkr.out with ⟨h0,rfl⟩|⟨h0,rfl,rfl⟩|⟨h0,rfl,rfl⟩
    ·have HRX:Hid (readQ (bl s)=.error (4,0)):=hid (by rw[HRQ3.out,if_pos h0])
     clear hkr h0
     go_wp2
     go_ret2
     exact⟨_,_,rfl,RdIs.error HRX.out (Or.inr (Or.inl ⟨rfl,rfl⟩)),HB4.out⟩
    all_goals
     have HRX:Hid (readQ (bl s)=.ok t):=hid (by rw[HRQ3.out,if_neg (by omega)])
     clear hkr h0
     go_wp2
     go_ret2
     exact⟨_,_,rfl,RdIs.fine HRX.out ⟨rfl,HV4.out⟩,HB4.out⟩
   ·have hkd:((kd:Int) != 4)=true:=by
     rw[bne_iff_ne];intro e
     exact hk0 (hpk.2.2.2.2.1 (by have:=ht.out.1;simp only at this;omega))
    have HRX:Hid (readQ (bl s)=.error (2,(LS.hd r).at_)):=hid (by rw[HRQ2.out,if_neg hk0])
    have hf:∀W:World,(Instr.field 167 (.agg #[.int .i64 kd,.int .i64 at_,.string tx,.int .i64 tv]) 0).run Tryz.prog W=.ok (.int .i64 kd) W:=fun _=>rfl
    clear hk0 hpk
    go_wp2_with fail
    refine(cannotStand_t HK3.out).mono ?_
    rintro e wE ⟨v,rfl,HE,hbE⟩
    obtain⟨fa,rfl⟩:=HE.out.shape
    have HBE:Hid (Below w.heap.size w wE):=HB3.out.trans (hbE.mono HB3.out.size)
    clear hbE
    go_wp2
    go_ret2
    exact⟨_,_,rfl,RdIs.error HRX.out (Or.inr (Or.inr HE.out)),HBE.out⟩
theorem bld_size:(Tryz.prog.info? 175).map (·.size)=some 2:=by kernel_rfl
theorem bld_lies:liesAt Tryz.prog Tryz.prog.depth 175 (2 / Tryz.prog.cellsOf 175) 0 175 1=true:=by kernel_rfl
theorem bld_byte:(Tryz.prog.info? 5).map (fun i=>(i.zero,i.size,i.bytes))=some (some (.int .u8 0),1,1):=by kernel_rfl
set_option maxRecDepth 100000 in
set_option maxHeartbeats 1000000 in
theorem bld_copy_used(b:Nat)(w:World)(h0:w.cell? ⟨b,0,none⟩=some (.pointer (some ⟨b,0,none⟩))) :
  Calls Tryz.prog 193 #[.pointer (some ⟨b,0,none⟩)] w fun e w'=>e=.returned (.tuple #[])∧w'=w:=by
 obtain⟨j,hj,_⟩:=Option.map_eq_some_iff.1 bld_size
 go_enter Tryz.func193,Tryz.ntmps193
 go_wp2
 rw[Lib.run_neq_ptr_same w _ Tryz.underlying173 hj]
 go_wp2
 go_end0
 exact⟨rfl,rfl⟩
set_option maxRecDepth 100000 in
set_option maxHeartbeats 1000000 in
theorem bld_copy_fresh(b:Nat)(w:World)(h0:w.cell? ⟨b,0,none⟩=some (.pointer none))(hsh:w.shape? b=some (175,2))(hfz:w.frozen? ⟨b,0,none⟩=false) :
  Calls Tryz.prog 193 #[.pointer (some ⟨b,0,none⟩)] w fun e w'=>e=.returned (.tuple #[])∧w'=w.setCell ⟨b,0,none⟩ (.pointer (some ⟨b,0,none⟩)):=by
 obtain⟨j,hj,hjs⟩:=Option.map_eq_some_iff.1 bld_size
 go_enter Tryz.func193,Tryz.ntmps193
 go_wp2
 rw[Lib.run_to_unsafe w ⟨b,0,none⟩ Tryz.underlying173 Tryz.underlying193 hj (by rw[hjs];decide) hsh (Nat.zero_lt_succ 1)]
 simp only[Result.andThen]
 rw[Oper.upon_value]
 go_wp2
 rw[run_callFunc_extern Tryz.func241 (by kernel_rfl) (by kernel_rfl) (by kernel_rfl) (e:=Extern.AbiNoEscape.same) (by kernel_rfl)]
 rw[Lib.run_noEscape]
 simp only[Result.andThen]
 rw[Oper.upon_value]
 go_wp2
 rw[Lib.run_from_unsafe w ⟨b,0,none⟩ Tryz.underlying193 Tryz.underlying173 hj hsh bld_lies]
 simp only[Result.andThen]
 rw[Oper.upon_value]
 go_wp2
 go_end0
 exact⟨rfl,rfl⟩
theorem bld_copy(B b:Nat)(bs:List Value)(w:World)(h:Lib.IsBuilderF 175 5 B b bs w) :
  Calls Tryz.prog 193 #[.pointer (some ⟨b,0,none⟩)] w fun e w'=>e=.returned (.tuple #[])∧(Lib.BuilderAtF 175 5 B b (.pointer (some ⟨b,0,none⟩)) bs w'∧Below B w w'∧Lib.OthersKept 5 (some b) w w'):=by
 rcases h with h|h
 ·refine(bld_copy_fresh b w h.cell0 h.shape h.frozen0).mono ?_
  rintro e w' ⟨rfl,rfl⟩
  exact⟨rfl,h.used _,(Below.refl B w).setCell (p:=⟨b,0,none⟩) h.1 _,(Lib.OthersKept.refl _ _ w).setCell ⟨b,0,none⟩ rfl _⟩
 ·refine(bld_copy_used b w h.cell0).mono ?_
  rintro e w' ⟨rfl,rfl⟩
  exact⟨rfl,h,Below.refl B _,Lib.OthersKept.refl _ _ _⟩
set_option maxRecDepth 100000 in
set_option maxHeartbeats 2000000 in
theorem bld_write(B b:Nat)(bs:List Value)(s:ByteArray)(w:World)(h:Lib.IsBuilderF 175 5 B b bs w)(hlen:bs.length+s.size≤140737488355328)(hBw:B≤w.heap.size) :
  Calls Tryz.prog 129 #[.pointer (some ⟨b,0,none⟩),.string s] w fun e w'=>e=.returned (.tuple #[.int .i64 s.size,.nilIface])∧(Lib.BuilderAtF 175 5 B b (.pointer (some ⟨b,0,none⟩)) (bs++Lib.strCells s) w'∧Below B w w'∧Lib.OthersKept 5 (some b) w w'):=by
 obtain⟨i0,hi,hz0,hz1,hz2⟩:=info_parts bld_byte
 go_enter Tryz.func129,Tryz.ntmps129
 go_wp2_with fail
 refine(bld_copy B b bs _ h).mono ?_
 rintro e w1 ⟨rfl,h1,hb1,hk1⟩
 obtain⟨hB,v,hbk,hown,hne⟩:=h1
 have c0:w1.cell? ⟨b,0,none⟩=some (.pointer (some ⟨b,0,none⟩)):=by rw[Lib.cell_of_heap hbk];rfl
 have c1:w1.cell? ⟨b,1,none⟩=some v:=by rw[Lib.cell_of_heap hbk];rfl
 go_wp2_with (at_builtin;refine Lib.wpList_append_own_stringF _ rfl _ _ 41 9 rfl B 5 i0 Tryz.underlying41 Tryz.underlying9 hi hz0 hz1 hz2 _ _ _ rfl hown s rfl ?c3 ?c4 ?c5 ?_)
 case c3=>unfold maxLen;omega
 case c4=>omega
 case c5=>have:=hb1.size;omega
 intro v' w2 hown' hgrow _
 have hlt:b<w1.heap.size:=by
  rcases Nat.lt_or_ge b w1.heap.size with h'|h'
  ·exact h'
  ·simp[Array.getElem?_eq_none h']at hbk
 have hb2:w2.heap[b]?=some (.cells #[.pointer (some ⟨b,0,none⟩),v] 175 (0,0)):=by
  rw[hgrow.block b hlt (fun e=>hne e.symm)]
  exact hbk
 have d0:w2.cell? ⟨b,0,none⟩=some (.pointer (some ⟨b,0,none⟩)):=by rw[Lib.cell_of_heap hb2];rfl
 have d1:w2.cell? ⟨b,1,none⟩=some v:=by rw[Lib.cell_of_heap hb2];rfl
 have f1:w2.frozen? ⟨b,1,none⟩=false:=Lib.frozen_of_heap hb2 1
 obtain⟨ao,n',cap,rfl⟩:∃ao n' cap,v'=.slice ao n' cap:=by
  rcases hown'.2 with ⟨hv,_⟩|⟨g,cap,cur,fz,hv,_⟩
  ·exact⟨_,_,_,hv⟩
  ·exact⟨_,_,_,hv⟩
 go_wp2
 go_ret2
 refine⟨rfl,?_,?_,(hk1.grown hgrow (Lib.ownsRowF_kind hown)).setCell ⟨b,1,none⟩ rfl _⟩
 ·exact Lib.BuilderAtF.put (T:=175) (e:=5) hB hb2 (bs':=bs++Lib.strCells s) (by simpa [Lib.strCells_length] using hown') (by decide)
 ·exact(hb1.grown hgrow (by have:=hb1.size;omega) (fun k hk=>(hown.lt k hk).1)).setCell (p:=⟨b,1,none⟩) hB _
theorem bl_app(a b:ByteArray):bl (a++b)=bl a++bl b:=by simp[bl]
def dig(d:Nat):UInt8:=UInt8.ofNat (48+d)
def decS(n:Nat):List UInt8:=if n≤9 then [dig n] else decS (n / 10)++[dig (n % 10)]
termination_by n
decreasing_by omega
theorem decS_small{n:Nat}(h:n≤9):decS n=[dig n]:=by rw[decS,if_pos h]
theorem decS_great{n:Nat}(h:¬n≤9):decS n=decS (n / 10)++[dig (n % 10)]:=by rw[decS,if_neg h]
def opS(o:Nat):List UInt8:=[[43],[45],[42],[47]].getD o []
def coreS(a:Nd)(pl pr:Nat→List UInt8):List UInt8:=
 if a.kind=0 then decS a.n.toNat
 else if a.kind=1 then selS a
 else if a.kind=2 then overWords.getD a.op []++[40]++selS a++[91]++decS a.n.toNat++[93,41]
 else if a.kind=3 then [45]++pl 4
 else if a.kind=5 then groupWords.getD a.op []++[32,98,121,32,40]++commas a.by_++[41,32,40]++pl 1++[41]
 else if a.kind=6 then pl 1++[32,111,114,32]++pr 2
 else pl (tightT a)++[32]++opS a.op++[32]++pr (tightT a+1)
def wrapS(b:Bool)(s:List UInt8):List UInt8:=if b then [40]++s++[41] else s
def printT:Tr→Nat→List UInt8
 | .nil,_=>[]
 | .node _ _ a l r,must=>wrapS (decide (tightT a<must)) (coreS a (printT l) (printT r))
theorem decS_len:∀(k n:Nat),n<10 ^ (k+1)→(decS n).length≤k+1
 | 0,n,h=>by rw[decS_small (by simp at h;omega)];simp
 | k + 1, n, h => by
   by_cases h9:n≤9
   · rw[decS_small h9];simp
   · rw[decS_great h9,List.length_append]
     have:=decS_len k (n / 10) (by rw[Nat.pow_succ]at h;omega)
     simp
     omega
theorem commas_cons(a b:List UInt8)(l:List (List UInt8)):commas (a::b::l)=a++44::commas (b::l):=rfl
theorem commas_len:∀(l:List (List UInt8)),(commas l).length≤nw l
 | []=>Nat.le_refl _
 | [a]=>by simp[commas,nw]
 | a :: b :: l => by
   have:=commas_len (b::l)
   rw[commas_cons,List.length_append,List.length_cons]
   simp only[nw]at *
   omega
theorem condS_len(c:List UInt8×List UInt8×Bool):(condS c).length≤c.1.length+c.2.1.length+4:=by
 unfold condS
 split <;> simp <;> omega
theorem nw_conds:∀(l:List (List UInt8×List UInt8×Bool)),nw (l.map condS)≤cw l
 | []=>Nat.le_refl _
 | c :: l => by
   have:=nw_conds l
   have:=condS_len c
   simp only[List.map_cons,nw,cw]
   omega
theorem selS_len(a:Nd):(selS a).length≤a.name.length+cw a.conds+2:=by
 unfold selS
 split
 ·omega
 ·have h1:=commas_len (a.conds.map condS)
  have h2:=nw_conds a.conds
  simp only[List.length_append,List.length_cons,List.length_nil]
  omega
theorem getD_len(ws:List (List UInt8))(h:∀x∈ws,x.length≤5)(i:Nat):(ws.getD i []).length≤5:=by
 rw[List.getD_eq_getElem?_getD]
 cases hi:ws[i]? with
 | none=>simp
 | some x=>exact h x (List.mem_of_getElem? hi)
theorem coreS_len{a:Nd}(hn:a.n≤1000000000){pl pr:Nat→List UInt8}{x y:Nat}(hl:∀m,(pl m).length≤x)(hr:∀m,(pr m).length≤y):(coreS a pl pr).length+2≤ownW a+x+y:=by
 have hd : (decS a.n.toNat).length ≤ 10 := decS_len 9 _ (by have : a.n.toNat ≤ 1000000000 := by omega
                                                            have:(10:Nat) ^ 10=10000000000:=by decide
                                                            omega)
 have hs:=selS_len a
 have hc:=commas_len a.by_
 have ho:=getD_len overWords (by decide) a.op
 have hg:=getD_len groupWords (by decide) a.op
 have hop:=getD_len [[43],[45],[42],[47]] (by decide) a.op
 have l1:=hl 1;have l4:=hl 4;have lt:=hl (tightT a)
 have r2:=hr 2;have rt:=hr (tightT a+1)
 unfold coreS ownW
 split
 ·omega
 ·split
  ·omega
  ·split
   ·simp only[List.length_append,List.length_cons,List.length_nil];omega
   ·split
    ·simp only[List.length_append,List.length_cons,List.length_nil];omega
    ·split
     ·simp only[List.length_append,List.length_cons,List.length_nil];omega
     ·split
      ·simp only[List.length_append,List.length_cons,List.length_nil];omega
      ·unfold opS
       simp only[List.length_append,List.length_cons,List.length_nil];omega
theorem wrapS_len(b:Bool)(s:List UInt8):(wrapS b s).length≤s.length+2:=by
 unfold wrapS;split <;> simp <;> omega
theorem printT_len:∀(t:Tr) (m:Nat),wfT t→(printT t m).length≤wT t
 | .nil,_,_=>Nat.le_refl _
 | .node x y a l r, m, h => by
   have hl:=printT_len l
   have hr:=printT_len r
   have h1:=coreS_len h.2.2.2.2.2.1 (pl:=printT l) (pr:=printT r) (x:=wT l) (y:=wT r) (fun m=>hl m h.2.2.2.2.2.2.2.2.2.2.1) (fun m=>hr m h.2.2.2.2.2.2.2.2.2.2.2)
   have h2:=wrapS_len (decide (tightT a<m)) (coreS a (printT l) (printT r))
   unfold printT wT
   omega
theorem commas_snoc(l:List (List UInt8))(a:List UInt8):commas (l++[a])=(if l.isEmpty then [] else commas l++[44])++a:=by
 induction l with
 | nil=>rfl
 | cons b l ih=>
  cases l with
  | nil=>simp[commas]
  | cons c l=>
   have e:commas (b::c::l++[a])=b++44::commas (c::l++[a]):=rfl
   rw[e,ih]
   simp[commas]
end Go.Proofs.YtkodhpilkaihjaaGreatDoor

/- Parts. -/
import Derived.Test.YtpbemaaghbbocaaGreatDoorE14
import Derived.Test.YtpbemaaghbbocaaGreatDoorE09
import Derived.Test.YtpbemaaghbbocaaGreatDoorE10
import Derived.Test.YtpbemaaghbbocaaGreatDoorE11
import Derived.Test.YtpbemaaghbbocaaGreatDoorE12
import Derived.Test.YtpbemaaghbbocaaGreatDoorE06
import Derived.Laws.IdiomStrings
namespace Go.Proofs.YtpbemaaghbbocaaGreatDoor
open Go.RowKit LS
theorem Rep.at{w:World}{pv:Value}{n:Nat}{xs:List Value}(hown:w.ownsRow 0 131 8 pv n xs){x y:Nat}{nd:Nd}{l r:Tr}{i:Nat}(h:Rep w xs (.node x y nd l r) i) :
  ∃(g cp:Nat) (p:PV) (a c:Nat),pv=.slice (some ⟨g,0,none⟩) n cp∧g<w.heap.size∧i<n∧Zfo w nd p∧p.a=a∧p.b=c∧Rep w xs l a∧Rep w xs r c∧
   w.cell? ⟨g,i*8,none⟩=some (.int .i64 p.k)∧w.cell? ⟨g,i*8+1,none⟩=some (.int .i64 p.n)∧w.cell? ⟨g,i*8+2,none⟩=some (.int .i64 p.op)∧w.cell? ⟨g,i*8+3,none⟩=some (.string p.nm)∧
   w.cell? ⟨g,i*8+4,none⟩=some (.slice p.ca p.cn p.cc)∧w.cell? ⟨g,i*8+5,none⟩=some (.slice p.ba p.bn p.bc)∧w.cell? ⟨g,i*8+6,none⟩=some (.int .i64 p.a)∧w.cell? ⟨g,i*8+7,none⟩=some (.int .i64 p.b):=by
 obtain⟨p,a,c,h1,h2,h3,h4,_,_,h7,h8⟩:=h
 have hlen:=congrArg List.length h1
 rw[Ziw,List.length_take,List.length_drop,hown.1]at hlen
 have hi:i<n:=by omega
 obtain⟨g,cp,rfl⟩:=Zy hown (by omega)
 have hc:∀j v,j<8→p.cells[j]?=some v→w.cell? ⟨g,i*8+j,none⟩=some v:=by
  intro j v hj hv
  refine Zn hown _ _ ?_
  rw[←h1,List.getElem?_take,if_pos hj,List.getElem?_drop]at hv
  exact hv
 exact⟨g,cp,p,a,c,rfl,ZbJ hown,hi,h2,h3,h4,h7,h8,hc 0 _ (by decide) rfl,hc 1 _ (by decide) rfl,hc 2 _ (by decide) rfl,hc 3 _ (by decide) rfl,hc 4 _ (by decide) rfl,hc 5 _ (by decide) rfl,hc 6 _ (by decide) rfl,hc 7 _ (by decide) rfl⟩
theorem Zcf.below{w w':World}{base:Nat}{p:PV}{ns:List (List UInt8)}(h:Zcf w base p ns)(hb:Below w.heap.size w w'):Zcf w' base p ns:=by
 obtain⟨bs,h1,h2⟩:=h
 exact⟨bs,Zw h1 hb,h2⟩
theorem Z2.below{w w':World}{base:Nat}{p:PV}{ns:List (List UInt8×List UInt8×Bool)}(h:Z2 w base p ns)(hb:Below w.heap.size w w'):Z2 w' base p ns:=by
 obtain⟨bs,h1,h2⟩:=h
 exact⟨bs,Zw h1 hb,h2⟩
theorem Rep.below{w w':World}{xs:List Value}(hb:Below w.heap.size w w'):∀(t:Tr) (i:Nat),Rep w xs t i→Rep w' xs t i
 | .nil,_,_=>trivial
 | .node _ _ nd l r, i, h => by
   obtain⟨p,u,c,h1,⟨g1,g2,g3,g4,g5,g6⟩,h3,h4,h5,h6,h7,h8⟩:=h
   exact⟨p,u,c,h1,⟨g1,g2,g3,g4,g5.below hb,g6.below hb⟩,h3,h4,h5,h6,Rep.below hb l u h7,Rep.below hb r c h8⟩
theorem ZdT(t:Tr):Zc t≤2:=by
 cases t with
 | nil=>decide
 | node x y a l r=>
  unfold Zc
  have hl:=ZdT l
  split
  ·decide
  ·split
   ·decide
   ·split
    ·exact hl
    ·split
     ·split <;> decide
     ·split
      ·decide
      ·split <;> decide
termination_by t
structure RowAt (w:World) (b:Nat) (pv:Value) (n:Nat) (xs:List Value):Prop where
 cell:w.cell? ⟨b,0,none⟩=some pv
 own:w.ownsRow 0 131 8 pv n xs
theorem RowAt.below{w w':World}{b:Nat}{pv:Value}{n:Nat}{xs:List Value}(h:RowAt w b pv n xs)(hb:Below w.heap.size w w'):RowAt w' b pv n xs:=
 ⟨(hb.cell (p:=⟨b,0,none⟩) (World.block_lt_of_cell? _ _ h.cell)).trans h.cell,Zw h.own hb⟩
set_option maxRecDepth 100000 in
set_option maxHeartbeats 4000000 in
theorem Zr3(b:Nat)(pv:Value)(n:Nat)(xs:List Value):∀(t:Tr) (i:Nat) (w:World),wfT t→isNil t=false→RowAt w b pv n xs→Rep w xs t i→
  Calls Tryz.prog 49 #[.pointer (some ⟨b,0,none⟩),.int .i64 i] w fun e w'=>e=.returned (.int .i64 (Zc t))∧Below w.heap.size w w':=by
 intro t
 induction t with
 | nil=>intro i w _ h;cases h
 | node x y nd l r ihl ihr=>
  intro i w hwf _ hrow hrep
  obtain⟨g,cp,p,a,c,rfl,hgl,hi,hp,ha,hc,hrl,hrr,c0,c1,c2,c3,c4,c5,c6,c7⟩:=Rep.at hrow.own hrep
  have hcell:=hrow.cell
  have HROW:Hid (RowAt w b (.slice (some ⟨g,0,none⟩) n cp) n xs):=hrow
  obtain⟨W,hW⟩:∃W,W=w.alloc (.cells #[.int .i64 p.k,.int .i64 p.n,.int .i64 p.op,.string p.nm,.slice p.ca p.cn p.cc,.slice p.ba p.bn p.bc,.int .i64 p.a,.int .i64 p.b] 131):=⟨_,rfl⟩
  have hbW:Below w.heap.size w W:=by rw[hW];exact Zbal
  have HW:Hid (W=w.alloc (.cells #[.int .i64 p.k,.int .i64 p.n,.int .i64 p.op,.string p.nm,.slice p.ca p.cn p.cc,.slice p.ba p.bn p.bc,.int .i64 p.a,.int .i64 p.b] 131)):=hW
  have HP:Hid (PAt W w.heap.size p):=hid (by rw[hW];exact Go.Deep.blk_alloc_new _ _)
  have HRW:Hid (RowAt W b (.slice (some ⟨g,0,none⟩) n cp) n xs):=hrow.below hbW
  have HL:Hid (Rep W xs l a):=Rep.below hbW l a hrl
  have HR:Hid (Rep W xs r c):=Rep.below hbW r c hrr
  have HBW:Hid (Below w.heap.size w W):=hbW
  have hkk:p.k=nd.kind:=hp.1
  have HWF:Hid (wfT (.node x y nd l r)):=hwf
  have hk6:nd.kind≤6:=hwf.1
  have HIL:Hid (∀(i:Nat) (w:World),wfT l→isNil l=false→RowAt w b (.slice (some ⟨g,0,none⟩) n cp) n xs→Rep w xs l i→Calls Tryz.prog 49 #[.pointer (some ⟨b,0,none⟩),.int .i64 i] w fun e w'=>e=.returned (.int .i64 (Zc l))∧Below w.heap.size w w'):=ihl
  have HIR:Hid (∀(i:Nat) (w:World),wfT r→isNil r=false→RowAt w b (.slice (some ⟨g,0,none⟩) n cp) n xs→Rep w xs r i→Calls Tryz.prog 49 #[.pointer (some ⟨b,0,none⟩),.int .i64 i] w fun e w'=>e=.returned (.int .i64 (Zc r))∧Below w.heap.size w w'):=ihr
  rw[ha,hc]at HW
  rw[ha]at c6
  rw[hc]at c7
  have HA:Hid (p.a=a∧p.b=c):=⟨ha,hc⟩
  have HKK:Hid (p.k=nd.kind):=hkk
  clear ha hc hkk hp hrow hrep hW hbW hrl hrr hwf ihl ihr
  have h7:nd.kind=0∨nd.kind=1∨nd.kind=2∨nd.kind=3∨nd.kind=5∨(nd.kind=4∨nd.kind=6):=by omega
  rcases h7 with hk|hk|hk|hk|hk|hk
  ·have HK:Hid (Zc (.node x y nd l r)=1):=hid (by unfold Zc;rw[if_pos hk])
   have hk3:p.k=0:=by rw[HKK.out,hk];rfl
   rw[hk3]at c0 HW
   clear hk3
   go_enter Tryz.func49,Tryz.ntmps49
   go_wp2
   go_ret
   rw[HK.out]
   exact⟨rfl,Zbal⟩
  ·have HK:Hid (Zc (.node x y nd l r)=2):=hid (by unfold Zc;rw[if_neg (by omega),if_pos (Or.inl hk)])
   have hk3:p.k=1:=by rw[HKK.out,hk];rfl
   rw[hk3]at c0 HW
   clear hk3
   go_enter Tryz.func49,Tryz.ntmps49
   go_wp2
   go_ret
   rw[HK.out]
   exact⟨rfl,Zbal⟩
  ·have HK:Hid (Zc (.node x y nd l r)=2):=hid (by unfold Zc;rw[if_neg (by omega),if_pos (Or.inr hk)])
   have hk3:p.k=2:=by rw[HKK.out,hk];rfl
   rw[hk3]at c0 HW
   clear hk3
   go_enter Tryz.func49,Tryz.ntmps49
   go_wp2
   go_ret
   rw[HK.out]
   exact⟨rfl,Zbal⟩
  ·have HK:Hid (Zc (.node x y nd l r)=Zc l):=hid (by rw[Zc];rw[if_neg (by omega),if_neg (by omega),if_pos hk])
   have hk3:p.k=3:=by rw[HKK.out,hk];rfl
   rw[hk3]at c0 HW
   clear hk3
   go_enter Tryz.func49,Tryz.ntmps49
   go_wp2_with fail
   rw[←HW.out]
   refine(HIL.out a W HWF.2.2.2.2.2.2.2.2.2.2.1 (HWF.2.2.2.2.2.2.1 (by omega)) HRW.out HL.out).mono ?_
   rintro e w1 ⟨rfl,hb1⟩
   have HB1:Hid (Below w.heap.size w w1):=HBW.trans (hb1.mono HBW.size)
   clear hb1
   go_wp2
   go_ret
   rw[HK.out]
   exact⟨rfl,HB1.out⟩
  ·have HK:Hid (Zc (.node x y nd l r)=if Zc l=2 then 2 else 0):=hid (by rw[Zc];rw[if_neg (by omega),if_neg (by omega),if_neg (by omega),if_pos hk])
   have hk3:p.k=5:=by rw[HKK.out,hk];rfl
   rw[hk3]at c0 HW
   clear hk3
   go_enter Tryz.func49,Tryz.ntmps49
   go_wp2_with fail
   rw[←HW.out]
   refine(HIL.out a W HWF.2.2.2.2.2.2.2.2.2.2.1 (HWF.2.2.2.2.2.2.1 (by omega)) HRW.out HL.out).mono ?_
   rintro e w1 ⟨rfl,hb1⟩
   have HB1:Hid (Below w.heap.size w w1):=HBW.trans (hb1.mono HBW.size)
   clear hb1
   have hle:=ZdT l
   generalize Zc l=ka at *
   have h3:ka=0∨ka=1∨ka=2:=by omega
   clear HIL
   rcases h3 with rfl|rfl|rfl
   all_goals
    go_wp2
    go_ret
    rw[HK.out]
    exact⟨rfl,HB1.out⟩
  ·have HK:Hid (Zc (.node x y nd l r)=if Zc l=0∨Zc r=0∨(nd.kind=6∧Zc l+Zc r≠4)then 0 else if Zc l+Zc r=2 then 1 else 2):=hid (by rw[Zc];rw[if_neg (by omega),if_neg (by omega),if_neg (by omega),if_neg (by omega)])
   have HL3:Hid (isNil l=false∧isNil r=false∧wfT l∧wfT r):=⟨HWF.2.2.2.2.2.2.1 (by omega),HWF.2.2.2.2.2.2.2.1 hk,HWF.2.2.2.2.2.2.2.2.2.2.1,HWF.2.2.2.2.2.2.2.2.2.2.2⟩
   rcases hk with hk|hk
   all_goals
    first
     | have hk3:p.k=4:=by rw[HKK.out,hk];rfl
     | have hk3:p.k=6:=by rw[HKK.out,hk];rfl
    rw[hk]at HK
    rw[hk3]at c0 HW
    go_enter Tryz.func49,Tryz.ntmps49
    go_wp2_with fail
    rw[←HW.out]
    refine(HIL.out a W HL3.2.2.1 HL3.1 HRW.out HL.out).mono ?_
    rintro e w1 ⟨rfl,hb1⟩
    have HB1:Hid (Below w.heap.size w w1):=HBW.trans (hb1.mono HBW.size)
    have HP1:Hid (PAt w1 w.heap.size _):=PAt.kept HP.out (hb1.block _ (PAt.lt HP.out))
    have HR1:Hid (Rep w1 xs r c):=Rep.below hb1 r c HR.out
    have HW1:Hid (RowAt w1 b (.slice (some ⟨g,0,none⟩) n cp) n xs):=HRW.below hb1
    have hz1:=HB1.size
    obtain⟨k0,k1,k2,k3,k4,k5,k6,k7⟩:=PAt.all HP1.out
    rw[hk3]at k0
    rw[HA.1]at k6
    rw[HA.2]at k7
    clear hb1
    go_wp2_with fail
    clear k0 k1 k2 k3 k4 k5 k6 k7
    refine(HIR.out c w1 HL3.2.2.2 HL3.2.1 HW1.out HR1.out).mono ?_
    rintro e w2 ⟨rfl,hb2⟩
    have HB2:Hid (Below w.heap.size w w2):=HB1.trans (hb2.mono hz1)
    have HP2:Hid (PAt w2 w.heap.size _):=PAt.kept HP1.out (hb2.block _ (PAt.lt HP1.out))
    obtain⟨k0,k1,k2,k3,k4,k5,k6,k7⟩:=PAt.all HP2.out
    rw[hk3]at k0
    clear hb2
    have hle:=ZdT l
    have hre:=ZdT r
    generalize Zc l=ka at *
    generalize Zc r=kb at *
    have h3:ka=0∨ka=1∨ka=2:=by omega
    have h4:kb=0∨kb=1∨kb=2:=by omega
    clear HIL HIR hle hre
    rcases h3 with rfl|rfl|rfl <;> rcases h4 with rfl|rfl|rfl
    all_goals
     go_wp2
     go_ret
     rw[HK.out]
     exact⟨rfl,HB2.out⟩
def ZhX(w:World)(b:Nat)(t:Tr):Prop:=∃(pv:Value) (n:Nat) (xs:List Value),RowAt w b pv (n+1) xs∧n+1≤301∧Rep w xs t n∧wfT t∧isNil t=false∧wT t≤100000
theorem Zhe(l:List UInt8)(hl:l.length≤300):∀(n i:Nat),tw (ZM l n i)≤332*(ZM l n i).length
 | 0,_=>Nat.le_refl _
 | n + 1, i => by
   have h1:=Zfh l i
   have h2:=Zhe l hl n (Zl l i).2
   unfold ZM
   split
   · simp[tw];omega
   · simp[tw];omega
theorem ZnW{w:World}{b:Nat}{q:QV}(h:QAt w b q)(hs:q.s.size≤6000)(h0:q.at_=0)(he:q.e=0) :
  Calls Tryz.prog 46 #[.pointer (some ⟨b,0,none⟩)] w fun r w'=>r=.returned (.tuple #[])∧St w' b q.pv q.s q.deep (.ok ((),ZM (bl q.s) ((bl q.s).length+1) 0))∧w.grownBy w' (some b):=by
 refine(Zkj w b q h hs (by omega)).mono ?_
 rintro r w' ⟨rfl,⟨tx,htx,hq⟩,hg⟩
 rw[h0]at hq htx
 refine⟨rfl,⟨⟨_,hq,rfl,rfl,rfl,he,?_,?_⟩,trivial⟩,hg⟩
 ·have:=(Zet (bl q.s) 0 (Nat.zero_le _)).2;rw[Zg]at this;exact this
 ·have e:Zb1 { q with at_:=(Zl (bl q.s) 0).2,k:=(Zl (bl q.s) 0).1.kind,tx:=tx,ta:=(Zl (bl q.s) 0).1.at_ }=(Zl (bl q.s) 0).1:=by
   show(⟨_,bl tx,_⟩:Tok)=_;rw[htx]
  rw[e];exact Toks.start _
set_option maxRecDepth 100000 in
set_option maxHeartbeats 4000000 in
theorem ZrA(s:ByteArray)(w:World)(hlim:s.size≤9223372036854775807) :
  Calls Tryz.prog 25 #[.string s] w fun e w' => (∃ (v : Value) (c p : Nat), e = .returned (.tuple #[v, .int .i64 c, .int .i64 p]) ∧
    Hid ((∀x,Zbd (bl s)=.error x→c=x.1∧p=x.2∧c≠0∧v=.pointer none)∧(∀t,Zbd (bl s)=.ok t→c=0∧p=0∧∃b,v=.pointer (some ⟨b,0,none⟩)∧w.heap.size≤b∧ZhX w' b t)))∧Below w.heap.size w w':=by
 by_cases hl:300<s.size
 ·have HR:Hid (Zbd (bl s)=.error (1,0)):=hid (by unfold Zbd;rw[Zg,if_pos hl])
  have hd:(300:Int)<s.size:=by omega
  go_enter Tryz.func25,Tryz.ntmps25
  go_wp2
  go_ret3
  refine⟨⟨_,1,0,rfl,⟨fun x hx=>?_,fun t ht=>?_⟩⟩,Below.refl _ _⟩
  ·rw[HR.out]at hx;injection hx with hx;subst hx;exact⟨rfl,rfl,by decide,rfl⟩
  ·rw[HR.out]at ht;cases ht
 ·have hl3:s.size≤300:=by omega
  have hd:¬((300:Int)<s.size):=by omega
  obtain⟨ts,hts⟩:∃ts,ts=ZM (bl s) ((bl s).length+1) 0:=⟨_,rfl⟩
  have hlen:ts.length≤301:=by
   have:=Zf7 (bl s) ((bl s).length+1) 0 (Nat.zero_le _)
   rw[←hts,Zg]at this
   omega
  have htw:tw ts≤100000:=by
   have:=Zhe (bl s) (by rw[Zg];exact hl3) ((bl s).length+1) 0
   rw[←hts]at this
   omega
  have HRQ:Hid (Zbd (bl s)=match Zi (10*ts.length+5) false 0 .nil ts 0 with
   | .error e=>.error e
   | .ok (t,r)=>if (LS.hd r).kind=0 then (if Zc t=0 then .error (4,0)else .ok t)else .error (2,(LS.hd r).at_)):=hid (by
   unfold Zbd;rw[Zg,if_neg hl,←Zg,←hts]
   cases Zi (10*ts.length+5) false 0 .nil ts 0 with
   | error e=>rfl
   | ok x=>rfl)
  have HTS:Hid (ts=ZM (bl s) ((bl s).length+1) 0):=hts
  clear hts
  obtain⟨R,hR⟩:∃R,R=Zi (10*ts.length+5) false 0 .nil ts 0:=⟨_,rfl⟩
  have HPR:Hid (R=Zi (10*ts.length+5) false 0 .nil ts 0):=hR
  rw[←hR]at HRQ
  clear hR
  have HQ0:Hid (∀W:World,QAt (W.alloc (.cells #[.slice none 0 0,.string s,.int .i64 0,.int .i64 0,.string ⟨#[]⟩,.int .i64 0,.int .i64 0,.int .i64 0,.int .i64 0] 115)) W.heap.size ⟨.slice none 0 0,s,0,0,⟨#[]⟩,0,0,0,0⟩):=fun W=>Go.Deep.blk_alloc_new _ _
  go_enter Tryz.func25,Tryz.ntmps25
  go_wp2_with fail
  refine(ZnW (HQ0.out w) (by show s.size≤6000;omega) rfl rfl).mono ?_
  rintro e w1 ⟨rfl,hst,hg⟩
  have HS1:Hid (St w1 w.heap.size (.slice none 0 0) s 0 (.ok ((),ts))):=hid (by rw[HTS.out];exact hst)
  have HB1:Hid (Below w.heap.size w w1):=⟨hg.os,hg.tape,hg.output,by have:=hg.size;rw[Go.Deep.nblk_alloc]at this;omega,fun k hk=>(hg.block k (by rw[Go.Deep.nblk_alloc];omega) (by simp;omega)).trans (Go.Deep.blk_alloc_lt _ _ _ hk)⟩
  clear hst hg HTS
  go_wp2_with fail
  refine(Zrc (by omega) ts.length w1 w.heap.size (.slice none 0 0) 0 _ 0 [] ts.length HS1.out (World.ownsRow_nil _ _ _ _) (by omega) (show 0+ts.length≤ts.length by omega) (fun t e=>by injection e with e;injection e with _ e;subst e;exact Nat.le_refl _) (by omega)).mono ?_
  rintro e w2 ⟨i,rfl,hp⟩
  rw[show(bnd (.ok ((),ts):Out Unit) fun _ ts'=>Zi (10*ts.length+5) false 0 .nil ts' 0)=R from HPR.symm]at hp
  obtain⟨n2,pv2,ys,s2,o2,k2,b2,r2⟩:=hp.out
  rw[List.nil_append]at o2 r2
  have HS2:Hid (St w2 w.heap.size pv2 s 0 (Ze R)):=s2
  have HO2:Hid (w2.ownsRow 0 131 8 pv2 n2 ys):=o2
  have HB2:Hid (Below w.heap.size w w2):=HB1.trans ⟨k2.os,k2.tape,k2.output,k2.size,fun k hk=>k2.block k (by have:=HB1.size;omega) (by omega) (by simp[Value.ownBlock])⟩
  have HN2:Hid (n2≤301):=hid (by have:=b2.le;omega)
  have HR2:Hid (∀t z,R=.ok (t,z)→∃k:Nat,i=k∧Rep w2 ys t k∧k+1=n2):=r2
  have hz2:w.heap.size<w2.heap.size:=HS2.lt
  clear hp s2 o2 k2 b2 r2 HB1 HS1
  obtain⟨q,hq,hqp,_,hqe,hqo⟩:=St.view HS2.out
  obtain⟨c0,c1,c2,c3,c4,c5,c6,c7,c8⟩:=hq.all
  cases hRR:R with
  | error x=>
   have HRE:Hid (Zbd (bl s)=.error x):=hid (by rw[HRQ.out,hRR])
   obtain⟨e1,e2,e3⟩:=hqe x (by rw[hRR];rfl)
   have he0:((q.e:Int) == 0)=false:=by rw[beq_eq_false_iff_ne];omega
   have he1:((q.e:Int) != 0)=true:=by rw[bne_iff_ne];omega
   have HX:Hid (q.e=x.1∧q.e≠0∧q.pl=x.2):=⟨e1,e2,e3⟩
   clear e1 e2 e3 hqe hqo hq hRR HRQ HR2
   go_wp2
   go_region
   all_goals
    go_wp2
    go_ret3
    refine⟨⟨_,q.e,q.pl,rfl,⟨fun y hy=>?_,fun t ht=>?_⟩⟩,Zk HB2.out 1⟩
    ·rw[HRE.out]at hy;injection hy with hy;subst hy;exact⟨HX.1,HX.2.2,HX.2.1,rfl⟩
    ·rw[HRE.out]at ht;cases ht
  | ok x=>
   obtain⟨t,r⟩:=x
   rw[hRR]at HS2 HR2 HRQ
   obtain⟨k,hik,hrep,hkn⟩:=HR2.out t r rfl
   obtain⟨e1,e2⟩:=hqo ((),r) (by rw[hRR];rfl)
   obtain⟨f1,f2,f3⟩:=ZeR _ false _ _ _ _ _ (fun h=>nomatch h) (HPR.symm.trans hRR)
   have he0:((q.e:Int) == 0)=true:=by rw[e1];rfl
   have HW:Hid (wfT t∧isNil t=false∧wT t≤100000):=⟨f1,f2,by simp at f3;omega⟩
   have hqk:q.k=(LS.hd r).kind:=(ZcB e2).1
   have HREP:Hid (Rep w2 ys t k):=hrep
   have HRW:Hid (RowAt w2 w.heap.size pv2 (k+1) ys):=⟨by rw[c0,hqp],by rw[hkn];exact HO2.out⟩
   have hk3:k+1≤301:=by rw[hkn];exact HN2.out
   clear hqe hqo hq hrep f1 f2 f3 e1 e2 hRR HR2 hqp HN2 HO2
   subst hik
   by_cases hk0:(LS.hd r).kind=0
   ·have hkz:((q.k:Int) != 0)=false:=by rw[hqk,hk0];rfl
    have he1:((q.e:Int) != 0)=false:=by
     have:(q.e:Int)=0:=by simpa using he0
     rw[this];rfl
    have HRE:Hid (Zbd (bl s)=if Zc t=0 then .error (4,0)else .ok t):=hid (by rw[HRQ.out];show(if (LS.hd r).kind=0 then _ else _)=_;rw[if_pos hk0])
    clear hk0 hqk
    go_wp2_with fail
    refine(Zr3 w.heap.size pv2 (k+1) ys t k w2 HW.1 HW.2.1 HRW.out HREP.out).mono ?_
    rintro e w3 ⟨rfl,hb3⟩
    have HRW3:Hid (RowAt w3 w.heap.size pv2 (k+1) ys):=HRW.below hb3
    have HREP3:Hid (Rep w3 ys t k):=Rep.below hb3 t k HREP.out
    have HB3:Hid (Below w.heap.size w w3):=HB2.trans (hb3.mono (by omega))
    clear hb3
    have hle:=ZdT t
    by_cases hkt:Zc t=0
    ·have hkb:((Zc t:Int) == 0)=true:=by rw[hkt];rfl
     have HRF:Hid (Zbd (bl s)=.error (4,0)):=hid (by rw[HRE.out,if_pos hkt])
     generalize Zc t=kt at hkb hle ⊢
     clear hkt
     go_wp2
     go_ret3
     refine⟨⟨_,4,0,rfl,⟨fun y hy=>?_,fun t' ht=>?_⟩⟩,HB3.out⟩
     ·rw[HRF.out]at hy;injection hy with hy;subst hy;exact⟨rfl,rfl,by decide,rfl⟩
     ·rw[HRF.out]at ht;cases ht
    ·have hkb:((Zc t:Int) == 0)=false:=by rw[beq_eq_false_iff_ne];omega
     have HRF:Hid (Zbd (bl s)=.ok t):=hid (by rw[HRE.out,if_neg hkt])
     generalize Zc t=kt at hkb hle ⊢
     clear hkt
     go_wp2
     go_ret3
     refine⟨⟨_,0,0,rfl,⟨fun y hy=>?_,fun t' ht=>?_⟩⟩,HB3.out⟩
     ·rw[HRF.out]at hy;cases hy
     ·rw[HRF.out]at ht;injection ht with ht;subst ht
      exact⟨rfl,rfl,w.heap.size,rfl,Nat.le_refl _,pv2,k,ys,HRW3.out,hk3,HREP3.out,HW.1,HW.2.1,HW.2.2⟩
   ·have hkz:((q.k:Int) != 0)=true:=by rw[hqk,bne_iff_ne];omega
    have HRE:Hid (Zbd (bl s)=.error (2,(LS.hd r).at_)):=hid (by rw[HRQ.out];show(if (LS.hd r).kind=0 then _ else _)=_;rw[if_neg hk0])
    clear hk0 hqk
    go_wp2_with fail
    refine(St.fail HS2.out 2 _ rfl (by decide)).mono ?_
    rintro e w3 ⟨rfl,hst,hg⟩
    obtain⟨q3,hq3,_,_,hqe3,_⟩:=St.view hst
    obtain⟨g1,g2,g3⟩:=hqe3 (2,(LS.hd r).at_) rfl
    obtain⟨d0,d1,d2,d3,d4,d5,d6,d7,d8⟩:=hq3.all
    have he1:((q3.e:Int) != 0)=true:=by rw[bne_iff_ne];omega
    have HX:Hid (q3.e=2∧q3.pl=(LS.hd r).at_):=⟨g1,g3⟩
    have HB3:Hid (Below w.heap.size w w3):=HB2.trans ⟨hg.os,hg.tape,hg.output,hg.size,fun j hj=>hg.block j (by omega) (by simp;omega)⟩
    clear hst hg hq3 hqe3 g1 g2 g3 c0 c1 c2 c3 c4 c5 c6 c7 c8
    go_wp2
    go_region
    all_goals
     go_wp2
     go_ret3
     refine⟨⟨_,q3.e,q3.pl,rfl,⟨fun y hy=>?_,fun t ht=>?_⟩⟩,Zk HB3.out 1⟩
     ·rw[HRE.out]at hy;injection hy with hy;subst hy;exact⟨HX.1,HX.2,by rw[HX.1];decide,rfl⟩
     ·rw[HRE.out]at ht;cases ht
theorem Zek{k j:Nat}{x:List UInt8}(h2:k≠2)(h4:k≠4)(h5:k≤5):ZcV ⟨k,x,j⟩∧(⟨k,x,j⟩:Tok).kind≤5:=⟨⟨fun h=>absurd h h2,fun h=>absurd h h4⟩,h5⟩
theorem Ztq{j:Nat}{x:List UInt8}(h:x.all Zm=true):ZcV ⟨2,x,j⟩∧(⟨2,x,j⟩:Tok).kind≤5:=⟨⟨fun _=>h,fun h=>absurd (show(2:Nat)=4 from h) (by decide)⟩,by show(2:Nat)≤5;decide⟩
theorem Zle{j:Nat}{x:List UInt8}(h:x.all (fun c=>!Zm c)=true):ZcV ⟨4,x,j⟩∧(⟨4,x,j⟩:Tok).kind≤5:=⟨⟨fun h=>absurd (show(4:Nat)=2 from h) (by decide),fun _=>h⟩,by show(4:Nat)≤5;decide⟩
theorem Zpr(l:List UInt8)(j:Nat)(c:UInt8)(r:List UInt8):ZcV (lexC l j c r).1∧(lexC l j c r).1.kind≤5:=by
 unfold lexC
 split
 ·split
  ·exact Zek (by decide) (by decide) (by decide)
  ·exact Zek (by decide) (by decide) (by decide)
 ·rename_i hd
  split
  ·split
   ·exact Zek (by decide) (by decide) (by decide)
   ·exact Ztq (ZhA Zm _)
  ·rename_i hl
   split
   ·split
    ·exact Zek (by decide) (by decide) (by decide)
    ·split
     ·exact Zek (by decide) (by decide) (by decide)
     ·exact Zek (by decide) (by decide) (by decide)
   ·split
    ·exact Zle (by decide)
    ·split
     ·refine Zle ?_
      show([c].all fun c=>!Zm c)=true
      have:Zm c=false:=Bool.eq_false_iff.2 hl
      simp[this]
     ·exact Zek (by decide) (by decide) (by decide)
theorem Zpp(l:List UInt8)(i:Nat):ZcV (Zl l i).1∧(Zl l i).1.kind≤5:=by
 unfold Zl lexJ
 split
 ·exact Zek (by decide) (by decide) (by decide)
 ·exact Zpr _ _ _ _
theorem ZkQ(l:List UInt8):∀(n i:Nat),i≤l.length→l.length+1≤n+i→Zdx (ZM l n i)
 | 0,i,h1,h2=>absurd h2 (by omega)
 | n + 1, i, h1, h2 => by
   show Zdx (if (Zl l i).1.kind=0∨(Zl l i).1.kind=5 then [(Zl l i).1] else (Zl l i).1::ZM l n (Zl l i).2)
   by_cases h:(Zl l i).1.kind=0∨(Zl l i).1.kind=5
   · rw[if_pos h];exact h
   · rw[if_neg h]
     have hg:=Zet l i h1
     have hw:=Zpp l i
     have ih:=ZkQ l n (Zl l i).2 hg.2 (by have:=hg.1 (fun e=>h (Or.inl e));omega)
     cases hr:ZM l n (Zl l i).2 with
     | nil=>rw[hr]at ih;exact ih.elim
     | cons u m=>
       rw[hr]at ih
       exact⟨by have:=hw.2;omega,hw.1,ih⟩
theorem Zmf{w w':World}{b B:Nat}(h:w.grownBy w' (some b))(hb:B≤b)(hB:B≤w.heap.size):Below B w w':=
 ⟨h.os,h.tape,h.output,h.size,fun j hj=>h.block j (by omega) (fun e=>by injection e with e;omega)⟩
def RdIs(w:World)(lg sy dp tp:Addr)(r:Except (Nat×Nat) Tr)(pv v:Value):Prop:=match r with
 | .ok t=>v=.nilIface∧Zo w t pv
 | .error x=>(x=(1,0)∧v=.iface 389 (.pointer (some lg)))∨(x=(4,0)∧v=.iface 389 (.pointer (some tp)))∨(x.1=2∧Zb2 w v x.2 sy)∨(x.1=3∧Zb2 w v x.2 dp)
theorem RdIs.error{w:World}{lg sy dp tp:Addr}{r:Except (Nat×Nat) Tr}{pv v:Value}{x:Nat×Nat}(hr:r=.error x)(h:(x=(1,0)∧v=.iface 389 (.pointer (some lg)))∨(x=(4,0)∧v=.iface 389 (.pointer (some tp)))∨(x.1=2∧Zb2 w v x.2 sy)∨(x.1=3∧Zb2 w v x.2 dp)):RdIs w lg sy dp tp r pv v:=by subst hr;exact h
theorem RdIs.fine{w:World}{lg sy dp tp:Addr}{r:Except (Nat×Nat) Tr}{pv v:Value}{t:Tr}(hr:r=.ok t)(h:v=.nilIface∧Zo w t pv):RdIs w lg sy dp tp r pv v:=by subst hr;exact h
structure Sents (w:World) (lg sy dp tp:Addr):Prop where
 lg:w.cell? ⟨0,0,none⟩=some (.iface 389 (.pointer (some lg)))
 sy:w.cell? ⟨1,0,none⟩=some (.iface 389 (.pointer (some sy)))
 dp:w.cell? ⟨2,0,none⟩=some (.iface 389 (.pointer (some dp)))
 tp:w.cell? ⟨3,0,none⟩=some (.iface 389 (.pointer (some tp)))
theorem Sents.below{w w':World}{lg sy dp tp:Addr}(h:Sents w lg sy dp tp)(hb:Below w.heap.size w w'):Sents w' lg sy dp tp:=
 ⟨(hb.cell (p:=⟨_,0,none⟩) (World.block_lt_of_cell? _ _ h.lg)).trans h.lg,(hb.cell (p:=⟨_,0,none⟩) (World.block_lt_of_cell? _ _ h.sy)).trans h.sy,(hb.cell (p:=⟨_,0,none⟩) (World.block_lt_of_cell? _ _ h.dp)).trans h.dp,(hb.cell (p:=⟨_,0,none⟩) (World.block_lt_of_cell? _ _ h.tp)).trans h.tp⟩
set_option maxRecDepth 100000 in
set_option maxHeartbeats 8000000 in
theorem ZrI(s:ByteArray)(w:World)(hlim:s.size≤9223372036854775807){lg sy dp tp:Addr}(hS:Sents w lg sy dp tp) :
  Calls Tryz.prog 19 #[.string s] w fun e w'=>∃pv v:Value,e=.returned (.tuple #[pv,v])∧Hid (RdIs w' lg sy dp tp (Zbd (bl s)) pv v)∧Below w.heap.size w w':=by
 by_cases hl:300<s.size
 ·have HR:Hid (Zbd (bl s)=.error (1,0)):=hid (by unfold Zbd;rw[Zg,if_pos hl])
  have hd:(300:Int)<s.size:=by omega
  have hlg:=hS.lg
  clear hS
  go_enter Tryz.func19,Tryz.ntmps19
  go_wp2
  go_region
  all_goals
   go_wp2
   go_ret2
   exact⟨_,_,rfl,RdIs.error HR.out (Or.inl ⟨rfl,rfl⟩),(by repeat first|exact Below.refl _ _|assumption|refine Below.alloc ?_ ?_ _|refine Below.setCell ?_ ?_ _|refine Zk ?_ _|refine Below.drew ?_|omega|(simp;omega)|simp)⟩
 ·have hl3:s.size≤300:=by omega
  have hd:¬((300:Int)<s.size):=by omega
  obtain⟨ts,hts⟩:∃ts,ts=ZM (bl s) ((bl s).length+1) 0:=⟨_,rfl⟩
  have HLN:Hid (ts.length≤301):=hid (by
   have:=Zf7 (bl s) ((bl s).length+1) 0 (Nat.zero_le _)
   rw[←hts,Zg]at this
   omega)
  have HWF:Hid (Zdx ts):=hid (by rw[hts];exact ZkQ _ _ _ (Nat.zero_le _) (by omega))
  have HRQ:Hid (Zbd (bl s)=match Zi (10*ts.length+5) false 0 .nil ts 0 with
   | .error e=>.error e
   | .ok (t,r)=>if (LS.hd r).kind=0 then (if Zc t=0 then .error (4,0)else .ok t)else .error (2,(LS.hd r).at_)):=hid (by
   unfold Zbd;rw[Zg,if_neg hl,←Zg,←hts]
   cases Zi (10*ts.length+5) false 0 .nil ts 0 with
   | error e=>rfl
   | ok x=>rfl)
  have HS:Hid (Sents w lg sy dp tp):=hS
  have HTS:Hid (ts=ZM (bl s) ((bl s).length+1) 0):=hts
  clear hts hS hl
  go_enter Tryz.func19,Tryz.ntmps19
  go_wp2_with fail
  refine(Zpt s w hl3).mono ?_
  rintro e w1 ⟨v,ps,rfl,hown,hall,hb1⟩
  rw[←HTS.out]at hall
  have HPL:Hid (ps.length=ts.length):=hall.length
  have hpp:0<ps.length:=by rw[HPL.out];exact HWF.head.2.1
  obtain⟨g,cp,rfl⟩:=Zy hown hpp
  have HO1:Hid (w1.ownsRow 0 87 4 (.slice (some ⟨g,0,none⟩) ps.length cp) ps.length (Zbb ps)):=hown
  have HB1:Hid (Below w.heap.size w w1):=hb1
  have HS1:Hid (Sents w1 lg sy dp tp):=HS.below hb1
  clear hown hb1
  go_wp2_with fail
  refine Zbf fun W hW=>?_
  have hbW:Below w1.heap.size w1 W:=by rw[hW];exact Zbal
  have HBW:Hid (Below w.heap.size w W):=HB1.trans (hbW.mono HB1.size)
  have HSW:Hid (Sents W lg sy dp tp):=HS1.below hbW
  have HK:Hid (RK W ⟨w1.heap.size,g,cp,ps,sy,dp⟩ 0 ts):=hid ⟨⟨by rw[hW];exact Go.Deep.blk_alloc_new _ _,Zw HO1.out hbW,hpp⟩,hall.out,HWF.out,by show ps.length≤302;rw[HPL.out];have:=HLN.out;omega,HSW.sy,HSW.dp⟩
  have hzW:w1.heap.size<W.heap.size:=by rw[hW];simp
  have hz1:w.heap.size≤w1.heap.size:=HB1.size
  clear hW hbW HO1 hall HS1 HB1
  refine((Zh3 (10*ts.length+5)).1 0 (by decide) (10*ts.length+5) (Nat.le_refl _) W ⟨w1.heap.size,g,cp,ps,sy,dp⟩ 0 ts 0 HK.out (by decide) (by show 10*ts.length+5≤10*ts.length+5+0;omega)).mono ?_
  rintro e w2 ⟨pv,v,rfl,hif,hres,hg2⟩
  have hb2:Below w.heap.size W w2:=Zmf hg2 hz1 (by omega)
  have HB2:Hid (Below w.heap.size w w2):=HBW.trans hb2
  have HS2:Hid (Sents w2 lg sy dp tp):=HS.below HB2.out
  clear hg2 hb2
  cases hpr:Zi (10*ts.length+5) false 0 .nil ts 0 with
  | error er=>
   have HE:=hid (hres.err hpr)
   obtain⟨fa,rfl⟩:=HE.shape
   have HPE:Hid (Zbd (bl s)=.error er):=hid (by rw[HRQ.out,hpr])
   clear hres hpr
   go_wp2
   go_ret2
   exact⟨_,_,rfl,RdIs.error HPE.out (Or.inr (Or.inr HE.out)),HB2.out⟩
  | ok pr=>
   obtain⟨t,r⟩:=pr
   obtain⟨rfl,⟨k2,hk2⟩,hv2⟩:=hres.good hpr
   have HK2:Hid (RK w2 ⟨w1.heap.size,g,cp,ps,sy,dp⟩ k2 r):=hk2
   have HV2:Hid (Zo w2 t pv):=hv2
   have HRQ2:Hid (Zbd (bl s)=if (LS.hd r).kind=0 then (if Zc t=0 then .error (4,0)else .ok t)else .error (2,(LS.hd r).at_)):=hid (by rw[HRQ.out,hpr])
   obtain⟨ty,u,hsh⟩:=Zo.shape hv2
   subst hsh
   clear hres hpr hk2 hv2 hif HRQ
   go_wp2_with fail
   refine(Zds HK2.out).mono ?_
   rintro e w3 ⟨⟨kd,at_,tx,tv⟩,rfl,ht,hb3⟩
   have HB3:Hid (Below w.heap.size w w3):=HB2.trans (hb3.mono HB2.size)
   have HK3:=hid (HK2.below hb3)
   have HV3:Hid (Zo w3 t (.iface ty u)):=HV2.below hb3
   clear hb3 HB2 HK2 HV2
   have hpk:=ZdY HK3.wf.head.2.2
   by_cases hk0:(LS.hd r).kind=0
   ·have hkd:kd=4:=by have:=ht.1;simp only at this;rw[this,hpk.2.2.2.2.2 hk0]
    subst hkd
    have HRQ3:Hid (Zbd (bl s)=if Zc t=0 then .error (4,0)else .ok t):=hid (by rw[HRQ2.out,if_pos hk0])
    have hf:∀W:World,(Instr.field 87 (.agg #[.int .i64 4,.int .i64 at_,.string tx,.int .i64 tv]) 0).run Tryz.prog W=.ok (.int .i64 4) W:=fun _=>rfl
    clear hk0 hpk ht
    go_wp2_with fail
    refine(Zg8 t w3 _ tp HV3.out (HS.below HB3.out).tp).mono ?_
    rintro e w4 ⟨kd,err,rfl,hkr,hb4⟩
    have HB4:Hid (Below w.heap.size w w4):=HB3.trans (hb4.mono HB3.size)
    have HV4:Hid (Zo w4 t (.iface ty u)):=HV3.below hb4
    clear hb4
    rcases hkr.out with ⟨h0,rfl⟩|⟨h0,rfl,rfl⟩|⟨h0,rfl,rfl⟩
    ·have HRX:Hid (Zbd (bl s)=.error (4,0)):=hid (by rw[HRQ3.out,if_pos h0])
     clear hkr h0
     go_wp2
     go_ret2
     exact⟨_,_,rfl,RdIs.error HRX.out (Or.inr (Or.inl ⟨rfl,rfl⟩)),HB4.out⟩
    all_goals
     have HRX:Hid (Zbd (bl s)=.ok t):=hid (by rw[HRQ3.out,if_neg (by omega)])
     clear hkr h0
     go_wp2
     go_ret2
     exact⟨_,_,rfl,RdIs.fine HRX.out ⟨rfl,HV4.out⟩,HB4.out⟩
   ·have hkd:((kd:Int) != 4)=true:=by
     rw[bne_iff_ne];intro e
     exact hk0 (hpk.2.2.2.2.1 (by have:=ht.1;simp only at this;omega))
    have HRX:Hid (Zbd (bl s)=.error (2,(LS.hd r).at_)):=hid (by rw[HRQ2.out,if_neg hk0])
    have hf:∀W:World,(Instr.field 87 (.agg #[.int .i64 kd,.int .i64 at_,.string tx,.int .i64 tv]) 0).run Tryz.prog W=.ok (.int .i64 kd) W:=fun _=>rfl
    clear hk0 hpk
    go_wp2_with fail
    refine(Zd8 HK3.out).mono ?_
    rintro e wE ⟨v,rfl,HE,hbE⟩
    obtain⟨fa,rfl⟩:=HE.shape
    have HBE:Hid (Below w.heap.size w wE):=HB3.trans (hbE.mono HB3.size)
    clear hbE
    go_wp2
    go_ret2
    exact⟨_,_,rfl,RdIs.error HRX.out (Or.inr (Or.inr HE.out)),HBE.out⟩
theorem Ziq(a b:ByteArray):bl (a++b)=bl a++bl b:=by simp[bl]
def dig(d:Nat):UInt8:=UInt8.ofNat (48+d)
def decS(n:Nat):List UInt8:=if n≤9 then [dig n] else decS (n / 10)++[dig (n % 10)]
termination_by n
decreasing_by omega
theorem ZiE(W:World)(d:Nat)(hd:d≤9):(convert 63 9 (.slice (some ⟨W.heap.size,0,none⟩) 1 1)).run Tryz.prog (W.alloc (.cells #[.int .u8 ((48:Int)+d)] 5))=.ok (.string ⟨#[dig d]⟩) (W.alloc (.cells #[.int .u8 ((48:Int)+d)] 5)):=by
 refine run_convert_bytes_back _ _ _ 5 ⟨W.heap.size,0,none⟩ 1 [dig d] Tryz.underlying63 Tryz.underlying5 Tryz.underlying9 ?_
 intro j hj
 obtain rfl:j=0:=by simp at hj;omega
 rw[Zdy]
 have h:=Go.Deep.blk_alloc_new W (.cells #[.int .u8 ((48:Int)+d)] 5)
 simp only[World.cell?,h]
 have e:((dig d).toNat:Int)=48+d:=by
  have:(dig d).toNat=48+d:=by unfold dig;simp;omega
  omega
 simp[e]
theorem ZgM{n:Nat}(h:n≤9):decS n=[dig n]:=by rw[decS,if_pos h]
theorem ZgL{n:Nat}(h:¬n≤9):decS n=decS (n / 10)++[dig (n % 10)]:=by rw[decS,if_neg h]
set_option maxRecDepth 100000 in
set_option maxHeartbeats 1000000 in
theorem ZiJ(n:Nat)(w:World)(hn:n≤1000000000) :
  Calls Tryz.prog 53 #[.int .i64 n] w fun e w'=>∃r:ByteArray,e=.returned (.string r)∧r.size≤1000000001∧Hid (bl r=decS n)∧Below w.heap.size w w':=by
 go_enter Tryz.func53,Tryz.ntmps53
 go_wp2
 go_loopw [0,3] (fun v sv wr=>∃(m:Nat) (r:ByteArray),v=.int .i64 m∧sv=.string r∧r.size+m≤n∧Hid (decS n=decS m++bl r)∧Below w.heap.size w wr) (fun v _ _=>(intOf v).toNat)
 case atStart=>exact⟨n,⟨#[]⟩,rfl,rfl,Nat.le_of_eq (Nat.zero_add n),hid (by simp[bl]),Below.refl _ _⟩
 case round=>
  obtain⟨m,r,rfl,rfl,hr,HD,hb⟩:=hrel
  have hsz:=hb.size
  by_cases h9:m≤9
  ·have hcv:=ZiE wr m h9
   have HF:Hid (bl (⟨#[dig m]⟩++r)=decS n):=hid (by rw[Ziq,HD.out,ZgM h9];rfl)
   have e1:(⟨#[dig m]⟩:ByteArray).size=1:=rfl
   have a1:∀W,(Op.stringOp .add ⟨#[dig m]⟩ r).run Tryz.prog W=.ok (.string (⟨#[dig m]⟩++r)) W:=fun W=>run_string_add_sum W _ _ (by omega)
   have hfin:(⟨#[dig m]⟩++r).size≤1000000001:=by simp only[ByteArray.size_append];omega
   have hg9:¬(9<(m:Int)):=by omega
   go_wp2
   go_ret
   exact⟨_,rfl,hfin,HF,(by repeat first|exact Below.refl _ _|assumption|refine Below.alloc ?_ ?_ _|refine Below.setCell ?_ ?_ _|refine Zk ?_ _|refine Below.drew ?_|omega|(simp;omega)|simp)⟩
  ·have hcv:=ZiE wr (m % 10) (by omega)
   rw[show((m % 10:Nat):Int)=(m:Int) % 10 from by omega]at hcv
   have HF:Hid (decS n=decS (m / 10)++bl (⟨#[dig (m % 10)]⟩++r)):=hid (by rw[Ziq,HD.out,ZgL h9,List.append_assoc];rfl)
   have e1:(⟨#[dig (m % 10)]⟩:ByteArray).size=1:=rfl
   have a1:∀W,(Op.stringOp .add ⟨#[dig (m % 10)]⟩ r).run Tryz.prog W=.ok (.string (⟨#[dig (m % 10)]⟩++r)) W:=fun W=>run_string_add_sum W _ _ (by omega)
   have hfin:(⟨#[dig (m % 10)]⟩++r).size+m / 10≤n:=by simp only[ByteArray.size_append];omega
   have hg9:9<(m:Int):=by omega
   go_wp2
   go_roundw
   case rel=>exact⟨m / 10,_,by simp,rfl,hfin,HF,(by repeat first|exact Below.refl _ _|assumption|refine Below.alloc ?_ ?_ _|refine Below.setCell ?_ ?_ _|refine Zk ?_ _|refine Below.drew ?_|omega|(simp;omega)|simp)⟩
   case measure=>simp[intOf];omega
theorem ZmI(a b:List UInt8)(l:List (List UInt8)):commas (a::b::l)=a++44::commas (b::l):=rfl
theorem ZiB:∀(l:List (List UInt8)),(commas l).length≤nw l
 | []=>Nat.le_refl _
 | [a]=>by simp[commas,nw]
 | a :: b :: l => by
   have:=ZiB (b::l)
   rw[ZmI,List.length_append,List.length_cons]
   simp only[nw]at *
   omega
theorem ZmJ(l:List (List UInt8))(a:List UInt8):commas (l++[a])=(if l.isEmpty then [] else commas l++[44])++a:=by
 induction l with
 | nil=>rfl
 | cons b l ih=>
  cases l with
  | nil=>simp[commas]
  | cons c l=>
   have e:commas (b::c::l++[a])=b++44::commas (c::l++[a]):=rfl
   rw[e,ih]
   simp[commas]
end Go.Proofs.YtpbemaaghbbocaaGreatDoor
namespace Go.Proofs.YtpbemaaghbbocaaGreatDoor.LS
open Go Go.RowKit
abbrev Lab:=List UInt8×List UInt8
abbrev El:=List Lab×Int
structure Ser where
 name:List UInt8
 labs:List Lab
 sams:List (Int×Int)
inductive VV where
 | sc (n:Int)
 | vec (l:List El)
def lab1(p:Lab):List UInt8:=p.1++[61]++p.2
def wrt(l:List Lab):List UInt8:=Go.Proofs.YtpbemaaghbbocaaGreatDoor.LS.commas (l.map lab1)
def cutV(n:Int):Int:=if 1000000000<n then 1000000000 else if n < -1000000000 then -1000000000 else n
def Zbu:List El→El→List El
 | [],x=>[x]
 | y::l,x=>if Op.bytesLess (wrt x.1) (wrt y.1)then x::y::l else y::Zbu l x
def Zce:List Lab→List UInt8→List UInt8
 | [],_=>[]
 | p::l,n=>if p.1=n then p.2 else Zce l n
def Zb9(s:Ser)(c:List UInt8×List UInt8×Bool):Bool:=!((decide (Zce s.labs c.1=c.2.1)) == c.2.2)
def Zby(a:Nd)(s:Ser):Bool:=a.conds.all (Zb9 s) && decide (a.name=s.name)
def ZF(l:List (Int×Int))(n t:Int):List (Int×Int):=l.filter fun x=>decide (t - n<x.1) && decide (x.1≤t)
def maxL:Int→List Int→Int
 | m,[]=>m
 | m,x::l=>maxL (if m<x then x else m) l
def minL:Int→List Int→Int
 | m,[]=>m
 | m,x::l=>minL (if x<m then x else m) l
def ZbO(op:Nat)(l:List Int):Int:=
 if op=0 then l.sum else if op=1 then maxL (l.headD 0) l else if op=2 then minL (l.headD 0) l else if op=3 then (l.length:Int)else l.getLastD 0 - l.headD 0
def oneV(op:Option Nat)(l:List (Int×Int)):Int:=match op with
 | none=>(l.getLastD (0,0)).2
 | some o=>cutV (ZbO o (l.map (·.2)))
def ZbA(st:List Ser)(a:Nd)(op:Option Nat)(size t:Int):List El:=
 st.foldl (fun acc s=>if Zby a s && !(ZF s.sams size t).isEmpty then Zbu acc (s.labs,oneV op (ZF s.sams size t))else acc) []
def twoV(op:Nat)(a b:Int):Int:=if op=0 then cutV (a+b)else if op=1 then cutV (a - b)else if op=2 then cutV (a*b)else if b=0 then 0 else a.tdiv b
def Zdz(op:Nat):VV→VV→VV
 | .sc a,.sc b=>.sc (twoV op a b)
 | .sc a,.vec y=>.vec (y.map fun e=>(e.1,twoV op a e.2))
 | .vec x,.sc b=>.vec (x.map fun e=>(e.1,twoV op e.2 b))
 | .vec x,.vec y=>.vec (x.flatMap fun e=>(y.filter fun f=>decide (wrt e.1=wrt f.1)).map fun f=>(e.1,twoV op e.2 f.2))
def negV:VV→VV
 | .sc a=>.sc (-a)
 | .vec x=>.vec (x.map fun e=>(e.1,-e.2))
def Zu(l:List Lab)(by_:List (List UInt8)):List Lab:=l.filter fun p=>by_.contains p.1
def Zbc(op:Nat)(by_:List (List UInt8))(all:List El):List El→List El→List El
 | _,[]=>[]
 | pre,e::l=>(if pre.any (fun f=>decide (wrt (Zu f.1 by_)=wrt (Zu e.1 by_)))then [] else [(Zu e.1 by_,cutV (ZbO op ((all.filter fun f=>decide (wrt (Zu f.1 by_)=wrt (Zu e.1 by_))).map (·.2))))])++Zbc op by_ all (pre++[e]) l
def Zcx(op:Nat)(by_:List (List UInt8))(l:List El):List El:=(Zbc op by_ l [] l).foldl Zbu []
def ZcJ:VV→List El
 | .sc _=>[]
 | .vec l=>l
def sayT(st:List Ser)(t:Int):Tr→VV
 | .nil=>.vec []
 | .node _ _ a l r => if a.kind = 0 then .sc a.n else if a.kind = 1 then .vec (ZbA st a none 10 t) else if a.kind = 2 then .vec (ZbA st a (some a.op) a.n t)
   else if a.kind=3 then negV (sayT st t l)else if a.kind=5 then .vec (Zcx a.op a.by_ (ZcJ (sayT st t l)))
   else if a.kind=6 then (if (ZcJ (sayT st t l)).isEmpty then sayT st t r else sayT st t l)else Zdz a.op (sayT st t l) (sayT st t r)
def decI(n:Int):List UInt8:=if n<0 then [45]++decS n.natAbs else decS n.toNat
def elS(e:El):List UInt8:=[32,123]++wrt e.1++[125]++decI e.2
def Zdh(t:Int):VV→List UInt8
 | .sc n=>decI t++[32]++decI n
 | .vec l=>decI t++(l.map elS).flatten
end Go.Proofs.YtpbemaaghbbocaaGreatDoor.LS

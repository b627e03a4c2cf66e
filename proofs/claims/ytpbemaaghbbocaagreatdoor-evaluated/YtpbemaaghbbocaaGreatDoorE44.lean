/- Parts. -/
import Derived.Test.YtpbemaaghbbocaaGreatDoorE43
import Derived.Test.YtpbemaaghbbocaaGreatDoorE41
import Derived.Test.YtpbemaaghbbocaaGreatDoorE40
import Derived.Test.YtpbemaaghbbocaaGreatDoorE15
import Derived.Test.YtpbemaaghbbocaaGreatDoorE38
import Derived.Lib.SmallJoins
import Derived.OpenShut
namespace Go.Proofs.YtpbemaaghbbocaaGreatDoor
open Go.RowKit LS
theorem Zkw:∀(xs:List (List UInt8)) (last:Int) (n m:Nat),ZR last n xs=some m→(∀x∈xs.map smV,last<x.1)∧TmS (xs.map smV)∧m=n+xs.length
 | [], last, n, m, h => by
   simp only[ZR,Option.some.injEq]at h
   exact⟨(fun x hx=>by cases hx),List.Pairwise.nil,by simp[h]⟩
 | x :: xs, last, n, m, h => by
   unfold ZR at h
   cases hs:ZbX x with
   | none=>rw[hs]at h;cases h
   | some t=>
     rw[hs]at h
     simp only at h
     split at h
     · cases h
     · rename_i hlt
       obtain⟨i1,i2,i3⟩:=Zkw xs t (n+1) m h
       have hx1:(smV x).1=(t:Int):=by
         unfold ZbX at hs
         unfold smV
         cases hc:cut 58 x with
         | none=>rw[hc]at hs;cases hs
         | some p=>
           obtain⟨a,d⟩:=p
           rw[hc]at hs
           simp only at hs ⊢
           cases hn:ZC 1000000 a with
           | none=>rw[hn]at hs;cases hs
           | some tm=>
             rw[hn]at hs
             simp only at hs
             split at hs
             · rw[Zdp hn];injection hs with hs;rw[hs]
             · cases hs
       refine⟨fun y hy=>?_,?_,by simp;omega⟩
       · rcases List.mem_cons.1 hy with rfl|hy
         · rw[hx1];omega
         · have:=i1 y hy;omega
       · exact List.pairwise_cons.2 ⟨fun y hy=>by rw[hx1];exact i1 y hy,i2⟩
theorem ZrN{z:List UInt8}{n:Nat}(h:Zbe z=some n):TmS (ZcQ z)∧(ZcQ z).length=n:=by
 unfold Zbe at h
 cases z with
 | nil=>simp at h;exact⟨List.Pairwise.nil,by simp[ZcQ,h]⟩
 | cons c t=>
  by_cases hc:(c == 32)=true
  ·have hs:ZT 32 (c::t)=(t,true):=if_pos hc
   rw[hs]at h
   simp only[reduceCtorEq,if_false,if_true]at h
   obtain⟨_,h2,h3⟩:=Zkw _ _ _ _ h
   exact⟨h2,by simp[ZcQ,h3]⟩
  ·have hs:ZT 32 (c::t)=(c::t,false):=if_neg hc
   rw[hs]at h
   simp at h
theorem Zhh{l nm ins:List UInt8}{n:Nat}(h:line l=some (nm,ins,n)):Zx nm=true∧(ZY ins).isSome=true∧TmS (Zbm l)∧(Zbm l).length=n:=by
 cases hc:cut 123 l with
 | none=>rw[Zfi hc]at h;cases h
 | some p=>
  obtain⟨x,r⟩:=p
  cases hc2:cut 125 r with
  | none=>rw[ZeJ hc hc2]at h;cases h
  | some q=>
   obtain⟨y,z⟩:=q
   rw[ZeK hc hc2]at h
   split at h
   ·rename_i hb
    rw[Bool.and_eq_true]at hb
    cases hs:Zbe z with
    | none=>rw[hs]at h;cases h
    | some k=>
     rw[hs]at h
     simp only[Option.map_some,Option.some.injEq,Prod.mk.injEq]at h
     obtain⟨rfl,rfl,rfl⟩:=h
     have:=ZrN hs
     rw[Zkx hb.1 hc hc2]
     exact⟨hb.1,hb.2,this⟩
   ·cases h
theorem ZrJ{w:World}{sa:Option Addr}{sc n:Nat}{l:List (Int×Int)}(h:w.ownsRow 0 313 2 (.slice sa n sc) n (ZK l))(hn:l.length=n):SamV w sa l∧n≤sc:=by
 by_cases hz:l=[]
 ·subst hz
  refine⟨Or.inl rfl,?_⟩
  rw[←hn];exact Nat.zero_le _
 ·have hp:0<n:=by rw[←hn];exact List.length_pos_iff.2 hz
  rcases h.2 with ⟨_,e⟩|⟨g,cap,cur,e,_,h3,h4,_,_,h7⟩
  ·omega
  ·injection e with e1 _ e3
   subst e1 e3
   refine⟨Or.inr ⟨g,0,rfl,cur,(0,0),h3,fun j hj=>?_⟩,h4⟩
   have hg:=Zfa l j
   rw[List.getElem?_eq_getElem hj]at hg
   have hc : ∀ i, i < n * 2 → cur[i]? = (ZK l)[i]? := fun i hi => by
     rw[←h7,List.getElem?_take,if_pos hi,Array.getElem?_toList]
   rw[Nat.zero_add,hc _ (by omega),hc _ (by omega)]
   exact hg
theorem ZnA(zs:List Srs)(rs:List (Value×Value×Value×Value))(hl:rs.length=zs.length)(h:∀j (hj:j<zs.length),rs[j]?=some (.string zs[j].nm,.slice zs[j].a zs[j].n zs[j].c,.string zs[j].tx,.slice zs[j].sa zs[j].sams.length zs[j].sc)):encS zs=Zbw rs:=by
 induction zs generalizing rs with
 | nil => cases rs with
   | nil=>rfl
   | cons _ _=>simp at hl
 | cons z zs ih=>
  cases rs with
  | nil=>simp at hl
  | cons r rs=>
   have h0:=h 0 (by simp)
   simp only[List.getElem?_cons_zero,List.getElem_cons_zero,Option.some.injEq]at h0
   subst h0
   rw[Zbw,←ih rs (by simpa using hl) (fun j hj=>by have:=h (j+1) (by simp;omega);simpa using this)]
   rfl
theorem Zn0(rs:List (Value×Value×Value×Value)):(Zbw rs).length=rs.length*4:=by
 induction rs with
 | nil=>rfl
 | cons r rs ih=>simp only[Zbw,List.length_cons,ih];omega
theorem ZpJ{l:List UInt8}{es:List Entry}(h:(ZD l).1=0)(he:ZI 0 [] (split 10 l)=.inr es):Zbp [] es=none∧l.length≤6000:=by
 unfold ZD at h
 split at h
 ·cases h
 ·rename_i h6
  rw[he]at h
  simp only at h
  rw[ZkU he]at h
  cases hd:Zbp [] es with
  | none=>exact⟨rfl,by omega⟩
  | some i=>rw[hd]at h;cases h
theorem ZfF.sto{w:World}{v:Value}{l:List UInt8}(h0:(ZD l).1=0)(h:ZfF w v l):∃ss:List Srs,StoP w v ss∧ss.map Srs.ser=Zde l∧Dst (ss.map Srs.ser)∧ss.length≤30:=by
 obtain⟨es,rs,h1,h2,h3,h5⟩:=h
 obtain⟨hd,hll⟩:=ZpJ h0 h1
 have h7 : ∀ j (hj : j < es.length), (es[j]).count ≤ 6001 := fun j hj => (Zhj h1 (by simp) (fun p hp => by
   obtain⟨i,hi,rfl⟩:=List.mem_iff_getElem.1 hp
   have:=Zei 10 l i hi
   rw[List.getD_eq_getElem?_getD,List.getElem?_eq_getElem hi,Option.getD_some]at this
   omega)).2 _ (List.getElem_mem hj)
 have hrl:rs.length=es.length:=by have:=h3.1;rw[Zn0]at this;omega
 have hch := ZgF (fun j (z : Srs) => ∃ hj : j < es.length, rs[j]? = some (.string z.nm, .slice z.a z.n z.c, .string z.tx, .slice z.sa z.sams.length z.sc) ∧ z.ser = serE (split 10 l) es[j] ∧ SrsOk w z) es.length (fun j hj => by
   obtain⟨nm,a,n,c,tx,sa,sc,e1,⟨ins,qs,g1,g2,g3,g4,g5⟩,e3⟩:=h5 j hj
   rw[e3]at g1
   simp only[Option.some.injEq,Prod.mk.injEq]at g1
   obtain⟨b1,b2,_⟩:=g1
   obtain⟨c1,c2,c3,c4⟩:=Zhh e3
   have hn:n=qs.length:=by obtain⟨_,_,e⟩:=Zj g3.1;injection e
   obtain⟨s1,s2⟩:=ZrJ g5 c4
   have hlen:(qs.map blP).length≤6001:=by rw[List.length_map];exact g3.2.1
   refine⟨⟨nm,a,n,c,tx,qs,sa,sc,Zbm ((split 10 l).getD (es[j]).at_ [])⟩,hj,?_,?_,?_⟩
   · show rs[j]?=some (.string nm,.slice a n c,.string tx,.slice sa (Zbm ((split 10 l).getD (es[j]).at_ [])).length sc)
     rw[e1,c4]
   · show(⟨bl nm,qs.map blP,Zbm ((split 10 l).getD (es[j]).at_ [])⟩:Ser)=⟨(es[j]).name,(ZY (es[j]).inside).getD [],Zbm ((split 10 l).getD (es[j]).at_ [])⟩
     rw[b1,b2,g2];rfl
   · exact⟨⟨by rw[hn];rw[hn]at g3;exact g3,by rw[g4];exact Zg9 qs,Zo9 g2 hlen⟩,s1,c3,by show(Zbm _).length≤_;rw[c4];exact h7 j hj,by show(Zbm _).length≤_;rw[c4];exact s2,Zky _⟩)
 obtain⟨zs,hz1,hz2⟩:=hch
 have hst:Zde l=es.map (serE (split 10 l)):=by unfold Zde;rw[h1]
 have hsr:zs.map Srs.ser=Zde l:=by
  rw[hst]
  refine List.ext_getElem (by rw[List.length_map,List.length_map,hz1]) (fun j h1' h2'=>?_)
  rw[List.getElem_map,List.getElem_map]
  exact(hz2 j (by simpa using h1')).2.2.1
 refine⟨zs,⟨?_,fun z hz=>?_,by omega⟩,hsr,?_,by omega⟩
 ·have:=ZnA zs rs (by rw[hrl,hz1]) (fun j hj=>(hz2 j hj).2.1)
  rw[this,hz1];exact h3
 ·obtain⟨j,hj,rfl⟩:=List.mem_iff_getElem.1 hz
  exact(hz2 j hj).2.2.2
 ·rw[hsr,hst]
  unfold Dst
  rw[List.pairwise_map]
  refine List.Pairwise.imp_of_mem ?_ (ZgN es [] hd).1
  intro a b ha hb hne hh
  obtain⟨i,hi,rfl⟩:=List.mem_iff_getElem.1 ha
  obtain⟨k,hk,rfl⟩:=List.mem_iff_getElem.1 hb
  obtain⟨_,_,_,_,_,_,_,_,_,e1⟩:=h5 i hi
  obtain⟨_,_,_,_,_,_,_,_,_,e2⟩:=h5 k hk
  obtain⟨n1,l1,_⟩:=Zhh e1
  obtain⟨n2,l2,_⟩:=Zhh e2
  obtain⟨p1,l1⟩:=Option.isSome_iff_exists.1 l1
  obtain⟨p2,l2⟩:=Option.isSome_iff_exists.1 l2
  refine hne ((Zg7 n1 n2).2 ⟨hh.1,?_⟩)
  have hw:=hh.2
  unfold serE at hw
  simp only[l1,l2,Option.getD_some]at hw
  rw[Zgs l1,Zgs l2]at hw
  exact hw
theorem Zru{l:List UInt8}{t:Tr}(h:Zbd l=.ok t):wfT t∧isNil t=false∧wT t≤100000:=by
 unfold Zbd at h
 by_cases hl:300<l.length
 ·rw[if_pos hl]at h;cases h
 ·rw[if_neg hl]at h
  have h1:=Zf7 l (l.length+1) 0 (Nat.zero_le _)
  have h2:=Zhe l (by omega) (l.length+1) 0
  cases hp:Zi (10*(ZM l (l.length+1) 0).length+5) false 0 .nil (ZM l (l.length+1) 0) 0 with
  | error e=>rw[hp]at h;cases h
  | ok z=>
   obtain⟨t',r⟩:=z
   rw[hp]at h
   have hw:=ZeR _ _ _ _ _ _ _ (fun e=>by cases e) hp
   simp only at h
   by_cases h0:(hd r).kind=0
   ·rw[if_pos h0]at h
    by_cases hk:Zc t'=0
    ·rw[if_pos hk]at h;cases h
    ·rw[if_neg hk]at h
     injection h with h
     subst h
     refine⟨hw.1,hw.2.1,?_⟩
     have h3:=hw.2.2
     rw[if_neg (by decide)]at h3
     simp only at h3
     omega
   ·rw[if_neg h0]at h;cases h
theorem Vars.sents{w:World}{A:Nat→Addr}{m:Int}(h:Vars w A m):Sents w (A 0) (A 1) (A 2) (A 3):=
 ⟨h.sent _ (by decide),h.sent _ (by decide),h.sent _ (by decide),h.sent _ (by decide)⟩
theorem Zb2.cells{w:World}{v:Value}{p:Int}{a:Addr}(h:Zb2 w v p a):∃fa:Nat,v=.iface 94 (.pointer (some ⟨fa,0,none⟩))∧w.cell? ⟨fa,1,none⟩=some (.int .i64 p)∧w.cell? ⟨fa,2,none⟩=some (.iface 389 (.pointer (some a))):=by
 obtain⟨fa,h1,h2⟩:=h
 exact⟨fa,h1,by simp[World.cell?,h2],by simp[World.cell?,h2]⟩
def Zel(w:World)(A:Nat→Addr)(err:Value)(c p:Nat):Prop:=
 (err=.nilIface∧c=0∧p=0)∨
 (err=.iface 389 (.pointer (some (A 0)))∧c=1∧p=0)∨
 (err=.iface 389 (.pointer (some (A 3)))∧c=4∧p=0)∨
 (err=.iface 389 (.pointer (some (A 6)))∧c=7∧p=0)∨
 (err=.iface 389 (.pointer (some (A 7)))∧c=8∧p=0)∨
 (∃fa:Nat,err=.iface 94 (.pointer (some ⟨fa,0,none⟩))∧w.cell? ⟨fa,1,none⟩=some (.int .i64 p)∧
  ((c=2∧w.cell? ⟨fa,2,none⟩=some (.iface 389 (.pointer (some (A 1)))))∨
   (c=3∧w.cell? ⟨fa,2,none⟩=some (.iface 389 (.pointer (some (A 2)))))∨
   (c=5∧w.cell? ⟨fa,2,none⟩=some (.iface 389 (.pointer (some (A 4)))))∨
   (c=6∧w.cell? ⟨fa,2,none⟩=some (.iface 389 (.pointer (some (A 5)))))))
theorem Zel.rd{w:World}{A:Nat→Addr}{r:Except (Nat×Nat) Tr}{x:Nat×Nat}{pv v:Value}(hr:r=.error x)(h:RdIs w (A 0) (A 1) (A 2) (A 3) r pv v):Zel w A v x.1 x.2∧∃ty u,v=.iface ty u:=by
 subst hr
 rcases h with ⟨rfl,rfl⟩|⟨rfl,rfl⟩|⟨hx,he⟩|⟨hx,he⟩
 ·exact⟨Or.inr (Or.inl ⟨rfl,rfl,rfl⟩),_,_,rfl⟩
 ·exact⟨Or.inr (Or.inr (Or.inl ⟨rfl,rfl,rfl⟩)),_,_,rfl⟩
 ·obtain⟨fa,rfl,h1,h2⟩:=he.cells
  exact⟨Or.inr (Or.inr (Or.inr (Or.inr (Or.inr ⟨fa,rfl,h1,Or.inl ⟨hx,h2⟩⟩)))),_,_,rfl⟩
 ·obtain⟨fa,rfl,h1,h2⟩:=he.cells
  exact⟨Or.inr (Or.inr (Or.inr (Or.inr (Or.inr ⟨fa,rfl,h1,Or.inr (Or.inl ⟨hx,h2⟩)⟩)))),_,_,rfl⟩
theorem Zel.ld{w:World}{A:Nat→Addr}{v:Value}{r:Nat×Nat}(h:ZeB w A v r):(r.1=0∧v=.nilIface)∨(r.1≠0∧Zel w A v r.1 r.2∧∃ty u,v=.iface ty u):=by
 rcases h with ⟨rfl,rfl⟩|⟨rfl,rfl⟩|⟨rfl,rfl⟩|⟨i,fa,rfl,rfl,h1,h2⟩|⟨i,fa,rfl,rfl,h1,h2⟩
 ·exact Or.inl ⟨rfl,rfl⟩
 ·exact Or.inr ⟨by simp,Or.inr (Or.inl ⟨rfl,rfl,rfl⟩),_,_,rfl⟩
 ·exact Or.inr ⟨by simp,Or.inr (Or.inr (Or.inr (Or.inl ⟨rfl,rfl,rfl⟩))),_,_,rfl⟩
 ·exact Or.inr ⟨by simp,Or.inr (Or.inr (Or.inr (Or.inr (Or.inr ⟨fa,rfl,h1,Or.inr (Or.inr (Or.inl ⟨rfl,h2⟩))⟩)))),_,_,rfl⟩
 ·exact Or.inr ⟨by simp,Or.inr (Or.inr (Or.inr (Or.inr (Or.inr ⟨fa,rfl,h1,Or.inr (Or.inr (Or.inr ⟨rfl,h2⟩))⟩)))),_,_,rfl⟩
theorem Zss(s:ByteArray)(A:Nat→Addr)(m:Int)(w:World)(hv:Vars w A m)(hs:s.size≤maxLen) :
  Calls Tryz.prog 24 #[.string s] w fun e w'=>∃sv err,e=.returned (.tuple #[sv,err])∧Hid (ZeB w' A err (ZD (bl s)))∧Below w.heap.size w w'∧Hid ((ZD (bl s)).1=0→ZfF w' sv (bl s)):=by
 by_cases h:s.size≤6000
 ·exact ZrC s A m w hv h
 ·have e:ZD (bl s)=(1,0):=by unfold ZD;rw[if_pos (by rw[Zg];omega)]
  rw[e]
  refine(ZrB s A m w hv (by omega) hs).mono ?_
  rintro e' w' ⟨v,err,h1,h2,h3⟩
  exact⟨v,err,h1,h2,h3,hid (fun h=>by cases h)⟩
set_option linter.unusedSimpArgs false in
set_option maxRecDepth 100000 in
set_option maxHeartbeats 8000000 in
theorem ZnF(q s:ByteArray)(f l st:Int)(A:Nat→Addr)(m:Int)(w:World)(hv:Vars w A m)(ht:Zb3 w)(hB:20≤w.heap.size)(hq:q.size≤9223372036854775807)(hs:s.size≤maxLen) :
  Calls Tryz.prog 23 #[.string q,.string s,.agg #[.int .i64 f,.int .i64 l,.int .i64 st]] w fun e w'=>∃(r:ByteArray) (err:Value) (c p:Nat),e=.returned (.tuple #[.string r,err])∧Hid (Zel w' A err c p)∧Hid (Zca (bl q) (bl s) f l st=(bl r,c,p))∧Below w.heap.size w w':=by
 have HRD:Hid (∀W,Below w.heap.size w W→Calls Tryz.prog 19 #[.string q] W _):=hid (fun W hb=>ZrI q W hq (hv.below hb).sents)
 have HLD:Hid (∀W,Below w.heap.size w W→Calls Tryz.prog 24 #[.string s] W _):=hid (fun W hb=>Zss s A m W (hv.below hb) hs)
 have HTD:Hid (∀W,Below w.heap.size w W→Calls Tryz.prog 40 #[.agg #[.int .i64 f,.int .i64 l,.int .i64 st]] W _):=hid (fun W hb=>Zq6 f l st (A 7) W ((hv.below hb).sent _ (by decide)))
 have HT:Hid (Zb3 w):=ht
 have HBn:Hid (20≤w.heap.size):=hB
 clear hv ht hB hq hs
 go_enter Tryz.func23,Tryz.ntmps23
 go_wp2_with fail
 refine Zbf fun W hW=>?_
 have hbW:Below w.heap.size w W:=by rw[hW];exact Zbal
 have HBX:Hid (BAt W w.heap.size [.int .i64 f,.int .i64 l,.int .i64 st] 23):=hid (by rw[hW];exact Go.Deep.blk_alloc_new _ _)
 refine(HRD.out W hbW).mono ?_
 rintro e w1 ⟨pv,v,rfl,hres,hb1⟩
 have HB1:Hid (Below w.heap.size w w1):=hid (hbW.trans (hb1.mono hbW.size))
 have HBX1:=hid (HBX.below hb1)
 clear hb1 HRD hbW hW HBX
 cases hq:Zbd (bl q)with
 | error x=>
  obtain⟨he,ty,u,rfl⟩:=Zel.rd hq hres.out
  have HE:=hid he
  have HQ:Hid (Zca (bl q) (bl s) f l st=([],x.1,x.2)):=hid (by unfold Zca;rw[hq])
  clear hres hq he
  go_wp2
  go_ret2
  exact⟨_,_,_,_,rfl,HE,HQ,HB1.out⟩
 | ok t=>
  rw[hq]at hres
  obtain⟨rfl,hpv⟩:=hres.out
  obtain⟨ty,u,rfl⟩:=hpv.shape
  have HPV:=hid hpv
  have HWF:=hid (Zru hq)
  have HWN:=hid (Zkq hq)
  have HEQ:Hid (∀x,(if (ZD (bl s)).1≠0 then ([],(ZD (bl s)).1,(ZD (bl s)).2)else match ZbY f l st with
   | none=>([],8,0)
   | some ts=>(Z9 (ts.map (Zbx (Zde (bl s)) t)),0,0))=x→Zca (bl q) (bl s) f l st=x):=hid (fun x hx=>by unfold Zca;rw[hq];exact hx)
  clear hres hq hpv
  go_wp2_with fail
  refine(HLD.out w1 HB1.out).mono ?_
  rintro e w2 ⟨sv,err,rfl,HLE,hb2,HRV⟩
  have HB2:Hid (Below w.heap.size w w2):=hid (HB1.trans (hb2.mono HB1.size))
  have HPV2:=hid (HPV.keepsC (Zv.below hb2))
  have HBX2:=hid (HBX1.below hb2)
  clear hb2 HLD HBX1 HPV HB1
  rcases Zel.ld HLE.out with ⟨h0,rfl⟩|⟨h0,he,ty',u',rfl⟩
  ·obtain⟨ss,hsto,hser,hdst,hlen⟩:=(HRV.out h0).sto h0
   obtain⟨sa,scp,rfl⟩:=Zj hsto.row
   have HSP:=hid hsto
   have HSR:=hid hser
   have HDS:=hid hdst
   have HLN:=hid hlen
   have H0:=hid h0
   clear HLE HRV hsto hser hdst hlen h0
   have x0:=HBX2.cell 0
   have x1:=HBX2.cell 1
   have x2:=HBX2.cell 2
   simp only[Zget]at x0 x1 x2
   go_wp2_with fail
   clear x0 x1 x2
   refine(HTD.out w2 HB2.out).mono ?_
   rintro e w3 ⟨tv,ev,rfl,HTP,hb3⟩
   have HB3:Hid (Below w.heap.size w w3):=hid (HB2.trans (hb3.mono HB2.size))
   have HPV3:=hid (HPV2.keepsC (Zv.below hb3))
   have HSP3:=hid (HSP.below hb3)
   clear hb3 HTD HPV2 HSP HBX2 HB2
   rcases HTP.out with ⟨h1,rfl,rfl⟩|⟨ts,h1,h2,h3,rfl,h4⟩
   ·have HQ:Hid (Zca (bl q) (bl s) f l st=([],8,0)):=hid (HEQ.out _ (by rw[if_neg (by rw[H0.out];simp),h1]))
    clear HTP h1
    go_wp2
    go_ret2
    exact⟨_,_,8,0,rfl,hid (Or.inr (Or.inr (Or.inr (Or.inr (Or.inl ⟨rfl,rfl,rfl⟩))))),HQ,HB3.out⟩
   ·obtain⟨ta,tcp,rfl⟩:=Zj h4
    have HQ:Hid (Zca (bl q) (bl s) f l st=(Z9 (ts.map (Zbx (ss.map Srs.ser) t)),0,0)):=hid (HEQ.out _ (by rw[if_neg (by rw[H0.out];simp),h1,HSR.out]))
    have HAN:Hid (Calls Tryz.prog 41 #[.iface ty u,.slice sa ss.length scp,.slice ta ts.length tcp] w3 _):=hid (ZlD t ts ss (.iface ty u) (.slice sa ss.length scp) (.slice ta ts.length tcp) w3 h2 h3 h4 HPV3.out HSP3.out
     (fun x mb gb tm a b=>ZhD a b HDS.out HLN.out t HWF.1 HWF.2.2 HWN.1 HWF.2.1 HWN.2)
     (fun tm=>(Zfu HDS.out tm t).mono (by rw[List.length_map];exact HLN.out)) (HT.low HB3.out HBn.out) (Nat.le_trans HBn.out HB3.size))
    clear HTP h1 h2 h3 h4
    go_wp2_with fail
    refine HAN.mono ?_
    rintro e w4 ⟨r4,rfl,HR4,hb4⟩
    have HB4:Hid (Below w.heap.size w w4):=hid (HB3.trans (hb4.mono HB3.size))
    clear hb4 HAN
    go_wp2
    go_ret2
    exact⟨r4,_,0,0,rfl,hid (Or.inl ⟨rfl,rfl,rfl⟩),hid (by rw[HQ.out,HR4.out]),HB4.out⟩
  ·have HE:=hid he
   have HQ:Hid (Zca (bl q) (bl s) f l st=([],(ZD (bl s)).1,(ZD (bl s)).2)):=hid (HEQ.out _ (by rw[if_pos h0]))
   clear HLE HRV he h0
   go_wp2
   go_ret2
   exact⟨_,_,_,_,rfl,HE,HQ,HB2.out⟩
set_option maxRecDepth 100000 in
set_option maxHeartbeats 8000000 in
theorem Zob(q s:ByteArray)(f l st:Int)(A:Nat→Addr)(m:Int)(w:World)(hv:Vars w A m)(ht:Zb3 w)(hB:20≤w.heap.size)(hq:q.size≤9223372036854775807)(hs:s.size≤maxLen) :
  Calls Tryz.prog 10 #[.string q,.string s,.agg #[.int .i64 f,.int .i64 l,.int .i64 st]] w fun e w'=>∃(r:ByteArray) (c p:Nat),e=.returned (.tuple #[.string r,.int .i64 c,.int .i64 p])∧Hid (Zca (bl q) (bl s) f l st=(bl r,c,p))∧Below w.heap.size w w':=by
 have HV:Hid (Vars w A m):=hv
 have HE:Hid (∀W,Below w.heap.size w W→Calls Tryz.prog 23 #[.string q,.string s,.agg #[.int .i64 f,.int .i64 l,.int .i64 st]] W _):=hid (fun W hb=>ZnF q s f l st A m W (hv.below hb) (ht.low hb hB) (Nat.le_trans hB hb.size) hq hs)
 clear hv ht hB hq hs
 go_enter Tryz.func10,Tryz.ntmps10
 go_wp2_with fail
 refine Zbf fun W hW=>?_
 have hbW:Below w.heap.size w W:=by rw[hW];exact Zbal
 refine(HE.out W hbW).mono ?_
 rintro e w1 ⟨r,err,c,p,rfl,HER,HQ,hb1⟩
 have HB1:Hid (Below w.heap.size w w1):=hid (hbW.trans (hb1.mono hbW.size))
 have HV1:=hid (HV.below HB1.out)
 clear hb1 hbW hW HE HV
 rcases HER.out with ⟨rfl,rfl,rfl⟩|⟨rfl,rfl,rfl⟩|⟨rfl,rfl,rfl⟩|⟨rfl,rfl,rfl⟩|⟨rfl,rfl,rfl⟩|⟨fa,rfl,h1,h⟩
 ·clear HER
  go_wp2_with fail
  refine(Zqg A m _ HV1.out).mono ?_
  rintro e wq ⟨rfl,rfl⟩
  go_wp2_with fail
  refine(ZqP _).mono ?_
  rintro e w2 ⟨rfl,hb2⟩
  have HB2:Hid (Below w.heap.size w w2):=hid (HB1.trans (hb2.mono HB1.size))
  clear hb2
  go_wp2
  go_ret3
  exact⟨r,_,_,rfl,HQ,HB2.out⟩
 ·clear HER
  go_wp2_with fail
  refine(Zqe A m _ HV1.out).mono ?_
  rintro e wq ⟨rfl,rfl⟩
  go_wp2_with fail
  refine(Zgb A m _ _ HV1.out).mono ?_
  rintro e w2 ⟨rfl,hb2⟩
  have HB2:Hid (Below w.heap.size w w2):=hid (HB1.trans (hb2.mono HB1.size))
  clear hb2
  go_wp2
  go_ret3
  exact⟨r,_,_,rfl,HQ,HB2.out⟩
 ·clear HER
  go_wp2_with fail
  refine(Zqm A m _ HV1.out).mono ?_
  rintro e wq ⟨rfl,rfl⟩
  go_wp2_with fail
  refine(Zgb A m _ _ HV1.out).mono ?_
  rintro e w2 ⟨rfl,hb2⟩
  have HB2:Hid (Below w.heap.size w w2):=hid (HB1.trans (hb2.mono HB1.size))
  clear hb2
  go_wp2
  go_ret3
  exact⟨r,_,_,rfl,HQ,HB2.out⟩
 ·clear HER
  go_wp2_with fail
  refine(Zqf A m _ HV1.out).mono ?_
  rintro e wq ⟨rfl,rfl⟩
  go_wp2_with fail
  refine(Zgb A m _ _ HV1.out).mono ?_
  rintro e w2 ⟨rfl,hb2⟩
  have HB2:Hid (Below w.heap.size w w2):=hid (HB1.trans (hb2.mono HB1.size))
  clear hb2
  go_wp2
  go_ret3
  exact⟨r,_,_,rfl,HQ,HB2.out⟩
 ·clear HER
  go_wp2_with fail
  refine(Zqk A m _ HV1.out).mono ?_
  rintro e wq ⟨rfl,rfl⟩
  go_wp2_with fail
  refine(Zgb A m _ _ HV1.out).mono ?_
  rintro e w2 ⟨rfl,hb2⟩
  have HB2:Hid (Below w.heap.size w w2):=hid (HB1.trans (hb2.mono HB1.size))
  clear hb2
  go_wp2
  go_ret3
  exact⟨r,_,_,rfl,HQ,HB2.out⟩
 ·have HC1:Hid (w1.cell? ⟨fa,1,none⟩=some (.int .i64 p)):=h1
  clear HER h1
  rcases h with ⟨rfl,h2⟩|⟨rfl,h2⟩|⟨rfl,h2⟩|⟨rfl,h2⟩
  ·have HC2:=hid h2
   clear h2
   go_wp2_with fail
   refine(Zqj A m _ HV1.out fa HC2.out).mono ?_
   rintro e wq ⟨rfl,rfl⟩
   go_wp2_with fail
   refine(Zgc A m fa p _ HV1.out HC1.out).mono ?_
   rintro e w2 ⟨rfl,hb2⟩
   have HB2:Hid (Below w.heap.size w w2):=hid (HB1.trans (hb2.mono HB1.size))
   clear hb2
   go_wp2
   go_ret3
   exact⟨r,_,_,rfl,HQ,HB2.out⟩
  ·have HC2:=hid h2
   clear h2
   go_wp2_with fail
   refine(Zqd A m _ HV1.out fa HC2.out).mono ?_
   rintro e wq ⟨rfl,rfl⟩
   go_wp2_with fail
   refine(Zgc A m fa p _ HV1.out HC1.out).mono ?_
   rintro e w2 ⟨rfl,hb2⟩
   have HB2:Hid (Below w.heap.size w w2):=hid (HB1.trans (hb2.mono HB1.size))
   clear hb2
   go_wp2
   go_ret3
   exact⟨r,_,_,rfl,HQ,HB2.out⟩
  ·have HC2:=hid h2
   clear h2
   go_wp2_with fail
   refine(Zqi A m _ HV1.out fa HC2.out).mono ?_
   rintro e wq ⟨rfl,rfl⟩
   go_wp2_with fail
   refine(Zgc A m fa p _ HV1.out HC1.out).mono ?_
   rintro e w2 ⟨rfl,hb2⟩
   have HB2:Hid (Below w.heap.size w w2):=hid (HB1.trans (hb2.mono HB1.size))
   clear hb2
   go_wp2
   go_ret3
   exact⟨r,_,_,rfl,HQ,HB2.out⟩
  ·have HC2:=hid h2
   clear h2
   go_wp2_with fail
   refine(Zql A m _ HV1.out fa HC2.out).mono ?_
   rintro e wq ⟨rfl,rfl⟩
   go_wp2_with fail
   refine(Zgc A m fa p _ HV1.out HC1.out).mono ?_
   rintro e w2 ⟨rfl,hb2⟩
   have HB2:Hid (Below w.heap.size w w2):=hid (HB1.trans (hb2.mono HB1.size))
   clear hb2
   go_wp2
   go_ret3
   exact⟨r,_,_,rfl,HQ,HB2.out⟩
theorem ZnB (v : Int) (w : World) : Calls Tryz.prog 18 #[.int .i64 v] w fun e w' => e = .returned (.int .i64 v) ∧ w' = w := by
  go_enter Tryz.func18,Tryz.ntmps18
  go_wp2
  go_ret
  exact⟨rfl,rfl⟩
set_option maxHeartbeats 1000000 in
theorem ZnC (f l st : Int) (w : World) : Calls Tryz.prog 17 #[.agg #[.int .i64 f, .int .i64 l, .int .i64 st]] w fun e w' => e = .returned (.agg #[.int .i64 f, .int .i64 l, .int .i64 st]) ∧ Below w.heap.size w w' := by
  go_enter Tryz.func17,Tryz.ntmps17
  go_wp2
  exact bodyPost_ret (v:=.agg #[.int .i64 f,.int .i64 l,.int .i64 st]) (by simp[results,Tryz.results17,go_sem]) rfl ⟨rfl,Zbal.alloc (by simp) _⟩
set_option maxRecDepth 100000 in
set_option maxHeartbeats 8000000 in
theorem ZnE(q s:ByteArray)(f l st:Int)(A:Nat→Addr)(m:Int)(w:World)(hv:Vars w A m)(ht:Zb3 w)(hB:20≤w.heap.size)(hq:q.size≤9223372036854775807)(hs:s.size≤maxLen) :
  Calls Tryz.prog 7 #[.string q,.string s,.agg #[.int .i64 f,.int .i64 l,.int .i64 st]] w fun e w'=>e=.returned (.bool true)∧Below w.heap.size w w':=by
 have HE:Hid (∀W,Below w.heap.size w W→Calls Tryz.prog 10 #[.string q,.string s,.agg #[.int .i64 f,.int .i64 l,.int .i64 st]] W _):=hid (fun W hb=>Zob q s f l st A m W (hv.below hb) (ht.low hb hB) (Nat.le_trans hB hb.size) hq hs)
 have HD:Hid (∀W,Calls Tryz.prog 16 #[.string q,.string s,.agg #[.int .i64 f,.int .i64 l,.int .i64 st]] W _):=hid (fun W=>ZnD q s f l st W hq hs)
 clear hv ht hB hq hs
 go_enter Tryz.func7,Tryz.ntmps7
 go_wp2_with fail
 refine Zbf fun W hW=>?_
 have hbW:Below w.heap.size w W:=by rw[hW];exact Zbal
 have HBX:Hid (BAt W w.heap.size [.int .i64 f,.int .i64 l,.int .i64 st] 23):=hid (by rw[hW];exact Go.Deep.blk_alloc_new _ _)
 refine(HE.out W hbW).mono ?_
 rintro e w1 ⟨r,c,p,rfl,HQ,hb1⟩
 have HB1:Hid (Below w.heap.size w w1):=hid (hbW.trans (hb1.mono hbW.size))
 have HBX1:=hid (HBX.below hb1)
 clear hb1 hbW hW HE HBX
 have x0:=HBX1.cell 0
 have x1:=HBX1.cell 1
 have x2:=HBX1.cell 2
 simp only[Zget]at x0 x1 x2
 go_wp2_with fail
 clear x0 x1 x2
 refine(ZnC f l st _).mono ?_
 rintro e w2 ⟨rfl,hb2⟩
 have HB2:Hid (Below w.heap.size w w2):=hid (HB1.trans (hb2.mono HB1.size))
 clear hb2 HBX1
 go_wp2_with fail
 refine(HD.out w2).mono ?_
 rintro e w3 ⟨r3,c3,p3,rfl,HQ3,hb3⟩
 have HB3:Hid (Below w.heap.size w w3):=hid (HB2.trans (hb3.mono HB2.size))
 have he:=HQ.symm.trans HQ3.out
 injection he with h1 h2
 injection h2 with h2 h3
 obtain rfl:r=r3:=Zd6 h1
 subst h2 h3
 clear HQ HQ3 hb3 h1 HD
 go_wp2_with (go_at_call 18;refine(ZnB _ _).mono ?_;rintro e w' ⟨rfl,rfl⟩)
 go_ret
 exact⟨by simp,HB3.out⟩
set_option maxRecDepth 100000 in
set_option maxHeartbeats 8000000 in
theorem ZnI(q s:ByteArray)(f l st:Int)(q' s':ByteArray)(f' l' st':Int)(A:Nat→Addr)(m:Int)(w:World)(hv:Vars w A m)(htb:Zb3 w)(hB:20≤w.heap.size)(hq:q.size≤9223372036854775807)(hs:s.size≤maxLen)(hq':q'.size≤9223372036854775807)(hs':s'.size≤maxLen) :
  Calls Tryz.prog 3 #[.string q,.string s,.agg #[.int .i64 f,.int .i64 l,.int .i64 st],.string q',.string s',.agg #[.int .i64 f',.int .i64 l',.int .i64 st']] w fun e w'=>e=.returned (.bool true)∧Below w.heap.size w w':=by
 have HS:Hid (∀(q s:ByteArray) (f l st:Int) (w':World),Below w.heap.size w w'→q.size≤9223372036854775807→s.size≤maxLen→Calls Tryz.prog 7 #[.string q,.string s,.agg #[.int .i64 f,.int .i64 l,.int .i64 st]] w' fun e w''=>e=.returned (.bool true)∧Below w'.heap.size w' w''):=hid (fun q s f l st w' hb h1 h2=>ZnE q s f l st A m w' (hv.below hb) (htb.low hb hB) (Nat.le_trans hB hb.size) h1 h2)
 have HQ:=hid hq
 have HZ:=hid hs
 have HQ':=hid hq'
 have HZ':=hid hs'
 clear hv htb hB hq hs hq' hs'
 go_enter Tryz.func3,Tryz.ntmps3
 go_wp2_with fail
 refine Zbf fun W hW=>?_
 have hb1:Below w.heap.size w (w.alloc (.cells #[.int .i64 f,.int .i64 l,.int .i64 st] 23)):=Zbal
 have HBW:Hid (Below w.heap.size w W):=hid (by rw[hW];exact hb1.alloc (by simp) _)
 have HX:Hid (BAt W w.heap.size [.int .i64 f,.int .i64 l,.int .i64 st] 23):=hid (by rw[hW];exact BAt.alloc (Go.Deep.blk_alloc_new _ _) _)
 have HY:Hid (BAt W (w.heap.size+1) [.int .i64 f',.int .i64 l',.int .i64 st'] 23):=hid (by
  rw[hW]
  have:=Go.Deep.blk_alloc_new (w.alloc (.cells #[.int .i64 f,.int .i64 l,.int .i64 st] 23)) (.cells #[.int .i64 f',.int .i64 l',.int .i64 st'] 23)
  rw[Go.Deep.nblk_alloc]at this
  exact this)
 clear hW hb1
 refine(HS.out q s f l st W HBW.out HQ.out HZ.out).mono ?_
 rintro e w1 ⟨rfl,hb1⟩
 have HB1:Hid (Below w.heap.size w w1):=hid (HBW.trans (hb1.mono HBW.size))
 have HX1:=hid (HX.below hb1)
 have HY1:=hid (HY.below hb1)
 clear hb1
 have x0:=HX1.cell 0
 have x1:=HX1.cell 1
 have x2:=HX1.cell 2
 simp only[Zget]at x0 x1 x2
 go_wp2_with fail
 clear x0 x1 x2
 refine(HS.out q' s f l st w1 HB1.out HQ'.out HZ.out).mono ?_
 rintro e w2 ⟨rfl,hb2⟩
 have HB2:Hid (Below w.heap.size w w2):=hid (HB1.trans (hb2.mono HB1.size))
 have HX2:=hid (HX1.below hb2)
 have HY2:=hid (HY1.below hb2)
 clear hb2
 have x0:=HX2.cell 0
 have x1:=HX2.cell 1
 have x2:=HX2.cell 2
 simp only[Zget]at x0 x1 x2
 go_wp2_with fail
 clear x0 x1 x2
 refine(HS.out q s' f l st w2 HB2.out HQ.out HZ'.out).mono ?_
 rintro e w3 ⟨rfl,hb3⟩
 have HB3:Hid (Below w.heap.size w w3):=hid (HB2.trans (hb3.mono HB2.size))
 have HX3:=hid (HX2.below hb3)
 have HY3:=hid (HY2.below hb3)
 clear hb3
 have x0:=HY3.cell 0
 have x1:=HY3.cell 1
 have x2:=HY3.cell 2
 simp only[Zget]at x0 x1 x2
 go_wp2_with fail
 clear x0 x1 x2
 refine(HS.out q s f' l' st' w3 HB3.out HQ.out HZ.out).mono ?_
 rintro e w4 ⟨rfl,hb4⟩
 have HB4:Hid (Below w.heap.size w w4):=hid (HB3.trans (hb4.mono HB3.size))
 have HX4:=hid (HX3.below hb4)
 have HY4:=hid (HY3.below hb4)
 clear hb4
 have x0:=HX4.cell 0
 have x1:=HX4.cell 1
 have x2:=HX4.cell 2
 simp only[Zget]at x0 x1 x2
 go_wp2_with fail
 clear x0 x1 x2
 refine(HS.out q s f l st w4 HB4.out HQ.out HZ.out).mono ?_
 rintro e w5 ⟨rfl,hb5⟩
 have HB5:Hid (Below w.heap.size w w5):=hid (HB4.trans (hb5.mono HB4.size))
 have HX5:=hid (HX4.below hb5)
 have HY5:=hid (HY4.below hb5)
 clear hb5
 go_wp2_with fail
 refine(HS.out _ _ _ _ _ w5 HB5.out (by decide) (by decide)).mono ?_
 rintro e w6 ⟨rfl,hb6⟩
 have HB6:Hid (Below w.heap.size w w6):=hid (HB5.trans (hb6.mono HB5.size))
 clear hb6
 go_wp2
 go_ret
 exact⟨rfl,HB6.out⟩
end Go.Proofs.YtpbemaaghbbocaaGreatDoor
namespace Go.Proofs.YtpbemaaghbbocaaGreatDoor
open Go.ChangeShapes Go.WideShapes Go.ChangeAt Go.RowKit LS
theorem Ziv:Tryz.prog.cellsOf 23=3:=by kernel_rfl
section
open Go.Joins
variable {H:Type} {enc:TypeId×Value→H} {w:World} {base:Nat} {spare:Nat→Bool} {held:Bool}
set_option maxRecDepth 100000 in
theorem Zkc{r:Reach}{b0:Nat}{v:Value}{d:DataW H}{p:List MemPlace}(hv:Value.okWide Tryz.prog w r b0 23 v)(h:DataW.Trod enc Tryz.prog w base spare held 23 v d p) :
  ∃f l s:Int,v=.agg #[.int .i64 f,.int .i64 l,.int .i64 s]∧d=.agg [.lit (.int .i64 f),.lit (.int .i64 l),.lit (.int .i64 s)]∧p=[]∧(Lit.int .i64 f).wf=true∧(Lit.int .i64 l).wf=true∧(Lit.int .i64 s).wf=true:=by
 obtain⟨c0,c1,c2,y0,y1,y2,m,rfl,rfl,rfl,hy0,hy1,hy2⟩:=open_agg3 Tryz.underlying23 (by kernel_rfl) Ziv hv h
 obtain⟨a,e0,rfl,wa⟩:=DataW.trod_int Tryz.underlying3 hy0
 obtain⟨b,e1,rfl,wb⟩:=DataW.trod_int Tryz.underlying3 hy1
 obtain⟨c,e2,rfl,wc⟩:=DataW.trod_int Tryz.underlying3 hy2
 simp at e0 e1 e2
 subst e0 e1 e2
 exact⟨a,b,c,rfl,rfl,rfl,wa,wb,wc⟩
set_option maxRecDepth 100000 in
theorem ZkH{f l s:Int}(wf:(Lit.int .i64 f).wf=true)(wl:(Lit.int .i64 l).wf=true)(ws:(Lit.int .i64 s).wf=true) :
  DataW.Trod enc Tryz.prog w base spare held 23 (.agg #[.int .i64 f,.int .i64 l,.int .i64 s]) (.agg [.lit (.int .i64 f),.lit (.int .i64 l),.lit (.int .i64 s)]) []:=
 shut_agg3 (y0:=(.lit (.int .i64 f),[])) (y1:=(.lit (.int .i64 l),[])) (y2:=(.lit (.int .i64 s),[])) Tryz.underlying23 (by kernel_rfl) Ziv ⟨1,by simp[DataW.trod,Tryz.underlying3,wf]⟩ ⟨1,by simp[DataW.trod,Tryz.underlying3,wl]⟩ ⟨1,by simp[DataW.trod,Tryz.underlying3,ws]⟩
theorem ZsO{t0 t1 t2 t3 t4 t5:TypeId}{args:Array Value}{ds:List (DataW H)}{ps:List MemPlace}(h:DataW.TrodAll enc Tryz.prog w base spare held [t0,t1,t2,t3,t4,t5] args.toList ds ps) :
  ∃v0 v1 v2 v3 v4 v5 d0 d1 d2 d3 d4 d5 p0 p1 p2 p3 p4 p5,args=#[v0,v1,v2,v3,v4,v5]∧ds=[d0,d1,d2,d3,d4,d5]∧ps=p0++(p1++(p2++(p3++(p4++(p5++[])))))∧DataW.Trod enc Tryz.prog w base spare held t0 v0 d0 p0∧DataW.Trod enc Tryz.prog w base spare held t1 v1 d1 p1∧DataW.Trod enc Tryz.prog w base spare held t2 v2 d2 p2∧DataW.Trod enc Tryz.prog w base spare held t3 v3 d3 p3∧DataW.Trod enc Tryz.prog w base spare held t4 v4 d4 p4∧DataW.Trod enc Tryz.prog w base spare held t5 v5 d5 p5:=by
 obtain⟨v0,l0,d0,e0,p0,q0,ha,rfl,rfl,h0,h⟩:=trodAll_cons h
 obtain⟨v1,l1,d1,e1,p1,q1,rfl,rfl,rfl,h1,h⟩:=trodAll_cons h
 obtain⟨v2,l2,d2,e2,p2,q2,rfl,rfl,rfl,h2,h⟩:=trodAll_cons h
 obtain⟨v3,l3,d3,e3,p3,q3,rfl,rfl,rfl,h3,h⟩:=trodAll_cons h
 obtain⟨v4,l4,d4,e4,p4,q4,rfl,rfl,rfl,h4,h⟩:=trodAll_cons h
 obtain⟨v5,l5,d5,e5,p5,q5,rfl,rfl,rfl,h5,h⟩:=trodAll_cons h
 obtain⟨rfl,rfl,rfl⟩:=trodAll_nil h
 exact⟨v0,v1,v2,v3,v4,v5,d0,d1,d2,d3,d4,d5,p0,p1,p2,p3,p4,p5,by rw[←Array.toArray_toList (xs:=args),ha],rfl,rfl,h0,h1,h2,h3,h4,h5⟩
end
end Go.Proofs.YtpbemaaghbbocaaGreatDoor

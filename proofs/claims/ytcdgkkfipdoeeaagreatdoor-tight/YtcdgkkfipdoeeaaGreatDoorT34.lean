/- Parts. -/
import Derived.Test.YtcdgkkfipdoeeaaGreatDoorT25
import Derived.Test.YtcdgkkfipdoeeaaGreatDoorT33
import Derived.Test.YtcdgkkfipdoeeaaGreatDoorT08
import Derived.Test.YtcdgkkfipdoeeaaGreatDoorT09
set_option maxRecDepth 100000
set_option maxHeartbeats 4000000
namespace Go.Proofs.YtcdgkkfipdoeeaaGreatDoor
open Go.RowKit LS
section
variable {g:Gq}
def Zdo(g:Gq):Prop:=(∀y∈g.sels,SelW y)/\∀x∈g.grps,nw x<=100000
theorem Ze5(h:Zdo g)(z:Nq):Zdo (addQ z g).2:=by unfold addQ;split <;> exact h
theorem Zyc(h:Zdo g)(n:Nat):Zdo (negQ n g).2:=by unfold negQ;split <;> exact Ze5 h _
theorem Zyd(h:Zdo g)(o x y:Nat):Zdo (Z0 o x y g).2:=by unfold Z0;split <;> exact Ze5 h _
theorem ZpR(h:Zdo g){y:Nd×Nat}(hy:SelW y):Zdo (Zx y g).2:=by
 unfold Zx
 split
 ·exact Ze5 h _
 ·refine Ze5 (g:={ g with sels:=g.sels++[y] }) ⟨fun z hz=>?_,h.2⟩ _
  rcases List.mem_append.1 hz with h1|h1
  ·exact h.1 z h1
  ·rw[List.mem_singleton]at h1;rw[h1];exact hy
theorem Zyb(h:Zdo g){ns:List (List UInt8)}(hn:nw ns<=100000):Zdo (ZZ ns g).2:=by
 unfold ZZ
 split
 ·exact h
 ·refine⟨h.1,fun z hz=>?_⟩
  rcases List.mem_append.1 hz with h1|h1
  ·exact h.2 z h1
  ·rw[List.mem_singleton]at h1;rw[h1];exact Nat.le_trans (ZgJ ns) hn
theorem ZiS:∀(t:Tr) (g:Gq),wfT t->wT t<=100000->Zdo g->Zdo (Zb t g).2
 | .nil,_,_,_,h=>h
 | .node x y a l r, g, hw, ht, h => by
   have hb:=fun k hk=>Zjq ht k hk
   have h1:wT (.node x y a l r)=ownW a+wT l+wT r:=rfl
   have hn:nw a.by_<=100000:=by have h2:ownW a=24+a.name.length+cw a.conds+nw a.by_:=rfl;omega
   have hk:a.n.toNat<=1000000000:=by have:=hw.2.2.2.2.2.1;omega
   have hl:=fun g h=>ZiS l g hw.2.2.2.2.2.2.2.2.2.2.1 (by omega) h
   have hr:=fun g h=>ZiS r g hw.2.2.2.2.2.2.2.2.2.2.2 (by omega) h
   unfold Zb
   split
   · exact Ze5 h _
   · split
     · exact ZpR h (hb 0 (by omega))
     · split
       · exact Ze5 (ZpR h (hb _ hk)) _
       · split
         · exact Zyc (hl _ h) _
         · split
           · exact Ze5 (Zyb (hl _ h) hn) _
           · simp only
             split
             · exact Ze5 (hr _ (hl _ h)) _
             · exact Zyd (hr _ (hl _ h)) _ _ _
theorem ZrR{t:Tr}{fl:Nat}(hw:wfT t)(ht:wT t<=100000)(hs:Sml (ZJ (Zb t (g0 fl)).2 (Zb t (g0 fl)).1)):CodeOk (LS.codeOf t fl):=by
 have hp:=(Zch t (g0 fl) hw).1
 have hT:=ZiS t (g0 fl) hw ht ⟨fun y hy=>(by cases hy),fun y hy=>(by cases hy)⟩
 have e1:(g0 fl).sels.length=0:=rfl
 have e2:(g0 fl).grps.length=0:=rfl
 refine⟨hs.2,?_,?_,?_,hT.1,hT.2⟩
 ·have:=hp.s1;show(Zb t (g0 fl)).2.sels.length<=_;omega
 ·have:=hp.r1;show(Zb t (g0 fl)).2.grps.length<=_;omega
 ·show(if 4<=fl then ZbR _ else _).length<=_
  split
  ·rw[show(ZbR _).length=_ from(Zf7 _ _ (ZgM _ _)).2];exact hs.1
  ·exact hs.1
end
end Go.Proofs.YtcdgkkfipdoeeaaGreatDoor
namespace Go.Proofs.YtcdgkkfipdoeeaaGreatDoor
open Go.RowKit LS
def Zge(w:World)(A:Nat->Addr)(q:List UInt8)(fl:Int)(r:ByteArray)(v:Value):Prop:=match ZB q with
 | .error x=>r=⟨#[]⟩/\((x=(1,0)/\v=.iface 432 (.pointer (some (A 0))))∨(x=(4,0)/\v=.iface 432 (.pointer (some (A 3))))∨(x.1=2/\Zcd w v x.2 (A 1))∨(x.1=3/\Zcd w v x.2 (A 2)))
 | .ok t=>(0<=fl/\fl<=7->v=.nilIface/\bl r=ZbB (LS.codeOf t fl.toNat))/\(fl<0∨7<fl->r=⟨#[]⟩/\v=.iface 432 (.pointer (some (A 10))))
def Zi4(q:List UInt8):Prop:=∀t k,ZB q=.ok t->k<=7->Sml (ZJ (Zb t (g0 k)).2 (Zb t (g0 k)).1)
theorem ZrP(s:ByteArray)(fl:Int)(A:Nat->Addr)(m:Int)(w:World)(hv:Vars w A m)(ht:Zu w)(hB:20<=w.heap.size)(hlim:s.size<=9223372036854775807)(hbd:Zi4 (bl s)) :
  Calls Tryz.prog 21 #[.string s,.int .i64 fl] w fun e w'=>∃(r:ByteArray) (v:Value),e=.returned (.tuple #[.string r,v])/\Hid (Zge w' A (bl s) fl r v)/\Below w.heap.size w w':=by
 have HR:Hid (Calls Tryz.prog 17 #[.string s] w _):=Zll s w hlim hv.sents
 have HV:Hid (Vars w A m):=hv
 have HT:Hid (Zu w):=ht
 have HBn:Hid (20<=w.heap.size):=hB
 have HBD:=hid hbd
 clear hv ht hB hbd
 go_enter Tryz.func21,Tryz.ntmps21
 go_wp2_with fail
 refine HR.mono ?_
 rintro e w1 ⟨pv,v,rfl,hres,hb1⟩
 have HB1:Hid (Below w.heap.size w w1):=hb1
 have HV1:Hid (Vars w1 A m):=HV.below hb1
 have HT1:Hid (Zu w1):=HT.low hb1 HBn.out
 have HB1n:Hid (20<=w1.heap.size):=Nat.le_trans HBn.out hb1.size
 clear hb1 HR
 cases hq:ZB (bl s)with
 | ok t=>
  rw[hq]at hres
  obtain⟨rfl,hpv⟩:=hres.out
  obtain⟨hwf,hnil,hwt⟩:=Zdz hq
  have HQ:=hid hq
  obtain⟨ty,u,hsh⟩:=Ze.shape hpv
  subst hsh
  by_cases hf:0<=fl/\fl<=7
  ·obtain⟨k,hk⟩:∃k:Nat,fl=k:=⟨fl.toNat,by omega⟩
   subst hk
   have hk7:k<=7:=by omega
   have HS:=hid (HBD.out t k hq hk7)
   have HOK:=hid (ZrR hwf hwt HS.out)
   have HC:=hid (ZwE w1 t _ k hk7 hpv hwf hnil hwt HT1.out HB1n.out HS.out)
   have h0:¬(k:Int)<0:=by omega
   have h7:¬(7:Int)<k:=by omega
   clear hres hq hpv hwf hnil hwt hf
   go_wp2_with fail
   refine HC.mono ?_
   rintro e w2 ⟨cv,sv,rv,iv,sl,rl,rfl,HCW,hb2⟩
   have HB2:Hid (Below w.heap.size w w2):=HB1.trans (hb2.mono HB1.size)
   have HWC:=hid (ZzO w2 HCW.out HOK.out (HT1.low hb2 HB1n.out) (Nat.le_trans HB1n.out hb2.size))
   clear hb2 HC
   go_wp2_with fail
   refine HWC.mono ?_
   rintro e w3 ⟨r,rfl,HRR,hb3⟩
   have HB3:Hid (Below w.heap.size w w3):=HB2.trans (hb3.mono HB2.size)
   clear hb3 HWC
   go_wp2
   go_ret2
   refine⟨r,.nilIface,rfl,hid ?_,HB3.out⟩
   unfold Zge
   rw[HQ.out]
   exact⟨fun _=>⟨rfl,HRR.out⟩,fun h=>by omega⟩
  ·have vR:=HV1.sent 10 (by decide)
   clear hres hq hpv hwf hnil hwt
   by_cases h0:fl<0
   all_goals
    try have h7:7<fl:=by omega
    go_wp2
    all_goals
     go_region
     all_goals
      go_wp2
      go_ret2
      refine⟨⟨#[]⟩,_,rfl,hid ?_,HB1.drew⟩
      unfold Zge
      rw[HQ.out]
      exact⟨fun h=>absurd h hf,fun _=>⟨rfl,rfl⟩⟩
 | error x=>
  rw[hq]at hres
  have HQ:=hid hq
  have hne:∃ty u,v=.iface ty u:=by
   rcases hres.out with ⟨_,h⟩|⟨_,h⟩|⟨_,h⟩|⟨_,h⟩
   ·exact⟨_,_,h⟩
   ·exact⟨_,_,h⟩
   ·obtain⟨fa,h1,_⟩:=h.cells;exact⟨_,_,h1⟩
   ·obtain⟨fa,h1,_⟩:=h.cells;exact⟨_,_,h1⟩
  obtain⟨ty,u,hvu⟩:=hne
  subst hvu
  clear hq
  go_wp2
  go_ret2
  refine⟨⟨#[]⟩,_,rfl,hid ?_,HB1.out⟩
  unfold Zge
  rw[HQ.out]
  exact⟨rfl,hres.out⟩
theorem Zs3(s:ByteArray)(fl:Int)(A:Nat->Addr)(m:Int)(w:World)(hv:Vars w A m)(ht:Zu w)(hB:20<=w.heap.size)(hlim:s.size<=9223372036854775807)(hbd:Zi4 (bl s)) :
  Calls Tryz.prog 8 #[.string s,.int .i64 fl] w fun e w'=>∃(r:ByteArray) (c p:Nat),e=.returned (.tuple #[.string r,.int .i64 c,.int .i64 p])/\Hid (Zbe (bl s) fl=(bl r,c,p))/\Below w.heap.size w w':=by
 have HR:=hid (ZrP s fl A m w hv ht hB hlim hbd)
 have HV:Hid (Vars w A m):=hv
 clear hv ht hB hbd
 go_enter Tryz.func8,Tryz.ntmps8
 go_wp2_with fail
 refine HR.mono ?_
 rintro e w1 ⟨r,v,rfl,hres,hb1⟩
 have HB1:Hid (Below w.heap.size w w1):=hb1
 have HV1:Hid (Vars w1 A m):=HV.below hb1
 clear hb1 HR
 have hc:=hres.out
 clear hres
 unfold Zge at hc
 cases hq:ZB (bl s)with
 | ok t=>
  rw[hq]at hc
  simp only at hc
  by_cases hf:0<=fl/\fl<=7
  ·obtain⟨rfl,hr⟩:=hc.1 hf
   have HQ:Hid (Zbe (bl s) fl=(bl r,0,0)):=hid (by unfold Zbe;rw[hq];simp only;rw[if_neg (by omega),hr])
   clear hq hc hr
   go_wp2_with fail
   refine(ZoL A m _ HV1.out).mono ?_
   rintro e wq ⟨rfl,rfl⟩
   go_wp2_with fail
   refine(Zo0 _).mono ?_
   rintro e w2 ⟨rfl,hb2⟩
   have HB2:Hid (Below w.heap.size w w2):=HB1.trans (hb2.mono HB1.size)
   clear hb2
   go_wp2
   go_ret3
   exact⟨r,0,0,rfl,HQ,HB2.out⟩
  ·obtain⟨rfl,rfl⟩:=hc.2 (by omega)
   have HQ:Hid (Zbe (bl s) fl=([],11,0)):=hid (by unfold Zbe;rw[hq];simp only;rw[if_pos (by omega)])
   clear hq hc
   go_wp2_with fail
   refine(Zvz A m _ HV1.out).mono ?_
   rintro e wq ⟨rfl,rfl⟩
   go_wp2_with fail
   refine(Zez A m _ _ HV1.out).mono ?_
   rintro e w2 ⟨rfl,hb2⟩
   have HB2:Hid (Below w.heap.size w w2):=HB1.trans (hb2.mono HB1.size)
   clear hb2
   go_wp2
   go_ret3
   exact⟨⟨#[]⟩,11,0,rfl,HQ,HB2.out⟩
 | error x=>
  rw[hq]at hc
  simp only at hc
  obtain⟨rfl,hc⟩:=hc
  have HQ:Hid (Zbe (bl s) fl=([],x.1,x.2)):=hid (by unfold Zbe;rw[hq])
  clear hq
  rcases hc with ⟨rfl,rfl⟩|⟨rfl,rfl⟩|⟨hx,he⟩|⟨hx,he⟩
  ·go_wp2_with fail
   refine(ZkO A m _ HV1.out).mono ?_
   rintro e wq ⟨rfl,rfl⟩
   go_wp2_with fail
   refine(Zez A m _ _ HV1.out).mono ?_
   rintro e w2 ⟨rfl,hb2⟩
   have HB2:Hid (Below w.heap.size w w2):=HB1.trans (hb2.mono HB1.size)
   clear hb2
   go_wp2
   go_ret3
   exact⟨⟨#[]⟩,1,0,rfl,HQ,HB2.out⟩
  ·go_wp2_with fail
   refine(ZkQ A m _ HV1.out).mono ?_
   rintro e wq ⟨rfl,rfl⟩
   go_wp2_with fail
   refine(Zez A m _ _ HV1.out).mono ?_
   rintro e w2 ⟨rfl,hb2⟩
   have HB2:Hid (Below w.heap.size w w2):=HB1.trans (hb2.mono HB1.size)
   clear hb2
   go_wp2
   go_ret3
   exact⟨⟨#[]⟩,4,0,rfl,HQ,HB2.out⟩
  ·obtain⟨x1,x2⟩:=x
   simp only at hx he
   subst hx
   obtain⟨fa,rfl,hc1,hc2⟩:=he.cells
   clear he
   have HC1:Hid (w1.cell? ⟨fa,1,none⟩=some (.int .i64 x2)):=hc1
   have HC2:=hid hc2
   clear hc1 hc2
   go_wp2_with fail
   refine(ZkP A m _ HV1.out fa HC2.out).mono ?_
   rintro e wq ⟨rfl,rfl⟩
   go_wp2_with fail
   refine(ZeZ A m fa x2 _ HV1.out HC1.out).mono ?_
   rintro e w2 ⟨rfl,hb2⟩
   have HB2:Hid (Below w.heap.size w w2):=HB1.trans (hb2.mono HB1.size)
   clear hb2
   go_wp2
   go_ret3
   exact⟨⟨#[]⟩,2,x2,rfl,HQ,HB2.out⟩
  ·obtain⟨x1,x2⟩:=x
   simp only at hx he
   subst hx
   obtain⟨fa,rfl,hc1,hc2⟩:=he.cells
   clear he
   have HC1:Hid (w1.cell? ⟨fa,1,none⟩=some (.int .i64 x2)):=hc1
   have HC2:=hid hc2
   clear hc1 hc2
   go_wp2_with fail
   refine(ZkN A m _ HV1.out fa HC2.out).mono ?_
   rintro e wq ⟨rfl,rfl⟩
   go_wp2_with fail
   refine(ZeZ A m fa x2 _ HV1.out HC1.out).mono ?_
   rintro e w2 ⟨rfl,hb2⟩
   have HB2:Hid (Below w.heap.size w w2):=HB1.trans (hb2.mono HB1.size)
   clear hb2
   go_wp2
   go_ret3
   exact⟨⟨#[]⟩,3,x2,rfl,HQ,HB2.out⟩
section
variable {nodes:List Nq} {W:Nat->Cq->Cq} {c d e:Cq} {U U' U1 U2:Nat->Bool} {K K1 K2:Nat->Prop} {T:Nat->Nat} {n m x y N:Nat}
def IS(c:Cq)(x:Nat):Prop:=∃s,s<16/\c.slots.getD s none=some (x:Int)
inductive Rch (nodes:List Nq) (S:Nat->Prop):Nat->Nat->Prop
 | last {m x:Nat} : ¬S m->x∈Zg (nodes.getD m nq0)->Rch nodes S m x
 | step {m y x:Nat} : ¬S m->y∈Zg (nodes.getD m nq0)->Rch nodes S y x->Rch nodes S m x
theorem Rch.head{S:Nat->Prop}(h:Rch nodes S m x):¬S m:=by cases h <;> assumption
theorem Rch.gt{S:Nat->Prop}(hok:NOk nodes)(h:Rch nodes S m x):x<m:=by
 induction h with
 | last _ h=>exact Zbj hok _ _ h
 | step _ h _ ih=>exact Nat.lt_trans ih (Zbj hok _ _ h)
theorem Rch.mono{S S':Nat->Prop}(hok:NOk nodes)(h:Rch nodes S m x):(∀y,x<y->¬S y->Rch nodes S y x->¬S' y)->Rch nodes S' m x:=by
 induction h with
 | last h1 h2=>exact fun hS=>.last (hS _ (Zbj hok _ _ h2) h1 (.last h1 h2)) h2
 | step h1 h2 h3 ih=>exact fun hS=>.step (hS _ (Nat.lt_trans (h3.gt hok) (Zbj hok _ _ h2)) h1 (.step h1 h2 h3)) h2 (ih hS)
structure Pt (nodes:List Nq) (c:Cq) (U:Nat->Bool) (d:Cq) (U':Nat->Bool) (K:Nat->Prop):Prop where
 sub:∀x,U' x=true->U x=true
 wrk:∀m,¬IS c m->IS d m->K m
 rch:∀x,U' x=true->∀m,K m->¬Rch nodes (IS c) m x
 stay:∀x,U' x=true->∀s,c.slots.getD s none=some (x:Int)->d.slots.getD s none=some (x:Int)
theorem Pt.keep(hok:NOk nodes)(h:Pt nodes c U d U' K)(hx:U' x=true)(hr:Rch nodes (IS c) m x):Rch nodes (IS d) m x:=
 hr.mono hok (fun y _ hn hy hd=>h.rch x hx y (h.wrk y hn hd) hy)
theorem Pt.trans (hok : NOk nodes) (h : Pt nodes c U d U1 K1) (q : Pt nodes d U2 e U' K2) : Pt nodes c U e (fun x => U1 x && U' x) (fun m => K1 m ∨ K2 m) := by
  refine⟨fun x hx=>?_,fun m h1 h2=>?_,fun x hx m hm hr=>?_,fun x hx s hs=>?_⟩
  · rw[Bool.and_eq_true]at hx;exact h.sub x hx.1
  · by_cases hd:IS d m
    · exact Or.inl (h.wrk m h1 hd)
    · exact Or.inr (q.wrk m hd h2)
  · rw[Bool.and_eq_true]at hx
    rcases hm with hm|hm
    · exact h.rch x hx.1 m hm hr
    · exact q.rch x hx.2 m hm (h.keep hok hx.1 hr)
  · rw[Bool.and_eq_true]at hx;exact q.stay x hx.2 s (h.stay x hx.1 s hs)
theorem Pt.same(h:Pt nodes c U d U' K)(hs:e.slots=d.slots):Pt nodes c U e U' K:=
 ⟨h.sub,fun m h1 h2=>h.wrk m h1 (by unfold IS at *;rw[<-hs];exact h2),h.rch,fun x hx s h1=>by rw[hs];exact h.stay x hx s h1⟩
theorem Pt.from_(h:Pt nodes c U d U' K)(hs:e.slots=c.slots):Pt nodes e U d U' K:=by
 have hI:IS e=IS c:=by unfold IS;rw[hs]
 exact⟨h.sub,fun m h1 h2=>h.wrk m (by rw[<-hI];exact h1) h2,by rw[hI];exact h.rch,fun x hx s h1=>h.stay x hx s (by rw[<-hs];exact h1)⟩
theorem Pt.still(c:Cq)(U:Nat->Bool):Pt nodes c U c U (fun _=>False):=⟨fun _ h=>h,fun _ h1 h2=>absurd h2 h1,fun _ _ _ h=>h.elim,fun _ _ _ h=>h⟩
theorem Pt.less(h:Pt nodes c U d U' K)(hU:∀x,U1 x=true->U' x=true):Pt nodes c U d U1 K:=⟨fun x hx=>h.sub x (hU x hx),h.wrk,fun x hx=>h.rch x (hU x hx),fun x hx=>h.stay x (hU x hx)⟩
def Inv(N:Nat)(c:Cq)(U:Nat->Bool):Prop:=c.slots.length=16/\∀x,U x=true->IS c x/\x<N
theorem Pt.inv (h : Pt nodes c U d U' K) (hi : Inv N c U) (hl : d.slots.length = 16) : Inv N d U' := ⟨hl, fun x hx => by
  obtain⟨⟨s,h1,h2⟩,h3⟩:=hi.2 x (h.sub x hx)
  exact⟨⟨s,h1,h.stay x hx s h2⟩,h3⟩⟩
def psi(T:Nat->Nat)(U:Nat->Bool):Nat->Nat
 | 0=>0
 | n+1=>psi T U n+if U n=true then T n - 1 else 0
theorem Ziv{V:Nat->Bool} : ∀(N:Nat),(∀x,x<N->U x=V x)->psi T U N=psi T V N
 | 0,_=>rfl
 | N+1,h=>by unfold psi;rw[Ziv N (fun x hx=>h x (by omega)),h N (by omega)]
theorem Zlb (hx : U x = false) : ∀ (N : Nat), x < N -> psi T (fun z => U z || decide (z = x)) N = psi T U N + (T x - 1)
  | 0,h=>absurd h (Nat.not_lt_zero _)
  | N + 1, h => by
    unfold psi
    by_cases e:x=N
    · subst e
      rw[Ziv (V:=U) x (fun z hz=>by rw[show decide (z=x)=false by simp;omega];simp)]
      simp[hx]
    · rw[Zlb hx N (by omega),show decide (N=x)=false by simp;omega]
      simp;omega
theorem ZwB (hx : U x = true) (N : Nat) (h : x < N) : psi T (fun z => U z && !decide (z = x)) N + (T x - 1) = psi T U N := by
  rw[<-Zlb (U:=fun z=>U z && !decide (z=x)) (by simp) N h]
  refine Ziv N (fun z _=>?_)
  by_cases e:z=x
  · subst e;simp[hx]
  · simp[e]
theorem Zlc:∀(N:Nat),(∀x,U x=false)->psi T U N=0
 | 0,_=>rfl
 | N+1,h=>by unfold psi;rw[Zlc N h,h N];rfl
theorem Zlr{l:List (Option Int)}(h:ZF n l=none){s:Nat}(hs:s<16):l.getD s none≠some (n:Int):=by
 unfold ZF at h
 rw[List.find?_eq_none]at h
 have:=h s (List.mem_range.2 hs)
 simpa using this
theorem IS.of(h:ZF n c.slots=none):¬IS c n:=fun⟨_,h1,h2⟩=>Zlr h h1 h2
theorem ZxL{s:Nat}(h:ZF n c.slots=some s):IS c n:=⟨s,Zf4 h⟩
def WBd(nodes:List Nq)(T:Nat->Nat)(W:Nat->Cq->Cq)(n:Nat):Prop:=∀c U,Inv nodes.length c U->¬IS c n->∃U' K,Pt nodes c U (W n c) U' K/\K n/\(W n c).slots.length=16/\(W n c).ins.length+psi T U nodes.length+2<=c.ins.length+T n+psi T U' nodes.length
theorem Pt.kept{s:Nat}(h:Pt nodes c U d U' K)(hn:K n)(hs:d.slots.getD s none=none)(he:e.slots=d.slots.set s (some (n:Int))):Pt nodes c U e U' K:=by
 refine⟨h.sub,fun m h1 h2=>?_,h.rch,fun x hx s' hs'=>?_⟩
 ·obtain⟨s',h3,h4⟩:=h2
  rw[he,Zcn]at h4
  split at h4
  ·injection h4 with h4
   have:m=n:=by omega
   rw[this];exact hn
  ·exact h.wrk m h1 ⟨s',h3,h4⟩
 ·have:=h.stay x hx s' hs'
  rw[he,Zcn,if_neg (fun e=>by rw[e.1,hs]at this;cases this)]
  exact this
theorem Ziy(hW:WBd nodes T W n)(hT:4<=T n)(hi:Inv nodes.length c U):∃U' K,Pt nodes c U (putQ nodes W n c) U' K/\U' n=false/\(¬IS c n->K n)/\(putQ nodes W n c).slots.length=16/\(putQ nodes W n c).ins.length+psi T U nodes.length<=c.ins.length+T n+psi T U' nodes.length:=by
 have hid:Inv nodes.length (decL n c) U:=hi
 cases hs:ZF n c.slots with
 | some s=>
  obtain⟨h1,h2⟩:=Zf4 hs
  have hps : psi T U nodes.length + 1 <= T n + psi T (fun z => U z && !decide (z = n)) nodes.length := by
    cases hu:U n with
    | true=>have:=ZwB (T:=T) hu nodes.length (hi.2 n hu).2;omega
    | false=>
      rw [Ziv (V := fun z => U z && !decide (z = n)) nodes.length (fun z _ => by
        by_cases e:z=n
        · subst e;simp[hu]
        · simp[e])]
      omega
  rw[ZdP hs]
  refine⟨fun z=>U z && !decide (z=n),fun _=>False,?_,by simp,fun h=>absurd (ZxL hs) h,?_,?_⟩
  ·have hg : ∀ {x : Nat} {s' : Nat}, x ≠ n -> c.slots.getD s' none = some (x : Int) -> (c.slots.set s none).getD s' none = some (x : Int) := fun hx h => by
     rw[Zcn,if_neg (fun e=>by rw[e.1,h2]at h;injection h with h;omega)];exact h
   split
   ·refine⟨fun x hx=>by simp at hx;exact hx.1,fun m h3 h4=>?_,fun _ _ _ h=>h.elim,fun x hx s' h3=>?_⟩
    ·obtain⟨s',h5,h6⟩:=h4
     simp only at h6
     rw[Zcn]at h6
     split at h6
     ·cases h6
     ·exact h3 ⟨s',h5,h6⟩
    ·simp at hx
     exact hg hx.2 h3
   ·exact⟨fun x hx=>by simp at hx;exact hx.1,fun m h3 h4=>absurd h4 h3,fun _ _ _ h=>h.elim,fun x _ s' h3=>h3⟩
  ·split
   ·simp only[List.length_set];exact hi.1
   ·exact hi.1
  ·split <;> simp only[Zh,decL,List.length_append,List.length_singleton] <;> omega
 | none=>
  obtain⟨U',K,h1,h2,h3,h4⟩:=hW (decL n c) U hid (IS.of hs)
  have hp:=h1.from_ (e:=c) rfl
  have hn:U' n=false:=by
   cases hu:U' n with
   | false=>rfl
   | true=>exact absurd (hi.2 n (h1.sub n hu)).1 (IS.of hs)
  have h5:(W n (decL n c)).ins.length+psi T U nodes.length+2<=c.ins.length+T n+psi T U' nodes.length:=h4
  rw[Zci hs]
  refine⟨U',K,?_,hn,fun _=>h2,?_,?_⟩
  ·split
   ·exact hp
   ·split
    ·rename_i s hf
     exact hp.kept h2 (Zeb hf).2 rfl
    ·exact hp
  ·split
   ·exact h3
   ·split
    ·simp[Zh,ZT,h3]
    ·exact h3
  ·split
   ·omega
   ·split
    ·simp only[Zh,ZT,List.length_append,List.length_singleton];omega
    ·omega
end
end Go.Proofs.YtcdgkkfipdoeeaaGreatDoor
namespace Go.Proofs.YtcdgkkfipdoeeaaGreatDoor
open Go.RowKit LS
section
variable {nodes:List Nq} {W:Nat->Cq->Cq} {c d e:Cq} {U U' U1 U2:Nat->Bool} {K K1 K2:Nat->Prop} {T:Nat->Nat} {n m x y N:Nat}
theorem Zna (hok : NOk nodes) : ∀ (ts : List Nat) (c : Cq) (U : Nat -> Bool), (∀ t ∈ ts, WBd nodes T W t /\ 4 <= T t) -> Inv nodes.length c U -> ∃ U' K, Pt nodes c U (ts.foldl (fun c t => putQ nodes W t c) c) U' K /\ (∀ t ∈ ts, U' t = false /\ ∀ x, U' x = true -> ¬ Rch nodes (IS c) t x) /\ (ts.foldl (fun c t => putQ nodes W t c) c).slots.length = 16 /\ (ts.foldl (fun c t => putQ nodes W t c) c).ins.length + psi T U nodes.length <= c.ins.length + (ts.map T).sum + psi T U' nodes.length
  | [],c,U,_,hi=>⟨U,_,Pt.still c U,fun t ht=>(by cases ht),hi.1,by simp⟩
  | t :: ts, c, U, hW, hi => by
    obtain⟨U1,K1,h1,h2,h3,h4,h5⟩:=Ziy (hW t (List.mem_cons_self ..)).1 (hW t (List.mem_cons_self ..)).2 hi
    have hi1:=h1.inv hi h4
    obtain⟨U2,K2,q1,q2,q3,q4⟩:=Zna hok ts (putQ nodes W t c) U1 (fun z hz=>hW z (List.mem_cons_of_mem _ hz)) hi1
    have hsub:∀z,U2 z=true->U1 z=true:=q1.sub
    rw[List.foldl_cons]
    refine⟨U2,fun m=>K1 m∨K2 m,(h1.trans hok q1).less (fun z hz=>by rw[hsub z hz,hz];rfl),fun z hz=>?_,q3,?_⟩
    · rcases List.mem_cons.1 hz with e|e
      · subst e
        refine⟨?_,fun x hx hr=>h1.rch x (hsub x hx) z (h3 hr.head) hr⟩
        cases hu:U2 z with
        | false=>rfl
        | true=>rw[hsub z hu]at h2;cases h2
      · exact⟨(q2 z e).1,fun x hx hr=>(q2 z e).2 x hx (h1.keep hok (hsub x hx) hr)⟩
    · rw[List.map_cons,List.sum_cons];omega
theorem Zmo{sl:List (Option Int)}(hc:c.slots=sl):∀(f n:Nat) (k:List Nat) (y:Nat),k.getD y 0<(cntQ nodes sl f n k).getD y 0->y=n∨Rch nodes (IS c) n y
 | 0,n,k,y,h=>absurd h (Nat.lt_irrefl _)
 | f + 1, n, k, y, h => by
   by_cases e:y=n
   · exact Or.inl e
   · right
     have hb:(bump k n).getD y 0=k.getD y 0:=by unfold bump;rw[Zet,if_neg (fun h=>e h.1)]
     unfold cntQ at h
     simp only at h
     split at h
     · rw[hb]at h;exact absurd h (Nat.lt_irrefl _)
     · rename_i hn
       have hns:¬IS c n:=by
         intro hI
         cases hs:ZF n sl with
         | none=>exact IS.of (c:=c) (by rw[hc];exact hs) hI
         | some s=>exact hn (Or.inl (by rw[hs];rfl))
       rw[<-hb]at h
       have key : ∀ (ts : List Nat) (k : List Nat), (∀ t ∈ ts, t ∈ Zg (nodes.getD n nq0)) -> k.getD y 0 < (ts.foldl (fun k t => cntQ nodes sl f t k) k).getD y 0 -> Rch nodes (IS c) n y := by
         intro ts
         induction ts with
         | nil=>intro k _ h;exact absurd h (Nat.lt_irrefl _)
         | cons t ts ih=>
           intro k ht h
           rw[List.foldl_cons]at h
           by_cases h1:k.getD y 0<(cntQ nodes sl f t k).getD y 0
           · rcases Zmo hc f t k y h1 with e1|e1
             · subst e1;exact .last hns (ht _ (List.mem_cons_self ..))
             · exact .step hns (ht _ (List.mem_cons_self ..)) e1
           · exact ih _ (fun z hz=>ht z (List.mem_cons_of_mem _ hz)) (Nat.lt_of_le_of_lt (Nat.le_of_not_lt h1) h)
       exact key _ _ (fun _ h=>h) h
theorem Zko{p:Nat->Bool} : ∀(n:Nat),Zbf p n=some x->p x=true
 | 0,h=>by cases h
 | n + 1, h => by
   unfold Zbf at h
   split at h
   · injection h with h;rw[<-h];assumption
   · exact Zko n h
theorem Zpz(h:Zby nodes n c=some x):¬IS c x/\(x=n∨Rch nodes (IS c) n x):=by
 unfold Zby at h
 have:=Zko _ h
 unfold ZbY at this
 simp only[Bool.and_eq_true,decide_eq_true_eq]at this
 obtain⟨⟨⟨h1,h2⟩,_⟩,_⟩:=this
 refine⟨IS.of (by simpa using h2),Zmo rfl _ _ _ _ (Nat.lt_of_le_of_lt ?_ h1)⟩
 rw[List.getD_eq_getElem?_getD,List.getElem?_replicate]
 split <;> simp
structure Pn (nodes:List Nq) (n:Nat) (d:Cq) (O Q:Nat->Bool):Prop where
 apart:∀x,O x=true->Q x=false
 way:∀x,Q x=true->x=n∨Rch nodes (IS d) n x
theorem ZqM{s:Nat}(hs:d.slots.getD s none=none)(z:Nat):IS { d with slots:=d.slots.set s (some (-1)) } z ↔ IS d z:=by
 constructor
 ·rintro⟨s',h1,h2⟩
  simp only at h2
  rw[Zcn]at h2
  split at h2
  ·injection h2 with h2;omega
  ·exact⟨s',h1,h2⟩
 ·rintro⟨s',h1,h2⟩
  refine⟨s',h1,?_⟩
  simp only
  rw[Zcn,if_neg (fun e=>by rw[e.1,hs]at h2;cases h2)]
  exact h2
theorem ZlS (hok : NOk nodes) (hW : ∀ z, z <= n -> z < nodes.length -> WBd nodes T W z /\ 4 <= T z) (hL : ∀ z, z <= n -> ∀ c, c.slots.length = 16 -> Low z c (W z c)) (U : Nat -> Bool) (c : Cq) : ∀ (k : Nat) (d : Cq) (O Q : Nat -> Bool) (K : Nat -> Prop), Pt nodes c U d O K -> Pn nodes n d O Q -> Inv nodes.length d (fun x => O x || Q x) -> d.ins.length + psi T U nodes.length <= c.ins.length + psi T (fun x => O x || Q x) nodes.length -> ∃ O Q K, Pt nodes c U (ZP nodes W n k d) O K /\ Pn nodes n (ZP nodes W n k d) O Q /\ Inv nodes.length (ZP nodes W n k d) (fun x => O x || Q x) /\ (ZP nodes W n k d).ins.length + psi T U nodes.length <= c.ins.length + psi T (fun x => O x || Q x) nodes.length
  | 0,d,O,Q,K,h1,h2,h3,h4=>⟨O,Q,K,h1,h2,h3,h4⟩
  | k + 1, d, O, Q, K, h1, h2, h3, h4 => by
    cases hx:Zby nodes n d with
    | none=>rw[ZdF (Or.inl hx)];exact⟨O,Q,K,h1,h2,h3,h4⟩
    | some x=>
      cases hf:ZbE d.slots with
      | none=>rw[ZdF (Or.inr hf)];exact⟨O,Q,K,h1,h2,h3,h4⟩
      | some s=>
        rw[Zgf hx hf]
        obtain⟨hs16,hs0⟩:=Zeb hf
        obtain⟨hxn,hxl⟩:=Zf3 hok hx
        obtain⟨hxo,hxr⟩:=Zpz hx
        have hIS:IS { d with slots:=d.slots.set s (some (-1)) }=IS d:=funext fun z=>propext (ZqM hs0 z)
        obtain⟨hw,hT⟩:=hW x hxn hxl
        have hlow:=hL x hxn { d with slots:=d.slots.set s (some (-1)) } (by simp only[List.length_set];exact h3.1)
        obtain⟨V,K2,p1,p2,p3,p4⟩:=hw { d with slots:=d.slots.set s (some (-1)) } (fun x=>O x || Q x) ⟨by simp only[List.length_set];exact h3.1,fun z hz=>by rw[hIS];exact h3.2 z hz⟩ (by rw[hIS];exact hxo)
        simp only at p4
        generalize W x { d with slots:=d.slots.set s (some (-1)) }=e at *
        have he:(ZT x s e).slots=e.slots.set s (some (x:Int)):=rfl
        have hg:∀s',s'≠s->(ZT x s e).slots.getD s' none=e.slots.getD s' none:=fun s' hn=>by rw[he,Zcn,if_neg (fun h=>hn h.1)]
        have hgs:(ZT x s e).slots.getD s none=some (x:Int):=by rw[he,Zcn,if_pos ⟨rfl,by rw[p3];exact hs16⟩]
        have P : Pt nodes d (fun x => O x || Q x) (ZT x s e) V K2 := by
          refine⟨p1.sub,fun m h5 h6=>?_,fun z hz m hm hr=>p1.rch z hz m hm (by rw[hIS];exact hr),fun z hz s' h5=>?_⟩
          · obtain⟨s',h7,h8⟩:=h6
            by_cases es:s'=s
            · subst es
              rw[hgs]at h8
              injection h8 with h8
              have:m=x:=by omega
              rw[this];exact p2
            · rw[hg s' es]at h8
              exact p1.wrk m (by rw[hIS];exact h5) ⟨s',h7,h8⟩
          · have es:s'≠s:=fun es=>by rw[es,hs0]at h5;cases h5
            rw[hg s' es]
            refine p1.stay z hz s' ?_
            simp only
            rw[Zcn,if_neg (fun h=>es h.1)]
            exact h5
        have hVx:V x=false:=by
          cases hv:V x with
          | false=>rfl
          | true=>exact absurd (h3.2 x (p1.sub x hv)).1 hxo
        have hI:=P.inv h3 (by rw[he,List.length_set];exact p3)
        have hVV : (fun z => (O z && V z) || ((Q z && V z) || decide (z = x))) = fun z => V z || decide (z = x) := funext fun z => by
          cases hv:V z with
          | false=>simp
          | true=>have:=p1.sub z hv;simp only[Bool.or_eq_true]at this;rcases this with h|h <;> simp[h]
        have hps:=Zlb (T:=T) hVx nodes.length hxl
        refine ZlS hok hW hL U c k (ZT x s e) (fun z=>O z && V z) (fun z=>(Q z && V z) || decide (z=x)) (fun m=>K m∨K2 m) (h1.trans hok P) ⟨fun z hz=>?_,fun z hz=>?_⟩ ?_ ?_
        · rw[Bool.and_eq_true]at hz
          have e1:z≠x:=fun e=>by rw[e,hVx]at hz;exact absurd hz.2 (by decide)
          simp[h2.apart z hz.1,e1]
        · rw[Bool.or_eq_true,Bool.and_eq_true,decide_eq_true_eq]at hz
          rcases hz with hz|hz
          · rcases h2.way z hz.1 with e1|e1
            · exact Or.inl e1
            · exact Or.inr (P.keep hok hz.2 e1)
          · rw[hz]
            rcases hxr with e1|e1
            · exact Or.inl e1
            · refine Or.inr (e1.mono hok (fun y hy hn _ h5=>?_))
              obtain⟨s',h7,h8⟩:=h5
              by_cases es:s'=s
              · subst es;rw[hgs]at h8;injection h8 with h8;omega
              · rw[hg s' es]at h8
                have:=(hlow.sl s' y (Nat.le_of_lt hy)).1 h8
                exact hn (by rw[<-hIS];exact⟨s',h7,this⟩)
        · rw[hVV]
          refine⟨hI.1,fun z hz=>?_⟩
          rw[Bool.or_eq_true,decide_eq_true_eq]at hz
          rcases hz with hz|hz
          · exact hI.2 z hz
          · rw[hz];exact⟨⟨s,hs16,hgs⟩,hxl⟩
        · rw[hVV,hps]
          have:(ZT x s e).ins.length=e.ins.length+1:=by simp[ZT,Zh]
          omega
end
end Go.Proofs.YtcdgkkfipdoeeaaGreatDoor
namespace Go.Proofs.YtcdgkkfipdoeeaaGreatDoor
open Go.RowKit LS
section
variable {nodes:List Nq} {W:Nat->Cq->Cq} {c d e:Cq} {U U' U1 U2:Nat->Bool} {K K1 K2:Nat->Prop} {T:Nat->Nat} {n m x y a b N:Nat}
theorem ZiQ(p q:List (Option Int)){s:Nat}(hs:s<16):(Zcb p q).getD s none=if p.getD s none=q.getD s none then p.getD s none else none:=by
 unfold Zcb
 rw[List.getD_eq_getElem?_getD,List.getElem?_map,List.getElem?_range hs]
 rfl
theorem Zsn(hok:NOk nodes)(hW:∀z,z<=b->z<nodes.length->WBd nodes T W z/\4<=T z)(hA:WBd nodes T W a/\4<=T a)(hbl:b<nodes.length)(hL:∀z,z<=b->∀c,c.slots.length=16->Low z c (W z c))(hi:Inv nodes.length c U):∃U' K,Pt nodes c U (Zbl nodes W a b c) U' K/\(∀t∈[a,b],U' t=false/\∀x,U' x=true->¬Rch nodes (IS c) t x)/\(Zbl nodes W a b c).slots.length=16/\(Zbl nodes W a b c).ins.length+psi T U nodes.length<=c.ins.length+2+T a+T b+psi T U' nodes.length:=by
 have hU:(fun x=>U x || false)=U:=funext fun x=>by simp
 obtain⟨O,Q,K1,h1,h2,h3,h4⟩:=ZlS (n:=b) hok hW hL U c (b+2) c U (fun _=>false) _ (Pt.still c U) ⟨fun _ _=>rfl,fun _ h=>(by cases h)⟩ (by rw[hU];exact hi) (by rw[hU];omega)
 unfold Zbl
 simp only
 generalize ZP nodes W b (b+2) c=c1 at *
 obtain⟨V2,K2,p1,p2,p3,p4,p5⟩:=Ziy hA.1 hA.2 h3
 have hi2:=p1.inv h3 p4
 generalize putQ nodes W a c1=c2 at *
 obtain⟨V3,K3,q1,q2,q3,q4,q5⟩:=Ziy (c:=Zh 11 0 (Zh 10 0 c2)) (hW b (Nat.le_refl _) hbl).1 (hW b (Nat.le_refl _) hbl).2 hi2
 have hIS:IS (Zh 11 0 (Zh 10 0 c2))=IS c2:=rfl
 have q1':=q1.from_ (e:=c2) rfl
 have q5':(putQ nodes W b (Zh 11 0 (Zh 10 0 c2))).ins.length+psi T V2 nodes.length<=c2.ins.length+2+T b+psi T V3 nodes.length:=by
  have:(Zh 11 0 (Zh 10 0 c2)).ins.length=c2.ins.length+2:=by simp[Zh]
  omega
 rw[hIS]at q3
 generalize putQ nodes W b (Zh 11 0 (Zh 10 0 c2))=d at *
 have hV2:∀z,V3 z=true->V2 z=true:=q1.sub
 have hO : ∀ z, V3 z = true -> O z = true := fun z hz => by
   have:=p1.sub z (hV2 z hz)
   rw[Bool.or_eq_true]at this
   rcases this with h|h
   · exact h
   · exfalso
     rcases h2.way z h with e|e
     · rw[e,q2]at hz;cases hz
     · have hr:=p1.keep hok (hV2 z hz) e
       exact q1'.rch z hz b (q3 hr.head) hr
 have R2:=h1.trans hok p1
 have R:=(R2.trans hok q1').less (U1:=V3) (fun z hz=>by simp[hO z hz,hV2 z hz,hz])
 have h16 : ∀ {s : Nat} {z : Nat}, c.slots.getD s none = some (z : Int) -> s < 16 := fun {s z} h => by
   rcases Nat.lt_or_ge s 16 with h5|h5
   · exact h5
   · rw[List.getD_eq_getElem?_getD,List.getElem?_eq_none (by rw[hi.1];exact h5)]at h;cases h
 refine⟨V3,_,⟨R.sub,fun m h5 h6=>R.wrk m h5 ?_,R.rch,fun z hz s hs=>?_⟩,fun t ht=>?_,?_,?_⟩
 ·obtain⟨s,h7,h8⟩:=h6
  simp only at h8
  rw[ZiQ _ _ h7]at h8
  split at h8
  ·exact⟨s,h7,h8⟩
  ·cases h8
 ·simp only
  rw[ZiQ _ _ (h16 hs),R.stay z hz s hs,R2.stay z (by simp[hO z hz,hV2 z hz]) s hs,if_pos rfl]
 ·rw[List.mem_cons,List.mem_singleton]at ht
  rcases ht with rfl|rfl
  ·refine⟨?_,fun z hz hr=>?_⟩
   ·cases hv:V3 t with
    | false=>rfl
    | true=>rw[hV2 t hv]at p2;cases p2
   ·have hr1:=h1.keep hok (hO z hz) hr
    exact p1.rch z (hV2 z hz) t (p3 hr1.head) hr1
  ·refine⟨q2,fun z hz hr=>?_⟩
   have hr2:=R2.keep hok (x:=z) (by simp[hO z hz,hV2 z hz]) hr
   exact q1'.rch z hz t (q3 hr2.head) hr2
 ·simp[Zcb]
 ·simp only[List.length_set];omega
theorem Zqp(hok:NOk nodes)(hT:∀n,n<nodes.length->T n=4+((Zg (nodes.getD n nq0)).map T).sum):∀(f n:Nat),n<f->n<nodes.length->WBd nodes T (Zn nodes f) n
 | 0,n,h,_=>absurd h (Nat.not_lt_zero _)
 | f + 1, n, hn, hl => by
   intro c U hi hns
   have hlt:=Zbj hok n
   have IH:∀z,z<n->WBd nodes T (Zn nodes f) z/\4<=T z:=fun z hz=>⟨Zqp hok hT f z (by omega) (by omega),by rw[hT z (by omega)];omega⟩
   have hTn:=hT n hl
   have key : ∀ {d : Cq} {U' : Nat -> Bool} {K : Nat -> Prop}, Pt nodes c U d U' K -> (∀ t ∈ Zg (nodes.getD n nq0), U' t = false /\ ∀ x, U' x = true -> ¬ Rch nodes (IS c) t x) -> Pt nodes c U d U' (fun m => m = n ∨ K m) := fun h hf => ⟨h.sub, fun m h1 h2 => Or.inr (h.wrk m h1 h2), fun x hx m hm hr => by
     rcases hm with e|e
     · subst e
       cases hr with
       | last _ h1=>rw[(hf _ h1).1]at hx;cases hx
       | step _ h1 h2=>exact(hf _ h1).2 x hx h2
     · exact h.rch x hx m e hr,h.stay⟩
   by_cases h10:(nodes.getD n nq0).op=10
   · have hg:nodes.getD n nq0=nodes[n]:=by simp[hl]
     obtain⟨a,b,ha,hb⟩:=(hok n hl).or (by rw[<-hg];exact h10)
     rw[<-hg]at ha hb
     have htk:Zg (nodes.getD n nq0)=[a,b]:=by unfold Zg;rw[ha,hb]
     rw[htk]at hlt hTn key
     have hal:a<n:=hlt a (by simp)
     have hbl:b<n:=hlt b (by simp)
     rw[Zhq h10 ha hb]
     obtain⟨U',K,p1,p2,p3,p4⟩:=Zsn (c:=c) (U:=U) (a:=a) (b:=b) hok (fun z hz _=>IH z (by omega)) (IH a hal) (by omega) (fun z _ c h=>Ze7 hok f z c h) hi
     refine⟨U',_,key p1 p2,Or.inl rfl,p3,?_⟩
     simp only[List.map_cons,List.map_nil,List.sum_cons,List.sum_nil]at hTn
     omega
   · rw[Zdf h10]
     obtain⟨U',K,p1,p2,p3,p4⟩:=Zna (W:=Zn nodes f) (T:=T) hok (Zg (nodes.getD n nq0)) c U (fun t ht=>IH t (hlt t ht)) hi
     have hs : ∀ (z : Nq) (d : Cq), (ZbN z d).slots = d.slots /\ (ZbN z d).ins.length = d.ins.length + 1 := fun z d => by
       unfold ZbN;split <;> simp[Zh]
     refine⟨U',_,key (p1.same (hs _ _).1) p2,Or.inl rfl,by rw[(hs _ _).1];exact p3,?_⟩
     rw[(hs _ _).2]
     omega
def Zb7(nodes:List Nq):Nat->Nat->Nat
 | 0,_=>4
 | f+1,n=>4+((Zg (nodes.getD n nq0)).map (Zb7 nodes f)).sum
theorem ZmC(hok:NOk nodes):∀(f g n:Nat),n<f->n<g->Zb7 nodes f n=Zb7 nodes g n
 | 0,_,_,h,_=>absurd h (Nat.not_lt_zero _)
 | _+1,0,_,_,h=>absurd h (Nat.not_lt_zero _)
 | f + 1, g + 1, n, h1, h2 => by
   unfold Zb7
   rw[List.map_congr_left (fun t ht=>ZmC hok f g t (by have:=Zbj hok n t ht;omega) (by have:=Zbj hok n t ht;omega))]
theorem ZhE (hok : NOk nodes) (n : Nat) : Zb7 nodes (n + 1) n = 4 + ((Zg (nodes.getD n nq0)).map (fun t => Zb7 nodes (t + 1) t)).sum := by
  rw[Zb7,List.map_congr_left (fun t ht=>ZmC hok n (t+1) t (Zbj hok n t ht) (Nat.lt_succ_self _))]
theorem ZrU{g:Gq}(hok:NOk g.nodes){r:Nat}(hr:r<g.nodes.length):(ZJ g r).ins.length<=Zb7 g.nodes (r+1) r:=by
 have hT:∀n,n<g.nodes.length->(fun t=>Zb7 g.nodes (t+1) t) n=4+((Zg (g.nodes.getD n nq0)).map (fun t=>Zb7 g.nodes (t+1) t)).sum:=fun n _=>ZhE hok n
 obtain⟨U',K,h1,_,_,_,h5⟩:=Ziy (c:=c0 g) (U:=fun _=>false) (T:=fun t=>Zb7 g.nodes (t+1) t) (Zqp hok hT (r+1) r (Nat.lt_succ_self _) hr) (by show 4<=Zb7 g.nodes (r+1) r;rw[ZhE hok];omega) ⟨by simp[c0],fun x h=>(by cases h)⟩
 have hz : ∀ x, U' x = false := fun x => by
   cases hu:U' x with
   | false=>rfl
   | true=>exact absurd (h1.sub x hu) (by decide)
 rw[Zlc _ hz,Zlc _ (fun _=>rfl)]at h5
 have e:(c0 g).ins.length=0:=rfl
 rw[e]at h5
 unfold ZJ
 omega
end
end Go.Proofs.YtcdgkkfipdoeeaaGreatDoor

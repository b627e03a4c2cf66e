/- Parts. -/
import Derived.Test.YtcdgkkfipdoeeaaGreatDoorT02
import Derived.Test.YtcdgkkfipdoeeaaGreatDoorT03
set_option maxHeartbeats 4000000
set_option maxRecDepth 100000
namespace Go.Proofs.YtcdgkkfipdoeeaaGreatDoor
open Go.RowKit LS
theorem ZdJ(s:ByteArray)(l:List UInt8):(s.toList == l)=decide (l=bl s):=by
 rw[ZbH,Bool.eq_iff_iff,beq_iff_eq,decide_eq_true_iff]
 exact⟨fun h=>h.symm,fun h=>h.symm⟩
theorem Zkc (w : List UInt8) : ∀ l : List (List UInt8), (idx w l).isSome = l.any (fun x => decide (x = w))
  | []=>rfl
  | x :: l => by
    unfold idx
    rw[List.any_cons]
    by_cases h:x=w
    · rw[if_pos h];simp[h]
    · rw[if_neg h,Option.isSome_map,Zkc w l];simp[h]
theorem ZnD(s:ByteArray)(w:World) :
  Calls Tryz.prog 104 #[.string s] w fun e w'=>e=.returned (.bool (idx (bl s) ZG).isSome)/\w'=w:=by
 have e1:=ZdJ s [115,117,109]
 have e2:=ZdJ s [109,97,120]
 have e3:=ZdJ s [109,105,110]
 have e4:=ZdJ s [99,111,117,110,116]
 have HI:Hid ((idx (bl s) ZG).isSome=(decide ([115,117,109]=bl s) || (decide ([109,97,120]=bl s) || (decide ([109,105,110]=bl s) || (decide ([99,111,117,110,116]=bl s) || false))))):=Zkc _ _
 rw[HI.out]
 clear HI
 generalize decide ([115,117,109]=bl s)=b1 at *
 generalize decide ([109,97,120]=bl s)=b2 at *
 generalize decide ([109,105,110]=bl s)=b3 at *
 generalize decide ([99,111,117,110,116]=bl s)=b4 at *
 cases b1
 ·cases b2
  ·cases b3
   ·cases b4
    ·go_enter Tryz.func104,Tryz.ntmps104
     go_wp2
     go_ret
     exact⟨rfl,rfl⟩
    ·go_enter Tryz.func104,Tryz.ntmps104
     go_wp2
     go_ret
     exact⟨rfl,rfl⟩
   ·go_enter Tryz.func104,Tryz.ntmps104
    go_wp2
    go_ret
    exact⟨rfl,rfl⟩
  ·go_enter Tryz.func104,Tryz.ntmps104
   go_wp2
   go_ret
   exact⟨rfl,rfl⟩
 ·go_enter Tryz.func104,Tryz.ntmps104
  go_wp2
  go_ret
  exact⟨rfl,rfl⟩
theorem ZnE(s:ByteArray)(w:World) :
  Calls Tryz.prog 106 #[.string s] w fun e w'=>e=.returned (.bool (idx (bl s) ZV).isSome)/\w'=w:=by
 have e1:=ZdJ s [116,111,116,97,108]
 have e2:=ZdJ s [112,101,97,107]
 have e3:=ZdJ s [108,111,119]
 have e4:=ZdJ s [115,105,122,101]
 have e5:=ZdJ s [114,105,115,101]
 have HI:Hid ((idx (bl s) ZV).isSome=(decide ([116,111,116,97,108]=bl s) || (decide ([112,101,97,107]=bl s) || (decide ([108,111,119]=bl s) || (decide ([115,105,122,101]=bl s) || (decide ([114,105,115,101]=bl s) || false)))))):=Zkc _ _
 rw[HI.out]
 clear HI
 generalize decide ([116,111,116,97,108]=bl s)=b1 at *
 generalize decide ([112,101,97,107]=bl s)=b2 at *
 generalize decide ([108,111,119]=bl s)=b3 at *
 generalize decide ([115,105,122,101]=bl s)=b4 at *
 generalize decide ([114,105,115,101]=bl s)=b5 at *
 cases b1
 ·cases b2
  ·cases b3
   ·cases b4
    ·cases b5
     ·go_enter Tryz.func106,Tryz.ntmps106
      go_wp2
      go_ret
      exact⟨rfl,rfl⟩
     ·go_enter Tryz.func106,Tryz.ntmps106
      go_wp2
      go_ret
      exact⟨rfl,rfl⟩
    ·go_enter Tryz.func106,Tryz.ntmps106
     go_wp2
     go_ret
     exact⟨rfl,rfl⟩
   ·go_enter Tryz.func106,Tryz.ntmps106
    go_wp2
    go_ret
    exact⟨rfl,rfl⟩
  ·go_enter Tryz.func106,Tryz.ntmps106
   go_wp2
   go_ret
   exact⟨rfl,rfl⟩
 ·go_enter Tryz.func106,Tryz.ntmps106
  go_wp2
  go_ret
  exact⟨rfl,rfl⟩
theorem Zrv(s:ByteArray)(w:World) :
  Calls Tryz.prog 171 #[.string s] w fun e w'=>e=.returned (.bool (!decide (wOr=bl s) && !decide (wBy=bl s) && !(idx (bl s) ZG).isSome && !(idx (bl s) ZV).isSome))/\w'=w:=by
 have e1:=ZdJ s [111,114]
 have e2:=ZdJ s [98,121]
 have HG:Hid (∀w,Calls Tryz.prog 104 #[.string s] w fun e w'=>e=.returned (.bool (idx (bl s) ZG).isSome)/\w'=w):=ZnD s
 have HO:Hid (∀w,Calls Tryz.prog 106 #[.string s] w fun e w'=>e=.returned (.bool (idx (bl s) ZV).isSome)/\w'=w):=ZnE s
 show Calls _ _ _ _ fun e w'=>e=.returned (.bool (!decide ([111,114]=bl s) && !decide ([98,121]=bl s) && !(idx (bl s) ZG).isSome && !(idx (bl s) ZV).isSome))/\w'=w
 generalize decide ([111,114]=bl s)=b1 at *
 generalize decide ([98,121]=bl s)=b2 at *
 generalize(idx (bl s) ZG).isSome=b3 at *
 generalize(idx (bl s) ZV).isSome=b4 at *
 cases b1 <;> cases b2 <;> cases b3 <;> cases b4
 all_goals
  go_enter Tryz.func171,Tryz.ntmps171
  go_wp2_with (first|(go_at_call 104;refine(HG.out _).mono ?_;rintro e w' ⟨rfl,rfl⟩)|(go_at_call 106;refine(HO.out _).mono ?_;rintro e w' ⟨rfl,rfl⟩))
  go_ret
  exact⟨rfl,rfl⟩
def Zdg(t:Tok):Prop:=(t.kind=2->t.txt.all Zk=true)/\(t.kind=4->t.txt.all (fun c=>!Zk c)=true)
def Zd0:List Tok->Prop
 | []=>False
 | [t]=>t.kind=0∨t.kind=5
 | t::u::l=>(t.kind=1∨t.kind=2∨t.kind=3∨t.kind=4)/\Zdg t/\Zd0 (u::l)
theorem Zd0.tail{ts:List Tok}(h:Zd0 ts)(hl:¬((hd ts).kind=0∨(hd ts).kind=5)):Zd0 ts.tail/\1<ts.length:=by
 match ts,h with
 | [t],h=>exact absurd h hl
 | t::u::l,h=>exact⟨h.2.2,by simp⟩
theorem Zd0.head{ts:List Tok}(h:Zd0 ts):Zdg (hd ts)/\0<ts.length/\(hd ts).kind<=5:=by
 match ts,h with
 | [t],h=>
  have h':t.kind=0∨t.kind=5:=h
  refine⟨⟨fun e=>?_,fun e=>?_⟩,by simp,?_⟩
  ·exact absurd (show t.kind=2 from e) (by omega)
  ·exact absurd (show t.kind=4 from e) (by omega)
  ·show t.kind<=5;omega
 | t::u::l,h=>exact⟨h.2.1,by simp,by have:=h.1;show t.kind<=5;omega⟩
theorem Zi7{p:PTok}{l:List PTok}{ts:List Tok}(h:ZbX (p::l) ts):Zc1 p (hd ts)/\ZbX l ts.tail:=by
 match ts,h with
 | t::m,h=>exact h
structure RS where
 b:Nat
 g:Nat
 cp:Nat
 ps:List PTok
 sy:Addr
 dp:Addr
structure RK (w:World) (R:RS) (k:Nat) (ts:List Tok):Prop where
 rd:RD w R.b R.g R.cp R.ps k
 all:ZbX (R.ps.drop k) ts
 wf:Zd0 ts
 len:R.ps.length<=302
 sy:w.cell? ⟨1,0,none⟩=some (.iface 432 (.pointer (some R.sy)))
 dp:w.cell? ⟨2,0,none⟩=some (.iface 432 (.pointer (some R.dp)))
theorem RK.lt{w:World}{R:RS}{k:Nat}{ts:List Tok}(h:RK w R k ts):k<R.ps.length:=h.rd.lt
theorem RK.tok{w:World}{R:RS}{k:Nat}{ts:List Tok}(h:RK w R k ts):Zc1 (R.ps[k]'h.lt) (hd ts):=by
 have ha:=h.all
 rw[List.drop_eq_getElem_cons h.lt]at ha
 exact(Zi7 ha).1
theorem RK.size{w:World}{R:RS}{k:Nat}{ts:List Tok}(h:RK w R k ts):k+ts.length=R.ps.length:=by
 have:=h.all.length
 rw[List.length_drop]at this
 have:=h.lt
 omega
theorem Zmc{w:World}{b g:Nat}{c0 c1:Value}{u v:Value}{t:TypeId}(hb:w.heap[b]?=some (.cells #[c0,c1] t (0,0)))(hg:w.cell? ⟨g,0,none⟩=some v)(hne:c0≠v)(_:u=u):g≠b:=by
 rintro rfl
 simp[World.cell?,hb]at hg
 exact hne hg
theorem RK.glob{w:World}{R:RS}{k:Nat}{ts:List Tok}(h:RK w R k ts):1≠R.b/\2≠R.b:=
 ⟨Zmc (u:=.nilIface) h.rd.cells h.sy (by intro e;cases e) rfl,Zmc (u:=.nilIface) h.rd.cells h.dp (by intro e;cases e) rfl⟩
theorem RK.below{w w':World}{R:RS}{k:Nat}{ts:List Tok}(h:RK w R k ts)(hb:Below w.heap.size w w'):RK w' R k ts:=
 ⟨h.rd.below hb,h.all,h.wf,h.len,(hb.cell (p:=⟨_,0,none⟩) (World.block_lt_of_cell? _ _ h.sy)).trans h.sy,(hb.cell (p:=⟨_,0,none⟩) (World.block_lt_of_cell? _ _ h.dp)).trans h.dp⟩
theorem RK.blocks{w w':World}{R:RS}{k:Nat}{ts:List Tok}(h:RK w R k ts)(hg:∀j,j<w.heap.size->(j=R.b∨j=R.g∨j=1∨j=2)->w'.heap[j]?=w.heap[j]?):RK w' R k ts:=by
 have hsy:=World.block_lt_of_cell? _ _ h.sy
 have hdp:=World.block_lt_of_cell? _ _ h.dp
 refine⟨⟨?_,?_,h.lt⟩,h.all,h.wf,h.len,?_,?_⟩
 ·exact(hg _ (Array.getElem?_eq_some_iff.1 h.rd.cells).1 (Or.inl rfl)).trans h.rd.cells
 ·exact ZeY h.rd.own (fun j hj => by
    have:j=R.g:=by simpa [Value.ownBlock] using hj.symm
    subst this
    exact hg _ (Zbq h.rd.own) (Or.inr (Or.inl rfl)))
 ·exact(World.cell?_of_block (a:=⟨1,0,none⟩) (hg _ hsy (Or.inr (Or.inr (Or.inl rfl))))).trans h.sy
 ·exact(World.cell?_of_block (a:=⟨2,0,none⟩) (hg _ hdp (Or.inr (Or.inr (Or.inr rfl))))).trans h.dp
theorem RK.step{w:World}{R:RS}{k:Nat}{ts:List Tok}(h:RK w R k ts)(hl:¬((hd ts).kind=0∨(hd ts).kind=5)):RK (w.setCell ⟨R.b,1,none⟩ (.int .i64 ((k+1:Nat):Int))) R (k+1) ts.tail:=by
 obtain⟨hw,h1⟩:=h.wf.tail hl
 have hs:=h.size
 obtain⟨g1,g2⟩:=h.glob
 refine⟨h.rd.step (by omega),?_,hw,h.len,?_,?_⟩
 ·have ha:=h.all
  rw[List.drop_eq_getElem_cons h.lt]at ha
  exact(Zi7 ha).2
 ·exact(World.cell?_of_block (a:=⟨1,0,none⟩) (Go.Deep.blk_setCell_other _ _ _ _ g1)).trans h.sy
 ·exact(World.cell?_of_block (a:=⟨2,0,none⟩) (Go.Deep.blk_setCell_other _ _ _ _ g2)).trans h.dp
theorem Zcd.lt{w:World}{v:Value}{p:Int}{a:Addr}(h:Zcd w v p a):∃fa:Nat,v=.iface 81 (.pointer (some ⟨fa,0,none⟩)):=by
 obtain⟨fa,h1,_⟩:=h;exact⟨fa,h1⟩
theorem Zcd.grown{w w':World}{v:Value}{p:Int}{a:Addr}(h:Zcd w v p a){b:Nat}(hg:w.grownBy w' (some b)){c:Array Value}{t:TypeId}{fr:Nat×Nat}(hq:w.heap[b]?=some (.cells c t fr))(ht:t≠85):Zcd w' v p a:=by
 obtain⟨fa,h1,h2⟩:=h
 refine⟨fa,h1,(hg.block fa (Array.getElem?_eq_some_iff.1 h2).1 ?_).trans h2⟩
 intro e
 injection e with e
 subst e
 rw[h2]at hq
 injection hq with h3
 injection h3 with _ h4
 exact ht h4.symm
def Zba(w:World)(R:RS)(e:Nat×Nat)(v:Value):Prop:=(e.1=2/\Zcd w v e.2 R.sy)∨(e.1=3/\Zcd w v e.2 R.dp)
theorem Zba.below{w w':World}{R:RS}{e:Nat×Nat}{v:Value}(h:Zba w R e v)(hb:Below w.heap.size w w'):Zba w' R e v:=by
 rcases h with ⟨h1,h2⟩|⟨h1,h2⟩
 ·exact Or.inl ⟨h1,h2.below hb⟩
 ·exact Or.inr ⟨h1,h2.below hb⟩
theorem Zba.shape{w:World}{R:RS}{e:Nat×Nat}{v:Value}(h:Zba w R e v):∃fa:Nat,v=.iface 81 (.pointer (some ⟨fa,0,none⟩)):=by
 rcases h with ⟨_,h2⟩|⟨_,h2⟩ <;> exact h2.lt
def Res{α:Type}(R:RS)(V:World->α->Prop)(w:World)(r:Out α)(v:Value):Prop:=match r with
 | .error e=>Zba w R e v
 | .ok x=>v=.nilIface/\(∃k,RK w R k x.2)/\V w x.1
theorem Zey{k:Nat}(h:k<=5):(pk k=3 ↔ k=4)/\(pk k=1 ↔ k=2)/\(pk k=2 ↔ k=3)/\(pk k=0 ↔ k=1)/\(pk k=4 ↔ k=0):=by
 unfold pk
 match k,h with
 | 0,_=>decide
 | 1,_=>decide
 | 2,_=>decide
 | 3,_=>decide
 | 4,_=>decide
 | 5,_=>decide
theorem ZoI {l : List UInt8} (h1 : l.all Zk = true) (h2 : l.all (fun c => !Zk c) = true) : l = [] := by
  cases l with
  | nil=>rfl
  | cons a l=>
    simp at h1 h2
    rw[h1.1]at h2
    exact absurd h2.1 (by decide)
theorem Zdv {p : PTok} {t : Tok} (h : Zc1 p t) (hw : Zdg t) (hk : t.kind <= 5) {s : ByteArray} (hs : (bl s).all (fun c => !Zk c) = true) (hne : bl s ≠ []) : ZQ p s = isT (bl s) t := by
  obtain⟨h1,_,h3,_⟩:=h
  unfold ZQ isT
  rw[h1,ZbH,ZbH,h3]
  have hp:=(Zey hk).1
  by_cases hx:t.txt=bl s
  · rw[beq_iff_eq.2 hx,Bool.and_true,Bool.and_true]
    have h2:t.kind≠2:=fun e=>hne (by rw[<-hx];exact ZoI (hw.1 e) (by rw[hx];exact hs))
    rw[beq_eq_false_iff_ne.2 h2,Bool.false_or,Bool.eq_iff_iff,beq_iff_eq,beq_iff_eq]
    exact⟨fun e=>hp.1 (by omega),fun e=>by rw[hp.2 e];rfl⟩
  · rw[beq_eq_false_iff_ne.2 hx,Bool.and_false,Bool.and_false]
theorem ZlH{p:PTok}{t:Tok}(h:Zc1 p t)(hw:Zdg t)(hk:t.kind<=5){s:ByteArray}(hs:(bl s).all Zk=true)(hne:bl s≠[]):ZcY p s=isT (bl s) t:=by
 obtain⟨h1,_,h3,_⟩:=h
 unfold ZcY isT
 rw[h1,ZbH,ZbH,h3]
 have hp:=(Zey hk).2.1
 by_cases hx:t.txt=bl s
 ·rw[beq_iff_eq.2 hx,Bool.and_true,Bool.and_true]
  have h2:t.kind≠4:=fun e=>hne (by rw[<-hx];exact ZoI (by rw[hx];exact hs) (hw.2 e))
  rw[beq_eq_false_iff_ne.2 h2,Bool.or_false,Bool.eq_iff_iff,beq_iff_eq,beq_iff_eq]
  exact⟨fun e=>hp.1 (by omega),fun e=>by rw[hp.2 e];rfl⟩
 ·rw[beq_eq_false_iff_ne.2 hx,Bool.and_false,Bool.and_false]
theorem ZdL{s:List UInt8}{t:Tok}(h:isT s t=true):¬(t.kind=0∨t.kind=5):=by
 unfold isT at h
 rw[Bool.and_eq_true,Bool.or_eq_true,beq_iff_eq,beq_iff_eq]at h
 omega
theorem Took.res{w w':World}{R:RS}{k:Nat}{ts:List Tok}{ok:Bool}{v:Value}(h:RK w R k ts)(hg:w.grownBy w' (some R.b))(ht:Took w' R.b R.g R.cp R.ps k R.sy (R.ps[k]'h.lt).at_ ok v)(hl:ok=true->¬((hd ts).kind=0∨(hd ts).kind=5)){α:Type}{V:World->α->Prop}{a:α}(hV:ok=true->V w' a) :
  Res R V w' (if ok then .ok (a,ts.tail)else .error (2,(hd ts).at_)) v:=by
 have hat:(R.ps[k]'h.lt).at_=(hd ts).at_:=h.tok.2.1
 rcases ht with ⟨rfl,rfl,hr⟩|⟨rfl,he,hr⟩
 ·have hd':=hl rfl
  obtain⟨hw,h1⟩:=h.wf.tail hd'
  obtain⟨g1,g2⟩:=h.glob
  refine⟨rfl,⟨k+1,hr,?_,hw,h.len,?_,?_⟩,hV rfl⟩
  ·have ha:=h.all
   rw[List.drop_eq_getElem_cons h.lt]at ha
   exact(Zi7 ha).2
  ·exact(World.cell?_of_block (a:=⟨1,0,none⟩) (hg.block _ (World.block_lt_of_cell? _ _ h.sy) (fun e=>g1 (Option.some.inj e)))).trans h.sy
  ·exact(World.cell?_of_block (a:=⟨2,0,none⟩) (hg.block _ (World.block_lt_of_cell? _ _ h.dp) (fun e=>g2 (Option.some.inj e)))).trans h.dp
 ·rw[hat]at he
  exact Or.inl ⟨rfl,he⟩
theorem ZdA {w : World} {R : RS} {k : Nat} {ts : List Tok} (h : RK w R k ts) (s : ByteArray) (hs : (bl s).all (fun c => !Zk c) = true) (hne : bl s ≠ []) :
    Calls Tryz.prog 166 #[.pointer (some ⟨R.b,0,none⟩),.string s] w fun e w'=>∃v,e=.returned v/\Hid (Res R (fun _ (_:Unit)=>True) w' (Zp (bl s) ts) v)/\w.grownBy w' (some R.b):=by
  have hm:=Zdv h.tok h.wf.head.1 h.wf.head.2.2 hs hne
  have hl : ZQ (R.ps[k]'h.lt) s = true -> k + 1 < R.ps.length := fun e => by
    have:=(h.wf.tail (ZdL (hm.symm.trans e))).2
    have:=h.size
    omega
  refine(Zye h.rd s hl (by have:=h.len;omega) h.sy).mono ?_
  rintro e w' ⟨v,rfl,ht,hg⟩
  refine⟨v,rfl,?_,hg⟩
  have:=ht.res (α:=Unit) (V:=fun _ _=>True) (a:=()) h hg (fun e=>ZdL (hm.symm.trans e)) (fun _=>trivial)
  rw[hm]at this
  exact this
theorem Zyi{w:World}{R:RS}{k:Nat}{ts:List Tok}(h:RK w R k ts)(s:ByteArray)(hs:(bl s).all Zk=true)(hne:bl s≠[]) :
  Calls Tryz.prog 167 #[.pointer (some ⟨R.b,0,none⟩),.string s] w fun e w'=>∃v,e=.returned v/\Hid (Res R (fun _ (_:Unit)=>True) w' (Zp (bl s) ts) v)/\w.grownBy w' (some R.b):=by
 have hm:=ZlH h.tok h.wf.head.1 h.wf.head.2.2 hs hne
 have hl : ZcY (R.ps[k]'h.lt) s = true -> k + 1 < R.ps.length := fun e => by
   have:=(h.wf.tail (ZdL (hm.symm.trans e))).2
   have:=h.size
   omega
 refine(Zyh h.rd s hl (by have:=h.len;omega) h.sy).mono ?_
 rintro e w' ⟨v,rfl,ht,hg⟩
 refine⟨v,rfl,?_,hg⟩
 have:=ht.res (α:=Unit) (V:=fun _ _=>True) (a:=()) h hg (fun e=>ZdL (hm.symm.trans e)) (fun _=>trivial)
 rw[hm]at this
 exact this
theorem Zvd{p:PTok}{t:Tok}(h:Zc1 p t)(hk:t.kind<=5):Zex p=decide (t.kind=2):=by
 unfold Zex
 rw[h.1,Bool.eq_iff_iff,beq_iff_eq,decide_eq_true_iff]
 have hp:=(Zey hk).2.1
 exact⟨fun e=>hp.1 (by omega),fun e=>by rw[hp.2 e];rfl⟩
theorem ZiT{w:World}{R:RS}{k:Nat}{ts:List Tok}(h:RK w R k ts) :
  Calls Tryz.prog 169 #[.pointer (some ⟨R.b,0,none⟩)] w fun e w'=>∃(x:ByteArray) (v:Value),e=.returned (.tuple #[.string x,v])/\Hid (Res R (fun _ a=>bl x=a) w' (ZD 2 ts) v)/\w.grownBy w' (some R.b):=by
 have hm:=Zvd h.tok h.wf.head.2.2
 have hd' : Zex (R.ps[k]'h.lt) = true -> ¬ ((hd ts).kind = 0 ∨ (hd ts).kind = 5) := fun e => by
   have:(hd ts).kind=2:=of_decide_eq_true (hm.symm.trans e)
   omega
 have hl : Zex (R.ps[k]'h.lt) = true -> k + 1 < R.ps.length := fun e => by
   have:=(h.wf.tail (hd' e)).2
   have:=h.size
   omega
 refine(Zyf h.rd hl (by have:=h.len;omega) h.sy).mono ?_
 rintro e w' ⟨x,v,rfl,ht,hg⟩
 refine⟨x,v,rfl,?_,hg⟩
 have:=ht.1.res (α:=List UInt8) (V:=fun _ a=>bl x=a) (a:=(hd ts).txt) h hg hd' (fun e=>by rw[ht.2 e];exact h.tok.2.2.1)
 rw[hm]at this
 unfold ZD
 by_cases hk:(hd ts).kind=2
 ·rw[if_pos hk];rw[decide_eq_true hk]at this;exact this
 ·rw[if_neg hk];rw[decide_eq_false hk]at this;exact this
theorem ZeP{w:World}{R:RS}{k:Nat}{ts:List Tok}(h:RK w R k ts) :
  Calls Tryz.prog 30 #[.pointer (some ⟨R.b,0,none⟩)] w fun e w'=>∃v,e=.returned v/\Hid (Zba w' R (2,(hd ts).at_) v)/\Below w.heap.size w w':=by
 refine(Zhx h.rd h.sy).mono ?_
 rintro e w' ⟨v,rfl,hv,hb⟩
 refine⟨v,rfl,Or.inl ⟨rfl,?_⟩,hb⟩
 have:=hv.out
 rw[h.tok.2.1]at this
 exact this
theorem ZdU{w:World}{R:RS}{k:Nat}{ts:List Tok}(h:RK w R k ts) :
  Calls Tryz.prog 29 #[.pointer (some ⟨R.b,0,none⟩)] w fun e w'=>∃t:PTok,e=.returned (.agg #[.int .i64 t.kd,.int .i64 t.at_,.string t.tx,.int .i64 t.v])/\Hid (Zc1 t (hd ts))/\Below w.heap.size w w':=by
 refine(Zhj h.rd).mono ?_
 rintro e w' ⟨rfl,hb⟩
 exact⟨_,rfl,h.tok,hb⟩
theorem Zfj {t : PTok} {u : Tok} (h : Zc1 t u) (hw : Zdg u) (hk : u.kind <= 5) (s : ByteArray) (hs : (bl s).all (fun c => !Zk c) = true) (hne : bl s ≠ []) (w : World) :
    Calls Tryz.prog 102 #[.agg #[.int .i64 t.kd,.int .i64 t.at_,.string t.tx,.int .i64 t.v],.string s] w fun e w'=>e=.returned (.bool (isT (bl s) u))/\Below w.heap.size w w':=by
  rw[<-Zdv h hw hk hs hne]
  exact Zkf t s w
theorem Zba.grown{w w':World}{R:RS}{e:Nat×Nat}{v:Value}(h:Zba w R e v){b:Nat}(hg:w.grownBy w' (some b)){c:Array Value}{t:TypeId}{fr:Nat×Nat}(hq:w.heap[b]?=some (.cells c t fr))(ht:t≠85):Zba w' R e v:=by
 rcases h with ⟨h1,h2⟩|⟨h1,h2⟩
 ·exact Or.inl ⟨h1,h2.grown hg hq ht⟩
 ·exact Or.inr ⟨h1,h2.grown hg hq ht⟩
def BAt(w:World)(a:Nat)(c:List Value)(t:TypeId):Prop:=w.heap[a]?=some (.cells ⟨c⟩ t (0,0))
theorem BAt.cell{w:World}{a:Nat}{c:List Value}{t:TypeId}(h:BAt w a c t)(i:Nat):w.cell? ⟨a,i,none⟩=c[i]?:=by
 unfold BAt at h;simp[World.cell?,h]
theorem BAt.frozen{w:World}{a:Nat}{c:List Value}{t:TypeId}(h:BAt w a c t)(i:Nat):w.frozen? ⟨a,i,none⟩=false:=by
 unfold BAt at h;simp[World.frozen?,h]
theorem BAt.lt{w:World}{a:Nat}{c:List Value}{t:TypeId}(h:BAt w a c t):a<w.heap.size:=(Array.getElem?_eq_some_iff.1 h).1
theorem BAt.grown{w w':World}{a:Nat}{c:List Value}{t:TypeId}{r:Option Nat}(h:BAt w a c t)(hg:w.grownBy w' r)(hn:some a≠r):BAt w' a c t:=(hg.block a h.lt hn).trans h
theorem BAt.below{w w':World}{a:Nat}{c:List Value}{t:TypeId}(h:BAt w a c t)(hb:Below w.heap.size w w'):BAt w' a c t:=(hb.block a h.lt).trans h
theorem BAt.other{w:World}{a:Nat}{c:List Value}{t:TypeId}(h:BAt w a c t){p:Addr}(hp:a≠p.block)(v:Value):BAt (w.setCell p v) a c t:=(Go.Deep.blk_setCell_other _ _ _ _ hp).trans h
def set3(w:World)(a:Nat)(x y z:Value):World:=((w.setCell ⟨a,0,none⟩ x).setCell ⟨a,1,none⟩ y).setCell ⟨a,2,none⟩ z
theorem Zf1{w:World}{a:Nat}{p q r x y z:Value}{t:TypeId}(h:BAt w a [p,q,r] t):BAt (set3 w a x y z) a [x,y,z] t:=by
 unfold BAt at h
 unfold BAt set3
 simp only[World.setCell,Array.getElem?_modify,h,if_true,Option.map_some];rfl
theorem Zpw(w:World)(a:Nat)(x y z:Value){b:Nat}(hb:b≠a):(set3 w a x y z).heap[b]?=w.heap[b]?:=by
 unfold set3
 rw[Go.Deep.blk_setCell_other _ _ _ _ hb,Go.Deep.blk_setCell_other _ _ _ _ hb,Go.Deep.blk_setCell_other _ _ _ _ hb]
theorem Zf2{w0 w:World}{a b:Nat}(h:w0.grownBy w (some b))(ha:w0.heap.size<=a)(x y z:Value):w0.grownBy (set3 w a x y z) (some b):=
 Zbm (Zbm (Zbm h (Or.inr ha) _) (Or.inr ha) _) (Or.inr ha) _
theorem RK.fresh{w0 w w':World}{R:RS}{k0 k:Nat}{ts0 ts:List Tok}(h0:RK w0 R k0 ts0)(h:RK w R k ts){a:Nat}(ha:w0.heap.size<=a)(hg:∀j,j≠a->w'.heap[j]?=w.heap[j]?):RK w' R k ts:=by
 refine h.blocks (fun j _ hj=>hg j ?_)
 have h1:=(Array.getElem?_eq_some_iff.1 h0.rd.cells).1
 have h2:=Zbq h0.rd.own
 have h3:=World.block_lt_of_cell? _ _ h0.sy
 have h4:=World.block_lt_of_cell? _ _ h0.dp
 have h3':1<w0.heap.size:=h3
 have h4':2<w0.heap.size:=h4
 rcases hj with rfl|rfl|rfl|rfl <;> omega
theorem Zba.set3{w:World}{R:RS}{e:Nat×Nat}{v:Value}(h:Zba w R e v){a:Nat}{c:List Value}{t:TypeId}(hq:BAt w a c t)(ht:t≠85)(x y z:Value):Zba (set3 w a x y z) R e v:=by
 refine h.grown (b:=a) ?_ hq ht
 exact Zbm (Zbm (Zbm (Zfi w (some a)) (Or.inl rfl) _) (Or.inl rfl) _) (Or.inl rfl) _
theorem ZeU{k:Nat}{ts:List Tok}(h:(hd ts).kind=k):ZD k ts=.ok ((hd ts).txt,ts.tail):=if_pos h
theorem Zfm{k:Nat}{ts:List Tok}(h:¬(hd ts).kind=k):ZD k ts=.error (2,(hd ts).at_):=if_neg h
theorem ZgZ{s:List UInt8}{t:Tok}(h:isT s t=true):t.txt=s:=by
 unfold isT at h
 rw[Bool.and_eq_true,beq_iff_eq]at h
 exact h.2
theorem Zev{s u:List UInt8}{t:Tok}(h:isT s t=true)(hne:s≠u):isT u t=false:=by
 have:=ZgZ h
 unfold isT
 rw[this,beq_eq_false_iff_ne.2 hne,Bool.and_false]
theorem Z9{P:Program}{c:Code}{Q:Exit->Act->World->Prop}{a:Act}{w:World}(h:∀W,W=w->Code.wp P c Q a W):Code.wp P c Q a w:=h w rfl
theorem ZK{P:Program}{f:FuncId}{args:Array Value}{w:World}{Q:Ending->World->Prop}(h:∀W,W=w->Calls P f args W Q):Calls P f args w Q:=h w rfl
theorem Zmz{w:World}{R:RS}{k:Nat}{ts:List Tok}(h:RK w R k ts) :
  Calls Tryz.prog 173 #[.pointer (some ⟨R.b,0,none⟩)] w fun e w'=>∃(x:ByteArray) (ng:Bool) (y:ByteArray) (v:Value),e=.returned (.tuple #[.agg #[.string x,.bool ng,.string y],v])/\Hid (Res R (fun _ c=>bl x=c.1/\bl y=c.2.1/\ng=c.2.2) w' (ZO ts) v)/\w.grownBy w' (some R.b):=by
 have H:Hid (RK w R k ts):=h
 have hbl:R.b<w.heap.size:=(Array.getElem?_eq_some_iff.1 h.rd.cells).1
 clear h
 go_enter Tryz.func173,Tryz.ntmps173
 go_wp2_with fail
 refine ZK fun W0 hW0=>?_
 have HK0:Hid (RK W0 R k ts):=hid (by rw[hW0];exact H.below Zbal)
 have HC0:Hid (BAt W0 w.heap.size [.string ByteArray.empty,.bool false,.string ByteArray.empty] 224):=hid (by rw[hW0];exact Go.Deep.blk_alloc_new _ _)
 have HG0:Hid (w.grownBy W0 (some R.b)):=hid (by rw[hW0];exact Zdi (Zfi _ _) _)
 clear hW0
 refine(ZiT HK0.out).mono ?_
 rintro e w1 ⟨x,v,rfl,hres,hg⟩
 have HC1:Hid (BAt w1 w.heap.size [.string ByteArray.empty,.bool false,.string ByteArray.empty] 224):=HC0.grown hg (by simp;omega)
 have HG1:Hid (w.grownBy w1 (some R.b)):=Zy HG0.out hg
 clear hg
 by_cases hk2:(hd ts).kind=2
 ·rw[ZeU hk2]at hres
  obtain⟨rfl,⟨k1,hk1⟩,hx⟩:=hres.out
  have HK1:Hid (RK w1 R k1 ts.tail):=hk1
  have HX:Hid (bl x=(hd ts).txt):=hx
  clear hres hk1 hx
  go_wp2_with fail
  refine(ZdU HK1.out).mono ?_
  rintro e w2 ⟨⟨kd,at_,tx,tv⟩,rfl,ht,hb2⟩
  have HC2:=hid (HC1.below hb2)
  have HG2:Hid (w.grownBy w2 (some R.b)):=Zy HG1.out (ZR hb2)
  have HK2:Hid (RK w2 R k1 ts.tail):=HK1.below hb2
  clear hb2
  go_wp2_with fail
  refine ZK fun W1 hW1=>?_
  have hb1:Below w2.heap.size w2 W1:=by rw[hW1];exact Zbal
  have HS1:Hid (BAt W1 w2.heap.size [.int .i64 kd,.int .i64 at_,.string tx,.int .i64 tv] 74):=hid (by rw[hW1];exact Go.Deep.blk_alloc_new _ _)
  have HCW:=hid (HC2.below hb1)
  have HGW:Hid (w.grownBy W1 (some R.b)):=Zy HG2.out (ZR hb1)
  have HKW:Hid (RK W1 R k1 ts.tail):=HK2.below hb1
  clear hb1 hW1
  refine(Zfj ht.out HKW.wf.head.1 HKW.wf.head.2.2 ⟨#[61]⟩ (by decide) (by decide) W1).mono ?_
  rintro e w3 ⟨rfl,hb3⟩
  have HS3:=hid (HS1.below hb3)
  have HC3:=hid (HCW.below hb3)
  have HG3:Hid (w.grownBy w3 (some R.b)):=Zy HGW.out (ZR hb3)
  have HK3:Hid (RK w3 R k1 ts.tail):=HKW.below hb3
  clear hb3 HS1 HCW HGW HKW
  by_cases hA:isT [61] (hd ts.tail)=true
  ·rw[show isT (bl ⟨#[61]⟩) (hd ts.tail)=true from hA]
   have htx:tx=⟨#[61]⟩:=ZeN (ht.2.2.1.trans (ZgZ hA))
   subst htx
   have HD:Hid (¬((hd ts.tail).kind=0∨(hd ts.tail).kind=5)):=ZdL hA
   have HXP:Hid (ZO ts=bnd (ZD 3 ts.tail.tail) fun b r=>.ok (((hd ts).txt,b,false),r)):=hid (by unfold ZO;rw[ZeU hk2];show bnd (Zc9 ts.tail) _=_;unfold Zc9;rw[if_neg (by rw[Zev hA (by decide)];decide)];unfold Zp;rw[if_pos hA];rfl)
   have HK4:=HK3
   have HG4:=HG3
   have HC4:=HC3
   have HS4:=HS3
   clear HK3 HG3 HC3 HS3
   clear hA
   obtain⟨rc0,rc1,rfz,_⟩:=HK4.rd.all
   have hlt:=HK4.lt
   have hln:=HK4.len
   go_wp2_with fail
   refine ZK fun W4 hW4=>?_
   have HK5:Hid (RK W4 R (k1+1) ts.tail.tail):=hid (by rw[hW4];exact HK4.step HD.out)
   have HG5:Hid (w.grownBy W4 (some R.b)):=hid (by rw[hW4];exact Zbm HG4.out (Or.inl rfl) _)
   have HC5:Hid (BAt W4 w.heap.size [.string ByteArray.empty,.bool false,.string ByteArray.empty] 224):=hid (by rw[hW4];exact HC4.other (by show w.heap.size≠R.b;omega) _)
   have HS5:Hid (BAt W4 w2.heap.size [.int .i64 kd,.int .i64 at_,.string ⟨#[61]⟩,.int .i64 tv] 74):=hid (by rw[hW4];exact HS4.other (by show w2.heap.size≠R.b;have:=HG2.size;omega) _)
   clear hW4 rc0 rc1 rfz
   refine(ZdU HK5.out).mono ?_
   rintro e w5 ⟨⟨kd2,at2,tx2,tv2⟩,rfl,ht2,hb5⟩
   have HC6:=hid (HC5.below hb5)
   have HS6:=hid (HS5.below hb5)
   have HG6:Hid (w.grownBy w5 (some R.b)):=Zy HG5.out (ZR hb5)
   have HK6:Hid (RK w5 R (k1+1) ts.tail.tail):=HK5.below hb5
   clear hb5 HK5 HG5 HC5 HS5
   go_upto_region 9 with fail
   refine Z9 fun W6 hW6=>?_
   have hb6:Below w5.heap.size w5 W6:=by rw[hW6];exact Zbal
   have HT7:Hid (BAt W6 w5.heap.size [.int .i64 kd2,.int .i64 at2,.string tx2,.int .i64 tv2] 74):=hid (by rw[hW6];exact Go.Deep.blk_alloc_new _ _)
   have HC7:=hid (HC6.below hb6)
   have HS7:=hid (HS6.below hb6)
   have HG7:Hid (w.grownBy W6 (some R.b)):=Zy HG6.out (ZR hb6)
   have HK7:Hid (RK W6 R (k1+1) ts.tail.tail):=HK6.below hb6
   have hz5:R.b<w5.heap.size:=by have:=HG6.size;omega
   clear hW6 hb6 HC6 HS6 HK6 HG6
   have t0:=HT7.cell 0
   simp only[List.getElem?_cons_zero]at t0
   by_cases hk3:(hd ts.tail.tail).kind=3
   ·have hkd:kd2=2:=by have:=ht2.1;rw[hk3]at this;exact this
    subst hkd
    have HXC:Hid (ZO ts=.ok (((hd ts).txt,(hd ts.tail.tail).txt,false),ts.tail.tail.tail)):=hid (by rw[HXP.out,ZeU hk3];rfl)
    have HTX:Hid (bl tx2=(hd ts.tail.tail).txt):=ht2.2.2.1
    obtain⟨rc0,rc1,rfz,_⟩:=HK7.rd.all
    have hlt2:=HK7.lt
    go_upto_region 12 with fail
    refine Z9 fun W8 hW8=>?_
    have HK8:Hid (RK W8 R (k1+1+1) ts.tail.tail.tail):=hid (by rw[hW8];exact HK7.step (by omega))
    have HG8:Hid (w.grownBy W8 (some R.b)):=hid (by rw[hW8];exact Zbm HG7.out (Or.inl rfl) _)
    have HC8:Hid (BAt W8 w.heap.size [.string ByteArray.empty,.bool false,.string ByteArray.empty] 224):=hid (by rw[hW8];exact HC7.other (by show w.heap.size≠R.b;omega) _)
    have HS8:Hid (BAt W8 w2.heap.size [.int .i64 kd,.int .i64 at_,.string ⟨#[61]⟩,.int .i64 tv] 74):=hid (by rw[hW8];exact HS7.other (by show w2.heap.size≠R.b;have:=HG2.size;omega) _)
    have HT8:Hid (BAt W8 w5.heap.size [.int .i64 2,.int .i64 at2,.string tx2,.int .i64 tv2] 74):=hid (by rw[hW8];exact HT7.other (by show w5.heap.size≠R.b;omega) _)
    clear hW8 rc0 rc1 rfz t0
    have f0:=HC8.frozen 0
    have f1:=HC8.frozen 1
    have f2:=HC8.frozen 2
    have c0:=HC8.cell 0
    have c1:=HC8.cell 1
    have c2:=HC8.cell 2
    have d2:=HS8.cell 2
    have e2:=HT8.cell 2
    simp only[Zget]at c0 c1 c2 d2 e2
    go_wp2
    change bodyPost _ _ _ _ _ (set3 W8 w.heap.size (.string x) (.bool false) (.string tx2))
    have s:=Zf1 HC8.out (x:=.string x) (y:=.bool false) (z:=.string tx2)
    have s0:=s.cell 0
    have s1:=s.cell 1
    have s2:=s.cell 2
    simp only[Zget]at s0 s1 s2
    have HKX:Hid (RK (set3 W8 w.heap.size (.string x) (.bool false) (.string tx2)) R (k1+1+1) ts.tail.tail.tail):=hid (RK.fresh H.out HK8.out (Nat.le_refl _) (fun j hj=>Zpw _ _ _ _ _ hj))
    have HGX:Hid (w.grownBy (set3 W8 w.heap.size (.string x) (.bool false) (.string tx2)) (some R.b)):=Zf2 HG8.out (Nat.le_refl _) _ _ _
    generalize set3 W8 w.heap.size (.string x) (.bool false) (.string tx2)=WX at *
    exact bodyPost_ret (v:=.tuple #[.agg #[.string x,.bool false,.string tx2],.nilIface]) (by simp[results,Tryz.results173,go_sem,s0,s1,s2]) rfl ⟨_,_,_,_,rfl,by rw[HXC.out];exact⟨rfl,⟨_,HKX.out⟩,HX.out,HTX.out,rfl⟩,HGX.out⟩
   ·have hkd:((kd2:Int) != 2)=true:=by
     rw[bne_iff_ne];intro e
     exact hk3 ((Zey HK7.wf.head.2.2).2.2.1.1 (by have:=ht2.1;simp only at this;omega))
    have HPE:Hid (ZO ts=.error (2,(hd ts.tail.tail).at_)):=hid (by rw[HXP.out,Zfm hk3];rfl)
    go_wp2_with fail
    refine(ZeP HK7.out).mono ?_
    rintro e wE ⟨v,rfl,HE,hbE⟩
    obtain⟨fa,rfl⟩:=HE.shape
    have HCE:=hid (HC7.below hbE)
    have HGE:Hid (w.grownBy wE (some R.b)):=Zy HG7.out (ZR hbE)
    clear hbE
    have f0:=HCE.frozen 0
    have f1:=HCE.frozen 1
    have f2:=HCE.frozen 2
    have c0:=HCE.cell 0
    have c1:=HCE.cell 1
    have c2:=HCE.cell 2
    simp only[Zget]at c0 c1 c2
    go_wp2
    change bodyPost _ _ _ _ _ (set3 wE w.heap.size (.string ⟨#[]⟩) (.bool false) (.string ⟨#[]⟩))
    have s:=Zf1 HCE.out (x:=.string ⟨#[]⟩) (y:=.bool false) (z:=.string ⟨#[]⟩)
    have s0:=s.cell 0
    have s1:=s.cell 1
    have s2:=s.cell 2
    simp only[Zget]at s0 s1 s2
    have HE2:Hid (Zba (set3 wE w.heap.size (.string ⟨#[]⟩) (.bool false) (.string ⟨#[]⟩)) R (2,(hd ts.tail.tail).at_) (.iface 81 (.pointer (some ⟨fa,0,none⟩)))):=HE.set3 HCE.out (by decide) _ _ _
    have HGX:Hid (w.grownBy (set3 wE w.heap.size (.string ⟨#[]⟩) (.bool false) (.string ⟨#[]⟩)) (some R.b)):=Zf2 HGE.out (Nat.le_refl _) _ _ _
    generalize set3 wE w.heap.size (.string ⟨#[]⟩) (.bool false) (.string ⟨#[]⟩)=WX at *
    exact bodyPost_ret (v:=.tuple #[.agg #[.string ⟨#[]⟩,.bool false,.string ⟨#[]⟩],.iface 81 (.pointer (some ⟨fa,0,none⟩))]) (by simp[results,Tryz.results173,go_sem,s0,s1,s2]) rfl ⟨_,_,_,_,rfl,by rw[HPE.out];exact HE2,HGX.out⟩
  ·rw[show isT (bl ⟨#[61]⟩) (hd ts.tail)=false from Bool.eq_false_iff.2 hA]
   have d0:=HS3.cell 0
   have d1:=HS3.cell 1
   have d2:=HS3.cell 2
   have d3:=HS3.cell 3
   simp only[Zget]at d0 d1 d2 d3
   go_wp2_with fail
   clear d0 d1 d2 d3
   refine(Zfj ht.out HK3.wf.head.1 HK3.wf.head.2.2 ⟨#[33,61]⟩ (by decide) (by decide) w3).mono ?_
   rintro e w4 ⟨rfl,hb4⟩
   have HS4:=hid (HS3.below hb4)
   have HC4:=hid (HC3.below hb4)
   have HG4:Hid (w.grownBy w4 (some R.b)):=Zy HG3.out (ZR hb4)
   have HK4:Hid (RK w4 R k1 ts.tail):=HK3.below hb4
   clear hb4 HS3 HC3 HG3 HK3
   by_cases hB:isT [33,61] (hd ts.tail)=true
   ·rw[show isT (bl ⟨#[33,61]⟩) (hd ts.tail)=true from hB]
    have htx:tx=⟨#[33,61]⟩:=ZeN (ht.2.2.1.trans (ZgZ hB))
    subst htx
    have HD:Hid (¬((hd ts.tail).kind=0∨(hd ts.tail).kind=5)):=ZdL hB
    have HXP:Hid (ZO ts=bnd (ZD 3 ts.tail.tail) fun b r=>.ok (((hd ts).txt,b,true),r)):=hid (by unfold ZO;rw[ZeU hk2];show bnd (Zc9 ts.tail) _=_;unfold Zc9;rw[if_pos hB];rfl)
    clear hA hB
    obtain⟨rc0,rc1,rfz,_⟩:=HK4.rd.all
    have hlt:=HK4.lt
    have hln:=HK4.len
    go_wp2_with fail
    refine ZK fun W4 hW4=>?_
    have HK5:Hid (RK W4 R (k1+1) ts.tail.tail):=hid (by rw[hW4];exact HK4.step HD.out)
    have HG5:Hid (w.grownBy W4 (some R.b)):=hid (by rw[hW4];exact Zbm HG4.out (Or.inl rfl) _)
    have HC5:Hid (BAt W4 w.heap.size [.string ByteArray.empty,.bool false,.string ByteArray.empty] 224):=hid (by rw[hW4];exact HC4.other (by show w.heap.size≠R.b;omega) _)
    have HS5:Hid (BAt W4 w2.heap.size [.int .i64 kd,.int .i64 at_,.string ⟨#[33,61]⟩,.int .i64 tv] 74):=hid (by rw[hW4];exact HS4.other (by show w2.heap.size≠R.b;have:=HG2.size;omega) _)
    clear hW4 rc0 rc1 rfz
    refine(ZdU HK5.out).mono ?_
    rintro e w5 ⟨⟨kd2,at2,tx2,tv2⟩,rfl,ht2,hb5⟩
    have HC6:=hid (HC5.below hb5)
    have HS6:=hid (HS5.below hb5)
    have HG6:Hid (w.grownBy w5 (some R.b)):=Zy HG5.out (ZR hb5)
    have HK6:Hid (RK w5 R (k1+1) ts.tail.tail):=HK5.below hb5
    clear hb5 HK5 HG5 HC5 HS5
    go_upto_region 9 with fail
    refine Z9 fun W6 hW6=>?_
    have hb6:Below w5.heap.size w5 W6:=by rw[hW6];exact Zbal
    have HT7:Hid (BAt W6 w5.heap.size [.int .i64 kd2,.int .i64 at2,.string tx2,.int .i64 tv2] 74):=hid (by rw[hW6];exact Go.Deep.blk_alloc_new _ _)
    have HC7:=hid (HC6.below hb6)
    have HS7:=hid (HS6.below hb6)
    have HG7:Hid (w.grownBy W6 (some R.b)):=Zy HG6.out (ZR hb6)
    have HK7:Hid (RK W6 R (k1+1) ts.tail.tail):=HK6.below hb6
    have hz5:R.b<w5.heap.size:=by have:=HG6.size;omega
    clear hW6 hb6 HC6 HS6 HK6 HG6
    have t0:=HT7.cell 0
    simp only[List.getElem?_cons_zero]at t0
    by_cases hk3:(hd ts.tail.tail).kind=3
    ·have hkd:kd2=2:=by have:=ht2.1;rw[hk3]at this;exact this
     subst hkd
     have HXC:Hid (ZO ts=.ok (((hd ts).txt,(hd ts.tail.tail).txt,true),ts.tail.tail.tail)):=hid (by rw[HXP.out,ZeU hk3];rfl)
     have HTX:Hid (bl tx2=(hd ts.tail.tail).txt):=ht2.2.2.1
     obtain⟨rc0,rc1,rfz,_⟩:=HK7.rd.all
     have hlt2:=HK7.lt
     go_upto_region 12 with fail
     refine Z9 fun W8 hW8=>?_
     have HK8:Hid (RK W8 R (k1+1+1) ts.tail.tail.tail):=hid (by rw[hW8];exact HK7.step (by omega))
     have HG8:Hid (w.grownBy W8 (some R.b)):=hid (by rw[hW8];exact Zbm HG7.out (Or.inl rfl) _)
     have HC8:Hid (BAt W8 w.heap.size [.string ByteArray.empty,.bool false,.string ByteArray.empty] 224):=hid (by rw[hW8];exact HC7.other (by show w.heap.size≠R.b;omega) _)
     have HS8:Hid (BAt W8 w2.heap.size [.int .i64 kd,.int .i64 at_,.string ⟨#[33,61]⟩,.int .i64 tv] 74):=hid (by rw[hW8];exact HS7.other (by show w2.heap.size≠R.b;have:=HG2.size;omega) _)
     have HT8:Hid (BAt W8 w5.heap.size [.int .i64 2,.int .i64 at2,.string tx2,.int .i64 tv2] 74):=hid (by rw[hW8];exact HT7.other (by show w5.heap.size≠R.b;omega) _)
     clear hW8 rc0 rc1 rfz t0
     have f0:=HC8.frozen 0
     have f1:=HC8.frozen 1
     have f2:=HC8.frozen 2
     have c0:=HC8.cell 0
     have c1:=HC8.cell 1
     have c2:=HC8.cell 2
     have d2:=HS8.cell 2
     have e2:=HT8.cell 2
     simp only[Zget]at c0 c1 c2 d2 e2
     go_wp2
     change bodyPost _ _ _ _ _ (set3 W8 w.heap.size (.string x) (.bool true) (.string tx2))
     have s:=Zf1 HC8.out (x:=.string x) (y:=.bool true) (z:=.string tx2)
     have s0:=s.cell 0
     have s1:=s.cell 1
     have s2:=s.cell 2
     simp only[Zget]at s0 s1 s2
     have HKX:Hid (RK (set3 W8 w.heap.size (.string x) (.bool true) (.string tx2)) R (k1+1+1) ts.tail.tail.tail):=hid (RK.fresh H.out HK8.out (Nat.le_refl _) (fun j hj=>Zpw _ _ _ _ _ hj))
     have HGX:Hid (w.grownBy (set3 W8 w.heap.size (.string x) (.bool true) (.string tx2)) (some R.b)):=Zf2 HG8.out (Nat.le_refl _) _ _ _
     generalize set3 W8 w.heap.size (.string x) (.bool true) (.string tx2)=WX at *
     exact bodyPost_ret (v:=.tuple #[.agg #[.string x,.bool true,.string tx2],.nilIface]) (by simp[results,Tryz.results173,go_sem,s0,s1,s2]) rfl ⟨_,_,_,_,rfl,by rw[HXC.out];exact⟨rfl,⟨_,HKX.out⟩,HX.out,HTX.out,rfl⟩,HGX.out⟩
    ·have hkd:((kd2:Int) != 2)=true:=by
      rw[bne_iff_ne];intro e
      exact hk3 ((Zey HK7.wf.head.2.2).2.2.1.1 (by have:=ht2.1;simp only at this;omega))
     have HPE:Hid (ZO ts=.error (2,(hd ts.tail.tail).at_)):=hid (by rw[HXP.out,Zfm hk3];rfl)
     go_wp2_with fail
     refine(ZeP HK7.out).mono ?_
     rintro e wE ⟨v,rfl,HE,hbE⟩
     obtain⟨fa,rfl⟩:=HE.shape
     have HCE:=hid (HC7.below hbE)
     have HGE:Hid (w.grownBy wE (some R.b)):=Zy HG7.out (ZR hbE)
     clear hbE
     have f0:=HCE.frozen 0
     have f1:=HCE.frozen 1
     have f2:=HCE.frozen 2
     have c0:=HCE.cell 0
     have c1:=HCE.cell 1
     have c2:=HCE.cell 2
     simp only[Zget]at c0 c1 c2
     go_wp2
     change bodyPost _ _ _ _ _ (set3 wE w.heap.size (.string ⟨#[]⟩) (.bool false) (.string ⟨#[]⟩))
     have s:=Zf1 HCE.out (x:=.string ⟨#[]⟩) (y:=.bool false) (z:=.string ⟨#[]⟩)
     have s0:=s.cell 0
     have s1:=s.cell 1
     have s2:=s.cell 2
     simp only[Zget]at s0 s1 s2
     have HE2:Hid (Zba (set3 wE w.heap.size (.string ⟨#[]⟩) (.bool false) (.string ⟨#[]⟩)) R (2,(hd ts.tail.tail).at_) (.iface 81 (.pointer (some ⟨fa,0,none⟩)))):=HE.set3 HCE.out (by decide) _ _ _
     have HGX:Hid (w.grownBy (set3 wE w.heap.size (.string ⟨#[]⟩) (.bool false) (.string ⟨#[]⟩)) (some R.b)):=Zf2 HGE.out (Nat.le_refl _) _ _ _
     generalize set3 wE w.heap.size (.string ⟨#[]⟩) (.bool false) (.string ⟨#[]⟩)=WX at *
     exact bodyPost_ret (v:=.tuple #[.agg #[.string ⟨#[]⟩,.bool false,.string ⟨#[]⟩],.iface 81 (.pointer (some ⟨fa,0,none⟩))]) (by simp[results,Tryz.results173,go_sem,s0,s1,s2]) rfl ⟨_,_,_,_,rfl,by rw[HPE.out];exact HE2,HGX.out⟩
   ·rw[show isT (bl ⟨#[33,61]⟩) (hd ts.tail)=false from Bool.eq_false_iff.2 hB]
    have HPE:Hid (ZO ts=.error (2,(hd ts.tail).at_)):=hid (by unfold ZO;rw[ZeU hk2];show bnd (Zc9 ts.tail) _=_;unfold Zc9;rw[if_neg hB];unfold Zp;rw[if_neg hA];rfl)
    clear hA hB
    go_wp2_with fail
    refine(ZeP HK4.out).mono ?_
    rintro e wE ⟨v,rfl,HE,hbE⟩
    obtain⟨fa,rfl⟩:=HE.shape
    have HCE:=hid (HC4.below hbE)
    have HGE:Hid (w.grownBy wE (some R.b)):=Zy HG4.out (ZR hbE)
    clear hbE
    have f0:=HCE.frozen 0
    have f1:=HCE.frozen 1
    have f2:=HCE.frozen 2
    have c0:=HCE.cell 0
    have c1:=HCE.cell 1
    have c2:=HCE.cell 2
    simp only[Zget]at c0 c1 c2
    go_wp2
    change bodyPost _ _ _ _ _ (set3 wE w.heap.size (.string ⟨#[]⟩) (.bool false) (.string ⟨#[]⟩))
    have s:=Zf1 HCE.out (x:=.string ⟨#[]⟩) (y:=.bool false) (z:=.string ⟨#[]⟩)
    have s0:=s.cell 0
    have s1:=s.cell 1
    have s2:=s.cell 2
    simp only[Zget]at s0 s1 s2
    have HE2:Hid (Zba (set3 wE w.heap.size (.string ⟨#[]⟩) (.bool false) (.string ⟨#[]⟩)) R (2,(hd ts.tail).at_) (.iface 81 (.pointer (some ⟨fa,0,none⟩)))):=HE.set3 HCE.out (by decide) _ _ _
    have HGX:Hid (w.grownBy (set3 wE w.heap.size (.string ⟨#[]⟩) (.bool false) (.string ⟨#[]⟩)) (some R.b)):=Zf2 HGE.out (Nat.le_refl _) _ _ _
    generalize set3 wE w.heap.size (.string ⟨#[]⟩) (.bool false) (.string ⟨#[]⟩)=WX at *
    exact bodyPost_ret (v:=.tuple #[.agg #[.string ⟨#[]⟩,.bool false,.string ⟨#[]⟩],.iface 81 (.pointer (some ⟨fa,0,none⟩))]) (by simp[results,Tryz.results173,go_sem,s0,s1,s2]) rfl ⟨_,_,_,_,rfl,by rw[HPE.out];exact HE2,HGX.out⟩
 ·rw[Zfm hk2]at hres
  obtain⟨fa,rfl⟩:=hres.shape
  have HE:Hid (Zba w1 R (2,(hd ts).at_) _):=hres.out
  have HP:Hid (ZO ts=.error (2,(hd ts).at_)):=hid (by unfold ZO;rw[Zfm hk2];rfl)
  have f0:=HC1.frozen 0
  have f1:=HC1.frozen 1
  have f2:=HC1.frozen 2
  have c0:=HC1.cell 0
  have c1:=HC1.cell 1
  have c2:=HC1.cell 2
  simp only[Zget]at c0 c1 c2
  clear hres
  go_wp2
  change bodyPost _ _ _ _ _ (set3 w1 w.heap.size (.string ⟨#[]⟩) (.bool false) (.string ⟨#[]⟩))
  have s:=Zf1 HC1.out (x:=.string ⟨#[]⟩) (y:=.bool false) (z:=.string ⟨#[]⟩)
  have s0:=s.cell 0
  have s1:=s.cell 1
  have s2:=s.cell 2
  simp only[Zget]at s0 s1 s2
  have HE2:Hid (Zba (set3 w1 w.heap.size (.string ⟨#[]⟩) (.bool false) (.string ⟨#[]⟩)) R (2,(hd ts).at_) (.iface 81 (.pointer (some ⟨fa,0,none⟩)))):=HE.set3 HC1.out (by decide) _ _ _
  have HG2:Hid (w.grownBy (set3 w1 w.heap.size (.string ⟨#[]⟩) (.bool false) (.string ⟨#[]⟩)) (some R.b)):=Zf2 HG1.out (Nat.le_refl _) _ _ _
  generalize set3 w1 w.heap.size (.string ⟨#[]⟩) (.bool false) (.string ⟨#[]⟩)=WX at *
  exact bodyPost_ret (v:=.tuple #[.agg #[.string ⟨#[]⟩,.bool false,.string ⟨#[]⟩],.iface 81 (.pointer (some ⟨fa,0,none⟩))]) (by simp[results,Tryz.results173,go_sem,s0,s1,s2]) rfl ⟨_,_,_,_,rfl,by rw[HP.out];exact HE2,HG2.out⟩
end Go.Proofs.YtcdgkkfipdoeeaaGreatDoor

/- Parts. -/
import Derived.Test.YtkodhpilkaihjaaGreatDoorF03
set_option maxHeartbeats 1000000
namespace Go.Proofs.YtkodhpilkaihjaaGreatDoor
open Go.RowKit LS
def ZbV:List PTok->List Tok->Prop
 | [],[]=>True
 | p::ps,t::ts=>ZcY p t/\ZbV ps ts
 | _,_=>False
theorem ZbV.snoc:∀ {ps:List PTok} {ts:List Tok} {p:PTok} {t:Tok},ZbV ps ts->ZcY p t->ZbV (ps++[p]) (ts++[t])
 | [],[],_,_,_,h=>⟨h,trivial⟩
 | _::ps,_::ts,_,_,h,h'=>⟨h.1,ZbV.snoc (ps:=ps) (ts:=ts) h.2 h'⟩
 | [],_::_,_,_,h,_=>h.elim
 | _::_,[],_,_,h,_=>h.elim
theorem ZbV.length:∀ {ps:List PTok} {ts:List Tok},ZbV ps ts->ps.length=ts.length
 | [],[],_=>rfl
 | _::ps,_::ts,h=>by rw[List.length_cons,List.length_cons,ZbV.length (ps:=ps) (ts:=ts) h.2]
 | [],_::_,h=>h.elim
 | _::_,[],h=>h.elim
theorem Zri{l:List UInt8}{n i:Nat}{t:Tok}{e:Nat}(hl:Zs l i=(t,e))(hk:¬(t.kind=0∨t.kind=5)):ZU l (n+1) i=t::ZU l n e:=by
 show(if (Zs l i).1.kind=0∨(Zs l i).1.kind=5 then [(Zs l i).1] else (Zs l i).1::ZU l n (Zs l i).2)=_
 rw[hl,if_neg hk]
theorem Zrh{l:List UInt8}{n i:Nat}{t:Tok}{e:Nat}(hl:Zs l i=(t,e))(hk:t.kind=0∨t.kind=5):ZU l (n+1) i=[t]:=by
 show(if (Zs l i).1.kind=0∨(Zs l i).1.kind=5 then [(Zs l i).1] else (Zs l i).1::ZU l n (Zs l i).2)=_
 rw[hl,if_pos hk]
def ZbY(s:ByteArray)(ps:List PTok)(at_:Nat):Prop:=at_<=s.size/\ps.length<=at_/\∃ts m,ZU (bl s) ((bl s).length+1) 0=ts++ZU (bl s) m at_/\s.size+1<=m+at_/\ZbV ps ts
theorem ZbY.start(s:ByteArray):ZbY s [] 0:=⟨Nat.zero_le _,Nat.le_refl _,[],(bl s).length+1,rfl,by rw[Ze];omega,trivial⟩
theorem ZbY.skip{s:ByteArray}{ps:List PTok}{at_:Nat}(h:ZbY s ps at_)(hlt:at_<s.size)(hc:s[at_]=32):ZbY s ps (at_+1):=by
 obtain⟨_,h2,ts,m,h3,h4,h5⟩:=h
 refine⟨hlt,by omega,ts,m,?_,by omega,h5⟩
 rw[h3]
 congr 1
 cases m with
 | zero=>rfl
 | succ m=>
  show(if (Zs (bl s) at_).1.kind=0∨(Zs (bl s) at_).1.kind=5 then [(Zs (bl s) at_).1] else (Zs (bl s) at_).1::ZU (bl s) m (Zs (bl s) at_).2)=_
  rw[Zrp s at_ hlt hc]
  rfl
theorem ZbY.token{s:ByteArray}{ps:List PTok}{at_:Nat}(h:ZbY s ps at_){t:Tok}{e:Nat}(hl:Zs (bl s) at_=(t,e))(hk:¬(t.kind=0∨t.kind=5)){p:PTok}(hp:ZcY p t):ZbY s (ps++[p]) e:=by
 obtain⟨h1,h2,ts,m,h3,h4,h5⟩:=h
 have hg:=ZiB (bl s) at_ (by rw[Ze];exact h1)
 rw[hl]at hg
 have hgt:=hg.1 (fun h=>hk (Or.inl h))
 have hle:=hg.2
 rw[Ze]at hle
 simp only at hgt hle
 obtain⟨m',rfl⟩:∃m',m=m'+1:=⟨m - 1,by omega⟩
 refine⟨hle,by simp;omega,ts++[t],m',?_,by omega,h5.snoc hp⟩
 rw[h3,Zri hl hk,List.append_assoc]
 rfl
theorem ZbY.done{s:ByteArray}{ps:List PTok}{at_:Nat}(h:ZbY s ps at_){t:Tok}{e:Nat}(hl:Zs (bl s) at_=(t,e))(hk:t.kind=0∨t.kind=5){p:PTok}(hp:ZcY p t):ZbV (ps++[p]) (ZU (bl s) ((bl s).length+1) 0):=by
 obtain⟨h1,h2,ts,m,h3,h4,h5⟩:=h
 obtain⟨m',rfl⟩:∃m',m=m'+1:=⟨m - 1,by omega⟩
 rw[h3,Zrh hl hk]
 exact h5.snoc hp
theorem Zlh(s:ByteArray):Zs (bl s) s.size=(⟨0,[],s.size⟩,s.size):=by
 unfold Zs
 have hd:(bl s).drop s.size=[]:=List.drop_of_length_le (by rw[Ze];exact Nat.le_refl _)
 rw[hd]
 show lexJ (bl s) s.size=_
 unfold lexJ
 rw[hd]
theorem Zrj{s:ByteArray}{k:Nat}(h:k<s.size)(hd:Zt s[k]=true):Zs (bl s) k=(if (ZE 1000000000 (((bl s).drop k).take (run Zt ((bl s).drop k)))).isSome then ⟨1,((bl s).drop k).take (run Zt ((bl s).drop k)),k⟩else ⟨5,[],k⟩,k+run Zt ((bl s).drop k)):=by
 have hne:s[k]≠32:=by rintro e;rw[e]at hd;revert hd;decide
 rw[Zg9 s k h hne]
 unfold lexC
 rw[if_pos hd,<-ZdA s k h]
theorem Zrk{s:ByteArray}{k:Nat}(h:k<s.size)(hd:Zt s[k]=false)(hl:Zl s[k]=true):Zs (bl s) k=(if 8<run Zl ((bl s).drop k)then ⟨5,[],k⟩else ⟨2,((bl s).drop k).take (run Zl ((bl s).drop k)),k⟩,k+run Zl ((bl s).drop k)):=by
 have hne:s[k]≠32:=by rintro e;rw[e]at hl;revert hl;decide
 rw[Zg9 s k h hne]
 unfold lexC
 rw[if_neg (by rw[hd];exact Bool.false_ne_true),if_pos hl,<-ZdA s k h]
theorem ZdB(s:ByteArray)(l:List UInt8):(s.toList == l)=decide (l=bl s):=by
 rw[Zba,Bool.eq_iff_iff,beq_iff_eq,decide_eq_true_iff]
 exact⟨fun h=>h.symm,fun h=>h.symm⟩
theorem Zit (w : List UInt8) : ∀ l : List (List UInt8), (idx w l).isSome = l.any (fun x => decide (x = w))
  | []=>rfl
  | x :: l => by
    unfold idx
    rw[List.any_cons]
    by_cases h:x=w
    · rw[if_pos h];simp[h]
    · rw[if_neg h,Option.isSome_map,Zit w l];simp[h]
theorem ZkY(s:ByteArray)(w:World) :
  Calls Tryz.prog 187 #[.string s] w fun e w'=>e=.returned (.bool (idx (bl s) Zbp).isSome)/\w'=w:=by
 have e1:=ZdB s [115,117,109]
 have e2:=ZdB s [109,97,120]
 have e3:=ZdB s [109,105,110]
 have e4:=ZdB s [99,111,117,110,116]
 have HI:Hid ((idx (bl s) Zbp).isSome=(decide ([115,117,109]=bl s) || (decide ([109,97,120]=bl s) || (decide ([109,105,110]=bl s) || (decide ([99,111,117,110,116]=bl s) || false))))):=Zit _ _
 rw[HI.out]
 clear HI
 generalize decide ([115,117,109]=bl s)=b1 at *
 generalize decide ([109,97,120]=bl s)=b2 at *
 generalize decide ([109,105,110]=bl s)=b3 at *
 generalize decide ([99,111,117,110,116]=bl s)=b4 at *
 cases b1
 ·cases b2
  ·cases b3
   ·cases b4
    ·go_enter Tryz.func187,Tryz.ntmps187
     go_wp2
     go_ret
     exact⟨rfl,rfl⟩
    ·go_enter Tryz.func187,Tryz.ntmps187
     go_wp2
     go_ret
     exact⟨rfl,rfl⟩
   ·go_enter Tryz.func187,Tryz.ntmps187
    go_wp2
    go_ret
    exact⟨rfl,rfl⟩
  ·go_enter Tryz.func187,Tryz.ntmps187
   go_wp2
   go_ret
   exact⟨rfl,rfl⟩
 ·go_enter Tryz.func187,Tryz.ntmps187
  go_wp2
  go_ret
  exact⟨rfl,rfl⟩
theorem Zk0(s:ByteArray)(w:World) :
  Calls Tryz.prog 189 #[.string s] w fun e w'=>e=.returned (.bool (idx (bl s) ZbF).isSome)/\w'=w:=by
 have e1:=ZdB s [116,111,116,97,108]
 have e2:=ZdB s [112,101,97,107]
 have e3:=ZdB s [108,111,119]
 have e4:=ZdB s [115,105,122,101]
 have e5:=ZdB s [114,105,115,101]
 have HI:Hid ((idx (bl s) ZbF).isSome=(decide ([116,111,116,97,108]=bl s) || (decide ([112,101,97,107]=bl s) || (decide ([108,111,119]=bl s) || (decide ([115,105,122,101]=bl s) || (decide ([114,105,115,101]=bl s) || false)))))):=Zit _ _
 rw[HI.out]
 clear HI
 generalize decide ([116,111,116,97,108]=bl s)=b1 at *
 generalize decide ([112,101,97,107]=bl s)=b2 at *
 generalize decide ([108,111,119]=bl s)=b3 at *
 generalize decide ([115,105,122,101]=bl s)=b4 at *
 generalize decide ([114,105,115,101]=bl s)=b5 at *
 cases b1
 ·cases b2
  ·cases b3
   ·cases b4
    ·cases b5
     ·go_enter Tryz.func189,Tryz.ntmps189
      go_wp2
      go_ret
      exact⟨rfl,rfl⟩
     ·go_enter Tryz.func189,Tryz.ntmps189
      go_wp2
      go_ret
      exact⟨rfl,rfl⟩
    ·go_enter Tryz.func189,Tryz.ntmps189
     go_wp2
     go_ret
     exact⟨rfl,rfl⟩
   ·go_enter Tryz.func189,Tryz.ntmps189
    go_wp2
    go_ret
    exact⟨rfl,rfl⟩
  ·go_enter Tryz.func189,Tryz.ntmps189
   go_wp2
   go_ret
   exact⟨rfl,rfl⟩
 ·go_enter Tryz.func189,Tryz.ntmps189
  go_wp2
  go_ret
  exact⟨rfl,rfl⟩
theorem Zoj(s:ByteArray)(w:World) :
  Calls Tryz.prog 238 #[.string s] w fun e w'=>e=.returned (.bool (!decide (wOr=bl s) && !decide (wBy=bl s) && !(idx (bl s) Zbp).isSome && !(idx (bl s) ZbF).isSome))/\w'=w:=by
 have e1:=ZdB s [111,114]
 have e2:=ZdB s [98,121]
 have HG:Hid (∀w,Calls Tryz.prog 187 #[.string s] w fun e w'=>e=.returned (.bool (idx (bl s) Zbp).isSome)/\w'=w):=ZkY s
 have HO:Hid (∀w,Calls Tryz.prog 189 #[.string s] w fun e w'=>e=.returned (.bool (idx (bl s) ZbF).isSome)/\w'=w):=Zk0 s
 show Calls _ _ _ _ fun e w'=>e=.returned (.bool (!decide ([111,114]=bl s) && !decide ([98,121]=bl s) && !(idx (bl s) Zbp).isSome && !(idx (bl s) ZbF).isSome))/\w'=w
 generalize decide ([111,114]=bl s)=b1 at *
 generalize decide ([98,121]=bl s)=b2 at *
 generalize(idx (bl s) Zbp).isSome=b3 at *
 generalize(idx (bl s) ZbF).isSome=b4 at *
 cases b1 <;> cases b2 <;> cases b3 <;> cases b4
 all_goals
  go_enter Tryz.func238,Tryz.ntmps238
  go_wp2_with (first|(go_at_call 187;refine(HG.out _).mono ?_;rintro e w' ⟨rfl,rfl⟩)|(go_at_call 189;refine(HO.out _).mono ?_;rintro e w' ⟨rfl,rfl⟩))
  go_ret
  exact⟨rfl,rfl⟩
def Zc6(t:Tok):Prop:=(t.kind=2->t.txt.all Zl=true)/\(t.kind=4->t.txt.all (fun c=>!Zl c)=true)
def ZdV:List Tok->Prop
 | []=>False
 | [t]=>t.kind=0∨t.kind=5
 | t::u::l=>(t.kind=1∨t.kind=2∨t.kind=3∨t.kind=4)/\Zc6 t/\ZdV (u::l)
theorem ZdV.tail{ts:List Tok}(h:ZdV ts)(hl:¬((hd ts).kind=0∨(hd ts).kind=5)):ZdV ts.tail/\1<ts.length:=by
 match ts,h with
 | [t],h=>exact absurd h hl
 | t::u::l,h=>exact⟨h.2.2,by simp⟩
theorem ZdV.head{ts:List Tok}(h:ZdV ts):Zc6 (hd ts)/\0<ts.length/\(hd ts).kind<=5:=by
 match ts,h with
 | [t],h=>
  have h':t.kind=0∨t.kind=5:=h
  refine⟨⟨fun e=>?_,fun e=>?_⟩,by simp,?_⟩
  ·exact absurd (show t.kind=2 from e) (by omega)
  ·exact absurd (show t.kind=4 from e) (by omega)
  ·show t.kind<=5;omega
 | t::u::l,h=>exact⟨h.2.1,by simp,by have:=h.1;show t.kind<=5;omega⟩
theorem ZhN{p:PTok}{l:List PTok}{ts:List Tok}(h:ZbV (p::l) ts):ZcY p (hd ts)/\ZbV l ts.tail:=by
 match ts,h with
 | t::m,h=>exact h
structure RS where
 b:Nat
 g:Nat
 cp:Nat
 ps:List PTok
 sy:Addr
 dp:Addr
structure RK (w:World) (R:RS) (k:Nat) (ts:List Tok):Prop where
 rd:RD w R.b R.g R.cp R.ps k
 all:ZbV (R.ps.drop k) ts
 wf:ZdV ts
 len:R.ps.length<=302
 sy:w.cell? ⟨1,0,none⟩=some (.iface 491 (.pointer (some R.sy)))
 dp:w.cell? ⟨2,0,none⟩=some (.iface 491 (.pointer (some R.dp)))
theorem RK.lt{w:World}{R:RS}{k:Nat}{ts:List Tok}(h:RK w R k ts):k<R.ps.length:=h.rd.lt
theorem RK.tok{w:World}{R:RS}{k:Nat}{ts:List Tok}(h:RK w R k ts):ZcY (R.ps[k]'h.lt) (hd ts):=by
 have ha:=h.all
 rw[List.drop_eq_getElem_cons h.lt]at ha
 exact(ZhN ha).1
theorem RK.size{w:World}{R:RS}{k:Nat}{ts:List Tok}(h:RK w R k ts):k+ts.length=R.ps.length:=by
 have:=h.all.length
 rw[List.length_drop]at this
 have:=h.lt
 omega
theorem ZjS{w:World}{b g:Nat}{c0 c1:Value}{u v:Value}{t:TypeId}(hb:w.heap[b]?=some (.cells #[c0,c1] t (0,0)))(hg:w.cell? ⟨g,0,none⟩=some v)(hne:c0≠v)(_:u=u):g≠b:=by
 rintro rfl
 simp[World.cell?,hb]at hg
 exact hne hg
theorem RK.glob{w:World}{R:RS}{k:Nat}{ts:List Tok}(h:RK w R k ts):1≠R.b/\2≠R.b:=
 ⟨ZjS (u:=.nilIface) h.rd.cells h.sy (by intro e;cases e) rfl,ZjS (u:=.nilIface) h.rd.cells h.dp (by intro e;cases e) rfl⟩
theorem RK.below{w w':World}{R:RS}{k:Nat}{ts:List Tok}(h:RK w R k ts)(hb:Below w.heap.size w w'):RK w' R k ts:=
 ⟨h.rd.below hb,h.all,h.wf,h.len,(hb.cell (p:=⟨_,0,none⟩) (World.block_lt_of_cell? _ _ h.sy)).trans h.sy,(hb.cell (p:=⟨_,0,none⟩) (World.block_lt_of_cell? _ _ h.dp)).trans h.dp⟩
theorem RK.blocks{w w':World}{R:RS}{k:Nat}{ts:List Tok}(h:RK w R k ts)(hg:∀j,j<w.heap.size->(j=R.b∨j=R.g∨j=1∨j=2)->w'.heap[j]?=w.heap[j]?):RK w' R k ts:=by
 have hsy:=World.block_lt_of_cell? _ _ h.sy
 have hdp:=World.block_lt_of_cell? _ _ h.dp
 refine⟨⟨?_,?_,h.lt⟩,h.all,h.wf,h.len,?_,?_⟩
 ·exact(hg _ (Array.getElem?_eq_some_iff.1 h.rd.cells).1 (Or.inl rfl)).trans h.rd.cells
 ·exact Zem h.rd.own (fun j hj => by
    have:j=R.g:=by simpa [Value.ownBlock] using hj.symm
    subst this
    exact hg _ (ZbX h.rd.own) (Or.inr (Or.inl rfl)))
 ·exact(World.cell?_of_block (a:=⟨1,0,none⟩) (hg _ hsy (Or.inr (Or.inr (Or.inl rfl))))).trans h.sy
 ·exact(World.cell?_of_block (a:=⟨2,0,none⟩) (hg _ hdp (Or.inr (Or.inr (Or.inr rfl))))).trans h.dp
theorem RK.step{w:World}{R:RS}{k:Nat}{ts:List Tok}(h:RK w R k ts)(hl:¬((hd ts).kind=0∨(hd ts).kind=5)):RK (w.setCell ⟨R.b,1,none⟩ (.int .i64 ((k+1:Nat):Int))) R (k+1) ts.tail:=by
 obtain⟨hw,h1⟩:=h.wf.tail hl
 have hs:=h.size
 obtain⟨g1,g2⟩:=h.glob
 refine⟨h.rd.step (by omega),?_,hw,h.len,?_,?_⟩
 ·have ha:=h.all
  rw[List.drop_eq_getElem_cons h.lt]at ha
  exact(ZhN ha).2
 ·exact(World.cell?_of_block (a:=⟨1,0,none⟩) (Go.Deep.blk_setCell_other _ _ _ _ g1)).trans h.sy
 ·exact(World.cell?_of_block (a:=⟨2,0,none⟩) (Go.Deep.blk_setCell_other _ _ _ _ g2)).trans h.dp
theorem ZB.lt{w:World}{v:Value}{p:Int}{a:Addr}(h:ZB w v p a):∃fa:Nat,v=.iface 115 (.pointer (some ⟨fa,0,none⟩)):=by
 obtain⟨fa,h1,_⟩:=h;exact⟨fa,h1⟩
theorem ZB.grown{w w':World}{v:Value}{p:Int}{a:Addr}(h:ZB w v p a){b:Nat}(hg:w.grownBy w' (some b)){c:Array Value}{t:TypeId}{fr:Nat×Nat}(hq:w.heap[b]?=some (.cells c t fr))(ht:t≠119):ZB w' v p a:=by
 obtain⟨fa,h1,h2⟩:=h
 refine⟨fa,h1,(hg.block fa (Array.getElem?_eq_some_iff.1 h2).1 ?_).trans h2⟩
 intro e
 injection e with e
 subst e
 rw[h2]at hq
 injection hq with h3
 injection h3 with _ h4
 exact ht h4.symm
def Z6(w:World)(R:RS)(e:Nat×Nat)(v:Value):Prop:=(e.1=2/\ZB w v e.2 R.sy)∨(e.1=3/\ZB w v e.2 R.dp)
theorem Z6.below{w w':World}{R:RS}{e:Nat×Nat}{v:Value}(h:Z6 w R e v)(hb:Below w.heap.size w w'):Z6 w' R e v:=by
 rcases h with ⟨h1,h2⟩|⟨h1,h2⟩
 ·exact Or.inl ⟨h1,h2.below hb⟩
 ·exact Or.inr ⟨h1,h2.below hb⟩
theorem Z6.shape{w:World}{R:RS}{e:Nat×Nat}{v:Value}(h:Z6 w R e v):∃fa:Nat,v=.iface 115 (.pointer (some ⟨fa,0,none⟩)):=by
 rcases h with ⟨_,h2⟩|⟨_,h2⟩ <;> exact h2.lt
def Res{α:Type}(R:RS)(V:World->α->Prop)(w:World)(r:Out α)(v:Value):Prop:=match r with
 | .error e=>Z6 w R e v
 | .ok x=>v=.nilIface/\(∃k,RK w R k x.2)/\V w x.1
theorem Zen{k:Nat}(h:k<=5):(pk k=3 ↔ k=4)/\(pk k=1 ↔ k=2)/\(pk k=2 ↔ k=3)/\(pk k=0 ↔ k=1)/\(pk k=4 ↔ k=0):=by
 unfold pk
 match k,h with
 | 0,_=>decide
 | 1,_=>decide
 | 2,_=>decide
 | 3,_=>decide
 | 4,_=>decide
 | 5,_=>decide
theorem ZlJ {l : List UInt8} (h1 : l.all Zl = true) (h2 : l.all (fun c => !Zl c) = true) : l = [] := by
  cases l with
  | nil=>rfl
  | cons a l=>
    simp at h1 h2
    rw[h1.1]at h2
    exact absurd h2.1 (by decide)
theorem Zdr {p : PTok} {t : Tok} (h : ZcY p t) (hw : Zc6 t) (hk : t.kind <= 5) {s : ByteArray} (hs : (bl s).all (fun c => !Zl c) = true) (hne : bl s ≠ []) : ZI p s = isT (bl s) t := by
  obtain⟨h1,_,h3,_⟩:=h
  unfold ZI isT
  rw[h1,Zba,Zba,h3]
  have hp:=(Zen hk).1
  by_cases hx:t.txt=bl s
  · rw[beq_iff_eq.2 hx,Bool.and_true,Bool.and_true]
    have h2:t.kind≠2:=fun e=>hne (by rw[<-hx];exact ZlJ (hw.1 e) (by rw[hx];exact hs))
    rw[beq_eq_false_iff_ne.2 h2,Bool.false_or,Bool.eq_iff_iff,beq_iff_eq,beq_iff_eq]
    exact⟨fun e=>hp.1 (by omega),fun e=>by rw[hp.2 e];rfl⟩
  · rw[beq_eq_false_iff_ne.2 hx,Bool.and_false,Bool.and_false]
theorem Zjv{p:PTok}{t:Tok}(h:ZcY p t)(hw:Zc6 t)(hk:t.kind<=5){s:ByteArray}(hs:(bl s).all Zl=true)(hne:bl s≠[]):ZcV p s=isT (bl s) t:=by
 obtain⟨h1,_,h3,_⟩:=h
 unfold ZcV isT
 rw[h1,Zba,Zba,h3]
 have hp:=(Zen hk).2.1
 by_cases hx:t.txt=bl s
 ·rw[beq_iff_eq.2 hx,Bool.and_true,Bool.and_true]
  have h2:t.kind≠4:=fun e=>hne (by rw[<-hx];exact ZlJ (by rw[hx];exact hs) (hw.2 e))
  rw[beq_eq_false_iff_ne.2 h2,Bool.or_false,Bool.eq_iff_iff,beq_iff_eq,beq_iff_eq]
  exact⟨fun e=>hp.1 (by omega),fun e=>by rw[hp.2 e];rfl⟩
 ·rw[beq_eq_false_iff_ne.2 hx,Bool.and_false,Bool.and_false]
theorem ZdD{s:List UInt8}{t:Tok}(h:isT s t=true):¬(t.kind=0∨t.kind=5):=by
 unfold isT at h
 rw[Bool.and_eq_true,Bool.or_eq_true,beq_iff_eq,beq_iff_eq]at h
 omega
theorem Took.res{w w':World}{R:RS}{k:Nat}{ts:List Tok}{ok:Bool}{v:Value}(h:RK w R k ts)(hg:w.grownBy w' (some R.b))(ht:Took w' R.b R.g R.cp R.ps k R.sy (R.ps[k]'h.lt).at_ ok v)(hl:ok=true->¬((hd ts).kind=0∨(hd ts).kind=5)){α:Type}{V:World->α->Prop}{a:α}(hV:ok=true->V w' a) :
  Res R V w' (if ok then .ok (a,ts.tail)else .error (2,(hd ts).at_)) v:=by
 have hat:(R.ps[k]'h.lt).at_=(hd ts).at_:=h.tok.2.1
 rcases ht with ⟨rfl,rfl,hr⟩|⟨rfl,he,hr⟩
 ·have hd':=hl rfl
  obtain⟨hw,h1⟩:=h.wf.tail hd'
  obtain⟨g1,g2⟩:=h.glob
  refine⟨rfl,⟨k+1,hr,?_,hw,h.len,?_,?_⟩,hV rfl⟩
  ·have ha:=h.all
   rw[List.drop_eq_getElem_cons h.lt]at ha
   exact(ZhN ha).2
  ·exact(World.cell?_of_block (a:=⟨1,0,none⟩) (hg.block _ (World.block_lt_of_cell? _ _ h.sy) (fun e=>g1 (Option.some.inj e)))).trans h.sy
  ·exact(World.cell?_of_block (a:=⟨2,0,none⟩) (hg.block _ (World.block_lt_of_cell? _ _ h.dp) (fun e=>g2 (Option.some.inj e)))).trans h.dp
 ·rw[hat]at he
  exact Or.inl ⟨rfl,he⟩
theorem Zdv {w : World} {R : RS} {k : Nat} {ts : List Tok} (h : RK w R k ts) (s : ByteArray) (hs : (bl s).all (fun c => !Zl c) = true) (hne : bl s ≠ []) :
    Calls Tryz.prog 233 #[.pointer (some ⟨R.b,0,none⟩),.string s] w fun e w'=>∃v,e=.returned v/\Hid (Res R (fun _ (_:Unit)=>True) w' (Zp (bl s) ts) v)/\w.grownBy w' (some R.b):=by
  have hm:=Zdr h.tok h.wf.head.1 h.wf.head.2.2 hs hne
  have hl : ZI (R.ps[k]'h.lt) s = true -> k + 1 < R.ps.length := fun e => by
    have:=(h.wf.tail (ZdD (hm.symm.trans e))).2
    have:=h.size
    omega
  refine(Zu8 h.rd s hl (by have:=h.len;omega) h.sy).mono ?_
  rintro e w' ⟨v,rfl,ht,hg⟩
  refine⟨v,rfl,?_,hg⟩
  have:=ht.res (α:=Unit) (V:=fun _ _=>True) (a:=()) h hg (fun e=>ZdD (hm.symm.trans e)) (fun _=>trivial)
  rw[hm]at this
  exact this
theorem Zvb{w:World}{R:RS}{k:Nat}{ts:List Tok}(h:RK w R k ts)(s:ByteArray)(hs:(bl s).all Zl=true)(hne:bl s≠[]) :
  Calls Tryz.prog 234 #[.pointer (some ⟨R.b,0,none⟩),.string s] w fun e w'=>∃v,e=.returned v/\Hid (Res R (fun _ (_:Unit)=>True) w' (Zp (bl s) ts) v)/\w.grownBy w' (some R.b):=by
 have hm:=Zjv h.tok h.wf.head.1 h.wf.head.2.2 hs hne
 have hl : ZcV (R.ps[k]'h.lt) s = true -> k + 1 < R.ps.length := fun e => by
   have:=(h.wf.tail (ZdD (hm.symm.trans e))).2
   have:=h.size
   omega
 refine(Zva h.rd s hl (by have:=h.len;omega) h.sy).mono ?_
 rintro e w' ⟨v,rfl,ht,hg⟩
 refine⟨v,rfl,?_,hg⟩
 have:=ht.res (α:=Unit) (V:=fun _ _=>True) (a:=()) h hg (fun e=>ZdD (hm.symm.trans e)) (fun _=>trivial)
 rw[hm]at this
 exact this
theorem Zsj{p:PTok}{t:Tok}(h:ZcY p t)(hk:t.kind<=5):Zek p=decide (t.kind=2):=by
 unfold Zek
 rw[h.1,Bool.eq_iff_iff,beq_iff_eq,decide_eq_true_iff]
 have hp:=(Zen hk).2.1
 exact⟨fun e=>hp.1 (by omega),fun e=>by rw[hp.2 e];rfl⟩
theorem ZhA{w:World}{R:RS}{k:Nat}{ts:List Tok}(h:RK w R k ts) :
  Calls Tryz.prog 236 #[.pointer (some ⟨R.b,0,none⟩)] w fun e w'=>∃(x:ByteArray) (v:Value),e=.returned (.tuple #[.string x,v])/\Hid (Res R (fun _ a=>bl x=a) w' (ZH 2 ts) v)/\w.grownBy w' (some R.b):=by
 have hm:=Zsj h.tok h.wf.head.2.2
 have hd' : Zek (R.ps[k]'h.lt) = true -> ¬ ((hd ts).kind = 0 ∨ (hd ts).kind = 5) := fun e => by
   have:(hd ts).kind=2:=of_decide_eq_true (hm.symm.trans e)
   omega
 have hl : Zek (R.ps[k]'h.lt) = true -> k + 1 < R.ps.length := fun e => by
   have:=(h.wf.tail (hd' e)).2
   have:=h.size
   omega
 refine(Zu9 h.rd hl (by have:=h.len;omega) h.sy).mono ?_
 rintro e w' ⟨x,v,rfl,ht,hg⟩
 refine⟨x,v,rfl,?_,hg⟩
 have:=ht.1.res (α:=List UInt8) (V:=fun _ a=>bl x=a) (a:=(hd ts).txt) h hg hd' (fun e=>by rw[ht.2 e];exact h.tok.2.2.1)
 rw[hm]at this
 unfold ZH
 by_cases hk:(hd ts).kind=2
 ·rw[if_pos hk];rw[decide_eq_true hk]at this;exact this
 ·rw[if_neg hk];rw[decide_eq_false hk]at this;exact this
theorem Zey{w:World}{R:RS}{k:Nat}{ts:List Tok}(h:RK w R k ts) :
  Calls Tryz.prog 70 #[.pointer (some ⟨R.b,0,none⟩)] w fun e w'=>∃v,e=.returned v/\Hid (Z6 w' R (2,(hd ts).at_) v)/\Below w.heap.size w w':=by
 refine(ZgS h.rd h.sy).mono ?_
 rintro e w' ⟨v,rfl,hv,hb⟩
 refine⟨v,rfl,Or.inl ⟨rfl,?_⟩,hb⟩
 have:=hv.out
 rw[h.tok.2.1]at this
 exact this
theorem ZdO{w:World}{R:RS}{k:Nat}{ts:List Tok}(h:RK w R k ts) :
  Calls Tryz.prog 69 #[.pointer (some ⟨R.b,0,none⟩)] w fun e w'=>∃t:PTok,e=.returned (.agg #[.int .i64 t.kd,.int .i64 t.at_,.string t.tx,.int .i64 t.v])/\Hid (ZcY t (hd ts))/\Below w.heap.size w w':=by
 refine(Zgl h.rd).mono ?_
 rintro e w' ⟨rfl,hb⟩
 exact⟨_,rfl,h.tok,hb⟩
theorem ZeS {t : PTok} {u : Tok} (h : ZcY t u) (hw : Zc6 u) (hk : u.kind <= 5) (s : ByteArray) (hs : (bl s).all (fun c => !Zl c) = true) (hne : bl s ≠ []) (w : World) :
    Calls Tryz.prog 185 #[.agg #[.int .i64 t.kd,.int .i64 t.at_,.string t.tx,.int .i64 t.v],.string s] w fun e w'=>e=.returned (.bool (isT (bl s) u))/\Below w.heap.size w w':=by
  rw[<-Zdr h hw hk hs hne]
  exact Ziu t s w
end Go.Proofs.YtkodhpilkaihjaaGreatDoor

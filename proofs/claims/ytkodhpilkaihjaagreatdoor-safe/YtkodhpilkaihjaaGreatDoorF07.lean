/- Parts. -/
import Derived.Test.YtkodhpilkaihjaaGreatDoorF03
import Derived.Test.YtkodhpilkaihjaaGreatDoorF04
import Derived.Test.YtkodhpilkaihjaaGreatDoorF05
import Derived.Test.YtkodhpilkaihjaaGreatDoorF06
import Derived.Deep.RegionHeld3
import Derived.Deep.DrawnRows
set_option maxRecDepth 100000
set_option maxHeartbeats 4000000
namespace Go.Proofs.YtkodhpilkaihjaaGreatDoor
open Go.RowKit LS
def ZcS(o:Nat):Nat:=if o=0 then 0 else if o<=2 then 1 else 2
def Zd4(o:Nat):List UInt8:=if o=0 then [111,114] else if o=1 then [43] else if o=2 then [45] else if o=3 then [42] else [47]
theorem Zi3 (o : Nat) (ho : o <= 4) (w : World) : Calls Tryz.prog 125 #[.int .i64 o] w fun e w' => e = .returned (.int .i64 (ZcS o)) /\ w' = w := by
  have h:o=0∨o=1∨o=2∨o=3∨o=4:=by omega
  rcases h with rfl|rfl|rfl|rfl|rfl
  all_goals
    go_enter Tryz.func125,Tryz.ntmps125
    go_wp2
    go_ret
    exact⟨rfl,rfl⟩
theorem ZuB (o : Nat) (ho : o <= 4) (w : World) : Calls Tryz.prog 133 #[.int .i64 o] w fun e w' => e = .returned (.string ⟨(Zd4 o).toArray⟩) /\ w' = w := by
  have h:o=0∨o=1∨o=2∨o=3∨o=4:=by omega
  rcases h with rfl|rfl|rfl|rfl|rfl
  all_goals
    go_enter Tryz.func133,Tryz.ntmps133
    go_wp2
    go_ret
    exact⟨rfl,rfl⟩
def ZfP(t:PTok):Bool:=if ((t.kd:Int) == 0)then true else if ((t.kd:Int) == 1)then !(t.tx.toList == [111,114]) && !(t.tx.toList == [98,121])else ZI t ⟨#[45]⟩ || ZI t ⟨#[40]⟩
theorem ZnV(t:PTok)(w:World) :
  Calls Tryz.prog 184 #[.agg #[.int .i64 t.kd,.int .i64 t.at_,.string t.tx,.int .i64 t.v]] w fun e w'=>e=.returned (.bool (ZfP t))/\Below w.heap.size w w':=by
 have HT0:Hid (TAt (w.alloc (.cells #[.int .i64 t.kd,.int .i64 t.at_,.string t.tx,.int .i64 t.v] 167)) w.heap.size t):=Go.Deep.blk_alloc_new _ _
 have HB0:Hid (Below w.heap.size w (w.alloc (.cells #[.int .i64 t.kd,.int .i64 t.at_,.string t.tx,.int .i64 t.v] 167))):=Zbal
 obtain⟨x0,h0⟩:∃x,((t.kd:Int) == 0)=x:=⟨_,rfl⟩
 obtain⟨x1,h1⟩:∃x,((t.kd:Int) == 1)=x:=⟨_,rfl⟩
 obtain⟨y1,g1⟩:∃x,(t.tx.toList == [111,114])=x:=⟨_,rfl⟩
 obtain⟨y2,g2⟩:∃x,(t.tx.toList == [98,121])=x:=⟨_,rfl⟩
 obtain⟨z1,f1⟩:∃x,ZI t ⟨#[45]⟩=x:=⟨_,rfl⟩
 obtain⟨z2,f2⟩:∃x,ZI t ⟨#[40]⟩=x:=⟨_,rfl⟩
 have HF:Hid (ZfP t=if x0 then true else if x1 then !y1 && !y2 else z1 || z2):=hid (by unfold ZfP;rw[h0,h1,g1,g2,f1,f2])
 have HZ:Hid (ZI t ⟨#[45]⟩=z1/\ZI t ⟨#[40]⟩=z2):=⟨f1,f2⟩
 rw[HF.out]
 clear HF f1 f2
 cases x0
 ·cases x1
  ·go_enter Tryz.func184,Tryz.ntmps184
   go_wp2_with fail
   refine(Zfp t _ HZ.1 w _ w.heap.size HT0.out HB0.out).mono ?_
   rintro e w1 ⟨rfl,HT1,HB1⟩
   clear HT0 HB0
   cases z1
   ·obtain⟨k0,k1,k2,k3⟩:=TAt.all HT1.out
    go_wp2_with fail
    clear k0 k1 k2 k3
    refine(Zfp t _ HZ.2 w w1 w.heap.size HT1.out HB1.out).mono ?_
    rintro e w2 ⟨rfl,HT2,HB2⟩
    cases z2
    ·go_wp2
     go_ret
     exact⟨rfl,HB2.out⟩
    ·go_wp2
     go_ret
     exact⟨rfl,HB2.out⟩
   ·go_wp2
    go_ret
    exact⟨rfl,HB1.out⟩
  ·cases y1 <;> cases y2
   all_goals
    go_enter Tryz.func184,Tryz.ntmps184
    go_wp2
    go_ret
    exact⟨rfl,HB0.out⟩
 ·go_enter Tryz.func184,Tryz.ntmps184
  go_wp2
  go_ret
  exact⟨rfl,HB0.out⟩
def tw:List Tok->Nat
 | []=>0
 | t::r=>t.txt.length+30+tw r
def cw:List (List UInt8×List UInt8×Bool)->Nat
 | []=>0
 | c::r=>c.1.length+c.2.1.length+6+cw r
def nw:List (List UInt8)->Nat
 | []=>0
 | c::r=>c.length+1+nw r
def ownW(a:Nd):Nat:=24+a.name.length+cw a.conds+nw a.by_
def wT:Tr->Nat
 | .nil=>0
 | .node _ _ a l r=>ownW a+wT l+wT r
def isNil:Tr->Bool
 | .nil=>true
 | .node _ _ _ _ _=>false
def wfT:Tr->Prop
 | .nil=>True
 | .node _ _ a l r=>a.kind<=6/\a.op<=4/\(a.kind=4->a.op<=3)/\(a.kind=5->a.op<=3)/\0<=a.n/\a.n<=1000000000/\(3<=a.kind->isNil l=false)/\(a.kind=4∨a.kind=6->isNil r=false)/\(a.kind<=2->isNil l=true/\isNil r=true)/\(a.kind=3∨a.kind=5->isNil r=true)/\wfT l/\wfT r
theorem Zgn(ts:List Tok):tw ts.tail<=tw ts:=by
 cases ts with
 | nil=>exact Nat.le_refl _
 | cons t r=>show tw r<=t.txt.length+30+tw r;omega
theorem Zgm{ts:List Tok}(h:¬((hd ts).kind=0)):(hd ts).txt.length+30+tw ts.tail=tw ts:=by
 cases ts with
 | nil=>exact absurd rfl h
 | cons t r=>rfl
theorem Zd8{c:List UInt8}{ts:List Tok}{z:Unit×List Tok}(h:Zp c ts=.ok z):tw z.2+30<=tw ts:=by
 unfold Zp at h
 split at h
 ·rename_i e
  injection h with h;subst h
  have:=Zgm (fun h=>Zf0 e (Or.inl h))
  show tw ts.tail+30<=tw ts
  omega
 ·cases h
theorem ZhD{k:Nat}{ts:List Tok}{z:List UInt8×List Tok}(hk:k≠0)(h:ZH k ts=.ok z):tw z.2+z.1.length+30=tw ts:=by
 unfold ZH at h
 split at h
 ·rename_i e
  injection h with h;subst h
  have:=Zgm (ts:=ts) (by rw[e];exact hk)
  show tw ts.tail+(hd ts).txt.length+30=tw ts
  omega
 ·cases h
theorem Zkb(l m:List (List UInt8×List UInt8×Bool)):cw (l++m)=cw l+cw m:=by
 induction l with
 | nil=>simp[cw]
 | cons a l ih=>simp[cw,ih];omega
theorem Zst(l m:List (List UInt8)):nw (l++m)=nw l+nw m:=by
 induction l with
 | nil=>simp[nw]
 | cons a l ih=>simp[nw,ih];omega
theorem Zjp{α:Type}{item:List Tok->Out α}{close:List UInt8}(f:List α->Nat)(hf:∀t z l,item t=.ok z->f (l++[z.1])+tw z.2<=f l+tw t):∀(n:Nat) (acc:List α) (ts:List Tok) (z:List α×List Tok),ZM item close n acc ts=.ok z->f z.1+tw z.2<=f acc+tw ts
 | 0,_,_,_,h=>by cases h
 | n + 1, acc, ts, z, h => by
   have h':(if isT close (hd ts)then .ok (acc,ts.tail)else bnd (if acc.isEmpty then .ok ((),ts)else Zp [44] ts) fun _ r=>bnd (item r) fun a r=>ZM item close n (acc++[a]) r)=.ok z:=h
   cases hc:isT close (hd ts)
   · rw[hc]at h'
     obtain⟨_,t1,h1,h2⟩:=Zq (x:=if acc.isEmpty then .ok ((),ts)else Zp [44] ts) h'
     obtain⟨a,t2,h3,h4⟩:=Zq h2
     have l1:tw t1<=tw ts:=by
       split at h1
       · injection h1 with h1;injection h1 with _ h1;subst h1;exact Nat.le_refl _
       · have:=Zd8 h1;simp at this;omega
     have l2:=hf t1 _ acc h3
     have l3:=Zjp f hf n _ _ _ h4
     simp at l2
     omega
   · rw[hc]at h'
     injection h' with h';subst h'
     have:=Zgn ts
     show f acc+tw ts.tail<=f acc+tw ts
     omega
theorem Zvk(t:List Tok)(z:(List UInt8×List UInt8×Bool)×List Tok)(l:List (List UInt8×List UInt8×Bool))(h:ZS t=.ok z):cw (l++[z.1])+tw z.2<=cw l+tw t:=by
 unfold ZS at h
 obtain⟨a,t1,h1,h⟩:=Zq h
 obtain⟨v,t2,h2,h⟩:=Zq h
 obtain⟨b,t3,h3,h⟩:=Zq h
 injection h with h;subst h
 have l1:=ZhD (by decide) h1
 have l3:=ZhD (by decide) h3
 have l2:tw t2<=tw t1:=by
  unfold Zd5 at h2
  split at h2
  ·injection h2 with h2;injection h2 with _ h2;subst h2;exact Zgn _
  ·obtain⟨_,t4,h4,h5⟩:=Zq h2
   injection h5 with h5;injection h5 with _ h5;subst h5
   have:=Zd8 h4
   simp at this
   omega
 rw[Zkb]
 simp[cw]at *
 omega
theorem ZhE{ts:List Tok}{z:Nd×List Tok}(h:selP ts=.ok z):ownW z.1+6+tw z.2<=tw ts/\z.1.kind=1/\z.1.op=0/\z.1.n=0/\z.1.by_=[]:=by
 unfold selP at h
 obtain⟨a,t,h1,h2⟩:=Zq h
 have l1:tw t+a.length+30=tw ts:=by
  unfold Zel at h1
  split at h1
  ·cases h1
  ·exact ZhD (by decide) h1
 split at h2
 ·obtain⟨cs,t2,h3,h4⟩:=Zq h2
  injection h4 with h4;subst h4
  have l2:=Zjp cw Zvk _ _ _ _ h3
  have l3:=Zgn t
  refine⟨?_,rfl,rfl,rfl,rfl⟩
  simp[ownW,cw,nw]at *
  omega
 ·injection h2 with h2;subst h2
  refine⟨?_,rfl,rfl,rfl,rfl⟩
  simp[ownW,cw,nw]at *
  omega
theorem Zsn(l:List UInt8):0<=numV l/\numV l<=1000000000:=by
 unfold numV
 cases h:ZE 1000000000 l with
 | none=>simp
 | some v=>have:=Zft h;simp;omega
theorem Ziz{a:Nd}(hk:a.kind<=2)(ho:a.op<=4)(hn:0<=a.n/\a.n<=1000000000):wfT (Zcz a):=
 ⟨by omega,ho,by omega,by omega,hn.1,hn.2,by omega,by omega,fun _=>⟨rfl,rfl⟩,by omega,trivial,trivial⟩
theorem Zvn{o:Nat}(ho:o<=4){ts:List Tok}{z:Tr×List Tok}(h:winP o ts=.ok z):wfT z.1/\isNil z.1=false/\wT z.1+tw z.2<=tw ts:=by
 unfold winP at h
 obtain⟨_,t1,h1,h⟩:=Zq h
 obtain⟨p,t2,h2,h⟩:=Zq h
 obtain⟨_,t3,h3,h⟩:=Zq h
 obtain⟨m,t4,h4,h⟩:=Zq h
 obtain⟨_,t5,h5,h⟩:=Zq h
 obtain⟨_,t6,h6,h⟩:=Zq h
 injection h with h;subst h
 have a1:=Zd8 h1
 have a2:=ZhE h2
 have a3:=Zd8 h3
 have a4:tw t4<=tw t3/\1<=m/\m<=1000:=by
  unfold ZdK at h4
  split at h4
  ·rename_i hh
   injection h4 with h4;injection h4 with h4 h4';subst h4;subst h4'
   exact⟨Zgn _,hh.2,(ZlM 1000 _).2⟩
  ·cases h4
 have a5:=Zd8 h5
 have a6:=Zd8 h6
 refine⟨Ziz (Nat.le_refl 2) ho ⟨by show 0<=m;omega,by show m<=_;omega⟩,rfl,?_⟩
 simp[Zcz,wT,ownW,nw]at *
 omega
def InvP(rec:Nat->List Tok->Nat->Out Tr):Prop:=∀lv t d z,rec lv t d=.ok z->wfT z.1/\isNil z.1=false/\wT z.1+tw z.2<=tw t
theorem ZmY{rec:Nat->List Tok->Nat->Out Tr}(hr:InvP rec){ts:List Tok}{deep:Nat}{z:Tr×List Tok}(h:ZbU rec ts deep=.ok z):wfT z.1/\isNil z.1=false/\wT z.1+tw z.2<=tw ts:=by
 unfold ZbU at h
 obtain⟨_,t1,h1,h⟩:=Zq h
 obtain⟨a,t2,h2,h⟩:=Zq h
 obtain⟨_,t3,h3,h⟩:=Zq h
 injection h with h;subst h
 have a1:=Zd8 h1
 obtain⟨b1,b2,b3⟩:=hr _ _ _ _ h2
 have a3:=Zd8 h3
 refine⟨b1,b2,?_⟩
 simp at *
 omega
theorem Zvl{rec:Nat->List Tok->Nat->Out Tr}(hr:InvP rec){g:Nat}(hg:g<=3){ts:List Tok}{deep:Nat}{z:Tr×List Tok}(h:Zcw rec g ts deep=.ok z):wfT z.1/\isNil z.1=false/\wT z.1+tw z.2<=tw ts:=by
 unfold Zcw at h
 obtain⟨_,t1,h1,h⟩:=Zq h
 obtain⟨_,t2,h2,h⟩:=Zq h
 obtain⟨ns,t3,h3,h⟩:=Zq h
 obtain⟨a,t4,h4,h⟩:=Zq h
 injection h with h;subst h
 have a1:=Zd8 h1
 have a2:=Zd8 h2
 have a3:=Zjp nw (fun t z l hz=>by have:=ZhD (by decide) hz;rw[Zst];simp[nw];omega) _ _ _ _ h3
 obtain⟨b1,b2,b3⟩:=ZmY hr h4
 refine⟨⟨by show(5:Nat)<=6;omega,by show g<=4;omega,fun _=>hg,fun _=>hg,Int.le_refl _,by show(0:Int)<=_;omega,fun _=>b2,fun h=>by simp at h,fun h=>absurd (show(5:Nat)<=2 from h) (by omega),fun _=>rfl,b1,trivial⟩,rfl,?_⟩
 simp[wT,ownW,cw,nw]at *
 omega
theorem ZkV{w:List UInt8}{l:List (List UInt8)}{i:Nat}(h:idx w l=some i):i<l.length:=by
 induction l generalizing i with
 | nil=>cases h
 | cons x l ih=>
  unfold idx at h
  split at h
  ·injection h with h;subst h;simp
  ·cases hi:idx w l with
   | none=>rw[hi]at h;cases h
   | some j=>rw[hi]at h;injection h with h;subst h;have:=ih hi;simp;omega
theorem Zvm{rec:Nat->List Tok->Nat->Out Tr}(hr:InvP rec){ts:List Tok}{deep:Nat}{z:Tr×List Tok}(h:Zce rec ts deep=.ok z):wfT z.1/\isNil z.1=false/\wT z.1+tw z.2<=tw ts:=by
 unfold Zce at h
 have ht:=Zgn ts
 split at h
 ·rename_i hk
  injection h with h;subst h
  have:=Zgm (ts:=ts) (by omega)
  refine⟨Ziz (Nat.zero_le _) (Nat.zero_le _) (Zsn _),rfl,?_⟩
  simp[Zcz,wT,ownW,cw,nw]at *
  omega
 ·split at h
  ·rename_i hm
   obtain⟨a,t1,h1,h⟩:=Zq h
   injection h with h;subst h
   obtain⟨b1,b2,b3⟩:=hr _ _ _ _ h1
   have:=Zgm (ts:=ts) (fun h=>Zf0 hm (Or.inl h))
   refine⟨⟨by show(3:Nat)<=6;omega,Nat.zero_le _,fun _=>Nat.zero_le _,fun _=>Nat.zero_le _,Int.le_refl _,by show(0:Int)<=_;omega,fun _=>b2,fun h=>by simp[nd0]at h,fun h=>absurd (show(3:Nat)<=2 from h) (by omega),fun _=>rfl,b1,trivial⟩,rfl,?_⟩
   simp[wT,ownW,cw,nw,nd0]at *
   omega
  ·split at h
   ·exact ZmY hr h
   ·split at h
    ·rename_i g hg
     have:=ZkV hg
     obtain⟨b1,b2,b3⟩:=Zvl hr (show g<=3 by simp[Zbp]at this;omega) h
     exact⟨b1,b2,by omega⟩
    ·split at h
     ·rename_i o ho
      have:=ZkV ho
      obtain⟨b1,b2,b3⟩:=Zvn (show o<=4 by simp[ZbF]at this;omega) h
      exact⟨b1,b2,by omega⟩
     ·obtain⟨p,t1,h1,h⟩:=Zq h
      injection h with h;subst h
      obtain⟨a1,a2,a3,a4,a5⟩:=ZhE h1
      simp only at a1 a2 a3 a4
      refine⟨Ziz (by omega) (by omega) ⟨by omega,by omega⟩,rfl,?_⟩
      simp[Zcz,wT]at *
      omega
theorem ZeZ:∀(n:Nat) (m:Bool) (lv:Nat) (a:Tr) (ts:List Tok) (deep:Nat) (z:Tr×List Tok),(m=true->wfT a/\isNil a=false)->Zz n m lv a ts deep=.ok z->wfT z.1/\isNil z.1=false/\wT z.1+tw z.2<=tw ts+(if m then wT a else 0)
 | 0,_,_,_,_,_,_,_,h=>by cases h
 | n + 1, false, lv, a, ts, deep, z, _, h => by
   have hr : InvP (fun lv t d => Zz n false lv .nil t d) := fun lv t d z h => by
     obtain⟨h1,h2,h3⟩:=ZeZ n false lv .nil t d z (fun h=>nomatch h) h
     exact⟨h1,h2,by simpa using h3⟩
   unfold Zz at h
   split at h
   · unfold Zcj at h
     split at h
     · split at h
       · cases h
       · obtain⟨h1,h2,h3⟩:=Zvm hr h
         exact⟨h1,h2,by simpa using h3⟩
     · cases h
   · obtain⟨b,t1,h1,h2⟩:=Zq h
     obtain⟨l1,l2,l3⟩:=hr _ _ _ _ h1
     obtain⟨m1,m2,m3⟩:=ZeZ n true lv b t1 deep z (fun _=>⟨l1,l2⟩) h2
     refine⟨m1,m2,?_⟩
     simp at l3 m3 ⊢
     omega
 | n + 1, true, lv, a, ts, deep, z, ha, h => by
   obtain⟨ha1,ha2⟩:=ha rfl
   unfold Zz at h
   split at h
   · injection h with h;subst h;exact⟨ha1,ha2,by simp;omega⟩
   · rename_i p hp
     obtain⟨b,t1,h1,h2⟩:=Zq h
     obtain⟨l1,l2,l3⟩:=ZeZ n false _ _ _ _ _ (fun h=>nomatch h) h1
     have hop:((p.1=4/\p.2<=3)∨(p.1=6/\p.2=0))/\tw ts.tail+30<=tw ts:=by
       have hl:∀c,isT c (hd ts)=true->tw ts.tail+30<=tw ts:=fun c hc=>by have:=Zgm (ts:=ts) (fun h=>Zf0 hc (Or.inl h));omega
       unfold LS.opAt at hp
       split at hp
       · split at hp
         · rename_i hc;injection hp with hp;subst hp;exact⟨Or.inr ⟨rfl,rfl⟩,hl _ hc⟩
         · cases hp
       · split at hp
         · split at hp
           · rename_i hc;injection hp with hp;subst hp;exact⟨Or.inl ⟨rfl,by decide⟩,hl _ hc⟩
           · split at hp
             · rename_i hc;injection hp with hp;subst hp;exact⟨Or.inl ⟨rfl,by decide⟩,hl _ hc⟩
             · cases hp
         · split at hp
           · rename_i hc;injection hp with hp;subst hp;exact⟨Or.inl ⟨rfl,by decide⟩,hl _ hc⟩
           · split at hp
             · rename_i hc;injection hp with hp;subst hp;exact⟨Or.inl ⟨rfl,by decide⟩,hl _ hc⟩
             · cases hp
     obtain⟨hk,htl⟩:=hop
     have hw:wfT (.node 0 0 (nd0 p.1 p.2) a b):=by
       refine⟨?_,?_,?_,?_,Int.le_refl _,by show(0:Int)<=_;omega,fun _=>ha2,fun _=>l2,?_,?_,ha1,l1⟩
       · show p.1<=6;omega
       · show p.2<=4;omega
       · intro h;show p.2<=3;omega
       · intro h;exact absurd (show p.1=5 from h) (by omega)
       · intro h;exact absurd (show p.1<=2 from h) (by omega)
       · intro h;exact absurd (show p.1=3∨p.1=5 from h) (by omega)
     obtain⟨m1,m2,m3⟩:=ZeZ n true lv _ t1 deep z (fun _=>⟨hw,rfl⟩) h2
     refine⟨m1,m2,?_⟩
     simp[wT,ownW,cw,nw,nd0]at l3 m3 ⊢
     omega
def opNo(a:Nd):Nat:=if a.kind=6 then 0 else a.op+1
def Zd(w:World):Tr->Value->Prop
 | .nil,_=>False
 | .node _ _ a l r,v=>
  (a.kind=0/\v=.iface 270 (.agg #[.int .i64 a.n]))∨
  (a.kind=1/\∃(nm:ByteArray) (la:Option Addr) (ln lc:Nat),v=.iface 281 (.agg #[.string nm,.slice la ln lc])/\bl nm=a.name/\ZA w (.slice la ln lc) a.conds)∨
  (a.kind=2/\∃(wd nm:ByteArray) (la:Option Addr) (ln lc:Nat),v=.iface 283 (.agg #[.string wd,.string nm,.slice la ln lc,.int .i64 a.n])/\bl wd=ZbF.getD a.op []/\bl nm=a.name/\ZA w (.slice la ln lc) a.conds)∨
  (a.kind=3/\∃x,v=.iface 272 (.agg #[x])/\Zd w l x)∨
  (a.kind=5/\∃(wd:ByteArray) (la:Option Addr) (ln lc:Nat) (x:Value),v=.iface 274 (.agg #[.string wd,.slice la ln lc,x])/\bl wd=Zbp.getD a.op []/\ZbP w (.slice la ln lc) a.by_/\Zd w l x)∨
  ((a.kind=4∨a.kind=6)/\∃x y,v=.iface 268 (.agg #[.int .i64 (opNo a),x,y])/\Zd w l x/\Zd w r y)
def ZdR(v:Value):Prop:=v=.nilIface∨∃(ty:TypeId) (u:Value),v=.iface ty u
theorem Zd.shape{w:World} : ∀ {t:Tr} {v:Value},Zd w t v->∃(ty:TypeId) (u:Value),v=.iface ty u
 | .nil,_,h=>h.elim
 | .node _ _ a l r, v, h => by
   rcases h with ⟨_,h⟩|⟨_,_,_,_,_,h,_⟩|⟨_,_,_,_,_,_,h,_⟩|⟨_,_,h,_⟩|⟨_,_,_,_,_,_,h,_⟩|⟨_,_,_,h,_⟩
   all_goals exact⟨_,_,h⟩
theorem ZA.below{w w':World}{v:Value}{ns:List (List UInt8×List UInt8×Bool)}(h:ZA w v ns)(hb:Below w.heap.size w w'):ZA w' v ns:=by
 obtain⟨bs,h1,h2⟩:=h;exact⟨bs,Zm h1 hb,h2⟩
theorem ZbP.below{w w':World}{v:Value}{ns:List (List UInt8)}(h:ZbP w v ns)(hb:Below w.heap.size w w'):ZbP w' v ns:=by
 obtain⟨bs,h1,h2⟩:=h;exact⟨bs,Zm h1 hb,h2⟩
theorem Zd.mono{w w':World}(hc:∀v cs,ZA w v cs->ZA w' v cs)(hn:∀v ns,ZbP w v ns->ZbP w' v ns):∀(t:Tr) (v:Value),Zd w t v->Zd w' t v
 | .nil,_,h=>h
 | .node _ _ a l r, v, h => by
   have ihl:=Zd.mono hc hn l
   have ihr:=Zd.mono hc hn r
   rcases h with h|⟨h1,nm,la,ln,lc,h2,h3,h4⟩|⟨h1,wd,nm,la,ln,lc,h2,h3,h4,h5⟩|⟨h1,x,h2,h3⟩|⟨h1,wd,la,ln,lc,x,h2,h3,h4,h5⟩|⟨h1,x,y,h2,h3,h4⟩
   · exact Or.inl h
   · exact Or.inr (Or.inl ⟨h1,nm,la,ln,lc,h2,h3,hc _ _ h4⟩)
   · exact Or.inr (Or.inr (Or.inl ⟨h1,wd,nm,la,ln,lc,h2,h3,h4,hc _ _ h5⟩))
   · exact Or.inr (Or.inr (Or.inr (Or.inl ⟨h1,x,h2,ihl x h3⟩)))
   · exact Or.inr (Or.inr (Or.inr (Or.inr (Or.inl ⟨h1,wd,la,ln,lc,x,h2,h3,hn _ _ h4,ihl x h5⟩))))
   · exact Or.inr (Or.inr (Or.inr (Or.inr (Or.inr ⟨h1,x,y,h2,ihl x h3,ihr y h4⟩))))
theorem Zd.below{w w':World}{t:Tr}{v:Value}(h:Zd w t v)(hb:Below w.heap.size w w'):Zd w' t v:=Zd.mono (fun _ _ h=>h.below hb) (fun _ _ h=>h.below hb) t v h
theorem Zd.kept{w w':World}{t:Tr}{v:Value}(h:Zd w t v){b:Nat}(hg:w.grownBy w' (some b)){c:Array Value}{ty:TypeId}{fr:Nat×Nat}(hq:w.heap[b]?=some (.cells c ty fr))(h1:ty≠379)(h2:ty≠9):Zd w' t v:=
 Zd.mono (fun _ _ h=>h.kept hg hq h1) (fun _ _ h=>h.kept hg hq h2) t v h
theorem Zd.read{w w':World}{R:RS}{k:Nat}{ts:List Tok}{t:Tr}{v:Value}(h:Zd w t v)(hr:RK w R k ts)(hg:w.grownBy w' (some R.b)):Zd w' t v:=h.kept hg hr.rd.cells (by decide) (by decide)
theorem ZA.read{w w':World}{R:RS}{k:Nat}{ts:List Tok}{v:Value}{cs:List (List UInt8×List UInt8×Bool)}(h:ZA w v cs)(hr:RK w R k ts)(hg:w.grownBy w' (some R.b)):ZA w' v cs:=h.kept hg hr.rd.cells (by decide)
theorem ZbP.read{w w':World}{R:RS}{k:Nat}{ts:List Tok}{v:Value}{cs:List (List UInt8)}(h:ZbP w v cs)(hr:RK w R k ts)(hg:w.grownBy w' (some R.b)):ZbP w' v cs:=h.kept hg hr.rd.cells (by decide)
theorem Res.err{α:Type}{R:RS}{V:World->α->Prop}{w:World}{r:Out α}{v:Value}(h:Res R V w r v){e:Nat×Nat}(hr:r=.error e):Z6 w R e v:=by subst hr;exact h
theorem Res.good{α:Type}{R:RS}{V:World->α->Prop}{w:World}{r:Out α}{v:Value}(h:Res R V w r v){a:α}{ts:List Tok}(hr:r=.ok (a,ts)):v=.nilIface/\(∃k,RK w R k ts)/\V w a:=by subst hr;exact h
attribute [local go_sem ↓] Go.wp_at_zero Go.wp_at_succ
theorem ZuF(l:List UInt8):(1<=numI 1000 l ↔ 1<=numV l/\numV l<=1000)/\(1<=numI 1000 l->numI 1000 l=numV l):=by
 unfold numI numV ZE
 by_cases hc:l.length<1∨(l.head?=some 48/\1<l.length)∨l.all Zt=false
 ·rw[if_pos (by rcases hc with h|h|h;exact Or.inl h;exact Or.inr (Or.inl h);exact Or.inr (Or.inr (Or.inl h)))]
  rw[if_pos (by rcases hc with h|h|h;exact Or.inl h;exact Or.inr (Or.inl h);exact Or.inr (Or.inr (Or.inl h)))]
  simp
 ·have hn:∀most,most<val l->(l.length<1∨(l.head?=some 48/\1<l.length)∨l.all Zt=false∨most<val l):=fun _ h=>Or.inr (Or.inr (Or.inr h))
  have hp:∀most,¬most<val l->¬(l.length<1∨(l.head?=some 48/\1<l.length)∨l.all Zt=false∨most<val l):=by
   rintro most h (h1|h1|h1|h1)
   ·exact hc (Or.inl h1)
   ·exact hc (Or.inr (Or.inl h1))
   ·exact hc (Or.inr (Or.inr h1))
   ·exact h h1
  by_cases h1:1000<val l
  ·rw[if_pos (hn _ h1)]
   by_cases h2:1000000000<val l
   ·rw[if_pos (hn _ h2)];simp
   ·rw[if_neg (hp _ h2)]
    simp only[Option.getD_some]
    constructor
    ·constructor
     ·intro h;omega
     ·intro h;omega
    ·intro h;omega
  ·rw[if_neg (hp _ h1),if_neg (hp _ (by omega))]
   simp only[Option.getD_some]
   constructor
   ·constructor
    ·intro h;omega
    ·intro h;omega
   ·intro _;trivial
def lenP(ts:List Tok):Out Int:=bnd (Zp [91] ts) fun _ r=>bnd (ZdK r) fun n r=>bnd (Zp [93] r) fun _ r=>.ok (n,r)
theorem Zne (o : Nat) (ts : List Tok) : winP o ts = bnd (Zp [40] ts) fun _ r => bnd (selP r) fun p r => bnd (lenP r) fun n r => bnd (Zp [41] r) fun _ r => .ok (Zcz ⟨2, o, n, p.name, p.conds, []⟩, r) := by
  unfold winP lenP
  cases h1:Zp [40] ts with
  | error e=>rfl
  | ok p1=>
    obtain⟨a1,r1⟩:=p1
    simp only[bnd]
    cases h2:selP r1 with
    | error e=>rfl
    | ok p2=>
      obtain⟨a2,r2⟩:=p2
      simp only
      cases h3:Zp [91] r2 with
      | error e=>rfl
      | ok p3=>
        obtain⟨a3,r3⟩:=p3
        simp only
        cases h4:ZdK r3 with
        | error e=>rfl
        | ok p4=>
          obtain⟨a4,r4⟩:=p4
          simp only
          cases h5:Zp [93] r4 with
          | error e=>rfl
          | ok p5=>rfl
theorem Zep(s:List UInt8)(ts:List Tok):(isT s (hd ts)=true/\Zp s ts=.ok ((),ts.tail))∨(¬isT s (hd ts)=true/\Zp s ts=.error (2,(hd ts).at_)):=by
 by_cases h:isT s (hd ts)=true
 ·exact Or.inl ⟨h,Zdw h⟩
 ·exact Or.inr ⟨h,Zeq h⟩
theorem Zv3{w:World}{R:RS}{k:Nat}{ts:List Tok}(h:RK w R k ts) :
  Calls Tryz.prog 237 #[.pointer (some ⟨R.b,0,none⟩)] w fun e w'=>∃(n:Int) (v:Value),e=.returned (.tuple #[.int .i64 n,v])/\Hid (Res R (fun _ m=>n=m) w' (lenP ts) v)/\w.grownBy w' (some R.b):=by
 have H:Hid (RK w R k ts):=h
 have hbl:R.b<w.heap.size:=(Array.getElem?_eq_some_iff.1 h.rd.cells).1
 clear h
 go_enter Tryz.func237,Tryz.ntmps237
 go_wp2_with fail
 refine(Zdv H.out ⟨#[91]⟩ (by decide) (by decide)).mono ?_
 rintro e w1 ⟨v,rfl,hres,hg⟩
 have HG1:Hid (w.grownBy w1 (some R.b)):=hg
 clear hg
 rcases Zep [91] ts with ⟨h1,htp⟩|⟨h1,htp⟩
 ·obtain⟨rfl,⟨k1,hk1⟩,_⟩:=hres.good htp
  have HK1:Hid (RK w1 R k1 ts.tail):=hk1
  have HP1:Hid (lenP ts=bnd (ZdK ts.tail) fun n r=>bnd (Zp [93] r) fun _ r=>.ok (n,r)):=hid (by unfold lenP;rw[htp];rfl)
  clear hres hk1 h1 htp
  go_wp2_with fail
  refine(ZdO HK1.out).mono ?_
  rintro e w2 ⟨⟨kd,at_,tx,tv⟩,rfl,ht,hb2⟩
  have HG2:Hid (w.grownBy w2 (some R.b)):=Zf HG1.out (Zu hb2)
  have HK2:Hid (RK w2 R k1 ts.tail):=HK1.below hb2
  clear hb2 HG1 HK1
  go_upto_region 5 with fail
  refine ZK fun W6 hW6=>?_
  have hb6:Below w2.heap.size w2 W6:=by rw[hW6];exact Zbal
  have HT7:Hid (BAt W6 w2.heap.size [.int .i64 kd,.int .i64 at_,.string tx,.int .i64 tv] 167):=hid (by rw[hW6];exact Go.Deep.blk_alloc_new _ _)
  have HG7:Hid (w.grownBy W6 (some R.b)):=Zf HG2.out (Zu hb6)
  have HK7:Hid (RK W6 R k1 ts.tail):=HK2.below hb6
  have hz2:R.b<w2.heap.size:=by have:=HG2.size;omega
  clear hW6 hb6 HK2 HG2
  have t0:=HT7.cell 0
  have t3:=HT7.cell 3
  simp only[Zget]at t0 t3
  have hsn:=ZuF (hd ts.tail).txt
  by_cases hk1:(hd ts.tail).kind=1
  ·have hkd:kd=0:=by have:=ht.1;rw[hk1]at this;exact this
   subst hkd
   have htv:(tv:Int)=numV (hd ts.tail).txt:=ht.2.2.2 hk1
   by_cases hn:1<=numI 1000 (hd ts.tail).txt
   ·have hv:=hsn.1.1 hn
    rw[<-htv]at hv
    have hv1:=hv.1
    have hv2:=hv.2
    have HSP:Hid (ZdK ts.tail=.ok ((tv:Int),ts.tail.tail)):=hid (by unfold ZdK;rw[if_pos ⟨hk1,hn⟩,hsn.2 hn,<-htv])
    have HD:Hid (¬((hd ts.tail).kind=0∨(hd ts.tail).kind=5)):=hid (by omega)
    obtain⟨rc0,rc1,rfz,rcx⟩:=HK7.rd.all
    have hlt:=HK7.lt
    have hln:=HK7.len
    clear hn hsn htv hv hk1 ht
    go_upto_region 8 with fail
    refine ZK fun W8 hW8=>?_
    have HK8:Hid (RK W8 R (k1+1) ts.tail.tail):=hid (by rw[hW8];exact HK7.step HD.out)
    have HG8:Hid (w.grownBy W8 (some R.b)):=hid (by rw[hW8];exact Zo HG7.out (Or.inl rfl) _)
    have HT8:Hid (BAt W8 w2.heap.size [.int .i64 (0:Nat),.int .i64 at_,.string tx,.int .i64 tv] 167):=hid (by rw[hW8];exact HT7.other (by show w2.heap.size≠R.b;omega) _)
    clear hW8 rc0 rc1 rfz rcx t0 t3 HT7 HK7 HG7
    have e3:=HT8.cell 3
    simp only[Zget]at e3
    have HK8d:Hid (RK W8.drew R (k1+1) ts.tail.tail):=HK8.below ((Below.refl _ _).drew)
    have HG8d:Hid (w.grownBy W8.drew (some R.b)):=Zf HG8.out (Zu ((Below.refl _ _).drew))
    go_region_held3 (fun w' => w'.cell? ⟨w2.heap.size, 3, none⟩ = some (.int .i64 tv)) (first | exact e9 | exact e3 | go_keep) (first
      | (go_at_call 233
         refine(Zdv HK8d.out ⟨#[93]⟩ (by decide) (by decide)).mono ?_
         rintro e w9 ⟨v,rfl,hres,hg9⟩
         have e9:w9.cell? ⟨w2.heap.size,3,none⟩=some (.int .i64 tv):=(World.cell?_of_block (a:=⟨w2.heap.size,3,none⟩) (hg9.block _ (World.block_lt_of_cell? _ _ e3) (by simp;omega))).trans e3
         have HG9:Hid (w.grownBy w9 (some R.b)):=Zf HG8d.out hg9
         clear hg9))
    all_goals
     go_wp2
     go_ret2
     refine⟨_,_,rfl,?_,HG9.out⟩
     rw[HP1.out,HSP.out]
     show Hid (Res R _ _ (bnd (Zp [93] ts.tail.tail) _) _)
     rcases Zep [93] ts.tail.tail with ⟨_,htp⟩|⟨_,htp⟩
     ·obtain⟨h1,h2,_⟩:=hres.good htp
      rw[htp]
      exact⟨h1,h2,rfl⟩
     ·have:=hres.err htp
      rw[htp]
      exact this
   ·have HPE:Hid (lenP ts=.error (2,(hd ts.tail).at_)):=hid (by rw[HP1.out];unfold ZdK;rw[if_neg (fun h=>hn h.2)];rfl)
    have hv:(tv:Int)<1∨1000<(tv:Int):=by
     rw[htv]
     by_cases h1:1<=numV (hd ts.tail).txt/\numV (hd ts.tail).txt<=1000
     ·exact absurd (hsn.1.2 h1) hn
     ·omega
    clear hn hsn htv hk1 ht
    by_cases hv1:(tv:Int)<1
    all_goals
     have hv2:¬(tv:Int)<1->1000<(tv:Int):=by omega
     clear hv
     try have hv3:=hv2 hv1
     clear hv2
     go_wp2_with fail
     refine(Zey HK7.out).mono ?_
     rintro e wE ⟨v,rfl,HE,hbE⟩
     obtain⟨fa,rfl⟩:=HE.shape
     have HGE:Hid (w.grownBy wE (some R.b)):=Zf HG7.out (Zu hbE)
     clear hbE
     go_wp2
     go_ret2
     exact⟨_,_,rfl,by rw[HPE.out];exact HE,HGE.out⟩
  ·have hkd:((kd:Int) != 0)=true:=by
    rw[bne_iff_ne];intro e
    exact hk1 ((Zen HK7.wf.head.2.2).2.2.2.1.1 (by have:=ht.1;simp only at this;omega))
   have HPE:Hid (lenP ts=.error (2,(hd ts.tail).at_)):=hid (by rw[HP1.out];unfold ZdK;rw[if_neg (fun h=>hk1 h.1)];rfl)
   clear hsn ht hk1
   go_wp2_with fail
   refine(Zey HK7.out).mono ?_
   rintro e wE ⟨v,rfl,HE,hbE⟩
   obtain⟨fa,rfl⟩:=HE.shape
   have HGE:Hid (w.grownBy wE (some R.b)):=Zf HG7.out (Zu hbE)
   clear hbE
   go_wp2
   go_ret2
   exact⟨_,_,rfl,by rw[HPE.out];exact HE,HGE.out⟩
 ·have HPE:Hid (lenP ts=.error (2,(hd ts).at_)):=hid (by unfold lenP;rw[htp];rfl)
  have HE:=hid (hres.err htp)
  obtain⟨fa,rfl⟩:=HE.shape
  clear hres htp h1
  go_wp2
  go_ret2
  exact⟨_,_,rfl,by rw[HPE.out];exact HE,HG1.out⟩
end Go.Proofs.YtkodhpilkaihjaaGreatDoor
namespace Go.Proofs.YtkodhpilkaihjaaGreatDoor
open Go.RowKit LS
attribute [local go_sem ↓] Go.wp_at_zero Go.wp_at_succ
theorem Zv4{w:World}{R:RS}{k:Nat}{ts:List Tok}(h:RK w R k ts)(wd:ByteArray)(o:Nat)(hwd:bl wd=ZbF.getD o []) :
  Calls Tryz.prog 190 #[.pointer (some ⟨R.b,0,none⟩),.string wd] w fun e w'=>∃(pv v:Value),e=.returned (.tuple #[pv,v])/\ZdR pv/\Hid (Res R (fun w' t=>Zd w' t pv) w' (winP o ts) v)/\w.grownBy w' (some R.b):=by
 have H:Hid (RK w R k ts):=h
 have HWD:Hid (bl wd=ZbF.getD o []):=hwd
 have hbl:R.b<w.heap.size:=(Array.getElem?_eq_some_iff.1 h.rd.cells).1
 clear h hwd
 go_enter Tryz.func190,Tryz.ntmps190
 go_wp2_with fail
 refine(Zdv H.out ⟨#[40]⟩ (by decide) (by decide)).mono ?_
 rintro e w1 ⟨v,rfl,hres,hg⟩
 have HG1:Hid (w.grownBy w1 (some R.b)):=hg
 clear hg
 rcases Zep [40] ts with ⟨h1,htp⟩|⟨h1,htp⟩
 ·obtain⟨rfl,⟨k1,hk1⟩,_⟩:=hres.good htp
  have HK1:Hid (RK w1 R k1 ts.tail):=hk1
  have HP1:Hid (winP o ts=bnd (selP ts.tail) fun p r=>bnd (lenP r) fun n r=>bnd (Zp [41] r) fun _ r=>.ok (Zcz ⟨2,o,n,p.name,p.conds,[]⟩,r)):=hid (by rw[Zne,htp];rfl)
  clear hres hk1 h1 htp
  go_wp2_with fail
  refine(Zmz HK1.out).mono ?_
  rintro e w2 ⟨nm,la,ln,lc,v,rfl,hres,hg2⟩
  have HG2:Hid (w.grownBy w2 (some R.b)):=Zf HG1.out hg2
  have hz2:R.b<w2.heap.size:=by have:=HG2.size;omega
  clear hg2 HG1 HK1
  cases hsp:selP ts.tail with
  | error er=>
   have HE:=hid (hres.err hsp)
   obtain⟨fa,rfl⟩:=HE.shape
   have HPE:Hid (winP o ts=.error er):=hid (by rw[HP1.out,hsp];rfl)
   clear hres hsp
   go_wp2
   go_ret2
   exact⟨_,_,rfl,Or.inl rfl,by rw[HPE.out];exact HE.below Zbal,ZbE HG2.out _⟩
  | ok pr=>
   obtain⟨nd,r2⟩:=pr
   obtain⟨rfl,⟨k2,hk2⟩,hnm,hcs⟩:=hres.good hsp
   have HP2:Hid (winP o ts=bnd (lenP r2) fun n r=>bnd (Zp [41] r) fun _ r=>.ok (Zcz ⟨2,o,n,nd.name,nd.conds,[]⟩,r)):=hid (by rw[HP1.out,hsp];rfl)
   have HNM:Hid (bl nm=nd.name):=hnm
   have HCS:Hid (ZA w2 (.slice la ln lc) nd.conds):=hcs
   have HK2:Hid (RK w2 R k2 r2):=hk2
   clear hres hsp hk2 hnm hcs HP1
   go_wp2_with fail
   refine Zn fun W3 hW3=>?_
   have hb3:Below w2.heap.size w2 W3:=by rw[hW3];exact Zbal
   have HT3:Hid (BAt W3 w2.heap.size [.string nm,.slice la ln lc] 281):=hid (by rw[hW3];exact Go.Deep.blk_alloc_new _ _)
   have HG3:Hid (w.grownBy W3 (some R.b)):=Zf HG2.out (Zu hb3)
   have HK3:Hid (RK W3 R k2 r2):=HK2.below hb3
   have HC3:Hid (ZA W3 (.slice la ln lc) nd.conds):=HCS.below hb3
   clear hW3 hb3 HG2 HK2 HCS
   refine(Zv3 HK3.out).mono ?_
   rintro e w4 ⟨n,v,rfl,hres,hg4⟩
   have HG4:Hid (w.grownBy w4 (some R.b)):=Zf HG3.out hg4
   have HC4:Hid (ZA w4 (.slice la ln lc) nd.conds):=HC3.read HK3.out hg4
   have HT4:Hid (BAt w4 w2.heap.size [.string nm,.slice la ln lc] 281):=HT3.grown hg4 (by simp;omega)
   clear hg4 HG3 HC3 HT3 HK3
   cases hlp:lenP r2 with
   | error er=>
    have HE:=hid (hres.err hlp)
    obtain⟨fa,rfl⟩:=HE.shape
    have HPE:Hid (winP o ts=.error er):=hid (by rw[HP2.out,hlp];rfl)
    clear hres hlp
    go_wp2
    go_ret2
    exact⟨_,_,rfl,Or.inl rfl,by rw[HPE.out];exact HE,HG4.out⟩
   | ok pr=>
    obtain⟨n',r4⟩:=pr
    obtain⟨rfl,⟨k4,hk4⟩,hn⟩:=hres.good hlp
    subst hn
    have HP3:Hid (winP o ts=bnd (Zp [41] r4) fun _ r=>.ok (Zcz ⟨2,o,n,nd.name,nd.conds,[]⟩,r)):=hid (by rw[HP2.out,hlp];rfl)
    have HK4:Hid (RK w4 R k4 r4):=hk4
    clear hres hlp hk4 HP2
    have e0:=HT4.cell 0
    have e1:=HT4.cell 1
    simp only[Zget]at e0 e1
    have HK4d:Hid (RK w4.drew R k4 r4):=HK4.below ((Below.refl _ _).drew)
    have HG4d:Hid (w.grownBy w4.drew (some R.b)):=Zf HG4.out (Zu ((Below.refl _ _).drew))
    have HC4d:Hid (ZA w4.drew (.slice la ln lc) nd.conds):=HC4.below ((Below.refl _ _).drew)
    go_upto_region 10 with fail
    go_region_held3 (fun w' => w'.cell? ⟨w2.heap.size, 0, none⟩ = some (.string nm) /\ w'.cell? ⟨w2.heap.size, 1, none⟩ = some (.slice la ln lc)) (first | exact ⟨e90, e91⟩ | exact ⟨e0, e1⟩ | go_keep) (first
      | (go_at_call 233
         refine(Zdv HK4d.out ⟨#[41]⟩ (by decide) (by decide)).mono ?_
         rintro e w9 ⟨v,rfl,hres,hg9⟩
         have e90:w9.cell? ⟨w2.heap.size,0,none⟩=some (.string nm):=(World.cell?_of_block (a:=⟨w2.heap.size,0,none⟩) (hg9.block _ (World.block_lt_of_cell? _ _ e0) (by simp;omega))).trans e0
         have e91:w9.cell? ⟨w2.heap.size,1,none⟩=some (.slice la ln lc):=(World.cell?_of_block (a:=⟨w2.heap.size,1,none⟩) (hg9.block _ (World.block_lt_of_cell? _ _ e1) (by simp;omega))).trans e1
         have HG9:Hid (w.grownBy w9 (some R.b)):=Zf HG4d.out hg9
         have HC9:Hid (ZA w9 (.slice la ln lc) nd.conds):=HC4d.read HK4d.out hg9
         clear hg9))
    all_goals
     go_wp2
     go_ret2
     refine⟨_,_,rfl,Or.inr ⟨_,_,rfl⟩,?_,HG9.out⟩
     rw[HP3.out]
     rcases Zep [41] r4 with ⟨_,htp⟩|⟨_,htp⟩
     ·obtain⟨h1,h2,_⟩:=hres.good htp
      rw[htp]
      exact⟨h1,h2,Or.inr (Or.inr (Or.inl ⟨rfl,wd,nm,la,ln,lc,rfl,HWD.out,HNM.out,HC9.out⟩))⟩
     ·have:=hres.err htp
      rw[htp]
      exact this
 ·have HPE:Hid (winP o ts=.error (2,(hd ts).at_)):=hid (by rw[Zne,htp];rfl)
  have HE:=hid (hres.err htp)
  obtain⟨fa,rfl⟩:=HE.shape
  clear hres htp h1
  go_wp2
  go_ret2
  exact⟨_,_,rfl,Or.inl rfl,by rw[HPE.out];exact HE,HG1.out⟩
end Go.Proofs.YtkodhpilkaihjaaGreatDoor

/- Parts. -/
import Derived.Test.YtpbemaaghbbocaaGreatDoorH03
import Derived.Deep.RegionHeld3
import Derived.Deep.DrawnRows
set_option linter.all false
set_option maxRecDepth 100000
set_option maxHeartbeats 16000000
namespace Go.Proofs.YtpbemaaghbbocaaGreatDoor
open Go.RowKit LS Go.Proofs.Tryz
variable {l ns:List (LB)}{r ts:List Tok}{d deep g k m o:Nat}{rec:Nat->List Tok->Nat->Out Tr}{e fr:Nat×Nat}{R:RS}{t:Tr}{z:Tr×List Tok}{v:Value}{w w':World}
section
def tw:List Tok->Nat
 | []=>0
 | t::r=>t.txt.length+30+tw r
def cw:List (LB×LB×Bool)->Nat
 | []=>0
 | c::r=>c.1.length+c.2.1.length+6+cw r
def nw:List (LB)->Nat
 | []=>0
 | c::r=>c.length+1+nw r
def ownW(a:Nd):Nat:=24+a.name.length+cw a.jq+nw a.by_
def wT:Tr->Nat
 | .nil=>0
 | .node _ _ a l r=>ownW a+wT l+wT r
def isNil:Tr->Bool
 | .nil=>true
 | .node _ _ _ _ _=>false
def wfT:Tr->Prop
 | .nil=>True
 | .node _ _ a l r=>a.jx<=6/\a.op<=4/\(a.jx=4->a.op<=3)/\(a.jx=5->a.op<=3)/\0<=a.n/\a.n<=1000000000/\(3<=a.jx->isNil l=false)/\(a.jx=4∨a.jx=6->isNil r=false)/\(a.jx<=2->isNil l=true/\isNil r=true)/\(a.jx=3∨a.jx=5->isNil r=true)/\wfT l/\wfT r
theorem ZiI(ts:List Tok):tw ts.tail<=tw ts:=by
 cases ts with
 | nil=>exact Yac _
 | cons t r=>show tw r<=t.txt.length+30+tw r;omega
theorem ZiH(h:¬((hd ts).jx=0)):(hd ts).txt.length+30+tw ts.tail=tw ts:=by
 cases ts with
 | nil=>exact absurd rfl h
 | cons t r=>rfl
theorem ZeF{c:LB}{z:Unit×List Tok}(h:Zq c ts=.ok z):tw z.2+30<=tw ts:=by
 unfold Zq at h;split at h
 ·rename_i e;injection h with h;subst h;have:=ZiH (fun h=>Zib e (Or.inl h));show tw ts.tail+30<=tw ts;omega
 ·cases h
theorem Zkp{z:LB×List Tok}(a:k≠0)(h:ZH k ts=.ok z):tw z.2+z.1.length+30=tw ts:=by
 unfold ZH at h;split at h
 ·rename_i e;injection h with h;subst h;have:=ZiH (ts:=ts) (by rw[e];exact a);show tw ts.tail+(hd ts).txt.length+30=tw ts;omega
 ·cases h
theorem ZoG(l m:List (LB×LB×Bool)):cw (l++m)=cw l+cw m:=by
 induction l with
 | nil=>simp[cw]
 | cons a l ih=>simp[cw,ih];omega
theorem ZzD(l m:List (LB)):nw (l++m)=nw l+nw m:=by
 induction l with
 | nil=>simp[nw]
 | cons a l ih=>simp[nw,ih];omega
theorem Zns{α:Type}{item:List Tok->Out α}{close:LB}(f:List α->Nat)(e:∀t z l,item t=.ok z->f (l++[z.1])+tw z.2<=f l+tw t):∀(n:Nat) (acc:List α) (ts:List Tok) (z:List α×List Tok),ZS item close n acc ts=.ok z->f z.1+tw z.2<=f acc+tw ts
 | 0,_,_,_,h=>by cases h
 | n + 1, acc, ts, z, h => by
   have d:(if isT close (hd ts)then .ok (acc,ts.tail)else bnd (if acc.isEmpty then .ok ((),ts)else Zq [44] ts) fun _ r=>bnd (item r) fun a r=>ZS item close n (acc++[a]) r)=.ok z:=h;cases g:isT close (hd ts)
   · rw[g]at d
     obtain⟨_,t1,c,i⟩:=Ze (x:=if acc.isEmpty then .ok ((),ts)else Zq [44] ts) d;obtain⟨a,t2,j,k⟩:=Ze i
     have l1:tw t1<=tw ts:=by
       split at c
       · injection c with c;injection c with _ c;subst c;exact Yac _
       · have:=ZeF c;simp at this;omega
     have l2:=e t1 _ acc j;have l3:=Zns f e n _ _ _ k;simp at l2;omega
   · rw[g]at d
     injection d with d;subst d;have:=ZiI ts;show f acc+tw ts.tail<=f acc+tw ts;omega
theorem ZDm(t:List Tok)(z:(LB×LB×Bool)×List Tok)(l:List (LB×LB×Bool))(h:ZV t=.ok z):cw (l++[z.1])+tw z.2<=cw l+tw t:=by
 unfold ZV at h;obtain⟨a,t1,e,h⟩:=Ze h;obtain⟨v,t2,c,h⟩:=Ze h;obtain⟨b,t3,f,h⟩:=Ze h;injection h with h;subst h;have l1:=Zkp Dc e;have l3:=Zkp Dc f
 have l2:tw t2<=tw t1:=by
  unfold Zdc at c;split at c
  ·injection c with c;injection c with _ c;subst c;exact ZiI _
  ·obtain⟨_,t4,g,d⟩:=Ze c;injection d with d;injection d with _ d;subst d;have:=ZeF g;simp at this;omega
 rw[ZoG];simp[cw]at *
 omega
theorem Zkq{z:Nd×List Tok}(h:selP ts=.ok z):ownW z.1+6+tw z.2<=tw ts/\z.1.jx=1/\z.1.op=0/\z.1.n=0/\z.1.by_=[]:=by
 unfold selP at h;obtain⟨a,t,d,c⟩:=Ze h
 have l1:tw t+a.length+30=tw ts:=by
  unfold ZdQ at d;split at d
  ·cases d
  ·exact Zkp Dc d
 split at c
 ·obtain⟨cs,t2,f,e⟩:=Ze c;injection e with e;subst e;have l2:=Zns cw ZDm _ _ _ _ f;have l3:=ZiI t;refine⟨?_,rfl,rfl,rfl,rfl⟩;simp[ownW,cw,nw]at *
  omega
 ·injection c with c;subst c;refine⟨?_,rfl,rfl,rfl,rfl⟩;simp[ownW,cw,nw]at *
  omega
theorem Zzr{l:LB}:0<=numV l/\numV l<=1000000000:=by
 unfold numV;cases h:ZQ 1000000000 l with
 | none=>simp
 | some v=>have:=Zgh h;simp;omega
theorem Zl6{a:Nd}(e:a.jx<=2)(d:a.op<=4)(c:0<=a.n/\a.n<=1000000000):wfT (Zbg a):=
 ⟨by omega,d,by omega,by omega,c.1,c.2,by omega,by omega,fun _=>⟨rfl,rfl⟩,by omega,trivial,trivial⟩
theorem ZDp(c:o<=4)(h:winP o ts=.ok z):wfT z.1/\isNil z.1=false/\wT z.1+tw z.2<=tw ts:=by
 unfold winP at h;obtain⟨_,t1,d,h⟩:=Ze h;obtain⟨p,t2,e,h⟩:=Ze h;obtain⟨_,t3,f,h⟩:=Ze h;obtain⟨m,t4,a,h⟩:=Ze h;obtain⟨_,t5,g,h⟩:=Ze h;obtain⟨_,t6,i,h⟩:=Ze h;injection h with h;subst h;have a1:=ZeF d;have a2:=Zkq e;have a3:=ZeF f
 have a4:tw t4<=tw t3/\1<=m/\m<=1000:=by
  unfold Zc2 at a;split at a
  ·rename_i j;injection a with a;injection a with a h4';subst a;subst h4';exact⟨ZiI _,j.2,(Zmr 1000 _).2⟩
  ·cases a
 have a5:=ZeF g;have a6:=ZeF i;refine⟨Zl6 (Yac 2) c ⟨by show 0<=m;omega,by show m<=_;omega⟩,rfl,?_⟩;simp[Zbg,wT,ownW,nw]at *
 omega
def InvP(rec:Nat->List Tok->Nat->Out Tr):Prop:=∀lv t d z,rec lv t d=.ok z->wfT z.1/\isNil z.1=false/\wT z.1+tw z.2<=tw t
theorem ZsS(c:InvP rec)(h:Zbu rec ts deep=.ok z):wfT z.1/\isNil z.1=false/\wT z.1+tw z.2<=tw ts:=by
 unfold Zbu at h;obtain⟨_,t1,d,h⟩:=Ze h;obtain⟨a,t2,e,h⟩:=Ze h;obtain⟨_,t3,f,h⟩:=Ze h;injection h with h;subst h;have a1:=ZeF d;obtain⟨b1,b2,b3⟩:=c _ _ _ _ e;have a3:=ZeF f;refine⟨b1,b2,?_⟩;simp at *
 omega
theorem ZDn(d:InvP rec)(c:g<=3)(h:Zcb rec g ts deep=.ok z):wfT z.1/\isNil z.1=false/\wT z.1+tw z.2<=tw ts:=by
 unfold Zcb at h;obtain⟨_,t1,e,h⟩:=Ze h;obtain⟨_,t2,f,h⟩:=Ze h;obtain⟨ns,t3,i,h⟩:=Ze h;obtain⟨a,t4,j,h⟩:=Ze h;injection h with h;subst h;have a1:=ZeF e;have a2:=ZeF f;have a3:=Zns nw (fun t z l k=>by have:=Zkp Dc k;rw[ZzD];simp[nw];omega) _ _ _ _ i;obtain⟨b1,b2,b3⟩:=ZsS d j;refine⟨⟨by show(5:Nat)<=6;omega,by show g<=4;omega,fun _=>c,fun _=>c,Yd0 _,by show(0:Int)<=_;omega,fun _=>b2,fun h=>by simp at h,fun h=>absurd (show(5:Nat)<=2 from h) Om,fun _=>rfl,b1,trivial⟩,rfl,?_⟩;simp[wT,ownW,cw,nw]at *
 omega
theorem Zji{w:LB}{i:Nat}(h:idx w l=some i):i<l.length:=by
 induction l generalizing i with
 | nil=>cases h
 | cons x l ih=>
  unfold idx at h;split at h
  ·injection h with h;subst h;simp
  ·cases a:idx w l with
   | none=>rw[a]at h;cases h
   | some j=>rw[a]at h;injection h with h;subst h;have:=ih a;simp;omega
theorem ZDo(c:InvP rec)(h:Zbw rec ts deep=.ok z):wfT z.1/\isNil z.1=false/\wT z.1+tw z.2<=tw ts:=by
 unfold Zbw at h;have j:=ZiI ts;split at h
 ·rename_i k;injection h with h;subst h;have:=ZiH (ts:=ts) Om;refine⟨Zl6 (Yag _) (Yag _) (Zzr),rfl,?_⟩;simp[Zbg,wT,ownW,cw,nw]at *
  omega
 ·split at h
  ·rename_i e;obtain⟨a,t1,d,h⟩:=Ze h;injection h with h;subst h;obtain⟨b1,b2,b3⟩:=c _ _ _ _ d;have:=ZiH (ts:=ts) (fun h=>Zib e (Or.inl h));refine⟨⟨by show(3:Nat)<=6;omega,Yag _,fun _=>Yag _,fun _=>Yag _,Yd0 _,by show(0:Int)<=_;omega,fun _=>b2,fun h=>by simp[nd0]at h,fun h=>absurd (show(3:Nat)<=2 from h) Om,fun _=>rfl,b1,trivial⟩,rfl,?_⟩;simp[wT,ownW,cw,nw,nd0]at *
   omega
  ·split at h
   ·exact ZsS c h
   ·split at h
    ·rename_i g f;have:=Zji f;obtain⟨b1,b2,b3⟩:=ZDn c (show g<=3 by simp[ZW]at this;omega) h;exact⟨b1,b2,by omega⟩
    ·split at h
     ·rename_i o i;have:=Zji i;obtain⟨b1,b2,b3⟩:=ZDp (show o<=4 by simp[Z0]at this;omega) h;exact⟨b1,b2,by omega⟩
     ·obtain⟨p,t1,d,h⟩:=Ze h;injection h with h;subst h;obtain⟨a1,a2,a3,a4,a5⟩:=Zkq d;simp only at a1 a2 a3 a4;refine⟨Zl6 Om Om ⟨by omega,by omega⟩,rfl,?_⟩;simp[Zbg,wT]at *
      omega
theorem Zfv:∀(n:Nat) (m:Bool) (lv:Nat) (a:Tr) (ts:List Tok) (deep:Nat) (z:Tr×List Tok),(m=true->wfT a/\isNil a=false)->Zs n m lv a ts deep=.ok z->wfT z.1/\isNil z.1=false/\wT z.1+tw z.2<=tw ts+(if m then wT a else 0)
 | 0,_,_,_,_,_,_,_,h=>by cases h
 | n + 1, false, lv, a, ts, deep, z, _, h => by
   have q : InvP (fun lv t d => Zs n false lv .nil t d) := fun lv t d z h => by
     obtain⟨g,i,o⟩:=Zfv n false lv .nil t d z (fun h=>(by cases h)) h;exact⟨g,i,by simpa using o⟩
   unfold Zs at h;split at h
   · unfold Zb9 at h
     split at h
     · split at h
       · cases h
       · obtain⟨g,i,o⟩:=ZDo q h
         exact⟨g,i,by simpa using o⟩
     · cases h
   · obtain⟨b,t1,g,i⟩:=Ze h
     obtain⟨l1,l2,l3⟩:=q _ _ _ _ g;obtain⟨m1,m2,m3⟩:=Zfv n true lv b t1 deep z (fun _=>⟨l1,l2⟩) i;refine⟨m1,m2,?_⟩;simp at l3 m3 ⊢;omega
 | n + 1, true, lv, a, ts, deep, z, s, h => by
   obtain⟨k,l⟩:=s rfl;unfold Zs at h;split at h
   · injection h with h;subst h;exact⟨k,l,by simp;omega⟩
   · rename_i p e
     obtain⟨b,t1,g,i⟩:=Ze h;obtain⟨l1,l2,l3⟩:=Zfv n false _ _ _ _ _ (fun h=>(by cases h)) g
     have r:((p.1=4/\p.2<=3)∨(p.1=6/\p.2=0))/\tw ts.tail+30<=tw ts:=by
       have j:∀c,isT c (hd ts)=true->tw ts.tail+30<=tw ts:=fun c f=>by have:=ZiH (ts:=ts) (fun h=>Zib f (Or.inl h));omega
       unfold LS.opAt at e;split at e
       · split at e
         · rename_i f;injection e with e;subst e;exact⟨Or.inr ⟨rfl,rfl⟩,j _ f⟩
         · cases e
       · split at e
         · split at e
           · rename_i f;injection e with e;subst e;exact⟨Or.inl ⟨rfl,by decide⟩,j _ f⟩
           · split at e
             · rename_i f;injection e with e;subst e;exact⟨Or.inl ⟨rfl,by decide⟩,j _ f⟩
             · cases e
         · split at e
           · rename_i f;injection e with e;subst e;exact⟨Or.inl ⟨rfl,by decide⟩,j _ f⟩
           · split at e
             · rename_i f;injection e with e;subst e;exact⟨Or.inl ⟨rfl,by decide⟩,j _ f⟩
             · cases e
     obtain⟨w,v⟩:=r
     have u:wfT (.node 0 0 (nd0 p.1 p.2) a b):=by
       refine⟨?_,?_,?_,?_,Yd0 _,by show(0:Int)<=_;omega,fun _=>l,fun _=>l2,?_,?_,k,l1⟩
       · show p.1<=6;omega
       · show p.2<=4;omega
       · intro h;show p.2<=3;omega
       · intro h;exact absurd (show p.1=5 from h) Om
       · intro h;exact absurd (show p.1<=2 from h) Om
       · intro h;exact absurd (show p.1=3∨p.1=5 from h) Om
     obtain⟨m1,m2,m3⟩:=Zfv n true lv _ t1 deep z (fun _=>⟨u,rfl⟩) i;refine⟨m1,m2,?_⟩;simp[wT,ownW,cw,nw,nd0]at l3 m3 ⊢;omega
def opNo(a:Nd):Nat:=if a.jx=6 then 0 else a.op+1
def Zh(w:World):Tr->Value->Prop
 | .nil,_=>False
 | .node _ _ a l r,v=>
  (a.jx=0/\v=.iface 152 (.agg #[Vi a.n]))∨
  (a.jx=1/\∃(nm:BA) (la:Option Addr) (ln lc:Nat),v=.iface 179 (.agg #[.string nm,.slice la ln lc])/\bl nm=a.name/\ZX w (.slice la ln lc) a.jq)∨
  (a.jx=2/\∃(wd nm:BA) (la:Option Addr) (ln lc:Nat),v=.iface 181 (.agg #[.string wd,.string nm,.slice la ln lc,Vi a.n])/\bl wd=Z0.getD a.op []/\bl nm=a.name/\ZX w (.slice la ln lc) a.jq)∨
  (a.jx=3/\∃x,v=.iface 154 (.agg #[x])/\Zh w l x)∨
  (a.jx=5/\∃(wd:BA) (la:Option Addr) (ln lc:Nat) (x:Value),v=.iface 156 (.agg #[.string wd,.slice la ln lc,x])/\bl wd=ZW.getD a.op []/\Zbm w (.slice la ln lc) a.by_/\Zh w l x)∨
  ((a.jx=4∨a.jx=6)/\∃x y,v=.iface 149 (.agg #[Vi (opNo a),x,y])/\Zh w l x/\Zh w r y)
def Zhp(v:Value):Prop:=v=.nilIface∨∃(ty:TypeId) (u:Value),v=.iface ty u
theorem Zh.shape : ∀ {t:Tr} {v:Value},Zh w t v->∃(ty:TypeId) (u:Value),v=.iface ty u
 | .nil,_,h=>h.elim
 | .node _ _ a l r, v, h => by
   rcases h with ⟨_,h⟩|⟨_,_,_,_,_,h,_⟩|⟨_,_,_,_,_,_,h,_⟩|⟨_,_,h,_⟩|⟨_,_,_,_,_,_,h,_⟩|⟨_,_,_,h,_⟩
   all_goals exact⟨_,_,h⟩
theorem ZX.below{ns:List (LB×LB×Bool)}(h:ZX w v ns)(a:BW w w'):ZX w' v ns:=by
 obtain⟨bs,c,d⟩:=h;exact⟨bs,Zn c a,d⟩
theorem Zbm.below(h:Zbm w v ns)(a:BW w w'):Zbm w' v ns:=by
 obtain⟨bs,c,d⟩:=h;exact⟨bs,Zn c a,d⟩
theorem Zh.mono(i:∀v cs,ZX w v cs->ZX w' v cs)(j:∀v ns,Zbm w v ns->Zbm w' v ns):∀(t:Tr) (v:Value),Zh w t v->Zh w' t v
 | .nil,_,h=>h
 | .node _ _ a l r, v, h => by
   have g:=Zh.mono i j l;have n:=Zh.mono i j r;rcases h with h|⟨c,nm,la,ln,lc,d,e,f⟩|⟨c,k,nm,la,ln,lc,d,e,f,m⟩|⟨c,x,d,e⟩|⟨c,k,la,ln,lc,x,d,e,f,m⟩|⟨c,x,y,d,e,f⟩
   · exact Or.inl h
   · exact Or.inr (Or.inl ⟨c,nm,la,ln,lc,d,e,i _ _ f⟩)
   · exact Or.inr (Or.inr (Or.inl ⟨c,k,nm,la,ln,lc,d,e,f,i _ _ m⟩))
   · exact Or.inr (Or.inr (Or.inr (Or.inl ⟨c,x,d,g x e⟩)))
   · exact Or.inr (Or.inr (Or.inr (Or.inr (Or.inl ⟨c,k,la,ln,lc,x,d,e,j _ _ f,g x m⟩))))
   · exact Or.inr (Or.inr (Or.inr (Or.inr (Or.inr ⟨c,x,y,d,g x e,n y f⟩))))
theorem Zh.below(h:Zh w t v)(a:BW w w'):Zh w' t v:=Zh.mono (fun _ _ h=>h.below a) (fun _ _ h=>h.below a) t v h
theorem Zh.kept(h:Zh w t v){b:Nat}(a:w.grownBy w' (some b)){c:Array Value}{ty:TypeId}(d:w.heap[b]?=some (.cells c ty fr))(e:ty≠247)(f:ty≠9):Zh w' t v:=
 Zh.mono (fun _ _ h=>h.kept a d e) (fun _ _ h=>h.kept a d f) t v h
theorem Zh.read(h:Zh w t v)(a:RK w R k ts)(c:w.grownBy w' (some R.b)):Zh w' t v:=h.kept c a.rd.cells Dc Dc
theorem ZX.read{cs:List (LB×LB×Bool)}(h:ZX w v cs)(a:RK w R k ts)(c:w.grownBy w' (some R.b)):ZX w' v cs:=h.kept c a.rd.cells Dc
theorem Zbm.read{cs:List (LB)}(h:Zbm w v cs)(a:RK w R k ts)(c:w.grownBy w' (some R.b)):Zbm w' v cs:=h.kept c a.rd.cells Dc
theorem Res.err{α:Type}{V:World->α->Prop}{r:Out α}(h:Res R V w r v)(a:r=.error e):Z9 w R e v:=by subst a;exact h
theorem Res.good{α:Type}{V:World->α->Prop}{r:Out α}(h:Res R V w r v){a:α}(c:r=.ok (a,ts)):v=.nilIface/\(∃k,RK w R k ts)/\V w a:=by subst c;exact h
attribute [local go_sem ↓] Go.wp_at_zero Go.wp_at_succ
theorem ZCi(l:LB):(1<=numI 1000 l ↔ 1<=numV l/\numV l<=1000)/\(1<=numI 1000 l->numI 1000 l=numV l):=by
 unfold numI numV ZQ;by_cases c:l.length<1∨(l.head?=some 48/\1<l.length)∨l.all ZC=false
 ·rw[if_pos (by rcases c with h|h|h;exact Or.inl h;exact Or.inr (Or.inl h);exact Or.inr (Or.inr (Or.inl h)))];rw[if_pos (by rcases c with h|h|h;exact Or.inl h;exact Or.inr (Or.inl h);exact Or.inr (Or.inr (Or.inl h)))];simp
 ·have e:∀most,most<val l->(l.length<1∨(l.head?=some 48/\1<l.length)∨l.all ZC=false∨most<val l):=fun _ h=>Or.inr (Or.inr (Or.inr h))
  have d:∀most,¬most<val l->¬(l.length<1∨(l.head?=some 48/\1<l.length)∨l.all ZC=false∨most<val l):=by
   rintro most h (a|a|a|a)
   ·exact c (Or.inl a)
   ·exact c (Or.inr (Or.inl a))
   ·exact c (Or.inr (Or.inr a))
   ·exact h a
  by_cases a:1000<val l
  ·rw[if_pos (e _ a)];by_cases f:1000000000<val l
   ·rw[if_pos (e _ f)];simp
   ·rw[if_neg (d _ f)];simp only[Ya6];constructor
    ·constructor
     ·intro h;omega
     ·intro h;omega
    ·intro h;omega
  ·rw[if_neg (d _ a),if_neg (d _ Om)];simp only[Ya6];constructor
   ·constructor
    ·intro h;omega
    ·intro h;omega
   ·intro _;trivial
def lenP(ts:List Tok):Out Int:=bnd (Zq [91] ts) fun _ r=>bnd (Zc2 r) fun n r=>bnd (Zq [93] r) fun _ r=>.ok (n,r)
theorem Zs8 (o : Nat) (ts : List Tok) : winP o ts = bnd (Zq [40] ts) fun _ r => bnd (selP r) fun p r => bnd (lenP r) fun n r => bnd (Zq [41] r) fun _ r => .ok (Zbg ⟨2, o, n, p.name, p.jq, []⟩, r) := by
  unfold winP lenP;cases a:Zq [40] ts with
  | error e=>rfl
  | ok p1=>
    obtain⟨a1,r1⟩:=p1;simp only[bnd];cases c:selP r1 with
    | error e=>rfl
    | ok p2=>
      obtain⟨a2,r2⟩:=p2;simp only;cases d:Zq [91] r2 with
      | error e=>rfl
      | ok p3=>
        obtain⟨a3,r3⟩:=p3;simp only;cases f:Zc2 r3 with
        | error e=>rfl
        | ok p4=>
          obtain⟨a4,r4⟩:=p4;simp only;cases g:Zq [93] r4 with
          | error e=>rfl
          | ok p5=>rfl
theorem Ze7(s:LB)(ts:List Tok):(isT s (hd ts)=true/\Zq s ts=.ok ((),ts.tail))∨(¬isT s (hd ts)=true/\Zq s ts=.error (2,(hd ts).at_)):=by
 by_cases h:isT s (hd ts)=true
 ·exact Or.inl ⟨h,ZdU h⟩
 ·exact Or.inr ⟨h,Ze8 h⟩
theorem ZEJ(h:RK w R k ts) :
  CP 156 #[Vp R.b] w fun e u=>∃(n:Int) (v:Value),e=.returned (.tuple #[Vi n,v])/\Hid (Res R (fun _ m=>n=m) u (lenP ts) v)/\w.grownBy u (some R.b):=by
 have H:Hid (RK w R k ts):=h;have a3:R.b<w.heap.size:=(Yae.1 h.rd.cells).1;clear h;go_enter func156,ntmps156
 go_wp2_with fail
 refine(ZdT H.out ⟨#[91]⟩ Dc Dc).mono ?_;rintro e y ⟨v,rfl,f,X⟩;have D:Hid (w.grownBy y (some R.b)):=X;clear X;rcases Ze7 [91] ts with ⟨q,c⟩|⟨q,c⟩
 ·obtain⟨rfl,⟨k1,d⟩,_⟩:=f.good c;have E:Hid (RK y R k1 ts.tail):=d;have F:Hid (lenP ts=bnd (Zc2 ts.tail) fun n r=>bnd (Zq [93] r) fun _ r=>.ok (n,r)):=hid (by unfold lenP;rw[c];rfl);clear f d q c
  go_wp2_with fail
  refine(Zee E.out).mono ?_;rintro e z ⟨⟨kd,at_,tx,tv⟩,rfl,B,G⟩;have I:Hid (w.grownBy z (some R.b)):=Zj D.out (Zw G);have Q:Hid (RK z R k1 ts.tail):=E.below G;clear G D E
  go_upto_region 5 with fail
  refine ZP fun P J=>?_;have K:BW z P:=by rw[J];exact Zbal
  have t:Hid (BAt P z.heap.size [Vi kd,Vi at_,.string tx,Vi tv] 87):=hid (by rw[J];exact Go.Deep.blk_alloc_new _ _);have x:Hid (w.grownBy P (some R.b)):=Zj I.out (Zw K);have g:Hid (RK P R k1 ts.tail):=Q.below K;have a4:R.b<z.heap.size:=by have:=I.size;omega
  clear J K Q I;have t0:=t.cell 0;have t3:=t.cell 3;simp only[Zget]at t0 t3;have i:=ZCi (hd ts.tail).txt;by_cases d:(hd ts.tail).jx=1
  ·have S:kd=0:=by have:=B.1;rw[d]at this;exact this
   subst S;have j:(tv:Int)=numV (hd ts.tail).txt:=B.2.2.2 d;by_cases s:1<=numI 1000 (hd ts.tail).txt
   ·have C:=i.1.1 s;rw[<-j]at C;have T:=C.1;have L:=C.2;have Y:Hid (Zc2 ts.tail=.ok ((tv:Int),ts.tail.tail)):=hid (by unfold Zc2;rw[if_pos ⟨d,s⟩,i.2 s,<-j]);have HD:Hid (¬((hd ts.tail).jx=0∨(hd ts.tail).jx=5)):=hid Om;obtain⟨rc0,rc1,rfz,rcx⟩:=g.rd.all;have a5:=g.lt;have a6:=g.len;clear s i j C d B
    go_upto_region 8 with fail
    refine ZP fun M A=>?_;have Z:Hid (RK M R (k1+1) ts.tail.tail):=hid (by rw[A];exact g.step HD.out);have a0:Hid (w.grownBy M (some R.b)):=hid (by rw[A];exact ZA x.out (Or.inl rfl));have a1:Hid (BAt M z.heap.size [Vi (0:Nat),Vi at_,.string tx,Vi tv] 87):=hid (by rw[A];exact t.other (by show z.heap.size≠R.b;omega) _);clear A rc0 rc1 rfz rcx t0 t3 t g x;have e3:=a1.cell 3;simp only[Zget]at e3;have U:Hid (RK M.drew R (k1+1) ts.tail.tail):=Z.below ((Yaf _ _).drew);have V:Hid (w.grownBy M.drew (some R.b)):=Zj a0.out (Zw ((Yaf _ _).drew))
    go_region_held3 (fun u => u.cell? ⟨z.heap.size, 3, none⟩ = some (Vi tv)) (first | exact e9 | exact e3 | go_keep) (first
      | (go_at_call 152
         refine(ZdT U.out ⟨#[93]⟩ Dc Dc).mono ?_;rintro e w9 ⟨v,rfl,f,N⟩;have e9:w9.cell? ⟨z.heap.size,3,none⟩=some (Vi tv):=(Ycc (a:=⟨z.heap.size,3,none⟩) (N.block _ (Yai _ _ e3) (by simp;omega))).trans e3;have a2:Hid (w.grownBy w9 (some R.b)):=Zj V.out N;clear N))
    all_goals
     go_wp2;go_ret2;refine⟨_,_,rfl,?_,a2.out⟩;rw[F.out,Y.out];show Hid (Res R _ _ (bnd (Zq [93] ts.tail.tail) _) _);rcases Ze7 [93] ts.tail.tail with ⟨_,c⟩|⟨_,c⟩
     ·obtain⟨q,h2,_⟩:=f.good c;rw[c];exact⟨q,h2,rfl⟩
     ·have:=f.err c;rw[c];exact this
   ·have l:Hid (lenP ts=.error (2,(hd ts.tail).at_)):=hid (by rw[F.out];unfold Zc2;rw[if_neg (fun h=>s h.2)];rfl)
    have C:(tv:Int)<1∨1000<(tv:Int):=by
     rw[j];by_cases q:1<=numV (hd ts.tail).txt/\numV (hd ts.tail).txt<=1000
     ·exact absurd (i.1.2 q) s
     ·omega
    clear s i j d B;by_cases T:(tv:Int)<1
    all_goals
     have L:¬(tv:Int)<1->1000<(tv:Int):=by omega
     clear C
     try have a7:=L T
     clear L
     go_wp2_with fail
     refine(Zfi g.out).mono ?_;rintro e W ⟨v,rfl,o,p⟩;obtain⟨fa,rfl⟩:=o.shape;have O:Hid (w.grownBy W (some R.b)):=Zj x.out (Zw p);clear p;go_wp2;go_ret2;exact⟨_,_,rfl,by rw[l.out];exact o,O.out⟩
  ·have S:((kd:Int) != 0)=true:=by
    rw[bne_iff_ne];intro e;exact d ((Ze0 g.wf.head.2.2).2.2.2.1.1 (by have:=B.1;simp only at this;omega))
   have l:Hid (lenP ts=.error (2,(hd ts.tail).at_)):=hid (by rw[F.out];unfold Zc2;rw[if_neg (fun h=>d h.1)];rfl);clear i B d
   go_wp2_with fail
   refine(Zfi g.out).mono ?_;rintro e W ⟨v,rfl,o,p⟩;obtain⟨fa,rfl⟩:=o.shape;have O:Hid (w.grownBy W (some R.b)):=Zj x.out (Zw p);clear p;go_wp2;go_ret2;exact⟨_,_,rfl,by rw[l.out];exact o,O.out⟩
 ·have l:Hid (lenP ts=.error (2,(hd ts).at_)):=hid (by unfold lenP;rw[c];rfl);have o:=hid (f.err c);obtain⟨fa,rfl⟩:=o.shape;clear f c q;go_wp2;go_ret2;exact⟨_,_,rfl,by rw[l.out];exact o,D.out⟩
end
section
attribute [local go_sem ↓] Go.wp_at_zero Go.wp_at_succ
theorem ZEK(h:RK w R k ts)(J:BA)(o:Nat)(L:bl J=Z0.getD o []) :
  CP 115 #[Vp R.b,.string J] w fun e u=>∃(pv v:Value),e=.returned (.tuple #[pv,v])/\Zhp pv/\Hid (Res R (fun u t=>Zh u t pv) u (winP o ts) v)/\w.grownBy u (some R.b):=by
 have H:Hid (RK w R k ts):=h;have a3:Hid (bl J=Z0.getD o []):=L;have b0:R.b<w.heap.size:=(Yae.1 h.rd.cells).1;clear h L;go_enter func115,ntmps115
 go_wp2_with fail
 refine(ZdT H.out ⟨#[40]⟩ Dc Dc).mono ?_;rintro e y ⟨v,rfl,c,hg⟩;have A:Hid (w.grownBy y (some R.b)):=hg;clear hg;rcases Ze7 [40] ts with ⟨B,d⟩|⟨B,d⟩
 ·obtain⟨rfl,⟨k1,M⟩,_⟩:=c.good d;have N:Hid (RK y R k1 ts.tail):=M;have C:Hid (winP o ts=bnd (selP ts.tail) fun p r=>bnd (lenP r) fun n r=>bnd (Zq [41] r) fun _ r=>.ok (Zbg ⟨2,o,n,p.name,p.jq,[]⟩,r)):=hid (by rw[Zs8,d];rfl);clear c M B d
  go_wp2_with fail
  refine(Zsd N.out).mono ?_;rintro e z ⟨nm,la,ln,lc,v,rfl,c,O⟩;have q:Hid (w.grownBy z (some R.b)):=Zj A.out O;have b1:R.b<z.heap.size:=by have:=q.size;omega
  clear O A N;cases f:selP ts.tail with
  | error er=>
   have i:=hid (c.err f);obtain⟨fa,rfl⟩:=i.shape;have j:Hid (winP o ts=.error er):=hid (by rw[C.out,f];rfl);clear c f;go_wp2;go_ret2;exact⟨_,_,rfl,Or.inl rfl,by rw[j.out];exact i.below Zbal,ZbR q.out⟩
  | ok pr=>
   obtain⟨nd,r2⟩:=pr;obtain⟨rfl,⟨k2,P⟩,Q,S⟩:=c.good f;have D:Hid (winP o ts=bnd (lenP r2) fun n r=>bnd (Zq [41] r) fun _ r=>.ok (Zbg ⟨2,o,n,nd.name,nd.jq,[]⟩,r)):=hid (by rw[C.out,f];rfl);have a4:Hid (bl nm=nd.name):=Q;have T:Hid (ZX z (.slice la ln lc) nd.jq):=S;have U:Hid (RK z R k2 r2):=P;clear c f P Q S C
   go_wp2_with fail
   refine Zm fun E F=>?_;have s:BW z E:=by rw[F];exact Zbal
   have V:Hid (BAt E z.heap.size [.string nm,.slice la ln lc] 179):=hid (by rw[F];exact Go.Deep.blk_alloc_new _ _);have W:Hid (w.grownBy E (some R.b)):=Zj q.out (Zw s);have G:Hid (RK E R k2 r2):=U.below s;have X:Hid (ZX E (.slice la ln lc) nd.jq):=T.below s;clear F s q U T;refine(ZEJ G.out).mono ?_;rintro e m ⟨n,v,rfl,c,x⟩;have Y:Hid (w.grownBy m (some R.b)):=Zj W.out x;have a5:Hid (ZX m (.slice la ln lc) nd.jq):=X.read G.out x;have Z:Hid (BAt m z.heap.size [.string nm,.slice la ln lc] 179):=V.grown x (by simp;omega);clear x W X V G;cases g:lenP r2 with
   | error er=>
    have i:=hid (c.err g);obtain⟨fa,rfl⟩:=i.shape;have j:Hid (winP o ts=.error er):=hid (by rw[D.out,g];rfl);clear c g;go_wp2;go_ret2;exact⟨_,_,rfl,Or.inl rfl,by rw[j.out];exact i,Y.out⟩
   | ok pr=>
    obtain⟨n',r4⟩:=pr;obtain⟨rfl,⟨k4,a0⟩,hn⟩:=c.good g;subst hn;have a6:Hid (winP o ts=bnd (Zq [41] r4) fun _ r=>.ok (Zbg ⟨2,o,n,nd.name,nd.jq,[]⟩,r)):=hid (by rw[D.out,g];rfl);have a7:Hid (RK m R k4 r4):=a0;clear c g a0 D;have e0:=Z.cell 0;have e1:=Z.cell 1;simp only[Zget]at e0 e1;have I:Hid (RK m.drew R k4 r4):=a7.below ((Yaf _ _).drew);have a1:Hid (w.grownBy m.drew (some R.b)):=Zj Y.out (Zw ((Yaf _ _).drew));have a2:Hid (ZX m.drew (.slice la ln lc) nd.jq):=a5.below ((Yaf _ _).drew)
    go_upto_region 10 with fail
    go_region_held3 (fun u => u.cell? ⟨z.heap.size, 0, none⟩ = some (.string nm) /\ u.cell? ⟨z.heap.size, 1, none⟩ = some (.slice la ln lc)) (first | exact ⟨e90, e91⟩ | exact ⟨e0, e1⟩ | go_keep) (first
      | (go_at_call 152
         refine(ZdT I.out ⟨#[41]⟩ Dc Dc).mono ?_;rintro e K ⟨v,rfl,c,l⟩;have e90:K.cell? ⟨z.heap.size,0,none⟩=some (.string nm):=(Ycc (a:=⟨z.heap.size,0,none⟩) (l.block _ (Yai _ _ e0) (by simp;omega))).trans e0;have e91:K.cell? ⟨z.heap.size,1,none⟩=some (.slice la ln lc):=(Ycc (a:=⟨z.heap.size,1,none⟩) (l.block _ (Yai _ _ e1) (by simp;omega))).trans e1;have a8:Hid (w.grownBy K (some R.b)):=Zj a1.out l;have a9:Hid (ZX K (.slice la ln lc) nd.jq):=a2.read I.out l;clear l))
    all_goals
     go_wp2;go_ret2;refine⟨_,_,rfl,Or.inr ⟨_,_,rfl⟩,?_,a8.out⟩;rw[a6.out];rcases Ze7 [41] r4 with ⟨_,d⟩|⟨_,d⟩
     ·obtain⟨B,h2,_⟩:=c.good d;rw[d];exact⟨B,h2,Or.inr (Or.inr (Or.inl ⟨rfl,J,nm,la,ln,lc,rfl,a3.out,a4.out,a9.out⟩))⟩
     ·have:=c.err d;rw[d];exact this
 ·have j:Hid (winP o ts=.error (2,(hd ts).at_)):=hid (by rw[Zs8,d];rfl);have i:=hid (c.err d);obtain⟨fa,rfl⟩:=i.shape;clear c d B;go_wp2;go_ret2;exact⟨_,_,rfl,Or.inl rfl,by rw[j.out];exact i,A.out⟩
end
section
def ZeO(f:FuncId)(args:Nat->List Value)(P:List Tok->Nat->Out Tr)(ok:List Tok->Prop):Prop:=∀(w:World) (R:RS) (k:Nat) (ts:List Tok) (deep:Nat),RK w R k ts->deep<=20->ok ts->
 CP f ⟨Vp R.b::args deep⟩ w fun e w'=>∃(pv v:Value),e=.returned (.tuple #[pv,v])/\Zhp pv/\Hid (Res R (fun w' t=>Zh w' t pv) w' (P ts deep) v)/\w.grownBy w' (some R.b)
theorem Zug {rec : Nat -> List Tok -> Nat -> Out Tr}  (N : ZeO 32 (fun d => [Vi 0, Vi (d + 1 : Nat)]) (rec 0) (fun ts => ts.length < m)) :
    ZeO 111 (fun d=>[Vi (d+1:Nat)]) (Zbu rec) (fun ts=>ts.length<=m):=by
  intro w R k ts deep h hd s;have H:Hid (RK w R k ts):=h;have O:Hid (deep<=20):=hd;have P:Hid (ts.length<=m):=s;clear h hd s;go_enter func111,ntmps111
  go_wp2_with fail
  refine(ZdT H.out ⟨#[40]⟩ Dc Dc).mono ?_;rintro e y ⟨v,rfl,c,G⟩;have i:Hid (w.grownBy y (some R.b)):=G;clear G;rcases Ze7 [40] ts with ⟨j,f⟩|⟨j,f⟩
  · obtain⟨rfl,⟨k1,u⟩,_⟩:=c.good f
    have x:Hid (RK y R k1 ts.tail):=u;have l:Hid (Zbu rec ts deep=bnd (rec 0 ts.tail deep) fun a r=>bnd (Zq [41] r) fun _ r=>.ok (a,r)):=hid (by unfold Zbu;rw[f];rfl);clear c u j f
    go_wp2_with fail
    refine(N y R k1 ts.tail deep x.out O.out (by show ts.tail.length<m;have:=H.pos;have:=P.out;rw[Yb4];omega)).mono ?_;rintro e z ⟨pv,v,rfl,A,c,B⟩;have n:Hid (w.grownBy z (some R.b)):=Zj i.out B;clear B i x;cases g:rec 0 ts.tail deep with
    | error er=>
      have o:=hid (c.err g);obtain⟨fa,rfl⟩:=o.shape;have p:Hid (Zbu rec ts deep=.error er):=hid (by rw[l.out,g];rfl);clear c g;go_wp2;go_ret2;exact⟨_,_,rfl,Or.inl rfl,by rw[p.out];exact o,n.out⟩
    | ok pr=>
      obtain⟨t,r2⟩:=pr;obtain⟨rfl,⟨k2,C⟩,D⟩:=c.good g;have I:Hid (Zbu rec ts deep=bnd (Zq [41] r2) fun _ r=>.ok (t,r)):=hid (by rw[l.out,g];rfl);have E:Hid (RK z R k2 r2):=C;have F:Hid (Zh z t pv):=D;clear c g C D l
      go_wp2_with fail
      refine(ZdT E.out ⟨#[41]⟩ Dc Dc).mono ?_;rintro e J ⟨v,rfl,c,q⟩;have K:Hid (w.grownBy J (some R.b)):=Zj n.out q;have L:Hid (Zh J t pv):=F.read E.out q;have M:Hid (Zhp pv):=A;clear q n F A;go_wp2;go_ret2;refine⟨_,_,rfl,M.out,?_,K.out⟩;rw[I.out];rcases Ze7 [41] r2 with ⟨_,f⟩|⟨_,f⟩
      · obtain⟨j,Q,_⟩:=c.good f
        rw[f];exact⟨j,Q,L.out⟩
      · have:=c.err f
        rw[f];exact this
  · have p:Hid (Zbu rec ts deep=.error (2,(LS.hd ts).at_)):=hid (by unfold Zbu;rw[f];rfl)
    have o:=hid (c.err f);obtain⟨fa,rfl⟩:=o.shape;clear c f j;go_wp2;go_ret2;exact⟨_,_,rfl,Or.inl rfl,by rw[p.out];exact o,i.out⟩
theorem ZpI (rec : Nat -> List Tok -> Nat -> Out Tr) (g : Nat) (ts : List Tok) (deep : Nat) : Zcb rec g ts deep = bnd (Zq wBy ts) fun _ r => bnd (bnd (Zq [40] r) fun _ r => ZS (ZH 2) [41] (r.length + 1) [] r) fun ns r => bnd (Zbu rec r deep) fun a r => .ok (.node 0 0 ⟨5, g, 0, [], [], ns⟩ a .nil, r) := by
  unfold Zcb;cases c:Zq wBy ts with
  | error e=>rfl
  | ok p1=>
    obtain⟨a1,r1⟩:=p1;simp only[bnd];cases d:Zq [40] r1 with
    | error e=>rfl
    | ok p2=>rfl
theorem Zyz    (h : (bnd (Zq [40] ts) fun _ r => ZS (ZH 2) [41] (r.length + 1) [] r) = .ok (ns, r)) : r.length <= ts.length := by
  have l:∀(n:Nat) (acc:List (LB)) (ts:List Tok) (z:List (LB)×List Tok),ZS (ZH 2) [41] n acc ts=.ok z->z.2.length<=ts.length:=by
    intro n
    induction n with
    | zero=>intro acc ts z h;cases h
    | succ n ih=>
      intro acc ts z h;by_cases j:isT [41] (hd ts)=true
      · rw[Zma j]at h;cases h;simp
      · have f:isT [41] (hd ts)=false:=Yce.2 j
        by_cases k:acc=[]
        · subst k
          rw[Zmb f]at h;cases d:ZH 2 ts with
          | error e=>rw[d]at h;cases h
          | ok p=>
            obtain⟨a,r⟩:=p;rw[d]at h;have g:=ih _ _ _ h;have i:=Zjt d;subst i;simp at g;omega
        · rw[Zmd f k]at h
          rcases Ze7 [44] ts with ⟨_,c⟩|⟨_,c⟩
          · rw[c]at h
            simp only[bnd]at h;cases d:ZH 2 ts.tail with
            | error e=>rw[d]at h;cases h
            | ok p=>
              obtain⟨a,r⟩:=p;rw[d]at h;have g:=ih _ _ _ h;have i:=Zjt d;subst i;simp at g;omega
          · rw[c]at h;cases h
  rcases Ze7 [40] ts with ⟨_,c⟩|⟨_,c⟩
  · rw[c]at h
    have:=l _ _ _ _ h;simp at this;omega
  · rw[c]at h;cases h
theorem ZwJ {rec : Nat -> List Tok -> Nat -> Out Tr}  (U : ZeO 111 (fun d => [Vi (d + 1 : Nat)]) (Zbu rec) (fun ts => ts.length <= m)) (x : BA) (g : Nat) (A : bl x = ZW.getD g []) :
    ZeO 113 (fun d=>[.string x,Vi (d+1:Nat)]) (Zcb rec g) (fun ts=>ts.length<=m):=by
  intro w R k ts deep h hd B;have H:Hid (RK w R k ts):=h;have L:Hid (bl x=ZW.getD g []):=A;have V:Hid (deep<=20):=hd;have W:Hid (ts.length<=m):=B;clear h hd B A;go_enter func113,ntmps113
  go_wp2_with fail
  refine(ZC8 H.out ⟨#[98,121]⟩ Dc Dc).mono ?_;rintro e y ⟨v,rfl,c,M⟩;have j:Hid (w.grownBy y (some R.b)):=M;clear M;rcases Ze7 wBy ts with ⟨l,f⟩|⟨l,f⟩
  · obtain⟨rfl,⟨k1,C⟩,_⟩:=c.good f
    have D:Hid (RK y R k1 ts.tail):=C;have n:Hid (Zcb rec g ts deep=bnd (bnd (Zq [40] ts.tail) fun _ r=>ZS (ZH 2) [41] (r.length+1) [] r) fun ns r=>bnd (Zbu rec r deep) fun a r=>.ok (.node 0 0 ⟨5,g,0,[],[],ns⟩ a .nil,r)):=hid (by rw[ZpI,f];rfl);clear c C l f
    go_wp2_with fail
    refine(ZyA D.out ⟨#[40]⟩ ⟨#[41]⟩ Dc Dc).mono ?_;rintro e z ⟨la,ln,lc,v,rfl,c,E⟩;have o:Hid (w.grownBy z (some R.b)):=Zj j.out E;clear E j D;cases i:(bnd (Zq [40] ts.tail) fun _ r=>ZS (ZH 2) [41] (r.length+1) [] r)with
    | error er=>
      have p:=hid (c.err i);obtain⟨fa,rfl⟩:=p.shape;have q:Hid (Zcb rec g ts deep=.error er):=hid (by rw[n.out,i];rfl);clear c i;go_wp2;go_ret2;exact⟨_,_,rfl,Or.inl rfl,by rw[q.out];exact p,o.out⟩
    | ok pr=>
      obtain⟨ns,r2⟩:=pr;obtain⟨rfl,⟨k2,F⟩,G⟩:=c.good i;have N:Hid (Zcb rec g ts deep=bnd (Zbu rec r2 deep) fun a r=>.ok (.node 0 0 ⟨5,g,0,[],[],ns⟩ a .nil,r)):=hid (by rw[n.out,i];rfl);have I:Hid (RK z R k2 r2):=F;have J:Hid (Zbm z (.slice la ln lc) ns):=G;have O:Hid (r2.length<=m):=hid (by have:=Zyz i;have:=W.out;rw[Yb4]at *;omega);clear c i F G n
      go_wp2_with fail
      refine(U z R k2 r2 deep I.out V.out O.out).mono ?_;rintro e P ⟨pv,v,rfl,Q,c,s⟩;have S:Hid (w.grownBy P (some R.b)):=Zj o.out s;have T:Hid (Zbm P (.slice la ln lc) ns):=J.read I.out s;clear s o J;rcases Q with rfl|⟨ty,u,rfl⟩
      all_goals
        go_wp2;go_ret2;refine⟨_,_,rfl,Or.inr ⟨_,_,rfl⟩,?_,S.out⟩;rw[N.out];cases K:Zbu rec r2 deep with
        | error er=>exact c.err K
        | ok pr=>
          obtain⟨t,r3⟩:=pr;obtain⟨l,X,Y⟩:=c.good K;exact⟨l,X,Or.inr (Or.inr (Or.inr (Or.inr (Or.inl ⟨rfl,x,la,ln,lc,_,rfl,L.out,T.out,Y⟩))))⟩
  · have q:Hid (Zcb rec g ts deep=.error (2,(LS.hd ts).at_)):=hid (by rw[ZpI,f];rfl)
    have p:=hid (c.err f);obtain⟨fa,rfl⟩:=p.shape;clear c f l;go_wp2;go_ret2;exact⟨_,_,rfl,Or.inl rfl,by rw[q.out];exact p,j.out⟩
theorem ZlM{w:LB} : ∀ {l:List (LB)} {g:Nat},idx w l=some g->l.getD g []=w
 | [],_,h=>by cases h
 | x :: l, g, h => by
   unfold idx at h;by_cases a:x=w
   · rw[if_pos a]at h
     injection h with h;subst h;exact a
   · rw[if_neg a]at h
     cases c:idx w l with
     | none=>rw[c]at h;cases h
     | some j=>
       rw[c]at h;injection h with h;subst h;exact ZlM (l:=l) c
theorem Zt2{p:PTok}{t:Tok}(h:Zdf p t)(f:Zdt t)(d:t.jx<=5):ZhO p=ZdD t:=by
 have m1:=ZdP h f d (s:=⟨#[45]⟩) Dc Dc;have m2:=ZdP h f d (s:=⟨#[40]⟩) Dc Dc;have g:p.tx.toList=t.txt:=by rw[Zbt];exact h.2.2.1
 unfold ZhO ZdD;have a:=Ze0 d;have c:=h.1;by_cases k1:t.jx=1
 ·have e:((p.kd:Int) == 0)=true:=by rw[c,a.2.2.2.1.2 k1];rfl
  rw[e,k1];simp
 ·have e:((p.kd:Int) == 0)=false:=by
   rw[beq_eq_false_iff_ne];intro e;exact k1 (a.2.2.2.1.1 Om)
  rw[e,beq_eq_false_iff_ne.2 k1];by_cases k2:t.jx=2
  ·have e2:((p.kd:Int) == 1)=true:=by rw[c,a.2.1.2 k2];rfl
   have z1:isT [45] t=false:=by rw[<-show ZY p ⟨#[45]⟩=isT [45] t from m1];unfold ZY;rw[c,a.2.1.2 k2];rfl
   have z2:isT [40] t=false:=by rw[<-show ZY p ⟨#[40]⟩=isT [40] t from m2];unfold ZY;rw[c,a.2.1.2 k2];rfl
   rw[e2,z1,z2,k2,g];unfold isT;rw[k2];simp[wOr,wBy]
  ·have e2:((p.kd:Int) == 1)=false:=by
    rw[beq_eq_false_iff_ne];intro e;exact k2 (a.2.1.1 Om)
   rw[e2,beq_eq_false_iff_ne.2 k2,show ZY p ⟨#[45]⟩=isT [45] t from m1,show ZY p ⟨#[40]⟩=isT [40] t from m2];simp
theorem Zw6(h:(hd ts).jx=1):Zbw rec ts d=.ok (Zbg ⟨0,0,numV (hd ts).txt,[],[],[]⟩,ts.tail):=if_pos h
theorem Zw5 {rec : Nat -> List Tok -> Nat -> Out Tr}   (h : ¬ (hd ts).jx = 1) (c : isT [45] (hd ts) = true) : Zbw rec ts d = bnd (rec 3 ts.tail d) fun a r => .ok (.node 0 0 (nd0 3 0) a .nil, r) := by
  unfold Zbw;rw[if_neg h,if_pos c]
theorem Zxa(h:¬(hd ts).jx=1)(a:¬isT [45] (hd ts)=true)(c:isT [40] (hd ts)=true):Zbw rec ts d=Zbu rec ts d:=by
 unfold Zbw;rw[if_neg h,if_neg a,if_pos c]
theorem Zw3(h:¬(hd ts).jx=1)(a:¬isT [45] (hd ts)=true)(c:¬isT [40] (hd ts)=true)(e:idx (hd ts).txt ZW=some g):Zbw rec ts d=Zcb rec g ts.tail d:=by
 unfold Zbw;rw[if_neg h,if_neg a,if_neg c,e]
theorem Zw9(h:¬(hd ts).jx=1)(a:¬isT [45] (hd ts)=true)(c:¬isT [40] (hd ts)=true)(e:idx (hd ts).txt ZW=none)(f:idx (hd ts).txt Z0=some o):Zbw rec ts d=winP o ts.tail:=by
 unfold Zbw;rw[if_neg h,if_neg a,if_neg c,e];simp only;rw[f]
theorem Zw8 {rec : Nat -> List Tok -> Nat -> Out Tr}   (h : ¬ (hd ts).jx = 1) (a : ¬ isT [45] (hd ts) = true) (c : ¬ isT [40] (hd ts) = true) (e : idx (hd ts).txt ZW = none) (f : idx (hd ts).txt Z0 = none) : Zbw rec ts d = bnd (selP ts) fun p r => .ok (Zbg p, r) := by
  unfold Zbw;rw[if_neg h,if_neg a,if_neg c,e];simp only;rw[f]
theorem ZCJ{t:Tok}(h:ZdD t=true):¬(t.jx=0∨t.jx=5):=by
 rintro(a|a)
 all_goals
  unfold ZdD isT at h;rw[a]at h;simp at h
theorem Zv2
  (c4:ZeO 65 (fun d=>[Vi (d+1:Nat)]) (rec 3) (fun ts=>ts.length<m))
  (b6:ZeO 111 (fun d=>[Vi (d+1:Nat)]) (Zbu rec) (fun ts=>ts.length<=m)) :
  ZeO 65 (fun d=>[Vi (d+1:Nat)]) (Zb9 rec) (fun ts=>ts.length<=m):=by
 intro w R k ts deep h c5 b7;have H:Hid (RK w R k ts):=h;have HD:Hid (deep<=20):=c5;have HM:Hid (ts.length<=m):=b7;have c8:R.b<w.heap.size:=(Yae.1 h.rd.cells).1;clear h b7;go_enter func65,ntmps65
 go_wp2_with fail
 refine(Zee H.out).mono ?_;rintro e y ⟨⟨kd,at_,tx,tv⟩,rfl,P,a6⟩;have a7:Hid (w.grownBy y (some R.b)):=Zw a6;have b8:Hid (RK y R k ts):=H.below a6;clear a6
 go_upto_region 2 with fail
 refine ZP fun W2 a8=>?_;have a9:BW y W2:=by rw[a8];exact Zbal
 have I:Hid (BAt W2 y.heap.size [Vi kd,Vi at_,.string tx,Vi tv] 87):=hid (by rw[a8];exact Go.Deep.blk_alloc_new _ _);have b9:Hid (w.grownBy W2 (some R.b)):=Zj a7.out (Zw a9);have b0:Hid (RK W2 R k ts):=b8.below a9;have c9:R.b<y.heap.size:=by have:=a7.size;omega
 have z:=hid b0.wf.head;clear a8 a9 a7 b8;have t0:=I.cell 0;have t1:=I.cell 1;have t2:=I.cell 2;have t3:=I.cell 3;simp only[Zget]at t0 t1 t2 t3
 go_wp2_with fail
 refine(Zt1 ⟨kd,at_,tx,tv⟩ W2).mono ?_;rintro e w3 ⟨rfl,Z⟩;rw[Zt2 P.out z.1 z.2.2];have s:=hid (I.below Z);have Q:Hid (w.grownBy w3 (some R.b)):=Zj b9.out (Zw Z);have x:Hid (RK w3 R k ts):=b0.below Z;clear Z I b9 b0 t0 t1 t2 t3;cases A:ZdD (LS.hd ts)
 ·have b1:Hid (Zb9 rec ts deep=.error (2,(LS.hd ts).at_)):=hid (by unfold Zb9;rw[if_neg (by rw[A];decide)]);clear A
  go_wp2_with fail
  refine(Zfi x.out).mono ?_;rintro e wE ⟨v,rfl,HE,c0⟩;obtain⟨fa,rfl⟩:=HE.shape;have b2:Hid (w.grownBy wE (some R.b)):=Zj Q.out (Zw c0);clear c0;go_wp2;go_ret2;exact⟨_,_,rfl,Or.inl rfl,by rw[b1.out];exact HE,b2.out⟩
 ·have a0:Hid (¬((LS.hd ts).jx=0∨(LS.hd ts).jx=5)):=ZCJ A;by_cases N:deep=20
  ·have b1:Hid (Zb9 rec ts deep=.error (3,(LS.hd ts).at_)):=hid (by unfold Zb9;rw[if_pos A,if_pos N]);subst N;have t1:=s.cell 1;simp only[Zget]at t1;have d0:=x.dp;clear A
   go_wp2_with fail
   refine(ZkT).mono ?_;rintro e wE ⟨rfl,b3⟩;have HE:Hid (Z9 wE R (3,(LS.hd ts).at_) (.iface 94 (Vp w3.heap.size))):=hid (Or.inr ⟨rfl,w3.heap.size,rfl,by rw[b3];refine(Go.Deep.blk_alloc_new _ _).trans ?_;rw[show(at_:Int)=((LS.hd ts).at_:Int) from congrArg _ P.2.1]⟩);have b2:Hid (w.grownBy wE (some R.b)):=hid (by rw[b3];exact ZbR Q.out);clear b3;go_wp2;go_ret2;exact⟨_,_,rfl,Or.inl rfl,by rw[b1.out];exact HE,b2.out⟩
  ·have c7:deep<=19:=by omega
   have J:Hid (Zb9 rec ts deep=Zbw rec ts (deep+1)):=hid (by unfold Zb9;rw[if_pos A,if_neg N]);obtain⟨rc0,rc1,rfz,rcx⟩:=x.rd.all;have d1:=x.lt;have d2:=x.len;clear rcx A N;have t0:=s.cell 0;have t1:=s.cell 1;have t2:=s.cell 2;have t3:=s.cell 3;simp only[Zget]at t0 t1 t2 t3;by_cases B:(LS.hd ts).jx=1
   ·have c1:kd=0:=by have:=P.1;rw[B]at this;exact this
    subst c1;have c6:Hid ((tv:Int)=numV (LS.hd ts).txt):=P.2.2.2 B;have j:Hid (Zb9 rec ts deep=.ok (Zbg ⟨0,0,numV (LS.hd ts).txt,[],[],[]⟩,ts.tail)):=hid (by rw[J.out,Zw6 B]);clear B
    go_upto_region 8 with fail
    refine ZP fun l c=>?_;have C:Hid (RK l R (k+1) ts.tail):=hid (by rw[c];exact x.step a0.out);have D:Hid (w.grownBy l (some R.b)):=hid (by rw[c];exact ZA Q.out (Or.inl rfl));have S:Hid (BAt l y.heap.size [Vi (0:Nat),Vi at_,.string tx,Vi tv] 87):=hid (by rw[c];exact s.other (by show y.heap.size≠R.b;omega) _);clear c rc0 rc1 rfz t0 t1 t2 t3;have t3:=S.cell 3;simp only[Zget]at t3;go_wp2;go_ret2;exact⟨_,_,rfl,Or.inr ⟨_,_,rfl⟩,by rw[j.out];exact⟨rfl,⟨_,C.out⟩,Or.inl ⟨rfl,by rw[<-c6.out];rfl⟩⟩,D.out⟩
   ·have c1:((kd:Int) == 0)=false:=by
     rw[beq_eq_false_iff_ne];intro e;exact B ((Ze0 z.2.2).2.2.2.1.1 (by have:=P.1;simp only at this;omega))
    have E:Hid (¬(LS.hd ts).jx=1):=B;clear B
    go_wp2_with fail
    refine(Zf6 P.out z.1 z.2.2 ⟨#[45]⟩ Dc Dc w3).mono ?_;rintro e w4 ⟨rfl,a1⟩;have F:=hid (s.below a1);have a2:Hid (w.grownBy w4 (some R.b)):=Zj Q.out (Zw a1);have T:Hid (RK w4 R k ts):=x.below a1;clear a1 s Q x t0 t1 t2 t3 rc0 rc1 rfz;obtain⟨rc0,rc1,rfz,rcx⟩:=T.rd.all;have t0:=F.cell 0;have t1:=F.cell 1;have t2:=F.cell 2;have t3:=F.cell 3;simp only[Zget]at t0 t1 t2 t3;clear rcx;by_cases K:isT [45] (LS.hd ts)=true
    ·rw[show isT (bl ⟨#[45]⟩) (LS.hd ts)=true from K];have j:Hid (Zb9 rec ts deep=bnd (rec 3 ts.tail (deep+1)) fun a r=>.ok (.node 0 0 (nd0 3 0) a .nil,r)):=hid (by rw[J.out,Zw5 E.out K]);clear K
     go_upto_region 11 with fail
     refine ZP fun l c=>?_;have C:Hid (RK l R (k+1) ts.tail):=hid (by rw[c];exact T.step a0.out);have D:Hid (w.grownBy l (some R.b)):=hid (by rw[c];exact ZA a2.out (Or.inl rfl));clear c rc0 rc1 rfz t0 t1 t2 t3 T a2 F
     go_wp2_with fail
     refine(c4 l R (k+1) ts.tail (deep+1) C.out Om (by show ts.tail.length<m;have:=H.pos;have:=HM.out;rw[Yb4];omega)).mono ?_;rintro e O ⟨pv,v,rfl,n,f,i⟩;have q:Hid (w.grownBy O (some R.b)):=Zj D.out i;clear i;rcases n with rfl|⟨ty,u,rfl⟩
     all_goals
      go_wp2;go_ret2;refine⟨_,_,rfl,Or.inr ⟨_,_,rfl⟩,?_,q.out⟩;rw[j.out];cases c2:rec 3 ts.tail (deep+1)with
      | error er=>exact f.err c2
      | ok pr=>
       obtain⟨t,r3⟩:=pr;obtain⟨h1,h2,h3⟩:=f.good c2;exact⟨h1,h2,Or.inr (Or.inr (Or.inr (Or.inl ⟨rfl,_,rfl,h3⟩)))⟩
    ·rw[show isT (bl ⟨#[45]⟩) (LS.hd ts)=false from Yce.2 K];have a3:Hid (¬isT [45] (LS.hd ts)=true):=K;clear K
     go_wp2_with fail
     refine(Zf6 P.out z.1 z.2.2 ⟨#[40]⟩ Dc Dc w4).mono ?_;rintro e w5 ⟨rfl,a4⟩;have U:=hid (F.below a4);have L:Hid (w.grownBy w5 (some R.b)):=Zj a2.out (Zw a4);have G:Hid (RK w5 R k ts):=T.below a4;clear a4 F a2 T t0 t1 t2 t3 rc0 rc1 rfz;obtain⟨rc0,rc1,rfz,rcx⟩:=G.rd.all;have t2:=U.cell 2;simp only[Zget]at t2;clear rcx;by_cases M:isT [40] (LS.hd ts)=true
     ·rw[show isT (bl ⟨#[40]⟩) (LS.hd ts)=true from M];have j:Hid (Zb9 rec ts deep=Zbu rec ts (deep+1)):=hid (by rw[J.out,Zxa E.out a3.out M]);clear M
      go_wp2_with fail
      refine(b6 w5 R k ts (deep+1) G.out Om HM.out).mono ?_;rintro e O ⟨pv,v,rfl,n,f,i⟩;have q:Hid (w.grownBy O (some R.b)):=Zj L.out i;have V:Hid (Zhp pv):=n;clear i n;go_wp2;go_ret2;exact⟨_,_,rfl,V.out,by rw[j.out];exact f,q.out⟩
     ·rw[show isT (bl ⟨#[40]⟩) (LS.hd ts)=false from Yce.2 M];have Y:Hid (¬isT [40] (LS.hd ts)=true):=M;have a5:Hid (bl tx=(LS.hd ts).txt):=P.2.2.1;clear M
      go_wp2_with fail
      refine(ZpX tx _).mono ?_;rintro e wq ⟨rfl,rfl⟩;rw[a5.out];cases W:idx (LS.hd ts).txt ZW with
      | some g=>
       have j:Hid (Zb9 rec ts deep=Zcb rec g ts.tail (deep+1)):=hid (by rw[J.out,Zw3 E.out a3.out Y.out W]);have b4:Hid (bl tx=ZW.getD g []):=hid (by rw[ZlM W,a5.out]);rw[show(some g).isSome=true from rfl];clear W
       go_upto_region 17 with fail
       refine ZP fun l c=>?_;have C:Hid (RK l R (k+1) ts.tail):=hid (by rw[c];exact G.step a0.out);have D:Hid (w.grownBy l (some R.b)):=hid (by rw[c];exact ZA L.out (Or.inl rfl));have S:Hid (BAt l y.heap.size [Vi kd,Vi at_,.string tx,Vi tv] 87):=hid (by rw[c];exact U.other (by show y.heap.size≠R.b;omega) _);clear c rc0 rc1 rfz t2 G L U;have t2:=S.cell 2;simp only[Zget]at t2
       go_wp2_with fail
       refine(ZwJ b6 tx g b4.out l R (k+1) ts.tail (deep+1) C.out Om (by show ts.tail.length<=m;have:=HM.out;rw[Yb4];omega)).mono ?_;rintro e O ⟨pv,v,rfl,n,f,i⟩;have q:Hid (w.grownBy O (some R.b)):=Zj D.out i;have V:Hid (Zhp pv):=n;clear i n;go_wp2;go_ret2;exact⟨_,_,rfl,V.out,by rw[j.out];exact f,q.out⟩
      | none=>
       rw[show(none:Option Nat).isSome=false from rfl];have c3:Hid (idx (LS.hd ts).txt ZW=none):=W;clear W
       go_wp2_with fail
       refine(ZpZ tx _).mono ?_;rintro e wq ⟨rfl,rfl⟩;rw[a5.out];cases X:idx (LS.hd ts).txt Z0 with
       | some o=>
        have j:Hid (Zb9 rec ts deep=winP o ts.tail):=hid (by rw[J.out,Zw9 E.out a3.out Y.out c3.out X]);have b4:Hid (bl tx=Z0.getD o []):=hid (by rw[ZlM X,a5.out]);rw[show(some o).isSome=true from rfl];clear X
        go_upto_region 20 with fail
        refine ZP fun l c=>?_;have C:Hid (RK l R (k+1) ts.tail):=hid (by rw[c];exact G.step a0.out);have D:Hid (w.grownBy l (some R.b)):=hid (by rw[c];exact ZA L.out (Or.inl rfl));have S:Hid (BAt l y.heap.size [Vi kd,Vi at_,.string tx,Vi tv] 87):=hid (by rw[c];exact U.other (by show y.heap.size≠R.b;omega) _);clear c rc0 rc1 rfz t2 G L U;have t2:=S.cell 2;simp only[Zget]at t2
        go_wp2_with fail
        refine(ZEK C.out tx o b4.out).mono ?_;rintro e O ⟨pv,v,rfl,n,f,i⟩;have q:Hid (w.grownBy O (some R.b)):=Zj D.out i;have V:Hid (Zhp pv):=n;clear i n;go_wp2;go_ret2;exact⟨_,_,rfl,V.out,by rw[j.out];exact f,q.out⟩
       | none=>
        rw[show(none:Option Nat).isSome=false from rfl];have j:Hid (Zb9 rec ts deep=bnd (selP ts) fun p r=>.ok (Zbg p,r)):=hid (by rw[J.out,Zw8 E.out a3.out Y.out c3.out X]);clear X
        go_wp2_with fail
        refine(Zsd G.out).mono ?_;rintro e O ⟨nm,la,ln,lc,v,rfl,f,i⟩;have q:Hid (w.grownBy O (some R.b)):=Zj L.out i;clear i;go_wp2;go_ret2;refine⟨_,_,rfl,Or.inr ⟨_,_,rfl⟩,?_,q.out⟩;rw[j.out];cases b5:selP ts with
        | error er=>exact f.err b5
        | ok pr=>
         obtain⟨nd,r3⟩:=pr;obtain⟨h1,h2,h3,h4⟩:=f.good b5;exact⟨h1,h2,Or.inr (Or.inl ⟨(Zkq b5).2.1,nm,la,ln,lc,rfl,h3,h4⟩)⟩

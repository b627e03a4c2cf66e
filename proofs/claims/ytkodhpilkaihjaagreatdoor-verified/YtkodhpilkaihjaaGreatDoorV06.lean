/- Parts. -/
import Derived.Test.YtkodhpilkaihjaaGreatDoorV05
import Derived.Deep.RegionHeld3
import Derived.Deep.DrawnRows
set_option linter.all false
set_option maxRecDepth 100000
set_option maxHeartbeats 16000000
namespace Go.Proofs.YtkodhpilkaihjaaGreatDoor
open Go.RowKit LS Go.Proofs.Tryz
variable {ca:Addr}{l ns:List (LB)}{r ts:List Tok}{c xs1 xs2:List Value}{b b1 b2 deep k m n1 n2 s1 s2:Nat}{rec:Nat->List Tok->Nat->Out Tr}{e fr x:Nat×Nat}{R:RS}{t:Tr}{z:Tr×List Tok}{v v1 v2:Value}{w w':World}
section
def Zdb(o:Nat):Nat:=if o=0 then 0 else if o<=2 then 1 else 2
def Ze5(o:Nat):LB:=if o=0 then [111,114] else if o=1 then [43] else if o=2 then [45] else if o=3 then [42] else [47]
theorem Zm0 (o : Nat) (a : o <= 4)  : CP 125 #[Vi o] w fun e u => e = .returned (Vi (Zdb o)) /\ u = w := by
  have h:o=0∨o=1∨o=2∨o=3∨o=4:=by omega
  rcases h with rfl|rfl|rfl|rfl|rfl
  all_goals
    go_enter func125,ntmps125;go_wp2;go_ret;exact⟨rfl,rfl⟩
theorem ZCd (o : Nat) (a : o <= 4)  : CP 133 #[Vi o] w fun e u => e = .returned (.string ⟨(Ze5 o).toArray⟩) /\ u = w := by
  have h:o=0∨o=1∨o=2∨o=3∨o=4:=by omega
  rcases h with rfl|rfl|rfl|rfl|rfl
  all_goals
    go_enter func133,ntmps133;go_wp2;go_ret;exact⟨rfl,rfl⟩
def ZhO(t:PTok):Bool:=if ((t.kd:Int) == 0)then true else if ((t.kd:Int) == 1)then !(t.tx.toList == [111,114]) && !(t.tx.toList == [98,121])else ZY t ⟨#[45]⟩ || ZY t ⟨#[40]⟩
theorem Zt1(t:PTok)(w:World) :
  CP 184 #[.agg #[Vi t.kd,Vi t.at_,.string t.tx,Vi t.v]] w fun e u=>e=.returned (.bool (ZhO t))/\BW w u:=by
 have b:Hid (TAt (w.alloc (.cells #[Vi t.kd,Vi t.at_,.string t.tx,Vi t.v] 167)) w.heap.size t):=Go.Deep.blk_alloc_new _ _;have a:Hid (BW w (w.alloc (.cells #[Vi t.kd,Vi t.at_,.string t.tx,Vi t.v] 167))):=Zbal;obtain⟨x0,i⟩:∃x,((t.kd:Int) == 0)=x:=⟨_,rfl⟩
 obtain⟨x1,j⟩:∃x,((t.kd:Int) == 1)=x:=⟨_,rfl⟩
 obtain⟨y1,g1⟩:∃x,(t.tx.toList == [111,114])=x:=⟨_,rfl⟩
 obtain⟨y2,g2⟩:∃x,(t.tx.toList == [98,121])=x:=⟨_,rfl⟩
 obtain⟨z1,f1⟩:∃x,ZY t ⟨#[45]⟩=x:=⟨_,rfl⟩
 obtain⟨z2,f2⟩:∃x,ZY t ⟨#[40]⟩=x:=⟨_,rfl⟩
 have g:Hid (ZhO t=if x0 then true else if x1 then !y1 && !y2 else z1 || z2):=hid (by unfold ZhO;rw[i,j,g1,g2,f1,f2]);have h:Hid (ZY t ⟨#[45]⟩=z1/\ZY t ⟨#[40]⟩=z2):=⟨f1,f2⟩
 rw[g.out];clear g f1 f2;cases x0
 ·cases x1
  ·go_enter func184,ntmps184
   go_wp2_with fail
   refine(ZgT t h.1 w _ w.heap.size b.out a.out).mono ?_;rintro e y ⟨rfl,c,d⟩;clear b a;cases z1
   ·obtain⟨k0,k1,k2,k3⟩:=TAt.all c.out
    go_wp2_with fail
    clear k0 k1 k2 k3;refine(ZgT t h.2 w y w.heap.size c.out d.out).mono ?_;rintro e z ⟨rfl,k,f⟩;cases z2
    ·go_wp2;go_ret;exact⟨rfl,f.out⟩
    ·go_wp2;go_ret;exact⟨rfl,f.out⟩
   ·go_wp2;go_ret;exact⟨rfl,d.out⟩
  ·cases y1 <;> cases y2
   all_goals
    go_enter func184,ntmps184;go_wp2;go_ret;exact⟨rfl,a.out⟩
 ·go_enter func184,ntmps184;go_wp2;go_ret;exact⟨rfl,a.out⟩
def tw:List Tok->Nat
 | []=>0
 | t::r=>t.txt.length+30+tw r
def cw:List (LB×LB×Bool)->Nat
 | []=>0
 | c::r=>c.1.length+c.2.1.length+6+cw r
def nw:List (LB)->Nat
 | []=>0
 | c::r=>c.length+1+nw r
def ownW(a:Nd):Nat:=24+a.name.length+cw a.jn+nw a.by_
def wT:Tr->Nat
 | .nil=>0
 | .node _ _ a l r=>ownW a+wT l+wT r
def isNil:Tr->Bool
 | .nil=>true
 | .node _ _ _ _ _=>false
def wfT:Tr->Prop
 | .nil=>True
 | .node _ _ a l r=>a.jj<=6/\a.op<=4/\(a.jj=4->a.op<=3)/\(a.jj=5->a.op<=3)/\0<=a.n/\a.n<=1000000000/\(3<=a.jj->isNil l=false)/\(a.jj=4∨a.jj=6->isNil r=false)/\(a.jj<=2->isNil l=true/\isNil r=true)/\(a.jj=3∨a.jj=5->isNil r=true)/\wfT l/\wfT r
theorem ZiI(ts:List Tok):tw ts.tail<=tw ts:=by
 cases ts with
 | nil=>exact Yac _
 | cons t r=>show tw r<=t.txt.length+30+tw r;omega
theorem ZiH(h:¬((hd ts).jj=0)):(hd ts).txt.length+30+tw ts.tail=tw ts:=by
 cases ts with
 | nil=>exact absurd rfl h
 | cons t r=>rfl
theorem ZeF{c:LB}{z:Unit×List Tok}(h:Zq c ts=.ok z):tw z.2+30<=tw ts:=by
 unfold Zq at h;split at h
 ·rename_i e;injection h with h;subst h;have:=ZiH (fun h=>Zib e (Or.inl h));show tw ts.tail+30<=tw ts;omega
 ·cases h
theorem Zkp{z:LB×List Tok}(a:k≠0)(h:ZH k ts=.ok z):tw z.2+z.1.length+30=tw ts:=by
 unfold ZH at h;split at h
 ·rename_i e;injection h with h;subst h;have:=ZiH (ts:=ts) (by rw[e];exact a);show tw ts.tail+(hd ts).txt.length+30=tw ts;omega
 ·cases h
theorem ZoG(l m:List (LB×LB×Bool)):cw (l++m)=cw l+cw m:=by
 induction l with
 | nil=>simp[cw]
 | cons a l ih=>simp[cw,ih];omega
theorem ZzD(l m:List (LB)):nw (l++m)=nw l+nw m:=by
 induction l with
 | nil=>simp[nw]
 | cons a l ih=>simp[nw,ih];omega
theorem Zns{α:Type}{item:List Tok->Out α}{close:LB}(f:List α->Nat)(d:∀t z l,item t=.ok z->f (l++[z.1])+tw z.2<=f l+tw t):∀(n:Nat) (acc:List α) (ts:List Tok) (z:List α×List Tok),ZS item close n acc ts=.ok z->f z.1+tw z.2<=f acc+tw ts
 | 0,_,_,_,h=>by cases h
 | n + 1, acc, ts, z, h => by
   have c:(if isT close (hd ts)then .ok (acc,ts.tail)else bnd (if acc.isEmpty then .ok ((),ts)else Zq [44] ts) fun _ r=>bnd (item r) fun a r=>ZS item close n (acc++[a]) r)=.ok z:=h;cases e:isT close (hd ts)
   · rw[e]at c
     obtain⟨_,t1,b,g⟩:=Ze (x:=if acc.isEmpty then .ok ((),ts)else Zq [44] ts) c;obtain⟨a,t2,i,j⟩:=Ze g
     have l1:tw t1<=tw ts:=by
       split at b
       · injection b with b;injection b with _ b;subst b;exact Yac _
       · have:=ZeF b;simp at this;omega
     have l2:=d t1 _ acc i;have l3:=Zns f d n _ _ _ j;simp at l2;omega
   · rw[e]at c
     injection c with c;subst c;have:=ZiI ts;show f acc+tw ts.tail<=f acc+tw ts;omega
theorem ZDm(t:List Tok)(z:(LB×LB×Bool)×List Tok)(l:List (LB×LB×Bool))(h:ZV t=.ok z):cw (l++[z.1])+tw z.2<=cw l+tw t:=by
 unfold ZV at h;obtain⟨a,t1,e,h⟩:=Ze h;obtain⟨v,t2,c,h⟩:=Ze h;obtain⟨b,t3,f,h⟩:=Ze h;injection h with h;subst h;have l1:=Zkp Dc e;have l3:=Zkp Dc f
 have l2:tw t2<=tw t1:=by
  unfold Zdc at c;split at c
  ·injection c with c;injection c with _ c;subst c;exact ZiI _
  ·obtain⟨_,t4,g,d⟩:=Ze c;injection d with d;injection d with _ d;subst d;have:=ZeF g;simp at this;omega
 rw[ZoG];simp[cw]at *
 omega
theorem Zkq{z:Nd×List Tok}(h:selP ts=.ok z):ownW z.1+6+tw z.2<=tw ts/\z.1.jj=1/\z.1.op=0/\z.1.n=0/\z.1.by_=[]:=by
 unfold selP at h;obtain⟨a,t,c,b⟩:=Ze h
 have l1:tw t+a.length+30=tw ts:=by
  unfold ZdQ at c;split at c
  ·cases c
  ·exact Zkp Dc c
 split at b
 ·obtain⟨cs,t2,e,d⟩:=Ze b;injection d with d;subst d;have l2:=Zns cw ZDm _ _ _ _ e;have l3:=ZiI t;refine⟨?_,rfl,rfl,rfl,rfl⟩;simp[ownW,cw,nw]at *
  omega
 ·injection b with b;subst b;refine⟨?_,rfl,rfl,rfl,rfl⟩;simp[ownW,cw,nw]at *
  omega
theorem Zzr{l:LB}:0<=numV l/\numV l<=1000000000:=by
 unfold numV;cases h:ZQ 1000000000 l with
 | none=>simp
 | some v=>have:=Zgh h;simp;omega
theorem Zl6{a:Nd}(d:a.jj<=2)(c:a.op<=4)(b:0<=a.n/\a.n<=1000000000):wfT (Zbg a):=
 ⟨by omega,c,by omega,by omega,b.1,b.2,by omega,by omega,fun _=>⟨rfl,rfl⟩,by omega,trivial,trivial⟩
theorem ZDp{o:Nat}(b:o<=4)(h:winP o ts=.ok z):wfT z.1/\isNil z.1=false/\wT z.1+tw z.2<=tw ts:=by
 unfold winP at h;obtain⟨_,t1,c,h⟩:=Ze h;obtain⟨p,t2,d,h⟩:=Ze h;obtain⟨_,t3,e,h⟩:=Ze h;obtain⟨m,t4,a,h⟩:=Ze h;obtain⟨_,t5,f,h⟩:=Ze h;obtain⟨_,t6,g,h⟩:=Ze h;injection h with h;subst h;have a1:=ZeF c;have a2:=Zkq d;have a3:=ZeF e
 have a4:tw t4<=tw t3/\1<=m/\m<=1000:=by
  unfold Zc2 at a;split at a
  ·rename_i i;injection a with a;injection a with a h4';subst a;subst h4';exact⟨ZiI _,i.2,(Zmr 1000 _).2⟩
  ·cases a
 have a5:=ZeF f;have a6:=ZeF g;refine⟨Zl6 (Yac 2) b ⟨by show 0<=m;omega,by show m<=_;omega⟩,rfl,?_⟩;simp[Zbg,wT,ownW,nw]at *
 omega
def InvP(rec:Nat->List Tok->Nat->Out Tr):Prop:=∀lv t d z,rec lv t d=.ok z->wfT z.1/\isNil z.1=false/\wT z.1+tw z.2<=tw t
theorem ZsS(b:InvP rec)(h:Zbu rec ts deep=.ok z):wfT z.1/\isNil z.1=false/\wT z.1+tw z.2<=tw ts:=by
 unfold Zbu at h;obtain⟨_,t1,c,h⟩:=Ze h;obtain⟨a,t2,d,h⟩:=Ze h;obtain⟨_,t3,e,h⟩:=Ze h;injection h with h;subst h;have a1:=ZeF c;obtain⟨b1,b2,b3⟩:=b _ _ _ _ d;have a3:=ZeF e;refine⟨b1,b2,?_⟩;simp at *
 omega
theorem ZDn(c:InvP rec){g:Nat}(b:g<=3)(h:Zcb rec g ts deep=.ok z):wfT z.1/\isNil z.1=false/\wT z.1+tw z.2<=tw ts:=by
 unfold Zcb at h;obtain⟨_,t1,d,h⟩:=Ze h;obtain⟨_,t2,e,h⟩:=Ze h;obtain⟨ns,t3,f,h⟩:=Ze h;obtain⟨a,t4,i,h⟩:=Ze h;injection h with h;subst h;have a1:=ZeF d;have a2:=ZeF e;have a3:=Zns nw (fun t z l j=>by have:=Zkp Dc j;rw[ZzD];simp[nw];omega) _ _ _ _ f;obtain⟨b1,b2,b3⟩:=ZsS c i;refine⟨⟨by show(5:Nat)<=6;omega,by show g<=4;omega,fun _=>b,fun _=>b,Yd0 _,by show(0:Int)<=_;omega,fun _=>b2,fun h=>by simp at h,fun h=>absurd (show(5:Nat)<=2 from h) Om,fun _=>rfl,b1,trivial⟩,rfl,?_⟩;simp[wT,ownW,cw,nw]at *
 omega
theorem Zji{w:LB}{i:Nat}(h:idx w l=some i):i<l.length:=by
 induction l generalizing i with
 | nil=>cases h
 | cons x l ih=>
  unfold idx at h;split at h
  ·injection h with h;subst h;simp
  ·cases a:idx w l with
   | none=>rw[a]at h;cases h
   | some j=>rw[a]at h;injection h with h;subst h;have:=ih a;simp;omega
theorem ZDo(b:InvP rec)(h:Zbw rec ts deep=.ok z):wfT z.1/\isNil z.1=false/\wT z.1+tw z.2<=tw ts:=by
 unfold Zbw at h;have i:=ZiI ts;split at h
 ·rename_i j;injection h with h;subst h;have:=ZiH (ts:=ts) Om;refine⟨Zl6 (Yag _) (Yag _) (Zzr),rfl,?_⟩;simp[Zbg,wT,ownW,cw,nw]at *
  omega
 ·split at h
  ·rename_i d;obtain⟨a,t1,c,h⟩:=Ze h;injection h with h;subst h;obtain⟨b1,b2,b3⟩:=b _ _ _ _ c;have:=ZiH (ts:=ts) (fun h=>Zib d (Or.inl h));refine⟨⟨by show(3:Nat)<=6;omega,Yag _,fun _=>Yag _,fun _=>Yag _,Yd0 _,by show(0:Int)<=_;omega,fun _=>b2,fun h=>by simp[nd0]at h,fun h=>absurd (show(3:Nat)<=2 from h) Om,fun _=>rfl,b1,trivial⟩,rfl,?_⟩;simp[wT,ownW,cw,nw,nd0]at *
   omega
  ·split at h
   ·exact ZsS b h
   ·split at h
    ·rename_i g e;have:=Zji e;obtain⟨b1,b2,b3⟩:=ZDn b (show g<=3 by simp[ZW]at this;omega) h;exact⟨b1,b2,by omega⟩
    ·split at h
     ·rename_i o f;have:=Zji f;obtain⟨b1,b2,b3⟩:=ZDp (show o<=4 by simp[Z0]at this;omega) h;exact⟨b1,b2,by omega⟩
     ·obtain⟨p,t1,c,h⟩:=Ze h;injection h with h;subst h;obtain⟨a1,a2,a3,a4,a5⟩:=Zkq c;simp only at a1 a2 a3 a4;refine⟨Zl6 Om Om ⟨by omega,by omega⟩,rfl,?_⟩;simp[Zbg,wT]at *
      omega
theorem Zfv:∀(n:Nat) (m:Bool) (lv:Nat) (a:Tr) (ts:List Tok) (deep:Nat) (z:Tr×List Tok),(m=true->wfT a/\isNil a=false)->Zs n m lv a ts deep=.ok z->wfT z.1/\isNil z.1=false/\wT z.1+tw z.2<=tw ts+(if m then wT a else 0)
 | 0,_,_,_,_,_,_,_,h=>by cases h
 | n + 1, false, lv, a, ts, deep, z, _, h => by
   have q : InvP (fun lv t d => Zs n false lv .nil t d) := fun lv t d z h => by
     obtain⟨g,i,o⟩:=Zfv n false lv .nil t d z (fun h=>(by cases h)) h;exact⟨g,i,by simpa using o⟩
   unfold Zs at h;split at h
   · unfold Zb9 at h
     split at h
     · split at h
       · cases h
       · obtain⟨g,i,o⟩:=ZDo q h
         exact⟨g,i,by simpa using o⟩
     · cases h
   · obtain⟨b,t1,g,i⟩:=Ze h
     obtain⟨l1,l2,l3⟩:=q _ _ _ _ g;obtain⟨m1,m2,m3⟩:=Zfv n true lv b t1 deep z (fun _=>⟨l1,l2⟩) i;refine⟨m1,m2,?_⟩;simp at l3 m3 ⊢;omega
 | n + 1, true, lv, a, ts, deep, z, s, h => by
   obtain⟨k,l⟩:=s rfl;unfold Zs at h;split at h
   · injection h with h;subst h;exact⟨k,l,by simp;omega⟩
   · rename_i p e
     obtain⟨b,t1,g,i⟩:=Ze h;obtain⟨l1,l2,l3⟩:=Zfv n false _ _ _ _ _ (fun h=>(by cases h)) g
     have r:((p.1=4/\p.2<=3)∨(p.1=6/\p.2=0))/\tw ts.tail+30<=tw ts:=by
       have j:∀c,isT c (hd ts)=true->tw ts.tail+30<=tw ts:=fun c f=>by have:=ZiH (ts:=ts) (fun h=>Zib f (Or.inl h));omega
       unfold LS.opAt at e;split at e
       · split at e
         · rename_i f;injection e with e;subst e;exact⟨Or.inr ⟨rfl,rfl⟩,j _ f⟩
         · cases e
       · split at e
         · split at e
           · rename_i f;injection e with e;subst e;exact⟨Or.inl ⟨rfl,by decide⟩,j _ f⟩
           · split at e
             · rename_i f;injection e with e;subst e;exact⟨Or.inl ⟨rfl,by decide⟩,j _ f⟩
             · cases e
         · split at e
           · rename_i f;injection e with e;subst e;exact⟨Or.inl ⟨rfl,by decide⟩,j _ f⟩
           · split at e
             · rename_i f;injection e with e;subst e;exact⟨Or.inl ⟨rfl,by decide⟩,j _ f⟩
             · cases e
     obtain⟨w,v⟩:=r
     have u:wfT (.node 0 0 (nd0 p.1 p.2) a b):=by
       refine⟨?_,?_,?_,?_,Yd0 _,by show(0:Int)<=_;omega,fun _=>l,fun _=>l2,?_,?_,k,l1⟩
       · show p.1<=6;omega
       · show p.2<=4;omega
       · intro h;show p.2<=3;omega
       · intro h;exact absurd (show p.1=5 from h) Om
       · intro h;exact absurd (show p.1<=2 from h) Om
       · intro h;exact absurd (show p.1=3∨p.1=5 from h) Om
     obtain⟨m1,m2,m3⟩:=Zfv n true lv _ t1 deep z (fun _=>⟨u,rfl⟩) i;refine⟨m1,m2,?_⟩;simp[wT,ownW,cw,nw,nd0]at l3 m3 ⊢;omega
def opNo(a:Nd):Nat:=if a.jj=6 then 0 else a.op+1
def Zh(w:World):Tr->Value->Prop
 | .nil,_=>False
 | .node _ _ a l r,v=>
  (a.jj=0/\v=.iface 270 (.agg #[Vi a.n]))∨
  (a.jj=1/\∃(nm:BA) (la:Option Addr) (ln lc:Nat),v=.iface 281 (.agg #[.string nm,.slice la ln lc])/\bl nm=a.name/\ZX w (.slice la ln lc) a.jn)∨
  (a.jj=2/\∃(wd nm:BA) (la:Option Addr) (ln lc:Nat),v=.iface 283 (.agg #[.string wd,.string nm,.slice la ln lc,Vi a.n])/\bl wd=Z0.getD a.op []/\bl nm=a.name/\ZX w (.slice la ln lc) a.jn)∨
  (a.jj=3/\∃x,v=.iface 272 (.agg #[x])/\Zh w l x)∨
  (a.jj=5/\∃(wd:BA) (la:Option Addr) (ln lc:Nat) (x:Value),v=.iface 274 (.agg #[.string wd,.slice la ln lc,x])/\bl wd=ZW.getD a.op []/\Zbm w (.slice la ln lc) a.by_/\Zh w l x)∨
  ((a.jj=4∨a.jj=6)/\∃x y,v=.iface 268 (.agg #[Vi (opNo a),x,y])/\Zh w l x/\Zh w r y)
def Zhp(v:Value):Prop:=v=.nilIface∨∃(ty:TypeId) (u:Value),v=.iface ty u
theorem Zh.shape : ∀ {t:Tr} {v:Value},Zh w t v->∃(ty:TypeId) (u:Value),v=.iface ty u
 | .nil,_,h=>h.elim
 | .node _ _ a l r, v, h => by
   rcases h with ⟨_,h⟩|⟨_,_,_,_,_,h,_⟩|⟨_,_,_,_,_,_,h,_⟩|⟨_,_,h,_⟩|⟨_,_,_,_,_,_,h,_⟩|⟨_,_,_,h,_⟩
   all_goals exact⟨_,_,h⟩
theorem ZX.below{ns:List (LB×LB×Bool)}(h:ZX w v ns)(a:BW w w'):ZX w' v ns:=by
 obtain⟨bs,b,c⟩:=h;exact⟨bs,Zn b a,c⟩
theorem Zbm.below(h:Zbm w v ns)(a:BW w w'):Zbm w' v ns:=by
 obtain⟨bs,b,c⟩:=h;exact⟨bs,Zn b a,c⟩
theorem Zh.mono(g:∀v cs,ZX w v cs->ZX w' v cs)(i:∀v ns,Zbm w v ns->Zbm w' v ns):∀(t:Tr) (v:Value),Zh w t v->Zh w' t v
 | .nil,_,h=>h
 | .node _ _ a l r, v, h => by
   have f:=Zh.mono g i l;have m:=Zh.mono g i r;rcases h with h|⟨b,nm,la,ln,lc,c,d,e⟩|⟨b,j,nm,la,ln,lc,c,d,e,k⟩|⟨b,x,c,d⟩|⟨b,j,la,ln,lc,x,c,d,e,k⟩|⟨b,x,y,c,d,e⟩
   · exact Or.inl h
   · exact Or.inr (Or.inl ⟨b,nm,la,ln,lc,c,d,g _ _ e⟩)
   · exact Or.inr (Or.inr (Or.inl ⟨b,j,nm,la,ln,lc,c,d,e,g _ _ k⟩))
   · exact Or.inr (Or.inr (Or.inr (Or.inl ⟨b,x,c,f x d⟩)))
   · exact Or.inr (Or.inr (Or.inr (Or.inr (Or.inl ⟨b,j,la,ln,lc,x,c,d,i _ _ e,f x k⟩))))
   · exact Or.inr (Or.inr (Or.inr (Or.inr (Or.inr ⟨b,x,y,c,f x d,m y e⟩))))
theorem Zh.below(h:Zh w t v)(a:BW w w'):Zh w' t v:=Zh.mono (fun _ _ h=>h.below a) (fun _ _ h=>h.below a) t v h
theorem Zh.kept(h:Zh w t v)(a:w.grownBy w' (some b)){c:Array Value}{ty:TypeId}(d:w.heap[b]?=some (.cells c ty fr))(e:ty≠379)(f:ty≠9):Zh w' t v:=
 Zh.mono (fun _ _ h=>h.kept a d e) (fun _ _ h=>h.kept a d f) t v h
theorem Zh.read(h:Zh w t v)(a:RK w R k ts)(c:w.grownBy w' (some R.b)):Zh w' t v:=h.kept c a.rd.cells Dc Dc
theorem ZX.read{cs:List (LB×LB×Bool)}(h:ZX w v cs)(a:RK w R k ts)(c:w.grownBy w' (some R.b)):ZX w' v cs:=h.kept c a.rd.cells Dc
theorem Zbm.read{cs:List (LB)}(h:Zbm w v cs)(a:RK w R k ts)(c:w.grownBy w' (some R.b)):Zbm w' v cs:=h.kept c a.rd.cells Dc
theorem Res.err{α:Type}{V:World->α->Prop}{r:Out α}(h:Res R V w r v)(a:r=.error e):Z9 w R e v:=by subst a;exact h
theorem Res.good{α:Type}{V:World->α->Prop}{r:Out α}(h:Res R V w r v){a:α}(b:r=.ok (a,ts)):v=.nilIface/\(∃k,RK w R k ts)/\V w a:=by subst b;exact h
theorem ZmB{e1 e2:TypeId}(b:w.ownsRow b1 e1 s1 v1 n1 xs1)(c:w.ownsRow b2 e2 s2 v2 n2 xs2)(d:w.grownBy w' v2.ownBlock)(f:e1≠e2):w'.ownsRow b1 e1 s1 v1 n1 xs1:=
 ZdA b (fun k a => d.block k (b.lt k a).2 (fun e => by
   rcases ZmC b c f with h|h
   · rw[h]at a;cases a
   · exact h (a.trans e)))
theorem ZgZ{e1:TypeId}(a:w.ownsRow b1 e1 s1 v1 n1 xs1){t:TypeId}(f:BAt w b c t)(g:w.grownBy w' (some b))(h:t≠e1):w'.ownsRow b1 e1 s1 v1 n1 xs1:=
 ZdA a (fun k d => g.block k (a.lt k d).2 (fun e => by
   injection e with e;subst e;exact Zcx a f h d.symm))
def InsV(w:World)(is:List (Nat×Nat))(v:Value):Prop:=w.ownsRow 0 184 2 v is.length (ZdL is)
structure Pk where
 nm:BA
 la:Option Addr
 ln:Nat
 lc:Nat
 nd:Nd
 n:Nat
def Pk.enc(x:Pk):List Value:=[.string x.nm,.slice x.la x.ln x.lc,Vi x.n]
def Pk.pr(x:Pk):Nd×Nat:=(x.nd,x.n)
structure Pk.ok (w:World) (x:Pk):Prop where
 nm:bl x.nm=x.nd.name
 cs:ZX w (.slice x.la x.ln x.lc) x.nd.jn
def ZdJ(l:List Pk):List Value:=(l.map Pk.enc).flatten
theorem ZvM(l m:List Pk):ZdJ (l++m)=ZdJ l++ZdJ m:=by unfold ZdJ;rw[Yaq,List.flatten_append]
theorem ZoU(l:List Pk)(j:Nat)(b:j<l.length):(ZdJ l)[j*3]?=some (.string l[j].nm)/\(ZdJ l)[j*3+1]?=some (.slice l[j].la l[j].ln l[j].lc)/\(ZdJ l)[j*3+2]?=some (Vi l[j].n):=by
 induction l generalizing j with
 | nil=>simp at b
 | cons a l ih=>
  have e:ZdJ (a::l)=.string a.nm::.slice a.la a.ln a.lc::.int .i64 a.n::ZdJ l:=rfl;cases j with
  | zero=>rw[e];exact⟨rfl,rfl,rfl⟩
  | succ j=>
   have h:=ih j (by simpa using b);rw[e,show(j+1)*3=j*3+1+1+1 by omega];simpa using h
def ZdG(w:World)(a:Nd×Nat)(v:Value):Prop:=∃x:Pk,v=.agg #[.string x.nm,.slice x.la x.ln x.lc,Vi x.n]/\x.pr=a/\x.ok w
def Zfc(v:Value):Prop:=v=.agg #[.string ⟨#[]⟩,S0,Vi 0]
def Zek(w:World)(ps:List (Nd×Nat))(v:Value):Prop:=∃xs:List Pk,w.ownsRow 0 294 3 v xs.length (ZdJ xs)/\xs.map Pk.pr=ps/\∀x∈xs,x.ok w
structure Gp where
 la:Option Addr
 ln:Nat
 lc:Nat
 ns:List (LB)
def Gp.ok(w:World)(x:Gp):Prop:=∃bs:List BA,w.ownsRow 0 9 1 (.slice x.la x.ln x.lc) bs.length (Zbc bs)/\((bs.map bl).Pairwise fun a b=>Op.bytesLess b a=false)/\(∀y,y∈bs.map bl ↔ y∈x.ns)/\bs.length<=70001
def ZfZ(l:List Gp):List Value:=l.map fun x=>.slice x.la x.ln x.lc
def ZfM(w:World)(a:List (LB))(v:Value):Prop:=∃x:Gp,v=.slice x.la x.ln x.lc/\x.ns=a/\x.ok w
def Zeh(w:World)(gs:List (List (LB)))(v:Value):Prop:=∃xs:List Gp,w.ownsRow 0 90 1 v xs.length (ZfZ xs)/\xs.map Gp.ns=gs/\∀x∈xs,x.ok w
theorem Pk.ok.below{x:Pk}(h:x.ok w)(a:BW w w'):x.ok w':=⟨h.nm,h.cs.below a⟩
theorem Pk.ok.jw{x:Pk}(h:x.ok w){t:TypeId}(a:BAt w b c t)(d:w.grownBy w' (some b))(e:t≠379):x.ok w':=by
 obtain⟨bs,f,g⟩:=h.cs;exact⟨h.nm,bs,ZgZ f a d e,g⟩
theorem Pk.ok.kept2{x:Pk}(h:x.ok w){e2:TypeId}(a:w.ownsRow b2 e2 s2 v2 n2 xs2)(b:w.grownBy w' v2.ownBlock)(c:379≠e2):x.ok w':=by
 obtain⟨bs,d,e⟩:=h.cs;exact⟨h.nm,bs,ZmB d a b c,e⟩
theorem Gp.ok.below{x:Gp}(h:x.ok w)(a:BW w w'):x.ok w':=by
 obtain⟨bs,b,c⟩:=h;exact⟨bs,Zn b a,c⟩
theorem Gp.ok.jw{x:Gp}(h:x.ok w){t:TypeId}(a:BAt w b c t)(d:w.grownBy w' (some b))(e:t≠9):x.ok w':=by
 obtain⟨bs,f,g⟩:=h;exact⟨bs,ZgZ f a d e,g⟩
theorem Gp.ok.kept2{x:Gp}(h:x.ok w){e2:TypeId}(a:w.ownsRow b2 e2 s2 v2 n2 xs2)(b:w.grownBy w' v2.ownBlock)(c:9≠e2):x.ok w':=by
 obtain⟨bs,d,e⟩:=h;exact⟨bs,ZmB d a b c,e⟩
theorem Tryz.infoSelC:(Tryz.prog.info? 294).map (fun i=>(i.zero,i.size,i.bytes))=some (some (.agg #[.string ByteArray.empty,S0,Vi 0]),3,48):=by kernel_rfl
theorem Tryz.infoStrs:(Tryz.prog.info? 90).map (fun i=>(i.zero,i.size,i.bytes))=some (some S0,1,24):=by kernel_rfl
theorem RdC.belowE{α:Type}{V:World->α->Value->Prop}{Z:Value->Prop}{s:BA}{r:RdR α}{v err:Value}(h:RdC V Z w b s ca r v err)(a:r=.error x)(c:BW w w'):RdC V Z w' b s ca r v err:=by
 obtain⟨d,e,f,p,g⟩:=h.err a;exact RdC.kj a ⟨d,e.below c,f,p,g.below c⟩
theorem ZyR(s:BA)(p n b:Nat)(w0 w:World)(L:BW w0 w)(M:w0.heap.size<=b)(H:RdAt w b s p)(hp:p<=s.size)(hn:n<=65535)(one:Nat->RdR (Nat×Nat))(N:OneC 143 IV IZ w0 b s ca one)(l:∀p x,one p=.ok x->p<=s.size->x.2<=s.size) :
  CP 142 #[Vp b,Vi n,.func (.func 143) #[] #[]] w fun e O=>∃v err,e=.returned (.tuple #[v,err])/\Hid (RdC InsV RowZ O b s ca (many one p n) v err)/\w.grownBy O (some b):=by
 have P:=H.lt;obtain⟨i0,hi,Q,R,S⟩:=info_parts Tryz.infoIns;have H1:=hid N;have HQ:=hid l;have H0:=hid L;have HR:=hid H;have T:=hid M;clear H N l L M;go_enter func142,ntmps142;go_wp2
 go_loopw [8, 12] (fun v i wr => ∃ (k q : Nat) (xs : List (Nat × Nat)), k <= n /\ i = Vi k /\ q <= s.size /\ Hid (many one p k = .ok (xs, q)) /\ Hid (RdAt wr b s q) /\ xs.length = k /\ wr.ownsRow w.heap.size 184 2 v xs.length (ZdL xs) /\ Hid (w.grownBy wr (some b)))
   (fun _ i _=>n - (intOf i).toNat)
 case atStart=>exact⟨0,p,[],Yag _,rfl,hp,hid rfl,HR,rfl,Ybc _ _ _ _,hid (ZbM _ _)⟩
 case round=>
  obtain⟨k,q,xs,hk,rfl,l,m,o,D,c,A⟩:=hrel;have g:=hid D;clear D;by_cases E:k<n
  ·have a1:(k:Int)<n:=by omega
   obtain⟨av,cp,rfl⟩:=Zl c;have U:=hid c;clear c
   go_wp2_with fail
   refine(H1.out q wr (ZbV H0.out A.out T.out) o.out l).mono ?_;rintro e B ⟨v,err,rfl,j,r⟩;have t:Hid (w.grownBy B (some b)):=hid (Zj A.out r);have a:=Zj3 U.out r P;clear r U A o;cases d:one q with
   | error x=>
    obtain⟨fa,rfl⟩:=j.jm d;have I:Hid (RdC InsV RowZ B b s ca (many one p n) S0 (.iface 115 (Vp fa))):=hid (j.kw d (ZgS m.out d n E) rfl);have J:=(j.err d).2.2.1;obtain⟨x0,y0,rfl⟩:=J;have V:=hid (ZgS m.out d n E);clear j d a;go_wp2;go_ret2;exact⟨_,_,rfl,hid (I.belowE V.out Zbal),ZbR t.out _⟩
   | ok x=>
    obtain⟨z,q2⟩:=x;obtain⟨rfl,hv,F⟩:=j.ok d;have W:=hid (ZjI m.out d);have G:=HQ.out q (z,q2) d l;have X:=hid F;simp only at G;have a2:w.heap.size<=B.heap.size:=t.size;obtain rfl:=hv;obtain⟨y,hy⟩:∃y,y=z:=⟨_,rfl⟩
    subst hy;clear j d F m
    go_wp2_with (at_builtin;refine wpList_append_own _ rfl (.tmp 23) (.tmp 25) 56 rfl w.heap.size 184 i0 (.agg #[Vi 0,Vi 0]) 2 16 underlying56 hi Q R S rfl Dc _ _ _ rfl ((a.alloc _).alloc _) ⟨B.heap.size+1,0,none⟩ 1 1 [Vi y.1,Vi y.2] rfl rfl ?c1 ?c2 ?c3 ?c4 ?c5 ?_)
    case c1=>exact ZcY (by simp)
    case c2=>intro u Y;simp at Y;rcases Y with rfl|rfl <;> rfl
    case c3=>have:=g.out;unfold maxLen;omega
    case c4=>have:=g.out;omega
    case c5=>have:=g.out;simp;omega
    intro v' K h f _;have Z:Hid (w.grownBy K (some b)):=hid (Zfn (ZbR (ZbR t.out _) _) f (fun z J=>(a.lt z J).1));have a0:Hid (RdAt K b s q2):=hid ((X.below (Zbal.alloc (by simp) _)).grown f (fun e=>by have:=(a.lt b e.symm).1;omega))
    have C:K.ownsRow w.heap.size 184 2 v' (xs++[y]).length (ZdL (xs++[y])):=by
     rw[Yab,Zwd];exact h
    clear a f h;go_wp2
    go_roundw
    case rel=>exact⟨k+1,q2,xs++[y],by omega,by go_num,G,W,a0,by rw[Yab,g.out];rfl,C,Z⟩
    case measure=>simp[intOf];omega
  ·obtain rfl:k=n:=by omega
   obtain⟨av,cp,rfl⟩:=Zl c;have I:Hid (RdC InsV RowZ wr b s ca (many one p k) (.slice av xs.length cp) .nilIface):=hid (RdC.mkOk m.out ⟨rfl,Zgi c,o.out⟩);clear c;go_wp2;go_ret2;exact⟨_,_,rfl,I,A.out⟩
theorem ZyT(s:BA)(p n b:Nat)(w0 w:World)(Q:BW w0 w)(R:w0.heap.size<=b)(L:RdAt w b s p)(hp:p<=s.size)(hn:n<=65535)(one:Nat->RdR (Nd×Nat))(S:OneC 139 ZdG Zfc w0 b s ca one)(t:∀p x,one p=.ok x->p<=s.size->x.2<=s.size) :
  CP 138 #[Vp b,Vi n,.func (.func 139) #[] #[]] w fun e T=>∃v err,e=.returned (.tuple #[v,err])/\Hid (RdC Zek RowZ T b s ca (many one p n) v err)/\w.grownBy T (some b):=by
 have U:=L.lt;obtain⟨i0,hi,V,W,X⟩:=info_parts Tryz.infoSelC;have H1:=hid S;have HQ:=hid t;have H0:=hid Q;have HR:=hid L;have Y:=hid R;clear L S t Q R;go_enter func138,ntmps138;go_wp2
 go_loopw [8, 12] (fun v i wr => ∃ (k q : Nat) (xs : List Pk), k <= n /\ i = Vi k /\ q <= s.size /\ Hid (many one p k = .ok (xs.map Pk.pr, q)) /\ Hid (RdAt wr b s q) /\ xs.length = k /\ wr.ownsRow w.heap.size 294 3 v xs.length (ZdJ xs) /\ Hid (w.grownBy wr (some b)) /\ Hid (∀ x ∈ xs, x.ok wr))
   (fun _ i _=>n - (intOf i).toNat)
 case atStart=>exact⟨0,p,[],Yag _,rfl,hp,hid rfl,HR,rfl,Ybc _ _ _ _,hid (ZbM _ _),hid (fun x f=>(by cases f))⟩
 case round=>
  obtain⟨k,q,xs,hk,rfl,t,A,h,G,c,D,B⟩:=hrel;have j:=hid G;clear G;by_cases H:k<n
  ·have a7:(k:Int)<n:=by omega
   obtain⟨av,cp,rfl⟩:=Zl c;have Z:=hid c;clear c
   go_wp2_with fail
   refine(H1.out q wr (ZbV H0.out D.out Y.out) h.out t).mono ?_;rintro e o ⟨v,err,rfl,r,l⟩;have C:Hid (w.grownBy o (some b)):=hid (Zj D.out l);have a:=Zj3 Z.out l U;have M:Hid (∀x∈xs,x.ok o):=hid (fun x f=>(B.out x f).jw h.out l Dc);clear B;clear l Z D h;cases g:one q with
   | error x=>
    obtain⟨fa,rfl⟩:=r.jm g;have N:Hid (RdC Zek RowZ o b s ca (many one p n) S0 (.iface 115 (Vp fa))):=hid (r.kw g (ZgS A.out g n H) rfl);have O:=(r.err g).2.2.1;obtain rfl:=O;have a0:=hid (ZgS A.out g n H);clear r g a;go_wp2;go_ret2;exact⟨_,_,rfl,hid (N.belowE a0.out Zbal),ZbR C.out _⟩
   | ok x=>
    obtain⟨z,q2⟩:=x;obtain⟨rfl,hv,I⟩:=r.ok g;have a1:=hid (ZjI A.out g);have J:=HQ.out q (z,q2) g t;have a2:=hid I;simp only at J;have a8:w.heap.size<=o.heap.size:=C.size;obtain⟨y,rfl,rfl,K⟩:=hv;have a3:=hid K;clear K;clear r g I A
    go_wp2_with (at_builtin;refine wpList_append_own _ rfl (.tmp 23) (.tmp 25) 54 rfl w.heap.size 294 i0 (.agg #[.string ByteArray.empty,S0,Vi 0]) 3 48 underlying54 hi V W X rfl Dc _ _ _ rfl ((a.alloc _).alloc _) ⟨o.heap.size+1,0,none⟩ 1 1 [.string y.nm,.slice y.la y.ln y.lc,Vi y.n] rfl rfl ?c1 ?c2 ?c3 ?c4 ?c5 ?_)
    case c1=>exact ZcY (by simp)
    case c2=>intro u hu;simp at hu;rcases hu with rfl|rfl|rfl <;> rfl
    case c3=>have:=j.out;unfold maxLen;omega
    case c4=>have:=j.out;omega
    case c5=>have:=j.out;simp;omega
    intro v' E m d _;have a4:Hid (w.grownBy E (some b)):=hid (Zfn (ZbR (ZbR C.out _) _) d (fun z O=>(a.lt z O).1));have a5:Hid (RdAt E b s q2):=hid ((a2.below (Zbal.alloc (by simp) _)).grown d (fun e=>by have:=(a.lt b e.symm).1;omega))
    have F:E.ownsRow w.heap.size 294 3 v' (xs++[y]).length (ZdJ (xs++[y])):=by
     rw[Yab,ZvM];exact m
    have P : Hid (∀ x ∈ xs ++ [y], x.ok E) := hid (fun x f => by
      have a6:x.ok o:=by
        rcases Yar.1 f with f|f
        · exact M.out x f
        · rw[Yap]at f;subst f;exact a3.out
      exact(a6.below (Zbal.alloc (by simp) _)).kept2 ((a.alloc _).alloc _) d Dc)
    clear a d m;go_wp2
    go_roundw
    case rel=>exact⟨k+1,q2,xs++[y],by omega,by go_num,J,hid (by rw[Yaq];exact a1.out),a5,by rw[Yab,j.out];rfl,F,a4,P⟩
    case measure=>simp[intOf];omega
  ·obtain rfl:k=n:=by omega
   obtain⟨av,cp,rfl⟩:=Zl c;have N:Hid (RdC Zek RowZ wr b s ca (many one p k) (.slice av xs.length cp) .nilIface):=hid (RdC.mkOk A.out ⟨rfl,⟨xs,Zgi c,rfl,B.out⟩,h.out⟩);clear c;go_wp2;go_ret2;exact⟨_,_,rfl,N,D.out⟩
theorem ZyQ(s:BA)(p n b:Nat)(w0 w:World)(P:BW w0 w)(Q:w0.heap.size<=b)(K:RdAt w b s p)(hp:p<=s.size)(hn:n<=65535)(one:Nat->RdR (List (LB)))(R:OneC 141 ZfM RowZ w0 b s ca one)(t:∀p x,one p=.ok x->p<=s.size->x.2<=s.size) :
  CP 140 #[Vp b,Vi n,.func (.func 141) #[] #[]] w fun e S=>∃v err,e=.returned (.tuple #[v,err])/\Hid (RdC Zeh RowZ S b s ca (many one p n) v err)/\w.grownBy S (some b):=by
 have T:=K.lt;obtain⟨i0,hi,U,V,W⟩:=info_parts Tryz.infoStrs;have H1:=hid R;have HQ:=hid t;have H0:=hid P;have HR:=hid K;have X:=hid Q;clear K R t P Q;go_enter func140,ntmps140;go_wp2
 go_loopw [8, 12] (fun v i wr => ∃ (k q : Nat) (xs : List Gp), k <= n /\ i = Vi k /\ q <= s.size /\ Hid (many one p k = .ok (xs.map Gp.ns, q)) /\ Hid (RdAt wr b s q) /\ xs.length = k /\ wr.ownsRow w.heap.size 90 1 v xs.length (ZfZ xs) /\ Hid (w.grownBy wr (some b)) /\ Hid (∀ x ∈ xs, x.ok wr))
   (fun _ i _=>n - (intOf i).toNat)
 case atStart=>exact⟨0,p,[],Yag _,rfl,hp,hid rfl,HR,rfl,Ybc _ _ _ _,hid (ZbM _ _),hid (fun x f=>(by cases f))⟩
 case round=>
  obtain⟨k,q,xs,hk,rfl,t,C,h,G,c,D,A⟩:=hrel;have j:=hid G;clear G;by_cases Y:k<n
  ·have a6:(k:Int)<n:=by omega
   obtain⟨av,cp,rfl⟩:=Zl c;have Z:=hid c;clear c
   go_wp2_with fail
   refine(H1.out q wr (ZbV H0.out D.out X.out) h.out t).mono ?_;rintro e o ⟨v,err,rfl,r,l⟩;have B:Hid (w.grownBy o (some b)):=hid (Zj D.out l);have a:=Zj3 Z.out l T;have L:Hid (∀x∈xs,x.ok o):=hid (fun x f=>(A.out x f).jw h.out l Dc);clear A;clear l Z D h;cases g:one q with
   | error x=>
    obtain⟨fa,rfl⟩:=r.jm g;have M:Hid (RdC Zeh RowZ o b s ca (many one p n) S0 (.iface 115 (Vp fa))):=hid (r.kw g (ZgS C.out g n Y) rfl);have N:=(r.err g).2.2.1;obtain rfl:=N;clear r g a;go_wp2;go_ret2;exact⟨_,_,rfl,M,B.out⟩
   | ok x=>
    obtain⟨z,q2⟩:=x;obtain⟨rfl,hv,H⟩:=r.ok g;have a0:=hid (ZjI C.out g);have I:=HQ.out q (z,q2) g t;have a1:=hid H;simp only at I;have a7:w.heap.size<=o.heap.size:=B.size;obtain⟨y,rfl,rfl,J⟩:=hv;have a2:=hid J;clear J;clear r g H C
    go_wp2_with (at_builtin;refine wpList_append_own _ rfl (.tmp 23) (.tmp 25) 55 rfl w.heap.size 90 i0 S0 1 24 underlying55 hi U V W rfl Dc _ _ _ rfl (a.alloc _) ⟨o.heap.size,0,none⟩ 1 1 [.slice y.la y.ln y.lc] rfl rfl ?c1 ?c2 ?c3 ?c4 ?c5 ?_)
    case c1=>exact ZcY (by simp)
    case c2=>intro u hu;simp at hu;rw[hu];rfl
    case c3=>have:=j.out;unfold maxLen;omega
    case c4=>have:=j.out;omega
    case c5=>have:=j.out;simp;omega
    intro v' E m d _;have a3:Hid (w.grownBy E (some b)):=hid (Zfn (ZbR B.out _) d (fun z N=>(a.lt z N).1));have a4:Hid (RdAt E b s q2):=hid ((a1.below Zbal).grown d (fun e=>by have:=(a.lt b e.symm).1;omega))
    have F:E.ownsRow w.heap.size 90 1 v' (xs++[y]).length (ZfZ (xs++[y])):=by
     rw[Yab,show ZfZ (xs++[y])=ZfZ xs++[.slice y.la y.ln y.lc] by unfold ZfZ;rw[Yaq];rfl];exact m
    have O : Hid (∀ x ∈ xs ++ [y], x.ok E) := hid (fun x f => by
      have a5:x.ok o:=by
        rcases Yar.1 f with f|f
        · exact L.out x f
        · rw[Yap]at f;subst f;exact a2.out
      exact(a5.below Zbal).kept2 (a.alloc _) d Dc)
    clear a d m;go_wp2
    go_roundw
    case rel=>exact⟨k+1,q2,xs++[y],by omega,by go_num,I,hid (by rw[Yaq];exact a0.out),a4,by rw[Yab,j.out];rfl,F,a3,O⟩
    case measure=>simp[intOf];omega
  ·obtain rfl:k=n:=by omega
   obtain⟨av,cp,rfl⟩:=Zl c;have M:Hid (RdC Zeh RowZ wr b s ca (many one p k) (.slice av xs.length cp) .nilIface):=hid (RdC.mkOk C.out ⟨rfl,⟨xs,Zgi c,rfl,A.out⟩,h.out⟩);clear c;go_wp2;go_ret2;exact⟨_,_,rfl,M,D.out⟩
attribute [local go_sem ↓] Go.wp_at_zero Go.wp_at_succ
theorem ZCi(l:LB):(1<=numI 1000 l ↔ 1<=numV l/\numV l<=1000)/\(1<=numI 1000 l->numI 1000 l=numV l):=by
 unfold numI numV ZQ;by_cases b:l.length<1∨(l.head?=some 48/\1<l.length)∨l.all ZC=false
 ·rw[if_pos (by rcases b with h|h|h;exact Or.inl h;exact Or.inr (Or.inl h);exact Or.inr (Or.inr (Or.inl h)))];rw[if_pos (by rcases b with h|h|h;exact Or.inl h;exact Or.inr (Or.inl h);exact Or.inr (Or.inr (Or.inl h)))];simp
 ·have d:∀most,most<val l->(l.length<1∨(l.head?=some 48/\1<l.length)∨l.all ZC=false∨most<val l):=fun _ h=>Or.inr (Or.inr (Or.inr h))
  have c:∀most,¬most<val l->¬(l.length<1∨(l.head?=some 48/\1<l.length)∨l.all ZC=false∨most<val l):=by
   rintro most h (a|a|a|a)
   ·exact b (Or.inl a)
   ·exact b (Or.inr (Or.inl a))
   ·exact b (Or.inr (Or.inr a))
   ·exact h a
  by_cases a:1000<val l
  ·rw[if_pos (d _ a)];by_cases e:1000000000<val l
   ·rw[if_pos (d _ e)];simp
   ·rw[if_neg (c _ e)];simp only[Ya6];constructor
    ·constructor
     ·intro h;omega
     ·intro h;omega
    ·intro h;omega
  ·rw[if_neg (c _ a),if_neg (c _ Om)];simp only[Ya6];constructor
   ·constructor
    ·intro h;omega
    ·intro h;omega
   ·intro _;trivial
def lenP(ts:List Tok):Out Int:=bnd (Zq [91] ts) fun _ r=>bnd (Zc2 r) fun n r=>bnd (Zq [93] r) fun _ r=>.ok (n,r)
theorem Zs8 (o : Nat) (ts : List Tok) : winP o ts = bnd (Zq [40] ts) fun _ r => bnd (selP r) fun p r => bnd (lenP r) fun n r => bnd (Zq [41] r) fun _ r => .ok (Zbg ⟨2, o, n, p.name, p.jn, []⟩, r) := by
  unfold winP lenP;cases a:Zq [40] ts with
  | error e=>rfl
  | ok p1=>
    obtain⟨a1,r1⟩:=p1;simp only[bnd];cases b:selP r1 with
    | error e=>rfl
    | ok p2=>
      obtain⟨a2,r2⟩:=p2;simp only;cases c:Zq [91] r2 with
      | error e=>rfl
      | ok p3=>
        obtain⟨a3,r3⟩:=p3;simp only;cases d:Zc2 r3 with
        | error e=>rfl
        | ok p4=>
          obtain⟨a4,r4⟩:=p4;simp only;cases f:Zq [93] r4 with
          | error e=>rfl
          | ok p5=>rfl
theorem Ze7(s:LB)(ts:List Tok):(isT s (hd ts)=true/\Zq s ts=.ok ((),ts.tail))∨(¬isT s (hd ts)=true/\Zq s ts=.error (2,(hd ts).at_)):=by
 by_cases h:isT s (hd ts)=true
 ·exact Or.inl ⟨h,ZdU h⟩
 ·exact Or.inr ⟨h,Ze8 h⟩
theorem ZEJ(h:RK w R k ts) :
  CP 237 #[Vp R.b] w fun e u=>∃(n:Int) (v:Value),e=.returned (.tuple #[Vi n,v])/\Hid (Res R (fun _ m=>n=m) u (lenP ts) v)/\w.grownBy u (some R.b):=by
 have H:Hid (RK w R k ts):=h;have a3:R.b<w.heap.size:=(Yae.1 h.rd.cells).1;clear h;go_enter func237,ntmps237
 go_wp2_with fail
 refine(ZdT H.out ⟨#[91]⟩ Dc Dc).mono ?_;rintro e y ⟨v,rfl,f,X⟩;have D:Hid (w.grownBy y (some R.b)):=X;clear X;rcases Ze7 [91] ts with ⟨q,c⟩|⟨q,c⟩
 ·obtain⟨rfl,⟨k1,d⟩,_⟩:=f.good c;have E:Hid (RK y R k1 ts.tail):=d;have F:Hid (lenP ts=bnd (Zc2 ts.tail) fun n r=>bnd (Zq [93] r) fun _ r=>.ok (n,r)):=hid (by unfold lenP;rw[c];rfl);clear f d q c
  go_wp2_with fail
  refine(Zee E.out).mono ?_;rintro e z ⟨⟨kd,at_,tx,tv⟩,rfl,B,G⟩;have I:Hid (w.grownBy z (some R.b)):=Zj D.out (Zw G);have Q:Hid (RK z R k1 ts.tail):=E.below G;clear G D E
  go_upto_region 5 with fail
  refine ZP fun P J=>?_;have K:BW z P:=by rw[J];exact Zbal
  have t:Hid (BAt P z.heap.size [Vi kd,Vi at_,.string tx,Vi tv] 167):=hid (by rw[J];exact Go.Deep.blk_alloc_new _ _);have x:Hid (w.grownBy P (some R.b)):=Zj I.out (Zw K);have g:Hid (RK P R k1 ts.tail):=Q.below K;have a4:R.b<z.heap.size:=by have:=I.size;omega
  clear J K Q I;have t0:=t.cell 0;have t3:=t.cell 3;simp only[Zget]at t0 t3;have i:=ZCi (hd ts.tail).txt;by_cases d:(hd ts.tail).jj=1
  ·have S:kd=0:=by have:=B.1;rw[d]at this;exact this
   subst S;have j:(tv:Int)=numV (hd ts.tail).txt:=B.2.2.2 d;by_cases s:1<=numI 1000 (hd ts.tail).txt
   ·have C:=i.1.1 s;rw[<-j]at C;have T:=C.1;have L:=C.2;have Y:Hid (Zc2 ts.tail=.ok ((tv:Int),ts.tail.tail)):=hid (by unfold Zc2;rw[if_pos ⟨d,s⟩,i.2 s,<-j]);have HD:Hid (¬((hd ts.tail).jj=0∨(hd ts.tail).jj=5)):=hid Om;obtain⟨rc0,rc1,rfz,rcx⟩:=g.rd.all;have a5:=g.lt;have a6:=g.len;clear s i j C d B
    go_upto_region 8 with fail
    refine ZP fun M A=>?_;have Z:Hid (RK M R (k1+1) ts.tail.tail):=hid (by rw[A];exact g.step HD.out);have a0:Hid (w.grownBy M (some R.b)):=hid (by rw[A];exact ZA x.out (Or.inl rfl) _);have a1:Hid (BAt M z.heap.size [Vi (0:Nat),Vi at_,.string tx,Vi tv] 167):=hid (by rw[A];exact t.other (by show z.heap.size≠R.b;omega) _);clear A rc0 rc1 rfz rcx t0 t3 t g x;have e3:=a1.cell 3;simp only[Zget]at e3;have U:Hid (RK M.drew R (k1+1) ts.tail.tail):=Z.below ((Yaf _ _).drew);have V:Hid (w.grownBy M.drew (some R.b)):=Zj a0.out (Zw ((Yaf _ _).drew))
    go_region_held3 (fun u => u.cell? ⟨z.heap.size, 3, none⟩ = some (Vi tv)) (first | exact e9 | exact e3 | go_keep) (first
      | (go_at_call 233
         refine(ZdT U.out ⟨#[93]⟩ Dc Dc).mono ?_;rintro e w9 ⟨v,rfl,f,N⟩;have e9:w9.cell? ⟨z.heap.size,3,none⟩=some (Vi tv):=(Ycc (a:=⟨z.heap.size,3,none⟩) (N.block _ (Yai _ _ e3) (by simp;omega))).trans e3;have a2:Hid (w.grownBy w9 (some R.b)):=Zj V.out N;clear N))
    all_goals
     go_wp2;go_ret2;refine⟨_,_,rfl,?_,a2.out⟩;rw[F.out,Y.out];show Hid (Res R _ _ (bnd (Zq [93] ts.tail.tail) _) _);rcases Ze7 [93] ts.tail.tail with ⟨_,c⟩|⟨_,c⟩
     ·obtain⟨q,h2,_⟩:=f.good c;rw[c];exact⟨q,h2,rfl⟩
     ·have:=f.err c;rw[c];exact this
   ·have l:Hid (lenP ts=.error (2,(hd ts.tail).at_)):=hid (by rw[F.out];unfold Zc2;rw[if_neg (fun h=>s h.2)];rfl)
    have C:(tv:Int)<1∨1000<(tv:Int):=by
     rw[j];by_cases q:1<=numV (hd ts.tail).txt/\numV (hd ts.tail).txt<=1000
     ·exact absurd (i.1.2 q) s
     ·omega
    clear s i j d B;by_cases T:(tv:Int)<1
    all_goals
     have L:¬(tv:Int)<1->1000<(tv:Int):=by omega
     clear C
     try have a7:=L T
     clear L
     go_wp2_with fail
     refine(Zfi g.out).mono ?_;rintro e W ⟨v,rfl,o,p⟩;obtain⟨fa,rfl⟩:=o.shape;have O:Hid (w.grownBy W (some R.b)):=Zj x.out (Zw p);clear p;go_wp2;go_ret2;exact⟨_,_,rfl,by rw[l.out];exact o,O.out⟩
  ·have S:((kd:Int) != 0)=true:=by
    rw[bne_iff_ne];intro e;exact d ((Ze0 g.wf.head.2.2).2.2.2.1.1 (by have:=B.1;simp only at this;omega))
   have l:Hid (lenP ts=.error (2,(hd ts.tail).at_)):=hid (by rw[F.out];unfold Zc2;rw[if_neg (fun h=>d h.1)];rfl);clear i B d
   go_wp2_with fail
   refine(Zfi g.out).mono ?_;rintro e W ⟨v,rfl,o,p⟩;obtain⟨fa,rfl⟩:=o.shape;have O:Hid (w.grownBy W (some R.b)):=Zj x.out (Zw p);clear p;go_wp2;go_ret2;exact⟨_,_,rfl,by rw[l.out];exact o,O.out⟩
 ·have l:Hid (lenP ts=.error (2,(hd ts).at_)):=hid (by unfold lenP;rw[c];rfl);have o:=hid (f.err c);obtain⟨fa,rfl⟩:=o.shape;clear f c q;go_wp2;go_ret2;exact⟨_,_,rfl,by rw[l.out];exact o,D.out⟩
end
section
attribute [local go_sem ↓] Go.wp_at_zero Go.wp_at_succ
theorem ZEK(h:RK w R k ts)(J:BA)(o:Nat)(L:bl J=Z0.getD o []) :
  CP 190 #[Vp R.b,.string J] w fun e u=>∃(pv v:Value),e=.returned (.tuple #[pv,v])/\Zhp pv/\Hid (Res R (fun u t=>Zh u t pv) u (winP o ts) v)/\w.grownBy u (some R.b):=by
 have H:Hid (RK w R k ts):=h;have a3:Hid (bl J=Z0.getD o []):=L;have b0:R.b<w.heap.size:=(Yae.1 h.rd.cells).1;clear h L;go_enter func190,ntmps190
 go_wp2_with fail
 refine(ZdT H.out ⟨#[40]⟩ Dc Dc).mono ?_;rintro e y ⟨v,rfl,c,hg⟩;have A:Hid (w.grownBy y (some R.b)):=hg;clear hg;rcases Ze7 [40] ts with ⟨B,d⟩|⟨B,d⟩
 ·obtain⟨rfl,⟨k1,M⟩,_⟩:=c.good d;have N:Hid (RK y R k1 ts.tail):=M;have C:Hid (winP o ts=bnd (selP ts.tail) fun p r=>bnd (lenP r) fun n r=>bnd (Zq [41] r) fun _ r=>.ok (Zbg ⟨2,o,n,p.name,p.jn,[]⟩,r)):=hid (by rw[Zs8,d];rfl);clear c M B d
  go_wp2_with fail
  refine(Zsd N.out).mono ?_;rintro e z ⟨nm,la,ln,lc,v,rfl,c,O⟩;have q:Hid (w.grownBy z (some R.b)):=Zj A.out O;have b1:R.b<z.heap.size:=by have:=q.size;omega
  clear O A N;cases f:selP ts.tail with
  | error er=>
   have i:=hid (c.err f);obtain⟨fa,rfl⟩:=i.shape;have j:Hid (winP o ts=.error er):=hid (by rw[C.out,f];rfl);clear c f;go_wp2;go_ret2;exact⟨_,_,rfl,Or.inl rfl,by rw[j.out];exact i.below Zbal,ZbR q.out _⟩
  | ok pr=>
   obtain⟨nd,r2⟩:=pr;obtain⟨rfl,⟨k2,P⟩,Q,S⟩:=c.good f;have D:Hid (winP o ts=bnd (lenP r2) fun n r=>bnd (Zq [41] r) fun _ r=>.ok (Zbg ⟨2,o,n,nd.name,nd.jn,[]⟩,r)):=hid (by rw[C.out,f];rfl);have a4:Hid (bl nm=nd.name):=Q;have T:Hid (ZX z (.slice la ln lc) nd.jn):=S;have U:Hid (RK z R k2 r2):=P;clear c f P Q S C
   go_wp2_with fail
   refine Zm fun E F=>?_;have s:BW z E:=by rw[F];exact Zbal
   have V:Hid (BAt E z.heap.size [.string nm,.slice la ln lc] 281):=hid (by rw[F];exact Go.Deep.blk_alloc_new _ _);have W:Hid (w.grownBy E (some R.b)):=Zj q.out (Zw s);have G:Hid (RK E R k2 r2):=U.below s;have X:Hid (ZX E (.slice la ln lc) nd.jn):=T.below s;clear F s q U T;refine(ZEJ G.out).mono ?_;rintro e m ⟨n,v,rfl,c,x⟩;have Y:Hid (w.grownBy m (some R.b)):=Zj W.out x;have a5:Hid (ZX m (.slice la ln lc) nd.jn):=X.read G.out x;have Z:Hid (BAt m z.heap.size [.string nm,.slice la ln lc] 281):=V.grown x (by simp;omega);clear x W X V G;cases g:lenP r2 with
   | error er=>
    have i:=hid (c.err g);obtain⟨fa,rfl⟩:=i.shape;have j:Hid (winP o ts=.error er):=hid (by rw[D.out,g];rfl);clear c g;go_wp2;go_ret2;exact⟨_,_,rfl,Or.inl rfl,by rw[j.out];exact i,Y.out⟩
   | ok pr=>
    obtain⟨n',r4⟩:=pr;obtain⟨rfl,⟨k4,a0⟩,hn⟩:=c.good g;subst hn;have a6:Hid (winP o ts=bnd (Zq [41] r4) fun _ r=>.ok (Zbg ⟨2,o,n,nd.name,nd.jn,[]⟩,r)):=hid (by rw[D.out,g];rfl);have a7:Hid (RK m R k4 r4):=a0;clear c g a0 D;have e0:=Z.cell 0;have e1:=Z.cell 1;simp only[Zget]at e0 e1;have I:Hid (RK m.drew R k4 r4):=a7.below ((Yaf _ _).drew);have a1:Hid (w.grownBy m.drew (some R.b)):=Zj Y.out (Zw ((Yaf _ _).drew));have a2:Hid (ZX m.drew (.slice la ln lc) nd.jn):=a5.below ((Yaf _ _).drew)
    go_upto_region 10 with fail
    go_region_held3 (fun u => u.cell? ⟨z.heap.size, 0, none⟩ = some (.string nm) /\ u.cell? ⟨z.heap.size, 1, none⟩ = some (.slice la ln lc)) (first | exact ⟨e90, e91⟩ | exact ⟨e0, e1⟩ | go_keep) (first
      | (go_at_call 233
         refine(ZdT I.out ⟨#[41]⟩ Dc Dc).mono ?_;rintro e K ⟨v,rfl,c,l⟩;have e90:K.cell? ⟨z.heap.size,0,none⟩=some (.string nm):=(Ycc (a:=⟨z.heap.size,0,none⟩) (l.block _ (Yai _ _ e0) (by simp;omega))).trans e0;have e91:K.cell? ⟨z.heap.size,1,none⟩=some (.slice la ln lc):=(Ycc (a:=⟨z.heap.size,1,none⟩) (l.block _ (Yai _ _ e1) (by simp;omega))).trans e1;have a8:Hid (w.grownBy K (some R.b)):=Zj a1.out l;have a9:Hid (ZX K (.slice la ln lc) nd.jn):=a2.read I.out l;clear l))
    all_goals
     go_wp2;go_ret2;refine⟨_,_,rfl,Or.inr ⟨_,_,rfl⟩,?_,a8.out⟩;rw[a6.out];rcases Ze7 [41] r4 with ⟨_,d⟩|⟨_,d⟩
     ·obtain⟨B,h2,_⟩:=c.good d;rw[d];exact⟨B,h2,Or.inr (Or.inr (Or.inl ⟨rfl,J,nm,la,ln,lc,rfl,a3.out,a4.out,a9.out⟩))⟩
     ·have:=c.err d;rw[d];exact this
 ·have j:Hid (winP o ts=.error (2,(hd ts).at_)):=hid (by rw[Zs8,d];rfl);have i:=hid (c.err d);obtain⟨fa,rfl⟩:=i.shape;clear c d B;go_wp2;go_ret2;exact⟨_,_,rfl,Or.inl rfl,by rw[j.out];exact i,A.out⟩
end
section
def ZeO(f:FuncId)(args:Nat->List Value)(P:List Tok->Nat->Out Tr)(ok:List Tok->Prop):Prop:=∀(w:World) (R:RS) (k:Nat) (ts:List Tok) (deep:Nat),RK w R k ts->deep<=20->ok ts->
 CP f ⟨Vp R.b::args deep⟩ w fun e w'=>∃(pv v:Value),e=.returned (.tuple #[pv,v])/\Zhp pv/\Hid (Res R (fun w' t=>Zh w' t pv) w' (P ts deep) v)/\w.grownBy w' (some R.b)
theorem Zug {rec : Nat -> List Tok -> Nat -> Out Tr}  (N : ZeO 68 (fun d => [Vi 0, Vi (d + 1 : Nat)]) (rec 0) (fun ts => ts.length < m)) :
    ZeO 186 (fun d=>[Vi (d+1:Nat)]) (Zbu rec) (fun ts=>ts.length<=m):=by
  intro w R k ts deep h hd s;have H:Hid (RK w R k ts):=h;have O:Hid (deep<=20):=hd;have P:Hid (ts.length<=m):=s;clear h hd s;go_enter func186,ntmps186
  go_wp2_with fail
  refine(ZdT H.out ⟨#[40]⟩ Dc Dc).mono ?_;rintro e y ⟨v,rfl,c,G⟩;have i:Hid (w.grownBy y (some R.b)):=G;clear G;rcases Ze7 [40] ts with ⟨j,f⟩|⟨j,f⟩
  · obtain⟨rfl,⟨k1,u⟩,_⟩:=c.good f
    have x:Hid (RK y R k1 ts.tail):=u;have l:Hid (Zbu rec ts deep=bnd (rec 0 ts.tail deep) fun a r=>bnd (Zq [41] r) fun _ r=>.ok (a,r)):=hid (by unfold Zbu;rw[f];rfl);clear c u j f
    go_wp2_with fail
    refine(N y R k1 ts.tail deep x.out O.out (by show ts.tail.length<m;have:=H.pos;have:=P.out;rw[Yb4];omega)).mono ?_;rintro e z ⟨pv,v,rfl,A,c,B⟩;have n:Hid (w.grownBy z (some R.b)):=Zj i.out B;clear B i x;cases g:rec 0 ts.tail deep with
    | error er=>
      have o:=hid (c.err g);obtain⟨fa,rfl⟩:=o.shape;have p:Hid (Zbu rec ts deep=.error er):=hid (by rw[l.out,g];rfl);clear c g;go_wp2;go_ret2;exact⟨_,_,rfl,Or.inl rfl,by rw[p.out];exact o,n.out⟩
    | ok pr=>
      obtain⟨t,r2⟩:=pr;obtain⟨rfl,⟨k2,C⟩,D⟩:=c.good g;have I:Hid (Zbu rec ts deep=bnd (Zq [41] r2) fun _ r=>.ok (t,r)):=hid (by rw[l.out,g];rfl);have E:Hid (RK z R k2 r2):=C;have F:Hid (Zh z t pv):=D;clear c g C D l
      go_wp2_with fail
      refine(ZdT E.out ⟨#[41]⟩ Dc Dc).mono ?_;rintro e J ⟨v,rfl,c,q⟩;have K:Hid (w.grownBy J (some R.b)):=Zj n.out q;have L:Hid (Zh J t pv):=F.read E.out q;have M:Hid (Zhp pv):=A;clear q n F A;go_wp2;go_ret2;refine⟨_,_,rfl,M.out,?_,K.out⟩;rw[I.out];rcases Ze7 [41] r2 with ⟨_,f⟩|⟨_,f⟩
      · obtain⟨j,Q,_⟩:=c.good f
        rw[f];exact⟨j,Q,L.out⟩
      · have:=c.err f
        rw[f];exact this
  · have p:Hid (Zbu rec ts deep=.error (2,(LS.hd ts).at_)):=hid (by unfold Zbu;rw[f];rfl)
    have o:=hid (c.err f);obtain⟨fa,rfl⟩:=o.shape;clear c f j;go_wp2;go_ret2;exact⟨_,_,rfl,Or.inl rfl,by rw[p.out];exact o,i.out⟩
theorem ZpI (rec : Nat -> List Tok -> Nat -> Out Tr) (g : Nat) (ts : List Tok) (deep : Nat) : Zcb rec g ts deep = bnd (Zq wBy ts) fun _ r => bnd (bnd (Zq [40] r) fun _ r => ZS (ZH 2) [41] (r.length + 1) [] r) fun ns r => bnd (Zbu rec r deep) fun a r => .ok (.node 0 0 ⟨5, g, 0, [], [], ns⟩ a .nil, r) := by
  unfold Zcb;cases b:Zq wBy ts with
  | error e=>rfl
  | ok p1=>
    obtain⟨a1,r1⟩:=p1;simp only[bnd];cases c:Zq [40] r1 with
    | error e=>rfl
    | ok p2=>rfl
theorem Zyz    (h : (bnd (Zq [40] ts) fun _ r => ZS (ZH 2) [41] (r.length + 1) [] r) = .ok (ns, r)) : r.length <= ts.length := by
  have k:∀(n:Nat) (acc:List (LB)) (ts:List Tok) (z:List (LB)×List Tok),ZS (ZH 2) [41] n acc ts=.ok z->z.2.length<=ts.length:=by
    intro n
    induction n with
    | zero=>intro acc ts z h;cases h
    | succ n ih=>
      intro acc ts z h;by_cases i:isT [41] (hd ts)=true
      · rw[Zma i]at h;cases h;simp
      · have d:isT [41] (hd ts)=false:=Yce.2 i
        by_cases j:acc=[]
        · subst j
          rw[Zmb d]at h;cases c:ZH 2 ts with
          | error e=>rw[c]at h;cases h
          | ok p=>
            obtain⟨a,r⟩:=p;rw[c]at h;have f:=ih _ _ _ h;have g:=Zjt c;subst g;simp at f;omega
        · rw[Zmd d j]at h
          rcases Ze7 [44] ts with ⟨_,b⟩|⟨_,b⟩
          · rw[b]at h
            simp only[bnd]at h;cases c:ZH 2 ts.tail with
            | error e=>rw[c]at h;cases h
            | ok p=>
              obtain⟨a,r⟩:=p;rw[c]at h;have f:=ih _ _ _ h;have g:=Zjt c;subst g;simp at f;omega
          · rw[b]at h;cases h
  rcases Ze7 [40] ts with ⟨_,b⟩|⟨_,b⟩
  · rw[b]at h
    have:=k _ _ _ _ h;simp at this;omega
  · rw[b]at h;cases h
theorem ZwJ {rec : Nat -> List Tok -> Nat -> Out Tr}  (U : ZeO 186 (fun d => [Vi (d + 1 : Nat)]) (Zbu rec) (fun ts => ts.length <= m)) (x : BA) (g : Nat) (A : bl x = ZW.getD g []) :
    ZeO 188 (fun d=>[.string x,Vi (d+1:Nat)]) (Zcb rec g) (fun ts=>ts.length<=m):=by
  intro w R k ts deep h hd B;have H:Hid (RK w R k ts):=h;have L:Hid (bl x=ZW.getD g []):=A;have V:Hid (deep<=20):=hd;have W:Hid (ts.length<=m):=B;clear h hd B A;go_enter func188,ntmps188
  go_wp2_with fail
  refine(ZC8 H.out ⟨#[98,121]⟩ Dc Dc).mono ?_;rintro e y ⟨v,rfl,c,M⟩;have j:Hid (w.grownBy y (some R.b)):=M;clear M;rcases Ze7 wBy ts with ⟨l,f⟩|⟨l,f⟩
  · obtain⟨rfl,⟨k1,C⟩,_⟩:=c.good f
    have D:Hid (RK y R k1 ts.tail):=C;have n:Hid (Zcb rec g ts deep=bnd (bnd (Zq [40] ts.tail) fun _ r=>ZS (ZH 2) [41] (r.length+1) [] r) fun ns r=>bnd (Zbu rec r deep) fun a r=>.ok (.node 0 0 ⟨5,g,0,[],[],ns⟩ a .nil,r)):=hid (by rw[ZpI,f];rfl);clear c C l f
    go_wp2_with fail
    refine(ZyA D.out ⟨#[40]⟩ ⟨#[41]⟩ Dc Dc).mono ?_;rintro e z ⟨la,ln,lc,v,rfl,c,E⟩;have o:Hid (w.grownBy z (some R.b)):=Zj j.out E;clear E j D;cases i:(bnd (Zq [40] ts.tail) fun _ r=>ZS (ZH 2) [41] (r.length+1) [] r)with
    | error er=>
      have p:=hid (c.err i);obtain⟨fa,rfl⟩:=p.shape;have q:Hid (Zcb rec g ts deep=.error er):=hid (by rw[n.out,i];rfl);clear c i;go_wp2;go_ret2;exact⟨_,_,rfl,Or.inl rfl,by rw[q.out];exact p,o.out⟩
    | ok pr=>
      obtain⟨ns,r2⟩:=pr;obtain⟨rfl,⟨k2,F⟩,G⟩:=c.good i;have N:Hid (Zcb rec g ts deep=bnd (Zbu rec r2 deep) fun a r=>.ok (.node 0 0 ⟨5,g,0,[],[],ns⟩ a .nil,r)):=hid (by rw[n.out,i];rfl);have I:Hid (RK z R k2 r2):=F;have J:Hid (Zbm z (.slice la ln lc) ns):=G;have O:Hid (r2.length<=m):=hid (by have:=Zyz i;have:=W.out;rw[Yb4]at *;omega);clear c i F G n
      go_wp2_with fail
      refine(U z R k2 r2 deep I.out V.out O.out).mono ?_;rintro e P ⟨pv,v,rfl,Q,c,s⟩;have S:Hid (w.grownBy P (some R.b)):=Zj o.out s;have T:Hid (Zbm P (.slice la ln lc) ns):=J.read I.out s;clear s o J;rcases Q with rfl|⟨ty,u,rfl⟩
      all_goals
        go_wp2;go_ret2;refine⟨_,_,rfl,Or.inr ⟨_,_,rfl⟩,?_,S.out⟩;rw[N.out];cases K:Zbu rec r2 deep with
        | error er=>exact c.err K
        | ok pr=>
          obtain⟨t,r3⟩:=pr;obtain⟨l,X,Y⟩:=c.good K;exact⟨l,X,Or.inr (Or.inr (Or.inr (Or.inr (Or.inl ⟨rfl,x,la,ln,lc,_,rfl,L.out,T.out,Y⟩))))⟩
  · have q:Hid (Zcb rec g ts deep=.error (2,(LS.hd ts).at_)):=hid (by rw[ZpI,f];rfl)
    have p:=hid (c.err f);obtain⟨fa,rfl⟩:=p.shape;clear c f l;go_wp2;go_ret2;exact⟨_,_,rfl,Or.inl rfl,by rw[q.out];exact p,j.out⟩

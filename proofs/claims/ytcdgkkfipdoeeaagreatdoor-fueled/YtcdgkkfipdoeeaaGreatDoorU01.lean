/- Parts. -/
import Derived.Test.YtcdgkkfipdoeeaaGreatDoorU00
set_option linter.all false
set_option maxRecDepth 100000
set_option maxHeartbeats 16000000
namespace Go.Proofs.YtcdgkkfipdoeeaaGreatDoor
open Go.RowKit LS Go.Proofs.Tryz
theorem Zjr{k:Nat}{ts:List Tok}{z:LB×List Tok}(a:k≠0)(h:ZH k ts=.ok z):z.2.length+1=ts.length/\z.1=(hd ts).txt/\z.2=ts.tail:=by
 unfold ZH at h;split at h
 ·rename_i e;cases h;cases ts with
  | nil=>exact absurd e.symm a
  | cons t r=>simp
 ·cases h
theorem ZeB{c:LB}{ts:List Tok}{z:Unit×List Tok}(h:Zq c ts=.ok z):z.2.length+1=ts.length:=by
 unfold Zq at h;split at h
 ·rename_i e;cases h;cases ts with
  | nil=>exact absurd (.inl rfl) (Zib e)
  | cons t r=>rfl
 ·cases h
theorem Zxj{c:LB}{ts:List Tok}(e:isT c (hd ts)=true):ts.tail.length+1=ts.length:=by
 cases ts with
 | nil=>exact absurd (.inl rfl) (Zib e)
 | cons t r=>rfl
theorem Zos(t:List Tok)(z:(LB×LB×Bool)×List Tok)(h:ZV t=.ok z):z.2.length+1<=t.length:=by
 unfold ZV at h;cases d:ZH 2 t with
 | error e=>rw[d]at h;cases h
 | ok y=>
  have l1:=(Zjr Dc d).1;rw[d]at h;simp only[bnd]at h;cases a:Zdc y.2 with
  | error e=>simp_all
  | ok u=>
   have l2:u.2.length<=y.2.length:=by
    unfold Zdc at a;split at a
    ·cases a;simp
    ·cases c:Zq [61] y.2 with
     | error e=>rw[c]at a;cases a
     | ok q=>rw[c]at a;cases a;have:=ZeB c;simp_all;omega
   rw[a]at h;simp only at h;cases c:ZH 3 u.2 with
   | error e=>simp_all
   | ok q=>
    have l3:=(Zjr Dc c).1;rw[c]at h;cases h
    simp_all;omega
theorem ZdA{w w':World}{base:Nat}{e:TypeId}{size:Nat}{v:Value}{n:Nat}{xs:List Value}(h:w.ownsRow base e size v n xs)(a:∀k,v.ownBlock=some k->w'.heap[k]?=w.heap[k]?):w'.ownsRow base e size v n xs:=by
 refine⟨h.1,?_⟩;rcases h.2 with c|⟨g,cap,cur,rfl,d,f,r⟩
 ·exact .inl c
 ·exact .inr ⟨g,cap,cur,rfl,d,(a g rfl).trans f,r⟩
theorem Ze{α β:Type}{x:Out α}{f:α->List Tok->Out β}{z:β×List Tok}(h:bnd x f=.ok z):∃a t,x=.ok (a,t)/\f a t=.ok z:=by
 cases x with
 | error e=>cases h
 | ok y=>exact⟨y.1,y.2,rfl,h⟩
theorem Zmc{α:Type}{item:List Tok->Out α}{close:LB}(e:∀t z,item t=.ok z->z.2.length+1<=t.length):∀(n:Nat) (acc:List α) (ts:List Tok) (z:List α×List Tok),ZS item close n acc ts=.ok z->z.2.length+1<=ts.length
 | 0,_,_,_,h=>by cases h
 | n + 1, acc, ts, z, h => by
   have c:(if isT _ _ then .ok _ else bnd _ _)=.ok z:=h;cases d:isT close (hd ts)
   · rw[d]at c
     obtain⟨_,t1,f,g⟩:=Ze c;obtain⟨a,t2,i,j⟩:=Ze g
     have l1:t1.length<=ts.length:=by
       split at f
       · simp_all
       · have:=ZeB f;simp_all;omega
     have l2:=e _ _ i;have l3:=Zmc e n _ _ _ j;simp at l2;omega
   · rw[d]at c
     injection c with c;subst c;have:=Zxj d
     simp_all
theorem Zxx(k:Nat)(a:k≠0):∀t z,ZH k t=.ok z->z.2.length+1<=t.length:=fun _ _ h=>Ydh (Zjr a h).1
theorem Zr2{ts:List Tok}{z:Nd×List Tok}(h:selP ts=.ok z):z.2.length+1<=ts.length:=by
 unfold selP at h;obtain⟨a,t,c,d⟩:=Ze h
 have l1:t.length+1=ts.length:=by
  unfold ZdQ at c;split at c
  ·cases c
  ·exact(Zjr Dc c).1
 split at d
 ·obtain⟨cs,t2,e,f⟩:=Ze d;have l2:=Zmc Zos _ _ _ _ e;cases f
  simp_all;omega
 ·cases d;simp_all
theorem ZEH{o:Nat}{ts:List Tok}{z:Tr×List Tok}(h:winP o ts=.ok z):z.2.length+1<=ts.length:=by
 unfold winP at h;obtain⟨_,t1,c,h⟩:=Ze h;obtain⟨_,t2,d,h⟩:=Ze h;obtain⟨_,t3,e,h⟩:=Ze h;obtain⟨_,t4,a,h⟩:=Ze h;obtain⟨_,t5,f,h⟩:=Ze h;obtain⟨_,t6,g,h⟩:=Ze h;cases h;have a1:=ZeB c;have a2:=Zr2 d;have a3:=ZeB e
 have a4:t4.length<=t3.length:=by
  unfold Zc2 at a;split at a
  ·injection a with a;injection a with _ a;subst a;simp
  ·cases a
 have a5:=ZeB f;have a6:=ZeB g
 simp_all;omega
theorem Zs9{rec:Nat->List Tok->Nat->Out Tr}(a:∀lv t d z,rec lv t d=.ok z->z.2.length+1<=t.length){ts:List Tok}{deep:Nat}{z:Tr×List Tok}(h:Zbu rec ts deep=.ok z):z.2.length+1<=ts.length:=by
 unfold Zbu at h;obtain⟨_,t1,c,h⟩:=Ze h;obtain⟨_,t2,e,h⟩:=Ze h;obtain⟨_,t3,f,h⟩:=Ze h;cases h;have a1:=ZeB c;have a2:=a _ _ _ _ e;have a3:=ZeB f
 simp_all;omega
theorem ZwC{rec:Nat->List Tok->Nat->Out Tr}(a:∀lv t d z,rec lv t d=.ok z->z.2.length+1<=t.length){g:Nat}{ts:List Tok}{deep:Nat}{z:Tr×List Tok}(h:Zcb rec g ts deep=.ok z):z.2.length+1<=ts.length:=by
 unfold Zcb at h;obtain⟨_,t1,c,h⟩:=Ze h;obtain⟨_,t2,e,h⟩:=Ze h;obtain⟨_,t3,f,h⟩:=Ze h;obtain⟨_,t4,i,h⟩:=Ze h;cases h;have a1:=ZeB c;have a2:=ZeB e;have a3:=Zmc (Zxx 2 Dc) _ _ _ _ f;have a4:=Zs9 a i
 simp_all;omega
theorem Zw4{rec:Nat->List Tok->Nat->Out Tr}(a:∀lv t d z,rec lv t d=.ok z->z.2.length+1<=t.length){ts:List Tok}{deep:Nat}{z:Tr×List Tok}(h:Zbw rec ts deep=.ok z):z.2.length+1<=ts.length:=by
 unfold Zbw at h;have f:ts.tail.length<=ts.length:=by simp
 split at h
 ·rename_i e;cases h;cases ts with
  | nil=>exact absurd e Dc
  | cons t r=>simp
 ·split at h
  ·obtain⟨_,t1,c,h⟩:=Ze h;cases h;have:=a _ _ _ _ c
   simp_all;omega
  ·split at h
   ·exact Zs9 a h
   ·split at h
    ·have:=ZwC a h;omega
    ·split at h
     ·have:=ZEH h;omega
     ·obtain⟨_,t1,c,h⟩:=Ze h;cases h;exact Zr2 c
theorem Zg1:∀(n:Nat) (m:Bool) (lv:Nat) (a:Tr) (ts:List Tok) (deep:Nat) (z:Tr×List Tok),Zs n m lv a ts deep=.ok z->z.2.length+(if m then 0 else 1)<=ts.length
 | 0,_,_,_,_,_,_,h=>by cases h
 | n + 1, false, lv, a, ts, deep, z, h => by
   have f:∀lv t d z,Zs n false _ .nil t d=.ok z->z.2.length+1<=t.length:=fun lv t d z h=>Zg1 n _ lv _ t d z h;unfold Zs at h;split at h
   · unfold Zb9 at h
     split at h
     · split at h
       · cases h
       · exact Zw4 f h
     · cases h
   · obtain⟨b,t1,c,e⟩:=Ze h
     have l1:=f _ _ _ _ c;have l2:=Zg1 n _ _ b _ _ z e
     simp_all;omega
 | n + 1, true, lv, a, ts, deep, z, h => by
   unfold Zs at h;split at h
   · cases h;simp
   · obtain⟨b,t1,c,e⟩:=Ze h
     have l1:=Zg1 n _ _ _ _ _ _ c;have l2:=Zg1 n _ _ _ _ _ z e
     simp_all;omega
theorem Tryz.infoStr:(Tryz.prog.info? 9).map (fun i=>(i.zero,i.size,i.bytes))=some (some (.string ByteArray.empty),1,16):=by kernel_rfl
def tw:List Tok->Nat
 | []=>0
 | t::r=>t.txt.length+30+tw r
def cw:List (LB×LB×Bool)->Nat
 | []=>0
 | c::r=>c.1.length+c.2.1.length+6+cw r
def nw:List (LB)->Nat
 | []=>0
 | c::r=>c.length+1+nw r
def ownW(a:Nd):Nat:=24+a.name.length+cw a.ku+nw a.by_
def wT:Tr->Nat
 | .nil=>0
 | .node _ _ a l r=>ownW a+wT l+wT r
def isNil:Tr->Bool
 | .nil=>true
 | .node _ _ _ _ _=>false
def wfT:Tr->Prop
 | .nil=>True
 | .node _ _ a l r=>a.jk<=6/\a.op<=4/\(a.jk=4->a.op<=3)/\(a.jk=5->a.op<=3)/\0<=a.n/\a.n<=1000000000/\(3<=a.jk->isNil l=false)/\(a.jk=4∨a.jk=6->isNil r=false)/\(a.jk<=2->isNil l=true/\isNil r=true)/\(a.jk=3∨a.jk=5->isNil r=true)/\wfT l/\wfT r
theorem ZiI(ts:List Tok):tw ts.tail<=tw ts:=by
 cases ts with
 | nil=>simp
 | cons t r=>show tw r<=t.txt.length+30+tw r;omega
theorem ZiH{ts:List Tok}(h:¬((hd ts).jk=0)):(hd ts).txt.length+30+tw ts.tail=tw ts:=by
 cases ts with
 | nil=>exact absurd rfl h
 | cons t r=>rfl
theorem ZeF{c:LB}{ts:List Tok}{z:Unit×List Tok}(h:Zq c ts=.ok z):tw z.2+30<=tw ts:=by
 unfold Zq at h;split at h
 ·rename_i e;cases h;have:=ZiH (fun h=>Zib e (.inl h))
  simp_all;omega
 ·cases h
theorem Zkp{k:Nat}{ts:List Tok}{z:LB×List Tok}(a:k≠0)(h:ZH k ts=.ok z):tw z.2+z.1.length+30=tw ts:=by
 unfold ZH at h;split at h
 ·rename_i e;cases h;have:=ZiH (ts:=ts) Om
  simp_all;omega
 ·cases h
theorem ZoG(l m:List (LB×LB×Bool)):cw (l++m)=cw l+cw m:=by
 induction l with
 | nil=>simp[cw]
 | cons a l ih=>simp[cw,ih];omega
theorem ZzD(l m:List (LB)):nw (l++m)=nw l+nw m:=by
 induction l with
 | nil=>simp[nw]
 | cons a l ih=>simp[nw,ih];omega
theorem Zns{α:Type}{item:List Tok->Out α}{close:LB}(f:List α->Nat)(d:∀t z l,item t=.ok z->f (l++[z.1])+tw z.2<=f l+tw t):∀(n:Nat) (acc:List α) (ts:List Tok) (z:List α×List Tok),ZS item close n acc ts=.ok z->f z.1+tw z.2<=f acc+tw ts
 | 0,_,_,_,h=>by cases h
 | n + 1, acc, ts, z, h => by
   have c:(if isT _ _ then .ok _ else bnd _ _)=.ok z:=h;cases e:isT close (hd ts)
   · rw[e]at c
     obtain⟨_,t1,g,i⟩:=Ze c;obtain⟨a,t2,j,k⟩:=Ze i
     have l1:tw t1<=tw ts:=by
       split at g
       · simp_all
       · have:=ZeF g;simp_all;omega
     have l2:=d _ _ acc j;have l3:=Zns f d n _ _ _ k;simp at l2;omega
   · rw[e]at c
     injection c with c;subst c;have:=ZiI ts
     simp_all
theorem ZDm(t:List Tok)(z:(LB×LB×Bool)×List Tok)(l:List (LB×LB×Bool))(h:ZV t=.ok z):cw (l++[z.1])+tw z.2<=cw l+tw t:=by
 unfold ZV at h;obtain⟨a,t1,e,h⟩:=Ze h;obtain⟨v,t2,c,h⟩:=Ze h;obtain⟨b,t3,f,h⟩:=Ze h;cases h;have l1:=Zkp Dc e;have l3:=Zkp Dc f
 have l2:tw t2<=tw t1:=by
  unfold Zdc at c;split at c
  ·injection c with c;injection c with _ c;subst c;exact ZiI _
  ·obtain⟨_,t4,g,d⟩:=Ze c;injection d with d;injection d with _ d;subst d;have:=ZeF g
   simp_all;omega
 rw[ZoG];simp[cw]at *
 omega
theorem Zkq{ts:List Tok}{z:Nd×List Tok}(h:selP ts=.ok z):ownW z.1+6+tw z.2<=tw ts/\z.1.jk=1/\z.1.op=0/\z.1.n=0/\z.1.by_=[]:=by
 unfold selP at h;obtain⟨a,t,c,d⟩:=Ze h
 have l1:tw t+a.length+30=tw ts:=by
  unfold ZdQ at c;split at c
  ·cases c
  ·exact Zkp Dc c
 split at d
 ·obtain⟨cs,t2,e,f⟩:=Ze d;cases f;have l2:=Zns _ ZDm _ _ _ _ e;have l3:=ZiI t;refine⟨?_,rfl,rfl,rfl,rfl⟩;simp[ownW,cw,nw]at *
  omega
 ·cases d;refine⟨?_,rfl,rfl,rfl,rfl⟩;simp[ownW,cw,nw]at *
  omega
theorem Zzr{l:LB}:0<=numV l/\numV l<=1000000000:=by
 unfold numV;cases h:ZQ 1000000000 l with
 | none=>simp
 | some v=>have:=Zgh h;simp;omega
theorem Zl6{a:Nd}(e:a.jk<=2)(d:a.op<=4)(c:0<=a.n/\a.n<=1000000000):wfT (Zbg a):=
 ⟨by omega,d,by omega,by omega,c.1,c.2,by omega,by omega,fun _=>⟨rfl,rfl⟩,by omega,trivial,trivial⟩
theorem ZDp{o:Nat}(c:o<=4){ts:List Tok}{z:Tr×List Tok}(h:winP o ts=.ok z):wfT z.1/\isNil z.1=false/\wT z.1+tw z.2<=tw ts:=by
 unfold winP at h;obtain⟨_,t1,d,h⟩:=Ze h;obtain⟨p,t2,e,h⟩:=Ze h;obtain⟨_,t3,f,h⟩:=Ze h;obtain⟨m,t4,a,h⟩:=Ze h;obtain⟨_,t5,g,h⟩:=Ze h;obtain⟨_,t6,i,h⟩:=Ze h;cases h;have a1:=ZeF d;have a2:=Zkq e;have a3:=ZeF f
 have a4:tw t4<=tw t3/\1<=m/\m<=1000:=by
  unfold Zc2 at a;split at a
  ·rename_i j;injection a with a;injection a with a h4';subst a;subst h4';exact⟨ZiI _,j.2,(Zmr).2⟩
  ·cases a
 have a5:=ZeF g;have a6:=ZeF i;refine⟨Zl6 (Yac 2) c ⟨by simp_all;omega,by simp_all;omega⟩,rfl,?_⟩;simp[Zbg,wT,ownW,nw]at *
 omega
def InvP(rec:Nat->List Tok->Nat->Out Tr):Prop:=∀lv t d z,rec lv t d=.ok z->wfT z.1/\isNil z.1=false/\wT z.1+tw z.2<=tw t
theorem ZsS{rec:Nat->List Tok->Nat->Out Tr}(c:InvP rec){ts:List Tok}{deep:Nat}{z:Tr×List Tok}(h:Zbu rec ts deep=.ok z):wfT z.1/\isNil z.1=false/\wT z.1+tw z.2<=tw ts:=by
 unfold Zbu at h;obtain⟨_,t1,d,h⟩:=Ze h;obtain⟨a,t2,e,h⟩:=Ze h;obtain⟨_,t3,f,h⟩:=Ze h;cases h;have a1:=ZeF d;obtain⟨b1,b2,b3⟩:=c _ _ _ _ e;have a3:=ZeF f
 simp_all;omega
theorem ZDn{rec:Nat->List Tok->Nat->Out Tr}(d:InvP rec){g:Nat}(c:g<=3){ts:List Tok}{deep:Nat}{z:Tr×List Tok}(h:Zcb rec g ts deep=.ok z):wfT z.1/\isNil z.1=false/\wT z.1+tw z.2<=tw ts:=by
 unfold Zcb at h;obtain⟨_,t1,e,h⟩:=Ze h;obtain⟨_,t2,f,h⟩:=Ze h;obtain⟨ns,t3,i,h⟩:=Ze h;obtain⟨a,t4,j,h⟩:=Ze h;cases h;have a1:=ZeF e;have a2:=ZeF f;have a3:=Zns nw (fun t z l k=>by have:=Zkp Dc k;rw[ZzD];simp[nw];omega) _ _ _ _ i;obtain⟨b1,b2,b3⟩:=ZsS d j;refine⟨⟨by simp,by simp_all;omega,fun _=>c,fun _=>c,Yd0 _,by simp,fun _=>b2,fun h=>by simp at h,fun h=>absurd (show(5)<=2 from h) Om,fun _=>rfl,b1,trivial⟩,rfl,?_⟩;simp[wT,ownW,cw,nw]at *
 omega
theorem Zji{w:LB}{l:List (LB)}{i:Nat}(h:idx w l=some i):i<l.length:=by
 induction l generalizing i with
 | nil=>cases h
 | cons x l ih=>
  unfold idx at h;split at h
  ·simp_all;omega
  ·cases a:idx w l with
   | none=>simp_all
   | some j=>simp_all;omega
theorem ZDo{rec:Nat->List Tok->Nat->Out Tr}(c:InvP rec){ts:List Tok}{deep:Nat}{z:Tr×List Tok}(h:Zbw rec ts deep=.ok z):wfT z.1/\isNil z.1=false/\wT z.1+tw z.2<=tw ts:=by
 unfold Zbw at h;have j:=ZiI ts;split at h
 ·rename_i k;cases h;have:=ZiH (ts:=ts) Om;refine⟨Zl6 (Yag _) (Yag _) (Zzr),rfl,?_⟩;simp[Zbg,wT,ownW,cw,nw]at *
  omega
 ·split at h
  ·rename_i e;obtain⟨a,t1,d,h⟩:=Ze h;cases h;obtain⟨b1,b2,b3⟩:=c _ _ _ _ d;have:=ZiH (fun h=>Zib e (.inl h));refine⟨⟨by decide,Yag _,fun _=>Yag _,fun _=>Yag _,Yd0 _,by decide,fun _=>b2,fun h=>by simp[nd0]at h,fun h=>absurd (show(3)<=2 from h) Om,fun _=>rfl,b1,trivial⟩,rfl,?_⟩;simp[wT,ownW,cw,nw,nd0]at *
   omega
  ·split at h
   ·exact ZsS c h
   ·split at h
    ·rename_i g f;have:=Zji f;obtain⟨b1,b2,b3⟩:=ZDn c (show g<=3 by simp[ZW]at this;omega) h
     simp_all;omega
    ·split at h
     ·rename_i o i;have:=Zji i;obtain⟨b1,b2,b3⟩:=ZDp (show o<=4 by simp[Z0]at this;omega) h
      simp_all;omega
     ·obtain⟨p,t1,d,h⟩:=Ze h;cases h;obtain⟨a1,a2,a3,a4,a5⟩:=Zkq d;simp only at a1 a2 a3 a4;refine⟨Zl6 Om Om ⟨by omega,by omega⟩,rfl,?_⟩;simp[Zbg,wT]at *
      omega
theorem Zfv:∀(n:Nat) (m:Bool) (lv:Nat) (a:Tr) (ts:List Tok) (deep:Nat) (z:Tr×List Tok),(m=true->wfT a/\isNil a=false)->Zs n m lv a ts deep=.ok z->wfT z.1/\isNil z.1=false/\wT z.1+tw z.2<=tw ts+(if m then wT a else 0)
 | 0,_,_,_,_,_,_,_,h=>by cases h
 | n + 1, false, lv, a, ts, deep, z, _, h => by
   have k : InvP (fun lv t d => Zs n false lv .nil t d) := fun lv t d z h => by
     obtain⟨g,i,r⟩:=Zfv n false lv .nil t d z (fun h=>(by cases h)) h
     simp_all
   unfold Zs at h;split at h
   · unfold Zb9 at h
     split at h
     · split at h
       · cases h
       · obtain⟨g,i,r⟩:=ZDo k h
         simp_all
     · cases h
   · obtain⟨b,t1,g,i⟩:=Ze h
     obtain⟨l1,l2,l3⟩:=k _ _ _ _ g;obtain⟨m1,m2,m3⟩:=Zfv n true lv b t1 deep z (fun _=>⟨l1,l2⟩) i
     simp_all;omega
 | n + 1, true, lv, a, ts, deep, z, s, h => by
   obtain⟨l,o⟩:=s rfl;unfold Zs at h;split at h
   · cases h;simp_all;omega
   · rename_i p e
     obtain⟨b,t1,g,i⟩:=Ze h;obtain⟨l1,l2,l3⟩:=Zfv n false _ _ _ _ _ (fun h=>(by cases h)) g
     have q:((p.1=4/\p.2<=3)∨(p.1=6/\p.2=0))/\tw ts.tail+30<=tw ts:=by
       have j:∀c,isT c (hd ts)=true->tw ts.tail+30<=tw ts:=fun c f=>by have:=ZiH (ts:=ts) (fun h=>Zib f (Or.inl h));omega
       unfold LS.opAt at e;split at e
       · split at e
         · rename_i f;cases e;exact⟨Or.inr ⟨rfl,rfl⟩,j _ f⟩
         simp_all
       · split at e
         · split at e
           · rename_i f;cases e;exact⟨Or.inl ⟨rfl,by decide⟩,j _ f⟩
           · split at e
             · rename_i f;cases e;exact⟨Or.inl ⟨rfl,by decide⟩,j _ f⟩
             simp_all
         · split at e
           · rename_i f;cases e;exact⟨Or.inl ⟨rfl,by decide⟩,j _ f⟩
           · split at e
             · rename_i f;cases e;exact⟨Or.inl ⟨rfl,by decide⟩,j _ f⟩
             simp_all
     obtain⟨w,v⟩:=q
     have u:wfT (.node 0 0 (nd0 p.1 p.2) a b):=by
       refine⟨?_,?_,?_,?_,Yd0 _,by constructor<;>omega,fun _=>o,fun _=>l2,?_,?_,l,l1⟩
       · show p.1<=6;omega
       · show p.2<=4;omega
       · intro h;show p.2<=3;omega
       · intro h;exact absurd (show p.1=5 from h) Om
       · intro h;exact absurd (show p.1<=2 from h) Om
       · intro h;exact absurd (show p.1=3∨p.1=5 from h) Om
     obtain⟨m1,m2,m3⟩:=Zfv n true lv _ t1 deep z (fun _=>⟨u,rfl⟩) i;refine⟨m1,m2,?_⟩;simp[wT,ownW,cw,nw,nd0]at l3 m3 ⊢;omega
theorem Zid(t:Tr):Zf t<=2:=by
 cases t with
 | nil=>decide
 | node x y a l r=>
  unfold Zf;have c:=Zid l;split
  ·decide
  ·split
   ·decide
   ·split
    ·exact c
    ·split
     ·split <;> decide
     ·split
      ·decide
      ·split <;> decide
theorem ZcV(a b:BA):bl (a++b)=bl a++bl b:=by simp[bl]
def dig(d:Nat):UInt8:=UInt8.ofNat (48+d)
def decS(n:Nat):LB:=if n<=9 then [dig n] else decS (n / 10)++[dig (n % 10)]
theorem Zh0{n:Nat}(h:n<=9):decS n=[dig n]:=by rw[decS,if_pos h]
theorem Zi6{n:Nat}(h:¬n<=9):decS n=decS (n / 10)++[dig (n % 10)]:=by rw[decS,if_neg h]
def opS(o:Nat):LB:=[[43],[45],[42],[47]].getD o []
def Zbv(a:Nd)(pl pr:Nat->LB):LB:=
 if a.jk=0 then decS a.n.toNat
 else if a.jk=1 then selS a
 else if a.jk=2 then Z0.getD a.op []++[40]++selS a++[91]++decS a.n.toNat++[93,41]
 else if a.jk=3 then [45]++pl 4
 else if a.jk=5 then ZW.getD a.op []++[32,98,121,32,40]++commas a.by_++[41,32,40]++pl 1++[41]
 else if a.jk=6 then pl 1++[32,111,114,32]++pr 2
 else pl (Zz a)++[32]++opS a.op++[32]++pr (Zz a+1)
def ZeK(b:Bool)(s:LB):LB:=if b then [40]++s++[41] else s
def Zu:Tr->Nat->LB
 | .nil,_=>[]
 | .node _ _ a l r,must=>ZeK (decide (Zz a<must)) (Zbv a (Zu l) (Zu r))
theorem ZhZ:∀(k n:Nat),n<10 ^ (k+1)->(decS n).length<=k+1
 | 0,n,h=>by rw[Zh0 Om];simp
 | k + 1, n, h => by
   by_cases a:n<=9
   · rw[Zh0 a];simp
   · rw[Zi6 a,Yab]
     have:=ZhZ k (n / 10) Om
     simp_all
theorem ZhX(a b:LB)(l:List (LB)):commas (a::b::l)=a++44::commas (b::l):=rfl
theorem ZeS:∀(l:List (LB)),(commas l).length<=nw l
 | []=>Yac _
 | [a]=>by simp[commas,nw]
 | a :: b :: l => by
   have:=ZeS (b::l);rw[ZhX,Yab,Yaj];simp only[nw]at *
   omega
theorem Zu8(c:LB×LB×Bool):(Z8 c).length<=c.1.length+c.2.1.length+4:=by
 unfold Z8;split <;> simp <;> omega
theorem Zmv:∀(l:List (LB×LB×Bool)),nw (l.map Z8)<=cw l
 | []=>Yac _
 | c :: l => by
   have:=Zmv l;have:=Zu8 c;simp only[Ybb,nw,cw];omega
theorem Zr7(a:Nd):(selS a).length<=a.name.length+cw a.ku+2:=by
 unfold selS;split
 ·omega
 ·have c:=ZeS (a.ku.map Z8);have d:=Zmv a.ku
  simp_all;omega
theorem Zh5(a:List (LB))(h:∀x∈a,x.length<=5)(i:Nat):(a.getD i []).length<=5:=by
 rw[Yaa];cases c:a[i]? with
 | none=>simp
 | some x=>exact h x (Ycq c)
theorem Zow{a:Nd}(h:a.n<=1000000000){pl pr:Nat->LB}{x y:Nat}(c:∀m,(pl m).length<=x)(d:∀m,(pr m).length<=y):(Zbv a pl pr).length+2<=ownW a+x+y:=by
 have e:a.n.toNat<=1000000000:=by omega
 have f:(10) ^ 10=10000000000:=by decide
 have hd:(decS a.n.toNat).length<=10:=ZhZ 9 _ Om;have i:=Zr7 a;have j:=ZeS a.by_;have k:=Zh5 Z0 Dc a.op;have l:=Zh5 ZW Dc a.op;have g:=Zh5 [[43],[45],[42],[47]] Dc a.op;have l1:=c 1;have l4:=c 4;have lt:=c (Zz a);have r2:=d 2;have rt:=d (Zz a+1);unfold Zbv ownW;split
 ·omega
 ·split
  ·omega
  ·split
   ·simp_all;omega
   ·split
    ·simp;omega
    ·split
     ·simp only[Yab,Yaj,Ybq];omega
     ·split
      ·simp;omega
      ·unfold opS;simp only[Yab,Yaj,Ybq];omega
theorem ZEX(b:Bool)(s:LB):(ZeK b s).length<=s.length+2:=by
 unfold ZeK;split<;>simp
theorem Zfy:∀(t:Tr) (m:Nat),wfT t->(Zu t m).length<=wT t
 | .nil,_,_=>Yac _
 | .node x y a l r, m, h => by
   have c:=Zfy l;have d:=Zfy r;have e:=Zow h.2.2.2.2.2.1 (fun m=>c m h.2.2.2.2.2.2.2.2.2.2.1) (fun m=>d m h.2.2.2.2.2.2.2.2.2.2.2);have f:=ZEX (decide (Zz a<m)) (Zbv a (Zu l) (Zu r));unfold Zu wT;omega
theorem Zlc(l:List (LB))(a:LB):commas (l++[a])=(if l.isEmpty then [] else commas l++[44])++a:=by
 induction l with
 | nil=>rfl
 | cons b l ih=>
  cases l with
  | nil=>simp[commas]
  | cons c l=>
   have e:commas (b::c::l++[a])=b++44::commas (c::l++[a]):=rfl;rw[e,ih];simp[commas]
def Zey(l:LB):LB×Nat×Nat:=match ZD l with
 | .error x=>([],x.1,x.2)
 | .ok t=>(Zu t 1,0,0)
end Go.Proofs.YtcdgkkfipdoeeaaGreatDoor
namespace Go.Proofs.YtcdgkkfipdoeeaaGreatDoor.LS
open Go Go.RowKit
abbrev Lab:=LB×LB
abbrev El:=List Lab×Int
structure Ser where
 name:LB
 labs:List Lab
 jn:List (Int×Int)
abbrev VV:=Int ⊕ List El
def lab1(p:Lab):LB:=p.1++[61]++p.2
def wrt(l:List Lab):LB:=Go.Proofs.YtcdgkkfipdoeeaaGreatDoor.LS.commas (l.map lab1)
def cutV(n:Int):Int:=if 1000000000<n then 1000000000 else if n < -1000000000 then -1000000000 else n
def Zcd:List El->El->List El
 | [],x=>[x]
 | y::l,x=>if Op.bytesLess (wrt x.1) (wrt y.1)then x::y::l else y::Zcd l x
def ZeI:List Lab->LB->LB
 | [],_=>[]
 | p::l,n=>if p.1=n then p.2 else ZeI l n
def ZfW(s:Ser)(c:LB×LB×Bool):Bool:=!((decide (ZeI s.labs c.1=c.2.1)) == c.2.2)
def Zc1(a:Nd)(s:Ser):Bool:=a.ku.all (ZfW s) && decide (a.name=s.name)
def Zb6(l:List (Int×Int))(n t:Int):List (Int×Int):=l.filter fun x=>decide (t - n<x.1) && decide (x.1<=t)
def maxL:Int->List Int->Int
 | m,[]=>m
 | m,x::l=>maxL (if m<x then x else m) l
def minL:Int->List Int->Int
 | m,[]=>m
 | m,x::l=>minL (if x<m then x else m) l
def ZfI(op:Nat)(l:List Int):Int:=
 if op=0 then l.sum else if op=1 then maxL (l.headD 0) l else if op=2 then minL (l.headD 0) l else if op=3 then (l.length:Int)else l.getLastD 0 - l.headD 0
def oneV(op:Option Nat)(l:List (Int×Int)):Int:=match op with
 | none=>(l.getLastD (0,0)).2
 | some o=>cutV (ZfI o (l.map (·.2)))
def Zc4(st:List Ser)(a:Nd)(op:Option Nat)(size t:Int):List El:=
 st.foldl (fun acc s=>if Zc1 a s && !(Zb6 s.jn size t).isEmpty then Zcd acc (s.labs,oneV op (Zb6 s.jn size t))else acc) []
def twoV(op:Nat)(a b:Int):Int:=if op=0 then cutV (a+b)else if op=1 then cutV (a - b)else if op=2 then cutV (a*b)else if b=0 then 0 else a.tdiv b
def Zdg(op:Nat):VV->VV->VV
 | .inl a,.inl b=>.inl (twoV op a b)
 | .inl a,.inr y=>.inr (y.map fun e=>(e.1,twoV op a e.2))
 | .inr x,.inl b=>.inr (x.map fun e=>(e.1,twoV op e.2 b))
 | .inr x,.inr y=>.inr (x.flatMap fun e=>(y.filter fun f=>decide (wrt e.1=wrt f.1)).map fun f=>(e.1,twoV op e.2 f.2))
def negV:VV->VV
 | .inl a=>.inl (-a)
 | .inr x=>.inr (x.map fun e=>(e.1,-e.2))
def ZB(l:List Lab)(by_:List (LB)):List Lab:=l.filter fun p=>by_.contains p.1
def ZcF(op:Nat)(by_:List (LB))(all:List El):List El->List El->List El
 | _,[]=>[]
 | pre,e::l=>(if pre.any (fun f=>decide (wrt (ZB f.1 by_)=wrt (ZB e.1 by_)))then [] else [(ZB e.1 by_,cutV (ZfI op ((all.filter fun f=>decide (wrt (ZB f.1 by_)=wrt (ZB e.1 by_))).map (·.2))))])++ZcF op by_ all (pre++[e]) l
def Zcv(op:Nat)(by_:List (LB))(l:List El):List El:=(ZcF op by_ l [] l).foldl Zcd []
def Zcm:VV->List El
 | .inl _=>[]
 | .inr l=>l
def sayT(st:List Ser)(t:Int):Tr->VV
 | .nil=>.inr []
 | .node _ _ a l r => if a.jk = 0 then .inl a.n else if a.jk = 1 then .inr (Zc4 st a none 10 t) else if a.jk = 2 then .inr (Zc4 st a (some a.op) a.n t)
   else if a.jk=3 then negV (sayT st t l)else if a.jk=5 then .inr (Zcv a.op a.by_ (Zcm (sayT st t l)))
   else if a.jk=6 then (if (Zcm (sayT st t l)).isEmpty then sayT st t r else sayT st t l)else Zdg a.op (sayT st t l) (sayT st t r)
def decI(n:Int):LB:=if n<0 then [45]++decS n.natAbs else decS n.toNat
def elS(e:El):LB:=[32,123]++wrt e.1++[125]++decI e.2
def Zel(t:Int):VV->LB
 | .inl n=>decI t++[32]++decI n
 | .inr l=>decI t++(l.map elS).flatten
end Go.Proofs.YtcdgkkfipdoeeaaGreatDoor.LS
namespace Go.Proofs.YtcdgkkfipdoeeaaGreatDoor
open Go.RowKit LS Go.Proofs.Tryz
def winT:Tr->Prop
 | .nil=>True
 | .node _ _ a l r=>(a.jk=2->1<=a.n/\a.n<=1000)/\winT l/\winT r
def InvW(rec:Nat->List Tok->Nat->Out Tr):Prop:=∀lv t d z,rec lv t d=.ok z->winT z.1
theorem Zl7{a:Nd}(h:a.jk=2->1<=a.n/\a.n<=1000):winT (Zbg a):=⟨h,trivial,trivial⟩
theorem ZEC{o:Nat}{ts:List Tok}{z:Tr×List Tok}(h:winP o ts=.ok z):winT z.1:=by
 unfold winP at h;obtain⟨_,t1,d,h⟩:=Ze h;obtain⟨p,t2,e,h⟩:=Ze h;obtain⟨_,t3,f,h⟩:=Ze h;obtain⟨m,t4,a,h⟩:=Ze h;obtain⟨_,t5,g,h⟩:=Ze h;obtain⟨_,t6,i,h⟩:=Ze h;cases h
 have a4:1<=m/\m<=1000:=by
  unfold Zc2 at a;split at a
  ·rename_i c;injection a with a;injection a with a h4';subst a;exact⟨c.2,(Zmr).2⟩
  ·cases a
 exact Zl7 (fun _=>a4)
theorem Zs5{rec:Nat->List Tok->Nat->Out Tr}(c:InvW rec){ts:List Tok}{deep:Nat}{z:Tr×List Tok}(h:Zbu rec ts deep=.ok z):winT z.1:=by
 unfold Zbu at h;obtain⟨_,t1,e,h⟩:=Ze h;obtain⟨a,t2,d,h⟩:=Ze h;obtain⟨_,t3,f,h⟩:=Ze h;cases h;show winT a;exact c _ _ _ _ d
theorem ZEA{rec:Nat->List Tok->Nat->Out Tr}(c:InvW rec){g:Nat}{ts:List Tok}{deep:Nat}{z:Tr×List Tok}(h:Zcb rec g ts deep=.ok z):winT z.1:=by
 unfold Zcb at h;obtain⟨_,t1,e,h⟩:=Ze h;obtain⟨_,t2,f,h⟩:=Ze h;obtain⟨ns,t3,i,h⟩:=Ze h;obtain⟨a,t4,d,h⟩:=Ze h;cases h;exact⟨fun h=>absurd (show(5)=2 from h) Dc,Zs5 c d,trivial⟩
theorem ZEB{rec:Nat->List Tok->Nat->Out Tr}(c:InvW rec){ts:List Tok}{deep:Nat}{z:Tr×List Tok}(h:Zbw rec ts deep=.ok z):winT z.1:=by
 unfold Zbw at h;split at h
 ·cases h;exact Zl7 (fun h=>absurd (show(0)=2 from h) Dc)
 ·split at h
  ·obtain⟨a,t1,d,h⟩:=Ze h;cases h;exact⟨fun h=>absurd (h) Dc,c _ _ _ _ d,trivial⟩
  ·split at h
   ·exact Zs5 c h
   ·split at h
    ·exact ZEA c h
    ·split at h
     ·exact ZEC h
     ·obtain⟨p,t1,d,h⟩:=Ze h;cases h;obtain⟨a1,a2,a3,a4,a5⟩:=Zkq d;simp only at a2;exact Zl7 (fun h=>absurd (a2.symm.trans h) Dc)
theorem Zip:∀(n:Nat) (m:Bool) (lv:Nat) (a:Tr) (ts:List Tok) (deep:Nat) (z:Tr×List Tok),(m=true->winT a)->Zs n m lv a ts deep=.ok z->winT z.1
 | 0,_,_,_,_,_,_,_,h=>by cases h
 | n + 1, false, lv, a, ts, deep, z, _, h => by
   have g:InvW (fun lv t d=>Zs n _ _ _ t d):=fun lv t d z h=>Zip n false lv .nil t d z (fun h=>(by cases h)) h;unfold Zs at h;split at h
   · unfold Zb9 at h
     split at h
     · split at h
       · cases h
       · exact ZEB g h
     · cases h
   · obtain⟨b,t1,e,f⟩:=Ze h
     exact Zip n _ _ b _ _ z (fun _=>g _ _ _ _ e) f
 | n + 1, true, lv, a, ts, deep, z, j, h => by
   unfold Zs at h;split at h
   · cases h;simp_all
   · rename_i p c
     obtain⟨b,t1,e,f⟩:=Ze h;have l1:=Zip n false _ _ _ _ _ (fun h=>(by cases h)) e;refine Zip n _ _ (.node 0 0 _ a b) _ _ z (fun _=>⟨fun k=>?_,j rfl,l1⟩) f;unfold LS.opAt at c
     exfalso
     have i:p.1=2:=k
     repeat (first|(split at c)|(cases c;exact absurd i Dc)|cases c)
theorem ZBk{l:LB}{t:Tr}(h:ZD l=.ok t):winT t/\Zf t≠0:=by
 unfold ZD at h;split at h
 ·cases h
 ·split at h
  ·cases h
  ·rename_i t' r a;split at h
   ·split at h
    ·cases h
    ·cases h;rename_i c;exact⟨(Zip _ false _ _ _ _ _ (fun h=>(by cases h)) a),c⟩
   ·cases h
def ZdN:VV->Bool
 | .inl _=>false
 | .inr _=>true
theorem ZtO(op:Nat)(a b:VV):ZdN (Zdg op a b)=(ZdN a || ZdN b):=by cases a <;> cases b <;> rfl
theorem Zj7(st:List Ser)(tm:Int):∀t:Tr,wfT t->isNil t=false->Zf t≠0->ZdN (sayT st tm t)=decide (Zf t=2)
 | .nil,_,h,_=>by cases h
 | .node x y a l r, v, _, c => by
   obtain⟨C,z,D,E,F,G,m,w,H,B,A,wr⟩:=v;have i:=Zj7 st tm l A;have n:=Zj7 st tm r wr;unfold Zf at c ⊢;unfold sayT;by_cases o:a.jk=0
   · split<;>rfl
   rw[if_neg o]at c ⊢;rw[if_neg o];by_cases d:a.jk=1
   · rw[if_pos d,if_pos (Or.inl d)];rfl
   by_cases j:a.jk=2
   · rw[if_neg d,if_pos j,if_pos (Or.inr j)];rfl
   rw[if_neg (show ¬(a.jk=1∨a.jk=2) by omega)]at c ⊢;rw[if_neg d,if_neg j];by_cases e:a.jk=3
   · rw[if_pos e]at c ⊢
     rw[if_pos e,<-i (m Om) c];cases sayT st tm l <;> rfl
   rw[if_neg e]at c ⊢;rw[if_neg e];by_cases f:a.jk=5
   · rw[if_pos f]at c ⊢
     rw[if_pos f];by_cases I:Zf l=2
     · split<;>rfl
     simp_all
   rw[if_neg f]at c ⊢;rw[if_neg f];have p:=w Om;have q:=m Om;by_cases g:Zf l=0∨Zf r=0∨(a.jk=6/\Zf l+Zf r≠4)
   · simp_all
   rw[if_neg g]at c ⊢;have s:Zf l≠0:=fun h=>g (Or.inl h);have u:Zf r≠0:=fun h=>g (Or.inr (Or.inl h));have kl:=Zid l;have kr:=Zid r;have il:=i q s;have ir:=n p u;by_cases k:a.jk=6
   · have J:Zf l+Zf r=4:=by
       refine Yb6 fun h=>g (Or.inr (Or.inr ⟨k,h⟩))
     rw[if_pos k,if_neg (show ¬Zf l+Zf r=2 by omega)];split
     · simp_all;omega
     simp_all;omega
   · rw[if_neg k,ZtO,il,ir]
     split
     · simp;omega
     simp;omega
theorem ZcL:∀x:LB,Op.bytesLess x x=false
 | []=>rfl
 | a :: x => by
   have h:=UInt8.lt_irrefl a;simp[Op.bytesLess,ZcL x,h]
theorem Zdv:∀x y z:LB,Op.bytesLess x y=true->Op.bytesLess y z=true->Op.bytesLess x z=true
 | x,y,[],_,h=>by cases y <;> simp[Op.bytesLess]at h
 | x,[],c::z,h,_=>by cases x <;> simp[Op.bytesLess]at h
 | [],b::y,c::z,_,_=>rfl
 | a :: x, b :: y, c :: z, e, d => by
   simp only[Op.bytesLess,Yct,decide_eq_true_eq,Yas,beq_iff_eq]at e d ⊢;rcases e with e|⟨rfl,e⟩
   · rcases d with d|⟨rfl,d⟩
     · exact .inl (UInt8.lt_trans e d)
     simp_all
   · rcases d with d|⟨rfl,d⟩
     · simp_all
     · exact .inr ⟨rfl,Zdv x y z e d⟩
theorem Zdh:∀x y:LB,Op.bytesLess x y=false->Op.bytesLess y x=false->x=y
 | [],[],_,_=>rfl
 | [],b::y,h,_=>by simp[Op.bytesLess]at h
 | a::x,[],_,h=>by simp[Op.bytesLess]at h
 | a :: x, b :: y, c, d => by
   simp only[Op.bytesLess,Bool.or_eq_false_iff,decide_eq_false_iff_not,Bool.and_eq_false_iff,beq_eq_false_iff_ne]at c d
   have f:a=b:=by
     have k1:¬a.toNat<b.toNat:=fun h=>c.1 (Yfp.2 h);have k2:¬b.toNat<a.toNat:=fun h=>d.1 (Yfp.2 h);exact Ydf.1 Om
   subst f;have e:=Zdh x y (c.2.resolve_left (fun h=>h rfl)) (d.2.resolve_left (fun h=>h rfl));rw[e]
def lt1(a b:El):Prop:=Op.bytesLess (wrt a.1) (wrt b.1)=true
def Srt(l:List El):Prop:=l.Pairwise lt1
theorem ZmO(l:List El)(x z:El):z∈Zcd l x ↔ z=x∨z∈l:=by
 induction l with
 | nil=>simp[Zcd]
 | cons y l ih=>
  rw[Zcd];split
  ·simp
  ·rw[Yau,ih,Yau];constructor
   ·rintro(h|h|h)
    ·simp_all
    ·simp_all
    simp_all
   ·rintro(h|h|h)
    ·simp_all
    ·simp_all
    simp_all
theorem ZAJ(l:List El)(x:El):(Zcd l x).length=l.length+1:=by
 induction l with
 | nil=>rfl
 | cons y l ih=>
  rw[Zcd];split<;>simp_all
theorem ZAK(l:List El)(x:El)(h:Srt l)(d:∀y∈l,wrt y.1≠wrt x.1):Srt (Zcd l x):=by
 induction l with
 | nil=>constructor<;>simp_all
 | cons y l ih=>
  obtain⟨e,f⟩:=Ybg.1 h;rw[Zcd];split
  ·rename_i a;refine Ybg.2 ⟨fun z c=>?_,h⟩;rcases Yau.1 c with rfl|c
   ·exact a
   ·exact Zdv _ _ _ a (e z c)
  ·rename_i a;refine Ybg.2 ⟨fun z c=>?_,ih f (fun y g=>d y (Yam _ g))⟩;rcases(ZmO l x z).1 c with rfl|c
   ·unfold lt1;cases i:Op.bytesLess (wrt y.1) (wrt z.1)with
    | true=>rfl
    | false=>exact absurd (Zdh _ _ i (Yce.2 a)) (d y (Yay ..))
   simp_all
theorem Zh4 (L : List El) : ∀ acc : List El, Srt acc -> (L.Pairwise fun a b => wrt a.1 ≠ wrt b.1) -> (∀ y ∈ acc, ∀ x ∈ L, wrt y.1 ≠ wrt x.1) ->
    Srt (L.foldl Zcd acc)/\(L.foldl Zcd acc).length=acc.length+L.length/\∀z,z∈L.foldl Zcd acc ↔ z∈acc∨z∈L:=by
  induction L with
  | nil=>simp
  | cons x L ih=>
    intro acc h e hd;obtain⟨f,g⟩:=Ybg.1 e
    obtain ⟨k1, k2, k3⟩ := ih (Zcd acc x) (ZAK acc x h (fun y c => hd y c x (Yay ..))) g (fun y c z d => by
      rcases(ZmO acc x y).1 c with rfl|c
      · exact f z d
      · exact hd y c z (Yam _ d))
    refine⟨k1,by rw[Ybp,k2,ZAJ,Yaj];omega,fun z=>?_⟩;rw[Ybp,k3,ZmO,Yau];constructor
    · rintro((h|h)|h)
      · simp_all
      · simp_all
      simp_all
    · rintro(h|h|h)
      · simp_all
      · simp_all
      simp_all
def Dst(st:List Ser):Prop:=st.Pairwise fun s r=>¬(s.name=r.name/\wrt s.labs=wrt r.labs)
def ZeZ(st:List Ser)(a:Nd)(op:Option Nat)(size t:Int):List El:=(st.filter fun s=>Zc1 a s && !(Zb6 s.jn size t).isEmpty).map fun s=>(s.labs,oneV op (Zb6 s.jn size t))
theorem Zny(st:List Ser)(a:Nd)(op:Option Nat)(size t:Int):Zc4 st a op size t=(ZeZ st a op size t).foldl Zcd []:=by
 unfold Zc4 ZeZ;generalize([]:List El)=acc
 induction st generalizing acc with
 | nil=>rfl
 | cons s st ih=>
  rw[Ybp];split<;>simp_all
theorem ZmN {st : List Ser} (h : Dst st) (a : Nd) (op : Option Nat) (size t : Int) : (ZeZ st a op size t).Pairwise fun x y => wrt x.1 ≠ wrt y.1 := by
  unfold ZeZ;rw[Ybx];refine Ycx ?_ (h.filter _);intro s r c d e f;have n1:=(Ycg.1 c).2;have n2:=(Ycg.1 d).2;simp only[Yas,Zc1,decide_eq_true_eq]at n1 n2
  simp_all
def VOk(n:Nat):VV->Prop
 | .inl _=>True
 | .inr l=>Srt l/\l.length<=n
theorem Zkx{st:List Ser}(h:Dst st)(a:Nd){op:Option Nat}{size t:Int}:VOk st.length (.inr (Zc4 st a op size t)):=by
 rw[Zny];obtain⟨c,d,_⟩:=Zh4 (ZeZ st a op size t) [] List.Pairwise.nil (ZmN h a op size t) (by simp);refine⟨c,?_⟩;rw[d];unfold ZeZ;rw[Yak];have:=Ydj (fun s=>Zc1 a s && !(Zb6 s.jn size t).isEmpty) st
 simp_all
theorem Zmi{l:List El}(h:Srt l){f:El->El}(d:∀e,(f e).1=e.1):Srt (l.map f):=by
 unfold Srt;rw[Ybx];exact h.imp (fun {a b} c=>by unfold lt1 at *;simp_all)
theorem Zv5 {y : List El} (h : Srt y) (k : LB) : y.filter (fun f => decide (k = wrt f.1)) = (y.find? fun f => decide (k = wrt f.1)).toList := by
  induction y with
  | nil=>rfl
  | cons e y ih=>
    obtain⟨c,d⟩:=Ybg.1 h;by_cases g:k=wrt e.1
    · rw[Yda (by simp_all),List.find?_cons_of_pos (by simp_all)]
      have : y.filter (fun f => decide (k = wrt f.1)) = [] := by
        rw[Yc1];intro f i j;have a:=c f i;unfold lt1 at a;rw[<-g,of_decide_eq_true j,ZcL]at a;cases a
      rw[this];rfl
    · rw[Ydb (by simp_all),List.find?_cons_of_neg (by simp_all)]
      exact ih d
theorem Zwf {α β : Type} (f : α -> Option β) (l : List α) : l.flatMap (fun a => (f a).toList) = l.filterMap f := by
  induction l with
  | nil=>rfl
  | cons a l ih=>
    rw[Ycd,ih,Yef];cases f a <;> rfl
def vvF(op:Nat)(y:List El)(e:El):Option El:=(y.find? fun f=>decide (wrt e.1=wrt f.1)).map fun f=>(e.1,twoV op e.2 f.2)
theorem ZnU(op:Nat)(x y:List El)(a:Srt y):Zdg op (.inr x) (.inr y)=.inr (x.filterMap (vvF op y)):=by
 have h : ∀ e : El, (y.filter _).map (fun f => (e.1, twoV _ _ _)) = (vvF op y e).toList := fun e => by
   rw[Zv5 a];unfold vvF;cases y.find? (fun f=>decide (wrt e.1=wrt f.1)) <;> rfl
 show Sum.inr (x.flatMap fun e=>(y.filter fun f=>decide (wrt e.1=wrt f.1)).map fun f=>(e.1,twoV op e.2 f.2))=_;rw[<-Zwf,funext h]
theorem ZEy{op:Nat}(x y:List El)(i:Srt x):Srt (x.filterMap (vvF op y)):=by
 unfold Srt;rw[List.pairwise_filterMap];refine i.imp ?_;intro a b h c e d hd;unfold vvF at e hd;cases j:y.find? (fun f=>decide (wrt a.1=wrt f.1))with
 | none=>simp_all
 | some f=>
  cases k:y.find? (fun f=>decide (wrt b.1=wrt f.1))with
  | none=>simp_all
  | some g=>
   rw[j]at e;rw[k]at hd;cases e;cases hd;exact h
theorem ZnT{op n:Nat}{a b:VV}(c:VOk n a)(d:VOk n b):VOk n (Zdg op a b):=by
 cases a with
 | inl a=>
  cases b with
  | inl b=>trivial
  | inr y=>exact⟨Zmi d.1 (fun _=>rfl),by rw[Yak];exact d.2⟩
 | inr x=>
  cases b with
  | inl b=>exact⟨Zmi c.1 (fun _=>rfl),by rw[Yak];exact c.2⟩
  | inr y=>
   rw[ZnU _ x y d.1];exact⟨ZEy x y c.1,Yah (List.length_filterMap_le _ _) c.2⟩
theorem Zrc{n:Nat}{a:VV}(c:VOk n a):VOk n (negV a):=by
 cases a with
 | inl a=>trivial
 | inr x=>exact⟨Zmi c.1 (fun _=>rfl),by rw[Yak];exact c.2⟩
theorem ZlD (op : Nat) (bs : List (LB)) (all : List El) : ∀ (l pre : List El), ((ZcF op bs all pre l).Pairwise fun x y => wrt x.1 ≠ wrt y.1) /\ (ZcF op bs all pre l).length <= l.length /\ ∀ x ∈ ZcF op bs all pre l, ∀ f ∈ pre, wrt (ZB f.1 bs) ≠ wrt x.1
  | [],pre=>⟨List.Pairwise.nil,Yac _,by simp[ZcF]⟩
  | e :: l, pre => by
    obtain⟨g,i,d⟩:=ZlD op bs all l (pre++[e]);rw[ZcF];split
    · refine⟨by assumption,by simp;omega,fun x a f c=>d x (by assumption) f (Yc7 _ c)⟩
    · rename_i h
      refine⟨?_,by simp_all,?_⟩
      · rw[Yd6,Ybg]
        exact⟨fun x a=>d x a e (by simp),g⟩
      · intro x a f c
        rw[Yd6,Yau]at a;rcases a with rfl|a
        · intro j
          exact h (Ycz.2 ⟨f,c,by simp_all⟩)
        · exact d x a f (Yc7 _ c)
theorem ZpK{op:Nat}{bs:List (LB)}{n:Nat}{l:List El}(h:l.length<=n):VOk n (.inr (Zcv op bs l)):=by
 obtain⟨a,c,_⟩:=ZlD op bs l l [];obtain⟨k1,k2,_⟩:=Zh4 (ZcF op bs l [] l) [] List.Pairwise.nil a (by simp);exact⟨k1,by show(List.foldl Zcd [] _).length<=n;simp_all;omega⟩
theorem ZoS{n:Nat}{v:VV}(h:VOk n v):(Zcm v).length<=n:=by
 cases v with
 | inl _=>exact Yag _
 | inr l=>exact h.2
theorem Zj8{st:List Ser}(h:Dst st)(tm:Int):∀t:Tr,VOk st.length (sayT st tm t)
 | .nil=>⟨List.Pairwise.nil,Yag _⟩
 | .node x y a l r => by
   have il:=Zj8 h tm l;have ir:=Zj8 h tm r;unfold sayT;split
   · trivial
   split
   · exact Zkx h a
   split
   · exact Zkx h a
   split
   · exact Zrc il
   split
   · exact ZpK (ZoS il)
   split
   · split<;>omega
   · exact ZnT il ir
end Go.Proofs.YtcdgkkfipdoeeaaGreatDoor

/- Parts. -/
import Derived.Test.YtcdgkkfipdoeeaaGreatDoorU27
set_option linter.all false
set_option maxRecDepth 100000
set_option maxHeartbeats 16000000
namespace Go.Proofs.YtcdgkkfipdoeeaaGreatDoor
open Go.RowKit LS Go.Proofs.Tryz
variable {m:Int}{A:Nat->Addr}{err:Value}{w:World}
theorem LookP.mk'{c:CodeQ}{l:LB}{a0 a1 a2 a3:Option Addr}{n0 n1 n2 n3 e0 e1 e2 e3:Nat}(j:Vars w A m)(k:20<=w.heap.size)(n:CodV w c (.agg #[.slice a0 n0 e0,.slice a1 n1 e1,.slice a2 n2 e2,.slice a3 n3 e3]))(i:Zb7 l=.ok c) :
  (n0=c.jj.length/\n1=c.ju.length/\n2=c.jw.length/\n3=c.jq.length)/\LookP w A m c a0 a1 a2 a3 e0 e1 e2 e3:=by
 obtain⟨cv,pv,gv,iv,e,h⟩:=n;injection e with e;injection e with e;simp only[List.cons.injEq,and_true]at e;obtain⟨rfl,rfl,rfl,rfl⟩:=e;obtain⟨b0,f0,a⟩:=h.cs.shape;obtain⟨b1,f1,d⟩:=h.ps.shape;obtain⟨b2,f2,f⟩:=h.gs.shape;obtain⟨b3,f3,g⟩:=h.is.shape;injection a with _ a _;injection d with _ d _;injection f with _ f _;injection g with _ g _;subst a d f g;exact⟨⟨rfl,rfl,rfl,rfl⟩,j,k,h,(Zll i).1,(Zll i).2⟩
theorem ZqK(s:BA)(A:Nat->Addr)(m:Int)(w:World)(hv:Vars w A m)(ht:ZR w)(K:20<=w.heap.size)(hs:s.size<=maxLen) :
  CP 22 #[.string s] w fun e u=>∃v n err,e=.returned (.tuple #[v,n,err])/\Hid (Zcj u A (ZcR (bl s)) v n err)/\CodZ v/\BW w u:=by
 have N:=hid (fun W z=>ZAU s A m W (hv.below z) (ht.low z K) (Nat.le_trans K z.size) hs);have HV:=hid hv;have a6:=hid K;clear hv ht K hs;go_enter func22,ntmps22
 go_wp2_with fail
 refine Zm fun W L=>?_;have O:Below _ w W:=L▸Zbal.alloc (by simp) _;have P:Hid (BAt W _ _ 59):=L▸(Zbal.block _ (by simp)).trans (Go.Deep.blk_alloc_new _ _)
 have Q:Hid (BAt W (w.heap.size+1) [Vi 0,Vi 0] 31):=by
  rw[L];have:=Go.Deep.blk_alloc_new (w.alloc (.cells #[S0,S0,S0,S0] 59)) (.cells #[Vi 0,Vi 0] 31);rwa [Go.Deep.nblk_alloc]at this
 have B:=hid O;clear L O;refine(N W B).mono ?_;rintro e r ⟨v,err,rfl,G,C⟩;have j:=hid (B.trans (C.mono B.size));have a:=hid (P.below C);have g:=hid (Q.below C);clear C P Q B;cases hd:Zb7 (bl s)with
 | error x=>
  have l:Hid (ZcR _=.error x):=hid (by unfold ZcR;rw[hd])
  have H:Hid (BadV r A x err):=by
   have h:=G.out;rw[hd]at h;rcases h.2 with h|h
   ·exact .inl ⟨h.1,h.2.pl⟩
   ·exact .inr (.inl h)
  obtain rfl:=by
   have h:=G.out;rw[hd]at h;exact h.1
  have t:Hid (Zcj _ A _ (.agg #[S0,S0,S0,S0]) _ _):=hid (Zcj.qq l ⟨rfl,H⟩);have d:=hid (Zrs t j (Nat.le_refl _) (Nat.le_add_right _ _) Om a g S0 S0 S0 S0 (Vi 0) (Vi 0));have a4:=a.lt;have a5:=g.lt;have f0:=a.frozen 0;have f1:=a.frozen 1;have f2:=a.frozen 2;have f3:=a.frozen 3;have c0:=a.cell 0;have c1:=a.cell 1;have c2:=a.cell 2;have c3:=a.cell 3;have i0:=g.frozen 0;have i1:=g.frozen 1;have j0:=g.cell 0;have j1:=g.cell 1;simp only[Zget]at c0 c1 c2 c3 j0 j1;have a7:=H.shape;clear G hd H l t;rcases a7 with ⟨fa,rfl⟩|rfl
  all_goals
   go_wp2;change bodyPost _ _ _ _ _ ((set2 (set4 r w.heap.size S0 S0 S0 S0) (w.heap.size+1) (Vi 0) (Vi 0)).alloc (.cells #[S0,S0,S0,S0] 59));clear f0 f1 f2 f3 c0 c1 c2 c3 i0 i1 j0 j1;generalize set2 (set4 r w.heap.size S0 S0 S0 S0) (w.heap.size+1) (Vi 0) (Vi 0)=WY at *
   have i:Below _ _ (WY.alloc (.cells #[S0,S0,S0,S0] 59)):=Zbal;have D:=hid (d.ob.trans (i.mono d.ob.size));have E:=hid (d.oc.below i);have sx:=d.ox.below i;have sy:=d.oy.below i;have s0:=sx.cell 0;have s1:=sx.cell 1;have s2:=sx.cell 2;have s3:=sx.cell 3;have t0:=sy.cell 0;have t1:=sy.cell 1;simp only[Zget]at s0 s1 s2 s3 t0 t1;generalize WY.alloc (.cells #[S0,S0,S0,S0] 59)=WX at *
  ·exact bodyPost_ret (by simp[results,results22,go_sem,s0,s1,s2,s3,t0,t1]) rfl ⟨_,_,_,rfl,E,⟨_,_,_,_,_,_,_,_,_,_,_,_,rfl⟩,D⟩
  ·exact bodyPost_ret (by simp[results,results22,go_sem,s0,s1,s2,s3,t0,t1]) rfl ⟨_,_,_,rfl,E,⟨_,_,_,_,_,_,_,_,_,_,_,_,rfl⟩,D⟩
 | ok c=>
  obtain⟨rfl,F⟩:=by
   have h:=G.out;rw[hd]at h;exact h
  obtain⟨a0,a1,a2,a3,n0,n1,n2,n3,e0,e1,e2,e3,rfl⟩:=F.shape;have R:=hid F
  have S : Hid (∀ W, BW r W -> CP 39 #[.agg #[.slice a0 n0 e0, .slice a1 n1 e1, .slice a2 n2 e2, .slice a3 n3 e3]] W fun e u => ∃ v err, e = .returned (.tuple #[v, err]) /\ Hid (ZeN u A (ZcT c) v err) /\ BW W u) := hid (fun W z => by
    obtain⟨⟨rfl,rfl,rfl,rfl⟩,hp⟩:=LookP.mk' (HV.below ((j.trans (z.mono j.size)))) (Nat.le_trans a6.out (Nat.le_trans j.size z.size)) (F.below z) hd;exact ZyD W A m c a0 a1 a2 a3 e0 e1 e2 e3 hp)
  have l:Hid (ZcR (bl s)=match ZcT c with|.error e=>.error e|.ok x=>.ok (c,x)):=by unfold ZcR;rw[hd];rfl
  have a4:=a.lt;have a5:=g.lt;clear G hd F
  go_wp2_with fail
  refine Zm fun W2 I=>?_;have o:Below _ _ _:=I▸Zbal;have T:Hid (BAt _ _ [.slice _ _ _,.slice _ _ _,.slice _ _ _,.slice _ _ _] 59):=I▸Go.Deep.blk_alloc_new _ _;have J:=hid (j.trans (o.mono j.size));have U:=hid (a.below o);have V:=hid (g.below o);have X:=hid (R.below o);clear I a g R j;refine(S _ o).mono ?_;rintro e w3 ⟨nv,er,rfl,Y,p⟩;have a8:=hid (J.trans (p.mono J.size));have f:=hid (U.below p);have k:=hid (V.below p);have q:=hid (T.below p);have Z:=hid (X.below p);clear o p U V T X J S N
  obtain⟨mm,sn,rfl,t⟩:∃(mm sn:Nat),nv=.agg #[.int _ mm,.int _ sn]/\Hid (Zcj _ A (ZcR _) _ (.agg #[.int _ mm,.int _ sn]) er):=by
   have h:=Y.out;cases M:ZcT c with
   | ok x=>
    rw[M]at h;obtain⟨rfl,rfl⟩:=h;exact⟨_,_,rfl,hid (Zcj.mkOk (by rw[l,M]) ⟨Z.out,rfl,rfl⟩)⟩
   | error x=>
    rw[M]at h;obtain⟨rfl,h⟩:=h;refine⟨0,0,rfl,hid (Zcj.qq (by rw[l,M]) ⟨rfl,?_⟩)⟩;rcases h with h|h
    ·exact .inr (.inr (.inl h))
    ·exact .inr (.inr (.inr h))
  clear Y l Z;have a9:=f.lt;have b0:=k.lt;have b1:=q.lt;have f0:=f.frozen 0;have f1:=f.frozen 1;have f2:=f.frozen 2;have f3:=f.frozen 3;have c0:=f.cell 0;have c1:=f.cell 1;have c2:=f.cell 2;have c3:=f.cell 3;have i0:=k.frozen 0;have i1:=k.frozen 1;have j0:=k.cell 0;have j1:=k.cell 1;have q0:=q.cell 0;have q1:=q.cell 1;have q2:=q.cell 2;have q3:=q.cell 3;simp only[Zget]at c0 c1 c2 c3 j0 j1 q0 q1 q2 q3
  go_wp2_with fail
  have b4:r.heap.size≠w.heap.size:=by omega
  have b2:w.heap.size≠r.heap.size:=by omega
  have b5:r.heap.size≠w.heap.size+1:=by omega
  have b3:w.heap.size+1≠r.heap.size:=by omega
  have d:=hid (Zrs t a8 (Nat.le_refl _) (Nat.le_add_right _ _) Om f k (.slice a0 n0 e0) (.slice a1 n1 e1) (.slice a2 n2 e2) (.slice a3 n3 e3) (Vi mm) (Vi sn));clear t f k q
  go_region
  all_goals
   go_wp2;change bodyPost _ _ _ _ _ ((set2 (set4 w3 w.heap.size (.slice a0 n0 e0) (.slice a1 n1 e1) (.slice a2 n2 e2) (.slice a3 n3 e3)) (w.heap.size+1) (Vi mm) (Vi sn)).alloc (.cells #[Vi mm,Vi sn] 31)).drew;clear f0 f1 f2 f3 c0 c1 c2 c3 i0 i1 j0 j1 q0 q1 q2 q3;generalize set2 (set4 w3 w.heap.size (.slice a0 n0 e0) (.slice a1 n1 e1) (.slice a2 n2 e2) (.slice a3 n3 e3)) (w.heap.size+1) (Vi mm) (Vi sn)=WY at *
   have i:Below _ _ (WY.alloc (.cells #[Vi mm,Vi sn] 31)).drew:=Zbal.drew;have D:=hid (d.ob.trans (i.mono d.ob.size));have E:=hid (d.oc.below i);have sx:=d.ox.below i;have sy:=d.oy.below i;have s0:=sx.cell 0;have s1:=sx.cell 1;have s2:=sx.cell 2;have s3:=sx.cell 3;have t0:=sy.cell 0;have t1:=sy.cell 1;simp only[Zget]at s0 s1 s2 s3 t0 t1;generalize(WY.alloc (.cells #[Vi mm,Vi sn] 31)).drew=WX at *
   exact bodyPost_ret (by simp[results,results22,go_sem,s0,s1,s2,s3,t0,t1]) rfl ⟨_,_,_,rfl,E,⟨_,_,_,_,_,_,_,_,_,_,_,_,rfl⟩,D⟩
def verR(r:Except (Nat×Nat) (CodeQ×Nat×Nat)):Nat×Nat×Nat×Nat:=match r with
 | .ok x=>(x.2.1,x.2.2,0,0)
 | .error x=>(0,0,x.1,x.2)
def Asks(w:World)(err:Value)(c p:Nat):Prop:=∀W,BW w W->CP 18 #[err] W (fun e w'=>e=.returned (Vi c)/\w'=W)/\CP 19 #[err] W (fun e w'=>e=.returned (Vi p)/\BW W w')
theorem BadV.asks{x:Nat×Nat}(h:BadV w A x err)(g:Vars w A m):Asks w err x.1 x.2:=by
 intro W f;obtain⟨x1,x2⟩:=x;have a:=g.below f;rcases h.below f with ⟨c,fa,rfl,d,e⟩|⟨c,rfl⟩|⟨c,fa,rfl,d,e⟩|⟨c,fa,rfl,d,e⟩
 ·simp only at c;subst c;exact⟨Zzt A m W a _ e,ZdB A m _ _ W a d⟩
 ·injection c with hx1 hx2;subst hx1 hx2;exact⟨ZzB A m W a,Zdm A m _ W a⟩
 ·simp only at c;subst c;exact⟨Zzx A m W a _ e,ZdB A m _ _ W a d⟩
 ·simp only at c;subst c;exact⟨ZzA A m W a _ e,ZdB A m _ _ W a d⟩
theorem Zcj.asks{r:Except (Nat×Nat) (CodeQ×Nat×Nat)}{v n:Value}(h:Zcj w A r v n err)(d:Vars w A m) :
  ∃a b c p:Nat,n=.agg #[Vi a,Vi b]/\Hid (verR r=(a,b,c,p))/\Hid (Asks w err c p):=by
 cases r with
 | ok x=>
  obtain⟨_,rfl,rfl⟩:=h;exact⟨_,_,0,0,rfl,hid rfl,hid (fun W e=>⟨Zik A m W (d.below e),Ziq W⟩)⟩
 | error x=>
  obtain⟨rfl,h⟩:=h;exact⟨0,0,x.1,x.2,rfl,hid rfl,hid (h.asks d)⟩

/- Parts. -/
import Derived.Test.YtcdgkkfipdoeeaaGreatDoorU27
set_option linter.all false
set_option maxRecDepth 100000
set_option maxHeartbeats 16000000
namespace Go.Proofs.YtcdgkkfipdoeeaaGreatDoor
open Go.RowKit LS Go.Proofs.Tryz
variable {m:Int}{A:Nat->Addr}{err:Value}{w:World}
theorem LookP.mk'{c:CodeQ}{l:LB}{a0 a1 a2 a3:Option Addr}{n0 n1 n2 n3 e0 e1 e2 e3:Nat}(j:Vars w A m)(k:20<=w.heap.size)(n:CodV w c (.agg #[.slice a0 n0 e0,.slice a1 n1 e1,.slice a2 n2 e2,.slice a3 n3 e3]))(i:Zb7 l=.ok c) :
  (n0=c.jj.length/\n1=c.ju.length/\n2=c.jw.length/\n3=c.jq.length)/\LookP w A m c a0 a1 a2 a3 e0 e1 e2 e3:=by
 obtain⟨cv,pv,gv,iv,e,h⟩:=n;injection e with e;injection e with e;simp only[Yfd,and_true]at e;obtain⟨rfl,rfl,rfl,rfl⟩:=e;obtain⟨b0,f0,a⟩:=h.cs.shape;obtain⟨b1,f1,d⟩:=h.ps.shape;obtain⟨b2,f2,f⟩:=h.gs.shape;obtain⟨b3,f3,g⟩:=h.is.shape;injection a with _ a _;injection d with _ d _;injection f with _ f _;injection g with _ g _;subst a d f g;exact⟨⟨rfl,rfl,rfl,rfl⟩,j,k,h,(Zll i).1,(Zll i).2⟩
theorem ZqK(s:BA)(A:Nat->Addr)(m:Int)(w:World)(hv:Vars w A m)(ht:ZR w)(K:20<=w.heap.size)(hs:s.size<=maxLen) :
  CP 22 #[.string s] w fun e u=>∃v n err,e=.returned (.tuple #[v,n,err])/\Hid (Zcj u A (ZcR (bl s)) v n err)/\CodZ v/\BW w u:=by
 have N:=hid (fun W t=>ZAU s A m W (hv.below t) (ht.low t K) (Yah K t.size) hs);have HV:=hid hv;have a6:=hid K;clear hv ht K hs;go_enter func22,ntmps22
 go_wp2_with fail
 refine Zm fun W L=>?_;have O:Below _ w W:=L▸Zbal.alloc (by simp) _;have P:Hid (BAt W _ _ 59):=L▸(Zbal.block _ (by simp)).trans bnw
 have Q:Hid (BAt W (w.heap.size+1) [Vi 0,Vi 0] 31):=by
  rw[L];have:=Go.Deep.blk_alloc_new (w.alloc (.cells #[S0,S0,S0,S0] 59)) (.cells #[Vi 0,Vi 0] 31);rwa [Go.Deep.nblk_alloc]at this
 have z:=hid O;clear L O;refine(N W z).mono ?_;rintro e o ⟨v,err,rfl,F,B⟩;have f:=hid (z.trans (B.mono z.size));have g:=hid (P.below B);have i:=hid (Q.below B);clear B P Q z;cases hd:Zb7 (bl s)with
 | error x=>
  have j:Hid (ZcR _=.error x):=hid (by unfold ZcR;rw[hd])
  have G:Hid (BadV o A x err):=by
   have h:=F.out;rw[hd]at h;rcases h.2 with h|h
   ·exact .inl ⟨h.1,h.2.pl⟩
   ·exact .inr (.inl h)
  obtain rfl:=by
   have h:=F.out;rw[hd]at h;exact h.1
  have p:Hid (Zcj _ A _ (.agg #[S0,S0,S0,S0]) _ _):=hid (Zcj.qq j ⟨rfl,G⟩);have a:=hid (Zrs p f (Yac _) (Yfx _ _) Om g i S0 S0 S0 S0 (Vi 0) (Vi 0));have a4:=g.lt;have a5:=i.lt;have f0:=g.frozen;have c0:=g.cell;have i0:=i.frozen;have j0:=i.cell;have a7:=G.shape;clear F hd G j p;rcases a7 with ⟨fa,rfl⟩|rfl
  all_goals
   go_wp2;change bodyPost _ _ _ _ _ ((set2 (set4 o w.heap.size S0 S0 S0 S0) (w.heap.size+1) (Vi 0) (Vi 0)).alloc (.cells #[S0,S0,S0,S0] 59));clear f0 c0 i0 j0;generalize set2 (set4 o w.heap.size S0 S0 S0 S0) (w.heap.size+1) (Vi 0) (Vi 0)=WY at *
   have d:Below _ _ (WY.alloc (.cells #[S0,S0,S0,S0] 59)):=Zbal;have C:=hid (a.ob.trans (d.mono a.ob.size));have D:=hid (a.oc.below d);have sx:=a.ox.below d;have sy:=a.oy.below d;have s0:=sx.cell 0;have s1:=sx.cell 1;have s2:=sx.cell 2;have s3:=sx.cell 3;have t0:=sy.cell 0;have t1:=sy.cell 1;simp only[Zget]at s0 s1 s2 s3 t0 t1;generalize WY.alloc (.cells #[S0,S0,S0,S0] 59)=WX at *
  ·exact bodyPost_ret (by simp[results,results22,go_sem,s0,s1,s2,s3,t0,t1]) rfl ⟨_,_,_,rfl,D,⟨_,_,_,_,_,_,_,_,_,_,_,_,rfl⟩,C⟩
  ·exact bodyPost_ret (by simp[results,results22,go_sem,s0,s1,s2,s3,t0,t1]) rfl ⟨_,_,_,rfl,D,⟨_,_,_,_,_,_,_,_,_,_,_,_,rfl⟩,C⟩
 | ok c=>
  obtain⟨rfl,E⟩:=by
   have h:=F.out;rw[hd]at h;exact h
  obtain⟨a0,a1,a2,a3,n0,n1,n2,n3,e0,e1,e2,e3,rfl⟩:=E.shape;have R:=hid E
  have S : Hid (∀ W, BW o W -> CP 39 #[.agg #[.slice a0 n0 e0, .slice a1 n1 e1, .slice a2 n2 e2, .slice a3 n3 e3]] W fun e u => ∃ v err, e = .returned (.tuple #[v, err]) /\ Hid (ZeN u A (ZcT c) v err) /\ BW W u) := hid (fun W t => by
    obtain⟨⟨rfl,rfl,rfl,rfl⟩,hp⟩:=LookP.mk' (HV.below ((f.trans (t.mono f.size)))) (Yah a6.out (Yah f.size t.size)) (E.below t) hd;exact ZyD W A m c a0 a1 a2 a3 e0 e1 e2 e3 hp)
  have j:Hid (ZcR (bl s)=match ZcT c with|.error e=>.error e|.ok x=>.ok (c,x)):=by unfold ZcR;rw[hd];rfl
  have a4:=g.lt;have a5:=i.lt;clear F hd E
  go_wp2_with fail
  refine Zm fun W2 H=>?_;have k:Below _ _ _:=H▸Zbal;have T:Hid (BAt _ _ [.slice _ _ _,.slice _ _ _,.slice _ _ _,.slice _ _ _] 59):=H▸bnw;have I:=hid (f.trans (k.mono f.size));have U:=hid (g.below k);have V:=hid (i.below k);have X:=hid (R.below k);clear H g i R f;refine(S _ k).mono ?_;rintro e w3 ⟨nv,er,rfl,Y,l⟩;have a8:=hid (I.trans (l.mono I.size));have q:=hid (U.below l);have r:=hid (V.below l);have J:=hid (T.below l);have Z:=hid (X.below l);clear k l U V T X I S N
  obtain⟨mm,sn,rfl,p⟩:∃(mm sn:Nat),nv=.agg #[.int _ mm,.int _ sn]/\Hid (Zcj _ A (ZcR _) _ (.agg #[.int _ mm,.int _ sn]) er):=by
   have h:=Y.out;cases M:ZcT c with
   | ok x=>
    rw[M]at h;obtain⟨rfl,rfl⟩:=h;exact⟨_,_,rfl,hid (Zcj.mkOk (by rw[j,M]) ⟨Z.out,rfl,rfl⟩)⟩
   | error x=>
    rw[M]at h;obtain⟨rfl,h⟩:=h;refine⟨0,0,rfl,hid (Zcj.qq (by rw[j,M]) ⟨rfl,?_⟩)⟩;rcases h with h|h
    ·exact .inr (.inr (.inl h))
    ·exact .inr (.inr (.inr h))
  clear Y j Z;have a9:=q.lt;have b0:=r.lt;have b1:=J.lt;have f0:=q.frozen;have c0:=q.cell;have i0:=r.frozen;have j0:=r.cell;have q0:=J.cell
  go_wp2_with fail
  have b4:o.heap.size≠w.heap.size:=by omega
  have b2:w.heap.size≠o.heap.size:=by omega
  have b5:o.heap.size≠w.heap.size+1:=by omega
  have b3:w.heap.size+1≠o.heap.size:=by omega
  have a:=hid (Zrs p a8 (Yac _) (Yfx _ _) Om q r (.slice a0 n0 e0) (.slice a1 n1 e1) (.slice a2 n2 e2) (.slice a3 n3 e3) (Vi mm) (Vi sn));clear p q r J
  go_region
  all_goals
   go_wp2;change bodyPost _ _ _ _ _ ((set2 (set4 w3 w.heap.size (.slice a0 n0 e0) (.slice a1 n1 e1) (.slice a2 n2 e2) (.slice a3 n3 e3)) (w.heap.size+1) (Vi mm) (Vi sn)).alloc (.cells #[Vi mm,Vi sn] 31)).drew;clear f0 c0 i0 j0 q0;generalize set2 (set4 w3 w.heap.size (.slice a0 n0 e0) (.slice a1 n1 e1) (.slice a2 n2 e2) (.slice a3 n3 e3)) (w.heap.size+1) (Vi mm) (Vi sn)=WY at *
   have d:Below _ _ (WY.alloc (.cells #[Vi mm,Vi sn] 31)).drew:=Zbal.drew;have C:=hid (a.ob.trans (d.mono a.ob.size));have D:=hid (a.oc.below d);have sx:=a.ox.below d;have sy:=a.oy.below d;have s0:=sx.cell 0;have s1:=sx.cell 1;have s2:=sx.cell 2;have s3:=sx.cell 3;have t0:=sy.cell 0;have t1:=sy.cell 1;simp only[Zget]at s0 s1 s2 s3 t0 t1;generalize(WY.alloc (.cells #[Vi mm,Vi sn] 31)).drew=WX at *
   exact bodyPost_ret (by simp[results,results22,go_sem,s0,s1,s2,s3,t0,t1]) rfl ⟨_,_,_,rfl,D,⟨_,_,_,_,_,_,_,_,_,_,_,_,rfl⟩,C⟩
def verR(r:Except (Nat×Nat) (CodeQ×Nat×Nat)):Nat×Nat×Nat×Nat:=match r with
 | .ok x=>(x.2.1,x.2.2,0,0)
 | .error x=>(0,0,x.1,x.2)
def Asks(w:World)(err:Value)(c p:Nat):Prop:=∀W,BW w W->CP 18 #[err] W (fun e w'=>e=.returned (Vi c)/\w'=W)/\CP 19 #[err] W (fun e w'=>e=.returned (Vi p)/\BW W w')
theorem BadV.asks{x:Nat×Nat}(h:BadV w A x err)(g:Vars w A m):Asks w err x.1 x.2:=by
 intro W f;obtain⟨x1,x2⟩:=x;have a:=g.below f;rcases h.below f with ⟨c,fa,rfl,d,e⟩|⟨c,rfl⟩|⟨c,fa,rfl,d,e⟩|⟨c,fa,rfl,d,e⟩
 ·simp only at c;subst c;exact⟨Zzt A m W a e,ZdB A m _ _ W a d⟩
 ·injection c with hx1 hx2;subst hx1 hx2;exact⟨ZzB A m W a,Zdm A m W a⟩
 ·simp only at c;subst c;exact⟨Zzx A m W a e,ZdB A m _ _ W a d⟩
 ·simp only at c;subst c;exact⟨ZzA A m W a e,ZdB A m _ _ W a d⟩
theorem Zcj.asks{r:Except (Nat×Nat) (CodeQ×Nat×Nat)}{v n:Value}(h:Zcj w A r v n err)(d:Vars w A m) :
  ∃a b c p:Nat,n=.agg #[Vi a,Vi b]/\Hid (verR r=(a,b,c,p))/\Hid (Asks w err c p):=by
 cases r with
 | ok x=>
  obtain⟨_,rfl,rfl⟩:=h;exact⟨_,_,0,0,rfl,hid rfl,hid (fun W e=>⟨Zik A m W (d.below e),Ziq W⟩)⟩
 | error x=>
  obtain⟨rfl,h⟩:=h;exact⟨0,0,x.1,x.2,rfl,hid rfl,hid (h.asks d)⟩

/- Parts. -/
import Derived.Test.YtpbemaaghbbocaaGreatDoorH20
import Derived.Test.YtpbemaaghbbocaaGreatDoorH15
set_option linter.all false
set_option maxRecDepth 100000
set_option maxHeartbeats 16000000
namespace Go.Proofs.YtpbemaaghbbocaaGreatDoor
open Go.RowKit LS Go.Proofs.Tryz
variable {l:LB}{k n:Nat}{w:World}
section
variable {x mb gb:Nat} {sv:Value} {ss:List Srs} {tm:Int}
theorem ZBT(nd:Nd)(l r:Tr)(a b:Nat)(F:nd.jx=1)(o:Dst (ss.map Srs.ser))(s : -1000000<=tm)(t:tm<=1000000):ZcC x mb gb sv ss tm (.node a b nd l r):=by
 intro pv w k v
 obtain⟨nm,la,ln,lc,y,p,q⟩:∃(nm:BA) (la:Option Addr) (ln lc:Nat),pv=.iface 179 (.agg #[.string nm,.slice la ln lc])/\bl nm=nd.name/\ZX w (.slice la ln lc) nd.jq:=by
  rcases v with ⟨h,_⟩|⟨_,h⟩|⟨h,_⟩|⟨h,_⟩|⟨h,_⟩|⟨h,_⟩
  ·omega
  ·exact h
  all_goals omega
 subst y;obtain⟨sa,scp,rfl⟩:=Zl k.sto.row;have G:Hid (sayT (ss.map Srs.ser) tm (.node a b nd l r)=.inr (Zc4 (ss.map Srs.ser) nd none 10 tm)):=hid (by rw[sayT,if_neg Om,if_pos F]);have H:Hid (MOk x mb gb (.slice sa ss.length scp) ss tm w):=k;have z:Hid (∀W,BW w W->CP 135 #[.slice sa ss.length scp,.agg #[.string nm,.slice la ln lc],Vi tm] W _):=hid (fun W i=>ZrF ss nm la ln lc nd tm W (k.below i).sto o p (q.below i) s t);clear v k p q o;have I:=ZhE (.agg #[.string nm,.slice la ln lc]);have J:=ZhD (.agg #[.string nm,.slice la ln lc]);have K:=ZhF (.agg #[.string nm,.slice la ln lc]);have L:=ZhC (.agg #[.string nm,.slice la ln lc]);have M:=ZhG (.agg #[.string nm,.slice la ln lc]);have N:=ZgD (.agg #[.string nm,.slice la ln lc]);go_enter func87,ntmps87
 go_upto_region 22 with fail
 refine ZP fun W i=>?_;have j:BW w W:=by rw[i];exact Zbal
 have n:Hid (BAt W w.heap.size [.string nm,.slice la ln lc] 179):=hid (by rw[i];exact Go.Deep.blk_alloc_new _ _);have g:=hid (H.below j);have c:Hid (BW w W):=hid j;clear i j I J K L M N;have x0:=n.cell 0;have x1:=n.cell 1;have m0:=g.m.cell 0;have m1:=g.m.cell 1;simp only[Zget]at x0 x1 m0 m1
 go_region_held3 (fun u => u.cell? ⟨w.heap.size, 0, none⟩ = some (.string nm) /\ u.cell? ⟨w.heap.size, 1, none⟩ = some (.slice la ln lc) /\ u.cell? ⟨mb, 0, none⟩ = some (.slice sa ss.length scp) /\ u.cell? ⟨mb, 1, none⟩ = some (Vi tm)) (first | exact ⟨x0, x1, m0, m1⟩ | exact A.out | go_keep) (first
   | (go_at_call 135
      refine(z.out _ (by exact⟨c.os,c.tape,c.output,c.size,c.block⟩)).mono ?_;rintro e B ⟨v5,is5,rfl,C,d⟩;have f:Hid (BW W B):=hid ⟨d.os,d.tape,d.output,d.size,d.block⟩;have A:=hid (And.intro ((n.below f.out).cell 0) (And.intro ((n.below f.out).cell 1) (And.intro ((g.below f.out).m.cell 0) ((g.below f.out).m.cell 1))));clear d))
 have D:Hid (BelX x w.heap.size w B):=hid (BelX.of (c.trans (f.mono c.size)));have E:=hid (g.below f.out);go_wp2;go_ret;exact⟨_,rfl,hid (by rw[G.out];exact⟨_,is5,rfl,C.out⟩),E,D⟩
theorem ZBU(nd:Nd)(l r:Tr)(a b:Nat)(U:nd.jx=2)(t:nd.op<=4)(H:1<=nd.n/\nd.n<=1000)(v:Dst (ss.map Srs.ser))(I : -1000000<=tm)(J:tm<=1000000):ZcC x mb gb sv ss tm (.node a b nd l r):=by
 intro pv w k K
 obtain⟨c,nm,la,ln,lc,L,y,z,A⟩:∃(c nm:BA) (la:Option Addr) (ln lc:Nat),pv=.iface 181 (.agg #[.string c,.string nm,.slice la ln lc,Vi nd.n])/\bl c=Z0.getD nd.op []/\bl nm=nd.name/\ZX w (.slice la ln lc) nd.jq:=by
  rcases K with ⟨h,_⟩|⟨h,_⟩|⟨_,h⟩|⟨h,_⟩|⟨h,_⟩|⟨h,_⟩
  ·omega
  ·omega
  ·exact h
  all_goals omega
 subst L;obtain⟨sa,scp,rfl⟩:=Zl k.sto.row;have M:Hid (sayT (ss.map Srs.ser) tm (.node a b nd l r)=.inr (Zc4 (ss.map Srs.ser) nd (some nd.op) nd.n tm)):=hid (by rw[sayT,if_neg Om,if_neg Om,if_pos U]);have V:Hid (MOk x mb gb (.slice sa ss.length scp) ss tm w):=k;have B:Hid (∀W,BW w W->CP 134 #[.slice sa ss.length scp,.agg #[.string nm,.slice la ln lc],Vi nd.n,Vi tm] W _):=hid (fun W j=>ZmR _ ss nm la ln lc nd nd.n tm W (k.below j).sto z (A.below j) Om H.2 I J);have N:Hid (∀W,CP 131 #[.string c] W _):=hid (fun W=>ZqY c nd.op t y W);have O:Hid (Dst (ss.map Srs.ser)):=v;have P:Hid (ss.length<=30):=hid k.sto.len;clear K k z A v y H;obtain⟨nn,C⟩:∃nn,nn=nd.n:=⟨_,rfl⟩
 rw[<-C]at B M ⊢;clear C;have F:=ZhJ (.agg #[.string c,.string nm,.slice la ln lc,Vi nn]);have G:=ZhI (.agg #[.string c,.string nm,.slice la ln lc,Vi nn]);have X:=ZhK (.agg #[.string c,.string nm,.slice la ln lc,Vi nn]);have Y:=ZhH (.agg #[.string c,.string nm,.slice la ln lc,Vi nn]);have Z:=ZhL (.agg #[.string c,.string nm,.slice la ln lc,Vi nn]);go_enter func87,ntmps87
 go_upto_region 19 with fail
 refine ZP fun W j=>?_;have o:BW w W:=by rw[j];exact Zbal
 have g:Hid (BAt W w.heap.size [.string c,.string nm,.slice la ln lc,Vi nn] 181):=hid (by rw[j];exact Go.Deep.blk_alloc_new _ _);have i:=hid (V.below o);have d:Hid (BW w W):=hid o;clear j o F G X Y Z;have x0:=g.cell 0;have x1:=g.cell 1;have x2:=g.cell 2;have x3:=g.cell 3;have m0:=i.m.cell 0;have m1:=i.m.cell 1;simp only[Zget]at x0 x1 x2 x3 m0 m1;have D:Hid (∀u,BW W u->u.cell? ⟨w.heap.size,0,none⟩=some (.string c)/\u.cell? ⟨w.heap.size,1,none⟩=some (.string nm)/\u.cell? ⟨w.heap.size,2,none⟩=some (.slice la ln lc)/\u.cell? ⟨w.heap.size,3,none⟩=some (Vi nn)/\u.cell? ⟨mb,0,none⟩=some (.slice sa ss.length scp)/\u.cell? ⟨mb,1,none⟩=some (Vi tm)):=hid (fun u h=>⟨(g.below h).cell 0,(g.below h).cell 1,(g.below h).cell 2,(g.below h).cell 3,(i.below h).m.cell 0,(i.below h).m.cell 1⟩)
 go_region_held3 (fun u => u.cell? ⟨w.heap.size, 0, none⟩ = some (.string c) /\ u.cell? ⟨w.heap.size, 1, none⟩ = some (.string nm) /\ u.cell? ⟨w.heap.size, 2, none⟩ = some (.slice la ln lc) /\ u.cell? ⟨w.heap.size, 3, none⟩ = some (Vi nn) /\ u.cell? ⟨mb, 0, none⟩ = some (.slice sa ss.length scp) /\ u.cell? ⟨mb, 1, none⟩ = some (Vi tm)) (first | exact ⟨x0, x1, x2, x3, m0, m1⟩ | exact D.out _ p.out | exact D.out _ q.out | go_keep) (first
   | (go_at_call 131
      refine(N.out _).mono ?_;rintro e w4 ⟨rfl,rfl⟩)
   | (go_at_call 134
      refine(B.out _ (by exact⟨d.os,d.tape,d.output,d.size,d.block⟩)).mono ?_;rintro e w5 ⟨v5,rs5,rfl,s,f⟩;have q:Hid (BW W w5):=hid ⟨f.os,f.tape,f.output,f.size,f.block⟩;clear f)
   | (go_at_call 133
      refine(ZrE nd.op t v5 rs5 (ss.map Srs.ser) nd nn tm s.1 s.2 O.out (by
        have F:=congrArg List.length s.2;rw[Yak]at F;have G:=ZmZ (ss.map Srs.ser) nd nn tm;rw[Yak]at G;have:=P.out;omega)).mono ?_
      rintro e Q ⟨v6,is6,rfl,R,E⟩;have p:Hid (BW W Q):=hid (q.trans (E.mono q.size));clear E))
 have S:Hid (BelX x w.heap.size w Q):=hid (BelX.of (d.trans (p.mono d.size)));have T:=hid (i.below p.out);go_wp2;go_ret;exact⟨_,rfl,hid (by rw[M.out];exact⟨_,is6,rfl,R.out⟩),T,S⟩
theorem ZBS(nd:Nd)(l r:Tr)(a b:Nat)(o:nd.jx=6)(t:ZdN (sayT (ss.map Srs.ser) tm l)=true)(u:ZdN (sayT (ss.map Srs.ser) tm r)=true)(f:ZcC x mb gb sv ss tm l)(g:ZcC x mb gb sv ss tm r):ZcC x mb gb sv ss tm (.node a b nd l r):=by
 intro pv w k v
 obtain⟨p,q,i,m,n⟩:∃p q,pv=.iface 149 (.agg #[Vi (opNo nd),p,q])/\Zh w l p/\Zh w r q:=by
  rcases v with ⟨h,_⟩|⟨h,_⟩|⟨h,_⟩|⟨h,_⟩|⟨h,_⟩|⟨_,h⟩
  ·omega
  ·omega
  ·omega
  ·omega
  ·omega
  ·exact h
 have y:opNo nd=0:=by unfold opNo;rw[if_pos o]
 rw[y]at i;subst i;obtain⟨ty,tv,rfl⟩:=m.shape;obtain⟨uy,uv,rfl⟩:=n.shape;have C:Hid (sayT (ss.map Srs.ser) tm (.node a b nd l r)=if (Zcm (sayT (ss.map Srs.ser) tm l)).isEmpty then sayT (ss.map Srs.ser) tm r else sayT (ss.map Srs.ser) tm l):=hid (by rw[sayT,if_neg Om,if_neg Om,if_neg Om,if_neg Om,if_neg Om,if_pos o]);have F:Hid (MOk x mb gb sv ss tm w):=k;have D:Hid (∀W,BW w W->CP 126 #[Vp mb,.iface ty tv,.iface uy uv] W (EitP x mb gb sv ss tm l r W)):=hid (fun W d=>ZvE l r t u f g ty uy tv uv W (k.below d) (m.below d) (n.below d));clear v k m n t u f g y;have G:=ZgB (.agg #[Vi (0:Nat),.iface ty tv,.iface uy uv]);have H:=ZgA (.agg #[Vi (0:Nat),.iface ty tv,.iface uy uv]);have I:=ZgC (.agg #[Vi (0:Nat),.iface ty tv,.iface uy uv]);simp only[Int.natCast_zero]at *
 go_enter func87,ntmps87
 go_wp2_with fail
 refine Zm fun W d=>?_;have c:BW w W:=by rw[d];exact Zbal
 clear d;refine(D.out W c).mono ?_;rintro e E ⟨s,l5,is5,rfl,j,z,A⟩;have B:Hid (BelX x w.heap.size w E):=hid ((BelX.of c).trans (A.mono c.size));clear c;go_wp2;go_ret;exact⟨_,rfl,hid (by rw[C.out,j.2];exact⟨_,is5,rfl,j.1⟩),z,B⟩
end
section
variable {x mb gb:Nat} {sv:Value} {ss:List Srs} {tm:Int}
theorem MapX.lt{x:Nat}(h:MapX w x):x<w.heap.size:=by
 obtain⟨es,cl,a⟩:=h;exact(Yae.1 a).1
theorem ZBO(nd:Nd)(l r:Tr)(a b:Nat)(hk:nd.jx=4)(R:nd.op<=3)(A:VOk 1000 (sayT (ss.map Srs.ser) tm r))(B:ZcC x mb gb sv ss tm l)(C:ZcC x mb gb sv ss tm r):ZcC x mb gb sv ss tm (.node a b nd l r):=by
 intro pv w J S
 obtain⟨p,q,D,K,L⟩:∃p q,pv=.iface 149 (.agg #[Vi (opNo nd),p,q])/\Zh w l p/\Zh w r q:=by
  rcases S with ⟨h,_⟩|⟨h,_⟩|⟨h,_⟩|⟨h,_⟩|⟨h,_⟩|⟨_,h⟩
  ·omega
  ·omega
  ·omega
  ·omega
  ·omega
  ·exact h
 have T:opNo nd=nd.op+1:=by unfold opNo;rw[if_neg Om]
 rw[T]at D;subst D;obtain⟨ty,tv,rfl⟩:=K.shape;obtain⟨uy,uv,rfl⟩:=L.shape;have HS:Hid (sayT (ss.map Srs.ser) tm (.node a b nd l r)=Zdg nd.op (sayT (ss.map Srs.ser) tm l) (sayT (ss.map Srs.ser) tm r)):=hid (by rw[sayT,if_neg Om,if_neg Om,if_neg Om,if_neg Om,if_neg Om,if_neg Om]);have HM:Hid (MOk x mb gb sv ss tm w):=J;have U:Hid (Zh w l (.iface ty tv)/\Zh w r (.iface uy uv)):=⟨K,L⟩
 have V:Hid (VOk 1000 (sayT (ss.map Srs.ser) tm r)):=A;have X:Hid (∀W,MOk x mb gb sv ss tm W->Zh W l (.iface ty tv)->CP 87 #[Vp mb,.iface ty tv] W (SayP x mb gb sv ss tm l W)):=hid (fun W k n=>B _ W k n);have Y:Hid (∀W,MOk x mb gb sv ss tm W->Zh W r (.iface uy uv)->CP 87 #[Vp mb,.iface uy uv] W (SayP x mb gb sv ss tm r W)):=hid (fun W k n=>C _ W k n);obtain⟨oz,o⟩:∃oz:Int,oz=((nd.op+1:Nat):Int):=⟨_,rfl⟩
 have E:Hid (oz=((nd.op+1:Nat):Int)):=o;have M:(oz == 0)=false:=by rw[beq_eq_false_iff_ne];omega
 rw[<-o];have a6:=J.map.lt;clear S J K L A B C T o;have k:=ZgB (.agg #[Vi oz,.iface ty tv,.iface uy uv]);have n:=ZgA (.agg #[Vi oz,.iface ty tv,.iface uy uv]);have h3:=ZgC (.agg #[Vi oz,.iface ty tv,.iface uy uv]);go_enter func87,ntmps87
 go_upto_region 12 with fail
 refine ZP fun W N=>?_;have f:BW w W:=by rw[N];exact Zbal
 have z:Hid (BAt W w.heap.size [Vi oz,.iface ty tv,.iface uy uv] 149):=hid (by rw[N];exact Go.Deep.blk_alloc_new _ _);have d:=hid (HM.below f);have F:Hid (Zh W l (.iface ty tv)/\Zh W r (.iface uy uv)):=hid ⟨U.1.below f,U.2.below f⟩;have G:Hid (BW w W):=hid f;clear N f k n h3 M;have x0:=z.cell 0;have x1:=z.cell 1;have x2:=z.cell 2;simp only[Zget]at x0 x1 x2
 have t : Hid (∀ u, BelX x W.heap.size W u -> u.cell? ⟨w.heap.size, 0, none⟩ = some (Vi oz) /\ u.cell? ⟨w.heap.size, 1, none⟩ = some (.iface ty tv) /\ u.cell? ⟨w.heap.size, 2, none⟩ = some (.iface uy uv)) := hid (fun u h => by
   have g:=z.belX h Om;exact⟨g.cell 0,g.cell 1,g.cell 2⟩)
 go_region_held3 (fun u => u.cell? ⟨w.heap.size, 0, none⟩ = some (Vi oz) /\ u.cell? ⟨w.heap.size, 1, none⟩ = some (.iface ty tv) /\ u.cell? ⟨w.heap.size, 2, none⟩ = some (.iface uy uv)) (first | exact ⟨x0, x1, x2⟩ | exact t.out _ H.out | exact t.out _ v.out | exact t.out _ j.out | go_keep) (first
   | (go_at_call 87
      refine(Y.out O I.out Z.out).mono ?_;rintro e P ⟨v6,rfl,a0,a1,i⟩;have v:Hid (BelX x W.heap.size W P):=hid (j.trans (i.mono j.size));have Q:Hid (ValP P v5 (sayT (ss.map Srs.ser) tm l)):=hid (a2.jy (Zo.belX i.out I.map));clear i)
   | (go_at_call 87
      refine(X.out _ (by exact⟨d.m,d.g,d.map,⟨d.sto.row,fun s hs=>(d.sto.ok s hs).jy (Zo.refl _),d.sto.len⟩⟩) (by exact F.1.jy (Zo.refl _))).mono ?_;rintro e O ⟨v5,rfl,a2,I,c⟩;have j:Hid (BelX x W.heap.size W O):=hid ⟨c.os,c.tape,c.output,c.size,c.block⟩;have Z:Hid (Zh O r (.iface uy uv)):=hid (F.2.jy (Zo.belX j.out d.map));clear c)
   | (go_at_call 127
      rw[E.out];refine(ZmH nd.op R v5 v6 P Q.out a0.out V.out).mono ?_;rw[<-E.out];rintro e w7 ⟨v7,rfl,a3,y⟩;have a4:=hid (a1.below y);have H:Hid (BelX x W.heap.size W w7):=hid (v.trans ((BelX.of y).mono v.size));clear y))
 have a5:Hid (BelX x w.heap.size w w7):=hid ((BelX.of G.out).trans (H.mono G.size));go_wp2;go_ret;exact⟨_,rfl,hid (by rw[HS.out];exact a3.out),a4,a5⟩
theorem ZBP(nd:Nd)(l r:Tr)(a b:Nat)(hk:nd.jx=5)(G:nd.op<=3)(y:nd.by_.length<=100000)(H:ZdN (sayT (ss.map Srs.ser) tm l)=true)(I:ZcC x mb gb sv ss tm l):ZcC x mb gb sv ss tm (.node a b nd l r):=by
 intro pv w U hP
 obtain⟨i,la,ln,lc,q,a0,J,a1,V⟩:∃(i:BA) (la:Option Addr) (ln lc:Nat) (q:Value),pv=.iface 156 (.agg #[.string i,.slice la ln lc,q])/\bl i=ZW.getD nd.op []/\Zbm w (.slice la ln lc) nd.by_/\Zh w l q:=by
  rcases hP with ⟨h,_⟩|⟨h,_⟩|⟨h,_⟩|⟨h,_⟩|⟨_,h⟩|⟨h,_⟩
  ·omega
  ·omega
  ·omega
  ·omega
  ·exact h
  ·omega
 subst a0;obtain⟨ty,tv,rfl⟩:=V.shape;obtain⟨bs,A,B⟩:=a1;have K:bs.length<=100000:=by rw[<-B,Yak]at y;exact y
 obtain⟨av,cpv,a2⟩:=Zl A;injection a2 with e1 e2 e3;subst e2;have HS:Hid (sayT (ss.map Srs.ser) tm (.node a b nd l r)=.inr (Zcv nd.op (bs.map bl) (Zcm (sayT (ss.map Srs.ser) tm l)))):=hid (by rw[sayT,if_neg Om,if_neg Om,if_neg Om,if_neg Om,if_pos hk,B]);have HM:Hid (MOk x mb gb sv ss tm w):=U;have HP:Hid (Zh w l (.iface ty tv)):=V;have a3:Hid (w.ownsRow 0 9 1 (.slice la bs.length lc) bs.length (Zbc bs)):=A;have a4:Hid (∀W,MOk x mb gb sv ss tm W->Zh W l (.iface ty tv)->CP 132 #[Vp mb,.iface ty tv] W (VecP x mb gb sv ss tm l W)):=hid (fun W X Y=>Znu l H I ty tv W X Y);have a5:Hid (∀W,CP 131 #[.string i] W _):=hid (fun W=>ZqX i nd.op G J W);have b2:=U.map.lt;clear hP U V A H I J B y e1 e3;have X:=Zhx (.agg #[.string i,.slice la bs.length lc,.iface ty tv]);have Y:=Zhw (.agg #[.string i,.slice la bs.length lc,.iface ty tv]);have h3:=Zhy (.agg #[.string i,.slice la bs.length lc,.iface ty tv]);have h4:=Zhv (.agg #[.string i,.slice la bs.length lc,.iface ty tv]);go_enter func87,ntmps87
 go_wp2_with fail
 refine Zm fun W Z=>?_;have L:BW w W:=by rw[Z];exact Zbal
 have HX:Hid (BAt W w.heap.size [.string i,.slice la bs.length lc,.iface ty tv] 156):=hid (by rw[Z];exact Go.Deep.blk_alloc_new _ _);have j:Hid (BW w W):=hid L;clear Z L X Y h3 h4;refine(Zs0 W la bs.length lc rfl).mono ?_;rintro e z ⟨rfl,n⟩;have o:BW W z:=by rw[n];exact Zbal
 have M:z.cell? ⟨W.heap.size,0,none⟩=some (.slice la bs.length lc):=by rw[n];exact Ydm _ _ _ _ (by simp) |>.trans rfl
 have N:W.heap.size<z.heap.size:=by rw[n];simp
 have O:=hid (Zsp W.heap.size (.slice la bs.length lc) bs K z N M (Zn a3.out (j.trans (o.mono j.size))));have C:Hid (BW w z):=hid (j.trans (o.mono j.size));have P:=hid (HX.below o);clear n o M N HX j
 go_wp2_with fail
 refine O.mono ?_;rintro e k ⟨nv,bs',rfl,f,D⟩;have f:=hid (And.intro (f.1.mono (Yag _)) f.2);obtain⟨na,ncp,rfl⟩:=Zl f.1;have p:Hid (BW w k):=hid (C.trans (D.mono C.size));have t:=hid (P.below D);have c:=hid (HM.below p.out);have a6:Hid (Zh k l (.iface ty tv)):=hid (HP.below p.out);clear D P C O;have x0:=t.cell 0;have x1:=t.cell 1;have x2:=t.cell 2;have m2:=c.m.cell 2;simp only[Zget]at x0 x1 x2 m2
 have a7:mb≠x:=by
  intro e;obtain⟨es,cl,hx⟩:=c.map;have:=c.m;rw[e]at this;unfold BAt at this;rw[hx]at this;cases this
 have Q : Hid (∀ u, BelX x k.heap.size k u -> u.cell? ⟨w.heap.size, 0, none⟩ = some (.string i) /\ u.cell? ⟨w.heap.size, 2, none⟩ = some (.iface ty tv) /\ u.cell? ⟨mb, 2, none⟩ = some (Vp gb)) := hid (fun u h => by
   have g:=t.belX h Om;have g2:=c.m.belX h a7;exact⟨g.cell 0,g.cell 2,g2.cell 2⟩)
 go_upto_region 16 with fail
 go_region_held3 (fun u => u.cell? ⟨w.heap.size, 0, none⟩ = some (.string i) /\ u.cell? ⟨w.heap.size, 2, none⟩ = some (.iface ty tv) /\ u.cell? ⟨mb, 2, none⟩ = some (Vp gb)) (first | exact ⟨x0, x2, m2⟩ | exact Q.out _ R.out | exact Q.out _ v.out | go_keep) (first
   | (go_at_call 131
      refine(a5.out _).mono ?_;rintro e w4 ⟨rfl,rfl⟩)
   | (go_at_call 132
      refine(a4.out _ (by exact⟨c.m,c.g,c.map,⟨c.sto.row,fun s hs=>(c.sto.ok s hs).jy (Zo.refl _),c.sto.len⟩⟩) (by exact a6.jy (Zo.refl _))).mono ?_;rintro e w6 ⟨v6,l6,is6,rfl,S,E,d⟩;have v:Hid (BelX x k.heap.size k w6):=hid ⟨d.os,d.tape,d.output,d.size,d.block⟩;have a8:=hid ((Zo.belX v.out c.map).own f.1);clear d)
   | (go_at_call 130
      refine(ZqW gb x nd.op G bs' v6 l6 is6 w6 E.g E.map a8.out (by rw[f.2.1];exact K) f.2.2.1 S.1).mono ?_;rintro e w7 ⟨v7,is7,rfl,T,F⟩;have a9:=hid (E.belX F T.2);have R:Hid (BelX x k.heap.size k w7):=hid (v.trans (F.mono v.size));clear F))
 have b0:Hid (BelX x w.heap.size w w7):=hid ((BelX.of p.out).trans (R.mono p.size));have b1:Hid (VecV w7 v7 (Zcv nd.op (bs.map bl) l6) is7):=hid (by rw[<-ZpJ f.2.2.2];exact T.1);go_wp2;go_ret;exact⟨_,rfl,hid (by rw[HS.out,S.2];exact⟨_,is7,rfl,b1.out⟩),a9,b0⟩
end
section
variable {x mb gb:Nat} {sv:Value} {ss:List Srs} {tm:Int}
theorem Zm4(k : -1000000<=tm)(m:tm<=1000000)(o:Dst (ss.map Srs.ser))(z:ss.length<=30):∀t:Tr,wfT t->wT t<=100000->winT t->isNil t=false->Zf t≠0->ZcC x mb gb sv ss tm t
 | .nil,_,_,_,h,_=>by cases h
 | .node p q a l r, d, A, i, _, c => by
   have y:ownW a+wT l+wT r<=100000:=A;have u:=d.2.2.2.2.2.2.2.2.2.2.1;have v:=d.2.2.2.2.2.2.2.2.2.2.2;have n:isNil l=false->Zf l≠0->ZcC x mb gb sv ss tm l:=fun h j=>Zm4 k m o z l u Om i.2.1 h j;have w:isNil r=false->Zf r≠0->ZcC x mb gb sv ss tm r:=fun h j=>Zm4 k m o z r v Om i.2.2 h j;have C:=d.1;have f:=d.2.2.2.2.2.2.1;have s:=d.2.2.2.2.2.2.2.1;have vl:isNil l=false->Zf l=2->ZdN (sayT (ss.map Srs.ser) tm l)=true:=fun h j=>by rw[Zj7 _ tm l u h Om,j];rfl
   have vr:isNil r=false->Zf r=2->ZdN (sayT (ss.map Srs.ser) tm r)=true:=fun h j=>by rw[Zj7 _ tm r v h Om,j];rfl
   have kl:=Zid l;have kr:=Zid r;unfold Zf at c;rcases(by omega:a.jx=0∨a.jx=1∨a.jx=2∨a.jx=3∨a.jx=4∨a.jx=5∨a.jx=6)with h|h|h|h|h|h|h
   · exact ZBR a l r p q h (by unfold vOk;have:=d.2.2.2.2.1;have:=d.2.2.2.2.2.1;omega)
   · exact ZBT a l r p q h o k m
   · exact ZBU a l r p q h d.2.1 (i.1 h) o k m
   · rw[if_neg Om,if_neg Om,if_pos h]at c
     exact ZBQ a l r p q h (n (f Om) c)
   · rw[if_neg Om,if_neg Om,if_neg Om,if_neg Om]at c
     by_cases g:Zf l=0∨Zf r=0∨(a.jx=6/\Zf l+Zf r≠4)
     · rw[if_pos g]at c;exact absurd rfl c
     · refine ZBO a l r p q h (d.2.2.1 h) ((Zj8 o tm r).mono (by rw[Yak];omega)) (n (f Om) (fun e=>g (Or.inl e))) (w (s Om) (fun e=>g (Or.inr (Or.inl e))))
   · rw[if_neg Om,if_neg Om,if_neg Om,if_pos h]at c
     by_cases g:Zf l=2
     · refine ZBP a l r p q h (d.2.2.2.1 h) (by have:=Zmw a.by_;unfold ownW at y;omega) (vl (f Om) g) (n (f Om) Om)
     · rw[if_neg g]at c;exact absurd rfl c
   · rw[if_neg Om,if_neg Om,if_neg Om,if_neg Om]at c
     by_cases g:Zf l=0∨Zf r=0∨(a.jx=6/\Zf l+Zf r≠4)
     · rw[if_pos g]at c;exact absurd rfl c
     · have D:Zf l+Zf r=4:=by
         refine Yb6 fun B=>g (Or.inr (Or.inr ⟨h,B⟩))
       exact ZBS a l r p q h (vl (f Om) Om) (vr (s Om) Om) (n (f Om) Om) (w (s Om) Om)
end
section
theorem ZtJ(t:Tr)(ts:List Int)(ss:List Srs)(pv sv tv:Value)(w:World)(e2:ts.length<=50)(Q:∀t∈ts,-1000000<=t/\t<=1000000)(n:w.ownsRow 0 3 1 tv ts.length (ts.map (Value.int .i64)))(hP:Zh w t pv)(hS:StoP w sv ss)
  (G:∀x mb gb tm,-1000000<=tm->tm<=1000000->ZcC x mb gb sv ss tm t) (R:∀tm,VOk 30 (sayT (ss.map Srs.ser) tm t)) (hp:ZR w) (hB:20<=w.heap.size) :
  CP 41 #[pv,sv,tv] w fun e w'=>∃r:BA,e=.returned (.string r)/\Hid (bl r=Zcn (ts.map (Zeu (ss.map Srs.ser) t)))/\BW w w':=by
 obtain⟨i0,hi,S,T,U⟩:=info_parts Tryz.infoStrG;obtain⟨ta,tcp,rfl⟩:=Zl n;obtain⟨sa,scp,rfl⟩:=Zl hS.row;obtain⟨pty,pu,rfl⟩:=hP.shape;have HP:Hid (ZR w):=hp;have V:Hid (20<=w.heap.size):=hB;have b7:Hid (∀t∈ts,-1000000<=t/\t<=1000000):=Q;have H:=hid n;have b8:=hid hP;have b9:=hid hS;have b0:=hid G;have c0:=hid R;clear hp hB Q n hP hS G R;go_enter func41,ntmps41
 go_wp2_with fail
 refine(Zmp w).mono ?_;rintro e y ⟨rfl,X,Y,o,Z⟩;have a0:=hid Z;have I:=hid o;clear Z o
 go_wp2_with (at_make;refine wpList_make_own _ rfl _ _ 31 rfl (w.heap.size+3) 9 i0 _ 1 underlying31 hi S T _ _ _ ts.length rfl rfl rfl ?b2 ?b3 ?b4 ?_)
 case b2=>rw[U];omega
 case b3=>unfold maxLen;omega
 case b4=>simp;have:=I.out;omega
 intro z p c;have o:=I.out;have f:Hid (BAt z y.heap.size [.slice sa ss.length scp,Vi 0,Vp (w.heap.size+1)] 188):=hid (BAt.grown (Go.Deep.blk_alloc_new _ _) c (by simp));have s:Hid (BAt z (w.heap.size+1) [.map (some w.heap.size)] 250):=hid ((Y.alloc _).grown c (by simp));have A:Hid (MapX z w.heap.size):=hid ((X.below Zbal).grown c (by simp));have c6:Hid (BW w z):=hid ((a0.alloc Om _).grown c (by simp;omega) (fun q hq=>by cases hq));have c7:=hid p;clear c p;generalize y.heap.size=mb at *
 subst o;clear X Y a0 I;go_wp2
 go_loopw [8,19] (fun v i wr=>∃(k:Nat) (rs:List BA) (tm:Int),k<=ts.length/\i=Vi k/\rs.length=k/\Hid (wr.ownsRow (w.heap.size+3) 9 1 v rs.length (Zbc rs))/\Hid (rs.map bl=(ts.take k).map (Zeu (ss.map Srs.ser) t))/\Hid (∀r∈rs,r.size<=40000000000)/\Hid (BAt wr (w.heap.size+2) [.slice sa ss.length scp,Vi tm,Vp (w.heap.size+1)] 188)/\Hid (BAt wr (w.heap.size+1) [.map (some w.heap.size)] 250)/\Hid (MapX wr w.heap.size)/\Hid (BW w wr)) (fun _ i _=>ts.length - (intOf i).toNat)
 case atStart=>exact⟨0,[],0,Yag _,rfl,rfl,c7,hid rfl,hid (fun r hr=>by cases hr),f,s,A,c6⟩
 case round=>
  rename World=>wo
  obtain⟨k,rs,tm,hk,rfl,c8,HO,HL,HZ,f,s,A,J⟩:=hrel;have c9:=J.size;have e3:=f.lt;by_cases K:k<ts.length
  ·have hg:∃g,ta=some ⟨g,0,none⟩:=by
    obtain⟨g,cp',h⟩:=ZF H.out Om;injection h with h1;exact⟨g,h1⟩
   obtain⟨tg,rfl⟩:=hg;have d1:=Zi (Zn H.out J.out) k (Vi ts[k]) (by rw[Ya2,List.getElem?_eq_getElem K];rfl);have d0:Hid ((ts.take (k+1)).map (Zeu (ss.map Srs.ser) t)=(ts.take k).map (Zeu (ss.map Srs.ser) t)++[Zeu (ss.map Srs.ser) t ts[k]]):=hid (by rw[List.take_succ_eq_append_getElem K,Yaq];rfl);have L:=hid (b7.out _ (List.getElem_mem K));generalize ts[k]=tk at *
   have e4:(k:Int)<(ts.length:Int):=by omega
   have y1:=f.cell 1;have fz1:=f.frozen 1;simp only[Zget]at y1
   go_wp2_with fail
   refine Zm fun W F=>?_;have l:Hid (BW w W):=hid (by rw[F];exact J.setCell (by simp) _);have d2:=l.size
   have M : Hid (MOk w.heap.size (w.heap.size + 2) (w.heap.size + 1) (.slice sa ss.length scp) ss tk W) := hid ⟨by rw [F]; exact f.set1, by rw [F]; exact s.other (by simp) _, by
     obtain⟨es,cl,hx⟩:=A.out;exact⟨es,cl,by rw[F];exact(Go.Deep.blk_setCell_other _ _ _ _ (by simp)).trans hx⟩,b9.below l.out⟩
   have a1:Hid (W.ownsRow (w.heap.size+3) 9 1 u8 rs.length (Zbc rs)):=hid (by rw[F];exact ownsRow_setCell_below HO.out (by simp) _);have a2:=hid (b8.jy (Zo.below l.out));clear F J HO f s A y1 fz1 d1;refine(b0.out w.heap.size (w.heap.size+2) (w.heap.size+1) tk L.1 L.2 (.iface pty pu) W M.out a2.out).mono ?_;rintro e P ⟨v5,rfl,a3,a4,N⟩;have a5:=hid ((Zo.belX N.out M.map).own a1.out);have j:Hid (BW w P):=hid (l.trans ((N.mono d2).below (Yac _)));have a6:=hid (HP.low j.out V.out);have d3:=j.size;clear M a1 a2 l N
   go_wp2_with fail
   refine(ZqI tk (by have:=L.out;unfold vOk;omega) v5 P a3.out (c0.out tk) a6.out (by have:=V.out;omega)).mono ?_;rintro e w6 ⟨r6,rfl,d4,a7,B⟩;have O:=hid (Zn a5.out B);have a8:Hid (BW w w6):=hid (j.trans (B.mono d3));have C:=hid (a4.below B);have d5:=hid a7;have e5:=a8.size;have e6:=C.m.lt;clear B a7 a5 j a4 a6 a3
   go_wp2_with (at_builtin;refine wpList_append_own _ rfl (.tmp 25) (.tmp 30) 31 rfl (w.heap.size+3) 9 i0 (.string ByteArray.empty) 1 16 underlying31 hi S T U rfl Dc _ _ _ rfl (O.alloc _) ⟨w6.heap.size,0,none⟩ 1 1 [.string r6] rfl rfl ?c1 ?c2 ?c3 ?c4 ?c5 ?_)
   case c1=>exact ZcY rfl
   case c2=>intro u hu;simp at hu;subst hu;rfl
   case c3=>unfold maxLen;omega
   case c4=>omega
   case c5=>simp;omega
   intro v7 w7 D d _;have d6:Hid (w7.ownsRow (w.heap.size+3) 9 1 v7 (rs++[r6]).length (Zbc (rs++[r6]))):=hid (by rw[Zh2,Yab,c8];exact D);have E:∀a,a<w.heap.size+3->some a≠u8.ownBlock:=fun a ha e=>by have:=(O.lt a e.symm).1;omega
   have b1:=hid ((C.m.alloc _).grown d (E _ Om));have b5:=hid ((C.g.alloc _).grown d (E _ Om));have b6:=hid ((C.map.below Zbal).grown d (E _ Om));have d7:Hid (BW w w7):=hid ((a8.alloc Om _).grown d (by simp;omega) (fun q hq=>by have:=(O.lt q hq).1;omega));have d8:Hid ((rs++[r6]).map bl=(ts.take (k+1)).map (Zeu (ss.map Srs.ser) t)):=hid (by rw[d0.out,Yaq,HL.out,Yco,d4.out];rfl)
   have d9 : Hid (∀ r ∈ rs ++ [r6], r.size <= 40000000000) := hid (fun r hr => by
     rcases Yar.1 hr with h|h
     · exact HZ.out r h
     · rw[Yap]at h;subst h;exact d5.out)
   clear d D E;go_wp2
   go_roundw
   case rel=>exact⟨k+1,rs++[r6],tk,by omega,by go_num,by simp;omega,d6,d8,d9,b1,b5,b6,d7⟩
   case measure=>simp[intOf];omega
  ·obtain rfl:k=ts.length:=by omega
   have e0:Hid (rs.map bl=ts.map (Zeu (ss.map Srs.ser) t)):=hid (by have:=HL.out;rwa [Ya4]at this)
   go_wp2_with fail
   refine(Zqb rs HO.out Om HZ.out).mono ?_;rintro e P ⟨r5,rfl,e1,a9⟩;have j:Hid (BW w P):=hid (J.trans (a9.mono c9));clear a9;go_wp2;go_ret;exact⟨_,rfl,hid (by rw[e1.out,e0.out]),j.out⟩
theorem Ze2{t:Tr}(h:ZD l=.ok t):wfT t/\isNil t=false/\wT t<=100000:=by
 unfold ZD at h;by_cases d:300<l.length
 ·rw[if_pos d]at h;cases h
 ·rw[if_neg d]at h;have j:=ZjB l (l.length+1) 0 (Yag _);have k:=ZjC l Om (l.length+1) 0;cases a:Zs (10*(ZN l (l.length+1) 0).length+5) false 0 .nil (ZN l (l.length+1) 0) 0 with
  | error e=>rw[a]at h;cases h
  | ok z=>
   obtain⟨t',r⟩:=z;rw[a]at h;have c:=Zfv _ _ _ _ _ _ _ (fun e=>by cases e) a;simp only at h;by_cases f:(hd r).jx=0
   ·rw[if_pos f]at h;by_cases g:Zf t'=0
    ·rw[if_pos g]at h;cases h
    ·rw[if_neg g]at h;injection h with h;subst h;refine⟨c.1,c.2.1,?_⟩;have i:=c.2.2;rw[if_neg Dc]at i;simp only at i;omega
   ·rw[if_neg f]at h;cases h
theorem Zpz(s:BA)(A:Nat->Addr)(m:Int)(w:World)(H:Vars w A m)(M:ZR w)(N:20<=w.heap.size)(I:s.size<=9223372036854775807) :
  CP 9 #[.string s] w fun e S=>∃(r:BA) (c p:Nat),e=.returned (.tuple #[.string r,Vi c,Vi p])/\Hid (Zey (bl s)=(bl r,c,p))/\Hid ((∃t,ZD (bl s)=.ok t)∨c≠0)/\BW w S:=by
 have O:Hid (CP 19 #[.string s] w _):=Ziu s w I H.sents;have T:Hid (Vars w A m):=H;have U:Hid (ZR w):=M;have E:Hid (20<=w.heap.size):=N;clear H M N;go_enter func9,ntmps9
 go_wp2_with fail
 refine O.mono ?_;rintro e y ⟨pv,v,rfl,d,i⟩;have f:Hid (BW w y):=i;have h:Hid (Vars y A m):=T.below i;have P:Hid (ZR y):=U.low i E.out;have J:Hid (20<=y.heap.size):=Yah E.out i.size;clear i O;cases j:ZD (bl s)with
 | ok t=>
  rw[j]at d;obtain⟨rfl,q⟩:=d.out;obtain⟨F,K,G⟩:=Ze2 j;have o:Hid (Zey (bl s)=(Zu t 1,0,0)):=hid (by unfold Zey;rw[j]);have V:Hid (∃t,ZD (bl s)=.ok t):=hid ⟨t,j⟩;have Q:Hid (CP 22 #[pv] y _):=Zj6 F G y pv q P.out J.out;obtain⟨ty,u,R⟩:=Zh.shape q;subst R;clear d j q F K G
  go_wp2_with fail
  refine Q.mono ?_;rintro e z ⟨r,rfl,W,a⟩;have g:Hid (BW w z):=f.trans (a.mono f.size);clear a Q;go_wp2
  go_ret3
  exact⟨r,0,0,rfl,hid (by rw[o.out,W.out]),hid (Or.inl V.out),g.out⟩
 | error x=>
  rw[j]at d;have o:Hid (Zey (bl s)=([],x.1,x.2)):=hid (by unfold Zey;rw[j]);clear j;rcases d.out with ⟨rfl,rfl⟩|⟨rfl,rfl⟩|⟨B,n⟩|⟨B,n⟩
  ·clear d
   go_wp2_with fail
   refine(ZjQ A m h.out).mono ?_;rintro e L ⟨rfl,rfl⟩
   go_wp2_with fail
   refine(Zdm A m h.out).mono ?_;rintro e z ⟨rfl,a⟩;have g:Hid (BW w z):=f.trans (a.mono f.size);clear a;go_wp2
   go_ret3
   exact⟨⟨#[]⟩,1,0,rfl,o,hid (Or.inr Dc),g.out⟩
  ·clear d
   go_wp2_with fail
   refine(Zmu A m h.out).mono ?_;rintro e L ⟨rfl,rfl⟩
   go_wp2_with fail
   refine(Zdm A m h.out).mono ?_;rintro e z ⟨rfl,a⟩;have g:Hid (BW w z):=f.trans (a.mono f.size);clear a;go_wp2
   go_ret3
   exact⟨⟨#[]⟩,4,0,rfl,o,hid (Or.inr Dc),g.out⟩
  ·obtain⟨x1,x2⟩:=x;simp only at B n;subst B;obtain⟨fa,rfl,k,l⟩:=n.cells;clear d n;have C:Hid (y.cell? ⟨fa,1,none⟩=some (Vi x2)):=k;have D:=hid l;clear k l
   go_wp2_with fail
   refine(Zmt A m h.out fa D.out).mono ?_;rintro e L ⟨rfl,rfl⟩
   go_wp2_with fail
   refine(ZdB A m fa x2 h.out C.out).mono ?_;rintro e z ⟨rfl,a⟩;have g:Hid (BW w z):=f.trans (a.mono f.size);clear a;go_wp2
   go_ret3
   exact⟨⟨#[]⟩,2,x2,rfl,o,hid (Or.inr Dc),g.out⟩
  ·obtain⟨x1,x2⟩:=x;simp only at B n;subst B;obtain⟨fa,rfl,k,l⟩:=n.cells;clear d n;have C:Hid (y.cell? ⟨fa,1,none⟩=some (Vi x2)):=k;have D:=hid l;clear k l
   go_wp2_with fail
   refine(Zms A m h.out fa D.out).mono ?_;rintro e L ⟨rfl,rfl⟩
   go_wp2_with fail
   refine(ZdB A m fa x2 h.out C.out).mono ?_;rintro e z ⟨rfl,a⟩;have g:Hid (BW w z):=f.trans (a.mono f.size);clear a;go_wp2
   go_ret3
   exact⟨⟨#[]⟩,3,x2,rfl,o,hid (Or.inr Dc),g.out⟩
theorem ZvS(q s:BA)(f l st:Int)(A:Nat->Addr)(m:Int)(w:World)(U:Vars w A m)(ht:ZR w)(hB:20<=w.heap.size)(d:q.size<=9223372036854775807)(hs:s.size<=maxLen) :
  CP 23 #[.string q,.string s,.agg #[Vi f,Vi l,Vi st]] w fun e w'=>∃(r:BA) (err:Value) (c p:Nat),e=.returned (.tuple #[.string r,err])/\Hid (Zfb w' A err c p)/\Hid (ZdK (bl q) (bl s) f l st=(bl r,c,p))/\BW w w':=by
 have V:Hid (∀W,BW w W->CP 19 #[.string q] W _):=hid (fun W F=>Ziu q W d (U.below F).sents);have X:Hid (∀W,BW w W->CP 24 #[.string s] W _):=hid (fun W F=>Zss s A m W (U.below F) hs);have Y:Hid (∀W,BW w W->CP 40 #[.agg #[Vi f,Vi l,Vi st]] W _):=hid (fun W F=>ZrI f l st (A 7) W ((U.below F).sent _ Dc));have HT:Hid (ZR w):=ht;have Z:Hid (20<=w.heap.size):=hB;clear U ht hB d hs;go_enter func23,ntmps23
 go_wp2_with fail
 refine Zm fun W hW=>?_;have C:BW w W:=by rw[hW];exact Zbal
 have a0:Hid (BAt W w.heap.size [Vi f,Vi l,Vi st] 23):=hid (by rw[hW];exact Go.Deep.blk_alloc_new _ _);refine(V.out W C).mono ?_;rintro e y ⟨pv,v,rfl,g,G⟩;have i:Hid (BW w y):=hid (C.trans (G.mono C.size));have H:=hid (a0.below G);clear G V C hW a0;cases d:ZD (bl q)with
 | error x=>
  obtain⟨I,ty,u,rfl⟩:=Zfb.rd d g.out;have HE:=hid I;have n:Hid (ZdK (bl q) (bl s) f l st=([],x.1,x.2)):=hid (by unfold ZdK;rw[d]);clear g d I;go_wp2;go_ret2;exact⟨_,_,_,_,rfl,HE,n,i.out⟩
 | ok t=>
  rw[d]at g;obtain⟨rfl,J⟩:=g.out;obtain⟨ty,u,rfl⟩:=J.shape;have a1:=hid J;have K:=hid (Ze2 d);have a2:=hid (ZBk d)
  have L:Hid (∀x,(if (Zbp (bl s)).1≠0 then ([],(Zbp (bl s)).1,(Zbp (bl s)).2)else match Zdr f l st with
   | none=>([],8,0)
   | some ts=>(Zcn (ts.map (Zeu (Ze6 (bl s)) t)),0,0))=x->ZdK (bl q) (bl s) f l st=x):=hid (fun x hx=>by unfold ZdK;rw[d];exact hx)
  clear g d J
  go_wp2_with fail
  refine(X.out y i.out).mono ?_;rintro e z ⟨sv,err,rfl,M,D,N⟩;have j:Hid (BW w z):=hid (i.trans (D.mono i.size));have O:=hid (a1.jy (Zo.below D));have h:=hid (H.below D);clear D X H a1 i;rcases Zfb.ld M.out with ⟨o,rfl⟩|⟨o,I,ty',u',rfl⟩
  ·obtain⟨ss,B,P,Q,R⟩:=(N.out o).sto o;obtain⟨sa,scp,rfl⟩:=Zl B.row;have a3:=hid B;have b0:=hid P;have a4:=hid Q;have a5:=hid R;have H0:=hid o;clear M N B P Q R o;have x0:=h.cell 0;have x1:=h.cell 1;have x2:=h.cell 2;simp only[Zget]at x0 x1 x2
   go_wp2_with fail
   clear x0 x1 x2;refine(Y.out z j.out).mono ?_;rintro e w3 ⟨tv,ev,rfl,S,E⟩;have k:Hid (BW w w3):=hid (j.trans (E.mono j.size));have a8:=hid (O.jy (Zo.below E));have a9:=hid (a3.below E);clear E Y O a3 h j;rcases S.out with ⟨T,rfl,rfl⟩|⟨ts,T,h2,h3,rfl,h4⟩
   ·have n:Hid (ZdK (bl q) (bl s) f l st=([],8,0)):=hid (L.out _ (by rw[if_neg (by rw[H0.out];simp),T]));clear S T;go_wp2;go_ret2;exact⟨_,_,8,0,rfl,hid (Or.inr (Or.inr (Or.inr (Or.inr (Or.inl ⟨rfl,rfl,rfl⟩))))),n,k.out⟩
   ·obtain⟨ta,tcp,rfl⟩:=Zl h4;have n:Hid (ZdK (bl q) (bl s) f l st=(Zcn (ts.map (Zeu (ss.map Srs.ser) t)),0,0)):=hid (L.out _ (by rw[if_neg (by rw[H0.out];simp),T,b0.out]))
    have a6:Hid (CP 41 #[.iface ty u,.slice sa ss.length scp,.slice ta ts.length tcp] w3 _):=hid (ZtJ t ts ss (.iface ty u) (.slice sa ss.length scp) (.slice ta ts.length tcp) w3 h2 h3 h4 a8.out a9.out
     (fun x mb gb tm a b=>Zm4 a b a4.out a5.out t K.1 K.2.2 a2.1 K.2.1 a2.2)
     (fun tm=>(Zj8 a4.out tm t).mono (by rw[Yak];exact a5.out)) (HT.low k.out Z.out) (Yah Z.out k.size))
    clear S T h2 h3 h4
    go_wp2_with fail
    refine a6.mono ?_;rintro e w4 ⟨r4,rfl,b1,a7⟩;have b2:Hid (BW w w4):=hid (k.trans (a7.mono k.size));clear a7 a6;go_wp2;go_ret2;exact⟨r4,_,0,0,rfl,hid (Or.inl ⟨rfl,rfl,rfl⟩),hid (by rw[n.out,b1.out]),b2.out⟩
  ·have HE:=hid I;have n:Hid (ZdK (bl q) (bl s) f l st=([],(Zbp (bl s)).1,(Zbp (bl s)).2)):=hid (L.out _ (by rw[if_pos o]));clear M N I o;go_wp2;go_ret2;exact⟨_,_,_,_,rfl,HE,n,j.out⟩
theorem Zpy(q s:BA)(f l st:Int)(A:Nat->Addr)(m:Int)(w:World)(C:Vars w A m)(F:ZR w)(D:20<=w.heap.size)(G:q.size<=9223372036854775807)(H:s.size<=maxLen) :
  CP 10 #[.string q,.string s,.agg #[Vi f,Vi l,Vi st]] w fun e u=>∃(r:BA) (c p:Nat),e=.returned (.tuple #[.string r,Vi c,Vi p])/\Hid (ZdK (bl q) (bl s) f l st=(bl r,c,p))/\BW w u:=by
 have I:Hid (Vars w A m):=C;have J:Hid (∀W,BW w W->CP 23 #[.string q,.string s,.agg #[Vi f,Vi l,Vi st]] W _):=hid (fun W E=>ZvS q s f l st A m W (C.below E) (F.low E D) (Yah D E.size) G H);clear C F D G H;go_enter func10,ntmps10
 go_wp2_with fail
 refine Zm fun W K=>?_;have v:BW w W:=by rw[K];exact Zbal
 refine(J.out W v).mono ?_;rintro e y ⟨r,err,c,p,rfl,j,o,B⟩;have d:Hid (BW w y):=hid (v.trans (B.mono v.size));have g:=hid (I.below d.out);clear B v K J I;rcases j.out with ⟨rfl,rfl,rfl⟩|⟨rfl,rfl,rfl⟩|⟨rfl,rfl,rfl⟩|⟨rfl,rfl,rfl⟩|⟨rfl,rfl,rfl⟩|⟨fa,rfl,L,h⟩
 ·clear j
  go_wp2_with fail
  refine(Zik A m g.out).mono ?_;rintro e t ⟨rfl,rfl⟩
  go_wp2_with fail
  refine(Ziq).mono ?_;rintro e z ⟨rfl,a⟩;have i:Hid (BW w z):=hid (d.trans (a.mono d.size));clear a;go_wp2
  go_ret3
  exact⟨r,_,_,rfl,o,i.out⟩
 ·clear j
  go_wp2_with fail
  refine(ZjQ A m g.out).mono ?_;rintro e t ⟨rfl,rfl⟩
  go_wp2_with fail
  refine(Zdm A m g.out).mono ?_;rintro e z ⟨rfl,a⟩;have i:Hid (BW w z):=hid (d.trans (a.mono d.size));clear a;go_wp2
  go_ret3
  exact⟨r,_,_,rfl,o,i.out⟩
 ·clear j
  go_wp2_with fail
  refine(Zmu A m g.out).mono ?_;rintro e t ⟨rfl,rfl⟩
  go_wp2_with fail
  refine(Zdm A m g.out).mono ?_;rintro e z ⟨rfl,a⟩;have i:Hid (BW w z):=hid (d.trans (a.mono d.size));clear a;go_wp2
  go_ret3
  exact⟨r,_,_,rfl,o,i.out⟩
 ·clear j
  go_wp2_with fail
  refine(Zrk A m g.out).mono ?_;rintro e t ⟨rfl,rfl⟩
  go_wp2_with fail
  refine(Zdm A m g.out).mono ?_;rintro e z ⟨rfl,a⟩;have i:Hid (BW w z):=hid (d.trans (a.mono d.size));clear a;go_wp2
  go_ret3
  exact⟨r,_,_,rfl,o,i.out⟩
 ·clear j
  go_wp2_with fail
  refine(Zrm A m g.out).mono ?_;rintro e t ⟨rfl,rfl⟩
  go_wp2_with fail
  refine(Zdm A m g.out).mono ?_;rintro e z ⟨rfl,a⟩;have i:Hid (BW w z):=hid (d.trans (a.mono d.size));clear a;go_wp2
  go_ret3
  exact⟨r,_,_,rfl,o,i.out⟩
 ·have x:Hid (y.cell? ⟨fa,1,none⟩=some (Vi p)):=L;clear j L;rcases h with ⟨rfl,k⟩|⟨rfl,k⟩|⟨rfl,k⟩|⟨rfl,k⟩
  ·have n:=hid k;clear k
   go_wp2_with fail
   refine(Zmt A m g.out fa n.out).mono ?_;rintro e t ⟨rfl,rfl⟩
   go_wp2_with fail
   refine(ZdB A m fa p g.out x.out).mono ?_;rintro e z ⟨rfl,a⟩;have i:Hid (BW w z):=hid (d.trans (a.mono d.size));clear a;go_wp2
   go_ret3
   exact⟨r,_,_,rfl,o,i.out⟩
  ·have n:=hid k;clear k
   go_wp2_with fail
   refine(Zms A m g.out fa n.out).mono ?_;rintro e t ⟨rfl,rfl⟩
   go_wp2_with fail
   refine(ZdB A m fa p g.out x.out).mono ?_;rintro e z ⟨rfl,a⟩;have i:Hid (BW w z):=hid (d.trans (a.mono d.size));clear a;go_wp2
   go_ret3
   exact⟨r,_,_,rfl,o,i.out⟩
  ·have n:=hid k;clear k
   go_wp2_with fail
   refine(Zrl A m g.out fa n.out).mono ?_;rintro e t ⟨rfl,rfl⟩
   go_wp2_with fail
   refine(ZdB A m fa p g.out x.out).mono ?_;rintro e z ⟨rfl,a⟩;have i:Hid (BW w z):=hid (d.trans (a.mono d.size));clear a;go_wp2
   go_ret3
   exact⟨r,_,_,rfl,o,i.out⟩
  ·have n:=hid k;clear k
   go_wp2_with fail
   refine(Zrn A m g.out fa n.out).mono ?_;rintro e t ⟨rfl,rfl⟩
   go_wp2_with fail
   refine(ZdB A m fa p g.out x.out).mono ?_;rintro e z ⟨rfl,a⟩;have i:Hid (BW w z):=hid (d.trans (a.mono d.size));clear a;go_wp2
   go_ret3
   exact⟨r,_,_,rfl,o,i.out⟩
def awQ:LB:=[97,43,98,42,99]
def awP:LB:=[97,32,43,32,98,32,42,32,99]
def awE:LB:=[99,32,43,32,100]
def awS:LB:=[99,123,104,61,97,125,32,49,58,53,32,52,58,56,10,99,123,104,61,98,125,32,52,58,50,10,100,123,104,61,97,125,32,52,58,51]
def awA:LB:=[49,10,52,32,123,104,61,97,125,49,49]
theorem ZtT:Zey awQ=(awP,0,0):=by kernel_rfl
theorem ZtS:ZdK awE awS 1 4 3=(awA,0,0):=by kernel_rfl
theorem ZgF{r:BA}(h:bl r=l):r=⟨l.toArray⟩:=ZcW (by rw[h,ZbF])
theorem ZtU(A:Nat->Addr)(m:Int)(w:World)(n:Vars w A m)(o:ZR w)(f:20<=w.heap.size) :
  CP 8 #[] w fun e u=>e=.returned (.bool true)/\BW w u:=by
 have t : Hid (∀ W, BW w W -> CP 9 #[.string ⟨awQ.toArray⟩] W fun e u => e = .returned (.tuple #[.string ⟨awP.toArray⟩, Vi 0, Vi 0]) /\ BW W u) := hid (fun W d => (Zpz ⟨awQ.toArray⟩ A m W (n.below d) (o.low d f) (Yah f d.size) Dc).mono (fun e u ⟨r, c, p, g, q, _, s⟩ => by
   have h:=q.out;rw[ZbF,ZtT]at h;injection h with k1 k2;injection k2 with k2 k3;subst k2 k3;rw[ZgF k1.symm]at g;exact⟨g,s⟩))
 have v : Hid (∀ W, BW w W -> CP 10 #[.string ⟨awE.toArray⟩, .string ⟨awS.toArray⟩, .agg #[Vi 1, Vi 4, Vi 3]] W fun e u => e = .returned (.tuple #[.string ⟨awA.toArray⟩, Vi 0, Vi 0]) /\ BW W u) := hid (fun W d => (Zpy ⟨awE.toArray⟩ ⟨awS.toArray⟩ 1 4 3 A m W (n.below d) (o.low d f) (Yah f d.size) Dc Dc).mono (fun e u ⟨r, c, p, g, q, s⟩ => by
   have h:=q.out;rw[ZbF,ZbF,ZtS]at h;injection h with k1 k2;injection k2 with k2 k3;subst k2 k3;rw[ZgF k1.symm]at g;exact⟨g,s⟩))
 clear n o f;go_enter func8,ntmps8
 go_wp2_with fail
 refine Zm fun W i=>?_;have a:BW w W:=by rw[i];exact Yaf _ _
 refine(t.out W a).mono ?_;rintro e y ⟨rfl,j⟩;have k:Hid (BW w y):=hid (a.trans (j.mono a.size));clear j a i t
 go_wp2_with fail
 refine Zm fun W i=>?_;have a:BW w W:=by rw[i];exact k.out
 refine(v.out W a).mono ?_;rintro e z ⟨rfl,l⟩;have x:Hid (BW w z):=hid (a.trans (l.mono a.size));clear l a i v k;go_wp2;go_ret;exact⟨rfl,x.out⟩
theorem ZRP  (c : k < n) : (List.range n).map (fun i => (k + i) % n) = (List.range n).drop k ++ (List.range n).take k := by
  refine List.ext_getElem (by simp;omega) (fun i a d=>?_);rw[Yak,Ygy]at a;rw[List.getElem_map,List.getElem_range,List.getElem_append];split
  · rename_i h
    rw[Ybv,Ygy]at h;rw[List.getElem_drop,List.getElem_range,Nat.mod_eq_of_lt Om]
  · rename_i h
    rw[Ybv,Ygy]at h;rw[List.getElem_take,List.getElem_range,Ybv,Ygy,Nat.mod_eq_sub_mod Om,Nat.mod_eq_of_lt Om];omega
theorem ZQY  (a : k < n) : ((List.range n).map (fun i => (k + i) % n)).Perm (List.range n) := by
  rw[ZRP a];refine List.perm_append_comm.trans ?_;rw[Ycn]
theorem ZQW(a:k<n)(back:Bool):((List.range n).map (ixF n k back)).Perm (List.range n):=by
 cases back with
 | false=>exact ZQY a
 | true=>
  have e:(List.range n).map (ixF n k true)=((List.range n).map (fun i=>(k+i) % n)).map (fun x=>n - 1 - x):=by rw[Yb1];rfl
  rw[e];refine((ZQY a).map _).trans ?_;have er:(List.range n).map (fun x=>n - 1 - x)=(List.range n).reverse:=List.ext_getElem (by simp) (fun i c d=>by simp);rw[er];exact List.reverse_perm _
theorem ZRJ(Sx:Nat->BA)(a:k<n)(back:Bool):(split 10 (ZQO Sx n 0 false n)).Perm (split 10 (ZQO Sx n k back n)):=by
 refine ZRI ?_;have e:∀(k:Nat) (b:Bool),((List.range n).map fun j=>bl (Sx (ixF n k b j)))=((List.range n).map (ixF n k b)).map fun x=>bl (Sx x):=fun k b=>by rw[Yb1];rfl
 rw[e,e];exact((ZQW Om false).trans (ZQW a back).symm).map _
theorem ZQ2(a:Addr)(i:Nat):(a.add i).block=a.block:=by unfold Addr.add;split <;> rfl
theorem ZQ4{w':World}(h:BW w w'){a:Addr}{Sx:Nat->BA}(c:0<n->a.block<w.heap.size)(d:∀i,i<n->w.cell? (a.add i)=some (.string (Sx i))):∀i,i<n->w'.cell? (a.add i)=some (.string (Sx i)):=by
 intro i e;rw[<-d i e];exact Ycc (by rw[ZQ2];exact h.block a.block (c Om))
theorem ZQZ{a b:LB}(h:(split 10 a).Perm (split 10 b))(q:LB)(f l st:Int):((Zbp a).1=0/\(Zbp b).1=0/\ZdK q a f l st=ZdK q b f l st)∨((Zbp a).1≠0/\(Zbp b).1≠0):=by
 by_cases c:(Zbp a).1=0
 ·exact Or.inl ⟨c,(ZQX h).1 c,ZQ5 h c q f l st⟩
 ·exact Or.inr ⟨c,fun d=>c ((ZQX h).2 d)⟩
theorem ZRS(ao:Option Addr)(n cap:Nat)(c:Int)(back:Bool)(q:BA)(f l st:Int)(Sx:Nat->BA)(A:Nat->Addr)(m:Int)(w:World)(hv:Vars w A m)(ht:ZR w)(V:20<=w.heap.size)(hn:n<=1048576)(a3 : -9223372036854775808<=c)(a4:c<=9223372036854775807)(hq:q.size<=9223372036854775807)
  (ha:(ao=none/\n=0/\cap=0)∨∃a:Addr,ao=some a/\(0<n->a.block<w.heap.size)/\(∀i,i<n->w.cell? (a.add i)=some (.string (Sx i)))/\∀i,i<n->(Sx i).size<=1048576) :
  CP 5 #[.slice ao n cap,Vi c,.bool back,.string q,.agg #[Vi f,Vi l,Vi st]] w fun e u=>e=.returned (.bool true)/\BW w u:=by
 have HA:Hid (∀W,BW w W->CP 8 #[] W _):=hid (fun W D=>ZtU A m W (hv.below D) (ht.low D V) (Yah V D.size));have T:Hid (∀(s:BA) W,s.size<=maxLen->BW w W->CP 10 #[.string q,.string s,.agg #[Vi f,Vi l,Vi st]] W _):=hid (fun s W hs D=>Zpy q s f l st A m W (hv.below D) (ht.low D V) (Yah V D.size) hq hs);have U:Hid (∀(s:BA) W,s.size<=maxLen->BW w W->CP 13 #[.string s] W fun e u=>∃c p:Nat,e=.returned (.tuple #[Vi c,Vi p])/\Hid ((Zbp (bl s)).1=c)/\BW W u):=hid (fun s W hs D=>(ZQ6 s A m W (hv.below D) hs).mono (fun e u ⟨h,j⟩=>⟨_,_,h,hid rfl,j⟩))
 have HJ : Hid (∀ (W : World) (k : Nat) (bk : Bool), BW w W -> k <= n -> CP 11 #[.slice ao n cap, Vi k, .bool bk] W fun e u => ∃ r : BA, e = .returned (.string r) /\ Hid (bl r = ZQO Sx n k bk n) /\ r.size <= maxLen /\ u = W) := hid (fun W k bk D hk => by
   rcases ha with ⟨rfl,rfl,rfl⟩|⟨a,rfl,h,j,P⟩
   · refine(ZRM k bk W).mono ?_
     rintro e u ⟨rfl,rfl⟩;exact⟨_,rfl,hid rfl,by decide,rfl⟩
   · refine(ZRL a n cap k bk Sx W hn hk (ZQ4 D h j) P).mono ?_
     rintro e u ⟨r,rfl,h4,h5,rfl⟩;exact⟨r,rfl,h4,Yah h5 (by unfold maxLen;decide),rfl⟩)
 clear hv ht V hq ha;go_enter func5,ntmps5
 go_wp2_with fail
 refine Zm fun W hW=>?_;have Q:BW w W:=by rw[hW];exact Zbal
 have HX:Hid (BAt W w.heap.size [Vi f,Vi l,Vi st] 23):=hid (by rw[hW];exact Go.Deep.blk_alloc_new _ _);refine(HA.out W Q).mono ?_;rintro e y ⟨rfl,X⟩;have g:Hid (BW w y):=hid (Q.trans (X.mono Q.size));have R:=hid (HX.below X);clear X Q hW HA HX
 go_wp2_with fail
 refine(HJ.out y 0 false g.out (Yag _)).mono ?_;rintro e z ⟨a,rfl,S,L,rfl⟩;by_cases h0:n=0
 ·have E:Hid ((split 10 (bl a)).Perm (split 10 (bl (⟨#[]⟩:BA)))):=hid (by rw[S.out,h0];exact Ygz _);have F:(⟨#[]⟩:BA).size<=maxLen:=by decide
  subst h0;clear S HJ
  go_wp2_with fail
  refine(U.out a _ L g.out).mono ?_;rintro e Y ⟨la,ma,rfl,o,G⟩;have t:Hid (BW w Y):=hid (g.trans (G.mono g.size));have M:=hid (R.below G);clear G g R
  go_wp2_with fail
  refine(U.out ⟨#[]⟩ Y F t.out).mono ?_;rintro e Z ⟨lb,mb,rfl,v,H⟩;have x:Hid (BW w Z):=hid (t.trans (H.mono t.size));have d:=hid (M.below H);clear H t M;have x0:=d.cell 0;have x1:=d.cell 1;have x2:=d.cell 2;simp only[Zget]at x0 x1 x2
  go_wp2_with fail
  clear x0 x1 x2;refine(T.out a Z L x.out).mono ?_;rintro e w7 ⟨ra,ca,pa,rfl,I,J⟩;have B:Hid (BW w w7):=hid (x.trans (J.mono x.size));have C:=hid (d.below J);clear J x d;have x0:=C.cell 0;have x1:=C.cell 1;have x2:=C.cell 2;simp only[Zget]at x0 x1 x2
  go_wp2_with fail
  clear x0 x1 x2;refine(T.out ⟨#[]⟩ w7 F B.out).mono ?_;rintro e w8 ⟨rb,cb,pb,rfl,K,N⟩;have O:Hid (BW w w8):=hid (B.trans (N.mono B.size));clear N B C T U;rcases ZQZ E.out (bl q) f l st with ⟨h,j,P⟩|⟨h,j⟩
  ·have he:=I.symm.trans (P.trans K.out);injection he with g1 g2;injection g2 with g2 g3;obtain rfl:ra=rb:=ZcW g1;subst g2 g3;obtain rfl:la=0:=o.symm.trans h;obtain rfl:lb=0:=v.symm.trans j;clear h j P I K g1 E o v;go_wp2;go_ret;exact⟨by simp,O.out⟩
  ·rw[o.out]at h;rw[v.out]at j;have e1:((la:Int) == 0)=false:=by rw[beq_eq_false_iff_ne];omega
   have e2:((lb:Int) == 0)=false:=by rw[beq_eq_false_iff_ne];omega
   have n1:¬((la:Int)=0):=by omega
   have n2:¬((lb:Int)=0):=by omega
   clear h j I K E o v;go_wp2;go_ret;exact⟨by simp,O.out⟩
 ·obtain⟨k,hk⟩:∃k:Nat,Zd6 c n=k:=⟨(Zd6 c n).toNat,by have:=ZmM c n Om;omega⟩
  have a0:k<n:=by have:=ZmM c n Om;omega
  have a5:0<(n:Int):=by omega
  have a1:(n:Int)<=9223372036854775807:=by omega
  go_wp2_with fail
  refine(ZAC c n a3 a4 Om a1).mono ?_;rintro e w3 ⟨rfl,rfl⟩;rw[hk]
  go_wp2_with fail
  refine(HJ.out _ k back g.out Om).mono ?_;rintro e w4 ⟨b,rfl,a2,F,rfl⟩;have E:Hid ((split 10 (bl a)).Perm (split 10 (bl b))):=hid (by rw[S.out,a2.out];exact ZRJ Sx a0 back);clear S a2 HJ hk a0 a5 a1
  go_wp2_with fail
  refine(U.out a _ L g.out).mono ?_;rintro e Y ⟨la,ma,rfl,o,G⟩;have t:Hid (BW w Y):=hid (g.trans (G.mono g.size));have M:=hid (R.below G);clear G g R
  go_wp2_with fail
  refine(U.out b Y F t.out).mono ?_;rintro e Z ⟨lb,mb,rfl,v,H⟩;have x:Hid (BW w Z):=hid (t.trans (H.mono t.size));have d:=hid (M.below H);clear H t M;have x0:=d.cell 0;have x1:=d.cell 1;have x2:=d.cell 2;simp only[Zget]at x0 x1 x2
  go_wp2_with fail
  clear x0 x1 x2;refine(T.out a Z L x.out).mono ?_;rintro e w7 ⟨ra,ca,pa,rfl,I,J⟩;have B:Hid (BW w w7):=hid (x.trans (J.mono x.size));have C:=hid (d.below J);clear J x d;have x0:=C.cell 0;have x1:=C.cell 1;have x2:=C.cell 2;simp only[Zget]at x0 x1 x2
  go_wp2_with fail
  clear x0 x1 x2;refine(T.out b w7 F B.out).mono ?_;rintro e w8 ⟨rb,cb,pb,rfl,K,N⟩;have O:Hid (BW w w8):=hid (B.trans (N.mono B.size));clear N B C T U;rcases ZQZ E.out (bl q) f l st with ⟨h,j,P⟩|⟨h,j⟩
  ·have he:=I.symm.trans (P.trans K.out);injection he with g1 g2;injection g2 with g2 g3;obtain rfl:ra=rb:=ZcW g1;subst g2 g3;obtain rfl:la=0:=o.symm.trans h;obtain rfl:lb=0:=v.symm.trans j;clear h j P I K g1 E o v;go_wp2;go_ret;exact⟨by simp,O.out⟩
  ·rw[o.out]at h;rw[v.out]at j;have e1:((la:Int) == 0)=false:=by rw[beq_eq_false_iff_ne];omega
   have e2:((lb:Int) == 0)=false:=by rw[beq_eq_false_iff_ne];omega
   have n1:¬((la:Int)=0):=by omega
   have n2:¬((lb:Int)=0):=by omega
   clear h j I K E o v;go_wp2;go_ret;exact⟨by simp,O.out⟩

/- Parts. -/
import Derived.Test.YtkodhpilkaihjaaGreatDoorF26
import Derived.Test.YtkodhpilkaihjaaGreatDoorF18
set_option linter.all false
set_option maxRecDepth 100000
set_option maxHeartbeats 16000000
namespace Go.Proofs.YtkodhpilkaihjaaGreatDoor
open Go.RowKit LS Go.Proofs.Tryz
variable {es:Array MapEntry}{t:Int}{ss:List (Option Cl)}{ys ys':List Cl}{ser:List Ser}{vs vs' xs:List Value}{m:MQ}{base cl gb gx mb n sc sn x:Nat}{av sa sa':Option Addr}{al c0 c1 c2 c3 st v:Value}{a w w' w0:World}
section
variable {x mb gb:Nat} {sv:Value} {ss:List Srs} {tm:Int}
theorem ZBT(nd:Nd)(l r:Tr)(a b:Nat)(G:nd.jj=1)(o:Dst (ss.map Srs.ser))(s : -1000000<=tm)(t:tm<=1000000):ZcC x mb gb sv ss tm (.node a b nd l r):=by
 intro pv w k v
 obtain⟨nm,la,ln,lc,z,p,q⟩:∃(nm:BA) (la:Option Addr) (ln lc:Nat),pv=.iface 281 (.agg #[.string nm,.slice la ln lc])/\bl nm=nd.name/\ZX w (.slice la ln lc) nd.kq:=by
  rcases v with ⟨h,_⟩|⟨_,h⟩|⟨h,_⟩|⟨h,_⟩|⟨h,_⟩|⟨h,_⟩
  ·omega
  ·exact h
  all_goals omega
 subst z;obtain⟨sa,scp,rfl⟩:=Zl k.sto.row;have H:Hid (sayT (ss.map Srs.ser) tm (.node a b nd l r)=.inr (Zc4 (ss.map Srs.ser) nd none 10 tm)):=hid (by rw[sayT,if_neg Om,if_pos G]);have I:Hid (MOk x mb gb (.slice sa ss.length scp) ss tm w):=k;have A:Hid (∀W,BW w W->CP 170 #[.slice sa ss.length scp,.agg #[.string nm,.slice la ln lc],Vi tm] W _):=hid (fun W i=>ZrF _ ss nm la ln lc nd tm W (k.below i).sto o p (q.below i) s t);clear v k p q o;have J:=ZhE (.agg #[.string nm,.slice la ln lc]);have K:=ZhD (.agg #[.string nm,.slice la ln lc]);have L:=ZhF (.agg #[.string nm,.slice la ln lc]);have M:=ZhC (.agg #[.string nm,.slice la ln lc]);have N:=ZhG (.agg #[.string nm,.slice la ln lc]);have O:=ZgD (.agg #[.string nm,.slice la ln lc]);go_enter func95,ntmps95
 go_upto_region 22 with fail
 refine ZP fun W i=>?_;have j:BW w W:=by rw[i];exact Zbal
 have n:Hid (BAt W w.heap.size [.string nm,.slice la ln lc] 281):=hid (by rw[i];exact Go.Deep.blk_alloc_new _ _);have g:=hid (I.below j);have c:Hid (BW w W):=hid j;clear i j J K L M N O;have x0:=n.cell 0;have x1:=n.cell 1;have m0:=g.m.cell 0;have m1:=g.m.cell 1;simp only[Zget]at x0 x1 m0 m1
 go_region_held3 (fun u => u.cell? ⟨w.heap.size, 0, none⟩ = some (.string nm) /\ u.cell? ⟨w.heap.size, 1, none⟩ = some (.slice la ln lc) /\ u.cell? ⟨mb, 0, none⟩ = some (.slice sa ss.length scp) /\ u.cell? ⟨mb, 1, none⟩ = some (Vi tm)) (first | exact ⟨x0, x1, m0, m1⟩ | exact B.out | go_keep) (first
   | (go_at_call 170
      refine(A.out _ (by exact⟨c.os,c.tape,c.output,c.size,c.block⟩)).mono ?_;rintro e C ⟨v5,is5,rfl,D,d⟩;have f:Hid (BW W C):=hid ⟨d.os,d.tape,d.output,d.size,d.block⟩;have B:=hid (And.intro ((n.below f.out).cell 0) (And.intro ((n.below f.out).cell 1) (And.intro ((g.below f.out).m.cell 0) ((g.below f.out).m.cell 1))));clear d))
 have E:Hid (BelX x w.heap.size w C):=hid (BelX.of (c.trans (f.mono c.size)));have F:=hid (g.below f.out);go_wp2;go_ret;exact⟨_,rfl,hid (by rw[H.out];exact⟨_,is5,rfl,D.out⟩),F,E⟩
theorem ZBU(nd:Nd)(l r:Tr)(a b:Nat)(V:nd.jj=2)(t:nd.op<=4)(I:1<=nd.n/\nd.n<=1000)(v:Dst (ss.map Srs.ser))(J : -1000000<=tm)(K:tm<=1000000):ZcC x mb gb sv ss tm (.node a b nd l r):=by
 intro pv w k L
 obtain⟨c,nm,la,ln,lc,M,z,A,B⟩:∃(c nm:BA) (la:Option Addr) (ln lc:Nat),pv=.iface 283 (.agg #[.string c,.string nm,.slice la ln lc,Vi nd.n])/\bl c=Z0.getD nd.op []/\bl nm=nd.name/\ZX w (.slice la ln lc) nd.kq:=by
  rcases L with ⟨h,_⟩|⟨h,_⟩|⟨_,h⟩|⟨h,_⟩|⟨h,_⟩|⟨h,_⟩
  ·omega
  ·omega
  ·exact h
  all_goals omega
 subst M;obtain⟨sa,scp,rfl⟩:=Zl k.sto.row;have N:Hid (sayT (ss.map Srs.ser) tm (.node a b nd l r)=.inr (Zc4 (ss.map Srs.ser) nd (some nd.op) nd.n tm)):=hid (by rw[sayT,if_neg Om,if_neg Om,if_pos V]);have X:Hid (MOk x mb gb (.slice sa ss.length scp) ss tm w):=k;have C:Hid (∀W,BW w W->CP 169 #[.slice sa ss.length scp,.agg #[.string nm,.slice la ln lc],Vi nd.n,Vi tm] W _):=hid (fun W j=>ZmR _ ss nm la ln lc nd nd.n tm W (k.below j).sto A (B.below j) Om I.2 J K);have O:Hid (∀W,CP 166 #[.string c] W _):=hid (fun W=>ZqY c nd.op t z W);have P:Hid (Dst (ss.map Srs.ser)):=v;have Q:Hid (ss.length<=30):=hid k.sto.len;clear L k A B v z I;obtain⟨nn,D⟩:∃nn,nn=nd.n:=⟨_,rfl⟩
 rw[<-D]at C N ⊢;clear D;have G:=ZhJ (.agg #[.string c,.string nm,.slice la ln lc,Vi nn]);have H:=ZhI (.agg #[.string c,.string nm,.slice la ln lc,Vi nn]);have Y:=ZhK (.agg #[.string c,.string nm,.slice la ln lc,Vi nn]);have Z:=ZhH (.agg #[.string c,.string nm,.slice la ln lc,Vi nn]);have h5:=ZhL (.agg #[.string c,.string nm,.slice la ln lc,Vi nn]);go_enter func95,ntmps95
 go_upto_region 19 with fail
 refine ZP fun W j=>?_;have o:BW w W:=by rw[j];exact Zbal
 have g:Hid (BAt W w.heap.size [.string c,.string nm,.slice la ln lc,Vi nn] 283):=hid (by rw[j];exact Go.Deep.blk_alloc_new _ _);have i:=hid (X.below o);have d:Hid (BW w W):=hid o;clear j o G H Y Z h5;have x0:=g.cell 0;have x1:=g.cell 1;have x2:=g.cell 2;have x3:=g.cell 3;have m0:=i.m.cell 0;have m1:=i.m.cell 1;simp only[Zget]at x0 x1 x2 x3 m0 m1;have E:Hid (∀u,BW W u->u.cell? ⟨w.heap.size,0,none⟩=some (.string c)/\u.cell? ⟨w.heap.size,1,none⟩=some (.string nm)/\u.cell? ⟨w.heap.size,2,none⟩=some (.slice la ln lc)/\u.cell? ⟨w.heap.size,3,none⟩=some (Vi nn)/\u.cell? ⟨mb,0,none⟩=some (.slice sa ss.length scp)/\u.cell? ⟨mb,1,none⟩=some (Vi tm)):=hid (fun u h=>⟨(g.below h).cell 0,(g.below h).cell 1,(g.below h).cell 2,(g.below h).cell 3,(i.below h).m.cell 0,(i.below h).m.cell 1⟩)
 go_region_held3 (fun u => u.cell? ⟨w.heap.size, 0, none⟩ = some (.string c) /\ u.cell? ⟨w.heap.size, 1, none⟩ = some (.string nm) /\ u.cell? ⟨w.heap.size, 2, none⟩ = some (.slice la ln lc) /\ u.cell? ⟨w.heap.size, 3, none⟩ = some (Vi nn) /\ u.cell? ⟨mb, 0, none⟩ = some (.slice sa ss.length scp) /\ u.cell? ⟨mb, 1, none⟩ = some (Vi tm)) (first | exact ⟨x0, x1, x2, x3, m0, m1⟩ | exact E.out _ p.out | exact E.out _ q.out | go_keep) (first
   | (go_at_call 166
      refine(O.out _).mono ?_;rintro e w4 ⟨rfl,rfl⟩)
   | (go_at_call 169
      refine(C.out _ (by exact⟨d.os,d.tape,d.output,d.size,d.block⟩)).mono ?_;rintro e w5 ⟨v5,rs5,rfl,s,f⟩;have q:Hid (BW W w5):=hid ⟨f.os,f.tape,f.output,f.size,f.block⟩;clear f)
   | (go_at_call 168
      refine(ZrE nd.op t v5 rs5 (ss.map Srs.ser) nd nn tm _ s.1 s.2 P.out (by
        have G:=congrArg List.length s.2;rw[Yak]at G;have H:=ZmZ (ss.map Srs.ser) nd nn tm;rw[Yak]at H;have:=Q.out;omega)).mono ?_
      rintro e R ⟨v6,is6,rfl,S,F⟩;have p:Hid (BW W R):=hid (q.trans (F.mono q.size));clear F))
 have T:Hid (BelX x w.heap.size w R):=hid (BelX.of (d.trans (p.mono d.size)));have U:=hid (i.below p.out);go_wp2;go_ret;exact⟨_,rfl,hid (by rw[N.out];exact⟨_,is6,rfl,S.out⟩),U,T⟩
theorem ZBS(nd:Nd)(l r:Tr)(a b:Nat)(o:nd.jj=6)(t:ZdN (sayT (ss.map Srs.ser) tm l)=true)(u:ZdN (sayT (ss.map Srs.ser) tm r)=true)(f:ZcC x mb gb sv ss tm l)(g:ZcC x mb gb sv ss tm r):ZcC x mb gb sv ss tm (.node a b nd l r):=by
 intro pv w k v
 obtain⟨p,q,i,m,n⟩:∃p q,pv=.iface 268 (.agg #[Vi (opNo nd),p,q])/\Zh w l p/\Zh w r q:=by
  rcases v with ⟨h,_⟩|⟨h,_⟩|⟨h,_⟩|⟨h,_⟩|⟨h,_⟩|⟨_,h⟩
  ·omega
  ·omega
  ·omega
  ·omega
  ·omega
  ·exact h
 have z:opNo nd=0:=by unfold opNo;rw[if_pos o]
 rw[z]at i;subst i;obtain⟨ty,tv,rfl⟩:=m.shape;obtain⟨uy,uv,rfl⟩:=n.shape;have D:Hid (sayT (ss.map Srs.ser) tm (.node a b nd l r)=if (Zcm (sayT (ss.map Srs.ser) tm l)).isEmpty then sayT (ss.map Srs.ser) tm r else sayT (ss.map Srs.ser) tm l):=hid (by rw[sayT,if_neg Om,if_neg Om,if_neg Om,if_neg Om,if_neg Om,if_pos o]);have G:Hid (MOk x mb gb sv ss tm w):=k;have E:Hid (∀W,BW w W->CP 161 #[Vp mb,.iface ty tv,.iface uy uv] W (EitP x mb gb sv ss tm l r W)):=hid (fun W d=>ZvE l r t u f g ty uy tv uv W (k.below d) (m.below d) (n.below d));clear v k m n t u f g z;have H:=ZgB (.agg #[Vi (0:Nat),.iface ty tv,.iface uy uv]);have I:=ZgA (.agg #[Vi (0:Nat),.iface ty tv,.iface uy uv]);have J:=ZgC (.agg #[Vi (0:Nat),.iface ty tv,.iface uy uv]);simp only[Int.natCast_zero]at *
 go_enter func95,ntmps95
 go_wp2_with fail
 refine Zm fun W d=>?_;have c:BW w W:=by rw[d];exact Zbal
 clear d;refine(E.out W c).mono ?_;rintro e F ⟨s,l5,is5,rfl,j,A,B⟩;have C:Hid (BelX x w.heap.size w F):=hid ((BelX.of c).trans (B.mono c.size));clear c;go_wp2;go_ret;exact⟨_,rfl,hid (by rw[D.out,j.2];exact⟨_,is5,rfl,j.1⟩),A,C⟩
end
section
variable {x mb gb:Nat} {sv:Value} {ss:List Srs} {tm:Int}
theorem MapX.lt{x:Nat}(h:MapX w x):x<w.heap.size:=by
 obtain⟨es,cl,a⟩:=h;exact(Yae.1 a).1
theorem ZBO(nd:Nd)(l r:Tr)(a b:Nat)(hk:nd.jj=4)(S:nd.op<=3)(B:VOk 1000 (sayT (ss.map Srs.ser) tm r))(C:ZcC x mb gb sv ss tm l)(D:ZcC x mb gb sv ss tm r):ZcC x mb gb sv ss tm (.node a b nd l r):=by
 intro pv w K T
 obtain⟨p,q,E,L,M⟩:∃p q,pv=.iface 268 (.agg #[Vi (opNo nd),p,q])/\Zh w l p/\Zh w r q:=by
  rcases T with ⟨h,_⟩|⟨h,_⟩|⟨h,_⟩|⟨h,_⟩|⟨h,_⟩|⟨_,h⟩
  ·omega
  ·omega
  ·omega
  ·omega
  ·omega
  ·exact h
 have U:opNo nd=nd.op+1:=by unfold opNo;rw[if_neg Om]
 rw[U]at E;subst E;obtain⟨ty,tv,rfl⟩:=L.shape;obtain⟨uy,uv,rfl⟩:=M.shape;have HS:Hid (sayT (ss.map Srs.ser) tm (.node a b nd l r)=Zdg nd.op (sayT (ss.map Srs.ser) tm l) (sayT (ss.map Srs.ser) tm r)):=hid (by rw[sayT,if_neg Om,if_neg Om,if_neg Om,if_neg Om,if_neg Om,if_neg Om]);have HM:Hid (MOk x mb gb sv ss tm w):=K;have V:Hid (Zh w l (.iface ty tv)/\Zh w r (.iface uy uv)):=⟨L,M⟩
 have X:Hid (VOk 1000 (sayT (ss.map Srs.ser) tm r)):=B;have Y:Hid (∀W,MOk x mb gb sv ss tm W->Zh W l (.iface ty tv)->CP 95 #[Vp mb,.iface ty tv] W (SayP x mb gb sv ss tm l W)):=hid (fun W k n=>C _ W k n);have Z:Hid (∀W,MOk x mb gb sv ss tm W->Zh W r (.iface uy uv)->CP 95 #[Vp mb,.iface uy uv] W (SayP x mb gb sv ss tm r W)):=hid (fun W k n=>D _ W k n);obtain⟨oz,o⟩:∃oz:Int,oz=((nd.op+1:Nat):Int):=⟨_,rfl⟩
 have F:Hid (oz=((nd.op+1:Nat):Int)):=o;have N:(oz == 0)=false:=by rw[beq_eq_false_iff_ne];omega
 rw[<-o];have a7:=K.map.lt;clear T K L M B C D U o;have k:=ZgB (.agg #[Vi oz,.iface ty tv,.iface uy uv]);have n:=ZgA (.agg #[Vi oz,.iface ty tv,.iface uy uv]);have h3:=ZgC (.agg #[Vi oz,.iface ty tv,.iface uy uv]);go_enter func95,ntmps95
 go_upto_region 12 with fail
 refine ZP fun W O=>?_;have f:BW w W:=by rw[O];exact Zbal
 have A:Hid (BAt W w.heap.size [Vi oz,.iface ty tv,.iface uy uv] 268):=hid (by rw[O];exact Go.Deep.blk_alloc_new _ _);have d:=hid (HM.below f);have G:Hid (Zh W l (.iface ty tv)/\Zh W r (.iface uy uv)):=hid ⟨V.1.below f,V.2.below f⟩;have H:Hid (BW w W):=hid f;clear O f k n h3 N;have x0:=A.cell 0;have x1:=A.cell 1;have x2:=A.cell 2;simp only[Zget]at x0 x1 x2
 have t : Hid (∀ u, BelX x W.heap.size W u -> u.cell? ⟨w.heap.size, 0, none⟩ = some (Vi oz) /\ u.cell? ⟨w.heap.size, 1, none⟩ = some (.iface ty tv) /\ u.cell? ⟨w.heap.size, 2, none⟩ = some (.iface uy uv)) := hid (fun u h => by
   have g:=A.belX h Om;exact⟨g.cell 0,g.cell 1,g.cell 2⟩)
 go_region_held3 (fun u => u.cell? ⟨w.heap.size, 0, none⟩ = some (Vi oz) /\ u.cell? ⟨w.heap.size, 1, none⟩ = some (.iface ty tv) /\ u.cell? ⟨w.heap.size, 2, none⟩ = some (.iface uy uv)) (first | exact ⟨x0, x1, x2⟩ | exact t.out _ I.out | exact t.out _ v.out | exact t.out _ j.out | go_keep) (first
   | (go_at_call 95
      refine(Z.out P J.out a0.out).mono ?_;rintro e Q ⟨v6,rfl,a1,a2,i⟩;have v:Hid (BelX x W.heap.size W Q):=hid (j.trans (i.mono j.size));have R:Hid (ValP Q v5 (sayT (ss.map Srs.ser) tm l)):=hid (a3.jk (Zo.belX i.out J.map));clear i)
   | (go_at_call 95
      refine(Y.out _ (by exact⟨d.m,d.g,d.map,⟨d.sto.row,fun s hs=>(d.sto.ok s hs).jk (Zo.refl _),d.sto.len⟩⟩) (by exact G.1.jk (Zo.refl _))).mono ?_;rintro e P ⟨v5,rfl,a3,J,c⟩;have j:Hid (BelX x W.heap.size W P):=hid ⟨c.os,c.tape,c.output,c.size,c.block⟩;have a0:Hid (Zh P r (.iface uy uv)):=hid (G.2.jk (Zo.belX j.out d.map));clear c)
   | (go_at_call 162
      rw[F.out];refine(ZmH nd.op S v5 v6 _ _ Q R.out a1.out X.out).mono ?_;rw[<-F.out];rintro e w7 ⟨v7,rfl,a4,z⟩;have a5:=hid (a2.below z);have I:Hid (BelX x W.heap.size W w7):=hid (v.trans ((BelX.of z).mono v.size));clear z))
 have a6:Hid (BelX x w.heap.size w w7):=hid ((BelX.of H.out).trans (I.mono H.size));go_wp2;go_ret;exact⟨_,rfl,hid (by rw[HS.out];exact a4.out),a5,a6⟩
theorem ZBP(nd:Nd)(l r:Tr)(a b:Nat)(hk:nd.jj=5)(H:nd.op<=3)(A:nd.by_.length<=100000)(I:ZdN (sayT (ss.map Srs.ser) tm l)=true)(J:ZcC x mb gb sv ss tm l):ZcC x mb gb sv ss tm (.node a b nd l r):=by
 intro pv w V hP
 obtain⟨i,la,ln,lc,q,a0,K,a1,X⟩:∃(i:BA) (la:Option Addr) (ln lc:Nat) (q:Value),pv=.iface 274 (.agg #[.string i,.slice la ln lc,q])/\bl i=ZW.getD nd.op []/\Zbm w (.slice la ln lc) nd.by_/\Zh w l q:=by
  rcases hP with ⟨h,_⟩|⟨h,_⟩|⟨h,_⟩|⟨h,_⟩|⟨_,h⟩|⟨h,_⟩
  ·omega
  ·omega
  ·omega
  ·omega
  ·exact h
  ·omega
 subst a0;obtain⟨ty,tv,rfl⟩:=X.shape;obtain⟨bs,B,C⟩:=a1;have L:bs.length<=100000:=by rw[<-C,Yak]at A;exact A
 obtain⟨av,cpv,a2⟩:=Zl B;injection a2 with e1 e2 e3;subst e2;have HS:Hid (sayT (ss.map Srs.ser) tm (.node a b nd l r)=.inr (Zcv nd.op (bs.map bl) (Zcm (sayT (ss.map Srs.ser) tm l)))):=hid (by rw[sayT,if_neg Om,if_neg Om,if_neg Om,if_neg Om,if_pos hk,C]);have HM:Hid (MOk x mb gb sv ss tm w):=V;have HP:Hid (Zh w l (.iface ty tv)):=X;have a3:Hid (w.ownsRow 0 9 1 (.slice la bs.length lc) bs.length (Zbc bs)):=B;have a4:Hid (∀W,MOk x mb gb sv ss tm W->Zh W l (.iface ty tv)->CP 167 #[Vp mb,.iface ty tv] W (VecP x mb gb sv ss tm l W)):=hid (fun W Y Z=>Znu l I J ty tv W Y Z);have a5:Hid (∀W,CP 166 #[.string i] W _):=hid (fun W=>ZqX i nd.op H K W);have b2:=V.map.lt;clear hP V X B I J K C A e1 e3;have Y:=Zhx (.agg #[.string i,.slice la bs.length lc,.iface ty tv]);have Z:=Zhw (.agg #[.string i,.slice la bs.length lc,.iface ty tv]);have h3:=Zhy (.agg #[.string i,.slice la bs.length lc,.iface ty tv]);have h4:=Zhv (.agg #[.string i,.slice la bs.length lc,.iface ty tv]);go_enter func95,ntmps95
 go_wp2_with fail
 refine Zm fun W hW=>?_;have M:BW w W:=by rw[hW];exact Zbal
 have HX:Hid (BAt W w.heap.size [.string i,.slice la bs.length lc,.iface ty tv] 274):=hid (by rw[hW];exact Go.Deep.blk_alloc_new _ _);have j:Hid (BW w W):=hid M;clear hW M Y Z h3 h4;refine(Zs0 W la bs.length lc rfl).mono ?_;rintro e z ⟨rfl,n⟩;have o:BW W z:=by rw[n];exact Zbal
 have N:z.cell? ⟨W.heap.size,0,none⟩=some (.slice la bs.length lc):=by rw[n];exact Ydm _ _ _ _ (by simp) |>.trans rfl
 have O:W.heap.size<z.heap.size:=by rw[n];simp
 have P:=hid (Zsp W.heap.size (.slice la bs.length lc) bs L z O N (Zn a3.out (j.trans (o.mono j.size))));have D:Hid (BW w z):=hid (j.trans (o.mono j.size));have Q:=hid (HX.below o);clear n o N O HX j
 go_wp2_with fail
 refine P.mono ?_;rintro e k ⟨nv,bs',rfl,f,E⟩;have f:=hid (And.intro (f.1.mono (Yag _)) f.2);obtain⟨na,ncp,rfl⟩:=Zl f.1;have p:Hid (BW w k):=hid (D.trans (E.mono D.size));have t:=hid (Q.below E);have c:=hid (HM.below p.out);have a6:Hid (Zh k l (.iface ty tv)):=hid (HP.below p.out);clear E Q D P;have x0:=t.cell 0;have x1:=t.cell 1;have x2:=t.cell 2;have m2:=c.m.cell 2;simp only[Zget]at x0 x1 x2 m2
 have a7:mb≠x:=by
  intro e;obtain⟨es,cl,hx⟩:=c.map;have:=c.m;rw[e]at this;unfold BAt at this;rw[hx]at this;cases this
 have R : Hid (∀ u, BelX x k.heap.size k u -> u.cell? ⟨w.heap.size, 0, none⟩ = some (.string i) /\ u.cell? ⟨w.heap.size, 2, none⟩ = some (.iface ty tv) /\ u.cell? ⟨mb, 2, none⟩ = some (Vp gb)) := hid (fun u h => by
   have g:=t.belX h Om;have g2:=c.m.belX h a7;exact⟨g.cell 0,g.cell 2,g2.cell 2⟩)
 go_upto_region 16 with fail
 go_region_held3 (fun u => u.cell? ⟨w.heap.size, 0, none⟩ = some (.string i) /\ u.cell? ⟨w.heap.size, 2, none⟩ = some (.iface ty tv) /\ u.cell? ⟨mb, 2, none⟩ = some (Vp gb)) (first | exact ⟨x0, x2, m2⟩ | exact R.out _ S.out | exact R.out _ v.out | go_keep) (first
   | (go_at_call 166
      refine(a5.out _).mono ?_;rintro e w4 ⟨rfl,rfl⟩)
   | (go_at_call 167
      refine(a4.out _ (by exact⟨c.m,c.g,c.map,⟨c.sto.row,fun s hs=>(c.sto.ok s hs).jk (Zo.refl _),c.sto.len⟩⟩) (by exact a6.jk (Zo.refl _))).mono ?_;rintro e w6 ⟨v6,l6,is6,rfl,T,F,d⟩;have v:Hid (BelX x k.heap.size k w6):=hid ⟨d.os,d.tape,d.output,d.size,d.block⟩;have a8:=hid ((Zo.belX v.out c.map).own f.1);clear d)
   | (go_at_call 165
      refine(ZqW gb x nd.op H _ bs' v6 l6 is6 w6 F.g F.map a8.out (by rw[f.2.1];exact L) f.2.2.1 T.1).mono ?_;rintro e w7 ⟨v7,is7,rfl,U,G⟩;have a9:=hid (F.belX G U.2);have S:Hid (BelX x k.heap.size k w7):=hid (v.trans (G.mono v.size));clear G))
 have b0:Hid (BelX x w.heap.size w w7):=hid ((BelX.of p.out).trans (S.mono p.size));have b1:Hid (VecV w7 v7 (Zcv nd.op (bs.map bl) l6) is7):=hid (by rw[<-ZpJ f.2.2.2];exact U.1);go_wp2;go_ret;exact⟨_,rfl,hid (by rw[HS.out,T.2];exact⟨_,is7,rfl,b1.out⟩),a9,b0⟩
end
section
variable {x mb gb:Nat} {sv:Value} {ss:List Srs} {tm:Int}
theorem Zm4(k : -1000000<=tm)(m:tm<=1000000)(o:Dst (ss.map Srs.ser))(A:ss.length<=30):∀t:Tr,wfT t->wT t<=100000->winT t->isNil t=false->Zf t≠0->ZcC x mb gb sv ss tm t
 | .nil,_,_,_,h,_=>by cases h
 | .node p q a l r, d, B, i, _, c => by
   have z:ownW a+wT l+wT r<=100000:=B;have u:=d.2.2.2.2.2.2.2.2.2.2.1;have v:=d.2.2.2.2.2.2.2.2.2.2.2;have n:isNil l=false->Zf l≠0->ZcC x mb gb sv ss tm l:=fun h j=>Zm4 k m o A l u Om i.2.1 h j;have w:isNil r=false->Zf r≠0->ZcC x mb gb sv ss tm r:=fun h j=>Zm4 k m o A r v Om i.2.2 h j;have D:=d.1;have f:=d.2.2.2.2.2.2.1;have s:=d.2.2.2.2.2.2.2.1;have vl:isNil l=false->Zf l=2->ZdN (sayT (ss.map Srs.ser) tm l)=true:=fun h j=>by rw[Zj7 _ tm l u h Om,j];rfl
   have vr:isNil r=false->Zf r=2->ZdN (sayT (ss.map Srs.ser) tm r)=true:=fun h j=>by rw[Zj7 _ tm r v h Om,j];rfl
   have kl:=Zid l;have kr:=Zid r;unfold Zf at c;rcases(by omega:a.jj=0∨a.jj=1∨a.jj=2∨a.jj=3∨a.jj=4∨a.jj=5∨a.jj=6)with h|h|h|h|h|h|h
   · exact ZBR a l r p q h (by unfold vOk;have:=d.2.2.2.2.1;have:=d.2.2.2.2.2.1;omega)
   · exact ZBT a l r p q h o k m
   · exact ZBU a l r p q h d.2.1 (i.1 h) o k m
   · rw[if_neg Om,if_neg Om,if_pos h]at c
     exact ZBQ a l r p q h (n (f Om) c)
   · rw[if_neg Om,if_neg Om,if_neg Om,if_neg Om]at c
     by_cases g:Zf l=0∨Zf r=0∨(a.jj=6/\Zf l+Zf r≠4)
     · rw[if_pos g]at c;exact absurd rfl c
     · refine ZBO a l r p q h (d.2.2.1 h) ((Zj8 o tm r).mono (by rw[Yak];omega)) (n (f Om) (fun e=>g (Or.inl e))) (w (s Om) (fun e=>g (Or.inr (Or.inl e))))
   · rw[if_neg Om,if_neg Om,if_neg Om,if_pos h]at c
     by_cases g:Zf l=2
     · refine ZBP a l r p q h (d.2.2.2.1 h) (by have:=Zmw a.by_;unfold ownW at z;omega) (vl (f Om) g) (n (f Om) Om)
     · rw[if_neg g]at c;exact absurd rfl c
   · rw[if_neg Om,if_neg Om,if_neg Om,if_neg Om]at c
     by_cases g:Zf l=0∨Zf r=0∨(a.jj=6/\Zf l+Zf r≠4)
     · rw[if_pos g]at c;exact absurd rfl c
     · have E:Zf l+Zf r=4:=by
         refine Yb6 fun C=>g (Or.inr (Or.inr ⟨h,C⟩))
       exact ZBS a l r p q h (vl (f Om) Om) (vr (s Om) Om) (n (f Om) Om) (w (s Om) Om)
end
section
theorem ZtJ(t:Tr)(ts:List Int)(ss:List Srs)(pv sv tv:Value)(w:World)(e2:ts.length<=50)(Q:∀t∈ts,-1000000<=t/\t<=1000000)(n:w.ownsRow 0 3 1 tv ts.length (ts.map (Value.int .i64)))(hP:Zh w t pv)(hS:StoP w sv ss)
  (G:∀x mb gb tm,-1000000<=tm->tm<=1000000->ZcC x mb gb sv ss tm t) (R:∀tm,VOk 30 (sayT (ss.map Srs.ser) tm t)) (hp:ZR w) (hB:20<=w.heap.size) :
  CP 47 #[pv,sv,tv] w fun e w'=>∃r:BA,e=.returned (.string r)/\Hid (bl r=Zcn (ts.map (Zeu (ss.map Srs.ser) t)))/\BW w w':=by
 obtain⟨i0,hi,S,T,U⟩:=info_parts Tryz.infoStrG;obtain⟨ta,tcp,rfl⟩:=Zl n;obtain⟨sa,scp,rfl⟩:=Zl hS.row;obtain⟨pty,pu,rfl⟩:=hP.shape;have HP:Hid (ZR w):=hp;have V:Hid (20<=w.heap.size):=hB;have b7:Hid (∀t∈ts,-1000000<=t/\t<=1000000):=Q;have H:=hid n;have b8:=hid hP;have b9:=hid hS;have b0:=hid G;have c0:=hid R;clear hp hB Q n hP hS G R;go_enter func47,ntmps47
 go_wp2_with fail
 refine(Zmp w).mono ?_;rintro e w1 ⟨rfl,X,Y,o,Z⟩;have a0:=hid Z;have I:=hid o;clear Z o
 go_wp2_with (at_make;refine wpList_make_own _ rfl _ _ 90 rfl (w.heap.size+3) 9 i0 _ 1 underlying90 hi S T _ _ _ ts.length rfl rfl rfl ?b2 ?b3 ?b4 ?_)
 case b2=>rw[U];omega
 case b3=>unfold maxLen;omega
 case b4=>simp;have:=I.out;omega
 intro z p c;have o:=I.out;have f:Hid (BAt z w1.heap.size [.slice sa ss.length scp,Vi 0,Vp (w.heap.size+1)] 220):=hid (BAt.grown (Go.Deep.blk_alloc_new _ _) c (by simp));have s:Hid (BAt z (w.heap.size+1) [.map (some w.heap.size)] 339):=hid ((Y.alloc _).grown c (by simp));have A:Hid (MapX z w.heap.size):=hid ((X.below Zbal).grown c (by simp));have c6:Hid (BW w z):=hid ((a0.alloc Om _).grown c (by simp;omega) (fun q hq=>by cases hq));have c7:=hid p;clear c p;generalize w1.heap.size=mb at *
 subst o;clear X Y a0 I;go_wp2
 go_loopw [8,19] (fun v i wr=>∃(k:Nat) (rs:List BA) (tm:Int),k<=ts.length/\i=Vi k/\rs.length=k/\Hid (wr.ownsRow (w.heap.size+3) 9 1 v rs.length (Zbc rs))/\Hid (rs.map bl=(ts.take k).map (Zeu (ss.map Srs.ser) t))/\Hid (∀r∈rs,r.size<=40000000000)/\Hid (BAt wr (w.heap.size+2) [.slice sa ss.length scp,Vi tm,Vp (w.heap.size+1)] 220)/\Hid (BAt wr (w.heap.size+1) [.map (some w.heap.size)] 339)/\Hid (MapX wr w.heap.size)/\Hid (BW w wr)) (fun _ i _=>ts.length - (intOf i).toNat)
 case atStart=>exact⟨0,[],0,Yag _,rfl,rfl,c7,hid rfl,hid (fun r hr=>by cases hr),f,s,A,c6⟩
 case round=>
  rename World=>wo
  obtain⟨k,rs,tm,hk,rfl,c8,HO,HL,HZ,f,s,A,J⟩:=hrel;have c9:=J.size;have e3:=f.lt;by_cases K:k<ts.length
  ·have hg:∃g,ta=some ⟨g,0,none⟩:=by
    obtain⟨g,cp',h⟩:=ZF H.out Om;injection h with h1;exact⟨g,h1⟩
   obtain⟨tg,rfl⟩:=hg;have d1:=Zi (Zn H.out J.out) k (Vi ts[k]) (by rw[Ya2,List.getElem?_eq_getElem K];rfl);have d0:Hid ((ts.take (k+1)).map (Zeu (ss.map Srs.ser) t)=(ts.take k).map (Zeu (ss.map Srs.ser) t)++[Zeu (ss.map Srs.ser) t ts[k]]):=hid (by rw[List.take_succ_eq_append_getElem K,Yaq];rfl);have L:=hid (b7.out _ (List.getElem_mem K));generalize ts[k]=tk at *
   have e4:(k:Int)<(ts.length:Int):=by omega
   have y1:=f.cell 1;have fz1:=f.frozen 1;simp only[Zget]at y1
   go_wp2_with fail
   refine Zm fun W F=>?_;have l:Hid (BW w W):=hid (by rw[F];exact J.setCell (by simp) _);have d2:=l.size
   have M : Hid (MOk w.heap.size (w.heap.size + 2) (w.heap.size + 1) (.slice sa ss.length scp) ss tk W) := hid ⟨by rw [F]; exact f.set1, by rw [F]; exact s.other (by simp) _, by
     obtain⟨es,cl,hx⟩:=A.out;exact⟨es,cl,by rw[F];exact(Go.Deep.blk_setCell_other _ _ _ _ (by simp)).trans hx⟩,b9.below l.out⟩
   have a1:Hid (W.ownsRow (w.heap.size+3) 9 1 u8 rs.length (Zbc rs)):=hid (by rw[F];exact ownsRow_setCell_below HO.out (by simp) _);have a2:=hid (b8.jk (Zo.below l.out));clear F J HO f s A y1 fz1 d1;refine(b0.out w.heap.size (w.heap.size+2) (w.heap.size+1) tk L.1 L.2 (.iface pty pu) W M.out a2.out).mono ?_;rintro e P ⟨v5,rfl,a3,a4,N⟩;have a5:=hid ((Zo.belX N.out M.map).own a1.out);have j:Hid (BW w P):=hid (l.trans ((N.mono d2).below (Yac _)));have a6:=hid (HP.low j.out V.out);have d3:=j.size;clear M a1 a2 l N
   go_wp2_with fail
   refine(ZqI tk (by have:=L.out;unfold vOk;omega) v5 _ P a3.out (c0.out tk) a6.out (by have:=V.out;omega)).mono ?_;rintro e w6 ⟨r6,rfl,d4,a7,B⟩;have O:=hid (Zn a5.out B);have a8:Hid (BW w w6):=hid (j.trans (B.mono d3));have C:=hid (a4.below B);have d5:=hid a7;have e5:=a8.size;have e6:=C.m.lt;clear B a7 a5 j a4 a6 a3
   go_wp2_with (at_builtin;refine wpList_append_own _ rfl (.tmp 25) (.tmp 30) 90 rfl (w.heap.size+3) 9 i0 (.string ByteArray.empty) 1 16 underlying90 hi S T U rfl Dc _ _ _ rfl (O.alloc _) ⟨w6.heap.size,0,none⟩ 1 1 [.string r6] rfl rfl ?c1 ?c2 ?c3 ?c4 ?c5 ?_)
   case c1=>exact ZcY rfl
   case c2=>intro u hu;simp at hu;subst hu;rfl
   case c3=>unfold maxLen;omega
   case c4=>omega
   case c5=>simp;omega
   intro v7 w7 D d _;have d6:Hid (w7.ownsRow (w.heap.size+3) 9 1 v7 (rs++[r6]).length (Zbc (rs++[r6]))):=hid (by rw[Zh2,Yab,c8];exact D);have E:∀a,a<w.heap.size+3->some a≠u8.ownBlock:=fun a ha e=>by have:=(O.lt a e.symm).1;omega
   have b1:=hid ((C.m.alloc _).grown d (E _ Om));have b5:=hid ((C.g.alloc _).grown d (E _ Om));have b6:=hid ((C.map.below Zbal).grown d (E _ Om));have d7:Hid (BW w w7):=hid ((a8.alloc Om _).grown d (by simp;omega) (fun q hq=>by have:=(O.lt q hq).1;omega));have d8:Hid ((rs++[r6]).map bl=(ts.take (k+1)).map (Zeu (ss.map Srs.ser) t)):=hid (by rw[d0.out,Yaq,HL.out,Yco,d4.out];rfl)
   have d9 : Hid (∀ r ∈ rs ++ [r6], r.size <= 40000000000) := hid (fun r hr => by
     rcases Yar.1 hr with h|h
     · exact HZ.out r h
     · rw[Yap]at h;subst h;exact d5.out)
   clear d D E;go_wp2
   go_roundw
   case rel=>exact⟨k+1,rs++[r6],tk,by omega,by go_num,by simp;omega,d6,d8,d9,b1,b5,b6,d7⟩
   case measure=>simp[intOf];omega
  ·obtain rfl:k=ts.length:=by omega
   have e0:Hid (rs.map bl=ts.map (Zeu (ss.map Srs.ser) t)):=hid (by have:=HL.out;rwa [Ya4]at this)
   go_wp2_with fail
   refine(Zqb rs HO.out Om HZ.out).mono ?_;rintro e P ⟨r5,rfl,e1,a9⟩;have j:Hid (BW w P):=hid (J.trans (a9.mono c9));clear a9;go_wp2;go_ret;exact⟨_,rfl,hid (by rw[e1.out,e0.out]),j.out⟩
theorem Ze2{l:LB}{t:Tr}(h:ZD l=.ok t):wfT t/\isNil t=false/\wT t<=100000:=by
 unfold ZD at h;by_cases d:300<l.length
 ·rw[if_pos d]at h;cases h
 ·rw[if_neg d]at h;have j:=ZjB l (l.length+1) 0 (Yag _);have k:=ZjC l Om (l.length+1) 0;cases a:Zs (10*(ZN l (l.length+1) 0).length+5) false 0 .nil (ZN l (l.length+1) 0) 0 with
  | error e=>rw[a]at h;cases h
  | ok z=>
   obtain⟨t',r⟩:=z;rw[a]at h;have c:=Zfv _ _ _ _ _ _ _ (fun e=>by cases e) a;simp only at h;by_cases f:(hd r).jj=0
   ·rw[if_pos f]at h;by_cases g:Zf t'=0
    ·rw[if_pos g]at h;cases h
    ·rw[if_neg g]at h;injection h with h;subst h;refine⟨c.1,c.2.1,?_⟩;have i:=c.2.2;rw[if_neg Dc]at i;simp only at i;omega
   ·rw[if_neg f]at h;cases h
theorem Zpz(s:BA)(A:Nat->Addr)(m:Int)(w:World)(I:Vars w A m)(N:ZR w)(O:20<=w.heap.size)(J:s.size<=9223372036854775807) :
  CP 20 #[.string s] w fun e T=>∃(r:BA) (c p:Nat),e=.returned (.tuple #[.string r,Vi c,Vi p])/\Hid (Zey (bl s)=(bl r,c,p))/\Hid ((∃t,ZD (bl s)=.ok t)∨c≠0)/\BW w T:=by
 have P:Hid (CP 36 #[.string s] w _):=Ziu s w J I.sents;have U:Hid (Vars w A m):=I;have V:Hid (ZR w):=N;have F:Hid (20<=w.heap.size):=O;clear I N O;go_enter func20,ntmps20
 go_wp2_with fail
 refine P.mono ?_;rintro e i ⟨pv,v,rfl,d,j⟩;have f:Hid (BW w i):=j;have h:Hid (Vars i A m):=U.below j;have Q:Hid (ZR i):=V.low j F.out;have K:Hid (20<=i.heap.size):=Yah F.out j.size;clear j P;cases k:ZD (bl s)with
 | ok t=>
  rw[k]at d;obtain⟨rfl,B⟩:=d.out;obtain⟨G,L,H⟩:=Ze2 k;have q:Hid (Zey (bl s)=(Zu t 1,0,0)):=hid (by unfold Zey;rw[k]);have W:Hid (∃t,ZD (bl s)=.ok t):=hid ⟨t,k⟩;have R:Hid (CP 37 #[pv] i _):=Zj6 G H i pv B Q.out K.out;obtain⟨ty,u,S⟩:=Zh.shape B;subst S;clear d k B G L H
  go_wp2_with fail
  refine R.mono ?_;rintro e z ⟨r,rfl,X,a⟩;have g:Hid (BW w z):=f.trans (a.mono f.size);clear a R;go_wp2
  go_ret3
  exact⟨r,0,0,rfl,hid (by rw[q.out,X.out]),hid (Or.inl W.out),g.out⟩
 | error x=>
  rw[k]at d;have q:Hid (Zey (bl s)=([],x.1,x.2)):=hid (by unfold Zey;rw[k]);clear k;rcases d.out with ⟨rfl,rfl⟩|⟨rfl,rfl⟩|⟨C,o⟩|⟨C,o⟩
  ·clear d
   go_wp2_with fail
   refine(ZjQ A m _ h.out).mono ?_;rintro e M ⟨rfl,rfl⟩
   go_wp2_with fail
   refine(Zdm A m _ h.out).mono ?_;rintro e z ⟨rfl,a⟩;have g:Hid (BW w z):=f.trans (a.mono f.size);clear a;go_wp2
   go_ret3
   exact⟨⟨#[]⟩,1,0,rfl,q,hid (Or.inr Dc),g.out⟩
  ·clear d
   go_wp2_with fail
   refine(Zmu A m h.out).mono ?_;rintro e M ⟨rfl,rfl⟩
   go_wp2_with fail
   refine(Zdm A m _ h.out).mono ?_;rintro e z ⟨rfl,a⟩;have g:Hid (BW w z):=f.trans (a.mono f.size);clear a;go_wp2
   go_ret3
   exact⟨⟨#[]⟩,4,0,rfl,q,hid (Or.inr Dc),g.out⟩
  ·obtain⟨x1,x2⟩:=x;simp only at C o;subst C;obtain⟨fa,rfl,l,n⟩:=o.cells;clear d o;have D:Hid (i.cell? ⟨fa,1,none⟩=some (Vi x2)):=l;have E:=hid n;clear l n
   go_wp2_with fail
   refine(Zmt A m h.out fa E.out).mono ?_;rintro e M ⟨rfl,rfl⟩
   go_wp2_with fail
   refine(ZdB A m fa x2 _ h.out D.out).mono ?_;rintro e z ⟨rfl,a⟩;have g:Hid (BW w z):=f.trans (a.mono f.size);clear a;go_wp2
   go_ret3
   exact⟨⟨#[]⟩,2,x2,rfl,q,hid (Or.inr Dc),g.out⟩
  ·obtain⟨x1,x2⟩:=x;simp only at C o;subst C;obtain⟨fa,rfl,l,n⟩:=o.cells;clear d o;have D:Hid (i.cell? ⟨fa,1,none⟩=some (Vi x2)):=l;have E:=hid n;clear l n
   go_wp2_with fail
   refine(Zms A m h.out fa E.out).mono ?_;rintro e M ⟨rfl,rfl⟩
   go_wp2_with fail
   refine(ZdB A m fa x2 _ h.out D.out).mono ?_;rintro e z ⟨rfl,a⟩;have g:Hid (BW w z):=f.trans (a.mono f.size);clear a;go_wp2
   go_ret3
   exact⟨⟨#[]⟩,3,x2,rfl,q,hid (Or.inr Dc),g.out⟩
theorem ZvS(q s:BA)(f l st:Int)(A:Nat->Addr)(m:Int)(w:World)(U:Vars w A m)(ht:ZR w)(hB:20<=w.heap.size)(d:q.size<=9223372036854775807)(hs:s.size<=maxLen) :
  CP 25 #[.string q,.string s,.agg #[Vi f,Vi l,Vi st]] w fun e w'=>∃(r:BA) (err:Value) (c p:Nat),e=.returned (.tuple #[.string r,err])/\Hid (Zfb w' A err c p)/\Hid (ZdK (bl q) (bl s) f l st=(bl r,c,p))/\BW w w':=by
 have V:Hid (∀W,BW w W->CP 36 #[.string q] W _):=hid (fun W F=>Ziu q W d (U.below F).sents);have X:Hid (∀W,BW w W->CP 24 #[.string s] W _):=hid (fun W F=>Zss s A m W (U.below F) hs);have Y:Hid (∀W,BW w W->CP 46 #[.agg #[Vi f,Vi l,Vi st]] W _):=hid (fun W F=>ZrI f l st (A 7) W ((U.below F).sent _ Dc));have HT:Hid (ZR w):=ht;have Z:Hid (20<=w.heap.size):=hB;clear U ht hB d hs;go_enter func25,ntmps25
 go_wp2_with fail
 refine Zm fun W hW=>?_;have C:BW w W:=by rw[hW];exact Zbal
 have a0:Hid (BAt W w.heap.size [Vi f,Vi l,Vi st] 26):=hid (by rw[hW];exact Go.Deep.blk_alloc_new _ _);refine(V.out W C).mono ?_;rintro e w1 ⟨pv,v,rfl,g,G⟩;have i:Hid (BW w w1):=hid (C.trans (G.mono C.size));have H:=hid (a0.below G);clear G V C hW a0;cases d:ZD (bl q)with
 | error x=>
  obtain⟨I,ty,u,rfl⟩:=Zfb.rd d g.out;have HE:=hid I;have n:Hid (ZdK (bl q) (bl s) f l st=([],x.1,x.2)):=hid (by unfold ZdK;rw[d]);clear g d I;go_wp2;go_ret2;exact⟨_,_,_,_,rfl,HE,n,i.out⟩
 | ok t=>
  rw[d]at g;obtain⟨rfl,J⟩:=g.out;obtain⟨ty,u,rfl⟩:=J.shape;have a1:=hid J;have K:=hid (Ze2 d);have a2:=hid (ZBk d)
  have L:Hid (∀x,(if (Zbp (bl s)).1≠0 then ([],(Zbp (bl s)).1,(Zbp (bl s)).2)else match Zdr f l st with
   | none=>([],8,0)
   | some ts=>(Zcn (ts.map (Zeu (Ze6 (bl s)) t)),0,0))=x->ZdK (bl q) (bl s) f l st=x):=hid (fun x hx=>by unfold ZdK;rw[d];exact hx)
  clear g d J
  go_wp2_with fail
  refine(X.out w1 i.out).mono ?_;rintro e z ⟨sv,err,rfl,M,D,N⟩;have j:Hid (BW w z):=hid (i.trans (D.mono i.size));have O:=hid (a1.jk (Zo.below D));have h:=hid (H.below D);clear D X H a1 i;rcases Zfb.ld M.out with ⟨o,rfl⟩|⟨o,I,ty',u',rfl⟩
  ·obtain⟨ss,B,P,Q,R⟩:=(N.out o).sto o;obtain⟨sa,scp,rfl⟩:=Zl B.row;have a3:=hid B;have b0:=hid P;have a4:=hid Q;have a5:=hid R;have H0:=hid o;clear M N B P Q R o;have x0:=h.cell 0;have x1:=h.cell 1;have x2:=h.cell 2;simp only[Zget]at x0 x1 x2
   go_wp2_with fail
   clear x0 x1 x2;refine(Y.out z j.out).mono ?_;rintro e w3 ⟨tv,ev,rfl,S,E⟩;have k:Hid (BW w w3):=hid (j.trans (E.mono j.size));have a8:=hid (O.jk (Zo.below E));have a9:=hid (a3.below E);clear E Y O a3 h j;rcases S.out with ⟨T,rfl,rfl⟩|⟨ts,T,h2,h3,rfl,h4⟩
   ·have n:Hid (ZdK (bl q) (bl s) f l st=([],8,0)):=hid (L.out _ (by rw[if_neg (by rw[H0.out];simp),T]));clear S T;go_wp2;go_ret2;exact⟨_,_,8,0,rfl,hid (Or.inr (Or.inr (Or.inr (Or.inr (Or.inl ⟨rfl,rfl,rfl⟩))))),n,k.out⟩
   ·obtain⟨ta,tcp,rfl⟩:=Zl h4;have n:Hid (ZdK (bl q) (bl s) f l st=(Zcn (ts.map (Zeu (ss.map Srs.ser) t)),0,0)):=hid (L.out _ (by rw[if_neg (by rw[H0.out];simp),T,b0.out]))
    have a6:Hid (CP 47 #[.iface ty u,.slice sa ss.length scp,.slice ta ts.length tcp] w3 _):=hid (ZtJ t ts ss (.iface ty u) (.slice sa ss.length scp) (.slice ta ts.length tcp) w3 h2 h3 h4 a8.out a9.out
     (fun x mb gb tm a b=>Zm4 a b a4.out a5.out t K.1 K.2.2 a2.1 K.2.1 a2.2)
     (fun tm=>(Zj8 a4.out tm t).mono (by rw[Yak];exact a5.out)) (HT.low k.out Z.out) (Yah Z.out k.size))
    clear S T h2 h3 h4
    go_wp2_with fail
    refine a6.mono ?_;rintro e w4 ⟨r4,rfl,b1,a7⟩;have b2:Hid (BW w w4):=hid (k.trans (a7.mono k.size));clear a7 a6;go_wp2;go_ret2;exact⟨r4,_,0,0,rfl,hid (Or.inl ⟨rfl,rfl,rfl⟩),hid (by rw[n.out,b1.out]),b2.out⟩
  ·have HE:=hid I;have n:Hid (ZdK (bl q) (bl s) f l st=([],(Zbp (bl s)).1,(Zbp (bl s)).2)):=hid (L.out _ (by rw[if_pos o]));clear M N I o;go_wp2;go_ret2;exact⟨_,_,_,_,rfl,HE,n,j.out⟩
theorem Zpy(q s:BA)(f l st:Int)(A:Nat->Addr)(m:Int)(w:World)(C:Vars w A m)(F:ZR w)(D:20<=w.heap.size)(G:q.size<=9223372036854775807)(H:s.size<=maxLen) :
  CP 12 #[.string q,.string s,.agg #[Vi f,Vi l,Vi st]] w fun e u=>∃(r:BA) (c p:Nat),e=.returned (.tuple #[.string r,Vi c,Vi p])/\Hid (ZdK (bl q) (bl s) f l st=(bl r,c,p))/\BW w u:=by
 have I:Hid (Vars w A m):=C;have J:Hid (∀W,BW w W->CP 25 #[.string q,.string s,.agg #[Vi f,Vi l,Vi st]] W _):=hid (fun W E=>ZvS q s f l st A m W (C.below E) (F.low E D) (Yah D E.size) G H);clear C F D G H;go_enter func12,ntmps12
 go_wp2_with fail
 refine Zm fun W K=>?_;have v:BW w W:=by rw[K];exact Zbal
 refine(J.out W v).mono ?_;rintro e L ⟨r,err,c,p,rfl,j,o,B⟩;have d:Hid (BW w L):=hid (v.trans (B.mono v.size));have g:=hid (I.below d.out);clear B v K J I;rcases j.out with ⟨rfl,rfl,rfl⟩|⟨rfl,rfl,rfl⟩|⟨rfl,rfl,rfl⟩|⟨rfl,rfl,rfl⟩|⟨rfl,rfl,rfl⟩|⟨fa,rfl,M,h⟩
 ·clear j
  go_wp2_with fail
  refine(Zik A m _ g.out).mono ?_;rintro e t ⟨rfl,rfl⟩
  go_wp2_with fail
  refine(Ziq _).mono ?_;rintro e z ⟨rfl,a⟩;have i:Hid (BW w z):=hid (d.trans (a.mono d.size));clear a;go_wp2
  go_ret3
  exact⟨r,_,_,rfl,o,i.out⟩
 ·clear j
  go_wp2_with fail
  refine(ZjQ A m _ g.out).mono ?_;rintro e t ⟨rfl,rfl⟩
  go_wp2_with fail
  refine(Zdm A m _ g.out).mono ?_;rintro e z ⟨rfl,a⟩;have i:Hid (BW w z):=hid (d.trans (a.mono d.size));clear a;go_wp2
  go_ret3
  exact⟨r,_,_,rfl,o,i.out⟩
 ·clear j
  go_wp2_with fail
  refine(Zmu A m g.out).mono ?_;rintro e t ⟨rfl,rfl⟩
  go_wp2_with fail
  refine(Zdm A m _ g.out).mono ?_;rintro e z ⟨rfl,a⟩;have i:Hid (BW w z):=hid (d.trans (a.mono d.size));clear a;go_wp2
  go_ret3
  exact⟨r,_,_,rfl,o,i.out⟩
 ·clear j
  go_wp2_with fail
  refine(Zrk A m _ g.out).mono ?_;rintro e t ⟨rfl,rfl⟩
  go_wp2_with fail
  refine(Zdm A m _ g.out).mono ?_;rintro e z ⟨rfl,a⟩;have i:Hid (BW w z):=hid (d.trans (a.mono d.size));clear a;go_wp2
  go_ret3
  exact⟨r,_,_,rfl,o,i.out⟩
 ·clear j
  go_wp2_with fail
  refine(Zrm A m _ g.out).mono ?_;rintro e t ⟨rfl,rfl⟩
  go_wp2_with fail
  refine(Zdm A m _ g.out).mono ?_;rintro e z ⟨rfl,a⟩;have i:Hid (BW w z):=hid (d.trans (a.mono d.size));clear a;go_wp2
  go_ret3
  exact⟨r,_,_,rfl,o,i.out⟩
 ·have x:Hid (L.cell? ⟨fa,1,none⟩=some (Vi p)):=M;clear j M;rcases h with ⟨rfl,k⟩|⟨rfl,k⟩|⟨rfl,k⟩|⟨rfl,k⟩
  ·have n:=hid k;clear k
   go_wp2_with fail
   refine(Zmt A m g.out fa n.out).mono ?_;rintro e t ⟨rfl,rfl⟩
   go_wp2_with fail
   refine(ZdB A m fa p _ g.out x.out).mono ?_;rintro e z ⟨rfl,a⟩;have i:Hid (BW w z):=hid (d.trans (a.mono d.size));clear a;go_wp2
   go_ret3
   exact⟨r,_,_,rfl,o,i.out⟩
  ·have n:=hid k;clear k
   go_wp2_with fail
   refine(Zms A m g.out fa n.out).mono ?_;rintro e t ⟨rfl,rfl⟩
   go_wp2_with fail
   refine(ZdB A m fa p _ g.out x.out).mono ?_;rintro e z ⟨rfl,a⟩;have i:Hid (BW w z):=hid (d.trans (a.mono d.size));clear a;go_wp2
   go_ret3
   exact⟨r,_,_,rfl,o,i.out⟩
  ·have n:=hid k;clear k
   go_wp2_with fail
   refine(Zrl A m _ g.out fa n.out).mono ?_;rintro e t ⟨rfl,rfl⟩
   go_wp2_with fail
   refine(ZdB A m fa p _ g.out x.out).mono ?_;rintro e z ⟨rfl,a⟩;have i:Hid (BW w z):=hid (d.trans (a.mono d.size));clear a;go_wp2
   go_ret3
   exact⟨r,_,_,rfl,o,i.out⟩
  ·have n:=hid k;clear k
   go_wp2_with fail
   refine(Zrn A m _ g.out fa n.out).mono ?_;rintro e t ⟨rfl,rfl⟩
   go_wp2_with fail
   refine(ZdB A m fa p _ g.out x.out).mono ?_;rintro e z ⟨rfl,a⟩;have i:Hid (BW w z):=hid (d.trans (a.mono d.size));clear a;go_wp2
   go_ret3
   exact⟨r,_,_,rfl,o,i.out⟩
def awQ:LB:=[97,43,98,42,99]
def awP:LB:=[97,32,43,32,98,32,42,32,99]
def awE:LB:=[99,32,43,32,100]
def awS:LB:=[99,123,104,61,97,125,32,49,58,53,32,52,58,56,10,99,123,104,61,98,125,32,52,58,50,10,100,123,104,61,97,125,32,52,58,51]
def awA:LB:=[49,10,52,32,123,104,61,97,125,49,49]
theorem ZtT:Zey awQ=(awP,0,0):=by kernel_rfl
theorem ZtS:ZdK awE awS 1 4 3=(awA,0,0):=by kernel_rfl
theorem ZgF{r:BA}{l:LB}(h:bl r=l):r=⟨l.toArray⟩:=ZcW (by rw[h,ZbF])
theorem ZtU(A:Nat->Addr)(m:Int)(w:World)(n:Vars w A m)(o:ZR w)(f:20<=w.heap.size) :
  CP 9 #[] w fun e u=>e=.returned (.bool true)/\BW w u:=by
 have t : Hid (∀ W, BW w W -> CP 20 #[.string ⟨awQ.toArray⟩] W fun e u => e = .returned (.tuple #[.string ⟨awP.toArray⟩, Vi 0, Vi 0]) /\ BW W u) := hid (fun W d => (Zpz ⟨awQ.toArray⟩ A m W (n.below d) (o.low d f) (Yah f d.size) Dc).mono (fun e u ⟨r, c, p, g, q, _, s⟩ => by
   have h:=q.out;rw[ZbF,ZtT]at h;injection h with k1 k2;injection k2 with k2 k3;subst k2 k3;rw[ZgF k1.symm]at g;exact⟨g,s⟩))
 have v : Hid (∀ W, BW w W -> CP 12 #[.string ⟨awE.toArray⟩, .string ⟨awS.toArray⟩, .agg #[Vi 1, Vi 4, Vi 3]] W fun e u => e = .returned (.tuple #[.string ⟨awA.toArray⟩, Vi 0, Vi 0]) /\ BW W u) := hid (fun W d => (Zpy ⟨awE.toArray⟩ ⟨awS.toArray⟩ 1 4 3 A m W (n.below d) (o.low d f) (Yah f d.size) Dc Dc).mono (fun e u ⟨r, c, p, g, q, s⟩ => by
   have h:=q.out;rw[ZbF,ZbF,ZtS]at h;injection h with k1 k2;injection k2 with k2 k3;subst k2 k3;rw[ZgF k1.symm]at g;exact⟨g,s⟩))
 clear n o f;go_enter func9,ntmps9
 go_wp2_with fail
 refine Zm fun W i=>?_;have a:BW w W:=by rw[i];exact Yaf _ _
 refine(t.out W a).mono ?_;rintro e B ⟨rfl,j⟩;have k:Hid (BW w B):=hid (a.trans (j.mono a.size));clear j a i t
 go_wp2_with fail
 refine Zm fun W i=>?_;have a:BW w W:=by rw[i];exact k.out
 refine(v.out W a).mono ?_;rintro e z ⟨rfl,l⟩;have x:Hid (BW w z):=hid (a.trans (l.mono a.size));clear l a i v k;go_wp2;go_ret;exact⟨rfl,x.out⟩
section
variable {P:Program} {ops:Array Oper} {Q:Exit->Act->World->Prop} {md:Region.Mode} {S:World->Prop} {k:Nat}
theorem ZCM{i j:Nat}{o p:Oper}{f:Nat}{ls:Array Bool}{a:Act}(l:Region.ready md ops ls=[i,j])(n:ops[i]?=some o)(q:ops[j]?=some p)
  (h:∀K':Act->World->Prop,Shut (∀a w,S w->(S w->ZcJ P md ops Q S k f (ls.setIfInBounds i true) a w)->K' a w)->if Region.wanted o (yielded ops a.tmps)=true then Oper.wp P o a w K' Q else K' (a.put o.dst undef) w)
  (r:∀K':Act->World->Prop,Shut (∀a w,S w->(S w->ZcJ P md ops Q S k f (ls.setIfInBounds j true) a w)->K' a w)->if Region.wanted p (yielded ops a.tmps)=true then Oper.wp P p a w K' Q else K' (a.put p.dst undef) w):ZcJ P md ops Q S k (f+1) ls a w:=by
 refine⟨fun m=>(by rw[l]at m;cases m),fun x d=>?_⟩;rw[l]at d;simp only[Yau,List.not_mem_nil,or_false]at d;rcases d with rfl|rfl
 ·exact wpOp_step n (fun K' e=>h K' (fun a w c g=>e a w ⟨fun _=>c,g c⟩))
 ·exact wpOp_step q (fun K' e=>r K' (fun a w c g=>e a w ⟨fun _=>c,g c⟩))
end
structure NewM (w w':World) (base mb:Nat) (c0 c1 c2 c3 al:Value):Prop where
 ex:∃x gb gx,PSt w' base mb c0 c1 c2 c3 al 0 (.map (some x)) (Vp gb) none 0 0 []/\MapI w' x [] #[] 0/\BAt w' gb [.map (some gx)] 339/\MapX w' gx/\w.heap.size<=x/\w.heap.size<=gb/\w.heap.size<=gx/\x≠gx
 old:w.heap.size<=mb
 below:BW w w'
theorem NewM.made(base:Nat)(c0 c1 c2 c3 al:Value)(f:a.heap[x]?=some (.map #[] 0))(d:BAt a gb [.map (some gx)] 339)(h:MapX a gx)(i:w.heap.size<=x)(j:w.heap.size<=gb)(l:w.heap.size<=gx)(m:x≠gx)(e:BW w a) :
  NewM w (a.alloc (.cells #[c0,c1,c2,c3,al,Vi 0,S0,.map (some x),Vp gb] 365)) base a.heap.size c0 c1 c2 c3 al:=by
 have c:∀o,BW a (a.alloc o):=fun o=>Zbal;refine⟨⟨x,gb,gx,⟨Go.Deep.blk_alloc_new _ _,⟨by simp,Or.inl ⟨rfl,rfl⟩⟩,rfl⟩,⟨((c _).block x (Yae.1 f).1).trans f,⟨by simp,by simp,by simp⟩,rfl,fun g d=>(by cases d)⟩,d.below (c _),h.below (c _),i,j,l,m⟩,e.size,e.trans ((c _).mono e.size)⟩
theorem ZAM(w:World)(base:Nat)(c0 c1 c2 c3:Value)(aa:Option Addr)(an ac:Nat) :
  CP 97 #[.agg #[c0,c1,c2,c3],.slice aa an ac] w fun e u=>∃mb,e=.returned (Vp mb)/\Hid (NewM w u base mb c0 c1 c2 c3 (.slice aa an ac)):=by
 have C:=@run_makeMap prog;have n:Hid (BAt (w.alloc (.cells #[c0,c1,c2,c3] 58)).drew w.heap.size [c0,c1,c2,c3] 58):=hid (BAt.below (w:=w.alloc _) (Go.Deep.blk_alloc_new _ _) (Yaf _ _).drew);have s:Hid (BW w (w.alloc (.cells #[c0,c1,c2,c3] 58)).drew):=hid Zbal.drew;go_enter func97,ntmps97
 go_upto_region 1 with fail
 refine Zbn 6 (fun u=>u.cell? ⟨w.heap.size,0,none⟩=some c0/\u.cell? ⟨w.heap.size,1,none⟩=some c1/\u.cell? ⟨w.heap.size,2,none⟩=some c2/\u.cell? ⟨w.heap.size,3,none⟩=some c3) Kr ⟨n.cell 0,n.cell 1,n.cell 2,n.cell 3⟩ (fun a=>?_);generalize B:(w.alloc (.cells #[c0,c1,c2,c3] 58)).drew=W at n s a ⊢;clear B;refine Za 0 a (h:=?_);refine Za 1 a (h:=?_);refine ZCM (i:=2) (j:=3) Kr rfl rfl (fun K c=>?_) (fun K c=>?_)
 ·go_simp;have m:=s.size;have f:Hid (BAt (W.alloc (.map #[] 0)) w.heap.size [c0,c1,c2,c3] 58):=hid (n.below Zbal);refine c.out _ _ ⟨f.cell 0,f.cell 1,f.cell 2,f.cell 3⟩ (fun a=>?_);clear c K
  try simp only[Act.put,Zset]
  refine Z4 (i:=3) Kr rfl (fun K c=>?_);go_simp;refine(Zmp _).mono ?_;rintro e A ⟨rfl,t,v,x,l⟩;go_simp;have d:=hid (f.below l);refine c.out _ _ ⟨d.cell 0,d.cell 1,d.cell 2,d.cell 3⟩ (fun a=>?_);clear c K
  try simp only[Act.put,Zset]
  have q:(W.alloc (.map #[] 0)).heap.size=W.heap.size+1:=Go.Deep.nblk_alloc _ _;have r:=hid (NewM.made (w:=w) base c0 c1 c2 c3 (.slice aa an ac) ((l.block W.heap.size Om).trans (Go.Deep.blk_alloc_new _ _)) v.out t.out m Om Om Om ((s.alloc m _).trans (l.mono Om)));refine Za 4 a (h:=?_);refine Z4 (i:=5) Kr rfl (fun K c=>?_);go_simp;have g:Hid (∀o,BAt (A.alloc o) w.heap.size [c0,c1,c2,c3] 58):=hid (fun o=>d.below Zbal);refine c.out _ _ ⟨(g.out _).cell 0,(g.out _).cell 1,(g.out _).cell 2,(g.out _).cell 3⟩ (fun a=>?_);clear c K
  try simp only[Act.put,Zset]
  refine Zbl Kr Kr rfl Kr (fun K c=>?_);go_simp;refine c.out _ _ ?_;clear c K;go_wp2;go_ret;simp only[x,q]at r;exact⟨_,rfl,r⟩
 ·go_simp;have m:=s.size;refine(Zmp _).mono ?_;rintro e p ⟨rfl,t,v,x,l⟩;go_simp;have f:=hid (n.below l);refine c.out _ _ ⟨f.cell 0,f.cell 1,f.cell 2,f.cell 3⟩ (fun a=>?_);clear c K
  try simp only[Act.put,Zset]
  refine Z4 (i:=2) Kr rfl (fun K c=>?_);go_simp;have z:BW p (p.alloc (.map #[] 0)):=Zbal;have d:=hid (f.below z);refine c.out _ _ ⟨d.cell 0,d.cell 1,d.cell 2,d.cell 3⟩ (fun a=>?_);clear c K
  try simp only[Act.put,Zset]
  have q:(p.alloc (.map #[] 0)).heap.size=p.heap.size+1:=Go.Deep.nblk_alloc _ _;have r:=hid (NewM.made (w:=w) base c0 c1 c2 c3 (.slice aa an ac) (Go.Deep.blk_alloc_new p (.map #[] 0)) (v.below z) (t.below z) Om Om m Om ((s.trans (l.mono m)).trans (z.mono Om)));clear z;generalize p.alloc (.map #[] 0)=A at r d a q ⊢;refine Za 4 a (h:=?_);refine Z4 (i:=5) Kr rfl (fun K c=>?_);go_simp;have g:Hid (∀o,BAt (A.alloc o) w.heap.size [c0,c1,c2,c3] 58):=hid (fun o=>d.below Zbal);refine c.out _ _ ⟨(g.out _).cell 0,(g.out _).cell 1,(g.out _).cell 2,(g.out _).cell 3⟩ (fun a=>?_);clear c K
  try simp only[Act.put,Zset]
  refine Zbl Kr Kr rfl Kr (fun K c=>?_);go_simp;refine c.out _ _ ?_;clear c K;go_wp2;go_ret;simp only[x,q]at r;exact⟨_,rfl,r⟩
end
section
open Go.ChangeMaps (setBlock)
def ZbL(w w':World):Prop:=∀(b:Nat) (c:Array Value) (T:TypeId) (fr:Nat×Nat),T≠365->T≠223->w.heap[b]?=some (.cells c T fr)->w'.heap[b]?=some (.cells c T fr)
theorem Zo.y(h:Zo w w'):ZbL w w':=fun b c T fr _ _ a=>h b c T fr a
theorem ZbL.trans{z:World}(h:ZbL w w')(k:ZbL w' z):ZbL w z:=fun b c T fr a d e=>k b c T fr a d (h b c T fr a d e)
theorem ZbL.below(h:BW w w'):ZbL w w':=(Zo.below h).y
theorem ZbL.own(h:ZbL w w'){e:TypeId}{size:Nat}(a:w.ownsRow base e size v n xs)(c:e≠365)(d:e≠223):w'.ownsRow base e size v n xs:=by
 refine⟨a.1,?_⟩;rcases a.2 with f|⟨g,cap,cur,i,j,k,r⟩
 ·exact Or.inl f
 ·exact Or.inr ⟨g,cap,cur,i,j,h _ _ _ _ c d k,r⟩
theorem SamV.y{l:List (Int×Int)}(h:SamV w av l)(a:ZbL w w'):SamV w' av l:=by
 rcases h with h|⟨g,off,d,c,fr,e,f⟩
 ·exact Or.inl h
 ·exact Or.inr ⟨g,off,d,c,fr,a _ _ _ _ Dc Dc e,f⟩
theorem LbOk.y{a:Option Addr}{c:Nat}{tx:BA}{qs:List (BA×BA)}(h:LbOk w a n c tx qs)(d:ZbL w w'):LbOk w' a n c tx qs:=⟨⟨d.own h.row.1 Dc Dc,h.row.2⟩,h.txt,h.wf⟩
theorem StrOk.y{s:Str}(h:StrOk w s)(a:ZbL w w'):StrOk w' s:=⟨h.lb.y a,h.sam.y a,h.ne,h.len,h.ok⟩
theorem RngV.y{rs:List Str}(h:RngV w v rs)(a:ZbL w w'):RngV w' v rs:=⟨a.own h.row Dc Dc,fun s c=>(h.ok s c).y a⟩
theorem VecV.y{l:List El}{is:List Itm}(h:VecV w v l is)(a:ZbL w w'):VecV w' v l is:=⟨a.own h.row Dc Dc,h.els,fun i c=>⟨(h.ok i c).lb.y a,(h.ok i c).vok⟩,h.len⟩
def PelV(w:World)(ser:List Ser)(t:Int)(v:Value):Cl->Prop
 | .inl V=>ValP w v V
 | .inr (a,n)=>∃rv rs,v=.iface 359 rv/\RngV w rv rs/\rs.map Str.pr=ZbH ser a n t
theorem PelV.y(d:ZbL w w'):∀ {y:Cl},PelV w ser t v y->PelV w' ser t v y
 | .inl (.inl _),h=>h
 | .inl (.inr _),⟨s,is,a,c⟩=>⟨s,is,a,c.y d⟩
 | .inr (_,_),⟨rv,rs,a,c,e⟩=>⟨rv,rs,a,c.y d,e⟩
theorem PelV.shape : ∀ {y:Cl},PelV w ser t v y->∃ty u,v=.iface ty u
 | .inl (.inl _),h=>⟨_,_,h.1⟩
 | .inl (.inr _),⟨_,_,a,_⟩=>⟨_,_,a⟩
 | .inr (_,_),⟨_,_,a,_⟩=>⟨_,_,a⟩
def PStk(w:World)(ser:List Ser)(t:Int):List Value->List Cl->Prop
 | [],[]=>True
 | v::vs,y::ys=>PelV w ser t v y/\PStk w ser t vs ys
 | _,_=>False
theorem PStk.y(a:ZbL w w'):∀ {vs:List Value} {ys:List Cl},PStk w ser t vs ys->PStk w' ser t vs ys
 | [],[],h=>h
 | _::_,_::_,⟨c,d⟩=>⟨c.y a,PStk.y a d⟩
theorem PStk.len : ∀ {vs:List Value} {ys:List Cl},PStk w ser t vs ys->vs.length=ys.length
 | [],[],_=>rfl
 | _::vs,_::ys,⟨_,h⟩=>by rw[Yaj,Yaj,PStk.len h]
def PSlo(w:World)(x:Nat)(ser:List Ser)(t:Int)(ss:List (Option Cl)):Prop:=∃gs es cl,MapI w x gs es cl/\∀j y,ss.getD j none=some y->∃v,getI gs j=some v/\PelV w ser t v y
theorem PSlo.y(h:PSlo w x ser t ss)(c:ZbL w w')(d:w'.heap[x]?=w.heap[x]?):PSlo w' x ser t ss:=by
 obtain⟨gs,es,cl,e,f⟩:=h;exact⟨gs,es,cl,e.moved d,fun j y g=>(f j y g).elim fun v a=>⟨v,a.1,a.2.y c⟩⟩
structure PInv (w0 wk w:World) (mb x gb gx:Nat) (c0 c1 c2 c3 al:Value) (t:Int) (ser:List Ser) (m:MQ) (sa:Option Addr) (sn sc:Nat) (vs:List Value):Prop where
 st:PSt w w0.heap.size mb c0 c1 c2 c3 al t (.map (some x)) (Vp gb) sa sn sc vs.reverse
 slo:PSlo w x ser t m.jx
 gr:BAt w gb [.map (some gx)] 339
 gm:MapX w gx
 stk:PStk w ser t vs m.jy
 bel:BW w0 w
 lm:w0.heap.size<=mb
 lx:w0.heap.size<=x
 lg:w0.heap.size<=gx
 ne:x≠gx
 ky:ZbL wk w
theorem ZjJ  {a b : Nat}   {c : Array Value} {T : TypeId} {fr : Nat × Nat} (h : w.heap[a]? = some (.map es cl)) (k : w.heap[b]? = some (.cells c T fr)) : a ≠ b := fun e => by
  rw[e,k]at h;injection h with h;cases h
theorem Zmh  {a b : Nat}   {e : TypeId} {sz : Nat}    (h : w.heap[a]? = some (.map es cl)) (k : w.ownsRow b e sz v n xs) : some a ≠ v.ownBlock := fun e => by
  rcases k.2 with ⟨k2,_⟩|⟨g,cap,cur,c,_,d,_⟩
  · rw[k2]at e;cases e
  · rw[c]at e
    have e2:some a=some g:=e;injection e2 with e2;exact ZjJ h d e2
theorem MKeep.y{c:List Value}(h:MKeep w w' mb st)(d:BAt w mb c 365)(f:w.ownsRow base 223 1 st n xs):ZbL w w':=fun b c2 T fr g i a=>
 (h.block b (Yae.1 a).1 (fun e => by
   rw[e]at a;have:=a.symm.trans d;injection this with this;injection this with _ this _;exact g this) (Zcx f a i)).trans a
theorem MKeep.ofG(h:w.grownBy w' (some mb))(st:Value):MKeep w w' mb st:=⟨h.os,h.tape,h.output,h.size,fun k a c _=>h.block k a (fun e=>c (Yax e))⟩
theorem PInv.below{c:World}(h:PInv w0 c w mb x gb gx c0 c1 c2 c3 al t ser m sa sn sc vs)(a:BW w w'):PInv w0 c w' mb x gb gx c0 c1 c2 c3 al t ser m sa sn sc vs:=by
 have d:x<w.heap.size:=by
  obtain⟨gs,es,cl,e,_⟩:=h.slo;exact(Yae.1 e.heap).1
 exact⟨h.st.below a,h.slo.y (ZbL.below a) (a.block x d),h.gr.below a,h.gm.below a,h.stk.y (ZbL.below a),h.bel.trans (a.mono h.bel.size),h.lm,h.lx,h.lg,h.ne,h.ky.trans (ZbL.below a)⟩
theorem PInv.num(h:PInv w0 a w mb x gb gx c0 c1 c2 c3 al t ser m sa sn sc vs):sn=m.jy.length:=by
 rw[<-h.stk.len,<-h.st.len,Yg0]
theorem PInv.moved{j:World}(h:PInv w0 j w mb x gb gx c0 c1 c2 c3 al t ser m sa sn sc vs)(g:MKeep w w' mb (.slice sa sn sc)){sn' sc':Nat}(l:PSt w' w0.heap.size mb c0 c1 c2 c3 al t (.map (some x)) (Vp gb) sa' sn' sc' vs'.reverse)(n:PStk w ser t vs' ys'):PInv w0 j w' mb x gb gx c0 c1 c2 c3 al t ser ⟨ys',m.jx⟩ sa' sn' sc' vs':=by
 have f:=g.y h.st.box h.st.own;have c:∀ {a:Nat} {es:Array MapEntry} {cl:Nat},w.heap[a]?=some (.map es cl)->w'.heap[a]?=w.heap[a]?:=fun i=>g.block _ (Yae.1 i).1 (ZjJ i h.st.box) (Zmh i h.st.own);refine⟨l,?_,f _ _ _ _ Dc Dc h.gr,?_,n.y f,g.below h.bel h.lm (fun k e=>(h.st.own.lt k e).1),h.lm,h.lx,h.lg,h.ne,h.ky.trans f⟩
 ·obtain⟨gs,es,cl,d,o⟩:=h.slo;exact PSlo.y ⟨gs,es,cl,d,o⟩ f (c d.heap)
 ·obtain⟨es,cl,d⟩:=h.gm;exact⟨es,cl,(c d).trans d⟩
theorem PInv.kn{y:Cl}(h:PInv w0 a w mb x gb gx c0 c1 c2 c3 al t ser ⟨y::ys,ss⟩ sa (n+1) sc (v::vs))(c:PSt w' w0.heap.size mb c0 c1 c2 c3 al t (.map (some x)) (Vp gb) sa n sc vs.reverse)(d:w.grownBy w' (some mb)):PInv w0 a w' mb x gb gx c0 c1 c2 c3 al t ser ⟨ys,ss⟩ sa n sc vs/\PelV w' ser t v y:=
 ⟨h.moved (MKeep.ofG d _) c h.stk.2,h.stk.1.y ((MKeep.ofG d _).y h.st.box h.st.own)⟩
theorem PInv.pushed(h:PInv w0 a w mb x gb gx c0 c1 c2 c3 al t ser m sa sn sc vs){y:Cl}(d:PelV w ser t v y){ga nc:Nat}(c:PSt w' w0.heap.size mb c0 c1 c2 c3 al t (.map (some x)) (Vp gb) (some ⟨ga,0,none⟩) (sn+1) nc (vs.reverse++[v]))(e:MKeep w w' mb (.slice sa sn sc)):PInv w0 a w' mb x gb gx c0 c1 c2 c3 al t ser ⟨y::m.jy,m.jx⟩ (some ⟨ga,0,none⟩) (sn+1) nc (v::vs):=
 h.moved e (by rw[Ybz];exact c) ⟨d,h.stk⟩
theorem PInv.belX{d:World}(h:PInv w0 d w mb x gb gx c0 c1 c2 c3 al t ser m sa sn sc vs)(c:BelX gx w.heap.size w w')(f:MapX w' gx):PInv w0 d w' mb x gb gx c0 c1 c2 c3 al t ser m sa sn sc vs:=by
 have a:=Zo.belX c h.gm
 have e:x<w.heap.size:=by
  obtain⟨gs,es,cl,g,_⟩:=h.slo;exact(Yae.1 g.heap).1
 exact⟨⟨a _ _ _ _ h.st.box,a.own h.st.own,h.st.len⟩,h.slo.y a.y (c.block x e h.ne),a _ _ _ _ h.gr,f,h.stk.y a.y,h.bel.trans ((c.mono h.bel.size).below h.lg),h.lm,h.lx,h.lg,h.ne,h.ky.trans a.y⟩
theorem PInv.stored{f:World}(h:PInv w0 f w mb x gb gx c0 c1 c2 c3 al t ser m sa sn sc vs){o:Obj}(i:w'=setBlock w x o)(j:PSlo w' x ser t ss):PInv w0 f w' mb x gb gx c0 c1 c2 c3 al t ser ⟨m.jy,ss⟩ sa sn sc vs:=by
 have c:=BelX.set x w.heap.size w o;rw[<-i]at c
 have g:MapX w x:=by
  obtain⟨gs,es,cl,d,_⟩:=h.slo;exact⟨es,cl,d.heap⟩
 have a:=Zo.belX c g;refine⟨⟨a _ _ _ _ h.st.box,a.own h.st.own,h.st.len⟩,j,a _ _ _ _ h.gr,?_,h.stk.y a.y,h.bel.trans ((c.mono h.bel.size).below h.lx),h.lm,h.lx,h.lg,h.ne,h.ky.trans a.y⟩;obtain⟨es,cl,d⟩:=h.gm;exact⟨es,cl,(c.block gx (Yae.1 d).1 (fun e=>h.ne e.symm)).trans d⟩
theorem PInv.top{e:World}(h:PInv w0 e w mb x gb gx c0 c1 c2 c3 al t ser m sa sn sc vs){y:Cl}(c:m.jy=y::ys):∃v vs' n,vs=v::vs'/\sn=n+1/\PelV w ser t v y/\n=ys.length:=by
 have a:=h.stk;rw[c]at a;cases vs with
 | nil=>exact absurd a id
 | cons v vs=>
  have d:=h.num;rw[c,Yaj]at d;exact⟨v,vs,ys.length,rfl,d,a.1,rfl⟩
def ZtC(w0 wk w':World)(mb x gb gx:Nat)(c0 c1 c2 c3 al:Value)(t:Int)(ser:List Ser)(m:MQ):Prop:=∃sa sn sc vs,PInv w0 wk w' mb x gb gx c0 c1 c2 c3 al t ser m sa sn sc vs
theorem PInv.re(h:PInv w0 a w mb x gb gx c0 c1 c2 c3 al t ser m sa sn sc vs):PInv w0 w w mb x gb gx c0 c1 c2 c3 al t ser m sa sn sc vs:=⟨h.st,h.slo,h.gr,h.gm,h.stk,h.bel,h.lm,h.lx,h.lg,h.ne,ZbL.below (Yaf _ _)⟩

/- Parts. -/
import Derived.Test.YtcdgkkfipdoeeaaGreatDoorT22
set_option linter.all false
set_option maxRecDepth 100000
set_option maxHeartbeats 16000000
namespace Go.Proofs.YtcdgkkfipdoeeaaGreatDoor
open Go.RowKit LS Go.Proofs.Tryz
variable {l:LB}{w:World}
section
variable {x mb gb:Nat} {sv:Value} {ss:List Srs} {tm:Int}
theorem MapX.lt{x:Nat}(h:MapX w x):x<w.heap.size:=by
 obtain⟨es,cl,a⟩:=h;exact(Yae.1 a).1
theorem ZBO(nd:Nd)(l r:Tr)(a b:Nat)(hk:nd.jj=4)(R:nd.op<=3)(A:VOk 1000 (sayT (ss.map Srs.ser) tm r))(B:ZcC x mb gb sv ss tm l)(C:ZcC x mb gb sv ss tm r):ZcC x mb gb sv ss tm (.node a b nd l r):=by
 intro pv w J S
 obtain⟨p,q,D,K,L⟩:∃p q,pv=.iface 116 (.agg #[Vi (opNo nd),p,q])/\Zh w l p/\Zh w r q:=by
  rcases S with ⟨h,_⟩|⟨h,_⟩|⟨h,_⟩|⟨h,_⟩|⟨h,_⟩|⟨_,h⟩
  ·omega
  ·omega
  ·omega
  ·omega
  ·omega
  ·exact h
 have T:opNo nd=nd.op+1:=by unfold opNo;rw[if_neg Om]
 rw[T]at D;subst D;obtain⟨ty,tv,rfl⟩:=K.shape;obtain⟨uy,uv,rfl⟩:=L.shape;have HS:Hid (sayT (ss.map Srs.ser) tm (.node a b nd l r)=Zdg _ _ _):=hid (by rw[sayT,if_neg Om,if_neg Om,if_neg Om,if_neg Om,if_neg Om,if_neg Om]);have HM:=hid J;have U:Hid (Zh w l _/\Zh w r _):=⟨K,L⟩
 have V:=hid A;have X:Hid (∀W,MOk x _ _ _ _ _ W->Zh W l (.iface ty tv)->Calls _ _ _ W _):=hid (fun W k n=>B _ W k n);have Y:Hid (∀W,MOk x _ _ _ _ _ W->Zh W r (.iface uy uv)->Calls _ _ _ W _):=hid (fun W k n=>C _ W k n);obtain⟨oz,o⟩:∃oz:Int,oz=((nd.op+1:Nat)):=⟨_,rfl⟩
 have E:=hid o;have M:(oz == 0)=false:=by rw[beq_eq_false_iff_ne];omega
 rw[<-o];have a5:=J.map.lt;clear S J K L A B C T o;have k:=ZgB (.agg #[Vi oz,.iface ty tv,.iface uy uv]);have n:=ZgA (.agg #[Vi oz,.iface ty tv,.iface uy uv]);have h3:=ZgC (.agg #[Vi oz,.iface ty tv,.iface uy uv]);go_enter func93,ntmps93
 go_upto_region 12 with fail
 refine ZP fun W N=>?_;have f:Below _ w W:=N▸Zbal;have z:Hid (BAt W _ _ 116):=N▸bnw;have d:=hid (HM.below f);have F:Hid (Zh W l _/\Zh W r _):=hid ⟨U.1.below f,U.2.below f⟩;have G:=hid f;clear N f k n h3 M;have x0:=z.cell 0;have x1:=z.cell 1;have x2:=z.cell 2;simp only[Zget]at x0 x1 x2
 have t : Hid (∀ u, BelX x _ W u -> u.cell? _ = some _ /\ u.cell? _ = some _ /\ u.cell? _ = some _) := hid (fun u h => by
   have g:=z.belX h Om;exact⟨g.cell 0,g.cell 1,g.cell 2⟩)
 go_region_held3 (fun u => u.cell? ⟨w.heap.size, 0, none⟩ = some (Vi oz) /\ u.cell? ⟨w.heap.size, 1, none⟩ = some (.iface ty tv) /\ u.cell? ⟨w.heap.size, 2, none⟩ = some (.iface uy uv)) (first | exact ⟨x0, x1, x2⟩ | exact t.out _ H.out | exact t.out _ v.out | exact t.out _ j.out | go_keep) (first
   | (go_at_call 93
      refine(Y.out O I.out Z.out).mono ?_;rintro e P ⟨v6,rfl,a0,a1,i⟩;have v:Hid (BelX x W.heap.size W P):=hid (j.trans (i.mono j.size));have Q:Hid (ValP P v5 (sayT (ss.map Srs.ser) tm l)):=hid (a2.jk (Zo.belX i.out I.map));clear i)
   | (go_at_call 93
      refine(X.out _ (by exact⟨d.m,d.g,d.map,⟨d.sto.row,fun s hs=>(d.sto.ok s hs).jk (Zo.refl _),d.sto.len⟩⟩) (by exact F.1.jk (Zo.refl _))).mono ?_;rintro e O ⟨v5,rfl,a2,I,c⟩;have j:Hid (BelX x W.heap.size W O):=hid ⟨c.os,c.tape,c.output,c.size,c.block⟩;have Z:Hid (Zh O r (.iface uy uv)):=hid (F.2.jk (Zo.belX j.out d.map));clear c)
   | (go_at_call 154
      rw[E.out];refine(ZmH nd.op R v5 v6 _ _ P Q.out a0.out V.out).mono ?_;rw[<-E.out];rintro e w7 ⟨v7,rfl,a6,y⟩;have a3:=hid (a1.below y);have H:Hid (BelX x W.heap.size W w7):=hid (v.trans ((BelX.of y).mono v.size));clear y))
 have a4:=hid ((BelX.of G).trans (H.mono G.size));go_wp2;go_ret;exact⟨_,rfl,hid (by rwa [HS.out]),a3,a4⟩
theorem ZBP(nd:Nd)(l r:Tr)(a b:Nat)(hk:nd.jj=5)(G:nd.op<=3)(v:nd.by_.length<=100000)(H:ZdN (sayT (ss.map Srs.ser) tm l)=true)(I:ZcC x mb gb sv ss tm l):ZcC x mb gb sv ss tm (.node a b nd l r):=by
 intro pv w U hP
 obtain⟨i,la,ln,lc,q,a0,J,a1,V⟩:∃(i:BA) (la:Option _) (ln lc:Nat) (q:Value),pv=.iface 124 (.agg #[.string i,.slice la ln lc,q])/\bl i=ZW.getD nd.op []/\Zbm w (.slice la ln lc) nd.by_/\Zh w l q:=by
  rcases hP with ⟨h,_⟩|⟨h,_⟩|⟨h,_⟩|⟨h,_⟩|⟨_,h⟩|⟨h,_⟩
  ·omega
  ·omega
  ·omega
  ·omega
  ·exact h
  ·omega
 subst a0;obtain⟨ty,tv,rfl⟩:=V.shape;obtain⟨bs,y,A⟩:=a1;have K:bs.length<=100000:=by rw[<-A,Yak]at v;exact v
 obtain⟨av,cpv,a2⟩:=Zl y;injection a2 with e1 e2 e3;subst e2;have HS:Hid (sayT (ss.map Srs.ser) tm (.node a b nd l r)=.inr (Zcv _ (bs.map _) _)):=hid (by rw[sayT,if_neg Om,if_neg Om,if_neg Om,if_neg Om,if_pos hk,A]);have HM:=hid U;have HP:=hid V;have a3:=hid y;have a4:=hid (fun W X Y=>Znu l H I ty tv W X Y);have a5:=hid (fun W=>ZqX G J W);have b2:=U.map.lt;clear hP U V y H I J A v e1 e3;have X:=Zhx (.agg #[.string i,.slice la bs.length lc,.iface ty tv]);have Y:=Zhw (.agg #[.string i,.slice la bs.length lc,.iface ty tv]);have h3:=Zhy (.agg #[.string i,.slice la bs.length lc,.iface ty tv]);have h4:=Zhv (.agg #[.string i,.slice la bs.length lc,.iface ty tv]);go_enter func93,ntmps93
 go_wp2_with fail
 refine Zm fun W Z=>?_;have L:Below _ w W:=Z▸Zbal;have HX:Hid (BAt W _ [.string _,.slice _ _ _,.iface _ _] 124):=Z▸bnw;have j:=hid L;clear Z L X Y h3 h4;refine(Zs0 W _ _ _ rfl).mono ?_;rintro e z ⟨rfl,k⟩;have n:Below _ W _:=k▸Zbal;have M:z.cell? ⟨W.heap.size,0,none⟩=some (.slice _ _ _):=k▸Ydm _ _ _ _ (by simp) |>.trans rfl
 have N:W.heap.size<z.heap.size:=by rw[k];simp
 have O:=hid (Zsp K N M (Zn a3 (j.trans (n.mono j.size))));have B:=hid (j.trans (n.mono j.size));have P:=hid (HX.below n);clear k n M N HX j
 go_wp2_with fail
 refine O.mono ?_;rintro e F ⟨nv,bs',rfl,f,C⟩;have f:=hid (And.intro (f.1.mono (Yag _)) f.2);obtain⟨na,ncp,rfl⟩:=Zl f.1;have o:=hid (B.trans (C.mono B.size));have p:=hid (P.below C);have c:=hid (HM.below o);have a6:=hid (HP.below o);clear C P B O;have x0:=p.cell 0;have x1:=p.cell 1;have x2:=p.cell 2;have m2:=c.m.cell 2;simp only[Zget]at x0 x1 x2 m2
 have a7:mb≠x:=by
  intro e;obtain⟨es,cl,hx⟩:=c.map;have:=c.m;rw[e]at this;unfold BAt at this;rw[hx]at this;cases this
 have Q : Hid (∀ u, BelX x _ _ u -> u.cell? _ = some _ /\ u.cell? _ = some _ /\ u.cell? _ = some _) := hid (fun u h => by
   have g:=p.belX h Om;have g2:=c.m.belX h a7;exact⟨g.cell 0,g.cell 2,g2.cell 2⟩)
 go_upto_region 16 with fail
 go_region_held3 (fun u => u.cell? ⟨w.heap.size, 0, none⟩ = some (.string i) /\ u.cell? ⟨w.heap.size, 2, none⟩ = some (.iface ty tv) /\ u.cell? ⟨mb, 2, none⟩ = some (Vp gb)) (first | exact ⟨x0, x2, m2⟩ | exact Q.out _ R.out | exact Q.out _ t.out | go_keep) (first
   | (go_at_call 124
      refine(a5.out _).mono ?_;rintro e w4 ⟨rfl,rfl⟩)
   | (go_at_call 158
      refine(a4.out _ (by exact⟨c.m,c.g,c.map,⟨c.sto.row,fun s hs=>(c.sto.ok s hs).jk (Zo.refl _),c.sto.len⟩⟩) (by exact a6.jk (Zo.refl _))).mono ?_;rintro e w6 ⟨v6,l6,is6,rfl,S,D,d⟩;have t:Hid (BelX x F.heap.size F w6):=hid ⟨d.os,d.tape,d.output,d.size,d.block⟩;have a8:=hid ((Zo.belX t.out c.map).own f.1);clear d)
   | (go_at_call 157
      refine(ZqW gb x nd.op G bs' v6 l6 is6 w6 D.g D.map a8.out (by rw[f.2.1];exact K) f.2.2.1 S.1).mono ?_;rintro e w7 ⟨v7,is7,rfl,T,E⟩;have a9:=hid (D.belX E T.2);have R:Hid (BelX x F.heap.size F w7):=hid (t.trans (E.mono t.size));clear E))
 have b0:=hid ((BelX.of o).trans (R.mono o.size));have b1:Hid (VecV w7 v7 (Zcv nd.op (bs.map bl) l6) is7):=by rw[<-ZpJ f.2.2.2];exact T.1
 go_wp2;go_ret;exact⟨_,rfl,hid (HS.out▸S.2▸⟨_,is7,rfl,b1.out⟩),a9,b0⟩
end
section
variable {x mb gb:Nat} {sv:Value} {ss:List Srs} {tm:Int}
theorem Zm4(j : -1000000<=tm)(k:tm<=1000000)(o:Dst (ss.map Srs.ser))(z:ss.length<=30):∀t:Tr,wfT t->wT t<=100000->winT t->isNil t=false->Zf t≠0->ZcC x mb gb sv ss tm t
 | .nil,_,_,_,h,_=>by cases h
 | .node p q a l r, c, A, g, _, d => by
   have y:ownW a+wT l+wT r<=100000:=A;have u:=c.2.2.2.2.2.2.2.2.2.2.1;have v:=c.2.2.2.2.2.2.2.2.2.2.2;have m:=fun h i=>Zm4 j k o z l u Om g.2.1 h i;have w:=fun h i=>Zm4 j k o z r v Om g.2.2 h i;have C:=c.1;have f:=c.2.2.2.2.2.2.1;have s:=c.2.2.2.2.2.2.2.1;have vl:isNil l=false->Zf l=2->ZdN (sayT (ss.map Srs.ser) tm l)=true:=fun h i=>by rw[Zj7 _ tm l u h Om,i];rfl
   have vr:isNil r=false->Zf r=2->ZdN (sayT (ss.map Srs.ser) tm r)=true:=fun h i=>by rw[Zj7 _ tm r v h Om,i];rfl
   have kl:=Zid l;have kr:=Zid r;unfold Zf at d;rcases(by omega:a.jj=0∨a.jj=1∨a.jj=2∨a.jj=3∨a.jj=4∨a.jj=5∨a.jj=6)with h|h|h|h|h|h|h
   · exact ZBR a l r p q h (by unfold vOk;have:=c.2.2.2.2.1;have:=c.2.2.2.2.2.1;omega)
   · exact ZBT a l r p q h o j k
   · exact ZBU a l r p q h c.2.1 (g.1 h) o j k
   · rw[if_neg Om,if_neg Om,if_pos h]at d
     exact ZBQ a l r p q h (m (f Om) d)
   · rw[if_neg Om,if_neg Om,if_neg Om,if_neg Om]at d
     by_cases n:Zf l=0∨Zf r=0∨(a.jj=6/\Zf l+Zf r≠4)
     · simp_all
     · refine ZBO a l r p q h (c.2.2.1 h) ((Zj8 o _ r).mono (by simp_all;omega)) (m (f Om) (fun e=>n (.inl e))) (w (s Om) (fun e=>n (.inr (.inl e))))
   · rw[if_neg Om,if_neg Om,if_neg Om,if_pos h]at d
     by_cases n:Zf l=2
     · refine ZBP a l r p q h (c.2.2.2.1 h) (by have:=Zmw a.by_;unfold ownW at y;omega) (vl (f Om) n) (m (f Om) Om)
     simp_all
   · rw[if_neg Om,if_neg Om,if_neg Om,if_neg Om]at d
     by_cases n:Zf l=0∨Zf r=0∨(a.jj=6/\Zf l+Zf r≠4)
     · simp_all
     · have D:Zf l+Zf r=4:=by
         refine Yb6 fun B=>n (.inr (.inr ⟨h,B⟩))
       exact ZBS a l r p q h (vl (f Om) Om) (vr (s Om) Om) (m (f Om) Om) (w (s Om) Om)
end
section
theorem ZtJ(t:Tr){ts:List Int}{ss:List Srs}{pv sv tv:Value}(e2:ts.length<=50)(P:∀t∈ts,-1000000<=t/\t<=1000000)(n:w.ownsRow 0 3 1 tv ts.length (ts.map (Value.int .i64)))(hP:Zh w t pv)(hS:StoP w sv ss)
  (F:∀x mb gb tm,-1000000<=tm->tm<=1000000->ZcC x mb gb sv ss tm t) (Q:∀tm,VOk 30 (sayT (ss.map Srs.ser) tm t)) (hp:ZR w) (hB:20<=w.heap.size) :
  Cz 42 #[pv,sv,tv] w fun e w'=>∃r:BA,e=.returned (.string r)/\Hid (bl r=Zcn (ts.map (Zeu (ss.map Srs.ser) t)))/\BW w w':=by
 obtain⟨i0,hi,R,S,T⟩:=info_parts Tryz.infoStrG;obtain⟨ta,tcp,rfl⟩:=Zl n;obtain⟨sa,scp,rfl⟩:=Zl hS.row;obtain⟨pty,pu,rfl⟩:=hP.shape;have HP:=hid hp;have U:=hid hB;have b6:=hid P;have G:=hid n;have b7:=hid hP;have b8:=hid hS;have a9:=hid F;have b9:=hid Q;clear hp hB P n hP hS F Q;go_enter func42,ntmps42
 go_wp2_with fail
 refine(Zmp w).mono ?_;rintro e y ⟨rfl,V,X,o,Y⟩;have Z:=hid Y;have H:=hid o;clear Y o
 go_wp2_with (at_make;refine wpList_make_own _ rfl _ _ 122 rfl (w.heap.size+3) 9 i0 _ 1 underlying122 hi R S _ _ _ ts.length rfl rfl rfl ?b2 ?b3 ?b4 ?_)
 case b2=>rw[T];omega
 case b3=>unfold maxLen;omega
 case b4=>simp;have:=H.out;omega
 intro z p c;have o:=H.out;have f:Hid (BAt _ _ _ 193):=hid (BAt.grown bnw c (by simp));have s:=hid ((X.alloc _).grown c (by simp));have A:=hid ((V.below Zbal).grown c (by simp));have c6:=hid ((Z.alloc Om _).grown c (by simp;omega) (fun q hq=>by cases hq));have c7:=hid p;clear c p;generalize y.heap.size=mb at *
 subst o;clear V X Z H;go_wp2
 go_loopw [8,19] (fun v i wr=>∃(k:Nat) (rs:List BA) (tm:Int),k<=ts.length/\i=Vi k/\rs.length=k/\Hid (wr.ownsRow (w.heap.size+3) 9 1 v rs.length (Zbc rs))/\Hid (rs.map bl=(ts.take k).map (Zeu (ss.map Srs.ser) t))/\Hid (∀r∈rs,r.size<=40000000000)/\Hid (BAt wr (w.heap.size+2) [.slice sa ss.length scp,Vi tm,Vp (w.heap.size+1)] 193)/\Hid (BAt wr (w.heap.size+1) [.map (some w.heap.size)] 281)/\Hid (MapX wr w.heap.size)/\Hid (BW w wr)) (fun _ i _=>ts.length - (intOf i).toNat)
 case atStart=>exact⟨0,[],0,Yag _,rfl,rfl,c7,hid rfl,hid (fun r hr=>by cases hr),f,s,A,c6⟩
 case round=>
  rename World=>wo
  obtain⟨k,rs,tm,hk,rfl,c8,HO,HL,HZ,f,s,A,I⟩:=hrel;have c9:=I.size;have e3:=f.lt;by_cases J:k<ts.length
  ·have hg:∃g,ta=some ⟨g,0,none⟩:=by
    obtain⟨g,cp',h⟩:=ZF G.out Om;injection h with h1;exact⟨g,h1⟩
   obtain⟨tg,rfl⟩:=hg;have d1:=Zi (Zn G I) k (by rw[Ya2,List.getElem?_eq_getElem J];rfl);have d0:Hid ((ts.take (k+1)).map (Zeu (ss.map Srs.ser) t)=(ts.take k).map (Zeu (ss.map Srs.ser) t)++[Zeu (ss.map Srs.ser) t ts[k]]):=by rw[List.take_succ_eq_append_getElem J,Yaq];rfl
   have K:=hid (b6 _ (List.getElem_mem J));generalize ts[k]=tk at *
   have e4:(k:Int)<(ts.length):=by omega
   have y1:=f.cell;have fz1:=f.frozen 1
   go_wp2_with fail
   refine Zm fun W E=>?_;have l:Hid _:=E▸I.setCell (by simp) _;have d2:=l.size
   have L : Hid (MOk _ _ _ _ _ _ W) := hid ⟨E▸f.set1, E▸s.other (by simp) _, by
     obtain⟨es,cl,hx⟩:=A.out;exact⟨es,cl,E▸(Go.Deep.blk_setCell_other _ _ _ _ (by simp)).trans hx⟩,b8.below l⟩
   have a0:Hid (W.ownsRow _ 9 1 _ _ _):=E▸ownsRow_setCell_below HO.out (by simp) _;have a1:=hid (b7.jk (Zo.below l));clear E I HO f s A y1 fz1 d1;refine(a9 _ _ _ _ K.1 K.2 _ W L a1).mono ?_;rintro e w5 ⟨v5,rfl,a2,a3,M⟩;have a4:=hid ((Zo.belX M L.map).own a0);have j:=hid (l.trans ((M.mono d2).below (Yac _)));have a5:=hid (HP.low j U);have d3:=j.size;clear L a0 a1 l M
   go_wp2_with fail
   refine(ZqI (by have:=K.out;unfold vOk;omega) a2 (b9 _) a5 (by have:=U.out;omega)).mono ?_;rintro e w6 ⟨r6,rfl,d4,a6,B⟩;have N:=hid (Zn a4 B);have a7:=hid (j.trans (B.mono d3));have C:=hid (a3.below B);have d5:=hid a6;have e5:=a7.size;have e6:=C.m.lt;clear B a6 a4 j a3 a5 a2
   go_wp2_with (at_builtin;refine wpList_append_own _ rfl (.tmp 25) (.tmp 30) 122 rfl (w.heap.size+3) 9 i0 (.string ByteArray.empty) 1 16 underlying122 hi R S T rfl Dc _ _ _ rfl (N.alloc _) ⟨w6.heap.size,0,none⟩ 1 1 [.string r6] rfl rfl ?c1 ?c2 ?c3 ?c4 ?c5 ?_)
   case c1=>exact ZcY rfl
   case c2=>intro u hu;simp at hu;subst hu;rfl
   case c3=>unfold maxLen;omega
   case c4=>omega
   case c5=>simp;omega
   intro v7 w7 O d _;have d6:Hid (w7.ownsRow (w.heap.size+3) 9 1 v7 (rs++[r6]).length (Zbc (rs++[r6]))):=by rwa [Zh2,Yab,c8]
   have D:∀a,a<w.heap.size+3->some a≠u8.ownBlock:=fun a ha e=>by have:=(N.lt a e.symm).1;omega
   have b0:=hid ((C.m.alloc _).grown d (D _ Om));have b1:=hid ((C.g.alloc _).grown d (D _ Om));have b5:=hid ((C.map.below Zbal).grown d (D _ Om));have d7:=hid ((a7.alloc Om _).grown d (by simp;omega) (fun q hq=>by have:=(N.lt q hq).1;omega));have d8:Hid ((rs++[r6]).map bl=(ts.take (k+1)).map (Zeu (ss.map Srs.ser) t)):=by rw[d0,Yaq,HL,Yco,d4];rfl
   have d9 : Hid (∀ r ∈ rs ++ [r6], r.size <= 40000000000) := hid (fun r hr => by
     rcases Yar.1 hr with h|h
     · exact HZ r h
     · rw[Yap]at h;subst h;exact d5)
   clear d O D;go_wp2
   go_roundw
   case rel=>exact⟨k+1,rs++[r6],tk,by omega,by go_num,by simp;omega,d6,d8,d9,b0,b1,b5,d7⟩
   case measure=>simp[intOf];omega
  ·obtain rfl:k=ts.length:=by omega
   have e0:Hid (rs.map bl=ts.map (Zeu (ss.map Srs.ser) t)):=by have:=HL.out;rwa [Ya4]at this
   go_wp2_with fail
   refine(Zqb HO Om HZ).mono ?_;rintro e w5 ⟨r5,rfl,e1,a8⟩;have j:=hid (I.trans (a8.mono c9));clear a8;go_wp2;go_ret;exact⟨_,rfl,hid (by rw[e1,e0]),j⟩
theorem Ze2{t:Tr}(h:ZD l=.ok t):wfT t/\isNil t=false/\wT t<=100000:=by
 unfold ZD at h;by_cases c:300<l.length
 ·simp_all
 ·rw[if_neg c]at h;have f:=ZjB l (l.length+1) 0 (Yag _);have g:=ZjC l Om (l.length+1) 0;cases a:Zs (10*(ZN l (l.length+1) 0).length+5) false 0 .nil (ZN l (l.length+1) 0) 0 with
  | error e=>simp_all
  | ok z=>
   obtain⟨t',r⟩:=z;rw[a]at h;have i:=Zfv _ _ _ _ _ _ _ (fun e=>by cases e) a;simp only at h;by_cases d:(hd r).jj=0
   ·rw[if_pos d]at h;by_cases j:Zf t'=0
    ·simp_all
    simp_all;omega
   simp_all
theorem Zpz(s:BA)(A:Nat->Addr)(m:Int)(w:World)(H:Vars w A m)(M:ZR w)(N:20<=w.heap.size)(I:s.size<=9223372036854775807) :
  Cz 7 #[.string s] w fun e S=>∃(r:BA) (c p:Nat),e=.returned (.tuple #[.string r,Vi c,Vi p])/\Hid (Zey (bl s)=(bl r,c,p))/\Hid ((∃t,ZD (bl s)=.ok t)∨c≠0)/\BW w S:=by
 have O:=hid (Ziu s w I H.sents);have T:=hid H;have U:=hid M;have E:=hid N;clear H M N;go_enter func7,ntmps7
 go_wp2_with fail
 refine O.mono ?_;rintro e y ⟨pv,v,rfl,d,i⟩;have f:=hid i;have h:=hid (T.below i);have P:=hid (U.low i E);have J:=hid (Yah E i.size);clear i O;cases j:ZD (bl s)with
 | ok t=>
  rw[j]at d;obtain⟨rfl,q⟩:=d.out;obtain⟨F,K,G⟩:=Ze2 j;have o:Hid (Zey _=(Zu t 1,0,0)):=hid (by unfold Zey;rw[j]);have V:Hid (∃t,ZD _=.ok t):=hid ⟨t,j⟩;have Q:=hid (Zj6 F G q P J);obtain⟨ty,u,R⟩:=Zh.shape q;subst R;clear d j q F K G
  go_wp2_with fail
  refine Q.mono ?_;rintro e z ⟨r,rfl,W,a⟩;have g:=hid (f.trans (a.mono f.size));clear a Q;go_wp2
  go_ret3
  exact⟨r,0,0,rfl,hid (by rw[o,W]),hid (.inl V),g⟩
 | error x=>
  rw[j]at d;have o:Hid (Zey _=([],x.1,x.2)):=hid (by unfold Zey;rw[j]);clear j;rcases d.out with ⟨rfl,rfl⟩|⟨rfl,rfl⟩|⟨B,n⟩|⟨B,n⟩
  ·clear d
   go_wp2_with fail
   refine(ZjQ A m h).mono ?_;rintro e L ⟨rfl,rfl⟩
   go_wp2_with fail
   refine(Zdm A m h).mono ?_;rintro e z ⟨rfl,a⟩;have g:=hid (f.trans (a.mono f.size));clear a;go_wp2
   go_ret3
   exact⟨⟨#[]⟩,1,0,rfl,o,hid (.inr Dc),g⟩
  ·clear d
   go_wp2_with fail
   refine(Zmu A m h).mono ?_;rintro e L ⟨rfl,rfl⟩
   go_wp2_with fail
   refine(Zdm A m h).mono ?_;rintro e z ⟨rfl,a⟩;have g:=hid (f.trans (a.mono f.size));clear a;go_wp2
   go_ret3
   exact⟨⟨#[]⟩,4,0,rfl,o,hid (.inr Dc),g⟩
  ·obtain⟨x1,x2⟩:=x;simp only at B n;subst B;obtain⟨fa,rfl,k,l⟩:=n.cells;clear d n;have C:=hid k;have D:=hid l;clear k l
   go_wp2_with fail
   refine(Zmt A m h _ D).mono ?_;rintro e L ⟨rfl,rfl⟩
   go_wp2_with fail
   refine(ZdB A m _ _ h C).mono ?_;rintro e z ⟨rfl,a⟩;have g:=hid (f.trans (a.mono f.size));clear a;go_wp2
   go_ret3
   exact⟨⟨#[]⟩,2,x2,rfl,o,hid (.inr Dc),g⟩
  ·obtain⟨x1,x2⟩:=x;simp only at B n;subst B;obtain⟨fa,rfl,k,l⟩:=n.cells;clear d n;have C:=hid k;have D:=hid l;clear k l
   go_wp2_with fail
   refine(Zms A m h _ D).mono ?_;rintro e L ⟨rfl,rfl⟩
   go_wp2_with fail
   refine(ZdB A m _ _ h C).mono ?_;rintro e z ⟨rfl,a⟩;have g:=hid (f.trans (a.mono f.size));clear a;go_wp2
   go_ret3
   exact⟨⟨#[]⟩,3,x2,rfl,o,hid (.inr Dc),g⟩
theorem Zzy(A:Nat->Addr)(m:Int)(a:Vars w A m) :
  Cz 18 #[.iface 432 (.pointer (some (A 10)))] w fun e u=>e=.returned (Vi 11)/\u=w:=by
 have v:=a.all;go_enter func18,ntmps18
 iterate 10 (go_wp2_with fail;refine cret (Zg7 a) ?_)
 go_wp2_with fail
 refine cret (Zf7) ?_;go_wp2;go_ret;exact⟨rfl,rfl⟩
theorem ZvS(q s:BA)(f l st:Int)(A:Nat->Addr)(m:Int)(w:World)(U:Vars w A m)(ht:ZR w)(hB:20<=w.heap.size)(d:q.size<=9223372036854775807)(hs:s.size<=maxLen) :
  Cz 23 #[.string q,.string s,.agg #[Vi f,Vi l,Vi st]] w fun e w'=>∃(r:BA) (err:Value) (c p:Nat),e=.returned (.tuple #[.string r,err])/\Hid (Zfb w' A err c p)/\Hid (ZdK (bl q) (bl s) f l st=(bl r,c,p))/\BW w w':=by
 have V:=hid (fun W E=>Ziu q W d (U.below E).sents);have X:=hid (fun W E=>Zss s A m W (U.below E) hs);have Y:=hid (fun W E=>ZrI f l st W ((U.below E).sent _ Dc));have HT:=hid ht;have Z:=hid hB;clear U ht hB d hs;go_enter func23,ntmps23
 go_wp2_with fail
 refine Zm fun W hW=>?_;have B:Below _ w W:=hW▸Zbal;have a0:Hid (BAt W _ _ 23):=hW▸bnw;refine(V W B).mono ?_;rintro e y ⟨pv,v,rfl,g,F⟩;have h:=hid (B.trans (F.mono B.size));have G:=hid (a0.below F);clear F V B hW a0;cases d:ZD (bl q)with
 | error x=>
  obtain⟨H,ty,u,rfl⟩:=Zfb.rd d g;have HE:=hid H;have k:Hid (ZdK _ (bl s) f l st=([],x.1,x.2)):=hid (by unfold ZdK;rw[d]);clear g d H;go_wp2;go_ret2;exact⟨_,_,_,_,rfl,HE,k,h⟩
 | ok t=>
  rw[d]at g;obtain⟨rfl,I⟩:=g.out;obtain⟨ty,u,rfl⟩:=I.shape;have a1:=hid I;have J:=hid (Ze2 d);have a2:=hid (ZBk d)
  have K:Hid (∀x,(if (Zbp _).1≠0 then ([],(Zbp _).1,(Zbp _).2)else match Zdr f l _ with
   | none=>([],8,0)
   | some _=>(Zcn _,0,0))=x->ZdK _ (bl s) f l st=x):=hid (fun x hx=>by unfold ZdK;rw[d];exact hx)
  clear g d I
  go_wp2_with fail
  refine(X _ h).mono ?_;rintro e z ⟨sv,err,rfl,L,C,M⟩;have i:=hid (h.trans (C.mono h.size));have N:=hid (a1.jk (Zo.below C));have O:=hid (G.below C);clear C X G a1 h;rcases Zfb.ld L with ⟨n,rfl⟩|⟨n,H,ty',u',rfl⟩
  ·obtain⟨ss,o,P,Q,R⟩:=(M.out n).sto n;obtain⟨sa,scp,rfl⟩:=Zl o.row;have a3:=hid o;have a9:=hid P;have a4:=hid Q;have b0:=hid R;have H0:=hid n;clear L M o P Q R n;have x0:=O.cell
   go_wp2_with fail
   clear x0;refine(Y _ i).mono ?_;rintro e w3 ⟨tv,ev,rfl,S,D⟩;have j:=hid (i.trans (D.mono i.size));have a7:=hid (N.jk (Zo.below D));have a8:=hid (a3.below D);clear D Y N a3 O i;rcases S.out with ⟨T,rfl,rfl⟩|⟨ts,T,h2,h3,rfl,h4⟩
   ·have k:Hid (ZdK _ _ f l _=([],8,0)):=hid (K _ (by rw[if_neg (by rw[H0];simp),T]));clear S T;go_wp2;go_ret2;exact⟨_,_,8,0,rfl,hid (.inr (.inr (.inr (.inr (.inl ⟨rfl,rfl,rfl⟩))))),k,j⟩
   ·obtain⟨ta,tcp,rfl⟩:=Zl h4;have k:Hid (ZdK _ _ f l _=(Zcn (ts.map (Zeu (ss.map _) t)),0,0)):=hid (K _ (by rw[if_neg (by rw[H0];simp),T,a9]))
    have a5:=hid (ZtJ t h2 h3 h4 a7 a8
     (fun x mb gb tm a b=>Zm4 a b a4 b0 t J.1 J.2.2 a2.1 J.2.1 a2.2)
     (fun tm=>(Zj8 a4 _ t).mono (by rwa [Yak])) (HT.low j Z) (Yah Z j.size))
    clear S T h2 h3 h4
    go_wp2_with fail
    refine a5.mono ?_;rintro e w4 ⟨r4,rfl,b1,a6⟩;have b2:=hid (j.trans (a6.mono j.size));clear a6 a5;go_wp2;go_ret2;exact⟨r4,_,0,0,rfl,hid (.inl ⟨rfl,rfl,rfl⟩),hid (by rw[k,b1]),b2⟩
  ·have HE:=hid H;have k:=hid (K _ (by rw[if_pos n]));clear L M H n;go_wp2;go_ret2;exact⟨_,_,_,_,rfl,HE,k,i⟩
theorem Zpy(q s:BA)(f l st:Int)(A:Nat->Addr)(m:Int)(w:World)(C:Vars w A m)(F:ZR w)(D:20<=w.heap.size)(G:q.size<=9223372036854775807)(H:s.size<=maxLen) :
  Cz 11 #[.string q,.string s,.agg #[Vi f,Vi l,Vi st]] w fun e u=>∃(r:BA) (c p:Nat),e=.returned (.tuple #[.string r,Vi c,Vi p])/\Hid (ZdK (bl q) (bl s) f l st=(bl r,c,p))/\BW w u:=by
 have I:Hid (Vars w A m):=C;have J:Hid (∀W,BW w W->Cz 23 #[.string q,.string s,.agg #[Vi f,Vi l,Vi st]] W _):=hid (fun W E=>ZvS q s f l st A m W (C.below E) (F.low E D) (Yah D E.size) G H);clear C F D G H;go_enter func11,ntmps11
 go_wp2_with fail
 refine Zm fun W K=>?_;have v:BW w W:=by rw[K];exact Zbal
 refine(J.out W v).mono ?_;rintro e y ⟨r,err,c,p,rfl,j,o,B⟩;have d:Hid (BW w y):=hid (v.trans (B.mono v.size));have g:=hid (I.below d.out);clear B v K J I;rcases j.out with ⟨rfl,rfl,rfl⟩|⟨rfl,rfl,rfl⟩|⟨rfl,rfl,rfl⟩|⟨rfl,rfl,rfl⟩|⟨rfl,rfl,rfl⟩|⟨fa,rfl,L,h⟩
 ·clear j
  go_wp2_with fail
  refine(Zik A m g.out).mono ?_;rintro e t ⟨rfl,rfl⟩
  go_wp2_with fail
  refine(Ziq).mono ?_;rintro e z ⟨rfl,a⟩;have i:Hid (BW w z):=hid (d.trans (a.mono d.size));clear a;go_wp2
  go_ret3
  exact⟨r,_,_,rfl,o,i.out⟩
 ·clear j
  go_wp2_with fail
  refine(ZjQ A m g.out).mono ?_;rintro e t ⟨rfl,rfl⟩
  go_wp2_with fail
  refine(Zdm A m g.out).mono ?_;rintro e z ⟨rfl,a⟩;have i:Hid (BW w z):=hid (d.trans (a.mono d.size));clear a;go_wp2
  go_ret3
  exact⟨r,_,_,rfl,o,i.out⟩
 ·clear j
  go_wp2_with fail
  refine(Zmu A m g.out).mono ?_;rintro e t ⟨rfl,rfl⟩
  go_wp2_with fail
  refine(Zdm A m g.out).mono ?_;rintro e z ⟨rfl,a⟩;have i:Hid (BW w z):=hid (d.trans (a.mono d.size));clear a;go_wp2
  go_ret3
  exact⟨r,_,_,rfl,o,i.out⟩
 ·clear j
  go_wp2_with fail
  refine(Zrk A m g.out).mono ?_;rintro e t ⟨rfl,rfl⟩
  go_wp2_with fail
  refine(Zdm A m g.out).mono ?_;rintro e z ⟨rfl,a⟩;have i:Hid (BW w z):=hid (d.trans (a.mono d.size));clear a;go_wp2
  go_ret3
  exact⟨r,_,_,rfl,o,i.out⟩
 ·clear j
  go_wp2_with fail
  refine(Zrm A m g.out).mono ?_;rintro e t ⟨rfl,rfl⟩
  go_wp2_with fail
  refine(Zdm A m g.out).mono ?_;rintro e z ⟨rfl,a⟩;have i:Hid (BW w z):=hid (d.trans (a.mono d.size));clear a;go_wp2
  go_ret3
  exact⟨r,_,_,rfl,o,i.out⟩
 ·have x:Hid (y.cell? ⟨fa,1,none⟩=some (Vi p)):=L;clear j L;rcases h with ⟨rfl,k⟩|⟨rfl,k⟩|⟨rfl,k⟩|⟨rfl,k⟩
  ·have n:=hid k;clear k
   go_wp2_with fail
   refine(Zmt A m g.out fa n.out).mono ?_;rintro e t ⟨rfl,rfl⟩
   go_wp2_with fail
   refine(ZdB A m fa p g.out x.out).mono ?_;rintro e z ⟨rfl,a⟩;have i:Hid (BW w z):=hid (d.trans (a.mono d.size));clear a;go_wp2
   go_ret3
   exact⟨r,_,_,rfl,o,i.out⟩
  ·have n:=hid k;clear k
   go_wp2_with fail
   refine(Zms A m g.out fa n.out).mono ?_;rintro e t ⟨rfl,rfl⟩
   go_wp2_with fail
   refine(ZdB A m fa p g.out x.out).mono ?_;rintro e z ⟨rfl,a⟩;have i:Hid (BW w z):=hid (d.trans (a.mono d.size));clear a;go_wp2
   go_ret3
   exact⟨r,_,_,rfl,o,i.out⟩
  ·have n:=hid k;clear k
   go_wp2_with fail
   refine(Zrl A m g.out fa n.out).mono ?_;rintro e t ⟨rfl,rfl⟩
   go_wp2_with fail
   refine(ZdB A m fa p g.out x.out).mono ?_;rintro e z ⟨rfl,a⟩;have i:Hid (BW w z):=hid (d.trans (a.mono d.size));clear a;go_wp2
   go_ret3
   exact⟨r,_,_,rfl,o,i.out⟩
  ·have n:=hid k;clear k
   go_wp2_with fail
   refine(Zrn A m g.out fa n.out).mono ?_;rintro e t ⟨rfl,rfl⟩
   go_wp2_with fail
   refine(ZdB A m fa p g.out x.out).mono ?_;rintro e z ⟨rfl,a⟩;have i:Hid (BW w z):=hid (d.trans (a.mono d.size));clear a;go_wp2
   go_ret3
   exact⟨r,_,_,rfl,o,i.out⟩
def awQ:LB:=[97,43,98,42,99]
def awP:LB:=[97,32,43,32,98,32,42,32,99]
def awE:LB:=[99,32,43,32,100]
def awS:LB:=[99,123,104,61,97,125,32,49,58,53,32,52,58,56,10,99,123,104,61,98,125,32,52,58,50,10,100,123,104,61,97,125,32,52,58,51]
def awA:LB:=[49,10,52,32,123,104,61,97,125,49,49]
theorem ZtT:Zey awQ=(awP,0,0):=by kernel_rfl
theorem ZtS:ZdK awE awS 1 4 3=(awA,0,0):=by kernel_rfl
theorem ZgF{r:BA}(h:bl r=l):r=⟨l.toArray⟩:=ZcW (by rw[h,ZbF])
theorem ZtU(A:Nat->Addr)(m:Int)(w:World)(l:Vars w A m)(n:ZR w)(f:20<=w.heap.size) :
  Cz 6 #[] w fun e u=>e=.returned (.bool true)/\BW w u:=by
 have s : Hid (∀ W, Below _ w W -> Calls _ 7 _ W fun e u => e = .returned (.tuple #[.string _, .int _ 0, .int _ 0]) /\ Below _ W _) := hid (fun W d => (Zpz ⟨awQ.toArray⟩ A m W (l.below d) (n.low d f) (Yah f d.size) Dc).mono (fun e u ⟨r, c, p, g, o, _, q⟩ => by
   have h:=o.out;rw[ZbF,ZtT]at h;injection h with k1 k2;injection k2 with k2 k3;subst k2 k3;rw[ZgF k1.symm]at g;exact⟨g,q⟩))
 have t : Hid (∀ W, Below _ w W -> Calls _ _ _ W fun e u => e = .returned (.tuple #[.string _, .int _ 0, .int _ 0]) /\ Below _ W _) := hid (fun W d => (Zpy ⟨awE.toArray⟩ ⟨awS.toArray⟩ 1 4 3 A m W (l.below d) (n.low d f) (Yah f d.size) Dc Dc).mono (fun e u ⟨r, c, p, g, o, q⟩ => by
   have h:=o.out;rw[ZbF,ZbF,ZtS]at h;injection h with k1 k2;injection k2 with k2 k3;subst k2 k3;rw[ZgF k1.symm]at g;exact⟨g,q⟩))
 clear l n f;go_enter func6,ntmps6
 go_wp2_with fail
 refine Zm fun W i=>?_;have a:BW w W:=i▸Yaf _ _;refine(s W a).mono ?_;rintro e y ⟨rfl,j⟩;have v:=hid (a.trans (j.mono a.size));clear j a i s
 go_wp2_with fail
 refine Zm fun W i=>?_;have a:BW w W:=by rwa [i]
 refine(t W a).mono ?_;rintro e z ⟨rfl,k⟩;have x:=hid (a.trans (k.mono a.size));clear k a i t v;go_wp2;go_ret;exact⟨rfl,x⟩

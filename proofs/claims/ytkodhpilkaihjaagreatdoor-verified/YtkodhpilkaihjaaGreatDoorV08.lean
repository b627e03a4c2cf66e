/- Parts. -/
import Derived.Test.YtkodhpilkaihjaaGreatDoorV07
set_option linter.all false
set_option maxRecDepth 100000
set_option maxHeartbeats 16000000
namespace Go.Proofs.YtkodhpilkaihjaaGreatDoor
open Go.RowKit LS Go.Proofs.Tryz
variable {s:BA}{f:FuncId}{i:Int}{cs:List (LB×LB×Bool)}{ts:List Tok}{R:List Tok->Nat->Out Tr}{xs:List Value}{L M a b base deep k n:Nat}{rec:Nat -> List Tok -> Nat -> Out Tr}{r r1 r3 y:Out Unit}{p:PV}{t:Tok}{pv:Value}{w w':World}
def szB(r:Out Unit):Bool:=match r with
 | .error _=>false
 | .ok x=>(hd x.2).jj == 1
def szI(r:Out Unit):Int:=match r with
 | .error _=>0
 | .ok x=>if (hd x.2).jj=1 then numI 1000 (hd x.2).txt else 0
theorem ZNE (r3 : Out Unit) : (bnd (if szI r3 < 1 then bnd r3 (fun _ ts => .error (2, (hd ts).at_)) else r3) fun _ ts => ZJm (ZH 1 ts)) = (bnd r3 fun _ ts => ZJm (Zc2 ts)) /\ ∀ ts z, r3 = .ok ((), ts) -> Zc2 ts = .ok z -> szI r3 = z.1 := by
  cases r3 with
  | error e=>exact⟨rfl,fun ts z h=>(by cases h)⟩
  | ok x=>
    obtain⟨⟨⟩,ts⟩:=x;refine⟨?_,?_⟩
    · show _=ZJm (Zc2 ts)
      unfold Zc2;by_cases b:(hd ts).jj=1
      · have e:szI (.ok ((),ts))=numI 1000 (hd ts).txt:=if_pos b
        rw[e];by_cases c:numI 1000 (hd ts).txt<1
        · rw[if_pos c,if_neg Om];rfl
        · rw[if_neg c,if_pos ⟨b,by omega⟩]
          show ZJm (ZH 1 ts)=_;unfold ZH;rw[if_pos b];rfl
      · have e:szI (.ok ((),ts))=0:=if_neg b
        rw[e,if_pos Dc,if_neg (fun h=>b h.1)];rfl
    · intro t z e a
      injection e with e;injection e with _ e;subst e;unfold Zc2 at a;split at a
      · rename_i h
        injection a with a;subst a;exact if_pos h.1
      · cases a
theorem ZNV (o : Nat) (t0 : List Tok)  (a : r3 = bnd (bnd (Zq [40] t0) fun _ ts => ZJm (selP ts)) fun _ ts => Zq [91] ts) :
    ZJm (winP o t0)=(bnd (bnd (bnd r3 fun _ ts=>ZJm (Zc2 ts)) fun _ ts=>Zq [93] ts) fun _ ts=>Zq [41] ts)/\
    ∀t z,winP o t0=.ok (t,z)->∃y p0 y2 t3 nz,Zq [40] t0=.ok ((),y)/\selP y=.ok (p0,y2)/\r3=.ok ((),t3)/\Zc2 t3=.ok nz/\t=Zbg ⟨2,o,nz.1,p0.name,p0.jn,[]⟩:=by
  subst a;unfold winP;cases d:Zq [40] t0 with
  | error e=>exact⟨rfl,fun t z h=>(by cases h)⟩
  | ok x1=>
    obtain⟨⟨⟩,y⟩:=x1;simp only[bnd];cases b:selP y with
    | error e=>exact⟨rfl,fun t z h=>(by cases h)⟩
    | ok x2=>
      obtain⟨p0,y2⟩:=x2;simp only[ZJm,bnd];cases a:Zq [91] y2 with
      | error e=>exact⟨rfl,fun t z h=>(by cases h)⟩
      | ok x3=>
        obtain⟨⟨⟩,t3⟩:=x3;simp only;cases c:Zc2 t3 with
        | error e=>exact⟨rfl,fun t z h=>(by cases h)⟩
        | ok nz=>
          simp only;cases f:Zq [93] nz.2 with
          | error e=>exact⟨rfl,fun t z h=>(by cases h)⟩
          | ok x5=>
            simp only;cases g:Zq [41] x5.2 with
            | error e=>exact⟨rfl,fun t z h=>(by cases h)⟩
            | ok x6=>
              simp only;refine⟨trivial,fun t z h=>?_⟩;injection h with h;injection h with h _;exact⟨y,p0,y2,t3,nz,rfl,b,rfl,c,h.symm⟩
theorem ZJq.grownQ(h:ZJq w base p cs)(c:St w b pv s deep r)(f:w.grownBy w' (some b)):ZJq w' base p cs:=by
 obtain⟨qs,a,g⟩:=h;obtain⟨q,i,_⟩:=c.view;exact⟨qs,ZdA a (fun k d=>f.block k (a.lt k d).2 (fun e=>Zcx a i Dc (by rw[d,e]))),g⟩
theorem ZJq.box{p0:PV}(h:ZJq w base p cs)(b:PAt w a p0)(o:Nat)(x:Value):ZJq (w.setCell ⟨a,o,none⟩ x) base p cs:=by
 obtain⟨qs,c,d⟩:=h;exact⟨qs,ZKe c b Dc,d⟩
theorem St.view2(h:St w b pv s deep r) :
  ∃q:QV,QAt w b q/\(∀x,r=.error x->q.e≠0)/\(∀x,r=.ok x->q.e=0/\ZJB q=hd x.2/\q.tx.size<=s.size+2):=by
 cases r with
 | error x=>
  obtain⟨q,c,i,j,f,d,k⟩:=h;exact⟨q,c,fun _ _=>by rw[f];exact d,fun y a=>(by cases a)⟩
 | ok x=>
  obtain⟨⟨q,c,i,j,f,d,k,g⟩,_⟩:=h;refine⟨q,c,(by intro y a;cases a),?_⟩;intro y a;injection a with a;subst a;have:=Toks.txt_le (l:=bl s) (t:=ZJB q) (at_:=q.at_) (ts:=x.2) g;have e:(ZJB q).txt=bl q.tx:=rfl;rw[e,Zd,Zd]at this;exact⟨d,g.hd.symm,this⟩
def ZJH(w:World)(p:PV)(y:Out Unit):Prop:=∀t z,y=.ok ((),t)->selP t=.ok z->p=⟨1,0,0,p.nm,p.ca,p.cn,p.cc,none,0,0,0,0⟩/\z.1=⟨1,0,0,bl p.nm,z.1.jn,[]⟩/\ZJq w 0 p z.1.jn
theorem ZJH.grown(h:ZJH w p y)(a:St w b pv s deep r)(c:w.grownBy w' (some b)):ZJH w' p y:=
 fun t z e d=>let ⟨h1,h2,h3⟩:=h t z e d;⟨h1,h2,h3.grownQ a c⟩
theorem ZJH.box{p0:PV}(h:ZJH w p y)(b:PAt w a p0)(o:Nat)(x:Value):ZJH (w.setCell ⟨a,o,none⟩ x) p y:=
 fun t z e c=>let ⟨h1,h2,h3⟩:=h t z e c;⟨h1,h2,h3.box b o x⟩
theorem ZMK(h:St w b pv s deep (.ok ((),ts)))(hs:s.size<=5000)(hk:(hd ts).jj=2)(hm:isT [45] (hd ts)=false)(ho:isT [40] (hd ts)=false)(c:idx (hd ts).txt ZW=none){o:Nat}(hv:idx (hd ts).txt Z0=some o)
  (rec:Nat->List Tok->Nat->Out Tr)    (V:w.ownsRow 0 92 8 pv n xs) (hM:M<=6000) (hB:n+ts.length<=M) :
  CP 308 #[Vp b,.bool false,.bool false] w fun e u=>∃i:Int,e=.returned (Vi i)/\PartRes w b pv s deep xs M (Zbw rec ts deep) i u:=by
 obtain⟨q,hq,J,i6,_,_,i7,_⟩:=h.tok;obtain⟨c0,c1,c2,c3,c4,c5,c6,c7,c8⟩:=hq.all;have d0:=hq.lt;have i8:((q.k:Int) == 1)=false:=by rw[(ZJG J).1,beq_eq_false_iff_ne];omega
 have HI:Hid (Zbw rec ts deep=winP o ts.tail):=hid (by rw[ZKz hk hm ho,c,hv]);have HX:Hid (idxI (bl q.tx) ZW=-1):=hid (by rw[(ZJG J).2];exact ZKy c);have HY:Hid (idxI (bl q.tx) Z0=o):=hid (by rw[(ZJG J).2];exact ZK1 hv);have H:Hid (St w b pv s deep (.ok ((),ts))):=h;have HO:Hid (w.ownsRow 0 92 8 pv n xs):=V
 have i0:Hid (Bud M (n+1) (winP o ts.tail)):=hid (by
  have h0:Bud M (n+1) (.ok ((),ts.tail):Out Unit):=(show n+1+ts.tail.length<=M by omega)
  have:=h0.bnd (f:=fun _ t=>winP o t) (fun _ t z e hz=>by injection e with e;injection e with _ e;subst e;have:=ZEH hz;omega);exact this)
 clear h V hq J c0 c1 c2 c5 c6 c7 c8 c hv;go_enter func308,ntmps308
 go_wp2_with fail
 refine(ZJY Dc).mono ?_;rintro e w1 ⟨rfl,X⟩;rw[ZKp,HX.out];have d4:w1.cell? ⟨b,4,none⟩=some (.string q.tx):=(X.cell (p:=⟨b,4,none⟩) d0).trans c4;have Y:Hid (BW w w1):=X;clear X c3 c4
 go_wp2_with fail
 refine(ZJY Dc).mono ?_;rintro e w2 ⟨rfl,d1⟩;rw[ZKr,HY.out];have Z:Hid (BW w w2):=Y.trans (d1.mono Y.size);have a0:Hid (St w2 b pv s deep (.ok ((),ts))):=St.kept H.out (Z.block b d0);have d2:Hid (w2.ownsRow 0 92 8 pv n xs):=Zn HO.out Z.out;clear d1 d4 Y
 go_wp2_with fail
 refine(St.next a0.out Om ⟨ts,rfl,by omega⟩).mono ?_;rintro e w3 ⟨rfl,d,c⟩;have a1:Hid (St w3 b pv s deep (.ok ((),ts.tail))):=d;have d3:Hid (w3.ownsRow 0 92 8 pv n xs):=ZJs a0.out d2.out c;have d5:Hid (Kept b pv w pv w3):=(ZKB Z.out).grown c;clear d c a0 d2
 go_wp2_with fail
 refine(St.take a1.out Om _).mono ?_;rintro e w4 ⟨rfl,d,c⟩;have a2:Hid (St w4 b pv s deep (Zq [40] ts.tail)):=d;have d6:Hid (w4.ownsRow 0 92 8 pv n xs):=ZJs a1.out d3.out c;have a3:Hid (Kept b pv w pv w4):=d5.grown c;clear d c a1 d3 d5
 go_wp2_with fail
 refine(ZLc a2.out Om).mono ?_;rintro e w5 ⟨p,rfl,d,d7,c⟩;obtain⟨G,m⟩:∃G,G=w5.alloc (.cells #[Vi p.k,Vi p.n,Vi p.op,.string p.nm,.slice p.ca p.cn p.cc,.slice p.ba p.bn p.bc,Vi p.a,Vi p.b] 92):=⟨_,rfl⟩
 have K:Hid (St G b pv s deep (bnd (Zq [40] ts.tail) fun _ ts=>ZJm (selP ts))):=hid (by rw[m];exact St.kept d (Go.Deep.blk_alloc_lt _ _ _ (St.lt d)));have a4:=ZJs a2.out d6.out c;have d8:Hid (G.ownsRow 0 92 8 pv n xs):=hid (by rw[m];exact a4.alloc _);have d9:Hid (Kept b pv w pv G):=hid (by rw[m];exact(a3.grown c).grown (Ygj _ _ _))
 have e0:Hid (ZJH G p (Zq [40] ts.tail)):=hid (by
  intro t z e hz;obtain⟨q1,q2,qs,q3,q4⟩:=d7.out _ e z hz;rw[m];exact⟨q1,q2,qs,ZKH (q3.alloc _),q4⟩)
 obtain⟨a5,E⟩:∃a5,a5=w5.heap.size:=⟨_,rfl⟩
 have e7:Hid (PAt G a5 p):=hid (by rw[m,E];exact Go.Deep.blk_alloc_new _ _);have a6:w.heap.size<=a5:=by rw[E];exact(a3.grown c).size
 have i1:b≠a5:=by rw[E];have:=St.lt d;omega
 have i2:Hid (pv.ownBlock≠some a5):=hid (fun e=>by have:=(a4.lt _ e).2;omega);clear d c d7 a4 a2 d6 a3
 go_wp2_with fail
 rw[<-m,<-E];clear m E;refine(St.take K.out Om _).mono ?_;rintro e S ⟨rfl,d,c⟩;obtain⟨r3,a7⟩:∃r3:Out Unit,r3=bnd (bnd (Zq [40] ts.tail) fun _ ts=>ZJm (selP ts)) fun _ ts=>Zq [91] ts:=⟨_,rfl⟩
 have i3:Hid (r3=bnd (bnd (Zq [40] ts.tail) fun _ ts=>ZJm (selP ts)) fun _ ts=>Zq [91] ts):=a7;have A:Hid (St S b pv s deep r3):=hid (by rw[a7];exact d);have a8:Hid (S.ownsRow 0 92 8 pv n xs):=ZJs K.out d8.out c;have a9:Hid (Kept b pv w pv S):=d9.grown c;have I:Hid (ZJH S p (Zq [40] ts.tail)):=e0.grown K.out c;have b0:Hid (PAt S a5 p):=PAt.grown e7.out c (by simp;omega);clear d c a7 K d8 d9 e0 e7;obtain⟨q6,e8,e9,b1⟩:=St.view2 A.out;obtain⟨c0,c1,c2,c3,c4,c5,c6,c7,c8⟩:=e8.all
 have f3:(((q6.e:Int) == 0)=false/\szB r3=false)∨(((q6.e:Int) == 0)=true/\((q6.k:Int) == 1)=szB r3):=by
  cases r3 with
  | error e=>exact Or.inl ⟨by rw[beq_eq_false_iff_ne];have:=e9 e rfl;omega,rfl⟩
  | ok x=>
   obtain⟨h1,T,h3⟩:=b1 x rfl;refine Or.inr ⟨by rw[h1];rfl,?_⟩;show _=((hd x.2).jj == 1)
   rw[<-T];show((q6.k:Int) == 1)=(q6.k == 1)
   rw[Ybh,beq_iff_eq,beq_iff_eq];omega
 have b2:Hid (szB r3=true->q6.tx.size<=6000/\szI r3=numI 1000 (bl q6.tx)):=hid (by
  intro hb;cases r3 with
  | error e=>cases hb
  | ok x=>
   obtain⟨h1,T,h3⟩:=b1 x rfl;have i4:(hd x.2).jj=1:=by simpa [szB] using hb
   refine⟨by omega,?_⟩;show(if (hd x.2).jj=1 then _ else _)=_;rw[if_pos i4,<-T];rfl)
 have f4:Hid (szB r3=false->szI r3=0):=hid (by
  intro hb;cases r3 with
  | error e=>rfl
  | ok x=>exact if_neg (by simpa [szB] using hb))
 have i9:Hid (-1<=szI r3/\szI r3<=1000):=hid (by
  cases r3 with
  | error e=>exact⟨by show(-1:Int)<=0;decide,by show(0:Int)<=1000;decide⟩
  | ok x=>
   show -1<=(if (hd x.2).jj=1 then _ else _)/\(if (hd x.2).jj=1 then _ else _)<=_;split
   ·exact Zmr 1000 _
   ·decide)
 have f5:Hid _:=ZNE r3;have f6:Hid _:=ZNV o ts.tail i3.out;clear e8 e9 b1 c0 c1 c2 c5 c6 c8;generalize szB r3=sb at *
 generalize szI r3=nz at *
 go_upto_region 21 with fail
 go_cut [85] (fun s85 D=>s85=.bool sb/\D=S)
 case first=>
  rcases f3 with ⟨h1,T⟩|⟨h1,T⟩
  ·go_wp2
   go_meet
   exact⟨by rw[T],rfl⟩
  ·go_wp2
   go_meet
   exact⟨rfl,rfl⟩
 case rest=>
 obtain⟨rfl,rfl⟩:=hcut;clear f3
 go_upto_if 85 with fail
 go_cut [12] (fun s12 D=>s12=Vi nz/\D=wc)
 case first=>
  cases sb
  ·go_wp2
   go_meet
   exact⟨by rw[f4.out (by simp)],rfl⟩
  ·have g6:=(b2.out (by simp)).1
   go_wp2_with fail
   refine(ZJ2 1000 rfl g6 Dc).mono ?_;rintro e U ⟨rfl,rfl⟩;rw[<-(b2.out (by simp)).2];go_wp2
   go_meet
   exact⟨rfl,rfl⟩
 case rest=>
 obtain⟨rfl,rfl⟩:=hcut;clear b2 f4 c3 c4 c7;obtain⟨r4,f7⟩:∃r4:Out Unit,r4=if nz<1 then bnd r3 (fun _ ts=>.error (2,(hd ts).at_))else r3:=⟨_,rfl⟩
 have b3:Hid (r4=if nz<1 then bnd r3 (fun _ ts=>.error (2,(hd ts).at_))else r3):=f7;clear f7
 go_upto_if 93 with fail
 go_cut [] (fun D=>Hid (St D b pv s deep r4)/\Hid (PAt D a5 p)/\Hid (D.ownsRow 0 92 8 pv n xs)/\Hid (Kept b pv w pv D)/\Hid (ZJH D p (Zq [40] ts.tail)))
 case first=>
  by_cases F:nz<1
  ·have b4:decide (nz<1)=true:=decide_eq_true F;have HE:Hid (r4=bnd r3 (fun _ ts=>.error (2,(hd ts).at_))):=hid (by rw[b3.out,if_pos F])
   go_wp2_with fail
   clear b4 F;refine(St.fail A.out 2 _ rfl Dc).mono ?_;rintro e U ⟨rfl,d,c⟩;have B:Hid (St U b pv s deep r4):=hid (by rw[HE.out];exact d);have L:Hid (PAt U a5 p):=PAt.grown b0.out c (by simp;omega);have N:Hid (U.ownsRow 0 92 8 pv n xs):=ZJs A.out a8.out c;have O:Hid (Kept b pv w pv U):=a9.grown c;have P:Hid (ZJH U p (Zq [40] ts.tail)):=I.grown A.out c;clear d c;go_wp2
   go_meet
   exact⟨B,L,N,O,P⟩
  ·have b4:decide (nz<1)=false:=decide_eq_false F;have HE:Hid (r4=r3):=hid (by rw[b3.out,if_neg F]);go_wp2
   go_meet
   exact⟨hid (by rw[HE.out];exact A.out),b0,a8,a9,I⟩
 case rest=>
 obtain⟨B,L,N,O,P⟩:=hcut;clear A b0 a8 a9 I
 go_wp2_with fail
 refine(St.jj B.out Om 1 _ rfl Dc).mono ?_;rintro e w8 ⟨x8,rfl,d,_,c⟩;rw[b3.out,f5.1]at d;have Q:Hid (St w8 b pv s deep (bnd r3 fun _ ts=>ZJm (Zc2 ts))):=d;have f8:Hid (PAt w8 a5 p):=PAt.grown L.out c (by simp;omega);have f9:Hid (w8.ownsRow 0 92 8 pv n xs):=ZJs B.out N.out c;have g0:Hid (Kept b pv w pv w8):=O.grown c;have g1:Hid (ZJH w8 p (Zq [40] ts.tail)):=P.grown B.out c;clear d c B L N O P
 go_wp2_with fail
 refine(St.take Q.out Om _).mono ?_;rintro e w9 ⟨rfl,d,c⟩;rw[show bl ⟨#[93]⟩=[93] from rfl]at d;have R:Hid (St w9 b pv s deep (bnd (bnd r3 fun _ ts=>ZJm (Zc2 ts)) fun _ ts=>Zq [93] ts)):=d;have g2:Hid (PAt w9 a5 p):=PAt.grown f8.out c (by simp;omega);have g3:Hid (w9.ownsRow 0 92 8 pv n xs):=ZJs Q.out f9.out c;have g4:Hid (Kept b pv w pv w9):=g0.grown c;have g5:Hid (ZJH w9 p (Zq [40] ts.tail)):=g1.grown Q.out c;clear d c Q f8 f9 g0 g1
 go_wp2_with fail
 refine(St.take R.out Om _).mono ?_;rintro e C ⟨rfl,d,c⟩;rw[show bl ⟨#[41]⟩=[41] from rfl,<-f6.1]at d;have g:PAt C a5 p:=PAt.grown g2.out c (by simp;omega);have b5:C.ownsRow 0 92 8 pv n xs:=ZJs R.out g3.out c;have b6:Kept b pv w pv C:=g4.grown c;have b7:ZJH C p (Zq [40] ts.tail):=g5.grown R.out c;have hx:∀(W:World),W.ownsRow 0 92 8 pv n xs->∀(j:Nat) (v:Value),(W.setCell ⟨a5,j,none⟩ v).ownsRow 0 92 8 pv n xs:=fun W hW j v=>ZdA hW (fun k hk=>Go.Deep.blk_setCell_other _ _ _ _ (by rintro rfl;exact i2.out hk));have hy:∀(W:World),St W b pv s deep (ZJm (winP o ts.tail))->∀(j:Nat) (v:Value),St (W.setCell ⟨a5,j,none⟩ v) b pv s deep (ZJm (winP o ts.tail)):=fun W hW j v=>St.kept hW (Go.Deep.blk_setCell_other _ _ _ _ i1);obtain⟨r,l⟩:∃W,W=((C.setCell ⟨a5,0,none⟩ (Vi 2)).setCell ⟨a5,2,none⟩ (Vi o)).setCell ⟨a5,1,none⟩ (Vi nz):=⟨_,rfl⟩
 have b8:Hid (r=((C.setCell ⟨a5,0,none⟩ (Vi 2)).setCell ⟨a5,2,none⟩ (Vi o)).setCell ⟨a5,1,none⟩ (Vi nz)):=l;have pA:=PAt.setK g 2;have pB:=PAt.setOp pA (o:Int);have pC:=PAt.setN pB nz;rw[<-l]at pC;have g7:Hid (PAt r a5 { p with k:=2,op:=o,n:=nz }):=pC;have b9:Hid (r.ownsRow 0 92 8 pv n xs):=hid (by rw[l];exact hx _ (hx _ (hx _ b5 _ _) _ _) _ _);have c9:Hid (St r b pv s deep (ZJm (winP o ts.tail))):=hid (by rw[l];exact hy _ (hy _ (hy _ d _ _) _ _) _ _);have g8:Hid (Kept b pv w pv r):=hid (by rw[l];exact((b6.set a6 _).set a6 _).set a6 _);have g9:Hid (ZJH r p (Zq [40] ts.tail)):=hid (by rw[l];exact((b7.box g _ _).box pA _ _).box pB _ _);obtain⟨k0,k1,k2,k3,k4,k5,k6,k7⟩:=g.all;have f0:=g.frozen 0;have f1:=g.frozen 1;have f2:=g.frozen 2;obtain⟨m0,m1,m2,m3,m4,m5,m6,m7⟩:=PAt.all g7.out;clear d c g b5 b6 b7 hx hy pA pB pC l R g2 g3 g4 g5
 go_wp2_with fail
 clear k0 k1 k2 k3 k4 k5 k6 k7 f0 f1 f2 m0 m1 m2 m3 m4 m5 m6 m7;rw[<-b8.out];clear b8;refine(St.lay c9.out b9.out Om { p with k:=2,op:=o,n:=nz }).mono ?_;rintro e i5 ⟨pv12,rfl,s12,o12,k12⟩
 have HP:Hid (PartRes w b pv s deep xs M (Zbw rec ts deep) n i5):=hid (by
  refine ZKD g8.out c9.out b9.out s12 o12 k12 (by rw[HI.out];exact i0.out) (by rw[HI.out]) ?_;intro t z e;rw[HI.out]at e;obtain⟨y,p0,y2,t3,z3,e1,e2,e3,e4,e5⟩:=f6.2 t z e;obtain⟨q1,q2,q3⟩:=g9.out _ _ e1 e2;have e6:=f5.2 t3 z3 e3 e4;have q2':p0=⟨1,0,0,bl p.nm,p0.jn,[]⟩:=q2;refine⟨_,e5,⟨rfl,e6,rfl,by rw[q2'],q3,[],?_,rfl⟩,?_,?_⟩
  ·show r.ownsRow 0 9 1 (.slice p.ba p.bn p.bc) 0 [];rw[q1];exact Ybc _ _ _ _
  ·show p.a=0;rw[q1]
  ·show p.b=0;rw[q1])
 clear s12 o12 k12;go_wp2;go_ret;exact⟨_,rfl,HP.out⟩
theorem St.setDeep(h:St w b pv s deep r)(d:Nat):St (w.setCell ⟨b,6,none⟩ (Vi d)) b pv s d r:=by
 cases r with
 | error x=>
  obtain⟨q,a,c,g,i,e,f⟩:=h;exact⟨{ q with deep:=d },a.set 6 _ rfl,c,rfl,i,e,f⟩
 | ok x=>
  obtain⟨⟨q,a,c,g,i,e,f,j⟩,_⟩:=h;exact⟨⟨{ q with deep:=d },a.set 6 _ rfl,c,g,rfl,e,f,j⟩,trivial⟩
theorem St.deepCell(h:St w b pv s deep r):w.cell? ⟨b,6,none⟩=some (Vi deep)/\w.frozen? ⟨b,6,none⟩=false:=by
 obtain⟨q,a,_,hd,_⟩:=h.view;rw[<-hd];exact⟨a.all.2.2.2.2.2.2.1,a.frozen 6⟩
theorem PartRes.redeep{y a:World}{d:Nat}{R:Out Tr}(j:Kept b pv w pv y)(h:PartRes y b pv s d xs M R i a):PartRes w b pv s deep xs M R i (a.setCell ⟨b,6,none⟩ (Vi deep)):=by
 obtain⟨n',pv',ys,c,g,l,m,n⟩:=h.out;have f:a.grownBy (a.setCell ⟨b,6,none⟩ (Vi deep)) (some b):=ZA (ZbM _ _) (Or.inl rfl) _;obtain⟨q,o,_⟩:=c.view;refine⟨n',pv',ys,c.setDeep deep,ZJs c g f,(j.trans l).grown f,m,?_⟩;intro t z e;obtain⟨k,k1,k2,k3⟩:=n t z e;refine⟨k,k1,?_,k3⟩;have:=Rep.kept o g ((Kept.refl b pv' a).grown f) [] t k k2
 rwa [Yca]at this
def ErrC(f:FuncId):Prop:=∀(w:World) (b:Nat) (pv:Value) (e p deep:Nat),QErr w b pv e p deep->CP f #[Vp b] w fun r w'=>r=.returned (Vi 0)/\w'=w
theorem ZJn.of_ok(g:ErrC f)
  (h:∀(w:World) (b:Nat) (pv:Value) (deep:Nat) (ts:List Tok) (n:Nat) (xs:List Value) (M:Nat),St w b pv s deep (.ok ((),ts))->w.ownsRow 0 92 8 pv n xs->M<=6000->n+ts.length<=M->ts.length<=L->deep<=20->
   CP f #[Vp b] w fun e u=>∃i:Int,e=.returned (Vi i)/\PartRes w b pv s deep xs M (R ts deep) i u):ZJn f s R L:=by
 intro w b pv deep r n xs M a c j d k l;cases r with
 | error x=>
  refine(g w b pv x.1 x.2 deep a).mono ?_;rintro e u ⟨rfl,rfl⟩;exact⟨0,rfl,PartRes.error a c d⟩
 | ok x=>exact h w b pv deep x.2 n xs M a c j d (k _ rfl) l
theorem St.pos(h:St w b pv s deep (.ok ((),ts))):0<ts.length:=by
 obtain⟨_,_,_,_,_,_,h,_⟩:=h.tok;omega
theorem ZJn.zero(a:ErrC f):ZJn f s R 0:=
 ZJn.of_ok a fun w b pv deep ts n xs M c _ _ _ d _=>absurd c.pos Om
theorem ZNG(h:ZdD t=true)(a:t.jj≠1)(b:isT [45] t=false)(c:isT [40] t=false):t.jj=2/\isT wOr t=false/\isT wBy t=false:=by
 unfold ZdD at h;rw[b,c]at h;have:(t.jj == 1)=false:=by rw[beq_eq_false_iff_ne];exact a
 rw[this]at h;simp at h;exact⟨h.1.1,h.1.2,h.2⟩
theorem ZME  (k : s.size <= 5000)   (B : ZJn 289 s (fun ts d => rec 3 ts d) L) (C : ZJn 176 s (fun ts d => rec 0 ts d) L)
         (h:St w b pv s deep (.ok ((),ts))) (x:ZdD (hd ts)=true) (t:ts.length<=L+1)    (a:w.ownsRow 0 92 8 pv n xs) (c:M<=6000) (f:n+ts.length<=M) (l:deep<=20) :
    CP 308 #[Vp b,.bool (isT [45] (hd ts)),.bool (isT [40] (hd ts))] w fun e u=>∃i:Int,e=.returned (Vi i)/\PartRes w b pv s deep xs M (Zbw rec ts deep) i u:=by
  have y:=ZNZ (by omega:s.size<=6000) C;by_cases q:(hd ts).jj=1
  · exact ZMH h k q rec a c f
  · cases j:isT [45] (hd ts)
    · cases m:isT [40] (hd ts)
      · obtain⟨p,z,A⟩:=ZNG x q j m
        cases r:idx (hd ts).txt ZW with
        | some g=>exact ZMF h k p j m r y t a c f l
        | none=>
          cases v:idx (hd ts).txt Z0 with
          | some o=>exact ZMK h k p j m r v rec a c f
          | none=>exact ZMJ h k p j m r v (by unfold Zgp;rw[r,v,z,A];rfl) rec a c f
      · exact ZMI h q j m y t a c f l
    · exact ZMG h k q j B t a c f l
theorem ZMo  (hs : s.size <= 5000)   (Q : ZJn 289 s (fun ts d => rec 3 ts d) L) (R : ZJn 176 s (fun ts d => rec 0 ts d) L) :
    ZJn 289 s (Zb9 rec) (L+1):=by
  refine ZJn.of_ok (fun w b pv e p deep h=>QErr.factor h) ?_;intro w b pv deep ts n xs M h t hM hB hL a0;obtain⟨q,l,u,a1,D,E,a2,_⟩:=h.tok;obtain⟨c0,c1,c2,c3,c4,c5,c6,c7,c8⟩:=l.all;rw[E]at c6;rw[D]at c7;have a3:=l.lt;have fz6:=l.frozen 6;have HF:Hid (ZJn 289 s (fun ts d=>rec 3 ts d) L):=Q;have HQ:Hid (ZJn 176 s (fun ts d=>rec 0 ts d) L):=R;have H:Hid (St w b pv s deep (.ok ((),ts))):=h;have J:Hid (w.ownsRow 0 92 8 pv n xs):=t;obtain⟨x1,F⟩:∃x,((q.k:Int) == 1)=x:=⟨_,rfl⟩
  obtain⟨x2,G⟩:∃x,((q.k:Int) == 2)=x:=⟨_,rfl⟩
  have I : Hid (ZdD (hd ts) = (x1 || isT [45] (hd ts) || isT [40] (hd ts) || (x2 && !isT wOr (hd ts) && !isT wBy (hd ts)))) := hid (by
    unfold ZdD;have e1:((hd ts).jj == 1)=x1:=by rw[<-F,<-(ZJG u).1,Ybh,beq_iff_eq,beq_iff_eq];omega
    have e2:((hd ts).jj == 2)=x2:=by rw[<-G,<-(ZJG u).1,Ybh,beq_iff_eq,beq_iff_eq];omega
    rw[e1,e2])
  clear h t l u c0 c1 c2 c4 c5 c8 Q R D E;go_enter func289,ntmps289
  go_wp2_with fail
  refine(St.is H.out _).mono ?_;rintro e y ⟨rfl,rfl⟩
  go_wp2_with fail
  refine(St.is H.out _).mono ?_;rintro e z ⟨rfl,rfl⟩
  go_wp2_with fail
  refine(St.is H.out _).mono ?_;rintro e w3 ⟨rfl,rfl⟩
  go_wp2_with fail
  refine(St.is H.out _).mono ?_;rintro e w4 ⟨rfl,rfl⟩;rw[show isR (bl ⟨#[111,114]⟩) (.ok ((),ts))=isT wOr (hd ts) from rfl,show isR (bl ⟨#[98,121]⟩) (.ok ((),ts))=isT wBy (hd ts) from rfl,show isR (bl ⟨#[45]⟩) (.ok ((),ts))=isT [45] (hd ts) from rfl,show isR (bl ⟨#[40]⟩) (.ok ((),ts))=isT [40] (hd ts) from rfl];obtain⟨mi,m⟩:∃x,isT [45] (hd ts)=x:=⟨_,rfl⟩
  obtain⟨op,o⟩:∃x,isT [40] (hd ts)=x:=⟨_,rfl⟩
  have S:Hid (isT [45] (hd ts)=mi/\isT [40] (hd ts)=op):=⟨m,o⟩
  rw[m,o];have f:=I.out;rw[m,o]at f;obtain⟨sv,v⟩:∃x,ZdD (hd ts)=x:=⟨_,rfl⟩
  rw[v]at f;generalize isT wOr (hd ts)=vo at *
  generalize isT wBy (hd ts)=vb at *
  have r:Hid (ZdD (hd ts)=sv):=v;have a:Hid (sv=(x1 || mi || op || (x2 && !vo && !vb))):=f;clear m o v f I
  go_upto_region 5 with fail
  go_cut [7] (fun s7 wx=>s7=.bool sv/\wx=w4)
  case first=>
    cases x1
    · cases mi
      · cases op
        · cases x2
          · go_wp2;go_meet;exact⟨by rw[a.out];rfl,rfl⟩
          · cases vo
            · cases vb
              · go_wp2;go_meet;exact⟨by rw[a.out];rfl,rfl⟩
              · go_wp2;go_meet;exact⟨by rw[a.out];rfl,rfl⟩
            · go_wp2;go_meet;exact⟨by rw[a.out];rfl,rfl⟩
        · go_wp2;go_meet;exact⟨by rw[a.out];rfl,rfl⟩
      · go_wp2;go_meet;exact⟨by rw[a.out];simp,rfl⟩
    · go_wp2;go_meet;exact⟨by rw[a.out];simp,rfl⟩
  case rest=>
  obtain⟨rfl,rfl⟩:=hcut;clear a F G c3;cases sv
  · have A:Hid (Zb9 rec ts deep=.error (2,(hd ts).at_)):=hid (by unfold Zb9;rw[r.out];rfl)
    go_wp2_with fail
    refine(St.fail H.out 2 _ rfl Dc).mono ?_;rintro e K ⟨rfl,g,c⟩
    have N:Hid (PartRes wc b pv s deep xs M (Zb9 rec ts deep) 0 K):=hid (by
      rw[A.out];exact(PartRes.error g (ZJs H.out J.out c) Om).pre ((Kept.refl _ _ _).grown c))
    clear g c;go_wp2;go_ret;exact⟨_,rfl,N.out⟩
  · by_cases j:deep=20
    · have A:Hid (Zb9 rec ts deep=.error (3,(hd ts).at_)):=hid (by unfold Zb9;rw[r.out,if_pos rfl,if_pos j])
      have T:((deep:Int) == 20)=true:=by rw[j];rfl
      go_wp2_with fail
      refine(St.fail H.out 3 _ rfl Dc).mono ?_;rintro e K ⟨rfl,g,c⟩
      have N:Hid (PartRes wc b pv s deep xs M (Zb9 rec ts deep) 0 K):=hid (by
        rw[A.out];exact(PartRes.error g (ZJs H.out J.out c) Om).pre ((Kept.refl _ _ _).grown c))
      clear g c;go_wp2;go_ret;exact⟨_,rfl,N.out⟩
    · have A:Hid (Zb9 rec ts deep=Zbw rec ts (deep+1)):=hid (by unfold Zb9;rw[r.out,if_pos rfl,if_neg j])
      have T:((deep:Int) == 20)=false:=by rw[beq_eq_false_iff_ne];omega
      have O:deep+1<=20:=by omega
      obtain⟨W,C⟩:∃W,W=wc.setCell ⟨b,6,none⟩ (Vi ((deep+1:Nat):Int)):=⟨_,rfl⟩
      have c:wc.grownBy W (some b):=by rw[C];exact ZA (ZbM _ _) (Or.inl rfl) _
      have U:Hid (St W b pv s (deep+1) (.ok ((),ts))):=hid (by rw[C];exact St.setDeep H.out (deep+1));have V:Hid (W.ownsRow 0 92 8 pv n xs):=ZJs H.out J.out c;have X:Hid (Kept b pv wc pv W):=(Kept.refl _ _ _).grown c;have Y:Hid (W=wc.setCell ⟨b,6,none⟩ (Vi ((deep+1:Nat):Int))):=C;clear c C
      go_wp2_with fail
      clear c6 c7 fz6;rw[show wc.setCell ⟨b,6,none⟩ (Vi ((deep:Int)+1))=W from by rw[Y.out];rfl];have B:=ZME hs HF.out HQ.out U.out r.out hL V.out hM hB O;rw[S.1,S.2]at B;refine B.mono ?_;rintro e w6 ⟨i,rfl,P⟩;have Z:Hid (PartRes wc b pv s deep xs M (Zb9 rec ts deep) i (w6.setCell ⟨b,6,none⟩ (Vi deep))):=hid (by rw[A.out];exact PartRes.redeep X.out P);obtain⟨n6,pv6,ys6,s6,_⟩:=P.out;obtain⟨c6,fz6⟩:=s6.deepCell;clear P s6 B Y;have e19:((deep+1:Nat):Int) - 1=deep:=by omega
      go_wp2;go_ret;exact⟨_,rfl,Z.out⟩
def glen(R:Out Tr):Nat:=match R with
 | .error _=>0
 | .ok x=>x.2.length+1
theorem ZKa{c d f:World}{pv1 pv4 pv5:Value}{n1 n4:Nat}{ys zs:List Value}{R2:Out Tr}{i4:Int}{a:Tr}{kd op:Nat}
  (l:St c b pv1 s deep r1) (o1:c.ownsRow 0 92 8 pv1 n1 (xs++ys)) (k1:Kept b pv w pv1 c) (m:∃k:Nat,i=k/\Rep c (xs++ys) a k/\k+1=n1/\ys.length=8*cntT a)
  (o:St d b pv4 s deep (ZJm R2)) (o4:d.ownsRow 0 92 8 pv4 n4 ((xs++ys)++zs)) (k4:Kept b pv1 c pv4 d) (q:Bud M (n4+1) R2) (r:∀t z,R2=.ok (t,z)->∃k:Nat,i4=k/\Rep d ((xs++ys)++zs) t k/\k+1=n4/\zs.length=8*cntT t)
  (u:St f b pv5 s deep (ZJm R2)) (o5:f.ownsRow 0 92 8 pv5 (n4+1) (((xs++ys)++zs)++p.cells)) (k5:Kept b pv4 d pv5 f)
  (e1:p.k=kd) (e2:p.n=0) (e3:p.op=op) (e4:p.nm=⟨#[]⟩) (e5:(p.ca,p.cn,p.cc,p.ba,p.bn,p.bc)=(none,0,0,none,0,0)) (e6:p.a=i) (e7:p.b=i4) :
  PartRes w b pv s deep xs M (bnd R2 fun t z=>.ok (.node 0 0 (nd0 kd op) a t,z)) n4 f:=by
 have g : ZJm (bnd R2 fun t z => (.ok (.node 0 0 (nd0 kd op) a t, z) : Out Tr)) = ZJm R2 := by
   cases R2 with
   | error e=>rfl
   | ok x=>rfl
 have ea:xs++(ys++zs++p.cells)=((xs++ys)++zs)++p.cells:=by simp[Yan]
 refine⟨n4+1,pv5,ys++zs++p.cells,by rw[g];exact u,by rw[ea];exact o5,(k1.trans k4).trans k5,Bud.of_unit (by rw[g];exact Bud.unit q),?_⟩;intro t z e;obtain⟨t2,z2,q1,q2⟩:=Ze e;injection q2 with q2;injection q2 with q2 q3;subst q2;subst q3;obtain⟨kl,l1,l2,l3,l5⟩:=m;obtain⟨kr,m1,m2,m3,m5⟩:=r t2 z2 q1;obtain⟨qv,h,_⟩:=l.view;have l4:=Rep.kept h o1 k4 zs a kl l2
 have j:kl<=n4:=by
  have a1:=o1.1;have a4:=o4.1;rw[Yab]at a4;omega
 injection e5 with f1 f2;injection f2 with f2 f3;injection f3 with f3 f4;injection f4 with f4 f5;injection f5 with f5 f6;refine⟨n4,rfl,?_,rfl,by rw[Yab,Yab,l5,m5];show _+_+8=8*(cntT a+cntT t2+1);omega⟩;rw[ea];exact ZKt o o4 k5 p (nd0 kd op) a t2 kl kr ⟨e1,e2,e3,by rw[e4];rfl,ZJq.nil _ _ _ f1 f2 f3,⟨[],by rw[f4,f5,f6];exact Ybc _ _ _ _,rfl⟩⟩ (by rw[e6,l1]) (by rw[e7,m1]) j Om l4 m2
theorem ZJ7(n lv:Nat)(a:Tr)(ts:List Tok)(deep:Nat):Zs (n+1) true lv a ts deep=match LS.opAt lv (hd ts)with
  | none=>.ok (a,ts)
  | some p=>bnd (Zs n false (lv+1) .nil ts.tail deep) fun b r=>Zs n true lv (.node 0 0 (nd0 p.1 p.2) a b) r deep:=rfl
theorem ZK3{c d:LB}(a:isT c t=true)(h:c≠d):isT d t=false:=by
 cases hd:isT d t
 ·rfl
 ·unfold isT at a hd;simp only[Yas,beq_iff_eq]at a hd;exact absurd (a.2.symm.trans hd.2) h
theorem ZKG(t:Tok):LS.opAt 2 t=if isT [42] t then some (4,2)else if isT [47] t then some (4,3)else none:=rfl
theorem ZKF(t:Tok):LS.opAt 1 t=if isT [43] t then some (4,0)else if isT [45] t then some (4,1)else none:=rfl
theorem ZK7(t:Tok):LS.opAt 0 t=if isT wOr t then some (6,0)else none:=rfl
theorem ZNP  (hs : s.size <= 5000)  (hk : 10 * L + 4 <= k + 1 + 2) (IH : ∀ j, j <= k -> ∀ L', 10 * L' + 4 <= j + (2 + 1) -> ZJn 289 s (fun ts d => Zs j false (2 + 1) .nil ts d) L') :
    ZJn 263 s (fun ts d=>Zs (k+1) false 2 .nil ts d) L:=by
  refine ZJn.of_ok (fun w b pv e p deep h=>QErr.term h) ?_;intro w b pv deep ts n xs M h I hM hB hL J;have K:Hid (∀j,j<=k->∀L',10*L'+4<=j+(2+1)->ZJn 289 s (fun ts d=>Zs j false (2+1) .nil ts d) L'):=IH;have H:Hid (St w b pv s deep (.ok ((),ts))):=h;have HO:Hid (w.ownsRow 0 92 8 pv n xs):=I;have N:Hid ((bnd (Zs k false (2+1) .nil ts deep) fun a r=>Zs k true 2 a r deep)=Zs (k+1) false 2 .nil ts deep):=rfl;clear h I IH;go_enter func263,ntmps263
  go_wp2_with fail
  refine(K.out k (Yac _) L Om w b pv deep _ n xs M H.out HO.out hM hB (fun t e=>by injection e with e;injection e with _ e;subst e;exact hL) J).mono ?_;rintro e y ⟨i1,rfl,a0⟩;have a1:Hid (PartRes w b pv s deep xs M (Zs k false (2+1) .nil ts deep) i1 y):=a0
  have a2:Hid (∀a r,Zs k false (2+1) .nil ts deep=.ok (a,r)->10*r.length+5<=k/\k<=k):=hid (by
    intro a r e;have:=Zg1 _ _ _ _ _ _ _ e;simp at this;omega)
  obtain⟨Rf,O⟩:∃Rf,Rf=Zs (k+1) false 2 .nil ts deep:=⟨_,rfl⟩
  have b6:Hid (Rf=Zs (k+1) false 2 .nil ts deep):=O;rw[<-O]at N;clear O;generalize Zs k false (2+1) .nil ts deep=R0 at *
  clear a0 H HO;go_wp2
  go_loopg [3] (glen R0) (fun g v3 wr=>∃(i:Int) (R:Out Tr) (m:Nat),v3=Vi i/\Hid (PartRes w b pv s deep xs M R i wr)/\Hid ((bnd R fun a r=>Zs m true 2 a r deep)=Rf)/\Hid (∀a r,R=.ok (a,r)->10*r.length+5<=m/\m<=k)/\Hid (g=glen R))
  case atStart=>exact⟨i1,R0,k,rfl,a1,N,a2,rfl⟩
  case round=>
    obtain⟨i,R,m,rfl,HP,HE,HN,HG⟩:=hrel;clear a1 N a2;obtain⟨n1,pv1,ys,s1,o1,k1,b1,r1⟩:=HP.out;have c:Hid (St wr b pv1 s deep (ZJm R)):=s1;have G:Hid (wr.ownsRow 0 92 8 pv1 n1 (xs++ys)):=o1;have a3:Hid (Kept b pv w pv1 wr):=k1;have a4:Hid (Bud M n1 R):=b1;have a5:Hid (∀t z,R=.ok (t,z)->∃k:Nat,i=k/\Rep wr (xs++ys) t k/\k+1=n1/\ys.length=8*cntT t):=r1;clear s1 o1 k1 b1 r1
    go_wp2_with fail
    refine(St.is c.out _).mono ?_;rintro e o ⟨rfl,rfl⟩
    go_wp2_with fail
    refine(St.is c.out _).mono ?_;rintro e P ⟨rfl,rfl⟩;rw[show bl ⟨#[42]⟩=[42] from rfl,show bl ⟨#[47]⟩=[47] from rfl]
    have b5 : ((isR [42] (ZJm R) = false /\ isR [47] (ZJm R) = false) /\ (bnd R fun a r => Zs m true 2 a r deep) = R) ∨ (∃ a r opn, R = .ok (a, r) /\ ((isT [42] (hd r) = true /\ isT [47] (hd r) = false /\ opn = 2 ∨ isT [42] (hd r) = false /\ isT [47] (hd r) = true /\ opn = 3) /\ LS.opAt 2 (hd r) = some (4, opn))) := by
      cases R with
      | error e=>exact Or.inl ⟨⟨rfl,rfl⟩,rfl⟩
      | ok x=>
        obtain⟨a,r⟩:=x;have hm:=HN.out a r rfl;obtain⟨m',rfl⟩:∃m',m=m'+1:=⟨m - 1,by omega⟩
        cases f:isT [42] (hd r)
        · cases q:isT [47] (hd r)
          · refine Or.inl ⟨⟨f,q⟩,?_⟩
            show Zs (m'+1) true 2 a r deep=_;rw[ZJ7,ZKG,f,q];rfl
          · exact Or.inr ⟨a,r,3,rfl,Or.inr ⟨by first|rfl|exact f,by first|rfl|exact q,rfl⟩,by rw[ZKG,f,q];rfl⟩
        · have q:=ZK3 (d:=[47]) f Dc
          exact Or.inr ⟨a,r,2,rfl,Or.inl ⟨by first|rfl|exact f,q,rfl⟩,by rw[ZKG,f];rfl⟩
    rcases b5 with ⟨a6,Q⟩|⟨a,r,opn,rfl,u,a7⟩
    · have HF:Hid (PartRes w b pv s deep xs M Rf i P):=hid (by rw[<-HE.out,Q];exact HP.out)
      clear Q;rw[a6.1,a6.2];go_wp2;go_ret;exact⟨_,rfl,by rw[<-b6.out];exact HF.out⟩
    · have hm:=HN.out a r rfl
      obtain⟨m',rfl⟩:∃m',m=m'+1:=⟨m - 1,by omega⟩
      have b8:r.tail.length+1=r.length:=by rcases u with ⟨h,_⟩|⟨_,h,_⟩ <;> exact Zxj h
      have a8:¬((hd r).jj=0∨(hd r).jj=5):=by rcases u with ⟨h,_⟩|⟨_,h,_⟩ <;> exact Zib h
      obtain⟨R2,B⟩:∃R2,R2=Zs m' false (2+1) .nil r.tail deep:=⟨_,rfl⟩
      have a9:Hid (R2=Zs m' false (2+1) .nil r.tail deep):=B
      have b0 : Hid ((bnd (bnd R2 fun t z => (.ok (.node 0 0 (nd0 4 opn) a t, z) : Out Tr)) fun a r => Zs m' true 2 a r deep) = Rf) := hid (by
        rw[<-HE.out,ZJZ];show _=Zs (m'+1) true 2 a r deep;rw[ZJ7,a7,<-B];rfl)
      have b2 : Hid (∀ t z, (bnd R2 fun t z => (.ok (.node 0 0 (nd0 4 opn) a t, z) : Out Tr)) = .ok (t, z) -> 10 * z.length + 5 <= m' /\ m' <= k) := hid (by
        intro t z e;obtain⟨t2,z2,e1,e2⟩:=Ze e;injection e2 with e2;injection e2 with _ e2;subst e2;rw[B]at e1;have:=Zg1 _ _ _ _ _ _ _ e1;simp at this;omega)
      have b3 : Hid (glen (bnd R2 fun t z => (.ok (.node 0 0 (nd0 4 opn) a t, z) : Out Tr)) < glen (.ok (a, r) : Out Tr)) := hid (by
        cases hR:R2 with
        | error e=>exact Ygt _
        | ok x=>
          rw[B]at hR;have:=Zg1 _ _ _ _ _ _ _ hR;simp at this;show x.2.length+1<r.length+1;omega)
      clear a7 B;rcases u with ⟨f,q,rfl⟩|⟨f,q,rfl⟩
      · rw[show isR [42] (ZJm (.ok (a,r):Out Tr))=true from f,show isR [47] (ZJm (.ok (a,r):Out Tr))=false from q]
        go_wp2_with fail
        refine(St.next c.out Om ⟨r,rfl,a8⟩).mono ?_;rintro e v ⟨rfl,C,F⟩;have S:Hid (St v b pv1 s deep (.ok ((),r.tail))):=C;have T:Hid (v.ownsRow 0 92 8 pv1 n1 (xs++ys)):=ZJs c.out G.out F;have U:Hid (Kept b pv1 P pv1 v):=(Kept.refl _ _ _).grown F;have b7:n1+r.length<=M:=a4.out;clear C F
        go_wp2_with fail
        refine(K.out m' Om r.tail.length Om v b pv1 deep _ n1 (xs++ys) (M - 1) S.out T.out Om (show n1+r.tail.length<=M - 1 by omega) (fun t e=>by injection e with e;injection e with _ e;subst e;exact Yac _) J).mono ?_;rintro e A ⟨i4,rfl,l⟩;rw[show(bnd (.ok ((),r.tail):Out Unit) fun _ ts=>Zs m' false (2+1) .nil ts deep)=R2 from a9.symm]at l;obtain⟨n4,pv4,zs,s4,o4,k4,b4,r4⟩:=l.out;have V:n4<=6000:=by have:=b4.le;omega
        have D:Hid (St A b pv4 s deep (ZJm R2)):=s4;have E:Hid (A.ownsRow 0 92 8 pv4 n4 ((xs++ys)++zs)):=o4;have W:Hid (Kept b pv1 P pv4 A):=U.trans k4;have X:Hid (Bud (M - 1) n4 R2):=b4;have Y:Hid (∀t z,R2=.ok (t,z)->∃k:Nat,i4=k/\Rep A ((xs++ys)++zs) t k/\k+1=n4/\zs.length=8*cntT t):=r4;clear l s4 o4 k4 b4 r4
        go_wp2_with fail
        refine(St.lay D.out E.out V ⟨4,0,2,⟨#[]⟩,none,0,0,none,0,0,i,i4⟩).mono ?_;rintro e w5 ⟨pv5,rfl,s5,o5,k5⟩;have Z:Hid (PartRes w b pv s deep xs M (bnd R2 fun t z=>(.ok (.node 0 0 (nd0 4 2) a t,z):Out Tr)) n4 w5):=hid (ZKa c.out G.out a3.out (a5.out a r rfl) D.out E.out W.out (Bud.up X.out Om) Y.out s5 o5 k5 rfl rfl rfl rfl rfl rfl rfl);clear s5 o5 k5;go_wp2
        go_roundg (glen (bnd R2 fun t z=>(.ok (.node 0 0 (nd0 4 2) a t,z):Out Tr)))
        case measure=>rw[HG.out];exact b3.out
        case rel=>exact⟨_,_,m',rfl,Z,b0,b2,rfl⟩
      · rw[show isR [42] (ZJm (.ok (a,r):Out Tr))=false from f,show isR [47] (ZJm (.ok (a,r):Out Tr))=true from q]
        go_wp2_with fail
        refine(St.next c.out Om ⟨r,rfl,a8⟩).mono ?_;rintro e v ⟨rfl,C,F⟩;have S:Hid (St v b pv1 s deep (.ok ((),r.tail))):=C;have T:Hid (v.ownsRow 0 92 8 pv1 n1 (xs++ys)):=ZJs c.out G.out F;have U:Hid (Kept b pv1 P pv1 v):=(Kept.refl _ _ _).grown F;have b7:n1+r.length<=M:=a4.out;clear C F
        go_wp2_with fail
        refine(K.out m' Om r.tail.length Om v b pv1 deep _ n1 (xs++ys) (M - 1) S.out T.out Om (show n1+r.tail.length<=M - 1 by omega) (fun t e=>by injection e with e;injection e with _ e;subst e;exact Yac _) J).mono ?_;rintro e A ⟨i4,rfl,l⟩;rw[show(bnd (.ok ((),r.tail):Out Unit) fun _ ts=>Zs m' false (2+1) .nil ts deep)=R2 from a9.symm]at l;obtain⟨n4,pv4,zs,s4,o4,k4,b4,r4⟩:=l.out;have V:n4<=6000:=by have:=b4.le;omega
        have D:Hid (St A b pv4 s deep (ZJm R2)):=s4;have E:Hid (A.ownsRow 0 92 8 pv4 n4 ((xs++ys)++zs)):=o4;have W:Hid (Kept b pv1 P pv4 A):=U.trans k4;have X:Hid (Bud (M - 1) n4 R2):=b4;have Y:Hid (∀t z,R2=.ok (t,z)->∃k:Nat,i4=k/\Rep A ((xs++ys)++zs) t k/\k+1=n4/\zs.length=8*cntT t):=r4;clear l s4 o4 k4 b4 r4
        go_wp2_with fail
        refine(St.lay D.out E.out V ⟨4,0,3,⟨#[]⟩,none,0,0,none,0,0,i,i4⟩).mono ?_;rintro e w5 ⟨pv5,rfl,s5,o5,k5⟩;have Z:Hid (PartRes w b pv s deep xs M (bnd R2 fun t z=>(.ok (.node 0 0 (nd0 4 3) a t,z):Out Tr)) n4 w5):=hid (ZKa c.out G.out a3.out (a5.out a r rfl) D.out E.out W.out (Bud.up X.out Om) Y.out s5 o5 k5 rfl rfl rfl rfl rfl rfl rfl);clear s5 o5 k5;go_wp2
        go_roundg (glen (bnd R2 fun t z=>(.ok (.node 0 0 (nd0 4 3) a t,z):Out Tr)))
        case measure=>rw[HG.out];exact b3.out
        case rel=>exact⟨_,_,m',rfl,Z,b0,b2,rfl⟩
theorem ZNK  (hs : s.size <= 5000)  (hk : 10 * L + 4 <= k + 1 + 1) (IH : ∀ j, j <= k -> ∀ L', 10 * L' + 4 <= j + (1 + 1) -> ZJn 263 s (fun ts d => Zs j false (1 + 1) .nil ts d) L') :
    ZJn 228 s (fun ts d=>Zs (k+1) false 1 .nil ts d) L:=by
  refine ZJn.of_ok (fun w b pv e p deep h=>QErr.sum h) ?_;intro w b pv deep ts n xs M h I hM hB hL J;have K:Hid (∀j,j<=k->∀L',10*L'+4<=j+(1+1)->ZJn 263 s (fun ts d=>Zs j false (1+1) .nil ts d) L'):=IH;have H:Hid (St w b pv s deep (.ok ((),ts))):=h;have HO:Hid (w.ownsRow 0 92 8 pv n xs):=I;have N:Hid ((bnd (Zs k false (1+1) .nil ts deep) fun a r=>Zs k true 1 a r deep)=Zs (k+1) false 1 .nil ts deep):=rfl;clear h I IH;go_enter func228,ntmps228
  go_wp2_with fail
  refine(K.out k (Yac _) L Om w b pv deep _ n xs M H.out HO.out hM hB (fun t e=>by injection e with e;injection e with _ e;subst e;exact hL) J).mono ?_;rintro e y ⟨i1,rfl,a0⟩;have a1:Hid (PartRes w b pv s deep xs M (Zs k false (1+1) .nil ts deep) i1 y):=a0
  have a2:Hid (∀a r,Zs k false (1+1) .nil ts deep=.ok (a,r)->10*r.length+5<=k/\k<=k):=hid (by
    intro a r e;have:=Zg1 _ _ _ _ _ _ _ e;simp at this;omega)
  obtain⟨Rf,O⟩:∃Rf,Rf=Zs (k+1) false 1 .nil ts deep:=⟨_,rfl⟩
  have b6:Hid (Rf=Zs (k+1) false 1 .nil ts deep):=O;rw[<-O]at N;clear O;generalize Zs k false (1+1) .nil ts deep=R0 at *
  clear a0 H HO;go_wp2
  go_loopg [3] (glen R0) (fun g v3 wr=>∃(i:Int) (R:Out Tr) (m:Nat),v3=Vi i/\Hid (PartRes w b pv s deep xs M R i wr)/\Hid ((bnd R fun a r=>Zs m true 1 a r deep)=Rf)/\Hid (∀a r,R=.ok (a,r)->10*r.length+5<=m/\m<=k)/\Hid (g=glen R))
  case atStart=>exact⟨i1,R0,k,rfl,a1,N,a2,rfl⟩
  case round=>
    obtain⟨i,R,m,rfl,HP,HE,HN,HG⟩:=hrel;clear a1 N a2;obtain⟨n1,pv1,ys,s1,o1,k1,b1,r1⟩:=HP.out;have c:Hid (St wr b pv1 s deep (ZJm R)):=s1;have G:Hid (wr.ownsRow 0 92 8 pv1 n1 (xs++ys)):=o1;have a3:Hid (Kept b pv w pv1 wr):=k1;have a4:Hid (Bud M n1 R):=b1;have a5:Hid (∀t z,R=.ok (t,z)->∃k:Nat,i=k/\Rep wr (xs++ys) t k/\k+1=n1/\ys.length=8*cntT t):=r1;clear s1 o1 k1 b1 r1
    go_wp2_with fail
    refine(St.is c.out _).mono ?_;rintro e o ⟨rfl,rfl⟩
    go_wp2_with fail
    refine(St.is c.out _).mono ?_;rintro e P ⟨rfl,rfl⟩;rw[show bl ⟨#[43]⟩=[43] from rfl,show bl ⟨#[45]⟩=[45] from rfl]
    have b5 : ((isR [43] (ZJm R) = false /\ isR [45] (ZJm R) = false) /\ (bnd R fun a r => Zs m true 1 a r deep) = R) ∨ (∃ a r opn, R = .ok (a, r) /\ ((isT [43] (hd r) = true /\ isT [45] (hd r) = false /\ opn = 0 ∨ isT [43] (hd r) = false /\ isT [45] (hd r) = true /\ opn = 1) /\ LS.opAt 1 (hd r) = some (4, opn))) := by
      cases R with
      | error e=>exact Or.inl ⟨⟨rfl,rfl⟩,rfl⟩
      | ok x=>
        obtain⟨a,r⟩:=x;have hm:=HN.out a r rfl;obtain⟨m',rfl⟩:∃m',m=m'+1:=⟨m - 1,by omega⟩
        cases f:isT [43] (hd r)
        · cases q:isT [45] (hd r)
          · refine Or.inl ⟨⟨f,q⟩,?_⟩
            show Zs (m'+1) true 1 a r deep=_;rw[ZJ7,ZKF,f,q];rfl
          · exact Or.inr ⟨a,r,1,rfl,Or.inr ⟨by first|rfl|exact f,by first|rfl|exact q,rfl⟩,by rw[ZKF,f,q];rfl⟩
        · have q:=ZK3 (d:=[45]) f Dc
          exact Or.inr ⟨a,r,0,rfl,Or.inl ⟨by first|rfl|exact f,q,rfl⟩,by rw[ZKF,f];rfl⟩
    rcases b5 with ⟨a6,Q⟩|⟨a,r,opn,rfl,u,a7⟩
    · have HF:Hid (PartRes w b pv s deep xs M Rf i P):=hid (by rw[<-HE.out,Q];exact HP.out)
      clear Q;rw[a6.1,a6.2];go_wp2;go_ret;exact⟨_,rfl,by rw[<-b6.out];exact HF.out⟩
    · have hm:=HN.out a r rfl
      obtain⟨m',rfl⟩:∃m',m=m'+1:=⟨m - 1,by omega⟩
      have b8:r.tail.length+1=r.length:=by rcases u with ⟨h,_⟩|⟨_,h,_⟩ <;> exact Zxj h
      have a8:¬((hd r).jj=0∨(hd r).jj=5):=by rcases u with ⟨h,_⟩|⟨_,h,_⟩ <;> exact Zib h
      obtain⟨R2,B⟩:∃R2,R2=Zs m' false (1+1) .nil r.tail deep:=⟨_,rfl⟩
      have a9:Hid (R2=Zs m' false (1+1) .nil r.tail deep):=B
      have b0 : Hid ((bnd (bnd R2 fun t z => (.ok (.node 0 0 (nd0 4 opn) a t, z) : Out Tr)) fun a r => Zs m' true 1 a r deep) = Rf) := hid (by
        rw[<-HE.out,ZJZ];show _=Zs (m'+1) true 1 a r deep;rw[ZJ7,a7,<-B];rfl)
      have b2 : Hid (∀ t z, (bnd R2 fun t z => (.ok (.node 0 0 (nd0 4 opn) a t, z) : Out Tr)) = .ok (t, z) -> 10 * z.length + 5 <= m' /\ m' <= k) := hid (by
        intro t z e;obtain⟨t2,z2,e1,e2⟩:=Ze e;injection e2 with e2;injection e2 with _ e2;subst e2;rw[B]at e1;have:=Zg1 _ _ _ _ _ _ _ e1;simp at this;omega)
      have b3 : Hid (glen (bnd R2 fun t z => (.ok (.node 0 0 (nd0 4 opn) a t, z) : Out Tr)) < glen (.ok (a, r) : Out Tr)) := hid (by
        cases hR:R2 with
        | error e=>exact Ygt _
        | ok x=>
          rw[B]at hR;have:=Zg1 _ _ _ _ _ _ _ hR;simp at this;show x.2.length+1<r.length+1;omega)
      clear a7 B;rcases u with ⟨f,q,rfl⟩|⟨f,q,rfl⟩
      · rw[show isR [43] (ZJm (.ok (a,r):Out Tr))=true from f,show isR [45] (ZJm (.ok (a,r):Out Tr))=false from q]
        go_wp2_with fail
        refine(St.next c.out Om ⟨r,rfl,a8⟩).mono ?_;rintro e v ⟨rfl,C,F⟩;have S:Hid (St v b pv1 s deep (.ok ((),r.tail))):=C;have T:Hid (v.ownsRow 0 92 8 pv1 n1 (xs++ys)):=ZJs c.out G.out F;have U:Hid (Kept b pv1 P pv1 v):=(Kept.refl _ _ _).grown F;have b7:n1+r.length<=M:=a4.out;clear C F
        go_wp2_with fail
        refine(K.out m' Om r.tail.length Om v b pv1 deep _ n1 (xs++ys) (M - 1) S.out T.out Om (show n1+r.tail.length<=M - 1 by omega) (fun t e=>by injection e with e;injection e with _ e;subst e;exact Yac _) J).mono ?_;rintro e A ⟨i4,rfl,l⟩;rw[show(bnd (.ok ((),r.tail):Out Unit) fun _ ts=>Zs m' false (1+1) .nil ts deep)=R2 from a9.symm]at l;obtain⟨n4,pv4,zs,s4,o4,k4,b4,r4⟩:=l.out;have V:n4<=6000:=by have:=b4.le;omega
        have D:Hid (St A b pv4 s deep (ZJm R2)):=s4;have E:Hid (A.ownsRow 0 92 8 pv4 n4 ((xs++ys)++zs)):=o4;have W:Hid (Kept b pv1 P pv4 A):=U.trans k4;have X:Hid (Bud (M - 1) n4 R2):=b4;have Y:Hid (∀t z,R2=.ok (t,z)->∃k:Nat,i4=k/\Rep A ((xs++ys)++zs) t k/\k+1=n4/\zs.length=8*cntT t):=r4;clear l s4 o4 k4 b4 r4
        go_wp2_with fail
        refine(St.lay D.out E.out V ⟨4,0,0,⟨#[]⟩,none,0,0,none,0,0,i,i4⟩).mono ?_;rintro e w5 ⟨pv5,rfl,s5,o5,k5⟩;have Z:Hid (PartRes w b pv s deep xs M (bnd R2 fun t z=>(.ok (.node 0 0 (nd0 4 0) a t,z):Out Tr)) n4 w5):=hid (ZKa c.out G.out a3.out (a5.out a r rfl) D.out E.out W.out (Bud.up X.out Om) Y.out s5 o5 k5 rfl rfl rfl rfl rfl rfl rfl);clear s5 o5 k5;go_wp2
        go_roundg (glen (bnd R2 fun t z=>(.ok (.node 0 0 (nd0 4 0) a t,z):Out Tr)))
        case measure=>rw[HG.out];exact b3.out
        case rel=>exact⟨_,_,m',rfl,Z,b0,b2,rfl⟩
      · rw[show isR [43] (ZJm (.ok (a,r):Out Tr))=false from f,show isR [45] (ZJm (.ok (a,r):Out Tr))=true from q]
        go_wp2_with fail
        refine(St.next c.out Om ⟨r,rfl,a8⟩).mono ?_;rintro e v ⟨rfl,C,F⟩;have S:Hid (St v b pv1 s deep (.ok ((),r.tail))):=C;have T:Hid (v.ownsRow 0 92 8 pv1 n1 (xs++ys)):=ZJs c.out G.out F;have U:Hid (Kept b pv1 P pv1 v):=(Kept.refl _ _ _).grown F;have b7:n1+r.length<=M:=a4.out;clear C F
        go_wp2_with fail
        refine(K.out m' Om r.tail.length Om v b pv1 deep _ n1 (xs++ys) (M - 1) S.out T.out Om (show n1+r.tail.length<=M - 1 by omega) (fun t e=>by injection e with e;injection e with _ e;subst e;exact Yac _) J).mono ?_;rintro e A ⟨i4,rfl,l⟩;rw[show(bnd (.ok ((),r.tail):Out Unit) fun _ ts=>Zs m' false (1+1) .nil ts deep)=R2 from a9.symm]at l;obtain⟨n4,pv4,zs,s4,o4,k4,b4,r4⟩:=l.out;have V:n4<=6000:=by have:=b4.le;omega
        have D:Hid (St A b pv4 s deep (ZJm R2)):=s4;have E:Hid (A.ownsRow 0 92 8 pv4 n4 ((xs++ys)++zs)):=o4;have W:Hid (Kept b pv1 P pv4 A):=U.trans k4;have X:Hid (Bud (M - 1) n4 R2):=b4;have Y:Hid (∀t z,R2=.ok (t,z)->∃k:Nat,i4=k/\Rep A ((xs++ys)++zs) t k/\k+1=n4/\zs.length=8*cntT t):=r4;clear l s4 o4 k4 b4 r4
        go_wp2_with fail
        refine(St.lay D.out E.out V ⟨4,0,1,⟨#[]⟩,none,0,0,none,0,0,i,i4⟩).mono ?_;rintro e w5 ⟨pv5,rfl,s5,o5,k5⟩;have Z:Hid (PartRes w b pv s deep xs M (bnd R2 fun t z=>(.ok (.node 0 0 (nd0 4 1) a t,z):Out Tr)) n4 w5):=hid (ZKa c.out G.out a3.out (a5.out a r rfl) D.out E.out W.out (Bud.up X.out Om) Y.out s5 o5 k5 rfl rfl rfl rfl rfl rfl rfl);clear s5 o5 k5;go_wp2
        go_roundg (glen (bnd R2 fun t z=>(.ok (.node 0 0 (nd0 4 1) a t,z):Out Tr)))
        case measure=>rw[HG.out];exact b3.out
        case rel=>exact⟨_,_,m',rfl,Z,b0,b2,rfl⟩
theorem ZNh  (hs : s.size <= 5000)  (hk : 10 * L + 4 <= k + 1 + 0) (IH : ∀ j, j <= k -> ∀ L', 10 * L' + 4 <= j + (0 + 1) -> ZJn 228 s (fun ts d => Zs j false (0 + 1) .nil ts d) L') :
    ZJn 176 s (fun ts d=>Zs (k+1) false 0 .nil ts d) L:=by
  refine ZJn.of_ok (fun w b pv e p deep h=>QErr.query h) ?_;intro w b pv deep ts n xs M h o hM hB hL E;have F:Hid (∀j,j<=k->∀L',10*L'+4<=j+(0+1)->ZJn 228 s (fun ts d=>Zs j false (0+1) .nil ts d) L'):=IH;have H:Hid (St w b pv s deep (.ok ((),ts))):=h;have V:Hid (w.ownsRow 0 92 8 pv n xs):=o;have q:Hid ((bnd (Zs k false (0+1) .nil ts deep) fun a r=>Zs k true 0 a r deep)=Zs (k+1) false 0 .nil ts deep):=rfl;clear h o IH;go_enter func176,ntmps176
  go_wp2_with fail
  refine(F.out k (Yac _) L Om w b pv deep _ n xs M H.out V.out hM hB (fun t e=>by injection e with e;injection e with _ e;subst e;exact hL) E).mono ?_;rintro e y ⟨i1,rfl,G⟩;have I:Hid (PartRes w b pv s deep xs M (Zs k false (0+1) .nil ts deep) i1 y):=G
  have J:Hid (∀a r,Zs k false (0+1) .nil ts deep=.ok (a,r)->10*r.length+5<=k/\k<=k):=hid (by
    intro a r e;have:=Zg1 _ _ _ _ _ _ _ e;simp at this;omega)
  obtain⟨Rf,u⟩:∃Rf,Rf=Zs (k+1) false 0 .nil ts deep:=⟨_,rfl⟩
  have W:Hid (Rf=Zs (k+1) false 0 .nil ts deep):=u;rw[<-u]at q;clear u;generalize Zs k false (0+1) .nil ts deep=R0 at *
  clear G H V;go_wp2
  go_loopg [3] (glen R0) (fun g v3 wr=>∃(i:Int) (R:Out Tr) (m:Nat),v3=Vi i/\Hid (PartRes w b pv s deep xs M R i wr)/\Hid ((bnd R fun a r=>Zs m true 0 a r deep)=Rf)/\Hid (∀a r,R=.ok (a,r)->10*r.length+5<=m/\m<=k)/\Hid (g=glen R))
  case atStart=>exact⟨i1,R0,k,rfl,I,q,J,rfl⟩
  case round=>
    obtain⟨i,R,m,rfl,X,Y,Z,HG⟩:=hrel;clear I q J;obtain⟨n1,pv1,ys,s1,o1,k1,b1,r1⟩:=X.out;have l:Hid (St wr b pv1 s deep (ZJm R)):=s1;have K:Hid (wr.ownsRow 0 92 8 pv1 n1 (xs++ys)):=o1;have a0:Hid (Kept b pv w pv1 wr):=k1;have a1:Hid (Bud M n1 R):=b1;have a2:Hid (∀t z,R=.ok (t,z)->∃k:Nat,i=k/\Rep wr (xs++ys) t k/\k+1=n1/\ys.length=8*cntT t):=r1;clear s1 o1 k1 b1 r1
    go_wp2_with fail
    refine(St.is l.out _).mono ?_;rintro e S ⟨rfl,rfl⟩;rw[show bl ⟨#[111,114]⟩=wOr from rfl]
    have T : (isR wOr (ZJm R) = false /\ (bnd R fun a r => Zs m true 0 a r deep) = R) ∨ (∃ a r opn, R = .ok (a, r) /\ (isT wOr (hd r) = true /\ opn = 0) /\ LS.opAt 0 (hd r) = some (6, opn)) := by
      cases R with
      | error e=>exact Or.inl ⟨rfl,rfl⟩
      | ok x=>
        obtain⟨a,r⟩:=x;have hm:=Z.out a r rfl;obtain⟨m',rfl⟩:∃m',m=m'+1:=⟨m - 1,by omega⟩
        cases B:isT wOr (hd r)
        · refine Or.inl ⟨B,?_⟩
          show Zs (m'+1) true 0 a r deep=_;rw[ZJ7,ZK7,B];rfl
        · exact Or.inr ⟨a,r,0,rfl,⟨by first|rfl|exact B,rfl⟩,by rw[ZK7,B];rfl⟩
    rcases T with ⟨a3,v⟩|⟨a,r,opn,rfl,⟨c,rfl⟩,N⟩
    · have HF:Hid (PartRes w b pv s deep xs M Rf i S):=hid (by rw[<-Y.out,v];exact X.out)
      clear v;rw[a3];go_wp2;go_ret;exact⟨_,rfl,by rw[<-W.out];exact HF.out⟩
    · have hm:=Z.out a r rfl
      obtain⟨m',rfl⟩:∃m',m=m'+1:=⟨m - 1,by omega⟩
      have b9:=Zxj c;have a4:=Zib c;obtain⟨R2,f⟩:∃R2,R2=Zs m' false (0+1) .nil r.tail deep:=⟨_,rfl⟩
      have a5:Hid (R2=Zs m' false (0+1) .nil r.tail deep):=f
      have a6 : Hid ((bnd (bnd R2 fun t z => (.ok (.node 0 0 (nd0 6 0) a t, z) : Out Tr)) fun a r => Zs m' true 0 a r deep) = Rf) := hid (by
        rw[<-Y.out,ZJZ];show _=Zs (m'+1) true 0 a r deep;rw[ZJ7,N,<-f];rfl)
      have a7 : Hid (∀ t z, (bnd R2 fun t z => (.ok (.node 0 0 (nd0 6 0) a t, z) : Out Tr)) = .ok (t, z) -> 10 * z.length + 5 <= m' /\ m' <= k) := hid (by
        intro t z e;obtain⟨t2,z2,e1,e2⟩:=Ze e;injection e2 with e2;injection e2 with _ e2;subst e2;rw[f]at e1;have:=Zg1 _ _ _ _ _ _ _ e1;simp at this;omega)
      have a8 : Hid (glen (bnd R2 fun t z => (.ok (.node 0 0 (nd0 6 0) a t, z) : Out Tr)) < glen (.ok (a, r) : Out Tr)) := hid (by
        cases hR:R2 with
        | error e=>exact Ygt _
        | ok x=>
          rw[f]at hR;have:=Zg1 _ _ _ _ _ _ _ hR;simp at this;show x.2.length+1<r.length+1;omega)
      clear N f;rw[show isR wOr (ZJm (.ok (a,r):Out Tr))=true from c]
      go_wp2_with fail
      refine(St.next l.out Om ⟨r,rfl,a4⟩).mono ?_;rintro e C ⟨rfl,O,U⟩;have a9:Hid (St C b pv1 s deep (.ok ((),r.tail))):=O;have b0:Hid (C.ownsRow 0 92 8 pv1 n1 (xs++ys)):=ZJs l.out K.out U;have b2:Hid (Kept b pv1 S pv1 C):=(Kept.refl _ _ _).grown U;have c0:n1+r.length<=M:=a1.out;clear O U
      go_wp2_with fail
      refine(F.out m' Om r.tail.length Om C b pv1 deep _ n1 (xs++ys) (M - 1) a9.out b0.out Om (show n1+r.tail.length<=M - 1 by omega) (fun t e=>by injection e with e;injection e with _ e;subst e;exact Yac _) E).mono ?_;rintro e D ⟨i4,rfl,A⟩;rw[show(bnd (.ok ((),r.tail):Out Unit) fun _ ts=>Zs m' false (0+1) .nil ts deep)=R2 from a5.symm]at A;obtain⟨n4,pv4,zs,s4,o4,k4,b4,r4⟩:=A.out;have b3:n4<=6000:=by have:=b4.le;omega
      have P:Hid (St D b pv4 s deep (ZJm R2)):=s4;have Q:Hid (D.ownsRow 0 92 8 pv4 n4 ((xs++ys)++zs)):=o4;have b5:Hid (Kept b pv1 S pv4 D):=b2.trans k4;have b6:Hid (Bud (M - 1) n4 R2):=b4;have b7:Hid (∀t z,R2=.ok (t,z)->∃k:Nat,i4=k/\Rep D ((xs++ys)++zs) t k/\k+1=n4/\zs.length=8*cntT t):=r4;clear A s4 o4 k4 b4 r4
      go_wp2_with fail
      refine(St.lay P.out Q.out b3 ⟨6,0,0,⟨#[]⟩,none,0,0,none,0,0,i,i4⟩).mono ?_;rintro e w5 ⟨pv5,rfl,s5,o5,k5⟩;have b8:Hid (PartRes w b pv s deep xs M (bnd R2 fun t z=>(.ok (.node 0 0 (nd0 6 0) a t,z):Out Tr)) n4 w5):=hid (ZKa l.out K.out a0.out (a2.out a r rfl) P.out Q.out b5.out (Bud.up b6.out Om) b7.out s5 o5 k5 rfl rfl rfl rfl rfl rfl rfl);clear s5 o5 k5;go_wp2
      go_roundg (glen (bnd R2 fun t z=>(.ok (.node 0 0 (nd0 6 0) a t,z):Out Tr)))
      case measure=>rw[HG.out];exact a8.out
      case rel=>exact⟨_,_,m',rfl,b8,a6,a7,rfl⟩
theorem ZM7(f:s.size<=5000):∀(k:Nat),∀j,j<=k->
  (∀L,10*L+4<=j+3->ZJn 289 s (fun ts d=>Zs j false 3 .nil ts d) L)/\(∀L,10*L+4<=j+2->ZJn 263 s (fun ts d=>Zs j false 2 .nil ts d) L)/\
  (∀L,10*L+4<=j+1->ZJn 228 s (fun ts d=>Zs j false 1 .nil ts d) L)/\(∀L,10*L+4<=j->ZJn 176 s (fun ts d=>Zs j false 0 .nil ts d) L):=by
 intro k
 induction k with
 | zero=>
  intro j a;have:j=0:=by omega
  subst this;exact⟨fun L h=>absurd h Om,fun L h=>absurd h Om,fun L h=>absurd h Om,fun L h=>absurd h Om⟩
 | succ k ih=>
  intro j a;by_cases g:j<=k
  ·exact ih j g
  ·have:j=k+1:=by omega
   subst this;refine⟨?_,?_,?_,?_⟩
   ·intro L h;cases L with
    | zero=>exact ZJn.zero (fun w b pv e p deep h=>QErr.factor h)
    | succ L=>exact ZMo (rec:=fun lv ts d=>Zs k false lv .nil ts d) f ((ih k (Yac _)).1 L Om) ((ih k (Yac _)).2.2.2 L Om)
   ·intro L h;exact ZNP f Om (fun j a L' c=>(ih j a).1 L' c)
   ·intro L h;exact ZNK f Om (fun j a L' c=>(ih j a).2.1 L' c)
   ·intro L h;exact ZNh f Om (fun j a L' c=>(ih j a).2.2.1 L' c)
theorem ZA2(a:s.size<=5000)(L:Nat):ZJn 176 s (fun ts d=>Zs (10*L+5) false 0 .nil ts d) L:=(ZM7 a (10*L+5) _ (Yac _)).2.2.2 L Om

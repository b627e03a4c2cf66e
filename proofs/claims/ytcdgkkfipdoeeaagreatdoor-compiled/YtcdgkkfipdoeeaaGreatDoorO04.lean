/- Parts. -/
import Derived.Test.YtcdgkkfipdoeeaaGreatDoorO03
set_option linter.all false
set_option maxRecDepth 100000
set_option maxHeartbeats 16000000
namespace Go.Proofs.YtcdgkkfipdoeeaaGreatDoor
open Go.RowKit LS Go.Proofs.Tryz
theorem ZlM{w:LB} : ∀ {l:List (LB)} {g:Nat},idx w l=some g->l.getD g []=w
 | [],_,h=>by cases h
 | x :: l, g, h => by
   unfold idx at h;by_cases a:x=w
   · rw[if_pos a]at h
     cases h;exact a
   · rw[if_neg a]at h
     cases c:idx w l with
     | none=>rw[c]at h;cases h
     | some j=>
       rw[c]at h;cases h;exact ZlM (l:=l) c
theorem Zt2{p:PTok}{t:Tok}(h:Zdf p t)(f:Zdt t)(d:t.jk<=5):ZhO p=ZdD t:=by
 have m1:=ZdP h f d (s:=⟨#[45]⟩) Dc Dc;have m2:=ZdP h f d (s:=⟨#[40]⟩) Dc Dc;have g:p.tx.toList=t.txt:=by rw[Zbt];exact h.2.2.1
 unfold ZhO ZdD;have a:=Ze0 d;have c:=h.1;by_cases k1:t.jk=1
 ·have e:((p.kd:Int) == 0)=true:=by rw[c,a.2.2.2.1.2 k1];rfl
  rw[e,k1];simp
 ·have e:((p.kd:Int) == 0)=false:=by
   rw[beq_eq_false_iff_ne];intro e;exact k1 (a.2.2.2.1.1 Om)
  rw[e,beq_eq_false_iff_ne.2 k1];by_cases k2:t.jk=2
  ·have e2:((p.kd:Int) == 1)=true:=by rw[c,a.2.1.2 k2];rfl
   have z1:isT [45] t=false:=by rw[<-show ZY p _=isT [45] t from m1];unfold ZY;rw[c,a.2.1.2 k2];rfl
   have z2:isT [40] t=false:=by rw[<-show ZY p _=isT [40] t from m2];unfold ZY;rw[c,a.2.1.2 k2];rfl
   rw[e2,z1,z2,k2,g];unfold isT;rw[k2];simp[wOr,wBy]
  ·have e2:((p.kd:Int) == 1)=false:=by
    rw[beq_eq_false_iff_ne];intro e;exact k2 (a.2.1.1 Om)
   rw[e2,beq_eq_false_iff_ne.2 k2,show ZY p _=isT [45] t from m1,show ZY p _=isT [40] t from m2];simp
theorem Zw6{rec:Nat->List Tok->Nat->Out Tr}{ts:List Tok}{d:Nat}(h:(hd ts).jk=1):Zbw rec ts d=.ok (Zbg ⟨0,0,numV (hd ts).txt,[],[],[]⟩,ts.tail):=if_pos h
theorem Zw5 {rec : Nat -> List Tok -> Nat -> Out Tr} {ts : List Tok} {d : Nat} (h : ¬ (hd ts).jk = 1) (c : isT [45] (hd ts) = true) : Zbw rec ts d = bnd (rec 3 ts.tail d) fun a r => .ok (.node 0 0 (nd0 3 0) a .nil, r) := by
  unfold Zbw;rw[if_neg h,if_pos c]
theorem Zxa{rec:Nat->List Tok->Nat->Out Tr}{ts:List Tok}{d:Nat}(h:¬(hd ts).jk=1)(a:¬isT [45] (hd ts)=true)(c:isT [40] (hd ts)=true):Zbw rec ts d=Zbu rec ts d:=by
 unfold Zbw;rw[if_neg h,if_neg a,if_pos c]
theorem Zw3{rec:Nat->List Tok->Nat->Out Tr}{ts:List Tok}{d g:Nat}(h:¬(hd ts).jk=1)(a:¬isT [45] (hd ts)=true)(c:¬isT [40] (hd ts)=true)(e:idx (hd ts).txt ZW=some g):Zbw rec ts d=Zcb rec g ts.tail d:=by
 unfold Zbw;rw[if_neg h,if_neg a,if_neg c,e]
theorem Zw9{rec:Nat->List Tok->Nat->Out Tr}{ts:List Tok}{d o:Nat}(h:¬(hd ts).jk=1)(a:¬isT [45] (hd ts)=true)(c:¬isT [40] (hd ts)=true)(e:idx (hd ts).txt ZW=none)(f:idx (hd ts).txt Z0=some o):Zbw rec ts d=winP o ts.tail:=by
 unfold Zbw;rw[if_neg h,if_neg a,if_neg c,e];simp only;rw[f]
theorem Zw8 {rec : Nat -> List Tok -> Nat -> Out Tr} {ts : List Tok} {d : Nat} (h : ¬ (hd ts).jk = 1) (a : ¬ isT [45] (hd ts) = true) (c : ¬ isT [40] (hd ts) = true) (e : idx (hd ts).txt ZW = none) (f : idx (hd ts).txt Z0 = none) : Zbw rec ts d = bnd (selP ts) fun p r => .ok (Zbg p, r) := by
  unfold Zbw;rw[if_neg h,if_neg a,if_neg c,e];simp only;rw[f]
theorem ZCJ{t:Tok}(h:ZdD t=true):¬(t.jk=0∨t.jk=5):=by
 rintro(a|a)
 all_goals
  unfold ZdD isT at h;rw[a]at h;simp at h
theorem Zv2{rec:Nat->List Tok->Nat->Out Tr}{m:Nat}
  (b6:ZeO 51 (fun d=>[Vi (d+1:Nat)]) (rec 3) (fun ts=>ts.length<m))
  (a9:ZeO 103 (fun d=>[Vi (d+1:Nat)]) (Zbu rec) (fun ts=>ts.length<=m)) :
  ZeO 51 (fun d=>[Vi (d+1:Nat)]) (Zb9 rec) (fun ts=>ts.length<=m):=by
 intro w R k ts deep h b7 b8;have H:=hid h;have HD:=hid b7;have HM:=hid b8;have c4:=(Yae.1 h.rd.cells).1;go_enter func51,ntmps51
 go_wp2_with fail
 refine(Zee H).mono ?_;rintro e w1 ⟨⟨kd,at_,tx,tv⟩,rfl,I,b0⟩;have a0:Hid (w.grownBy _ (some R.b)):=Zw b0;have b1:=hid (H.below b0)
 go_upto_region 2 with fail
 refine ZP fun W2 a1=>?_;have a2:Below _ _ _:=a1▸Zbal;have J:Hid (BAt _ _ [.int _ _,.int _ _,.string _,.int _ _] 74):=a1▸bnw;have b9:=hid (Zj a0 (Zw a2));have b2:=hid (b1.below a2);have c5:R.b<w1.heap.size:=by have:=a0.size;omega
 have q:=hid b2.wf.head;clear a1 a2 a0 b1;have t0:=J.cell 0;have t1:=J.cell 1;have t2:=J.cell 2;have t3:=J.cell 3;simp only[Zget]at t0 t1 t2 t3
 go_wp2_with fail
 refine(Zt1 ⟨kd,at_,tx,tv⟩ W2).mono ?_;rintro e w3 ⟨rfl,a3⟩;rw[Zt2 I q.1 q.2.2];have n:=hid (J.below a3);have K:=hid (Zj b9 (Zw a3));have p:=hid (b2.below a3);cases L:ZdD (LS.hd ts)
 ·have a4:Hid (Zb9 rec _ deep=.error _):=hid (by unfold Zb9;rw[if_neg (by rw[L];decide)])
  go_wp2_with fail
  refine(Zfi p).mono ?_;rintro e wE ⟨v,rfl,HE,c1⟩;obtain⟨fa,rfl⟩:=HE.shape;have a5:=hid (Zj K (Zw c1));go_wp2;go_ret2;exact⟨_,_,rfl,.inl rfl,by rwa [a4.out],a5⟩
 ·have U:=hid (ZCJ L);by_cases G:deep=20
  ·have a4:Hid (Zb9 rec _ _=.error _):=hid (by unfold Zb9;rw[if_pos L,if_pos G]);subst G;have t1:=n.cell;have c6:=p.dp
   go_wp2_with fail
   refine(ZkT _ _).mono ?_;rintro e wE ⟨rfl,a6⟩;have HE:Hid (Z9 wE R (3,(LS.hd _).at_) _):=hid (.inr ⟨rfl,w3.heap.size,rfl,by rw[a6];refine bnw.trans ?_;rw[show(at_:Int)=((LS.hd _).at_) from congrArg _ I.2.1]⟩);have a5:Hid _:=a6▸ZbR K.out _;clear a6;go_wp2;go_ret2;exact⟨_,_,rfl,.inl rfl,by rwa [a4.out],a5⟩
  ·have c3:deep<=19:=by omega
   have C:Hid (Zb9 _ _ _=Zbw rec _ _):=hid (by unfold Zb9;rw[if_pos L,if_neg G]);obtain⟨rc0,rc1,rfz,rcx⟩:=p.rd.all;have c7:=p.lt;have c8:=p.len;clear rcx L G;have t0:=n.cell 0;have t1:=n.cell 1;have t2:=n.cell 2;have t3:=n.cell 3;simp only[Zget]at t0 t1 t2 t3;by_cases r:(LS.hd ts).jk=1
   ·have b3:kd=0:=by have:=I.1;rw[r]at this;exact this
    subst b3;have c2:Hid ((tv)=numV _):=I.2.2.2 r;have f:Hid (Zb9 _ _ _=.ok _):=hid (by rw[C,Zw6 r]);clear r
    go_upto_region 8 with fail
    refine ZP fun W8 a=>?_;have s:Hid _:=a▸p.step U.out;have x:Hid _:=a▸ZA K.out (Or.inl rfl) _;have M:Hid (BAt _ _ _ _):=a▸n.other (by show w1.heap.size≠R.b;omega) _;clear a rc0 rc1 rfz t0 t1 t2 t3;have t3:=M.cell;go_wp2;go_ret2;exact⟨_,_,rfl,.inr ⟨_,_,rfl⟩,f.out▸⟨rfl,⟨_,s.out⟩,Or.inl ⟨rfl,by rw[<-c2.out];rfl⟩⟩,x⟩
   ·have b3:((kd:Int) == 0)=false:=by
     rw[beq_eq_false_iff_ne];intro e;exact r ((Ze0 q.2.2).2.2.2.1.1 (by have:=I.1;simp only at this;omega))
    have z:=hid r;clear r
    go_wp2_with fail
    refine(Zf6 I.out q.1 q.2.2 _ Dc Dc w3).mono ?_;rintro e w4 ⟨rfl,V⟩;have A:=hid (n.below V);have W:=hid (Zj K (Zw V));have N:=hid (p.below V);clear V n K p t0 t1 t2 t3 rc0 rc1 rfz;obtain⟨rc0,rc1,rfz,rcx⟩:=N.rd.all;have t0:=A.cell 0;have t1:=A.cell 1;have t2:=A.cell 2;have t3:=A.cell 3;simp only[Zget]at t0 t1 t2 t3;clear rcx;by_cases D:isT [45] (LS.hd ts)=true
    ·rw[show isT (bl ⟨#[45]⟩) _=true from D];have f:Hid (Zb9 _ _ _=bnd _ _):=hid (by rw[C,Zw5 z D]);clear D
     go_upto_region 11 with fail
     refine ZP fun W8 a=>?_;have s:Hid _:=a▸N.step U.out;have x:Hid _:=a▸ZA W.out (Or.inl rfl) _;clear a rc0 rc1 rfz t0 t1 t2 t3 N W A
     go_wp2_with fail
     refine(b6 _ R _ _ _ s Om (by show ts.tail.length<m;have:=H.pos;have:=HM.out;rw[Yb4];omega)).mono ?_;rintro e w9 ⟨pv,v,rfl,j,i,c⟩;have l:=hid (Zj x c);clear c;rcases j with rfl|⟨ty,u,rfl⟩
     all_goals
      go_wp2;go_ret2;refine⟨_,_,rfl,.inr ⟨_,_,rfl⟩,?_,l⟩;rw[f];cases b4:rec 3 ts.tail (deep+1)with
      | error er=>exact i.err b4
      | ok pr=>
       obtain⟨t,r3⟩:=pr;obtain⟨h1,h2,h3⟩:=i.good b4;exact⟨h1,h2,.inr (.inr (.inr (.inl ⟨rfl,_,rfl,h3⟩)))⟩
    ·rw[show isT (bl ⟨#[45]⟩) _=false from Yce.2 D];have X:=hid D;clear D
     go_wp2_with fail
     refine(Zf6 I.out q.1 q.2.2 _ Dc Dc w4).mono ?_;rintro e w5 ⟨rfl,Y⟩;have O:=hid (A.below Y);have E:=hid (Zj W (Zw Y));have B:=hid (N.below Y);clear Y A W N t0 t1 t2 t3 rc0 rc1 rfz;obtain⟨rc0,rc1,rfz,rcx⟩:=B.rd.all;have t2:=O.cell 2;simp only[Zget]at t2;clear rcx;by_cases F:isT [40] (LS.hd ts)=true
     ·rw[show isT (bl ⟨#[40]⟩) _=true from F];have f:Hid (Zb9 _ _ _=Zbu _ _ _):=hid (by rw[C,Zxa z X F]);clear F
      go_wp2_with fail
      refine(a9 _ R k _ _ B Om HM).mono ?_;rintro e w9 ⟨pv,v,rfl,j,i,c⟩;have l:=hid (Zj E c);have P:=hid j;clear c j;go_wp2;go_ret2;exact⟨_,_,rfl,P,by rwa [f.out],l⟩
     ·rw[show isT (bl ⟨#[40]⟩) _=false from Yce.2 F];have T:=hid F;have Z:Hid (bl tx=(LS.hd _).txt):=I.2.2.1;clear F
      go_wp2_with fail
      refine(ZpX _ _).mono ?_;rintro e wq ⟨rfl,rfl⟩;rw[Z];cases Q:idx (LS.hd ts).txt ZW with
      | some g=>
       have f:Hid (Zb9 _ _ _=Zcb _ g _ _):=hid (by rw[C,Zw3 z X T Q]);have a7:Hid (bl _=ZW.getD g _):=hid (by rw[ZlM Q,Z]);rw[show(some g).isSome=true from rfl];clear Q
       go_upto_region 17 with fail
       refine ZP fun W8 a=>?_;have s:Hid _:=a▸B.step U.out;have x:Hid _:=a▸ZA E.out (Or.inl rfl) _;have M:Hid (BAt _ _ _ _):=a▸O.other (by show w1.heap.size≠R.b;omega) _;clear a rc0 rc1 rfz t2 B E O;have t2:=M.cell
       go_wp2_with fail
       refine(ZwJ a9 g a7 _ R _ _ _ s Om (by show ts.tail.length<=m;have:=HM.out;rw[Yb4];omega)).mono ?_;rintro e w9 ⟨pv,v,rfl,j,i,c⟩;have l:=hid (Zj x c);have P:=hid j;clear c j;go_wp2;go_ret2;exact⟨_,_,rfl,P,by rwa [f.out],l⟩
      | none=>
       rw[show(none).isSome=false from rfl];have b5:=hid Q;clear Q
       go_wp2_with fail
       refine(ZpZ _ _).mono ?_;rintro e wq ⟨rfl,rfl⟩;rw[Z];cases S:idx (LS.hd ts).txt Z0 with
       | some o=>
        have f:Hid (Zb9 _ _ _=winP o _):=hid (by rw[C,Zw9 z X T b5 S]);have a7:Hid (bl _=Z0.getD o _):=hid (by rw[ZlM S,Z]);rw[show(some o).isSome=true from rfl];clear S
        go_upto_region 20 with fail
        refine ZP fun W8 a=>?_;have s:Hid _:=a▸B.step U.out;have x:Hid _:=a▸ZA E.out (Or.inl rfl) _;have M:Hid (BAt _ _ _ _):=a▸O.other (by show w1.heap.size≠R.b;omega) _;clear a rc0 rc1 rfz t2 B E O;have t2:=M.cell
        go_wp2_with fail
        refine(ZEK s o a7).mono ?_;rintro e w9 ⟨pv,v,rfl,j,i,c⟩;have l:=hid (Zj x c);have P:=hid j;clear c j;go_wp2;go_ret2;exact⟨_,_,rfl,P,by rwa [f.out],l⟩
       | none=>
        rw[show(none).isSome=false from rfl];have f:Hid (Zb9 _ _ _=bnd _ _):=hid (by rw[C,Zw8 z X T b5 S]);clear S
        go_wp2_with fail
        refine(Zsd B).mono ?_;rintro e w9 ⟨nm,la,ln,lc,v,rfl,i,c⟩;have l:=hid (Zj E c);clear c;go_wp2;go_ret2;refine⟨_,_,rfl,.inr ⟨_,_,rfl⟩,?_,l⟩;rw[f];cases a8:selP ts with
        | error er=>exact i.err a8
        | ok pr=>
         obtain⟨nd,r3⟩:=pr;obtain⟨h1,h2,h3,h4⟩:=i.good a8;exact⟨h1,h2,.inr (.inl ⟨(Zkq a8).2.1,nm,la,ln,lc,rfl,h3,h4⟩)⟩
theorem ZzN{p:PTok}{u:Tok}(h:Zdf p u)(d:Zdt u)(e:u.jk<=5){lv:Nat}(f:lv<=2){kd op:Nat}(c:LS.opAt lv u=some (kd,op)):∃j,opOf p=some j/\j<=4/\Zdb j=lv/\opNo (nd0 kd op)=j/\(kd=4∨kd=6)/\¬(u.jk=0∨u.jk=5):=by
 have m0:ZdF p ⟨#[111,114]⟩=isT wOr u:=Znz h d e Dc Dc;have m1:ZY p ⟨#[43]⟩=isT [43] u:=ZdP h d e Dc Dc;have m2:ZY p ⟨#[45]⟩=isT [45] u:=ZdP h d e Dc Dc;have m3:ZY p ⟨#[42]⟩=isT [42] u:=ZdP h d e Dc Dc;have m4:ZY p ⟨#[47]⟩=isT [47] u:=ZdP h d e Dc Dc;unfold opOf;rw[m0,m1,m2,m3,m4];unfold LS.opAt at c;rcases(by omega:lv=0∨lv=1∨lv=2)with rfl|rfl|rfl
 ·by_cases a:isT wOr u=true
  ·rw[if_pos rfl,if_pos a]at c;injection c with c;injection c with h1 h2;subst h1 h2;rw[if_pos a];exact⟨0,rfl,by decide,rfl,rfl,.inr rfl,Zd3 a⟩
  ·rw[if_pos rfl,if_neg a]at c;cases c
 ·rw[if_neg Dc,if_pos rfl]at c;by_cases a:isT [43] u=true
  ·rw[if_pos a]at c;injection c with c;injection c with h1 h2;subst h1 h2;rw[ZeV a Dc,if_neg Dc,if_pos a];exact⟨1,rfl,by decide,rfl,rfl,.inl rfl,Zd3 a⟩
  ·rw[if_neg a]at c;by_cases b:isT [45] u=true
   ·rw[if_pos b]at c;injection c with c;injection c with h1 h2;subst h1 h2;rw[ZeV b Dc,if_neg Dc,if_neg a,if_pos b];exact⟨2,rfl,by decide,rfl,rfl,.inl rfl,Zd3 b⟩
   ·rw[if_neg b]at c;cases c
 ·rw[if_neg Dc,if_neg Dc]at c;by_cases a:isT [42] u=true
  ·rw[if_pos a]at c;injection c with c;injection c with h1 h2;subst h1 h2;rw[ZeV a Dc,if_neg Dc,ZeV a Dc,if_neg Dc,ZeV a Dc,if_neg Dc,if_pos a];exact⟨3,rfl,by decide,rfl,rfl,.inl rfl,Zd3 a⟩
  ·rw[if_neg a]at c;by_cases b:isT [47] u=true
   ·rw[if_pos b]at c;injection c with c;injection c with h1 h2;subst h1 h2;rw[ZeV b Dc,if_neg Dc,ZeV b Dc,if_neg Dc,ZeV b Dc,if_neg Dc,if_neg a,if_pos b];exact⟨4,rfl,by decide,rfl,rfl,.inl rfl,Zd3 b⟩
   ·rw[if_neg b]at c;cases c
theorem ZzL{p:PTok}{u:Tok}(h:Zdf p u)(a:Zdt u)(c:u.jk<=5){lv:Nat}(e:lv<=2)(d:LS.opAt lv u=none):opOf p=none∨∃j,opOf p=some j/\j<=4/\Zdb j≠lv:=by
 have m0:ZdF p ⟨#[111,114]⟩=isT wOr u:=Znz h a c Dc Dc;have m1:ZY p ⟨#[43]⟩=isT [43] u:=ZdP h a c Dc Dc;have m2:ZY p ⟨#[45]⟩=isT [45] u:=ZdP h a c Dc Dc;have m3:ZY p ⟨#[42]⟩=isT [42] u:=ZdP h a c Dc Dc;have m4:ZY p ⟨#[47]⟩=isT [47] u:=ZdP h a c Dc Dc;unfold opOf;rw[m0,m1,m2,m3,m4];unfold LS.opAt at d;generalize isT wOr u=b0 at *
 generalize isT [43] u=b1 at *
 generalize isT [45] u=b2 at *
 generalize isT [42] u=b3 at *
 generalize isT [47] u=b4 at *
 rcases (by omega : lv = 0 ∨ lv = 1 ∨ lv = 2) with rfl | rfl | rfl <;> cases b0 <;> cases b1 <;> cases b2 <;> cases b3 <;> cases b4 <;> first
   | exact Or.inl rfl
   | exact Or.inr ⟨0,rfl,by decide,by decide⟩
   | exact Or.inr ⟨1,rfl,by decide,by decide⟩
   | exact Or.inr ⟨2,rfl,by decide,by decide⟩
   | exact Or.inr ⟨3,rfl,by decide,by decide⟩
   | exact Or.inr ⟨4,rfl,by decide,by decide⟩
   | cases d
theorem ZAd {n lv : Nat} {ts : List Tok} {deep : Nat} (h : lv ≠ 3) : Zs (n + 1) false lv .nil ts deep = bnd (Zs n false (lv + 1) .nil ts deep) fun a r => Zs n true lv a r deep := by
  show(if lv=3 then _ else _)=_;rw[if_neg h]
theorem ZAc {n : Nat} {ts : List Tok} {deep : Nat} : Zs (n + 1) false 3 .nil ts deep = Zb9 (fun lv ts d => Zs n false lv .nil ts d) ts deep := by
  show(if 3=3 then _ else _)=_;rw[if_pos rfl]
theorem ZAg{n lv:Nat}{a:Tr}{ts:List Tok}{deep:Nat}(h:LS.opAt lv (hd ts)=none):Zs (n+1) true lv a ts deep=.ok (a,ts):=by
 show(match LS.opAt lv (hd ts)with|none=>_|some p=>_)=_;rw[h]
theorem ZAe {n lv : Nat} {a : Tr} {ts : List Tok} {deep : Nat} {p : Nat × Nat} (h : LS.opAt lv (hd ts) = some p) : Zs (n + 1) true lv a ts deep = bnd (Zs n false (lv + 1) .nil ts.tail deep) fun b r => Zs n true lv (.node 0 0 (nd0 p.1 p.2) a b) r deep := by
  show(match LS.opAt lv (hd ts)with|none=>_|some p=>_)=_;rw[h]
def RP(lv n:Nat):Prop:=ZeO 28 (fun d=>[Vi lv,Vi (d+1:Nat)]) (fun ts d=>Zs n false lv .nil ts d) (fun ts=>10*ts.length+5<=n+lv)
def RF(n:Nat):Prop:=ZeO 51 (fun d=>[Vi (d+1:Nat)]) (fun ts d=>Zs n false 3 .nil ts d) (fun ts=>10*ts.length+2<=n)
theorem ZAh{n:Nat}(g:RF n):RP 3 n:=by
 intro w R k ts deep h hd c;have i:Hid (Calls _ _ #[.pointer _,.int _ _] w _):=g w R k _ _ h hd (by show 10*ts.length+2<=n;have l:=c;omega);go_enter func28,ntmps28
 go_wp2_with fail
 refine i.mono ?_;rintro e m ⟨pv,v,rfl,d,a,hg⟩;have f:=hid d;have j:=hid hg;go_wp2;go_ret2;exact⟨_,_,rfl,f,a,j⟩
theorem ZAj{n lv:Nat}(N:lv<=2)(hp:∀m,m<=n->RP (lv+1) m):RP lv (n+1):=by
 intro w R k ts deep h hd a2;have H:=hid h;have HD:=hid hd;have c2:=a2;have c5:=(Yae.1 h.rd.cells).1;have HC:Hid (∀m,m<=n->∀(w:World) (k:Nat) (ts:List _),RK w R k _->10*ts.length+5<=m+(lv+1)->Calls _ _ #[.pointer _,.int _ ((lv)+1),.int _ ((deep)+1)] w fun e C=>∃(pv v:Value),e=.returned _/\Zhp _/\Hid (Res R _ _ (Zs m _ _ _ _ _) v)/\w.grownBy _ _):=hid (fun m hm w k ts h1 h2=>hp m hm w R k ts _ h1 hd h2);have h3:((lv:Int) == 3)=false:=by rw[beq_eq_false_iff_ne];omega
 obtain⟨PR,O⟩:∃PR,PR=Zs (n+1) false lv .nil ts deep:=⟨_,rfl⟩
 have P:Hid (PR=bnd _ _):=hid (by rw[O,ZAd Om]);show Calls _ _ _ _ (fun e C=>∃(pv v:Value),e=.returned (.tuple #[pv,v])/\Zhp pv/\Hid (Res R (fun C t=>Zh C t pv) C (Zs (n+1) false lv .nil ts deep) v)/\w.grownBy C (some R.b));rw[<-O];go_enter func28,ntmps28
 go_wp2_with fail
 refine(HC n (Yac _) w k _ H Om).mono ?_;rintro e w1 ⟨pv,v,rfl,a3,f,hg⟩;have Q:=hid hg;cases c:Zs n false (lv+1) .nil ts deep with
 | error er=>
  have Y:=hid (f.err c);obtain⟨fa,rfl⟩:=Y.shape;have D:Hid (PR=.error er):=by rw[P,c];rfl
  go_wp2;go_ret2;exact⟨_,_,rfl,.inl rfl,by rwa [D.out],Q⟩
 | ok pr=>
  obtain⟨a0,r0⟩:=pr;obtain⟨rfl,⟨k1,a4⟩,hv⟩:=f.good c;have a5:=hid a4;have a6:=hid hv;have a7:Hid (Zs n true lv a0 r0 deep=PR):=by rw[P,c];rfl
  have c3:r0.length+1<=ts.length:=Zg1 n _ _ _ _ _ _ c;go_wp2
  go_loopg [8] r0.length (fun g v8 wr=>∃(a:Tr) (r:List Tok) (k2 m:Nat),g=r.length/\Hid (Zh wr a v8)/\Hid (RK wr R k2 r)/\Hid (10*r.length+5<=m/\m<=n/\Zs m true lv a r deep=PR)/\Hid (w.grownBy wr (some R.b)))
  case atStart=>exact⟨a0,r0,k1,n,rfl,a6,a5,⟨by omega,Yac _,a7⟩,Q⟩
  case round=>
   obtain⟨a,r,k2,m,c6,HV,HK,E,HG⟩:=hrel;obtain⟨m,rfl⟩:∃m',m=m'+1:=⟨m - 1,by have:=E.1;omega⟩
   obtain⟨ty,u,a8⟩:=Zh.shape HV;subst a8
   go_wp2_with fail
   refine(Zee HK).mono ?_;rintro e z ⟨⟨kd,at_,tx,tv⟩,rfl,ht,F⟩;have S:=hid (HK.below F);have a9:=hid (HV.below F);have b0:=hid (Zj HG (Zw F));have o:=hid S.wf.head
   go_wp2_with fail
   refine(ZzQ ⟨kd,at_,tx,tv⟩).mono ?_;rintro e w3 ⟨rfl,G⟩;have d:=hid (S.below G);have q:=hid (a9.below G);have s:=hid (Zj b0 (Zw G));cases i:LS.opAt lv (LS.hd r)with
   | none=>
    have l:Hid (PR=.ok _):=hid (by rw[<-E.2.2,ZAg i]);rcases ZzL ht.out o.1 o.2.2 N i with B|⟨j,B,I,b1⟩
    ·rw[B];go_wp2;go_ret2;exact⟨_,_,rfl,.inr ⟨_,_,rfl⟩,l.out▸⟨rfl,⟨_,d.out⟩,q.out⟩,s⟩
    ·rw[B];have b2:((Zdb j:Int) != lv)=true:=by rw[bne_iff_ne];omega
     rw[show(some j).getD 0=j from rfl,show(some j).isSome=true from rfl]
     go_wp2_with (go_at_call 53;refine cret (Zm0 j I) ?_)
     go_ret2;exact⟨_,_,rfl,.inr ⟨_,_,rfl⟩,l.out▸⟨rfl,⟨_,d.out⟩,q.out⟩,s⟩
   | some p=>
    obtain⟨j,B,I,b1,T,J,x⟩:=ZzN ht.out o.1 o.2.2 N i;have l:Hid ((bnd _ _)=PR):=hid (by rw[<-E.2.2,ZAe i]);have U:Hid (opNo _=j/\(p.1=4∨p.1=6)):=⟨T,J⟩
    have b3:=hid x;have b2:((Zdb j:Int) != lv)=false:=by rw[bne_eq_false_iff_eq];omega
    rw[B,show(some j).getD 0=j from rfl,show(some j).isSome=true from rfl];obtain⟨rc0,rc1,rfz,rcx⟩:=d.rd.all;have c7:=d.lt;have c8:=d.len;have c9:=E.1;have d0:=E.2.1;clear i B T J x rcx
    go_upto_region 10 with (go_at_call 53;refine cret (Zm0 j I) ?_)
    refine ZP fun W8 A=>?_;have K:Hid _:=A▸d.step b3.out;have b4:Hid _:=A▸ZA s.out (Or.inl rfl) _;have b5:Hid (Zh W8 a (.iface ty u)):=A▸q.read d.out (ZA (ZbM _ _) (Or.inl rfl) _);have c4:=d.pos;have L:=K.pos;rw[Yb4]at L;clear A rc0 rc1 rfz d s q
    go_wp2_with fail
    refine(HC m Om _ _ _ K (by rw[Yb4];omega)).mono ?_;rintro e w9 ⟨pv,v,rfl,a3,f,V⟩;have W:=hid (Zj b4 V);have b6:=hid (b5.read K V);cases c:Zs m false (lv+1) .nil r.tail deep with
    | error er=>
     have Y:=hid (f.err c);obtain⟨fa,rfl⟩:=Y.shape;have D:Hid (PR=.error er):=by rw[<-l,c];rfl
     go_wp2;go_ret2;exact⟨_,_,rfl,.inl rfl,by rwa [D.out],W⟩
    | ok pr=>
     obtain⟨b,y⟩:=pr;obtain⟨rfl,⟨k9,b7⟩,X⟩:=f.good c;have b8:=hid b7;have b9:=hid X;have c1:Hid (Zs m true lv (.node 0 0 (nd0 p.1 p.2) a b) y deep=PR):=by rw[<-l,c];rfl
     have M:=Zg1 m _ _ _ _ _ _ c;simp only[Yb4,Yde,if_false]at M;obtain⟨ty2,u2,Z⟩:=Zh.shape X;subst Z;have a1:Hid (Zh _ (.node 0 0 _ a b) _):=hid (.inr (.inr (.inr (.inr (.inr ⟨U.2,_,_,by rw[U.1],b6,b9⟩)))));go_wp2
     go_roundg y.length
     case measure=>omega
     case rel=>exact⟨_,y,k9,m,rfl,a1,b8,⟨by omega,by omega,c1⟩,W⟩
theorem ZnQ:∀n,(∀lv,lv<=3->∀m,m<=n->RP lv m)/\(∀m,m<=n->RF m)
 | 0 => by
   constructor
   · intro lv f m c w R k ts deep _ _ a
     exact absurd (a) Om
   · intro m c w R k ts deep _ _ a
     exact absurd (a) Om
 | n + 1 => by
   obtain⟨d,g⟩:=ZnQ n
   have o:RF (n+1):=by
     intro w R k ts deep h hd a;have p:=a;show Calls _ _ _ _ (fun e u=>∃(pv v:Value),e=.returned (.tuple #[pv,v])/\Zhp pv/\Hid (Res R (fun u t=>Zh u t pv) u (Zs (n+1) false 3 .nil ts deep) v)/\w.grownBy u (some R.b));rw[ZAc];refine Zv2 ?_ (Zug ?_) w R k _ _ h hd (Yac _)
     · intro w R k ts2 deep h hd i
       exact g n (Yac _) w R k _ _ h hd (by show 10*ts2.length+2<=n;have j:=i;omega)
     · intro w R k ts2 deep h hd i
       exact d 0 Om n (Yac _) w R k _ _ h hd (by show 10*ts2.length+5<=n+0;have j:=i;omega)
   constructor
   · intro lv f m c
     by_cases l:m<=n
     · exact d _ f m l
     · obtain rfl:m=n+1:=by omega
       by_cases j:lv=3
       · subst j;exact ZAh o
       · exact ZAj Om (fun m c=>d _ Om m c)
   · intro m c
     by_cases l:m<=n
     · exact g m l
     · obtain rfl:m=n+1:=by omega
       exact o
attribute [local go_sem] ZhB ZkO ZkP ZkN ZkQ ZiT ZhA Zhz ZkL ZkK ZkM ZiS ZgB ZgA ZgC ZkR ZkS ZiU Zhx Zhw Zhy Zhv ZkJ ZiR ZhJ ZhI ZhK ZhH ZhL ZiV ZhE ZhD ZhF ZhC ZhG ZgD
def KR(tp:Addr)(t:Tr)(kd:Int)(err:Value):Prop:=(Zf t=0/\err=.iface 432 (.pointer (some tp)))∨(Zf t=1/\kd=0/\err=.nilIface)∨(Zf t=2/\kd=1/\err=.nilIface)
def Zgy(w:World)(tp:Addr):Prop:=w.cell? ⟨3,0,none⟩=some (.iface 432 (.pointer (some tp)))
theorem Zgy.below{w w':World}{tp:Addr}(h:Zgy w tp)(a:BW w w'):Zgy w' tp:=(a.cell (Yai _ _ h)).trans h
def KC(t:Tr):Prop:=∀(w:World) (v:Value) (tp:Addr),Zh w t v->Zgy w tp->
 CP 31 #[v] w fun e w'=>∃(kd:Int) (err:Value),e=.returned (.tuple #[Vi kd,err])/\Hid (KR tp t kd err)/\BW w w'
theorem ZED{t:Tr}(h:KC t)(w:World){v:Value}{tp:Addr}(f:Zh w t v)(g:Zgy w tp) :
  CP 55 #[v] w fun e j=>∃err:Value,e=.returned err/\Hid ((Zf t=2/\err=.nilIface)∨(Zf t≠2/\err=.iface 432 (.pointer (some tp))))/\BW w j:=by
 have k:=hid (h w v _ f g);have l:=hid g;obtain⟨ty,u,rfl⟩:=Zh.shape f;go_enter func55,ntmps55
 go_wp2_with fail
 refine k.mono ?_;rintro e m ⟨kd,err,rfl,n,i⟩;have d:=hid i;have o:m.cell? _=some _:=l.below i;rcases n.out with ⟨a,rfl⟩|⟨a,rfl,rfl⟩|⟨a,rfl,rfl⟩
 ·have c:=hid a;go_wp2;go_ret;exact⟨_,rfl,.inr ⟨by rw[c];decide,rfl⟩,d⟩
 ·have c:=hid a;go_wp2;go_ret;exact⟨_,rfl,.inr ⟨by rw[c];decide,rfl⟩,d⟩
 ·have c:=hid a;go_wp2;go_ret;exact⟨_,rfl,.inl ⟨c,rfl⟩,d⟩
theorem Zxy{x y:Nat}{a:Nd}{l r:Tr}(h:a.jk=4∨a.jk=6):Zf (.node x y a l r)=if Zf l=0∨Zf r=0∨(a.jk=6/\Zf l+Zf r≠4)then 0 else if Zf l+Zf r=2 then 1 else 2:=by
 show(if a.jk=0 then _ else _)=_;rw[if_neg Om,if_neg Om,if_neg Om,if_neg Om]
theorem ZxB{x y:Nat}{a:Nd}{l r:Tr}(D:a.jk=4∨a.jk=6)(F:KC l)(G:KC r)(w:World){vl vr:Value}{tp:Addr}(p:Zh w l vl)(d:Zh w r vr)(A:Zgy w tp) :
  CP 56 #[.agg #[Vi (opNo a),vl,vr]] w fun e u=>∃(kd:Int) (err:Value),e=.returned (.tuple #[Vi kd,err])/\Hid (KR tp (.node x y a l r) kd err)/\BW w u:=by
 obtain⟨tyl,ul,rfl⟩:=Zh.shape p;obtain⟨tyr,ur,rfl⟩:=Zh.shape d;have q:=hid (Zxy (x:=x) (y:=y) (l:=l) (r:=r) D);have R:=hid d;have Q:=hid A;obtain⟨o,n⟩:∃o,o=opNo a:=⟨_,rfl⟩
 have H:(a.jk=6/\((o:Int) == 0)=true)∨(a.jk=4/\((o:Int) == 0)=false):=by
  rcases D with h|h
  ·right
   refine⟨h,?_⟩;rw[beq_eq_false_iff_ne,n];unfold opNo;rw[if_neg Om];omega
  ·left
   refine⟨h,?_⟩;rw[n];unfold opNo;rw[if_pos h];rfl
 rw[<-n];have I:=hid (fun W s=>F W _ _ (p.below s) (A.below s));have J:=hid (fun W s=>G W _ _ (d.below s) (A.below s));clear p d A F G D n;go_enter func56,ntmps56
 go_upto_region 1 with fail
 refine ZP fun T t=>?_;have v:Hid _:=t▸Zbal;have f:Hid (BAt _ _ _ 116):=t▸bnw;clear t;have p0:=f.cell 0;have p1:=f.cell 1;have p2:=f.cell 2;simp only[Zget]at p0 p1 p2
 go_wp2_with fail
 refine(I _ v).mono ?_;rintro e U ⟨kd,err,rfl,K,B⟩;have g:=hid (v.trans (B.mono v.size));have i:=hid (f.below B);have p0:=i.cell 0;have p1:=i.cell 1;have p2:=i.cell 2;simp only[Zget]at p0 p1 p2;rcases K.out with ⟨j,rfl⟩|⟨j,rfl,rfl⟩|⟨j,rfl,rfl⟩
 ·have E:Hid (Zf _=0):=hid (by rw[q,if_pos (.inl j)]);go_wp2;go_ret2;exact⟨_,_,rfl,.inl ⟨E,rfl⟩,g⟩
 all_goals
  have L:=hid j
  go_wp2_with fail
  refine(J _ g).mono ?_;rintro e z ⟨kd2,err2,rfl,M,C⟩;have c:=hid (g.trans (C.mono g.size));have N:=hid (i.below C);have S:z.cell? _=some _:=Q.below c;have p0:=N.cell;rcases M.out with ⟨k,rfl⟩|⟨k,rfl,rfl⟩|⟨k,rfl,rfl⟩
  ·have E:Hid (Zf _=0):=hid (by rw[q,if_pos (.inr (.inl k))]);go_wp2;go_ret2;exact⟨_,_,rfl,.inl ⟨E,rfl⟩,c⟩
  all_goals
   have O:=hid k;rcases H with ⟨P,n⟩|⟨P,n⟩
   all_goals
    have m:=hid (show Zf (.node x y a l r)=_ by rw[q.out,L.out,O.out,P])
    first
     | (go_wp2
        go_ret2;exact⟨_,_,rfl,by first|exact Or.inr (Or.inl ⟨by rw[m.out];rfl,rfl,rfl⟩)|exact Or.inr (Or.inr ⟨by rw[m.out];rfl,rfl,rfl⟩)|exact Or.inl ⟨by rw[m.out];rfl,rfl⟩,c.out⟩)
     | (go_wp2
        go_region
        all_goals
          go_wp2;go_ret2;exact⟨_,_,rfl,Or.inl ⟨by rw[m.out];rfl,rfl⟩,by exact⟨c.os,c.tape,c.output,c.size,c.block⟩⟩)
theorem Zl2:∀t:Tr,KC t
 | .nil=>fun _ _ _ h=>h.elim
 | .node x y a l r => by
   have k:=Zl2 l;have C:=Zl2 r;intro w v tp E s;rcases E with ⟨d,rfl⟩|⟨d,nm,la,ln,lc,rfl,_⟩|⟨d,F,nm,la,ln,lc,rfl,_⟩|⟨d,z,rfl,m⟩|⟨d,F,la,ln,lc,z,rfl,_,_,m⟩|⟨d,z1,z2,rfl,p,q⟩
   · have g:Hid (Zf (.node x y a l r)=1):=by show(if a.jk=0 then _ else _)=_;rw[if_pos d]
     go_enter func31,ntmps31;go_wp2;go_ret2;exact⟨_,_,rfl,.inr (.inl ⟨g,rfl,rfl⟩),belB⟩
   · have g:Hid (Zf (.node x y a l r)=2):=hid (by show(if a.jk=0 then _ else _)=_;rw[if_neg Om,if_pos (Or.inl d)])
     go_enter func31,ntmps31;go_wp2;go_ret2;exact⟨_,_,rfl,.inr (.inr ⟨g,rfl,rfl⟩),belB⟩
   · have g:Hid (Zf (.node x y a l r)=2):=hid (by show(if a.jk=0 then _ else _)=_;rw[if_neg Om,if_pos (Or.inr d)])
     go_enter func31,ntmps31;go_wp2;go_ret2;exact⟨_,_,rfl,.inr (.inr ⟨g,rfl,rfl⟩),belB⟩
   · have g:Hid (Zf (.node x y a l r)=Zf l):=by show(if a.jk=0 then _ else _)=_;rw[if_neg Om,if_neg Om,if_pos d]
     obtain⟨ty,u,rfl⟩:=Zh.shape m;have n:=hid (fun W c=>k W _ _ (m.below c) (s.below c));go_enter func31,ntmps31
     go_wp2_with fail
     refine Zm fun W c=>?_;have f:Hid (BW w W):=c▸belB;refine(n W f).mono ?_;rintro e D ⟨kd,err,rfl,i,o⟩;have j:=hid (f.trans (o.mono f.size));go_wp2;go_ret2;exact⟨_,_,rfl,by unfold KR;rw[g];exact i,j⟩
   · have g:Hid (Zf (.node x y a l r)=if Zf l=2 then 2 else 0):=by show(if a.jk=0 then _ else _)=_;rw[if_neg Om,if_neg Om,if_neg Om,if_pos d]
     obtain⟨ty,u,rfl⟩:=Zh.shape m;have n:=hid (fun W c=>ZED k W (m.below c) (s.below c));go_enter func31,ntmps31
     go_wp2_with fail
     refine Zm fun W c=>?_;have f:Hid (BW w W):=c▸belB;refine(n W f).mono ?_;rintro e D ⟨err,rfl,i,o⟩;have j:=hid (f.trans (o.mono f.size));go_wp2;go_ret2;refine⟨_,_,rfl,?_,j⟩;rcases i.out with ⟨A,B⟩|⟨A,B⟩
     · exact .inr (.inr ⟨by rw[g,if_pos A],rfl,B⟩)
     · exact .inl ⟨by rw[g,if_neg A],B⟩
   · obtain⟨ty,u,rfl⟩:=Zh.shape p
     obtain⟨ty2,u2,rfl⟩:=Zh.shape q;have n:Hid (∀W,Below _ w W->Calls _ _ _ W fun e G=>∃(kd:Int) (err:Value),e=.returned _/\Hid (KR _ (.node x y a l r) _ _)/\Below _ W _):=hid (fun W c=>ZxB d k C W (p.below c) (q.below c) (s.below c));go_enter func31,ntmps31
     go_wp2_with fail
     refine Zm fun W c=>?_;have f:Hid (BW w W):=c▸belB;refine(n W f).mono ?_;rintro e D ⟨kd,err,rfl,i,o⟩;have j:=hid (f.trans (o.mono f.size));go_wp2;go_ret2;exact⟨_,_,rfl,i,j⟩
end Go.Proofs.YtcdgkkfipdoeeaaGreatDoor
namespace Go.Proofs.YtcdgkkfipdoeeaaGreatDoor
open Go.RowKit LS Go.Proofs.Tryz
theorem Zj5{p:UInt8->Bool}(s:BA)(k:Nat){h:k<s.size}(a:p s[k]=true):run p ((bl s).drop k)=run p ((bl s).drop (k+1))+1:=by
 rw[ZdW s k h,run,if_pos a]
theorem ZrY{p:UInt8->Bool}(s:BA)(k:Nat){h:k<s.size}(a:p s[k]=false):run p ((bl s).drop k)=0:=by
 rw[ZdW s k h,run,if_neg (a▸Ycv)]
theorem ZrU{p:UInt8->Bool}(s:BA)(k:Nat)(h:¬k<s.size):run p ((bl s).drop k)=0:=by
 rw[Yb8 (by rw[Zd];omega)];rfl
theorem ZBB(s:BA)(k:Nat)(w:World)(l:s.size<=6000)(g:k<=s.size) :
  CP 45 #[.string s,Vi k,.func (.func 44) #[] #[]] w fun e u=>e=.returned (Vi ((k+run ZC ((bl s).drop k):Nat):Int))/\u=w:=by
 obtain⟨E,c⟩:∃E,E=k+run ZC ((bl s).drop k):=⟨_,rfl⟩
 rw[<-c];have h:=hid c;clear c;go_enter func45,ntmps45;go_wp2
 go_loop [1] (fun i=>∃j:Nat,j<=s.size/\i=Vi j/\Hid (E=j+run ZC ((bl s).drop j))) (fun i=>s.size - (intOf i).toNat)
 case atStart=>exact⟨k,g,rfl,h⟩
 case round=>
  obtain⟨j,m,rfl,d⟩:=hrel;by_cases f:j<s.size
  ·cases hd:ZC s[j]
   ·have a:Hid (E=j):=by rw[d,ZrY s j hd];rfl
    go_wp2_with (go_at_call 44;refine cret (Zdk) ?_)
    go_ret;exact⟨by rw[a];rfl,rfl⟩
   ·have a:Hid (E=(j+1)+run ZC ((bl s).drop (j+1))):=hid (by rw[d,Zj5 s j hd];omega)
    go_wp2_with (go_at_call 44;refine cret (Zdk) ?_)
    go_round
    case rel=>exact⟨j+1,by omega,by go_num,a⟩
    case measure=>simp[intOf];omega
  ·have a:Hid (E=j):=by rw[d,ZrU s j f];rfl
   go_wp2;go_ret;exact⟨by rw[a];rfl,rfl⟩
theorem ZBD(s:BA)(k:Nat)(w:World)(l:s.size<=6000)(g:k<=s.size) :
  CP 45 #[.string s,Vi k,.func (.func 47) #[] #[]] w fun e u=>e=.returned (Vi ((k+run Zp ((bl s).drop k):Nat):Int))/\u=w:=by
 obtain⟨E,c⟩:∃E,E=k+run Zp ((bl s).drop k):=⟨_,rfl⟩
 rw[<-c];have h:=hid c;clear c;go_enter func45,ntmps45;go_wp2
 go_loop [1] (fun i=>∃j:Nat,j<=s.size/\i=Vi j/\Hid (E=j+run Zp ((bl s).drop j))) (fun i=>s.size - (intOf i).toNat)
 case atStart=>exact⟨k,g,rfl,h⟩
 case round=>
  obtain⟨j,m,rfl,d⟩:=hrel;by_cases f:j<s.size
  ·cases hd:Zp s[j]
   ·have a:Hid (E=j):=by rw[d,ZrY s j hd];rfl
    go_wp2_with (go_at_call 47;refine cret (Zd2) ?_)
    go_ret;exact⟨by rw[a];rfl,rfl⟩
   ·have a:Hid (E=(j+1)+run Zp ((bl s).drop (j+1))):=hid (by rw[d,Zj5 s j hd];omega)
    go_wp2_with (go_at_call 47;refine cret (Zd2) ?_)
    go_round
    case rel=>exact⟨j+1,by omega,by go_num,a⟩
    case measure=>simp[intOf];omega
  ·have a:Hid (E=j):=by rw[d,ZrU s j f];rfl
   go_wp2;go_ret;exact⟨by rw[a];rfl,rfl⟩
theorem Zqi{ns ms:List (LB)}(h:∀z,z∈ns ↔ z∈ms)(l:List Lab):ZB l ns=ZB l ms:=by
 unfold ZB
 simp_all
theorem ZpH{ns ms:List (LB)}(h:∀z,z∈ns ↔ z∈ms)(op:Nat)(all:List El):∀(l pre:List El),ZcF op ns all pre l=ZcF op ms all pre l
 | [],_=>rfl
 | e :: l, pre => by
   rw[ZcF,ZcF,ZpH h _ _ l _];have a:(fun f:El=>ZB _ _)=fun f=>ZB f.1 _:=funext fun f=>Zqi h _;simp only[Zqi h]
theorem ZpJ{ns ms:List (LB)}(h:∀z,z∈ns ↔ z∈ms)(op:Nat)(l:List El):Zcv op ns l=Zcv op ms l:=by unfold Zcv;rw[ZpH h]
theorem Zzt(A:Nat->Addr)(m:Int)(w:World)(a:Vars w A m){fa:Nat}(c:w.cell? ⟨fa,2,none⟩=some (.iface 432 (.pointer (some (A 8))))) :
  CP 18 #[.iface 81 (Vp fa)] w fun e u=>e=.returned (Vi 9)/\u=w:=by
 have v:=a.all;go_enter func18,ntmps18
 iterate 8 (go_wp2_with fail;refine cret (Zgv a c) ?_)
 go_wp2_with fail
 refine cret (Zf8 c) ?_;go_wp2;go_ret;exact⟨rfl,rfl⟩
theorem ZzB(A:Nat->Addr)(m:Int)(w:World)(a:Vars w A m) :
  CP 18 #[.iface 432 (.pointer (some (A 9)))] w fun e u=>e=.returned (Vi 10)/\u=w:=by
 have v:=a.all;go_enter func18,ntmps18
 iterate 9 (go_wp2_with fail;refine cret (Zg7 a) ?_)
 go_wp2_with fail
 refine cret (Zf7) ?_;go_wp2;go_ret;exact⟨rfl,rfl⟩
theorem Zzx(A:Nat->Addr)(m:Int)(w:World)(a:Vars w A m){fa:Nat}(c:w.cell? ⟨fa,2,none⟩=some (.iface 432 (.pointer (some (A 10))))) :
  CP 18 #[.iface 81 (Vp fa)] w fun e u=>e=.returned (Vi 11)/\u=w:=by
 have v:=a.all;go_enter func18,ntmps18
 iterate 10 (go_wp2_with fail;refine cret (Zgv a c) ?_)
 go_wp2_with fail
 refine cret (Zf8 c) ?_;go_wp2;go_ret;exact⟨rfl,rfl⟩
theorem ZzA(A:Nat->Addr)(m:Int)(w:World)(a:Vars w A m){fa:Nat}(c:w.cell? ⟨fa,2,none⟩=some (.iface 432 (.pointer (some (A 11))))) :
  CP 18 #[.iface 81 (Vp fa)] w fun e u=>e=.returned (Vi 12)/\u=w:=by
 have v:=a.all;go_enter func18,ntmps18
 iterate 11 (go_wp2_with fail;refine cret (Zgv a c) ?_)
 go_wp2_with fail
 refine cret (Zf8 c) ?_;go_wp2;go_ret;exact⟨rfl,rfl⟩
theorem Zzu(A:Nat->Addr)(m:Int)(w:World)(a:Vars w A m) :
  CP 18 #[.iface 432 (.pointer (some (A 12)))] w fun e u=>e=.returned (Vi 13)/\u=w:=by
 have v:=a.all;go_enter func18,ntmps18
 iterate 12 (go_wp2_with fail;refine cret (Zg7 a) ?_)
 go_wp2_with fail
 refine cret (Zf7) ?_;go_wp2;go_ret;exact⟨rfl,rfl⟩
section
variable {jx:List Nq} {W:Nat->Cq->Cq} {c d e:Cq} {U U' U1 U2:Nat->Bool} {K K1 K2:Nat->Prop} {T:Nat->Nat} {n m x y N:Nat}
def IS(c:Cq)(x:Nat):Prop:=∃s,s<16/\c.jy.getD s none=some (x:Int)
def Rch(jx:List Nq)(S:Nat->Prop)(m:Nat)(x:Nat):Prop:=∀P:Nat->Nat->Prop,(∀ {m x:Nat},¬S m->x∈Zg (jx.getD m nq0)->P m x)->(∀ {m y x:Nat},¬S m->y∈Zg (jx.getD m nq0)->P y x->P m x)->P m x
theorem Rch.last{jx:List Nq}{S:Nat->Prop}{m x:Nat}(a:¬S m)(f:x∈Zg (jx.getD m nq0)):Rch jx S m x:=fun _ k0 _=>k0 a f
theorem Rch.step{jx:List Nq}{S:Nat->Prop}{m y x:Nat}(a:¬S m)(f:y∈Zg (jx.getD m nq0))(g:Rch jx S y x):Rch jx S m x:=fun P k0 k1=>k1 a f (g P k0 k1)
theorem Rch.ind{jx:List Nq}{S:Nat->Prop}{motive:∀m x,Rch jx S m x->Prop}(last:∀ {m x:Nat} (h1:¬S m) (h2:x∈Zg (jx.getD m nq0)),motive m x (Rch.last h1 h2))(step:∀ {m y x:Nat} (h1:¬S m) (h2:y∈Zg (jx.getD m nq0)) (h3:Rch jx S y x),motive y x h3->motive m x (Rch.step h1 h2 h3)){m:Nat}{x:Nat}(h:Rch jx S m x):motive m x h:=by
 obtain⟨_,k⟩:=h (fun m x=>∃h,motive m x h) (fun h1 h2=>⟨_,last h1 h2⟩) (fun h1 h2 ⟨h3,h3_k⟩=>⟨_,step h1 h2 h3 h3_k⟩);exact k
theorem Rch.inv{S:Nat->Prop}(h:Rch jx S m x):(¬S m/\x∈Zg (jx.getD m nq0))∨∃y,¬S m/\y∈Zg (jx.getD m nq0)/\Rch jx S y x:=by
 induction h using Rch.ind with
 | last a f=>exact .inl ⟨a,f⟩
 | step a f g _=>exact .inr ⟨_,a,f,g⟩
theorem Rch.head{S:Nat->Prop}(h:Rch jx S m x):¬S m:=by induction h using Rch.ind <;> assumption
theorem Rch.gt{S:Nat->Prop}(a:NOk jx)(h:Rch jx S m x):x<m:=by
 induction h using Rch.ind with
 | last _ h=>exact Zcf a _ _ h
 | step _ h _ ih=>exact Nat.lt_trans ih (Zcf a _ _ h)
theorem Rch.mono{S S':Nat->Prop}(f:NOk jx)(h:Rch jx S m x):(∀y,x<y->¬S y->Rch jx S y x->¬S' y)->Rch jx S' m x:=by
 induction h using Rch.ind with
 | last g a=>exact fun i=>.last (i _ (Zcf f _ _ a) g (.last g a)) a
 | step g a j ih=>exact fun i=>.step (i _ (Nat.lt_trans (j.gt f) (Zcf f _ _ a)) g (.step g a j)) a (ih i)
structure Pt (jx:List Nq) (c:Cq) (U:Nat->Bool) (d:Cq) (U':Nat->Bool) (K:Nat->Prop):Prop where
 sub:∀x,U' x=true->U x=true
 wrk:∀m,¬IS c m->IS d m->K m
 rch:∀x,U' x=true->∀m,K m->¬Rch jx (IS c) m x
 stay:∀x,U' x=true->∀s,c.jy.getD s none=some (x:Int)->d.jy.getD s none=some (x:Int)
theorem Pt.keep(a:NOk jx)(h:Pt jx c U d U' K)(f:U' x=true)(g:Rch jx (IS c) m x):Rch jx (IS d) m x:=
 g.mono a (fun y _ i j hd=>h.rch x f y (h.wrk y i hd) j)
theorem Pt.trans (g : NOk jx) (h : Pt jx c U d U1 K1) (q : Pt jx d U2 e U' K2) : Pt jx c U e (fun x => U1 x && U' x) (fun m => K1 m ∨ K2 m) := by
  refine⟨fun x a=>?_,fun m j k=>?_,fun x a m f i=>?_,fun x a s l=>?_⟩
  · rw[Yas]at a;exact h.sub x a.1
  · by_cases hd:IS d m
    · exact .inl (h.wrk m j hd)
    · exact .inr (q.wrk m hd k)
  · rw[Yas]at a
    rcases f with f|f
    · exact h.rch x a.1 m f i
    · exact q.rch x a.2 m f (h.keep g a.1 i)
  · rw[Yas]at a;exact q.stay x a.2 s (h.stay x a.1 s l)
theorem Pt.same(h:Pt jx c U d U' K)(f:e.jy=d.jy):Pt jx c U e U' K:=
 ⟨h.sub,fun m a i=>h.wrk m a (by unfold IS at *;simp_all),h.rch,fun x g s a=>by rw[f];exact h.stay x g s a⟩
theorem Pt.from_(h:Pt jx c U d U' K)(a:e.jy=c.jy):Pt jx e U d U' K:=by
 have f:IS e=IS c:=by unfold IS;rw[a]
 exact⟨h.sub,fun m g i=>h.wrk m (by simp_all) i,f▸h.rch,fun x j s g=>h.stay x j s (by simp_all)⟩
theorem Pt.still(c:Cq)(U:Nat->Bool):Pt jx c U c U (fun _=>False):=⟨fun _ h=>h,fun _ a f=>absurd f a,fun _ _ _ h=>h.elim,fun _ _ _ h=>h⟩
theorem Pt.less(h:Pt jx c U d U' K)(f:∀x,U1 x=true->U' x=true):Pt jx c U d U1 K:=⟨fun x a=>h.sub x (f x a),h.wrk,fun x a=>h.rch x (f x a),fun x a=>h.stay x (f x a)⟩
def Inv(N:Nat)(c:Cq)(U:Nat->Bool):Prop:=c.jy.length=16/\∀x,U x=true->IS c x/\x<N
theorem Pt.inv (h : Pt jx c U d U' K) (f : Inv N c U) (g : d.jy.length = 16) : Inv N d U' := ⟨g, fun x a => by
  obtain⟨⟨s,i,j⟩,k⟩:=f.2 x (h.sub x a);exact⟨⟨s,i,h.stay x a s j⟩,k⟩⟩
def psi(T:Nat->Nat)(U:Nat->Bool):Nat->Nat
 | 0=>0
 | n+1=>psi T U n+if U n=true then T n - 1 else 0
theorem ZjY{V:Nat->Bool} : ∀(N:Nat),(∀x,x<N->U x=V x)->psi T U N=psi T V N
 | 0,_=>rfl
 | N+1,h=>by unfold psi;rw[ZjY N (fun x a=>h x Om),h N Om]
theorem ZmV (a : U x = false) : ∀ (N : Nat), x < N -> psi T (fun z => U z || decide (z = x)) N = psi T U N + (T x - 1)
  | 0,h=>absurd h (Ya1 _)
  | N + 1, h => by
    unfold psi;by_cases e:x=N
    · subst e
      rw[ZjY (V:=U) x (fun z f=>by simp_all;omega)];simp[a]
    · rw[ZmV a N Om,show decide _=false by simp;omega]
      simp;omega
theorem ZAX (a : U x = true) {N:Nat} (h : x < N) : psi T (fun z => U z && !decide (z = x)) N + (T x - 1) = psi T U N := by
  rw[<-ZmV (by simp) N h];refine ZjY N (fun z _=>?_);by_cases e:z=x
  · simp_all
  simp_all
theorem ZmW:∀(N:Nat),(∀x,U x=false)->psi T U N=0
 | 0,_=>rfl
 | N+1,h=>by unfold psi;rw[ZmW N h,h N];rfl
theorem ZCn{l:List (Option Int)}(h:ZK n l=none){s:Nat}(a:s<16):l.getD s none≠some (n:Int):=by
 unfold ZK at h
 simp_all
theorem IS.of(h:ZK n c.jy=none):¬IS c n:=fun⟨_,a,f⟩=>ZCn h a f
theorem ZCl{s:Nat}(h:ZK n c.jy=some s):IS c n:=⟨s,Zha h⟩
def WBd(jx:List Nq)(T:Nat->Nat)(W:Nat->Cq->Cq)(n:Nat):Prop:=∀c U,Inv jx.length c U->¬IS c n->∃U' K,Pt jx c U (W n c) U' K/\K n/\(W n c).jy.length=16/\(W n c).jq.length+psi T U jx.length+2<=c.jq.length+T n+psi T U' jx.length
theorem Pt.kept{s:Nat}(h:Pt jx c U d U' K)(o:K n)(p:d.jy.getD s none=none)(f:e.jy=d.jy.set s (some (n:Int))):Pt jx c U e U' K:=by
 refine⟨h.sub,fun m i j=>?_,h.rch,fun x k s' g=>?_⟩
 ·obtain⟨s',l,a⟩:=j;rw[f,Zc0]at a;split at a
  ·injection a with a;have:m=n:=by omega
   simp_all
  ·exact h.wrk m i ⟨s',l,a⟩
 ·have:=h.stay x k _ g;rw[f,Zc0,if_neg (fun e=>by simp_all)];omega
theorem Zj1(t:WBd jx T W n)(hT:4<=T n)(g:Inv jx.length c U):∃U' K,Pt jx c U (putQ jx W n c) U' K/\U' n=false/\(¬IS c n->K n)/\(putQ jx W n c).jy.length=16/\(putQ jx W n c).jq.length+psi T U jx.length<=c.jq.length+T n+psi T U' jx.length:=by
 have hid:Inv _ (decL n c) U:=g;cases f:ZK n c.jy with
 | some s=>
  obtain⟨o,p⟩:=Zha f
  have w : psi T U jx.length + 1 <= T n + psi T (fun z => U z && !decide (z = n)) jx.length := by
    cases l:U n with
    | true=>have:=ZAX (T:=T) l (g.2 n l).2;omega
    | false=>
      rw [ZjY (V := fun z => U z && !decide (z = n)) _ (fun z _ => by
        by_cases e:z=n
        · simp_all
        simp_all)]
      omega
  rw[Zd8 f];refine⟨fun z=>U z && !decide (z=n),fun _=>False,?_,by simp,fun h=>absurd (ZCl f) h,?_,?_⟩
  ·have hg : ∀ {x : Nat} {s' : Nat}, x ≠ n -> c.jy.getD s' _ = some (x : Int) -> (c.jy.set s none).getD s' _ = some _ := fun i h => by
     rw[Zc0,if_neg (fun e=>by simp_all;omega)];exact h
   split
   ·refine⟨fun x i=>by simp_all,fun m a j=>?_,fun _ _ _ h=>h.elim,fun x i s' a=>?_⟩
    ·obtain⟨s',q,k⟩:=j;simp only at k;rw[Zc0]at k;split at k
     ·cases k
     ·exact a ⟨s',q,k⟩
    ·simp at i;exact hg i.2 a
   ·exact⟨fun x i=>by simp_all,fun m a j=>absurd j a,fun _ _ _ h=>h.elim,fun x _ s' a=>a⟩
  ·split
   ·simp only[Yat];exact g.1
   ·exact g.1
  ·split <;> simp only[Zc,decL,Yab,Ybj] <;> omega
 | none=>
  obtain⟨U',K,o,p,a,j⟩:=t (decL n c) U hid (IS.of f);have r:=o.from_ (e:=c) rfl
  have u:U' n=false:=by
   cases l:U' n with
   | false=>rfl
   | true=>exact absurd (g.2 n (o.sub n l)).1 (IS.of f)
  have q:(W n _).jq.length+psi T U _+2<=c.jq.length+T n+psi T _ _:=j;rw[ZdR f];refine⟨U',K,?_,u,fun _=>p,?_,?_⟩
  ·split
   ·exact r
   ·split
    ·rename_i s v;exact r.kept p (ZdZ v).2 rfl
    omega
  ·split
   ·exact a
   ·split
    ·simp[Zc,ZZ,a]
    omega
  ·split
   ·omega
   ·split
    ·simp only[Zc,ZZ,Yab,Ybj];omega
    ·omega
end
end Go.Proofs.YtcdgkkfipdoeeaaGreatDoor
namespace Go.Proofs.YtcdgkkfipdoeeaaGreatDoor
open Go.RowKit LS Go.Proofs.Tryz
section
variable {jx:List Nq} {W:Nat->Cq->Cq} {c d e:Cq} {U U' U1 U2:Nat->Bool} {K K1 K2:Nat->Prop} {T:Nat->Nat} {n m x y N:Nat}
theorem Zpn (a : NOk jx) : ∀ (ts : List Nat) (c : Cq) (U : Nat -> Bool), (∀ t ∈ ts, WBd jx T W t /\ 4 <= T t) -> Inv jx.length c U -> ∃ U' K, Pt jx c U (ts.foldl (fun c t => putQ jx W t c) c) U' K /\ (∀ t ∈ ts, U' t = false /\ ∀ x, U' x = true -> ¬ Rch jx (IS c) t x) /\ (ts.foldl (fun c t => putQ jx W t c) c).jy.length = 16 /\ (ts.foldl (fun c t => putQ jx W t c) c).jq.length + psi T U jx.length <= c.jq.length + (ts.map T).sum + psi T U' jx.length
  | [],c,U,_,g=>⟨U,_,Pt.still c U,fun t p=>(by cases p),g.1,by simp⟩
  | t :: ts, c, U, l, g => by
    obtain⟨U1,K1,h,s,q,r,u⟩:=Zj1 (l t (Yay ..)).1 (l t (Yay ..)).2 g;have o:=h.inv g r;obtain⟨U2,K2,q1,q2,q3,q4⟩:=Zpn a ts (putQ jx W t c) U1 (fun z i=>l z (Yam _ i)) o;have f:=q1.sub;rw[Ybp];refine⟨U2,fun m=>K1 m∨K2 m,(h.trans a q1).less (fun z i=>by simp_all),fun z i=>?_,q3,?_⟩
    · rcases Yau.1 i with e|e
      · subst e
        refine⟨?_,fun x j k=>h.rch x (f x j) z (q k.head) k⟩;cases v:U2 z with
        | false=>rfl
        | true=>simp_all
      · exact⟨(q2 z e).1,fun x j k=>(q2 z e).2 x j (h.keep a (f x j) k)⟩
    simp_all;omega
theorem Zoh{sl:List (Option Int)}(j:c.jy=sl):∀(f n:Nat) (k:List Nat) (y:Nat),k.getD y 0<(cntQ jx sl f n k).getD y 0->y=n∨Rch jx (IS c) n y
 | 0,n,k,y,h=>absurd h (Yfs _)
 | f + 1, n, k, y, h => by
   by_cases e:y=n
   · omega
   · right
     have l:(bump k n).getD y 0=k.getD y 0:=by unfold bump;rw[Zf2,if_neg (fun h=>e h.1)]
     unfold cntQ at h;simp only at h;split at h
     · omega
     · rename_i q
       have a:¬IS c n:=by
         intro o;cases r:ZK n sl with
         | none=>exact IS.of (by simp_all) o
         | some s=>simp_all
       rw[<-l]at h
       have key : ∀ (ts : List Nat) (k : List Nat), (∀ t ∈ ts, t ∈ Zg (jx.getD n nq0)) -> k.getD y 0 < (ts.foldl (fun k t => cntQ jx sl f t k) k).getD y 0 -> Rch jx (IS c) n y := by
         intro ts
         induction ts with
         | nil=>simp
         | cons t ts ih=>
           intro k g h;rw[Ybp]at h;by_cases i:k.getD y 0<(cntQ jx sl f t k).getD y 0
           · rcases Zoh j f t k y i with e1|e1
             · apply Rch.last<;>simp_all
             · exact .step a (g _ (Yay ..)) e1
           · exact ih _ (fun z p=>g z (Yam _ p)) (Nat.lt_of_le_of_lt (Nat.le_of_not_lt i) h)
       exact key _ _ (fun _ h=>h) h
theorem Zqw{p:Nat->Bool} : ∀(n:Nat),ZbT p n=some x->p x=true
 | 0,h=>by cases h
 | n + 1, h => by
   unfold ZbT at h;split at h
   · simp_all
   · exact Zqw n h
theorem Zsj(h:ZbY jx n c=some x):¬IS c x/\(x=n∨Rch jx (IS c) n x):=by
 unfold ZbY at h;have:=Zqw _ h;unfold ZcX at this;simp only[Yas,decide_eq_true_eq]at this;obtain⟨⟨⟨a,f⟩,_⟩,_⟩:=this;refine⟨IS.of (by simp_all),Zoh rfl _ _ _ _ (Nat.lt_of_le_of_lt ?_ a)⟩;rw[Yaa,Ybs];split <;> simp
structure Pn (jx:List Nq) (n:Nat) (d:Cq) (O Q:Nat->Bool):Prop where
 apart:∀x,O x=true->Q x=false
 way:∀x,Q x=true->x=n∨Rch jx (IS d) n x
theorem ZtB{s:Nat}(g:d.jy.getD s none=none)(z:Nat):IS { d with jy:=d.jy.set s (some (-1)) } z ↔ IS d z:=by
 constructor
 ·rintro⟨s',f,a⟩;simp only at a;rw[Zc0]at a;split at a
  ·simp_all
  ·exact⟨s',f,a⟩
 ·rintro⟨s',f,a⟩;refine⟨s',f,?_⟩;simp only;rw[Zc0,if_neg (fun e=>by simp_all)];exact a
theorem ZnL (g : NOk jx) (G : ∀ z, z <= n -> z < jx.length -> WBd jx T W z /\ 4 <= T z) (H : ∀ z, z <= n -> ∀ c, c.jy.length = 16 -> Low z c (W z c)) (U : Nat -> Bool) (c : Cq) : ∀ (k : Nat) (d : Cq) (O Q : Nat -> Bool) (K : Nat -> Prop), Pt jx c U d O K -> Pn jx n d O Q -> Inv jx.length d (fun x => O x || Q x) -> d.jq.length + psi T U jx.length <= c.jq.length + psi T (fun x => O x || Q x) jx.length -> ∃ O Q K, Pt jx c U (ZG jx W n k d) O K /\ Pn jx n (ZG jx W n k d) O Q /\ Inv jx.length (ZG jx W n k d) (fun x => O x || Q x) /\ (ZG jx W n k d).jq.length + psi T U jx.length <= c.jq.length + psi T (fun x => O x || Q x) jx.length
  | 0,d,O,Q,K,l,j,f,p=>⟨O,Q,K,l,j,f,p⟩
  | k + 1, d, O, Q, K, l, j, f, p => by
    cases q:ZbY jx n d with
    | none=>rw[Zff (Or.inl q)];exact⟨O,Q,K,l,j,f,p⟩
    | some x=>
      cases A:ZbQ d.jy with
      | none=>rw[Zff (Or.inr A)];exact⟨O,Q,K,l,j,f,p⟩
      | some s=>
        rw[ZiP q A];obtain⟨B,I⟩:=ZdZ A;obtain⟨t,o⟩:=Zg9 g q;obtain⟨J,L⟩:=Zsj q;have u:IS { d with jy:=d.jy.set s (some (-1)) }=IS d:=funext fun z=>propext (ZtB I z);obtain⟨Y,hT⟩:=G x t o;have C:=H x t { d with jy:=d.jy.set s (some (-1)) } (by simp only[Yat];exact f.1);obtain⟨V,K2,p1,p2,p3,p4⟩:=Y { d with jy:=d.jy.set s (some (-1)) } (fun x=>O x || Q x) ⟨by simp only[Yat];exact f.1,fun z a=>by rw[u];exact f.2 z a⟩ (by simp_all);simp only at p4;generalize W x { d with jy:=d.jy.set s (some (-1)) }=e at *
        have M:(ZZ x s e).jy=e.jy.set s (some (x:Int)):=rfl;have hg:∀s',s'≠s->(ZZ x s e).jy.getD s' none=e.jy.getD s' none:=fun s' D=>by rw[M,Zc0,if_neg (fun h=>D h.1)]
        have v:(ZZ x s e).jy.getD s none=some (x:Int):=by rw[M,Zc0,if_pos ⟨rfl,by omega⟩]
        have P : Pt jx d (fun x => O x || Q x) (ZZ x s e) V K2 := by
          refine⟨p1.sub,fun m r Z=>?_,fun z a m hm hr=>p1.rch z a m hm (by simp_all),fun z a s' r=>?_⟩
          · obtain⟨s',E,i⟩:=Z
            by_cases es:s'=s
            · subst es
              rw[v]at i;injection i with i;have:m=x:=by omega
              simp_all
            · rw[hg s' es]at i
              exact p1.wrk m (by simp_all) ⟨s',E,i⟩
          · have es:s'≠s:=fun es=>by simp_all
            rw[hg s' es];refine p1.stay z a s' ?_;simp only;rw[Zc0,if_neg (fun h=>es h.1)];exact r
        have R:V x=false:=by
          cases F:V x with
          | false=>rfl
          | true=>exact absurd (f.2 x (p1.sub x F)).1 J
        have S:=P.inv f (by simp_all)
        have w : (fun z => (O z && V z) || ((Q z && V z) || decide (z = x))) = fun z => V z || decide (z = x) := funext fun z => by
          cases F:V z with
          | false=>simp
          | true=>have:=p1.sub z F;simp only[Yct]at this;rcases this with h|h <;> simp[h]
        have X:=ZmV (T:=T) R jx.length o;refine ZnL g G H U c k (ZZ x s e) (fun z=>O z && V z) (fun z=>(Q z && V z) || decide (z=x)) (fun m=>K m∨K2 m) (l.trans g P) ⟨fun z a=>?_,fun z a=>?_⟩ ?_ ?_
        · rw[Yas]at a
          have e1:z≠x:=fun e=>by simp_all
          simp[j.apart z a.1,e1]
        · rw[Yct,Yas,decide_eq_true_eq]at a
          rcases a with a|a
          · rcases j.way z a.1 with e1|e1
            · omega
            · exact Or.inr (P.keep g a.2 e1)
          · rw[a]
            rcases L with e1|e1
            · omega
            · refine Or.inr (e1.mono g (fun y hy D _ r=>?_))
              obtain⟨s',E,i⟩:=r;by_cases es:s'=s
              · simp_all;omega
              · rw[hg s' es]at i
                have:=(C.sl s' y (Nat.le_of_lt hy)).1 i;exact D (by rw[<-u];exact⟨s',E,this⟩)
        · rw[w]
          refine⟨S.1,fun z a=>?_⟩;rw[Yct,decide_eq_true_eq]at a;rcases a with a|a
          · exact S.2 z a
          · rw[a];exact⟨⟨s,B,v⟩,o⟩
        · rw[w,X]
          have:(ZZ x s e).jq.length=e.jq.length+1:=by simp[ZZ,Zc]
          omega
end
end Go.Proofs.YtcdgkkfipdoeeaaGreatDoor
namespace Go.Proofs.YtcdgkkfipdoeeaaGreatDoor
open Go.RowKit LS Go.Proofs.Tryz
def sh(t:Tok):Nat×LB:=(t.jk,t.txt)
abbrev Sh:=Nat×LB
abbrev LxC (P:LB->List Sh->Prop):Prop:=P [] [(0,[])]/\(∀ {{r T}},P r T->P (32::r) T)/\(∀ {{c}} {{d:LB}} {{r T}},ZC c=true->d.all ZC=true->(ZQ 1000000000 (c::d)).isSome=true->run ZC r=0->P r T->P (c::d++r) ((1,c::d)::T))/\(∀ {{c}} {{d:LB}} {{r T}},Zp c=true->d.all Zp=true->d.length<=7->run Zp r=0->P r T->P (c::d++r) ((2,c::d)::T))/\(∀ {{v r T}},Z3 v=true->P r T->P (34::(v++34::r)) ((3,v)::T))/\(∀ {{r T}},P r T->P (33::61::r) ((4,[33,61])::T))/\∀ {{c r T}},c∈Zdq->P r T->P (c::r) ((4,[c])::T)
def Lx(m:LB)(T:List Sh):Prop:=∀P,LxC P->P m T
theorem lxc:LxC Lx:=⟨fun _ k=>k.1,fun _ _ h P k=>k.2.1 (h P k),fun _ _ _ _ a b c d h P k=>k.2.2.1 a b c d (h P k),fun _ _ _ _ a b c d h P k=>k.2.2.2.1 a b c d (h P k),fun _ _ _ a h P k=>k.2.2.2.2.1 a (h P k),fun _ _ h P k=>k.2.2.2.2.2.1 (h P k),fun _ _ _ a h P k=>k.2.2.2.2.2.2 a (h P k)⟩
abbrev Lx.nil:=lxc.1
abbrev Lx.skip:=lxc.2.1
abbrev Lx.num:=lxc.2.2.1
abbrev Lx.name:=lxc.2.2.2.1
abbrev Lx.word:=lxc.2.2.2.2.1
abbrev Lx.ne:=lxc.2.2.2.2.2.1
abbrev Lx.sign:=lxc.2.2.2.2.2.2
theorem Lx.ind{motive:∀m T,Lx m T->Prop}(nil:motive _ _ Lx.nil)(skip:∀ {r T} (h:Lx r T),motive r T h->motive _ _ (Lx.skip h))(num:∀ {c d r T} i j k l (h:Lx r T),motive r T h->motive _ _ (Lx.num (c:=c) (d:=d) i j k l h))(name:∀ {c d r T} i j k l (h:Lx r T),motive r T h->motive _ _ (Lx.name (c:=c) (d:=d) i j k l h))(word:∀ {v r T} i (h:Lx r T),motive r T h->motive _ _ (Lx.word (v:=v) i h))(ne:∀ {r T} (h:Lx r T),motive r T h->motive _ _ (Lx.ne h))(sign:∀ {c r T} i (h:Lx r T),motive r T h->motive _ _ (Lx.sign (c:=c) i h)){m:LB}{T:List Sh}(h:Lx m T):motive m T h:=by
 obtain⟨_,k⟩:=h (fun m T=>∃h,motive m T h) ⟨⟨_,nil⟩,fun _ _ ⟨h,k⟩=>⟨_,skip h k⟩,fun _ _ _ _ a b c d ⟨h,k⟩=>⟨_,num a b c d h k⟩,fun _ _ _ _ a b c d ⟨h,k⟩=>⟨_,name a b c d h k⟩,fun _ _ _ a ⟨h,k⟩=>⟨_,word a h k⟩,fun _ _ ⟨h,k⟩=>⟨_,ne h k⟩,fun _ _ _ a ⟨h,k⟩=>⟨_,sign a h k⟩⟩;exact k
theorem Zm3(p:UInt8->Bool):∀(d r:LB),d.all p=true->run p r=0->run p (d++r)=d.length
 | [],_,_,h=>h
 | c :: d, r, h, a => by
   rw[Yep,Yas]at h;rw[Yby,run,if_pos h.1,Zm3 p d r h.2 a,Yaj]
theorem Zx8{l r:LB}{i:Nat}(h:l.drop i=32::r):Zk l i=Zk l (i+1):=by
 have a:l.drop (i+1)=r:=by rw[<-Yei,h];rfl
 unfold Zk;rw[h,a];have:run (· == 32) (32::r)=run _ r+1:=rfl;rw[this,show i+(run _ r+1)=i+1+run (· == 32) r by omega]
theorem Zif{l r:LB}{i:Nat}{c:UInt8}(h:l.drop i=c::r)(a:c≠32):Zk l i=lexC l i c r:=by
 unfold Zk;rw[h];have:run (· == 32) (c::r)=0:=by simp[run,a]
 rw[this,Nat.add_zero];unfold lexJ;rw[h]
theorem ZCh{c:UInt8}(h:c∈Zdq):ZC c=false/\Zp c=false/\(c == 34)=false/\(c == 33)=false/\(seek c Zdq).isSome=true/\c≠32:=by
 have:∀x∈Zdq,ZC x=false/\Zp x=false/\(x == 34)=false/\(x == 33)=false/\(seek x Zdq).isSome=true/\x≠32:=by decide
 simp_all
theorem ZEO{v:LB}(h:Z3 v=true):(34:UInt8)∉v:=by
 intro a;unfold Z3 at h;rw[Yas]at h;exact absurd (Ybu.1 h.1 _ a) Dc
theorem Zvv{c:UInt8}(h:ZC c=true):c≠32:=by rintro rfl;exact absurd h Dc
theorem ZxY{c:UInt8}(h:Zp c=true):c≠32/\ZC c=false:=by
 refine⟨by rintro rfl;exact absurd h Dc,?_⟩;simp only[Zp,ZC,Yas,decide_eq_true_eq,Yfm,decide_eq_false_iff_not]at *
 omega
theorem Zih{l:LB}{i n:Nat}{k:Nat}{x:LB}{j:Nat}{T:List Sh}(h:Zk l i=(⟨k,x,i⟩,j))(a:¬(k=0∨k=5))(hT:(ZN l n j).map sh=T):(ZN l (n+1) i).map sh=(k,x)::T:=by
 rw[ZN,h,if_neg a,Ybb,hT];rfl
theorem ZgI{l p r:LB}{i:Nat}(h:l.drop i=p++r):l.drop (i+p.length)=r:=by
 rw[<-Yei,h,List.drop_left]
theorem ZgJ{l p r:LB}{i:Nat}(a:i<=l.length)(h:l.drop i=p++r):i+p.length<=l.length:=by
 have:=congrArg List.length h;rw[Ybv,Yab]at this;omega
theorem ZyL{m:LB}{T:List Sh}(h:Lx m T):∀(l:LB) (i n:Nat),l.drop i=m->i<=l.length->l.length+1<=n+i->(ZN l n i).map sh=T:=by
 induction h using Lx.ind with
 | nil=>
  intro l i n hd a j;obtain⟨n,rfl⟩:∃k,n=k+1:=⟨n - 1,by omega⟩
  have e:Zk l i=(⟨0,[],i⟩,i):=by
   unfold Zk;rw[hd];show lexJ l i=_;unfold lexJ;rw[hd]
  rw[ZN,e,if_pos (.inl rfl)];rfl
 | @skip r T o ih=>
  intro l i n hd a j;have f:l.drop (i+1)=r:=ZgI (p:=[32]) hd;have s:i+1<=l.length:=ZgJ (p:=[32]) a hd;obtain⟨n,rfl⟩:∃k,n=k+1:=⟨n - 1,by omega⟩
  have:=ih l _ (n+1) f s Om;rw[ZN,<-Zx8 hd]at this
  assumption
 | @num c d r T f s w t o ih=>
  intro l i n hd a j;have g1:=ZgI hd;have g2:=ZgJ a hd;rw[Yaj]at g1 g2;obtain⟨n,rfl⟩:∃k,n=k+1:=⟨n - 1,by omega⟩
  have g:run _ (c::(d++r))=d.length+1:=Zm3 _ (c::d) r (by simp_all) t;have q:(c::(d++r)).take (d.length+1)=c::d:=by simp
  have e:Zk l i=(⟨1,c::d,i⟩,i+(d.length+1)):=by
   rw[Zif (r:=d++r) (by simp_all) (Zvv f),lexC,if_pos f,g,q,if_pos w]
  exact Zih e Om (ih l _ n g1 g2 Om)
 | @name c d r T f s w t o ih=>
  intro l i n hd a j;have g1:=ZgI hd;have g2:=ZgJ a hd;rw[Yaj]at g1 g2;obtain⟨n,rfl⟩:∃k,n=k+1:=⟨n - 1,by omega⟩
  have g:run _ (c::(d++r))=d.length+1:=Zm3 _ (c::d) r (by simp_all) t;have q:(c::(d++r)).take (d.length+1)=c::d:=by simp
  have x:=ZxY f
  have e:Zk l i=(⟨2,c::d,i⟩,i+(d.length+1)):=by
   rw[Zif (r:=d++r) (by simp_all) x.1,lexC,if_neg (by simp_all),if_pos f,g,q,if_neg Om]
  exact Zih e Om (ih l _ n g1 g2 Om)
 | @word v r T f o ih=>
  intro l i n hd a j;have g1:=ZgI (p:=34::(v++[34])) (r:=r) (by rw[hd];simp);have g2:=ZgJ (p:=34::(v++[34])) (r:=r) a (by simp_all);have u:(34::(v++[34])).length=v.length+2:=by simp
  rw[u]at g1 g2;obtain⟨n,rfl⟩:∃k,n=k+1:=⟨n - 1,by omega⟩
  have e:Zk l i=(⟨3,v,i⟩,i+(v.length+2)):=by
   rw[Zif hd Dc,lexC,if_neg Dc,if_neg Dc,if_pos Dc,Zgq _ v r (ZEO f)];simp only[List.take_left,f,if_true];rfl
  exact Zih e Om (ih l _ n g1 g2 Om)
 | @ne r T o ih=>
  intro l i n hd a j;have g1:=ZgI (p:=[33,61]) hd;have g2:=ZgJ (p:=[33,61]) a hd;obtain⟨n,rfl⟩:∃k,n=k+1:=⟨n - 1,by omega⟩
  have e:Zk l i=(⟨4,[33,61],i⟩,i+2):=by
   rw[Zif hd Dc,lexC,if_neg Dc,if_neg Dc,if_neg Dc,if_pos (by simp)]
  exact Zih e Om (ih l _ n g1 g2 Om)
 | @sign c r T f o ih=>
  intro l i n hd a j;have g1:=ZgI (p:=[c]) hd;have g2:=ZgJ (p:=[c]) a hd;obtain⟨n,rfl⟩:∃k,n=k+1:=⟨n - 1,by omega⟩
  obtain⟨s1,s2,s3,s4,s5,s6⟩:=ZCh f
  have e:Zk l i=(⟨4,[c],i⟩,i+1):=by
   rw[Zif hd s6,lexC,s1,s2,s3,s4,s5];rfl
  exact Zih e Om (ih l _ n g1 g2 Om)
theorem Zlm{d:Nat}(h:d<=9):(dig d).toNat=48+d:=by unfold dig;simp;omega
theorem ZoN{d:Nat}(h:d<=9):ZC (dig d)=true:=by
 have:=Zlm h;simp only[ZC,Yas,decide_eq_true_eq];omega
theorem ZoK(n:Nat):(decS n).all ZC=true/\val (decS n)=n/\decS n≠[]/\((decS n).head?=some 48->(decS n).length=1):=by
 induction n using Nat.strongRecOn with
 | _ n ih=>
  by_cases h:n<=9
  ·rw[Zh0 h];refine⟨by simp[ZoN h],?_,by simp,fun _=>rfl⟩;show 10*0+((dig n).toNat - 48)=n;rw[Zlm h];omega
  ·obtain⟨f,e,k,g⟩:=ih (n / 10) Om;rw[Zi6 h];refine⟨by rw[Yfc,f];simp[ZoN (show n % 10<=9 by omega)],?_,by simp,fun l=>?_⟩
   ·rw[Znt,e,Zlm (show n % 10<=9 by omega)];omega
   ·exfalso
    have d:(decS (n / 10)).head?=some 48:=by
     cases hd:decS (n / 10)with
     | nil=>simp_all
     | cons a t=>simp_all
    have i:=g d;obtain⟨c,j⟩:=List.length_eq_one_iff.1 i;rw[j]at d e;simp only[List.head?_cons,Yci]at d;subst d;have:n / 10=0:=by rw[<-e];rfl
    omega
theorem ZjP{n most:Nat}(h:n<=most):ZQ most (decS n)=some n:=by
 obtain⟨a,c,d,e⟩:=ZoK n;unfold ZQ
 simp_all
def stop(r:LB):Prop:=run Zp r=0/\run ZC r=0
theorem ZCR:stop []:=⟨rfl,rfl⟩
theorem Zc3{c:UInt8}{r:LB}(a:Zp c=false)(d:ZC c=false):stop (c::r):=⟨by simp[run,a],by simp[run,d]⟩
theorem ZeW{x:LB}(h:Zx x=true){r:LB}{T:List Sh}(e:stop r)(f:Lx r T):Lx (x++r) ((2,x)::T):=by
 unfold Zx at h;rw[Yas,Yas,decide_eq_true_eq,decide_eq_true_eq]at h;cases x with
 | nil=>simp_all
 | cons c d=>
  have a:=h.1;rw[Yep,Yas]at a;exact Lx.name a.1 a.2 (by simp_all;omega) e.1 f
abbrev Cnd:=LB×LB×Bool
def Zeo(c:Cnd):List Sh:=[(2,c.1),(4,if c.2.2 then [33,61] else [61]),(3,c.2.1)]
def sepT:List (List Sh)->List Sh
 | []=>[]
 | [a]=>a
 | a::l=>a++(4,[44])::sepT l
def Zea(a:Nd):List Sh:=(2,a.name)::(if a.ku=[] then [] else (4,[123])::(sepT (a.ku.map Zeo)++[(4,[125])]))
def Zfj(c:Cnd):Prop:=Zx c.1=true/\Z3 c.2.1=true
def Ze3(nm:LB)(cs:List Cnd):Prop:=Zx nm=true/\idx nm ZW=none/\idx nm Z0=none/\nm≠wOr/\nm≠wBy/\∀c∈cs,Zfj c
abbrev GTc (P:Tr->Prop):Prop:=(∀n:Nat,n<=1000000000->P (Zbg ⟨0,0,n,[],[],[]⟩))/\(∀nm cs,Ze3 nm cs->P (Zbg ⟨1,0,0,nm,cs,[]⟩))/\(∀(o n:Nat) nm cs,o<5->1<=n->n<=1000->Ze3 nm cs->P (Zbg ⟨2,o,n,nm,cs,[]⟩))/\(∀l,P l->P (.node 0 0 (nd0 3 0) l .nil))/\(∀g ns l,g<4->(∀x∈ns,Zx x=true)->P l->P (.node 0 0 ⟨5,g,0,[],[],ns⟩ l .nil))/\(∀o l r,o<4->P l->P r->P (.node 0 0 (nd0 4 o) l r))/\∀l r,P l->P r->P (.node 0 0 (nd0 6 0) l r)
def GT(t:Tr):Prop:=∀P,GTc P->P t
theorem gtc:GTc GT:=⟨fun n h _ k=>k.1 n h,fun a b h _ k=>k.2.1 a b h,fun o n a b h i j m _ k=>k.2.2.1 o n a b h i j m,fun l h P k=>k.2.2.2.1 l (h P k),fun g n l a b h P k=>k.2.2.2.2.1 g n l a b (h P k),fun o l r a h i P k=>k.2.2.2.2.2.1 o l r a (h P k) (i P k),fun l r h i P k=>k.2.2.2.2.2.2 l r (h P k) (i P k)⟩
abbrev GT.num:=gtc.1
abbrev GT.sel:=gtc.2.1
abbrev GT.win:=gtc.2.2.1
abbrev GT.neg:=gtc.2.2.2.1
abbrev GT.grp:=gtc.2.2.2.2.1
abbrev GT.bin:=gtc.2.2.2.2.2.1
abbrev GT.or:=gtc.2.2.2.2.2.2
theorem GT.ind{motive:∀t,GT t->Prop}(num:∀n h,motive _ (GT.num n h))(sel:∀a b h,motive _ (GT.sel a b h))(win:∀o n a b h i j k,motive _ (GT.win o n a b h i j k))(neg:∀l h,motive l h->motive _ (GT.neg l h))(grp:∀g n l a b h,motive l h->motive _ (GT.grp g n l a b h))(bin:∀o l r a h i,motive l h->motive r i->motive _ (GT.bin o l r a h i))(or:∀l r h i,motive l h->motive r i->motive _ (GT.or l r h i)){t:Tr}(h:GT t):motive t h:=by
 obtain⟨_,k⟩:=h (fun t=>∃h,motive t h) ⟨fun n h=>⟨_,num n h⟩,fun a b h=>⟨_,sel a b h⟩,fun o n a b h i j k=>⟨_,win o n a b h i j k⟩,fun l ⟨h,k⟩=>⟨_,neg l h k⟩,fun g n l a b ⟨h,k⟩=>⟨_,grp g n l a b h k⟩,fun o l r a ⟨h,k⟩ ⟨i,j⟩=>⟨_,bin o l r a h i k j⟩,fun l r ⟨h,k⟩ ⟨i,j⟩=>⟨_,or l r h i k j⟩⟩;exact k
theorem Zmg{α:Type}(f:α->LB)(g:α->List Sh){ok:α->Prop}(d:∀a,ok a->∀r T,stop r->Lx r T->Lx (f a++r) (g a++T)):∀(l:List α),(∀a∈l,ok a)->∀r T,stop r->Lx r T->Lx (commas (l.map f)++r) (sepT (l.map g)++T)
 | [],_,r,T,_,c=>c
 | [a],h,r,T,e,c=>d a (h a (Yay ..)) r T e c
 | a :: b :: l, h, r, T, e, c => by
   have ih:=Zmg f g d _ (fun x i=>h x (Yam _ i)) r T e c
   have e1:commas ((a::b::l).map f)++r=f a++44::(commas ((b::l).map f)++r):=by
     show(f a++44::commas ((b::l).map f))++r=_;simp
   have e2:sepT ((a::b::l).map g)++T=g a++(4,[44])::(sepT ((b::l).map g)++T):=by
     show(g a++(4,[44])::sepT ((b::l).map g))++T=_;simp
   rw[e1,e2];exact d a (h a (Yay ..)) _ _ (Zc3 Dc Dc) (Lx.sign Dc ih)
theorem ZyM(c:Cnd)(h:Zfj c)(r:LB)(T:List Sh)(_:stop r)(f:Lx r T):Lx (Z8 c++r) (Zeo c++T):=by
 obtain⟨n,v,b⟩:=c;obtain⟨a,g⟩:=h;have d:Lx _ ((3,v)::T):=Lx.word g f;cases b with
 | true=>
  have e:Z8 (n,v,true)++r=n++33::61::34::(v++34::r):=by simp[Z8]
  rw[e];exact ZeW a (Zc3 Dc Dc) (Lx.ne d)
 | false=>
  have e:Z8 (n,v,false)++r=n++61::34::(v++34::r):=by simp[Z8]
  rw[e];exact ZeW a (Zc3 Dc Dc) (Lx.sign Dc d)
theorem ZqM(a:Nd)(h:Ze3 a.name a.ku){r:LB}{T:List Sh}(e:stop r)(d:Lx r T):Lx (selS a++r) (Zea a++T):=by
 unfold selS Zea;by_cases c:a.ku=[]
 ·rw[if_pos c,if_pos c];exact ZeW h.1 e d
 ·rw[if_neg c,if_neg c];have e1:a.name++[123]++commas (a.ku.map Z8)++[125]++r=a.name++123::(commas (a.ku.map Z8)++125::r):=by simp
  have e2:((2,a.name)::(4,[123])::(sepT (a.ku.map Zeo)++[(4,[125])]))++T=(2,a.name)::(4,[123])::(sepT (a.ku.map Zeo)++(4,[125])::T):=by simp
  rw[e1,e2];exact ZeW h.1 (Zc3 Dc Dc) (Lx.sign Dc (Zmg _ _ ZyM _ h.2.2.2.2.2 _ _ (Zc3 Dc Dc) (Lx.sign Dc d)))
def Zb5:Tr->Nat
 | .nil=>4
 | .node _ _ a _ _=>Zz a
def brk(t:Tr)(must:Nat):Nat:=if Zb5 t<must then 1 else 0
def Zbz:Tr->Nat
 | .nil=>0
 | .node _ _ a l r=>if a.jk<=2 then 1 else if a.jk=3 then 1+(brk l 4+Zbz l)else if a.jk=5 then 1+(brk l 1+Zbz l)else max (brk l (Zz a)+Zbz l) (brk r (Zz a+1)+Zbz r)
def nd(t:Tr)(must:Nat):Nat:=brk t must+Zbz t
theorem Zze(t:Tr)(m:Nat):nd t m<=nd t (m+1):=by
 unfold nd brk;split
 ·split<;>omega
 omega
theorem Zzd(t:Tr)(m:Nat):nd t m<=1+nd t 1:=by
 unfold nd brk;split<;>omega
def Zfd(x:Tok):Prop:=(x.jk=1->(ZQ 1000000000 x.txt).isSome=true)/\(x.jk=2->Zx x.txt=true)/\(x.jk=3->Z3 x.txt=true)
theorem ZrT(p:UInt8->Bool):∀l:LB,(l.take (run p l)).all p=true
 | []=>rfl
 | c :: l => by
   rw[run];split
   · rename_i h
     rw[Yed,Yep,h,ZrT p l];rfl
   · rfl
theorem tok1{x:LB}{j:Nat}(h:(ZQ 1000000000 x).isSome=true):Zfd ⟨1,x,j⟩:=⟨fun _=>h,fun h=>absurd (show(1)=2 from h) Dc,fun h=>absurd (show(1)=3 from h) Dc⟩
theorem tok2{x:LB}{j:Nat}(h:Zx x=true):Zfd ⟨2,x,j⟩:=⟨fun h=>absurd (show(2)=1 from h) Dc,fun _=>h,fun h=>absurd (show(2)=3 from h) Dc⟩
theorem tok3{x:LB}{j:Nat}(h:Z3 x=true):Zfd ⟨3,x,j⟩:=⟨fun h=>absurd (show(3)=1 from h) Dc,fun h=>absurd (show(3)=2 from h) Dc,fun _=>h⟩
theorem tok0{k:Nat}{x:LB}{j:Nat}(a:k≠1)(c:k≠2)(d:k≠3):Zfd ⟨k,x,j⟩:=⟨fun h=>absurd h a,fun h=>absurd h c,fun h=>absurd h d⟩
theorem Zyf{l:LB}{j:Nat}{c:UInt8}{r:LB}:Zfd (lexC l j c r).1:=by
 unfold lexC;split
 ·split
  ·rename_i h;exact tok1 h
  constructor<;>simp_all
 ·split
  ·rename_i a;split
   ·constructor<;>simp_all
   ·rename_i d;refine tok2 ?_;have e:=ZrT Zp (c::r);have f:=Zg6 Zp (c::r);have g:1<=run Zp (c::r):=by rw[run,if_pos a];omega
    unfold Zx
    simp_all;omega
  ·split
   ·split
    ·constructor<;>simp_all
    ·split
     ·rename_i h;exact tok3 h
     constructor<;>simp_all
   ·split
    ·constructor<;>simp_all
    ·split
     ·constructor<;>simp_all
     constructor<;>simp_all
theorem ZqG(l:LB)(i:Nat):Zfd (Zk l i).1:=by
 unfold Zk lexJ;split
 ·constructor<;>simp_all
 ·exact Zyf
def Zbk(ts:List Tok):Prop:=∀x∈ts,Zfd x
theorem ZqC(l:LB):∀(n i:Nat),Zbk (ZN l n i)
 | 0,_=>fun x a=>by cases a
 | n + 1, i => by
   rw[ZN];split
   · intro x a;rw[Yap]at a;subst a;exact ZqG l i
   · intro x a
     rcases Yau.1 a with rfl|a
     · exact ZqG l i
     · exact ZqC l n _ x a
theorem Zbk.tail{ts:List Tok}(h:Zbk ts):Zbk ts.tail:=fun x a=>h x (List.mem_of_mem_tail a)
theorem Zbk.hd{ts:List Tok}(h:Zbk ts):Zfd (hd ts):=by
 cases ts with
 | nil=>exact tok0 Dc Dc Dc
 | cons t r=>exact h t (Yay ..)
theorem ZeC{s:LB}{ts:List Tok}{z:Unit×List Tok}(h:Zq s ts=.ok z)(a:Zbk ts):Zbk z.2:=by
 unfold Zq at h;split at h
 ·cases h;exact a.tail
 ·cases h
theorem Zjs{k:Nat}{ts:List Tok}{z:LB×List Tok}(h:ZH k ts=.ok z)(a:Zbk ts):Zbk z.2/\(hd ts).jk=k/\z.1=(hd ts).txt:=by
 unfold ZH at h;split at h
 ·rename_i e;cases h;exact⟨a.tail,e,rfl⟩
 ·cases h
theorem Zme{α:Type}{item:List Tok->Out α}{close:LB}(ok:α->Prop)(e:∀t z,Zbk t->item t=.ok z->Zbk z.2/\ok z.1):∀(n:Nat) (acc:List α) (ts:List Tok) (z:List α×List Tok),(∀a∈acc,ok a)->Zbk ts->ZS item close n acc ts=.ok z->Zbk z.2/\∀a∈z.1,ok a
 | 0,_,_,_,_,_,h=>by cases h
 | n + 1, acc, ts, z, j, f, h => by
   have c:(if isT _ _ then .ok _ else bnd _ _)=.ok z:=h;cases g:isT close (hd ts)
   · rw[g]at c
     obtain⟨_,t1,i,k⟩:=Ze c;obtain⟨a,t2,l,m⟩:=Ze k
     have k1:Zbk t1:=by
       split at i
       · simp_all
       · exact ZeC i f
     have k2:=e _ _ k1 l;refine Zme _ e n _ _ _ (fun x d=>?_) k2.1 m;rcases Yar.1 d with d|d
     · simp_all
     simp_all
   · rw[g]at c
     injection c with c;subst c;exact⟨f.tail,j⟩
theorem Zu6(t:List Tok)(z:Cnd×List Tok)(e:Zbk t)(h:ZV t=.ok z):Zbk z.2/\Zfj z.1:=by
 unfold ZV at h;obtain⟨a,t1,f,h⟩:=Ze h;obtain⟨v,t2,c,h⟩:=Ze h;obtain⟨b,t3,g,h⟩:=Ze h;cases h;obtain⟨k1,e1,e2⟩:=Zjs f e
 have k2:Zbk t2:=by
  unfold Zdc at c;split at c
  ·injection c with c;injection c with _ c;subst c;exact k1.tail
  ·obtain⟨_,t4,i,d⟩:=Ze c;injection d with d;injection d with _ d;subst d;exact ZeC i k1
 obtain⟨k3,e3,e4⟩:=Zjs g k2;refine⟨k3,?_,?_⟩
 ·show Zx a=true;rw[show a=(hd t).txt from e2];exact e.hd.2.1 e1
 ·show Z3 b=true;rw[show b=(hd _).txt from e4];exact k2.hd.2.2 e3
theorem Zr3{ts:List Tok}{z:Nd×List Tok}(e:Zbk ts)(h:selP ts=.ok z):Zbk z.2/\Ze3 z.1.name z.1.ku/\z.1=⟨1,0,0,z.1.name,z.1.ku,[]⟩:=by
 unfold selP at h;obtain⟨a,t,c,d⟩:=Ze h
 have g:Zbk t/\Zx a=true/\idx a ZW=none/\idx a Z0=none/\a≠wOr/\a≠wBy:=by
  unfold ZdQ at c;split at c
  ·cases c
  ·rename_i f;obtain⟨k1,e1,e2⟩:=Zjs c e;simp only at e2;subst e2;unfold Zgp isT at f;simp only[Yct,Yas,beq_iff_eq,not_or,not_and,e1]at f;refine⟨k1,e.hd.2.1 e1,?_,?_,?_,?_⟩
   ·simp_all
   ·simp_all
   ·simp_all
   simp_all
 obtain⟨kt,g1,g2,g3,g4,g5⟩:=g;split at d
 ·obtain⟨cs,t2,i,j⟩:=Ze d;cases j;have l2:=Zme _ Zu6 _ _ _ _ (by simp) kt.tail i;exact⟨l2.1,⟨g1,g2,g3,g4,g5,l2.2⟩,rfl⟩
 ·cases d;exact⟨kt,⟨g1,g2,g3,g4,g5,by simp⟩,rfl⟩
theorem ZEI{o:Nat}(c:o<5){ts:List Tok}{z:Tr×List Tok}(d:Zbk ts)(h:winP o ts=.ok z):GT z.1/\Zbz z.1=1/\Zb5 z.1=4/\Zbk z.2:=by
 unfold winP at h;obtain⟨_,t1,e,h⟩:=Ze h;obtain⟨p,t2,f,h⟩:=Ze h;obtain⟨_,t3,g,h⟩:=Ze h;obtain⟨m,t4,a,h⟩:=Ze h;obtain⟨_,t5,i,h⟩:=Ze h;obtain⟨_,t6,j,h⟩:=Ze h;cases h;have k1:=ZeC e d;obtain⟨k2,k,_⟩:=Zr3 k1 f;have k3:=ZeC g k2
 have a4:Zbk t4/\1<=m/\m<=1000:=by
  unfold Zc2 at a;split at a
  ·rename_i l;injection a with a;injection a with a h4';subst a;subst h4';exact⟨k3.tail,l.2,(Zmr).2⟩
  ·cases a
 have k5:=ZeC i a4.1;have k6:=ZeC j k5;refine⟨?_,rfl,rfl,k6⟩;obtain⟨n,rfl⟩:∃n:Nat,m=n:=⟨m.toNat,by omega⟩
 exact GT.win _ _ _ _ c Om Om k
def InvA(rec:Nat->List Tok->Nat->Out Tr):Prop:=∀lv t d z,lv<=3->d<=20->Zbk t->rec lv t d=.ok z->GT z.1/\d+nd z.1 (lv+1)<=20/\Zbk z.2
theorem Zta{rec:Nat->List Tok->Nat->Out Tr}(d:InvA rec){ts:List Tok}{deep:Nat}{z:Tr×List Tok}(c:deep<=20)(e:Zbk ts)(h:Zbu rec ts deep=.ok z):GT z.1/\deep+nd z.1 1<=20/\Zbk z.2:=by
 unfold Zbu at h;obtain⟨_,t1,f,h⟩:=Ze h;obtain⟨a,t2,g,h⟩:=Ze h;obtain⟨_,t3,i,h⟩:=Ze h;cases h;obtain⟨b1,b2,b3⟩:=d 0 _ _ _ Om c (ZeC f e) g;exact⟨b1,b2,ZeC i b3⟩
theorem Zmn{t:Tr}(h:Zb5 t=4)(m:Nat)(a:m<=4):nd t m=Zbz t:=by
 unfold nd brk;simp_all
theorem Zw7{rec:Nat->List Tok->Nat->Out Tr}(i:InvA rec){ts:List Tok}{deep:Nat}{z:Tr×List Tok}(d:Zbk ts)(c:deep+1<=20)(h:Zbw rec ts (deep+1)=.ok z):GT z.1/\deep+nd z.1 4<=20/\Zbk z.2:=by
 unfold Zbw at h;split at h
 ·rename_i f;cases h;obtain⟨v,j⟩:=Ycw.1 (d.hd.1 f);have e:numV (hd ts).txt=(v):=by unfold numV;rw[j];rfl
  refine⟨?_,c,d.tail⟩;show GT (Zbg ⟨0,0,numV (hd ts).txt,[],[],[]⟩);rw[e];exact GT.num v (Zgh j)
 ·split at h
  ·obtain⟨a,t1,f,h⟩:=Ze h;cases h;obtain⟨b1,b2,b3⟩:=i 3 _ _ _ Om c d.tail f;refine⟨GT.neg a b1,?_,b3⟩;rw[Zmn rfl 4 Om];have b2':deep+1+(brk a 4+Zbz a)<=20:=b2;show deep+(1+(brk a 4+Zbz a))<=20;omega
  ·split at h
   ·obtain⟨b1,b2,b3⟩:=Zta i c d h;have:=Zzd z.1 4
    simp_all;omega
   ·split at h
    ·rename_i g hg;have s:=Zji hg;unfold Zcb at h;obtain⟨_,t1,f,h⟩:=Ze h;obtain⟨_,t2,l,h⟩:=Ze h;obtain⟨ns,t3,m,h⟩:=Ze h;obtain⟨a,t4,n,h⟩:=Ze h;cases h
     have l3 := Zme (fun x => Zx x = true) (fun t z d q => by
       obtain⟨k1,e1,e2⟩:=Zjs q d;exact⟨k1,by rw[e2];exact d.hd.2.1 e1⟩) _ _ _ _ (by simp) (ZeC l (ZeC f d.tail)) m
     obtain⟨b1,b2,b3⟩:=Zta i c l3.1 n;refine⟨GT.grp g _ a (by assumption) l3.2 b1,?_,b3⟩;rw[Zmn rfl 4 Om];have b2':deep+1+(brk a 1+Zbz a)<=20:=b2;show deep+(1+(brk a 1+Zbz a))<=20;omega
    ·split at h
     ·rename_i o r;have u:=Zji r;obtain⟨b1,b2,b3,b4⟩:=ZEI (show o<5 by assumption) d.tail h;refine⟨b1,?_,b4⟩;rw[Zmn b3 4 Om,b2];omega
     ·obtain⟨p,t1,f,h⟩:=Ze h;cases h;obtain⟨k1,k,e⟩:=Zr3 d f;simp only at k e;refine⟨?_,?_,k1⟩
      ·show GT (Zbg p);rw[e];exact GT.sel _ _ k
      ·show deep+nd (Zbg p) 4<=20;rw[e];exact c
theorem ZzH{lv:Nat}{t:Tok}{p:Nat×Nat}(a:lv<=2)(h:LS.opAt lv t=some p):Zz (nd0 p.1 p.2)=lv+1/\(p=(6,0)∨(p.1=4/\p.2<4)):=by
 unfold LS.opAt at h;split at h
 ·split at h
  ·cases h;subst_vars;decide
  ·cases h
 ·split at h
  ·subst_vars
   split at h
   ·cases h;decide
   ·split at h
    ·cases h;decide
    ·cases h
  ·obtain rfl:lv=2:=by omega
   split at h
   ·cases h;decide
   ·split at h
    ·cases h;decide
    ·cases h
theorem Zmq{lv:Nat}{p:Nat×Nat}{a b:Tr}(f:Zz (nd0 p.1 p.2)=lv+1)(c:p=(6,0)∨(p.1=4/\p.2<4))(ga:GT a)(gb:GT b):GT (.node 0 0 (nd0 p.1 p.2) a b)/\nd (.node 0 0 (nd0 p.1 p.2) a b) (lv+1)=max (nd a (lv+1)) (nd b (lv+2)):=by
 refine⟨?_,?_⟩
 ·rcases c with rfl|⟨c,d⟩
  ·exact GT.or a b ga gb
  ·obtain⟨x,y⟩:=p;simp only at c d;subst c;exact GT.bin _ _ _ d ga gb
 ·have e:¬p.1<=2/\¬p.1=3/\¬p.1=5:=by
   rcases c with rfl|⟨c,d⟩
   ·decide
   ·omega
  show brk (.node 0 0 (nd0 p.1 p.2) a b) (lv+1)+(if p.1<=2 then 1 else if p.1=3 then 1+(brk a 4+Zbz a)else if p.1=5 then 1+(brk a 1+Zbz a)else max (brk a (Zz (nd0 p.1 p.2))+Zbz a) (brk b (Zz (nd0 p.1 p.2)+1)+Zbz b))=_;rw[if_neg e.1,if_neg e.2.1,if_neg e.2.2,f]
  have:brk (.node 0 0 (nd0 p.1 p.2) a b) (lv+1)=0:=by
   show(if Zz (nd0 p.1 p.2)<lv+1 then 1 else 0)=0;rw[f,if_neg Om]
  rw[this,Ycf];rfl
theorem Zg2:∀(n:Nat) (m:Bool) (lv:Nat) (a:Tr) (ts:List Tok) (deep:Nat) (z:Tr×List Tok),deep<=20->Zbk ts->(m=false->lv<=3)->(m=true->lv<=2/\GT a/\deep+nd a (lv+1)<=20)->Zs n m lv a ts deep=.ok z->GT z.1/\deep+nd z.1 (lv+1)<=20/\Zbk z.2
 | 0,_,_,_,_,_,_,_,_,_,_,h=>by cases h
 | n + 1, false, lv, a, ts, deep, z, e, f, c, _, h => by
   have c:=c rfl;rw[Zs]at h;split at h
   · subst_vars
     unfold Zb9 at h;split at h
     · split at h
       · cases h
       · exact Zw7 (fun lv t d z c hd f j=>Zg2 n false lv .nil t d z hd f (fun _=>c) (fun h=>by cases h) j) f Om h
     · cases h
   · rename_i o
     obtain⟨b,t1,g,i⟩:=Ze h;obtain⟨g1,g2,g3⟩:=Zg2 n false (lv+1) .nil ts deep _ e f (fun _=>by omega) (fun h=>by cases h) g;simp only at g1 g2 g3;have:=Zze b (lv+1);exact Zg2 n true lv b t1 deep z e g3 (fun h=>by cases h) (fun _=>⟨by omega,g1,by omega⟩) i
 | n + 1, true, lv, a, ts, deep, z, e, f, _, k, h => by
   obtain⟨c,ga,gn⟩:=k rfl;rw[Zs]at h;split at h
   · cases h;simp_all
   · rename_i p l
     obtain⟨b,t1,g,i⟩:=Ze h;obtain⟨g1,g2,g3⟩:=Zg2 n false (lv+1) .nil ts.tail deep _ e f.tail (fun _=>by omega) (fun h=>by cases h) g;simp only at g1 g2 g3;obtain⟨e1,e2⟩:=ZzH c l;obtain⟨e3,e4⟩:=Zmq e1 e2 ga g1;refine Zg2 n _ _ _ _ _ z e g3 (fun h=>by cases h) (fun _=>⟨c,e3,?_⟩) i;have g4:deep+nd b (lv+2)<=20:=g2;omega
def hdS(S:List Sh):Sh:=S.headD (0,[])
def isS(s:LB)(x:Sh):Bool:=(x.1 == 2 || x.1 == 4) && x.2 == s
def opSh(lv:Nat)(x:Sh):Option (Nat×Nat):=LS.opAt lv ⟨x.1,x.2,0⟩
theorem Zc9(s:LB)(t:Tok):isT s t=isS s (sh t):=rfl
theorem Zrq(lv:Nat)(t:Tok):LS.opAt lv t=opSh lv (sh t):=rfl
theorem ZlH(ts:List Tok):sh (hd ts)=hdS (ts.map sh):=by cases ts <;> rfl
theorem ZbB{ts:List Tok}{x:Sh}{S:List Sh}(h:ts.map sh=x::S):sh (hd ts)=x/\ts.tail.map sh=S/\ts.length=S.length+1:=by
 cases ts with
 | nil=>cases h
 | cons t r=>
  rw[Ybb]at h;injection h with h1 h2;exact⟨h1,h2,by rw[<-h2,Yak];rfl⟩
theorem ZeE{ts:List Tok}{s:LB}{x:Sh}{S:List Sh}(h:ts.map sh=x::S)(a:isS s x=true):Zq s ts=.ok ((),ts.tail):=by
 unfold Zq;rw[Zc9,(ZbB h).1,if_pos a]
theorem Zju{ts:List Tok}{k:Nat}{x:LB}{S:List Sh}(h:ts.map sh=(k,x)::S):ZH k ts=.ok (x,ts.tail):=by
 have a:=(ZbB h).1;unfold ZH;rw[show(hd _).jk=k from congrArg Prod.fst a,if_pos rfl,show(hd _).txt=x from congrArg Prod.snd a]
theorem Zm6 (x : List Sh) : ∀ L : List (List Sh), sepT (x :: L) = x ++ L.flatMap fun y => (4, [44]) :: y
  | []=>by simp[sepT]
  | y :: L => by
    show x++(4,[44])::sepT (y::L)=_;rw[Zm6 y L];rfl
theorem Zse{α:Type}(g:α->List Sh)(hg:∀a,1<=(g a).length):∀l:List α,l.length<=(sepT (l.map g)).length
 | []=>Yag _
 | a :: l => by
   rw[Ybb,Zm6,Yab,Yaj];have c:=hg a
   have : ∀ m : List _, m.length <= ((m.map g).flatMap fun y => ((4, [44])) :: y).length := by
     intro m
     induction m with
     | nil=>simp
     | cons b m ih=>simp_all;omega
   have:=this l;omega
theorem Zmf{α:Type}(item:List Tok->Out α)(close:LB)(g:α->List Sh)(ok:α->Prop)
  (j:∀a,ok a->∀ts S,ts.map sh=g a++S->∃r,r.map sh=S/\item ts=.ok (a,r))
  (m:∀a,ok a->∀S,isS close (hdS (g a++S))=false) (d:isS close (4,[44])=false) :
  ∀(l acc:List α) (n:Nat) (ts:List Tok) (S:List Sh),(∀a∈l,ok a)->l.length<n->
   ts.map sh=(if acc.isEmpty then sepT (l.map g)else (l.map g).flatMap fun y=>(4,[44])::y)++(4,close)::S->∃r,r.map sh=S/\ZS item close n acc ts=.ok (acc++l,r)
 | [], acc, n, ts, S, _, o, h => by
   obtain⟨n,rfl⟩:∃k,n=k+1:=⟨n - 1,by omega⟩
   have t:ts.map sh=(4,close)::S:=by rw[h];cases acc <;> rfl
   obtain⟨f,i,_⟩:=ZbB t;refine⟨ts.tail,i,?_⟩;rw[ZS,Zc9,f,if_pos (by simp[isS]),Yca]
 | a :: l, acc, n, ts, S, e, o, h => by
   obtain⟨n,rfl⟩:∃k,n=k+1:=⟨n - 1,by omega⟩
   have p:=e a (Yay ..);have u:=fun x v=>e x (Yam _ v);have q:l.length<n:=by simp at o;omega
   have w:(acc++[a]).isEmpty=false:=by cases acc <;> rfl
   have fin : ∀ t1 : List Tok, t1.map sh = g a ++ (((l.map g).flatMap fun y => (4, [44]) :: y) ++ (4, close) :: S) -> ∃ r, r.map sh = S /\ (bnd (item t1) fun a r => ZS item close n (acc ++ [a]) r) = .ok (acc ++ a :: l, r) := by
     intro t1 s;obtain⟨r1,e1,e2⟩:=j a p t1 _ s;obtain⟨r,e3,e4⟩:=Zmf item close g ok j m d l (acc++[a]) n r1 S u q (by simp_all);refine⟨r,e3,?_⟩;rw[e2];show ZS item close n (acc++[a]) r1=_;rw[e4,Yan];rfl
   cases c:acc.isEmpty with
   | true=>
     rw[c,if_pos rfl,Ybb,Zm6,Yan]at h;obtain⟨r,e1,e2⟩:=fin _ h;refine⟨r,e1,?_⟩;rw[ZS,Zc9,ZlH,h,m a p,if_neg Ycv,c];exact e2
   | false=>
     rw[c,if_neg Ycv,Ybb,Ycd,Yby,Yby,Yan]at h;obtain⟨f,i,_⟩:=ZbB h;obtain⟨r,e1,e2⟩:=fin _ i;refine⟨r,e1,?_⟩;rw[ZS,Zc9,f,d,if_neg Ycv,c,if_neg Ycv,ZeE h (by rfl)];exact e2
theorem Zva(c:Cnd)(_:Zfj c)(ts:List Tok)(S:List Sh)(h:ts.map sh=Zeo c++S):∃r,r.map sh=S/\ZV ts=.ok (c,r):=by
 obtain⟨n,v,b⟩:=c;have a:ts.map _=(2,n)::(4,if b then [33,61] else [61])::(3,v)::S:=h;obtain⟨_,d,_⟩:=ZbB a;obtain⟨e,f,_⟩:=ZbB d;obtain⟨_,g,_⟩:=ZbB f;refine⟨ts.tail.tail.tail,g,?_⟩;unfold ZV;rw[Zju a];show(bnd (Zdc ts.tail) fun m r=>bnd (ZH 3 r) fun b r=>.ok ((n,b,m),r))=_
 have i:Zdc ts.tail=.ok (b,ts.tail.tail):=by
  unfold Zdc;cases b with
  | true=>rw[Zc9,e,if_pos (by rfl)]
  | false=>rw[Zc9,e,if_neg Dc,ZeE d (by rfl)];rfl
 rw[i];show(bnd (ZH 3 ts.tail.tail) fun b_1 r=>.ok ((n,b_1,b),r))=_;rw[Zju f];rfl
theorem ZjL{x:LB}(h:Zx x=true)(c:UInt8)(a:Zp c=false):x≠[c]:=by
 rintro rfl;unfold Zx at h
 simp_all
theorem Zsc(a:Nd)(h:Ze3 a.name a.ku)(ts:List Tok){S:List Sh}(g:ts.map sh=Zea a++S)(k:isS [123] (hdS S)=false):∃r,r.map sh=S/\selP ts=.ok (⟨1,0,0,a.name,a.ku,[]⟩,r):=by
 obtain⟨g1,g2,g3,g4,g5,g6⟩:=h;unfold Zea at g;have d:ts.map _=(2,a.name)::((if a.ku=[] then [] else (4,[123])::(sepT _++[(4,[125])]))++S):=g;obtain⟨i,e,_⟩:=ZbB d;have p:(hd _).jk=2:=congrArg Prod.fst i;have l:(hd _).txt=a.name:=congrArg Prod.snd i
 have j:ZdQ ts=.ok (a.name,ts.tail):=by
  unfold ZdQ;rw[if_neg,Zju d];unfold Zgp;rw[l,g2,g3,Zc9,Zc9,i];simp[isS,g4,g5]
 unfold selP;rw[j];show ∃r,r.map sh=S/\(if isT [123] (hd ts.tail)then bnd (ZS ZV [125] ts.tail.length [] ts.tail.tail) fun cs r=>.ok ((⟨1,0,0,a.name,cs,[]⟩:Nd),r)else .ok ((⟨1,0,0,a.name,[],[]⟩:Nd),ts.tail))=(.ok ((⟨1,0,0,a.name,a.ku,[]⟩:Nd),r):Out Nd)
 by_cases f:a.ku=[]
 ·rw[if_pos f,Ycu]at e;refine⟨ts.tail,e,?_⟩;rw[Zc9,ZlH,e,k,if_neg Ycv,f]
 ·rw[if_neg f,Yby,Yan]at e;obtain⟨m,q,n⟩:=ZbB e;have o:=Zse Zeo (fun _=>by show 1<=3;omega) a.ku;rw[Yab]at n
  obtain ⟨r, e1, e2⟩ := Zmf ZV [125] Zeo Zfj Zva (fun c f S => by
    have:c.1≠[125]:=ZjL f.1 125 Dc;simp[Zeo,hdS,isS,this]) (by rfl) a.ku [] ts.tail.length ts.tail.tail S g6 Om (by assumption)
  refine⟨r,e1,?_⟩;rw[Zc9,m,if_pos (by rfl),e2];rfl
def stops(lv:Nat)(S:List Sh):Prop:=isS [123] (hdS S)=false/\∀k,lv<=k->k<=2->opSh k (hdS S)=none
theorem ZCS (lv : Nat) : stops lv [(0, [])] := ⟨rfl, fun k _ h => by
  obtain rfl|rfl|rfl:k=0∨k=1∨k=2:=by omega
  all_goals rfl⟩
theorem ZgK {n : Nat} {ts : List Tok} {deep : Nat} (a : ZdD (hd ts) = true) (c : deep < 20) : Zs (n + 1) false 3 .nil ts deep = Zbw (fun lv ts d => Zs n false lv .nil ts d) ts (deep + 1) := by
  rw[Zs,if_pos rfl,Zb9,if_pos a,if_neg Om]
theorem Zhf{ts:List Tok}{x:Sh}{S:List Sh}(h:ts.map sh=x::S)(a:ZdD ⟨x.1,x.2,0⟩=true):ZdD (hd ts)=true:=by
 have e:ZdD (hd ts)=ZdD ⟨(sh _).1,(sh _).2,0⟩:=rfl;rw[e,(ZbB h).1];exact a
theorem ZnA{x:LB}(a:x≠wOr)(c:x≠wBy):ZdD ⟨2,x,0⟩=true:=by
 simp[ZdD,isT,a,c]
theorem ZlP{rec:Nat->List Tok->Nat->Out Tr}{ts:List Tok}{deep:Nat}{x:LB}{S:List Sh}(h:ts.map sh=(2,x)::S)(c:Zx x=true):Zbw rec ts deep=match idx x ZW with
  | some g=>Zcb rec g ts.tail deep
  | none => match idx x Z0 with
    | some o=>winP o ts.tail
    | none=>bnd (selP ts) fun p r=>.ok (Zbg p,r):=by
 have a:=(ZbB h).1;have e:(hd _).jk=2:=congrArg Prod.fst a;have d:(hd _).txt=x:=congrArg Prod.snd a;have n1:=ZjL c 45 Dc;have n2:=ZjL c 40 Dc;unfold Zbw;rw[if_neg Om,Zc9,a,if_neg (by simp[isS,n1]),Zc9,a,if_neg (by simp[isS,n2]),d];rfl
section
variable {α β:Type}
end
section
variable {x y:List Sh} {t l r:Tr} {lv:Nat}
def Rc(x:List Sh)(t:Tr)(lv:Nat):Prop:=∀n ts rs deep,ts.map sh=x++rs->stops (lv+1) rs->5*x.length+4<=n+lv->(∃r n',r.map sh=rs/\n<=n'+5*x.length/\1<=n'/\Zs n false lv .nil ts deep=Zs n' true lv t r deep)∨∃p,Zs n false lv .nil ts deep=.error (3,p)
structure Prd (t:Tr):Prop where
 gt:GT t
 nd:nd t 1<=20
theorem ZmU{q:LB}{t:Tr}(h:ZD q=.ok t):Prd t/\Zf t≠0:=by
 unfold ZD at h;split at h
 ·cases h
 split at h
 ·cases h
 rename_i t' r d;split at h
 ·split at h
  ·cases h
  ·rename_i a;cases h;obtain⟨g1,g2,_⟩:=Zg2 _ false 0 .nil _ 0 _ Om (ZqC q _ _) (fun _=>by omega) (fun h=>by cases h) d;simp only at g1 g2;exact⟨⟨g1,by simp_all⟩,a⟩
 ·cases h
variable {c:UInt8}
end
end Go.Proofs.YtcdgkkfipdoeeaaGreatDoor
namespace Go.Proofs.YtcdgkkfipdoeeaaGreatDoor.LS
open Go Go.RowKit
end Go.Proofs.YtcdgkkfipdoeeaaGreatDoor.LS
namespace Go.Proofs.YtcdgkkfipdoeeaaGreatDoor
open Go.RowKit LS Go.Proofs.Tryz
def Zd6(c n:Int):Int:=if c<0 then -((c+1).tmod n)else c % n
theorem ZmM(c n:Int)(a:1<=n):0<=Zd6 c n/\Zd6 c n<n:=by
 unfold Zd6;split
 ·rw[<-Int.neg_tmod,Int.tmod_eq_emod_of_nonneg Om];exact⟨Int.emod_nonneg _ Om,Int.emod_lt_of_pos _ Om⟩
 ·exact⟨Int.emod_nonneg _ Om,Int.emod_lt_of_pos _ Om⟩
theorem ZAC(c n:Int)(f : -9223372036854775808<=c)(g:c<=9223372036854775807)(a:1<=n)(i:n<=9223372036854775807)(w:World) :
  CP 9 #[Vi c,Vi n] w fun e u=>e=.returned (Vi (Zd6 c n))/\u=w:=by
 have d:=ZmM c n a;have j:¬n=0:=by omega
 go_enter func9,ntmps9;by_cases h:c<0
 ·have e:Zd6 c n=-((c+1).tmod n):=by unfold Zd6;rw[if_pos h]
  rw[e]at d;rw[e];go_wp2;go_ret;exact⟨rfl,rfl⟩
 ·have e:Zd6 c n=c % n:=by unfold Zd6;rw[if_neg h]
  rw[e]at d;rw[e];go_wp2;go_ret;exact⟨rfl,rfl⟩
def ZdL:List (Nat×Nat)->List Value
 | []=>[]
 | x::l=>.int .i64 x.1::.int .i64 x.2::ZdL l
theorem Zwd(l m:List (Nat×Nat)):ZdL (l++m)=ZdL l++ZdL m:=by
 induction l with
 | nil=>rfl
 | cons a l ih=>simp[ZdL,ih]
theorem Zfm(l:List (Nat×Nat))(j:Nat)(a:j<l.length):(ZdL l)[j*2]?=some (Vi l[j].1)/\(ZdL l)[j*2+1]?=some (Vi l[j].2):=by
 induction l generalizing j with
 | nil=>simp at a
 | cons r l ih=>
  cases j with
  | zero=>exact⟨rfl,rfl⟩
  | succ j=>
   have h:=ih j (by simp_all);rw[show(j+1)*2=j*2+1+1 by omega]
   assumption
def kl(k:Nat):UInt8:=match k with
 | 1=>115
 | 2=>118
 | 3=>114
 | _=>45
theorem BAt.setkM{w:World}{a:Nat}{c:List Value}{t:TypeId}(h:BAt w a c t)(i:Nat)(v:Value):BAt (w.setCell ⟨a,i,none⟩ v) a (c.set i v) t:=by
 unfold BAt at h ⊢;simp only[World.setCell,Ybn,h,if_true,Ybf];show some (Obj.cells (c.toArray.setIfInBounds i v) t (0,0))=_;rw[Yc4]
theorem BAt.ownGrownR{w w':World}{a:Nat}{c:List Value}{t:TypeId}(h:BAt w a c t){base:Nat}{e:TypeId}{sz:Nat}{v:Value}{n:Nat}{xs:List Value}(d:w.ownsRow base e sz v n xs)(hg:w.grownBy w' v.ownBlock)(f:t≠e):BAt w' a c t:=
 (hg.block a h.lt (Zcx d h f)).trans h
theorem Zsy(s:BA)(p n:Nat):bl (s.extract p (p+n))=sub (bl s) p n:=by
 rw[Zfh,Yc8];unfold sub;congr 1;omega
structure MKeep (w w':World) (mb:Nat) (st:Value):Prop where
 os:w'.os=w.os
 tape:w'.tape=w.tape
 output:w'.output=w.output
 size:w.heap.size<=w'.heap.size
 block:∀k,k<w.heap.size->k≠mb->some k≠st.ownBlock->w'.heap[k]?=w.heap[k]?
theorem MKeep.below{w0 w w':World}{mb:Nat}{st:Value}(h:MKeep w w' mb st)(a:BW w0 w)(f:w0.heap.size<=mb)(d:∀k,st.ownBlock=some k->w0.heap.size<=k):BW w0 w':=
 ⟨h.os.trans a.os, h.tape.trans a.tape, h.output.trans a.output, Yah a.size h.size, fun k c => by
   rw[h.block k (Yaw c a.size) Om (fun e=>by have:=d k e.symm;omega)];exact a.block k c⟩
def pmC(c0 c1 c2 c3 al:Value)(tm:Int)(st sl gr:Value):List Value:=[c0,c1,c2,c3,al,Vi tm,st,sl,gr]
theorem Tryz.infoIVal:(Tryz.prog.info? 196).map (fun i=>(i.zero,i.size,i.bytes))=some (some .nilIface,1,16):=by kernel_rfl
structure PSt (w:World) (base mb:Nat) (c0 c1 c2 c3 al:Value) (tm:Int) (sl gr:Value) (sa:Option Addr) (sn sc:Nat) (vs:List Value):Prop where
 box:BAt w mb (pmC c0 c1 c2 c3 al tm (.slice sa sn sc) sl gr) 305
 own:w.ownsRow base 196 1 (.slice sa sn sc) sn vs
 len:vs.length=sn
theorem PSt.below{w w':World}{base mb:Nat}{c0 c1 c2 c3 al:Value}{tm:Int}{sl gr:Value}{sa:Option Addr}{sn sc:Nat}{vs:List Value}(h:PSt w base mb c0 c1 c2 c3 al tm sl gr sa sn sc vs)(a:BW w w'):PSt w' base mb c0 c1 c2 c3 al tm sl gr sa sn sc vs:=⟨h.box.below a,Zn h.own a,h.len⟩
theorem ZzZ{w:World}{base:Nat}{e:TypeId}{sz g n cap:Nat}{xs:List Value}(h:w.ownsRow base e sz (.slice (some ⟨g,0,none⟩) n cap) n xs)(k:Nat)(c:k<=n):w.ownsRow base e sz (.slice (some ⟨g,0,none⟩) k cap) k (xs.take (k*sz)):=by
 obtain⟨d,a⟩:=h;refine⟨Ya7▸d▸Yc3 (Yc6 _ c),?_⟩;rcases a with ⟨a,_⟩|⟨g',cap',cur,f,i,hg,o,j,l,m⟩
 ·cases a
 ·injection f with hv1 hv2 hv3;injection hv1 with hv1;injection hv1 with hv1 _ _;subst hv1 hv3;refine .inr ⟨_,_,cur,rfl,i,hg,by omega,j,l,?_⟩;rw[<-m,List.take_take,Yc3 (Yc6 _ c)]
theorem Zfz(w:World){base mb:Nat}{c0 c1 c2 c3 al:Value}(tm:Int){sl gr:Value}{sa:Option Addr}(n:Nat){sc:Nat}{vs:List Value}(v:Value)(h:PSt w base mb c0 c1 c2 c3 al tm sl gr sa (n+1) sc (vs++[v]))(d:n<=64) :
  CP 96 #[Vp mb] w fun e u=>e=.returned v/\Hid (PSt u base mb c0 c1 c2 c3 al tm sl gr sa n sc vs)/\Hid (w.grownBy u (some mb)):=by
 have c:vs.length=n:=by have:=h.len;rw[Yab]at this;simpa using this
 obtain⟨g,cp,a⟩:=ZF h.own Om;injection a with hv1 hv2 hv3;subst hv1 hv3;have m6:w.cell? _=some _:=h.box.cell 6;have mf:=h.box.frozen 6;have k0:=Zi h.own n v (by rw[Yb3 Om,c];simp);have p:=h.box.lt;have q:=Z1 h.own
 have f:n+1<=sc:=by
  rcases h.own.2 with ⟨i,_⟩|⟨g',cap',cur,a,_,_,d,_⟩
  ·cases i
  ·injection a with _ _ hv3;omega
 have j:Hid (PSt _ _ _ _ _ _ _ _ _ _ _ _ n _ _):=hid ⟨h.box.setkM 6 _,by
  have l : (w.setCell ⟨mb, 6, none⟩ (.slice (some ⟨g, 0, none⟩) n sc)).ownsRow _ _ 1 _ _ _ := ZdA h.own (fun k m => Go.Deep.blk_setCell_other _ _ _ _ (by
    rintro rfl;exact Zcx h.own h.box Dc m.symm))
  have:=ZzZ l n Om;rw[Yej,Yec Om,Ya5 Om]at this;exact this,c⟩
 have o:Hid (w.grownBy (w.setCell ⟨mb,6,none⟩ (.slice (some ⟨g,0,none⟩) n sc)) (some mb)):=hid (ZA (ZbM w _) (.inl rfl) _);go_enter func96,ntmps96;go_wp2;go_ret;exact⟨rfl,j,o⟩
theorem PSt.app{w wr a:World}{base mb:Nat}{c0 c1 c2 c3 al:Value}{tm:Int}{sl gr:Value}{sa:Option Addr}{sn sc:Nat}{vs:List Value}(h:PSt wr base mb c0 c1 c2 c3 al tm sl gr sa sn sc vs)(c:BW w wr){v:Value}{ga nc:Nat}
  (hg:wr.grownBy a (Value.slice sa sn sc).ownBlock) (f:a.ownsRow base 196 1 (.slice (some ⟨ga,0,none⟩) (sn+1) nc) (sn+1) (vs++[v])) :
  BAt a mb (pmC c0 c1 c2 c3 al tm (.slice sa sn sc) sl gr) 305/\PSt (a.setCell ⟨mb,6,none⟩ (.slice (some ⟨ga,0,none⟩) (sn+1) nc)) base mb c0 c1 c2 c3 al tm sl gr (some ⟨ga,0,none⟩) (sn+1) nc (vs++[v])/\MKeep w (a.setCell ⟨mb,6,none⟩ (.slice (some ⟨ga,0,none⟩) (sn+1) nc)) mb (.slice sa sn sc):=by
 have d:=h.box.ownGrownR h.own hg Dc
 refine ⟨d, ⟨d.setkM 6 _, ZdA f (fun k i => Go.Deep.blk_setCell_other _ _ _ _ (by
     rintro rfl;exact Zcx f d Dc i.symm)),by rw[Yab,h.len];rfl⟩,?_⟩
 have e:a.grownBy (a.setCell ⟨mb,6,none⟩ (.slice (some ⟨ga,0,none⟩) (sn+1) nc)) (some mb):=ZA (ZbM _ _) (.inl rfl) _;refine⟨e.os.trans (hg.os.trans c.os),e.tape.trans (hg.tape.trans c.tape),e.output.trans (hg.output.trans c.output),Yah c.size (Yah hg.size e.size),fun k g j l=>?_⟩;rw[Go.Deep.blk_setCell_other _ _ _ _ j,hg.block k (Yaw g c.size) l];exact c.block k g
theorem Zgm{w:World}{base mb:Nat}{c0 c1 c2 c3 al:Value}(tm:Int){sl gr:Value}{sa:Option Addr}(sn:Nat){sc:Nat}{vs:List Value}(ty:TypeId)(u:Value)(h:PSt w base mb c0 c1 c2 c3 al tm sl gr sa sn sc vs)(C:sn<=64)(B:base<=w.heap.size) :
  CP 162 #[Vp mb,.iface ty u] w fun e g=>e=.returned (.tuple #[])/\Hid (∃ga nc,PSt g base mb c0 c1 c2 c3 al tm sl gr (some ⟨ga,0,none⟩) (sn+1) nc (vs++[.iface ty u]))/\Hid (MKeep w g mb (.slice sa sn sc)):=by
 obtain⟨i0,x,i,j,k⟩:=info_parts Tryz.infoIVal;have z:=hid h;have f:=h.own;have m6:w.cell? _=some _:=h.box.cell 6;have l:=h.box.lt;have m:Hid (∀o,PSt (w.alloc o) base mb c0 c1 c2 c3 al tm sl gr sa sn sc vs):=hid (fun o=>z.below Zbal);go_enter func162,ntmps162
 go_wp2_with (at_builtin;refine wpList_append_own _ rfl (.tmp 8) (.tmp 10) 303 rfl base 196 i0 .nilIface 1 16 underlying303 x i j k rfl Dc _ _ _ rfl (f.alloc _) ⟨w.heap.size,0,none⟩ 1 1 [.iface ty u] rfl rfl ?c1 ?c2 ?c3 ?c4 ?c5 ?_)
 (try case c1=>exact cell_one_new _ _ _)
 case c2=>first|rfl|(intro u n;simp at n;subst n;rfl)
 case c3=>unfold maxLen;omega
 case c4=>omega
 case c5=>first|omega|(simp;omega)
 intro v' A a d _;obtain⟨g3,cp3,p⟩:=ZF a Om;subst p;obtain⟨q,r,s⟩:=(m.out _).app (w:=w) Zbal (by exact d) a;have c:=hid q;have t:=hid r;have v:=hid s;have m6:A.cell? _=some _:=c.cell 6;have mf:=c.frozen 6;have l:=c.lt;go_wp2;exact bodyPost_end (results_none rfl _ _ _) rfl ⟨rfl,hid ⟨_,_,t⟩,v⟩
open Go.ChangeMaps (setBlock)
structure MapI (w:World) (x:Nat) (gs:List (Nat×Value)) (es:Array MapEntry) (clock:Nat):Prop where
 heap:w.heap[x]?=some (.map es clock)
 stm:MapKept.Stamped es clock
 kv:es.toList.map (fun e=>(e.key,e.val))=gs.map (fun g=>(Value.int .i64 g.1,g.2))
 sz:∀g∈gs,g.1<16
theorem wf16{j:Nat}(h:j<16):(Lit.int .i64 (j:Int)).wf=true:=by
 rcases(by omega:j=0∨j=1∨j=2∨j=3∨j=4∨j=5∨j=6∨j=7∨j=8∨j=9∨j=10∨j=11∨j=12∨j=13∨j=14∨j=15)with rfl|rfl|rfl|rfl|rfl|rfl|rfl|rfl|rfl|rfl|rfl|rfl|rfl|rfl|rfl|rfl <;> rfl
theorem MapI.len{w:World}{x:Nat}{gs:List (Nat×Value)}{es:Array MapEntry}{clock:Nat}(h:MapI w x gs es clock):es.size=gs.length:=by
 have:=congrArg List.length h.kv
 simp_all
theorem MapI.at{w:World}{x:Nat}{gs:List (Nat×Value)}{es:Array MapEntry}{clock:Nat}(h:MapI w x gs es clock){j:Nat}{e:MapEntry}(c:es.toList[j]?=some e):∃d:j<gs.length,e.key=Vi gs[j].1/\e.val=gs[j].2:=by
 have f:(es.toList.map (fun e=>(e.key,e.val)))[j]?=(gs.map (fun g=>(Value.int .i64 g.1,g.2)))[j]?:=by rw[h.kv]
 rw[Ya2,c,Ya2]at f
 have d:j<gs.length:=by
  rcases Yav j gs.length with a|a
  ·exact a
  ·simp_all
 simp_all
theorem MapI.keys {w : World} {x : Nat} {gs : List (Nat × Value)} {es : Array MapEntry} {clock : Nat} (h : MapI w x gs es clock) : ∀ e ∈ es.toList, ∃ l, keyOf prog 3 e.key = some l := fun e a => by
  obtain⟨j,c⟩:=Yd9 a;obtain⟨f,d,_⟩:=h.at c;rw[d];exact⟨_,Maps.keyOf_int_mk underlying3 (wf16 (h.sz _ (List.getElem_mem _)))⟩
theorem MapI.moved{w w':World}{x:Nat}{gs:List (Nat×Value)}{es:Array MapEntry}{clock:Nat}(h:MapI w x gs es clock)(a:w'.heap[x]?=w.heap[x]?):MapI w' x gs es clock:=⟨a.trans h.heap,h.stm,h.kv,h.sz⟩
theorem ZpW{a b:Nat}(h:Value.int .i64 (a:Int)=Vi (b:Int)):a=b:=by
 simp_all;omega
theorem MapI.find{w:World}{x:Nat}{gs:List (Nat×Value)}{es:Array MapEntry}{clock:Nat}(h:MapI w x gs es clock)(k:Nat)(u:k<16) :
  ((∀W:World,(Instr.findKey 3 (Vi k) es.toList).run prog W=.ok none W)/\(∀g∈gs,g.1≠k)/\∀e∈es.toList,e.key≠.int .i64 k)∨
  ∃j,∃p:j<gs.length,gs[j].1=k/\(∀i (l:i<gs.length),i≠j->gs[i].1≠k)/\∃e,es.toList[j]?=some e/\e.key=Vi k/\e.val=gs[j].2/\∀W:World,(Instr.findKey 3 (Vi k) es.toList).run prog W=.ok (some (j,e.val)) W:=by
 have K:=Maps.int_keyed (P:=prog) (k:=3) underlying3;have d:=Maps.keyOf_int_mk (P:=prog) (k:=3) underlying3 (wf16 u);rcases K.find w d es.toList h.keys with ⟨v,a⟩|⟨j,e,v,a,o⟩
 ·left
  refine⟨fun W=>?_,fun g hg z=>?_,a⟩
  ·rcases K.find W d es.toList h.keys with ⟨k1,_⟩|⟨j,e,k1,k2,k3⟩
   ·exact k1
   ·exact absurd k3 (a e (Ycq k2))
  ·obtain⟨i,l,rfl⟩:=List.mem_iff_getElem.1 hg;have c:i<es.toList.length:=by rw[Ybl,h.len];exact l
   obtain⟨_,e1,_⟩:=h.at (List.getElem?_eq_getElem c)
   simp_all
 ·right
  obtain⟨p,e1,e2⟩:=h.at a;rw[o]at e1;have q:gs[j].1=k:=(ZpW e1).symm;have m:=h.stm.2.2
  have f : ∀ i (l : i < gs.length), i ≠ j -> gs[i].1 ≠ k := fun i l A z => by
    have c:i<es.toList.length:=by rw[Ybl,h.len];exact l
    have n:j<es.toList.length:=(Ycm.1 a).1;obtain⟨_,f1,_⟩:=h.at (List.getElem?_eq_getElem c)
    have e3:es.toList[j]=e:=Yax ((List.getElem?_eq_getElem n).symm.trans a);rw[List.Nodup,Ybx,List.pairwise_iff_getElem]at m;rcases Yav i j with r|r
    · exact m i j c n r (by simp_all)
    · exact m j i n c Om (by simp_all)
  refine⟨j,p,q,f,e,a,o,e2,fun W=>?_⟩;rcases K.find W d es.toList h.keys with ⟨_,k2⟩|⟨j',e',k1,k2,k3⟩
  ·exact absurd o (k2 e (Ycq a))
  ·obtain⟨s,f1,f2⟩:=h.at k2;rw[k3]at f1
   have:j'=j:=by
    refine Yb6 fun t=>f j' s t ?_;exact(ZpW f1).symm
   simp_all
def getI(gs:List (Nat×Value))(k:Nat):Option Value:=(gs.find? fun g=>g.1=k).map (·.2)
theorem Zwv{gs:List (Nat×Value)}{k:Nat}(h:∀g∈gs,g.1≠k):getI gs k=none:=by
 unfold getI
 simp_all;omega
theorem ZpC:∀ {gs:List (Nat×Value)} {k j:Nat} (a:j<gs.length),gs[j].1=k->(∀i (d:i<gs.length),i≠j->gs[i].1≠k)->getI gs k=some gs[j].2
 | [],k,j,a,_,_=>absurd a (Ya1 _)
 | g::gs,k,0,a,h,_=>by unfold getI;simp_all
 | g :: gs, k, j + 1, a, h, c => by
   have f:g.1≠k:=c 0 (by simp) Om;have:=ZpC (j:=j) (by simpa using a) h (fun i d e=>c (i+1) (by simp_all) Om);unfold getI at this ⊢
   simp_all
theorem ZyF{w:World}{x:Nat}{gs:List (Nat×Value)}{es:Array MapEntry}{clock:Nat}(h:MapI w x gs es clock){k:Nat}(f:k<16){v:Value}(a:getI gs k=some v)(W:World)(l:W.heap[x]?=w.heap[x]?) :
  (Instr.lookup 302 (.map (some x)) (Vi k) false).run prog W=.ok v W:=by
 have K:=Maps.int_keyed (k:=3) underlying3;have c:=Maps.keyOf_int_mk (k:=3) underlying3 (wf16 f);rcases h.find k f with ⟨_,d,_⟩|⟨j,o,m,d,e,p,q,n,g⟩
 ·rw[Zwv d]at a;cases a
 ·rw[ZpC _ m d]at a;have i:=Yax a;rw[n,i]at g;simp[Instr.lookup,run_underlying _,Ybt (l.trans h.heap),K.check W _ c,g W,Result.andThen]
theorem Zwu{gs:List (Nat×Value)}(k:Nat)(v:Value)(h:∀g∈gs,g.1≠k)(i:Nat):getI (gs++[(k,v)]) i=if k=i then some v else getI gs i:=by
 unfold getI;rw[List.find?_append];by_cases e:k=i
 ·subst e;rw[if_pos rfl,Yc2.2 (fun g hg=>by simpa using h g hg)];simp
 simp_all
theorem ZpD:∀ {gs:List (Nat×Value)} {k j:Nat} (a:j<gs.length) (v:Value),gs[j].1=k->(∀i (d:i<gs.length),i≠j->gs[i].1≠k)->∀i,getI (gs.set j (k,v)) i=if k=i then some v else getI gs i
 | [],k,j,a,_,_,_,_=>absurd a (Ya1 _)
 | g :: gs, k, 0, a, v, h, _, i => by
   have h:g.1=k:=h;unfold getI;split<;>simp_all
 | g :: gs, k, j + 1, a, v, h, c, i => by
   have l:g.1≠k:=c 0 (by simp) Om;have ih:=ZpD (j:=j) _ v h (fun i d f=>c (i+1) (by simp_all) Om) i;unfold getI at ih ⊢;rw[Ydx];by_cases e:g.1=i
   · simp_all;omega
   simp_all
theorem ZDF{w:World}{x:Nat}{gs:List (Nat×Value)}{es:Array MapEntry}{clock:Nat}(h:MapI w x gs es clock){k:Nat}(n:k<16)(v:Value) :
  ∃(es':Array MapEntry) (cl':Nat) (gs':List (Nat×Value)),(∀W:World,W.heap[x]?=w.heap[x]?->(Instr.mapUpdate 302 (.map (some x)) (Vi k) v).run prog W=.ok () (setBlock W x (.map es' cl')))/\(∀W:World,x<W.heap.size->MapI (setBlock W x (.map es' cl')) x gs' es' cl')/\∀i,getI gs' i=if k=i then some v else getI gs i:=by
 have K:=Maps.int_keyed (k:=3) underlying3;have c:=Maps.keyOf_int_mk (k:=3) underlying3 (wf16 n);rcases h.find k n with ⟨g,l,f⟩|⟨j,u,r,l,e,f,s,A,g⟩
 ·refine⟨es.push ⟨.int _ k,v,clock⟩,clock+1,gs++[(k,v)],fun W d=>?_,fun W m=>⟨by simp[setBlock,m],MapKept.stamped_push h.stm f,?_,fun z a=>?_⟩,Zwu k v l⟩
  ·simp[Instr.mapUpdate,run_underlying _,Ybt (d.trans h.heap),K.check W _ c,g W,Ych _ (d.trans h.heap),Result.andThen,setBlock]
  ·rw[Yeu,Yaq,Yaq,h.kv];rfl
  ·rcases Yar.1 a with a|a
   ·exact h.sz z a
   simp_all
 ·have o:((es[j]?).map (·.key)).getD (Vi k)=Vi k:=Yb2▸f▸s;refine⟨es.modify j fun e=>{ e with key:=Vi k,val:=v },clock,gs.set j _,fun W d=>?_,fun W m=>⟨by simp[setBlock,m],MapKept.stamped_modify h.stm j _ (fun _ _=>rfl) (fun e' _ t=>?_),?_,fun z a=>?_⟩,ZpD _ v r l⟩
  ·simp[Instr.mapUpdate,run_underlying _,Ybt (d.trans h.heap),K.check W _ c,g W,o,K.stays W c,Ych _ (d.trans h.heap),Result.andThen,setBlock]
  ·simp_all
  ·rw[Yd8,<-h.kv];apply Ycs;intro i;rw[Ya2,Array.toList_modify,List.getElem?_modify,Ya0];by_cases p:j=i
   ·subst p;have q:j<es.size:=by have:=(Ycm.1 f).1;simpa using this
    simp[q]
   simp_all
  ·rcases Yck a with a|a
   ·exact h.sz z a
   simp_all
theorem ZuC{w:World}{x:Nat}{es:Array MapEntry}{clock:Nat}(h:w.heap[x]?=some (.map es clock))(T:TypeId):(Builtin.clear_ #[302] T #[.map (some x)]).run prog w=.ok (.tuple #[]) (setBlock w x (.map #[] clock)):=by
 simp[Builtin.clear_,run_underlying _,Ybt h,Ych _ h,Result.andThen,setBlock]
end Go.Proofs.YtcdgkkfipdoeeaaGreatDoor

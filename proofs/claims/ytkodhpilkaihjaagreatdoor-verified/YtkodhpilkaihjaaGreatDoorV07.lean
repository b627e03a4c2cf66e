/- Parts. -/
import Derived.Test.YtkodhpilkaihjaaGreatDoorV06
set_option linter.all false
set_option maxRecDepth 100000
set_option maxHeartbeats 16000000
namespace Go.Proofs.YtkodhpilkaihjaaGreatDoor
open Go.RowKit LS Go.Proofs.Tryz
variable {s:BA}{op:Bool}{i:Int}{l:List (LB)}{ts:List Tok}{xs:List Value}{L M b d deep g lv n:Nat}{rec:Nat->List Tok->Nat->Out Tr}{nd:Nd}{R:Out Tr}{t u:Tok}{a:Tr}{p:UInt8->Bool}{pv v:Value}{w w':World}
section
theorem ZlM{w:LB} : ∀ {l:List (LB)} {g:Nat},idx w l=some g->l.getD g []=w
 | [],_,h=>by cases h
 | x :: l, g, h => by
   unfold idx at h;by_cases a:x=w
   · rw[if_pos a]at h
     injection h with h;subst h;exact a
   · rw[if_neg a]at h
     cases b:idx w l with
     | none=>rw[b]at h;cases h
     | some j=>
       rw[b]at h;injection h with h;subst h;exact ZlM (l:=l) b
theorem Zt2{p:PTok}(h:Zdf p t)(d:Zdt t)(c:t.jj<=5):ZhO p=ZdD t:=by
 have m1:=ZdP h d c (s:=⟨#[45]⟩) Dc Dc;have m2:=ZdP h d c (s:=⟨#[40]⟩) Dc Dc;have f:p.tx.toList=t.txt:=by rw[Zbt];exact h.2.2.1
 unfold ZhO ZdD;have a:=Ze0 c;have b:=h.1;by_cases k1:t.jj=1
 ·have e:((p.kd:Int) == 0)=true:=by rw[b,a.2.2.2.1.2 k1];rfl
  rw[e,k1];simp
 ·have e:((p.kd:Int) == 0)=false:=by
   rw[beq_eq_false_iff_ne];intro e;exact k1 (a.2.2.2.1.1 Om)
  rw[e,beq_eq_false_iff_ne.2 k1];by_cases k2:t.jj=2
  ·have e2:((p.kd:Int) == 1)=true:=by rw[b,a.2.1.2 k2];rfl
   have z1:isT [45] t=false:=by rw[<-show ZY p ⟨#[45]⟩=isT [45] t from m1];unfold ZY;rw[b,a.2.1.2 k2];rfl
   have z2:isT [40] t=false:=by rw[<-show ZY p ⟨#[40]⟩=isT [40] t from m2];unfold ZY;rw[b,a.2.1.2 k2];rfl
   rw[e2,z1,z2,k2,f];unfold isT;rw[k2];simp[wOr,wBy]
  ·have e2:((p.kd:Int) == 1)=false:=by
    rw[beq_eq_false_iff_ne];intro e;exact k2 (a.2.1.1 Om)
   rw[e2,beq_eq_false_iff_ne.2 k2,show ZY p ⟨#[45]⟩=isT [45] t from m1,show ZY p ⟨#[40]⟩=isT [40] t from m2];simp
theorem Zw6(h:(hd ts).jj=1):Zbw rec ts d=.ok (Zbg ⟨0,0,numV (hd ts).txt,[],[],[]⟩,ts.tail):=if_pos h
theorem Zw5 {rec : Nat -> List Tok -> Nat -> Out Tr}   (h : ¬ (hd ts).jj = 1) (b : isT [45] (hd ts) = true) : Zbw rec ts d = bnd (rec 3 ts.tail d) fun a r => .ok (.node 0 0 (nd0 3 0) a .nil, r) := by
  unfold Zbw;rw[if_neg h,if_pos b]
theorem Zxa(h:¬(hd ts).jj=1)(a:¬isT [45] (hd ts)=true)(b:isT [40] (hd ts)=true):Zbw rec ts d=Zbu rec ts d:=by
 unfold Zbw;rw[if_neg h,if_neg a,if_pos b]
theorem Zw3(h:¬(hd ts).jj=1)(a:¬isT [45] (hd ts)=true)(b:¬isT [40] (hd ts)=true)(c:idx (hd ts).txt ZW=some g):Zbw rec ts d=Zcb rec g ts.tail d:=by
 unfold Zbw;rw[if_neg h,if_neg a,if_neg b,c]
theorem Zw9{o:Nat}(h:¬(hd ts).jj=1)(a:¬isT [45] (hd ts)=true)(b:¬isT [40] (hd ts)=true)(c:idx (hd ts).txt ZW=none)(e:idx (hd ts).txt Z0=some o):Zbw rec ts d=winP o ts.tail:=by
 unfold Zbw;rw[if_neg h,if_neg a,if_neg b,c];simp only;rw[e]
theorem Zw8 {rec : Nat -> List Tok -> Nat -> Out Tr}   (h : ¬ (hd ts).jj = 1) (a : ¬ isT [45] (hd ts) = true) (b : ¬ isT [40] (hd ts) = true) (c : idx (hd ts).txt ZW = none) (e : idx (hd ts).txt Z0 = none) : Zbw rec ts d = bnd (selP ts) fun p r => .ok (Zbg p, r) := by
  unfold Zbw;rw[if_neg h,if_neg a,if_neg b,c];simp only;rw[e]
theorem ZCJ(h:ZdD t=true):¬(t.jj=0∨t.jj=5):=by
 rintro(a|a)
 all_goals
  unfold ZdD isT at h;rw[a]at h;simp at h
theorem Zv2{m:Nat}
  (c4:ZeO 123 (fun d=>[Vi (d+1:Nat)]) (rec 3) (fun ts=>ts.length<m))
  (b6:ZeO 186 (fun d=>[Vi (d+1:Nat)]) (Zbu rec) (fun ts=>ts.length<=m)) :
  ZeO 123 (fun d=>[Vi (d+1:Nat)]) (Zb9 rec) (fun ts=>ts.length<=m):=by
 intro w R k ts deep h c5 b7;have H:Hid (RK w R k ts):=h;have HD:Hid (deep<=20):=c5;have HM:Hid (ts.length<=m):=b7;have c8:R.b<w.heap.size:=(Yae.1 h.rd.cells).1;clear h b7;go_enter func123,ntmps123
 go_wp2_with fail
 refine(Zee H.out).mono ?_;rintro e y ⟨⟨kd,at_,tx,tv⟩,rfl,P,a6⟩;have a7:Hid (w.grownBy y (some R.b)):=Zw a6;have b8:Hid (RK y R k ts):=H.below a6;clear a6
 go_upto_region 2 with fail
 refine ZP fun W2 a8=>?_;have a9:BW y W2:=by rw[a8];exact Zbal
 have I:Hid (BAt W2 y.heap.size [Vi kd,Vi at_,.string tx,Vi tv] 167):=hid (by rw[a8];exact Go.Deep.blk_alloc_new _ _);have b9:Hid (w.grownBy W2 (some R.b)):=Zj a7.out (Zw a9);have b0:Hid (RK W2 R k ts):=b8.below a9;have c9:R.b<y.heap.size:=by have:=a7.size;omega
 have z:=hid b0.wf.head;clear a8 a9 a7 b8;have t0:=I.cell 0;have t1:=I.cell 1;have t2:=I.cell 2;have t3:=I.cell 3;simp only[Zget]at t0 t1 t2 t3
 go_wp2_with fail
 refine(Zt1 ⟨kd,at_,tx,tv⟩ W2).mono ?_;rintro e w3 ⟨rfl,Z⟩;rw[Zt2 P.out z.1 z.2.2];have s:=hid (I.below Z);have Q:Hid (w.grownBy w3 (some R.b)):=Zj b9.out (Zw Z);have x:Hid (RK w3 R k ts):=b0.below Z;clear Z I b9 b0 t0 t1 t2 t3;cases A:ZdD (LS.hd ts)
 ·have b1:Hid (Zb9 rec ts deep=.error (2,(LS.hd ts).at_)):=hid (by unfold Zb9;rw[if_neg (by rw[A];decide)]);clear A
  go_wp2_with fail
  refine(Zfi x.out).mono ?_;rintro e wE ⟨v,rfl,HE,c0⟩;obtain⟨fa,rfl⟩:=HE.shape;have b2:Hid (w.grownBy wE (some R.b)):=Zj Q.out (Zw c0);clear c0;go_wp2;go_ret2;exact⟨_,_,rfl,Or.inl rfl,by rw[b1.out];exact HE,b2.out⟩
 ·have a0:Hid (¬((LS.hd ts).jj=0∨(LS.hd ts).jj=5)):=ZCJ A;by_cases N:deep=20
  ·have b1:Hid (Zb9 rec ts deep=.error (3,(LS.hd ts).at_)):=hid (by unfold Zb9;rw[if_pos A,if_pos N]);subst N;have t1:=s.cell 1;simp only[Zget]at t1;have d0:=x.dp;clear A
   go_wp2_with fail
   refine(ZkT _ _).mono ?_;rintro e wE ⟨rfl,b3⟩;have HE:Hid (Z9 wE R (3,(LS.hd ts).at_) (.iface 115 (Vp w3.heap.size))):=hid (Or.inr ⟨rfl,w3.heap.size,rfl,by rw[b3];refine(Go.Deep.blk_alloc_new _ _).trans ?_;rw[show(at_:Int)=((LS.hd ts).at_:Int) from congrArg _ P.2.1]⟩);have b2:Hid (w.grownBy wE (some R.b)):=hid (by rw[b3];exact ZbR Q.out _);clear b3;go_wp2;go_ret2;exact⟨_,_,rfl,Or.inl rfl,by rw[b1.out];exact HE,b2.out⟩
  ·have c7:deep<=19:=by omega
   have J:Hid (Zb9 rec ts deep=Zbw rec ts (deep+1)):=hid (by unfold Zb9;rw[if_pos A,if_neg N]);obtain⟨rc0,rc1,rfz,rcx⟩:=x.rd.all;have d1:=x.lt;have d2:=x.len;clear rcx A N;have t0:=s.cell 0;have t1:=s.cell 1;have t2:=s.cell 2;have t3:=s.cell 3;simp only[Zget]at t0 t1 t2 t3;by_cases B:(LS.hd ts).jj=1
   ·have c1:kd=0:=by have:=P.1;rw[B]at this;exact this
    subst c1;have c6:Hid ((tv:Int)=numV (LS.hd ts).txt):=P.2.2.2 B;have j:Hid (Zb9 rec ts deep=.ok (Zbg ⟨0,0,numV (LS.hd ts).txt,[],[],[]⟩,ts.tail)):=hid (by rw[J.out,Zw6 B]);clear B
    go_upto_region 8 with fail
    refine ZP fun l c=>?_;have C:Hid (RK l R (k+1) ts.tail):=hid (by rw[c];exact x.step a0.out);have D:Hid (w.grownBy l (some R.b)):=hid (by rw[c];exact ZA Q.out (Or.inl rfl) _);have S:Hid (BAt l y.heap.size [Vi (0:Nat),Vi at_,.string tx,Vi tv] 167):=hid (by rw[c];exact s.other (by show y.heap.size≠R.b;omega) _);clear c rc0 rc1 rfz t0 t1 t2 t3;have t3:=S.cell 3;simp only[Zget]at t3;go_wp2;go_ret2;exact⟨_,_,rfl,Or.inr ⟨_,_,rfl⟩,by rw[j.out];exact⟨rfl,⟨_,C.out⟩,Or.inl ⟨rfl,by rw[<-c6.out];rfl⟩⟩,D.out⟩
   ·have c1:((kd:Int) == 0)=false:=by
     rw[beq_eq_false_iff_ne];intro e;exact B ((Ze0 z.2.2).2.2.2.1.1 (by have:=P.1;simp only at this;omega))
    have E:Hid (¬(LS.hd ts).jj=1):=B;clear B
    go_wp2_with fail
    refine(Zf6 P.out z.1 z.2.2 ⟨#[45]⟩ Dc Dc w3).mono ?_;rintro e w4 ⟨rfl,a1⟩;have F:=hid (s.below a1);have a2:Hid (w.grownBy w4 (some R.b)):=Zj Q.out (Zw a1);have T:Hid (RK w4 R k ts):=x.below a1;clear a1 s Q x t0 t1 t2 t3 rc0 rc1 rfz;obtain⟨rc0,rc1,rfz,rcx⟩:=T.rd.all;have t0:=F.cell 0;have t1:=F.cell 1;have t2:=F.cell 2;have t3:=F.cell 3;simp only[Zget]at t0 t1 t2 t3;clear rcx;by_cases K:isT [45] (LS.hd ts)=true
    ·rw[show isT (bl ⟨#[45]⟩) (LS.hd ts)=true from K];have j:Hid (Zb9 rec ts deep=bnd (rec 3 ts.tail (deep+1)) fun a r=>.ok (.node 0 0 (nd0 3 0) a .nil,r)):=hid (by rw[J.out,Zw5 E.out K]);clear K
     go_upto_region 11 with fail
     refine ZP fun l c=>?_;have C:Hid (RK l R (k+1) ts.tail):=hid (by rw[c];exact T.step a0.out);have D:Hid (w.grownBy l (some R.b)):=hid (by rw[c];exact ZA a2.out (Or.inl rfl) _);clear c rc0 rc1 rfz t0 t1 t2 t3 T a2 F
     go_wp2_with fail
     refine(c4 l R (k+1) ts.tail (deep+1) C.out Om (by show ts.tail.length<m;have:=H.pos;have:=HM.out;rw[Yb4];omega)).mono ?_;rintro e O ⟨pv,v,rfl,n,f,i⟩;have q:Hid (w.grownBy O (some R.b)):=Zj D.out i;clear i;rcases n with rfl|⟨ty,u,rfl⟩
     all_goals
      go_wp2;go_ret2;refine⟨_,_,rfl,Or.inr ⟨_,_,rfl⟩,?_,q.out⟩;rw[j.out];cases c2:rec 3 ts.tail (deep+1)with
      | error er=>exact f.err c2
      | ok pr=>
       obtain⟨t,r3⟩:=pr;obtain⟨h1,h2,h3⟩:=f.good c2;exact⟨h1,h2,Or.inr (Or.inr (Or.inr (Or.inl ⟨rfl,_,rfl,h3⟩)))⟩
    ·rw[show isT (bl ⟨#[45]⟩) (LS.hd ts)=false from Yce.2 K];have a3:Hid (¬isT [45] (LS.hd ts)=true):=K;clear K
     go_wp2_with fail
     refine(Zf6 P.out z.1 z.2.2 ⟨#[40]⟩ Dc Dc w4).mono ?_;rintro e w5 ⟨rfl,a4⟩;have U:=hid (F.below a4);have L:Hid (w.grownBy w5 (some R.b)):=Zj a2.out (Zw a4);have G:Hid (RK w5 R k ts):=T.below a4;clear a4 F a2 T t0 t1 t2 t3 rc0 rc1 rfz;obtain⟨rc0,rc1,rfz,rcx⟩:=G.rd.all;have t2:=U.cell 2;simp only[Zget]at t2;clear rcx;by_cases M:isT [40] (LS.hd ts)=true
     ·rw[show isT (bl ⟨#[40]⟩) (LS.hd ts)=true from M];have j:Hid (Zb9 rec ts deep=Zbu rec ts (deep+1)):=hid (by rw[J.out,Zxa E.out a3.out M]);clear M
      go_wp2_with fail
      refine(b6 w5 R k ts (deep+1) G.out Om HM.out).mono ?_;rintro e O ⟨pv,v,rfl,n,f,i⟩;have q:Hid (w.grownBy O (some R.b)):=Zj L.out i;have V:Hid (Zhp pv):=n;clear i n;go_wp2;go_ret2;exact⟨_,_,rfl,V.out,by rw[j.out];exact f,q.out⟩
     ·rw[show isT (bl ⟨#[40]⟩) (LS.hd ts)=false from Yce.2 M];have Y:Hid (¬isT [40] (LS.hd ts)=true):=M;have a5:Hid (bl tx=(LS.hd ts).txt):=P.2.2.1;clear M
      go_wp2_with fail
      refine(ZpX tx _).mono ?_;rintro e wq ⟨rfl,rfl⟩;rw[a5.out];cases W:idx (LS.hd ts).txt ZW with
      | some g=>
       have j:Hid (Zb9 rec ts deep=Zcb rec g ts.tail (deep+1)):=hid (by rw[J.out,Zw3 E.out a3.out Y.out W]);have b4:Hid (bl tx=ZW.getD g []):=hid (by rw[ZlM W,a5.out]);rw[show(some g).isSome=true from rfl];clear W
       go_upto_region 17 with fail
       refine ZP fun l c=>?_;have C:Hid (RK l R (k+1) ts.tail):=hid (by rw[c];exact G.step a0.out);have D:Hid (w.grownBy l (some R.b)):=hid (by rw[c];exact ZA L.out (Or.inl rfl) _);have S:Hid (BAt l y.heap.size [Vi kd,Vi at_,.string tx,Vi tv] 167):=hid (by rw[c];exact U.other (by show y.heap.size≠R.b;omega) _);clear c rc0 rc1 rfz t2 G L U;have t2:=S.cell 2;simp only[Zget]at t2
       go_wp2_with fail
       refine(ZwJ b6 tx g b4.out l R (k+1) ts.tail (deep+1) C.out Om (by show ts.tail.length<=m;have:=HM.out;rw[Yb4];omega)).mono ?_;rintro e O ⟨pv,v,rfl,n,f,i⟩;have q:Hid (w.grownBy O (some R.b)):=Zj D.out i;have V:Hid (Zhp pv):=n;clear i n;go_wp2;go_ret2;exact⟨_,_,rfl,V.out,by rw[j.out];exact f,q.out⟩
      | none=>
       rw[show(none:Option Nat).isSome=false from rfl];have c3:Hid (idx (LS.hd ts).txt ZW=none):=W;clear W
       go_wp2_with fail
       refine(ZpZ tx _).mono ?_;rintro e wq ⟨rfl,rfl⟩;rw[a5.out];cases X:idx (LS.hd ts).txt Z0 with
       | some o=>
        have j:Hid (Zb9 rec ts deep=winP o ts.tail):=hid (by rw[J.out,Zw9 E.out a3.out Y.out c3.out X]);have b4:Hid (bl tx=Z0.getD o []):=hid (by rw[ZlM X,a5.out]);rw[show(some o).isSome=true from rfl];clear X
        go_upto_region 20 with fail
        refine ZP fun l c=>?_;have C:Hid (RK l R (k+1) ts.tail):=hid (by rw[c];exact G.step a0.out);have D:Hid (w.grownBy l (some R.b)):=hid (by rw[c];exact ZA L.out (Or.inl rfl) _);have S:Hid (BAt l y.heap.size [Vi kd,Vi at_,.string tx,Vi tv] 167):=hid (by rw[c];exact U.other (by show y.heap.size≠R.b;omega) _);clear c rc0 rc1 rfz t2 G L U;have t2:=S.cell 2;simp only[Zget]at t2
        go_wp2_with fail
        refine(ZEK C.out tx o b4.out).mono ?_;rintro e O ⟨pv,v,rfl,n,f,i⟩;have q:Hid (w.grownBy O (some R.b)):=Zj D.out i;have V:Hid (Zhp pv):=n;clear i n;go_wp2;go_ret2;exact⟨_,_,rfl,V.out,by rw[j.out];exact f,q.out⟩
       | none=>
        rw[show(none:Option Nat).isSome=false from rfl];have j:Hid (Zb9 rec ts deep=bnd (selP ts) fun p r=>.ok (Zbg p,r)):=hid (by rw[J.out,Zw8 E.out a3.out Y.out c3.out X]);clear X
        go_wp2_with fail
        refine(Zsd G.out).mono ?_;rintro e O ⟨nm,la,ln,lc,v,rfl,f,i⟩;have q:Hid (w.grownBy O (some R.b)):=Zj L.out i;clear i;go_wp2;go_ret2;refine⟨_,_,rfl,Or.inr ⟨_,_,rfl⟩,?_,q.out⟩;rw[j.out];cases b5:selP ts with
        | error er=>exact f.err b5
        | ok pr=>
         obtain⟨nd,r3⟩:=pr;obtain⟨h1,h2,h3,h4⟩:=f.good b5;exact⟨h1,h2,Or.inr (Or.inl ⟨(Zkq b5).2.1,nm,la,ln,lc,rfl,h3,h4⟩)⟩
theorem ZzN{p:PTok}(h:Zdf p u)(d:Zdt u)(e:u.jj<=5)(f:lv<=2){kd op:Nat}(c:LS.opAt lv u=some (kd,op)):∃j,opOf p=some j/\j<=4/\Zdb j=lv/\opNo (nd0 kd op)=j/\(kd=4∨kd=6)/\¬(u.jj=0∨u.jj=5):=by
 have m0:ZdF p ⟨#[111,114]⟩=isT wOr u:=Znz h d e (s:=⟨#[111,114]⟩) Dc Dc;have m1:ZY p ⟨#[43]⟩=isT [43] u:=ZdP h d e (s:=⟨#[43]⟩) Dc Dc;have m2:ZY p ⟨#[45]⟩=isT [45] u:=ZdP h d e (s:=⟨#[45]⟩) Dc Dc;have m3:ZY p ⟨#[42]⟩=isT [42] u:=ZdP h d e (s:=⟨#[42]⟩) Dc Dc;have m4:ZY p ⟨#[47]⟩=isT [47] u:=ZdP h d e (s:=⟨#[47]⟩) Dc Dc;unfold opOf;rw[m0,m1,m2,m3,m4];unfold LS.opAt at c;rcases(by omega:lv=0∨lv=1∨lv=2)with rfl|rfl|rfl
 ·by_cases a:isT wOr u=true
  ·rw[if_pos rfl,if_pos a]at c;injection c with c;injection c with h1 h2;subst h1 h2;rw[if_pos a];exact⟨0,rfl,by decide,rfl,rfl,Or.inr rfl,Zd3 a⟩
  ·rw[if_pos rfl,if_neg a]at c;cases c
 ·rw[if_neg Dc,if_pos rfl]at c;by_cases a:isT [43] u=true
  ·rw[if_pos a]at c;injection c with c;injection c with h1 h2;subst h1 h2;rw[ZeV a (u:=wOr) Dc,if_neg Dc,if_pos a];exact⟨1,rfl,by decide,rfl,rfl,Or.inl rfl,Zd3 a⟩
  ·rw[if_neg a]at c;by_cases b:isT [45] u=true
   ·rw[if_pos b]at c;injection c with c;injection c with h1 h2;subst h1 h2;rw[ZeV b (u:=wOr) Dc,if_neg Dc,if_neg a,if_pos b];exact⟨2,rfl,by decide,rfl,rfl,Or.inl rfl,Zd3 b⟩
   ·rw[if_neg b]at c;cases c
 ·rw[if_neg Dc,if_neg Dc]at c;by_cases a:isT [42] u=true
  ·rw[if_pos a]at c;injection c with c;injection c with h1 h2;subst h1 h2;rw[ZeV a (u:=wOr) Dc,if_neg Dc,ZeV a (u:=[43]) Dc,if_neg Dc,ZeV a (u:=[45]) Dc,if_neg Dc,if_pos a];exact⟨3,rfl,by decide,rfl,rfl,Or.inl rfl,Zd3 a⟩
  ·rw[if_neg a]at c;by_cases b:isT [47] u=true
   ·rw[if_pos b]at c;injection c with c;injection c with h1 h2;subst h1 h2;rw[ZeV b (u:=wOr) Dc,if_neg Dc,ZeV b (u:=[43]) Dc,if_neg Dc,ZeV b (u:=[45]) Dc,if_neg Dc,if_neg a,if_pos b];exact⟨4,rfl,by decide,rfl,rfl,Or.inl rfl,Zd3 b⟩
   ·rw[if_neg b]at c;cases c
theorem ZzL{p:PTok}(h:Zdf p u)(a:Zdt u)(b:u.jj<=5)(d:lv<=2)(c:LS.opAt lv u=none):opOf p=none∨∃j,opOf p=some j/\j<=4/\Zdb j≠lv:=by
 have m0:ZdF p ⟨#[111,114]⟩=isT wOr u:=Znz h a b (s:=⟨#[111,114]⟩) Dc Dc;have m1:ZY p ⟨#[43]⟩=isT [43] u:=ZdP h a b (s:=⟨#[43]⟩) Dc Dc;have m2:ZY p ⟨#[45]⟩=isT [45] u:=ZdP h a b (s:=⟨#[45]⟩) Dc Dc;have m3:ZY p ⟨#[42]⟩=isT [42] u:=ZdP h a b (s:=⟨#[42]⟩) Dc Dc;have m4:ZY p ⟨#[47]⟩=isT [47] u:=ZdP h a b (s:=⟨#[47]⟩) Dc Dc;unfold opOf;rw[m0,m1,m2,m3,m4];unfold LS.opAt at c;generalize isT wOr u=b0 at *
 generalize isT [43] u=b1 at *
 generalize isT [45] u=b2 at *
 generalize isT [42] u=b3 at *
 generalize isT [47] u=b4 at *
 rcases (by omega : lv = 0 ∨ lv = 1 ∨ lv = 2) with rfl | rfl | rfl <;> cases b0 <;> cases b1 <;> cases b2 <;> cases b3 <;> cases b4 <;> first
   | exact Or.inl rfl
   | exact Or.inr ⟨0,rfl,by decide,by decide⟩
   | exact Or.inr ⟨1,rfl,by decide,by decide⟩
   | exact Or.inr ⟨2,rfl,by decide,by decide⟩
   | exact Or.inr ⟨3,rfl,by decide,by decide⟩
   | exact Or.inr ⟨4,rfl,by decide,by decide⟩
   | cases c
theorem ZAd    (h : lv ≠ 3) : Zs (n + 1) false lv .nil ts deep = bnd (Zs n false (lv + 1) .nil ts deep) fun a r => Zs n true lv a r deep := by
  show(if lv=3 then _ else _)=_;rw[if_neg h]
theorem ZAc    : Zs (n + 1) false 3 .nil ts deep = Zb9 (fun lv ts d => Zs n false lv .nil ts d) ts deep := by
  show(if 3=3 then _ else _)=_;rw[if_pos rfl]
theorem ZAg(h:LS.opAt lv (hd ts)=none):Zs (n+1) true lv a ts deep=.ok (a,ts):=by
 show(match LS.opAt lv (hd ts)with|none=>_|some p=>_)=_;rw[h]
theorem ZAe     {p : Nat × Nat} (h : LS.opAt lv (hd ts) = some p) : Zs (n + 1) true lv a ts deep = bnd (Zs n false (lv + 1) .nil ts.tail deep) fun b r => Zs n true lv (.node 0 0 (nd0 p.1 p.2) a b) r deep := by
  show(match LS.opAt lv (hd ts)with|none=>_|some p=>_)=_;rw[h]
def RP(lv n:Nat):Prop:=ZeO 68 (fun d=>[Vi lv,Vi (d+1:Nat)]) (fun ts d=>Zs n false lv .nil ts d) (fun ts=>10*ts.length+5<=n+lv)
def RF(n:Nat):Prop:=ZeO 123 (fun d=>[Vi (d+1:Nat)]) (fun ts d=>Zs n false 3 .nil ts d) (fun ts=>10*ts.length+2<=n)
theorem ZAh(f:RF n):RP 3 n:=by
 intro w R k ts deep h hd a;have j:Hid (CP 123 #[Vp R.b,Vi (deep+1:Nat)] w _):=f w R k ts deep h hd (by show 10*ts.length+2<=n;have m:10*ts.length+5<=n+3:=a;omega);clear h hd a f;go_enter func68,ntmps68
 go_wp2_with fail
 refine j.mono ?_;rintro e y ⟨pv,v,rfl,c,d,g⟩;have i:Hid (Zhp pv):=c;have l:Hid (w.grownBy y (some R.b)):=g;clear c g;go_wp2;go_ret2;exact⟨_,_,rfl,i.out,d,l.out⟩
theorem ZAj(Y:lv<=2)(hp:∀m,m<=n->RP (lv+1) m):RP lv (n+1):=by
 intro w R k ts deep h hd Z;have H:Hid (RK w R k ts):=h;have HD:Hid (deep<=20):=hd;have c3:10*ts.length+5<=n+1+lv:=Z;have c6:R.b<w.heap.size:=(Yae.1 h.rd.cells).1;have HC:Hid (∀m,m<=n->∀(w:World) (k:Nat) (ts:List Tok),RK w R k ts->10*ts.length+5<=m+(lv+1)->CP 68 #[Vp R.b,Vi ((lv:Int)+1),Vi ((deep:Int)+1)] w fun e o=>∃(pv v:Value),e=.returned (.tuple #[pv,v])/\Zhp pv/\Hid (Res R (fun o t=>Zh o t pv) o (Zs m false (lv+1) .nil ts deep) v)/\w.grownBy o (some R.b)):=hid (fun m hm w k ts h1 h2=>hp m hm w R k ts deep h1 hd h2);have h3:((lv:Int) == 3)=false:=by rw[beq_eq_false_iff_ne];omega
 obtain⟨PR,F⟩:∃PR,PR=Zs (n+1) false lv .nil ts deep:=⟨_,rfl⟩
 have G:Hid (PR=bnd (Zs n false (lv+1) .nil ts deep) fun a r=>Zs n true lv a r deep):=hid (by rw[F,ZAd Om]);show Calls _ _ _ _ (fun e o=>∃(pv v:Value),e=.returned (.tuple #[pv,v])/\Zhp pv/\Hid (Res R (fun o t=>Zh o t pv) o (Zs (n+1) false lv .nil ts deep) v)/\w.grownBy o (some R.b));rw[<-F];clear h hd Z hp F;go_enter func68,ntmps68
 go_wp2_with fail
 refine(HC.out n (Yac _) w k ts H.out Om).mono ?_;rintro e w1 ⟨pv,v,rfl,I,d,hg⟩;have J:Hid (w.grownBy w1 (some R.b)):=hg;clear hg;cases c:Zs n false (lv+1) .nil ts deep with
 | error er=>
  have K:=hid (d.err c);obtain⟨fa,rfl⟩:=K.shape;have L:Hid (PR=.error er):=hid (by rw[G.out,c];rfl);clear d c;go_wp2;go_ret2;exact⟨_,_,rfl,Or.inl rfl,by rw[L.out];exact K,J.out⟩
 | ok pr=>
  obtain⟨a0,r0⟩:=pr;obtain⟨rfl,⟨k1,a1⟩,hv⟩:=d.good c;have a2:Hid (RK w1 R k1 r0):=a1;have a3:Hid (Zh w1 a0 pv):=hv;have a4:Hid (Zs n true lv a0 r0 deep=PR):=hid (by rw[G.out,c];rfl);have c4:r0.length+1<=ts.length:=Zg1 n false (lv+1) .nil ts deep _ c;clear d c a1 hv G I;go_wp2
  go_loopg [8] r0.length (fun g v8 wr=>∃(a:Tr) (r:List Tok) (k2 m:Nat),g=r.length/\Hid (Zh wr a v8)/\Hid (RK wr R k2 r)/\Hid (10*r.length+5<=m/\m<=n/\Zs m true lv a r deep=PR)/\Hid (w.grownBy wr (some R.b)))
  case atStart=>exact⟨a0,r0,k1,n,rfl,a3,a2,⟨by omega,Yac _,a4.out⟩,J⟩
  case round=>
   obtain⟨a,r,k2,m,c7,HV,HK,M,HG⟩:=hrel;clear a3 a2 a4 J;obtain⟨m,rfl⟩:∃m',m=m'+1:=⟨m - 1,by have:=M.1;omega⟩
   obtain⟨ty,u,b5⟩:=Zh.shape HV.out;subst b5
   go_wp2_with fail
   refine(Zee HK.out).mono ?_;rintro e z ⟨⟨kd,at_,tx,tv⟩,rfl,ht,s⟩;have N:Hid (RK z R k2 r):=HK.below s;have a5:Hid (Zh z a (.iface ty u)):=HV.below s;have a6:Hid (w.grownBy z (some R.b)):=Zj HG.out (Zw s);have x:=hid N.wf.head;clear s HK HV HG
   go_wp2_with fail
   refine(ZzQ ⟨kd,at_,tx,tv⟩).mono ?_;rintro e w3 ⟨rfl,A⟩;have f:Hid (RK w3 R k2 r):=N.below A;have B:Hid (Zh w3 a (.iface ty u)):=a5.below A;have C:Hid (w.grownBy w3 (some R.b)):=Zj a6.out (Zw A);clear A N a5 a6;cases i:LS.opAt lv (LS.hd r)with
   | none=>
    have l:Hid (PR=.ok (a,r)):=hid (by rw[<-M.2.2,ZAg i]);rcases ZzL ht.out x.1 x.2.2 Y i with q|⟨j,q,O,b6⟩
    ·rw[q];clear i q;go_wp2;go_ret2;exact⟨_,_,rfl,Or.inr ⟨_,_,rfl⟩,by rw[l.out];exact⟨rfl,⟨_,f.out⟩,B.out⟩,C.out⟩
    ·rw[q];have b7:((Zdb j:Int) != lv)=true:=by rw[bne_iff_ne];omega
     rw[show(some j).getD 0=j from rfl,show(some j).isSome=true from rfl];clear i q
     go_wp2_with (go_at_call 125;refine(Zm0 j O).mono ?_;rintro e wq ⟨rfl,rfl⟩)
     go_ret2;exact⟨_,_,rfl,Or.inr ⟨_,_,rfl⟩,by rw[l.out];exact⟨rfl,⟨_,f.out⟩,B.out⟩,C.out⟩
   | some p=>
    obtain⟨j,q,O,b6,a7,P,D⟩:=ZzN ht.out x.1 x.2.2 Y i;have l:Hid ((bnd (Zs m false (lv+1) .nil r.tail deep) fun b r=>Zs m true lv (.node 0 0 (nd0 p.1 p.2) a b) r deep)=PR):=hid (by rw[<-M.2.2,ZAe i]);have a8:Hid (opNo (nd0 p.1 p.2)=j/\(p.1=4∨p.1=6)):=⟨a7,P⟩
    have b8:Hid (¬((LS.hd r).jj=0∨(LS.hd r).jj=5)):=D;have b7:((Zdb j:Int) != lv)=false:=by rw[bne_eq_false_iff_eq];omega
    rw[q,show(some j).getD 0=j from rfl,show(some j).isSome=true from rfl];obtain⟨rc0,rc1,rfz,rcx⟩:=f.rd.all;have c8:=f.lt;have c9:=f.len;have d0:=M.1;have d1:=M.2.1;clear i q a7 P D rcx
    go_upto_region 10 with (go_at_call 125;refine(Zm0 j O).mono ?_;rintro e wq ⟨rfl,rfl⟩)
    refine ZP fun V E=>?_;have Q:Hid (RK V R (k2+1) r.tail):=hid (by rw[E];exact f.step b8.out);have a9:Hid (w.grownBy V (some R.b)):=hid (by rw[E];exact ZA C.out (Or.inl rfl) _);have b0:Hid (Zh V a (.iface ty u)):=hid (by rw[E];exact B.read f.out (ZA (ZbM _ _) (Or.inl rfl) _));have c5:=f.pos;have W:=Q.pos;rw[Yb4]at W;clear E rc0 rc1 rfz f C B
    go_wp2_with fail
    refine(HC.out m Om V (k2+1) r.tail Q.out (by rw[Yb4];omega)).mono ?_;rintro e S ⟨pv,v,rfl,I,d,T⟩;have b1:Hid (w.grownBy S (some R.b)):=Zj a9.out T;have b9:Hid (Zh S a (.iface ty u)):=b0.read Q.out T;clear T a9 b0;cases c:Zs m false (lv+1) .nil r.tail deep with
    | error er=>
     have K:=hid (d.err c);obtain⟨fa,rfl⟩:=K.shape;have L:Hid (PR=.error er):=hid (by rw[<-l.out,c];rfl);clear d c;go_wp2;go_ret2;exact⟨_,_,rfl,Or.inl rfl,by rw[L.out];exact K,b1.out⟩
    | ok pr=>
     obtain⟨b,y⟩:=pr;obtain⟨rfl,⟨k9,b2⟩,U⟩:=d.good c;have c0:Hid (RK S R k9 y):=b2;have c1:Hid (Zh S b pv):=U;have c2:Hid (Zs m true lv (.node 0 0 (nd0 p.1 p.2) a b) y deep=PR):=hid (by rw[<-l.out,c];rfl);have X:=Zg1 m false (lv+1) .nil r.tail deep _ c;simp only[Yb4,Yde,if_false]at X;obtain⟨ty2,u2,b3⟩:=Zh.shape U;subst b3;have b4:Hid (Zh S (.node 0 0 (nd0 p.1 p.2) a b) (.iface 268 (.agg #[Vi j,.iface ty u,.iface ty2 u2]))):=hid (Or.inr (Or.inr (Or.inr (Or.inr (Or.inr ⟨a8.2,_,_,by rw[a8.1],b9.out,c1.out⟩)))));clear d c b2 U I l;go_wp2
     go_roundg y.length
     case measure=>omega
     case rel=>exact⟨_,y,k9,m,rfl,b4,c0,⟨by omega,by omega,c2.out⟩,b1⟩
theorem ZnQ:∀n,(∀lv,lv<=3->∀m,m<=n->RP lv m)/\(∀m,m<=n->RF m)
 | 0 => by
   constructor
   · intro lv g m c w R k ts deep _ _ a
     exact absurd (show 10*ts.length+5<=m+lv from a) Om
   · intro m c w R k ts deep _ _ a
     exact absurd (show 10*ts.length+2<=m from a) Om
 | n + 1 => by
   obtain⟨f,i⟩:=ZnQ n
   have p:RF (n+1):=by
     intro w R k ts deep h hd a;have q:10*ts.length+2<=n+1:=a;show Calls _ _ _ _ (fun e u=>∃(pv v:Value),e=.returned (.tuple #[pv,v])/\Zhp pv/\Hid (Res R (fun u t=>Zh u t pv) u (Zs (n+1) false 3 .nil ts deep) v)/\w.grownBy u (some R.b));rw[ZAc];refine Zv2 (rec:=fun lv ts d=>Zs n false lv .nil ts d) (m:=ts.length) ?_ (Zug ?_) w R k ts deep h hd (Yac _)
     · intro w R k ts2 deep h hd j
       exact i n (Yac _) w R k ts2 deep h hd (by show 10*ts2.length+2<=n;have l:ts2.length<ts.length:=j;omega)
     · intro w R k ts2 deep h hd j
       exact f 0 Om n (Yac _) w R k ts2 deep h hd (by show 10*ts2.length+5<=n+0;have l:ts2.length<ts.length:=j;omega)
   constructor
   · intro lv g m c
     by_cases o:m<=n
     · exact f lv g m o
     · obtain rfl:m=n+1:=by omega
       by_cases l:lv=3
       · subst l;exact ZAh p
       · exact ZAj Om (fun m c=>f (lv+1) Om m c)
   · intro m c
     by_cases o:m<=n
     · exact i m o
     · obtain rfl:m=n+1:=by omega
       exact p
theorem ZhB(v:Value)(w:World):(Instr.typeAssert (.iface 270 v) 106 270 true).run prog w=.ok (.tuple #[v,.bool true]) w:=by kernel_rfl
theorem ZkO(v:Value)(w:World):(Instr.typeAssert (.iface 270 v) 106 272 true).run prog w=.ok (.tuple #[.agg #[.nilIface],.bool false]) w:=by kernel_rfl
theorem ZkP(v:Value)(w:World):(Instr.typeAssert (.iface 270 v) 106 268 true).run prog w=.ok (.tuple #[.agg #[Vi 0,.nilIface,.nilIface],.bool false]) w:=by kernel_rfl
theorem ZkN(v:Value)(w:World):(Instr.typeAssert (.iface 270 v) 106 274 true).run prog w=.ok (.tuple #[.agg #[.string ByteArray.empty,S0,.nilIface],.bool false]) w:=by kernel_rfl
theorem ZkQ(v:Value)(w:World):(Instr.typeAssert (.iface 270 v) 106 283 true).run prog w=.ok (.tuple #[.agg #[.string ByteArray.empty,.string ByteArray.empty,S0,Vi 0],.bool false]) w:=by kernel_rfl
theorem ZiT(v:Value)(w:World):(Instr.typeAssert (.iface 270 v) 106 281 true).run prog w=.ok (.tuple #[.agg #[.string ByteArray.empty,S0],.bool false]) w:=by kernel_rfl
theorem ZhA(v:Value)(w:World):(Instr.typeAssert (.iface 272 v) 106 270 true).run prog w=.ok (.tuple #[.agg #[Vi 0],.bool false]) w:=by kernel_rfl
theorem Zhz(v:Value)(w:World):(Instr.typeAssert (.iface 272 v) 106 272 true).run prog w=.ok (.tuple #[v,.bool true]) w:=by kernel_rfl
theorem ZkL(v:Value)(w:World):(Instr.typeAssert (.iface 272 v) 106 268 true).run prog w=.ok (.tuple #[.agg #[Vi 0,.nilIface,.nilIface],.bool false]) w:=by kernel_rfl
theorem ZkK(v:Value)(w:World):(Instr.typeAssert (.iface 272 v) 106 274 true).run prog w=.ok (.tuple #[.agg #[.string ByteArray.empty,S0,.nilIface],.bool false]) w:=by kernel_rfl
theorem ZkM(v:Value)(w:World):(Instr.typeAssert (.iface 272 v) 106 283 true).run prog w=.ok (.tuple #[.agg #[.string ByteArray.empty,.string ByteArray.empty,S0,Vi 0],.bool false]) w:=by kernel_rfl
theorem ZiS(v:Value)(w:World):(Instr.typeAssert (.iface 272 v) 106 281 true).run prog w=.ok (.tuple #[.agg #[.string ByteArray.empty,S0],.bool false]) w:=by kernel_rfl
theorem ZgB(v:Value)(w:World):(Instr.typeAssert (.iface 268 v) 106 270 true).run prog w=.ok (.tuple #[.agg #[Vi 0],.bool false]) w:=by kernel_rfl
theorem ZgA(v:Value)(w:World):(Instr.typeAssert (.iface 268 v) 106 272 true).run prog w=.ok (.tuple #[.agg #[.nilIface],.bool false]) w:=by kernel_rfl
theorem ZgC(v:Value)(w:World):(Instr.typeAssert (.iface 268 v) 106 268 true).run prog w=.ok (.tuple #[v,.bool true]) w:=by kernel_rfl
theorem ZkR(v:Value)(w:World):(Instr.typeAssert (.iface 268 v) 106 274 true).run prog w=.ok (.tuple #[.agg #[.string ByteArray.empty,S0,.nilIface],.bool false]) w:=by kernel_rfl
theorem ZkS(v:Value)(w:World):(Instr.typeAssert (.iface 268 v) 106 283 true).run prog w=.ok (.tuple #[.agg #[.string ByteArray.empty,.string ByteArray.empty,S0,Vi 0],.bool false]) w:=by kernel_rfl
theorem ZiU(v:Value)(w:World):(Instr.typeAssert (.iface 268 v) 106 281 true).run prog w=.ok (.tuple #[.agg #[.string ByteArray.empty,S0],.bool false]) w:=by kernel_rfl
theorem Zhx(v:Value)(w:World):(Instr.typeAssert (.iface 274 v) 106 270 true).run prog w=.ok (.tuple #[.agg #[Vi 0],.bool false]) w:=by kernel_rfl
theorem Zhw(v:Value)(w:World):(Instr.typeAssert (.iface 274 v) 106 272 true).run prog w=.ok (.tuple #[.agg #[.nilIface],.bool false]) w:=by kernel_rfl
theorem Zhy(v:Value)(w:World):(Instr.typeAssert (.iface 274 v) 106 268 true).run prog w=.ok (.tuple #[.agg #[Vi 0,.nilIface,.nilIface],.bool false]) w:=by kernel_rfl
theorem Zhv(v:Value)(w:World):(Instr.typeAssert (.iface 274 v) 106 274 true).run prog w=.ok (.tuple #[v,.bool true]) w:=by kernel_rfl
theorem ZkJ(v:Value)(w:World):(Instr.typeAssert (.iface 274 v) 106 283 true).run prog w=.ok (.tuple #[.agg #[.string ByteArray.empty,.string ByteArray.empty,S0,Vi 0],.bool false]) w:=by kernel_rfl
theorem ZiR(v:Value)(w:World):(Instr.typeAssert (.iface 274 v) 106 281 true).run prog w=.ok (.tuple #[.agg #[.string ByteArray.empty,S0],.bool false]) w:=by kernel_rfl
theorem ZhJ(v:Value)(w:World):(Instr.typeAssert (.iface 283 v) 106 270 true).run prog w=.ok (.tuple #[.agg #[Vi 0],.bool false]) w:=by kernel_rfl
theorem ZhI(v:Value)(w:World):(Instr.typeAssert (.iface 283 v) 106 272 true).run prog w=.ok (.tuple #[.agg #[.nilIface],.bool false]) w:=by kernel_rfl
theorem ZhK(v:Value)(w:World):(Instr.typeAssert (.iface 283 v) 106 268 true).run prog w=.ok (.tuple #[.agg #[Vi 0,.nilIface,.nilIface],.bool false]) w:=by kernel_rfl
theorem ZhH(v:Value)(w:World):(Instr.typeAssert (.iface 283 v) 106 274 true).run prog w=.ok (.tuple #[.agg #[.string ByteArray.empty,S0,.nilIface],.bool false]) w:=by kernel_rfl
theorem ZhL(v:Value)(w:World):(Instr.typeAssert (.iface 283 v) 106 283 true).run prog w=.ok (.tuple #[v,.bool true]) w:=by kernel_rfl
theorem ZiV(v:Value)(w:World):(Instr.typeAssert (.iface 283 v) 106 281 true).run prog w=.ok (.tuple #[.agg #[.string ByteArray.empty,S0],.bool false]) w:=by kernel_rfl
theorem ZhE(v:Value)(w:World):(Instr.typeAssert (.iface 281 v) 106 270 true).run prog w=.ok (.tuple #[.agg #[Vi 0],.bool false]) w:=by kernel_rfl
theorem ZhD(v:Value)(w:World):(Instr.typeAssert (.iface 281 v) 106 272 true).run prog w=.ok (.tuple #[.agg #[.nilIface],.bool false]) w:=by kernel_rfl
theorem ZhF(v:Value)(w:World):(Instr.typeAssert (.iface 281 v) 106 268 true).run prog w=.ok (.tuple #[.agg #[Vi 0,.nilIface,.nilIface],.bool false]) w:=by kernel_rfl
theorem ZhC(v:Value)(w:World):(Instr.typeAssert (.iface 281 v) 106 274 true).run prog w=.ok (.tuple #[.agg #[.string ByteArray.empty,S0,.nilIface],.bool false]) w:=by kernel_rfl
theorem ZhG(v:Value)(w:World):(Instr.typeAssert (.iface 281 v) 106 283 true).run prog w=.ok (.tuple #[.agg #[.string ByteArray.empty,.string ByteArray.empty,S0,Vi 0],.bool false]) w:=by kernel_rfl
theorem ZgD(v:Value)(w:World):(Instr.typeAssert (.iface 281 v) 106 281 true).run prog w=.ok (.tuple #[v,.bool true]) w:=by kernel_rfl
attribute [local go_sem] ZhB ZkO ZkP ZkN ZkQ ZiT ZhA Zhz ZkL ZkK ZkM ZiS ZgB ZgA ZgC ZkR ZkS ZiU Zhx Zhw Zhy Zhv ZkJ ZiR ZhJ ZhI ZhK ZhH ZhL ZiV ZhE ZhD ZhF ZhC ZhG ZgD
def KR(tp:Addr)(t:Tr)(kd:Int)(err:Value):Prop:=(Zf t=0/\err=.iface 491 (.pointer (some tp)))∨(Zf t=1/\kd=0/\err=.nilIface)∨(Zf t=2/\kd=1/\err=.nilIface)
def Zgy(w:World)(tp:Addr):Prop:=w.cell? ⟨3,0,none⟩=some (.iface 491 (.pointer (some tp)))
theorem Zgy.below{tp:Addr}(h:Zgy w tp)(a:BW w w'):Zgy w' tp:=(a.cell (p:=⟨_,0,none⟩) (Yai _ _ h)).trans h
def KC(t:Tr):Prop:=∀(w:World) (v:Value) (tp:Addr),Zh w t v->Zgy w tp->
 CP 71 #[v] w fun e w'=>∃(kd:Int) (err:Value),e=.returned (.tuple #[Vi kd,err])/\Hid (KR tp t kd err)/\BW w w'
theorem ZED{t:Tr}(h:KC t)(w:World)(tp:Addr)(d:Zh w t v)(f:Zgy w tp) :
  CP 127 #[v] w fun e k=>∃err:Value,e=.returned err/\Hid ((Zf t=2/\err=.nilIface)∨(Zf t≠2/\err=.iface 491 (.pointer (some tp))))/\BW w k:=by
 have j:Hid (CP 71 #[v] w _):=h w v tp d f;have l:Hid (Zgy w tp):=f;obtain⟨ty,u,rfl⟩:=Zh.shape d;clear h d f;go_enter func127,ntmps127
 go_wp2_with fail
 refine j.mono ?_;rintro e y ⟨kd,err,rfl,c,g⟩;have i:Hid (BW w y):=g;have m:y.cell? ⟨3,0,none⟩=some (.iface 491 (.pointer (some tp))):=l.below g;clear g j;rcases c.out with ⟨a,rfl⟩|⟨a,rfl,rfl⟩|⟨a,rfl,rfl⟩
 ·have b:Hid (Zf t=0):=a;clear c a;go_wp2;go_ret;exact⟨_,rfl,Or.inr ⟨by rw[b.out];decide,rfl⟩,i.out⟩
 ·have b:Hid (Zf t=1):=a;clear c a;go_wp2;go_ret;exact⟨_,rfl,Or.inr ⟨by rw[b.out];decide,rfl⟩,i.out⟩
 ·have b:Hid (Zf t=2):=a;clear c a;go_wp2;go_ret;exact⟨_,rfl,Or.inl ⟨b.out,rfl⟩,i.out⟩
theorem Zxy{x y:Nat}{a:Nd}{l r:Tr}(h:a.jj=4∨a.jj=6):Zf (.node x y a l r)=if Zf l=0∨Zf r=0∨(a.jj=6/\Zf l+Zf r≠4)then 0 else if Zf l+Zf r=2 then 1 else 2:=by
 show(if a.jj=0 then _ else _)=_;rw[if_neg Om,if_neg Om,if_neg Om,if_neg Om]
theorem ZxB{x y:Nat}{a:Nd}{l r:Tr}(E:a.jj=4∨a.jj=6)(I:KC l)(J:KC r)(w:World){vl vr:Value}(tp:Addr)(p:Zh w l vl)(j:Zh w r vr)(D:Zgy w tp) :
  CP 128 #[.agg #[Vi (opNo a),vl,vr]] w fun e u=>∃(kd:Int) (err:Value),e=.returned (.tuple #[Vi kd,err])/\Hid (KR tp (.node x y a l r) kd err)/\BW w u:=by
 obtain⟨tyl,ul,rfl⟩:=Zh.shape p;obtain⟨tyr,ur,rfl⟩:=Zh.shape j;have q:=hid (Zxy (x:=x) (y:=y) (l:=l) (r:=r) E);have S:Hid (Zh w r (.iface tyr ur)):=j;have R:Hid (Zgy w tp):=D;obtain⟨o,n⟩:∃o,o=opNo a:=⟨_,rfl⟩
 have K:(a.jj=6/\((o:Int) == 0)=true)∨(a.jj=4/\((o:Int) == 0)=false):=by
  rcases E with h|h
  ·right
   refine⟨h,?_⟩;rw[beq_eq_false_iff_ne,n];unfold opNo;rw[if_neg Om];omega
  ·left
   refine⟨h,?_⟩;rw[n];unfold opNo;rw[if_pos h];rfl
 rw[<-n];have L:Hid (∀(W:World),BW w W->CP 71 #[.iface tyl ul] W fun e u=>∃(kd:Int) (err:Value),e=.returned (.tuple #[Vi kd,err])/\Hid (KR tp l kd err)/\BW W u):=hid (fun W s=>I W _ tp (p.below s) (D.below s));have M:Hid (∀(W:World),BW w W->CP 71 #[.iface tyr ur] W fun e u=>∃(kd:Int) (err:Value),e=.returned (.tuple #[Vi kd,err])/\Hid (KR tp r kd err)/\BW W u):=hid (fun W s=>J W _ tp (j.below s) (D.below s));clear p j D I J E n;go_enter func128,ntmps128
 go_upto_region 1 with fail
 refine ZP fun F t=>?_;have k:Hid (BW w F):=hid (by rw[t];exact Zbal);have f:Hid (BAt F w.heap.size [Vi o,.iface tyl ul,.iface tyr ur] 268):=hid (by rw[t];exact Go.Deep.blk_alloc_new _ _);clear t;have p0:=f.cell 0;have p1:=f.cell 1;have p2:=f.cell 2;simp only[Zget]at p0 p1 p2
 go_wp2_with fail
 refine(L.out F k.out).mono ?_;rintro e N ⟨kd,err,rfl,v,A⟩;have g:Hid (BW w N):=k.trans (A.mono k.size);have i:=hid (f.below A);clear A k f p0 p1 p2;have p0:=i.cell 0;have p1:=i.cell 1;have p2:=i.cell 2;simp only[Zget]at p0 p1 p2;rcases v.out with ⟨c,rfl⟩|⟨c,rfl,rfl⟩|⟨c,rfl,rfl⟩
 ·have G:Hid (Zf (.node x y a l r)=0):=hid (by rw[q.out,if_pos (Or.inl c)]);clear v c;go_wp2;go_ret2;exact⟨_,_,rfl,Or.inl ⟨G.out,rfl⟩,g.out⟩
 all_goals
  have O:=hid c;clear v c
  go_wp2_with fail
  refine(M.out N g.out).mono ?_;rintro e z ⟨kd2,err2,rfl,B,C⟩;have b:Hid (BW w z):=g.trans (C.mono g.size);have P:=hid (i.below C);have T:z.cell? ⟨3,0,none⟩=some (.iface 491 (.pointer (some tp))):=R.below b.out;clear C g i p0 p1 p2;have p0:=P.cell 0;simp only[Ycy]at p0;rcases B.out with ⟨d,rfl⟩|⟨d,rfl,rfl⟩|⟨d,rfl,rfl⟩
  ·have G:Hid (Zf (.node x y a l r)=0):=hid (by rw[q.out,if_pos (Or.inr (Or.inl d))]);clear B d;go_wp2;go_ret2;exact⟨_,_,rfl,Or.inl ⟨G.out,rfl⟩,b.out⟩
  all_goals
   have Q:=hid d;clear B d;rcases K with ⟨H,n⟩|⟨H,n⟩
   all_goals
    have m:=hid (show Zf (.node x y a l r)=_ by rw[q.out,O.out,Q.out,H]);clear H
    first
     | (go_wp2
        go_ret2;exact⟨_,_,rfl,by first|exact Or.inr (Or.inl ⟨by rw[m.out];rfl,rfl,rfl⟩)|exact Or.inr (Or.inr ⟨by rw[m.out];rfl,rfl,rfl⟩)|exact Or.inl ⟨by rw[m.out];rfl,rfl⟩,b.out⟩)
     | (go_wp2
        go_region
        all_goals
          go_wp2;go_ret2;exact⟨_,_,rfl,Or.inl ⟨by rw[m.out];rfl,rfl⟩,by exact⟨b.os,b.tape,b.output,b.size,b.block⟩⟩)
theorem Zl2:∀t:Tr,KC t
 | .nil=>fun _ _ _ h=>h.elim
 | .node x y a l r => by
   have d:=Zl2 l;have f:=Zl2 r;intro w v tp E j;rcases E with ⟨c,rfl⟩|⟨c,nm,la,ln,lc,rfl,_⟩|⟨c,F,nm,la,ln,lc,rfl,_⟩|⟨c,z,rfl,o⟩|⟨c,F,la,ln,lc,z,rfl,_,_,o⟩|⟨c,z1,z2,rfl,p,q⟩
   · have i:Hid (Zf (.node x y a l r)=1):=hid (by show(if a.jj=0 then _ else _)=_;rw[if_pos c])
     clear d f c j;go_enter func71,ntmps71;go_wp2;go_ret2;exact⟨_,_,rfl,Or.inr (Or.inl ⟨i.out,rfl,rfl⟩),belB⟩
   · have i:Hid (Zf (.node x y a l r)=2):=hid (by show(if a.jj=0 then _ else _)=_;rw[if_neg Om,if_pos (Or.inl c)])
     clear d f c j;go_enter func71,ntmps71;go_wp2;go_ret2;exact⟨_,_,rfl,Or.inr (Or.inr ⟨i.out,rfl,rfl⟩),belB⟩
   · have i:Hid (Zf (.node x y a l r)=2):=hid (by show(if a.jj=0 then _ else _)=_;rw[if_neg Om,if_pos (Or.inr c)])
     clear d f c j;go_enter func71,ntmps71;go_wp2;go_ret2;exact⟨_,_,rfl,Or.inr (Or.inr ⟨i.out,rfl,rfl⟩),belB⟩
   · have i:Hid (Zf (.node x y a l r)=Zf l):=hid (by show(if a.jj=0 then _ else _)=_;rw[if_neg Om,if_neg Om,if_pos c])
     obtain⟨ty,u,rfl⟩:=Zh.shape o;have s:Hid (∀W,BW w W->CP 71 #[.iface ty u] W fun e A=>∃(kd:Int) (err:Value),e=.returned (.tuple #[Vi kd,err])/\Hid (KR tp l kd err)/\BW W A):=hid (fun W b=>d W _ tp (o.below b) (j.below b));clear d f c j o;go_enter func71,ntmps71
     go_wp2_with fail
     refine Zm fun W b=>?_;have g:Hid (BW w W):=hid (by rw[b];exact belB);clear b;refine(s.out W g.out).mono ?_;rintro e B ⟨kd,err,rfl,k,m⟩;have n:Hid (BW w B):=g.trans (m.mono g.size);clear m;go_wp2;go_ret2;exact⟨_,_,rfl,by unfold KR;rw[i.out];exact k,n.out⟩
   · have i:Hid (Zf (.node x y a l r)=if Zf l=2 then 2 else 0):=hid (by show(if a.jj=0 then _ else _)=_;rw[if_neg Om,if_neg Om,if_neg Om,if_pos c])
     obtain⟨ty,u,rfl⟩:=Zh.shape o;have s:Hid (∀W,BW w W->CP 127 #[.iface ty u] W fun e A=>∃err:Value,e=.returned err/\Hid ((Zf l=2/\err=.nilIface)∨(Zf l≠2/\err=.iface 491 (.pointer (some tp))))/\BW W A):=hid (fun W b=>ZED d W tp (o.below b) (j.below b));clear d f c j o;go_enter func71,ntmps71
     go_wp2_with fail
     refine Zm fun W b=>?_;have g:Hid (BW w W):=hid (by rw[b];exact belB);clear b;refine(s.out W g.out).mono ?_;rintro e B ⟨err,rfl,k,m⟩;have n:Hid (BW w B):=g.trans (m.mono g.size);clear m;go_wp2;go_ret2;refine⟨_,_,rfl,?_,n.out⟩;rcases k.out with ⟨C,D⟩|⟨C,D⟩
     · exact Or.inr (Or.inr ⟨by rw[i.out,if_pos C],rfl,D⟩)
     · exact Or.inl ⟨by rw[i.out,if_neg C],D⟩
   · obtain⟨ty,u,rfl⟩:=Zh.shape p
     obtain⟨ty2,u2,rfl⟩:=Zh.shape q;have s:Hid (∀W,BW w W->CP 128 #[.agg #[Vi (opNo a),.iface ty u,.iface ty2 u2]] W fun e A=>∃(kd:Int) (err:Value),e=.returned (.tuple #[Vi kd,err])/\Hid (KR tp (.node x y a l r) kd err)/\BW W A):=hid (fun W b=>ZxB c d f W tp (p.below b) (q.below b) (j.below b));clear d f c j p q;go_enter func71,ntmps71
     go_wp2_with fail
     refine Zm fun W b=>?_;have g:Hid (BW w W):=hid (by rw[b];exact belB);clear b;refine(s.out W g.out).mono ?_;rintro e B ⟨kd,err,rfl,k,m⟩;have n:Hid (BW w B):=g.trans (m.mono g.size);clear m;go_wp2;go_ret2;exact⟨_,_,rfl,k,n.out⟩
end
section
theorem Zj5(s:BA)(k:Nat)(h:k<s.size)(a:p s[k]=true):run p ((bl s).drop k)=run p ((bl s).drop (k+1))+1:=by
 rw[ZdW s k h,run,if_pos a]
theorem ZrY(s:BA)(k:Nat)(h:k<s.size)(a:p s[k]=false):run p ((bl s).drop k)=0:=by
 rw[ZdW s k h,run,if_neg (by rw[a];exact Bool.false_ne_true)]
theorem ZrU(s:BA)(k:Nat)(h:¬k<s.size):run p ((bl s).drop k)=0:=by
 rw[Yb8 (by rw[Zd];omega)];rfl
theorem ZBB(s:BA)(k:Nat)(w:World)(h:s.size<=6000)(g:k<=s.size) :
  CP 117 #[.string s,Vi k,.func (.func 116) #[] #[]] w fun e u=>e=.returned (Vi ((k+run ZC ((bl s).drop k):Nat):Int))/\u=w:=by
 obtain⟨E,c⟩:∃E,E=k+run ZC ((bl s).drop k):=⟨_,rfl⟩
 rw[<-c];have f:Hid (E=k+run ZC ((bl s).drop k)):=c;clear c;go_enter func117,ntmps117;go_wp2
 go_loop [1] (fun i=>∃j:Nat,j<=s.size/\i=Vi j/\Hid (E=j+run ZC ((bl s).drop j))) (fun i=>s.size - (intOf i).toNat)
 case atStart=>exact⟨k,g,rfl,f⟩
 case round=>
  obtain⟨j,l,rfl,d⟩:=hrel;clear f;by_cases a:j<s.size
  ·cases hd:ZC s[j]
   ·have b:Hid (E=j):=hid (by rw[d.out,ZrY s j a hd];rfl)
    go_wp2_with (go_at_call 116;refine(Zdk).mono ?_;rintro e u ⟨rfl,rfl⟩)
    go_ret;exact⟨by rw[b.out];rfl,rfl⟩
   ·have b:Hid (E=(j+1)+run ZC ((bl s).drop (j+1))):=hid (by rw[d.out,Zj5 s j a hd];omega)
    go_wp2_with (go_at_call 116;refine(Zdk).mono ?_;rintro e u ⟨rfl,rfl⟩)
    go_round
    case rel=>exact⟨j+1,by omega,by go_num,b⟩
    case measure=>simp[intOf];omega
  ·have b:Hid (E=j):=hid (by rw[d.out,ZrU s j a];rfl);go_wp2;go_ret;exact⟨by rw[b.out];rfl,rfl⟩
theorem ZBD(s:BA)(k:Nat)(w:World)(h:s.size<=6000)(g:k<=s.size) :
  CP 117 #[.string s,Vi k,.func (.func 119) #[] #[]] w fun e u=>e=.returned (Vi ((k+run Zp ((bl s).drop k):Nat):Int))/\u=w:=by
 obtain⟨E,c⟩:∃E,E=k+run Zp ((bl s).drop k):=⟨_,rfl⟩
 rw[<-c];have f:Hid (E=k+run Zp ((bl s).drop k)):=c;clear c;go_enter func117,ntmps117;go_wp2
 go_loop [1] (fun i=>∃j:Nat,j<=s.size/\i=Vi j/\Hid (E=j+run Zp ((bl s).drop j))) (fun i=>s.size - (intOf i).toNat)
 case atStart=>exact⟨k,g,rfl,f⟩
 case round=>
  obtain⟨j,l,rfl,d⟩:=hrel;clear f;by_cases a:j<s.size
  ·cases hd:Zp s[j]
   ·have b:Hid (E=j):=hid (by rw[d.out,ZrY s j a hd];rfl)
    go_wp2_with (go_at_call 119;refine(Zd2).mono ?_;rintro e u ⟨rfl,rfl⟩)
    go_ret;exact⟨by rw[b.out];rfl,rfl⟩
   ·have b:Hid (E=(j+1)+run Zp ((bl s).drop (j+1))):=hid (by rw[d.out,Zj5 s j a hd];omega)
    go_wp2_with (go_at_call 119;refine(Zd2).mono ?_;rintro e u ⟨rfl,rfl⟩)
    go_round
    case rel=>exact⟨j+1,by omega,by go_num,b⟩
    case measure=>simp[intOf];omega
  ·have b:Hid (E=j):=hid (by rw[d.out,ZrU s j a];rfl);go_wp2;go_ret;exact⟨by rw[b.out];rfl,rfl⟩
theorem St.tok(h:St w b pv s deep (.ok ((),ts))):∃q:QV,QAt w b q/\ZJB q=hd ts/\q.tx.size<=s.size+2/\q.e=0/\q.deep=deep/\ts.tail.length+1=ts.length/\((hd ts).jj=1->(ZQ 1000000000 (hd ts).txt).isSome=true):=by
 obtain⟨⟨q,d,i,j,f,g,k,a⟩,_⟩:=h;have:=Toks.txt_le (l:=bl s) (t:=ZJB q) (at_:=q.at_) (ts:=ts) a;have e:(ZJB q).txt=bl q.tx:=rfl;rw[e,Zd,Zd]at this;have c:=Toks.num (l:=bl s) (t:=ZJB q) (at_:=q.at_) (ts:=ts) a;rw[<-show LS.hd ts=ZJB q from a.hd]at c;exact⟨q,d,a.hd.symm,this,g,f,a.pos.symm,c⟩
theorem ZKD{c d:World}{pv3:Value}{r2:Out Unit}{p:PV}(f:Kept b pv w pv c)(h:St c b pv s deep r2)(o2:c.ownsRow 0 92 8 pv n xs)
  (i:St d b pv3 s deep r2) (o3:d.ownsRow 0 92 8 pv3 (n+1) (xs++p.cells)) (k3:Kept b pv c pv3 d) (j:Bud M (n+1) R) (k:ZJm R=r2) (l:∀t z,R=.ok (t,z)->∃nd,t=Zbg nd/\ZKf c nd p/\p.a=0/\p.b=0):PartRes w b pv s deep xs M R n d:=by
 refine⟨n+1,pv3,p.cells,by rw[k];exact i,o3,f.trans k3,j,?_⟩;intro t z e;obtain⟨nd,rfl,g,m,o⟩:=l t z e;exact⟨n,rfl,ZKt h o2 k3 p nd .nil .nil 0 0 g m o (Yag _) (Yag _) trivial trivial,rfl,rfl⟩
theorem ZM4{c d:World}{pv2 pv8:Value}{n2:Nat}{ys:List Value}{R1:Out Tr}{p:PV}(h:St c b pv2 s deep (ZJm R1))(o1:c.ownsRow 0 92 8 pv2 n2 (xs++ys))(k1:Kept b pv w pv2 c)
  (j:Bud M (n2+1) R1) (l:∀t z,R1=.ok (t,z)->∃k:Nat,i=k/\Rep c (xs++ys) t k/\k+1=n2/\ys.length=8*cntT t) (m:St d b pv8 s deep (ZJm R1)) (o3:d.ownsRow 0 92 8 pv8 (n2+1) ((xs++ys)++p.cells)) (k3:Kept b pv2 c pv8 d)
  (f:R=bnd R1 fun a r=>.ok (.node 0 0 nd a .nil,r)) (n:ZKf c nd p) (o:p.a=i) (q:p.b=0):PartRes w b pv s deep xs M R n2 d:=by
 have g:ZJm R=ZJm R1:=by
  rw[f];cases R1 with
  | error e=>rfl
  | ok x=>rfl
 refine⟨n2+1,pv8,ys++p.cells,by rw[g];exact m,by rw[<-Yan];exact o3,k1.trans k3,Bud.of_unit (by rw[g];exact Bud.unit j),?_⟩;intro t z e;rw[f]at e;obtain⟨a,r,e1,e2⟩:=Ze e;injection e2 with e2;injection e2 with e2 e3;subst e2;subst e3;obtain⟨k,q1,q2,q3,q4⟩:=l a r e1;refine⟨n2,rfl,?_,rfl,by rw[Yab,q4];show _+8=8*(cntT a+0+1);omega⟩;rw[<-Yan];exact ZKt h o1 k3 p nd a .nil k 0 n (by rw[o,q1]) q Om (Yag _) q2 trivial
theorem ZJG{q:QV}(h:ZJB q=t):q.k=t.jj/\bl q.tx=t.txt:=by subst h;exact⟨rfl,rfl⟩
theorem ZMH(h:St w b pv s deep (.ok ((),ts)))(N:s.size<=5000){mi:Bool}(j:(hd ts).jj=1)(rec:Nat->List Tok->Nat->Out Tr)
     (a:w.ownsRow 0 92 8 pv n xs) (O:M<=6000) (P:n+ts.length<=M) :
  CP 308 #[Vp b,.bool mi,.bool op] w fun e u=>∃i:Int,e=.returned (Vi i)/\PartRes w b pv s deep xs M (Zbw rec ts deep) i u:=by
 obtain⟨q,r,c,G,_,_,I,l⟩:=h.tok;obtain⟨c0,c1,c2,c3,c4,c5,c6,c7,c8⟩:=r.all;have J:((q.k:Int) == 1)=true:=by rw[(ZJG c).1,j];rfl
 have C:Hid (bl q.tx=(hd ts).txt):=(ZJG c).2
 have m:Hid (Zbw rec ts deep=.ok (Zbg ⟨0,0,numI 1000000000 (hd ts).txt,[],[],[]⟩,ts.tail)):=hid (by
  unfold Zbw;rw[if_pos j];obtain⟨v,x⟩:=Ycw.1 (l j);rw[ZgX x];unfold numV;rw[x];rfl)
 have H:Hid (St w b pv s deep (.ok ((),ts))):=h;have D:Hid (w.ownsRow 0 92 8 pv n xs):=a;have A:q.tx.size<=6000:=by omega
 clear h a r c c0 c1 c2 c5 c6 c7 c8;go_enter func308,ntmps308
 go_wp2_with fail
 refine(ZJ2 1000000000 rfl A Dc).mono ?_;rintro e y ⟨rfl,rfl⟩;rw[C.out];have K:=Zmr 1000000000 (hd ts).txt;generalize L:numI 1000000000 (hd ts).txt=nn at *
 go_wp2_with fail
 refine(St.next H.out Om ⟨ts,rfl,by omega⟩).mono ?_;rintro e o ⟨rfl,d,p⟩;have f:Hid (St o b pv s deep (.ok ((),ts.tail))):=d;have g:Hid (o.ownsRow 0 92 8 pv n xs):=ZJs H.out D.out p;have B:Hid (Kept b pv y pv o):=(Kept.refl _ _ _).grown p;clear d p c3 c4
 go_wp2_with fail
 refine(St.lay f.out g.out Om ⟨0,nn,0,⟨#[]⟩,none,0,0,none,0,0,0,0⟩).mono ?_;rintro e E ⟨pv3,rfl,s3,o3,k3⟩
 have F:Hid (PartRes y b pv s deep xs M (Zbw rec ts deep) n E):=hid (by
  refine ZKD B.out f.out g.out s3 o3 k3 ?_ ?_ ?_
  ·rw[m.out];exact(show n+1+ts.tail.length<=M by omega)
  ·rw[m.out];rfl
  ·intro t z e;rw[m.out]at e;injection e with e;injection e with e _;exact⟨_,e.symm,⟨rfl,rfl,rfl,rfl,ZJq.nil _ _ _ rfl rfl rfl,[],Ybc _ _ _ _,rfl⟩,rfl,rfl⟩)
 clear s3 o3 k3;go_wp2;go_ret;exact⟨_,rfl,F.out⟩
theorem ZMG(h:St w b pv s deep (.ok ((),ts)))(X:s.size<=5000)(K:(hd ts).jj≠1)(v:isT [45] (hd ts)=true)
  (x:ZJn 289 s (fun ts d=>rec 3 ts d) L) (Y:ts.length<=L+1)    (c:w.ownsRow 0 92 8 pv n xs) (Z:M<=6000) (hB:n+ts.length<=M) (y:deep<=20) :
  CP 308 #[Vp b,.bool true,.bool op] w fun e u=>∃i:Int,e=.returned (Vi i)/\PartRes w b pv s deep xs M (Zbw rec ts deep) i u:=by
 obtain⟨q,A,j,U,_,_,V,N⟩:=h.tok;obtain⟨c0,c1,c2,c3,c4,c5,c6,c7,c8⟩:=A.all;have W:((q.k:Int) == 1)=false:=by rw[(ZJG j).1,beq_eq_false_iff_ne];omega
 have O:Hid (Zbw rec ts deep=bnd (rec 3 ts.tail deep) fun a r=>.ok (.node 0 0 (nd0 3 0) a .nil,r)):=hid (by unfold Zbw;rw[if_neg K,v];rfl);have H:Hid (St w b pv s deep (.ok ((),ts))):=h;have P:Hid (w.ownsRow 0 92 8 pv n xs):=c;have Q:Hid (ZJn 289 s (fun ts d=>rec 3 ts d) L):=x;have R:=Zib v;clear h c A j c0 c1 c2 c4 c5 c6 c7 c8 x;go_enter func308,ntmps308
 go_wp2_with fail
 refine(St.next H.out Om ⟨ts,rfl,R⟩).mono ?_;rintro e f ⟨rfl,l,p⟩;have B:Hid (St f b pv s deep (.ok ((),ts.tail))):=l;have C:Hid (f.ownsRow 0 92 8 pv n xs):=ZJs H.out P.out p;have D:Hid (Kept b pv w pv f):=(Kept.refl _ _ _).grown p;clear l p c3
 go_wp2_with fail
 refine(Q.out f b pv deep _ n xs (M - 1) B.out C.out Om (show n+ts.tail.length<=M - 1 by omega) (fun t e=>by injection e with e;injection e with _ e;subst e;omega) y).mono ?_;rintro e g ⟨i,rfl,E⟩;obtain⟨n3,pv3,ys,s3,o3,k3,b3,r3⟩:=E.out;have m:Hid (St g b pv3 s deep (ZJm (rec 3 ts.tail deep))):=s3;have o:Hid (g.ownsRow 0 92 8 pv3 n3 (xs++ys)):=o3;have F:Hid (Kept b pv w pv3 g):=D.trans k3;have G:Hid (Bud (M - 1) n3 (rec 3 ts.tail deep)):=b3;have I:Hid (∀t z,rec 3 ts.tail deep=.ok (t,z)->∃k:Nat,i=k/\Rep g (xs++ys) t k/\k+1=n3/\ys.length=8*cntT t):=r3;have J:n3<=6000:=by have:=b3.le;omega
 clear E s3 o3 k3 b3 r3
 go_wp2_with fail
 refine(St.lay m.out o.out J ⟨3,0,0,⟨#[]⟩,none,0,0,none,0,0,i,0⟩).mono ?_;rintro e S ⟨pv4,rfl,s4,o4,k4⟩;have T:Hid (PartRes w b pv s deep xs M (Zbw rec ts deep) n3 S):=ZM4 m.out o.out F.out (Bud.up G.out Om) I.out s4 o4 k4 O.out ⟨rfl,rfl,rfl,rfl,ZJq.nil _ _ _ rfl rfl rfl,[],Ybc _ _ _ _,rfl⟩ rfl rfl;clear s4 o4 k4;go_wp2;go_ret;exact⟨_,rfl,T.out⟩
theorem ZMI(h:St w b pv s deep (.ok ((),ts)))(l:(hd ts).jj≠1)(m:isT [45] (hd ts)=false)(o:isT [40] (hd ts)=true)
  (d:ZJn 315 s (Zbu rec) (L+1)) (E:ts.length<=L+1)    (a:w.ownsRow 0 92 8 pv n xs) (p:M<=6000) (F:n+ts.length<=M) (f:deep<=20) :
  CP 308 #[Vp b,.bool false,.bool true] w fun e u=>∃i:Int,e=.returned (Vi i)/\PartRes w b pv s deep xs M (Zbw rec ts deep) i u:=by
 obtain⟨q,g,c,B,_,_,C,r⟩:=h.tok;obtain⟨c0,c1,c2,c3,c4,c5,c6,c7,c8⟩:=g.all;have D:((q.k:Int) == 1)=false:=by rw[(ZJG c).1,beq_eq_false_iff_ne];omega
 have v:Hid (Zbw rec ts deep=Zbu rec ts deep):=hid (by unfold Zbw;rw[if_neg l,m,o];rfl);have H:Hid (St w b pv s deep (.ok ((),ts))):=h;have x:Hid (w.ownsRow 0 92 8 pv n xs):=a;have y:Hid (ZJn 315 s (Zbu rec) (L+1)):=d;clear h a g c c0 c1 c2 c4 c5 c6 c7 c8 d;go_enter func308,ntmps308
 go_wp2_with fail
 refine(y.out w b pv deep _ n xs M H.out x.out p (show n+ts.length<=M by omega) (fun t e=>by injection e with e;injection e with _ e;subst e;omega) f).mono ?_;rintro e z ⟨i,rfl,j⟩;have A:Hid (PartRes w b pv s deep xs M (Zbw rec ts deep) i z):=hid (by rw[v.out];exact j);clear j c3;go_wp2;go_ret;exact⟨_,rfl,A.out⟩
theorem ZKB(h:BW w w'):Kept b pv w pv w':=⟨h.os,h.tape,h.output,h.size,fun k a _ _=>h.block k a,Or.inl rfl⟩
theorem PartRes.pre{w0:World}(a:Kept b pv w0 pv w)(h:PartRes w b pv s deep xs M R i w'):PartRes w0 b pv s deep xs M R i w':=by
 obtain⟨n',pv',ys,c,d,e,f,g⟩:=h.out;exact⟨n',pv',ys,c,d,a.trans e,f,g⟩
theorem ZK1{w:LB}{i:Nat}(h:idx w l=some i):idxI w l=i:=by unfold idxI;rw[h]
theorem ZKy{w:LB}(h:idx w l=none):idxI w l=-1:=by unfold idxI;rw[h]
theorem ZKz(c:(hd ts).jj=2)(a:isT [45] (hd ts)=false)(b:isT [40] (hd ts)=false):Zbw rec ts deep=match idx (hd ts).txt ZW with
  | some g=>Zcb rec g ts.tail deep
  | none => match idx (hd ts).txt Z0 with
    | some o=>winP o ts.tail
    | none=>bnd (selP ts) fun p r=>.ok (Zbg p,r):=by
 unfold Zbw;rw[if_neg Om,a,b];rfl
theorem ZMF(h:St w b pv s deep (.ok ((),ts)))(U:s.size<=5000)(C:(hd ts).jj=2)(D:isT [45] (hd ts)=false)(E:isT [40] (hd ts)=false)(o:idx (hd ts).txt ZW=some g)
    (t:ZJn 315 s (Zbu rec) (L+1)) (F:ts.length<=L+1)    (a:w.ownsRow 0 92 8 pv n xs) (G:M<=6000) (I:n+ts.length<=M) (v:deep<=20) :
  CP 308 #[Vp b,.bool false,.bool false] w fun e u=>∃i:Int,e=.returned (Vi i)/\PartRes w b pv s deep xs M (Zbw rec ts deep) i u:=by
 obtain⟨q,r,c,R,_,_,S,_⟩:=h.tok;obtain⟨c0,c1,c2,c3,c4,c5,c6,c7,c8⟩:=r.all;have l:=r.lt;have T:((q.k:Int) == 1)=false:=by rw[(ZJG c).1,beq_eq_false_iff_ne];omega
 have J:Hid (Zbw rec ts deep=Zcb rec g ts.tail deep):=hid (by rw[ZKz C D E,o]);have K:Hid (idxI (bl q.tx) ZW=g):=hid (by rw[(ZJG c).2];exact ZK1 o);have H:Hid (St w b pv s deep (.ok ((),ts))):=h;have N:Hid (w.ownsRow 0 92 8 pv n xs):=a;have O:Hid (ZJn 315 s (Zbu rec) (L+1)):=t;clear h a r c c0 c1 c2 c5 c6 c7 c8 t o;go_enter func308,ntmps308
 go_wp2_with fail
 refine(ZJY Dc).mono ?_;rintro e y ⟨rfl,d⟩;rw[ZKp,K.out];have d4:y.cell? ⟨b,4,none⟩=some (.string q.tx):=(d.cell (p:=⟨b,4,none⟩) l).trans c4;have f:Hid (BW w y):=d;clear d c3 c4
 go_wp2_with fail
 refine(ZJY Dc).mono ?_;rintro e z ⟨rfl,m⟩;rw[ZKr];have j:Hid (BW w z):=f.trans (m.mono f.size);have x:Hid (St z b pv s deep (.ok ((),ts))):=St.kept H.out (j.block b l);have A:Hid (z.ownsRow 0 92 8 pv n xs):=Zn N.out j.out;generalize idxI (bl q.tx) Z0=oi;clear m d4 f
 go_wp2_with fail
 refine(ZMx x.out Om Om g rfl O.out F A.out G I v).mono ?_;rintro e P ⟨i,rfl,B⟩;have Q:Hid (PartRes w b pv s deep xs M (Zbw rec ts deep) i P):=hid (by rw[J.out];exact B.pre (ZKB j.out));clear B;go_wp2;go_ret;exact⟨_,rfl,Q.out⟩
theorem ZKO.base{base:Nat}{p:PV}(h:ZKO w base p nd):ZKO w 0 p nd:=by
 obtain⟨a,b,qs,c,d⟩:=h;exact⟨a,b,qs,ZKH c,d⟩
theorem ZMJ(h:St w b pv s deep (.ok ((),ts)))(hs:s.size<=5000)(S:(hd ts).jj=2)(Y:isT [45] (hd ts)=false)(Z:isT [40] (hd ts)=false)(K:idx (hd ts).txt ZW=none)(L:idx (hd ts).txt Z0=none)
  (hr:Zgp (hd ts)=false) (rec:Nat->List Tok->Nat->Out Tr)    (g:w.ownsRow 0 92 8 pv n xs) (hM:M<=6000) (hB:n+ts.length<=M) :
  CP 308 #[Vp b,.bool false,.bool false] w fun e u=>∃i:Int,e=.returned (Vi i)/\PartRes w b pv s deep xs M (Zbw rec ts deep) i u:=by
 obtain⟨q,N,f,a0,_,_,a1,_⟩:=h.tok;obtain⟨c0,c1,c2,c3,c4,c5,c6,c7,c8⟩:=N.all;have D:=N.lt;have a2:((q.k:Int) == 1)=false:=by rw[(ZJG f).1,beq_eq_false_iff_ne];omega
 have O:Hid (Zbw rec ts deep=bnd (selP ts) fun p r=>.ok (Zbg p,r)):=hid (by rw[ZKz S Y Z,K,L]);have HX:Hid (idxI (bl q.tx) ZW=-1):=hid (by rw[(ZJG f).2];exact ZKy K);have HY:Hid (idxI (bl q.tx) Z0=-1):=hid (by rw[(ZJG f).2];exact ZKy L);have H:Hid (St w b pv s deep (.ok ((),ts))):=h;have HO:Hid (w.ownsRow 0 92 8 pv n xs):=g
 have T : Hid (Bud M (n + 1) (bnd (selP ts) fun p r => (.ok (Zbg p, r) : Out Tr))) := hid (by
   unfold selP ZdQ;rw[hr];show Bud M (n+1) (bnd (bnd (ZH 2 ts) _) _);unfold ZH;rw[if_pos S,ZJZ];have h0:Bud M (n+1) (.ok ((hd ts).txt,ts.tail):Out (LB)):=(show n+1+ts.tail.length<=M by omega)
   refine h0.bnd ?_;intro a t z e hz;injection e with e;injection e with _ e;subst e;obtain⟨x,t2,c,P⟩:=Ze hz;injection P with P;subst P;split at c
   · obtain⟨cs,t3,h3,j⟩:=Ze c
     injection j with j;injection j with _ j;subst j;have:=Zmc Zos _ _ _ _ h3;simp at this ⊢;omega
   · injection c with c;injection c with _ c;subst c;exact Yac _)
 clear h g N f c0 c1 c2 c5 c6 c7 c8 K L;go_enter func308,ntmps308
 go_wp2_with fail
 refine(ZJY Dc).mono ?_;rintro e y ⟨rfl,l⟩;rw[ZKp,HX.out];have d4:y.cell? ⟨b,4,none⟩=some (.string q.tx):=(l.cell (p:=⟨b,4,none⟩) D).trans c4;have m:Hid (BW w y):=l;clear l c3 c4
 go_wp2_with fail
 refine(ZJY Dc).mono ?_;rintro e Q ⟨rfl,E⟩;rw[ZKr,HY.out];have v:Hid (BW w Q):=m.trans (E.mono m.size);have F:Hid (St Q b pv s deep (.ok ((),ts))):=St.kept H.out (v.block b D);have U:Hid (Q.ownsRow 0 92 8 pv n xs):=Zn HO.out v.out;clear E d4 m
 go_wp2_with fail
 refine(ZLc F.out Om).mono ?_;rintro e d ⟨p,rfl,G,I,A⟩;have J:Hid (St d b pv s deep (ZJm (selP ts))):=G;have V:Hid (d.ownsRow 0 92 8 pv n xs):=ZJs F.out U.out A;have W:Hid (Kept b pv w pv d):=(ZKB v.out).grown A;have B:Hid (∀o,St (d.alloc o) b pv s deep (ZJm (selP ts))):=fun o=>St.kept J.out (Go.Deep.blk_alloc_lt _ _ _ (St.lt J.out));have C:Hid (∀o,(d.alloc o).ownsRow 0 92 8 pv n xs):=fun o=>Yf8 V.out o;have R:Hid (∀o,Kept b pv w pv (d.alloc o)):=fun o=>W.grown (Ygj _ _ _)
 have X:Hid (∀o z,selP ts=.ok z->ZKO (d.alloc o) 0 p z.1):=hid (by
  intro o z e;obtain⟨q1,q2,qs,q3,q4⟩:=I.out _ rfl z e;exact⟨q1,q2,qs,ZKH (q3.alloc o),q4⟩)
 clear G A I
 go_wp2_with fail
 refine(St.lay (B.out _) (C.out _) Om p).mono ?_;rintro e w4 ⟨pv4,rfl,s4,o4,k4⟩
 have HP:Hid (PartRes w b pv s deep xs M (Zbw rec ts deep) n w4):=hid (by
  refine ZKD (R.out _) (B.out _) (C.out _) s4 o4 k4 (by rw[O.out];exact T.out) ?_ ?_
  ·rw[O.out];cases selP ts with
   | error e=>rfl
   | ok x=>rfl
  ·intro t z e;rw[O.out]at e;obtain⟨nd,r,e1,e2⟩:=Ze e;injection e2 with e2;injection e2 with e2 _;obtain⟨q1,q2,q3⟩:=X.out _ _ e1;refine⟨nd,e2.symm,?_,by rw[q1],by rw[q1]⟩;have q2':nd=⟨1,0,0,bl p.nm,nd.jn,[]⟩:=q2;rw[q2'];refine⟨by rw[q1];rfl,by rw[q1],by rw[q1];rfl,rfl,q3,[],?_,rfl⟩;rw[q1];exact Ybc _ _ _ _)
 clear s4 o4 k4;go_wp2;go_ret;exact⟨_,rfl,HP.out⟩

/- Parts. -/
import Derived.Test.YtcdgkkfipdoeeaaGreatDoorT05
set_option linter.all false
set_option maxRecDepth 100000
set_option maxHeartbeats 16000000
namespace Go.Proofs.YtcdgkkfipdoeeaaGreatDoor
open Go.RowKit LS Go.Proofs.Tryz
variable {tp:Addr}{ms ns:List (LB)}{l sl:List (Option Int)}{r ts:List Tok}{d deep lv m n s:Nat}{rec:Nat->List Tok->Nat->Out Tr}{S:Nat->Prop}{t u:Tok}{a:Tr}{p:UInt8->Bool}
section
def ZeO(f:FuncId)(args:Nat->List Value)(P:List Tok->Nat->Out Tr)(ok:List Tok->Prop):Prop:=∀(w:World) (R:RS) (k:Nat) (ts:List Tok) (deep:Nat),RK w R k ts->deep<=20->ok ts->
 Cz f ⟨Vp R.b::args deep⟩ w fun e w'=>∃(pv v:Value),e=.returned (.tuple #[pv,v])/\Zhp pv/\Hid (Res R (fun w' t=>Zh w' t pv) w' (P ts deep) v)/\w.grownBy w' (some R.b)
theorem Zug {rec : Nat -> List Tok -> Nat -> Out Tr}  (L : ZeO 28 (fun d => [Vi 0, Vi (d + 1 : Nat)]) (rec 0) (fun ts => ts.length < m)) :
    ZeO 103 (fun d=>[Vi (d+1:Nat)]) (Zbu rec) (fun ts=>ts.length<=m):=by
  intro w R k ts deep h hd u;have H:=hid h;have M:=hid hd;have N:=hid u;go_enter func103,ntmps103
  go_wp2_with fail
  refine(ZdT H _ Dc Dc).mono ?_;rintro e y ⟨v,rfl,c,O⟩;have j:=hid O;rcases Ze7 [40] ts with ⟨q,f⟩|⟨q,f⟩
  · obtain⟨rfl,⟨k1,x⟩,_⟩:=c.good f
    have A:=hid x;have l:Hid (Zbu rec ts deep=bnd (rec 0 ts.tail deep) fun a r=>bnd (Zq [41] r) fun _ r=>.ok (a,r)):=by unfold Zbu;rw[f];rfl
    go_wp2_with fail
    refine(L _ R _ _ _ A M (by show ts.tail.length<m;have:=H.pos;have:=N.out;rw[Yb4];omega)).mono ?_;rintro e z ⟨pv,v,rfl,B,c,C⟩;have n:=hid (Zj j C);cases g:rec 0 ts.tail deep with
    | error er=>
      have s:=hid (c.err g);obtain⟨fa,rfl⟩:=s.shape;have i:Hid (Zbu rec ts deep=.error er):=by rw[l,g];rfl
      go_wp2;go_ret2;exact⟨_,_,rfl,.inl rfl,by rwa [i.out],n⟩
    | ok pr=>
      obtain⟨t,r2⟩:=pr;obtain⟨rfl,⟨k2,D⟩,E⟩:=c.good g;have F:Hid (Zbu rec ts deep=bnd (Zq [41] r2) fun _ r=>.ok (t,r)):=by rw[l,g];rfl
      have o:=hid D;have G:=hid E
      go_wp2_with fail
      refine(ZdT o _ Dc Dc).mono ?_;rintro e Q ⟨v,rfl,c,p⟩;have I:=hid (Zj n p);have J:=hid (G.read o p);have K:=hid B;go_wp2;go_ret2;refine⟨_,_,rfl,K,?_,I⟩;rw[F];rcases Ze7 [41] r2 with ⟨_,f⟩|⟨_,f⟩
      · obtain⟨q,P,_⟩:=c.good f
        rw[f];exact⟨q,P,J⟩
      · have:=c.err f
        rw[f];exact this
  · have i:Hid (Zbu rec ts deep=.error (2,(LS.hd ts).at_)):=by unfold Zbu;rw[f];rfl
    have s:=hid (c.err f);obtain⟨fa,rfl⟩:=s.shape;go_wp2;go_ret2;exact⟨_,_,rfl,.inl rfl,by rwa [i.out],j⟩
theorem ZpI (rec : Nat -> List Tok -> Nat -> Out Tr) (g : Nat) (ts : List Tok) (deep : Nat) : Zcb rec g ts deep = bnd (Zq wBy ts) fun _ r => bnd (bnd (Zq [40] r) fun _ r => ZS (ZH 2) [41] (r.length + 1) [] r) fun ns r => bnd (Zbu rec r deep) fun a r => .ok (.node 0 0 ⟨5, g, 0, [], [], ns⟩ a .nil, r) := by
  unfold Zcb;cases c:Zq wBy ts with
  | error e=>rfl
  | ok p1=>
    obtain⟨a1,r1⟩:=p1;simp only[bnd];cases d:Zq [40] r1 with
    | error e=>rfl
    | ok p2=>rfl
theorem Zyz    (h : (bnd (Zq [40] ts) fun _ r => ZS (ZH 2) [41] (r.length + 1) [] r) = .ok (ns, r)) : r.length <= ts.length := by
  have l:∀(n:Nat) (acc:List _) (ts:List _) (z:List _×List _),ZS (ZH 2) [41] n acc ts=.ok z->z.2.length<=ts.length:=by
    intro n
    induction n with
    | zero=>intro acc ts z h;cases h
    | succ n ih=>
      intro acc ts z h;by_cases j:isT [41] (hd ts)=true
      · rw[Zma j]at h;cases h;simp
      · have f:=Yce.2 j
        by_cases k:acc=[]
        · subst k
          rw[Zmb f]at h;cases d:ZH 2 ts with
          | error e=>rw[d]at h;cases h
          | ok p=>
            obtain⟨a,r⟩:=p;rw[d]at h;have g:=ih _ _ _ h;have i:=Zjt d;subst i;simp at g;omega
        · rw[Zmd f k]at h
          rcases Ze7 [44] ts with ⟨_,c⟩|⟨_,c⟩
          · rw[c]at h
            simp only[bnd]at h;cases d:ZH 2 ts.tail with
            | error e=>rw[d]at h;cases h
            | ok p=>
              obtain⟨a,r⟩:=p;rw[d]at h;have g:=ih _ _ _ h;have i:=Zjt d;subst i;simp at g;omega
          · rw[c]at h;cases h
  rcases Ze7 [40] ts with ⟨_,c⟩|⟨_,c⟩
  · rw[c]at h
    have:=l _ _ _ _ h;simp at this;omega
  · rw[c]at h;cases h
theorem ZwJ {rec : Nat -> List Tok -> Nat -> Out Tr}  (S : ZeO 103 (fun d => [Vi (d + 1 : Nat)]) (Zbu rec) (fun ts => ts.length <= m)) {x:BA} (g : Nat) (C : bl x = ZW.getD g []) :
    ZeO 105 (fun d=>[.string x,Vi (d+1:Nat)]) (Zcb rec g) (fun ts=>ts.length<=m):=by
  intro w R k ts deep h hd D;have H:=hid h;have E:=hid C;have T:=hid hd;have U:=hid D;go_enter func105,ntmps105
  go_wp2_with fail
  refine(ZC8 H Dc Dc).mono ?_;rintro e y ⟨v,rfl,c,V⟩;have l:=hid V;rcases Ze7 wBy ts with ⟨A,f⟩|⟨A,f⟩
  · obtain⟨rfl,⟨k1,F⟩,_⟩:=c.good f
    have G:=hid F;have n:Hid (Zcb rec g ts deep=bnd (bnd (Zq [40] ts.tail) fun _ r=>ZS (ZH 2) [41] (r.length+1) [] r) fun ns r=>bnd (Zbu rec r deep) fun a r=>.ok (.node 0 0 ⟨5,g,0,[],[],ns⟩ a .nil,r)):=by rw[ZpI,f];rfl
    go_wp2_with fail
    refine(ZyA G Dc Dc).mono ?_;rintro e z ⟨la,ln,lc,v,rfl,c,I⟩;have o:=hid (Zj l I);cases i:(bnd (Zq [40] ts.tail) fun _ r=>ZS (ZH 2) [41] (r.length+1) [] r)with
    | error er=>
      have B:=hid (c.err i);obtain⟨fa,rfl⟩:=B.shape;have j:Hid (Zcb rec g ts deep=.error er):=by rw[n,i];rfl
      go_wp2;go_ret2;exact⟨_,_,rfl,.inl rfl,by rwa [j.out],o⟩
    | ok pr=>
      obtain⟨ns,r2⟩:=pr;obtain⟨rfl,⟨k2,J⟩,K⟩:=c.good i;have L:Hid (Zcb rec g ts deep=bnd (Zbu rec r2 deep) fun a r=>.ok (.node 0 0 ⟨5,g,0,[],[],ns⟩ a .nil,r)):=by rw[n,i];rfl
      have p:=hid J;have M:=hid K;have N:Hid (r2.length<=m):=hid (by have:=Zyz i;have:=U.out;rw[Yb4]at *;omega)
      go_wp2_with fail
      refine(S _ R _ _ _ p T N).mono ?_;rintro e Y ⟨pv,v,rfl,O,c,q⟩;have P:=hid (Zj o q);have Q:=hid (M.read p q);rcases O with rfl|⟨ty,u,rfl⟩
      all_goals
        go_wp2;go_ret2;refine⟨_,_,rfl,.inr ⟨_,_,rfl⟩,?_,P⟩;rw[L];cases s:Zbu rec r2 deep with
        | error er=>exact c.err s
        | ok pr=>
          obtain⟨t,r3⟩:=pr;obtain⟨A,W,X⟩:=c.good s;exact⟨A,W,.inr (.inr (.inr (.inr (.inl ⟨rfl,x,la,ln,lc,_,rfl,E,Q,X⟩))))⟩
  · have j:Hid (Zcb rec g ts deep=.error (2,(LS.hd ts).at_)):=by rw[ZpI,f];rfl
    have B:=hid (c.err f);obtain⟨fa,rfl⟩:=B.shape;go_wp2;go_ret2;exact⟨_,_,rfl,.inl rfl,by rwa [j.out],l⟩
theorem ZlM{w:LB} : ∀ {l:List (LB)} {g:Nat},idx w l=some g->l.getD g []=w
 | [],_,h=>by cases h
 | x :: l, g, h => by
   unfold idx at h;by_cases a:x=w
   · rw[if_pos a]at h
     cases h;exact a
   · rw[if_neg a]at h
     cases c:idx w l with
     | none=>rw[c]at h;cases h
     | some j=>
       rw[c]at h;cases h;exact ZlM (l:=l) c
theorem Zt2{p:PTok}(h:Zdf p t)(f:Zdt t)(d:t.jj<=5):ZhO p=ZdD t:=by
 have m1:=ZdP h f d (s:=⟨#[45]⟩) Dc Dc;have m2:=ZdP h f d (s:=⟨#[40]⟩) Dc Dc;have g:p.tx.toList=t.txt:=by rw[Zbt];exact h.2.2.1
 unfold ZhO ZdD;have a:=Ze0 d;have c:=h.1;by_cases k1:t.jj=1
 ·have e:((p.kd:Int) == 0)=true:=by rw[c,a.2.2.2.1.2 k1];rfl
  rw[e,k1];simp
 ·have e:((p.kd:Int) == 0)=false:=by
   rw[beq_eq_false_iff_ne];intro e;exact k1 (a.2.2.2.1.1 Om)
  rw[e,beq_eq_false_iff_ne.2 k1];by_cases k2:t.jj=2
  ·have e2:((p.kd:Int) == 1)=true:=by rw[c,a.2.1.2 k2];rfl
   have z1:isT [45] t=false:=by rw[<-show ZY p _=isT [45] t from m1];unfold ZY;rw[c,a.2.1.2 k2];rfl
   have z2:isT [40] t=false:=by rw[<-show ZY p _=isT [40] t from m2];unfold ZY;rw[c,a.2.1.2 k2];rfl
   rw[e2,z1,z2,k2,g];unfold isT;rw[k2];simp[wOr,wBy]
  ·have e2:((p.kd:Int) == 1)=false:=by
    rw[beq_eq_false_iff_ne];intro e;exact k2 (a.2.1.1 Om)
   rw[e2,beq_eq_false_iff_ne.2 k2,show ZY p _=isT [45] t from m1,show ZY p _=isT [40] t from m2];simp
theorem Zw6(h:(hd ts).jj=1):Zbw rec ts d=.ok (Zbg ⟨0,0,numV (hd ts).txt,[],[],[]⟩,ts.tail):=if_pos h
theorem Zw5 {rec : Nat -> List Tok -> Nat -> Out Tr}   (h : ¬ (hd ts).jj = 1) (c : isT [45] (hd ts) = true) : Zbw rec ts d = bnd (rec 3 ts.tail d) fun a r => .ok (.node 0 0 (nd0 3 0) a .nil, r) := by
  unfold Zbw;rw[if_neg h,if_pos c]
theorem Zxa(h:¬(hd ts).jj=1)(a:¬isT [45] (hd ts)=true)(c:isT [40] (hd ts)=true):Zbw rec ts d=Zbu rec ts d:=by
 unfold Zbw;rw[if_neg h,if_neg a,if_pos c]
theorem Zw3{g:Nat}(h:¬(hd ts).jj=1)(a:¬isT [45] (hd ts)=true)(c:¬isT [40] (hd ts)=true)(e:idx (hd ts).txt ZW=some g):Zbw rec ts d=Zcb rec g ts.tail d:=by
 unfold Zbw;rw[if_neg h,if_neg a,if_neg c,e]
theorem Zw9{o:Nat}(h:¬(hd ts).jj=1)(a:¬isT [45] (hd ts)=true)(c:¬isT [40] (hd ts)=true)(e:idx (hd ts).txt ZW=none)(f:idx (hd ts).txt Z0=some o):Zbw rec ts d=winP o ts.tail:=by
 unfold Zbw;rw[if_neg h,if_neg a,if_neg c,e];simp only;rw[f]
theorem Zw8 {rec : Nat -> List Tok -> Nat -> Out Tr}   (h : ¬ (hd ts).jj = 1) (a : ¬ isT [45] (hd ts) = true) (c : ¬ isT [40] (hd ts) = true) (e : idx (hd ts).txt ZW = none) (f : idx (hd ts).txt Z0 = none) : Zbw rec ts d = bnd (selP ts) fun p r => .ok (Zbg p, r) := by
  unfold Zbw;rw[if_neg h,if_neg a,if_neg c,e];simp only;rw[f]
theorem ZCJ(h:ZdD t=true):¬(t.jj=0∨t.jj=5):=by
 rintro(a|a)
 all_goals
  unfold ZdD isT at h;rw[a]at h;simp at h
theorem Zv2
  (b6:ZeO 51 (fun d=>[Vi (d+1:Nat)]) (rec 3) (fun ts=>ts.length<m))
  (a9:ZeO 103 (fun d=>[Vi (d+1:Nat)]) (Zbu rec) (fun ts=>ts.length<=m)) :
  ZeO 51 (fun d=>[Vi (d+1:Nat)]) (Zb9 rec) (fun ts=>ts.length<=m):=by
 intro w R k ts deep h b7 b8;have H:=hid h;have HD:=hid b7;have HM:=hid b8;have c4:=(Yae.1 h.rd.cells).1;go_enter func51,ntmps51
 go_wp2_with fail
 refine(Zee H).mono ?_;rintro e y ⟨⟨kd,at_,tx,tv⟩,rfl,I,b0⟩;have a0:Hid (w.grownBy _ (some R.b)):=Zw b0;have b1:=hid (H.below b0)
 go_upto_region 2 with fail
 refine ZP fun W2 a1=>?_;have a2:Below _ _ _:=a1▸Zbal;have J:Hid (BAt _ _ [.int _ _,.int _ _,.string _,.int _ _] 74):=a1▸bnw;have b9:=hid (Zj a0 (Zw a2));have b2:=hid (b1.below a2);have c5:R.b<y.heap.size:=by have:=a0.size;omega
 have q:=hid b2.wf.head;clear a1 a2 a0 b1;have t0:=J.cell 0;have t1:=J.cell 1;have t2:=J.cell 2;have t3:=J.cell 3;simp only[Zget]at t0 t1 t2 t3
 go_wp2_with fail
 refine(Zt1 ⟨kd,at_,tx,tv⟩ W2).mono ?_;rintro e w3 ⟨rfl,a3⟩;rw[Zt2 I q.1 q.2.2];have n:=hid (J.below a3);have K:=hid (Zj b9 (Zw a3));have p:=hid (b2.below a3);cases L:ZdD (LS.hd ts)
 ·have a4:Hid (Zb9 rec _ deep=.error _):=hid (by unfold Zb9;rw[if_neg (by rw[L];decide)])
  go_wp2_with fail
  refine(Zfi p).mono ?_;rintro e wE ⟨v,rfl,HE,c1⟩;obtain⟨fa,rfl⟩:=HE.shape;have a5:=hid (Zj K (Zw c1));go_wp2;go_ret2;exact⟨_,_,rfl,.inl rfl,by rwa [a4.out],a5⟩
 ·have U:=hid (ZCJ L);by_cases G:deep=20
  ·have a4:Hid (Zb9 rec _ _=.error _):=hid (by unfold Zb9;rw[if_pos L,if_pos G]);subst G;have t1:=n.cell;have c6:=p.dp
   go_wp2_with fail
   refine(ZkT).mono ?_;rintro e wE ⟨rfl,a6⟩;have HE:Hid (Z9 wE R (3,(LS.hd _).at_) _):=hid (.inr ⟨rfl,w3.heap.size,rfl,by rw[a6];refine bnw.trans ?_;rw[show(at_:Int)=((LS.hd _).at_) from congrArg _ I.2.1]⟩);have a5:Hid _:=a6▸ZbR K.out;clear a6;go_wp2;go_ret2;exact⟨_,_,rfl,.inl rfl,by rwa [a4.out],a5⟩
  ·have c3:deep<=19:=by omega
   have C:Hid (Zb9 _ _ _=Zbw rec _ _):=hid (by unfold Zb9;rw[if_pos L,if_neg G]);obtain⟨rc0,rc1,rfz,rcx⟩:=p.rd.all;have c7:=p.lt;have c8:=p.len;clear rcx L G;have t0:=n.cell 0;have t1:=n.cell 1;have t2:=n.cell 2;have t3:=n.cell 3;simp only[Zget]at t0 t1 t2 t3;by_cases r:(LS.hd ts).jj=1
   ·have b3:kd=0:=by have:=I.1;rw[r]at this;exact this
    subst b3;have c2:Hid ((tv)=numV _):=I.2.2.2 r;have f:Hid (Zb9 _ _ _=.ok _):=hid (by rw[C,Zw6 r]);clear r
    go_upto_region 8 with fail
    refine ZP fun W8 a=>?_;have s:Hid _:=a▸p.step U.out;have x:Hid _:=a▸ZA K.out (Or.inl rfl);have M:Hid (BAt _ _ _ _):=a▸n.other (by show y.heap.size≠R.b;omega) _;clear a rc0 rc1 rfz t0 t1 t2 t3;have t3:=M.cell;go_wp2;go_ret2;exact⟨_,_,rfl,.inr ⟨_,_,rfl⟩,f.out▸⟨rfl,⟨_,s.out⟩,Or.inl ⟨rfl,by rw[<-c2.out];rfl⟩⟩,x⟩
   ·have b3:((kd:Int) == 0)=false:=by
     rw[beq_eq_false_iff_ne];intro e;exact r ((Ze0 q.2.2).2.2.2.1.1 (by have:=I.1;simp only at this;omega))
    have z:=hid r;clear r
    go_wp2_with fail
    refine(Zf6 I.out q.1 q.2.2 _ Dc Dc w3).mono ?_;rintro e w4 ⟨rfl,V⟩;have A:=hid (n.below V);have W:=hid (Zj K (Zw V));have N:=hid (p.below V);clear V n K p t0 t1 t2 t3 rc0 rc1 rfz;obtain⟨rc0,rc1,rfz,rcx⟩:=N.rd.all;have t0:=A.cell 0;have t1:=A.cell 1;have t2:=A.cell 2;have t3:=A.cell 3;simp only[Zget]at t0 t1 t2 t3;clear rcx;by_cases D:isT [45] (LS.hd ts)=true
    ·rw[show isT (bl ⟨#[45]⟩) _=true from D];have f:Hid (Zb9 _ _ _=bnd _ _):=hid (by rw[C,Zw5 z D]);clear D
     go_upto_region 11 with fail
     refine ZP fun W8 a=>?_;have s:Hid _:=a▸N.step U.out;have x:Hid _:=a▸ZA W.out (Or.inl rfl);clear a rc0 rc1 rfz t0 t1 t2 t3 N W A
     go_wp2_with fail
     refine(b6 _ R _ _ _ s Om (by show ts.tail.length<m;have:=H.pos;have:=HM.out;rw[Yb4];omega)).mono ?_;rintro e w9 ⟨pv,v,rfl,j,i,c⟩;have l:=hid (Zj x c);clear c;rcases j with rfl|⟨ty,u,rfl⟩
     all_goals
      go_wp2;go_ret2;refine⟨_,_,rfl,.inr ⟨_,_,rfl⟩,?_,l⟩;rw[f];cases b4:rec 3 ts.tail (deep+1)with
      | error er=>exact i.err b4
      | ok pr=>
       obtain⟨t,r3⟩:=pr;obtain⟨h1,h2,h3⟩:=i.good b4;exact⟨h1,h2,.inr (.inr (.inr (.inl ⟨rfl,_,rfl,h3⟩)))⟩
    ·rw[show isT (bl ⟨#[45]⟩) _=false from Yce.2 D];have X:=hid D;clear D
     go_wp2_with fail
     refine(Zf6 I.out q.1 q.2.2 _ Dc Dc w4).mono ?_;rintro e w5 ⟨rfl,Y⟩;have O:=hid (A.below Y);have E:=hid (Zj W (Zw Y));have B:=hid (N.below Y);clear Y A W N t0 t1 t2 t3 rc0 rc1 rfz;obtain⟨rc0,rc1,rfz,rcx⟩:=B.rd.all;have t2:=O.cell 2;simp only[Zget]at t2;clear rcx;by_cases F:isT [40] (LS.hd ts)=true
     ·rw[show isT (bl ⟨#[40]⟩) _=true from F];have f:Hid (Zb9 _ _ _=Zbu _ _ _):=hid (by rw[C,Zxa z X F]);clear F
      go_wp2_with fail
      refine(a9 _ R k _ _ B Om HM).mono ?_;rintro e w9 ⟨pv,v,rfl,j,i,c⟩;have l:=hid (Zj E c);have P:=hid j;clear c j;go_wp2;go_ret2;exact⟨_,_,rfl,P,by rwa [f.out],l⟩
     ·rw[show isT (bl ⟨#[40]⟩) _=false from Yce.2 F];have T:=hid F;have Z:Hid (bl tx=(LS.hd _).txt):=I.2.2.1;clear F
      go_wp2_with fail
      refine(ZpX _ _).mono ?_;rintro e wq ⟨rfl,rfl⟩;rw[Z];cases Q:idx (LS.hd ts).txt ZW with
      | some g=>
       have f:Hid (Zb9 _ _ _=Zcb _ g _ _):=hid (by rw[C,Zw3 z X T Q]);have a7:Hid (bl _=ZW.getD g _):=hid (by rw[ZlM Q,Z]);rw[show(some g).isSome=true from rfl];clear Q
       go_upto_region 17 with fail
       refine ZP fun W8 a=>?_;have s:Hid _:=a▸B.step U.out;have x:Hid _:=a▸ZA E.out (Or.inl rfl);have M:Hid (BAt _ _ _ _):=a▸O.other (by show y.heap.size≠R.b;omega) _;clear a rc0 rc1 rfz t2 B E O;have t2:=M.cell
       go_wp2_with fail
       refine(ZwJ a9 g a7 _ R _ _ _ s Om (by show ts.tail.length<=m;have:=HM.out;rw[Yb4];omega)).mono ?_;rintro e w9 ⟨pv,v,rfl,j,i,c⟩;have l:=hid (Zj x c);have P:=hid j;clear c j;go_wp2;go_ret2;exact⟨_,_,rfl,P,by rwa [f.out],l⟩
      | none=>
       rw[show(none).isSome=false from rfl];have b5:=hid Q;clear Q
       go_wp2_with fail
       refine(ZpZ _ _).mono ?_;rintro e wq ⟨rfl,rfl⟩;rw[Z];cases S:idx (LS.hd ts).txt Z0 with
       | some o=>
        have f:Hid (Zb9 _ _ _=winP o _):=hid (by rw[C,Zw9 z X T b5 S]);have a7:Hid (bl _=Z0.getD o _):=hid (by rw[ZlM S,Z]);rw[show(some o).isSome=true from rfl];clear S
        go_upto_region 20 with fail
        refine ZP fun W8 a=>?_;have s:Hid _:=a▸B.step U.out;have x:Hid _:=a▸ZA E.out (Or.inl rfl);have M:Hid (BAt _ _ _ _):=a▸O.other (by show y.heap.size≠R.b;omega) _;clear a rc0 rc1 rfz t2 B E O;have t2:=M.cell
        go_wp2_with fail
        refine(ZEK s o a7).mono ?_;rintro e w9 ⟨pv,v,rfl,j,i,c⟩;have l:=hid (Zj x c);have P:=hid j;clear c j;go_wp2;go_ret2;exact⟨_,_,rfl,P,by rwa [f.out],l⟩
       | none=>
        rw[show(none).isSome=false from rfl];have f:Hid (Zb9 _ _ _=bnd _ _):=hid (by rw[C,Zw8 z X T b5 S]);clear S
        go_wp2_with fail
        refine(Zsd B).mono ?_;rintro e w9 ⟨nm,la,ln,lc,v,rfl,i,c⟩;have l:=hid (Zj E c);clear c;go_wp2;go_ret2;refine⟨_,_,rfl,.inr ⟨_,_,rfl⟩,?_,l⟩;rw[f];cases a8:selP ts with
        | error er=>exact i.err a8
        | ok pr=>
         obtain⟨nd,r3⟩:=pr;obtain⟨h1,h2,h3,h4⟩:=i.good a8;exact⟨h1,h2,.inr (.inl ⟨(Zkq a8).2.1,nm,la,ln,lc,rfl,h3,h4⟩)⟩
theorem ZzN{p:PTok}(h:Zdf p u)(d:Zdt u)(e:u.jj<=5)(f:lv<=2){kd op:Nat}(c:LS.opAt lv u=some (kd,op)):∃j,opOf p=some j/\j<=4/\Zdb j=lv/\opNo (nd0 kd op)=j/\(kd=4∨kd=6)/\¬(u.jj=0∨u.jj=5):=by
 have m0:ZdF p ⟨#[111,114]⟩=isT wOr u:=Znz h d e Dc Dc;have m1:ZY p ⟨#[43]⟩=isT [43] u:=ZdP h d e Dc Dc;have m2:ZY p ⟨#[45]⟩=isT [45] u:=ZdP h d e Dc Dc;have m3:ZY p ⟨#[42]⟩=isT [42] u:=ZdP h d e Dc Dc;have m4:ZY p ⟨#[47]⟩=isT [47] u:=ZdP h d e Dc Dc;unfold opOf;rw[m0,m1,m2,m3,m4];unfold LS.opAt at c;rcases(by omega:lv=0∨lv=1∨lv=2)with rfl|rfl|rfl
 ·by_cases a:isT wOr u=true
  ·rw[if_pos rfl,if_pos a]at c;injection c with c;injection c with h1 h2;subst h1 h2;rw[if_pos a];exact⟨0,rfl,by decide,rfl,rfl,.inr rfl,Zd3 a⟩
  ·rw[if_pos rfl,if_neg a]at c;cases c
 ·rw[if_neg Dc,if_pos rfl]at c;by_cases a:isT [43] u=true
  ·rw[if_pos a]at c;injection c with c;injection c with h1 h2;subst h1 h2;rw[ZeV a Dc,if_neg Dc,if_pos a];exact⟨1,rfl,by decide,rfl,rfl,.inl rfl,Zd3 a⟩
  ·rw[if_neg a]at c;by_cases b:isT [45] u=true
   ·rw[if_pos b]at c;injection c with c;injection c with h1 h2;subst h1 h2;rw[ZeV b Dc,if_neg Dc,if_neg a,if_pos b];exact⟨2,rfl,by decide,rfl,rfl,.inl rfl,Zd3 b⟩
   ·rw[if_neg b]at c;cases c
 ·rw[if_neg Dc,if_neg Dc]at c;by_cases a:isT [42] u=true
  ·rw[if_pos a]at c;injection c with c;injection c with h1 h2;subst h1 h2;rw[ZeV a Dc,if_neg Dc,ZeV a Dc,if_neg Dc,ZeV a Dc,if_neg Dc,if_pos a];exact⟨3,rfl,by decide,rfl,rfl,.inl rfl,Zd3 a⟩
  ·rw[if_neg a]at c;by_cases b:isT [47] u=true
   ·rw[if_pos b]at c;injection c with c;injection c with h1 h2;subst h1 h2;rw[ZeV b Dc,if_neg Dc,ZeV b Dc,if_neg Dc,ZeV b Dc,if_neg Dc,if_neg a,if_pos b];exact⟨4,rfl,by decide,rfl,rfl,.inl rfl,Zd3 b⟩
   ·rw[if_neg b]at c;cases c
theorem ZzL{p:PTok}(h:Zdf p u)(a:Zdt u)(c:u.jj<=5)(e:lv<=2)(d:LS.opAt lv u=none):opOf p=none∨∃j,opOf p=some j/\j<=4/\Zdb j≠lv:=by
 have m0:ZdF p ⟨#[111,114]⟩=isT wOr u:=Znz h a c Dc Dc;have m1:ZY p ⟨#[43]⟩=isT [43] u:=ZdP h a c Dc Dc;have m2:ZY p ⟨#[45]⟩=isT [45] u:=ZdP h a c Dc Dc;have m3:ZY p ⟨#[42]⟩=isT [42] u:=ZdP h a c Dc Dc;have m4:ZY p ⟨#[47]⟩=isT [47] u:=ZdP h a c Dc Dc;unfold opOf;rw[m0,m1,m2,m3,m4];unfold LS.opAt at d;generalize isT wOr u=b0 at *
 generalize isT [43] u=b1 at *
 generalize isT [45] u=b2 at *
 generalize isT [42] u=b3 at *
 generalize isT [47] u=b4 at *
 rcases (by omega : lv = 0 ∨ lv = 1 ∨ lv = 2) with rfl | rfl | rfl <;> cases b0 <;> cases b1 <;> cases b2 <;> cases b3 <;> cases b4 <;> first
   | exact Or.inl rfl
   | exact Or.inr ⟨0,rfl,by decide,by decide⟩
   | exact Or.inr ⟨1,rfl,by decide,by decide⟩
   | exact Or.inr ⟨2,rfl,by decide,by decide⟩
   | exact Or.inr ⟨3,rfl,by decide,by decide⟩
   | exact Or.inr ⟨4,rfl,by decide,by decide⟩
   | cases d
theorem ZAd    (h : lv ≠ 3) : Zs (n + 1) false lv .nil ts deep = bnd (Zs n false (lv + 1) .nil ts deep) fun a r => Zs n true lv a r deep := by
  show(if lv=3 then _ else _)=_;rw[if_neg h]
theorem ZAc    : Zs (n + 1) false 3 .nil ts deep = Zb9 (fun lv ts d => Zs n false lv .nil ts d) ts deep := by
  show(if 3=3 then _ else _)=_;rw[if_pos rfl]
theorem ZAg(h:LS.opAt lv (hd ts)=none):Zs (n+1) true lv a ts deep=.ok (a,ts):=by
 show(match LS.opAt lv (hd ts)with|none=>_|some p=>_)=_;rw[h]
theorem ZAe     {p : Nat × Nat} (h : LS.opAt lv (hd ts) = some p) : Zs (n + 1) true lv a ts deep = bnd (Zs n false (lv + 1) .nil ts.tail deep) fun b r => Zs n true lv (.node 0 0 (nd0 p.1 p.2) a b) r deep := by
  show(match LS.opAt lv (hd ts)with|none=>_|some p=>_)=_;rw[h]
def RP(lv n:Nat):Prop:=ZeO 28 (fun d=>[Vi lv,Vi (d+1:Nat)]) (fun ts d=>Zs n false lv .nil ts d) (fun ts=>10*ts.length+5<=n+lv)
def RF(n:Nat):Prop:=ZeO 51 (fun d=>[Vi (d+1:Nat)]) (fun ts d=>Zs n false 3 .nil ts d) (fun ts=>10*ts.length+2<=n)
theorem ZAh(g:RF n):RP 3 n:=by
 intro w R k ts deep h hd c;have i:Hid (Calls _ _ #[.pointer _,.int _ _] w _):=g w R k _ _ h hd (by show 10*ts.length+2<=n;have m:=c;omega);go_enter func28,ntmps28
 go_wp2_with fail
 refine i.mono ?_;rintro e y ⟨pv,v,rfl,d,a,j⟩;have f:=hid d;have l:=hid j;go_wp2;go_ret2;exact⟨_,_,rfl,f,a,l⟩
theorem ZAj(N:lv<=2)(hp:∀m,m<=n->RP (lv+1) m):RP lv (n+1):=by
 intro w R k ts deep h hd a2;have H:=hid h;have HD:=hid hd;have c2:=a2;have c5:=(Yae.1 h.rd.cells).1;have HC:Hid (∀m,m<=n->∀(w:World) (k:Nat) (ts:List _),RK w R k _->10*ts.length+5<=m+(lv+1)->Calls _ _ #[.pointer _,.int _ ((lv)+1),.int _ ((deep)+1)] w fun e C=>∃(pv v:Value),e=.returned _/\Zhp _/\Hid (Res R _ _ (Zs m _ _ _ _ _) v)/\w.grownBy _ _):=hid (fun m hm w k ts h1 h2=>hp m hm w R k ts _ h1 hd h2);have h3:((lv:Int) == 3)=false:=by rw[beq_eq_false_iff_ne];omega
 obtain⟨PR,O⟩:∃PR,PR=Zs (n+1) false lv .nil ts deep:=⟨_,rfl⟩
 have P:Hid (PR=bnd _ _):=hid (by rw[O,ZAd Om]);show Calls _ _ _ _ (fun e C=>∃(pv v:Value),e=.returned (.tuple #[pv,v])/\Zhp pv/\Hid (Res R (fun C t=>Zh C t pv) C (Zs (n+1) false lv .nil ts deep) v)/\w.grownBy C (some R.b));rw[<-O];go_enter func28,ntmps28
 go_wp2_with fail
 refine(HC n (Yac _) w k _ H Om).mono ?_;rintro e w1 ⟨pv,v,rfl,a3,f,hg⟩;have Q:=hid hg;cases c:Zs n false (lv+1) .nil ts deep with
 | error er=>
  have Y:=hid (f.err c);obtain⟨fa,rfl⟩:=Y.shape;have D:Hid (PR=.error er):=by rw[P,c];rfl
  go_wp2;go_ret2;exact⟨_,_,rfl,.inl rfl,by rwa [D.out],Q⟩
 | ok pr=>
  obtain⟨a0,r0⟩:=pr;obtain⟨rfl,⟨k1,a4⟩,hv⟩:=f.good c;have a5:=hid a4;have a6:=hid hv;have a7:Hid (Zs n true lv a0 r0 deep=PR):=by rw[P,c];rfl
  have c3:r0.length+1<=ts.length:=Zg1 n _ _ _ _ _ _ c;go_wp2
  go_loopg [8] r0.length (fun g v8 wr=>∃(a:Tr) (r:List Tok) (k2 m:Nat),g=r.length/\Hid (Zh wr a v8)/\Hid (RK wr R k2 r)/\Hid (10*r.length+5<=m/\m<=n/\Zs m true lv a r deep=PR)/\Hid (w.grownBy wr (some R.b)))
  case atStart=>exact⟨a0,r0,k1,n,rfl,a6,a5,⟨by omega,Yac _,a7⟩,Q⟩
  case round=>
   obtain⟨a,r,k2,m,c6,HV,HK,E,HG⟩:=hrel;obtain⟨m,rfl⟩:∃m',m=m'+1:=⟨m - 1,by have:=E.1;omega⟩
   obtain⟨ty,u,a8⟩:=Zh.shape HV;subst a8
   go_wp2_with fail
   refine(Zee HK).mono ?_;rintro e z ⟨⟨kd,at_,tx,tv⟩,rfl,ht,F⟩;have S:=hid (HK.below F);have a9:=hid (HV.below F);have b0:=hid (Zj HG (Zw F));have o:=hid S.wf.head
   go_wp2_with fail
   refine(ZzQ ⟨kd,at_,tx,tv⟩).mono ?_;rintro e w3 ⟨rfl,G⟩;have d:=hid (S.below G);have q:=hid (a9.below G);have s:=hid (Zj b0 (Zw G));cases i:LS.opAt lv (LS.hd r)with
   | none=>
    have l:Hid (PR=.ok _):=hid (by rw[<-E.2.2,ZAg i]);rcases ZzL ht.out o.1 o.2.2 N i with B|⟨j,B,I,b1⟩
    ·rw[B];go_wp2;go_ret2;exact⟨_,_,rfl,.inr ⟨_,_,rfl⟩,l.out▸⟨rfl,⟨_,d.out⟩,q.out⟩,s⟩
    ·rw[B];have b2:((Zdb j:Int) != lv)=true:=by rw[bne_iff_ne];omega
     rw[show(some j).getD 0=j from rfl,show(some j).isSome=true from rfl]
     go_wp2_with (go_at_call 53;refine cret (Zm0 j I) ?_)
     go_ret2;exact⟨_,_,rfl,.inr ⟨_,_,rfl⟩,l.out▸⟨rfl,⟨_,d.out⟩,q.out⟩,s⟩
   | some p=>
    obtain⟨j,B,I,b1,T,J,x⟩:=ZzN ht.out o.1 o.2.2 N i;have l:Hid ((bnd _ _)=PR):=hid (by rw[<-E.2.2,ZAe i]);have U:Hid (opNo _=j/\(p.1=4∨p.1=6)):=⟨T,J⟩
    have b3:=hid x;have b2:((Zdb j:Int) != lv)=false:=by rw[bne_eq_false_iff_eq];omega
    rw[B,show(some j).getD 0=j from rfl,show(some j).isSome=true from rfl];obtain⟨rc0,rc1,rfz,rcx⟩:=d.rd.all;have c7:=d.lt;have c8:=d.len;have c9:=E.1;have d0:=E.2.1;clear i B T J x rcx
    go_upto_region 10 with (go_at_call 53;refine cret (Zm0 j I) ?_)
    refine ZP fun W8 A=>?_;have K:Hid _:=A▸d.step b3.out;have b4:Hid _:=A▸ZA s.out (Or.inl rfl);have b5:Hid (Zh W8 a (.iface ty u)):=A▸q.read d.out (ZA (ZbM _ _) (Or.inl rfl));have c4:=d.pos;have L:=K.pos;rw[Yb4]at L;clear A rc0 rc1 rfz d s q
    go_wp2_with fail
    refine(HC m Om _ _ _ K (by rw[Yb4];omega)).mono ?_;rintro e w9 ⟨pv,v,rfl,a3,f,V⟩;have W:=hid (Zj b4 V);have b6:=hid (b5.read K V);cases c:Zs m false (lv+1) .nil r.tail deep with
    | error er=>
     have Y:=hid (f.err c);obtain⟨fa,rfl⟩:=Y.shape;have D:Hid (PR=.error er):=by rw[<-l,c];rfl
     go_wp2;go_ret2;exact⟨_,_,rfl,.inl rfl,by rwa [D.out],W⟩
    | ok pr=>
     obtain⟨b,y⟩:=pr;obtain⟨rfl,⟨k9,b7⟩,X⟩:=f.good c;have b8:=hid b7;have b9:=hid X;have c1:Hid (Zs m true lv (.node 0 0 (nd0 p.1 p.2) a b) y deep=PR):=by rw[<-l,c];rfl
     have M:=Zg1 m _ _ _ _ _ _ c;simp only[Yb4,Yde,if_false]at M;obtain⟨ty2,u2,Z⟩:=Zh.shape X;subst Z;have a1:Hid (Zh _ (.node 0 0 _ a b) _):=hid (.inr (.inr (.inr (.inr (.inr ⟨U.2,_,_,by rw[U.1],b6,b9⟩)))));go_wp2
     go_roundg y.length
     case measure=>omega
     case rel=>exact⟨_,y,k9,m,rfl,a1,b8,⟨by omega,by omega,c1⟩,W⟩
theorem ZnQ:∀n,(∀lv,lv<=3->∀m,m<=n->RP lv m)/\(∀m,m<=n->RF m)
 | 0 => by
   constructor
   · intro lv f m c w R k ts deep _ _ a
     exact absurd (a) Om
   · intro m c w R k ts deep _ _ a
     exact absurd (a) Om
 | n + 1 => by
   obtain⟨d,g⟩:=ZnQ n
   have o:RF (n+1):=by
     intro w R k ts deep h hd a;have p:=a;show Calls _ _ _ _ (fun e u=>∃(pv v:Value),e=.returned (.tuple #[pv,v])/\Zhp pv/\Hid (Res R (fun u t=>Zh u t pv) u (Zs (n+1) false 3 .nil ts deep) v)/\w.grownBy u (some R.b));rw[ZAc];refine Zv2 ?_ (Zug ?_) w R k _ _ h hd (Yac _)
     · intro w R k ts2 deep h hd i
       exact g n (Yac _) w R k _ _ h hd (by show 10*ts2.length+2<=n;have j:=i;omega)
     · intro w R k ts2 deep h hd i
       exact d 0 Om n (Yac _) w R k _ _ h hd (by show 10*ts2.length+5<=n+0;have j:=i;omega)
   constructor
   · intro lv f m c
     by_cases l:m<=n
     · exact d _ f m l
     · obtain rfl:m=n+1:=by omega
       by_cases j:lv=3
       · subst j;exact ZAh o
       · exact ZAj Om (fun m c=>d _ Om m c)
   · intro m c
     by_cases l:m<=n
     · exact g m l
     · obtain rfl:m=n+1:=by omega
       exact o
attribute [local go_sem] ZhB ZkO ZkP ZkN ZkQ ZiT ZhA Zhz ZkL ZkK ZkM ZiS ZgB ZgA ZgC ZkR ZkS ZiU Zhx Zhw Zhy Zhv ZkJ ZiR ZhJ ZhI ZhK ZhH ZhL ZiV ZhE ZhD ZhF ZhC ZhG ZgD
def KR(tp:Addr)(t:Tr)(kd:Int)(err:Value):Prop:=(Zf t=0/\err=.iface 432 (.pointer (some tp)))∨(Zf t=1/\kd=0/\err=.nilIface)∨(Zf t=2/\kd=1/\err=.nilIface)
def Zgy(w:World)(tp:Addr):Prop:=w.cell? ⟨3,0,none⟩=some (.iface 432 (.pointer (some tp)))
theorem Zgy.below{w w':World}(h:Zgy w tp)(a:BW w w'):Zgy w' tp:=(a.cell (Yai _ _ h)).trans h
def KC(t:Tr):Prop:=∀(w:World) (v:Value) (tp:Addr),Zh w t v->Zgy w tp->
 Cz 31 #[v] w fun e w'=>∃(kd:Int) (err:Value),e=.returned (.tuple #[Vi kd,err])/\Hid (KR tp t kd err)/\BW w w'
theorem ZED{t:Tr}(h:KC t)(w:World){v:Value}(f:Zh w t v)(g:Zgy w tp) :
  Cz 55 #[v] w fun e j=>∃err:Value,e=.returned err/\Hid ((Zf t=2/\err=.nilIface)∨(Zf t≠2/\err=.iface 432 (.pointer (some tp))))/\BW w j:=by
 have k:=hid (h w v _ f g);have l:=hid g;obtain⟨ty,u,rfl⟩:=Zh.shape f;go_enter func55,ntmps55
 go_wp2_with fail
 refine k.mono ?_;rintro e y ⟨kd,err,rfl,m,i⟩;have d:=hid i;have n:y.cell? _=some _:=l.below i;rcases m.out with ⟨a,rfl⟩|⟨a,rfl,rfl⟩|⟨a,rfl,rfl⟩
 ·have c:=hid a;go_wp2;go_ret;exact⟨_,rfl,.inr ⟨by rw[c];decide,rfl⟩,d⟩
 ·have c:=hid a;go_wp2;go_ret;exact⟨_,rfl,.inr ⟨by rw[c];decide,rfl⟩,d⟩
 ·have c:=hid a;go_wp2;go_ret;exact⟨_,rfl,.inl ⟨c,rfl⟩,d⟩
theorem Zxy{x y:Nat}{a:Nd}{l r:Tr}(h:a.jj=4∨a.jj=6):Zf (.node x y a l r)=if Zf l=0∨Zf r=0∨(a.jj=6/\Zf l+Zf r≠4)then 0 else if Zf l+Zf r=2 then 1 else 2:=by
 show(if a.jj=0 then _ else _)=_;rw[if_neg Om,if_neg Om,if_neg Om,if_neg Om]
theorem ZxB{x y:Nat}{a:Nd}{l r:Tr}(D:a.jj=4∨a.jj=6)(F:KC l)(G:KC r)(w:World){vl vr:Value}(p:Zh w l vl)(d:Zh w r vr)(A:Zgy w tp) :
  Cz 56 #[.agg #[Vi (opNo a),vl,vr]] w fun e u=>∃(kd:Int) (err:Value),e=.returned (.tuple #[Vi kd,err])/\Hid (KR tp (.node x y a l r) kd err)/\BW w u:=by
 obtain⟨tyl,ul,rfl⟩:=Zh.shape p;obtain⟨tyr,ur,rfl⟩:=Zh.shape d;have q:=hid (Zxy (x:=x) (y:=y) (l:=l) (r:=r) D);have R:=hid d;have Q:=hid A;obtain⟨o,n⟩:∃o,o=opNo a:=⟨_,rfl⟩
 have H:(a.jj=6/\((o:Int) == 0)=true)∨(a.jj=4/\((o:Int) == 0)=false):=by
  rcases D with h|h
  ·right
   refine⟨h,?_⟩;rw[beq_eq_false_iff_ne,n];unfold opNo;rw[if_neg Om];omega
  ·left
   refine⟨h,?_⟩;rw[n];unfold opNo;rw[if_pos h];rfl
 rw[<-n];have I:=hid (fun W s=>F W _ _ (p.below s) (A.below s));have J:=hid (fun W s=>G W _ _ (d.below s) (A.below s));clear p d A F G D n;go_enter func56,ntmps56
 go_upto_region 1 with fail
 refine ZP fun T t=>?_;have v:Hid _:=t▸Zbal;have f:Hid (BAt _ _ _ 116):=t▸bnw;clear t;have p0:=f.cell 0;have p1:=f.cell 1;have p2:=f.cell 2;simp only[Zget]at p0 p1 p2
 go_wp2_with fail
 refine(I _ v).mono ?_;rintro e U ⟨kd,err,rfl,K,B⟩;have g:=hid (v.trans (B.mono v.size));have i:=hid (f.below B);have p0:=i.cell 0;have p1:=i.cell 1;have p2:=i.cell 2;simp only[Zget]at p0 p1 p2;rcases K.out with ⟨j,rfl⟩|⟨j,rfl,rfl⟩|⟨j,rfl,rfl⟩
 ·have E:Hid (Zf _=0):=hid (by rw[q,if_pos (.inl j)]);go_wp2;go_ret2;exact⟨_,_,rfl,.inl ⟨E,rfl⟩,g⟩
 all_goals
  have L:=hid j
  go_wp2_with fail
  refine(J _ g).mono ?_;rintro e z ⟨kd2,err2,rfl,M,C⟩;have c:=hid (g.trans (C.mono g.size));have N:=hid (i.below C);have S:z.cell? _=some _:=Q.below c;have p0:=N.cell;rcases M.out with ⟨k,rfl⟩|⟨k,rfl,rfl⟩|⟨k,rfl,rfl⟩
  ·have E:Hid (Zf _=0):=hid (by rw[q,if_pos (.inr (.inl k))]);go_wp2;go_ret2;exact⟨_,_,rfl,.inl ⟨E,rfl⟩,c⟩
  all_goals
   have O:=hid k;rcases H with ⟨P,n⟩|⟨P,n⟩
   all_goals
    have m:=hid (show Zf (.node x y a l r)=_ by rw[q.out,L.out,O.out,P])
    first
     | (go_wp2
        go_ret2;exact⟨_,_,rfl,by first|exact Or.inr (Or.inl ⟨by rw[m.out];rfl,rfl,rfl⟩)|exact Or.inr (Or.inr ⟨by rw[m.out];rfl,rfl,rfl⟩)|exact Or.inl ⟨by rw[m.out];rfl,rfl⟩,c.out⟩)
     | (go_wp2
        go_region
        all_goals
          go_wp2;go_ret2;exact⟨_,_,rfl,Or.inl ⟨by rw[m.out];rfl,rfl⟩,by exact⟨c.os,c.tape,c.output,c.size,c.block⟩⟩)
theorem Zl2:∀t:Tr,KC t
 | .nil=>fun _ _ _ h=>h.elim
 | .node x y a l r => by
   have k:=Zl2 l;have C:=Zl2 r;intro w v tp E s;rcases E with ⟨d,rfl⟩|⟨d,nm,la,ln,lc,rfl,_⟩|⟨d,F,nm,la,ln,lc,rfl,_⟩|⟨d,z,rfl,m⟩|⟨d,F,la,ln,lc,z,rfl,_,_,m⟩|⟨d,z1,z2,rfl,p,q⟩
   · have g:Hid (Zf (.node x y a l r)=1):=by show(if a.jj=0 then _ else _)=_;rw[if_pos d]
     go_enter func31,ntmps31;go_wp2;go_ret2;exact⟨_,_,rfl,.inr (.inl ⟨g,rfl,rfl⟩),belB⟩
   · have g:Hid (Zf (.node x y a l r)=2):=hid (by show(if a.jj=0 then _ else _)=_;rw[if_neg Om,if_pos (Or.inl d)])
     go_enter func31,ntmps31;go_wp2;go_ret2;exact⟨_,_,rfl,.inr (.inr ⟨g,rfl,rfl⟩),belB⟩
   · have g:Hid (Zf (.node x y a l r)=2):=hid (by show(if a.jj=0 then _ else _)=_;rw[if_neg Om,if_pos (Or.inr d)])
     go_enter func31,ntmps31;go_wp2;go_ret2;exact⟨_,_,rfl,.inr (.inr ⟨g,rfl,rfl⟩),belB⟩
   · have g:Hid (Zf (.node x y a l r)=Zf l):=by show(if a.jj=0 then _ else _)=_;rw[if_neg Om,if_neg Om,if_pos d]
     obtain⟨ty,u,rfl⟩:=Zh.shape m;have n:=hid (fun W c=>k W _ _ (m.below c) (s.below c));go_enter func31,ntmps31
     go_wp2_with fail
     refine Zm fun W c=>?_;have f:Hid (BW w W):=c▸belB;refine(n W f).mono ?_;rintro e D ⟨kd,err,rfl,i,o⟩;have j:=hid (f.trans (o.mono f.size));go_wp2;go_ret2;exact⟨_,_,rfl,by unfold KR;rw[g];exact i,j⟩
   · have g:Hid (Zf (.node x y a l r)=if Zf l=2 then 2 else 0):=by show(if a.jj=0 then _ else _)=_;rw[if_neg Om,if_neg Om,if_neg Om,if_pos d]
     obtain⟨ty,u,rfl⟩:=Zh.shape m;have n:=hid (fun W c=>ZED k W (m.below c) (s.below c));go_enter func31,ntmps31
     go_wp2_with fail
     refine Zm fun W c=>?_;have f:Hid (BW w W):=c▸belB;refine(n W f).mono ?_;rintro e D ⟨err,rfl,i,o⟩;have j:=hid (f.trans (o.mono f.size));go_wp2;go_ret2;refine⟨_,_,rfl,?_,j⟩;rcases i.out with ⟨A,B⟩|⟨A,B⟩
     · exact .inr (.inr ⟨by rw[g,if_pos A],rfl,B⟩)
     · exact .inl ⟨by rw[g,if_neg A],B⟩
   · obtain⟨ty,u,rfl⟩:=Zh.shape p
     obtain⟨ty2,u2,rfl⟩:=Zh.shape q;have n:Hid (∀W,Below _ w W->Calls _ _ _ W fun e G=>∃(kd:Int) (err:Value),e=.returned _/\Hid (KR _ (.node x y a l r) _ _)/\Below _ W _):=hid (fun W c=>ZxB d k C W (p.below c) (q.below c) (s.below c));go_enter func31,ntmps31
     go_wp2_with fail
     refine Zm fun W c=>?_;have f:Hid (BW w W):=c▸belB;refine(n W f).mono ?_;rintro e D ⟨kd,err,rfl,i,o⟩;have j:=hid (f.trans (o.mono f.size));go_wp2;go_ret2;exact⟨_,_,rfl,i,j⟩
end
section
theorem Zj5(s:BA)(k:Nat){h:k<s.size}(a:p s[k]=true):run p ((bl s).drop k)=run p ((bl s).drop (k+1))+1:=by
 rw[ZdW s k h,run,if_pos a]
theorem ZrY(s:BA)(k:Nat){h:k<s.size}(a:p s[k]=false):run p ((bl s).drop k)=0:=by
 rw[ZdW s k h,run,if_neg (a▸Ycv)]
theorem ZrU(s:BA)(k:Nat)(h:¬k<s.size):run p ((bl s).drop k)=0:=by
 rw[Yb8 (by rw[Zd];omega)];rfl
theorem ZBB(s:BA)(k:Nat)(w:World)(l:s.size<=6000)(g:k<=s.size) :
  Cz 45 #[.string s,Vi k,.func (.func 44) #[] #[]] w fun e u=>e=.returned (Vi ((k+run ZC ((bl s).drop k):Nat):Int))/\u=w:=by
 obtain⟨E,c⟩:∃E,E=k+run ZC ((bl s).drop k):=⟨_,rfl⟩
 rw[<-c];have h:=hid c;clear c;go_enter func45,ntmps45;go_wp2
 go_loop [1] (fun i=>∃j:Nat,j<=s.size/\i=Vi j/\Hid (E=j+run ZC ((bl s).drop j))) (fun i=>s.size - (intOf i).toNat)
 case atStart=>exact⟨k,g,rfl,h⟩
 case round=>
  obtain⟨j,m,rfl,d⟩:=hrel;by_cases f:j<s.size
  ·cases hd:ZC s[j]
   ·have a:Hid (E=j):=by rw[d,ZrY s j hd];rfl
    go_wp2_with (go_at_call 44;refine cret (Zdk) ?_)
    go_ret;exact⟨by rw[a];rfl,rfl⟩
   ·have a:Hid (E=(j+1)+run ZC ((bl s).drop (j+1))):=hid (by rw[d,Zj5 s j hd];omega)
    go_wp2_with (go_at_call 44;refine cret (Zdk) ?_)
    go_round
    case rel=>exact⟨j+1,by omega,by go_num,a⟩
    case measure=>simp[intOf];omega
  ·have a:Hid (E=j):=by rw[d,ZrU s j f];rfl
   go_wp2;go_ret;exact⟨by rw[a];rfl,rfl⟩
theorem ZBD(s:BA)(k:Nat)(w:World)(l:s.size<=6000)(g:k<=s.size) :
  Cz 45 #[.string s,Vi k,.func (.func 47) #[] #[]] w fun e u=>e=.returned (Vi ((k+run Zp ((bl s).drop k):Nat):Int))/\u=w:=by
 obtain⟨E,c⟩:∃E,E=k+run Zp ((bl s).drop k):=⟨_,rfl⟩
 rw[<-c];have h:=hid c;clear c;go_enter func45,ntmps45;go_wp2
 go_loop [1] (fun i=>∃j:Nat,j<=s.size/\i=Vi j/\Hid (E=j+run Zp ((bl s).drop j))) (fun i=>s.size - (intOf i).toNat)
 case atStart=>exact⟨k,g,rfl,h⟩
 case round=>
  obtain⟨j,m,rfl,d⟩:=hrel;by_cases f:j<s.size
  ·cases hd:Zp s[j]
   ·have a:Hid (E=j):=by rw[d,ZrY s j hd];rfl
    go_wp2_with (go_at_call 47;refine cret (Zd2) ?_)
    go_ret;exact⟨by rw[a];rfl,rfl⟩
   ·have a:Hid (E=(j+1)+run Zp ((bl s).drop (j+1))):=hid (by rw[d,Zj5 s j hd];omega)
    go_wp2_with (go_at_call 47;refine cret (Zd2) ?_)
    go_round
    case rel=>exact⟨j+1,by omega,by go_num,a⟩
    case measure=>simp[intOf];omega
  ·have a:Hid (E=j):=by rw[d,ZrU s j f];rfl
   go_wp2;go_ret;exact⟨by rw[a];rfl,rfl⟩
theorem Zqi(h:∀z,z∈ns ↔ z∈ms)(l:List Lab):ZB l ns=ZB l ms:=by
 unfold ZB
 simp_all
theorem ZpH(h:∀z,z∈ns ↔ z∈ms)(op:Nat)(all:List El):∀(l pre:List El),ZcF op ns all pre l=ZcF op ms all pre l
 | [],_=>rfl
 | e :: l, pre => by
   rw[ZcF,ZcF,ZpH h _ _ l _];have a:(fun f:El=>ZB _ _)=fun f=>ZB f.1 _:=funext fun f=>Zqi h _;simp only[Zqi h]
theorem ZpJ(h:∀z,z∈ns ↔ z∈ms)(op:Nat)(l:List El):Zcv op ns l=Zcv op ms l:=by unfold Zcv;rw[ZpH h]
section
variable {jx:List Nq} {W:Nat->Cq->Cq} {c d e:Cq} {U U' U1 U2:Nat->Bool} {K K1 K2:Nat->Prop} {T:Nat->Nat} {n m x y N:Nat}
def IS(c:Cq)(x:Nat):Prop:=∃s,s<16/\c.jy.getD s none=some (x:Int)
def Rch(jx:List Nq)(S:Nat->Prop)(m:Nat)(x:Nat):Prop:=∀P:Nat->Nat->Prop,(∀ {m x:Nat},¬S m->x∈Zg (jx.getD m nq0)->P m x)->(∀ {m y x:Nat},¬S m->y∈Zg (jx.getD m nq0)->P y x->P m x)->P m x
theorem Rch.last{jx:List Nq}{m x:Nat}(a:¬S m)(f:x∈Zg (jx.getD m nq0)):Rch jx S m x:=fun _ k0 _=>k0 a f
theorem Rch.step{jx:List Nq}{m y x:Nat}(a:¬S m)(f:y∈Zg (jx.getD m nq0))(g:Rch jx S y x):Rch jx S m x:=fun P k0 k1=>k1 a f (g P k0 k1)
theorem Rch.ind{jx:List Nq}{motive:∀m x,Rch jx S m x->Prop}(last:∀ {m x:Nat} (h1:¬S m) (h2:x∈Zg (jx.getD m nq0)),motive m x (Rch.last h1 h2))(step:∀ {m y x:Nat} (h1:¬S m) (h2:y∈Zg (jx.getD m nq0)) (h3:Rch jx S y x),motive y x h3->motive m x (Rch.step h1 h2 h3)){m:Nat}{x:Nat}(h:Rch jx S m x):motive m x h:=by
 obtain⟨_,k⟩:=h (fun m x=>∃h,motive m x h) (fun h1 h2=>⟨_,last h1 h2⟩) (fun h1 h2 ⟨h3,h3_k⟩=>⟨_,step h1 h2 h3 h3_k⟩);exact k
theorem Rch.inv(h:Rch jx S m x):(¬S m/\x∈Zg (jx.getD m nq0))∨∃y,¬S m/\y∈Zg (jx.getD m nq0)/\Rch jx S y x:=by
 induction h using Rch.ind with
 | last a f=>exact .inl ⟨a,f⟩
 | step a f g _=>exact .inr ⟨_,a,f,g⟩
theorem Rch.head(h:Rch jx S m x):¬S m:=by induction h using Rch.ind <;> assumption
theorem Rch.gt(a:NOk jx)(h:Rch jx S m x):x<m:=by
 induction h using Rch.ind with
 | last _ h=>exact Zcf a _ _ h
 | step _ h _ ih=>exact Nat.lt_trans ih (Zcf a _ _ h)
theorem Rch.mono{S':Nat->Prop}(f:NOk jx)(h:Rch jx S m x):(∀y,x<y->¬S y->Rch jx S y x->¬S' y)->Rch jx S' m x:=by
 induction h using Rch.ind with
 | last g a=>exact fun i=>.last (i _ (Zcf f _ _ a) g (.last g a)) a
 | step g a j ih=>exact fun i=>.step (i _ (Nat.lt_trans (j.gt f) (Zcf f _ _ a)) g (.step g a j)) a (ih i)
structure Pt (jx:List Nq) (c:Cq) (U:Nat->Bool) (d:Cq) (U':Nat->Bool) (K:Nat->Prop):Prop where
 sub:∀x,U' x=true->U x=true
 wrk:∀m,¬IS c m->IS d m->K m
 rch:∀x,U' x=true->∀m,K m->¬Rch jx (IS c) m x
 stay:∀x,U' x=true->∀s,c.jy.getD s none=some (x:Int)->d.jy.getD s none=some (x:Int)
theorem Pt.keep(a:NOk jx)(h:Pt jx c U d U' K)(f:U' x=true)(g:Rch jx (IS c) m x):Rch jx (IS d) m x:=
 g.mono a (fun y _ i j hd=>h.rch x f y (h.wrk y i hd) j)
theorem Pt.trans (g : NOk jx) (h : Pt jx c U d U1 K1) (q : Pt jx d U2 e U' K2) : Pt jx c U e (fun x => U1 x && U' x) (fun m => K1 m ∨ K2 m) := by
  refine⟨fun x a=>?_,fun m j k=>?_,fun x a m f i=>?_,fun x a s l=>?_⟩
  · rw[Yas]at a;exact h.sub x a.1
  · by_cases hd:IS d m
    · exact .inl (h.wrk m j hd)
    · exact .inr (q.wrk m hd k)
  · rw[Yas]at a
    rcases f with f|f
    · exact h.rch x a.1 m f i
    · exact q.rch x a.2 m f (h.keep g a.1 i)
  · rw[Yas]at a;exact q.stay x a.2 s (h.stay x a.1 s l)
theorem Pt.same(h:Pt jx c U d U' K)(f:e.jy=d.jy):Pt jx c U e U' K:=
 ⟨h.sub,fun m a i=>h.wrk m a (by unfold IS at *;simp_all),h.rch,fun x g s a=>by rw[f];exact h.stay x g s a⟩
theorem Pt.from_(h:Pt jx c U d U' K)(a:e.jy=c.jy):Pt jx e U d U' K:=by
 have f:IS e=IS c:=by unfold IS;rw[a]
 exact⟨h.sub,fun m g i=>h.wrk m (by simp_all) i,f▸h.rch,fun x j s g=>h.stay x j s (by simp_all)⟩
theorem Pt.still(c:Cq)(U:Nat->Bool):Pt jx c U c U (fun _=>False):=⟨fun _ h=>h,fun _ a f=>absurd f a,fun _ _ _ h=>h.elim,fun _ _ _ h=>h⟩
theorem Pt.less(h:Pt jx c U d U' K)(f:∀x,U1 x=true->U' x=true):Pt jx c U d U1 K:=⟨fun x a=>h.sub x (f x a),h.wrk,fun x a=>h.rch x (f x a),fun x a=>h.stay x (f x a)⟩
def Inv(N:Nat)(c:Cq)(U:Nat->Bool):Prop:=c.jy.length=16/\∀x,U x=true->IS c x/\x<N
theorem Pt.inv (h : Pt jx c U d U' K) (f : Inv N c U) (g : d.jy.length = 16) : Inv N d U' := ⟨g, fun x a => by
  obtain⟨⟨s,i,j⟩,k⟩:=f.2 x (h.sub x a);exact⟨⟨s,i,h.stay x a s j⟩,k⟩⟩
def psi(T:Nat->Nat)(U:Nat->Bool):Nat->Nat
 | 0=>0
 | n+1=>psi T U n+if U n=true then T n - 1 else 0
theorem ZjY{V:Nat->Bool} : ∀(N:Nat),(∀x,x<N->U x=V x)->psi T U N=psi T V N
 | 0,_=>rfl
 | N+1,h=>by unfold psi;rw[ZjY N (fun x a=>h x Om),h N Om]
theorem ZmV (a : U x = false) : ∀ (N : Nat), x < N -> psi T (fun z => U z || decide (z = x)) N = psi T U N + (T x - 1)
  | 0,h=>absurd h (Ya1 _)
  | N + 1, h => by
    unfold psi;by_cases e:x=N
    · subst e
      rw[ZjY (V:=U) x (fun z f=>by simp_all;omega)];simp[a]
    · rw[ZmV a N Om,show decide _=false by simp;omega]
      simp;omega
theorem ZAX (a : U x = true) {N:Nat} (h : x < N) : psi T (fun z => U z && !decide (z = x)) N + (T x - 1) = psi T U N := by
  rw[<-ZmV (by simp) N h];refine ZjY N (fun z _=>?_);by_cases e:z=x
  · simp_all
  simp_all
theorem ZmW:∀(N:Nat),(∀x,U x=false)->psi T U N=0
 | 0,_=>rfl
 | N+1,h=>by unfold psi;rw[ZmW N h,h N];rfl
theorem ZCn(h:ZK n l=none)(a:s<16):l.getD s none≠some (n:Int):=by
 unfold ZK at h
 simp_all
theorem IS.of(h:ZK n c.jy=none):¬IS c n:=fun⟨_,a,f⟩=>ZCn h a f
theorem ZCl(h:ZK n c.jy=some s):IS c n:=⟨s,Zha h⟩
def WBd(jx:List Nq)(T:Nat->Nat)(W:Nat->Cq->Cq)(n:Nat):Prop:=∀c U,Inv jx.length c U->¬IS c n->∃U' K,Pt jx c U (W n c) U' K/\K n/\(W n c).jy.length=16/\(W n c).jz.length+psi T U jx.length+2<=c.jz.length+T n+psi T U' jx.length
theorem Pt.kept(h:Pt jx c U d U' K)(o:K n)(p:d.jy.getD s none=none)(f:e.jy=d.jy.set s (some (n:Int))):Pt jx c U e U' K:=by
 refine⟨h.sub,fun m i j=>?_,h.rch,fun x k s' g=>?_⟩
 ·obtain⟨s',l,a⟩:=j;rw[f,Zc0]at a;split at a
  ·injection a with a;have:m=n:=by omega
   simp_all
  ·exact h.wrk m i ⟨s',l,a⟩
 ·have:=h.stay x k _ g;rw[f,Zc0,if_neg (fun e=>by simp_all)];omega
theorem Zj1(t:WBd jx T W n)(B:4<=T n)(g:Inv jx.length c U):∃U' K,Pt jx c U (putQ jx W n c) U' K/\U' n=false/\(¬IS c n->K n)/\(putQ jx W n c).jy.length=16/\(putQ jx W n c).jz.length+psi T U jx.length<=c.jz.length+T n+psi T U' jx.length:=by
 have hid:Inv _ (decL n c) U:=g;cases f:ZK n c.jy with
 | some s=>
  obtain⟨o,p⟩:=Zha f
  have A : psi T U jx.length + 1 <= T n + psi T (fun z => U z && !decide (z = n)) jx.length := by
    cases l:U n with
    | true=>have:=ZAX (T:=T) l (g.2 n l).2;omega
    | false=>
      rw [ZjY (V := fun z => U z && !decide (z = n)) _ (fun z _ => by
        by_cases e:z=n
        · simp_all
        simp_all)]
      omega
  rw[Zd8 f];refine⟨fun z=>U z && !decide (z=n),fun _=>False,?_,by simp,fun h=>absurd (ZCl f) h,?_,?_⟩
  ·have u : ∀ {x : Nat} {s' : Nat}, x ≠ n -> c.jy.getD s' _ = some (x : Int) -> (c.jy.set s none).getD s' _ = some _ := fun i h => by
     rw[Zc0,if_neg (fun e=>by simp_all;omega)];exact h
   split
   ·refine⟨fun x i=>by simp_all,fun m a j=>?_,fun _ _ _ h=>h.elim,fun x i s' a=>?_⟩
    ·obtain⟨s',q,k⟩:=j;simp only at k;rw[Zc0]at k;split at k
     ·cases k
     ·exact a ⟨s',q,k⟩
    ·simp at i;exact u i.2 a
   ·exact⟨fun x i=>by simp_all,fun m a j=>absurd j a,fun _ _ _ h=>h.elim,fun x _ s' a=>a⟩
  ·split
   ·simp only[Yat];exact g.1
   ·exact g.1
  ·split <;> simp only[Zc,decL,Yab,Ybj] <;> omega
 | none=>
  obtain⟨U',K,o,p,a,j⟩:=t (decL n c) U hid (IS.of f);have r:=o.from_ (e:=c) rfl
  have v:U' n=false:=by
   cases l:U' n with
   | false=>rfl
   | true=>exact absurd (g.2 n (o.sub n l)).1 (IS.of f)
  have q:(W n _).jz.length+psi T U _+2<=c.jz.length+T n+psi T _ _:=j;rw[ZdR f];refine⟨U',K,?_,v,fun _=>p,?_,?_⟩
  ·split
   ·exact r
   ·split
    ·rename_i s w;exact r.kept p (ZdZ w).2 rfl
    omega
  ·split
   ·exact a
   ·split
    ·simp[Zc,ZZ,a]
    omega
  ·split
   ·omega
   ·split
    ·simp only[Zc,ZZ,Yab,Ybj];omega
    ·omega
end
end
section
section
variable {jx:List Nq} {W:Nat->Cq->Cq} {c d e:Cq} {U U' U1 U2:Nat->Bool} {K K1 K2:Nat->Prop} {T:Nat->Nat} {n m x y N:Nat}
theorem Zpn (a : NOk jx) : ∀ (ts : List Nat) (c : Cq) (U : Nat -> Bool), (∀ t ∈ ts, WBd jx T W t /\ 4 <= T t) -> Inv jx.length c U -> ∃ U' K, Pt jx c U (ts.foldl (fun c t => putQ jx W t c) c) U' K /\ (∀ t ∈ ts, U' t = false /\ ∀ x, U' x = true -> ¬ Rch jx (IS c) t x) /\ (ts.foldl (fun c t => putQ jx W t c) c).jy.length = 16 /\ (ts.foldl (fun c t => putQ jx W t c) c).jz.length + psi T U jx.length <= c.jz.length + (ts.map T).sum + psi T U' jx.length
  | [],c,U,_,g=>⟨U,_,Pt.still c U,fun t p=>(by cases p),g.1,by simp⟩
  | t :: ts, c, U, l, g => by
    obtain⟨U1,K1,h,s,q,r,u⟩:=Zj1 (l t (Yay ..)).1 (l t (Yay ..)).2 g;have o:=h.inv g r;obtain⟨U2,K2,q1,q2,q3,q4⟩:=Zpn a ts (putQ jx W t c) U1 (fun z i=>l z (Yam _ i)) o;have f:=q1.sub;rw[Ybp];refine⟨U2,fun m=>K1 m∨K2 m,(h.trans a q1).less (fun z i=>by simp_all),fun z i=>?_,q3,?_⟩
    · rcases Yau.1 i with e|e
      · subst e
        refine⟨?_,fun x j k=>h.rch x (f x j) z (q k.head) k⟩;cases v:U2 z with
        | false=>rfl
        | true=>simp_all
      · exact⟨(q2 z e).1,fun x j k=>(q2 z e).2 x j (h.keep a (f x j) k)⟩
    simp_all;omega
theorem Zoh(j:c.jy=sl):∀(f n:Nat) (k:List Nat) (y:Nat),k.getD y 0<(cntQ jx sl f n k).getD y 0->y=n∨Rch jx (IS c) n y
 | 0,n,k,y,h=>absurd h (Nat.lt_irrefl _)
 | f + 1, n, k, y, h => by
   by_cases e:y=n
   · omega
   · right
     have l:(bump k n).getD y 0=k.getD y 0:=by unfold bump;rw[Zf2,if_neg (fun h=>e h.1)]
     unfold cntQ at h;simp only at h;split at h
     · omega
     · rename_i q
       have a:¬IS c n:=by
         intro o;cases r:ZK n sl with
         | none=>exact IS.of (by simp_all) o
         | some s=>simp_all
       rw[<-l]at h
       have key : ∀ (ts : List Nat) (k : List Nat), (∀ t ∈ ts, t ∈ Zg (jx.getD n nq0)) -> k.getD y 0 < (ts.foldl (fun k t => cntQ jx sl f t k) k).getD y 0 -> Rch jx (IS c) n y := by
         intro ts
         induction ts with
         | nil=>simp
         | cons t ts ih=>
           intro k g h;rw[Ybp]at h;by_cases i:k.getD y 0<(cntQ jx sl f t k).getD y 0
           · rcases Zoh j f t k y i with e1|e1
             · apply Rch.last<;>simp_all
             · exact .step a (g _ (Yay ..)) e1
           · exact ih _ (fun z p=>g z (Yam _ p)) (Nat.lt_of_le_of_lt (Nat.le_of_not_lt i) h)
       exact key _ _ (fun _ h=>h) h
theorem Zqw{p:Nat->Bool} : ∀(n:Nat),ZbT p n=some x->p x=true
 | 0,h=>by cases h
 | n + 1, h => by
   unfold ZbT at h;split at h
   · simp_all
   · exact Zqw n h
theorem Zsj(h:ZbY jx n c=some x):¬IS c x/\(x=n∨Rch jx (IS c) n x):=by
 unfold ZbY at h;have:=Zqw _ h;unfold ZcX at this;simp only[Yas,decide_eq_true_eq]at this;obtain⟨⟨⟨a,f⟩,_⟩,_⟩:=this;refine⟨IS.of (by simp_all),Zoh rfl _ _ _ _ (Nat.lt_of_le_of_lt ?_ a)⟩;rw[Yaa,Ybs];split <;> simp
structure Pn (jx:List Nq) (n:Nat) (d:Cq) (O Q:Nat->Bool):Prop where
 apart:∀x,O x=true->Q x=false
 way:∀x,Q x=true->x=n∨Rch jx (IS d) n x
theorem ZtB(g:d.jy.getD s none=none)(z:Nat):IS { d with jy:=d.jy.set s (some (-1)) } z ↔ IS d z:=by
 constructor
 ·rintro⟨s',f,a⟩;simp only at a;rw[Zc0]at a;split at a
  ·simp_all
  ·exact⟨s',f,a⟩
 ·rintro⟨s',f,a⟩;refine⟨s',f,?_⟩;simp only;rw[Zc0,if_neg (fun e=>by simp_all)];exact a
theorem ZnL (g : NOk jx) (H : ∀ z, z <= n -> z < jx.length -> WBd jx T W z /\ 4 <= T z) (I : ∀ z, z <= n -> ∀ c, c.jy.length = 16 -> Low z c (W z c)) (U : Nat -> Bool) (c : Cq) : ∀ (k : Nat) (d : Cq) (O Q : Nat -> Bool) (K : Nat -> Prop), Pt jx c U d O K -> Pn jx n d O Q -> Inv jx.length d (fun x => O x || Q x) -> d.jz.length + psi T U jx.length <= c.jz.length + psi T (fun x => O x || Q x) jx.length -> ∃ O Q K, Pt jx c U (ZG jx W n k d) O K /\ Pn jx n (ZG jx W n k d) O Q /\ Inv jx.length (ZG jx W n k d) (fun x => O x || Q x) /\ (ZG jx W n k d).jz.length + psi T U jx.length <= c.jz.length + psi T (fun x => O x || Q x) jx.length
  | 0,d,O,Q,K,l,j,f,p=>⟨O,Q,K,l,j,f,p⟩
  | k + 1, d, O, Q, K, l, j, f, p => by
    cases q:ZbY jx n d with
    | none=>rw[Zff (Or.inl q)];exact⟨O,Q,K,l,j,f,p⟩
    | some x=>
      cases A:ZbQ d.jy with
      | none=>rw[Zff (Or.inr A)];exact⟨O,Q,K,l,j,f,p⟩
      | some s=>
        rw[ZiP q A];obtain⟨B,J⟩:=ZdZ A;obtain⟨t,o⟩:=Zg9 g q;obtain⟨L,M⟩:=Zsj q;have u:IS { d with jy:=d.jy.set s (some (-1)) }=IS d:=funext fun z=>propext (ZtB J z);obtain⟨Z,hT⟩:=H x t o;have C:=I x t { d with jy:=d.jy.set s (some (-1)) } (by simp only[Yat];exact f.1);obtain⟨V,K2,p1,p2,p3,p4⟩:=Z { d with jy:=d.jy.set s (some (-1)) } (fun x=>O x || Q x) ⟨by simp only[Yat];exact f.1,fun z a=>by rw[u];exact f.2 z a⟩ (by simp_all);simp only at p4;generalize W x { d with jy:=d.jy.set s (some (-1)) }=e at *
        have R:(ZZ x s e).jy=e.jy.set s (some (x:Int)):=rfl;have D:∀s',s'≠s->(ZZ x s e).jy.getD s' none=e.jy.getD s' none:=fun s' E=>by rw[R,Zc0,if_neg (fun h=>E h.1)]
        have v:(ZZ x s e).jy.getD s none=some (x:Int):=by rw[R,Zc0,if_pos ⟨rfl,by omega⟩]
        have P : Pt jx d (fun x => O x || Q x) (ZZ x s e) V K2 := by
          refine⟨p1.sub,fun m r h6=>?_,fun z a m hm hr=>p1.rch z a m hm (by simp_all),fun z a s' r=>?_⟩
          · obtain⟨s',F,i⟩:=h6
            by_cases es:s'=s
            · subst es
              rw[v]at i;injection i with i;have:m=x:=by omega
              simp_all
            · rw[D s' es]at i
              exact p1.wrk m (by simp_all) ⟨s',F,i⟩
          · have es:s'≠s:=fun es=>by simp_all
            rw[D s' es];refine p1.stay z a s' ?_;simp only;rw[Zc0,if_neg (fun h=>es h.1)];exact r
        have S:V x=false:=by
          cases G:V x with
          | false=>rfl
          | true=>exact absurd (f.2 x (p1.sub x G)).1 L
        have X:=P.inv f (by simp_all)
        have w : (fun z => (O z && V z) || ((Q z && V z) || decide (z = x))) = fun z => V z || decide (z = x) := funext fun z => by
          cases G:V z with
          | false=>simp
          | true=>have:=p1.sub z G;simp only[Yct]at this;rcases this with h|h <;> simp[h]
        have Y:=ZmV (T:=T) S jx.length o;refine ZnL g H I U c k (ZZ x s e) (fun z=>O z && V z) (fun z=>(Q z && V z) || decide (z=x)) (fun m=>K m∨K2 m) (l.trans g P) ⟨fun z a=>?_,fun z a=>?_⟩ ?_ ?_
        · rw[Yas]at a
          have e1:z≠x:=fun e=>by simp_all
          simp[j.apart z a.1,e1]
        · rw[Yct,Yas,decide_eq_true_eq]at a
          rcases a with a|a
          · rcases j.way z a.1 with e1|e1
            · omega
            · exact Or.inr (P.keep g a.2 e1)
          · rw[a]
            rcases M with e1|e1
            · omega
            · refine Or.inr (e1.mono g (fun y hy E _ r=>?_))
              obtain⟨s',F,i⟩:=r;by_cases es:s'=s
              · simp_all;omega
              · rw[D s' es]at i
                have:=(C.sl s' y (Nat.le_of_lt hy)).1 i;exact E (by rw[<-u];exact⟨s',F,this⟩)
        · rw[w]
          refine⟨X.1,fun z a=>?_⟩;rw[Yct,decide_eq_true_eq]at a;rcases a with a|a
          · exact X.2 z a
          · rw[a];exact⟨⟨s,B,v⟩,o⟩
        · rw[w,Y]
          have:(ZZ x s e).jz.length=e.jz.length+1:=by simp[ZZ,Zc]
          omega
end

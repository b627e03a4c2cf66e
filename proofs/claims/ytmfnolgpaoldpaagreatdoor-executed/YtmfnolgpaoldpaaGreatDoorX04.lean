/- Parts. -/
import Derived.Test.YtmfnolgpaoldpaaGreatDoorX03
import Derived.Lib.SplitLaws
import Derived.Stop.Asserts
import Derived.RowKitTokens
import Derived.BigQuiet
set_option linter.all false
set_option maxRecDepth 100000
set_option maxHeartbeats 16000000
namespace Go.Proofs.YtmfnolgpaoldpaaGreatDoor
open Go.RowKit LS Go.Proofs.Tryz
open Go renaming World->Y,Value->F
open Go.RowKit renaming Hid->U
def Va(R:Yl Tr):Nat:=match R with
 |.error _=>0
 |.ok x=>x.2.length+1
theorem Gq{w c d f:Y}{b:Nat}{pv pv1 pv4 pv5:F}{s:BA}{deep n1 n4:Nat}{xs ys zs:List F}{M:Nat}{r1:Yl Unit}{R2:Yl Tr}{i i4:Int}{a:Tr}{p:PV}{kd op:Nat}
 (l:St c b pv1 s deep r1)(o1:c.ownsRow 0 59 8 pv1 n1<|xs++ys)(k1:Yv b pv w pv1 c)(m:∃k:Nat,i=k/\XF c (xs++ys) a k/\k+1=n1/\ys.length=8*WZ a)
 (o:St d b pv4 s deep<|Zj R2)(o4:d.ownsRow 0 59 8 pv4 n4<|(xs++ys)++zs)(k4:Yv b pv1 c pv4 d)(q:Xq M (n4+1) R2)(r:∀t z,R2=.ok (t,z)->∃k:Nat,i4=k/\XF d ((xs++ys)++zs) t k/\k+1=n4/\zs.length=8*WZ t)
 (u:St f b pv5 s deep<|Zj R2)(o5:f.ownsRow 0 59 8 pv5 (n4+1)<|((xs++ys)++zs)++p.cells)(k5:Yv b pv4 d pv5 f)
 (e1:p.k=kd)(e2:p.n=0)(e3:p.op=op)(e4:p.nm=⟨#[]⟩)(e5:(p.ca,p.cn,p.cc,p.ba,p.bn,p.bc)=(none,0,0,none,0,0))(e6:p.a=i)(e7:p.b=i4):
 Yi w b pv s deep xs M (bnd R2 λt z=>.ok (.node 0 0 (VM kd op) a t,z)) n4 f:=by
 have g:Zj (bnd R2 λt z=>(.ok (.node 0 0 (VM kd op) a t,z):Yl Tr))=Zj R2:=by
  cases R2 with
  |error e=>rfl
  |ok x=>rfl
 have ea:xs++(ys++zs++p.cells)=((xs++ys)++zs)++p.cells:=by simp[Vd]
 refine⟨n4+1,pv5,ys++zs++p.cells,g▸u,ea▸o5,(k1.trans k4).trans k5,Xq.of_unit<|g▸Xq.unit q,?_⟩;intro t z e;obtain⟨t2,z2,q1,q2⟩:=Zw e;injection q2 with q2;injection q2 with q2 q3;subst q2;subst q3;obtain⟨kl,l1,l2,l3,l5⟩:=m;obtain⟨kr,m1,m2,m3,m5⟩:=r t2 z2 q1;obtain⟨qv,h,_⟩:=l.view;have l4:=XF.kept h o1 k4 zs a _ l2;have j:kl<=n4:=by
  have a1:=o1.1;have a4:=o4.1;rw[Yx]at a4;omega
 injection e5 with f1 f2;injection f2 with f2 f3;injection f3 with f3 f4;injection f4 with f4 f5;injection f5 with f5 f6;refine⟨n4,C,?_,C,by rw[Yx,Yx,l5,m5];show _+_+8=8*(WZ a+WZ t2+1);omega⟩;rw[ea];exact JA o o4 k5 p _ a _ _ _ ⟨e1,e2,e3,by rw[e4];rfl,ZP.nil _ _ _ f1 f2 f3,⟨[],by rw[f4,f5,f6];exact Xm _ _ _ _,C⟩⟩ (by rw[e6,l1]) (by rw[e7,m1]) j X l4 m2
theorem My(n lv:Nat)(a:Tr)(ts:List Yg)(deep:Nat):Zh (n+1) true lv a ts deep=match LS.opAt lv (hd ts)with
 |none=>.ok (a,ts)
 |some p=>bnd (Zh n false (lv+1) .nil ts.tail deep) λb r=>Zh n true lv (.node 0 0 (VM p.1 p.2) a b) r deep:=rfl
theorem Dk{c d:LB}{t:Yg}(a:Yk c t=true)(h:c≠d):Yk d t=false:=by
 cases hd:Yk d t
 .rfl
 .unfold Yk at a hd;simp only[Vt,XM]at a hd;exact absurd (a.2.symm.trans hd.2) h
theorem FD(t:Yg):LS.opAt 2 t=if Yk [42] t then some (4,2)else if Yk [47] t then some (4,3)else none:=rfl
theorem FC(t:Yg):LS.opAt 1 t=if Yk [43] t then some (4,0)else if Yk [45] t then some (4,1)else none:=rfl
theorem B0(t:Yg):LS.opAt 0 t=if Yk UD t then some (6,0)else none:=rfl
theorem gV {s:BA}(hs:s.size<=5000){k L:Nat}(hk:10*L+4<=k+1+2)(IH:∀j,j<=k->∀L',10*L'+4<=j+(2+1)->We 242 s (λts d=>Zh j false (2+1) .nil ts d) L'):
 We 214 s (λts d=>Zh (k+1) false 2 .nil ts d) L:=by
  refine We.of_ok (λw b pv e p deep h=>Yw.term h) ?_;intro w b pv deep ts n xs M h v hM hB hL J;have K:=I IH;have H:=I h;have HO:=I v;have A:U<|(bnd _ _)=Zh (k+1) false 2 .nil ts deep:=C;clear h v IH;go_enter func214,ntmps214;go_wp2_with fail;refine(K k (Yj _) L X w b _ _ _ n _ M H HO hM hB (λt e=>by injection e with e;injection e with _ e;subst e;exact hL) J).m ?_;rintro e w1 ⟨i1,rfl,O⟩;have P:U<|Yi w b _ s _ _ M (Zh k _ _ _ _ _) _ _:=O;have Q:U<|∀a r,Zh k false (2+1) .nil ts deep=.ok (a,r)->10*r.length+5<=k/\k<=k:=by
   intro a r e;have:=SS _ _ _ _ _ _ _ e;simp at this;omega
  obtain⟨Rf,B⟩:∃Rf,Rf=Zh (k+1) false 2 .nil ts deep:=⟨_,C⟩;have a6:=I B;rw[<-B]at A;clear B;generalize Zh k false (2+1) .nil ts deep=R0 at*;clear O H HO;go_wp2;go_loopg [3] (Va R0) (λg v3 wr=>∃(i:Int)(R:Yl Tr)(m:Nat),v3=E i/\U (Yi w b pv s deep xs M R i wr)/\U ((bnd R λa r=>Zh m true 2 a r deep)=Rf)/\U (∀a r,R=.ok (a,r)->10*r.length+5<=m/\m<=k)/\U (g=Va R));case atStart=>exact⟨i1,R0,k,C,P,A,Q,C⟩
  case round=>
   obtain⟨i,R,m,rfl,HP,HE,HN,HG⟩:=hrel;clear P A Q;obtain⟨n1,pv1,ys,s1,o1,k1,b1,r1⟩:=HP.o;have q:=I s1;have S:=I o1;have a7:=I k1;have a8:=I b1;have a9:=I r1;clear s1 o1 k1 b1 r1;go_wp2_with fail;refine(St.is q _).m ?_;rintro e o ⟨rfl,rfl⟩;go_wp2_with fail;refine(St.is q _).m ?_;rintro e w2 ⟨rfl,rfl⟩;rw[show bl ⟨#[42]⟩=[42]from C,show bl _=[47]from C];have a5:((XS [42] (Zj R)=false/\XS [47] (Zj R)=false)/\(bnd R λa r=>Zh m true 2 a r deep)=R)\/(∃a r opn,R=.ok (a,r)/\((Yk [42] (hd r)=true/\Yk [47] (hd r)=false/\opn=2\/Yk [42] (hd r)=false/\Yk [47] (hd r)=true/\opn=3)/\LS.opAt 2 (hd r)=some (4,opn))):=by
    cases R with
    |error e=>exact .inl ⟨⟨C,C⟩,C⟩
    |ok x=>
     obtain⟨a,r⟩:=x;have hm:=HN a r C;obtain⟨m',rfl⟩:∃m',m=m'+1:=⟨m-1,X⟩;cases c:Yk [42]<|hd r
     · cases f:Yk [47]<|hd r
       .refine .inl ⟨⟨c,f⟩,?_⟩;show Zh (m'+1) true 2 a r deep=_;rw[My,FD,c,f];rfl
       .exact .inr ⟨a,r,3,C,.inr ⟨by first|rfl|exact c,by first|rfl|exact f,C⟩,by rw[FD,c,f];rfl⟩
     .have f:=Dk (d:=[47]) c N;exact .inr ⟨a,r,2,C,.inl ⟨by first|rfl|exact c,f,C⟩,by rw[FD,c];rfl⟩
   rcases a5 with⟨T,D⟩|⟨a,r,opn,rfl,l,V⟩
   · have HF:U<|Yi w b pv s deep xs M Rf i w2:=by rwa [<-HE.o,D]
     clear D;rw[T.1,T.2];go_wp2;go_ret;exact⟨_,C,by rwa [<-a6.o]⟩
   · have hm:=HN a r C;obtain⟨m',rfl⟩:∃m',m=m'+1:=⟨m-1,X⟩;have c2:r.tail.length+1=r.length:=by rcases l with⟨h,_⟩|⟨_,h,_⟩<;>exact M5 h
     have b0:¬((hd r).jj=0\/(hd r).jj=5):=by rcases l with⟨h,_⟩|⟨_,h,_⟩<;>exact QB h
     obtain⟨R2,u⟩:∃R2,R2=Zh m' false (2+1) .nil r.tail deep:=⟨_,C⟩;have b2:=I u;have W:U<|(bnd (bnd R2 λt z=>(.ok (.node 0 0 (VM 4 opn) a t,z))) λa r=>Zh m' true 2 a r deep)=Rf:=by
      rw[<-HE,Ox];show _=Zh (m'+1) true 2 a r deep;rw[My,V,<-u];rfl
     have Z:U<|∀t z,(bnd R2 λt z=>(.ok (.node 0 0 (VM 4 opn) a t,z):Yl Tr))=.ok (t,z)->10*z.length+5<=m'/\m'<=k:=by
      intro t z e;obtain⟨t2,z2,e1,e2⟩:=Zw e;injection e2 with e2;injection e2 with _ e2;subst e2;rw[u]at e1;have:=SS _ _ _ _ _ _ _ e1;simp at this;omega
     have a0:U<|Va (bnd R2 λt z=>(.ok (.node 0 0 (VM 4 opn) a t,z)))<Va (.ok (a,r)):=by
      cases hR:R2 with
      |error e=>exact IB _
      |ok x=>
       rw[u]at hR;have:=SS _ _ _ _ _ _ _ hR;simp at this;show x.2.length+1<r.length+1;omega
     clear V u;obtain⟨R3,a1⟩:∃R3:Yl Tr,R3=bnd R2 λt z=>.ok (.node 0 0 (VM 4 opn) a t,z):=⟨_,C⟩;rw[<-a1]at W Z a0;rcases l with⟨c,f,rfl⟩|⟨c,f,rfl⟩;all_goals
      rw[show XS _ (Zj<|.ok (a,r))=_ from c,show XS _ (Zj<|.ok (a,r))=_ from f];go_wp2_with fail;refine(St.next q X ⟨r,C,b0⟩).m ?_;rintro e w3 ⟨rfl,a2,hg⟩;have b3:U<|St _ b _ s _<|.ok _:=a2;have b5:=I<|VZ q S hg;have b6:U<|Yv b _ _ pv1 _:=(Yv.refl _ _ _).grown hg;have c3:n1+r.length<=M:=a8;clear a2 hg;go_wp2_with fail;refine(K m' X r.tail.length X _ b _ _ _ _ _ _ b3 b5 X (show n1+r.tail.length<=M-1 by omega) (λt e=>by injection e with e;injection e with _ e;subst e;exact Yj _) J).m ?_;rintro e w4 ⟨i4,rfl,G⟩;rw[show(bnd (.ok ((),r.tail)) λ_ ts=>Zh _ _ _ _ ts _)=R2 from b2.symm]at G;obtain⟨n4,pv4,zs,s4,o4,k4,b4,r4⟩:=G.o;have b7:n4<=6000:=by have:=b4.le;omega
      have a3:=I s4;have a4:=I o4;have b8:=I<|b6.trans k4;have b9:=I b4;have c0:=I r4;clear G s4 o4 k4 b4 r4;go_wp2_with fail;refine(St.lay a3.o a4.o b7 ⟨4,0,_,⟨#[]⟩,none,0,0,none,0,0,i,i4⟩).m ?_;rintro e w5 ⟨pv5,rfl,s5,o5,k5⟩;have c1:U<|Yi w b _ s _ _ M _ _ _:=a1▸Gq q.o S.o a7.o (a9.o a r C) a3.o a4.o b8.o (Xq.up b9.o X) c0.o s5 o5 k5 C C C C C C C;clear s5 o5 k5;go_wp2;go_roundg (Va R3);case measure=>rw[HG];exact a0
      case rel=>exact⟨_,_,m',C,c1,W,Z,C⟩
theorem fG {s:BA}(hs:s.size<=5000){k L:Nat}(hk:10*L+4<=k+1+1)(IH:∀j,j<=k->∀L',10*L'+4<=j+(1+1)->We 214 s (λts d=>Zh j false (1+1) .nil ts d) L'):
 We 184 s (λts d=>Zh (k+1) false 1 .nil ts d) L:=by
  refine We.of_ok (λw b pv e p deep h=>Yw.sum h) ?_;intro w b pv deep ts n xs M h v hM hB hL J;have K:=I IH;have H:=I h;have HO:=I v;have A:U<|(bnd _ _)=Zh (k+1) false 1 .nil ts deep:=C;clear h v IH;go_enter func184,ntmps184;go_wp2_with fail;refine(K k (Yj _) L X w b _ _ _ n _ M H HO hM hB (λt e=>by injection e with e;injection e with _ e;subst e;exact hL) J).m ?_;rintro e w1 ⟨i1,rfl,O⟩;have P:U<|Yi w b _ s _ _ M (Zh k _ _ _ _ _) _ _:=O;have Q:U<|∀a r,Zh k false (1+1) .nil ts deep=.ok (a,r)->10*r.length+5<=k/\k<=k:=by
   intro a r e;have:=SS _ _ _ _ _ _ _ e;simp at this;omega
  obtain⟨Rf,B⟩:∃Rf,Rf=Zh (k+1) false 1 .nil ts deep:=⟨_,C⟩;have a6:=I B;rw[<-B]at A;clear B;generalize Zh k false (1+1) .nil ts deep=R0 at*;clear O H HO;go_wp2;go_loopg [3] (Va R0) (λg v3 wr=>∃(i:Int)(R:Yl Tr)(m:Nat),v3=E i/\U (Yi w b pv s deep xs M R i wr)/\U ((bnd R λa r=>Zh m true 1 a r deep)=Rf)/\U (∀a r,R=.ok (a,r)->10*r.length+5<=m/\m<=k)/\U (g=Va R));case atStart=>exact⟨i1,R0,k,C,P,A,Q,C⟩
  case round=>
   obtain⟨i,R,m,rfl,HP,HE,HN,HG⟩:=hrel;clear P A Q;obtain⟨n1,pv1,ys,s1,o1,k1,b1,r1⟩:=HP.o;have q:=I s1;have S:=I o1;have a7:=I k1;have a8:=I b1;have a9:=I r1;clear s1 o1 k1 b1 r1;go_wp2_with fail;refine(St.is q _).m ?_;rintro e o ⟨rfl,rfl⟩;go_wp2_with fail;refine(St.is q _).m ?_;rintro e w2 ⟨rfl,rfl⟩;rw[show bl ⟨#[43]⟩=[43]from C,show bl _=[45]from C];have a5:((XS [43] (Zj R)=false/\XS [45] (Zj R)=false)/\(bnd R λa r=>Zh m true 1 a r deep)=R)\/(∃a r opn,R=.ok (a,r)/\((Yk [43] (hd r)=true/\Yk [45] (hd r)=false/\opn=0\/Yk [43] (hd r)=false/\Yk [45] (hd r)=true/\opn=1)/\LS.opAt 1 (hd r)=some (4,opn))):=by
    cases R with
    |error e=>exact .inl ⟨⟨C,C⟩,C⟩
    |ok x=>
     obtain⟨a,r⟩:=x;have hm:=HN a r C;obtain⟨m',rfl⟩:∃m',m=m'+1:=⟨m-1,X⟩;cases c:Yk [43]<|hd r
     · cases f:Yk [45]<|hd r
       .refine .inl ⟨⟨c,f⟩,?_⟩;show Zh (m'+1) true 1 a r deep=_;rw[My,FC,c,f];rfl
       .exact .inr ⟨a,r,1,C,.inr ⟨by first|rfl|exact c,by first|rfl|exact f,C⟩,by rw[FC,c,f];rfl⟩
     .have f:=Dk (d:=[45]) c N;exact .inr ⟨a,r,0,C,.inl ⟨by first|rfl|exact c,f,C⟩,by rw[FC,c];rfl⟩
   rcases a5 with⟨T,D⟩|⟨a,r,opn,rfl,l,V⟩
   · have HF:U<|Yi w b pv s deep xs M Rf i w2:=by rwa [<-HE.o,D]
     clear D;rw[T.1,T.2];go_wp2;go_ret;exact⟨_,C,by rwa [<-a6.o]⟩
   · have hm:=HN a r C;obtain⟨m',rfl⟩:∃m',m=m'+1:=⟨m-1,X⟩;have c2:r.tail.length+1=r.length:=by rcases l with⟨h,_⟩|⟨_,h,_⟩<;>exact M5 h
     have b0:¬((hd r).jj=0\/(hd r).jj=5):=by rcases l with⟨h,_⟩|⟨_,h,_⟩<;>exact QB h
     obtain⟨R2,u⟩:∃R2,R2=Zh m' false (1+1) .nil r.tail deep:=⟨_,C⟩;have b2:=I u;have W:U<|(bnd (bnd R2 λt z=>(.ok (.node 0 0 (VM 4 opn) a t,z))) λa r=>Zh m' true 1 a r deep)=Rf:=by
      rw[<-HE,Ox];show _=Zh (m'+1) true 1 a r deep;rw[My,V,<-u];rfl
     have Z:U<|∀t z,(bnd R2 λt z=>(.ok (.node 0 0 (VM 4 opn) a t,z):Yl Tr))=.ok (t,z)->10*z.length+5<=m'/\m'<=k:=by
      intro t z e;obtain⟨t2,z2,e1,e2⟩:=Zw e;injection e2 with e2;injection e2 with _ e2;subst e2;rw[u]at e1;have:=SS _ _ _ _ _ _ _ e1;simp at this;omega
     have a0:U<|Va (bnd R2 λt z=>(.ok (.node 0 0 (VM 4 opn) a t,z)))<Va (.ok (a,r)):=by
      cases hR:R2 with
      |error e=>exact IB _
      |ok x=>
       rw[u]at hR;have:=SS _ _ _ _ _ _ _ hR;simp at this;show x.2.length+1<r.length+1;omega
     clear V u;obtain⟨R3,a1⟩:∃R3:Yl Tr,R3=bnd R2 λt z=>.ok (.node 0 0 (VM 4 opn) a t,z):=⟨_,C⟩;rw[<-a1]at W Z a0;rcases l with⟨c,f,rfl⟩|⟨c,f,rfl⟩;all_goals
      rw[show XS _ (Zj<|.ok (a,r))=_ from c,show XS _ (Zj<|.ok (a,r))=_ from f];go_wp2_with fail;refine(St.next q X ⟨r,C,b0⟩).m ?_;rintro e w3 ⟨rfl,a2,hg⟩;have b3:U<|St _ b _ s _<|.ok _:=a2;have b5:=I<|VZ q S hg;have b6:U<|Yv b _ _ pv1 _:=(Yv.refl _ _ _).grown hg;have c3:n1+r.length<=M:=a8;clear a2 hg;go_wp2_with fail;refine(K m' X r.tail.length X _ b _ _ _ _ _ _ b3 b5 X (show n1+r.tail.length<=M-1 by omega) (λt e=>by injection e with e;injection e with _ e;subst e;exact Yj _) J).m ?_;rintro e w4 ⟨i4,rfl,G⟩;rw[show(bnd (.ok ((),r.tail)) λ_ ts=>Zh _ _ _ _ ts _)=R2 from b2.symm]at G;obtain⟨n4,pv4,zs,s4,o4,k4,b4,r4⟩:=G.o;have b7:n4<=6000:=by have:=b4.le;omega
      have a3:=I s4;have a4:=I o4;have b8:=I<|b6.trans k4;have b9:=I b4;have c0:=I r4;clear G s4 o4 k4 b4 r4;go_wp2_with fail;refine(St.lay a3.o a4.o b7 ⟨4,0,_,⟨#[]⟩,none,0,0,none,0,0,i,i4⟩).m ?_;rintro e w5 ⟨pv5,rfl,s5,o5,k5⟩;have c1:U<|Yi w b _ s _ _ M _ _ _:=a1▸Gq q.o S.o a7.o (a9.o a r C) a3.o a4.o b8.o (Xq.up b9.o X) c0.o s5 o5 k5 C C C C C C C;clear s5 o5 k5;go_wp2;go_roundg (Va R3);case measure=>rw[HG];exact a0
      case rel=>exact⟨_,_,m',C,c1,W,Z,C⟩
theorem ja {s:BA}(hs:s.size<=5000){k L:Nat}(hk:10*L+4<=k+1+0)(IH:∀j,j<=k->∀L',10*L'+4<=j+(0+1)->We 184 s (λts d=>Zh j false (0+1) .nil ts d) L'):
 We 153 s (λts d=>Zh (k+1) false 0 .nil ts d) L:=by
  refine We.of_ok (λw b pv e p deep h=>Yw.query h) ?_;intro w b pv deep ts n xs M h o hM hB hL D;have G:=I IH;have H:=I h;have HO:=I o;have q:U<|(bnd _ _)=Zh (k+1) false 0 .nil ts deep:=C;clear h o IH;go_enter func153,ntmps153;go_wp2_with fail;refine(G k (Yj _) L X w b _ _ _ n _ M H HO hM hB (λt e=>by injection e with e;injection e with _ e;subst e;exact hL) D).m ?_;rintro e w1 ⟨i1,rfl,J⟩;have K:U<|Yi w b _ s _ _ M (Zh k _ _ _ _ _) _ _:=J;have O:U<|∀a r,Zh k false (0+1) .nil ts deep=.ok (a,r)->10*r.length+5<=k/\k<=k:=by
   intro a r e;have:=SS _ _ _ _ _ _ _ e;simp at this;omega
  obtain⟨Rf,u⟩:∃Rf,Rf=Zh (k+1) false 0 .nil ts deep:=⟨_,C⟩;have a0:=I u;rw[<-u]at q;clear u;generalize Zh k false (0+1) .nil ts deep=R0 at*;clear J H HO;go_wp2;go_loopg [3] (Va R0) (λg v3 wr=>∃(i:Int)(R:Yl Tr)(m:Nat),v3=E i/\U (Yi w b pv s deep xs M R i wr)/\U ((bnd R λa r=>Zh m true 0 a r deep)=Rf)/\U (∀a r,R=.ok (a,r)->10*r.length+5<=m/\m<=k)/\U (g=Va R));case atStart=>exact⟨i1,R0,k,C,K,q,O,C⟩
  case round=>
   obtain⟨i,R,m,rfl,HP,HE,HN,HG⟩:=hrel;clear K q O;obtain⟨n1,pv1,ys,s1,o1,k1,b1,r1⟩:=HP.o;have l:=I s1;have P:=I o1;have a1:=I k1;have a2:=I b1;have a3:=I r1;clear s1 o1 k1 b1 r1;go_wp2_with fail;refine(St.is l _).m ?_;rintro e w2 ⟨rfl,rfl⟩;rw[show bl _=UD from C];have W:(XS UD (Zj R)=false/\(bnd R λa r=>Zh m true 0 a r deep)=R)\/(∃a r opn,R=.ok (a,r)/\(Yk UD (hd r)=true/\opn=0)/\LS.opAt 0 (hd r)=some (6,opn)):=by
    cases R with
    |error e=>exact .inl ⟨C,C⟩
    |ok x=>
     obtain⟨a,r⟩:=x;have hm:=HN a r C;obtain⟨m',rfl⟩:∃m',m=m'+1:=⟨m-1,X⟩;cases B:Yk UD<|hd r
     .refine .inl ⟨B,?_⟩;show Zh (m'+1) true 0 a r deep=_;rw[My,B0,B];rfl
     .exact .inr ⟨a,r,0,C,⟨by first|rfl|exact B,C⟩,by rw[B0,B];rfl⟩
   rcases W with⟨a4,v⟩|⟨a,r,opn,rfl,⟨c,rfl⟩,Q⟩
   · have HF:U<|Yi w b pv s deep xs M Rf i w2:=by rwa [<-HE.o,v]
     clear v;rw[a4];go_wp2;go_ret;exact⟨_,C,by rwa [<-a0.o]⟩
   · have hm:=HN a r C;obtain⟨m',rfl⟩:∃m',m=m'+1:=⟨m-1,X⟩;have c0:=M5 c;have a5:=QB c;obtain⟨R2,f⟩:∃R2,R2=Zh m' false (0+1) .nil r.tail deep:=⟨_,C⟩;have a6:=I f;have a7:U<|(bnd (bnd R2 λt z=>(.ok (.node 0 0 (VM 6 0) a t,z))) λa r=>Zh m' true 0 a r deep)=Rf:=by
       rw[<-HE,Ox];show _=Zh (m'+1) true 0 a r deep;rw[My,Q,<-f];rfl
     have a8:U<|∀t z,(bnd R2 λt z=>(.ok (.node 0 0 (VM 6 0) a t,z):Yl Tr))=.ok (t,z)->10*z.length+5<=m'/\m'<=k:=by
      intro t z e;obtain⟨t2,z2,e1,e2⟩:=Zw e;injection e2 with e2;injection e2 with _ e2;subst e2;rw[f]at e1;have:=SS _ _ _ _ _ _ _ e1;simp at this;omega
     have a9:U<|Va (bnd R2 λt z=>(.ok (.node 0 0 (VM 6 0) a t,z)))<Va (.ok (a,r)):=by
      cases hR:R2 with
      |error e=>exact IB _
      |ok x=>
       rw[f]at hR;have:=SS _ _ _ _ _ _ _ hR;simp at this;show x.2.length+1<r.length+1;omega
     clear Q f;rw[show XS _ (Zj<|.ok (a,r))=true from c];go_wp2_with fail;refine(St.next l X ⟨r,C,a5⟩).m ?_;rintro e w3 ⟨rfl,S,Z⟩;have b0:U<|St _ b _ s _<|.ok _:=S;have b2:=I<|VZ l P Z;have b3:U<|Yv b _ _ pv1 _:=(Yv.refl _ _ _).grown Z;have c1:n1+r.length<=M:=a2;clear S Z;go_wp2_with fail;refine(G m' X r.tail.length X _ b _ _ _ _ _ _ b0 b2 X (show n1+r.tail.length<=M-1 by omega) (λt e=>by injection e with e;injection e with _ e;subst e;exact Yj _) D).m ?_;rintro e w4 ⟨i4,rfl,A⟩;rw[show(bnd (.ok ((),r.tail)) λ_ ts=>Zh _ _ _ _ ts _)=R2 from a6.symm]at A;obtain⟨n4,pv4,zs,s4,o4,k4,b4,r4⟩:=A.o;have b5:n4<=6000:=by have:=b4.le;omega
     have T:=I s4;have V:=I o4;have b6:=I<|b3.trans k4;have b7:=I b4;have b8:=I r4;clear A s4 o4 k4 b4 r4;go_wp2_with fail;refine(St.lay T.o V.o b5 ⟨6,0,0,⟨#[]⟩,none,0,0,none,0,0,i,i4⟩).m ?_;rintro e w5 ⟨pv5,rfl,s5,o5,k5⟩;have b9:U<|Yi w b _ s _ _ M (bnd R2 λt z=>(.ok (.node 0 0 (VM 6 0) a t,z))) _ _:=I<|Gq l P a1 (a3 a r C) T V b6 (Xq.up b7 X) b8 s5 o5 k5 C C C C C C C;clear s5 o5 k5;go_wp2;go_roundg (Va<|bnd R2 λt z=>(.ok (.node 0 0 (VM 6 0) a t,z):Yl Tr));case measure=>rw[HG];exact a9
     case rel=>exact⟨_,_,m',C,b9,a7,a8,C⟩
theorem mZ{s:BA}(f:s.size<=5000):∀(k:Nat),∀j,j<=k->
 (∀L,10*L+4<=j+3->We 242 s (λts d=>Zh j false 3 .nil ts d) L)/\(∀L,10*L+4<=j+2->We 214 s (λts d=>Zh j false 2 .nil ts d) L)/\
 (∀L,10*L+4<=j+1->We 184 s (λts d=>Zh j false 1 .nil ts d) L)/\(∀L,10*L+4<=j->We 153 s (λts d=>Zh j false 0 .nil ts d) L):=by
 intro k;induction k with
 |zero=>
  intro j a;have:j=0:=X;subst this;exact⟨λL h=>absurd h X,λL h=>absurd h X,λL h=>absurd h X,λL h=>absurd h X⟩
 |succ k ih=>
  intro j a;by_cases g:j<=k
  .exact ih j g
  .have:j=k+1:=X;subst this;refine⟨?_,?_,?_,?_⟩
   .intro L h;cases L with
    |zero=>exact We.zero λw b pv e p deep h=>Yw.factor h
    |succ L=>exact tX f ((ih k<|Yj _).1 L X)<|(ih k<|Yj _).2.2.2 L X
   .intro L h;exact gV f X λj a L' c=>(ih j a).1 _ c
   .intro L h;exact fG f X λj a L' c=>(ih j a).2.1 _ c
   .intro L h;exact ja f X λj a L' c=>(ih j a).2.2.1 _ c
theorem kZ{s:BA}(a:s.size<=5000){L:Nat}:We 153 s (λts d=>Zh (10*L+5) false 0 .nil ts d) L:=(mZ a _ _<|Yj _).2.2.2 L X
theorem XF.at{w:Y}{pv:F}{n:Nat}{xs:List F}(d:w.ownsRow 0 59 8 pv n xs){x y:Nat}{nd:Nd}{l r:Tr}{i:Nat}(h:XF w xs (.node x y nd l r) i):
 ∃(g cp:Nat)(p:PV)(a c:Nat),pv=.slice (some ⟨g,0,none⟩) n cp/\g<w.heap.size/\i<n/\LD w nd p/\p.a=a/\p.b=c/\XF w xs l a/\XF w xs r c/\
  w.cell? ⟨g,i*8,none⟩=some (E p.k)/\w.cell? ⟨g,i*8+1,none⟩=some (E p.n)/\w.cell? ⟨g,i*8+2,none⟩=some (E p.op)/\w.cell? ⟨g,i*8+3,none⟩=some (.string p.nm)/\
  w.cell? ⟨g,i*8+4,none⟩=some (.slice p.ca p.cn p.cc)/\w.cell? ⟨g,i*8+5,none⟩=some (.slice p.ba p.bn p.bc)/\w.cell? ⟨g,i*8+6,none⟩=some (E p.a)/\w.cell? ⟨g,i*8+7,none⟩=some (E p.b):=by
 obtain⟨p,a,c,m,q,s,t,_,_,u,z⟩:=h;have f:=congrArg List.length m;rw[Oz,Xw,Ur,d.1]at f;have A:i<n:=X;obtain⟨g,cp,rfl⟩:=Zm d X;have e:∀j v,j<8->p.cells[j]?=some v->w.cell? ⟨g,i*8+j,none⟩=some v:=by
  intro j v B o;refine Zc d _ _ ?_;rw[<-m,Ki,Ye B,Kj]at o;exact o
 exact⟨g,cp,p,a,c,C,ZN d,A,q,s,t,u,z,e 0 _ N C,e 1 _ N C,e 2 _ N C,e 3 _ N C,e 4 _ N C,e 5 _ N C,e 6 _ N C,e 7 _ N C⟩
theorem PK.below{w w':Y}{base:Nat}{p:PV}{ns:List<|LB}(h:PK w base p ns)(a:BW w w'):PK w' base p ns:=by
 obtain⟨bs,c,d⟩:=h;exact⟨bs,Ze c a,d⟩
theorem ZP.below{w w':Y}{base:Nat}{p:PV}{ns:List<|LB×LB×Bool}(h:ZP w base p ns)(a:BW w w'):ZP w' base p ns:=by
 obtain⟨bs,c,d⟩:=h;exact⟨bs,Ze c a,d⟩
theorem XF.below{w w':Y}{xs:List F}(a:BW w w'):∀(t:Tr)(i:Nat),XF w xs t i->XF w' xs t i
 |.nil,_,_=>trivial
 |.node _ _ nd l r,i,h=>by
  obtain⟨p,u,c,d,⟨g1,g2,g3,g4,g5,g6⟩,e,f,g,j,k,m⟩:=h;exact⟨p,u,c,d,⟨g1,g2,g3,g4,g5.below a,g6.below a⟩,e,f,g,j,XF.below a l u k,XF.below a r c m⟩
theorem M9(t:Tr):Zq t<=2:=by
 cases t with
 |nil=>decide
 |node x y a l r=>
  unfold Zq;have c:=M9 l;split
  .decide
  .split
   .decide
   .split
    .exact c
    .split
     .split<;>decide
     .split
      .decide
      .split<;>decide
structure U5 (w:Y)(b:Nat)(pv:F)(n:Nat)(xs:List F):Prop where
 cell:w.cell? ⟨b,0,none⟩=some pv
 own:w.ownsRow 0 59 8 pv n xs
theorem U5.below{w w':Y}{b:Nat}{pv:F}{n:Nat}{xs:List F}(h:U5 w b pv n xs)(a:BW w w'):U5 w' b pv n xs:=
 ⟨(a.cell<|Xi _ _ h.cell).trans h.cell,Ze h.own a⟩
theorem iK(b:Nat)(pv:F)(n:Nat)(xs:List F):∀(t:Tr)(i:Nat)(w:Y),V1 t->isNil t=false->U5 w b pv n xs->XF w xs t i->
 CP 155 #[Vp b,E i] w λe u=>e=.returned (E<|Zq t)/\BW w u:=by
 intro t;induction t with
 |nil=>intro i w _ h;cases h
 |node x y nd l r S T=>
  intro i w K _ q L;obtain⟨g,cp,p,a,c,rfl,b1,hi,hp,P,Q,V,Z,c0,c1,c2,c3,c4,c5,c6,c7⟩:=XF.at q.own L;have a9:=q.cell;have b0:=I q;obtain⟨W,R⟩:∃W,W=w.alloc (.cells #[E p.k,E p.n,E p.op,.string p.nm,.slice p.ca p.cn p.cc,.slice p.ba p.bn p.bc,E p.a,E p.b] 59):=⟨_,C⟩;have D:Below _ w W:=R▸Yc;have v:=I R;have HP:U<|Yq W _ p:=R▸Go.Deep.blk_alloc_new _ _;have H:=I<|q.below D;have HL:=I<|XF.below D l a V;have HR:=I<|XF.below D r c Z;have A:=I D;have a0:=hp.1;have m:=I K;have b2:=K.1;have G:=I S;have a1:=I T;rw[P,Q]at v;rw[P]at c6;rw[Q]at c7;have HA:U<|p.a=a/\p.b=c:=⟨P,Q⟩;have s:=I a0;clear P Q a0 hp q L R D V Z K S T;have h7:nd.jj=0\/nd.jj=1\/nd.jj=2\/nd.jj=3\/nd.jj=5\/(nd.jj=4\/nd.jj=6):=X;rcases h7 with f|f|f|f|f|f
  .have o:U<|Zq (.node x y _ l r)=1:=I<|by unfold Zq;rw[Ye f]
   have d:p.k=0:=by rw[s,f];rfl
   rw[d]at c0 v;clear d;go_enter func155,ntmps155;go_wp2;go_ret;rw[o];exact⟨C,Yc⟩
  .have o:U<|Zq (.node x y nd l r)=2:=I<|by unfold Zq;rw[Yd X,Ye<|Or.inl f]
   have d:p.k=1:=by rw[s,f];rfl
   rw[d]at c0 v;clear d;go_enter func155,ntmps155;go_wp2;go_ret;rw[o];exact⟨C,Yc⟩
  .have o:U<|Zq (.node x y nd l r)=2:=I<|by unfold Zq;rw[Yd X,Ye<|Or.inr f]
   have d:p.k=2:=by rw[s,f];rfl
   rw[d]at c0 v;clear d;go_enter func155,ntmps155;go_wp2;go_ret;rw[o];exact⟨C,Yc⟩
  .have o:U<|Zq (.node x y nd l r)=Zq l:=I<|by rw[Zq];rw[Yd X,Yd X,Ye f]
   have d:p.k=3:=by rw[s,f];rfl
   rw[d]at c0 v;clear d;go_enter func155,ntmps155;go_wp2_with fail;rw[<-v];refine(G a W m.2.2.2.2.2.2.2.2.2.2.1 (m.2.2.2.2.2.2.1 X) H HL).m ?_;rintro e w1 ⟨rfl,j⟩;have B:=I<|A.trans<|j.mono A.size;clear j;go_wp2;go_ret;rw[o];exact⟨C,B⟩
  .have o:U<|Zq (.node x y nd l r)=if Zq l=2 then 2 else 0:=I<|by rw[Zq];rw[Yd X,Yd X,Yd X,Ye f]
   have d:p.k=5:=by rw[s,f];rfl
   rw[d]at c0 v;clear d;go_enter func155,ntmps155;go_wp2_with fail;rw[<-v];refine(G a W m.2.2.2.2.2.2.2.2.2.2.1 (m.2.2.2.2.2.2.1 X) H HL).m ?_;rintro e w1 ⟨rfl,j⟩;have B:=I<|A.trans<|j.mono A.size;clear j;have a2:=M9 l;generalize Zq l=ka at*;have h3:ka=0\/ka=1\/ka=2:=X;clear G;rcases h3 with rfl|rfl|rfl;all_goals
    go_wp2;go_ret;rw[o];exact⟨C,B⟩
  .have o:U<|Zq (.node x y nd l r)=if Zq l=0\/Zq r=0\/(nd.jj=6/\Zq l+Zq r≠4)then 0 else if Zq l+Zq r=2 then 1 else 2:=I<|by rw[Zq];rw[Yd X,Yd X,Yd X,Yd X]
   have J:U<|isNil l=false/\isNil r=false/\V1 l/\V1 r:=⟨m.2.2.2.2.2.2.1 X,m.2.2.2.2.2.2.2.1 f,m.2.2.2.2.2.2.2.2.2.2.1,m.2.2.2.2.2.2.2.2.2.2.2⟩;rcases f with f|f;all_goals
    first
     |have d:p.k=4:=by rw[s.o,f];rfl
     |have d:p.k=6:=by rw[s.o,f];rfl
    rw[f]at o;rw[d]at c0 v;go_enter func155,ntmps155;go_wp2_with fail;rw[<-v];refine(G a W J.2.2.1 J.1 H HL).m ?_;rintro e w1 ⟨rfl,j⟩;have B:=I<|A.trans<|j.mono A.size;have M:=I<|Yq.kept HP<|j.block _<|Yq.lt HP;have a3:=I<|XF.below j r c HR;have a4:=I<|H.below j;have a5:=B.size;obtain⟨k0,k1,k2,k3,k4,k5,k6,k7⟩:=Yq.all M;rw[d]at k0;rw[HA.1]at k6;rw[HA.2]at k7;clear j;go_wp2_with fail;clear k0 k1 k2 k3 k4 k5 k6 k7;refine(a1 c _ J.2.2.2 J.2.1 a4 a3).m ?_;rintro e z ⟨rfl,O⟩;have a6:=I<|B.trans<|O.mono a5;have a7:=I<|Yq.kept M<|O.block _<|Yq.lt M;obtain⟨k0,k1,k2,k3,k4,k5,k6,k7⟩:=Yq.all a7;rw[d]at k0;clear O;have a2:=M9 l;have a8:=M9 r;generalize Zq l=ka at*;generalize Zq r=kb at*;have h3:ka=0\/ka=1\/ka=2:=X;have h4:kb=0\/kb=1\/kb=2:=X;clear G a1 a2 a8;rcases h3 with rfl|rfl|rfl<;>rcases h4 with rfl|rfl|rfl;all_goals
     go_wp2;go_ret;rw[o.o];exact⟨C,a6.o⟩
def E4(w:Y)(b:Nat)(t:Tr):Prop:=∃(pv:F)(n:Nat)(xs:List F),U5 w b pv (n+1) xs/\n+1<=301/\XF w xs t n/\V1 t/\isNil t=false/\wT t<=100000/\n+1=WZ t
theorem KL(l:LB)(a:l.length<=300):∀(n i:Nat),tw (Z7 l n i)<=332*(Z7 l n i).length
 |0,_=>Yj _
 |n+1,i=>by
  have c:=Lx l i;have d:=KL l a n (Zg l i).2;unfold Z7;split
  .simp[tw];omega
  .simp[tw];omega
theorem sj{w:Y}{b:Nat}{q:QV}(h:YN w b q)(d:q.s.size<=6000)(f:q.at_=0)(g:q.e=0):
 CP 152 #[Vp b] w λr u=>r=.returned (.tuple #[])/\St u b q.pv q.s q.deep (.ok ((),Z7 (bl q.s) ((bl q.s).length+1) 0))/\w.grownBy u (some b):=by
 refine(Af w b q h d X).m ?_;rintro r u ⟨rfl,⟨tx,a,c⟩,i⟩;rw[f]at c a;refine⟨C,⟨⟨_,c,C,C,C,g,?_,?_⟩,trivial⟩,i⟩
 .have:=(Nx (bl q.s) 0<|Yr _).2;rw[Zb]at this;exact this
 .have e:S2 {q with at_:=(Zg (bl q.s) 0).2,k:=(Zg (bl q.s) 0).1.jj,tx:=tx,ta:=(Zg (bl q.s) 0).1.at_}=(Zg (bl q.s) 0).1:=by
   show(⟨_,bl tx,_⟩:Yg)=_;rw[a]
  rw[e];exact XB.start _
theorem gu{s:BA}{w:Y}(e4:s.size<=9223372036854775807):
 CP 106 #[.string s] w λe u=>(∃(v:F)(c p:Nat),e=.returned (.tuple #[v,E c,E p])/\
  U ((∀x,Z5 (bl s)=.error x->c=x.1/\p=x.2/\c≠0/\v=.pointer none)/\(∀t,Z5 (bl s)=.ok t->c=0/\p=0/\∃b,v=Vp b/\w.heap.size<=b/\E4 u b t)))/\BW w u:=by
 by_cases hl:300<s.size
 .have HR:U<|Z5 _=.error _:=I<|by unfold Z5;rw[Zb,Ye hl]
  have hd:(300:Int)<s.size:=X;go_enter func106,ntmps106;go_wp2;go_ret3;refine⟨⟨_,1,0,C,⟨λx hx=>?_,λt d=>?_⟩⟩,Ym _ _⟩
  .rw[HR]at hx;injection hx with hx;subst hx;exact⟨C,C,N,C⟩
  .rw[HR]at d;cases d
 .have e6:s.size<=300:=X;have hd:¬((300:Int)<s.size):=X;obtain⟨ts,n⟩:∃ts,ts=Z7 (bl s) ((bl s).length+1) 0:=⟨_,C⟩;have e5:ts.length<=301:=by
   have:=Lb (bl s) ((bl s).length+1) 0<|Yr _;rw[<-n,Zb]at this;omega
  have e7:tw ts<=100000:=by
   have:=KL _ (by rwa [Zb]) ((bl s).length+1) 0;rw[<-n]at this;omega
  have m:U<|Z5 (bl s)=match Zh (10*ts.length+5) false 0 .nil ts 0 with
   |.error e=>.error e
   |.ok (t,r)=>if(LS.hd r).jj=0 then(if Zq t=0 then .error (4,0)else .ok t)else .error (2,(LS.hd r).at_):=by
   unfold Z5;rw[Zb,Yd hl,<-Zb,<-n];cases Zh (10*ts.length+5) false 0 .nil ts 0 with
   |error e=>rfl
   |ok x=>rfl
  have a3:=I n;clear n;obtain⟨R,hR⟩:∃R,R=Zh (10*ts.length+5) false 0 .nil ts 0:=⟨_,C⟩;have a4:=I hR;rw[<-hR]at m;clear hR;have b6:U<|∀W:Y,YN (W.alloc<|.cells #[S0,.string s,.int _ 0,.int _ 0,.string ⟨#[]⟩,.int _ 0,.int _ 0,.int _ 0,.int _ 0] _) _ ⟨.slice _ 0 0,s,0,0,⟨#[]⟩,0,0,0,0⟩:=λW=>Go.Deep.blk_alloc_new _ _;go_enter func106,ntmps106;go_wp2_with fail;refine(sj (b6 w) (by show s.size<=6000;omega) C C).m ?_;rintro e w1 ⟨rfl,G,f⟩;have a5:U<|St w1 w.heap.size S0 s 0<|.ok ((),ts):=by rwa [a3.o]
  have O:U<|Below _ w _:=⟨f.os,f.tape,f.output,by have:=f.size;rw[Go.Deep.nblk_alloc]at this;omega,λk hk=>(f.block k (by rw[Go.Deep.nblk_alloc];omega)<|by simp;omega).trans<|Go.Deep.blk_alloc_lt _ _ _ hk⟩;clear G f a3;go_wp2_with fail;refine(kZ X _ _ _ 0 _ 0 _ _ a5 (Xm _ _ _ _) X (show 0+ts.length<=ts.length by omega) (λt e=>by injection e with e;injection e with _ e;subst e;exact Yj _) X).m ?_;rintro e z ⟨i,rfl,hp⟩;rw[show(bnd (.ok ((),ts)) λ_ ts'=>Zh (10*ts.length+5) false 0 .nil ts' 0)=R from a4.symm]at hp;obtain⟨n2,pv2,ys,s2,o2,k2,b2,r2⟩:=hp.o;rw[O9]at o2 r2;have H:=I s2;have a6:=I o2;have P:=I<|O.trans ⟨k2.os,k2.tape,k2.output,k2.size,λk hk=>k2.block k (by have:=O.size;omega) X<|by simp[Value.ownBlock]⟩;have b7:U<|n2<=301:=I<|by have:=b2.le;omega
  have J:=I r2;have e8:w.heap.size<z.heap.size:=H.lt;clear hp s2 o2 k2 b2 r2 O a5;obtain⟨q,hq,a7,_,Q,S⟩:=St.view H.o;obtain⟨c0,c1,c2,c3,c4,c5,c6,c7,c8⟩:=hq.all;cases l:R with
  |error x=>
   have g:U<|Z5 (bl s)=.error x:=I<|by rw[m.o,l]
   obtain⟨e1,e2,e3⟩:=Q x<|by rw[l];rfl
   have a8:((q.e:Int)==0)=false:=by rw[YB];omega
   have a9:((q.e:Int) !=0)=true:=by rw[Vg];omega
   have D:U<|q.e=x.1/\q.e≠0/\q.pl=x.2:=⟨e1,e2,e3⟩;clear e1 e2 e3 Q S hq l m J;go_wp2;go_region;all_goals
    go_wp2;go_ret3;refine⟨⟨_,q.e,q.pl,C,⟨λy a=>?_,λt d=>?_⟩⟩,Wn P 1⟩
    .rw[g]at a;injection a with a;subst a;exact⟨D.1,D.2.2,D.2.1,C⟩
    .rw[g.o]at d;cases d
  |ok x=>
   obtain⟨t,r⟩:=x;rw[l]at H J m;obtain⟨k,b8,T,b0,b9⟩:=J.o t r C;have c9:U<|k+1=WZ t:=I<|by have:=a6.1;omega
   clear b9;obtain⟨e1,e2⟩:=S ((),r)<|by rw[l];rfl
   obtain⟨f1,f2,f3⟩:=NB _ false _ _ _ _ _ (λh=>(by cases h))<|a4.symm.trans l;have a8:((q.e:Int)==0)=true:=by rw[e1];rfl
   have V:U<|V1 t/\isNil t=false/\wT t<=100000:=⟨f1,f2,by simp at f3;omega⟩;have K:q.k=(LS.hd r).jj:=(S3 e2).1;have Z:=I T;have b1:U<|U5 _ _ _ (k+1) _:=⟨by rw[c0,a7],by rwa [b0]⟩;have d9:k+1<=301:=by rwa [b0]
   clear Q S hq T f1 f2 f3 e1 e2 l J a7 b7 a6;subst b8;by_cases o:(LS.hd r).jj=0
   .have e0:((q.k:Int) !=0)=false:=by rw[K,o];rfl
    have a9:((q.e:Int) !=0)=false:=by
     have:(q.e:Int)=0:=by simpa using a8
     rw[this];rfl
    have g:U<|Z5 (bl s)=if Zq t=0 then .error (4,0)else .ok t:=by rw[m];show(if(LS.hd r).jj=0 then _ else _)=_;rw[Ye o]
    clear o K;go_wp2_with fail;refine(iK _ _ _ _ t k _ V.1 V.2.1 b1 Z).m ?_;rintro e w3 ⟨rfl,L⟩;have b5:=I<|b1.below L;have a2:=I<|XF.below L t k Z;have M:=I<|P.trans<|L.mono X;clear L;have b3:=M9 t;by_cases A:Zq t=0
    .have a0:((Zq t:Int)==0)=true:=by rw[A];rfl
     have B:U<|Z5 _=.error _:=I<|by rw[g,Ye A]
     generalize Zq t=kt at a0 b3⊢;clear A;go_wp2;go_ret3;refine⟨⟨_,4,0,C,⟨λy a=>?_,λt' d=>?_⟩⟩,M⟩
     .rw[B]at a;injection a with a;subst a;exact⟨C,C,N,C⟩
     .rw[B]at d;cases d
    .have a0:((Zq t:Int)==0)=false:=by rw[YB];omega
     have B:U<|Z5 _=.ok t:=I<|by rw[g,Yd A]
     generalize Zq t=kt at a0 b3⊢;clear A;go_wp2;go_ret3;refine⟨⟨_,0,0,C,⟨λy a=>?_,λt' d=>?_⟩⟩,M⟩
     .rw[B]at a;cases a
     .rw[B]at d;injection d with d;subst d;exact⟨C,C,w.heap.size,C,Yj _,pv2,k,ys,b5,d9,a2,V.1,V.2.1,V.2.2,c9⟩
   .have e0:((q.k:Int) !=0)=true:=by rw[K,Vg];omega
    have g:U<|Z5 (bl s)=.error (2,(LS.hd r).at_):=by rw[m];show(if(LS.hd r).jj=0 then _ else _)=_;rw[Yd o]
    clear o K;go_wp2_with fail;refine(St.fail H 2 _ C N).m ?_;rintro e w3 ⟨rfl,G,f⟩;obtain⟨q3,b4,_,_,a1,_⟩:=St.view G;obtain⟨g1,g2,g3⟩:=a1 _ C;obtain⟨d0,d1,d2,d3,d4,d5,d6,d7,d8⟩:=b4.all;have a9:((q3.e:Int) !=0)=true:=by rw[Vg];omega
    have D:U<|q3.e=2/\q3.pl=(LS.hd r).at_:=⟨g1,g3⟩;have M:=I<|P.trans ⟨f.os,f.tape,f.output,f.size,λj hj=>f.block j X<|by simp;omega⟩;clear G f b4 a1 g1 g2 g3 c0 c1 c2 c3 c4 c5 c6 c7 c8;go_wp2;go_region;all_goals
     go_wp2;go_ret3;refine⟨⟨_,q3.e,q3.pl,C,⟨λy a=>?_,λt d=>?_⟩⟩,Wn M 1⟩
     .rw[g]at a;injection a with a;subst a;exact⟨D.1,D.2,by rw[D.1];decide,C⟩
     .rw[g]at d;cases d
theorem ZX(a b:BA):bl (a++b)=bl a++bl b:=by simp[bl]
def TF(d:Nat):UInt8:=UInt8.ofNat<|48+d
def Xj(n:Nat):LB:=if n<=9 then[TF n]else Xj (n/10)++[TF<|n%10]
theorem EZ(W:Y)(d:Nat)(hd:d<=9):(convert 119 9<|.slice (some ⟨W.heap.size,0,none⟩) 1 1).run prog (W.alloc<|.cells #[.int .u8<|(48:Int)+d] 5)=.ok (.string ⟨#[TF d]⟩) (W.alloc<|.cells #[.int .u8<|(48:Int)+d] 5):=by
 refine run_convert_bytes_back _ _ _ 5 ⟨W.heap.size,0,none⟩ 1 [TF d] underlying119 underlying5 underlying9 ?_;intro j a;obtain rfl:j=0:=by simp at a;omega
 rw[QI];have h:=Go.Deep.blk_alloc_new W<|.cells #[.int .u8<|(48:Int)+d] 5;simp only[World.cell?,h];have e:((TF d).toNat:Int)=48+d:=by
  have:(TF d).toNat=48+d:=by unfold TF;simp;omega
  omega
 simp[e]
theorem Lp{n:Nat}(h:n<=9):Xj n=[TF n]:=by rw[Xj,Ye h]
theorem K8{n:Nat}(h:¬n<=9):Xj n=Xj (n/10)++[TF<|n%10]:=by rw[Xj,Yd h]
theorem Ez(n:Nat){w:Y}(k:n<=1000000000):
 CP 38 #[E n] w λe u=>∃r:BA,e=.returned (.string r)/\r.size<=1000000001/\U (bl r=Xj n)/\BW w u:=by
 go_enter func38,ntmps38;go_wp2;go_loopw [0,3] (λv sv wr=>∃(m:Nat)(r:BA),v=E m/\sv=.string r/\r.size+m<=n/\U (Xj n=Xj m++bl r)/\BW w wr) (λv _ _=>(intOf v).toNat);case atStart=>exact⟨n,⟨#[]⟩,C,C,Nat.le_of_eq<|SI n,I<|by simp[bl],Ym _ _⟩
 case round=>
  obtain⟨m,r,rfl,rfl,l,g,i⟩:=hrel;have j:=i.size;by_cases d:m<=9
  .have c:=EZ wr m d;have f:U<|bl (⟨#[TF m]⟩++r)=Xj n:=I<|by rw[ZX,g.o,Lp d];rfl
   have e1:(⟨#[TF m]⟩:BA).size=1:=C;have a1:∀W,(Op.stringOp .add ⟨#[TF m]⟩ r).run prog W=.ok (.string<|⟨#[TF m]⟩++r) W:=λW=>XW W _ _ X;have a:(⟨#[TF m]⟩++r).size<=1000000001:=by simp only[Y9];omega
   have h:¬(9<(m:Int)):=X;go_wp2;go_ret;exact⟨_,C,a,f,Yh⟩
  .have c:=EZ wr (m%10) X;rw[show((m%10:Nat):Int)=(m:Int)%10 from by omega]at c;have f:U<|Xj n=Xj (m/10)++bl (⟨#[TF<|m%10]⟩++r):=I<|by rw[ZX,g.o,K8 d,Vd];rfl
   have e1:(⟨#[TF<|m%10]⟩:BA).size=1:=C;have a1:∀W,(Op.stringOp .add ⟨#[TF<|m%10]⟩ r).run prog W=.ok (.string<|⟨#[TF<|m%10]⟩++r) W:=λW=>XW W _ _ X;have a:(⟨#[TF<|m%10]⟩++r).size+m/10<=n:=by simp only[Y9];omega
   have h:9<(m:Int):=X;go_wp2;go_roundw;case rel=>exact⟨m/10,_,Sm,C,a,f,Yh⟩
   case measure=>simp[intOf];omega
def F9(o:Nat):LB:=[[43],[45],[42],[47]].getD o []
def TD(a:Nd)(pl pr:Nat->LB):LB:=
 if a.jj=0 then Xj a.n.toNat
 else if a.jj=1 then Xl a
 else if a.jj=2 then WN.getD a.op []++[40]++Xl a++[91]++Xj a.n.toNat++[93,41]
 else if a.jj=3 then[45]++pl 4
 else if a.jj=5 then Wu.getD a.op []++[32,98,121,32,40]++commas a.by_++[41,32,40]++pl 1++[41]
 else if a.jj=6 then pl 1++[32,111,114,32]++pr 2
 else pl (V0 a)++[32]++F9 a.op++[32]++pr (V0 a+1)
def Mg(b:Bool)(s:LB):LB:=if b then[40]++s++[41]else s
def ZV:Tr->Nat->LB
 |.nil,_=>[]
 |.node _ _ a l r,must=>Mg (decide<|V0 a<must)<|TD a (ZV l)<|ZV r
theorem Hi:∀(k n:Nat),n<10^(k+1)->(Xj n).length<=k+1
 |0,n,h=>by rw[Lp X];simp
 |k+1,n,h=>by
  by_cases a:n<=9
  .rw[Lp a];simp
  .rw[K8 a,Yx];have:=Hi k (n/10) X;simp_all
theorem EU(a b:LB)(l:List<|LB):commas (a::b::l)=a++44::commas (b::l):=rfl
theorem OA:∀(l:List<|LB),(commas l).length<=nw l
 |[]=>Yj _
 |[a]=>by simp[commas,nw]
 |a::b::l=>by
  have:=OA<|b::l;rw[EU,Yx,Y1];simp only[nw]at*;omega
theorem uc(c:LB×LB×Bool):(VT c).length<=c.1.length+c.2.1.length+4:=by
 unfold VT;split<;>simp<;>omega
theorem Jt:∀(l:List<|LB×LB×Bool),nw (l.map VT)<=cw l
 |[]=>Yj _
 |c::l=>by
  have:=Jt l;have:=uc c;simp only[Wb,nw,cw];omega
theorem G5(a:Nd):(Xl a).length<=a.name.length+cw a.kq+2:=by
 unfold Xl;split
 .omega
 .have c:=OA<|a.kq.map VT;have d:=Jt a.kq;simp_all;omega
theorem Lu(a:List<|LB)(h:∀x∈a,x.length<=5)(i:Nat):(a.getD i []).length<=5:=by
 rw[Y0];cases c:a[i]? with
 |none=>simp
 |some x=>exact h x<|QW c
theorem Ep{a:Nd}(h:a.n<=1000000000){pl pr:Nat->LB}{x y:Nat}(c:∀m,(pl m).length<=x)(d:∀m,(pr m).length<=y):(TD a pl pr).length+2<=Xo a+x+y:=by
 have e:a.n.toNat<=1000000000:=X;have f:(10)^10=10000000000:=N;have hd:(Xj a.n.toNat).length<=10:=Hi 9 _ X;have i:=G5 a;have j:=OA a.by_;have k:=Lu WN N a.op;have l:=Lu Wu N a.op;have g:=Lu [[43],[45],[42],[47]] N a.op;have l1:=c 1;have l4:=c 4;have lt:=c<|V0 a;have r2:=d 2;have rt:=d<|V0 a+1;unfold TD Xo;split
 .omega
 .split
  .omega
  .split
   .simp_all;omega
   .split
    .simp;omega
    .split
     .simp only[Yx,Y1,TO];omega
     .split
      .simp;omega
      .unfold F9;simp only[Yx,Y1,TO];omega
theorem xS(b:Bool)(s:LB):(Mg b s).length<=s.length+2:=by
 unfold Mg;split<;>simp
theorem Mz:∀(t:Tr)(m:Nat),V1 t->(ZV t m).length<=wT t
 |.nil,_,_=>Yj _
 |.node x y a l r,m,h=>by
  have c:=Mz l;have d:=Mz r;have e:=Ep h.2.2.2.2.2.1 (λm=>c m h.2.2.2.2.2.2.2.2.2.2.1) λm=>d m h.2.2.2.2.2.2.2.2.2.2.2;have f:=xS (decide<|V0 a<m)<|TD a (ZV l)<|ZV r;unfold ZV wT;omega
theorem Gz(l:List<|LB)(a:LB):commas (l++[a])=(if l.isEmpty then[]else commas l++[44])++a:=by
 induction l with
 |nil=>rfl
 |cons b l ih=>
  cases l with
  |nil=>simp[commas]
  |cons c l=>
   have e:commas (b::c::l++[a])=b++44::commas (c::l++[a]):=C;rw[e,ih];simp[commas]
end Go.Proofs.YtmfnolgpaoldpaaGreatDoor
namespace Go.Proofs.YtmfnolgpaoldpaaGreatDoor.LS
open Go Go.RowKit
theorem Jf (c:UInt8)(l:LB):Lib.index l [c]=match seek c l with|none=>-1|some i=>(i:Int):=by
 induction l with
 |nil=>rfl
 |cons b l ih=>
  unfold Lib.index seek;by_cases a:b=c
  .simp_all
  · have d:[c].isPrefixOf (b::l)=false:=by simp[List.isPrefixOf,Qw a]
    have e:(b==c)=false:=by simp[a]
    rw[Yd<|by simp[d],ih,e];split<;>simp_all
theorem qT{c:UInt8}{l x y:LB}(h:cut c l=some (x,y)):Lib.cut l [c]=(x,y,true):=by
 unfold cut at h;cases a:seek c l with
 |none=>simp_all
 |some i=>
  rw[a]at h;simp only[Wr,QZ,M1]at h;unfold Lib.cut;rw[Jf,a];simp_all
theorem qS{c:UInt8}{l:LB}(h:cut c l=none):Lib.cut l [c]=(l,[],false):=by
 unfold cut at h;cases a:seek c l with
 |some i=>simp_all
 |none=>
  unfold Lib.cut;rw[Jf,a];rfl
theorem Rm{c:UInt8}{l x y:LB}(h:cut c l=some (x,y)):l=x++c::y/\c∉x:=by
 unfold cut at h;cases d:seek c l with
 |none=>simp_all
 |some i=>
  rw[d]at h;simp only[Wr,QZ,M1]at h;obtain⟨a,b,rfl,rfl,e⟩:=Pq d;simp_all
theorem Hh{c:UInt8}{x y:LB}(h:c∉x):cut c (x++c::y)=some (x,y):=by
 unfold cut;rw[LM c x y h];simp
theorem A9(c:UInt8):∀(n:Nat)(l:LB),l.length<=n->Lib.splitK [c] 0 (Lib.count l [c]) l=split c l:=by
 intro n;induction n with
 |zero=>
  intro l g;obtain rfl:l=[]:=Oh.1 X;rfl
 |succ n ih=>
  intro l g;cases d:seek c l with
  |none=>
   rw[Lib.count_miss<|by rw[Jf,d]];have e:=(LN c l).1 d;have:=MD c l [] e;rw[Ud]at this;rw[this];simp[Lib.splitK,split,pre]
  |some i=>
   obtain⟨a,b,rfl,rfl,e⟩:=Pq d;have f:Lib.index (a++c::b) [c]=(a.length):=by rw[Jf,d]
   rw[Lib.count_hit (Sm) f];have e1:(a++c::b).drop (a.length+[c].length)=b:=Sm;rw[e1,Nat.add_comm,Lib.splitK,Yd<|by simp_all,f];rw[show((a.length:Int)).toNat=a.length by omega,e1,ih b<|by simp_all;omega,MD c a _ e,Ni];simp[pre]
def Z6(c:UInt8):LB->LB×Bool
 |[]=>([],false)
 |b::t=>if b==c then(t,true)else(b::t,false)
theorem qU(c:UInt8)(l:LB):(Lib.trimPrefix l [c],Lib.hasPrefix l [c])=Z6 c l:=by
 cases l with
 |nil=>rfl
 |cons b t=>
  by_cases a:b=c
  .subst a;simp[Lib.trimPrefix,Lib.hasPrefix,Z6]
  .have d:[c].isPrefixOf (b::t)=false:=by simp[List.isPrefixOf,Qw a]
   simp[Lib.trimPrefix,Lib.hasPrefix,Z6,a,d]
theorem GM(c:UInt8)(l:LB):(Z6 c l).1.length<=l.length:=by
 cases l with
 |nil=>simp[Z6]
 |cons b t=>by_cases h:(b==c)=true<;>simp[Z6,h]
def T2(d:LB):Bool:=match ZC 1000000000 (Z6 45 d).1 with
 |none=>false
 |some v=>!((Z6 45 d).2&&v==0)
def Tw(t:LB):Option Nat:=match cut 58 t with
 |none=>none
 |some (a,d)=>match ZC 1000000 a with
  |none=>none
  |some tm=>if T2 d then some tm else none
def Vk:Int->Nat->List (LB)->Option Nat
 |_,n,[]=>some n
 |last,n,x::xs=>match Tw x with
  |none=>none
  |some t=>if(t:Int)<=last then none else Vk t (n+1) xs
def VI(l:LB):Option Nat:=match Z6 32 l with
 |(r,f)=>if l=[]then some 0 else if f then Vk (-1) 0 (split 32 r)else none
def MI(a b:LB):Bool:=Op.bytesLess a b||a==b
def Rq(last:LB)(x:LB):Option<|LB×LB:=match cut 61 x with
 |none=>none
 |some (n,v)=>if Zx n&&ZY v&&!v.isEmpty&&!MI n last then some (n,v)else none
def Wf:LB->List (LB×LB)->List (LB)->Option (List<|LB×LB)
 |_,acc,[]=>some acc
 |last,acc,x::xs=>match Rq last x with
  |none=>none
  |some p=>Wf p.1 (acc++[p]) xs
def Wp(l:LB):Option<|List<|LB×LB:=if l=[]then some []else Wf [] []<|split 44 l
def Y3(l:LB):Option<|LB×LB×Nat:=match cut 123 l with
 |none=>none
 |some (name,rest)=>match cut 125 rest with
  |none=>none
  |some (inside,behind)=>if Zx name&&(Wp inside).isSome then(VI behind).map λn=>(name,inside,n)else none
theorem Ly{l:LB}(h:cut 123 l=none):Y3 l=none:=by unfold Y3;rw[h]
theorem Mq{l name rest:LB}(h:cut 123 l=some (name,rest))(a:cut 125 rest=none):Y3 l=none:=by unfold Y3;simp_all
theorem Mr{l name rest inside behind:LB}(h:cut 123 l=some (name,rest))(a:cut 125 rest=some (inside,behind)):
 Y3 l=if Zx name&&(Wp inside).isSome then(VI behind).map λn=>(name,inside,n)else none:=by unfold Y3;simp_all
structure Yn where
 at_:Nat
 name:LB
 inside:LB
 count:Nat
def ZT:Nat->List Yn->List (LB)->Nat⊕List Yn
 |_,acc,[]=>.inr acc
 |i,acc,x::xs=>if x=[]then ZT (i+1) acc xs else match Y3 x with
  |none=>.inl i
  |some (a,b,n)=>ZT (i+1) (acc++[⟨i,a,b,n⟩]) xs
theorem Bg{i:Nat}{acc:List Yn}{ps:List<|LB}(a:i<ps.length)(h:ps.getD i []=[]):ZT i acc (ps.drop i)=ZT (i+1) acc (ps.drop<|i+1):=by
 have e:ps.getD i []=ps[i]:=by simp[a]
 rw[List.drop_eq_getElem_cons a,ZT,<-e,Ye h]
theorem Be{i:Nat}{acc:List Yn}{ps:List<|LB}(a:i<ps.length)(h:ps.getD i []≠[])(c:Y3 (ps.getD i [])=none):ZT i acc (ps.drop i)=.inl i:=by
 have e:ps.getD i []=ps[i]:=by simp[a]
 rw[List.drop_eq_getElem_cons a,ZT,<-e,Yd h,c]
theorem Bf{i:Nat}{acc:List Yn}{ps:List<|LB}(c:i<ps.length)(h:ps.getD i []≠[]){a b:LB}{n:Nat}(d:Y3 (ps.getD i [])=some (a,b,n)):
 ZT i acc (ps.drop i)=ZT (i+1) (acc++[⟨i,a,b,n⟩]) (ps.drop<|i+1):=by
 have e:ps.getD i []=ps[i]:=by simp[c]
 rw[List.drop_eq_getElem_cons c,ZT,<-e,Yd h,d]
theorem Co{i:Nat}{acc:List Yn}{ps:List<|LB}(a:¬i<ps.length):ZT i acc (ps.drop i)=.inr acc:=by
 rw[Ts X];rfl
abbrev Xc:=LB×LB
abbrev El:=List Xc×Int
structure YY where
 name:LB
 labs:List Xc
 jm:List<|Int×Int
abbrev VV:=Int⊕List El
def XY(p:Xc):LB:=p.1++[61]++p.2
def Yy(l:List Xc):LB:=Go.Proofs.YtmfnolgpaoldpaaGreatDoor.LS.commas<|l.map XY
def YZ(n:Int):Int:=if 1000000000<n then 1000000000 else if n< -1000000000 then-1000000000 else n
def V7:List El->El->List El
 |[],x=>[x]
 |y::l,x=>if Op.bytesLess (Yy x.1)<|Yy y.1then x::y::l else y::V7 l x
def So:List Xc->LB->LB
 |[],_=>[]
 |p::l,n=>if p.1=n then p.2 else So l n
def RM(s:YY)(c:LB×LB×Bool):Bool:=!((decide<|So s.labs c.1=c.2.1)==c.2.2)
def UI(a:Nd)(s:YY):Bool:=a.kq.all (RM s)&&decide (a.name=s.name)
def ZM(l:List<|Int×Int)(n t:Int):List<|Int×Int:=l.filter λx=>decide (t-n<x.1)&&decide (x.1<=t)
def Wh:Int->List Int->Int
 |m,[]=>m
 |m,x::l=>Wh (if m<x then x else m) l
def Wi:Int->List Int->Int
 |m,[]=>m
 |m,x::l=>Wi (if x<m then x else m) l
def T1(op:Nat)(l:List Int):Int:=
 if op=0 then l.sum else if op=1 then Wh (l.headD 0) l else if op=2 then Wi (l.headD 0) l else if op=3 then(l.length:Int)else l.getLastD 0-l.headD 0
def X3(op:Option Nat)(l:List<|Int×Int):Int:=match op with
 |none=>(l.getLastD (0,0)).2
 |some o=>YZ (T1 o (l.map (·.2)))
def Uk(st:List YY)(a:Nd)(op:Option Nat)(size t:Int):List El:=
 st.foldl (λacc s=>if UI a s&&!(ZM s.jm size t).isEmpty then V7 acc (s.labs,X3 op<|ZM s.jm size t)else acc) []
def YI(op:Nat)(a b:Int):Int:=if op=0 then YZ (a+b)else if op=1 then YZ (a-b)else if op=2 then YZ (a*b)else if b=0 then 0 else a.tdiv b
def QJ(op:Nat):VV->VV->VV
 |.inl a,.inl b=>.inl<|YI op a b
 |.inl a,.inr y=>.inr<|y.map λe=>(e.1,YI op a e.2)
 |.inr x,.inl b=>.inr<|x.map λe=>(e.1,YI op e.2 b)
 |.inr x,.inr y=>.inr<|x.flatMap λe=>(y.filter λf=>decide<|Yy e.1=Yy f.1).map λf=>(e.1,YI op e.2 f.2)
def TH:VV->VV
 |.inl a=>.inl<|-a
 |.inr x=>.inr<|x.map λe=>(e.1,-e.2)
def Zp(l:List Xc)(by_:List<|LB):List Xc:=l.filter λp=>by_.contains p.1
def Vx(op:Nat)(by_:List<|LB)(all:List El):List El->List El->List El
 |_,[]=>[]
 |pre,e::l=>(if pre.any λf=>decide<|Yy (Zp f.1 by_)=Yy (Zp e.1 by_)then[]else[(Zp e.1 by_,YZ (T1 op ((all.filter λf=>decide<|Yy (Zp f.1 by_)=Yy (Zp e.1 by_)).map (·.2))))])++Vx op by_ all (pre++[e]) l
def SA(op:Nat)(by_:List<|LB)(l:List El):List El:=(Vx op by_ l [] l).foldl V7 []
def Hp:VV->List El
 |.inl _=>[]
 |.inr l=>l
def Xs(n:Int):LB:=if n<0 then[45]++Xj n.natAbs else Xj n.toNat
def QO(e:El):LB:=[32,123]++Yy e.1++[125]++Xs e.2
def U8(t:Int):VV->LB
 |.inl n=>Xs t++[32]++Xs n
 |.inr l=>Xs t++(l.map QO).flatten
end Go.Proofs.YtmfnolgpaoldpaaGreatDoor.LS
namespace Go.Proofs.YtmfnolgpaoldpaaGreatDoor
open Go.RowKit LS Go.Proofs.Tryz
open Go renaming World->Y,Value->F
open Go.RowKit renaming Hid->U
theorem R5:∀x:LB,Op.bytesLess x x=false
 |[]=>C
 |a::x=>by
  have h:=UInt8.lt_irrefl a;simp[Op.bytesLess,R5 x,h]
theorem PU:∀x y z:LB,Op.bytesLess x y=true->Op.bytesLess y z=true->Op.bytesLess x z=true
 |x,y,[],_,h=>by cases y<;>simp[Op.bytesLess]at h
 |x,[],c::z,h,_=>by cases x<;>simp[Op.bytesLess]at h
 |[],b::y,c::z,_,_=>C
 |a::x,b::y,c::z,e,d=>by
  simp only[Op.bytesLess,Iv,Kn,Vt,XM]at e d⊢;rcases e with e|⟨rfl,e⟩
  · rcases d with d|⟨rfl,d⟩
    .exact .inl<|UInt8.lt_trans e d
    simp_all
  · rcases d with d|⟨rfl,d⟩
    .simp_all
    .exact .inr ⟨C,PU x y z e d⟩
theorem Pc:∀x y:LB,Op.bytesLess x y=false->Op.bytesLess y x=false->x=y
 |[],[],_,_=>C
 |[],b::y,h,_=>by simp[Op.bytesLess]at h
 |a::x,[],_,h=>by simp[Op.bytesLess]at h
 |a::x,b::y,c,d=>by
  simp only[Op.bytesLess,Bool.or_eq_false_iff,O5,Ia,YB]at c d;have f:a=b:=by
   have k1:¬a.toNat<b.toNat:=λh=>c.1<|Ee.2 h;have k2:¬b.toNat<a.toNat:=λh=>d.1<|Ee.2 h;exact TN.1 X
  subst f;have e:=Pc x y (c.2.resolve_left λh=>h C)<|d.2.resolve_left λh=>h C;rw[e]
def NP(a b:El):Prop:=Op.bytesLess (Yy a.1) (Yy b.1)=true
def To(l:List El):Prop:=l.Pairwise NP
theorem GV(l:List El)(x z:El):z∈V7 l x↔z=x\/z∈l:=by
 induction l with
 |nil=>simp[V7]
 |cons y l ih=>
  rw[V7];split
  .simp
  .rw[X0,ih,X0];constructor
   .rintro(h|h|h)
    .simp_all
    .simp_all
    simp_all
   .rintro(h|h|h)
    .simp_all
    .simp_all
    simp_all
theorem jJ(l:List El)(x:El):(V7 l x).length=l.length+1:=by
 induction l with
 |nil=>rfl
 |cons y l ih=>
  rw[V7];split<;>simp_all
theorem jK(l:List El)(x:El)(h:To l)(d:∀y∈l,Yy y.1≠Yy x.1):To<|V7 l x:=by
 induction l with
 |nil=>constructor<;>simp_all
 |cons y l ih=>
  obtain⟨e,f⟩:=Re.1 h;rw[V7];split
  .rename_i a;refine Re.2 ⟨λz c=>?_,h⟩;rcases X0.1 c with rfl|c
   .exact a
   .exact PU _ _ _ a<|e z c
  .rename_i a;refine Re.2 ⟨λz c=>?_,ih f λy g=>d y<|Vf _ g⟩;rcases(GV l x z).1 c with rfl|c
   .unfold NP;cases i:Op.bytesLess (Yy y.1)<|Yy z.1with
    |true=>rfl
    |false=>exact absurd (Pc _ _ i<|Qs.2 a)<|d y<|Rd ..
   simp_all
theorem Lt (L:List El):∀acc:List El,To acc->(L.Pairwise λa b=>Yy a.1≠Yy b.1)->(∀y∈acc,∀x∈L,Yy y.1≠Yy x.1)->
 To (L.foldl V7 acc)/\(L.foldl V7 acc).length=acc.length+L.length/\∀z,z∈L.foldl V7 acc↔z∈acc\/z∈L:=by
  induction L with
  |nil=>simp
  |cons x L ih=>
   intro acc h e hd;obtain⟨f,g⟩:=Re.1 e;obtain⟨k1,k2,k3⟩:=ih (V7 acc x) (jK acc x h λy c=>hd y c x<|Rd ..) g (λy c z d=>by
    rcases(GV acc x y).1 c with rfl|c
    .exact f z d
    .exact hd y c z<|Vf _ d);refine⟨k1,by rw[Kv,k2,jJ,Y1];omega,λz=>?_⟩;rw[Kv,k3,GV,X0];constructor
   · rintro((h|h)|h)
     .simp_all
     .simp_all
     simp_all
   · rintro(h|h|h)
     .simp_all
     .simp_all
     simp_all
def Sw(st:List YY):Prop:=st.Pairwise λs r=>¬(s.name=r.name/\Yy s.labs=Yy r.labs)
def P2(st:List YY)(a:Nd)(op:Option Nat)(size t:Int):List El:=(st.filter λs=>UI a s&&!(ZM s.jm size t).isEmpty).map λs=>(s.labs,X3 op<|ZM s.jm size t)
theorem FM(st:List YY)(a:Nd)(op:Option Nat)(size t:Int):Uk st a op size t=(P2 st a op size t).foldl V7 []:=by
 unfold Uk P2;generalize([]:List El)=acc;induction st generalizing acc with
 |nil=>rfl
 |cons s st ih=>
  rw[Kv];split<;>simp_all
theorem GT {st:List YY}(h:Sw st)(a:Nd)(op:Option Nat)(size t:Int):(P2 st a op size t).Pairwise λx y=>Yy x.1≠Yy y.1:=by
 unfold P2;rw[Rx];refine NX ?_<|h.filter _;intro s r c d e f;have n1:=(Qu.1 c).2;have n2:=(Qu.1 d).2;simp only[Vt,UI,Kn]at n1 n2;simp_all
def WG(n:Nat):VV->Prop
 |.inl _=>True
 |.inr l=>To l/\l.length<=n
theorem Ar{st:List YY}(h:Sw st){a:Nd}{op:Option Nat}{size t:Int}:WG st.length<|.inr<|Uk st a op size t:=by
 rw[FM];obtain⟨c,d,_⟩:=Lt (P2 st a op size t) [] List.Pairwise.nil (GT h a op size t)<|Sm;refine⟨c,?_⟩;rw[d];unfold P2;rw[Yz];have:=Qp (λs=>UI a s&&!(ZM s.jm size t).isEmpty) st;simp_all
theorem Fw{l:List El}(h:To l){f:El->El}(d:∀e,(f e).1=e.1):To<|l.map f:=by
 unfold To;rw[Rx];exact h.imp λ{a b} c=>by unfold NP at*;simp_all
theorem sh {y:List El}(h:To y)(k:LB):y.filter (λf=>decide<|k=Yy f.1)=(y.find? λf=>decide<|k=Yy f.1).toList:=by
 induction y with
 |nil=>rfl
 |cons e y ih=>
  obtain⟨c,d⟩:=Re.1 h;by_cases g:k=Yy e.1
  · rw[NY<|by simp_all,List.find?_cons_of_pos<|by simp_all];have:y.filter (λf=>decide<|k=Yy f.1)=[]:=by
      rw[MW];intro f i j;have a:=c f i;unfold NP at a;rw[<-g,Rw j,R5]at a;cases a
    rw[this];rfl
  .rw[N4<|by simp_all,List.find?_cons_of_neg<|by simp_all];exact ih d
theorem tE {α β:Type}(f:α->Option β)(l:List α):l.flatMap (λa=>(f a).toList)=l.filterMap f:=by
 induction l with
 |nil=>rfl
 |cons a l ih=>
  rw[Kl,ih,J0];cases f a<;>rfl
def Oc(op:Nat)(y:List El)(e:El):Option El:=(y.find? λf=>decide<|Yy e.1=Yy f.1).map λf=>(e.1,YI op e.2 f.2)
theorem Db(op:Nat)(x y:List El)(a:To y):QJ op (.inr x) (.inr y)=.inr (x.filterMap<|Oc op y):=by
 have h:∀e:El,(y.filter _).map (λf=>(e.1,YI _ _ _))=(Oc op y e).toList:=λe=>by
  rw[sh a];unfold Oc;cases y.find? λf=>decide<|Yy e.1=Yy f.1<;>rfl
 show Sum.inr (x.flatMap λe=>(y.filter λf=>decide<|Yy e.1=Yy f.1).map λf=>(e.1,YI op e.2 f.2))=_;rw[<-tE,funext h]
theorem yh{op:Nat}(x y:List El)(i:To x):To<|x.filterMap<|Oc op y:=by
 unfold To;rw[List.pairwise_filterMap];refine i.imp ?_;intro a b h c e d hd;unfold Oc at e hd;cases j:y.find? λf=>decide<|Yy a.1=Yy f.1with
 |none=>simp_all
 |some f=>
  cases k:y.find? λf=>decide<|Yy b.1=Yy f.1with
  |none=>simp_all
  |some g=>
   rw[j]at e;rw[k]at hd;cases e;cases hd;exact h
theorem wX{op n:Nat}{a b:VV}(c:WG n a)(d:WG n b):WG n<|QJ op a b:=by
 cases a with
 |inl a=>
  cases b with
  |inl b=>trivial
  |inr y=>exact⟨Fw d.1 λ_=>C,by rw[Yz];exact d.2⟩
 |inr x=>
  cases b with
  |inl b=>exact⟨Fw c.1 λ_=>C,by rw[Yz];exact c.2⟩
  |inr y=>
   rw[Db _ x y d.1];exact⟨yh x y c.1,Xb (List.length_filterMap_le _ _) c.2⟩
theorem nF{n:Nat}{a:VV}(c:WG n a):WG n<|TH a:=by
 cases a with
 |inl a=>trivial
 |inr x=>exact⟨Fw c.1 λ_=>C,by rw[Yz];exact c.2⟩
theorem H7 (op:Nat)(bs:List<|LB)(all:List El):∀(l pre:List El),((Vx op bs all pre l).Pairwise λx y=>Yy x.1≠Yy y.1)/\(Vx op bs all pre l).length<=l.length/\∀x∈Vx op bs all pre l,∀f∈pre,Yy (Zp f.1 bs)≠Yy x.1
 |[],pre=>⟨List.Pairwise.nil,Yj _,by simp[Vx]⟩
 |e::l,pre=>by
  obtain⟨g,i,d⟩:=H7 op bs all l<|pre++[e];rw[Vx];split
  .refine⟨by assumption,by simp;omega,λx a f c=>d x (by assumption) f<|L8 _ c⟩
  · rename_i h;refine⟨?_,by simp_all,?_⟩
    .rw[Ib,Re];exact⟨λx a=>d x a e<|Sm,g⟩
    · intro x a f c;rw[Ib,X0]at a;rcases a with rfl|a
      .intro j;exact h<|List.any_eq_true.2 ⟨f,c,by simp_all⟩
      .exact d x a f<|L8 _ c
theorem qC{op:Nat}{bs:List<|LB}{n:Nat}{l:List El}(h:l.length<=n):WG n<|.inr<|SA op bs l:=by
 obtain⟨a,c,_⟩:=H7 op bs l l [];obtain⟨k1,k2,_⟩:=Lt (Vx op bs l [] l) [] List.Pairwise.nil a<|Sm;exact⟨k1,by show(List.foldl V7 [] _).length<=n;simp_all;omega⟩
theorem DR{n:Nat}{v:VV}(h:WG n v):(Hp v).length<=n:=by
 cases v with
 |inl _=>exact Yr _
 |inr l=>exact h.2
def Ta(a:Ah)(i:Nat):F:=if i=0 then .bool a.kj else if i=1 then .bool a.kw else if i=2 then E a.jy.length else if i<67 then .int .u8 ((a.jy.reverse.getD (i-3) 0:Nat):Int)else .int .u8 ((a.jx.getD (i-67) 0:Nat):Int)
def Xn(a:Ah):List F:=(List.range 83).map<|Ta a
theorem Ux(a:Ah):(Xn a).length=83:=by rfl
theorem Tx(a:Ah)(i:Nat)(h:i<83):(Xn a)[i]?=some (Ta a i):=by
 unfold Xn;simp_all
theorem za(a:Ah):∀v∈Xn a,v.oneCell'=true:=by
 intro v c;obtain⟨i,_,rfl⟩:=XK.1 c;unfold Ta;repeat' split
 all_goals rfl
theorem GI(a:Ah)(j:Nat)(h:j<64):(Xn a)[3+j]?=some (.int .u8 ((a.jy.reverse.getD j 0:Nat):Int)):=by
 rw[Tx a _ X];unfold Ta;rw[Yd X,Yd X,Yd X,Ye X,show 3+j-3=j by omega]
theorem GH(a:Ah)(j:Nat)(h:j<16):(Xn a)[67+j]?=some (.int .u8 ((a.jx.getD j 0:Nat):Int)):=by
 rw[Tx a _ X];unfold Ta;rw[Yd X,Yd X,Yd X,Yd X,show 67+j-67=j by omega]
theorem LR{l:List F}{a:Ah}(d:l.length=83)(h:∀i,i<83->l[i]?=some (Ta a i)):l=Xn a:=by
 apply PB;intro i;by_cases c:i<83
 .rw[h i c,Tx a i c]
 .rw[Rh X,Rh<|by rw[Ux];omega]
theorem fi(a:Ah)(k:Nat)(m:a.jy.length<64):((Xn a).set (3+a.jy.length)<|.int .u8 (k:Int)).set 2 (E ((a.jy.length+1:Nat):Int))=Xn {a with jy:=k::a.jy}:=by
 refine LR (by simp[Ux]) λi l=>?_;rw[Sc];by_cases f:2=i
 .subst f;rw[Ye C,Ye<|by simp[Ux]];rfl
 .rw[Yd f,Sc];by_cases g:3+a.jy.length=i
  .subst g;rw[Ye C,Ye<|by assumption];unfold Ta;rw[Yd X,Yd X,Yd X,Ye X,show 3+a.jy.length-3=a.jy.length by omega];simp
  .rw[Yd g,Tx a i l];congr 1;unfold Ta;by_cases h:i=0
   .simp_all
   .rw[Yd h,Yd h];by_cases j:i=1
    .simp_all
    .have c:¬i=2:=λe=>f e.symm;rw[Yd j,Yd j,Yd c,Yd c];by_cases d:i<67
     .rw[Ye d,Ye d];congr 2;show a.jy.reverse.getD (i-3) 0=(k::a.jy).reverse.getD (i-3) 0;rw[Se,Y0,Y0];by_cases n:i-3<a.jy.length
      .rw[PA<|by simp_all]
      .rw[Rh<|by simp_all,Rh<|by simp;omega]
     split<;>simp_all
theorem fh(a:Ah)(p:a.jy.length<=64)(f:0<a.jy.length):((Xn a).set 2<|E ((a.jy.length-1:Nat):Int)).set (3+(a.jy.length-1)) (.int .u8 0)=Xn {a with jy:=a.jy.tail}:=by
 obtain⟨k,r,g⟩:∃k r,a.jy=k::r:=by
  cases q:a.jy with
  |nil=>simp_all
  |cons k r=>simp
 refine LR (by simp[Ux]) λi n=>?_;have j:a.jy.length-1=r.length:=by rw[g];simp
 rw[j];have o:r.length<64:=X;rw[Sc];by_cases l:3+r.length=i
 .subst l;rw[Ye C,Ye<|by assumption];unfold Ta;rw[Yd X,Yd X,Yd X,Ye X,show 3+r.length-3=r.length by omega,g];simp
 .rw[Yd l,Sc];by_cases h:2=i
  .subst h;rw[Ye C,Ye<|by assumption];unfold Ta;simp_all
  .rw[Yd h,Tx a i n];congr 1;unfold Ta;by_cases f:i=0
   .simp_all
   .rw[Yd f,Yd f];by_cases m:i=1
    .simp_all
    .have c:¬i=2:=λe=>h e.symm;rw[Yd m,Yd m,Yd c,Yd c];by_cases d:i<67
     .rw[Ye d,Ye d,g];congr 2;show(k::r).reverse.getD (i-3) 0=r.reverse.getD (i-3) 0;rw[Se,Y0,Y0];by_cases s:i-3<r.length
      .rw[PA<|by simp_all]
      .rw[Rh<|by simp;omega,Rh<|by simp_all]
     split<;>simp_all
theorem GJ(a:Ah)(j k:Nat)(m:j<16)(l:a.jx.length=16):(Xn a).set (67+j) (.int .u8 (k:Int))=Xn {a with jx:=a.jx.set j k}:=by
 refine LR (by simp[Ux]) λi h=>?_;rw[Sc];by_cases d:67+j=i
 .subst d;rw[Ye C,Ye<|by assumption];unfold Ta;rw[Yd X,Yd X,Yd X,Yd X,show 67+j-67=j by omega];simp_all
 .rw[Yd d,Tx a i h];congr 1;unfold Ta;by_cases e:i=0
  .simp_all
  .rw[Yd e,Yd e];by_cases f:i=1
   .simp_all
   .rw[Yd f,Yd f];by_cases g:i=2
    .simp_all
    .rw[Yd g,Yd g];by_cases c:i<67
     .simp_all
     .rw[Yd c,Yd c];congr 2;show a.jx.getD (i-67) 0=(a.jx.set j k).getD (i-67) 0;rw[Y0,Y0,List.getElem?_set_ne X]
section
variable {P:Program} {ops:Array Oper} {Q:Exit->Act->World->Prop} {md:Region.Mode} {S:World->Prop} {k:Nat}
def T3(P:Program)(md:Region.Mode)(ops:Array Oper)(Q:Exit->Act->Y->Prop)(S:Y->Prop)(k:Nat):Nat->Array Bool->Act->Y->Prop
 |0,ls,a,w=>Region.ready md ops ls=[]/\Q .normal a w
 |f+1,ls,a,w=>(Region.ready md ops ls=[]->Q .normal a w)/\∀i∈Region.ready md ops ls,
  wpOp P ops Q i (λa' w'=>((ls.setIfInBounds i true).getD k true=false->S w')/\T3 P md ops Q S k f (ls.setIfInBounds i true) a' w') a w
theorem T3.any:∀(f:Nat)(ls:Array Bool)(a:Act)(w:Y),T3 P md ops Q S k f ls a w->wpAny P md ops Q f ls a w
 |0,_,_,_,h=>h
 |f+1,_,_,_,h=>⟨h.1,λi c=>wpOp_mono (λ_ _ d=>T3.any f _ _ _ d.2)<|h.2 i c⟩
def OU(md:Region.Mode)(ops:Array Oper)(ls:Array Bool):Bool:=
 (List.range ops.size).all λj=>!ls.getD j true||((ops[j]?).map (·.after.all λe=>!Region.binds md e||ls.getD e.on false)).getD false
def Me(md:Region.Mode)(ops:Array Oper)(i:Nat):Nat->Nat->Bool
 |0,_=>false
 |n+1,j=>((ops[j]?).map (·.after.any λe=>Region.binds md e&&(e.on==i||Me md ops i n e.on))).getD false
theorem A6{ls:Array Bool}:OU md ops ls=true↔∀j o,ops[j]?=some o->ls.getD j true=true->∀e∈o.after,Region.binds md e=true->ls.getD e.on false=true:=by
 unfold OU;rw[Tt];constructor
 .intro h j o a c e d g;have f:=h j<|RX.2 (Xr.1 a).1;rw[c,a]at f;simp only[Bool.not_true,Kx,Wr,Qt,Array.all_eq_true']at f;have l:=f e d;simp_all
 .intro h j c;rw[RX]at c;have a:=Array.getElem?_eq_getElem c;cases i:ls.getD j true with
  |false=>rfl
  |true=>
   rw[a];simp only[Bool.not_true,Kx,Wr,Qt,Array.all_eq_true'];intro e d;cases g:Region.binds md e with
   |false=>rfl
   |true=>simpa using h j _ a i e d g
theorem iF{ls:Array Bool}{j:Nat}(h:OU md ops ls=true)(n:j∈Region.ready md ops ls):OU md ops (ls.setIfInBounds j true)=true:=by
 rw[A6]at h⊢;intro i o c f e g l;obtain⟨_,oj,m,d⟩:=mem_ready.1 n;by_cases a:j=i
 .subst a;rw[m]at c;cases c;exact getD_set_true<|d e g l
 .rw[getD_set_ne _ a]at f;exact getD_set_true<|h i o c f e g l
theorem AV{ls:Array Bool}{i:Nat}(h:OU md ops ls=true)(f:ls.getD i true=false):∀(n j:Nat),Me md ops i n j=true->ls.getD j true=false
 |0,_,a=>by cases a
 |n+1,j,a=>by
  cases g:ls.getD j true with
  |false=>rfl
  |true=>
   unfold Me at a;cases c:ops[j]? with
   |none=>simp_all
   |some o=>
    rw[c]at a;simp only[Wr,Qt,Array.any_eq_true',Vt,Iv,XM]at a;obtain⟨e,l,m,d⟩:=a;have s:=A6.1 h j o c g e l m;have t:ls.getD e.on true=false:=by
     rcases d with r|p
     .simp_all
     .exact AV h f n _ p
    exfalso;rcases Sf e.on ls.size with q|q
    .simp_all
    simp_all
theorem zt{i n:Nat}{oi:Oper}{v:F}(t:ops[i]?=some oi)(l:∀(j:Nat)(o:Oper) cs b,ops[j]?=some o->o.op≠.select cs b)
 (T:∀c a w,Q (.panic c) (a.put oi.dst v) w->Q (.panic c) a w)(V:Me md ops i n k=true)(B:i≠k):
 ∀(f:Nat)(ls:Array Bool)(a:Act)(w:Y),OU md ops ls=true->
  (∀j oj,ops[j]?=some oj->j≠i->ls.getD j true=false->(∀e∈oj.after,Region.binds md e=true->e.on≠i)->oi.apart ops oj=true)->
  i∈Region.ready md ops ls->YieldsIf P ops S oi v a->S w->
  T3 P md ops Q S k f (ls.setIfInBounds i true) (a.put oi.dst v) w->T3 P md ops Q S k (f+1) ls a w
 |0,ls,a,w,D,g,J,x,p,H=>by
  refine⟨λh=>(by simp_all),λj q=>?_⟩;by_cases d:j=i
  .subst d;exact x.wpOp t p ⟨λ_=>p,H⟩
  .have z:=ready_mono q d;rw[H.1]at z;cases z
 |f+1,ls,a,w,D,g,J,x,p,H=>by
  refine⟨λh=>(by simp_all),λj q=>?_⟩;by_cases d:j=i
  .subst d;exact x.wpOp t p ⟨λ_=>p,H⟩
  · have z:=H.2 j<|ready_mono q d;obtain⟨K,oj,r,L⟩:=mem_ready.1 q;have M:=(mem_ready.1 J).1;have O:∀e∈oj.after,Region.binds md e=true->e.on≠i:=λe he hb W=>by
      have R:=L e he hb;rw[W]at R;rcases Sf i ls.size with h'|h'
      .simp_all
      simp_all
    have s:=iF D q;have A:(ls.setIfInBounds j true).getD i true=false:=by rw[getD_set_ne true d];exact M
    have a2:(ls.setIfInBounds j true).getD k true=false:=AV s A n k V;have R:=wpOp_putIf r (g j oj r d K O) (λcs b=>l i oi cs b t) (λcs b=>l j oj cs b r) T x z;refine wpOp_mono (λa' u Z=>?_) R;have G:S u:=Z.2.1<|by rw[Ei _ _<|Qw d,getD_set_ne true B];omega
    refine⟨λ_=>G,zt t l T V B f (ls.setIfInBounds j true) a' u s (λm om hm a0 a3 a1=>g m om hm a0 ?_ a1) (ready_mono J<|Qw d) Z.1 G ?_⟩
    · by_cases a4:j=m
      .simp_all
      simp_all
    .rw[Ei _ _ d];simp_all
theorem Tj{i d:Nat}{oi:Oper}{v:F}{f:Nat}{ls:Array Bool}{a:Act}{w:Y}(e:ops[i]?=some oi)(hd:oi.dst=some d)(g:(Region.noSelect ops&&Region.free md ops ls i&&(Region.ready md ops ls).contains i&&Me md ops i ops.size k&&OU md ops ls&&i !=k)=true)
 (j:∀c a w,Q (.panic c) (a.put oi.dst v) w->Q (.panic c) a w)(l:YieldsIf P ops S oi v a)(m:S w)
 (h:T3 P md ops Q S k f (ls.setIfInBounds i true) {a with tmps:=a.tmps.setIfInBounds d v} w):T3 P md ops Q S k (f+1) ls a w:=by
 simp only[Vt,Vg]at g;obtain⟨⟨⟨⟨⟨n,o⟩,s⟩,p⟩,q⟩,r⟩:=g;exact zt e (Region.noSelect_spec n) j p r f _ a w q (Region.free_spec e o) (by simp_all) l m<|by rwa [hd]
theorem Zz{i:Nat}{o:Oper}{f:Nat}{ls:Array Bool}{a:Act}{w:Y}(e:Region.ready md ops ls=[i])(g:ops[i]?=some o)
 (h:∀K':Act->Y->Prop,Shut (∀a w,S w->(S w->T3 P md ops Q S k f (ls.setIfInBounds i true) a w)->K' a w)->if Region.wanted o (yielded ops a.tmps)=true then Oper.wp P o a w K' Q else K' (a.put o.dst undef) w):T3 P md ops Q S k (f+1) ls a w:=by
 refine⟨λn=>(by simp_all),λj c=>?_⟩;rw[e,Vr]at c;subst c;exact wpOp_step g λK' l=>h _ λa w d m=>l a w ⟨λ_=>d,m d⟩
theorem ZS{o:Oper}{f:Nat}{ls:Array Bool}{a:Act}{w:Y}(e:Region.ready md ops ls=[k])(c:Region.ready md ops (ls.setIfInBounds k true)=[])(g:ops[k]?=some o)(n:(ls.setIfInBounds k true).getD k true=true)
 (h:∀K':Act->Y->Prop,Shut (∀a w,Q .normal a w->K' a w)->if Region.wanted o (yielded ops a.tmps)=true then Oper.wp P o a w K' Q else K' (a.put o.dst undef) w):T3 P md ops Q S k (f+1) ls a w:=by
 refine⟨λi=>(by simp_all),λj d=>?_⟩;rw[e,Vr]at d;subst d;refine wpOp_step g λK' l=>h _ λa w m=>l a w ⟨λi=>(by simp_all),?_⟩;cases f with
 |zero=>exact⟨c,m⟩
 |succ f=>constructor<;>simp_all
theorem ZW{id:Nat}{a:Act}{w:Y}(k:Nat)(S:Y->Prop)(c:P.follows .mixedOrders=true)(d:S w.drew)(h:S w.drew->T3 P .any ops Q S k ops.size (Array.replicate ops.size false) a w.drew):(Code.region id ops true).wp P Q a w:=
 wp_region_any c<|T3.any _ _ _ _<|h d
end
end Go.Proofs.YtmfnolgpaoldpaaGreatDoor
namespace Go.Proofs.YtmfnolgpaoldpaaGreatDoor
open Go.RowKit LS Go.Proofs.Tryz
open Go renaming World->Y,Value->F
open Go.RowKit renaming Hid->U
section
variable {P:Program} {ops:Array Oper} {Q:Exit->Act->World->Prop} {md:Region.Mode} {S:World->Prop} {k:Nat}
theorem Za (i:Nat){d:Nat}{oi:Oper}{v:F}{f:Nat}{ls ls':Array Bool}{a:Act}{tm':Array F}{w:Y}(e:S w)(g:ops[i]?=some oi:=by rfl)(hd:oi.dst=some d:=by rfl)(j:(Region.noSelect ops&&Region.free md ops ls i&&(Region.ready md ops ls).contains i&&Me md ops i ops.size k&&OU md ops ls&&i !=k)=true:=by kernel_rfl)
 (l:∀c a w,Q (.panic c) (a.put oi.dst v) w->Q (.panic c) a w:=by exact λ_ _ _ h=>h)(m:YieldsIf P ops S oi v a:=by(refine Or.inl ⟨by rfl,?_⟩;intro w hSw;go_simp;try with_reducible rfl))(n:ls.setIfInBounds i true=ls':=by(try simp only[Yt]);rfl)(o:a.tmps.setIfInBounds d v=tm':=by(try simp only[Yt]);rfl)
 (h:T3 P md ops Q S k f ls' {a with tmps:=tm'} w):T3 P md ops Q S k (f+1) ls a w:=by
  subst n o;exact Tj g hd j l m e h
end
end Go.Proofs.YtmfnolgpaoldpaaGreatDoor
namespace Go.Proofs.YtmfnolgpaoldpaaGreatDoor
open Go.Proofs.Tryz
open Go.RowKit Go.Extern.Stop Go.Stop Go.Extern LS
def DW:Array Value→Sem Value:=ReflectliteType.method λt=>do Rtype.noPackHeld "Comparable" t;pure<|.bool (←typeInfo t).comparable
theorem Tryz.isTypeOf(v:Value)(w:World):(Extern.ReflectliteType.typeOf #[.iface 469 v]).run Tryz.prog w=.ok (.iface 242<|.agg #[.pointer<|some ⟨20,469,none⟩]) w:=Kr
theorem Tryz.isComparable(w:World):(DW #[.agg #[.pointer<|some ⟨20,469,none⟩]]).run Tryz.prog w=.ok (.bool true) w:=Kr
theorem Tryz.isMethodComparable (v:Value)(w:World):(Go.method 598 242 v "Comparable").run Tryz.prog w=.ok (332,v) w:=by kernel_rfl
theorem Tryz.isComp:(Tryz.prog.info? 469).map (·.comparable)=some true:=Kr
theorem Tryz.isSize:(Tryz.prog.info? 487).map (·.size)=some 1:=Kr
theorem Tryz.noIsE(v:Value)(xT:TypeId)(w:World):(Instr.typeAssert (.iface 469 v) xT 244 true).run Tryz.prog w=.ok (.tuple #[.nilIface,.bool false]) w:=run_typeAssert_lacksB Tryz.underlying244 Kr Kr v _ w
theorem Tryz.noUnwrapE(v:Value)(xT:TypeId)(w:World):(Instr.typeAssert (.iface 469 v) xT 247 true).run Tryz.prog w=.ok (.tuple #[.nilIface,.bool false]) w:=run_typeAssert_lacksB Tryz.underlying247 Kr Kr v _ w
theorem Tryz.noUnwrapsE(v:Value)(xT:TypeId)(w:World):(Instr.typeAssert (.iface 469 v) xT 249 true).run Tryz.prog w=.ok (.tuple #[.nilIface,.bool false]) w:=run_typeAssert_lacksB Tryz.underlying249 Kr Kr v _ w
theorem Tryz.noIsW(v:Value)(xT:TypeId)(w:World):(Instr.typeAssert (.iface 92 v) xT 244 true).run Tryz.prog w=.ok (.tuple #[.nilIface,.bool false]) w:=run_typeAssert_lacksB Tryz.underlying244 Kr Kr v _ w
theorem Tryz.hasUnwrapW(v:Value)(xT:TypeId)(w:World):(Instr.typeAssert (.iface 92 v) xT 247 true).run Tryz.prog w=.ok (.tuple #[.iface 92 v,.bool true]) w:=run_typeAssert_hasB Tryz.underlying247 Kr v _ w
theorem Tryz.methodUnwrap (v:Value)(w:World):(Go.method 598 92 v "Unwrap").run Tryz.prog w=.ok (320,v) w:=by kernel_rfl
theorem Mh (args:Array Value)(w:World):(callFunc 53 args).run prog w=((ReflectliteType.typeOf args).run prog w).andThen λv u=>.ok (.value v) u:=
 RU func53 Kr Kr Kr Kr args w
theorem Jr (args:Array Value)(w:World):(callFunc 332 args).run prog w=((DW args).run prog w).andThen λv u=>.ok (.value v) u:=
 RU func332 Kr Kr Kr Kr args w
theorem M7{a:Addr}{w:World}:
 CP 26 #[.iface 469<|.pointer<|some a,.iface 469<|.pointer<|some a] w λe u=>e=.returned (.bool true)/\u=w:=by
 obtain⟨i,d,c⟩:=RV.1 Tryz.isComp;obtain⟨j,f,g⟩:=RV.1 Tryz.isSize;have l:=Mh;have h:=Jr;have tT:=Tryz.isTypeOf;have cT:=Tryz.isComparable;have mR:=Tryz.isMethodComparable;have k:=run_eql_iface_ptr_same w a underlying37 underlying469 d c f;go_enter func26,ntmps26;go_wp2;refine Ol 1 ?_;rw[Q2];go_wp2;go_ret;exact⟨rfl,rfl⟩
theorem pW{b:Addr}{w:World}:
 CP 26 #[.nilIface,.iface 469<|.pointer<|some b] w λe u=>e=.returned (.bool false)/\u=w:=by
 have a:=run_eql_iface_nil_left w 469 (.pointer<|some b) underlying37;go_enter func26,ntmps26;go_wp2;go_ret;exact⟨rfl,rfl⟩
theorem pX{a b:Addr}{ca cb:Array Value}{ta tb:TypeId}{w:World}(d:a≠b)(g:w.heap[a.block]?=some (.cells ca ta (0,0)))(h:w.heap[b.block]?=some (.cells cb tb (0,0))):
 CP 26 #[.iface 469<|.pointer<|some a,.iface 469<|.pointer<|some b] w λe u=>e=.returned (.bool false)/\u=w:=by
 obtain⟨i,k,c⟩:=RV.1 Tryz.isComp;obtain⟨j,l,f⟩:=RV.1 Tryz.isSize;have o:=Mh;have m:=Jr;have tT:=Tryz.isTypeOf;have cT:=Tryz.isComparable;have mR:=Tryz.isMethodComparable;have nE:=Tryz.noIsE;have uE:=Tryz.noUnwrapE;have vE:=Tryz.noUnwrapsE;have nW:=Tryz.noIsW;have uW:=Tryz.hasUnwrapW;have mU:=Tryz.methodUnwrap;have n:=run_eql_iface_ptr_other w underlying37 underlying469 k c l (by rw[f];decide) d g h;go_enter func26,ntmps26;go_wp2;refine Ol 1 ?_;rw[Q2];go_wp2;go_ret;exact⟨rfl,rfl⟩
theorem M8{pb:Nat}{b:Addr}{w:World}(l:w.cell? ⟨pb,2,none⟩=some (.iface 469<|.pointer<|some b)):
 CP 26 #[.iface 92<|Vp pb,.iface 469<|.pointer<|some b] w λe u=>e=.returned (.bool true)/\u=w:=by
 obtain⟨i,c,a⟩:=RV.1 Tryz.isComp;obtain⟨j,d,f⟩:=RV.1 Tryz.isSize;have m:=Mh;have g:=Jr;have tT:=Tryz.isTypeOf;have cT:=Tryz.isComparable;have mR:=Tryz.isMethodComparable;have nE:=Tryz.noIsE;have uE:=Tryz.noUnwrapE;have vE:=Tryz.noUnwrapsE;have nW:=Tryz.noIsW;have uW:=Tryz.hasUnwrapW;have mU:=Tryz.methodUnwrap;have h:=run_eql_iface_ptr_same w b underlying37 underlying469 c a d;have k:=run_eql_iface_types 92 469 (Vp pb) (.pointer<|some b) underlying37 N w;go_enter func26,ntmps26;go_wp2;refine Ol 2 ?_;rw[Q2];go_wp2;rw[Q2];go_wp2;go_ret;exact⟨rfl,rfl⟩
theorem pY{pb:Nat}{b a:Addr}{ca cb:Array Value}{ta tb:TypeId}{w:World}(p:w.cell? ⟨pb,2,none⟩=some (.iface 469<|.pointer<|some a))(d:a≠b)(g:w.heap[a.block]?=some (.cells ca ta (0,0)))(h:w.heap[b.block]?=some (.cells cb tb (0,0))):
 CP 26 #[.iface 92<|Vp pb,.iface 469<|.pointer<|some b] w λe u=>e=.returned (.bool false)/\u=w:=by
 obtain⟨i,k,c⟩:=RV.1 Tryz.isComp;obtain⟨j,l,f⟩:=RV.1 Tryz.isSize;have q:=Mh;have m:=Jr;have tT:=Tryz.isTypeOf;have cT:=Tryz.isComparable;have mR:=Tryz.isMethodComparable;have nE:=Tryz.noIsE;have uE:=Tryz.noUnwrapE;have vE:=Tryz.noUnwrapsE;have nW:=Tryz.noIsW;have uW:=Tryz.hasUnwrapW;have mU:=Tryz.methodUnwrap;have n:=run_eql_iface_ptr_other w underlying37 underlying469 k c l (by rw[f];decide) d g h;have o:=run_eql_iface_types 92 469 (Vp pb) (.pointer<|some b) underlying37 N w;go_enter func26,ntmps26;go_wp2;refine Ol 2 ?_;rw[Q2];go_wp2;rw[Q2];go_wp2;go_ret;exact⟨rfl,rfl⟩
open Go.RowKit LS Go.Proofs.Tryz
open Go renaming World->Y,Value->F
open Go.RowKit renaming Hid->U
theorem YD.all{w:Y}{A:Nat->Addr}{m:Int}(h:YD w A m):∀g,g<13->w.cell? ⟨g,0,none⟩=some (.iface 469<|.pointer<|some<|A g):=λg a=>h.sent g<|by unfold QF;simp;omega
theorem Lv {w:Y}{A:Nat->Addr}{m:Int}{fa g h:Nat}(a:YD w A m)(i:w.cell? ⟨fa,2,none⟩=some (.iface 469<|.pointer<|some<|A g))(d:g∈QF:=by decide)(f:h∈QF:=by decide)(j:g≠h:=by decide):
 CP 26 #[.iface 92<|Vp fa,.iface 469<|.pointer<|some<|A h] w λe u=>e=.returned (.bool false)/\u=w:=by
  obtain⟨c,t,r⟩:=a.row g d;obtain⟨c',t',r'⟩:=a.row h f;exact pY i (a.apart _ d _ f j) r r'
theorem JG {w:Y}{A:Nat->Addr}{m:Int}{g h:Nat}(a:YD w A m)(d:g∈QF:=by decide)(f:h∈QF:=by decide)(i:g≠h:=by decide):
 CP 26 #[.iface 469<|.pointer<|some<|A g,.iface 469<|.pointer<|some<|A h] w λe u=>e=.returned (.bool false)/\u=w:=by
  obtain⟨c,t,r⟩:=a.row g d;obtain⟨c',t',r'⟩:=a.row h f;exact pX (a.apart _ d _ f i) r r'
theorem Fz(A:Nat->Addr)(m:Int)(w:Y)(a:YD w A m):
 CP 12 #[.nilIface] w λe u=>e=.returned (E 0)/\u=w:=by
 have v:=a.all;go_enter func12,ntmps12;iterate 13 (go_wp2_with fail;refine YK (pW) ?_)
 go_wp2;go_ret;exact⟨C,C⟩
theorem oI(A:Nat->Addr)(m:Int)(w:Y)(a:YD w A m):
 CP 12 #[.iface 469<|.pointer<|some<|A 0] w λe u=>e=.returned (E 1)/\u=w:=by
 have v:=a.all;go_enter func12,ntmps12;go_wp2_with fail;refine YK (M7) ?_;go_wp2;go_ret;exact⟨C,C⟩
theorem nL(A:Nat->Addr)(m:Int)(w:Y)(a:YD w A m){fa:Nat}(c:w.cell? ⟨fa,2,none⟩=some (.iface 469<|.pointer<|some<|A 8)):
 CP 12 #[.iface 92<|Vp fa] w λe u=>e=.returned (E 9)/\u=w:=by
 have v:=a.all;go_enter func12,ntmps12;iterate 8 (go_wp2_with fail;refine YK (Lv a c) ?_)
 go_wp2_with fail;refine YK (M8 c) ?_;go_wp2;go_ret;exact⟨C,C⟩
theorem oO(A:Nat->Addr)(m:Int)(w:Y)(a:YD w A m):
 CP 12 #[.iface 469<|.pointer<|some<|A 9] w λe u=>e=.returned (E 10)/\u=w:=by
 have v:=a.all;go_enter func12,ntmps12;iterate 9 (go_wp2_with fail;refine YK (JG a) ?_)
 go_wp2_with fail;refine YK (M7) ?_;go_wp2;go_ret;exact⟨C,C⟩
theorem oL(A:Nat->Addr)(m:Int)(w:Y)(a:YD w A m){fa:Nat}(c:w.cell? ⟨fa,2,none⟩=some (.iface 469<|.pointer<|some<|A 10)):
 CP 12 #[.iface 92<|Vp fa] w λe u=>e=.returned (E 11)/\u=w:=by
 have v:=a.all;go_enter func12,ntmps12;iterate 10 (go_wp2_with fail;refine YK (Lv a c) ?_)
 go_wp2_with fail;refine YK (M8 c) ?_;go_wp2;go_ret;exact⟨C,C⟩
theorem oM(A:Nat->Addr)(m:Int)(w:Y)(a:YD w A m){fa:Nat}(c:w.cell? ⟨fa,2,none⟩=some (.iface 469<|.pointer<|some<|A 11)):
 CP 12 #[.iface 92<|Vp fa] w λe u=>e=.returned (E 12)/\u=w:=by
 have v:=a.all;go_enter func12,ntmps12;iterate 11 (go_wp2_with fail;refine YK (Lv a c) ?_)
 go_wp2_with fail;refine YK (M8 c) ?_;go_wp2;go_ret;exact⟨C,C⟩
theorem nM(A:Nat->Addr)(m:Int)(w:Y)(a:YD w A m):
 CP 12 #[.iface 469<|.pointer<|some<|A 12] w λe u=>e=.returned (E 13)/\u=w:=by
 have v:=a.all;go_enter func12,ntmps12;iterate 12 (go_wp2_with fail;refine YK (JG a) ?_)
 go_wp2_with fail;refine YK (M7) ?_;go_wp2;go_ret;exact⟨C,C⟩
theorem vj{t:Value}{w:World}:
 CP 27 #[.nilIface,t] w λe u=>e=.returned (.bool false)/\u=w:=by
 go_enter func27,ntmps27;go_wp2;go_ret;exact⟨rfl,rfl⟩
def Hw:Array Value->Sem Value:=λargs=>ReflectliteValue.unpack<|args.getD 0<|.tuple #[]
def DZ:Array Value→Sem Value:=ReflectliteValue.methodAny (ReflectliteValue.valueError "reflectlite.Value.Type" 0) λt _ _ _=>ReflectliteType.toType t
def Hu:Array Value→Sem Value:=ReflectliteValue.method (ReflectliteValue.valueError "reflectlite.Value.IsNil" 0) ReflectliteValue.isNil
def Hv:Array Value->Sem Value:=ReflectliteType.abiMethod λt=>do pure<|.int .u8<|<-Rtype.kind t
def DX:Array Value->Sem Value:=ReflectliteType.method ReflectliteType.elem
def DY:Array Value→Sem Value:=ReflectliteType.relation "Implements" ReflectliteType.implements_
def Hs:Array Value→Sem Value:=ReflectliteType.relation "AssignableTo" ReflectliteType.assignableTo
def Ht:Array Value→Sem Value:=ReflectliteValue.method (ReflectliteValue.valueError "reflectlite.Value.Elem" 0) ReflectliteValue.elem
theorem zG (args:Array Value)(w:World):(callFunc 55 args).run prog w=((Hw args).run prog w).andThen λv u=>.ok (.value v) u:=
 RU func55 Kr Kr Kr Kr args w
theorem zF (args:Array Value)(w:World):(callFunc 56 args).run prog w=((DZ args).run prog w).andThen λv u=>.ok (.value v) u:=
 RU func56 Kr Kr Kr Kr args w
theorem zD (args:Array Value)(w:World):(callFunc 57 args).run prog w=((Hu args).run prog w).andThen λv u=>.ok (.value v) u:=
 RU func57 Kr Kr Kr Kr args w
theorem zE (args:Array Value)(w:World):(callFunc 316 args).run prog w=((Hv args).run prog w).andThen λv u=>.ok (.value v) u:=
 RU func316 Kr Kr Kr Kr args w
theorem zB (args:Array Value)(w:World):(callFunc 333 args).run prog w=((DX args).run prog w).andThen λv u=>.ok (.value v) u:=
 RU func333 Kr Kr Kr Kr args w
theorem zC (args:Array Value)(w:World):(callFunc 334 args).run prog w=((DY args).run prog w).andThen λv u=>.ok (.value v) u:=
 RU func334 Kr Kr Kr Kr args w
theorem zA (args:Array Value)(w:World):(callFunc 331 args).run prog w=((Hs args).run prog w).andThen λv u=>.ok (.value v) u:=
 RU func331 Kr Kr Kr Kr args w
theorem xW (args:Array Value)(w:World):(callFunc 103 args).run prog w=((Ht args).run prog w).andThen λv u=>.ok (.value v) u:=
 RU func103 Kr Kr Kr Kr args w
theorem xX (args:Array Value)(w:World):(callFunc 104 args).run prog w=((ReflectliteValue.set args).run prog w).andThen λv u=>.ok (.value v) u:=
 RU func104 Kr Kr Kr Kr args w
theorem D7(t:Addr)(w:World):(Hw #[.iface 94<|.pointer<|some t]).run prog w
 =.ok (.agg #[.pointer<|some ⟨20,94,none⟩,Vp w.heap.size,.int .u64 150]) (w.alloc<|.cells #[.pointer<|some t] 94):=Kr
theorem D6(a:Addr)(w:World):(DZ #[.agg #[.pointer<|some ⟨20,94,none⟩,.pointer<|some a,.int .u64 150]]).run prog w
 =.ok (.iface 242<|.agg #[.pointer<|some ⟨20,94,none⟩]) w:=Kr
theorem Cu (h:Value)(w:World):(Go.method 598 242 (.agg #[h]) "Kind").run Tryz.prog w=.ok (316,h) w:=by kernel_rfl
theorem D5(w:World):(Hv #[.pointer<|some ⟨20,94,none⟩]).run prog w=.ok (.int .u8 22) w:=Kr
theorem D4(w:World):(Hv #[.pointer<|some ⟨20,92,none⟩]).run prog w=.ok (.int .u8 22) w:=Kr
theorem Cs (h:Value)(w:World):(Go.method 598 242 (.agg #[h]) "Elem").run Tryz.prog w=.ok (333,.agg #[h]) w:=by kernel_rfl
theorem Ct (h:Value)(w:World):(Go.method 598 242 (.agg #[h]) "Implements").run Tryz.prog w=.ok (334,.agg #[h]) w:=by kernel_rfl
theorem Cr (h:Value)(w:World):(Go.method 598 242 (.agg #[h]) "AssignableTo").run Tryz.prog w=.ok (331,.agg #[h]) w:=by kernel_rfl
theorem D1(w:World):(DX #[.agg #[.pointer<|some ⟨20,94,none⟩]]).run prog w=.ok (.iface 242<|.agg #[.pointer<|some ⟨20,92,none⟩]) w:=Kr
theorem D2(w:World):(DY #[.agg #[.pointer<|some ⟨20,92,none⟩],.iface 242<|.agg #[.pointer<|some ⟨20,37,none⟩]]).run prog w=.ok (.bool true) w:=Kr
theorem tV(v:Value)(w:World):(ReflectliteType.typeOf #[.iface 92 v]).run prog w=.ok (.iface 242<|.agg #[.pointer<|some ⟨20,92,none⟩]) w:=Kr
theorem tQ(w:World):(Hs #[.agg #[.pointer<|some ⟨20,92,none⟩],.iface 242<|.agg #[.pointer<|some ⟨20,92,none⟩]]).run prog w=.ok (.bool true) w:=Kr
theorem tR(w:World):(Hs #[.agg #[.pointer<|some ⟨20,469,none⟩],.iface 242<|.agg #[.pointer<|some ⟨20,92,none⟩]]).run prog w=.ok (.bool false) w:=Kr
theorem tW(e:Addr)(w:World):(Hw #[.iface 92<|.pointer<|some e]).run prog w
 =.ok (.agg #[.pointer<|some ⟨20,92,none⟩,Vp w.heap.size,.int .u64 150]) (w.alloc<|.cells #[.pointer<|some e] 92):=Kr
theorem nG(v:Value)(xT:TypeId)(w:World):(Instr.typeAssert (.iface 469 v) xT 254 true).run prog w=.ok (.tuple #[.nilIface,.bool false]) w:=run_typeAssert_lacksB underlying254 Kr Kr v _ w
theorem B4(a:Addr)(w:World):(ReflectliteValue.parts<|.agg #[.pointer<|some ⟨20,94,none⟩,.pointer<|some a,.int .u64 150]).run prog w=.ok (some (94,a,150)) w:=Kr
theorem D3(a p:Addr)(W:World)(c:W.cell? a=some (.pointer<|some p)):
 (Hu #[.agg #[.pointer<|some ⟨20,94,none⟩,.pointer<|some a,.int .u64 150]]).run prog W=.ok (.bool false) W:=by
 refine(congrArg (λq=>Sem.run _ q W)<|show Hu _=(ReflectliteValue.parts (.agg _)>>=λr=>_)from rfl).trans ?_;simp only[KA,B4,Result.andThen];simp[ReflectliteValue.isNil,loadVar,isAgg,underlying,underlying94,c,Result.andThen]
theorem kI(w:World):(Rtype.elem? 94).run prog w=.ok (some 92) w:=Kr
theorem kJ(p:Addr)(w:World):(ReflectliteValue.mk 92 p ReflectliteValue.flagAddr).run prog w=.ok (.agg #[.pointer<|some ⟨20,92,none⟩,.pointer<|some p,.int .u64 406]) w:=Kr
theorem tS(a p:Addr)(W:World)(c:W.cell? a=some (.pointer<|some p)):
 (Ht #[.agg #[.pointer<|some ⟨20,94,none⟩,.pointer<|some a,.int .u64 150]]).run prog W
  =.ok (.agg #[.pointer<|some ⟨20,92,none⟩,.pointer<|some p,.int .u64 406]) W:=by
 refine(congrArg (λq=>Sem.run _ q W)<|show Ht _=(ReflectliteValue.parts (.agg _)>>=λr=>_)from rfl).trans ?_;simp only[KA,B4,Result.andThen];simp[ReflectliteValue.elem,loadVar,isAgg,underlying,underlying94,c,Result.andThen,kI,kJ]
theorem mX(a:Addr)(w:World):(ReflectliteValue.parts<|.agg #[.pointer<|some ⟨20,92,none⟩,.pointer<|some a,.int .u64 406]).run prog w=.ok (some (92,a,406)) w:=Kr
theorem kK(a:Addr)(w:World):(ReflectliteValue.parts<|.agg #[.pointer<|some ⟨20,92,none⟩,.pointer<|some a,.int .u64 150]).run prog w=.ok (some (92,a,150)) w:=Kr
theorem kH(w:World):(Rtype.directlyAssignable 92 92).run prog w=.ok true w:=Kr
theorem tU(ta b e:Addr)(old:Value)(W:World)(a:W.cell? b=some (.pointer<|some e))(c:W.cell? ta=some old)(d:W.frozen? ta=false):
 (ReflectliteValue.set #[.agg #[.pointer<|some ⟨20,92,none⟩,.pointer<|some ta,.int .u64 406],.agg #[.pointer<|some ⟨20,92,none⟩,.pointer<|some b,.int .u64 150]]).run prog W
  =.ok (.tuple #[]) (W.setCell ta<|.pointer<|some e):=by
 refine(congrArg (λq=>Sem.run _ q W)<|show ReflectliteValue.set _=(ReflectliteValue.parts (.agg _)>>=λr=>ReflectliteValue.parts (.agg _)>>=λs=>_)from rfl).trans ?_;simp only[KA,mX,kK,Result.andThen];simp[ReflectliteValue.flagAddr,loadVar,isAgg,underlying,underlying92,a,Result.andThen,kH,storeVar,Value.cells,storeCells,Addr.add];rw[run_store _ W _ _ _<|by rfl];simp[c,d]
theorem vh{e t:Addr}(old:Value){w:World}(f:w.cell? ⟨13,0,none⟩=some (.iface 242<|.agg #[.pointer<|some ⟨20,37,none⟩]))(c:w.cell? t=some old)(g:w.frozen? t=false):
 CP 27 #[.iface 92<|.pointer<|some e,.iface 94<|.pointer<|some t] w λev u=>ev=.returned (.bool true)/\u=((((w.alloc<|.cells #[.pointer<|some t] 94).alloc<|.cells #[.pointer<|some ⟨20,94,none⟩,Vp w.heap.size,.int .u64 150] 148).alloc<|.cells #[.pointer<|some ⟨20,94,none⟩,Vp w.heap.size,.int .u64 150] 148).alloc<|.cells #[.pointer<|some e] 92).setCell t (.pointer<|some e):=by
 have p:=zG;have q:=zF;have r:=zD;have h:=zE;have i:=zB;have j:=zC;have k:=Mh;have l:=zA;have m:=xW;have n:=xX;have tO:=tV;have mA:=Cr;have a25:=tQ;have v25:=tW;have f6:=D7;have f7:=D6;have mK:=Cu;have mE:=Cs;have mI:=Ct;have k27:=D5;have k25:=D4;have e27:=D1;have i25:=D2;have n8:=D3 ⟨w.heap.size,0,none⟩ t ((w.alloc<|.cells #[.pointer<|some t] 94).alloc<|.cells #[.pointer<|some ⟨20,94,none⟩,Vp w.heap.size,.int .u64 150] 148)<|Sm;have d:13<w.heap.size:=Xi _ _ f;have o:((w.alloc<|.cells #[.pointer<|some t] 94).alloc<|.cells #[.pointer<|some ⟨20,94,none⟩,Vp w.heap.size,.int .u64 150] 148).cell? ⟨13,0,none⟩=some (.iface 242<|.agg #[.pointer<|some ⟨20,37,none⟩]):=by rwa [TM _ _ ⟨13,0,none⟩<|by simp;omega,TM _ _ ⟨13,0,none⟩ d]
 have a:=Xi _ _ c;have el:=tS ⟨w.heap.size,0,none⟩ t (((w.alloc<|.cells #[.pointer<|some t] 94).alloc<|.cells #[.pointer<|some ⟨20,94,none⟩,Vp w.heap.size,.int .u64 150] 148).alloc<|.cells #[.pointer<|some ⟨20,94,none⟩,Vp w.heap.size,.int .u64 150] 148)<|by rw[TM _ _ ⟨w.heap.size,0,none⟩<|by simp;omega];simp
 have st:=tU t ⟨w.heap.size+1+1+1,0,none⟩ e old ((((w.alloc<|.cells #[.pointer<|some t] 94).alloc<|.cells #[.pointer<|some ⟨20,94,none⟩,Vp w.heap.size,.int .u64 150] 148).alloc<|.cells #[.pointer<|some ⟨20,94,none⟩,Vp w.heap.size,.int .u64 150] 148).alloc<|.cells #[.pointer<|some e] 92)
  (by rw[Ry _ _ _ _<|Sm];rfl)
  (by rwa [TM _ _ t<|by simp;omega,TM _ _ t<|by simp;omega,TM _ _ t<|by simp;omega,TM _ _ t a])
  (by rwa [Kf _ _ t<|by simp;omega,Kf _ _ t<|by simp;omega,Kf _ _ t<|by simp;omega,Kf _ _ t<|Nat.ne_of_lt a]);go_enter func27,ntmps27;go_wp2;refine Ol 1 ?_;rw[Q2];go_wp2;go_ret;exact⟨rfl,rfl⟩
theorem vi{e t:Addr}{w:World}(c:w.cell? ⟨13,0,none⟩=some (.iface 242<|.agg #[.pointer<|some ⟨20,37,none⟩])):
 CP 27 #[.iface 469<|.pointer<|some e,.iface 94<|.pointer<|some t] w λev u=>ev=.returned (.bool false)/\BW w u:=by
 have k:=zG;have l:=zF;have m:=zD;have d:=zE;have f:=zB;have g:=zC;have h:=Mh;have i:=zA;have tO:=Tryz.isTypeOf;have mA:=Cr;have a25:=tR;have f6:=D7;have f7:=D6;have mK:=Cu;have mE:=Cs;have mI:=Ct;have k27:=D5;have k25:=D4;have e27:=D1;have i25:=D2;have nA:=nG;have uE:=Tryz.noUnwrapE;have vE:=Tryz.noUnwrapsE;have n8:=D3 ⟨w.heap.size,0,none⟩ t ((w.alloc<|.cells #[.pointer<|some t] 94).alloc<|.cells #[.pointer<|some ⟨20,94,none⟩,Vp w.heap.size,.int .u64 150] 148)<|Sm;have a:13<w.heap.size:=Xi _ _ c;have j:((w.alloc<|.cells #[.pointer<|some t] 94).alloc<|.cells #[.pointer<|some ⟨20,94,none⟩,Vp w.heap.size,.int .u64 150] 148).cell? ⟨13,0,none⟩=some (.iface 242<|.agg #[.pointer<|some ⟨20,37,none⟩]):=by rwa [TM _ _ ⟨13,0,none⟩<|by simp;omega,TM _ _ ⟨13,0,none⟩ a]
 go_enter func27,ntmps27;go_wp2;refine Ol 1 ?_;rw[Q2];go_wp2;go_ret;exact⟨rfl,Yh⟩
theorem GU(w:Y):
 CP 13 #[.nilIface] w λe u=>e=.returned (E 0)/\BW w u:=by
 go_enter func13,ntmps13;go_wp2_with fail;refine YK (vj) ?_;go_wp2;go_ret;exact⟨C,Yh⟩
theorem LF(A:Nat->Addr)(m:Int){a:Addr}(w:Y)(d:YD w A m):
 CP 13 #[.iface 469<|.pointer<|some a] w λe u=>e=.returned (E 0)/\BW w u:=by
 have f:Below _ w<|w.alloc<|.cells #[.pointer none] 92:=Yc;go_enter func13,ntmps13;go_wp2_with fail;refine(vi (d.alloc _).handle).m ?_;rintro e u ⟨rfl,g⟩;have c:=f.trans<|g.mono<|Sm;go_wp2;go_ret;exact⟨C,c⟩
theorem LG(A:Nat->Addr)(m:Int){fa:Nat}{i:Int}(w:Y)(h:YD w A m)(f:w.cell? ⟨fa,1,none⟩=some (E i)):
 CP 13 #[.iface 92<|Vp fa] w λe a=>e=.returned (E i)/\BW w a:=by
 have g:fa<w.heap.size:=Xi _ _ f;go_enter func13,ntmps13;go_wp2_with fail;refine(vh (.pointer none) (h.alloc _).handle (Sm)<|Sm).m ?_;rintro e a ⟨rfl,d⟩;have c:BW w a:=d▸Yh;have c1:a.cell? ⟨w.heap.size,0,none⟩=some (Vp fa):=by
  rw[d];refine Kd _ _ _ (u:=.pointer none) ?_;refine(Below.cell (B:=w.heap.size+1) (w:=w.alloc<|.cells #[.pointer none] 92) ?_<|RA _).trans<|Sm;exact Yh
 have c2:=(c.cell g).trans f;clear d;go_wp2;go_ret;exact⟨C,c⟩
def Pf:List PV->List F
 |[]=>[]
 |p::l=>p.cells++Pf l
structure VC (w:Y)(x:Nd×Nat)(p:PV):Prop where
 k:p.k=if 0<x.2 then 2 else 1
 n:0<x.2->p.n=x.2
 nm:bl p.nm=x.1.name
 cs:ZP w 0 p x.1.kq
structure X8 (w:Y)(cb:Nat)(c:Yb)(cv pv gv iv:F)(l:List PV)(g:List<|Option Addr×Nat×Nat):Prop where
 box:Ya w cb [cv,pv,gv,iv] 69
 cs:w.ownsRow 0 2 1 cv c.jq.length<|c.jq.map<|.int .i64
 ps:w.ownsRow 0 59 8 pv c.jw.length<|Pf l
 pl:l.length=c.jw.length
 pk:∀(i:Nat)(x:Nd×Nat)(p:PV),c.jw[i]?=some x->l[i]?=some p->VC w x p
 gs:w.ownsRow 0 57 1 gv c.jv.length<|g.map λy=>.slice y.1 y.2.1 y.2.2
 gl:g.length=c.jv.length
 gk:∀(i:Nat)(x:List<|LB)(y:Option Addr×Nat×Nat),c.jv[i]?=some x->g[i]?=some y->∃bs:List BA,w.ownsRow 0 9 1 (.slice y.1 y.2.1 y.2.2) bs.length (bs.map .string)/\bs.map bl=x
 is:w.ownsRow 0 110 2 iv c.jz.length<|SP c.jz
theorem ZP.below'{w w':Y}{p:PV}{cs:List<|LB×LB×Bool}(h:ZP w 0 p cs)(a:BW w w'):ZP w' 0 p cs:=by
 obtain⟨qs,c,d⟩:=h;exact⟨qs,Ze c a,d⟩
theorem VC.below{w w':Y}{x:Nd×Nat}{p:PV}(h:VC w x p)(a:BW w w'):VC w' x p:=⟨h.k,h.n,h.nm,h.cs.below' a⟩
theorem X8.below{w w':Y}{cb:Nat}{c:Yb}{cv pv gv iv:F}{l:List PV}{g:List<|Option Addr×Nat×Nat}(h:X8 w cb c cv pv gv iv l g)(a:BW w w'):X8 w' cb c cv pv gv iv l g:=
 ⟨h.box.below a,Ze h.cs a,Ze h.ps a,h.pl,λi x p d e=>(h.pk i x p d e).below a,Ze h.gs a,h.gl,λi x y d e=>by
  obtain⟨bs,f,j⟩:=h.gk i x y d e;exact⟨bs,Ze f a,j⟩,Ze h.is a⟩
theorem gF{a b:Bool}(h:a=b):Ending.returned (.bool a)=.returned (.bool b):=by rw[h]
def Jz(nc np ng ni i op arg:Nat):Bool:=match op with
 |0=>decide<|arg<nc
 |1=>decide<|arg<np
 |2=>decide<|arg<5
 |3=>decide<|arg<4
 |4=>decide<|arg=0
 |9=>decide<|i<arg/\arg<=ni
 |10=>decide<|i<arg/\arg<=ni
 |11=>decide<|arg=0
 |12=>decide<|arg<16
 |13=>decide<|arg<16
 |_=>decide<|arg<ng
theorem gB(c:Yb)(i op arg:Nat):Zy c i (op,arg)=Jz c.jq.length c.jw.length c.jv.length c.jz.length i op arg:=rfl
structure ML (w:Y)(cb i op arg nc np ngr ni:Nat)(ca pa ga:Option Addr)(cc pc gc ic g:Nat):Prop where
 box:Ya w cb [.slice ca nc cc,.slice pa np pc,.slice ga ngr gc,.slice (some ⟨g,0,none⟩) ni ic] 69
 lt:i<ni
 c0:w.cell? ⟨g,i*2,none⟩=some (E op)
 c1:w.cell? ⟨g,i*2+1,none⟩=some (E arg)
theorem gD(w:Y)(cb i op arg nc np ngr ni:Nat)(ca pa ga:Option Addr)(cc pc gc ic g:Nat)(h:ML w cb i op arg nc np ngr ni ca pa ga cc pc gc ic g)(l:op<=13)(k:arg<65536)(c:Yb)(e1:c.jq.length=nc)(e2:c.jw.length=np)(e3:c.jv.length=ngr)(e4:c.jz.length=ni):
 CP 63 #[Vp cb,E i] w λe u=>e=.returned (.bool<|Zy c i (op,arg))/\BW w u:=by
 rw[gB,e1,e2,e3,e4];have p:=I h.box;have m:=h.lt;have c0:=h.c0;have c1:=h.c1;have b0:=h.box.cell 0;have b1:=h.box.cell 1;have b2:=h.box.cell 2;have b3:=h.box.cell 3;simp only[Yf]at b0 b1 b2 b3;have n:=h.box.lt;have f:=Xi _ _ c0;simp only at f;clear e1 e2 e3 e4 h;have o:(i:Int)<ni:=X;have a:(i<arg/\decide ((i:Int)<arg)=true/\(i:Int)<arg)\/(¬i<arg/\decide ((i:Int)<arg)=false/\¬(i:Int)<arg):=by
  by_cases d:i<arg
  .exact Or.inl ⟨d,WI X,X⟩
  .exact Or.inr ⟨d,Wl X,X⟩
 rcases a with⟨d,a,j⟩|⟨d,a,j⟩;all_goals
  rcases(X:op=0\/op=1\/op=2\/op=3\/op=4\/op=5\/op=6\/op=7\/op=8\/op=9\/op=10\/op=11\/op=12\/op=13)with rfl|rfl|rfl|rfl|rfl|rfl|rfl|rfl|rfl|rfl|rfl|rfl|rfl|rfl;all_goals
   go_enter func63,ntmps63;go_wp2;try
    go_quiet (fail);go_wp2
   all_goals
    go_ret;refine⟨gF ?_,Yh⟩;first
     |(simp only[Jz];done)
     |(simp only[Jz];rw[Uc];simp;done)
     |(simp only[Jz];rw[Uc];simp;omega)
theorem gC(w:Y)(cb:Nat)(c:Yb){cv pv gv iv:F}{l:List PV}{g:List<|Option Addr×Nat×Nat}(h:X8 w cb c cv pv gv iv l g)(i:Nat)(a:i<c.jz.length)(f:∀x∈c.jz,x.1<=13/\x.2<65536):
 CP 63 #[Vp cb,E i] w λe u=>e=.returned (.bool<|Zy c i c.jz[i])/\BW w u:=by
 obtain⟨ca,cc,rfl⟩:=Zd h.cs;obtain⟨pa,pc,rfl⟩:=Zd h.ps;obtain⟨ga,gc,rfl⟩:=Zd h.gs;obtain⟨gi,ic,rfl⟩:=Zm h.is X;have c0:=Zc h.is _ _ (Sz c.jz i a).1;have c1:=Zc h.is _ _ (Sz c.jz i a).2;have d:=f c.jz[i]<|List.getElem_mem a;exact gD w cb i c.jz[i].1 c.jz[i].2 _ _ _ _ ca pa ga cc pc gc ic gi ⟨h.box,a,c0,c1⟩ d.1 d.2 c C C C C
def Mf(op:Nat):BA:=match op with
 |0=>⟨#[]⟩
 |1=>⟨#[]⟩
 |2=>⟨#[114]⟩
 |3=>⟨#[110,110]⟩
 |4=>⟨#[110]⟩
 |9=>⟨#[]⟩
 |11=>⟨#[97]⟩
 |12=>⟨#[97]⟩
 |13=>⟨#[]⟩
 |_=>⟨#[118]⟩
theorem yo(op:Nat){w:Y}(a:op<=13):
 CP 64 #[E op] w λe u=>e=.returned (.string<|Mf op)/\u=w:=by
 rcases(X:op=0\/op=1\/op=2\/op=3\/op=4\/op=5\/op=6\/op=7\/op=8\/op=9\/op=10\/op=11\/op=12\/op=13)with rfl|rfl|rfl|rfl|rfl|rfl|rfl|rfl|rfl|rfl|rfl|rfl|rfl|rfl;all_goals
  go_enter func64,ntmps64;go_wp2;go_ret;exact⟨C,C⟩
end Go.Proofs.YtmfnolgpaoldpaaGreatDoor

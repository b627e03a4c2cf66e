/- Parts. -/
import Derived.Test.YtmfnolgpaoldpaaGreatDoorW07
set_option linter.all false
set_option maxRecDepth 100000
set_option maxHeartbeats 16000000
namespace Go.Proofs.YtmfnolgpaoldpaaGreatDoor
open Go.RowKit LS Go.Proofs.Tryz
variable {tp:Addr}{s:BA}{op:Bool}{xs:List Value}{ts:List Yg}{L M b d deep lv n:Nat}{rec:Nat->List Yg->Nat->Yl Tr}{a:Tr}{p:UInt8->Bool}{pv v:Value}{w:World}{t u:Yg}{R:Yl Tr}
section
theorem Gb{w:LB}:∀{l:List<|LB}{g:Nat},Y7 w l=some g->l.getD g []=w
 |[],_,h=>by cases h
 |x::l,g,h=>by
  unfold Y7 at h;by_cases a:x=w
  .rw[Ye a]at h;cases h;exact a
  .rw[Yd a]at h;cases c:Y7 w l with
   |none=>rw[c]at h;cases h
   |some j=>
    rw[c]at h;cases h;exact Gb (l:=l) c
theorem vH{p:Yu}(h:SO p t)(f:RL t)(d:t.jj<=5):Ll p=Qg t:=by
 have m1:=R9 h f d (s:=⟨#[45]⟩) N N;have m2:=R9 h f d (s:=⟨#[40]⟩) N N;have g:p.tx.toList=t.txt:=by rw[ZA];exact h.2.2.1
 unfold Ll Qg;have a:=P3 d;have c:=h.1;by_cases k1:t.jj=1
 .have e:((p.kd:Int)==0)=true:=by rw[c,a.2.2.2.1.2 k1];rfl
  rw[e,k1];simp
 .have e:((p.kd:Int)==0)=false:=by
   rw[YB];intro e;exact k1<|a.2.2.2.1.1 X
  rw[e,YB.2 k1];by_cases k2:t.jj=2
  .have e2:((p.kd:Int)==1)=true:=by rw[c,a.2.1.2 k2];rfl
   have z1:Yk [45] t=false:=by rw[<-show ZU p _=Yk [45] t from m1];unfold ZU;rw[c,a.2.1.2 k2];rfl
   have z2:Yk [40] t=false:=by rw[<-show ZU p _=Yk [40] t from m2];unfold ZU;rw[c,a.2.1.2 k2];rfl
   rw[e2,z1,z2,k2,g];unfold Yk;rw[k2];simp[UD,UZ]
  .have e2:((p.kd:Int)==1)=false:=by
    rw[YB];intro e;exact k2<|a.2.1.1 X
   rw[e2,YB.2 k2,show ZU p _=Yk [45] t from m1,show ZU p _=Yk [40] t from m2];simp
theorem qd(h:(hd ts).jj=1):ZR rec ts d=.ok (TX ⟨0,0,Wz (hd ts).txt,[],[],[]⟩,ts.tail):=Ye h
theorem qc (h:¬(hd ts).jj=1)(c:Yk [45] (hd ts)=true):ZR rec ts d=bnd (rec 3 ts.tail d) λa r=>.ok (.node 0 0 (VM 3 0) a .nil,r):=by
 unfold ZR;rw[Yd h,Ye c]
theorem qh(h:¬(hd ts).jj=1)(a:¬Yk [45] (hd ts)=true)(c:Yk [40] (hd ts)=true):ZR rec ts d=Z9 rec ts d:=by
 unfold ZR;rw[Yd h,Yd a,Ye c]
theorem qa{g:Nat}(h:¬(hd ts).jj=1)(a:¬Yk [45] (hd ts)=true)(c:¬Yk [40] (hd ts)=true)(e:Y7 (hd ts).txt Wu=some g):ZR rec ts d=Tg rec g ts.tail d:=by
 unfold ZR;rw[Yd h,Yd a,Yd c,e]
theorem qg{o:Nat}(h:¬(hd ts).jj=1)(a:¬Yk [45] (hd ts)=true)(c:¬Yk [40] (hd ts)=true)(e:Y7 (hd ts).txt Wu=none)(f:Y7 (hd ts).txt WN=some o):ZR rec ts d=Xu o ts.tail:=by
 unfold ZR;rw[Yd h,Yd a,Yd c,e];simp only;rw[f]
theorem qe (h:¬(hd ts).jj=1)(a:¬Yk [45] (hd ts)=true)(c:¬Yk [40] (hd ts)=true)(e:Y7 (hd ts).txt Wu=none)(f:Y7 (hd ts).txt WN=none):ZR rec ts d=bnd (YP ts) λp r=>.ok (TX p,r):=by
 unfold ZR;rw[Yd h,Yd a,Yd c,e];simp only;rw[f]
theorem fx(h:Qg t=true):¬(t.jj=0∨t.jj=5):=by
 rintro(a|a);all_goals
  unfold Qg Yk at h;rw[a]at h;simp at h
theorem sh{m:Nat}
 (c1:PM 246 (λd=>[E (d+1:Nat)]) (rec 3) λts=>ts.length<m)
 (b4:PM 275 (λd=>[E (d+1:Nat)]) (Z9 rec) λts=>ts.length<=m):
 PM 246 (λd=>[E (d+1:Nat)]) (Ug rec) λts=>ts.length<=m:=by
 intro w R k ts deep h c2 c3;have H:=I h;have HD:=I c2;have HM:=I c3;have c8:=(Xr.1 h.rd.cells).1;go_enter func246,ntmps246;go_wp2_with fail;refine(QM H).mono ?_;rintro e w1 ⟨⟨kd,at_,tx,tv⟩,rfl,L,b5⟩;have a5:Hid<|w.grownBy _<|some R.b:=ZB b5;have b6:=I<|H.below b5;go_upto_region 2 with fail;refine Zs λW2 a6=>?_;have a7:Below _ _ _:=a6▸Yc;have M:Hid<|Ya _ _ [.int _ _,.int _ _,.string _,.int _ _] 389:=a6▸YO;have c4:=I<|Zi a5<|ZB a7;have b7:=I<|b6.below a7;have c9:R.b<w1.heap.size:=by have:=a5.size;omega
 have q:=I b7.wf.head;clear a6 a7 a5 b6;have t0:=M.cell 0;have t1:=M.cell 1;have t2:=M.cell 2;have t3:=M.cell 3;simp only[Yf]at t0 t1 t2 t3;go_wp2_with fail;refine(vG ⟨kd,at_,tx,tv⟩ W2).mono ?_;rintro e w3 ⟨rfl,a8⟩;rw[vH L q.1 q.2.2];have n:=I<|M.below a8;have O:=I<|Zi c4<|ZB a8;have p:=I<|b7.below a8;cases P:Qg<|LS.hd ts
 .have a9:Hid<|Ug rec _ deep=.error _:=I<|by unfold Ug;rw[Yd<|by rw[P];decide]
  go_wp2_with fail;refine(Ox p).mono ?_;rintro e wE ⟨v,rfl,HE,c5⟩;obtain⟨fa,rfl⟩:=HE.shape;have b0:=I<|Zi O<|ZB c5;go_wp2;go_ret2;exact⟨_,_,C,.inl C,by rwa [a9.out],b0⟩
 .have Z:=I<|fx P;by_cases K:deep=20
  .have a9:Hid<|Ug rec _ _=.error _:=I<|by unfold Ug;rw[Ye P,Ye K]
   subst K;have t1:=n.cell;have d0:=p.dp;go_wp2_with fail;refine(Gn _ _).mono ?_;rintro e wE ⟨rfl,b1⟩;have HE:Hid<|WJ wE R (3,(LS.hd _).at_) _:=I<|.inr ⟨C,w3.heap.size,C,by rw[b1];refine YO.trans ?_;rw[show(at_:Int)=((LS.hd _).at_)from congrArg _ L.2.1]⟩;have b0:Hid _:=b1▸Vh O.out _;clear b1;go_wp2;go_ret2;exact⟨_,_,C,.inl C,by rwa [a9.out],b0⟩
  .have c7:deep<=19:=X;have D:Hid<|Ug _ _ _=ZR rec _ _:=I<|by unfold Ug;rw[Ye P,Yd K]
   obtain⟨rc0,rc1,rfz,rcx⟩:=p.rd.all;have d1:=p.lt;have d2:=p.len;clear rcx P K;have t0:=n.cell 0;have t1:=n.cell 1;have t2:=n.cell 2;have t3:=n.cell 3;simp only[Yf]at t0 t1 t2 t3;by_cases r:(LS.hd ts).jj=1
   .have b8:kd=0:=by have:=L.1;rw[r]at this;exact this
    subst b8;have c6:Hid<|(tv)=Wz _:=L.2.2.2 r;have f:Hid<|Ug _ _ _=.ok _:=I<|by rw[D,qd r]
    clear r;go_upto_region 8 with fail;refine Zs λW8 a=>?_;have s:Hid _:=a▸p.step Z.out;have x:Hid _:=a▸Zn O.out (Or.inl C) _;have Q:Hid<|Ya _ _ _ _:=a▸n.other (by show w1.heap.size≠R.b;omega) _;clear a rc0 rc1 rfz t0 t1 t2 t3;have t3:=Q.cell;go_wp2;go_ret2;exact⟨_,_,C,.inr ⟨_,_,C⟩,f.out▸⟨C,⟨_,s.out⟩,Or.inl ⟨C,by rw[<-c6.out];rfl⟩⟩,x⟩
   .have b8:((kd:Int)==0)=false:=by
     rw[YB];intro e;exact r<|(P3 q.2.2).2.2.2.1.1<|by have:=L.1;simp only at this;omega
    have z:=I r;clear r;go_wp2_with fail;refine(Nt L.out q.1 q.2.2 _ N N w3).mono ?_;rintro e w4 ⟨rfl,a0⟩;have A:=I<|n.below a0;have a1:=I<|Zi O<|ZB a0;have S:=I<|p.below a0;clear a0 n O p t0 t1 t2 t3 rc0 rc1 rfz;obtain⟨rc0,rc1,rfz,rcx⟩:=S.rd.all;have t0:=A.cell 0;have t1:=A.cell 1;have t2:=A.cell 2;have t3:=A.cell 3;simp only[Yf]at t0 t1 t2 t3;clear rcx;by_cases F:Yk [45] (LS.hd ts)=true
    .rw[show Yk (bl ⟨#[45]⟩) _=true from F];have f:Hid<|Ug _ _ _=bnd _ _:=I<|by rw[D,qc z F]
     clear F;go_upto_region 11 with fail;refine Zs λW8 a=>?_;have s:Hid _:=a▸S.step Z.out;have x:Hid _:=a▸Zn a1.out (Or.inl C) _;clear a rc0 rc1 rfz t0 t1 t2 t3 S a1 A;go_wp2_with fail;refine(c1 _ R _ _ _ s X<|by show ts.tail.length<m;have:=H.pos;have:=HM.out;rw[Rz];omega).mono ?_;rintro e w9 ⟨pv,v,rfl,j,i,c⟩;have l:=I<|Zi x c;clear c;rcases j with rfl|⟨ty,u,rfl⟩;all_goals
      go_wp2;go_ret2;refine⟨_,_,C,.inr ⟨_,_,C⟩,?_,l⟩;rw[f];cases b9:rec 3 ts.tail<|deep+1with
      |error er=>exact i.err b9
      |ok pr=>
       obtain⟨t,r3⟩:=pr;obtain⟨h1,h2,h3⟩:=i.good b9;exact⟨h1,h2,.inr<|.inr<|.inr<|.inl ⟨C,_,C,h3⟩⟩
    .rw[show Yk (bl ⟨#[45]⟩) _=false from Qt.2 F];have a2:=I F;clear F;go_wp2_with fail;refine(Nt L.out q.1 q.2.2 _ N N w4).mono ?_;rintro e w5 ⟨rfl,a3⟩;have T:=I<|A.below a3;have G:=I<|Zi a1<|ZB a3;have B:=I<|S.below a3;clear a3 A a1 S t0 t1 t2 t3 rc0 rc1 rfz;obtain⟨rc0,rc1,rfz,rcx⟩:=B.rd.all;have t2:=T.cell 2;simp only[Yf]at t2;clear rcx;by_cases J:Yk [40] (LS.hd ts)=true
     .rw[show Yk (bl ⟨#[40]⟩) _=true from J];have f:Hid<|Ug _ _ _=Z9 _ _ _:=I<|by rw[D,qh z a2 J]
      clear J;go_wp2_with fail;refine(b4 _ R k _ _ B X HM).mono ?_;rintro e w9 ⟨pv,v,rfl,j,i,c⟩;have l:=I<|Zi G c;have U:=I j;clear c j;go_wp2;go_ret2;exact⟨_,_,C,U,by rwa [f.out],l⟩
     .rw[show Yk (bl ⟨#[40]⟩) _=false from Qt.2 J];have Y:=I J;have a4:Hid<|bl tx=(LS.hd _).txt:=L.2.2.1;clear J;go_wp2_with fail;refine(Dl _ _).mono ?_;rintro e wq ⟨rfl,rfl⟩;rw[a4];cases V:Y7 (LS.hd ts).txt Wu with
      |some g=>
       have f:Hid<|Ug _ _ _=Tg _ g _ _:=I<|by rw[D,qa z a2 Y V]
       have b2:Hid<|bl _=Wu.getD g _:=I<|by rw[Gb V,a4]
       rw[show(some g).isSome=true from C];clear V;go_upto_region 17 with fail;refine Zs λW8 a=>?_;have s:Hid _:=a▸B.step Z.out;have x:Hid _:=a▸Zn G.out (Or.inl C) _;have Q:Hid<|Ya _ _ _ _:=a▸T.other (by show w1.heap.size≠R.b;omega) _;clear a rc0 rc1 rfz t2 B G T;have t2:=Q.cell;go_wp2_with fail;refine(qN b4 g b2 _ R _ _ _ s X<|by show ts.tail.length<=m;have:=HM.out;rw[Rz];omega).mono ?_;rintro e w9 ⟨pv,v,rfl,j,i,c⟩;have l:=I<|Zi x c;have U:=I j;clear c j;go_wp2;go_ret2;exact⟨_,_,C,U,by rwa [f.out],l⟩
      |none=>
       rw[show(none).isSome=false from C];have c0:=I V;clear V;go_wp2_with fail;refine(Dp _ _).mono ?_;rintro e wq ⟨rfl,rfl⟩;rw[a4];cases W:Y7 (LS.hd ts).txt WN with
       |some o=>
        have f:Hid<|Ug _ _ _=Xu o _:=I<|by rw[D,qg z a2 Y c0 W]
        have b2:Hid<|bl _=WN.getD o _:=I<|by rw[Gb W,a4]
        rw[show(some o).isSome=true from C];clear W;go_upto_region 20 with fail;refine Zs λW8 a=>?_;have s:Hid _:=a▸B.step Z.out;have x:Hid _:=a▸Zn G.out (Or.inl C) _;have Q:Hid<|Ya _ _ _ _:=a▸T.other (by show w1.heap.size≠R.b;omega) _;clear a rc0 rc1 rfz t2 B G T;have t2:=Q.cell;go_wp2_with fail;refine(yC s o b2).mono ?_;rintro e w9 ⟨pv,v,rfl,j,i,c⟩;have l:=I<|Zi x c;have U:=I j;clear c j;go_wp2;go_ret2;exact⟨_,_,C,U,by rwa [f.out],l⟩
       |none=>
        rw[show(none).isSome=false from C];have f:Hid<|Ug _ _ _=bnd _ _:=I<|by rw[D,qe z a2 Y c0 W]
        clear W;go_wp2_with fail;refine(A4 B).mono ?_;rintro e w9 ⟨nm,la,ln,lc,v,rfl,i,c⟩;have l:=I<|Zi G c;clear c;go_wp2;go_ret2;refine⟨_,_,C,.inr ⟨_,_,C⟩,?_,l⟩;rw[f];cases b3:YP ts with
        |error er=>exact i.err b3
        |ok pr=>
         obtain⟨nd,r3⟩:=pr;obtain⟨h1,h2,h3,h4⟩:=i.good b3;exact⟨h1,h2,.inr<|.inl ⟨(FJ b3).2.1,nm,la,ln,lc,C,h3,h4⟩⟩
theorem kp{p:Yu}(h:SO p u)(d:RL u)(e:u.jj<=5)(f:lv<=2){kd op:Nat}(c:LS.opAt lv u=some (kd,op)):∃j,TJ p=some j/\j<=4/\SY j=lv/\XT (VM kd op)=j/\(kd=4∨kd=6)/\¬(u.jj=0∨u.jj=5):=by
 have m0:RG p ⟨#[111,114]⟩=Yk UD u:=FP h d e N N;have m1:ZU p ⟨#[43]⟩=Yk [43] u:=R9 h d e N N;have m2:ZU p ⟨#[45]⟩=Yk [45] u:=R9 h d e N N;have m3:ZU p ⟨#[42]⟩=Yk [42] u:=R9 h d e N N;have m4:ZU p ⟨#[47]⟩=Yk [47] u:=R9 h d e N N;unfold TJ;rw[m0,m1,m2,m3,m4];unfold LS.opAt at c;rcases(X:lv=0∨lv=1∨lv=2)with rfl|rfl|rfl
 .by_cases a:Yk UD u=true
  .rw[Ye C,Ye a]at c;injection c with c;injection c with h1 h2;subst h1 h2;rw[Ye a];exact⟨0,C,N,C,C,.inr C,QB a⟩
  .rw[Ye C,Yd a]at c;cases c
 .rw[Yd N,Ye C]at c;by_cases a:Yk [43] u=true
  .rw[Ye a]at c;injection c with c;injection c with h1 h2;subst h1 h2;rw[PZ a N,Yd N,Ye a];exact⟨1,C,N,C,C,.inl C,QB a⟩
  .rw[Yd a]at c;by_cases b:Yk [45] u=true
   .rw[Ye b]at c;injection c with c;injection c with h1 h2;subst h1 h2;rw[PZ b N,Yd N,Yd a,Ye b];exact⟨2,C,N,C,C,.inl C,QB b⟩
   .rw[Yd b]at c;cases c
 .rw[Yd N,Yd N]at c;by_cases a:Yk [42] u=true
  .rw[Ye a]at c;injection c with c;injection c with h1 h2;subst h1 h2;rw[PZ a N,Yd N,PZ a N,Yd N,PZ a N,Yd N,Ye a];exact⟨3,C,N,C,C,.inl C,QB a⟩
  .rw[Yd a]at c;by_cases b:Yk [47] u=true
   .rw[Ye b]at c;injection c with c;injection c with h1 h2;subst h1 h2;rw[PZ b N,Yd N,PZ b N,Yd N,PZ b N,Yd N,Yd a,Ye b];exact⟨4,C,N,C,C,.inl C,QB b⟩
   .rw[Yd b]at c;cases c
theorem ko{p:Yu}(h:SO p u)(a:RL u)(c:u.jj<=5)(e:lv<=2)(d:LS.opAt lv u=none):TJ p=none∨∃j,TJ p=some j/\j<=4/\SY j≠lv:=by
 have m0:RG p ⟨#[111,114]⟩=Yk UD u:=FP h a c N N;have m1:ZU p ⟨#[43]⟩=Yk [43] u:=R9 h a c N N;have m2:ZU p ⟨#[45]⟩=Yk [45] u:=R9 h a c N N;have m3:ZU p ⟨#[42]⟩=Yk [42] u:=R9 h a c N N;have m4:ZU p ⟨#[47]⟩=Yk [47] u:=R9 h a c N N;unfold TJ;rw[m0,m1,m2,m3,m4];unfold LS.opAt at d;generalize Yk UD u=b0 at*;generalize Yk [43] u=b1 at*;generalize Yk [45] u=b2 at*;generalize Yk [42] u=b3 at*;generalize Yk [47] u=b4 at*;rcases(by omega:lv=0∨lv=1∨lv=2)with rfl|rfl|rfl<;>cases b0<;>cases b1<;>cases b2<;>cases b3<;>cases b4<;>first
  |exact Or.inl C
  |exact Or.inr ⟨0,C,N,N⟩
  |exact Or.inr ⟨1,C,N,N⟩
  |exact Or.inr ⟨2,C,N,N⟩
  |exact Or.inr ⟨3,C,N,N⟩
  |exact Or.inr ⟨4,C,N,N⟩
  |cases d
theorem lq (h:lv≠3):Zh (n+1) false lv .nil ts deep=bnd (Zh n false (lv+1) .nil ts deep) λa r=>Zh n true lv a r deep:=by
 show(if lv=3 then _ else _)=_;rw[Yd h]
theorem ll :Zh (n+1) false 3 .nil ts deep=Ug (λlv ts d=>Zh n false lv .nil ts d) ts deep:=by
 show(if 3=3 then _ else _)=_;rw[Ye C]
theorem lA(h:LS.opAt lv (hd ts)=none):Zh (n+1) true lv a ts deep=.ok (a,ts):=by
 show(match LS.opAt lv (hd ts)with|none=>_|some p=>_)=_;rw[h]
theorem lu {p:Nat×Nat}(h:LS.opAt lv (hd ts)=some p):Zh (n+1) true lv a ts deep=bnd (Zh n false (lv+1) .nil ts.tail deep) λb r=>Zh n true lv (.node 0 0 (VM p.1 p.2) a b) r deep:=by
 show(match LS.opAt lv (hd ts)with|none=>_|some p=>_)=_;rw[h]
def RP(lv n:Nat):Prop:=PM 217 (λd=>[E lv,E (d+1:Nat)]) (λts d=>Zh n false lv .nil ts d) λts=>10*ts.length+5<=n+lv
def RF(n:Nat):Prop:=PM 246 (λd=>[E (d+1:Nat)]) (λts d=>Zh n false 3 .nil ts d) λts=>10*ts.length+2<=n
theorem lB(g:RF n):RP 3 n:=by
 intro w R k ts deep h hd c;have i:Hid<|Calls _ _ #[.pointer _,.int _ _] w _:=g w R k _ _ h hd<|by show 10*ts.length+2<=n;have m:=c;omega
 go_enter func217,ntmps217;go_wp2_with fail;refine i.mono ?_;rintro e o ⟨pv,v,rfl,d,a,j⟩;have f:=I d;have l:=I j;go_wp2;go_ret2;exact⟨_,_,C,f,a,l⟩
theorem lC(S:lv<=2)(hp:∀m,m<=n->RP (lv+1) m):RP lv<|n+1:=by
 intro w R k ts deep h hd a6;have H:=I h;have HD:=I hd;have c5:=a6;have c8:=(Xr.1 h.rd.cells).1;have HC:Hid<|∀m,m<=n->∀(w:World)(k:Nat)(ts:List _),RK w R k _->10*ts.length+5<=m+(lv+1)->Calls _ _ #[.pointer _,.int _<|(lv)+1,.int _<|(deep)+1] w λe D=>∃(pv v:Value),e=.returned _/\Le _/\Hid (U4 R _ _ (Zh m _ _ _ _ _) v)/\w.grownBy _ _:=I λm hm w k ts h1 h2=>hp m hm w R k ts _ h1 hd h2;have h3:((lv:Int)==3)=false:=by rw[YB];omega
 obtain⟨PR,T⟩:∃PR,PR=Zh (n+1) false lv .nil ts deep:=⟨_,C⟩;have U:Hid<|PR=bnd _ _:=I<|by rw[T,lq X]
 show Calls _ _ _ _ λe D=>∃(pv v:Value),e=.returned (.tuple #[pv,v])/\Le pv/\Hid (U4 R (λD t=>Zo D t pv) D (Zh (n+1) false lv .nil ts deep) v)/\w.grownBy D (some R.b);rw[<-T];go_enter func217,ntmps217;go_wp2_with fail;refine(HC n (Yj _) w k _ H X).mono ?_;rintro e w1 ⟨pv,v,rfl,a7,f,hg⟩;have V:=I hg;cases c:Zh n false (lv+1) .nil ts deep with
 |error er=>
  have HE:=I<|f.err c;obtain⟨fa,rfl⟩:=HE.shape;have F:Hid<|PR=.error er:=by rw[U,c];rfl
  go_wp2;go_ret2;exact⟨_,_,C,.inl C,by rwa [F.out],V⟩
 |ok pr=>
  obtain⟨a0,r0⟩:=pr;obtain⟨rfl,⟨k1,a8⟩,hv⟩:=f.good c;have a9:=I a8;have b0:=I hv;have b1:Hid<|Zh n true lv a0 r0 deep=PR:=by rw[U,c];rfl
  have c6:r0.length+1<=ts.length:=SW n _ _ _ _ _ _ c;go_wp2;go_loopg [8] r0.length (λg v8 wr=>∃(a:Tr)(r:List Yg)(k2 m:Nat),g=r.length/\Hid (Zo wr a v8)/\Hid (RK wr R k2 r)/\Hid (10*r.length+5<=m/\m<=n/\Zh m true lv a r deep=PR)/\Hid (w.grownBy wr<|some R.b));case atStart=>exact⟨a0,r0,k1,n,C,b0,a9,⟨X,Yj _,b1⟩,V⟩
  case round=>
   obtain⟨a,r,k2,m,c9,HV,HK,G,HG⟩:=hrel;obtain⟨m,rfl⟩:∃m',m=m'+1:=⟨m-1,by have:=G.1;omega⟩;obtain⟨ty,u,b2⟩:=Zo.shape HV;subst b2;go_wp2_with fail;refine(QM HK).mono ?_;rintro e z ⟨⟨kd,at_,tx,tv⟩,rfl,ht,J⟩;have W:=I<|HK.below J;have b3:=I<|HV.below J;have b4:=I<|Zi HG<|ZB J;have o:=I W.wf.head;go_wp2_with fail;refine(kA ⟨kd,at_,tx,tv⟩).mono ?_;rintro e w3 ⟨rfl,K⟩;have d:=I<|W.below K;have q:=I<|b3.below K;have s:=I<|Zi b4<|ZB K;cases i:LS.opAt lv (LS.hd r)with
   |none=>
    have l:Hid<|PR=.ok _:=I<|by rw[<-G.2.2,lA i]
    rcases ko ht.out o.1 o.2.2 S i with B|⟨j,B,L,b5⟩
    .rw[B];go_wp2;go_ret2;exact⟨_,_,C,.inr ⟨_,_,C⟩,l.out▸⟨C,⟨_,d.out⟩,q.out⟩,s⟩
    .rw[B];have b6:((SY j:Int) !=lv)=true:=by rw[Vg];omega
     rw[show(some j).getD 0=j from C,show(some j).isSome=true from C];go_wp2_with(go_at_call 248;refine YK (GZ j L) ?_);go_ret2;exact⟨_,_,C,.inr ⟨_,_,C⟩,l.out▸⟨C,⟨_,d.out⟩,q.out⟩,s⟩
   |some p=>
    obtain⟨j,B,L,b5,Y,M,x⟩:=kp ht.out o.1 o.2.2 S i;have l:Hid<|(bnd _ _)=PR:=I<|by rw[<-G.2.2,lu i]
    have Z:Hid<|XT _=j/\(p.1=4∨p.1=6):=⟨Y,M⟩;have b7:=I x;have b6:((SY j:Int) !=lv)=false:=by rw[bne_eq_false_iff_eq];omega
    rw[B,show(some j).getD 0=j from C,show(some j).isSome=true from C];obtain⟨rc0,rc1,rfz,rcx⟩:=d.rd.all;have d0:=d.lt;have d1:=d.len;have d2:=G.1;have d3:=G.2.1;clear i B Y M x rcx;go_upto_region 10 with(go_at_call 248;refine YK (GZ j L) ?_);refine Zs λW8 A=>?_;have O:Hid _:=A▸d.step b7.out;have b8:Hid _:=A▸Zn s.out (Or.inl C) _;have b9:Hid<|Zo W8 a<|.iface ty u:=A▸q.read d.out (Zn (Z2 _ _) (Or.inl C) _);have c7:=d.pos;have P:=O.pos;rw[Rz]at P;clear A rc0 rc1 rfz d s q;go_wp2_with fail;refine(HC m X _ _ _ O<|by rw[Rz];omega).mono ?_;rintro e w9 ⟨pv,v,rfl,a7,f,a1⟩;have a2:=I<|Zi b8 a1;have c0:=I<|b9.read O a1;cases c:Zh m false (lv+1) .nil r.tail deep with
    |error er=>
     have HE:=I<|f.err c;obtain⟨fa,rfl⟩:=HE.shape;have F:Hid<|PR=.error er:=by rw[<-l,c];rfl
     go_wp2;go_ret2;exact⟨_,_,C,.inl C,by rwa [F.out],a2⟩
    |ok pr=>
     obtain⟨b,y⟩:=pr;obtain⟨rfl,⟨k9,c1⟩,a3⟩:=f.good c;have c2:=I c1;have c3:=I a3;have c4:Hid<|Zh m true lv (.node 0 0 (VM p.1 p.2) a b) y deep=PR:=by rw[<-l,c];rfl
     have Q:=SW m _ _ _ _ _ _ c;simp only[Rz,O5,Q2]at Q;obtain⟨ty2,u2,a4⟩:=Zo.shape a3;subst a4;have a5:Hid<|Zo _ (.node 0 0 _ a b) _:=I<|.inr<|.inr<|.inr<|.inr<|.inr ⟨Z.2,_,_,by rw[Z.1],c0,c3⟩;go_wp2;go_roundg y.length;case measure=>omega
     case rel=>exact⟨_,y,k9,m,C,a5,c2,⟨X,X,c4⟩,a2⟩
theorem Df:∀n,(∀lv,lv<=3->∀m,m<=n->RP lv m)/\(∀m,m<=n->RF m)
 |0=>by
  constructor
  .intro lv f m c w R k ts deep _ _ a;exact absurd (a) X
  .intro m c w R k ts deep _ _ a;exact absurd (a) X
 |n+1=>by
  obtain⟨d,g⟩:=Df n;have o:RF<|n+1:=by
   intro w R k ts deep h hd a;have p:=a;show Calls _ _ _ _ λe u=>∃(pv v:Value),e=.returned (.tuple #[pv,v])/\Le pv/\Hid (U4 R (λu t=>Zo u t pv) u (Zh (n+1) false 3 .nil ts deep) v)/\w.grownBy u (some R.b);rw[ll];refine sh ?_ (uP ?_) w R k _ _ h hd<|Yj _
   .intro w R k ts2 deep h hd i;exact g n (Yj _) w R k _ _ h hd<|by show 10*ts2.length+2<=n;have j:=i;omega
   .intro w R k ts2 deep h hd i;exact d 0 X n (Yj _) w R k _ _ h hd<|by show 10*ts2.length+5<=n+0;have j:=i;omega
  constructor
  · intro lv f m c;by_cases l:m<=n
    .exact d _ f m l
    · obtain rfl:m=n+1:=X;by_cases j:lv=3
      .subst j;exact lB o
      .exact lC X λm c=>d _ X m c
  · intro m c;by_cases l:m<=n
    .exact g m l
    .obtain rfl:m=n+1:=X;exact o
theorem II(v:Value)(w:World):(Instr.typeAssert (.iface 424 v) 360 424 true).run prog w=.ok (.tuple #[v,.bool true]) w:=by rfl
theorem IG(v:Value)(w:World):(Instr.typeAssert (.iface 424 v) 360 426 true).run prog w=.ok (.tuple #[.agg #[.nilIface],.bool false]) w:=by rfl
theorem IJ(v:Value)(w:World):(Instr.typeAssert (.iface 424 v) 360 422 true).run prog w=.ok (.tuple #[.agg #[E 0,.nilIface,.nilIface],.bool false]) w:=by rfl
theorem IF(v:Value)(w:World):(Instr.typeAssert (.iface 424 v) 360 428 true).run prog w=.ok (.tuple #[.agg #[.string ByteArray.empty,S0,.nilIface],.bool false]) w:=by rfl
theorem IK(v:Value)(w:World):(Instr.typeAssert (.iface 424 v) 360 433 true).run prog w=.ok (.tuple #[.agg #[.string ByteArray.empty,.string ByteArray.empty,S0,E 0],.bool false]) w:=by rfl
theorem KX(v:Value)(w:World):(Instr.typeAssert (.iface 424 v) 360 229 true).run prog w=.ok (.tuple #[.agg #[.string ByteArray.empty,S0],.bool false]) w:=by rfl
theorem I5(v:Value)(w:World):(Instr.typeAssert (.iface 426 v) 360 424 true).run prog w=.ok (.tuple #[.agg #[E 0],.bool false]) w:=by rfl
theorem I4(v:Value)(w:World):(Instr.typeAssert (.iface 426 v) 360 426 true).run prog w=.ok (.tuple #[v,.bool true]) w:=by rfl
theorem I6(v:Value)(w:World):(Instr.typeAssert (.iface 426 v) 360 422 true).run prog w=.ok (.tuple #[.agg #[E 0,.nilIface,.nilIface],.bool false]) w:=by rfl
theorem I3(v:Value)(w:World):(Instr.typeAssert (.iface 426 v) 360 428 true).run prog w=.ok (.tuple #[.agg #[.string ByteArray.empty,S0,.nilIface],.bool false]) w:=by rfl
theorem IE(v:Value)(w:World):(Instr.typeAssert (.iface 426 v) 360 433 true).run prog w=.ok (.tuple #[.agg #[.string ByteArray.empty,.string ByteArray.empty,S0,E 0],.bool false]) w:=by rfl
theorem KW(v:Value)(w:World):(Instr.typeAssert (.iface 426 v) 360 229 true).run prog w=.ok (.tuple #[.agg #[.string ByteArray.empty,S0],.bool false]) w:=by rfl
theorem IN(v:Value)(w:World):(Instr.typeAssert (.iface 422 v) 360 424 true).run prog w=.ok (.tuple #[.agg #[E 0],.bool false]) w:=by rfl
theorem IM(v:Value)(w:World):(Instr.typeAssert (.iface 422 v) 360 426 true).run prog w=.ok (.tuple #[.agg #[.nilIface],.bool false]) w:=by rfl
theorem IP(v:Value)(w:World):(Instr.typeAssert (.iface 422 v) 360 422 true).run prog w=.ok (.tuple #[v,.bool true]) w:=by rfl
theorem IL(v:Value)(w:World):(Instr.typeAssert (.iface 422 v) 360 428 true).run prog w=.ok (.tuple #[.agg #[.string ByteArray.empty,S0,.nilIface],.bool false]) w:=by rfl
theorem Gc(v:Value)(w:World):(Instr.typeAssert (.iface 422 v) 360 433 true).run prog w=.ok (.tuple #[.agg #[.string ByteArray.empty,.string ByteArray.empty,S0,E 0],.bool false]) w:=by rfl
theorem KY(v:Value)(w:World):(Instr.typeAssert (.iface 422 v) 360 229 true).run prog w=.ok (.tuple #[.agg #[.string ByteArray.empty,S0],.bool false]) w:=by rfl
theorem I0(v:Value)(w:World):(Instr.typeAssert (.iface 428 v) 360 424 true).run prog w=.ok (.tuple #[.agg #[E 0],.bool false]) w:=by rfl
theorem IY(v:Value)(w:World):(Instr.typeAssert (.iface 428 v) 360 426 true).run prog w=.ok (.tuple #[.agg #[.nilIface],.bool false]) w:=by rfl
theorem I1(v:Value)(w:World):(Instr.typeAssert (.iface 428 v) 360 422 true).run prog w=.ok (.tuple #[.agg #[E 0,.nilIface,.nilIface],.bool false]) w:=by rfl
theorem IX(v:Value)(w:World):(Instr.typeAssert (.iface 428 v) 360 428 true).run prog w=.ok (.tuple #[v,.bool true]) w:=by rfl
theorem I2(v:Value)(w:World):(Instr.typeAssert (.iface 428 v) 360 433 true).run prog w=.ok (.tuple #[.agg #[.string ByteArray.empty,.string ByteArray.empty,S0,E 0],.bool false]) w:=by rfl
theorem KU(v:Value)(w:World):(Instr.typeAssert (.iface 428 v) 360 229 true).run prog w=.ok (.tuple #[.agg #[.string ByteArray.empty,S0],.bool false]) w:=by rfl
theorem Gk(v:Value)(w:World):(Instr.typeAssert (.iface 433 v) 360 424 true).run prog w=.ok (.tuple #[.agg #[E 0],.bool false]) w:=by rfl
theorem Gj(v:Value)(w:World):(Instr.typeAssert (.iface 433 v) 360 426 true).run prog w=.ok (.tuple #[.agg #[.nilIface],.bool false]) w:=by rfl
theorem Gl(v:Value)(w:World):(Instr.typeAssert (.iface 433 v) 360 422 true).run prog w=.ok (.tuple #[.agg #[E 0,.nilIface,.nilIface],.bool false]) w:=by rfl
theorem Gi(v:Value)(w:World):(Instr.typeAssert (.iface 433 v) 360 428 true).run prog w=.ok (.tuple #[.agg #[.string ByteArray.empty,S0,.nilIface],.bool false]) w:=by rfl
theorem Gm(v:Value)(w:World):(Instr.typeAssert (.iface 433 v) 360 433 true).run prog w=.ok (.tuple #[v,.bool true]) w:=by rfl
theorem K0(v:Value)(w:World):(Instr.typeAssert (.iface 433 v) 360 229 true).run prog w=.ok (.tuple #[.agg #[.string ByteArray.empty,S0],.bool false]) w:=by rfl
theorem Gf(v:Value)(w:World):(Instr.typeAssert (.iface 229 v) 360 424 true).run prog w=.ok (.tuple #[.agg #[E 0],.bool false]) w:=by rfl
theorem Ge(v:Value)(w:World):(Instr.typeAssert (.iface 229 v) 360 426 true).run prog w=.ok (.tuple #[.agg #[.nilIface],.bool false]) w:=by rfl
theorem Gg(v:Value)(w:World):(Instr.typeAssert (.iface 229 v) 360 422 true).run prog w=.ok (.tuple #[.agg #[E 0,.nilIface,.nilIface],.bool false]) w:=by rfl
theorem Gd(v:Value)(w:World):(Instr.typeAssert (.iface 229 v) 360 428 true).run prog w=.ok (.tuple #[.agg #[.string ByteArray.empty,S0,.nilIface],.bool false]) w:=by rfl
theorem Gh(v:Value)(w:World):(Instr.typeAssert (.iface 229 v) 360 433 true).run prog w=.ok (.tuple #[.agg #[.string ByteArray.empty,.string ByteArray.empty,S0,E 0],.bool false]) w:=by rfl
theorem KZ(v:Value)(w:World):(Instr.typeAssert (.iface 229 v) 360 229 true).run prog w=.ok (.tuple #[v,.bool true]) w:=by rfl
attribute [local go_sem] II IG IJ IF IK KX I5 I4 I6 I3 IE KW IN IM IP IL Gc KY I0 IY I1 IX I2 KU Gk Gj Gl Gi Gm K0 Gf Ge Gg Gd Gh KZ
def KR(tp:Addr)(t:Tr)(kd:Int)(err:Value):Prop:=(Zq t=0/\err=.iface 469 (.pointer<|some tp))∨(Zq t=1/\kd=0/\err=.nilIface)∨(Zq t=2/\kd=1/\err=.nilIface)
def Ma(w:World)(tp:Addr):Prop:=w.cell? ⟨3,0,none⟩=some (.iface 469<|.pointer<|some tp)
theorem Ma.below{w':World}(h:Ma w tp)(a:BW w w'):Ma w' tp:=(a.cell<|Xi _ _ h).trans h
def KC(t:Tr):Prop:=∀(w:World)(v:Value)(tp:Addr),Zo w t v->Ma w tp->
 CP 220 #[v] w λe w'=>∃(kd:Int)(err:Value),e=.returned (.tuple #[E kd,err])/\Hid (KR tp t kd err)/\BW w w'
theorem yr{t:Tr}(h:KC t)(w:World)(f:Zo w t v)(g:Ma w tp):
 CP 249 #[v] w λe j=>∃err:Value,e=.returned err/\Hid ((Zq t=2/\err=.nilIface)∨(Zq t≠2/\err=.iface 469 (.pointer<|some tp)))/\BW w j:=by
 have k:=I<|h w v _ f g;have l:=I g;obtain⟨ty,u,rfl⟩:=Zo.shape f;go_enter func249,ntmps249;go_wp2_with fail;refine k.mono ?_;rintro e m ⟨kd,err,rfl,n,i⟩;have d:=I i;have o:m.cell? _=some _:=l.below i;rcases n.out with⟨a,rfl⟩|⟨a,rfl,rfl⟩|⟨a,rfl,rfl⟩
 .have c:=I a;go_wp2;go_ret;exact⟨_,C,.inr ⟨by rw[c];decide,C⟩,d⟩
 .have c:=I a;go_wp2;go_ret;exact⟨_,C,.inr ⟨by rw[c];decide,C⟩,d⟩
 .have c:=I a;go_wp2;go_ret;exact⟨_,C,.inl ⟨c,C⟩,d⟩
theorem oJ{x y:Nat}{a:Nd}{l r:Tr}(h:a.jj=4∨a.jj=6):Zq (.node x y a l r)=if Zq l=0∨Zq r=0∨(a.jj=6/\Zq l+Zq r≠4)then 0 else if Zq l+Zq r=2 then 1 else 2:=by
 show(if a.jj=0 then _ else _)=_;rw[Yd X,Yd X,Yd X,Yd X]
theorem pf{x y:Nat}{a:Nd}{l r:Tr}(F:a.jj=4∨a.jj=6)(H:KC l)(J:KC r)(w:World){vl vr:Value}(p:Zo w l vl)(d:Zo w r vr)(A:Ma w tp):
 CP 250 #[.agg #[E<|XT a,vl,vr]] w λe u=>∃(kd:Int)(err:Value),e=.returned (.tuple #[E kd,err])/\Hid (KR tp (.node x y a l r) kd err)/\BW w u:=by
 obtain⟨tyl,ul,rfl⟩:=Zo.shape p;obtain⟨tyr,ur,rfl⟩:=Zo.shape d;have q:=I<|oJ (x:=x) (y:=y) (l:=l) (r:=r) F;have V:=I d;have U:=I A;obtain⟨o,n⟩:∃o,o=XT a:=⟨_,C⟩;have K:(a.jj=6/\((o:Int)==0)=true)∨(a.jj=4/\((o:Int)==0)=false):=by
  rcases F with h|h
  .right;refine⟨h,?_⟩;rw[YB,n];unfold XT;rw[Yd X];omega
  .left;refine⟨h,?_⟩;rw[n];unfold XT;rw[Ye h];rfl
 rw[<-n];have L:=I λW s=>H W _ _ (p.below s)<|A.below s;have M:=I λW s=>J W _ _ (d.below s)<|A.below s;clear p d A H J F n;go_enter func250,ntmps250;go_upto_region 1 with fail;refine Zs λZ t=>?_;have v:Hid _:=t▸Yc;have f:Hid<|Ya _ _ _ 422:=t▸YO;clear t;have p0:=f.cell 0;have p1:=f.cell 1;have p2:=f.cell 2;simp only[Yf]at p0 p1 p2;go_wp2_with fail;refine(L _ v).mono ?_;rintro e w1 ⟨kd,err,rfl,O,B⟩;have g:=I<|v.trans<|B.mono v.size;have i:=I<|f.below B;have p0:=i.cell 0;have p1:=i.cell 1;have p2:=i.cell 2;simp only[Yf]at p0 p1 p2;rcases O.out with⟨j,rfl⟩|⟨j,rfl,rfl⟩|⟨j,rfl,rfl⟩
 .have G:Hid<|Zq _=0:=I<|by rw[q,Ye<|.inl j]
  go_wp2;go_ret2;exact⟨_,_,C,.inl ⟨G,C⟩,g⟩
 all_goals
  have P:=I j;go_wp2_with fail;refine(M _ g).mono ?_;rintro e z ⟨kd2,err2,rfl,Q,D⟩;have c:=I<|g.trans<|D.mono g.size;have R:=I<|i.below D;have Y:z.cell? _=some _:=U.below c;have p0:=R.cell;rcases Q.out with⟨k,rfl⟩|⟨k,rfl,rfl⟩|⟨k,rfl,rfl⟩
  .have G:Hid<|Zq _=0:=I<|by rw[q,Ye<|.inr<|.inl k]
   go_wp2;go_ret2;exact⟨_,_,C,.inl ⟨G,C⟩,c⟩
  all_goals
   have S:=I k;rcases K with⟨T,n⟩|⟨T,n⟩;all_goals
    have m:=I<|show Zq (.node x y a l r)=_ by rw[q.out,P.out,S.out,T]
    first
     | (go_wp2;go_ret2;exact⟨_,_,C,by first|exact Or.inr<|Or.inl ⟨by rw[m.out];rfl,C,C⟩|exact Or.inr<|Or.inr ⟨by rw[m.out];rfl,C,C⟩|exact Or.inl ⟨by rw[m.out];rfl,C⟩,c.out⟩)
     | (go_wp2;go_region;all_goals
      go_wp2;go_ret2;exact⟨_,_,C,Or.inl ⟨by rw[m.out];rfl,C⟩,by exact⟨c.os,c.tape,c.output,c.size,c.block⟩⟩)
theorem Hg:∀t:Tr,KC t
 |.nil=>λ_ _ _ h=>h.elim
 |.node x y a l r=>by
  have k:=Hg l;have D:=Hg r;intro w v tp G s;rcases G with⟨d,rfl⟩|⟨d,nm,la,ln,lc,rfl,_⟩|⟨d,H,nm,la,ln,lc,rfl,_⟩|⟨d,z,rfl,m⟩|⟨d,H,la,ln,lc,z,rfl,_,_,m⟩|⟨d,z1,z2,rfl,p,q⟩
  · have g:Hid<|Zq (.node x y a l r)=1:=by show(if a.jj=0 then _ else _)=_;rw[Ye d]
    go_enter func220,ntmps220;go_wp2;go_ret2;exact⟨_,_,C,.inr<|.inl ⟨g,C,C⟩,Yh⟩
  · have g:Hid<|Zq (.node x y a l r)=2:=I<|by show(if a.jj=0 then _ else _)=_;rw[Yd X,Ye<|Or.inl d]
    go_enter func220,ntmps220;go_wp2;go_ret2;exact⟨_,_,C,.inr<|.inr ⟨g,C,C⟩,Yh⟩
  · have g:Hid<|Zq (.node x y a l r)=2:=I<|by show(if a.jj=0 then _ else _)=_;rw[Yd X,Ye<|Or.inr d]
    go_enter func220,ntmps220;go_wp2;go_ret2;exact⟨_,_,C,.inr<|.inr ⟨g,C,C⟩,Yh⟩
  · have g:Hid<|Zq (.node x y a l r)=Zq l:=by show(if a.jj=0 then _ else _)=_;rw[Yd X,Yd X,Ye d]
    obtain⟨ty,u,rfl⟩:=Zo.shape m;have n:=I λW c=>k W _ _ (m.below c)<|s.below c;go_enter func220,ntmps220;go_wp2_with fail;refine Zv λW c=>?_;have f:Hid<|BW w W:=c▸Yh;refine(n W f).mono ?_;rintro e F ⟨kd,err,rfl,i,o⟩;have j:=I<|f.trans<|o.mono f.size;go_wp2;go_ret2;exact⟨_,_,C,by unfold KR;rw[g];exact i,j⟩
  · have g:Hid<|Zq (.node x y a l r)=if Zq l=2 then 2 else 0:=by show(if a.jj=0 then _ else _)=_;rw[Yd X,Yd X,Yd X,Ye d]
    obtain⟨ty,u,rfl⟩:=Zo.shape m;have n:=I λW c=>yr k W (m.below c)<|s.below c;go_enter func220,ntmps220;go_wp2_with fail;refine Zv λW c=>?_;have f:Hid<|BW w W:=c▸Yh;refine(n W f).mono ?_;rintro e F ⟨err,rfl,i,o⟩;have j:=I<|f.trans<|o.mono f.size;go_wp2;go_ret2;refine⟨_,_,C,?_,j⟩;rcases i.out with⟨A,B⟩|⟨A,B⟩
    .exact .inr<|.inr ⟨by rw[g,Ye A],C,B⟩
    .exact .inl ⟨by rw[g,Yd A],B⟩
  .obtain⟨ty,u,rfl⟩:=Zo.shape p;obtain⟨ty2,u2,rfl⟩:=Zo.shape q;have n:Hid<|∀W,Below _ w W->Calls _ _ _ W λe J=>∃(kd:Int)(err:Value),e=.returned _/\Hid (KR _ (.node x y a l r) _ _)/\Below _ W _:=I λW c=>pf d k D W (p.below c) (q.below c)<|s.below c;go_enter func220,ntmps220;go_wp2_with fail;refine Zv λW c=>?_;have f:Hid<|BW w W:=c▸Yh;refine(n W f).mono ?_;rintro e F ⟨kd,err,rfl,i,o⟩;have j:=I<|f.trans<|o.mono f.size;go_wp2;go_ret2;exact⟨_,_,C,i,j⟩
end
section
theorem JE(s:BA)(k:Nat){h:k<s.size}(a:p s[k]=true):run p ((bl s).drop k)=run p ((bl s).drop<|k+1)+1:=by
 rw[Te s k h,run,Ye a]
theorem BS(s:BA)(k:Nat){h:k<s.size}(a:p s[k]=false):run p ((bl s).drop k)=0:=by
 rw[Te s k h,run,Yd<|a▸Bool.false_ne_true]
theorem BP(s:BA)(k:Nat)(h:¬k<s.size):run p ((bl s).drop k)=0:=by
 rw[Ts<|by rw[Zb];omega];rfl
theorem gQ(s:BA)(k:Nat)(w:World)(l:s.size<=6000)(g:k<=s.size):
 CP 244 #[.string s,Vi k,.func (.func 197) #[] #[]] w λe u=>e=.returned (Vi ((k+run Zt ((bl s).drop k):Nat):Int))/\u=w:=by
 obtain⟨E,c⟩:∃E,E=k+run Zt ((bl s).drop k):=⟨_,C⟩;rw[<-c];have h:=I c;clear c;go_enter func244,ntmps244;go_wp2;go_loop [1] (λi=>∃j:Nat,j<=s.size/\i=Vi j/\Hid (E=j+run Zt ((bl s).drop j))) (λi=>s.size-(intOf i).toNat);case atStart=>exact⟨k,g,C,h⟩
 case round=>
  obtain⟨j,m,rfl,d⟩:=hrel;by_cases f:j<s.size
  .cases hd:Zt s[j]
   .have a:Hid<|E=j:=by rw[d,BS s j hd];rfl
    go_wp2_with(go_at_call 197;refine YK (Rp) ?_);go_ret;exact⟨by rw[a];rfl,C⟩
   .have a:Hid<|E=(j+1)+run Zt ((bl s).drop<|j+1):=I<|by rw[d,JE s j hd];omega
    go_wp2_with(go_at_call 197;refine YK (Rp) ?_);go_round;case rel=>exact⟨j+1,X,by go_num,a⟩
    case measure=>simp[intOf];omega
  .have a:Hid<|E=j:=by rw[d,BP s j f];rfl
   go_wp2;go_ret;exact⟨by rw[a];rfl,C⟩
theorem gR(s:BA)(k:Nat)(w:World)(l:s.size<=6000)(g:k<=s.size):
 CP 244 #[.string s,Vi k,.func (.func 167) #[] #[]] w λe u=>e=.returned (Vi ((k+run Zl ((bl s).drop k):Nat):Int))/\u=w:=by
 obtain⟨E,c⟩:∃E,E=k+run Zl ((bl s).drop k):=⟨_,C⟩;rw[<-c];have h:=I c;clear c;go_enter func244,ntmps244;go_wp2;go_loop [1] (λi=>∃j:Nat,j<=s.size/\i=Vi j/\Hid (E=j+run Zl ((bl s).drop j))) (λi=>s.size-(intOf i).toNat);case atStart=>exact⟨k,g,C,h⟩
 case round=>
  obtain⟨j,m,rfl,d⟩:=hrel;by_cases f:j<s.size
  .cases hd:Zl s[j]
   .have a:Hid<|E=j:=by rw[d,BS s j hd];rfl
    go_wp2_with(go_at_call 167;refine YK (QA) ?_);go_ret;exact⟨by rw[a];rfl,C⟩
   .have a:Hid<|E=(j+1)+run Zl ((bl s).drop<|j+1):=I<|by rw[d,JE s j hd];omega
    go_wp2_with(go_at_call 167;refine YK (QA) ?_);go_round;case rel=>exact⟨j+1,X,by go_num,a⟩
    case measure=>simp[intOf];omega
  .have a:Hid<|E=j:=by rw[d,BP s j f];rfl
   go_wp2;go_ret;exact⟨by rw[a];rfl,C⟩
theorem St.tok(h:St w b pv s deep<|.ok ((),ts)):∃q:QV,YN w b q/\S4 q=hd ts/\q.tx.size<=s.size+2/\q.e=0/\q.deep=deep/\ts.tail.length+1=ts.length/\((hd ts).jj=1->(ZC 1000000000 (hd ts).txt).isSome=true):=by
 obtain⟨⟨q,d,i,j,f,g,k,a⟩,_⟩:=h;have:=XB.txt_le a;have e:(S4 q).txt=bl _:=C;rw[e,Zb,Zb]at this;have c:=XB.num a;rw[<-show LS.hd ts=S4 q from a.hd]at c;exact⟨q,d,a.hd.symm,this,g,f,a.pos.symm,c⟩
theorem Fj{c d:World}{pv3:Value}{r2:Yl Unit}{p:PV}(f:Yw b pv w pv c)(h:St c b pv s deep r2)(o2:c.ownsRow 0 59 8 pv n xs)
 (o:St d b pv3 s deep r2)(o3:d.ownsRow 0 59 8 pv3 (n+1)<|xs++p.cells)(k3:Yw b pv c pv3 d)(i:Xq M (n+1) R)(j:Zj R=r2)(k:∀t z,R=.ok (t,z)->∃nd,t=TX nd/\LF c nd p/\p.a=0/\p.b=0):Yi w b pv s deep xs M R n d:=by
 refine⟨n+1,pv3,p.cells,by rwa [j],o3,f.trans k3,i,?_⟩;intro t z e;obtain⟨nd,rfl,g,l,m⟩:=k t z e;exact⟨n,C,JB h o2 k3 p _ _ _ 0 0 g l m (Yr _) (Yr _) trivial trivial,C,C⟩
theorem nM{c d:World}{pv2 pv8:Value}{n2:Nat}{ys:List Value}{R1:Yl Tr}{i:Int}{p:PV}{nd:Nd}(h:St c b pv2 s deep<|Zj R1)(o1:c.ownsRow 0 59 8 pv2 n2<|xs++ys)(k1:Yw b pv w pv2 c)
 (j:Xq M (n2+1) R1)(l:∀t z,R1=.ok (t,z)->∃k:Nat,i=k/\XF c (xs++ys) t k/\k+1=n2/\ys.length=8*Va t)(m:St d b pv8 s deep<|Zj R1)(o3:d.ownsRow 0 59 8 pv8 (n2+1)<|(xs++ys)++p.cells)(k3:Yw b pv2 c pv8 d)
 (f:R=bnd R1 λa r=>.ok (.node 0 0 nd a .nil,r))(n:LF c nd p)(o:p.a=i)(q:p.b=0):Yi w b pv s deep xs M R n2 d:=by
 have g:Zj R=Zj R1:=by
  rw[f];cases R1 with
  |error e=>rfl
  |ok x=>rfl
 refine⟨n2+1,pv8,ys++p.cells,g▸m,by rwa [<-WV],k1.trans k3,Xq.of_unit<|g▸Xq.unit j,?_⟩;intro t z e;rw[f]at e;obtain⟨a,r,e1,e2⟩:=Zw e;injection e2 with e2;injection e2 with e2 e3;subst e2;subst e3;obtain⟨k,q1,q2,q3,q4⟩:=l a r e1;refine⟨n2,C,?_,C,by rw[Yv,q4];show _+8=8*(Va a+0+1);omega⟩;rw[<-WV];exact JB h o1 k3 p _ a _ k 0 n (by rw[o,q1]) q X (Yr _) q2 trivial
theorem S5{q:QV}(h:S4 q=t):q.k=t.jj/\bl q.tx=t.txt:=by subst h;exact⟨C,C⟩
theorem rA(h:St w b pv s deep<|.ok ((),ts))(R:s.size<=5000){mi:Bool}(j:(hd ts).jj=1)
 (a:w.ownsRow 0 59 8 pv n xs)(S:M<=6000)(T:n+ts.length<=M):
 CP 270 #[Vp b,.bool mi,.bool op] w λe u=>∃i:Int,e=.returned (E i)/\Yi w b pv s deep xs M (ZR rec ts deep) i u:=by
 obtain⟨q,p,c,K,_,_,L,l⟩:=h.tok;obtain⟨c0,c1,c2,c3,c4,c5,c6,c7,c8⟩:=p.all;have O:((q.k:Int)==1)=true:=by rw[(S5 c).1,j];rfl
 have B:=I<|(S5 c).2;have m:Hid<|ZR rec ts deep=.ok (TX ⟨0,0,YL 1000000000 (hd ts).txt,[],[],[]⟩,ts.tail):=I<|by
  unfold ZR;rw[Ye j];obtain⟨v,r⟩:=MV.1<|l j;rw[RB r];unfold Wz;rw[r];rfl
 have H:=I h;have D:=I a;have x:q.tx.size<=6000:=X;clear h a p c c0 c1 c2 c5 c6 c7 c8;go_enter func270,ntmps270;go_wp2_with fail;refine(LJ 1000000000 C x N).mono ?_;rintro e F ⟨rfl,rfl⟩;rw[B];have P:=Ny 1000000000 (hd ts).txt;generalize Q:YL 1000000000 (hd ts).txt=nn at*;go_wp2_with fail;refine(St.next H X ⟨ts,C,X⟩).mono ?_;rintro e U ⟨rfl,d,o⟩;have f:Hid<|St _ b _ s _<|.ok _:=d;have g:=I<|VZ H D o;have A:Hid<|Yw b _ _ pv _:=(Yw.refl _ _ _).grown o;clear d o c3 c4;go_wp2_with fail;refine(St.lay f.out g.out X ⟨0,nn,0,⟨#[]⟩,none,0,0,none,0,0,0,0⟩).mono ?_;rintro e G ⟨pv3,rfl,s3,o3,k3⟩;have J:Hid<|Yi F b pv s deep xs M (ZR rec ts deep) n G:=by
  refine Fj A f g s3 o3 k3 ?_ ?_ ?_
  .rw[m];exact(show n+1+ts.tail.length<=M by omega)
  .rw[m];rfl
  .intro t z e;rw[m]at e;injection e with e;injection e with e _;exact⟨_,e.symm,⟨C,C,C,C,ZP.nil _ _ _ C C C,[],Xm _ _ _ _,C⟩,C,C⟩
 clear s3 o3 k3;go_wp2;go_ret;exact⟨_,C,J⟩
theorem ry(h:St w b pv s deep<|.ok ((),ts))(hs:s.size<=5000)(P:(hd ts).jj≠1)(o:Yk [45] (hd ts)=true)
 (p:We 242 s (λts d=>rec 3 ts d) L)(hL:ts.length<=L+1)(c:w.ownsRow 0 59 8 pv n xs)(hM:M<=6000)(hB:n+ts.length<=M)(v:deep<=20):
 CP 270 #[Vp b,.bool true,.bool op] w λe u=>∃i:Int,e=.returned (E i)/\Yi w b pv s deep xs M (ZR rec ts deep) i u:=by
 obtain⟨q,x,f,W,_,_,Y,Q⟩:=h.tok;obtain⟨c0,c1,c2,c3,c4,c5,c6,c7,c8⟩:=x.all;have Z:((q.k:Int)==1)=false:=by rw[(S5 f).1,YB];omega
 have R:Hid<|ZR rec ts deep=bnd (rec 3 ts.tail deep) λa r=>.ok (.node 0 0 (VM 3 0) a .nil,r):=by unfold ZR;rw[Yd P,o];rfl
 have H:=I h;have S:=I c;have T:=I p;have U:=QC o;clear h c x f c0 c1 c2 c4 c5 c6 c7 c8 p;go_enter func270,ntmps270;go_wp2_with fail;refine(St.next H X ⟨ts,C,U⟩).mono ?_;rintro e w2 ⟨rfl,g,m⟩;have A:Hid<|St _ b _ s _<|.ok _:=g;have B:=I<|VZ H S m;have D:Hid<|Yw b _ w pv _:=(Yw.refl _ _ _).grown m;clear g m c3;go_wp2_with fail;refine(T _ b _ _ _ n _ _ A B X (show n+ts.tail.length<=M-1 by omega) (λt e=>by injection e with e;injection e with _ e;subst e;omega) v).mono ?_;rintro e w3 ⟨i,rfl,F⟩;obtain⟨n3,pv3,ys,s3,o3,k3,b3,r3⟩:=F.out;have j:Hid<|St _ b _ s _<|Zj<|rec 3 _ _:=s3;have l:=I o3;have G:=I<|D.trans k3;have J:Hid<|Xq _ _<|rec 3 _ _:=b3;have K:Hid<|∀t z,rec 3 _ _=.ok _->∃k:Nat,i=k/\XF _ _ t k/\k+1=n3/\ys.length=8*Va t:=r3;have O:n3<=6000:=by have:=b3.le;omega
 clear F s3 o3 k3 b3 r3;go_wp2_with fail;refine(St.lay j.out l.out O ⟨3,0,0,⟨#[]⟩,none,0,0,none,0,0,i,0⟩).mono ?_;rintro e w4 ⟨pv4,rfl,s4,o4,k4⟩;have V:Hid<|Yi w b _ s _ _ M _ _ _:=nM j l G (Xq.up J X) K s4 o4 k4 R ⟨C,C,C,C,ZP.nil _ _ _ C C C,[],Xm _ _ _ _,C⟩ C C;clear s4 o4 k4;go_wp2;go_ret;exact⟨_,C,V⟩
theorem rB(h:St w b pv s deep<|.ok ((),ts))(j:(hd ts).jj≠1)(l:Yk [45] (hd ts)=false)(m:Yk [40] (hd ts)=true)
 (d:We 287 s (Z9 rec)<|L+1)(J:ts.length<=L+1)(a:w.ownsRow 0 59 8 pv n xs)(o:M<=6000)(K:n+ts.length<=M)(f:deep<=20):
 CP 270 #[Vp b,.bool false,.bool true] w λe u=>∃i:Int,e=.returned (E i)/\Yi w b pv s deep xs M (ZR rec ts deep) i u:=by
 obtain⟨q,g,c,D,_,_,F,p⟩:=h.tok;obtain⟨c0,c1,c2,c3,c4,c5,c6,c7,c8⟩:=g.all;have G:((q.k:Int)==1)=false:=by rw[(S5 c).1,YB];omega
 have r:Hid<|ZR rec ts deep=Z9 rec ts deep:=by unfold ZR;rw[Yd j,l,m];rfl
 have H:=I h;have v:=I a;have x:=I d;clear h a g c c0 c1 c2 c4 c5 c6 c7 c8 d;go_enter func270,ntmps270;go_wp2_with fail;refine(x w b _ _ _ n _ M H v o (show n+ts.length<=M by omega) (λt e=>by injection e with e;injection e with _ e;subst e;omega) f).mono ?_;rintro e z ⟨i,rfl,A⟩;have B:Hid<|Yi w b pv s deep xs M (ZR rec ts deep) i z:=by rwa [r.out]
 clear A c3;go_wp2;go_ret;exact⟨_,C,B⟩

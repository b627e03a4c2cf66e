/- Parts. -/
import Derived.Test.YtmfnolgpaoldpaaGreatDoorW23
set_option linter.all false
set_option maxRecDepth 100000
set_option maxHeartbeats 16000000
namespace Go.Proofs.YtmfnolgpaoldpaaGreatDoor
open Go.RowKit LS Go.Proofs.Tryz
variable {ca:Addr}{s:BA}{fn:Func}{c cs:List Value}{l:List<|Nat×Nat}{a arg b e0 e1 e2 e3 k n0 n1 n2 n3 nb op:Nat}{A:Nat->Addr}{x:Nat×Nat}{a0 a1 a2 a3 la:Option Addr}{r:Option<|List Nat×List Nat}{err u v y z:Value}{w w' w0:World}
def TR(l:LB):X9 Yb:=match US l with
 |.error e=>.error e
 |.ok n=>match Yo (Vx l) 9 n.1 with
  |.error e=>.error e
  |.ok cs=>match Yo (pickAt l) cs.2 n.2.1 with
   |.error e=>.error e
   |.ok ps=>match Yo (groupAt l) ps.2 n.2.2.1 with
    |.error e=>.error e
    |.ok gs=>match Yo (WM l) gs.2 n.2.2.2 with
     |.error e=>.error e
     |.ok is=>.ok (⟨cs.1,ps.1,gs.1,is.1⟩,is.2)
theorem DR(l:LB):Wt l=match TR l with
 |.error e=>.error e
 |.ok x=>if l.length<x.2+4 then .error (9,l.length)else if x.2+4<l.length then .error (9,x.2+4)else
  if Yp (l.drop x.2)≠XK (l.take x.2)then .error (10,0)else .ok x.1:=by
 unfold Wt TR;cases US l with
 |error e=>rfl
 |ok n=>
  simp only;cases Yo (Vx l) 9 n.1 with
  |error e=>rfl
  |ok cs=>
   simp only;cases Yo (pickAt l) cs.2 n.2.1 with
   |error e=>rfl
   |ok ps=>
    simp only;cases Yo (groupAt l) ps.2 n.2.2.1 with
    |error e=>rfl
    |ok gs=>
     simp only;cases Yo (WM l) gs.2 n.2.2.2 with
     |error e=>rfl
     |ok is=>rfl
structure X6 (w:World)(c:Yb)(cv pv gv iv:Value):Prop where
 cs:Q7 w c.jq cv
 ps:Pd w c.jw pv
 gs:Q9 w c.jv gv
 is:UN w c.jz iv
def Xy(w:World)(c:Yb)(v:Value):Prop:=∃cv pv gv iv,v=.agg #[cv,pv,gv,iv]/\X6 w c cv pv gv iv
def X5(v:Value):Prop:=∃(a0 a1 a2 a3:Option Addr)(n0 n1 n2 n3 c0 c1 c2 c3:Nat),v=.agg #[.slice a0 n0 c0,.slice a1 n1 c1,.slice a2 n2 c2,.slice a3 n3 c3]
theorem Q7.ju{l:List Int}(h:Q7 w l v){t:TypeId}(a:Ya w b c t)(d:w.grownBy w'<|some b)(e:t≠3):Q7 w' l v:=Mx h a d e
theorem UN.ju(h:UN w l v){t:TypeId}(a:Ya w b c t)(d:w.grownBy w'<|some b)(e:t≠137):UN w' l v:=Mx h a d e
theorem Pd.ju{l:List<|Nd×Nat}(h:Pd w l v){t:TypeId}(a:Ya w b c t)(d:w.grownBy w'<|some b)(f:t≠231)(e:t≠374):Pd w' l v:=by
 obtain⟨xs,g,i,j⟩:=h;exact⟨xs,Mx g a d f,i,λx k=>(j x k).ju a d e⟩
theorem Q9.ju{l:List<|List<|LB}(h:Q9 w l v){t:TypeId}(a:Ya w b c t)(d:w.grownBy w'<|some b)(f:t≠57)(e:t≠9):Q9 w' l v:=by
 obtain⟨xs,g,i,j⟩:=h;exact⟨xs,Mx g a d f,i,λx k=>(j x k).ju a d e⟩
theorem Q7.shape{l:List Int}(h:Q7 w l v):∃a c,v=.slice a l.length c:=Zd h
theorem UN.shape(h:UN w l v):∃a c,v=.slice a l.length c:=Zd h
theorem Pd.shape{l:List<|Nd×Nat}(h:Pd w l v):∃a c,v=.slice a l.length c:=by
 obtain⟨xs,d,f,_⟩:=h;obtain⟨a,c,e⟩:=Zd d;exact⟨a,c,by rw[e,<-f,Yz]⟩
theorem Q9.shape{l:List<|List<|LB}(h:Q9 w l v):∃a c,v=.slice a l.length c:=by
 obtain⟨xs,d,f,_⟩:=h;obtain⟨a,c,e⟩:=Zd d;exact⟨a,c,by rw[e,<-f,Yz]⟩
theorem Xy.ju{l:Yb}(h:Xy w l v){t:TypeId}(a:Ya w b c t)(d:w.grownBy w'<|some b)(f:t≠3)(g:t≠231)(i:t≠374)(j:t≠57)(k:t≠9)(m:t≠137):Xy w' l v:=by
 obtain⟨cv,pv,gv,iv,e,h⟩:=h;exact⟨cv,pv,gv,iv,e,h.cs.ju a d f,h.ps.ju a d g i,h.gs.ju a d j k,h.is.ju a d m⟩
theorem Ya.setk{t:TypeId}(h:Ya w a c t)(i:Nat)(v:Value):Ya (w.setCell ⟨a,i,none⟩ v) a (c.set i v) t:=by
 unfold Ya at h⊢;simp only[World.setCell,V4,h,VE,Wr];show some (Obj.cells (c.toArray.setIfInBounds i v) t (0,0))=_;rw[Of]
def Wj(w:World)(a:Nat)(x y z u:Value):World:=(((w.setCell ⟨a,0,none⟩ x).setCell ⟨a,1,none⟩ y).setCell ⟨a,2,none⟩ z).setCell ⟨a,3,none⟩ u
theorem LQ{p0 p1 p2 p3 x:Value}{t:TypeId}(h:Ya w a [p0,p1,p2,p3] t):Ya (Wj w a x y z u) a [x,y,z,u] t:=
 (((h.setk 0 x).setk 1 y).setk 2 z).setk 3 u
theorem NQ{P:Program}{R:Ending->World->Prop}{a:Act}{v:World}{p q d e x r:Value}{t:TypeId}(c:∀W:World,W.cell? ⟨b,0,none⟩=some x->W.cell? ⟨b,1,none⟩=some y->W.cell? ⟨b,2,none⟩=some z->W.cell? ⟨b,3,none⟩=some u->(results fn a.tmps).run P W=.ok r W)(hd:a.defers=[])(f:Ya v b [p,q,d,e] t)(g:R (.returned r)<|Wj v b x y z u):bodyPost P fn R .ret a<|Wj v b x y z u:=by
 have s:=LQ f (x:=x) (y:=y) (z:=z) (u:=u);exact YQ (c _ (s.cell 0) (s.cell 1) (s.cell 2)<|s.cell 3) hd g
theorem MC(w:World)(a:Nat)(x y z u:Value):w.grownBy (Wj w a x y z u)<|some a:=Zn (Zn (Zn (Zn (Z2 w<|some a) (.inl C) _) (.inl C) _) (.inl C) _) (.inl C) _
theorem hZ(h:w0.grownBy w<|some b)(c:w0.heap.size<=a){x:Value}:w0.grownBy (Wj w a x y z u)<|some b:=
 Zn (Zn (Zn (Zn h (.inr c) _) (.inr c) _) (.inr c) _) (.inr c) _
def P9(l:LB)(k j:Nat):Value:=E ((if j<k then Yp (Y6 l (1+2*j) 2)else 0:Nat):Int)
def L5(l:LB)(k:Nat):List Value:=[P9 l k 0,P9 l k 1,P9 l k 2,P9 l k 3]
theorem Nx{α:Type}{one:Nat->X9 α}{p n:Nat}(d:∀p x,one p=.ok x->x.2<=n)(f:p<=n):∀{k:Nat}{xs:List α}{q:Nat},Yo one p k=.ok (xs,q)->q<=n
 |0,xs,q,h=>by injection h with h;injection h with _ h2;omega
 |k+1,xs,q,h=>by
  unfold Yo at h;cases c:Yo one p k with
  |error e=>rw[c]at h;cases h
  |ok x=>
   rw[c]at h;simp only at h;cases a:one x.2 with
   |error e=>rw[a]at h;cases h
   |ok y=>
    rw[a]at h;injection h with h;injection h with _ h2;have:=d _ _ a;omega
theorem rS{l:LB}(h:l.head?=some 103)(d:k<4)(c:Z8 l (1+2*k) 2=.error x):US l=.error x:=by
 unfold Z8 at c;cases a:VJ l (1+2*k) 2 with
 |ok y=>rw[a]at c;cases c
 |error e=>
  rw[a]at c;cases c;unfold VJ at a;split at a
  .cases a;unfold US;rw[Yd<|by rw[h];simp,Ye X]
  .cases a
theorem rQ{l:LB}(h:l.head?=some 103)(a:9<=l.length):US l=.ok (Yp<|Y6 l 1 2,Yp<|Y6 l 3 2,Yp<|Y6 l 5 2,Yp<|Y6 l 7 2):=by
 unfold US;rw[Yd<|by rw[h];simp,Yd X]
theorem vF{l:LB}{x:Unit×Nat}(h:R4 l=.ok x):l.head?=some 103/\x.2=1:=by
 unfold R4 at h;by_cases e:l.head?=some 103
 .rw[Yd<|by rw[e];simp]at h;cases h;exact⟨e,C⟩
 .rw[Ye e]at h;cases h
theorem vD{l:LB}(h:R4 l=.error x):TR l=.error x:=by
 unfold R4 at h;by_cases e:l.head?=some 103
 .rw[Yd<|by rw[e];simp]at h;cases h
 .rw[Ye e]at h;cases h;unfold TR US;rw[Ye e]
theorem X5.zero:X5<|.agg #[S0,S0,S0,S0]:=⟨none,none,none,none,0,0,0,0,0,0,0,0,C⟩
theorem X5.mk{c0 c1 c2 c3:Nat}:X5<|.agg #[.slice a0 n0 c0,.slice a1 n1 c1,.slice a2 n2 c2,.slice a3 n3 c3]:=⟨_,_,_,_,_,_,_,_,_,_,_,_,C⟩
theorem Ya.four{x:Value}{t:TypeId}(h:Ya w a [x,y,z,u] t):(w.frozen? ⟨a,0,none⟩=false/\w.frozen? ⟨a,1,none⟩=false/\w.frozen? ⟨a,2,none⟩=false/\w.frozen? ⟨a,3,none⟩=false)/\w.cell? ⟨a,0,none⟩=some x/\w.cell? ⟨a,1,none⟩=some y/\w.cell? ⟨a,2,none⟩=some z/\w.cell? ⟨a,3,none⟩=some u:=⟨⟨h.frozen 0,h.frozen 1,h.frozen 2,h.frozen 3⟩,h.cell 0,h.cell 1,h.cell 2,h.cell 3⟩
structure CM (w v:World)(b:Nat)(cs:List Value):Prop where
 x:Ya v w.heap.size [S0,S0,S0,S0] 80
 y:Ya v (w.heap.size+1) cs 80
 g:w.grownBy v<|some b
 lt:b<w.heap.size
theorem CM.call{v v':World}(h:CM w v b cs)(a:v.grownBy v'<|some b):CM w v' b cs:=
 have:=h.lt;⟨h.x.grown a<|by intro e;injection e with e;omega,h.y.grown a<|by intro e;injection e with e;omega,Zi h.g a,h.lt⟩
theorem CM.set{v:World}(h:CM w v b cs)(i:Nat)(u:Value):CM w (v.setCell ⟨w.heap.size+1,i,none⟩ u) b<|cs.set i u:=
 ⟨h.x.other (by show w.heap.size≠w.heap.size+1;omega) u,h.y.setk i u,Zn h.g (.inr<|by show w.heap.size<=w.heap.size+1;omega) u,h.lt⟩
theorem CM.self{v:World}(_:CM w v b cs)(i:Nat)(u:Value):v.grownBy (v.setCell ⟨w.heap.size+1,i,none⟩ u)<|some<|w.heap.size+1:=Zn (Z2 _ _) (.inl C) _
theorem CM.bad{α:Type}{V:World->α->Value->Prop}{Y:Value->Prop}{v:World}{c0 c1 c2 c3 val err:Value}{r:X9 α}(h:CM w v b [c0,c1,c2,c3])(a:YF V Y v b s ca r val err)(c:r=.error x)(d:TR (bl s)=.error x)(i:Nat)(e:X5<|.agg #[c0,c1,c2,c3]):
 YF Xy X5 (v.setCell ⟨w.heap.size+1,i,none⟩ S0) b s ca (TR<|bl s) (.agg #[c0,c1,c2,c3]) err:=
 YF.kept (a.km c d e) (h.self i _) h.y N N λ_ k=>k.ju h.y (h.self i _) N N N N N N
theorem Nm{v:World}{q:X9 Yb}{p0 p1 p2 p3:Value}{a:Act}
 (d:∀W:World,W.cell? ⟨w.heap.size,0,none⟩=some p0->W.cell? ⟨w.heap.size,1,none⟩=some p1->W.cell? ⟨w.heap.size,2,none⟩=some p2->W.cell? ⟨w.heap.size,3,none⟩=some p3->(results fn a.tmps).run prog W=.ok (.tuple #[.agg #[p0,p1,p2,p3],err]) W)
 (hd:a.defers=[])(h:CM w v b cs)(f:YF Xy X5 v b s ca q (.agg #[p0,p1,p2,p3]) err):
 bodyPost prog fn (λe c=>∃v err,e=.returned (.tuple #[v,err])/\Hid (YF Xy X5 c b s ca q v err)/\w.grownBy c (some b)) .ret a<|Wj v w.heap.size p0 p1 p2 p3:=by
 obtain⟨_,s0,s1,s2,s3⟩:=(LQ h.x (x:=p0) (y:=p1) (z:=p2) (u:=p3)).four;have e:=MC v w.heap.size p0 p1 p2 p3;exact YQ (d _ s0 s1 s2 s3) hd ⟨_,_,C,f.kept e h.x N N λ_ k=>k.ju h.x e N N N N N N,hZ h.g<|Yj _⟩
theorem kQ(s:BA)(b:Nat)(A:Nat->Addr)(m:Int)(w0 w:World)(hG:Ground w0 A m b)(hs:s.size<=maxLen)(h0:BW w0 w)(hr:YH w b s 0):
 CP 79 #[Vp b] w λe w'=>∃v err,e=.returned (.tuple #[v,err])/\Hid (YF Xy X5 w' b s (A 8) (TR<|bl s) v err)/\w.grownBy w' (some b):=by
 have U:=hr.lt;have D:=I hG;have V:=I hs;have H0:=I h0;have c2:=I hr;go_enter func79,ntmps79;go_wp2_with fail;refine Zv λW hW=>?_;have b3:Below _ w W:=hW▸Yc.alloc Sm _;have HM:Hid<|CM w W b _:=I ⟨hW▸(Yc.block _ Sm).trans YO,by
  rw[hW];have:=Go.Deep.blk_alloc_new (w.alloc<|.cells #[S0,S0,S0,S0] 80)<|.cells #[S0,S0,S0,S0] 80;rwa [Go.Deep.nblk_alloc]at this,ZB b3,U⟩;have c3:=I<|c2.below b3;refine(kP s b W c3 (D.code<|Uz H0 HM.g D.b) D.ng V).mono ?_;rintro e Q ⟨err,rfl,c,c4⟩;have H1:=I<|HM.call c4;cases ht:R4 (bl s)with
 |error x=>
  obtain⟨fa,rfl⟩:=c.jn ht;have T:=I<|YF.km (V':=Xy) c ht (vD ht) X5.zero;have f:=H1.x.four;have d:=H1.y.four;go_wp2;exact Nm (λW s0 s1 s2 s3=>by simp[results,results79,go_sem,s0,s1,s2,s3]) C H1 T
 |ok x=>
  obtain⟨b0,c5⟩:=vF ht;obtain⟨rfl,_,b4⟩:=c.ok ht;have c6:Hid<|YH Q b s 1:=by rw[c5]at b4;exact b4
  have b5:=I b0;have c7:1<=s.size:=by
   rcases Sg 0 s.size with h|h
   .exact h
   .rw[Qr (l:=bl s)<|by rw[Zb];omega]at b0;cases b0
  have d6:=H1.y.lt;go_wp2;go_loopw [17] (λi wr=>∃k:Nat,k<=4/\i=E k/\1+2*k<=s.size/\Hid (YH wr b s<|1+2*k)/\Hid (Ya wr Q.heap.size (L5 (bl s) k) 271)/\Hid (CM w wr b [S0,S0,S0,S0]))
   (λi _=>4-(intOf i).toNat);case atStart=>
   have hB:∀o,Below _ Q _:=λo=>(Ym _ _).alloc (Yj _) o;exact⟨0,Yr _,C,c7,I<|c6.below<|hB _,I YO,I<|H1.call<|ZB<|hB _⟩
  case round=>
   obtain⟨k,hk,rfl,b1,a4,a5,Hr⟩:=hrel;by_cases c8:k<4
   .have d7:(k:Int)<4:=X;go_wp2_with fail;refine(LM s _ 2 b _ _ a4 (D.code<|Uz H0 Hr.g D.b) b1 V X).mono ?_;rintro e z ⟨v,err,rfl,c,j⟩;have H2:=I<|Hr.call j;have a6:=I<|a5.grown j<|by intro e;injection e with e;have:=U;omega
    clear j a4 a5 Hr;cases S:Z8 (bl s) (1+2*k) 2 with
    |error x=>
     obtain⟨fa,rfl⟩:=c.jn S;obtain⟨_,_,rfl,_⟩:=c.err S;have T:=I<|YF.km (V':=Xy) (r':=TR _) c S (by unfold TR;rw[rS b5 c8 S]) X5.zero;have f:=H2.x.four;have d:=H2.y.four;clear c S;go_wp2;exact Nm (λW s0 s1 s2 s3=>by simp[results,results79,go_sem,s0,s1,s2,s3]) C H2 T
    |ok x=>
     obtain⟨n,q⟩:=x;obtain⟨rfl,rfl,G⟩:=c.ok S;obtain⟨a7,a8,a9,b6⟩:=LS.Zdd S;simp only at a7 a8 a9 b6 G;have b7:Hid<|YH z b s<|1+2*(k+1):=by rw[a9]at G;exact G
     have c1:1+2*(k+1)<=s.size:=by rw[Zb]at a7;omega
     have c9:=I a8;have k0:=a6.cell k;have kf:=a6.frozen k;have d0:Hid<|Ya (z.setCell ⟨Q.heap.size,k,none⟩<|E n) Q.heap.size (L5 (bl s)<|k+1) 271:=by
      have:=a6.setk k<|E n;rw[c9]at this⊢;rcases(X:k=0∨k=1∨k=2∨k=3)with rfl|rfl|rfl|rfl<;>exact this
     have d1:=I<|b7.other (p:=⟨Q.heap.size,k,none⟩) (by show b≠Q.heap.size;omega)<|E n;have d2:Hid<|CM w (z.setCell ⟨Q.heap.size,k,none⟩<|E n) b _:=I ⟨H2.x.other (by show w.heap.size≠Q.heap.size;omega) _,H2.y.other (by show w.heap.size+1≠Q.heap.size;omega) _,Zn H2.g (.inr<|by show w.heap.size<=Q.heap.size;omega) _,U⟩;have d3:∃u,z.cell? ⟨Q.heap.size,k,none⟩=some u:=by
      rw[k0];rcases(X:k=0∨k=1∨k=2∨k=3)with rfl|rfl|rfl|rfl<;>exact⟨_,C⟩
     obtain⟨u,Z⟩:=d3;clear c S G a7 a8 a9 b6 k0 b7 H2 a6;go_wp2;go_roundw;case rel=>exact⟨k+1,X,by go_num,c1,d1,d0,d2⟩
     case measure=>simp[intOf];omega
   .obtain rfl:k=4:=X;have b2:Hid<|Ya _ _ [.int _<|Yp<|Y6 _ 1 2,.int _<|Yp<|Y6 _ 3 2,.int _<|Yp<|Y6 _ 5 2,.int _<|Yp<|Y6 _ 7 2] _:=a5;have S:∀i,Yp (Y6 (bl s) i 2)<65536:=λi=>PS (n:=2)<|by unfold Y6;rw[Xw];omega
    have d8:=S 1;have a7:=S 3;have a8:=S 5;have a9:=S 7;have B:Hid<|TR _=match Yo (Vx _) 9 (Yp _)with
     |.error e=>.error e
     |.ok _=>match Yo (pickAt _) _<|Yp _ with
      |.error e=>.error e
      |.ok _=>match Yo (groupAt _) _<|Yp _ with
       |.error e=>.error e
       |.ok _=>match Yo (WM _) _<|Yp _ with
        |.error e=>.error e
        |.ok _=>.ok _:=I<|by unfold TR;rw[rQ b5<|by rw[Zb];omega]
    generalize Yp (Y6 (bl s) 1 2)=N0 at*;generalize Yp (Y6 (bl s) 3 2)=N1 at*;generalize Yp (Y6 (bl s) 5 2)=N2 at*;generalize Yp (Y6 (bl s) 7 2)=N3 at*;clear a5 S;have b8:Hid<|YH _ b s 9:=a4;clear a4;have kk0:=b2.cell;go_wp2_with fail;refine(mJ s 9 b (Uz H0 Hr.g D.b) D.b b8 b1 X (ke D V) λp x h _=>by have:=GC h;rwa [Zb]at this).mono ?_;rintro e z ⟨v,err,rfl,c,j⟩;have a:=I<|Hr.call j;have M:=I<|b2.grown j<|by intro e;injection e with e;have:=U;omega
    clear j kk0 b8 b2 Hr;cases r:Yo (Vx<|bl s) 9 N0 with
    |error x=>
     obtain⟨fa,rfl⟩:=c.jn r;obtain⟨_,_,rfl,_⟩:=c.err r;have T:=I<|a.bad c r (by rw[B,r]) 0 X5.mk;have J:=I<|a.set 0 S0;have f:=a.x.four;have d:=a.y.four;clear c r B;go_wp2;exact Nm (λW s0 s1 s2 s3=>by simp[results,results79,go_sem,s0,s1,s2,s3]) C J T
    |ok x=>
     obtain⟨l0,q0⟩:=x;obtain⟨rfl,R,G⟩:=c.ok r;obtain⟨a0,e0,rfl⟩:=Q7.shape R;have b9:=Nx (λp x h=>by have:=GC h;rwa [Zb]at this) b1 r;replace B:Hid<|TR (bl s)=match Yo (pickAt<|bl s) q0 N1 with
      |.error e=>.error e
      |.ok y1=>match Yo (groupAt<|bl s) y1.2 N2 with
       |.error e=>.error e
       |.ok z2=>match Yo (WM<|bl s) z2.2 N3 with
        |.error e=>.error e
        |.ok u3=>.ok (⟨l0,y1.1,z2.1,u3.1⟩,u3.2):=I<|by rw[B,r]
     have K:=I R;have L:=I G;simp only at K L;have F:=a.self 0<|.slice a0 l0.length e0;have H:=I<|K.ju a.y F N;have t:=I<|L.other (p:=⟨w.heap.size+1,0,none⟩) (by show b≠w.heap.size+1;omega)<|.slice a0 l0.length e0;have J:=I<|a.set 0<|.slice a0 l0.length e0;have O:=I<|M.other (p:=⟨w.heap.size+1,0,none⟩) (by show Q.heap.size≠w.heap.size+1;omega)<|.slice a0 l0.length e0;have d:=a.y.four;have kk:=M.cell 1;simp only[Yf]at kk;clear c r R G F K L;go_wp2_with fail;refine Zv λu Z=>?_;rw[<-Z]at t J O H;clear Z a M d kk;refine(oW s b u (Uz H0 J.g D.b) D.b t b9 X (gO s b A m D V) λp x h _=>by have:=GT h;rwa [Zb]at this).mono ?_;rintro e w3 ⟨v,err,rfl,c,j⟩;have a:=I<|J.call j;have M:=I<|O.grown j<|by intro e;injection e with e;have:=U;omega
     replace H:=I<|H.ju t.out j N;clear j t O J;cases r:Yo (pickAt<|bl s) q0 N1 with
     |error x=>
      obtain⟨fa,rfl⟩:=c.jn r;obtain⟨_,_,rfl,_⟩:=c.err r;have T:=I<|a.bad c r (by rw[B,r]) 1 X5.mk;have J:=I<|a.set 1 S0;have f:=a.x.four;have d:=a.y.four;clear c r B;go_wp2;exact Nm (λW s0 s1 s2 s3=>by simp[results,results79,go_sem,s0,s1,s2,s3]) C J T
     |ok x=>
      obtain⟨l1,q1⟩:=x;obtain⟨rfl,R,G⟩:=c.ok r;obtain⟨a1,e1,rfl⟩:=Pd.shape R;have c0:=Nx (λp x h=>by have:=GT h;rwa [Zb]at this) b9 r;replace B:Hid<|TR (bl s)=match Yo (groupAt<|bl s) q1 N2 with
       |.error e=>.error e
       |.ok z2=>match Yo (WM<|bl s) z2.2 N3 with
        |.error e=>.error e
        |.ok u3=>.ok (⟨l0,l1,z2.1,u3.1⟩,u3.2):=I<|by rw[B,r]
      have K:=I R;have L:=I G;simp only at K L;have F:=a.self 1<|.slice a1 l1.length e1;have H:=I<|H.ju a.y F N;have P:=I<|K.ju a.y F N N;have t:=I<|L.other (p:=⟨w.heap.size+1,1,none⟩) (by show b≠w.heap.size+1;omega)<|.slice a1 l1.length e1;have J:=I<|a.set 1<|.slice a1 l1.length e1;have O:=I<|M.other (p:=⟨w.heap.size+1,1,none⟩) (by show Q.heap.size≠w.heap.size+1;omega)<|.slice a1 l1.length e1;have d:=a.y.four;have kk:=M.cell 2;simp only[Yf]at kk;clear c r R G F K L;go_wp2_with fail;refine Zv λu Z=>?_;rw[<-Z]at t J O H P;clear Z a M d kk;refine(mF s b u (Uz H0 J.g D.b) D.b t c0 X (gK s b A m D V) λp x h _=>by have:=H9 h;rwa [Zb]at this).mono ?_;rintro e w4 ⟨v,err,rfl,c,j⟩;have a:=I<|J.call j;have M:=I<|O.grown j<|by intro e;injection e with e;have:=U;omega
      replace H:=I<|H.ju t.out j N;replace P:=I<|P.ju t.out j N N;clear j t O J;cases r:Yo (groupAt<|bl s) q1 N2 with
      |error x=>
       obtain⟨fa,rfl⟩:=c.jn r;obtain⟨_,_,rfl,_⟩:=c.err r;have T:=I<|a.bad c r (by rw[B,r]) 2 X5.mk;have J:=I<|a.set 2 S0;have f:=a.x.four;have d:=a.y.four;clear c r B;go_wp2;exact Nm (λW s0 s1 s2 s3=>by simp[results,results79,go_sem,s0,s1,s2,s3]) C J T
      |ok x=>
       obtain⟨l2,q2⟩:=x;obtain⟨rfl,R,G⟩:=c.ok r;obtain⟨a2,e2,rfl⟩:=Q9.shape R;have d4:=Nx (λp x h=>by have:=H9 h;rwa [Zb]at this) c0 r;replace B:Hid<|TR (bl s)=match Yo (WM<|bl s) q2 N3 with
        |.error e=>.error e
        |.ok u3=>.ok (⟨l0,l1,l2,u3.1⟩,u3.2):=I<|by rw[B,r]
       have K:=I R;have L:=I G;simp only at K L;have F:=a.self 2<|.slice a2 l2.length e2;have H:=I<|H.ju a.y F N;have P:=I<|P.ju a.y F N N;have Y:=I<|K.ju a.y F N N;have t:=I<|L.other (p:=⟨w.heap.size+1,2,none⟩) (by show b≠w.heap.size+1;omega)<|.slice a2 l2.length e2;have J:=I<|a.set 2<|.slice a2 l2.length e2;have O:=I<|M.other (p:=⟨w.heap.size+1,2,none⟩) (by show Q.heap.size≠w.heap.size+1;omega)<|.slice a2 l2.length e2;have d:=a.y.four;have kk:=M.cell;clear c r R G F K L;go_wp2_with fail;refine Zv λu Z=>?_;rw[<-Z]at t J O H P Y;clear Z a M d kk;refine(mH s b u (Uz H0 J.g D.b) D.b t d4 X (kg D V) λp x h _=>by have:=(I9 h).1;rwa [Zb]at this).mono ?_;rintro e w5 ⟨v,err,rfl,c,j⟩;have a:=I<|J.call j;have M:=I<|O.grown j<|by intro e;injection e with e;have:=U;omega
       replace H:=I<|H.ju t.out j N;replace P:=I<|P.ju t.out j N N;replace Y:=I<|Y.ju t.out j N N;clear j t O J;cases r:Yo (WM<|bl s) q2 N3 with
       |error x=>
        obtain⟨fa,rfl⟩:=c.jn r;obtain⟨_,_,rfl,_⟩:=c.err r;have T:=I<|a.bad c r (by rw[B,r]) 3 X5.mk;have J:=I<|a.set 3 S0;have f:=a.x.four;have d:=a.y.four;clear c r B;go_wp2;exact Nm (λW s0 s1 s2 s3=>by simp[results,results79,go_sem,s0,s1,s2,s3]) C J T
       |ok x=>
        obtain⟨l3,q3⟩:=x;obtain⟨rfl,R,G⟩:=c.ok r;obtain⟨a3,e3,rfl⟩:=UN.shape R;replace B:Hid<|TR (bl s)=.ok (⟨l0,l1,l2,l3⟩,q3):=I<|by rw[B,r]
        have K:=I R;have L:=I G;simp only at K L;have F:=a.self 3<|.slice a3 l3.length e3;have H:=I<|H.ju a.y F N;have P:=I<|P.ju a.y F N N;have Y:=I<|Y.ju a.y F N N;have d5:=I<|K.ju a.y F N;have t:=I<|L.other (p:=⟨w.heap.size+1,3,none⟩) (by show b≠w.heap.size+1;omega)<|.slice a3 l3.length e3;have J:=I<|a.set 3<|.slice a3 l3.length e3;have f:=a.x.four;have d:=a.y.four;have T:Hid<|YF Xy X5 _ b s (A 8) _ _ _:=I<|YF.mkOk B ⟨C,⟨_,_,_,_,C,H,P,Y,d5⟩,t⟩;clear c r R G F K L B;go_wp2;exact Nm (λW s0 s1 s2 s3=>by simp[results,results79,go_sem,s0,s1,s2,s3]) C J T
def UL(w:World)(A:Nat->Addr)(r:Except (Nat×Nat) Yb)(v err:Value):Prop:=match r with
 |.ok c=>err=.nilIface/\Xy w c v
 |.error x=>v=.agg #[.slice none 0 0,.slice none 0 0,.slice none 0 0,.slice none 0 0]/\((x.1=9/\ZF w err x.2 (A 8))∨(x=(10,0)/\err=.iface 469 (.pointer<|some<|A 9)))
theorem UL.mkOk{r:Except (Nat×Nat) Yb}{c:Yb}(a:r=.ok c)(h:err=.nilIface/\Xy w c v):UL w A r v err:=by subst a;exact h
theorem UL.ku{r:Except (Nat×Nat) Yb}(a:r=.error x)(h:v=.agg #[S0,S0,S0,S0]/\((x.1=9/\ZF w err x.2 (A 8))∨(x=(10,0)/\err=.iface 469 (.pointer<|some<|A 9)))):UL w A r v err:=by subst a;exact h
theorem Nc(h:BW w0 w)(c:w0.heap.size<=a)(x y z u:Value):BW w0<|Wj w a x y z u:=
 (((h.setCell (p:=⟨a,0,none⟩) c _).setCell (p:=⟨a,1,none⟩) c _).setCell (p:=⟨a,2,none⟩) c _).setCell (p:=⟨a,3,none⟩) c _
theorem Xy.shape{c:Yb}(h:Xy w c v):∃(a0 a1 a2 a3:Option Addr)(n0 n1 n2 n3 c0 c1 c2 c3:Nat),v=.agg #[.slice a0 n0 c0,.slice a1 n1 c1,.slice a2 n2 c2,.slice a3 n3 c3]:=by
 obtain⟨cv,pv,gv,iv,rfl,h⟩:=h;obtain⟨a0,c0,rfl⟩:=h.cs.shape;obtain⟨a1,c1,rfl⟩:=h.ps.shape;obtain⟨a2,c2,rfl⟩:=h.gs.shape;obtain⟨a3,c3,rfl⟩:=h.is.shape;exact⟨_,_,_,_,_,_,_,_,_,_,_,_,C⟩
theorem Xy.below{l:Yb}(h:Xy w l v)(a:BW w w'):Xy w' l v:=by
 obtain⟨cv,pv,gv,iv,e,h⟩:=h;refine⟨cv,pv,gv,iv,e,Ze h.cs a,?_,?_,Ze h.is a⟩
 .obtain⟨xs,c,d,f⟩:=h.ps;exact⟨xs,Ze c a,d,λx g=>(f x g).below a⟩
 .obtain⟨xs,c,d,f⟩:=h.gs;exact⟨xs,Ze c a,d,λx g=>(f x g).below a⟩
theorem ZF.ju{p:Int}{a:Addr}(h:ZF w v p a){t:TypeId}(d:Ya w b c t)(e:w.grownBy w'<|some b)(f:t≠96):ZF w' v p a:=h.grown e d f
theorem wV{l:LB}{x:Yb×Nat}(h:TR l=.ok x):x.2<=l.length:=by
 unfold TR at h;cases a:US l with
 |error e=>rw[a]at h;cases h
 |ok n=>
  rw[a]at h;have i:9<=l.length:=by
   unfold US at a;split at a
   .cases a
   .split at a
    .cases a
    .omega
  simp only at h;cases c:Yo (Vx l) 9 n.1 with
  |error e=>rw[c]at h;cases h
  |ok cs=>
   rw[c]at h;simp only at h;have g1:=Nx (n:=l.length) (λp x h=>GC h) i c;cases d:Yo (pickAt l) cs.2 n.2.1 with
   |error e=>rw[d]at h;cases h
   |ok ps=>
    rw[d]at h;simp only at h;have g2:=Nx (n:=l.length) (λp x h=>GT h) g1 d;cases f:Yo (groupAt l) ps.2 n.2.2.1 with
    |error e=>rw[f]at h;cases h
    |ok gs=>
     rw[f]at h;simp only at h;have g3:=Nx (n:=l.length) (λp x h=>H9 h) g2 f;cases g:Yo (WM l) gs.2 n.2.2.2 with
     |error e=>rw[g]at h;cases h
     |ok is=>
      rw[g]at h;injection h with h;subst h;exact Nx (n:=l.length) (λp x h=>(I9 h).1) g3 g
theorem ik(s:BA)(A:Nat->Addr)(m:Int)(w:World)(Q:YC w A m)(g:Vw w)(hB:20<=w.heap.size)(hs:s.size<=maxLen):
 CP 39 #[.string s] w λe w'=>∃v err,e=.returned (.tuple #[v,err])/\Hid (UL w' A (Wt<|bl s) v err)/\BW w w':=by
 have h:Hid<|Ground w A m<|w.heap.size+1:=I ⟨Q,g,hB,X⟩;have b4:=I hs;have d3:=hs;unfold maxLen at d3;clear Q g hB hs;go_enter func39,ntmps39;go_wp2_with fail;refine Zv λW hW=>?_;have b5:BW w W:=by rw[hW];exact Yc.alloc Sm _
 have b6:Hid<|Ya W w.heap.size [S0,S0,S0,S0] 80:=I<|by
  rw[hW];exact(Yc.block _ Sm).trans YO
 have b7:Hid<|YH W (w.heap.size+1) s 0:=I<|by
  rw[hW];have:=Go.Deep.blk_alloc_new (w.alloc<|.cells #[S0,S0,S0,S0] 80)<|.cells #[.string s,E 0] 186;rwa [Go.Deep.nblk_alloc]at this
 have S:=I b5;clear hW b5;refine(kQ s (w.heap.size+1) A m w W h.out b4.out S.out b7.out).mono ?_;rintro e J ⟨v,err,rfl,i,T⟩;have p:Hid<|BW w J:=I<|Uz S.out T h.b;have f:=I<|b6.grown T<|by intro e;injection e with e;omega
 clear T b6 b7 S;cases t:TR (bl s)with
 |error x=>
  obtain⟨fa,rfl⟩:=i.jn t;obtain⟨B,D,⟨a0,a1,a2,a3,n0,n1,n2,n3,e0,e1,e2,e3,rfl⟩,_⟩:=i.err t;have o:Hid<|Wt (bl s)=.error x:=I<|by rw[DR,t]
  have U:=I D;have V:=I B;have d1:=f.lt;clear i t B D;have f0:=f.frozen;have c0:=f.cell;go_wp2;change bodyPost _ _ _ _ _<|(Wj J w.heap.size S0 S0 S0 S0).alloc<|.cells #[.slice a0 n0 e0,.slice a1 n1 e1,.slice a2 n2 e2,.slice a3 n3 e3] 80;have st:=(LQ f.out (x:=S0) (y:=S0) (z:=S0) (u:=S0)).below<|(Ym _ _).alloc (Yj _)<|.cells #[.slice a0 n0 e0,.slice a1 n1 e1,.slice a2 n2 e2,.slice a3 n3 e3] 80;have s0:=st.cell 0;have s1:=st.cell 1;have s2:=st.cell 2;have s3:=st.cell 3;simp only[Yf]at s0 s1 s2 s3;have Y:=I<|(Nc p.out (Yj _) S0 S0 S0 S0).alloc (Nc p.out (Yj _) S0 S0 S0 S0).size<|.cells #[.slice a0 n0 e0,.slice a1 n1 e1,.slice a2 n2 e2,.slice a3 n3 e3] 80;have d4:=I<|(U.ju f.out (MC J w.heap.size S0 S0 S0 S0) N).below<|(Ym _ _).alloc (Yj _)<|.cells #[.slice a0 n0 e0,.slice a1 n1 e1,.slice a2 n2 e2,.slice a3 n3 e3] 80;generalize(Wj J w.heap.size S0 S0 S0 S0).alloc (.cells #[.slice a0 n0 e0,.slice a1 n1 e1,.slice a2 n2 e2,.slice a3 n3 e3] 80)=WX at*;exact YQ (v:=.tuple #[.agg #[S0,S0,S0,S0],.iface 92<|Vp fa]) (by simp[results,results39,go_sem,s0,s1,s2,s3]) C ⟨_,_,C,I<|UL.ku o.out ⟨C,Or.inl ⟨V.out,d4.out⟩⟩,Y.out⟩
 |ok x=>
  obtain⟨c,q⟩:=x;obtain⟨rfl,K,F⟩:=i.ok t;obtain⟨a0,a1,a2,a3,n0,n1,n2,n3,e0,e1,e2,e3,rfl⟩:=K.shape;have hq:=wV t;simp only at hq F K;rw[Zb]at hq;have b8:=I F;have b9:=I K;have l:Hid<|Wt (bl s)=if(bl s).length<q+4 then .error (9,(bl s).length)else if q+4<(bl s).length then .error (9,q+4)else
   if Yp ((bl s).drop q)≠XK ((bl s).take q)then .error (10,0)else .ok c:=I<|by rw[DR,t]
  have rc:=F.cell 1;simp only[Yf]at rc;have d1:=f.lt;have e7:=F.lt;clear i t F K;go_wp2_with fail;refine Zv λW2 Z=>?_;have G:BW J W2:=by rw[Z];exact Yc
  have a4:Hid<|BW w W2:=I<|p.trans<|G.mono p.size;have c4:=I<|f.below G;have a5:=I<|b8.below G;have c5:Hid<|Ya W2 J.heap.size [.slice a0 n0 e0,.slice a1 n1 e1,.slice a2 n2 e2,.slice a3 n3 e3] 80:=I<|by rw[Z];exact YO
  have a6:=I<|b9.below G;clear Z G rc f p b8 b9;refine(LM s q 4 (w.heap.size+1) _ W2 a5.out (h.code a4.out) hq b4.out X).mono ?_;rintro e w3 ⟨v,err,rfl,i,H⟩;have j:Hid<|BW w w3:=I<|Uz a4.out H h.b;have a:=I<|c4.grown H<|by intro e;injection e with e;omega
  have c6:=I<|c5.grown H<|by intro e;injection e with e;omega
  have d2:=I<|a6.ju a5.out H N N N N N N;have e5:=a.lt;have e6:=c6.lt;clear H c4 c5 a6 a5 a4;have f0:=a.frozen;have c0:=a.cell 0;have c1:=a.cell 1;have c2:=a.cell 2;have c3:=a.cell 3;simp only[Yf]at c0 c1 c2 c3;cases d:Z8 (bl s) q 4 with
  |error x=>
   obtain⟨fa,rfl⟩:=i.jn d;obtain⟨B,D,rfl,_⟩:=i.err d;have a7:x=(9,(bl s).length)/\(bl s).length<q+4:=by
    unfold Z8 at d;cases g:VJ (bl s) q 4 with
    |ok y=>rw[g]at d;cases d
    |error y=>
     rw[g]at d;injection d with d;unfold VJ at g;split at g
     .injection g with g;exact⟨by rw[<-d,<-g],by assumption⟩
     .cases g
   have o:Hid<|Wt (bl s)=.error x:=I<|by rw[l.out,Ye a7.2,a7.1]
   have U:=I D;have V:=I B;clear i d B D a7 l;go_wp2;exact NQ (r:=.tuple #[.agg #[S0,S0,S0,S0],.iface 92<|Vp fa]) (λW s0 s1 s2 s3=>by simp[results,results39,go_sem,s0,s1,s2,s3]) C a.out ⟨_,_,C,I<|UL.ku o.out ⟨C,Or.inl ⟨V.out,U.ju a.out (MC w3 w.heap.size S0 S0 S0 S0) N⟩⟩,Nc j.out (Yj _) S0 S0 S0 S0⟩
  |ok x=>
   obtain⟨n,q2⟩:=x;obtain⟨rfl,rfl,L⟩:=i.ok d;obtain⟨c7,a8,M,a9⟩:=LS.Zdd d;simp only at c7 a8 M a9 L;have a9:n<4294967296:=a9;rw[Zb]at c7;have e8:=I L;have c8:=I a8;have rc:=L.cell;have e9:=I M;have b0:q2=q+4:=M;clear i d a8 M L;by_cases f1:q2<s.size
   .have o:Hid<|Wt (bl s)=.error (9,q2):=I<|by rw[l.out,Yd<|by rw[Zb];omega,Ye<|by rw[Zb];omega,b0]
    have d5:(q2:Int)<s.size:=X;clear l b0;go_wp2_with fail;refine(No _<|h.code j.out).mono ?_;rintro e w4 ⟨v,rfl,Q,b1⟩;have U:=Q;have d6:Hid<|BW w w4:=I<|j.trans<|b1.mono j.size;have O:=I<|a.below b1;obtain⟨fa,rfl⟩:=ZF.shape Q.out;clear b1 a f0 c0 c1 c2 c3 rc Q;have f0:=O.frozen;have c0:=O.cell;go_wp2;exact NQ (r:=.tuple #[.agg #[S0,S0,S0,S0],.iface 92<|Vp fa]) (λW s0 s1 s2 s3=>by simp[results,results39,go_sem,s0,s1,s2,s3]) C O.out ⟨_,_,C,I<|UL.ku o.out ⟨C,Or.inl ⟨C,U.ju O.out (MC w4 w.heap.size S0 S0 S0 S0) N⟩⟩,Nc d6.out (Yj _) S0 S0 S0 S0⟩
   .have d5:¬(q2:Int)<s.size:=X;have f2:q+4=s.size:=X;have P:bl (s.extract 0 q)=(bl s).take q:=by rw[WL];rfl
    have b2:Y6 (bl s) q 4=(bl s).drop q:=by unfold Y6;exact Wm<|by rw[Ur,Zb];omega
    have hQ:=FH<|(bl s).take q;have k:Hid<|Wt (bl s)=if n≠XK ((bl s).take q)then .error (10,0)else .ok c:=I<|by rw[l.out,Yd<|by rw[Zb];omega,Yd<|by rw[Zb];omega,c8.out,b2]
    have c9:(s.extract 0 q).size<=maxLen:=by unfold maxLen;rw[V5];omega
    obtain⟨SQ,b3⟩:∃SQ,SQ=XK ((bl s).take q):=⟨_,C⟩;have d0:Hid<|∀W',CP 82 #[.string<|s.extract 0 q] W' λe w'=>e=.returned (.int .u32 SQ)/\w'=W':=I λW'=>by rw[b3,<-P];exact kK (s.extract 0 q) W' c9
    rw[<-b3]at k hQ;have d7:=I<|h.v.below j.out;have gs:w3.cell? ⟨9,0,none⟩=some (.iface 469<|.pointer<|some<|A 9):=d7.sent _ N;clear l b2 P b3 c8 c9 b0;by_cases he:n=SQ
    .subst he;have o:Hid<|Wt (bl s)=.ok c:=I<|by rw[k.out,Yd Sm]
     have d8:(((n:Int)%4294967296) !=(n:Int))=false:=by rw[Int.emod_eq_of_lt X X];simp
     have y0:=c6.cell;clear k gs;go_wp2_with(go_at_call 82;refine(d0.out _).mono ?_;rintro e R ⟨rfl,rfl⟩);exact NQ (r:=.tuple #[.agg #[.slice a0 n0 e0,.slice a1 n1 e1,.slice a2 n2 e2,.slice a3 n3 e3],.nilIface]) (λW s0 s1 s2 s3=>by simp[results,results39,go_sem,s0,s1,s2,s3]) C a.out ⟨_,_,C,I<|UL.mkOk o.out ⟨C,d2.ju a.out (MC R w.heap.size (.slice a0 n0 e0) (.slice a1 n1 e1) (.slice a2 n2 e2)<|.slice a3 n3 e3) N N N N N N⟩,Nc j.out (Yj _) (.slice a0 n0 e0) (.slice a1 n1 e1) (.slice a2 n2 e2)<|.slice a3 n3 e3⟩
    .have o:Hid<|Wt (bl s)=.error (10,0):=I<|by rw[k.out,Ye he]
     have d8:(((n:Int)%4294967296) !=(SQ:Int))=true:=by rw[Int.emod_eq_of_lt X X,Vg];omega
     clear k;go_wp2_with(go_at_call 82;refine(d0.out _).mono ?_;rintro e R ⟨rfl,rfl⟩);have f3:=h.n;have d9:Hid<|Ya R.drew w.heap.size [S0,S0,S0,S0] 80:=I<|a.below<|(Ym _ _).drew;have e4:Hid<|BW w R.drew:=I<|j.drew;have h9:¬w.heap.size=9:=X;have f4:¬9=w.heap.size:=X;go_region;all_goals
      go_wp2;change bodyPost _ _ _ _ _<|Wj R.drew w.heap.size S0 S0 S0 S0;have st:=LQ d9.out (x:=S0) (y:=S0) (z:=S0) (u:=S0);have s0:=st.cell 0;have s1:=st.cell 1;have s2:=st.cell 2;have s3:=st.cell 3;simp only[Yf]at s0 s1 s2 s3;have Y:=I<|Nc e4.out (Yj _) S0 S0 S0 S0;generalize Wj R.drew w.heap.size S0 S0 S0 S0=WX at*;exact YQ (v:=.tuple #[.agg #[S0,S0,S0,S0],.iface 469<|.pointer<|some<|A 9]) (by simp[results,results39,go_sem,s0,s1,s2,s3]) C ⟨_,_,C,I<|UL.ku o.out ⟨C,Or.inr ⟨C,C⟩⟩,Y.out⟩
abbrev YW (w:World)(nb:Nat)(a:Ah):Prop:=Ya w nb (Xn a) 294
theorem YW.cells{a:Ah}(h:YW w nb a):w.cell? ⟨nb,0,none⟩=some (.bool a.kj)/\w.cell? ⟨nb,1,none⟩=some (.bool a.kw)/\w.cell? ⟨nb,2,none⟩=some (E a.jy.length):=
 ⟨(h.cell 0).trans<|Tx a 0 N,(h.cell 1).trans<|Tx a 1 N,(h.cell 2).trans<|Tx a 2 N⟩
theorem YW.jy{a:Ah}(h:YW w nb a)(j:Nat)(c:j<64):w.cell? ⟨nb,3+j,none⟩=some (.int .u8 ((a.jy.reverse.getD j 0:Nat):Int)):=(h.cell _).trans<|GJ a j c
theorem YW.slot{a:Ah}(h:YW w nb a)(j:Nat)(c:j<16):w.cell? ⟨nb,67+j,none⟩=some (.int .u8 ((a.jx.getD j 0:Nat):Int)):=(h.cell _).trans<|GI a j c
def UB(k:Nat)(a:Ah):Option Ah:=if k=0∨a.jy.length=64 then none else some {a with jy:=k::a.jy}
theorem OC (k:Nat)(w:World):CP 162 #[.int .u8 k] w λe u=>e=.returned (.bool<|ZO k)/\u=w:=by
 by_cases a:k=1
 .subst a;go_enter func162,ntmps162;go_wp2;go_ret;exact⟨C,C⟩
 · by_cases c:k=2
   .subst c;go_enter func162,ntmps162;go_wp2;go_ret;exact⟨C,C⟩
   · have d:Hid<|ZO k=false:=I<|by unfold ZO;simp[a,c]
     have e1:((k:Int)==1)=false:=by rw[YB];omega
     have e2:((k:Int)==2)=false:=by rw[YB];omega
     go_enter func162,ntmps162;go_wp2;go_ret;exact⟨VY d.symm,C⟩
theorem ME(nb:Nat)(a:Ah)(k:Nat)(w:World)(h:YW w nb a)(o:a.jy.length<=64):
 CP 159 #[Vp nb,.int .u8 k] w λe u=>e=.returned (.bool (UB k a).isSome)/\Hid (∀a',UB k a=some a'->YW u nb a')/\w.grownBy u (some nb):=by
 obtain⟨c0,c1,c2⟩:=h.cells;have H:=I h;by_cases j:k=0
 .subst j;have c:Hid<|UB 0 a=none:=I<|Ye<|.inl C;clear h c0 c1;go_enter func159,ntmps159;go_wp2;go_ret;exact⟨by rw[c];rfl,I (λa' e=>by rw[c]at e;cases e),Z2 _ _⟩
 .have m:((k:Int)==0)=false:=by rw[YB];omega
  by_cases d:a.jy.length=64
  .have c:Hid<|UB k a=none:=I<|Ye<|.inr d;rw[d]at c2;clear h c0 c1;go_enter func159,ntmps159;go_wp2;go_ret;exact⟨by rw[c];rfl,I (λa' e=>by rw[c]at e;cases e),Z2 _ _⟩
  .have g:Hid<|UB k a=some _:=I<|Yd X;have f:a.jy.length<64:=X;have q:((a.jy.length:Int)==64)=false:=by rw[YB];omega
   have d0:=h.jy _ f;have f0:=h.frozen<|3+a.jy.length;have f2:=h.frozen 2;have i:Hid<|YW ((w.drew.setCell ⟨nb,3+a.jy.length,none⟩<|.int .u8 k).setCell ⟨nb,2,none⟩<|E<|(a.jy.length+1:Nat)) nb {a with jy:=k::a.jy}:=by
    have:=((h.below<|(Ym _ _).drew).setk (3+a.jy.length)<|.int .u8 k).setk 2<|E<|(a.jy.length+1:Nat);rw[fo a k f]at this;exact this
   have l:Hid<|w.grownBy ((w.drew.setCell ⟨nb,3+a.jy.length,none⟩<|.int .u8 k).setCell ⟨nb,2,none⟩<|E ((a.jy.length+1:Nat):Int))<|some nb:=I<|Zn (p:=⟨nb,2,none⟩) (Zn (p:=⟨nb,3+a.jy.length,none⟩) (TV<|Z2 _ _) (Or.inl C) _) (Or.inl C) _;generalize r:a.jy.length=n at*;clear h c0 c1;go_enter func159,ntmps159;go_wp2;go_region;all_goals
    go_wp2;go_ret;exact⟨by rw[g];rfl,I λa' e=>by rw[g]at e;injection e with e;subst e;exact i,l⟩
theorem MG(nb:Nat)(a:Ah)(w:World)(h:YW w nb a)(l:a.jy.length<=64):
 CP 161 #[Vp nb] w λe u=>e=.returned (.int .u8 ((a.jy.headD 0:Nat):Int))/\Hid (YW u nb {a with jy:=a.jy.tail})/\w.grownBy u (some nb):=by
 obtain⟨c0,c1,c2⟩:=h.cells;have H:=I h;cases c:a.jy with
 |nil=>
  rw[c]at c2;have m:Hid<|YW w nb {a with jy:=([]).tail}:=by
   have:{a with jy:=([]).tail}=a:=by rw[<-show a.jy=([]).tail from c]
   rw[this];exact h
  clear h c0 c1 c;go_enter func161,ntmps161;go_wp2;go_ret;exact⟨C,m,Z2 _ _⟩
 |cons k r=>
  have d:a.jy.length=r.length+1:=by rw[c];rfl
  have o:r.length<64:=X;have d0:w.cell? ⟨nb,3+r.length,none⟩=some (.int .u8<|k):=by
   have:=h.jy _ o;rw[c]at this;rw[this];simp
  have f0:=h.frozen<|3+r.length;have f2:=h.frozen 2;rw[d]at c2;have t:(((r.length:Int)+1)==0)=false:=by rw[YB];omega
  have f:Hid<|∀W:World,(∀j,W.heap[j]?=w.heap[j]?)->YW _ _ _:=I λW q=>by
   have s:YW W _ a:=(q _).trans h;have g:=(s.setk 2<|E<|r.length).setk (3+r.length)<|.int .u8 0;have i:=fm a l X;rw[d,Ip]at i;rw[i,show a.jy.tail=r by rw[c];rfl]at g;exact g
  rw[show(k::r).headD 0=k from C,show(k::r).tail=r from C];generalize r.length=n at*;clear h c0 c1 c d H;go_enter func161,ntmps161;go_wp2;go_region;all_goals
   go_wp2;go_region;all_goals
    go_wp2;go_ret;exact⟨C,I<|f.out w λ_=>C,Zn (p:=⟨nb,3+n,none⟩) (TV<|TV<|Zn (p:=⟨nb,2,none⟩) (Z2 _ _) (Or.inl C) _) (Or.inl C) _⟩
theorem uY :CP 123 #[.agg #[E op,E arg]] w λe u=>e=.returned (.bool<|TC op)/\BW w u:=by
 by_cases a:op=9
 .subst a;go_enter func123,ntmps123;go_wp2;go_ret;exact⟨C,Yh⟩
 · by_cases c:op=10
   .subst c;go_enter func123,ntmps123;go_wp2;go_ret;exact⟨C,Yh⟩
   · have d:Hid<|TC op=false:=I<|by unfold TC;simp[a,c]
     have e1:((op:Int)==9)=false:=by rw[YB];omega
     have e2:((op:Int)==10)=false:=by rw[YB];omega
     go_enter func123,ntmps123;go_wp2;go_ret;exact⟨VY d.symm,Yh⟩
theorem rM (op arg:Nat)(w:World):CP 126 #[.agg #[E op,E arg]] w λe u=>e=.returned (.bool<|Pj op)/\BW w u:=by
 by_cases a:op=12
 .subst a;go_enter func126,ntmps126;go_wp2;go_ret;exact⟨C,Yh⟩
 · by_cases c:op=13
   .subst c;go_enter func126,ntmps126;go_wp2;go_ret;exact⟨C,Yh⟩
   · have d:Hid<|Pj op=false:=I<|by unfold Pj;simp[a,c]
     have e1:((op:Int)==12)=false:=by rw[YB];omega
     have e2:((op:Int)==13)=false:=by rw[YB];omega
     go_enter func126,ntmps126;go_wp2;go_ret;exact⟨VY d.symm,Yh⟩
theorem Dn (nm:BA)(la:Option Addr)(ln lc n:Nat)(w:World):CP 137 #[.agg #[.string nm,.slice la ln lc,E n]] w λe u=>e=.returned (.bool<|decide<|0<n)/\BW w u:=by
 by_cases h:0<n
 .have a:(0:Int)<n:=X;go_enter func137,ntmps137;go_wp2;go_ret;exact⟨VY<|by simp[h],Yh⟩
 .have a:¬(0:Int)<n:=X;go_enter func137,ntmps137;go_wp2;go_ret;exact⟨VY C,Yh⟩
theorem oI {nm:BA}{ln lc n:Nat}(nd:Nd)(w:World):CP 160 #[.agg #[.string nm,.slice la ln lc,E n]] w λe u=>e=.returned (.int .u8 (VF (nd,n):Nat))/\BW w u:=by
 go_enter func160,ntmps160;go_wp2_with fail;refine Zv λW i=>?_;have a:Below _ w W:=i▸Yc;have c:=I a;clear i a;refine(Dn _ _ _ _ n W).mono ?_;rintro e j ⟨rfl,d⟩;have f:=I<|c.trans<|d.mono c.size;clear d;by_cases h:0<n
 · have hd:decide (0<n)=true:=by simp[h]
   have g:Hid<|VF (nd,n)=3:=I<|Ye h;rw[hd];clear hd h;go_wp2;go_ret;exact⟨by rw[g];rfl,f⟩
 · have hd:decide (0<n)=false:=by simp[h]
   have g:Hid<|VF (nd,n)=2:=I<|Yd h;rw[hd];clear hd h;go_wp2;go_ret;exact⟨by rw[g];rfl,f⟩
theorem ir(c:k≠0)(a:Ah):(UB k a).isSome=(Z4 k a.jy a.jx).isSome/\∀st sl,Z4 k a.jy a.jx=some (st,sl)->UB k a=some {a with jy:=st,jx:=sl}:=by
 unfold UB Z4;by_cases h:a.jy.length=64
 .rw[Ye<|.inr h,Ye h];exact⟨C,λ_ _ e=>by cases e⟩
 .rw[Yd<|by rintro(e|e)<;>contradiction,Yd h];exact⟨C,λst sl e=>by injection e with e;injection e with e1 e2;subst e1;subst e2;rfl⟩
theorem iu(a:Ah):UB 0 a=none:=Ye<|.inl C
def Vv(w w':World)(nb:Nat)(a:Ah)(r:Option<|List Nat×List Nat)(ok:Bool):Prop:=ok=r.isSome/\(∀st sl,r=some (st,sl)->YW w' nb {a with jy:=st,jx:=sl})/\w.grownBy w' (some nb)
theorem Vv.put{a a1:Ah}(f:k≠0)(g:r=Z4 k a1.jy a1.jx)(c:a1.kj=a.kj/\a1.kw=a.kw)(h:∀a',UB k a1=some a'->YW w' nb a')(i:w.grownBy w'<|some nb):Vv w w' nb a r (UB k a1).isSome:=by
 have d:=ir f a1;subst g;refine⟨d.1,λst sl e=>?_,i⟩;have:=h _<|d.2 _ _ e;rw[c.1,c.2]at this;exact this
theorem Vv.no{a:Ah}(c:r=none)(d:w.grownBy w'<|some nb):Vv w w' nb a r false:=by
 subst c;exact⟨C,(λ_ _ e=>(by cases e)),d⟩
structure Qk (w:World)(nb:Nat)(a:Ah)(c:Yb)(op arg:Nat)(a0 a1 a2 a3:Option Addr)(n0 n1 n2 n3 e0 e1 e2 e3:Nat):Prop where
 st:YW w nb a
 cv:X6 w c (.slice a0 n0 e0) (.slice a1 n1 e1) (.slice a2 n2 e2)<|.slice a3 n3 e3
 rf:∃i,Zy c i (op,arg)=true
 ln:a.jy.length<=64
 sl:a.jx.length=16
 kd:∀k∈a.jy,k≠0
theorem F0(w:World)(a:Ah)(c:Yb)(h:Qk w nb a c 0 arg a0 a1 a2 a3 n0 n1 n2 n3 e0 e1 e2 e3):
 CP 122 #[Vp nb,.agg #[.slice a0 n0 e0,.slice a1 n1 e1,.slice a2 n2 e2,.slice a3 n3 e3],.agg #[E (0:Nat),E arg]] w λe u=>∃ok,e=.returned (.bool ok)/\Hid (Vv w u nb a (Zr c (0,arg) a.jy a.jx) ok):=by
 have f:=I h;have n:=h.st.lt;go_enter func122,ntmps122;go_wp2_with fail;refine Zv λW m=>?_;have d:Below _ w W:=m▸Yc.alloc Sm _;have g:=I<|f.st.below d;have i:Hid<|w.grownBy W<|some nb:=I<|ZB d;refine(ME _ a 1 W g f.ln).mono ?_;rintro e o ⟨rfl,j,k⟩;have l:=I<|Zi i k;go_wp2;go_ret;exact⟨_,C,I<|Vv.put N C ⟨C,C⟩ j l⟩
theorem Mn{K:Nat}{KI:Int}(w:World)(a:Ah)(c:Yb)(h:Qk w nb a c op arg a0 a1 a2 a3 n0 n1 n2 n3 e0 e1 e2 e3)(f:(K=3/\KI=3)/\op=2∨(K=2/\KI=2)/\(op=5∨op=6∨op=7∨op=8∨op=10)):
 CP 122 #[Vp nb,.agg #[.slice a0 n0 e0,.slice a1 n1 e1,.slice a2 n2 e2,.slice a3 n3 e3],.agg #[E op,E arg]] w λe u=>∃ok,e=.returned (.bool ok)/\Hid (Vv w u nb a (Zr c (op,arg) a.jy a.jx) ok):=by
 have o:(a.jy.headD 0=K/\Hid (Zr c (op,arg) a.jy a.jx=Z4 2 {a with jy:=a.jy.tail}.jy {a with jy:=a.jy.tail}.jx))∨(((a.jy.headD 0:Int)==KI)=false/\Hid (Zr c (op,arg) a.jy a.jx=none)):=by
  by_cases d:a.jy.headD 0=K
  .refine Or.inl ⟨d,?_⟩;cases i:a.jy with
   |nil=>rw[i]at d;rcases f with⟨⟨rfl,_⟩,_⟩|⟨⟨rfl,_⟩,_⟩<;>cases d
   |cons k r=>rw[i]at d;obtain rfl:=d;rcases f with⟨⟨e,_⟩,rfl⟩|⟨⟨e,_⟩,rfl|rfl|rfl|rfl|rfl⟩<;>(obtain rfl:k=_:=e;rfl)
  .refine Or.inr ⟨by rw[YB];omega,?_⟩;cases i:a.jy with
   |nil=>rcases f with⟨_,rfl⟩|⟨_,rfl|rfl|rfl|rfl|rfl⟩<;>rfl
   |cons k r=>rw[i]at d;rcases f with⟨⟨rfl,_⟩,rfl⟩|⟨⟨rfl,_⟩,rfl|rfl|rfl|rfl|rfl⟩<;>exact Yd d
 have m:=I h;have A:=h.st.lt;rcases f with⟨⟨rfl,rfl⟩,rfl⟩|⟨⟨rfl,rfl⟩,rfl|rfl|rfl|rfl|rfl⟩;all_goals
  go_enter func122,ntmps122;go_wp2_with fail;refine Zv λW x=>?_;have j:Below _ w W:=x▸Yc.alloc Sm _;have p:=I<|m.st.below j;have q:Hid<|w.grownBy W<|some nb:=I<|ZB j;refine(MG _ a W p m.ln).mono ?_;rintro e B ⟨rfl,s,g⟩;have l:=I<|Zi q g;rcases o with⟨d,n⟩|⟨d,n⟩
  .rw[d];go_wp2_with fail;refine(ME _ _ 2 _ s<|by have:=m.ln;simp;omega).mono ?_;rintro e z ⟨rfl,t,g⟩;have v:=I<|Zi l g;go_wp2;go_ret;exact⟨_,C,I<|Vv.put N n ⟨C,C⟩ t v⟩
  .generalize a.jy.headD 0=k0 at*;go_wp2;go_ret;exact⟨_,C,I<|Vv.no n l⟩
theorem F6(w:World)(a:Ah)(c:Yb)(h:Qk w nb a c 4 arg a0 a1 a2 a3 n0 n1 n2 n3 e0 e1 e2 e3):
 CP 122 #[Vp nb,.agg #[.slice a0 n0 e0,.slice a1 n1 e1,.slice a2 n2 e2,.slice a3 n3 e3],.agg #[E (4:Nat),E arg]] w λe u=>∃ok,e=.returned (.bool ok)/\Hid (Vv w u nb a (Zr c (4,arg) a.jy a.jx) ok):=by
 have n:=I h;have F:=h.st.lt;go_enter func122,ntmps122;go_wp2_with fail;refine Zv λW D=>?_;have l:Below _ w W:=D▸Yc.alloc Sm _;have p:=I<|n.st.below l;have q:Hid<|w.grownBy W<|some nb:=I<|ZB l;refine(MG _ a W p n.ln).mono ?_;rintro e G ⟨rfl,s,f⟩;have m:=I<|Zi q f;cases d:ZO<|a.jy.headD 0with
 |true=>
  have o:Hid<|Zr c (4,arg) a.jy a.jx=Z4 (a.jy.headD 0) {a with jy:=a.jy.tail}.jy {a with jy:=a.jy.tail}.jx:=by
   cases j:a.jy with
   |nil=>rw[j]at d;cases d
   |cons k r=>rw[j]at d;exact Ye d
  have t:a.jy.headD 0≠0:=by intro e;rw[e]at d;cases d
  have v:=I t;have g:=I λi=>by have:=OC (a.jy.headD 0) i;rwa [d]at this
  have x:=I λi h=>ME nb {a with jy:=a.jy.tail} (a.jy.headD 0) i h<|by have:=n.ln;simp;omega
  generalize a.jy.headD 0=k0 at*;go_wp2_with(go_at_call 162;refine YK (g.out _) ?_);refine(x _ s).mono ?_;rintro e z ⟨rfl,A,f⟩;have B:=I<|Zi m f;go_wp2;go_ret;exact⟨_,C,I<|Vv.put v o ⟨C,C⟩ A B⟩
 |false=>
  have o:Hid<|Zr c (4,arg) a.jy a.jx=none:=by
   cases j:a.jy with
   |nil=>rfl
   |cons k r=>rw[j]at d;exact Yd<|by show¬ZO k=true;rw[show ZO k=false from d];simp
  have g:=I λi=>by have:=OC (a.jy.headD 0) i;rwa [d]at this
  generalize a.jy.headD 0=k0 at*;go_wp2_with(go_at_call 162;refine YK (g.out _) ?_);go_ret;exact⟨_,C,I<|Vv.no o m⟩
theorem F7(w:World)(a:Ah)(c:Yb)(h:Qk w nb a c 9 arg a0 a1 a2 a3 n0 n1 n2 n3 e0 e1 e2 e3):
 CP 122 #[Vp nb,.agg #[.slice a0 n0 e0,.slice a1 n1 e1,.slice a2 n2 e2,.slice a3 n3 e3],.agg #[E (9:Nat),E arg]] w λe u=>∃ok,e=.returned (.bool ok)/\Hid (Vv w u nb a (Zr c (9,arg) a.jy a.jx) ok):=by
 have d:=I h;have g:=h.st.lt;go_enter func122,ntmps122;have f:Hid<|∀o1 o2,YW ((w.alloc o1).alloc o2) _ a:=I λo1 o2=>d.st.below<|Yc.alloc Sm _;go_wp2;go_ret;exact⟨_,C,I ⟨C,λst sl e=>by injection e with e;cases e;exact f _ _,Vh (Vh (Z2 _ _) _) _⟩⟩
theorem vZ(w:World)(a:Ah)(c:Yb)(h:Qk w nb a c 11 arg a0 a1 a2 a3 n0 n1 n2 n3 e0 e1 e2 e3):
 CP 122 #[Vp nb,.agg #[.slice a0 n0 e0,.slice a1 n1 e1,.slice a2 n2 e2,.slice a3 n3 e3],.agg #[E (11:Nat),E arg]] w λe u=>∃ok,e=.returned (.bool ok)/\Hid (Vv w u nb a (Zr c (11,arg) a.jy a.jx) ok):=by
 have g:=I h;have s:=h.st.lt;go_enter func122,ntmps122;go_wp2_with fail;refine Zv λW o=>?_;have d:Below _ w W:=o▸Yc.alloc Sm _;have i:=I<|g.st.below d;have j:Hid<|w.grownBy W<|some nb:=I<|ZB d;refine(MG _ a W i g.ln).mono ?_;rintro e p ⟨rfl,l,m⟩;have f:=I<|Zi j m;have t:Hid<|Vv w p nb a (Zr c (11,arg) a.jy a.jx)<|decide<|a.jy.headD 0≠0:=by
  cases n:a.jy with
  |nil=>exact Vv.no C f
  |cons k r=>
   have q:=g.kd k<|by rw[n];simp
   refine⟨by show decide (k≠0)=true;simp[q],λst sl e=>?_,f⟩;injection e with e;cases e;have:=l.out;rw[n]at this;exact this
 generalize a.jy.headD 0=k0 at*;go_wp2;go_ret;exact⟨_,C,I<|by rwa [show(((k0:Nat):Int) !=0)=decide (k0≠0)from by rw[Ud,Vg,Qs];omega]⟩

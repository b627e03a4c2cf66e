/- Parts. -/
import Derived.Test.YtkodhpilkaihjaaGreatDoorV18
set_option linter.all false
set_option maxRecDepth 100000
set_option maxHeartbeats 16000000
namespace Go.Proofs.YtkodhpilkaihjaaGreatDoor
open Go.RowKit LS Go.Proofs.Tryz
variable {ca:Addr}{s:BA}{fn:Func}{l:List (List (LB))}{c cs:List Value}{a b k nb:Nat}{A:Nat->Addr}{x:Nat×Nat}{r:Option (List Nat×List Nat)}{err u v y z:Value}{w w' w0:World}
def Z2(l:LB):RdR CodeQ:=match Zc8 l with
 | .error e=>.error e
 | .ok n => match many (ZbW l) 9 n.1 with
   | .error e=>.error e
   | .ok cs => match many (pickAt l) cs.2 n.2.1 with
     | .error e=>.error e
     | .ok ps => match many (groupAt l) ps.2 n.2.2.1 with
       | .error e=>.error e
       | .ok gs => match many (ZbN l) gs.2 n.2.2.2 with
         | .error e=>.error e
         | .ok is=>.ok (⟨cs.1,ps.1,gs.1,is.1⟩,is.2)
theorem ZoM(l:LB):Zb7 l=match Z2 l with
  | .error e=>.error e
  | .ok x => if l.length < x.2 + 4 then .error (9, l.length) else if x.2 + 4 < l.length then .error (9, x.2 + 4) else
    if back (l.drop x.2)≠sumQ (l.take x.2)then .error (10,0)else .ok x.1:=by
 unfold Zb7 Z2;cases Zc8 l with
 | error e=>rfl
 | ok n=>
  simp only;cases many (ZbW l) 9 n.1 with
  | error e=>rfl
  | ok cs=>
   simp only;cases many (pickAt l) cs.2 n.2.1 with
   | error e=>rfl
   | ok ps=>
    simp only;cases many (groupAt l) ps.2 n.2.2.1 with
    | error e=>rfl
    | ok gs=>
     simp only;cases many (ZbN l) gs.2 n.2.2.2 with
     | error e=>rfl
     | ok is=>rfl
structure CodeV (w:World) (c:CodeQ) (cv pv gv iv:Value):Prop where
 cs:Zef w c.jq cv
 ps:Zek w c.jv pv
 gs:Zeh w c.jk gv
 is:InsV w c.jz iv
def CodV(w:World)(c:CodeQ)(v:Value):Prop:=∃cv pv gv iv,v=.agg #[cv,pv,gv,iv]/\CodeV w c cv pv gv iv
def CodZ(v:Value):Prop:=∃(a0 a1 a2 a3:Option Addr) (n0 n1 n2 n3 c0 c1 c2 c3:Nat),v=.agg #[.slice a0 n0 c0,.slice a1 n1 c1,.slice a2 n2 c2,.slice a3 n3 c3]
theorem Zef.jw{l:List Int}(h:Zef w l v){t:TypeId}(a:BAt w b c t)(d:w.grownBy w' (some b))(e:t≠3):Zef w' l v:=ZgZ h a d e
theorem InsV.jw{l:List (Nat×Nat)}(h:InsV w l v){t:TypeId}(a:BAt w b c t)(d:w.grownBy w' (some b))(e:t≠184):InsV w' l v:=ZgZ h a d e
theorem Zek.jw{l:List (Nd×Nat)}(h:Zek w l v){t:TypeId}(a:BAt w b c t)(d:w.grownBy w' (some b))(f:t≠294)(e:t≠379):Zek w' l v:=by
 obtain⟨xs,g,i,j⟩:=h;exact⟨xs,ZgZ g a d f,i,fun x k=>(j x k).jw a d e⟩
theorem Zeh.jw(h:Zeh w l v){t:TypeId}(a:BAt w b c t)(d:w.grownBy w' (some b))(f:t≠90)(e:t≠9):Zeh w' l v:=by
 obtain⟨xs,g,i,j⟩:=h;exact⟨xs,ZgZ g a d f,i,fun x k=>(j x k).jw a d e⟩
theorem Zef.shape{l:List Int}(h:Zef w l v):∃a c,v=.slice a l.length c:=Zl h
theorem InsV.shape{l:List (Nat×Nat)}(h:InsV w l v):∃a c,v=.slice a l.length c:=Zl h
theorem Zek.shape{l:List (Nd×Nat)}(h:Zek w l v):∃a c,v=.slice a l.length c:=by
 obtain⟨xs,b,d,_⟩:=h;obtain⟨a,c,e⟩:=Zl b;exact⟨a,c,by rw[e,<-d,Yak]⟩
theorem Zeh.shape(h:Zeh w l v):∃a c,v=.slice a l.length c:=by
 obtain⟨xs,b,d,_⟩:=h;obtain⟨a,c,e⟩:=Zl b;exact⟨a,c,by rw[e,<-d,Yak]⟩
theorem CodV.jw{l:CodeQ}(h:CodV w l v){t:TypeId}(a:BAt w b c t)(d:w.grownBy w' (some b))(f:t≠3)(g:t≠294)(i:t≠379)(j:t≠90)(k:t≠9)(m:t≠184):CodV w' l v:=by
 obtain⟨cv,pv,gv,iv,e,h⟩:=h;exact⟨cv,pv,gv,iv,e,h.cs.jw a d f,h.ps.jw a d g i,h.gs.jw a d j k,h.is.jw a d m⟩
theorem BAt.setk{t:TypeId}(h:BAt w a c t)(i:Nat)(v:Value):BAt (w.setCell ⟨a,i,none⟩ v) a (c.set i v) t:=by
 unfold BAt at h ⊢;simp only[World.setCell,Ybn,h,if_true,Ybf];show some (Obj.cells (c.toArray.setIfInBounds i v) t (0,0))=_;rw[Yc4]
def set4(w:World)(a:Nat)(x y z u:Value):World:=(((w.setCell ⟨a,0,none⟩ x).setCell ⟨a,1,none⟩ y).setCell ⟨a,2,none⟩ z).setCell ⟨a,3,none⟩ u
theorem Zgs{p0 p1 p2 p3 x:Value}{t:TypeId}(h:BAt w a [p0,p1,p2,p3] t):BAt (set4 w a x y z u) a [x,y,z,u] t:=
 (((h.setk 0 x).setk 1 y).setk 2 z).setk 3 u
theorem ret4{P:Program}{R:Ending->World->Prop}{a:Act}{v:World}{p q d e x r:Value}{t:TypeId}(c:∀W:World,W.cell? ⟨b,0,none⟩=some x->W.cell? ⟨b,1,none⟩=some y->W.cell? ⟨b,2,none⟩=some z->W.cell? ⟨b,3,none⟩=some u->(results fn a.tmps).run P W=.ok r W)(hd:a.defers=[])(f:BAt v b [p,q,d,e] t)(g:R (.returned r) (set4 v b x y z u)):bodyPost P fn R .ret a (set4 v b x y z u):=by
 have s:=Zgs f (x:=x) (y:=y) (z:=z) (u:=u);exact bodyPost_ret (c _ (s.cell 0) (s.cell 1) (s.cell 2) (s.cell 3)) hd g
theorem Zg8(w:World)(a:Nat)(x y z u:Value):w.grownBy (set4 w a x y z u) (some a):=ZA (ZA (ZA (ZA (ZbM w (some a)) (Or.inl rfl) _) (Or.inl rfl) _) (Or.inl rfl) _) (Or.inl rfl) _
theorem ZB1(h:w0.grownBy w (some b))(c:w0.heap.size<=a){x:Value}:w0.grownBy (set4 w a x y z u) (some b):=
 ZA (ZA (ZA (ZA h (Or.inr c) _) (Or.inr c) _) (Or.inr c) _) (Or.inr c) _
def cntB(l:LB)(k j:Nat):Value:=Vi ((if j<k then back (sub l (1+2*j) 2)else 0:Nat):Int)
def cntL(l:LB)(k:Nat):List Value:=[cntB l k 0,cntB l k 1,cntB l k 2,cntB l k 3]
theorem Zgf{α:Type}{one:Nat->RdR α}{p n:Nat}(c:∀p x,one p=.ok x->x.2<=n)(d:p<=n):∀ {k:Nat} {xs:List α} {q:Nat},many one p k=.ok (xs,q)->q<=n
 | 0,xs,q,h=>by injection h with h;injection h with _ h2;omega
 | k + 1, xs, q, h => by
   unfold many at h;cases b:many one p k with
   | error e=>rw[b]at h;cases h
   | ok x=>
     rw[b]at h;simp only at h;cases a:one x.2 with
     | error e=>rw[a]at h;cases h
     | ok y=>
       rw[a]at h;injection h with h;injection h with _ h2;have:=c _ _ a;omega
theorem ZwW{l:LB}(h:l.head?=some 103)(c:k<4)(b:Zbr l (1+2*k) 2=.error x):Zc8 l=.error x:=by
 unfold Zbr at b;cases a:Zcg l (1+2*k) 2 with
 | ok y=>rw[a]at b;cases b
 | error e=>
  rw[a]at b;injection b with b;subst b;unfold Zcg at a;split at a
  ·injection a with a;subst a;unfold Zc8;rw[if_neg (by rw[h];simp),if_pos Om]
  ·cases a
theorem ZwU{l:LB}(h:l.head?=some 103)(a:9<=l.length):Zc8 l=.ok (back (sub l 1 2),back (sub l 3 2),back (sub l 5 2),back (sub l 7 2)):=by
 unfold Zc8;rw[if_neg (by rw[h];simp),if_neg Om]
theorem Zt0{l:LB}{x:Unit×Nat}(h:ZdI l=.ok x):l.head?=some 103/\x.2=1:=by
 unfold ZdI at h;by_cases e:l.head?=some 103
 ·rw[if_neg (by rw[e];simp)]at h;injection h with h;subst h;exact⟨e,rfl⟩
 ·rw[if_pos e]at h;cases h
theorem ZtZ{l:LB}(h:ZdI l=.error x):Z2 l=.error x:=by
 unfold ZdI at h;by_cases e:l.head?=some 103
 ·rw[if_neg (by rw[e];simp)]at h;cases h
 ·rw[if_pos e]at h;injection h with h;subst h;unfold Z2 Zc8;rw[if_pos e]
theorem CodZ.zero:CodZ (.agg #[S0,S0,S0,S0]):=⟨none,none,none,none,0,0,0,0,0,0,0,0,rfl⟩
theorem CodZ.mk{a0 a1 a2 a3:Option Addr}{n0 n1 n2 n3 c0 c1 c2 c3:Nat} : CodZ (.agg #[.slice a0 n0 c0,.slice a1 n1 c1,.slice a2 n2 c2,.slice a3 n3 c3]):=⟨_,_,_,_,_,_,_,_,_,_,_,_,rfl⟩
theorem BAt.four{x:Value}{t:TypeId}(h:BAt w a [x,y,z,u] t):(w.frozen? ⟨a,0,none⟩=false/\w.frozen? ⟨a,1,none⟩=false/\w.frozen? ⟨a,2,none⟩=false/\w.frozen? ⟨a,3,none⟩=false)/\w.cell? ⟨a,0,none⟩=some x/\w.cell? ⟨a,1,none⟩=some y/\w.cell? ⟨a,2,none⟩=some z/\w.cell? ⟨a,3,none⟩=some u:=⟨⟨h.frozen 0,h.frozen 1,h.frozen 2,h.frozen 3⟩,h.cell 0,h.cell 1,h.cell 2,h.cell 3⟩
structure CM (w v:World) (b:Nat) (cs:List Value):Prop where
 x:BAt v w.heap.size [S0,S0,S0,S0] 58
 y:BAt v (w.heap.size+1) cs 58
 g:w.grownBy v (some b)
 lt:b<w.heap.size
theorem CM.call{v v':World}(h:CM w v b cs)(a:v.grownBy v' (some b)):CM w v' b cs:=
 have:=h.lt
 ⟨h.x.grown a (by intro e;injection e with e;omega),h.y.grown a (by intro e;injection e with e;omega),Zj h.g a,h.lt⟩
theorem CM.set{v:World}(h:CM w v b cs)(i:Nat)(u:Value):CM w (v.setCell ⟨w.heap.size+1,i,none⟩ u) b (cs.set i u):=
 ⟨h.x.other (by show w.heap.size≠w.heap.size+1;omega) u,h.y.setk i u,ZA h.g (Or.inr (by show w.heap.size<=w.heap.size+1;omega)) u,h.lt⟩
theorem CM.self{v:World}(_:CM w v b cs)(i:Nat)(u:Value):v.grownBy (v.setCell ⟨w.heap.size+1,i,none⟩ u) (some (w.heap.size+1)):=ZA (ZbM _ _) (Or.inl rfl) _
theorem CM.bad{α:Type}{V:World->α->Value->Prop}{Y:Value->Prop}{v:World}{c0 c1 c2 c3 val err:Value}{r:RdR α}(h:CM w v b [c0,c1,c2,c3])(a:RdC V Y v b s ca r val err)(c:r=.error x)(d:Z2 (bl s)=.error x)(i:Nat)(e:CodZ (.agg #[c0,c1,c2,c3])) :
  RdC CodV CodZ (v.setCell ⟨w.heap.size+1,i,none⟩ S0) b s ca (Z2 (bl s)) (.agg #[c0,c1,c2,c3]) err:=
 RdC.kept (V:=CodV) (a.kw c d e) (h.self i _) h.y Dc Dc (fun _ k=>k.jw h.y (h.self i _) Dc Dc Dc Dc Dc Dc)
theorem ZfV{v:World}{q:RdR CodeQ}{p0 p1 p2 p3:Value}{a:Act}
  (d:∀W:World,W.cell? ⟨w.heap.size,0,none⟩=some p0->W.cell? ⟨w.heap.size,1,none⟩=some p1->W.cell? ⟨w.heap.size,2,none⟩=some p2->W.cell? ⟨w.heap.size,3,none⟩=some p3->(results fn a.tmps).run prog W=.ok (.tuple #[.agg #[p0,p1,p2,p3],err]) W)
  (hd:a.defers=[]) (h:CM w v b cs) (f:RdC CodV CodZ v b s ca q (.agg #[p0,p1,p2,p3]) err) :
  bodyPost prog fn (fun e c=>∃v err,e=.returned (.tuple #[v,err])/\Hid (RdC CodV CodZ c b s ca q v err)/\w.grownBy c (some b)) .ret a (set4 v w.heap.size p0 p1 p2 p3):=by
 obtain⟨_,s0,s1,s2,s3⟩:=(Zgs h.x (x:=p0) (y:=p1) (z:=p2) (u:=p3)).four;have e:=Zg8 v w.heap.size p0 p1 p2 p3;exact bodyPost_ret (d _ s0 s1 s2 s3) hd ⟨_,_,rfl,f.kept e h.x Dc Dc (fun _ k=>k.jw h.x e Dc Dc Dc Dc Dc Dc),ZB1 h.g (Yac _)⟩
theorem ZBa(s:BA)(b:Nat)(A:Nat->Addr)(m:Int)(w0 w:World)(hG:Ground w0 A m b)(hs:s.size<=maxLen)(h0:BW w0 w)(hr:RdAt w b s 0) :
  CP 74 #[Vp b] w fun e w'=>∃v err,e=.returned (.tuple #[v,err])/\Hid (RdC CodV CodZ w' b s (A 8) (Z2 (bl s)) v err)/\w.grownBy w' (some b):=by
 have Q:=hr.lt;have C:=hid hG;have R:=hid hs;have H0:=hid h0;have c3:=hid hr;clear hr h0 hG hs;go_enter func74,ntmps74
 go_wp2_with fail
 refine Zm fun W hW=>?_;have a8:BW w W:=by rw[hW];exact Zbal.alloc (by simp) _
 have HM:Hid (CM w W b [S0,S0,S0,S0]):=hid ⟨by
  rw[hW];exact(Zbal.block _ (by simp)).trans (Go.Deep.blk_alloc_new _ _),by
  rw[hW];have:=Go.Deep.blk_alloc_new (w.alloc (.cells #[S0,S0,S0,S0] 58)) (.cells #[S0,S0,S0,S0] 58);rwa [Go.Deep.nblk_alloc]at this,Zw a8,Q⟩
 have b2:=hid (c3.below a8);clear hW a8;refine(ZA9 s b W b2.out (C.code (ZbV H0.out HM.g C.b)) C.ng R.out).mono ?_;rintro e J ⟨err,rfl,c,b3⟩;have H1:=hid (HM.call b3);clear b3 HM b2;cases U:ZdI (bl s)with
 | error x=>
  obtain⟨fa,rfl⟩:=c.jm U;have P:=hid (RdC.kw (V':=CodV) (Z':=CodZ) c.out U (ZtZ U) CodZ.zero);have f:=H1.x.four;have d:=H1.y.four;clear c U;go_wp2;exact ZfV (fun W s0 s1 s2 s3=>by simp[results,results74,go_sem,s0,s1,s2,s3]) rfl H1.out P.out
 | ok x=>
  obtain⟨X,b4⟩:=Zt0 U;obtain⟨rfl,_,a9⟩:=c.ok U;have b5:Hid (RdAt J b s 1):=hid (by rw[b4]at a9;exact a9);have b6:=hid X
  have c4:1<=s.size:=by
   rcases Yav 0 s.size with h|h
   ·exact h
   ·rw[Ya3 (l:=bl s) (by rw[Zd];omega)]at X;cases X
  clear c U a9 b4 X;have d3:=H1.y.lt;go_wp2
  go_loopw [17] (fun i wr => ∃ k : Nat, k <= 4 /\ i = Vi k /\ 1 + 2 * k <= s.size /\ Hid (RdAt wr b s (1 + 2 * k)) /\ Hid (BAt wr J.heap.size (cntL (bl s) k) 287) /\ Hid (CM w wr b [S0, S0, S0, S0]))
    (fun i _=>4 - (intOf i).toNat)
  case atStart=>
   have hB:∀o,BW J (J.alloc o):=fun o=>(Yaf _ _).alloc (Yac _) o;exact⟨0,Yag _,rfl,c4,hid (b5.below (hB _)),hid (Go.Deep.blk_alloc_new J _),hid (H1.call (Zw (hB _)))⟩
  case round=>
   obtain⟨k,hk,rfl,b0,Y,Z,Hr⟩:=hrel;clear b5 H1;by_cases c5:k<4
   ·have d4:(k:Int)<4:=by omega
    go_wp2_with fail
    refine(Zis s (1+2*k) 2 b _ wr Y.out (C.code (ZbV H0.out Hr.g C.b)) b0 R.out Om).mono ?_;rintro e z ⟨v,err,rfl,c,j⟩;have V:=hid (Hr.call j);have a4:=hid (Z.grown j (by intro e;injection e with e;have:=Q;omega));clear j Y Z Hr;cases O:Zbr (bl s) (1+2*k) 2 with
    | error x=>
     obtain⟨fa,rfl⟩:=c.jm O;obtain⟨_,_,rfl,_⟩:=c.err O;have P:=hid (RdC.kw (V':=CodV) (Z':=CodZ) (r':=Z2 (bl s)) c.out O (by unfold Z2;rw[ZwW b6.out c5 O]) CodZ.zero);have f:=V.x.four;have d:=V.y.four;clear c O;go_wp2;exact ZfV (fun W s0 s1 s2 s3=>by simp[results,results74,go_sem,s0,s1,s2,s3]) rfl V.out P.out
    | ok x=>
     obtain⟨n,q⟩:=x;obtain⟨rfl,rfl,E⟩:=c.ok O;obtain⟨a5,a6,a7,b7⟩:=Zev O;simp only at a5 a6 a7 b7 E;have b8:Hid (RdAt z b s (1+2*(k+1))):=hid (by rw[a7]at E;exact E);have c2:1+2*(k+1)<=s.size:=by rw[Zd]at a5;omega
     have c6:Hid (n=back (sub (bl s) (1+2*k) 2)):=hid a6;have k0:=a4.cell k;have kf:=a4.frozen k
     have c7:Hid (BAt (z.setCell ⟨J.heap.size,k,none⟩ (Vi n)) J.heap.size (cntL (bl s) (k+1)) 287):=hid (by
      have:=a4.setk k (Vi n);rw[c6.out]at this ⊢;rcases(by omega:k=0∨k=1∨k=2∨k=3)with rfl|rfl|rfl|rfl <;> exact this)
     have c8:=hid (b8.other (p:=⟨J.heap.size,k,none⟩) (by show b≠J.heap.size;omega) (Vi n));have c9:Hid (CM w (z.setCell ⟨J.heap.size,k,none⟩ (Vi n)) b [S0,S0,S0,S0]):=hid ⟨V.x.other (by show w.heap.size≠J.heap.size;omega) _,V.y.other (by show w.heap.size+1≠J.heap.size;omega) _,ZA V.g (Or.inr (by show w.heap.size<=J.heap.size;omega)) _,Q⟩
     have d0:∃u,z.cell? ⟨J.heap.size,k,none⟩=some u:=by
      rw[k0];rcases(by omega:k=0∨k=1∨k=2∨k=3)with rfl|rfl|rfl|rfl <;> exact⟨_,rfl⟩
     obtain⟨u,T⟩:=d0;clear c O E a5 a6 a7 b7 k0 b8 V a4;go_wp2
     go_roundw
     case rel=>exact⟨k+1,by omega,by go_num,c2,c8,c7,c9⟩
     case measure=>simp[intOf];omega
   ·obtain rfl:k=4:=by omega
    have b1:Hid (BAt wr J.heap.size [Vi (back (sub (bl s) 1 2)),Vi (back (sub (bl s) 3 2)),Vi (back (sub (bl s) 5 2)),Vi (back (sub (bl s) 7 2))] 287):=Z;have O:∀i,back (sub (bl s) i 2)<65536:=fun i=>ZhM (n:=2) (by unfold sub;rw[Ya7];omega);have d5:=O 1;have a5:=O 3;have a6:=O 5;have a7:=O 7
    have B:Hid (Z2 (bl s)=match many (ZbW (bl s)) 9 (back (sub (bl s) 1 2))with
     | .error e=>.error e
     | .ok cs => match many (pickAt (bl s)) cs.2 (back (sub (bl s) 3 2)) with
       | .error e=>.error e
       | .ok ps => match many (groupAt (bl s)) ps.2 (back (sub (bl s) 5 2)) with
         | .error e=>.error e
         | .ok gs => match many (ZbN (bl s)) gs.2 (back (sub (bl s) 7 2)) with
           | .error e=>.error e
           | .ok is=>.ok (⟨cs.1,ps.1,gs.1,is.1⟩,is.2)):=hid (by unfold Z2;rw[ZwU b6.out (by rw[Zd];omega)])
    generalize back (sub (bl s) 1 2)=N0 at *
    generalize back (sub (bl s) 3 2)=N1 at *
    generalize back (sub (bl s) 5 2)=N2 at *
    generalize back (sub (bl s) 7 2)=N3 at *
    clear Z O;have b9:Hid (RdAt wr b s 9):=Y;clear Y;have kk0:=b1.cell 0;simp only[Ycy]at kk0
    go_wp2_with fail
    refine(ZyS s 9 N0 b w0 wr (ZbV H0.out Hr.g C.b) C.b b9.out b0 Om (ZbW (bl s)) (ZzE C.out R.out) (fun p x h _=>by have:=Zle h;rwa [Zd]at this)).mono ?_;rintro e z ⟨v,err,rfl,c,j⟩;have a:=hid (Hr.call j);have K:=hid (b1.grown j (by intro e;injection e with e;have:=Q;omega));clear j kk0 b9 b1 Hr;cases r:many (ZbW (bl s)) 9 N0 with
    | error x=>
     obtain⟨fa,rfl⟩:=c.jm r;obtain⟨_,_,rfl,_⟩:=c.err r;have P:=hid (a.bad c.out r (by rw[B.out,r]) 0 CodZ.mk);have G:=hid (a.set 0 S0);have f:=a.x.four;have d:=a.y.four;clear c r B;go_wp2;exact ZfV (fun W s0 s1 s2 s3=>by simp[results,results74,go_sem,s0,s1,s2,s3]) rfl G.out P.out
    | ok x=>
     obtain⟨l0,q0⟩:=x;obtain⟨rfl,N,E⟩:=c.ok r;obtain⟨a0,e0,rfl⟩:=Zef.shape N;have c0:q0<=s.size:=Zgf (fun p x h=>by have:=Zle h;rwa [Zd]at this) b0 r
     replace B:Hid (Z2 (bl s)=match many (pickAt (bl s)) q0 N1 with
      | .error e=>.error e
      | .ok y1 => match many (groupAt (bl s)) y1.2 N2 with
        | .error e=>.error e
        | .ok z2 => match many (ZbN (bl s)) z2.2 N3 with
          | .error e=>.error e
          | .ok u3=>.ok (⟨l0,y1.1,z2.1,u3.1⟩,u3.2)):=hid (by rw[B.out,r])
     have H:=hid N;have I:=hid E;simp only at H I;have D:=a.self 0 (.slice a0 l0.length e0);have F:=hid (H.jw a.y D Dc);have t:=hid (I.other (p:=⟨w.heap.size+1,0,none⟩) (by show b≠w.heap.size+1;omega) (.slice a0 l0.length e0));have G:=hid (a.set 0 (.slice a0 l0.length e0));have L:=hid (K.other (p:=⟨w.heap.size+1,0,none⟩) (by show J.heap.size≠w.heap.size+1;omega) (.slice a0 l0.length e0));have d:=a.y.four;have kk:=K.cell 1;simp only[Zget]at kk;clear c r N E D H I
     go_wp2_with fail
     refine Zm fun u T=>?_;rw[<-T]at t G L F;clear T a K d kk;refine(ZyT s q0 N1 b w0 u (ZbV H0.out G.g C.b) C.b t.out c0 Om (pickAt (bl s)) (ZBz s b A m w0 C.out R.out) (fun p x h _=>by have:=ZmL h;rwa [Zd]at this)).mono ?_;rintro e w3 ⟨v,err,rfl,c,j⟩;have a:=hid (G.call j);have K:=hid (L.grown j (by intro e;injection e with e;have:=Q;omega));replace F:=hid (F.jw t.out j Dc);clear j t L G;cases r:many (pickAt (bl s)) q0 N1 with
     | error x=>
      obtain⟨fa,rfl⟩:=c.jm r;obtain⟨_,_,rfl,_⟩:=c.err r;have P:=hid (a.bad c.out r (by rw[B.out,r]) 1 CodZ.mk);have G:=hid (a.set 1 S0);have f:=a.x.four;have d:=a.y.four;clear c r B;go_wp2;exact ZfV (fun W s0 s1 s2 s3=>by simp[results,results74,go_sem,s0,s1,s2,s3]) rfl G.out P.out
     | ok x=>
      obtain⟨l1,q1⟩:=x;obtain⟨rfl,N,E⟩:=c.ok r;obtain⟨a1,e1,rfl⟩:=Zek.shape N;have c1:q1<=s.size:=Zgf (fun p x h=>by have:=ZmL h;rwa [Zd]at this) c0 r
      replace B:Hid (Z2 (bl s)=match many (groupAt (bl s)) q1 N2 with
       | .error e=>.error e
       | .ok z2 => match many (ZbN (bl s)) z2.2 N3 with
         | .error e=>.error e
         | .ok u3=>.ok (⟨l0,l1,z2.1,u3.1⟩,u3.2)):=hid (by rw[B.out,r])
      have H:=hid N;have I:=hid E;simp only at H I;have D:=a.self 1 (.slice a1 l1.length e1);have F:=hid (F.jw a.y D Dc);have M:=hid (H.jw a.y D Dc Dc);have t:=hid (I.other (p:=⟨w.heap.size+1,1,none⟩) (by show b≠w.heap.size+1;omega) (.slice a1 l1.length e1));have G:=hid (a.set 1 (.slice a1 l1.length e1));have L:=hid (K.other (p:=⟨w.heap.size+1,1,none⟩) (by show J.heap.size≠w.heap.size+1;omega) (.slice a1 l1.length e1));have d:=a.y.four;have kk:=K.cell 2;simp only[Zget]at kk;clear c r N E D H I
      go_wp2_with fail
      refine Zm fun u T=>?_;rw[<-T]at t G L F M;clear T a K d kk;refine(ZyQ s q1 N2 b w0 u (ZbV H0.out G.g C.b) C.b t.out c1 Om (groupAt (bl s)) (ZBx s b A m w0 C.out R.out) (fun p x h _=>by have:=ZlE h;rwa [Zd]at this)).mono ?_;rintro e w4 ⟨v,err,rfl,c,j⟩;have a:=hid (G.call j);have K:=hid (L.grown j (by intro e;injection e with e;have:=Q;omega));replace F:=hid (F.jw t.out j Dc);replace M:=hid (M.jw t.out j Dc Dc);clear j t L G;cases r:many (groupAt (bl s)) q1 N2 with
      | error x=>
       obtain⟨fa,rfl⟩:=c.jm r;obtain⟨_,_,rfl,_⟩:=c.err r;have P:=hid (a.bad c.out r (by rw[B.out,r]) 2 CodZ.mk);have G:=hid (a.set 2 S0);have f:=a.x.four;have d:=a.y.four;clear c r B;go_wp2;exact ZfV (fun W s0 s1 s2 s3=>by simp[results,results74,go_sem,s0,s1,s2,s3]) rfl G.out P.out
      | ok x=>
       obtain⟨l2,q2⟩:=x;obtain⟨rfl,N,E⟩:=c.ok r;obtain⟨a2,e2,rfl⟩:=Zeh.shape N;have d1:q2<=s.size:=Zgf (fun p x h=>by have:=ZlE h;rwa [Zd]at this) c1 r
       replace B:Hid (Z2 (bl s)=match many (ZbN (bl s)) q2 N3 with
        | .error e=>.error e
        | .ok u3=>.ok (⟨l0,l1,l2,u3.1⟩,u3.2)):=hid (by rw[B.out,r])
       have H:=hid N;have I:=hid E;simp only at H I;have D:=a.self 2 (.slice a2 l2.length e2);have F:=hid (F.jw a.y D Dc);have M:=hid (M.jw a.y D Dc Dc);have S:=hid (H.jw a.y D Dc Dc);have t:=hid (I.other (p:=⟨w.heap.size+1,2,none⟩) (by show b≠w.heap.size+1;omega) (.slice a2 l2.length e2));have G:=hid (a.set 2 (.slice a2 l2.length e2));have L:=hid (K.other (p:=⟨w.heap.size+1,2,none⟩) (by show J.heap.size≠w.heap.size+1;omega) (.slice a2 l2.length e2));have d:=a.y.four;have kk:=K.cell 3;simp only[Zget]at kk;clear c r N E D H I
       go_wp2_with fail
       refine Zm fun u T=>?_;rw[<-T]at t G L F M S;clear T a K d kk;refine(ZyR s q2 N3 b w0 u (ZbV H0.out G.g C.b) C.b t.out d1 Om (ZbN (bl s)) (ZzF C.out R.out) (fun p x h _=>by have:=(ZlQ h).1;rwa [Zd]at this)).mono ?_;rintro e w5 ⟨v,err,rfl,c,j⟩;have a:=hid (G.call j);have K:=hid (L.grown j (by intro e;injection e with e;have:=Q;omega));replace F:=hid (F.jw t.out j Dc);replace M:=hid (M.jw t.out j Dc Dc);replace S:=hid (S.jw t.out j Dc Dc);clear j t L G;cases r:many (ZbN (bl s)) q2 N3 with
       | error x=>
        obtain⟨fa,rfl⟩:=c.jm r;obtain⟨_,_,rfl,_⟩:=c.err r;have P:=hid (a.bad c.out r (by rw[B.out,r]) 3 CodZ.mk);have G:=hid (a.set 3 S0);have f:=a.x.four;have d:=a.y.four;clear c r B;go_wp2;exact ZfV (fun W s0 s1 s2 s3=>by simp[results,results74,go_sem,s0,s1,s2,s3]) rfl G.out P.out
       | ok x=>
        obtain⟨l3,q3⟩:=x;obtain⟨rfl,N,E⟩:=c.ok r;obtain⟨a3,e3,rfl⟩:=InsV.shape N;replace B:Hid (Z2 (bl s)=.ok (⟨l0,l1,l2,l3⟩,q3)):=hid (by rw[B.out,r]);have H:=hid N;have I:=hid E;simp only at H I;have D:=a.self 3 (.slice a3 l3.length e3);have F:=hid (F.jw a.y D Dc);have M:=hid (M.jw a.y D Dc Dc);have S:=hid (S.jw a.y D Dc Dc);have d2:=hid (H.jw a.y D Dc);have t:=hid (I.other (p:=⟨w.heap.size+1,3,none⟩) (by show b≠w.heap.size+1;omega) (.slice a3 l3.length e3));have G:=hid (a.set 3 (.slice a3 l3.length e3));have f:=a.x.four;have d:=a.y.four;have P:Hid (RdC CodV CodZ _ b s (A 8) (Z2 (bl s)) _ _):=hid (RdC.mkOk B.out ⟨rfl,⟨_,_,_,_,rfl,F.out,M.out,S.out,d2.out⟩,t.out⟩);clear c r N E D H I B;go_wp2;exact ZfV (fun W s0 s1 s2 s3=>by simp[results,results74,go_sem,s0,s1,s2,s3]) rfl G.out P.out
def DecC(w:World)(A:Nat->Addr)(r:Except (Nat×Nat) CodeQ)(v err:Value):Prop:=match r with
 | .ok c=>err=.nilIface/\CodV w c v
 | .error x=>v=.agg #[.slice none 0 0,.slice none 0 0,.slice none 0 0,.slice none 0 0]/\((x.1=9/\ZM w err x.2 (A 8))∨(x=(10,0)/\err=.iface 491 (.pointer (some (A 9)))))
theorem DecC.mkOk{r:Except (Nat×Nat) CodeQ}{c:CodeQ}(a:r=.ok c)(h:err=.nilIface/\CodV w c v):DecC w A r v err:=by subst a;exact h
theorem DecC.kj{r:Except (Nat×Nat) CodeQ}(a:r=.error x)(h:v=.agg #[S0,S0,S0,S0]/\((x.1=9/\ZM w err x.2 (A 8))∨(x=(10,0)/\err=.iface 491 (.pointer (some (A 9)))))):DecC w A r v err:=by subst a;exact h
theorem Zgt(h:BW w0 w)(b:w0.heap.size<=a)(x y z u:Value):BW w0 (set4 w a x y z u):=
 (((h.setCell (p:=⟨a,0,none⟩) b _).setCell (p:=⟨a,1,none⟩) b _).setCell (p:=⟨a,2,none⟩) b _).setCell (p:=⟨a,3,none⟩) b _
theorem CodV.shape{c:CodeQ}(h:CodV w c v):∃(a0 a1 a2 a3:Option Addr) (n0 n1 n2 n3 c0 c1 c2 c3:Nat),v=.agg #[.slice a0 n0 c0,.slice a1 n1 c1,.slice a2 n2 c2,.slice a3 n3 c3]:=by
 obtain⟨cv,pv,gv,iv,rfl,h⟩:=h;obtain⟨a0,c0,rfl⟩:=h.cs.shape;obtain⟨a1,c1,rfl⟩:=h.ps.shape;obtain⟨a2,c2,rfl⟩:=h.gs.shape;obtain⟨a3,c3,rfl⟩:=h.is.shape;exact⟨_,_,_,_,_,_,_,_,_,_,_,_,rfl⟩
theorem CodV.below{l:CodeQ}(h:CodV w l v)(a:BW w w'):CodV w' l v:=by
 obtain⟨cv,pv,gv,iv,e,h⟩:=h;refine⟨cv,pv,gv,iv,e,Zn h.cs a,?_,?_,Zn h.is a⟩
 ·obtain⟨xs,b,c,d⟩:=h.ps;exact⟨xs,Zn b a,c,fun x f=>(d x f).below a⟩
 ·obtain⟨xs,b,c,d⟩:=h.gs;exact⟨xs,Zn b a,c,fun x f=>(d x f).below a⟩
theorem ZM.jw{p:Int}{a:Addr}(h:ZM w v p a){t:TypeId}(d:BAt w b c t)(e:w.grownBy w' (some b))(f:t≠119):ZM w' v p a:=h.grown e d f
theorem Zud{l:LB}{x:CodeQ×Nat}(h:Z2 l=.ok x):x.2<=l.length:=by
 unfold Z2 at h;cases a:Zc8 l with
 | error e=>rw[a]at h;cases h
 | ok n=>
  rw[a]at h
  have g:9<=l.length:=by
   unfold Zc8 at a;split at a
   ·cases a
   ·split at a
    ·cases a
    ·omega
  simp only at h;cases b:many (ZbW l) 9 n.1 with
  | error e=>rw[b]at h;cases h
  | ok cs=>
   rw[b]at h;simp only at h;have g1:=Zgf (n:=l.length) (fun p x h=>Zle h) g b;cases c:many (pickAt l) cs.2 n.2.1 with
   | error e=>rw[c]at h;cases h
   | ok ps=>
    rw[c]at h;simp only at h;have g2:=Zgf (n:=l.length) (fun p x h=>ZmL h) g1 c;cases d:many (groupAt l) ps.2 n.2.2.1 with
    | error e=>rw[d]at h;cases h
    | ok gs=>
     rw[d]at h;simp only at h;have g3:=Zgf (n:=l.length) (fun p x h=>ZlE h) g2 d;cases f:many (ZbN l) gs.2 n.2.2.2 with
     | error e=>rw[f]at h;cases h
     | ok is=>
      rw[f]at h;injection h with h;subst h;exact Zgf (n:=l.length) (fun p x h=>(ZlQ h).1) g3 f
theorem ZAU(s:BA)(A:Nat->Addr)(m:Int)(w:World)(N:Vars w A m)(h:ZR w)(hB:20<=w.heap.size)(hs:s.size<=maxLen) :
  CP 38 #[.string s] w fun e w'=>∃v err,e=.returned (.tuple #[v,err])/\Hid (DecC w' A (Zb7 (bl s)) v err)/\BW w w':=by
 have i:Hid (Ground w A m (w.heap.size+1)):=hid ⟨N,h,hB,by omega⟩;have b0:=hid hs;have c8:=hs;unfold maxLen at c8;clear N h hB hs;go_enter func38,ntmps38
 go_wp2_with fail
 refine Zm fun W hW=>?_;have b1:BW w W:=by rw[hW];exact Zbal.alloc (by simp) _
 have b2:Hid (BAt W w.heap.size [S0,S0,S0,S0] 58):=hid (by
  rw[hW];exact(Zbal.block _ (by simp)).trans (Go.Deep.blk_alloc_new _ _))
 have b3:Hid (RdAt W (w.heap.size+1) s 0):=hid (by
  rw[hW];have:=Go.Deep.blk_alloc_new (w.alloc (.cells #[S0,S0,S0,S0] 58)) (.cells #[.string s,Vi 0] 178);rwa [Go.Deep.nblk_alloc]at this)
 have P:=hid b1;clear hW b1;refine(ZBa s (w.heap.size+1) A m w W i.out b0.out P.out b3.out).mono ?_;rintro e I ⟨v,err,rfl,j,Q⟩;have t:Hid (BW w I):=hid (ZbV P.out Q i.b);have d:=hid (b2.grown Q (by intro e;injection e with e;omega));clear Q b2 b3 P;cases B:Z2 (bl s)with
 | error x=>
  obtain⟨fa,rfl⟩:=j.jm B;obtain⟨C,D,⟨a0,a1,a2,a3,n0,n1,n2,n3,e0,e1,e2,e3,rfl⟩,_⟩:=j.err B;have p:Hid (Zb7 (bl s)=.error x):=hid (by rw[ZoM,B]);have R:=hid D;have S:=hid C;have c6:=d.lt;clear j B C D;have f0:=d.frozen 0;have f1:=d.frozen 1;have f2:=d.frozen 2;have f3:=d.frozen 3;have c0:=d.cell 0;have c1:=d.cell 1;have c2:=d.cell 2;have c3:=d.cell 3;simp only[Zget]at c0 c1 c2 c3;go_wp2;change bodyPost _ _ _ _ _ ((set4 I w.heap.size S0 S0 S0 S0).alloc (.cells #[.slice a0 n0 e0,.slice a1 n1 e1,.slice a2 n2 e2,.slice a3 n3 e3] 58));have st:=(Zgs d.out (x:=S0) (y:=S0) (z:=S0) (u:=S0)).below ((Yaf _ _).alloc (Yac _) (.cells #[.slice a0 n0 e0,.slice a1 n1 e1,.slice a2 n2 e2,.slice a3 n3 e3] 58));have s0:=st.cell 0;have s1:=st.cell 1;have s2:=st.cell 2;have s3:=st.cell 3;simp only[Zget]at s0 s1 s2 s3;have T:=hid ((Zgt t.out (Yac _) S0 S0 S0 S0).alloc (Zgt t.out (Yac _) S0 S0 S0 S0).size (.cells #[.slice a0 n0 e0,.slice a1 n1 e1,.slice a2 n2 e2,.slice a3 n3 e3] 58));have c9:=hid ((R.jw d.out (Zg8 I w.heap.size S0 S0 S0 S0) Dc).below ((Yaf _ _).alloc (Yac _) (.cells #[.slice a0 n0 e0,.slice a1 n1 e1,.slice a2 n2 e2,.slice a3 n3 e3] 58)));generalize(set4 I w.heap.size S0 S0 S0 S0).alloc (.cells #[.slice a0 n0 e0,.slice a1 n1 e1,.slice a2 n2 e2,.slice a3 n3 e3] 58)=WX at *
  exact bodyPost_ret (v:=.tuple #[.agg #[S0,S0,S0,S0],.iface 115 (Vp fa)]) (by simp[results,results38,go_sem,s0,s1,s2,s3]) rfl ⟨_,_,rfl,hid (DecC.kj p.out ⟨rfl,Or.inl ⟨S.out,c9.out⟩⟩),T.out⟩
 | ok x=>
  obtain⟨c,q⟩:=x;obtain⟨rfl,J,E⟩:=j.ok B;obtain⟨a0,a1,a2,a3,n0,n1,n2,n3,e0,e1,e2,e3,rfl⟩:=J.shape;have hq:=Zud B;simp only at hq E J;rw[Zd]at hq;have b4:=hid E;have b5:=hid J
  have o:Hid (Zb7 (bl s)=if (bl s).length<q+4 then .error (9,(bl s).length)else if q+4<(bl s).length then .error (9,q+4)else
    if back ((bl s).drop q)≠sumQ ((bl s).take q)then .error (10,0)else .ok c):=hid (by rw[ZoM,B])
  have rc:=E.cell 1;simp only[Zget]at rc;have c6:=d.lt;have d8:=E.lt;clear j B E J
  go_wp2_with fail
  refine Zm fun W2 U=>?_;have F:BW I W2:=by rw[U];exact Zbal
  have V:Hid (BW w W2):=hid (t.trans (F.mono t.size));have b6:=hid (d.below F);have X:=hid (b4.below F);have b7:Hid (BAt W2 I.heap.size [.slice a0 n0 e0,.slice a1 n1 e1,.slice a2 n2 e2,.slice a3 n3 e3] 58):=hid (by rw[U];exact Go.Deep.blk_alloc_new _ _);have Y:=hid (b5.below F);clear U F rc d t b4 b5;refine(Zis s q 4 (w.heap.size+1) _ W2 X.out (i.code V.out) hq b0.out Om).mono ?_;rintro e w3 ⟨v,err,rfl,j,G⟩;have k:Hid (BW w w3):=hid (ZbV V.out G i.b);have a:=hid (b6.grown G (by intro e;injection e with e;omega));have H:=hid (b7.grown G (by intro e;injection e with e;omega));have c7:=hid (Y.jw X.out G Dc Dc Dc Dc Dc Dc);have d6:=a.lt;have d7:=H.lt;clear G b6 b7 Y X V;have f0:=a.frozen 0;have f1:=a.frozen 1;have f2:=a.frozen 2;have f3:=a.frozen 3;have c0:=a.cell 0;have c1:=a.cell 1;have c2:=a.cell 2;have c3:=a.cell 3;simp only[Zget]at c0 c1 c2 c3;cases g:Zbr (bl s) q 4 with
  | error x=>
   obtain⟨fa,rfl⟩:=j.jm g;obtain⟨C,D,rfl,_⟩:=j.err g
   have Z:x=(9,(bl s).length)/\(bl s).length<q+4:=by
    unfold Zbr at g;cases h:Zcg (bl s) q 4 with
    | ok y=>rw[h]at g;cases g
    | error y=>
     rw[h]at g;injection g with g;unfold Zcg at h;split at h
     ·injection h with h;exact⟨by rw[<-g,<-h],by assumption⟩
     ·cases h
   have p:Hid (Zb7 (bl s)=.error x):=hid (by rw[o.out,if_pos Z.2,Z.1]);have R:=hid D;have S:=hid C;clear j g C D Z o;go_wp2;exact ret4 (r:=.tuple #[.agg #[S0,S0,S0,S0],.iface 115 (Vp fa)]) (fun W s0 s1 s2 s3=>by simp[results,results38,go_sem,s0,s1,s2,s3]) rfl a.out ⟨_,_,rfl,hid (DecC.kj p.out ⟨rfl,Or.inl ⟨S.out,R.jw a.out (Zg8 w3 w.heap.size S0 S0 S0 S0) Dc⟩⟩),Zgt k.out (Yac _) S0 S0 S0 S0⟩
  | ok x=>
   obtain⟨n,q2⟩:=x;obtain⟨rfl,rfl,K⟩:=j.ok g;obtain⟨b8,a4,L,a5⟩:=Zev g;simp only at b8 a4 L a5 K;have a5:n<4294967296:=a5;rw[Zd]at b8;have d9:=hid K;have b9:=hid a4;have rc:=K.cell 1;simp only[Zget]at rc;have e4:=hid L;have a6:q2=q+4:=L;clear j g a4 L K;by_cases e5:q2<s.size
   ·have p:Hid (Zb7 (bl s)=.error (9,q2)):=hid (by rw[o.out,if_neg (by rw[Zd];omega),if_pos (by rw[Zd];omega),a6]);have d0:(q2:Int)<s.size:=by omega
    clear o a6
    go_wp2_with fail
    refine(ZfX _ (i.code k.out)).mono ?_;rintro e w4 ⟨v,rfl,N,a7⟩;have R:=N;have d1:Hid (BW w w4):=hid (k.trans (a7.mono k.size));have f:=hid (a.below a7);obtain⟨fa,rfl⟩:=ZM.shape N.out;clear a7 a f0 f1 f2 f3 c0 c1 c2 c3 rc N;have f0:=f.frozen 0;have f1:=f.frozen 1;have f2:=f.frozen 2;have f3:=f.frozen 3;have c0:=f.cell 0;have c1:=f.cell 1;have c2:=f.cell 2;have c3:=f.cell 3;simp only[Zget]at c0 c1 c2 c3;go_wp2;exact ret4 (r:=.tuple #[.agg #[S0,S0,S0,S0],.iface 115 (Vp fa)]) (fun W s0 s1 s2 s3=>by simp[results,results38,go_sem,s0,s1,s2,s3]) rfl f.out ⟨_,_,rfl,hid (DecC.kj p.out ⟨rfl,Or.inl ⟨rfl,R.jw f.out (Zg8 w4 w.heap.size S0 S0 S0 S0) Dc⟩⟩),Zgt d1.out (Yac _) S0 S0 S0 S0⟩
   ·have d0:¬(q2:Int)<s.size:=by omega
    have e6:q+4=s.size:=by omega
    have M:bl (s.extract 0 q)=(bl s).take q:=by rw[Zfh];rfl
    have a8:sub (bl s) q 4=(bl s).drop q:=by unfold sub;exact Ya5 (by rw[Ybv,Zd];omega)
    have hQ:=Znn ((bl s).take q);have l:Hid (Zb7 (bl s)=if n≠sumQ ((bl s).take q)then .error (10,0)else .ok c):=hid (by rw[o.out,if_neg (by rw[Zd];omega),if_neg (by rw[Zd];omega),b9.out,a8]);have c4:(s.extract 0 q).size<=maxLen:=by unfold maxLen;rw[Yga];omega
    obtain⟨SQ,a9⟩:∃SQ,SQ=sumQ ((bl s).take q):=⟨_,rfl⟩
    have c5:Hid (∀W',CP 77 #[.string (s.extract 0 q)] W' fun e w'=>e=.returned (.int .u32 SQ)/\w'=W'):=hid (fun W'=>by rw[a9,<-M];exact Zru (s.extract 0 q) W' c4);rw[<-a9]at l hQ;have d2:=hid (i.v.below k.out);have gs:w3.cell? ⟨9,0,none⟩=some (.iface 491 (.pointer (some (A 9)))):=d2.sent _ Dc;clear o a8 M a9 b9 c4 a6;by_cases he:n=SQ
    ·subst he;have p:Hid (Zb7 (bl s)=.ok c):=hid (by rw[l.out,if_neg (by simp)]);have d3:(((n:Int) % 4294967296) != (n:Int))=false:=by rw[Int.emod_eq_of_lt Om Om];simp
     have y0:=H.cell 0;have y1:=H.cell 1;have y2:=H.cell 2;have y3:=H.cell 3;simp only[Zget]at y0 y1 y2 y3;clear l gs
     go_wp2_with (go_at_call 77;refine(c5.out _).mono ?_;rintro e O ⟨rfl,rfl⟩)
     exact ret4 (r:=.tuple #[.agg #[.slice a0 n0 e0,.slice a1 n1 e1,.slice a2 n2 e2,.slice a3 n3 e3],.nilIface]) (fun W s0 s1 s2 s3=>by simp[results,results38,go_sem,s0,s1,s2,s3]) rfl a.out ⟨_,_,rfl,hid (DecC.mkOk p.out ⟨rfl,c7.jw a.out (Zg8 O w.heap.size (.slice a0 n0 e0) (.slice a1 n1 e1) (.slice a2 n2 e2) (.slice a3 n3 e3)) Dc Dc Dc Dc Dc Dc⟩),Zgt k.out (Yac _) (.slice a0 n0 e0) (.slice a1 n1 e1) (.slice a2 n2 e2) (.slice a3 n3 e3)⟩
    ·have p:Hid (Zb7 (bl s)=.error (10,0)):=hid (by rw[l.out,if_pos he]);have d3:(((n:Int) % 4294967296) != (SQ:Int))=true:=by rw[Int.emod_eq_of_lt Om Om,bne_iff_ne];omega
     clear l
     go_wp2_with (go_at_call 77;refine(c5.out _).mono ?_;rintro e O ⟨rfl,rfl⟩)
     have e7:=i.n;have d4:Hid (BAt O.drew w.heap.size [S0,S0,S0,S0] 58):=hid (a.below ((Yaf _ _).drew));have d5:Hid (BW w O.drew):=hid (k.drew);have h9:¬w.heap.size=9:=by omega
     have e8:¬9=w.heap.size:=by omega
     go_region
     all_goals
      go_wp2;change bodyPost _ _ _ _ _ (set4 O.drew w.heap.size S0 S0 S0 S0);have st:=Zgs d4.out (x:=S0) (y:=S0) (z:=S0) (u:=S0);have s0:=st.cell 0;have s1:=st.cell 1;have s2:=st.cell 2;have s3:=st.cell 3;simp only[Zget]at s0 s1 s2 s3;have T:=hid (Zgt d5.out (Yac _) S0 S0 S0 S0);generalize set4 O.drew w.heap.size S0 S0 S0 S0=WX at *
      exact bodyPost_ret (v:=.tuple #[.agg #[S0,S0,S0,S0],.iface 491 (.pointer (some (A 9)))]) (by simp[results,results38,go_sem,s0,s1,s2,s3]) rfl ⟨_,_,rfl,hid (DecC.kj p.out ⟨rfl,Or.inr ⟨rfl,rfl⟩⟩),T.out⟩
abbrev StAt (w:World) (nb:Nat) (a:Ah):Prop:=BAt w nb (stC a) 312
theorem StAt.cells{a:Ah}(h:StAt w nb a):w.cell? ⟨nb,0,none⟩=some (.bool a.kz)/\w.cell? ⟨nb,1,none⟩=some (.bool a.kq)/\w.cell? ⟨nb,2,none⟩=some (Vi a.jy.length):=
 ⟨(h.cell 0).trans (ZcA a 0 Dc),(h.cell 1).trans (ZcA a 1 Dc),(h.cell 2).trans (ZcA a 2 Dc)⟩
theorem StAt.jy{a:Ah}(h:StAt w nb a)(j:Nat)(b:j<64):w.cell? ⟨nb,3+j,none⟩=some (.int .u8 ((a.jy.reverse.getD j 0:Nat):Int)):=(h.cell _).trans (Zni a j b)
theorem StAt.slot{a:Ah}(h:StAt w nb a)(j:Nat)(b:j<16):w.cell? ⟨nb,67+j,none⟩=some (.int .u8 ((a.jx.getD j 0:Nat):Int)):=(h.cell _).trans (Znh a j b)
def putK(k:Nat)(a:Ah):Option Ah:=if k=0∨a.jy.length=64 then none else some { a with jy:=k::a.jy }
theorem Zfo (k : Nat) (w : World) : CP 202 #[.int .u8 k] w fun e u => e = .returned (.bool (Zby k)) /\ u = w := by
  by_cases a:k=1
  · subst a
    go_enter func202,ntmps202;go_wp2;go_ret;exact⟨rfl,rfl⟩
  · by_cases b:k=2
    · subst b
      go_enter func202,ntmps202;go_wp2;go_ret;exact⟨rfl,rfl⟩
    · have c:Hid (Zby k=false):=hid (by unfold Zby;simp[a,b])
      have e1:((k:Int) == 1)=false:=by rw[beq_eq_false_iff_ne];omega
      have e2:((k:Int) == 2)=false:=by rw[beq_eq_false_iff_ne];omega
      go_enter func202,ntmps202;go_wp2;go_ret;exact⟨Zcy c.symm,rfl⟩
theorem Zeb(nb:Nat)(a:Ah)(k:Nat)(w:World)(h:StAt w nb a)(m:a.jy.length<=64) :
  CP 199 #[Vp nb,.int .u8 k] w fun e u=>e=.returned (.bool (putK k a).isSome)/\Hid (∀a',putK k a=some a'->StAt u nb a')/\w.grownBy u (some nb):=by
 obtain⟨c0,c1,c2⟩:=h.cells;have H:=hid h;by_cases i:k=0
 ·subst i;have b:Hid (putK 0 a=none):=hid (if_pos (Or.inl rfl));clear h c0 c1;go_enter func199,ntmps199;go_wp2;go_ret;exact⟨by rw[b.out];rfl,hid (fun a' e=>by rw[b.out]at e;cases e),ZbM _ _⟩
 ·have l:((k:Int) == 0)=false:=by rw[beq_eq_false_iff_ne];omega
  by_cases c:a.jy.length=64
  ·have b:Hid (putK k a=none):=hid (if_pos (Or.inr c));rw[c]at c2;clear h c0 c1;go_enter func199,ntmps199;go_wp2;go_ret;exact⟨by rw[b.out];rfl,hid (fun a' e=>by rw[b.out]at e;cases e),ZbM _ _⟩
  ·have f:Hid (putK k a=some { a with jy:=k::a.jy }):=hid (if_neg Om);have d:a.jy.length<64:=by omega
   have o:((a.jy.length:Int) == 64)=false:=by rw[beq_eq_false_iff_ne];omega
   have d0:=h.jy a.jy.length d;have f0:=h.frozen (3+a.jy.length);have f2:=h.frozen 2
   have g:Hid (StAt ((w.drew.setCell ⟨nb,3+a.jy.length,none⟩ (.int .u8 k)).setCell ⟨nb,2,none⟩ (Vi ((a.jy.length+1:Nat):Int))) nb { a with jy:=k::a.jy }):=hid (by
    have:=((h.below ((Yaf _ _).drew)).setk (3+a.jy.length) (.int .u8 k)).setk 2 (Vi ((a.jy.length+1:Nat):Int));rw[ZCG a k d]at this;exact this)
   have j:Hid (w.grownBy ((w.drew.setCell ⟨nb,3+a.jy.length,none⟩ (.int .u8 k)).setCell ⟨nb,2,none⟩ (Vi ((a.jy.length+1:Nat):Int))) (some nb)):=hid (ZA (p:=⟨nb,2,none⟩) (ZA (p:=⟨nb,3+a.jy.length,none⟩) (Zdi (ZbM _ _)) (Or.inl rfl) _) (Or.inl rfl) _);generalize q:a.jy.length=n at *
   clear h c0 c1;go_enter func199,ntmps199;go_wp2
   go_region
   all_goals
    go_wp2;go_ret;exact⟨by rw[f.out];rfl,hid (fun a' e=>by rw[f.out]at e;injection e with e;subst e;exact g.out),j.out⟩
theorem Zec(nb:Nat)(a:Ah)(w:World)(h:StAt w nb a)(i:a.jy.length<=64) :
  CP 201 #[Vp nb] w fun e u=>e=.returned (.int .u8 ((a.jy.headD 0:Nat):Int))/\Hid (StAt u nb { a with jy:=a.jy.tail })/\w.grownBy u (some nb):=by
 obtain⟨c0,c1,c2⟩:=h.cells;have H:=hid h;cases b:a.jy with
 | nil=>
  rw[b]at c2
  have l:Hid (StAt w nb { a with jy:=([]:List Nat).tail }):=hid (by
   have : { a with jy:=([]:List Nat).tail }=a:=by rw[<-show a.jy=([]:List Nat).tail from b]
   rw[this];exact h)
  clear h c0 c1 b;go_enter func201,ntmps201;go_wp2;go_ret;exact⟨rfl,l,ZbM _ _⟩
 | cons k r=>
  have c:a.jy.length=r.length+1:=by rw[b];rfl
  have m:r.length<64:=by omega
  have d0:w.cell? ⟨nb,3+r.length,none⟩=some (.int .u8 (k:Int)):=by
   have:=h.jy r.length m;rw[b]at this;rw[this];simp
  have f0:=h.frozen (3+r.length);have f2:=h.frozen 2;rw[c]at c2;have s:(((r.length:Int)+1) == 0)=false:=by rw[beq_eq_false_iff_ne];omega
  have d : Hid (∀ W : World, (∀ j, W.heap[j]? = w.heap[j]?) -> StAt ((W.setCell ⟨nb, 2, none⟩ (Vi (r.length : Int))).setCell ⟨nb, 3 + r.length, none⟩ (.int .u8 0)) nb { a with jy := r }) := hid (fun W o => by
    have q:StAt W nb a:=(o nb).trans h;have f:=(q.setk 2 (Vi (r.length:Int))).setk (3+r.length) (.int .u8 0);have g:=ZCF a i Om;rw[c,Yen]at g;rw[g,show a.jy.tail=r by rw[b];rfl]at f;exact f)
  rw[show(k::r).headD 0=k from rfl,show(k::r).tail=r from rfl];generalize r.length=n at *
  clear h c0 c1 b c H;go_enter func201,ntmps201;go_wp2
  go_region
  all_goals
   go_wp2
   go_region
   all_goals
    go_wp2;go_ret;exact⟨rfl,hid (d.out w (fun _=>rfl)),ZA (p:=⟨nb,3+n,none⟩) (Zdi (Zdi (ZA (p:=⟨nb,2,none⟩) (ZbM _ _) (Or.inl rfl) _))) (Or.inl rfl) _⟩
theorem Zuq (op arg : Nat) (w : World) : CP 146 #[.agg #[Vi op, Vi arg]] w fun e u => e = .returned (.bool (ZcE op)) /\ BW w u := by
  by_cases a:op=9
  · subst a
    go_enter func146,ntmps146;go_wp2;go_ret;exact⟨rfl,belB⟩
  · by_cases b:op=10
    · subst b
      go_enter func146,ntmps146;go_wp2;go_ret;exact⟨rfl,belB⟩
    · have c:Hid (ZcE op=false):=hid (by unfold ZcE;simp[a,b])
      have e1:((op:Int) == 9)=false:=by rw[beq_eq_false_iff_ne];omega
      have e2:((op:Int) == 10)=false:=by rw[beq_eq_false_iff_ne];omega
      go_enter func146,ntmps146;go_wp2;go_ret;exact⟨Zcy c.symm,belB⟩
theorem ZwQ (op arg : Nat) (w : World) : CP 149 #[.agg #[Vi op, Vi arg]] w fun e u => e = .returned (.bool (Zf4 op)) /\ BW w u := by
  by_cases a:op=12
  · subst a
    go_enter func149,ntmps149;go_wp2;go_ret;exact⟨rfl,belB⟩
  · by_cases b:op=13
    · subst b
      go_enter func149,ntmps149;go_wp2;go_ret;exact⟨rfl,belB⟩
    · have c:Hid (Zf4 op=false):=hid (by unfold Zf4;simp[a,b])
      have e1:((op:Int) == 12)=false:=by rw[beq_eq_false_iff_ne];omega
      have e2:((op:Int) == 13)=false:=by rw[beq_eq_false_iff_ne];omega
      go_enter func149,ntmps149;go_wp2;go_ret;exact⟨Zcy c.symm,belB⟩
theorem ZpY (nm : BA) (la : Option Addr) (ln lc n : Nat) (w : World) : CP 226 #[.agg #[.string nm, .slice la ln lc, Vi n]] w fun e u => e = .returned (.bool (decide (0 < n))) /\ BW w u := by
  by_cases h:0<n
  · have a:(0:Int)<n:=by omega
    go_enter func226,ntmps226;go_wp2;go_ret;exact⟨Zcy (by simp[h]),belB⟩
  · have a:¬(0:Int)<n:=by omega
    go_enter func226,ntmps226;go_wp2;go_ret;exact⟨Zcy rfl,belB⟩
theorem Zxw (nm : BA) (la : Option Addr) (ln lc n : Nat) (nd : Nd) (w : World) : CP 200 #[.agg #[.string nm, .slice la ln lc, Vi n]] w fun e u => e = .returned (.int .u8 (Zb3 (nd, n) : Nat)) /\ BW w u := by
  go_enter func200,ntmps200
  go_wp2_with fail
  refine Zm fun W g=>?_;have a:BW w W:=by rw[g];exact Zbal
  have b:=hid a;clear g a;refine(ZpY nm la ln lc n W).mono ?_;rintro e y ⟨rfl,c⟩;have d:Hid (BW w y):=hid (b.trans (c.mono b.size));clear c;by_cases h:0<n
  · have hd:decide (0<n)=true:=by simp[h]
    have f:Hid (Zb3 (nd,n)=3):=hid (if_pos h);rw[hd];clear hd h;go_wp2;go_ret;exact⟨by rw[f.out];rfl,d.out⟩
  · have hd:decide (0<n)=false:=by simp[h]
    have f:Hid (Zb3 (nd,n)=2):=hid (if_neg h);rw[hd];clear hd h;go_wp2;go_ret;exact⟨by rw[f.out];rfl,d.out⟩
theorem ZAZ(b:k≠0)(a:Ah):(putK k a).isSome=(ZE k a.jy a.jx).isSome/\∀st sl,ZE k a.jy a.jx=some (st,sl)->putK k a=some { a with jy:=st,jx:=sl }:=by
 unfold putK ZE;by_cases h:a.jy.length=64
 ·rw[if_pos (Or.inr h),if_pos h];exact⟨rfl,fun _ _ e=>by cases e⟩
 ·rw[if_neg (by rintro(e|e) <;> contradiction),if_neg h];exact⟨rfl,fun st sl e=>by injection e with e;injection e with e1 e2;subst e1;subst e2;rfl⟩
theorem ZA0(a:Ah):putK 0 a=none:=if_pos (Or.inl rfl)
def ZT(w w':World)(nb:Nat)(a:Ah)(r:Option (List Nat×List Nat))(ok:Bool):Prop:=ok=r.isSome/\(∀st sl,r=some (st,sl)->StAt w' nb { a with jy:=st,jx:=sl })/\w.grownBy w' (some nb)
theorem ZT.put{a a1:Ah}(d:k≠0)(f:r=ZE k a1.jy a1.jx)(b:a1.kz=a.kz/\a1.kq=a.kq)(h:∀a',putK k a1=some a'->StAt w' nb a')(g:w.grownBy w' (some nb)):ZT w w' nb a r (putK k a1).isSome:=by
 have c:=ZAZ d a1;subst f;refine⟨c.1,fun st sl e=>?_,g⟩;have:=h _ (c.2 st sl e);rw[b.1,b.2]at this;exact this
theorem ZT.no{a:Ah}(b:r=none)(c:w.grownBy w' (some nb)):ZT w w' nb a r false:=by
 subst b;exact⟨rfl,(fun _ _ e=>(by cases e)),c⟩

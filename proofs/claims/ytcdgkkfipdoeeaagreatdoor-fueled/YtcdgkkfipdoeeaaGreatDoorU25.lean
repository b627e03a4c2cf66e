/- Parts. -/
import Derived.Test.YtcdgkkfipdoeeaaGreatDoorU24
import Derived.Test.YtcdgkkfipdoeeaaGreatDoorU11
set_option linter.all false
set_option maxRecDepth 100000
set_option maxHeartbeats 16000000
namespace Go.Proofs.YtcdgkkfipdoeeaaGreatDoor
open Go.RowKit LS Go.Proofs.Tryz
variable {ca:Addr}{s:BA}{fn:Func}{l:List (List (LB))}{c cs:List Value}{a b k nb:Nat}{A:Nat->Addr}{x:Nat×Nat}{r:Option (List Nat×List Nat)}{err u v y z:Value}{w w' w0:World}
def Z2(l:LB):RdR CodeQ:=match Zc8 l with
 | .error e=>.error e
 | .ok n => match many (ZbW l) 9 n.1 with
   | .error e=>.error e
   | .ok cs => match many (Zb4 l) cs.2 n.2.1 with
     | .error e=>.error e
     | .ok ps => match many (ZbX l) ps.2 n.2.2.1 with
       | .error e=>.error e
       | .ok gs => match many (ZbN l) gs.2 n.2.2.2 with
         | .error e=>.error e
         | .ok is=>.ok (⟨cs.1,ps.1,gs.1,is.1⟩,is.2)
theorem ZoM(l:LB):Zb7 l=match Z2 l with
  | .error e=>.error e
  | .ok x => if l.length < x.2 + 4 then .error (9, l.length) else if x.2 + 4 < l.length then .error (9, x.2 + 4) else
    if back (l.drop x.2)≠sumQ (l.take x.2)then .error (10,0)else .ok x.1:=by
 unfold Zb7 Z2;cases Zc8 l with
 | error e=>rfl
 | ok n=>
  simp only;cases many (ZbW l) 9 n.1 with
  | error e=>rfl
  | ok cs=>
   simp only;cases many (Zb4 l) cs.2 n.2.1 with
   | error e=>rfl
   | ok ps=>
    simp only;cases many (ZbX l) ps.2 n.2.2.1 with
    | error e=>rfl
    | ok gs=>
     simp only;cases many (ZbN l) gs.2 n.2.2.2 with
     | error e=>rfl
     | ok is=>rfl
structure CodeV (w:World) (c:CodeQ) (cv pv gv iv:Value):Prop where
 cs:Zef w c.jj cv
 ps:Zek w c.ju pv
 gs:Zeh w c.jw gv
 is:InsV w c.jq iv
def CodV(w:World)(c:CodeQ)(v:Value):Prop:=∃cv pv gv iv,v=.agg #[cv,pv,gv,iv]/\CodeV w c cv pv gv iv
def CodZ(v:Value):Prop:=∃(a0 a1 a2 a3:Option Addr) (n0 n1 n2 n3 c0 c1 c2 c3:Nat),v=.agg #[.slice a0 n0 c0,.slice a1 n1 c1,.slice a2 n2 c2,.slice a3 n3 c3]
theorem Zef.jm{l:List Int}(h:Zef w l v){t:TypeId}(a:BAt w b c t)(d:w.grownBy w' (some b))(e:t≠3):Zef w' l v:=ZgZ h a d e
theorem InsV.jm{l:List (Nat×Nat)}(h:InsV w l v){t:TypeId}(a:BAt w b c t)(d:w.grownBy w' (some b))(e:t≠159):InsV w' l v:=ZgZ h a d e
theorem Zek.jm{l:List (Nd×Nat)}(h:Zek w l v){t:TypeId}(a:BAt w b c t)(d:w.grownBy w' (some b))(f:t≠156)(e:t≠224):Zek w' l v:=by
 obtain⟨xs,g,i,j⟩:=h;exact⟨xs,ZgZ g a d f,i,fun x k=>(j x k).jm a d e⟩
theorem Zeh.jm(h:Zeh w l v){t:TypeId}(a:BAt w b c t)(d:w.grownBy w' (some b))(f:t≠122)(e:t≠9):Zeh w' l v:=by
 obtain⟨xs,g,i,j⟩:=h;exact⟨xs,ZgZ g a d f,i,fun x k=>(j x k).jm a d e⟩
theorem Zef.shape{l:List Int}(h:Zef w l v):∃a c,v=.slice a l.length c:=Zl h
theorem InsV.shape{l:List (Nat×Nat)}(h:InsV w l v):∃a c,v=.slice a l.length c:=Zl h
theorem Zek.shape{l:List (Nd×Nat)}(h:Zek w l v):∃a c,v=.slice a l.length c:=by
 obtain⟨xs,d,f,_⟩:=h;obtain⟨a,c,e⟩:=Zl d;exact⟨a,c,by rw[e,<-f,Yak]⟩
theorem Zeh.shape(h:Zeh w l v):∃a c,v=.slice a l.length c:=by
 obtain⟨xs,d,f,_⟩:=h;obtain⟨a,c,e⟩:=Zl d;exact⟨a,c,by rw[e,<-f,Yak]⟩
theorem CodV.jm{l:CodeQ}(h:CodV w l v){t:TypeId}(a:BAt w b c t)(d:w.grownBy w' (some b))(f:t≠3)(g:t≠156)(i:t≠224)(j:t≠122)(k:t≠9)(m:t≠159):CodV w' l v:=by
 obtain⟨cv,pv,gv,iv,e,h⟩:=h;exact⟨cv,pv,gv,iv,e,h.cs.jm a d f,h.ps.jm a d g i,h.gs.jm a d j k,h.is.jm a d m⟩
theorem BAt.setk{t:TypeId}(h:BAt w a c t)(i:Nat)(v:Value):BAt (w.setCell ⟨a,i,none⟩ v) a (c.set i v) t:=by
 unfold BAt at h ⊢;simp only[World.setCell,Ybn,h,if_true,Ybf];show some (Obj.cells (c.toArray.setIfInBounds i v) t (0,0))=_;rw[Yc4]
def set4(w:World)(a:Nat)(x y z u:Value):World:=(((w.setCell ⟨a,0,none⟩ x).setCell ⟨a,1,none⟩ y).setCell ⟨a,2,none⟩ z).setCell ⟨a,3,none⟩ u
theorem Zgs{p0 p1 p2 p3 x:Value}{t:TypeId}(h:BAt w a [p0,p1,p2,p3] t):BAt (set4 w a x y z u) a [x,y,z,u] t:=
 (((h.setk 0 x).setk 1 y).setk 2 z).setk 3 u
theorem ret4{P:Program}{R:Ending->World->Prop}{a:Act}{v:World}{p q d e x r:Value}{t:TypeId}(c:∀W:World,W.cell? ⟨b,0,none⟩=some x->W.cell? ⟨b,1,none⟩=some y->W.cell? ⟨b,2,none⟩=some z->W.cell? ⟨b,3,none⟩=some u->(results fn a.tmps).run P W=.ok r W)(hd:a.defers=[])(f:BAt v b [p,q,d,e] t)(g:R (.returned r) (set4 v b x y z u)):bodyPost P fn R .ret a (set4 v b x y z u):=by
 have s:=Zgs f (x:=x) (y:=y) (z:=z) (u:=u);exact bodyPost_ret (c _ (s.cell 0) (s.cell 1) (s.cell 2) (s.cell 3)) hd g
theorem Zg8(w:World)(a:Nat)(x y z u:Value):w.grownBy (set4 w a x y z u) (some a):=ZA (ZA (ZA (ZA (ZbM w (some a)) (.inl rfl) _) (.inl rfl) _) (.inl rfl) _) (.inl rfl) _
theorem ZB1(h:w0.grownBy w (some b))(c:w0.heap.size<=a){x:Value}:w0.grownBy (set4 w a x y z u) (some b):=
 ZA (ZA (ZA (ZA h (.inr c) _) (.inr c) _) (.inr c) _) (.inr c) _
def cntB(l:LB)(k j:Nat):Value:=Vi ((if j<k then back (sub l (1+2*j) 2)else 0:Nat):Int)
def cntL(l:LB)(k:Nat):List Value:=[cntB l k 0,cntB l k 1,cntB l k 2,cntB l k 3]
theorem Zgf{α:Type}{one:Nat->RdR α}{p n:Nat}(d:∀p x,one p=.ok x->x.2<=n)(f:p<=n):∀ {k:Nat} {xs:List α} {q:Nat},many one p k=.ok (xs,q)->q<=n
 | 0,xs,q,h=>by injection h with h;injection h with _ h2;omega
 | k + 1, xs, q, h => by
   unfold many at h;cases c:many one p k with
   | error e=>rw[c]at h;cases h
   | ok x=>
     rw[c]at h;simp only at h;cases a:one x.2 with
     | error e=>rw[a]at h;cases h
     | ok y=>
       rw[a]at h;injection h with h;injection h with _ h2;have:=d _ _ a;omega
theorem ZwW{l:LB}(h:l.head?=some 103)(d:k<4)(c:Zbr l (1+2*k) 2=.error x):Zc8 l=.error x:=by
 unfold Zbr at c;cases a:Zcg l (1+2*k) 2 with
 | ok y=>rw[a]at c;cases c
 | error e=>
  rw[a]at c;cases c;unfold Zcg at a;split at a
  ·cases a;unfold Zc8;rw[if_neg (by rw[h];simp),if_pos Om]
  ·cases a
theorem ZwU{l:LB}(h:l.head?=some 103)(a:9<=l.length):Zc8 l=.ok (back (sub l 1 2),back (sub l 3 2),back (sub l 5 2),back (sub l 7 2)):=by
 unfold Zc8;rw[if_neg (by rw[h];simp),if_neg Om]
theorem Zt0{l:LB}{x:Unit×Nat}(h:ZdI l=.ok x):l.head?=some 103/\x.2=1:=by
 unfold ZdI at h;by_cases e:l.head?=some 103
 ·rw[if_neg (by rw[e];simp)]at h;cases h;exact⟨e,rfl⟩
 ·rw[if_pos e]at h;cases h
theorem ZtZ{l:LB}(h:ZdI l=.error x):Z2 l=.error x:=by
 unfold ZdI at h;by_cases e:l.head?=some 103
 ·rw[if_neg (by rw[e];simp)]at h;cases h
 ·rw[if_pos e]at h;cases h;unfold Z2 Zc8;rw[if_pos e]
theorem CodZ.zero:CodZ (.agg #[S0,S0,S0,S0]):=⟨none,none,none,none,0,0,0,0,0,0,0,0,rfl⟩
theorem CodZ.mk{a0 a1 a2 a3:Option Addr}{n0 n1 n2 n3 c0 c1 c2 c3:Nat} : CodZ (.agg #[.slice a0 n0 c0,.slice a1 n1 c1,.slice a2 n2 c2,.slice a3 n3 c3]):=⟨_,_,_,_,_,_,_,_,_,_,_,_,rfl⟩
theorem BAt.four{x:Value}{t:TypeId}(h:BAt w a [x,y,z,u] t):(w.frozen? ⟨a,0,none⟩=false/\w.frozen? ⟨a,1,none⟩=false/\w.frozen? ⟨a,2,none⟩=false/\w.frozen? ⟨a,3,none⟩=false)/\w.cell? ⟨a,0,none⟩=some x/\w.cell? ⟨a,1,none⟩=some y/\w.cell? ⟨a,2,none⟩=some z/\w.cell? ⟨a,3,none⟩=some u:=⟨⟨h.frozen 0,h.frozen 1,h.frozen 2,h.frozen 3⟩,h.cell 0,h.cell 1,h.cell 2,h.cell 3⟩
structure CM (w v:World) (b:Nat) (cs:List Value):Prop where
 x:BAt v w.heap.size [S0,S0,S0,S0] 59
 y:BAt v (w.heap.size+1) cs 59
 g:w.grownBy v (some b)
 lt:b<w.heap.size
theorem CM.call{v v':World}(h:CM w v b cs)(a:v.grownBy v' (some b)):CM w v' b cs:=
 have:=h.lt
 ⟨h.x.grown a (by intro e;injection e with e;omega),h.y.grown a (by intro e;injection e with e;omega),Zj h.g a,h.lt⟩
theorem CM.set{v:World}(h:CM w v b cs)(i:Nat)(u:Value):CM w (v.setCell ⟨w.heap.size+1,i,none⟩ u) b (cs.set i u):=
 ⟨h.x.other (by show w.heap.size≠w.heap.size+1;omega) u,h.y.setk i u,ZA h.g (.inr (by show w.heap.size<=w.heap.size+1;omega)) u,h.lt⟩
theorem CM.self{v:World}(_:CM w v b cs)(i:Nat)(u:Value):v.grownBy (v.setCell ⟨w.heap.size+1,i,none⟩ u) (some (w.heap.size+1)):=ZA (ZbM _ _) (.inl rfl) _
theorem CM.bad{α:Type}{V:World->α->Value->Prop}{Y:Value->Prop}{v:World}{c0 c1 c2 c3 val err:Value}{r:RdR α}(h:CM w v b [c0,c1,c2,c3])(a:RdC V Y v b s ca r val err)(c:r=.error x)(d:Z2 (bl s)=.error x)(i:Nat)(e:CodZ (.agg #[c0,c1,c2,c3])) :
  RdC CodV CodZ (v.setCell ⟨w.heap.size+1,i,none⟩ S0) b s ca (Z2 (bl s)) (.agg #[c0,c1,c2,c3]) err:=
 RdC.kept (a.qj c d e) (h.self i _) h.y Dc Dc (fun _ k=>k.jm h.y (h.self i _) Dc Dc Dc Dc Dc Dc)
theorem ZfV{v:World}{q:RdR CodeQ}{p0 p1 p2 p3:Value}{a:Act}
  (d:∀W:World,W.cell? ⟨w.heap.size,0,none⟩=some p0->W.cell? ⟨w.heap.size,1,none⟩=some p1->W.cell? ⟨w.heap.size,2,none⟩=some p2->W.cell? ⟨w.heap.size,3,none⟩=some p3->(results fn a.tmps).run prog W=.ok (.tuple #[.agg #[p0,p1,p2,p3],err]) W)
  (hd:a.defers=[]) (h:CM w v b cs) (f:RdC CodV CodZ v b s ca q (.agg #[p0,p1,p2,p3]) err) :
  bodyPost prog fn (fun e c=>∃v err,e=.returned (.tuple #[v,err])/\Hid (RdC CodV CodZ c b s ca q v err)/\w.grownBy c (some b)) .ret a (set4 v w.heap.size p0 p1 p2 p3):=by
 obtain⟨_,s0,s1,s2,s3⟩:=(Zgs h.x (x:=p0) (y:=p1) (z:=p2) (u:=p3)).four;have e:=Zg8 v w.heap.size p0 p1 p2 p3;exact bodyPost_ret (d _ s0 s1 s2 s3) hd ⟨_,_,rfl,f.kept e h.x Dc Dc (fun _ k=>k.jm h.x e Dc Dc Dc Dc Dc Dc),ZB1 h.g (Yac _)⟩
theorem ZBa(s:BA)(b:Nat)(A:Nat->Addr)(m:Int)(w0 w:World)(hG:Ground w0 A m b)(hs:s.size<=maxLen)(h0:BW w0 w)(hr:RdAt w b s 0) :
  CP 79 #[Vp b] w fun e w'=>∃v err,e=.returned (.tuple #[v,err])/\Hid (RdC CodV CodZ w' b s (A 8) (Z2 (bl s)) v err)/\w.grownBy w' (some b):=by
 have Q:=hr.lt;have C:=hid hG;have R:=hid hs;have H0:=hid h0;have b8:=hid hr;go_enter func79,ntmps79
 go_wp2_with fail
 refine Zm fun W hW=>?_;have a9:Below _ w W:=hW▸Zbal.alloc (by simp) _
 have HM : Hid (CM w W b _) := hid ⟨hW▸(Zbal.block _ (by simp)).trans bnw, by
   rw[hW];have:=Go.Deep.blk_alloc_new (w.alloc (.cells #[S0,S0,S0,S0] 59)) (.cells #[S0,S0,S0,S0] 59);rwa [Go.Deep.nblk_alloc]at this,Zw a9,Q⟩
 have b9:=hid (b8.below a9);refine(ZA9 s b W b9 (C.code (ZbV H0 HM.g C.b)) C.ng R).mono ?_;rintro e M ⟨err,rfl,c,c1⟩;have H1:=hid (HM.call c1);cases ht:ZdI (bl s)with
 | error x=>
  obtain⟨fa,rfl⟩:=c.kq ht;have P:=hid (RdC.qj (V':=CodV) c ht (ZtZ ht) CodZ.zero);have f:=H1.x.four;have d:=H1.y.four;go_wp2;exact ZfV (fun W s0 s1 s2 s3=>by simp[results,results79,go_sem,s0,s1,s2,s3]) rfl H1 P
 | ok x=>
  obtain⟨a6,c2⟩:=Zt0 ht;obtain⟨rfl,_,b0⟩:=c.ok ht;have c3:Hid (RdAt M b s 1):=by rw[c2]at b0;exact b0
  have b1:=hid a6
  have c4:1<=s.size:=by
   rcases Yav 0 s.size with h|h
   ·exact h
   ·rw[Ya3 (l:=bl s) (by rw[Zd];omega)]at a6;cases a6
  have d3:=H1.y.lt;go_wp2
  go_loopw [17] (fun i wr => ∃ k : Nat, k <= 4 /\ i = Vi k /\ 1 + 2 * k <= s.size /\ Hid (RdAt wr b s (1 + 2 * k)) /\ Hid (BAt wr M.heap.size (cntL (bl s) k) 153) /\ Hid (CM w wr b [S0, S0, S0, S0]))
    (fun i _=>4 - (intOf i).toNat)
  case atStart=>
   have hB:∀o,Below _ M _:=fun o=>(Yaf _ _).alloc (Yac _) o;exact⟨0,Yag _,rfl,c4,hid (c3.below (hB _)),hid bnw,hid (H1.call (Zw (hB _)))⟩
  case round=>
   obtain⟨k,hk,rfl,a7,V,X,Hr⟩:=hrel;by_cases c5:k<4
   ·have d4:(k:Int)<4:=by omega
    go_wp2_with fail
    refine(Zis s _ 2 b _ _ V (C.code (ZbV H0 Hr.g C.b)) a7 R Om).mono ?_;rintro e z ⟨v,err,rfl,c,j⟩;have U:=hid (Hr.call j);have Y:=hid (X.grown j (by intro e;injection e with e;have:=Q;omega));clear j V X Hr;cases O:Zbr (bl s) (1+2*k) 2 with
    | error x=>
     obtain⟨fa,rfl⟩:=c.kq O;obtain⟨_,_,rfl,_⟩:=c.err O;have P:=hid (RdC.qj (V':=CodV) (r':=Z2 _) c O (by unfold Z2;rw[ZwW b1 c5 O]) CodZ.zero);have f:=U.x.four;have d:=U.y.four;clear c O;go_wp2;exact ZfV (fun W s0 s1 s2 s3=>by simp[results,results79,go_sem,s0,s1,s2,s3]) rfl U P
    | ok x=>
     obtain⟨n,q⟩:=x;obtain⟨rfl,rfl,E⟩:=c.ok O;obtain⟨Z,a4,a5,b2⟩:=Zev O;simp only at Z a4 a5 b2 E;have b3:Hid (RdAt z b s (1+2*(k+1))):=by rw[a5]at E;exact E
     have b7:1+2*(k+1)<=s.size:=by rw[Zd]at Z;omega
     have c6:=hid a4;have k0:=Y.cell k;have kf:=Y.frozen k
     have c7:Hid (BAt (z.setCell ⟨M.heap.size,k,none⟩ (Vi n)) M.heap.size (cntL (bl s) (k+1)) 153):=by
      have:=Y.setk k (Vi n);rw[c6]at this ⊢;rcases(by omega:k=0∨k=1∨k=2∨k=3)with rfl|rfl|rfl|rfl <;> exact this
     have c8:=hid (b3.other (p:=⟨M.heap.size,k,none⟩) (by show b≠M.heap.size;omega) (Vi n));have c9:Hid (CM w (z.setCell ⟨M.heap.size,k,none⟩ (Vi n)) b _):=hid ⟨U.x.other (by show w.heap.size≠M.heap.size;omega) _,U.y.other (by show w.heap.size+1≠M.heap.size;omega) _,ZA U.g (.inr (by show w.heap.size<=M.heap.size;omega)) _,Q⟩
     have d0:∃u,z.cell? ⟨M.heap.size,k,none⟩=some u:=by
      rw[k0];rcases(by omega:k=0∨k=1∨k=2∨k=3)with rfl|rfl|rfl|rfl <;> exact⟨_,rfl⟩
     obtain⟨u,T⟩:=d0;clear c O E Z a4 a5 b2 k0 b3 U Y;go_wp2
     go_roundw
     case rel=>exact⟨k+1,by omega,by go_num,b7,c8,c7,c9⟩
     case measure=>simp[intOf];omega
   ·obtain rfl:k=4:=by omega
    have a8:Hid (BAt _ _ [.int _ (back (sub _ 1 2)),.int _ (back (sub _ 3 2)),.int _ (back (sub _ 5 2)),.int _ (back (sub _ 7 2))] _):=X;have O:∀i,back (sub (bl s) i 2)<65536:=fun i=>ZhM (n:=2) (by unfold sub;rw[Ya7];omega);have d5:=O 1;have Z:=O 3;have a4:=O 5;have a5:=O 7
    have B:Hid (Z2 _=match many (ZbW _) 9 (back _)with
     | .error e=>.error e
     | .ok _ => match many (Zb4 _) _ (back _) with
       | .error e=>.error e
       | .ok _ => match many (ZbX _) _ (back _) with
         | .error e=>.error e
         | .ok _ => match many (ZbN _) _ (back _) with
           | .error e=>.error e
           | .ok _=>.ok _):=hid (by unfold Z2;rw[ZwU b1 (by rw[Zd];omega)])
    generalize back (sub (bl s) 1 2)=N0 at *
    generalize back (sub (bl s) 3 2)=N1 at *
    generalize back (sub (bl s) 5 2)=N2 at *
    generalize back (sub (bl s) 7 2)=N3 at *
    clear X O;have b4:Hid (RdAt _ b s 9):=V;clear V;have kk0:=a8.cell
    go_wp2_with fail
    refine(ZyS s 9 b (ZbV H0 Hr.g C.b) C.b b4 a7 Om (ZzE C R) (fun p x h _=>by have:=Zle h;rwa [Zd]at this)).mono ?_;rintro e z ⟨v,err,rfl,c,j⟩;have a:=hid (Hr.call j);have J:=hid (a8.grown j (by intro e;injection e with e;have:=Q;omega));clear j kk0 b4 a8 Hr;cases r:many (ZbW (bl s)) 9 N0 with
    | error x=>
     obtain⟨fa,rfl⟩:=c.kq r;obtain⟨_,_,rfl,_⟩:=c.err r;have P:=hid (a.bad c r (by rw[B,r]) 0 CodZ.mk);have G:=hid (a.set 0 S0);have f:=a.x.four;have d:=a.y.four;clear c r B;go_wp2;exact ZfV (fun W s0 s1 s2 s3=>by simp[results,results79,go_sem,s0,s1,s2,s3]) rfl G P
    | ok x=>
     obtain⟨l0,q0⟩:=x;obtain⟨rfl,N,E⟩:=c.ok r;obtain⟨a0,e0,rfl⟩:=Zef.shape N;have b5:=Zgf (fun p x h=>by have:=Zle h;rwa [Zd]at this) a7 r
     replace B:Hid (Z2 (bl s)=match many (Zb4 (bl s)) q0 N1 with
      | .error e=>.error e
      | .ok y1 => match many (ZbX (bl s)) y1.2 N2 with
        | .error e=>.error e
        | .ok z2 => match many (ZbN (bl s)) z2.2 N3 with
          | .error e=>.error e
          | .ok u3=>.ok (⟨l0,y1.1,z2.1,u3.1⟩,u3.2)):=hid (by rw[B,r])
     have H:=hid N;have I:=hid E;simp only at H I;have D:=a.self 0 (.slice a0 l0.length e0);have F:=hid (H.jm a.y D Dc);have t:=hid (I.other (p:=⟨w.heap.size+1,0,none⟩) (by show b≠w.heap.size+1;omega) (.slice a0 l0.length e0));have G:=hid (a.set 0 (.slice a0 l0.length e0));have K:=hid (J.other (p:=⟨w.heap.size+1,0,none⟩) (by show M.heap.size≠w.heap.size+1;omega) (.slice a0 l0.length e0));have d:=a.y.four;have kk:=J.cell 1;simp only[Zget]at kk;clear c r N E D H I
     go_wp2_with fail
     refine Zm fun u T=>?_;rw[<-T]at t G K F;clear T a J d kk;refine(ZyT s b u (ZbV H0 G.g C.b) C.b t b5 Om (ZBz s b A m C R) (fun p x h _=>by have:=ZmL h;rwa [Zd]at this)).mono ?_;rintro e w3 ⟨v,err,rfl,c,j⟩;have a:=hid (G.call j);have J:=hid (K.grown j (by intro e;injection e with e;have:=Q;omega));replace F:=hid (F.jm t.out j Dc);clear j t K G;cases r:many (Zb4 (bl s)) q0 N1 with
     | error x=>
      obtain⟨fa,rfl⟩:=c.kq r;obtain⟨_,_,rfl,_⟩:=c.err r;have P:=hid (a.bad c r (by rw[B,r]) 1 CodZ.mk);have G:=hid (a.set 1 S0);have f:=a.x.four;have d:=a.y.four;clear c r B;go_wp2;exact ZfV (fun W s0 s1 s2 s3=>by simp[results,results79,go_sem,s0,s1,s2,s3]) rfl G P
     | ok x=>
      obtain⟨l1,q1⟩:=x;obtain⟨rfl,N,E⟩:=c.ok r;obtain⟨a1,e1,rfl⟩:=Zek.shape N;have b6:=Zgf (fun p x h=>by have:=ZmL h;rwa [Zd]at this) b5 r
      replace B:Hid (Z2 (bl s)=match many (ZbX (bl s)) q1 N2 with
       | .error e=>.error e
       | .ok z2 => match many (ZbN (bl s)) z2.2 N3 with
         | .error e=>.error e
         | .ok u3=>.ok (⟨l0,l1,z2.1,u3.1⟩,u3.2)):=hid (by rw[B,r])
      have H:=hid N;have I:=hid E;simp only at H I;have D:=a.self 1 (.slice a1 l1.length e1);have F:=hid (F.jm a.y D Dc);have L:=hid (H.jm a.y D Dc Dc);have t:=hid (I.other (p:=⟨w.heap.size+1,1,none⟩) (by show b≠w.heap.size+1;omega) (.slice a1 l1.length e1));have G:=hid (a.set 1 (.slice a1 l1.length e1));have K:=hid (J.other (p:=⟨w.heap.size+1,1,none⟩) (by show M.heap.size≠w.heap.size+1;omega) (.slice a1 l1.length e1));have d:=a.y.four;have kk:=J.cell 2;simp only[Zget]at kk;clear c r N E D H I
      go_wp2_with fail
      refine Zm fun u T=>?_;rw[<-T]at t G K F L;clear T a J d kk;refine(ZyQ s b u (ZbV H0 G.g C.b) C.b t b6 Om (ZBx s b A m C R) (fun p x h _=>by have:=ZlE h;rwa [Zd]at this)).mono ?_;rintro e w4 ⟨v,err,rfl,c,j⟩;have a:=hid (G.call j);have J:=hid (K.grown j (by intro e;injection e with e;have:=Q;omega));replace F:=hid (F.jm t.out j Dc);replace L:=hid (L.jm t.out j Dc Dc);clear j t K G;cases r:many (ZbX (bl s)) q1 N2 with
      | error x=>
       obtain⟨fa,rfl⟩:=c.kq r;obtain⟨_,_,rfl,_⟩:=c.err r;have P:=hid (a.bad c r (by rw[B,r]) 2 CodZ.mk);have G:=hid (a.set 2 S0);have f:=a.x.four;have d:=a.y.four;clear c r B;go_wp2;exact ZfV (fun W s0 s1 s2 s3=>by simp[results,results79,go_sem,s0,s1,s2,s3]) rfl G P
      | ok x=>
       obtain⟨l2,q2⟩:=x;obtain⟨rfl,N,E⟩:=c.ok r;obtain⟨a2,e2,rfl⟩:=Zeh.shape N;have d1:=Zgf (fun p x h=>by have:=ZlE h;rwa [Zd]at this) b6 r
       replace B:Hid (Z2 (bl s)=match many (ZbN (bl s)) q2 N3 with
        | .error e=>.error e
        | .ok u3=>.ok (⟨l0,l1,l2,u3.1⟩,u3.2)):=hid (by rw[B,r])
       have H:=hid N;have I:=hid E;simp only at H I;have D:=a.self 2 (.slice a2 l2.length e2);have F:=hid (F.jm a.y D Dc);have L:=hid (L.jm a.y D Dc Dc);have S:=hid (H.jm a.y D Dc Dc);have t:=hid (I.other (p:=⟨w.heap.size+1,2,none⟩) (by show b≠w.heap.size+1;omega) (.slice a2 l2.length e2));have G:=hid (a.set 2 (.slice a2 l2.length e2));have K:=hid (J.other (p:=⟨w.heap.size+1,2,none⟩) (by show M.heap.size≠w.heap.size+1;omega) (.slice a2 l2.length e2));have d:=a.y.four;have kk:=J.cell;clear c r N E D H I
       go_wp2_with fail
       refine Zm fun u T=>?_;rw[<-T]at t G K F L S;clear T a J d kk;refine(ZyR s b u (ZbV H0 G.g C.b) C.b t d1 Om (ZzF C R) (fun p x h _=>by have:=(ZlQ h).1;rwa [Zd]at this)).mono ?_;rintro e w5 ⟨v,err,rfl,c,j⟩;have a:=hid (G.call j);have J:=hid (K.grown j (by intro e;injection e with e;have:=Q;omega));replace F:=hid (F.jm t.out j Dc);replace L:=hid (L.jm t.out j Dc Dc);replace S:=hid (S.jm t.out j Dc Dc);clear j t K G;cases r:many (ZbN (bl s)) q2 N3 with
       | error x=>
        obtain⟨fa,rfl⟩:=c.kq r;obtain⟨_,_,rfl,_⟩:=c.err r;have P:=hid (a.bad c r (by rw[B,r]) 3 CodZ.mk);have G:=hid (a.set 3 S0);have f:=a.x.four;have d:=a.y.four;clear c r B;go_wp2;exact ZfV (fun W s0 s1 s2 s3=>by simp[results,results79,go_sem,s0,s1,s2,s3]) rfl G P
       | ok x=>
        obtain⟨l3,q3⟩:=x;obtain⟨rfl,N,E⟩:=c.ok r;obtain⟨a3,e3,rfl⟩:=InsV.shape N;replace B:Hid (Z2 (bl s)=.ok (⟨l0,l1,l2,l3⟩,q3)):=hid (by rw[B,r]);have H:=hid N;have I:=hid E;simp only at H I;have D:=a.self 3 (.slice a3 l3.length e3);have F:=hid (F.jm a.y D Dc);have L:=hid (L.jm a.y D Dc Dc);have S:=hid (S.jm a.y D Dc Dc);have d2:=hid (H.jm a.y D Dc);have t:=hid (I.other (p:=⟨w.heap.size+1,3,none⟩) (by show b≠w.heap.size+1;omega) (.slice a3 l3.length e3));have G:=hid (a.set 3 (.slice a3 l3.length e3));have f:=a.x.four;have d:=a.y.four;have P:Hid (RdC CodV CodZ _ b s (A 8) _ _ _):=hid (RdC.mkOk B ⟨rfl,⟨_,_,_,_,rfl,F,L,S,d2⟩,t⟩);clear c r N E D H I B;go_wp2;exact ZfV (fun W s0 s1 s2 s3=>by simp[results,results79,go_sem,s0,s1,s2,s3]) rfl G P
def DecC(w:World)(A:Nat->Addr)(r:Except (Nat×Nat) CodeQ)(v err:Value):Prop:=match r with
 | .ok c=>err=.nilIface/\CodV w c v
 | .error x=>v=.agg #[.slice none 0 0,.slice none 0 0,.slice none 0 0,.slice none 0 0]/\((x.1=9/\ZM w err x.2 (A 8))∨(x=(10,0)/\err=.iface 432 (.pointer (some (A 9)))))
theorem DecC.mkOk{r:Except (Nat×Nat) CodeQ}{c:CodeQ}(a:r=.ok c)(h:err=.nilIface/\CodV w c v):DecC w A r v err:=by subst a;exact h
theorem DecC.qq{r:Except (Nat×Nat) CodeQ}(a:r=.error x)(h:v=.agg #[S0,S0,S0,S0]/\((x.1=9/\ZM w err x.2 (A 8))∨(x=(10,0)/\err=.iface 432 (.pointer (some (A 9)))))):DecC w A r v err:=by subst a;exact h
theorem Zgt(h:BW w0 w)(c:w0.heap.size<=a)(x y z u:Value):BW w0 (set4 w a x y z u):=
 (((h.setCell (p:=⟨a,0,none⟩) c _).setCell (p:=⟨a,1,none⟩) c _).setCell (p:=⟨a,2,none⟩) c _).setCell (p:=⟨a,3,none⟩) c _
theorem CodV.shape{c:CodeQ}(h:CodV w c v):∃(a0 a1 a2 a3:Option Addr) (n0 n1 n2 n3 c0 c1 c2 c3:Nat),v=.agg #[.slice a0 n0 c0,.slice a1 n1 c1,.slice a2 n2 c2,.slice a3 n3 c3]:=by
 obtain⟨cv,pv,gv,iv,rfl,h⟩:=h;obtain⟨a0,c0,rfl⟩:=h.cs.shape;obtain⟨a1,c1,rfl⟩:=h.ps.shape;obtain⟨a2,c2,rfl⟩:=h.gs.shape;obtain⟨a3,c3,rfl⟩:=h.is.shape;exact⟨_,_,_,_,_,_,_,_,_,_,_,_,rfl⟩
theorem CodV.below{l:CodeQ}(h:CodV w l v)(a:BW w w'):CodV w' l v:=by
 obtain⟨cv,pv,gv,iv,e,h⟩:=h;refine⟨cv,pv,gv,iv,e,Zn h.cs a,?_,?_,Zn h.is a⟩
 ·obtain⟨xs,c,d,f⟩:=h.ps;exact⟨xs,Zn c a,d,fun x g=>(f x g).below a⟩
 ·obtain⟨xs,c,d,f⟩:=h.gs;exact⟨xs,Zn c a,d,fun x g=>(f x g).below a⟩
theorem ZM.jm{p:Int}{a:Addr}(h:ZM w v p a){t:TypeId}(d:BAt w b c t)(e:w.grownBy w' (some b))(f:t≠85):ZM w' v p a:=h.grown e d f
theorem Zud{l:LB}{x:CodeQ×Nat}(h:Z2 l=.ok x):x.2<=l.length:=by
 unfold Z2 at h;cases a:Zc8 l with
 | error e=>rw[a]at h;cases h
 | ok n=>
  rw[a]at h
  have i:9<=l.length:=by
   unfold Zc8 at a;split at a
   ·cases a
   ·split at a
    ·cases a
    ·omega
  simp only at h;cases c:many (ZbW l) 9 n.1 with
  | error e=>rw[c]at h;cases h
  | ok cs=>
   rw[c]at h;simp only at h;have g1:=Zgf (n:=l.length) (fun p x h=>Zle h) i c;cases d:many (Zb4 l) cs.2 n.2.1 with
   | error e=>rw[d]at h;cases h
   | ok ps=>
    rw[d]at h;simp only at h;have g2:=Zgf (n:=l.length) (fun p x h=>ZmL h) g1 d;cases f:many (ZbX l) ps.2 n.2.2.1 with
    | error e=>rw[f]at h;cases h
    | ok gs=>
     rw[f]at h;simp only at h;have g3:=Zgf (n:=l.length) (fun p x h=>ZlE h) g2 f;cases g:many (ZbN l) gs.2 n.2.2.2 with
     | error e=>rw[g]at h;cases h
     | ok is=>
      rw[g]at h;injection h with h;subst h;exact Zgf (n:=l.length) (fun p x h=>(ZlQ h).1) g3 g
theorem ZAU(s:BA)(A:Nat->Addr)(m:Int)(w:World)(M:Vars w A m)(g:ZR w)(hB:20<=w.heap.size)(hs:s.size<=maxLen) :
  CP 38 #[.string s] w fun e w'=>∃v err,e=.returned (.tuple #[v,err])/\Hid (DecC w' A (Zb7 (bl s)) v err)/\BW w w':=by
 have h:Hid (Ground w A m (w.heap.size+1)):=hid ⟨M,g,hB,by omega⟩;have a9:=hid hs;have c8:=hs;unfold maxLen at c8;clear M g hB hs;go_enter func38,ntmps38
 go_wp2_with fail
 refine Zm fun W hW=>?_;have b0:BW w W:=by rw[hW];exact Zbal.alloc (by simp) _
 have b1:Hid (BAt W w.heap.size [S0,S0,S0,S0] 59):=hid (by
  rw[hW];exact(Zbal.block _ (by simp)).trans bnw)
 have b2:Hid (RdAt W (w.heap.size+1) s 0):=hid (by
  rw[hW];have:=Go.Deep.blk_alloc_new (w.alloc (.cells #[S0,S0,S0,S0] 59)) (.cells #[.string s,Vi 0] 178);rwa [Go.Deep.nblk_alloc]at this)
 have O:=hid b0;clear hW b0;refine(ZBa s (w.heap.size+1) A m w W h.out a9.out O.out b2.out).mono ?_;rintro e G ⟨v,err,rfl,i,P⟩;have p:Hid (BW w G):=hid (ZbV O.out P h.b);have f:=hid (b1.grown P (by intro e;injection e with e;omega));clear P b1 b2 O;cases t:Z2 (bl s)with
 | error x=>
  obtain⟨fa,rfl⟩:=i.kq t;obtain⟨B,C,⟨a0,a1,a2,a3,n0,n1,n2,n3,e0,e1,e2,e3,rfl⟩,_⟩:=i.err t;have o:Hid (Zb7 (bl s)=.error x):=hid (by rw[ZoM,t]);have Q:=hid C;have R:=hid B;have c6:=f.lt;clear i t B C;have f0:=f.frozen;have c0:=f.cell;go_wp2;change bodyPost _ _ _ _ _ ((set4 G w.heap.size S0 S0 S0 S0).alloc (.cells #[.slice a0 n0 e0,.slice a1 n1 e1,.slice a2 n2 e2,.slice a3 n3 e3] 59));have st:=(Zgs f.out (x:=S0) (y:=S0) (z:=S0) (u:=S0)).below ((Yaf _ _).alloc (Yac _) (.cells #[.slice a0 n0 e0,.slice a1 n1 e1,.slice a2 n2 e2,.slice a3 n3 e3] 59));have s0:=st.cell 0;have s1:=st.cell 1;have s2:=st.cell 2;have s3:=st.cell 3;simp only[Zget]at s0 s1 s2 s3;have S:=hid ((Zgt p.out (Yac _) S0 S0 S0 S0).alloc (Zgt p.out (Yac _) S0 S0 S0 S0).size (.cells #[.slice a0 n0 e0,.slice a1 n1 e1,.slice a2 n2 e2,.slice a3 n3 e3] 59));have c9:=hid ((Q.jm f.out (Zg8 G w.heap.size S0 S0 S0 S0) Dc).below ((Yaf _ _).alloc (Yac _) (.cells #[.slice a0 n0 e0,.slice a1 n1 e1,.slice a2 n2 e2,.slice a3 n3 e3] 59)));generalize(set4 G w.heap.size S0 S0 S0 S0).alloc (.cells #[.slice a0 n0 e0,.slice a1 n1 e1,.slice a2 n2 e2,.slice a3 n3 e3] 59)=WX at *
  exact bodyPost_ret (v:=.tuple #[.agg #[S0,S0,S0,S0],.iface 81 (Vp fa)]) (by simp[results,results38,go_sem,s0,s1,s2,s3]) rfl ⟨_,_,rfl,hid (DecC.qq o.out ⟨rfl,Or.inl ⟨R.out,c9.out⟩⟩),S.out⟩
 | ok x=>
  obtain⟨c,q⟩:=x;obtain⟨rfl,H,D⟩:=i.ok t;obtain⟨a0,a1,a2,a3,n0,n1,n2,n3,e0,e1,e2,e3,rfl⟩:=H.shape;have hq:=Zud t;simp only at hq D H;rw[Zd]at hq;have b3:=hid D;have b4:=hid H
  have l:Hid (Zb7 (bl s)=if (bl s).length<q+4 then .error (9,(bl s).length)else if q+4<(bl s).length then .error (9,q+4)else
    if back ((bl s).drop q)≠sumQ ((bl s).take q)then .error (10,0)else .ok c):=hid (by rw[ZoM,t])
  have rc:=D.cell 1;simp only[Zget]at rc;have c6:=f.lt;have d8:=D.lt;clear i t D H
  go_wp2_with fail
  refine Zm fun W2 T=>?_;have E:BW G W2:=by rw[T];exact Zbal
  have U:Hid (BW w W2):=hid (p.trans (E.mono p.size));have b5:=hid (f.below E);have V:=hid (b3.below E);have b6:Hid (BAt W2 G.heap.size [.slice a0 n0 e0,.slice a1 n1 e1,.slice a2 n2 e2,.slice a3 n3 e3] 59):=hid (by rw[T];exact bnw);have X:=hid (b4.below E);clear T E rc f p b3 b4;refine(Zis s q 4 (w.heap.size+1) _ W2 V.out (h.code U.out) hq a9.out Om).mono ?_;rintro e w3 ⟨v,err,rfl,i,F⟩;have j:Hid (BW w w3):=hid (ZbV U.out F h.b);have a:=hid (b5.grown F (by intro e;injection e with e;omega));have b7:=hid (b6.grown F (by intro e;injection e with e;omega));have c7:=hid (X.jm V.out F Dc Dc Dc Dc Dc Dc);have d6:=a.lt;have d7:=b7.lt;clear F b5 b6 X V U;have f0:=a.frozen;have c0:=a.cell 0;have c1:=a.cell 1;have c2:=a.cell 2;have c3:=a.cell 3;simp only[Zget]at c0 c1 c2 c3;cases d:Zbr (bl s) q 4 with
  | error x=>
   obtain⟨fa,rfl⟩:=i.kq d;obtain⟨B,C,rfl,_⟩:=i.err d
   have Y:x=(9,(bl s).length)/\(bl s).length<q+4:=by
    unfold Zbr at d;cases g:Zcg (bl s) q 4 with
    | ok y=>rw[g]at d;cases d
    | error y=>
     rw[g]at d;injection d with d;unfold Zcg at g;split at g
     ·injection g with g;exact⟨by rw[<-d,<-g],by assumption⟩
     ·cases g
   have o:Hid (Zb7 (bl s)=.error x):=hid (by rw[l.out,if_pos Y.2,Y.1]);have Q:=hid C;have R:=hid B;clear i d B C Y l;go_wp2;exact ret4 (r:=.tuple #[.agg #[S0,S0,S0,S0],.iface 81 (Vp fa)]) (fun W s0 s1 s2 s3=>by simp[results,results38,go_sem,s0,s1,s2,s3]) rfl a.out ⟨_,_,rfl,hid (DecC.qq o.out ⟨rfl,Or.inl ⟨R.out,Q.jm a.out (Zg8 w3 w.heap.size S0 S0 S0 S0) Dc⟩⟩),Zgt j.out (Yac _) S0 S0 S0 S0⟩
  | ok x=>
   obtain⟨n,q2⟩:=x;obtain⟨rfl,rfl,I⟩:=i.ok d;obtain⟨b8,Z,J,a4⟩:=Zev d;simp only at b8 Z J a4 I;have a4:n<4294967296:=a4;rw[Zd]at b8;have d9:=hid I;have b9:=hid Z;have rc:=I.cell;have e4:=hid J;have a5:q2=q+4:=J;clear i d Z J I;by_cases e5:q2<s.size
   ·have o:Hid (Zb7 (bl s)=.error (9,q2)):=hid (by rw[l.out,if_neg (by rw[Zd];omega),if_pos (by rw[Zd];omega),a5]);have d0:(q2:Int)<s.size:=by omega
    clear l a5
    go_wp2_with fail
    refine(ZfX _ (h.code j.out)).mono ?_;rintro e w4 ⟨v,rfl,M,a6⟩;have Q:=M;have d1:Hid (BW w w4):=hid (j.trans (a6.mono j.size));have K:=hid (a.below a6);obtain⟨fa,rfl⟩:=ZM.shape M.out;clear a6 a f0 c0 c1 c2 c3 rc M;have f0:=K.frozen;have c0:=K.cell;go_wp2;exact ret4 (r:=.tuple #[.agg #[S0,S0,S0,S0],.iface 81 (Vp fa)]) (fun W s0 s1 s2 s3=>by simp[results,results38,go_sem,s0,s1,s2,s3]) rfl K.out ⟨_,_,rfl,hid (DecC.qq o.out ⟨rfl,Or.inl ⟨rfl,Q.jm K.out (Zg8 w4 w.heap.size S0 S0 S0 S0) Dc⟩⟩),Zgt d1.out (Yac _) S0 S0 S0 S0⟩
   ·have d0:¬(q2:Int)<s.size:=by omega
    have e6:q+4=s.size:=by omega
    have L:bl (s.extract 0 q)=(bl s).take q:=by rw[Zfh];rfl
    have a7:sub (bl s) q 4=(bl s).drop q:=by unfold sub;exact Ya5 (by rw[Ybv,Zd];omega)
    have hQ:=Znn ((bl s).take q);have k:Hid (Zb7 (bl s)=if n≠sumQ ((bl s).take q)then .error (10,0)else .ok c):=hid (by rw[l.out,if_neg (by rw[Zd];omega),if_neg (by rw[Zd];omega),b9.out,a7]);have c4:(s.extract 0 q).size<=maxLen:=by unfold maxLen;rw[ByteArray.size_extract];omega
    obtain⟨SQ,a8⟩:∃SQ,SQ=sumQ ((bl s).take q):=⟨_,rfl⟩
    have c5:Hid (∀W',CP 73 #[.string (s.extract 0 q)] W' fun e w'=>e=.returned (.int .u32 SQ)/\w'=W'):=hid (fun W'=>by rw[a8,<-L];exact Zru (s.extract 0 q) W' c4);rw[<-a8]at k hQ;have d2:=hid (h.v.below j.out);have gs:w3.cell? ⟨9,0,none⟩=some (.iface 432 (.pointer (some (A 9)))):=d2.sent _ Dc;clear l a7 L a8 b9 c4 a5;by_cases he:n=SQ
    ·subst he;have o:Hid (Zb7 (bl s)=.ok c):=hid (by rw[k.out,if_neg (by simp)]);have d3:(((n:Int) % 4294967296) != (n:Int))=false:=by rw[Int.emod_eq_of_lt Om Om];simp
     have y0:=b7.cell;clear k gs
     go_wp2_with (go_at_call 73;refine(c5.out _).mono ?_;rintro e N ⟨rfl,rfl⟩)
     exact ret4 (r:=.tuple #[.agg #[.slice a0 n0 e0,.slice a1 n1 e1,.slice a2 n2 e2,.slice a3 n3 e3],.nilIface]) (fun W s0 s1 s2 s3=>by simp[results,results38,go_sem,s0,s1,s2,s3]) rfl a.out ⟨_,_,rfl,hid (DecC.mkOk o.out ⟨rfl,c7.jm a.out (Zg8 N w.heap.size (.slice a0 n0 e0) (.slice a1 n1 e1) (.slice a2 n2 e2) (.slice a3 n3 e3)) Dc Dc Dc Dc Dc Dc⟩),Zgt j.out (Yac _) (.slice a0 n0 e0) (.slice a1 n1 e1) (.slice a2 n2 e2) (.slice a3 n3 e3)⟩
    ·have o:Hid (Zb7 (bl s)=.error (10,0)):=hid (by rw[k.out,if_pos he]);have d3:(((n:Int) % 4294967296) != (SQ:Int))=true:=by rw[Int.emod_eq_of_lt Om Om,bne_iff_ne];omega
     clear k
     go_wp2_with (go_at_call 73;refine(c5.out _).mono ?_;rintro e N ⟨rfl,rfl⟩)
     have e7:=h.n;have d4:Hid (BAt N.drew w.heap.size [S0,S0,S0,S0] 59):=hid (a.below ((Yaf _ _).drew));have d5:Hid (BW w N.drew):=hid (j.drew);have h9:¬w.heap.size=9:=by omega
     have e8:¬9=w.heap.size:=by omega
     go_region
     all_goals
      go_wp2;change bodyPost _ _ _ _ _ (set4 N.drew w.heap.size S0 S0 S0 S0);have st:=Zgs d4.out (x:=S0) (y:=S0) (z:=S0) (u:=S0);have s0:=st.cell 0;have s1:=st.cell 1;have s2:=st.cell 2;have s3:=st.cell 3;simp only[Zget]at s0 s1 s2 s3;have S:=hid (Zgt d5.out (Yac _) S0 S0 S0 S0);generalize set4 N.drew w.heap.size S0 S0 S0 S0=WX at *
      exact bodyPost_ret (v:=.tuple #[.agg #[S0,S0,S0,S0],.iface 432 (.pointer (some (A 9)))]) (by simp[results,results38,go_sem,s0,s1,s2,s3]) rfl ⟨_,_,rfl,hid (DecC.qq o.out ⟨rfl,Or.inr ⟨rfl,rfl⟩⟩),S.out⟩
abbrev StAt (w:World) (nb:Nat) (a:Ah):Prop:=BAt w nb (stC a) 262
theorem StAt.cells{a:Ah}(h:StAt w nb a):w.cell? ⟨nb,0,none⟩=some (.bool a.qy)/\w.cell? ⟨nb,1,none⟩=some (.bool a.qz)/\w.cell? ⟨nb,2,none⟩=some (Vi a.jz.length):=
 ⟨(h.cell 0).trans (ZcA a 0 Dc),(h.cell 1).trans (ZcA a 1 Dc),(h.cell 2).trans (ZcA a 2 Dc)⟩
theorem StAt.jz{a:Ah}(h:StAt w nb a)(j:Nat)(c:j<64):w.cell? ⟨nb,3+j,none⟩=some (.int .u8 ((a.jz.reverse.getD j 0:Nat):Int)):=(h.cell _).trans (Zni a j c)
theorem StAt.slot{a:Ah}(h:StAt w nb a)(j:Nat)(c:j<16):w.cell? ⟨nb,67+j,none⟩=some (.int .u8 ((a.jy.getD j 0:Nat):Int)):=(h.cell _).trans (Znh a j c)
def putK(k:Nat)(a:Ah):Option Ah:=if k=0∨a.jz.length=64 then none else some { a with jz:=k::a.jz }
theorem Zfo (k : Nat) (w : World) : CP 188 #[.int .u8 k] w fun e u => e = .returned (.bool (Zby k)) /\ u = w := by
  by_cases a:k=1
  · subst a
    go_enter func188,ntmps188;go_wp2;go_ret;exact⟨rfl,rfl⟩
  · by_cases c:k=2
    · subst c
      go_enter func188,ntmps188;go_wp2;go_ret;exact⟨rfl,rfl⟩
    · have d:Hid (Zby k=false):=hid (by unfold Zby;simp[a,c])
      have e1:((k:Int) == 1)=false:=by rw[beq_eq_false_iff_ne];omega
      have e2:((k:Int) == 2)=false:=by rw[beq_eq_false_iff_ne];omega
      go_enter func188,ntmps188;go_wp2;go_ret;exact⟨Zcy d.symm,rfl⟩
theorem Zeb(nb:Nat)(a:Ah)(k:Nat)(w:World)(h:StAt w nb a)(o:a.jz.length<=64) :
  CP 185 #[Vp nb,.int .u8 k] w fun e u=>e=.returned (.bool (putK k a).isSome)/\Hid (∀a',putK k a=some a'->StAt u nb a')/\w.grownBy u (some nb):=by
 obtain⟨c0,c1,c2⟩:=h.cells;have H:=hid h;by_cases j:k=0
 ·subst j;have c:Hid (putK 0 a=none):=hid (if_pos (.inl rfl));clear h c0 c1;go_enter func185,ntmps185;go_wp2;go_ret;exact⟨by rw[c];rfl,hid (fun a' e=>by rw[c]at e;cases e),ZbM _ _⟩
 ·have m:((k:Int) == 0)=false:=by rw[beq_eq_false_iff_ne];omega
  by_cases d:a.jz.length=64
  ·have c:Hid (putK k a=none):=hid (if_pos (.inr d));rw[d]at c2;clear h c0 c1;go_enter func185,ntmps185;go_wp2;go_ret;exact⟨by rw[c];rfl,hid (fun a' e=>by rw[c]at e;cases e),ZbM _ _⟩
  ·have g:Hid (putK k a=some _):=hid (if_neg Om);have f:a.jz.length<64:=by omega
   have q:((a.jz.length:Int) == 64)=false:=by rw[beq_eq_false_iff_ne];omega
   have d0:=h.jz _ f;have f0:=h.frozen (3+a.jz.length);have f2:=h.frozen 2
   have i:Hid (StAt ((w.drew.setCell ⟨nb,3+a.jz.length,none⟩ (.int .u8 k)).setCell ⟨nb,2,none⟩ (Vi ((a.jz.length+1:Nat)))) nb { a with jz:=k::a.jz }):=by
    have:=((h.below ((Yaf _ _).drew)).setk (3+a.jz.length) (.int .u8 k)).setk 2 (Vi ((a.jz.length+1:Nat)));rw[ZCG a k f]at this;exact this
   have l:Hid (w.grownBy ((w.drew.setCell ⟨nb,3+a.jz.length,none⟩ (.int .u8 k)).setCell ⟨nb,2,none⟩ (Vi ((a.jz.length+1:Nat):Int))) (some nb)):=hid (ZA (p:=⟨nb,2,none⟩) (ZA (p:=⟨nb,3+a.jz.length,none⟩) (Zdi (ZbM _ _)) (Or.inl rfl) _) (Or.inl rfl) _);generalize r:a.jz.length=n at *
   clear h c0 c1;go_enter func185,ntmps185;go_wp2
   go_region
   all_goals
    go_wp2;go_ret;exact⟨by rw[g];rfl,hid (fun a' e=>by rw[g]at e;injection e with e;subst e;exact i),l⟩
theorem Zec(nb:Nat)(a:Ah)(w:World)(h:StAt w nb a)(l:a.jz.length<=64) :
  CP 187 #[Vp nb] w fun e u=>e=.returned (.int .u8 ((a.jz.headD 0:Nat):Int))/\Hid (StAt u nb { a with jz:=a.jz.tail })/\w.grownBy u (some nb):=by
 obtain⟨c0,c1,c2⟩:=h.cells;have H:=hid h;cases c:a.jz with
 | nil=>
  rw[c]at c2
  have m:Hid (StAt w nb { a with jz:=([]).tail }):=by
   have : { a with jz:=([]).tail }=a:=by rw[<-show a.jz=([]).tail from c]
   rw[this];exact h
  clear h c0 c1 c;go_enter func187,ntmps187;go_wp2;go_ret;exact⟨rfl,m,ZbM _ _⟩
 | cons k r=>
  have d:a.jz.length=r.length+1:=by rw[c];rfl
  have o:r.length<64:=by omega
  have d0:w.cell? ⟨nb,3+r.length,none⟩=some (.int .u8 (k)):=by
   have:=h.jz _ o;rw[c]at this;rw[this];simp
  have f0:=h.frozen (3+r.length);have f2:=h.frozen 2;rw[d]at c2;have t:(((r.length:Int)+1) == 0)=false:=by rw[beq_eq_false_iff_ne];omega
  have f : Hid (∀ W : World, (∀ j, W.heap[j]? = w.heap[j]?) -> StAt _ _ _) := hid (fun W q => by
    have s:StAt W _ a:=(q _).trans h;have g:=(s.setk 2 (Vi (r.length))).setk (3+r.length) (.int .u8 0);have i:=ZCF a l Om;rw[d,Yen]at i;rw[i,show a.jz.tail=r by rw[c];rfl]at g;exact g)
  rw[show(k::r).headD 0=k from rfl,show(k::r).tail=r from rfl];generalize r.length=n at *
  clear h c0 c1 c d H;go_enter func187,ntmps187;go_wp2
  go_region
  all_goals
   go_wp2
   go_region
   all_goals
    go_wp2;go_ret;exact⟨rfl,hid (f.out w (fun _=>rfl)),ZA (p:=⟨nb,3+n,none⟩) (Zdi (Zdi (ZA (p:=⟨nb,2,none⟩) (ZbM _ _) (Or.inl rfl) _))) (Or.inl rfl) _⟩
theorem Zuq {op arg:Nat}  : CP 143 #[.agg #[Vi op, Vi arg]] w fun e u => e = .returned (.bool (ZcE op)) /\ BW w u := by
  by_cases a:op=9
  · subst a
    go_enter func143,ntmps143;go_wp2;go_ret;exact⟨rfl,belB⟩
  · by_cases c:op=10
    · subst c
      go_enter func143,ntmps143;go_wp2;go_ret;exact⟨rfl,belB⟩
    · have d:Hid (ZcE op=false):=hid (by unfold ZcE;simp[a,c])
      have e1:((op:Int) == 9)=false:=by rw[beq_eq_false_iff_ne];omega
      have e2:((op:Int) == 10)=false:=by rw[beq_eq_false_iff_ne];omega
      go_enter func143,ntmps143;go_wp2;go_ret;exact⟨Zcy d.symm,belB⟩
theorem ZwQ (op arg : Nat) (w : World) : CP 146 #[.agg #[Vi op, Vi arg]] w fun e u => e = .returned (.bool (Zf4 op)) /\ BW w u := by
  by_cases a:op=12
  · subst a
    go_enter func146,ntmps146;go_wp2;go_ret;exact⟨rfl,belB⟩
  · by_cases c:op=13
    · subst c
      go_enter func146,ntmps146;go_wp2;go_ret;exact⟨rfl,belB⟩
    · have d:Hid (Zf4 op=false):=hid (by unfold Zf4;simp[a,c])
      have e1:((op:Int) == 12)=false:=by rw[beq_eq_false_iff_ne];omega
      have e2:((op:Int) == 13)=false:=by rw[beq_eq_false_iff_ne];omega
      go_enter func146,ntmps146;go_wp2;go_ret;exact⟨Zcy d.symm,belB⟩
theorem ZpY (nm : BA) (la : Option Addr) (ln lc n : Nat) (w : World) : CP 116 #[.agg #[.string nm, .slice la ln lc, Vi n]] w fun e u => e = .returned (.bool (decide (0 < n))) /\ BW w u := by
  by_cases h:0<n
  · have a:(0:Int)<n:=by omega
    go_enter func116,ntmps116;go_wp2;go_ret;exact⟨Zcy (by simp[h]),belB⟩
  · have a:¬(0:Int)<n:=by omega
    go_enter func116,ntmps116;go_wp2;go_ret;exact⟨Zcy rfl,belB⟩
theorem Zxw {nm:BA} {la:Option Addr} {ln lc n:Nat} (nd : Nd) (w : World) : CP 186 #[.agg #[.string nm, .slice la ln lc, Vi n]] w fun e u => e = .returned (.int .u8 (Zb3 (nd, n) : Nat)) /\ BW w u := by
  go_enter func186,ntmps186
  go_wp2_with fail
  refine Zm fun W i=>?_;have a:Below _ w W:=i▸Zbal;have c:=hid a;clear i a;refine(ZpY _ _ _ _ n W).mono ?_;rintro e j ⟨rfl,d⟩;have f:=hid (c.trans (d.mono c.size));clear d;by_cases h:0<n
  · have hd:decide (0<n)=true:=by simp[h]
    have g:Hid (Zb3 (nd,n)=3):=hid (if_pos h);rw[hd];clear hd h;go_wp2;go_ret;exact⟨by rw[g];rfl,f⟩
  · have hd:decide (0<n)=false:=by simp[h]
    have g:Hid (Zb3 (nd,n)=2):=hid (if_neg h);rw[hd];clear hd h;go_wp2;go_ret;exact⟨by rw[g];rfl,f⟩
theorem ZAZ(c:k≠0)(a:Ah):(putK k a).isSome=(ZE k a.jz a.jy).isSome/\∀st sl,ZE k a.jz a.jy=some (st,sl)->putK k a=some { a with jz:=st,jy:=sl }:=by
 unfold putK ZE;by_cases h:a.jz.length=64
 ·rw[if_pos (.inr h),if_pos h];exact⟨rfl,fun _ _ e=>by cases e⟩
 ·rw[if_neg (by rintro(e|e) <;> contradiction),if_neg h];exact⟨rfl,fun st sl e=>by injection e with e;injection e with e1 e2;subst e1;subst e2;rfl⟩
theorem ZA0(a:Ah):putK 0 a=none:=if_pos (.inl rfl)
def ZT(w w':World)(nb:Nat)(a:Ah)(r:Option (List Nat×List Nat))(ok:Bool):Prop:=ok=r.isSome/\(∀st sl,r=some (st,sl)->StAt w' nb { a with jz:=st,jy:=sl })/\w.grownBy w' (some nb)
theorem ZT.put{a a1:Ah}(f:k≠0)(g:r=ZE k a1.jz a1.jy)(c:a1.qy=a.qy/\a1.qz=a.qz)(h:∀a',putK k a1=some a'->StAt w' nb a')(i:w.grownBy w' (some nb)):ZT w w' nb a r (putK k a1).isSome:=by
 have d:=ZAZ f a1;subst g;refine⟨d.1,fun st sl e=>?_,i⟩;have:=h _ (d.2 _ _ e);rw[c.1,c.2]at this;exact this
theorem ZT.no{a:Ah}(c:r=none)(d:w.grownBy w' (some nb)):ZT w w' nb a r false:=by
 subst c;exact⟨rfl,(fun _ _ e=>(by cases e)),d⟩

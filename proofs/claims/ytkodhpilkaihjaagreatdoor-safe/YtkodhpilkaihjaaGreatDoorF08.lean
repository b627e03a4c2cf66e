/- Parts. -/
import Derived.Test.YtkodhpilkaihjaaGreatDoorF07
set_option linter.all false
set_option maxRecDepth 100000
set_option maxHeartbeats 16000000
namespace Go.Proofs.YtkodhpilkaihjaaGreatDoor
open Go.RowKit LS Go.Proofs.Tryz
def ZdI(l:LB):RdR Unit:=if l.head?≠some 103 then .error (9,0)else .ok ((),1)
theorem ZwT(s:BA)(h:0<s.size):(bl s).head?=some s[0]:=by
 rw[Yd1,List.getElem?_eq_getElem (by rw[Zd];exact h),ZgE s 0 h]
theorem ZA9(s:BA)(b:Nat){ca:Addr}(w:World)(E:RdAt w b s 0)(B:Zc5 w ca)(K:20<=b)(F:s.size<=maxLen) :
  CP 135 #[Vp b] w fun e u=>∃err,e=.returned err/\Hid (RdC (fun _ _ _=>True) (fun _=>True) u b s ca (ZdI (bl s)) .nilIface err)/\w.grownBy u (some b):=by
 have n:Hid (CP 144 #[Vp b,Vi (1:Nat)] w _):=hid (Zm1 s 0 1 b ca w E B (Yag _) F Om);have G:Hid (Zc5 w ca):=B;clear E B F;go_enter func135,ntmps135
 go_wp2_with fail
 refine n.mono ?_;rintro e o ⟨v,err,rfl,i,p⟩;cases a:Zcg (bl s) 0 1 with
 | error x=>
  obtain⟨L,q,rfl,H⟩:=i.err a;obtain⟨fa,rfl⟩:=ZM.shape q
  have C:s.size=0/\x=(9,0):=by
   unfold Zcg at a;rw[Zd]at a;split at a
   ·injection a with a;exact⟨by omega,by rw[<-a];congr 1;omega⟩
   ·cases a
  have j : Hid (RdC (fun _ _ _ => True) (fun _ => True) o b s ca (ZdI (bl s)) .nilIface (.iface 115 (Vp fa))) := hid (RdC.ku (x := (9, 0)) (by
    unfold ZdI;rw[if_pos];rw[Ya3 (l:=bl s) (by rw[Zd];exact C.1)];simp) ⟨rfl,by rw[C.2]at q;exact q,trivial,H⟩)
  clear i n a L q H C;go_wp2;go_ret;exact⟨_,rfl,j,p⟩
 | ok x=>
  obtain⟨rfl,⟨t,rfl,d⟩,r⟩:=i.ok a;obtain⟨f,g,k⟩:=Zhh a;rw[Zd]at f;have O:t.size=1:=by rw[ZU d,g,Zki (by rw[Zd];exact f)]
  have h:some t[0]=(bl s).head?:=by
   rw[<-ZwT t Om,d,g];unfold sub;rw[List.drop_zero,List.head?_take,if_neg Dc]
  have A:Hid (RdAt o b s 1):=hid (by rw[k]at r;exact r);have I:Hid (Zc5 o ca):=hid (G.grown p K);by_cases c:t[0]=103
  ·have j:Hid (RdC (fun _ _ _=>True) (fun _=>True) o b s ca (ZdI (bl s)) .nilIface .nilIface):=hid (RdC.mkOk (x:=((),1)) (by unfold ZdI;rw[<-h,c];rfl) ⟨rfl,trivial,A.out⟩);have M:((t[0].toNat:Int) != 103)=false:=by rw[c];rfl
   clear i n a r d g k f h c;go_wp2;go_ret;exact⟨_,rfl,j,p⟩
  ·have M:((t[0].toNat:Int) != 103)=true:=by
    rw[bne_iff_ne];intro e;exact c (Ydf.1 (by show _=103;omega))
   have N:Hid (ZdI (bl s)=.error (9,0)):=hid (by
    unfold ZdI;rw[<-h,if_pos];intro e;injection e with e;exact c e)
   clear i n a r d g k f h c
   go_wp2_with fail
   refine(ZfX ca I.out).mono ?_;rintro e z ⟨v,rfl,D,m⟩;have j:Hid (RdC (fun _ _ _=>True) (fun _=>True) z b s ca (ZdI (bl s)) .nilIface v):=hid (RdC.ku N.out ⟨rfl,D.out,trivial,1,A.below m⟩);have J:Hid (w.grownBy z (some b)):=hid (ZeT p m);obtain⟨fa,rfl⟩:=ZM.shape D.out;clear D m;go_wp2;go_ret;exact⟨_,rfl,j,J.out⟩
def KV(_:World)(a:Int)(v:Value):Prop:=v=Vi a
theorem ZCg{v:Nat}(a:v<4294967296):wrap32 (v:Int)=Zdp v:=by
 unfold Zdp wrap32;split <;> omega
theorem ZBb(s:BA)(p b:Nat){ca:Addr}(w:World)(l:RdAt w b s p)(m:Zc5 w ca)(L:20<=b)(M:p<=s.size)(A:s.size<=maxLen) :
  CP 137 #[Vp b] w fun e u=>∃v err,e=.returned (.tuple #[v,err])/\Hid (RdC KV NZ u b s ca (ZbW (bl s) p) v err)/\w.grownBy u (some b):=by
 have B:Hid (CP 75 #[Vp b,Vi (4:Nat)] w _):=hid (Zis s p 4 b ca w l m M A Om);have C:Hid (Zc5 w ca):=m;have c1:w.cell? ⟨b,1,none⟩=some (Vi p):=l.cell 1;clear l m A;go_enter func137,ntmps137
 go_wp2_with fail
 refine B.mono ?_;rintro e n ⟨v,err,rfl,g,h⟩;clear c1 B;cases c:Zbr (bl s) p 4 with
 | error x=>
  obtain⟨D,o,rfl,E⟩:=g.err c;obtain⟨fa,rfl⟩:=ZM.shape o;have d:Hid (RdC KV NZ n b s ca (ZbW (bl s) p) (Vi 0) (.iface 115 (Vp fa))):=hid (RdC.ku (x:=x) (by unfold ZbW;rw[c]) ⟨D,o,rfl,E⟩);clear g c D o E;go_wp2;go_ret2;exact⟨_,_,rfl,d,h⟩
 | ok x=>
  obtain⟨x1,x2⟩:=x;obtain⟨rfl,rfl,q⟩:=g.ok c;have a:=(Zev c).2.2.2;simp only at q a;have k:=hid q;have a:x1<4294967296:=a;have N:=ZCg a;have O:=ZCf a;have i:Hid (ZbW (bl s) p=if Zdp x1 < -1000000000∨1000000000<Zdp x1 then .error (9,p)else .ok (Zdp x1,x2)):=hid (by unfold ZbW;rw[c]);have F:Hid (Zc5 n ca):=hid (C.grown h L);clear g c q;generalize Zdp x1=z at *
  by_cases j:z < -1000000000∨1000000000<z
  ·have r:Hid (ZbW (bl s) p=.error (9,p)):=hid (by rw[i.out,if_pos j]);have G:(decide (z < -1000000000) || decide (1000000000<z))=true:=by simpa using j
   clear i;by_cases H:z < -1000000000
   all_goals
    have I:wrap64 z=z:=by unfold wrap64;omega
    go_wp2_with fail
    refine(ZfX ca F.out).mono ?_;rintro e J ⟨v,rfl,t,f⟩;have d:Hid (RdC KV NZ J b s ca (ZbW (bl s) p) (Vi 0) v):=hid (RdC.ku r.out ⟨rfl,t.out,rfl,_,k.below f⟩);have K:Hid (w.grownBy J (some b)):=hid (ZeT h f);obtain⟨fa,rfl⟩:=ZM.shape t.out;clear t f;go_wp2;go_ret2;exact⟨_,_,rfl,d,K.out⟩
  ·have r:Hid (ZbW (bl s) p=.ok (z,x2)):=hid (by rw[i.out,if_neg j]);have G : -1000000000<=z:=by omega
   have H:z<=1000000000:=by omega
   have I:wrap64 z=z:=by unfold wrap64;omega
   have d:Hid (RdC KV NZ n b s ca (ZbW (bl s) p) (Vi z) .nilIface):=hid (RdC.mkOk r.out ⟨rfl,rfl,k.out⟩);clear i j;go_wp2;go_ret2;exact⟨_,_,rfl,d,h⟩
theorem RdC.kept{α:Type}{V:World->α->Value->Prop}{Z:Value->Prop}{w w':World}{b:Nat}{s:BA}{ca:Addr}{r:RdR α}{v err:Value}(h:RdC V Z w b s ca r v err){a:Nat}{c:List Value}{t:TypeId}(i:w.grownBy w' (some a))(d:BAt w a c t)(g:t≠178)(k:t≠119)(l:∀x,V w x v->V w' x v):RdC V Z w' b s ca r v err:=by
 have j : ∀ p, RdAt w b s p -> RdAt w' b s p := fun p f => f.grown i (fun e => by
   injection e with e;subst e;unfold RdAt at f;unfold BAt at f d;rw[f]at d;injection d with d;injection d with _ e2;exact g e2.symm)
 cases r with
 | ok x=>exact⟨h.1,l _ h.2.1,j _ h.2.2⟩
 | error x=>
  obtain⟨g,m,n,p,o⟩:=h;exact⟨g,m.grown i d k,n,p,j _ o⟩
theorem Zka(w:World)(a:Nat)(x y:Value):w.grownBy (set2 w a x y) (some a):=ZA (ZA (ZbM w (some a)) (Or.inl rfl) _) (Or.inl rfl) _
def IV(_:World)(a:Nat×Nat)(v:Value):Prop:=v=.agg #[Vi a.1,Vi a.2]
def IZ(v:Value):Prop:=∃x y:Int,v=.agg #[Vi x,Vi y]
theorem RdC.km{α β:Type}{V:World->α->Value->Prop}{Z:Value->Prop}{V':World->β->Value->Prop}{Z':Value->Prop}{w:World}{b:Nat}{s:BA}{ca:Addr}{r:RdR α}{r':RdR β}{v v' err:Value}{x:Nat×Nat}(h:RdC V Z w b s ca r v err)(c:r=.error x)(a:r'=.error x)(d:Z' v'):RdC V' Z' w b s ca r' v' err:=by
 obtain⟨e,f,_,g⟩:=h.err c;exact RdC.ku a ⟨e,f,d,g⟩
theorem RdC.jn{α:Type}{V:World->α->Value->Prop}{Z:Value->Prop}{w:World}{b:Nat}{s:BA}{ca:Addr}{r:RdR α}{v err:Value}{x:Nat×Nat}(h:RdC V Z w b s ca r v err)(a:r=.error x):∃fa:Nat,err=.iface 115 (Vp fa):=ZM.shape (h.err a).2.1
theorem ZBy(s:BA)(p b:Nat){ca:Addr}(w:World)(E:RdAt w b s p)(U:Zc5 w ca)(hb:20<=b)(hp:p<=s.size)(V:s.size<=maxLen) :
  CP 143 #[Vp b] w fun e u=>∃v err,e=.returned (.tuple #[v,err])/\Hid (RdC IV IZ u b s ca (ZbN (bl s) p) v err)/\w.grownBy u (some b):=by
 have a3:=E.lt;have X:Hid (∀(p n:Nat) (w:World),RdAt w b s p->Zc5 w ca->p<=s.size->n<=4->CP 75 #[Vp b,Vi n] w _):=hid (fun p n w F P Q h4=>Zis s p n b ca w F P Q V h4);have Y:Hid (Zc5 w ca):=U;have Z:=hid E;have c1:w.cell? ⟨b,1,none⟩=some (Vi p):=E.cell 1;clear E U V;go_enter func143,ntmps143
 go_wp2_with fail
 refine Zm fun W R=>?_;have i:BW w W:=by rw[R];exact Zbal
 have H:Hid (BAt W w.heap.size [Vi 0,Vi 0] 184):=hid (by rw[R];exact Go.Deep.blk_alloc_new _ _);have I:Hid (w.grownBy W (some b)):=hid (Zw i);have l:=hid (Y.below i);have J:=hid (Z.below i);clear R i c1;refine(X.out p 1 W J.out l.out hp Om).mono ?_;rintro e m ⟨v,err,rfl,g,j⟩;have o:Hid (w.grownBy m (some b)):=hid (Zj I.out j);have d:=hid (H.grown j (by intro e;injection e with e;omega));have K:Hid (Zc5 m ca):=hid (l.grown j hb);clear j I H l J;cases f:Zbr (bl s) p 1 with
 | error x=>
  obtain⟨fa,rfl⟩:=g.jn f;have t:Hid (RdC IV IZ m b s ca (ZbN (bl s) p) (.agg #[Vi 0,Vi 0]) (.iface 115 (Vp fa))):=hid (g.km f (by unfold ZbN;rw[f]) ⟨0,0,rfl⟩);obtain⟨_,_,rfl,_⟩:=g.err f;clear g f;have f0:=d.frozen 0;have f1:=d.frozen 1;have c0:=d.cell 0;have c1:=d.cell 1;simp only[Zget]at c0 c1;go_wp2;exact ret2 (r:=.tuple #[.agg #[Vi 0,Vi 0],.iface 115 (Vp fa)]) (fun W s0 s1=>by simp[results,results143,go_sem,s0,s1]) rfl d.out ⟨_,_,rfl,t.kept (Zka m w.heap.size (Vi 0) (Vi 0)) d.out Dc Dc (fun _ h=>h),Zgr o.out (Yac _) (Vi 0) (Vi 0)⟩
 | ok x=>
  obtain⟨op,q⟩:=x;obtain⟨rfl,rfl,S⟩:=g.ok f;have A:=(Zev f).2.2.2;have a0:q<=s.size:=by have:=Zev f;rw[Zd]at this;simp only at this;omega
  simp only at S A;have A:op<256:=A;have L:=hid S
  have G:Hid (ZbN (bl s) p=if 13<op then .error (9,p)else match Zbr (bl s) q 2 with
   | .error e=>.error e
   | .ok y=>.ok ((op,y.1),y.2)):=hid (by unfold ZbN;rw[f];rfl)
  clear g f S;have f0:=d.frozen 0;have f1:=d.frozen 1;have c0:=d.cell 0;have c1:=d.cell 1;simp only[Zget]at c0 c1;by_cases M:13<op
  ·have B:Hid (ZbN (bl s) p=.error (9,p)):=hid (by rw[G.out,if_pos M]);have hd:(13:Int)<op:=by omega
   clear G
   go_wp2_with fail
   refine(ZfX ca K.out).mono ?_;rintro e z ⟨v,rfl,T,k⟩;have t:Hid (RdC IV IZ z b s ca (ZbN (bl s) p) (.agg #[Vi 0,Vi 0]) v):=hid (RdC.ku B.out ⟨rfl,T.out,⟨0,0,rfl⟩,_,L.below k⟩);have C:Hid (w.grownBy z (some b)):=hid (ZeT o.out k);have c:=hid (d.below k);obtain⟨fa,rfl⟩:=ZM.shape T.out;clear T k f0 f1 c0 c1;have f0:=c.frozen 0;have f1:=c.frozen 1;have c0:=c.cell 0;have c1:=c.cell 1;simp only[Zget]at c0 c1;go_wp2;exact ret2 (r:=.tuple #[.agg #[Vi 0,Vi 0],.iface 115 (Vp fa)]) (fun W s0 s1=>by simp[results,results143,go_sem,s0,s1]) rfl c.out ⟨_,_,rfl,t.kept (Zka z w.heap.size (Vi 0) (Vi 0)) c.out Dc Dc (fun _ h=>h),Zgr C.out (Yac _) (Vi 0) (Vi 0)⟩
  ·have hd:¬(13:Int)<op:=by omega
   have B:Hid (ZbN (bl s) p=match Zbr (bl s) q 2 with
    | .error e=>.error e
    | .ok y=>.ok ((op,y.1),y.2)):=hid (by rw[G.out,if_neg M])
   clear G
   go_wp2_with fail
   refine(X.out q 2 m L.out K.out a0 Om).mono ?_;rintro e z ⟨v,err,rfl,g,D⟩;have C:Hid (w.grownBy z (some b)):=hid (Zj o.out D);have c:=hid (d.grown D (by intro e;injection e with e;omega));clear D f0 f1 c0 c1;have f0:=c.frozen 0;have f1:=c.frozen 1;have c0:=c.cell 0;have c1:=c.cell 1;simp only[Zget]at c0 c1
   obtain⟨a,a1,a2,t⟩:∃a:Nat,v=Vi a/\(err=.nilIface∨∃fa:Nat,err=.iface 115 (Vp fa))/\Hid (RdC IV IZ z b s ca (ZbN (bl s) p) (.agg #[Vi op,Vi a]) err):=by
    cases f:Zbr (bl s) q 2 with
    | error x=>
     obtain⟨_,_,hz,_⟩:=g.err f;exact⟨0,hz,Or.inr (g.jn f),hid (g.km f (by rw[B.out,f]) ⟨_,_,rfl⟩)⟩
    | ok x=>
     obtain⟨F,P,Q⟩:=g.ok f;exact⟨x.1,P,Or.inl F,hid (RdC.mkOk (x:=((op,x.1),x.2)) (by rw[B.out,f]) ⟨F,rfl,Q⟩)⟩
   subst a1;clear g B;rcases a2 with rfl|⟨fa,rfl⟩
   all_goals
    go_wp2;change bodyPost _ _ _ _ _ (set2 z w.heap.size (Vi op) (Vi a));have st:=ZdS c.out (x:=Vi op) (y:=Vi a);have s0:=st.cell 0;have s1:=st.cell 1;simp only[Zget]at s0 s1;have N:=hid (t.kept (Zka z w.heap.size (Vi op) (Vi a)) c.out Dc Dc (fun _ h=>h));have O:=hid (Zgr C.out (Yac _) (Vi op) (Vi a));generalize set2 z w.heap.size (Vi op) (Vi a)=WX at *
   ·exact bodyPost_ret (v:=.tuple #[.agg #[Vi op,Vi a],.nilIface]) (by simp[results,results143,go_sem,s0,s1]) rfl ⟨_,_,rfl,N,O.out⟩
   ·exact bodyPost_ret (v:=.tuple #[.agg #[Vi op,Vi a],.iface 115 (Vp fa)]) (by simp[results,results143,go_sem,s0,s1]) rfl ⟨_,_,rfl,N,O.out⟩
theorem ZrS(s:BA)(p b:Nat){ca:Addr}(w:World)(r:RdAt w b s p)(g:Zc5 w ca)(K:20<=b)(L:p<=s.size)(h:s.size<=maxLen) :
  CP 196 #[Vp b] w fun e u=>∃v err,e=.returned (.tuple #[v,err])/\Hid (RdC SVt SZv u b s ca (ZcH (bl s) p) v err)/\w.grownBy u (some b):=by
 have A:Hid (CP 75 #[Vp b,Vi (2:Nat)] w _):=hid (Zis s p 2 b ca w r g L h Om);have M:Hid (∀(p n:Nat) (w:World),RdAt w b s p->Zc5 w ca->p<=s.size->n<=70000->CP 144 #[Vp b,Vi n] w _):=hid (fun p n w i j B N=>Zm1 s p n b ca w i j B h N);have C:Hid (Zc5 w ca):=g;clear r g h;go_enter func196,ntmps196
 go_wp2_with fail
 refine A.mono ?_;rintro e k ⟨v,err,rfl,c,l⟩;clear A;cases a:Zbr (bl s) p 2 with
 | error x=>
  obtain⟨fa,rfl⟩:=c.jn a;have m:Hid (RdC SVt SZv k b s ca (ZcH (bl s) p) (.string ⟨#[]⟩) (.iface 115 (Vp fa))):=hid (c.km a (by unfold ZcH;rw[a]) rfl);obtain⟨_,_,rfl,_⟩:=c.err a;clear c a;go_wp2;go_ret2;exact⟨_,_,rfl,m,l⟩
 | ok x=>
  obtain⟨n,q⟩:=x;obtain⟨rfl,rfl,o⟩:=c.ok a;have d:=(Zev a).2.2.2;have D:q<=s.size:=by have:=Zev a;rw[Zd]at this;simp only at this;omega
  simp only at o d;have d:n<65536:=d;have E:=hid o;have F:Hid (Zc5 k ca):=hid (C.grown l K);have G:Hid (ZcH (bl s) p=Zcg (bl s) q n):=hid (by unfold ZcH;rw[a]);clear c a o
  go_wp2_with fail
  refine(M.out q n k E.out F.out D Om).mono ?_;rintro e z ⟨v,err,rfl,c,f⟩;have H:Hid (w.grownBy z (some b)):=hid (Zj l f);have m:Hid (RdC SVt SZv z b s ca (ZcH (bl s) p) v err):=hid (by rw[G.out];exact c.out)
  obtain⟨⟨t,I⟩,J⟩:(∃t:BA,v=.string t)/\(err=.nilIface∨∃fa:Nat,err=.iface 115 (Vp fa)):=by
   cases a:Zcg (bl s) q n with
   | error x=>
    obtain⟨_,_,O,_⟩:=c.err a;exact⟨⟨_,O⟩,Or.inr (c.jn a)⟩
   | ok x=>
    obtain⟨i,⟨t,j,_⟩,B⟩:=c.ok a;exact⟨⟨t,j⟩,Or.inl i⟩
  subst I;clear f c G;rcases J with rfl|⟨fa,rfl⟩
  all_goals
   go_wp2;go_ret2;exact⟨_,_,rfl,m,H.out⟩
def OneC{α:Type}(f:FuncId)(V:World->α->Value->Prop)(Z:Value->Prop)(w0:World)(b:Nat)(s:BA)(ca:Addr)(one:Nat->RdR α):Prop:=
 ∀(p:Nat) (w:World),BW w0 w->RdAt w b s p->p<=s.size->
  CP f #[Vp b] w fun e w'=>∃v err,e=.returned (.tuple #[v,err])/\Hid (RdC V Z w' b s ca (one p) v err)/\w.grownBy w' (some b)
theorem ZbV{w0 w w':World}{b:Nat}(h:BW w0 w)(a:w.grownBy w' (some b))(d:w0.heap.size<=b):BW w0 w':=
 h.trans ⟨a.os,a.tape,a.output,a.size,fun k c=>a.block k (Yaw c h.size) (by intro e;injection e with e;omega)⟩
def RowZ(v:Value):Prop:=v=S0
def Zef(w:World)(cs:List Int)(v:Value):Prop:=w.ownsRow 0 3 1 v cs.length (cs.map (.int .i64))
theorem Tryz.infoIntV:(Tryz.prog.info? 3).map (fun i=>(i.zero,i.size,i.bytes))=some (some (Vi 0),1,8):=by kernel_rfl
theorem Tryz.infoIns:(Tryz.prog.info? 184).map (fun i=>(i.zero,i.size,i.bytes))=some (some (.agg #[Vi 0,Vi 0]),2,16):=by kernel_rfl
theorem Zj3{w w':World}{b base:Nat}{e:TypeId}{sz:Nat}{v:Value}{n:Nat}{xs:List Value}(h:w.ownsRow base e sz v n xs)(a:w.grownBy w' (some b))(c:b<base):w'.ownsRow base e sz v n xs:=
 h.kept a (Or.inr (fun e=>by have:=(h.lt b e).1;omega))
theorem ZyS(s:BA)(p n b:Nat){ca:Addr}(w0 w:World)(K:BW w0 w)(L:w0.heap.size<=b)(G:RdAt w b s p)(hp:p<=s.size)(hn:n<=65535)(one:Nat->RdR Int)(M:OneC 137 KV NZ w0 b s ca one)(l:∀p x,one p=.ok x->p<=s.size->x.2<=s.size) :
  CP 136 #[Vp b,Vi n,.func (.func 137) #[] #[]] w fun e N=>∃v err,e=.returned (.tuple #[v,err])/\Hid (RdC Zef RowZ N b s ca (many one p n) v err)/\w.grownBy N (some b):=by
 have O:=G.lt;obtain⟨i0,hi,P,Q,R⟩:=info_parts Tryz.infoIntV;have H1:=hid M;have HQ:=hid l;have H0:=hid K;have HR:=hid G;have S:=hid L;clear G M l K L;go_enter func136,ntmps136;go_wp2
 go_loopw [8, 12] (fun v i wr => ∃ (k q : Nat) (xs : List Int), k <= n /\ i = Vi k /\ q <= s.size /\ Hid (many one p k = .ok (xs, q)) /\ Hid (RdAt wr b s q) /\ xs.length = k /\ wr.ownsRow w.heap.size 3 1 v xs.length (xs.map (.int .i64)) /\ Hid (w.grownBy wr (some b)))
   (fun _ i _=>n - (intOf i).toNat)
 case atStart=>exact⟨0,p,[],Yag _,rfl,hp,hid rfl,HR,rfl,Ybc _ _ _ _,hid (ZbM _ _)⟩
 case round=>
  obtain⟨k,q,xs,hk,rfl,l,t,m,D,c,A⟩:=hrel;have g:=hid D;clear D;by_cases T:k<n
  ·have a0:(k:Int)<n:=by omega
   obtain⟨av,cp,rfl⟩:=Zl c;have U:=hid c;clear c
   go_wp2_with fail
   refine(H1.out q wr (ZbV H0.out A.out S.out) m.out l).mono ?_;rintro e B ⟨v,err,rfl,j,o⟩;have r:Hid (w.grownBy B (some b)):=hid (Zj A.out o);have a:=Zj3 U.out o O;clear o U A m;cases d:one q with
   | error x=>
    obtain⟨fa,rfl⟩:=j.jn d;have H:Hid (RdC Zef RowZ B b s ca (many one p n) S0 (.iface 115 (Vp fa))):=hid (j.km d (ZgS t.out d n T) rfl);have I:=(j.err d).2.2.1;obtain rfl:=I;clear j d a;go_wp2;go_ret2;exact⟨_,_,rfl,H,r.out⟩
   | ok x=>
    obtain⟨y,q2⟩:=x;obtain⟨rfl,hv,E⟩:=j.ok d;have V:=hid (ZjI t.out d);have F:=HQ.out q (y,q2) d l;have W:=hid E;simp only at F;have a1:w.heap.size<=B.heap.size:=r.size;obtain rfl:=hv;clear j d E t
    go_wp2_with (at_builtin;refine wpList_append_own _ rfl (.tmp 23) (.tmp 25) 53 rfl w.heap.size 3 i0 (Vi 0) 1 8 underlying53 hi P Q R rfl Dc _ _ _ rfl (a.alloc _) ⟨B.heap.size,0,none⟩ 1 1 [Vi y] rfl rfl ?c1 ?c2 ?c3 ?c4 ?c5 ?_)
    case c1=>exact ZcY rfl
    case c2=>intro u X;simp at X;rw[X];rfl
    case c3=>have:=g.out;unfold maxLen;omega
    case c4=>have:=g.out;omega
    case c5=>have:=g.out;simp;omega
    intro v' J h f _;have Y:Hid (w.grownBy J (some b)):=hid (Zfn (ZbR r.out _) f (fun z I=>(a.lt z I).1));have Z:Hid (RdAt J b s q2):=hid ((W.below Zbal).grown f (fun e=>by have:=(a.lt b e.symm).1;omega))
    have C:J.ownsRow w.heap.size 3 1 v' (xs++[y]).length ((xs++[y]).map (.int .i64)):=by
     rw[Yab,Yaq];exact h
    clear a f h;go_wp2
    go_roundw
    case rel=>exact⟨k+1,q2,xs++[y],by omega,by go_num,F,V,Z,by rw[Yab,g.out];rfl,C,Y⟩
    case measure=>simp[intOf];omega
  ·obtain rfl:k=n:=by omega
   obtain⟨av,cp,rfl⟩:=Zl c;have H:Hid (RdC Zef RowZ wr b s ca (many one p k) (.slice av xs.length cp) .nilIface):=hid (RdC.mkOk t.out ⟨rfl,Zgi c,m.out⟩);clear c;go_wp2;go_ret2;exact⟨_,_,rfl,H,A.out⟩
theorem ZmB{w w':World}{b1 b2:Nat}{e1 e2:TypeId}{s1 s2:Nat}{v1 v2:Value}{n1 n2:Nat}{xs1 xs2:List Value}(c:w.ownsRow b1 e1 s1 v1 n1 xs1)(d:w.ownsRow b2 e2 s2 v2 n2 xs2)(f:w.grownBy w' v2.ownBlock)(g:e1≠e2):w'.ownsRow b1 e1 s1 v1 n1 xs1:=
 ZdA c (fun k a => f.block k (c.lt k a).2 (fun e => by
   rcases ZmC c d g with h|h
   · rw[h]at a;cases a
   · exact h (a.trans e)))
theorem ZgZ{w w':World}{b1:Nat}{e1:TypeId}{s1:Nat}{v1:Value}{n1:Nat}{xs1:List Value}(a:w.ownsRow b1 e1 s1 v1 n1 xs1){b:Nat}{c:List Value}{t:TypeId}(f:BAt w b c t)(g:w.grownBy w' (some b))(h:t≠e1):w'.ownsRow b1 e1 s1 v1 n1 xs1:=
 ZdA a (fun k d => g.block k (a.lt k d).2 (fun e => by
   injection e with e;subst e;exact Zcx a f h d.symm))
def InsV(w:World)(is:List (Nat×Nat))(v:Value):Prop:=w.ownsRow 0 184 2 v is.length (ZdL is)
structure Pk where
 nm:BA
 la:Option Addr
 ln:Nat
 lc:Nat
 nd:Nd
 n:Nat
def Pk.enc(x:Pk):List Value:=[.string x.nm,.slice x.la x.ln x.lc,Vi x.n]
def Pk.pr(x:Pk):Nd×Nat:=(x.nd,x.n)
structure Pk.ok (w:World) (x:Pk):Prop where
 nm:bl x.nm=x.nd.name
 cs:ZX w (.slice x.la x.ln x.lc) x.nd.kq
def ZdJ(l:List Pk):List Value:=(l.map Pk.enc).flatten
theorem ZvM(l m:List Pk):ZdJ (l++m)=ZdJ l++ZdJ m:=by unfold ZdJ;rw[Yaq,Ygi]
theorem ZoU(l:List Pk)(j:Nat)(c:j<l.length):(ZdJ l)[j*3]?=some (.string l[j].nm)/\(ZdJ l)[j*3+1]?=some (.slice l[j].la l[j].ln l[j].lc)/\(ZdJ l)[j*3+2]?=some (Vi l[j].n):=by
 induction l generalizing j with
 | nil=>simp at c
 | cons a l ih=>
  have e:ZdJ (a::l)=.string a.nm::.slice a.la a.ln a.lc::.int .i64 a.n::ZdJ l:=rfl;cases j with
  | zero=>rw[e];exact⟨rfl,rfl,rfl⟩
  | succ j=>
   have h:=ih j (by simpa using c);rw[e,show(j+1)*3=j*3+1+1+1 by omega];simpa using h
def ZdG(w:World)(a:Nd×Nat)(v:Value):Prop:=∃x:Pk,v=.agg #[.string x.nm,.slice x.la x.ln x.lc,Vi x.n]/\x.pr=a/\x.ok w
def Zfc(v:Value):Prop:=v=.agg #[.string ⟨#[]⟩,S0,Vi 0]
def Zek(w:World)(ps:List (Nd×Nat))(v:Value):Prop:=∃xs:List Pk,w.ownsRow 0 294 3 v xs.length (ZdJ xs)/\xs.map Pk.pr=ps/\∀x∈xs,x.ok w
structure Gp where
 la:Option Addr
 ln:Nat
 lc:Nat
 ns:List (LB)
def Gp.ok(w:World)(x:Gp):Prop:=∃bs:List BA,w.ownsRow 0 9 1 (.slice x.la x.ln x.lc) bs.length (Zbc bs)/\((bs.map bl).Pairwise fun a b=>Op.bytesLess b a=false)/\(∀y,y∈bs.map bl ↔ y∈x.ns)/\bs.length<=70001
def ZfZ(l:List Gp):List Value:=l.map fun x=>.slice x.la x.ln x.lc
def ZfM(w:World)(a:List (LB))(v:Value):Prop:=∃x:Gp,v=.slice x.la x.ln x.lc/\x.ns=a/\x.ok w
def Zeh(w:World)(gs:List (List (LB)))(v:Value):Prop:=∃xs:List Gp,w.ownsRow 0 90 1 v xs.length (ZfZ xs)/\xs.map Gp.ns=gs/\∀x∈xs,x.ok w
theorem Pk.ok.below{w w':World}{x:Pk}(h:x.ok w)(a:BW w w'):x.ok w':=⟨h.nm,h.cs.below a⟩
theorem Pk.ok.ju{w w':World}{x:Pk}(h:x.ok w){b:Nat}{c:List Value}{t:TypeId}(a:BAt w b c t)(d:w.grownBy w' (some b))(e:t≠379):x.ok w':=by
 obtain⟨bs,f,g⟩:=h.cs;exact⟨h.nm,bs,ZgZ f a d e,g⟩
theorem Pk.ok.kept2{w w':World}{x:Pk}(h:x.ok w){b2:Nat}{e2:TypeId}{s2:Nat}{v2:Value}{n2:Nat}{xs2:List Value}(a:w.ownsRow b2 e2 s2 v2 n2 xs2)(c:w.grownBy w' v2.ownBlock)(d:379≠e2):x.ok w':=by
 obtain⟨bs,e,f⟩:=h.cs;exact⟨h.nm,bs,ZmB e a c d,f⟩
theorem Gp.ok.below{w w':World}{x:Gp}(h:x.ok w)(a:BW w w'):x.ok w':=by
 obtain⟨bs,c,d⟩:=h;exact⟨bs,Zn c a,d⟩
theorem Gp.ok.ju{w w':World}{x:Gp}(h:x.ok w){b:Nat}{c:List Value}{t:TypeId}(a:BAt w b c t)(d:w.grownBy w' (some b))(e:t≠9):x.ok w':=by
 obtain⟨bs,f,g⟩:=h;exact⟨bs,ZgZ f a d e,g⟩
theorem Gp.ok.kept2{w w':World}{x:Gp}(h:x.ok w){b2:Nat}{e2:TypeId}{s2:Nat}{v2:Value}{n2:Nat}{xs2:List Value}(a:w.ownsRow b2 e2 s2 v2 n2 xs2)(c:w.grownBy w' v2.ownBlock)(d:9≠e2):x.ok w':=by
 obtain⟨bs,e,f⟩:=h;exact⟨bs,ZmB e a c d,f⟩
theorem Tryz.infoSelC:(Tryz.prog.info? 294).map (fun i=>(i.zero,i.size,i.bytes))=some (some (.agg #[.string ByteArray.empty,S0,Vi 0]),3,48):=by kernel_rfl
theorem Tryz.infoStrs:(Tryz.prog.info? 90).map (fun i=>(i.zero,i.size,i.bytes))=some (some S0,1,24):=by kernel_rfl
theorem RdC.belowE{α:Type}{V:World->α->Value->Prop}{Z:Value->Prop}{w w':World}{b:Nat}{s:BA}{ca:Addr}{r:RdR α}{v err:Value}{x:Nat×Nat}(h:RdC V Z w b s ca r v err)(a:r=.error x)(c:BW w w'):RdC V Z w' b s ca r v err:=by
 obtain⟨d,e,f,p,g⟩:=h.err a;exact RdC.ku a ⟨d,e.below c,f,p,g.below c⟩
theorem ZyR(s:BA)(p n b:Nat){ca:Addr}(w0 w:World)(L:BW w0 w)(M:w0.heap.size<=b)(H:RdAt w b s p)(hp:p<=s.size)(hn:n<=65535)(one:Nat->RdR (Nat×Nat))(N:OneC 143 IV IZ w0 b s ca one)(l:∀p x,one p=.ok x->p<=s.size->x.2<=s.size) :
  CP 142 #[Vp b,Vi n,.func (.func 143) #[] #[]] w fun e O=>∃v err,e=.returned (.tuple #[v,err])/\Hid (RdC InsV RowZ O b s ca (many one p n) v err)/\w.grownBy O (some b):=by
 have P:=H.lt;obtain⟨i0,hi,Q,R,S⟩:=info_parts Tryz.infoIns;have H1:=hid N;have HQ:=hid l;have H0:=hid L;have HR:=hid H;have T:=hid M;clear H N l L M;go_enter func142,ntmps142;go_wp2
 go_loopw [8, 12] (fun v i wr => ∃ (k q : Nat) (xs : List (Nat × Nat)), k <= n /\ i = Vi k /\ q <= s.size /\ Hid (many one p k = .ok (xs, q)) /\ Hid (RdAt wr b s q) /\ xs.length = k /\ wr.ownsRow w.heap.size 184 2 v xs.length (ZdL xs) /\ Hid (w.grownBy wr (some b)))
   (fun _ i _=>n - (intOf i).toNat)
 case atStart=>exact⟨0,p,[],Yag _,rfl,hp,hid rfl,HR,rfl,Ybc _ _ _ _,hid (ZbM _ _)⟩
 case round=>
  obtain⟨k,q,xs,hk,rfl,l,m,o,D,c,A⟩:=hrel;have g:=hid D;clear D;by_cases E:k<n
  ·have a1:(k:Int)<n:=by omega
   obtain⟨av,cp,rfl⟩:=Zl c;have U:=hid c;clear c
   go_wp2_with fail
   refine(H1.out q wr (ZbV H0.out A.out T.out) o.out l).mono ?_;rintro e B ⟨v,err,rfl,j,r⟩;have t:Hid (w.grownBy B (some b)):=hid (Zj A.out r);have a:=Zj3 U.out r P;clear r U A o;cases d:one q with
   | error x=>
    obtain⟨fa,rfl⟩:=j.jn d;have I:Hid (RdC InsV RowZ B b s ca (many one p n) S0 (.iface 115 (Vp fa))):=hid (j.km d (ZgS m.out d n E) rfl);have J:=(j.err d).2.2.1;obtain⟨x0,y0,rfl⟩:=J;have V:=hid (ZgS m.out d n E);clear j d a;go_wp2;go_ret2;exact⟨_,_,rfl,hid (I.belowE V.out Zbal),ZbR t.out _⟩
   | ok x=>
    obtain⟨z,q2⟩:=x;obtain⟨rfl,hv,F⟩:=j.ok d;have W:=hid (ZjI m.out d);have G:=HQ.out q (z,q2) d l;have X:=hid F;simp only at G;have a2:w.heap.size<=B.heap.size:=t.size;obtain rfl:=hv;obtain⟨y,hy⟩:∃y,y=z:=⟨_,rfl⟩
    subst hy;clear j d F m
    go_wp2_with (at_builtin;refine wpList_append_own _ rfl (.tmp 23) (.tmp 25) 56 rfl w.heap.size 184 i0 (.agg #[Vi 0,Vi 0]) 2 16 underlying56 hi Q R S rfl Dc _ _ _ rfl ((a.alloc _).alloc _) ⟨B.heap.size+1,0,none⟩ 1 1 [Vi y.1,Vi y.2] rfl rfl ?c1 ?c2 ?c3 ?c4 ?c5 ?_)
    case c1=>exact ZcY (by simp)
    case c2=>intro u Y;simp at Y;rcases Y with rfl|rfl <;> rfl
    case c3=>have:=g.out;unfold maxLen;omega
    case c4=>have:=g.out;omega
    case c5=>have:=g.out;simp;omega
    intro v' K h f _;have Z:Hid (w.grownBy K (some b)):=hid (Zfn (ZbR (ZbR t.out _) _) f (fun z J=>(a.lt z J).1));have a0:Hid (RdAt K b s q2):=hid ((X.below (Zbal.alloc (by simp) _)).grown f (fun e=>by have:=(a.lt b e.symm).1;omega))
    have C:K.ownsRow w.heap.size 184 2 v' (xs++[y]).length (ZdL (xs++[y])):=by
     rw[Yab,Zwd];exact h
    clear a f h;go_wp2
    go_roundw
    case rel=>exact⟨k+1,q2,xs++[y],by omega,by go_num,G,W,a0,by rw[Yab,g.out];rfl,C,Z⟩
    case measure=>simp[intOf];omega
  ·obtain rfl:k=n:=by omega
   obtain⟨av,cp,rfl⟩:=Zl c;have I:Hid (RdC InsV RowZ wr b s ca (many one p k) (.slice av xs.length cp) .nilIface):=hid (RdC.mkOk m.out ⟨rfl,Zgi c,o.out⟩);clear c;go_wp2;go_ret2;exact⟨_,_,rfl,I,A.out⟩
theorem ZyT(s:BA)(p n b:Nat){ca:Addr}(w0 w:World)(Q:BW w0 w)(R:w0.heap.size<=b)(L:RdAt w b s p)(hp:p<=s.size)(hn:n<=65535)(one:Nat->RdR (Nd×Nat))(S:OneC 139 ZdG Zfc w0 b s ca one)(t:∀p x,one p=.ok x->p<=s.size->x.2<=s.size) :
  CP 138 #[Vp b,Vi n,.func (.func 139) #[] #[]] w fun e T=>∃v err,e=.returned (.tuple #[v,err])/\Hid (RdC Zek RowZ T b s ca (many one p n) v err)/\w.grownBy T (some b):=by
 have U:=L.lt;obtain⟨i0,hi,V,W,X⟩:=info_parts Tryz.infoSelC;have H1:=hid S;have HQ:=hid t;have H0:=hid Q;have HR:=hid L;have Y:=hid R;clear L S t Q R;go_enter func138,ntmps138;go_wp2
 go_loopw [8, 12] (fun v i wr => ∃ (k q : Nat) (xs : List Pk), k <= n /\ i = Vi k /\ q <= s.size /\ Hid (many one p k = .ok (xs.map Pk.pr, q)) /\ Hid (RdAt wr b s q) /\ xs.length = k /\ wr.ownsRow w.heap.size 294 3 v xs.length (ZdJ xs) /\ Hid (w.grownBy wr (some b)) /\ Hid (∀ x ∈ xs, x.ok wr))
   (fun _ i _=>n - (intOf i).toNat)
 case atStart=>exact⟨0,p,[],Yag _,rfl,hp,hid rfl,HR,rfl,Ybc _ _ _ _,hid (ZbM _ _),hid (fun x f=>(by cases f))⟩
 case round=>
  obtain⟨k,q,xs,hk,rfl,t,A,h,G,c,D,B⟩:=hrel;have j:=hid G;clear G;by_cases H:k<n
  ·have a7:(k:Int)<n:=by omega
   obtain⟨av,cp,rfl⟩:=Zl c;have Z:=hid c;clear c
   go_wp2_with fail
   refine(H1.out q wr (ZbV H0.out D.out Y.out) h.out t).mono ?_;rintro e o ⟨v,err,rfl,r,l⟩;have C:Hid (w.grownBy o (some b)):=hid (Zj D.out l);have a:=Zj3 Z.out l U;have M:Hid (∀x∈xs,x.ok o):=hid (fun x f=>(B.out x f).ju h.out l Dc);clear B;clear l Z D h;cases g:one q with
   | error x=>
    obtain⟨fa,rfl⟩:=r.jn g;have N:Hid (RdC Zek RowZ o b s ca (many one p n) S0 (.iface 115 (Vp fa))):=hid (r.km g (ZgS A.out g n H) rfl);have O:=(r.err g).2.2.1;obtain rfl:=O;have a0:=hid (ZgS A.out g n H);clear r g a;go_wp2;go_ret2;exact⟨_,_,rfl,hid (N.belowE a0.out Zbal),ZbR C.out _⟩
   | ok x=>
    obtain⟨z,q2⟩:=x;obtain⟨rfl,hv,I⟩:=r.ok g;have a1:=hid (ZjI A.out g);have J:=HQ.out q (z,q2) g t;have a2:=hid I;simp only at J;have a8:w.heap.size<=o.heap.size:=C.size;obtain⟨y,rfl,rfl,K⟩:=hv;have a3:=hid K;clear K;clear r g I A
    go_wp2_with (at_builtin;refine wpList_append_own _ rfl (.tmp 23) (.tmp 25) 54 rfl w.heap.size 294 i0 (.agg #[.string ByteArray.empty,S0,Vi 0]) 3 48 underlying54 hi V W X rfl Dc _ _ _ rfl ((a.alloc _).alloc _) ⟨o.heap.size+1,0,none⟩ 1 1 [.string y.nm,.slice y.la y.ln y.lc,Vi y.n] rfl rfl ?c1 ?c2 ?c3 ?c4 ?c5 ?_)
    case c1=>exact ZcY (by simp)
    case c2=>intro u hu;simp at hu;rcases hu with rfl|rfl|rfl <;> rfl
    case c3=>have:=j.out;unfold maxLen;omega
    case c4=>have:=j.out;omega
    case c5=>have:=j.out;simp;omega
    intro v' E m d _;have a4:Hid (w.grownBy E (some b)):=hid (Zfn (ZbR (ZbR C.out _) _) d (fun z O=>(a.lt z O).1));have a5:Hid (RdAt E b s q2):=hid ((a2.below (Zbal.alloc (by simp) _)).grown d (fun e=>by have:=(a.lt b e.symm).1;omega))
    have F:E.ownsRow w.heap.size 294 3 v' (xs++[y]).length (ZdJ (xs++[y])):=by
     rw[Yab,ZvM];exact m
    have P : Hid (∀ x ∈ xs ++ [y], x.ok E) := hid (fun x f => by
      have a6:x.ok o:=by
        rcases Yar.1 f with f|f
        · exact M.out x f
        · rw[Yap]at f;subst f;exact a3.out
      exact(a6.below (Zbal.alloc (by simp) _)).kept2 ((a.alloc _).alloc _) d Dc)
    clear a d m;go_wp2
    go_roundw
    case rel=>exact⟨k+1,q2,xs++[y],by omega,by go_num,J,hid (by rw[Yaq];exact a1.out),a5,by rw[Yab,j.out];rfl,F,a4,P⟩
    case measure=>simp[intOf];omega
  ·obtain rfl:k=n:=by omega
   obtain⟨av,cp,rfl⟩:=Zl c;have N:Hid (RdC Zek RowZ wr b s ca (many one p k) (.slice av xs.length cp) .nilIface):=hid (RdC.mkOk A.out ⟨rfl,⟨xs,Zgi c,rfl,B.out⟩,h.out⟩);clear c;go_wp2;go_ret2;exact⟨_,_,rfl,N,D.out⟩
theorem ZyQ(s:BA)(p n b:Nat){ca:Addr}(w0 w:World)(P:BW w0 w)(Q:w0.heap.size<=b)(K:RdAt w b s p)(hp:p<=s.size)(hn:n<=65535)(one:Nat->RdR (List (LB)))(R:OneC 141 ZfM RowZ w0 b s ca one)(t:∀p x,one p=.ok x->p<=s.size->x.2<=s.size) :
  CP 140 #[Vp b,Vi n,.func (.func 141) #[] #[]] w fun e S=>∃v err,e=.returned (.tuple #[v,err])/\Hid (RdC Zeh RowZ S b s ca (many one p n) v err)/\w.grownBy S (some b):=by
 have T:=K.lt;obtain⟨i0,hi,U,V,W⟩:=info_parts Tryz.infoStrs;have H1:=hid R;have HQ:=hid t;have H0:=hid P;have HR:=hid K;have X:=hid Q;clear K R t P Q;go_enter func140,ntmps140;go_wp2
 go_loopw [8, 12] (fun v i wr => ∃ (k q : Nat) (xs : List Gp), k <= n /\ i = Vi k /\ q <= s.size /\ Hid (many one p k = .ok (xs.map Gp.ns, q)) /\ Hid (RdAt wr b s q) /\ xs.length = k /\ wr.ownsRow w.heap.size 90 1 v xs.length (ZfZ xs) /\ Hid (w.grownBy wr (some b)) /\ Hid (∀ x ∈ xs, x.ok wr))
   (fun _ i _=>n - (intOf i).toNat)
 case atStart=>exact⟨0,p,[],Yag _,rfl,hp,hid rfl,HR,rfl,Ybc _ _ _ _,hid (ZbM _ _),hid (fun x f=>(by cases f))⟩
 case round=>
  obtain⟨k,q,xs,hk,rfl,t,C,h,G,c,D,A⟩:=hrel;have j:=hid G;clear G;by_cases Y:k<n
  ·have a6:(k:Int)<n:=by omega
   obtain⟨av,cp,rfl⟩:=Zl c;have Z:=hid c;clear c
   go_wp2_with fail
   refine(H1.out q wr (ZbV H0.out D.out X.out) h.out t).mono ?_;rintro e o ⟨v,err,rfl,r,l⟩;have B:Hid (w.grownBy o (some b)):=hid (Zj D.out l);have a:=Zj3 Z.out l T;have L:Hid (∀x∈xs,x.ok o):=hid (fun x f=>(A.out x f).ju h.out l Dc);clear A;clear l Z D h;cases g:one q with
   | error x=>
    obtain⟨fa,rfl⟩:=r.jn g;have M:Hid (RdC Zeh RowZ o b s ca (many one p n) S0 (.iface 115 (Vp fa))):=hid (r.km g (ZgS C.out g n Y) rfl);have N:=(r.err g).2.2.1;obtain rfl:=N;clear r g a;go_wp2;go_ret2;exact⟨_,_,rfl,M,B.out⟩
   | ok x=>
    obtain⟨z,q2⟩:=x;obtain⟨rfl,hv,H⟩:=r.ok g;have a0:=hid (ZjI C.out g);have I:=HQ.out q (z,q2) g t;have a1:=hid H;simp only at I;have a7:w.heap.size<=o.heap.size:=B.size;obtain⟨y,rfl,rfl,J⟩:=hv;have a2:=hid J;clear J;clear r g H C
    go_wp2_with (at_builtin;refine wpList_append_own _ rfl (.tmp 23) (.tmp 25) 55 rfl w.heap.size 90 i0 S0 1 24 underlying55 hi U V W rfl Dc _ _ _ rfl (a.alloc _) ⟨o.heap.size,0,none⟩ 1 1 [.slice y.la y.ln y.lc] rfl rfl ?c1 ?c2 ?c3 ?c4 ?c5 ?_)
    case c1=>exact ZcY (by simp)
    case c2=>intro u hu;simp at hu;rw[hu];rfl
    case c3=>have:=j.out;unfold maxLen;omega
    case c4=>have:=j.out;omega
    case c5=>have:=j.out;simp;omega
    intro v' E m d _;have a3:Hid (w.grownBy E (some b)):=hid (Zfn (ZbR B.out _) d (fun z N=>(a.lt z N).1));have a4:Hid (RdAt E b s q2):=hid ((a1.below Zbal).grown d (fun e=>by have:=(a.lt b e.symm).1;omega))
    have F:E.ownsRow w.heap.size 90 1 v' (xs++[y]).length (ZfZ (xs++[y])):=by
     rw[Yab,show ZfZ (xs++[y])=ZfZ xs++[.slice y.la y.ln y.lc] by unfold ZfZ;rw[Yaq];rfl];exact m
    have O : Hid (∀ x ∈ xs ++ [y], x.ok E) := hid (fun x f => by
      have a5:x.ok o:=by
        rcases Yar.1 f with f|f
        · exact L.out x f
        · rw[Yap]at f;subst f;exact a2.out
      exact(a5.below Zbal).kept2 (a.alloc _) d Dc)
    clear a d m;go_wp2
    go_roundw
    case rel=>exact⟨k+1,q2,xs++[y],by omega,by go_num,I,hid (by rw[Yaq];exact a0.out),a4,by rw[Yab,j.out];rfl,F,a3,O⟩
    case measure=>simp[intOf];omega
  ·obtain rfl:k=n:=by omega
   obtain⟨av,cp,rfl⟩:=Zl c;have M:Hid (RdC Zeh RowZ wr b s ca (many one p k) (.slice av xs.length cp) .nilIface):=hid (RdC.mkOk C.out ⟨rfl,⟨xs,Zgi c,rfl,A.out⟩,h.out⟩);clear c;go_wp2;go_ret2;exact⟨_,_,rfl,M,D.out⟩
def Zck(a:Ah)(i:Nat):Value:=if i=0 then .bool a.kj else if i=1 then .bool a.kw else if i=2 then Vi a.jy.length else if i<67 then .int .u8 ((a.jy.reverse.getD (i - 3) 0:Nat):Int)else .int .u8 ((a.jx.getD (i - 67) 0:Nat):Int)
def stC(a:Ah):List Value:=(List.range 83).map (Zck a)
theorem ZbE(a:Ah):(stC a).length=83:=by simp[stC]
theorem ZcA(a:Ah)(i:Nat)(h:i<83):(stC a)[i]?=some (Zck a i):=by
 unfold stC;rw[Ya2,Yg2 h];rfl
theorem Zsu(a:Ah):∀v∈stC a,v.oneCell'=true:=by
 intro v c;obtain⟨i,_,rfl⟩:=Ybe.1 c;unfold Zck;repeat' split
 all_goals rfl
theorem Zni(a:Ah)(j:Nat)(h:j<64):(stC a)[3+j]?=some (.int .u8 ((a.jy.reverse.getD j 0:Nat):Int)):=by
 rw[ZcA a _ Om];unfold Zck;rw[if_neg Om,if_neg Om,if_neg Om,if_pos Om,show 3+j - 3=j by omega]
theorem Znh(a:Ah)(j:Nat)(h:j<16):(stC a)[67+j]?=some (.int .u8 ((a.jx.getD j 0:Nat):Int)):=by
 rw[ZcA a _ Om];unfold Zck;rw[if_neg Om,if_neg Om,if_neg Om,if_neg Om,show 67+j - 67=j by omega]
theorem Ziy{l:List Value}{a:Ah}(d:l.length=83)(h:∀i,i<83->l[i]?=some (Zck a i)):l=stC a:=by
 apply Ycs;intro i;by_cases c:i<83
 ·rw[h i c,ZcA a i c]
 ·rw[Ya9 Om,Ya9 (by rw[ZbE];omega)]
theorem ZCG(a:Ah)(k:Nat)(n:a.jy.length<64):((stC a).set (3+a.jy.length) (.int .u8 (k:Int))).set 2 (Vi ((a.jy.length+1:Nat):Int))=stC { a with jy:=k::a.jy }:=by
 refine Ziy (by simp[ZbE]) (fun i l=>?_);rw[Ya0];by_cases h:2=i
 ·subst h;rw[if_pos rfl,if_pos (by simp[ZbE])];rfl
 ·rw[if_neg h,Ya0];by_cases j:3+a.jy.length=i
  ·subst j;rw[if_pos rfl,if_pos (by rw[ZbE];omega)];unfold Zck;rw[if_neg Om,if_neg Om,if_neg Om,if_pos Om,show 3+a.jy.length - 3=a.jy.length by omega]
   congr 2
   rw[Ybz,Yaa,Yb3 (by simp)];simp
  ·rw[if_neg j,ZcA a i l]
   congr 1
   unfold Zck;by_cases d:i=0
   ·rw[if_pos d,if_pos d]
   ·rw[if_neg d,if_neg d];by_cases f:i=1
    ·rw[if_pos f,if_pos f]
    ·have g:¬i=2:=fun e=>h e.symm;rw[if_neg f,if_neg f,if_neg g,if_neg g];by_cases c:i<67
     ·rw[if_pos c,if_pos c]
      congr 2
      show a.jy.reverse.getD (i - 3) 0=(k::a.jy).reverse.getD (i - 3) 0;rw[Ybz,Yaa,Yaa];by_cases m:i - 3<a.jy.length
      ·rw[Ybr (by simpa using m)]
      ·rw[Ya9 (by simp;omega),Ya9 (by simp;omega)]
     ·rw[if_neg c,if_neg c]
theorem ZCF(a:Ah)(s:a.jy.length<=64)(c:0<a.jy.length):((stC a).set 2 (Vi ((a.jy.length - 1:Nat):Int))).set (3+(a.jy.length - 1)) (.int .u8 0)=stC { a with jy:=a.jy.tail }:=by
 obtain⟨k,r,f⟩:∃k r,a.jy=k::r:=by
  cases n:a.jy with
  | nil=>rw[n]at c;simp at c
  | cons k r=>exact⟨k,r,rfl⟩
 refine Ziy (by simp[ZbE]) (fun i o=>?_);have l:a.jy.length - 1=r.length:=by rw[f];simp
 rw[l];have p:r.length<64:=by omega
 rw[Ya0];by_cases m:3+r.length=i
 ·subst m;rw[if_pos rfl,if_pos (by simp[ZbE];omega)];unfold Zck;rw[if_neg Om,if_neg Om,if_neg Om,if_pos Om,show 3+r.length - 3=r.length by omega,f];simp
 ·rw[if_neg m,Ya0];by_cases j:2=i
  ·subst j;rw[if_pos rfl,if_pos (by simp[ZbE])];unfold Zck;rw[f];simp
  ·rw[if_neg j,ZcA a i o]
   congr 1
   unfold Zck;by_cases c:i=0
   ·rw[if_pos c,if_pos c]
   ·rw[if_neg c,if_neg c];by_cases g:i=1
    ·rw[if_pos g,if_pos g]
    ·have h:¬i=2:=fun e=>j e.symm;rw[if_neg g,if_neg g,if_neg h,if_neg h];by_cases d:i<67
     ·rw[if_pos d,if_pos d,f]
      congr 2
      show(k::r).reverse.getD (i - 3) 0=r.reverse.getD (i - 3) 0;rw[Ybz,Yaa,Yaa];by_cases q:i - 3<r.length
      ·rw[Ybr (by simpa using q)]
      ·rw[Ya9 (by simp;omega),Ya9 (by simp;omega)]
     ·rw[if_neg d,if_neg d]
theorem Znj(a:Ah)(j k:Nat)(l:j<16)(g:a.jx.length=16):(stC a).set (67+j) (.int .u8 (k:Int))=stC { a with jx:=a.jx.set j k }:=by
 refine Ziy (by simp[ZbE]) (fun i m=>?_);rw[Ya0];by_cases h:67+j=i
 ·subst h;rw[if_pos rfl,if_pos (by rw[ZbE];omega)];unfold Zck;rw[if_neg Om,if_neg Om,if_neg Om,if_neg Om,show 67+j - 67=j by omega];simp[Yaa,g,l]
 ·rw[if_neg h,ZcA a i m]
  congr 1
  unfold Zck;by_cases d:i=0
  ·rw[if_pos d,if_pos d]
  ·rw[if_neg d,if_neg d];by_cases e:i=1
   ·rw[if_pos e,if_pos e]
   ·rw[if_neg e,if_neg e];by_cases f:i=2
    ·rw[if_pos f,if_pos f]
    ·rw[if_neg f,if_neg f];by_cases c:i<67
     ·rw[if_pos c,if_pos c]
     ·rw[if_neg c,if_neg c]
      congr 2
      show a.jx.getD (i - 67) 0=(a.jx.set j k).getD (i - 67) 0;rw[Yaa,Yaa,Yha Om]
end Go.Proofs.YtkodhpilkaihjaaGreatDoor
namespace Go.Proofs.YtkodhpilkaihjaaGreatDoor.LS
open Go Go.RowKit
theorem ZBj{l:LB}{t:Tr}(h:ZD l=.ok t):wfT t/\isNil t=false/\wT t<=100000:=by
 unfold ZD at h;by_cases d:300<l.length
 ·rw[if_pos d]at h;cases h
 ·rw[if_neg d]at h;have j:=ZjB l (l.length+1) 0 (Yag _);have k:=ZjC l Om (l.length+1) 0;cases a:Zs (10*(ZN l (l.length+1) 0).length+5) false 0 .nil (ZN l (l.length+1) 0) 0 with
  | error e=>rw[a]at h;cases h
  | ok z=>
   obtain⟨t',r⟩:=z;rw[a]at h;have c:=Zfv _ _ _ _ _ _ _ (fun e=>by cases e) a;simp only at h;by_cases f:(hd r).jj=0
   ·rw[if_pos f]at h;by_cases g:Zf t'=0
    ·rw[if_pos g]at h;cases h
    ·rw[if_neg g]at h;injection h with h;subst h;refine⟨c.1,c.2.1,?_⟩;have i:=c.2.2;rw[if_neg Dc]at i;simp only at i;omega
   ·rw[if_neg f]at h;cases h
structure CodeB (c:CodeQ):Prop where
 cs:∀x∈c.jq,vOk x
 ps:∀x∈c.jw,x.2<=1000/\x.1.kq.length<=100000
 gs:∀x∈c.jv,x.length<=70000
theorem Zge{α:Type}{one:Nat->RdR α}{p:Nat} : ∀ {k:Nat} {xs:List α} {q:Nat},many one p k=.ok (xs,q)->∀x∈xs,∃a b,one a=.ok (x,b)
 | 0,xs,q,h,x,c=>by injection h with h;injection h with h1 h2;subst h1;cases c
 | k + 1, xs, q, h, x, c => by
   unfold many at h;cases d:many one p k with
   | error e=>rw[d]at h;cases h
   | ok y=>
     rw[d]at h;simp only at h;cases f:one y.2 with
     | error e=>rw[f]at h;cases h
     | ok z=>
       rw[f]at h;injection h with h;injection h with h1 h2;subst h1;rcases Yar.1 c with c|c
       · exact Zge (show many one p k=.ok (y.1,y.2) from d) x c
       · rw[Yap]at c;subst c;exact⟨_,_,f⟩
theorem Zvf{l:LB}{a b:Nat}{x:Int}(h:ZbW l a=.ok (x,b)):vOk x:=by
 unfold ZbW at h;split at h
 ·cases h
 ·split at h
  ·cases h
  ·rename_i c;injection h with h;injection h with h1 h2;subst h1;unfold vOk;omega
theorem ZDc{l:LB}{p q:Nat}{t:LB}(h:ZcH l p=.ok (t,q)):t.length<=65535:=by
 unfold ZcH at h;split at h
 ·cases h
 ·rename_i y a
  have d:y.1<65536:=by
   unfold Zbr at a;split at a
   ·cases a
   ·rename_i z c;injection a with a;subst a;have:=(Zhh c).2.1;exact ZhM (n:=2) (by rw[this];unfold sub;rw[Ya7];omega)
  have:=(Zhh h).2.1;simp only at this;rw[this];unfold sub;rw[Ya7];omega
theorem ZoH:∀l:List (LB×LB×Bool),l.length<=cw l
 | []=>Yac _
 | c::l=>by have:=ZoH l;simp only[cw,Yaj];omega
theorem Zr9{l:LB}{a:Nd}(h:selQ l=some a):a.kq.length<=100000:=by
 unfold selQ at h;split at h
 ·rename_i x y b p q c;split at h
  ·injection h with h;subst h;have d:=(ZBj c).2.2;have e:=ZoH b.kq;simp only[wT,ownW]at d;omega
  ·cases h
 ·cases h
theorem ZAD{t:LB}{x:Nd×Nat}(h:ZbA t=some x):x.2<=1000/\x.1.kq.length<=100000:=by
 unfold ZbA at h;split at h
 ·cases c:selQ t with
  | none=>rw[c]at h;cases h
  | some a=>rw[c]at h;injection h with h;subst h;exact⟨by simp,Zr9 c⟩
 ·rename_i p _;split at h
  ·split at h
   ·rename_i n d;split at h
    ·cases h
    ·cases c:selQ (t.take p)with
     | none=>rw[c]at h;cases h
     | some a=>rw[c]at h;injection h with h;subst h;exact⟨Zgh d,Zr9 c⟩
   ·cases h
  ·cases h
theorem ZwF{t:LB}{x:List (LB)}(h:ZcG t=some x)(a:t.length<=65535):x.length<=70000:=by
 unfold ZcG at h;split at h
 ·injection h with h;subst h;exact Yag _
 ·split at h
  ·injection h with h;subst h;have:=Zhd 44 t;omega
  ·cases h
theorem Zvq{l:LB}{c:CodeQ}(h:Zb7 l=.ok c):CodeB c:=by
 unfold Zb7 at h;split at h
 ·cases h
 ·split at h
  ·cases h
  ·rename_i cs g;split at h
   ·cases h
   ·rename_i ps i;split at h
    ·cases h
    ·rename_i gs j;split at h
     ·cases h
     ·split at h
      ·cases h
      ·split at h
       ·cases h
       ·split at h
        ·cases h
        ·injection h with h;subst h;refine⟨fun x e=>?_,fun x e=>?_,fun x e=>?_⟩
         ·obtain⟨a,b,d⟩:=Zge (xs:=cs.1) (q:=cs.2) g x e;exact Zvf d
         ·obtain⟨a,b,d⟩:=Zge (xs:=ps.1) (q:=ps.2) i x e;unfold Zb4 at d;split at d
          ·cases d
          ·split at d
           ·cases d
           ·rename_i y f;injection d with d;injection d with h2 h3;subst h2;exact ZAD f
         ·obtain⟨a,b,d⟩:=Zge (xs:=gs.1) (q:=gs.2) j x e;unfold ZbX at d;split at d
          ·cases d
          ·rename_i z k;split at d
           ·cases d
           ·rename_i y f;injection d with d;injection d with h2 h3;subst h2;exact ZwF f (ZDc (t:=z.1) (q:=z.2) k)
theorem Zgn{k:Nat}{st sl:List Nat}{x:List Nat×List Nat}(h:ZE k st sl=some x)(a:st.length<=64):x.1.length<=64:=by
 unfold ZE at h;split at h
 ·cases h
 ·injection h with h;subst h;simp only[Yaj];omega
theorem ZCN{c:CodeQ}{x:Nat×Nat}{st sl:List Nat}{y:List Nat×List Nat}(h:Zt c x st sl=some y)(a:st.length<=64):y.1.length<=64:=by
 unfold Zt at h;split at h
 ·exact Zgn h a
 ·exact Zgn h a
 ·split at h
  ·split at h
   ·exact Zgn h (by simp only[Yaj]at a;omega)
   ·cases h
  ·cases h
 ·split at h
  ·split at h
   ·exact Zgn h (by simp only[Yaj]at a;omega)
   ·cases h
  ·cases h
 ·split at h
  ·split at h
   ·exact Zgn h (by simp only[Yaj]at a;omega)
   ·cases h
  ·cases h
 ·injection h with h;subst h;exact a
 ·split at h
  ·injection h with h;subst h;simp only[Yaj]at a ⊢;omega
  ·cases h
 ·split at h
  ·injection h with h;subst h;simp only[Yaj]at a ⊢;omega
  ·cases h
 ·split at h
  ·cases h
  ·exact Zgn h a
 ·split at h
  ·split at h
   ·exact Zgn h (by simp only[Yaj]at a;omega)
   ·cases h
  ·cases h
theorem Flow.len{c:CodeQ}{L:List Ah}{ser:List Ser}(h:Flow c L)(hd:Dst ser)(t:Int){i:Nat}{m:MQ}(d:i<c.jz.length)(e:(c.jz.getD i (0,0)).1<=13)(k:(L.getD i ah0).kj=true)(f:Typd ser.length (L.getD i ah0).jy (L.getD i ah0).jx m)(g:m.jy.length<=64) :
  (doE ser t c (c.jz.getD i (0,0)) m).jy.length<=64:=by
 obtain⟨_,st,sl,j,_,_⟩:=h.step i d k;have l:=h.fwd i d;generalize c.jz.getD i (0,0)=x at *
 obtain⟨op,arg⟩:=x;have n:=(f.step hd t e l j).jy;have o:(L.getD i ah0).jy.length<=64:=by rw[<-f.jy,Yak];exact g
 have a:=ZCN j o;simp only at a;rw[<-n,Yak]at a;exact a
def ZbO(st:List Ser)(c:CodeQ):Nat->List Int->Option (List (LB)×Nat)
 | f,[]=>some ([],f)
 | f, t :: ts => match runE st t c f 0 mq0 with
   | none=>none
   | some x => match ZbO st c x.1 ts with
     | none=>none
     | some y=>some (Zel t (topE x.2)::y.1,y.2)
theorem Znq(st:List Ser)(c:CodeQ)(t:Int):∀(ts:List Int) (f:Nat),ZbO st c f (ts++[t])=match ZbO st c f ts with
  | none=>none
  | some y => match runE st t c y.2 0 mq0 with
    | none=>none
    | some x=>some (y.1++[Zel t (topE x.2)],x.1)
 | [], f => by
   simp only[Ycu,ZbO]
 | u :: ts, f => by
   simp only[Yby,ZbO];cases runE st u c f 0 mq0 with
   | none=>rfl
   | some x=>
     simp only;rw[Znq st c t ts x.1];cases ZbO st c x.1 ts with
     | none=>rfl
     | some y=>
       simp only;cases runE st t c y.2 0 mq0 <;> rfl
theorem ZsK(st:List Ser)(c:CodeQ){f:Nat} : ∀(us ts:List Int),ZbO st c f ts=none->ZbO st c f (ts++us)=none
 | [],ts,h=>by rw[Yca];exact h
 | u :: us, ts, h => by
   have a:ZbO st c f (ts++[u])=none:=by rw[Znq,h]
   have:=ZsK st c us (ts++[u]) a
   rwa [Yan]at this
theorem ZDe{st:List Ser}{c:CodeQ}{f k:Nat}{ts:List Int}(h:ZbO st c f (ts.take k)=none):ZbO st c f ts=none:=by
 have:=ZsK st c (ts.drop k) (ts.take k) h
 rwa [Ycn]at this
theorem Zg5{st:List Ser}{t:Int}{c:CodeQ}{f i:Nat}{m:MQ}(h:c.jz.length<=i):runE st t c f i m=some (f,m):=by
 unfold runE;rw[if_pos h]
theorem ZBC{st:List Ser}{t:Int}{c:CodeQ}{i:Nat}{m:MQ}(h:i<c.jz.length):runE st t c 0 i m=none:=by
 unfold runE;rw[if_neg Om]
theorem Zj4(st:List Ser)(t:Int)(c:CodeQ)(f i:Nat)(m:MQ)(h:i<c.jz.length):runE st t c (f+1) i m=runE st t c f (Zbj i (c.jz.getD i (0,0)) m) (doE st t c (c.jz.getD i (0,0)) m):=by
 conv=>lhs;unfold runE
 rw[if_neg Om]
theorem ZmX{k:Nat}{st sl:List Nat}{x:List Nat×List Nat}(h:ZE k st sl=some x):st.length≠64:=by
 unfold ZE at h;split at h
 ·cases h
 ·assumption
theorem ZpA{α:Type}{l:List α}{i:Nat}{d:α}(h:i<l.length):l.getD i d∈l:=by
 rw[Yaa,List.getElem?_eq_getElem h];exact List.getElem_mem h
theorem VOk.more{n k:Nat}(a:n<=k):∀ {V:VV},VOk n V->VOk k V
 | .inl _,_=>trivial
 | .inr _,h=>⟨h.1,Yah h.2 a⟩
end Go.Proofs.YtkodhpilkaihjaaGreatDoor.LS
namespace Go.Proofs.YtkodhpilkaihjaaGreatDoor
open Go.RowKit LS Go.Proofs.Tryz
theorem Zzt(A:Nat->Addr)(m:Int)(w:World)(a:Vars w A m)(fa:Nat)(c:w.cell? ⟨fa,2,none⟩=some (.iface 491 (.pointer (some (A 8))))) :
  CP 22 #[.iface 115 (Vp fa)] w fun e u=>e=.returned (Vi 9)/\u=w:=by
 have v:=a.all;go_enter func22,ntmps22
 iterate 8 (go_wp2_with fail;refine cret (Zgv a c) ?_)
 go_wp2_with fail
 refine cret (Zf8 c) ?_;go_wp2;go_ret;exact⟨rfl,rfl⟩
theorem ZzB(A:Nat->Addr)(m:Int)(w:World)(a:Vars w A m) :
  CP 22 #[.iface 491 (.pointer (some (A 9)))] w fun e u=>e=.returned (Vi 10)/\u=w:=by
 have v:=a.all;go_enter func22,ntmps22
 iterate 9 (go_wp2_with fail;refine cret (Zg7 a) ?_)
 go_wp2_with fail
 refine cret (Zf7) ?_;go_wp2;go_ret;exact⟨rfl,rfl⟩
theorem Zzx(A:Nat->Addr)(m:Int)(w:World)(a:Vars w A m)(fa:Nat)(c:w.cell? ⟨fa,2,none⟩=some (.iface 491 (.pointer (some (A 10))))) :
  CP 22 #[.iface 115 (Vp fa)] w fun e u=>e=.returned (Vi 11)/\u=w:=by
 have v:=a.all;go_enter func22,ntmps22
 iterate 10 (go_wp2_with fail;refine cret (Zgv a c) ?_)
 go_wp2_with fail
 refine cret (Zf8 c) ?_;go_wp2;go_ret;exact⟨rfl,rfl⟩
theorem ZzA(A:Nat->Addr)(m:Int)(w:World)(a:Vars w A m)(fa:Nat)(c:w.cell? ⟨fa,2,none⟩=some (.iface 491 (.pointer (some (A 11))))) :
  CP 22 #[.iface 115 (Vp fa)] w fun e u=>e=.returned (Vi 12)/\u=w:=by
 have v:=a.all;go_enter func22,ntmps22
 iterate 11 (go_wp2_with fail;refine cret (Zgv a c) ?_)
 go_wp2_with fail
 refine cret (Zf8 c) ?_;go_wp2;go_ret;exact⟨rfl,rfl⟩
theorem Zzu(A:Nat->Addr)(m:Int)(w:World)(a:Vars w A m) :
  CP 22 #[.iface 491 (.pointer (some (A 12)))] w fun e u=>e=.returned (Vi 13)/\u=w:=by
 have v:=a.all;go_enter func22,ntmps22
 iterate 12 (go_wp2_with fail;refine cret (Zg7 a) ?_)
 go_wp2_with fail
 refine cret (Zf7) ?_;go_wp2;go_ret;exact⟨rfl,rfl⟩
end Go.Proofs.YtkodhpilkaihjaaGreatDoor
namespace Go.Proofs.YtkodhpilkaihjaaGreatDoor.LS
open Go Go.RowKit
theorem ZXo{a b c:Nat}(h:a ^^^ c=b ^^^ c):a=b:=by
 have d:=congrArg (· ^^^ c) h;simpa [Yhl] using d
theorem ZXp{a b:Nat}(d:a<4294967296)(e:b<4294967296)(h:a / 2 ^^^ 3988292384=b / 2):False:=by
 have c:a / 2 ^^^ b / 2<2 ^ 31:=Yhi Om Om;rw[<-h,<-Yhl,Nat.xor_self,Nat.zero_xor]at c;omega
theorem ZXu{a b:Nat}(e:a<4294967296)(f:b<4294967296)(h:bitS a=bitS b):a=b:=by
 unfold bitS at h;by_cases d:a % 2=1
 ·by_cases c:b % 2=1
  ·rw[if_pos d,if_pos c]at h;have:=ZXo h;omega
  ·rw[if_pos d,if_neg c]at h;exact(ZXp e f h).elim
 ·by_cases c:b % 2=1
  ·rw[if_neg d,if_pos c]at h;exact(ZXp f e h.symm).elim
  ·rw[if_neg d,if_neg c]at h;omega
theorem ZXm{a b:Nat}(c:a<4294967296)(d:b<4294967296):∀k,ZfS k a=ZfS k b->a=b
 | 0,h=>h
 | k+1,h=>ZXm c d k (ZXu (ZkX c k) (ZkX d k) h)
theorem ZXv{a b:Nat}(e:a<4294967296)(f:b<4294967296)(d:a≠b)(c:UInt8):Zk3 a c≠Zk3 b c:=fun h=>d (ZXo (ZXm (Zty e c) (Zty f c) 8 h))
theorem ZXw {a : Nat} (e : a < 4294967296) {c d : UInt8} (f : c ≠ d) : Zk3 a c ≠ Zk3 a d := fun h => f (by
  have g:=ZXm (Zty e c) (Zty e d) 8 h;rw[Nat.xor_comm,Nat.xor_comm a]at g;exact Ydf.1 (ZXo g))
theorem ZXl:∀(l:LB) {a:Nat},a<4294967296->l.foldl Zk3 a<4294967296
 | [],_,h=>h
 | c::l,_,h=>ZXl l (Zum h c)
theorem ZXr:∀(l:LB) {a b:Nat},a<4294967296->b<4294967296->a≠b->l.foldl Zk3 a≠l.foldl Zk3 b
 | [],_,_,_,_,h=>h
 | c::l,_,_,d,e,h=>ZXr l (Zum d c) (Zum e c) (ZXv d e h c)
theorem ZXI(p r:LB){c d:UInt8}(f:c≠d):sumQ (p++c::r)≠sumQ (p++d::r):=by
 have e:∀x:UInt8,sumL (p++x::r)=r.foldl Zk3 (Zk3 (sumL p) x):=fun x=>by unfold sumL;rw[Ydy];rfl
 have a:sumL p<4294967296:=ZXl p Dc;have g:=ZXr r (Zum a c) (Zum a d) (ZXw a f);rw[<-e,<-e]at g;have h:sumL (p++c::r)<4294967296:=ZXl _ Dc;have i:sumL (p++d::r)<4294967296:=ZXl _ Dc;unfold sumQ;omega
theorem ZXn{l:LB}{c:CodeQ}(h:Zb7 l=.ok c):∃n,n+4=l.length/\back (l.drop n)=sumQ (l.take n):=by
 unfold Zb7 at h;cases a:Zc8 l with
 | error e=>rw[a]at h;cases h
 | ok n=>
  rw[a]at h;simp only at h;cases d:many (ZbW l) 9 n.1 with
  | error e=>rw[d]at h;cases h
  | ok cs=>
   rw[d]at h;simp only at h;cases f:many (Zb4 l) cs.2 n.2.1 with
   | error e=>rw[f]at h;cases h
   | ok ps=>
    rw[f]at h;simp only at h;cases g:many (ZbX l) ps.2 n.2.2.1 with
    | error e=>rw[g]at h;cases h
    | ok gs=>
     rw[g]at h;simp only at h;cases i:many (ZbN l) gs.2 n.2.2.2 with
     | error e=>rw[i]at h;cases h
     | ok is=>
      rw[i]at h;simp only at h;split at h
      ·cases h
      ·split at h
       ·cases h
       ·split at h
        ·cases h
        ·rename_i k1 k2 k3;exact⟨is.2,by omega,Decidable.not_not.1 k3⟩
theorem ZXz{p r:LB}{c d:UInt8}(e:c≠d){x y:CodeQ}(h:Zb7 (p++c::r)=.ok x)(k:Zb7 (p++d::r)=.ok y):False:=by
 obtain⟨n,l,a⟩:=ZXn h;obtain⟨m,k1,k2⟩:=ZXn k;have o:(p++c::r).length=p.length+(r.length+1):=by rw[Yab,Yaj]
 have kl:(p++d::r).length=p.length+(r.length+1):=by rw[Yab,Yaj]
 obtain rfl:m=n:=by omega
 by_cases q:p.length<m
 ·obtain⟨j,rfl⟩:∃j,m=p.length+(j+1):=⟨m - p.length - 1,by omega⟩
  rw[List.drop_length_add_append,List.drop_succ_cons,List.take_length_add_append,Yed]at a k2;exact ZXI p (r.take j) e (a.symm.trans k2)
 ·rw[Yec Om,Ygb Om]at a k2;have g:back (p.drop m++c::r)=back (p.drop m++d::r):=a.trans k2.symm
  have i:p.drop m++c::r=p.drop m++d::r:=by
   rw[<-ZUY (p.drop m++c::r),<-ZUY (p.drop m++d::r),g];simp
  have f:=List.append_cancel_left i;injection f with f _;exact e f
theorem ZXD{p r:LB}{c d:UInt8}(a:c≠d){y:CodeQ×Nat×Nat}(h:ZcR (p++c::r)=.ok y):∃e,ZcR (p++d::r)=.error e:=by
 cases hd:Zb7 (p++d::r)with
 | error e=>exact⟨e,by unfold ZcR;rw[hd]⟩
 | ok z=>
  unfold ZcR at h;cases f:Zb7 (p++c::r)with
  | error e=>rw[f]at h;cases h
  | ok x=>exact(ZXz a f hd).elim
end Go.Proofs.YtkodhpilkaihjaaGreatDoor.LS

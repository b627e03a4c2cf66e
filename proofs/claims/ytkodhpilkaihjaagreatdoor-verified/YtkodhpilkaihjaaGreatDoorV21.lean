/- Parts. -/
import Derived.Test.YtkodhpilkaihjaaGreatDoorV20
set_option linter.all false
set_option maxRecDepth 100000
set_option maxHeartbeats 16000000
namespace Go.Proofs.YtkodhpilkaihjaaGreatDoor
open Go.RowKit LS Go.Proofs.Tryz
variable {a:Addr}{c:CodeQ}{r:Except (Nat×Nat) (CodeQ×Nat×Nat)}{m p:Int}{l:LB}{b n0 n1 n2:Nat}{A:Nat->Addr}{x:Nat×Nat}{a0 a1 a2 a3:Option Addr}{err v:Value}{w w' w0:World}
theorem ZzX{base:Nat}{e:TypeId}{sz g n:Nat}{xs:List Value}(h:w.ownsRow base e sz (.slice (some ⟨g,0,none⟩) n n) n xs):BAt w g xs e:=by
 rcases h.2 with ⟨a,_⟩|⟨g',cap,cur,a,_,b,_,_,c,d⟩
 ·cases a
 ·injection a with e1 e2 e3;injection e1 with e1;injection e1 with e1;subst e1 e3;unfold BAt;rw[b]
  congr 2
  apply Array.toList_inj.1;rw[<-d,Ya5 (by rw[Array.length_toList,c];exact Yac _)]
def Zcs(w:World)(v:Value)(p:Int)(a:Addr):Prop:=∃fa:Nat,v=.iface 115 (Vp fa)/\w.cell? ⟨fa,1,none⟩=some (Vi p)/\w.cell? ⟨fa,2,none⟩=some (.iface 491 (.pointer (some a)))
theorem Zcs.below(h:Zcs w v p a)(b:BW w w'):Zcs w' v p a:=by
 obtain⟨fa,e,c,d⟩:=h;exact⟨fa,e,(b.cell (p:=⟨_,_,none⟩) (Yai _ _ c)).trans c,(b.cell (p:=⟨_,_,none⟩) (Yai _ _ d)).trans d⟩
theorem ZiW{i:Int} :
  CP 79 #[Vi i,.iface 491 (.pointer (some a))] w fun e u=>∃v,e=.returned v/\Hid (Zcs u v i a)/\BW w u:=by
 go_enter func79,ntmps79;go_wp2;go_ret;exact⟨_,rfl,hid ⟨_,rfl,by simp,by simp⟩,belB⟩
def ZeM(w:World)(A:Nat->Addr)(r:Except (Nat×Nat) Nat)(v:Int)(err:Value):Prop:=match r with
 | .ok m=>v=m/\err=.nilIface
 | .error x=>v=0/\x.1=12/\Zcs w err x.2 (A 11)
theorem ZeM.mkOk{r:Except (Nat×Nat) Nat}{v:Int}{m:Nat}(a:r=.ok m)(h:v=m/\err=.nilIface):ZeM w A r v err:=by subst a;exact h
theorem ZeM.kj{r:Except (Nat×Nat) Nat}{v:Int}(a:r=.error x)(h:v=0/\x.1=12/\Zcs w err x.2 (A 11)):ZeM w A r v err:=by subst a;exact h
theorem CodeV.below{cv pv gv iv:Value}(h:CodeV w c cv pv gv iv)(a:BW w w'):CodeV w' c cv pv gv iv:=by
 refine⟨Zn h.cs a,?_,?_,Zn h.is a⟩
 ·obtain⟨xs,b,d,e⟩:=h.ps;exact⟨xs,Zn b a,d,fun x f=>(e x f).below a⟩
 ·obtain⟨xs,b,d,e⟩:=h.gs;exact⟨xs,Zn b a,d,fun x f=>(e x f).below a⟩
theorem ZnZ{B:Nat} : ∀(vs:List Value) (o:Nat) {W:World},Below B w W->B<=b->Below B w (W.setCells b o vs)
 | [],_,_,h,_=>h
 | v :: r, o, W, h, a => by
   rw[World.setCells];exact ZnZ r (o+1) (h.setCell (p:=⟨b,o,none⟩) a v) a
theorem Zsg{j:Nat} : ∀(vs:List Value) (o:Nat) {W:World},j≠b->(W.setCells b o vs).heap[j]?=W.heap[j]?
 | [],_,_,_=>rfl
 | v :: r, o, W, h => by
   rw[World.setCells];exact(Zsg r (o+1) h).trans (Go.Deep.blk_setCell_other _ _ _ _ h)
structure HighP (w:World) (A:Nat->Addr) (m:Int) (c:CodeQ) (a0 a1 a2 a3:Option Addr) (n0 n1 n2 e0 e1 e2 e3:Nat):Prop where
 v:Vars w A m
 n:20<=w.heap.size
 cv:CodeV w c (.slice a0 n0 e0) (.slice a1 n1 e1) (.slice a2 n2 e2) (.slice a3 c.jz.length e3)
 ln:c.jz.length<=65535
 rf:∀i,i<c.jz.length->Zy c i (c.jz.getD i (0,0))=true
 op:∀x∈c.jz,x.1<=13/\x.2<65536
theorem Zw0(w:World)(A:Nat->Addr)(m:Int)(c:CodeQ)(a0 a1 a2 a3:Option Addr)(e0 e1 e2 e3:Nat)(h:HighP w A m c a0 a1 a2 a3 n0 n1 n2 e0 e1 e2 e3) :
  CP 80 #[.agg #[.slice a0 n0 e0,.slice a1 n1 e1,.slice a2 n2 e2,.slice a3 c.jz.length e3]] w fun e u=>∃v err,e=.returned (.tuple #[Vi v,err])/\Hid (ZeM u A (Zdj c) v err)/\BW w u:=by
 have HP:=hid h;have i7:=h.ln;obtain⟨i0,hi,i8,i9,j0⟩:=info_parts Tryz.infoState;obtain⟨n,hn⟩:∃n,n=c.jz.length:=⟨_,rfl⟩
 rw[<-hn]at i7 ⊢;have HN:=hid hn;clear h hn;go_enter func80,ntmps80
 go_wp2_with (at_make;refine wpList_make_full _ rfl _ _ 307 rfl (w.heap.size+1) 312 i0 _ 83 underlying307 hi i8 i9 _ _ _ _ (n+1) rfl rfl ?e1 ?e2 ?b2 ?b3 ?b4 ?_)
 case e1=>go_num
 case e2=>go_num
 case b2=>rw[j0];omega
 case b3=>unfold maxLen;omega
 case b4=>simp
 intro y d8 r;have f8:BW w y:=Zbal.trans ⟨r.os,r.tape,r.output,r.size,fun k hk=>r.block k (by rw[Go.Deep.nblk_alloc];omega) (by simp)⟩;have f9:=hid f8;have Y:Hid (BAt y (w.heap.size+1) (stCs (List.replicate (n+1) ah0)) 312):=hid (by have:=ZzX d8;rwa [ZyP]at this);have d9:Hid (BAt y w.heap.size [.slice a0 n0 e0,.slice a1 n1 e1,.slice a2 n2 e2,.slice a3 n e3] 58):=hid ((r.block _ (by rw[Go.Deep.nblk_alloc];omega) (by simp)).trans (Go.Deep.blk_alloc_new _ _))
 have g0:y.cell? ⟨w.heap.size+1,0,none⟩=some (.bool false):=by
  have:=Ziz (List.replicate (n+1) ah0) 0 0 (by simp) Dc;rw[Y.cell 0,show(0:Nat)=0*83+0 from rfl,this];simp[Zck,ah0,Yaa]
 have f0:=Y.frozen 0;have d3:=d9.cell 3;simp only[Zget]at d3;have i4:=Y.lt
 have Z:Hid (BAt (y.setCell ⟨w.heap.size+1,0,none⟩ (.bool true)) (w.heap.size+1) (stCs (ZeY n)) 312):=hid (by
  have h2:=Y.setk 0 (.bool true)
  have h3 : (stCs (List.replicate (n + 1) ah0)).set (0 * 83 + 0) (.bool true) = stCs ((List.replicate (n + 1) ah0).set 0 ⟨true, false, [], List.replicate 16 0⟩) := Zkf (by simp) Dc (by
    rw[show(List.replicate (n+1) ah0).getD 0 ah0=ah0 from rfl];rfl)
  rw[show(0*83+0:Nat)=0 from rfl]at h3;rw[h3]at h2;exact h2)
 have a4:=hid (d9.other (p:=⟨w.heap.size+1,0,none⟩) (by show w.heap.size≠w.heap.size+1;omega) (.bool true));have E:Hid (BW w (y.setCell ⟨w.heap.size+1,0,none⟩ (.bool true))):=hid (f9.setCell (p:=⟨w.heap.size+1,0,none⟩) (by show w.heap.size<=w.heap.size+1;omega) _);clear d8 r f8 f9 Y d9;go_wp2
 go_loopw [5, 20] (fun mv iv wr => ∃ (k mo : Nat) (l : List Ah), k <= n /\ iv = Vi k /\ mv = Vi mo /\ mo <= 64 /\ l.length = n + 1 /\ Hid (Zbx c k = .ok (l, mo)) /\ Hid (∀ x ∈ l, AhOk x) /\ Hid (BAt wr (w.heap.size + 1) (stCs l) 312) /\ Hid (BAt wr w.heap.size [.slice a0 n0 e0, .slice a1 n1 e1, .slice a2 n2 e2, .slice a3 n e3] 58) /\ Hid (BW w wr))
   (fun _ iv _=>n - (intOf iv).toNat)
 case atStart=>exact⟨0,0,ZeY n,Yag _,rfl,rfl,by decide,by simp[ZeY],hid (by rw[HN.out];rfl),hid (ZAm n),Z,a4,E⟩
 case round=>
  obtain⟨k,mo,l,hk,rfl,rfl,j1,g1,g2,G,c3,c4,H⟩:=hrel;clear Z a4 E g0 f0 d3 i4;have F:=hid g1;clear g1;by_cases j2:k<n
  ·have k9:(k:Int)<n:=by omega
   obtain⟨x,hx⟩:∃x,x=c.jz.getD k (0,0):=⟨_,rfl⟩
   have HX:=hid hx;obtain⟨op,arg⟩:=x;have a5:k<c.jz.length:=by rw[<-HN.out];exact j2
   have e4:c.jz[k]=(op,arg):=by rw[hx,Yaa,List.getElem?_eq_getElem a5];rfl
   have c5:=hid (HP.cv.below H.out).is;obtain⟨gi,cpi,j3⟩:=ZF c5.out Om;injection j3 with hgi1 hgi2 hgi3;subst hgi1;have i0c:=Zi c5.out _ _ (Zfm c.jz k a5).1;have i1c:=Zi c5.out _ _ (Zfm c.jz k a5).2;rw[e4]at i0c i1c;simp only at i0c i1c;have k6:=Z1 c5.out;have j4:=HP.op (op,arg) (by rw[<-e4];exact List.getElem_mem a5);obtain⟨e5,i5⟩:=j4;simp only at e5 i5;have c6:Hid (Zy c k (op,arg)=true):=hid (by have:=HP.rf k a5;rwa [<-hx]at this);obtain⟨a,ha⟩:∃a,a=l.getD k ah0:=⟨_,rfl⟩
   have c7:=hid ha;have R:Hid (AhOk a):=hid (by rw[ha];exact ZgN G.out k)
   have g3 : Hid (∀ o, (wr.alloc o).rangeAt (w.heap.size + 1) (k * 83) (stC a)) := hid (fun o => World.rangeAt_alloc (c3.range (k * 83) (stC a) (fun j hj => by
     rw[ZbE]at hj;rw[Ziz l k j (by rw[F.out];omega) hj,ZcA a j hj,<-c7.out])) o)
   have g4:Hid ((prog.info? 312).map (·.size)=some (stC a).length):=hid (by rw[ZbE];exact Tryz.infoSt);have g5:Hid ((prog.info? 312).map (·.size)=some (stC a).toArray.size):=hid (by rw[Yb5,ZbE];exact Tryz.infoSt);have g6:Hid ((stC a).toArray.all (·.oneCell')=true):=hid (all_oneCell_toArray (Zsu a))
   have g7 : Hid (∀ o1, ((wr.alloc o1).alloc (.cells (stC ah0).toArray 312)).there (wr.heap.size + 1) 0 (stC a).toArray.size) := hid (fun o1 => by
     have h1:BAt ((wr.alloc o1).alloc (.cells (stC ah0).toArray 312)) (wr.heap.size+1) (stC ah0) 312:=by
       have:=Go.Deep.blk_alloc_new (wr.alloc o1) (.cells (stC ah0).toArray 312);rwa [Go.Deep.nblk_alloc]at this
     exact h1.there 0 _ (by rw[Yb5,ZbE,ZbE];omega))
   have j5:∀u,(zeroValue 312).run prog u=.ok (.agg (stC ah0).toArray) u:=(zero_of_info (n:=83) (by have:=Tryz.infoState;simp only[Ybk]at this ⊢;obtain⟨j,j6,j7⟩:=this;exact⟨j,j6,by injection j7 with e1 e2;injection e2 with e2 e3;rw[e1,e2]⟩)).1;have r3:=c4.cell 3;simp only[Zget]at r3;have k7:=c3.lt;have k8:=c4.lt;clear hx ha e4 hgi2 hgi3
   go_upto_region 8 with (first
     | refine wpList_load_mid rfl 312 (.tmp 27) rfl (w.heap.size+1) (k*83) rfl (stC a) _ (g3.out _) underlying312 rfl g4.out ?_
     | refine wpList_store_mid rfl 312 (.tmp 8) (.tmp 28) rfl (wr.heap.size+1) 0 (stC a).toArray rfl rfl (g7.out _) g5.out g6.out ?_)
   refine ZP fun W hW=>?_;have c8:BW wr W:=by rw[hW];exact ZnZ (stC a) 0 (Zbal.alloc (by simp) _) Om
   have e6:Hid (StAt W (wr.heap.size+1) a):=hid (by
    rw[hW]
    have h1:BAt ((wr.alloc (Obj.cells #[Vi op,Vi arg] 184)).alloc (.cells (stC ah0).toArray 312)) (wr.heap.size+1) (stC ah0) 312:=by
     have:=Go.Deep.blk_alloc_new (wr.alloc (Obj.cells #[Vi op,Vi arg] 184)) (.cells (stC ah0).toArray 312);rwa [Go.Deep.nblk_alloc]at this
    have h2:=BAt.setCells (stC a) 0 h1;rw[ZB5]at h2;exact h2)
   have c9:Hid (BAt W wr.heap.size [Vi op,Vi arg] 184):=hid (by
    rw[hW];refine(Zsg (stC a) 0 Om).trans ?_;exact(Zbal.block _ (by simp)).trans (Go.Deep.blk_alloc_new _ _))
   have e7:=hid (c3.below c8);have N:=hid (c4.below c8);have O:Hid (BW w W):=hid (H.trans (c8.mono H.size));clear hW c8 i0c i1c r3 g3 g7 j5 g4 g5 g6;obtain⟨c0,c1,c2⟩:=StAt.cells e6.out;have o0:=c9.cell 0;have o1:=c9.cell 1;have q0:=N.cell 0;have q1:=N.cell 1;have q2:=N.cell 2;have q3:=N.cell 3;simp only[Zget]at o0 o1 q0 q1 q2 q3;have d0:Hid (Zbx c (k+1)=Zfx c k l mo):=hid (by show(match Zbx c k with|.error e=>_|.ok x=>_)=_;rw[g2.out]);cases D:a.kz with
   | false=>
    rw[D]at c0;have t:Hid (Zbx c (k+1)=.ok (l,mo)):=hid (by rw[d0.out];unfold Zfx;simp only;rw[<-c7.out,D];rfl);go_wp2
    go_roundw
    case rel=>exact⟨k+1,mo,l,by omega,by go_num,rfl,j1,F.out,t,G,e7,N,O⟩
    case measure=>simp[intOf];omega
   | true=>
    rw[D]at c0;cases S:a.kq with
    | true=>
     rw[S]at c1
     have a6:Hid (Zdj c=.error (12,k)):=hid (by
      unfold Zdj;rw[Zrx (k:=k+1) (e:=(12,k)) (by rw[d0.out];unfold Zfx;simp only;rw[<-c7.out,D,S];rfl) _ Om])
     have gs:W.cell? ⟨11,0,none⟩=some (.iface 491 (.pointer (some (A 11)))):=(HP.v.below O.out).sent _ Dc
     go_wp2_with fail
     refine(ZiW).mono ?_;rintro e w9 ⟨v,rfl,HE,I⟩;have a7:Hid (BW w w9):=hid (O.trans (I.mono O.size));obtain⟨fa,rfl,a8,a9⟩:=HE.out;clear I a8 a9;go_wp2;go_ret2;exact⟨_,_,rfl,hid (ZeM.kj a6.out ⟨rfl,rfl,HE.out⟩),a7.out⟩
    | false=>
     rw[S]at c1;have g8:Hid (DoP W (wr.heap.size+1) a c op arg a0 a1 a2 (some ⟨gi,0,none⟩) n0 n1 n2 n e0 e1 e2 e3):=hid ⟨e6.out,by have:=HP.cv.below O.out;rwa [<-HN.out]at this,⟨k,c6.out⟩,R.ln,R.sl,R.kd⟩
     have e8:Hid (Zbx c (k+1)=match Zt c (op,arg) a.jy a.jx with
      | none=>.error (12,k)
      | some s=>.ok (goOn (op,arg) k s.1 s.2 l,max mo s.1.length)):=hid (by rw[d0.out];unfold Zfx;simp only;rw[<-c7.out,D,S,<-HX.out];rfl)
     go_wp2_with fail
     refine(ZBV W (wr.heap.size+1) a c op arg a0 a1 a2 n0 n1 n2 n e0 e1 e2 e3 g8.out e5).mono ?_;rintro e z ⟨ok,rfl,HD⟩;have b0:=HD.2.2;have Z:=hid (e7.grown b0 (by intro e;injection e with e;omega));have a4:=hid (N.grown b0 (by intro e;injection e with e;omega));have d1:=hid (c9.grown b0 (by intro e;injection e with e;omega));have E:Hid (BW w z):=hid (ZbV O.out b0 (by have:=H.size;omega));clear b0 e7 N c9 O g8 e6 c0 c1 c2 o0 o1 q0 q1 q2 q3;cases J:Zt c (op,arg) a.jy a.jx with
     | none=>
      have e9:ok=false:=by have:=HD.1;rw[J]at this;exact this
      subst e9
      have a6:Hid (Zdj c=.error (12,k)):=hid (by
       unfold Zdj;rw[Zrx (k:=k+1) (e:=(12,k)) (by rw[e8.out,J]) _ Om])
      clear HD J;have gs:z.cell? ⟨11,0,none⟩=some (.iface 491 (.pointer (some (A 11)))):=(HP.v.below E.out).sent _ Dc
      go_wp2_with fail
      refine(ZiW).mono ?_;rintro e w9 ⟨v,rfl,HE,I⟩;have a7:Hid (BW w w9):=hid (E.trans (I.mono E.size));obtain⟨fa,rfl,a8,a9⟩:=HE.out;clear I a8 a9;go_wp2;go_ret2;exact⟨_,_,rfl,hid (ZeM.kj a6.out ⟨rfl,rfl,HE.out⟩),a7.out⟩
     | some s=>
      obtain⟨st,sl⟩:=s;have e9:ok=true:=by have:=HD.1;rw[J]at this;exact this
      subst e9;obtain⟨b,b1⟩:∃b:Ah,b=⟨true,false,st,sl⟩:=⟨_,rfl⟩
      have f1:Hid (StAt z (wr.heap.size+1) b):=hid (by
       have:=HD.2.1 st sl J;rw[D,S]at this;rw[b1];exact this)
      obtain⟨t1,t2,t3⟩:=ZCP c6.out R.ln R.kd R.sl J;have P:Hid (AhOk b):=hid (by rw[b1];exact⟨t1,t2,t3⟩);have t:Hid (Zbx c (k+1)=.ok (goOn (op,arg) k st sl l,max mo st.length)):=hid (by rw[e8.out,J]);have q:=hid b1;have f2:b.jy=st:=by rw[b1]
      have d2:Hid ((prog.info? 312).map (·.size)=some (stC b).length):=hid (by rw[ZbE];exact Tryz.infoSt);have c2:=(StAt.cells f1.out).2.2;rw[f2]at c2;have o0:=d1.cell 0;have o1:=d1.cell 1;simp only[Zget]at o0 o1;obtain⟨sn,g9⟩:∃sn,sn=st.length:=⟨_,rfl⟩
      rw[<-g9]at c2 t1 t;clear HD J e8 d0 b1 f2 t2 t3 g9 D S
      go_wp2_with fail
      refine(Zuq op arg z).mono ?_;rintro e w3 ⟨rfl,T⟩;have f3:=hid (Z.below T);have f4:=hid (a4.below T);have L:=hid (d1.below T);have U:Hid (StAt w3 (wr.heap.size+1) b):=hid (f1.below T);have f5:Hid (BW w w3):=hid (E.trans (T.mono E.size));clear T Z a4 d1 f1 E o0 o1 c2;have o0:=L.cell 0;have o1:=L.cell 1;simp only[Zget]at o0 o1;have d4:Hid (∀(l':List Ah) (j:Nat),(∀x∈l',AhOk x)->∀x∈l'.set j (Zbi (l'.getD j ah0) st sl),AhOk x):=hid (fun l' j h=>ZB7 h (ZyZ (ZgN h j) (by have:=P.ln;rw[q.out]at this;exact this) (by have:=P.kd;rw[q.out]at this;exact this) (by have:=P.sl;rw[q.out]at this;exact this)) j);by_cases h9:op=9
      ·subst h9;rw[show ZcE 9=true from rfl];have j8:k<arg/\arg<=n:=by have:=c6.out;rw[HN.out];simpa [Zy] using this
       have i6:(arg:Int)<(n:Int)+1:=by omega
       go_upto_region 13 with fail
       refine Zbn 5 (fun u=>u.cell? ⟨wr.heap.size,1,none⟩=some (Vi arg)/\u.rangeAt (wr.heap.size+1) 0 (stC b)) Kr ⟨by simpa using L.cell 1,by simpa using U.range 0 (stC b) (fun j _=>by rw[Ycf])⟩ (fun f=>?_);refine Za 0 f (h:=?_);refine Za 1 f (h:=?_);refine Za 2 f (h:=?_);refine Za 3 f (h:=?_);refine ZeD (i:=4) (d:=53) (v:=.agg (stC b).toArray) rfl rfl Kr (fun _ _ _ h=>h) (yieldsIf_load_mid (by rfl) 312 (.tmp 8) rfl (wr.heap.size+1) 0 rfl (stC b) _ (fun w hw=>hw.2) underlying312 rfl d2.out) f ?rsp4
       case rsp4=>
       try simp only[Zset]
       refine Zbl Kr Kr rfl Kr (fun K Q=>?_);go_simp;refine(Zkb w3.drew (w.heap.size+1) arg l b (by rw[F.out];omega) (f3.below ((Yaf _ _).drew)) (ZgN G.out _) P.out (by rw[q.out]) (by rw[q.out])).mono ?_;rintro e M ⟨rfl,B,g⟩;refine Q.out _ _ ?_;have V:Hid (BAt M (w.heap.size+1) (stCs (l.set arg (Zbi (l.getD arg ah0) st sl))) 312):=hid (by have:=B.out;rw[q.out]at this;exact this);have C:=hid ((L.below ((Yaf _ _).drew)).grown g (by intro e;injection e with e;omega));have b5:=hid ((f4.below ((Yaf _ _).drew)).grown g (by intro e;injection e with e;omega));have d5:Hid (StAt M (wr.heap.size+1) b):=hid ((U.below ((Yaf _ _).drew)).grown g (by intro e;injection e with e;omega));have b6:Hid (BW w M):=hid (ZbV f5.drew g Om);clear Q K f g B o0 o1;have o0:=C.cell 0;have o1:=C.cell 1;simp only[Zget]at o0 o1;go_wp2
       go_roundw
       case rel=>exact⟨k+1,max mo sn,l.set arg (Zbi (l.getD arg ah0) st sl),by omega,by go_num,by first|rfl|go_num|(congr 1;omega),by omega,by rw[Yat];exact F.out,t,hid (d4.out l arg G.out),V,b5,b6⟩
       case measure=>simp[intOf];omega
      ·by_cases i1:op=10
       ·subst i1;rw[show ZcE 10=true from rfl];have j8:k<arg/\arg<=n:=by have:=c6.out;rw[HN.out];simpa [Zy] using this
        have i6:(arg:Int)<(n:Int)+1:=by omega
        go_upto_region 13 with fail
        refine Zbn 5 (fun u=>u.cell? ⟨wr.heap.size,1,none⟩=some (Vi arg)/\u.rangeAt (wr.heap.size+1) 0 (stC b)) Kr ⟨by simpa using L.cell 1,by simpa using U.range 0 (stC b) (fun j _=>by rw[Ycf])⟩ (fun f=>?_);refine Za 0 f (h:=?_);refine Za 1 f (h:=?_);refine Za 2 f (h:=?_);refine Za 3 f (h:=?_);refine ZeD (i:=4) (d:=53) (v:=.agg (stC b).toArray) rfl rfl Kr (fun _ _ _ h=>h) (yieldsIf_load_mid (by rfl) 312 (.tmp 8) rfl (wr.heap.size+1) 0 rfl (stC b) _ (fun w hw=>hw.2) underlying312 rfl d2.out) f ?rsq4
        case rsq4=>
        try simp only[Zset]
        refine Zbl Kr Kr rfl Kr (fun K Q=>?_);go_simp;refine(Zkb w3.drew (w.heap.size+1) arg l b (by rw[F.out];omega) (f3.below ((Yaf _ _).drew)) (ZgN G.out _) P.out (by rw[q.out]) (by rw[q.out])).mono ?_;rintro e M ⟨rfl,B,g⟩;refine Q.out _ _ ?_;have V:Hid (BAt M (w.heap.size+1) (stCs (l.set arg (Zbi (l.getD arg ah0) st sl))) 312):=hid (by have:=B.out;rw[q.out]at this;exact this);have C:=hid ((L.below ((Yaf _ _).drew)).grown g (by intro e;injection e with e;omega));have b5:=hid ((f4.below ((Yaf _ _).drew)).grown g (by intro e;injection e with e;omega));have d5:Hid (StAt M (wr.heap.size+1) b):=hid ((U.below ((Yaf _ _).drew)).grown g (by intro e;injection e with e;omega));have b6:Hid (BW w M):=hid (ZbV f5.drew g Om);clear Q K f g B o0 o1;have o0:=C.cell 0;have o1:=C.cell 1;simp only[Zget]at o0 o1;obtain⟨l1,b7⟩:∃l1,l1=l.set arg (Zbi (l.getD arg ah0) st sl):=⟨_,rfl⟩
        have i2:Hid (l1.length=n+1):=hid (by rw[b7,Yat];exact F.out);have f6:Hid (∀x∈l1,AhOk x):=hid (by rw[b7];exact d4.out l arg G.out);rw[<-b7]at V;have b9:Hid (Zbx c (k+1)=.ok (l1.set (k+1) (Zbi (l1.getD (k+1) ah0) st sl),max mo sn)):=hid (by rw[t.out,b7];rfl);clear b7 t;have t:=b9;have j9:(k:Int)+1<(n:Int)+1:=by omega
        have k0:IntKind.i64.wrap ((k:Int)+1)=(k:Int)+1:=by rw[Ybo];omega
        have k1:0<=(k:Int)+1:=by omega
        go_upto_region 15 with fail
        refine Zbn 5 (fun u=>u.cell? ⟨wr.heap.size,1,none⟩=some (Vi arg)/\u.rangeAt (wr.heap.size+1) 0 (stC b)) Kr ⟨by simpa using C.cell 1,by simpa using d5.range 0 (stC b) (fun j _=>by rw[Ycf])⟩ (fun f=>?_);refine Za 0 f (h:=?_);refine Za 1 f (h:=?_);refine Za 2 f (h:=?_);refine Za 3 f (h:=?_);refine ZeD (i:=4) (d:=62) (v:=.agg (stC b).toArray) rfl rfl Kr (fun _ _ _ h=>h) (yieldsIf_load_mid (by rfl) 312 (.tmp 8) rfl (wr.heap.size+1) 0 rfl (stC b) _ (fun w hw=>hw.2) underlying312 rfl d2.out) f ?rsr4
        case rsr4=>
        try simp only[Zset]
        refine Zbl Kr Kr rfl Kr (fun K Q=>?_);go_simp;refine(Zkb M.drew (w.heap.size+1) (k+1) l1 b (by rw[i2.out];omega) (V.below ((Yaf _ _).drew)) (ZgN f6.out _) P.out (by rw[q.out]) (by rw[q.out])).mono ?_;rintro e w7 ⟨rfl,B,b8⟩;refine Q.out _ _ ?_;have k2:Hid (BAt w7 (w.heap.size+1) (stCs (l1.set (k+1) (Zbi (l1.getD (k+1) ah0) st sl))) 312):=hid (by have:=B.out;rw[q.out]at this;exact this);have i3:=hid ((C.below ((Yaf _ _).drew)).grown b8 (by intro e;injection e with e;omega));have k3:=hid ((b5.below ((Yaf _ _).drew)).grown b8 (by intro e;injection e with e;omega));have l0:Hid (StAt w7 (wr.heap.size+1) b):=hid ((d5.below ((Yaf _ _).drew)).grown b8 (by intro e;injection e with e;omega));have k4:Hid (BW w w7):=hid (ZbV b6.drew b8 Om);clear Q K f b8 B o0 o1;have o0:=i3.cell 0;have o1:=i3.cell 1;simp only[Zget]at o0 o1;go_wp2
        go_roundw
        case rel=>exact⟨k+1,max mo sn,l1.set (k+1) (Zbi (l1.getD (k+1) ah0) st sl),by omega,by go_num,by first|rfl|go_num|(congr 1;omega),by omega,by rw[Yat];exact i2.out,t,hid (d4.out l1 (k+1) f6.out),k2,k3,k4⟩
        case measure=>simp[intOf];omega
       ·have f7:ZcE op=false:=by unfold ZcE;simp[h9,i1]
        rw[f7];have l2:((op:Int) != 9)=true:=by rw[bne_iff_ne];omega
        have b9:Hid (Zbx c (k+1)=.ok (l.set (k+1) (Zbi (l.getD (k+1) ah0) st sl),max mo sn)):=hid (by
         rw[t.out];unfold goOn;simp only[f7,if_neg h9];rfl)
        clear t f7;have t:=b9;have j9:(k:Int)+1<(n:Int)+1:=by omega
        have k0:IntKind.i64.wrap ((k:Int)+1)=(k:Int)+1:=by rw[Ybo];omega
        have k1:0<=(k:Int)+1:=by omega
        go_upto_region 15 with fail
        refine Zbn 5 (fun u=>u.cell? ⟨wr.heap.size,1,none⟩=some (Vi arg)/\u.rangeAt (wr.heap.size+1) 0 (stC b)) Kr ⟨by simpa using L.cell 1,by simpa using U.range 0 (stC b) (fun j _=>by rw[Ycf])⟩ (fun f=>?_);refine Za 0 f (h:=?_);refine Za 1 f (h:=?_);refine Za 2 f (h:=?_);refine Za 3 f (h:=?_);refine ZeD (i:=4) (d:=62) (v:=.agg (stC b).toArray) rfl rfl Kr (fun _ _ _ h=>h) (yieldsIf_load_mid (by rfl) 312 (.tmp 8) rfl (wr.heap.size+1) 0 rfl (stC b) _ (fun w hw=>hw.2) underlying312 rfl d2.out) f ?rss4
        case rss4=>
        try simp only[Zset]
        refine Zbl Kr Kr rfl Kr (fun K Q=>?_);go_simp;refine(Zkb w3.drew (w.heap.size+1) (k+1) l b (by rw[F.out];omega) (f3.below ((Yaf _ _).drew)) (ZgN G.out _) P.out (by rw[q.out]) (by rw[q.out])).mono ?_;rintro e M ⟨rfl,B,g⟩;refine Q.out _ _ ?_;have V:Hid (BAt M (w.heap.size+1) (stCs (l.set (k+1) (Zbi (l.getD (k+1) ah0) st sl))) 312):=hid (by have:=B.out;rw[q.out]at this;exact this);have C:=hid ((L.below ((Yaf _ _).drew)).grown g (by intro e;injection e with e;omega));have b5:=hid ((f4.below ((Yaf _ _).drew)).grown g (by intro e;injection e with e;omega));have d5:Hid (StAt M (wr.heap.size+1) b):=hid ((U.below ((Yaf _ _).drew)).grown g (by intro e;injection e with e;omega));have b6:Hid (BW w M):=hid (ZbV f5.drew g Om);clear Q K f g B o0 o1;have o0:=C.cell 0;have o1:=C.cell 1;simp only[Zget]at o0 o1;go_wp2
        go_roundw
        case rel=>exact⟨k+1,max mo sn,l.set (k+1) (Zbi (l.getD (k+1) ah0) st sl),by omega,by go_num,by first|rfl|go_num|(congr 1;omega),by omega,by rw[Yat];exact F.out,t,hid (d4.out l (k+1) G.out),V,b5,b6⟩
        case measure=>simp[intOf];omega
  ·obtain rfl:k=n:=by omega
   have r3:=c4.cell 3;simp only[Zget]at r3
   have d6:Hid (Zdj c=if Zd1 (l.getD k ah0)then .ok mo else .error (12,k)):=hid (by
    unfold Zdj;rw[<-HN.out,g2.out])
   have l3:(k:Int)<(k:Int)+1:=by omega
   have d7:=hid (Zxg wr (w.heap.size+1) k l (by rw[F.out];omega) c3.out);cases X:Zd1 (l.getD k ah0)with
   | true=>
    rw[X]at d7;have k5:Hid (Zdj c=.ok mo):=hid (by rw[d6.out,X];rfl);clear X d6
    go_wp2_with fail
    refine d7.mono ?_;rintro e wq ⟨rfl,rfl⟩;go_wp2;go_ret2;exact⟨_,_,rfl,hid (ZeM.mkOk k5.out ⟨rfl,rfl⟩),H.out⟩
   | false=>
    rw[X]at d7;have a6:Hid (Zdj c=.error (12,k)):=hid (by rw[d6.out,X];rfl);clear X d6
    go_wp2_with fail
    refine d7.mono ?_;rintro e wq ⟨rfl,rfl⟩;have gs:wq.cell? ⟨11,0,none⟩=some (.iface 491 (.pointer (some (A 11)))):=(HP.v.below H.out).sent _ Dc
    go_wp2_with fail
    refine(ZiW).mono ?_;rintro e w9 ⟨v,rfl,HE,I⟩;have a7:Hid (BW w w9):=hid (H.trans (I.mono H.size));obtain⟨fa,rfl,a8,a9⟩:=HE.out;clear I a8 a9;go_wp2;go_ret2;exact⟨_,_,rfl,hid (ZeM.kj a6.out ⟨rfl,rfl,HE.out⟩),a7.out⟩
theorem Zup(w:World)(c:CodeQ)(i op arg:Nat)(a0 a1 a2 a3:Option Addr)(e0 e1 e2 e3:Nat)(j:op<=13)(h:arg<65536) :
  CP 78 #[.agg #[.slice a0 c.jq.length e0,.slice a1 c.jv.length e1,.slice a2 c.jk.length e2,.slice a3 c.jz.length e3],Vi i,.agg #[Vi op,Vi arg]] w fun e u=>e=.returned (.bool (Zy c i (op,arg)))/\BW w u:=by
 obtain⟨nc,b⟩:∃nc,nc=c.jq.length:=⟨_,rfl⟩
 obtain⟨np,d⟩:∃np,np=c.jv.length:=⟨_,rfl⟩
 obtain⟨ng,f⟩:∃ng,ng=c.jk.length:=⟨_,rfl⟩
 obtain⟨ni,g⟩:∃ni,ni=c.jz.length:=⟨_,rfl⟩
 rw[<-b,<-d,<-f,<-g];have a:Hid (nc=c.jq.length/\np=c.jv.length/\ng=c.jk.length/\ni=c.jz.length):=hid ⟨b,d,f,g⟩;clear b d f g;rcases(by omega:op=0∨op=1∨op=2∨op=3∨op=4∨op=5∨op=6∨op=7∨op=8∨op=9∨op=10∨op=11∨op=12∨op=13)with rfl|rfl|rfl|rfl|rfl|rfl|rfl|rfl|rfl|rfl|rfl|rfl|rfl|rfl
 all_goals
  go_enter func78,ntmps78;go_wp2
  all_goals
   go_ret;refine⟨Zcy ?_,belB⟩
   first
    | (simp only[Zy,<-a.1,<-a.2.1,<-a.2.2.1,<-a.2.2.2];done)
    | (simp only[Zy,<-a.1,<-a.2.1,<-a.2.2.1,<-a.2.2.2];rw[Ybh];simp;done)
    | (simp only[Zy,<-a.1,<-a.2.1,<-a.2.2.1,<-a.2.2.2];rw[Ybh];simp;omega)
theorem ZCp(w:World)(A:Nat->Addr)(m:Int)(c:CodeQ)(a0 a1 a2 a3:Option Addr)(e0 e1 e2 e3:Nat)(h:HighP w A m c a0 a1 a2 a3 n0 n1 n2 e0 e1 e2 e3) :
  CP 81 #[.agg #[.slice a0 n0 e0,.slice a1 n1 e1,.slice a2 n2 e2,.slice a3 c.jz.length e3]] w fun e u=>e=.returned (Vi (Zdd c.jz:Nat))/\BW w u:=by
 have v:=hid h;have y:=h.ln;obtain⟨n,r⟩:∃n,n=c.jz.length:=⟨_,rfl⟩
 rw[<-r]at y ⊢;have B:=hid r;clear h r;go_enter func81,ntmps81;go_wp2
 go_loopw [3, 9] (fun sv iv wr => ∃ (k s : Nat), k <= n /\ iv = Vi k /\ sv = Vi s /\ s <= 65536 /\ Hid (s = Zdd (c.jz.take k)) /\ Hid (BW w wr))
   (fun _ iv _=>n - (intOf iv).toNat)
 case atStart=>exact⟨0,0,Yag _,rfl,rfl,by decide,hid rfl,hid belB⟩
 case round=>
  obtain⟨k,s,L,rfl,rfl,H,C,d⟩:=hrel;by_cases D:k<n
  ·have K:(k:Int)<n:=by omega
   have f:k<c.jz.length:=by rw[<-B.out];exact D
   have a:=hid (v.cv.below d.out).is;obtain⟨gi,cpi,E⟩:=ZF a.out Om;injection E with hgi1 hgi2 hgi3;subst hgi1;have i0c:=Zi a.out _ _ (Zfm c.jz k f).1;have i1c:=Zi a.out _ _ (Zfm c.jz k f).2;have I:=Z1 a.out;have F:=v.op c.jz[k] (List.getElem_mem f);have b:Hid (Zdd (c.jz.take (k+1))=if Zf4 c.jz[k].1 then max s (c.jz[k].2+1)else s):=hid (by rw[List.take_succ_eq_append_getElem f,ZCq,<-C.out]);generalize c.jz[k]=x at *
   obtain⟨op,arg⟩:=x;simp only at i0c i1c b F;clear hgi2 hgi3 a
   go_wp2_with fail
   refine Zm fun W t=>?_;have o:BW wr W:=by rw[t];exact Zbal
   have g:Hid (BW w W):=hid (d.trans (o.mono d.size));have p:Hid (BAt W wr.heap.size [Vi op,Vi arg] 184):=hid (by rw[t];exact Go.Deep.blk_alloc_new _ _);clear t o i0c i1c;refine(ZwQ op arg W).mono ?_;rintro e z ⟨rfl,i⟩;have q:Hid (BW w z):=hid (g.trans (i.mono g.size));have G:=hid (p.below i);clear i p g;have o1:=G.cell 1;simp only[Zget]at o1;cases l:Zf4 op with
   | true=>
    have j:Hid (Zdd (c.jz.take (k+1))=max s (arg+1)):=hid (by rw[b.out,l];rfl);clear l b;go_wp2
    go_roundw
    case rel=>exact⟨k+1,max s (arg+1),by omega,by go_num,by first|rfl|go_num|(congr 1;omega),by omega,hid j.symm,q⟩
    case measure=>simp[intOf];omega
   | false=>
    have j:Hid (Zdd (c.jz.take (k+1))=s):=hid (by rw[b.out,l];rfl);clear l b;go_wp2
    go_roundw
    case rel=>exact⟨k+1,s,by omega,by go_num,rfl,H,hid j.symm,q⟩
    case measure=>simp[intOf];omega
  ·obtain rfl:k=n:=by omega
   have J:Hid (s=Zdd c.jz):=hid (by rw[C.out,B.out,Ya4]);go_wp2;go_ret;exact⟨ZrR (by rw[J.out]),d.out⟩
def ZeN(w:World)(A:Nat->Addr)(r:Except (Nat×Nat) (Nat×Nat))(v err:Value):Prop:=match r with
 | .ok x=>v=.agg #[.int .i64 x.1,.int .i64 x.2]/\err=.nilIface
 | .error x=>v=.agg #[.int .i64 0,.int .i64 0]/\((x.1=11/\Zcs w err x.2 (A 10))∨(x.1=12/\Zcs w err x.2 (A 11)))
theorem ZeN.mkOk{r:Except (Nat×Nat) (Nat×Nat)}(a:r=.ok x)(h:v=.agg #[Vi x.1,Vi x.2]/\err=.nilIface):ZeN w A r v err:=by subst a;exact h
theorem ZeN.kj{r:Except (Nat×Nat) (Nat×Nat)}(a:r=.error x)(h:v=.agg #[Vi 0,Vi 0]/\((x.1=11/\Zcs w err x.2 (A 10))∨(x.1=12/\Zcs w err x.2 (A 11)))):ZeN w A r v err:=by subst a;exact h
theorem Ziw{a:Nat}(h:BW w0 w)(b:w0.heap.size<=a)(x y:Value):BW w0 (set2 w a x y):=
 (h.setCell (p:=⟨a,0,none⟩) b _).setCell (p:=⟨a,1,none⟩) b _
theorem Zo1(h:Zcs w v p a)(i:∀fa:Nat,v=.iface 115 (Vp fa)->fa≠b)(x y:Value):Zcs (set2 w b x y) v p a:=by
 obtain⟨fa,f,c,d⟩:=h;have g:=i fa f;have e:(set2 w b x y).heap[fa]?=w.heap[fa]?:=Zm7 w b x y g;refine⟨fa,f,?_,?_⟩
 ·unfold World.cell? at c ⊢;simp only at c ⊢;rw[e];exact c
 ·unfold World.cell? at d ⊢;simp only at d ⊢;rw[e];exact d
theorem ZrO : ∀(k:Nat),Zcp c k=.ok ()->∀i,i<k->Zy c i (c.jz.getD i (0,0))=true
 | 0,_,i,b=>by omega
 | k + 1, h, i, b => by
   unfold Zcp at h;cases a:Zcp c k with
   | error e=>rw[a]at h;cases h
   | ok u=>
     rw[a]at h;simp only at h;by_cases e:i=k
     · subst e
       cases d:Zy c i (c.jz.getD i (0,0))with
       | true=>rfl
       | false=>rw[d]at h;cases h
     · exact ZrO k a i Om
structure LookP (w:World) (A:Nat->Addr) (m:Int) (c:CodeQ) (a0 a1 a2 a3:Option Addr) (e0 e1 e2 e3:Nat):Prop where
 v:Vars w A m
 n:20<=w.heap.size
 cv:CodeV w c (.slice a0 c.jq.length e0) (.slice a1 c.jv.length e1) (.slice a2 c.jk.length e2) (.slice a3 c.jz.length e3)
 ln:c.jz.length<=65535
 op:∀x∈c.jz,x.1<=13/\x.2<65536
theorem LookP.high{e0 e1 e2 e3:Nat}(h:LookP w A m c a0 a1 a2 a3 e0 e1 e2 e3)(a:BW w w')(b:Zcp c c.jz.length=.ok ()):HighP w' A m c a0 a1 a2 a3 c.jq.length c.jv.length c.jk.length e0 e1 e2 e3:=
 ⟨h.v.below a,Yah h.n a.size,h.cv.below a,h.ln,fun i d=>ZrO _ b i d,h.op⟩
theorem ZyD(w:World)(A:Nat->Addr)(m:Int)(c:CodeQ)(a0 a1 a2 a3:Option Addr)(e0 e1 e2 e3:Nat)(h:LookP w A m c a0 a1 a2 a3 e0 e1 e2 e3) :
  CP 39 #[.agg #[.slice a0 c.jq.length e0,.slice a1 c.jv.length e1,.slice a2 c.jk.length e2,.slice a3 c.jz.length e3]] w fun e u=>∃v err,e=.returned (.tuple #[v,err])/\Hid (ZeN u A (ZcT c) v err)/\BW w u:=by
 have HP:=hid h;have a6:=h.ln;have U:Hid (∀(W:World) (i op arg:Nat),op<=13->arg<65536->CP 78 #[.agg #[.slice a0 c.jq.length e0,.slice a1 c.jv.length e1,.slice a2 c.jk.length e2,.slice a3 c.jz.length e3],Vi i,.agg #[Vi op,Vi arg]] W _):=hid (fun W i op arg K L=>Zup W c i op arg a0 a1 a2 a3 e0 e1 e2 e3 K L);have V:Hid (∀W,BW w W->Zcp c c.jz.length=.ok ()->CP 80 #[.agg #[.slice a0 c.jq.length e0,.slice a1 c.jv.length e1,.slice a2 c.jk.length e2,.slice a3 c.jz.length e3]] W _):=hid (fun W K L=>Zw0 W A m c a0 a1 a2 a3 e0 e1 e2 e3 (h.high K L));have X:Hid (∀W,BW w W->Zcp c c.jz.length=.ok ()->CP 81 #[.agg #[.slice a0 c.jq.length e0,.slice a1 c.jv.length e1,.slice a2 c.jk.length e2,.slice a3 c.jz.length e3]] W _):=hid (fun W K L=>ZCp W A m c a0 a1 a2 a3 e0 e1 e2 e3 (h.high K L));obtain⟨n,hn⟩:∃n,n=c.jz.length:=⟨_,rfl⟩
 rw[<-hn]at a6 U V X ⊢;generalize c.jq.length=n0 at *
 generalize c.jv.length=n1 at *
 generalize c.jk.length=n2 at *
 have HN:=hid hn;clear h hn;go_enter func39,ntmps39;go_wp2
 go_loopw [11] (fun iv wr => ∃ k : Nat, k <= n /\ iv = Vi k /\ Hid (Zcp c k = .ok ()) /\ Hid (BAt wr w.heap.size [.slice a0 n0 e0, .slice a1 n1 e1, .slice a2 n2 e2, .slice a3 n e3] 58) /\ Hid (BAt wr (w.heap.size + 1) [Vi 0, Vi 0] 31) /\ Hid (BW w wr))
   (fun iv _=>n - (intOf iv).toNat)
 case atStart=>
  refine⟨0,Yag _,rfl,hid rfl,hid ((Zbal.block _ (by simp)).trans (Go.Deep.blk_alloc_new _ _)),hid ?_,hid belB⟩;have:=Go.Deep.blk_alloc_new (w.alloc (.cells #[.slice a0 n0 e0,.slice a1 n1 e1,.slice a2 n2 e2,.slice a3 n e3] 58)) (.cells #[Vi 0,Vi 0] 31)
  rwa [Go.Deep.nblk_alloc]at this
 case round=>
  obtain⟨k,hk,rfl,B,b,p,d⟩:=hrel;have q0:=b.cell 0;have q1:=b.cell 1;have q2:=b.cell 2;have q3:=b.cell 3;simp only[Zget]at q0 q1 q2 q3;have b5:=b.lt;have b6:=p.lt;by_cases a7:k<n
  ·have b7:(k:Int)<n:=by omega
   have C:k<c.jz.length:=by rw[<-HN.out];exact a7
   have q:=hid (HP.cv.below d.out).is;obtain⟨gi,cpi,a8⟩:=ZF q.out Om;injection a8 with hgi1 hgi2 hgi3;subst hgi1;have i0c:=Zi q.out _ _ (Zfm c.jz k C).1;have i1c:=Zi q.out _ _ (Zfm c.jz k C).2;have b4:=Z1 q.out;have M:=HP.op c.jz[k] (List.getElem_mem C)
   have s:Hid (Zcp c (k+1)=if Zy c k c.jz[k] then .ok ()else .error (11,k)):=hid (by
    show(match Zcp c k with|.error e=>_|.ok _=>_)=_;rw[B.out];simp only;rw[Yaa,List.getElem?_eq_getElem C];rfl)
   generalize c.jz[k]=x at *
   obtain⟨op,arg⟩:=x;simp only at i0c i1c s M;clear hgi2 hgi3 q
   go_wp2_with fail
   refine Zm fun W hW=>?_;have D:BW wr W:=by rw[hW];exact Zbal
   have N:Hid (BW w W):=hid (d.trans (D.mono d.size));have Y:=hid (b.below D);have Z:=hid (p.below D);clear hW D i0c i1c b p d q0 q1 q2 q3;refine(U.out W k op arg M.1 M.2).mono ?_;rintro e z ⟨rfl,E⟩;have F:Hid (BW w z):=hid (N.trans (E.mono N.size));have a9:=hid (Y.below E);have a4:=hid (Z.below E);clear E Y Z N;cases T:Zy c k (op,arg)with
   | true=>
    have b0:Hid (Zcp c (k+1)=.ok ()):=hid (by rw[s.out,T];rfl);clear T s;go_wp2
    go_roundw
    case rel=>exact⟨k+1,by omega,by go_num,b0,a9,a4,F⟩
    case measure=>simp[intOf];omega
   | false=>
    have t:Hid (ZcT c=.error (11,k)):=hid (by
     unfold ZcT;rw[ZBu (k:=k+1) (e:=(11,k)) (by rw[s.out,T];rfl) _ Om])
    have gs:z.cell? ⟨10,0,none⟩=some (.iface 491 (.pointer (some (A 10)))):=(HP.v.below F.out).sent _ Dc;clear T s
    go_wp2_with fail
    refine(ZiW).mono ?_;rintro e w9 ⟨v,rfl,O,P⟩;have b1:Hid (BW w w9):=hid (F.trans (P.mono F.size));have j:=hid (a4.below P);clear P;obtain⟨fa,rfl,Q,f⟩:=O.out
    have R : Hid (∀ fb : Nat, Value.iface 115 (Vp fa) = .iface 115 (Vp fb) -> fb ≠ w.heap.size + 1) := hid (fun fb e1 e2 => by
      injection e1 with _ e1;injection e1 with e1;injection e1 with e1;injection e1 with e1;subst e1;subst e2;rw[j.cell 2]at f;cases f)
    clear Q f;have f0:=j.frozen 0;have f1:=j.frozen 1;have z0:=j.cell 0;have z1:=j.cell 1;simp only[Zget]at z0 z1;go_wp2;exact ret2 (r:=.tuple #[.agg #[Vi 0,Vi 0],.iface 115 (Vp fa)]) (fun W s0 s1=>by simp[results,results39,go_sem,s0,s1]) rfl j.out ⟨_,_,rfl,hid (ZeN.kj t.out ⟨rfl,Or.inl ⟨rfl,Zo1 O.out R.out (Vi 0) (Vi 0)⟩⟩),Ziw (w0:=w) (a:=w.heap.size+1) b1.out (Nat.le_succ _) (Vi 0) (Vi 0)⟩
  ·obtain rfl:k=n:=by omega
   have a5:Hid (Zcp c c.jz.length=.ok ()):=hid (by rw[<-HN.out];exact B.out)
   go_wp2_with fail
   refine(V.out wr d.out B.out).mono ?_;rintro e w5 ⟨v,err,rfl,l,G⟩;have H:Hid (BW w w5):=hid (d.trans (G.mono d.size));have I:=hid (b.below G);have g:=hid (p.below G);clear G b p q0 q1 q2 q3;cases J:Zdj c with
   | error x=>
    rw[J]at l;obtain⟨rfl,hx,he⟩:=l.out;have t:Hid (ZcT c=.error x):=hid (by unfold ZcT;rw[a5.out];simp only;rw[J]);have O:=hid he;have b2:=hid hx;clear l J he hx;obtain⟨fa,rfl,Q,f⟩:=O.out
    have R : Hid (∀ fb : Nat, Value.iface 115 (Vp fa) = .iface 115 (Vp fb) -> fb ≠ w.heap.size + 1) := hid (fun fb e1 e2 => by
      injection e1 with _ e1;injection e1 with e1;injection e1 with e1;injection e1 with e1;subst e1;subst e2;rw[g.cell 2]at f;cases f)
    clear Q f;have f0:=g.frozen 0;have f1:=g.frozen 1;have z0:=g.cell 0;have z1:=g.cell 1;simp only[Zget]at z0 z1;go_wp2;exact ret2 (r:=.tuple #[.agg #[Vi 0,Vi 0],.iface 115 (Vp fa)]) (fun W s0 s1=>by simp[results,results39,go_sem,s0,s1]) rfl g.out ⟨_,_,rfl,hid (ZeN.kj t.out ⟨rfl,Or.inr ⟨b2.out,Zo1 O.out R.out (Vi 0) (Vi 0)⟩⟩),Ziw (w0:=w) (a:=w.heap.size+1) H.out (Nat.le_succ _) (Vi 0) (Vi 0)⟩
   | ok mm=>
    rw[J]at l;obtain⟨rfl,rfl⟩:=l.out;have t:Hid (ZcT c=.ok (mm,Zdd c.jz)):=hid (by unfold ZcT;rw[a5.out];simp only;rw[J]);clear l J;have q0:=I.cell 0;have q1:=I.cell 1;have q2:=I.cell 2;have q3:=I.cell 3;simp only[Zget]at q0 q1 q2 q3
    go_wp2_with fail
    refine(X.out w5 H.out B.out).mono ?_;rintro e w6 ⟨rfl,S⟩;have b3:Hid (BW w w6):=hid (H.trans (S.mono H.size));have y:=hid (g.below S);clear S q0 q1 q2 q3;generalize Zdd c.jz=sn at *
    have f0:=y.frozen 0;have f1:=y.frozen 1;have z0:=y.cell 0;have z1:=y.cell 1;simp only[Zget]at z0 z1;go_wp2;exact ret2 (r:=.tuple #[.agg #[Vi mm,Vi sn],.nilIface]) (fun W s0 s1=>by simp[results,results39,go_sem,s0,s1]) rfl y.out ⟨_,_,rfl,hid (ZeN.mkOk t.out ⟨rfl,rfl⟩),Ziw (w0:=w) (a:=w.heap.size+1) b3.out (Nat.le_succ _) (Vi mm) (Vi sn)⟩
theorem Zge{α:Type}{one:Nat->RdR α}{p:Nat}{P:α->Prop}(b:∀p x,one p=.ok x->P x.1):∀ {k:Nat} {xs:List α} {q:Nat},many one p k=.ok (xs,q)->∀x∈xs,P x
 | 0,xs,q,h=>by injection h with h;injection h with b h2;subst b;intro x f;cases f
 | k + 1, xs, q, h => by
   unfold many at h;cases c:many one p k with
   | error e=>rw[c]at h;cases h
   | ok x=>
     rw[c]at h;simp only at h;cases d:one x.2 with
     | error e=>rw[d]at h;cases h
     | ok y=>
       rw[d]at h;injection h with h;injection h with h2 h3;subst h2;intro z a;rcases Yar.1 a with a|a
       · exact Zge b (show many one p k=.ok (x.1,x.2) from c) z a
       · rw[Yap]at a;subst a;exact b _ _ d
theorem ZwV{n:Nat×Nat×Nat×Nat}(h:Zc8 l=.ok n):n.2.2.2<=65535:=by
 unfold Zc8 at h;split at h
 ·cases h
 ·split at h
  ·cases h
  ·injection h with h;subst h;have:back (sub l 7 2)<256 ^ 2:=ZhM (by unfold sub;simp;omega);simp only;omega
theorem Zll(h:Zb7 l=.ok c):c.jz.length<=65535/\∀x∈c.jz,x.1<=13/\x.2<65536:=by
 unfold Zb7 at h;cases b:Zc8 l with
 | error e=>rw[b]at h;cases h
 | ok n=>
  rw[b]at h;simp only at h;cases d:many (ZbW l) 9 n.1 with
  | error e=>rw[d]at h;cases h
  | ok cs=>
   rw[d]at h;simp only at h;cases f:many (pickAt l) cs.2 n.2.1 with
   | error e=>rw[f]at h;cases h
   | ok ps=>
    rw[f]at h;simp only at h;cases g:many (groupAt l) ps.2 n.2.2.1 with
    | error e=>rw[g]at h;cases h
    | ok gs=>
     rw[g]at h;simp only at h;cases a:many (ZbN l) gs.2 n.2.2.2 with
     | error e=>rw[a]at h;cases h
     | ok is=>
      rw[a]at h;simp only at h;split at h
      ·cases h
      ·split at h
       ·cases h
       ·split at h
        ·cases h
        ·injection h with h;subst h;refine⟨?_,?_⟩
         ·have:=ZqR (show many (ZbN l) gs.2 n.2.2.2=.ok (is.1,is.2) from a);have:=ZwV b;simp only;omega
         ·exact Zge (fun p x h=>(ZlQ h).2) (show many (ZbN l) gs.2 n.2.2.2=.ok (is.1,is.2) from a)
def BadV(w:World)(A:Nat->Addr)(x:Nat×Nat)(err:Value):Prop:=
 (x.1=9/\Zcs w err x.2 (A 8))∨(x=(10,0)/\err=.iface 491 (.pointer (some (A 9))))∨(x.1=11/\Zcs w err x.2 (A 10))∨(x.1=12/\Zcs w err x.2 (A 11))
def Zcj(w:World)(A:Nat->Addr)(r:Except (Nat×Nat) (CodeQ×Nat×Nat))(v n err:Value):Prop:=match r with
 | .ok x=>CodV w x.1 v/\n=.agg #[.int .i64 x.2.1,.int .i64 x.2.2]/\err=.nilIface
 | .error x=>n=.agg #[.int .i64 0,.int .i64 0]/\BadV w A x err
theorem Zcj.mkOk{n:Value}{x:CodeQ×Nat×Nat}(a:r=.ok x)(h:CodV w x.1 v/\n=.agg #[Vi x.2.1,Vi x.2.2]/\err=.nilIface):Zcj w A r v n err:=by subst a;exact h
theorem Zcj.kj{n:Value}(a:r=.error x)(h:n=.agg #[Vi 0,Vi 0]/\BadV w A x err):Zcj w A r v n err:=by subst a;exact h
theorem ZM.pl(h:ZM w v p a):Zcs w v p a:=by
 obtain⟨fa,c,b⟩:=h;exact⟨fa,c,by simp[World.cell?,b],by simp[World.cell?,b]⟩
theorem BadV.below(h:BadV w A x err)(a:BW w w'):BadV w' A x err:=by
 rcases h with h|h|h|h
 ·exact Or.inl ⟨h.1,h.2.below a⟩
 ·exact Or.inr (Or.inl h)
 ·exact Or.inr (Or.inr (Or.inl ⟨h.1,h.2.below a⟩))
 ·exact Or.inr (Or.inr (Or.inr ⟨h.1,h.2.below a⟩))
theorem Zcj.below{n:Value}(h:Zcj w A r v n err)(a:BW w w'):Zcj w' A r v n err:=by
 cases r with
 | ok x=>exact⟨h.1.below a,h.2⟩
 | error x=>exact⟨h.1,h.2.below a⟩
theorem Zcs.kept2(h:Zcs w v p a){c:List Value}{t:TypeId}(i:BAt w b c t)(j:w.grownBy w' (some b))(k:∀t v,c[2]?≠some (.iface t v)):Zcs w' v p a:=by
 obtain⟨fa,l,f,d⟩:=h
 have g:some fa≠some b:=by
  intro e;injection e with e;subst e;rw[i.cell 2]at d;exact k _ _ d
 have m:fa<w.heap.size:=Yai _ _ d;have e:=j.block fa m g;refine⟨fa,l,?_,?_⟩
 ·unfold World.cell? at f ⊢;simp only at f ⊢;rw[e];exact f
 ·unfold World.cell? at d ⊢;simp only at d ⊢;rw[e];exact d
theorem BadV.kept2(h:BadV w A x err){c:List Value}{t:TypeId}(a:BAt w b c t)(d:w.grownBy w' (some b))(e:∀t v,c[2]?≠some (.iface t v)):BadV w' A x err:=by
 rcases h with h|h|h|h
 ·exact Or.inl ⟨h.1,h.2.kept2 a d e⟩
 ·exact Or.inr (Or.inl h)
 ·exact Or.inr (Or.inr (Or.inl ⟨h.1,h.2.kept2 a d e⟩))
 ·exact Or.inr (Or.inr (Or.inr ⟨h.1,h.2.kept2 a d e⟩))
theorem Zcj.kept2{n:Value}(h:Zcj w A r v n err){c:List Value}{t:TypeId}(a:BAt w b c t)(d:w.grownBy w' (some b))(e:∀t v,c[2]?≠some (.iface t v))
  (f:t≠3) (g:t≠294) (i:t≠379) (j:t≠90) (k:t≠9) (l:t≠184):Zcj w' A r v n err:=by
 cases r with
 | ok x=>exact⟨h.1.jw a d f g i j k l,h.2⟩
 | error x=>exact⟨h.1,h.2.kept2 a d e⟩
theorem BadV.shape(h:BadV w A x err):(∃fa:Nat,err=.iface 115 (Vp fa))∨err=.iface 491 (.pointer (some (A 9))):=by
 rcases h with ⟨_,fa,h,_⟩|h|⟨_,fa,h,_⟩|⟨_,fa,h,_⟩
 ·exact Or.inl ⟨fa,h⟩
 ·exact Or.inr h.2
 ·exact Or.inl ⟨fa,h⟩
 ·exact Or.inl ⟨fa,h⟩
structure OverE (w0 w W:World) (A:Nat->Addr) (r:Except (Nat×Nat) (CodeQ×Nat×Nat)) (v n err:Value) (b d:Nat) (x0 x1 x2 x3 y0 y1:Value):Prop where
 oc:Zcj W A r v n err
 ob:BW w0 W
 ox:BAt W b [x0,x1,x2,x3] 58
 oy:BAt W d [y0,y1] 31
theorem Zrs{n:Value}{d:Nat}(h:Zcj w A r v n err)(f:BW w0 w)(g:w0.heap.size<=b)(hd:w0.heap.size<=d)(a:b≠d)
  (c:BAt w b [S0,S0,S0,S0] 58) (i:BAt w d [Vi 0,Vi 0] 31) (x0 x1 x2 x3 y0 y1:Value) :
  OverE w0 w (set2 (set4 w b x0 x1 x2 x3) d y0 y1) A r v n err b d x0 x1 x2 x3 y0 y1:=by
 have g1:=Zg8 w b x0 x1 x2 x3;have z1:=i.grown g1 (by intro e;injection e with e;exact a e.symm);have g2:=Zka (set4 w b x0 x1 x2 x3) d y0 y1
 exact ⟨(h.kept2 c g1 (by intro t v; simp) Dc Dc Dc Dc Dc Dc).kept2 z1 g2 (by intro t v; simp) Dc Dc Dc Dc Dc Dc,
   Ziw (Zgt f g _ _ _ _) hd _ _,(Zgs c).grown g2 (by intro e;injection e with e;exact a e),ZdS z1⟩
theorem LookP.mk'{n3 e0 e1 e2 e3:Nat}(i:Vars w A m)(j:20<=w.heap.size)(k:CodV w c (.agg #[.slice a0 n0 e0,.slice a1 n1 e1,.slice a2 n2 e2,.slice a3 n3 e3]))(g:Zb7 l=.ok c) :
  (n0=c.jq.length/\n1=c.jv.length/\n2=c.jk.length/\n3=c.jz.length)/\LookP w A m c a0 a1 a2 a3 e0 e1 e2 e3:=by
 obtain⟨cv,pv,gv,iv,e,h⟩:=k;injection e with e;injection e with e;simp only[List.cons.injEq,and_true]at e;obtain⟨rfl,rfl,rfl,rfl⟩:=e;obtain⟨b0,f0,a⟩:=h.cs.shape;obtain⟨b1,f1,b⟩:=h.ps.shape;obtain⟨b2,f2,d⟩:=h.gs.shape;obtain⟨b3,f3,f⟩:=h.is.shape;injection a with _ a _;injection b with _ b _;injection d with _ d _;injection f with _ f _;subst a b d f;exact⟨⟨rfl,rfl,rfl,rfl⟩,i,j,h,(Zll g).1,(Zll g).2⟩
theorem ZqK(s:BA)(A:Nat->Addr)(m:Int)(w:World)(hv:Vars w A m)(ht:ZR w)(K:20<=w.heap.size)(hs:s.size<=maxLen) :
  CP 21 #[.string s] w fun e u=>∃v n err,e=.returned (.tuple #[v,n,err])/\Hid (Zcj u A (ZcR (bl s)) v n err)/\CodZ v/\BW w u:=by
 have P:Hid (∀W,BW w W->CP 38 #[.string s] W _):=hid (fun W z=>ZAU s A m W (hv.below z) (ht.low z K) (Yah K z.size) hs);have HV:=hid hv;have a8:=hid K;clear hv ht K hs;go_enter func21,ntmps21
 go_wp2_with fail
 refine Zm fun W L=>?_;have Q:BW w W:=by rw[L];exact Zbal.alloc (by simp) _
 have R:Hid (BAt W w.heap.size [S0,S0,S0,S0] 58):=hid (by
  rw[L];exact(Zbal.block _ (by simp)).trans (Go.Deep.blk_alloc_new _ _))
 have S:Hid (BAt W (w.heap.size+1) [Vi 0,Vi 0] 31):=hid (by
  rw[L];have:=Go.Deep.blk_alloc_new (w.alloc (.cells #[S0,S0,S0,S0] 58)) (.cells #[Vi 0,Vi 0] 31);rwa [Go.Deep.nblk_alloc]at this)
 have B:=hid Q;clear L Q;refine(P.out W B.out).mono ?_;rintro e y ⟨v,err,rfl,G,C⟩;have k:Hid (BW w y):=hid (B.trans (C.mono B.size));have a:=hid (R.below C);have i:=hid (S.below C);clear C R S B;cases hd:Zb7 (bl s)with
 | error x=>
  have o:Hid (ZcR (bl s)=.error x):=hid (by unfold ZcR;rw[hd])
  have H:Hid (BadV y A x err):=hid (by
   have h:=G.out;rw[hd]at h;rcases h.2 with h|h
   ·exact Or.inl ⟨h.1,h.2.pl⟩
   ·exact Or.inr (Or.inl h))
  obtain rfl:v=.agg #[S0,S0,S0,S0]:=by
   have h:=G.out;rw[hd]at h;exact h.1
  have t:Hid (Zcj y A (ZcR (bl s)) (.agg #[S0,S0,S0,S0]) (.agg #[Vi 0,Vi 0]) err):=hid (Zcj.kj o.out ⟨rfl,H.out⟩);have f:=hid (Zrs (b:=w.heap.size) (d:=w.heap.size+1) t.out k.out (Yac _) (Yfx _ _) Om a.out i.out S0 S0 S0 S0 (Vi 0) (Vi 0));have a6:=a.lt;have a7:=i.lt;have f0:=a.frozen 0;have f1:=a.frozen 1;have f2:=a.frozen 2;have f3:=a.frozen 3;have c0:=a.cell 0;have c1:=a.cell 1;have c2:=a.cell 2;have c3:=a.cell 3;have i0:=i.frozen 0;have i1:=i.frozen 1;have j0:=i.cell 0;have j1:=i.cell 1;simp only[Zget]at c0 c1 c2 c3 j0 j1;have a9:=H.shape;clear G hd H o t;rcases a9 with ⟨fa,rfl⟩|rfl
  all_goals
   go_wp2;change bodyPost _ _ _ _ _ ((set2 (set4 y w.heap.size S0 S0 S0 S0) (w.heap.size+1) (Vi 0) (Vi 0)).alloc (.cells #[S0,S0,S0,S0] 58));clear f0 f1 f2 f3 c0 c1 c2 c3 i0 i1 j0 j1;generalize set2 (set4 y w.heap.size S0 S0 S0 S0) (w.heap.size+1) (Vi 0) (Vi 0)=WY at *
   have j:BW WY (WY.alloc (.cells #[S0,S0,S0,S0] 58)):=Zbal;have D:=hid (f.ob.trans (j.mono f.ob.size));have E:=hid (f.oc.below j);have sx:=f.ox.below j;have sy:=f.oy.below j;have s0:=sx.cell 0;have s1:=sx.cell 1;have s2:=sx.cell 2;have s3:=sx.cell 3;have t0:=sy.cell 0;have t1:=sy.cell 1;simp only[Zget]at s0 s1 s2 s3 t0 t1;generalize WY.alloc (.cells #[S0,S0,S0,S0] 58)=WX at *
  ·exact bodyPost_ret (v:=.tuple #[.agg #[S0,S0,S0,S0],.agg #[Vi 0,Vi 0],.iface 115 (Vp fa)]) (by simp[results,results21,go_sem,s0,s1,s2,s3,t0,t1]) rfl ⟨_,_,_,rfl,E,⟨_,_,_,_,_,_,_,_,_,_,_,_,rfl⟩,D.out⟩
  ·exact bodyPost_ret (v:=.tuple #[.agg #[S0,S0,S0,S0],.agg #[Vi 0,Vi 0],.iface 491 (.pointer (some (A 9)))]) (by simp[results,results21,go_sem,s0,s1,s2,s3,t0,t1]) rfl ⟨_,_,_,rfl,E,⟨_,_,_,_,_,_,_,_,_,_,_,_,rfl⟩,D.out⟩
 | ok c=>
  obtain⟨rfl,F⟩:err=.nilIface/\CodV y c v:=by
   have h:=G.out;rw[hd]at h;exact h
  obtain⟨a0,a1,a2,a3,n0,n1,n2,n3,e0,e1,e2,e3,rfl⟩:=F.shape;have T:=hid F
  have U : Hid (∀ W, BW y W -> CP 39 #[.agg #[.slice a0 n0 e0, .slice a1 n1 e1, .slice a2 n2 e2, .slice a3 n3 e3]] W fun e u => ∃ v err, e = .returned (.tuple #[v, err]) /\ Hid (ZeN u A (ZcT c) v err) /\ BW W u) := hid (fun W z => by
    obtain⟨⟨rfl,rfl,rfl,rfl⟩,hp⟩:=LookP.mk' (HV.below ((k.trans (z.mono k.size)))) (Yah a8.out (Yah k.size z.size)) (F.below z) hd;exact ZyD W A m c a0 a1 a2 a3 e0 e1 e2 e3 hp)
  have o:Hid (ZcR (bl s)=match ZcT c with|.error e=>.error e|.ok x=>.ok (c,x)):=hid (by unfold ZcR;rw[hd];rfl);have a6:=a.lt;have a7:=i.lt;clear G hd F
  go_wp2_with fail
  refine Zm fun M I=>?_;have p:BW y M:=by rw[I];exact Zbal
  have V:Hid (BAt M y.heap.size [.slice a0 n0 e0,.slice a1 n1 e1,.slice a2 n2 e2,.slice a3 n3 e3] 58):=hid (by rw[I];exact Go.Deep.blk_alloc_new _ _);have J:Hid (BW w M):=hid (k.trans (p.mono k.size));have X:=hid (a.below p);have Y:=hid (i.below p);have Z:=hid (T.below p);clear I a i T k;refine(U.out M p).mono ?_;rintro e N ⟨nv,er,rfl,a4,q⟩;have b0:Hid (BW w N):=hid (J.trans (q.mono J.size));have g:=hid (X.below q);have l:=hid (Y.below q);have r:=hid (V.below q);have a5:=hid (Z.below q);clear p q X Y V Z J U P
  obtain⟨mm,sn,rfl,t⟩:∃(mm sn:Nat),nv=.agg #[Vi mm,Vi sn]/\Hid (Zcj N A (ZcR (bl s)) (.agg #[.slice a0 n0 e0,.slice a1 n1 e1,.slice a2 n2 e2,.slice a3 n3 e3]) (.agg #[Vi mm,Vi sn]) er):=by
   have h:=a4.out;cases O:ZcT c with
   | ok x=>
    rw[O]at h;obtain⟨rfl,rfl⟩:=h;exact⟨_,_,rfl,hid (Zcj.mkOk (x:=(c,x)) (by rw[o.out,O]) ⟨a5.out,rfl,rfl⟩)⟩
   | error x=>
    rw[O]at h;obtain⟨rfl,h⟩:=h;refine⟨0,0,rfl,hid (Zcj.kj (x:=x) (by rw[o.out,O]) ⟨rfl,?_⟩)⟩;rcases h with h|h
    ·exact Or.inr (Or.inr (Or.inl h))
    ·exact Or.inr (Or.inr (Or.inr h))
  clear a4 o a5;have b1:=g.lt;have b2:=l.lt;have b3:=r.lt;have f0:=g.frozen 0;have f1:=g.frozen 1;have f2:=g.frozen 2;have f3:=g.frozen 3;have c0:=g.cell 0;have c1:=g.cell 1;have c2:=g.cell 2;have c3:=g.cell 3;have i0:=l.frozen 0;have i1:=l.frozen 1;have j0:=l.cell 0;have j1:=l.cell 1;have q0:=r.cell 0;have q1:=r.cell 1;have q2:=r.cell 2;have q3:=r.cell 3;simp only[Zget]at c0 c1 c2 c3 j0 j1 q0 q1 q2 q3
  go_wp2_with fail
  have b6:y.heap.size≠w.heap.size:=by omega
  have b4:w.heap.size≠y.heap.size:=by omega
  have b7:y.heap.size≠w.heap.size+1:=by omega
  have b5:w.heap.size+1≠y.heap.size:=by omega
  have f:=hid (Zrs (b:=w.heap.size) (d:=w.heap.size+1) t.out b0.out (Yac _) (Yfx _ _) Om g.out l.out (.slice a0 n0 e0) (.slice a1 n1 e1) (.slice a2 n2 e2) (.slice a3 n3 e3) (Vi mm) (Vi sn));clear t g l r
  go_region
  all_goals
   go_wp2;change bodyPost _ _ _ _ _ ((set2 (set4 N w.heap.size (.slice a0 n0 e0) (.slice a1 n1 e1) (.slice a2 n2 e2) (.slice a3 n3 e3)) (w.heap.size+1) (Vi mm) (Vi sn)).alloc (.cells #[Vi mm,Vi sn] 31)).drew;clear f0 f1 f2 f3 c0 c1 c2 c3 i0 i1 j0 j1 q0 q1 q2 q3;generalize set2 (set4 N w.heap.size (.slice a0 n0 e0) (.slice a1 n1 e1) (.slice a2 n2 e2) (.slice a3 n3 e3)) (w.heap.size+1) (Vi mm) (Vi sn)=WY at *
   have j:BW WY (WY.alloc (.cells #[Vi mm,Vi sn] 31)).drew:=Zbal.drew;have D:=hid (f.ob.trans (j.mono f.ob.size));have E:=hid (f.oc.below j);have sx:=f.ox.below j;have sy:=f.oy.below j;have s0:=sx.cell 0;have s1:=sx.cell 1;have s2:=sx.cell 2;have s3:=sx.cell 3;have t0:=sy.cell 0;have t1:=sy.cell 1;simp only[Zget]at s0 s1 s2 s3 t0 t1;generalize(WY.alloc (.cells #[Vi mm,Vi sn] 31)).drew=WX at *
   exact bodyPost_ret (v:=.tuple #[.agg #[.slice a0 n0 e0,.slice a1 n1 e1,.slice a2 n2 e2,.slice a3 n3 e3],.agg #[Vi mm,Vi sn],er]) (by simp[results,results21,go_sem,s0,s1,s2,s3,t0,t1]) rfl ⟨_,_,_,rfl,E,⟨_,_,_,_,_,_,_,_,_,_,_,_,rfl⟩,D.out⟩
def verR(r:Except (Nat×Nat) (CodeQ×Nat×Nat)):Nat×Nat×Nat×Nat:=match r with
 | .ok x=>(x.2.1,x.2.2,0,0)
 | .error x=>(0,0,x.1,x.2)
def Asks(w:World)(err:Value)(c p:Nat):Prop:=∀W,BW w W->CP 22 #[err] W (fun e w'=>e=.returned (Vi c)/\w'=W)/\CP 23 #[err] W (fun e w'=>e=.returned (Vi p)/\BW W w')
theorem BadV.asks(h:BadV w A x err)(f:Vars w A m):Asks w err x.1 x.2:=by
 intro W e;obtain⟨x1,x2⟩:=x;have a:=f.below e;rcases h.below e with ⟨b,fa,rfl,c,d⟩|⟨b,rfl⟩|⟨b,fa,rfl,c,d⟩|⟨b,fa,rfl,c,d⟩
 ·simp only at b;subst b;exact⟨Zzt A m W a fa d,ZdB A m fa W a c⟩
 ·injection b with hx1 hx2;subst hx1 hx2;exact⟨ZzB A m W a,Zdm A m W a⟩
 ·simp only at b;subst b;exact⟨Zzx A m W a fa d,ZdB A m fa W a c⟩
 ·simp only at b;subst b;exact⟨ZzA A m W a fa d,ZdB A m fa W a c⟩
theorem Zcj.asks{n:Value}(h:Zcj w A r v n err)(d:Vars w A m) :
  ∃a b c p:Nat,n=.agg #[Vi a,Vi b]/\Hid (verR r=(a,b,c,p))/\Hid (Asks w err c p):=by
 cases r with
 | ok x=>
  obtain⟨_,rfl,rfl⟩:=h;exact⟨_,_,0,0,rfl,hid rfl,hid (fun W e=>⟨Zik A m W (d.below e),Ziq W⟩)⟩
 | error x=>
  obtain⟨rfl,h⟩:=h;exact⟨0,0,x.1,x.2,rfl,hid rfl,hid (h.asks d)⟩
theorem Zwr(s:BA)(A:Nat->Addr)(m:Int)(w:World)(I:Vars w A m)(O:ZR w)(J:20<=w.heap.size)(P:s.size<=maxLen) :
  CP 10 #[.string s] w fun e u=>∃a b c p:Nat,e=.returned (.tuple #[.agg #[Vi a,Vi b],Vi c,Vi p])/\Hid (verR (ZcR (bl s))=(a,b,c,p))/\BW w u:=by
 have B:Hid (∀W,BW w W->CP 21 #[.string s] W _):=hid (fun W K=>ZqK s A m W (I.below K) (O.low K J) (Yah J K.size) P);have X:=hid I;clear I O J P;go_enter func10,ntmps10
 go_wp2_with fail
 refine Zm fun W L=>?_;have C:BW w W:=by rw[L];exact Zbal
 have D:Hid (BAt W w.heap.size [Vi 0,Vi 0] 31):=hid (by rw[L];exact Go.Deep.blk_alloc_new _ _);have j:=hid C;clear L C;refine(B.out W j.out).mono ?_;rintro e h ⟨v,n,err,rfl,Q,⟨a0,a1,a2,a3,n0,n1,n2,n3,e0,e1,e2,e3,rfl⟩,q⟩;have k:Hid (BW w h):=hid (j.trans (q.mono j.size));have r:=hid (D.below q);clear q D j B;obtain⟨a,b,c,p,rfl,Y,M⟩:=Q.asks (X.below k.out);have Z:=r.lt;clear Q
 go_upto_region 2 with fail
 refine ZP fun i t=>?_;have d:BW h i:=by rw[t];exact Zbal.alloc (by simp) _
 have f:Hid (BAt i (h.heap.size+1) [Vi a,Vi b] 31):=hid (by
  rw[t];have:=Go.Deep.blk_alloc_new (h.alloc (.cells #[.slice a0 n0 e0,.slice a1 n1 e1,.slice a2 n2 e2,.slice a3 n3 e3] 58)) (.cells #[Vi a,Vi b] 31);rwa [Go.Deep.nblk_alloc]at this)
 have E:Hid (BW w i):=hid (k.trans (d.mono k.size));have F:=hid (r.below d);have R:Hid (CP 22 #[err] i.drew _):=hid (M.out i.drew d.drew).1;have S:Hid (CP 23 #[err] i.drew _):=hid (M.out i.drew d.drew).2;have a4:=f.lt;have T:=hid (F.below ((Yaf _ _).drew));have z:=hid (f.below ((Yaf _ _).drew));have G:=hid E.drew;have r0:=z.cell 0;have r1:=z.cell 1;have r0':=f.cell 0;have r1':=f.cell 1;simp only[Zget]at r0 r1 r0' r1';have a6:¬h.heap.size+1=w.heap.size:=by omega
 have a5:¬w.heap.size=h.heap.size+1:=by omega
 clear t d M r k E F f
 go_region_with (first
   | (go_at_call 22;refine R.mono ?_;rintro e wq ⟨rfl,rfl⟩)
   | (go_at_call 23
      refine S.mono ?_;rintro e N ⟨rfl,l⟩;have U:Hid (BW w N):=hid (G.trans (l.mono G.size));have g:=hid (T.below l);have H:=hid (z.below l);have p0:=H.cell 0;have p1:=H.cell 1;simp only[Zget]at p0 p1;have z0:=g.cell 0;have z1:=g.cell 1;simp only[Zget]at z0 z1;have f0:=g.frozen 0;have f1:=g.frozen 1;clear l))
 all_goals
  go_wp2;change bodyPost _ _ _ _ _ (set2 N w.heap.size (Vi a) (Vi b));have st:=ZdS g.out (x:=Vi a) (y:=Vi b);have s0:=st.cell 0;have s1:=st.cell 1;simp only[Zget]at s0 s1;have V:=hid (Ziw (w0:=w) (a:=w.heap.size) U.out (Yac _) (Vi a) (Vi b));clear z0 z1 f0 f1 p0 p1;generalize set2 N w.heap.size (Vi a) (Vi b)=WX at *
  exact bodyPost_ret (v:=.tuple #[.agg #[Vi a,Vi b],Vi c,Vi p]) (by simp[results,results10,go_sem,s0,s1]) rfl ⟨a,b,c,p,rfl,Y,V.out⟩

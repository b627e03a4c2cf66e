/- Parts. -/
import Derived.Test.YtkodhpilkaihjaaGreatDoorV10
set_option linter.all false
set_option maxRecDepth 100000
set_option maxHeartbeats 16000000
namespace Go.Proofs.YtkodhpilkaihjaaGreatDoor
open Go.RowKit LS Go.Proofs.Tryz
variable {r:Except (Nat×Nat) CodeQ}{l t:LB}{cs:List (LB×LB×Bool)}{gs:List (List (LB))}{is:List (Nat×Nat)}{ps:List (Nd×Nat)}{g:List (Option Addr×Nat×Nat)}{bs:List BA}{c xs:List Value}{a b cb i ic k n p sz y:Nat}{x:Nd×Nat}{ia:Option Addr}{q:Tr}{cv gv pv v:Value}{w w' w0 wr:World}
theorem ZV4{x:Nat×Nat}(h:ZD l=.error x):selQ l=none:=by unfold selQ;rw[h]
theorem ZUH{x:Nat}{a:Nd}{p:Tr}(h:ZD l=.ok (.node x y a p q))(b:a.jj≠1):selQ l=none:=by
 unfold selQ;rw[h];simp only;rw[if_neg (fun e=>b e.1)]
theorem ZV6{x:Nat}{a:Nd}{p:Tr}(h:ZD l=.ok (.node x y a p q))(b:a.jj=1)(c:selS a=l):selQ l=some a:=by
 unfold selQ;rw[h];simp only;rw[if_pos ⟨b,c⟩]
theorem ZV5{x:Nat}{a:Nd}{p:Tr}(h:ZD l=.ok (.node x y a p q))(b:¬selS a=l):selQ l=none:=by
 unfold selQ;rw[h];simp only;rw[if_neg (fun e=>b e.2)]
def pvV(p:PV):Value:=.agg #[Vi p.k,Vi p.n,Vi p.op,.string p.nm,.slice p.ca p.cn p.cc,.slice p.ba p.bn p.bc,Vi p.a,Vi p.b]
def pvZ:PV:=⟨0,0,0,⟨#[]⟩,none,0,0,none,0,0,0,0⟩
def ZTv(w:World)(r:Option (Nd×Nat))(p:PV)(ok:Value):Prop:=match r with
 | none=>ok=.bool false
 | some x=>ok=.bool true/\PkOk w x p
theorem ZTv.mkNone{r:Option (Nd×Nat)}{p:PV}(h:r=none):ZTv w r p (.bool false):=by subst h;rfl
theorem ZTv.mkSome{r:Option (Nd×Nat)}{p:PV}(h:r=some x)(a:PkOk w x p):ZTv w r p (.bool true):=by subst h;exact⟨rfl,a⟩
structure FirstP (w:World) (b:Nat) (g cp:Nat) (a:Nd) (p:PV):Prop where
 at0:w.cell? ⟨b,0,none⟩=some (.slice (some ⟨g,0,none⟩) 1 cp)
 c:∀i,i<8->w.cell? ⟨g,i,none⟩=p.cells[i]?
 k:p.k=a.jj
 nm:bl p.nm=a.name
 cs:ZJq w 0 p a.jn
 sz:a.name.length+cw a.jn<=200000
theorem ZVX{x:Nat}{a:Nd}{l r:Tr}(h:ZLp w b (.node x y a l r)) :
  ∃(g cp n:Nat),w.cell? ⟨b,0,none⟩=some (.slice (some ⟨g,0,none⟩) (n+1) cp)/\n+1<=301/\(n≠0->a.jj≠1)/\(n=0->∃p,FirstP w b g cp a p):=by
 obtain⟨pv,n,xs,d,m,o,q,_,s,t⟩:=h;obtain⟨g,cp,rfl⟩:=ZF d.own Om;refine⟨g,cp,n,d.cell,m,fun f A=>?_,fun f=>?_⟩
 ·obtain⟨u,j⟩:=q.2.2.2.2.2.2.2.2.1 Om;cases l with
  | node _ _ _ _ _=>cases u
  | nil => cases r with
    | node _ _ _ _ _=>cases j
    | nil=>
      have:n+1=0+0+1:=t;omega
 ·subst f;obtain⟨p,_,_,k,e,_⟩:=o;refine⟨p,d.cell,fun i v=>?_,e.1,e.2.2.2.1,e.2.2.2.2.1,?_⟩
  ·rw[<-k,Yg9,Ygr,List.getElem?_take,if_pos v]
   have c:i<xs.length:=by
    have:=congrArg List.length k;rw[Yg9,Ygr,Ya7,ZKR]at this;omega
   rw[List.getElem?_eq_getElem c];exact Zi d.own _ _ (List.getElem?_eq_getElem c)
  ·have z:ownW a+wT l+wT r<=100000:=s;unfold ownW at z;omega
def ZTf(w:World)(a:Nat)(p:PV):World:=(((((((w.setCell ⟨a,0,none⟩ (Vi p.k)).setCell ⟨a,1,none⟩ (Vi p.n)).setCell ⟨a,2,none⟩ (Vi p.op)).setCell ⟨a,3,none⟩ (.string p.nm)).setCell ⟨a,4,none⟩ (.slice p.ca p.cn p.cc)).setCell ⟨a,5,none⟩ (.slice p.ba p.bn p.bc)).setCell ⟨a,6,none⟩ (Vi p.a)).setCell ⟨a,7,none⟩ (Vi p.b)
theorem ZTM{q p:PV}{t:TypeId}(h:BAt w a q.cells t):BAt (ZTf w a p) a p.cells t:=
 (((((((h.setkM 0 (Vi p.k)).setkM 1 (Vi p.n)).setkM 2 (Vi p.op)).setkM 3 (.string p.nm)).setkM 4 (.slice p.ca p.cn p.cc)).setkM 5 (.slice p.ba p.bn p.bc)).setkM 6 (Vi p.a)).setkM 7 (Vi p.b)
theorem ZTN(h:BW w0 w)(b:w0.heap.size<=a)(p:PV):BW w0 (ZTf w a p):=
 (((((((h.setCell (p:=⟨a,0,none⟩) b _).setCell (p:=⟨a,1,none⟩) b _).setCell (p:=⟨a,2,none⟩) b _).setCell (p:=⟨a,3,none⟩) b _).setCell (p:=⟨a,4,none⟩) b _).setCell (p:=⟨a,5,none⟩) b _).setCell (p:=⟨a,6,none⟩) b _).setCell (p:=⟨a,7,none⟩) b _
theorem ZXM(p:PV)(b:k≠a):(ZTf w a p).heap[k]?=w.heap[k]?:=by
 unfold ZTf
 iterate 8 rw[Go.Deep.blk_setCell_other _ _ _ _ b]
theorem ZJq.set8{q p:PV}(h:ZJq w 0 p cs)(c:BAt w a q.cells 92)(p':PV):ZJq (ZTf w a p') 0 p cs:=by
 obtain⟨qs,b,d⟩:=h;refine⟨qs,ZdA b (fun k e=>ZXM p' ?_),d⟩;rintro rfl;exact Zcx b c Dc e.symm
theorem ZJq.set1{q p:PV}(h:ZJq w 0 p cs)(c:BAt w a q.cells 92):ZJq (w.setCell ⟨a,i,none⟩ v) 0 p cs:=by
 obtain⟨qs,b,d⟩:=h;refine⟨qs,ZdA b (fun k e=>Go.Deep.blk_setCell_other _ _ _ _ ?_),d⟩;rintro rfl;exact Zcx b c Dc e.symm
theorem ZVA (t : BA) (h : 0 < t.size) : (bl t).getLast? = some (t[t.size - 1]' Om) := by
  rw[Ygm,Zd,List.getElem?_eq_getElem (by rw[Zd];omega),ZgE t (t.size - 1) Om]
theorem ZVF(t:BA)(p:Nat):bl (t.extract (p+1) (t.size - 1))=((bl t).drop (p+1)).dropLast:=by
 rw[Zfh,Yhg,Ybv,Zd,Yc8]
 congr 1;omega
theorem ZUB(t:BA)(p:Nat):bl (t.extract 0 p)=(bl t).take p:=by rw[Zfh,Ygr]
theorem ZVO(t:BA)(w:World)(ht:t.size<=65535) :
  CP 50 #[.string t] w fun e u=>∃(p:PV) (ok:Value),e=.returned (.tuple #[pvV p,ok])/\Hid (ZTv u (ZbA (bl t)) p ok)/\BW w u:=by
 go_enter func50,ntmps50
 go_wp2_with fail
 refine Zm fun W hW=>?_;have b4:BW w W:=by rw[hW];exact Zbal
 have f:Hid (BAt W w.heap.size pvZ.cells 92):=hid (by rw[hW];exact(show BAt _ _ _ _ from Go.Deep.blk_alloc_new w _));have Q:=hid b4;clear hW b4;obtain⟨rb,a1⟩:∃rb,rb=w.heap.size:=⟨_,rfl⟩
 rw[<-a1]at f ⊢;have I:w.heap.size<=rb:=by omega
 clear a1;refine(ZNy t 91 W Om).mono ?_;rintro e y ⟨rfl,rfl⟩
 rename World=>y
 obtain⟨pI,a2⟩:∃pI,ZJX 91 (bl t)=pI:=⟨_,rfl⟩
 rw[a2];have b5:=hid a2;clear a2
 go_upto_if 15 with fail
 go_cut [5,6] (fun s5 s6 wx=>∃(sel:BA) (nz:Nat),s5=Vi nz/\s6=.string sel/\sel.size<=70000/\wx=y/\Hid (ZbA (bl t)=(selQ (bl sel)).map fun a=>(a,nz))/\nz<=1000/\Hid ((pI=-1/\nz=0)∨(0<=pI/\pI<=70000/\0<nz)))
 case first=>
  cases hs:LS.seek 91 (bl t)with
  | none=>
   have hn:pI=-1:=by rw[<-b5.out,ZLf hs]
   subst hn;go_wp2
   go_meet
   exact⟨t,0,rfl,rfl,by omega,rfl,hid (by unfold ZbA;rw[hs]),by decide,hid (by simp)⟩
  | some p=>
   have hn:pI=(p:Int):=by rw[<-b5.out,ZLg hs]
   subst hn
   have hp:p<t.size:=by
    have:=ZBY hs;rwa [Zd]at this
   have J:=ZVA t Om
   have s:Hid (ZbA (bl t)=if (bl t).getLast?=some 93 then (match ZQ 1000 ((bl t).drop (p+1)).dropLast with
    | some n=>if n=0 then none else (selQ ((bl t).take p)).map fun a=>(a,n)
    | none=>none)else none):=hid (by unfold ZbA;rw[hs];rfl)
   by_cases F:(bl t).getLast?=some 93
   ·have hc:t[t.size - 1]' Om=93:=by rw[J]at F;injection F
    have d93:(((t[t.size - 1]' Om).toNat:Int) != 93)=false:=by rw[hc];rfl
    have b6:¬p=t.size - 1:=by
     intro e;obtain⟨a,b,h1,h2,_⟩:=Ziv hs;have h3:(bl t)[p]?=some 91:=by rw[h1,<-h2];simp
     rw[Ygm,Zd,<-e,h3]at F;exact absurd F Dc
    have d6:p+1<=t.size - 1:=by omega
    rw[if_pos F]at s;clear hc J F b6
    go_wp2_with fail
    refine(ZNr _ 1000 _ (by rw[Yga];omega) Dc).mono ?_;rintro e z ⟨rfl,rfl⟩
    rename World=>y
    rw[ZVF t p];obtain⟨l1,b7⟩:∃l1,l1=((bl t).drop (p+1)).dropLast:=⟨_,rfl⟩
    rw[<-b7]at s ⊢;clear b7;have c7:=Zmr 1000 l1;obtain⟨nI,a3⟩:∃nI,numI 1000 l1=nI:=⟨_,rfl⟩
    rw[a3]at c7 ⊢;have a4:=hid a3;clear a3;by_cases h1:nI<1
    ·have H:Hid (ZbA (bl t)=none):=hid (by
      rw[s.out];cases P:ZQ 1000 l1 with
      | none=>rfl
      | some n=>
       have:=a4.out;rw[ZgX P]at this;simp only;rw[if_pos Om])
     clear s d93;have z0:=f.cell 0;have z1:=f.cell 1;have z2:=f.cell 2;have z3:=f.cell 3;have z4:=f.cell 4;have z5:=f.cell 5;have z6:=f.cell 6;have z7:=f.cell 7;simp only[pvZ,PV.cells,Zget]at z0 z1 z2 z3 z4 z5 z6 z7;have f0:=f.frozen 0;have f1:=f.frozen 1;have f2:=f.frozen 2;have f3:=f.frozen 3;have f4:=f.frozen 4;have f5:=f.frozen 5;have f6:=f.frozen 6;have f7:=f.frozen 7;have K:=f.lt;go_wp2;change bodyPost _ _ _ _ _ (ZTf y rb pvZ);have st:=ZTM (p:=pvZ) f.out;have s0:(ZTf y rb pvZ).cell? ⟨rb,0,none⟩=some (Vi 0):=st.cell 0;have s1:(ZTf y rb pvZ).cell? ⟨rb,1,none⟩=some (Vi 0):=st.cell 1;have s2:(ZTf y rb pvZ).cell? ⟨rb,2,none⟩=some (Vi 0):=st.cell 2;have s3:(ZTf y rb pvZ).cell? ⟨rb,3,none⟩=some (.string ⟨#[]⟩):=st.cell 3;have s4:(ZTf y rb pvZ).cell? ⟨rb,4,none⟩=some S0:=st.cell 4;have s5:(ZTf y rb pvZ).cell? ⟨rb,5,none⟩=some S0:=st.cell 5;have s6:(ZTf y rb pvZ).cell? ⟨rb,6,none⟩=some (Vi 0):=st.cell 6;have s7:(ZTf y rb pvZ).cell? ⟨rb,7,none⟩=some (Vi 0):=st.cell 7;have A:=hid (ZTN Q.out I pvZ);clear z0 f0 z1 f1 z2 f2 z3 f3 z4 f4 z5 f5 z6 f6 z7 f7;generalize ZTf y rb pvZ=WX at *
     exact bodyPost_ret (v:=.tuple #[pvV pvZ,.bool false]) (by simp[results,results50,go_sem,pvV,pvZ,s0,s1,s2,s3,s4,s5,s6,s7]) rfl ⟨pvZ,_,rfl,hid (ZTv.mkNone H.out),A.out⟩
    ·obtain⟨n,rfl⟩:∃n:Nat,nI=n:=⟨nI.toNat,by omega⟩
     have c8:0<n:=by omega
     have H : Hid (ZbA (bl t) = (selQ (bl (t.extract 0 p))).map fun a => (a, n)) := hid (by
       rw[s.out,ZUB];cases P:ZQ 1000 l1 with
       | none=>have:=a4.out;rw[Zrj P]at this;omega
       | some m=>
         have:=a4.out;rw[ZgX P]at this;obtain rfl:m=n:=by omega
         simp only;rw[if_neg Om])
     clear s d93;go_wp2
     go_meet
     exact⟨_,n,rfl,rfl,by rw[Yga];omega,rfl,H,by omega,hid (Or.inr ⟨by omega,by omega,c8⟩)⟩
   ·have d93 : (((t[t.size - 1]' Om).toNat : Int) != 93) = true := by
      rw[bne_iff_ne];intro e;exact F (by rw[J];congr 1;exact Ydf.1 (by show _=93;omega))
    have H:Hid (ZbA (bl t)=none):=hid (by rw[s.out,if_neg F]);clear J F s;have z0:=f.cell 0;have z1:=f.cell 1;have z2:=f.cell 2;have z3:=f.cell 3;have z4:=f.cell 4;have z5:=f.cell 5;have z6:=f.cell 6;have z7:=f.cell 7;simp only[pvZ,PV.cells,Zget]at z0 z1 z2 z3 z4 z5 z6 z7;have f0:=f.frozen 0;have f1:=f.frozen 1;have f2:=f.frozen 2;have f3:=f.frozen 3;have f4:=f.frozen 4;have f5:=f.frozen 5;have f6:=f.frozen 6;have f7:=f.frozen 7;have K:=f.lt;go_wp2;change bodyPost _ _ _ _ _ (ZTf y rb pvZ);have st:=ZTM (p:=pvZ) f.out;have s0:(ZTf y rb pvZ).cell? ⟨rb,0,none⟩=some (Vi 0):=st.cell 0;have s1:(ZTf y rb pvZ).cell? ⟨rb,1,none⟩=some (Vi 0):=st.cell 1;have s2:(ZTf y rb pvZ).cell? ⟨rb,2,none⟩=some (Vi 0):=st.cell 2;have s3:(ZTf y rb pvZ).cell? ⟨rb,3,none⟩=some (.string ⟨#[]⟩):=st.cell 3;have s4:(ZTf y rb pvZ).cell? ⟨rb,4,none⟩=some S0:=st.cell 4;have s5:(ZTf y rb pvZ).cell? ⟨rb,5,none⟩=some S0:=st.cell 5;have s6:(ZTf y rb pvZ).cell? ⟨rb,6,none⟩=some (Vi 0):=st.cell 6;have s7:(ZTf y rb pvZ).cell? ⟨rb,7,none⟩=some (Vi 0):=st.cell 7;have A:=hid (ZTN Q.out I pvZ);clear z0 f0 z1 f1 z2 f2 z3 f3 z4 f4 z5 f5 z6 f6 z7 f7;generalize ZTf y rb pvZ=WX at *
    exact bodyPost_ret (v:=.tuple #[pvV pvZ,.bool false]) (by simp[results,results50,go_sem,pvV,pvZ,s0,s1,s2,s3,s4,s5,s6,s7]) rfl ⟨pvZ,_,rfl,hid (ZTv.mkNone H.out),A.out⟩
 case rest=>
 obtain⟨sel,nz,rfl,rfl,d4,rfl,s,d7,b8⟩:=hcut
 rename World=>y
 go_wp2_with fail
 refine(ZN9 sel y Om).mono ?_;rintro e z ⟨⟨v,cn,pn,rfl,V⟩,a5⟩;have N:Hid (BW w z):=hid (Q.trans (a5.mono Q.size));have d:=hid (f.below a5);clear a5 f Q;cases G:ZD (bl sel)with
 | error x=>
  obtain⟨h1,_,h3,h4⟩:=V.1 x G;subst h4;have H:Hid (ZbA (bl t)=none):=hid (by rw[s.out,ZV4 G];rfl);have d8:((cn:Int) != 0)=true:=by rw[bne_iff_ne];omega
  clear V h1 h3 G;have z0:=d.cell 0;have z1:=d.cell 1;have z2:=d.cell 2;have z3:=d.cell 3;have z4:=d.cell 4;have z5:=d.cell 5;have z6:=d.cell 6;have z7:=d.cell 7;simp only[pvZ,PV.cells,Zget]at z0 z1 z2 z3 z4 z5 z6 z7;have f0:=d.frozen 0;have f1:=d.frozen 1;have f2:=d.frozen 2;have f3:=d.frozen 3;have f4:=d.frozen 4;have f5:=d.frozen 5;have f6:=d.frozen 6;have f7:=d.frozen 7;have K:=d.lt;go_wp2;change bodyPost _ _ _ _ _ (ZTf z rb pvZ);have st:=ZTM (p:=pvZ) d.out;have s0:(ZTf z rb pvZ).cell? ⟨rb,0,none⟩=some (Vi 0):=st.cell 0;have s1:(ZTf z rb pvZ).cell? ⟨rb,1,none⟩=some (Vi 0):=st.cell 1;have s2:(ZTf z rb pvZ).cell? ⟨rb,2,none⟩=some (Vi 0):=st.cell 2;have s3:(ZTf z rb pvZ).cell? ⟨rb,3,none⟩=some (.string ⟨#[]⟩):=st.cell 3;have s4:(ZTf z rb pvZ).cell? ⟨rb,4,none⟩=some S0:=st.cell 4;have s5:(ZTf z rb pvZ).cell? ⟨rb,5,none⟩=some S0:=st.cell 5;have s6:(ZTf z rb pvZ).cell? ⟨rb,6,none⟩=some (Vi 0):=st.cell 6;have s7:(ZTf z rb pvZ).cell? ⟨rb,7,none⟩=some (Vi 0):=st.cell 7;have A:=hid (ZTN N.out I pvZ);clear z0 f0 z1 f1 z2 f2 z3 f3 z4 f4 z5 f5 z6 f6 z7 f7;generalize ZTf z rb pvZ=WX at *
  exact bodyPost_ret (v:=.tuple #[pvV pvZ,.bool false]) (by simp[results,results50,go_sem,pvV,pvZ,s0,s1,s2,s3,s4,s5,s6,s7]) rfl ⟨pvZ,_,rfl,hid (ZTv.mkNone H.out),A.out⟩
 | ok tr=>
  obtain⟨h1,_,b,h4,d9,X⟩:=V.2 tr G;subst h1 h4;cases tr with
  | nil=>
   obtain⟨_,_,_,_,_,_,_,c4,_⟩:=X;cases c4
  | node tx ty a l r=>
   obtain⟨g,cp,n,a6,e0,a7,a8⟩:=ZVX X;have c9:=hid a8;have e3:=hid X;clear V X a8;have Y:=Yai _ _ a6;simp only at Y;by_cases b9:n=0
   ·subst b9;obtain⟨p,C⟩:=c9.out rfl;have C:=hid C;have p0:=C.c 0 Dc;have p1:=C.c 1 Dc;have p2:=C.c 2 Dc;have p3:=C.c 3 Dc;have p4:=C.c 4 Dc;have p5:=C.c 5 Dc;have p6:=C.c 6 Dc;have p7:=C.c 7 Dc;simp only[PV.cells,Zget]at p0 p1 p2 p3 p4 p5 p6 p7;have D:=Yai _ _ p0;simp only at D;by_cases O:a.jj=1
    ·have Z:p.k=1:=by rw[C.k,O];rfl
     have d0:=hid Z;rw[Z]at p0;clear Z a7
     go_wp2_with fail
     rw[<-d0.out];refine(ZR7 z p a C.nm C.cs C.sz).mono ?_;rintro e B ⟨r3,rfl,e4,a9,L⟩;have R:Hid (BW w B):=hid (N.trans (L.mono N.size));have o:=hid (d.below L);have E:Hid (∀q:Addr,q.block<z.heap.size->B.cell? q=z.cell? q):=hid (fun q G=>L.cell G);have d1:=(E.out ⟨b,0,none⟩ Y).trans a6;have b0:=hid (C.cs.below' L);have q0:=(E.out ⟨g,0,none⟩ D).trans p0;have q1:=(E.out ⟨g,1,none⟩ D).trans p1;have q2:=(E.out ⟨g,2,none⟩ D).trans p2;have q3:=(E.out ⟨g,3,none⟩ D).trans p3;have q4:=(E.out ⟨g,4,none⟩ D).trans p4;have q5:=(E.out ⟨g,5,none⟩ D).trans p5;have q6:=(E.out ⟨g,6,none⟩ D).trans p6;have q7:=(E.out ⟨g,7,none⟩ D).trans p7;have c5:b<B.heap.size:=Yaw Y L.size;have c6:g<B.heap.size:=Yaw D L.size;clear p0 p1 p2 p3 p4 p5 p6 p7 a6 L Y D E d N;by_cases M:selS a=bl sel
     ·have d2:r3=sel:=ZcW (a9.trans M);subst d2;have c0:Hid (ZbA (bl t)=some (a,nz)):=hid (by rw[s.out,ZV6 G O M];rfl);clear M G O s
      go_upto_if 82 with fail
      refine ZP fun S b1=>?_;have a0:BW B S:=by rw[b1];exact Zbal
      have j:Hid (BAt S B.heap.size ({ p with k:=1 } : PV).cells 92):=hid (by rw[b1];exact(show BAt _ _ _ _ from Go.Deep.blk_alloc_new B _));have i:=hid (o.below a0);have c1:=hid (R.trans (a0.mono R.size));have b2:=hid (b0.below' a0);have c2:¬B.heap.size=rb:=by have:=o.lt;omega
      have c3:w.heap.size<=B.heap.size:=R.size;clear b1 a0 q0 q1 q2 q3 q4 q5 q6 q7 d1 c5 c6 b0 o R;generalize B.heap.size=xa at *
      rcases b8.out with ⟨e1,e2⟩|⟨e1,e1b,e2⟩
      ·subst e1 e2;have z0:=i.cell 0;have z1:=i.cell 1;have z2:=i.cell 2;have z3:=i.cell 3;have z4:=i.cell 4;have z5:=i.cell 5;have z6:=i.cell 6;have z7:=i.cell 7;simp only[pvZ,PV.cells,Zget]at z0 z1 z2 z3 z4 z5 z6 z7;have f0:=i.frozen 0;have f1:=i.frozen 1;have f2:=i.frozen 2;have f3:=i.frozen 3;have f4:=i.frozen 4;have f5:=i.frozen 5;have f6:=i.frozen 6;have f7:=i.frozen 7;have x0:=j.cell 0;have x1:=j.cell 1;have x2:=j.cell 2;have x3:=j.cell 3;have x4:=j.cell 4;have x5:=j.cell 5;have x6:=j.cell 6;have x7:=j.cell 7;simp only[PV.cells,Zget]at x0 x1 x2 x3 x4 x5 x6 x7;have K:=i.lt;have d3:=j.lt;go_wp2;change bodyPost _ _ _ _ _ (ZTf S rb { p with k:=1 });have T:=hid (i.out);have st:=ZTM (p:={ p with k:=1 }) T.out;have s0:=st.cell 0;have s1:=st.cell 1;have s2:=st.cell 2;have s3:=st.cell 3;have s4:=st.cell 4;have s5:=st.cell 5;have s6:=st.cell 6;have s7:=st.cell 7;simp only[PV.cells,Zget]at s0 s1 s2 s3 s4 s5 s6 s7;have A:=hid (ZTN (c1.out) I { p with k:=1 });have b3:Hid (ZJq (ZTf S rb { p with k:=1 }) 0 p a.jn):=hid ((b2.out).set8 T.out _);clear z0 f0 x0 z1 f1 x1 z2 f2 x2 z3 f3 x3 z4 f4 x4 z5 f5 x5 z6 f6 x6 z7 f7 x7;generalize ZTf S rb { p with k:=1 }=WX at *
       have U:Hid (PkOk WX (a,0) { p with k:=1 }):=hid ⟨by rfl,fun h=>absurd h (Ya1 _),C.nm,b3.out⟩;exact bodyPost_ret (v:=.tuple #[pvV { p with k:=1 },.bool true]) (by simp[results,results50,go_sem,pvV,s0,s1,s2,s3,s4,s5,s6,s7]) rfl ⟨_,_,rfl,hid (ZTv.mkSome c0.out U.out),A.out⟩
      ·clear b8;have z0:=i.cell 0;have z1:=i.cell 1;have z2:=i.cell 2;have z3:=i.cell 3;have z4:=i.cell 4;have z5:=i.cell 5;have z6:=i.cell 6;have z7:=i.cell 7;simp only[pvZ,PV.cells,Zget]at z0 z1 z2 z3 z4 z5 z6 z7;have f0:=i.frozen 0;have f1:=i.frozen 1;have f2:=i.frozen 2;have f3:=i.frozen 3;have f4:=i.frozen 4;have f5:=i.frozen 5;have f6:=i.frozen 6;have f7:=i.frozen 7;have x0:=j.cell 0;have x1:=j.cell 1;have x2:=j.cell 2;have x3:=j.cell 3;have x4:=j.cell 4;have x5:=j.cell 5;have x6:=j.cell 6;have x7:=j.cell 7;simp only[PV.cells,Zget]at x0 x1 x2 x3 x4 x5 x6 x7;have K:=i.lt;have d3:=j.lt;have xf0:=j.frozen 0;have xf1:=j.frozen 1;go_wp2;change bodyPost _ _ _ _ _ (ZTf ((S.setCell ⟨xa,0,none⟩ (Vi 2)).setCell ⟨xa,1,none⟩ (Vi nz)) rb { p with k:=2,n:=nz });have T:=hid ((i.other (p:=⟨xa,0,none⟩) (fun e=>c2 e.symm) (Vi 2)).other (p:=⟨xa,1,none⟩) (fun e=>c2 e.symm) (Vi nz));have st:=ZTM (p:={ p with k:=2,n:=nz }) T.out;have s0:=st.cell 0;have s1:=st.cell 1;have s2:=st.cell 2;have s3:=st.cell 3;have s4:=st.cell 4;have s5:=st.cell 5;have s6:=st.cell 6;have s7:=st.cell 7;simp only[PV.cells,Zget]at s0 s1 s2 s3 s4 s5 s6 s7;have A:=hid (ZTN ((c1.setCell (p:=⟨xa,0,none⟩) c3 (Vi 2)).setCell (p:=⟨xa,1,none⟩) c3 (Vi nz)) I { p with k:=2,n:=nz });have b3:Hid (ZJq (ZTf ((S.setCell ⟨xa,0,none⟩ (Vi 2)).setCell ⟨xa,1,none⟩ (Vi nz)) rb { p with k:=2,n:=nz }) 0 p a.jn):=hid (((b2.set1 j.out).set1 (q:={ p with k:=2 }) (j.setkM 0 _)).set8 T.out _);clear z0 f0 x0 z1 f1 x1 z2 f2 x2 z3 f3 x3 z4 f4 x4 z5 f5 x5 z6 f6 x6 z7 f7 x7;generalize ZTf ((S.setCell ⟨xa,0,none⟩ (Vi 2)).setCell ⟨xa,1,none⟩ (Vi nz)) rb { p with k:=2,n:=nz }=WX at *
       have U:Hid (PkOk WX (a,nz) { p with k:=2,n:=nz }):=hid ⟨by show(2:Int)=if 0<nz then 2 else 1;rw[if_pos e2],fun _=>rfl,C.nm,b3.out⟩;exact bodyPost_ret (v:=.tuple #[pvV { p with k:=2,n:=nz },.bool true]) (by simp[results,results50,go_sem,pvV,s0,s1,s2,s3,s4,s5,s6,s7]) rfl ⟨_,_,rfl,hid (ZTv.mkSome c0.out U.out),A.out⟩
     ·have b6:(r3.toList != sel.toList)=true:=by
       rw[bne_iff_ne];intro e;exact M (by rw[<-a9.out,<-Zbt,<-Zbt,e])
      have d5:(r3.toList == sel.toList)=false:=by
       rw[beq_eq_false_iff_ne];intro e;exact M (by rw[<-a9.out,<-Zbt,<-Zbt,e])
      have H:Hid (ZbA (bl t)=none):=hid (by rw[s.out,ZV5 G M];rfl);clear M G O s;have z0:=o.cell 0;have z1:=o.cell 1;have z2:=o.cell 2;have z3:=o.cell 3;have z4:=o.cell 4;have z5:=o.cell 5;have z6:=o.cell 6;have z7:=o.cell 7;simp only[pvZ,PV.cells,Zget]at z0 z1 z2 z3 z4 z5 z6 z7;have f0:=o.frozen 0;have f1:=o.frozen 1;have f2:=o.frozen 2;have f3:=o.frozen 3;have f4:=o.frozen 4;have f5:=o.frozen 5;have f6:=o.frozen 6;have f7:=o.frozen 7;have K:=o.lt;go_wp2;change bodyPost _ _ _ _ _ (ZTf B rb pvZ);have st:=ZTM (p:=pvZ) o.out;have s0:(ZTf B rb pvZ).cell? ⟨rb,0,none⟩=some (Vi 0):=st.cell 0;have s1:(ZTf B rb pvZ).cell? ⟨rb,1,none⟩=some (Vi 0):=st.cell 1;have s2:(ZTf B rb pvZ).cell? ⟨rb,2,none⟩=some (Vi 0):=st.cell 2;have s3:(ZTf B rb pvZ).cell? ⟨rb,3,none⟩=some (.string ⟨#[]⟩):=st.cell 3;have s4:(ZTf B rb pvZ).cell? ⟨rb,4,none⟩=some S0:=st.cell 4;have s5:(ZTf B rb pvZ).cell? ⟨rb,5,none⟩=some S0:=st.cell 5;have s6:(ZTf B rb pvZ).cell? ⟨rb,6,none⟩=some (Vi 0):=st.cell 6;have s7:(ZTf B rb pvZ).cell? ⟨rb,7,none⟩=some (Vi 0):=st.cell 7;have A:=hid (ZTN R.out I pvZ);clear z0 f0 z1 f1 z2 f2 z3 f3 z4 f4 z5 f5 z6 f6 z7 f7;generalize ZTf B rb pvZ=WX at *
      exact bodyPost_ret (v:=.tuple #[pvV pvZ,.bool false]) (by simp[results,results50,go_sem,pvV,pvZ,s0,s1,s2,s3,s4,s5,s6,s7]) rfl ⟨pvZ,_,rfl,hid (ZTv.mkNone H.out),A.out⟩
    ·have Z:((p.k:Int) != 1)=true:=by rw[bne_iff_ne,C.k];omega
     have H:Hid (ZbA (bl t)=none):=hid (by rw[s.out,ZUH G O];rfl);clear O G;have z0:=d.cell 0;have z1:=d.cell 1;have z2:=d.cell 2;have z3:=d.cell 3;have z4:=d.cell 4;have z5:=d.cell 5;have z6:=d.cell 6;have z7:=d.cell 7;simp only[pvZ,PV.cells,Zget]at z0 z1 z2 z3 z4 z5 z6 z7;have f0:=d.frozen 0;have f1:=d.frozen 1;have f2:=d.frozen 2;have f3:=d.frozen 3;have f4:=d.frozen 4;have f5:=d.frozen 5;have f6:=d.frozen 6;have f7:=d.frozen 7;have K:=d.lt;go_wp2;change bodyPost _ _ _ _ _ (ZTf z rb pvZ);have st:=ZTM (p:=pvZ) d.out;have s0:(ZTf z rb pvZ).cell? ⟨rb,0,none⟩=some (Vi 0):=st.cell 0;have s1:(ZTf z rb pvZ).cell? ⟨rb,1,none⟩=some (Vi 0):=st.cell 1;have s2:(ZTf z rb pvZ).cell? ⟨rb,2,none⟩=some (Vi 0):=st.cell 2;have s3:(ZTf z rb pvZ).cell? ⟨rb,3,none⟩=some (.string ⟨#[]⟩):=st.cell 3;have s4:(ZTf z rb pvZ).cell? ⟨rb,4,none⟩=some S0:=st.cell 4;have s5:(ZTf z rb pvZ).cell? ⟨rb,5,none⟩=some S0:=st.cell 5;have s6:(ZTf z rb pvZ).cell? ⟨rb,6,none⟩=some (Vi 0):=st.cell 6;have s7:(ZTf z rb pvZ).cell? ⟨rb,7,none⟩=some (Vi 0):=st.cell 7;have A:=hid (ZTN N.out I pvZ);clear z0 f0 z1 f1 z2 f2 z3 f3 z4 f4 z5 f5 z6 f6 z7 f7;generalize ZTf z rb pvZ=WX at *
     exact bodyPost_ret (v:=.tuple #[pvV pvZ,.bool false]) (by simp[results,results50,go_sem,pvV,pvZ,s0,s1,s2,s3,s4,s5,s6,s7]) rfl ⟨pvZ,_,rfl,hid (ZTv.mkNone H.out),A.out⟩
   ·have e5:((IntKind.i64.wrap ((n:Int)+1)) != 1)=true:=by rw[bne_iff_ne,Ybo];omega
    have H:Hid (ZbA (bl t)=none):=hid (by rw[s.out,ZUH G (a7 b9)];rfl);clear G a7;have z0:=d.cell 0;have z1:=d.cell 1;have z2:=d.cell 2;have z3:=d.cell 3;have z4:=d.cell 4;have z5:=d.cell 5;have z6:=d.cell 6;have z7:=d.cell 7;simp only[pvZ,PV.cells,Zget]at z0 z1 z2 z3 z4 z5 z6 z7;have f0:=d.frozen 0;have f1:=d.frozen 1;have f2:=d.frozen 2;have f3:=d.frozen 3;have f4:=d.frozen 4;have f5:=d.frozen 5;have f6:=d.frozen 6;have f7:=d.frozen 7;have K:=d.lt;go_wp2;change bodyPost _ _ _ _ _ (ZTf z rb pvZ);have st:=ZTM (p:=pvZ) d.out;have s0:(ZTf z rb pvZ).cell? ⟨rb,0,none⟩=some (Vi 0):=st.cell 0;have s1:(ZTf z rb pvZ).cell? ⟨rb,1,none⟩=some (Vi 0):=st.cell 1;have s2:(ZTf z rb pvZ).cell? ⟨rb,2,none⟩=some (Vi 0):=st.cell 2;have s3:(ZTf z rb pvZ).cell? ⟨rb,3,none⟩=some (.string ⟨#[]⟩):=st.cell 3;have s4:(ZTf z rb pvZ).cell? ⟨rb,4,none⟩=some S0:=st.cell 4;have s5:(ZTf z rb pvZ).cell? ⟨rb,5,none⟩=some S0:=st.cell 5;have s6:(ZTf z rb pvZ).cell? ⟨rb,6,none⟩=some (Vi 0):=st.cell 6;have s7:(ZTf z rb pvZ).cell? ⟨rb,7,none⟩=some (Vi 0):=st.cell 7;have A:=hid (ZTN N.out I pvZ);clear z0 f0 z1 f1 z2 f2 z3 f3 z4 f4 z5 f5 z6 f6 z7 f7;generalize ZTf z rb pvZ=WX at *
    exact bodyPost_ret (v:=.tuple #[pvV pvZ,.bool false]) (by simp[results,results50,go_sem,pvV,pvZ,s0,s1,s2,s3,s4,s5,s6,s7]) rfl ⟨pvZ,_,rfl,hid (ZTv.mkNone H.out),A.out⟩
def ZTh(bad:List TypeId)(w w':World):Prop:=∀(b:Nat) (e:TypeId) (sz:Nat) (v:Value) (n:Nat) (xs:List Value),w.ownsRow b e sz v n xs->e∉bad->w'.ownsRow b e sz v n xs
theorem ZTh.refl(bad:List TypeId)(w:World):ZTh bad w w:=fun _ _ _ _ _ _ h _=>h
theorem ZTh.trans{bad:List TypeId}{y z:World}(h:ZTh bad w y)(c:ZTh bad y z):ZTh bad w z:=fun b e sz v n xs d a=>c b e sz v n xs (h b e sz v n xs d a) a
theorem ZTh.below(bad:List TypeId)(h:BW w w'):ZTh bad w w':=fun _ _ _ _ _ _ a _=>Zn a h
theorem ZTh.grown {bad : List TypeId}   {e : TypeId}     (h : w.ownsRow b e sz v n xs) (i : w.grownBy w' v.ownBlock) (j : e ∈ bad) : ZTh bad w w' := fun b2 e2 s2 v2 n2 xs2 c f => ZdA c (fun k a => i.block k (c.lt k a).2 (fun e3 => by
  have g:e2≠e:=fun e4=>f (by rw[e4];exact j);rcases ZmC c h g with d|d
  · rw[d]at a;cases a
  · exact d (by rw[a];exact e3)))
theorem ZTh.set {bad : List TypeId}    {t : TypeId} (e : BAt w a c t) (f : t ∈ bad) (i : Nat) (x : Value) : ZTh bad w (w.setCell ⟨a, i, none⟩ x) := fun b2 e2 s2 v2 n2 xs2 b d => ZdA b (fun k g => Go.Deep.blk_setCell_other _ _ _ _ (by
  rintro rfl;exact Zcx b e (fun e4=>d (by rw[<-e4];exact f)) g.symm))
theorem ZUQ{e:TypeId}(h:BW w0 w)(c:w.ownsRow w0.heap.size e sz v n xs)(a:w.grownBy w' v.ownBlock):BW w0 w':=by
 refine⟨a.os.trans h.os,a.tape.trans h.tape,a.output.trans h.output,Yah h.size a.size,?_⟩;intro j b;rw[a.block j (Yaw b h.size) (fun e=>by have:=(c.lt j e.symm).1;omega),h.block j b]
theorem BAt.ownGrownR{t:TypeId}(h:BAt w a c t){base:Nat}{e:TypeId}(b:w.ownsRow base e sz v n xs)(d:w.grownBy w' v.ownBlock)(f:t≠e):BAt w' a c t:=
 (d.block a h.lt (Zcx b h f)).trans h
structure RBase (w:World) (c:CodeQ) (cv pv gv:Value) (l:List PV) (g:List (Option Addr×Nat×Nat)):Prop where
 cs:w.ownsRow 0 2 1 cv c.jq.length (c.jq.map (.int .i64))
 ps:w.ownsRow 0 92 8 pv c.jv.length (ZTx l)
 pl:l.length=c.jv.length
 pk:∀(i:Nat) (x:Nd×Nat) (p:PV),c.jv[i]?=some x->l[i]?=some p->PkOk w x p
 gs:w.ownsRow 0 90 1 gv c.jk.length (g.map fun y=>.slice y.1 y.2.1 y.2.2)
 gl:g.length=c.jk.length
 gk:∀(i:Nat) (x:List (LB)) (y:Option Addr×Nat×Nat),c.jk[i]?=some x->g[i]?=some y->∃bs:List BA,w.ownsRow 0 9 1 (.slice y.1 y.2.1 y.2.2) bs.length (bs.map .string)/\bs.map bl=x
theorem PkOk.keep{bad:List TypeId}{p:PV}(h:PkOk w x p)(a:ZTh bad w w')(b:372∉bad):PkOk w' x p:=⟨h.k,h.n,h.nm,by
 obtain⟨qs,c,d⟩:=h.cs;exact⟨qs,a _ _ _ _ _ _ c b,d⟩⟩
theorem RBase.keep{c:CodeQ}{l:List PV}(h:RBase w c cv pv gv l g)(a:ZTh [136,101] w w'):RBase w' c cv pv gv l g:=
 ⟨a _ _ _ _ _ _ h.cs Dc, a _ _ _ _ _ _ h.ps Dc, h.pl, fun i x p b d => (h.pk i x p b d).keep a Dc, a _ _ _ _ _ _ h.gs Dc, h.gl, fun i x y b d => by
   obtain⟨bs,e,f⟩:=h.gk i x y b d;exact⟨bs,a _ _ _ _ _ _ e Dc,f⟩⟩
theorem RBase.code{cs:List Int}{iv:Value}{l:List PV}(h:RBase w ⟨cs,ps,gs,[]⟩ cv pv gv l g)(a:BAt w cb [cv,pv,gv,iv] 101)(b:w.ownsRow 0 136 2 iv is.length (ZdL is)):RCode w cb ⟨cs,ps,gs,is⟩ cv pv gv iv l g:=
 ⟨a,h.cs,h.ps,h.pl,h.pk,h.gs,h.gl,h.gk,b⟩
def ZTy(l:LB)(cs:List Int)(ps:List (Nd×Nat))(gs:List (List (LB)))(p n:Nat):Except (Nat×Nat) CodeQ:=match many (ZbN l) p n with
 | .error e=>.error e
 | .ok is => if l.length < is.2 + 4 then .error (9, l.length) else if is.2 + 4 < l.length then .error (9, is.2 + 4) else
   if back (l.drop is.2)≠sumQ (l.take is.2)then .error (10,0)else .ok ⟨cs,ps,gs,is.1⟩
theorem ZWn(h:p<l.length):sub l p 1=[l[p]]:=by
 unfold sub;rw[List.drop_eq_getElem_cons h];rfl
theorem ZUO(c:UInt8):back [c]=c.toNat:=by simp[back]
theorem ZT8(h:p<l.length):Zbr l p 1=.ok ((l[p]).toNat,p+1):=by
 unfold Zbr Zcg;rw[if_neg Om];simp only;rw[ZWn h,ZUO]
theorem ZVw(h:l.length<p+1):ZbN l p=.error (9,l.length):=by
 unfold ZbN Zbr Zcg;rw[if_pos h]
theorem ZVt(h:p<l.length)(a:13<(l[p]).toNat):ZbN l p=.error (9,p):=by
 unfold ZbN;rw[ZT8 h];simp only;rw[if_pos a]
theorem ZVu(h:p<l.length)(a:¬13<(l[p]).toNat)(b:l.length<p+3):ZbN l p=.error (9,l.length):=by
 unfold ZbN;rw[ZT8 h];simp only;rw[if_neg a];unfold Zbr Zcg;rw[if_pos Om]
theorem ZVv(h:p<l.length)(a:¬13<(l[p]).toNat)(b:¬l.length<p+3):ZbN l p=.ok (((l[p]).toNat,back (sub l (p+1) 2)),p+3):=by
 unfold ZbN;rw[ZT8 h];simp only;rw[if_neg a];unfold Zbr Zcg;rw[if_neg Om]
theorem Zsy(s:BA)(p n:Nat):bl (s.extract p (p+n))=sub (bl s) p n:=by
 rw[Zfh,Yc8];unfold sub;congr 1;omega
theorem ZV3(h:p+4=l.length):l.take p++digL (sumQ (l.take p)) 4=l ↔ back (l.drop p)=sumQ (l.take p):=by
 have hd:(l.drop p).length=4:=by rw[Ybv];omega
 constructor
 ·intro e;have a:l.take p++digL (sumQ (l.take p)) 4=l.take p++l.drop p:=by rw[e,Ycn]
  have b:=List.append_cancel_left a;rw[<-b];exact ZUN 4 _ (Znn _)
 ·intro e;rw[<-e];have:=ZUY (l.drop p);rw[hd]at this;rw[this,Ycn]
def ZTk(w:World)(r:Except (Nat×Nat) CodeQ)(v:Value)(c p:Nat):Prop:=match r with
 | .error x=>v=.pointer none/\c=x.1/\p=x.2/\c≠0
 | .ok code=>c=0/\p=0/\∃(cb:Nat) (cv pv gv iv:Value) (l:List PV) (g:List (Option Addr×Nat×Nat)),v=.pointer (some ⟨cb,0,none⟩)/\RCode w cb code cv pv gv iv l g/\code.jz.length<=65535/\∀x∈code.jz,x.1<=13/\x.2<65536
theorem ZTk.kj{c:Nat}(h:r=.error (c,p))(a:c≠0):ZTk w r (.pointer none) c p:=by subst h;exact⟨rfl,rfl,rfl,a⟩
theorem ZTk.mkOk{code:CodeQ}{iv:Value}{l:List PV}(h:r=.ok code)(a:RCode w cb code cv pv gv iv l g)(b:code.jz.length<=65535)(c:∀x∈code.jz,x.1<=13/\x.2<65536):ZTk w r (Vp cb) 0 0:=by subst h;exact⟨rfl,rfl,cb,cv,pv,gv,iv,l,g,rfl,a,b,c⟩
theorem Tryz.infoInsR:(Tryz.prog.info? 136).map (fun i=>(i.zero,i.size,i.bytes))=some (some (.agg #[Vi 0,Vi 0]),2,16):=by kernel_rfl
structure RestI (w0 wr:World) (cb:Nat) (cs:List Int) (ps:List (Nd×Nat)) (gs:List (List (LB))) (is:List (Nat×Nat)) (cv pv gv:Value) (ia:Option Addr) (n ic:Nat) (l:List PV) (g:List (Option Addr×Nat×Nat)):Prop where
 base:RBase wr ⟨cs,ps,gs,[]⟩ cv pv gv l g
 box:BAt wr cb [cv,pv,gv,.slice ia n ic] 101
 own:wr.ownsRow w0.heap.size 136 2 (.slice ia n ic) n (ZdL is)
 bel:BW w0 wr
 op:∀x∈is,x.1<=13/\x.2<65536
theorem RestI.app{y:World}{cs:List Int}{l:List PV}(h:RestI w0 wr cb cs ps gs is cv pv gv ia n ic l g)(d:w0.heap.size<=cb){ga nc op arg:Nat}
  (c:wr.grownBy y (Value.slice ia n ic).ownBlock) (e:y.ownsRow w0.heap.size 136 2 (.slice (some ⟨ga,0,none⟩) (n+1) nc) (n+1) (ZdL is++[Vi op,Vi arg])) (j:op<=13) (m:arg<65536) :
  RestI w0 (y.setCell ⟨cb,3,none⟩ (.slice (some ⟨ga,0,none⟩) (n+1) nc)) cb cs ps gs (is++[(op,arg)]) cv pv gv (some ⟨ga,0,none⟩) (n+1) nc l g:=by
 have f:ZTh [136,101] wr y:=ZTh.grown h.own c Dc;have b:BAt y cb [cv,pv,gv,.slice ia n ic] 101:=h.box.ownGrownR h.own c Dc;have i:ZTh [136,101] y (y.setCell ⟨cb,3,none⟩ (.slice (some ⟨ga,0,none⟩) (n+1) nc)):=ZTh.set b Dc _ _;refine⟨h.base.keep (f.trans i),b.setkM 3 _,?_,?_,fun x a=>?_⟩
 ·rw[Zwd]
  exact ZdA e (fun k o => Go.Deep.blk_setCell_other _ _ _ _ (by
    rintro rfl;exact Zcx e b Dc o.symm))
 ·exact Yhm (p:=⟨cb,3,none⟩) (ZUQ h.bel h.own c) d _
 ·rcases Yar.1 a with a|a
  ·exact h.op x a
  ·rw[Yap]at a;subst a;exact⟨j,m⟩
theorem RestI.below{y:World}{cs:List Int}{l:List PV}(h:RestI w0 wr cb cs ps gs is cv pv gv ia n ic l g)(a:BW wr y):RestI w0 y cb cs ps gs is cv pv gv ia n ic l g:=
 ⟨h.base.keep (ZTh.below _ a),h.box.below a,Zn h.own a,h.bel.trans (a.mono h.bel.size),h.op⟩
theorem ZV1(w0 w:World)(s:BA)(p0 n cb:Nat)(cs:List Int)(ps:List (Nd×Nat))(gs:List (List (LB)))(cv:Value)(l:List PV)(g:List (Option Addr×Nat×Nat))(h:RestI w0 w cb cs ps gs [] cv pv gv none 0 0 l g)(a0:w0.heap.size<=cb)(hs:s.size<=maxLen)(a1:p0<=s.size)(F:p0<=10000000000)(hn:n<=65535) :
  CP 52 #[Vp cb,.string s,Vi p0,Vi n] w fun e M=>∃(v:Value) (c p:Nat),e=.returned (.tuple #[v,Vi c,Vi p])/\Hid (ZTk M (ZTy (bl s) cs ps gs p0 n) v c p)/\BW w0 M:=by
 have O:=hid h;have b5:s.size<=9223372036854775807:=by unfold maxLen at hs;omega
 obtain⟨i0,hi,a2,a3,a4⟩:=info_parts Tryz.infoInsR;have a5:=hid a0
 have H : Hid (∀ k x, many (ZbN (bl s)) p0 k = .error x -> k <= n -> ZTy (bl s) cs ps gs p0 n = .error x) := hid (fun k x he hk => by
   unfold ZTy;rw[ZyU he n hk])
 clear h hs;go_enter func52,ntmps52;go_wp2
 go_loopw [2,11] (fun av iv wr=>∃(k p:Nat) (is:List (Nat×Nat)) (ia:Option Addr) (ic:Nat),k<=n/\iv=Vi k/\av=Vi p/\p<=s.size/\p<=p0+3*k/\Hid (many (ZbN (bl s)) p0 k=.ok (is,p))/\Hid (RestI w0 wr cb cs ps gs is cv pv gv ia k ic l g)) (fun _ iv _=>n - (intOf iv).toNat)
 case atStart=>exact⟨0,p0,[],none,0,Yag _,rfl,rfl,a1,Yac _,hid rfl,O⟩
 case round=>
  clear O;obtain⟨k,p,is,ia,ic,hk,rfl,rfl,hp,b6,E,q⟩:=hrel;by_cases b7:k<n
  ·by_cases P:p<s.size
   ·have F:p<(bl s).length:=by rw[Zd];exact P
    have b:(bl s)[p]=s[p]:=ZgE s p P;by_cases A:13<s[p].toNat
    ·have f:Hid (ZTy (bl s) cs ps gs p0 n=.error (9,p)):=hid (H.out (k+1) (9,p) (ZgS E.out (ZVt F (by rw[b];exact A)) _ (Ybd k)) Om);have a6:(13:Int)<(s[p].toNat:Int):=by omega
     clear b;go_wp2
     go_ret3
     exact⟨_,9,p,rfl,hid (ZTk.kj f.out Dc),q.bel⟩
    ·have a6:¬(13:Int)<(s[p].toNat:Int):=by omega
     by_cases h3:s.size<p+3
     ·have f:Hid (ZTy (bl s) cs ps gs p0 n=.error (9,s.size)):=hid (H.out (k+1) (9,s.size) (ZgS E.out (by rw[ZVu F (by rw[b];exact A) (by rw[Zd];exact h3),Zd]) _ (Ybd k)) Om);clear b;go_wp2
      go_ret3
      exact⟨_,9,s.size,rfl,hid (ZTk.kj f.out Dc),q.bel⟩
     ·have Q:Hid (many (ZbN (bl s)) p0 (k+1)=.ok (is++[(s[p].toNat,back (sub (bl s) (p+1) 2))],p+3)):=hid (ZjI E.out (by rw[ZVv F (by rw[b];exact A) (by rw[Zd];exact h3),b]));have R:Hid (back (sub (bl s) (p+1) 2)<65536):=hid (ZhM (n:=2) (by unfold sub;rw[Ya7];omega));obtain⟨arg,B⟩:∃arg,arg=back (sub (bl s) (p+1) 2):=⟨_,rfl⟩
      rw[<-B]at Q;rw[<-B]at R;have Y:=hid B;have b4:p+3<=s.size:=by omega
      have N:s[p].toNat<=13:=by omega
      clear b B E A;have b3:=q.box.cell 3;simp only[Zget]at b3;have b8:=q.box.lt;have b9:IntKind.i64.wrap ((p:Int)+1)=(p:Int)+1:=by rw[Ybo];omega
      have c0:IntKind.i64.wrap ((p:Int)+3)=(p:Int)+3:=by rw[Ybo];omega
      have wo:IntKind.i64.wrap (s[p].toNat:Int)=(s[p].toNat:Int):=by rw[Ybo];omega
      have nn1:(0:Int)<=(p:Int)+1:=by omega
      have nn3:(0:Int)<=(p:Int)+3:=by omega
      have tn3:((p:Int)+3).toNat=p+3:=by omega
      have S:Hid (∀o,(wr.drew.alloc o).ownsRow w0.heap.size 136 2 (.slice ia k ic) k (ZdL is)):=hid (fun o=>q.own.drew.alloc o);have I:Hid (∀o,RestI w0 (wr.drew.alloc o) cb cs ps gs is cv pv gv ia k ic l g):=hid (fun o=>q.below (((Yaf _ _).drew).alloc (Yac _) _));have T:wr.drew.cell? ⟨cb,3,none⟩=some (.slice ia k ic):=b3;have a7:Hid (∀o,(wr.drew.alloc o).cell? ⟨cb,3,none⟩=some (.slice ia k ic)):=hid (fun o=>(I.out o).box.cell 3);have a8:Hid (∀o,(wr.drew.alloc o).heap[wr.heap.size]?=some o):=hid (fun o=>Go.Deep.blk_alloc_new wr.drew o)
      go_upto_region 8 with fail
      clear b3 h3;refine Zbn 21 (fun M=>M.cell? ⟨cb,3,none⟩=some (.slice ia k ic)) Kr (by exact T) (fun a=>?_);clear T;refine Za 0 a (h:=?_);refine Za 1 a (h:=?_);refine Za 2 a (h:=?_);refine Za 3 a (h:=?_);refine Za 4 a (h:=?_);refine Za 5 a (h:=?_);refine Za 6 a (h:=?_);refine Za 7 a (h:=?_);refine Za 8 a (h:=?_);refine Za 9 a (h:=?_);refine Za 10 a (h:=?_);refine Za 11 a (h:=?_);refine Za 12 a (h:=?_);refine Za 13 a (h:=?_);refine Za 14 a (h:=?_);refine Z4 (i:=15) Kr rfl (fun K j=>?_);go_simp;refine(ZTO (by rw[Yga];omega)).mono ?_;rintro e y ⟨rfl,rfl⟩;rw[show s.extract (p+1) (p+3)=s.extract (p+1) (p+1+2) from rfl,Zsy s (p+1) 2,<-Y.out];go_simp;refine j.out _ _ a (fun a=>?_);clear j K
      try simp only[Act.put,Zset]
      refine Za 16 a (h:=?_);refine Z4 (i:=17) Kr rfl (fun K j=>?_);go_simp;refine j.out _ _ (a7.out _) (fun a=>?_);clear j K
      try simp only[Act.put,Zset]
      refine Z4 (i:=18) Kr rfl (fun K j=>?_);refine ZfF rfl (.tmp 40) (.tmp 53) 99 rfl w0.heap.size 136 i0 _ 2 16 underlying99 hi a2 a3 a4 rfl Dc (.slice ia k ic) k (ZdL is) (by simp[Act.eval]) (by exact S.out _) ⟨wr.heap.size,0,none⟩ 1 1 [Vi s[p].toNat,Vi arg] (by simp[Act.eval]) rfl ?h2 ?h3 ?h4 ?h5 ?h6 ?_
      case h2=>first|exact ZcY (a8.out _)|exact ZcY rfl|exact Zn9 (by simp;exact wo) (by simp)
      case h3=>intro u hu;simp at hu;rcases hu with rfl|rfl <;> rfl
      case h4=>unfold maxLen;omega
      case h5=>omega
      case h6=>simp;omega
      intro v1 y C m _;obtain⟨g1,cp1,a9⟩:=ZF C Om;subst a9;have HN:Hid (RestI w0 (y.setCell ⟨cb,3,none⟩ (.slice (some ⟨g1,0,none⟩) (k+1) cp1)) cb cs ps gs (is++[(s[p].toNat,arg)]) cv pv gv (some ⟨g1,0,none⟩) (k+1) cp1 l g):=hid ((I.out _).app a5.out (by exact m) C N R.out);have J:BAt y cb [cv,pv,gv,.slice ia k ic] 101:=(I.out _).box.ownGrownR (S.out _) m Dc;have b0:=hid J;have U:y.cell? ⟨cb,3,none⟩=some (.slice ia k ic):=J.cell 3;refine j.out _ _ U (fun a=>?_);clear j K
      try simp only[Act.put,Yc4]
      refine ZeD (i:=19) (d:=55) (v:=?v19) rfl rfl Kr (fun _ _ _ h=>h) (Or.inl ⟨by rfl,?hy19⟩) a ?rs19
      case hy19=>(intro w hSw;go_simp;try with_reducible rfl)
      case rs19=>
      refine ZeD (i:=20) (d:=56) (v:=?v20) rfl rfl Kr (fun _ _ _ h=>h) (Or.inl ⟨by rfl,?hy20⟩) a ?rs20
      case hy20=>(intro w hSw;go_simp;try with_reducible rfl)
      case rs20=>
      refine Zbl Kr Kr rfl Kr (fun K j=>?_);have yf:=b0.frozen 3;clear C m J;go_simp;refine j.out _ _ ?_;clear j K U yf;go_wp2
      go_roundw
      case rel=>exact⟨k+1,p+3,_,_,_,by omega,by go_num,by go_num,by omega,by omega,Q,HN⟩
      case measure=>simp[intOf];omega
   ·have f:Hid (ZTy (bl s) cs ps gs p0 n=.error (9,s.size)):=hid (H.out (k+1) (9,s.size) (ZgS E.out (by rw[ZVw (by rw[Zd];omega),Zd]) _ (Ybd k)) Om);have h3:s.size<p+3:=by omega
    go_wp2
    go_ret3
    exact⟨_,9,s.size,rfl,hid (ZTk.kj f.out Dc),q.bel⟩
  ·obtain rfl:n=k:=by omega
   have V:Hid (is.length=n):=hid (ZqR E.out)
   have G:Hid (ZTy (bl s) cs ps gs p0 n=if s.size<p+4 then .error (9,s.size)else if p+4<s.size then .error (9,p+4)else
    if back ((bl s).drop p)≠sumQ ((bl s).take p)then .error (10,0)else .ok ⟨cs,ps,gs,is⟩):=hid (by
    unfold ZTy;rw[E.out];simp only;rw[Zd])
   by_cases h4:s.size<p+4
   ·have f:=hid (G.trans (if_pos h4));go_wp2
    go_ret3
    exact⟨_,9,s.size,rfl,hid (ZTk.kj f.out Dc),q.bel⟩
   ·by_cases h5:p+4<s.size
    ·have f:=hid (G.trans ((if_neg h4).trans (if_pos h5)));go_wp2
     go_ret3
     exact⟨_,9,p+4,by first|rfl|go_num,hid (ZTk.kj f.out Dc),q.bel⟩
    ·have W:p+4=s.size:=by omega
     have b1:=hid W;clear W
     go_wp2_with fail
     refine(ZUC wr (by rw[Yga];omega)).mono ?_;rintro e z ⟨r,rfl,HR,X⟩;have t:=hid (q.below X)
     have L:Hid (r=s ↔ back ((bl s).drop p)=sumQ ((bl s).take p)):=hid (by
      rw[<-ZV3 (by rw[Zd];exact b1.out),<-ZUB,<-HR.out];exact⟨fun e=>by rw[e],fun e=>ZcW e⟩)
     clear X HR;by_cases D:r=s
     ·have f:=hid (G.trans ((if_neg h4).trans ((if_neg h5).trans (if_neg (fun h=>h (L.1 D))))));subst D;have b2:=hid (t.base.code (is:=is) t.box (by rw[V.out];exact Zgi t.own));have Z:=hid (ZTk.mkOk f.out b2.out (by rw[V.out];exact hn) t.op);go_wp2
      go_ret3
      exact⟨_,0,0,rfl,Z,t.bel⟩
     ·have f:=hid (G.trans ((if_neg h4).trans ((if_neg h5).trans (if_pos (fun h=>D (L.2 h))))));have e1:(r.toList == s.toList)=false:=(ZTJ r s).trans (decide_eq_false D);have e2:(r.toList != s.toList)=true:=by rw[bne,e1];rfl
      clear D L;go_wp2
      go_ret3
      exact⟨_,10,0,rfl,hid (ZTk.kj f.out Dc),t.bel⟩
def okTo(bs:List BA)(i k:Nat):Bool:=Zx (bl (bs.getD i ⟨#[]⟩)) && (List.range k).all fun j=>decide (bs.getD j ⟨#[]⟩≠bs.getD i ⟨#[]⟩)
theorem ZVK(bs:List BA)(i:Nat):okTo bs i 0=Zx (bl (bs.getD i ⟨#[]⟩)):=by simp[okTo]
theorem ZVJ(bs:List BA)(i k:Nat):okTo bs i (k+1)=(okTo bs i k && decide (bs.getD k ⟨#[]⟩≠bs.getD i ⟨#[]⟩)):=by
 unfold okTo;rw[List.range_succ,Yfc];simp[Bool.and_assoc]
theorem ZVH(h:okTo bs i k=true):Zx (bl (bs.getD i ⟨#[]⟩))=true:=by
 unfold okTo at h;rw[Yas]at h;exact h.1
theorem ZVI{j:Nat}(h:okTo bs i k=true)(a:j<k):bs.getD j ⟨#[]⟩≠bs.getD i ⟨#[]⟩:=by
 unfold okTo at h;rw[Yas]at h;exact of_decide_eq_true (Ybu.1 h.2 j (Yb9.2 a))
theorem ZTA(h:i<bs.length):bs.getD i ⟨#[]⟩=bs[i]:=by
 rw[Yaa,List.getElem?_eq_getElem h];rfl
theorem ZVs(d:t≠[])(f:bs.map bl=split 44 t)(h:∀i,i<bs.length->okTo bs i i=true):ZcG t=some (split 44 t):=by
 unfold ZcG;rw[if_neg d,if_pos];rw[<-f];constructor
 ·rw[Ybu];intro x g;obtain⟨y,k,rfl⟩:=Ybe.1 g;obtain⟨i,a,rfl⟩:=List.mem_iff_getElem.1 k;have:=ZVH (h i a)
  rwa [ZTA a]at this
 ·unfold List.Nodup;rw[List.pairwise_iff_getElem];intro i j a b c e;rw[List.getElem_map,List.getElem_map]at e;rw[Yak]at a b;have:=ZVI (h j b) c;rw[ZTA a,ZTA b]at this;exact this (ZcW e)
theorem ZVo(d:t≠[])(f:bs.map bl=split 44 t)(a:i<bs.length)(h:okTo bs i i=false):ZcG t=none:=by
 unfold ZcG;rw[if_neg d,if_neg];rw[<-f];rintro⟨g,c⟩
 have:okTo bs i i=true:=by
  unfold okTo;rw[Yas];constructor
  ·rw[ZTA a];exact Ybu.1 g _ (Ybe.2 ⟨_,List.getElem_mem a,rfl⟩)
  ·rw[Ybu];intro j b;have b:=Yb9.1 b;apply decide_eq_true;rw[ZTA a,ZTA (Nat.lt_trans b a)];unfold List.Nodup at c;rw[List.pairwise_iff_getElem]at c;have:=c j i (by rw[Yak];omega) (by rw[Yak];omega) b;rw[List.getElem_map,List.getElem_map]at this;exact fun e=>this (by rw[e])
 rw[h]at this;cases this
def ZTI(w:World)(r:Option (List (LB)))(a:Option Addr)(n c:Nat)(ok:Value):Prop:=match r with
 | none=>ok=.bool false
 | some x=>ok=.bool true/\∃bs:List BA,w.ownsRow 0 9 1 (.slice a n c) bs.length (bs.map .string)/\bs.map bl=x
theorem ZTI.mkNone{r:Option (List (LB))}{a:Option Addr}{c:Nat}(h:r=none):ZTI w r a n c (.bool false):=by subst h;rfl
theorem ZTI.mkSome{r:Option (List (LB))}{a:Option Addr}{c:Nat}{x:List (LB)}(h:r=some x)(b:∃bs:List BA,w.ownsRow 0 9 1 (.slice a n c) bs.length (bs.map .string)/\bs.map bl=x):ZTI w r a n c (.bool true):=by subst h;exact⟨rfl,b⟩
theorem ZVn(t:BA)(w:World)(ht:t.size<=65535) :
  CP 51 #[.string t] w fun e u=>∃(a:Option Addr) (n c:Nat) (ok:Value),e=.returned (.tuple #[.slice a n c,ok])/\Hid (ZTI u (ZcG (bl t)) a n c ok)/\BW w u:=by
 by_cases I:t=⟨#[]⟩
 ·subst I;have HG:Hid (ZcG (bl ⟨#[]⟩)=some []):=hid (by unfold ZcG;rw[if_pos (show bl ⟨#[]⟩=[] from rfl)]);go_enter func51,ntmps51;go_wp2;go_ret2;exact⟨none,0,0,_,rfl,hid (ZTI.mkSome HG.out ⟨[],Ybc _ _ _ _,rfl⟩),belB⟩
 ·have V:(t.toList == [])=false:=by
   have A:=(ZTJ t ⟨#[]⟩).trans (decide_eq_false I);rw[Zbt ⟨#[]⟩]at A;exact A
  have L:Hid (bl t≠[]):=hid (fun e=>I (ZcW e));clear I;go_enter func51,ntmps51
  go_wp2_with fail
  refine(ZNv t 44 w Om).mono ?_;rintro e J ⟨v,bs,rfl,q,m,M⟩;have s:=hid M;have D:=hid (Zgi q)
  have W:Hid (bs.length<=65536):=hid (by
   have A:=congrArg List.length m.out;have h2:=Zhd 44 (bl t);rw[Yak]at A;rw[Zd]at h2;omega)
  have X : Hid (∀ x ∈ bs, x.size <= 65535) := hid (fun x B => by
    have A:bl x∈split 44 (bl t):=by rw[<-m.out];exact Ybe.2 ⟨x,B,rfl⟩
    have:=Zne 44 (bl t) _ A;rw[Zd,Zd]at this;omega)
  obtain⟨va,vc,rfl⟩:=Zl q;clear q M V;have Y:=W.out;obtain⟨n,R⟩:∃n,n=bs.length:=⟨_,rfl⟩
  rw[<-R]at Y ⊢;have K:=hid R;clear R;go_wp2
  go_loopw [5] (fun iv wr=>∃i:Nat,i<=n/\iv=Vi i/\Hid (∀j,j<i->okTo bs j j=true)/\Hid (BW J wr)) (fun iv _=>n - (intOf iv).toNat)
  case atStart=>exact⟨0,Yag _,rfl,hid (fun j Z=>absurd Z (Ya1 _)),hid (Yaf _ _)⟩
  case round=>
   obtain⟨i,hi,rfl,HA,z⟩:=hrel;by_cases a0:i<n
   ·have d:i<bs.length:=by rw[<-K.out];exact a0
    have f:=hid (Zn D.out z.out);obtain⟨g,cp,hg⟩:=ZF f.out Om;injection hg with hg1 hg2 hg3;subst hg1;clear hg2 hg3;obtain⟨x,B⟩:∃x,bs.getD i ⟨#[]⟩=x:=⟨_,rfl⟩
    have S:=hid B;have ci:=Zi f.out i (.string x) (by rw[Ya2,List.getElem?_eq_getElem d,<-B,ZTA d];rfl);have a3:x.size<=65535:=X.out x (by rw[<-B,ZTA d];exact List.getElem_mem d);have N:=Z1 f.out;clear B
    go_wp2_with fail
    refine(ZNj x wr Om).mono ?_;rintro e wr ⟨rfl,rfl⟩;obtain⟨ok0,r⟩:∃ok0,Zx (bl x)=ok0:=⟨_,rfl⟩
    rw[r];have E:Hid (okTo bs i 0=ok0):=hid (by rw[ZVK,S.out,r]);clear r;go_wp2
    go_loopw [6,7] (fun ov kv wq=>∃(k:Nat) (ok:Value),k<=i/\kv=Vi k/\ov=ok/\Hid (ok=.bool (okTo bs i k))/\Hid (BW J wq)) (fun _ kv _=>i - (intOf kv).toNat)
    case atStart=>exact⟨0,_,Yag _,rfl,rfl,hid (by rw[E.out]),z⟩
    case round=>
     obtain⟨k,ok,hk,rfl,rfl,O,l⟩:=hrel;clear ci f E N;have F:=hid (Zn D.out l.out);obtain⟨b,C⟩:∃b,okTo bs i k=b:=⟨_,rfl⟩
     have P:=O.out;rw[C]at P;subst P;by_cases a4:k<i
     ·have Q:k<bs.length:=by omega
      obtain⟨y,T⟩:∃y,bs.getD k ⟨#[]⟩=y:=⟨_,rfl⟩
      have ci:=Zi F.out i (.string x) (by rw[Ya2,List.getElem?_eq_getElem d,<-S.out,ZTA d];rfl);have ck:=Zi F.out k (.string y) (by rw[Ya2,List.getElem?_eq_getElem Q,<-T,ZTA Q];rfl);have N:=Z1 F.out;have a5:k<n:=by omega
      have G:Hid (okTo bs i (k+1)=(b && decide (y≠x))):=hid (by rw[ZVJ,C,T,S.out]);clear T C O;cases b with
      | false=>
       have o:Hid (okTo bs i (k+1)=false):=hid G.out;go_wp2
       go_quiet (fail)
       go_wp2
       go_roundw
       case rel=>exact⟨k+1,_,by omega,by go_num,rfl,hid (by rw[o.out]),hid (by have:=l.out;first|exact this|exact this.drew|exact ZhQ this _)⟩
       case measure=>simp[intOf];omega
      | true=>
       by_cases p:y=x
       ·have o:Hid (okTo bs i (k+1)=false):=hid (by rw[G.out,decide_eq_false (fun h=>h p)];rfl);subst p;go_wp2
        go_quiet (fail)
        go_wp2
        go_roundw
        case rel=>exact⟨k+1,_,by omega,by go_num,rfl,hid (by rw[o.out]),hid (by have:=l.out;first|exact this|exact this.drew|exact ZhQ this _)⟩
        case measure=>simp[intOf];omega
       ·have o:Hid (okTo bs i (k+1)=true):=hid (by rw[G.out,decide_eq_true p];rfl);have e1:(y.toList == x.toList)=false:=(ZTJ y x).trans (decide_eq_false p);have e2:(y.toList != x.toList)=true:=by rw[bne,e1];rfl
        clear p;go_wp2
        go_quiet (fail)
        go_wp2
        go_roundw
        case rel=>exact⟨k+1,_,by omega,by go_num,rfl,hid (by rw[o.out]),hid (by have:=l.out;first|exact this|exact this.drew|exact ZhQ this _)⟩
        case measure=>simp[intOf];omega
     ·obtain rfl:k=i:=by omega
      cases b with
      | false=>
       have a1:Hid (ZcG (bl t)=none):=hid (ZVo L.out m.out d C);have H:Hid (BW w wr):=hid (s.trans (l.mono s.size));go_wp2;go_ret2;exact⟨none,0,0,_,rfl,hid (ZTI.mkNone a1.out),H.out⟩
      | true=>
       have a2 : Hid (∀ j, j < k + 1 -> okTo bs j j = true) := hid (fun j Z => by
         by_cases e:j=k
         · subst e;exact C
         · exact HA.out j Om)
       clear C;go_wp2
       go_roundw
       case rel=>exact⟨k+1,by omega,by go_num,a2,l⟩
       case measure=>simp[intOf];omega
   ·obtain rfl:i=n:=by omega
    have U:Hid (ZcG (bl t)=some (split 44 (bl t))):=hid (ZVs L.out m.out (by rw[<-K.out];exact HA.out));have f:=hid (Zn D.out z.out);have H:Hid (BW w wr):=hid (s.trans (z.mono s.size));go_wp2;go_ret2;exact⟨va,i,vc,_,rfl,hid (ZTI.mkSome U.out ⟨bs,by rw[<-K.out];have:=f.out;rwa [<-K.out]at this,m.out⟩),H.out⟩

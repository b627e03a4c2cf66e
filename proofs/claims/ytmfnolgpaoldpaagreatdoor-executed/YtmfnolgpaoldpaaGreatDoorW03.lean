/- Parts. -/
import Derived.Test.YtmfnolgpaoldpaaGreatDoorW02
set_option linter.all false
set_option maxRecDepth 100000
set_option maxHeartbeats 16000000
namespace Go.Proofs.YtmfnolgpaoldpaaGreatDoor
open Go.RowKit LS Go.Proofs.Tryz
variable {sy:Addr}{s y:BA}{v x:Bool}{ps:List Yu}{a at_ b cp e g k n:Nat}{o:Obj}{W w w':World}{t:Yg}{r:Yl Unit}{p:Yu}
section
theorem Jf:split 32 (bl ⟨#[115,117,109,32,109,97,120,32,109,105,110,32,99,111,117,110,116]⟩)=Wu:=N
theorem Jv:split 32 (bl ⟨#[116,111,116,97,108,32,112,101,97,107,32,108,111,119,32,115,105,122,101,32,114,105,115,101]⟩)=WN:=N
theorem Dh{w:LB}{l:List<|LB}:(0<=Xk w l↔(Y7 w l).isSome=true):=by
 unfold Xk;cases Y7 w l with
 |none=>simp
 |some i=>simp
def Oa(k:Int):PV:=⟨k,0,0,⟨#[]⟩,none,0,0,none,0,0,0,0⟩
theorem xe{c:World}{o0 o1:Obj}(a:Below ((w.alloc o0).alloc o1).heap.size ((w.alloc o0).alloc o1) c):
 c.heap[w.heap.size]?=some o0/\c.heap[w.heap.size+1]?=some o1/\BW w c/\w.heap.size+1+1<=c.heap.size:=by
 have e:((w.alloc o0).alloc o1).heap.size=w.heap.size+1+1:=by rw[Go.Deep.nblk_alloc,Go.Deep.nblk_alloc]
 have d:=a.size;rw[e]at d;have e0:((w.alloc o0).alloc o1).heap[w.heap.size]?=some o0:=by
  rw[Go.Deep.blk_alloc_lt _ _ _<|by rw[Go.Deep.nblk_alloc];omega];exact Go.Deep.blk_alloc_new _ _
 have e1:((w.alloc o0).alloc o1).heap[w.heap.size+1]?=some o1:=by
  have:=Go.Deep.blk_alloc_new (w.alloc o0) o1;rwa [Go.Deep.nblk_alloc]at this
 refine⟨(a.block _ X).trans e0,(a.block _ X).trans e1,?_,d⟩;exact⟨a.os,a.tape,a.output,by omega,λk f=>(a.block k X).trans<|by
  rw[Go.Deep.blk_alloc_lt _ _ _<|by rw[Go.Deep.nblk_alloc];omega,Go.Deep.blk_alloc_lt _ _ _ f]⟩
def Qa(_:Unit)(ts:List Yg):Yl Unit:=if Qc (hd ts)then .error (2,(hd ts).at_)else .ok ((),ts)
theorem nu{q:QV}(c:∀x,r=.ok x->q.e=0/\S4 q=hd x.2)(a:(decide (0<=Xk (bl q.tx) Wu)||decide (0<=Xk (bl q.tx) WN)||XR UD r||XR UZ r)=v):
 bnd r Qa=if v then bnd r λ_ ts=>.error (2,(hd ts).at_)else r:=by
 cases r with
 |error x=>cases v<;>rfl
 |ok x=>
  have h:=(c x C).2;have d:bl q.tx=(hd x.2).txt:=by rw[<-h];rfl
  rw[d]at a;have e:Qc (hd x.2)=v:=by
   rw[<-a];unfold Qc XR;have e1:decide (0<=Xk (hd x.2).txt Wu)=(Y7 (hd x.2).txt Wu).isSome:=by
    rw[Ud,Qs];exact Dh
   have e2:decide (0<=Xk (hd x.2).txt WN)=(Y7 (hd x.2).txt WN).isSome:=by
    rw[Ud,Qs];exact Dh
   rw[e1,e2]
  show Qa () x.2=_;unfold Qa;rw[e];cases v<;>rfl
theorem Tryz.infoCond:(Tryz.prog.info? 268).map (λi=>(i.zero,i.size,i.bytes))=some (some<|.agg #[.string ByteArray.empty,.string ByteArray.empty,.bool false],3,40):=Kr
def Sw(w:World)(a:Nat)(x y:BA)(v:Bool):Prop:=w.heap[a]?=some (.cells #[.string x,.string y,.bool v] 268 (0,0))
theorem Sw.lt{x:BA}(h:Sw w a x y v):a<w.heap.size:=(Xr.1 h).1
theorem Sw.all{x:BA}(h:Sw w a x y v):w.cell? ⟨a,0,none⟩=some (.string x)/\w.cell? ⟨a,1,none⟩=some (.string y)/\w.cell? ⟨a,2,none⟩=some (.bool v):=by
 unfold Sw at h;refine⟨?_,?_,?_⟩<;>simp[World.cell?,h]
theorem Sw.frozen{x:BA}(h:Sw w a x y v)(o:Nat):w.frozen? ⟨a,o,none⟩=false:=by
 unfold Sw at h;simp[World.frozen?,h]
theorem Sw.grown{x:BA}{r:Option Nat}(h:Sw w a x y v)(c:w.grownBy w' r)(d:some a≠r):Sw w' a x y v:=(c.block a h.lt d).trans h
theorem ZJ{base:Nat}{e:TypeId}{size:Nat}{v:Value}{xs:List Value}(h:w.ownsRow base e size v n xs)(a:∀k,v.ownBlock=some k->w'.heap[k]?=w.heap[k]?):w'.ownsRow base e size v n xs:=by
 refine⟨h.1,?_⟩;rcases h.2 with c|⟨g,cap,cur,rfl,d,f,r⟩
 .exact .inl c
 .exact .inr ⟨g,cap,cur,C,d,(a g C).trans f,r⟩
theorem tk{a b c:Value}{t:TypeId}(d:W.heap.size=n):∀j x,[a,b,c][j]?=some x->(W.alloc<|.cells #[a,b,c] t).cell? ((⟨n,0,none⟩:Addr).add j)=some x:=by
 intro j x e;subst d;rw[QJ];have h:=Go.Deep.blk_alloc_new W<|.cells #[a,b,c] t;simp only[World.cell?,h];simpa using e
theorem DN{a:World}{r:Option Nat}(h:a.grownBy w<|some b)(c:w.grownBy w' r)(f:∀k,r=some k->a.heap.size<=k):a.grownBy w'<|some b:=
 ⟨c.os.trans h.os,c.tape.trans h.tape,c.output.trans h.output,Xb h.size c.size,λk d g=>(c.block k (WH d h.size) λe=>by have:=f k e.symm;omega).trans<|h.block k d g⟩
def Pm(w:World)(a:Addr):Nat:=match w.cell? a with
 |some<|.slice _ n _=>n
 |_=>0
def ZP(w:World)(base:Nat)(p:PV)(cs:List<|LB×LB×Bool):Prop:=∃qs:List<|BA×BA×Bool,w.ownsRow base 268 3 (.slice p.ca p.cn p.cc) qs.length (TU qs)/\qs.map VL=cs
def Lf(w:World)(base:Nat)(p:PV)(nd:Nd):Prop:=p=⟨1,0,0,p.nm,p.ca,p.cn,p.cc,none,0,0,0,0⟩/\nd=⟨1,0,0,bl p.nm,nd.kq,[]⟩/\ZP w base p nd.kq
theorem ZP.nil(w:World)(base:Nat)(p:PV)(a:p.ca=none)(c:p.cn=0)(d:p.cc=0):ZP w base p []:=⟨[],by rw[a,c,d];exact Xm _ _ _ _,C⟩
theorem A0 (f:XR [123] (bnd (bnd r Qa) λ_ ts=>Zj<|Zk 2 ts)=false):(bnd (bnd r Qa) λ_ ts=>Zj<|Zk 2 ts)=(bnd r λ_ ts=>Zj<|YP ts)/\
 (∀y,r=.ok y->∀z,YP y.2=.ok z->bnd r Qa=.ok y/\∃a,Zk 2 y.2=.ok (a,z.2)/\z.1=⟨1,0,0,a,[],[]⟩):=by
  cases r with
  |error x=>exact⟨C,λy c=>(by cases c)⟩
  |ok x=>
   simp only[bnd]at f⊢;unfold Qa at f⊢;unfold YP Qb;cases g:Qc<|hd x.2with
   |true=>exact⟨by simp[bnd,Zj],λy c z d=>by injection c with c;subst c;rw[g]at d;simp[bnd]at d⟩
   |false=>
    simp only[g,O5,Q2]at f⊢;cases h:Zk 2 x.2 with
    |error e=>exact⟨C,λy c z d=>by injection c with c;subst c;rw[g]at d;simp[h,bnd]at d⟩
    |ok k=>
     obtain⟨a,t⟩:=k;rw[h]at f;have i:Yk _ (hd t)=false:=f;refine⟨by simp[bnd,Zj,i],λy c z d=>?_⟩;injection c with c;subst c;rw[g]at d;simp[h,bnd,i]at d;subst d;exact⟨C,a,h,C⟩
theorem iZ {ts5:List Yg}(c:(bnd (bnd r Qa) λ_ ts=>Zj<|Zk 2 ts)=.ok ((),ts5))(h:Yk [123] (hd ts5)=true):
 (bnd r λ_ ts=>Zj<|YP ts)=Zj (ZI ZK [125] ts5.length [] ts5.tail)/\
 (∀y,r=.ok y->∀z,YP y.2=.ok z->bnd r Qa=.ok y/\∃a cs,Zk 2 y.2=.ok (a,ts5)/\ZI ZK [125] ts5.length [] ts5.tail=.ok (cs,z.2)/\z.1=⟨1,0,0,a,cs,[]⟩):=by
  cases r with
  |error x=>cases c
  |ok x=>
   simp only[bnd]at c⊢;unfold Qa at c⊢;unfold YP Qb;cases i:Qc<|hd x.2with
   |true=>rw[i]at c;simp at c
   |false=>
    simp only[i,O5,Q2]at c⊢;cases g:Zk 2 x.2 with
    |error e=>rw[g]at c;cases c
    |ok k=>
     obtain⟨a,t⟩:=k;rw[g]at c;have l:t=ts5:=by simp[Zj,bnd]at c;exact c
     subst l;cases j:ZI ZK [125] t.length [] t.tail with
     |error e=>exact⟨by simp[bnd,Zj,h,j],λy d z f=>by injection d with d;subst d;rw[i]at f;simp[g,bnd,h,j]at f⟩
     |ok q=>
      refine⟨by simp[bnd,Zj,h,j],λy d z f=>?_⟩;injection d with d;subst d;rw[i]at f;simp[g,bnd,h,j]at f;subst f;exact⟨C,a,q.1,g,C,C⟩
theorem Yq.cells{p:PV}(h:Yq w a p)(i:Nat):w.cell? ⟨a,i,none⟩=[Value.int .i64 p.k,E p.n,E p.op,.string p.nm,.slice p.ca p.cn p.cc,.slice p.ba p.bn p.bc,E p.a,E p.b][i]?:=by
 unfold Yq at h;simp[World.cell?,h]
theorem L7{P:Program}{fn:Func}{R:Ending->World->Prop}{a:Act}{v:World}{p0 p:PV}{r:Value}(c:∀W:World,Yq W b p->(results fn a.tmps).run P W=.ok r W)(hd:a.defers=[])(h:Yq v b p0)(d:R (.returned r)<|Nn v b p):bodyPost P fn R .ret a<|Nn v b p:=YQ (c _<|uy h p) hd d
structure XP (w wx:World)(b:Nat)(pv:Value)(s:BA)(deep:Nat)(rr:Yl Unit)(x:BA)(ca:Option Addr)(cc:Nat)(qs:List<|BA×BA×Bool):Prop where
 st:St wx b pv s deep rr
 p0:Yq wx w.heap.size<|Oa 0
 p1:Yq wx (w.heap.size+1) ⟨1,0,0,x,ca,qs.length,cc,none,0,0,0,0⟩
 ow:wx.ownsRow w.heap.size 268 3 (.slice ca qs.length cc) qs.length<|TU qs
 gr:w.grownBy wx<|some b
 lt:b<w.heap.size
section
variable {w wx w':World} {b:Nat} {pv:Value} {s:BA} {deep:Nat} {rr r':Yl Unit} {x:BA} {ca:Option Addr} {cc:Nat} {qs:List (BA×BA×Bool)}
theorem XP.nb(h:XP w wx b pv s deep rr x ca cc qs):some b≠(Value.slice ca qs.length cc).ownBlock:=by
 obtain⟨q,a,_⟩:=h.st.view;exact ZD h.ow a N
theorem XP.step(h:XP w wx b pv s deep rr x ca cc qs)(a:wx.grownBy w'<|some b)(c:St w' b pv s deep r'):XP w w' b pv s deep r' x ca cc qs:=
 have:=h.lt;⟨c,h.p0.grown a<|by simp;omega,h.p1.grown a<|by simp;omega,O6 h.ow a<|Or.inr λe=>h.nb e.symm,Zi h.gr a,h.lt⟩
theorem XP.alloc(h:XP w wx b pv s deep rr x ca cc qs)(o:Obj):XP w (wx.alloc o) b pv s deep rr x ca cc qs:=
 ⟨h.st.kept<|Go.Deep.blk_alloc_lt _ _ _ h.st.lt,h.p0.kept<|Go.Deep.blk_alloc_lt _ _ _ h.p0.lt,h.p1.kept<|Go.Deep.blk_alloc_lt _ _ _ h.p1.lt,N5 h.ow o,Vh h.gr o,h.lt⟩
theorem XP.set(h:XP w wx b pv s deep rr x ca cc qs)(i:Nat)(v:Value)(d:w.heap.size+1<k)(a:∀j,(Value.slice ca qs.length cc).ownBlock=some j->j≠k):XP w (wx.setCell ⟨k,i,none⟩ v) b pv s deep rr x ca cc qs:=
 have:=h.lt;⟨h.st.kept<|Go.Deep.blk_setCell_other _ _ _ _<|by show b≠k;omega,h.p0.kept<|Go.Deep.blk_setCell_other _ _ _ _<|by show w.heap.size≠k;omega,h.p1.kept<|Go.Deep.blk_setCell_other _ _ _ _<|by show w.heap.size+1≠k;omega,ZJ h.ow λj c=>Go.Deep.blk_setCell_other _ _ _ _<|a j c,Zn h.gr (.inr<|by show w.heap.size<=k;omega) _,h.lt⟩
theorem XP.app(h:XP w wx b pv s deep rr x ca cc qs)(a:(wx.alloc o).grownBy w' (Value.slice ca qs.length cc).ownBlock):St w' b pv s deep rr/\Yq w' w.heap.size (Oa 0)/\Yq w' (w.heap.size+1) ⟨1,0,0,x,ca,qs.length,cc,none,0,0,0,0⟩/\w.grownBy w' (some b):=
 have k:=h.alloc o;⟨k.st.kept<|a.block b k.st.lt k.nb,k.p0.grown a<|ZD k.ow k.p0 N,k.p1.grown a<|ZD k.ow k.p1 N,DN k.gr a λj c=>(k.ow.lt j c).1⟩
theorem XP.push(h:XP w wx b pv s deep rr x ca cc qs)(j:(wx.alloc o).grownBy w' (Value.slice ca qs.length cc).ownBlock){x1 x2:BA}(f:w'.ownsRow w.heap.size 268 3 (.slice (some ⟨g,0,none⟩) (qs.length+1) cp) (qs.length+1)<|TU qs++[.string x1,.string x2,.bool v]):XP w (w'.setCell ⟨w.heap.size+1,4,none⟩<|.slice (some ⟨g,0,none⟩) (qs.length+1) cp) b pv s deep rr x (some ⟨g,0,none⟩) cp<|qs++[(x1,x2,v)]:=by
 obtain⟨a,c,d,e⟩:=h.app j;have:=h.lt;have i:(qs++[(x1,x2,v)]).length=qs.length+1:=Yv;refine⟨a.kept<|Go.Deep.blk_setCell_other _ _ _ _<|by show b≠w.heap.size+1;omega,c.kept<|Go.Deep.blk_setCell_other _ _ _ _<|by show w.heap.size≠w.heap.size+1;omega,i▸d.setConds _ _ _,?_,Zn e (.inr<|by show w.heap.size<=w.heap.size+1;omega) _,h.lt⟩;rw[i,sG];refine ZJ f λk l=>Go.Deep.blk_setCell_other _ _ _ _ ?_;rintro rfl;exact ZD f d N l.symm
end
theorem Al{pv:Value}{deep:Nat}(h:St w b pv s deep r)(D:s.size<=6000):
 CP 291 #[Vp b] w λe w'=>∃p:PV,e=.returned (.agg #[E p.k,E p.n,E p.op,.string p.nm,.slice p.ca p.cn p.cc,.slice p.ba p.bn p.bc,E p.a,E p.b])/\St w' b pv s deep (bnd r λ_ ts=>Zj<|YP ts)/\
  Hid (∀y,r=.ok y->∀z,YP y.2=.ok z->Lf w' w.heap.size p z.1)/\w.grownBy w' (some b):=by
 have a2:=h.lt;obtain⟨q,hq,_,_,R,F⟩:=h.view;obtain⟨c0,c1,c2,c3,c4,c5,c6,c7,c8⟩:=hq.all;have HS:=I h;have HO:=I F;clear h hq R F c0 c1 c2 c3 c5 c6 c7 c8;go_enter func291,ntmps291;go_wp2_with fail;refine(Oq N).mono ?_;rintro e w1 ⟨rfl,b8⟩;rw[Jf];obtain⟨e0,e1,S,a3⟩:=xe b8;clear b8;have d4:=(S.cell a2).trans c4;go_wp2_with fail;refine(Oq N).mono ?_;rintro e w2 ⟨rfl,G⟩;rw[Jv];have a4:=S.trans<|G.mono S.size;have a5:Hid<|Yq _ _<|Oa 0:=(G.block _ X).trans e0;have a6:Hid<|Yq _ _<|Oa 1:=(G.block _ X).trans e1;have T:=I<|St.kept HS<|a4.block b a2;have a7:Hid<|w.grownBy _<|some b:=ZB a4;have g7:=Xb a3 G.size;clear G e0 e1 S a4 c4 d4;go_wp2_with fail;refine(St.is T _).mono ?_;rintro e w3 ⟨rfl,rfl⟩;go_wp2_with fail;refine(St.is T _).mono ?_;rintro e w3 ⟨rfl,rfl⟩;obtain⟨v,L⟩:∃v,(decide (0<=Xk (bl q.tx) Wu)||decide (0<=Xk (bl q.tx) WN)||XR UD r||XR UZ r)=v:=⟨_,C⟩;have HV:=I<|nu HO L;have m:=I L;clear L HO;rw[show bl ⟨#[111,114]⟩=UD from C,show bl _=UZ from C];generalize Xk (bl q.tx) Wu=ia at m⊢;generalize Xk (bl q.tx) WN=ib at m⊢;generalize XR UD r=ic at m⊢;generalize XR UZ r=id at m⊢;go_upto_region 6 with fail;go_cut [39] (λs39 wx=>s39=.bool v/\wx=w3);case first=>
  by_cases ha:0<=ia
  .go_wp2;go_meet;exact⟨by rw[<-m,WI ha];rfl,C⟩
  .by_cases hb:0<=ib
   .go_wp2;go_meet;exact⟨by rw[<-m,Wl<|show¬0<=ia by omega,WI hb];rfl,C⟩
   .cases ic<;>cases id<;>(go_wp2;go_meet;exact⟨by rw[<-m,Wl<|show¬0<=ia by omega,Wl<|show¬0<=ib by omega];rfl,C⟩)
 case rest=>
 obtain⟨rfl,rfl⟩:=hcut;clear m;go_upto_if 39 with fail;go_cut [] (λwx=>Hid (St wx b pv s deep<|bnd r Qa)/\Hid (Yq wx w.heap.size<|Oa 0)/\Hid (Yq wx (w.heap.size+1)<|Oa 1)/\Hid (w.grownBy wx<|some b));case first=>
  cases v
  .go_wp2;go_meet;exact⟨by rwa [HV.out],a5,a6,a7⟩
  .go_wp2_with fail;refine(St.fail T 2 _ C N).mono ?_;rintro e w4 ⟨rfl,c,d⟩;have g8:Hid _:=c;have a8:=I d;clear c d;go_wp2;go_meet;refine⟨by rwa [HV.out],Yq.grown a5 a8<|by simp;omega,Yq.grown a6 a8<|by simp;omega,Zi a7 a8⟩
 case rest=>
 obtain⟨b9,a9,M,c9⟩:=hcut;clear T a5 a6 a7 HV HS;have g9:=Yq.lt M;go_wp2_with fail;refine(St.jj b9 D 2 _ C N).mono ?_;rintro e w5 ⟨x,rfl,c,hx,d⟩;have d3:=Yq.grown a9 d<|by simp;omega
 have U:=Yq.grown M d<|by simp;omega
 obtain⟨k0,k1,k2,k3,k4,k5,k6,k7⟩:=U.all;have g3:=U.frozen 3;have V:Hid<|St (w5.setCell ⟨w.heap.size+1,3,none⟩<|.string x) b _ s _ _:=St.kept c<|Go.Deep.blk_setCell_other _ _ _ _<|by show b≠w.heap.size+1;omega
 have O:Hid<|Yq (w5.setCell ⟨w.heap.size+1,3,none⟩<|.string x) _ _:=Yq.kept d3<|Go.Deep.blk_setCell_other _ _ _ _<|by show w.heap.size≠w.heap.size+1;omega
 have P:Hid<|Yq _ _ {Oa 1 with nm:=x}:=Yq.setNm U x;have b0:Hid<|w.grownBy (w5.setCell ⟨w.heap.size+1,3,none⟩<|.string x) _:=Zn (Zi c9 d) (.inr<|by show w.heap.size<=w.heap.size+1;omega) _;clear b9 a9 M c9 d3 U d c;go_wp2_with fail;clear k0 k1 k2 k3 k4 k5 k6 k7 g3;generalize w5.setCell ⟨w.heap.size+1,3,none⟩ (.string x)=w6 at V O P b0⊢;refine(St.is V _).mono ?_;rintro e w7 ⟨rfl,rfl⟩;rw[show bl _=[123]from C];have i:Hid<|XP w _ b _ s _ _ x none 0 []:=I ⟨V,O,P,Xm _ _ _ _,b0,a2⟩;clear V O P b0;cases ho:XR [123]<|bnd (bnd r Qa) λ_ ts=>Zj<|Zk 2 ts
 .have k:=i.p1.cells;have l:=i.p0.cells;have f:=i.p0.frozen;go_wp2;refine L7 (p:=⟨1,0,0,x,none,0,0,none,0,0,0,0⟩) (λW h=>by simp[results,results291,go_sem,h.cells]) C i.p0 ⟨⟨1,0,0,x,none,0,0,none,0,0,0,0⟩,C,?_,?_,E5 i.gr<|Yj _⟩
  .rw[<-(A0 ho).1];exact i.st.kept<|GD b X
  .intro y hy z hz;obtain⟨h1,a,h2,h3⟩:=(A0 ho).2 y hy z hz;rw[h3];exact⟨C,by rw[show a=bl x from(hx y h1 _ h2).symm],ZP.nil _ _ _ C C C⟩
 .obtain⟨ts5,H,b1,Y⟩:=Dm ho;have d5:=I<|iZ H b1;have g4:=M6 b1;have g5:ts5.length<=6002:=by
   have h:=i.st;rw[H]at h;have:=St.len h;simp at this;omega
  clear ho;go_wp2_with fail;refine(St.next i.st D ⟨ts5,H,Y⟩).mono ?_;rintro e w8 ⟨rfl,c,d⟩;rw[H]at c;have d6:=I<|i.step d c;clear c d i H b1 Y;go_wp2_with fail;refine(St.is d6.st _).mono ?_;rintro e w9 ⟨rfl,rfl⟩;rw[show bl _=[125]from C];obtain⟨i0,hi,f0,a3,e4⟩:=Xv Tryz.infoCond;go_wp2;go_loopw [9] (λv9 wr=>∃(qs:List<|BA×BA×Bool)(ca:Option Addr)(cc:Nat)(rr:Yl Unit),v9=.bool (XR [125] rr)/\Hid (XP w wr b pv s deep rr x ca cc qs)/\Hid (SL ZK [125] VL ts5.length ts5.tail qs rr))
   (λ_ wr=>ts5.length+2-Pm wr ⟨w.heap.size+1,4,none⟩);case atStart=>exact⟨[],none,0,.ok _,C,d6,SL.start _ _ _ _ _ X⟩
  case round=>
   obtain⟨qs,ca,cc,rr,rfl,B,J⟩:=hrel;obtain⟨qr,d7,_,_,R,F⟩:=B.st.view;have c7:=(YN.all d7).2.2.2.2.2.2.2.1;have e5:((XR [125] rr=true∨(XR [125] rr=false/\((qr.e:Int)==0)=false))/\(XR [125] rr=true∨∃e,rr=.error e))∨(XR [125] rr=false/\((qr.e:Int)==0)=true/\∃ts,rr=.ok ((),ts)/\Yk [125] (hd ts)=false):=by
    cases rr with
    |error e=>exact .inl ⟨.inr ⟨C,by rw[YB];have:=(R e C).2.1;omega⟩,.inr ⟨e,C⟩⟩
    |ok y=>
     obtain⟨⟨⟩,ts⟩:=y;have h0:=(F _ C).1;cases hc:Yk [125]<|hd ts
     .exact .inr ⟨hc,by rw[h0];rfl,ts,C,hc⟩
     .exact .inl ⟨.inl hc,.inl hc⟩
   clear d7 R F;rcases e5 with⟨Z,b2⟩|⟨f1,i1,ts,f2,f3⟩
   .have b3:=I<|SL.done J b2;clear b2;generalize XR [125] rr=v9 at Z;rcases Z with rfl|⟨rfl,he⟩;all_goals
    go_wp2_with fail;refine(St.take B.st D _).mono ?_;rintro e f4 ⟨rfl,c,d⟩;rw[show bl _=[125]from C]at c;have g:=I<|B.step d c;clear c d B J c7;have k:=g.p1.cells;have l:=g.p0.cells;have f:=g.p0.frozen;go_wp2;refine L7 (p:=⟨1,0,0,x,ca,qs.length,cc,none,0,0,0,0⟩) (λW h=>by simp[results,results291,go_sem,h.cells]) C g.p0 ⟨⟨1,0,0,x,ca,qs.length,cc,none,0,0,0,0⟩,C,?_,?_,E5 g.gr<|Yj _⟩
    .rw[d5.1,b3.1];exact g.st.kept<|GD b X
    .intro y hy z hz;obtain⟨h1,a,cs,h2,h3,h4⟩:=d5.2 y hy z hz;rw[h4];refine⟨C,by rw[show a=bl x from(hx y h1 _ h2).symm],qs,ZJ g.ow ?_,b3.2 _ h3⟩;intro k hk;refine GD _ ?_;rintro rfl;exact ZD g.ow g.p0 N hk.symm
   .subst f2;have i2:qs.length<=6004:=by have:=J.2.2;omega
    have k:=B.p1.cells;have f5:Hid<|Pm wr ⟨w.heap.size+1,4,none⟩=qs.length:=by unfold Pm;rw[k];rfl
    rw[f1];go_upto_if 66 with fail;go_cut []from 54 to 91 (λwx=>∃r1:Yl Unit,Hid ((if qs.isEmpty then .ok ((),ts)else Zf [44] ts)=r1)/\Hid (XP w wx b pv s deep r1 x ca cc qs));case first=>
     by_cases d8:qs.length=0
     .have e6:decide (0<(qs.length:Int))=false:=Wl X;go_wp2;go_meet;exact⟨_,I<|by rw[Og.1 d8];rfl,B⟩
     .have e6:decide (0<(qs.length:Int))=true:=WI X;go_wp2_with fail;refine(St.take B.st D _).mono ?_;rintro e f4 ⟨rfl,c,d⟩;have g:=I<|B.step d c;clear c d;go_wp2;go_meet;exact⟨_,I<|by
      cases qs with
      |nil=>exact absurd C d8
      |cons a l=>rfl,g⟩
    case rest=>
    obtain⟨r1,f6,b4⟩:=hcut;clear B k;go_wp2_with fail;refine(St.jj b4.st D 2 _ C N).mono ?_;rintro e f7 ⟨x1,rfl,c,f8,d⟩;have g:=I<|b4.step d c;have e7:=g.p1.lt;clear c d b4;go_wp2_with fail;refine(St.is (g.alloc _).st _).mono ?_;rintro e wy ⟨rfl,rfl⟩;rw[show bl _=[33,61]from C];obtain⟨v,L⟩:∃v,XR [33,61] (bnd r1 λ_ t=>Zj<|Zk 2 t)=v:=⟨_,C⟩;rw[L];have HV:=I L;clear L;go_upto_if 76 with fail;go_cut []from 54 to 91 (λwx=>∃r3:Yl Unit,Hid (r3=if v then(bnd (bnd r1 λ_ t=>Zj<|Zk 2 t) λ_ ts=>.ok ((),ts.tail))else bnd (bnd r1 λ_ t=>Zj<|Zk 2 t) λ_ ts=>Zf [61] ts)/\Hid (Sw wx f7.heap.size x1 ⟨#[]⟩ v)/\Hid (XP w wx b pv s deep r3 x ca cc qs));case first=>
     cases v
     .go_wp2_with fail;refine(St.take (g.alloc _).st D _).mono ?_;rintro e f9 ⟨rfl,c,d⟩;have HC:=I<|Sw.grown (Go.Deep.blk_alloc_new _ _) d<|by simp;omega
      have A:=I<|(g.alloc _).step d c;clear c d;go_wp2;go_meet;exact⟨_,I C,HC,A⟩
     .go_wp2_with fail;obtain⟨ts2,d9,_,e2⟩:=Dm HV;refine(St.next (g.alloc _).st D ⟨ts2,d9,e2⟩).mono ?_;rintro e f9 ⟨rfl,c,d⟩;have HC:=I<|Sw.grown (Go.Deep.blk_alloc_new _ _) d<|by simp;omega
      have A:=I<|(g.alloc _).step d c;clear c d d9 e2;go_wp2;go_meet;exact⟨_,I C,HC,A⟩
    case rest=>
    obtain⟨r3,g0,HC,A⟩:=hcut;go_wp2_with fail;refine(St.jj A.st D 3 _ C N).mono ?_;rintro e g1 ⟨x2,rfl,c,g2,d⟩;have a0:=I<|Sw.grown HC d<|by simp;omega
    have b5:=I<|A.step d c;have K:=I<|b5.set 1 (.string x2) e7 λj hj=>by have:=(g.ow.lt j hj).2;omega
    have g6:=a0.lt;obtain⟨d0,d1,d2⟩:=Sw.all a0;have fd:=a0.frozen;have k:=b5.p1.cells;clear c d A HC;go_wp2_with(at_builtin;refine XC _ C (.tmp 85) (.tmp 87) 56 C w.heap.size 268 i0 (.agg #[.string ByteArray.empty,.string ByteArray.empty,.bool false]) 3 40 underlying56 hi f0 a3 e4 C N _ _ _ C (N5 K.ow _) ⟨g1.heap.size,0,none⟩ 1 1 [.string x1,.string x2,.bool v] C C ?c1 ?c2 ?c3 ?c4 ?c5 ?_);case c1=>exact tk<|Go.Deep.nblk_setCell _ _ _
    case c2=>intro u hu;simp at hu;rcases hu with rfl|rfl|rfl<;>rfl
    case c3=>unfold maxLen;omega
    case c4=>omega
    case c5=>simp;omega
    intro v15 e3 Q o _;obtain⟨g15,cp15,e8⟩:=Zm Q X;subst e8;have a1:=I<|K.push o Q;have kc:=(K.app o).2.2.1.cells;have fk:=(K.app o).2.2.1.frozen;have b6:Hid<|Pm (e3.setCell ⟨w.heap.size+1,4,none⟩<|.slice (some ⟨g15,0,none⟩) (qs.length+1) cp15) ⟨w.heap.size+1,4,none⟩=qs.length+1:=by unfold Pm;rw[a1.p1.cells];exact Yv
    have b7:=uh HV g0 f8 g2;have e9:=I<|SL.round J f3 f6 b7.1 b7.2 K6;have i3:=J.2.2;clear Q o b7 K b5 a0 g;go_wp2_with fail;clear kc fk d0 d1 d2 fd k;generalize e3.setCell ⟨w.heap.size+1,4,none⟩ (.slice (some ⟨g15,0,none⟩) (qs.length+1) cp15)=w16 at a1 b6⊢;refine(St.is a1.st _).mono ?_;rintro e wz ⟨rfl,rfl⟩;rw[show bl _=[125]from C];go_wp2;go_roundw;case rel=>exact⟨_,_,_,_,C,a1,e9⟩
    case measure=>
     rw[f5,b6];omega
end
section
theorem RD.step(h:RD w b g cp ps k)(c:k+1<ps.length):RD (w.setCell ⟨b,1,none⟩<|E ((k+1:Nat):Int)) b g cp ps<|k+1:=by
 have a:b≠g:=by
  rintro rfl;exact ZD h.own h.cells N C
 refine⟨?_,ZJ h.own λj d=>Go.Deep.blk_setCell_other _ _ _ _ ?_,c⟩
 .have:=h.cells;simp only[World.setCell,V4,this,VE,Wr];rfl
 .have:j=g:=by simpa [Value.ownBlock]using d.symm
  rw[this];exact λe=>a e.symm
theorem RD.kept(h:RD w b g cp ps k)(a:∀j,j<w.heap.size->w'.heap[j]?=w.heap[j]?):RD w' b g cp ps k:=
 ⟨(a b (Xr.1 h.cells).1).trans h.cells,ZJ h.own λj c=>a j (h.own.lt j c).2,h.lt⟩
def ZU(t:Yu)(s:BA):Bool:=((t.kd:Int)==3)&&(t.tx.toList==s.toList)
def RG(t:Yu)(s:BA):Bool:=((t.kd:Int)==1)&&(t.tx.toList==s.toList)
def Uq(w':World)(b g cp:Nat)(ps:List Yu)(k:Nat)(sy:Addr)(at_:Int)(ok:Bool)(v:Value):Prop:=(ok=true/\v=.nilIface/\RD w' b g cp ps (k+1))∨(ok=false/\ZF w' v at_ sy/\RD w' b g cp ps k)
theorem fM(h:RD w b g cp ps k)(s:BA)(x:ZU (ps[k]'h.lt) s=true->k+1<ps.length)(K:ps.length<=6002)(i:w.cell? ⟨1,0,none⟩=some (.iface 469<|.pointer<|some sy)):
 CP 293 #[Vp b,.string s] w λe u=>∃v,e=.returned v/\Hid (Uq u b g cp ps k sy (ps[k]'h.lt).at_ (ZU (ps[k]'h.lt) s) v)/\w.grownBy u (some b):=by
 have H:=I h;have J:=h.lt;have A:1<w.heap.size:=Xi _ _ i;obtain⟨t,m⟩:∃t,t=ps[k]'h.lt:=⟨_,C⟩;have B:Hid<|∀F:k<ps.length,ps[k]'F=t:=λ_=>m.symm;rw[<-m]at x⊢;clear m h;go_enter func293,ntmps293;go_wp2_with fail;refine(LY H.out).mono ?_;rintro e L ⟨rfl,j⟩;rw[B];have d:=I j;clear j;go_wp2_with fail;refine(Ha t s _).mono ?_;rintro e z ⟨rfl,l⟩;have a:=I<|d.trans<|l.mono d.size;have c:=I<|RD.below H a;have n:=(a.cell A).trans i;obtain⟨c0,c1,fz,_⟩:=c.all;rw[show(((t.kd:Int)==3)&&(t.tx.toList==s.toList))=ZU t s from C];clear l d;cases o:ZU t s
 .have p:=I o;go_wp2_with fail;refine(K5 c.out n).mono ?_;rintro e M ⟨v,rfl,q,f⟩;rw[B]at q;have G:Hid<|Uq _ b g _ _ k _ _ _ v:=.inr ⟨C,q,RD.below c f⟩;have r:Hid<|w.grownBy _<|some b:=ZB<|a.trans<|f.mono a.size;clear q f;go_wp2;go_ret;exact⟨_,C,by rwa [p.out],r⟩
 .have D:=x o;have p:=I o;have G:Hid<|Uq _ b g _ _ k sy t.at_ _ _:=.inl ⟨C,C,c.step D⟩;have r:Hid<|w.grownBy (z.setCell ⟨b,1,none⟩<|E<|(k+1:Nat))<|some b:=Zn (ZB a) (.inl C) _;go_wp2;go_ret;exact⟨_,C,by rwa [p.out],r⟩
theorem fO(h:RD w b g cp ps k)(s:BA)(x:RG (ps[k]'h.lt) s=true->k+1<ps.length)(K:ps.length<=6002)(i:w.cell? ⟨1,0,none⟩=some (.iface 469<|.pointer<|some sy)):
 CP 294 #[Vp b,.string s] w λe u=>∃v,e=.returned v/\Hid (Uq u b g cp ps k sy (ps[k]'h.lt).at_ (RG (ps[k]'h.lt) s) v)/\w.grownBy u (some b):=by
 have H:=I h;have J:=h.lt;have A:1<w.heap.size:=Xi _ _ i;obtain⟨t,m⟩:∃t,t=ps[k]'h.lt:=⟨_,C⟩;have B:Hid<|∀F:k<ps.length,ps[k]'F=t:=λ_=>m.symm;rw[<-m]at x⊢;clear m h;go_enter func294,ntmps294;go_wp2_with fail;refine(LY H.out).mono ?_;rintro e L ⟨rfl,j⟩;rw[B];have d:=I j;clear j;go_wp2_with fail;refine(Dq t s _).mono ?_;rintro e z ⟨rfl,l⟩;have a:=I<|d.trans<|l.mono d.size;have c:=I<|RD.below H a;have n:=(a.cell A).trans i;obtain⟨c0,c1,fz,_⟩:=c.all;rw[show(((t.kd:Int)==1)&&(t.tx.toList==s.toList))=RG t s from C];clear l d;cases o:RG t s
 .have p:=I o;go_wp2_with fail;refine(K5 c.out n).mono ?_;rintro e M ⟨v,rfl,q,f⟩;rw[B]at q;have G:Hid<|Uq _ b g _ _ k _ _ _ v:=.inr ⟨C,q,RD.below c f⟩;have r:Hid<|w.grownBy _<|some b:=ZB<|a.trans<|f.mono a.size;clear q f;go_wp2;go_ret;exact⟨_,C,by rwa [p.out],r⟩
 .have D:=x o;have p:=I o;have G:Hid<|Uq _ b g _ _ k sy t.at_ _ _:=.inl ⟨C,C,c.step D⟩;have r:Hid<|w.grownBy (z.setCell ⟨b,1,none⟩<|E<|(k+1:Nat))<|some b:=Zn (ZB a) (.inl C) _;go_wp2;go_ret;exact⟨_,C,by rwa [p.out],r⟩
def P0(t:Yu):Bool:=(t.kd:Int)==1
theorem fN(h:RD w b g cp ps k)(r:P0 (ps[k]'h.lt)=true->k+1<ps.length)(R:ps.length<=6002)(l:w.cell? ⟨1,0,none⟩=some (.iface 469<|.pointer<|some sy)):
 CP 296 #[Vp b] w λe u=>∃(x:BA)(v:Value),e=.returned (.tuple #[.string x,v])/\Hid (Uq u b g cp ps k sy (ps[k]'h.lt).at_ (P0<|ps[k]'h.lt) v/\(P0 (ps[k]'h.lt)=true->x=(ps[k]'h.lt).tx))/\w.grownBy u (some b):=by
 have H:=I h;have O:=h.lt;have s:1<w.heap.size:=Xi _ _ l;obtain⟨t,n⟩:∃t,t=ps[k]'h.lt:=⟨_,C⟩;have z:Hid<|∀K:k<ps.length,ps[k]'K=t:=λ_=>n.symm;rw[<-n]at r⊢;clear n h;go_enter func296,ntmps296;go_wp2_with fail;refine(LY H.out).mono ?_;rintro e a ⟨rfl,c⟩;rw[z];obtain⟨kd,at_,tx,v⟩:=t;obtain⟨W,o⟩:∃W,W=a.alloc (.cells #[E kd,E at_,.string tx,E v] 389):=⟨_,C⟩;have A:=I o;have B:W.heap[a.heap.size]?=some (.cells #[.int _ _,.int _ _,.string _,.int _ v] _ _):=o▸YO;have d:Hid _:=o▸c.alloc c.size _;have f:=I<|RD.below H d;have p:=(d.cell s).trans l;obtain⟨c0,c1,fz,P,_⟩:=f.all;have Q:=WH (Xr.1 H.cells).1 c.size;have k2:(W.setCell ⟨b,1,none⟩<|E<|(k+1:Nat)).cell? ⟨a.heap.size,2,none⟩=some (.string tx):=by
  have:(W.setCell ⟨b,1,none⟩<|E<|(k+1:Nat)).heap[a.heap.size]?=W.heap[a.heap.size]?:=Go.Deep.blk_setCell_other _ _ _ _<|by show a.heap.size≠b;omega
  unfold World.cell?;rw[this,B];rfl
 have D:Hid<|k+1<ps.length->Uq ((a.setCell _ _).alloc<|.cells #[E kd,E at_,.string tx,E v] 389) b g _ _ k sy at_ _ _:=λi=>.inl ⟨C,C,(RD.step (RD.below H c) i).below Yc⟩;have F:Hid<|w.grownBy ((a.setCell ⟨b,1,none⟩<|E<|(k+1:Nat)).alloc<|.cells #[E kd,E at_,.string tx,E v] 389)<|some b:=Vh (Zn (ZB c) (.inl C) _) _;generalize j:((kd:Int)==1)=nb at*;cases nb
 .have q:Hid<|P0 ⟨kd,at_,tx,v⟩=false:=j;have G:((kd:Int) !=1)=true:=by rw[bne,j];rfl
  go_wp2_with fail;rw[<-A];refine(K5 f.out p).mono ?_;rintro e S ⟨v3,rfl,J,m⟩;rw[z]at J;have L:Hid<|Uq _ b g _ _ k _ at_ _ _:=.inr ⟨C,J,RD.below f m⟩;have M:Hid<|w.grownBy _<|some b:=ZB<|d.trans<|m.mono d.size;go_wp2;go_ret2;exact⟨_,_,C,q.out▸⟨L.out,λh=>(by cases h)⟩,M⟩
 .have q:Hid<|P0 ⟨kd,at_,tx,v⟩=true:=j;have G:((kd:Int) !=1)=false:=by rw[bne,j];rfl
  have i:=r j;rw[A]at k2 c0 c1 fz;go_wp2;go_ret2;exact⟨_,_,C,by rw[q];exact⟨D i,λ_=>C⟩,F⟩
def TJ(t:Yu):Option Nat:=if RG t ⟨#[111,114]⟩then some 0 else if ZU t ⟨#[43]⟩then some 1 else if ZU t ⟨#[45]⟩then some 2 else if ZU t ⟨#[42]⟩then some 3 else if ZU t ⟨#[47]⟩then some 4 else none
def Sb(w:World)(a:Nat)(t:Yu):Prop:=w.heap[a]?=some (.cells #[E t.kd,E t.at_,.string t.tx,E t.v] 389 (0,0))
theorem Sb.all{t:Yu}(h:Sb w a t):w.cell? ⟨a,0,none⟩=some (E t.kd)/\w.cell? ⟨a,1,none⟩=some (E t.at_)/\w.cell? ⟨a,2,none⟩=some (.string t.tx)/\w.cell? ⟨a,3,none⟩=some (E t.v):=by
 unfold Sb at h;refine⟨?_,?_,?_,?_⟩<;>simp[World.cell?,h]
theorem Sb.below{t:Yu}(h:Sb w a t)(c:BW w w'):Sb w' a t:=(c.block a (Xr.1 h).1).trans h
theorem Mv(t:Yu)(f:ZU t s=x)(w0:World)(g:Sb w a t)(d:BW w0 w):
 CP 274 #[.agg #[E t.kd,E t.at_,.string t.tx,E t.v],.string s] w λe u=>e=.returned (.bool x)/\Hid (Sb u a t)/\Hid (BW w0 u):=by
 subst f;refine(Ha t s w).mono ?_;rintro e u ⟨rfl,c⟩;exact⟨C,g.below c,d.trans<|c.mono d.size⟩
theorem zT(t:Yu)(f:RG t s=x)(w0:World)(g:Sb w a t)(d:BW w0 w):
 CP 281 #[.agg #[E t.kd,E t.at_,.string t.tx,E t.v],.string s] w λe u=>e=.returned (.bool x)/\Hid (Sb u a t)/\Hid (BW w0 u):=by
 subst f;refine(Dq t s w).mono ?_;rintro e u ⟨rfl,c⟩;exact⟨C,g.below c,d.trans<|c.mono d.size⟩
theorem kA(t:Yu):
 CP 247 #[.agg #[E t.kd,E t.at_,.string t.tx,E t.v]] w λe u=>e=.returned (.tuple #[E ((TJ t).getD 0:Nat),.bool (TJ t).isSome])/\BW w u:=by
 obtain⟨b1,l⟩:∃x,RG t ⟨#[111,114]⟩=x:=⟨_,C⟩;obtain⟨b2,m⟩:∃x,ZU t ⟨#[43]⟩=x:=⟨_,C⟩;obtain⟨b3,n⟩:∃x,ZU t ⟨#[45]⟩=x:=⟨_,C⟩;obtain⟨b4,o⟩:∃x,ZU t ⟨#[42]⟩=x:=⟨_,C⟩;obtain⟨b5,p⟩:∃x,ZU t ⟨#[47]⟩=x:=⟨_,C⟩;have s:Hid<|TJ t=if b1 then some 0 else if b2 then some 1 else if b3 then some 2 else if b4 then some 3 else if b5 then some 4 else none:=I<|by unfold TJ;rw[l,m,n,o,p]
 have H:Hid<|RG t _=b1/\ZU t _=b2/\ZU t _=b3/\ZU t _=b4/\ZU t _=b5:=⟨l,m,n,o,p⟩;have q:Hid<|Sb _ w.heap.size t:=YO;have r:Hid<|Below _ w<|w.alloc<|.cells #[E t.kd,E t.at_,.string t.tx,E t.v] 389:=Yc;rw[s];go_enter func247,ntmps247;go_wp2_with fail;refine(zT t H.1 w q r).mono ?_;rintro e B ⟨rfl,a,c⟩;cases b1
 .obtain⟨k0,k1,k2,k3⟩:=Sb.all a;go_wp2_with fail;refine(Mv t H.2.1 w a c).mono ?_;rintro e z ⟨rfl,d,f⟩;cases b2
  .obtain⟨k0,k1,k2,k3⟩:=Sb.all d;go_wp2_with fail;refine(Mv t H.2.2.1 w d f).mono ?_;rintro e D ⟨rfl,g,h⟩;cases b3
   .obtain⟨k0,k1,k2,k3⟩:=Sb.all g;go_wp2_with fail;refine(Mv t H.2.2.2.1 w g h).mono ?_;rintro e F ⟨rfl,i,j⟩;cases b4
    .obtain⟨k0,k1,k2,k3⟩:=Sb.all i;go_wp2_with fail;refine(Mv t H.2.2.2.2 w i j).mono ?_;rintro e G ⟨rfl,A,k⟩;cases b5
     .go_wp2;go_ret2;exact⟨C,k⟩
     .go_wp2;go_ret2;exact⟨C,k⟩
    .go_wp2;go_ret2;exact⟨C,j⟩
   .go_wp2;go_ret2;exact⟨C,h⟩
  .go_wp2;go_ret2;exact⟨C,f⟩
 .go_wp2;go_ret2;exact⟨C,c⟩
def Uy:List Yu->List Yg->Prop
 |[],[]=>True
 |p::ps,t::ts=>SO p t/\Uy ps ts
 |_,_=>False
theorem Uy.snoc:∀{ps:List Yu}{ts:List Yg}{p:Yu}{t:Yg},Uy ps ts->SO p t->Uy (ps++[p]) (ts++[t])
 |[],[],_,_,_,h=>⟨h,trivial⟩
 |_::ps,_::ts,_,_,h,a=>⟨h.1,Uy.snoc h.2 a⟩
 |[],_::_,_,_,h,_=>h.elim
 |_::_,[],_,_,h,_=>h.elim
theorem Uy.length:∀{ps:List Yu}{ts:List Yg},Uy ps ts->ps.length=ts.length
 |[],[],_=>C
 |_::ps,_::ts,h=>by rw[Y1,Y1,Uy.length h.2]
 |[],_::_,h=>h.elim
 |_::_,[],h=>h.elim
theorem Uy.get:∀{ps:List Yu}{ts:List Yg},Uy ps ts->∀(k:Nat)(a:k<ps.length)(c:k<ts.length),SO ps[k] ts[k]
 |_::_,_::_,h,0,_,_=>h.1
 |_::ps,_::ts,h,k+1,a,c=>Uy.get (ps:=ps) (ts:=ts) h.2 k (by simpa using a)<|by simpa using c
 |[],[],_,_,a,_=>absurd a<|Tu _
 |[],_::_,h,_,_,_=>h.elim
 |_::_,[],h,_,_,_=>h.elim
theorem pL{l:LB}{i:Nat}(a:Zg l i=(t,e))(c:¬(t.jj=0∨t.jj=5)):Z7 l (n+1) i=t::Z7 l n e:=by
 show(if(Zg l i).1.jj=0∨(Zg l i).1.jj=5 then[(Zg l i).1]else(Zg l i).1::Z7 l n (Zg l i).2)=_;simp_all
theorem pK{l:LB}{i:Nat}(a:Zg l i=(t,e))(c:t.jj=0∨t.jj=5):Z7 l (n+1) i=[t]:=by
 show(if(Zg l i).1.jj=0∨(Zg l i).1.jj=5 then[(Zg l i).1]else(Zg l i).1::Z7 l n (Zg l i).2)=_;simp_all
def TA(s:BA)(ps:List Yu)(at_:Nat):Prop:=at_<=s.size/\ps.length<=at_/\∃ts m,Z7 (bl s) ((bl s).length+1) 0=ts++Z7 (bl s) m at_/\s.size+1<=m+at_/\Uy ps ts
theorem TA.start(s:BA):TA s [] 0:=⟨Yr _,Yj _,[],(bl s).length+1,C,by rw[Zb];omega,trivial⟩
theorem TA.skip(h:TA s ps at_)(a:at_<s.size)(c:s[at_]=32):TA s ps<|at_+1:=by
 obtain⟨_,f,ts,m,d,g,e⟩:=h;refine⟨a,X,ts,m,?_,X,e⟩;rw[d];congr 1;cases m with
 |zero=>rfl
 |succ m=>
  show(if(Zg (bl s) at_).1.jj=0∨(Zg (bl s) at_).1.jj=5 then[(Zg (bl s) at_).1]else(Zg (bl s) at_).1::Z7 (bl s) m (Zg (bl s) at_).2)=_;rw[Bf s _ _ c];rfl
theorem TA.token(h:TA s ps at_)(d:Zg (bl s) at_=(t,e))(f:¬(t.jj=0∨t.jj=5))(i:SO p t):TA s (ps++[p]) e:=by
 obtain⟨l,n,ts,m,j,o,k⟩:=h;have c:=Nw _ _<|by rwa [Zb]
 rw[d]at c;have g:=c.1 λh=>f<|.inl h;have a:=c.2;rw[Zb]at a;simp only at g a;obtain⟨m',rfl⟩:∃m',m=m'+1:=⟨m-1,X⟩;refine⟨a,by simp;omega,ts++[t],m',?_,X,k.snoc i⟩;rw[j,pL d f,WV];rfl
theorem TA.done(h:TA s ps at_)(a:Zg (bl s) at_=(t,e))(c:t.jj=0∨t.jj=5)(d:SO p t):Uy (ps++[p])<|Z7 (bl s) ((bl s).length+1) 0:=by
 obtain⟨i,j,ts,m,f,k,g⟩:=h;obtain⟨m',rfl⟩:∃m',m=m'+1:=⟨m-1,X⟩;rw[f,pK a c];exact g.snoc d
theorem Zkg(s:BA):Zg (bl s) s.size=(⟨0,[],s.size⟩,s.size):=by
 unfold Zg;have hd:(bl s).drop s.size=[]:=Ts<|by constructor<;>omega
 rw[hd];show UV (bl s) s.size=_;unfold UV;rw[hd]
theorem pM{h:k<s.size}(hd:Zt s[k]=true):Zg (bl s) k=(if(ZC 1000000000<|((bl s).drop k).take<|run Zt<|(bl s).drop k).isSome then⟨1,((bl s).drop k).take<|run Zt<|(bl s).drop k,k⟩else⟨5,[],k⟩,k+run Zt ((bl s).drop k)):=by
 have a:s[k]≠32:=by rintro e;rw[e]at hd;revert hd;decide
 rw[Lx s k h a];unfold XS;rw[Ye hd,<-Te s k h]
theorem pN{h:k<s.size}(hd:Zt s[k]=false)(a:Zl s[k]=true):Zg (bl s) k=(if 8<run Zl ((bl s).drop k)then⟨5,[],k⟩else⟨2,((bl s).drop k).take<|run Zl<|(bl s).drop k,k⟩,k+run Zl ((bl s).drop k)):=by
 have c:s[k]≠32:=by rintro e;rw[e]at a;revert a;decide
 rw[Lx s k h c];unfold XS;rw[Yd<|by simp_all,Ye a,<-Te s k h]
theorem Qy(s:BA)(l:LB):(s.toList==l)=decide (l=bl s):=by
 rw[ZA,Ud,XL,Qs];exact⟨λh=>h.symm,λh=>h.symm⟩
theorem I7 (w:LB):∀l:List<|LB,(Y7 w l).isSome=l.any λx=>decide<|x=w
 |[]=>C
 |x::l=>by
  unfold Y7;rw[Ik];by_cases h:x=w
  .rw[Ye h];simp[h]
  .rw[Yd h,Option.isSome_map,I7 w l];simp[h]
theorem Dl(s:BA)(w:World):
 CP 276 #[.string s] w λe u=>e=.returned (.bool (Y7 (bl s) Wu).isSome)/\u=w:=by
 have e1:=Qy s [115,117,109];have e2:=Qy s [109,97,120];have e3:=Qy s [109,105,110];have e4:=Qy s [99,111,117,110,116];have a:Hid<|(Y7 (bl s) Wu).isSome=(decide _||(decide _||(decide _||(decide _||false)))):=I7 _ _;rw[a];generalize decide ([115,117,109]=bl s)=b1 at*;generalize decide ([109,97,120]=bl s)=b2 at*;generalize decide ([109,105,110]=bl s)=b3 at*;generalize decide ([99,111,117,110,116]=bl s)=b4 at*;cases b1
 .cases b2
  .cases b3
   .cases b4
    .go_enter func276,ntmps276;go_wp2;go_ret;exact⟨C,C⟩
    .go_enter func276,ntmps276;go_wp2;go_ret;exact⟨C,C⟩
   .go_enter func276,ntmps276;go_wp2;go_ret;exact⟨C,C⟩
  .go_enter func276,ntmps276;go_wp2;go_ret;exact⟨C,C⟩
 .go_enter func276,ntmps276;go_wp2;go_ret;exact⟨C,C⟩
theorem Dp(s:BA)(w:World):
 CP 278 #[.string s] w λe u=>e=.returned (.bool (Y7 (bl s) WN).isSome)/\u=w:=by
 have e1:=Qy s [116,111,116,97,108];have e2:=Qy s [112,101,97,107];have e3:=Qy s [108,111,119];have e4:=Qy s [115,105,122,101];have e5:=Qy s [114,105,115,101];have a:Hid<|(Y7 (bl s) WN).isSome=(decide _||(decide _||(decide _||(decide _||(decide _||false))))):=I7 _ _;rw[a];generalize decide ([116,111,116,97,108]=bl s)=b1 at*;generalize decide ([112,101,97,107]=bl s)=b2 at*;generalize decide ([108,111,119]=bl s)=b3 at*;generalize decide ([115,105,122,101]=bl s)=b4 at*;generalize decide ([114,105,115,101]=bl s)=b5 at*;cases b1
 .cases b2
  .cases b3
   .cases b4
    .cases b5
     .go_enter func278,ntmps278;go_wp2;go_ret;exact⟨C,C⟩
     .go_enter func278,ntmps278;go_wp2;go_ret;exact⟨C,C⟩
    .go_enter func278,ntmps278;go_wp2;go_ret;exact⟨C,C⟩
   .go_enter func278,ntmps278;go_wp2;go_ret;exact⟨C,C⟩
  .go_enter func278,ntmps278;go_wp2;go_ret;exact⟨C,C⟩
 .go_enter func278,ntmps278;go_wp2;go_ret;exact⟨C,C⟩
theorem uZ(s:BA)(w:World):
 CP 298 #[.string s] w λe u=>e=.returned (.bool<|!decide (UD=bl s)&&!decide (UZ=bl s)&&!(Y7 (bl s) Wu).isSome&&!(Y7 (bl s) WN).isSome)/\u=w:=by
 have e1:=Qy s [111,114];have e2:=Qy s [98,121];have a:=I<|Dl s;have c:=I<|Dp s;show Calls _ _ _ _ λe u=>e=.returned (.bool<|!decide ([111,114]=bl s)&&!decide ([98,121]=bl s)&&!(Y7 (bl s) Wu).isSome&&!(Y7 (bl s) WN).isSome)/\u=w;generalize decide ([111,114]=bl s)=b1 at*;generalize decide ([98,121]=bl s)=b2 at*;generalize(Y7 (bl s) Wu).isSome=b3 at*;generalize(Y7 (bl s) WN).isSome=b4 at*;cases b1<;>cases b2<;>cases b3<;>cases b4;all_goals
  go_enter func298,ntmps298;go_wp2_with(first|(go_at_call 276;refine YK (a.out _) ?_)|(go_at_call 278;refine YK (c.out _) ?_));go_ret;exact⟨C,C⟩

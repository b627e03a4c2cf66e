/- Parts. -/
import Derived.Test.YtkodhpilkaihjaaGreatDoorV01
set_option linter.all false
set_option maxRecDepth 100000
set_option maxHeartbeats 16000000
namespace Go.Proofs.YtkodhpilkaihjaaGreatDoor
open Go.RowKit LS Go.Proofs.Tryz
variable {x y:BA}{v:Bool}{c close:LB}{ts ts0 ts5:List Tok}{N a b n:Nat}{r r1 r3 rr:Out Unit}{W w w':World}
def ZJo:List (BA×BA×Bool)->List Value
 | []=>[]
 | (a,b,c)::l=>.string a::.string b::.bool c::ZJo l
def blC(c:BA×BA×Bool):LB×LB×Bool:=(bl c.1,bl c.2.1,c.2.2)
theorem ZKo(l m:List (BA×BA×Bool)):ZJo (l++m)=ZJo l++ZJo m:=by
 induction l with
 | nil=>rfl
 | cons a l ih=>obtain⟨x,y,z⟩:=a;simp[ZJo,ih]
theorem Zjr{k:Nat}{z:LB×List Tok}(a:k≠0)(h:ZH k ts=.ok z):z.2.length+1=ts.length/\z.1=(hd ts).txt/\z.2=ts.tail:=by
 unfold ZH at h;split at h
 ·rename_i e;injection h with h;subst h;cases ts with
  | nil=>exact absurd e.symm a
  | cons t r=>exact⟨rfl,rfl,rfl⟩
 ·cases h
theorem ZeB{z:Unit×List Tok}(h:Zq c ts=.ok z):z.2.length+1=ts.length:=by
 unfold Zq at h;split at h
 ·rename_i e;injection h with h;subst h;cases ts with
  | nil=>exact absurd (Or.inl rfl) (Zib e)
  | cons t r=>rfl
 ·cases h
theorem Zxj(e:isT c (hd ts)=true):ts.tail.length+1=ts.length:=by
 cases ts with
 | nil=>exact absurd (Or.inl rfl) (Zib e)
 | cons t r=>rfl
def ZJu{α β:Type}(item:List Tok->Out α)(close:LB)(f:β->α)(N:Nat)(ts0:List Tok)(qs:List β)(rr:Out Unit):Prop:=
 (∀e,rr=.error e->ZS item close N [] ts0=.error e)/\(∀ts,rr=.ok ((),ts)->∃m,ZS item close N [] ts0=ZS item close m (qs.map f) ts/\ts.length+1<=m/\qs.length+ts.length<=ts0.length)/\qs.length<=ts0.length+1
theorem ZJu.start{α β:Type}(item:List Tok->Out α)(close:LB)(f:β->α)(N:Nat)(ts0:List Tok)(a:ts0.length+1<=N):ZJu item close f N ts0 [] (.ok ((),ts0)):=
 ⟨fun e h=>(by cases h),fun ts h=>by injection h with h;injection h with _ h;subst h;exact⟨N,rfl,a,by simp⟩,by simp⟩
theorem ZJu.round{α β:Type}{item:List Tok->Out α}{f:β->α}{qs:List β}{x:β}{r4:Out Unit}(h:ZJu item close f N ts0 qs (.ok ((),ts)))(n:isT close (hd ts)=false)
  (d:(if qs.isEmpty then .ok ((),ts)else Zq [44] ts)=r1) (o:r4=bnd r1 fun _ t=>ZJm (item t)) (p:∀t z,r1=.ok ((),t)->item t=.ok z->f x=z.1) (q:∀t z,item t=.ok z->z.2.length+1<=t.length):ZJu item close f N ts0 (qs++[x]) r4:=by
 obtain⟨m,s,w,A⟩:=h.2.1 ts rfl;obtain⟨k,rfl⟩:∃k,m=k+1:=⟨m - 1,by omega⟩
 have c : ZS item close N [] ts0 = bnd r1 fun _ r => bnd (item r) fun a r => ZS item close k (qs.map f ++ [a]) r := by
   rw[s];show(if isT close (hd ts)then _ else _)=_;rw[n,<-d];have:(qs.map f).isEmpty=qs.isEmpty:=by cases qs <;> rfl
   rw[this];rfl
 have j:∀t,r1=.ok ((),t)->t.length<=ts.length:=by
  intro t u;rw[u]at d;split at d
  ·injection d with d;injection d with _ d;subst d;exact Yac _
  ·have:=ZeB d;simp at this;omega
 subst o;refine⟨?_,?_,?_⟩
 ·intro e b;cases g:r1 with
  | error y=>rw[g]at b c;injection b with b;rw[c,b];rfl
  | ok y=>
   obtain⟨⟨⟩,t⟩:=y;rw[g]at b c;cases i:item t with
   | error y=>rw[c];simp only[bnd,ZJm,i]at b ⊢;injection b with b;rw[b]
   | ok y=>simp[bnd,ZJm,i]at b
 ·intro t4 b;cases g:r1 with
  | error y=>rw[g]at b;simp[bnd]at b
  | ok y=>
   obtain⟨⟨⟩,t⟩:=y;have B:=j t g;have l:=fun z=>p t z g;rw[g]at b c;cases i:item t with
   | error y=>simp[bnd,ZJm,i]at b
   | ok y=>
    have v:=l y i;have C:=q t y i;simp only[bnd,ZJm,i]at b c;injection b with b;injection b with _ b;subst b;exact⟨k,by rw[c,Yaq,<-v];rfl,by omega,by simp;omega⟩
 ·simp;omega
theorem ZJu.done{α β:Type}{item:List Tok->Out α}{f:β->α}{qs:List β}(h:ZJu item close f N ts0 qs rr)(hd:isR close rr=true∨∃e,rr=.error e) :
  ZJm (ZS item close N [] ts0)=(bnd rr fun _ ts=>Zq close ts)/\∀z,ZS item close N [] ts0=.ok z->qs.map f=z.1:=by
 cases rr with
 | error e=>rw[h.1 e rfl];exact⟨rfl,fun z a=>(by cases a)⟩
 | ok y=>
  obtain⟨⟨⟩,ts⟩:=y;rcases hd with hd|⟨e,hd⟩
  ·obtain⟨m,c,d,g⟩:=h.2.1 ts rfl;obtain⟨k,rfl⟩:∃k,m=k+1:=⟨m - 1,by omega⟩
   have b:isT close (LS.hd ts)=true:=hd
   have e1:ZS item close (k+1) (qs.map f) ts=.ok (qs.map f,ts.tail):=by
    show(if isT close (LS.hd ts)then _ else _)=_;rw[b];rfl
   rw[c,e1];refine⟨?_,fun z a=>by injection a with a;subst a;rfl⟩;show _=Zq close ts;unfold Zq;rw[b];rfl
  ·cases hd
theorem Zos(t:List Tok)(z:(LB×LB×Bool)×List Tok)(h:ZV t=.ok z):z.2.length+1<=t.length:=by
 unfold ZV at h;cases c:ZH 2 t with
 | error e=>rw[c]at h;cases h
 | ok y=>
  have l1:=(Zjr Dc c).1;rw[c]at h;simp only[bnd]at h;cases a:Zdc y.2 with
  | error e=>rw[a]at h;cases h
  | ok u=>
   have l2:u.2.length<=y.2.length:=by
    unfold Zdc at a;split at a
    ·injection a with a;subst a;simp
    ·cases b:Zq [61] y.2 with
     | error e=>rw[b]at a;cases a
     | ok q=>rw[b]at a;injection a with a;subst a;have:=ZeB b;show q.2.length<=_;omega
   rw[a]at h;simp only at h;cases b:ZH 3 u.2 with
   | error e=>rw[b]at h;cases h
   | ok q=>
    have l3:=(Zjr Dc b).1;rw[b]at h;injection h with h;subst h;show q.2.length+1<=_;omega
theorem ZKk  {x1 x2 : BA}  (f : isR [33, 61] (bnd r1 fun _ t => ZJm (ZH 2 t)) = v) 
    (g:r3=if v then (bnd (bnd r1 fun _ t=>ZJm (ZH 2 t)) fun _ ts=>.ok ((),ts.tail))else bnd (bnd r1 fun _ t=>ZJm (ZH 2 t)) fun _ ts=>Zq [61] ts)
    (m:∀y,r1=.ok y->∀z,ZH 2 y.2=.ok z->bl x1=z.1) (o:∀y,r3=.ok y->∀z,ZH 3 y.2=.ok z->bl x2=z.1) :
    (bnd r3 fun _ t=>ZJm (ZH 3 t))=(bnd r1 fun _ t=>ZJm (ZV t))/\∀t z,r1=.ok ((),t)->ZV t=.ok z->blC (x1,x2,v)=z.1:=by
  cases r1 with
  | error e=>
    have:v=false:=f.symm;subst this;subst g;exact⟨rfl,fun t z h=>(by cases h)⟩
  | ok y=>
    obtain⟨⟨⟩,t⟩:=y;cases d:ZH 2 t with
    | error e=>
      simp only[bnd,ZJm,d]at f g;have:v=false:=f.symm;subst this;subst g;refine⟨by simp[bnd,ZJm,ZV,d],fun t2 z h c=>?_⟩;injection h with h;injection h with _ h;subst h;simp[ZV,d,bnd]at c
    | ok y=>
      have j:=m _ rfl _ d;simp only[bnd,ZJm,d]at f g;have p:isT [33,61] (hd y.2)=v:=f
      have w : Zdc y.2 = bnd r3 fun _ t => .ok (v, t) := by
        unfold Zdc;rw[p,g];cases v
        · rfl
        · rfl
      have s : ZV t = bnd r3 fun _ r => bnd (ZH 3 r) fun b r => .ok ((y.1, b, v), r) := by
        unfold ZV;rw[d];show(bnd (Zdc y.2) fun n r=>bnd (ZH 3 r) fun b r=>.ok ((y.1,b,n),r))=_;rw[w];cases r3 with
        | error e=>rfl
        | ok u=>rfl
      refine⟨?_,fun t2 z h c=>?_⟩
      · show _=ZJm (ZV t)
        rw[s];cases r3 with
        | error e=>rfl
        | ok u=>
          show ZJm (ZH 3 u.2)=ZJm (bnd (ZH 3 u.2) fun b r=>.ok ((y.1,b,v),r));cases ZH 3 u.2 with
          | error e=>rfl
          | ok q=>rfl
      · injection h with h;injection h with _ h;subst h
        rw[s]at c;cases i:r3 with
        | error e=>rw[i]at c;cases c
        | ok u=>
          rw[i]at c;have a:(bnd (ZH 3 u.2) fun b r=>(.ok ((y.1,b,v),r):Out (LB×LB×Bool)))=.ok z:=c;cases k:ZH 3 u.2 with
          | error e=>rw[k]at a;cases a
          | ok q=>
            have l:=o u i _ k;rw[k]at a;injection a with a;subst a;show(bl x1,bl x2,v)=(y.1,q.1,v)
            rw[j,l]
theorem ZKp:split 32 (bl ⟨#[115,117,109,32,109,97,120,32,109,105,110,32,99,111,117,110,116]⟩)=ZW:=by decide
theorem ZKr:split 32 (bl ⟨#[116,111,116,97,108,32,112,101,97,107,32,108,111,119,32,115,105,122,101,32,114,105,115,101]⟩)=Z0:=by decide
theorem ZK2{w:LB}{l:List (LB)}:(0<=idxI w l ↔ (idx w l).isSome=true):=by
 unfold idxI;cases idx w l with
 | none=>simp
 | some i=>simp
def pv0(k:Int):PV:=⟨k,0,0,⟨#[]⟩,none,0,0,none,0,0,0,0⟩
theorem ZNS{y:World}{o0 o1:Obj}(a:Below ((w.alloc o0).alloc o1).heap.size ((w.alloc o0).alloc o1) y) :
  y.heap[w.heap.size]?=some o0/\y.heap[w.heap.size+1]?=some o1/\BW w y/\w.heap.size+1+1<=y.heap.size:=by
 have c:((w.alloc o0).alloc o1).heap.size=w.heap.size+1+1:=by rw[Go.Deep.nblk_alloc,Go.Deep.nblk_alloc]
 have b:=a.size;rw[c]at b
 have e0:((w.alloc o0).alloc o1).heap[w.heap.size]?=some o0:=by
  rw[Go.Deep.blk_alloc_lt _ _ _ (by rw[Go.Deep.nblk_alloc];omega)];exact Go.Deep.blk_alloc_new _ _
 have e1:((w.alloc o0).alloc o1).heap[w.heap.size+1]?=some o1:=by
  have:=Go.Deep.blk_alloc_new (w.alloc o0) o1;rwa [Go.Deep.nblk_alloc]at this
 refine⟨(a.block _ Om).trans e0,(a.block _ Om).trans e1,?_,b⟩
 exact ⟨a.os, a.tape, a.output, by omega, fun k d => (a.block k Om).trans (by
   rw[Go.Deep.blk_alloc_lt _ _ _ (by rw[Go.Deep.nblk_alloc];omega),Go.Deep.blk_alloc_lt _ _ _ d])⟩
def ZJJ(_:Unit)(ts:List Tok):Out Unit:=if Zgp (hd ts)then .error (2,(hd ts).at_)else .ok ((),ts)
theorem ZM0{q:QV}(b:∀x,r=.ok x->q.e=0/\ZJB q=hd x.2)(a:(decide (0<=idxI (bl q.tx) ZW) || decide (0<=idxI (bl q.tx) Z0) || isR wOr r || isR wBy r)=v) :
  bnd r ZJJ=if v then bnd r (fun _ ts=>.error (2,(hd ts).at_))else r:=by
 cases r with
 | error x=>cases v <;> rfl
 | ok x=>
  have h:=(b x rfl).2;have c:bl q.tx=(hd x.2).txt:=by rw[<-h];rfl
  rw[c]at a
  have e:Zgp (hd x.2)=v:=by
   rw[<-a];unfold Zgp isR
   have e1:decide (0<=idxI (hd x.2).txt ZW)=(idx (hd x.2).txt ZW).isSome:=by
    rw[Ybh,decide_eq_true_iff];exact ZK2
   have e2:decide (0<=idxI (hd x.2).txt Z0)=(idx (hd x.2).txt Z0).isSome:=by
    rw[Ybh,decide_eq_true_iff];exact ZK2
   rw[e1,e2]
  show ZJJ () x.2=_;unfold ZJJ;rw[e];cases v <;> rfl
theorem Tryz.infoCond:(Tryz.prog.info? 372).map (fun i=>(i.zero,i.size,i.bytes))=some (some (.agg #[.string ByteArray.empty,.string ByteArray.empty,.bool false]),3,40):=by kernel_rfl
def CAt(w:World)(a:Nat)(x y:BA)(v:Bool):Prop:=w.heap[a]?=some (.cells #[.string x,.string y,.bool v] 372 (0,0))
theorem CAt.lt(h:CAt w a x y v):a<w.heap.size:=(Yae.1 h).1
theorem CAt.all(h:CAt w a x y v):w.cell? ⟨a,0,none⟩=some (.string x)/\w.cell? ⟨a,1,none⟩=some (.string y)/\w.cell? ⟨a,2,none⟩=some (.bool v):=by
 unfold CAt at h;refine⟨?_,?_,?_⟩ <;> simp[World.cell?,h]
theorem CAt.frozen(h:CAt w a x y v)(o:Nat):w.frozen? ⟨a,o,none⟩=false:=by
 unfold CAt at h;simp[World.frozen?,h]
theorem CAt.grown{r:Option Nat}(h:CAt w a x y v)(b:w.grownBy w' r)(c:some a≠r):CAt w' a x y v:=(b.block a h.lt c).trans h
theorem ZdA{base:Nat}{e:TypeId}{size:Nat}{v:Value}{xs:List Value}(h:w.ownsRow base e size v n xs)(a:∀k,v.ownBlock=some k->w'.heap[k]?=w.heap[k]?):w'.ownsRow base e size v n xs:=by
 refine⟨h.1,?_⟩;rcases h.2 with b|⟨g,cap,cur,rfl,c,d,r⟩
 ·exact Or.inl b
 ·exact Or.inr ⟨g,cap,cur,rfl,c,(a g rfl).trans d,r⟩
theorem ZKj{a b c:Value}{t:TypeId}(d:W.heap.size=n):∀j x,[a,b,c][j]?=some x->(W.alloc (.cells #[a,b,c] t)).cell? ((⟨n,0,none⟩:Addr).add j)=some x:=by
 intro j x e;subst d;rw[ZfO];have h:=Go.Deep.blk_alloc_new W (.cells #[a,b,c] t);simp only[World.cell?,h];simpa using e
theorem ZKd{a:World}{r:Option Nat}(h:a.grownBy w (some b))(c:w.grownBy w' r)(f:∀k,r=some k->a.heap.size<=k):a.grownBy w' (some b):=
 ⟨c.os.trans h.os,c.tape.trans h.tape,c.output.trans h.output,Yah h.size c.size,fun k d g=>(c.block k (Yaw d h.size) (fun e=>by have:=f k e.symm;omega)).trans (h.block k d g)⟩
def ZJF(w:World)(a:Addr):Nat:=match w.cell? a with
 | some (.slice _ n _)=>n
 | _=>0
def ZJq(w:World)(base:Nat)(p:PV)(cs:List (LB×LB×Bool)):Prop:=∃qs:List (BA×BA×Bool),w.ownsRow base 372 3 (.slice p.ca p.cn p.cc) qs.length (ZJo qs)/\qs.map blC=cs
def ZKO(w:World)(base:Nat)(p:PV)(nd:Nd):Prop:=p=⟨1,0,0,p.nm,p.ca,p.cn,p.cc,none,0,0,0,0⟩/\nd=⟨1,0,0,bl p.nm,nd.jn,[]⟩/\ZJq w base p nd.jn
theorem ZJq.nil(w:World)(base:Nat)(p:PV)(a:p.ca=none)(b:p.cn=0)(c:p.cc=0):ZJq w base p []:=⟨[],by rw[a,b,c];exact Ybc _ _ _ _,rfl⟩
theorem ZLi  (d : isR [123] (bnd (bnd r ZJJ) fun _ ts => ZJm (ZH 2 ts)) = false) : (bnd (bnd r ZJJ) fun _ ts => ZJm (ZH 2 ts)) = (bnd r fun _ ts => ZJm (selP ts)) /\
    (∀y,r=.ok y->∀z,selP y.2=.ok z->bnd r ZJJ=.ok y/\∃a,ZH 2 y.2=.ok (a,z.2)/\z.1=⟨1,0,0,a,[],[]⟩):=by
  cases r with
  | error x=>exact⟨rfl,fun y b=>(by cases b)⟩
  | ok x=>
    simp only[bnd]at d ⊢;unfold ZJJ at d ⊢;unfold selP ZdQ;cases f:Zgp (hd x.2)with
    | true=>exact⟨by simp[bnd,ZJm],fun y b z c=>by injection b with b;subst b;rw[f]at c;simp[bnd]at c⟩
    | false=>
      simp only[f,Yde,if_false]at d ⊢;cases g:ZH 2 x.2 with
      | error e=>exact⟨rfl,fun y b z c=>by injection b with b;subst b;rw[f]at c;simp[g,bnd]at c⟩
      | ok k=>
        obtain⟨a,t⟩:=k;rw[g]at d;have h:isT [123] (hd t)=false:=d;refine⟨by simp[bnd,ZJm,h],fun y b z c=>?_⟩;injection b with b;subst b;rw[f]at c;simp[g,bnd,h]at c;subst c;exact⟨rfl,a,g,rfl⟩
theorem ZNC   (b : (bnd (bnd r ZJJ) fun _ ts => ZJm (ZH 2 ts)) = .ok ((), ts5)) (g : isT [123] (hd ts5) = true) :
    (bnd r fun _ ts=>ZJm (selP ts))=ZJm (ZS ZV [125] ts5.length [] ts5.tail)/\
    (∀y,r=.ok y->∀z,selP y.2=.ok z->bnd r ZJJ=.ok y/\∃a cs,ZH 2 y.2=.ok (a,ts5)/\ZS ZV [125] ts5.length [] ts5.tail=.ok (cs,z.2)/\z.1=⟨1,0,0,a,cs,[]⟩):=by
  cases r with
  | error x=>cases b
  | ok x=>
    simp only[bnd]at b ⊢;unfold ZJJ at b ⊢;unfold selP ZdQ;cases h:Zgp (hd x.2)with
    | true=>rw[h]at b;simp at b
    | false=>
      simp only[h,Yde,if_false]at b ⊢;cases f:ZH 2 x.2 with
      | error e=>rw[f]at b;cases b
      | ok k=>
        obtain⟨a,t⟩:=k;rw[f]at b;have j:t=ts5:=by simp[ZJm,bnd]at b;exact b
        subst j;cases i:ZS ZV [125] t.length [] t.tail with
        | error e=>exact⟨by simp[bnd,ZJm,g,i],fun y c z d=>by injection c with c;subst c;rw[h]at d;simp[f,bnd,g,i]at d⟩
        | ok q=>
          refine⟨by simp[bnd,ZJm,g,i],fun y c z d=>?_⟩;injection c with c;subst c;rw[h]at d;simp[f,bnd,g,i]at d;subst d;exact⟨rfl,a,q.1,f,rfl,rfl⟩
theorem ZLc{pv:Value}{s:BA}{deep:Nat}(h:St w b pv s deep r)(hs:s.size<=6000) :
  CP 319 #[Vp b] w fun e w' => ∃ p : PV, e = .returned (.agg #[Vi p.k, Vi p.n, Vi p.op, .string p.nm, .slice p.ca p.cn p.cc, .slice p.ba p.bn p.bc, Vi p.a, Vi p.b]) /\ St w' b pv s deep (bnd r fun _ ts => ZJm (selP ts)) /\
    Hid (∀y,r=.ok y->∀z,selP y.2=.ok z->ZKO w' w.heap.size p z.1)/\w.grownBy w' (some b):=by
 have n6:=h.lt;obtain⟨q,hq,_,_,i4,f9⟩:=h.view;obtain⟨c0,c1,c2,c3,c4,c5,c6,c7,c8⟩:=hq.all;have HS:Hid (St w b pv s deep r):=h;have HO:Hid (∀x,r=.ok x->q.e=0/\ZJB q=hd x.2):=f9;clear h hq i4 f9 c0 c1 c2 c3 c5 c6 c7 c8;go_enter func319,ntmps319
 go_wp2_with fail
 refine(ZJY Dc).mono ?_;rintro e w1 ⟨rfl,n7⟩;rw[ZKp];obtain⟨e0,e1,i5,e6⟩:=ZNS n7;clear n7;have d4:w1.cell? ⟨b,4,none⟩=some (.string q.tx):=(i5.cell (p:=⟨b,4,none⟩) n6).trans c4
 go_wp2_with fail
 refine(ZJY Dc).mono ?_;rintro e w2 ⟨rfl,g0⟩;rw[ZKr];have j5:BW w w2:=i5.trans (g0.mono i5.size);have j6:Hid (PAt w2 w.heap.size (pv0 0)):=(g0.block _ Om).trans e0;have j7:Hid (PAt w2 (w.heap.size+1) (pv0 1)):=(g0.block _ Om).trans e1;have g1:Hid (St w2 b pv s deep r):=St.kept HS.out (j5.block b n6);have j8:Hid (w.grownBy w2 (some b)):=Zw j5;have p5:w.heap.size+1+1<=w2.heap.size:=Yah e6 g0.size;clear g0 e0 e1 i5 j5 c4 d4
 go_wp2_with fail
 refine(St.is g1.out _).mono ?_;rintro e w3 ⟨rfl,rfl⟩
 go_wp2_with fail
 refine(St.is g1.out _).mono ?_;rintro e w3 ⟨rfl,rfl⟩;obtain⟨v,hv⟩:∃v,(decide (0<=idxI (bl q.tx) ZW) || decide (0<=idxI (bl q.tx) Z0) || isR wOr r || isR wBy r)=v:=⟨_,rfl⟩
 have HV:Hid (bnd r ZJJ=if v then bnd r (fun _ ts=>.error (2,(hd ts).at_))else r):=ZM0 HO.out hv;have d7:Hid _:=hv;clear hv HO;rw[show bl ⟨#[111,114]⟩=wOr from rfl,show bl ⟨#[98,121]⟩=wBy from rfl];generalize idxI (bl q.tx) ZW=ia at d7 ⊢;generalize idxI (bl q.tx) Z0=ib at d7 ⊢;generalize isR wOr r=ic at d7 ⊢;generalize isR wBy r=id at d7 ⊢
 go_upto_region 6 with fail
 go_cut [39] (fun s39 wx=>s39=.bool v/\wx=w3)
 case first=>
  by_cases ha:0<=ia
  ·go_wp2
   go_meet
   exact⟨by rw[<-d7.out,decide_eq_true ha];rfl,rfl⟩
  ·by_cases hb:0<=ib
   ·go_wp2
    go_meet
    exact⟨by rw[<-d7.out,decide_eq_false (show ¬0<=ia by omega),decide_eq_true hb];rfl,rfl⟩
   ·cases ic <;> cases id <;> (go_wp2;go_meet;exact⟨by rw[<-d7.out,decide_eq_false (show ¬0<=ia by omega),decide_eq_false (show ¬0<=ib by omega)];rfl,rfl⟩)
 case rest=>
 obtain⟨rfl,rfl⟩:=hcut;clear d7
 go_upto_if 39 with fail
 go_cut [] (fun wx=>Hid (St wx b pv s deep (bnd r ZJJ))/\Hid (PAt wx w.heap.size (pv0 0))/\Hid (PAt wx (w.heap.size+1) (pv0 1))/\Hid (w.grownBy wx (some b)))
 case first=>
  cases v
  ·go_wp2
   go_meet
   exact⟨by rw[HV.out];exact g1,j6,j7,j8⟩
  ·go_wp2_with fail
   refine(St.fail g1.out 2 _ rfl Dc).mono ?_;rintro e w4 ⟨rfl,g,d⟩;have o9:Hid _:=g;have j9:Hid _:=d;clear g d;go_wp2
   go_meet
   refine⟨by rw[HV.out];exact o9,PAt.grown j6.out j9.out (by simp;omega),PAt.grown j7.out j9.out (by simp;omega),Zj j8.out j9.out⟩
 case rest=>
 obtain⟨n8,k8,g8,n9⟩:=hcut;clear g1 j6 j7 j8 HV HS;have p6:w.heap.size+1<wc.heap.size:=PAt.lt g8.out
 go_wp2_with fail
 refine(St.jj n8.out hs 2 _ rfl Dc).mono ?_;rintro e w5 ⟨x,rfl,g,hx,d⟩;have o0:PAt w5 w.heap.size (pv0 0):=PAt.grown k8.out d (by simp;omega);have i6:PAt w5 (w.heap.size+1) (pv0 1):=PAt.grown g8.out d (by simp;omega);obtain⟨k0,k1,k2,k3,k4,k5,k6,k7⟩:=i6.all;have g3:=i6.frozen 3;have e7:Hid (St (w5.setCell ⟨w.heap.size+1,3,none⟩ (.string x)) b pv s deep (bnd (bnd r ZJJ) fun _ ts=>ZJm (ZH 2 ts))):=St.kept g (Go.Deep.blk_setCell_other _ _ _ _ (by show b≠w.heap.size+1;omega));have P:Hid (PAt (w5.setCell ⟨w.heap.size+1,3,none⟩ (.string x)) w.heap.size (pv0 0)):=PAt.kept o0 (Go.Deep.blk_setCell_other _ _ _ _ (by show w.heap.size≠w.heap.size+1;omega));have e8:Hid (PAt (w5.setCell ⟨w.heap.size+1,3,none⟩ (.string x)) (w.heap.size+1) { pv0 1 with nm:=x }):=PAt.setNm i6 x;have i7:Hid (w.grownBy (w5.setCell ⟨w.heap.size+1,3,none⟩ (.string x)) (some b)):=ZA (Zj n9.out d) (Or.inr (by show w.heap.size<=w.heap.size+1;omega)) _;clear n8 k8 g8 n9 o0 i6 d g
 go_wp2_with fail
 clear k0 k1 k2 k3 k4 k5 k6 k7 g3;generalize w5.setCell ⟨w.heap.size+1,3,none⟩ (.string x)=w6 at e7 P e8 i7 ⊢;refine(St.is e7.out _).mono ?_;rintro e w7 ⟨rfl,rfl⟩;rw[show bl ⟨#[123]⟩=[123] from rfl];cases ho:isR [123] (bnd (bnd r ZJJ) fun _ ts=>ZJm (ZH 2 ts))
 ·obtain⟨k0,k1,k2,k3,k4,k5,k6,k7⟩:=PAt.all e8.out;obtain⟨l0,l1,l2,l3,l4,l5,l6,l7⟩:=PAt.all P.out;have f0:=PAt.frozen P.out 0;have f1:=PAt.frozen P.out 1;have f2:=PAt.frozen P.out 2;have f3:=PAt.frozen P.out 3;have f4:=PAt.frozen P.out 4;have f5:=PAt.frozen P.out 5;have f6:=PAt.frozen P.out 6;have f7:=PAt.frozen P.out 7;have o1:Hid _:=ho;clear ho;have HE:Hid (∃W,W=ZJV w7 w.heap.size { pv0 1 with nm:=x }/\PAt W w.heap.size { pv0 1 with nm:=x }):=⟨_,rfl,ZKT P.out⟩
  go_wp2;obtain⟨W,hW,hp⟩:=HE.out;have d9:=hW;unfold ZJV at d9;rw[<-d9];clear d9 k0 k1 k2 k3 k4 k5 k6 k7 l0 l1 l2 l3 l4 l5 l6 l7 f0 f1 f2 f3 f4 f5 f6 f7;obtain⟨m0,m1,m2,m3,m4,m5,m6,m7⟩:=hp.all;refine bodyPost_ret (v:=.agg #[Vi 1,Vi 0,Vi 0,.string x,S0,S0,Vi 0,Vi 0]) (by simp[results,results319,go_sem,m0,m1,m2,m3,m4,m5,m6,m7,pv0]) rfl ⟨{ pv0 1 with nm:=x },rfl,?_,?_,?_⟩
  all_goals subst hW
  ·rw[<-(ZLi o1.out).1];exact St.kept e7.out (ZKx w7 w.heap.size { pv0 1 with nm:=x } b Om)
  ·intro y hy z hz;obtain⟨h1,a,h2,h3⟩:=(ZLi o1.out).2 y hy z hz;have h4:bl x=a:=hx.out y h1 _ h2;rw[h3];exact⟨rfl,by rw[<-h4],ZJq.nil _ _ _ rfl rfl rfl⟩
  ·exact ZKU (a:=w.heap.size) i7.out (Yac _) { pv0 1 with nm:=x }
 ·obtain⟨ts5,g2,k9,i8⟩:=ZKA ho;have o2:Hid _:=ZNC g2 k9;have p3:=Zxj k9
  have p4:ts5.length<=6002:=by
   have h:=e7.out;rw[g2]at h;have:=St.len h;simp at this;omega
  clear ho
  go_wp2_with fail
  refine(St.next e7.out hs ⟨ts5,g2,i8⟩).mono ?_;rintro e w8 ⟨rfl,g,d⟩;rw[g2]at g;have o3:Hid (St w8 b pv s deep (.ok ((),ts5.tail))):=g;have o4:Hid (PAt w8 w.heap.size (pv0 0)):=PAt.grown P.out d (by simp;omega);have o5:Hid (PAt w8 (w.heap.size+1) ⟨1,0,0,x,none,0,0,none,0,0,0,0⟩):=PAt.grown e8.out d (by simp;omega);have p0:Hid (w.grownBy w8 (some b)):=Zj i7.out d;clear g d e7 P e8 i7 g2 k9 i8
  go_wp2_with fail
  refine(St.is o3.out _).mono ?_;rintro e w9 ⟨rfl,rfl⟩;rw[show bl ⟨#[125]⟩=[125] from rfl];obtain⟨i0,hi,i9,e6,e9⟩:=info_parts Tryz.infoCond;go_wp2
  go_loopw [9] (fun v9 wr => ∃ (qs : List (BA × BA × Bool)) (ca : Option Addr) (cc : Nat) (rr : Out Unit), v9 = .bool (isR [125] rr) /\ Hid (St wr b pv s deep rr) /\ Hid (PAt wr w.heap.size (pv0 0)) /\
    Hid (PAt wr (w.heap.size+1) ⟨1,0,0,x,ca,qs.length,cc,none,0,0,0,0⟩)/\Hid (wr.ownsRow w.heap.size 372 3 (.slice ca qs.length cc) qs.length (ZJo qs))/\Hid (w.grownBy wr (some b))/\Hid (ZJu ZV [125] blC ts5.length ts5.tail qs rr))
    (fun _ wr=>ts5.length+2 - ZJF wr ⟨w.heap.size+1,4,none⟩)
  case atStart=>exact⟨[],none,0,.ok ((),ts5.tail),rfl,o3,o4,o5,Ybc _ _ _ _,p0,ZJu.start _ _ _ _ _ Om⟩
  case round=>
   obtain⟨qs,ca,cc,rr,rfl,d5,d6,b8,d8,e2,b4⟩:=hrel;obtain⟨qr,l8,_,_,i4,f9⟩:=St.view d5.out;have c7:=(QAt.all l8).2.2.2.2.2.2.2.1;have g9:=l8.lt
   have o6:((isR [125] rr=true∨(isR [125] rr=false/\((qr.e:Int) == 0)=false))/\(isR [125] rr=true∨∃e,rr=.error e))∨(isR [125] rr=false/\((qr.e:Int) == 0)=true/\∃ts,rr=.ok ((),ts)/\isT [125] (hd ts)=false):=by
    cases rr with
    | error e=>exact Or.inl ⟨Or.inr ⟨rfl,by rw[beq_eq_false_iff_ne];have:=(i4 e rfl).2.1;omega⟩,Or.inr ⟨e,rfl⟩⟩
    | ok y=>
     obtain⟨⟨⟩,ts⟩:=y;have h0:=(f9 _ rfl).1;cases hc:isT [125] (hd ts)
     ·exact Or.inr ⟨hc,by rw[h0];rfl,ts,rfl,hc⟩
     ·exact Or.inl ⟨Or.inl hc,Or.inl hc⟩
   clear l8 i4 f9;rcases o6 with ⟨j0,l9⟩|⟨p1,p7,ts,p2,j1⟩
   ·have m8:Hid _:=ZJu.done b4.out l9;clear l9;generalize isR [125] rr=v9 at j0;rcases j0 with rfl|⟨rfl,he⟩
    all_goals
     go_wp2_with fail
     refine(St.take d5.out hs _).mono ?_;rintro e K ⟨rfl,g,d⟩;rw[show bl ⟨#[125]⟩=[125] from rfl]at g;have b5:Hid _:=g;have F:Hid (PAt K w.heap.size (pv0 0)):=PAt.grown d6.out d (by simp;omega);have b9:Hid (PAt K (w.heap.size+1) ⟨1,0,0,x,ca,qs.length,cc,none,0,0,0,0⟩):=PAt.grown b8.out d (by simp;omega)
     have b6 : Hid (K.ownsRow w.heap.size 372 3 (.slice ca qs.length cc) qs.length (ZJo qs)) := Yf6 d8.out d (Or.inr (fun h => by
       obtain⟨qq,m9,_⟩:=St.view d5.out;exact Zcx d8.out m9 Dc h.symm))
     have b7:Hid (w.grownBy K (some b)):=Zj e2.out d;clear g d d5 d6 b8 d8 e2 b4 c7;obtain⟨k0,k1,k2,k3,k4,k5,k6,k7⟩:=PAt.all b9.out;obtain⟨l0,l1,l2,l3,l4,l5,l6,l7⟩:=PAt.all F.out;have f0:=PAt.frozen F.out 0;have f1:=PAt.frozen F.out 1;have f2:=PAt.frozen F.out 2;have f3:=PAt.frozen F.out 3;have f4:=PAt.frozen F.out 4;have f5:=PAt.frozen F.out 5;have f6:=PAt.frozen F.out 6;have f7:=PAt.frozen F.out 7;have HE:Hid (∃W,W=ZJV K w.heap.size ⟨1,0,0,x,ca,qs.length,cc,none,0,0,0,0⟩/\PAt W w.heap.size ⟨1,0,0,x,ca,qs.length,cc,none,0,0,0,0⟩):=⟨_,rfl,ZKT F.out⟩
     go_wp2;obtain⟨W,hW,hp⟩:=HE.out;have d9:=hW;unfold ZJV at d9;rw[<-d9];clear d9 k0 k1 k2 k3 k4 k5 k6 k7 l0 l1 l2 l3 l4 l5 l6 l7 f0 f1 f2 f3 f4 f5 f6 f7;obtain⟨m0,m1,m2,m3,m4,m5,m6,m7⟩:=hp.all;refine bodyPost_ret (v:=.agg #[Vi 1,Vi 0,Vi 0,.string x,.slice ca qs.length cc,S0,Vi 0,Vi 0]) (by simp[results,results319,go_sem,m0,m1,m2,m3,m4,m5,m6,m7]) rfl ⟨⟨1,0,0,x,ca,qs.length,cc,none,0,0,0,0⟩,rfl,?_,?_,?_⟩
     all_goals subst hW
     ·rw[o2.1,m8.1];exact St.kept b5.out (ZKx K w.heap.size _ b Om)
     ·intro y hy z hz;obtain⟨h1,a,cs,h2,h3,h4⟩:=o2.2 y hy z hz;have h5:bl x=a:=hx.out y h1 _ h2;have h6:=m8.2 _ h3;rw[h4];refine⟨rfl,by rw[<-h5],qs,ZdA b6.out ?_,h6⟩;intro k S;refine ZKx _ _ _ _ ?_;rintro rfl;exact Zcx b6.out F.out Dc S.symm
     ·exact ZKU (a:=w.heap.size) b7.out (Yac _) _
   ·subst p2;have j2:qs.length<=6004:=by have:=b4.2.2;omega
    have n0:some b≠(Value.slice ca qs.length cc).ownBlock:=by
     obtain⟨qq,m9,_⟩:=St.view d5.out;exact Zcx d8.out m9 Dc
    have T:Hid _:=n0;clear n0;have k4:=(PAt.all b8.out).2.2.2.2.1;have n1:=e2.size;have j3:Hid (ZJF wr ⟨w.heap.size+1,4,none⟩=qs.length):=hid (by unfold ZJF;rw[k4]);rw[p1];by_cases j4:qs.length=0
    ·obtain⟨r1,e3⟩:∃r1:Out Unit,r1=.ok ((),ts):=⟨_,rfl⟩
     have g4:Hid ((if qs.isEmpty then .ok ((),ts)else Zq [44] ts)=r1):=hid (by rw[e3,Ygc.1 j4];rfl);have b5:Hid (St wr b pv s deep r1):=by rw[e3];exact d5
     have i1:decide (0<(qs.length:Int))=false:=decide_eq_false Om;clear e3;have F:=d6;have b9:=b8;have b6:=d8;have b7:=e2;clear d6 b8 d8 e2 d5;obtain⟨K,o7⟩:∃K,K=wr:=⟨_,rfl⟩
     subst o7;have n2:b<K.heap.size:=g9;have n5:w.heap.size<=K.heap.size:=n1;clear g9 n1
     go_wp2_with fail
     clear j4 i1;refine(St.jj b5.out hs 2 _ rfl Dc).mono ?_;rintro e c ⟨x1,rfl,g,g5,d⟩;have Q:Hid (St c b pv s deep (bnd r1 fun _ t=>ZJm (ZH 2 t))):=g;have b1:Hid (PAt c w.heap.size (pv0 0)):=PAt.grown F.out d (by simp;omega);have U:Hid (PAt c (w.heap.size+1) ⟨1,0,0,x,ca,qs.length,cc,none,0,0,0,0⟩):=PAt.grown b9.out d (by simp;omega);have R:Hid (c.ownsRow w.heap.size 372 3 (.slice ca qs.length cc) qs.length (ZJo qs)):=Yf6 b6.out d (Or.inr (fun h=>T.out h.symm));have b2:Hid (w.grownBy c (some b)):=Zj b7.out d;have b3:b<c.heap.size:=St.lt Q.out;have o8:w.heap.size+1<c.heap.size:=PAt.lt U.out;clear g d b5 F b9 b6 b7
     go_wp2_with fail
     refine(St.is (St.kept Q.out (Go.Deep.blk_alloc_lt _ _ _ b3)) _).mono ?_;rintro e wy ⟨rfl,rfl⟩;rw[show bl ⟨#[33,61]⟩=[33,61] from rfl];obtain⟨v,hv⟩:∃v,isR [33,61] (bnd r1 fun _ t=>ZJm (ZH 2 t))=v:=⟨_,rfl⟩
     rw[hv];have HV:Hid _:=hv;clear hv;cases v
     ·go_wp2_with fail
      refine(St.take (St.kept Q.out (Go.Deep.blk_alloc_lt _ _ _ b3)) hs _).mono ?_;rintro e o ⟨rfl,g,d⟩;rw[show bl ⟨#[61]⟩=[61] from rfl]at g;obtain⟨r3,V⟩:∃r3:Out Unit,r3=(bnd (bnd r1 fun _ t=>ZJm (ZH 2 t)) fun _ ts=>Zq [61] ts):=⟨_,rfl⟩
      have X:Hid (St o b pv s deep r3):=by rw[V];exact g
      have e4:Hid (r3=if false then (bnd (bnd r1 fun _ t=>ZJm (ZH 2 t)) fun _ ts=>.ok ((),ts.tail))else bnd (bnd r1 fun _ t=>ZJm (ZH 2 t)) fun _ ts=>Zq [61] ts):=V;have G:Hid (CAt o c.heap.size x1 ⟨#[]⟩ false):=CAt.grown (Go.Deep.blk_alloc_new _ _) d (by simp;omega);have Y:Hid (PAt o w.heap.size (pv0 0)):=PAt.grown (PAt.kept b1.out (Go.Deep.blk_alloc_lt _ _ _ Om)) d (by simp;omega);have Z:Hid (PAt o (w.heap.size+1) ⟨1,0,0,x,ca,qs.length,cc,none,0,0,0,0⟩):=PAt.grown (PAt.kept U.out (Go.Deep.blk_alloc_lt _ _ _ Om)) d (by simp;omega);have a0:Hid (o.ownsRow w.heap.size 372 3 (.slice ca qs.length cc) qs.length (ZJo qs)):=Yf6 (Yf8 R.out _) d (Or.inr (fun h=>T.out h.symm));have a1:Hid (w.grownBy o (some b)):=Zj (ZbR b2.out _) d;have i2:c.heap.size<o.heap.size:=CAt.lt G.out;clear V g d Q b1 U b2
      go_wp2_with fail
      refine(St.jj X.out hs 3 _ rfl Dc).mono ?_;rintro e f ⟨x2,rfl,g,e5,d⟩;have H:Hid (St f b pv s deep (bnd r3 fun _ t=>ZJm (ZH 3 t))):=g;have B:Hid (CAt f c.heap.size x1 ⟨#[]⟩ false):=CAt.grown G.out d (by simp;omega);have a2:Hid (PAt f w.heap.size (pv0 0)):=PAt.grown Y.out d (by simp;omega);have I:Hid (PAt f (w.heap.size+1) ⟨1,0,0,x,ca,qs.length,cc,none,0,0,0,0⟩):=PAt.grown Z.out d (by simp;omega);have a3:Hid (f.ownsRow w.heap.size 372 3 (.slice ca qs.length cc) qs.length (ZJo qs)):=Yf6 a0.out d (Or.inr (fun h=>T.out h.symm));have a4:Hid (w.grownBy f (some b)):=Zj a1.out d;have i3:c.heap.size<f.heap.size:=CAt.lt B.out;have f8:b<f.heap.size:=St.lt H.out;have A:Hid ((f.setCell ⟨c.heap.size,1,none⟩ (.string x2)).ownsRow w.heap.size 372 3 (.slice ca qs.length cc) qs.length (ZJo qs)):=ZdA a3.out (fun k S=>Go.Deep.blk_setCell_other _ _ _ _ (by have:=(R.lt k S).2;show k≠c.heap.size;omega));have a5:Hid (w.grownBy (f.setCell ⟨c.heap.size,1,none⟩ (.string x2)) (some b)):=ZA a4.out (Or.inr (by show w.heap.size<=c.heap.size;omega)) _;have C:Hid (St (f.setCell ⟨c.heap.size,1,none⟩ (.string x2)) b pv s deep (bnd r3 fun _ t=>ZJm (ZH 3 t))):=St.kept H.out (Go.Deep.blk_setCell_other _ _ _ _ (by show b≠c.heap.size;omega));have D:Hid (PAt (f.setCell ⟨c.heap.size,1,none⟩ (.string x2)) w.heap.size (pv0 0)):=PAt.kept a2.out (Go.Deep.blk_setCell_other _ _ _ _ (by show w.heap.size≠c.heap.size;omega));have E:Hid (PAt (f.setCell ⟨c.heap.size,1,none⟩ (.string x2)) (w.heap.size+1) ⟨1,0,0,x,ca,qs.length,cc,none,0,0,0,0⟩):=PAt.kept I.out (Go.Deep.blk_setCell_other _ _ _ _ (by show w.heap.size+1≠c.heap.size;omega));obtain⟨d0,d1,d2⟩:=CAt.all B.out;have fd1:=CAt.frozen B.out 1;have k4b:=(PAt.all I.out).2.2.2.2.1;have n3:=j2;clear g d X G Y Z a0 a1 a3 a4 H
      go_wp2_with (at_builtin;refine wpList_append_own _ rfl (.tmp 85) (.tmp 87) 89 rfl w.heap.size 372 i0 (.agg #[.string ByteArray.empty,.string ByteArray.empty,.bool false]) 3 40 underlying89 hi i9 e6 e9 rfl Dc _ _ _ rfl (Yf8 A.out _) ⟨f.heap.size,0,none⟩ 1 1 [.string x1,.string x2,.bool false] rfl rfl ?c1 ?c2 ?c3 ?c4 ?c5 ?_)
      case c1=>exact ZKj (Go.Deep.nblk_setCell _ _ _)
      case c2=>intro u hu;simp at hu;rcases hu with rfl|rfl|rfl <;> rfl
      case c3=>unfold maxLen;omega
      case c4=>omega
      case c5=>simp;omega
      intro v15 i j hgrow15 _;have L:St i b pv s deep (bnd r3 fun _ t=>ZJm (ZH 3 t)):=St.kept (St.kept C.out (Go.Deep.blk_alloc_lt _ _ _ (St.lt C.out))) (hgrow15.block b (by rw[Go.Deep.nblk_alloc];have:=St.lt C.out;omega) T.out);have M:PAt i w.heap.size (pv0 0):=PAt.grown (PAt.kept D.out (Go.Deep.blk_alloc_lt _ _ _ (PAt.lt D.out))) hgrow15 (Zcx A.out D.out Dc);have m:PAt i (w.heap.size+1) ⟨1,0,0,x,ca,qs.length,cc,none,0,0,0,0⟩:=PAt.grown (PAt.kept E.out (Go.Deep.blk_alloc_lt _ _ _ (PAt.lt E.out))) hgrow15 (Zcx A.out E.out Dc);have a6:w.grownBy i (some b):=ZKd (ZbR a5.out _) hgrow15 (fun k S=>(A.lt k S).1);obtain⟨g15,cp15,c9⟩:=ZF j Om;subst c9;have k4c:=(PAt.all m).2.2.2.2.1;have fk4:=PAt.frozen m 4;have J:Hid (St (i.setCell ⟨w.heap.size+1,4,none⟩ (.slice (some ⟨g15,0,none⟩) (qs.length+1) cp15)) b pv s deep (bnd r3 fun _ t=>ZJm (ZH 3 t))):=St.kept L (Go.Deep.blk_setCell_other _ _ _ _ (by show b≠w.heap.size+1;omega));have N:Hid (PAt (i.setCell ⟨w.heap.size+1,4,none⟩ (.slice (some ⟨g15,0,none⟩) (qs.length+1) cp15)) w.heap.size (pv0 0)):=PAt.kept M (Go.Deep.blk_setCell_other _ _ _ _ (by show w.heap.size≠w.heap.size+1;omega));have O:Hid (PAt (i.setCell ⟨w.heap.size+1,4,none⟩ (.slice (some ⟨g15,0,none⟩) (qs.length+1) cp15)) (w.heap.size+1) ⟨1,0,0,x,some ⟨g15,0,none⟩,qs.length+1,cp15,none,0,0,0,0⟩):=PAt.setConds m _ _ _
      have a7:Hid ((i.setCell ⟨w.heap.size+1,4,none⟩ (.slice (some ⟨g15,0,none⟩) (qs.length+1) cp15)).ownsRow w.heap.size 372 3 (.slice (some ⟨g15,0,none⟩) (qs.length+1) cp15) (qs.length+1) (ZJo (qs++[(x1,x2,false)]))):=by
       rw[ZKo];refine ZdA j (fun k S=>Go.Deep.blk_setCell_other _ _ _ _ ?_);rintro rfl;exact Zcx j m Dc S.symm
      have a8:Hid (w.grownBy (i.setCell ⟨w.heap.size+1,4,none⟩ (.slice (some ⟨g15,0,none⟩) (qs.length+1) cp15)) (some b)):=ZA a6 (Or.inr (by show w.heap.size<=w.heap.size+1;omega)) _;have a9:Hid (ZJF (i.setCell ⟨w.heap.size+1,4,none⟩ (.slice (some ⟨g15,0,none⟩) (qs.length+1) cp15)) ⟨w.heap.size+1,4,none⟩=qs.length+1):=hid (by unfold ZJF;rw[Yf9 _ _ _ k4c]);have b0:=ZKk HV.out e4.out g5.out e5.out;have d3:Hid (ZJu ZV [125] blC ts5.length ts5.tail (qs++[(x1,x2,false)]) (bnd r3 fun _ t=>ZJm (ZH 3 t))):=ZJu.round b4.out j1 g4.out b0.1 b0.2 Zos;have n4:qs.length<=ts5.tail.length+1:=b4.2.2;clear L M m a6 j hgrow15 b0 A a5 C D E a2 I B R
      go_wp2_with fail
      clear k4c fk4 d0 d1 d2 fd1 k4b;generalize i.setCell ⟨w.heap.size+1,4,none⟩ (.slice (some ⟨g15,0,none⟩) (qs.length+1) cp15)=w16 at J N O a7 a8 a9 ⊢;refine(St.is J.out _).mono ?_;rintro e wz ⟨rfl,rfl⟩;rw[show bl ⟨#[125]⟩=[125] from rfl];go_wp2
      go_roundw
      case rel=>exact⟨qs++[(x1,x2,false)],some ⟨g15,0,none⟩,cp15,_,rfl,J,N,by rw[Yab];exact O,by rw[Yab];exact a7,a8,d3⟩
      case measure=>
       rw[j3.out,a9.out];omega
     ·go_wp2_with fail
      obtain⟨ts2,g6,_,g7⟩:=ZKA HV.out;refine(St.next (St.kept Q.out (Go.Deep.blk_alloc_lt _ _ _ b3)) hs ⟨ts2,g6,g7⟩).mono ?_;rintro e o ⟨rfl,g,d⟩;clear g6 g7;obtain⟨r3,V⟩:∃r3:Out Unit,r3=(bnd (bnd r1 fun _ t=>ZJm (ZH 2 t)) fun _ ts=>.ok ((),ts.tail)):=⟨_,rfl⟩
      have X:Hid (St o b pv s deep r3):=by rw[V];exact g
      have e4:Hid (r3=if true then (bnd (bnd r1 fun _ t=>ZJm (ZH 2 t)) fun _ ts=>.ok ((),ts.tail))else bnd (bnd r1 fun _ t=>ZJm (ZH 2 t)) fun _ ts=>Zq [61] ts):=V;have G:Hid (CAt o c.heap.size x1 ⟨#[]⟩ true):=CAt.grown (Go.Deep.blk_alloc_new _ _) d (by simp;omega);have Y:Hid (PAt o w.heap.size (pv0 0)):=PAt.grown (PAt.kept b1.out (Go.Deep.blk_alloc_lt _ _ _ Om)) d (by simp;omega);have Z:Hid (PAt o (w.heap.size+1) ⟨1,0,0,x,ca,qs.length,cc,none,0,0,0,0⟩):=PAt.grown (PAt.kept U.out (Go.Deep.blk_alloc_lt _ _ _ Om)) d (by simp;omega);have a0:Hid (o.ownsRow w.heap.size 372 3 (.slice ca qs.length cc) qs.length (ZJo qs)):=Yf6 (Yf8 R.out _) d (Or.inr (fun h=>T.out h.symm));have a1:Hid (w.grownBy o (some b)):=Zj (ZbR b2.out _) d;have i2:c.heap.size<o.heap.size:=CAt.lt G.out;clear V g d Q b1 U b2
      go_wp2_with fail
      refine(St.jj X.out hs 3 _ rfl Dc).mono ?_;rintro e f ⟨x2,rfl,g,e5,d⟩;have H:Hid (St f b pv s deep (bnd r3 fun _ t=>ZJm (ZH 3 t))):=g;have B:Hid (CAt f c.heap.size x1 ⟨#[]⟩ true):=CAt.grown G.out d (by simp;omega);have a2:Hid (PAt f w.heap.size (pv0 0)):=PAt.grown Y.out d (by simp;omega);have I:Hid (PAt f (w.heap.size+1) ⟨1,0,0,x,ca,qs.length,cc,none,0,0,0,0⟩):=PAt.grown Z.out d (by simp;omega);have a3:Hid (f.ownsRow w.heap.size 372 3 (.slice ca qs.length cc) qs.length (ZJo qs)):=Yf6 a0.out d (Or.inr (fun h=>T.out h.symm));have a4:Hid (w.grownBy f (some b)):=Zj a1.out d;have i3:c.heap.size<f.heap.size:=CAt.lt B.out;have f8:b<f.heap.size:=St.lt H.out;have A:Hid ((f.setCell ⟨c.heap.size,1,none⟩ (.string x2)).ownsRow w.heap.size 372 3 (.slice ca qs.length cc) qs.length (ZJo qs)):=ZdA a3.out (fun k S=>Go.Deep.blk_setCell_other _ _ _ _ (by have:=(R.lt k S).2;show k≠c.heap.size;omega));have a5:Hid (w.grownBy (f.setCell ⟨c.heap.size,1,none⟩ (.string x2)) (some b)):=ZA a4.out (Or.inr (by show w.heap.size<=c.heap.size;omega)) _;have C:Hid (St (f.setCell ⟨c.heap.size,1,none⟩ (.string x2)) b pv s deep (bnd r3 fun _ t=>ZJm (ZH 3 t))):=St.kept H.out (Go.Deep.blk_setCell_other _ _ _ _ (by show b≠c.heap.size;omega));have D:Hid (PAt (f.setCell ⟨c.heap.size,1,none⟩ (.string x2)) w.heap.size (pv0 0)):=PAt.kept a2.out (Go.Deep.blk_setCell_other _ _ _ _ (by show w.heap.size≠c.heap.size;omega));have E:Hid (PAt (f.setCell ⟨c.heap.size,1,none⟩ (.string x2)) (w.heap.size+1) ⟨1,0,0,x,ca,qs.length,cc,none,0,0,0,0⟩):=PAt.kept I.out (Go.Deep.blk_setCell_other _ _ _ _ (by show w.heap.size+1≠c.heap.size;omega));obtain⟨d0,d1,d2⟩:=CAt.all B.out;have fd1:=CAt.frozen B.out 1;have k4b:=(PAt.all I.out).2.2.2.2.1;have n3:=j2;clear g d X G Y Z a0 a1 a3 a4 H
      go_wp2_with (at_builtin;refine wpList_append_own _ rfl (.tmp 85) (.tmp 87) 89 rfl w.heap.size 372 i0 (.agg #[.string ByteArray.empty,.string ByteArray.empty,.bool false]) 3 40 underlying89 hi i9 e6 e9 rfl Dc _ _ _ rfl (Yf8 A.out _) ⟨f.heap.size,0,none⟩ 1 1 [.string x1,.string x2,.bool true] rfl rfl ?c1 ?c2 ?c3 ?c4 ?c5 ?_)
      case c1=>exact ZKj (Go.Deep.nblk_setCell _ _ _)
      case c2=>intro u hu;simp at hu;rcases hu with rfl|rfl|rfl <;> rfl
      case c3=>unfold maxLen;omega
      case c4=>omega
      case c5=>simp;omega
      intro v15 i j hgrow15 _;have L:St i b pv s deep (bnd r3 fun _ t=>ZJm (ZH 3 t)):=St.kept (St.kept C.out (Go.Deep.blk_alloc_lt _ _ _ (St.lt C.out))) (hgrow15.block b (by rw[Go.Deep.nblk_alloc];have:=St.lt C.out;omega) T.out);have M:PAt i w.heap.size (pv0 0):=PAt.grown (PAt.kept D.out (Go.Deep.blk_alloc_lt _ _ _ (PAt.lt D.out))) hgrow15 (Zcx A.out D.out Dc);have m:PAt i (w.heap.size+1) ⟨1,0,0,x,ca,qs.length,cc,none,0,0,0,0⟩:=PAt.grown (PAt.kept E.out (Go.Deep.blk_alloc_lt _ _ _ (PAt.lt E.out))) hgrow15 (Zcx A.out E.out Dc);have a6:w.grownBy i (some b):=ZKd (ZbR a5.out _) hgrow15 (fun k S=>(A.lt k S).1);obtain⟨g15,cp15,c9⟩:=ZF j Om;subst c9;have k4c:=(PAt.all m).2.2.2.2.1;have fk4:=PAt.frozen m 4;have J:Hid (St (i.setCell ⟨w.heap.size+1,4,none⟩ (.slice (some ⟨g15,0,none⟩) (qs.length+1) cp15)) b pv s deep (bnd r3 fun _ t=>ZJm (ZH 3 t))):=St.kept L (Go.Deep.blk_setCell_other _ _ _ _ (by show b≠w.heap.size+1;omega));have N:Hid (PAt (i.setCell ⟨w.heap.size+1,4,none⟩ (.slice (some ⟨g15,0,none⟩) (qs.length+1) cp15)) w.heap.size (pv0 0)):=PAt.kept M (Go.Deep.blk_setCell_other _ _ _ _ (by show w.heap.size≠w.heap.size+1;omega));have O:Hid (PAt (i.setCell ⟨w.heap.size+1,4,none⟩ (.slice (some ⟨g15,0,none⟩) (qs.length+1) cp15)) (w.heap.size+1) ⟨1,0,0,x,some ⟨g15,0,none⟩,qs.length+1,cp15,none,0,0,0,0⟩):=PAt.setConds m _ _ _
      have a7:Hid ((i.setCell ⟨w.heap.size+1,4,none⟩ (.slice (some ⟨g15,0,none⟩) (qs.length+1) cp15)).ownsRow w.heap.size 372 3 (.slice (some ⟨g15,0,none⟩) (qs.length+1) cp15) (qs.length+1) (ZJo (qs++[(x1,x2,true)]))):=by
       rw[ZKo];refine ZdA j (fun k S=>Go.Deep.blk_setCell_other _ _ _ _ ?_);rintro rfl;exact Zcx j m Dc S.symm
      have a8:Hid (w.grownBy (i.setCell ⟨w.heap.size+1,4,none⟩ (.slice (some ⟨g15,0,none⟩) (qs.length+1) cp15)) (some b)):=ZA a6 (Or.inr (by show w.heap.size<=w.heap.size+1;omega)) _;have a9:Hid (ZJF (i.setCell ⟨w.heap.size+1,4,none⟩ (.slice (some ⟨g15,0,none⟩) (qs.length+1) cp15)) ⟨w.heap.size+1,4,none⟩=qs.length+1):=hid (by unfold ZJF;rw[Yf9 _ _ _ k4c]);have b0:=ZKk HV.out e4.out g5.out e5.out;have d3:Hid (ZJu ZV [125] blC ts5.length ts5.tail (qs++[(x1,x2,true)]) (bnd r3 fun _ t=>ZJm (ZH 3 t))):=ZJu.round b4.out j1 g4.out b0.1 b0.2 Zos;have n4:qs.length<=ts5.tail.length+1:=b4.2.2;clear L M m a6 j hgrow15 b0 A a5 C D E a2 I B R
      go_wp2_with fail
      clear k4c fk4 d0 d1 d2 fd1 k4b;generalize i.setCell ⟨w.heap.size+1,4,none⟩ (.slice (some ⟨g15,0,none⟩) (qs.length+1) cp15)=w16 at J N O a7 a8 a9 ⊢;refine(St.is J.out _).mono ?_;rintro e wz ⟨rfl,rfl⟩;rw[show bl ⟨#[125]⟩=[125] from rfl];go_wp2
      go_roundw
      case rel=>exact⟨qs++[(x1,x2,true)],some ⟨g15,0,none⟩,cp15,_,rfl,J,N,by rw[Yab];exact O,by rw[Yab];exact a7,a8,d3⟩
      case measure=>
       rw[j3.out,a9.out];omega
    ·have i1:decide (0<(qs.length:Int))=true:=decide_eq_true Om
     go_wp2_with fail
     refine(St.take d5.out hs _).mono ?_;rintro e K ⟨rfl,g,d⟩;rw[show bl ⟨#[44]⟩=[44] from rfl]at g;obtain⟨r1,e3⟩:∃r1:Out Unit,r1=Zq [44] ts:=⟨_,rfl⟩
     have b5:Hid (St K b pv s deep r1):=by rw[e3];exact g
     have g4:Hid ((if qs.isEmpty then .ok ((),ts)else Zq [44] ts)=r1):=hid (by
      rw[e3];cases qs with
      | nil=>exact absurd rfl j4
      | cons a l=>rfl)
     have F:Hid (PAt K w.heap.size (pv0 0)):=PAt.grown d6.out d (by simp;omega);have b9:Hid (PAt K (w.heap.size+1) ⟨1,0,0,x,ca,qs.length,cc,none,0,0,0,0⟩):=PAt.grown b8.out d (by simp;omega);have b6:Hid (K.ownsRow w.heap.size 372 3 (.slice ca qs.length cc) qs.length (ZJo qs)):=Yf6 d8.out d (Or.inr (fun h=>T.out h.symm));have b7:Hid (w.grownBy K (some b)):=Zj e2.out d;have n2:b<K.heap.size:=St.lt b5.out;have n5:w.heap.size<=K.heap.size:=b7.size;clear e3 g d d6 b8 d8 e2 d5 g9 n1 k4
     go_wp2_with fail
     clear j4 i1;refine(St.jj b5.out hs 2 _ rfl Dc).mono ?_;rintro e c ⟨x1,rfl,g,g5,d⟩;have Q:Hid (St c b pv s deep (bnd r1 fun _ t=>ZJm (ZH 2 t))):=g;have b1:Hid (PAt c w.heap.size (pv0 0)):=PAt.grown F.out d (by simp;omega);have U:Hid (PAt c (w.heap.size+1) ⟨1,0,0,x,ca,qs.length,cc,none,0,0,0,0⟩):=PAt.grown b9.out d (by simp;omega);have R:Hid (c.ownsRow w.heap.size 372 3 (.slice ca qs.length cc) qs.length (ZJo qs)):=Yf6 b6.out d (Or.inr (fun h=>T.out h.symm));have b2:Hid (w.grownBy c (some b)):=Zj b7.out d;have b3:b<c.heap.size:=St.lt Q.out;have o8:w.heap.size+1<c.heap.size:=PAt.lt U.out;clear g d b5 F b9 b6 b7
     go_wp2_with fail
     refine(St.is (St.kept Q.out (Go.Deep.blk_alloc_lt _ _ _ b3)) _).mono ?_;rintro e wy ⟨rfl,rfl⟩;rw[show bl ⟨#[33,61]⟩=[33,61] from rfl];obtain⟨v,hv⟩:∃v,isR [33,61] (bnd r1 fun _ t=>ZJm (ZH 2 t))=v:=⟨_,rfl⟩
     rw[hv];have HV:Hid _:=hv;clear hv;cases v
     ·go_wp2_with fail
      refine(St.take (St.kept Q.out (Go.Deep.blk_alloc_lt _ _ _ b3)) hs _).mono ?_;rintro e o ⟨rfl,g,d⟩;rw[show bl ⟨#[61]⟩=[61] from rfl]at g;obtain⟨r3,V⟩:∃r3:Out Unit,r3=(bnd (bnd r1 fun _ t=>ZJm (ZH 2 t)) fun _ ts=>Zq [61] ts):=⟨_,rfl⟩
      have X:Hid (St o b pv s deep r3):=by rw[V];exact g
      have e4:Hid (r3=if false then (bnd (bnd r1 fun _ t=>ZJm (ZH 2 t)) fun _ ts=>.ok ((),ts.tail))else bnd (bnd r1 fun _ t=>ZJm (ZH 2 t)) fun _ ts=>Zq [61] ts):=V;have G:Hid (CAt o c.heap.size x1 ⟨#[]⟩ false):=CAt.grown (Go.Deep.blk_alloc_new _ _) d (by simp;omega);have Y:Hid (PAt o w.heap.size (pv0 0)):=PAt.grown (PAt.kept b1.out (Go.Deep.blk_alloc_lt _ _ _ Om)) d (by simp;omega);have Z:Hid (PAt o (w.heap.size+1) ⟨1,0,0,x,ca,qs.length,cc,none,0,0,0,0⟩):=PAt.grown (PAt.kept U.out (Go.Deep.blk_alloc_lt _ _ _ Om)) d (by simp;omega);have a0:Hid (o.ownsRow w.heap.size 372 3 (.slice ca qs.length cc) qs.length (ZJo qs)):=Yf6 (Yf8 R.out _) d (Or.inr (fun h=>T.out h.symm));have a1:Hid (w.grownBy o (some b)):=Zj (ZbR b2.out _) d;have i2:c.heap.size<o.heap.size:=CAt.lt G.out;clear V g d Q b1 U b2
      go_wp2_with fail
      refine(St.jj X.out hs 3 _ rfl Dc).mono ?_;rintro e f ⟨x2,rfl,g,e5,d⟩;have H:Hid (St f b pv s deep (bnd r3 fun _ t=>ZJm (ZH 3 t))):=g;have B:Hid (CAt f c.heap.size x1 ⟨#[]⟩ false):=CAt.grown G.out d (by simp;omega);have a2:Hid (PAt f w.heap.size (pv0 0)):=PAt.grown Y.out d (by simp;omega);have I:Hid (PAt f (w.heap.size+1) ⟨1,0,0,x,ca,qs.length,cc,none,0,0,0,0⟩):=PAt.grown Z.out d (by simp;omega);have a3:Hid (f.ownsRow w.heap.size 372 3 (.slice ca qs.length cc) qs.length (ZJo qs)):=Yf6 a0.out d (Or.inr (fun h=>T.out h.symm));have a4:Hid (w.grownBy f (some b)):=Zj a1.out d;have i3:c.heap.size<f.heap.size:=CAt.lt B.out;have f8:b<f.heap.size:=St.lt H.out;have A:Hid ((f.setCell ⟨c.heap.size,1,none⟩ (.string x2)).ownsRow w.heap.size 372 3 (.slice ca qs.length cc) qs.length (ZJo qs)):=ZdA a3.out (fun k S=>Go.Deep.blk_setCell_other _ _ _ _ (by have:=(R.lt k S).2;show k≠c.heap.size;omega));have a5:Hid (w.grownBy (f.setCell ⟨c.heap.size,1,none⟩ (.string x2)) (some b)):=ZA a4.out (Or.inr (by show w.heap.size<=c.heap.size;omega)) _;have C:Hid (St (f.setCell ⟨c.heap.size,1,none⟩ (.string x2)) b pv s deep (bnd r3 fun _ t=>ZJm (ZH 3 t))):=St.kept H.out (Go.Deep.blk_setCell_other _ _ _ _ (by show b≠c.heap.size;omega));have D:Hid (PAt (f.setCell ⟨c.heap.size,1,none⟩ (.string x2)) w.heap.size (pv0 0)):=PAt.kept a2.out (Go.Deep.blk_setCell_other _ _ _ _ (by show w.heap.size≠c.heap.size;omega));have E:Hid (PAt (f.setCell ⟨c.heap.size,1,none⟩ (.string x2)) (w.heap.size+1) ⟨1,0,0,x,ca,qs.length,cc,none,0,0,0,0⟩):=PAt.kept I.out (Go.Deep.blk_setCell_other _ _ _ _ (by show w.heap.size+1≠c.heap.size;omega));obtain⟨d0,d1,d2⟩:=CAt.all B.out;have fd1:=CAt.frozen B.out 1;have k4b:=(PAt.all I.out).2.2.2.2.1;have n3:=j2;clear g d X G Y Z a0 a1 a3 a4 H
      go_wp2_with (at_builtin;refine wpList_append_own _ rfl (.tmp 85) (.tmp 87) 89 rfl w.heap.size 372 i0 (.agg #[.string ByteArray.empty,.string ByteArray.empty,.bool false]) 3 40 underlying89 hi i9 e6 e9 rfl Dc _ _ _ rfl (Yf8 A.out _) ⟨f.heap.size,0,none⟩ 1 1 [.string x1,.string x2,.bool false] rfl rfl ?c1 ?c2 ?c3 ?c4 ?c5 ?_)
      case c1=>exact ZKj (Go.Deep.nblk_setCell _ _ _)
      case c2=>intro u hu;simp at hu;rcases hu with rfl|rfl|rfl <;> rfl
      case c3=>unfold maxLen;omega
      case c4=>omega
      case c5=>simp;omega
      intro v15 i j hgrow15 _;have L:St i b pv s deep (bnd r3 fun _ t=>ZJm (ZH 3 t)):=St.kept (St.kept C.out (Go.Deep.blk_alloc_lt _ _ _ (St.lt C.out))) (hgrow15.block b (by rw[Go.Deep.nblk_alloc];have:=St.lt C.out;omega) T.out);have M:PAt i w.heap.size (pv0 0):=PAt.grown (PAt.kept D.out (Go.Deep.blk_alloc_lt _ _ _ (PAt.lt D.out))) hgrow15 (Zcx A.out D.out Dc);have m:PAt i (w.heap.size+1) ⟨1,0,0,x,ca,qs.length,cc,none,0,0,0,0⟩:=PAt.grown (PAt.kept E.out (Go.Deep.blk_alloc_lt _ _ _ (PAt.lt E.out))) hgrow15 (Zcx A.out E.out Dc);have a6:w.grownBy i (some b):=ZKd (ZbR a5.out _) hgrow15 (fun k S=>(A.lt k S).1);obtain⟨g15,cp15,c9⟩:=ZF j Om;subst c9;have k4c:=(PAt.all m).2.2.2.2.1;have fk4:=PAt.frozen m 4;have J:Hid (St (i.setCell ⟨w.heap.size+1,4,none⟩ (.slice (some ⟨g15,0,none⟩) (qs.length+1) cp15)) b pv s deep (bnd r3 fun _ t=>ZJm (ZH 3 t))):=St.kept L (Go.Deep.blk_setCell_other _ _ _ _ (by show b≠w.heap.size+1;omega));have N:Hid (PAt (i.setCell ⟨w.heap.size+1,4,none⟩ (.slice (some ⟨g15,0,none⟩) (qs.length+1) cp15)) w.heap.size (pv0 0)):=PAt.kept M (Go.Deep.blk_setCell_other _ _ _ _ (by show w.heap.size≠w.heap.size+1;omega));have O:Hid (PAt (i.setCell ⟨w.heap.size+1,4,none⟩ (.slice (some ⟨g15,0,none⟩) (qs.length+1) cp15)) (w.heap.size+1) ⟨1,0,0,x,some ⟨g15,0,none⟩,qs.length+1,cp15,none,0,0,0,0⟩):=PAt.setConds m _ _ _
      have a7:Hid ((i.setCell ⟨w.heap.size+1,4,none⟩ (.slice (some ⟨g15,0,none⟩) (qs.length+1) cp15)).ownsRow w.heap.size 372 3 (.slice (some ⟨g15,0,none⟩) (qs.length+1) cp15) (qs.length+1) (ZJo (qs++[(x1,x2,false)]))):=by
       rw[ZKo];refine ZdA j (fun k S=>Go.Deep.blk_setCell_other _ _ _ _ ?_);rintro rfl;exact Zcx j m Dc S.symm
      have a8:Hid (w.grownBy (i.setCell ⟨w.heap.size+1,4,none⟩ (.slice (some ⟨g15,0,none⟩) (qs.length+1) cp15)) (some b)):=ZA a6 (Or.inr (by show w.heap.size<=w.heap.size+1;omega)) _;have a9:Hid (ZJF (i.setCell ⟨w.heap.size+1,4,none⟩ (.slice (some ⟨g15,0,none⟩) (qs.length+1) cp15)) ⟨w.heap.size+1,4,none⟩=qs.length+1):=hid (by unfold ZJF;rw[Yf9 _ _ _ k4c]);have b0:=ZKk HV.out e4.out g5.out e5.out;have d3:Hid (ZJu ZV [125] blC ts5.length ts5.tail (qs++[(x1,x2,false)]) (bnd r3 fun _ t=>ZJm (ZH 3 t))):=ZJu.round b4.out j1 g4.out b0.1 b0.2 Zos;have n4:qs.length<=ts5.tail.length+1:=b4.2.2;clear L M m a6 j hgrow15 b0 A a5 C D E a2 I B R
      go_wp2_with fail
      clear k4c fk4 d0 d1 d2 fd1 k4b;generalize i.setCell ⟨w.heap.size+1,4,none⟩ (.slice (some ⟨g15,0,none⟩) (qs.length+1) cp15)=w16 at J N O a7 a8 a9 ⊢;refine(St.is J.out _).mono ?_;rintro e wz ⟨rfl,rfl⟩;rw[show bl ⟨#[125]⟩=[125] from rfl];go_wp2
      go_roundw
      case rel=>exact⟨qs++[(x1,x2,false)],some ⟨g15,0,none⟩,cp15,_,rfl,J,N,by rw[Yab];exact O,by rw[Yab];exact a7,a8,d3⟩
      case measure=>
       rw[j3.out,a9.out];omega
     ·go_wp2_with fail
      obtain⟨ts2,g6,_,g7⟩:=ZKA HV.out;refine(St.next (St.kept Q.out (Go.Deep.blk_alloc_lt _ _ _ b3)) hs ⟨ts2,g6,g7⟩).mono ?_;rintro e o ⟨rfl,g,d⟩;clear g6 g7;obtain⟨r3,V⟩:∃r3:Out Unit,r3=(bnd (bnd r1 fun _ t=>ZJm (ZH 2 t)) fun _ ts=>.ok ((),ts.tail)):=⟨_,rfl⟩
      have X:Hid (St o b pv s deep r3):=by rw[V];exact g
      have e4:Hid (r3=if true then (bnd (bnd r1 fun _ t=>ZJm (ZH 2 t)) fun _ ts=>.ok ((),ts.tail))else bnd (bnd r1 fun _ t=>ZJm (ZH 2 t)) fun _ ts=>Zq [61] ts):=V;have G:Hid (CAt o c.heap.size x1 ⟨#[]⟩ true):=CAt.grown (Go.Deep.blk_alloc_new _ _) d (by simp;omega);have Y:Hid (PAt o w.heap.size (pv0 0)):=PAt.grown (PAt.kept b1.out (Go.Deep.blk_alloc_lt _ _ _ Om)) d (by simp;omega);have Z:Hid (PAt o (w.heap.size+1) ⟨1,0,0,x,ca,qs.length,cc,none,0,0,0,0⟩):=PAt.grown (PAt.kept U.out (Go.Deep.blk_alloc_lt _ _ _ Om)) d (by simp;omega);have a0:Hid (o.ownsRow w.heap.size 372 3 (.slice ca qs.length cc) qs.length (ZJo qs)):=Yf6 (Yf8 R.out _) d (Or.inr (fun h=>T.out h.symm));have a1:Hid (w.grownBy o (some b)):=Zj (ZbR b2.out _) d;have i2:c.heap.size<o.heap.size:=CAt.lt G.out;clear V g d Q b1 U b2
      go_wp2_with fail
      refine(St.jj X.out hs 3 _ rfl Dc).mono ?_;rintro e f ⟨x2,rfl,g,e5,d⟩;have H:Hid (St f b pv s deep (bnd r3 fun _ t=>ZJm (ZH 3 t))):=g;have B:Hid (CAt f c.heap.size x1 ⟨#[]⟩ true):=CAt.grown G.out d (by simp;omega);have a2:Hid (PAt f w.heap.size (pv0 0)):=PAt.grown Y.out d (by simp;omega);have I:Hid (PAt f (w.heap.size+1) ⟨1,0,0,x,ca,qs.length,cc,none,0,0,0,0⟩):=PAt.grown Z.out d (by simp;omega);have a3:Hid (f.ownsRow w.heap.size 372 3 (.slice ca qs.length cc) qs.length (ZJo qs)):=Yf6 a0.out d (Or.inr (fun h=>T.out h.symm));have a4:Hid (w.grownBy f (some b)):=Zj a1.out d;have i3:c.heap.size<f.heap.size:=CAt.lt B.out;have f8:b<f.heap.size:=St.lt H.out;have A:Hid ((f.setCell ⟨c.heap.size,1,none⟩ (.string x2)).ownsRow w.heap.size 372 3 (.slice ca qs.length cc) qs.length (ZJo qs)):=ZdA a3.out (fun k S=>Go.Deep.blk_setCell_other _ _ _ _ (by have:=(R.lt k S).2;show k≠c.heap.size;omega));have a5:Hid (w.grownBy (f.setCell ⟨c.heap.size,1,none⟩ (.string x2)) (some b)):=ZA a4.out (Or.inr (by show w.heap.size<=c.heap.size;omega)) _;have C:Hid (St (f.setCell ⟨c.heap.size,1,none⟩ (.string x2)) b pv s deep (bnd r3 fun _ t=>ZJm (ZH 3 t))):=St.kept H.out (Go.Deep.blk_setCell_other _ _ _ _ (by show b≠c.heap.size;omega));have D:Hid (PAt (f.setCell ⟨c.heap.size,1,none⟩ (.string x2)) w.heap.size (pv0 0)):=PAt.kept a2.out (Go.Deep.blk_setCell_other _ _ _ _ (by show w.heap.size≠c.heap.size;omega));have E:Hid (PAt (f.setCell ⟨c.heap.size,1,none⟩ (.string x2)) (w.heap.size+1) ⟨1,0,0,x,ca,qs.length,cc,none,0,0,0,0⟩):=PAt.kept I.out (Go.Deep.blk_setCell_other _ _ _ _ (by show w.heap.size+1≠c.heap.size;omega));obtain⟨d0,d1,d2⟩:=CAt.all B.out;have fd1:=CAt.frozen B.out 1;have k4b:=(PAt.all I.out).2.2.2.2.1;have n3:=j2;clear g d X G Y Z a0 a1 a3 a4 H
      go_wp2_with (at_builtin;refine wpList_append_own _ rfl (.tmp 85) (.tmp 87) 89 rfl w.heap.size 372 i0 (.agg #[.string ByteArray.empty,.string ByteArray.empty,.bool false]) 3 40 underlying89 hi i9 e6 e9 rfl Dc _ _ _ rfl (Yf8 A.out _) ⟨f.heap.size,0,none⟩ 1 1 [.string x1,.string x2,.bool true] rfl rfl ?c1 ?c2 ?c3 ?c4 ?c5 ?_)
      case c1=>exact ZKj (Go.Deep.nblk_setCell _ _ _)
      case c2=>intro u hu;simp at hu;rcases hu with rfl|rfl|rfl <;> rfl
      case c3=>unfold maxLen;omega
      case c4=>omega
      case c5=>simp;omega
      intro v15 i j hgrow15 _;have L:St i b pv s deep (bnd r3 fun _ t=>ZJm (ZH 3 t)):=St.kept (St.kept C.out (Go.Deep.blk_alloc_lt _ _ _ (St.lt C.out))) (hgrow15.block b (by rw[Go.Deep.nblk_alloc];have:=St.lt C.out;omega) T.out);have M:PAt i w.heap.size (pv0 0):=PAt.grown (PAt.kept D.out (Go.Deep.blk_alloc_lt _ _ _ (PAt.lt D.out))) hgrow15 (Zcx A.out D.out Dc);have m:PAt i (w.heap.size+1) ⟨1,0,0,x,ca,qs.length,cc,none,0,0,0,0⟩:=PAt.grown (PAt.kept E.out (Go.Deep.blk_alloc_lt _ _ _ (PAt.lt E.out))) hgrow15 (Zcx A.out E.out Dc);have a6:w.grownBy i (some b):=ZKd (ZbR a5.out _) hgrow15 (fun k S=>(A.lt k S).1);obtain⟨g15,cp15,c9⟩:=ZF j Om;subst c9;have k4c:=(PAt.all m).2.2.2.2.1;have fk4:=PAt.frozen m 4;have J:Hid (St (i.setCell ⟨w.heap.size+1,4,none⟩ (.slice (some ⟨g15,0,none⟩) (qs.length+1) cp15)) b pv s deep (bnd r3 fun _ t=>ZJm (ZH 3 t))):=St.kept L (Go.Deep.blk_setCell_other _ _ _ _ (by show b≠w.heap.size+1;omega));have N:Hid (PAt (i.setCell ⟨w.heap.size+1,4,none⟩ (.slice (some ⟨g15,0,none⟩) (qs.length+1) cp15)) w.heap.size (pv0 0)):=PAt.kept M (Go.Deep.blk_setCell_other _ _ _ _ (by show w.heap.size≠w.heap.size+1;omega));have O:Hid (PAt (i.setCell ⟨w.heap.size+1,4,none⟩ (.slice (some ⟨g15,0,none⟩) (qs.length+1) cp15)) (w.heap.size+1) ⟨1,0,0,x,some ⟨g15,0,none⟩,qs.length+1,cp15,none,0,0,0,0⟩):=PAt.setConds m _ _ _
      have a7:Hid ((i.setCell ⟨w.heap.size+1,4,none⟩ (.slice (some ⟨g15,0,none⟩) (qs.length+1) cp15)).ownsRow w.heap.size 372 3 (.slice (some ⟨g15,0,none⟩) (qs.length+1) cp15) (qs.length+1) (ZJo (qs++[(x1,x2,true)]))):=by
       rw[ZKo];refine ZdA j (fun k S=>Go.Deep.blk_setCell_other _ _ _ _ ?_);rintro rfl;exact Zcx j m Dc S.symm
      have a8:Hid (w.grownBy (i.setCell ⟨w.heap.size+1,4,none⟩ (.slice (some ⟨g15,0,none⟩) (qs.length+1) cp15)) (some b)):=ZA a6 (Or.inr (by show w.heap.size<=w.heap.size+1;omega)) _;have a9:Hid (ZJF (i.setCell ⟨w.heap.size+1,4,none⟩ (.slice (some ⟨g15,0,none⟩) (qs.length+1) cp15)) ⟨w.heap.size+1,4,none⟩=qs.length+1):=hid (by unfold ZJF;rw[Yf9 _ _ _ k4c]);have b0:=ZKk HV.out e4.out g5.out e5.out;have d3:Hid (ZJu ZV [125] blC ts5.length ts5.tail (qs++[(x1,x2,true)]) (bnd r3 fun _ t=>ZJm (ZH 3 t))):=ZJu.round b4.out j1 g4.out b0.1 b0.2 Zos;have n4:qs.length<=ts5.tail.length+1:=b4.2.2;clear L M m a6 j hgrow15 b0 A a5 C D E a2 I B R
      go_wp2_with fail
      clear k4c fk4 d0 d1 d2 fd1 k4b;generalize i.setCell ⟨w.heap.size+1,4,none⟩ (.slice (some ⟨g15,0,none⟩) (qs.length+1) cp15)=w16 at J N O a7 a8 a9 ⊢;refine(St.is J.out _).mono ?_;rintro e wz ⟨rfl,rfl⟩;rw[show bl ⟨#[125]⟩=[125] from rfl];go_wp2
      go_roundw
      case rel=>exact⟨qs++[(x1,x2,true)],some ⟨g15,0,none⟩,cp15,_,rfl,J,N,by rw[Yab];exact O,by rw[Yab];exact a7,a8,d3⟩
      case measure=>
       rw[j3.out,a9.out];omega

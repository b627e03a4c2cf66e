/- Parts. -/
import Derived.Test.YtkodhpilkaihjaaGreatDoorV03
set_option linter.all false
set_option maxRecDepth 100000
set_option maxHeartbeats 16000000
namespace Go.Proofs.YtkodhpilkaihjaaGreatDoor
open Go.RowKit LS Go.Proofs.Tryz
variable {s:BA}{c close:LB}{qs:List BA}{ts z:List Tok}{l xs:List Value}{L M a b base deep k m n size:Nat}{rec:Nat -> List Tok -> Nat -> Out Tr}{r r3 rr:Out Unit}{p:PV}{pv pv' v:Value}{W w w' w0:World}
def Bud{α:Type}(M n:Nat)(r:Out α):Prop:=match r with
 | .error _=>n<=M
 | .ok x=>n+x.2.length<=M
theorem Bud.le{α:Type}{r:Out α}(h:Bud M n r):n<=M:=by
 cases r with
 | error e=>exact h
 | ok x=>exact Yah (Yfx _ _) h
theorem Bud.bnd{α β:Type}{r:Out α}{f:α->List Tok->Out β}(h:Bud M n r)(b:∀a ts z,r=.ok (a,ts)->f a ts=.ok z->z.2.length<=ts.length):Bud M n (bnd r f):=by
 cases r with
 | error e=>exact h
 | ok x=>
  obtain⟨a,ts⟩:=x;have d:n+ts.length<=M:=h;show Bud M n (f a ts);cases c:f a ts with
  | error e=>exact(show n<=M by omega)
  | ok z=>have:=b a ts z rfl c;exact(show n+z.2.length<=M by omega)
theorem Bud.unit{α:Type}{r:Out α}(h:Bud M n r):Bud M n (ZJm r):=by
 cases r with
 | error e=>exact h
 | ok x=>exact h
theorem Bud.of_unit{α:Type}{r:Out α}(h:Bud M n (ZJm r)):Bud M n r:=by
 cases r with
 | error e=>exact h
 | ok x=>exact h
theorem Bud.up{α:Type}{M' n':Nat}{r:Out α}(h:Bud M n r)(b:M+n'<=M'+n):Bud M' n' r:=by
 cases r with
 | error e=>have a:n<=M:=h;exact(show n'<=M' by omega)
 | ok x=>have a:n+x.2.length<=M:=h;exact(show n'+x.2.length<=M' by omega)
theorem Bud.take   (h : Bud M n r) (c : LB) : Bud M n (LS.bnd r fun _ ts => Zq c ts) :=
  h.bnd fun _ _ _ _ a=>by have:=ZeB a;omega
structure PartRes (w:World) (b:Nat) (pv:Value) (s:BA) (deep:Nat) (xs:List Value) (M:Nat) (R:Out Tr) (i:Int) (w':World):Prop where
 out:∃(n':Nat) (pv':Value) (ys:List Value),St w' b pv' s deep (ZJm R)/\w'.ownsRow 0 92 8 pv' n' (xs++ys)/\Kept b pv w pv' w'/\Bud M n' R/\
  (∀t z,R=.ok (t,z)->∃k:Nat,i=k/\Rep w' (xs++ys) t k/\k+1=n'/\ys.length=8*cntT t)
def ZJn(f:FuncId)(s:BA)(R:List Tok->Nat->Out Tr)(L:Nat):Prop:=
 ∀(w:World) (b:Nat) (pv:Value) (deep:Nat) (r:Out Unit) (n:Nat) (xs:List Value) (M:Nat),St w b pv s deep r->w.ownsRow 0 92 8 pv n xs->M<=6000->Bud M n r->(∀ts,r=.ok ((),ts)->ts.length<=L)->deep<=20->
  CP f #[Vp b] w fun e w'=>∃i:Int,e=.returned (Vi i)/\PartRes w b pv s deep xs M (LS.bnd r fun _ ts=>R ts deep) i w'
theorem ZJn.mono{f:FuncId}{R:List Tok->Nat->Out Tr}{L':Nat}(h:ZJn f s R L)(a:L'<=L):ZJn f s R L':=
 fun w b pv deep r n xs M c d g i j k=>h w b pv deep r n xs M c d g i (fun ts e=>Yah (j ts e) a) k
theorem PartRes.error{x:Nat×Nat}(h:St w b pv s deep (.error x))(a:w.ownsRow 0 92 8 pv n xs)(c:n<=M):PartRes w b pv s deep xs M (.error x) 0 w:=
 ⟨n,pv,[],h,by rw[Yca];exact a,Kept.refl _ _ _,c,fun _ _ h=>(by cases h)⟩
theorem ZJs(h:St w b pv s deep r)(a:w.ownsRow 0 92 8 pv n xs)(c:w.grownBy w' (some b)):w'.ownsRow 0 92 8 pv n xs:=by
 obtain⟨q,d,_⟩:=h.view;exact a.kept c (Or.inr (fun e=>Zcx a d Dc e.symm))
theorem ZJZ {α β γ : Type} (r : Out α) (f : α -> List Tok -> Out β) (g : β -> List Tok -> Out γ) : bnd (bnd r f) g = bnd r fun a ts => bnd (f a ts) g := by
  cases r with
  | error e=>rfl
  | ok x=>rfl
theorem ZMT    (h : ∀ ts, r = .ok ((), ts) -> ts.length <= L + 1) : ∀ ts, (bnd r fun _ ts => Zq c ts) = .ok ((), ts) -> ts.length <= L := by
  intro ts e;obtain⟨_,t,a,b⟩:=Ze e;have:=ZeB b;have:=h t a;simp at *
  omega
theorem PartRes.behind{a:World}{n':Nat}{ys:List Value}{R R2:Out Tr}{i:Int}(d:St w' b pv' s deep (ZJm R))(f:w'.ownsRow 0 92 8 pv' n' (xs++ys))(g:Kept b pv w pv' w')
  (h:Bud M n' R2) (j:∀t z,R=.ok (t,z)->∃k:Nat,i=k/\Rep w' (xs++ys) t k/\k+1=n'/\ys.length=8*cntT t) (c:w'.grownBy a (some b)) (l:St a b pv' s deep (ZJm R2)) (m:∀t z,R2=.ok (t,z)->∃z',R=.ok (t,z')):PartRes w b pv s deep xs M R2 i a:=by
 obtain⟨q,n,o,_⟩:=d.view;refine⟨n',pv',ys,l,ZJs d f c,g.grown c,h,?_⟩;intro t z e;obtain⟨z',e'⟩:=m t z e;obtain⟨k,k1,k2,k3⟩:=j t z' e';refine⟨k,k1,?_,k3⟩;have:=Rep.kept n f ((Kept.refl b pv' w').grown c) [] t k k2
 rwa [Yca]at this
theorem ZNT {α : Type} (R : Out α) (c : LB) : ZJm (bnd R fun a ts => bnd (Zq c ts) fun _ z => .ok (a, z)) = bnd (ZJm R) fun _ ts => Zq c ts := by
  cases R with
  | error e=>rfl
  | ok x=>
    show ZJm (bnd (Zq c x.2) fun _ z=>.ok (x.1,z))=Zq c x.2;cases Zq c x.2 with
    | error e=>rfl
    | ok y=>rfl
theorem ZLz {α : Type}  {R : Out α} (h : Bud M n R)  : Bud M n (bnd R fun a ts => bnd (Zq c ts) fun _ z => .ok (a, z)) :=
  h.bnd fun a ts z _ d => by
    obtain⟨_,t,e,b⟩:=Ze d;injection b with b;subst b;have:=ZeB e;simp at *
    omega
theorem ZM6 {α : Type} {R : Out α}  {t : α}  (h : (bnd R fun a ts => bnd (Zq c ts) fun _ z => (.ok (a, z) : Out α)) = .ok (t, z)) : ∃ z', R = .ok (t, z') := by
  obtain⟨a,ts,d,e⟩:=Ze h;obtain⟨_,t2,f,b⟩:=Ze e;injection b with b;injection b with b h5;subst b;exact⟨ts,d⟩
theorem ZKM (r : Out Unit) (rec : Nat -> List Tok -> Nat -> Out Tr) (deep : Nat) : (bnd r fun _ ts => Zbu rec ts deep) = bnd (bnd (bnd r fun _ ts => Zq [40] ts) fun _ ts => rec 0 ts deep) fun a ts => bnd (Zq [41] ts) fun _ z => .ok (a, z) := by
  rw[ZJZ,ZJZ];rfl
theorem ZNZ  (k : s.size <= 6000)   (l : ZJn 176 s (fun ts d => rec 0 ts d) L) :
    ZJn 315 s (Zbu rec) (L+1):=by
  intro w b pv deep r n xs M h f G m o p;have H:Hid (St w b pv s deep r):=h;have I:Hid (w.ownsRow 0 92 8 pv n xs):=f;have J:Hid (ZJn 176 s (fun ts d=>rec 0 ts d) L):=l;have K:Hid (Bud M n r):=m;have N:Hid (∀ts,r=.ok ((),ts)->ts.length<=L+1):=o;clear h f l m o;go_enter func315,ntmps315
  go_wp2_with fail
  refine(St.take H.out k _).mono ?_;rintro e y ⟨rfl,a,c⟩;rw[show bl ⟨#[40]⟩=[40] from rfl]at a;have q:Hid (St y b pv s deep (bnd r fun _ ts=>Zq [40] ts)):=a;have u:Hid (y.ownsRow 0 92 8 pv n xs):=ZJs H.out I.out c;have v:Hid (w.grownBy y (some b)):=c;clear a c
  go_wp2_with fail
  refine(J.out y b pv deep _ n xs M q.out u.out G (Bud.take K.out _) (ZMT N.out) p).mono ?_;rintro e j ⟨i,rfl,x⟩;obtain⟨n2,pv2,ys,s2,o2,k2,b2,r2⟩:=x.out;have g:Hid (St j b pv2 s deep (ZJm (bnd (bnd r fun _ ts=>Zq [40] ts) fun _ ts=>rec 0 ts deep))):=s2;have A:Hid (j.ownsRow 0 92 8 pv2 n2 (xs++ys)):=o2;have B:Hid (Kept b pv w pv2 j):=((Kept.refl b pv w).grown v.out).trans k2;have C:Hid _:=b2;have D:Hid _:=r2;clear x s2 o2 k2 b2 r2
  go_wp2_with fail
  refine(St.take g.out k _).mono ?_;rintro e O ⟨rfl,a,c⟩;rw[show bl ⟨#[41]⟩=[41] from rfl,<-ZNT,<-ZKM]at a;have E:Hid _:=a;have F:Hid _:=c;clear a c;go_wp2;go_ret;refine⟨i,rfl,PartRes.behind g.out A.out B.out ?_ D.out F.out E.out ?_⟩
  · rw[ZKM];exact ZLz C.out
  · intro t z e;rw[ZKM]at e;exact ZM6 e
theorem St.lay(h:St w b pv s deep r)(c:w.ownsRow 0 92 8 pv n xs)(v:n<=6000)(p:PV) :
  CP 230 #[Vp b,.agg #[Vi p.k,Vi p.n,Vi p.op,.string p.nm,.slice p.ca p.cn p.cc,.slice p.ba p.bn p.bc,Vi p.a,Vi p.b]] w fun e u=>
   ∃pv',e=.returned (Vi n)/\St u b pv' s deep r/\u.ownsRow 0 92 8 pv' (n+1) (xs++p.cells)/\Kept b pv w pv' u:=by
 cases r with
 | error x=>
  obtain⟨q,d,f,g,i,j,l⟩:=h;subst f;refine(ZLa w b q d n xs c v p).mono ?_;rintro e u ⟨pv',rfl,m,o,t⟩;exact⟨pv',rfl,⟨_,m,rfl,g,i,j,l⟩,o,t⟩
 | ok x=>
  obtain⟨⟨q,d,f,g,i,j,l,y⟩,_⟩:=h;subst f;refine(ZLa w b q d n xs c v p).mono ?_;rintro e u ⟨pv',rfl,m,o,t⟩;exact⟨pv',rfl,⟨⟨_,m,rfl,g,i,j,l,y⟩,trivial⟩,o,t⟩
theorem ZKt(h:St w b pv s deep r)(d:w.ownsRow 0 92 8 pv n xs)(e:Kept b pv w pv' w')(p:PV)(nd:Nd)(t u:Tr)(a c:Nat)
  (j:ZKf w nd p) (k:p.a=a) (l:p.b=c) (g:a<=n) (i:c<=n) (m:Rep w xs t a) (o:Rep w xs u c):Rep w' (xs++p.cells) (.node 0 0 nd t u) n:=by
 obtain⟨q,f,_⟩:=h.view;obtain⟨g1,g2,g3,g4,g5,g6⟩:=j;exact⟨p,a,c,ZNw d.1 p,⟨g1,g2,g3,g4,g5.kept f d e,g6.kept f d e⟩,k,l,g,i,Rep.kept f d e _ t a m,Rep.kept f d e _ u c o⟩
theorem Kept.set{p1 p2:Value}{y z:World}(h:Kept b p1 y p2 z){a:Addr}(f:y.heap.size<=a.block)(v:Value):Kept b p1 y p2 (z.setCell a v):=
 ⟨h.os,h.tape,h.output,by rw[Go.Deep.nblk_setCell];exact h.size,fun k c d e=>(Go.Deep.blk_setCell_other _ _ _ _ Om).trans (h.block k c d e),h.own⟩
theorem ZKH{e:TypeId}(h:w.ownsRow base e size v n xs):w.ownsRow 0 e size v n xs:=by
 refine⟨h.1,?_⟩;rcases h.2 with a|⟨g,cap,cur,rfl,_,r⟩
 ·exact Or.inl a
 ·exact Or.inr ⟨g,cap,cur,rfl,Yag _,r⟩
theorem ZKe{e:TypeId}(h:w.ownsRow base e size v n xs)(b:PAt w a p)(c:92≠e){o:Nat}{x:Value}:(w.setCell ⟨a,o,none⟩ x).ownsRow base e size v n xs:=
 ZdA h fun k d=>Go.Deep.blk_setCell_other _ _ _ _ (by rintro rfl;exact Zcx h b c d.symm)
theorem ZJq.grown{cs:List (LB×LB×Bool)}(h:ZJq w base p cs){r:Option Nat}(c:w.grownBy w' r)(d:∀k,(Value.slice p.ca p.cn p.cc).ownBlock=some k->some k≠r):ZJq w' base p cs:=by
 obtain⟨qs,a,e⟩:=h;exact⟨qs,ZdA a (fun k b=>c.block k (a.lt k b).2 (d k b)),e⟩
theorem ZMP(c:Kept b pv w pv' w')(d:pv.ownBlock≠some a)(f:a<w.heap.size):pv'.ownBlock≠some a:=by
 rcases c.own with e|e
 ·rw[e];exact d
 ·intro h;have:=e a h;omega
theorem Rep.box{p0:PV}(b:PAt w a p0)(o:Nat)(x:Value):∀(t:Tr) (i:Nat),Rep w xs t i->Rep (w.setCell ⟨a,o,none⟩ x) xs t i
 | .nil,_,_=>trivial
 | .node _ _ nd l r, i, h => by
   obtain⟨p,u,c,d,⟨g1,g2,g3,g4,⟨qs,q1,q2⟩,⟨bs,b1,b2⟩⟩,e,f,g,j,k,m⟩:=h;exact⟨p,u,c,d,⟨g1,g2,g3,g4,⟨qs,ZKe q1 b Dc,q2⟩,⟨bs,ZKe b1 b Dc,b2⟩⟩,e,f,g,j,Rep.box b o x l u k,Rep.box b o x r c m⟩
def NRel(r3:Out Unit)(qs:List BA)(rr:Out Unit):Prop:=(∃e,r3=.error e/\rr=.error e/\qs=[])∨∃ts0,r3=.ok ((),ts0)/\ZJu (ZH 2) [41] bl (ts0.length+1) ts0 qs rr
def ZJS(r3:Out Unit):Out (List (LB)):=bnd r3 fun _ r=>ZS (ZH 2) [41] (r.length+1) [] r
theorem NRel.start(r3:Out Unit):NRel r3 [] r3:=by
 cases r3 with
 | error e=>exact Or.inl ⟨e,rfl,rfl,rfl⟩
 | ok x=>exact Or.inr ⟨x.2,rfl,ZJu.start _ _ _ _ _ (Yac _)⟩
theorem NRel.len{K:Nat}(h:NRel r3 qs rr)(a:∀ts,r3=.ok ((),ts)->ts.length<=K):qs.length<=K+1:=by
 rcases h with ⟨e,_,_,rfl⟩|⟨ts0,b,c⟩
 ·simp
 ·have:=a ts0 b;have:=c.2.2;omega
theorem NRel.round{x:BA}{r1 r4:Out Unit}(h:NRel r3 qs (.ok ((),ts)))(a:isT [41] (hd ts)=false)
  (b:(if qs.isEmpty then .ok ((),ts)else Zq [44] ts)=r1) (c:r4=bnd r1 fun _ t=>ZJm (ZH 2 t)) (d:∀y,r1=.ok y->∀z,ZH 2 y.2=.ok z->bl x=z.1):NRel r3 (qs++[x]) r4:=by
 rcases h with ⟨e,_,h,_⟩|⟨ts0,f,g⟩
 ·cases h
 ·exact Or.inr ⟨ts0,f,ZJu.round g a b c (fun t z e i=>d _ e z i) (Zxx 2 Dc)⟩
theorem NRel.done(h:NRel r3 qs rr)(hd:isR [41] rr=true∨∃e,rr=.error e) :
  ZJm (ZJS r3)=(bnd rr fun _ ts=>Zq [41] ts)/\∀z,ZJS r3=.ok z->qs.map bl=z.1:=by
 rcases h with ⟨e,rfl,rfl,rfl⟩|⟨ts0,rfl,a⟩
 ·exact⟨rfl,fun z b=>(by cases b)⟩
 ·exact ZJu.done a hd
theorem ZMw (rec : Nat -> List Tok -> Nat -> Out Tr) (g : Nat) (ts : List Tok) (deep : Nat) : Zcb rec g ts deep = bnd (ZJS (bnd (Zq wBy ts) fun _ r => Zq [40] r)) fun ns r => bnd (Zbu rec r deep) fun a r => .ok (.node 0 0 ⟨5, g, 0, [], [], ns⟩ a .nil, r) := by
  unfold Zcb ZJS;rw[ZJZ,ZJZ]
theorem ZK0 (N : Out (List (LB))) (rec : Nat -> List Tok -> Nat -> Out Tr) (g deep : Nat) : ZJm (bnd N fun ns r => bnd (Zbu rec r deep) fun a r => (.ok (.node 0 0 ⟨5, g, 0, [], [], ns⟩ a .nil, r) : Out Tr)) = ZJm (bnd (ZJm N) fun _ ts => Zbu rec ts deep) := by
  cases N with
  | error e=>rfl
  | ok x=>
    show ZJm (bnd (Zbu rec x.2 deep) fun a r=>(.ok (.node 0 0 ⟨5,g,0,[],[],x.1⟩ a .nil,r):Out Tr))=ZJm (Zbu rec x.2 deep);cases Zbu rec x.2 deep with
    | error e=>rfl
    | ok y=>rfl
theorem ZMy {N : Out (List (LB))}  {g:Nat} {t : Tr}  (h : (bnd N fun ns r => bnd (Zbu rec r deep) fun a r => (.ok (.node 0 0 ⟨5, g, 0, [], [], ns⟩ a .nil, r) : Out Tr)) = .ok (t, z)) :
    ∃ns zz a,N=.ok (ns,zz)/\(bnd (ZJm N) fun _ ts=>Zbu rec ts deep)=.ok (a,z)/\t=.node 0 0 ⟨5,g,0,[],[],ns⟩ a .nil:=by
  obtain⟨ns,zz,c,d⟩:=Ze h;obtain⟨a,z2,e,b⟩:=Ze d;injection b with b;injection b with b h5;subst c;subst h5;exact⟨ns,zz,a,rfl,e,b.symm⟩
theorem ZM3(h:Bud M n r3):Bud M n (ZJm (ZJS r3)):=
 Bud.unit (h.bnd fun _ ts z _ a=>by have:=Zmc (Zxx 2 Dc) _ _ _ _ a;omega)
theorem ZM2(h:∀ts,r3=.ok ((),ts)->ts.length<=L):∀ts,ZJm (ZJS r3)=.ok ((),ts)->ts.length<=L:=by
 intro ts e;unfold ZJm at e;obtain⟨ns,t1,b,a⟩:=Ze e;injection a with a;injection a with _ a;subst a;unfold ZJS at b;obtain⟨_,t2,c,d⟩:=Ze b;have:=Zmc (Zxx 2 Dc) _ _ _ _ d;have:=h t2 c;simp at *
 omega
theorem ZLB{a:Value}{t:TypeId}(b:W.heap.size=n):∀j x,[a][j]?=some x->(W.alloc (.cells #[a] t)).cell? ((⟨n,0,none⟩:Addr).add j)=some x:=by
 intro j x c;subst b;rw[ZfO];have h:=Go.Deep.blk_alloc_new W (.cells #[a] t);simp only[World.cell?,h];simpa using c
theorem Tryz.infoStr:(Tryz.prog.info? 9).map (fun i=>(i.zero,i.size,i.bytes))=some (some (.string ByteArray.empty),1,16):=by kernel_rfl
theorem ZMx(h:St w b pv s deep (.ok ((),ts)))(X:s.size<=6000)(hl:¬((hd ts).jj=0∨(hd ts).jj=5))(g:Nat){gi:Int}(e7:gi=g)
  {rec:Nat->List Tok->Nat->Out Tr}  (hw:ZJn 315 s (Zbu rec) L) (hL:ts.length<=L)    (P:w.ownsRow 0 92 8 pv n xs) (hM:M<=6000) (hB:n+ts.length<=M) (e8:deep<=20) :
  CP 317 #[Vp b,Vi gi] w fun e w'=>∃i:Int,e=.returned (Vi i)/\PartRes w b pv s deep xs M (Zcb rec g ts.tail deep) i w':=by
 subst e7;have e9:=h.lt;have f0:ts≠[]:=by rintro rfl;exact hl (Or.inl rfl)
 have i8 : ts.tail.length + 1 = ts.length := by cases ts with
   | nil=>exact absurd rfl f0
   | cons t r=>rfl
 have HX:Hid (pv.ownBlock≠some w.heap.size):=hid (fun e=>by have:=(P.lt _ e).2;omega);have H:Hid (∀o,St (w.alloc o) b pv s deep (.ok ((),ts))):=fun o=>St.kept h (Go.Deep.blk_alloc_lt _ _ _ e9);have HO:Hid (∀o,(w.alloc o).ownsRow 0 92 8 pv n xs):=fun o=>P.alloc o;have HW:Hid (ZJn 315 s (Zbu rec) L):=hw;obtain⟨r1,Q⟩:∃r1:Out Unit,r1=.ok ((),ts.tail):=⟨_,rfl⟩
 obtain⟨r3,R⟩:∃r3:Out Unit,r3=bnd (Zq wBy ts.tail) fun _ r=>Zq [40] r:=⟨_,rfl⟩
 have f1:Hid (Bud (M - 1) n r3):=hid (by
  have h1:Bud (M - 1) n r1:=by rw[Q];exact(show n+ts.tail.length<=M - 1 by omega)
  have h2:=Bud.take (Bud.take h1 wBy) [40];rw[Q]at h2;rw[R];exact h2)
 have b3:Hid (∀t,r3=.ok ((),t)->t.length<=ts.length):=hid (by
  intro t e;rw[R]at e;obtain⟨_,t1,h1,h2⟩:=Ze e;have:=ZeB h1;have:=ZeB h2;simp at *
  omega)
 have i7:ts.length<=6002:=by have:=St.len h;simp at this;omega
 have b4:Hid (r1=.ok ((),ts.tail)):=Q;have b5:Hid (r3=bnd (Zq wBy ts.tail) fun _ r=>Zq [40] r):=R;clear h P hw Q R;obtain⟨i0,hi,f2,f3,f4⟩:=info_parts Tryz.infoStr;go_enter func317,ntmps317
 go_wp2_with fail
 refine(St.next (H.out _) X ⟨ts,rfl,hl⟩).mono ?_;rintro e w1 ⟨rfl,d,c⟩;have Y:Hid (St w1 b pv s deep r1):=by rw[b4.out];exact d
 have b6:Hid (PAt w1 w.heap.size { pv0 5 with op:=g }):=PAt.grown (Go.Deep.blk_alloc_new _ _) c (by simp;omega);have b7:Hid (w1.ownsRow 0 92 8 pv n xs):=ZJs (H.out _) (HO.out _) c;have b8:Hid (w.grownBy w1 (some b)):=Zj (Ygj w _ _) c;clear d c
 go_wp2_with fail
 refine(St.take Y.out X _).mono ?_;rintro e w2 ⟨rfl,d,c⟩;have Z:Hid (St w2 b pv s deep (Zq wBy ts.tail)):=by rw[b4.out]at d;exact d
 have b9:Hid (PAt w2 w.heap.size { pv0 5 with op:=g }):=PAt.grown b6.out c (by simp;omega);have c0:Hid (w2.ownsRow 0 92 8 pv n xs):=ZJs Y.out b7.out c;have c1:Hid (w.grownBy w2 (some b)):=Zj b8.out c;clear d c Y b6 b7 b8
 go_wp2_with fail
 refine(St.take Z.out X _).mono ?_;rintro e w3 ⟨rfl,d,c⟩;have a0:Hid (St w3 b pv s deep r3):=by rw[b5.out];exact d
 have c2:Hid (PAt w3 w.heap.size ⟨5,0,g,⟨#[]⟩,none,0,0,none,0,0,0,0⟩):=PAt.grown b9.out c (by simp;omega);have c3:Hid (w3.ownsRow 0 92 8 pv n xs):=ZJs Z.out c0.out c;have c4:Hid (w.grownBy w3 (some b)):=Zj c1.out c;clear d c Z b9 c0 c1
 go_wp2_with fail
 refine(St.is a0.out _).mono ?_;rintro e w4 ⟨rfl,rfl⟩;rw[show bl ⟨#[41]⟩=[41] from rfl];go_wp2
 go_loopw [6] (fun v6 wr => ∃ (qs : List BA) (ba : Option Addr) (bc : Nat) (rr : Out Unit), v6 = .bool (isR [41] rr) /\ Hid (St wr b pv s deep rr) /\
     Hid (PAt wr w.heap.size ⟨5,0,g,⟨#[]⟩,none,0,0,ba,qs.length,bc,0,0⟩)/\Hid (wr.ownsRow w.heap.size 9 1 (.slice ba qs.length bc) qs.length (qs.map .string))/\Hid (wr.ownsRow 0 92 8 pv n xs)/\Hid (w.grownBy wr (some b))/\Hid (NRel r3 qs rr))
     (fun _ wr=>ts.length+2 - ZJF wr ⟨w.heap.size,5,none⟩)
 case atStart=>exact⟨[],none,0,r3,rfl,a0,c2,Ybc _ _ _ _,c3,c4,NRel.start _⟩
 case round=>
  obtain⟨qs,ba,bc,rr,rfl,v,E,F,K,G,S⟩:=hrel;clear a0 c2 c3 c4;obtain⟨qr,T,_,_,c5,c6⟩:=St.view v.out;have c7:=(QAt.all T).2.2.2.2.2.2.2.1;have d8:=T.lt
  have d9:((isR [41] rr=true∨(isR [41] rr=false/\((qr.e:Int) == 0)=false))/\(isR [41] rr=true∨∃e,rr=.error e))∨(isR [41] rr=false/\((qr.e:Int) == 0)=true/\∃ts,rr=.ok ((),ts)/\isT [41] (hd ts)=false):=by
   cases rr with
   | error e=>exact Or.inl ⟨Or.inr ⟨rfl,by rw[beq_eq_false_iff_ne];have:=(c5 e rfl).2.1;omega⟩,Or.inr ⟨e,rfl⟩⟩
   | ok y=>
    obtain⟨⟨⟩,ts⟩:=y;have h0:=(c6 _ rfl).1;cases hc:isT [41] (hd ts)
    ·exact Or.inr ⟨hc,by rw[h0];rfl,ts,rfl,hc⟩
    ·exact Or.inl ⟨Or.inl hc,Or.inl hc⟩
  have i9:qs.length<=ts.length+1:=NRel.len S.out b3.out;have N:Hid (some b≠(Value.slice ba qs.length bc).ownBlock):=Zcx F.out T Dc;clear T c5 c6;rcases d9 with ⟨U,a1⟩|⟨f7,f8,tr,f9,g0⟩
  ·have a2:Hid _:=NRel.done S.out a1;clear a1;generalize isR [41] rr=v6 at U;rcases U with rfl|⟨rfl,he⟩
   all_goals
    go_wp2_with fail
    refine(St.take v.out X _).mono ?_;rintro e q ⟨rfl,d,c⟩;rw[show bl ⟨#[41]⟩=[41] from rfl,<-a2.1]at d;have m:Hid (St q b pv s deep (ZJm (ZJS r3))):=d;have j:Hid (PAt q w.heap.size ⟨5,0,g,⟨#[]⟩,none,0,0,ba,qs.length,bc,0,0⟩):=PAt.grown E.out c (by simp;omega);have A:Hid (q.ownsRow w.heap.size 9 1 (.slice ba qs.length bc) qs.length (qs.map .string)):=Yf6 F.out c (Or.inr (fun h=>N.out h.symm));have B:Hid (q.ownsRow 0 92 8 pv n xs):=ZJs v.out K.out c;have C:Hid (w.grownBy q (some b)):=Zj G.out c;clear d c v E F K G S c7
    go_wp2_with fail
    refine(HW.out q b pv deep _ n xs (M - 1) m.out B.out Om (ZM3 f1.out) (ZM2 (fun t e=>Yah (b3.out t e) hL)) e8).mono ?_;rintro e f ⟨i,rfl,hp⟩;obtain⟨n2,pv2,ys,s2,o2,k2,b2,r2⟩:=hp.out;have a3:w.heap.size<q.heap.size:=PAt.lt j.out;have I:PAt f w.heap.size ⟨5,0,g,⟨#[]⟩,none,0,0,ba,qs.length,bc,0,0⟩:=PAt.kept j.out (k2.block _ a3 Om (fun e=>HX.out e.symm))
    have c8:f.ownsRow w.heap.size 9 1 (.slice ba qs.length bc) qs.length (qs.map .string):=by
     obtain⟨qq,g1,_⟩:=St.view m.out;exact ZKC g1 B.out k2 A.out Dc Dc
    have g2:pv2.ownBlock≠some w.heap.size:=ZMP k2 HX.out a3;have l6:=(PAt.all I).2.2.2.2.2.2.1;have f6:=PAt.frozen I 6;have a4:Hid (St (f.setCell ⟨w.heap.size,6,none⟩ (Vi i)) b pv2 s deep (ZJm (bnd (ZJm (ZJS r3)) fun _ ts=>Zbu rec ts deep))):=St.kept s2 (Go.Deep.blk_setCell_other _ _ _ _ (by show b≠w.heap.size;omega));have c9:Hid (PAt (f.setCell ⟨w.heap.size,6,none⟩ (Vi i)) w.heap.size ⟨5,0,g,⟨#[]⟩,none,0,0,ba,qs.length,bc,i,0⟩):=PAt.setA I i;have d0:Hid ((f.setCell ⟨w.heap.size,6,none⟩ (Vi i)).ownsRow 0 9 1 (.slice ba qs.length bc) qs.length (qs.map .string)):=ZKH (ZKe c8 I Dc);have a5:Hid ((f.setCell ⟨w.heap.size,6,none⟩ (Vi i)).ownsRow 0 92 8 pv2 n2 (xs++ys)):=ZdA o2 (fun k hk=>Go.Deep.blk_setCell_other _ _ _ _ (by rintro rfl;exact g2 hk));have d1:Hid (Kept b pv w pv2 (f.setCell ⟨w.heap.size,6,none⟩ (Vi i))):=Kept.set ((((Kept.refl b pv w).grown C.out)).trans k2) (Yac _) _;have d2:Hid _:=b2
    have d3 : Hid (∀ t z, (bnd (ZJm (ZJS r3)) fun _ ts => Zbu rec ts deep) = .ok (t, z) -> ∃ k : Nat, i = k /\ Rep (f.setCell ⟨w.heap.size, 6, none⟩ (Vi i)) (xs ++ ys) t k /\ k + 1 = n2 /\ ys.length = 8 * cntT t) := hid (by
      intro t z e;obtain⟨k,e1,e2,e3⟩:=r2 t z e;exact⟨k,e1,Rep.box I _ _ t k e2,e3⟩)
    have k0:=PAt.all c9.out;obtain⟨m0,m1,m2,m3,m4,m5,m6,m7⟩:=k0;have g3:n2<=6000:=by have:=Bud.le d2.out;omega
    clear hp s2 o2 k2 b2 r2 I c8 m j A B C
    go_wp2_with fail
    clear l6 f6;generalize f.setCell ⟨w.heap.size,6,none⟩ (Vi i)=w7 at a4 c9 d0 a5 d1 d3 m0 m1 m2 m3 m4 m5 m6 m7 ⊢;refine(St.lay a4.out a5.out g3 ⟨5,0,g,⟨#[]⟩,none,0,0,ba,qs.length,bc,i,0⟩).mono ?_;rintro e w8 ⟨pv8,rfl,s8,o8,k8⟩
    have g4:Hid (PartRes w b pv s deep xs M (Zcb rec g ts.tail deep) n2 w8):=hid (by
     rw[ZMw,<-b5.out];refine⟨n2+1,pv8,ys++(⟨5,0,g,⟨#[]⟩,none,0,0,ba,qs.length,bc,i,0⟩:PV).cells,?_,?_,d1.trans k8,?_,?_⟩
     ·rw[ZK0];exact s8
     ·rw[<-Yan];exact o8
     ·refine Bud.of_unit ?_;rw[ZK0];exact Bud.up (Bud.unit d2.out) Om
     ·intro t z e;obtain⟨ns,zz,a,e1,e2,rfl⟩:=ZMy e;obtain⟨k,e3,e4,e5,e6⟩:=d3.out a z e2;refine⟨n2,rfl,?_,rfl,by rw[Yab,e6];show _+8=8*(cntT a+0+1);omega⟩;rw[<-Yan];exact ZKt a4.out a5.out k8 _ ⟨5,g,0,[],[],ns⟩ a .nil k 0 ⟨rfl,rfl,rfl,rfl,ZJq.nil _ _ _ rfl rfl rfl,⟨qs,d0.out,a2.2 _ e1⟩⟩ e3 rfl Om (Yag _) e4 trivial)
    clear s8 o8 k8;go_wp2;go_ret;exact⟨_,rfl,g4.out⟩
  ·subst f9;have a6:=(PAt.all E.out).2.2.2.2.2.1;have g5:Hid (ZJF wr ⟨w.heap.size,5,none⟩=qs.length):=hid (by unfold ZJF;rw[a6]);have g6:=G.size;rw[f7]
   go_upto_if 29 with fail
   go_cut [] from 17 to 40 (fun D=>∃r5:Out Unit,Hid ((if qs.isEmpty then .ok ((),tr)else Zq [44] tr)=r5)/\Hid (St D b pv s deep r5)/\Hid (PAt D w.heap.size ⟨5,0,g,⟨#[]⟩,none,0,0,ba,qs.length,bc,0,0⟩)/\Hid (D.ownsRow w.heap.size 9 1 (.slice ba qs.length bc) qs.length (qs.map .string))/\Hid (D.ownsRow 0 92 8 pv n xs)/\Hid (w.grownBy D (some b)))
   case first=>
    by_cases d4:qs.length=0
    ·have a7:decide (0<(qs.length:Int))=false:=decide_eq_false Om;have HQ:Hid (qs.isEmpty=true):=hid (by rw[Ygc.1 d4];rfl);go_wp2
     go_meet
     exact⟨_,rfl,by rw[HQ.out];exact v,E,F,K,G⟩
    ·have a7:decide (0<(qs.length:Int))=true:=decide_eq_true Om;have g8:0<qs.length:=by omega
     have HQ : Hid (qs.isEmpty = false) := hid (by cases qs with
       | nil=>exact absurd rfl d4
       | cons a l=>rfl)
     go_wp2_with fail
     clear a7 g8;refine(St.take v.out X _).mono ?_;rintro e q ⟨rfl,d,c⟩;have m:Hid (St q b pv s deep (Zq [44] tr)):=d;have j:Hid (PAt q w.heap.size ⟨5,0,g,⟨#[]⟩,none,0,0,ba,qs.length,bc,0,0⟩):=PAt.grown E.out c (by simp;omega);have A:Hid (q.ownsRow w.heap.size 9 1 (.slice ba qs.length bc) qs.length (qs.map .string)):=Yf6 F.out c (Or.inr (fun h=>N.out h.symm));have B:Hid (q.ownsRow 0 92 8 pv n xs):=ZJs v.out K.out c;have C:Hid (w.grownBy q (some b)):=Zj G.out c;clear d c;go_wp2
     go_meet
     exact⟨_,rfl,by rw[HQ.out];exact m,j,A,B,C⟩
   case rest=>
   obtain⟨r5,g9,m,j,A,B,C⟩:=hcut;clear v E F K G c7 d8 g6 a6 f8;have k5:=(PAt.all j.out).2.2.2.2.2.1;have a3:w.heap.size<wc.heap.size:=PAt.lt j.out;have a8:Hid (St wc.drew b pv s deep r5):=St.kept m.out rfl
   go_upto_region 9 with fail
   go_cut [] from 17 to 40 (fun D=>∃(x:BA) (gb cp:Nat),Hid (∀y,r5=.ok y->∀z,ZH 2 y.2=.ok z->bl x=z.1)/\Hid (St D b pv s deep (bnd r5 fun _ t=>ZJm (ZH 2 t)))/\Hid (PAt D w.heap.size ⟨5,0,g,⟨#[]⟩,none,0,0,some ⟨gb,0,none⟩,qs.length+1,cp,0,0⟩)/\Hid (D.ownsRow w.heap.size 9 1 (.slice (some ⟨gb,0,none⟩) (qs.length+1) cp) (qs.length+1) ((qs++[x]).map .string))/\Hid (D.ownsRow 0 92 8 pv n xs)/\Hid (w.grownBy D (some b)))
   case first=>
    go_region_law (first
      | (fail_if_success (have h6 := HO6)
         go_simp
         go_wp2_with (
           go_at_call 320
           refine(St.jj a8.out X 2 _ rfl Dc).mono ?_;rintro e f ⟨x,rfl,d,hx,c⟩;have J:wc.grownBy f (some b):=⟨c.os,c.tape,c.output,c.size,c.block⟩
           have a9:Hid (St f b pv s deep (bnd r5 fun _ t=>ZJm (ZH 2 t))):=d;have O:Hid (PAt f w.heap.size ⟨5,0,g,⟨#[]⟩,none,0,0,ba,qs.length,bc,0,0⟩):=PAt.grown j.out J (by simp;omega);have HO6:Hid (∀o,(f.alloc o).ownsRow w.heap.size 9 1 (.slice ba qs.length bc) qs.length (qs.map .string)):=fun o=>Yf8 (Yf6 A.out J (Or.inr (fun h=>N.out h.symm))) o;have b0:Hid (f.ownsRow w.heap.size 9 1 (.slice ba qs.length bc) qs.length (qs.map .string)):=Yf6 A.out J (Or.inr (fun h=>N.out h.symm));have d5:Hid (f.ownsRow 0 92 8 pv n xs):=ZJs m.out B.out J;have i1:Hid (w.grownBy f (some b)):=Zj C.out J;have j0:w.heap.size<f.heap.size:=PAt.lt O.out;have l5:=(PAt.all O.out).2.2.2.2.2.1;clear d c J))
      | (refine ZfF rfl (.tmp 33) (.tmp 36) 90 rfl w.heap.size 9 i0 _ 1 16 underlying90 hi f2 f3 f4 rfl Dc (.slice ba qs.length bc) qs.length (qs.map .string) (by simp [Act.eval]) (HO6.out _) ⟨f.heap.size, 0, none⟩ 1 1 [.string x] (by simp [Act.eval]) rfl (ZLB rfl) ?h3 ?h4 ?h5 ?h6 ?_
         case h3=>intro u hu;simp at hu;subst hu;rfl
         case h4=>unfold maxLen;omega
         case h5=>omega
         case h6=>simp;omega
         intro v7 w7 V p _;have b1:=ZF V Om;obtain⟨g7,cp7,b1⟩:=b1;subst b1;have W:PAt w7 w.heap.size ⟨5,0,g,⟨#[]⟩,none,0,0,ba,qs.length,bc,0,0⟩:=PAt.grown (PAt.kept O.out (Go.Deep.blk_alloc_lt _ _ _ (PAt.lt O.out))) p (Zcx b0.out O.out Dc);have m5:=(PAt.all W).2.2.2.2.2.1;have f5:=PAt.frozen W 5))
    all_goals
     go_wp2
     go_meet
     have st7:St w7 b pv s deep (bnd r5 fun _ t=>ZJm (ZH 2 t)):=St.kept (St.kept a9.out (Go.Deep.blk_alloc_lt _ _ _ (St.lt a9.out))) (p.block b (by rw[Go.Deep.nblk_alloc];have:=St.lt a9.out;omega) N.out);have i2:w7.ownsRow 0 92 8 pv n xs:=Yf6 (Yf8 d5.out _) p (ZmC d5.out b0.out Dc);have i3:w.grownBy w7 (some b):=ZKd (ZbR i1.out _) p (fun k hk=>(b0.lt k hk).1);refine⟨x,g7,cp7,hx,St.kept st7 (Go.Deep.blk_setCell_other _ _ _ _ (by show b≠w.heap.size;omega)),PAt.setBy W _ _ _,?_,?_,ZA i3 (Or.inr (Yac _)) _⟩
     ·rw[Yaq];exact ZKe V W Dc
     ·exact ZdA i2 (fun k hk=>Go.Deep.blk_setCell_other _ _ _ _ (by rintro rfl;exact HX.out hk))
   case rest=>
   obtain⟨x,gb,cp,Hx,d6,d7,i4,i5,i6⟩:=hcut;have e0:Hid (ZJF wc ⟨w.heap.size,5,none⟩=qs.length+1):=hid (by unfold ZJF;rw[(PAt.all d7.out).2.2.2.2.2.1]);clear k5 m j A B C a8
   go_wp2_with fail
   refine(St.is d6.out _).mono ?_;rintro e wz ⟨rfl,rfl⟩;rw[show bl ⟨#[41]⟩=[41] from rfl];go_wp2
   go_roundw
   case rel=>exact⟨qs++[x],some ⟨gb,0,none⟩,cp,_,rfl,d6,by rw[Yab];exact d7,by rw[Yab];exact i4,i5,i6,NRel.round S.out g0 g9.out rfl Hx.out⟩
   case measure=>
    rw[g5.out,e0.out];omega
def Zb1:List (BA×BA×Bool)->List Value
 | []=>[]
 | c::l=>.string c.1::.bool c.2.2::.string c.2.1::Zb1 l
theorem Zpk(l m:List (BA×BA×Bool)):Zb1 (l++m)=Zb1 l++Zb1 m:=by
 induction l with
 | nil=>rfl
 | cons a l ih=>simp[Zb1,ih]
def Zbc(l:List BA):List Value:=l.map .string
theorem Zh2(l m:List BA):Zbc (l++m)=Zbc l++Zbc m:=Yaq
def Z7(c:BA×BA×Bool):LB×LB×Bool:=(bl c.1,bl c.2.1,c.2.2)
def Zbm(w:World)(v:Value)(ns:List (LB)):Prop:=∃bs:List BA,w.ownsRow 0 9 1 v bs.length (Zbc bs)/\bs.map bl=ns
def ZX(w:World)(v:Value)(cs:List (LB×LB×Bool)):Prop:=∃bs:List (BA×BA×Bool),w.ownsRow 0 379 3 v bs.length (Zb1 bs)/\bs.map Z7=cs
theorem Tryz.infoCondD:(Tryz.prog.info? 379).map (fun i=>(i.zero,i.size,i.bytes))=some (some (.agg #[.string ByteArray.empty,.bool false,.string ByteArray.empty]),3,40):=by kernel_rfl
theorem ZcY{t:TypeId}(a:W.heap.size=n):∀j x,l[j]?=some x->(W.alloc (.cells ⟨l⟩ t)).cell? ((⟨n,0,none⟩:Addr).add j)=some x:=by
 intro j x b;subst a;rw[ZfO];have h:=Go.Deep.blk_alloc_new W (.cells ⟨l⟩ t);simp only[World.cell?,h];simpa using b
theorem Zgi{e:TypeId}(h:w.ownsRow base e size v n xs):w.ownsRow 0 e size v n xs:=by
 refine⟨h.1,?_⟩;rcases h.2 with a|⟨g,cap,cur,h,_,r⟩
 ·exact Or.inl a
 ·exact Or.inr ⟨g,cap,cur,h,Yag _,r⟩
theorem Zfu{e:TypeId}(h:w.ownsRow base e size v n xs)(a:w.grownBy w' (some b))(c:b<base):w'.ownsRow base e size v n xs:=
 h.kept a (Or.inr (fun q=>by have:=(h.lt b q).1;omega))
theorem Zfn(h:w0.grownBy w (some b))(a:w.grownBy w' v.ownBlock)(f:∀q,v.ownBlock=some q->w0.heap.size<=q):w0.grownBy w' (some b):=by
 refine⟨a.os.trans h.os,a.tape.trans h.tape,a.output.trans h.output,Yah h.size a.size,?_⟩;intro j c d;rw[a.block j (Yaw c h.size) (fun e=>by have:=f j e.symm;omega),h.block j c d]
theorem RK.grown{R:RS}{k0:Nat}{ts0:List Tok}(a:RK w0 R k0 ts0)(h:RK w R k ts)(b:w.grownBy w' v.ownBlock)(c:∀q,v.ownBlock=some q->w0.heap.size<=q):RK w' R k ts:=by
 refine h.blocks (fun j d f=>b.block j d (fun e=>?_));have:=c j e.symm;have n:=(Yae.1 a.rd.cells).1;have o:=Z1 a.rd.own;have g:=Yai _ _ a.sy;have i:=Yai _ _ a.dp;have l:1<w0.heap.size:=g;have m:2<w0.heap.size:=i;rcases f with rfl|rfl|rfl|rfl <;> omega
theorem Zma{α:Type}{item:List Tok->Out α}{acc:List α}(h:isT close (hd ts)=true):ZS item close (m+1) acc ts=.ok (acc,ts.tail):=if_pos h
theorem Zmb {α : Type} {item : List Tok -> Out α}    (h : isT close (hd ts) = false) : ZS item close (m + 1) [] ts = bnd (item ts) fun a r => ZS item close m [a] r := by
  show(if isT close (hd ts)=true then _ else _)=_;rw[h];rfl
theorem Zmd {α : Type} {item : List Tok -> Out α}   {acc : List α}  (h : isT close (hd ts) = false) (b : acc ≠ []) : ZS item close (m + 1) acc ts = bnd (Zq [44] ts) fun _ r => bnd (item r) fun a r => ZS item close m (acc ++ [a]) r := by
  show(if isT close (hd ts)=true then _ else _)=_;rw[h];cases acc with
  | nil=>exact absurd rfl b
  | cons a l=>rfl
theorem ZdU{s:LB}(h:isT s (hd ts)=true):Zq s ts=.ok ((),ts.tail):=if_pos h
theorem Ze8{s:LB}(h:¬isT s (hd ts)=true):Zq s ts=.error (2,(hd ts).at_):=if_neg h
theorem Zjt{a:LB}{r:List Tok}(h:ZH k ts=.ok (a,r)):r=ts.tail:=by
 unfold ZH at h;split at h
 ·cases h;rfl
 ·cases h
theorem Zot{a:LB×LB×Bool}{r:List Tok}(h:ZV ts=.ok (a,r)):r.length<=ts.tail.length:=by
 have:=Zos ts (a,r) h;simp only[Yb4]at *
 omega
theorem RK.pos{R:RS}(h:RK w R k ts):0<ts.length:=h.wf.head.2.1
theorem ZyA  {R : RS}   (h : RK w R k ts) (op cl : BA) (a8 : (bl op).all (fun c => !Zp c) = true /\ bl op ≠ []) (a9 : (bl cl).all (fun c => !Zp c) = true /\ bl cl ≠ []) :
    CP 235 #[Vp R.b,.string op,.string cl,.func (.func 236) #[] #[]] w fun e w'=>∃(la:Option Addr) (ln lc:Nat) (v:Value),e=.returned (.tuple #[.slice la ln lc,v])/\Hid (Res R (fun w' ns=>Zbm w' (.slice la ln lc) ns) w' (bnd (Zq (bl op) ts) fun _ r=>ZS (ZH 2) (bl cl) (r.length+1) [] r) v)/\w.grownBy w' (some R.b):=by
  have H:Hid (RK w R k ts):=h;have P:R.b<w.heap.size:=(Yae.1 h.rd.cells).1;obtain⟨i0,hi,b0,b1,b2⟩:=info_parts Tryz.infoStr;have b3:Hid ((bl op).all (fun c=>!Zp c)=true/\bl op≠[]):=a8;have Q:Hid ((bl cl).all (fun c=>!Zp c)=true/\bl cl≠[]):=a9;clear h a8 a9;obtain⟨PL,Z⟩:∃PL:Out (List (LB)),PL=bnd (Zq (bl op) ts) fun _ r=>ZS (ZH 2) (bl cl) (r.length+1) [] r:=⟨_,rfl⟩
  rw[<-Z];have a0:Hid (PL=bnd (Zq (bl op) ts) fun _ r=>ZS (ZH 2) (bl cl) (r.length+1) [] r):=Z;clear Z;go_enter func235,ntmps235
  go_wp2_with fail
  refine(ZdT H.out op b3.1 b3.2).mono ?_;rintro e w1 ⟨v,rfl,d,hg⟩;have a1:Hid (w.grownBy w1 (some R.b)):=hg;clear hg;by_cases h1:isT (bl op) (hd ts)=true
  · rw[ZdU h1]at d
    have j:Hid (ZS (ZH 2) (bl cl) (ts.tail.length+1) [] ts.tail=PL):=hid (by rw[a0.out,ZdU h1];rfl);obtain⟨rfl,⟨k1,b4⟩,_⟩:=d.out;have D:Hid (RK w1 R k1 ts.tail):=b4;clear d b4 h1;obtain⟨r0,b5⟩:∃r0,r0=ts.tail:=⟨_,rfl⟩
    rw[<-b5]at D j;clear b5;go_wp2
    go_loopg [11] r0.length (fun g v11 wr=>∃(bs:List BA) (r:List Tok) (k2 n:Nat),g=r.length/\Hid (RK wr R k2 r)/\Hid (wr.ownsRow w.heap.size 9 1 v11 bs.length (Zbc bs))/\Hid (r.length<n/\bs.length+r.length<=302/\ZS (ZH 2) (bl cl) n (bs.map bl) r=PL)/\Hid (w.grownBy wr (some R.b)))
    case atStart=>exact⟨[],r0,k1,r0.length+1,rfl,D,Ybc _ _ _ _,⟨by omega,by have:=D.size;have:=D.len;simp;omega,j.out⟩,a1⟩
    case round=>
      obtain⟨bs,r,k2,n,c9,HK,HO,E,HG⟩:=hrel;clear D a1 j;obtain⟨m,rfl⟩:∃m,n=m+1:=⟨n - 1,by have:=E.1;omega⟩
      obtain⟨av,cp,hv⟩:=Zl HO.out;subst hv
      go_wp2_with fail
      refine(Zee HK.out).mono ?_;rintro e w2 ⟨⟨kd,at_,tx,tv⟩,rfl,ht,S⟩;have T:Hid (RK w2 R k2 r):=HK.below S;have b6:=hid (Zn HO.out S);have b7:Hid (w.grownBy w2 (some R.b)):=Zj HG.out (Zw S);clear S HK HO HG
      go_wp2_with fail
      refine(Zf6 ht.out T.wf.head.1 T.wf.head.2.2 cl Q.1 Q.2 w2).mono ?_;rintro e w3 ⟨rfl,U⟩;have F:Hid (RK w3 R k2 r):=T.below U;have V:=hid (Zn b6.out U);have W:Hid (w.grownBy w3 (some R.b)):=Zj b7.out (Zw U);clear U T b6 b7 ht;by_cases L:isT (bl cl) (hd r)=true
      · rw[L]
        have j:Hid (PL=.ok (bs.map bl,r.tail)):=hid (by rw[<-E.2.2,Zma L]);have b9:Hid (Zq (bl cl) r=.ok ((),r.tail)):=ZdU L;clear L
        go_wp2_with fail
        refine(ZdT F.out cl Q.1 Q.2).mono ?_;rintro e Y ⟨v,rfl,d,p⟩;rw[b9.out]at d;obtain⟨rfl,G,_⟩:=d.out;have c0:Hid (∃k,RK Y R k r.tail):=G;have a2:=hid (Zfu V.out p P);have X:Hid (w.grownBy Y (some R.b)):=Zj W.out p;clear d G p;go_wp2;go_ret2;exact⟨_,_,_,_,rfl,by rw[j.out];exact⟨rfl,c0.out,bs,Zgi a2.out,rfl⟩,X.out⟩
      · have I:isT (bl cl) (hd r)=false:=Yce.2 L
        rw[I];by_cases hb:bs=[]
        · subst hb
          have j:Hid ((bnd ((ZH 2) r) fun a z=>ZS (ZH 2) (bl cl) m [a] z)=PL):=hid (by rw[<-E.2.2];exact(Zmb I).symm);have d0:([]:List BA).length=0:=rfl;clear L I
          go_wp2_with fail
          refine(Zkk F.out).mono ?_;rintro e C ⟨x,v,rfl,d,s⟩;have t:=hid (Zfu V.out s P);have A:Hid (w.grownBy C (some R.b)):=Zj W.out s;clear s;cases f:(ZH 2) r with
          | error er=>
            rw[f]at d;obtain⟨fa,rfl⟩:=d.shape;have M:Hid (Z9 C R er _):=d.out;have l:Hid (PL=.error er):=hid (by rw[<-j.out,f];rfl);clear d f;go_wp2;go_ret2;exact⟨_,_,_,_,rfl,by rw[l.out];exact M,A.out⟩
          | ok pr=>
            obtain⟨a,y⟩:=pr;rw[f]at d;obtain⟨rfl,⟨k5,J⟩,hx⟩:=d.out;have HX:Hid (bl x=a):=hx;have a3:Hid (RK C R k5 y):=J;have B:y.length<=(r).tail.length:=(fun h=>by rw[Zjt h];exact Yac _) f;have hy:y.length<r.length:=by have h9:=F.pos;simp only[Yb4]at B;omega
            have l:Hid (ZS (ZH 2) (bl cl) m (([]++[x]).map bl) y=PL):=hid (by rw[<-j.out,f,Yaq];rw[<-HX.out];rfl);have c6:=E.2.1;have c7:=E.1;clear d J hx f B
            go_wp2_with (at_builtin;refine wpList_append_own _ rfl (.tmp 43) (.tmp 45) 90 rfl w.heap.size 9 i0 (.string ByteArray.empty) 1 16 underlying90 hi b0 b1 b2 rfl Dc _ _ _ rfl (t.alloc _) ⟨C.heap.size,0,none⟩ 1 1 [.string x] rfl rfl ?c1 ?c2 ?c3 ?c4 ?c5 ?_)
            case c1=>exact ZcY rfl
            case c2=>intro u hu;simp at hu;rw[hu];rfl
            case c3=>unfold maxLen;omega
            case c4=>omega
            case c5=>simp;have:=A.size;omega
            intro v' N o i _;have a4:Hid (w.grownBy N (some R.b)):=hid (Zfn (ZbR A.out _) i (fun q O=>(t.lt q O).1));have a5:Hid (RK N R k5 y):=hid (RK.grown H.out (a3.below Zbal) i (fun q O=>(t.lt q O).1));have a6:Hid (N.ownsRow w.heap.size 9 1 v' ([]++[x]).length (Zbc ([]++[x]))):=hid (by rw[Zh2,Yab];exact o);clear o i;go_wp2
            go_roundg y.length
            case measure=>omega
            case rel=>exact⟨_,y,k5,m,rfl,a5,a6,⟨by omega,by simp;omega,l.out⟩,a4⟩
        · have c8:0<bs.length:=Ycj.2 hb
          have j:Hid ((bnd (Zq [44] r) fun _ z=>bnd ((ZH 2) z) fun a y=>ZS (ZH 2) (bl cl) m (bs.map bl++[a]) y)=PL):=hid (by rw[<-E.2.2];exact(Zmd I (by simpa using hb)).symm);clear L I hb
          go_wp2_with fail
          refine(ZdT F.out ⟨#[44]⟩ Dc Dc).mono ?_;rintro e Y ⟨v,rfl,d,p⟩;have a2:=hid (Zfu V.out p P);have X:Hid (w.grownBy Y (some R.b)):=Zj W.out p;clear p;by_cases K:isT [44] (hd r)=true
          · rw[show Zq (bl ⟨#[44]⟩) r=.ok ((),r.tail) from ZdU K]at d
            obtain⟨rfl,⟨k4,G⟩,_⟩:=d.out;have b8:Hid (RK Y R k4 r.tail):=G;have a7:Hid ((bnd ((ZH 2) r.tail) fun a y=>ZS (ZH 2) (bl cl) m (bs.map bl++[a]) y)=PL):=hid (by rw[<-j.out,ZdU K];rfl);clear d G K j F V W
            go_wp2_with fail
            refine(Zkk b8.out).mono ?_;rintro e C ⟨x,v,rfl,d,s⟩;have t:=hid (Zfu a2.out s P);have A:Hid (w.grownBy C (some R.b)):=Zj X.out s;clear s;cases f:(ZH 2) r.tail with
            | error er=>
              rw[f]at d;obtain⟨fa,rfl⟩:=d.shape;have M:Hid (Z9 C R er _):=d.out;have l:Hid (PL=.error er):=hid (by rw[<-a7.out,f];rfl);clear d f;go_wp2;go_ret2;exact⟨_,_,_,_,rfl,by rw[l.out];exact M,A.out⟩
            | ok pr=>
              obtain⟨a,y⟩:=pr;rw[f]at d;obtain⟨rfl,⟨k5,J⟩,hx⟩:=d.out;have HX:Hid (bl x=a):=hx;have a3:Hid (RK C R k5 y):=J;have B:y.length<=(r.tail).tail.length:=(fun h=>by rw[Zjt h];exact Yac _) f;have hy:y.length<r.length:=by have h9:=b8.pos;simp only[Yb4]at h9 B;omega
              have l:Hid (ZS (ZH 2) (bl cl) m ((bs++[x]).map bl) y=PL):=hid (by rw[<-a7.out,f,Yaq];rw[<-HX.out];rfl);have c6:=E.2.1;have c7:=E.1;clear d J hx f B
              go_wp2_with (at_builtin;refine wpList_append_own _ rfl (.tmp 43) (.tmp 45) 90 rfl w.heap.size 9 i0 (.string ByteArray.empty) 1 16 underlying90 hi b0 b1 b2 rfl Dc _ _ _ rfl (t.alloc _) ⟨C.heap.size,0,none⟩ 1 1 [.string x] rfl rfl ?c1 ?c2 ?c3 ?c4 ?c5 ?_)
              case c1=>exact ZcY rfl
              case c2=>intro u hu;simp at hu;rw[hu];rfl
              case c3=>unfold maxLen;omega
              case c4=>omega
              case c5=>simp;have:=A.size;omega
              intro v' N o i _;have a4:Hid (w.grownBy N (some R.b)):=hid (Zfn (ZbR A.out _) i (fun q O=>(t.lt q O).1));have a5:Hid (RK N R k5 y):=hid (RK.grown H.out (a3.below Zbal) i (fun q O=>(t.lt q O).1));have a6:Hid (N.ownsRow w.heap.size 9 1 v' (bs++[x]).length (Zbc (bs++[x]))):=hid (by rw[Zh2,Yab];exact o);clear o i;go_wp2
              go_roundg y.length
              case measure=>omega
              case rel=>exact⟨_,y,k5,m,rfl,a5,a6,⟨by omega,by simp;omega,l.out⟩,a4⟩
          · rw[show Zq (bl ⟨#[44]⟩) r=.error (2,(hd r).at_) from Ze8 K]at d
            obtain⟨fa,rfl⟩:=d.shape;have M:Hid (Z9 Y R (2,(hd r).at_) _):=d.out;have l:Hid (PL=.error (2,(hd r).at_)):=hid (by rw[<-j.out,Ze8 K];rfl);clear d;go_wp2;go_ret2;exact⟨_,_,_,_,rfl,by rw[l.out];exact M,X.out⟩
  · rw[Ze8 h1]at d
    have l:Hid (PL=.error (2,(hd ts).at_)):=hid (by rw[a0.out,Ze8 h1];rfl);obtain⟨fa,rfl⟩:=d.shape;have M:Hid (Z9 w1 R (2,(hd ts).at_) _):=d.out;clear d;go_wp2;go_ret2;exact⟨_,_,_,_,rfl,by rw[l.out];exact M,a1.out⟩
theorem Zyy  {R : RS}   (h : RK w R k ts) (op cl : BA) (a9 : (bl op).all (fun c => !Zp c) = true /\ bl op ≠ []) (b0 : (bl cl).all (fun c => !Zp c) = true /\ bl cl ≠ []) :
    CP 239 #[Vp R.b,.string op,.string cl,.func (.func 240) #[] #[]] w fun e w'=>∃(la:Option Addr) (ln lc:Nat) (v:Value),e=.returned (.tuple #[.slice la ln lc,v])/\Hid (Res R (fun w' ns=>ZX w' (.slice la ln lc) ns) w' (bnd (Zq (bl op) ts) fun _ r=>ZS ZV (bl cl) (r.length+1) [] r) v)/\w.grownBy w' (some R.b):=by
  have H:Hid (RK w R k ts):=h;have Q:R.b<w.heap.size:=(Yae.1 h.rd.cells).1;obtain⟨i0,hi,b1,b2,b3⟩:=info_parts Tryz.infoCondD;have b4:Hid ((bl op).all (fun c=>!Zp c)=true/\bl op≠[]):=a9;have S:Hid ((bl cl).all (fun c=>!Zp c)=true/\bl cl≠[]):=b0;clear h a9 b0;obtain⟨PL,a0⟩:∃PL:Out (List (LB×LB×Bool)),PL=bnd (Zq (bl op) ts) fun _ r=>ZS ZV (bl cl) (r.length+1) [] r:=⟨_,rfl⟩
  rw[<-a0];have a1:Hid (PL=bnd (Zq (bl op) ts) fun _ r=>ZS ZV (bl cl) (r.length+1) [] r):=a0;clear a0;go_enter func239,ntmps239
  go_wp2_with fail
  refine(ZdT H.out op b4.1 b4.2).mono ?_;rintro e w1 ⟨v,rfl,d,hg⟩;have a2:Hid (w.grownBy w1 (some R.b)):=hg;clear hg;by_cases h1:isT (bl op) (hd ts)=true
  · rw[ZdU h1]at d
    have j:Hid (ZS ZV (bl cl) (ts.tail.length+1) [] ts.tail=PL):=hid (by rw[a1.out,ZdU h1];rfl);obtain⟨rfl,⟨k1,b5⟩,_⟩:=d.out;have E:Hid (RK w1 R k1 ts.tail):=b5;clear d b5 h1;obtain⟨r0,b6⟩:∃r0,r0=ts.tail:=⟨_,rfl⟩
    rw[<-b6]at E j;clear b6;go_wp2
    go_loopg [11] r0.length (fun g v11 wr=>∃(bs:List (BA×BA×Bool)) (r:List Tok) (k2 n:Nat),g=r.length/\Hid (RK wr R k2 r)/\Hid (wr.ownsRow w.heap.size 379 3 v11 bs.length (Zb1 bs))/\Hid (r.length<n/\bs.length+r.length<=302/\ZS ZV (bl cl) n (bs.map Z7) r=PL)/\Hid (w.grownBy wr (some R.b)))
    case atStart=>exact⟨[],r0,k1,r0.length+1,rfl,E,Ybc _ _ _ _,⟨by omega,by have:=E.size;have:=E.len;simp;omega,j.out⟩,a2⟩
    case round=>
      obtain⟨bs,r,k2,n,d0,HK,HO,F,HG⟩:=hrel;clear E a2 j;obtain⟨m,rfl⟩:∃m,n=m+1:=⟨n - 1,by have:=F.1;omega⟩
      obtain⟨av,cp,hv⟩:=Zl HO.out;subst hv
      go_wp2_with fail
      refine(Zee HK.out).mono ?_;rintro e w2 ⟨⟨kd,at_,tx,tv⟩,rfl,ht,T⟩;have U:Hid (RK w2 R k2 r):=HK.below T;have b7:=hid (Zn HO.out T);have b8:Hid (w.grownBy w2 (some R.b)):=Zj HG.out (Zw T);clear T HK HO HG
      go_wp2_with fail
      refine(Zf6 ht.out U.wf.head.1 U.wf.head.2.2 cl S.1 S.2 w2).mono ?_;rintro e w3 ⟨rfl,V⟩;have G:Hid (RK w3 R k2 r):=U.below V;have W:=hid (Zn b7.out V);have X:Hid (w.grownBy w3 (some R.b)):=Zj b8.out (Zw V);clear V U b7 b8 ht;by_cases M:isT (bl cl) (hd r)=true
      · rw[M]
        have j:Hid (PL=.ok (bs.map Z7,r.tail)):=hid (by rw[<-F.2.2,Zma M]);have c0:Hid (Zq (bl cl) r=.ok ((),r.tail)):=ZdU M;clear M
        go_wp2_with fail
        refine(ZdT G.out cl S.1 S.2).mono ?_;rintro e Z ⟨v,rfl,d,p⟩;rw[c0.out]at d;obtain⟨rfl,I,_⟩:=d.out;have c6:Hid (∃k,RK Z R k r.tail):=I;have a3:=hid (Zfu W.out p Q);have Y:Hid (w.grownBy Z (some R.b)):=Zj X.out p;clear d I p;go_wp2;go_ret2;exact⟨_,_,_,_,rfl,by rw[j.out];exact⟨rfl,c6.out,bs,Zgi a3.out,rfl⟩,Y.out⟩
      · have J:isT (bl cl) (hd r)=false:=Yce.2 M
        rw[J];by_cases hb:bs=[]
        · subst hb
          have j:Hid ((bnd (ZV r) fun a z=>ZS ZV (bl cl) m [a] z)=PL):=hid (by rw[<-F.2.2];exact(Zmb J).symm);have d1:([]:List (BA×BA×Bool)).length=0:=rfl;clear M J
          go_wp2_with fail
          refine(Zou G.out).mono ?_;rintro e C ⟨x,ng,z,v,rfl,d,s⟩;have t:=hid (Zfu W.out s Q);have A:Hid (w.grownBy C (some R.b)):=Zj X.out s;clear s;cases f:ZV r with
          | error er=>
            rw[f]at d;obtain⟨fa,rfl⟩:=d.shape;have N:Hid (Z9 C R er _):=d.out;have l:Hid (PL=.error er):=hid (by rw[<-j.out,f];rfl);clear d f;go_wp2;go_ret2;exact⟨_,_,_,_,rfl,by rw[l.out];exact N.below Zbal,ZbR A.out _⟩
          | ok pr=>
            obtain⟨a,y⟩:=pr;rw[f]at d;obtain⟨rfl,⟨k5,K⟩,D⟩:=d.out;have HX:Hid (Z7 (x,z,ng)=a):=hid (by unfold Z7;simp only[D.1,D.2.1,D.2.2]);have a4:Hid (RK C R k5 y):=K;have B:y.length<=(r).tail.length:=Zot f;have hy:y.length<r.length:=by have h9:=G.pos;simp only[Yb4]at B;omega
            have l:Hid (ZS ZV (bl cl) m (([]++[(x,z,ng)]).map Z7) y=PL):=hid (by rw[<-j.out,f,Yaq];rw[<-HX.out];rfl);have c7:=F.2.1;have c8:=F.1;clear d K D f B
            go_wp2_with (at_builtin;refine wpList_append_own _ rfl (.tmp 43) (.tmp 45) 279 rfl w.heap.size 379 i0 (.agg #[.string ByteArray.empty,.bool false,.string ByteArray.empty]) 3 40 underlying279 hi b1 b2 b3 rfl Dc _ _ _ rfl ((t.alloc _).alloc _) ⟨C.heap.size+1,0,none⟩ 1 1 [.string x,.bool ng,.string z] rfl rfl ?c1 ?c2 ?c3 ?c4 ?c5 ?_)
            case c1=>exact ZcY (by simp)
            case c2=>intro u hu;simp at hu;rcases hu with rfl|rfl|rfl <;> rfl
            case c3=>unfold maxLen;omega
            case c4=>omega
            case c5=>simp;have:=A.size;omega
            intro v' O o i _;have a5:Hid (w.grownBy O (some R.b)):=hid (Zfn (ZbR (ZbR A.out _) _) i (fun q P=>(t.lt q P).1));have a6:Hid (RK O R k5 y):=hid (RK.grown H.out (a4.below (Zbal.alloc (by simp) _)) i (fun q P=>(t.lt q P).1));have a7:Hid (O.ownsRow w.heap.size 379 3 v' ([]++[(x,z,ng)]).length (Zb1 ([]++[(x,z,ng)]))):=hid (by rw[Zpk,Yab];exact o);clear o i;go_wp2
            go_roundg y.length
            case measure=>omega
            case rel=>exact⟨_,y,k5,m,rfl,a6,a7,⟨by omega,by simp;omega,l.out⟩,a5⟩
        · have c9:0<bs.length:=Ycj.2 hb
          have j:Hid ((bnd (Zq [44] r) fun _ z=>bnd (ZV z) fun a y=>ZS ZV (bl cl) m (bs.map Z7++[a]) y)=PL):=hid (by rw[<-F.2.2];exact(Zmd J (by simpa using hb)).symm);clear M J hb
          go_wp2_with fail
          refine(ZdT G.out ⟨#[44]⟩ Dc Dc).mono ?_;rintro e Z ⟨v,rfl,d,p⟩;have a3:=hid (Zfu W.out p Q);have Y:Hid (w.grownBy Z (some R.b)):=Zj X.out p;clear p;by_cases L:isT [44] (hd r)=true
          · rw[show Zq (bl ⟨#[44]⟩) r=.ok ((),r.tail) from ZdU L]at d
            obtain⟨rfl,⟨k4,I⟩,_⟩:=d.out;have b9:Hid (RK Z R k4 r.tail):=I;have a8:Hid ((bnd (ZV r.tail) fun a y=>ZS ZV (bl cl) m (bs.map Z7++[a]) y)=PL):=hid (by rw[<-j.out,ZdU L];rfl);clear d I L j G W X
            go_wp2_with fail
            refine(Zou b9.out).mono ?_;rintro e C ⟨x,ng,z,v,rfl,d,s⟩;have t:=hid (Zfu a3.out s Q);have A:Hid (w.grownBy C (some R.b)):=Zj Y.out s;clear s;cases f:ZV r.tail with
            | error er=>
              rw[f]at d;obtain⟨fa,rfl⟩:=d.shape;have N:Hid (Z9 C R er _):=d.out;have l:Hid (PL=.error er):=hid (by rw[<-a8.out,f];rfl);clear d f;go_wp2;go_ret2;exact⟨_,_,_,_,rfl,by rw[l.out];exact N.below Zbal,ZbR A.out _⟩
            | ok pr=>
              obtain⟨a,y⟩:=pr;rw[f]at d;obtain⟨rfl,⟨k5,K⟩,D⟩:=d.out;have HX:Hid (Z7 (x,z,ng)=a):=hid (by unfold Z7;simp only[D.1,D.2.1,D.2.2]);have a4:Hid (RK C R k5 y):=K;have B:y.length<=(r.tail).tail.length:=Zot f;have hy:y.length<r.length:=by have h9:=b9.pos;simp only[Yb4]at h9 B;omega
              have l:Hid (ZS ZV (bl cl) m ((bs++[(x,z,ng)]).map Z7) y=PL):=hid (by rw[<-a8.out,f,Yaq];rw[<-HX.out];rfl);have c7:=F.2.1;have c8:=F.1;clear d K D f B
              go_wp2_with (at_builtin;refine wpList_append_own _ rfl (.tmp 43) (.tmp 45) 279 rfl w.heap.size 379 i0 (.agg #[.string ByteArray.empty,.bool false,.string ByteArray.empty]) 3 40 underlying279 hi b1 b2 b3 rfl Dc _ _ _ rfl ((t.alloc _).alloc _) ⟨C.heap.size+1,0,none⟩ 1 1 [.string x,.bool ng,.string z] rfl rfl ?c1 ?c2 ?c3 ?c4 ?c5 ?_)
              case c1=>exact ZcY (by simp)
              case c2=>intro u hu;simp at hu;rcases hu with rfl|rfl|rfl <;> rfl
              case c3=>unfold maxLen;omega
              case c4=>omega
              case c5=>simp;have:=A.size;omega
              intro v' O o i _;have a5:Hid (w.grownBy O (some R.b)):=hid (Zfn (ZbR (ZbR A.out _) _) i (fun q P=>(t.lt q P).1));have a6:Hid (RK O R k5 y):=hid (RK.grown H.out (a4.below (Zbal.alloc (by simp) _)) i (fun q P=>(t.lt q P).1));have a7:Hid (O.ownsRow w.heap.size 379 3 v' (bs++[(x,z,ng)]).length (Zb1 (bs++[(x,z,ng)]))):=hid (by rw[Zpk,Yab];exact o);clear o i;go_wp2
              go_roundg y.length
              case measure=>omega
              case rel=>exact⟨_,y,k5,m,rfl,a6,a7,⟨by omega,by simp;omega,l.out⟩,a5⟩
          · rw[show Zq (bl ⟨#[44]⟩) r=.error (2,(hd r).at_) from Ze8 L]at d
            obtain⟨fa,rfl⟩:=d.shape;have N:Hid (Z9 Z R (2,(hd r).at_) _):=d.out;have l:Hid (PL=.error (2,(hd r).at_)):=hid (by rw[<-j.out,Ze8 L];rfl);clear d;go_wp2;go_ret2;exact⟨_,_,_,_,rfl,by rw[l.out];exact N,Y.out⟩
  · rw[Ze8 h1]at d
    have l:Hid (PL=.error (2,(hd ts).at_)):=hid (by rw[a1.out,Ze8 h1];rfl);obtain⟨fa,rfl⟩:=d.shape;have N:Hid (Z9 w1 R (2,(hd ts).at_) _):=d.out;clear d;go_wp2;go_ret2;exact⟨_,_,_,_,rfl,by rw[l.out];exact N,a2.out⟩

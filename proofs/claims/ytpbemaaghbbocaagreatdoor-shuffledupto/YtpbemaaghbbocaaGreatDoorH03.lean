/- Parts. -/
import Derived.Test.YtpbemaaghbbocaaGreatDoorH02
set_option linter.all false
set_option maxRecDepth 100000
set_option maxHeartbeats 16000000
namespace Go.Proofs.YtpbemaaghbbocaaGreatDoor
open Go.RowKit LS Go.Proofs.Tryz
variable {c:Array Value}{s:BA}{close:LB}{cs ns:List (LB×LB×Bool)}{qs:List BA}{r ts:List Tok}{l xs ys:List Value}{M a b base deep k m n size:Nat}{rec:Nat->List Tok->Nat->Out Tr}{e fr x:Nat×Nat}{r3 rr:Out Unit}{p:PV}{q:QV}{R:RS}{z:Tr×List Tok}{pv pv' v y:Value}{W w w' w0:World}
theorem Ze{α β:Type}{x:Out α}{f:α->List Tok->Out β}{z:β×List Tok}(h:bnd x f=.ok z):∃a t,x=.ok (a,t)/\f a t=.ok z:=by
 cases x with
 | error e=>cases h
 | ok y=>exact⟨y.1,y.2,rfl,h⟩
theorem Zmc{α:Type}{item:List Tok->Out α}(f:∀t z,item t=.ok z->z.2.length+1<=t.length):∀(n:Nat) (acc:List α) (ts:List Tok) (z:List α×List Tok),ZS item close n acc ts=.ok z->z.2.length+1<=ts.length
 | 0,_,_,_,h=>by cases h
 | n + 1, acc, ts, z, h => by
   have d:(if isT close (hd ts)then .ok (acc,ts.tail)else bnd (if acc.isEmpty then .ok ((),ts)else Zq [44] ts) fun _ r=>bnd (item r) fun a r=>ZS item close n (acc++[a]) r)=.ok z:=h;cases e:isT close (hd ts)
   · rw[e]at d
     obtain⟨_,t1,c,g⟩:=Ze (x:=if acc.isEmpty then .ok ((),ts)else Zq [44] ts) d;obtain⟨a,t2,i,j⟩:=Ze g
     have l1:t1.length<=ts.length:=by
       split at c
       · injection c with c;injection c with _ c;subst c;exact Yac _
       · have:=ZeB c;simp at this;omega
     have l2:=f t1 _ i;have l3:=Zmc f n _ _ _ j;simp at l2;omega
   · rw[e]at d
     injection d with d;subst d;have:=Zxj e;show ts.tail.length+1<=ts.length;omega
theorem Zxx(k:Nat)(a:k≠0):∀t z,ZH k t=.ok z->z.2.length+1<=t.length:=fun _ _ h=>Nat.le_of_eq (Zjr a h).1
theorem Zr2{z:Nd×List Tok}(h:selP ts=.ok z):z.2.length+1<=ts.length:=by
 unfold selP at h;obtain⟨a,t,d,c⟩:=Ze h
 have l1:t.length+1=ts.length:=by
  unfold ZdQ at d;split at d
  ·cases d
  ·exact(Zjr Dc d).1
 split at c
 ·obtain⟨cs,t2,f,e⟩:=Ze c;have l2:=Zmc Zos _ _ _ _ f;injection e with e;subst e;have:t.tail.length<=t.length:=by simp
  simp at l2 ⊢;omega
 ·injection c with c;subst c;simp;omega
theorem ZEH{o:Nat}(h:winP o ts=.ok z):z.2.length+1<=ts.length:=by
 unfold winP at h;obtain⟨_,t1,c,h⟩:=Ze h;obtain⟨_,t2,d,h⟩:=Ze h;obtain⟨_,t3,e,h⟩:=Ze h;obtain⟨_,t4,a,h⟩:=Ze h;obtain⟨_,t5,f,h⟩:=Ze h;obtain⟨_,t6,g,h⟩:=Ze h;injection h with h;subst h;have a1:=ZeB c;have a2:=Zr2 d;have a3:=ZeB e
 have a4:t4.length<=t3.length:=by
  unfold Zc2 at a;split at a
  ·injection a with a;injection a with _ a;subst a;simp
  ·cases a
 have a5:=ZeB f;have a6:=ZeB g;simp at a1 a2 a3 a5 a6 ⊢;omega
theorem Zs9(a:∀lv t d z,rec lv t d=.ok z->z.2.length+1<=t.length)(h:Zbu rec ts deep=.ok z):z.2.length+1<=ts.length:=by
 unfold Zbu at h;obtain⟨_,t1,c,h⟩:=Ze h;obtain⟨_,t2,e,h⟩:=Ze h;obtain⟨_,t3,f,h⟩:=Ze h;injection h with h;subst h;have a1:=ZeB c;have a2:=a _ _ _ _ e;have a3:=ZeB f;simp at a1 a2 a3 ⊢;omega
theorem ZwC(a:∀lv t d z,rec lv t d=.ok z->z.2.length+1<=t.length){g:Nat}(h:Zcb rec g ts deep=.ok z):z.2.length+1<=ts.length:=by
 unfold Zcb at h;obtain⟨_,t1,c,h⟩:=Ze h;obtain⟨_,t2,e,h⟩:=Ze h;obtain⟨_,t3,f,h⟩:=Ze h;obtain⟨_,t4,i,h⟩:=Ze h;injection h with h;subst h;have a1:=ZeB c;have a2:=ZeB e;have a3:=Zmc (Zxx 2 Dc) _ _ _ _ f;have a4:=Zs9 a i;simp at a1 a2 a3 a4 ⊢;omega
theorem Zw4(a:∀lv t d z,rec lv t d=.ok z->z.2.length+1<=t.length)(h:Zbw rec ts deep=.ok z):z.2.length+1<=ts.length:=by
 unfold Zbw at h;have f:ts.tail.length<=ts.length:=by simp
 split at h
 ·rename_i e;injection h with h;subst h;cases ts with
  | nil=>exact absurd e Dc
  | cons t r=>exact Yac _
 ·split at h
  ·obtain⟨_,t1,c,h⟩:=Ze h;injection h with h;subst h;have:=a _ _ _ _ c;simp at this ⊢;omega
  ·split at h
   ·exact Zs9 a h
   ·split at h
    ·have:=ZwC a h;omega
    ·split at h
     ·have:=ZEH h;omega
     ·obtain⟨_,t1,c,h⟩:=Ze h;injection h with h;subst h;exact Zr2 c
theorem Zg1:∀(n:Nat) (m:Bool) (lv:Nat) (a:Tr) (ts:List Tok) (deep:Nat) (z:Tr×List Tok),Zs n m lv a ts deep=.ok z->z.2.length+(if m then 0 else 1)<=ts.length
 | 0,_,_,_,_,_,_,h=>by cases h
 | n + 1, false, lv, a, ts, deep, z, h => by
   have f:∀lv t d z,Zs n false lv .nil t d=.ok z->z.2.length+1<=t.length:=fun lv t d z h=>Zg1 n false lv .nil t d z h;unfold Zs at h;split at h
   · unfold Zb9 at h
     split at h
     · split at h
       · cases h
       · exact Zw4 f h
     · cases h
   · obtain⟨b,t1,c,e⟩:=Ze h
     have l1:=f _ _ _ _ c;have l2:=Zg1 n true lv b t1 deep z e;simp at l1 l2 ⊢;omega
 | n + 1, true, lv, a, ts, deep, z, h => by
   unfold Zs at h;split at h
   · injection h with h;subst h;simp
   · obtain⟨b,t1,c,e⟩:=Ze h
     have l1:=Zg1 n false _ _ _ _ _ c;have l2:=Zg1 n true lv _ t1 deep z e;simp at l1 l2 ⊢;omega
def ZJU(w:World)(base:Nat)(p:PV)(ns:List (LB)):Prop:=∃bs:List BA,w.ownsRow base 9 1 (.slice p.ba p.bn p.bc) bs.length (bs.map .string)/\bs.map bl=ns
def ZKf(w:World)(nd:Nd)(p:PV):Prop:=p.k=nd.jx/\p.n=nd.n/\p.op=nd.op/\bl p.nm=nd.name/\ZJq w 0 p nd.jq/\ZJU w 0 p nd.by_
def cntT:Tr->Nat
 | .nil=>0
 | .node _ _ _ l r=>cntT l+cntT r+1
def Rep(w:World)(xs:List Value):Tr->Nat->Prop
 | .nil,_=>True
 | .node _ _ nd l r,i=>∃(p:PV) (a b:Nat),(xs.drop (i*8)).take 8=p.cells/\ZKf w nd p/\p.a=a/\p.b=b/\a<=i/\b<=i/\Rep w xs l a/\Rep w xs r b
theorem ZKR(p:PV):p.cells.length=8:=rfl
theorem ZKC(f:QAt w b q)(c:w.ownsRow 0 131 8 pv n xs)(g:Kept b pv w pv' w')
   {e:TypeId}     (h:w.ownsRow base e size v m ys) (i:115≠e) (j:e≠131):w'.ownsRow base e size v m ys:=by
 refine ZdA h (fun k a=>g.block k (h.lt k a).2 ?_ ?_)
 ·rintro rfl;exact Zcx h f i a.symm
 ·rw[<-a];rcases ZmC h c j with d|d
  ·rw[d]at a;cases a
  ·exact d
theorem ZJq.kept(c:QAt w b q)(a:w.ownsRow 0 131 8 pv n xs)(d:Kept b pv w pv' w')(h:ZJq w base p cs):ZJq w' base p cs:=by
 obtain⟨qs,e,f⟩:=h;exact⟨qs,ZKC c a d e Dc Dc,f⟩
theorem ZJU.kept(c:QAt w b q)(a:w.ownsRow 0 131 8 pv n xs)(d:Kept b pv w pv' w'){ns:List (LB)}(h:ZJU w base p ns):ZJU w' base p ns:=by
 obtain⟨qs,e,f⟩:=h;exact⟨qs,ZKC c a d e Dc Dc,f⟩
theorem ZNL{i:Nat}(h:(xs.drop (i*8)).take 8=l)(a:l.length=8):((xs++ys).drop (i*8)).take 8=l:=by
 have c:i*8+8<=xs.length:=by
  have:=congrArg List.length h;rw[Ya7,Ybv,a]at this;omega
 rw[Ygb Om,List.take_append_of_le_length (by rw[Ybv];omega)];exact h
theorem Rep.kept(e:QAt w b q)(d:w.ownsRow 0 131 8 pv n xs)(f:Kept b pv w pv' w')(ys:List Value):∀(t:Tr) (i:Nat),Rep w xs t i->Rep w' (xs++ys) t i
 | .nil,_,_=>trivial
 | .node _ _ nd l r, i, h => by
   obtain⟨p,a,c,g,⟨g1,g2,g3,g4,g5,g6⟩,j,k,m,o,s,u⟩:=h;exact⟨p,a,c,ZNL g (ZKR p),⟨g1,g2,g3,g4,g5.kept e d f,g6.kept e d f⟩,j,k,m,o,Rep.kept e d f ys l a s,Rep.kept e d f ys r c u⟩
theorem QErr.factor{e p:Nat}(h:QErr w b pv e p deep) :
  CP 185 #[Vp b] w fun r u=>r=.returned (Vi 0)/\u=w:=by
 obtain⟨q,a,c,d,f,g,i⟩:=h;obtain⟨c0,c1,c2,c3,c4,c5,c6,c7,c8⟩:=a.all;have j:((q.e:Int) != 0)=true:=by rw[bne_iff_ne];omega
 have H:Hid (QErr w b pv e p deep):=⟨q,a,c,d,f,g,i⟩
 clear a c d f g i;generalize l:((q.k:Int) == 1)=x1;generalize m:((q.k:Int) == 2)=x2;go_enter func185,ntmps185
 go_wp2_with fail
 refine(QErr.is H.out _).mono ?_;rintro r u ⟨rfl,rfl⟩
 go_wp2_with fail
 refine(QErr.is H.out _).mono ?_;rintro r u ⟨rfl,rfl⟩
 go_wp2_with fail
 refine(QErr.is H.out _).mono ?_;rintro r u ⟨rfl,rfl⟩
 go_wp2_with fail
 refine(QErr.is H.out _).mono ?_;rintro r u ⟨rfl,rfl⟩;cases x1 <;> cases x2
 all_goals
  go_wp2_with fail
  refine(QErr.fail H.out _).mono ?_;rintro r u ⟨rfl,rfl⟩;go_wp2;go_ret;exact⟨rfl,rfl⟩
theorem QErr.term{e p:Nat}(h:QErr w b pv e p deep) :
  CP 148 #[Vp b] w fun r u=>r=.returned (Vi 0)/\u=w:=by
 have H:Hid (QErr w b pv e p deep):=h;clear h;go_enter func148,ntmps148
 go_wp2_with fail
 refine(QErr.factor H.out).mono ?_;rintro r u ⟨rfl,rfl⟩;go_wp2
 go_loop [3] (fun v=>v=Vi 0) (fun _=>0)
 case atStart=>rfl
 case round=>
  subst hrel
  go_wp2_with fail
  refine(QErr.is H.out _).mono ?_;rintro r u ⟨rfl,rfl⟩
  go_wp2_with fail
  refine(QErr.is H.out _).mono ?_;rintro r u ⟨rfl,rfl⟩;go_wp2;go_ret;exact⟨rfl,rfl⟩
theorem QErr.sum{e p:Nat}(h:QErr w b pv e p deep) :
  CP 93 #[Vp b] w fun r u=>r=.returned (Vi 0)/\u=w:=by
 have H:Hid (QErr w b pv e p deep):=h;clear h;go_enter func93,ntmps93
 go_wp2_with fail
 refine(QErr.term H.out).mono ?_;rintro r u ⟨rfl,rfl⟩;go_wp2
 go_loop [3] (fun v=>v=Vi 0) (fun _=>0)
 case atStart=>rfl
 case round=>
  subst hrel
  go_wp2_with fail
  refine(QErr.is H.out _).mono ?_;rintro r u ⟨rfl,rfl⟩
  go_wp2_with fail
  refine(QErr.is H.out _).mono ?_;rintro r u ⟨rfl,rfl⟩;go_wp2;go_ret;exact⟨rfl,rfl⟩
def Bud{α:Type}(M n:Nat)(r:Out α):Prop:=match r with
 | .error _=>n<=M
 | .ok x=>n+x.2.length<=M
theorem Bud.le{α:Type}{r:Out α}(h:Bud M n r):n<=M:=by
 cases r with
 | error e=>exact h
 | ok x=>exact Yah (Nat.le_add_right _ _) h
theorem Bud.bnd{α β:Type}{r:Out α}{f:α->List Tok->Out β}(h:Bud M n r)(c:∀a ts z,r=.ok (a,ts)->f a ts=.ok z->z.2.length<=ts.length):Bud M n (bnd r f):=by
 cases r with
 | error e=>exact h
 | ok x=>
  obtain⟨a,ts⟩:=x;have g:n+ts.length<=M:=h;show Bud M n (f a ts);cases d:f a ts with
  | error e=>exact(show n<=M by omega)
  | ok z=>have:=c a ts z rfl d;exact(show n+z.2.length<=M by omega)
theorem Bud.take  {r : Out Unit} (h : Bud M n r) (c : LB) : Bud M n (LS.bnd r fun _ ts => Zq c ts) :=
  h.bnd fun _ _ _ _ a=>by have:=ZeB a;omega
structure PartRes (w:World) (b:Nat) (pv:Value) (s:BA) (deep:Nat) (xs:List Value) (M:Nat) (R:Out Tr) (i:Int) (w':World):Prop where
 out:∃(n':Nat) (pv':Value) (ys:List Value),St w' b pv' s deep (ZJm R)/\w'.ownsRow 0 131 8 pv' n' (xs++ys)/\Kept b pv w pv' w'/\Bud M n' R/\
  (∀t z,R=.ok (t,z)->∃k:Nat,i=k/\Rep w' (xs++ys) t k/\k+1=n'/\ys.length=8*cntT t)
def ZJn(f:FuncId)(s:BA)(R:List Tok->Nat->Out Tr)(L:Nat):Prop:=
 ∀(w:World) (b:Nat) (pv:Value) (deep:Nat) (r:Out Unit) (n:Nat) (xs:List Value) (M:Nat),St w b pv s deep r->w.ownsRow 0 131 8 pv n xs->M<=6000->Bud M n r->(∀ts,r=.ok ((),ts)->ts.length<=L)->deep<=20->
  CP f #[Vp b] w fun e w'=>∃i:Int,e=.returned (Vi i)/\PartRes w b pv s deep xs M (LS.bnd r fun _ ts=>R ts deep) i w'
theorem ZJn.mono{f:FuncId}{R:List Tok->Nat->Out Tr}{L L':Nat}(h:ZJn f s R L)(a:L'<=L):ZJn f s R L':=
 fun w b pv deep r n xs M c d g i j k=>h w b pv deep r n xs M c d g i (fun ts e=>Yah (j ts e) a) k
theorem PartRes.error(h:St w b pv s deep (.error x))(a:w.ownsRow 0 131 8 pv n xs)(c:n<=M):PartRes w b pv s deep xs M (.error x) 0 w:=
 ⟨n,pv,[],h,by rw[Yca];exact a,Kept.refl _ _ _,c,fun _ _ h=>(by cases h)⟩
theorem Kept.set{p1 p2:Value}{y z:World}(h:Kept b p1 y p2 z){a:Addr}(f:y.heap.size<=a.block)(v:Value):Kept b p1 y p2 (z.setCell a v):=
 ⟨h.os,h.tape,h.output,by rw[Go.Deep.nblk_setCell];exact h.size,fun k c d e=>(Go.Deep.blk_setCell_other _ _ _ _ Om).trans (h.block k c d e),h.own⟩
theorem ZJq.grown(h:ZJq w base p cs){r:Option Nat}(d:w.grownBy w' r)(e:∀k,(Value.slice p.ca p.cn p.cc).ownBlock=some k->some k≠r):ZJq w' base p cs:=by
 obtain⟨qs,a,f⟩:=h;exact⟨qs,ZdA a (fun k c=>d.block k (a.lt k c).2 (e k c)),f⟩
def NRel(r3:Out Unit)(qs:List BA)(rr:Out Unit):Prop:=(∃e,r3=.error e/\rr=.error e/\qs=[])∨∃ts0,r3=.ok ((),ts0)/\ZJu (ZH 2) [41] bl (ts0.length+1) ts0 qs rr
def ZJS(r3:Out Unit):Out (List (LB)):=bnd r3 fun _ r=>ZS (ZH 2) [41] (r.length+1) [] r
theorem NRel.start(r3:Out Unit):NRel r3 [] r3:=by
 cases r3 with
 | error e=>exact Or.inl ⟨e,rfl,rfl,rfl⟩
 | ok x=>exact Or.inr ⟨x.2,rfl,ZJu.start _ _ _ _ _ (Yac _)⟩
theorem NRel.len{K:Nat}(h:NRel r3 qs rr)(a:∀ts,r3=.ok ((),ts)->ts.length<=K):qs.length<=K+1:=by
 rcases h with ⟨e,_,_,rfl⟩|⟨ts0,c,d⟩
 ·simp
 ·have:=a ts0 c;have:=d.2.2;omega
theorem NRel.done(h:NRel r3 qs rr)(hd:isR [41] rr=true∨∃e,rr=.error e) :
  ZJm (ZJS r3)=(bnd rr fun _ ts=>Zq [41] ts)/\∀z,ZJS r3=.ok z->qs.map bl=z.1:=by
 rcases h with ⟨e,rfl,rfl,rfl⟩|⟨ts0,rfl,a⟩
 ·exact⟨rfl,fun z c=>(by cases c)⟩
 ·exact ZJu.done a hd
theorem Tryz.infoStr:(Tryz.prog.info? 9).map (fun i=>(i.zero,i.size,i.bytes))=some (some (.string ByteArray.empty),1,16):=by kernel_rfl
def Zb1:List (BA×BA×Bool)->List Value
 | []=>[]
 | c::l=>.string c.1::.bool c.2.2::.string c.2.1::Zb1 l
theorem Zpk(l m:List (BA×BA×Bool)):Zb1 (l++m)=Zb1 l++Zb1 m:=by
 induction l with
 | nil=>rfl
 | cons a l ih=>simp[Zb1,ih]
def Zbc(l:List BA):List Value:=l.map .string
theorem Zh2(l m:List BA):Zbc (l++m)=Zbc l++Zbc m:=Yaq
def Z7(c:BA×BA×Bool):LB×LB×Bool:=(bl c.1,bl c.2.1,c.2.2)
def Zbm(w:World)(v:Value)(ns:List (LB)):Prop:=∃bs:List BA,w.ownsRow 0 9 1 v bs.length (Zbc bs)/\bs.map bl=ns
def ZX(w:World)(v:Value)(cs:List (LB×LB×Bool)):Prop:=∃bs:List (BA×BA×Bool),w.ownsRow 0 247 3 v bs.length (Zb1 bs)/\bs.map Z7=cs
theorem Tryz.infoCondD:(Tryz.prog.info? 247).map (fun i=>(i.zero,i.size,i.bytes))=some (some (.agg #[.string ByteArray.empty,.bool false,.string ByteArray.empty]),3,40):=by kernel_rfl
theorem ZcY{t:TypeId}(a:W.heap.size=n):∀j x,l[j]?=some x->(W.alloc (.cells ⟨l⟩ t)).cell? ((⟨n,0,none⟩:Addr).add j)=some x:=by
 intro j x c;subst a;rw[ZfO];have h:=Go.Deep.blk_alloc_new W (.cells ⟨l⟩ t);simp only[World.cell?,h];simpa using c
theorem Zgi{e:TypeId}(h:w.ownsRow base e size v n xs):w.ownsRow 0 e size v n xs:=by
 refine⟨h.1,?_⟩;rcases h.2 with a|⟨g,cap,cur,h,_,r⟩
 ·exact Or.inl a
 ·exact Or.inr ⟨g,cap,cur,h,Yag _,r⟩
theorem Zfu{e:TypeId}(h:w.ownsRow base e size v n xs)(a:w.grownBy w' (some b))(c:b<base):w'.ownsRow base e size v n xs:=
 h.kept a (Or.inr (fun q=>by have:=(h.lt b q).1;omega))
theorem Zfn(h:w0.grownBy w (some b))(a:w.grownBy w' v.ownBlock)(f:∀q,v.ownBlock=some q->w0.heap.size<=q):w0.grownBy w' (some b):=by
 refine⟨a.os.trans h.os,a.tape.trans h.tape,a.output.trans h.output,Yah h.size a.size,?_⟩;intro j c d;rw[a.block j (Yaw c h.size) (fun e=>by have:=f j e.symm;omega),h.block j c d]
theorem RK.grown{k0:Nat}{ts0:List Tok}(a:RK w0 R k0 ts0)(h:RK w R k ts)(c:w.grownBy w' v.ownBlock)(d:∀q,v.ownBlock=some q->w0.heap.size<=q):RK w' R k ts:=by
 refine h.blocks (fun j f g=>c.block j f (fun e=>?_));have:=d j e.symm;have o:=(Yae.1 a.rd.cells).1;have p:=Z1 a.rd.own;have i:=Yai _ _ a.sy;have l:=Yai _ _ a.dp;have m:1<w0.heap.size:=i;have n:2<w0.heap.size:=l;rcases g with rfl|rfl|rfl|rfl <;> omega
theorem Zma{α:Type}{item:List Tok->Out α}{acc:List α}(h:isT close (hd ts)=true):ZS item close (m+1) acc ts=.ok (acc,ts.tail):=if_pos h
theorem Zmb {α : Type} {item : List Tok -> Out α}    (h : isT close (hd ts) = false) : ZS item close (m + 1) [] ts = bnd (item ts) fun a r => ZS item close m [a] r := by
  show(if isT close (hd ts)=true then _ else _)=_;rw[h];rfl
theorem Zmd {α : Type} {item : List Tok -> Out α}   {acc : List α}  (h : isT close (hd ts) = false) (c : acc ≠ []) : ZS item close (m + 1) acc ts = bnd (Zq [44] ts) fun _ r => bnd (item r) fun a r => ZS item close m (acc ++ [a]) r := by
  show(if isT close (hd ts)=true then _ else _)=_;rw[h];cases acc with
  | nil=>exact absurd rfl c
  | cons a l=>rfl
theorem ZdU{s:LB}(h:isT s (hd ts)=true):Zq s ts=.ok ((),ts.tail):=if_pos h
theorem Ze8{s:LB}(h:¬isT s (hd ts)=true):Zq s ts=.error (2,(hd ts).at_):=if_neg h
theorem Zjt{a:LB}(h:ZH k ts=.ok (a,r)):r=ts.tail:=by
 unfold ZH at h;split at h
 ·cases h;rfl
 ·cases h
theorem Zot{a:LB×LB×Bool}(h:ZV ts=.ok (a,r)):r.length<=ts.tail.length:=by
 have:=Zos ts (a,r) h;simp only[Yb4]at *
 omega
theorem RK.pos(h:RK w R k ts):0<ts.length:=h.wf.head.2.1
theorem ZyA     (h : RK w R k ts) (op cl : BA) (a8 : (bl op).all (fun c => !Zp c) = true /\ bl op ≠ []) (a9 : (bl cl).all (fun c => !Zp c) = true /\ bl cl ≠ []) :
    CP 154 #[Vp R.b,.string op,.string cl,.func (.func 155) #[] #[]] w fun e w'=>∃(la:Option Addr) (ln lc:Nat) (v:Value),e=.returned (.tuple #[.slice la ln lc,v])/\Hid (Res R (fun w' ns=>Zbm w' (.slice la ln lc) ns) w' (bnd (Zq (bl op) ts) fun _ r=>ZS (ZH 2) (bl cl) (r.length+1) [] r) v)/\w.grownBy w' (some R.b):=by
  have H:Hid (RK w R k ts):=h;have P:R.b<w.heap.size:=(Yae.1 h.rd.cells).1;obtain⟨i0,hi,b0,b1,b2⟩:=info_parts Tryz.infoStr;have b3:Hid ((bl op).all (fun c=>!Zp c)=true/\bl op≠[]):=a8;have Q:Hid ((bl cl).all (fun c=>!Zp c)=true/\bl cl≠[]):=a9;clear h a8 a9;obtain⟨PL,Z⟩:∃PL:Out (List (LB)),PL=bnd (Zq (bl op) ts) fun _ r=>ZS (ZH 2) (bl cl) (r.length+1) [] r:=⟨_,rfl⟩
  rw[<-Z];have a0:Hid (PL=bnd (Zq (bl op) ts) fun _ r=>ZS (ZH 2) (bl cl) (r.length+1) [] r):=Z;clear Z;go_enter func154,ntmps154
  go_wp2_with fail
  refine(ZdT H.out op b3.1 b3.2).mono ?_;rintro e w1 ⟨v,rfl,d,hg⟩;have a1:Hid (w.grownBy w1 (some R.b)):=hg;clear hg;by_cases h1:isT (bl op) (hd ts)=true
  · rw[ZdU h1]at d
    have j:Hid (ZS (ZH 2) (bl cl) (ts.tail.length+1) [] ts.tail=PL):=hid (by rw[a0.out,ZdU h1];rfl);obtain⟨rfl,⟨k1,b4⟩,_⟩:=d.out;have D:Hid (RK w1 R k1 ts.tail):=b4;clear d b4 h1;obtain⟨r0,b5⟩:∃r0,r0=ts.tail:=⟨_,rfl⟩
    rw[<-b5]at D j;clear b5;go_wp2
    go_loopg [11] r0.length (fun g v11 wr=>∃(bs:List BA) (r:List Tok) (k2 n:Nat),g=r.length/\Hid (RK wr R k2 r)/\Hid (wr.ownsRow w.heap.size 9 1 v11 bs.length (Zbc bs))/\Hid (r.length<n/\bs.length+r.length<=302/\ZS (ZH 2) (bl cl) n (bs.map bl) r=PL)/\Hid (w.grownBy wr (some R.b)))
    case atStart=>exact⟨[],r0,k1,r0.length+1,rfl,D,Ybc _ _ _ _,⟨by omega,by have:=D.size;have:=D.len;simp;omega,j.out⟩,a1⟩
    case round=>
      obtain⟨bs,r,k2,n,c9,HK,HO,E,HG⟩:=hrel;clear D a1 j;obtain⟨m,rfl⟩:∃m,n=m+1:=⟨n - 1,by have:=E.1;omega⟩
      obtain⟨av,cp,hv⟩:=Zl HO.out;subst hv
      go_wp2_with fail
      refine(Zee HK.out).mono ?_;rintro e w2 ⟨⟨kd,at_,tx,tv⟩,rfl,ht,S⟩;have T:Hid (RK w2 R k2 r):=HK.below S;have b6:=hid (Zn HO.out S);have b7:Hid (w.grownBy w2 (some R.b)):=Zj HG.out (Zw S);clear S HK HO HG
      go_wp2_with fail
      refine(Zf6 ht.out T.wf.head.1 T.wf.head.2.2 cl Q.1 Q.2 w2).mono ?_;rintro e w3 ⟨rfl,U⟩;have F:Hid (RK w3 R k2 r):=T.below U;have V:=hid (Zn b6.out U);have W:Hid (w.grownBy w3 (some R.b)):=Zj b7.out (Zw U);clear U T b6 b7 ht;by_cases L:isT (bl cl) (hd r)=true
      · rw[L]
        have j:Hid (PL=.ok (bs.map bl,r.tail)):=hid (by rw[<-E.2.2,Zma L]);have b9:Hid (Zq (bl cl) r=.ok ((),r.tail)):=ZdU L;clear L
        go_wp2_with fail
        refine(ZdT F.out cl Q.1 Q.2).mono ?_;rintro e Y ⟨v,rfl,d,p⟩;rw[b9.out]at d;obtain⟨rfl,G,_⟩:=d.out;have c0:Hid (∃k,RK Y R k r.tail):=G;have a2:=hid (Zfu V.out p P);have X:Hid (w.grownBy Y (some R.b)):=Zj W.out p;clear d G p;go_wp2;go_ret2;exact⟨_,_,_,_,rfl,by rw[j.out];exact⟨rfl,c0.out,bs,Zgi a2.out,rfl⟩,X.out⟩
      · have I:isT (bl cl) (hd r)=false:=Yce.2 L
        rw[I];by_cases hb:bs=[]
        · subst hb
          have j:Hid ((bnd ((ZH 2) r) fun a z=>ZS (ZH 2) (bl cl) m [a] z)=PL):=hid (by rw[<-E.2.2];exact(Zmb I).symm);have d0:([]:List BA).length=0:=rfl;clear L I
          go_wp2_with fail
          refine(Zkk F.out).mono ?_;rintro e C ⟨x,v,rfl,d,s⟩;have t:=hid (Zfu V.out s P);have A:Hid (w.grownBy C (some R.b)):=Zj W.out s;clear s;cases f:(ZH 2) r with
          | error er=>
            rw[f]at d;obtain⟨fa,rfl⟩:=d.shape;have M:Hid (Z9 C R er _):=d.out;have l:Hid (PL=.error er):=hid (by rw[<-j.out,f];rfl);clear d f;go_wp2;go_ret2;exact⟨_,_,_,_,rfl,by rw[l.out];exact M,A.out⟩
          | ok pr=>
            obtain⟨a,y⟩:=pr;rw[f]at d;obtain⟨rfl,⟨k5,J⟩,hx⟩:=d.out;have HX:Hid (bl x=a):=hx;have a3:Hid (RK C R k5 y):=J;have B:y.length<=(r).tail.length:=(fun h=>by rw[Zjt h];exact Yac _) f;have hy:y.length<r.length:=by have h9:=F.pos;simp only[Yb4]at B;omega
            have l:Hid (ZS (ZH 2) (bl cl) m (([]++[x]).map bl) y=PL):=hid (by rw[<-j.out,f,Yaq];rw[<-HX.out];rfl);have c6:=E.2.1;have c7:=E.1;clear d J hx f B
            go_wp2_with (at_builtin;refine wpList_append_own _ rfl (.tmp 43) (.tmp 45) 31 rfl w.heap.size 9 i0 (.string ByteArray.empty) 1 16 underlying31 hi b0 b1 b2 rfl Dc _ _ _ rfl (t.alloc _) ⟨C.heap.size,0,none⟩ 1 1 [.string x] rfl rfl ?c1 ?c2 ?c3 ?c4 ?c5 ?_)
            case c1=>exact ZcY rfl
            case c2=>intro u hu;simp at hu;rw[hu];rfl
            case c3=>unfold maxLen;omega
            case c4=>omega
            case c5=>simp;have:=A.size;omega
            intro v' N o i _;have a4:Hid (w.grownBy N (some R.b)):=hid (Zfn (ZbR A.out) i (fun q O=>(t.lt q O).1));have a5:Hid (RK N R k5 y):=hid (RK.grown H.out (a3.below Zbal) i (fun q O=>(t.lt q O).1));have a6:Hid (N.ownsRow w.heap.size 9 1 v' ([]++[x]).length (Zbc ([]++[x]))):=hid (by rw[Zh2,Yab];exact o);clear o i;go_wp2
            go_roundg y.length
            case measure=>omega
            case rel=>exact⟨_,y,k5,m,rfl,a5,a6,⟨by omega,by simp;omega,l.out⟩,a4⟩
        · have c8:0<bs.length:=Ycj.2 hb
          have j:Hid ((bnd (Zq [44] r) fun _ z=>bnd ((ZH 2) z) fun a y=>ZS (ZH 2) (bl cl) m (bs.map bl++[a]) y)=PL):=hid (by rw[<-E.2.2];exact(Zmd I (by simpa using hb)).symm);clear L I hb
          go_wp2_with fail
          refine(ZdT F.out ⟨#[44]⟩ Dc Dc).mono ?_;rintro e Y ⟨v,rfl,d,p⟩;have a2:=hid (Zfu V.out p P);have X:Hid (w.grownBy Y (some R.b)):=Zj W.out p;clear p;by_cases K:isT [44] (hd r)=true
          · rw[show Zq (bl ⟨#[44]⟩) r=.ok ((),r.tail) from ZdU K]at d
            obtain⟨rfl,⟨k4,G⟩,_⟩:=d.out;have b8:Hid (RK Y R k4 r.tail):=G;have a7:Hid ((bnd ((ZH 2) r.tail) fun a y=>ZS (ZH 2) (bl cl) m (bs.map bl++[a]) y)=PL):=hid (by rw[<-j.out,ZdU K];rfl);clear d G K j F V W
            go_wp2_with fail
            refine(Zkk b8.out).mono ?_;rintro e C ⟨x,v,rfl,d,s⟩;have t:=hid (Zfu a2.out s P);have A:Hid (w.grownBy C (some R.b)):=Zj X.out s;clear s;cases f:(ZH 2) r.tail with
            | error er=>
              rw[f]at d;obtain⟨fa,rfl⟩:=d.shape;have M:Hid (Z9 C R er _):=d.out;have l:Hid (PL=.error er):=hid (by rw[<-a7.out,f];rfl);clear d f;go_wp2;go_ret2;exact⟨_,_,_,_,rfl,by rw[l.out];exact M,A.out⟩
            | ok pr=>
              obtain⟨a,y⟩:=pr;rw[f]at d;obtain⟨rfl,⟨k5,J⟩,hx⟩:=d.out;have HX:Hid (bl x=a):=hx;have a3:Hid (RK C R k5 y):=J;have B:y.length<=(r.tail).tail.length:=(fun h=>by rw[Zjt h];exact Yac _) f;have hy:y.length<r.length:=by have h9:=b8.pos;simp only[Yb4]at h9 B;omega
              have l:Hid (ZS (ZH 2) (bl cl) m ((bs++[x]).map bl) y=PL):=hid (by rw[<-a7.out,f,Yaq];rw[<-HX.out];rfl);have c6:=E.2.1;have c7:=E.1;clear d J hx f B
              go_wp2_with (at_builtin;refine wpList_append_own _ rfl (.tmp 43) (.tmp 45) 31 rfl w.heap.size 9 i0 (.string ByteArray.empty) 1 16 underlying31 hi b0 b1 b2 rfl Dc _ _ _ rfl (t.alloc _) ⟨C.heap.size,0,none⟩ 1 1 [.string x] rfl rfl ?c1 ?c2 ?c3 ?c4 ?c5 ?_)
              case c1=>exact ZcY rfl
              case c2=>intro u hu;simp at hu;rw[hu];rfl
              case c3=>unfold maxLen;omega
              case c4=>omega
              case c5=>simp;have:=A.size;omega
              intro v' N o i _;have a4:Hid (w.grownBy N (some R.b)):=hid (Zfn (ZbR A.out) i (fun q O=>(t.lt q O).1));have a5:Hid (RK N R k5 y):=hid (RK.grown H.out (a3.below Zbal) i (fun q O=>(t.lt q O).1));have a6:Hid (N.ownsRow w.heap.size 9 1 v' (bs++[x]).length (Zbc (bs++[x]))):=hid (by rw[Zh2,Yab];exact o);clear o i;go_wp2
              go_roundg y.length
              case measure=>omega
              case rel=>exact⟨_,y,k5,m,rfl,a5,a6,⟨by omega,by simp;omega,l.out⟩,a4⟩
          · rw[show Zq (bl ⟨#[44]⟩) r=.error (2,(hd r).at_) from Ze8 K]at d
            obtain⟨fa,rfl⟩:=d.shape;have M:Hid (Z9 Y R (2,(hd r).at_) _):=d.out;have l:Hid (PL=.error (2,(hd r).at_)):=hid (by rw[<-j.out,Ze8 K];rfl);clear d;go_wp2;go_ret2;exact⟨_,_,_,_,rfl,by rw[l.out];exact M,X.out⟩
  · rw[Ze8 h1]at d
    have l:Hid (PL=.error (2,(hd ts).at_)):=hid (by rw[a0.out,Ze8 h1];rfl);obtain⟨fa,rfl⟩:=d.shape;have M:Hid (Z9 w1 R (2,(hd ts).at_) _):=d.out;clear d;go_wp2;go_ret2;exact⟨_,_,_,_,rfl,by rw[l.out];exact M,a1.out⟩
theorem Zyy     (h : RK w R k ts) (op cl : BA) (a9 : (bl op).all (fun c => !Zp c) = true /\ bl op ≠ []) (b0 : (bl cl).all (fun c => !Zp c) = true /\ bl cl ≠ []) :
    CP 158 #[Vp R.b,.string op,.string cl,.func (.func 159) #[] #[]] w fun e w'=>∃(la:Option Addr) (ln lc:Nat) (v:Value),e=.returned (.tuple #[.slice la ln lc,v])/\Hid (Res R (fun w' ns=>ZX w' (.slice la ln lc) ns) w' (bnd (Zq (bl op) ts) fun _ r=>ZS ZV (bl cl) (r.length+1) [] r) v)/\w.grownBy w' (some R.b):=by
  have H:Hid (RK w R k ts):=h;have Q:R.b<w.heap.size:=(Yae.1 h.rd.cells).1;obtain⟨i0,hi,b1,b2,b3⟩:=info_parts Tryz.infoCondD;have b4:Hid ((bl op).all (fun c=>!Zp c)=true/\bl op≠[]):=a9;have S:Hid ((bl cl).all (fun c=>!Zp c)=true/\bl cl≠[]):=b0;clear h a9 b0;obtain⟨PL,a0⟩:∃PL:Out (List (LB×LB×Bool)),PL=bnd (Zq (bl op) ts) fun _ r=>ZS ZV (bl cl) (r.length+1) [] r:=⟨_,rfl⟩
  rw[<-a0];have a1:Hid (PL=bnd (Zq (bl op) ts) fun _ r=>ZS ZV (bl cl) (r.length+1) [] r):=a0;clear a0;go_enter func158,ntmps158
  go_wp2_with fail
  refine(ZdT H.out op b4.1 b4.2).mono ?_;rintro e w1 ⟨v,rfl,d,hg⟩;have a2:Hid (w.grownBy w1 (some R.b)):=hg;clear hg;by_cases h1:isT (bl op) (hd ts)=true
  · rw[ZdU h1]at d
    have j:Hid (ZS ZV (bl cl) (ts.tail.length+1) [] ts.tail=PL):=hid (by rw[a1.out,ZdU h1];rfl);obtain⟨rfl,⟨k1,b5⟩,_⟩:=d.out;have E:Hid (RK w1 R k1 ts.tail):=b5;clear d b5 h1;obtain⟨r0,b6⟩:∃r0,r0=ts.tail:=⟨_,rfl⟩
    rw[<-b6]at E j;clear b6;go_wp2
    go_loopg [11] r0.length (fun g v11 wr=>∃(bs:List (BA×BA×Bool)) (r:List Tok) (k2 n:Nat),g=r.length/\Hid (RK wr R k2 r)/\Hid (wr.ownsRow w.heap.size 247 3 v11 bs.length (Zb1 bs))/\Hid (r.length<n/\bs.length+r.length<=302/\ZS ZV (bl cl) n (bs.map Z7) r=PL)/\Hid (w.grownBy wr (some R.b)))
    case atStart=>exact⟨[],r0,k1,r0.length+1,rfl,E,Ybc _ _ _ _,⟨by omega,by have:=E.size;have:=E.len;simp;omega,j.out⟩,a2⟩
    case round=>
      obtain⟨bs,r,k2,n,d0,HK,HO,F,HG⟩:=hrel;clear E a2 j;obtain⟨m,rfl⟩:∃m,n=m+1:=⟨n - 1,by have:=F.1;omega⟩
      obtain⟨av,cp,hv⟩:=Zl HO.out;subst hv
      go_wp2_with fail
      refine(Zee HK.out).mono ?_;rintro e w2 ⟨⟨kd,at_,tx,tv⟩,rfl,ht,T⟩;have U:Hid (RK w2 R k2 r):=HK.below T;have b7:=hid (Zn HO.out T);have b8:Hid (w.grownBy w2 (some R.b)):=Zj HG.out (Zw T);clear T HK HO HG
      go_wp2_with fail
      refine(Zf6 ht.out U.wf.head.1 U.wf.head.2.2 cl S.1 S.2 w2).mono ?_;rintro e w3 ⟨rfl,V⟩;have G:Hid (RK w3 R k2 r):=U.below V;have W:=hid (Zn b7.out V);have X:Hid (w.grownBy w3 (some R.b)):=Zj b8.out (Zw V);clear V U b7 b8 ht;by_cases M:isT (bl cl) (hd r)=true
      · rw[M]
        have j:Hid (PL=.ok (bs.map Z7,r.tail)):=hid (by rw[<-F.2.2,Zma M]);have c0:Hid (Zq (bl cl) r=.ok ((),r.tail)):=ZdU M;clear M
        go_wp2_with fail
        refine(ZdT G.out cl S.1 S.2).mono ?_;rintro e Z ⟨v,rfl,d,p⟩;rw[c0.out]at d;obtain⟨rfl,I,_⟩:=d.out;have c6:Hid (∃k,RK Z R k r.tail):=I;have a3:=hid (Zfu W.out p Q);have Y:Hid (w.grownBy Z (some R.b)):=Zj X.out p;clear d I p;go_wp2;go_ret2;exact⟨_,_,_,_,rfl,by rw[j.out];exact⟨rfl,c6.out,bs,Zgi a3.out,rfl⟩,Y.out⟩
      · have J:isT (bl cl) (hd r)=false:=Yce.2 M
        rw[J];by_cases hb:bs=[]
        · subst hb
          have j:Hid ((bnd (ZV r) fun a z=>ZS ZV (bl cl) m [a] z)=PL):=hid (by rw[<-F.2.2];exact(Zmb J).symm);have d1:([]:List (BA×BA×Bool)).length=0:=rfl;clear M J
          go_wp2_with fail
          refine(Zou G.out).mono ?_;rintro e C ⟨x,ng,z,v,rfl,d,s⟩;have t:=hid (Zfu W.out s Q);have A:Hid (w.grownBy C (some R.b)):=Zj X.out s;clear s;cases f:ZV r with
          | error er=>
            rw[f]at d;obtain⟨fa,rfl⟩:=d.shape;have N:Hid (Z9 C R er _):=d.out;have l:Hid (PL=.error er):=hid (by rw[<-j.out,f];rfl);clear d f;go_wp2;go_ret2;exact⟨_,_,_,_,rfl,by rw[l.out];exact N.below Zbal,ZbR A.out⟩
          | ok pr=>
            obtain⟨a,y⟩:=pr;rw[f]at d;obtain⟨rfl,⟨k5,K⟩,D⟩:=d.out;have HX:Hid (Z7 (x,z,ng)=a):=hid (by unfold Z7;simp only[D.1,D.2.1,D.2.2]);have a4:Hid (RK C R k5 y):=K;have B:y.length<=(r).tail.length:=Zot f;have hy:y.length<r.length:=by have h9:=G.pos;simp only[Yb4]at B;omega
            have l:Hid (ZS ZV (bl cl) m (([]++[(x,z,ng)]).map Z7) y=PL):=hid (by rw[<-j.out,f,Yaq];rw[<-HX.out];rfl);have c7:=F.2.1;have c8:=F.1;clear d K D f B
            go_wp2_with (at_builtin;refine wpList_append_own _ rfl (.tmp 43) (.tmp 45) 177 rfl w.heap.size 247 i0 (.agg #[.string ByteArray.empty,.bool false,.string ByteArray.empty]) 3 40 underlying177 hi b1 b2 b3 rfl Dc _ _ _ rfl ((t.alloc _).alloc _) ⟨C.heap.size+1,0,none⟩ 1 1 [.string x,.bool ng,.string z] rfl rfl ?c1 ?c2 ?c3 ?c4 ?c5 ?_)
            case c1=>exact ZcY (by simp)
            case c2=>intro u hu;simp at hu;rcases hu with rfl|rfl|rfl <;> rfl
            case c3=>unfold maxLen;omega
            case c4=>omega
            case c5=>simp;have:=A.size;omega
            intro v' O o i _;have a5:Hid (w.grownBy O (some R.b)):=hid (Zfn (ZbR (ZbR A.out)) i (fun q P=>(t.lt q P).1));have a6:Hid (RK O R k5 y):=hid (RK.grown H.out (a4.below (Zbal.alloc (by simp) _)) i (fun q P=>(t.lt q P).1));have a7:Hid (O.ownsRow w.heap.size 247 3 v' ([]++[(x,z,ng)]).length (Zb1 ([]++[(x,z,ng)]))):=hid (by rw[Zpk,Yab];exact o);clear o i;go_wp2
            go_roundg y.length
            case measure=>omega
            case rel=>exact⟨_,y,k5,m,rfl,a6,a7,⟨by omega,by simp;omega,l.out⟩,a5⟩
        · have c9:0<bs.length:=Ycj.2 hb
          have j:Hid ((bnd (Zq [44] r) fun _ z=>bnd (ZV z) fun a y=>ZS ZV (bl cl) m (bs.map Z7++[a]) y)=PL):=hid (by rw[<-F.2.2];exact(Zmd J (by simpa using hb)).symm);clear M J hb
          go_wp2_with fail
          refine(ZdT G.out ⟨#[44]⟩ Dc Dc).mono ?_;rintro e Z ⟨v,rfl,d,p⟩;have a3:=hid (Zfu W.out p Q);have Y:Hid (w.grownBy Z (some R.b)):=Zj X.out p;clear p;by_cases L:isT [44] (hd r)=true
          · rw[show Zq (bl ⟨#[44]⟩) r=.ok ((),r.tail) from ZdU L]at d
            obtain⟨rfl,⟨k4,I⟩,_⟩:=d.out;have b9:Hid (RK Z R k4 r.tail):=I;have a8:Hid ((bnd (ZV r.tail) fun a y=>ZS ZV (bl cl) m (bs.map Z7++[a]) y)=PL):=hid (by rw[<-j.out,ZdU L];rfl);clear d I L j G W X
            go_wp2_with fail
            refine(Zou b9.out).mono ?_;rintro e C ⟨x,ng,z,v,rfl,d,s⟩;have t:=hid (Zfu a3.out s Q);have A:Hid (w.grownBy C (some R.b)):=Zj Y.out s;clear s;cases f:ZV r.tail with
            | error er=>
              rw[f]at d;obtain⟨fa,rfl⟩:=d.shape;have N:Hid (Z9 C R er _):=d.out;have l:Hid (PL=.error er):=hid (by rw[<-a8.out,f];rfl);clear d f;go_wp2;go_ret2;exact⟨_,_,_,_,rfl,by rw[l.out];exact N.below Zbal,ZbR A.out⟩
            | ok pr=>
              obtain⟨a,y⟩:=pr;rw[f]at d;obtain⟨rfl,⟨k5,K⟩,D⟩:=d.out;have HX:Hid (Z7 (x,z,ng)=a):=hid (by unfold Z7;simp only[D.1,D.2.1,D.2.2]);have a4:Hid (RK C R k5 y):=K;have B:y.length<=(r.tail).tail.length:=Zot f;have hy:y.length<r.length:=by have h9:=b9.pos;simp only[Yb4]at h9 B;omega
              have l:Hid (ZS ZV (bl cl) m ((bs++[(x,z,ng)]).map Z7) y=PL):=hid (by rw[<-a8.out,f,Yaq];rw[<-HX.out];rfl);have c7:=F.2.1;have c8:=F.1;clear d K D f B
              go_wp2_with (at_builtin;refine wpList_append_own _ rfl (.tmp 43) (.tmp 45) 177 rfl w.heap.size 247 i0 (.agg #[.string ByteArray.empty,.bool false,.string ByteArray.empty]) 3 40 underlying177 hi b1 b2 b3 rfl Dc _ _ _ rfl ((t.alloc _).alloc _) ⟨C.heap.size+1,0,none⟩ 1 1 [.string x,.bool ng,.string z] rfl rfl ?c1 ?c2 ?c3 ?c4 ?c5 ?_)
              case c1=>exact ZcY (by simp)
              case c2=>intro u hu;simp at hu;rcases hu with rfl|rfl|rfl <;> rfl
              case c3=>unfold maxLen;omega
              case c4=>omega
              case c5=>simp;have:=A.size;omega
              intro v' O o i _;have a5:Hid (w.grownBy O (some R.b)):=hid (Zfn (ZbR (ZbR A.out)) i (fun q P=>(t.lt q P).1));have a6:Hid (RK O R k5 y):=hid (RK.grown H.out (a4.below (Zbal.alloc (by simp) _)) i (fun q P=>(t.lt q P).1));have a7:Hid (O.ownsRow w.heap.size 247 3 v' (bs++[(x,z,ng)]).length (Zb1 (bs++[(x,z,ng)]))):=hid (by rw[Zpk,Yab];exact o);clear o i;go_wp2
              go_roundg y.length
              case measure=>omega
              case rel=>exact⟨_,y,k5,m,rfl,a6,a7,⟨by omega,by simp;omega,l.out⟩,a5⟩
          · rw[show Zq (bl ⟨#[44]⟩) r=.error (2,(hd r).at_) from Ze8 L]at d
            obtain⟨fa,rfl⟩:=d.shape;have N:Hid (Z9 Z R (2,(hd r).at_) _):=d.out;have l:Hid (PL=.error (2,(hd r).at_)):=hid (by rw[<-j.out,Ze8 L];rfl);clear d;go_wp2;go_ret2;exact⟨_,_,_,_,rfl,by rw[l.out];exact N,Y.out⟩
  · rw[Ze8 h1]at d
    have l:Hid (PL=.error (2,(hd ts).at_)):=hid (by rw[a1.out,Ze8 h1];rfl);obtain⟨fa,rfl⟩:=d.shape;have N:Hid (Z9 w1 R (2,(hd ts).at_) _):=d.out;clear d;go_wp2;go_ret2;exact⟨_,_,_,_,rfl,by rw[l.out];exact N,a2.out⟩
def canB(s:BA):Bool:=!decide (wOr=bl s) && !decide (wBy=bl s) && !(idx (bl s) ZW).isSome && !(idx (bl s) Z0).isSome
theorem Zus(s:BA):CP 157 #[.string s] w fun e u=>e=.returned (.bool (canB s))/\u=w:=Zur s w
theorem Zza(d:bl s=(hd ts).txt)(c:canB s=true):ZdQ ts=ZH 2 ts:=by
 unfold ZdQ;by_cases a:Zgp (hd ts)=true
 ·rw[if_pos a]
  exfalso
  unfold canB at c;rw[d]at c;unfold Zgp at a;simp only[Yas,Ycr,decide_eq_false_iff_not]at c;simp only[Yct]at a;obtain⟨⟨⟨e,f⟩,g⟩,h⟩:=c;rcases a with ((a|a)|a)|a
  ·rw[g]at a;cases a
  ·rw[h]at a;cases a
  ·exact e (Zic a).symm
  ·exact f (Zic a).symm
 ·rw[if_neg a]
theorem Zzb(f:bl s=(hd ts).txt)(c:canB s=false):ZdQ ts=.error (2,(hd ts).at_):=by
 unfold ZdQ;by_cases d:Zgp (hd ts)=true
 ·rw[if_pos d]
 ·rw[if_neg d];refine Zgb (fun g=>d ?_);unfold canB at c;rw[f]at c;unfold Zgp
  have e:∀a:LB,decide (a=(hd ts).txt)=isT a (hd ts):=by
   intro a;unfold isT;rw[g,Ybh,decide_eq_true_iff,Yas,beq_iff_eq];exact⟨fun h=>⟨rfl,h.symm⟩,fun h=>h.2.symm⟩
  rw[e,e]at c;generalize isT wOr (hd ts)=b1 at *
  generalize isT wBy (hd ts)=b2 at *
  generalize(idx (hd ts).txt ZW).isSome=b3 at *
  generalize(idx (hd ts).txt Z0).isSome=b4 at *
  cases b1 <;> cases b2 <;> cases b3 <;> cases b4 <;> first|rfl|cases c
def set2(w:World)(a:Nat)(x y:Value):World:=(w.setCell ⟨a,0,none⟩ x).setCell ⟨a,1,none⟩ y
theorem ZdS{p q x:Value}{t:TypeId}(h:BAt w a [p,q] t):BAt (set2 w a x y) a [x,y] t:=by
 unfold BAt at h;unfold BAt set2;simp only[World.setCell,Ybn,h,if_true,Ybf];rfl
theorem ret2{P:Program}{fn:Func}{R:Ending->World->Prop}{a:Act}{v:World}{p q x r:Value}{t:TypeId}(c:∀W:World,W.cell? ⟨b,0,none⟩=some x->W.cell? ⟨b,1,none⟩=some y->(results fn a.tmps).run P W=.ok r W)(hd:a.defers=[])(d:BAt v b [p,q] t)(e:R (.returned r) (set2 v b x y)):bodyPost P fn R .ret a (set2 v b x y):=by
 have s:=ZdS d (x:=x) (y:=y);exact bodyPost_ret (c _ (s.cell 0) (s.cell 1)) hd e
theorem Zm7{x:Value}(c:b≠a):(set2 w a x y).heap[b]?=w.heap[b]?:=by
 unfold set2;rw[Go.Deep.blk_setCell_other _ _ _ _ c,Go.Deep.blk_setCell_other _ _ _ _ c]
theorem Zgr(h:w0.grownBy w (some b))(c:w0.heap.size<=a)(x y:Value):w0.grownBy (set2 w a x y) (some b):=
 ZA (ZA h (Or.inr c)) (Or.inr c)
theorem Z9.set2(h:Z9 w R e v){c:List Value}{t:TypeId}(d:BAt w a c t)(f:t≠98)(x y:Value):Z9 (set2 w a x y) R e v:=by
 refine h.grown (b:=a) ?_ d f;exact ZA (ZA (ZbM w (some a)) (Or.inl rfl)) (Or.inl rfl)
theorem Zbm.same{ns:List (LB)}(h:Zbm w v ns)(a:∀j,v.ownBlock=some j->w'.heap[j]?=w.heap[j]?):Zbm w' v ns:=by
 obtain⟨bs,c,d⟩:=h;exact⟨bs,ZdA c a,d⟩
theorem ZX.same(h:ZX w v ns)(a:∀j,v.ownBlock=some j->w'.heap[j]?=w.heap[j]?):ZX w' v ns:=by
 obtain⟨bs,c,d⟩:=h;exact⟨bs,ZdA c a,d⟩
theorem ZX.kept(h:ZX w v ns)(g:w.grownBy w' (some b)){t:TypeId}(i:w.heap[b]?=some (.cells c t fr))(k:t≠247):ZX w' v ns:=by
 obtain⟨bs,a,l⟩:=h;have d:=Zcx a i k;exact⟨bs,ZdA a (fun j f=>g.block j (a.lt j f).2 (fun e=>by injection e with e;subst e;exact d f.symm)),l⟩
theorem Zbm.kept{ns:List (LB)}(h:Zbm w v ns)(g:w.grownBy w' (some b)){t:TypeId}(i:w.heap[b]?=some (.cells c t fr))(k:t≠9):Zbm w' v ns:=by
 obtain⟨bs,a,l⟩:=h;have d:=Zcx a i k;exact⟨bs,ZdA a (fun j f=>g.block j (a.lt j f).2 (fun e=>by injection e with e;subst e;exact d f.symm)),l⟩
theorem ZX.set2(h:ZX w v ns){c:List Value}{t:TypeId}(d:BAt w a c t)(e:t≠247)(x y:Value):ZX (set2 w a x y) v ns:=
 h.kept (b:=a) (ZA (ZA (ZbM w (some a)) (Or.inl rfl)) (Or.inl rfl)) d e
theorem Zsd(h:RK w R k ts) :
  CP 116 #[Vp R.b] w fun e u=>∃(nm:BA) (la:Option Addr) (ln lc:Nat) (v:Value),e=.returned (.tuple #[.agg #[.string nm,.slice la ln lc],v])/\Hid (Res R (fun u nd=>bl nm=nd.name/\ZX u (.slice la ln lc) nd.jq) u (selP ts) v)/\w.grownBy u (some R.b):=by
 have H:Hid (RK w R k ts):=h;have a7:R.b<w.heap.size:=(Yae.1 h.rd.cells).1;clear h;go_enter func116,ntmps116
 go_wp2_with fail
 refine Zm fun W0 n=>?_;have B:Hid (RK W0 R k ts):=hid (by rw[n];exact H.below Zbal);have S:Hid (BAt W0 w.heap.size [.string ByteArray.empty,S0] 179):=hid (by rw[n];exact Go.Deep.blk_alloc_new _ _);have T:Hid (w.grownBy W0 (some R.b)):=hid (by rw[n];exact ZbR (ZbM _ _));clear n;refine(Zee B.out).mono ?_;rintro e w1 ⟨⟨kd,at_,tx,tv⟩,rfl,ht,o⟩;have C:=hid (S.below o);have D:Hid (w.grownBy w1 (some R.b)):=Zj T.out (Zw o);have E:Hid (RK w1 R k ts):=B.below o;clear o S T B;have U:Hid (bl tx=(hd ts).txt):=ht.2.2.1;have hf:∀W:World,(Instr.field 87 (.agg #[Vi kd,Vi at_,.string tx,Vi tv]) 2).run prog W=.ok (.string tx) W:=fun _=>rfl
 go_wp2_with fail
 refine(Zus tx).mono ?_;rintro e w1 ⟨rfl,rfl⟩;cases P:canB tx
 ·have F:Hid (selP ts=.error (2,(hd ts).at_)):=hid (by unfold selP;rw[Zzb U.out P];rfl);clear P
  go_wp2_with fail
  refine(Zfi E.out).mono ?_;rintro e wE ⟨v,rfl,Q,G⟩;obtain⟨fa,rfl⟩:=Q.shape;have g:=hid (C.below G);have a2:Hid (w.grownBy wE (some R.b)):=Zj D.out (Zw G);clear G;have f0:=g.frozen 0;have f1:=g.frozen 1;have c0:=g.cell 0;have c1:=g.cell 1;simp only[Zget]at c0 c1;go_wp2;exact ret2 (r:=.tuple #[.agg #[.string ⟨#[]⟩,S0],.iface 94 (Vp fa)]) (fun W s0 s1=>by simp[results,results116,go_sem,s0,s1]) rfl g.out ⟨_,_,_,_,_,rfl,by rw[F.out];exact(Q.set2 g.out Dc (.string ⟨#[]⟩) S0),Zgr a2.out (Yac _) (.string ⟨#[]⟩) S0⟩
 ·have V:Hid (ZdQ ts=ZH 2 ts):=Zza U.out P;clear P
  go_wp2_with fail
  refine(Zkk E.out).mono ?_;rintro e z ⟨x,v,rfl,a,hg⟩;have c:Hid (BAt z w.heap.size [.string ByteArray.empty,S0] 179):=C.grown hg (by simp;omega);have I:Hid (w.grownBy z (some R.b)):=Zj D.out hg;clear hg C D E;by_cases i:(hd ts).jx=2
  ·rw[Zfr i]at a;obtain⟨rfl,⟨k2,hk⟩,hx⟩:=a.out;have J:Hid (RK z R k2 ts.tail):=hk;have HX:Hid (bl x=(hd ts).txt):=hx;have X:Hid (ZdQ ts=.ok ((hd ts).txt,ts.tail)):=hid (by rw[V.out,Zfr i]);clear a hk hx i
   go_wp2_with fail
   refine(Zee J.out).mono ?_;rintro e w3 ⟨⟨kd3,at3,tx3,tv3⟩,rfl,Y,p⟩;have Z:=hid (c.below p);have a0:Hid (w.grownBy w3 (some R.b)):=Zj I.out (Zw p);have q:Hid (RK w3 R k2 ts.tail):=J.below p;clear p c I J
   go_wp2_with fail
   refine(Zf6 Y.out q.wf.head.1 q.wf.head.2.2 ⟨#[123]⟩ Dc Dc _).mono ?_;rintro e w4 ⟨rfl,t⟩;have d:=hid (Z.below t);have K:Hid (w.grownBy w4 (some R.b)):=Zj a0.out (Zw t);have A:Hid (RK w4 R k2 ts.tail):=q.below t;clear t Z a0 q Y;by_cases m:isT [123] (hd ts.tail)=true
   ·rw[show isT (bl ⟨#[123]⟩) (hd ts.tail)=true from m];obtain⟨PL,L⟩:∃PL,PL=bnd (Zq [123] ts.tail) fun _ r=>ZS ZV [125] (r.length+1) [] r:=⟨_,rfl⟩
    have M : Hid (selP ts = bnd PL fun cs r => .ok (⟨1, 0, 0, (hd ts).txt, cs, []⟩, r)) := hid (by
      unfold selP;rw[X.out];show(if isT [123] (hd ts.tail)=true then _ else _)=_;rw[if_pos m,L,ZdU m];have hl:ts.tail.length=ts.tail.tail.length+1:=by have:=A.pos;rw[Yb4 (l:=ts.tail)];omega
      rw[hl];rfl)
    have a3:Hid (PL=bnd (Zq [123] ts.tail) fun _ r=>ZS ZV [125] (r.length+1) [] r):=L;clear L m
    go_wp2_with fail
    refine(Zyy A.out ⟨#[123]⟩ ⟨#[125]⟩ Dc Dc).mono ?_;rintro e N ⟨la,ln,lc,v,rfl,a,O⟩;rw[show(bnd (Zq (bl ⟨#[123]⟩) ts.tail) fun _ r=>ZS ZV (bl ⟨#[125]⟩) (r.length+1) [] r)=PL from a3.symm]at a;have f:Hid (BAt N w.heap.size [.string ByteArray.empty,S0] 179):=d.grown O (by simp;omega);have a4:Hid (w.grownBy N (some R.b)):=Zj K.out O;clear O d K A;have f0:=f.frozen 0;have f1:=f.frozen 1;have c0:=f.cell 0;have c1:=f.cell 1;simp only[Zget]at c0 c1;go_wp2;change bodyPost _ _ _ _ _ (set2 N w.heap.size (.string x) (.slice la ln lc));have s:=ZdS f.out (x:=.string x) (y:=.slice la ln lc);have s0:=s.cell 0;have s1:=s.cell 1;simp only[Zget]at s0 s1;have a5:=hid (Zgr a4.out (Yac _) (.string x) (.slice la ln lc))
    have a6 : Hid (Res R (fun u nd => bl x = nd.name /\ ZX u (.slice la ln lc) nd.jq) (set2 N w.heap.size (.string x) (.slice la ln lc)) (selP ts) v) := hid (by
      rw[M.out];cases a1:PL with
      | error er=>rw[a1]at a;exact Z9.set2 a.out f.out Dc _ _
      | ok pr=>
        rw[a1]at a;obtain⟨h1,⟨kk,h2⟩,h3⟩:=a.out;exact⟨h1,⟨kk,RK.fresh H.out h2 (Yac _) (fun j hj=>Zm7 hj)⟩,HX.out,ZX.set2 h3 f.out Dc _ _⟩)
    clear a;generalize set2 N w.heap.size (.string x) (.slice la ln lc)=WX at *
    exact bodyPost_ret (v:=.tuple #[.agg #[.string x,.slice la ln lc],v]) (by simp[results,results116,go_sem,s0,s1]) rfl ⟨_,_,_,_,_,rfl,a6,a5.out⟩
   ·rw[show isT (bl ⟨#[123]⟩) (hd ts.tail)=false from Yce.2 m]
    have M:Hid (selP ts=.ok (⟨1,0,0,(hd ts).txt,[],[]⟩,ts.tail)):=hid (by
     unfold selP;rw[X.out];show(if isT [123] (hd ts.tail)=true then _ else _)=_;rw[if_neg m])
    clear m;have f0:=d.frozen 0;have f1:=d.frozen 1;have c0:=d.cell 0;have c1:=d.cell 1;simp only[Zget]at c0 c1;go_wp2;exact ret2 (r:=.tuple #[.agg #[.string x,S0],.nilIface]) (fun W s0 s1=>by simp[results,results116,go_sem,s0,s1]) rfl d.out ⟨_,_,_,_,_,rfl,by rw[M.out];exact⟨rfl,⟨_,RK.fresh H.out A.out (w':=set2 w4 w.heap.size (.string x) S0) (Yac _) (fun j hj=>Zm7 hj)⟩,HX.out,[],Ybc _ _ _ _,rfl⟩,Zgr K.out (Yac _) (.string x) S0⟩
  ·rw[Zgb i]at a;have F:Hid (selP ts=.error (2,(hd ts).at_)):=hid (by unfold selP;rw[V.out,Zgb i];rfl);obtain⟨fa,rfl⟩:=a.shape;have Q:Hid (Z9 z R (2,(hd ts).at_) _):=a.out;clear a i;have f0:=c.frozen 0;have f1:=c.frozen 1;have c0:=c.cell 0;have c1:=c.cell 1;simp only[Zget]at c0 c1;go_wp2;exact ret2 (r:=.tuple #[.agg #[.string x,S0],.iface 94 (Vp fa)]) (fun W s0 s1=>by simp[results,results116,go_sem,s0,s1]) rfl c.out ⟨_,_,_,_,_,rfl,by rw[F.out];exact(Q.set2 c.out Dc (.string x) S0),Zgr I.out (Yac _) (.string x) S0⟩
def Zdb(o:Nat):Nat:=if o=0 then 0 else if o<=2 then 1 else 2
def Ze5(o:Nat):LB:=if o=0 then [111,114] else if o=1 then [43] else if o=2 then [45] else if o=3 then [42] else [47]
theorem Zm0 (o : Nat) (a : o <= 4)  : CP 67 #[Vi o] w fun e u => e = .returned (Vi (Zdb o)) /\ u = w := by
  have h:o=0∨o=1∨o=2∨o=3∨o=4:=by omega
  rcases h with rfl|rfl|rfl|rfl|rfl
  all_goals
    go_enter func67,ntmps67;go_wp2;go_ret;exact⟨rfl,rfl⟩
theorem ZCd (o : Nat) (a : o <= 4)  : CP 81 #[Vi o] w fun e u => e = .returned (.string ⟨(Ze5 o).toArray⟩) /\ u = w := by
  have h:o=0∨o=1∨o=2∨o=3∨o=4:=by omega
  rcases h with rfl|rfl|rfl|rfl|rfl
  all_goals
    go_enter func81,ntmps81;go_wp2;go_ret;exact⟨rfl,rfl⟩
def ZhO(t:PTok):Bool:=if ((t.kd:Int) == 0)then true else if ((t.kd:Int) == 1)then !(t.tx.toList == [111,114]) && !(t.tx.toList == [98,121])else ZY t ⟨#[45]⟩ || ZY t ⟨#[40]⟩
theorem Zt1(t:PTok)(w:World) :
  CP 109 #[.agg #[Vi t.kd,Vi t.at_,.string t.tx,Vi t.v]] w fun e u=>e=.returned (.bool (ZhO t))/\BW w u:=by
 have c:Hid (TAt (w.alloc (.cells #[Vi t.kd,Vi t.at_,.string t.tx,Vi t.v] 87)) w.heap.size t):=Go.Deep.blk_alloc_new _ _;have a:Hid (BW w (w.alloc (.cells #[Vi t.kd,Vi t.at_,.string t.tx,Vi t.v] 87))):=Zbal;obtain⟨x0,j⟩:∃x,((t.kd:Int) == 0)=x:=⟨_,rfl⟩
 obtain⟨x1,k⟩:∃x,((t.kd:Int) == 1)=x:=⟨_,rfl⟩
 obtain⟨y1,g1⟩:∃x,(t.tx.toList == [111,114])=x:=⟨_,rfl⟩
 obtain⟨y2,g2⟩:∃x,(t.tx.toList == [98,121])=x:=⟨_,rfl⟩
 obtain⟨z1,f1⟩:∃x,ZY t ⟨#[45]⟩=x:=⟨_,rfl⟩
 obtain⟨z2,f2⟩:∃x,ZY t ⟨#[40]⟩=x:=⟨_,rfl⟩
 have h:Hid (ZhO t=if x0 then true else if x1 then !y1 && !y2 else z1 || z2):=hid (by unfold ZhO;rw[j,k,g1,g2,f1,f2]);have i:Hid (ZY t ⟨#[45]⟩=z1/\ZY t ⟨#[40]⟩=z2):=⟨f1,f2⟩
 rw[h.out];clear h f1 f2;cases x0
 ·cases x1
  ·go_enter func109,ntmps109
   go_wp2_with fail
   refine(ZgT t i.1 w _ w.heap.size c.out a.out).mono ?_;rintro e y ⟨rfl,d,f⟩;clear c a;cases z1
   ·obtain⟨k0,k1,k2,k3⟩:=TAt.all d.out
    go_wp2_with fail
    clear k0 k1 k2 k3;refine(ZgT t i.2 w y w.heap.size d.out f.out).mono ?_;rintro e z ⟨rfl,l,g⟩;cases z2
    ·go_wp2;go_ret;exact⟨rfl,g.out⟩
    ·go_wp2;go_ret;exact⟨rfl,g.out⟩
   ·go_wp2;go_ret;exact⟨rfl,f.out⟩
  ·cases y1 <;> cases y2
   all_goals
    go_enter func109,ntmps109;go_wp2;go_ret;exact⟨rfl,a.out⟩
 ·go_enter func109,ntmps109;go_wp2;go_ret;exact⟨rfl,a.out⟩

/- Parts. -/
import Derived.Test.YtkodhpilkaihjaaGreatDoorV08
namespace Go.Proofs.YtkodhpilkaihjaaGreatDoor
open Go.RowKit LS
def Bud{α:Type}(M n:Nat)(r:Out α):Prop:=match r with
 | .error _=>n≤M
 | .ok x=>n+x.2.length≤M
theorem Bud.le{α:Type}{M n:Nat}{r:Out α}(h:Bud M n r):n≤M:=by
 cases r with
 | error e=>exact h
 | ok x=>exact Nat.le_trans (Nat.le_add_right _ _) h
theorem Bud.bnd{α β:Type}{M n:Nat}{r:Out α}{f:α→List Tok→Out β}(h:Bud M n r)(hf:∀a ts z,r=.ok (a,ts)→f a ts=.ok z→z.2.length≤ts.length):Bud M n (bnd r f):=by
 cases r with
 | error e=>exact h
 | ok x=>
  obtain⟨a,ts⟩:=x
  have h':n+ts.length≤M:=h
  show Bud M n (f a ts)
  cases hz:f a ts with
  | error e=>exact(show n≤M by omega)
  | ok z=>have:=hf a ts z rfl hz;exact(show n+z.2.length≤M by omega)
theorem Bud.unit{α:Type}{M n:Nat}{r:Out α}(h:Bud M n r):Bud M n (unitP r):=by
 cases r with
 | error e=>exact h
 | ok x=>exact h
theorem Bud.of_unit{α:Type}{M n:Nat}{r:Out α}(h:Bud M n (unitP r)):Bud M n r:=by
 cases r with
 | error e=>exact h
 | ok x=>exact h
theorem Bud.up{α:Type}{M M' n n':Nat}{r:Out α}(h:Bud M n r)(hM:M+n'≤M'+n):Bud M' n' r:=by
 cases r with
 | error e=>have h':n≤M:=h;exact(show n'≤M' by omega)
 | ok x=>have h':n+x.2.length≤M:=h;exact(show n'+x.2.length≤M' by omega)
theorem Bud.take {M n : Nat} {r : Out Unit} (h : Bud M n r) (c : List UInt8) : Bud M n (LS.bnd r fun _ ts => takeP c ts) :=
  h.bnd fun _ _ _ _ hz=>by have:=takeP_len hz;omega
structure PartRes (w:World) (b:Nat) (pv:Value) (s:ByteArray) (deep:Nat) (xs:List Value) (M:Nat) (R:Out Tr) (i:Int) (w':World):Prop where
 out:∃(n':Nat) (pv':Value) (ys:List Value),St w' b pv' s deep (unitP R)∧w'.ownsRow 0 92 8 pv' n' (xs++ys)∧Kept b pv w pv' w'∧Bud M n' R∧
  (∀t z,R=.ok (t,z)→∃k:Nat,i=k∧Rep w' (xs++ys) t k∧k+1=n'∧ys.length=8*cntT t)
def PartC(f:FuncId)(s:ByteArray)(R:List Tok→Nat→Out Tr)(L:Nat):Prop:=
 ∀(w:World) (b:Nat) (pv:Value) (deep:Nat) (r:Out Unit) (n:Nat) (xs:List Value) (M:Nat),St w b pv s deep r→w.ownsRow 0 92 8 pv n xs→M≤6000→Bud M n r→(∀ts,r=.ok ((),ts)→ts.length≤L)→deep≤20→
  Calls Tryz.prog f #[.pointer (some ⟨b,0,none⟩)] w fun e w'=>∃i:Int,e=.returned (.int .i64 i)∧PartRes w b pv s deep xs M (LS.bnd r fun _ ts=>R ts deep) i w'
theorem PartC.mono{f:FuncId}{s:ByteArray}{R:List Tok→Nat→Out Tr}{L L':Nat}(h:PartC f s R L)(hl:L'≤L):PartC f s R L':=
 fun w b pv deep r n xs M h1 h2 h3 h4 h5 h6=>h w b pv deep r n xs M h1 h2 h3 h4 (fun ts e=>Nat.le_trans (h5 ts e) hl) h6
theorem PartRes.error{w:World}{b:Nat}{pv:Value}{s:ByteArray}{deep n:Nat}{xs:List Value}{M:Nat}{x:Nat×Nat}(h:St w b pv s deep (.error x))(hown:w.ownsRow 0 92 8 pv n xs)(hb:n≤M):PartRes w b pv s deep xs M (.error x) 0 w:=
 ⟨n,pv,[],h,by rw[List.append_nil];exact hown,Kept.refl _ _ _,hb,fun _ _ h=>nomatch h⟩
theorem row_grown{w w':World}{b:Nat}{pv:Value}{s:ByteArray}{deep n:Nat}{xs:List Value}{r:Out Unit}(h:St w b pv s deep r)(hown:w.ownsRow 0 92 8 pv n xs)(hg:w.grownBy w' (some b)):w'.ownsRow 0 92 8 pv n xs:=by
 obtain⟨q,hq,_⟩:=h.view
 exact hown.kept hg (Or.inr (fun e=>own_ne_block hown hq (by decide) e.symm))
theorem bnd_bnd {α β γ : Type} (r : Out α) (f : α → List Tok → Out β) (g : β → List Tok → Out γ) : bnd (bnd r f) g = bnd r fun a ts => bnd (f a ts) g := by
  cases r with
  | error e=>rfl
  | ok x=>rfl
theorem len_take {r : Out Unit} {c : List UInt8} {L : Nat} (h : ∀ ts, r = .ok ((), ts) → ts.length ≤ L + 1) : ∀ ts, (bnd r fun _ ts => takeP c ts) = .ok ((), ts) → ts.length ≤ L := by
  intro ts e
  obtain⟨_,t,h1,h2⟩:=bnd_ok e
  have:=takeP_len h2
  have:=h t h1
  simp at *
  omega
theorem PartRes.behind{w w' w2:World}{b:Nat}{pv pv':Value}{s:ByteArray}{deep n':Nat}{xs ys:List Value}{M:Nat}{R R2:Out Tr}{i:Int}(h1:St w' b pv' s deep (unitP R))(h2:w'.ownsRow 0 92 8 pv' n' (xs++ys))(h3:Kept b pv w pv' w')
  (h4:Bud M n' R2) (h5:∀t z,R=.ok (t,z)→∃k:Nat,i=k∧Rep w' (xs++ys) t k∧k+1=n'∧ys.length=8*cntT t) (hg:w'.grownBy w2 (some b)) (hs:St w2 b pv' s deep (unitP R2)) (hR:∀t z,R2=.ok (t,z)→∃z',R=.ok (t,z')):PartRes w b pv s deep xs M R2 i w2:=by
 obtain⟨q,hq,hqp,_⟩:=h1.view
 refine⟨n',pv',ys,hs,row_grown h1 h2 hg,h3.grown hg,h4,?_⟩
 intro t z e
 obtain⟨z',e'⟩:=hR t z e
 obtain⟨k,k1,k2,k3⟩:=h5 t z' e'
 refine⟨k,k1,?_,k3⟩
 have:=Rep.kept hq h2 ((Kept.refl b pv' w').grown hg) [] t k k2
 rwa [List.append_nil]at this
theorem unit_close {α : Type} (R : Out α) (c : List UInt8) : unitP (bnd R fun a ts => bnd (takeP c ts) fun _ z => .ok (a, z)) = bnd (unitP R) fun _ ts => takeP c ts := by
  cases R with
  | error e=>rfl
  | ok x=>
    show unitP (bnd (takeP c x.2) fun _ z=>.ok (x.1,z))=takeP c x.2
    cases takeP c x.2 with
    | error e=>rfl
    | ok y=>rfl
theorem bud_close {α : Type} {M n : Nat} {R : Out α} (h : Bud M n R) (c : List UInt8) : Bud M n (bnd R fun a ts => bnd (takeP c ts) fun _ z => .ok (a, z)) :=
  h.bnd fun a ts z _ hz => by
    obtain⟨_,t,h1,h2⟩:=bnd_ok hz
    injection h2 with h2
    subst h2
    have:=takeP_len h1
    simp at *
    omega
theorem ok_close {α : Type} {R : Out α} {c : List UInt8} {t : α} {z : List Tok} (h : (bnd R fun a ts => bnd (takeP c ts) fun _ z => (.ok (a, z) : Out α)) = .ok (t, z)) : ∃ z', R = .ok (t, z') := by
  obtain⟨a,ts,h1,h2⟩:=bnd_ok h
  obtain⟨_,t2,h3,h4⟩:=bnd_ok h2
  injection h4 with h4
  injection h4 with h4 h5
  subst h4
  exact⟨ts,h1⟩
theorem withinP_eq (r : Out Unit) (rec : Nat → List Tok → Nat → Out Tr) (deep : Nat) : (bnd r fun _ ts => withinP rec ts deep) = bnd (bnd (bnd r fun _ ts => takeP [40] ts) fun _ ts => rec 0 ts deep) fun a ts => bnd (takeP [41] ts) fun _ z => .ok (a, z) := by
  rw[bnd_bnd,bnd_bnd];rfl
set_option maxHeartbeats 2000000 in
theorem within_c {s : ByteArray} (hs : s.size ≤ 6000) {rec : Nat → List Tok → Nat → Out Tr} {L : Nat} (hq : PartC 176 s (fun ts d => rec 0 ts d) L) :
    PartC 315 s (withinP rec) (L+1):=by
  intro w b pv deep r n xs M h hown hM hB hL hdp
  have H:Hid (St w b pv s deep r):=h
  have HO:Hid (w.ownsRow 0 92 8 pv n xs):=hown
  have HQ:Hid (PartC 176 s (fun ts d=>rec 0 ts d) L):=hq
  have HB:Hid (Bud M n r):=hB
  have HL:Hid (∀ts,r=.ok ((),ts)→ts.length≤L+1):=hL
  clear h hown hq hB hL
  go_enter Tryz.func315,Tryz.ntmps315
  go_wp2_with fail
  refine(St.take H.out hs _).mono ?_
  rintro e w1 ⟨rfl,hst,hg⟩
  rw[show bl ⟨#[40]⟩=[40] from rfl]at hst
  have HS1:Hid (St w1 b pv s deep (bnd r fun _ ts=>takeP [40] ts)):=hst
  have HO1:Hid (w1.ownsRow 0 92 8 pv n xs):=row_grown H.out HO.out hg
  have HG1:Hid (w.grownBy w1 (some b)):=hg
  clear hst hg
  go_wp2_with fail
  refine(HQ.out w1 b pv deep _ n xs M HS1.out HO1.out hM (Bud.take HB.out _) (len_take HL.out) hdp).mono ?_
  rintro e w2 ⟨i,rfl,hp⟩
  obtain⟨n2,pv2,ys,s2,o2,k2,b2,r2⟩:=hp.out
  have HS2:Hid (St w2 b pv2 s deep (unitP (bnd (bnd r fun _ ts=>takeP [40] ts) fun _ ts=>rec 0 ts deep))):=s2
  have HO2:Hid (w2.ownsRow 0 92 8 pv2 n2 (xs++ys)):=o2
  have HK2:Hid (Kept b pv w pv2 w2):=((Kept.refl b pv w).grown HG1.out).trans k2
  have HB2:Hid _:=b2
  have HR2:Hid _:=r2
  clear hp s2 o2 k2 b2 r2
  go_wp2_with fail
  refine(St.take HS2.out hs _).mono ?_
  rintro e w3 ⟨rfl,hst,hg⟩
  rw[show bl ⟨#[41]⟩=[41] from rfl,←unit_close,←withinP_eq]at hst
  have HS3:Hid _:=hst
  have HG3:Hid _:=hg
  clear hst hg
  go_wp2
  go_ret
  refine⟨i,rfl,PartRes.behind HS2.out HO2.out HK2.out ?_ HR2.out HG3.out HS3.out ?_⟩
  · rw[withinP_eq];exact bud_close HB2.out _
  · intro t z e;rw[withinP_eq]at e;exact ok_close e
theorem St.lay{w:World}{b:Nat}{pv:Value}{s:ByteArray}{deep n:Nat}{xs:List Value}{r:Out Unit}(h:St w b pv s deep r)(hown:w.ownsRow 0 92 8 pv n xs)(hn:n≤6000)(p:PV) :
  Calls Tryz.prog 230 #[.pointer (some ⟨b,0,none⟩),.agg #[.int .i64 p.k,.int .i64 p.n,.int .i64 p.op,.string p.nm,.slice p.ca p.cn p.cc,.slice p.ba p.bn p.bc,.int .i64 p.a,.int .i64 p.b]] w fun e w'=>
   ∃pv',e=.returned (.int .i64 n)∧St w' b pv' s deep r∧w'.ownsRow 0 92 8 pv' (n+1) (xs++p.cells)∧Kept b pv w pv' w':=by
 cases r with
 | error x=>
  obtain⟨q,h1,h2,h3,h4,h5,h6⟩:=h
  subst h2
  refine(qlay_any w b q h1 n xs hown hn p).mono ?_
  rintro e w' ⟨pv',rfl,hq,ho,hk⟩
  exact⟨pv',rfl,⟨_,hq,rfl,h3,h4,h5,h6⟩,ho,hk⟩
 | ok x=>
  obtain⟨⟨q,h1,h2,h3,h4,h5,h6,h7⟩,_⟩:=h
  subst h2
  refine(qlay_any w b q h1 n xs hown hn p).mono ?_
  rintro e w' ⟨pv',rfl,hq,ho,hk⟩
  exact⟨pv',rfl,⟨⟨_,hq,rfl,h3,h4,h5,h6,h7⟩,trivial⟩,ho,hk⟩
theorem rep_new{w w':World}{b:Nat}{pv pv':Value}{s:ByteArray}{deep n:Nat}{xs:List Value}{r:Out Unit}(h:St w b pv s deep r)(hown:w.ownsRow 0 92 8 pv n xs)(hk:Kept b pv w pv' w')(p:PV)(nd:Nd)(t u:Tr)(a c:Nat)
  (hp:partIs w nd p) (ha:p.a=a) (hc:p.b=c) (ha':a≤n) (hc':c≤n) (ht:Rep w xs t a) (hu:Rep w xs u c):Rep w' (xs++p.cells) (.node 0 0 nd t u) n:=by
 obtain⟨q,hq,_⟩:=h.view
 obtain⟨g1,g2,g3,g4,g5,g6⟩:=hp
 exact⟨p,a,c,row_last hown.1 p,⟨g1,g2,g3,g4,g5.kept hq hown hk,g6.kept hq hown hk⟩,ha,hc,ha',hc',Rep.kept hq hown hk _ t a ht,Rep.kept hq hown hk _ u c hu⟩
theorem Kept.set{b:Nat}{p1 p2:Value}{w1 w2:World}(h:Kept b p1 w1 p2 w2){a:Addr}(ha:w1.heap.size≤a.block)(v:Value):Kept b p1 w1 p2 (w2.setCell a v):=
 ⟨h.os,h.tape,h.output,by rw[Go.Deep.nblk_setCell];exact h.size,fun k hk hb hp=>(Go.Deep.blk_setCell_other _ _ _ _ (by omega)).trans (h.block k hk hb hp),h.own⟩
theorem own_base{w:World}{base:Nat}{e:TypeId}{size:Nat}{v:Value}{n:Nat}{xs:List Value}(h:w.ownsRow base e size v n xs):w.ownsRow 0 e size v n xs:=by
 refine⟨h.1,?_⟩
 rcases h.2 with h2|⟨g,cap,cur,rfl,_,r⟩
 ·exact Or.inl h2
 ·exact Or.inr ⟨g,cap,cur,rfl,Nat.zero_le _,r⟩
theorem own_setBox{w:World}{base:Nat}{e:TypeId}{size:Nat}{v:Value}{n:Nat}{xs:List Value}(h:w.ownsRow base e size v n xs){a:Nat}{p:PV}(hp:PAt w a p)(he:92≠e)(o:Nat)(x:Value):(w.setCell ⟨a,o,none⟩ x).ownsRow base e size v n xs:=
 own_same h fun k hk=>Go.Deep.blk_setCell_other _ _ _ _ (by rintro rfl;exact own_ne_block h hp he hk.symm)
theorem CondsAre.grown{w w':World}{base:Nat}{p:PV}{cs:List (List UInt8×List UInt8×Bool)}(h:CondsAre w base p cs){r:Option Nat}(hg:w.grownBy w' r)(hr:∀k,(Value.slice p.ca p.cn p.cc).ownBlock=some k→some k≠r):CondsAre w' base p cs:=by
 obtain⟨qs,h1,h2⟩:=h
 exact⟨qs,own_same h1 (fun k hk=>hg.block k (h1.lt k hk).2 (hr k hk)),h2⟩
theorem kept_ne{b:Nat}{pv pv':Value}{w w':World}{a:Nat}(hk:Kept b pv w pv' w')(hx:pv.ownBlock≠some a)(ha:a<w.heap.size):pv'.ownBlock≠some a:=by
 rcases hk.own with e|e
 ·rw[e];exact hx
 ·intro h;have:=e a h;omega
theorem Rep.box{w:World}{xs:List Value}{a:Nat}{p0:PV}(hp:PAt w a p0)(o:Nat)(x:Value):∀(t:Tr) (i:Nat),Rep w xs t i→Rep (w.setCell ⟨a,o,none⟩ x) xs t i
 | .nil,_,_=>trivial
 | .node _ _ nd l r, i, h => by
   obtain⟨p,u,c,h1,⟨g1,g2,g3,g4,⟨qs,q1,q2⟩,⟨bs,b1,b2⟩⟩,h3,h4,h5,h6,h7,h8⟩:=h
   exact⟨p,u,c,h1,⟨g1,g2,g3,g4,⟨qs,own_setBox q1 hp (by decide) _ _,q2⟩,⟨bs,own_setBox b1 hp (by decide) _ _,b2⟩⟩,h3,h4,h5,h6,Rep.box hp o x l u h7,Rep.box hp o x r c h8⟩
def NRel(r3:Out Unit)(qs:List ByteArray)(rr:Out Unit):Prop:=(∃e,r3=.error e∧rr=.error e∧qs=[])∨∃ts0,r3=.ok ((),ts0)∧LoopRel (kindP 2) [41] bl (ts0.length+1) ts0 qs rr
def namesP(r3:Out Unit):Out (List (List UInt8)):=bnd r3 fun _ r=>listP (kindP 2) [41] (r.length+1) [] r
theorem NRel.start(r3:Out Unit):NRel r3 [] r3:=by
 cases r3 with
 | error e=>exact Or.inl ⟨e,rfl,rfl,rfl⟩
 | ok x=>exact Or.inr ⟨x.2,rfl,LoopRel.start _ _ _ _ _ (Nat.le_refl _)⟩
theorem NRel.len{r3 rr:Out Unit}{qs:List ByteArray}{K:Nat}(h:NRel r3 qs rr)(hK:∀ts,r3=.ok ((),ts)→ts.length≤K):qs.length≤K+1:=by
 rcases h with ⟨e,_,_,rfl⟩|⟨ts0,h1,h2⟩
 ·simp
 ·have:=hK ts0 h1;have:=h2.2.2;omega
theorem NRel.round{r3:Out Unit}{ts:List Tok}{qs:List ByteArray}{x:ByteArray}{r1 r4:Out Unit}(h:NRel r3 qs (.ok ((),ts)))(hc:isT [41] (hd ts)=false)
  (h1:(if qs.isEmpty then .ok ((),ts)else takeP [44] ts)=r1) (h4:r4=bnd r1 fun _ t=>unitP (kindP 2 t)) (hx:∀y,r1=.ok y→∀z,kindP 2 y.2=.ok z→bl x=z.1):NRel r3 (qs++[x]) r4:=by
 rcases h with ⟨e,_,h,_⟩|⟨ts0,h2,h3⟩
 ·cases h
 ·exact Or.inr ⟨ts0,h2,LoopRel.round h3 hc h1 h4 (fun t z e hz=>hx _ e z hz) (kindP_le 2 (by decide))⟩
theorem NRel.done{r3 rr:Out Unit}{qs:List ByteArray}(h:NRel r3 qs rr)(hd:isR [41] rr=true∨∃e,rr=.error e) :
  unitP (namesP r3)=(bnd rr fun _ ts=>takeP [41] ts)∧∀z,namesP r3=.ok z→qs.map bl=z.1:=by
 rcases h with ⟨e,rfl,rfl,rfl⟩|⟨ts0,rfl,h3⟩
 ·exact⟨rfl,fun z hz=>nomatch hz⟩
 ·exact LoopRel.done h3 hd
theorem groupP_eq (rec : Nat → List Tok → Nat → Out Tr) (g : Nat) (ts : List Tok) (deep : Nat) : groupP rec g ts deep = bnd (namesP (bnd (takeP wBy ts) fun _ r => takeP [40] r)) fun ns r => bnd (withinP rec r deep) fun a r => .ok (.node 0 0 ⟨5, g, 0, [], [], ns⟩ a .nil, r) := by
  unfold groupP namesP
  rw[bnd_bnd,bnd_bnd]
theorem group_unit (N : Out (List (List UInt8))) (rec : Nat → List Tok → Nat → Out Tr) (g deep : Nat) : unitP (bnd N fun ns r => bnd (withinP rec r deep) fun a r => (.ok (.node 0 0 ⟨5, g, 0, [], [], ns⟩ a .nil, r) : Out Tr)) = unitP (bnd (unitP N) fun _ ts => withinP rec ts deep) := by
  cases N with
  | error e=>rfl
  | ok x=>
    show unitP (bnd (withinP rec x.2 deep) fun a r=>(.ok (.node 0 0 ⟨5,g,0,[],[],x.1⟩ a .nil,r):Out Tr))=unitP (withinP rec x.2 deep)
    cases withinP rec x.2 deep with
    | error e=>rfl
    | ok y=>rfl
theorem group_ok {N : Out (List (List UInt8))} {rec : Nat → List Tok → Nat → Out Tr} {g deep : Nat} {t : Tr} {z : List Tok} (h : (bnd N fun ns r => bnd (withinP rec r deep) fun a r => (.ok (.node 0 0 ⟨5, g, 0, [], [], ns⟩ a .nil, r) : Out Tr)) = .ok (t, z)) :
    ∃ns zz a,N=.ok (ns,zz)∧(bnd (unitP N) fun _ ts=>withinP rec ts deep)=.ok (a,z)∧t=.node 0 0 ⟨5,g,0,[],[],ns⟩ a .nil:=by
  obtain⟨ns,zz,h1,h2⟩:=bnd_ok h
  obtain⟨a,z2,h3,h4⟩:=bnd_ok h2
  injection h4 with h4
  injection h4 with h4 h5
  subst h1;subst h5
  exact⟨ns,zz,a,rfl,h3,h4.symm⟩
theorem names_len{r3:Out Unit}{M n:Nat}(h:Bud M n r3):Bud M n (unitP (namesP r3)):=
 Bud.unit (h.bnd fun _ ts z _ hz=>by have:=listP_len (kindP_le 2 (by decide)) _ _ _ _ hz;omega)
theorem names_le{r3:Out Unit}{L:Nat}(h:∀ts,r3=.ok ((),ts)→ts.length≤L):∀ts,unitP (namesP r3)=.ok ((),ts)→ts.length≤L:=by
 intro ts e
 unfold unitP at e
 obtain⟨ns,t1,h1,h2⟩:=bnd_ok e
 injection h2 with h2
 injection h2 with _ h2
 subst h2
 unfold namesP at h1
 obtain⟨_,t2,h3,h4⟩:=bnd_ok h1
 have:=listP_len (kindP_le 2 (by decide)) _ _ _ _ h4
 have:=h t2 h3
 simp at *
 omega
theorem cells_one_new{W:World}{a:Value}{t:TypeId}{n:Nat}(hn:W.heap.size=n):∀j x,[a][j]?=some x→(W.alloc (.cells #[a] t)).cell? ((⟨n,0,none⟩:Addr).add j)=some x:=by
 intro j x hj
 subst hn
 rw[add_zero_block]
 have h:=Go.Deep.blk_alloc_new W (.cells #[a] t)
 simp only[World.cell?,h]
 simpa using hj
theorem Tryz.infoStr:(Tryz.prog.info? 9).map (fun i=>(i.zero,i.size,i.bytes))=some (some (.string ByteArray.empty),1,16):=by kernel_rfl
set_option maxRecDepth 100000 in
set_option maxHeartbeats 4000000 in
theorem group_any{w:World}{b:Nat}{pv:Value}{s:ByteArray}{deep:Nat}{ts:List Tok}(h:St w b pv s deep (.ok ((),ts)))(hs:s.size≤6000)(hl:¬((hd ts).kind=0∨(hd ts).kind=5))(g:Nat)(gi:Int)(hgi:gi=g)
  {rec:Nat→List Tok→Nat→Out Tr} {L:Nat} (hw:PartC 315 s (withinP rec) L) (hL:ts.length≤L) {n:Nat} {xs:List Value} {M:Nat} (hown:w.ownsRow 0 92 8 pv n xs) (hM:M≤6000) (hB:n+ts.length≤M) (hdp:deep≤20) :
  Calls Tryz.prog 317 #[.pointer (some ⟨b,0,none⟩),.int .i64 gi] w fun e w'=>∃i:Int,e=.returned (.int .i64 i)∧PartRes w b pv s deep xs M (groupP rec g ts.tail deep) i w':=by
 subst hgi
 have hlt:=h.lt
 have hne:ts≠[]:=by rintro rfl;exact hl (Or.inl rfl)
 have htl : ts.tail.length + 1 = ts.length := by cases ts with
   | nil=>exact absurd rfl hne
   | cons t r=>rfl
 have HX:Hid (pv.ownBlock≠some w.heap.size):=hid (fun e=>by have:=(hown.lt _ e).2;omega)
 have H:Hid (∀o,St (w.alloc o) b pv s deep (.ok ((),ts))):=fun o=>St.kept h (Go.Deep.blk_alloc_lt _ _ _ hlt)
 have HO:Hid (∀o,(w.alloc o).ownsRow 0 92 8 pv n xs):=fun o=>hown.alloc o
 have HW:Hid (PartC 315 s (withinP rec) L):=hw
 obtain⟨r1,hr1⟩:∃r1:Out Unit,r1=.ok ((),ts.tail):=⟨_,rfl⟩
 obtain⟨r3,hr3⟩:∃r3:Out Unit,r3=bnd (takeP wBy ts.tail) fun _ r=>takeP [40] r:=⟨_,rfl⟩
 have HB3:Hid (Bud (M - 1) n r3):=hid (by
  have h1:Bud (M - 1) n r1:=by rw[hr1];exact(show n+ts.tail.length≤M - 1 by omega)
  have h2:=Bud.take (Bud.take h1 wBy) [40]
  rw[hr1]at h2;rw[hr3];exact h2)
 have HL3:Hid (∀t,r3=.ok ((),t)→t.length≤ts.length):=hid (by
  intro t e
  rw[hr3]at e
  obtain⟨_,t1,h1,h2⟩:=bnd_ok e
  have:=takeP_len h1;have:=takeP_len h2
  simp at *
  omega)
 have hlen6:ts.length≤6002:=by have:=St.len h;simp at this;omega
 have HR1:Hid (r1=.ok ((),ts.tail)):=hr1
 have HR3:Hid (r3=bnd (takeP wBy ts.tail) fun _ r=>takeP [40] r):=hr3
 clear h hown hw hr1 hr3
 obtain⟨i0,hi,hz0,hz1,hz2⟩:=info_parts Tryz.infoStr
 go_enter Tryz.func317,Tryz.ntmps317
 go_wp2_with fail
 refine(St.next (H.out _) hs ⟨ts,rfl,hl⟩).mono ?_
 rintro e w1 ⟨rfl,hst,hg⟩
 have HS1:Hid (St w1 b pv s deep r1):=by rw[HR1.out];exact hst
 have HP1:Hid (PAt w1 w.heap.size { pv0 5 with op:=g }):=PAt.grown (Go.Deep.blk_alloc_new _ _) hg (by simp;omega)
 have HO1:Hid (w1.ownsRow 0 92 8 pv n xs):=row_grown (H.out _) (HO.out _) hg
 have HG1:Hid (w.grownBy w1 (some b)):=grown_trans (World.grownBy_alloc w _ _) hg
 clear hst hg
 go_wp2_with fail
 refine(St.take HS1.out hs _).mono ?_
 rintro e w2 ⟨rfl,hst,hg⟩
 have HS2:Hid (St w2 b pv s deep (takeP wBy ts.tail)):=by rw[HR1.out]at hst;exact hst
 have HP2:Hid (PAt w2 w.heap.size { pv0 5 with op:=g }):=PAt.grown HP1.out hg (by simp;omega)
 have HO2:Hid (w2.ownsRow 0 92 8 pv n xs):=row_grown HS1.out HO1.out hg
 have HG2:Hid (w.grownBy w2 (some b)):=grown_trans HG1.out hg
 clear hst hg HS1 HP1 HO1 HG1
 go_wp2_with fail
 refine(St.take HS2.out hs _).mono ?_
 rintro e w3 ⟨rfl,hst,hg⟩
 have HS3:Hid (St w3 b pv s deep r3):=by rw[HR3.out];exact hst
 have HP3:Hid (PAt w3 w.heap.size ⟨5,0,g,⟨#[]⟩,none,0,0,none,0,0,0,0⟩):=PAt.grown HP2.out hg (by simp;omega)
 have HO3:Hid (w3.ownsRow 0 92 8 pv n xs):=row_grown HS2.out HO2.out hg
 have HG3:Hid (w.grownBy w3 (some b)):=grown_trans HG2.out hg
 clear hst hg HS2 HP2 HO2 HG2
 go_wp2_with fail
 refine(St.is HS3.out _).mono ?_
 rintro e w4 ⟨rfl,rfl⟩
 rw[show bl ⟨#[41]⟩=[41] from rfl]
 go_wp2
 go_loopw [6] (fun v6 wr => ∃ (qs : List ByteArray) (ba : Option Addr) (bc : Nat) (rr : Out Unit), v6 = .bool (isR [41] rr) ∧ Hid (St wr b pv s deep rr) ∧
     Hid (PAt wr w.heap.size ⟨5,0,g,⟨#[]⟩,none,0,0,ba,qs.length,bc,0,0⟩)∧Hid (wr.ownsRow w.heap.size 9 1 (.slice ba qs.length bc) qs.length (qs.map .string))∧Hid (wr.ownsRow 0 92 8 pv n xs)∧Hid (w.grownBy wr (some b))∧Hid (NRel r3 qs rr))
     (fun _ wr=>ts.length+2 - lenAt wr ⟨w.heap.size,5,none⟩)
 case atStart=>exact⟨[],none,0,r3,rfl,HS3,HP3,World.ownsRow_nil _ _ _ _,HO3,HG3,NRel.start _⟩
 case round=>
  obtain⟨qs,ba,bc,rr,rfl,HSr,HPr,HOr,HXr,HGr,HNr⟩:=hrel
  clear HS3 HP3 HO3 HG3
  obtain⟨qr,hqr,_,_,hqe,hqo⟩:=St.view HSr.out
  have c7:=(QAt.all hqr).2.2.2.2.2.2.2.1
  have hltr:=hqr.lt
  have hway:((isR [41] rr=true∨(isR [41] rr=false∧((qr.e:Int) == 0)=false))∧(isR [41] rr=true∨∃e,rr=.error e))∨(isR [41] rr=false∧((qr.e:Int) == 0)=true∧∃ts,rr=.ok ((),ts)∧isT [41] (hd ts)=false):=by
   cases rr with
   | error e=>exact Or.inl ⟨Or.inr ⟨rfl,by rw[beq_eq_false_iff_ne];have:=(hqe e rfl).2.1;omega⟩,Or.inr ⟨e,rfl⟩⟩
   | ok y=>
    obtain⟨⟨⟩,ts⟩:=y
    have h0:=(hqo _ rfl).1
    cases hc:isT [41] (hd ts)
    ·exact Or.inr ⟨hc,by rw[h0];rfl,ts,rfl,hc⟩
    ·exact Or.inl ⟨Or.inl hc,Or.inl hc⟩
  have hq6:qs.length≤ts.length+1:=NRel.len HNr.out HL3.out
  have HNB:Hid (some b≠(Value.slice ba qs.length bc).ownBlock):=own_ne_block HOr.out hqr (by decide)
  clear hqr hqe hqo
  rcases hway with ⟨hstop,hend⟩|⟨hv0,he0,tr,hrr,hcl⟩
  ·have HEnd:Hid _:=NRel.done HNr.out hend
   clear hend
   generalize isR [41] rr=v6 at hstop
   rcases hstop with rfl|⟨rfl,he⟩
   all_goals
    go_wp2_with fail
    refine(St.take HSr.out hs _).mono ?_
    rintro e w5 ⟨rfl,hst,hg⟩
    rw[show bl ⟨#[41]⟩=[41] from rfl,←HEnd.out.1]at hst
    have HS5:Hid (St w5 b pv s deep (unitP (namesP r3))):=hst
    have HP5:Hid (PAt w5 w.heap.size ⟨5,0,g,⟨#[]⟩,none,0,0,ba,qs.length,bc,0,0⟩):=PAt.grown HPr.out hg (by simp;omega)
    have HO5:Hid (w5.ownsRow w.heap.size 9 1 (.slice ba qs.length bc) qs.length (qs.map .string)):=World.ownsRow.kept HOr.out hg (Or.inr (fun h=>HNB.out h.symm))
    have HX5:Hid (w5.ownsRow 0 92 8 pv n xs):=row_grown HSr.out HXr.out hg
    have HG5:Hid (w.grownBy w5 (some b)):=grown_trans HGr.out hg
    clear hst hg HSr HPr HOr HXr HGr HNr c7
    go_wp2_with fail
    refine(HW.out w5 b pv deep _ n xs (M - 1) HS5.out HX5.out (by omega) (names_len HB3.out) (names_le (fun t e=>Nat.le_trans (HL3.out t e) hL)) hdp).mono ?_
    rintro e w6 ⟨i,rfl,hp⟩
    obtain⟨n2,pv2,ys,s2,o2,k2,b2,r2⟩:=hp.out
    have hz5:w.heap.size<w5.heap.size:=PAt.lt HP5.out
    have hp6:PAt w6 w.heap.size ⟨5,0,g,⟨#[]⟩,none,0,0,ba,qs.length,bc,0,0⟩:=PAt.kept HP5.out (k2.block _ hz5 (by omega) (fun e=>HX.out e.symm))
    have ho6:w6.ownsRow w.heap.size 9 1 (.slice ba qs.length bc) qs.length (qs.map .string):=by
     obtain⟨qq,hqq,_⟩:=St.view HS5.out
     exact kept_row hqq HX5.out k2 HO5.out (by decide) (by decide)
    have hx2:pv2.ownBlock≠some w.heap.size:=kept_ne k2 HX.out hz5
    have l6:=(PAt.all hp6).2.2.2.2.2.2.1
    have f6:=PAt.frozen hp6 6
    have HS7:Hid (St (w6.setCell ⟨w.heap.size,6,none⟩ (.int .i64 i)) b pv2 s deep (unitP (bnd (unitP (namesP r3)) fun _ ts=>withinP rec ts deep))):=St.kept s2 (Go.Deep.blk_setCell_other _ _ _ _ (by show b≠w.heap.size;omega))
    have HP7:Hid (PAt (w6.setCell ⟨w.heap.size,6,none⟩ (.int .i64 i)) w.heap.size ⟨5,0,g,⟨#[]⟩,none,0,0,ba,qs.length,bc,i,0⟩):=PAt.setA hp6 i
    have HO7:Hid ((w6.setCell ⟨w.heap.size,6,none⟩ (.int .i64 i)).ownsRow 0 9 1 (.slice ba qs.length bc) qs.length (qs.map .string)):=own_base (own_setBox ho6 hp6 (by decide) _ _)
    have HX7:Hid ((w6.setCell ⟨w.heap.size,6,none⟩ (.int .i64 i)).ownsRow 0 92 8 pv2 n2 (xs++ys)):=own_same o2 (fun k hk=>Go.Deep.blk_setCell_other _ _ _ _ (by rintro rfl;exact hx2 hk))
    have HK7:Hid (Kept b pv w pv2 (w6.setCell ⟨w.heap.size,6,none⟩ (.int .i64 i))):=Kept.set ((((Kept.refl b pv w).grown HG5.out)).trans k2) (Nat.le_refl _) _
    have HB7:Hid _:=b2
    have HR7 : Hid (∀ t z, (bnd (unitP (namesP r3)) fun _ ts => withinP rec ts deep) = .ok (t, z) → ∃ k : Nat, i = k ∧ Rep (w6.setCell ⟨w.heap.size, 6, none⟩ (.int .i64 i)) (xs ++ ys) t k ∧ k + 1 = n2 ∧ ys.length = 8 * cntT t) := hid (by
      intro t z e
      obtain⟨k,e1,e2,e3⟩:=r2 t z e
      exact⟨k,e1,Rep.box hp6 _ _ t k e2,e3⟩)
    have k0:=PAt.all HP7.out
    obtain⟨m0,m1,m2,m3,m4,m5,m6,m7⟩:=k0
    have hn6:n2≤6000:=by have:=Bud.le HB7.out;omega
    clear hp s2 o2 k2 b2 r2 hp6 ho6 HS5 HP5 HO5 HX5 HG5
    go_wp2_with fail
    clear l6 f6
    generalize w6.setCell ⟨w.heap.size,6,none⟩ (.int .i64 i)=w7 at HS7 HP7 HO7 HX7 HK7 HR7 m0 m1 m2 m3 m4 m5 m6 m7 ⊢
    refine(St.lay HS7.out HX7.out hn6 ⟨5,0,g,⟨#[]⟩,none,0,0,ba,qs.length,bc,i,0⟩).mono ?_
    rintro e w8 ⟨pv8,rfl,s8,o8,k8⟩
    have HPR:Hid (PartRes w b pv s deep xs M (groupP rec g ts.tail deep) n2 w8):=hid (by
     rw[groupP_eq,←HR3.out]
     refine⟨n2+1,pv8,ys++(⟨5,0,g,⟨#[]⟩,none,0,0,ba,qs.length,bc,i,0⟩:PV).cells,?_,?_,HK7.out.trans k8,?_,?_⟩
     ·rw[group_unit];exact s8
     ·rw[←List.append_assoc];exact o8
     ·refine Bud.of_unit ?_
      rw[group_unit]
      exact Bud.up (Bud.unit HB7.out) (by omega)
     ·intro t z e
      obtain⟨ns,zz,a,e1,e2,rfl⟩:=group_ok e
      obtain⟨k,e3,e4,e5,e6⟩:=HR7.out a z e2
      refine⟨n2,rfl,?_,rfl,by rw[List.length_append,e6];show _+8=8*(cntT a+0+1);omega⟩
      rw[←List.append_assoc]
      exact rep_new HS7.out HX7.out k8 _ ⟨5,g,0,[],[],ns⟩ a .nil k 0 ⟨rfl,rfl,rfl,rfl,CondsAre.nil _ _ _ rfl rfl rfl,⟨qs,HO7.out,HEnd.out.2 _ e1⟩⟩ e3 rfl (by omega) (Nat.zero_le _) e4 trivial)
    clear s8 o8 k8
    go_wp2
    go_ret
    exact⟨_,rfl,HPR.out⟩
  ·subst hrr
   have hne5:=(PAt.all HPr.out).2.2.2.2.2.1
   have HLn:Hid (lenAt wr ⟨w.heap.size,5,none⟩=qs.length):=hid (by unfold lenAt;rw[hne5])
   have hgz:=HGr.out.size
   rw[hv0]
   go_upto_if 29 with fail
   go_cut [] from 17 to 40 (fun wx=>∃r5:Out Unit,Hid ((if qs.isEmpty then .ok ((),tr)else takeP [44] tr)=r5)∧Hid (St wx b pv s deep r5)∧Hid (PAt wx w.heap.size ⟨5,0,g,⟨#[]⟩,none,0,0,ba,qs.length,bc,0,0⟩)∧Hid (wx.ownsRow w.heap.size 9 1 (.slice ba qs.length bc) qs.length (qs.map .string))∧Hid (wx.ownsRow 0 92 8 pv n xs)∧Hid (w.grownBy wx (some b)))
   case first=>
    by_cases hq0:qs.length=0
    ·have hdec:decide (0<(qs.length:Int))=false:=decide_eq_false (by omega)
     have HQ:Hid (qs.isEmpty=true):=hid (by rw[List.length_eq_zero_iff.1 hq0];rfl)
     go_wp2
     go_meet
     exact⟨_,rfl,by rw[HQ.out];exact HSr,HPr,HOr,HXr,HGr⟩
    ·have hdec:decide (0<(qs.length:Int))=true:=decide_eq_true (by omega)
     have hq1:0<qs.length:=by omega
     have HQ : Hid (qs.isEmpty = false) := hid (by cases qs with
       | nil=>exact absurd rfl hq0
       | cons a l=>rfl)
     go_wp2_with fail
     clear hdec hq1
     refine(St.take HSr.out hs _).mono ?_
     rintro e w5 ⟨rfl,hst,hg⟩
     have HS5:Hid (St w5 b pv s deep (takeP [44] tr)):=hst
     have HP5:Hid (PAt w5 w.heap.size ⟨5,0,g,⟨#[]⟩,none,0,0,ba,qs.length,bc,0,0⟩):=PAt.grown HPr.out hg (by simp;omega)
     have HO5:Hid (w5.ownsRow w.heap.size 9 1 (.slice ba qs.length bc) qs.length (qs.map .string)):=World.ownsRow.kept HOr.out hg (Or.inr (fun h=>HNB.out h.symm))
     have HX5:Hid (w5.ownsRow 0 92 8 pv n xs):=row_grown HSr.out HXr.out hg
     have HG5:Hid (w.grownBy w5 (some b)):=grown_trans HGr.out hg
     clear hst hg
     go_wp2
     go_meet
     exact⟨_,rfl,by rw[HQ.out];exact HS5,HP5,HO5,HX5,HG5⟩
   case rest=>
   obtain⟨r5,HR5,HS5,HP5,HO5,HX5,HG5⟩:=hcut
   clear HSr HPr HOr HXr HGr c7 hltr hgz hne5 he0
   have k5:=(PAt.all HP5.out).2.2.2.2.2.1
   have hz5:w.heap.size<wc.heap.size:=PAt.lt HP5.out
   have HS5d:Hid (St wc.drew b pv s deep r5):=St.kept HS5.out rfl
   go_upto_region 9 with fail
   go_cut [] from 17 to 40 (fun wx=>∃(x:ByteArray) (gb cp:Nat),Hid (∀y,r5=.ok y→∀z,kindP 2 y.2=.ok z→bl x=z.1)∧Hid (St wx b pv s deep (bnd r5 fun _ t=>unitP (kindP 2 t)))∧Hid (PAt wx w.heap.size ⟨5,0,g,⟨#[]⟩,none,0,0,some ⟨gb,0,none⟩,qs.length+1,cp,0,0⟩)∧Hid (wx.ownsRow w.heap.size 9 1 (.slice (some ⟨gb,0,none⟩) (qs.length+1) cp) (qs.length+1) ((qs++[x]).map .string))∧Hid (wx.ownsRow 0 92 8 pv n xs)∧Hid (w.grownBy wx (some b)))
   case first=>
    go_region_law (first
      | (fail_if_success (have h6 := HO6)
         go_simp
         go_wp2_with (
           go_at_call 320
           refine(St.kind HS5d.out hs 2 _ rfl (by decide)).mono ?_
           rintro e w6 ⟨x,rfl,hst,hx,hg⟩
           have hg':wc.grownBy w6 (some b):=⟨hg.os,hg.tape,hg.output,hg.size,hg.block⟩
           have HS6:Hid (St w6 b pv s deep (bnd r5 fun _ t=>unitP (kindP 2 t))):=hst
           have HP6:Hid (PAt w6 w.heap.size ⟨5,0,g,⟨#[]⟩,none,0,0,ba,qs.length,bc,0,0⟩):=PAt.grown HP5.out hg' (by simp;omega)
           have HO6:Hid (∀o,(w6.alloc o).ownsRow w.heap.size 9 1 (.slice ba qs.length bc) qs.length (qs.map .string)):=fun o=>World.ownsRow.alloc (World.ownsRow.kept HO5.out hg' (Or.inr (fun h=>HNB.out h.symm))) o
           have HOb:Hid (w6.ownsRow w.heap.size 9 1 (.slice ba qs.length bc) qs.length (qs.map .string)):=World.ownsRow.kept HO5.out hg' (Or.inr (fun h=>HNB.out h.symm))
           have HX6:Hid (w6.ownsRow 0 92 8 pv n xs):=row_grown HS5.out HX5.out hg'
           have HG6:Hid (w.grownBy w6 (some b)):=grown_trans HG5.out hg'
           have hz6:w.heap.size<w6.heap.size:=PAt.lt HP6.out
           have l5:=(PAt.all HP6.out).2.2.2.2.2.1
           clear hst hg hg'))
      | (refine step_append_own rfl (.tmp 33) (.tmp 36) 90 rfl w.heap.size 9 i0 _ 1 16 Tryz.underlying90 hi hz0 hz1 hz2 rfl (by decide) (.slice ba qs.length bc) qs.length (qs.map .string) (by simp [Act.eval]) (HO6.out _) ⟨w6.heap.size, 0, none⟩ 1 1 [.string x] (by simp [Act.eval]) rfl (cells_one_new rfl) ?h3 ?h4 ?h5 ?h6 ?_
         case h3=>intro u hu;simp at hu;subst hu;rfl
         case h4=>unfold maxLen;omega
         case h5=>omega
         case h6=>simp;omega
         intro v7 w7 hown7 hgrow7 _
         have hv7:=own_some hown7 (by omega)
         obtain⟨g7,cp7,hv7⟩:=hv7
         subst hv7
         have hp7:PAt w7 w.heap.size ⟨5,0,g,⟨#[]⟩,none,0,0,ba,qs.length,bc,0,0⟩:=PAt.grown (PAt.kept HP6.out (Go.Deep.blk_alloc_lt _ _ _ (PAt.lt HP6.out))) hgrow7 (own_ne_block HOb.out HP6.out (by decide))
         have m5:=(PAt.all hp7).2.2.2.2.2.1
         have f5:=PAt.frozen hp7 5))
    all_goals
     go_wp2
     go_meet
     have st7:St w7 b pv s deep (bnd r5 fun _ t=>unitP (kindP 2 t)):=St.kept (St.kept HS6.out (Go.Deep.blk_alloc_lt _ _ _ (St.lt HS6.out))) (hgrow7.block b (by rw[Go.Deep.nblk_alloc];have:=St.lt HS6.out;omega) HNB.out)
     have hX7:w7.ownsRow 0 92 8 pv n xs:=World.ownsRow.kept (World.ownsRow.alloc HX6.out _) hgrow7 (own_ne HX6.out HOb.out (by decide))
     have hG7:w.grownBy w7 (some b):=grown_own (grown_alloc HG6.out _) hgrow7 (fun k hk=>(HOb.out.lt k hk).1)
     refine⟨x,g7,cp7,hx,St.kept st7 (Go.Deep.blk_setCell_other _ _ _ _ (by show b≠w.heap.size;omega)),PAt.setBy hp7 _ _ _,?_,?_,grown_set hG7 (Or.inr (Nat.le_refl _)) _⟩
     ·rw[List.map_append];exact own_setBox hown7 hp7 (by decide) _ _
     ·exact own_same hX7 (fun k hk=>Go.Deep.blk_setCell_other _ _ _ _ (by rintro rfl;exact HX.out hk))
   case rest=>
   obtain⟨x,gb,cp,Hx,HS8,HP8,HO8,HX8,HG8⟩:=hcut
   have HLn2:Hid (lenAt wc ⟨w.heap.size,5,none⟩=qs.length+1):=hid (by unfold lenAt;rw[(PAt.all HP8.out).2.2.2.2.2.1])
   clear k5 HS5 HP5 HO5 HX5 HG5 HS5d
   go_wp2_with fail
   refine(St.is HS8.out _).mono ?_
   rintro e wz ⟨rfl,rfl⟩
   rw[show bl ⟨#[41]⟩=[41] from rfl]
   go_wp2
   go_roundw
   case rel=>exact⟨qs++[x],some ⟨gb,0,none⟩,cp,_,rfl,HS8,by rw[List.length_append];exact HP8,by rw[List.length_append];exact HO8,HX8,HG8,NRel.round HNr.out hcl HR5.out rfl Hx.out⟩
   case measure=>
    rw[HLn.out,HLn2.out];omega
end Go.Proofs.YtkodhpilkaihjaaGreatDoor

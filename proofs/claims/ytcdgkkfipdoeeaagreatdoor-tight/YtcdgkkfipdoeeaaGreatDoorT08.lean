/- Parts. -/
import Derived.Test.YtcdgkkfipdoeeaaGreatDoorT07
import Derived.Shelf.SlGeneric
import Derived.Shelf.SlMaps.Clone
import Derived.Shelf.SlMaps.DeleteFunc
import Derived.Ground.SlmcProg
import Derived.Ground.SlmdProg
import Derived.Test.YtcdgkkfipdoeeaaGreatDoorProg
set_option maxRecDepth 100000
set_option maxHeartbeats 8000000
namespace Go.Proofs.YtcdgkkfipdoeeaaGreatDoor
open Go.RowKit LS
section
variable {nodes:List Nq} {W:Nat->Cq->Cq} {n x:Nat} {c d e:Cq}
structure Low (x:Nat) (c d:Cq):Prop where
 lf:∀y,x<=y->d.left.getD y 0=c.left.getD y 0
 sl:∀s y:Nat,x<=y->(d.slots.getD s none=some (y:Int) ↔ c.slots.getD s none=some (y:Int))
 ll:d.left.length=c.left.length
 ls:d.slots.length=c.slots.length
theorem Low.refl(x:Nat)(c:Cq):Low x c c:=⟨fun _ _=>rfl,fun _ _ _=>Iff.rfl,rfl,rfl⟩
theorem Low.trans(h:Low x c d)(q:Low x d e):Low x c e:=⟨fun y hy=>(q.lf y hy).trans (h.lf y hy),fun s y hy=>(q.sl s y hy).trans (h.sl s y hy),q.ll.trans h.ll,q.ls.trans h.ls⟩
theorem Low.mono{z:Nat}(h:Low x c d)(hz:x<=z):Low z c d:=⟨fun y hy=>h.lf y (by omega),fun s y hy=>h.sl s y (by omega),h.ll,h.ls⟩
theorem Low.of(hl:d.left=c.left)(hs:d.slots=c.slots):Low x c d:=⟨fun _ _=>by rw[hl],fun _ _ _=>by rw[hs],by rw[hl],by rw[hs]⟩
theorem Zet(l:List Nat)(s j v:Nat):(l.set s v).getD j 0=if j=s/\s<l.length then v else l.getD j 0:=by
 rw[List.getD_eq_getElem?_getD,List.getElem?_set]
 by_cases e:s=j
 ·subst e
  by_cases h:s<l.length
  ·simp[h]
  ·simp[h,List.getD_eq_getElem?_getD]
 ·simp[e,Ne.symm e,List.getD_eq_getElem?_getD]
theorem Zcn(l:List (Option Int))(s j:Nat)(v:Option Int):(l.set s v).getD j none=if j=s/\s<l.length then v else l.getD j none:=by
 rw[List.getD_eq_getElem?_getD,List.getElem?_set]
 by_cases e:s=j
 ·subst e
  by_cases h:s<l.length
  ·simp[h]
  ·simp[h,List.getD_eq_getElem?_getD]
 ·simp[e,Ne.symm e,List.getD_eq_getElem?_getD]
theorem Low.left (h : n < x) (v : Nat) : Low x c { c with left := c.left.set n v } := ⟨fun y hy => by
  show(c.left.set n v).getD y 0=_
  rw[Zet,if_neg (by omega)],fun _ _ _=>Iff.rfl,by simp,rfl⟩
theorem Low.slot {s : Nat} {v : Option Int} (h : ∀ y : Nat, x <= y -> c.slots.getD s none ≠ some (y : Int)) (hv : ∀ y : Nat, x <= y -> v ≠ some (y : Int)) : Low x c { c with slots := c.slots.set s v } := ⟨fun _ _ => rfl, fun j y hy => by
  show(c.slots.set s v).getD j none=_ ↔ _
  rw[Zcn]
  split
  · rename_i e
    rw[e.1]
    exact⟨fun h1=>absurd h1 (hv y hy),fun h1=>absurd h1 (h y hy)⟩
  · exact Iff.rfl,rfl,by simp⟩
theorem Low.emit(x op arg:Nat)(c:Cq):Low x c (Zh op arg c):=Low.of rfl rfl
theorem ZoE{v y:Nat}(h:v<x)(hy:x<=y):(some (v:Int):Option Int)≠some (y:Int):=fun e=>by injection e with e;omega
theorem Low.keep{s:Nat}(h:∀y:Nat,x<=y->c.slots.getD s none≠some (y:Int))(hn:n<x):Low x c (ZT n s c):=(Low.emit x 12 s c).trans (Low.slot (c:=Zh 12 s c) h (fun _ hy=>ZoE hn hy))
theorem ZxM{a b:List (Option Int)}{y:Nat}(h:∀s,a.getD s none=some (y:Int) ↔ b.getD s none=some (y:Int)):ZF y a=ZF y b:=by
 unfold ZF
 congr 1
 funext s
 exact decide_eq_decide.2 (h s)
theorem Zld(hW:∀c,c.slots.length=16->Low n c (W n c))(h16:c.slots.length=16):Low (n+1) c (putQ nodes W n c):=by
 have h1:Low (n+1) c (decL n c):=Low.left (Nat.lt_succ_self _) _
 have h3:=h1.trans ((hW (decL n c) h16).mono (Nat.le_succ _))
 cases hs:ZF n c.slots with
 | some s=>
  have h2:=Zf4 hs
  rw[ZdP hs]
  split
  ·refine(h1.trans (Low.emit _ 13 s (decL n c))).trans (Low.slot (c:=Zh 13 s (decL n c)) (fun y hy=>?_) (fun _ _ e=>by cases e))
   show c.slots.getD s none≠_
   rw[h2.2]
   exact ZoE (Nat.lt_succ_self _) hy
  ·exact h1.trans (Low.emit _ 13 s _)
 | none=>
  rw[Zci hs]
  split
  ·exact h3
  ·split
   ·rename_i s hs
    have h4:=Zeb hs
    exact(h3.trans (Low.keep (fun y _=>by rw[h4.2];simp) (Nat.lt_succ_self _))).trans (Low.emit _ _ _ _)
   ·exact h3
theorem Zbj (hok : NOk nodes) (n : Nat) : ∀ t ∈ Zg (nodes.getD n nq0), t < n := fun t ht => by
  by_cases h:n<nodes.length
  · have:=(hok n h).low t
    rw[show nodes.getD n nq0=nodes[n] by simp[h]]at ht
    exact this ht
  · rw[show nodes.getD n nq0=nq0 by simp[h]]at ht
    cases ht
theorem ZjC {sl : List (Option Int)} {f : Nat} (ih : ∀ (n : Nat) (k : List Nat) (y : Nat), n < y -> (cntQ nodes sl f n k).getD y 0 = k.getD y 0) {y : Nat} : ∀ (ts : List Nat) (k : List Nat), (∀ t ∈ ts, t < y) -> (ts.foldl (fun k t => cntQ nodes sl f t k) k).getD y 0 = k.getD y 0
  | [],_,_=>rfl
  | t::ts,k,h=>by rw[List.foldl_cons,ZjC ih ts _ (fun t ht=>h t (List.mem_cons_of_mem _ ht)),ih t k y (h t (List.mem_cons_self ..))]
theorem ZjD(hok:NOk nodes)(sl:List (Option Int)):∀(f n:Nat) (k:List Nat) (y:Nat),n<y->(cntQ nodes sl f n k).getD y 0=k.getD y 0:=by
 intro f
 induction f with
 | zero=>intro n k y _;rfl
 | succ f ih=>
  intro n k y hy
  have hb:(bump k n).getD y 0=k.getD y 0:=by unfold bump;rw[Zet,if_neg (by omega)]
  unfold cntQ
  simp only
  split
  ·exact hb
  ·rw[ZjC ih _ _ (fun t ht=>by have:=Zbj hok n t ht;omega),hb]
theorem ZrM(hok:NOk nodes){a b:List (Option Int)}(hab:∀z,x<z->ZF z a=ZF z b):∀(f n:Nat) (k m:List Nat),k.length=m.length->(∀y,x<=y->k.getD y 0=m.getD y 0)->∀y,x<=y->(cntQ nodes a f n k).getD y 0=(cntQ nodes b f n m).getD y 0:=by
 intro f
 induction f with
 | zero=>intro n k m _ h y hy;exact h y hy
 | succ f ih=>
  intro n k m hlen h y hy
  have hb : ∀ y, x <= y -> (bump k n).getD y 0 = (bump m n).getD y 0 := fun y hy => by
    unfold bump
    rw[Zet,Zet,hlen]
    split
    · rename_i e;rw[h n (by omega)]
    · exact h y hy
  rcases Nat.lt_or_ge x n with hn|hn
  ·unfold cntQ
   simp only
   rw[hab n hn,hb n (by omega)]
   split
   ·exact hb y hy
   ·have : ∀ (ts k m : List Nat), k.length = m.length -> (∀ y, x <= y -> k.getD y 0 = m.getD y 0) -> ∀ y, x <= y -> (ts.foldl (fun k t => cntQ nodes a f t k) k).getD y 0 = (ts.foldl (fun k t => cntQ nodes b f t k) m).getD y 0 := by
      intro ts
      induction ts with
      | nil=>intro k m _ h y hy;exact h y hy
      | cons t ts ih2=>intro k m hl h y hy;exact ih2 _ _ (by rw[Zhy,Zhy];exact hl) (ih t k m hl h) y hy
    exact this _ _ _ (by rw[Zd3,Zd3];exact hlen) hb y hy
  ·have e : ∀ (sl : List (Option Int)) (k : List Nat), (cntQ nodes sl (f + 1) n k).getD y 0 = (bump k n).getD y 0 := fun sl k => by
     unfold cntQ
     simp only
     split
     · rfl
     · exact ZjC (ZjD hok sl f) _ _ (fun t ht=>by have:=Zbj hok n t ht;omega)
   rw[e,e]
   exact hb y hy
theorem ZtK{s:Nat}(hs:s<c.slots.length)(j:Nat):(ZT n s c).slots.getD j none=if j=s then some (n:Int)else c.slots.getD j none:=Zj7 c.slots s j _ hs
theorem ZxD(hok:NOk nodes){s y:Nat}(hW:∀c,c.slots.length=16->Low x c (W x c))(h16:c.slots.length=16)(hx:Zby nodes n c=some x)(hs:ZbE c.slots=some s)(hy:Zby nodes n (ZT x s (W x { c with slots:=c.slots.set s (some (-1)) }))=some y):y<x:=by
 have hfr:=Zeb hs
 have hm1:∀y:Nat,(some (-1):Option Int)≠some (y:Int):=fun y e=>by injection e with e;omega
 have h0:Low x c { c with slots:=c.slots.set s (some (-1)) }:=Low.slot (fun y _=>by rw[hfr.2];simp) (fun y _=>hm1 y)
 have h1:=h0.trans (hW _ (h0.ls.trans h16))
 have hw16:(W x { c with slots:=c.slots.set s (some (-1)) }).slots.length=16:=h1.ls.trans h16
 have hws : ∀ y : Nat, x <= y -> (W x { c with slots := c.slots.set s (some (-1)) }).slots.getD s none ≠ some (y : Int) := fun y hy e => by
   have:=(h1.sl s y hy).1 e
   rw[hfr.2]at this
   cases this
 have h2:Low (x+1) c (ZT x s (W x { c with slots:=c.slots.set s (some (-1)) })):=(h1.mono (Nat.le_succ _)).trans (Low.keep (fun y hy=>hws y (by omega)) (Nat.lt_succ_self _))
 have hin : ZF x (ZT x s (W x { c with slots := c.slots.set s (some (-1)) })).slots ≠ none := fun e => by
   unfold ZF at e
   rw[List.find?_eq_none]at e
   have:=e s (List.mem_range.2 hfr.1)
   rw[ZtK (by rw[hw16];exact hfr.1)]at this
   simp at this
 generalize ZT x s (W x { c with slots:=c.slots.set s (some (-1)) })=d at *
 rcases Nat.lt_or_ge y x with h3|h3
 ·exact h3
 exfalso
 unfold Zby at hx hy
 have hyc:=(Zib hy)
 unfold ZbY at hyc
 simp only[Bool.and_eq_true,decide_eq_true_eq]at hyc
 obtain⟨hy1,⟨⟨hy2,hy3⟩,hy4⟩,hy5⟩:=hyc
 rcases Nat.lt_or_ge x y with h4|h4
 ·have hsl:∀z,x<z->ZF z d.slots=ZF z c.slots:=fun z hz=>ZxM (fun s=>h2.sl s z hz)
  have hcn:=ZrM hok hsl (n+1) n (List.replicate nodes.length 0) (List.replicate nodes.length 0) rfl (fun _ _=>rfl) y (by omega)
  have hcand:ZbY nodes c (cntQ nodes c.slots (n+1) n (List.replicate nodes.length 0)) y=true:=by
   unfold ZbY
   rw[<-hcn,<-hsl y h4,<-h2.lf y h4]
   simp only[Bool.and_eq_true,decide_eq_true_eq]
   exact⟨⟨⟨hy2,hy3⟩,hy4⟩,hy5⟩
  have:=Zn4 hx hy1 hcand
  omega
 ·obtain rfl:x=y:=by omega
  rw[Option.isNone_iff_eq_none]at hy3
  exact hin hy3
end
end Go.Proofs.YtcdgkkfipdoeeaaGreatDoor
namespace Go.Proofs.YtcdgkkfipdoeeaaGreatDoor
open Go.RowKit LS
section
variable {nodes:List Nq} {W:Nat->Cq->Cq} {n x y m:Nat} {c d e:Cq}
theorem Zf3(hok:NOk nodes)(h:Zby nodes n c=some x):x<=n/\x<nodes.length:=by
 unfold Zby at h
 have h1:=Zib h
 refine⟨?_,h1.1⟩
 rcases Nat.lt_or_ge n x with h2|h2
 ·have h3:=h1.2
  unfold ZbY at h3
  rw[ZjD hok _ _ _ _ _ h2]at h3
  simp[h1.1]at h3
 ·exact h2
theorem ZlU(hok:NOk nodes)(hW:∀z,z<=n->∀c,c.slots.length=16->Low z c (W z c)):∀(k:Nat) (c:Cq),c.slots.length=16->Low (n+1) c (ZP nodes W n k c)
 | 0,c,_=>Low.refl _ _
 | k + 1, c, h16 => by
   unfold ZP
   cases hx:Zby nodes n c with
   | none=>exact Low.refl _ _
   | some x=>
     cases hs:ZbE c.slots with
     | none=>exact Low.refl _ _
     | some s=>
       have hle:=(Zf3 hok hx).1
       have hfr:=Zeb hs
       have h0:Low (n+1) c { c with slots:=c.slots.set s (some (-1)) }:=Low.slot (fun y _=>by rw[hfr.2];simp) (fun y _ e=>by injection e with e;omega)
       have h1:=h0.trans ((hW x hle { c with slots:=c.slots.set s (some (-1)) } (by show(c.slots.set s _).length=16;rw[List.length_set];exact h16)).mono (Nat.le_succ_of_le hle))
       have hws : ∀ y : Nat, n + 1 <= y -> (W x { c with slots := c.slots.set s (some (-1)) }).slots.getD s none ≠ some (y : Int) := fun y hy e => by
         have:=(h1.sl s y hy).1 e
         rw[hfr.2]at this
         cases this
       have h2:=h1.trans (Low.keep (n:=x) (s:=s) hws (by omega))
       exact h2.trans (ZlU hok hW k _ (h2.ls.trans h16))
theorem ZpF(a b:List (Option Int))(s:Nat)(h:s<16):(Zcb a b).getD s none=if a.getD s none=b.getD s none then a.getD s none else none:=by
 unfold Zcb
 simp[List.getD_eq_getElem?_getD,h]
theorem Zx3 (h : Low x c d) (h16 : c.slots.length = 16) (is : List (Nat × Nat)) : Low x c { d with slots := Zcb d.slots c.slots, ins := is } := ⟨h.lf, fun s y hy => by
  show(Zcb d.slots c.slots).getD s none=_ ↔ _
  rcases Nat.lt_or_ge s 16 with hs|hs
  · rw[ZpF _ _ _ hs]
    constructor
    · intro e
      split at e
      · rename_i h1;rw[<-h1];exact e
      · cases e
    · intro e
      have h1:=(h.sl s y hy).2 e
      rw[if_pos (h1.trans e.symm)];exact h1
  · have h1:(Zcb d.slots c.slots).getD s none=none:=by simp[Zcb,List.getD_eq_getElem?_getD,hs]
    have h2:c.slots.getD s none=none:=by rw[List.getD_eq_getElem?_getD,List.getElem?_eq_none (by omega)];rfl
    rw[h1,h2],h.ll,by simp[Zcb,h16]⟩
theorem Zsr(hok:NOk nodes)(hx:x<m)(hy:y<m)(hW:∀z,z<m->∀c,c.slots.length=16->Low z c (W z c))(h16:c.slots.length=16):Low m c (Zbl nodes W x y c):=by
 unfold Zbl
 simp only
 have h1:=(ZlU hok (n:=y) (W:=W) (fun z hz=>hW z (by omega)) (y+2) c h16).mono (show y+1<=m by omega)
 have h2:=h1.trans ((Zld (nodes:=nodes) (n:=x) (hW x hx) (h1.ls.trans h16)).mono (show x+1<=m by omega))
 generalize putQ nodes W x (ZP nodes W y (y+2) c)=c1 at *
 have h3:Low m c1 (Zh 11 0 (Zh 10 0 c1)):=Low.of rfl rfl
 have h4:=h3.trans ((Zld (nodes:=nodes) (n:=y) (hW y hy) (h3.ls.trans (h2.ls.trans h16))).mono (show y+1<=m by omega))
 exact h2.trans (Zx3 h4 (h2.ls.trans h16) _)
theorem Zt7(z:Nq):Low x c (ZbN z c):=by
 unfold ZbN
 split <;> exact Low.of rfl rfl
theorem Znc (hW : ∀ z, z < m -> ∀ c, c.slots.length = 16 -> Low z c (W z c)) : ∀ (ts : List Nat) (c : Cq), (∀ t ∈ ts, t < m) -> c.slots.length = 16 -> Low m c (ts.foldl (fun c t => putQ nodes W t c) c)
  | [],c,_,_=>Low.refl _ _
  | t :: ts, c, ht, h16 => by
    have h0:=ht t (List.mem_cons_self ..)
    have h1:=(Zld (nodes:=nodes) (n:=t) (hW t h0) h16).mono (show t+1<=m by omega)
    rw[List.foldl_cons]
    exact h1.trans (Znc hW ts _ (fun t h=>ht t (List.mem_cons_of_mem _ h)) (h1.ls.trans h16))
theorem Ze7(hok:NOk nodes):∀(f n:Nat) (c:Cq),c.slots.length=16->Low n c (Zn nodes f n c)
 | 0,n,c,_=>Low.refl _ _
 | f + 1, n, c, h16 => by
   have hW:∀z,z<n->∀c,c.slots.length=16->Low z c (Zn nodes f z c):=fun z _ c hc=>Ze7 hok f z c hc
   have ht:=Zbj hok n
   unfold Zn
   simp only
   split
   · rename_i h10
     by_cases hl:n<nodes.length
     · obtain⟨a,b,ha,hb⟩:=(hok n hl).or (by rw[<-h10];simp[hl])
       rw[show nodes[n]=nodes.getD n nq0 by simp[hl]]at ha hb
       rw[ha,hb]
       have h2:Zg (nodes.getD n nq0)=[a,b]:=by unfold Zg;rw[ha,hb]
       rw[h2]at ht
       exact Zsr hok (ht a (by simp)) (ht b (by simp)) hW h16
     · rw[show nodes.getD n nq0=nq0 by simp[hl]]at h10
       cases h10
   · exact(Znc hW _ _ ht h16).trans (Zt7 _)
theorem Zi6(hW:∀z c,cLe c (W z c)):∀(k:Nat) (c:Cq),cLe c (ZP nodes W n k c)
 | 0,c=>cLe.refl _
 | k + 1, c => by
   unfold ZP
   split
   · exact((show cLe c { c with slots:=c.slots.set _ (some (-1)) } from cLe.refl c).trans (hW _ _)).trans ((ZfI _ _ _).trans (Zi6 hW k _))
   · exact cLe.refl _
theorem Zsq(hW:∀z c,cLe c (W z c)):cLe c (Zbl nodes W x y c):=by
 unfold Zbl
 simp only
 have h:=((Zi6 (nodes:=nodes) (n:=y) hW (y+2) c).trans (ZfW nodes (n:=x) (hW x) _)).trans (((Zd7 10 0 _).trans (Zd7 11 0 _)).trans (ZfW nodes (n:=y) (hW y) _))
 exact⟨by simp only[List.length_set];exact h.1,h.2⟩
theorem Zn7(z:Nq):cLe c (ZbN z c):=by
 unfold ZbN
 split
 ·exact⟨by simp[Zh],by simp[Zh]⟩
 ·exact Zd7 _ _ _
theorem Zj1 (hW : ∀ z c, cLe c (W z c)) : ∀ (ts : List Nat) (c : Cq), cLe c (ts.foldl (fun c t => putQ nodes W t c) c)
  | [],c=>cLe.refl _
  | t::ts,c=>by rw[List.foldl_cons];exact(ZfW nodes (hW t) c).trans (Zj1 hW ts _)
theorem Zhp:∀(f n:Nat) (c:Cq),cLe c (Zn nodes f n c)
 | 0,n,c=>cLe.refl _
 | f + 1, n, c => by
   have hW:=fun z c=>Zhp f z c
   unfold Zn
   simp only
   split
   · exact Zsq hW
   · exact(Zj1 hW _ _).trans (Zn7 _)
def Pre(c d:Cq):Prop:=c.ins <+: d.ins
theorem Pre.refl(c:Cq):Pre c c:=List.prefix_refl _
theorem Pre.trans(h:Pre c d)(q:Pre d e):Pre c e:=List.IsPrefix.trans h q
theorem Zd8(op arg:Nat)(c:Cq):Pre c (Zh op arg c):=List.prefix_append _ _
theorem ZnS(n s:Nat)(c:Cq):Pre c (ZT n s c):=List.prefix_append _ _
theorem Ziz(hW:∀c,Pre c (W n c))(c:Cq):Pre c (putQ nodes W n c):=by
 have h1:Pre c (decL n c):=Pre.refl c
 cases hs:ZF n c.slots with
 | some s=>
  rw[ZdP hs]
  split
  ·exact Zd8 13 s (decL n c)
  ·exact Zd8 13 s (decL n c)
 | none=>
  rw[Zci hs]
  split
  ·exact h1.trans (hW _)
  ·split
   ·exact(h1.trans (hW _)).trans ((ZnS _ _ _).trans (Zd8 _ _ _))
   ·exact h1.trans (hW _)
theorem ZlV(hW:∀z c,Pre c (W z c)):∀(k:Nat) (c:Cq),Pre c (ZP nodes W n k c)
 | 0,c=>Pre.refl _
 | k + 1, c => by
   unfold ZP
   split
   · exact((show Pre c { c with slots:=c.slots.set _ (some (-1)) } from Pre.refl c).trans (hW _ _)).trans ((ZnS _ _ _).trans (ZlV hW k _))
   · exact Pre.refl _
theorem ZxB{a b:List (Nat×Nat)}(h:a <+: b){i:Nat}(hi:a.length<=i)(v:Nat×Nat):a <+: b.set i v:=by
 obtain⟨t,rfl⟩:=h
 rw[List.set_append_right _ _ hi]
 exact List.prefix_append _ _
theorem ZmP(hW:∀z c,Pre c (W z c)):Pre c (Zbl nodes W x y c):=by
 unfold Zbl
 simp only
 have h1:=(ZlV (nodes:=nodes) (n:=y) hW (y+2) c).trans (Ziz (nodes:=nodes) (n:=x) (hW x) _)
 generalize putQ nodes W x (ZP nodes W y (y+2) c)=c1 at *
 have h2:=h1.trans (((Zd8 10 0 c1).trans (Zd8 11 0 _)).trans (Ziz (nodes:=nodes) (n:=y) (hW y) _))
 exact ZxB h2 h1.length_le _
theorem Zt8(z:Nq):Pre c (ZbN z c):=by
 unfold ZbN
 split
 ·exact Zd8 0 _ _
 ·exact Zd8 _ _ _
theorem Znf (hW : ∀ z c, Pre c (W z c)) : ∀ (ts : List Nat) (c : Cq), Pre c (ts.foldl (fun c t => putQ nodes W t c) c)
  | [],c=>Pre.refl _
  | t::ts,c=>by rw[List.foldl_cons];exact(Ziz (hW t) c).trans (Znf hW ts _)
theorem Zqr:∀(f n:Nat) (c:Cq),Pre c (Zn nodes f n c)
 | 0,n,c=>Pre.refl _
 | f + 1, n, c => by
   have hW:=fun z c=>Zqr f z c
   unfold Zn
   simp only
   split
   · exact ZmP hW
   · exact(Znf hW _ _).trans (Zt8 _)
end
end Go.Proofs.YtcdgkkfipdoeeaaGreatDoor
namespace Go.Proofs.YtcdgkkfipdoeeaaGreatDoor
open Go.RowKit LS
section
variable {w w' w1 w2:World} {X:CX} {cv iv cv' iv':Value} {c c' d:Cq} {S S1:Nat->Prop} {W:Nat->Cq->Cq} {n:Nat}
theorem ZdF{nodes:List Nq}{k:Nat}(h:Zby nodes n c=none∨ZbE c.slots=none):ZP nodes W n k c=c:=by
 cases k with
 | zero=>rfl
 | succ k=>
  unfold ZP
  rcases h with h|h
  ·rw[h]
  ·rw[h];cases Zby nodes n c <;> rfl
theorem Zgf{nodes:List Nq}{k x s:Nat}(h:Zby nodes n c=some x)(hs:ZbE c.slots=some s):ZP nodes W n (k+1) c=ZP nodes W n k (ZT x s (W x { c with slots:=c.slots.set s (some (-1)) })):=by
 rw[ZP,h,hs]
theorem CoP.tk(hb:KeepS (fun j=>j=X.tb) w w1)(q:CoP w1 w2 X cv iv c):CoP w w2 X cv iv c:=CoP.trans (hb.mono (fun _ e=>Or.inr (Or.inr (Or.inr (Or.inl e))))) (fun _ h=>Or.inl h) (fun _ h=>Or.inl h) q
theorem ZqQ(hW:∀z,z<=n->z<X.nodes.length->Zhu X W z)(hL:∀z,z<=n->∀c,c.slots.length=16->Low z c (W z c))(hLe:∀z c,cLe c (W z c))(h:Co w X cv iv c)(hn:n<X.nodes.length)(hs:Sml (ZP X.nodes W n (n+2) c)) :
  Calls Tryz.prog 217 #[.pointer (some ⟨X.cb,0,none⟩),.int .i64 n] w fun e w'=>e=.returned (.tuple #[])/\Hid (CoP w w' X cv iv (ZP X.nodes W n (n+2) c)):=by
 have HW:=hid hW
 have HL:=hid hL
 have HLE:=hid hLe
 have HC:=hid h
 have HOK:=hid h.nok
 have hnsz:=h.nsz
 obtain⟨R,hR⟩:∃R,R=ZP X.nodes W n (n+2) c:=⟨_,rfl⟩
 rw[<-hR]at hs ⊢
 have HS:=hid hs
 have HR:=hid hR
 clear hW hL hLe h hs hR
 go_enter Tryz.func217,Tryz.ntmps217
 go_wp2
 go_loopg [4] (n+2) (fun g _ wr=>∃(cz iz:Value) (d:Cq),Hid (Co wr X cz iz d)/\Hid (∀ {wz:World} {e:Cq},CoP wr wz X cz iz e->CoP w wz X cv iv e)/\Hid (R=ZP X.nodes W n g d)/\Hid (1<=g/\∀y,Zby X.nodes n d=some y->y+1<g))
 case atStart=>exact⟨cv,iv,c,HC,hid id,HR,hid ⟨by omega,fun y hy=>by have:=(Zf3 HOK.out hy).1;omega⟩⟩
 case round=>
  obtain⟨cz,iz,d,HC,HT,HE,HG⟩:=hrel
  go_wp2_with fail
  refine(Zyl HC.out n hn).mono ?_
  rintro e w1 ⟨rfl,HC1,HK1⟩
  have HT1:Hid (∀ {wz:World} {e:Cq},CoP w1 wz X cz iz e->CoP w wz X cv iv e):=hid (fun h=>HT.out (CoP.tk HK1.out h))
  clear HC HT HK1
  have HFS:=hid (Zni HC1.out)
  go_wp2_with fail
  refine HFS.mono ?_
  rintro e w2 ⟨rfl,rfl⟩
  clear HFS
  cases hx:Zby X.nodes n d with
  | none=>
   simp only[nI]
   go_wp2
   exact bodyPost_ret (v:=.tuple #[]) (results_none rfl _ _ _) rfl ⟨rfl,hid (by rw[HE.out,ZdF (Or.inl hx)];exact HT1.out (CoP.refl HC1.out))⟩
  | some x=>
   have hxz:(x:Int)≠-1:=by omega
   simp only[nI]
   cases hf:ZbE d.slots with
   | none=>
    simp only[Option.isSome_none,Option.getD_none]
    go_wp2
    exact bodyPost_ret (v:=.tuple #[]) (results_none rfl _ _ _) rfl ⟨rfl,hid (by rw[HE.out,ZdF (Or.inr hf)];exact HT1.out (CoP.refl HC1.out))⟩
   | some s=>
    simp only[Option.isSome_some,Option.getD_some]
    have hs16:=(Zeb hf).1
    obtain⟨hxn,hxl⟩:=Zf3 HOK.out hx
    obtain⟨g',hg'⟩:∃g',gk=g'+1:=⟨gk - 1,by have:=HG.1;omega⟩
    subst hg'
    have HG2:=hid (HG.2 x hx)
    have HE2:Hid (R=ZP X.nodes W n g' (ZT x s (W x { d with slots:=d.slots.set s (some (-1)) }))):=hid (HE.trans (Zgf hx hf))
    have h16:=HC1.slen
    have HF:=hid (fun y=>ZxD (y:=y) HOK.out (HL.out x hxn) h16 hx hf)
    obtain⟨w3,hup,hc3,hk3⟩:=HC1.slotSet hs16 (v:=-1) (by decide)
    have HC3:=hid hc3
    have HT3:Hid (∀ {wz:World} {e:Cq},CoP w3 wz X cz iz e->CoP w wz X cv iv e):=hid (fun h=>HT1.out (CoP.trans hk3 (fun _ h=>Or.inl h) (fun _ h=>Or.inl h) h))
    have m2:w2.cell? ⟨X.cb,2,none⟩=some (.map (some X.sb)):=HC1.box.cell 2
    have hml:=HC1.box.lt
    clear hc3 hk3 h16
    have HSK:Hid (Sml (ZT x s (W x { d with slots:=d.slots.set s (some (-1)) }))):=hid (HS.of (by rw[HE2.out];exact Zi6 HLE.out _ _))
    have HSW:Hid (Sml (W x { d with slots:=d.slots.set s (some (-1)) })):=hid (HSK.of (ZfI _ _ _))
    have HWC:=hid ((HW.out x hxn hxl).2 w3 cz iz _ HC3.out HSW.out)
    clear hx hf HG HE
    generalize W x { d with slots:=d.slots.set s (some (-1)) }=d1 at *
    go_wp2_with fail
    refine HWC.mono ?_
    rintro e w4 ⟨rfl,HP4⟩
    obtain⟨cv4,iv4,hc4,hk4,hf1,hf2⟩:=HP4.out
    have HC4:=hid hc4
    have HT4:Hid (∀ {wz:World} {e:Cq},CoP w4 wz X cv4 iv4 e->CoP w wz X cv iv e):=hid (fun h=>HT3.out (CoP.trans hk4 hf1 hf2 h))
    clear hc4 hk4 hf1 hf2 HP4 HT3 HC3 HWC hup m2 hml HC1 HT1
    go_wp2_with fail
    refine(ZnR HC4.out x s (Nat.le_trans (ZfI x s d1).1 HSK.1) hs16 (by omega)).mono ?_
    rintro e w5 ⟨rfl,HP5⟩
    obtain⟨cv5,iv5,hc5,hk5,hf1,hf2⟩:=HP5.out
    have HC5:=hid hc5
    have HT5:Hid (∀ {wz:World} {e:Cq},CoP w5 wz X cv5 iv5 e->CoP w wz X cv iv e):=hid (fun h=>HT4.out (CoP.trans hk5 hf1 hf2 h))
    clear hc5 hk5 hf1 hf2 HP5 HT4 HC4
    go_wp2
    go_roundg g'
    case measure=>exact Nat.lt_succ_self _
    case rel=>exact⟨cv5,iv5,_,HC5,HT5,HE2,hid ⟨by have:=HG2.out;omega,fun y hy=>by have:=HF.out y hy;have:=HG2.out;omega⟩⟩
end
end Go.Proofs.YtcdgkkfipdoeeaaGreatDoor
namespace Go.Proofs
open Go.Shelf
def Tryz.mapClone_ren:Go.Shelf.Ren:=⟨fun|5=>218|7=>246|n=>n,fun|23=>169|25=>3|3=>3|4=>4|20=>20|n=>n,fun|n=>n⟩
theorem Tryz.mapClone:Go.Proofs.SlLaysW.n5 Tryz.prog Tryz.mapClone_ren:={
 mixed:=by kernel_rfl
 f5:=⟨Tryz.f218.name,by decide,Tryz.func218.trans (congrArg some (by kernel_rfl))⟩
 f7:=Tryz.func246.trans (congrArg some (by kernel_rfl))
 t4:=Tryz.underlying4
 a4:=Tryz.isAgg4
 z4:=Tryz.sizeOf4
 v4:=Tryz.zeroValue4
 t20:=Tryz.underlying20
 a20:=Tryz.isAgg20
 z20:=Tryz.sizeOf20
 v20:=Tryz.zeroValue20
 t23:=Tryz.underlying169
 a23:=Tryz.isAgg169
 z23:=Tryz.sizeOf169
 v23:=Tryz.zeroValue169 }
def Tryz.mapDel_ren:Go.Shelf.Ren:=⟨fun|5=>219|n=>n,fun|23=>169|26=>3|24=>3|27=>371|0=>0|4=>4|n=>n,fun|n=>n⟩
theorem Tryz.mapDel:Go.Proofs.SlLaysDf.n5 Tryz.prog Tryz.mapDel_ren:={
 mixed:=by kernel_rfl
 f5:=⟨Tryz.f219.name,by decide,Tryz.func219.trans (congrArg some (by kernel_rfl))⟩
 t0:=Tryz.underlying0
 a0:=Tryz.isAgg0
 z0:=Tryz.sizeOf0
 v0:=Tryz.zeroValue0
 t4:=Tryz.underlying4
 a4:=Tryz.isAgg4
 z4:=Tryz.sizeOf4
 v4:=Tryz.zeroValue4
 t23:=Tryz.underlying169
 a23:=Tryz.isAgg169
 z23:=Tryz.sizeOf169
 v23:=Tryz.zeroValue169
 a24:=Tryz.isAgg3
 z24:=Tryz.sizeOf3
 a26:=Tryz.isAgg3
 z26:=Tryz.sizeOf3
 t27:=Tryz.underlying371
 a27:=Tryz.isAgg371
 z27:=Tryz.sizeOf371
 v27:=Tryz.zeroValue371 }
end Go.Proofs
namespace Go.Proofs.YtcdgkkfipdoeeaaGreatDoor
open Go.RowKit LS
section
variable {w w' w1 w2:World} {X:CX} {cv iv cv' iv':Value} {c c' d:Cq} {S S1:Nat->Prop} {W:Nat->Cq->Cq} {n b N:Nat} {f g:Nat->Option Int}
theorem Zu1 (h : MapZ w b N f) : Calls Tryz.prog 218 #[.map (some b)] w fun e w' => e = .returned (.map (some w.heap.size)) /\ Hid (MapZ w' w.heap.size N f) /\ Below w.heap.size w w' := by
  obtain⟨D,h1,h2⟩:=h
  have hc:=AnyW.maps_Clone_owns Tryz.mapClone 3 eI b N D w h1
  exact hc.mono (fun e w' ⟨he,h3,_,hB⟩=>⟨he,hid ⟨D,h3,h2⟩,hB⟩)
def valZ:DataW Unit->Int
 | .lit (.int _ a)=>a
 | _=>0
def pdZ(D:DataW Unit)(kl:Lit)(y:DataW Unit):Bool:=!Maps.has D kl || valZ (D.atKey kl (.lit (.int .i64 0))) != valZ y
theorem ZrG(D:DataW Unit)(pb q:Nat)(x v:Int)(W:World)(ho:W.ownsMap Tryz.prog 3 eI pb N D)(hq:W.cell? ⟨q,0,none⟩=some (.map (some pb)))(hx:keyOf Tryz.prog 3 (.int .i64 x)=some (.int .i64 x)) :
  Calls Tryz.prog 220 (#[.int .i64 x,.int .i64 v]++#[.pointer (some ⟨q,0,none⟩)]) W fun e w'=>e=.returned (.bool (pdZ D (.int .i64 x) (.lit (.int .i64 v))))/\w'=W:=by
 obtain⟨u,ps,hr,hv⟩:=ho.look_ok intK Tryz.underlying169 (Tryz.zeroValue3 _) (plainElem_int Tryz.underlying3 (by decide)) hx
 obtain⟨z,rfl,hz,_⟩:=plainElem_int_inv Tryz.underlying3 hv
 have hz1:D.atKey (.int .i64 x) (.lit (.int .i64 0))=.lit (.int .i64 z):=congrArg Prod.fst hz
 have HP:Hid (pdZ D (.int .i64 x) (.lit (.int .i64 v))=(!Maps.has D (.int .i64 x) || z != v)):=hid (by unfold pdZ;rw[hz1];rfl)
 clear hv hz hz1 ho hx
 generalize Maps.has D (.int .i64 x)=hs at *
 go_enter Tryz.func220,Tryz.ntmps220
 cases hs with
 | true=>
  go_wp2
  go_ret
  exact⟨by rw[HP.out];simp,rfl⟩
 | false=>
  go_wp2
  go_ret
  exact⟨by rw[HP.out];simp,rfl⟩
theorem Znt{es:List (Lit×DataW Unit)}{k:Lit}(h:Maps.has (.map es) k=true):∃y,(k,y)∈es:=by
 obtain⟨p,hp,hs⟩:=List.any_eq_true.1 h
 have:=WideAt.sameKey_eq hs
 exact⟨p.2,by rw[<-this];exact hp⟩
theorem Zu3{es:List (Lit×DataW Unit)}{k:Lit}{y:DataW Unit}(hk:WideAt.IsKeyLit k)(h:(k,y)∈es):Maps.has (.map es) k=true:=List.any_eq_true.2 ⟨_,h,WideAt.sameKey_self hk⟩
theorem Zsg(h:MapZ w b N f){pb q:Nat}(hg:MapZ w pb N g)(hne:pb≠b)(hq:w.cell? ⟨q,0,none⟩=some (.map (some pb)))(hqb:q≠b) :
  Calls Tryz.prog 219 #[.map (some b),.func (.func 220) #[] #[.pointer (some ⟨q,0,none⟩)]] w fun e w'=>e=.returned (.tuple #[])/\Hid (MapZ w' b N (fun s=>if f s=g s then f s else none))/\w.grownBy w' (some b):=by
 obtain⟨D,h1,h2,h3⟩:=h
 obtain⟨E,g1,g2,g3⟩:=hg
 have eg:∀args w,(callFunc 220 args).run Tryz.prog w=.ok (.enter 220 args) w:=enters_of Tryz.func220 (by kernel_rfl) rfl
 have hcon := AnyDf.maps_DeleteFunc Tryz.mapDel intK eI (pdZ E) 220 #[.pointer (some ⟨q, 0, none⟩)] b N D w eg h1 (fun W key val kl yd yp hgW hkey hv => by
   obtain⟨x,rfl,rfl,_⟩:=Maps.keyOf_int_inv Tryz.underlying3 hkey
   obtain⟨z,rfl,hy,_⟩:=plainElem_int_inv Tryz.underlying3 hv
   obtain rfl:yd=.lit (.int .i64 z):=by simpa using (congrArg Prod.fst hy)
   exact(ZrG (N:=N) E pb q x z W (g1.kept hgW (fun e=>hne (Option.some.inj e))) (hgW.cell hq (fun e=>hqb (Option.some.inj e))) hkey).mono fun _ _ ⟨he,hw⟩=>⟨he,hw ▸ World.grownBy.refl _ _⟩)
 refine hcon.mono (fun e w' ⟨he,ho,hgr⟩=>⟨he,hid ?_,hgr⟩)
 obtain⟨es,rfl,hap,hkeys⟩:=h1.entries intK
 have hkl:∀s,WideAt.IsKeyLit (kI s):=fun s=>by trivial
 have hsub : ∀ l, Maps.has (Lib.deleteFuncD (pdZ E) (.map es)) l = true -> Maps.has (.map es) l = true := fun l hl => by
   obtain⟨p,hp,hs⟩:=List.any_eq_true.1 hl
   exact List.any_eq_true.2 ⟨p,(List.mem_filter.1 hp).1,hs⟩
 refine⟨_,ho,fun l hl=>h2 l (hsub l hl),fun s hs=>?_⟩
 rw[show(fun s=>if f s=g s then f s else none) s=if f s=g s then f s else none from rfl]
 cases hf:f s with
 | none=>
  have hn:=(h3 s hs).1 hf
  refine⟨fun _=>?_,fun v hv=>by split at hv <;> cases hv⟩
  cases hh:Maps.has (Lib.deleteFuncD (pdZ E) (.map es)) (kI s)with
  | false=>rfl
  | true=>rw[hsub _ hh]at hn;cases hn
 | some v=>
  obtain⟨a1,a2⟩:=(h3 s hs).2 v hf
  obtain⟨y,hy⟩:=Znt a1
  obtain rfl:y=.lit (.int .i64 v):=(WideAt.atKey_mem .nil (hkl s) hap hy).symm.trans (a2 .nil)
  have hpd:pdZ E (kI s) (.lit (.int .i64 v))=decide (g s≠some v):=by
   unfold pdZ
   cases hgs:g s with
   | none=>rw[(g3 s hs).1 hgs];rfl
   | some u=>
    obtain⟨b1,b2⟩:=(g3 s hs).2 u hgs
    rw[b1,b2]
    show(false || u != v)=_
    by_cases e:u=v <;> simp[e]
  by_cases e:g s=some v
  ·rw[if_pos e.symm]
   have hm:(kI s,DataW.lit (.int .i64 v))∈es.filter (fun p=>!pdZ E p.1 p.2):=List.mem_filter.2 ⟨hy,by rw[hpd];simp[e]⟩
   refine⟨fun h=>(by cases h),fun u hu=>?_⟩
   injection hu with hu
   subst hu
   exact⟨Zu3 (hkl s) hm,fun z=>WideAt.atKey_mem z (hkl s) (hap.filter _) hm⟩
  ·rw[if_neg (fun h=>e h.symm)]
   refine⟨fun _=>?_,fun u hu=>(by cases hu)⟩
   cases hh:Maps.has (Lib.deleteFuncD (pdZ E) (.map es)) (kI s)with
   | false=>rfl
   | true=>
    obtain⟨y,hy2⟩:=Znt hh
    obtain⟨m1,m2⟩:=List.mem_filter.1 hy2
    obtain rfl:y=.lit (.int .i64 v):=(WideAt.atKey_mem .nil (hkl s) hap m1).symm.trans (a2 .nil)
    rw[hpd]at m2
    simp[e]at m2
end
end Go.Proofs.YtcdgkkfipdoeeaaGreatDoor

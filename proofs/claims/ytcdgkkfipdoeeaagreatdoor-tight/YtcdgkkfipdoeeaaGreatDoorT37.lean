/- Parts. -/
import Derived.Test.YtcdgkkfipdoeeaaGreatDoorT36
namespace Go.Proofs.YtcdgkkfipdoeeaaGreatDoor
open Go.RowKit LS
section
variable {nodes:List Nq} {K:Nat->Cq->Cq} {c d e:Cq} {M:Nat->Prop} {δ:Nat->Nat} {W:Nat->Bool} {n m x y:Nat}
structure Dn (nodes:List Nq) (M:Nat->Prop) (δ:Nat->Nat) (W:Nat->Bool) (c:Cq):Prop where
 lf:∀x,c.left.getD x 0=0∨c.left.getD x 0+δ x<=rem nodes W x nodes.length
 sl:∀s (x:Nat),c.slots.getD s none=some (x:Int)->W x=true/\0<c.left.getD x 0
 un:∀s s' (x:Nat),c.slots.getD s none=some (x:Int)->c.slots.getD s' none=some (x:Int)->s=s'
 ng:∀s v,c.slots.getD s none=some v->v<0->M s
 cl:Cl nodes (fun y=>W y=true)
 l16:c.slots.length=16
def Dp(nodes:List Nq)(M:Nat->Prop)(δ:Nat->Nat)(W:Nat->Bool)(I:List Nat)(d:Cq):Prop:=∃V:Nat->Bool,(∀x,W x=true->V x=true)/\(∀i∈I,V i=true)/\Dn nodes M δ V d
def WD(nodes:List Nq)(K:Nat->Cq->Cq)(n:Nat):Prop:=∀M δ W c,Dn nodes M δ W c->Dp nodes M δ W [n] (K n c)
theorem Dn.same(h:Dn nodes M δ W c)(hl:d.left=c.left)(hs:d.slots=c.slots):Dn nodes M δ W d:=⟨by rw[hl];exact h.lf,by rw[hl,hs];exact h.sl,by rw[hs];exact h.un,by rw[hs];exact h.ng,h.cl,by rw[hs];exact h.l16⟩
theorem Zc4(n:Nat)(c:Cq)(m:Nat):(decL n c).left.getD m 0=if m=n then c.left.getD n 0 - 1 else c.left.getD m 0:=by
 show(c.left.set n (c.left.getD n 0 - 1)).getD m 0=_
 rw[Zet]
 by_cases e:m=n
 ·subst e
  by_cases h:m<c.left.length
  ·rw[if_pos ⟨rfl,h⟩,if_pos rfl]
  ·rw[if_neg (fun q=>h q.2),if_pos rfl,List.getD_eq_getElem?_getD,List.getElem?_eq_none (by omega)];rfl
 ·rw[if_neg (fun q=>e q.1),if_neg e]
def dl1(δ:Nat->Nat)(n:Nat):Nat->Nat:=fun x=>δ x+if x=n then 1 else 0
theorem Dn.dec_lf (h : Dn nodes M δ W c) (n : Nat) : ∀ x, (decL n c).left.getD x 0 = 0 ∨ (decL n c).left.getD x 0 + dl1 δ n x <= rem nodes W x nodes.length := fun x => by
  rw[Zc4]
  unfold dl1
  by_cases e:x=n
  · subst e
    rw[if_pos rfl,if_pos rfl]
    rcases h.lf x with h1|h1
    · left;omega
    · by_cases h2:c.left.getD x 0=0
      · left;omega
      · right;omega
  · rw[if_neg e,if_neg e]
    rcases h.lf x with h1|h1
    · exact Or.inl h1
    · exact Or.inr (by omega)
theorem ZxO(h16:c.slots.length=16)(h:ZF n c.slots=none)(s:Nat):c.slots.getD s none≠some (n:Int):=by
 rcases Nat.lt_or_ge s 16 with h1|h1
 ·exact Zlr h h1
 ·rw[List.getD_eq_getElem?_getD,List.getElem?_eq_none (by rw[h16];exact h1)];simp
theorem Zlf(hW:WD nodes K n)(hL:∀c,c.slots.length=16->Low n c (K n c))(h:Dn nodes M δ W c):Dp nodes M (dl1 δ n) W [n] (putQ nodes K n c):=by
 cases hs:ZF n c.slots with
 | some s=>
  obtain⟨h1,h2⟩:=Zf4 hs
  obtain⟨h3,h4⟩:=h.sl s n h2
  have hlf:=h.dec_lf n
  rw[ZdP hs]
  refine⟨W,fun _ h=>h,fun i hi=>by rw[List.mem_singleton.1 hi];exact h3,?_⟩
  split
  ·rename_i h0
   refine⟨hlf,fun s' x hx=>?_,fun s1 s2 x hx hy=>?_,fun s' v hv=>?_,h.cl,by show(c.slots.set s none).length=16;rw[List.length_set];exact h.l16⟩
   ·have hx':(c.slots.set s none).getD s' none=some (x:Int):=hx
    rw[Zcn]at hx'
    split at hx'
    ·cases hx'
    ·rename_i hn
     have hxn:x≠n:=fun e=>hn ⟨h.un s' s n (by rw[<-e];exact hx') h2,by rw[h.l16];exact h1⟩
     obtain⟨q1,q2⟩:=h.sl s' x hx'
     refine⟨q1,?_⟩
     show 0<(decL n c).left.getD x 0
     rw[Zc4,if_neg hxn];exact q2
   ·have hx':(c.slots.set s none).getD s1 none=some (x:Int):=hx
    have hy':(c.slots.set s none).getD s2 none=some (x:Int):=hy
    rw[Zcn]at hx' hy'
    split at hx'
    ·cases hx'
    ·split at hy'
     ·cases hy'
     ·exact h.un s1 s2 x hx' hy'
   ·have hv':(c.slots.set s none).getD s' none=some v:=hv
    rw[Zcn]at hv'
    split at hv'
    ·cases hv'
    ·exact h.ng s' v hv'
  ·rename_i h0
   refine⟨hlf,fun s' x hx=>?_,h.un,h.ng,h.cl,h.l16⟩
   obtain⟨q1,q2⟩:=h.sl s' x hx
   refine⟨q1,?_⟩
   show 0<(decL n c).left.getD x 0
   by_cases e:x=n
   ·subst e;omega
   ·rw[Zc4,if_neg e];exact q2
 | none=>
  have hno:=ZxO h.l16 hs
  have hd : Dn nodes M (dl1 δ n) W (decL n c) := ⟨h.dec_lf n, fun s x hx => by
    obtain⟨q1,q2⟩:=h.sl s x hx
    refine⟨q1,?_⟩
    rw[Zc4,if_neg (fun e=>hno s (by rw[<-e];exact hx))]
    exact q2,h.un,h.ng,h.cl,h.l16⟩
  obtain⟨V,h1,h2,h3⟩:=hW _ _ _ _ hd
  have hlow:=hL (decL n c) h.l16
  rw[Zci hs]
  refine⟨V,h1,h2,?_⟩
  split
  ·exact h3
  ·rename_i h0
   split
   ·rename_i s hf
    obtain⟨f1,f2⟩:=Zeb hf
    have hne:∀s',(K n (decL n c)).slots.getD s' none≠some (n:Int):=fun s' e=>hno s' ((hlow.sl s' n (Nat.le_refl _)).1 e)
    generalize K n (decL n c)=e at *
    have hg : ∀ s', (Zh 13 s (ZT n s e)).slots.getD s' none = if s' = s then some (n : Int) else e.slots.getD s' none := fun s' => by
      show(e.slots.set s (some (n:Int))).getD s' none=_
      rw[Zcn]
      by_cases es:s'=s
      · rw[if_pos ⟨es,by rw[h3.l16];exact f1⟩,if_pos es]
      · rw[if_neg (fun q=>es q.1),if_neg es]
    refine⟨h3.lf,fun s' x hx=>?_,fun s1 s2 x hx hy=>?_,fun s' v hv=>?_,h3.cl,by show(e.slots.set s _).length=16;rw[List.length_set];exact h3.l16⟩
    ·rw[hg]at hx
     split at hx
     ·injection hx with hx
      have:x=n:=by omega
      rw[this]
      exact⟨h2 n (List.mem_singleton.2 rfl),by show 0<e.left.getD n 0;have:¬e.left.getD n 0=0:=fun q=>h0 (Or.inl q);omega⟩
     ·exact h3.sl s' x hx
    ·rw[hg]at hx hy
     split at hx
     ·split at hy
      ·omega
      ·injection hx with hx
       have:x=n:=by omega
       rw[this]at hy
       exact absurd hy (hne s2)
     ·split at hy
      ·injection hy with hy
       have:x=n:=by omega
       rw[this]at hx
       exact absurd hx (hne s1)
      ·exact h3.un s1 s2 x hx hy
    ·rw[hg]at hv
     split at hv
     ·injection hv with hv;intro h;omega
     ·exact h3.ng s' v hv
   ·exact h3
theorem Znb : ∀ (ts : List Nat) (M : Nat -> Prop) (δ : Nat -> Nat) (W : Nat -> Bool) (c : Cq), (∀ t ∈ ts, WD nodes K t /\ ∀ c, c.slots.length = 16 -> Low t c (K t c)) -> Dn nodes M δ W c -> Dp nodes M (fun x => δ x + ts.count x) W ts (ts.foldl (fun c t => putQ nodes K t c) c)
  | [],M,δ,W,c,_,h=>⟨W,fun _ h=>h,fun i hi=>(by cases hi),by simpa using h⟩
  | t :: ts, M, δ, W, c, hW, h => by
    obtain⟨h1,h2⟩:=hW t (List.mem_cons_self ..)
    obtain⟨V,p1,p2,p3⟩:=Zlf h1 h2 h
    obtain⟨V2,q1,q2,q3⟩:=Znb ts M (dl1 δ t) V _ (fun z hz=>hW z (List.mem_cons_of_mem _ hz)) p3
    rw[List.foldl_cons]
    refine⟨V2,fun x hx=>q1 x (p1 x hx),fun i hi=>?_,?_⟩
    · rcases List.mem_cons.1 hi with e|e
      · rw[e];exact q1 t (p2 t (List.mem_singleton.2 rfl))
      · exact q2 i e
    · have e : (fun x => dl1 δ t x + ts.count x) = fun x => δ x + (t :: ts).count x := funext fun x => by
        unfold dl1
        rw[List.count_cons]
        by_cases e:x=t
        · subst e;simp;omega
        · have:¬t=x:=fun h=>e h.symm
          simp[e,this]
      rw[e]at q3
      exact q3
theorem ZmM (hn : n < nodes.length) {ts : List Nat} (ht : Zg (nodes.getD n nq0) = ts) (h : Dp nodes M (fun x => δ x + ts.count x) W ts c) : Dp nodes M δ W [n] c := by
  obtain⟨V,h1,h2,h3⟩:=h
  refine⟨fun y=>V y || decide (y=n),fun x hx=>by simp[h1 x hx],fun i hi=>by rw[List.mem_singleton.1 hi];simp,⟨fun x=>?_,fun s x hx=>?_,h3.un,h3.ng,fun y hy t htt=>?_,h3.l16⟩⟩
  · rcases h3.lf x with q|q
    · exact Or.inl q
    · right
      cases hv:V n with
      | true=>
        rw [ZiC (nodes := nodes) (V := V) nodes.length (fun y _ => ⟨rfl, by
          by_cases e:y=n
          · subst e;simp[hv]
          · simp[e]⟩)]
        omega
      | false=>
        have:=Zpd (nodes:=nodes) (x:=x) hv nodes.length hn
        rw[ht]at this
        omega
  · obtain⟨q1,q2⟩:=h3.sl s x hx
    exact⟨by rw[q1];rfl,q2⟩
  · simp only[Bool.or_eq_true,decide_eq_true_eq]at hy ⊢
    rcases hy with q|q
    · exact Or.inl (h3.cl y q t htt)
    · rw[q,ht]at htt;exact Or.inl (h2 t htt)
theorem ZlT(hok:NOk nodes)(hW:∀z,z<=y->z<nodes.length->WD nodes K z)(hL:∀z,z<=y->∀c,c.slots.length=16->Low z c (K z c)):∀(k:Nat) (W:Nat->Bool) (c:Cq),Dn nodes M δ W c->Dp nodes M δ W [] (ZP nodes K y k c)
 | 0,W,c,h=>⟨W,fun _ h=>h,fun i hi=>(by cases hi),h⟩
 | k + 1, W, c, h => by
   have stop:Dp nodes M δ W [] c:=⟨W,fun _ h=>h,fun i hi=>(by cases hi),h⟩
   cases hx:Zby nodes y c with
   | none=>rw[ZdF (Or.inl hx)];exact stop
   | some x=>
     cases hf:ZbE c.slots with
     | none=>rw[ZdF (Or.inr hf)];exact stop
     | some s=>
       rw[Zgf hx hf]
       obtain⟨f1,f2⟩:=Zeb hf
       obtain⟨hxn,hxl⟩:=Zf3 hok hx
       obtain⟨hxo,_⟩:=Zpz hx
       have hleft:0<c.left.getD x 0:=by
         unfold Zby at hx
         have:=Zko _ hx
         unfold ZbY at this
         simp only[Bool.and_eq_true,decide_eq_true_eq]at this
         omega
       have hg : ∀ s', (c.slots.set s (some (-1))).getD s' none = if s' = s then some (-1) else c.slots.getD s' none := fun s' => by
         rw[Zcn]
         by_cases es:s'=s
         · rw[if_pos ⟨es,by rw[h.l16];exact f1⟩,if_pos es]
         · rw[if_neg (fun q=>es q.1),if_neg es]
       have h0 : Dn nodes (fun s' => M s' ∨ s' = s) δ W { c with slots := c.slots.set s (some (-1)) } := by
         refine⟨h.lf,fun s' z hz=>?_,fun s1 s2 z hz hz'=>?_,fun s' v hv hv0=>?_,h.cl,by show(c.slots.set s _).length=16;rw[List.length_set];exact h.l16⟩
         · have hz':(c.slots.set s (some (-1))).getD s' none=some (z:Int):=hz
           rw[hg]at hz'
           split at hz'
           · injection hz' with hz';omega
           · exact h.sl s' z hz'
         · have q1:(c.slots.set s (some (-1))).getD s1 none=some (z:Int):=hz
           have q2:(c.slots.set s (some (-1))).getD s2 none=some (z:Int):=hz'
           rw[hg]at q1 q2
           split at q1
           · injection q1 with q1;omega
           · split at q2
             · injection q2 with q2;omega
             · exact h.un s1 s2 z q1 q2
         · have hv':(c.slots.set s (some (-1))).getD s' none=some v:=hv
           rw[hg]at hv'
           split at hv'
           · rename_i es;exact Or.inr es
           · exact Or.inl (h.ng s' v hv' hv0)
       have hlow:=hL x hxn { c with slots:=c.slots.set s (some (-1)) } h0.l16
       obtain⟨V,p1,p2,p3⟩:=hW x hxn hxl _ _ _ _ h0
       have hlx:0<(K x { c with slots:=c.slots.set s (some (-1)) }).left.getD x 0:=by rw[hlow.lf x (Nat.le_refl _)];exact hleft
       have hne : ∀ s', (K x { c with slots := c.slots.set s (some (-1)) }).slots.getD s' none ≠ some (x : Int) := fun s' e => by
         have q:(c.slots.set s (some (-1))).getD s' none=some (x:Int):=(hlow.sl s' x (Nat.le_refl _)).1 e
         rw[hg]at q
         split at q
         · injection q with q;omega
         · have h16:s'<16:=by
             rcases Nat.lt_or_ge s' 16 with h1|h1
             · exact h1
             · rw[List.getD_eq_getElem?_getD,List.getElem?_eq_none (by rw[h.l16];exact h1)]at q;cases q
           exact hxo ⟨s',h16,q⟩
       generalize K x { c with slots:=c.slots.set s (some (-1)) }=e at *
       have hg2 : ∀ s', (ZT x s e).slots.getD s' none = if s' = s then some (x : Int) else e.slots.getD s' none := fun s' => by
         show(e.slots.set s (some (x:Int))).getD s' none=_
         rw[Zcn]
         by_cases es:s'=s
         · rw[if_pos ⟨es,by rw[p3.l16];exact f1⟩,if_pos es]
         · rw[if_neg (fun q=>es q.1),if_neg es]
       have h5:Dn nodes M δ V (ZT x s e):=by
         refine⟨p3.lf,fun s' z hz=>?_,fun s1 s2 z hz hz'=>?_,fun s' v hv hv0=>?_,p3.cl,by show(e.slots.set s _).length=16;rw[List.length_set];exact p3.l16⟩
         · rw[hg2]at hz
           split at hz
           · injection hz with hz
             have:z=x:=by omega
             rw[this]
             exact⟨p2 x (List.mem_singleton.2 rfl),hlx⟩
           · exact p3.sl s' z hz
         · rw[hg2]at hz hz'
           split at hz
           · split at hz'
             · omega
             · injection hz with hz
               have:z=x:=by omega
               rw[this]at hz'
               exact absurd hz' (hne s2)
           · split at hz'
             · injection hz' with hz'
               have:z=x:=by omega
               rw[this]at hz
               exact absurd hz (hne s1)
             · exact p3.un s1 s2 z hz hz'
         · rw[hg2]at hv
           split at hv
           · injection hv with hv;omega
           · rename_i es
             rcases p3.ng s' v hv hv0 with q|q
             · exact q
             · exact absurd q es
       obtain⟨V2,q1,q2,q3⟩:=ZlT hok hW hL k V _ h5
       exact⟨V2,fun z hz=>q1 z (p1 z hz),q2,q3⟩
theorem Zso {a b : Nat} (hok : NOk nodes) (hA : WD nodes K a) (hW : ∀ z, z <= b -> z < nodes.length -> WD nodes K z) (hL : ∀ z c, c.slots.length = 16 -> Low z c (K z c)) (hb : b < nodes.length) (h : Dn nodes M δ W c) : Dp nodes M (fun x => δ x + [a, b].count x) W [a, b] (Zbl nodes K a b c) := by
  obtain⟨V1,p1,_,p3⟩:=ZlT hok hW (fun z _=>hL z) (b+2) W c h
  obtain⟨V2,q1,q2,q3⟩:=Zlf hA (hL a) p3
  unfold Zbl
  simp only
  generalize putQ nodes K a (ZP nodes K b (b+2) c)=c2 at *
  obtain⟨V3,r1,r2,r3⟩:=Zlf (hW b (Nat.le_refl _) hb) (hL b) (q3.same (d:=Zh 11 0 (Zh 10 0 c2)) rfl rfl)
  generalize putQ nodes K b (Zh 11 0 (Zh 10 0 c2))=d at *
  have hst : ∀ s v, (Zcb d.slots c2.slots).getD s none = some v -> d.slots.getD s none = some v := fun s v hv => by
    rcases Nat.lt_or_ge s 16 with h1|h1
    · rw[ZiQ _ _ h1]at hv
      split at hv
      · exact hv
      · cases hv
    · rw[List.getD_eq_getElem?_getD,List.getElem?_eq_none (by simp[Zcb];exact h1)]at hv;cases hv
  have e : dl1 (dl1 δ a) b = fun x => δ x + [a, b].count x := funext fun x => by
    unfold dl1
    rw[List.count_cons,List.count_cons,List.count_nil]
    by_cases e1:x=a
    · by_cases e2:x=b
      · subst e1;subst e2;simp
      · subst e1;have:¬b=x:=fun h=>e2 h.symm;simp[e2,this]
    · by_cases e2:x=b
      · subst e2;have:¬a=x:=fun h=>e1 h.symm;simp[e1,this]
      · have h1:¬a=x:=fun h=>e1 h.symm
        have h2:¬b=x:=fun h=>e2 h.symm
        simp[e1,e2,h1,h2]
  rw[e]at r3
  refine⟨V3,fun x hx=>r1 x (q1 x (p1 x hx)),fun i hi=>?_,⟨r3.lf,fun s x hx=>r3.sl s x (hst s _ hx),fun s1 s2 x hx hy=>r3.un s1 s2 x (hst _ _ hx) (hst _ _ hy),fun s v hv=>r3.ng s v (hst s v hv),r3.cl,by simp[Zcb]⟩⟩
  rw[List.mem_cons,List.mem_singleton]at hi
  rcases hi with e|e
  · rw[e];exact r1 a (q2 a (List.mem_singleton.2 rfl))
  · rw[e];exact r2 b (List.mem_singleton.2 rfl)
theorem Zqq(hok:NOk nodes):∀(f n:Nat),n<f->n<nodes.length->WD nodes (Zn nodes f) n
 | 0,_,h,_=>absurd h (Nat.not_lt_zero _)
 | f + 1, n, hn, hl => by
   intro M δ W c h
   have hlt:=Zbj hok n
   have IH:∀z,z<n->WD nodes (Zn nodes f) z:=fun z hz=>Zqq hok f z (by omega) (by omega)
   have hL:∀z c,c.slots.length=16->Low z c (Zn nodes f z c):=fun z c h=>Ze7 hok f z c h
   by_cases h10:(nodes.getD n nq0).op=10
   · have hg:nodes.getD n nq0=nodes[n]:=by simp[hl]
     obtain⟨a,b,ha,hb⟩:=(hok n hl).or (by rw[<-hg];exact h10)
     rw[<-hg]at ha hb
     have htk:Zg (nodes.getD n nq0)=[a,b]:=by unfold Zg;rw[ha,hb]
     rw[htk]at hlt
     have hal:a<n:=hlt a (by simp)
     have hbl:b<n:=hlt b (by simp)
     rw[Zhq h10 ha hb]
     exact ZmM hl htk (Zso hok (IH a hal) (fun z hz _=>IH z (by omega)) hL (by omega) h)
   · rw[Zdf h10]
     obtain⟨V,p1,p2,p3⟩:=ZmM hl rfl (Znb (K:=Zn nodes f) (Zg (nodes.getD n nq0)) M δ W c (fun t ht=>⟨IH t (hlt t ht),hL t⟩) h)
     refine⟨V,p1,p2,p3.same ?_ ?_⟩
     · unfold ZbN;split <;> rfl
     · unfold ZbN;split <;> rfl
theorem Zz1 (hok : NOk nodes) {f r : Nat} (hf : r < f) (hr : r < nodes.length) (hs : c.slots = List.replicate 16 none) (hu : ∀ x, c.left.getD x 0 <= rem nodes (fun _ => false) x nodes.length) (hre : ∀ V : Nat -> Prop, Cl nodes V -> V r -> ∀ y, Zg (nodes.getD y nq0) ≠ [] -> V y) : ∀ s, (Zn nodes f r c).slots.getD s none = none := by
  have hno : ∀ s, c.slots.getD s none = none := fun s => by
    rw[hs,List.getD_eq_getElem?_getD,List.getElem?_replicate];split <;> rfl
  have h:Dn nodes (fun _=>False) (fun _=>0) (fun _=>false) c:=⟨fun x=>Or.inr (by rw[Nat.add_zero];exact hu x),fun s x hx=>(by rw[hno]at hx;cases hx),fun s s' x hx=>(by rw[hno]at hx;cases hx),fun s v hv=>(by rw[hno]at hv;cases hv),fun y hy=>(by cases hy),by rw[hs];simp⟩
  obtain⟨V,_,p2,p3⟩:=Zqq hok f r hf hr _ _ _ _ h
  generalize Zn nodes f r c=d at *
  have hz : ∀ x, d.left.getD x 0 = 0 := fun x => by
    rcases p3.lf x with q|q
    · exact q
    · have : rem nodes V x nodes.length = 0 := Zli nodes.length (fun n _ => by
        by_cases e:Zg (nodes.getD n nq0)=[]
        · right;rw[e];simp
        · exact Or.inl (hre (fun y=>V y=true) p3.cl (p2 r (List.mem_singleton.2 rfl)) n e))
      omega
  intro s
  cases hv:d.slots.getD s none with
  | none=>rfl
  | some v=>
    exfalso
    by_cases h0:v<0
    · exact p3.ng s v hv h0
    · have:=(p3.sl s v.toNat (by rw[hv,Int.toNat_of_nonneg (by omega)])).2
      rw[hz]at this
      omega
end
end Go.Proofs.YtcdgkkfipdoeeaaGreatDoor
namespace Go.Proofs.YtcdgkkfipdoeeaaGreatDoor
open Go.RowKit LS
section
variable {nodes nodes':List Nq} {K K':Nat->Cq->Cq} {c d:Cq} {n m x y N:Nat} {z:Nq}
structure Ag (N:Nat) (c d:Cq):Prop where
 sl:d.slots=c.slots
 co:d.consts=c.consts
 is:d.ins=c.ins
 lf:∀i,i<N->d.left.getD i 0=c.left.getD i 0
theorem Ag.dec(h:Ag N c d)(n:Nat)(hn:n<N):Ag N (decL n c) (decL n d):=⟨h.sl,h.co,h.is,fun i hi=>by rw[Zc4,Zc4,h.lf n hn,h.lf i hi]⟩
theorem Ag.emit(h:Ag N c d)(op arg:Nat):Ag N (Zh op arg c) (Zh op arg d):=⟨h.sl,h.co,by show d.ins++_=c.ins++_;rw[h.is],h.lf⟩
theorem Ag.keep(h:Ag N c d)(n s:Nat):Ag N (ZT n s c) (ZT n s d):=⟨by show d.slots.set _ _=c.slots.set _ _;rw[h.sl],h.co,by show d.ins++_=c.ins++_;rw[h.is],h.lf⟩
theorem Zqu(hok:NOk nodes)(hp:nodes <+: nodes')(hn:n<nodes.length):Zcc nodes' n=Zcc nodes n:=by
 unfold Zcc
 simp only
 rw[ZbF hp hn]
 split
 ·rename_i h4
  have hg:nodes.getD n nq0=nodes[n]:=by simp[hn]
  obtain⟨a,ha⟩:=(hok n hn).neg (by rw[<-hg];exact h4)
  have hlt:=Zbj hok n a (by rw[hg];unfold Zg;rw[ha];cases nodes[n].sn <;> simp)
  rw[hg,ha]
  show decide ((nodes'.getD a nq0).op≠0/\(nodes'.getD a nq0).op≠1)=decide ((nodes.getD a nq0).op≠0/\(nodes.getD a nq0).op≠1)
  rw[ZbF hp (by omega)]
 ·rfl
theorem Zle(hok:NOk nodes)(hp:nodes <+: nodes')(hn:n<nodes.length)(hnN:n<N)(hW:∀c d,Ag N c d->Ag N (K n c) (K' n d))(h:Ag N c d):Ag N (putQ nodes K n c) (putQ nodes' K' n d):=by
 have hd:=h.dec n hnN
 cases hs:ZF n c.slots with
 | some s=>
  rw[ZdP hs,ZdP (c:=d) (by rw[h.sl];exact hs),hd.lf n hnN]
  have he:=hd.emit 13 s
  split
  ·exact⟨by show d.slots.set _ _=c.slots.set _ _;rw[h.sl],he.co,he.is,he.lf⟩
  ·exact he
 | none=>
  rw[Zci hs,Zci (c:=d) (by rw[h.sl];exact hs),Zqu hok hp hn]
  have q:=hW _ _ hd
  rw[q.lf n hnN,q.sl]
  split
  ·exact q
  ·split
   ·exact(q.keep _ _).emit _ _
   ·exact q
theorem Zmn(hok:NOk nodes)(hp:nodes <+: nodes')(sl:List (Option Int)):∀(f n:Nat) (k k':List Nat),n<nodes.length->k.length=nodes.length->k'.length=nodes'.length->(∀i,k'.getD i 0=k.getD i 0)->(cntQ nodes sl f n k).length=nodes.length/\(cntQ nodes' sl f n k').length=nodes'.length/\∀i,(cntQ nodes' sl f n k').getD i 0=(cntQ nodes sl f n k).getD i 0
 | 0,n,k,k',_,h1,h2,h3=>⟨h1,h2,h3⟩
 | f + 1, n, k, k', hn, h1, h2, h3 => by
   have hb : ∀ i, (bump k' n).getD i 0 = (bump k n).getD i 0 := fun i => by
     have:=hp.length_le
     rw[ZeO k _ _ (by omega),ZeO k' _ _ (by omega),h3,h3]
   have b1:(bump k n).length=nodes.length:=(Zd3 _ _).trans h1
   have b2:(bump k' n).length=nodes'.length:=(Zd3 _ _).trans h2
   unfold cntQ
   simp only
   rw[hb,ZbF hp hn]
   split
   · exact⟨b1,b2,hb⟩
   · have key : ∀ (ts : List Nat), (∀ t ∈ ts, t < nodes.length) -> ∀ k k' : List Nat, k.length = nodes.length -> k'.length = nodes'.length -> (∀ i, k'.getD i 0 = k.getD i 0) -> (ts.foldl (fun k t => cntQ nodes sl f t k) k).length = nodes.length /\ (ts.foldl (fun k t => cntQ nodes' sl f t k) k').length = nodes'.length /\ ∀ i, (ts.foldl (fun k t => cntQ nodes' sl f t k) k').getD i 0 = (ts.foldl (fun k t => cntQ nodes sl f t k) k).getD i 0 := by
       intro ts
       induction ts with
       | nil=>intro _ k k' q1 q2 q3;exact⟨q1,q2,q3⟩
       | cons t ts ih=>
         intro ht k k' q1 q2 q3
         obtain⟨r1,r2,r3⟩:=Zmn hok hp sl f t k k' (ht t (List.mem_cons_self ..)) q1 q2 q3
         rw[List.foldl_cons,List.foldl_cons]
         exact ih (fun u hu=>ht u (List.mem_cons_of_mem _ hu)) _ _ r1 r2 r3
     exact key _ (fun t ht=>by have:=Zbj hok n t ht;omega) _ _ b1 b2 hb
theorem Zn2{p q:Nat->Bool}(h:∀i,q i=p i)(a:Nat)(ha:∀i,a<=i->p i=false):∀j,Zbf q (a+j)=Zbf p a
 | 0=>by rw[show q=p from funext h];rfl
 | j + 1 => by
   show(if q (a+j)=true then _ else Zbf q (a+j))=_
   rw[h,ha _ (by omega),if_neg (by decide)]
   exact Zn2 h a ha j
theorem ZxC(hok:NOk nodes)(hp:nodes <+: nodes')(hy:y<nodes.length)(hyN:y<N)(h:Ag N c d):Zby nodes' y d=Zby nodes y c:=by
 obtain ⟨_, _, hk⟩ := Zmn hok hp c.slots (y + 1) y (List.replicate nodes.length 0) (List.replicate nodes'.length 0) hy (by simp) (by simp) (fun i => by
   rw[List.getD_eq_getElem?_getD,List.getD_eq_getElem?_getD,List.getElem?_replicate,List.getElem?_replicate]
   split <;> split <;> rfl)
 have hlow : ∀ i, y < i -> (cntQ nodes c.slots (y + 1) y (List.replicate nodes.length 0)).getD i 0 = 0 := fun i hi => by
   rw[ZjD hok _ _ _ _ _ hi,List.getD_eq_getElem?_getD,List.getElem?_replicate]
   split <;> rfl
 unfold Zby
 rw[h.sl]
 generalize cntQ nodes c.slots (y+1) y (List.replicate nodes.length 0)=k at *
 generalize cntQ nodes' c.slots (y+1) y (List.replicate nodes'.length 0)=k' at *
 obtain⟨j,hj⟩:∃j,nodes'.length=nodes.length+j:=⟨nodes'.length - nodes.length,by have:=hp.length_le;omega⟩
 rw[hj]
 refine Zn2 (fun i=>?_) _ (fun i hi=>?_) j
 ·unfold ZbY
  rw[hk,h.sl]
  rcases Nat.lt_or_ge y i with h1|h1
  ·rw[hlow i h1];rfl
  ·rw[h.lf i (by omega),Zqu hok hp (by omega)]
 ·unfold ZbY
  rw[hlow i (by omega)];rfl
theorem ZlR(hok:NOk nodes)(hp:nodes <+: nodes')(hy:y<nodes.length)(hyN:y<N)(hW:∀z,z<=y->∀c d,Ag N c d->Ag N (K z c) (K' z d)):∀(k:Nat) (c d:Cq),Ag N c d->Ag N (ZP nodes K y k c) (ZP nodes' K' y k d)
 | 0,_,_,h=>h
 | k + 1, c, d, h => by
   have hsh:=ZxC hok hp hy hyN h
   cases hx:Zby nodes y c with
   | none=>rw[ZdF (Or.inl hx),ZdF (Or.inl (hsh.trans hx))];exact h
   | some x=>
     cases hf:ZbE c.slots with
     | none=>rw[ZdF (Or.inr hf),ZdF (Or.inr (by rw[h.sl];exact hf))];exact h
     | some s=>
       rw[Zgf hx hf,Zgf (hsh.trans hx) (by rw[h.sl];exact hf)]
       exact ZlR hok hp hy hyN hW k _ _ ((hW x (Zf3 hok hx).1 { c with slots:=c.slots.set s (some (-1)) } { d with slots:=d.slots.set s (some (-1)) } ⟨by show d.slots.set _ _=c.slots.set _ _;rw[h.sl],h.co,h.is,h.lf⟩).keep x s)
theorem Zqn(hok:NOk nodes)(hp:nodes <+: nodes'):∀(f f' n:Nat) (c d:Cq),n<f->n<f'->n<nodes.length->n<=N->Ag N c d->Ag N (Zn nodes f n c) (Zn nodes' f' n d)
 | 0,_,_,_,_,h,_,_,_,_=>absurd h (Nat.not_lt_zero _)
 | _+1,0,_,_,_,_,h,_,_,_=>absurd h (Nat.not_lt_zero _)
 | f + 1, f' + 1, n, c, d, h1, h2, hn, hnN, h => by
   have hlt:=Zbj hok n
   have IH:∀z,z<n->∀c d,Ag N c d->Ag N (Zn nodes f z c) (Zn nodes' f' z d):=fun z hz c d h=>Zqn hok hp f f' z c d (by omega) (by omega) (by omega) (by omega) h
   have e:=ZbF hp hn
   by_cases h10:(nodes.getD n nq0).op=10
   · have hg:nodes.getD n nq0=nodes[n]:=by simp[hn]
     obtain⟨a,b,ha,hb⟩:=(hok n hn).or (by rw[<-hg];exact h10)
     rw[<-hg]at ha hb
     have htk:Zg (nodes.getD n nq0)=[a,b]:=by unfold Zg;rw[ha,hb]
     rw[htk]at hlt
     have hal:a<n:=hlt a (by simp)
     have hbl:b<n:=hlt b (by simp)
     rw[Zhq h10 ha hb,Zhq (nodes:=nodes') (by rw[e];exact h10) (by rw[e];exact ha) (by rw[e];exact hb)]
     have p:=Zle hok hp (by omega) (by omega) (IH a hal) (ZlR (y:=b) hok hp (by omega) (by omega) (fun z hz=>IH z (by omega)) (b+2) c d h)
     unfold Zbl
     simp only
     generalize putQ nodes (Zn nodes f) a (ZP nodes (Zn nodes f) b (b+2) c)=c2 at *
     generalize putQ nodes' (Zn nodes' f') a (ZP nodes' (Zn nodes' f') b (b+2) d)=d2 at *
     have q:=Zle hok hp (by omega) (by omega) (IH b hbl) ((p.emit 10 0).emit 11 0)
     exact⟨by show Zcb _ _=Zcb _ _;rw[q.sl,p.sl],q.co,by show List.set _ _ _=List.set _ _ _;rw[q.is,p.is],q.lf⟩
   · rw[Zdf h10,Zdf (nodes:=nodes') (by rw[e];exact h10),e]
     have key : ∀ (ts : List Nat), (∀ t ∈ ts, t < n) -> ∀ c d, Ag N c d -> Ag N (ts.foldl (fun c t => putQ nodes (Zn nodes f) t c) c) (ts.foldl (fun c t => putQ nodes' (Zn nodes' f') t c) d) := by
       intro ts
       induction ts with
       | nil=>intro _ c d h;exact h
       | cons t ts ih=>
         intro ht c d h
         have:=ht t (List.mem_cons_self ..)
         rw[List.foldl_cons,List.foldl_cons]
         exact ih (fun u hu=>ht u (List.mem_cons_of_mem _ hu)) _ _ (Zle hok hp (by omega) (by omega) (IH t this) h)
     have q:=key _ hlt c d h
     generalize(Zg (nodes.getD n nq0)).foldl (fun c t=>putQ nodes (Zn nodes f) t c) c=c2 at *
     generalize(Zg (nodes.getD n nq0)).foldl (fun c t=>putQ nodes' (Zn nodes' f') t c) d=d2 at *
     unfold ZbN
     split
     · rw[q.co]
       exact⟨q.sl,rfl,by show _++_=_++_;rw[q.is],q.lf⟩
     · exact q.emit _ _
theorem Zs1{l:List (Option Int)}(h:∀s,l.getD s none=none):∃s,ZbE l=some s:=by
 cases hf:ZbE l with
 | some s=>exact⟨s,rfl⟩
 | none=>
  unfold ZbE at hf
  rw[List.find?_eq_none]at hf
  have:=hf 0 (by decide)
  rw[h 0]at this
  simp at this
theorem Zqt{t:Nat}(h:(nodes.getD t nq0).op<=1):Zcc nodes t=false:=by
 unfold Zcc
 simp only
 rw[if_neg (by omega),decide_eq_false (by omega)]
theorem ZxQ(hok:NOk nodes)(hlf:Lf nodes){r f:Nat}(hr:r<nodes.length)(hf:r<f)(hw:Zcc nodes r=false):∃k,k<=2/\∀c:Cq,(∀s,c.slots.getD s none=none)->(Zn nodes f r c).slots=c.slots/\(Zn nodes f r c).ins.length=c.ins.length+k:=by
 have leaf : ∀ (f n : Nat) (c : Cq), n < f -> (nodes.getD n nq0).op <= 1 -> (Zn nodes f n c).slots = c.slots /\ (Zn nodes f n c).ins.length = c.ins.length + 1 := fun f n c hn ho => by
   obtain⟨f,rfl⟩:∃k,f=k+1:=⟨f - 1,by omega⟩
   rw[Zdf (by omega),(hlf n).1 ho]
   unfold ZbN
   split <;> exact⟨rfl,by simp[Zh]⟩
 by_cases h1:(nodes.getD r nq0).op<=1
 ·exact⟨1,by decide,fun c _=>leaf f r c hf h1⟩
 ·have h4:(nodes.getD r nq0).op=4:=by
   by_cases e:(nodes.getD r nq0).op=4
   ·exact e
   ·unfold Zcc at hw
    simp only at hw
    rw[if_neg e,decide_eq_true (by omega)]at hw
    cases hw
  have hg:nodes.getD r nq0=nodes[r]:=by simp[hr]
  obtain⟨a,ha⟩:=(hok r hr).neg (by rw[<-hg];exact h4)
  have hsn:=(hlf r).2 h4
  rw[<-hg]at ha
  have htk:Zg (nodes.getD r nq0)=[a]:=by unfold Zg;rw[ha,hsn]
  have hao:(nodes.getD a nq0).op<=1:=by
   unfold Zcc at hw
   simp only at hw
   rw[if_pos h4,ha]at hw
   have:=of_decide_eq_false hw
   show(nodes.getD ((some a).getD 0) nq0).op<=1
   omega
  have hlt:=Zbj hok r a (by rw[htk];simp)
  obtain⟨f,rfl⟩:∃k,f=k+1:=⟨f - 1,by omega⟩
  refine⟨2,Nat.le_refl _,fun c hs=>?_⟩
  rw[Zdf (by omega),htk,List.foldl_cons,List.foldl_nil,Zci (Zlq hs a),if_pos (Or.inr (Zqt hao))]
  have q:=leaf f a (decL a c) (by omega) hao
  generalize Zn nodes f a (decL a c)=e at *
  unfold ZbN
  rw[if_neg (by omega)]
  exact⟨q.1,by have:e.ins.length=c.ins.length+1:=q.2;simp[Zh];omega⟩
theorem ZxN{l:List (Option Int)}{s:Nat}(hs:s<16)(h:l.getD s none=some (n:Int)):∃s',ZF n l=some s':=by
 cases hf:ZF n l with
 | some s=>exact⟨s,rfl⟩
 | none=>exact absurd h (Zlr hf hs)
theorem Zzg{t:Tr}(hw:wfT t)(hn:isNil t=false)(ht:wT t<=100000){fl:Nat}(hs:fl / 2 % 2=1):(ZJ (Zb (.node 0 0 (nd0 4 0) t t) (g0 fl)).2 (Zb (.node 0 0 (nd0 4 0) t t) (g0 fl)).1).ins.length<=(ZJ (Zb t (g0 fl)).2 (Zb t (g0 fl)).1).ins.length+4:=by
 have hsh:(g0 fl).share=true:=by unfold g0;simp[hs]
 have B:=Zfq t (g0 fl) hw hn (fun i hi=>absurd hi (Nat.not_lt_zero _)) (by show 0+wT t<=_;omega) (by show 0+wT t<=_;omega)
 have A:=Zk2 t (g0 fl) (Zb t (g0 fl)).2 hw hn hsh (Px.refl _)
 have R:=Zk4 t (g0 fl) hw hn (fun n=>by show Frm (([]:List Nq).getD n nq0);exact Zes)
 have L:=Zku t (g0 fl) (fun n=>by show Frm (([]:List Nq).getD n nq0);exact Zes)
 have U:=Zzv t (g0 fl) (fun x=>by show([]:List Nat).getD x 0<=_;simp)
 have UL:=Zzu t (g0 fl) rfl
 have e:Zb (.node 0 0 (nd0 4 0) t t) (g0 fl)=Z0 0 (Zb t (g0 fl)).1 (Zb t (g0 fl)).1 (Zb t (g0 fl)).2:=by
  show Z0 0 (Zb t (g0 fl)).1 (Zb t (Zb t (g0 fl)).2).1 (Zb t (Zb t (g0 fl)).2).2=_
  rw[A]
 have hsh2:=(Zee t (g0 fl)).sh.trans hsh
 have hok:=B.ok
 have hlt:=B.lt
 have hre:∀V:Nat->Prop,Cl (Zb t (g0 fl)).2.nodes V->V (Zb t (g0 fl)).1->∀y,Zg ((Zb t (g0 fl)).2.nodes.getD y nq0)≠[]->V y:=fun V h1 h2 y h3=>R V h1 (fun i hi=>by rw[List.mem_singleton.1 hi];exact h2) y (Nat.zero_le _) h3
 rw[e]
 clear e A R B
 generalize(Zb t (g0 fl)).2=g at *
 generalize(Zb t (g0 fl)).1=r at *
 unfold Z0
 split
 ·rename_i u v hu hv
  have h1 : ∀ w : Int, (ZJ (Zcf w g).2 (Zcf w g).1).ins.length = 1 := fun w => by
    have hz:=(ZdE ⟨0,w,none,none⟩ g).1
    show(ZJ (addQ ⟨0,w,none,none⟩ g).2 (addQ ⟨0,w,none,none⟩ g).1).ins.length=1
    generalize(addQ ⟨0,w,none,none⟩ g).2=g' at *
    generalize(addQ ⟨0,w,none,none⟩ g).1=i at *
    unfold ZJ
    rw[Zci (Zf5 i),if_pos (Or.inr (Zqt (by rw[hz];exact Nat.zero_le 1))),Zdf (by rw[hz];show(0:Nat)≠10;decide),hz]
    rfl
  rw[h1];omega
 ·clear hs hsh ht hw hn
  -- who takes something is not above the root
  have htop:∀y,Zg (g.nodes.getD y nq0)≠[]->y<=r:=hre (fun y=>y<=r) (fun y hy u hu=>by have:=Zbj hok y u hu;show u<=r;have:y<=r:=hy;omega) (Nat.le_refl r)
  have hnew:idxN ⟨3,((0:Nat):Int),some r,some r⟩ g.nodes=none:=by
   cases hi:idxN ⟨3,((0:Nat):Int),some r,some r⟩ g.nodes with
   | none=>rfl
   | some i=>
    have h1:=ZhT hi
    have h2:=htop i (by rw[h1];simp[Zg])
    have h3:=Zbj hok i r (by rw[h1];simp[Zg])
    omega
  have hur:g.uses.getD r 0=0:=by
   have h1:=U r
   rw [Zli g.nodes.length (fun y _ => Or.inr (fun hy => by
     have h2:=htop y (fun e=>by rw[e]at hy;cases hy)
     have h3:=Zbj hok y r hy
     omega))]at h1
   omega
  rw[Zfb (fun _=>hnew)]
  simp only
  have hzn:NOne g.nodes.length ⟨3,((0:Nat):Int),some r,some r⟩:=Zg6 (by decide) hlt hlt (by decide) (by decide)
  have hok':=hok.app hzn
  have hp:g.nodes <+: g.nodes++[⟨3,((0:Nat):Int),some r,some r⟩]:=List.prefix_append _ _
  have hzg:(g.nodes++[(⟨3,((0:Nat):Int),some r,some r⟩:Nq)]).getD g.nodes.length nq0=⟨3,((0:Nat):Int),some r,some r⟩:=by simp
  have hlf' : Lf (g.nodes ++ [⟨3, ((0 : Nat) : Int), some r, some r⟩]) := fun n => by
    rw[ZiL]
    split
    · exact L n
    · split
      · exact Zj5 (by decide) (by decide)
      · exact Zes
  have hrl:r<(g.nodes++[(⟨3,((0:Nat):Int),some r,some r⟩:Nq)]).length:=by simp;omega
  -- how often what is taken
  have hul:r<(g.uses++[0]).length:=by rw[List.length_append,UL];simp;omega
  have hus : ∀ i, ((Zg ⟨3, ((0 : Nat) : Int), some r, some r⟩).foldl bump (g.uses ++ [0])).getD i 0 = if i = r then 2 else g.uses.getD i 0 := fun i => by
    show(bump (bump (g.uses++[0]) r) r).getD i 0=_
    rw[ZeO _ _ _ (by rw[Zd3];exact hul),ZeO _ _ _ hul,ZeO _ _ _ hul,if_pos rfl,Zgh,Zgh,hur]
    split
    · rfl
    · rfl
  generalize(Zg ⟨3,((0:Nat):Int),some r,some r⟩).foldl bump (g.uses++[0])=us at *
  generalize hnn:g.nodes++[(⟨3,((0:Nat):Int),some r,some r⟩:Nq)]=nn at *
  have huR:us.getD g.nodes.length 0=0:=by
   rw[hus,if_neg (by omega),List.getD_eq_getElem?_getD,List.getElem?_eq_none (by rw[UL];exact Nat.le_refl _)];rfl
  -- the query alone
  have h16:∀(us:List Nat) (ns:List Nq),(c0 { g with nodes:=ns,uses:=us }).slots.length=16:=fun _ _=>by simp[c0]
  have lw0:=Ze7 hok (r+1) r (decL r (c0 g)) (by simp[c0,decL])
  have e0:ZJ g r=Zn g.nodes (r+1) r (decL r (c0 g)):=by
   unfold ZJ
   rw[Zci (Zf5 r),if_pos (Or.inl (by rw[lw0.lf r (Nat.le_refl _),Zc4,if_pos rfl];show g.uses.getD r 0 - 1=0;omega))]
  have hcl := Zz1 (c := decL r (c0 g)) hok (Nat.lt_succ_self r) hlt rfl (fun x => by
    have h1:=U x
    rw[Zc4]
    split
    · rename_i e;show g.uses.getD r 0 - 1<=_;omega
    · exact h1) hre
  -- the first time
  have ag : Ag r (decL r (c0 g)) (decL r (decL g.nodes.length (c0 { g with nodes := nn, uses := us }))) := ⟨rfl, rfl, rfl, fun i hi => by
    rw[Zc4,if_neg (by omega),Zc4,if_neg (by omega),Zc4,if_neg (by omega)]
    show us.getD i 0=g.uses.getD i 0
    rw[hus,if_neg (by omega)]⟩
  have q:=Zqn hok hp (r+1) g.nodes.length r _ _ (Nat.lt_succ_self r) hlt hlt (Nat.le_refl r) ag
  have lw1:=Ze7 hok' g.nodes.length r (decL r (decL g.nodes.length (c0 { g with nodes:=nn,uses:=us }))) (by simp[c0,decL])
  rw[e0]
  generalize Zn g.nodes (r+1) r (decL r (c0 g))=E0 at *
  have hsl:∀s,(Zn nn g.nodes.length r (decL r (decL g.nodes.length (c0 { g with nodes:=nn,uses:=us })))).slots.getD s none=none:=fun s=>by rw[q.sl];exact hcl s
  have hl1:(Zn nn g.nodes.length r (decL r (decL g.nodes.length (c0 { g with nodes:=nn,uses:=us })))).left.getD r 0=1:=by
   rw[lw1.lf r (Nat.le_refl _),Zc4,if_pos rfl,Zc4,if_neg (by omega)]
   show us.getD r 0 - 1=1
   rw[hus,if_pos rfl]
  have h161:(Zn nn g.nodes.length r (decL r (decL g.nodes.length (c0 { g with nodes:=nn,uses:=us })))).slots.length=16:=by rw[lw1.ls];simp[c0,decL]
  have hi1:=congrArg List.length q.is
  have hput:putQ nn (Zn nn g.nodes.length) r (decL g.nodes.length (c0 { g with nodes:=nn,uses:=us }))=_:=Zci (Zf5 r)
  -- the whole
  have hwork:Zn nn (g.nodes.length+1) g.nodes.length (decL g.nodes.length (c0 { g with nodes:=nn,uses:=us }))=Zh 3 0 (putQ nn (Zn nn g.nodes.length) r (putQ nn (Zn nn g.nodes.length) r (decL g.nodes.length (c0 { g with nodes:=nn,uses:=us })))):=by
   rw[Zdf (by rw[hzg];show(3:Nat)≠10;decide),hzg]
   rfl
  have lwR:=Ze7 hok' (g.nodes.length+1) g.nodes.length (decL g.nodes.length (c0 { g with nodes:=nn,uses:=us })) (by simp[c0,decL])
  have eR:ZJ { g with nodes:=nn,uses:=us } g.nodes.length=Zn nn (g.nodes.length+1) g.nodes.length (decL g.nodes.length (c0 { g with nodes:=nn,uses:=us })):=by
   unfold ZJ
   rw[Zci (Zf5 _),if_pos (Or.inl (by rw[lwR.lf _ (Nat.le_refl _),Zc4,if_pos rfl];show us.getD g.nodes.length 0 - 1=0;omega))]
  show(ZJ { g with nodes:=nn,uses:=us } g.nodes.length).ins.length<=_
  rw[eR,hwork]
  clear eR hwork lwR lw1 lw0 q ag hcl e0
  have hsm:=ZxQ hok' hlf' hrl (f:=g.nodes.length) hlt
  have hc2:(decL r (decL g.nodes.length (c0 { g with nodes:=nn,uses:=us }))).ins.length=0:=rfl
  have hs2 : ∀ s, (decL r (decL g.nodes.length (c0 { g with nodes := nn, uses := us }))).slots.getD s none = none := fun s => by
    show(List.replicate 16 none).getD s none=none
    rw[List.getD_eq_getElem?_getD,List.getElem?_replicate];split <;> rfl
  rw[hput,hl1]
  generalize decL r (decL g.nodes.length (c0 { g with nodes:=nn,uses:=us }))=C2 at *
  by_cases hwr:Zcc nn r=false
  ·obtain⟨k,hk,hall⟩:=hsm hwr
   have h1:=(hall C2 hs2).2
   rw[if_pos (Or.inr hwr)]
   generalize Zn nn g.nodes.length r C2=E1 at *
   have lw2:=Ze7 hok' g.nodes.length r (decL r E1) h161
   have h2:=(hall (decL r E1) hsl).2
   rw[Zci (Zlq hsl r),if_pos (Or.inr hwr)]
   generalize Zn nn g.nodes.length r (decL r E1)=E2 at *
   have h3:(decL r E1).ins.length=E1.ins.length:=rfl
   have h4:(Zh 3 0 E2).ins.length=E2.ins.length+1:=by simp[Zh]
   omega
  ·rw[if_neg (fun h=>by rcases h with h|h;exact absurd h (by decide);exact hwr h)]
   generalize Zn nn g.nodes.length r C2=E1 at *
   obtain⟨s,hf⟩:=Zs1 hsl
   rw[hf]
   simp only
   have f1:=(Zeb hf).1
   obtain⟨s',hs'⟩:=ZxN (n:=r) (l:=(Zh 13 s (ZT r s E1)).slots) f1 (by
    show(E1.slots.set s (some (r:Int))).getD s none=_
    rw[Zcn,if_pos ⟨rfl,by rw[h161];exact f1⟩])
   have h5:(Zh 13 s (ZT r s E1)).ins.length=E1.ins.length+2:=by simp[Zh,ZT]
   rw[ZdP hs']
   generalize Zh 13 s (ZT r s E1)=E3 at *
   have h6:∀X:Cq,(Zh 3 0 X).ins.length=X.ins.length+1:=fun X=>by simp[Zh]
   rw[h6]
   have h7:(Zh 13 s' (decL r E3)).ins.length=E3.ins.length+1:=by simp[Zh,decL]
   split
   ·show(Zh 13 s' (decL r E3)).ins.length+1<=_
    omega
   ·omega
end
end Go.Proofs.YtcdgkkfipdoeeaaGreatDoor

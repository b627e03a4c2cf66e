/- Parts. -/
import Derived.Test.YtcdgkkfipdoeeaaGreatDoorT26
set_option linter.all false
set_option maxRecDepth 100000
set_option maxHeartbeats 16000000
namespace Go.Proofs.YtcdgkkfipdoeeaaGreatDoor
open Go.RowKit LS Go.Proofs.Tryz
variable {v:Int}{w:LB}{ns:List (LB)}{l:List (Option Int)}{I ts:List Nat}{o:Nat}{W:Nat->Bool}{q:Nd×Nat}
section
section
variable {jx nodes':List Nq} {n m x y i j:Nat} {g g1 g2 k:Gq} {z:Nq}
theorem ZHw{l l':List Nq}(a:l <+: l'):∀ {i:Nat},idxN z l=some i->idxN z l'=some i:=by
 obtain⟨t,rfl⟩:=a
 induction l with
 | nil=>intro i h;cases h
 | cons y l ih=>
  intro i h;rw[Yby];unfold idxN at h ⊢;split at h
  ·rename_i e;rw[if_pos e];exact h
  ·rename_i e;rw[if_neg e];rw[Ybk]at h ⊢;obtain⟨j,c,d⟩:=h;exact⟨j,ih c,d⟩
theorem ZHv:∀ {l:List Nq},idxN z l=none->idxN z (l++[z])=some l.length
 | [],_=>by simp[idxN]
 | y :: l, h => by
   rw[Yby];unfold idxN at h ⊢;split at h
   · cases h
   · rename_i e
     rw[Yf3]at h;rw[if_neg e,ZHv h];rfl
theorem ZGU{l l':List (LB)}(a:l <+: l'):∀ {i:Nat},idx w l=some i->idx w l'=some i:=by
 obtain⟨t,rfl⟩:=a
 induction l with
 | nil=>intro i h;cases h
 | cons y l ih=>
  intro i h;rw[Yby];unfold idx at h ⊢;split at h
  ·rename_i e;rw[if_pos e];exact h
  ·rename_i e;rw[if_neg e];rw[Ybk]at h ⊢;obtain⟨j,c,d⟩:=h;exact⟨j,ih c,d⟩
theorem ZG6 : ∀ {l:List (LB)},idx w l=none->idx w (l++[w])=some l.length
 | [],_=>by simp[idx]
 | y :: l, h => by
   rw[Yby];unfold idx at h ⊢;split at h
   · cases h
   · rename_i e
     rw[Yf3]at h;rw[if_neg e,ZG6 h];rfl
structure Px (g k:Gq):Prop where
 nd:g.jx <+: k.jx
 se:g.jm <+: k.jm
 gr:g.ky <+: k.ky
 fo:k.fold=g.fold
 sh:k.share=g.share
theorem Px.refl(g:Gq):Px g g:=⟨Ya8 _,Ya8 _,Ya8 _,rfl,rfl⟩
theorem Px.trans(h:Px g g1)(q:Px g1 g2):Px g g2:=⟨h.nd.trans q.nd,h.se.trans q.se,h.gr.trans q.gr,q.fo.trans h.fo,q.sh.trans h.sh⟩
theorem ZcD(z:Nq)(g:Gq):Px g (addQ z g).2:=by
 rcases ZkD z g with ⟨i,_,_,e⟩|⟨_,e⟩
 ·rw[e];exact Px.refl g
 constructor<;>simp_all
theorem ZGt(a:g.share=true)(h:Px (addQ z g).2 k):addQ z k=((addQ z g).1,k):=by
 rcases ZkD z g with ⟨i,_,c,e⟩|⟨d,e⟩
 ·rw[e]at h ⊢;exact Zhq (h.sh.trans a) (ZHw h.nd c)
 ·rw[e]at h ⊢;exact Zhq (h.sh.trans a) (ZHw h.nd (ZHv (d a)))
theorem ZG8(h:Px g k)(a:n<g.jx.length):Zco n k=Zco n g:=by unfold Zco;rw[h.fo,Zg3 h.nd a]
theorem Zmo(n:Nat)(g:Gq):Px g (negQ n g).2:=by unfold negQ;split <;> exact ZcD _ _
theorem ZIe(a:g.share=true)(d:n<g.jx.length)(h:Px (negQ n g).2 k):negQ n k=((negQ n g).1,k):=by
 have e:=ZG8 ((Zmo n g).trans h) d;unfold negQ at h ⊢;rw[e];cases c:Zco n g with
 | none=>rw[c]at h;exact ZGt a h
 | some v=>rw[c]at h;exact ZGt a h
theorem ZmG(o x y:Nat)(g:Gq):Px g (Zbs o x y g).2:=by unfold Zbs;split <;> exact ZcD _ _
theorem ZIh(a:g.share=true)(f:x<g.jx.length)(l:y<g.jx.length)(h:Px (Zbs o x y g).2 k):Zbs o x y k=((Zbs o x y g).1,k):=by
 have p:=ZG8 ((ZmG o x y g).trans h) f;have d:=ZG8 ((ZmG o x y g).trans h) l;unfold Zbs at h ⊢;rw[p,d];cases c:Zco x g with
 | none=>rw[c]at h;exact ZGt a h
 | some v=>
  cases e:Zco y g with
  | none=>rw[c,e]at h;exact ZGt a h
  | some u=>rw[c,e]at h;exact ZGt a h
theorem ZjW{g:Gq}:Px g (ZJ q g).2:=by
 unfold ZJ;split
 ·exact ZcD _ _
 ·exact(show Px g { g with jm:=g.jm++[q] } from⟨Ya8 _,Ydd _ _,Ya8 _,rfl,rfl⟩).trans (ZcD _ _)
theorem ZHH(d:g.share=true)(h:Px (ZJ q g).2 k):ZJ q k=((ZJ q g).1,k):=by
 unfold ZJ at h ⊢;cases a:idx (ZI q) (g.jm.map ZI)with
 | some i=>
  rw[a]at h;have c:=((ZcD _ _).trans h).se.map ZI;rw[ZGU c a];exact ZGt d h
 | none=>
  rw[a]at h;have c:=((ZcD _ _).trans h).se.map ZI;have e:=ZG6 a;rw[Yak]at e;rw[ZGU c (by rw[Yaq];exact e)];exact ZGt (g:={ g with jm:=g.jm++[q] }) d h
theorem ZlF{g:Gq}:Px g (Zbd ns g).2:=by
 unfold Zbd;split
 ·exact Px.refl g
 constructor<;>simp_all
theorem ZH6(h:Px (Zbd ns g).2 k):Zbd ns k=((Zbd ns g).1,k):=by
 unfold Zbd at h ⊢;cases a:idx (commas (Z6 ns)) (g.ky.map commas)with
 | some i=>
  rw[a]at h;rw[ZGU (h.gr.map commas) a]
 | none=>
  rw[a]at h;have c:=ZG6 a;rw[Yak]at c;rw[ZGU (h.gr.map commas) (by rw[Yaq];exact c)]
theorem Zfw:∀(t:Tr) (g:Gq),Px g (Zb t g).2
 | .nil,g=>Px.refl g
 | .node _ _ a l r, g => by
   have c:=Zfw l;have d:=Zfw r;unfold Zb;split
   · exact ZcD _ _
   · split
     · exact ZjW
     · split
       · exact(ZjW).trans (ZcD _ _)
       · split
         · exact(c g).trans (Zmo _ _)
         · split
           · exact((c g).trans (ZlF)).trans (ZcD _ _)
           · simp only
             split
             · exact((c g).trans (d _)).trans (ZcD _ _)
             · exact((c g).trans (d _)).trans (ZmG _ _ _ _)
theorem ZHb:∀(t:Tr) (g k:Gq),wfT t->isNil t=false->g.share=true->Px (Zb t g).2 k->Zb t k=((Zb t g).1,k)
 | .nil,_,_,_,h,_,_=>by cases h
 | .node _ _ a l r, g, k, u, _, c, h => by
   obtain⟨B,C,D,E,F,G,v,w,H,A,e,o⟩:=u;unfold Zb at h ⊢;by_cases k0:a.jj=0
   · rw[if_pos k0]at h ⊢;rw[if_pos k0];exact ZGt c h
   · rw[if_neg k0]at h ⊢
     rw[if_neg k0];by_cases k1:a.jj=1
     · rw[if_pos k1]at h ⊢;rw[if_pos k1];exact ZHH c h
     · rw[if_neg k1]at h ⊢
       rw[if_neg k1];by_cases k2:a.jj=2
       · rw[if_pos k2]at h ⊢
         rw[if_pos k2];simp only at h ⊢;rw[ZHH c ((ZcD _ _).trans h)];exact ZGt ((ZjW).sh.trans c) h
       · rw[if_neg k2]at h ⊢
         rw[if_neg k2];have d:=v Om;have L:=ZHb l g;have Ll:=(Zew l g e).2 d;have Ls:=(Zfw l g).sh.trans c;by_cases k3:a.jj=3
         · rw[if_pos k3]at h ⊢
           rw[if_pos k3];simp only at h ⊢;rw[L k e d c ((Zmo _ _).trans h)];exact ZIe Ls Ll h
         · rw[if_neg k3]at h ⊢
           rw[if_neg k3];by_cases k5:a.jj=5
           · rw[if_pos k5]at h ⊢
             rw[if_pos k5];simp only at h ⊢;have p:=(ZcD _ _).trans h;rw[L k e d c ((ZlF).trans p)];simp only;rw[ZH6 p];exact ZGt ((ZlF).sh.trans Ls) h
           · rw[if_neg k5]at h ⊢
             rw[if_neg k5];simp only at h ⊢;have f:=w Om;have Rl:=(Zew r (Zb l g).2 o).2 f;have Rs:=(Zfw r (Zb l g).2).sh.trans Ls;have q:=Yaw Ll (Zfw r (Zb l g).2).nd.length_le
             have s:Px (Zb r (Zb l g).2).2 k:=by
               split at h
               · exact(ZcD _ _).trans h
               · exact(ZmG _ _ _ _).trans h
             rw[L k e d c ((Zfw _ _).trans s)];simp only;rw[ZHb r (Zb l g).2 k o f Ls s];simp only;by_cases k6:a.jj=6
             · rw[if_pos k6]at h ⊢;rw[if_pos k6];exact ZGt Rs h
             · rw[if_neg k6]at h ⊢;rw[if_neg k6];exact ZIh Rs q Rl h
def Frm(z:Nq):Prop:=(z.op<=1->Zg z=[])/\(z.op=4->z.sn=none)
theorem ZGw : Frm ⟨o,v,none,none⟩:=⟨fun _=>rfl,fun _=>rfl⟩
theorem ZG4{o n:Nat}(h:2<=o):Frm ⟨o,v,some n,none⟩:=⟨fun a=>absurd (show o<=1 from a) Om,fun _=>rfl⟩
theorem ZG5{o n m:Nat}(h:2<=o)(c:o≠4):Frm ⟨o,v,some n,some m⟩:=⟨fun a=>absurd (show o<=1 from a) Om,fun a=>absurd a c⟩
theorem ZGP(P:Gq->Prop)(c:∀z g,Frm z->P g->P (addQ z g).2)(e:∀g s r,P g->P { g with jm:=s,ky:=r }):∀(t:Tr) (g:Gq),P g->P (Zb t g).2
 | .nil,_,h=>h
 | .node _ _ a l r, g, h => by
   have d:=ZGP P c e l;have f:=ZGP P c e r
   have o : ∀ q g, P g -> P (ZJ q g).2 := fun q g h => by
     unfold ZJ;split
     · exact c _ _ ZGw h
     · exact c _ _ ZGw (e g _ g.ky h)
   have p : ∀ ns g, P g -> P (Zbd ns g).2 := fun ns g h => by
     unfold Zbd;split
     · exact h
     · exact e g g.jm _ h
   unfold Zb;split
   · exact c _ _ ZGw h
   · split
     · exact o _ _ h
     · split
       · exact c _ _ (ZG4 Dc) (o _ _ h)
       · split
         · simp only
           unfold negQ;split
           · exact c _ _ ZGw (d _ h)
           · exact c _ _ (ZG4 Dc) (d _ h)
         · split
           · exact c _ _ (ZG4 Om) (p _ _ (d _ h))
           · simp only
             split
             · exact c _ _ (ZG5 Dc Dc) (f _ (d _ h))
             · unfold Zbs
               split
               · exact c _ _ ZGw (f _ (d _ h))
               · exact c _ _ (ZG5 Dc Dc) (f _ (d _ h))
theorem Zso(l:List Nq)(z:Nq)(n:Nat):(l++[z]).getD n nq0=if n<l.length then l.getD n nq0 else if n=l.length then z else nq0:=by
 rw[Yaa];rcases Yev n l.length with a|a|a
 ·rw[Ybr a,<-Yaa,if_pos a]
 ·simp_all
 ·rw[Ya9 (by simp;omega),if_neg Om,if_neg Om];rfl
def Lf(jx:List Nq):Prop:=∀n,Frm (jx.getD n nq0)
theorem ZHa (t : Tr) (g : Gq) (h : Lf g.jx) : Lf (Zb t g).2.jx := ZGP (fun g => Lf g.jx) (fun z g a h => by
  rcases ZkD z g with ⟨i,_,_,e⟩|⟨_,e⟩
  · rw[e];exact h
  · rw[e]
    intro n;show Frm ((g.jx++[z]).getD n nq0);rw[Zso];split
    · exact h n
    · split
      · exact a
      · exact ZGw) (fun _ _ _ h=>h) t g h
def rem(jx:List Nq)(W:Nat->Bool)(x:Nat):Nat->Nat
 | 0=>0
 | N+1=>rem jx W x N+if W N=true then 0 else (Zg (jx.getD N nq0)).count x
theorem ZGZ{V:Nat->Bool} : ∀(N:Nat),(∀n,n<N->nodes'.getD n nq0=jx.getD n nq0/\W n=V n)->rem nodes' W x N=rem jx V x N
 | 0,_=>rfl
 | N + 1, h => by
   obtain⟨a,c⟩:=h N Om;unfold rem;rw[ZGZ N (fun n d=>h n Om),a,c]
theorem ZHi : ∀(N:Nat),(∀n,n<N->W n=true∨x∉Zg (jx.getD n nq0))->rem jx W x N=0
 | 0,_=>rfl
 | N + 1, h => by
   unfold rem;rw[ZHi N (fun n a=>h n Om)];rcases h N (by omega)with e|e
   · rw[if_pos e]
   · rw[Yfz e];simp
theorem ZHN {W : Nat -> Bool} (a : W n = false) : ∀ (N : Nat), n < N -> rem jx (fun y => W y || decide (y = n)) x N + (Zg (jx.getD n nq0)).count x = rem jx W x N
  | 0,h=>absurd h (Ya1 _)
  | N + 1, h => by
    unfold rem;by_cases e:n=N
    · subst e
      rw[ZGZ (jx:=jx) (V:=W) n (fun y c=>⟨rfl,by rw[decide_eq_false (show ¬y=n by omega)];simp⟩)];simp[a]
    · have:=ZHN a N Om
      rw[decide_eq_false (show ¬N=n by omega)];simp only[Yf4];omega
def UsR(g:Gq):Prop:=∀x,g.uses.getD x 0<=rem g.jx (fun _=>false) x g.jx.length
theorem ZJk (t : Tr) (g : Gq) (h : UsR g) : UsR (Zb t g).2 := ZGP UsR (fun z g _ h => by
  rcases ZkD z g with ⟨i,_,_,e⟩|⟨_,e⟩
  · rw[e];exact h
  · rw[e]
    intro x;have d:=h x;have a:=ZG2 (Zg z) (g.uses++[0]) x;rw[ZGL]at a;show((Zg z).foldl bump (g.uses++[0])).getD x 0<=rem (g.jx++[z]) (fun _=>false) x (g.jx++[z]).length;rw[show(g.jx++[z]).length=g.jx.length+1 by simp];unfold rem;rw[ZGZ (jx:=g.jx) (V:=fun _=>false) g.jx.length (fun n c=>⟨by rw[Zso,if_pos c],rfl⟩),show(g.jx++[z]).getD g.jx.length nq0=z by simp];simp only[Yde,if_false];omega) (fun _ _ _ h=>h) t g h
theorem ZJj (t : Tr) (g : Gq) (h : g.uses.length = g.jx.length) : (Zb t g).2.uses.length = (Zb t g).2.jx.length := ZGP (fun g => g.uses.length = g.jx.length) (fun z g _ h => by
  rcases ZkD z g with ⟨i,_,_,e⟩|⟨_,e⟩
  · rw[e];exact h
  · rw[e]
    show((Zg z).foldl bump (g.uses++[0])).length=(g.jx++[z]).length;rw[Zpo];simp[h]) (fun _ _ _ h=>h) t g h
def Cl(jx:List Nq)(W:Nat->Prop):Prop:=∀y,W y->∀t∈Zg (jx.getD y nq0),W t
theorem Cl.pre {W : Nat -> Prop} (h : Cl nodes' W) (d : jx <+: nodes') : Cl jx W := fun y e t a => by
  rcases Yav y jx.length with c|c
  · exact h y e t (by rw[Zg3 d c];exact a)
  · rw[Yaa,Ya9 c]at a;cases a
def Rea(g g':Gq)(I:List Nat):Prop:=∀W:Nat->Prop,Cl g'.jx W->(∀i∈I,W i)->∀y,g.jx.length<=y->Zg (g'.jx.getD y nq0)≠[]->W y
theorem Rea.app {J:List Nat} (h : Rea g g1 I) (q : Rea g1 g2 J) (d : g1.jx <+: g2.jx) : Rea g g2 (I ++ J) := fun W e f y o l => by
  rcases Yav y g1.jx.length with c|c
  · exact h W (e.pre d) (fun i a=>f i (Yc7 _ a)) y o (by rw[<-Zg3 d c];exact l)
  · exact q W e (fun i a=>f i (List.mem_append_right _ a)) y c l
theorem Rea.close  (h : Rea g g2 I) (f : ∀ i ∈ I, i = j ∨ i ∈ Zg (g2.jx.getD j nq0)) : Rea g g2 [j] := fun W a l => h W a (fun i c => by
  have d:=l j (Yap.2 rfl);rcases f i c with e|e
  · rw[e];exact d
  · exact a j d i e)
theorem Rea.leaf (h : Rea g g2 [i]) (d : Zg (g2.jx.getD i nq0) = []) : Rea g g2 [] := fun W _ _ y c a => by
  have:=h (fun y=>y=i) (fun y c t a=>by subst c;rw[d]at a;cases a) (fun k e=>Yap.1 e) y c a;rw[this]at a;exact absurd d a
theorem ZGx (z : Nq) {g:Gq} : Rea g (addQ z g).2 [(addQ z g).1] := fun W _ d y f a => by
  rcases ZkD z g with ⟨i,_,_,e⟩|⟨_,e⟩
  · rw[e]at a
    rw[Yaa,Ya9 f]at a;exact absurd rfl a
  · rw[e]at d a
    have c:Zg ((g.jx++[z]).getD y nq0)≠[]:=a;rw[Zso,if_neg Om]at c;split at c
    · rename_i e2;rw[e2];exact d _ (Yap.2 rfl)
    · exact absurd rfl c
theorem Rea.jm{s:List (Nd×Nat)}{r:List (List (LB))}(h:Rea { g with jm:=s,ky:=r } g2 I):Rea g g2 I:=h
theorem ZG7(a:Lf g.jx)(h:Zco n g=some v):Zg (g.jx.getD n nq0)=[]:=by
 unfold Zco at h;split at h
 ·rename_i e;exact(a n).1 (by rw[e.2];decide)
 ·cases h
theorem ZHc:∀(t:Tr) (g:Gq),wfT t->isNil t=false->Lf g.jx->Rea g (Zb t g).2 [(Zb t g).1]
 | .nil,_,_,h,_=>by cases h
 | .node _ _ a l r, g, D, _, p => by
   obtain⟨K,M,N,O,P,Q,E,F,S,J,w,G⟩:=D
   have A : ∀ q g, Rea g (ZJ q g).2 [(ZJ q g).1] := fun q g => by
     unfold ZJ;split
     · exact ZGx _
     · exact Rea.jm (g:=g) (s:=g.jm++[q]) (r:=g.ky) (ZGx _)
   unfold Zb;by_cases k0:a.jj=0
   · rw[if_pos k0];exact ZGx _
   · rw[if_neg k0]
     by_cases k1:a.jj=1
     · rw[if_pos k1];exact A _ _
     · rw[if_neg k1]
       by_cases k2:a.jj=2
       · rw[if_pos k2]
         simp only;refine((A _ _).app (ZGx _) (ZcD _ _).nd).close (fun i c=>?_);rw[(Zhr _ _).1];simp at c;rcases c with e|e
         · right;rw[e];simp[Zg]
         · exact Or.inl e
       · rw[if_neg k2]
         have f:=E Om;have L:=ZHc l g w f p;have Lfl:=ZHa l g p;by_cases k3:a.jj=3
         · rw[if_pos k3]
           simp only;unfold negQ;split
           · rename_i v o
             exact((L.leaf (ZG7 Lfl o)).app (ZGx _) (ZcD _ _).nd)
           · refine(L.app (ZGx _) (ZcD _ _).nd).close (fun i c=>?_)
             rw[(Zhr _ _).1];simp at c;rcases c with e|e
             · right;rw[e];simp[Zg]
             · exact Or.inl e
         · rw[if_neg k3]
           by_cases k5:a.jj=5
           · rw[if_pos k5]
             simp only;have B:=(Zje a.by_ (Zb l g).2).2.2;have L':Rea g (Zbd a.by_ (Zb l g).2).2 [(Zb l g).1]:=by unfold Rea;rw[B];exact L
             refine(L'.app (ZGx _) (ZcD _ _).nd).close (fun i c=>?_);rw[(Zhr _ _).1];simp at c;rcases c with e|e
             · right;rw[e];simp[Zg]
             · exact Or.inl e
           · rw[if_neg k5]
             simp only;have C:=F Om;have R:=ZHc r (Zb l g).2 G C Lfl;have Lfr:=ZHa r (Zb l g).2 Lfl;have d:=(Zfw r (Zb l g).2).nd;have Ll:=(Zew l g w).2 f
             have fin : ∀ {z : Nq}, Zg z = [(Zb l g).1, (Zb r (Zb l g).2).1] -> Rea g (addQ z (Zb r (Zb l g).2).2).2 [(addQ z (Zb r (Zb l g).2).2).1] := fun {z} H => by
               refine((L.app R d).app (ZGx z) (ZcD _ _).nd).close (fun i c=>?_);rw[(Zhr _ _).1,H];simp at c;rcases c with e|e|e
               · right;rw[e];simp
               · right;rw[e];simp
               · exact Or.inl e
             split
             · exact fin rfl
             · unfold Zbs
               split
               · rename_i u v I o
                 have q1:Rea g (Zb r (Zb l g).2).2 []:=(L.leaf (by
                   have:=ZG7 Lfr I;rw[Zg3 d Ll]at this;exact this)).app (R.leaf (ZG7 Lfr o)) d
                 exact q1.app (ZGx _) (ZcD _ _).nd
               · exact fin rfl
end
end
section
section
variable {jx:List Nq} {K:Nat->Cq->Cq} {c d e:Cq} {M:Nat->Prop} {δ:Nat->Nat} {W:Nat->Bool} {n m x y:Nat}
structure Dn (jx:List Nq) (M:Nat->Prop) (δ:Nat->Nat) (W:Nat->Bool) (c:Cq):Prop where
 lf:∀x,c.left.getD x 0=0∨c.left.getD x 0+δ x<=rem jx W x jx.length
 sl:∀s (x:Nat),c.jy.getD s none=some (x:Int)->W x=true/\0<c.left.getD x 0
 un:∀s s' (x:Nat),c.jy.getD s none=some (x:Int)->c.jy.getD s' none=some (x:Int)->s=s'
 ng:∀s v,c.jy.getD s none=some v->v<0->M s
 cl:Cl jx (fun y=>W y=true)
 l16:c.jy.length=16
def Dp(jx:List Nq)(M:Nat->Prop)(δ:Nat->Nat)(W:Nat->Bool)(I:List Nat)(d:Cq):Prop:=∃V:Nat->Bool,(∀x,W x=true->V x=true)/\(∀i∈I,V i=true)/\Dn jx M δ V d
def WD(jx:List Nq)(K:Nat->Cq->Cq)(n:Nat):Prop:=∀M δ W c,Dn jx M δ W c->Dp jx M δ W [n] (K n c)
theorem Dn.same(h:Dn jx M δ W c)(f:d.left=c.left)(a:d.jy=c.jy):Dn jx M δ W d:=⟨by rw[f];exact h.lf,by rw[f,a];exact h.sl,by rw[a];exact h.un,by rw[a];exact h.ng,h.cl,by rw[a];exact h.l16⟩
theorem ZGr(n:Nat)(c:Cq)(m:Nat):(decL n c).left.getD m 0=if m=n then c.left.getD n 0 - 1 else c.left.getD m 0:=by
 show(c.left.set n (c.left.getD n 0 - 1)).getD m 0=_;rw[Zf2];by_cases e:m=n
 ·subst e;by_cases h:m<c.left.length
  ·rw[if_pos ⟨rfl,h⟩,if_pos rfl]
  ·rw[if_neg (fun q=>h q.2),if_pos rfl,Yaa,Ya9 Om];rfl
 ·rw[if_neg (fun q=>e q.1),if_neg e]
def dl1(δ:Nat->Nat)(n:Nat):Nat->Nat:=fun x=>δ x+if x=n then 1 else 0
theorem Dn.dec_lf (h : Dn jx M δ W c) (n : Nat) : ∀ x, (decL n c).left.getD x 0 = 0 ∨ (decL n c).left.getD x 0 + dl1 δ n x <= rem jx W x jx.length := fun x => by
  rw[ZGr];unfold dl1;by_cases e:x=n
  · subst e
    rw[if_pos rfl,if_pos rfl];rcases h.lf x with a|a
    · left;omega
    · by_cases f:c.left.getD x 0=0
      · left;omega
      · right;omega
  · rw[if_neg e,if_neg e]
    rcases h.lf x with a|a
    · exact Or.inl a
    · exact Or.inr Om
theorem ZIA(f:c.jy.length=16)(h:ZK n c.jy=none)(s:Nat):c.jy.getD s none≠some (n:Int):=by
 rcases Yav s 16 with a|a
 ·exact ZCn h a
 ·rw[Yaa,Ya9 (by rw[f];exact a)];simp
theorem ZHg(E:WD jx K n)(F:∀c,c.jy.length=16->Low n c (K n c))(h:Dn jx M δ W c):Dp jx M (dl1 δ n) W [n] (putQ jx K n c):=by
 cases r:ZK n c.jy with
 | some s=>
  obtain⟨z,p⟩:=Zha r;obtain⟨g,J⟩:=h.sl s n p;have t:=h.dec_lf n;rw[Zd8 r];refine⟨W,fun _ h=>h,fun i G=>by rw[Yap.1 G];exact g,?_⟩;split
  ·rename_i A;refine⟨t,fun s' x a=>?_,fun s1 s2 x a j=>?_,fun s' v k=>?_,h.cl,by show(c.jy.set s none).length=16;rw[Yat];exact h.l16⟩
   ·have f:(c.jy.set s none).getD s' none=some (x:Int):=a;rw[Zc0]at f;split at f
    ·cases f
    ·rename_i H;have D:x≠n:=fun e=>H ⟨h.un s' s n (by rw[<-e];exact f) p,by rw[h.l16];exact z⟩;obtain⟨q1,q2⟩:=h.sl s' x f;refine⟨q1,?_⟩;show 0<(decL n c).left.getD x 0;rw[ZGr,if_neg D];exact q2
   ·have f:(c.jy.set s none).getD s1 none=some (x:Int):=a;have l:(c.jy.set s none).getD s2 none=some (x:Int):=j;rw[Zc0]at f l;split at f
    ·cases f
    ·split at l
     ·cases l
     ·exact h.un s1 s2 x f l
   ·have o:(c.jy.set s none).getD s' none=some v:=k;rw[Zc0]at o;split at o
    ·cases o
    ·exact h.ng s' v o
  ·rename_i A;refine⟨t,fun s' x a=>?_,h.un,h.ng,h.cl,h.l16⟩;obtain⟨q1,q2⟩:=h.sl s' x a;refine⟨q1,?_⟩;show 0<(decL n c).left.getD x 0;by_cases e:x=n
   ·subst e;omega
   ·rw[ZGr,if_neg e];exact q2
 | none=>
  have u:=ZIA h.l16 r
  have hd : Dn jx M (dl1 δ n) W (decL n c) := ⟨h.dec_lf n, fun s x a => by
    obtain⟨q1,q2⟩:=h.sl s x a;refine⟨q1,?_⟩;rw[ZGr,if_neg (fun e=>u s (by rw[<-e];exact a))];exact q2,h.un,h.ng,h.cl,h.l16⟩
  obtain⟨V,z,p,g⟩:=E _ _ _ _ hd;have B:=F (decL n c) h.l16;rw[ZdR r];refine⟨V,z,p,?_⟩;split
  ·exact g
  ·rename_i A;split
   ·rename_i s I;obtain⟨f1,f2⟩:=ZdZ I;have w:∀s',(K n (decL n c)).jy.getD s' none≠some (n:Int):=fun s' e=>u s' ((B.sl s' n (Yac _)).1 e);generalize K n (decL n c)=e at *
    have C : ∀ s', (Zc 13 s (ZZ n s e)).jy.getD s' none = if s' = s then some (n : Int) else e.jy.getD s' none := fun s' => by
      show(e.jy.set s (some (n:Int))).getD s' none=_;rw[Zc0];by_cases es:s'=s
      · rw[if_pos ⟨es,by rw[g.l16];exact f1⟩,if_pos es]
      · rw[if_neg (fun q=>es q.1),if_neg es]
    refine⟨g.lf,fun s' x a=>?_,fun s1 s2 x a j=>?_,fun s' v k=>?_,g.cl,by show(e.jy.set s _).length=16;rw[Yat];exact g.l16⟩
    ·rw[C]at a;split at a
     ·injection a with a;have:x=n:=by omega
      rw[this];exact⟨p n (Yap.2 rfl),by show 0<e.left.getD n 0;have:¬e.left.getD n 0=0:=fun q=>A (Or.inl q);omega⟩
     ·exact g.sl s' x a
    ·rw[C]at a j;split at a
     ·split at j
      ·omega
      ·injection a with a;have:x=n:=by omega
       rw[this]at j;exact absurd j (w s2)
     ·split at j
      ·injection j with j;have:x=n:=by omega
       rw[this]at a;exact absurd a (w s1)
      ·exact g.un s1 s2 x a j
    ·rw[C]at k;split at k
     ·injection k with k;intro h;omega
     ·exact g.ng s' v k
   ·exact g
theorem ZHr : ∀ (ts : List Nat) (M : Nat -> Prop) (δ : Nat -> Nat) (W : Nat -> Bool) (c : Cq), (∀ t ∈ ts, WD jx K t /\ ∀ c, c.jy.length = 16 -> Low t c (K t c)) -> Dn jx M δ W c -> Dp jx M (fun x => δ x + ts.count x) W ts (ts.foldl (fun c t => putQ jx K t c) c)
  | [],M,δ,W,c,_,h=>⟨W,fun _ h=>h,fun i a=>(by cases a),by simpa using h⟩
  | t :: ts, M, δ, W, c, f, h => by
    obtain⟨g,j⟩:=f t (Yay ..);obtain⟨V,p1,p2,p3⟩:=ZHg g j h;obtain⟨V2,q1,q2,q3⟩:=ZHr ts M (dl1 δ t) V _ (fun z k=>f z (Yam _ k)) p3;rw[Ybp];refine⟨V2,fun x l=>q1 x (p1 x l),fun i a=>?_,?_⟩
    · rcases Yau.1 a with e|e
      · rw[e];exact q1 t (p2 t (Yap.2 rfl))
      · exact q2 i e
    · have e : (fun x => dl1 δ t x + ts.count x) = fun x => δ x + (t :: ts).count x := funext fun x => by
        unfold dl1;rw[Yfy];by_cases e:x=t
        · subst e;simp;omega
        · have:¬t=x:=fun h=>e h.symm
          simp[e,this]
      rw[e]at q3;exact q3
theorem ZHo (o : n < jx.length)  (j : Zg (jx.getD n nq0) = ts) (h : Dp jx M (fun x => δ x + ts.count x) W ts c) : Dp jx M δ W [n] c := by
  obtain⟨V,p,r,a⟩:=h;refine⟨fun y=>V y || decide (y=n),fun x g=>by simp[p x g],fun i u=>by rw[Yap.1 u];simp,⟨fun x=>?_,fun s x g=>?_,a.un,a.ng,fun y k t f=>?_,a.l16⟩⟩
  · rcases a.lf x with q|q
    · exact Or.inl q
    · right
      cases l:V n with
      | true=>
        rw [ZGZ (jx := jx) (V := V) jx.length (fun y _ => ⟨rfl, by
          by_cases e:y=n
          · subst e;simp[l]
          · simp[e]⟩)]
        omega
      | false=>
        have:=ZHN (jx:=jx) (x:=x) l jx.length o;rw[j]at this;omega
  · obtain⟨q1,q2⟩:=a.sl s x g
    exact⟨by rw[q1];rfl,q2⟩
  · simp only[Yct,decide_eq_true_eq]at k ⊢
    rcases k with q|q
    · exact Or.inl (a.cl y q t f)
    · rw[q,j]at f;exact Or.inl (r t f)
theorem ZHm(w:NOk jx)(F:∀z,z<=y->z<jx.length->WD jx K z)(G:∀z,z<=y->∀c,c.jy.length=16->Low z c (K z c)):∀(k:Nat) (W:Nat->Bool) (c:Cq),Dn jx M δ W c->Dp jx M δ W [] (ZG jx K y k c)
 | 0,W,c,h=>⟨W,fun _ h=>h,fun i C=>(by cases C),h⟩
 | k + 1, W, c, h => by
   have stop:Dp jx M δ W [] c:=⟨W,fun _ h=>h,fun i C=>(by cases C),h⟩
   cases j:ZbY jx y c with
   | none=>rw[Zff (Or.inl j)];exact stop
   | some x=>
     cases D:ZbQ c.jy with
     | none=>rw[Zff (Or.inr D)];exact stop
     | some s=>
       rw[ZiP j D];obtain⟨f1,f2⟩:=ZdZ D;obtain⟨A,H⟩:=Zg9 w j;obtain⟨I,_⟩:=Zsj j
       have t:0<c.left.getD x 0:=by
         unfold ZbY at j;have:=Zqw _ j;unfold ZcX at this;simp only[Yas,decide_eq_true_eq]at this;omega
       have u : ∀ s', (c.jy.set s (some (-1))).getD s' none = if s' = s then some (-1) else c.jy.getD s' none := fun s' => by
         rw[Zc0];by_cases es:s'=s
         · rw[if_pos ⟨es,by rw[h.l16];exact f1⟩,if_pos es]
         · rw[if_neg (fun q=>es q.1),if_neg es]
       have J : Dn jx (fun s' => M s' ∨ s' = s) δ W { c with jy := c.jy.set s (some (-1)) } := by
         refine⟨h.lf,fun s' z f=>?_,fun s1 s2 z f a=>?_,fun s' v g l=>?_,h.cl,by show(c.jy.set s _).length=16;rw[Yat];exact h.l16⟩
         · have a:(c.jy.set s (some (-1))).getD s' none=some (z:Int):=f
           rw[u]at a;split at a
           · injection a with a;omega
           · exact h.sl s' z a
         · have q1:(c.jy.set s (some (-1))).getD s1 none=some (z:Int):=f
           have q2:(c.jy.set s (some (-1))).getD s2 none=some (z:Int):=a;rw[u]at q1 q2;split at q1
           · injection q1 with q1;omega
           · split at q2
             · injection q2 with q2;omega
             · exact h.un s1 s2 z q1 q2
         · have o:(c.jy.set s (some (-1))).getD s' none=some v:=g
           rw[u]at o;split at o
           · rename_i es;exact Or.inr es
           · exact Or.inl (h.ng s' v o l)
       have p:=G x A { c with jy:=c.jy.set s (some (-1)) } J.l16;obtain⟨V,p1,p2,p3⟩:=F x A H _ _ _ _ J;have L:0<(K x { c with jy:=c.jy.set s (some (-1)) }).left.getD x 0:=by rw[p.lf x (Yac _)];exact t
       have B : ∀ s', (K x { c with jy := c.jy.set s (some (-1)) }).jy.getD s' none ≠ some (x : Int) := fun s' e => by
         have q:(c.jy.set s (some (-1))).getD s' none=some (x:Int):=(p.sl s' x (Yac _)).1 e;rw[u]at q;split at q
         · injection q with q;omega
         · have N:s'<16:=by
             rcases Yav s' 16 with E|E
             · exact E
             · rw[Yaa,Ya9 (by rw[h.l16];exact E)]at q;cases q
           exact I ⟨s',N,q⟩
       generalize K x { c with jy:=c.jy.set s (some (-1)) }=e at *
       have r : ∀ s', (ZZ x s e).jy.getD s' none = if s' = s then some (x : Int) else e.jy.getD s' none := fun s' => by
         show(e.jy.set s (some (x:Int))).getD s' none=_;rw[Zc0];by_cases es:s'=s
         · rw[if_pos ⟨es,by rw[p3.l16];exact f1⟩,if_pos es]
         · rw[if_neg (fun q=>es q.1),if_neg es]
       have O:Dn jx M δ V (ZZ x s e):=by
         refine⟨p3.lf,fun s' z f=>?_,fun s1 s2 z f a=>?_,fun s' v g l=>?_,p3.cl,by show(e.jy.set s _).length=16;rw[Yat];exact p3.l16⟩
         · rw[r]at f
           split at f
           · injection f with f
             have:z=x:=by omega
             rw[this];exact⟨p2 x (Yap.2 rfl),L⟩
           · exact p3.sl s' z f
         · rw[r]at f a
           split at f
           · split at a
             · omega
             · injection f with f
               have:z=x:=by omega
               rw[this]at a;exact absurd a (B s2)
           · split at a
             · injection a with a
               have:z=x:=by omega
               rw[this]at f;exact absurd f (B s1)
             · exact p3.un s1 s2 z f a
         · rw[r]at g
           split at g
           · injection g with g;omega
           · rename_i es
             rcases p3.ng s' v g l with q|q
             · exact q
             · exact absurd q es
       obtain⟨V2,q1,q2,q3⟩:=ZHm w F G k V _ O;exact⟨V2,fun z f=>q1 z (p1 z f),q2,q3⟩
theorem ZH1 {a b : Nat} (o : NOk jx) (r : WD jx K a) (p : ∀ z, z <= b -> z < jx.length -> WD jx K z) (l : ∀ z c, c.jy.length = 16 -> Low z c (K z c)) (t : b < jx.length) (h : Dn jx M δ W c) : Dp jx M (fun x => δ x + [a, b].count x) W [a, b] (Zbo jx K a b c) := by
  obtain⟨V1,p1,_,p3⟩:=ZHm o p (fun z _=>l z) (b+2) W c h;obtain⟨V2,q1,q2,q3⟩:=ZHg r (l a) p3;unfold Zbo;simp only;generalize putQ jx K a (ZG jx K b (b+2) c)=c2 at *
  obtain⟨V3,r1,r2,r3⟩:=ZHg (p b (Yac _) t) (l b) (q3.same (d:=Zc 11 0 (Zc 10 0 c2)) rfl rfl);generalize putQ jx K b (Zc 11 0 (Zc 10 0 c2))=d at *
  have g : ∀ s v, (Zce d.jy c2.jy).getD s none = some v -> d.jy.getD s none = some v := fun s v f => by
    rcases Yav s 16 with j|j
    · rw[Zkg j]at f
      split at f
      · exact f
      · cases f
    · rw[Yaa,Ya9 (by simp[Zce];exact j)]at f;cases f
  have e : dl1 (dl1 δ a) b = fun x => δ x + [a, b].count x := funext fun x => by
    unfold dl1;rw[Yfy,Yfy,List.count_nil];by_cases e1:x=a
    · by_cases e2:x=b
      · subst e1;subst e2;simp
      · subst e1;have:¬b=x:=fun h=>e2 h.symm;simp[e2,this]
    · by_cases e2:x=b
      · subst e2;have:¬a=x:=fun h=>e1 h.symm;simp[e1,this]
      · have j:¬a=x:=fun h=>e1 h.symm
        have u:¬b=x:=fun h=>e2 h.symm;simp[e1,e2,j,u]
  rw[e]at r3;refine⟨V3,fun x k=>r1 x (q1 x (p1 x k)),fun i q=>?_,⟨r3.lf,fun s x k=>r3.sl s x (g s _ k),fun s1 s2 x k w=>r3.un s1 s2 x (g _ _ k) (g _ _ w),fun s v f=>r3.ng s v (g s v f),r3.cl,by simp[Zce]⟩⟩;rw[Yau,Yap]at q;rcases q with e|e
  · rw[e];exact r1 a (q2 a (Yap.2 rfl))
  · rw[e];exact r2 b (Yap.2 rfl)
theorem ZHU(g:NOk jx):∀(f n:Nat),n<f->n<jx.length->WD jx (Zr jx f) n
 | 0,_,h,_=>absurd h (Ya1 _)
 | f + 1, n, A, k => by
   intro M δ W c h;have i:=Zcf g n;have IH:∀z,z<n->WD jx (Zr jx f) z:=fun z u=>ZHU g f z Om Om;have q:∀z c,c.jy.length=16->Low z c (Zr jx f z c):=fun z c h=>ZnB g f z c h;by_cases j:(jx.getD n nq0).op=10
   · have r:jx.getD n nq0=jx[n]:=by simp[k]
     obtain⟨a,b,o,p⟩:=(g n k).or (by rw[<-r];exact j);rw[<-r]at o p;have l:Zg (jx.getD n nq0)=[a,b]:=by unfold Zg;rw[o,p]
     rw[l]at i;have s:a<n:=i a (by simp);have w:b<n:=i b (by simp);rw[Zky j o p];exact ZHo k l (ZH1 g (IH a s) (fun z u _=>IH z Om) q Om h)
   · rw[Zgu j]
     obtain⟨V,p1,p2,p3⟩:=ZHo k rfl (ZHr (K:=Zr jx f) (Zg (jx.getD n nq0)) M δ W c (fun t v=>⟨IH t (i t v),q t⟩) h);refine⟨V,p1,p2,p3.same ?_ ?_⟩
     · unfold ZbD;split <;> rfl
     · unfold ZbD;split <;> rfl
theorem ZJl (j : NOk jx) {f r : Nat} (o : r < f) (p : r < jx.length) (k : c.jy = List.replicate 16 none) (t : ∀ x, c.left.getD x 0 <= rem jx (fun _ => false) x jx.length) (l : ∀ V : Nat -> Prop, Cl jx V -> V r -> ∀ y, Zg (jx.getD y nq0) ≠ [] -> V y) : ∀ s, (Zr jx f r c).jy.getD s none = none := by
  have a : ∀ s, c.jy.getD s none = none := fun s => by
    rw[k,Yaa,Ybs];split <;> rfl
  have h:Dn jx (fun _=>False) (fun _=>0) (fun _=>false) c:=⟨fun x=>Or.inr (by rw[Yf5];exact t x),fun s x g=>(by rw[a]at g;cases g),fun s s' x g=>(by rw[a]at g;cases g),fun s v i=>(by rw[a]at i;cases i),fun y u=>(by cases u),by rw[k];simp⟩
  obtain⟨V,_,p2,p3⟩:=ZHU j f r o p _ _ _ _ h;generalize Zr jx f r c=d at *
  have w : ∀ x, d.left.getD x 0 = 0 := fun x => by
    rcases p3.lf x with q|q
    · exact q
    · have : rem jx V x jx.length = 0 := ZHi jx.length (fun n _ => by
        by_cases e:Zg (jx.getD n nq0)=[]
        · right;rw[e];simp
        · exact Or.inl (l (fun y=>V y=true) p3.cl (p2 r (Yap.2 rfl)) n e))
      omega
  intro s;cases i:d.jy.getD s none with
  | none=>rfl
  | some v=>
    exfalso
    by_cases z:v<0
    · exact p3.ng s v i z
    · have:=(p3.sl s v.toNat (by rw[i,Int.toNat_of_nonneg Om])).2
      rw[w]at this;omega
end
end
section
section
variable {jx nodes':List Nq} {K K':Nat->Cq->Cq} {c d:Cq} {n m x y N:Nat} {z:Nq}
structure Ag (N:Nat) (c d:Cq):Prop where
 sl:d.jy=c.jy
 co:d.jq=c.jq
 is:d.jz=c.jz
 lf:∀i,i<N->d.left.getD i 0=c.left.getD i 0
theorem Ag.dec(h:Ag N c d)(n:Nat)(a:n<N):Ag N (decL n c) (decL n d):=⟨h.sl,h.co,h.is,fun i e=>by rw[ZGr,ZGr,h.lf n a,h.lf i e]⟩
theorem Ag.emit(h:Ag N c d)(op arg:Nat):Ag N (Zc op arg c) (Zc op arg d):=⟨h.sl,h.co,by show d.jz++_=c.jz++_;rw[h.is],h.lf⟩
theorem Ag.keep(h:Ag N c d)(n s:Nat):Ag N (ZZ n s c) (ZZ n s d):=⟨by show d.jy.set _ _=c.jy.set _ _;rw[h.sl],h.co,by show d.jz++_=c.jz++_;rw[h.is],h.lf⟩
theorem ZHW(e:NOk jx)(h:jx <+: nodes')(f:n<jx.length):ZeJ nodes' n=ZeJ jx n:=by
 unfold ZeJ;simp only;rw[Zg3 h f];split
 ·rename_i j;have g:jx.getD n nq0=jx[n]:=by simp[f]
  obtain⟨a,i⟩:=(e n f).neg (by rw[<-g];exact j);have k:=Zcf e n a (by rw[g];unfold Zg;rw[i];cases jx[n].sn <;> simp);rw[g,i];show decide ((nodes'.getD a nq0).op≠0/\(nodes'.getD a nq0).op≠1)=decide ((jx.getD a nq0).op≠0/\(jx.getD a nq0).op≠1);rw[Zg3 h Om]
 ·rfl
theorem ZHf(g:NOk jx)(i:jx <+: nodes')(j:n<jx.length)(a:n<N)(k:∀c d,Ag N c d->Ag N (K n c) (K' n d))(h:Ag N c d):Ag N (putQ jx K n c) (putQ nodes' K' n d):=by
 have hd:=h.dec n a;cases e:ZK n c.jy with
 | some s=>
  rw[Zd8 e,Zd8 (c:=d) (by rw[h.sl];exact e),hd.lf n a];have f:=hd.emit 13 s;split
  ·exact⟨by show d.jy.set _ _=c.jy.set _ _;rw[h.sl],f.co,f.is,f.lf⟩
  ·exact f
 | none=>
  rw[ZdR e,ZdR (c:=d) (by rw[h.sl];exact e),ZHW g i j];have q:=k _ _ hd;rw[q.lf n a,q.sl];split
  ·exact q
  ·split
   ·exact(q.keep _ _).emit _ _
   ·exact q
theorem ZHn(g:NOk jx)(h:jx <+: nodes')(sl:List (Option Int)):∀(f n:Nat) (k k':List Nat),n<jx.length->k.length=jx.length->k'.length=nodes'.length->(∀i,k'.getD i 0=k.getD i 0)->(cntQ jx sl f n k).length=jx.length/\(cntQ nodes' sl f n k').length=nodes'.length/\∀i,(cntQ nodes' sl f n k').getD i 0=(cntQ jx sl f n k).getD i 0
 | 0,n,k,k',_,j,l,a=>⟨j,l,a⟩
 | f + 1, n, k, k', p, j, l, a => by
   have o : ∀ i, (bump k' n).getD i 0 = (bump k n).getD i 0 := fun i => by
     have:=h.length_le;rw[Zk2 k _ _ Om,Zk2 k' _ _ Om,a,a]
   have b1:(bump k n).length=jx.length:=(ZfT _ _).trans j;have b2:(bump k' n).length=nodes'.length:=(ZfT _ _).trans l;unfold cntQ;simp only;rw[o,Zg3 h p];split
   · exact⟨b1,b2,o⟩
   · have key : ∀ (ts : List Nat), (∀ t ∈ ts, t < jx.length) -> ∀ k k' : List Nat, k.length = jx.length -> k'.length = nodes'.length -> (∀ i, k'.getD i 0 = k.getD i 0) -> (ts.foldl (fun k t => cntQ jx sl f t k) k).length = jx.length /\ (ts.foldl (fun k t => cntQ nodes' sl f t k) k').length = nodes'.length /\ ∀ i, (ts.foldl (fun k t => cntQ nodes' sl f t k) k').getD i 0 = (ts.foldl (fun k t => cntQ jx sl f t k) k).getD i 0 := by
       intro ts
       induction ts with
       | nil=>intro _ k k' q1 q2 q3;exact⟨q1,q2,q3⟩
       | cons t ts ih=>
         intro e k k' q1 q2 q3;obtain⟨r1,r2,r3⟩:=ZHn g h sl f t k k' (e t (Yay ..)) q1 q2 q3;rw[Ybp,Ybp];exact ih (fun u q=>e u (Yam _ q)) _ _ r1 r2 r3
     exact key _ (fun t e=>by have:=Zcf g n t e;omega) _ _ b1 b2 o
theorem ZHA{p q:Nat->Bool}(h:∀i,q i=p i)(a:Nat)(e:∀i,a<=i->p i=false):∀j,ZbT q (a+j)=ZbT p a
 | 0=>by rw[show q=p from funext h];rfl
 | j + 1 => by
   show(if q (a+j)=true then _ else ZbT q (a+j))=_;rw[h,e _ Om,if_neg Dc];exact ZHA h a e j
theorem ZIy(a:NOk jx)(f:jx <+: nodes')(o:y<jx.length)(r:y<N)(h:Ag N c d):ZbY nodes' y d=ZbY jx y c:=by
 obtain ⟨_, _, p⟩ := ZHn a f c.jy (y + 1) y (List.replicate jx.length 0) (List.replicate nodes'.length 0) o (by simp) (by simp) (fun i => by
   rw[Yaa,Yaa,Ybs,Ybs];split <;> split <;> rfl)
 have e : ∀ i, y < i -> (cntQ jx c.jy (y + 1) y (List.replicate jx.length 0)).getD i 0 = 0 := fun i g => by
   rw[Zog a _ _ _ _ _ g,Yaa,Ybs];split <;> rfl
 unfold ZbY;rw[h.sl];generalize cntQ jx c.jy (y+1) y (List.replicate jx.length 0)=k at *
 generalize cntQ nodes' c.jy (y+1) y (List.replicate nodes'.length 0)=k' at *
 obtain⟨j,q⟩:∃j,nodes'.length=jx.length+j:=⟨nodes'.length - jx.length,by have:=f.length_le;omega⟩
 rw[q];refine ZHA (fun i=>?_) _ (fun i g=>?_) j
 ·unfold ZcX;rw[p,h.sl];rcases Yav y i with l|l
  ·rw[e i l];rfl
  ·rw[h.lf i Om,ZHW a f Om]
 ·unfold ZcX;rw[e i Om];rfl
theorem ZHl(a:NOk jx)(j:jx <+: nodes')(l:y<jx.length)(g:y<N)(o:∀z,z<=y->∀c d,Ag N c d->Ag N (K z c) (K' z d)):∀(k:Nat) (c d:Cq),Ag N c d->Ag N (ZG jx K y k c) (ZG nodes' K' y k d)
 | 0,_,_,h=>h
 | k + 1, c, d, h => by
   have i:=ZIy a j l g h;cases e:ZbY jx y c with
   | none=>rw[Zff (Or.inl e),Zff (Or.inl (i.trans e))];exact h
   | some x=>
     cases f:ZbQ c.jy with
     | none=>rw[Zff (Or.inr f),Zff (Or.inr (by rw[h.sl];exact f))];exact h
     | some s=>
       rw[ZiP e f,ZiP (i.trans e) (by rw[h.sl];exact f)];exact ZHl a j l g o k _ _ ((o x (Zg9 a e).1 { c with jy:=c.jy.set s (some (-1)) } { d with jy:=d.jy.set s (some (-1)) } ⟨by show d.jy.set _ _=c.jy.set _ _;rw[h.sl],h.co,h.is,h.lf⟩).keep x s)
theorem ZHT(g:NOk jx)(k:jx <+: nodes'):∀(f f' n:Nat) (c d:Cq),n<f->n<f'->n<jx.length->n<=N->Ag N c d->Ag N (Zr jx f n c) (Zr nodes' f' n d)
 | 0,_,_,_,_,h,_,_,_,_=>absurd h (Ya1 _)
 | _+1,0,_,_,_,_,h,_,_,_=>absurd h (Ya1 _)
 | f + 1, f' + 1, n, c, d, F, G, r, E, h => by
   have j:=Zcf g n;have IH:∀z,z<n->∀c d,Ag N c d->Ag N (Zr jx f z c) (Zr nodes' f' z d):=fun z C c d h=>ZHT g k f f' z c d Om Om Om Om h;have e:=Zg3 k r;by_cases i:(jx.getD n nq0).op=10
   · have s:jx.getD n nq0=jx[n]:=by simp[r]
     obtain⟨a,b,l,o⟩:=(g n r).or (by rw[<-s];exact i);rw[<-s]at l o;have v:Zg (jx.getD n nq0)=[a,b]:=by unfold Zg;rw[l,o]
     rw[v]at j;have w:a<n:=j a (by simp);have A:b<n:=j b (by simp);rw[Zky i l o,Zky (jx:=nodes') (by rw[e];exact i) (by rw[e];exact l) (by rw[e];exact o)];have p:=ZHf g k Om Om (IH a w) (ZHl (y:=b) g k Om Om (fun z C=>IH z Om) (b+2) c d h);unfold Zbo;simp only;generalize putQ jx (Zr jx f) a (ZG jx (Zr jx f) b (b+2) c)=c2 at *
     generalize putQ nodes' (Zr nodes' f') a (ZG nodes' (Zr nodes' f') b (b+2) d)=d2 at *
     have q:=ZHf g k Om Om (IH b A) ((p.emit 10 0).emit 11 0);exact⟨by show Zce _ _=Zce _ _;rw[q.sl,p.sl],q.co,by show List.set _ _ _=List.set _ _ _;rw[q.is,p.is],q.lf⟩
   · rw[Zgu i,Zgu (jx:=nodes') (by rw[e];exact i),e]
     have key : ∀ (ts : List Nat), (∀ t ∈ ts, t < n) -> ∀ c d, Ag N c d -> Ag N (ts.foldl (fun c t => putQ jx (Zr jx f) t c) c) (ts.foldl (fun c t => putQ nodes' (Zr nodes' f') t c) d) := by
       intro ts
       induction ts with
       | nil=>intro _ c d h;exact h
       | cons t ts ih=>
         intro B c d h;have:=B t (Yay ..);rw[Ybp,Ybp];exact ih (fun u D=>B u (Yam _ D)) _ _ (ZHf g k Om Om (IH t this) h)
     have q:=key _ j c d h;generalize(Zg (jx.getD n nq0)).foldl (fun c t=>putQ jx (Zr jx f) t c) c=c2 at *
     generalize(Zg (jx.getD n nq0)).foldl (fun c t=>putQ nodes' (Zr nodes' f') t c) d=d2 at *
     unfold ZbD;split
     · rw[q.co]
       exact⟨q.sl,rfl,by show _++_=_++_;rw[q.is],q.lf⟩
     · exact q.emit _ _
theorem ZH5(h:∀s,l.getD s none=none):∃s,ZbQ l=some s:=by
 cases a:ZbQ l with
 | some s=>exact⟨s,rfl⟩
 | none=>
  unfold ZbQ at a;rw[Yc2]at a;have:=a 0 Dc;rw[h 0]at this;simp at this
theorem ZHV{t:Nat}(h:(jx.getD t nq0).op<=1):ZeJ jx t=false:=by
 unfold ZeJ;simp only;rw[if_neg Om,decide_eq_false Om]
theorem ZIB(h:NOk jx)(i:Lf jx){r f:Nat}(t:r<jx.length)(w:r<f)(g:ZeJ jx r=false):∃k,k<=2/\∀c:Cq,(∀s,c.jy.getD s none=none)->(Zr jx f r c).jy=c.jy/\(Zr jx f r c).jz.length=c.jz.length+k:=by
 have leaf : ∀ (f n : Nat) (c : Cq), n < f -> (jx.getD n nq0).op <= 1 -> (Zr jx f n c).jy = c.jy /\ (Zr jx f n c).jz.length = c.jz.length + 1 := fun f n c E A => by
   obtain⟨f,rfl⟩:∃k,f=k+1:=⟨f - 1,by omega⟩
   rw[Zgu Om,(i n).1 A];unfold ZbD;split <;> exact⟨rfl,by simp[Zc]⟩
 by_cases B:(jx.getD r nq0).op<=1
 ·exact⟨1,by decide,fun c _=>leaf f r c w B⟩
 ·have o:(jx.getD r nq0).op=4:=by
   by_cases e:(jx.getD r nq0).op=4
   ·exact e
   ·unfold ZeJ at g;simp only at g;rw[if_neg e,decide_eq_true Om]at g;cases g
  have u:jx.getD r nq0=jx[r]:=by simp[t]
  obtain⟨a,p⟩:=(h r t).neg (by rw[<-u];exact o);have v:=(i r).2 o;rw[<-u]at p;have j:Zg (jx.getD r nq0)=[a]:=by unfold Zg;rw[p,v]
  have l:(jx.getD a nq0).op<=1:=by
   unfold ZeJ at g;simp only at g;rw[if_pos o,p]at g;have:=of_decide_eq_false g;show(jx.getD ((some a).getD 0) nq0).op<=1;omega
  have D:=Zcf h r a (by rw[j];simp);obtain⟨f,rfl⟩:∃k,f=k+1:=⟨f - 1,by omega⟩
  refine⟨2,Yac _,fun c C=>?_⟩;rw[Zgu Om,j,Ybp,List.foldl_nil,ZdR (ZHj C a),if_pos (Or.inr (ZHV l))];have q:=leaf f a (decL a c) Om l;generalize Zr jx f a (decL a c)=e at *
  unfold ZbD;rw[if_neg Om];exact⟨q.1,by have:e.jz.length=c.jz.length+1:=q.2;simp[Zc];omega⟩
theorem ZIz{s:Nat}(a:s<16)(h:l.getD s none=some (n:Int)):∃s',ZK n l=some s':=by
 cases e:ZK n l with
 | some s=>exact⟨s,rfl⟩
 | none=>exact absurd h (ZCn e a)
theorem ZJi{t:Tr}(Q:wfT t)(S:isNil t=false)(ht:wT t<=100000){fl:Nat}(hs:fl / 2 % 2=1):(Zv (Zb (.node 0 0 (nd0 4 0) t t) (g0 fl)).2 (Zb (.node 0 0 (nd0 4 0) t t) (g0 fl)).1).jz.length<=(Zv (Zb t (g0 fl)).2 (Zb t (g0 fl)).1).jz.length+4:=by
 have F:(g0 fl).share=true:=by unfold g0;simp[hs]
 have B:=ZjU t (g0 fl) Q S (fun i E=>absurd E (Ya1 _)) (by show 0+wT t<=_;omega) (by show 0+wT t<=_;omega);have A:=ZHb t (g0 fl) (Zb t (g0 fl)).2 Q S F (Px.refl _);have R:=ZHc t (g0 fl) Q S (fun n=>by show Frm (([]:List Nq).getD n nq0);exact ZGw);have L:=ZHa t (g0 fl) (fun n=>by show Frm (([]:List Nq).getD n nq0);exact ZGw);have U:=ZJk t (g0 fl) (fun x=>by show([]:List Nat).getD x 0<=_;simp);have UL:=ZJj t (g0 fl) rfl
 have e:Zb (.node 0 0 (nd0 4 0) t t) (g0 fl)=Zbs 0 (Zb t (g0 fl)).1 (Zb t (g0 fl)).1 (Zb t (g0 fl)).2:=by
  show Zbs 0 (Zb t (g0 fl)).1 (Zb t (Zb t (g0 fl)).2).1 (Zb t (Zb t (g0 fl)).2).2=_;rw[A]
 have b1:=(Zfw t (g0 fl)).sh.trans F;have a:=B.ok;have o:=B.lt;have Y:∀V:Nat->Prop,Cl (Zb t (g0 fl)).2.jx V->V (Zb t (g0 fl)).1->∀y,Zg ((Zb t (g0 fl)).2.jx.getD y nq0)≠[]->V y:=fun V j T y W=>R V j (fun i E=>by rw[Yap.1 E];exact T) y (Yag _) W;rw[e];clear e A R B;generalize(Zb t (g0 fl)).2=g at *
 generalize(Zb t (g0 fl)).1=r at *
 unfold Zbs;split
 ·rename_i u v hu hv
  have j : ∀ w : Int, (Zv (Zdw w g).2 (Zdw w g).1).jz.length = 1 := fun w => by
    have hz:=(Zhr ⟨0,w,none,none⟩ g).1;show(Zv (addQ ⟨0,w,none,none⟩ g).2 (addQ ⟨0,w,none,none⟩ g).1).jz.length=1;generalize(addQ ⟨0,w,none,none⟩ g).2=g' at *
    generalize(addQ ⟨0,w,none,none⟩ g).1=i at *
    unfold Zv;rw[ZdR (ZCo i),if_pos (Or.inr (ZHV (by rw[hz];exact Yag 1))),Zgu (by rw[hz];show(0:Nat)≠10;decide),hz];rfl
  rw[j];omega
 ·clear hs F ht Q S
  -- who takes something is not above the root
  have G:∀y,Zg (g.jx.getD y nq0)≠[]->y<=r:=Y (fun y=>y<=r) (fun y H u hu=>by have:=Zcf a y u hu;show u<=r;have:y<=r:=H;omega) (Yac r)
  have a1:idxN ⟨3,((0:Nat):Int),some r,some r⟩ g.jx=none:=by
   cases E:idxN ⟨3,((0:Nat):Int),some r,some r⟩ g.jx with
   | none=>rfl
   | some i=>
    have j:=ZlK E;have T:=G i (by rw[j];simp[Zg]);have W:=Zcf a i r (by rw[j];simp[Zg]);omega
  have a4:g.uses.getD r 0=0:=by
   have j:=U r
   rw [ZHi g.jx.length (fun y _ => Or.inr (fun H => by
     have T:=G y (fun e=>by rw[e]at H;cases H);have W:=Zcf a y r H;omega))]at j
   omega
  rw[Zgz (fun _=>a1)];simp only;have a5:NOne g.jx.length ⟨3,((0:Nat):Int),some r,some r⟩:=ZjR Dc o o Dc Dc;have p:=a.app a5;have hp:g.jx <+: g.jx++[⟨3,((0:Nat):Int),some r,some r⟩]:=Ydd _ _;have Z:(g.jx++[(⟨3,((0:Nat):Int),some r,some r⟩:Nq)]).getD g.jx.length nq0=⟨3,((0:Nat):Int),some r,some r⟩:=by simp
  have a2 : Lf (g.jx ++ [⟨3, ((0 : Nat) : Int), some r, some r⟩]) := fun n => by
    rw[Zso];split
    · exact L n
    · split
      · exact ZG5 Dc Dc
      · exact ZGw
  have a6:r<(g.jx++[(⟨3,((0:Nat):Int),some r,some r⟩:Nq)]).length:=by simp;omega
  -- how often what is taken
  have I:r<(g.uses++[0]).length:=by rw[Yab,UL];simp;omega
  have J : ∀ i, ((Zg ⟨3, ((0 : Nat) : Int), some r, some r⟩).foldl bump (g.uses ++ [0])).getD i 0 = if i = r then 2 else g.uses.getD i 0 := fun i => by
    show(bump (bump (g.uses++[0]) r) r).getD i 0=_;rw[Zk2 _ _ _ (by rw[ZfT];exact I),Zk2 _ _ _ I,Zk2 _ _ _ I,if_pos rfl,ZGL,ZGL,a4];split
    · rfl
    · rfl
  generalize(Zg ⟨3,((0:Nat):Int),some r,some r⟩).foldl bump (g.uses++[0])=us at *
  generalize b2:g.jx++[(⟨3,((0:Nat):Int),some r,some r⟩:Nq)]=nn at *
  have b3:us.getD g.jx.length 0=0:=by
   rw[J,if_neg Om,Yaa,Ya9 (by rw[UL];exact Yac _)];rfl
  -- the query alone
  have b4:∀(us:List Nat) (ns:List Nq),(c0 { g with jx:=ns,uses:=us }).jy.length=16:=fun _ _=>by simp[c0]
  have lw0:=ZnB a (r+1) r (decL r (c0 g)) (by simp[c0,decL])
  have e0:Zv g r=Zr g.jx (r+1) r (decL r (c0 g)):=by
   unfold Zv;rw[ZdR (ZCo r),if_pos (Or.inl (by rw[lw0.lf r (Yac _),ZGr,if_pos rfl];show g.uses.getD r 0 - 1=0;omega))]
  have a0 := ZJl (c := decL r (c0 g)) a (Ybd r) o rfl (fun x => by
    have j:=U x;rw[ZGr];split
    · rename_i e;show g.uses.getD r 0 - 1<=_;omega
    · exact j) Y
  -- the first time
  have ag : Ag r (decL r (c0 g)) (decL r (decL g.jx.length (c0 { g with jx := nn, uses := us }))) := ⟨rfl, rfl, rfl, fun i E => by
    rw[ZGr,if_neg Om,ZGr,if_neg Om,ZGr,if_neg Om];show us.getD i 0=g.uses.getD i 0;rw[J,if_neg Om]⟩
  have q:=ZHT a hp (r+1) g.jx.length r _ _ (Ybd r) o o (Yac r) ag;have lw1:=ZnB p g.jx.length r (decL r (decL g.jx.length (c0 { g with jx:=nn,uses:=us }))) (by simp[c0,decL]);rw[e0];generalize Zr g.jx (r+1) r (decL r (c0 g))=E0 at *
  have M:∀s,(Zr nn g.jx.length r (decL r (decL g.jx.length (c0 { g with jx:=nn,uses:=us })))).jy.getD s none=none:=fun s=>by rw[q.sl];exact a0 s
  have a7:(Zr nn g.jx.length r (decL r (decL g.jx.length (c0 { g with jx:=nn,uses:=us })))).left.getD r 0=1:=by
   rw[lw1.lf r (Yac _),ZGr,if_pos rfl,ZGr,if_neg Om];show us.getD r 0 - 1=1;rw[J,if_pos rfl]
  have O:(Zr nn g.jx.length r (decL r (decL g.jx.length (c0 { g with jx:=nn,uses:=us })))).jy.length=16:=by rw[lw1.ls];simp[c0,decL]
  have b5:=congrArg List.length q.is;have a3:putQ nn (Zr nn g.jx.length) r (decL g.jx.length (c0 { g with jx:=nn,uses:=us }))=_:=ZdR (ZCo r)
  -- the whole
  have C:Zr nn (g.jx.length+1) g.jx.length (decL g.jx.length (c0 { g with jx:=nn,uses:=us }))=Zc 3 0 (putQ nn (Zr nn g.jx.length) r (putQ nn (Zr nn g.jx.length) r (decL g.jx.length (c0 { g with jx:=nn,uses:=us })))):=by
   rw[Zgu (by rw[Z];show(3:Nat)≠10;decide),Z];rfl
  have lwR:=ZnB p (g.jx.length+1) g.jx.length (decL g.jx.length (c0 { g with jx:=nn,uses:=us })) (by simp[c0,decL])
  have eR:Zv { g with jx:=nn,uses:=us } g.jx.length=Zr nn (g.jx.length+1) g.jx.length (decL g.jx.length (c0 { g with jx:=nn,uses:=us })):=by
   unfold Zv;rw[ZdR (ZCo _),if_pos (Or.inl (by rw[lwR.lf _ (Yac _),ZGr,if_pos rfl];show us.getD g.jx.length 0 - 1=0;omega))]
  show(Zv { g with jx:=nn,uses:=us } g.jx.length).jz.length<=_;rw[eR,C];clear eR C lwR lw1 lw0 q ag a0 e0;have a8:=ZIB p a2 a6 (f:=g.jx.length) o;have b6:(decL r (decL g.jx.length (c0 { g with jx:=nn,uses:=us }))).jz.length=0:=rfl
  have a9 : ∀ s, (decL r (decL g.jx.length (c0 { g with jx := nn, uses := us }))).jy.getD s none = none := fun s => by
    show(List.replicate 16 none).getD s none=none;rw[Yaa,Ybs];split <;> rfl
  rw[a3,a7];generalize decL r (decL g.jx.length (c0 { g with jx:=nn,uses:=us }))=C2 at *
  by_cases D:ZeJ nn r=false
  ·obtain⟨k,hk,P⟩:=a8 D;have j:=(P C2 a9).2;rw[if_pos (Or.inr D)];generalize Zr nn g.jx.length r C2=E1 at *
   have lw2:=ZnB p g.jx.length r (decL r E1) O;have T:=(P (decL r E1) M).2;rw[ZdR (ZHj M r),if_pos (Or.inr D)];generalize Zr nn g.jx.length r (decL r E1)=E2 at *
   have W:(decL r E1).jz.length=E1.jz.length:=rfl;have h4:(Zc 3 0 E2).jz.length=E2.jz.length+1:=by simp[Zc]
   omega
  ·rw[if_neg (fun h=>by rcases h with h|h;exact absurd h Dc;exact D h)];generalize Zr nn g.jx.length r C2=E1 at *
   obtain⟨s,hf⟩:=ZH5 M;rw[hf];simp only;have f1:=(ZdZ hf).1
   obtain⟨s',b0⟩:=ZIz (n:=r) (l:=(Zc 13 s (ZZ r s E1)).jy) f1 (by
    show(E1.jy.set s (some (r:Int))).getD s none=_;rw[Zc0,if_pos ⟨rfl,by rw[O];exact f1⟩])
   have h5:(Zc 13 s (ZZ r s E1)).jz.length=E1.jz.length+2:=by simp[Zc,ZZ]
   rw[Zd8 b0];generalize Zc 13 s (ZZ r s E1)=E3 at *
   have h6:∀X:Cq,(Zc 3 0 X).jz.length=X.jz.length+1:=fun X=>by simp[Zc]
   rw[h6];have h7:(Zc 13 s' (decL r E3)).jz.length=E3.jz.length+1:=by simp[Zc,decL]
   split
   ·show(Zc 13 s' (decL r E3)).jz.length+1<=_;omega
   ·omega
end

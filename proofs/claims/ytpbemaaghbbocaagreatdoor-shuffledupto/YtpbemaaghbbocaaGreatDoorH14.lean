/- Parts. -/
import Derived.Test.YtpbemaaghbbocaaGreatDoorH13
import Derived.Deep.AppendLies
set_option linter.all false
set_option maxRecDepth 100000
set_option maxHeartbeats 16000000
namespace Go.Proofs.YtpbemaaghbbocaaGreatDoor
open Go.RowKit LS Go.Proofs.Tryz
variable {inside l last:LB}{qs:List (BA×BA)}{P:List (LB)}{acc ps:List (LB×LB)}{os rs' zs zs':List (Value×El)}{rs:List (Value×Value×Value)}{es:List Entry}{bs c xa xs ya:List Value}{B a b n s vc vn:Nat}{va:Option Addr}{p:PV}{lv v vv:Value}{W w w' wr:World}
theorem ZMR{x:LB}{p:LB×LB}(h:Zd5 last x=some p):p.1.length<=8/\p.2.length<=8:=by
 unfold Zd5 at h;cases e:cut 61 x with
 | none=>rw[e]at h;cases h
 | some q=>
  obtain⟨n,v⟩:=q;rw[e]at h;simp only at h;split at h
  ·rename_i a;have:=Yax h;subst this;simp only[Yas]at a;have c:=a.1.1.1;have d:=a.1.1.2;unfold Zx at c;unfold Z3 at d;simp only[Yas,decide_eq_true_eq]at c d;exact⟨by have:=c.2.2;show n.length<=8;omega,by have:=d.2;show v.length<=8;omega⟩
  ·cases h
theorem ZMS{xs:List (LB)}(h:ZbS last acc xs=some ps)(d:∀p∈acc,p.1.length<=8/\p.2.length<=8):ps.length=acc.length+xs.length/\∀p∈ps,p.1.length<=8/\p.2.length<=8:=by
 induction xs generalizing last acc with
 | nil=>simp only[ZbS,Yci]at h;subst h;exact⟨rfl,d⟩
 | cons x xs ih=>
  unfold ZbS at h;cases c:Zd5 last x with
  | none=>rw[c]at h;cases h
  | some p=>
   rw[c]at h
   have := ih h (fun q a => by
     rcases Yar.1 a with a|a
     · exact d q a
     · simp at a;subst a;exact ZMR c)
   exact⟨by rw[this.1];simp;omega,this.2⟩
theorem ZK5(h:Zcc l=some ps)(a:l.length<=6000):ps.length<=6001/\∀p∈ps,p.1.length<=8/\p.2.length<=8:=by
 unfold Zcc at h;split at h
 ·have:=Yax h;subst this;simp
 ·have:=ZMS h (by simp);exact⟨by rw[this.1];have:=Zhd 44 l;simp;omega,this.2⟩
def ZJL(w:World)(lv:Value)(inside:LB):Prop:=∃qs:List (BA×BA),w.ownsRow 0 216 2 lv qs.length (ZJt qs)/\Zcc inside=some (qs.map bl2)
theorem ZJL.below(h:ZJL w lv inside)(a:BW w w'):ZJL w' lv inside:=by
 obtain⟨qs,c,d⟩:=h;exact⟨qs,Zn c a,d⟩
theorem ZJL.grown{e:TypeId}(h:ZJL w lv inside)(c:w.grownBy w' v.ownBlock)(d:w.ownsRow b e s v n xs)(f:216≠e):ZJL w' lv inside:=by
 obtain⟨qs,a,g⟩:=h;exact⟨qs,a.kept c (ZmC a d f),g⟩
def ZJA(w:World)(rs:List (Value×Value×Value))(es:List Entry):Prop:=rs.length=es.length/\∀j (h:j<es.length),∃(nm:BA) (la:Option Addr) (ln lc:Nat) (sa:Option Addr) (sc:Nat),
 rs[j]?=some (.string nm,.slice la ln lc,.slice sa (es[j]).count sc)/\bl nm=(es[j]).name/\Zx (es[j]).name=true/\(es[j]).inside.length<=6000/\ZJL w (.slice la ln lc) (es[j]).inside
theorem ZJA.nil(w:World):ZJA w [] []:=⟨rfl,fun j h=>by simp at h⟩
theorem ZJA.below(h:ZJA w rs es)(a:BW w w'):ZJA w' rs es:=
 ⟨h.1,fun j c=>by obtain⟨nm,la,ln,lc,sa,sc,e1,e2,e3,e4,e5⟩:=h.2 j c;exact⟨nm,la,ln,lc,sa,sc,e1,e2,e3,e4,e5.below a⟩⟩
theorem ZJA.grown{e:TypeId}(h:ZJA w rs es)(a:w.grownBy w' v.ownBlock)(c:w.ownsRow b e s v n xs)(d:216≠e):ZJA w' rs es:=
 ⟨h.1,fun j f=>by obtain⟨nm,la,ln,lc,sa,sc,e1,e2,e3,e4,e5⟩:=h.2 j f;exact⟨nm,la,ln,lc,sa,sc,e1,e2,e3,e4,e5.grown a c d⟩⟩
theorem ZJA.snoc(h:ZJA w rs es)(x:Entry)(nm:BA)(la:Option Addr)(ln lc:Nat)(sa:Option Addr)(sc:Nat)
  (d:bl nm=x.name) (e:Zx x.name=true) (f:x.inside.length<=6000) (g:ZJL w (.slice la ln lc) x.inside):ZJA w (rs++[(.string nm,.slice la ln lc,.slice sa x.count sc)]) (es++[x]):=by
 refine⟨by simp[h.1],fun j i=>?_⟩;by_cases a:j<es.length
 ·obtain⟨nm',la',ln',lc',sa',sc',e1,e2⟩:=h.2 j a;refine⟨nm',la',ln',lc',sa',sc',?_⟩;rw[Ybr (by rw[h.1];exact a),List.getElem_append_left a];exact⟨e1,e2⟩
 ·have c:j=es.length:=by simp at i;omega
  subst c;refine⟨nm,la,ln,lc,sa,sc,?_⟩;rw[Yb3 (by rw[h.1];exact Yac _),h.1];simp[d,e,f,g]
def ZJv(w:World)(rs:List (Value×Value×Value))(es:List Entry)(P:List (LB)):Prop:=∀j (h:j<es.length),∃(x y:Value) (sa:Option Addr) (sc:Nat),rs[j]?=some (x,y,.slice sa (es[j]).count sc)/\w.ownsRow 0 220 2 (.slice sa (es[j]).count sc) (es[j]).count (Zca (Zdo (P.getD (es[j]).at_ [])))
theorem ZJv.nil(w:World)(P:List (LB)):ZJv w [] [] P:=fun j h=>by simp at h
theorem ZJv.below  {rs : List (Value × Value × Value)}   (h : ZJv w rs es P) (a : BW w w') : ZJv w' rs es P := fun j c => by
  obtain⟨x,y,sa,sc,e1,e2⟩:=h j c;exact⟨x,y,sa,sc,e1,Zn e2 a⟩
theorem ZJv.grown  {rs : List (Value × Value × Value)}    {e : TypeId}     (h : ZJv w rs es P) (a : w.grownBy w' v.ownBlock) (c : w.ownsRow b e s v n xs) (d : 220 ≠ e) : ZJv w' rs es P := fun j f => by
  obtain⟨x,y,sa,sc,e1,e2⟩:=h j f;exact⟨x,y,sa,sc,e1,e2.kept a (ZmC e2 c d)⟩
theorem ZJv.snoc(c:rs.length=es.length)(h:ZJv w rs es P)(z:Entry)(x y:Value)(sa:Option Addr)(sc:Nat)
  (e:w.ownsRow 0 220 2 (.slice sa z.count sc) z.count (Zca (Zdo (P.getD z.at_ [])))):ZJv w (rs++[(x,y,.slice sa z.count sc)]) (es++[z]) P:=fun j f=>by
 by_cases a:j<es.length
 ·obtain⟨x',y',sa',sc',e1,e2⟩:=h j a;refine⟨x',y',sa',sc',?_⟩;rw[Ybr (by rw[c];exact a),List.getElem_append_left a];exact⟨e1,e2⟩
 ·have d:j=es.length:=by simp at f;omega
  subst d;refine⟨x,y,sa,sc,?_⟩;rw[Yb3 (by rw[c];exact Yac _),c];simp only[Yfw,Ycy,List.getElem_append_right (Yac _),List.getElem_cons_zero];exact⟨trivial,e⟩
def ZJT(w:World)(v:Value)(l:LB):Prop:=∃(es:List Entry) (rs:List (Value×Value×Value)),Zbh 0 [] (split 10 l)=.inr es/\Zfk [] es=none/\es.length<=30/\w.ownsRow 0 122 3 v es.length (ZJD rs)/\ZJA w rs es/\ZJv w rs es (split 10 l)
theorem ZJT.below(h:ZJT w v l)(a:BW w w'):ZJT w' v l:=by
 obtain⟨es,rs,c,d,e,f,g,i⟩:=h;exact⟨es,rs,c,d,e,Zn f a,g.below a,i.below a⟩
structure SamsV (w:World) (v:Value) (l:List (Int×Int)):Prop where
 own:w.ownsRow 0 220 2 v l.length (Zca l)
 len:l.length<=6001
 ok:∀x∈l,smOk x
theorem SamsV.below{l:List (Int×Int)}(h:SamsV w v l)(a:BW w w'):SamsV w' v l:=⟨Zn h.own a,h.len,h.ok⟩
structure LabsV (w:World) (v:Value) (l:List Lab) (qs:List (BA×BA)):Prop where
 own:w.ownsRow 0 216 2 v qs.length (ZJt qs)
 say:qs.map bl2=l
 len:qs.length<=6001
 ok:∀q∈qs,q.1.size<=6000/\q.2.size<=6000
theorem LabsV.below{l:List Lab}(h:LabsV w v l qs)(a:BW w w'):LabsV w' v l qs:=⟨Zn h.own a,h.say,h.len,h.ok⟩
theorem LabsV.drewN{l:List Lab}(h:LabsV w v l qs)(n:Nat):LabsV (w.drewN n) v l qs:=⟨ZzW h.own n,h.say,h.len,h.ok⟩
theorem ZcW{a b:BA}(h:bl a=bl b):a=b:=by
 cases a with | mk x => cases b with | mk y =>
   have:x=y:=by
     have c:x.toList=y.toList:=h;exact Array.toList_inj.mp c
   rw[this]
theorem Ztm(l:List Lab):∀k,k<=l.length->ZfK l k=wrt (l.take k)
 | 0,_=>rfl
 | k + 1, h => by
   have a:k<l.length:=h;rw[ZfK,Ztm l k Om];unfold wrt;rw[List.take_succ_eq_append_getElem a,Yaq,Yco,Zlc];have c:l.getD k ([],[])=l[k]:=by rw[Yaa,List.getElem?_eq_getElem a];rfl
   rw[c];by_cases d:0<k
   · rw[if_pos d,if_neg]
     · simp[lab1]
     · rw[Ydl]
       intro e;have:=congrArg List.length e;rw[Yak,Ya7,Ybq]at this;omega
   · obtain rfl:k=0:=by omega
     simp[lab1,commas]
def ZJp:List (Value×El)->List Value
 | []=>[]
 | z::l=>z.1::.int .i64 z.2.2::ZJp l
def ElOk(w:World)(z:Value×El):Prop:=(∃qs,LabsV w z.1 z.2.1 qs)/\vOk z.2.2
theorem ElOk.below{z:Value×El}(h:ElOk w z)(a:BW w w'):ElOk w' z:=⟨h.1.elim fun qs c=>⟨qs,c.below a⟩,h.2⟩
structure ElsV (w:World) (v:Value) (zs:List (Value×El)):Prop where
 own:w.ownsRow 0 128 2 v zs.length (ZJp zs)
 len:zs.length<=1000000
 ok:∀z∈zs,ElOk w z
theorem ElsV.below(h:ElsV w v zs)(a:BW w w'):ElsV w' v zs:=⟨Zn h.own a,h.len,fun z c=>(h.ok z c).below a⟩
structure NamsV (w:World) (v:Value) (ns:List BA):Prop where
 own:w.ownsRow 0 9 1 v ns.length (ns.map .string)
 len:ns.length<=100000
theorem NamsV.below{ns:List BA}(h:NamsV w v ns)(a:BW w w'):NamsV w' v ns:=⟨Zn h.own a,h.len⟩
abbrev SZ:=BA×Value×Value×Ser
def ZJM:List SZ->List Value
 | []=>[]
 | s::l=>.string s.1::s.2.1::s.2.2.1::ZJM l
def ZJ8(w:World)(s:SZ):Prop:=bl s.1=s.2.2.2.name/\(∃qs,LabsV w s.2.1 s.2.2.2.labs qs)/\SamsV w s.2.2.1 s.2.2.2.jz
theorem ZJ8.below{s:SZ}(h:ZJ8 w s)(a:BW w w'):ZJ8 w' s:=⟨h.1,h.2.1.elim fun qs c=>⟨qs,c.below a⟩,h.2.2.below a⟩
structure StoV (w:World) (v:Value) (ss:List SZ):Prop where
 own:w.ownsRow 0 122 3 v ss.length (ZJM ss)
 len:ss.length<=900
 ok:∀s∈ss,ZJ8 w s
theorem StoV.below{ss:List SZ}(h:StoV w v ss)(a:BW w w'):StoV w' v ss:=⟨Zn h.own a,h.len,fun s c=>(h.ok s c).below a⟩
def ZJQ(ss:List SZ):List Ser:=ss.map (·.2.2.2)
theorem LabsV.other{l:List Lab}(h:LabsV w v l qs)(d:BAt w a c 76)(f:∀j,j≠a->w'.heap[j]?=w.heap[j]?):LabsV w' v l qs:=
 ⟨ZdA h.own (fun j g=>f j (fun e=>Zcx h.own d Dc (by rw[g,e]))),h.say,h.len,h.ok⟩
theorem ElsV.other(h:ElsV w v zs)(d:BAt w a c 76)(f:∀j,j≠a->w'.heap[j]?=w.heap[j]?):ElsV w' v zs:=
 ⟨ZdA h.own (fun j k=>f j (fun e=>Zcx h.own d Dc (by rw[k,e]))),h.len,fun z g=>⟨(h.ok z g).1.elim fun qs i=>⟨qs,i.other d f⟩,(h.ok z g).2⟩⟩
structure WinI (w wr:World) (p:PV) (vv:Value) (zs:List (Value×El)):Prop where
 bel:BW w wr
 pb:PAt wr w.heap.size p
 rb:BAt wr (w.heap.size+1) [.bool false,Vi 0,S0] 76
 vb:BAt wr (w.heap.size+2) [.bool false,Vi 0,vv] 76
 els:ElsV wr vv zs
theorem WinI.below(h:WinI w wr p vv zs)(a:BW wr w'):WinI w w' p vv zs:=
 ⟨h.bel.trans (a.mono h.bel.size),(a.block _ h.pb.lt).trans h.pb,h.rb.below a,h.vb.below a,h.els.below a⟩
theorem WinI.set{rv:Value}(h:WinI w wr p vv zs)(c:ElsV wr rv zs'):WinI w (wr.setCell ⟨w.heap.size+2,2,none⟩ rv) p rv zs':=by
 have a:∀j,j≠w.heap.size+2->(wr.setCell ⟨w.heap.size+2,2,none⟩ rv).heap[j]?=wr.heap[j]?:=fun j d=>Go.Deep.blk_setCell_other _ _ _ _ d;refine⟨h.bel.setCell (p:=⟨w.heap.size+2,2,none⟩) (by show w.heap.size<=w.heap.size+2;omega) _,(a _ Om).trans h.pb,(a _ Om).trans h.rb,?_,c.other h.vb a⟩;have:=h.vb;unfold BAt at this ⊢;simp only[World.setCell,Ybn,this,if_true,Ybf];rfl
def serE(P:List (LB))(e:Entry):Ser:=⟨e.name,(Zcc e.inside).getD [],Zdo (P.getD e.at_ [])⟩
def Ze6(l:LB):List Ser:=match Zbh 0 [] (split 10 l)with
 | .inr es=>es.map (serE (split 10 l))
 | .inl _=>[]
theorem ZMt(l:List (Int×Int)):(Zca l).length=l.length*2:=by
 induction l with
 | nil=>rfl
 | cons a l ih=>simp only[Zca,Yaj,ih];omega
theorem ZBM:∀x∈Zdo l,smOk x:=by
 intro x a;unfold Zdo at a;split at a
 ·rename_i b _;cases hd:l.drop (b+1)with
  | nil=>rw[hd]at a;cases a
  | cons c t=>
   rw[hd]at a;obtain⟨y,_,rfl⟩:=Ybe.1 a;exact ZCr y
 ·cases a
theorem Zoa{α:Type}(Q:Nat->α->Prop):∀n:Nat,(∀j,j<n->∃z,Q j z)->∃zs:List α,zs.length=n/\∀j (h:j<zs.length),Q j zs[j]
 | 0,_=>⟨[],rfl,fun j h=>absurd h (Ya1 _)⟩
 | n + 1, h => by
   obtain⟨zs,c,f⟩:=Zoa Q n (fun j d=>h j Om);obtain⟨z,g⟩:=h n Om;refine⟨zs++[z],by simp[c],fun j d=>?_⟩;by_cases a:j<zs.length
   · rw[List.getElem_append_left a];exact f j a
   · have e:j=zs.length:=by simp at d;omega
     subst e;rw[List.getElem_append_right (Yac _)];simp only[Yfw,List.getElem_cons_zero];rw[c];exact g
theorem ZMv(zs:List SZ)(rs:List (Value×Value×Value))(a:rs.length=zs.length)(h:∀j (d:j<zs.length),rs[j]?=some (.string zs[j].1,zs[j].2.1,zs[j].2.2.1)):ZJM zs=ZJD rs:=by
 induction zs generalizing rs with
 | nil => cases rs with
   | nil=>rfl
   | cons _ _=>simp at a
 | cons z zs ih=>
  cases rs with
  | nil=>simp at a
  | cons r rs=>
   have c:=h 0 (by simp);simp only[Ycy,List.getElem_cons_zero,Yci]at c;subst c;rw[ZJM,ZJD,ih rs (by simpa using a) (fun j d=>by have:=h (j+1) (by simp;omega);simpa using this)]
theorem ZoQ : ∀ (rest seen : List Entry), Zfk seen rest = none -> (rest.Pairwise fun a b => ZdO a ≠ ZdO b) /\ ∀ e ∈ rest, ∀ s ∈ seen, ZdO s ≠ ZdO e
  | [],_,_=>⟨List.Pairwise.nil,fun _ h=>by cases h⟩
  | e :: rest, seen, h => by
    unfold Zfk at h;split at h
    · cases h
    · rename_i i
      obtain⟨j,d⟩:=ZoQ rest (seen++[e]) h;refine⟨Ybg.2 ⟨fun b k=>d b k e (by simp),j⟩,fun f c s g=>?_⟩;rcases Yau.1 c with rfl|c
      · intro l
        refine i ?_;rw[Ydk,<-l];exact Ybe.2 ⟨s,g,rfl⟩
      · exact d f c s (Yc7 _ g)
theorem Ztn{ps:List Lab}(h:Zcc l=some ps):wrt ps=l:=by
 have:=ZE1 h
 rwa [Ztm ps _ (Yac _),Ya4]at this
theorem ZJT.sto(N:l.length<=6000)(h:ZJT w v l):∃ss:List SZ,StoV w v ss/\ZJQ ss=Ze6 l/\Dst (Ze6 l)/\ss.length<=30:=by
 obtain⟨es,rs,s,D,P,E,g,F⟩:=h
 have G : ∀ j (c : j < es.length), (es[j]).count <= 6001 := fun j c => (ZqJ s (by simp) (fun p H => by
   obtain⟨i,m,rfl⟩:=List.mem_iff_getElem.1 H;have:=Zkd 10 l i m;rw[Yaa,List.getElem?_eq_getElem m,Ya6]at this;omega)).2 _ (List.getElem_mem c)
 have t := Zoa (fun j (z : SZ) => ∃ c : j < es.length, rs[j]? = some (.string z.1, z.2.1, z.2.2.1) /\ z.2.2.2 = serE (split 10 l) es[j] /\ ZJ8 w z) es.length (fun j c => by
   obtain⟨nm,la,ln,lc,sa,sc,e1,e2,e3,e4,qs,e5,e6⟩:=g.2 j c;obtain⟨x,y,sa',sc',d1,d2⟩:=F j c;rw[e1]at d1;injection d1 with d1;injection d1 with _ d1;injection d1 with _ d1;injection d1 with d1 _ d3;subst d1 d3;have o:=ZK5 e6 e4;have u:=d2.1;rw[ZMt]at u;have d:(Zdo ((split 10 l).getD (es[j]).at_ [])).length=(es[j]).count:=by omega
   refine⟨(nm,.slice la ln lc,.slice sa (es[j]).count sc,serE (split 10 l) es[j]),c,e1,rfl,e2,⟨qs,e5,?_,?_,fun q I=>?_⟩,?_,?_,ZBM⟩
   · show qs.map bl2=(Zcc (es[j]).inside).getD []
     rw[e6];rfl
   · have:=o.1;rwa [Yak]at this
   · have:=o.2 (bl2 q) (Ybe.2 ⟨q,I,rfl⟩)
     have g1:q.1.size<=8:=by rw[<-Zd];exact this.1
     have g2:q.2.size<=8:=by rw[<-Zd];exact this.2
     exact⟨by omega,by omega⟩
   · show w.ownsRow 0 220 2 (.slice sa (es[j]).count sc) (Zdo ((split 10 l).getD (es[j]).at_ [])).length (Zca (Zdo ((split 10 l).getD (es[j]).at_ [])))
     rw[d];exact d2
   · show(Zdo ((split 10 l).getD (es[j]).at_ [])).length<=6001
     rw[d];exact G j c)
 obtain⟨zs,e,f⟩:=t;have r:Ze6 l=es.map (serE (split 10 l)):=by unfold Ze6;rw[s]
 refine⟨zs,⟨?_,by omega,fun z J=>?_⟩,?_,?_,by omega⟩
 ·have:=ZMv zs rs (by rw[g.1,e]) (fun j c=>(f j c).2.1);rw[this,e];exact E
 ·obtain⟨j,c,rfl⟩:=List.mem_iff_getElem.1 J;exact(f j c).2.2.2
 ·rw[r];unfold ZJQ;refine List.ext_getElem (by rw[Yak,Yak,e]) (fun j A O=>?_);rw[List.getElem_map,List.getElem_map];exact(f j (by simpa using A)).2.2.1
 ·rw[r];unfold Dst;rw[Ybx];refine Ycx ?_ (ZoQ es [] D).1;intro a b K L B C;obtain⟨i,m,rfl⟩:=List.mem_iff_getElem.1 K;obtain⟨k,M,rfl⟩:=List.mem_iff_getElem.1 L;obtain⟨_,_,_,_,_,_,_,_,n1,_,q1,_,l1⟩:=g.2 i m;obtain⟨_,_,_,_,_,_,_,_,n2,_,q2,_,l2⟩:=g.2 k M;refine B ((Zxv n1 n2).2 ⟨C.1,?_⟩);have n:=C.2;unfold serE at n;simp only[l1,l2,Ya6]at n;rw[Ztn l1,Ztn l2]at n;exact n
theorem ZoJ(n:Nat):(decS n).length<=n+1:=by
 induction n using Nat.strongRecOn with
 | ind n ih=>
  by_cases h:n<=9
  ·rw[Zh0 h];simp
  ·rw[Zi6 h,Yab];have:=ih (n / 10) Om;simp only[Yaj,Ybq];omega
theorem Zlj(n:Int)(h:vOk n):(decI n).length<=1000000002:=by
 unfold vOk at h;unfold decI;split
 ·have:=ZoJ n.natAbs;rw[Yab,Ybj];omega
 ·have:=ZoJ n.toNat;omega
def TimP(w':World)(f l s:Int)(ft:Addr)(tv ev:Value):Prop:=(Zdr f l s=none/\tv=.slice none 0 0/\ev=.iface 389 (.pointer (some ft)))∨(∃ts,Zdr f l s=some ts/\ts.length<=50/\(∀t∈ts,-1000000<=t/\t<=1000000)/\ev=.nilIface/\w'.ownsRow 0 3 1 tv ts.length (ts.map (Value.int .i64)))
theorem ZyO(n:Nat):(madeCells #[Value.int .i64 0] n).toList=List.replicate n (Value.int .i64 0):=by
 refine List.ext_getElem (by simp[madeCells]) (fun i a c=>?_);simp[madeCells,Nat.mod_one]
theorem ZrI(f l s:Int)(ft:Addr)(w:World)(y:w.cell? ⟨7,0,none⟩=some (.iface 389 (.pointer (some ft)))) :
  CP 40 #[.agg #[Vi f,Vi l,Vi s]] w fun e u=>∃tv ev,e=.returned (.tuple #[tv,ev])/\Hid (TimP u f l s ft tv ev)/\BW w u:=by
 obtain⟨i0,V,I,J,K⟩:=info_parts Tryz.infoInt3;have L:7<w.heap.size:=Yai _ _ y;have F:∀o,(w.alloc o).cell? ⟨7,0,none⟩=some (.iface 389 (.pointer (some ft))):=fun o=>by rw[Ybm _ _ _ L];exact y
 by_cases j:badT f l s
 ·have n:Hid (∀u,TimP u f l s ft S0 (.iface 389 (.pointer (some ft)))):=hid (fun u=>Or.inl ⟨by unfold Zdr;rw[if_pos j],rfl,rfl⟩);by_cases c1:(-1000000<=f/\f<=1000000)
  ·obtain⟨d1,d2⟩:=c1;by_cases c2:(-1000000<=l/\l<=1000000)
   ·obtain⟨d3,d4⟩:=c2;by_cases c3:l<f
    ·clear j;go_enter func40,ntmps40
     go_wp2_with (go_at_call 84;refine(Zf9).mono ?_;rintro e u ⟨rfl,rfl⟩)
     go_region
     all_goals (try go_wp2)
     all_goals (go_ret2;exact⟨_,_,rfl,hid (n.out _),belB⟩)
    ·by_cases c4:s<1
     ·clear j;go_enter func40,ntmps40
      go_wp2_with (go_at_call 84;refine(Zf9).mono ?_;rintro e u ⟨rfl,rfl⟩)
      go_region
      all_goals (try go_wp2)
      all_goals (go_ret2;exact⟨_,_,rfl,hid (n.out _),belB⟩)
     ·have c5:1000000<s:=by unfold badT at j;omega
      clear j;go_enter func40,ntmps40
      go_wp2_with (go_at_call 84;refine(Zf9).mono ?_;rintro e u ⟨rfl,rfl⟩)
      go_region
      all_goals (try go_wp2)
      all_goals (go_ret2;exact⟨_,_,rfl,hid (n.out _),belB⟩)
   ·have c3:(decide (-1000000<=l) && decide (l<=1000000))=false:=by simp;omega
    clear j c2;go_enter func40,ntmps40
    go_wp2_with (go_at_call 84;refine(Zf9).mono ?_;rintro e u ⟨rfl,rfl⟩)
    go_region
    all_goals (try go_wp2)
    all_goals (go_ret2;exact⟨_,_,rfl,hid (n.out _),belB⟩)
  ·have c3:(decide (-1000000<=f) && decide (f<=1000000))=false:=by simp;omega
   clear j c1;go_enter func40,ntmps40
   go_wp2_with (go_at_call 84;refine(Zf9).mono ?_;rintro e u ⟨rfl,rfl⟩)
   go_region
   all_goals (try go_wp2)
   all_goals (go_ret2;exact⟨_,_,rfl,hid (n.out _),belB⟩)
 ·have G:Hid (Zdr f l s=if 50<cnt l s f then none else some ((List.range (cnt l s f)).map fun(i:Nat)=>f+(i:Int)*s)):=hid (ZsN j);have M : -1000000<=f/\f<=1000000/\-1000000<=l/\l<=1000000/\1<=s/\s<=1000000/\f<=l:=by unfold badT at j;omega
  obtain⟨d1,d2,d3,d4,d5,d6,d7⟩:=M;clear j;obtain⟨m,x⟩:∃m:Nat,(l - f).tdiv s=(m:Int):=⟨((l - f).tdiv s).toNat,by have:=Int.tdiv_nonneg (a:=l - f) (b:=s) Om Om;omega⟩
  have A:cnt l s f=m+1:=by
   unfold cnt;rw[if_pos d7,<-Yes Om,x];omega
  have a0:m<=2000000:=by
   have c:((l - f).tdiv s).natAbs<=(l - f).natAbs:=by rw[Yff];exact Yfg _ _
   rw[x]at c;omega
  rw[A]at G;have a1:(s == 0)=false:=by rw[beq_eq_false_iff_ne];omega
  have N:s≠0:=by omega
  clear A;by_cases B:50<m+1
  ·have n:Hid (∀u,TimP u f l s ft S0 (.iface 389 (.pointer (some ft)))):=hid (fun u=>Or.inl ⟨by rw[G.out,if_pos B],rfl,rfl⟩);have O:(50:Int)<(m:Int)+1:=by omega
   go_enter func40,ntmps40
   go_wp2_with (go_at_call 84;refine(Zf9).mono ?_;rintro e u ⟨rfl,rfl⟩)
   go_region
   all_goals (try go_wp2)
   all_goals (go_ret2;exact⟨_,_,rfl,hid (n.out _),belB⟩)
  ·have n:Hid (Zdr f l s=some ((List.range (m+1)).map fun(i:Nat)=>f+(i:Int)*s)):=hid (by rw[G.out,if_neg B]);have O:(m:Int)+1<=50:=by omega
   have C : Hid (∀ i, i < m + 1 -> -1000000 <= f + (i : Int) * s /\ f + (i : Int) * s <= 1000000) := hid (fun i D => by
     have c:(i:Int)*s<=(m:Int)*s:=Int.mul_le_mul_of_nonneg_right Om Om
     have h2:(m:Int)*s<=l - f:=by
       rw[<-x,Yes Om];exact Int.ediv_mul_le _ N
     have h3:0<=(i:Int)*s:=Int.mul_nonneg Om Om;omega)
   go_enter func40,ntmps40
   go_wp2_with (first
     | (go_at_call 84;refine(Zf9).mono ?_;rintro e u ⟨rfl,rfl⟩)
     | (at_make;refine wpList_make_full _ rfl _ _ 38 rfl w.heap.size 3 i0 _ 1 underlying38 V I J _ _ _ _ (m+1) rfl rfl ?e1 ?e2 ?b2 ?b3 ?b4 ?_))
   case e1=>rfl
   case e2=>rfl
   case b2=>rw[K];omega
   case b3=>unfold maxLen;omega
   case b4=>simp
   rw[ZyO];intro z r d;have P:Hid (BAt z w.heap.size [Vi f,Vi l,Vi s] 23):=hid ((d.block _ (by simp) (by simp)).trans (Go.Deep.blk_alloc_new _ _));have Q:Hid (BW w z):=hid (Zbal.grown d (by simp) (fun q W=>by cases W));clear d x F;have X:w.heap.size+1<z.heap.size:=Z1 r;go_wp2
   go_loopw [50] (fun i wr => ∃ k : Nat, k <= m + 1 /\ i = Vi k /\ Hid (wr.ownsRow w.heap.size 3 1 (.slice (some ⟨w.heap.size + 1, 0, none⟩) (m + 1) (m + 1)) (m + 1) ((List.range k).map (fun (i : Nat) => Value.int .i64 (f + (i : Int) * s)) ++ List.replicate (m + 1 - k) (Value.int .i64 0))) /\ Hid (BAt wr w.heap.size [Vi f, Vi l, Vi s] 23) /\ Hid (BW w wr))
     (fun i _=>m+1 - (intOf i).toNat)
   case atStart=>exact⟨0,Yag _,rfl,hid (by simpa using r),P,Q⟩
   case round=>
    obtain⟨k,hk,rfl,v,H,R⟩:=hrel;by_cases E:k<m+1
    ·have x0:=H.cell 0;have x2:=H.cell 2;simp only[Zget]at x0 x2;have a2:=C.out k E;have a3:0<=(k:Int)*s:=Int.mul_nonneg Om Om
     have a4:(Go.IntKind.i64).wrap ((k:Int)*s)=(k:Int)*s:=by
      generalize(k:Int)*s=ks at *
      rw[Ybo];omega
     have a5:(Go.IntKind.i64).wrap (f+(k:Int)*s)=f+(k:Int)*s:=by
      generalize(k:Int)*s=ks at *
      rw[Ybo];omega
     have U:wr.cell? ⟨w.heap.size+1,k,none⟩=some (Vi 0):=Zi v.out _ _ (by rw[Yb3 (by simp),Yak,Ygy,Yfw,List.getElem?_replicate,if_pos Om])
     have a6:wr.frozen? ⟨w.heap.size+1,k,none⟩=false:=by
      rcases v.2 with ⟨h,_⟩|⟨g,cap,cur,h,_,Y,_⟩
      ·cases h
      ·injection h with c;injection c with c;injection c with c;subst c;simp[World.frozen?,Y]
     have a7:(k:Int)<(m:Int)+1:=by omega
     have S : Hid ((wr.setCell ⟨w.heap.size + 1, k, none⟩ (Vi (f + (k : Int) * s))).ownsRow w.heap.size 3 1 (.slice (some ⟨w.heap.size + 1, 0, none⟩) (m + 1) (m + 1)) (m + 1) ((List.range (k + 1)).map (fun (i : Nat) => Value.int .i64 (f + (i : Int) * s)) ++ List.replicate (m + 1 - (k + 1)) (Value.int .i64 0))) := hid (by
       have:=ZmD v.out k (Vi (f+(k:Int)*s));rw[ZB6 (m+1) k (fun(i:Nat)=>Value.int .i64 (f+(i:Int)*s)) E]at this;exact this)
     go_wp2
     go_roundw
     case rel=>exact⟨k+1,by omega,by go_num,S,hid (H.other (p:=⟨w.heap.size+1,k,none⟩) (by show w.heap.size≠w.heap.size+1;omega) _),hid (R.setCell (p:=⟨w.heap.size+1,k,none⟩) (by show w.heap.size<=w.heap.size+1;omega) _)⟩
     case measure=>simp[intOf];omega
    ·obtain rfl:k=m+1:=by omega
     have T : Hid (TimP wr f l s ft (.slice (some ⟨w.heap.size + 1, 0, none⟩) (m + 1) (m + 1)) .nilIface) := hid (Or.inr ⟨_, n.out, by simp; omega, fun t Z => by
       obtain⟨i,D,rfl⟩:=Ybe.1 Z;exact C.out i (Yb9.1 D),rfl,by
       have c:=v.out;rw[Yfw,List.replicate_zero,Yca]at c;rw[Yak,Ygy,Yb1];exact c.mono (Yag _)⟩)
     go_wp2;go_ret2;exact⟨_,_,rfl,T,R.out⟩
theorem ZnW{T e:TypeId}{p:Value}(h:Lib.BuilderAtF T e B b p bs w)(c:BW w w'):Lib.BuilderAtF T e B b p bs w':=by
 obtain⟨i,v,d,⟨j,k⟩,l⟩:=h;refine⟨i,v,(c.block b (Yae.1 d).1).trans d,⟨j,?_⟩,l⟩;rcases k with a|⟨g,cap,cur,fz,a,m,f,n⟩
 ·exact Or.inl a
 ·exact Or.inr ⟨g,cap,cur,fz,a,m,(c.block g (Yae.1 f).1).trans f,n⟩
theorem Zt7{T e:TypeId}(h:Lib.IsBuilderF T e B b bs w)(a:BW w w'):Lib.IsBuilderF T e B b bs w':=by
 rcases h with h|h
 ·exact Or.inl (ZnW h a)
 ·exact Or.inr (ZnW h a)
theorem ZzT{e:TypeId}{b:Option Nat}(h:BW w w'):Lib.OthersKept e b w w':=fun k _ a _ _=>(h.block k (Yae.1 a).1).trans a
structure WB (w:World) (B b:Nat) (l:LB):Prop where
 bd:Lib.IsBuilderF 101 5 B b (Lib.byteCells l) w
 le:B<=w.heap.size
structure WK (B b:Nat) (w w':World):Prop where
 low:Below B w w'
 kept:Lib.OthersKept 5 (some b) w w'
theorem WK.refl(B b:Nat)(w:World):WK B b w w:=⟨Yaf _ _,Lib.OthersKept.refl _ _ _⟩
theorem WK.trans{y z a:World}(h:WK B b y z)(c:WK B b z a):WK B b y a:=⟨h.low.trans c.low,h.kept.trans c.kept⟩
theorem WK.below(h:BW w w')(a:B<=w.heap.size):WK B b w w':=⟨h.mono a,ZzT h⟩
theorem WB.below(h:WB w B b l)(a:BW w w'):WB w' B b l:=⟨Zt7 h.bd a,Yah h.le a.size⟩
theorem WB.ne(h:WB w B b l):b<w.heap.size/\∃c,w.heap[b]?=some (.cells c 101 (0,0)):=by
 rcases h.bd with h|h
 ·obtain⟨_,v,a,_⟩:=h;exact⟨(Yae.1 a).1,_,a⟩
 ·obtain⟨_,v,a,_⟩:=h;exact⟨(Yae.1 a).1,_,a⟩
theorem WK.block(f:WB w B b l)(h:WK B b w w'){c:Array Value}{t:TypeId}{fr:Nat×Nat}(d:w.heap[a]?=some (.cells c t fr))(g:t≠101)(i:t≠5):w'.heap[a]?=some (.cells c t fr):=by
 refine h.kept a _ d ?_ ?_
 ·intro e;injection e with e;subst e;obtain⟨_,c',j⟩:=f.ne;rw[j]at d;injection d with d;injection d with _ d;exact g d.symm
 ·intro c' fz e;injection e with _ e;exact i e
theorem WK.bat(d:WB w B b l)(h:WK B b w w'){t:TypeId}(e:BAt w a c t)(f:t≠101)(g:t≠5):BAt w' a c t:=WK.block d h e f g
theorem WK.own(d:WB w B b l)(h:WK B b w w'){base:Nat}{e:TypeId}{size:Nat}(c:w.ownsRow base e size v n xs)(f:e≠101)(i:e≠5):w'.ownsRow base e size v n xs:=by
 refine⟨c.1,?_⟩;rcases c.2 with a|⟨g,cap,cur,a,j,k,m⟩
 ·exact Or.inl a
 ·exact Or.inr ⟨g,cap,cur,a,j,WK.block d h k f i,m⟩
theorem Zh.wrote(d:WB w B b l)(h:WK B b w w'){t:Tr}(e:Zh w t v):Zh w' t v:=
 Zh.mono (fun _ _ ⟨bs,a,c⟩=>⟨bs,WK.own d h a Dc Dc,c⟩) (fun _ _ ⟨bs,a,c⟩=>⟨bs,WK.own d h a Dc Dc,c⟩) t v e
theorem ZX.wrote(a:WB w B b l)(h:WK B b w w'){cs:List (LB×LB×Bool)}(c:ZX w v cs):ZX w' v cs:=by
 obtain⟨bs,d,e⟩:=c;exact⟨bs,WK.own a h d Dc Dc,e⟩
theorem Zbm.wrote(a:WB w B b l)(h:WK B b w w'){cs:List (LB)}(c:Zbm w v cs):Zbm w' v cs:=by
 obtain⟨bs,d,e⟩:=c;exact⟨bs,WK.own a h d Dc Dc,e⟩
theorem Zn4(l:LB)(s:BA):Lib.byteCells l++Lib.strCells s=Lib.byteCells (l++bl s):=by
 unfold Lib.byteCells Lib.strCells bl;rw[Yaq]
def big:Nat:=1000000
theorem Zda(h:WB w B b l)(s:BA)(d:l.length+s.size<=big) :
  CP 77 #[Vp b,.string s] w fun e u=>e=.returned (.tuple #[Vi s.size,.nilIface])/\Hid (WB u B b (l++bl s))/\Hid (WK B b w u):=by
 refine(ZhR B b (Lib.byteCells l) s w h.bd (by rw[Lib.byteCells_length];unfold big at d;omega) h.le).mono ?_;rintro e u ⟨rfl,a,c,f⟩;rw[Zn4]at a;exact⟨rfl,⟨Or.inr a,Yah h.le c.size⟩,⟨c,f⟩⟩
theorem Zlk(n:Nat):Lib.decDigits n=decS n:=by
 induction n using Nat.strongRecOn with
 | _ n ih=>
  by_cases h:n<=9
  ·rw[Zh0 h,Lib.decDigits,dif_pos Om];rfl
  ·rw[Zi6 h,Lib.decDigits,dif_neg Om,ih (n / 10) Om];rfl
def ZR (w : World) : Prop := Lib.TabIs Tryz.prog w "internal/strconv.uint64pow10" .u64 Lib.pow10Tab
theorem Tryz.gPow : Tryz.prog.globalNamed "internal/strconv.uint64pow10" = some 15 := by kernel_rfl
theorem ZR.low(h:ZR w)(a:Below B w w')(c:20<=B):ZR w':=var?_below a Tryz.gPow (Yaw Dc c) h
theorem ZlT(h:ZR w)(n:Int)(c:0<=n)(d:n<=1000000000) :
  CP 78 #[Vi n] w fun e u=>∃s:BA,e=.returned (.string s)/\Hid (bl s=decS n.toNat)/\BW w u:=by
 refine(strconv_Itoa n Om Om w h).mono ?_;rintro e u ⟨rfl,k,os,rfl⟩;refine⟨_,rfl,hid ?_,?_⟩
 ·rw[ZbF];unfold Lib.itoa;rw[if_neg Om,Zlk]
 ·exact⟨rfl,rfl,rfl,by simp[Go.Sort.grow,World.drewN],fun k a=>by simp[Go.Sort.grow,World.drewN,Yfo,a]⟩
structure ArI (w wr:World) (xa ya:List Value) (vv:Value) (zs:List (Value×El)):Prop where
 bel:BW w wr
 xb:BAt wr w.heap.size xa 76
 yb:BAt wr (w.heap.size+1) ya 76
 rb:BAt wr (w.heap.size+2) [.bool false,Vi 0,S0] 76
 vb:BAt wr (w.heap.size+3) [.bool false,Vi 0,vv] 76
 own:wr.ownsRow (w.heap.size+4) 128 2 vv zs.length (ZJp zs)
theorem ArI.below(h:ArI w wr xa ya vv zs)(a:BW wr w'):ArI w w' xa ya vv zs:=
 ⟨h.bel.trans (a.mono h.bel.size),h.xb.below a,h.yb.below a,h.rb.below a,h.vb.below a,Zn h.own a⟩
theorem BAt.alloc{t:TypeId}(h:BAt w a c t)(o:Obj):BAt (w.alloc o) a c t:=h.below Zbal
theorem ArI.start(w:World)(x0 x1 x2 y0 y1 y2:Value):ArI w ((((w.alloc (.cells #[x0,x1,x2] 76)).alloc (.cells #[y0,y1,y2] 76)).alloc (.cells #[.bool false,Vi 0,S0] 76)).alloc (.cells #[.bool false,Vi 0,S0] 76)) [x0,x1,x2] [y0,y1,y2] S0 []:=by
 have g3:BAt (w.alloc (.cells #[x0,x1,x2] 76)) w.heap.size [x0,x1,x2] 76:=Go.Deep.blk_alloc_new w _
 have g2:BAt ((w.alloc (.cells #[x0,x1,x2] 76)).alloc (.cells #[y0,y1,y2] 76)) (w.heap.size+1) [y0,y1,y2] 76:=by
  have:=Go.Deep.blk_alloc_new (w.alloc (.cells #[x0,x1,x2] 76)) (.cells #[y0,y1,y2] 76)
  rwa [Yf7]at this
 have g1:BAt (((w.alloc (.cells #[x0,x1,x2] 76)).alloc (.cells #[y0,y1,y2] 76)).alloc (.cells #[.bool false,Vi 0,S0] 76)) (w.heap.size+2) [.bool false,Vi 0,S0] 76:=by
  have:=Go.Deep.blk_alloc_new ((w.alloc (.cells #[x0,x1,x2] 76)).alloc (.cells #[y0,y1,y2] 76)) (.cells #[.bool false,Vi 0,S0] 76)
  rwa [Yf7,Yf7]at this
 have g0:=Go.Deep.blk_alloc_new (((w.alloc (.cells #[x0,x1,x2] 76)).alloc (.cells #[y0,y1,y2] 76)).alloc (.cells #[.bool false,Vi 0,S0] 76)) (.cells #[.bool false,Vi 0,S0] 76);rw[Yf7,Yf7,Yf7]at g0;exact⟨belB,((g3.alloc _).alloc _).alloc _,(g2.alloc _).alloc _,g1.alloc _,g0,Ybc _ _ _ _⟩
theorem ArI.done(h:ArI w wr xa ya (.slice va vn vc) os)(f:os.length<=1000000)(d:∀z∈os,ElOk wr z) :
  BAt (set3 wr (w.heap.size+2) (.bool false) (Vi 0) (.slice va vn vc)) (w.heap.size+2) [.bool false,Vi 0,.slice va vn vc] 76/\ElsV (set3 wr (w.heap.size+2) (.bool false) (Vi 0) (.slice va vn vc)) (.slice va vn vc) os/\BW w (set3 wr (w.heap.size+2) (.bool false) (Vi 0) (.slice va vn vc)):=by
 have g:BW w (set3 wr (w.heap.size+2) (.bool false) (Vi 0) (.slice va vn vc)):=(((h.bel.setCell (p:=⟨w.heap.size+2,0,none⟩) (by show w.heap.size<=w.heap.size+2;omega) _).setCell (p:=⟨w.heap.size+2,1,none⟩) (by show w.heap.size<=w.heap.size+2;omega) _).setCell (p:=⟨w.heap.size+2,2,none⟩) (by show w.heap.size<=w.heap.size+2;omega) _)
 refine⟨Zcr h.rb (x:=.bool false) (y:=Vi 0) (z:=.slice va vn vc),⟨ZdA (Zgi h.own) (fun j c=>Zsf (fun e=>Zcx h.own h.rb Dc (by rw[c,e]))),f,fun z i=>?_⟩,g⟩;obtain⟨⟨qs,a⟩,k⟩:=d z i;exact⟨⟨qs,ZdA a.own (fun j c=>Zsf (fun e=>Zcx a.own h.rb Dc (by rw[c,e]))),a.say,a.len,a.ok⟩,k⟩
theorem ElsV.set(h:ElsV W v zs)(k:BAt W a c 76)(i:Nat)(u:Value):ElsV (W.setCell ⟨a,i,none⟩ u) v zs:=by
 have g:∀j,j≠a->(W.setCell ⟨a,i,none⟩ u).heap[j]?=W.heap[j]?:=fun j d=>Go.Deep.blk_setCell_other _ _ _ _ d;refine⟨ZdA h.own (fun j d=>g j (fun e=>Zcx h.own k Dc (by rw[d,e]))),h.len,fun z l=>?_⟩;obtain⟨⟨qs,f⟩,m⟩:=h.ok z l;exact⟨⟨qs,ZdA f.own (fun j d=>g j (fun e=>Zcx f.own k Dc (by rw[d,e]))),f.say,f.len,f.ok⟩,m⟩
structure GrI (w wr:World) (xa:List Value) (vv:Value) (rs:List (Value×El)):Prop where
 bel:BW w wr
 xb:BAt wr w.heap.size xa 76
 rb:BAt wr (w.heap.size+1) [.bool false,Vi 0,S0] 76
 vb:BAt wr (w.heap.size+2) [.bool false,Vi 0,vv] 76
 els:ElsV wr vv rs
theorem GrI.below{rs:List (Value×El)}(h:GrI w wr xa vv rs)(a:BW wr w'):GrI w w' xa vv rs:=
 ⟨h.bel.trans (a.mono h.bel.size),h.xb.below a,h.rb.below a,h.vb.below a,h.els.below a⟩
theorem GrI.put{v':Value}{rs:List (Value×El)}(h:GrI w wr xa vv rs)(d:ElsV wr v' rs'):GrI w (wr.setCell ⟨w.heap.size+2,2,none⟩ v') xa v' rs':=by
 have a:∀j,j≠w.heap.size+2->(wr.setCell ⟨w.heap.size+2,2,none⟩ v').heap[j]?=wr.heap[j]?:=fun j e=>Go.Deep.blk_setCell_other _ _ _ _ e;refine⟨h.bel.setCell (p:=⟨w.heap.size+2,2,none⟩) (by show w.heap.size<=w.heap.size+2;omega) _,(a _ Om).trans h.xb,(a _ Om).trans h.rb,?_,d.set h.vb 2 v'⟩;have c:=h.vb;unfold BAt at c ⊢;simp only[World.setCell,Ybn,c,if_true,Ybf];rfl
theorem GrI.done{rs:List (Value×El)}(h:GrI w wr xa (.slice va vn vc) rs) :
  BAt (set3 wr (w.heap.size+1) (.bool false) (Vi 0) (.slice va vn vc)) (w.heap.size+1) [.bool false,Vi 0,.slice va vn vc] 76/\ElsV (set3 wr (w.heap.size+1) (.bool false) (Vi 0) (.slice va vn vc)) (.slice va vn vc) rs/\BW w (set3 wr (w.heap.size+1) (.bool false) (Vi 0) (.slice va vn vc)):=by
 refine⟨Zcr h.rb (x:=.bool false) (y:=Vi 0) (z:=.slice va vn vc),?_,(((h.bel.setCell (p:=⟨w.heap.size+1,0,none⟩) (by show w.heap.size<=w.heap.size+1;omega) _).setCell (p:=⟨w.heap.size+1,1,none⟩) (by show w.heap.size<=w.heap.size+1;omega) _).setCell (p:=⟨w.heap.size+1,2,none⟩) (by show w.heap.size<=w.heap.size+1;omega) _)⟩;have e:=h.els;refine⟨ZdA e.own (fun j c=>Zsf (fun e'=>Zcx e.own h.rb Dc (by rw[c,e']))),e.len,fun z d=>?_⟩;obtain⟨⟨qs,a⟩,f⟩:=e.ok z d;exact⟨⟨qs,ZdA a.own (fun j c=>Zsf (fun e'=>Zcx a.own h.rb Dc (by rw[c,e']))),a.say,a.len,a.ok⟩,f⟩
theorem GrI.start(w:World)(x0 x1 x2:Value):GrI w (((w.alloc (.cells #[x0,x1,x2] 76)).alloc (.cells #[.bool false,Vi 0,S0] 76)).alloc (.cells #[.bool false,Vi 0,S0] 76)) [x0,x1,x2] S0 []:=by
 have g3:BAt (w.alloc (.cells #[x0,x1,x2] 76)) w.heap.size [x0,x1,x2] 76:=Go.Deep.blk_alloc_new w _
 have g2:BAt ((w.alloc (.cells #[x0,x1,x2] 76)).alloc (.cells #[.bool false,Vi 0,S0] 76)) (w.heap.size+1) [.bool false,Vi 0,S0] 76:=by
  have:=Go.Deep.blk_alloc_new (w.alloc (.cells #[x0,x1,x2] 76)) (.cells #[.bool false,Vi 0,S0] 76)
  rwa [Yf7]at this
 have g0:=Go.Deep.blk_alloc_new ((w.alloc (.cells #[x0,x1,x2] 76)).alloc (.cells #[.bool false,Vi 0,S0] 76)) (.cells #[.bool false,Vi 0,S0] 76);rw[Yf7,Yf7]at g0;exact⟨belB,(g3.alloc _).alloc _,g2.alloc _,g0,⟨Ybc _ _ _ _,by simp,by simp⟩⟩
structure NegI (w wr:World) (sc:Bool) (n m:Int) (xv vv:Value) (zs:List (Value×El)):Prop where
 bel:BW w wr
 xb:BAt wr w.heap.size [.bool sc,Vi n,xv] 76
 rb:BAt wr (w.heap.size+1) [.bool false,Vi 0,S0] 76
 vb:BAt wr (w.heap.size+2) [.bool sc,Vi m,vv] 76
 own:wr.ownsRow (w.heap.size+3) 128 2 vv zs.length (ZJp zs)
theorem NegI.below{sc:Bool}{n m:Int}{xv:Value}(h:NegI w wr sc n m xv vv zs)(a:BW wr w'):NegI w w' sc n m xv vv zs:=
 ⟨h.bel.trans (a.mono h.bel.size),h.xb.below a,h.rb.below a,h.vb.below a,Zn h.own a⟩
def ValV(w:World)(v:Value):VV->Prop
 | .inl n=>(∃(ea:Option Addr) (ec:Nat),v=.agg #[.bool true,.int .i64 n,.slice ea 0 ec]/\ElsV w (.slice ea 0 ec) [])/\vOk n
 | .inr l=>∃(ea:Option Addr) (ec:Nat) (zs:List (Value×El)),v=.agg #[.bool false,.int .i64 0,.slice ea zs.length ec]/\ElsV w (.slice ea zs.length ec) zs/\zs.map (·.2)=l
theorem ValV.below : ∀ {V:VV},ValV w v V->BW w w'->ValV w' v V
 | .inl _,⟨⟨ea,ec,a,c⟩,d⟩,e=>⟨⟨ea,ec,a,c.below e⟩,d⟩
 | .inr _,⟨ea,ec,zs,a,c,d⟩,e=>⟨ea,ec,zs,a,c.below e,d⟩
theorem ValV.other(g:BAt w a c 76)(h:∀j,j≠a->w'.heap[j]?=w.heap[j]?):∀ {V:VV},ValV w v V->ValV w' v V
 | .inl _,⟨⟨ea,ec,d,e⟩,f⟩=>⟨⟨ea,ec,d,e.other g h⟩,f⟩
 | .inr _,⟨ea,ec,zs,d,e,f⟩=>⟨ea,ec,zs,d,e.other g h,f⟩
def Zcn:List (LB)->LB
 | []=>[]
 | [a]=>a
 | a::b::l=>a++10::Zcn (b::l)
theorem ZMM:∀(l:List (LB)) (x:LB),Zcn (l++[x])=(if l.isEmpty then [] else Zcn l++[10])++x
 | [],x=>rfl
 | [a],x=>by simp[Zcn]
 | a :: b :: l, x => by
   have:=ZMM (b::l) x;rw[Yby,Yby,Zcn,<-Yby,this,Zcn];simp
def Zeu(st:List Ser)(t:Tr)(tm:Int):LB:=Zel tm (sayT st tm t)
def ZdK(q s:LB)(f l st:Int):LB×Nat×Nat:=match ZD q with
 | .error x=>([],x.1,x.2)
 | .ok t => if (Zbp s).1 ≠ 0 then ([], (Zbp s).1, (Zbp s).2) else match Zdr f l st with
   | none=>([],8,0)
   | some ts=>(Zcn (ts.map (Zeu (Ze6 s) t)),0,0)
attribute [local go_sem ↓] Go.wp_at_zero Go.wp_at_succ
theorem ZoC(x y:BA)(ng:Bool) :
  CP 123 #[.agg #[.string x,.bool ng,.string y]] w fun e u=>e=.returned (.string (if ng then ⟨#[33,61]⟩else ⟨#[61]⟩))/\BW w u:=by
 cases ng
 ·go_enter func123,ntmps123;go_wp2;go_ret;exact⟨rfl,belB⟩
 ·go_enter func123,ntmps123;go_wp2;go_ret;exact⟨rfl,belB⟩
theorem Zwc (l : List (BA × BA × Bool)) (j : Nat) : (Zb1 l)[j * 3]? = l[j]?.map (fun t => .string t.1) /\ (Zb1 l)[j * 3 + 1]? = l[j]?.map (fun t => .bool t.2.2) /\ (Zb1 l)[j * 3 + 2]? = l[j]?.map (fun t => .string t.2.1) := by
  induction l generalizing j with
  | nil=>simp[Zb1]
  | cons r l ih=>
    cases j with
    | zero=>simp[Zb1]
    | succ j=>
      obtain⟨a,c,d⟩:=ih j;refine⟨?_,?_,?_⟩
      · rw[show(j+1)*3=j*3+1+1+1 by omega];simpa [Zb1] using a
      · rw[show(j+1)*3+1=j*3+1+1+1+1 by omega];simpa [Zb1] using c
      · rw[show(j+1)*3+2=j*3+1+1+1+1+1 by omega];simpa [Zb1] using d
def ZcN(bs:List (BA×BA×Bool))(k:Nat):LB:=commas ((bs.take k).map fun c=>Z8 (Z7 c))
theorem Zvc(bs:List (BA×BA×Bool))(k:Nat)(h:k<bs.length):ZcN bs (k+1)=(if k=0 then [] else ZcN bs k++[44])++Z8 (Z7 bs[k]):=by
 unfold ZcN;rw[List.take_succ_eq_append_getElem h,Yaq,Yco,Zlc];by_cases a:k=0
 ·subst a;rfl
 ·rw[if_neg a,if_neg (by rw[Ydl,Ydt];intro e;have:=congrArg List.length e;rw[Ya7,Ybq]at this;omega)]
theorem Zld(bs:List (BA×BA×Bool))(k:Nat):(ZcN bs k).length<=cw (bs.map Z7):=by
 unfold ZcN;refine Yah (ZeS _) ?_;rw[show(fun c=>Z8 (Z7 c))=Z8 ∘ Z7 from rfl,<-Yb1];refine Yah (Zmv _) ?_;rw[Yer];have:=ZoG ((bs.map Z7).take k) ((bs.map Z7).drop k);rw[Ycn]at this;omega
theorem Zvb(bs:List (BA×BA×Bool)):ZcN bs bs.length=commas ((bs.map Z7).map Z8):=by
 unfold ZcN;rw[Ya4,Yb1];rfl
theorem Zu7(c:BA×BA×Bool):Z8 (Z7 c)=bl c.1++(if c.2.2 then [33,61] else [61])++[34]++bl c.2.1++[34]:=rfl
theorem Ztq(h:WB w B b l)(nm:BA)(la:Option Addr)(ln lc:Nat)(a:Nd)(X:bl nm=a.name)(hc:ZX w (.slice la ln lc) a.jq)(Y:l.length+a.name.length+cw a.jq+10<=big) :
  CP 83 #[Vp b,.agg #[.string nm,.slice la ln lc]] w fun e u=>e=.returned (.tuple #[])/\Hid (WB u B b (l++selS a))/\Hid (WK B b w u):=by
 obtain⟨bs,D,M⟩:=hc;have d9:ln=bs.length:=by obtain⟨_,_,e⟩:=Zl D;injection e
 subst d9;have HW:Hid (WB w B b l):=h;have c5:Hid (bl nm=a.name):=X;have N:Hid (bs.map Z7=a.jq):=M;have p:Hid (l.length+nm.size+cw (bs.map Z7)+10<=big):=hid (by rw[M,ZU X];exact Y);have HO:Hid (w.ownsRow 0 247 3 (.slice la bs.length lc) bs.length (Zb1 bs)):=D
 have e8:bs.length<=1000000:=by
  have j:=p.out
  have V:bs.length<=cw (bs.map Z7):=by
   clear j p HO N D M
   induction bs with
   | nil=>exact Yag _
   | cons c l ih=>simp only[Ybb,cw,Yaj];omega
  unfold big at j;omega
 clear h X M Y D;go_enter func83,ntmps83
 go_upto_region 1 with fail
 refine ZP fun W0 Z=>?_;have O:BW w W0:=by rw[Z];exact Zbal
 have P:Hid (BAt W0 w.heap.size [.string nm,.slice la bs.length lc] 179):=hid (by rw[Z];exact Go.Deep.blk_alloc_new _ _);have Q:Hid (WB W0 B b l):=HW.below O;have c6:Hid (WK B b w W0):=WK.below O HW.le;have c7:=hid (Zn HO.out O);clear Z O;have s0:=P.cell 0;have s1:=P.cell 1;simp only[Zget]at s0 s1
 go_wp2_with fail
 refine(Zda Q.out nm (by have:=p.out;omega)).mono ?_;rintro e w1 ⟨rfl,H,E⟩;have a0:Hid (WK B b w w1):=c6.trans E.out;have a5:=hid (WK.bat Q.out E.out P.out Dc Dc);have a6:=hid (WK.own Q.out E.out c7.out Dc Dc);clear E s0 s1 P c6 Q c7;have s1:=a5.cell 1;simp only[Zget]at s1;by_cases hz:bs.length=0
 ·have HE:Hid (selS a=bl nm):=hid (by
   have:bs=[]:=Ya3 hz;unfold selS;rw[<-N.out,this,c5.out];rfl)
  rw[hz]at s1;go_wp2;exact bodyPost_ret (v:=.tuple #[]) (results_none rfl _ _ _) rfl ⟨rfl,by rw[HE.out];exact H,a0⟩
 ·have hp:0<bs.length:=by omega
  have HE:Hid (selS a=bl nm++[123]++ZcN bs bs.length++[125]):=hid (by
   unfold selS;rw[if_neg (by rw[<-N.out];intro e;rw[Ydt]at e;subst e;exact hz rfl),Zvb,N.out,c5.out])
  have e9:((bs.length:Int) == 0)=false:=by rw[beq_eq_false_iff_ne];omega
  obtain⟨g,cp,hg⟩:=ZF a6.out hp;injection hg with hg1 _ hg2;subst hg1 hg2
  go_wp2_with fail
  refine(Zda H.out ⟨#[123]⟩ (by rw[Yab,Zd];have:=p.out;show _+1<=_;omega)).mono ?_;rintro e z ⟨rfl,c8,F⟩;have c9:Hid (WK B b w z):=a0.trans F.out;have d3:=hid (WK.bat H.out F.out a5.out Dc Dc);have d4:=hid (WK.own H.out F.out a6.out Dc Dc);have e3:Hid (l++bl nm++[123]++ZcN bs 0=l++bl nm++[123]):=hid (by show _++commas ([]:List (LB))=_;simp[commas]);clear F s1 a5 a0 H a6;have s1:=d3.cell 1;simp only[Zget]at s1;go_wp2
  go_loopg [19] bs.length (fun gk v19 wr=>∃k:Nat,k<=bs.length/\gk=bs.length - k/\v19=Vi k/\Hid (WB wr B b (l++bl nm++[123]++ZcN bs k))/\Hid (WK B b w wr)/\Hid (wr.ownsRow 0 247 3 (.slice (some ⟨g,0,none⟩) bs.length lc) bs.length (Zb1 bs)))
  case atStart=>exact⟨0,Yag _,rfl,rfl,by rw[e3.out];exact c8,c9,d4⟩
  case round=>
   obtain⟨k,hk,f0,rfl,R,a7,A⟩:=hrel;clear c8 c9 d4 s1 d3;by_cases d5:k<bs.length
   ·have I:Hid (ZcN bs (k+1)=(if k=0 then [] else ZcN bs k++[44])++Z8 (Z7 bs[k])):=hid (Zvc bs k d5);have d6:Hid ((ZcN bs (k+1)).length<=cw (bs.map Z7)):=hid (Zld bs (k+1));have q:Hid (Z8 (Z7 bs[k])=bl bs[k].1++(if bs[k].2.2 then [33,61] else [61])++[34]++bl bs[k].2.1++[34]):=hid (Zu7 bs[k]);obtain⟨f1,f2,f3⟩:=Zwc bs k;rw[List.getElem?_eq_getElem d5]at f1 f2 f3;simp only[Ybf]at f1 f2 f3;have r0:=Zi A.out _ _ f1;have r1:=Zi A.out _ _ f2;have r2:=Zi A.out _ _ f3;clear f1 f2 f3;obtain⟨⟨x,y,ng⟩,hc⟩:∃c,c=bs[k]:=⟨_,rfl⟩
    rw[<-hc]at r0 r1 r2 I q;simp only at r0 r1 r2 q;have f4:=Z1 A.out;clear hc
    go_upto_region 7 with fail
    refine ZP fun L a8=>?_;have S:BW wr L:=by rw[a8];exact Zbal
    have J:Hid (BAt L wr.heap.size [.string x,.bool ng,.string y] 247):=hid (by rw[a8];exact Go.Deep.blk_alloc_new _ _);have C:Hid (WB L B b (l++bl nm++[123]++ZcN bs k)):=R.below S;have T:Hid (WK B b w L):=a7.trans (WK.below S R.le);have U:=hid (Zn A.out S);clear a8 S R a7 A r0 r1 r2;have e4:Hid (k=0∨0<k):=hid Om;rcases e4.out with a9|a9
    ·have m:Hid (WB L B b (l++bl nm++[123]++(if k=0 then [] else ZcN bs k++[44]))):=hid (by
      rw[if_pos a9,Yca];have h3:=C.out;rw[a9,show ZcN bs 0=[] from rfl,Yca]at h3;exact h3)
     have n:=J;have b0:=T;have b1:=U;clear C J T U;have e5:¬(0:Int)<k:=by omega
     go_upto_region 9 with fail
     have c0:=n.cell 0;have c1:=n.cell 1;have c2:=n.cell 2;simp only[Zget]at c0 c1 c2;obtain⟨sg,r⟩:∃sg:BA,sg=(if ng then ⟨#[33,61]⟩else ⟨#[61]⟩):=⟨_,rfl⟩
     have b2:Hid (sg=(if ng then ⟨#[33,61]⟩else ⟨#[61]⟩)):=r;have s:Hid (bl sg=(if ng then [33,61] else [61])):=hid (by rw[r];cases ng <;> rfl)
     have K:Hid (l.length+nm.size+1+(if k=0 then [] else ZcN bs k++[44]).length+(Z8 (Z7 (x,y,ng))).length+8<=big):=hid (by
      have j:=p.out;have V:=d6.out;rw[I.out,Yab]at V;omega)
     have b3:x.size+sg.size+y.size+2<=1000000:=by
      have j:=K.out;rw[q.out,<-s.out]at j;simp only[Yab,Zd,Yaj,Ybq]at j;unfold big at j;omega
     clear r;have a1:∀W,(Op.stringOp .add x sg).run prog W=.ok (.string (x++sg)) W:=fun W=>run_string_add_sum W _ _ Om;have y1:(x++sg:BA).size=x.size+sg.size:=by rw[Yaz]
     have a2:∀W,(Op.stringOp .add (x++sg) ⟨#[34]⟩).run prog W=.ok (.string ((x++sg)++⟨#[34]⟩)) W:=fun W=>run_string_add_sum W _ _ (by rw[y1];show _+1<=_;omega);have y2:((x++sg)++⟨#[34]⟩:BA).size=x.size+sg.size+1:=by rw[Yaz,y1];rfl
     have a3:∀W,(Op.stringOp .add ((x++sg)++⟨#[34]⟩) y).run prog W=.ok (.string (((x++sg)++⟨#[34]⟩)++y)) W:=fun W=>run_string_add_sum W _ _ (by rw[y2];omega);have y3:(((x++sg)++⟨#[34]⟩)++y:BA).size=x.size+sg.size+1+y.size:=by rw[Yaz,y2]
     have a4:∀W,(Op.stringOp .add (((x++sg)++⟨#[34]⟩)++y) ⟨#[34]⟩).run prog W=.ok (.string ((((x++sg)++⟨#[34]⟩)++y)++⟨#[34]⟩)) W:=fun W=>run_string_add_sum W _ _ (by rw[y3];show _+1<=_;omega)
     have b4:Hid (((((x++sg)++⟨#[34]⟩)++y)++⟨#[34]⟩:BA).size=(Z8 (Z7 (x,y,ng))).length):=hid (by
      rw[q.out,<-s.out];simp only[Yab,Zd,Yaz];rfl)
     have b5:Hid (bl ((((x++sg)++⟨#[34]⟩)++y)++⟨#[34]⟩)=Z8 (Z7 (x,y,ng))):=hid (by
      rw[q.out,<-s.out,ZcV,ZcV,ZcV,ZcV];rfl)
     clear y1 y2 y3 b3
     go_region_held3 (fun u => u.cell? ⟨wr.heap.size, 0, none⟩ = some (.string x) /\ u.cell? ⟨wr.heap.size, 1, none⟩ = some (.bool ng) /\ u.cell? ⟨wr.heap.size, 2, none⟩ = some (.string y)) (first | exact ⟨e0, e1, e2⟩ | exact ⟨d0, d1, d2⟩ | exact ⟨c0, c1, c2⟩ | go_keep) (first
       | (go_at_call 123
          refine(ZoC x y ng).mono ?_;rintro e w5 ⟨rfl,d⟩;rw[<-b2.out];have f:Hid (BW L w5):=hid ⟨d.os,d.tape,d.output,d.size,d.block⟩;have o:=hid (n.below f.out);have d0:=o.cell 0;have d1:=o.cell 1;have d2:=o.cell 2;simp only[Zget]at d0 d1 d2;clear d)
       | (go_at_call 77
          refine(Zda (m.below f.out) _ (by rw[b4.out];have:=K.out;simp only[Yab,Zd,Yaj,Ybq];omega)).mono ?_;rintro e w6 ⟨rfl,b6,i⟩;have t:=hid (WK.bat (m.below f.out) i.out o.out Dc Dc);have e0:=t.cell 0;have e1:=t.cell 1;have e2:=t.cell 2;simp only[Zget]at e0 e1 e2;have b7:Hid (WK B b w w6):=b0.trans ((WK.below f.out m.le).trans i.out);have b8:=hid (WK.own (m.below f.out) i.out (Zn b1.out f.out) Dc Dc);clear i))
     have b9:Hid (WB w6 B b (l++bl nm++[123]++ZcN bs (k+1))):=hid (by
      rw[I.out,<-b5.out,<-Yan];exact b6.out)
     go_wp2
     go_roundg (bs.length - (k+1))
     case measure=>omega
     case rel=>exact⟨k+1,by omega,rfl,by go_num,b9,b7,b8⟩
    ·have d8:=J;have e5:(0:Int)<k:=by omega
     go_wp2_with fail
     refine(Zda C.out ⟨#[44]⟩ (by have j:=p.out;have V:=Zld bs k;simp only[Yab,Zd];show _+1<=_;simp only[Yaj,Ybq];omega)).mono ?_;rintro e w4 ⟨rfl,c3,G⟩
     have m:Hid (WB w4 B b (l++bl nm++[123]++(if k=0 then [] else ZcN bs k++[44]))):=hid (by
      rw[if_neg Om,<-Yan];exact c3.out)
     have n:=hid (WK.bat C.out G.out J.out Dc Dc);have b0:Hid (WK B b w w4):=T.trans G.out;have b1:=hid (WK.own C.out G.out U.out Dc Dc);clear C J T U G c3 d8
     go_upto_region 9 with fail
     have c0:=n.cell 0;have c1:=n.cell 1;have c2:=n.cell 2;simp only[Zget]at c0 c1 c2;obtain⟨sg,r⟩:∃sg:BA,sg=(if ng then ⟨#[33,61]⟩else ⟨#[61]⟩):=⟨_,rfl⟩
     have b2:Hid (sg=(if ng then ⟨#[33,61]⟩else ⟨#[61]⟩)):=r;have s:Hid (bl sg=(if ng then [33,61] else [61])):=hid (by rw[r];cases ng <;> rfl)
     have K:Hid (l.length+nm.size+1+(if k=0 then [] else ZcN bs k++[44]).length+(Z8 (Z7 (x,y,ng))).length+8<=big):=hid (by
      have j:=p.out;have V:=d6.out;rw[I.out,Yab]at V;omega)
     have b3:x.size+sg.size+y.size+2<=1000000:=by
      have j:=K.out;rw[q.out,<-s.out]at j;simp only[Yab,Zd,Yaj,Ybq]at j;unfold big at j;omega
     clear r;have a1:∀W,(Op.stringOp .add x sg).run prog W=.ok (.string (x++sg)) W:=fun W=>run_string_add_sum W _ _ Om;have y1:(x++sg:BA).size=x.size+sg.size:=by rw[Yaz]
     have a2:∀W,(Op.stringOp .add (x++sg) ⟨#[34]⟩).run prog W=.ok (.string ((x++sg)++⟨#[34]⟩)) W:=fun W=>run_string_add_sum W _ _ (by rw[y1];show _+1<=_;omega);have y2:((x++sg)++⟨#[34]⟩:BA).size=x.size+sg.size+1:=by rw[Yaz,y1];rfl
     have a3:∀W,(Op.stringOp .add ((x++sg)++⟨#[34]⟩) y).run prog W=.ok (.string (((x++sg)++⟨#[34]⟩)++y)) W:=fun W=>run_string_add_sum W _ _ (by rw[y2];omega);have y3:(((x++sg)++⟨#[34]⟩)++y:BA).size=x.size+sg.size+1+y.size:=by rw[Yaz,y2]
     have a4:∀W,(Op.stringOp .add (((x++sg)++⟨#[34]⟩)++y) ⟨#[34]⟩).run prog W=.ok (.string ((((x++sg)++⟨#[34]⟩)++y)++⟨#[34]⟩)) W:=fun W=>run_string_add_sum W _ _ (by rw[y3];show _+1<=_;omega)
     have b4:Hid (((((x++sg)++⟨#[34]⟩)++y)++⟨#[34]⟩:BA).size=(Z8 (Z7 (x,y,ng))).length):=hid (by
      rw[q.out,<-s.out];simp only[Yab,Zd,Yaz];rfl)
     have b5:Hid (bl ((((x++sg)++⟨#[34]⟩)++y)++⟨#[34]⟩)=Z8 (Z7 (x,y,ng))):=hid (by
      rw[q.out,<-s.out,ZcV,ZcV,ZcV,ZcV];rfl)
     clear y1 y2 y3 b3
     go_region_held3 (fun u => u.cell? ⟨wr.heap.size, 0, none⟩ = some (.string x) /\ u.cell? ⟨wr.heap.size, 1, none⟩ = some (.bool ng) /\ u.cell? ⟨wr.heap.size, 2, none⟩ = some (.string y)) (first | exact ⟨e0, e1, e2⟩ | exact ⟨d0, d1, d2⟩ | exact ⟨c0, c1, c2⟩ | go_keep) (first
       | (go_at_call 123
          refine(ZoC x y ng).mono ?_;rintro e w5 ⟨rfl,d⟩;rw[<-b2.out];have f:Hid (BW w4 w5):=hid ⟨d.os,d.tape,d.output,d.size,d.block⟩;have o:=hid (n.below f.out);have d0:=o.cell 0;have d1:=o.cell 1;have d2:=o.cell 2;simp only[Zget]at d0 d1 d2;clear d)
       | (go_at_call 77
          refine(Zda (m.below f.out) _ (by rw[b4.out];have:=K.out;simp only[Yab,Zd,Yaj,Ybq];omega)).mono ?_;rintro e w6 ⟨rfl,b6,i⟩;have t:=hid (WK.bat (m.below f.out) i.out o.out Dc Dc);have e0:=t.cell 0;have e1:=t.cell 1;have e2:=t.cell 2;simp only[Zget]at e0 e1 e2;have b7:Hid (WK B b w w6):=b0.trans ((WK.below f.out m.le).trans i.out);have b8:=hid (WK.own (m.below f.out) i.out (Zn b1.out f.out) Dc Dc);clear i))
     have b9:Hid (WB w6 B b (l++bl nm++[123]++ZcN bs (k+1))):=hid (by
      rw[I.out,<-b5.out,<-Yan];exact b6.out)
     go_wp2
     go_roundg (bs.length - (k+1))
     case measure=>omega
     case rel=>exact⟨k+1,by omega,rfl,by go_num,b9,b7,b8⟩
   ·obtain rfl:k=bs.length:=by omega
    go_wp2_with fail
    refine(Zda R.out ⟨#[125]⟩ (by have j:=p.out;have V:=Zld bs bs.length;simp only[Yab,Zd,Yaj,Ybq];show _+1<=_;omega)).mono ?_;rintro e w8 ⟨rfl,d7,c4⟩;have e6:Hid (WK B b w w8):=a7.trans c4.out;have e7:Hid (WB w8 B b (l++selS a)):=hid (by rw[HE.out];have:=d7.out;simp only[Yan]at this ⊢;exact this);clear c4 d7;go_wp2
    go_end0
    exact⟨rfl,e7,e6⟩

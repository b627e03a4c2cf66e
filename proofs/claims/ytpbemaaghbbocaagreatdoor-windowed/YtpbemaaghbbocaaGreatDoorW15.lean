/- Parts. -/
import Derived.Test.YtpbemaaghbbocaaGreatDoorW14
import Derived.Deep.AppendLies
import Derived.Test.YtpbemaaghbbocaaGreatDoorW07
set_option linter.all false
set_option maxRecDepth 100000
set_option maxHeartbeats 16000000
namespace Go.Proofs.YtpbemaaghbbocaaGreatDoor
open Go.RowKit LS Go.Proofs.Tryz
variable {t:Int}{x:Int×Int}{inside l last:LB}{qs:List (BA×BA)}{R:List (Int×Int)}{P:List (LB)}{acc ps:List (LB×LB)}{os rs' zs zs':List (Value×El)}{rs:List (Value×Value×Value)}{es:List Entry}{bs c xa xs ya:List Value}{B a b n s vc vn:Nat}{va:Option Addr}{p:PV}{lv v vv:Value}{W w w' wr:World}
theorem ZMR{x:LB}{p:LB×LB}(h:Zd5 last x=some p):p.1.length<=8/\p.2.length<=8:=by
 unfold Zd5 at h;cases e:cut 61 x with
 | none=>rw[e]at h;cases h
 | some q=>
  obtain⟨n,v⟩:=q;rw[e]at h;simp only at h;split at h
  ·rename_i a;have:=Yax h;subst this;simp only[Yas]at a;have c:=a.1.1.1;have d:=a.1.1.2;unfold Zx at c;unfold Z3 at d;simp only[Yas,decide_eq_true_eq]at c d;exact⟨by have:=c.2.2;show n.length<=8;omega,by have:=d.2;show v.length<=8;omega⟩
  ·cases h
theorem ZMS{xs:List (LB)}(h:ZbS last acc xs=some ps)(d:∀p∈acc,p.1.length<=8/\p.2.length<=8):ps.length=acc.length+xs.length/\∀p∈ps,p.1.length<=8/\p.2.length<=8:=by
 induction xs generalizing last acc with
 | nil=>simp only[ZbS,Yci]at h;subst h;exact⟨rfl,d⟩
 | cons x xs ih=>
  unfold ZbS at h;cases c:Zd5 last x with
  | none=>rw[c]at h;cases h
  | some p=>
   rw[c]at h
   have := ih h (fun q a => by
     rcases Yar.1 a with a|a
     · exact d q a
     · simp at a;subst a;exact ZMR c)
   exact⟨by rw[this.1];simp;omega,this.2⟩
theorem ZK5(h:Zcc l=some ps)(a:l.length<=6000):ps.length<=6001/\∀p∈ps,p.1.length<=8/\p.2.length<=8:=by
 unfold Zcc at h;split at h
 ·have:=Yax h;subst this;simp
 ·have:=ZMS h (by simp);exact⟨by rw[this.1];have:=Zhd 44 l;simp;omega,this.2⟩
def ZJL(w:World)(lv:Value)(inside:LB):Prop:=∃qs:List (BA×BA),w.ownsRow 0 216 2 lv qs.length (ZJt qs)/\Zcc inside=some (qs.map bl2)
theorem ZJL.below(h:ZJL w lv inside)(a:BW w w'):ZJL w' lv inside:=by
 obtain⟨qs,c,d⟩:=h;exact⟨qs,Zn c a,d⟩
theorem ZJL.grown{e:TypeId}(h:ZJL w lv inside)(c:w.grownBy w' v.ownBlock)(d:w.ownsRow b e s v n xs)(f:216≠e):ZJL w' lv inside:=by
 obtain⟨qs,a,g⟩:=h;exact⟨qs,a.kept c (ZmC a d f),g⟩
def ZJA(w:World)(rs:List (Value×Value×Value))(es:List Entry):Prop:=rs.length=es.length/\∀j (h:j<es.length),∃(nm:BA) (la:Option Addr) (ln lc:Nat) (sa:Option Addr) (sc:Nat),
 rs[j]?=some (.string nm,.slice la ln lc,.slice sa (es[j]).count sc)/\bl nm=(es[j]).name/\Zx (es[j]).name=true/\(es[j]).inside.length<=6000/\ZJL w (.slice la ln lc) (es[j]).inside
theorem ZJA.nil(w:World):ZJA w [] []:=⟨rfl,fun j h=>by simp at h⟩
theorem ZJA.below(h:ZJA w rs es)(a:BW w w'):ZJA w' rs es:=
 ⟨h.1,fun j c=>by obtain⟨nm,la,ln,lc,sa,sc,e1,e2,e3,e4,e5⟩:=h.2 j c;exact⟨nm,la,ln,lc,sa,sc,e1,e2,e3,e4,e5.below a⟩⟩
theorem ZJA.grown{e:TypeId}(h:ZJA w rs es)(a:w.grownBy w' v.ownBlock)(c:w.ownsRow b e s v n xs)(d:216≠e):ZJA w' rs es:=
 ⟨h.1,fun j f=>by obtain⟨nm,la,ln,lc,sa,sc,e1,e2,e3,e4,e5⟩:=h.2 j f;exact⟨nm,la,ln,lc,sa,sc,e1,e2,e3,e4,e5.grown a c d⟩⟩
theorem ZJA.snoc(h:ZJA w rs es)(x:Entry)(nm:BA)(la:Option Addr)(ln lc:Nat)(sa:Option Addr)(sc:Nat)
  (d:bl nm=x.name) (e:Zx x.name=true) (f:x.inside.length<=6000) (g:ZJL w (.slice la ln lc) x.inside):ZJA w (rs++[(.string nm,.slice la ln lc,.slice sa x.count sc)]) (es++[x]):=by
 refine⟨by simp[h.1],fun j i=>?_⟩;by_cases a:j<es.length
 ·obtain⟨nm',la',ln',lc',sa',sc',e1,e2⟩:=h.2 j a;refine⟨nm',la',ln',lc',sa',sc',?_⟩;rw[Ybr (by rw[h.1];exact a),List.getElem_append_left a];exact⟨e1,e2⟩
 ·have c:j=es.length:=by simp at i;omega
  subst c;refine⟨nm,la,ln,lc,sa,sc,?_⟩;rw[Yb3 (by rw[h.1];exact Yac _),h.1];simp[d,e,f,g]
def ZJv(w:World)(rs:List (Value×Value×Value))(es:List Entry)(P:List (LB)):Prop:=∀j (h:j<es.length),∃(x y:Value) (sa:Option Addr) (sc:Nat),rs[j]?=some (x,y,.slice sa (es[j]).count sc)/\w.ownsRow 0 220 2 (.slice sa (es[j]).count sc) (es[j]).count (Zca (Zdo (P.getD (es[j]).at_ [])))
theorem ZJv.nil(w:World)(P:List (LB)):ZJv w [] [] P:=fun j h=>by simp at h
theorem ZJv.below  {rs : List (Value × Value × Value)}   (h : ZJv w rs es P) (a : BW w w') : ZJv w' rs es P := fun j c => by
  obtain⟨x,y,sa,sc,e1,e2⟩:=h j c;exact⟨x,y,sa,sc,e1,Zn e2 a⟩
theorem ZJv.grown  {rs : List (Value × Value × Value)}    {e : TypeId}     (h : ZJv w rs es P) (a : w.grownBy w' v.ownBlock) (c : w.ownsRow b e s v n xs) (d : 220 ≠ e) : ZJv w' rs es P := fun j f => by
  obtain⟨x,y,sa,sc,e1,e2⟩:=h j f;exact⟨x,y,sa,sc,e1,e2.kept a (ZmC e2 c d)⟩
theorem ZJv.snoc(c:rs.length=es.length)(h:ZJv w rs es P)(z:Entry)(x y:Value)(sa:Option Addr)(sc:Nat)
  (e:w.ownsRow 0 220 2 (.slice sa z.count sc) z.count (Zca (Zdo (P.getD z.at_ [])))):ZJv w (rs++[(x,y,.slice sa z.count sc)]) (es++[z]) P:=fun j f=>by
 by_cases a:j<es.length
 ·obtain⟨x',y',sa',sc',e1,e2⟩:=h j a;refine⟨x',y',sa',sc',?_⟩;rw[Ybr (by rw[c];exact a),List.getElem_append_left a];exact⟨e1,e2⟩
 ·have d:j=es.length:=by simp at f;omega
  subst d;refine⟨x,y,sa,sc,?_⟩;rw[Yb3 (by rw[c];exact Yac _),c];simp only[Yfw,Ycy,List.getElem_append_right (Yac _),List.getElem_cons_zero];exact⟨trivial,e⟩
def ZJT(w:World)(v:Value)(l:LB):Prop:=∃(es:List Entry) (rs:List (Value×Value×Value)),Zbh 0 [] (split 10 l)=.inr es/\Zfk [] es=none/\es.length<=30/\w.ownsRow 0 122 3 v es.length (ZJD rs)/\ZJA w rs es/\ZJv w rs es (split 10 l)
theorem ZJT.below(h:ZJT w v l)(a:BW w w'):ZJT w' v l:=by
 obtain⟨es,rs,c,d,e,f,g,i⟩:=h;exact⟨es,rs,c,d,e,Zn f a,g.below a,i.below a⟩
theorem Tryz.infoInt:(Tryz.prog.info? 3).map (fun i=>(i.zero,i.size,i.bytes))=some (some (Vi 0),1,8):=by kernel_rfl
structure SamsV (w:World) (v:Value) (l:List (Int×Int)):Prop where
 own:w.ownsRow 0 220 2 v l.length (Zca l)
 len:l.length<=6001
 ok:∀x∈l,smOk x
theorem SamsV.below{l:List (Int×Int)}(h:SamsV w v l)(a:BW w w'):SamsV w' v l:=⟨Zn h.own a,h.len,h.ok⟩
theorem ZJO{w0:World}(h:BW w0 w)(a:w.grownBy w' v.ownBlock)(d:∀q,v.ownBlock=some q->w0.heap.size<=q):BW w0 w':=by
 refine⟨a.os.trans h.os,a.tape.trans h.tape,a.output.trans h.output,Yah h.size a.size,?_⟩;intro j c;rw[a.block j (Yaw c h.size) (fun e=>by have:=d j e.symm;omega),h.block j c]
structure LabsV (w:World) (v:Value) (l:List Lab) (qs:List (BA×BA)):Prop where
 own:w.ownsRow 0 216 2 v qs.length (ZJt qs)
 say:qs.map bl2=l
 len:qs.length<=6001
 ok:∀q∈qs,q.1.size<=6000/\q.2.size<=6000
theorem LabsV.below{l:List Lab}(h:LabsV w v l qs)(a:BW w w'):LabsV w' v l qs:=⟨Zn h.own a,h.say,h.len,h.ok⟩
theorem LabsV.drewN{l:List Lab}(h:LabsV w v l qs)(n:Nat):LabsV (w.drewN n) v l qs:=⟨ZzW h.own n,h.say,h.len,h.ok⟩
theorem ZcW{a b:BA}(h:bl a=bl b):a=b:=by
 cases a with | mk x => cases b with | mk y =>
   have:x=y:=by
     have c:x.toList=y.toList:=h;exact Array.toList_inj.mp c
   rw[this]
theorem Ztm(l:List Lab):∀k,k<=l.length->ZfK l k=wrt (l.take k)
 | 0,_=>rfl
 | k + 1, h => by
   have a:k<l.length:=h;rw[ZfK,Ztm l k Om];unfold wrt;rw[List.take_succ_eq_append_getElem a,Yaq,Yco,Zlc];have c:l.getD k ([],[])=l[k]:=by rw[Yaa,List.getElem?_eq_getElem a];rfl
   rw[c];by_cases d:0<k
   · rw[if_pos d,if_neg]
     · simp[lab1]
     · rw[Ydl]
       intro e;have:=congrArg List.length e;rw[Yak,Ya7,Ybq]at this;omega
   · obtain rfl:k=0:=by omega
     simp[lab1,commas]
def ZJp:List (Value×El)->List Value
 | []=>[]
 | z::l=>z.1::.int .i64 z.2.2::ZJp l
def ElOk(w:World)(z:Value×El):Prop:=(∃qs,LabsV w z.1 z.2.1 qs)/\vOk z.2.2
theorem ElOk.below{z:Value×El}(h:ElOk w z)(a:BW w w'):ElOk w' z:=⟨h.1.elim fun qs c=>⟨qs,c.below a⟩,h.2⟩
structure ElsV (w:World) (v:Value) (zs:List (Value×El)):Prop where
 own:w.ownsRow 0 128 2 v zs.length (ZJp zs)
 len:zs.length<=1000000
 ok:∀z∈zs,ElOk w z
theorem ElsV.below(h:ElsV w v zs)(a:BW w w'):ElsV w' v zs:=⟨Zn h.own a,h.len,fun z c=>(h.ok z c).below a⟩
structure NamsV (w:World) (v:Value) (ns:List BA):Prop where
 own:w.ownsRow 0 9 1 v ns.length (ns.map .string)
 len:ns.length<=100000
theorem NamsV.below{ns:List BA}(h:NamsV w v ns)(a:BW w w'):NamsV w' v ns:=⟨Zn h.own a,h.len⟩
abbrev SZ:=BA×Value×Value×Ser
def ZJM:List SZ->List Value
 | []=>[]
 | s::l=>.string s.1::s.2.1::s.2.2.1::ZJM l
def ZJ8(w:World)(s:SZ):Prop:=bl s.1=s.2.2.2.name/\(∃qs,LabsV w s.2.1 s.2.2.2.labs qs)/\SamsV w s.2.2.1 s.2.2.2.jz
theorem ZJ8.below{s:SZ}(h:ZJ8 w s)(a:BW w w'):ZJ8 w' s:=⟨h.1,h.2.1.elim fun qs c=>⟨qs,c.below a⟩,h.2.2.below a⟩
structure StoV (w:World) (v:Value) (ss:List SZ):Prop where
 own:w.ownsRow 0 122 3 v ss.length (ZJM ss)
 len:ss.length<=900
 ok:∀s∈ss,ZJ8 w s
theorem StoV.below{ss:List SZ}(h:StoV w v ss)(a:BW w w'):StoV w' v ss:=⟨Zn h.own a,h.len,fun s c=>(h.ok s c).below a⟩
def ZJQ(ss:List SZ):List Ser:=ss.map (·.2.2.2)
theorem LabsV.other{l:List Lab}(h:LabsV w v l qs)(d:BAt w a c 76)(f:∀j,j≠a->w'.heap[j]?=w.heap[j]?):LabsV w' v l qs:=
 ⟨ZdA h.own (fun j g=>f j (fun e=>Zcx h.own d Dc (by rw[g,e]))),h.say,h.len,h.ok⟩
theorem ElsV.other(h:ElsV w v zs)(d:BAt w a c 76)(f:∀j,j≠a->w'.heap[j]?=w.heap[j]?):ElsV w' v zs:=
 ⟨ZdA h.own (fun j k=>f j (fun e=>Zcx h.own d Dc (by rw[k,e]))),h.len,fun z g=>⟨(h.ok z g).1.elim fun qs i=>⟨qs,i.other d f⟩,(h.ok z g).2⟩⟩
structure WinI (w wr:World) (p:PV) (vv:Value) (zs:List (Value×El)):Prop where
 bel:BW w wr
 pb:PAt wr w.heap.size p
 rb:BAt wr (w.heap.size+1) [.bool false,Vi 0,S0] 76
 vb:BAt wr (w.heap.size+2) [.bool false,Vi 0,vv] 76
 els:ElsV wr vv zs
theorem WinI.below(h:WinI w wr p vv zs)(a:BW wr w'):WinI w w' p vv zs:=
 ⟨h.bel.trans (a.mono h.bel.size),(a.block _ h.pb.lt).trans h.pb,h.rb.below a,h.vb.below a,h.els.below a⟩
theorem WinI.set{rv:Value}(h:WinI w wr p vv zs)(c:ElsV wr rv zs'):WinI w (wr.setCell ⟨w.heap.size+2,2,none⟩ rv) p rv zs':=by
 have a:∀j,j≠w.heap.size+2->(wr.setCell ⟨w.heap.size+2,2,none⟩ rv).heap[j]?=wr.heap[j]?:=fun j d=>Go.Deep.blk_setCell_other _ _ _ _ d;refine⟨h.bel.setCell (p:=⟨w.heap.size+2,2,none⟩) (by show w.heap.size<=w.heap.size+2;omega) _,(a _ Om).trans h.pb,(a _ Om).trans h.rb,?_,c.other h.vb a⟩;have:=h.vb;unfold BAt at this ⊢;simp only[World.setCell,Ybn,this,if_true,Ybf];rfl
def serE(P:List (LB))(e:Entry):Ser:=⟨e.name,(Zcc e.inside).getD [],Zdo (P.getD e.at_ [])⟩
def Ze6(l:LB):List Ser:=match Zbh 0 [] (split 10 l)with
 | .inr es=>es.map (serE (split 10 l))
 | .inl _=>[]
theorem ZMt(l:List (Int×Int)):(Zca l).length=l.length*2:=by
 induction l with
 | nil=>rfl
 | cons a l ih=>simp only[Zca,Yaj,ih];omega
theorem ZBM:∀x∈Zdo l,smOk x:=by
 intro x a;unfold Zdo at a;split at a
 ·rename_i b _;cases hd:l.drop (b+1)with
  | nil=>rw[hd]at a;cases a
  | cons c t=>
   rw[hd]at a;obtain⟨y,_,rfl⟩:=Ybe.1 a;exact ZCr y
 ·cases a
theorem Zoa{α:Type}(Q:Nat->α->Prop):∀n:Nat,(∀j,j<n->∃z,Q j z)->∃zs:List α,zs.length=n/\∀j (h:j<zs.length),Q j zs[j]
 | 0,_=>⟨[],rfl,fun j h=>absurd h (Ya1 _)⟩
 | n + 1, h => by
   obtain⟨zs,c,f⟩:=Zoa Q n (fun j d=>h j Om);obtain⟨z,g⟩:=h n Om;refine⟨zs++[z],by simp[c],fun j d=>?_⟩;by_cases a:j<zs.length
   · rw[List.getElem_append_left a];exact f j a
   · have e:j=zs.length:=by simp at d;omega
     subst e;rw[List.getElem_append_right (Yac _)];simp only[Yfw,List.getElem_cons_zero];rw[c];exact g
theorem ZMv(zs:List SZ)(rs:List (Value×Value×Value))(a:rs.length=zs.length)(h:∀j (d:j<zs.length),rs[j]?=some (.string zs[j].1,zs[j].2.1,zs[j].2.2.1)):ZJM zs=ZJD rs:=by
 induction zs generalizing rs with
 | nil => cases rs with
   | nil=>rfl
   | cons _ _=>simp at a
 | cons z zs ih=>
  cases rs with
  | nil=>simp at a
  | cons r rs=>
   have c:=h 0 (by simp);simp only[Ycy,List.getElem_cons_zero,Yci]at c;subst c;rw[ZJM,ZJD,ih rs (by simpa using a) (fun j d=>by have:=h (j+1) (by simp;omega);simpa using this)]
theorem ZoQ : ∀ (rest seen : List Entry), Zfk seen rest = none -> (rest.Pairwise fun a b => ZdO a ≠ ZdO b) /\ ∀ e ∈ rest, ∀ s ∈ seen, ZdO s ≠ ZdO e
  | [],_,_=>⟨List.Pairwise.nil,fun _ h=>by cases h⟩
  | e :: rest, seen, h => by
    unfold Zfk at h;split at h
    · cases h
    · rename_i i
      obtain⟨j,d⟩:=ZoQ rest (seen++[e]) h;refine⟨Ybg.2 ⟨fun b k=>d b k e (by simp),j⟩,fun f c s g=>?_⟩;rcases Yau.1 c with rfl|c
      · intro l
        refine i ?_;rw[Ydk,<-l];exact Ybe.2 ⟨s,g,rfl⟩
      · exact d f c s (Yc7 _ g)
theorem Ztn{ps:List Lab}(h:Zcc l=some ps):wrt ps=l:=by
 have:=ZE1 h
 rwa [Ztm ps _ (Yac _),Ya4]at this
theorem ZJT.sto(N:l.length<=6000)(h:ZJT w v l):∃ss:List SZ,StoV w v ss/\ZJQ ss=Ze6 l/\Dst (Ze6 l)/\ss.length<=30:=by
 obtain⟨es,rs,s,D,P,E,g,F⟩:=h
 have G : ∀ j (c : j < es.length), (es[j]).count <= 6001 := fun j c => (ZqJ s (by simp) (fun p H => by
   obtain⟨i,m,rfl⟩:=List.mem_iff_getElem.1 H;have:=Zkd 10 l i m;rw[Yaa,List.getElem?_eq_getElem m,Ya6]at this;omega)).2 _ (List.getElem_mem c)
 have t := Zoa (fun j (z : SZ) => ∃ c : j < es.length, rs[j]? = some (.string z.1, z.2.1, z.2.2.1) /\ z.2.2.2 = serE (split 10 l) es[j] /\ ZJ8 w z) es.length (fun j c => by
   obtain⟨nm,la,ln,lc,sa,sc,e1,e2,e3,e4,qs,e5,e6⟩:=g.2 j c;obtain⟨x,y,sa',sc',d1,d2⟩:=F j c;rw[e1]at d1;injection d1 with d1;injection d1 with _ d1;injection d1 with _ d1;injection d1 with d1 _ d3;subst d1 d3;have o:=ZK5 e6 e4;have u:=d2.1;rw[ZMt]at u;have d:(Zdo ((split 10 l).getD (es[j]).at_ [])).length=(es[j]).count:=by omega
   refine⟨(nm,.slice la ln lc,.slice sa (es[j]).count sc,serE (split 10 l) es[j]),c,e1,rfl,e2,⟨qs,e5,?_,?_,fun q I=>?_⟩,?_,?_,ZBM⟩
   · show qs.map bl2=(Zcc (es[j]).inside).getD []
     rw[e6];rfl
   · have:=o.1;rwa [Yak]at this
   · have:=o.2 (bl2 q) (Ybe.2 ⟨q,I,rfl⟩)
     have g1:q.1.size<=8:=by rw[<-Zd];exact this.1
     have g2:q.2.size<=8:=by rw[<-Zd];exact this.2
     exact⟨by omega,by omega⟩
   · show w.ownsRow 0 220 2 (.slice sa (es[j]).count sc) (Zdo ((split 10 l).getD (es[j]).at_ [])).length (Zca (Zdo ((split 10 l).getD (es[j]).at_ [])))
     rw[d];exact d2
   · show(Zdo ((split 10 l).getD (es[j]).at_ [])).length<=6001
     rw[d];exact G j c)
 obtain⟨zs,e,f⟩:=t;have r:Ze6 l=es.map (serE (split 10 l)):=by unfold Ze6;rw[s]
 refine⟨zs,⟨?_,by omega,fun z J=>?_⟩,?_,?_,by omega⟩
 ·have:=ZMv zs rs (by rw[g.1,e]) (fun j c=>(f j c).2.1);rw[this,e];exact E
 ·obtain⟨j,c,rfl⟩:=List.mem_iff_getElem.1 J;exact(f j c).2.2.2
 ·rw[r];unfold ZJQ;refine List.ext_getElem (by rw[Yak,Yak,e]) (fun j A O=>?_);rw[List.getElem_map,List.getElem_map];exact(f j (by simpa using A)).2.2.1
 ·rw[r];unfold Dst;rw[Ybx];refine Ycx ?_ (ZoQ es [] D).1;intro a b K L B C;obtain⟨i,m,rfl⟩:=List.mem_iff_getElem.1 K;obtain⟨k,M,rfl⟩:=List.mem_iff_getElem.1 L;obtain⟨_,_,_,_,_,_,_,_,n1,_,q1,_,l1⟩:=g.2 i m;obtain⟨_,_,_,_,_,_,_,_,n2,_,q2,_,l2⟩:=g.2 k M;refine B ((Zxv n1 n2).2 ⟨C.1,?_⟩);have n:=C.2;unfold serE at n;simp only[l1,l2,Ya6]at n;rw[Ztn l1,Ztn l2]at n;exact n
theorem ZoJ(n:Nat):(decS n).length<=n+1:=by
 induction n using Nat.strongRecOn with
 | ind n ih=>
  by_cases h:n<=9
  ·rw[Zh0 h];simp
  ·rw[Zi6 h,Yab];have:=ih (n / 10) Om;simp only[Yaj,Ybq];omega
theorem Zlj(n:Int)(h:vOk n):(decI n).length<=1000000002:=by
 unfold vOk at h;unfold decI;split
 ·have:=ZoJ n.natAbs;rw[Yab,Ybj];omega
 ·have:=ZoJ n.toNat;omega
def TimP(w':World)(f l s:Int)(ft:Addr)(tv ev:Value):Prop:=(Zdr f l s=none/\tv=.slice none 0 0/\ev=.iface 389 (.pointer (some ft)))∨(∃ts,Zdr f l s=some ts/\ts.length<=50/\(∀t∈ts,-1000000<=t/\t<=1000000)/\ev=.nilIface/\w'.ownsRow 0 3 1 tv ts.length (ts.map (Value.int .i64)))
theorem ZyO(n:Nat):(madeCells #[Value.int .i64 0] n).toList=List.replicate n (Value.int .i64 0):=by
 refine List.ext_getElem (by simp[madeCells]) (fun i a c=>?_);simp[madeCells,Nat.mod_one]
theorem ZrI(f l s:Int)(ft:Addr)(w:World)(y:w.cell? ⟨7,0,none⟩=some (.iface 389 (.pointer (some ft)))) :
  Cq 40 #[.agg #[Vi f,Vi l,Vi s]] w fun e u=>∃tv ev,e=.returned (.tuple #[tv,ev])/\Hid (TimP u f l s ft tv ev)/\BW w u:=by
 obtain⟨i0,V,I,J,K⟩:=info_parts Tryz.infoInt3;have L:7<w.heap.size:=Yai _ _ y;have F:∀o,(w.alloc o).cell? ⟨7,0,none⟩=some (.iface 389 (.pointer (some ft))):=fun o=>by rw[Ybm _ _ _ L];exact y
 by_cases j:badT f l s
 ·have n:Hid (∀u,TimP u f l s ft S0 (.iface 389 (.pointer (some ft)))):=hid (fun u=>Or.inl ⟨by unfold Zdr;rw[if_pos j],rfl,rfl⟩);by_cases c1:(-1000000<=f/\f<=1000000)
  ·obtain⟨d1,d2⟩:=c1;by_cases c2:(-1000000<=l/\l<=1000000)
   ·obtain⟨d3,d4⟩:=c2;by_cases c3:l<f
    ·clear j;go_enter func40,ntmps40
     go_wp2_with (go_at_call 84;refine(Zf9).mono ?_;rintro e u ⟨rfl,rfl⟩)
     go_region
     all_goals (try go_wp2)
     all_goals (go_ret2;exact⟨_,_,rfl,hid (n.out _),belB⟩)
    ·by_cases c4:s<1
     ·clear j;go_enter func40,ntmps40
      go_wp2_with (go_at_call 84;refine(Zf9).mono ?_;rintro e u ⟨rfl,rfl⟩)
      go_region
      all_goals (try go_wp2)
      all_goals (go_ret2;exact⟨_,_,rfl,hid (n.out _),belB⟩)
     ·have c5:1000000<s:=by unfold badT at j;omega
      clear j;go_enter func40,ntmps40
      go_wp2_with (go_at_call 84;refine(Zf9).mono ?_;rintro e u ⟨rfl,rfl⟩)
      go_region
      all_goals (try go_wp2)
      all_goals (go_ret2;exact⟨_,_,rfl,hid (n.out _),belB⟩)
   ·have c3:(decide (-1000000<=l) && decide (l<=1000000))=false:=by simp;omega
    clear j c2;go_enter func40,ntmps40
    go_wp2_with (go_at_call 84;refine(Zf9).mono ?_;rintro e u ⟨rfl,rfl⟩)
    go_region
    all_goals (try go_wp2)
    all_goals (go_ret2;exact⟨_,_,rfl,hid (n.out _),belB⟩)
  ·have c3:(decide (-1000000<=f) && decide (f<=1000000))=false:=by simp;omega
   clear j c1;go_enter func40,ntmps40
   go_wp2_with (go_at_call 84;refine(Zf9).mono ?_;rintro e u ⟨rfl,rfl⟩)
   go_region
   all_goals (try go_wp2)
   all_goals (go_ret2;exact⟨_,_,rfl,hid (n.out _),belB⟩)
 ·have G:Hid (Zdr f l s=if 50<cnt l s f then none else some ((List.range (cnt l s f)).map fun(i:Nat)=>f+(i:Int)*s)):=hid (ZsN j);have M : -1000000<=f/\f<=1000000/\-1000000<=l/\l<=1000000/\1<=s/\s<=1000000/\f<=l:=by unfold badT at j;omega
  obtain⟨d1,d2,d3,d4,d5,d6,d7⟩:=M;clear j;obtain⟨m,x⟩:∃m:Nat,(l - f).tdiv s=(m:Int):=⟨((l - f).tdiv s).toNat,by have:=Int.tdiv_nonneg (a:=l - f) (b:=s) Om Om;omega⟩
  have A:cnt l s f=m+1:=by
   unfold cnt;rw[if_pos d7,<-Yes Om,x];omega
  have a0:m<=2000000:=by
   have c:((l - f).tdiv s).natAbs<=(l - f).natAbs:=by rw[Yff];exact Yfg _ _
   rw[x]at c;omega
  rw[A]at G;have a1:(s == 0)=false:=by rw[beq_eq_false_iff_ne];omega
  have N:s≠0:=by omega
  clear A;by_cases B:50<m+1
  ·have n:Hid (∀u,TimP u f l s ft S0 (.iface 389 (.pointer (some ft)))):=hid (fun u=>Or.inl ⟨by rw[G.out,if_pos B],rfl,rfl⟩);have O:(50:Int)<(m:Int)+1:=by omega
   go_enter func40,ntmps40
   go_wp2_with (go_at_call 84;refine(Zf9).mono ?_;rintro e u ⟨rfl,rfl⟩)
   go_region
   all_goals (try go_wp2)
   all_goals (go_ret2;exact⟨_,_,rfl,hid (n.out _),belB⟩)
  ·have n:Hid (Zdr f l s=some ((List.range (m+1)).map fun(i:Nat)=>f+(i:Int)*s)):=hid (by rw[G.out,if_neg B]);have O:(m:Int)+1<=50:=by omega
   have C : Hid (∀ i, i < m + 1 -> -1000000 <= f + (i : Int) * s /\ f + (i : Int) * s <= 1000000) := hid (fun i D => by
     have c:(i:Int)*s<=(m:Int)*s:=Int.mul_le_mul_of_nonneg_right Om Om
     have h2:(m:Int)*s<=l - f:=by
       rw[<-x,Yes Om];exact Int.ediv_mul_le _ N
     have h3:0<=(i:Int)*s:=Int.mul_nonneg Om Om;omega)
   go_enter func40,ntmps40
   go_wp2_with (first
     | (go_at_call 84;refine(Zf9).mono ?_;rintro e u ⟨rfl,rfl⟩)
     | (at_make;refine wpList_make_full _ rfl _ _ 38 rfl w.heap.size 3 i0 _ 1 underlying38 V I J _ _ _ _ (m+1) rfl rfl ?e1 ?e2 ?b2 ?b3 ?b4 ?_))
   case e1=>rfl
   case e2=>rfl
   case b2=>rw[K];omega
   case b3=>unfold maxLen;omega
   case b4=>simp
   rw[ZyO];intro z r d;have P:Hid (BAt z w.heap.size [Vi f,Vi l,Vi s] 23):=hid ((d.block _ (by simp) (by simp)).trans (Go.Deep.blk_alloc_new _ _));have Q:Hid (BW w z):=hid (Zbal.grown d (by simp) (fun q W=>by cases W));clear d x F;have X:w.heap.size+1<z.heap.size:=Z1 r;go_wp2
   go_loopw [50] (fun i wr => ∃ k : Nat, k <= m + 1 /\ i = Vi k /\ Hid (wr.ownsRow w.heap.size 3 1 (.slice (some ⟨w.heap.size + 1, 0, none⟩) (m + 1) (m + 1)) (m + 1) ((List.range k).map (fun (i : Nat) => Value.int .i64 (f + (i : Int) * s)) ++ List.replicate (m + 1 - k) (Value.int .i64 0))) /\ Hid (BAt wr w.heap.size [Vi f, Vi l, Vi s] 23) /\ Hid (BW w wr))
     (fun i _=>m+1 - (intOf i).toNat)
   case atStart=>exact⟨0,Yag _,rfl,hid (by simpa using r),P,Q⟩
   case round=>
    obtain⟨k,hk,rfl,v,H,R⟩:=hrel;by_cases E:k<m+1
    ·have x0:=H.cell 0;have x2:=H.cell 2;simp only[Zget]at x0 x2;have a2:=C.out k E;have a3:0<=(k:Int)*s:=Int.mul_nonneg Om Om
     have a4:(Go.IntKind.i64).wrap ((k:Int)*s)=(k:Int)*s:=by
      generalize(k:Int)*s=ks at *
      rw[Ybo];omega
     have a5:(Go.IntKind.i64).wrap (f+(k:Int)*s)=f+(k:Int)*s:=by
      generalize(k:Int)*s=ks at *
      rw[Ybo];omega
     have U:wr.cell? ⟨w.heap.size+1,k,none⟩=some (Vi 0):=Zi v.out _ _ (by rw[Yb3 (by simp),Yak,List.length_range,Yfw,List.getElem?_replicate,if_pos Om])
     have a6:wr.frozen? ⟨w.heap.size+1,k,none⟩=false:=by
      rcases v.2 with ⟨h,_⟩|⟨g,cap,cur,h,_,Y,_⟩
      ·cases h
      ·injection h with c;injection c with c;injection c with c;subst c;simp[World.frozen?,Y]
     have a7:(k:Int)<(m:Int)+1:=by omega
     have S : Hid ((wr.setCell ⟨w.heap.size + 1, k, none⟩ (Vi (f + (k : Int) * s))).ownsRow w.heap.size 3 1 (.slice (some ⟨w.heap.size + 1, 0, none⟩) (m + 1) (m + 1)) (m + 1) ((List.range (k + 1)).map (fun (i : Nat) => Value.int .i64 (f + (i : Int) * s)) ++ List.replicate (m + 1 - (k + 1)) (Value.int .i64 0))) := hid (by
       have:=ZmD v.out k (Vi (f+(k:Int)*s));rw[ZB6 (m+1) k (fun(i:Nat)=>Value.int .i64 (f+(i:Int)*s)) E]at this;exact this)
     go_wp2
     go_roundw
     case rel=>exact⟨k+1,by omega,by go_num,S,hid (H.other (p:=⟨w.heap.size+1,k,none⟩) (by show w.heap.size≠w.heap.size+1;omega) _),hid (R.setCell (p:=⟨w.heap.size+1,k,none⟩) (by show w.heap.size<=w.heap.size+1;omega) _)⟩
     case measure=>simp[intOf];omega
    ·obtain rfl:k=m+1:=by omega
     have T : Hid (TimP wr f l s ft (.slice (some ⟨w.heap.size + 1, 0, none⟩) (m + 1) (m + 1)) .nilIface) := hid (Or.inr ⟨_, n.out, by simp; omega, fun t Z => by
       obtain⟨i,D,rfl⟩:=Ybe.1 Z;exact C.out i (Yb9.1 D),rfl,by
       have c:=v.out;rw[Yfw,List.replicate_zero,Yca]at c;rw[Yak,List.length_range,Yb1];exact c.mono (Yag _)⟩)
     go_wp2;go_ret2;exact⟨_,_,rfl,T,R.out⟩
theorem ZnW{T e:TypeId}{p:Value}(h:Lib.BuilderAtF T e B b p bs w)(c:BW w w'):Lib.BuilderAtF T e B b p bs w':=by
 obtain⟨i,v,d,⟨j,k⟩,l⟩:=h;refine⟨i,v,(c.block b (Yae.1 d).1).trans d,⟨j,?_⟩,l⟩;rcases k with a|⟨g,cap,cur,fz,a,m,f,n⟩
 ·exact Or.inl a
 ·exact Or.inr ⟨g,cap,cur,fz,a,m,(c.block g (Yae.1 f).1).trans f,n⟩
theorem Zt7{T e:TypeId}(h:Lib.IsBuilderF T e B b bs w)(a:BW w w'):Lib.IsBuilderF T e B b bs w':=by
 rcases h with h|h
 ·exact Or.inl (ZnW h a)
 ·exact Or.inr (ZnW h a)
theorem ZzT{e:TypeId}{b:Option Nat}(h:BW w w'):Lib.OthersKept e b w w':=fun k _ a _ _=>(h.block k (Yae.1 a).1).trans a
structure WB (w:World) (B b:Nat) (l:LB):Prop where
 bd:Lib.IsBuilderF 101 5 B b (Lib.byteCells l) w
 le:B<=w.heap.size
structure WK (B b:Nat) (w w':World):Prop where
 low:Below B w w'
 kept:Lib.OthersKept 5 (some b) w w'
theorem WK.refl(B b:Nat)(w:World):WK B b w w:=⟨Yaf _ _,Lib.OthersKept.refl _ _ _⟩
theorem WK.trans{y z a:World}(h:WK B b y z)(c:WK B b z a):WK B b y a:=⟨h.low.trans c.low,h.kept.trans c.kept⟩
theorem WK.below(h:BW w w')(a:B<=w.heap.size):WK B b w w':=⟨h.mono a,ZzT h⟩
theorem WB.below(h:WB w B b l)(a:BW w w'):WB w' B b l:=⟨Zt7 h.bd a,Yah h.le a.size⟩
theorem WB.ne{w:World}{B b:Nat}{l:LB}(h:WB w B b l):b<w.heap.size/\∃c,w.heap[b]?=some (.cells c 101 (0,0)):=by
 rcases h.bd with h|h
 ·obtain⟨_,v,a,_⟩:=h;exact⟨(Yae.1 a).1,_,a⟩
 ·obtain⟨_,v,a,_⟩:=h;exact⟨(Yae.1 a).1,_,a⟩
theorem WK.block(f:WB w B b l)(h:WK B b w w'){c:Array Value}{t:TypeId}{fr:Nat×Nat}(d:w.heap[a]?=some (.cells c t fr))(g:t≠101)(i:t≠5):w'.heap[a]?=some (.cells c t fr):=by
 refine h.kept a _ d ?_ ?_
 ·intro e;injection e with e;subst e;obtain⟨_,c',j⟩:=f.ne;rw[j]at d;injection d with d;injection d with _ d;exact g d.symm
 ·intro c' fz e;injection e with _ e;exact i e
theorem WK.bat(d:WB w B b l)(h:WK B b w w'){t:TypeId}(e:BAt w a c t)(f:t≠101)(g:t≠5):BAt w' a c t:=WK.block d h e f g
theorem WK.own(d:WB w B b l)(h:WK B b w w'){base:Nat}{e:TypeId}{size:Nat}(c:w.ownsRow base e size v n xs)(f:e≠101)(i:e≠5):w'.ownsRow base e size v n xs:=by
 refine⟨c.1,?_⟩;rcases c.2 with a|⟨g,cap,cur,a,j,k,m⟩
 ·exact Or.inl a
 ·exact Or.inr ⟨g,cap,cur,a,j,WK.block d h k f i,m⟩
theorem Zn4(l:LB)(s:BA):Lib.byteCells l++Lib.strCells s=Lib.byteCells (l++bl s):=by
 unfold Lib.byteCells Lib.strCells bl;rw[Yaq]
theorem Zlk(n:Nat):Lib.decDigits n=decS n:=by
 induction n using Nat.strongRecOn with
 | _ n ih=>
  by_cases h:n<=9
  ·rw[Zh0 h,Lib.decDigits,dif_pos Om];rfl
  ·rw[Zi6 h,Lib.decDigits,dif_neg Om,ih (n / 10) Om];rfl
def ZR (w : World) : Prop := Lib.TabIs Tryz.prog w "internal/strconv.uint64pow10" .u64 Lib.pow10Tab
theorem Tryz.gPow : Tryz.prog.globalNamed "internal/strconv.uint64pow10" = some 15 := by kernel_rfl
theorem ZR.low(h:ZR w)(a:Below B w w')(c:20<=B):ZR w':=var?_below a Tryz.gPow (Yaw Dc c) h
structure ArI (w wr:World) (xa ya:List Value) (vv:Value) (zs:List (Value×El)):Prop where
 bel:BW w wr
 xb:BAt wr w.heap.size xa 76
 yb:BAt wr (w.heap.size+1) ya 76
 rb:BAt wr (w.heap.size+2) [.bool false,Vi 0,S0] 76
 vb:BAt wr (w.heap.size+3) [.bool false,Vi 0,vv] 76
 own:wr.ownsRow (w.heap.size+4) 128 2 vv zs.length (ZJp zs)
theorem ArI.below(h:ArI w wr xa ya vv zs)(a:BW wr w'):ArI w w' xa ya vv zs:=
 ⟨h.bel.trans (a.mono h.bel.size),h.xb.below a,h.yb.below a,h.rb.below a,h.vb.below a,Zn h.own a⟩
theorem BAt.alloc{t:TypeId}(h:BAt w a c t)(o:Obj):BAt (w.alloc o) a c t:=h.below Zbal
theorem ArI.start(w:World)(x0 x1 x2 y0 y1 y2:Value):ArI w ((((w.alloc (.cells #[x0,x1,x2] 76)).alloc (.cells #[y0,y1,y2] 76)).alloc (.cells #[.bool false,Vi 0,S0] 76)).alloc (.cells #[.bool false,Vi 0,S0] 76)) [x0,x1,x2] [y0,y1,y2] S0 []:=by
 have g3:BAt (w.alloc (.cells #[x0,x1,x2] 76)) w.heap.size [x0,x1,x2] 76:=Go.Deep.blk_alloc_new w _
 have g2:BAt ((w.alloc (.cells #[x0,x1,x2] 76)).alloc (.cells #[y0,y1,y2] 76)) (w.heap.size+1) [y0,y1,y2] 76:=by
  have:=Go.Deep.blk_alloc_new (w.alloc (.cells #[x0,x1,x2] 76)) (.cells #[y0,y1,y2] 76)
  rwa [Yf7]at this
 have g1:BAt (((w.alloc (.cells #[x0,x1,x2] 76)).alloc (.cells #[y0,y1,y2] 76)).alloc (.cells #[.bool false,Vi 0,S0] 76)) (w.heap.size+2) [.bool false,Vi 0,S0] 76:=by
  have:=Go.Deep.blk_alloc_new ((w.alloc (.cells #[x0,x1,x2] 76)).alloc (.cells #[y0,y1,y2] 76)) (.cells #[.bool false,Vi 0,S0] 76)
  rwa [Yf7,Yf7]at this
 have g0:=Go.Deep.blk_alloc_new (((w.alloc (.cells #[x0,x1,x2] 76)).alloc (.cells #[y0,y1,y2] 76)).alloc (.cells #[.bool false,Vi 0,S0] 76)) (.cells #[.bool false,Vi 0,S0] 76);rw[Yf7,Yf7,Yf7]at g0;exact⟨belB,((g3.alloc _).alloc _).alloc _,(g2.alloc _).alloc _,g1.alloc _,g0,Ybc _ _ _ _⟩
theorem ArI.done(h:ArI w wr xa ya (.slice va vn vc) os)(f:os.length<=1000000)(d:∀z∈os,ElOk wr z) :
  BAt (set3 wr (w.heap.size+2) (.bool false) (Vi 0) (.slice va vn vc)) (w.heap.size+2) [.bool false,Vi 0,.slice va vn vc] 76/\ElsV (set3 wr (w.heap.size+2) (.bool false) (Vi 0) (.slice va vn vc)) (.slice va vn vc) os/\BW w (set3 wr (w.heap.size+2) (.bool false) (Vi 0) (.slice va vn vc)):=by
 have g:BW w (set3 wr (w.heap.size+2) (.bool false) (Vi 0) (.slice va vn vc)):=(((h.bel.setCell (p:=⟨w.heap.size+2,0,none⟩) (by show w.heap.size<=w.heap.size+2;omega) _).setCell (p:=⟨w.heap.size+2,1,none⟩) (by show w.heap.size<=w.heap.size+2;omega) _).setCell (p:=⟨w.heap.size+2,2,none⟩) (by show w.heap.size<=w.heap.size+2;omega) _)
 refine⟨Zcr h.rb (x:=.bool false) (y:=Vi 0) (z:=.slice va vn vc),⟨ZdA (Zgi h.own) (fun j c=>Zsf (fun e=>Zcx h.own h.rb Dc (by rw[c,e]))),f,fun z i=>?_⟩,g⟩;obtain⟨⟨qs,a⟩,k⟩:=d z i;exact⟨⟨qs,ZdA a.own (fun j c=>Zsf (fun e=>Zcx a.own h.rb Dc (by rw[c,e]))),a.say,a.len,a.ok⟩,k⟩
theorem ElsV.set(h:ElsV W v zs)(k:BAt W a c 76)(i:Nat)(u:Value):ElsV (W.setCell ⟨a,i,none⟩ u) v zs:=by
 have g:∀j,j≠a->(W.setCell ⟨a,i,none⟩ u).heap[j]?=W.heap[j]?:=fun j d=>Go.Deep.blk_setCell_other _ _ _ _ d;refine⟨ZdA h.own (fun j d=>g j (fun e=>Zcx h.own k Dc (by rw[d,e]))),h.len,fun z l=>?_⟩;obtain⟨⟨qs,f⟩,m⟩:=h.ok z l;exact⟨⟨qs,ZdA f.own (fun j d=>g j (fun e=>Zcx f.own k Dc (by rw[d,e]))),f.say,f.len,f.ok⟩,m⟩
structure GrI (w wr:World) (xa:List Value) (vv:Value) (rs:List (Value×El)):Prop where
 bel:BW w wr
 xb:BAt wr w.heap.size xa 76
 rb:BAt wr (w.heap.size+1) [.bool false,Vi 0,S0] 76
 vb:BAt wr (w.heap.size+2) [.bool false,Vi 0,vv] 76
 els:ElsV wr vv rs
theorem GrI.below{rs:List (Value×El)}(h:GrI w wr xa vv rs)(a:BW wr w'):GrI w w' xa vv rs:=
 ⟨h.bel.trans (a.mono h.bel.size),h.xb.below a,h.rb.below a,h.vb.below a,h.els.below a⟩
theorem GrI.put{v':Value}{rs:List (Value×El)}(h:GrI w wr xa vv rs)(d:ElsV wr v' rs'):GrI w (wr.setCell ⟨w.heap.size+2,2,none⟩ v') xa v' rs':=by
 have a:∀j,j≠w.heap.size+2->(wr.setCell ⟨w.heap.size+2,2,none⟩ v').heap[j]?=wr.heap[j]?:=fun j e=>Go.Deep.blk_setCell_other _ _ _ _ e;refine⟨h.bel.setCell (p:=⟨w.heap.size+2,2,none⟩) (by show w.heap.size<=w.heap.size+2;omega) _,(a _ Om).trans h.xb,(a _ Om).trans h.rb,?_,d.set h.vb 2 v'⟩;have c:=h.vb;unfold BAt at c ⊢;simp only[World.setCell,Ybn,c,if_true,Ybf];rfl
theorem GrI.done{rs:List (Value×El)}(h:GrI w wr xa (.slice va vn vc) rs) :
  BAt (set3 wr (w.heap.size+1) (.bool false) (Vi 0) (.slice va vn vc)) (w.heap.size+1) [.bool false,Vi 0,.slice va vn vc] 76/\ElsV (set3 wr (w.heap.size+1) (.bool false) (Vi 0) (.slice va vn vc)) (.slice va vn vc) rs/\BW w (set3 wr (w.heap.size+1) (.bool false) (Vi 0) (.slice va vn vc)):=by
 refine⟨Zcr h.rb (x:=.bool false) (y:=Vi 0) (z:=.slice va vn vc),?_,(((h.bel.setCell (p:=⟨w.heap.size+1,0,none⟩) (by show w.heap.size<=w.heap.size+1;omega) _).setCell (p:=⟨w.heap.size+1,1,none⟩) (by show w.heap.size<=w.heap.size+1;omega) _).setCell (p:=⟨w.heap.size+1,2,none⟩) (by show w.heap.size<=w.heap.size+1;omega) _)⟩;have e:=h.els;refine⟨ZdA e.own (fun j c=>Zsf (fun e'=>Zcx e.own h.rb Dc (by rw[c,e']))),e.len,fun z d=>?_⟩;obtain⟨⟨qs,a⟩,f⟩:=e.ok z d;exact⟨⟨qs,ZdA a.own (fun j c=>Zsf (fun e'=>Zcx a.own h.rb Dc (by rw[c,e']))),a.say,a.len,a.ok⟩,f⟩
theorem GrI.start(w:World)(x0 x1 x2:Value):GrI w (((w.alloc (.cells #[x0,x1,x2] 76)).alloc (.cells #[.bool false,Vi 0,S0] 76)).alloc (.cells #[.bool false,Vi 0,S0] 76)) [x0,x1,x2] S0 []:=by
 have g3:BAt (w.alloc (.cells #[x0,x1,x2] 76)) w.heap.size [x0,x1,x2] 76:=Go.Deep.blk_alloc_new w _
 have g2:BAt ((w.alloc (.cells #[x0,x1,x2] 76)).alloc (.cells #[.bool false,Vi 0,S0] 76)) (w.heap.size+1) [.bool false,Vi 0,S0] 76:=by
  have:=Go.Deep.blk_alloc_new (w.alloc (.cells #[x0,x1,x2] 76)) (.cells #[.bool false,Vi 0,S0] 76)
  rwa [Yf7]at this
 have g0:=Go.Deep.blk_alloc_new ((w.alloc (.cells #[x0,x1,x2] 76)).alloc (.cells #[.bool false,Vi 0,S0] 76)) (.cells #[.bool false,Vi 0,S0] 76);rw[Yf7,Yf7]at g0;exact⟨belB,(g3.alloc _).alloc _,g2.alloc _,g0,⟨Ybc _ _ _ _,by simp,by simp⟩⟩
structure NegI (w wr:World) (sc:Bool) (n m:Int) (xv vv:Value) (zs:List (Value×El)):Prop where
 bel:BW w wr
 xb:BAt wr w.heap.size [.bool sc,Vi n,xv] 76
 rb:BAt wr (w.heap.size+1) [.bool false,Vi 0,S0] 76
 vb:BAt wr (w.heap.size+2) [.bool sc,Vi m,vv] 76
 own:wr.ownsRow (w.heap.size+3) 128 2 vv zs.length (ZJp zs)
theorem NegI.below{sc:Bool}{n m:Int}{xv:Value}(h:NegI w wr sc n m xv vv zs)(a:BW wr w'):NegI w w' sc n m xv vv zs:=
 ⟨h.bel.trans (a.mono h.bel.size),h.xb.below a,h.rb.below a,h.vb.below a,Zn h.own a⟩
def ValV(w:World)(v:Value):VV->Prop
 | .inl n=>(∃(ea:Option Addr) (ec:Nat),v=.agg #[.bool true,.int .i64 n,.slice ea 0 ec]/\ElsV w (.slice ea 0 ec) [])/\vOk n
 | .inr l=>∃(ea:Option Addr) (ec:Nat) (zs:List (Value×El)),v=.agg #[.bool false,.int .i64 0,.slice ea zs.length ec]/\ElsV w (.slice ea zs.length ec) zs/\zs.map (·.2)=l
theorem ValV.below : ∀ {V:VV},ValV w v V->BW w w'->ValV w' v V
 | .inl _,⟨⟨ea,ec,a,c⟩,d⟩,e=>⟨⟨ea,ec,a,c.below e⟩,d⟩
 | .inr _,⟨ea,ec,zs,a,c,d⟩,e=>⟨ea,ec,zs,a,c.below e,d⟩
theorem ValV.other(g:BAt w a c 76)(h:∀j,j≠a->w'.heap[j]?=w.heap[j]?):∀ {V:VV},ValV w v V->ValV w' v V
 | .inl _,⟨⟨ea,ec,d,e⟩,f⟩=>⟨⟨ea,ec,d,e.other g h⟩,f⟩
 | .inr _,⟨ea,ec,zs,d,e,f⟩=>⟨ea,ec,zs,d,e.other g h,f⟩
def Zcn:List (LB)->LB
 | []=>[]
 | [a]=>a
 | a::b::l=>a++10::Zcn (b::l)
def Zeu(st:List Ser)(t:Tr)(tm:Int):LB:=Zel tm (sayT st tm t)
def ZdK(q s:LB)(f l st:Int):LB×Nat×Nat:=match ZD q with
 | .error x=>([],x.1,x.2)
 | .ok t => if (Zbp s).1 ≠ 0 then ([], (Zbp s).1, (Zbp s).2) else match Zdr f l st with
   | none=>([],8,0)
   | some ts=>(Zcn (ts.map (Zeu (Ze6 s) t)),0,0)
theorem ZP3 (c : UInt8) (l : LB) : ((split c l).map fun x => x.length + 1).sum = l.length + 1 := by
  induction l with
  | nil=>rfl
  | cons x l ih=>
    by_cases d:x=c
    · subst d;rw[Zhc,Ybb,Yd2,ih,Yaj];simp;omega
    · rw[Zke c x l (by simp[d])]
      cases h:split c l with
      | nil=>exact absurd h (Zix c l)
      | cons a t=>
        rw[h]at ih;simp only[pre,Ybb,Yd2,Yab,Yaj,Ybq]at ih ⊢;omega
def full(P:List (LB)):List (LB):=P.filter fun x=>!x.isEmpty
def ser1(x:LB):Ser:=match line x with
 | some (a,b,_)=>⟨a,(Zcc b).getD [],Zdo x⟩
 | none=>⟨[],[],[]⟩
def cnt1(x:LB):Nat:=match line x with
 | some (_,_,n)=>n
 | none=>0
theorem ZPT(P:List (LB)):full ([]::P)=full P:=rfl
theorem ZPb(x:LB)(P:List (LB))(h:x≠[]):full (x::P)=x::full P:=by
 unfold full;rw[Yda];cases x with
 | nil=>exact absurd rfl h
 | cons _ _=>rfl
theorem ZPd(P:List (LB)):∀(ps:List (LB)) (i:Nat) (acc:List Entry),P.drop i=ps->(∀x∈ps,x≠[]->(line x).isSome=true)->
  ∃rest:List Entry,Zbh i acc ps=.inr (acc++rest)/\rest.map (serE P)=(full ps).map ser1/\rest.map ZdO=(full ps).map Zdz/\rest.map (·.count)=(full ps).map cnt1
 | [],i,acc,_,_=>⟨[],by simp[Zbh],rfl,rfl,rfl⟩
 | x :: xs, i, acc, hd, g => by
   have e:P.drop (i+1)=xs:=by rw[<-Yei,hd];rfl
   have f:∀y∈xs,y≠[]->(line y).isSome=true:=fun y j=>g y (Yam _ j)
   have k:P.getD i []=x:=by
     have:(P.drop i)[0]?=some x:=by rw[hd];rfl
     rw[Ygv]at this;rw[Yaa,show i=i+0 from rfl,this];rfl
   by_cases c:x=[]
   · subst c
     rw[Zbh,if_pos rfl,ZPT];exact ZPd P xs (i+1) acc e f
   · have h:=g x (Yay ..) c
     cases d:line x with
     | none=>rw[d]at h;cases h
     | some t=>
       obtain⟨a,b,n⟩:=t;obtain⟨rest,e1,e2,e3,e4⟩:=ZPd P xs (i+1) (acc++[⟨i,a,b,n⟩]) e f;refine⟨⟨i,a,b,n⟩::rest,?_,?_,?_,?_⟩
       · rw[Zbh,if_neg c,d]
         simp only;rw[e1];simp
       · rw[ZPb x xs c,Ybb,Ybb,e2]
         congr 1
         unfold serE ser1;rw[d,k]
       · rw[ZPb x xs c,Ybb,Ybb,e3]
         congr 1
         exact(Zyt d).2.2.symm
       · rw[ZPb x xs c,Ybb,Ybb,e4]
         congr 1
         unfold cnt1;rw[d]
theorem ZPl:∀(ps:List (LB)) (i:Nat) (acc:List Entry),(∃x∈ps,x≠[]/\line x=none)->∃k,Zbh i acc ps=.inl k
 | [],_,_,h=>by obtain⟨x,g,_⟩:=h;cases g
 | x :: xs, i, acc, h => by
   rw[Zbh];by_cases f:x=[]
   · rw[if_pos f]
     obtain⟨y,c,e,d⟩:=h;rcases Yau.1 c with rfl|c
     · exact absurd f e
     · exact ZPl xs _ _ ⟨y,c,e,d⟩
   · rw[if_neg f]
     cases j:line x with
     | none=>exact⟨i,rfl⟩
     | some t=>
       obtain⟨a,b,n⟩:=t;obtain⟨y,c,e,d⟩:=h;rcases Yau.1 c with rfl|c
       · rw[j]at d;cases d
       · exact ZPl xs _ _ ⟨y,c,e,d⟩
theorem ZPv : ∀ (rest seen : List Entry), (rest.Pairwise fun a b => ZdO a ≠ ZdO b) -> (∀ e ∈ rest, ∀ s ∈ seen, ZdO s ≠ ZdO e) -> Zfk seen rest = none
  | [],_,_,_=>rfl
  | e :: rest, seen, h, d => by
    obtain⟨g1,g2⟩:=Ybg.1 h;rw[Zfk,if_neg]
    · refine ZPv rest (seen++[e]) g2 (fun f g s c=>?_)
      rcases Yar.1 c with c|c
      · exact d f (Yam _ g) s c
      · rw[Yap]at c;subst c;exact g1 f g
    · rw[Ydk]
      intro i;obtain⟨s,c,j⟩:=Ybe.1 i;exact d e (Yay ..) s c j
def ZO7(P:List (LB)):Prop:=(P.map fun x=>x.length+1).sum<=6001/\(∀x∈P,x≠[]->(line x).isSome=true)/\((full P).map Zdz).Nodup/\(full P).length<=30/\((full P).map cnt1).sum<=200
theorem ZPW:(Zbp l).1=0 ↔ ZO7 (split 10 l):=by
 unfold ZO7;rw[ZP3];unfold Zbp;by_cases c:6000<l.length
 ·rw[if_pos c];exact⟨fun h=>absurd h Dc,fun h=>by omega⟩
 rw[if_neg c];by_cases d:∀x∈split 10 l,x≠[]->(line x).isSome=true
 ·obtain⟨rest,e1,e2,e3,e4⟩:=ZPd (split 10 l) (split 10 l) 0 [] rfl d;rw[Ycu]at e1;rw[e1];simp only;rw[ZDv e1]
  have m:ZcS rest rest.length=((full (split 10 l)).map cnt1).sum:=by
   unfold ZcS;rw[Ya4,e4]
  have n:rest.length=(full (split 10 l)).length:=by
   have:=congrArg List.length e3;simpa using this
  have e : (rest.Pairwise fun a b => ZdO a ≠ ZdO b) ↔ ((full (split 10 l)).map Zdz).Nodup := by
    rw[<-e3];unfold List.Nodup;rw[Ybx]
  by_cases hd:rest.Pairwise fun a b=>ZdO a≠ZdO b
  ·rw[ZPv rest [] hd (by simp)];simp only;rw[m,n];by_cases f:30<(full (split 10 l)).length∨200<((full (split 10 l)).map cnt1).sum
   ·rw[if_pos f];exact⟨fun h=>absurd h Dc,fun h=>by omega⟩
   ·rw[if_neg f];exact⟨fun _=>⟨by omega,d,e.1 hd,by omega,by omega⟩,fun _=>rfl⟩
  ·cases g:Zfk [] rest with
   | none=>exact absurd (ZoQ rest [] g).1 hd
   | some i=>exact⟨fun h=>(by cases h),fun h=>absurd (e.2 h.2.2.1) hd⟩
 ·have o:∃x∈split 10 l,x≠[]/\line x=none:=by
   simp only[Classical.not_forall]at d;obtain⟨x,p,q,j⟩:=d;refine⟨x,p,q,?_⟩;cases r:line x with
   | none=>rfl
   | some _=>rw[r]at j;exact absurd rfl j
  obtain⟨k,s⟩:=ZPl _ 0 [] o;rw[s];exact⟨fun h=>(by cases h),fun h=>absurd h.2.1 d⟩
theorem ZP4(h:ZO7 (split 10 l)):Ze6 l=(full (split 10 l)).map ser1/\Dst (Ze6 l):=by
 obtain⟨rest,e1,e2,e3,e4⟩:=ZPd (split 10 l) (split 10 l) 0 [] rfl h.2.1;rw[Ycu]at e1;have d:Ze6 l=(full (split 10 l)).map ser1:=by unfold Ze6;rw[e1];exact e2
 refine⟨d,?_⟩;rw[d];unfold Dst;rw[Ybx];have g:=h.2.2.1;unfold List.Nodup at g;rw[Ybx]at g;refine Ycx ?_ g;intro x y o p m c
 have gx:x∈split 10 l/\x≠[]:=by
  have:=Ycg.1 o;exact⟨this.1,fun i=>by rw[i]at this;exact absurd this.2 Dc⟩
 have gy:y∈split 10 l/\y≠[]:=by
  have:=Ycg.1 p;exact⟨this.1,fun i=>by rw[i]at this;exact absurd this.2 Dc⟩
 have lx:=h.2.1 x gx.1 gx.2;have ly:=h.2.1 y gy.1 gy.2;cases j:line x with
 | none=>rw[j]at lx;cases lx
 | some t=>
  cases k:line y with
  | none=>rw[k]at ly;cases ly
  | some u=>
   obtain⟨a,b,n⟩:=t;obtain⟨a',b',n'⟩:=u;have p1:=Zyt j;have p2:=Zyt k;unfold ser1 at c;rw[j,k]at c;simp only at c;obtain⟨q1,e⟩:=Ycw.1 p1.2.1;obtain⟨q2,f⟩:=Ycw.1 p2.2.1;rw[e,f]at c;simp only[Ya6]at c;rw[Ztn e,Ztn f]at c;exact m (by rw[p1.2.2,p2.2.2,c.1,c.2])
def pcS(x:Int×Int):LB:=decI x.1++58::decI x.2
def smS(x:Int×Int):LB:=32::pcS x
def linS(R:List (Int×Int)):LB:=[120,123,125]++R.flatMap smS
def ZO2:Int->List (Int×Int)->Prop
 | _,[]=>True
 | last,x::l=>last<x.1/\0<=x.1/\x.1<=1000000/\-1000000000<=x.2/\x.2<=1000000000/\ZO2 x.1 l
theorem ZPu{c:UInt8}(h:c∈decS n):ZC c=true:=Ybu.1 (ZoK n).1 c h
theorem ZPR{n:Int}{c:UInt8}(h:c∈decI n):ZC c=true∨c=45:=by
 unfold decI at h;split at h
 ·rcases Yar.1 h with h|h
  ·rw[Yap]at h;exact Or.inr h
  ·exact Or.inl (ZPu h)
 ·exact Or.inl (ZPu h)
theorem ZPj {n : Int} {c : UInt8} (a : ZC c = false) (d : c ≠ 45) : c ∉ decI n := fun h => by
  rcases ZPR h with h|h
  · rw[a]at h;cases h
  · exact d h
theorem ZPm{c:UInt8}(a:ZC c=false)(d:c≠45)(e:c≠58):c∉pcS x:=by
 unfold pcS;rw[Yar,Yau,not_or,not_or];exact⟨ZPj a d,e,ZPj a d⟩
theorem ZPI:∀(R:List (Int×Int)) (x:Int×Int),split 32 (pcS x++R.flatMap smS)=pcS x::R.map pcS
 | [], x => by
   rw[List.flatMap_nil,Zhb 32 _ _ (ZPm Dc Dc Dc)];simp[split,pre]
 | y :: R, x => by
   rw[Ycd,Zhb 32 _ _ (ZPm Dc Dc Dc)];show pre (pcS x) (split 32 (32::(pcS y++R.flatMap smS)))=_;rw[Zhc,ZPI R y];simp[pre]
theorem ZP6(n:Nat):ZbI 45 (decS n)=(decS n,false):=by
 obtain⟨a,_,e,_⟩:=ZoK n;cases hd:decS n with
 | nil=>exact absurd hd e
 | cons c d=>
  rw[hd,Yep,Yas]at a
  have:(c == 45)=false:=by
   rw[beq_eq_false_iff_ne];rintro rfl;exact absurd a.1 Dc
  simp[ZbI,this]
theorem ZP7(v:Int):ZbI 45 (decI v)=(decS v.natAbs,decide (v<0)):=by
 unfold decI;split
 ·rename_i h;rw[decide_eq_true h];rfl
 ·rename_i h;rw[decide_eq_false h,ZP6,show v.natAbs=v.toNat by omega]
theorem ZPs : cut 58 (pcS x)=some (decI x.1,decI x.2):=ZoE (ZPj Dc Dc)
theorem ZPi{v:Int}(h:0<=v):decI v=decS v.toNat:=by unfold decI;rw[if_neg Om]
theorem ZP0(c:0<=x.1)(d:x.1<=1000000)(e : -1000000000<=x.2)(f:x.2<=1000000000):Zdn (pcS x)=some x.1.toNat/\smV (pcS x)=x:=by
 have n1:ZQ 1000000 (decI x.1)=some x.1.toNat:=by rw[ZPi c];exact ZjP Om
 have n2:ZQ 1000000000 (decS x.2.natAbs)=some x.2.natAbs:=ZjP Om;have s1:=ZP7 x.2;refine⟨?_,?_⟩
 ·unfold Zdn;rw[ZPs];simp only[n1]
  have:Zds (decI x.2)=true:=by
   unfold Zds;rw[s1];simp only[n2];by_cases h:x.2<0
   ·have:(x.2.natAbs == 0)=false:=by rw[beq_eq_false_iff_ne];omega
    simp[this]
   ·simp[h]
  rw[this];rfl
 ·unfold smV valI;rw[ZPs];simp only[s1];rw[ZgX n1,ZgX n2];obtain⟨a,b⟩:=x;simp only at *
  by_cases h:b<0
  ·rw[decide_eq_true h,if_pos rfl]
   congr 1 <;> omega
  ·rw[decide_eq_false h,if_neg Ycv]
   congr 1 <;> omega
theorem ZPG:∀(R:List (Int×Int)) (last:Int) (n:Nat),ZO2 last R->Zcq last n (R.map pcS)=some (n+R.length)/\(R.map pcS).map smV=R
 | [],last,n,_=>⟨rfl,rfl⟩
 | x :: R, last, n, h => by
   obtain⟨i,a,c,d,e,f⟩:=h;obtain⟨e1,e2⟩:=ZP0 a c d e;obtain⟨f1,f2⟩:=ZPG R x.1 (n+1) f;have g:((x.1.toNat:Nat):Int)=x.1:=by omega
   refine⟨?_,?_⟩
   · rw[Ybb,Zcq,e1]
     simp only;rw[g,if_neg Om,f1,Yaj]
     congr 1;omega
   · rw[Ybb,Ybb,f2,e2]
theorem ZP1(h:ZO2 (-1) R):Zcz (R.flatMap smS)=some R.length/\Zez (R.flatMap smS)=R:=by
 cases R with
 | nil=>exact⟨rfl,rfl⟩
 | cons x R=>
  have e:(x::R).flatMap smS=32::(pcS x++R.flatMap smS):=by rw[Ycd];rfl
  obtain⟨f1,f2⟩:=ZPG (x::R) (-1) 0 h;have a:=ZPI R x;rw[e];refine⟨?_,?_⟩
  ·unfold Zcz;show(if 32::(pcS x++R.flatMap smS)=[] then some 0 else if true=true then Zcq (-1) 0 (split 32 (pcS x++R.flatMap smS))else none)=_;rw[if_neg (by simp),if_pos rfl,a];rw[Ybb]at f1;rw[f1,Ycf]
  ·show(split 32 (pcS x++R.flatMap smS)).map smV=_;rw[a];exact f2
theorem ZPV(h:ZO2 (-1) R):line (linS R)=some ([120],[],R.length)/\Zdo (linS R)=R:=by
 have c1:cut 123 (linS R)=some ([120],125::R.flatMap smS):=ZoE (c:=123) (x:=[120]) (y:=125::R.flatMap smS) Dc;have c2:cut 125 (125::R.flatMap smS)=some ([],R.flatMap smS):=ZoE (c:=125) (x:=[]) (y:=R.flatMap smS) Dc;obtain⟨s1,s2⟩:=ZP1 h;refine⟨?_,?_⟩
 ·rw[ZjG c1 c2,if_pos Dc,s1];rfl
 ·rw[Zr1 Dc c1 c2,s2]
theorem ZPU:∀(R:List (Int×Int)),(10:UInt8)∉linS R:=by
 intro R;unfold linS;rw[Yar,not_or];refine⟨by decide,?_⟩;rw[List.mem_flatMap];rintro⟨x,_,a⟩;unfold smS at a;rcases Yau.1 a with h|h
 ·exact absurd h Dc
 ·exact ZPm Dc Dc Dc h
theorem ZPH(R:List (Int×Int)):split 10 (linS R)=[linS R]:=by
 have:=Zhb 10 (linS R) [] (ZPU R);rw[Yca]at this;rw[this];simp[split,pre]
theorem ZP5(h:ZO2 (-1) R)(f:(linS R).length<=6000)(e:R.length<=200):(Zbp (linS R)).1=0/\Ze6 (linS R)=[⟨[120],[],R⟩]:=by
 obtain⟨e1,e2⟩:=ZPV h;have a:full [linS R]=[linS R]:=ZPb _ _ (by unfold linS;simp)
 have c:ZO7 (split 10 (linS R)):=by
  rw[ZPH];unfold ZO7;rw[a];refine⟨by simp;omega,fun x d _=>?_,by simp,by simp,?_⟩
  ·rw[Yap]at d;subst d;rw[e1];rfl
  ·have:cnt1 (linS R)=R.length:=by unfold cnt1;rw[e1]
   simp[this];exact e
 refine⟨(ZPW).2 c,?_⟩;rw[(ZP4 c).1,ZPH,a];have:ser1 (linS R)=⟨[120],[],R⟩:=by unfold ser1;rw[e1,e2];rfl
 rw[Yco,this]
theorem ZBq{t:Tr}(h:GT t)(f:nd t 1<=20)(e:Zf t≠0)(g:(Zu t 1).length<=300):ZD (Zu t 1)=.ok t:=by
 unfold ZD;rw[if_neg Om];have a:=Zyj h 1;have c:=congrArg List.length a;rw[Yak,Yab,Ybj]at c;obtain⟨r',e1,e2⟩:=(ZAf h).1 0 Om (10*(ZN (Zu t 1) ((Zu t 1).length+1) 0).length+5) _ _ 0 a (ZCS 0) (by show 5*(toks t 1).length+4<=_;omega) (by show 0+nd t 1<=20;omega);rw[e2];have d:(hd r').jx=0:=congrArg Prod.fst (ZbB e1).1;simp only;rw[if_pos d,if_neg e]
theorem ZPS(h:n<=1000):(decS n).length<=4:=by
 by_cases a:n<=9
 ·rw[Zh0 a];simp
 ·rw[Zi6 a,Yab];by_cases c:n / 10<=9
  ·rw[Zh0 c];simp
  ·rw[Zi6 c,Yab];by_cases d:n / 10 / 10<=9
   ·rw[Zh0 d];simp
   ·rw[Zi6 d,Yab,Zh0 (show n / 10 / 10 / 10<=9 by omega)];simp
theorem ZP2:Ze3 [120] []:=⟨by decide,by decide,by decide,by decide,by decide,by simp⟩
def winQ(o n:Nat):LB:=Z0.getD o []++[40,120,91]++decS n++[93,41]
theorem ZPX:∀o,o<5->(Z0.getD o []).length<=5:=by decide
theorem ZPY{o:Nat}(a:o<5)(d:1<=n)(c:n<=1000):ZD (winQ o n)=.ok (Zbg ⟨2,o,(n:Int),[120],[],[]⟩):=by
 have e:Zu (Zbg ⟨2,o,(n:Int),[120],[],[]⟩) 1=winQ o n:=by
  show Z0.getD o []++[40]++selS ⟨2,o,(n:Int),[120],[],[]⟩++[91]++decS n++[93,41]=_;have:selS ⟨2,o,(n:Int),[120],[],[]⟩=[120]:=rfl;rw[this];unfold winQ;simp
 have f:(winQ o n).length<=300:=by
  have a1:=ZPS c;have a2:=ZPX o a;unfold winQ;simp only[Yab,Yaj,Ybq];omega
 have:=ZBq (GT.win o n [120] [] a d c ZP2) (by show 1<=20;omega) (by show 2≠0;omega) (by rw[e];exact f);rw[e]at this;exact this
theorem ZPZ:ZD [120]=.ok (Zbg ⟨1,0,0,[120],[],[]⟩):=by kernel_rfl
theorem ZP9(a:0<=t)(c:t<=1000000):Zdr t t 1=some [t]:=by
 unfold Zdr;rw[if_neg (by unfold badT;omega)];rw[show(60:Nat)=58+1+1 from rfl,Zhi,if_pos Om,if_neg (by simp),Zhi,if_neg Om];rfl
theorem ZPM(R:List (Int×Int))(a:Nd)(op:Option Nat)(size t:Int)(c:a.jq=[])(d:a.name=[120]):Zc4 [⟨[120],[],R⟩] a op size t=if (Zb6 R size t).isEmpty then [] else [([],oneV op (Zb6 R size t))]:=by
 unfold Zc4;have e:Zc1 a ⟨[120],[],R⟩=true:=by unfold Zc1;rw[c,d];rfl
 show(if Zc1 a ⟨[120],[],R⟩ && !(Zb6 R size t).isEmpty then Zcd [] ([],oneV op (Zb6 R size t))else [])=_;rw[e];cases (Zb6 R size t).isEmpty <;> rfl
def sayW(R:List (Int×Int))(op:Option Nat)(size t:Int):LB:=decI t++(if (Zb6 R size t).isEmpty then [] else [32,123,125]++decI (oneV op (Zb6 R size t)))
theorem ZPr(R:List (Int×Int))(op:Option Nat)(size t:Int):Zel t (.inr (if (Zb6 R size t).isEmpty then [] else [([],oneV op (Zb6 R size t))]))=sayW R op size t:=by
 unfold sayW;cases (Zb6 R size t).isEmpty
 ·show decI t++([elS ([],oneV op (Zb6 R size t))]).flatten=_;have:elS ([],oneV op (Zb6 R size t))=[32,123,125]++decI (oneV op (Zb6 R size t)):=rfl;rw[this];simp
 ·rfl
theorem ZPw(h:ZO2 (-1) R)(a:(linS R).length<=6000)(c:R.length<=200)(d:0<=t)(e:t<=1000000){q:LB}{tr:Tr}(f:ZD q=.ok tr){x:LB}(g:Zel t (sayT [⟨[120],[],R⟩] t tr)=x):ZdK q (linS R) t t 1=(x,0,0):=by
 obtain⟨e1,e2⟩:=ZP5 h a c;unfold ZdK;rw[f,e1,e2,ZP9 d e];show(Zcn [Zeu [⟨[120],[],R⟩] tr t],0,0)=_;show(Zeu [⟨[120],[],R⟩] tr t,0,0)=_;unfold Zeu;rw[g]
theorem ZPx(h:ZO2 (-1) R)(a:(linS R).length<=6000)(c:R.length<=200)(d:0<=t)(e:t<=1000000){o:Nat}(f:o<5)(n1:1<=n)(n2:n<=1000):ZdK (winQ o n) (linS R) t t 1=(sayW R (some o) n t,0,0):=by
 refine ZPw h a c d e (ZPY f n1 n2) ?_;rw[<-ZPr,<-ZPM R ⟨2,o,(n:Int),[120],[],[]⟩ (some o) n t rfl rfl];rfl
theorem ZPy(h:ZO2 (-1) R)(a:(linS R).length<=6000)(c:R.length<=200)(d:0<=t)(e:t<=1000000):ZdK [120] (linS R) t t 1=(sayW R none 10 t,0,0):=by
 refine ZPw h a c d e ZPZ ?_;rw[<-ZPr,<-ZPM R ⟨1,0,0,[120],[],[]⟩ none 10 t rfl rfl];rfl
theorem ZPQ{n:Int}(a : -1000000000<=n)(c:n<=1000000000):cutV n=n:=by unfold cutV;rw[if_neg Om,if_neg Om]
def mil(x:Int):Prop:=-1000000<=x/\x<=1000000
theorem ZPn:∀l:List Int,(∀x∈l,mil x)->-1000000*(l.length:Int)<=l.sum/\l.sum<=1000000*(l.length:Int)
 | [],_=>⟨by decide,by decide⟩
 | x :: l, h => by
   have d:=ZPn l (fun y a=>h y (Yam _ a));have c:=h x (Yay ..);unfold mil at c;rw[Yd2,Yaj];omega
theorem ZPB:∀(l:List Int) (m:Int),mil m->(∀x∈l,mil x)->mil (maxL m l)
 | [],m,a,_=>a
 | x :: l, m, a, h => by
   rw[maxL];refine ZPB l _ ?_ (fun y c=>h y (Yam _ c));split
   · exact h x (Yay ..)
   · exact a
theorem ZPC:∀(l:List Int) (m:Int),mil m->(∀x∈l,mil x)->mil (minL m l)
 | [],m,a,_=>a
 | x :: l, m, a, h => by
   rw[minL];refine ZPC l _ ?_ (fun y c=>h y (Yam _ c));split
   · exact h x (Yay ..)
   · exact a
theorem ZPk{l:List Int}(h:∀x∈l,mil x):mil (l.headD 0)/\mil (l.getLastD 0):=by
 cases l with
 | nil=>exact⟨by unfold mil;decide,by unfold mil;decide⟩
 | cons x l=>
  refine⟨h x (Yay ..),?_⟩;rw[Yel];cases a:l with
  | nil=>exact h x (Yay ..)
  | cons y m=>
   refine h _ (Yam _ ?_);rw[a,Yey,Ygu (by simp),Ya6];exact Ygw _
theorem ZPo{l:List Int}(h:∀x∈l,mil x)(c:l.length<=100)(o:Nat):cutV (ZfI o l)=ZfI o l/\-100000000<=ZfI o l/\ZfI o l<=100000000:=by
 have d:=ZPn l h;have a:=ZPk h;have e:=ZPB l _ a.1 h;have f:=ZPC l _ a.1 h
 have : -100000000<=ZfI o l/\ZfI o l<=100000000:=by
  unfold ZfI;unfold mil at *
  split
  ·omega
  split
  ·omega
  split
  ·omega
  split
  ·omega
  ·omega
 exact⟨ZPQ Om Om,this⟩
def ZO1(op:Nat)(l:List Int):Int:=if op=5 then l.getLastD 0 else ZfI op l
theorem ZP8(l:List Int)(k:Nat)(h:k<l.length):l.take (k+1)=l.take k++[l[k]]:=List.take_succ_eq_append_getElem h
theorem ZPc(op:Nat)(T:op<=5)(l:List Int)(w:World)(h:w.ownsRow 0 3 1 v l.length (l.map (.int .i64)))(Q:l.length<=100)(C:∀x∈l,mil x)(d:0<l.length) :
  Cq 15 #[Vi op,v] w fun e u=>e=.returned (Vi (ZO1 op l))/\∃n,u=w.drewN n:=by
 obtain⟨g,cp,rfl⟩:=ZF h d;have I:∀(j:Nat) (J:j<l.length),w.cell? ⟨g,j,none⟩=some (Vi (l[j])):=fun j J=>Zi h _ _ (by rw[Ya2,List.getElem?_eq_getElem J];rfl);have L:Hid (∀(j:Nat) (J:j<l.length),w.cell? ⟨g,j,none⟩=some (Vi (l[j]))):=I;have A:=hid C;have R:w.cell? ⟨g,0,none⟩=some (Vi (l[0])):=I 0 d;obtain⟨x0,q⟩:∃x0,x0=l[0]:=⟨_,rfl⟩
 have r:Hid (x0=l.headD 0):=hid (by rw[q];cases l with|nil=>simp at d|cons a l=>rfl);rw[<-q]at R;clear I q h C;go_enter func15,ntmps15;go_wp2
 go_loop [5,6,7,8] (fun s5 s6 s7 s8=>∃(k:Nat) (sm mx mn:Int),k<=l.length/\s8=Vi k/\s5=Vi sm/\s6=Vi mx/\s7=Vi mn/\Hid (sm=(l.take k).sum/\mx=maxL x0 (l.take k)/\mn=minL x0 (l.take k))) (fun _ _ _ s8=>l.length - (intOf s8).toNat)
 case atStart=>exact⟨0,0,x0,x0,Yag _,rfl,rfl,rfl,rfl,rfl,rfl,rfl⟩
 case round=>
  obtain⟨k,sm,mx,mn,Z,rfl,rfl,rfl,rfl,p⟩:=hrel;by_cases s:k<l.length
  ·have ck:=L.out k s;have M:=hid (ZP8 l k s);have N:=ZPn (l.take k) (fun x B=>A.out x (Ydn B));rw[<-p.1,Ya7]at N;have B:=A.out l[k] (List.getElem_mem s);unfold mil at B;obtain⟨O,P⟩:=B;obtain⟨D,E⟩:=N;have t:min k l.length=k:=by omega
   rw[t]at D E;have U:(k:Int)<=100:=by omega
   have V : -100000000<=sm:=by omega
   have W:sm<=100000000:=by omega
   have c:Hid (sm+l[k]=(l.take (k+1)).sum/\(if mx<l[k] then l[k] else mx)=maxL x0 (l.take (k+1))/\(if l[k]<mn then l[k] else mn)=minL x0 (l.take (k+1))):=hid (by
    rw[M.out,Ygh,ZyW,Zy1,<-p.1,<-p.2.1,<-p.2.2];exact⟨by simp,rfl,rfl⟩)
   obtain⟨x,F⟩:∃x,x=l[k]:=⟨_,rfl⟩
   rw[<-F]at ck c O P;clear t D E M p F;by_cases o:mx<x
   ·by_cases f:x<mn
    ·go_wp2
     go_round
     case rel=>exact⟨k+1,_,_,_,by omega,by go_num,rfl,rfl,rfl,⟨c.1,by rw[<-c.2.1,if_pos o],by rw[<-c.2.2,if_pos f]⟩⟩
     case measure=>simp[intOf];omega
    ·go_wp2
     go_round
     case rel=>exact⟨k+1,_,_,_,by omega,by go_num,rfl,rfl,rfl,⟨c.1,by rw[<-c.2.1,if_pos o],by rw[<-c.2.2,if_neg f]⟩⟩
     case measure=>simp[intOf];omega
   ·by_cases f:x<mn
    ·go_wp2
     go_round
     case rel=>exact⟨k+1,_,_,_,by omega,by go_num,rfl,rfl,rfl,⟨c.1,by rw[<-c.2.1,if_neg o],by rw[<-c.2.2,if_pos f]⟩⟩
     case measure=>simp[intOf];omega
    ·go_wp2
     go_round
     case rel=>exact⟨k+1,_,_,_,by omega,by go_num,rfl,rfl,rfl,⟨c.1,by rw[<-c.2.1,if_neg o],by rw[<-c.2.2,if_neg f]⟩⟩
     case measure=>simp[intOf];omega
  ·obtain rfl:k=l.length:=by omega
   have K:Hid (sm=l.sum/\mx=maxL (l.headD 0) l/\mn=minL (l.headD 0) l):=hid (by
    have:=p.out;rw[Ya4,r.out]at this;exact this)
   have cl:=L.out (l.length - 1) Om;obtain⟨xl,y⟩:∃xl,xl=l[l.length - 1]:=⟨_,rfl⟩
   have G:Hid (xl=l.getLastD 0):=hid (by
    rw[y,Yey,List.getLast?_eq_getElem?,List.getElem?_eq_getElem Om];rfl)
   have i:=A.out l[0] (List.getElem_mem d);have m:=A.out l[l.length - 1] (List.getElem_mem Om)
   have z:x0=l[0]:=by
    have S:=r.out;cases l with
    | nil=>simp at d
    | cons a l=>exact S
   unfold mil at i m;rw[<-z]at i;rw[<-y]at m cl;obtain⟨y1,y2⟩:=i;obtain⟨y3,y4⟩:=m;clear y z;obtain⟨n1,H⟩:∃n1:Nat,n1=l.length - 1:=⟨_,rfl⟩
   have X:(l.length:Int) - 1=(n1:Int):=by omega
   have Y:(n1:Int)<l.length:=by omega
   rw[<-H]at cl;clear H;rcases(by omega:op=0∨op=1∨op=2∨op=3∨op=4∨op=5)with rfl|rfl|rfl|rfl|rfl|rfl
   ·go_wp2;go_ret;exact⟨ZBw (by rw[K.1];rfl),0,rfl⟩
   ·go_wp2;go_ret;exact⟨ZBw (by rw[K.2.1];rfl),0,rfl⟩
   ·go_wp2;go_ret;exact⟨ZBw (by rw[K.2.2];rfl),0,rfl⟩
   ·go_wp2;go_ret;exact⟨ZBw (by unfold ZO1 ZfI;rfl),0,rfl⟩
   ·go_wp2
    go_quiet (fail)
    go_wp2;go_ret;exact⟨ZBw (by unfold ZO1 ZfI;rw[<-r.out,<-G.out];rfl),_,rfl⟩
   ·go_wp2;go_ret;exact⟨ZBw (by unfold ZO1;rw[if_pos rfl,<-G.out]),0,rfl⟩

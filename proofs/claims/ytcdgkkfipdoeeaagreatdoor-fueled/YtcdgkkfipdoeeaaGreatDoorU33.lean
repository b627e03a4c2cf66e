/- Parts. -/
import Derived.Test.YtcdgkkfipdoeeaaGreatDoorU18
import Derived.Test.YtcdgkkfipdoeeaaGreatDoorU32
import Derived.Test.YtcdgkkfipdoeeaaGreatDoorU23
set_option linter.all false
set_option maxRecDepth 100000
set_option maxHeartbeats 16000000
namespace Go.Proofs.YtcdgkkfipdoeeaaGreatDoor
open Go.RowKit LS Go.Proofs.Tryz
variable {es:Array MapEntry}{seen:Array Nat}{k:BA}{t:Int}{s:Itm}{js:List Nat}{c xs:List Value}{e:MapEntry}{B b cl clock j n x:Nat}{A:Nat->Addr}{nv u v:Value}{W w w':World}
theorem Vars.sents{m:Int}(h:Vars w A m):Sents w (A 0) (A 1) (A 2) (A 3):=
 ⟨h.sent _ Dc,h.sent _ Dc,h.sent _ Dc,h.sent _ Dc⟩
theorem ZM.cells{p:Int}{a:Addr}(h:ZM w v p a):∃fa:Nat,v=.iface 81 (Vp fa)/\w.cell? ⟨fa,1,none⟩=some (Vi p)/\w.cell? ⟨fa,2,none⟩=some (.iface 432 (.pointer (some a))):=by
 obtain⟨fa,d,c⟩:=h;exact⟨fa,d,by simp[World.cell?,c],by simp[World.cell?,c]⟩
def Zfb(w:World)(A:Nat->Addr)(err:Value)(c p:Nat):Prop:=
 (err=.nilIface/\c=0/\p=0)∨
 (err=.iface 432 (.pointer (some (A 0)))/\c=1/\p=0)∨
 (err=.iface 432 (.pointer (some (A 3)))/\c=4/\p=0)∨
 (err=.iface 432 (.pointer (some (A 6)))/\c=7/\p=0)∨
 (err=.iface 432 (.pointer (some (A 7)))/\c=8/\p=0)∨
 (∃fa:Nat,err=.iface 81 (Vp fa)/\w.cell? ⟨fa,1,none⟩=some (Vi p)/\
  ((c=2/\w.cell? ⟨fa,2,none⟩=some (.iface 432 (.pointer (some (A 1)))))∨
   (c=3/\w.cell? ⟨fa,2,none⟩=some (.iface 432 (.pointer (some (A 2)))))∨
   (c=5/\w.cell? ⟨fa,2,none⟩=some (.iface 432 (.pointer (some (A 4)))))∨
   (c=6/\w.cell? ⟨fa,2,none⟩=some (.iface 432 (.pointer (some (A 5)))))))
theorem Zfb.rd{r:Except (Nat×Nat) Tr}{x:Nat×Nat}{pv:Value}(f:r=.error x)(h:RdIs w (A 0) (A 1) (A 2) (A 3) r pv v):Zfb w A v x.1 x.2/\∃ty u,v=.iface ty u:=by
 subst f;rcases h with ⟨rfl,rfl⟩|⟨rfl,rfl⟩|⟨a,c⟩|⟨a,c⟩
 ·exact⟨.inr (.inl ⟨rfl,rfl,rfl⟩),_,_,rfl⟩
 ·exact⟨.inr (.inr (.inl ⟨rfl,rfl,rfl⟩)),_,_,rfl⟩
 ·obtain⟨fa,rfl,d,e⟩:=c.cells;exact⟨.inr (.inr (.inr (.inr (.inr ⟨fa,rfl,d,.inl ⟨a,e⟩⟩)))),_,_,rfl⟩
 ·obtain⟨fa,rfl,d,e⟩:=c.cells;exact⟨.inr (.inr (.inr (.inr (.inr ⟨fa,rfl,d,.inr (.inl ⟨a,e⟩)⟩)))),_,_,rfl⟩
theorem Zfb.ld{r:Nat×Nat}(h:Zei w A v r):(r.1=0/\v=.nilIface)∨(r.1≠0/\Zfb w A v r.1 r.2/\∃ty u,v=.iface ty u):=by
 rcases h with ⟨rfl,rfl⟩|⟨rfl,rfl⟩|⟨rfl,rfl⟩|⟨i,fa,rfl,rfl,a,c⟩|⟨i,fa,rfl,rfl,a,c⟩
 ·simp
 ·exact .inr ⟨by simp,.inr (.inl ⟨rfl,rfl,rfl⟩),_,_,rfl⟩
 ·exact .inr ⟨by simp,.inr (.inr (.inr (.inl ⟨rfl,rfl,rfl⟩))),_,_,rfl⟩
 ·exact .inr ⟨by simp,.inr (.inr (.inr (.inr (.inr ⟨fa,rfl,a,.inr (.inr (.inl ⟨rfl,c⟩))⟩)))),_,_,rfl⟩
 ·exact .inr ⟨by simp,.inr (.inr (.inr (.inr (.inr ⟨fa,rfl,a,.inr (.inr (.inr ⟨rfl,c⟩))⟩)))),_,_,rfl⟩
theorem Zss(s:BA)(A:Nat->Addr)(m:Int)(w:World)(a:Vars w A m)(c:s.size<=maxLen) :
  CP 40 #[.string s] w fun e u=>∃sv err,e=.returned (.tuple #[sv,err])/\Hid (Zei u A err (Zbp (bl s)))/\BW w u/\Hid ((Zbp (bl s)).1=0->ZiM u sv (bl s)):=by
 by_cases h:s.size<=6000
 ·exact ZBt s A m w a h
 ·have e:Zbp (bl s)=(1,0):=by unfold Zbp;rw[if_pos (by rw[Zd];omega)]
  rw[e];refine(ZBr s A m w a Om c).mono ?_;rintro e' u ⟨v,err,d,f,g⟩;exact⟨v,err,d,f,g,hid (fun h=>by cases h)⟩
open Go.ChangeMaps (setBlock)
structure BelX (x B:Nat) (w w':World):Prop where
 os:w'.os=w.os
 tape:w'.tape=w.tape
 output:w'.output=w.output
 size:w.heap.size<=w'.heap.size
 block:∀k,k<B->k≠x->w'.heap[k]?=w.heap[k]?
theorem BelX.of(h:Below B w w'):BelX x B w w':=⟨h.os,h.tape,h.output,h.size,fun k a _=>h.block k a⟩
theorem BelX.trans{a b c:World}(h:BelX x B a b)(k:BelX x B b c):BelX x B a c:=⟨k.os.trans h.os,k.tape.trans h.tape,k.output.trans h.output,Yah h.size k.size,fun j d e=>(k.block j d e).trans (h.block j d e)⟩
theorem BelX.mono{C:Nat}(h:BelX x C w w')(c:B<=C):BelX x B w w':=⟨h.os,h.tape,h.output,h.size,fun k d a=>h.block k Om a⟩
theorem BelX.below(h:BelX x B w w')(c:B<=x):Below B w w':=⟨h.os,h.tape,h.output,h.size,fun k a=>h.block k a Om⟩
theorem BelX.set(x B:Nat)(w:World)(o':Obj):BelX x B w (setBlock w x o'):=⟨rfl,rfl,rfl,by simp[setBlock],fun k _ a=>by simp[setBlock,Ycp a]⟩
def MapX(w:World)(x:Nat):Prop:=∃es clock,w.heap[x]?=some (.map es clock)
theorem Zo.belX   (h : BelX x w.heap.size w w') (d : MapX w x) : Zo w w' := fun b c T fr a => by
  obtain⟨es,cl,f⟩:=d;refine(h.block b (Yae.1 a).1 (fun e=>?_)).trans a
  simp_all
structure GEn where
 a:Option Addr
 n:Nat
 c:Nat
 tx:BA
 qs:List (BA×BA)
 vals:List Int
def GEn.val(g:GEn):Value:=.agg (.slice g.a g.n g.c::.string g.tx::talC g.vals).toArray
def GEn.grp(g:GEn):Grp:=(g.qs.map blP,g.vals)
structure GEnOk (w:World) (g:GEn):Prop where
 lb:LbOk w g.a g.n g.c g.tx g.qs
 vok:∀v∈g.vals,vOk v
theorem GEnOk.jv{g:GEn}(h:GEnOk w g)(a:Zo w w'):GEnOk w' g:=⟨h.lb.jv a,h.vok⟩
structure MapG (w:World) (x:Nat) (gs:List GEn) (es:Array MapEntry) (clock:Nat):Prop where
 heap:w.heap[x]?=some (.map es clock)
 stm:MapKept.Stamped es clock
 kv:es.toList.map (fun e=>(e.key,e.val))=gs.map (fun g=>(Value.string g.tx,g.val))
 sz:∀g∈gs,g.tx.size<=maxLen
theorem MapG.len{gs:List GEn}(h:MapG w x gs es clock):es.size=gs.length:=by
 have:=congrArg List.length h.kv
 simp_all
theorem MapG.at{gs:List GEn}(h:MapG w x gs es clock)(c:es.toList[j]?=some e):∃d:j<gs.length,e.key=.string gs[j].tx/\e.val=gs[j].val:=by
 have f:(es.toList.map (fun e=>(e.key,e.val)))[j]?=(gs.map (fun g=>(Value.string g.tx,g.val)))[j]?:=by rw[h.kv]
 rw[Ya2,c,Ya2]at f
 have d:j<gs.length:=by
  rcases Yav j gs.length with a|a
  ·exact a
  ·simp_all
 simp_all
theorem MapG.keys   {gs : List GEn}   (h : MapG w x gs es clock) : ∀ e ∈ es.toList, ∃ l, keyOf prog 9 e.key = some l := fun e a => by
  obtain⟨j,c⟩:=Yd9 a;obtain⟨f,d,_⟩:=h.at c;rw[d];exact⟨_,Go.WideMaps.keyOf_string_mk underlying9 (h.sz _ (List.getElem_mem _))⟩
theorem MapG.moved{gs:List GEn}(h:MapG w x gs es clock)(a:w'.heap[x]?=w.heap[x]?):MapG w' x gs es clock:=⟨a.trans h.heap,h.stm,h.kv,h.sz⟩
def ZE6:Value:=.agg #[S0,.string ByteArray.empty,Vi 0,Vi 0,Vi 0,Vi 0,Vi 0,Vi 0]
theorem MapG.find{gs:List GEn}(h:MapG w x gs es clock)(k:BA)(u:k.size<=maxLen) :
  ((∀W:World,(Instr.findKey 9 (.string k) es.toList).run prog W=.ok none W)/\(∀g∈gs,g.tx≠k)/\∀e∈es.toList,e.key≠.string k)∨
  ∃j,∃p:j<gs.length,gs[j].tx=k/\(∀i (l:i<gs.length),i≠j->gs[i].tx≠k)/\∃e,es.toList[j]?=some e/\e.key=.string k/\e.val=gs[j].val/\∀W:World,(Instr.findKey 9 (.string k) es.toList).run prog W=.ok (some (j,e.val)) W:=by
 have K:=Maps.string_keyed (P:=prog) (k:=9) underlying9;have d:=Go.WideMaps.keyOf_string_mk (P:=prog) (k:=9) underlying9 u;rcases K.find w d es.toList h.keys with ⟨v,a⟩|⟨j,e,v,a,o⟩
 ·left
  refine⟨fun W=>?_,fun g z A=>?_,a⟩
  ·rcases K.find W d es.toList h.keys with ⟨k1,_⟩|⟨j,e,k1,k2,k3⟩
   ·exact k1
   ·exact absurd k3 (a e (Ycq k2))
  ·obtain⟨i,l,rfl⟩:=List.mem_iff_getElem.1 z;have c:i<es.toList.length:=by rw[Ybl,h.len];exact l
   obtain⟨_,e1,_⟩:=h.at (List.getElem?_eq_getElem c)
   simp_all
 ·right
  obtain⟨p,e1,e2⟩:=h.at a;rw[o]at e1;have q:gs[j].tx=k:=(Value.string.inj e1).symm;have m:=h.stm.2.2
  have f : ∀ i (l : i < gs.length), i ≠ j -> gs[i].tx ≠ k := fun i l B A => by
    have c:i<es.toList.length:=by rw[Ybl,h.len];exact l
    have n:j<es.toList.length:=(Ycm.1 a).1;obtain⟨_,f1,_⟩:=h.at (List.getElem?_eq_getElem c)
    have e3:es.toList[j]=e:=Yax ((List.getElem?_eq_getElem n).symm.trans a);rw[List.Nodup,Ybx,List.pairwise_iff_getElem]at m;rcases Yav i j with r|r
    · exact m i j c n r (by simp_all)
    · exact m j i n c Om (by simp_all)
  refine⟨j,p,q,f,e,a,o,e2,fun W=>?_⟩;rcases K.find W d es.toList h.keys with ⟨_,k2⟩|⟨j',e',k1,k2,k3⟩
  ·exact absurd o (k2 e (Ycq a))
  ·obtain⟨s,f1,f2⟩:=h.at k2;rw[k3]at f1
   have:j'=j:=by
    refine Yb6 fun t=>f j' s t ?_;exact(Value.string.inj f1).symm
   simp_all
theorem ZyG{gs:List GEn}(h:MapG w x gs es clock)(c:k.size<=maxLen)(d:∀W:World,(Instr.findKey 9 (.string k) es.toList).run prog W=.ok none W)(W:World)(e:W.heap[x]?=w.heap[x]?) :
  (Instr.lookup 279 (.map (some x)) (.string k) false).run prog W=.ok ZE6 W:=by
 have K:=Maps.string_keyed (k:=9) underlying9;have a:=Go.WideMaps.keyOf_string_mk (k:=9) underlying9 c;simp[Instr.lookup,run_underlying _,Ybt (e.trans h.heap),K.check W _ a,d W,Result.andThen];rfl
theorem ZyE{gs:List GEn}(h:MapG w x gs es clock)(c:k.size<=maxLen)(d:∀W:World,(Instr.findKey 9 (.string k) es.toList).run prog W=.ok (some (j,v)) W)(W:World)(e:W.heap[x]?=w.heap[x]?) :
  (Instr.lookup 279 (.map (some x)) (.string k) false).run prog W=.ok v W:=by
 have K:=Maps.string_keyed (k:=9) underlying9;have a:=Go.WideMaps.keyOf_string_mk (k:=9) underlying9 c;simp[Instr.lookup,run_underlying _,Ybt (e.trans h.heap),K.check W _ a,d W,Result.andThen]
theorem ZDG{gs:List GEn}(h:MapG w x gs es clock)(d:k.size<=maxLen)(e:∀W:World,(Instr.findKey 9 (.string k) es.toList).run prog W=.ok none W)(v:Value)(W:World)(c:W.heap[x]?=w.heap[x]?) :
  (Instr.mapUpdate 279 (.map (some x)) (.string k) v).run prog W=.ok () (setBlock W x (.map (es.push ⟨.string k,v,clock⟩) (clock+1))):=by
 have K:=Maps.string_keyed (k:=9) underlying9;have a:=Go.WideMaps.keyOf_string_mk (k:=9) underlying9 d;simp[Instr.mapUpdate,run_underlying _,Ybt (c.trans h.heap),K.check W _ a,e W,Ych _ (c.trans h.heap),Result.andThen,setBlock]
theorem ZDE{gs:List GEn}(h:MapG w x gs es clock)(g:k.size<=maxLen)(i:es.toList[j]?=some e)(c:e.key=.string k)(l:∀W:World,(Instr.findKey 9 (.string k) es.toList).run prog W=.ok (some (j,u)) W)(v:Value)(W:World)(d:W.heap[x]?=w.heap[x]?) :
  (Instr.mapUpdate 279 (.map (some x)) (.string k) v).run prog W=.ok () (setBlock W x (.map (es.modify j fun e=>{ e with key:=.string k,val:=v }) clock)):=by
 have K:=Maps.string_keyed (k:=9) underlying9;have a:=Go.WideMaps.keyOf_string_mk (k:=9) underlying9 g;have f:((es[j]?).map (·.key)).getD (.string k)=.string k:=Yb2▸i▸c;simp[Instr.mapUpdate,run_underlying _,Ybt (d.trans h.heap),K.check W _ a,l W,f,K.stays W a,Ych _ (d.trans h.heap),Result.andThen,setBlock]
theorem ZnH(k:List Lab)(v:Int):∀(m:List Grp) (j:Nat) (a:j<m.length),m[j].1=k->(∀i (c:i<m.length),i≠j->m[i].1≠k)->addG k v m=m.set j (k,m[j].2++[v])
 | g :: m, 0, _, h, _ => by
   have e:g.1=k:=h;rw[addG,if_pos e];rfl
 | g :: m, j + 1, a, h, d => by
   have f:g.1≠k:=d 0 (by simp) Om;rw[addG,if_neg f,ZnH k v m j (by simpa using a) h (fun i c l=>d (i+1) (by simpa using c) Om)];rfl
theorem ZnJ(k:List Lab)(v:Int):∀(m:List Grp),(∀g∈m,g.1≠k)->addG k v m=m++[(k,[v])]
 | [],_=>rfl
 | g :: m, h => by
   rw[addG,if_neg (h g (by simp)),ZnJ k v m (fun z a=>h z (Yam _ a))];rfl
theorem MapG.push{gs:List GEn}(h:MapG w x gs es clock)(c:x<W.heap.size)(g:GEn)(d:g.tx.size<=maxLen)(f:∀e∈es.toList,e.key≠.string g.tx) :
  MapG (setBlock W x (.map (es.push ⟨.string g.tx,g.val,clock⟩) (clock+1))) x (gs++[g]) (es.push ⟨.string g.tx,g.val,clock⟩) (clock+1):=by
 refine⟨by simp[setBlock,c],MapKept.stamped_push h.stm f,?_,fun z a=>?_⟩
 ·rw[Yeu,Yaq,Yaq,h.kv];rfl
 ·rcases Yar.1 a with a|a
  ·exact h.sz z a
  ·rw[Yap]at a;subst a;exact d
theorem MapG.mod{gs:List GEn}(h:MapG w x gs es clock)(m:x<W.heap.size)(g:GEn)(n:g.tx.size<=maxLen)(d:es.toList[j]?=some e)(k:e.key=.string g.tx) :
  MapG (setBlock W x (.map (es.modify j fun e=>{ e with key:=.string g.tx,val:=g.val }) clock)) x (gs.set j g) (es.modify j fun e=>{ e with key:=.string g.tx,val:=g.val }) clock:=by
 refine⟨by simp[setBlock,m],MapKept.stamped_modify h.stm j _ (fun _ _=>rfl) (fun e' _ c=>?_),?_,fun z f=>?_⟩
 ·rw[<-Yb2,d]at c;have:=Yax c;subst this;exact k.symm
 ·rw[Yd8,<-h.kv];refine Ycs (fun i=>?_);rw[Ya2,Yb2,Ybn,Ya0,Ya2,Yak,Ybl];by_cases a:j=i
  ·subst a;have l:j<es.size:=by have:=(Ycm.1 d).1;simpa using this
   rw[if_pos rfl,if_pos rfl,if_pos l,<-Yb2,d];rfl
  ·rw[if_neg a,if_neg a,<-Yb2]
 ·rcases Yck f with f|rfl
  ·exact h.sz z f
  ·exact n
theorem ZsY(g:GEn){t0 t1 t2 t3 t4 t5:Int}(d:talC g.vals=[Vi t0,Vi t1,Vi t2,Vi t3,Vi t4,Vi t5]):g.val=.agg #[.slice g.a g.n g.c,.string g.tx,Vi t0,Vi t1,Vi t2,Vi t3,Vi t4,Vi t5]:=by
 unfold GEn.val;rw[d]
theorem ZwN{gs:List GEn}(d:∀g∈gs,GEnOk w g){o:GEn}(k:LbOk w o.a o.n o.c o.tx o.qs)(v:Int) :
  (∀(j:Nat) (q:j<gs.length),gs[j].tx=o.tx->(∀i (l:i<gs.length),i≠j->gs[i].tx≠o.tx)->(gs.set j { o with vals:=gs[j].vals++[v] }).map GEn.grp=addG (o.qs.map blP) v (gs.map GEn.grp))/\
  ((∀g∈gs,g.tx≠o.tx)->(gs++[{ o with vals:=[v] }]).map GEn.grp=addG (o.qs.map blP) v (gs.map GEn.grp)):=by
 have key : ∀ g ∈ gs, g.qs.map _ = o.qs.map _ ↔ g.tx = o.tx := fun g f => by
   constructor
   · intro h
     have e:=(d g f).lb.txt;rw[h,<-k.txt]at e;exact(Zem e)
   · intro h
     refine ZnE (d g f).lb.wf k.wf ?_;rw[<-(d g f).lb.txt,<-k.txt,h]
 constructor
 ·intro j q r s
  rw [Yd8, ZnH _ v _ j (by rwa [Yak]) (by rw [List.getElem_map]; exact (key _ (List.getElem_mem _)).2 r) (fun i l m => by
    rw[Yak]at l;rw[List.getElem_map];exact fun e=>s i _ m ((key _ (List.getElem_mem _)).1 e)),List.getElem_map]
  rfl
 ·intro h
  rw [Yaq, ZnJ _ _ _ (fun g f => by
    obtain⟨z,p,rfl⟩:=Ybe.1 f;exact fun e=>h z p ((key z p).1 e))]
  rfl
theorem ZuD(h:w.heap[x]?=some (.map es clock))(T:TypeId):(Builtin.clear_ #[279] T #[.map (some x)]).run prog w=.ok (.tuple #[]) (setBlock w x (.map #[] clock)):=by
 simp[Builtin.clear_,run_underlying _,Ybt h,Ych _ h,Result.andThen,setBlock]
theorem ZyV(h:w.heap[x]?=some (.map es clock))(T:TypeId):(Builtin.len_ #[279] T #[.map (some x)]).run prog w=.ok (Vi es.size) w:=by
 simp[Builtin.len_,run_underlying _,Ybt h,Result.andThen];rfl
def gItm(op:Nat)(g:GEn):Itm:=⟨g.a,g.n,g.c,g.tx,g.qs,cutV (ZfI op g.vals)⟩
def gen0:GEn:=⟨none,0,0,⟨#[]⟩,[],[]⟩
def ZhS(es:Array MapEntry)(j:Nat):Nat:=(es.toList[j]?.map (·.born)).getD 0
structure Went (es:Array MapEntry) (n:Nat) (js:List Nat) (seen:Array Nat):Prop where
 nodup:js.Nodup
 lt:∀j∈js,j<n
 seen:seen.toList=js.map (ZhS es)
theorem ZqB(h:e∈(leftOf es seen).toList):e∈es.toList/\e.born∉seen.toList:=by
 unfold leftOf at h;rw[Ydu,Ycg]at h;refine⟨h.1,fun a=>?_⟩;have:=h.2;simp[Array.mem_toList_iff.1 a]at this
theorem ZxW(h:e∈(leftOf es seen).toList):(leftOf es (seen.push e.born)).size+1<=(leftOf es seen).size:=by
 have e1 : (leftOf es (seen.push e.born)).toList = (leftOf es seen).toList.filter (fun z => decide (z.born ≠ e.born)) := by
   unfold leftOf;rw[Ydu,Ydu,List.filter_filter];refine List.filter_congr (fun z _=>?_);simp[Bool.and_comm]
 have a:((leftOf _ _).toList.filter (fun z=>decide (z.born≠e.born))).length<(leftOf _ _).toList.length:=List.length_filter_lt_length_iff_exists.2 ⟨e,h,by simp⟩;rw[<-e1,Ybl,Ybl]at a;omega
theorem ZxV(h:(leftOf es seen).size=0):∀e∈es.toList,e.born∈seen.toList:=by
 intro e c;refine Yb6 fun d=>?_
 have a:e∈(leftOf es seen).toList:=by
  unfold leftOf;rw[Ydu,Ycg];refine⟨c,?_⟩;simp;exact fun f=>d (Array.mem_toList_iff.2 f)
 have:=Ya3 (by rwa [Ybl]);rw[this]at a;cases a
theorem Went.step{gs:List GEn}(n:MapG w x gs es cl)(h:Went es gs.length js seen)(o:e∈(leftOf es seen).toList):∃j,j<gs.length/\es.toList[j]?=some e/\Went es gs.length (js++[j]) (seen.push e.born):=by
 obtain⟨p,q⟩:=ZqB o;obtain⟨j,f⟩:=Yd9 p;obtain⟨g,_⟩:=n.at f;have k:ZhS es j=e.born:=by unfold ZhS;rw[f];rfl
 have l:j∉js:=fun m=>q (h.seen▸Ybe.2 ⟨j,m,k⟩);refine⟨j,g,f,⟨?_,?_,?_⟩⟩
 ·rw[List.nodup_append];exact⟨h.nodup,by simp,fun a r b d=>by rw[Yap]at d;subst d;intro e';subst e';exact l r⟩
 ·intro i c;rcases Yar.1 c with c|c
  ·exact h.lt i c
  ·rw[Yap]at c;subst c;exact g
 ·rw[Yeu,Yaq,h.seen,Yco,k]
theorem Went.all{gs:List GEn}(e:MapG w x gs es cl)(h:Went es gs.length js seen)(n:(leftOf es seen).size=0):js.Perm (List.range gs.length):=by
 rw[List.perm_ext_iff_of_nodup h.nodup List.nodup_range];intro j;rw[Yb9];refine⟨h.lt j,fun p=>?_⟩;have f:j<es.toList.length:=by rwa [Ybl,e.len]
 have g:=ZxV n _ (List.getElem_mem f);rw[h.seen]at g;obtain⟨i,k,l⟩:=Ybe.1 g;have o:=h.lt i k;have m:i<es.toList.length:=by rwa [Ybl,e.len]
 have d:ZhS es i=es.toList[i].born:=by unfold ZhS;rw[List.getElem?_eq_getElem m];rfl
 have a:=e.stm.2.1;rw[List.Nodup,Ybx,List.pairwise_iff_getElem]at a
 have:i=j:=by
  rcases Nat.lt_trichotomy i j with c|c|c
  ·exact absurd (d.symm.trans l) (a i j _ _ c)
  ·exact c
  ·exact absurd (d.symm.trans l).symm (a j i _ _ c)
 rw[<-this];exact k
theorem ZEF (op : Nat) {gs : List GEn}  (h : js.Perm (List.range gs.length)) : ((js.map fun j => gItm op (gs.getD j gen0)).map Itm.el).Perm ((gs.map GEn.grp).map (Zh7 op)) := by
  have a:=(h.map fun j=>gItm op (gs.getD j gen0)).map Itm.el;refine a.trans ?_
  have e : (List.range gs.length).map (fun j => gItm op (gs.getD j gen0)) = gs.map (gItm op) := by
    conv=>rhs;rw[<-Zwt gs gen0]
    rw[Yb1];rfl
  rw[e,Yb1,Yb1];exact List.Perm.refl _
theorem Zz0{e:TypeId}{sz:Nat}(h:w.ownsRow b e sz v n xs){q:Nat}{o:Obj}(d:w.heap[q]?=some o)(f:∀c t fr,o≠.cells c t fr):some q≠v.ownBlock:=by
 rcases h.2 with ⟨rfl,_⟩|⟨g,cp,cur,rfl,_,a,_⟩
 ·simp[Value.ownBlock]
 ·intro i;have j:q=g:=by simpa [Value.ownBlock] using i
  subst j;rw[d]at a;injection a with h3;exact f _ _ _ h3
theorem ZeU(a:x<W.heap.size)(o:Obj):(W.alloc o).heap[x]?=W.heap[x]?:=Below.heap_alloc _ _ _ a
theorem BAt.belX{a:Nat}{t:TypeId}(h:BAt w a c t)(d:BelX x w.heap.size w w')(e:a≠x):BAt w' a c t:=(d.block a h.lt e).trans h
theorem ZDx (l : List Int) (x : Int) (a : l.length <= 10000) (c : ∀ y ∈ l, vOk y) (d : vOk x) (t0 t1 t2 t3 t4 t5 r0 r1 r2 r3 r4 r5 : Int) (f : talC l = [Vi t0, Vi t1, Vi t2, Vi t3, Vi t4, Vi t5]) (g : talC (l ++ [x]) = [Vi r0, Vi r1, Vi r2, Vi r3, Vi r4, Vi r5])  : CP 206 #[.agg #[Vi t0, Vi t1, Vi t2, Vi t3, Vi t4, Vi t5], Vi x] w fun e u => e = .returned (.agg #[Vi r0, Vi r1, Vi r2, Vi r3, Vi r4, Vi r5]) /\ BW w u := by
  have h:=ZsT l x a c d w;unfold talV at h;rw[f,g]at h;exact h
theorem ZtY{a:Obj}{t:TypeId}:BAt ((w.alloc a).alloc (.cells ⟨c⟩ t)).drew (w.heap.size+1) c t:=by
 have:=Go.Deep.blk_alloc_new (w.alloc a) (.cells ⟨c⟩ t);rw[Go.Deep.nblk_alloc]at this;exact this
theorem ZtX{a:Obj}{t:TypeId}:BAt ((w.alloc (.cells ⟨c⟩ t)).alloc a).drew w.heap.size c t:=(Zbal.block _ (by simp)).trans bnw
theorem ZqW(gb x op:Nat)(v5:op<=3)(bs:List BA)(v:Value)(l:List El)(is:List Itm)(w:World)(c6:BAt w gb [.map (some x)] 281)(hx:MapX w x)(hn:w.ownsRow 0 9 1 nv bs.length (Zbc bs))(p9:bs.length<=100000)(hs:NmS bs)(hv:VecV w v l is) :
  CP 157 #[Vp gb,Vi op,nv,v] w fun e f=>∃v' is',e=.returned v'/\Hid (VecV f v' (Zcv op (bs.map bl) l) is'/\MapX f x)/\BelX x w.heap.size w f:=by
 obtain⟨i0,hi,j5,j6,j7⟩:=info_parts Tryz.infoItem;obtain⟨na,ncp,rfl⟩:=Zl hn;obtain⟨ra,rcp,rfl⟩:=Zl hv.row;obtain⟨es0,cl0,a8⟩:=hx;have HG:=hid c6;have q3:=hid a8;have HN:=hid hn;have HS:=hid hs;have HV:=hid hv;have v7:=hv.len;have q4:gb≠x:=by intro e;subst e;rw[c6]at a8;cases a8
 have j8:=(Yae.1 a8).1;have v8:=c6.lt;have v9:=c6.cell;have v3:=fun T=>ZuD a8 T;go_enter func157,ntmps157;go_wp2;obtain⟨w1,e4⟩:∃w1,w1=setBlock w x (.map #[] cl0):=⟨_,rfl⟩
 rw[<-e4];have q5:Hid (BelX x w.heap.size w _):=e4▸BelX.set _ _ _ _;have q6:Hid (MapG w1 x [] _ cl0):=hid ⟨by rw[e4];simp[setBlock,j8],MapKept.stamped_empty _,rfl,fun g d=>by cases d⟩;have q7:Hid (MapX w x):=hid ⟨es0,cl0,q3⟩
 go_loopw [22] (fun i wr => ∃ (k : Nat) (gs : List GEn) (es : Array MapEntry) (cl : Nat), k <= is.length /\ i = Vi k /\ gs.length <= k /\ Hid (MapG wr x gs es cl) /\ Hid ((∀ g ∈ gs, GEnOk wr g /\ g.vals.length <= k) /\ gs.map GEn.grp = grpV (bs.map bl) (l.take k)) /\ Hid (BelX x w.heap.size w wr))
   (fun i _=>is.length - (intOf i).toNat)
 case atStart=>exact⟨0,[],#[],cl0,Yag _,rfl,Yag _,q6,hid ⟨(fun g d=>by cases d),rfl⟩,q5⟩
 case round=>
  rename World=>wo
  obtain⟨k,gs,es,cl,hk,rfl,x0,V,F,HB⟩:=hrel;have e6:=HB.size;have c7:=hid (Zo.belX HB q7);have e7:Hid (BAt _ _ _ _):=hid (c7 _ _ _ _ HG);by_cases e8:k<is.length
  ·have d:∃g,ra=some ⟨g,0,none⟩:=by
    obtain⟨g,cp',h⟩:=ZF HV.row Om;injection h with p;exact⟨g,p⟩
   obtain⟨vg,rfl⟩:=d;have e9:=hid (c7.own HV.row);obtain⟨f1,f2,f3⟩:=Zfl _ k e8;have d1:=Zi e9 _ _ f1;have d2:=Zi e9 _ _ f2;have d3:=Zi e9 _ _ f3;have j9:=hid ((HV.ok _ (List.getElem_mem e8)).jv c7)
   have k0:Hid (grpV (bs.map bl) (l.take (k+1))=addG (ZB (is[k]).labs (bs.map bl)) (is[k]).v (grpV (bs.map bl) (l.take k))):=by
    have hl:k<l.length:=by rwa [HV.len']
    rw[List.take_succ_eq_append_getElem hl,ZpO]
    have e:l[k]=(is[k]).el:=by
     have:l[k]?=(is.map Itm.el)[k]?:=by rw[HV.els]
     rw[List.getElem?_eq_getElem hl,Ya2,List.getElem?_eq_getElem e8]at this;exact Yax this
    rw[e];rfl
   generalize is[k]=s at *
   have x1:(k:Int)<(is.length):=by omega
   have c8:x<wo.heap.size:=by omega
   go_wp2_with fail
   refine Zm fun W r=>?_;have N:Below _ _ W:=r▸Zbal;have HI:Hid (BAt W _ [.slice _ _ _,.string _,.int _ _] 286):=r▸bnw;refine(ZxO W (j9.below N).lb ((c7.trans (Zo.below N)).own HN) p9 HS).mono ?_;rintro e R ⟨a',n',c',tx',qs',rfl,a9,G⟩;have H:=hid (N.trans (G.mono N.size));have f0:=hid (HI.below G);have k1:=H.size;have x2:=f0.lt
   have D:tx'.size<=maxLen:=by
    have p:=a9.1.wf.len;rw[<-a9.1.txt,Zd]at p;unfold maxLen;omega
   have f4:=hid (V.moved (H.block x c8));have k2:=hid (e7.below H);have q8:x<R.heap.size:=by omega
   have HF:=hid (f4.find _ D)
   obtain⟨vals,gv,q9⟩:∃(vals:List _) (gv:GEn),vals=gv.vals/\(vals.length<=k/\(∀v∈vals,vOk v))/\(∃u,(∀W:World,W.heap[x]?=R.heap[x]?->(Instr.lookup _ _ _ _).run _ W=.ok u W)/\∃sa sn sc stx,u=.agg (.slice sa sn sc::.string stx::talC vals).toArray)/\
     (((∀W:World,(Instr.findKey 9 _ _).run _ W=.ok _ W)/\(∀g∈gs,g.tx≠tx')/\(∀e∈es.toList,e.key≠.string _)/\vals=[])∨∃j,∃hj:j<gs.length,gs[j].tx=tx'/\gs[j].vals=vals/\(∀i (hi:i<gs.length),i≠j->gs[i].tx≠tx')/\∃e,es.toList[j]?=some e/\e.key=.string _/\∀W:World,(Instr.findKey 9 _ _).run _ W=.ok (some (j,e.val)) W):=by
    rcases HF.out with ⟨p,h2,h3⟩|⟨j,hj,p,h2,e,h3,h4,h5,h6⟩
    ·exact⟨[],⟨none,0,0,tx',[],[]⟩,rfl,⟨Yag _,fun v hv=>by cases hv⟩,⟨_,fun W r=>ZyG f4 D p W r,none,0,0,ByteArray.empty,rfl⟩,.inl ⟨p,h2,h3,rfl⟩⟩
    ·have k3:=F.1 _ (List.getElem_mem hj);exact⟨gs[j].vals,gs[j],rfl,⟨k3.2,k3.1.vok⟩,⟨_,fun W r=>ZyE f4 D h6 W r,gs[j].a,gs[j].n,gs[j].c,gs[j].tx,h5⟩,.inr ⟨j,hj,p,rfl,h2,e,h3,h4,h6⟩⟩
   obtain⟨-,X,j1,U⟩:=q9;have X:=hid X;have j2:=hid j1;have U:=hid U;obtain⟨t0,t1,t2,t3,t4,t5,Y⟩:=ZiD vals;have a5:=hid Y;obtain⟨u,r6,sa,sn,sc,stx,hu⟩:=j2.out;rw[a5]at hu;subst hu;have a2:=hid r6
   go_upto_region 6 with fail
   refine ZP fun wA f5=>?_;have d0:Below _ _ _:=f5▸Zbal;have b5:Hid (BAt _ _ _ 268):=f5▸bnw;have f6:=hid (k2.below d0);have k4:=hid (f0.below d0);have I:=hid d0;clear f5 d0;have r7:=I.size;have x3:=b5.lt;have c0:=f6.cell 0;have b0:=b5.cell 0;have b1:=b5.cell 1;simp only[Zget]at c0 b0 b1;have b6:x<wA.heap.size:=by omega
   have b7:=hid (I.block x q8);have l1:∀o,(Instr.lookup _ _ _ _).run _ ((wA.alloc o).drew)=_:=fun o=>a2 _ ((ZeU b6 o).trans b7);have l2:∀o,(Instr.lookup _ _ _ _).run _ (wA.drew.alloc o)=_:=fun o=>a2 _ ((ZeU b6 o).trans b7);have l3:∀o o',(Instr.lookup _ _ _ _).run _ (((wA.alloc o).alloc _).drew)=_:=fun o o'=>a2 _ (((ZeU (by simp;omega) o').trans (ZeU b6 o)).trans b7);have l4:∀o o',(Instr.lookup _ _ _ _).run _ ((wA.alloc o).drew.alloc _)=_:=fun o o'=>a2 _ (((ZeU (by simp;omega) o').trans (ZeU b6 o)).trans b7);have l5:∀o o',(Instr.lookup _ _ _ _).run _ ((wA.drew.alloc o).alloc _)=_:=fun o o'=>a2 _ (((ZeU (by simp;omega) o').trans (ZeU b6 o)).trans b7);have p2:∀W:World,(Instr.field 351 (.agg #[.slice sa sn sc,.string stx,Vi t0,Vi t1,Vi t2,Vi t3,Vi t4,Vi t5]) 1).run prog W=.ok (.agg #[Vi t0,Vi t1,Vi t2,Vi t3,Vi t4,Vi t5]) W:=fun W=>by kernel_rfl
   go_cut [12] from 30 to 37 (fun s12 wx=>∃Bt:Nat,s12=Vp Bt/\Hid (BAt wx Bt [Vi t0,Vi t1,Vi t2,Vi t3,Vi t4,Vi t5] 349)/\Hid (BW wA wx)/\wA.heap.size<=Bt)
   case first=>
    go_region_held3 (fun f => f.cell? ⟨gb, 0, none⟩ = some (.map (some x)) /\ f.cell? ⟨R.heap.size, 0, none⟩ = some (.slice a' n' c') /\ f.cell? ⟨R.heap.size, 1, none⟩ = some (.string tx')) (first | exact ⟨c0, b0, b1⟩ | go_keep) (first
      | (go_at_call 151
         refine(ZgR).mono ?_;rintro e w7 ⟨rfl,o7,r8⟩))
    all_goals
     go_wp2
     go_meet
     exact⟨_,rfl,hid (by first|exact ZtY|exact ZtX),hid belB,by omega⟩
   case rest=>
   obtain⟨Bt,rfl,HT,a3,x4⟩:=hcut;clear l1 l2 l3 l4 l5 p2 c0 b0 b1 a2;have b8:=hid ((H.trans (I.mono k1)).trans (a3.mono Om));have k5:=hid (f6.below a3);have k6:=hid (k4.below a3);have f7:=hid (b5.below a3);have f8:=hid (a9.1.jv (Zo.below (I.trans (a3.mono r7))));have k7:=hid (b8.block x c8);have k8:x<wc.heap.size:=by have:=b8.size;omega
   clear f6 k4 b5 I a3 k2 f0;obtain⟨r0,r1,r2,r3,r4,r5,hr⟩:=ZiD (vals++[s.v]);have HR:=hid hr;clear hr;have f9:=hid j9.vok;have b9:=hid (V.moved k7);have L:Hid (∀g∈gs,GEnOk _ g/\g.vals.length<=k):=hid (fun g d=>⟨(F.1 g d).1.jv (Zo.below b8),(F.1 g d).2⟩)
   have r9:∃(es':Array _) (cl':Nat) (gs':List _),(∀W:World,W.heap[x]?=wc.heap[x]?->(Instr.mapUpdate 279 (.map (some x)) (.string tx') (.agg #[.slice a' n' c',.string tx',Vi r0,Vi r1,Vi r2,Vi r3,Vi r4,Vi r5])).run prog W=.ok () (setBlock W x (.map es' cl')))/\
     (∀W:World,x<W.heap.size->MapG (setBlock W x (.map es' cl')) x gs' es' cl')/\gs'.length<=k+1/\(∀g∈gs',GEnOk wc g/\g.vals.length<=k+1)/\gs'.map GEn.grp=grpV (bs.map bl) (l.take (k+1)):=by
    obtain⟨o,S⟩:∃o:GEn,o=⟨a',n',c',tx',qs',vals++[s.v]⟩:=⟨_,rfl⟩
    have d4:o.val=.agg #[.slice a' n' c',.string tx',Vi r0,Vi r1,Vi r2,Vi r3,Vi r4,Vi r5]:=S▸ZsY ⟨a',n',c',tx',qs',vals++[s.v]⟩ HR.out
    have g5:GEnOk wc o/\o.vals.length<=k+1:=by
     rw[S];refine⟨⟨f8,fun z hz=>?_⟩,?_⟩
     ·rcases Yar.1 hz with hz|hz
      ·exact X.2 z hz
      ·rw[Yap]at hz;subst hz;exact f9
     ·have:=X.1;simp;omega
    have k9:=ZwN (fun g d=>(L g d).1) (o:=⟨a',n',c',tx',qs',[]⟩) f8 s.v;have l0:qs'.map blP=ZB s.labs _:=a9.2;rcases U.out with ⟨p,h2,h3,h4⟩|⟨j,hj,p,h2,h3,e,h4,h5,h6⟩
    ·refine⟨_,_,gs++[o],fun W r=>?_,fun W r=>b9.push r o (S▸D) (by rwa [S]),by simp;omega,fun g d=>?_,?_⟩
     ·have:=ZDG b9 D p o.val W r;rw[d4]at this;rw[d4,S];exact this
     ·rcases Yar.1 d with d|d
      ·exact⟨(L g d).1,by have:=(L g d).2;omega⟩
      ·rw[Yap]at d;subst d;exact g5
     ·have:=k9.2 h2;rw[k0,<-l0,<-F.2,<-this,S,h4];rfl
    ·refine⟨_,_,gs.set j o,fun W r=>?_,fun W r=>b9.mod r o (S▸D) h4 (by rwa [S]),by rw[Yat];omega,fun g d=>?_,?_⟩
     ·have:=ZDE b9 D h4 h5 h6 o.val W r;rw[d4]at this;rw[d4,S];exact this
     ·rcases Yck d with d|rfl
      ·exact⟨(L g d).1,by have:=(L g d).2;omega⟩
      ·exact g5
     ·have:=k9.1 j _ p h3;rw[k0,<-l0,<-F.2,<-this,S,h2]
   obtain⟨es',cl',gs',l6,l7,s0,l8,l9⟩:=r9;have m6:=hid l6;have s1:=hid l7;have m7:=hid l8;have s2:=hid l9;have g6:Hid (vals.length<=10000/\∀y∈vals,vOk y):=hid ⟨by have:=X.1;omega,X.2⟩;have s3:Hid (MapX _ x):=hid ⟨es,cl,V.heap⟩;clear l6 l7 l8 l9 U b9 L X V F f8 a9;have c0:=k5.cell 0;have b0:=f7.cell 0;have b1:=f7.cell 1;have y2:=k6.cell 2;have m0:=HT.cell 0;have m1:=HT.cell 1;have m2:=HT.cell 2;have m3:=HT.cell 3;have m4:=HT.cell 4;have m5:=HT.cell 5;simp only[Zget]at c0 b0 b1 y2 m0 m1 m2 m3 m4 m5;have x5:=b8.size;have s4:Hid (gb≠x/\R.heap.size≠x/\wo.heap.size≠x/\Bt≠x):=hid ⟨q4,by omega,by omega,by omega⟩
   have J : Hid (∀ W, BelX x _ _ W -> W.cell? _ = some _ /\ W.cell? _ = some _ /\ W.cell? _ = some _ /\ W.cell? _ = some _ /\ W.cell? _ = some _ /\ W.cell? _ = some _ /\ W.cell? _ = some _ /\ W.cell? _ = some _ /\ W.cell? _ = some _ /\ W.cell? _ = some _) := hid (fun W r => by
     obtain⟨n1,n2,n3,n4⟩:=s4.out;have g1:=k5.belX r n1;have g2:=f7.belX r n2;have g3:=k6.belX r n3;have g4:=HT.belX r n4;exact⟨g1.cell 0,g2.cell 0,g2.cell 1,g3.cell 2,g4.cell 0,g4.cell 1,g4.cell 2,g4.cell 3,g4.cell 4,g4.cell 5⟩)
   go_upto_region 7 with fail
   go_region_held3 (fun W => W.cell? ⟨gb, 0, none⟩ = some (.map (some x)) /\ W.cell? ⟨R.heap.size, 0, none⟩ = some (.slice a' n' c') /\ W.cell? ⟨R.heap.size, 1, none⟩ = some (.string tx') /\ W.cell? ⟨wo.heap.size, 2, none⟩ = some (Vi s.v) /\ W.cell? ⟨Bt, 0, none⟩ = some (Vi t0) /\ W.cell? ⟨Bt, 1, none⟩ = some (Vi t1) /\ W.cell? ⟨Bt, 2, none⟩ = some (Vi t2) /\ W.cell? ⟨Bt, 3, none⟩ = some (Vi t3) /\ W.cell? ⟨Bt, 4, none⟩ = some (Vi t4) /\ W.cell? ⟨Bt, 5, none⟩ = some (Vi t5)) (first | exact ⟨c0, b0, b1, y2, m0, m1, m2, m3, m4, m5⟩ | exact s5.out | exact s6.out _ | exact s7.out _ | exact s8.out _ _ | go_keep) (first
     | (go_at_call 151
        refine(ZgR).mono ?_;rintro e w7 ⟨rfl,o7,r8⟩)
     | (go_at_call 206
        refine(ZDx vals s.v g6.1 g6.2 f9.out t0 t1 t2 t3 t4 t5 r0 r1 r2 r3 r4 r5 a5.out HR.out).mono ?_;rintro e w8 ⟨rfl,Z⟩;have C:Hid (BW wc w8):=hid (by first|exact⟨Z.os,Z.tape,Z.output,Z.size,Z.block⟩|exact(((Yaf wc.heap.size wc).drew).alloc (Yac _) _).trans (Z.mono (by simp)));have s5:=hid (J.out w8 (BelX.of C.out));have s6:=hid (fun o=>J.out (w8.alloc o) (BelX.of (C.alloc C.size o)));have s7:=hid (fun M=>J.out (setBlock w8 x M) ((BelX.of C.out).trans (BelX.set _ _ _ _)));have s8:=hid (fun o M=>J.out (setBlock (w8.alloc o) x M) ((BelX.of (C.alloc C.size o)).trans (BelX.set _ _ _ _)));have q0:=m6.out w8 (C.block x k8);have q1:=fun o=>m6.out (w8.alloc o) ((ZeU (by have:=C.size;omega) o).trans (C.block x k8));clear Z))
   have p3 : Hid (∀ W9, BW wc W9 -> MapG (setBlock W9 x (.map es' cl')) x gs' es' cl' /\ (∀ g ∈ gs', GEnOk (setBlock W9 x (.map es' cl')) g /\ g.vals.length <= k + 1) /\ BelX x w.heap.size w (setBlock W9 x (.map es' cl'))) := hid (fun W9 h9 => by
     have m8:BelX x wc.heap.size wc (setBlock W9 x (.map es' cl')):=(BelX.of h9).trans (BelX.set _ _ _ _)
     have s9:MapX wc x:=by
       obtain⟨q1,q2,hq⟩:=s3.out;exact⟨q1,q2,k7.trans hq⟩
     refine⟨s1.out W9 (by have:=h9.size;omega),fun g d=>⟨(m7.out g d).1.jv (Zo.belX m8 s9),(m7.out g d).2⟩,HB.trans (((BelX.of b8.out).mono e6).trans (m8.mono Om))⟩)
   all_goals
    obtain⟨f1,f2,f3⟩:=p3.out w8 C.out;have F1:=hid f1;have F2:=hid (And.intro f2 s2.out);have F3:=hid f3;clear f1 f2 f3;go_wp2
    go_roundw
    case rel=>exact⟨k+1,gs',es',cl',by omega,by go_num,s0,F1,F2,F3⟩
    case measure=>simp[intOf];omega
  ·obtain rfl:k=is.length:=by omega
   have t6:Hid (gs.map GEn.grp=grpV (bs.map bl) l):=by have:=F.2;rwa [Ya5 (by rw[HV.len'];omega)]at this
   have m9:=hid F.1;have g7:=V.len;have c0:=e7.cell 0;simp only[Ycy]at c0;have n0:=fun T=>ZyV V.heap T;rw[g7]at n0;have c8:x<wo.heap.size:=by omega
   clear F
   go_wp2_with (at_make;refine wpList_make_own _ rfl _ _ 283 rfl w.heap.size 286 i0 _ 3 underlying283 hi j5 j6 _ _ _ gs.length rfl rfl rfl ?b2 ?b3 ?b4 ?_)
   case b2=>rw[j7];omega
   case b3=>unfold maxLen;omega
   case b4=>exact e6
   intro w2 j3 c1;have c2:=hid ((Yaf _ _).grown c1 (Yac _) (fun q hq=>by cases hq));have n5:=hid (V.moved (c2.block x c8));have t7:=hid (e7.below c2);clear c1 c0 n0;have c0:=t7.cell;have t8:=run_range_map _ 279 9 _ x _ _ underlying279 n5.heap;go_wp2;have p4:=hid (HB.trans ((BelX.of c2).mono e6));have g8:Hid (∀g∈gs,GEnOk _ g/\g.vals.length<=is.length):=hid (fun g d=>⟨(m9 g d).1.jv (Zo.below c2),(m9 g d).2⟩);have x6:=c2.size;clear t8 c0
   go_loopg [13] gs.length (fun kx v wr=>∃(js:List Nat) (seen:Array Nat) (c9:Nat),(leftOf es seen).size<=kx/\js.length+(leftOf es seen).size<=gs.length/\wr.ownsRow w.heap.size 286 3 v js.length (encs (js.map fun j=>gItm op (gs.getD j gen0)))/\Hid (wr.heap[w2.heap.size]?=some (.mapIter (some x) cl seen c9)/\cl<=c9)/\Hid (MapG wr x gs es cl)/\Hid (Went es gs.length js seen)/\Hid (∀g∈gs,GEnOk wr g/\g.vals.length<=is.length)/\Hid (BelX x w.heap.size w wr)/\w2.heap.size<wr.heap.size)
   case atStart=>
    have d5:Below _ _ (w2.alloc (.mapIter (some x) cl #[] cl)):=Zbal;have n6:(leftOf es #[]).size<=gs.length:=by unfold leftOf;rw[<-g7];exact Array.size_filter_le
    exact⟨[],#[],cl,n6,by simpa using n6,Zn j3 d5,hid ⟨heap_alloc_new _ _,Yac _⟩,hid (n5.moved (d5.block x Om)),hid ⟨Yfq,by simp,rfl⟩,hid (fun g d=>⟨(g8 g d).1.jv (Zo.below d5),(g8 g d).2⟩),hid (p4.trans ((BelX.of d5).mono Om)),by simp⟩
   case round=>
    obtain⟨js,seen,c9,x7,x8,a0,d6,O,g9,a4,c3,i1⟩:=hrel;have t9:x<wr.heap.size:=by have:=c3.size;omega
    have i2:=fun ty=>run_next_at (P:=prog) _ ty _ x _ _ _ _ _ d6.1 O.heap O.stm.1 d6.2;rcases i2 0 with ⟨u0,a6⟩|⟨e,he,n7,a1,a6⟩
    ·have d7:=g9.all O u0;have i3:=ZEF op d7;rw[t6]at i3
     have i4 := hid (ZwK l (fun e he => by
       rw[<-HV.els]at he;obtain⟨i,hi,rfl⟩:=Ybe.1 he;exact(HV.ok i hi).lb.wf) i3)
     have i5:(js.map fun j=>gItm op (gs.getD j gen0)).length=js.length:=Yak _;rw[<-i5]at a0
     have n8 := hid (Znc a0 (c3.size) (by rw [i5]; omega) (fun i hi => by
       obtain⟨j,hj,rfl⟩:=Ybe.1 hi;have u1:=g9.lt j hj;have eg:gs.getD j gen0=gs[j]:=by rw[Yaa,List.getElem?_eq_getElem u1];rfl
       rw[eg];exact⟨(a4 _ (List.getElem_mem _)).1.lb,ZhY⟩) i4.1)
     rw[i4.2]at n8;clear a0 i3 d7 i2
     go_wp2_with fail
     refine n8.mono ?_;rintro e R ⟨rfl,is',H5⟩;have u2:=hid (c3.trans (BelX.of H5.2));have u3:Hid (MapX _ x):=hid ⟨es,cl,(H5.2.block x j8).trans O.heap⟩;go_wp2;go_ret;exact⟨_,is',rfl,hid ⟨H5.1,u3⟩,u2⟩
    ·obtain⟨j,hj,n9,o0⟩:=g9.step O.out he;obtain⟨_,o1,o2⟩:=O.at n9;have o3:=(ZqB he).1;have x9:=ZxW he;have p5:=hid o0;obtain⟨W3,Q⟩:∃W3,W3=setBlock n7 w2.heap.size (.mapIter (some x) cl (seen.push e.born) cl):=⟨_,rfl⟩
     rw[<-Q]at a6;have a7:n7.heap=wr.heap:=by rcases a1 with rfl|rfl <;> rfl
     have i6:W3.heap[w2.heap.size]?=some (.mapIter (some x) cl (seen.push e.born) cl):=by rw[Q];simp[setBlock,a7,i1]
     have d8:∀i,i≠w2.heap.size->W3.heap[i]?=wr.heap[i]?:=fun i hi=>by rw[Q];simp[setBlock,a7,Ycp hi]
     have u4:W3.heap.size=wr.heap.size:=by rw[Q];simp[setBlock,a7]
     have d9:Below w.heap.size _ _:=⟨by rw[Q];rcases a1 with rfl|rfl <;> rfl,by rw[Q];rcases a1 with rfl|rfl <;> rfl,by rw[Q];rcases a1 with rfl|rfl <;> rfl,by omega,fun i hi=>d8 i Om⟩
     have e0:Zo _ _:=fun b c T fr hb=>(d8 b (fun e'=>by subst e';rw[d6.1]at hb;cases hb)).trans hb;have o4:=d8 x Om;have c4:=hid (O.moved o4);have o5:=run_entry_at (P:=prog) _ _ x _ _ _ _ e i6 c4.heap o3 c4.stm.2.1;have eg:gs.getD j gen0=gs[j]:=by rw[Yaa,List.getElem?_eq_getElem hj];rfl
     have u5:Hid ((js++[j]).map (fun j=>gItm _ (gs.getD j _))=js.map _++[gItm op _]):=hid (by rw[Yaq,Yco,eg]);have o6:Hid (GEnOk _ gs[j]/\(gs[j]).vals.length<=10000):=hid ⟨(a4 _ (List.getElem_mem _)).1.jv e0,by have:=(a4 _ (List.getElem_mem hj)).2;omega⟩;have i7:Hid (∀g∈gs,GEnOk _ g/\g.vals.length<=is.length):=hid (fun g d=>⟨(a4 g d).1.jv e0,(a4 g d).2⟩);have o8:=hid (c3.trans (BelX.of d9));have e1:=e0.own a0;have p6:=hid i6;generalize gs[j]=g at *
     obtain⟨t0,t1,t2,t3,t4,t5,Y⟩:=ZiD g.vals;have a5:=hid Y;rw[o2,ZsY g Y,o1]at a6 o5;obtain⟨one,i8⟩:∃one,one=cutV (ZfI op g.vals):=⟨_,rfl⟩
     have i9:=hid i8;have v4:w2.heap.size<W3.heap.size:=by omega
     clear u4 i1 t9;clear i2 a0 e0 o4 i6 d8 d9 Q a1 a7 o1 o2 o3 he o0 Y i8 O a4 c3 d6 eg n9 hj
     go_upto_region 13 with fail
     refine ZP fun o9 r=>?_;have N:Below _ _ _:=r▸Zbal;have HX:Hid (BAt _ _ [.slice _ _ _,.string _,.int _ _,.int _ _,.int _ _,.int _ _,.int _ _,.int _ _] 351):=r▸bnw;have e2:=Zn e1 N;have p0:=hid N;clear r N e1 a6 o5;have u6:=p0.size;have p7:=o8.size;have J:Hid (∀f,BAt f W3.heap.size [.slice g.a g.n g.c,.string g.tx,Vi t0,Vi t1,Vi t2,Vi t3,Vi t4,Vi t5] 351->f.cell? _=some _/\f.cell? _=some _/\f.cell? _=some _/\f.cell? _=some _/\f.cell? _=some _/\f.cell? _=some _/\f.cell? _=some _/\f.cell? _=some _):=hid (fun f p=>⟨p.cell 0,p.cell 1,p.cell 2,p.cell 3,p.cell 4,p.cell 5,p.cell 6,p.cell 7⟩);refine Zbn 10 (fun f=>f.cell? _=some _/\f.cell? _=some _/\f.cell? _=some _/\f.cell? _=some _/\f.cell? _=some _/\f.cell? _=some _/\f.cell? _=some _/\f.cell? _=some _) Kr (J.out _ HX.out) (fun m=>?_);refine Za 0 m (h:=?_);refine Za 1 m (h:=?_);refine Za 2 m (h:=?_);refine Za 3 m (h:=?_);refine Za 4 m (h:=?_);refine Za 5 m (h:=?_);refine Z4 (i:=6) Kr rfl (fun K hK=>?_);go_simp;refine(ZsR Om o6.2 o6.1.vok a5).mono ?_;rintro e5 R ⟨rfl,G⟩;have H:Hid (BW o9 _):=hid ⟨G.os,G.tape,G.output,G.size,G.block⟩;have j0:=hid (HX.below H);clear G;rw[<-i9];go_simp;refine hK _ _ (J _ j0) (fun m=>?_);clear hK K
     try simp only[Act.put,Zset]
     refine Za 7 m (h:=?_);refine Z4 (i:=8) Kr rfl (fun K hK=>?_);have I:Hid (∀o,Below _ _ (R.alloc o)):=hid (fun o=>Zbal);go_simp;refine hK _ _ (J _ (j0.below (I _))) (fun m=>?_);clear hK K
     try simp only[Act.put,Zset]
     refine Z4 (i:=9) Kr rfl (fun K hK=>?_);have B:=Zn e2 H;have k1:=H.size;refine ZfF rfl _ _ _ rfl _ 286 _ _ 3 _ underlying283 hi j5 j6 j7 rfl Dc _ _ _ (by simp[Act.eval]) (B.alloc _) ⟨R.heap.size,0,none⟩ 1 1 [.slice g.a g.n g.c,.string g.tx,Vi one] (by simp[Act.eval]) rfl ?h2 ?h3 ?h4 ?h5 ?h6 ?_
     case h2=>exact ZcY rfl
     case h3=>intro u hu;simp at hu;rcases hu with rfl|rfl|rfl <;> rfl
     case h4=>unfold maxLen;omega
     case h5=>omega
     case h6=>simp;omega
     intro v6 w6 e3 A _;have E:Below _ _ (R.alloc (.cells #[.slice g.a g.n g.c,.string g.tx,Vi one] 286)):=(p0.trans (H.mono u6)).trans ((I _).mono Om);have p1:=(Z5.below E _).trans (Z5.grown A (B.alloc _))
     have c5 : ∀ (q : Nat) (o : Obj), W3.heap[q]? = some o -> (∀ c t fr, o ≠ .cells c t _) -> w6.heap[q]? = some o := fun q o hq S => by
       have u7:=(Yae.1 hq).1;have p:=(E.block q u7).trans hq;exact(A.block q (by have:=E.size;omega) (Zz0 (B.alloc _) p S)).trans p
     have u8:=hid (c4.moved ((c5 x _ c4.heap (fun c t fr h=>by cases h)).trans c4.heap.symm));have p8:Hid (w6.heap[w2.heap.size]?=some _/\cl<=cl):=hid ⟨c5 _ _ p6 (fun c t fr h=>by cases h),Yac _⟩;have u9:Hid (∀g∈gs,GEnOk _ g/\g.vals.length<=is.length):=hid (fun z hz=>⟨⟨(i7 z hz).1.lb.kb p1 Dc,(i7 z hz).1.vok⟩,(i7 z hz).2⟩);have v0:=hid (o8.trans (BelX.of ((E.mono p7).grown A (by have:=E.size;omega) (fun q hq=>(B.lt q hq).1))));have v1:w2.heap.size<w6.heap.size:=by have:=E.size;have:=A.size;omega
     have j4 : w6.ownsRow w.heap.size 286 3 v6 (js ++ [j]).length (encs ((js ++ [j]).map fun j => gItm op (gs.getD j gen0))) := by
       rw[u5,Zh1,Yab];unfold gItm;rw[<-i9];exact e3
     have v2:Hid (BAt _ _ _ _):=hid (Z5.grown A (B.alloc _) _ _ _ _ Dc (j0.below (I _)));refine hK _ _ (J _ v2) (fun m=>?_);clear hK K
     try simp only[Act.put,Zset]
     refine Zbl Kr Kr rfl Kr (fun K hK=>?_);go_simp;refine hK _ _ ?_;clear hK K A e3 B e2 p1 c5 E;go_wp2
     go_roundg (leftOf es (seen.push e.born)).size
     case measure=>omega
     case rel=>exact⟨js++[j],seen.push _,cl,Yac _,by simp;omega,j4,p8,u8,p5,u9,v0,v1⟩
theorem Zj0{l:LB}(h:WB w B b l)(s:BA)(f:l.length+s.size<=140737488355328) :
  CP 63 #[Vp b,.string s] w fun e u=>e=.returned (.tuple #[Vi s.size,.nilIface])/\Hid (WB u B b (l++bl s))/\Hid (WK B b w u):=by
 refine(ZhR B b s w h.bd (by rw[Lib.byteCells_length];omega) h.le).mono ?_;rintro e u ⟨rfl,a,c,d⟩;rw[Zn4]at a;exact⟨rfl,⟨.inr a,Yah h.le c.size⟩,⟨c,d⟩⟩
theorem Zjm(h:ZR w)(n:Int)(c:vOk n) :
  CP 64 #[Vi n] w fun e u=>∃s:BA,e=.returned (.string s)/\Hid (bl s=decI n)/\s.size<=1000000002/\BW w u:=by
 have d:=Zlj n c;unfold vOk at c;refine(strconv_Itoa n Om Om w h).mono ?_;rintro e u ⟨rfl,k,os,rfl⟩
 have g:Lib.itoa n=decI n:=by
  unfold Lib.itoa decI;by_cases a:n<0
  ·rw[if_pos a,if_pos a,Zlk];rfl
  ·rw[if_neg a,if_neg a,Zlk]
 refine⟨_,rfl,hid ?_,?_,?_⟩
 ·assumption
 ·show(Lib.itoa n).toArray.size<=_
  simp_all
 ·exact⟨rfl,rfl,rfl,by simp,fun k f=>by simp[Go.Sort.grow,World.drewN,Yfo,f]⟩
theorem LbOk.size{a:Option Addr}{c:Nat}{tx:BA}{qs:List (BA×BA)}(h:LbOk w a n c tx qs):tx.size<=108018:=by
 rw[<-Zd,h.txt];exact h.wf.len
def ZcQ(t:Int)(is:List Itm):LB:=decI t++((is.map Itm.el).map elS).flatten
theorem Zyp{l:List Itm}:ZcQ t (l++[s])=ZcQ t l++elS s.el:=by
 unfold ZcQ;simp
theorem ZvL(c:(wrt s.labs).length<=108018)(a:vOk s.v):(elS s.el).length<=1000108030:=by
 have:=Zlj _ a;show([32,123]++wrt s.labs++[125]++decI s.v).length<=_
 simp_all;omega
theorem ZqH(a:vOk t):∀is:List Itm,(∀i∈is,(wrt i.labs).length<=108018/\vOk i.v)->(ZcQ t is).length<=1000000002+1000108030*is.length
 | [],_=>by have:=Zlj t a;simpa [ZcQ] using this
 | s :: is, h => by
   have d:=ZqH a _ (fun i c=>h i (Yam _ c));have f:=ZvL (h s (by simp)).1 (h s (by simp)).2
   have e:(ZcQ t (s::is)).length=(ZcQ t is).length+(elS s.el).length:=by
     unfold ZcQ;simp only[Ybb,List.flatten_cons,Yab];omega
   simp_all;omega
theorem Zyq(t:Int)(H:vOk t)(v:Value)(n:Int)(w:World)(S:ValP w v (.inl n))(I:ZR w)(J:20<=w.heap.size) :
  CP 92 #[Vi t,v] w fun e u=>∃r:BA,e=.returned (.string r)/\Hid (bl r=Zel t (.inl n))/\r.size<=40000000000/\BW w u:=by
 have T:=hid I;have g:=hid J;have U:=hid H;clear I J H;obtain⟨rfl,o⟩:=S;have V:=hid o;have h1:=asSS (Vi n);clear o;go_enter func92,ntmps92
 go_wp2_with fail
 refine Zm fun W G=>?_;have c:Below _ w W:=G▸Zbal;have p:Hid (WB W _ _ []):=hid ⟨.inl ⟨Yac _,.slice _ 0 0,G▸bnw,⟨rfl,.inl ⟨rfl,rfl⟩⟩,by simp[Value.ownBlock]⟩,c.size⟩;have d:=hid c;have h:=hid (T.low c g);clear G c;refine(Zjm h t U).mono ?_;rintro e w1 ⟨s1,rfl,K,X,f⟩;have q:=hid (p.below f);have s:=hid (d.trans (f.mono d.size));have A:=hid (h.low f (by have:=g.out;have:=d.size;omega));clear f p d h
 go_wp2_with fail
 refine(Zj0 q _ (by simp;omega)).mono ?_;rintro e w2 ⟨rfl,B,C⟩;have i:=hid (s.trans C.low);have L:=hid (A.low C.low g);clear q s A
 go_wp2_with fail
 refine(Zjm L n V).mono ?_;rintro e w3 ⟨s3,rfl,M,Y,j⟩;have N:=hid (B.below j);have O:=hid (i.trans (j.mono i.size));clear j B i;have k:Hid ((⟨#[32]⟩++s3).size=1+s3.size):=by rw[Yaz];rfl
 have D:Hid (bl (⟨#[32]⟩++s3)=[32]++decI n):=by rw[Zfg,M];rfl
 go_wp2_with fail
 generalize(⟨#[32]⟩++s3:BA)=x at k D ⊢;have Z:x.size<=1000000003:=by have:=k.out;omega
 clear k;refine(Zj0 N x (by have b:([]++bl _).length=s1.size:=(by rw[Ycu,Zd]);omega)).mono ?_;rintro e w4 ⟨rfl,l,E⟩;have P:=hid (O.trans E.low);have Q:Hid ([]++bl s1++bl x=Zel t (.inl n)):=by rw[D,K];show[]++decI t++([32]++decI n)=decI t++[32]++decI n;simp
 have m:Hid (([]++bl s1++bl x).length<=40000000000):=hid (by have b:([]++bl s1++bl x).length=s1.size+x.size:=(by rw[Ycu,Yab,Zd,Zd]);omega);generalize[]++bl s1++bl x=z at l Q m
 go_wp2_with fail
 refine(Builder_String_any_f _ _ _ _ l.bd l.le).mono ?_;rintro e w5 ⟨rfl,_,F⟩;have R:=hid (P.trans F);clear F E;go_wp2;go_ret;exact⟨_,rfl,hid (by rw[ZbF,Q]),by have a:=m.out;rw[<-Yb5]at a;exact a,R⟩

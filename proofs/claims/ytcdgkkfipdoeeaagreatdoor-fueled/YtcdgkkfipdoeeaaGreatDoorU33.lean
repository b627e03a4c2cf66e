/- Parts. -/
import Derived.Test.YtcdgkkfipdoeeaaGreatDoorU18
import Derived.Test.YtcdgkkfipdoeeaaGreatDoorU32
import Derived.Test.YtcdgkkfipdoeeaaGreatDoorU23
set_option linter.all false
set_option maxRecDepth 100000
set_option maxHeartbeats 16000000
namespace Go.Proofs.YtcdgkkfipdoeeaaGreatDoor
open Go.RowKit LS Go.Proofs.Tryz
variable {es:Array MapEntry}{seen:Array Nat}{k:BA}{js:List Nat}{c xs:List Value}{e:MapEntry}{B b cl clock j n x:Nat}{A:Nat->Addr}{u v:Value}{W w w':World}
theorem Vars.sents{m:Int}(h:Vars w A m):Sents w (A 0) (A 1) (A 2) (A 3):=
 ⟨h.sent _ Dc,h.sent _ Dc,h.sent _ Dc,h.sent _ Dc⟩
theorem ZM.cells{p:Int}{a:Addr}(h:ZM w v p a):∃fa:Nat,v=.iface 81 (Vp fa)/\w.cell? ⟨fa,1,none⟩=some (Vi p)/\w.cell? ⟨fa,2,none⟩=some (.iface 432 (.pointer (some a))):=by
 obtain⟨fa,d,c⟩:=h;exact⟨fa,d,by simp[World.cell?,c],by simp[World.cell?,c]⟩
def Zfb(w:World)(A:Nat->Addr)(err:Value)(c p:Nat):Prop:=
 (err=.nilIface/\c=0/\p=0)∨
 (err=.iface 432 (.pointer (some (A 0)))/\c=1/\p=0)∨
 (err=.iface 432 (.pointer (some (A 3)))/\c=4/\p=0)∨
 (err=.iface 432 (.pointer (some (A 6)))/\c=7/\p=0)∨
 (err=.iface 432 (.pointer (some (A 7)))/\c=8/\p=0)∨
 (∃fa:Nat,err=.iface 81 (Vp fa)/\w.cell? ⟨fa,1,none⟩=some (Vi p)/\
  ((c=2/\w.cell? ⟨fa,2,none⟩=some (.iface 432 (.pointer (some (A 1)))))∨
   (c=3/\w.cell? ⟨fa,2,none⟩=some (.iface 432 (.pointer (some (A 2)))))∨
   (c=5/\w.cell? ⟨fa,2,none⟩=some (.iface 432 (.pointer (some (A 4)))))∨
   (c=6/\w.cell? ⟨fa,2,none⟩=some (.iface 432 (.pointer (some (A 5)))))))
theorem Zfb.rd{r:Except (Nat×Nat) Tr}{x:Nat×Nat}{pv:Value}(f:r=.error x)(h:RdIs w (A 0) (A 1) (A 2) (A 3) r pv v):Zfb w A v x.1 x.2/\∃ty u,v=.iface ty u:=by
 subst f;rcases h with ⟨rfl,rfl⟩|⟨rfl,rfl⟩|⟨a,c⟩|⟨a,c⟩
 ·exact⟨.inr (.inl ⟨rfl,rfl,rfl⟩),_,_,rfl⟩
 ·exact⟨.inr (.inr (.inl ⟨rfl,rfl,rfl⟩)),_,_,rfl⟩
 ·obtain⟨fa,rfl,d,e⟩:=c.cells;exact⟨.inr (.inr (.inr (.inr (.inr ⟨fa,rfl,d,.inl ⟨a,e⟩⟩)))),_,_,rfl⟩
 ·obtain⟨fa,rfl,d,e⟩:=c.cells;exact⟨.inr (.inr (.inr (.inr (.inr ⟨fa,rfl,d,.inr (.inl ⟨a,e⟩)⟩)))),_,_,rfl⟩
theorem Zfb.ld{r:Nat×Nat}(h:Zei w A v r):(r.1=0/\v=.nilIface)∨(r.1≠0/\Zfb w A v r.1 r.2/\∃ty u,v=.iface ty u):=by
 rcases h with ⟨rfl,rfl⟩|⟨rfl,rfl⟩|⟨rfl,rfl⟩|⟨i,fa,rfl,rfl,a,c⟩|⟨i,fa,rfl,rfl,a,c⟩
 ·exact .inl ⟨rfl,rfl⟩
 ·exact .inr ⟨by simp,.inr (.inl ⟨rfl,rfl,rfl⟩),_,_,rfl⟩
 ·exact .inr ⟨by simp,.inr (.inr (.inr (.inl ⟨rfl,rfl,rfl⟩))),_,_,rfl⟩
 ·exact .inr ⟨by simp,.inr (.inr (.inr (.inr (.inr ⟨fa,rfl,a,.inr (.inr (.inl ⟨rfl,c⟩))⟩)))),_,_,rfl⟩
 ·exact .inr ⟨by simp,.inr (.inr (.inr (.inr (.inr ⟨fa,rfl,a,.inr (.inr (.inr ⟨rfl,c⟩))⟩)))),_,_,rfl⟩
theorem Zss(s:BA)(A:Nat->Addr)(m:Int)(w:World)(a:Vars w A m)(c:s.size<=maxLen) :
  CP 40 #[.string s] w fun e u=>∃sv err,e=.returned (.tuple #[sv,err])/\Hid (Zei u A err (Zbp (bl s)))/\BW w u/\Hid ((Zbp (bl s)).1=0->ZiM u sv (bl s)):=by
 by_cases h:s.size<=6000
 ·exact ZBt s A m w a h
 ·have e:Zbp (bl s)=(1,0):=by unfold Zbp;rw[if_pos (by rw[Zd];omega)]
  rw[e];refine(ZBr s A m w a Om c).mono ?_;rintro e' u ⟨v,err,d,f,g⟩;exact⟨v,err,d,f,g,hid (fun h=>by cases h)⟩
open Go.ChangeMaps (setBlock)
structure BelX (x B:Nat) (w w':World):Prop where
 os:w'.os=w.os
 tape:w'.tape=w.tape
 output:w'.output=w.output
 size:w.heap.size<=w'.heap.size
 block:∀k,k<B->k≠x->w'.heap[k]?=w.heap[k]?
theorem BelX.of(h:Below B w w'):BelX x B w w':=⟨h.os,h.tape,h.output,h.size,fun k a _=>h.block k a⟩
theorem BelX.trans{a b c:World}(h:BelX x B a b)(k:BelX x B b c):BelX x B a c:=⟨k.os.trans h.os,k.tape.trans h.tape,k.output.trans h.output,Nat.le_trans h.size k.size,fun j d e=>(k.block j d e).trans (h.block j d e)⟩
theorem BelX.mono{C:Nat}(h:BelX x C w w')(c:B<=C):BelX x B w w':=⟨h.os,h.tape,h.output,h.size,fun k d a=>h.block k Om a⟩
theorem BelX.below(h:BelX x B w w')(c:B<=x):Below B w w':=⟨h.os,h.tape,h.output,h.size,fun k a=>h.block k a Om⟩
theorem BelX.set(x B:Nat)(w:World)(o':Obj):BelX x B w (setBlock w x o'):=⟨rfl,rfl,rfl,by simp[setBlock],fun k _ a=>by simp[setBlock,Ne.symm a]⟩
def MapX(w:World)(x:Nat):Prop:=∃es clock,w.heap[x]?=some (.map es clock)
theorem Zo.belX   (h : BelX x w.heap.size w w') (d : MapX w x) : Zo w w' := fun b c T fr a => by
  obtain⟨es,cl,f⟩:=d;refine(h.block b (Array.getElem?_eq_some_iff.1 a).1 (fun e=>?_)).trans a;subst e;rw[f]at a;cases a
structure GEn where
 a:Option Addr
 n:Nat
 c:Nat
 tx:BA
 qs:List (BA×BA)
 vals:List Int
def GEn.val(g:GEn):Value:=.agg (.slice g.a g.n g.c::.string g.tx::talC g.vals).toArray
def GEn.grp(g:GEn):Grp:=(g.qs.map blP,g.vals)
structure GEnOk (w:World) (g:GEn):Prop where
 lb:LbOk w g.a g.n g.c g.tx g.qs
 vok:∀v∈g.vals,vOk v
theorem GEnOk.jv{g:GEn}(h:GEnOk w g)(a:Zo w w'):GEnOk w' g:=⟨h.lb.jv a,h.vok⟩
structure MapG (w:World) (x:Nat) (gs:List GEn) (es:Array MapEntry) (clock:Nat):Prop where
 heap:w.heap[x]?=some (.map es clock)
 stm:MapKept.Stamped es clock
 kv:es.toList.map (fun e=>(e.key,e.val))=gs.map (fun g=>(Value.string g.tx,g.val))
 sz:∀g∈gs,g.tx.size<=maxLen
theorem MapG.len{gs:List GEn}(h:MapG w x gs es clock):es.size=gs.length:=by
 have:=congrArg List.length h.kv;simpa using this
theorem MapG.at{gs:List GEn}(h:MapG w x gs es clock)(f:es.toList[j]?=some e):∃c:j<gs.length,e.key=.string gs[j].tx/\e.val=gs[j].val:=by
 have a:(es.toList.map (fun e=>(e.key,e.val)))[j]?=(gs.map (fun g=>(Value.string g.tx,g.val)))[j]?:=by rw[h.kv]
 rw[List.getElem?_map,f,List.getElem?_map]at a
 have c:j<gs.length:=by
  rcases Nat.lt_or_ge j gs.length with d|d
  ·exact d
  ·rw[List.getElem?_eq_none d]at a;cases a
 rw[List.getElem?_eq_getElem c]at a;simp only[Option.map_some,Option.some.injEq,Prod.mk.injEq]at a;exact⟨c,a.1,a.2⟩
theorem MapG.keys   {gs : List GEn}   (h : MapG w x gs es clock) : ∀ e ∈ es.toList, ∃ l, keyOf prog 9 e.key = some l := fun e a => by
  obtain⟨j,c⟩:=List.getElem?_of_mem a;obtain⟨f,d,_⟩:=h.at c;rw[d];exact⟨_,Go.WideMaps.keyOf_string_mk underlying9 (h.sz _ (List.getElem_mem _))⟩
theorem MapG.moved{gs:List GEn}(h:MapG w x gs es clock)(a:w'.heap[x]?=w.heap[x]?):MapG w' x gs es clock:=⟨a.trans h.heap,h.stm,h.kv,h.sz⟩
def ZE6:Value:=.agg #[S0,.string ByteArray.empty,Vi 0,Vi 0,Vi 0,Vi 0,Vi 0,Vi 0]
theorem MapG.find{gs:List GEn}(h:MapG w x gs es clock)(k:BA)(v:k.size<=maxLen) :
  ((∀W:World,(Instr.findKey 9 (.string k) es.toList).run prog W=.ok none W)/\(∀g∈gs,g.tx≠k)/\∀e∈es.toList,e.key≠.string k)∨
  ∃j,∃p:j<gs.length,gs[j].tx=k/\(∀i (o:i<gs.length),i≠j->gs[i].tx≠k)/\∃e,es.toList[j]?=some e/\e.key=.string k/\e.val=gs[j].val/\∀W:World,(Instr.findKey 9 (.string k) es.toList).run prog W=.ok (some (j,e.val)) W:=by
 have K:=Maps.string_keyed (k:=9) underlying9;have c:=Go.WideMaps.keyOf_string_mk (k:=9) underlying9 v;rcases K.find w c _ h.keys with ⟨z,a⟩|⟨j,e,z,a,f⟩
 ·left
  refine⟨fun W=>?_,fun g A n=>?_,a⟩
  ·rcases K.find W c _ h.keys with ⟨k1,_⟩|⟨j,e,k1,k2,k3⟩
   ·exact k1
   ·exact absurd k3 (a e (List.mem_of_getElem? k2))
  ·obtain⟨i,o,rfl⟩:=List.mem_iff_getElem.1 A;have l:i<es.toList.length:=by rwa [Array.length_toList,h.len]
   obtain⟨_,e1,_⟩:=h.at (List.getElem?_eq_getElem l)
   exact a _ (List.getElem_mem _) (by rw[e1,n])
 ·right
  obtain⟨p,e1,e2⟩:=h.at a;rw[f]at e1;have q:=(Value.string.inj e1).symm;have m:=h.stm.2.2
  have d : ∀ i (o : i < gs.length), i ≠ j -> gs[i].tx ≠ k := fun i o B n => by
    have l:i<es.toList.length:=by rwa [Array.length_toList,h.len]
    have r:=(List.getElem?_eq_some_iff.1 a).1;obtain⟨_,f1,_⟩:=h.at (List.getElem?_eq_getElem l)
    have e3:=Option.some.inj ((List.getElem?_eq_getElem r).symm.trans a);rw[List.Nodup,List.pairwise_map,List.pairwise_iff_getElem]at m;rcases Nat.lt_or_ge i j with s|s
    · exact m i j _ _ s (by rw[f1,n,e3,f])
    · exact m j i _ _ Om (by rw[f1,n,e3,f])
  refine⟨j,p,q,d,e,a,f,e2,fun W=>?_⟩;rcases K.find W c _ h.keys with ⟨_,k2⟩|⟨j',e',k1,k2,k3⟩
  ·exact absurd f (k2 e (List.mem_of_getElem? a))
  ·obtain⟨t,f1,f2⟩:=h.at k2;rw[k3]at f1
   have:j'=j:=by
    refine Classical.byContradiction fun u=>d _ t u ?_;exact(Value.string.inj f1).symm
   subst this;rw[a]at k2;have k4:=Option.some.inj k2;subst k4;exact k1
theorem ZyG{gs:List GEn}(h:MapG w x gs es clock)(c:k.size<=maxLen)(d:∀W:World,(Instr.findKey 9 (.string k) es.toList).run prog W=.ok none W)(W:World)(e:W.heap[x]?=w.heap[x]?) :
  (Instr.lookup 279 (.map (some x)) (.string k) false).run prog W=.ok ZE6 W:=by
 have K:=Maps.string_keyed (k:=9) underlying9;have a:=Go.WideMaps.keyOf_string_mk (k:=9) underlying9 c;simp[Instr.lookup,run_underlying _,MapKept.run_getObj_map (e.trans h.heap),K.check W _ a,d W,Result.andThen];rfl
theorem ZyE{gs:List GEn}(h:MapG w x gs es clock)(c:k.size<=maxLen)(d:∀W:World,(Instr.findKey 9 (.string k) es.toList).run prog W=.ok (some (j,v)) W)(W:World)(e:W.heap[x]?=w.heap[x]?) :
  (Instr.lookup 279 (.map (some x)) (.string k) false).run prog W=.ok v W:=by
 have K:=Maps.string_keyed (k:=9) underlying9;have a:=Go.WideMaps.keyOf_string_mk (k:=9) underlying9 c;simp[Instr.lookup,run_underlying _,MapKept.run_getObj_map (e.trans h.heap),K.check W _ a,d W,Result.andThen]
theorem ZDG{gs:List GEn}(h:MapG w x gs es clock)(d:k.size<=maxLen)(e:∀W:World,(Instr.findKey 9 (.string k) es.toList).run prog W=.ok none W)(v:Value)(W:World)(c:W.heap[x]?=w.heap[x]?) :
  (Instr.mapUpdate 279 (.map (some x)) (.string k) v).run prog W=.ok () (setBlock W x (.map (es.push ⟨.string k,v,clock⟩) (clock+1))):=by
 have K:=Maps.string_keyed (k:=9) underlying9;have a:=Go.WideMaps.keyOf_string_mk (k:=9) underlying9 d;simp[Instr.mapUpdate,run_underlying _,MapKept.run_getObj_map (c.trans h.heap),K.check W _ a,e W,MapKept.run_setObj_map _ (c.trans h.heap),Result.andThen,setBlock]
theorem ZDE{gs:List GEn}(h:MapG w x gs es clock)(g:k.size<=maxLen)(i:es.toList[j]?=some e)(c:e.key=.string k)(l:∀W:World,(Instr.findKey 9 (.string k) es.toList).run prog W=.ok (some (j,u)) W)(v:Value)(W:World)(d:W.heap[x]?=w.heap[x]?) :
  (Instr.mapUpdate 279 (.map (some x)) (.string k) v).run prog W=.ok () (setBlock W x (.map (es.modify j fun e=>{ e with key:=.string k,val:=v }) clock)):=by
 have K:=Maps.string_keyed (k:=9) underlying9;have a:=Go.WideMaps.keyOf_string_mk (k:=9) underlying9 g;have f:((es[j]?).map (·.key)).getD (.string k)=.string k:=Array.getElem?_toList▸i▸c;simp[Instr.mapUpdate,run_underlying _,MapKept.run_getObj_map (d.trans h.heap),K.check W _ a,l W,f,K.stays W a,MapKept.run_setObj_map _ (d.trans h.heap),Result.andThen,setBlock]
theorem ZnH(k:List Lab)(v:Int):∀(m:List Grp) (j:Nat) (a:j<m.length),m[j].1=k->(∀i (c:i<m.length),i≠j->m[i].1≠k)->addG k v m=m.set j (k,m[j].2++[v])
 | g :: m, 0, _, h, _ => by
   have e:g.1=k:=h;rw[addG,if_pos e];rfl
 | g :: m, j + 1, a, h, d => by
   have f:g.1≠k:=d 0 (by simp) Om;rw[addG,if_neg f,ZnH k v m j (by simpa using a) h (fun i c l=>d (i+1) (by simpa using c) Om)];rfl
theorem ZnJ(k:List Lab)(v:Int):∀(m:List Grp),(∀g∈m,g.1≠k)->addG k v m=m++[(k,[v])]
 | [],_=>rfl
 | g :: m, h => by
   rw[addG,if_neg (h g (by simp)),ZnJ k v m (fun z a=>h z (List.mem_cons_of_mem _ a))];rfl
theorem MapG.push{gs:List GEn}(h:MapG w x gs es clock)(c:x<W.heap.size)(g:GEn)(d:g.tx.size<=maxLen)(f:∀e∈es.toList,e.key≠.string g.tx) :
  MapG (setBlock W x (.map (es.push ⟨.string g.tx,g.val,clock⟩) (clock+1))) x (gs++[g]) (es.push ⟨.string g.tx,g.val,clock⟩) (clock+1):=by
 refine⟨by simp[setBlock,c],MapKept.stamped_push h.stm f,?_,fun z a=>?_⟩
 ·rw[Array.toList_push,List.map_append,List.map_append,h.kv];rfl
 ·rcases List.mem_append.1 a with a|a
  ·exact h.sz z a
  ·rw[List.mem_singleton]at a;subst a;exact d
theorem MapG.mod{gs:List GEn}(h:MapG w x gs es clock)(m:x<W.heap.size)(g:GEn)(n:g.tx.size<=maxLen)(d:es.toList[j]?=some e)(k:e.key=.string g.tx) :
  MapG (setBlock W x (.map (es.modify j fun e=>{ e with key:=.string g.tx,val:=g.val }) clock)) x (gs.set j g) (es.modify j fun e=>{ e with key:=.string g.tx,val:=g.val }) clock:=by
 refine⟨by simp[setBlock,m],MapKept.stamped_modify h.stm j _ (fun _ _=>rfl) (fun e' _ c=>?_),?_,fun z f=>?_⟩
 ·rw[<-Array.getElem?_toList,d]at c;have:=Option.some.inj c;subst this;exact k.symm
 ·rw[List.map_set,<-h.kv];refine List.ext_getElem? (fun i=>?_);rw[List.getElem?_map,Array.getElem?_toList,Array.getElem?_modify,List.getElem?_set,List.getElem?_map,List.length_map,Array.length_toList];by_cases a:j=i
  ·subst a;have l:j<es.size:=by have:=(List.getElem?_eq_some_iff.1 d).1;simpa using this
   rw[if_pos rfl,if_pos rfl,if_pos l,<-Array.getElem?_toList,d];rfl
  ·rw[if_neg a,if_neg a,<-Array.getElem?_toList]
 ·rcases List.mem_or_eq_of_mem_set f with f|rfl
  ·exact h.sz z f
  ·exact n
theorem ZsY(g:GEn){t0 t1 t2 t3 t4 t5:Int}(d:talC g.vals=[Vi t0,Vi t1,Vi t2,Vi t3,Vi t4,Vi t5]):g.val=.agg #[.slice g.a g.n g.c,.string g.tx,Vi t0,Vi t1,Vi t2,Vi t3,Vi t4,Vi t5]:=by
 unfold GEn.val;rw[d]
theorem ZwN{gs:List GEn}(d:∀g∈gs,GEnOk w g){o:GEn}(k:LbOk w o.a o.n o.c o.tx o.qs)(v:Int) :
  (∀(j:Nat) (q:j<gs.length),gs[j].tx=o.tx->(∀i (l:i<gs.length),i≠j->gs[i].tx≠o.tx)->(gs.set j { o with vals:=gs[j].vals++[v] }).map GEn.grp=addG (o.qs.map blP) v (gs.map GEn.grp))/\
  ((∀g∈gs,g.tx≠o.tx)->(gs++[{ o with vals:=[v] }]).map GEn.grp=addG (o.qs.map blP) v (gs.map GEn.grp)):=by
 have key : ∀ g ∈ gs, g.qs.map _ = o.qs.map _ ↔ g.tx = o.tx := fun g f => by
   constructor
   · intro h
     have e:=(d g f).lb.txt;rw[h,<-k.txt]at e;exact(Zem e)
   · intro h
     refine ZnE (d g f).lb.wf k.wf ?_;rw[<-(d g f).lb.txt,<-k.txt,h]
 constructor
 ·intro j q r s
  rw [List.map_set, ZnH _ v _ j (by rwa [List.length_map]) (by rw [List.getElem_map]; exact (key _ (List.getElem_mem _)).2 r) (fun i l m => by
    rw[List.length_map]at l;rw[List.getElem_map];exact fun e=>s i _ m ((key _ (List.getElem_mem _)).1 e)),List.getElem_map]
  rfl
 ·intro h
  rw [List.map_append, ZnJ _ _ _ (fun g f => by
    obtain⟨z,p,rfl⟩:=List.mem_map.1 f;exact fun e=>h z p ((key z p).1 e))]
  rfl
theorem ZuD(h:w.heap[x]?=some (.map es clock))(T:TypeId):(Builtin.clear_ #[279] T #[.map (some x)]).run prog w=.ok (.tuple #[]) (setBlock w x (.map #[] clock)):=by
 simp[Builtin.clear_,run_underlying _,MapKept.run_getObj_map h,MapKept.run_setObj_map _ h,Result.andThen,setBlock]
theorem ZyV(h:w.heap[x]?=some (.map es clock))(T:TypeId):(Builtin.len_ #[279] T #[.map (some x)]).run prog w=.ok (Vi es.size) w:=by
 simp[Builtin.len_,run_underlying _,MapKept.run_getObj_map h,Result.andThen];rfl
def gItm(op:Nat)(g:GEn):Itm:=⟨g.a,g.n,g.c,g.tx,g.qs,cutV (ZfI op g.vals)⟩
instance:Inhabited GEn:=⟨⟨none,0,0,⟨#[]⟩,[],[]⟩⟩
def ZhS(es:Array MapEntry)(j:Nat):Nat:=(es.toList[j]?.map (·.born)).getD 0
structure Went (es:Array MapEntry) (n:Nat) (js:List Nat) (seen:Array Nat):Prop where
 nodup:js.Nodup
 lt:∀j∈js,j<n
 seen:seen.toList=js.map (ZhS es)
theorem ZqB(h:e∈(leftOf es seen).toList):e∈es.toList/\e.born∉seen.toList:=by
 unfold leftOf at h;rw[Array.toList_filter,List.mem_filter]at h;refine⟨h.1,fun a=>?_⟩;have:=h.2;simp[Array.mem_toList_iff.1 a]at this
theorem ZxW(h:e∈(leftOf es seen).toList):(leftOf es (seen.push e.born)).size+1<=(leftOf es seen).size:=by
 have e1 : (leftOf es (seen.push e.born)).toList = (leftOf es seen).toList.filter (fun z => decide (z.born ≠ e.born)) := by
   unfold leftOf;rw[Array.toList_filter,Array.toList_filter,List.filter_filter];refine List.filter_congr (fun z _=>?_);simp[Bool.and_comm]
 have a:((leftOf _ _).toList.filter (fun z=>decide (z.born≠e.born))).length<(leftOf _ _).toList.length:=List.length_filter_lt_length_iff_exists.2 ⟨e,h,by simp⟩;rw[<-e1,Array.length_toList,Array.length_toList]at a;omega
theorem ZxV(h:(leftOf es seen).size=0):∀e∈es.toList,e.born∈seen.toList:=by
 intro e c;refine Classical.byContradiction fun d=>?_
 have a:e∈(leftOf es seen).toList:=by
  unfold leftOf;rw[Array.toList_filter,List.mem_filter];refine⟨c,?_⟩;simp;exact fun f=>d (Array.mem_toList_iff.2 f)
 have:=List.eq_nil_of_length_eq_zero (by rwa [Array.length_toList]);rw[this]at a;cases a
theorem Went.step{gs:List GEn}(n:MapG w x gs es cl)(h:Went es gs.length js seen)(o:e∈(leftOf es seen).toList):∃j,j<gs.length/\es.toList[j]?=some e/\Went es gs.length (js++[j]) (seen.push e.born):=by
 obtain⟨p,q⟩:=ZqB o;obtain⟨j,f⟩:=List.getElem?_of_mem p;obtain⟨g,_⟩:=n.at f;have k:ZhS es j=e.born:=by unfold ZhS;rw[f];rfl
 have l:j∉js:=fun m=>q (h.seen▸List.mem_map.2 ⟨j,m,k⟩);refine⟨j,g,f,⟨?_,?_,?_⟩⟩
 ·rw[List.nodup_append];exact⟨h.nodup,by simp,fun a r b d=>by rw[List.mem_singleton]at d;subst d;intro e';subst e';exact l r⟩
 ·intro i c;rcases List.mem_append.1 c with c|c
  ·exact h.lt i c
  ·rw[List.mem_singleton]at c;subst c;exact g
 ·rw[Array.toList_push,List.map_append,h.seen,List.map_singleton,k]
theorem Went.all{gs:List GEn}(e:MapG w x gs es cl)(h:Went es gs.length js seen)(n:(leftOf es seen).size=0):js.Perm (List.range gs.length):=by
 rw[List.perm_ext_iff_of_nodup h.nodup List.nodup_range];intro j;rw[List.mem_range];refine⟨h.lt j,fun p=>?_⟩;have f:j<es.toList.length:=by rwa [Array.length_toList,e.len]
 have g:=ZxV n _ (List.getElem_mem f);rw[h.seen]at g;obtain⟨i,k,l⟩:=List.mem_map.1 g;have o:=h.lt i k;have m:i<es.toList.length:=by rwa [Array.length_toList,e.len]
 have d:ZhS es i=es.toList[i].born:=by unfold ZhS;rw[List.getElem?_eq_getElem m];rfl
 have a:=e.stm.2.1;rw[List.Nodup,List.pairwise_map,List.pairwise_iff_getElem]at a
 have:i=j:=by
  rcases Nat.lt_trichotomy i j with c|c|c
  ·exact absurd (d.symm.trans l) (a i j _ _ c)
  ·exact c
  ·exact absurd (d.symm.trans l).symm (a j i _ _ c)
 rw[<-this];exact k
theorem ZEF (op : Nat) {gs : List GEn}  (h : js.Perm (List.range gs.length)) : ((js.map fun j => gItm op (gs.getD j default)).map Itm.el).Perm ((gs.map GEn.grp).map (Zh7 op)) := by
  have a:=(h.map fun j=>gItm op (gs.getD j default)).map Itm.el;refine a.trans ?_
  have e : (List.range gs.length).map (fun j => gItm op (gs.getD j default)) = gs.map (gItm op) := by
    conv=>rhs;rw[<-Zwt gs default]
    rw[List.map_map];rfl
  rw[e,List.map_map,List.map_map];exact List.Perm.refl _
theorem Zz0{e:TypeId}{sz:Nat}(h:w.ownsRow b e sz v n xs){q:Nat}{o:Obj}(d:w.heap[q]?=some o)(f:∀c t fr,o≠.cells c t fr):some q≠v.ownBlock:=by
 rcases h.2 with ⟨rfl,_⟩|⟨g,cp,cur,rfl,_,a,_⟩
 ·simp[Value.ownBlock]
 ·intro i;have j:q=g:=by simpa [Value.ownBlock] using i
  subst j;rw[d]at a;injection a with h3;exact f _ _ _ h3
theorem ZeU(a:x<W.heap.size)(o:Obj):(W.alloc o).heap[x]?=W.heap[x]?:=Below.heap_alloc _ _ _ a
theorem BAt.belX{a:Nat}{t:TypeId}(h:BAt w a c t)(d:BelX x w.heap.size w w')(e:a≠x):BAt w' a c t:=(d.block a h.lt e).trans h
theorem ZDx (l : List Int) (x : Int) (a : l.length <= 10000) (c : ∀ y ∈ l, vOk y) (d : vOk x) (t0 t1 t2 t3 t4 t5 r0 r1 r2 r3 r4 r5 : Int) (f : talC l = [Vi t0, Vi t1, Vi t2, Vi t3, Vi t4, Vi t5]) (g : talC (l ++ [x]) = [Vi r0, Vi r1, Vi r2, Vi r3, Vi r4, Vi r5]) (w : World) : CP 206 #[.agg #[Vi t0, Vi t1, Vi t2, Vi t3, Vi t4, Vi t5], Vi x] w fun e u => e = .returned (.agg #[Vi r0, Vi r1, Vi r2, Vi r3, Vi r4, Vi r5]) /\ BW w u := by
  have h:=ZsT l x a c d w;unfold talV at h;rw[f,g]at h;exact h
theorem ZtY(w:World)(a:Obj)(c:List Value)(t:TypeId):BAt ((w.alloc a).alloc (.cells ⟨c⟩ t)).drew (w.heap.size+1) c t:=by
 have:=Go.Deep.blk_alloc_new (w.alloc a) (.cells ⟨c⟩ t);rw[Go.Deep.nblk_alloc]at this;exact this
theorem ZtX(w:World)(a:Obj)(c:List Value)(t:TypeId):BAt ((w.alloc (.cells ⟨c⟩ t)).alloc a).drew w.heap.size c t:=(Zbal.block _ (by simp)).trans (Go.Deep.blk_alloc_new _ _)
theorem ZqW(gb x op:Nat)(v7:op<=3)(nv:Value)(bs:List BA)(v:Value)(l:List El)(is:List Itm)(w:World)(a9:BAt w gb [.map (some x)] 281)(hx:MapX w x)(hn:w.ownsRow 0 9 1 nv bs.length (Zbc bs))(q5:bs.length<=100000)(hs:NmS bs)(hv:VecV w v l is) :
  CP 157 #[Vp gb,Vi op,nv,v] w fun e f=>∃v' is',e=.returned v'/\Hid (VecV f v' (Zcv op (bs.map bl) l) is'/\MapX f x)/\BelX x w.heap.size w f:=by
 obtain⟨i0,hi,j5,j6,j7⟩:=info_parts Tryz.infoItem;obtain⟨na,ncp,rfl⟩:=Zl hn;obtain⟨ra,rcp,rfl⟩:=Zl hv.row;obtain⟨es0,cl0,a2⟩:=hx;have HG:=hid a9;have q6:=hid a2;have HN:=hid hn;have HS:=hid hs;have HV:=hid hv;have v8:=hv.len;have q7:gb≠x:=by intro e;subst e;rw[a9]at a2;cases a2
 have j8:=(Array.getElem?_eq_some_iff.1 a2).1;have v9:=a9.lt;have j9:=a9.cell 0;simp only[List.getElem?_cons_zero]at j9;have p4:=fun T=>ZuD a2 T;clear a9 hn hs hv;go_enter func157,ntmps157;go_wp2;obtain⟨w1,c7⟩:∃w1,w1=setBlock w x (.map #[] cl0):=⟨_,rfl⟩
 rw[<-c7];have q8:Hid (BelX x w.heap.size w _):=c7▸BelX.set _ _ _ _;have q9:Hid (MapG w1 x [] _ cl0):=hid ⟨by rw[c7];simp[setBlock,j8],MapKept.stamped_empty _,rfl,fun g d=>by cases d⟩;have r6:Hid (MapX w x):=hid ⟨es0,cl0,q6⟩;clear c7 p4 j9 a2
 go_loopw [22] (fun i wr => ∃ (k : Nat) (gs : List GEn) (es : Array MapEntry) (cl : Nat), k <= is.length /\ i = Vi k /\ gs.length <= k /\ Hid (MapG wr x gs es cl) /\ Hid ((∀ g ∈ gs, GEnOk wr g /\ g.vals.length <= k) /\ gs.map GEn.grp = grpV (bs.map bl) (l.take k)) /\ Hid (BelX x w.heap.size w wr))
   (fun i _=>is.length - (intOf i).toNat)
 case atStart=>exact⟨0,[],#[],cl0,Nat.zero_le _,rfl,Nat.zero_le _,q9,hid ⟨(fun g d=>by cases d),rfl⟩,q8⟩
 case round=>
  rename World=>wo
  obtain⟨k,gs,es,cl,hk,rfl,x0,X,G,HB⟩:=hrel;have e9:=HB.size;have c8:=hid (Zo.belX HB r6);have f0:Hid (BAt _ _ _ _):=hid (c8 _ _ _ _ HG);by_cases f4:k<is.length
  ·have d:∃g,ra=some ⟨g,0,none⟩:=by
    obtain⟨g,cp',h⟩:=ZF HV.row Om;injection h with p;exact⟨g,p⟩
   obtain⟨vg,rfl⟩:=d;have d0:=hid (c8.own HV.row);obtain⟨f1,f2,f3⟩:=Zfl _ k f4;have d1:=Zi d0 _ _ f1;have d2:=Zi d0 _ _ f2;have d3:=Zi d0 _ _ f3;have k0:=hid ((HV.ok _ (List.getElem_mem f4)).jv c8)
   have k1:Hid (grpV (bs.map bl) (l.take (k+1))=addG (ZB (is[k]).labs (bs.map bl)) (is[k]).v (grpV (bs.map bl) (l.take k))):=by
    have hl:k<l.length:=by rwa [HV.len']
    rw[List.take_succ_eq_append_getElem hl,ZpO]
    have e:l[k]=(is[k]).el:=by
     have:l[k]?=(is.map Itm.el)[k]?:=by rw[HV.els]
     rw[List.getElem?_eq_getElem hl,List.getElem?_map,List.getElem?_eq_getElem f4]at this;exact Option.some.inj this
    rw[e];rfl
   generalize is[k]=s at *
   clear f1 f2 f3 d0;have x1:(k:Int)<(is.length):=by omega
   have d4:x<wo.heap.size:=by omega
   go_wp2_with fail
   refine Zm fun W r=>?_;have H:Below _ _ W:=r▸Zbal;have HI:Hid (BAt W _ [.slice _ _ _,.string _,.int _ _] 286):=r▸Go.Deep.blk_alloc_new _ _;clear r d1 d2 d3;refine(ZxO _ _ _ _ _ _ _ W (k0.below H).lb ((c8.trans (Zo.below H)).own HN) q5 HS).mono ?_;rintro e S ⟨a',n',c',tx',qs',rfl,b5,C⟩;have I:=hid (H.trans (C.mono H.size));have f5:=hid (HI.below C);clear C H HI;have k2:=I.size;have x2:=f5.lt
   have E:tx'.size<=maxLen:=by
    have p:=b5.1.wf.len;rw[<-b5.1.txt,Zd]at p;unfold maxLen;omega
   have f6:=hid (X.moved (I.block x d4));have k3:=hid (f0.below I);have r7:x<S.heap.size:=by omega
   have HF:=hid (f6.find _ E)
   obtain⟨vals,gv,r8⟩:∃(vals:List _) (gv:GEn),vals=gv.vals/\(vals.length<=k/\(∀v∈vals,vOk v))/\(∃u,(∀W:World,W.heap[x]?=S.heap[x]?->(Instr.lookup _ _ _ _).run _ W=.ok u W)/\∃sa sn sc stx,u=.agg (.slice sa sn sc::.string stx::talC vals).toArray)/\
     (((∀W:World,(Instr.findKey 9 _ _).run _ W=.ok _ W)/\(∀g∈gs,g.tx≠tx')/\(∀e∈es.toList,e.key≠.string _)/\vals=[])∨∃j,∃hj:j<gs.length,gs[j].tx=tx'/\gs[j].vals=vals/\(∀i (hi:i<gs.length),i≠j->gs[i].tx≠tx')/\∃e,es.toList[j]?=some e/\e.key=.string _/\∀W:World,(Instr.findKey 9 _ _).run _ W=.ok (some (j,e.val)) W):=by
    rcases HF.out with ⟨p,h2,h3⟩|⟨j,hj,p,h2,e,h3,h4,h5,h6⟩
    ·exact⟨[],⟨none,0,0,tx',[],[]⟩,rfl,⟨Nat.zero_le _,fun v hv=>by cases hv⟩,⟨_,fun W r=>ZyG f6 E p W r,none,0,0,ByteArray.empty,rfl⟩,.inl ⟨p,h2,h3,rfl⟩⟩
    ·have k4:=G.1 _ (List.getElem_mem hj);exact⟨gs[j].vals,gs[j],rfl,⟨k4.2,k4.1.vok⟩,⟨_,fun W r=>ZyE f6 E h6 W r,gs[j].a,gs[j].n,gs[j].c,gs[j].tx,h5⟩,.inr ⟨j,hj,p,rfl,h2,e,h3,h4,h6⟩⟩
   clear HF;obtain⟨-,Y,d5,V⟩:=r8;have Y:=hid Y;have d6:=hid d5;have V:=hid V;clear d5 gv;obtain⟨t0,t1,t2,t3,t4,t5,N⟩:=ZiD vals;have a6:=hid N;clear N;obtain⟨u,k5,sa,sn,sc,stx,hu⟩:=d6.out;rw[a6]at hu;subst hu;have a3:=hid k5;clear k5;clear d6
   go_upto_region 6 with fail
   refine ZP fun wA f7=>?_;have d7:Below _ _ _:=f7▸Zbal;have b6:Hid (BAt _ _ _ 268):=f7▸Go.Deep.blk_alloc_new _ _;have f8:=hid (k3.below d7);have k6:=hid (f5.below d7);have J:=hid d7;clear f7 d7;have r9:=J.size;have x3:=b6.lt;have c0:=f8.cell 0;have b0:=b6.cell 0;have b1:=b6.cell 1;simp only[Zget]at c0 b0 b1;have b7:x<wA.heap.size:=by omega
   have b8:=hid (J.block x r7);have l1:∀o,(Instr.lookup _ _ _ _).run _ ((wA.alloc o).drew)=_:=fun o=>a3 _ ((ZeU b7 o).trans b8);have l2:∀o,(Instr.lookup _ _ _ _).run _ (wA.drew.alloc o)=_:=fun o=>a3 _ ((ZeU b7 o).trans b8);have l3:∀o o',(Instr.lookup _ _ _ _).run _ (((wA.alloc o).alloc _).drew)=_:=fun o o'=>a3 _ (((ZeU (by simp;omega) o').trans (ZeU b7 o)).trans b8);have l4:∀o o',(Instr.lookup _ _ _ _).run _ ((wA.alloc o).drew.alloc _)=_:=fun o o'=>a3 _ (((ZeU (by simp;omega) o').trans (ZeU b7 o)).trans b8);have l5:∀o o',(Instr.lookup _ _ _ _).run _ ((wA.drew.alloc o).alloc _)=_:=fun o o'=>a3 _ (((ZeU (by simp;omega) o').trans (ZeU b7 o)).trans b8);have p5:∀W:World,(Instr.field 351 (.agg #[.slice sa sn sc,.string stx,Vi t0,Vi t1,Vi t2,Vi t3,Vi t4,Vi t5]) 1).run prog W=.ok (.agg #[Vi t0,Vi t1,Vi t2,Vi t3,Vi t4,Vi t5]) W:=fun W=>by kernel_rfl
   go_cut [12] from 30 to 37 (fun s12 wx=>∃Bt:Nat,s12=Vp Bt/\Hid (BAt wx Bt [Vi t0,Vi t1,Vi t2,Vi t3,Vi t4,Vi t5] 349)/\Hid (BW wA wx)/\wA.heap.size<=Bt)
   case first=>
    go_region_held3 (fun f => f.cell? ⟨gb, 0, none⟩ = some (.map (some x)) /\ f.cell? ⟨S.heap.size, 0, none⟩ = some (.slice a' n' c') /\ f.cell? ⟨S.heap.size, 1, none⟩ = some (.string tx')) (first | exact ⟨c0, b0, b1⟩ | go_keep) (first
      | (go_at_call 151
         refine(ZgR _ _ _ _ _).mono ?_;rintro e w7 ⟨rfl,o7,s0⟩))
    all_goals
     go_wp2
     go_meet
     exact⟨_,rfl,hid (by first|exact ZtY _ _ _ _|exact ZtX _ _ _ _),hid belB,by omega⟩
   case rest=>
   obtain⟨Bt,rfl,HT,a4,x4⟩:=hcut;clear l1 l2 l3 l4 l5 p5 c0 b0 b1 a3;have b9:=hid ((I.trans (J.mono k2)).trans (a4.mono Om));have k7:=hid (f8.below a4);have k8:=hid (k6.below a4);have f9:=hid (b6.below a4);have g5:=hid (b5.1.jv (Zo.below (J.trans (a4.mono r9))));have k9:=hid (b9.block x d4);have l0:x<wc.heap.size:=by have:=b9.size;omega
   clear f8 k6 b6 J a4 k3 f5;obtain⟨r0,r1,r2,r3,r4,r5,hr⟩:=ZiD (vals++[s.v]);have HR:=hid hr;clear hr;have g6:=hid k0.vok;have c1:=hid (X.moved k9);have O:Hid (∀g∈gs,GEnOk _ g/\g.vals.length<=k):=hid (fun g d=>⟨(G.1 g d).1.jv (Zo.below b9),(G.1 g d).2⟩)
   have s1:∃(es':Array _) (cl':Nat) (gs':List _),(∀W:World,W.heap[x]?=wc.heap[x]?->(Instr.mapUpdate 279 (.map (some x)) (.string tx') (.agg #[.slice a' n' c',.string tx',Vi r0,Vi r1,Vi r2,Vi r3,Vi r4,Vi r5])).run prog W=.ok () (setBlock W x (.map es' cl')))/\
     (∀W:World,x<W.heap.size->MapG (setBlock W x (.map es' cl')) x gs' es' cl')/\gs'.length<=k+1/\(∀g∈gs',GEnOk wc g/\g.vals.length<=k+1)/\gs'.map GEn.grp=grpV (bs.map bl) (l.take (k+1)):=by
    obtain⟨o,U⟩:∃o:GEn,o=⟨a',n',c',tx',qs',vals++[s.v]⟩:=⟨_,rfl⟩
    have d8:o.val=.agg #[.slice a' n' c',.string tx',Vi r0,Vi r1,Vi r2,Vi r3,Vi r4,Vi r5]:=U▸ZsY ⟨a',n',c',tx',qs',vals++[s.v]⟩ HR.out
    have g7:GEnOk wc o/\o.vals.length<=k+1:=by
     rw[U];refine⟨⟨g5,fun z hz=>?_⟩,?_⟩
     ·rcases List.mem_append.1 hz with hz|hz
      ·exact Y.2 z hz
      ·rw[List.mem_singleton]at hz;subst hz;exact g6
     ·have:=Y.1;simp;omega
    have l6:=ZwN (fun g d=>(O g d).1) (o:=⟨a',n',c',tx',qs',[]⟩) g5 s.v;have l7:qs'.map blP=ZB s.labs _:=b5.2;rcases V.out with ⟨p,h2,h3,h4⟩|⟨j,hj,p,h2,h3,e,h4,h5,h6⟩
    ·refine⟨_,_,gs++[o],fun W r=>?_,fun W r=>c1.push r o (U▸E) (by rwa [U]),by simp;omega,fun g d=>?_,?_⟩
     ·have:=ZDG c1 E p o.val W r;rw[d8]at this;rw[d8,U];exact this
     ·rcases List.mem_append.1 d with d|d
      ·exact⟨(O g d).1,by have:=(O g d).2;omega⟩
      ·rw[List.mem_singleton]at d;subst d;exact g7
     ·have:=l6.2 h2;rw[k1,<-l7,<-G.2,<-this,U,h4];rfl
    ·refine⟨_,_,gs.set j o,fun W r=>?_,fun W r=>c1.mod r o (U▸E) h4 (by rwa [U]),by rw[List.length_set];omega,fun g d=>?_,?_⟩
     ·have:=ZDE c1 E h4 h5 h6 o.val W r;rw[d8]at this;rw[d8,U];exact this
     ·rcases List.mem_or_eq_of_mem_set d with d|rfl
      ·exact⟨(O g d).1,by have:=(O g d).2;omega⟩
      ·exact g7
     ·have:=l6.1 j _ p h3;rw[k1,<-l7,<-G.2,<-this,U,h2]
   obtain⟨es',cl',gs',l8,l9,s2,m6,m7⟩:=s1;have m8:=hid l8;have s3:=hid l9;have m9:=hid m6;have s4:=hid m7;have g8:Hid (vals.length<=10000/\∀y∈vals,vOk y):=hid ⟨by have:=Y.1;omega,Y.2⟩;have s5:Hid (MapX _ x):=hid ⟨es,cl,X.heap⟩;clear l8 l9 m6 m7 V c1 O Y X G g5 b5;have c0:=k7.cell 0;have b0:=f9.cell 0;have b1:=f9.cell 1;have y2:=k8.cell 2;have m0:=HT.cell 0;have m1:=HT.cell 1;have m2:=HT.cell 2;have m3:=HT.cell 3;have m4:=HT.cell 4;have m5:=HT.cell 5;simp only[Zget]at c0 b0 b1 y2 m0 m1 m2 m3 m4 m5;have x5:=b9.size;have s6:Hid (gb≠x/\S.heap.size≠x/\wo.heap.size≠x/\Bt≠x):=hid ⟨q7,by omega,by omega,by omega⟩
   have L : Hid (∀ W, BelX x _ _ W -> W.cell? _ = some _ /\ W.cell? _ = some _ /\ W.cell? _ = some _ /\ W.cell? _ = some _ /\ W.cell? _ = some _ /\ W.cell? _ = some _ /\ W.cell? _ = some _ /\ W.cell? _ = some _ /\ W.cell? _ = some _ /\ W.cell? _ = some _) := hid (fun W r => by
     obtain⟨n1,n2,n3,n4⟩:=s6.out;have g1:=k7.belX r n1;have g2:=f9.belX r n2;have g3:=k8.belX r n3;have g4:=HT.belX r n4;exact⟨g1.cell 0,g2.cell 0,g2.cell 1,g3.cell 2,g4.cell 0,g4.cell 1,g4.cell 2,g4.cell 3,g4.cell 4,g4.cell 5⟩)
   go_upto_region 7 with fail
   go_region_held3 (fun W => W.cell? ⟨gb, 0, none⟩ = some (.map (some x)) /\ W.cell? ⟨S.heap.size, 0, none⟩ = some (.slice a' n' c') /\ W.cell? ⟨S.heap.size, 1, none⟩ = some (.string tx') /\ W.cell? ⟨wo.heap.size, 2, none⟩ = some (Vi s.v) /\ W.cell? ⟨Bt, 0, none⟩ = some (Vi t0) /\ W.cell? ⟨Bt, 1, none⟩ = some (Vi t1) /\ W.cell? ⟨Bt, 2, none⟩ = some (Vi t2) /\ W.cell? ⟨Bt, 3, none⟩ = some (Vi t3) /\ W.cell? ⟨Bt, 4, none⟩ = some (Vi t4) /\ W.cell? ⟨Bt, 5, none⟩ = some (Vi t5)) (first | exact ⟨c0, b0, b1, y2, m0, m1, m2, m3, m4, m5⟩ | exact s7.out | exact s8.out _ | exact s9.out _ | exact t6.out _ _ | go_keep) (first
     | (go_at_call 151
        refine(ZgR _ _ _ _ _).mono ?_;rintro e w7 ⟨rfl,o7,s0⟩)
     | (go_at_call 206
        refine(ZDx vals s.v g8.1 g8.2 g6.out t0 t1 t2 t3 t4 t5 r0 r1 r2 r3 r4 r5 a6.out HR.out _).mono ?_;rintro e w8 ⟨rfl,Z⟩;have D:Hid (BW wc w8):=hid (by first|exact⟨Z.os,Z.tape,Z.output,Z.size,Z.block⟩|exact(((Below.refl wc.heap.size wc).drew).alloc (Nat.le_refl _) _).trans (Z.mono (by simp)));have s7:=hid (L.out w8 (BelX.of D.out));have s8:=hid (fun o=>L.out (w8.alloc o) (BelX.of (D.alloc D.size o)));have s9:=hid (fun M=>L.out (setBlock w8 x M) ((BelX.of D.out).trans (BelX.set _ _ _ _)));have t6:=hid (fun o M=>L.out (setBlock (w8.alloc o) x M) ((BelX.of (D.alloc D.size o)).trans (BelX.set _ _ _ _)));have q0:=m8.out w8 (D.block x l0);have q1:=fun o=>m8.out (w8.alloc o) ((ZeU (by have:=D.size;omega) o).trans (D.block x l0));clear Z))
   have p6 : Hid (∀ W9, BW wc W9 -> MapG (setBlock W9 x (.map es' cl')) x gs' es' cl' /\ (∀ g ∈ gs', GEnOk (setBlock W9 x (.map es' cl')) g /\ g.vals.length <= k + 1) /\ BelX x w.heap.size w (setBlock W9 x (.map es' cl'))) := hid (fun W9 h9 => by
     have n0:BelX x wc.heap.size wc (setBlock W9 x (.map es' cl')):=(BelX.of h9).trans (BelX.set _ _ _ _)
     have t7:MapX wc x:=by
       obtain⟨q1,q2,hq⟩:=s5.out;exact⟨q1,q2,k9.trans hq⟩
     refine⟨s3.out W9 (by have:=h9.size;omega),fun g d=>⟨(m9.out g d).1.jv (Zo.belX n0 t7),(m9.out g d).2⟩,HB.trans (((BelX.of b9.out).mono e9).trans (n0.mono Om))⟩)
   all_goals
    obtain⟨f1,f2,f3⟩:=p6.out w8 D.out;have F1:=hid f1;have F2:=hid (And.intro f2 s4.out);have F3:=hid f3;clear f1 f2 f3;go_wp2
    go_roundw
    case rel=>exact⟨k+1,gs',es',cl',by omega,by go_num,s2,F1,F2,F3⟩
    case measure=>simp[intOf];omega
  ·obtain rfl:k=is.length:=by omega
   have t8:Hid (gs.map GEn.grp=grpV (bs.map bl) l):=by have:=G.2;rwa [List.take_of_length_le (by rw[HV.len'];omega)]at this
   have n5:=hid G.1;have g9:=X.len;have c0:=f0.cell 0;simp only[List.getElem?_cons_zero]at c0;have n6:=fun T=>ZyV X.heap T;rw[g9]at n6;have d4:x<wo.heap.size:=by omega
   clear G
   go_wp2_with (at_make;refine wpList_make_own _ rfl _ _ 283 rfl w.heap.size 286 i0 _ 3 underlying283 hi j5 j6 _ _ _ gs.length rfl rfl rfl ?b2 ?b3 ?b4 ?_)
   case b2=>rw[j7];omega
   case b3=>unfold maxLen;omega
   case b4=>exact e9
   intro w2 j3 c2;have c3:=hid ((Below.refl _ _).grown c2 (Nat.le_refl _) (fun q hq=>by cases hq));have n7:=hid (X.moved (c3.block x d4));have t9:=hid (f0.below c3);clear c2 c0 n6;have c0:=t9.cell 0;simp only[List.getElem?_cons_zero]at c0;have u0:=run_range_map _ 279 9 _ x _ _ underlying279 n7.heap;go_wp2;have p7:=hid (HB.trans ((BelX.of c3).mono e9));have i1:Hid (∀g∈gs,GEnOk _ g/\g.vals.length<=is.length):=hid (fun g d=>⟨(n5 g d).1.jv (Zo.below c3),(n5 g d).2⟩);have x6:=c3.size;clear u0 c0
   go_loopg [13] gs.length (fun kx v wr=>∃(js:List Nat) (seen:Array Nat) (c9:Nat),(leftOf es seen).size<=kx/\js.length+(leftOf es seen).size<=gs.length/\wr.ownsRow w.heap.size 286 3 v js.length (encs (js.map fun j=>gItm op (gs.getD j default)))/\Hid (wr.heap[w2.heap.size]?=some (.mapIter (some x) cl seen c9)/\cl<=c9)/\Hid (MapG wr x gs es cl)/\Hid (Went es gs.length js seen)/\Hid (∀g∈gs,GEnOk wr g/\g.vals.length<=is.length)/\Hid (BelX x w.heap.size w wr)/\w2.heap.size<wr.heap.size)
   case atStart=>
    have d9:Below _ _ (w2.alloc (.mapIter (some x) cl #[] cl)):=Zbal;have n8:(leftOf es #[]).size<=gs.length:=by unfold leftOf;rw[<-g9];exact Array.size_filter_le
    exact⟨[],#[],cl,n8,by simpa using n8,Zn j3 d9,hid ⟨heap_alloc_new _ _,Nat.le_refl _⟩,hid (n7.moved (d9.block x Om)),hid ⟨List.nodup_nil,by simp,rfl⟩,hid (fun g d=>⟨(i1 g d).1.jv (Zo.below d9),(i1 g d).2⟩),hid (p7.trans ((BelX.of d9).mono Om)),by simp⟩
   case round=>
    obtain⟨js,seen,c9,x7,x8,a0,e0,Q,i2,a5,c4,i3⟩:=hrel;have u1:x<wr.heap.size:=by have:=c4.size;omega
    have i4:=fun ty=>run_next_at (P:=prog) _ ty _ x _ _ _ _ _ e0.1 Q.heap Q.stm.1 e0.2;rcases i4 0 with ⟨u2,a7⟩|⟨e,he,n9,a1,a7⟩
    ·have e1:=i2.all Q u2;have i5:=ZEF op e1;rw[t8]at i5
     have i6 := hid (ZwK _ _ l (fun e he => by
       rw[<-HV.els]at he;obtain⟨i,hi,rfl⟩:=List.mem_map.1 he;exact(HV.ok i hi).lb.wf) _ i5)
     have i7:(js.map fun j=>gItm op (gs.getD j default)).length=js.length:=List.length_map _;rw[<-i7]at a0
     have o0 := hid (Znc _ _ _ _ a0 (c4.size) (by rw [i7]; omega) (fun i hi => by
       obtain⟨j,hj,rfl⟩:=List.mem_map.1 hi;have u3:=i2.lt j hj;have eg:gs.getD j default=gs[j]:=by rw[List.getD_eq_getElem?_getD,List.getElem?_eq_getElem u3];rfl
       rw[eg];exact⟨(a5 _ (List.getElem_mem _)).1.lb,ZhY _⟩) i6.1)
     rw[i6.2]at o0;clear a0 i5 e1 i4
     go_wp2_with fail
     refine o0.mono ?_;rintro e S ⟨rfl,is',H5⟩;have u4:=hid (c4.trans (BelX.of H5.2));have u5:Hid (MapX _ x):=hid ⟨es,cl,(H5.2.block x j8).trans Q.heap⟩;go_wp2;go_ret;exact⟨_,is',rfl,hid ⟨H5.1,u5⟩,u4⟩
    ·obtain⟨j,hj,o1,o2⟩:=i2.step Q.out he;obtain⟨_,o3,o4⟩:=Q.at o1;have o5:=(ZqB he).1;have x9:=ZxW he;have p8:=hid o2;obtain⟨W3,R⟩:∃W3,W3=setBlock n9 w2.heap.size (.mapIter (some x) cl (seen.push e.born) cl):=⟨_,rfl⟩
     rw[<-R]at a7;have a8:n9.heap=wr.heap:=by rcases a1 with rfl|rfl <;> rfl
     have i8:W3.heap[w2.heap.size]?=some (.mapIter (some x) cl (seen.push e.born) cl):=by rw[R];simp[setBlock,a8,i3]
     have e2:∀i,i≠w2.heap.size->W3.heap[i]?=wr.heap[i]?:=fun i hi=>by rw[R];simp[setBlock,a8,Ne.symm hi]
     have u6:W3.heap.size=wr.heap.size:=by rw[R];simp[setBlock,a8]
     have e3:Below w.heap.size _ _:=⟨by rw[R];rcases a1 with rfl|rfl <;> rfl,by rw[R];rcases a1 with rfl|rfl <;> rfl,by rw[R];rcases a1 with rfl|rfl <;> rfl,by omega,fun i hi=>e2 i Om⟩
     have e4:Zo _ _:=fun b c T fr hb=>(e2 b (fun e'=>by subst e';rw[e0.1]at hb;cases hb)).trans hb;have o6:=e2 x Om;have c5:=hid (Q.moved o6);have o8:=run_entry_at (P:=prog) _ _ x _ _ _ _ e i8 c5.heap o5 c5.stm.2.1;have eg:gs.getD j default=gs[j]:=by rw[List.getD_eq_getElem?_getD,List.getElem?_eq_getElem hj];rfl
     have u7:Hid ((js++[j]).map (fun j=>gItm _ (gs.getD j _))=js.map _++[gItm op _]):=hid (by rw[List.map_append,List.map_singleton,eg]);have o9:Hid (GEnOk _ gs[j]/\(gs[j]).vals.length<=10000):=hid ⟨(a5 _ (List.getElem_mem _)).1.jv e4,by have:=(a5 _ (List.getElem_mem hj)).2;omega⟩;have i9:Hid (∀g∈gs,GEnOk _ g/\g.vals.length<=is.length):=hid (fun g d=>⟨(a5 g d).1.jv e4,(a5 g d).2⟩);have p0:=hid (c4.trans (BelX.of e3));have e6:=e4.own a0;have p9:=hid i8;generalize gs[j]=g at *
     obtain⟨t0,t1,t2,t3,t4,t5,N⟩:=ZiD g.vals;have a6:=hid N;rw[o4,ZsY g N,o3]at a7 o8;obtain⟨one,j0⟩:∃one,one=cutV (ZfI op g.vals):=⟨_,rfl⟩
     have j1:=hid j0;have v5:w2.heap.size<W3.heap.size:=by omega
     clear u6 i3 u1;clear i4 a0 e4 o6 i8 e2 e3 R a1 a8 o3 o4 o5 he o2 N j0 Q a5 c4 e0 eg o1 hj
     go_upto_region 13 with fail
     refine ZP fun p1 r=>?_;have H:Below _ _ _:=r▸Zbal;have HX:Hid (BAt _ _ [.slice _ _ _,.string _,.int _ _,.int _ _,.int _ _,.int _ _,.int _ _,.int _ _] 351):=r▸Go.Deep.blk_alloc_new _ _;have e7:=Zn e6 H;have p2:=hid H;clear r H e6 a7 o8;have u8:=p2.size;have q3:=p0.size;have L:Hid (∀f,BAt f W3.heap.size [.slice g.a g.n g.c,.string g.tx,Vi t0,Vi t1,Vi t2,Vi t3,Vi t4,Vi t5] 351->f.cell? _=some _/\f.cell? _=some _/\f.cell? _=some _/\f.cell? _=some _/\f.cell? _=some _/\f.cell? _=some _/\f.cell? _=some _/\f.cell? _=some _):=hid (fun f p=>⟨p.cell 0,p.cell 1,p.cell 2,p.cell 3,p.cell 4,p.cell 5,p.cell 6,p.cell 7⟩);refine Zbn 10 (fun f=>f.cell? _=some _/\f.cell? _=some _/\f.cell? _=some _/\f.cell? _=some _/\f.cell? _=some _/\f.cell? _=some _/\f.cell? _=some _/\f.cell? _=some _) Kr (L.out _ HX.out) (fun m=>?_);refine Za 0 m (h:=?_);refine Za 1 m (h:=?_);refine Za 2 m (h:=?_);refine Za 3 m (h:=?_);refine Za 4 m (h:=?_);refine Za 5 m (h:=?_);refine Z4 (i:=6) Kr rfl (fun K hK=>?_);go_simp;refine(ZsR _ Om _ o9.2 o9.1.vok _ _ _ _ _ _ a6 _).mono ?_;rintro e5 S ⟨rfl,C⟩;have I:Hid (BW p1 _):=hid ⟨C.os,C.tape,C.output,C.size,C.block⟩;have j2:=hid (HX.below I);clear C;rw[<-j1];go_simp;refine hK _ _ (L _ j2) (fun m=>?_);clear hK K
     try simp only[Act.put,Zset]
     refine Za 7 m (h:=?_);refine Z4 (i:=8) Kr rfl (fun K hK=>?_);have J:Hid (∀o,Below _ _ (S.alloc o)):=hid (fun o=>Zbal);go_simp;refine hK _ _ (L _ (j2.below (J _))) (fun m=>?_);clear hK K
     try simp only[Act.put,Zset]
     refine Z4 (i:=9) Kr rfl (fun K hK=>?_);have B:=Zn e7 I;have k2:=I.size;refine ZfF rfl _ _ _ rfl _ 286 _ _ 3 _ underlying283 hi j5 j6 j7 rfl Dc _ _ _ (by simp[Act.eval]) (B.alloc _) ⟨S.heap.size,0,none⟩ 1 1 [.slice g.a g.n g.c,.string g.tx,Vi one] (by simp[Act.eval]) rfl ?h2 ?h3 ?h4 ?h5 ?h6 ?_
     case h2=>exact ZcY rfl
     case h3=>intro u hu;simp at hu;rcases hu with rfl|rfl|rfl <;> rfl
     case h4=>unfold maxLen;omega
     case h5=>omega
     case h6=>simp;omega
     intro v6 w6 e8 A _;have F:Below _ _ (S.alloc (.cells #[.slice g.a g.n g.c,.string g.tx,Vi one] 286)):=(p2.trans (I.mono u8)).trans ((J _).mono Om);have p3:=(Z5.below F _).trans (Z5.grown A (B.alloc _))
     have c6 : ∀ (q : Nat) (o : Obj), W3.heap[q]? = some o -> (∀ c t fr, o ≠ .cells c t _) -> w6.heap[q]? = some o := fun q o hq U => by
       have u9:=(Array.getElem?_eq_some_iff.1 hq).1;have p:=(F.block q u9).trans hq;exact(A.block q (by have:=F.size;omega) (Zz0 (B.alloc _) p U)).trans p
     have v0:=hid (c5.moved ((c6 x _ c5.heap (fun c t fr h=>by cases h)).trans c5.heap.symm));have q4:Hid (w6.heap[w2.heap.size]?=some _/\cl<=cl):=hid ⟨c6 _ _ p9 (fun c t fr h=>by cases h),Nat.le_refl _⟩;have v1:Hid (∀g∈gs,GEnOk _ g/\g.vals.length<=is.length):=hid (fun z hz=>⟨⟨(i9 z hz).1.lb.kb p3 Dc,(i9 z hz).1.vok⟩,(i9 z hz).2⟩);have v2:=hid (p0.trans (BelX.of ((F.mono q3).grown A (by have:=F.size;omega) (fun q hq=>(B.lt q hq).1))));have v3:w2.heap.size<w6.heap.size:=by have:=F.size;have:=A.size;omega
     have j4 : w6.ownsRow w.heap.size 286 3 v6 (js ++ [j]).length (encs ((js ++ [j]).map fun j => gItm op (gs.getD j default))) := by
       rw[u7,Zh1,List.length_append];unfold gItm;rw[<-j1];exact e8
     have v4:Hid (BAt _ _ _ _):=hid (Z5.grown A (B.alloc _) _ _ _ _ Dc (j2.below (J _)));refine hK _ _ (L _ v4) (fun m=>?_);clear hK K
     try simp only[Act.put,Zset]
     refine Zbl Kr Kr rfl Kr (fun K hK=>?_);go_simp;refine hK _ _ ?_;clear hK K A e8 B e7 p3 c6 F;go_wp2
     go_roundg (leftOf es (seen.push e.born)).size
     case measure=>omega
     case rel=>exact⟨js++[j],seen.push _,cl,Nat.le_refl _,by simp;omega,j4,q4,v0,p8,v1,v2,v3⟩
theorem Zj0{l:LB}(h:WB w B b l)(s:BA)(f:l.length+s.size<=140737488355328) :
  CP 63 #[Vp b,.string s] w fun e u=>e=.returned (.tuple #[Vi s.size,.nilIface])/\Hid (WB u B b (l++bl s))/\Hid (WK B b w u):=by
 refine(ZhR B b _ s w h.bd (by rw[Lib.byteCells_length];omega) h.le).mono ?_;rintro e u ⟨rfl,a,c,d⟩;rw[Zn4]at a;exact⟨rfl,⟨.inr a,Nat.le_trans h.le c.size⟩,⟨c,d⟩⟩
theorem Zjm(h:ZR w)(n:Int)(d:vOk n) :
  CP 64 #[Vi n] w fun e u=>∃s:BA,e=.returned (.string s)/\Hid (bl s=decI n)/\s.size<=1000000002/\BW w u:=by
 have c:=Zlj n d;unfold vOk at d;refine(strconv_Itoa n Om Om w h).mono ?_;rintro e u ⟨rfl,k,os,rfl⟩
 have f:Lib.itoa n=decI n:=by
  unfold Lib.itoa decI;by_cases a:n<0
  ·rw[if_pos a,if_pos a,Zlk];rfl
  ·rw[if_neg a,if_neg a,Zlk]
 refine⟨_,rfl,hid ?_,?_,?_⟩
 ·rw[ZbF,f]
 ·show(Lib.itoa n).toArray.size<=_;rw[f];simpa using c
 ·exact⟨rfl,rfl,rfl,by simp[Go.Sort.grow,World.drewN],fun k g=>by simp[Go.Sort.grow,World.drewN,Array.getElem?_append,g]⟩
theorem LbOk.size{a:Option Addr}{c:Nat}{tx:BA}{qs:List (BA×BA)}(h:LbOk w a n c tx qs):tx.size<=108018:=by
 rw[<-Zd,h.txt];exact h.wf.len
def ZcQ(t:Int)(is:List Itm):LB:=decI t++((is.map Itm.el).map elS).flatten
theorem Zyp(t:Int)(l:List Itm)(s:Itm):ZcQ t (l++[s])=ZcQ t l++elS s.el:=by
 unfold ZcQ;simp
theorem ZvL{s:Itm}(c:(wrt s.labs).length<=108018)(a:vOk s.v):(elS s.el).length<=1000108030:=by
 have:=Zlj _ a;show([32,123]++wrt s.labs++[125]++decI s.v).length<=_;simp only[List.length_append,List.length_cons,List.length_nil];omega
theorem ZqH{t:Int}(a:vOk t):∀is:List Itm,(∀i∈is,(wrt i.labs).length<=108018/\vOk i.v)->(ZcQ t is).length<=1000000002+1000108030*is.length
 | [],_=>by have:=Zlj t a;simpa [ZcQ] using this
 | s :: is, h => by
   have d:=ZqH a _ (fun i c=>h i (List.mem_cons_of_mem _ c));have f:=ZvL (h s (by simp)).1 (h s (by simp)).2
   have e:(ZcQ t (s::is)).length=(ZcQ t is).length+(elS s.el).length:=by
     unfold ZcQ;simp only[List.map_cons,List.flatten_cons,List.length_append];omega
   rw[e,List.length_cons];omega
theorem Zyq(t:Int)(H:vOk t)(v:Value)(n:Int)(w:World)(S:ValP w v (.sc n))(I:ZR w)(J:20<=w.heap.size) :
  CP 92 #[Vi t,v] w fun e u=>∃r:BA,e=.returned (.string r)/\Hid (bl r=Zel t (.sc n))/\r.size<=40000000000/\BW w u:=by
 have T:=hid I;have g:=hid J;have U:=hid H;clear I J H;obtain⟨rfl,o⟩:=S;have V:=hid o;have h1:=asSS (Vi n);clear o;go_enter func92,ntmps92
 go_wp2_with fail
 refine Zm fun W G=>?_;have c:Below _ w W:=G▸Zbal;have p:Hid (WB W _ _ []):=hid ⟨.inl ⟨Nat.le_refl _,.slice _ 0 0,G▸Go.Deep.blk_alloc_new _ _,⟨rfl,.inl ⟨rfl,rfl⟩⟩,by simp[Value.ownBlock]⟩,c.size⟩;have d:=hid c;have h:=hid (T.low c g);clear G c;refine(Zjm h t U).mono ?_;rintro e w1 ⟨s1,rfl,K,X,f⟩;have q:=hid (p.below f);have s:=hid (d.trans (f.mono d.size));have A:=hid (h.low f (by have:=g.out;have:=d.size;omega));clear f p d h
 go_wp2_with fail
 refine(Zj0 q _ (by simp;omega)).mono ?_;rintro e w2 ⟨rfl,B,C⟩;have i:=hid (s.trans C.low);have L:=hid (A.low C.low g);clear q s A
 go_wp2_with fail
 refine(Zjm L n V).mono ?_;rintro e w3 ⟨s3,rfl,M,Y,j⟩;have N:=hid (B.below j);have O:=hid (i.trans (j.mono i.size));clear j B i;have k:Hid ((⟨#[32]⟩++s3).size=1+s3.size):=by rw[ByteArray.size_append];rfl
 have D:Hid (bl (⟨#[32]⟩++s3)=[32]++decI n):=by rw[Zfg,M];rfl
 go_wp2_with fail
 generalize(⟨#[32]⟩++s3:BA)=x at k D ⊢;have Z:x.size<=1000000003:=by have:=k.out;omega
 clear k;refine(Zj0 N x (by have b:([]++bl _).length=s1.size:=(by rw[List.nil_append,Zd]);omega)).mono ?_;rintro e w4 ⟨rfl,l,E⟩;have P:=hid (O.trans E.low);have Q:Hid ([]++bl s1++bl x=Zel t (.sc n)):=by rw[D,K];show[]++decI t++([32]++decI n)=decI t++[32]++decI n;simp
 have m:Hid (([]++bl s1++bl x).length<=40000000000):=hid (by have b:([]++bl s1++bl x).length=s1.size+x.size:=(by rw[List.nil_append,List.length_append,Zd,Zd]);omega);generalize[]++bl s1++bl x=z at l Q m
 go_wp2_with fail
 refine(Builder_String_any_f _ _ _ _ l.bd l.le).mono ?_;rintro e w5 ⟨rfl,_,F⟩;have R:=hid (P.trans F);clear F E;go_wp2;go_ret;exact⟨_,rfl,hid (by rw[ZbF,Q]),by have a:=m.out;rw[<-List.size_toArray]at a;exact a,R⟩

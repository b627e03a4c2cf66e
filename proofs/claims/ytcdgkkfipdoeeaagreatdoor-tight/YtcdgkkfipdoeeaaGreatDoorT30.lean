/- Parts. -/
import Derived.Test.YtcdgkkfipdoeeaaGreatDoorT16
import Derived.Test.YtcdgkkfipdoeeaaGreatDoorT29
import Derived.Test.YtcdgkkfipdoeeaaGreatDoorT26
import Derived.Test.YtcdgkkfipdoeeaaGreatDoorT17
import Derived.Test.YtcdgkkfipdoeeaaGreatDoorT22
import Derived.Maps.RangeRun
import Derived.Maps.Keyed
namespace Go.Proofs.YtcdgkkfipdoeeaaGreatDoor
open Go.RowKit LS
theorem Zpl:∀(xs:List (List UInt8)) (last:Int) (n m:Nat),ZbP last n xs=some m->(∀x∈xs.map smV,last<x.1)/\TmS (xs.map smV)/\m=n+xs.length
 | [], last, n, m, h => by
   simp only[ZbP,Option.some.injEq]at h
   exact⟨(fun x hx=>by cases hx),List.Pairwise.nil,by simp[h]⟩
 | x :: xs, last, n, m, h => by
   unfold ZbP at h
   cases hs:ZcT x with
   | none=>rw[hs]at h;cases h
   | some t=>
     rw[hs]at h
     simp only at h
     split at h
     · cases h
     · rename_i hlt
       obtain⟨i1,i2,i3⟩:=Zpl xs t (n+1) m h
       have hx1:(smV x).1=(t:Int):=by
         unfold ZcT at hs
         unfold smV
         cases hc:cut 58 x with
         | none=>rw[hc]at hs;cases hs
         | some p=>
           obtain⟨a,d⟩:=p
           rw[hc]at hs
           simp only at hs ⊢
           cases hn:ZL 1000000 a with
           | none=>rw[hn]at hs;cases hs
           | some tm=>
             rw[hn]at hs
             simp only at hs
             split at hs
             · rw[ZfO hn];injection hs with hs;rw[hs]
             · cases hs
       refine⟨fun y hy=>?_,?_,by simp;omega⟩
       · rcases List.mem_cons.1 hy with rfl|hy
         · rw[hx1];omega
         · have:=i1 y hy;omega
       · exact List.pairwise_cons.2 ⟨fun y hy=>by rw[hx1];exact i1 y hy,i2⟩
theorem Zxi{z:List UInt8}{n:Nat}(h:Zca z=some n):TmS (ZdS z)/\(ZdS z).length=n:=by
 unfold Zca at h
 cases z with
 | nil=>simp at h;exact⟨List.Pairwise.nil,by simp[ZdS,h]⟩
 | cons c t=>
  by_cases hc:(c == 32)=true
  ·have hs:Zbi 32 (c::t)=(t,true):=if_pos hc
   rw[hs]at h
   simp only[reduceCtorEq,if_false,if_true]at h
   obtain⟨_,h2,h3⟩:=Zpl _ _ _ _ h
   exact⟨h2,by simp[ZdS,h3]⟩
  ·have hs:Zbi 32 (c::t)=(c::t,false):=if_neg hc
   rw[hs]at h
   simp at h
theorem Zkv{l nm ins:List UInt8}{n:Nat}(h:line l=some (nm,ins,n)):ZA nm=true/\(ZbV ins).isSome=true/\TmS (ZcU l)/\(ZcU l).length=n:=by
 cases hc:cut 123 l with
 | none=>rw[Zij hc]at h;cases h
 | some p=>
  obtain⟨x,r⟩:=p
  cases hc2:cut 125 r with
  | none=>rw[Zii hc hc2]at h;cases h
  | some q=>
   obtain⟨y,z⟩:=q
   rw[Zik hc hc2]at h
   split at h
   ·rename_i hb
    rw[Bool.and_eq_true]at hb
    cases hs:Zca z with
    | none=>rw[hs]at h;cases h
    | some k=>
     rw[hs]at h
     simp only[Option.map_some,Option.some.injEq,Prod.mk.injEq]at h
     obtain⟨rfl,rfl,rfl⟩:=h
     have:=Zxi hs
     rw[Zpm hb.1 hc hc2]
     exact⟨hb.1,hb.2,this⟩
   ·cases h
theorem Zxc{w:World}{sa:Option Addr}{sc n:Nat}{l:List (Int×Int)}(h:w.ownsRow 0 358 2 (.slice sa n sc) n (Zb8 l))(hn:l.length=n):SamV w sa l/\n<=sc:=by
 by_cases hz:l=[]
 ·subst hz
  refine⟨Or.inl rfl,?_⟩
  rw[<-hn];exact Nat.zero_le _
 ·have hp:0<n:=by rw[<-hn];exact List.length_pos_iff.2 hz
  rcases h.2 with ⟨_,e⟩|⟨g,cap,cur,e,_,h3,h4,_,_,h7⟩
  ·omega
  ·injection e with e1 _ e3
   subst e1 e3
   refine⟨Or.inr ⟨g,0,rfl,cur,(0,0),h3,fun j hj=>?_⟩,h4⟩
   have hg:=ZsS l j
   rw[List.getElem?_eq_getElem hj]at hg
   have hc : ∀ i, i < n * 2 -> cur[i]? = (Zb8 l)[i]? := fun i hi => by
     rw[<-h7,List.getElem?_take,if_pos hi,Array.getElem?_toList]
   rw[Nat.zero_add,hc _ (by omega),hc _ (by omega)]
   exact hg
theorem Zsx(zs:List Srs)(rs:List (Value×Value×Value×Value))(hl:rs.length=zs.length)(h:∀j (hj:j<zs.length),rs[j]?=some (.string zs[j].nm,.slice zs[j].a zs[j].n zs[j].c,.string zs[j].tx,.slice zs[j].sa zs[j].sams.length zs[j].sc)):encS zs=ZbK rs:=by
 induction zs generalizing rs with
 | nil => cases rs with
   | nil=>rfl
   | cons _ _=>simp at hl
 | cons z zs ih=>
  cases rs with
  | nil=>simp at hl
  | cons r rs=>
   have h0:=h 0 (by simp)
   simp only[List.getElem?_cons_zero,List.getElem_cons_zero,Option.some.injEq]at h0
   subst h0
   rw[ZbK,<-ih rs (by simpa using hl) (fun j hj=>by have:=h (j+1) (by simp;omega);simpa using this)]
   rfl
theorem ZsM(rs:List (Value×Value×Value×Value)):(ZbK rs).length=rs.length*4:=by
 induction rs with
 | nil=>rfl
 | cons r rs ih=>simp only[ZbK,List.length_cons,ih];omega
theorem ZuP{l:List UInt8}{es:List Entry}(h:(Zbp l).1=0)(he:Z8 0 [] (split 10 l)=.inr es):ZeQ [] es=none/\l.length<=6000:=by
 unfold Zbp at h
 split at h
 ·cases h
 ·rename_i h6
  rw[he]at h
  simp only at h
  rw[Zzf he]at h
  cases hd:ZeQ [] es with
  | none=>exact⟨rfl,by omega⟩
  | some i=>rw[hd]at h;cases h
theorem Zhr.sto{w:World}{v:Value}{l:List UInt8}(h0:(Zbp l).1=0)(h:Zhr w v l):∃ss:List Srs,StoP w v ss/\ss.map Srs.ser=Zf6 l/\Dst (ss.map Srs.ser)/\ss.length<=30:=by
 obtain⟨es,rs,h1,h2,h3,h5⟩:=h
 obtain⟨hd,hll⟩:=ZuP h0 h1
 have h7 : ∀ j (hj : j < es.length), (es[j]).count <= 6001 := fun j hj => (Zoi h1 (by simp) (fun p hp => by
   obtain⟨i,hi,rfl⟩:=List.mem_iff_getElem.1 hp
   have:=ZiN 10 l i hi
   rw[List.getD_eq_getElem?_getD,List.getElem?_eq_getElem hi,Option.getD_some]at this
   omega)).2 _ (List.getElem_mem hj)
 have hrl:rs.length=es.length:=by have:=h3.1;rw[ZsM]at this;omega
 have hch := Zmf (fun j (z : Srs) => ∃ hj : j < es.length, rs[j]? = some (.string z.nm, .slice z.a z.n z.c, .string z.tx, .slice z.sa z.sams.length z.sc) /\ z.ser = serE (split 10 l) es[j] /\ SrsOk w z) es.length (fun j hj => by
   obtain⟨nm,a,n,c,tx,sa,sc,e1,⟨ins,qs,g1,g2,g3,g4,g5⟩,e3⟩:=h5 j hj
   rw[e3]at g1
   simp only[Option.some.injEq,Prod.mk.injEq]at g1
   obtain⟨b1,b2,_⟩:=g1
   obtain⟨c1,c2,c3,c4⟩:=Zkv e3
   have hn:n=qs.length:=by obtain⟨_,_,e⟩:=Zv g3.1;injection e
   obtain⟨s1,s2⟩:=Zxc g5 c4
   have hlen:(qs.map blP).length<=6001:=by rw[List.length_map];exact g3.2.1
   refine⟨⟨nm,a,n,c,tx,qs,sa,sc,ZcU ((split 10 l).getD (es[j]).at_ [])⟩,hj,?_,?_,?_⟩
   · show rs[j]?=some (.string nm,.slice a n c,.string tx,.slice sa (ZcU ((split 10 l).getD (es[j]).at_ [])).length sc)
     rw[e1,c4]
   · show(⟨bl nm,qs.map blP,ZcU ((split 10 l).getD (es[j]).at_ [])⟩:Ser)=⟨(es[j]).name,(ZbV (es[j]).inside).getD [],ZcU ((split 10 l).getD (es[j]).at_ [])⟩
     rw[b1,b2,g2];rfl
   · exact⟨⟨by rw[hn];rw[hn]at g3;exact g3,by rw[g4];exact Zkn qs,Zt2 g2 hlen⟩,s1,c3,by show(ZcU _).length<=_;rw[c4];exact h7 j hj,by show(ZcU _).length<=_;rw[c4];exact s2,Zxj _⟩)
 obtain⟨zs,hz1,hz2⟩:=hch
 have hst:Zf6 l=es.map (serE (split 10 l)):=by unfold Zf6;rw[h1]
 have hsr:zs.map Srs.ser=Zf6 l:=by
  rw[hst]
  refine List.ext_getElem (by rw[List.length_map,List.length_map,hz1]) (fun j h1' h2'=>?_)
  rw[List.getElem_map,List.getElem_map]
  exact(hz2 j (by simpa using h1')).2.2.1
 refine⟨zs,⟨?_,fun z hz=>?_,by omega⟩,hsr,?_,by omega⟩
 ·have:=Zsx zs rs (by rw[hrl,hz1]) (fun j hj=>(hz2 j hj).2.1)
  rw[this,hz1];exact h3
 ·obtain⟨j,hj,rfl⟩:=List.mem_iff_getElem.1 hz
  exact(hz2 j hj).2.2.2
 ·rw[hsr,hst]
  unfold Dst
  rw[List.pairwise_map]
  refine List.Pairwise.imp_of_mem ?_ (ZmO es [] hd).1
  intro a b ha hb hne hh
  obtain⟨i,hi,rfl⟩:=List.mem_iff_getElem.1 ha
  obtain⟨k,hk,rfl⟩:=List.mem_iff_getElem.1 hb
  obtain⟨_,_,_,_,_,_,_,_,_,e1⟩:=h5 i hi
  obtain⟨_,_,_,_,_,_,_,_,_,e2⟩:=h5 k hk
  obtain⟨n1,l1,_⟩:=Zkv e1
  obtain⟨n2,l2,_⟩:=Zkv e2
  obtain⟨p1,l1⟩:=Option.isSome_iff_exists.1 l1
  obtain⟨p2,l2⟩:=Option.isSome_iff_exists.1 l2
  refine hne ((ZtM n1 n2).2 ⟨hh.1,?_⟩)
  have hw:=hh.2
  unfold serE at hw
  simp only[l1,l2,Option.getD_some]at hw
  rw[Zqy l1,Zqy l2]at hw
  exact hw
theorem Vars.sents{w:World}{A:Nat->Addr}{m:Int}(h:Vars w A m):Sents w (A 0) (A 1) (A 2) (A 3):=
 ⟨h.sent _ (by decide),h.sent _ (by decide),h.sent _ (by decide),h.sent _ (by decide)⟩
theorem Zcd.cells{w:World}{v:Value}{p:Int}{a:Addr}(h:Zcd w v p a):∃fa:Nat,v=.iface 81 (.pointer (some ⟨fa,0,none⟩))/\w.cell? ⟨fa,1,none⟩=some (.int .i64 p)/\w.cell? ⟨fa,2,none⟩=some (.iface 432 (.pointer (some a))):=by
 obtain⟨fa,h1,h2⟩:=h
 exact⟨fa,h1,by simp[World.cell?,h2],by simp[World.cell?,h2]⟩
def Ze9(w:World)(A:Nat->Addr)(err:Value)(c p:Nat):Prop:=
 (err=.nilIface/\c=0/\p=0)∨
 (err=.iface 432 (.pointer (some (A 0)))/\c=1/\p=0)∨
 (err=.iface 432 (.pointer (some (A 3)))/\c=4/\p=0)∨
 (err=.iface 432 (.pointer (some (A 6)))/\c=7/\p=0)∨
 (err=.iface 432 (.pointer (some (A 7)))/\c=8/\p=0)∨
 (∃fa:Nat,err=.iface 81 (.pointer (some ⟨fa,0,none⟩))/\w.cell? ⟨fa,1,none⟩=some (.int .i64 p)/\
  ((c=2/\w.cell? ⟨fa,2,none⟩=some (.iface 432 (.pointer (some (A 1)))))∨
   (c=3/\w.cell? ⟨fa,2,none⟩=some (.iface 432 (.pointer (some (A 2)))))∨
   (c=5/\w.cell? ⟨fa,2,none⟩=some (.iface 432 (.pointer (some (A 4)))))∨
   (c=6/\w.cell? ⟨fa,2,none⟩=some (.iface 432 (.pointer (some (A 5)))))))
theorem Ze9.rd{w:World}{A:Nat->Addr}{r:Except (Nat×Nat) Tr}{x:Nat×Nat}{pv v:Value}(hr:r=.error x)(h:RdIs w (A 0) (A 1) (A 2) (A 3) r pv v):Ze9 w A v x.1 x.2/\∃ty u,v=.iface ty u:=by
 subst hr
 rcases h with ⟨rfl,rfl⟩|⟨rfl,rfl⟩|⟨hx,he⟩|⟨hx,he⟩
 ·exact⟨Or.inr (Or.inl ⟨rfl,rfl,rfl⟩),_,_,rfl⟩
 ·exact⟨Or.inr (Or.inr (Or.inl ⟨rfl,rfl,rfl⟩)),_,_,rfl⟩
 ·obtain⟨fa,rfl,h1,h2⟩:=he.cells
  exact⟨Or.inr (Or.inr (Or.inr (Or.inr (Or.inr ⟨fa,rfl,h1,Or.inl ⟨hx,h2⟩⟩)))),_,_,rfl⟩
 ·obtain⟨fa,rfl,h1,h2⟩:=he.cells
  exact⟨Or.inr (Or.inr (Or.inr (Or.inr (Or.inr ⟨fa,rfl,h1,Or.inr (Or.inl ⟨hx,h2⟩)⟩)))),_,_,rfl⟩
theorem Ze9.ld{w:World}{A:Nat->Addr}{v:Value}{r:Nat×Nat}(h:Zft w A v r):(r.1=0/\v=.nilIface)∨(r.1≠0/\Ze9 w A v r.1 r.2/\∃ty u,v=.iface ty u):=by
 rcases h with ⟨rfl,rfl⟩|⟨rfl,rfl⟩|⟨rfl,rfl⟩|⟨i,fa,rfl,rfl,h1,h2⟩|⟨i,fa,rfl,rfl,h1,h2⟩
 ·exact Or.inl ⟨rfl,rfl⟩
 ·exact Or.inr ⟨by simp,Or.inr (Or.inl ⟨rfl,rfl,rfl⟩),_,_,rfl⟩
 ·exact Or.inr ⟨by simp,Or.inr (Or.inr (Or.inr (Or.inl ⟨rfl,rfl,rfl⟩))),_,_,rfl⟩
 ·exact Or.inr ⟨by simp,Or.inr (Or.inr (Or.inr (Or.inr (Or.inr ⟨fa,rfl,h1,Or.inr (Or.inr (Or.inl ⟨rfl,h2⟩))⟩)))),_,_,rfl⟩
 ·exact Or.inr ⟨by simp,Or.inr (Or.inr (Or.inr (Or.inr (Or.inr ⟨fa,rfl,h1,Or.inr (Or.inr (Or.inr ⟨rfl,h2⟩))⟩)))),_,_,rfl⟩
theorem Zx1(s:ByteArray)(A:Nat->Addr)(m:Int)(w:World)(hv:Vars w A m)(hs:s.size<=maxLen) :
  Calls Tryz.prog 40 #[.string s] w fun e w'=>∃sv err,e=.returned (.tuple #[sv,err])/\Hid (Zft w' A err (Zbp (bl s)))/\Below w.heap.size w w'/\Hid ((Zbp (bl s)).1=0->Zhr w' sv (bl s)):=by
 by_cases h:s.size<=6000
 ·exact Zw3 s A m w hv h
 ·have e:Zbp (bl s)=(1,0):=by unfold Zbp;rw[if_pos (by rw[Zi];omega)]
  rw[e]
  refine(ZwZ s A m w hv (by omega) hs).mono ?_
  rintro e' w' ⟨v,err,h1,h2,h3⟩
  exact⟨v,err,h1,h2,h3,hid (fun h=>by cases h)⟩
open Go.ChangeMaps (setBlock)
structure BelX (x B:Nat) (w w':World):Prop where
 os:w'.os=w.os
 tape:w'.tape=w.tape
 output:w'.output=w.output
 size:w.heap.size<=w'.heap.size
 block:∀k,k<B->k≠x->w'.heap[k]?=w.heap[k]?
theorem BelX.of{x B:Nat}{w w':World}(h:Below B w w'):BelX x B w w':=⟨h.os,h.tape,h.output,h.size,fun k hk _=>h.block k hk⟩
theorem BelX.trans{x B:Nat}{a b c:World}(h:BelX x B a b)(k:BelX x B b c):BelX x B a c:=⟨k.os.trans h.os,k.tape.trans h.tape,k.output.trans h.output,Nat.le_trans h.size k.size,fun j hj hx=>(k.block j hj hx).trans (h.block j hj hx)⟩
theorem BelX.mono{x B C:Nat}{w w':World}(h:BelX x C w w')(hB:B<=C):BelX x B w w':=⟨h.os,h.tape,h.output,h.size,fun k hk hx=>h.block k (by omega) hx⟩
theorem BelX.below{x B:Nat}{w w':World}(h:BelX x B w w')(hx:B<=x):Below B w w':=⟨h.os,h.tape,h.output,h.size,fun k hk=>h.block k hk (by omega)⟩
theorem BelX.set(x B:Nat)(w:World)(o':Obj):BelX x B w (setBlock w x o'):=⟨rfl,rfl,rfl,by simp[setBlock],fun k _ hx=>by simp[setBlock,Ne.symm hx]⟩
def MapX(w:World)(x:Nat):Prop:=∃es clock,w.heap[x]?=some (.map es clock)
theorem Zs.belX {x : Nat} {w w' : World} (h : BelX x w.heap.size w w') (hm : MapX w x) : Zs w w' := fun b c T fr hb => by
  obtain⟨es,cl,hx⟩:=hm
  refine(h.block b (Array.getElem?_eq_some_iff.1 hb).1 (fun e=>?_)).trans hb
  subst e
  rw[hx]at hb;cases hb
structure GEn where
 a:Option Addr
 n:Nat
 c:Nat
 tx:ByteArray
 qs:List (ByteArray×ByteArray)
 vals:List Int
def GEn.val(g:GEn):Value:=.agg (.slice g.a g.n g.c::.string g.tx::talC g.vals).toArray
def GEn.grp(g:GEn):Grp:=(g.qs.map blP,g.vals)
structure GEnOk (w:World) (g:GEn):Prop where
 lb:LbOk w g.a g.n g.c g.tx g.qs
 vok:∀v∈g.vals,vOk v
theorem GEnOk.keepsC{w w':World}{g:GEn}(h:GEnOk w g)(hk:Zs w w'):GEnOk w' g:=⟨h.lb.keepsC hk,h.vok⟩
structure MapG (w:World) (x:Nat) (gs:List GEn) (es:Array MapEntry) (clock:Nat):Prop where
 heap:w.heap[x]?=some (.map es clock)
 stm:MapKept.Stamped es clock
 kv:es.toList.map (fun e=>(e.key,e.val))=gs.map (fun g=>(Value.string g.tx,g.val))
 sz:∀g∈gs,g.tx.size<=maxLen
theorem MapG.len{w:World}{x:Nat}{gs:List GEn}{es:Array MapEntry}{clock:Nat}(h:MapG w x gs es clock):es.size=gs.length:=by
 have:=congrArg List.length h.kv
 simpa using this
theorem MapG.at{w:World}{x:Nat}{gs:List GEn}{es:Array MapEntry}{clock:Nat}(h:MapG w x gs es clock){j:Nat}{e:MapEntry}(he:es.toList[j]?=some e):∃hj:j<gs.length,e.key=.string gs[j].tx/\e.val=gs[j].val:=by
 have h1:(es.toList.map (fun e=>(e.key,e.val)))[j]?=(gs.map (fun g=>(Value.string g.tx,g.val)))[j]?:=by rw[h.kv]
 rw[List.getElem?_map,he,List.getElem?_map]at h1
 have hj:j<gs.length:=by
  rcases Nat.lt_or_ge j gs.length with h2|h2
  ·exact h2
  ·rw[List.getElem?_eq_none h2]at h1;cases h1
 rw[List.getElem?_eq_getElem hj]at h1
 simp only[Option.map_some,Option.some.injEq,Prod.mk.injEq]at h1
 exact⟨hj,h1.1,h1.2⟩
theorem MapG.keys {w : World} {x : Nat} {gs : List GEn} {es : Array MapEntry} {clock : Nat} (h : MapG w x gs es clock) : ∀ e ∈ es.toList, ∃ l, keyOf Tryz.prog 9 e.key = some l := fun e he => by
  obtain⟨j,hj⟩:=List.getElem?_of_mem he
  obtain⟨hl,h1,_⟩:=h.at hj
  rw[h1]
  exact⟨_,Go.WideMaps.keyOf_string_mk Tryz.underlying9 (h.sz _ (List.getElem_mem hl))⟩
theorem MapG.moved{w w':World}{x:Nat}{gs:List GEn}{es:Array MapEntry}{clock:Nat}(h:MapG w x gs es clock)(hh:w'.heap[x]?=w.heap[x]?):MapG w' x gs es clock:=⟨hh.trans h.heap,h.stm,h.kv,h.sz⟩
def ZAg:Value:=.agg #[.slice none 0 0,.string ByteArray.empty,.int .i64 0,.int .i64 0,.int .i64 0,.int .i64 0,.int .i64 0,.int .i64 0]
theorem MapG.find{w:World}{x:Nat}{gs:List GEn}{es:Array MapEntry}{clock:Nat}(h:MapG w x gs es clock)(k:ByteArray)(hk:k.size<=maxLen) :
  ((∀W:World,(Instr.findKey 9 (.string k) es.toList).run Tryz.prog W=.ok none W)/\(∀g∈gs,g.tx≠k)/\∀e∈es.toList,e.key≠.string k)∨
  ∃j,∃hj:j<gs.length,gs[j].tx=k/\(∀i (hi:i<gs.length),i≠j->gs[i].tx≠k)/\∃e,es.toList[j]?=some e/\e.key=.string k/\e.val=gs[j].val/\∀W:World,(Instr.findKey 9 (.string k) es.toList).run Tryz.prog W=.ok (some (j,e.val)) W:=by
 have K:=Maps.string_keyed (P:=Tryz.prog) (k:=9) Tryz.underlying9
 have hkey:=Go.WideMaps.keyOf_string_mk (P:=Tryz.prog) (k:=9) Tryz.underlying9 hk
 rcases K.find w hkey es.toList h.keys with ⟨h1,h2⟩|⟨j,e,h1,h2,h3⟩
 ·left
  refine⟨fun W=>?_,fun g hg he=>?_,h2⟩
  ·rcases K.find W hkey es.toList h.keys with ⟨k1,_⟩|⟨j,e,k1,k2,k3⟩
   ·exact k1
   ·exact absurd k3 (h2 e (List.mem_of_getElem? k2))
  ·obtain⟨i,hi,rfl⟩:=List.mem_iff_getElem.1 hg
   have hi2:i<es.toList.length:=by rw[Array.length_toList,h.len];exact hi
   obtain⟨_,e1,_⟩:=h.at (List.getElem?_eq_getElem hi2)
   exact h2 _ (List.getElem_mem hi2) (by rw[e1,he])
 ·right
  obtain⟨hj,e1,e2⟩:=h.at h2
  rw[h3]at e1
  have htx:gs[j].tx=k:=(Value.string.inj e1).symm
  have hnd:=h.stm.2.2
  have huniq : ∀ i (hi : i < gs.length), i ≠ j -> gs[i].tx ≠ k := fun i hi hij he => by
    have hi2:i<es.toList.length:=by rw[Array.length_toList,h.len];exact hi
    have hj2:j<es.toList.length:=(List.getElem?_eq_some_iff.1 h2).1
    obtain⟨_,f1,_⟩:=h.at (List.getElem?_eq_getElem hi2)
    have e3:es.toList[j]=e:=Option.some.inj ((List.getElem?_eq_getElem hj2).symm.trans h2)
    rw[List.Nodup,List.pairwise_map,List.pairwise_iff_getElem]at hnd
    rcases Nat.lt_or_ge i j with h4|h4
    · exact hnd i j hi2 hj2 h4 (by rw[f1,he,e3,h3])
    · exact hnd j i hj2 hi2 (by omega) (by rw[f1,he,e3,h3])
  refine⟨j,hj,htx,huniq,e,h2,h3,e2,fun W=>?_⟩
  rcases K.find W hkey es.toList h.keys with ⟨_,k2⟩|⟨j',e',k1,k2,k3⟩
  ·exact absurd h3 (k2 e (List.mem_of_getElem? h2))
  ·obtain⟨hj',f1,f2⟩:=h.at k2
   rw[k3]at f1
   have:j'=j:=by
    refine Classical.byContradiction fun hne=>huniq j' hj' hne ?_
    exact(Value.string.inj f1).symm
   subst this
   rw[h2]at k2
   have k4:=Option.some.inj k2
   subst k4
   exact k1
theorem ZuS{w:World}{x:Nat}{gs:List GEn}{es:Array MapEntry}{clock:Nat}(h:MapG w x gs es clock){k:ByteArray}(hk:k.size<=maxLen)(hf:∀W:World,(Instr.findKey 9 (.string k) es.toList).run Tryz.prog W=.ok none W)(W:World)(hW:W.heap[x]?=w.heap[x]?) :
  (Instr.lookup 279 (.map (some x)) (.string k) false).run Tryz.prog W=.ok ZAg W:=by
 have K:=Maps.string_keyed (P:=Tryz.prog) (k:=9) Tryz.underlying9
 have hkey:=Go.WideMaps.keyOf_string_mk (P:=Tryz.prog) (k:=9) Tryz.underlying9 hk
 simp[Instr.lookup,run_underlying Tryz.underlying279,MapKept.run_getObj_map (hW.trans h.heap),K.check W _ hkey,hf W,Result.andThen]
 rfl
theorem ZuR{w:World}{x:Nat}{gs:List GEn}{es:Array MapEntry}{clock:Nat}(h:MapG w x gs es clock){k:ByteArray}(hk:k.size<=maxLen){j:Nat}{v:Value}(hf:∀W:World,(Instr.findKey 9 (.string k) es.toList).run Tryz.prog W=.ok (some (j,v)) W)(W:World)(hW:W.heap[x]?=w.heap[x]?) :
  (Instr.lookup 279 (.map (some x)) (.string k) false).run Tryz.prog W=.ok v W:=by
 have K:=Maps.string_keyed (P:=Tryz.prog) (k:=9) Tryz.underlying9
 have hkey:=Go.WideMaps.keyOf_string_mk (P:=Tryz.prog) (k:=9) Tryz.underlying9 hk
 simp[Instr.lookup,run_underlying Tryz.underlying279,MapKept.run_getObj_map (hW.trans h.heap),K.check W _ hkey,hf W,Result.andThen]
theorem Zzp{w:World}{x:Nat}{gs:List GEn}{es:Array MapEntry}{clock:Nat}(h:MapG w x gs es clock){k:ByteArray}(hk:k.size<=maxLen)(hf:∀W:World,(Instr.findKey 9 (.string k) es.toList).run Tryz.prog W=.ok none W)(v:Value)(W:World)(hW:W.heap[x]?=w.heap[x]?) :
  (Instr.mapUpdate 279 (.map (some x)) (.string k) v).run Tryz.prog W=.ok () (setBlock W x (.map (es.push ⟨.string k,v,clock⟩) (clock+1))):=by
 have K:=Maps.string_keyed (P:=Tryz.prog) (k:=9) Tryz.underlying9
 have hkey:=Go.WideMaps.keyOf_string_mk (P:=Tryz.prog) (k:=9) Tryz.underlying9 hk
 simp[Instr.mapUpdate,run_underlying Tryz.underlying279,MapKept.run_getObj_map (hW.trans h.heap),K.check W false hkey,hf W,MapKept.run_setObj_map _ (hW.trans h.heap),Result.andThen,setBlock]
theorem Zzo{w:World}{x:Nat}{gs:List GEn}{es:Array MapEntry}{clock:Nat}(h:MapG w x gs es clock){k:ByteArray}(hk:k.size<=maxLen){j:Nat}{e:MapEntry}(he:es.toList[j]?=some e)(hek:e.key=.string k){u:Value}(hf:∀W:World,(Instr.findKey 9 (.string k) es.toList).run Tryz.prog W=.ok (some (j,u)) W)(v:Value)(W:World)(hW:W.heap[x]?=w.heap[x]?) :
  (Instr.mapUpdate 279 (.map (some x)) (.string k) v).run Tryz.prog W=.ok () (setBlock W x (.map (es.modify j fun e=>{ e with key:=.string k,val:=v }) clock)):=by
 have K:=Maps.string_keyed (P:=Tryz.prog) (k:=9) Tryz.underlying9
 have hkey:=Go.WideMaps.keyOf_string_mk (P:=Tryz.prog) (k:=9) Tryz.underlying9 hk
 have hk2:((es[j]?).map (·.key)).getD (.string k)=.string k:=by
  rw[<-Array.getElem?_toList,he];exact hek
 simp[Instr.mapUpdate,run_underlying Tryz.underlying279,MapKept.run_getObj_map (hW.trans h.heap),K.check W false hkey,hf W,hk2,K.stays W hkey,MapKept.run_setObj_map _ (hW.trans h.heap),Result.andThen,setBlock]
end Go.Proofs.YtcdgkkfipdoeeaaGreatDoor

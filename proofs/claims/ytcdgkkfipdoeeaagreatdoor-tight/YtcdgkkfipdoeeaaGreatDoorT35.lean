/- Parts. -/
import Derived.Test.YtcdgkkfipdoeeaaGreatDoorT34
set_option maxRecDepth 100000
set_option maxHeartbeats 4000000
namespace Go.Proofs.YtcdgkkfipdoeeaaGreatDoor
open Go.RowKit LS
section
variable {nodes nodes':List Nq} {g g' g1:Gq} {z:Nq} {i j k n x y:Nat}
theorem ZhT{z:Nq} : ∀ {l:List Nq} {i:Nat},idxN z l=some i->l.getD i nq0=z
 | [],_,h=>by cases h
 | y :: l, i, h => by
   unfold idxN at h
   split at h
   · injection h with h;subst h;assumption
   · rw[Option.map_eq_some_iff]at h
     obtain⟨j,h1,h2⟩:=h
     subst h2
     rw[List.getD_cons_succ]
     exact ZhT h1
theorem ZbF(h:nodes <+: nodes')(hn:n<nodes.length):nodes'.getD n nq0=nodes.getD n nq0:=by
 obtain⟨t,rfl⟩:=h
 rw[List.getD_eq_getElem?_getD,List.getD_eq_getElem?_getD,List.getElem?_append_left hn]
theorem ZjJ(hok:NOk nodes)(h:nodes <+: nodes'):∀(f n:Nat),n<nodes.length->Zb7 nodes' f n=Zb7 nodes f n
 | 0,_,_=>rfl
 | f + 1, n, hn => by
   unfold Zb7
   rw[ZbF h hn,List.map_congr_left (fun t ht=>ZjJ hok h f t (by have:=Zbj hok n t ht;omega))]
structure PB (g g':Gq) (i k:Nat):Prop where
 ok:NOk g'.nodes
 pre:g.nodes <+: g'.nodes
 lt:i<g'.nodes.length
 co:Zb7 g'.nodes (i+1) i<=k
theorem PB.mono(h:PB g g' i k)(hk:k<=j):PB g g' i j:=⟨h.ok,h.pre,h.lt,Nat.le_trans h.co hk⟩
theorem PB.after(h:PB g1 g' i k)(hp:g.nodes <+: g1.nodes):PB g g' i k:=⟨h.ok,hp.trans h.pre,h.lt,h.co⟩
theorem NOk.app (hok : NOk nodes) (hz : NOne nodes.length z) : NOk (nodes ++ [z]) := fun i hi => by
  rw[List.getElem_append]
  split
  · rename_i h;exact hok i h
  · rename_i h
    have:i=nodes.length:=by rw[List.length_append]at hi;simp at hi;omega
    subst this
    simpa using hz
theorem ZeK (hok : NOk g.nodes) (hz : NOne g.nodes.length z) : PB g (addQ z g).2 (addQ z g).1 (4 + ((Zg z).map (fun t => Zb7 g.nodes (t + 1) t)).sum) := by
  by_cases h:g.share=true/\∃i,idxN z g.nodes=some i
  · obtain⟨h1,i,h2⟩:=h
    rw[Zfc h1 h2]
    exact⟨hok,List.prefix_refl _,Zka h2,by rw[ZhE hok,ZhT h2];exact Nat.le_refl _⟩
  · have h1 : g.share = true -> idxN z g.nodes = none := fun h1 => by
      cases hi:idxN z g.nodes with
      | none=>rfl
      | some i=>exact absurd ⟨h1,i,hi⟩ h
    rw[Zfb h1]
    have hok':=hok.app hz
    have hp:g.nodes <+: g.nodes++[z]:=List.prefix_append _ _
    refine⟨hok',hp,by simp,?_⟩
    show Zb7 (g.nodes++[z]) (g.nodes.length+1) g.nodes.length<=_
    rw[ZhE hok',show(g.nodes++[z]).getD g.nodes.length nq0=z by simp,List.map_congr_left (fun t ht=>ZjJ hok hp (t+1) t (hz.low t ht))]
    exact Nat.le_refl _
theorem ZjI(hok:NOk g.nodes){v:Int}(hv:vOk v):PB g (Zcf v g).2 (Zcf v g).1 4:=ZeK hok (ZoN hv _)
theorem ZnV(hok:NOk g.nodes){v:Int}(hn:n<g.nodes.length)(h:Zbh n g=some v):vOk v:=by
 rw[Zh9 h];exact hok.vok hn
theorem Zvk(hok:NOk g.nodes)(hn:n<g.nodes.length):PB g (negQ n g).2 (negQ n g).1 (4+Zb7 g.nodes (n+1) n):=by
 unfold negQ
 split
 ·rename_i v hv
  have:=ZnV hok hn hv
  exact(ZjI hok ⟨by have:=this.2;omega,by have:=this.1;omega⟩).mono (by omega)
 ·have h:=ZeK (z:=⟨4,0,some n,none⟩) hok (ZfR (by decide) hn (by decide) (by decide))
  simpa [Zg] using h
theorem Zv6(hok:NOk g.nodes)(hx:x<g.nodes.length)(hy:y<g.nodes.length){o:Nat}(ho:o<=4):PB g (Z0 o x y g).2 (Z0 o x y g).1 (4+(Zb7 g.nodes (x+1) x+Zb7 g.nodes (y+1) y)):=by
 unfold Z0
 split
 ·rename_i u v hu hv
  exact(ZjI hok (Zhn o u v (ZnV hok hx hu))).mono (by omega)
 ·have h:=ZeK (z:=⟨3,o,some x,some y⟩) hok (Zg6 (by decide) hx hy (by omega) (by omega))
  simpa [Zg] using h
theorem ZoZ(hok:NOk g.nodes)(hs:g.sels.length<=1000000)(q:Nd×Nat):PB g (Zx q g).2 (Zx q g).1 4:=by
 unfold Zx
 split
 ·rename_i i hi
  have hil:=ZhU hi
  rw[List.length_map]at hil
  exact ZeK hok (Zio (by decide) (by omega) (by omega))
 ·have h:=ZeK (g:={ g with sels:=g.sels++[q] }) (z:=⟨1,(g.sels.length:Nat),none,none⟩) hok (Zio (by decide) (by omega) (by omega))
  exact⟨h.ok,h.pre,h.lt,h.co⟩
theorem Zfq:∀(t:Tr) (g:Gq),wfT t->isNil t=false->NOk g.nodes->g.sels.length+wT t<=400000->g.grps.length+wT t<=400000->PB g (Zb t g).2 (Zb t g).1 (wT t / 3)
 | .nil,_,_,h,_,_,_=>by cases h
 | .node px py a l r, g, hw, _, hok, hs, hg => by
   have hw0:=hw
   obtain⟨h1,h2,h3,h4,h5,h6,h7,h8,h9,h10,hl,hr⟩:=hw
   have hge:=Ziq a
   have hwe:wT (.node px py a l r)=ownW a+wT l+wT r:=rfl
   rw[hwe]at hs hg ⊢
   have ihl:=Zfq l
   have ihr:=Zfq r
   unfold Zb
   split
   · exact(ZjI hok ⟨by omega,h6⟩).mono (by omega)
   · rename_i k0
     split
     · exact(ZoZ hok (by omega) _).mono (by omega)
     · rename_i k1
       split
       · have p:=ZoZ hok (by omega) (ZbJ a,a.n.toNat)
         have q:=ZeK (z:=⟨2,a.op,some (Zx (ZbJ a,a.n.toNat) g).1,none⟩) p.ok (ZfR (by decide) p.lt (by omega) (by omega))
         have q':=q.after p.pre
         have pc:=p.co
         simp only[Zg,List.map_cons,List.map_nil,List.sum_cons,List.sum_nil]at q'
         exact q'.mono (by omega)
       · rename_i k2
         have hln:=h7 (by omega)
         have L:=ihl g hl hln hok (by omega) (by omega)
         have Lc:=L.co
         have Ls:=(Zch l g hl).1
         split
         · exact((Zvk L.ok L.lt).after L.pre).mono (by omega)
         · rename_i k3
           split
           · rename_i k5
             have hgl:=ZgU a.by_ (Zb l g).2
             have gn:=hgl.2.2
             have gi:=hgl.2.1
             have Lr:=Ls.r1
             have h45:=h4 k5
             have q:=ZeK (g:=(ZZ a.by_ (Zb l g).2).2) (z:=⟨5+a.op,(ZZ a.by_ (Zb l g).2).1,some (Zb l g).1,none⟩) (by rw[gn];exact L.ok) (ZfR (by omega) (by rw[gn];exact L.lt) (by omega) (by omega))
             have q':=q.after (g:=g) (by rw[gn];exact L.pre)
             simp only[Zg,List.map_cons,List.map_nil,List.sum_cons,List.sum_nil,gn]at q'
             exact q'.mono (by omega)
           · rename_i k5
             have hrn:=h8 (by omega)
             have R:=ihr (Zb l g).2 hr hrn L.ok (by have:=Ls.s1;omega) (by have:=Ls.r1;omega)
             have Rc:=R.co
             have hll:(Zb l g).1<(Zb r (Zb l g).2).2.nodes.length:=Nat.lt_of_lt_of_le L.lt R.pre.length_le
             have hc:=ZjJ L.ok R.pre ((Zb l g).1+1) (Zb l g).1 L.lt
             have hpre:=L.pre.trans R.pre
             simp only
             split
             · have q:=(ZeK (z:=⟨10,0,some (Zb l g).1,some (Zb r (Zb l g).2).1⟩) R.ok (Zg6 (by decide) hll R.lt (by decide) (by decide))).after hpre
               simp only[Zg,List.map_cons,List.map_nil,List.sum_cons,List.sum_nil]at q
               exact q.mono (by omega)
             · exact((Zv6 R.ok hll R.lt h2).after hpre).mono (by omega)
def CI(c:Cq):Prop:=c.consts.length<=c.ins.length
variable {W:Nat->Cq->Cq} {c:Cq}
theorem Zff(h:CI c)(op arg:Nat):CI (Zh op arg c):=by unfold CI at *;simp[Zh];omega
theorem Zmi(h:CI c)(n s:Nat):CI (ZT n s c):=Zff h 12 s
theorem ZgI(hW:∀z c,CI c->CI (W z c))(h:CI c):CI (putQ nodes W n c):=by
 cases hs:ZF n c.slots with
 | some s=>
  rw[ZdP hs]
  split
  ·exact Zff (c:=decL n c) h 13 s
  ·exact Zff (c:=decL n c) h 13 s
 | none=>
  rw[Zci hs]
  have h1:=hW n (decL n c) h
  split
  ·exact h1
  ·split
   ·exact Zff (Zmi h1 _ _) 13 _
   ·exact h1
theorem Zmg(hW:∀z c,CI c->CI (W z c)):∀(k:Nat) (c:Cq),CI c->CI (ZP nodes W n k c)
 | 0,c,h=>h
 | k + 1, c, h => by
   unfold ZP
   split
   · rename_i z s _ _
     exact Zmg hW k _ (Zmi (hW z { c with slots:=c.slots.set s (some (-1)) } h) z s)
   · exact h
theorem ZrD(hW:∀z c,CI c->CI (W z c))(h:CI c):CI (Zbl nodes W x y c):=by
 have h1:=ZgI (nodes:=nodes) (n:=y) hW (Zff (Zff (ZgI (nodes:=nodes) (n:=x) hW (Zmg (nodes:=nodes) (n:=y) hW (y+2) c h)) 10 0) 11 0)
 unfold Zbl CI
 simp only[List.length_set]
 exact h1
theorem Zmh (hW : ∀ z c, CI c -> CI (W z c)) : ∀ (ts : List Nat) (c : Cq), CI c -> CI (ts.foldl (fun c t => putQ nodes W t c) c)
  | [],c,h=>h
  | t::ts,c,h=>by rw[List.foldl_cons];exact Zmh hW ts _ (ZgI hW h)
theorem ZjA:∀(f n:Nat) (c:Cq),CI c->CI (Zn nodes f n c)
 | 0,n,c,h=>h
 | f + 1, n, c, h => by
   have hW:=fun z c=>ZjA f z c
   unfold Zn
   simp only
   split
   · exact ZrD hW h
   · have h1:=Zmh (nodes:=nodes) hW (Zg (nodes.getD n nq0)) c h
     generalize(Zg (nodes.getD n nq0)).foldl (fun c t=>putQ nodes (Zn nodes f) t c) c=e at *
     unfold ZbN
     split
     · unfold CI at *;simp[Zh];omega
     · exact Zff h1 _ _
theorem Zmr{t:Tr}(hw:wfT t)(hn:isNil t=false)(ht:wT t<=100000)(fl:Nat):(ZJ (Zb t (g0 fl)).2 (Zb t (g0 fl)).1).ins.length<=wT t / 3:=by
 have h:=Zfq t (g0 fl) hw hn (fun i hi=>absurd hi (Nat.not_lt_zero _)) (by show 0+wT t<=_;omega) (by show 0+wT t<=_;omega)
 exact Nat.le_trans (ZrU h.ok h.lt) h.co
theorem ZrS{t:Tr}(hw:wfT t)(hn:isNil t=false)(ht:wT t<=100000)(fl:Nat):Sml (ZJ (Zb t (g0 fl)).2 (Zb t (g0 fl)).1):=by
 have h:=Zmr hw hn ht fl
 have h1:CI (ZJ (Zb t (g0 fl)).2 (Zb t (g0 fl)).1):=ZgI (fun z c h=>ZjA _ z c h) (Nat.le_refl _)
 unfold CI at h1
 exact⟨by omega,by omega⟩
end
end Go.Proofs.YtcdgkkfipdoeeaaGreatDoor
namespace Go.Proofs.YtcdgkkfipdoeeaaGreatDoor
open Go.RowKit LS
theorem ZxR (q : List UInt8) : Zi4 q := fun t k h _ => by
  obtain⟨hwf,hnil,hwt⟩:=Zdz h
  exact ZrS hwf hnil hwt k
theorem ZjE(s:ByteArray)(fl:Int)(A:Nat->Addr)(m:Int)(w:World)(hv:Vars w A m)(ht:Zu w)(hB:20<=w.heap.size)(hlim:s.size<=9223372036854775807) :
  Calls Tryz.prog 8 #[.string s,.int .i64 fl] w fun e w'=>∃(r:ByteArray) (c p:Nat),e=.returned (.tuple #[.string r,.int .i64 c,.int .i64 p])/\Hid (Zbe (bl s) fl=(bl r,c,p))/\Below w.heap.size w w':=Zs3 s fl A m w hv ht hB hlim (ZxR _)
section
variable {nodes:List Nq} {W:Nat->Cq->Cq} {c d e:Cq} {n m x y:Nat} {l:List (Nat×Nat)}
abbrev opOk (n:Nat):Prop:=n≠9/\n<=13
structure Fwd (c d:Cq):Prop where
 pre:Pre c d
 fw:∀i,c.ins.length<=i->i<d.ins.length->opOk (d.ins.getD i (0,0)).1/\((d.ins.getD i (0,0)).1=10->i<(d.ins.getD i (0,0)).2)
theorem Zla(h:Pre c d){i:Nat}(hi:i<c.ins.length):d.ins.getD i (0,0)=c.ins.getD i (0,0):=by
 obtain⟨t,ht⟩:=h
 rw[List.getD_eq_getElem?_getD,List.getD_eq_getElem?_getD,<-ht,List.getElem?_append_left hi]
theorem Fwd.refl(c:Cq):Fwd c c:=⟨Pre.refl c,fun i h1 h2=>absurd h2 (by omega)⟩
theorem Fwd.trans (h : Fwd c d) (q : Fwd d e) : Fwd c e := ⟨h.pre.trans q.pre, fun i h1 h2 => by
  rcases Nat.lt_or_ge i d.ins.length with h3|h3
  · rw[Zla q.pre h3];exact h.fw i h1 h3
  · exact q.fw i h3 h2⟩
theorem Fwd.emit (c : Cq) {op : Nat} (arg : Nat) (h : opOk op /\ op ≠ 10) : Fwd c (Zh op arg c) := ⟨Zd8 op arg c, fun i h1 h2 => by
  have:i=c.ins.length:=by simp[Zh]at h2;omega
  subst this
  have e:(Zh op arg c).ins.getD c.ins.length (0,0)=(op,arg):=by simp[Zh]
  rw[e]
  exact⟨h.1,fun h1=>absurd h1 h.2⟩⟩
theorem Fwd.keep(c:Cq)(n s:Nat):Fwd c (ZT n s c):=by
 have:=Fwd.emit c (op:=12) s (by decide)
 exact⟨this.pre,this.fw⟩
theorem ZhN(hW:∀c,Fwd c (W n c))(c:Cq):Fwd c (putQ nodes W n c):=by
 cases hs:ZF n c.slots with
 | some s=>
  rw[ZdP hs]
  have h:=Fwd.emit (decL n c) (op:=13) s (by decide)
  split
  ·exact⟨h.pre,h.fw⟩
  ·exact⟨h.pre,h.fw⟩
 | none=>
  rw[Zci hs]
  have h1:Fwd c (W n (decL n c)):=⟨(hW (decL n c)).pre,(hW (decL n c)).fw⟩
  split
  ·exact h1
  ·split
   ·exact h1.trans ((Fwd.keep _ _ _).trans (Fwd.emit _ _ (by decide)))
   ·exact h1
theorem Znj(hW:∀z c,Fwd c (W z c)):∀(k:Nat) (c:Cq),Fwd c (ZP nodes W n k c)
 | 0,c=>Fwd.refl _
 | k + 1, c => by
   unfold ZP
   split
   · rename_i z s _ _
     have h:=hW z { c with slots:=c.slots.set s (some (-1)) }
     exact((⟨h.pre,h.fw⟩:Fwd c _).trans (Fwd.keep _ z s)).trans (Znj hW k _)
   · exact Fwd.refl _
theorem Zs2(hW:∀z c,Fwd c (W z c)):Fwd c (Zbl nodes W x y c):=by
 have hp:=ZmP (nodes:=nodes) (c:=c) (x:=x) (y:=y) (fun z c=>(hW z c).pre)
 refine⟨hp,fun i h1 h2=>?_⟩
 unfold Zbl at h2 ⊢
 simp only at h2 ⊢
 have f1:=(Znj (nodes:=nodes) (n:=y) hW (y+2) c).trans (ZhN (nodes:=nodes) (n:=x) (hW x) _)
 generalize putQ nodes W x (ZP nodes W y (y+2) c)=c2 at *
 have f2:=ZhN (nodes:=nodes) (n:=y) (hW y) (Zh 11 0 (Zh 10 0 c2))
 have hl3:(Zh 11 0 (Zh 10 0 c2)).ins.length=c2.ins.length+2:=by simp[Zh]
 have hm:(Zh 11 0 (Zh 10 0 c2)).ins.getD (c2.ins.length+1) (0,0)=(11,0):=by simp[Zh]
 have hp2:Pre c2 (Zh 11 0 (Zh 10 0 c2)):=(Zd8 10 0 c2).trans (Zd8 11 0 _)
 generalize Zh 11 0 (Zh 10 0 c2)=c3 at *
 generalize putQ nodes W y c3=d at *
 have hld:=f2.pre.length_le
 rw[List.length_set]at h2
 have hg : ∀ i, (d.ins.set c2.ins.length (10, d.ins.length)).getD i (0, 0) = if i = c2.ins.length then (10, d.ins.length) else d.ins.getD i (0, 0) := fun i => by
   rw[List.getD_eq_getElem?_getD,List.getElem?_set]
   by_cases e:i=c2.ins.length
   · subst e;rw[if_pos rfl,if_pos rfl,if_pos (by omega)];rfl
   · rw[if_neg (fun h=>e h.symm),if_neg e,List.getD_eq_getElem?_getD]
 rw[hg]
 by_cases e:i=c2.ins.length
 ·rw[if_pos e];exact⟨by show opOk 10;decide,fun _=>by show i<d.ins.length;exact h2⟩
 ·rw[if_neg e]
  rcases Nat.lt_or_ge i c3.ins.length with h3|h3
  ·rw[Zla f2.pre h3]
   rcases Nat.lt_or_ge i c2.ins.length with h4|h4
   ·rw[Zla hp2 h4];exact f1.fw i h1 h4
   ·obtain rfl:i=c2.ins.length+1:=by omega
    rw[hm];exact⟨by decide,fun h=>absurd h (by decide)⟩
  ·exact f2.fw i h3 h2
theorem Znk (hW : ∀ z c, Fwd c (W z c)) : ∀ (ts : List Nat) (c : Cq), Fwd c (ts.foldl (fun c t => putQ nodes W t c) c)
  | [],c=>Fwd.refl _
  | t::ts,c=>by rw[List.foldl_cons];exact(ZhN (hW t) c).trans (Znk hW ts _)
theorem Znl(h9:∀n,opOk (nodes.getD n nq0).op):∀(f n:Nat) (c:Cq),Fwd c (Zn nodes f n c)
 | 0,n,c=>Fwd.refl _
 | f + 1, n, c => by
   have hW:=fun z c=>Znl h9 f z c
   by_cases h10:(nodes.getD n nq0).op=10
   · unfold Zn;simp only;rw[if_pos h10];exact Zs2 hW
   · rw[Zdf h10]
     refine(Znk (nodes:=nodes) hW (Zg (nodes.getD n nq0)) c).trans ?_
     generalize(Zg (nodes.getD n nq0)).foldl (fun c t=>putQ nodes (Zn nodes f) t c) c=e at *
     unfold ZbN
     split
     · have:=Fwd.emit { e with consts:=e.consts++[(nodes.getD n nq0).arg] } (op:=0) e.consts.length (by decide)
       exact⟨this.pre,this.fw⟩
     · exact Fwd.emit e _ ⟨h9 n,h10⟩
def Led(l:List (Nat×Nat))(i:Nat):Prop:=∀j,i<=j->j<l.length->(l.getD j (0,0)).1=10->(l.getD j (0,0)).2<l.length->(l.getD (l.getD j (0,0)).2 (0,0)).1≠10
def FwL(l:List (Nat×Nat)):Prop:=∀j,j<l.length->(l.getD j (0,0)).1=10->j<(l.getD j (0,0)).2
theorem Zt9(hf:FwL l){i:Nat}(hi:i<l.length)(h:Led l (i+1)):FwL (Zcv l i)/\Led (Zcv l i) i/\(Zcv l i).length=l.length/\∀j,((Zcv l i).getD j (0,0)).1=(l.getD j (0,0)).1:=by
 unfold Zcv
 split
 ·rename_i hc
  obtain⟨h1,h2,h3⟩:=hc
  have f1:=hf i hi h1
  have f2:=hf _ h2 h3
  have hL:=h _ f1 h2 h3
  generalize hu:(l.getD i (0,0)).2=u at *
  generalize hv:(l.getD u (0,0)).2=v at *
  have hg : ∀ j, (l.set i (10, v)).getD j (0, 0) = if j = i then (10, v) else l.getD j (0, 0) := fun j => by
    rw[List.getD_eq_getElem?_getD,List.getElem?_set]
    by_cases e:j=i
    · subst e;rw[if_pos rfl,if_pos rfl,if_pos hi];rfl
    · rw[if_neg (fun h=>e h.symm),if_neg e,List.getD_eq_getElem?_getD]
  have ho : ∀ j, ((l.set i (10, v)).getD j (0, 0)).1 = (l.getD j (0, 0)).1 := fun j => by
    rw[hg];split
    · rename_i e;rw[e,h1]
    · rfl
  refine⟨fun j h4 h5=>?_,fun j h4 h5 h6 h7=>?_,List.length_set ..,ho⟩
  ·rw[hg]
   rw[ho]at h5
   rw[List.length_set]at h4
   split
   ·rename_i e;show j<v;omega
   ·exact hf j h4 h5
  ·rw[ho]at h6
   rw[List.length_set]at h5 h7
   rw[ho,hg]
   rw[hg]at h7
   split
   ·rename_i e;rw[if_pos e]at h7;exact hL h7
   ·rename_i e;rw[if_neg e]at h7;exact h j (by omega) h5 h6 h7
 ·rename_i hc
  refine⟨hf,fun j h4 h5 h6 h7 h8=>?_,rfl,fun _=>rfl⟩
  rcases Nat.lt_or_ge i j with h9|h9
  ·exact h j h9 h5 h6 h7 h8
  ·obtain rfl:j=i:=by omega
   exact hc ⟨h6,h7,h8⟩
theorem Zn9:∀(k:Nat) (l:List (Nat×Nat)),k<=l.length->FwL l->Led l k->Led (ZdC k l) 0/\(ZdC k l).length=l.length/\∀j,((ZdC k l).getD j (0,0)).1=(l.getD j (0,0)).1
 | 0,l,_,_,h=>⟨h,rfl,fun _=>rfl⟩
 | k + 1, l, hk, hf, h => by
   obtain⟨h1,h2,h3,h4⟩:=Zt9 hf (by omega) h
   obtain⟨q1,q2,q3⟩:=Zn9 k (Zcv l k) (by omega) h1 h2
   exact⟨q1,q2.trans h3,fun j=>(q3 j).trans (h4 j)⟩
theorem Zys(hf:FwL l):Led (ZbR l) 0/\(ZbR l).length=l.length/\∀j,((ZbR l).getD j (0,0)).1=(l.getD j (0,0)).1:=Zn9 l.length l (Nat.le_refl _) hf (fun j h1 h2=>absurd h2 (by omega))
end
end Go.Proofs.YtcdgkkfipdoeeaaGreatDoor
namespace Go.Proofs.YtcdgkkfipdoeeaaGreatDoor.LS
open Go Go.RowKit
def two2(l:List UInt8)(i:Nat):Nat:=256*(l.getD i 0).toNat+(l.getD (i+1) 0).toNat
def atQ(l:List UInt8):Nat->Nat->Option Nat
 | 0,p=>some p
 | k+1,p=>if l.length<p+2 then none else atQ l k (p+2+two2 l p)
def ZbM(l:List UInt8):Option (Nat×Nat):=if l.length<9 then none else match atQ l (two2 l 3+two2 l 5) (9+4*two2 l 1)with
 | none=>none
 | some p=>if p+3*two2 l 7+4=l.length then some (two2 l 7,p)else none
end Go.Proofs.YtcdgkkfipdoeeaaGreatDoor.LS
namespace Go.Proofs.YtcdgkkfipdoeeaaGreatDoor
open Go.RowKit LS
theorem Zga(l:List UInt8)(i:Nat):two2 l i<65536:=by
 have h1:=(l.getD i 0).toNat_lt
 have h2:=(l.getD (i+1) 0).toNat_lt
 unfold two2;omega
theorem ZfH(s:ByteArray)(i:Nat)(h:i<s.size)(W:World):(Instr.index 9 (.string s) (.int .i64 i)).run Tryz.prog W=.ok (.int .u8 (((bl s).getD i 0).toNat:Nat)) W:=by
 rw[run_index_string W _ s .i64 i Tryz.underlying9,dif_pos ⟨by omega,by omega⟩]
 have h2:i<s.data.size:=h
 simp[bl]
 rw[Array.getElem?_eq_getElem h2]
 rfl
theorem Zp0(s:ByteArray)(i:Nat)(h:i+1<s.size)(hs:s.size<=9223372036854775807)(w:World) :
  Calls Tryz.prog 25 #[.string s,.int .i64 i] w fun e w'=>e=.returned (.int .i64 (two2 (bl s) i:Nat))/\Below w.heap.size w w':=by
 have i0:=ZfH s i (by omega)
 have i1:=ZfH s (i+1) h
 have HT:Hid (two2 (bl s) i=256*((bl s).getD i 0).toNat+((bl s).getD (i+1) 0).toNat):=hid rfl
 have h1:=((bl s).getD i 0).toNat_lt
 have h2:=((bl s).getD (i+1) 0).toNat_lt
 rw[show((i+1:Nat):Int)=(i:Int)+1 by omega]at i1
 generalize((bl s).getD i 0).toNat=x at *
 generalize((bl s).getD (i+1) 0).toNat=y at *
 have w1:IntKind.i64.wrap (256*(x:Int))=256*(x:Int):=by rw[IntKind.wrap_i64];omega
 have w2:IntKind.i64.wrap ((i:Int)+1)=(i:Int)+1:=by rw[IntKind.wrap_i64];omega
 have w3:IntKind.i64.wrap (256*(x:Int)+y)=256*(x:Int)+y:=by rw[IntKind.wrap_i64];omega
 have w4:IntKind.i64.wrap (x:Int)=x:=by rw[IntKind.wrap_i64];omega
 have w5:IntKind.i64.wrap (y:Int)=y:=by rw[IntKind.wrap_i64];omega
 go_enter Tryz.func25,Tryz.ntmps25
 go_upto_region 1 with fail
 refine Zcm 11 (fun _=>True) (by kernel_rfl) trivial (fun hHeld=>?_)
 refine Zd 0 hHeld (h:=?_)
 refine Zd 1 hHeld (h:=?_)
 refine Zd 2 hHeld (h:=?_)
 refine Zd 3 hHeld (h:=?_)
 refine Zd 4 hHeld (h:=?_)
 refine Zd 5 hHeld (h:=?_)
 refine Zd 6 hHeld (h:=?_)
 refine Zd 7 hHeld (h:=?_)
 refine Zd 8 hHeld (h:=?_)
 refine Zd 9 hHeld (h:=?_)
 refine Zd 10 hHeld (h:=?_)
 refine Zcq (by kernel_rfl) (by kernel_rfl) rfl (by kernel_rfl) (fun K hK=>?_)
 go_simp
 refine hK.out _ _ ?_
 clear hK K hHeld
 go_wp2
 go_ret
 exact⟨by rw[HT.out];congr 2,(Below.refl _ _).drew⟩
def ZqN(l:List UInt8)(n:Int)(p:Nat):Prop:=(ZbM l=none/\n=-1/\p=0)∨∃q,ZbM l=some q/\n=q.1/\p=q.2
theorem ZgX(s:ByteArray)(hs:s.size<=1000000000000)(w:World) :
  Calls Tryz.prog 13 #[.string s] w fun e w'=>∃(n:Int) (p:Nat),e=.returned (.tuple #[.int .i64 n,.int .i64 p])/\Hid (ZqN (bl s) n p)/\Below w.heap.size w w':=by
 have HTW:=hid (fun i hi w=>Zp0 s i hi (by omega) w)
 have HL:Hid ((bl s).length=s.size):=hid (Zi s)
 by_cases h9:s.size<9
 ·have HQ:Hid (ZbM (bl s)=none):=hid (by unfold ZbM;rw[Zi,if_pos h9])
  go_enter Tryz.func13,Tryz.ntmps13
  go_wp2
  go_ret2
  exact⟨-1,0,rfl,hid (Or.inl ⟨HQ.out,rfl,rfl⟩),Below.refl _ _⟩
 ·have HQ:Hid (ZbM (bl s)=match atQ (bl s) (two2 (bl s) 3+two2 (bl s) 5) (9+4*two2 (bl s) 1)with
   | none=>none
   | some p=>if p+3*two2 (bl s) 7+4=(bl s).length then some (two2 (bl s) 7,p)else none):=hid (by unfold ZbM;rw[Zi,if_neg h9])
  have b1:=Zga (bl s) 1
  have b3:=Zga (bl s) 3
  have b5:=Zga (bl s) 5
  have b7:=Zga (bl s) 7
  have H1:=hid (fun w=>HTW.out 1 (by omega) w)
  have H3:=hid (fun w=>HTW.out 3 (by omega) w)
  have H5:=hid (fun w=>HTW.out 5 (by omega) w)
  have H7:=hid (fun w=>HTW.out 7 (by omega) w)
  rw[HL.out]at HQ
  generalize two2 (bl s) 1=x1 at *
  generalize two2 (bl s) 3=x3 at *
  generalize two2 (bl s) 5=x5 at *
  generalize two2 (bl s) 7=x7 at *
  go_enter Tryz.func13,Tryz.ntmps13
  go_wp2_with fail
  refine(H1.out _).mono ?_
  rintro e w1 ⟨rfl,hb1⟩
  have HB1:=hid hb1
  clear hb1
  go_wp2
  go_loopw [4,5] (fun pv iv wr=>∃k p:Nat,k<=x3+x5/\iv=.int .i64 k/\pv=.int .i64 p/\p<=1000000000000+65537/\Hid (atQ (bl s) (x3+x5) (9+4*x1)=atQ (bl s) (x3+x5 - k) p)/\Hid (Below w.heap.size w wr)) (fun _ iv _=>x3+x5 - (intOf iv).toNat)
  case atStart=>exact⟨0,9+4*x1,Nat.zero_le _,rfl,by go_num,by omega,hid rfl,HB1⟩
  case round=>
   obtain⟨k,p,hk,rfl,rfl,hp,HA,HBr⟩:=hrel
   go_wp2_with fail
   refine(H3.out _).mono ?_
   rintro e w2 ⟨rfl,hb2⟩
   have HB2:=hid (HBr.trans (hb2.mono HBr.size))
   clear hb2
   go_wp2_with fail
   refine(H5.out _).mono ?_
   rintro e w3 ⟨rfl,hb3⟩
   have HB3:=hid (HB2.trans (hb3.mono HB2.size))
   clear hb3
   by_cases hlt:k<x3+x5
   ·have hlz:(k:Int)<(x3:Int)+x5:=by omega
    have HE:Hid (atQ (bl s) (x3+x5 - k) p=if s.size<p+2 then none else atQ (bl s) (x3+x5 - (k+1)) (p+2+two2 (bl s) p)):=hid (by
     rw[show x3+x5 - k=(x3+x5 - (k+1))+1 by omega,atQ,HL.out])
    by_cases hp2:s.size<p+2
    ·have hpz:(s.size:Int)<(p:Int)+2:=by omega
     have HN:Hid (ZbM (bl s)=none):=hid (by rw[HQ.out,HA.out,HE.out,if_pos hp2])
     go_wp2
     go_ret2
     exact⟨-1,0,rfl,hid (Or.inl ⟨HN.out,rfl,rfl⟩),HB3.out⟩
    ·have hpz:¬(s.size:Int)<(p:Int)+2:=by omega
     have HE2:Hid (atQ (bl s) (x3+x5 - k) p=atQ (bl s) (x3+x5 - (k+1)) (p+2+two2 (bl s) p)):=hid (by rw[HE.out,if_neg hp2])
     have bp:=Zga (bl s) p
     have HP:=hid (fun w=>HTW.out p (by omega) w)
     generalize two2 (bl s) p=xp at *
     go_wp2_with fail
     refine(HP.out _).mono ?_
     rintro e w4 ⟨rfl,hb4⟩
     have HB4:=hid (HB3.trans (hb4.mono HB3.size))
     clear hb4
     go_wp2
     go_roundw
     case rel=>exact⟨k+1,p+2+xp,by omega,by go_num,by go_num,by omega,hid (by rw[HA.out,HE2.out]),HB4⟩
     case measure=>simp[intOf];omega
   ·have hlz:¬(k:Int)<(x3:Int)+x5:=by omega
    have HN:Hid (ZbM (bl s)=if p+3*x7+4=s.size then some (x7,p)else none):=hid (by rw[HQ.out,HA.out,show x3+x5 - k=0 by omega];rfl)
    go_wp2_with fail
    refine(H7.out _).mono ?_
    rintro e w4 ⟨rfl,hb4⟩
    have HB4:=hid (HB3.trans (hb4.mono HB3.size))
    clear hb4
    by_cases he:p+3*x7+4=s.size
    ·have hez:(p:Int)+3*x7+4=s.size:=by omega
     have HN2:Hid (ZbM (bl s)=some (x7,p)):=hid (by rw[HN.out,if_pos he])
     go_wp2
     go_ret2
     exact⟨x7,p,rfl,hid (Or.inr ⟨_,HN2.out,rfl,rfl⟩),HB4.out⟩
    ·have hez:¬(p:Int)+3*x7+4=s.size:=by omega
     have HN2:Hid (ZbM (bl s)=none):=hid (by rw[HN.out,if_neg he])
     go_wp2
     go_ret2
     exact⟨-1,0,rfl,hid (Or.inl ⟨HN2.out,rfl,rfl⟩),HB4.out⟩
section
variable {a b l:List UInt8} {n k:Nat}
theorem Zj6(a l:List UInt8)(i:Nat):(a++l).getD (a.length+i) 0=l.getD i 0:=by
 rw[List.getD_eq_getElem?_getD,List.getElem?_append_right (Nat.le_add_right _ _),Nat.add_sub_cancel_left,List.getD_eq_getElem?_getD]
theorem Zf9(a b:List UInt8)(h:n<65536):two2 (a++(digL n 2++b)) a.length=n:=by
 unfold two2
 have e:digL n 2=[UInt8.ofNat (n / 256 % 256),UInt8.ofNat (n % 256)]:=by simp[digL]
 have e0:=Zj6 a (digL n 2++b) 0
 rw[Nat.add_zero]at e0
 rw[e0,Zj6,e]
 show 256*(UInt8.ofNat (n / 256 % 256)).toNat+(UInt8.ofNat (n % 256)).toNat=n
 rw[UInt8.toNat_ofNat',UInt8.toNat_ofNat']
 omega
theorem ZiK(x:List UInt8):(ZX x).length=x.length+2:=by unfold ZX;rw[List.length_append,Zc5];omega
theorem Zl4:∀(T:List (List UInt8)) (a b:List UInt8) (k:Nat),(∀x∈T,x.length<65536)->atQ (a++(T.flatMap ZX++b)) (T.length+k) a.length=atQ (a++(T.flatMap ZX++b)) k (a.length+(T.flatMap ZX).length)
 | [],a,b,k,_=>by simp
 | x :: T, a, b, k, h => by
   have hx:=h x (List.mem_cons_self ..)
   have e:a++((x::T).flatMap ZX++b)=(a++ZX x)++(T.flatMap ZX++b):=by simp
   have e2:a++((x::T).flatMap ZX++b)=a++(digL x.length 2++(x++(T.flatMap ZX++b))):=by simp[ZX]
   have t2:two2 (a++((x::T).flatMap ZX++b)) a.length=x.length:=by rw[e2];exact Zf9 a _ hx
   have hl:¬(a++((x::T).flatMap ZX++b)).length<a.length+2:=by
     rw[List.length_append,List.length_append,List.flatMap_cons,List.length_append,ZiK];omega
   have ih:=Zl4 T (a++ZX x) b k (fun y hy=>h y (List.mem_cons_of_mem _ hy))
   rw[<-e,List.length_append,ZiK]at ih
   rw[List.length_cons,show T.length+1+k=(T.length+k)+1 by omega,atQ,if_neg hl,t2,show a.length+2+x.length=a.length+(x.length+2) by omega,ih,List.flatMap_cons,List.length_append,ZiK]
   congr 1
   omega
def insB(x:Nat×Nat):List UInt8:=UInt8.ofNat x.1::digL x.2 2
theorem Znz(l:List (Nat×Nat)):(l.flatMap insB).length=3*l.length:=by
 induction l with
 | nil=>rfl
 | cons x l ih=>rw[List.flatMap_cons,List.length_append,ih,List.length_cons];unfold insB;rw[List.length_cons,Zc5];omega
theorem ZjG(l:List Int):(l.flatMap Zcx).length=4*l.length:=by
 induction l with
 | nil=>rfl
 | cons x l ih=>rw[List.flatMap_cons,List.length_append,ih,List.length_cons];unfold Zcx;rw[Zc5];omega
def Zcu(q:CodeQ):List (List UInt8):=q.picks.map ZM++q.groups.map commas
def offQ(q:CodeQ):Nat:=9+4*q.consts.length+((Zcu q).flatMap ZX).length
structure Shrt (q:CodeQ):Prop where
 c:q.consts.length<65536
 s:q.picks.length<65536
 g:q.groups.length<65536
 i:q.ins.length<65536
 t:∀x∈Zcu q,x.length<65536
theorem Zrk(q:CodeQ):Zd2 q=([103]++digL q.consts.length 2++digL q.picks.length 2++digL q.groups.length 2++digL q.ins.length 2++q.consts.flatMap Zcx)++((Zcu q).flatMap ZX++q.ins.flatMap insB):=by
 unfold Zd2 Zcu
 simp only[List.flatMap_append,List.flatMap_map,List.append_assoc]
 rfl
theorem ZlK(q:CodeQ):∃z,z.length=4/\ZbB q=([103]++digL q.consts.length 2++digL q.picks.length 2++digL q.groups.length 2++digL q.ins.length 2++q.consts.flatMap Zcx)++((Zcu q).flatMap ZX++(q.ins.flatMap insB++z)):=
 ⟨digL (sumQ (Zd2 q)) 4,Zc5 _ _,by unfold ZbB;rw[Zrk];simp only[List.append_assoc]⟩
theorem Zqw(q:CodeQ):(ZbB q).length=offQ q+3*q.ins.length+4:=by
 obtain⟨z,h1,h2⟩:=ZlK q
 rw[h2]
 unfold offQ
 simp only[List.length_append,Zc5,ZjG,Znz,h1,List.length_singleton]
 omega
theorem ZtA{q:CodeQ}(h:Shrt q):ZbM (ZbB q)=some (q.ins.length,offQ q):=by
 have hl:=Zqw q
 obtain⟨z,h1,h2⟩:=ZlK q
 have t1:two2 (ZbB q) 1=q.consts.length:=by
  have:=Zf9 [103] (digL q.picks.length 2++(digL q.groups.length 2++(digL q.ins.length 2++(q.consts.flatMap Zcx++((Zcu q).flatMap ZX++(q.ins.flatMap insB++z)))))) h.c
  rw[h2];simpa only[List.append_assoc,List.length_singleton] using this
 have t3:two2 (ZbB q) 3=q.picks.length:=by
  have:=Zf9 ([103]++digL q.consts.length 2) (digL q.groups.length 2++(digL q.ins.length 2++(q.consts.flatMap Zcx++((Zcu q).flatMap ZX++(q.ins.flatMap insB++z))))) h.s
  rw[h2];simpa only[List.append_assoc,List.length_append,Zc5,List.length_singleton] using this
 have t5:two2 (ZbB q) 5=q.groups.length:=by
  have:=Zf9 ([103]++(digL q.consts.length 2++digL q.picks.length 2)) (digL q.ins.length 2++(q.consts.flatMap Zcx++((Zcu q).flatMap ZX++(q.ins.flatMap insB++z)))) h.g
  rw[h2];simpa only[List.append_assoc,List.length_append,Zc5,List.length_singleton] using this
 have t7:two2 (ZbB q) 7=q.ins.length:=by
  have:=Zf9 ([103]++(digL q.consts.length 2++(digL q.picks.length 2++digL q.groups.length 2))) (q.consts.flatMap Zcx++((Zcu q).flatMap ZX++(q.ins.flatMap insB++z))) h.i
  rw[h2];simpa only[List.append_assoc,List.length_append,Zc5,List.length_singleton] using this
 have ha:atQ (ZbB q) (q.picks.length+q.groups.length) (9+4*q.consts.length)=some (offQ q):=by
  have hA:([103]++digL q.consts.length 2++digL q.picks.length 2++digL q.groups.length 2++digL q.ins.length 2++q.consts.flatMap Zcx).length=9+4*q.consts.length:=by
   simp only[List.length_append,Zc5,ZjG,List.length_singleton]
  have hT:(Zcu q).length=q.picks.length+q.groups.length:=by simp[Zcu]
  have:=Zl4 (Zcu q) ([103]++digL q.consts.length 2++digL q.picks.length 2++digL q.groups.length 2++digL q.ins.length 2++q.consts.flatMap Zcx) (q.ins.flatMap insB++z) 0 h.t
  rw[<-h2,hA,hT]at this
  exact this
 unfold ZbM
 rw[t1,t3,t5,t7,ha,hl,if_neg (by unfold offQ;omega)]
 exact if_pos rfl
end
end Go.Proofs.YtcdgkkfipdoeeaaGreatDoor
namespace Go.Proofs.YtcdgkkfipdoeeaaGreatDoor
open Go.RowKit LS
theorem Zuu(l:List UInt8)(j:Nat)(c:UInt8)(r:List UInt8):((lexC l j c r).1.kind=0∨(lexC l j c r).1.kind=5->(lexC l j c r).1.txt=[])/\(¬((lexC l j c r).1.kind=0∨(lexC l j c r).1.kind=5)->(lexC l j c r).1.txt.length+j<=(lexC l j c r).2):=by
 unfold lexC
 split
 ·simp only
  split
  ·exact⟨fun h=>absurd h (by simp),fun _=>by simp only[List.length_take];omega⟩
  ·exact⟨fun _=>rfl,fun h=>absurd (Or.inr rfl) h⟩
 ·split
  ·simp only
   split
   ·exact⟨fun _=>rfl,fun h=>absurd (Or.inr rfl) h⟩
   ·exact⟨fun h=>absurd h (by simp),fun _=>by simp only[List.length_take];omega⟩
  ·split
   ·split
    ·exact⟨fun _=>rfl,fun h=>absurd (Or.inr rfl) h⟩
    ·simp only
     split
     ·exact⟨fun h=>absurd h (by simp),fun _=>by simp only[List.length_take];omega⟩
     ·exact⟨fun _=>rfl,fun h=>absurd (Or.inr rfl) h⟩
   ·split
    ·exact⟨fun h=>absurd h (by simp),fun _=>by simp;omega⟩
    ·split
     ·exact⟨fun h=>absurd h (by simp),fun _=>by simp;omega⟩
     ·exact⟨fun _=>rfl,fun h=>absurd (Or.inr rfl) h⟩
theorem Zuq(l:List UInt8)(i:Nat):((Zo l i).1.kind=0∨(Zo l i).1.kind=5->(Zo l i).1.txt=[])/\(¬((Zo l i).1.kind=0∨(Zo l i).1.kind=5)->(Zo l i).1.txt.length+i<=(Zo l i).2):=by
 unfold Zo
 generalize run (fun x=>x == 32) (l.drop i)=k
 unfold lexJ
 split
 ·exact⟨fun _=>rfl,fun h=>absurd (Or.inl rfl) h⟩
 ·rename_i c r _
  have h:=Zuu l (i+k) c r
  exact⟨h.1,fun h1=>by have:=h.2 h1;omega⟩
theorem Zoe(l:List UInt8):∀(n i:Nat),i<=l.length->tw (ZH l n i)<=31*(l.length+1 - i)
 | 0,_,_=>Nat.zero_le _
 | n + 1, i, hi => by
   have h1:=Zuq l i
   have hg:=Zih l i hi
   unfold ZH
   split
   · rename_i hk
     have h2:=h1.1 hk
     simp only[tw,h2,List.length_nil]
     omega
   · rename_i hk
     have h2:=h1.2 hk
     have h3:=hg.1 (fun h=>hk (Or.inl h))
     have h4:=Zoe l n (Zo l i).2 hg.2
     simp only[tw]
     omega
theorem ZwR{l:List UInt8}{t:Tr}(h:ZB l=.ok t):wT t<=9331:=by
 unfold ZB at h
 by_cases hl:300<l.length
 ·rw[if_pos hl]at h;cases h
 ·rw[if_neg hl]at h
  have h2:=Zoe l (l.length+1) 0 (Nat.zero_le _)
  cases hp:Zj (10*(ZH l (l.length+1) 0).length+5) false 0 .nil (ZH l (l.length+1) 0) 0 with
  | error e=>rw[hp]at h;cases h
  | ok z=>
   obtain⟨t',r⟩:=z
   rw[hp]at h
   have hw:=ZfV _ _ _ _ _ _ _ (fun e=>by cases e) hp
   simp only at h
   by_cases h0:(hd r).kind=0
   ·rw[if_pos h0]at h
    by_cases hk:Zf t'=0
    ·rw[if_pos hk]at h;cases h
    ·rw[if_neg hk]at h
     injection h with h
     subst h
     have h3:=hw.2.2
     rw[if_neg (by decide)]at h3
     simp only at h3
     omega
   ·rw[if_neg h0]at h;cases h
section
variable {g:Gq} {N:Nat}
def TabN(N:Nat)(g:Gq):Prop:=(∀y∈g.sels,ownW y.1<=N)/\∀x∈g.grps,nw x<=N
theorem Ze4(h:TabN N g)(z:Nq):TabN N (addQ z g).2:=by unfold addQ;split <;> exact h
theorem Zx9(h:TabN N g)(n:Nat):TabN N (negQ n g).2:=by unfold negQ;split <;> exact Ze4 h _
theorem Zya(h:TabN N g)(o x y:Nat):TabN N (Z0 o x y g).2:=by unfold Z0;split <;> exact Ze4 h _
theorem ZpQ(h:TabN N g){y:Nd×Nat}(hy:ownW y.1<=N):TabN N (Zx y g).2:=by
 unfold Zx
 split
 ·exact Ze4 h _
 ·refine Ze4 (g:={ g with sels:=g.sels++[y] }) ⟨fun z hz=>?_,h.2⟩ _
  rcases List.mem_append.1 hz with h1|h1
  ·exact h.1 z h1
  ·rw[List.mem_singleton]at h1;rw[h1];exact hy
theorem Zx8(h:TabN N g){ns:List (List UInt8)}(hn:nw ns<=N):TabN N (ZZ ns g).2:=by
 unfold ZZ
 split
 ·exact h
 ·refine⟨h.1,fun z hz=>?_⟩
  rcases List.mem_append.1 hz with h1|h1
  ·exact h.2 z h1
  ·rw[List.mem_singleton]at h1;rw[h1];exact Nat.le_trans (ZgJ ns) hn
theorem Zly:∀(t:Tr) (g:Gq),wT t<=N->TabN N g->TabN N (Zb t g).2
 | .nil,_,_,h=>h
 | .node x y a l r, g, ht, h => by
   have h1:wT (.node x y a l r)=ownW a+wT l+wT r:=rfl
   have h2:ownW a=24+a.name.length+cw a.conds+nw a.by_:=rfl
   have hb:ownW (ZbJ a)<=N:=by
     have:ownW (ZbJ a)<=ownW a:=by unfold ownW ZbJ;simp[nw]
     omega
   have hn:nw a.by_<=N:=by omega
   have hl:=fun g h=>Zly l g (by omega) h
   have hr:=fun g h=>Zly r g (by omega) h
   unfold Zb
   split
   · exact Ze4 h _
   · split
     · exact ZpQ h hb
     · split
       · exact Ze4 (ZpQ h hb) _
       · split
         · exact Zx9 (hl _ h) _
         · split
           · exact Ze4 (Zx8 (hl _ h) hn) _
           · simp only
             split
             · exact Ze4 (hr _ (hl _ h)) _
             · exact Zya (hr _ (hl _ h)) _ _ _
theorem ZgL{l:List UInt8}{t:Tr}(h:ZB l=.ok t)(fl:Nat):Shrt (LS.codeOf t fl)/\(LS.codeOf t fl).ins.length<=3110/\0<(LS.codeOf t fl).ins.length:=by
 obtain⟨hwf,hnil,hwt⟩:=Zdz h
 have hs:=ZwR h
 have hc:=Zmr hwf hnil hwt fl
 have hci:CI (ZJ (Zb t (g0 fl)).2 (Zb t (g0 fl)).1):=ZgI (fun z c h=>ZjA _ z c h) (Nat.le_refl _)
 have hil:(LS.codeOf t fl).ins.length=(ZJ (Zb t (g0 fl)).2 (Zb t (g0 fl)).1).ins.length:=by
  show(if 4<=fl then ZbR _ else _).length=_
  split
  ·exact(Zf7 _ _ (ZgM _ _)).2
  ·rfl
 have hpl:=(Zch t (g0 fl) hwf).1
 have e1:(g0 fl).sels.length=0:=rfl
 have e2:(g0 fl).grps.length=0:=rfl
 have hT:=ZiS t (g0 fl) hwf hwt ⟨fun y hy=>(by cases hy),fun y hy=>(by cases hy)⟩
 have hN:=Zly (N:=9331) t (g0 fl) hs ⟨fun y hy=>(by cases hy),fun y hy=>(by cases hy)⟩
 refine⟨⟨?_,?_,?_,by omega,fun x hx=>?_⟩,by omega,by rw[hil];exact Zms _ _⟩
 ·have:(LS.codeOf t fl).consts.length<=(ZJ (Zb t (g0 fl)).2 (Zb t (g0 fl)).1).ins.length:=hci
  omega
 ·have:=hpl.s1;show(Zb t (g0 fl)).2.sels.length<_;omega
 ·have:=hpl.r1;show(Zb t (g0 fl)).2.grps.length<_;omega
 ·unfold Zcu at hx
  rcases List.mem_append.1 hx with hx|hx
  ·obtain⟨y,hy,rfl⟩:=List.mem_map.1 hx
   have hw:=hT.1 y hy
   have ho:=hN.1 y hy
   have hp:=ZeA (Z6 y.1) 1 hw.wf
   rw[Zpr y hw.kind]at hp
   have hlw:wT (Z6 y.1)=ownW y.1:=rfl
   unfold ZM
   have e10:(10:Nat) ^ (9+1)=10000000000:=by decide
   have hd:(decS y.2).length<=10:=ZgO 9 y.2 (by rw[e10];have:=hw.len;omega)
   rw[List.length_append]
   split
   ·simp only[List.length_append,List.length_singleton];omega
   ·simp only[List.length_nil];omega
  ·obtain⟨y,hy,rfl⟩:=List.mem_map.1 hx
   have:=hN.2 y hy
   have:=Zeq y
   omega
end
end Go.Proofs.YtcdgkkfipdoeeaaGreatDoor
namespace Go.Proofs.YtcdgkkfipdoeeaaGreatDoor
open Go.RowKit LS
def jmpB(b:UInt8):Bool:=decide (b.toNat=9∨b.toNat=10)
theorem ZnQ (b : UInt8) (w : World) : Calls Tryz.prog 26 #[.int .u8 (b.toNat : Nat)] w fun e w' => e = .returned (.bool (jmpB b)) /\ w' = w := by
  have HJ:Hid (jmpB b=decide (b.toNat=9∨b.toNat=10)):=hid rfl
  generalize b.toNat=x at *
  by_cases h9:x=9
  · subst h9
    go_enter Tryz.func26,Tryz.ntmps26
    go_wp2
    go_ret
    exact⟨by rw[HJ.out];rfl,rfl⟩
  · have h9z:¬(x:Int)=9:=by omega
    by_cases h10:x=10
    · subst h10
      go_enter Tryz.func26,Tryz.ntmps26
      go_wp2
      go_ret
      exact⟨by rw[HJ.out];rfl,rfl⟩
    · have h10z:¬(x:Int)=10:=by omega
      go_enter Tryz.func26,Tryz.ntmps26
      go_wp2
      go_ret
      exact⟨by rw[HJ.out,show decide (x=9∨x=10)=false by simp[h9,h10]];first|rfl|(congr 2;simp;omega),rfl⟩
theorem ZnC{l:List UInt8}{n p:Nat}(h:ZbM l=some (n,p)):p+3*n+4=l.length:=by
 unfold ZbM at h
 split at h
 ·cases h
 ·split at h
  ·cases h
  ·split at h
   ·rename_i e
    injection h with h
    injection h with h1 h2
    subst h1 h2
    exact e
   ·cases h
theorem Zyt(s:ByteArray)(n p:Nat)(hq:ZbM (bl s)=some (n,p))(h1:1<=n)(hs:s.size<=1000000000000)(hg:∀i,i<n->jmpB ((bl s).getD (p+3*i) 0)=true->two2 (bl s) (p+3*i+1)<n->jmpB ((bl s).getD (p+3*two2 (bl s) (p+3*i+1)) 0)=false)(w:World) :
  Calls Tryz.prog 15 #[.string s] w fun e w'=>e=.returned (.bool true)/\Below w.heap.size w w':=by
 have hl:=ZnC hq
 rw[Zi]at hl
 have hn:n<=1000000000000:=by omega
 have HI:=hid (ZgX s hs)
 have HQ:=hid hq
 have HTW:=hid (fun i hi w=>Zp0 s i hi (by omega) w)
 have HG:=hid hg
 clear hq hg
 go_enter Tryz.func15,Tryz.ntmps15
 go_wp2_with fail
 refine(HI.out _).mono ?_
 rintro e w1 ⟨n',p',rfl,HX,hb1⟩
 obtain⟨rfl,rfl⟩:n'=n/\p'=p:=by
  rcases HX.out with h|⟨q,h,h3,h4⟩
  ·rw[HQ.out]at h;cases h.1
  ·rw[HQ.out]at h;injection h with h;subst h;exact⟨h3,h4⟩
 have HB1:=hid hb1
 clear hb1 HX HI
 go_wp2
 go_loopw [5] (fun iv wr=>∃k:Nat,k<=n/\iv=.int .i64 k/\Hid (Below w.heap.size w wr)) (fun iv _=>n - (intOf iv).toNat)
 case atStart=>exact⟨0,Nat.zero_le _,rfl,HB1⟩
 case round=>
  obtain⟨k,hk,rfl,HBr⟩:=hrel
  by_cases hlt:k<n
  ·have hkz:(k:Int)<n:=by omega
   have HT:=hid (fun w=>HTW.out (p'+3*k+1) (by omega) w)
   have hx:=Zga (bl s) (p'+3*k+1)
   have HGk:=hid (HG.out k hlt)
   have i0:=ZfH s (p'+3*k) (by omega)
   have HJ0:=hid (fun w=>ZnQ ((bl s).getD (p'+3*k) 0) w)
   rw[show((p'+3*k:Nat):Int)=(p':Int)+3*k by omega]at i0
   generalize two2 (bl s) (p'+3*k+1)=tt at *
   generalize(bl s).getD (p'+3*k) 0=b0 at *
   go_wp2_with fail
   have e1:(p':Int)+3*k+1=((p'+3*k+1:Nat):Int):=by omega
   rw[e1]
   clear e1
   refine(HT.out _).mono ?_
   rintro e w2 ⟨rfl,hb2⟩
   have HB2:=hid (HBr.trans (hb2.mono HBr.size))
   clear hb2
   go_wp2_with fail
   refine(HJ0.out _).mono ?_
   rintro e w3 ⟨rfl,rfl⟩
   by_cases hj:jmpB b0=true
   ·rw[hj]
    by_cases ht:tt<n
    ·have htz:(tt:Int)<n:=by omega
     have i2:=ZfH s (p'+3*tt) (by omega)
     have HJ2:=hid (fun w=>ZnQ ((bl s).getD (p'+3*tt) 0) w)
     have hf:=HGk.out hj ht
     rw[show((p'+3*tt:Nat):Int)=(p':Int)+3*tt by omega]at i2
     generalize(bl s).getD (p'+3*tt) 0=b2 at *
     go_wp2_with fail
     refine(HJ2.out _).mono ?_
     rintro e w4 ⟨rfl,rfl⟩
     rw[hf]
     go_wp2
     go_roundw
     case rel=>exact⟨k+1,by omega,by go_num,HB2⟩
     case measure=>simp[intOf];omega
    ·have htz:¬(tt:Int)<n:=by omega
     go_wp2
     go_roundw
     case rel=>exact⟨k+1,by omega,by go_num,HB2⟩
     case measure=>simp[intOf];omega
   ·have hj2:jmpB b0=false:=by simpa using hj
    rw[hj2]
    go_wp2
    go_roundw
    case rel=>exact⟨k+1,by omega,by go_num,HB2⟩
    case measure=>simp[intOf];omega
  ·have hkz:¬(k:Int)<n:=by omega
   have hnz:(1:Int)<=n:=by omega
   go_wp2
   go_ret
   exact⟨by first|rfl|simp;omega,HBr.out⟩
end Go.Proofs.YtcdgkkfipdoeeaaGreatDoor

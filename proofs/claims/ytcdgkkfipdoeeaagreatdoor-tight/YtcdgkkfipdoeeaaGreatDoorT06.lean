/- Parts. -/
import Derived.Test.YtcdgkkfipdoeeaaGreatDoorT05
import Derived.Maps.AppendAt
set_option maxRecDepth 100000
set_option maxHeartbeats 4000000
namespace Go.Proofs.YtcdgkkfipdoeeaaGreatDoor
open Go.RowKit LS
def insC(x:Nat×Nat):List Value:=[.int .i64 x.1,.int .i64 x.2]
def nI:Option Nat->Int
 | none=>-1
 | some n=>n
def nodC(x:Nq):List Value:=[.int .i64 x.op,.int .i64 x.arg,.int .i64 (nI x.fs),.int .i64 (nI x.sn)]
def intC(n:Nat):Value:=.int .i64 (n:Int)
theorem ZfF{α:Type}(g:α->List Value)(s:Nat)(hg:∀x,(g x).length=s):∀(l:List α) (i j:Nat) (hi:i<l.length),j<s->(l.flatMap g)[i*s+j]?=(g l[i])[j]?
 | [],i,_,hi,_=>absurd hi (Nat.not_lt_zero _)
 | x::l,0,j,_,hj=>by rw[List.flatMap_cons,Nat.zero_mul,Nat.zero_add,List.getElem?_append_left (by rw[hg];exact hj)];rfl
 | x :: l, i + 1, j, hi, hj => by
   rw[List.flatMap_cons,List.getElem?_append_right (by rw[hg,Nat.succ_mul];omega),hg,show(i+1)*s+j - s=i*s+j by rw[Nat.succ_mul];omega]
   exact ZfF g s hg l i j (by simpa using hi) hj
structure NOne (i:Nat) (x:Nq):Prop where
 low:∀t∈Zg x,t<i
 sn:x.fs=none->x.sn=none
 neg:x.op=4->∃a,x.fs=some a
 or:x.op=10->∃a b,x.fs=some a/\x.sn=some b
 op:x.op<=10
 ar : -1000000000<=x.arg/\x.arg<=1000000000
 nn:x.op≠0->0<=x.arg
def NOk(l:List Nq):Prop:=∀i (h:i<l.length),NOne i l[i]
structure CX where
 base:Nat
 cb:Nat
 gb:Nat
 lb:Nat
 sb:Nat
 tb:Nat
 nb:Nat
 lc:Nat
 nc:Nat
 gc:List Value
 nodes:List Nq
def CX.chg(X:CX)(cv iv:Value)(k:Nat):Prop:=k=X.cb∨k=X.lb∨k=X.sb∨k=X.tb∨cv.ownBlock=some k∨iv.ownBlock=some k
def coC(X:CX)(cv iv:Value):List Value:=[.pointer (some ⟨X.gb,0,none⟩),.slice (some ⟨X.lb,0,none⟩) X.nodes.length X.lc,.map (some X.sb),.map (some X.tb),cv,iv]
structure Co (w:World) (X:CX) (cv iv:Value) (c:Cq):Prop where
 box:BAt w X.cb (coC X cv iv) 171
 gbox:BAt w X.gb X.gc 176
 gn:X.gc[2]?=some (.slice (some ⟨X.nb,0,none⟩) X.nodes.length X.nc)
 nrow:w.ownsRow X.base 232 4 (.slice (some ⟨X.nb,0,none⟩) X.nodes.length X.nc) X.nodes.length (X.nodes.flatMap nodC)
 left:w.ownsRow X.base 3 1 (.slice (some ⟨X.lb,0,none⟩) X.nodes.length X.lc) X.nodes.length (c.left.map intC)
 slots:MapZ w X.sb 16 (fun s=>c.slots.getD s none)
 slen:c.slots.length=16
 tak:∃f,MapZ w X.tb X.nodes.length f
 cons:w.ownsRow X.base 3 1 cv c.consts.length (c.consts.map (Value.int .i64))
 ins:w.ownsRow X.base 159 2 iv c.ins.length (c.ins.flatMap insC)
 ne1:cv.ownBlock≠some X.lb
 ne2:X.sb≠X.tb
 bas:X.base<=X.cb/\X.base<=X.sb/\X.base<=X.tb
 bsz:X.base<=w.heap.size
 nsz:X.nodes.length<=1000000
 nok:NOk X.nodes
 lbd:∀j,c.left.getD j 0<=1000000000
section
variable {w w' w1 w2:World} {X:CX} {cv iv cv' iv':Value} {c c':Cq}
theorem Co.llen(h:Co w X cv iv c):c.left.length=X.nodes.length:=by have:=h.left.1;simpa using this
def Zdr(w:World)(v v':Value):Prop:=∀k,v'.ownBlock=some k->v.ownBlock=some k∨w.heap.size<=k
def CoP(w w':World)(X:CX)(cv iv:Value)(c':Cq):Prop:=∃cv' iv',Co w' X cv' iv' c'/\KeepS (X.chg cv iv) w w'/\Zdr w cv cv'/\Zdr w iv iv'
theorem CoP.refl(h:Co w X cv iv c):CoP w w X cv iv c:=⟨cv,iv,h,KeepS.refl _ _,fun _ h=>Or.inl h,fun _ h=>Or.inl h⟩
theorem Zdr.trans {v v1 v2 : Value} (h : Zdr w v v1) (q : Zdr w1 v1 v2) (hs : w.heap.size <= w1.heap.size) : Zdr w v v2 := fun k hk => by
  rcases q k hk with h1|h1
  · exact h k h1
  · exact Or.inr (Nat.le_trans hs h1)
theorem CoP.trans{c1:Cq}{cv1 iv1:Value}(hk:KeepS (X.chg cv iv) w w1)(f1:Zdr w cv cv1)(f2:Zdr w iv iv1)(q:CoP w1 w2 X cv1 iv1 c1):CoP w w2 X cv iv c1:=by
 obtain⟨cv2,iv2,h1,h2,h3,h4⟩:=q
 refine⟨cv2,iv2,h1,hk.trans h2 (fun j hj hl=>?_),f1.trans h3 hk.size,f2.trans h4 hk.size⟩
 rcases hj with h|h|h|h|h|h
 ·exact Or.inl h
 ·exact Or.inr (Or.inl h)
 ·exact Or.inr (Or.inr (Or.inl h))
 ·exact Or.inr (Or.inr (Or.inr (Or.inl h)))
 ·rcases f1 j h with h|h
  ·exact Or.inr (Or.inr (Or.inr (Or.inr (Or.inl h))))
  ·omega
 ·rcases f2 j h with h|h
  ·exact Or.inr (Or.inr (Or.inr (Or.inr (Or.inr h))))
  ·omega
theorem Co.keep{S:Nat->Prop}(h:Co w X cv iv c)(hk:KeepS S w w')(h1:¬S X.cb)(h2:¬S X.gb)(h3:¬S X.nb)(h4:¬S X.lb)(h5:¬S X.sb)(h6:¬S X.tb)(h7:∀k,cv.ownBlock=some k->¬S k)(h8:∀k,iv.ownBlock=some k->¬S k):Co w' X cv iv c:=
 ⟨hk.bat h.box h1, hk.bat h.gbox h2, h.gn, hk.own h.nrow (fun j hj => by injection hj with hj; subst hj; exact h3), hk.own h.left (fun j hj => by injection hj with hj; subst hj; exact h4), h.slots.move (hk.block _ h.slots.lt h5), h.slen, by
   obtain⟨f,hf⟩:=h.tak
   exact⟨f,hf.move (hk.block _ hf.lt h6)⟩,hk.own h.cons h7,hk.own h.ins h8,h.ne1,h.ne2,h.bas,Nat.le_trans h.bsz hk.size,h.nsz,h.nok,h.lbd⟩
theorem Co.below(h:Co w X cv iv c)(hb:Below w.heap.size w w'):Co w' X cv iv c:=h.keep (KeepS.ofBelow (fun _=>False) hb) id id id id id id (fun _ _=>id) (fun _ _=>id)
theorem ZbO {a k : Nat} {es : Array MapEntry} {cl : Nat} {cs : Array Value} {T : TypeId} {fr : Nat × Nat} (h : w.heap[a]? = some (.map es cl)) (q : w.heap[k]? = some (.cells cs T fr)) : a ≠ k := fun e => by
  rw[e,q]at h;injection h with h;cases h
theorem Zcg{base:Nat}{e:TypeId}{sz:Nat}{v:Value}{n:Nat}{xs:List Value}(h:w.ownsRow base e sz v n xs){k:Nat}(hk:v.ownBlock=some k):∃cs fr,w.heap[k]?=some (.cells cs e fr):=by
 rcases h.2 with ⟨h2,_⟩|⟨g,cap,cur,hv,_,hg,_⟩
 ·rw[h2]at hk;cases hk
 ·rw[hv]at hk
  injection hk with hk
  subst hk
  exact⟨_,_,hg⟩
theorem ZcF{k:Nat}{cs cs':Array Value}{T T':TypeId}{fr fr':Nat×Nat}(h:w.heap[k]?=some (.cells cs T fr))(q:w.heap[k]?=some (.cells cs' T' fr')):T=T':=by
 rw[h]at q;injection q with q;injection q
structure CoN (X:CX) (cv iv:Value):Prop where
 cg:X.cb≠X.gb
 cn:X.cb≠X.nb
 cl:X.cb≠X.lb
 cs:X.cb≠X.sb
 ct:X.cb≠X.tb
 cc:cv.ownBlock≠some X.cb
 ci:iv.ownBlock≠some X.cb
 gl:X.gb≠X.lb
 gs:X.gb≠X.sb
 gt:X.gb≠X.tb
 gcv:cv.ownBlock≠some X.gb
 giv:iv.ownBlock≠some X.gb
 nl:X.nb≠X.lb
 ns:X.nb≠X.sb
 nt:X.nb≠X.tb
 ncv:cv.ownBlock≠some X.nb
 niv:iv.ownBlock≠some X.nb
 ls:X.lb≠X.sb
 lt:X.lb≠X.tb
 lcv:cv.ownBlock≠some X.lb
 liv:iv.ownBlock≠some X.lb
 st:X.sb≠X.tb
 scv:cv.ownBlock≠some X.sb
 siv:iv.ownBlock≠some X.sb
 tcv:cv.ownBlock≠some X.tb
 tiv:iv.ownBlock≠some X.tb
 civ:∀k,cv.ownBlock=some k->iv.ownBlock≠some k
theorem Co.ne(h:Co w X cv iv c):CoN X cv iv:=by
 obtain⟨nc,nf,hn⟩:=Zcg h.nrow rfl
 obtain⟨lc,lf,hl⟩:=Zcg h.left rfl
 obtain⟨e1,c1,hs⟩:=h.slots.obj
 obtain⟨f,hf⟩:=h.tak
 obtain⟨e2,c2,ht⟩:=hf.obj
 have hb:=h.box
 have hg:=h.gbox
 have C:∀ {k},cv.ownBlock=some k->∃cs fr,w.heap[k]?=some (.cells cs 3 fr):=fun hk=>Zcg h.cons hk
 have I:∀ {k},iv.ownBlock=some k->∃cs fr,w.heap[k]?=some (.cells cs 159 fr):=fun hk=>Zcg h.ins hk
 have T:∀ {a k:Nat} {cs cs':Array Value} {T T':TypeId} {fr fr':Nat×Nat},w.heap[a]?=some (.cells cs T fr)->w.heap[k]?=some (.cells cs' T' fr')->T≠T'->a≠k:=fun h1 h2 h3 e=>by subst e;exact h3 (ZcF h1 h2)
 have CT:∀ {a:Nat} {cs:Array Value} {T':TypeId} {fr:Nat×Nat},w.heap[a]?=some (.cells cs T' fr)->T'≠3->cv.ownBlock≠some a:=fun h1 h3 hk=>by obtain⟨_,_,h4⟩:=C hk;exact h3 (ZcF h1 h4)
 have IT:∀ {a:Nat} {cs:Array Value} {T':TypeId} {fr:Nat×Nat},w.heap[a]?=some (.cells cs T' fr)->T'≠159->iv.ownBlock≠some a:=fun h1 h3 hk=>by obtain⟨_,_,h4⟩:=I hk;exact h3 (ZcF h1 h4)
 have CM:∀ {a:Nat} {es:Array MapEntry} {cl:Nat},w.heap[a]?=some (.map es cl)->cv.ownBlock≠some a:=fun h1 hk=>by obtain⟨_,_,h4⟩:=C hk;exact ZbO h1 h4 rfl
 have IM:∀ {a:Nat} {es:Array MapEntry} {cl:Nat},w.heap[a]?=some (.map es cl)->iv.ownBlock≠some a:=fun h1 hk=>by obtain⟨_,_,h4⟩:=I hk;exact ZbO h1 h4 rfl
 exact ⟨T hb hg (by decide), T hb hn (by decide), T hb hl (by decide), (ZbO hs hb).symm, (ZbO ht hb).symm, CT hb (by decide), IT hb (by decide), T hg hl (by decide), (ZbO hs hg).symm, (ZbO ht hg).symm, CT hg (by decide), IT hg (by decide), T hn hl (by decide), (ZbO hs hn).symm, (ZbO ht hn).symm, CT hn (by decide), IT hn (by decide), (ZbO hs hl).symm, (ZbO ht hl).symm, h.ne1, IT hl (by decide), h.ne2, CM hs, IM hs, CM ht, IM ht, fun k hk hi => by
   obtain⟨_,_,h1⟩:=C hk
   obtain⟨_,_,h2⟩:=I hi
   exact absurd (ZcF h1 h2) (by decide)⟩
end
end Go.Proofs.YtcdgkkfipdoeeaaGreatDoor
namespace Go.Proofs.YtcdgkkfipdoeeaaGreatDoor
open Go.RowKit LS
section
variable {w w' w1 w2:World} {X:CX} {cv iv cv' iv':Value} {c c':Cq} {S S1:Nat->Prop}
theorem Tryz.infoIns2:(Tryz.prog.info? 159).map (fun i=>(i.zero,i.size,i.bytes))=some (some (.agg #[.int .i64 0,.int .i64 0]),2,16):=by kernel_rfl
theorem KeepS.mono(h:KeepS S w w')(hs:∀k,S k->S1 k):KeepS S1 w w':=⟨h.os,h.tape,h.output,h.size,fun k h1 h2=>h.block k h1 (fun h3=>h2 (hs k h3))⟩
theorem KeepS.set(w:World)(a i:Nat)(v:Value):KeepS (fun k=>k=a) w (w.setCell ⟨a,i,none⟩ v):=KeepS.grown (Zbm (Zfi w (some a)) (Or.inl rfl) _) (fun _ e=>(Option.some.inj e).symm)
theorem KeepS.and(h:KeepS S w w1)(q:KeepS S1 w1 w2):KeepS (fun k=>S k∨S1 k) w w2:=(h.mono (fun _=>Or.inl)).trans (q.mono (fun _=>Or.inr)) (fun _ h _=>h)
theorem BAt.setC{a:Nat}{l:List Value}{t:TypeId}(h:BAt w a l t)(i:Nat)(v:Value):BAt (w.setCell ⟨a,i,none⟩ v) a (l.set i v) t:=by
 unfold BAt at h ⊢
 simp only[World.setCell,Array.getElem?_modify,h,if_true,Option.map_some]
 show some (Obj.cells (l.toArray.setIfInBounds i v) t (0,0))=_
 rw[List.setIfInBounds_toArray]
theorem Zjz {l : List Value} {t : TypeId} : ∀ j u, l[j]? = some u -> (w.alloc (.cells ⟨l⟩ t)).cell? ((⟨w.heap.size, 0, none⟩ : Addr).add j) = some u := fun j u h => by
  rw[Zfd]
  exact((show BAt (w.alloc (.cells ⟨l⟩ t)) w.heap.size l t from Go.Deep.blk_alloc_new w _).cell j).trans h
theorem ZsV{α:Type}(g:α->List Value)(l:List α)(x:α):(l++[x]).flatMap g=l.flatMap g++g x:=by simp
theorem CoP.step(hb:Below w.heap.size w w1)(q:CoP w1 w2 X cv iv c):CoP w w2 X cv iv c:=CoP.trans (KeepS.ofBelow _ hb) (fun _ h=>Or.inl h) (fun _ h=>Or.inl h) q
theorem Co.insApp(h:Co w X cv iv c){na:Option Addr}{nn nc:Nat}(hc:c'.left=c.left/\c'.slots=c.slots/\c'.consts=c.consts)(hg:w.grownBy w1 iv.ownBlock)(hw:Zdr w iv (.slice na nn nc))(ho:w1.ownsRow X.base 159 2 (.slice na nn nc) c'.ins.length (c'.ins.flatMap insC)) :
  BAt w1 X.cb (coC X cv iv) 171/\CoP w (w1.setCell ⟨X.cb,5,none⟩ (.slice na nn nc)) X cv iv c':=by
 have N:=h.ne
 have hk:KeepS (fun k=>iv.ownBlock=some k) w w1:=KeepS.grown hg (fun _ e=>e)
 have hb1:=hk.bat h.box N.ci
 have hk2:=hk.and (KeepS.set w1 X.cb 5 (.slice na nn nc))
 have hn:∀ {k:Nat},iv.ownBlock≠some k->k≠X.cb->¬(iv.ownBlock=some k∨k=X.cb):=fun h1 h2 h3=>h3.elim h1 h2
 refine⟨hb1,cv,.slice na nn nc,⟨hb1.setC 5 _,hk2.bat h.gbox (hn N.giv N.cg.symm),h.gn,hk2.own h.nrow (fun j hj=>by injection hj with hj;subst hj;exact hn N.niv N.cn.symm),?_,?_,by rw[hc.2.1];exact h.slen,?_,?_,?_,N.lcv,h.ne2,h.bas,Nat.le_trans h.bsz hk2.size,h.nsz,h.nok,by rw[hc.1];exact h.lbd⟩,hk2.mono (fun k hk=>hk.elim (fun e=>Or.inr (Or.inr (Or.inr (Or.inr (Or.inr e))))) Or.inl),fun _ h=>Or.inl h,hw⟩
 ·rw[hc.1];exact hk2.own h.left (fun j hj=>by injection hj with hj;subst hj;exact hn N.liv N.cl.symm)
 ·rw[hc.2.1];exact h.slots.move (hk2.block _ h.slots.lt (hn N.siv N.cs.symm))
 ·obtain⟨f,hf⟩:=h.tak
  exact⟨f,hf.move (hk2.block _ hf.lt (hn N.tiv N.ct.symm))⟩
 ·rw[hc.2.2];exact hk2.own h.cons (fun j hj=>hn (N.civ j hj) (fun e=>by subst e;exact N.cc hj))
 ·exact(KeepS.set w1 X.cb 5 (.slice na nn nc)).own ho (fun j hj e=>by subst e;exact absurd (Zdl ho hb1 (by decide)) (fun h=>h hj.symm))
theorem Zfh(h:Co w X cv iv c)(op arg:Nat)(hl:c.ins.length<=1000000) :
  Calls Tryz.prog 127 #[.pointer (some ⟨X.cb,0,none⟩),.int .i64 op,.int .i64 arg] w fun e w'=>e=.returned (.tuple #[])/\Hid (CoP w w' X cv iv (Zh op arg c)):=by
 obtain⟨i0,hi,hz0,hz1,hz2⟩:=info_parts Tryz.infoIns2
 have HM:=hid h
 have HMA:Hid (∀o,Co (w.alloc o) X cv iv c):=hid (fun o=>HM.below Zbal)
 obtain⟨ia,ic,hiv⟩:=Zv h.ins
 subst hiv
 have hown:=h.ins
 have m5:w.cell? ⟨X.cb,5,none⟩=some (.slice ia c.ins.length ic):=h.box.cell 5
 have hml:=h.box.lt
 have hbs:=h.bsz
 obtain⟨n,hn⟩:∃n,n=c.ins.length:=⟨_,rfl⟩
 rw[<-hn]at hown m5 hl HM HMA ⊢
 have HN:=hid hn
 clear h hn
 go_enter Tryz.func127,Tryz.ntmps127
 go_wp2_with (at_builtin;refine wpList_append_own_at _ rfl (.tmp 10) (.tmp 14) 57 rfl X.base 159 i0 (.agg #[.int .i64 0,.int .i64 0]) 2 16 Tryz.underlying57 hi hz0 hz1 hz2 rfl (by decide) _ _ _ rfl (hown.alloc _) ⟨w.heap.size,0,none⟩ 1 1 (insC (op,arg)) rfl rfl Zjz ?c2 ?c3 ?c4 ?c5 ?_)
 case c2=>intro u hu;simp[insC]at hu;rcases hu with rfl|rfl <;> rfl
 case c3=>unfold maxLen;omega
 case c4=>omega
 case c5=>simp;omega
 intro v' w3 hown3 hgrow _ hat
 obtain⟨g3,cp3,hv3⟩:=ZW hown3 (by omega)
 subst hv3
 obtain ⟨hb3, hp3⟩ := (HMA.out _).insApp (c' := Zh op arg c) ⟨rfl, rfl, rfl⟩ hgrow (fun k hk => hat.elim (fun e => Or.inl (e.symm.trans hk)) (fun e => Or.inr (by have := Option.some.inj (e.symm.trans hk); simp; omega))) (by
   show w3.ownsRow _ _ _ _ (c.ins++[(op,arg)]).length ((c.ins++[(op,arg)]).flatMap insC)
   rw[ZsV,List.length_append,<-HN.out];exact hown3)
 have HB3:=hid hb3
 have HP3:=hid (CoP.step Zbal hp3)
 clear hown3 hgrow hb3 hp3 m5 hown hml hat
 have m5:=HB3.cell 5
 have mf:=HB3.frozen 5
 have hml:=HB3.lt
 simp only[coC,List.getElem?_cons_succ,List.getElem?_cons_zero]at m5
 go_wp2
 exact bodyPost_end (v:=.tuple #[]) (results_none rfl _ _ _) rfl ⟨rfl,HP3⟩
theorem Zf4{n s:Nat}{l:List (Option Int)}(h:ZF n l=some s):s<16/\l.getD s none=some (n:Int):=by
 unfold ZF at h
 have h1:=List.find?_some h
 have h2:=List.mem_of_find?_eq_some h
 exact⟨List.mem_range.1 h2,by simpa using h1⟩
theorem Zeb{s:Nat}{l:List (Option Int)}(h:ZbE l=some s):s<16/\l.getD s none=none:=by
 unfold ZbE at h
 have h1:=List.find?_some h
 have h2:=List.mem_of_find?_eq_some h
 exact⟨List.mem_range.1 h2,by simpa using h1⟩
theorem Zm5 {p : Nat -> Bool} : ∀ {m k : Nat}, k <= m -> (∀ j, j < k -> p j = false) -> (List.range m).find? p = if k < m /\ p k = true then some k else (List.range m).find? p := fun {m k} hk h => by
  split
  · rename_i h2
    rw[List.find?_range_eq_some]
    exact⟨h2.2,List.mem_range.2 h2.1,fun j hj=>by rw[h j hj];rfl⟩
  · rfl
theorem Zls(h:Co w X cv iv c)(n:Nat) :
  Calls Tryz.prog 126 #[.pointer (some ⟨X.cb,0,none⟩),.int .i64 n] w fun e w'=>e=.returned (.tuple #[.int .i64 ((ZF n c.slots).getD 0:Nat),.bool (ZF n c.slots).isSome])/\w'=w:=by
 have m2:w.cell? ⟨X.cb,2,none⟩=some (.map (some X.sb)):=h.box.cell 2
 have hml:=h.box.lt
 have HL:Hid (∀k:Nat,k<16->(Instr.lookup 169 (.map (some X.sb)) (.int .i64 (k:Int)) true).run Tryz.prog w=.ok (.tuple #[.int .i64 ((c.slots.getD k none).getD 0),.bool (c.slots.getD k none).isSome]) w):=hid (fun k hk=>h.slots.look hk (by decide) w rfl)
 clear h
 go_enter Tryz.func126,Tryz.ntmps126
 go_wp2
 go_loopw [9] (fun i wr=>wr=w/\∃k:Nat,k<=16/\i=.int .i64 k/\Hid (∀j,j<k->c.slots.getD j none≠some (n:Int))) (fun i _=>16 - (intOf i).toNat)
 case atStart=>exact⟨rfl,0,by omega,rfl,hid (fun j hj=>by omega)⟩
 case round=>
  obtain⟨rfl,k,hk,rfl,HJ⟩:=hrel
  by_cases hlt:k<16
  ·have hlz:(k:Int)<16:=by omega
   have hlk:=HL.out k hlt
   have HS:Hid (ZF n c.slots=if c.slots.getD k none=some (n:Int)then some k else ZF n c.slots):=hid (by
    have:=Zm5 (p:=fun s=>decide (c.slots.getD s none=some (n:Int))) (m:=16) (k:=k) hk (fun j hj=>decide_eq_false (HJ.out j hj))
    simpa [ZF,hlt] using this)
   generalize hsl:c.slots.getD k none=sl at hlk HS
   have HSL:=hid hsl
   clear hsl
   cases sl with
   | none=>
    simp only[Option.getD_none,Option.isSome_none]at hlk
    go_wp2
    go_roundw
    case rel => exact ⟨trivial, k + 1, by omega, by simp, hid (fun j hj => by
      rcases Nat.lt_or_ge j k with h1|h1
      · exact HJ.out j h1
      · obtain rfl:j=k:=by omega
        rw[HSL.out];simp)⟩
    case measure=>simp[intOf];omega
   | some u=>
    simp only[Option.getD_some,Option.isSome_some]at hlk
    by_cases hu:u=(n:Int)
    ·subst hu
     have HS2:Hid (ZF n c.slots=some k):=hid (by rw[HS.out,if_pos rfl])
     clear HS
     go_wp2
     go_ret2
     rw[HS2.out]
     exact⟨rfl,rfl⟩
    ·go_wp2
     go_roundw
     case rel => exact ⟨trivial, k + 1, by omega, by simp, hid (fun j hj => by
       rcases Nat.lt_or_ge j k with h1|h1
       · exact HJ.out j h1
       · obtain rfl:j=k:=by omega
         rw[HSL.out];simpa using hu)⟩
     case measure=>simp[intOf];omega
  ·obtain rfl:k=16:=by omega
   have HS2:Hid (ZF n c.slots=none):=hid (by
    unfold ZF
    rw[List.find?_eq_none]
    intro s hs
    simpa using HJ.out s (List.mem_range.1 hs))
   go_wp2
   go_ret2
   rw[HS2.out]
   exact⟨rfl,rfl⟩
theorem Zni(h:Co w X cv iv c) :
  Calls Tryz.prog 130 #[.pointer (some ⟨X.cb,0,none⟩)] w fun e w'=>e=.returned (.tuple #[.int .i64 ((ZbE c.slots).getD 0:Nat),.bool (ZbE c.slots).isSome])/\w'=w:=by
 have m2:w.cell? ⟨X.cb,2,none⟩=some (.map (some X.sb)):=h.box.cell 2
 have hml:=h.box.lt
 have HL:Hid (∀k:Nat,k<16->(Instr.lookup 169 (.map (some X.sb)) (.int .i64 (k:Int)) true).run Tryz.prog w=.ok (.tuple #[.int .i64 ((c.slots.getD k none).getD 0),.bool (c.slots.getD k none).isSome]) w):=hid (fun k hk=>h.slots.look hk (by decide) w rfl)
 clear h
 go_enter Tryz.func130,Tryz.ntmps130
 go_wp2
 go_loopw [7] (fun i wr=>wr=w/\∃k:Nat,k<=16/\i=.int .i64 k/\Hid (∀j,j<k->c.slots.getD j none≠none)) (fun i _=>16 - (intOf i).toNat)
 case atStart=>exact⟨rfl,0,by omega,rfl,hid (fun j hj=>by omega)⟩
 case round=>
  obtain⟨rfl,k,hk,rfl,HJ⟩:=hrel
  by_cases hlt:k<16
  ·have hlz:(k:Int)<16:=by omega
   have hlk:=HL.out k hlt
   have HS:Hid (ZbE c.slots=if c.slots.getD k none=none then some k else ZbE c.slots):=hid (by
    have:=Zm5 (p:=fun s=>decide (c.slots.getD s none=none)) (m:=16) (k:=k) hk (fun j hj=>decide_eq_false (HJ.out j hj))
    simpa [ZbE,hlt] using this)
   generalize hsl:c.slots.getD k none=sl at hlk HS
   have HSL:=hid hsl
   clear hsl
   cases sl with
   | none=>
    simp only[Option.getD_none,Option.isSome_none]at hlk
    have HS2:Hid (ZbE c.slots=some k):=hid (by rw[HS.out,if_pos rfl])
    clear HS
    go_wp2
    go_ret2
    rw[HS2.out]
    exact⟨rfl,rfl⟩
   | some u=>
    simp only[Option.getD_some,Option.isSome_some]at hlk
    go_wp2
    go_roundw
    case rel => exact ⟨trivial, k + 1, by omega, by simp, hid (fun j hj => by
      rcases Nat.lt_or_ge j k with h1|h1
      · exact HJ.out j h1
      · obtain rfl:j=k:=by omega
        rw[HSL.out];simp)⟩
    case measure=>simp[intOf];omega
  ·obtain rfl:k=16:=by omega
   have HS2:Hid (ZbE c.slots=none):=hid (by
    unfold ZbE
    rw[List.find?_eq_none]
    intro s hs
    simpa using HJ.out s (List.mem_range.1 hs))
   go_wp2
   go_ret2
   rw[HS2.out]
   exact⟨rfl,rfl⟩
end
end Go.Proofs.YtcdgkkfipdoeeaaGreatDoor
namespace Go.Proofs.YtcdgkkfipdoeeaaGreatDoor
open Go.RowKit LS
section
variable {P:Program} {ops:Array Oper} {Q:Exit->Act->World->Prop} {md:Region.Mode} {S:World->Prop} {k:Nat}
theorem Zd (i : Nat) {d : Nat} {oi : Oper} {v : Value} {f : Nat} {ls ls' : Array Bool} {a : Act} {tm' : Array Value} {w : World} (hS : S w) (hi : ops[i]? = some oi := by rfl) (hd : oi.dst = some d := by rfl) (hq : (Region.noSelect ops && Region.free md ops ls i && (Region.ready md ops ls).contains i && Zgb md ops i ops.size k && Ze1 md ops ls && i != k) = true := by kernel_rfl)
    (hQ:∀c a w,Q (.panic c) (a.put oi.dst v) w->Q (.panic c) a w:=by exact fun _ _ _ h=>h) (hy:YieldsIf P ops S oi v a:=by(refine Or.inl ⟨by rfl,?_⟩;intro w hSw;go_simp;try with_reducible rfl)) (hl:ls.setIfInBounds i true=ls':=by(try simp only[Zset]);rfl) (ht:a.tmps.setIfInBounds d v=tm':=by(try simp only[Zset]);rfl)
    (h:ZcZ P md ops Q S k f ls' { a with tmps:=tm' } w):ZcZ P md ops Q S k (f+1) ls a w:=by
  subst hl ht
  exact Zyg hi hd hq hQ hy hS h
end
end Go.Proofs.YtcdgkkfipdoeeaaGreatDoor
namespace Go.Proofs.YtcdgkkfipdoeeaaGreatDoor
open Go.RowKit LS
section
variable {w w' w1 w2:World} {X:CX} {cv iv cv' iv':Value} {c c':Cq} {S S1:Nat->Prop}
theorem Zj7(l:List (Option Int))(s j:Nat)(x:Option Int)(h:s<l.length):(l.set s x).getD j none=if j=s then x else l.getD j none:=by
 rw[List.getD_eq_getElem?_getD,List.getElem?_set]
 by_cases e:s=j
 ·subst e;simp[h]
 ·simp[e,Ne.symm e,List.getD_eq_getElem?_getD]
theorem Co.slotUpd (h : Co w X cv iv c) (hg : w.grownBy w' (some X.sb)) (hm : MapZ w' X.sb 16 (fun s => c'.slots.getD s none)) (hl : c'.slots.length = 16) (hc : c'.left = c.left /\ c'.consts = c.consts /\ c'.ins = c.ins) : Co w' X cv iv c' /\ KeepS (X.chg cv iv) w w' := by
  have N:=h.ne
  have hk:KeepS (fun k=>k=X.sb) w w':=KeepS.grown hg (fun _ e=>(Option.some.inj e).symm)
  refine⟨⟨hk.bat h.box N.cs,hk.bat h.gbox N.gs,h.gn,hk.own h.nrow (fun j hj=>by injection hj with hj;subst hj;exact N.ns),?_,hm,hl,?_,?_,?_,h.ne1,h.ne2,h.bas,Nat.le_trans h.bsz hk.size,h.nsz,h.nok,by rw[hc.1];exact h.lbd⟩,hk.mono (fun k e=>Or.inr (Or.inr (Or.inl e)))⟩
  · rw[hc.1];exact hk.own h.left (fun j hj=>by injection hj with hj;subst hj;exact N.ls)
  · obtain⟨f,hf⟩:=h.tak
    exact⟨f,hf.move (hk.block _ hf.lt N.st.symm)⟩
  · rw[hc.2.1];exact hk.own h.cons (fun j hj e=>by subst e;exact N.scv hj)
  · rw[hc.2.2];exact hk.own h.ins (fun j hj e=>by subst e;exact N.siv hj)
theorem CoP.of(h:Co w' X cv iv c/\KeepS (X.chg cv iv) w w'):CoP w w' X cv iv c:=⟨cv,iv,h.1,h.2,fun _ h=>Or.inl h,fun _ h=>Or.inl h⟩
theorem Co.slotSet(h:Co w X cv iv c){s:Nat}(hs:s<16){v:Int}(hv:(Lit.int .i64 v).wf=true) :
  ∃w',(Instr.mapUpdate 169 (.map (some X.sb)) (.int .i64 (s:Int)) (.int .i64 v)).run Tryz.prog w=.ok () w'/\Co w' X cv iv { c with slots:=c.slots.set s (some v) }/\KeepS (X.chg cv iv) w w':=by
 obtain⟨w',hr,hm,hg⟩:=h.slots.put hs (by decide) hv w rfl
 refine⟨w',hr,h.slotUpd hg (hm.congr (fun k _=>?_)) ?_ ⟨rfl,rfl,rfl⟩⟩
 ·exact Zj7 c.slots s k (some v) (by rw[h.slen];exact hs)
 ·show(c.slots.set s (some v)).length=16
  rw[List.length_set];exact h.slen
theorem Co.slotDel(h:Co w X cv iv c){s:Nat}(hs:s<16) :
  ∃w',(∀ty,(Builtin.delete_ #[169,3] ty #[.map (some X.sb),.int .i64 (s:Int)]).run Tryz.prog w=.ok (.tuple #[]) w')/\Co w' X cv iv { c with slots:=c.slots.set s none }/\KeepS (X.chg cv iv) w w':=by
 obtain⟨w',hr,hm,hg⟩:=h.slots.del hs (by decide) w rfl
 refine⟨w',hr,h.slotUpd hg (hm.congr (fun k _=>?_)) ?_ ⟨rfl,rfl,rfl⟩⟩
 ·exact Zj7 c.slots s k none (by rw[h.slen];exact hs)
 ·show(c.slots.set s none).length=16
  rw[List.length_set];exact h.slen
theorem ZnR(h:Co w X cv iv c)(n s:Nat)(hl:c.ins.length<=1000000)(hs:s<16)(hn:n<=1000000) :
  Calls Tryz.prog 131 #[.pointer (some ⟨X.cb,0,none⟩),.int .i64 n,.int .i64 s] w fun e w'=>e=.returned (.tuple #[])/\Hid (CoP w w' X cv iv (ZT n s c)):=by
 have HE:=hid (Zfh h 12 s hl)
 clear h
 go_enter Tryz.func131,Tryz.ntmps131
 go_wp2_with fail
 refine HE.mono ?_
 rintro e w1 ⟨rfl,HP⟩
 obtain⟨cv1,iv1,HC,HK,HF1,HF2⟩:=HP.out
 have HC:=hid HC
 have HK:=hid HK
 have HF1:=hid HF1
 have HF2:=hid HF2
 clear HP HE
 obtain⟨w2,hr,hq⟩:=HC.slotSet hs (v:=n) (Zgc (by omega))
 have HQ:=hid hq
 clear hq
 have m2:w1.cell? ⟨X.cb,2,none⟩=some (.map (some X.sb)):=HC.box.cell 2
 have hml:=HC.box.lt
 go_wp2
 exact bodyPost_end (v:=.tuple #[]) (results_none rfl _ _ _) rfl ⟨rfl,hid (CoP.trans HK.out HF1.out HF2.out (CoP.of HQ.out))⟩
theorem Co.node(h:Co w X cv iv c){n:Nat}(hn:n<X.nodes.length):w.cell? ⟨X.nb,n*4,none⟩=some (.int .i64 (X.nodes.getD n nq0).op)/\w.cell? ⟨X.nb,n*4+1,none⟩=some (.int .i64 (X.nodes.getD n nq0).arg)/\w.cell? ⟨X.nb,n*4+2,none⟩=some (.int .i64 (nI (X.nodes.getD n nq0).fs))/\w.cell? ⟨X.nb,n*4+3,none⟩=some (.int .i64 (nI (X.nodes.getD n nq0).sn)):=by
 have g : ∀ j, j < 4 -> (X.nodes.flatMap nodC)[n * 4 + j]? = (nodC (X.nodes.getD n nq0))[j]? := fun j hj => by
   rw[ZfF nodC 4 (fun _=>rfl) X.nodes n j hn hj];simp[hn]
 exact⟨Zr h.nrow _ _ (g 0 (by decide)),Zr h.nrow _ _ (g 1 (by decide)),Zr h.nrow _ _ (g 2 (by decide)),Zr h.nrow _ _ (g 3 (by decide))⟩
theorem Co.nodeOk(h:Co w X cv iv c){n:Nat}(hn:n<X.nodes.length):NOne n (X.nodes.getD n nq0):=by
 have:=h.nok n hn
 simpa [hn] using this
def TkR(w w':World)(l:List Nat)(v:Value):Prop:=∃a k,v=.slice a l.length k/\(0<l.length->∃b,a=some ⟨b,0,none⟩/\w.heap.size<=b/\b<w'.heap.size/\∀j (hj:j<l.length),w'.cell? ⟨b,j,none⟩=some (intC l[j]))
theorem Zlz(x:Nq)(w:World)(hx:x.fs=none->x.sn=none) :
  Calls Tryz.prog 179 #[.agg #[.int .i64 x.op,.int .i64 x.arg,.int .i64 (nI x.fs),.int .i64 (nI x.sn)]] w fun e w'=>∃v,e=.returned v/\Below w.heap.size w w'/\Hid (TkR w w' (Zg x) v):=by
 obtain⟨op,arg,fs,sn⟩:=x
 cases fs with
 | none=>
  obtain rfl:sn=none:=hx rfl
  go_enter Tryz.func179,Tryz.ntmps179
  simp only[nI]
  go_wp2
  go_ret
  exact⟨_,rfl,belB,hid ⟨_,_,rfl,fun h=>absurd h (by simp[Zg])⟩⟩
 | some a=>
  have ha:(a:Int)≠-1:=by omega
  cases sn with
  | none=>
   go_enter Tryz.func179,Tryz.ntmps179
   simp only[nI]
   go_wp2
   go_ret
   refine⟨_,rfl,belB,hid ⟨_,_,rfl,fun h=>⟨_,rfl,by simp,by simp,fun j hj=>?_⟩⟩⟩
   obtain rfl:j=0:=by simp[Zg]at hj;omega
   simp[Zg,intC]
  | some b=>
   have hb:(b:Int)≠-1:=by omega
   go_enter Tryz.func179,Tryz.ntmps179
   simp only[nI]
   go_wp2
   go_ret
   refine⟨_,rfl,belB,hid ⟨_,_,rfl,fun h=>⟨_,rfl,by simp,by simp,fun j hj=>?_⟩⟩⟩
   rcases(by simp[Zg]at hj;omega:j=0∨j=1)with rfl|rfl <;> simp[Zg,intC]
theorem Zqs(h:Co w X cv iv c)(n:Nat)(hn:n<X.nodes.length) :
  Calls Tryz.prog 129 #[.pointer (some ⟨X.cb,0,none⟩),.int .i64 n] w fun e w'=>e=.returned (.bool (Zcc X.nodes n))/\Below w.heap.size w w':=by
 have m0:w.cell? ⟨X.cb,0,none⟩=some (.pointer (some ⟨X.gb,0,none⟩)):=h.box.cell 0
 have g2:w.cell? ⟨X.gb,2,none⟩=some (.slice (some ⟨X.nb,0,none⟩) X.nodes.length X.nc):=(h.gbox.cell 2).trans h.gn
 have hml:=h.box.lt
 have hgl:=h.gbox.lt
 have hnl:=Zbq h.nrow
 have hnz:(n:Int)<X.nodes.length:=by omega
 obtain⟨q0,q1,q2,q3⟩:=h.node hn
 have HQ:=hid (h.nodeOk hn)
 have HN:=hid (fun k hk=>h.node (n:=k) hk)
 have HWQ:Hid (Zcc X.nodes n=decide ((if (X.nodes.getD n nq0).op=4 then X.nodes.getD ((X.nodes.getD n nq0).fs.getD 0) nq0 else X.nodes.getD n nq0).op≠0/\(if (X.nodes.getD n nq0).op=4 then X.nodes.getD ((X.nodes.getD n nq0).fs.getD 0) nq0 else X.nodes.getD n nq0).op≠1)):=hid rfl
 obtain⟨x,hx⟩:∃x,x=X.nodes.getD n nq0:=⟨_,rfl⟩
 rw[<-hx]at q0 q1 q2 q3 HQ HWQ
 clear h hx
 obtain⟨L,hL⟩:∃L,L=X.nodes.length:=⟨_,rfl⟩
 rw[<-hL]at g2 hnz hn
 have HL:=hid hL
 clear hL
 go_enter Tryz.func129,Tryz.ntmps129
 by_cases h4:x.op=4
 ·obtain⟨a,ha⟩:=HQ.neg h4
  have hal:a<L:=by
   have:=HQ.low a (by unfold Zg;rw[ha];cases x.sn <;> simp)
   omega
  have haz:(a:Int)<L:=by omega
  rw[ha]at q2
  simp only[nI]at q2
  obtain⟨p0,p1,p2,p3⟩:=HN.out a (by rw[<-HL.out];exact hal)
  rw[h4]at q0
  have HW2:Hid (Zcc X.nodes n=decide ((X.nodes.getD a nq0).op≠0/\(X.nodes.getD a nq0).op≠1)):=hid (by rw[HWQ.out,if_pos h4,ha];rfl)
  clear HWQ HQ ha h4 HN
  obtain⟨y,hy⟩:∃y,y=X.nodes.getD a nq0:=⟨_,rfl⟩
  rw[<-hy]at p0 p1 p2 p3 HW2
  clear hy
  generalize hs:nI x.sn=xs at q3
  generalize hs1:nI y.sn=y3 at p3
  generalize hs2:nI y.fs=y2 at p2
  clear hs hs1 hs2
  go_upto_region 3 with fail
  refine Z9 fun W hW=>?_
  have hbW:Below w.heap.size w W:=by rw[hW];exact belB
  have HAW:Hid (BAt W w.heap.size [.int .i64 4,.int .i64 x.arg,.int .i64 a,.int .i64 xs] 232):=hid (by rw[hW];exact(show BAt _ _ _ _ from Go.Deep.blk_alloc_new w _))
  have HBD:Hid (Below w.heap.size w W.drew):=hid hbW.drew
  have HAD:Hid (BAt W.drew w.heap.size [.int .i64 4,.int .i64 x.arg,.int .i64 a,.int .i64 xs] 232):=hid HAW.out
  clear hW hbW HAW
  refine Zcm 11 (fun w'=>w'.cell? ⟨X.cb,0,none⟩=some (.pointer (some ⟨X.gb,0,none⟩))/\w'.cell? ⟨X.gb,2,none⟩=some (.slice (some ⟨X.nb,0,none⟩) L X.nc)/\w'.cell? ⟨w.heap.size,2,none⟩=some (.int .i64 a)/\w'.cell? ⟨X.nb,a*4,none⟩=some (.int .i64 y.op)/\w'.cell? ⟨X.nb,a*4+1,none⟩=some (.int .i64 y.arg)/\w'.cell? ⟨X.nb,a*4+2,none⟩=some (.int .i64 y2)/\w'.cell? ⟨X.nb,a*4+3,none⟩=some (.int .i64 y3)) (by kernel_rfl) ?_ (fun hHeld=>?_)
  ·have hc:∀b o,b<w.heap.size->W.drew.cell? ⟨b,o,none⟩=w.cell? ⟨b,o,none⟩:=fun b o h=>HBD.cell (p:=⟨b,o,none⟩) h
   exact⟨(hc _ _ hml).trans m0,(hc _ _ hgl).trans g2,HAD.cell 2,(hc _ _ hnl).trans p0,(hc _ _ hnl).trans p1,(hc _ _ hnl).trans p2,(hc _ _ hnl).trans p3⟩
  refine Zd 0 hHeld (h:=?_)
  refine Zd 1 hHeld (h:=?_)
  refine Zd 2 hHeld (h:=?_)
  refine Zd 3 hHeld (h:=?_)
  refine Zd 4 hHeld (h:=?_)
  refine Zd 5 hHeld (h:=?_)
  refine Zd 6 hHeld (h:=?_)
  refine Zd 7 hHeld (h:=?_)
  refine Zd 8 hHeld (h:=?_)
  refine Zd 9 hHeld (h:=?_)
  refine Zd 10 hHeld (h:=?_)
  refine Zcq (by kernel_rfl) (by kernel_rfl) rfl (by kernel_rfl) (fun K hK=>?_)
  have ml:w.heap.size<W.heap.size:=HAD.lt
  have f0:W.frozen? ⟨w.heap.size,0,none⟩=false:=HAD.frozen 0
  have f1:W.frozen? ⟨w.heap.size,1,none⟩=false:=HAD.frozen 1
  have f2:W.frozen? ⟨w.heap.size,2,none⟩=false:=HAD.frozen 2
  have f3:W.frozen? ⟨w.heap.size,3,none⟩=false:=HAD.frozen 3
  have k0:W.cell? ⟨w.heap.size,0,none⟩=some (.int .i64 4):=HAD.cell 0
  have k1:W.cell? ⟨w.heap.size,1,none⟩=some (.int .i64 x.arg):=HAD.cell 1
  have k2:W.cell? ⟨w.heap.size,2,none⟩=some (.int .i64 a):=HAD.cell 2
  have k3:W.cell? ⟨w.heap.size,3,none⟩=some (.int .i64 xs):=HAD.cell 3
  go_simp
  refine hK.out _ _ ?_
  clear hHeld hK K k0 k1 k2 k3 f0 f1 f2 f3
  have HBF:Hid (Below w.heap.size w ((((W.setCell ⟨w.heap.size,0,none⟩ (.int .i64 y.op)).setCell ⟨w.heap.size,1,none⟩ (.int .i64 y.arg)).setCell ⟨w.heap.size,2,none⟩ (.int .i64 y2)).setCell ⟨w.heap.size,3,none⟩ (.int .i64 y3)).drew):=hid (by
   have h1:Below w.heap.size w W:=⟨HBD.os,HBD.tape,HBD.output,HBD.size,HBD.block⟩
   exact((((h1.setCell (p:=⟨w.heap.size,0,none⟩) (Nat.le_refl _) _).setCell (p:=⟨w.heap.size,1,none⟩) (Nat.le_refl _) _).setCell (p:=⟨w.heap.size,2,none⟩) (Nat.le_refl _) _).setCell (p:=⟨w.heap.size,3,none⟩) (Nat.le_refl _) _).drew)
  have HA4:Hid (BAt ((((W.setCell ⟨w.heap.size,0,none⟩ (.int .i64 y.op)).setCell ⟨w.heap.size,1,none⟩ (.int .i64 y.arg)).setCell ⟨w.heap.size,2,none⟩ (.int .i64 y2)).setCell ⟨w.heap.size,3,none⟩ (.int .i64 y3)).drew w.heap.size [.int .i64 y.op,.int .i64 y.arg,.int .i64 y2,.int .i64 y3] 232):=hid ((((show BAt W w.heap.size _ _ from HAD.out).setC 0 _).setC 1 _).setC 2 _ |>.setC 3 _)
  generalize((((W.setCell ⟨w.heap.size,0,none⟩ (.int .i64 y.op)).setCell ⟨w.heap.size,1,none⟩ (.int .i64 y.arg)).setCell ⟨w.heap.size,2,none⟩ (.int .i64 y2)).setCell ⟨w.heap.size,3,none⟩ (.int .i64 y3)).drew=W4 at *
  have k0:W4.cell? ⟨w.heap.size,0,none⟩=some (.int .i64 y.op):=HA4.cell 0
  have ml4:=HA4.lt
  go_wp2
  all_goals
   go_ret
   refine⟨ZdR ?_,HBF.out⟩
   rw[HW2.out,Bool.eq_iff_iff]
   simp
   try omega
 ·have h4z:(x.op:Int)≠4:=by omega
  have HW2:Hid (Zcc X.nodes n=decide (x.op≠0/\x.op≠1)):=hid (by rw[HWQ.out,if_neg h4])
  clear HWQ HQ HN
  go_wp2
  all_goals
   go_ret
   refine⟨ZdR ?_,belB⟩
   rw[HW2.out,Bool.eq_iff_iff]
   simp
   try omega
end
end Go.Proofs.YtcdgkkfipdoeeaaGreatDoor
namespace Go.Proofs.YtcdgkkfipdoeeaaGreatDoor
open Go.RowKit LS
section
variable {w w' w1 w2:World} {X:CX} {cv iv cv' iv':Value} {c c':Cq} {S S1:Nat->Prop}
theorem ZeO(l:List Nat)(n j:Nat)(h:n<l.length):(bump l n).getD j 0=if j=n then l.getD n 0+1 else l.getD j 0:=by
 unfold bump
 rw[List.getD_eq_getElem?_getD,List.getElem?_set]
 by_cases e:n=j
 ·subst e;simp[h]
 ·simp[e,Ne.symm e,List.getD_eq_getElem?_getD]
theorem Zd3(l:List Nat)(n:Nat):(bump l n).length=l.length:=by simp[bump]
theorem Zj2{α:Type}{f:List Nat->α->List Nat}(hf:∀l x,(f l x).length=l.length):∀(t:List α) (l:List Nat),(t.foldl f l).length=l.length
 | [],_=>rfl
 | x::t,l=>by rw[List.foldl_cons,Zj2 hf t,hf]
theorem Zhy(nodes:List Nq)(sl:List (Option Int)):∀(f n:Nat) (k:List Nat),(cntQ nodes sl f n k).length=k.length
 | 0,_,_=>rfl
 | f + 1, n, k => by
   unfold cntQ
   simp only
   split
   · exact Zd3 _ _
   · rw[Zj2 (fun l x=>Zhy nodes sl f x l),Zd3]
theorem Zlp:∀(l:List Nat) (n:Nat),n<l.length->(bump l n).sum=l.sum+1
 | x::l,0,_=>by simp[bump];omega
 | x :: l, n + 1, h => by
   have:=Zlp l n (by simpa using h)
   simp only[bump,List.set_cons_succ,List.sum_cons,List.getD_cons_succ]at this ⊢
   omega
theorem Zid:∀(l:List Nat) (n:Nat),l.getD n 0<=l.sum
 | [],n=>by simp
 | x::l,0=>by simp
 | x::l,n+1=>by have:=Zid l n;simp only[List.getD_cons_succ,List.sum_cons];omega
def takF(k:List Nat)(n:Nat):Option Int:=if k.getD n 0=0 then none else some (k.getD n 0:Nat)
def CoT(w:World)(X:CX)(cv iv:Value)(c:Cq)(k:List Nat):Prop:=Co w X cv iv c/\MapZ w X.tb X.nodes.length (takF k)/\k.length=X.nodes.length
theorem Co.takUpd(h:Co w X cv iv c)(hg:w.grownBy w' (some X.tb)){f:Nat->Option Int}(hm:MapZ w' X.tb X.nodes.length f):Co w' X cv iv c:=by
 have N:=h.ne
 have hk:KeepS (fun k=>k=X.tb) w w':=KeepS.grown hg (fun _ e=>(Option.some.inj e).symm)
 exact⟨hk.bat h.box N.ct,hk.bat h.gbox N.gt,h.gn,hk.own h.nrow (fun j hj=>by injection hj with hj;subst hj;exact N.nt),hk.own h.left (fun j hj=>by injection hj with hj;subst hj;exact N.lt),h.slots.move (hk.block _ h.slots.lt N.st),h.slen,⟨f,hm⟩,hk.own h.cons (fun j hj e=>by subst e;exact N.tcv hj),hk.own h.ins (fun j hj e=>by subst e;exact N.tiv hj),h.ne1,h.ne2,h.bas,Nat.le_trans h.bsz hk.size,h.nsz,h.nok,h.lbd⟩
theorem CoT.below{k:List Nat}(h:CoT w X cv iv c k)(hb:Below w.heap.size w w'):CoT w' X cv iv c k:=⟨h.1.below hb,h.2.1.move (hb.block _ h.2.1.lt),h.2.2⟩
theorem CoT.inc{k:List Nat}(h:CoT w X cv iv c k){n:Nat}(hn:n<X.nodes.length)(hb:k.sum<=1000000000) :
  (Instr.lookup 169 (.map (some X.tb)) (.int .i64 (n:Int)) false).run Tryz.prog w=.ok (.int .i64 (k.getD n 0:Nat)) w/\∃w',(Instr.mapUpdate 169 (.map (some X.tb)) (.int .i64 (n:Int)) (.int .i64 ((k.getD n 0:Nat)+1))).run Tryz.prog w=.ok () w'/\CoT w' X cv iv c (bump k n)/\w.grownBy w' (some X.tb):=by
 have hsz:=h.1.nsz
 have hle:=Zid k n
 refine⟨?_,?_⟩
 ·have:=h.2.1.get hn (by omega) w rfl
  rw[this]
  unfold takF
  split
  ·rename_i h0;rw[h0];rfl
  ·rfl
 ·obtain⟨w',hr,hm,hg⟩:=h.2.1.put (v:=((k.getD n 0:Nat)+1)) hn (by omega) (Zgc (k:=k.getD n 0+1) (by omega)) w rfl
  have hm2 : MapZ w' X.tb X.nodes.length (takF (bump k n)) := hm.congr (fun j hj => by
    unfold takF
    rw[ZeO k n j (by rw[h.2.2];exact hn)]
    by_cases e:j=n
    · simp[e]
    · simp[e])
  exact⟨w',hr,⟨h.1.takUpd hg hm2,hm2,by rw[Zd3];exact h.2.2⟩,hg⟩
theorem CoT.get{k:List Nat}(h:CoT w X cv iv c k){n:Nat}(hn:n<X.nodes.length):(Instr.lookup 169 (.map (some X.tb)) (.int .i64 (n:Int)) false).run Tryz.prog w=.ok (.int .i64 (k.getD n 0:Nat)) w:=by
 have hsz:=h.1.nsz
 rw[h.2.1.get hn (by omega) w rfl]
 unfold takF
 split
 ·rename_i h0;rw[h0];rfl
 ·rfl
theorem Zmq(nodes:List Nq)(sl:List (Option Int)):∀(f n:Nat) (k:List Nat),k.sum<=(cntQ nodes sl f n k).sum:=by
 intro f
 induction f with
 | zero=>intro n k;exact Nat.le_refl _
 | succ f ih=>
  intro n k
  have hb : ∀ l : List Nat, l.sum <= (bump l n).sum := fun l => by
    by_cases h:n<l.length
    · rw[Zlp l n h];omega
    · unfold bump;rw[List.set_eq_of_length_le (by omega)];exact Nat.le_refl _
  unfold cntQ
  simp only
  split
  ·exact hb k
  ·refine Nat.le_trans (hb k) ?_
   generalize bump k n=k1
   generalize Zg (nodes.getD n nq0)=ts
   induction ts generalizing k1 with
   | nil=>exact Nat.le_refl _
   | cons t ts ih2=>rw[List.foldl_cons];exact Nat.le_trans (ih t k1) (ih2 _)
end
end Go.Proofs.YtcdgkkfipdoeeaaGreatDoor

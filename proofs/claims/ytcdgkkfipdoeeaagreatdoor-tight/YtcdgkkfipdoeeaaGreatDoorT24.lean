/- Parts. -/
import Derived.Test.YtcdgkkfipdoeeaaGreatDoorT23
import Derived.Test.YtcdgkkfipdoeeaaGreatDoorT14
import Derived.Lib.AppendStr
import Derived.Test.YtcdgkkfipdoeeaaGreatDoorT02
import Derived.Laws.IdiomStrings
set_option maxRecDepth 100000
set_option maxHeartbeats 16000000
namespace Go.Proofs.YtcdgkkfipdoeeaaGreatDoor
open Go.RowKit LS
section
variable {w w' w1:World} {B:Nat}
def Z5(l:List (Nat×Nat)):Prop:=∀x∈l,x.1=10->x.2<=l.length
theorem ZnM{l:List (Nat×Nat)}(h:Z5 l)(i:Nat):Z5 (Zcv l i)/\(Zcv l i).length=l.length:=by
 unfold Zcv
 split
 ·rename_i hc
  refine⟨fun x hx hx10=>?_,by simp⟩
  rw[List.length_set]
  rcases List.mem_or_eq_of_mem_set hx with hx|hx
  ·exact h x hx hx10
  ·rw[hx]
   have:l.getD (l.getD i (0,0)).2 (0,0)∈l:=by
    rw[List.getD_eq_getElem?_getD,List.getElem?_eq_getElem hc.2.1]
    exact List.getElem_mem _
   show(l.getD (l.getD i (0,0)).2 (0,0)).2<=l.length
   exact h _ this hc.2.2
 ·exact⟨h,rfl⟩
theorem ZvW{g n cap:Nat}{l:List (Nat×Nat)}(h:w.ownsRow B 159 2 (.slice (some ⟨g,0,none⟩) n cap) n (l.flatMap insC)){k v:Nat}(hk:k<l.length)(h10:l[k].1=10):(w.setCell ⟨g,k*2+1,none⟩ (.int .i64 v)).ownsRow B 159 2 (.slice (some ⟨g,0,none⟩) n cap) n ((l.set k (10,v)).flatMap insC):=by
 have:=ZoR h (k*2+1) (.int .i64 v)
 rwa [ZjY l k v hk h10]at this
theorem ZkX{g n cap:Nat}{l:List (Nat×Nat)}(h:w.ownsRow B 159 2 (.slice (some ⟨g,0,none⟩) n cap) n (l.flatMap insC)){k:Nat}(hk:k<l.length):w.cell? ⟨g,k*2,none⟩=some (.int .i64 (l.getD k (0,0)).1)/\w.cell? ⟨g,k*2+1,none⟩=some (.int .i64 (l.getD k (0,0)).2):=by
 have q : ∀ j, j < 2 -> (l.flatMap insC)[k * 2 + j]? = (insC (l.getD k (0, 0)))[j]? := fun j hj => by
   rw[ZfF insC 2 (fun _=>rfl) l k j hk hj];simp[hk]
 exact⟨Zr h _ _ (q 0 (by decide)),Zr h _ _ (q 1 (by decide))⟩
theorem Zyr(w:World)(g cap:Nat)(l:List (Nat×Nat))(h:w.ownsRow B 159 2 (.slice (some ⟨g,0,none⟩) l.length cap) l.length (l.flatMap insC))(hj:Z5 l)(hl:l.length<=1000000) :
  Calls Tryz.prog 78 #[.slice (some ⟨g,0,none⟩) l.length cap] w fun e w'=>e=.returned (.tuple #[])/\Hid (w'.ownsRow B 159 2 (.slice (some ⟨g,0,none⟩) l.length cap) l.length ((ZbR l).flatMap insC))/\Hid (w.grownBy w' (some g)):=by
 have HO:=hid h
 have HJ:=hid hj
 obtain⟨L,hL⟩:∃L,L=l.length:=⟨_,rfl⟩
 rw[<-hL]at HO hl ⊢
 have HL:=hid hL
 have HQ:Hid (ZbR l=ZdC L l):=hid (by unfold ZbR;rw[hL])
 clear h hj hL
 have hs1:IntKind.i64.wrap ((L:Int) - 1)=(L:Int) - 1:=by rw[IntKind.wrap_i64];omega
 go_enter Tryz.func78,Tryz.ntmps78
 go_wp2
 go_loopw [2] (fun i wr=>∃(k:Nat) (l':List (Nat×Nat)),k<=L/\i=.int .i64 ((k:Int) - 1)/\Hid (wr.ownsRow B 159 2 (.slice (some ⟨g,0,none⟩) L cap) L (l'.flatMap insC))/\Hid (Z5 l'/\l'.length=L)/\Hid (ZdC L l=ZdC k l')/\Hid (w.grownBy wr (some g))) (fun i _=>(intOf i+1).toNat)
 case atStart=>exact⟨L,l,Nat.le_refl _,rfl,HO,hid ⟨HJ.out,HL.symm⟩,hid rfl,hid (World.grownBy.refl _ _)⟩
 case round=>
  obtain⟨k,l',hk,rfl,HOr,HJr,HTr,HGr⟩:=hrel
  by_cases hk0:0<k
  ·obtain⟨i,rfl⟩:∃i,k=i+1:=⟨k - 1,by omega⟩
   have hlen:=HJr.2
   have hil:i<l'.length:=by omega
   have hii:((i+1:Nat):Int) - 1=i:=by omega
   rw[hii]
   have hiz:(0:Int)<=i:=by omega
   have hiL:(i:Int)<L:=by omega
   have hsi:IntKind.i64.wrap ((i:Int) - 1)=(i:Int) - 1:=by rw[IntKind.wrap_i64];omega
   obtain⟨c0',c1'⟩:=ZkX HOr.out hil
   have hgl:=Zbq HOr.out
   have HST:Hid (ZdC (i+1) l'=ZdC i (Zcv l' i)):=hid rfl
   have HSJ:=hid (ZnM HJr.1 i)
   have HSD:Hid (Zcv l' i=if (l'.getD i (0,0)).1=10/\(l'.getD i (0,0)).2<l'.length/\(l'.getD (l'.getD i (0,0)).2 (0,0)).1=10 then l'.set i (10,(l'.getD (l'.getD i (0,0)).2 (0,0)).2)else l'):=hid rfl
   have HMEM : Hid ((l'.getD i (0, 0)).1 = 10 -> (l'.getD i (0, 0)).2 <= L) := hid (fun h10 => by
     have:l'.getD i (0,0)∈l':=by rw[List.getD_eq_getElem?_getD,List.getElem?_eq_getElem hil];exact List.getElem_mem _
     have:=HJr.1 _ this h10
     omega)
   have HG10:Hid ((l'.getD i (0,0)).1=10->l'[i].1=10):=hid (fun h=>by rw[<-h];simp[hil])
   have HIN:=hid (fun(t:Nat) (ht:t<l'.length)=>ZkX HOr.out ht)
   rw[hlen]at HSD HIN
   generalize l'.getD i (0,0)=x at *
   obtain⟨op,arg⟩:=x
   simp only at c0' c1' HSD HMEM HG10
   by_cases h10:op=10
   ·subst h10
    have harg:=HMEM.out rfl
    by_cases hend:arg=L
    ·subst hend
     have HS2:Hid (Zcv l' i=l'):=hid (by rw[HSD.out,if_neg (fun h=>absurd h.2.1 (Nat.lt_irrefl _))])
     go_wp2
     go_roundw
     case rel=>exact⟨i,l',by omega,rfl,HOr,HJr,hid (by rw[HTr.out,HST.out,HS2.out]),HGr⟩
     case measure=>first|(simp[intOf];omega)|simp[intOf]
    ·have hal:arg<L:=by omega
     have haz:(arg:Int)≠L:=by omega
     have haz2:(arg:Int)<L:=by omega
     obtain⟨d0,d1⟩:=HIN.out arg hal
     generalize l'.getD arg (0,0)=y at *
     obtain⟨op2,arg2⟩:=y
     simp only at d0 d1 HSD
     by_cases h2:op2=10
     ·subst h2
      have HS2:Hid (Zcv l' i=l'.set i (10,arg2)):=hid (by rw[HSD.out,if_pos ⟨by trivial,hal,by trivial⟩])
      have fz:=Zir HOr.out (i*2+1)
      have HOS:Hid ((wr.setCell ⟨g,i*2+1,none⟩ (.int .i64 arg2)).ownsRow B 159 2 (.slice (some ⟨g,0,none⟩) L cap) L ((l'.set i (10,arg2)).flatMap insC)):=hid (ZvW HOr.out hil (HG10.out rfl))
      have HGS:Hid (w.grownBy (wr.setCell ⟨g,i*2+1,none⟩ (.int .i64 arg2)) (some g)):=hid (Zbm HGr.out (Or.inl rfl) _)
      go_wp2
      go_roundw
      case rel=>exact⟨i,_,by omega,rfl,HOS,hid (by rw[<-HS2.out];exact⟨HSJ.1,HSJ.2.trans hlen⟩),hid (by rw[HTr.out,HST.out,HS2.out]),HGS⟩
      case measure=>first|(simp[intOf];omega)|simp[intOf]
     ·have h2z:(op2:Int)≠10:=by omega
      have HS2:Hid (Zcv l' i=l'):=hid (by rw[HSD.out,if_neg (fun h=>h2 h.2.2)])
      go_wp2
      go_roundw
      case rel=>exact⟨i,l',by omega,rfl,HOr,HJr,hid (by rw[HTr.out,HST.out,HS2.out]),HGr⟩
      case measure=>first|(simp[intOf];omega)|simp[intOf]
   ·have h10z:(op:Int)≠10:=by omega
    have HS2:Hid (Zcv l' i=l'):=hid (by rw[HSD.out,if_neg (fun h=>h10 h.1)])
    go_wp2
    go_roundw
    case rel=>exact⟨i,l',by omega,rfl,HOr,HJr,hid (by rw[HTr.out,HST.out,HS2.out]),HGr⟩
    case measure=>first|(simp[intOf];omega)|simp[intOf]
  ·obtain rfl:k=0:=by omega
   have HF:Hid (ZbR l=l'):=hid (by rw[HQ.out,HTr.out];rfl)
   go_wp2
   exact bodyPost_end (v:=.tuple #[]) (results_none rfl _ _ _) rfl ⟨rfl,hid (by rw[HF.out];exact HOr.out),HGr⟩
end
end Go.Proofs.YtcdgkkfipdoeeaaGreatDoor
namespace Go.Proofs.YtcdgkkfipdoeeaaGreatDoor
open Go.RowKit LS
section
variable {w0 w w' w1 w2:World} {X:GX} {Y:CX} {nv uv sv rv cv iv cv' iv':Value} {sl:List SelC} {rl:List RowC} {g:Gq} {c c' d:Cq} {nodes:List Nq} {W:Nat->Cq->Cq} {n x y:Nat} {l:List (Nat×Nat)}
theorem ZnJ (h : Z5 l) {z : Nat × Nat} (hz : z.1 = 10 -> z.2 <= l.length + 1) : Z5 (l ++ [z]) := fun q hq h10 => by
  rw[List.length_append,List.length_singleton]
  rcases List.mem_append.1 hq with h1|h1
  · have:=h q h1 h10;omega
  · rw[List.mem_singleton]at h1;subst h1;exact hz h10
theorem Zfl(h:Z5 c.ins){op:Nat}(arg:Nat)(ho:op≠10):Z5 (Zh op arg c).ins:=ZnJ h (fun e=>absurd e ho)
theorem ZnL(h:Z5 c.ins)(n s:Nat):Z5 (ZT n s c).ins:=Zfl (op:=12) h s (by decide)
theorem Zh2(hW:∀z c,Z5 c.ins->Z5 (W z c).ins)(h:Z5 c.ins):Z5 (putQ nodes W n c).ins:=by
 cases hs:ZF n c.slots with
 | some s=>
  rw[ZdP hs]
  split
  ·exact Zfl (c:=decL n c) (op:=13) h s (by decide)
  ·exact Zfl (c:=decL n c) (op:=13) h s (by decide)
 | none=>
  rw[Zci hs]
  have h1:=hW n (decL n c) h
  split
  ·exact h1
  ·split
   ·exact Zfl (op:=13) (ZnL h1 _ _) _ (by decide)
   ·exact h1
theorem ZnI(hW:∀z c,Z5 c.ins->Z5 (W z c).ins):∀(k:Nat) (c:Cq),Z5 c.ins->Z5 (ZP nodes W n k c).ins
 | 0,c,h=>h
 | k + 1, c, h => by
   unfold ZP
   split
   · rename_i z s _ _
     exact ZnI hW k _ (ZnL (hW z { c with slots:=c.slots.set s (some (-1)) } h) z s)
   · exact h
theorem ZtF(hW:∀z c,Z5 c.ins->Z5 (W z c).ins)(h:Z5 c.ins):Z5 (Zbl nodes W x y c).ins:=by
 unfold Zbl
 simp only
 have h1:=Zh2 (nodes:=nodes) (n:=x) hW (ZnI (nodes:=nodes) (n:=y) hW (y+2) c h)
 generalize putQ nodes W x (ZP nodes W y (y+2) c)=c1 at *
 have h2:=Zh2 (nodes:=nodes) (n:=y) hW (Zfl (c:=Zh 10 0 c1) (op:=11) (ZnJ (z:=(10,0)) h1 (fun _=>Nat.zero_le _)) 0 (by decide))
 intro z hz h10
 rw[List.length_set]
 rcases List.mem_or_eq_of_mem_set hz with h3|h3
 ·exact h2 z h3 h10
 ·rw[h3];exact Nat.le_refl _
theorem ZnK (hW : ∀ z c, Z5 c.ins -> Z5 (W z c).ins) : ∀ (ts : List Nat) (c : Cq), Z5 c.ins -> Z5 (ts.foldl (fun c t => putQ nodes W t c) c).ins
  | [],c,h=>h
  | t::ts,c,h=>by rw[List.foldl_cons];exact ZnK hW ts _ (Zh2 hW h)
theorem ZnN:∀(f n:Nat) (c:Cq),Z5 c.ins->Z5 (Zn nodes f n c).ins
 | 0,n,c,h=>h
 | f + 1, n, c, h => by
   have hW:=fun z c=>ZnN f z c
   by_cases h10:(nodes.getD n nq0).op=10
   · unfold Zn;simp only;rw[if_pos h10];exact ZtF hW h
   · rw[Zdf h10]
     have h1:=ZnK (nodes:=nodes) hW (Zg (nodes.getD n nq0)) c h
     unfold ZbN
     split
     · exact Zfl (op:=0) h1 _ (by decide)
     · exact Zfl h1 _ h10
theorem ZgM(g:Gq)(r:Nat):Z5 (ZJ g r).ins:=Zh2 (fun z c h=>ZnN _ z c h) (fun z hz=>by cases hz)
theorem Zz2(f n:Nat)(c:Cq):0<(Zn nodes (f+1) n c).ins.length:=by
 by_cases h10:(nodes.getD n nq0).op=10
 ·unfold Zn
  simp only
  rw[if_pos h10]
  unfold Zbl
  simp only[List.length_set]
  exact Nat.lt_of_lt_of_le (by simp[Zh]) (ZfW nodes (n:=((nodes.getD n nq0).sn.getD 0)) (fun c=>Zhp f _ c) (Zh 11 0 _)).1
 ·rw[Zdf h10]
  unfold ZbN
  split <;> simp[Zh]
theorem Zf5(n:Nat):ZF n (List.replicate 16 none)=none:=by
 unfold ZF
 rw[List.find?_eq_none]
 intro s _
 rw[List.getD_eq_getElem?_getD,List.getElem?_replicate]
 split <;> simp
theorem Zms(g:Gq)(r:Nat):0<(ZJ g r).ins.length:=by
 unfold ZJ
 rw[Zci (Zf5 r)]
 have h:=Zz2 (nodes:=g.nodes) r r (decL r (c0 g))
 split
 ·exact h
 ·split
  ·simp[Zh,ZT]
  ·exact h
theorem Zf7:∀(k:Nat) (l:List (Nat×Nat)),Z5 l->Z5 (ZdC k l)/\(ZdC k l).length=l.length
 | 0,l,h=>⟨h,rfl⟩
 | k + 1, l, h => by
   have h1:=ZnM h k
   have h2:=Zf7 k (Zcv l k) h1.1
   exact⟨h2.1,h2.2.trans h1.2⟩
structure CodeW (B:Nat) (w:World) (cv sv rv iv:Value) (sl:List SelC) (rl:List RowC) (c:CodeQ):Prop where
 cons:w.ownsRow B 3 1 cv c.consts.length (c.consts.map (Value.int .i64))
 sel:w.ownsRow B 156 3 sv c.picks.length (sl.flatMap ZcC)
 grp:w.ownsRow B 122 1 rv c.groups.length (rl.map rowV)
 ins:w.ownsRow B 159 2 iv c.ins.length (c.ins.flatMap insC)
 sok:Zcl w sl c.picks
 gok:Zbu w rl c.groups
theorem Zcl.mono(hn:∀v cs,ZI w v cs->ZI w' v cs):∀ {a:List SelC} {b:List (Nd×Nat)},Zcl w a b->Zcl w' a b
 | [],[],h=>h
 | _::_,_::_,h=>⟨⟨h.1.1,hn _ _ h.1.2.1,h.1.2.2⟩,Zcl.mono hn h.2⟩
 | [],_::_,h=>h
 | _::_,[],h=>h
theorem CodeW.kb{B:Nat}{T:TypeId}{q:CodeQ}(h:CodeW B w cv sv rv iv sl rl q)(hk:KB T w w')(hT:T∉[3,156,122,159,224,9]):CodeW B w' cv sv rv iv sl rl q:=by
 simp only[List.mem_cons,List.not_mem_nil,or_false,not_or]at hT
 obtain⟨h1,h2,h3,h4,h5,h6⟩:=hT
 exact⟨hk.own h.cons (Ne.symm h1),hk.own h.sel (Ne.symm h2),hk.own h.grp (Ne.symm h3),hk.own h.ins (Ne.symm h4),h.sok.mono (fun _ _ ⟨bs,a,b⟩=>⟨bs,hk.own a (Ne.symm h5),b⟩),h.gok.kb hk (Ne.symm h6)⟩
theorem CodeW.below{B:Nat}{q:CodeQ}(h:CodeW B w cv sv rv iv sl rl q)(hb:Below w.heap.size w w'):CodeW B w' cv sv rv iv sl rl q:=h.kb (KB.below 0 hb) (by decide)
theorem CodeW.lower{B A:Nat}{q:CodeQ}(h:CodeW B w cv sv rv iv sl rl q)(hA:A<=B):CodeW A w cv sv rv iv sl rl q:=⟨h.cons.mono hA,h.sel.mono hA,h.grp.mono hA,h.ins.mono hA,h.sok,h.gok⟩
structure QW (w0 w:World) (X:GX) (Y:CX) (g:Gq) (nv uv sv rv cv iv:Value) (sl:List SelC) (rl:List RowC) (co:List Int) (l:List (Nat×Nat)):Prop where
 cb:BAt w Y.cb (coC Y cv iv) 171
 gb:BAt w X.gb (graC X g nv uv sv rv) 176
 code:CodeW w0.heap.size w cv sv rv iv sl rl ⟨co,g.sels,g.grps,l⟩
 bel:Below w0.heap.size w0 w
theorem ZkZ {base : Nat} {e : TypeId} {sz : Nat} {v : Value} {n : Nat} {xs : List Value} (ho : w.ownsRow base e sz v n xs) (hk : ∀ (b : Nat) (cs : Array Value) (fr : Nat × Nat), w.heap[b]? = some (.cells cs e fr) -> w'.heap[b]? = w.heap[b]?) : w'.ownsRow base e sz v n xs := ZeY ho (fun k hk2 => by
  obtain⟨cs,fr,h1⟩:=Zcg ho hk2
  exact hk _ _ _ h1)
theorem Co.chgT(h:Co w Y cv iv c){b:Nat}{cs:Array Value}{U:TypeId}{fr:Nat×Nat}(hb:w.heap[b]?=some (.cells cs U fr))(ht:U≠171/\U≠3/\U≠159):¬Y.chg cv iv b:=by
 obtain⟨lc,lf,hl⟩:=Zcg h.left rfl
 obtain⟨e1,c1,hs⟩:=h.slots.obj
 obtain⟨f,hf⟩:=h.tak
 obtain⟨e2,c2,ht2⟩:=hf.obj
 rintro(e|e|e|e|e|e)
 ·subst e;exact ht.1 (ZcF hb h.box)
 ·subst e;exact ht.2.1 (ZcF hb hl)
 ·subst e;exact ZbO hs hb rfl
 ·subst e;exact ZbO ht2 hb rfl
 ·obtain⟨_,_,h4⟩:=Zcg h.cons e;exact ht.2.1 (ZcF hb h4)
 ·obtain⟨_,_,h4⟩:=Zcg h.ins e;exact ht.2.2 (ZcF hb h4)
theorem Co.chgB(h:Co w Y cv iv c){b:Nat}(hb:Y.chg cv iv b):Y.base<=b:=by
 rcases hb with e|e|e|e|e|e
 ·rw[e];exact h.bas.1
 ·rw[e];exact(h.left.lt _ rfl).1
 ·rw[e];exact h.bas.2.1
 ·rw[e];exact h.bas.2.2
 ·exact(h.cons.lt _ e).1
 ·exact(h.ins.lt _ e).1
theorem Zbu.stay{a:List RowC}{b:List (List (List UInt8))}(h:Zbu w a b)(hk:∀(b:Nat) (cs:Array Value) (fr:Nat×Nat),w.heap[b]?=some (.cells cs 9 fr)->w'.heap[b]?=w.heap[b]?):Zbu w' a b:=h.mono (fun _ _ ⟨bs,h1,h2⟩=>⟨bs,ZkZ h1 hk,h2⟩)
theorem QW.of(h:GI w0 w X nv uv sv rv sl rl g)(hb:Below w.heap.size w w1)(hy:Y.gb=X.gb/\Y.base=X.base/\Y.gc=graC X g nv uv sv rv)(hc:Co w1 Y cv iv c)(hk:KeepS (Y.chg cv iv) w1 w2)(hd:Co w2 Y cv' iv' d):QW w0 w2 X Y g nv uv sv rv cv' iv' sl rl d.consts d.ins:=by
 obtain⟨f,hj,_⟩:=h.j
 have hB:Y.base=w0.heap.size:=hy.2.1.trans hj.bas.1
 have st : ∀ {U : TypeId}, (U ≠ 171 /\ U ≠ 3 /\ U ≠ 159) -> ∀ (b : Nat) (cs : Array Value) (fr : Nat × Nat), w.heap[b]? = some (.cells cs U fr) -> w2.heap[b]? = w.heap[b]? := fun hU b cs fr h1 => by
   have hl:=(Array.getElem?_eq_some_iff.1 h1).1
   have h2:=hb.block b hl
   rw[hk.block b (Nat.lt_of_lt_of_le hl hb.size) (hc.chgT (h2.trans h1) hU),h2]
 have h1:Below w0.heap.size w0 w1:=hj.bel.trans (hb.mono hj.bel.size)
 have h2:Below w0.heap.size w0 w2:=h1.trans (hk.below (fun j hj=>by rw[<-hB];exact hc.chgB hj) h1.size)
 refine⟨hd.box,?_,⟨?_,?_,?_,?_,hj.sok.mono (fun _ _ h=>h.below h2),?_⟩,h2⟩
 ·have:=hd.gbox;rwa [hy.1,hy.2.2]at this
 ·rw[<-hB];exact hd.cons
 ·have:=hj.bas.1;rw[<-this];exact ZkZ hj.sel (st ⟨by decide,by decide,by decide⟩)
 ·have:=hj.bas.1;rw[<-this];exact ZkZ hj.grp (st ⟨by decide,by decide,by decide⟩)
 ·rw[<-hB];exact hd.ins
 ·exact hj.gok.stay (st ⟨by decide,by decide,by decide⟩)
theorem QW.led{co:List Int}{ib ic:Nat}(h:QW w0 w X Y g nv uv sv rv cv (.slice (some ⟨ib,0,none⟩) l.length ic) sl rl co l)(hj:Z5 l)(hr:w1.ownsRow w0.heap.size 159 2 (.slice (some ⟨ib,0,none⟩) l.length ic) l.length ((ZbR l).flatMap insC))(hg:w.grownBy w1 (some ib)):QW w0 w1 X Y g nv uv sv rv cv (.slice (some ⟨ib,0,none⟩) l.length ic) sl rl co (ZbR l):=by
 have hk:=KB.row h.code.ins hg
 refine⟨hk.bat h.cb (by decide),hk.bat h.gb (by decide),⟨hk.own h.code.cons (by decide),hk.own h.code.sel (by decide),hk.own h.code.grp (by decide),?_,h.code.sok.mono (fun _ _ ⟨bs,a,b⟩=>⟨bs,hk.own a (by decide),b⟩),h.code.gok.kb hk (by decide)⟩,?_⟩
 ·show w1.ownsRow _ _ _ _ (ZbR l).length _
  rw[show(ZbR l).length=l.length from(Zf7 l.length l hj).2];exact hr
 ·exact Zep h.bel hg (fun k hk=>by injection hk with hk;subst hk;exact(h.code.ins.lt _ rfl).1)
theorem QW.below{co:List Int}(h:QW w0 w X Y g nv uv sv rv cv iv sl rl co l)(hb:Below w.heap.size w w'):QW w0 w' X Y g nv uv sv rv cv iv sl rl co l:=⟨h.cb.below hb,h.gb.below hb,h.code.below hb,h.bel.trans (hb.mono h.bel.size)⟩
theorem CodeW.set4{B A b:Nat}{q:CodeQ}{x0 x1 x2 x3 v0 v1 v2 v3:Value}(hb:BAt w b [x0,x1,x2,x3] 59)(h:CodeW B w cv sv rv iv sl rl q)(hA:Below A w0 w)(hB:A<=b):BAt ((((w.setCell ⟨b,0,none⟩ v0).setCell ⟨b,1,none⟩ v1).setCell ⟨b,2,none⟩ v2).setCell ⟨b,3,none⟩ v3).drew b [v0,v1,v2,v3] 59/\CodeW B ((((w.setCell ⟨b,0,none⟩ v0).setCell ⟨b,1,none⟩ v1).setCell ⟨b,2,none⟩ v2).setCell ⟨b,3,none⟩ v3).drew cv sv rv iv sl rl q/\Below A w0 ((((w.setCell ⟨b,0,none⟩ v0).setCell ⟨b,1,none⟩ v1).setCell ⟨b,2,none⟩ v2).setCell ⟨b,3,none⟩ v3).drew:=by
 have b1:=hb.setC 0 v0
 have b2:=b1.setC 1 v1
 have b3:=b2.setC 2 v2
 have b4:=b3.setC 3 v3
 have hk:=(((KB.set hb 0 v0).trans (KB.set b1 1 v1)).trans (KB.set b2 2 v2)).trans (KB.set b3 3 v3)
 exact⟨b4,(h.kb hk (by decide)).below (Below.refl _ _).drew,((((hA.setCell (p:=⟨b,0,none⟩) hB _).setCell (p:=⟨b,1,none⟩) hB _).setCell (p:=⟨b,2,none⟩) hB _).setCell (p:=⟨b,3,none⟩) hB _).drew⟩
theorem ZqR{fl:Nat}(hf:fl<=7):bits .and .i64 (fl:Int) 4=if 4<=fl then 4 else 0:=by
 rcases(by omega:fl=0∨fl=1∨fl=2∨fl=3∨fl=4∨fl=5∨fl=6∨fl=7)with rfl|rfl|rfl|rfl|rfl|rfl|rfl|rfl <;> rfl
theorem ZwE(w:World)(t:Tr)(v:Value)(fl:Nat)(hf:fl<=7)(hv:Ze w t v)(hwf:wfT t)(hnn:isNil t=false)(hwt:wT t<=100000)(ht:Zu w)(hB:20<=w.heap.size)(hS:Sml (ZJ (Zb t (g0 fl)).2 (Zb t (g0 fl)).1)) :
  Calls Tryz.prog 37 #[v,.int .i64 fl] w fun e w'=>∃cv sv rv iv sl rl,e=.returned (.agg #[cv,sv,rv,iv])/\Hid (CodeW w.heap.size w' cv sv rv iv sl rl (LS.codeOf t fl))/\Below w.heap.size w w':=by
 obtain⟨P,hP⟩:∃P,P=Zb t (g0 fl):=⟨_,rfl⟩
 have HCD:Hid (LS.codeOf t fl=⟨(ZJ P.2 P.1).consts,P.2.sels,P.2.grps,if 4<=fl then ZbR (ZJ P.2 P.1).ins else (ZJ P.2 P.1).ins⟩):=hid (by rw[hP];rfl)
 have HPL:=hid (Zch t (g0 fl) hwf)
 rw[<-hP]at hS HPL
 have HP:=hid hP
 have HS:=hid hS
 have HV:=hid hv
 have HWF:=hid hwf
 have HT:=hid ht
 have HBn:=hid hB
 have HNN:=hid hnn
 have HWT:=hid hwt
 have han:=ZqR hf
 clear hP hS hv hwf ht hB hnn hwt
 go_enter Tryz.func37,Tryz.ntmps37
 go_wp2_with fail
 refine ZK fun W0 hW0=>?_
 have hb0:Below w.heap.size w W0:=by rw[hW0];exact belB
 have hs0:W0.heap.size=w.heap.size+1:=by rw[hW0];simp
 have HB0:Hid (BAt W0 w.heap.size [.slice none 0 0,.slice none 0 0,.slice none 0 0,.slice none 0 0] 59):=hid (by rw[hW0];exact(show BAt _ _ _ _ from Go.Deep.blk_alloc_new w _))
 have HBB:=hid hb0
 clear hW0 hb0
 refine(Zvm W0 fl hf).mono ?_
 rintro e w1 ⟨rfl,HG⟩
 obtain⟨X,hX⟩:∃X:GX,X=⟨W0.heap.size,W0.heap.size+3,W0.heap.size,W0.heap.size+1,W0.heap.size+2⟩:=⟨_,rfl⟩
 have hXg:W0.heap.size+3=X.gb:=by rw[hX]
 rw[<-hX]at HG
 rw[hXg]
 clear hX hXg
 go_wp2_with fail
 refine(Zk3 X W0 (HT.low HBB.out HBn.out) (Nat.le_trans HBn.out HBB.size) t (g0 fl) w1 v HG.out (HV.below HBB.out) HWF.out HWT.out (by have:=HWT.out;show 0+_<=_;omega) (by have:=HWT.out;show 0+_<=_;omega) (by have:=HWT.out;show 0+_<=_;omega)).mono ?_
 rintro e w2 ⟨rfl,HGP⟩
 rw[<-HP.out]at HGP ⊢
 obtain⟨root,g⟩:=P
 simp only at HGP HCD HS HPL ⊢
 obtain⟨nv,uv,sv,rv,sl,rl,hGI,_⟩:=HGP.out
 have HGI:=hid hGI
 have hroot:=HPL.2 HNN.out
 have hnl:g.nodes.length<=400000:=by have h1:=HPL.1.n2;have:=HWT.out;have e:(g0 fl).nodes.length=0:=rfl;rw[e]at h1;omega
 clear hGI HGP HG HP
 go_wp2_with fail
 refine(Zvl HGI.out (by omega) hnl).mono ?_
 rintro e w3 ⟨cb,rfl,HNC⟩
 obtain⟨Y,hcb,hgb,hnd,hbs,hgc,hco,hbw⟩:=HNC.out
 have HY:=hid (And.intro hgb (And.intro hbs hgc))
 have HCO:=hid hco
 have HBW:=hid hbw
 have HND:=hid hnd
 subst hcb
 clear hgb hnd hbs hgc hco hbw HNC
 go_wp2_with fail
 refine(Ziw (W:=Zn Y.nodes (root+1)) (Zqo Y (root+1) root (Nat.lt_succ_self _) (by rw[HND.out];exact hroot)) HCO.out (by rw[HND.out];exact hroot) (by rw[HND.out];exact HS.out)).mono ?_
 rintro e w4 ⟨rfl,HPUT⟩
 obtain⟨cv,iv,hd,hk,_,_⟩:=HPUT.out
 obtain⟨C,hC⟩:∃C,C=ZJ g root:=⟨_,rfl⟩
 have hd2:Co w4 Y cv iv C:=by rw[hC];rw[HND.out]at hd;exact hd
 have HQ:=hid (QW.of HGI.out HBW.out HY.out HCO.out hk hd2)
 have hCs:0<C.ins.length:=by rw[hC];exact Zms g root
 have HCJ:Hid (Z5 C.ins):=hid (by rw[hC];exact ZgM g root)
 rw[<-hC]at HS HCD
 obtain⟨ib,ic,hiv⟩:=ZW HQ.code.ins hCs
 subst hiv
 obtain⟨ca,cc,hcv⟩:=Zv HQ.code.cons
 obtain⟨sa,sc,hsv⟩:=Zv HQ.code.sel
 obtain⟨ra,rc,hrv⟩:=Zv HQ.code.grp
 simp only at hcv hsv hrv
 subst hcv hsv hrv
 clear hd hd2 hk HPUT hC
 have m5:w4.cell? ⟨Y.cb,5,none⟩=some (.slice (some ⟨ib,0,none⟩) C.ins.length ic):=HQ.cb.cell 5
 have hcl:=HQ.cb.lt
 have HTH:=hid (Zyr w4 ib ic C.ins HQ.code.ins HCJ.out HS.1)
 by_cases h4:4<=fl
 ·rw[if_pos h4]at han
  go_wp2_with fail
  refine HTH.mono ?_
  rintro e WW ⟨rfl,HR,HGR⟩
  have HQ2:Hid (QW W0 WW X Y g nv uv (.slice sa g.sels.length sc) (.slice ra g.grps.length rc) (.slice ca C.consts.length cc) (.slice (some ⟨ib,0,none⟩) C.ins.length ic) sl rl C.consts (if 4<=fl then ZbR C.ins else C.ins)):=hid (by rw[if_pos h4];exact HQ.led HCJ.out HR.out HGR.out)
  clear HR HGR HTH HQ m5
  go_upto_region 7 with fail
  have HAD:Hid (BAt WW.drew w.heap.size [.slice none 0 0,.slice none 0 0,.slice none 0 0,.slice none 0 0] 59):=hid (by have:=HB0.below HQ2.bel;exact this)
  have HQD:Hid (QW W0 WW.drew X Y g nv uv (.slice sa g.sels.length sc) (.slice ra g.grps.length rc) (.slice ca C.consts.length cc) (.slice (some ⟨ib,0,none⟩) C.ins.length ic) sl rl C.consts (if 4<=fl then ZbR C.ins else C.ins)):=hid (HQ2.below (Below.refl _ _).drew)
  refine Zcm 17 (fun w'=>w'.cell? ⟨Y.cb,4,none⟩=some (.slice ca C.consts.length cc)/\w'.cell? ⟨Y.cb,5,none⟩=some (.slice (some ⟨ib,0,none⟩) C.ins.length ic)/\w'.cell? ⟨X.gb,5,none⟩=some (.slice sa g.sels.length sc)/\w'.cell? ⟨X.gb,6,none⟩=some (.slice ra g.grps.length rc)) (by kernel_rfl) ⟨HQ2.cb.cell 4,HQ2.cb.cell 5,HQ2.gb.cell 5,HQ2.gb.cell 6⟩ (fun hHeld=>?_)
  refine Zd 0 hHeld (h:=?_)
  refine Zd 1 hHeld (h:=?_)
  refine Zd 2 hHeld (h:=?_)
  refine Zd 3 hHeld (h:=?_)
  refine Zd 4 hHeld (h:=?_)
  refine Zd 5 hHeld (h:=?_)
  refine Zd 6 hHeld (h:=?_)
  refine Zd 7 hHeld (h:=?_)
  refine Zd 8 hHeld (h:=?_)
  refine Zd 9 hHeld (h:=?_)
  refine Zd 10 hHeld (h:=?_)
  refine Zd 11 hHeld (h:=?_)
  refine Zd 12 hHeld (h:=?_)
  refine Zd 13 hHeld (h:=?_)
  refine Zd 14 hHeld (h:=?_)
  refine Zd 15 hHeld (h:=?_)
  refine Zd 16 hHeld (h:=?_)
  refine Zcq (by kernel_rfl) (by kernel_rfl) rfl (by kernel_rfl) (fun K hK=>?_)
  have ml:w.heap.size<WW.heap.size:=HAD.lt
  have f0:WW.frozen? ⟨w.heap.size,0,none⟩=false:=HAD.frozen 0
  have f1:WW.frozen? ⟨w.heap.size,1,none⟩=false:=HAD.frozen 1
  have f2:WW.frozen? ⟨w.heap.size,2,none⟩=false:=HAD.frozen 2
  have f3:WW.frozen? ⟨w.heap.size,3,none⟩=false:=HAD.frozen 3
  have k0:WW.cell? ⟨w.heap.size,0,none⟩=some (.slice none 0 0):=HAD.cell 0
  have k1:WW.cell? ⟨w.heap.size,1,none⟩=some (.slice none 0 0):=HAD.cell 1
  have k2:WW.cell? ⟨w.heap.size,2,none⟩=some (.slice none 0 0):=HAD.cell 2
  have k3:WW.cell? ⟨w.heap.size,3,none⟩=some (.slice none 0 0):=HAD.cell 3
  go_simp
  refine hK.out _ _ ?_
  clear hHeld hK K k0 k1 k2 k3 f0 f1 f2 f3 ml
  have HC4:=hid (CodeW.set4 (w:=WW) (A:=w.heap.size) (v0:=.slice ca C.consts.length cc) (v1:=.slice sa g.sels.length sc) (v2:=.slice ra g.grps.length rc) (v3:=.slice (some ⟨ib,0,none⟩) C.ins.length ic) HAD.out HQ2.code (HBB.trans (HQ2.bel.mono (by omega))) (Nat.le_refl _))
  generalize((((WW.setCell ⟨w.heap.size,0,none⟩ (.slice ca C.consts.length cc)).setCell ⟨w.heap.size,1,none⟩ (.slice sa g.sels.length sc)).setCell ⟨w.heap.size,2,none⟩ (.slice ra g.grps.length rc)).setCell ⟨w.heap.size,3,none⟩ (.slice (some ⟨ib,0,none⟩) C.ins.length ic)).drew=W4 at *
  have k0:W4.cell? ⟨w.heap.size,0,none⟩=some (.slice ca C.consts.length cc):=HC4.1.cell 0
  have k1:W4.cell? ⟨w.heap.size,1,none⟩=some (.slice sa g.sels.length sc):=HC4.1.cell 1
  have k2:W4.cell? ⟨w.heap.size,2,none⟩=some (.slice ra g.grps.length rc):=HC4.1.cell 2
  have k3:W4.cell? ⟨w.heap.size,3,none⟩=some (.slice (some ⟨ib,0,none⟩) C.ins.length ic):=HC4.1.cell 3
  go_wp2
  refine bodyPost_ret (results_cell_row rfl _ _ w.heap.size _ _ _ _ rfl HC4.1 Tryz.underlying59 rfl (by kernel_rfl)) rfl ?_
  exact⟨_,_,_,_,sl,rl,rfl,hid (by rw[HCD.out];exact HC4.2.1.lower (by omega)),HC4.2.2⟩
 ·rw[if_neg h4]at han
  have HQ2:Hid (QW W0 w4 X Y g nv uv (.slice sa g.sels.length sc) (.slice ra g.grps.length rc) (.slice ca C.consts.length cc) (.slice (some ⟨ib,0,none⟩) C.ins.length ic) sl rl C.consts (if 4<=fl then ZbR C.ins else C.ins)):=hid (by rw[if_neg h4];exact HQ.out)
  clear HTH HQ m5
  generalize w4=WW at *
  go_upto_region 7 with fail
  have HAD:Hid (BAt WW.drew w.heap.size [.slice none 0 0,.slice none 0 0,.slice none 0 0,.slice none 0 0] 59):=hid (by have:=HB0.below HQ2.bel;exact this)
  have HQD:Hid (QW W0 WW.drew X Y g nv uv (.slice sa g.sels.length sc) (.slice ra g.grps.length rc) (.slice ca C.consts.length cc) (.slice (some ⟨ib,0,none⟩) C.ins.length ic) sl rl C.consts (if 4<=fl then ZbR C.ins else C.ins)):=hid (HQ2.below (Below.refl _ _).drew)
  refine Zcm 17 (fun w'=>w'.cell? ⟨Y.cb,4,none⟩=some (.slice ca C.consts.length cc)/\w'.cell? ⟨Y.cb,5,none⟩=some (.slice (some ⟨ib,0,none⟩) C.ins.length ic)/\w'.cell? ⟨X.gb,5,none⟩=some (.slice sa g.sels.length sc)/\w'.cell? ⟨X.gb,6,none⟩=some (.slice ra g.grps.length rc)) (by kernel_rfl) ⟨HQ2.cb.cell 4,HQ2.cb.cell 5,HQ2.gb.cell 5,HQ2.gb.cell 6⟩ (fun hHeld=>?_)
  refine Zd 0 hHeld (h:=?_)
  refine Zd 1 hHeld (h:=?_)
  refine Zd 2 hHeld (h:=?_)
  refine Zd 3 hHeld (h:=?_)
  refine Zd 4 hHeld (h:=?_)
  refine Zd 5 hHeld (h:=?_)
  refine Zd 6 hHeld (h:=?_)
  refine Zd 7 hHeld (h:=?_)
  refine Zd 8 hHeld (h:=?_)
  refine Zd 9 hHeld (h:=?_)
  refine Zd 10 hHeld (h:=?_)
  refine Zd 11 hHeld (h:=?_)
  refine Zd 12 hHeld (h:=?_)
  refine Zd 13 hHeld (h:=?_)
  refine Zd 14 hHeld (h:=?_)
  refine Zd 15 hHeld (h:=?_)
  refine Zd 16 hHeld (h:=?_)
  refine Zcq (by kernel_rfl) (by kernel_rfl) rfl (by kernel_rfl) (fun K hK=>?_)
  have ml:w.heap.size<WW.heap.size:=HAD.lt
  have f0:WW.frozen? ⟨w.heap.size,0,none⟩=false:=HAD.frozen 0
  have f1:WW.frozen? ⟨w.heap.size,1,none⟩=false:=HAD.frozen 1
  have f2:WW.frozen? ⟨w.heap.size,2,none⟩=false:=HAD.frozen 2
  have f3:WW.frozen? ⟨w.heap.size,3,none⟩=false:=HAD.frozen 3
  have k0:WW.cell? ⟨w.heap.size,0,none⟩=some (.slice none 0 0):=HAD.cell 0
  have k1:WW.cell? ⟨w.heap.size,1,none⟩=some (.slice none 0 0):=HAD.cell 1
  have k2:WW.cell? ⟨w.heap.size,2,none⟩=some (.slice none 0 0):=HAD.cell 2
  have k3:WW.cell? ⟨w.heap.size,3,none⟩=some (.slice none 0 0):=HAD.cell 3
  go_simp
  refine hK.out _ _ ?_
  clear hHeld hK K k0 k1 k2 k3 f0 f1 f2 f3 ml
  have HC4:=hid (CodeW.set4 (w:=WW) (A:=w.heap.size) (v0:=.slice ca C.consts.length cc) (v1:=.slice sa g.sels.length sc) (v2:=.slice ra g.grps.length rc) (v3:=.slice (some ⟨ib,0,none⟩) C.ins.length ic) HAD.out HQ2.code (HBB.trans (HQ2.bel.mono (by omega))) (Nat.le_refl _))
  generalize((((WW.setCell ⟨w.heap.size,0,none⟩ (.slice ca C.consts.length cc)).setCell ⟨w.heap.size,1,none⟩ (.slice sa g.sels.length sc)).setCell ⟨w.heap.size,2,none⟩ (.slice ra g.grps.length rc)).setCell ⟨w.heap.size,3,none⟩ (.slice (some ⟨ib,0,none⟩) C.ins.length ic)).drew=W4 at *
  have k0:W4.cell? ⟨w.heap.size,0,none⟩=some (.slice ca C.consts.length cc):=HC4.1.cell 0
  have k1:W4.cell? ⟨w.heap.size,1,none⟩=some (.slice sa g.sels.length sc):=HC4.1.cell 1
  have k2:W4.cell? ⟨w.heap.size,2,none⟩=some (.slice ra g.grps.length rc):=HC4.1.cell 2
  have k3:W4.cell? ⟨w.heap.size,3,none⟩=some (.slice (some ⟨ib,0,none⟩) C.ins.length ic):=HC4.1.cell 3
  go_wp2
  refine bodyPost_ret (results_cell_row rfl _ _ w.heap.size _ _ _ _ rfl HC4.1 Tryz.underlying59 rfl (by kernel_rfl)) rfl ?_
  exact⟨_,_,_,_,sl,rl,rfl,hid (by rw[HCD.out];exact HC4.2.1.lower (by omega)),HC4.2.2⟩
end
end Go.Proofs.YtcdgkkfipdoeeaaGreatDoor
namespace Go.Proofs.YtcdgkkfipdoeeaaGreatDoor
open Go.RowKit LS
section
variable {w0 w w' w1 w2:World} {v:Value} {l:List UInt8}
theorem Zc5(k:Nat):∀n,(digL n k).length=k:=by
 induction k with
 | zero=>intro n;rfl
 | succ k ih=>intro n;simp[digL,ih]
theorem Zsh(k:Nat):∀n,digL n (k+1)=UInt8.ofNat (n / 256 ^ k % 256)::digL n k:=by
 induction k with
 | zero=>intro n;simp[digL]
 | succ k ih=>
  intro n
  show digL (n / 256) (k+1)++[UInt8.ofNat (n % 256)]=_
  rw[ih,Nat.div_div_eq_div_mul,<-Nat.pow_succ']
  rfl
def u8V(b:UInt8):Value:=.int .u8 (b.toNat:Int)
structure WrS (w0 w:World) (v:Value) (l:List UInt8):Prop where
 row:w.ownsRow w0.heap.size 5 1 v l.length (l.map u8V)
 bel:Below w0.heap.size w0 w
theorem WrS.below(h:WrS w0 w v l)(hb:Below w.heap.size w w'):WrS w0 w' v l:=⟨Zw h.row hb,h.bel.trans (hb.mono h.bel.size)⟩
theorem WrS.grow(h:WrS w0 w v l)(hb:Below w.heap.size w w1){v':Value}{l':List UInt8}(hr:w2.ownsRow w0.heap.size 5 1 v' l'.length (l'.map u8V))(hg:w1.grownBy w2 v.ownBlock):WrS w0 w2 v' l':=⟨hr,Zep (h.below hb).bel hg (fun k hk=>(h.row.lt k hk).1)⟩
theorem WrS.shape(h:WrS w0 w v l):∃a c,v=.slice a l.length c:=Zv h.row
theorem Zx4(s:ByteArray):Lib.strCells s=(bl s).map u8V:=by
 simp[Lib.strCells,bl,u8V]
theorem Zrt{z:Int}{n:Nat}(hn:n=(z % 4294967296).toNat)(i:Nat)(hi:i<4):((UInt8.ofNat (n / 256 ^ i % 256)).toNat:Int)=z / 256 ^ i % 256:=by
 have h:(UInt8.ofNat (n / 256 ^ i % 256)).toNat=n / 256 ^ i % 256:=by
  rw[UInt8.toNat_ofNat'];omega
 rw[h,hn]
 rcases(by omega:i=0∨i=1∨i=2∨i=3)with rfl|rfl|rfl|rfl <;> simp only[Nat.reducePow,Int.reducePow] <;> omega
theorem Zgi(h:WrS w0 w v l)(z:Int)(size:Nat)(hs:size<=4)(hl:l.length<=1000000000000) :
  Calls Tryz.prog 70 #[v,.int .i64 z,.int .i64 size] w fun e w'=>∃v',e=.returned v'/\Hid (WrS w0 w' v' (l++digL (z % 4294967296).toNat size))/\Hid (KB 5 w w'):=by
 obtain⟨i0,hi,hz0,hz1,hz2⟩:=info_parts Zhw
 obtain⟨n,hn⟩:∃n,n=(z % 4294967296).toNat:=⟨_,rfl⟩
 have HN:=hid hn
 rw[<-hn]
 clear hn
 obtain⟨va,vc,rfl⟩:=h.shape
 obtain⟨m0,hm0⟩:∃m0,m0=l.length:=⟨_,rfl⟩
 have HM0:=hid hm0
 rw[<-hm0]at h hl ⊢
 clear hm0
 have HW:=hid h
 clear h
 have hs1:IntKind.i64.wrap ((size:Int) - 1)=(size:Int) - 1:=by rw[IntKind.wrap_i64];omega
 go_enter Tryz.func70,Tryz.ntmps70
 go_wp2
 go_loopw [0,7] (fun tv iv wr=>∃(k m:Nat) (cur:List UInt8) (a:Option Addr) (c:Nat),k<=size/\m<=m0+4 - k/\iv=.int .i64 ((k:Int) - 1)/\tv=.slice a m c/\Hid (WrS w0 wr (.slice a m c) cur/\m=cur.length)/\Hid (cur++digL n k=l++digL n size)/\Hid (KB 5 w wr)) (fun _ iv _=>(intOf iv+1).toNat)
 case atStart=>exact⟨size,m0,l,va,vc,Nat.le_refl _,by omega,rfl,rfl,hid ⟨HW.out,HM0.out⟩,hid rfl,hid (KB.below _ (Below.refl _ _))⟩
 case round=>
  obtain⟨k,m,cur,a,c,hk,hm,rfl,rfl,HWr,HE,HKB⟩:=hrel
  by_cases hk0:0<k
  ·obtain⟨i,rfl⟩:∃i,k=i+1:=⟨k - 1,by omega⟩
   have hii:((i+1:Nat):Int) - 1=i:=by omega
   rw[hii]
   have hi4:i<4:=by omega
   have HB:=hid (Zrt HN.out i hi4)
   have HE2:Hid ((cur++[UInt8.ofNat (n / 256 ^ i % 256)])++digL n i=l++digL n size):=hid (by rw[<-HE.out,Zsh,List.append_assoc];rfl)
   generalize UInt8.ofNat (n / 256 ^ i % 256)=b at *
   have hrow:=HWr.1.row
   rw[<-HWr.2]at hrow
   have hbs:=HWr.1.bel.size
   have HA:Hid (∀o,(wr.alloc o).ownsRow w0.heap.size 5 1 (.slice a m c) m (cur.map u8V)):=hid (fun o=>hrow.alloc _)
   clear hrow
   have hsi:IntKind.i64.wrap ((i:Int) - 1)=(i:Int) - 1:=by rw[IntKind.wrap_i64];omega
   rcases(by omega:i=0∨i=1∨i=2∨i=3)with rfl|rfl|rfl|rfl
   all_goals
    go_wp2_with (at_builtin;refine wpList_append_own _ rfl (.tmp 14) (.tmp 20) 87 rfl w0.heap.size 5 i0 (.int .u8 0) 1 1 Tryz.underlying87 hi hz0 hz1 hz2 rfl (by decide) _ _ _ rfl (HA.out _) ⟨wr.heap.size,0,none⟩ 1 1 [_] rfl rfl (cell_one_new _ _ _) ?c2 ?c3 ?c4 ?c5 ?_)
    case c2=>intro u hu;rw[List.mem_singleton]at hu;subst hu;rfl
    case c3=>unfold maxLen;omega
    case c4=>omega
    case c5=>simp;omega
    intro v' w3 hown3 hgrow _
    obtain⟨va3,vc3,rfl⟩:=Zv hown3
    have HW3:Hid (WrS w0 w3 (.slice va3 (m+1) vc3) (cur++[b])):=hid (HWr.1.grow Zbal (by
     rw[List.length_append,List.map_append,<-HWr.2]
     have hb:=HB.out
     simp only[Int.reducePow,Int.ediv_one]at hb
     show w3.ownsRow _ _ _ _ (m+1) (List.map u8V cur++[Value.int .u8 (b.toNat:Int)])
     rw[hb]
     exact hown3) hgrow)
    have HK3:Hid (KB 5 w w3):=hid ((HKB.trans (KB.below _ Zbal)).trans (KB.row (HA.out _) hgrow))
    clear hown3 hgrow HA
    go_wp2
    go_roundw
    case rel=>exact⟨_,m+1,cur++[b],va3,vc3,(by omega:_<=size),by omega,rfl,rfl,hid ⟨HW3.out,by rw[List.length_append,<-HWr.2];rfl⟩,HE2,HK3⟩
    case measure=>first|(simp[intOf];omega)|simp[intOf]
  ·obtain rfl:k=0:=by omega
   have HF:Hid (cur=l++digL n size):=hid (by rw[<-HE.out];simp[digL])
   go_wp2
   go_ret
   exact⟨_,rfl,hid (by rw[<-HF.out];exact HWr.1),HKB⟩
theorem ZlZ(h:WrS w0 w v l)(s:ByteArray)(hs:s.size<=1000000000)(hl:l.length<=1000000000000) :
  Calls Tryz.prog 71 #[v,.string s] w fun e w'=>∃v',e=.returned v'/\Hid (WrS w0 w' v' (l++ZX (bl s))):=by
 obtain⟨i0,hi,hz0,hz1,hz2⟩:=info_parts Zhw
 have HW:=hid h
 have HN:Hid (((s.size:Int) % 4294967296).toNat=(bl s).length):=hid (by rw[Zi];omega)
 go_enter Tryz.func71,Tryz.ntmps71
 go_wp2_with fail
 refine(Zgi HW.out (s.size:Int) 2 (by decide) (by omega)).mono ?_
 rintro e w1 ⟨v1,rfl,H1,_⟩
 rw[HN.out]at H1
 obtain⟨a1,c1,rfl⟩:=H1.shape
 have hlen:(l++digL (bl s).length 2).length=l.length+2:=by rw[List.length_append,Zc5]
 obtain⟨m1,hm1⟩:∃m1,m1=(l++digL (bl s).length 2).length:=⟨_,rfl⟩
 have hrow:=H1.row
 have hbs:=H1.bel.size
 have HM:=hid hm1
 rw[<-hm1]at hrow hlen ⊢
 replace hlen:m1<=l.length+2:=Nat.le_of_eq hlen
 clear hm1
 go_wp2_with (at_builtin;refine Lib.wpList_append_own_string _ rfl _ _ 87 9 rfl w0.heap.size 5 i0 Tryz.underlying87 Tryz.underlying9 hi hz0 hz1 hz2 _ _ _ rfl hrow s rfl ?c3 ?c4 ?c5 ?_)
 case c3=>unfold maxLen;omega
 case c4=>omega
 case c5=>omega
 intro v' w2 hown' hgrow _
 have HW2:Hid (WrS w0 w2 v' (l++ZX (bl s))):=hid (H1.grow (Below.refl _ _) (by
  unfold ZX
  rw[<-List.append_assoc,List.length_append,<-HM.out,List.map_append,<-Zx4,Zi]
  have h1:=hown'
  simp only[List.map_append,List.append_assoc,Zi]at h1 ⊢
  exact h1) (by rw[<-HM.out];exact hgrow))
 obtain⟨a2,c2,rfl⟩:=Zv hown'
 go_wp2
 go_ret
 exact⟨_,rfl,HW2⟩
end
end Go.Proofs.YtcdgkkfipdoeeaaGreatDoor
namespace Go.Proofs.YtcdgkkfipdoeeaaGreatDoor
open Go.RowKit LS
theorem Zrd{h:Nat}(hh:h % 2=1):bitS h=(h / 2) ^^^ 3988292384:=if_pos hh
theorem Zrb{h:Nat}(hh:¬h % 2=1):bitS h=h / 2:=if_neg hh
theorem Zw8{k:IntKind}{a b:Int}(h:a=b):Ending.returned (.int k a)=.returned (.int k b):=by rw[h]
theorem ZAe{h0:Nat}(hb:h0<4294967296)(c:UInt8):bits .xor .u32 (h0:Int) ((c.toNat:Int) % 4294967296)=((h0 ^^^ c.toNat:Nat):Int):=by
 have hc:=c.toNat_lt
 rw[show((c.toNat:Int) % 4294967296)=(c.toNat:Int) by omega]
 exact u32_xor_nat h0 _ hb (by omega)
theorem ZAf{z:Nat}(hz:z<4294967296):4294967295 ^^^ z=4294967295 - z:=by
 have h:(BitVec.allOnes 32 ^^^ BitVec.ofNat 32 z).toNat=(~~~ BitVec.ofNat 32 z).toNat:=by rw[BitVec.allOnes_xor]
 rw[BitVec.toNat_xor,BitVec.toNat_not,BitVec.toNat_ofNat,Nat.mod_eq_of_lt hz]at h
 exact h
theorem Zvt{z:Nat}(hz:z<4294967296):bits .xor .u32 IntKind.u32.max (z:Int)=4294967295 - (z:Int):=by
 have:=u32_xor_nat 4294967295 z (by decide) hz
 rw[ZAf hz]at this
 rw[show IntKind.u32.max=((4294967295:Nat):Int) from rfl,this]
 omega
theorem ZqS{z:Nat}(hz:z<4294967296):bits .and .u32 (z:Int) 1=(z:Int) % 2:=by
 have:=u32_and_nat z 1 hz (by decide)
 rw[Nat.and_one_is_mod]at this
 rw[show(1:Int)=((1:Nat):Int) from rfl,this]
 omega
theorem ZvY(s:ByteArray)(w:World)(hs:s.size<=maxLen) :
  Calls Tryz.prog 73 #[.string s] w fun e w'=>e=.returned (.int .u32 (sumQ (bl s)))/\w'=w:=by
 unfold maxLen at hs
 go_enter Tryz.func73,Tryz.ntmps73
 go_wp2
 go_loop [3,8] (fun h i=>∃k:Nat,k<=s.size/\i=.int .i64 k/\h=.int .u32 (sumL ((bl s).take k))) (fun _ i=>s.size - (intOf i).toNat)
 case atStart=>exact⟨0,Nat.zero_le _,rfl,rfl⟩
 case round=>
  obtain⟨k,hk,rfl,rfl⟩:=hrel
  have hb:=Zx5 ((bl s).take k)
  obtain⟨h0,hh0⟩:∃h0,sumL ((bl s).take k)=h0:=⟨_,rfl⟩
  have HH0:Hid (sumL ((bl s).take k)=h0):=hh0
  rw[hh0]at hb ⊢
  clear hh0
  by_cases hlt:k<s.size
  ·have hx:=ZAe hb s[k]
   have HNX:Hid (sumL ((bl s).take (k+1))=ZeL 8 (h0 ^^^ s[k].toNat)):=hid (by rw[ZiU s k hlt,ZpM,HH0.out];rfl)
   have hg0:h0 ^^^ s[k].toNat<4294967296:=ZqJ hb _
   obtain⟨g0,hgg⟩:∃g0,h0 ^^^ s[k].toNat=g0:=⟨_,rfl⟩
   rw[hgg]at hx HNX hg0
   clear hgg HH0
   go_wp2
   go_loop [3,17] (fun h i=>∃j:Nat,j<=8/\i=.int .i64 j/\h=.int .u32 (ZeL j g0)) (fun _ i=>8 - (intOf i).toNat)
   case atStart=>exact⟨0,Nat.zero_le _,rfl,rfl⟩
   case round=>
    obtain⟨j,hj,rfl,rfl⟩:=hrel
    by_cases hj8:j<8
    ·have hz:=Zjs hg0 j
     have HS:Hid (ZeL (j+1) g0=bitS (ZeL j g0)):=rfl
     generalize ZeL j g0=z at *
     have hone:=ZqS hz
     by_cases ho:z % 2=1
     ·have hx2:bits .xor .u32 ((z:Int) / 2) 3988292384=((z / 2 ^^^ 3988292384:Nat):Int):=by
       have:=u32_xor_nat (z / 2) 3988292384 (by omega) (by omega)
       simpa using this
      have hm:((z:Int) % 2 == 1)=true:=by rw[beq_iff_eq];omega
      have HB:=hid (Zrd ho)
      clear ho
      go_wp2
      go_round
      case rel=>exact⟨j+1,by omega,by go_num,by rw[HS.out,HB.out]⟩
      case measure=>simp[intOf];omega
     ·have hm:((z:Int) % 2 == 1)=false:=by rw[beq_eq_false_iff_ne];omega
      have HB:=hid (Zrb ho)
      clear ho
      go_wp2
      go_round
      case rel=>exact⟨j+1,by omega,by go_num,by rw[HS.out,HB.out];go_num⟩
      case measure=>simp[intOf];omega
    ·obtain rfl:j=8:=by omega
     go_wp2
     go_round
     case rel=>exact⟨k+1,by omega,by go_num,by rw[HNX.out]⟩
     case measure=>simp[intOf];omega
  ·have HF:Hid (sumQ (bl s)=4294967295 - h0):=hid (by
    unfold sumQ;rw[<-HH0.out,List.take_of_length_le (by rw[Zi];omega)])
   have hn:=Zvt hb
   clear HH0
   go_wp2
   go_ret
   exact⟨Zw8 (by rw[HF.out];omega),rfl⟩
end Go.Proofs.YtcdgkkfipdoeeaaGreatDoor

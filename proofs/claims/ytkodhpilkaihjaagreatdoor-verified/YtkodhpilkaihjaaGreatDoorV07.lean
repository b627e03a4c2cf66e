/- Parts. -/
import Derived.Test.YtkodhpilkaihjaaGreatDoorV05
import Derived.Test.YtkodhpilkaihjaaGreatDoorV06
import Derived.Test.YtkodhpilkaihjaaGreatDoorV03
namespace Go.Proofs.YtkodhpilkaihjaaGreatDoor
open Go.RowKit LS
theorem RD.step{w:World}{b g cp:Nat}{ps:List PTok}{k:Nat}(h:RD w b g cp ps k)(hl:k+1<ps.length):RD (w.setCell ⟨b,1,none⟩ (.int .i64 ((k+1:Nat):Int))) b g cp ps (k+1):=by
 have hne:b≠g:=by
  rintro rfl
  exact own_ne_block h.own h.cells (by decide) rfl
 refine⟨?_,own_same h.own (fun j hj=>Go.Deep.blk_setCell_other _ _ _ _ ?_),hl⟩
 ·have:=h.cells
  simp only[World.setCell,Array.getElem?_modify,this,if_true,Option.map_some];rfl
 ·have:j=g:=by simpa [Value.ownBlock] using hj.symm
  rw[this];exact fun e=>hne e.symm
theorem RD.kept{w w':World}{b g cp:Nat}{ps:List PTok}{k:Nat}(h:RD w b g cp ps k)(hg:∀j,j<w.heap.size→w'.heap[j]?=w.heap[j]?):RD w' b g cp ps k:=
 ⟨(hg b (Array.getElem?_eq_some_iff.1 h.cells).1).trans h.cells,own_same h.own (fun j hj=>hg j (h.own.lt j hj).2),h.lt⟩
def markB(t:PTok)(s:ByteArray):Bool:=((t.kd:Int) == 3) && (t.tx.toList == s.toList)
def wordB(t:PTok)(s:ByteArray):Bool:=((t.kd:Int) == 1) && (t.tx.toList == s.toList)
def Took(w':World)(b g cp:Nat)(ps:List PTok)(k:Nat)(sy:Addr)(at_:Int)(ok:Bool)(v:Value):Prop:=(ok=true∧v=.nilIface∧RD w' b g cp ps (k+1))∨(ok=false∧ErrAt w' v at_ sy∧RD w' b g cp ps k)
set_option maxRecDepth 100000 in
set_option maxHeartbeats 1000000 in
theorem takeMark_any{w:World}{b g cp:Nat}{ps:List PTok}{k:Nat}(h:RD w b g cp ps k)(s:ByteArray)(hl:markB (ps[k]'h.lt) s=true→k+1<ps.length)(hn:ps.length≤6002){sy:Addr}(hsy:w.cell? ⟨1,0,none⟩=some (.iface 491 (.pointer (some sy)))) :
  Calls Tryz.prog 233 #[.pointer (some ⟨b,0,none⟩),.string s] w fun e w'=>∃v,e=.returned v∧Hid (Took w' b g cp ps k sy (ps[k]'h.lt).at_ (markB (ps[k]'h.lt) s) v)∧w.grownBy w' (some b):=by
 have H:Hid (RD w b g cp ps k):=h
 have hlt:=h.lt
 have hgl:1<w.heap.size:=World.block_lt_of_cell? _ _ hsy
 obtain⟨t,ht⟩:∃t,t=ps[k]'h.lt:=⟨_,rfl⟩
 have HT:Hid (∀hh:k<ps.length,ps[k]'hh=t):=fun _=>ht.symm
 rw[←ht]at hl ⊢
 clear ht h
 go_enter Tryz.func233,Tryz.ntmps233
 go_wp2_with fail
 refine(token_any H.out).mono ?_
 rintro e w1 ⟨rfl,hb1⟩
 rw[HT.out]
 have HB1:Hid (Below w.heap.size w w1):=hb1
 clear hb1
 go_wp2_with fail
 refine(isMark_any t s w1).mono ?_
 rintro e w2 ⟨rfl,hb2⟩
 have HB2:Hid (Below w.heap.size w w2):=HB1.out.trans (hb2.mono HB1.out.size)
 have HR2:Hid (RD w2 b g cp ps k):=RD.below H.out HB2.out
 have hsy2:w2.cell? ⟨1,0,none⟩=some (.iface 491 (.pointer (some sy))):=(HB2.out.cell (p:=⟨_,0,none⟩) hgl).trans hsy
 obtain⟨c0,c1,fz,_⟩:=HR2.out.all
 rw[show(((t.kd:Int) == 3) && (t.tx.toList == s.toList))=markB t s from rfl]
 clear hb2 HB1
 cases hm:markB t s
 ·have HM:Hid (markB t s=false):=hm
  go_wp2_with fail
  refine(cannotStand_any HR2.out hsy2).mono ?_
  rintro e w3 ⟨v,rfl,hv,hb3⟩
  rw[HT.out]at hv
  have HF:Hid (Took w3 b g cp ps k sy t.at_ false v):=Or.inr ⟨rfl,hv.out,RD.below HR2.out hb3⟩
  have HG:Hid (w.grownBy w3 (some b)):=grown_of_below (HB2.out.trans (hb3.mono HB2.out.size))
  clear hv hb3
  go_wp2
  go_ret
  exact⟨_,rfl,by rw[HM.out];exact HF,HG.out⟩
 ·have hl2:=hl hm
  have HM:Hid (markB t s=true):=hm
  have HF:Hid (Took (w2.setCell ⟨b,1,none⟩ (.int .i64 ((k+1:Nat):Int))) b g cp ps k sy t.at_ true .nilIface):=Or.inl ⟨rfl,rfl,HR2.out.step hl2⟩
  have HG:Hid (w.grownBy (w2.setCell ⟨b,1,none⟩ (.int .i64 ((k+1:Nat):Int))) (some b)):=grown_set (grown_of_below HB2.out) (Or.inl rfl) _
  go_wp2
  go_ret
  exact⟨_,rfl,by rw[HM.out];exact HF,HG.out⟩
set_option maxRecDepth 100000 in
set_option maxHeartbeats 1000000 in
theorem takeWord_any{w:World}{b g cp:Nat}{ps:List PTok}{k:Nat}(h:RD w b g cp ps k)(s:ByteArray)(hl:wordB (ps[k]'h.lt) s=true→k+1<ps.length)(hn:ps.length≤6002){sy:Addr}(hsy:w.cell? ⟨1,0,none⟩=some (.iface 491 (.pointer (some sy)))) :
  Calls Tryz.prog 234 #[.pointer (some ⟨b,0,none⟩),.string s] w fun e w'=>∃v,e=.returned v∧Hid (Took w' b g cp ps k sy (ps[k]'h.lt).at_ (wordB (ps[k]'h.lt) s) v)∧w.grownBy w' (some b):=by
 have H:Hid (RD w b g cp ps k):=h
 have hlt:=h.lt
 have hgl:1<w.heap.size:=World.block_lt_of_cell? _ _ hsy
 obtain⟨t,ht⟩:∃t,t=ps[k]'h.lt:=⟨_,rfl⟩
 have HT:Hid (∀hh:k<ps.length,ps[k]'hh=t):=fun _=>ht.symm
 rw[←ht]at hl ⊢
 clear ht h
 go_enter Tryz.func234,Tryz.ntmps234
 go_wp2_with fail
 refine(token_any H.out).mono ?_
 rintro e w1 ⟨rfl,hb1⟩
 rw[HT.out]
 have HB1:Hid (Below w.heap.size w w1):=hb1
 clear hb1
 go_wp2_with fail
 refine(isWord_any t s w1).mono ?_
 rintro e w2 ⟨rfl,hb2⟩
 have HB2:Hid (Below w.heap.size w w2):=HB1.out.trans (hb2.mono HB1.out.size)
 have HR2:Hid (RD w2 b g cp ps k):=RD.below H.out HB2.out
 have hsy2:w2.cell? ⟨1,0,none⟩=some (.iface 491 (.pointer (some sy))):=(HB2.out.cell (p:=⟨_,0,none⟩) hgl).trans hsy
 obtain⟨c0,c1,fz,_⟩:=HR2.out.all
 rw[show(((t.kd:Int) == 1) && (t.tx.toList == s.toList))=wordB t s from rfl]
 clear hb2 HB1
 cases hm:wordB t s
 ·have HM:Hid (wordB t s=false):=hm
  go_wp2_with fail
  refine(cannotStand_any HR2.out hsy2).mono ?_
  rintro e w3 ⟨v,rfl,hv,hb3⟩
  rw[HT.out]at hv
  have HF:Hid (Took w3 b g cp ps k sy t.at_ false v):=Or.inr ⟨rfl,hv.out,RD.below HR2.out hb3⟩
  have HG:Hid (w.grownBy w3 (some b)):=grown_of_below (HB2.out.trans (hb3.mono HB2.out.size))
  clear hv hb3
  go_wp2
  go_ret
  exact⟨_,rfl,by rw[HM.out];exact HF,HG.out⟩
 ·have hl2:=hl hm
  have HM:Hid (wordB t s=true):=hm
  have HF:Hid (Took (w2.setCell ⟨b,1,none⟩ (.int .i64 ((k+1:Nat):Int))) b g cp ps k sy t.at_ true .nilIface):=Or.inl ⟨rfl,rfl,HR2.out.step hl2⟩
  have HG:Hid (w.grownBy (w2.setCell ⟨b,1,none⟩ (.int .i64 ((k+1:Nat):Int))) (some b)):=grown_set (grown_of_below HB2.out) (Or.inl rfl) _
  go_wp2
  go_ret
  exact⟨_,rfl,by rw[HM.out];exact HF,HG.out⟩
def nameB(t:PTok):Bool:=(t.kd:Int) == 1
set_option maxRecDepth 100000 in
set_option maxHeartbeats 1000000 in
theorem takeName_any{w:World}{b g cp:Nat}{ps:List PTok}{k:Nat}(h:RD w b g cp ps k)(hl:nameB (ps[k]'h.lt)=true→k+1<ps.length)(hn:ps.length≤6002){sy:Addr}(hsy:w.cell? ⟨1,0,none⟩=some (.iface 491 (.pointer (some sy)))) :
  Calls Tryz.prog 236 #[.pointer (some ⟨b,0,none⟩)] w fun e w'=>∃(x:ByteArray) (v:Value),e=.returned (.tuple #[.string x,v])∧Hid (Took w' b g cp ps k sy (ps[k]'h.lt).at_ (nameB (ps[k]'h.lt)) v∧(nameB (ps[k]'h.lt)=true→x=(ps[k]'h.lt).tx))∧w.grownBy w' (some b):=by
 have H:Hid (RD w b g cp ps k):=h
 have hlt:=h.lt
 have hgl:1<w.heap.size:=World.block_lt_of_cell? _ _ hsy
 obtain⟨t,ht⟩:∃t,t=ps[k]'h.lt:=⟨_,rfl⟩
 have HT:Hid (∀hh:k<ps.length,ps[k]'hh=t):=fun _=>ht.symm
 rw[←ht]at hl ⊢
 clear ht h
 go_enter Tryz.func236,Tryz.ntmps236
 go_wp2_with fail
 refine(token_any H.out).mono ?_
 rintro e w1 ⟨rfl,hb1⟩
 rw[HT.out]
 obtain⟨kd,at_,tx,v⟩:=t
 obtain⟨W,hW⟩:∃W,W=w1.alloc (.cells #[.int .i64 kd,.int .i64 at_,.string tx,.int .i64 v] 167):=⟨_,rfl⟩
 have HW:Hid (W=w1.alloc (.cells #[.int .i64 kd,.int .i64 at_,.string tx,.int .i64 v] 167)):=hW
 have hbx:W.heap[w1.heap.size]?=some (.cells #[.int .i64 kd,.int .i64 at_,.string tx,.int .i64 v] 167 (0,0)):=by rw[hW];exact Go.Deep.blk_alloc_new _ _
 have HB2:Hid (Below w.heap.size w W):=hid (by rw[hW];exact hb1.alloc hb1.size _)
 have HR2:Hid (RD W b g cp ps k):=RD.below H.out HB2.out
 have hsy2:W.cell? ⟨1,0,none⟩=some (.iface 491 (.pointer (some sy))):=(HB2.out.cell (p:=⟨_,0,none⟩) hgl).trans hsy
 obtain⟨c0,c1,fz,hbl,_⟩:=HR2.out.all
 have hne:b<w1.heap.size:=Nat.lt_of_lt_of_le (Array.getElem?_eq_some_iff.1 H.out.cells).1 hb1.size
 have k2:(W.setCell ⟨b,1,none⟩ (.int .i64 ((k+1:Nat):Int))).cell? ⟨w1.heap.size,2,none⟩=some (.string tx):=by
  have:(W.setCell ⟨b,1,none⟩ (.int .i64 ((k+1:Nat):Int))).heap[w1.heap.size]?=W.heap[w1.heap.size]?:=Go.Deep.blk_setCell_other _ _ _ _ (by show w1.heap.size≠b;omega)
  unfold World.cell?
  rw[this,hbx]
  rfl
 have HFS:Hid (k+1<ps.length→Took ((w1.setCell ⟨b,1,none⟩ (.int .i64 ((k+1:Nat):Int))).alloc (.cells #[.int .i64 kd,.int .i64 at_,.string tx,.int .i64 v] 167)) b g cp ps k sy at_ true .nilIface):=fun hl2=>Or.inl ⟨rfl,rfl,(RD.step (RD.below H.out hb1) hl2).below ((Below.refl _ _).alloc (Nat.le_refl _) _)⟩
 have HGS:Hid (w.grownBy ((w1.setCell ⟨b,1,none⟩ (.int .i64 ((k+1:Nat):Int))).alloc (.cells #[.int .i64 kd,.int .i64 at_,.string tx,.int .i64 v] 167)) (some b)):=grown_alloc (grown_set (grown_of_below hb1) (Or.inl rfl) _) _
 clear hb1 hW hbx
 generalize hm:((kd:Int) == 1)=nb at *
 cases nb
 ·have HM:Hid (nameB ⟨kd,at_,tx,v⟩=false):=hm
  have hm2:((kd:Int) != 1)=true:=by rw[bne,hm];rfl
  go_wp2_with fail
  rw[←HW.out]
  refine(cannotStand_any HR2.out hsy2).mono ?_
  rintro e w3 ⟨v3,rfl,hv,hb3⟩
  rw[HT.out]at hv
  have HF:Hid (Took w3 b g cp ps k sy at_ false v3):=Or.inr ⟨rfl,hv.out,RD.below HR2.out hb3⟩
  have HG:Hid (w.grownBy w3 (some b)):=grown_of_below (HB2.out.trans (hb3.mono HB2.out.size))
  clear hv hb3
  go_wp2
  go_ret2
  exact⟨_,_,rfl,by rw[HM.out];exact⟨HF.out,fun h=>nomatch h⟩,HG.out⟩
 ·have HM:Hid (nameB ⟨kd,at_,tx,v⟩=true):=hm
  have hm2:((kd:Int) != 1)=false:=by rw[bne,hm];rfl
  have hl2:=hl hm
  rw[HW.out]at k2 c0 c1 fz
  go_wp2
  go_ret2
  exact⟨_,_,rfl,by rw[HM.out];exact⟨HFS.out hl2,fun _=>rfl⟩,HGS.out⟩
def opOf(t:PTok):Option Nat:=if wordB t ⟨#[111,114]⟩then some 0 else if markB t ⟨#[43]⟩then some 1 else if markB t ⟨#[45]⟩then some 2 else if markB t ⟨#[42]⟩then some 3 else if markB t ⟨#[47]⟩then some 4 else none
def TAt(w:World)(a:Nat)(t:PTok):Prop:=w.heap[a]?=some (.cells #[.int .i64 t.kd,.int .i64 t.at_,.string t.tx,.int .i64 t.v] 167 (0,0))
theorem TAt.all{w:World}{a:Nat}{t:PTok}(h:TAt w a t):w.cell? ⟨a,0,none⟩=some (.int .i64 t.kd)∧w.cell? ⟨a,1,none⟩=some (.int .i64 t.at_)∧w.cell? ⟨a,2,none⟩=some (.string t.tx)∧w.cell? ⟨a,3,none⟩=some (.int .i64 t.v):=by
 unfold TAt at h
 refine⟨?_,?_,?_,?_⟩ <;> simp[World.cell?,h]
theorem TAt.below{w w':World}{a:Nat}{t:PTok}(h:TAt w a t)(hb:Below w.heap.size w w'):TAt w' a t:=(hb.block a (Array.getElem?_eq_some_iff.1 h).1).trans h
theorem mark_step(t:PTok)(s:ByteArray){x:Bool}(hx:markB t s=x)(w0 w:World)(a:Nat)(ht:TAt w a t)(hb:Below w0.heap.size w0 w) :
  Calls Tryz.prog 185 #[.agg #[.int .i64 t.kd,.int .i64 t.at_,.string t.tx,.int .i64 t.v],.string s] w fun e w'=>e=.returned (.bool x)∧Hid (TAt w' a t)∧Hid (Below w0.heap.size w0 w'):=by
 subst hx
 refine(isMark_any t s w).mono ?_
 rintro e w' ⟨rfl,hb'⟩
 exact⟨rfl,ht.below hb',hb.trans (hb'.mono hb.size)⟩
theorem word_step(t:PTok)(s:ByteArray){x:Bool}(hx:wordB t s=x)(w0 w:World)(a:Nat)(ht:TAt w a t)(hb:Below w0.heap.size w0 w) :
  Calls Tryz.prog 192 #[.agg #[.int .i64 t.kd,.int .i64 t.at_,.string t.tx,.int .i64 t.v],.string s] w fun e w'=>e=.returned (.bool x)∧Hid (TAt w' a t)∧Hid (Below w0.heap.size w0 w'):=by
 subst hx
 refine(isWord_any t s w).mono ?_
 rintro e w' ⟨rfl,hb'⟩
 exact⟨rfl,ht.below hb',hb.trans (hb'.mono hb.size)⟩
set_option maxRecDepth 100000 in
set_option maxHeartbeats 2000000 in
theorem operatorOf_any(t:PTok)(w:World) :
  Calls Tryz.prog 124 #[.agg #[.int .i64 t.kd,.int .i64 t.at_,.string t.tx,.int .i64 t.v]] w fun e w'=>e=.returned (.tuple #[.int .i64 ((opOf t).getD 0:Nat),.bool (opOf t).isSome])∧Below w.heap.size w w':=by
 obtain⟨b1,h1⟩:∃x,wordB t ⟨#[111,114]⟩=x:=⟨_,rfl⟩
 obtain⟨b2,h2⟩:∃x,markB t ⟨#[43]⟩=x:=⟨_,rfl⟩
 obtain⟨b3,h3⟩:∃x,markB t ⟨#[45]⟩=x:=⟨_,rfl⟩
 obtain⟨b4,h4⟩:∃x,markB t ⟨#[42]⟩=x:=⟨_,rfl⟩
 obtain⟨b5,h5⟩:∃x,markB t ⟨#[47]⟩=x:=⟨_,rfl⟩
 have HO:Hid (opOf t=if b1 then some 0 else if b2 then some 1 else if b3 then some 2 else if b4 then some 3 else if b5 then some 4 else none):=hid (by unfold opOf;rw[h1,h2,h3,h4,h5])
 have H:Hid (wordB t ⟨#[111,114]⟩=b1∧markB t ⟨#[43]⟩=b2∧markB t ⟨#[45]⟩=b3∧markB t ⟨#[42]⟩=b4∧markB t ⟨#[47]⟩=b5):=⟨h1,h2,h3,h4,h5⟩
 have HT0:Hid (TAt (w.alloc (.cells #[.int .i64 t.kd,.int .i64 t.at_,.string t.tx,.int .i64 t.v] 167)) w.heap.size t):=Go.Deep.blk_alloc_new _ _
 have HB0:Hid (Below w.heap.size w (w.alloc (.cells #[.int .i64 t.kd,.int .i64 t.at_,.string t.tx,.int .i64 t.v] 167))):=(Below.refl _ _).alloc (Nat.le_refl _) _
 rw[HO.out]
 clear h1 h2 h3 h4 h5 HO
 go_enter Tryz.func124,Tryz.ntmps124
 go_wp2_with fail
 refine(word_step t _ H.out.1 w _ w.heap.size HT0.out HB0.out).mono ?_
 rintro e w1 ⟨rfl,HT1,HB1⟩
 clear HT0 HB0
 cases b1
 ·obtain⟨k0,k1,k2,k3⟩:=TAt.all HT1.out
  go_wp2_with fail
  clear k0 k1 k2 k3
  refine(mark_step t _ H.out.2.1 w w1 w.heap.size HT1.out HB1.out).mono ?_
  rintro e w2 ⟨rfl,HT2,HB2⟩
  cases b2
  ·obtain⟨k0,k1,k2,k3⟩:=TAt.all HT2.out
   go_wp2_with fail
   clear k0 k1 k2 k3
   refine(mark_step t _ H.out.2.2.1 w w2 w.heap.size HT2.out HB2.out).mono ?_
   rintro e w3 ⟨rfl,HT3,HB3⟩
   cases b3
   ·obtain⟨k0,k1,k2,k3⟩:=TAt.all HT3.out
    go_wp2_with fail
    clear k0 k1 k2 k3
    refine(mark_step t _ H.out.2.2.2.1 w w3 w.heap.size HT3.out HB3.out).mono ?_
    rintro e w4 ⟨rfl,HT4,HB4⟩
    cases b4
    ·obtain⟨k0,k1,k2,k3⟩:=TAt.all HT4.out
     go_wp2_with fail
     clear k0 k1 k2 k3
     refine(mark_step t _ H.out.2.2.2.2 w w4 w.heap.size HT4.out HB4.out).mono ?_
     rintro e w5 ⟨rfl,HT5,HB5⟩
     cases b5
     ·go_wp2
      go_ret2
      exact⟨rfl,HB5.out⟩
     ·go_wp2
      go_ret2
      exact⟨rfl,HB5.out⟩
    ·go_wp2
     go_ret2
     exact⟨rfl,HB4.out⟩
   ·go_wp2
    go_ret2
    exact⟨rfl,HB3.out⟩
  ·go_wp2
   go_ret2
   exact⟨rfl,HB2.out⟩
 ·go_wp2
  go_ret2
  exact⟨rfl,HB1.out⟩
def AllTok:List PTok→List Tok→Prop
 | [],[]=>True
 | p::ps,t::ts=>TokIs p t∧AllTok ps ts
 | _,_=>False
theorem AllTok.snoc:∀ {ps:List PTok} {ts:List Tok} {p:PTok} {t:Tok},AllTok ps ts→TokIs p t→AllTok (ps++[p]) (ts++[t])
 | [],[],_,_,_,h=>⟨h,trivial⟩
 | _::ps,_::ts,_,_,h,h'=>⟨h.1,AllTok.snoc (ps:=ps) (ts:=ts) h.2 h'⟩
 | [],_::_,_,_,h,_=>h.elim
 | _::_,[],_,_,h,_=>h.elim
theorem AllTok.length:∀ {ps:List PTok} {ts:List Tok},AllTok ps ts→ps.length=ts.length
 | [],[],_=>rfl
 | _::ps,_::ts,h=>by rw[List.length_cons,List.length_cons,AllTok.length (ps:=ps) (ts:=ts) h.2]
 | [],_::_,h=>h.elim
 | _::_,[],h=>h.elim
theorem lexAll_live{l:List UInt8}{n i:Nat}{t:Tok}{e:Nat}(hl:lexAt l i=(t,e))(hk:¬(t.kind=0∨t.kind=5)):lexAll l (n+1) i=t::lexAll l n e:=by
 show(if (lexAt l i).1.kind=0∨(lexAt l i).1.kind=5 then [(lexAt l i).1] else (lexAt l i).1::lexAll l n (lexAt l i).2)=_
 rw[hl,if_neg hk]
theorem lexAll_dead{l:List UInt8}{n i:Nat}{t:Tok}{e:Nat}(hl:lexAt l i=(t,e))(hk:t.kind=0∨t.kind=5):lexAll l (n+1) i=[t]:=by
 show(if (lexAt l i).1.kind=0∨(lexAt l i).1.kind=5 then [(lexAt l i).1] else (lexAt l i).1::lexAll l n (lexAt l i).2)=_
 rw[hl,if_pos hk]
def LexRel(s:ByteArray)(ps:List PTok)(at_:Nat):Prop:=at_≤s.size∧ps.length≤at_∧∃ts m,lexAll (bl s) ((bl s).length+1) 0=ts++lexAll (bl s) m at_∧s.size+1≤m+at_∧AllTok ps ts
theorem LexRel.start(s:ByteArray):LexRel s [] 0:=⟨Nat.zero_le _,Nat.le_refl _,[],(bl s).length+1,rfl,by rw[bl_length];omega,trivial⟩
theorem LexRel.skip{s:ByteArray}{ps:List PTok}{at_:Nat}(h:LexRel s ps at_)(hlt:at_<s.size)(hc:s[at_]=32):LexRel s ps (at_+1):=by
 obtain⟨_,h2,ts,m,h3,h4,h5⟩:=h
 refine⟨hlt,by omega,ts,m,?_,by omega,h5⟩
 rw[h3]
 congr 1
 cases m with
 | zero=>rfl
 | succ m=>
  show(if (lexAt (bl s) at_).1.kind=0∨(lexAt (bl s) at_).1.kind=5 then [(lexAt (bl s) at_).1] else (lexAt (bl s) at_).1::lexAll (bl s) m (lexAt (bl s) at_).2)=_
  rw[lexAt_skip s at_ hlt hc]
  rfl
theorem LexRel.token{s:ByteArray}{ps:List PTok}{at_:Nat}(h:LexRel s ps at_){t:Tok}{e:Nat}(hl:lexAt (bl s) at_=(t,e))(hk:¬(t.kind=0∨t.kind=5)){p:PTok}(hp:TokIs p t):LexRel s (ps++[p]) e:=by
 obtain⟨h1,h2,ts,m,h3,h4,h5⟩:=h
 have hg:=lexAt_gt (bl s) at_ (by rw[bl_length];exact h1)
 rw[hl]at hg
 have hgt:=hg.1 (fun h=>hk (Or.inl h))
 have hle:=hg.2
 rw[bl_length]at hle
 simp only at hgt hle
 obtain⟨m',rfl⟩:∃m',m=m'+1:=⟨m - 1,by omega⟩
 refine⟨hle,by simp;omega,ts++[t],m',?_,by omega,h5.snoc hp⟩
 rw[h3,lexAll_live hl hk,List.append_assoc]
 rfl
theorem LexRel.done{s:ByteArray}{ps:List PTok}{at_:Nat}(h:LexRel s ps at_){t:Tok}{e:Nat}(hl:lexAt (bl s) at_=(t,e))(hk:t.kind=0∨t.kind=5){p:PTok}(hp:TokIs p t):AllTok (ps++[p]) (lexAll (bl s) ((bl s).length+1) 0):=by
 obtain⟨h1,h2,ts,m,h3,h4,h5⟩:=h
 obtain⟨m',rfl⟩:∃m',m=m'+1:=⟨m - 1,by omega⟩
 rw[h3,lexAll_dead hl hk]
 exact h5.snoc hp
theorem lexAt_end(s:ByteArray):lexAt (bl s) s.size=(⟨0,[],s.size⟩,s.size):=by
 unfold lexAt
 have hd:(bl s).drop s.size=[]:=List.drop_of_length_le (by rw[bl_length];exact Nat.le_refl _)
 rw[hd]
 show lexJ (bl s) s.size=_
 unfold lexJ
 rw[hd]
theorem lexAt_digit{s:ByteArray}{k:Nat}(h:k<s.size)(hd:digit s[k]=true):lexAt (bl s) k=(if (number 1000000000 (((bl s).drop k).take (run digit ((bl s).drop k)))).isSome then ⟨1,((bl s).drop k).take (run digit ((bl s).drop k)),k⟩else ⟨5,[],k⟩,k+run digit ((bl s).drop k)):=by
 have hne:s[k]≠32:=by rintro e;rw[e]at hd;revert hd;decide
 rw[lexAt_at s k h hne]
 unfold lexC
 rw[if_pos hd,←drop_cons s k h]
theorem lexAt_letter{s:ByteArray}{k:Nat}(h:k<s.size)(hd:digit s[k]=false)(hl:letter s[k]=true):lexAt (bl s) k=(if 8<run letter ((bl s).drop k)then ⟨5,[],k⟩else ⟨2,((bl s).drop k).take (run letter ((bl s).drop k)),k⟩,k+run letter ((bl s).drop k)):=by
 have hne:s[k]≠32:=by rintro e;rw[e]at hl;revert hl;decide
 rw[lexAt_at s k h hne]
 unfold lexC
 rw[if_neg (by rw[hd];exact Bool.false_ne_true),if_pos hl,←drop_cons s k h]
theorem eq_word(s:ByteArray)(l:List UInt8):(s.toList == l)=decide (l=bl s):=by
 rw[toList_bl,Bool.eq_iff_iff,beq_iff_eq,decide_eq_true_iff]
 exact⟨fun h=>h.symm,fun h=>h.symm⟩
theorem idx_isSome (w : List UInt8) : ∀ l : List (List UInt8), (idx w l).isSome = l.any (fun x => decide (x = w))
  | []=>rfl
  | x :: l => by
    unfold idx
    rw[List.any_cons]
    by_cases h:x=w
    · rw[if_pos h];simp[h]
    · rw[if_neg h,Option.isSome_map,idx_isSome w l];simp[h]
set_option maxHeartbeats 1000000 in
theorem isGroupWord_any(s:ByteArray)(w:World) :
  Calls Tryz.prog 187 #[.string s] w fun e w'=>e=.returned (.bool (idx (bl s) groupWords).isSome)∧w'=w:=by
 have e1:=eq_word s [115,117,109]
 have e2:=eq_word s [109,97,120]
 have e3:=eq_word s [109,105,110]
 have e4:=eq_word s [99,111,117,110,116]
 have HI:Hid ((idx (bl s) groupWords).isSome=(decide ([115,117,109]=bl s) || (decide ([109,97,120]=bl s) || (decide ([109,105,110]=bl s) || (decide ([99,111,117,110,116]=bl s) || false))))):=idx_isSome _ _
 rw[HI.out]
 clear HI
 generalize decide ([115,117,109]=bl s)=b1 at *
 generalize decide ([109,97,120]=bl s)=b2 at *
 generalize decide ([109,105,110]=bl s)=b3 at *
 generalize decide ([99,111,117,110,116]=bl s)=b4 at *
 cases b1
 ·cases b2
  ·cases b3
   ·cases b4
    ·go_enter Tryz.func187,Tryz.ntmps187
     go_wp2
     go_ret
     exact⟨rfl,rfl⟩
    ·go_enter Tryz.func187,Tryz.ntmps187
     go_wp2
     go_ret
     exact⟨rfl,rfl⟩
   ·go_enter Tryz.func187,Tryz.ntmps187
    go_wp2
    go_ret
    exact⟨rfl,rfl⟩
  ·go_enter Tryz.func187,Tryz.ntmps187
   go_wp2
   go_ret
   exact⟨rfl,rfl⟩
 ·go_enter Tryz.func187,Tryz.ntmps187
  go_wp2
  go_ret
  exact⟨rfl,rfl⟩
set_option maxHeartbeats 1000000 in
theorem isWindowWord_any(s:ByteArray)(w:World) :
  Calls Tryz.prog 189 #[.string s] w fun e w'=>e=.returned (.bool (idx (bl s) overWords).isSome)∧w'=w:=by
 have e1:=eq_word s [116,111,116,97,108]
 have e2:=eq_word s [112,101,97,107]
 have e3:=eq_word s [108,111,119]
 have e4:=eq_word s [115,105,122,101]
 have e5:=eq_word s [114,105,115,101]
 have HI:Hid ((idx (bl s) overWords).isSome=(decide ([116,111,116,97,108]=bl s) || (decide ([112,101,97,107]=bl s) || (decide ([108,111,119]=bl s) || (decide ([115,105,122,101]=bl s) || (decide ([114,105,115,101]=bl s) || false)))))):=idx_isSome _ _
 rw[HI.out]
 clear HI
 generalize decide ([116,111,116,97,108]=bl s)=b1 at *
 generalize decide ([112,101,97,107]=bl s)=b2 at *
 generalize decide ([108,111,119]=bl s)=b3 at *
 generalize decide ([115,105,122,101]=bl s)=b4 at *
 generalize decide ([114,105,115,101]=bl s)=b5 at *
 cases b1
 ·cases b2
  ·cases b3
   ·cases b4
    ·cases b5
     ·go_enter Tryz.func189,Tryz.ntmps189
      go_wp2
      go_ret
      exact⟨rfl,rfl⟩
     ·go_enter Tryz.func189,Tryz.ntmps189
      go_wp2
      go_ret
      exact⟨rfl,rfl⟩
    ·go_enter Tryz.func189,Tryz.ntmps189
     go_wp2
     go_ret
     exact⟨rfl,rfl⟩
   ·go_enter Tryz.func189,Tryz.ntmps189
    go_wp2
    go_ret
    exact⟨rfl,rfl⟩
  ·go_enter Tryz.func189,Tryz.ntmps189
   go_wp2
   go_ret
   exact⟨rfl,rfl⟩
 ·go_enter Tryz.func189,Tryz.ntmps189
  go_wp2
  go_ret
  exact⟨rfl,rfl⟩
set_option maxHeartbeats 1000000 in
theorem canName_any(s:ByteArray)(w:World) :
  Calls Tryz.prog 238 #[.string s] w fun e w'=>e=.returned (.bool (!decide (wOr=bl s) && !decide (wBy=bl s) && !(idx (bl s) groupWords).isSome && !(idx (bl s) overWords).isSome))∧w'=w:=by
 have e1:=eq_word s [111,114]
 have e2:=eq_word s [98,121]
 have HG:Hid (∀w,Calls Tryz.prog 187 #[.string s] w fun e w'=>e=.returned (.bool (idx (bl s) groupWords).isSome)∧w'=w):=isGroupWord_any s
 have HO:Hid (∀w,Calls Tryz.prog 189 #[.string s] w fun e w'=>e=.returned (.bool (idx (bl s) overWords).isSome)∧w'=w):=isWindowWord_any s
 show Calls _ _ _ _ fun e w'=>e=.returned (.bool (!decide ([111,114]=bl s) && !decide ([98,121]=bl s) && !(idx (bl s) groupWords).isSome && !(idx (bl s) overWords).isSome))∧w'=w
 generalize decide ([111,114]=bl s)=b1 at *
 generalize decide ([98,121]=bl s)=b2 at *
 generalize(idx (bl s) groupWords).isSome=b3 at *
 generalize(idx (bl s) overWords).isSome=b4 at *
 cases b1 <;> cases b2 <;> cases b3 <;> cases b4
 all_goals
  go_enter Tryz.func238,Tryz.ntmps238
  go_wp2_with (first|(go_at_call 187;refine(HG.out _).mono ?_;rintro e w' ⟨rfl,rfl⟩)|(go_at_call 189;refine(HO.out _).mono ?_;rintro e w' ⟨rfl,rfl⟩))
  go_ret
  exact⟨rfl,rfl⟩
def TokWf(t:Tok):Prop:=(t.kind=2→t.txt.all letter=true)∧(t.kind=4→t.txt.all (fun c=>!letter c)=true)
def ToksWf:List Tok→Prop
 | []=>False
 | [t]=>t.kind=0∨t.kind=5
 | t::u::l=>(t.kind=1∨t.kind=2∨t.kind=3∨t.kind=4)∧TokWf t∧ToksWf (u::l)
theorem ToksWf.tail{ts:List Tok}(h:ToksWf ts)(hl:¬((hd ts).kind=0∨(hd ts).kind=5)):ToksWf ts.tail∧1<ts.length:=by
 match ts,h with
 | [t],h=>exact absurd h hl
 | t::u::l,h=>exact⟨h.2.2,by simp⟩
theorem ToksWf.head{ts:List Tok}(h:ToksWf ts):TokWf (hd ts)∧0<ts.length∧(hd ts).kind≤5:=by
 match ts,h with
 | [t],h=>
  have h':t.kind=0∨t.kind=5:=h
  refine⟨⟨fun e=>?_,fun e=>?_⟩,by simp,?_⟩
  ·exact absurd (show t.kind=2 from e) (by omega)
  ·exact absurd (show t.kind=4 from e) (by omega)
  ·show t.kind≤5;omega
 | t::u::l,h=>exact⟨h.2.1,by simp,by have:=h.1;show t.kind≤5;omega⟩
theorem allTok_cons{p:PTok}{l:List PTok}{ts:List Tok}(h:AllTok (p::l) ts):TokIs p (hd ts)∧AllTok l ts.tail:=by
 match ts,h with
 | t::m,h=>exact h
structure RS where
 b:Nat
 g:Nat
 cp:Nat
 ps:List PTok
 sy:Addr
 dp:Addr
structure RK (w:World) (R:RS) (k:Nat) (ts:List Tok):Prop where
 rd:RD w R.b R.g R.cp R.ps k
 all:AllTok (R.ps.drop k) ts
 wf:ToksWf ts
 len:R.ps.length≤302
 sy:w.cell? ⟨1,0,none⟩=some (.iface 491 (.pointer (some R.sy)))
 dp:w.cell? ⟨2,0,none⟩=some (.iface 491 (.pointer (some R.dp)))
theorem RK.lt{w:World}{R:RS}{k:Nat}{ts:List Tok}(h:RK w R k ts):k<R.ps.length:=h.rd.lt
theorem RK.tok{w:World}{R:RS}{k:Nat}{ts:List Tok}(h:RK w R k ts):TokIs (R.ps[k]'h.lt) (hd ts):=by
 have ha:=h.all
 rw[List.drop_eq_getElem_cons h.lt]at ha
 exact(allTok_cons ha).1
theorem RK.size{w:World}{R:RS}{k:Nat}{ts:List Tok}(h:RK w R k ts):k+ts.length=R.ps.length:=by
 have:=h.all.length
 rw[List.length_drop]at this
 have:=h.lt
 omega
theorem cell_ne{w:World}{b g:Nat}{c0 c1:Value}{u v:Value}{t:TypeId}(hb:w.heap[b]?=some (.cells #[c0,c1] t (0,0)))(hg:w.cell? ⟨g,0,none⟩=some v)(hne:c0≠v)(_:u=u):g≠b:=by
 rintro rfl
 simp[World.cell?,hb]at hg
 exact hne hg
theorem RK.glob{w:World}{R:RS}{k:Nat}{ts:List Tok}(h:RK w R k ts):1≠R.b∧2≠R.b:=
 ⟨cell_ne (u:=.nilIface) h.rd.cells h.sy (by intro e;cases e) rfl,cell_ne (u:=.nilIface) h.rd.cells h.dp (by intro e;cases e) rfl⟩
theorem RK.below{w w':World}{R:RS}{k:Nat}{ts:List Tok}(h:RK w R k ts)(hb:Below w.heap.size w w'):RK w' R k ts:=
 ⟨h.rd.below hb,h.all,h.wf,h.len,(hb.cell (p:=⟨_,0,none⟩) (World.block_lt_of_cell? _ _ h.sy)).trans h.sy,(hb.cell (p:=⟨_,0,none⟩) (World.block_lt_of_cell? _ _ h.dp)).trans h.dp⟩
theorem RK.blocks{w w':World}{R:RS}{k:Nat}{ts:List Tok}(h:RK w R k ts)(hg:∀j,j<w.heap.size→(j=R.b∨j=R.g∨j=1∨j=2)→w'.heap[j]?=w.heap[j]?):RK w' R k ts:=by
 have hsy:=World.block_lt_of_cell? _ _ h.sy
 have hdp:=World.block_lt_of_cell? _ _ h.dp
 refine⟨⟨?_,?_,h.lt⟩,h.all,h.wf,h.len,?_,?_⟩
 ·exact(hg _ (Array.getElem?_eq_some_iff.1 h.rd.cells).1 (Or.inl rfl)).trans h.rd.cells
 ·exact own_same h.rd.own (fun j hj => by
    have:j=R.g:=by simpa [Value.ownBlock] using hj.symm
    subst this
    exact hg _ (own_lt h.rd.own) (Or.inr (Or.inl rfl)))
 ·exact(World.cell?_of_block (a:=⟨1,0,none⟩) (hg _ hsy (Or.inr (Or.inr (Or.inl rfl))))).trans h.sy
 ·exact(World.cell?_of_block (a:=⟨2,0,none⟩) (hg _ hdp (Or.inr (Or.inr (Or.inr rfl))))).trans h.dp
theorem RK.step{w:World}{R:RS}{k:Nat}{ts:List Tok}(h:RK w R k ts)(hl:¬((hd ts).kind=0∨(hd ts).kind=5)):RK (w.setCell ⟨R.b,1,none⟩ (.int .i64 ((k+1:Nat):Int))) R (k+1) ts.tail:=by
 obtain⟨hw,h1⟩:=h.wf.tail hl
 have hs:=h.size
 obtain⟨g1,g2⟩:=h.glob
 refine⟨h.rd.step (by omega),?_,hw,h.len,?_,?_⟩
 ·have ha:=h.all
  rw[List.drop_eq_getElem_cons h.lt]at ha
  exact(allTok_cons ha).2
 ·exact(World.cell?_of_block (a:=⟨1,0,none⟩) (Go.Deep.blk_setCell_other _ _ _ _ g1)).trans h.sy
 ·exact(World.cell?_of_block (a:=⟨2,0,none⟩) (Go.Deep.blk_setCell_other _ _ _ _ g2)).trans h.dp
theorem ErrAt.lt{w:World}{v:Value}{p:Int}{a:Addr}(h:ErrAt w v p a):∃fa:Nat,v=.iface 115 (.pointer (some ⟨fa,0,none⟩)):=by
 obtain⟨fa,h1,_⟩:=h;exact⟨fa,h1⟩
theorem ErrAt.set{w:World}{v:Value}{p:Int}{a:Addr}(h:ErrAt w v p a){q:Nat}{c:Array Value}{t:TypeId}{fr:Nat×Nat}(hq:w.heap[q]?=some (.cells c t fr))(ht:t≠119)(o:Nat)(x:Value):ErrAt (w.setCell ⟨q,o,none⟩ x) v p a:=by
 obtain⟨fa,h1,h2⟩:=h
 refine⟨fa,h1,(Go.Deep.blk_setCell_other _ _ _ _ ?_).trans h2⟩
 show fa≠q
 rintro rfl
 rw[h2]at hq
 injection hq with h3
 injection h3 with _ h4
 exact ht h4.symm
theorem ErrAt.grown{w w':World}{v:Value}{p:Int}{a:Addr}(h:ErrAt w v p a){b:Nat}(hg:w.grownBy w' (some b)){c:Array Value}{t:TypeId}{fr:Nat×Nat}(hq:w.heap[b]?=some (.cells c t fr))(ht:t≠119):ErrAt w' v p a:=by
 obtain⟨fa,h1,h2⟩:=h
 refine⟨fa,h1,(hg.block fa (Array.getElem?_eq_some_iff.1 h2).1 ?_).trans h2⟩
 intro e
 injection e with e
 subst e
 rw[h2]at hq
 injection hq with h3
 injection h3 with _ h4
 exact ht h4.symm
def ErrIs(w:World)(R:RS)(e:Nat×Nat)(v:Value):Prop:=(e.1=2∧ErrAt w v e.2 R.sy)∨(e.1=3∧ErrAt w v e.2 R.dp)
theorem ErrIs.below{w w':World}{R:RS}{e:Nat×Nat}{v:Value}(h:ErrIs w R e v)(hb:Below w.heap.size w w'):ErrIs w' R e v:=by
 rcases h with ⟨h1,h2⟩|⟨h1,h2⟩
 ·exact Or.inl ⟨h1,h2.below hb⟩
 ·exact Or.inr ⟨h1,h2.below hb⟩
theorem ErrIs.set{w:World}{R:RS}{e:Nat×Nat}{v:Value}(h:ErrIs w R e v){q:Nat}{c:Array Value}{t:TypeId}{fr:Nat×Nat}(hq:w.heap[q]?=some (.cells c t fr))(ht:t≠119)(o:Nat)(x:Value):ErrIs (w.setCell ⟨q,o,none⟩ x) R e v:=by
 rcases h with ⟨h1,h2⟩|⟨h1,h2⟩
 ·exact Or.inl ⟨h1,h2.set hq ht o x⟩
 ·exact Or.inr ⟨h1,h2.set hq ht o x⟩
theorem ErrIs.shape{w:World}{R:RS}{e:Nat×Nat}{v:Value}(h:ErrIs w R e v):∃fa:Nat,v=.iface 115 (.pointer (some ⟨fa,0,none⟩)):=by
 rcases h with ⟨_,h2⟩|⟨_,h2⟩ <;> exact h2.lt
def Res{α:Type}(R:RS)(V:World→α→Prop)(w:World)(r:Out α)(v:Value):Prop:=match r with
 | .error e=>ErrIs w R e v
 | .ok x=>v=.nilIface∧(∃k,RK w R k x.2)∧V w x.1
theorem pk_mark{k:Nat}(h:k≤5):(pk k=3 ↔ k=4)∧(pk k=1 ↔ k=2)∧(pk k=2 ↔ k=3)∧(pk k=0 ↔ k=1)∧(pk k=4 ↔ k=0):=by
 unfold pk
 match k,h with
 | 0,_=>decide
 | 1,_=>decide
 | 2,_=>decide
 | 3,_=>decide
 | 4,_=>decide
 | 5,_=>decide
theorem not_both {l : List UInt8} (h1 : l.all letter = true) (h2 : l.all (fun c => !letter c) = true) : l = [] := by
  cases l with
  | nil=>rfl
  | cons a l=>
    simp at h1 h2
    rw[h1.1]at h2
    exact absurd h2.1 (by decide)
theorem mark_isT {p : PTok} {t : Tok} (h : TokIs p t) (hw : TokWf t) (hk : t.kind ≤ 5) {s : ByteArray} (hs : (bl s).all (fun c => !letter c) = true) (hne : bl s ≠ []) : markB p s = isT (bl s) t := by
  obtain⟨h1,_,h3,_⟩:=h
  unfold markB isT
  rw[h1,toList_bl,toList_bl,h3]
  have hp:=(pk_mark hk).1
  by_cases hx:t.txt=bl s
  · rw[beq_iff_eq.2 hx,Bool.and_true,Bool.and_true]
    have h2:t.kind≠2:=fun e=>hne (by rw[←hx];exact not_both (hw.1 e) (by rw[hx];exact hs))
    rw[beq_eq_false_iff_ne.2 h2,Bool.false_or,Bool.eq_iff_iff,beq_iff_eq,beq_iff_eq]
    exact⟨fun e=>hp.1 (by omega),fun e=>by rw[hp.2 e];rfl⟩
  · rw[beq_eq_false_iff_ne.2 hx,Bool.and_false,Bool.and_false]
theorem word_isT{p:PTok}{t:Tok}(h:TokIs p t)(hw:TokWf t)(hk:t.kind≤5){s:ByteArray}(hs:(bl s).all letter=true)(hne:bl s≠[]):wordB p s=isT (bl s) t:=by
 obtain⟨h1,_,h3,_⟩:=h
 unfold wordB isT
 rw[h1,toList_bl,toList_bl,h3]
 have hp:=(pk_mark hk).2.1
 by_cases hx:t.txt=bl s
 ·rw[beq_iff_eq.2 hx,Bool.and_true,Bool.and_true]
  have h2:t.kind≠4:=fun e=>hne (by rw[←hx];exact not_both (by rw[hx];exact hs) (hw.2 e))
  rw[beq_eq_false_iff_ne.2 h2,Bool.or_false,Bool.eq_iff_iff,beq_iff_eq,beq_iff_eq]
  exact⟨fun e=>hp.1 (by omega),fun e=>by rw[hp.2 e];rfl⟩
 ·rw[beq_eq_false_iff_ne.2 hx,Bool.and_false,Bool.and_false]
theorem isT_dead{s:List UInt8}{t:Tok}(h:isT s t=true):¬(t.kind=0∨t.kind=5):=by
 unfold isT at h
 rw[Bool.and_eq_true,Bool.or_eq_true,beq_iff_eq,beq_iff_eq]at h
 omega
theorem Took.res{w w':World}{R:RS}{k:Nat}{ts:List Tok}{ok:Bool}{v:Value}(h:RK w R k ts)(hg:w.grownBy w' (some R.b))(ht:Took w' R.b R.g R.cp R.ps k R.sy (R.ps[k]'h.lt).at_ ok v)(hl:ok=true→¬((hd ts).kind=0∨(hd ts).kind=5)){α:Type}{V:World→α→Prop}{a:α}(hV:ok=true→V w' a) :
  Res R V w' (if ok then .ok (a,ts.tail)else .error (2,(hd ts).at_)) v:=by
 have hat:(R.ps[k]'h.lt).at_=(hd ts).at_:=h.tok.2.1
 rcases ht with ⟨rfl,rfl,hr⟩|⟨rfl,he,hr⟩
 ·have hd':=hl rfl
  obtain⟨hw,h1⟩:=h.wf.tail hd'
  obtain⟨g1,g2⟩:=h.glob
  refine⟨rfl,⟨k+1,hr,?_,hw,h.len,?_,?_⟩,hV rfl⟩
  ·have ha:=h.all
   rw[List.drop_eq_getElem_cons h.lt]at ha
   exact(allTok_cons ha).2
  ·exact(World.cell?_of_block (a:=⟨1,0,none⟩) (hg.block _ (World.block_lt_of_cell? _ _ h.sy) (fun e=>g1 (Option.some.inj e)))).trans h.sy
  ·exact(World.cell?_of_block (a:=⟨2,0,none⟩) (hg.block _ (World.block_lt_of_cell? _ _ h.dp) (fun e=>g2 (Option.some.inj e)))).trans h.dp
 ·rw[hat]at he
  exact Or.inl ⟨rfl,he⟩
theorem takeMark_t {w : World} {R : RS} {k : Nat} {ts : List Tok} (h : RK w R k ts) (s : ByteArray) (hs : (bl s).all (fun c => !letter c) = true) (hne : bl s ≠ []) :
    Calls Tryz.prog 233 #[.pointer (some ⟨R.b,0,none⟩),.string s] w fun e w'=>∃v,e=.returned v∧Hid (Res R (fun _ (_:Unit)=>True) w' (takeP (bl s) ts) v)∧w.grownBy w' (some R.b):=by
  have hm:=mark_isT h.tok h.wf.head.1 h.wf.head.2.2 hs hne
  have hl : markB (R.ps[k]'h.lt) s = true → k + 1 < R.ps.length := fun e => by
    have:=(h.wf.tail (isT_dead (hm.symm.trans e))).2
    have:=h.size
    omega
  refine(takeMark_any h.rd s hl (by have:=h.len;omega) h.sy).mono ?_
  rintro e w' ⟨v,rfl,ht,hg⟩
  refine⟨v,rfl,?_,hg⟩
  have:=ht.out.res (α:=Unit) (V:=fun _ _=>True) (a:=()) h hg (fun e=>isT_dead (hm.symm.trans e)) (fun _=>trivial)
  rw[hm]at this
  exact this
theorem takeWord_t{w:World}{R:RS}{k:Nat}{ts:List Tok}(h:RK w R k ts)(s:ByteArray)(hs:(bl s).all letter=true)(hne:bl s≠[]) :
  Calls Tryz.prog 234 #[.pointer (some ⟨R.b,0,none⟩),.string s] w fun e w'=>∃v,e=.returned v∧Hid (Res R (fun _ (_:Unit)=>True) w' (takeP (bl s) ts) v)∧w.grownBy w' (some R.b):=by
 have hm:=word_isT h.tok h.wf.head.1 h.wf.head.2.2 hs hne
 have hl : wordB (R.ps[k]'h.lt) s = true → k + 1 < R.ps.length := fun e => by
   have:=(h.wf.tail (isT_dead (hm.symm.trans e))).2
   have:=h.size
   omega
 refine(takeWord_any h.rd s hl (by have:=h.len;omega) h.sy).mono ?_
 rintro e w' ⟨v,rfl,ht,hg⟩
 refine⟨v,rfl,?_,hg⟩
 have:=ht.out.res (α:=Unit) (V:=fun _ _=>True) (a:=()) h hg (fun e=>isT_dead (hm.symm.trans e)) (fun _=>trivial)
 rw[hm]at this
 exact this
theorem name_kind{p:PTok}{t:Tok}(h:TokIs p t)(hk:t.kind≤5):nameB p=decide (t.kind=2):=by
 unfold nameB
 rw[h.1,Bool.eq_iff_iff,beq_iff_eq,decide_eq_true_iff]
 have hp:=(pk_mark hk).2.1
 exact⟨fun e=>hp.1 (by omega),fun e=>by rw[hp.2 e];rfl⟩
theorem takeName_t{w:World}{R:RS}{k:Nat}{ts:List Tok}(h:RK w R k ts) :
  Calls Tryz.prog 236 #[.pointer (some ⟨R.b,0,none⟩)] w fun e w'=>∃(x:ByteArray) (v:Value),e=.returned (.tuple #[.string x,v])∧Hid (Res R (fun _ a=>bl x=a) w' (kindP 2 ts) v)∧w.grownBy w' (some R.b):=by
 have hm:=name_kind h.tok h.wf.head.2.2
 have hd' : nameB (R.ps[k]'h.lt) = true → ¬ ((hd ts).kind = 0 ∨ (hd ts).kind = 5) := fun e => by
   have:(hd ts).kind=2:=of_decide_eq_true (hm.symm.trans e)
   omega
 have hl : nameB (R.ps[k]'h.lt) = true → k + 1 < R.ps.length := fun e => by
   have:=(h.wf.tail (hd' e)).2
   have:=h.size
   omega
 refine(takeName_any h.rd hl (by have:=h.len;omega) h.sy).mono ?_
 rintro e w' ⟨x,v,rfl,ht,hg⟩
 refine⟨x,v,rfl,?_,hg⟩
 have:=ht.out.1.res (α:=List UInt8) (V:=fun _ a=>bl x=a) (a:=(hd ts).txt) h hg hd' (fun e=>by rw[ht.out.2 e];exact h.tok.2.2.1)
 rw[hm]at this
 unfold kindP
 by_cases hk:(hd ts).kind=2
 ·rw[if_pos hk];rw[decide_eq_true hk]at this;exact this
 ·rw[if_neg hk];rw[decide_eq_false hk]at this;exact this
theorem cannotStand_t{w:World}{R:RS}{k:Nat}{ts:List Tok}(h:RK w R k ts) :
  Calls Tryz.prog 70 #[.pointer (some ⟨R.b,0,none⟩)] w fun e w'=>∃v,e=.returned v∧Hid (ErrIs w' R (2,(hd ts).at_) v)∧Below w.heap.size w w':=by
 refine(cannotStand_any h.rd h.sy).mono ?_
 rintro e w' ⟨v,rfl,hv,hb⟩
 refine⟨v,rfl,Or.inl ⟨rfl,?_⟩,hb⟩
 have:=hv.out
 rw[h.tok.2.1]at this
 exact this
theorem token_t{w:World}{R:RS}{k:Nat}{ts:List Tok}(h:RK w R k ts) :
  Calls Tryz.prog 69 #[.pointer (some ⟨R.b,0,none⟩)] w fun e w'=>∃t:PTok,e=.returned (.agg #[.int .i64 t.kd,.int .i64 t.at_,.string t.tx,.int .i64 t.v])∧Hid (TokIs t (hd ts))∧Below w.heap.size w w':=by
 refine(token_any h.rd).mono ?_
 rintro e w' ⟨rfl,hb⟩
 exact⟨_,rfl,h.tok,hb⟩
theorem isMark_t {t : PTok} {u : Tok} (h : TokIs t u) (hw : TokWf u) (hk : u.kind ≤ 5) (s : ByteArray) (hs : (bl s).all (fun c => !letter c) = true) (hne : bl s ≠ []) (w : World) :
    Calls Tryz.prog 185 #[.agg #[.int .i64 t.kd,.int .i64 t.at_,.string t.tx,.int .i64 t.v],.string s] w fun e w'=>e=.returned (.bool (isT (bl s) u))∧Below w.heap.size w w':=by
  rw[←mark_isT h hw hk hs hne]
  exact isMark_any t s w
end Go.Proofs.YtkodhpilkaihjaaGreatDoor

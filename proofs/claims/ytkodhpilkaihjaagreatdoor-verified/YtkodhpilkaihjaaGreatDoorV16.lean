/- Parts. -/
import Derived.Test.YtkodhpilkaihjaaGreatDoorV13
import Derived.Test.YtkodhpilkaihjaaGreatDoorV03
import Derived.Test.YtkodhpilkaihjaaGreatDoorVX
import Derived.Test.YtkodhpilkaihjaaGreatDoorV07
namespace Go.Proofs.YtkodhpilkaihjaaGreatDoor
open Go.RowKit LS
theorem asNumberNumber(v:Value)(w:World):(Instr.typeAssert (.iface 270 v) 106 270 true).run Tryz.prog w=.ok (.tuple #[v,.bool true]) w:=by kernel_rfl
theorem asNumberNegative(v:Value)(w:World):(Instr.typeAssert (.iface 270 v) 106 272 true).run Tryz.prog w=.ok (.tuple #[.agg #[.nilIface],.bool false]) w:=by kernel_rfl
theorem asNumberPair(v:Value)(w:World):(Instr.typeAssert (.iface 270 v) 106 268 true).run Tryz.prog w=.ok (.tuple #[.agg #[.int .i64 0,.nilIface,.nilIface],.bool false]) w:=by kernel_rfl
theorem asNumberGroup(v:Value)(w:World):(Instr.typeAssert (.iface 270 v) 106 274 true).run Tryz.prog w=.ok (.tuple #[.agg #[.string ByteArray.empty,.slice none 0 0,.nilIface],.bool false]) w:=by kernel_rfl
theorem asNumberWindow(v:Value)(w:World):(Instr.typeAssert (.iface 270 v) 106 283 true).run Tryz.prog w=.ok (.tuple #[.agg #[.string ByteArray.empty,.string ByteArray.empty,.slice none 0 0,.int .i64 0],.bool false]) w:=by kernel_rfl
theorem asNumberSelector(v:Value)(w:World):(Instr.typeAssert (.iface 270 v) 106 281 true).run Tryz.prog w=.ok (.tuple #[.agg #[.string ByteArray.empty,.slice none 0 0],.bool false]) w:=by kernel_rfl
theorem asNegativeNumber(v:Value)(w:World):(Instr.typeAssert (.iface 272 v) 106 270 true).run Tryz.prog w=.ok (.tuple #[.agg #[.int .i64 0],.bool false]) w:=by kernel_rfl
theorem asNegativeNegative(v:Value)(w:World):(Instr.typeAssert (.iface 272 v) 106 272 true).run Tryz.prog w=.ok (.tuple #[v,.bool true]) w:=by kernel_rfl
theorem asNegativePair(v:Value)(w:World):(Instr.typeAssert (.iface 272 v) 106 268 true).run Tryz.prog w=.ok (.tuple #[.agg #[.int .i64 0,.nilIface,.nilIface],.bool false]) w:=by kernel_rfl
theorem asNegativeGroup(v:Value)(w:World):(Instr.typeAssert (.iface 272 v) 106 274 true).run Tryz.prog w=.ok (.tuple #[.agg #[.string ByteArray.empty,.slice none 0 0,.nilIface],.bool false]) w:=by kernel_rfl
theorem asNegativeWindow(v:Value)(w:World):(Instr.typeAssert (.iface 272 v) 106 283 true).run Tryz.prog w=.ok (.tuple #[.agg #[.string ByteArray.empty,.string ByteArray.empty,.slice none 0 0,.int .i64 0],.bool false]) w:=by kernel_rfl
theorem asNegativeSelector(v:Value)(w:World):(Instr.typeAssert (.iface 272 v) 106 281 true).run Tryz.prog w=.ok (.tuple #[.agg #[.string ByteArray.empty,.slice none 0 0],.bool false]) w:=by kernel_rfl
theorem asPairNumber(v:Value)(w:World):(Instr.typeAssert (.iface 268 v) 106 270 true).run Tryz.prog w=.ok (.tuple #[.agg #[.int .i64 0],.bool false]) w:=by kernel_rfl
theorem asPairNegative(v:Value)(w:World):(Instr.typeAssert (.iface 268 v) 106 272 true).run Tryz.prog w=.ok (.tuple #[.agg #[.nilIface],.bool false]) w:=by kernel_rfl
theorem asPairPair(v:Value)(w:World):(Instr.typeAssert (.iface 268 v) 106 268 true).run Tryz.prog w=.ok (.tuple #[v,.bool true]) w:=by kernel_rfl
theorem asPairGroup(v:Value)(w:World):(Instr.typeAssert (.iface 268 v) 106 274 true).run Tryz.prog w=.ok (.tuple #[.agg #[.string ByteArray.empty,.slice none 0 0,.nilIface],.bool false]) w:=by kernel_rfl
theorem asPairWindow(v:Value)(w:World):(Instr.typeAssert (.iface 268 v) 106 283 true).run Tryz.prog w=.ok (.tuple #[.agg #[.string ByteArray.empty,.string ByteArray.empty,.slice none 0 0,.int .i64 0],.bool false]) w:=by kernel_rfl
theorem asPairSelector(v:Value)(w:World):(Instr.typeAssert (.iface 268 v) 106 281 true).run Tryz.prog w=.ok (.tuple #[.agg #[.string ByteArray.empty,.slice none 0 0],.bool false]) w:=by kernel_rfl
theorem asGroupNumber(v:Value)(w:World):(Instr.typeAssert (.iface 274 v) 106 270 true).run Tryz.prog w=.ok (.tuple #[.agg #[.int .i64 0],.bool false]) w:=by kernel_rfl
theorem asGroupNegative(v:Value)(w:World):(Instr.typeAssert (.iface 274 v) 106 272 true).run Tryz.prog w=.ok (.tuple #[.agg #[.nilIface],.bool false]) w:=by kernel_rfl
theorem asGroupPair(v:Value)(w:World):(Instr.typeAssert (.iface 274 v) 106 268 true).run Tryz.prog w=.ok (.tuple #[.agg #[.int .i64 0,.nilIface,.nilIface],.bool false]) w:=by kernel_rfl
theorem asGroupGroup(v:Value)(w:World):(Instr.typeAssert (.iface 274 v) 106 274 true).run Tryz.prog w=.ok (.tuple #[v,.bool true]) w:=by kernel_rfl
theorem asGroupWindow(v:Value)(w:World):(Instr.typeAssert (.iface 274 v) 106 283 true).run Tryz.prog w=.ok (.tuple #[.agg #[.string ByteArray.empty,.string ByteArray.empty,.slice none 0 0,.int .i64 0],.bool false]) w:=by kernel_rfl
theorem asGroupSelector(v:Value)(w:World):(Instr.typeAssert (.iface 274 v) 106 281 true).run Tryz.prog w=.ok (.tuple #[.agg #[.string ByteArray.empty,.slice none 0 0],.bool false]) w:=by kernel_rfl
theorem asWindowNumber(v:Value)(w:World):(Instr.typeAssert (.iface 283 v) 106 270 true).run Tryz.prog w=.ok (.tuple #[.agg #[.int .i64 0],.bool false]) w:=by kernel_rfl
theorem asWindowNegative(v:Value)(w:World):(Instr.typeAssert (.iface 283 v) 106 272 true).run Tryz.prog w=.ok (.tuple #[.agg #[.nilIface],.bool false]) w:=by kernel_rfl
theorem asWindowPair(v:Value)(w:World):(Instr.typeAssert (.iface 283 v) 106 268 true).run Tryz.prog w=.ok (.tuple #[.agg #[.int .i64 0,.nilIface,.nilIface],.bool false]) w:=by kernel_rfl
theorem asWindowGroup(v:Value)(w:World):(Instr.typeAssert (.iface 283 v) 106 274 true).run Tryz.prog w=.ok (.tuple #[.agg #[.string ByteArray.empty,.slice none 0 0,.nilIface],.bool false]) w:=by kernel_rfl
theorem asWindowWindow(v:Value)(w:World):(Instr.typeAssert (.iface 283 v) 106 283 true).run Tryz.prog w=.ok (.tuple #[v,.bool true]) w:=by kernel_rfl
theorem asWindowSelector(v:Value)(w:World):(Instr.typeAssert (.iface 283 v) 106 281 true).run Tryz.prog w=.ok (.tuple #[.agg #[.string ByteArray.empty,.slice none 0 0],.bool false]) w:=by kernel_rfl
theorem asSelectorNumber(v:Value)(w:World):(Instr.typeAssert (.iface 281 v) 106 270 true).run Tryz.prog w=.ok (.tuple #[.agg #[.int .i64 0],.bool false]) w:=by kernel_rfl
theorem asSelectorNegative(v:Value)(w:World):(Instr.typeAssert (.iface 281 v) 106 272 true).run Tryz.prog w=.ok (.tuple #[.agg #[.nilIface],.bool false]) w:=by kernel_rfl
theorem asSelectorPair(v:Value)(w:World):(Instr.typeAssert (.iface 281 v) 106 268 true).run Tryz.prog w=.ok (.tuple #[.agg #[.int .i64 0,.nilIface,.nilIface],.bool false]) w:=by kernel_rfl
theorem asSelectorGroup(v:Value)(w:World):(Instr.typeAssert (.iface 281 v) 106 274 true).run Tryz.prog w=.ok (.tuple #[.agg #[.string ByteArray.empty,.slice none 0 0,.nilIface],.bool false]) w:=by kernel_rfl
theorem asSelectorWindow(v:Value)(w:World):(Instr.typeAssert (.iface 281 v) 106 283 true).run Tryz.prog w=.ok (.tuple #[.agg #[.string ByteArray.empty,.string ByteArray.empty,.slice none 0 0,.int .i64 0],.bool false]) w:=by kernel_rfl
theorem asSelectorSelector(v:Value)(w:World):(Instr.typeAssert (.iface 281 v) 106 281 true).run Tryz.prog w=.ok (.tuple #[v,.bool true]) w:=by kernel_rfl
attribute [local go_sem] asNumberNumber asNumberNegative asNumberPair asNumberGroup asNumberWindow asNumberSelector asNegativeNumber asNegativeNegative asNegativePair asNegativeGroup asNegativeWindow asNegativeSelector asPairNumber asPairNegative asPairPair asPairGroup asPairWindow asPairSelector asGroupNumber asGroupNegative asGroupPair asGroupGroup asGroupWindow asGroupSelector asWindowNumber asWindowNegative asWindowPair asWindowGroup asWindowWindow asWindowSelector asSelectorNumber asSelectorNegative asSelectorPair asSelectorGroup asSelectorWindow asSelectorSelector
def KR(tp:Addr)(t:Tr)(kd:Int)(err:Value):Prop:=(kindT t=0∧err=.iface 491 (.pointer (some tp)))∨(kindT t=1∧kd=0∧err=.nilIface)∨(kindT t=2∧kd=1∧err=.nilIface)
def TypeAt(w:World)(tp:Addr):Prop:=w.cell? ⟨3,0,none⟩=some (.iface 491 (.pointer (some tp)))
theorem TypeAt.below{w w':World}{tp:Addr}(h:TypeAt w tp)(hb:Below w.heap.size w w'):TypeAt w' tp:=(hb.cell (p:=⟨_,0,none⟩) (World.block_lt_of_cell? _ _ h)).trans h
def KC(t:Tr):Prop:=∀(w:World) (v:Value) (tp:Addr),PartV w t v→TypeAt w tp→
 Calls Tryz.prog 71 #[v] w fun e w'=>∃(kd:Int) (err:Value),e=.returned (.tuple #[.int .i64 kd,err])∧Hid (KR tp t kd err)∧Below w.heap.size w w'
theorem want_vector{t:Tr}(h:KC t)(w:World)(v:Value)(tp:Addr)(hv:PartV w t v)(ht:TypeAt w tp) :
  Calls Tryz.prog 127 #[v] w fun e w'=>∃err:Value,e=.returned err∧Hid ((kindT t=2∧err=.nilIface)∨(kindT t≠2∧err=.iface 491 (.pointer (some tp))))∧Below w.heap.size w w':=by
 have HC:Hid (Calls Tryz.prog 71 #[v] w _):=h w v tp hv ht
 have HT:Hid (TypeAt w tp):=ht
 obtain⟨ty,u,rfl⟩:=PartV.shape hv
 clear h hv ht
 go_enter Tryz.func127,Tryz.ntmps127
 go_wp2_with fail
 refine HC.out.mono ?_
 rintro e w1 ⟨kd,err,rfl,hk,hb⟩
 have HB:Hid (Below w.heap.size w w1):=hb
 have htc:w1.cell? ⟨3,0,none⟩=some (.iface 491 (.pointer (some tp))):=HT.out.below hb
 clear hb HC
 rcases hk.out with ⟨h0,rfl⟩|⟨h0,rfl,rfl⟩|⟨h0,rfl,rfl⟩
 ·have H0:Hid (kindT t=0):=h0
  clear hk h0
  go_wp2
  go_ret
  exact⟨_,rfl,Or.inr ⟨by rw[H0.out];decide,rfl⟩,HB.out⟩
 ·have H0:Hid (kindT t=1):=h0
  clear hk h0
  go_wp2
  go_ret
  exact⟨_,rfl,Or.inr ⟨by rw[H0.out];decide,rfl⟩,HB.out⟩
 ·have H0:Hid (kindT t=2):=h0
  clear hk h0
  go_wp2
  go_ret
  exact⟨_,rfl,Or.inl ⟨H0.out,rfl⟩,HB.out⟩
theorem kindT_pair{x y:Nat}{a:Nd}{l r:Tr}(h:a.kind=4∨a.kind=6):kindT (.node x y a l r)=if kindT l=0∨kindT r=0∨(a.kind=6∧kindT l+kindT r≠4)then 0 else if kindT l+kindT r=2 then 1 else 2:=by
 show(if a.kind=0 then _ else _)=_
 rw[if_neg (by omega),if_neg (by omega),if_neg (by omega),if_neg (by omega)]
set_option maxRecDepth 100000 in
set_option maxHeartbeats 4000000 in
theorem kind_pair{x y:Nat}{a:Nd}{l r:Tr}(hk:a.kind=4∨a.kind=6)(hl:KC l)(hr:KC r)(w:World)(vl vr:Value)(tp:Addr)(hvl:PartV w l vl)(hvr:PartV w r vr)(ht:TypeAt w tp) :
  Calls Tryz.prog 128 #[.agg #[.int .i64 (opNo a),vl,vr]] w fun e w'=>∃(kd:Int) (err:Value),e=.returned (.tuple #[.int .i64 kd,err])∧Hid (KR tp (.node x y a l r) kd err)∧Below w.heap.size w w':=by
 obtain⟨tyl,ul,rfl⟩:=PartV.shape hvl
 obtain⟨tyr,ur,rfl⟩:=PartV.shape hvr
 have HKT:=hid (kindT_pair (x:=x) (y:=y) (l:=l) (r:=r) hk)
 have HVR:Hid (PartV w r (.iface tyr ur)):=hvr
 have HT:Hid (TypeAt w tp):=ht
 obtain⟨o,ho⟩:∃o,o=opNo a:=⟨_,rfl⟩
 have hop:(a.kind=6∧((o:Int) == 0)=true)∨(a.kind=4∧((o:Int) == 0)=false):=by
  rcases hk with h|h
  ·right
   refine⟨h,?_⟩
   rw[beq_eq_false_iff_ne,ho];unfold opNo;rw[if_neg (by omega)];omega
  ·left
   refine⟨h,?_⟩
   rw[ho];unfold opNo;rw[if_pos h];rfl
 rw[←ho]
 have HC0:Hid (∀(W:World),Below w.heap.size w W→Calls Tryz.prog 71 #[.iface tyl ul] W fun e w'=>∃(kd:Int) (err:Value),e=.returned (.tuple #[.int .i64 kd,err])∧Hid (KR tp l kd err)∧Below W.heap.size W w'):=hid (fun W hW=>hl W _ tp (hvl.below hW) (ht.below hW))
 have HC1:Hid (∀(W:World),Below w.heap.size w W→Calls Tryz.prog 71 #[.iface tyr ur] W fun e w'=>∃(kd:Int) (err:Value),e=.returned (.tuple #[.int .i64 kd,err])∧Hid (KR tp r kd err)∧Below W.heap.size W w'):=hid (fun W hW=>hr W _ tp (hvr.below hW) (ht.below hW))
 clear hvl hvr ht hl hr hk ho
 go_enter Tryz.func128,Tryz.ntmps128
 go_upto_region 1 with fail
 refine wp_gen fun W0 hW0=>?_
 have HB0:Hid (Below w.heap.size w W0):=hid (by rw[hW0];exact(Below.refl _ _).alloc (Nat.le_refl _) _)
 have HP0:Hid (BAt W0 w.heap.size [.int .i64 o,.iface tyl ul,.iface tyr ur] 268):=hid (by rw[hW0];exact Go.Deep.blk_alloc_new _ _)
 clear hW0
 have p0:=HP0.out.cell 0
 have p1:=HP0.out.cell 1
 have p2:=HP0.out.cell 2
 simp only[List.getElem?_cons_zero,List.getElem?_cons_succ]at p0 p1 p2
 go_wp2_with fail
 refine(HC0.out W0 HB0.out).mono ?_
 rintro e w1 ⟨kd,err,rfl,hkl,hb1⟩
 have HB1:Hid (Below w.heap.size w w1):=HB0.out.trans (hb1.mono HB0.out.size)
 have HP1:=hid (HP0.out.below hb1)
 clear hb1 HB0 HP0 p0 p1 p2
 have p0:=HP1.out.cell 0
 have p1:=HP1.out.cell 1
 have p2:=HP1.out.cell 2
 simp only[List.getElem?_cons_zero,List.getElem?_cons_succ]at p0 p1 p2
 rcases hkl.out with ⟨hl0,rfl⟩|⟨hl0,rfl,rfl⟩|⟨hl0,rfl,rfl⟩
 ·have HR:Hid (kindT (.node x y a l r)=0):=hid (by rw[HKT.out,if_pos (Or.inl hl0)])
  clear hkl hl0
  go_wp2
  go_ret2
  exact⟨_,_,rfl,Or.inl ⟨HR.out,rfl⟩,HB1.out⟩
 all_goals
  have HL0:=hid hl0
  clear hkl hl0
  go_wp2_with fail
  refine(HC1.out w1 HB1.out).mono ?_
  rintro e w2 ⟨kd2,err2,rfl,hkr,hb2⟩
  have HB2:Hid (Below w.heap.size w w2):=HB1.out.trans (hb2.mono HB1.out.size)
  have HP2:=hid (HP1.out.below hb2)
  have htc:w2.cell? ⟨3,0,none⟩=some (.iface 491 (.pointer (some tp))):=HT.out.below HB2.out
  clear hb2 HB1 HP1 p0 p1 p2
  have p0:=HP2.out.cell 0
  simp only[List.getElem?_cons_zero]at p0
  rcases hkr.out with ⟨hr0,rfl⟩|⟨hr0,rfl,rfl⟩|⟨hr0,rfl,rfl⟩
  ·have HR:Hid (kindT (.node x y a l r)=0):=hid (by rw[HKT.out,if_pos (Or.inr (Or.inl hr0))])
   clear hkr hr0
   go_wp2
   go_ret2
   exact⟨_,_,rfl,Or.inl ⟨HR.out,rfl⟩,HB2.out⟩
  all_goals
   have HR0:=hid hr0
   clear hkr hr0
   rcases hop with ⟨ha,ho⟩|⟨ha,ho⟩
   all_goals
    have HKX:=hid (show kindT (.node x y a l r)=_ by rw[HKT.out,HL0.out,HR0.out,ha])
    clear ha
    first
     | (go_wp2
        go_ret2
        exact⟨_,_,rfl,by first|exact Or.inr (Or.inl ⟨by rw[HKX.out];rfl,rfl,rfl⟩)|exact Or.inr (Or.inr ⟨by rw[HKX.out];rfl,rfl,rfl⟩)|exact Or.inl ⟨by rw[HKX.out];rfl,rfl⟩,HB2.out⟩)
     | (go_wp2
        go_region
        all_goals
          go_wp2
          go_ret2
          exact⟨_,_,rfl,Or.inl ⟨by rw[HKX.out];rfl,rfl⟩,by exact⟨HB2.out.os,HB2.out.tape,HB2.out.output,HB2.out.size,HB2.out.block⟩⟩)
set_option maxRecDepth 100000 in
set_option maxHeartbeats 4000000 in
theorem kind_any:∀t:Tr,KC t
 | .nil=>fun _ _ _ h=>h.elim
 | .node x y a l r => by
   have ihl:=kind_any l
   have ihr:=kind_any r
   intro w v tp hv ht
   rcases hv with ⟨hk,rfl⟩|⟨hk,nm,la,ln,lc,rfl,_⟩|⟨hk,wd,nm,la,ln,lc,rfl,_⟩|⟨hk,z,rfl,hz⟩|⟨hk,wd,la,ln,lc,z,rfl,_,_,hz⟩|⟨hk,z1,z2,rfl,hz1,hz2⟩
   · have HK:Hid (kindT (.node x y a l r)=1):=hid (by show(if a.kind=0 then _ else _)=_;rw[if_pos hk])
     clear ihl ihr hk ht
     go_enter Tryz.func71,Tryz.ntmps71
     go_wp2
     go_ret2
     exact⟨_,_,rfl,Or.inr (Or.inl ⟨HK.out,rfl,rfl⟩),(by repeat first|exact Below.refl _ _|assumption|refine Below.alloc ?_ ?_ _|refine Below.setCell ?_ ?_ _|refine below_drewN' ?_ _|refine Below.drew ?_|omega|(simp;omega)|simp)⟩
   · have HK:Hid (kindT (.node x y a l r)=2):=hid (by show(if a.kind=0 then _ else _)=_;rw[if_neg (by omega),if_pos (Or.inl hk)])
     clear ihl ihr hk ht
     go_enter Tryz.func71,Tryz.ntmps71
     go_wp2
     go_ret2
     exact⟨_,_,rfl,Or.inr (Or.inr ⟨HK.out,rfl,rfl⟩),(by repeat first|exact Below.refl _ _|assumption|refine Below.alloc ?_ ?_ _|refine Below.setCell ?_ ?_ _|refine below_drewN' ?_ _|refine Below.drew ?_|omega|(simp;omega)|simp)⟩
   · have HK:Hid (kindT (.node x y a l r)=2):=hid (by show(if a.kind=0 then _ else _)=_;rw[if_neg (by omega),if_pos (Or.inr hk)])
     clear ihl ihr hk ht
     go_enter Tryz.func71,Tryz.ntmps71
     go_wp2
     go_ret2
     exact⟨_,_,rfl,Or.inr (Or.inr ⟨HK.out,rfl,rfl⟩),(by repeat first|exact Below.refl _ _|assumption|refine Below.alloc ?_ ?_ _|refine Below.setCell ?_ ?_ _|refine below_drewN' ?_ _|refine Below.drew ?_|omega|(simp;omega)|simp)⟩
   · have HK:Hid (kindT (.node x y a l r)=kindT l):=hid (by show(if a.kind=0 then _ else _)=_;rw[if_neg (by omega),if_neg (by omega),if_pos hk])
     obtain⟨ty,u,rfl⟩:=PartV.shape hz
     have HC:Hid (∀W,Below w.heap.size w W→Calls Tryz.prog 71 #[.iface ty u] W fun e w'=>∃(kd:Int) (err:Value),e=.returned (.tuple #[.int .i64 kd,err])∧Hid (KR tp l kd err)∧Below W.heap.size W w'):=hid (fun W hW=>ihl W _ tp (hz.below hW) (ht.below hW))
     clear ihl ihr hk ht hz
     go_enter Tryz.func71,Tryz.ntmps71
     go_wp2_with fail
     refine calls_gen fun W hW=>?_
     have HB:Hid (Below w.heap.size w W):=hid (by rw[hW];exact(by repeat first|exact Below.refl _ _|assumption|refine Below.alloc ?_ ?_ _|refine Below.setCell ?_ ?_ _|refine below_drewN' ?_ _|refine Below.drew ?_|omega|(simp;omega)|simp))
     clear hW
     refine(HC.out W HB.out).mono ?_
     rintro e w1 ⟨kd,err,rfl,hkr,hb⟩
     have HB1:Hid (Below w.heap.size w w1):=HB.out.trans (hb.mono HB.out.size)
     clear hb
     go_wp2
     go_ret2
     exact⟨_,_,rfl,by unfold KR;rw[HK.out];exact hkr,HB1.out⟩
   · have HK:Hid (kindT (.node x y a l r)=if kindT l=2 then 2 else 0):=hid (by show(if a.kind=0 then _ else _)=_;rw[if_neg (by omega),if_neg (by omega),if_neg (by omega),if_pos hk])
     obtain⟨ty,u,rfl⟩:=PartV.shape hz
     have HC:Hid (∀W,Below w.heap.size w W→Calls Tryz.prog 127 #[.iface ty u] W fun e w'=>∃err:Value,e=.returned err∧Hid ((kindT l=2∧err=.nilIface)∨(kindT l≠2∧err=.iface 491 (.pointer (some tp))))∧Below W.heap.size W w'):=hid (fun W hW=>want_vector ihl W _ tp (hz.below hW) (ht.below hW))
     clear ihl ihr hk ht hz
     go_enter Tryz.func71,Tryz.ntmps71
     go_wp2_with fail
     refine calls_gen fun W hW=>?_
     have HB:Hid (Below w.heap.size w W):=hid (by rw[hW];exact(by repeat first|exact Below.refl _ _|assumption|refine Below.alloc ?_ ?_ _|refine Below.setCell ?_ ?_ _|refine below_drewN' ?_ _|refine Below.drew ?_|omega|(simp;omega)|simp))
     clear hW
     refine(HC.out W HB.out).mono ?_
     rintro e w1 ⟨err,rfl,hkr,hb⟩
     have HB1:Hid (Below w.heap.size w w1):=HB.out.trans (hb.mono HB.out.size)
     clear hb
     go_wp2
     go_ret2
     refine⟨_,_,rfl,?_,HB1.out⟩
     rcases hkr.out with ⟨h2,he⟩|⟨h2,he⟩
     · exact Or.inr (Or.inr ⟨by rw[HK.out,if_pos h2],rfl,he⟩)
     · exact Or.inl ⟨by rw[HK.out,if_neg h2],he⟩
   · obtain⟨ty,u,rfl⟩:=PartV.shape hz1
     obtain⟨ty2,u2,rfl⟩:=PartV.shape hz2
     have HC:Hid (∀W,Below w.heap.size w W→Calls Tryz.prog 128 #[.agg #[.int .i64 (opNo a),.iface ty u,.iface ty2 u2]] W fun e w'=>∃(kd:Int) (err:Value),e=.returned (.tuple #[.int .i64 kd,err])∧Hid (KR tp (.node x y a l r) kd err)∧Below W.heap.size W w'):=hid (fun W hW=>kind_pair hk ihl ihr W _ _ tp (hz1.below hW) (hz2.below hW) (ht.below hW))
     clear ihl ihr hk ht hz1 hz2
     go_enter Tryz.func71,Tryz.ntmps71
     go_wp2_with fail
     refine calls_gen fun W hW=>?_
     have HB:Hid (Below w.heap.size w W):=hid (by rw[hW];exact(by repeat first|exact Below.refl _ _|assumption|refine Below.alloc ?_ ?_ _|refine Below.setCell ?_ ?_ _|refine below_drewN' ?_ _|refine Below.drew ?_|omega|(simp;omega)|simp))
     clear hW
     refine(HC.out W HB.out).mono ?_
     rintro e w1 ⟨kd,err,rfl,hkr,hb⟩
     have HB1:Hid (Below w.heap.size w w1):=HB.out.trans (hb.mono HB.out.size)
     clear hb
     go_wp2
     go_ret2
     exact⟨_,_,rfl,hkr,HB1.out⟩
end Go.Proofs.YtkodhpilkaihjaaGreatDoor
namespace Go.Proofs.YtkodhpilkaihjaaGreatDoor
open Go.RowKit LS
theorem run_cons{p:UInt8→Bool}(s:ByteArray)(k:Nat)(h:k<s.size)(hp:p s[k]=true):run p ((bl s).drop k)=run p ((bl s).drop (k+1))+1:=by
 rw[drop_cons s k h,run,if_pos hp]
theorem run_stop{p:UInt8→Bool}(s:ByteArray)(k:Nat)(h:k<s.size)(hp:p s[k]=false):run p ((bl s).drop k)=0:=by
 rw[drop_cons s k h,run,if_neg (by rw[hp];exact Bool.false_ne_true)]
theorem run_end{p:UInt8→Bool}(s:ByteArray)(k:Nat)(h:¬k<s.size):run p ((bl s).drop k)=0:=by
 rw[List.drop_of_length_le (by rw[bl_length];omega)];rfl
set_option maxHeartbeats 1000000 in
theorem runDigits_any(s:ByteArray)(k:Nat)(w:World)(hs:s.size≤6000)(hk:k≤s.size) :
  Calls Tryz.prog 117 #[.string s,.int .i64 k,.func (.func 116) #[] #[]] w fun e w'=>e=.returned (.int .i64 ((k+run digit ((bl s).drop k):Nat):Int))∧w'=w:=by
 obtain⟨E,hE⟩:∃E,E=k+run digit ((bl s).drop k):=⟨_,rfl⟩
 rw[←hE]
 have HE:Hid (E=k+run digit ((bl s).drop k)):=hE
 clear hE
 go_enter Tryz.func117,Tryz.ntmps117
 go_wp2
 go_loop [1] (fun i=>∃j:Nat,j≤s.size∧i=.int .i64 j∧Hid (E=j+run digit ((bl s).drop j))) (fun i=>s.size - (intOf i).toNat)
 case atStart=>exact⟨k,hk,rfl,HE⟩
 case round=>
  obtain⟨j,hj,rfl,HJ⟩:=hrel
  clear HE
  by_cases hlt:j<s.size
  ·cases hd:digit s[j]
   ·have HF:Hid (E=j):=hid (by rw[HJ.out,run_stop s j hlt hd];rfl)
    go_wp2_with (go_at_call 116;refine(isDigit_any _ _).mono ?_;rintro e w' ⟨rfl,rfl⟩)
    go_ret
    exact⟨by rw[HF.out];rfl,rfl⟩
   ·have HF:Hid (E=(j+1)+run digit ((bl s).drop (j+1))):=hid (by rw[HJ.out,run_cons s j hlt hd];omega)
    go_wp2_with (go_at_call 116;refine(isDigit_any _ _).mono ?_;rintro e w' ⟨rfl,rfl⟩)
    go_round
    case rel=>exact⟨j+1,by omega,by go_num,HF⟩
    case measure=>simp[intOf];omega
  ·have HF:Hid (E=j):=hid (by rw[HJ.out,run_end s j hlt];rfl)
   go_wp2
   go_ret
   exact⟨by rw[HF.out];rfl,rfl⟩
set_option maxHeartbeats 1000000 in
theorem runLetters_any(s:ByteArray)(k:Nat)(w:World)(hs:s.size≤6000)(hk:k≤s.size) :
  Calls Tryz.prog 117 #[.string s,.int .i64 k,.func (.func 119) #[] #[]] w fun e w'=>e=.returned (.int .i64 ((k+run letter ((bl s).drop k):Nat):Int))∧w'=w:=by
 obtain⟨E,hE⟩:∃E,E=k+run letter ((bl s).drop k):=⟨_,rfl⟩
 rw[←hE]
 have HE:Hid (E=k+run letter ((bl s).drop k)):=hE
 clear hE
 go_enter Tryz.func117,Tryz.ntmps117
 go_wp2
 go_loop [1] (fun i=>∃j:Nat,j≤s.size∧i=.int .i64 j∧Hid (E=j+run letter ((bl s).drop j))) (fun i=>s.size - (intOf i).toNat)
 case atStart=>exact⟨k,hk,rfl,HE⟩
 case round=>
  obtain⟨j,hj,rfl,HJ⟩:=hrel
  clear HE
  by_cases hlt:j<s.size
  ·cases hd:letter s[j]
   ·have HF:Hid (E=j):=hid (by rw[HJ.out,run_stop s j hlt hd];rfl)
    go_wp2_with (go_at_call 119;refine(isLetter_any _ _).mono ?_;rintro e w' ⟨rfl,rfl⟩)
    go_ret
    exact⟨by rw[HF.out];rfl,rfl⟩
   ·have HF:Hid (E=(j+1)+run letter ((bl s).drop (j+1))):=hid (by rw[HJ.out,run_cons s j hlt hd];omega)
    go_wp2_with (go_at_call 119;refine(isLetter_any _ _).mono ?_;rintro e w' ⟨rfl,rfl⟩)
    go_round
    case rel=>exact⟨j+1,by omega,by go_num,HF⟩
    case measure=>simp[intOf];omega
  ·have HF:Hid (E=j):=hid (by rw[HJ.out,run_end s j hlt];rfl)
   go_wp2
   go_ret
   exact⟨by rw[HF.out];rfl,rfl⟩
def markS(c:UInt8)(r:List UInt8):List UInt8:=if c == 33 && r.head? == some 61 then [33,61] else if (seek c signs).isSome then [c] else []
theorem index_seek(c:UInt8):∀l:List UInt8,decide (0≤Lib.indexByte l c)=(seek c l).isSome∧-1≤Lib.indexByte l c
 | []=>⟨rfl,Int.le_refl (-1)⟩
 | b :: l => by
   obtain⟨h1,h2⟩:=index_seek c l
   unfold Lib.indexByte seek
   by_cases hb:b=c
   · subst hb;simp
   · have e:(b == c)=false:=by simpa using hb
     rw[e]
     simp only[Bool.false_eq_true,if_false]
     rw[Option.isSome_map,←h1]
     split
     · rename_i h
       have:Lib.indexByte l c=-1:=by simpa using h
       rw[this]
       exact⟨by decide,by decide⟩
     · rename_i h
       have:Lib.indexByte l c≠-1:=by simpa using h
       refine⟨?_,by omega⟩
       rw[decide_eq_true (show 0≤Lib.indexByte l c+1 by omega),decide_eq_true (show 0≤Lib.indexByte l c by omega)]
theorem prefix_ne(c:UInt8)(r:List UInt8):Lib.hasPrefix (c::r) [33,61]=(c == 33 && r.head? == some 61):=by
 cases r with
 | nil=>simp[Lib.hasPrefix,List.isPrefixOf]
 | cons d r=>
  simp only[Lib.hasPrefix,List.isPrefixOf,List.head?_cons]
  rw[Bool.and_true]
  congr 1
  ·rw[Bool.eq_iff_iff,beq_iff_eq,beq_iff_eq];exact eq_comm
  ·rw[Bool.eq_iff_iff,beq_iff_eq,beq_iff_eq];exact⟨fun h=>by rw[h],fun h=>by injection h with h;exact h.symm⟩
set_option maxHeartbeats 1000000 in
theorem markAt_any(s:ByteArray)(k:Nat)(w:World)(hs:s.size≤6000)(hk:k<s.size) :
  Calls Tryz.prog 122 #[.string s,.int .i64 k] w fun e w'=>∃x:ByteArray,e=.returned (.string x)∧Hid (bl x=markS s[k] ((bl s).drop (k+1)))∧w'=w:=by
 have hx:(s.extract k s.size).data.toList=s[k]::(bl s).drop (k+1):=by
  show bl _=_
  rw[bl_extract,←bl_length,List.take_length,drop_cons s k hk]
 have hp:Lib.hasPrefix (s.extract k s.size).data.toList [33,61]=(s[k] == 33 && ((bl s).drop (k+1)).head? == some 61):=by rw[hx,prefix_ne]
 obtain⟨b1,h1⟩:∃x,(s[k] == 33 && ((bl s).drop (k+1)).head? == some 61)=x:=⟨_,rfl⟩
 obtain⟨b2,h2⟩:∃x,(seek s[k] signs).isSome=x:=⟨_,rfl⟩
 have HM:Hid (markS s[k] ((bl s).drop (k+1))=if b1 then [33,61] else if b2 then [s[k]] else []):=hid (by unfold markS;rw[h1,h2])
 have hi:=index_seek s[k] signs
 rw[h2]at hi
 rw[h1]at hp
 have HP:Hid (Lib.hasPrefix (s.extract k s.size).data.toList [33,61]=b1):=hp
 have HI:Hid (decide (0≤Lib.indexByte signs s[k])=b2∧-1≤Lib.indexByte signs s[k]):=hi
 have HX1:Hid (bl (s.extract k (k+1))=[s[k]]):=hid (by rw[bl_extract,List.drop_take,drop_cons s k hk,show k+1 - k=1 by omega];rfl)
 clear hx hp h1 h2 hi
 have hc:∀c:UInt8,((c.toNat:Int).toNat.toUInt8)=c:=fun c=>by simp
 cases b1
 ·cases b2
  ·have hneg:¬(0≤Lib.indexByte signs s[k]):=of_decide_eq_false HI.out.1
   go_enter Tryz.func122,Tryz.ntmps122
   go_wp2_with fail
   refine(Tryz.strings_HasPrefix _ _ _).mono ?_
   rintro e w' ⟨rfl,rfl⟩
   rw[show(⟨#[33,61]⟩:ByteArray).data.toList=[33,61] from rfl,HP.out]
   go_wp2_with fail
   refine(Tryz.strings_IndexByte _ _ _).mono ?_
   rintro e w' ⟨rfl,rfl⟩
   rw[hc,show(⟨#[40,41,123,125,91,93,44,61,43,45,42,47]⟩:ByteArray).data.toList=signs from rfl]
   generalize Lib.indexByte signs s[k]=ix at *
   go_wp2
   go_ret
   exact⟨_,rfl,hid (by rw[HM.out];rfl),rfl⟩
  ·have hpos:0≤Lib.indexByte signs s[k]:=of_decide_eq_true HI.out.1
   go_enter Tryz.func122,Tryz.ntmps122
   go_wp2_with fail
   refine(Tryz.strings_HasPrefix _ _ _).mono ?_
   rintro e w' ⟨rfl,rfl⟩
   rw[show(⟨#[33,61]⟩:ByteArray).data.toList=[33,61] from rfl,HP.out]
   go_wp2_with fail
   refine(Tryz.strings_IndexByte _ _ _).mono ?_
   rintro e w' ⟨rfl,rfl⟩
   rw[hc,show(⟨#[40,41,123,125,91,93,44,61,43,45,42,47]⟩:ByteArray).data.toList=signs from rfl]
   generalize Lib.indexByte signs s[k]=ix at *
   go_wp2
   go_ret
   exact⟨_,rfl,hid (by rw[HM.out];exact HX1.out),rfl⟩
 ·go_enter Tryz.func122,Tryz.ntmps122
  go_wp2_with fail
  refine(Tryz.strings_HasPrefix _ _ _).mono ?_
  rintro e w' ⟨rfl,rfl⟩
  rw[show(⟨#[33,61]⟩:ByteArray).data.toList=[33,61] from rfl,HP.out]
  go_wp2
  go_ret
  exact⟨_,rfl,hid (by rw[HM.out];rfl),rfl⟩
theorem lexAt_mark{s:ByteArray}{k:Nat}(h:k<s.size)(h32:s[k]≠32)(hd:digit s[k]=false)(hl:letter s[k]=false)(hq:s[k]≠34):lexAt (bl s) k=if markS s[k] ((bl s).drop (k+1))=[] then (⟨5,[],k⟩,k+1)else (⟨4,markS s[k] ((bl s).drop (k+1)),k⟩,k+(markS s[k] ((bl s).drop (k+1))).length):=by
 rw[lexAt_at s k h h32]
 unfold lexC markS
 rw[hd,hl,beq_eq_false_iff_ne.2 hq]
 simp only[Bool.false_eq_true,if_false]
 split
 ·rfl
 ·split <;> rfl
theorem isWord_front{a b:List UInt8}(h:isWord (a++b)=true):isWord a=true:=by
 unfold isWord at h ⊢
 rw[Bool.and_eq_true]at h ⊢
 obtain⟨h1,h2⟩:=h
 simp at h1 h2 ⊢
 constructor
 ·exact h1.1
 ·omega
theorem lexAt_quote{s:ByteArray}{k:Nat}(h:k<s.size)(hq:s[k]=34):lexAt (bl s) k=match seek 34 ((bl s).drop (k+1))with
  | none=>(⟨5,[],k⟩,(bl s).length)
  | some p=>(if isWord (((bl s).drop (k+1)).take p)then ⟨3,((bl s).drop (k+1)).take p,k⟩else ⟨5,[],k⟩,k+p+2):=by
 rw[lexAt_at s k h (by rw[hq];decide)]
 unfold lexC
 rw[hq]
 rw[show digit 34=false by decide,show letter 34=false by decide]
 simp only[Bool.false_eq_true,if_false,beq_self_eq_true,if_true]
 rfl
theorem lexAt_shut{s:ByteArray}{k n:Nat}(h:k<s.size)(hq:s[k]=34)(hn:k+1+n<s.size)(hE:s[k+1+n]=34)(hno:34∉((bl s).drop (k+1)).take n)(hw:isWord (((bl s).drop (k+1)).take n)=true):lexAt (bl s) k=(⟨3,((bl s).drop (k+1)).take n,k⟩,k+n+2):=by
 rw[lexAt_quote h hq]
 have hl:(((bl s).drop (k+1)).take n).length=n:=by rw[List.length_take,List.length_drop,bl_length];omega
 have hs:seek 34 ((bl s).drop (k+1))=some n:=by
  rw[←List.take_append_drop n ((bl s).drop (k+1)),List.drop_drop,drop_cons s (k+1+n) hn,hE,seek_mid 34 _ _ hno,hl]
 rw[hs]
 simp only[hw,if_true]
theorem lexAt_open{s:ByteArray}{k:Nat}(h:k<s.size)(hq:s[k]=34)(hno:34∉(bl s).drop (k+1)):lexAt (bl s) k=(⟨5,[],k⟩,(bl s).length):=by
 rw[lexAt_quote h hq,(seek_none_iff 34 _).2 hno]
theorem lexAt_noWord{s:ByteArray}{k n:Nat}(h:k<s.size)(hq:s[k]=34)(hno:34∉((bl s).drop (k+1)).take n)(hw:isWord (((bl s).drop (k+1)).take n)=false):∃e,lexAt (bl s) k=(⟨5,[],k⟩,e):=by
 rw[lexAt_quote h hq]
 cases hs:seek 34 ((bl s).drop (k+1))with
 | none=>exact⟨_,rfl⟩
 | some p=>
  refine⟨k+p+2,?_⟩
  obtain⟨a,b,h1,h2,h3⟩:=seek_some hs
  have hnp:n≤p:=by
   by_cases hp:n≤p
   ·exact hp
   ·exfalso
    apply hno
    rw[h1,List.take_append,List.take_of_length_le (by omega)]
    rw[show n - a.length=(n - a.length - 1)+1 by omega]
    simp
  have hf:isWord (((bl s).drop (k+1)).take p)=false:=by
   cases hx:isWord (((bl s).drop (k+1)).take p)
   ·rfl
   ·exfalso
    have:((bl s).drop (k+1)).take p=((bl s).drop (k+1)).take n++(((bl s).drop (k+1)).drop n).take (p - n):=by
     rw[←List.take_add];congr 1;omega
    rw[this]at hx
    rw[isWord_front hx]at hw
    exact Bool.noConfusion hw
  simp only[hf,Bool.false_eq_true,if_false]
def QRel(s:ByteArray)(k n:Nat):Prop:=k+1+n≤s.size∧34∉((bl s).drop (k+1)).take n∧isWord (((bl s).drop (k+1)).take n)=true
theorem QRel.start{s:ByteArray}{k:Nat}(h:k<s.size):QRel s k 0:=⟨by omega,by simp,by rfl⟩
theorem bl_quoted{s:ByteArray}{k n:Nat}(_:k+1+n≤s.size):bl (s.extract (k+1) (k+1+n))=((bl s).drop (k+1)).take n:=by
 rw[bl_extract,List.drop_take];congr 1;omega
theorem QRel.shut{s:ByteArray}{k n:Nat}{ps:List PTok}(h:QRel s k n)(HL:LexRel s ps k)(hk:k<s.size)(hq:s[k]=34)(hn:k+1+n<s.size)(hE:s[k+1+n]=34):LexRel s (ps++[⟨2,k,s.extract (k+1) (k+1+n),0⟩]) (k+1+n+1):=by
 have hx:=lexAt_shut hk hq hn hE h.2.1 h.2.2
 rw[show k+1+n+1=k+n+2 by omega]
 exact HL.token (t:=⟨3,((bl s).drop (k+1)).take n,k⟩) hx (by show ¬((3:Nat)=0∨(3:Nat)=5);decide) ⟨rfl,rfl,bl_quoted (by omega),fun h=>by cases h⟩
theorem QRel.never{s:ByteArray}{k n:Nat}{ps:List PTok}(h:QRel s k n)(HL:LexRel s ps k)(hk:k<s.size)(hq:s[k]=34)(hn:¬k+1+n<s.size):AllTok (ps++[⟨5,k,⟨#[]⟩,0⟩]) (lexAll (bl s) ((bl s).length+1) 0):=by
 have hno:34∉(bl s).drop (k+1):=by
  have:=h.2.1
  rwa [List.take_of_length_le (by rw[List.length_drop,bl_length];omega)]at this
 exact HL.done (t:=⟨5,[],k⟩) (lexAt_open hk hq hno) (Or.inr rfl) ⟨rfl,rfl,rfl,fun h=>by cases h⟩
theorem take_one{s:ByteArray}{k n:Nat}(hn:k+1+n<s.size):((bl s).drop (k+1)).take (n+1)=((bl s).drop (k+1)).take n++[s[k+1+n]]:=by
 rw[List.take_add,List.drop_drop,drop_cons s (k+1+n) hn]
 rfl
theorem QRel.no{s:ByteArray}{k n:Nat}(h:QRel s k n)(hn:k+1+n<s.size)(hE:s[k+1+n]≠34):34∉((bl s).drop (k+1)).take (n+1):=by
 rw[take_one hn,List.mem_append]
 rintro(h1|h1)
 ·exact h.2.1 h1
 ·simp at h1;exact hE h1.symm
theorem QRel.bad{s:ByteArray}{k n:Nat}{ps:List PTok}(h:QRel s k n)(HL:LexRel s ps k)(hk:k<s.size)(hq:s[k]=34)(hn:k+1+n<s.size)(hE:s[k+1+n]≠34)(hw:isWord (bl (s.extract (k+1) (k+1+n+1)))=false):AllTok (ps++[⟨5,k,⟨#[]⟩,0⟩]) (lexAll (bl s) ((bl s).length+1) 0):=by
 rw[show k+1+n+1=k+1+(n+1) by omega,bl_quoted (by omega)]at hw
 obtain⟨e,he⟩:=lexAt_noWord hk hq (h.no hn hE) hw
 exact HL.done (t:=⟨5,[],k⟩) he (Or.inr rfl) ⟨rfl,rfl,rfl,fun h=>by cases h⟩
theorem QRel.go{s:ByteArray}{k n:Nat}(h:QRel s k n)(hn:k+1+n<s.size)(hE:s[k+1+n]≠34)(hw:isWord (bl (s.extract (k+1) (k+1+n+1)))=true):QRel s k (n+1):=by
 rw[show k+1+n+1=k+1+(n+1) by omega,bl_quoted (by omega)]at hw
 exact⟨by omega,h.no hn hE,hw⟩
end Go.Proofs.YtkodhpilkaihjaaGreatDoor

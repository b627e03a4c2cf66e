/- Parts. -/
import Derived.Test.YtkodhpilkaihjaaGreatDoorF07
import Derived.Test.YtkodhpilkaihjaaGreatDoorF02
import Derived.Test.YtkodhpilkaihjaaGreatDoorFX
import Derived.Test.YtkodhpilkaihjaaGreatDoorF04
set_option maxRecDepth 100000
set_option maxHeartbeats 4000000
namespace Go.Proofs.YtkodhpilkaihjaaGreatDoor
open Go.RowKit LS
theorem ZgC(v:Value)(w:World):(Instr.typeAssert (.iface 270 v) 106 270 true).run Tryz.prog w=.ok (.tuple #[v,.bool true]) w:=by kernel_rfl
theorem ZhV(v:Value)(w:World):(Instr.typeAssert (.iface 270 v) 106 272 true).run Tryz.prog w=.ok (.tuple #[.agg #[.nilIface],.bool false]) w:=by kernel_rfl
theorem ZhW(v:Value)(w:World):(Instr.typeAssert (.iface 270 v) 106 268 true).run Tryz.prog w=.ok (.tuple #[.agg #[.int .i64 0,.nilIface,.nilIface],.bool false]) w:=by kernel_rfl
theorem ZhU(v:Value)(w:World):(Instr.typeAssert (.iface 270 v) 106 274 true).run Tryz.prog w=.ok (.tuple #[.agg #[.string ByteArray.empty,.slice none 0 0,.nilIface],.bool false]) w:=by kernel_rfl
theorem ZhX(v:Value)(w:World):(Instr.typeAssert (.iface 270 v) 106 283 true).run Tryz.prog w=.ok (.tuple #[.agg #[.string ByteArray.empty,.string ByteArray.empty,.slice none 0 0,.int .i64 0],.bool false]) w:=by kernel_rfl
theorem ZgD(v:Value)(w:World):(Instr.typeAssert (.iface 270 v) 106 281 true).run Tryz.prog w=.ok (.tuple #[.agg #[.string ByteArray.empty,.slice none 0 0],.bool false]) w:=by kernel_rfl
theorem ZgA(v:Value)(w:World):(Instr.typeAssert (.iface 272 v) 106 270 true).run Tryz.prog w=.ok (.tuple #[.agg #[.int .i64 0],.bool false]) w:=by kernel_rfl
theorem Zgz(v:Value)(w:World):(Instr.typeAssert (.iface 272 v) 106 272 true).run Tryz.prog w=.ok (.tuple #[v,.bool true]) w:=by kernel_rfl
theorem ZhS(v:Value)(w:World):(Instr.typeAssert (.iface 272 v) 106 268 true).run Tryz.prog w=.ok (.tuple #[.agg #[.int .i64 0,.nilIface,.nilIface],.bool false]) w:=by kernel_rfl
theorem ZhR(v:Value)(w:World):(Instr.typeAssert (.iface 272 v) 106 274 true).run Tryz.prog w=.ok (.tuple #[.agg #[.string ByteArray.empty,.slice none 0 0,.nilIface],.bool false]) w:=by kernel_rfl
theorem ZhT(v:Value)(w:World):(Instr.typeAssert (.iface 272 v) 106 283 true).run Tryz.prog w=.ok (.tuple #[.agg #[.string ByteArray.empty,.string ByteArray.empty,.slice none 0 0,.int .i64 0],.bool false]) w:=by kernel_rfl
theorem ZgB(v:Value)(w:World):(Instr.typeAssert (.iface 272 v) 106 281 true).run Tryz.prog w=.ok (.tuple #[.agg #[.string ByteArray.empty,.slice none 0 0],.bool false]) w:=by kernel_rfl
theorem ZfL(v:Value)(w:World):(Instr.typeAssert (.iface 268 v) 106 270 true).run Tryz.prog w=.ok (.tuple #[.agg #[.int .i64 0],.bool false]) w:=by kernel_rfl
theorem ZfK(v:Value)(w:World):(Instr.typeAssert (.iface 268 v) 106 272 true).run Tryz.prog w=.ok (.tuple #[.agg #[.nilIface],.bool false]) w:=by kernel_rfl
theorem ZfM(v:Value)(w:World):(Instr.typeAssert (.iface 268 v) 106 268 true).run Tryz.prog w=.ok (.tuple #[v,.bool true]) w:=by kernel_rfl
theorem ZhY(v:Value)(w:World):(Instr.typeAssert (.iface 268 v) 106 274 true).run Tryz.prog w=.ok (.tuple #[.agg #[.string ByteArray.empty,.slice none 0 0,.nilIface],.bool false]) w:=by kernel_rfl
theorem ZhZ(v:Value)(w:World):(Instr.typeAssert (.iface 268 v) 106 283 true).run Tryz.prog w=.ok (.tuple #[.agg #[.string ByteArray.empty,.string ByteArray.empty,.slice none 0 0,.int .i64 0],.bool false]) w:=by kernel_rfl
theorem ZgE(v:Value)(w:World):(Instr.typeAssert (.iface 268 v) 106 281 true).run Tryz.prog w=.ok (.tuple #[.agg #[.string ByteArray.empty,.slice none 0 0],.bool false]) w:=by kernel_rfl
theorem Zgw(v:Value)(w:World):(Instr.typeAssert (.iface 274 v) 106 270 true).run Tryz.prog w=.ok (.tuple #[.agg #[.int .i64 0],.bool false]) w:=by kernel_rfl
theorem Zgv(v:Value)(w:World):(Instr.typeAssert (.iface 274 v) 106 272 true).run Tryz.prog w=.ok (.tuple #[.agg #[.nilIface],.bool false]) w:=by kernel_rfl
theorem Zgx(v:Value)(w:World):(Instr.typeAssert (.iface 274 v) 106 268 true).run Tryz.prog w=.ok (.tuple #[.agg #[.int .i64 0,.nilIface,.nilIface],.bool false]) w:=by kernel_rfl
theorem Zgu(v:Value)(w:World):(Instr.typeAssert (.iface 274 v) 106 274 true).run Tryz.prog w=.ok (.tuple #[v,.bool true]) w:=by kernel_rfl
theorem ZhQ(v:Value)(w:World):(Instr.typeAssert (.iface 274 v) 106 283 true).run Tryz.prog w=.ok (.tuple #[.agg #[.string ByteArray.empty,.string ByteArray.empty,.slice none 0 0,.int .i64 0],.bool false]) w:=by kernel_rfl
theorem Zgy(v:Value)(w:World):(Instr.typeAssert (.iface 274 v) 106 281 true).run Tryz.prog w=.ok (.tuple #[.agg #[.string ByteArray.empty,.slice none 0 0],.bool false]) w:=by kernel_rfl
theorem ZgM(v:Value)(w:World):(Instr.typeAssert (.iface 283 v) 106 270 true).run Tryz.prog w=.ok (.tuple #[.agg #[.int .i64 0],.bool false]) w:=by kernel_rfl
theorem ZgL(v:Value)(w:World):(Instr.typeAssert (.iface 283 v) 106 272 true).run Tryz.prog w=.ok (.tuple #[.agg #[.nilIface],.bool false]) w:=by kernel_rfl
theorem ZgN(v:Value)(w:World):(Instr.typeAssert (.iface 283 v) 106 268 true).run Tryz.prog w=.ok (.tuple #[.agg #[.int .i64 0,.nilIface,.nilIface],.bool false]) w:=by kernel_rfl
theorem ZgK(v:Value)(w:World):(Instr.typeAssert (.iface 283 v) 106 274 true).run Tryz.prog w=.ok (.tuple #[.agg #[.string ByteArray.empty,.slice none 0 0,.nilIface],.bool false]) w:=by kernel_rfl
theorem ZgP(v:Value)(w:World):(Instr.typeAssert (.iface 283 v) 106 283 true).run Tryz.prog w=.ok (.tuple #[v,.bool true]) w:=by kernel_rfl
theorem ZgO(v:Value)(w:World):(Instr.typeAssert (.iface 283 v) 106 281 true).run Tryz.prog w=.ok (.tuple #[.agg #[.string ByteArray.empty,.slice none 0 0],.bool false]) w:=by kernel_rfl
theorem ZgH(v:Value)(w:World):(Instr.typeAssert (.iface 281 v) 106 270 true).run Tryz.prog w=.ok (.tuple #[.agg #[.int .i64 0],.bool false]) w:=by kernel_rfl
theorem ZgG(v:Value)(w:World):(Instr.typeAssert (.iface 281 v) 106 272 true).run Tryz.prog w=.ok (.tuple #[.agg #[.nilIface],.bool false]) w:=by kernel_rfl
theorem ZgI(v:Value)(w:World):(Instr.typeAssert (.iface 281 v) 106 268 true).run Tryz.prog w=.ok (.tuple #[.agg #[.int .i64 0,.nilIface,.nilIface],.bool false]) w:=by kernel_rfl
theorem ZgF(v:Value)(w:World):(Instr.typeAssert (.iface 281 v) 106 274 true).run Tryz.prog w=.ok (.tuple #[.agg #[.string ByteArray.empty,.slice none 0 0,.nilIface],.bool false]) w:=by kernel_rfl
theorem ZgJ(v:Value)(w:World):(Instr.typeAssert (.iface 281 v) 106 283 true).run Tryz.prog w=.ok (.tuple #[.agg #[.string ByteArray.empty,.string ByteArray.empty,.slice none 0 0,.int .i64 0],.bool false]) w:=by kernel_rfl
theorem ZfN(v:Value)(w:World):(Instr.typeAssert (.iface 281 v) 106 281 true).run Tryz.prog w=.ok (.tuple #[v,.bool true]) w:=by kernel_rfl
attribute [local go_sem] ZgC ZhV ZhW ZhU ZhX ZgD ZgA Zgz ZhS ZhR ZhT ZgB ZfL ZfK ZfM ZhY ZhZ ZgE Zgw Zgv Zgx Zgu ZhQ Zgy ZgM ZgL ZgN ZgK ZgP ZgO ZgH ZgG ZgI ZgF ZgJ ZfN
def KR(tp:Addr)(t:Tr)(kd:Int)(err:Value):Prop:=(Zk t=0/\err=.iface 491 (.pointer (some tp)))∨(Zk t=1/\kd=0/\err=.nilIface)∨(Zk t=2/\kd=1/\err=.nilIface)
def Zeu(w:World)(tp:Addr):Prop:=w.cell? ⟨3,0,none⟩=some (.iface 491 (.pointer (some tp)))
theorem Zeu.below{w w':World}{tp:Addr}(h:Zeu w tp)(hb:Below w.heap.size w w'):Zeu w' tp:=(hb.cell (p:=⟨_,0,none⟩) (World.block_lt_of_cell? _ _ h)).trans h
def KC(t:Tr):Prop:=∀(w:World) (v:Value) (tp:Addr),Zd w t v->Zeu w tp->
 Calls Tryz.prog 71 #[v] w fun e w'=>∃(kd:Int) (err:Value),e=.returned (.tuple #[.int .i64 kd,err])/\Hid (KR tp t kd err)/\Below w.heap.size w w'
theorem ZvZ{t:Tr}(h:KC t)(w:World)(v:Value)(tp:Addr)(hv:Zd w t v)(ht:Zeu w tp) :
  Calls Tryz.prog 127 #[v] w fun e w'=>∃err:Value,e=.returned err/\Hid ((Zk t=2/\err=.nilIface)∨(Zk t≠2/\err=.iface 491 (.pointer (some tp))))/\Below w.heap.size w w':=by
 have HC:Hid (Calls Tryz.prog 71 #[v] w _):=h w v tp hv ht
 have HT:Hid (Zeu w tp):=ht
 obtain⟨ty,u,rfl⟩:=Zd.shape hv
 clear h hv ht
 go_enter Tryz.func127,Tryz.ntmps127
 go_wp2_with fail
 refine HC.mono ?_
 rintro e w1 ⟨kd,err,rfl,hk,hb⟩
 have HB:Hid (Below w.heap.size w w1):=hb
 have htc:w1.cell? ⟨3,0,none⟩=some (.iface 491 (.pointer (some tp))):=HT.below hb
 clear hb HC
 rcases hk.out with ⟨h0,rfl⟩|⟨h0,rfl,rfl⟩|⟨h0,rfl,rfl⟩
 ·have H0:Hid (Zk t=0):=h0
  clear hk h0
  go_wp2
  go_ret
  exact⟨_,rfl,Or.inr ⟨by rw[H0.out];decide,rfl⟩,HB.out⟩
 ·have H0:Hid (Zk t=1):=h0
  clear hk h0
  go_wp2
  go_ret
  exact⟨_,rfl,Or.inr ⟨by rw[H0.out];decide,rfl⟩,HB.out⟩
 ·have H0:Hid (Zk t=2):=h0
  clear hk h0
  go_wp2
  go_ret
  exact⟨_,rfl,Or.inl ⟨H0.out,rfl⟩,HB.out⟩
theorem Zqs{x y:Nat}{a:Nd}{l r:Tr}(h:a.kind=4∨a.kind=6):Zk (.node x y a l r)=if Zk l=0∨Zk r=0∨(a.kind=6/\Zk l+Zk r≠4)then 0 else if Zk l+Zk r=2 then 1 else 2:=by
 show(if a.kind=0 then _ else _)=_
 rw[if_neg (by omega),if_neg (by omega),if_neg (by omega),if_neg (by omega)]
theorem Zqv{x y:Nat}{a:Nd}{l r:Tr}(hk:a.kind=4∨a.kind=6)(hl:KC l)(hr:KC r)(w:World)(vl vr:Value)(tp:Addr)(hvl:Zd w l vl)(hvr:Zd w r vr)(ht:Zeu w tp) :
  Calls Tryz.prog 128 #[.agg #[.int .i64 (opNo a),vl,vr]] w fun e w'=>∃(kd:Int) (err:Value),e=.returned (.tuple #[.int .i64 kd,err])/\Hid (KR tp (.node x y a l r) kd err)/\Below w.heap.size w w':=by
 obtain⟨tyl,ul,rfl⟩:=Zd.shape hvl
 obtain⟨tyr,ur,rfl⟩:=Zd.shape hvr
 have HKT:=hid (Zqs (x:=x) (y:=y) (l:=l) (r:=r) hk)
 have HVR:Hid (Zd w r (.iface tyr ur)):=hvr
 have HT:Hid (Zeu w tp):=ht
 obtain⟨o,ho⟩:∃o,o=opNo a:=⟨_,rfl⟩
 have hop:(a.kind=6/\((o:Int) == 0)=true)∨(a.kind=4/\((o:Int) == 0)=false):=by
  rcases hk with h|h
  ·right
   refine⟨h,?_⟩
   rw[beq_eq_false_iff_ne,ho];unfold opNo;rw[if_neg (by omega)];omega
  ·left
   refine⟨h,?_⟩
   rw[ho];unfold opNo;rw[if_pos h];rfl
 rw[<-ho]
 have HC0:Hid (∀(W:World),Below w.heap.size w W->Calls Tryz.prog 71 #[.iface tyl ul] W fun e w'=>∃(kd:Int) (err:Value),e=.returned (.tuple #[.int .i64 kd,err])/\Hid (KR tp l kd err)/\Below W.heap.size W w'):=hid (fun W hW=>hl W _ tp (hvl.below hW) (ht.below hW))
 have HC1:Hid (∀(W:World),Below w.heap.size w W->Calls Tryz.prog 71 #[.iface tyr ur] W fun e w'=>∃(kd:Int) (err:Value),e=.returned (.tuple #[.int .i64 kd,err])/\Hid (KR tp r kd err)/\Below W.heap.size W w'):=hid (fun W hW=>hr W _ tp (hvr.below hW) (ht.below hW))
 clear hvl hvr ht hl hr hk ho
 go_enter Tryz.func128,Tryz.ntmps128
 go_upto_region 1 with fail
 refine ZK fun W0 hW0=>?_
 have HB0:Hid (Below w.heap.size w W0):=hid (by rw[hW0];exact Zbal)
 have HP0:Hid (BAt W0 w.heap.size [.int .i64 o,.iface tyl ul,.iface tyr ur] 268):=hid (by rw[hW0];exact Go.Deep.blk_alloc_new _ _)
 clear hW0
 have p0:=HP0.cell 0
 have p1:=HP0.cell 1
 have p2:=HP0.cell 2
 simp only[Zget]at p0 p1 p2
 go_wp2_with fail
 refine(HC0.out W0 HB0.out).mono ?_
 rintro e w1 ⟨kd,err,rfl,hkl,hb1⟩
 have HB1:Hid (Below w.heap.size w w1):=HB0.trans (hb1.mono HB0.size)
 have HP1:=hid (HP0.below hb1)
 clear hb1 HB0 HP0 p0 p1 p2
 have p0:=HP1.cell 0
 have p1:=HP1.cell 1
 have p2:=HP1.cell 2
 simp only[Zget]at p0 p1 p2
 rcases hkl.out with ⟨hl0,rfl⟩|⟨hl0,rfl,rfl⟩|⟨hl0,rfl,rfl⟩
 ·have HR:Hid (Zk (.node x y a l r)=0):=hid (by rw[HKT.out,if_pos (Or.inl hl0)])
  clear hkl hl0
  go_wp2
  go_ret2
  exact⟨_,_,rfl,Or.inl ⟨HR.out,rfl⟩,HB1.out⟩
 all_goals
  have HL0:=hid hl0
  clear hkl hl0
  go_wp2_with fail
  refine(HC1.out w1 HB1.out).mono ?_
  rintro e w2 ⟨kd2,err2,rfl,hkr,hb2⟩
  have HB2:Hid (Below w.heap.size w w2):=HB1.trans (hb2.mono HB1.size)
  have HP2:=hid (HP1.below hb2)
  have htc:w2.cell? ⟨3,0,none⟩=some (.iface 491 (.pointer (some tp))):=HT.below HB2.out
  clear hb2 HB1 HP1 p0 p1 p2
  have p0:=HP2.cell 0
  simp only[List.getElem?_cons_zero]at p0
  rcases hkr.out with ⟨hr0,rfl⟩|⟨hr0,rfl,rfl⟩|⟨hr0,rfl,rfl⟩
  ·have HR:Hid (Zk (.node x y a l r)=0):=hid (by rw[HKT.out,if_pos (Or.inr (Or.inl hr0))])
   clear hkr hr0
   go_wp2
   go_ret2
   exact⟨_,_,rfl,Or.inl ⟨HR.out,rfl⟩,HB2.out⟩
  all_goals
   have HR0:=hid hr0
   clear hkr hr0
   rcases hop with ⟨ha,ho⟩|⟨ha,ho⟩
   all_goals
    have HKX:=hid (show Zk (.node x y a l r)=_ by rw[HKT.out,HL0.out,HR0.out,ha])
    clear ha
    first
     | (go_wp2
        go_ret2
        exact⟨_,_,rfl,by first|exact Or.inr (Or.inl ⟨by rw[HKX.out];rfl,rfl,rfl⟩)|exact Or.inr (Or.inr ⟨by rw[HKX.out];rfl,rfl,rfl⟩)|exact Or.inl ⟨by rw[HKX.out];rfl,rfl⟩,HB2.out⟩)
     | (go_wp2
        go_region
        all_goals
          go_wp2
          go_ret2
          exact⟨_,_,rfl,Or.inl ⟨by rw[HKX.out];rfl,rfl⟩,by exact⟨HB2.os,HB2.tape,HB2.output,HB2.size,HB2.block⟩⟩)
theorem Ziw:∀t:Tr,KC t
 | .nil=>fun _ _ _ h=>h.elim
 | .node x y a l r => by
   have ihl:=Ziw l
   have ihr:=Ziw r
   intro w v tp hv ht
   rcases hv with ⟨hk,rfl⟩|⟨hk,nm,la,ln,lc,rfl,_⟩|⟨hk,wd,nm,la,ln,lc,rfl,_⟩|⟨hk,z,rfl,hz⟩|⟨hk,wd,la,ln,lc,z,rfl,_,_,hz⟩|⟨hk,z1,z2,rfl,hz1,hz2⟩
   · have HK:Hid (Zk (.node x y a l r)=1):=hid (by show(if a.kind=0 then _ else _)=_;rw[if_pos hk])
     clear ihl ihr hk ht
     go_enter Tryz.func71,Tryz.ntmps71
     go_wp2
     go_ret2
     exact⟨_,_,rfl,Or.inr (Or.inl ⟨HK.out,rfl,rfl⟩),(by repeat first|exact Below.refl _ _|assumption|refine Below.alloc ?_ ?_ _|refine Below.setCell ?_ ?_ _|refine Zg ?_ _|refine Below.drew ?_|omega|(simp;omega)|simp)⟩
   · have HK:Hid (Zk (.node x y a l r)=2):=hid (by show(if a.kind=0 then _ else _)=_;rw[if_neg (by omega),if_pos (Or.inl hk)])
     clear ihl ihr hk ht
     go_enter Tryz.func71,Tryz.ntmps71
     go_wp2
     go_ret2
     exact⟨_,_,rfl,Or.inr (Or.inr ⟨HK.out,rfl,rfl⟩),(by repeat first|exact Below.refl _ _|assumption|refine Below.alloc ?_ ?_ _|refine Below.setCell ?_ ?_ _|refine Zg ?_ _|refine Below.drew ?_|omega|(simp;omega)|simp)⟩
   · have HK:Hid (Zk (.node x y a l r)=2):=hid (by show(if a.kind=0 then _ else _)=_;rw[if_neg (by omega),if_pos (Or.inr hk)])
     clear ihl ihr hk ht
     go_enter Tryz.func71,Tryz.ntmps71
     go_wp2
     go_ret2
     exact⟨_,_,rfl,Or.inr (Or.inr ⟨HK.out,rfl,rfl⟩),(by repeat first|exact Below.refl _ _|assumption|refine Below.alloc ?_ ?_ _|refine Below.setCell ?_ ?_ _|refine Zg ?_ _|refine Below.drew ?_|omega|(simp;omega)|simp)⟩
   · have HK:Hid (Zk (.node x y a l r)=Zk l):=hid (by show(if a.kind=0 then _ else _)=_;rw[if_neg (by omega),if_neg (by omega),if_pos hk])
     obtain⟨ty,u,rfl⟩:=Zd.shape hz
     have HC:Hid (∀W,Below w.heap.size w W->Calls Tryz.prog 71 #[.iface ty u] W fun e w'=>∃(kd:Int) (err:Value),e=.returned (.tuple #[.int .i64 kd,err])/\Hid (KR tp l kd err)/\Below W.heap.size W w'):=hid (fun W hW=>ihl W _ tp (hz.below hW) (ht.below hW))
     clear ihl ihr hk ht hz
     go_enter Tryz.func71,Tryz.ntmps71
     go_wp2_with fail
     refine Zn fun W hW=>?_
     have HB:Hid (Below w.heap.size w W):=hid (by rw[hW];exact(by repeat first|exact Below.refl _ _|assumption|refine Below.alloc ?_ ?_ _|refine Below.setCell ?_ ?_ _|refine Zg ?_ _|refine Below.drew ?_|omega|(simp;omega)|simp))
     clear hW
     refine(HC.out W HB.out).mono ?_
     rintro e w1 ⟨kd,err,rfl,hkr,hb⟩
     have HB1:Hid (Below w.heap.size w w1):=HB.trans (hb.mono HB.size)
     clear hb
     go_wp2
     go_ret2
     exact⟨_,_,rfl,by unfold KR;rw[HK.out];exact hkr,HB1.out⟩
   · have HK:Hid (Zk (.node x y a l r)=if Zk l=2 then 2 else 0):=hid (by show(if a.kind=0 then _ else _)=_;rw[if_neg (by omega),if_neg (by omega),if_neg (by omega),if_pos hk])
     obtain⟨ty,u,rfl⟩:=Zd.shape hz
     have HC:Hid (∀W,Below w.heap.size w W->Calls Tryz.prog 127 #[.iface ty u] W fun e w'=>∃err:Value,e=.returned err/\Hid ((Zk l=2/\err=.nilIface)∨(Zk l≠2/\err=.iface 491 (.pointer (some tp))))/\Below W.heap.size W w'):=hid (fun W hW=>ZvZ ihl W _ tp (hz.below hW) (ht.below hW))
     clear ihl ihr hk ht hz
     go_enter Tryz.func71,Tryz.ntmps71
     go_wp2_with fail
     refine Zn fun W hW=>?_
     have HB:Hid (Below w.heap.size w W):=hid (by rw[hW];exact(by repeat first|exact Below.refl _ _|assumption|refine Below.alloc ?_ ?_ _|refine Below.setCell ?_ ?_ _|refine Zg ?_ _|refine Below.drew ?_|omega|(simp;omega)|simp))
     clear hW
     refine(HC.out W HB.out).mono ?_
     rintro e w1 ⟨err,rfl,hkr,hb⟩
     have HB1:Hid (Below w.heap.size w w1):=HB.trans (hb.mono HB.size)
     clear hb
     go_wp2
     go_ret2
     refine⟨_,_,rfl,?_,HB1.out⟩
     rcases hkr.out with ⟨h2,he⟩|⟨h2,he⟩
     · exact Or.inr (Or.inr ⟨by rw[HK.out,if_pos h2],rfl,he⟩)
     · exact Or.inl ⟨by rw[HK.out,if_neg h2],he⟩
   · obtain⟨ty,u,rfl⟩:=Zd.shape hz1
     obtain⟨ty2,u2,rfl⟩:=Zd.shape hz2
     have HC:Hid (∀W,Below w.heap.size w W->Calls Tryz.prog 128 #[.agg #[.int .i64 (opNo a),.iface ty u,.iface ty2 u2]] W fun e w'=>∃(kd:Int) (err:Value),e=.returned (.tuple #[.int .i64 kd,err])/\Hid (KR tp (.node x y a l r) kd err)/\Below W.heap.size W w'):=hid (fun W hW=>Zqv hk ihl ihr W _ _ tp (hz1.below hW) (hz2.below hW) (ht.below hW))
     clear ihl ihr hk ht hz1 hz2
     go_enter Tryz.func71,Tryz.ntmps71
     go_wp2_with fail
     refine Zn fun W hW=>?_
     have HB:Hid (Below w.heap.size w W):=hid (by rw[hW];exact(by repeat first|exact Below.refl _ _|assumption|refine Below.alloc ?_ ?_ _|refine Below.setCell ?_ ?_ _|refine Zg ?_ _|refine Below.drew ?_|omega|(simp;omega)|simp))
     clear hW
     refine(HC.out W HB.out).mono ?_
     rintro e w1 ⟨kd,err,rfl,hkr,hb⟩
     have HB1:Hid (Below w.heap.size w w1):=HB.trans (hb.mono HB.size)
     clear hb
     go_wp2
     go_ret2
     exact⟨_,_,rfl,hkr,HB1.out⟩
end Go.Proofs.YtkodhpilkaihjaaGreatDoor
namespace Go.Proofs.YtkodhpilkaihjaaGreatDoor
open Go.RowKit LS
theorem Zhn{p:UInt8->Bool}(s:ByteArray)(k:Nat)(h:k<s.size)(hp:p s[k]=true):run p ((bl s).drop k)=run p ((bl s).drop (k+1))+1:=by
 rw[ZdA s k h,run,if_pos hp]
theorem Zmo{p:UInt8->Bool}(s:ByteArray)(k:Nat)(h:k<s.size)(hp:p s[k]=false):run p ((bl s).drop k)=0:=by
 rw[ZdA s k h,run,if_neg (by rw[hp];exact Bool.false_ne_true)]
theorem Zml{p:UInt8->Bool}(s:ByteArray)(k:Nat)(h:¬k<s.size):run p ((bl s).drop k)=0:=by
 rw[List.drop_of_length_le (by rw[Ze];omega)];rfl
theorem Zt1(s:ByteArray)(k:Nat)(w:World)(hs:s.size<=6000)(hk:k<=s.size) :
  Calls Tryz.prog 117 #[.string s,.int .i64 k,.func (.func 116) #[] #[]] w fun e w'=>e=.returned (.int .i64 ((k+run Zt ((bl s).drop k):Nat):Int))/\w'=w:=by
 obtain⟨E,hE⟩:∃E,E=k+run Zt ((bl s).drop k):=⟨_,rfl⟩
 rw[<-hE]
 have HE:Hid (E=k+run Zt ((bl s).drop k)):=hE
 clear hE
 go_enter Tryz.func117,Tryz.ntmps117
 go_wp2
 go_loop [1] (fun i=>∃j:Nat,j<=s.size/\i=.int .i64 j/\Hid (E=j+run Zt ((bl s).drop j))) (fun i=>s.size - (intOf i).toNat)
 case atStart=>exact⟨k,hk,rfl,HE⟩
 case round=>
  obtain⟨j,hj,rfl,HJ⟩:=hrel
  clear HE
  by_cases hlt:j<s.size
  ·cases hd:Zt s[j]
   ·have HF:Hid (E=j):=hid (by rw[HJ.out,Zmo s j hlt hd];rfl)
    go_wp2_with (go_at_call 116;refine(Zc4 _ _).mono ?_;rintro e w' ⟨rfl,rfl⟩)
    go_ret
    exact⟨by rw[HF.out];rfl,rfl⟩
   ·have HF:Hid (E=(j+1)+run Zt ((bl s).drop (j+1))):=hid (by rw[HJ.out,Zhn s j hlt hd];omega)
    go_wp2_with (go_at_call 116;refine(Zc4 _ _).mono ?_;rintro e w' ⟨rfl,rfl⟩)
    go_round
    case rel=>exact⟨j+1,by omega,by go_num,HF⟩
    case measure=>simp[intOf];omega
  ·have HF:Hid (E=j):=hid (by rw[HJ.out,Zml s j hlt];rfl)
   go_wp2
   go_ret
   exact⟨by rw[HF.out];rfl,rfl⟩
theorem Zt5(s:ByteArray)(k:Nat)(w:World)(hs:s.size<=6000)(hk:k<=s.size) :
  Calls Tryz.prog 117 #[.string s,.int .i64 k,.func (.func 119) #[] #[]] w fun e w'=>e=.returned (.int .i64 ((k+run Zl ((bl s).drop k):Nat):Int))/\w'=w:=by
 obtain⟨E,hE⟩:∃E,E=k+run Zl ((bl s).drop k):=⟨_,rfl⟩
 rw[<-hE]
 have HE:Hid (E=k+run Zl ((bl s).drop k)):=hE
 clear hE
 go_enter Tryz.func117,Tryz.ntmps117
 go_wp2
 go_loop [1] (fun i=>∃j:Nat,j<=s.size/\i=.int .i64 j/\Hid (E=j+run Zl ((bl s).drop j))) (fun i=>s.size - (intOf i).toNat)
 case atStart=>exact⟨k,hk,rfl,HE⟩
 case round=>
  obtain⟨j,hj,rfl,HJ⟩:=hrel
  clear HE
  by_cases hlt:j<s.size
  ·cases hd:Zl s[j]
   ·have HF:Hid (E=j):=hid (by rw[HJ.out,Zmo s j hlt hd];rfl)
    go_wp2_with (go_at_call 119;refine(ZdC _ _).mono ?_;rintro e w' ⟨rfl,rfl⟩)
    go_ret
    exact⟨by rw[HF.out];rfl,rfl⟩
   ·have HF:Hid (E=(j+1)+run Zl ((bl s).drop (j+1))):=hid (by rw[HJ.out,Zhn s j hlt hd];omega)
    go_wp2_with (go_at_call 119;refine(ZdC _ _).mono ?_;rintro e w' ⟨rfl,rfl⟩)
    go_round
    case rel=>exact⟨j+1,by omega,by go_num,HF⟩
    case measure=>simp[intOf];omega
  ·have HF:Hid (E=j):=hid (by rw[HJ.out,Zml s j hlt];rfl)
   go_wp2
   go_ret
   exact⟨by rw[HF.out];rfl,rfl⟩
def Zej(c:UInt8)(r:List UInt8):List UInt8:=if c == 33 && r.head? == some 61 then [33,61] else if (seek c Zdu).isSome then [c] else []
theorem ZkW(c:UInt8):∀l:List UInt8,decide (0<=Lib.indexByte l c)=(seek c l).isSome/\-1<=Lib.indexByte l c
 | []=>⟨rfl,Int.le_refl (-1)⟩
 | b :: l => by
   obtain⟨h1,h2⟩:=ZkW c l
   unfold Lib.indexByte seek
   by_cases hb:b=c
   · subst hb;simp
   · have e:(b == c)=false:=by simpa using hb
     rw[e]
     simp only[Bool.false_eq_true,if_false]
     rw[Option.isSome_map,<-h1]
     split
     · rename_i h
       have:Lib.indexByte l c=-1:=by simpa using h
       rw[this]
       exact⟨by decide,by decide⟩
     · rename_i h
       have:Lib.indexByte l c≠-1:=by simpa using h
       refine⟨?_,by omega⟩
       rw[decide_eq_true (show 0<=Lib.indexByte l c+1 by omega),decide_eq_true (show 0<=Lib.indexByte l c by omega)]
theorem Ztt(c:UInt8)(r:List UInt8):Lib.hasPrefix (c::r) [33,61]=(c == 33 && r.head? == some 61):=by
 cases r with
 | nil=>simp[Lib.hasPrefix,List.isPrefixOf]
 | cons d r=>
  simp only[Lib.hasPrefix,List.isPrefixOf,List.head?_cons]
  rw[Bool.and_true]
  congr 1
  ·rw[Bool.eq_iff_iff,beq_iff_eq,beq_iff_eq];exact eq_comm
  ·rw[Bool.eq_iff_iff,beq_iff_eq,beq_iff_eq];exact⟨fun h=>by rw[h],fun h=>by injection h with h;exact h.symm⟩
theorem Zls(s:ByteArray)(k:Nat)(w:World)(hs:s.size<=6000)(hk:k<s.size) :
  Calls Tryz.prog 122 #[.string s,.int .i64 k] w fun e w'=>∃x:ByteArray,e=.returned (.string x)/\Hid (bl x=Zej s[k] ((bl s).drop (k+1)))/\w'=w:=by
 have hx:(s.extract k s.size).data.toList=s[k]::(bl s).drop (k+1):=by
  show bl _=_
  rw[Zex,<-Ze,List.take_length,ZdA s k hk]
 have hp:Lib.hasPrefix (s.extract k s.size).data.toList [33,61]=(s[k] == 33 && ((bl s).drop (k+1)).head? == some 61):=by rw[hx,Ztt]
 obtain⟨b1,h1⟩:∃x,(s[k] == 33 && ((bl s).drop (k+1)).head? == some 61)=x:=⟨_,rfl⟩
 obtain⟨b2,h2⟩:∃x,(seek s[k] Zdu).isSome=x:=⟨_,rfl⟩
 have HM:Hid (Zej s[k] ((bl s).drop (k+1))=if b1 then [33,61] else if b2 then [s[k]] else []):=hid (by unfold Zej;rw[h1,h2])
 have hi:=ZkW s[k] Zdu
 rw[h2]at hi
 rw[h1]at hp
 have HP:Hid (Lib.hasPrefix (s.extract k s.size).data.toList [33,61]=b1):=hp
 have HI:Hid (decide (0<=Lib.indexByte Zdu s[k])=b2/\-1<=Lib.indexByte Zdu s[k]):=hi
 have HX1:Hid (bl (s.extract k (k+1))=[s[k]]):=hid (by rw[Zex,List.drop_take,ZdA s k hk,show k+1 - k=1 by omega];rfl)
 clear hx hp h1 h2 hi
 have hc:∀c:UInt8,((c.toNat:Int).toNat.toUInt8)=c:=fun c=>by simp
 cases b1
 ·cases b2
  ·have hneg:¬(0<=Lib.indexByte Zdu s[k]):=of_decide_eq_false HI.1
   go_enter Tryz.func122,Tryz.ntmps122
   go_wp2_with fail
   refine(Tryz.strings_HasPrefix _ _ _).mono ?_
   rintro e w' ⟨rfl,rfl⟩
   rw[show(⟨#[33,61]⟩:ByteArray).data.toList=[33,61] from rfl,HP.out]
   go_wp2_with fail
   refine(Tryz.strings_IndexByte _ _ _).mono ?_
   rintro e w' ⟨rfl,rfl⟩
   rw[hc,show(⟨#[40,41,123,125,91,93,44,61,43,45,42,47]⟩:ByteArray).data.toList=Zdu from rfl]
   generalize Lib.indexByte Zdu s[k]=ix at *
   go_wp2
   go_ret
   exact⟨_,rfl,hid (by rw[HM.out];rfl),rfl⟩
  ·have hpos:0<=Lib.indexByte Zdu s[k]:=of_decide_eq_true HI.1
   go_enter Tryz.func122,Tryz.ntmps122
   go_wp2_with fail
   refine(Tryz.strings_HasPrefix _ _ _).mono ?_
   rintro e w' ⟨rfl,rfl⟩
   rw[show(⟨#[33,61]⟩:ByteArray).data.toList=[33,61] from rfl,HP.out]
   go_wp2_with fail
   refine(Tryz.strings_IndexByte _ _ _).mono ?_
   rintro e w' ⟨rfl,rfl⟩
   rw[hc,show(⟨#[40,41,123,125,91,93,44,61,43,45,42,47]⟩:ByteArray).data.toList=Zdu from rfl]
   generalize Lib.indexByte Zdu s[k]=ix at *
   go_wp2
   go_ret
   exact⟨_,rfl,hid (by rw[HM.out];exact HX1.out),rfl⟩
 ·go_enter Tryz.func122,Tryz.ntmps122
  go_wp2_with fail
  refine(Tryz.strings_HasPrefix _ _ _).mono ?_
  rintro e w' ⟨rfl,rfl⟩
  rw[show(⟨#[33,61]⟩:ByteArray).data.toList=[33,61] from rfl,HP.out]
  go_wp2
  go_ret
  exact⟨_,rfl,hid (by rw[HM.out];rfl),rfl⟩
theorem Zrl{s:ByteArray}{k:Nat}(h:k<s.size)(h32:s[k]≠32)(hd:Zt s[k]=false)(hl:Zl s[k]=false)(hq:s[k]≠34):Zs (bl s) k=if Zej s[k] ((bl s).drop (k+1))=[] then (⟨5,[],k⟩,k+1)else (⟨4,Zej s[k] ((bl s).drop (k+1)),k⟩,k+(Zej s[k] ((bl s).drop (k+1))).length):=by
 rw[Zg9 s k h h32]
 unfold lexC Zej
 rw[hd,hl,beq_eq_false_iff_ne.2 hq]
 simp only[Bool.false_eq_true,if_false]
 split
 ·rfl
 ·split <;> rfl
theorem Zqd{a b:List UInt8}(h:Z7 (a++b)=true):Z7 a=true:=by
 unfold Z7 at h ⊢
 rw[Bool.and_eq_true]at h ⊢
 obtain⟨h1,h2⟩:=h
 simp at h1 h2 ⊢
 constructor
 ·exact h1.1
 ·omega
theorem ZiC{s:ByteArray}{k:Nat}(h:k<s.size)(hq:s[k]=34):Zs (bl s) k=match seek 34 ((bl s).drop (k+1))with
  | none=>(⟨5,[],k⟩,(bl s).length)
  | some p=>(if Z7 (((bl s).drop (k+1)).take p)then ⟨3,((bl s).drop (k+1)).take p,k⟩else ⟨5,[],k⟩,k+p+2):=by
 rw[Zg9 s k h (by rw[hq];decide)]
 unfold lexC
 rw[hq]
 rw[show Zt 34=false by decide,show Zl 34=false by decide]
 simp only[Bool.false_eq_true,if_false,beq_self_eq_true,if_true]
 rfl
theorem Zro{s:ByteArray}{k n:Nat}(h:k<s.size)(hq:s[k]=34)(hn:k+1+n<s.size)(hE:s[k+1+n]=34)(hno:34∉((bl s).drop (k+1)).take n)(hw:Z7 (((bl s).drop (k+1)).take n)=true):Zs (bl s) k=(⟨3,((bl s).drop (k+1)).take n,k⟩,k+n+2):=by
 rw[ZiC h hq]
 have hl:(((bl s).drop (k+1)).take n).length=n:=by rw[List.length_take,List.length_drop,Ze];omega
 have hs:seek 34 ((bl s).drop (k+1))=some n:=by
  rw[<-List.take_append_drop n ((bl s).drop (k+1)),List.drop_drop,ZdA s (k+1+n) hn,hE,Zgd 34 _ _ hno,hl]
 rw[hs]
 simp only[hw,if_true]
theorem Zrn{s:ByteArray}{k:Nat}(h:k<s.size)(hq:s[k]=34)(hno:34∉(bl s).drop (k+1)):Zs (bl s) k=(⟨5,[],k⟩,(bl s).length):=by
 rw[ZiC h hq,(Zi9 34 _).2 hno]
theorem Zrm{s:ByteArray}{k n:Nat}(h:k<s.size)(hq:s[k]=34)(hno:34∉((bl s).drop (k+1)).take n)(hw:Z7 (((bl s).drop (k+1)).take n)=false):∃e,Zs (bl s) k=(⟨5,[],k⟩,e):=by
 rw[ZiC h hq]
 cases hs:seek 34 ((bl s).drop (k+1))with
 | none=>exact⟨_,rfl⟩
 | some p=>
  refine⟨k+p+2,?_⟩
  obtain⟨a,b,h1,h2,h3⟩:=Zge hs
  have hnp:n<=p:=by
   by_cases hp:n<=p
   ·exact hp
   ·exfalso
    apply hno
    rw[h1,List.take_append,List.take_of_length_le (by omega)]
    rw[show n - a.length=(n - a.length - 1)+1 by omega]
    simp
  have hf:Z7 (((bl s).drop (k+1)).take p)=false:=by
   cases hx:Z7 (((bl s).drop (k+1)).take p)
   ·rfl
   ·exfalso
    have:((bl s).drop (k+1)).take p=((bl s).drop (k+1)).take n++(((bl s).drop (k+1)).drop n).take (p - n):=by
     rw[<-List.take_add];congr 1;omega
    rw[this]at hx
    rw[Zqd hx]at hw
    exact Bool.noConfusion hw
  simp only[hf,Bool.false_eq_true,if_false]
def QRel(s:ByteArray)(k n:Nat):Prop:=k+1+n<=s.size/\34∉((bl s).drop (k+1)).take n/\Z7 (((bl s).drop (k+1)).take n)=true
theorem QRel.start{s:ByteArray}{k:Nat}(h:k<s.size):QRel s k 0:=⟨by omega,by simp,by rfl⟩
theorem Zh5{s:ByteArray}{k n:Nat}(_:k+1+n<=s.size):bl (s.extract (k+1) (k+1+n))=((bl s).drop (k+1)).take n:=by
 rw[Zex,List.drop_take];congr 1;omega
theorem QRel.shut{s:ByteArray}{k n:Nat}{ps:List PTok}(h:QRel s k n)(HL:ZbY s ps k)(hk:k<s.size)(hq:s[k]=34)(hn:k+1+n<s.size)(hE:s[k+1+n]=34):ZbY s (ps++[⟨2,k,s.extract (k+1) (k+1+n),0⟩]) (k+1+n+1):=by
 have hx:=Zro hk hq hn hE h.2.1 h.2.2
 rw[show k+1+n+1=k+n+2 by omega]
 exact HL.token (t:=⟨3,((bl s).drop (k+1)).take n,k⟩) hx (by show ¬((3:Nat)=0∨(3:Nat)=5);decide) ⟨rfl,rfl,Zh5 (by omega),fun h=>by cases h⟩
theorem QRel.never{s:ByteArray}{k n:Nat}{ps:List PTok}(h:QRel s k n)(HL:ZbY s ps k)(hk:k<s.size)(hq:s[k]=34)(hn:¬k+1+n<s.size):ZbV (ps++[⟨5,k,⟨#[]⟩,0⟩]) (ZU (bl s) ((bl s).length+1) 0):=by
 have hno:34∉(bl s).drop (k+1):=by
  have:=h.2.1
  rwa [List.take_of_length_le (by rw[List.length_drop,Ze];omega)]at this
 exact HL.done (t:=⟨5,[],k⟩) (Zrn hk hq hno) (Or.inr rfl) ⟨rfl,rfl,rfl,fun h=>by cases h⟩
theorem Zvc{s:ByteArray}{k n:Nat}(hn:k+1+n<s.size):((bl s).drop (k+1)).take (n+1)=((bl s).drop (k+1)).take n++[s[k+1+n]]:=by
 rw[List.take_add,List.drop_drop,ZdA s (k+1+n) hn]
 rfl
theorem QRel.no{s:ByteArray}{k n:Nat}(h:QRel s k n)(hn:k+1+n<s.size)(hE:s[k+1+n]≠34):34∉((bl s).drop (k+1)).take (n+1):=by
 rw[Zvc hn,List.mem_append]
 rintro(h1|h1)
 ·exact h.2.1 h1
 ·simp at h1;exact hE h1.symm
theorem QRel.bad{s:ByteArray}{k n:Nat}{ps:List PTok}(h:QRel s k n)(HL:ZbY s ps k)(hk:k<s.size)(hq:s[k]=34)(hn:k+1+n<s.size)(hE:s[k+1+n]≠34)(hw:Z7 (bl (s.extract (k+1) (k+1+n+1)))=false):ZbV (ps++[⟨5,k,⟨#[]⟩,0⟩]) (ZU (bl s) ((bl s).length+1) 0):=by
 rw[show k+1+n+1=k+1+(n+1) by omega,Zh5 (by omega)]at hw
 obtain⟨e,he⟩:=Zrm hk hq (h.no hn hE) hw
 exact HL.done (t:=⟨5,[],k⟩) he (Or.inr rfl) ⟨rfl,rfl,rfl,fun h=>by cases h⟩
theorem QRel.go{s:ByteArray}{k n:Nat}(h:QRel s k n)(hn:k+1+n<s.size)(hE:s[k+1+n]≠34)(hw:Z7 (bl (s.extract (k+1) (k+1+n+1)))=true):QRel s k (n+1):=by
 rw[show k+1+n+1=k+1+(n+1) by omega,Zh5 (by omega)]at hw
 exact⟨by omega,h.no hn hE,hw⟩
end Go.Proofs.YtkodhpilkaihjaaGreatDoor

/- Parts. -/
import Derived.Test.YtcdgkkfipdoeeaaGreatDoorT08
import Derived.Test.YtcdgkkfipdoeeaaGreatDoorT02
set_option maxRecDepth 100000
set_option maxHeartbeats 8000000
namespace Go.Proofs.YtcdgkkfipdoeeaaGreatDoor
open Go.RowKit LS
section
variable {w w' w1 w2:World} {X:CX} {cv iv cv' iv':Value} {c c' d:Cq} {S S1:Nat->Prop} {W:Nat->Cq->Cq} {n x y:Nat}
theorem Co.notC(h:Co w X cv iv c){a:Nat}{l:List Value}{t:TypeId}(hb:BAt w a l t)(ht:t≠171/\t≠3/\t≠159):¬X.chg cv iv a:=by
 obtain⟨lc,lf,hl⟩:=Zcg h.left rfl
 obtain⟨e1,c1,hs⟩:=h.slots.obj
 obtain⟨f,hf⟩:=h.tak
 obtain⟨e2,c2,ht2⟩:=hf.obj
 rintro(e|e|e|e|e|e)
 ·subst e;exact ht.1 (ZcF hb h.box)
 ·subst e;exact ht.2.1 (ZcF hb hl)
 ·subst e;exact ZbO hs hb rfl
 ·subst e;exact ZbO ht2 hb rfl
 ·obtain⟨_,_,h4⟩:=Zcg h.cons e;exact ht.2.1 (ZcF hb h4)
 ·obtain⟨_,_,h4⟩:=Zcg h.ins e;exact ht.2.2 (ZcF hb h4)
theorem Co.notM(h:Co w X cv iv c){a N:Nat}{f:Nat->Option Int}(hm:MapZ w a N f)(h1:a≠X.sb)(h2:a≠X.tb):¬X.chg cv iv a:=by
 obtain⟨es,cl,ha⟩:=hm.obj
 obtain⟨lc,lf,hl⟩:=Zcg h.left rfl
 rintro(e|e|e|e|e|e)
 ·subst e;exact ZbO ha h.box rfl
 ·subst e;exact ZbO ha hl rfl
 ·exact h1 e
 ·exact h2 e
 ·obtain⟨_,_,h4⟩:=Zcg h.cons e;exact ZbO ha h4 rfl
 ·obtain⟨_,_,h4⟩:=Zcg h.ins e;exact ZbO ha h4 rfl
theorem ZoR{base:Nat}{e:TypeId}{g m cap:Nat}{xs:List Value}(h:w.ownsRow base e 2 (.slice (some ⟨g,0,none⟩) m cap) m xs)(i:Nat)(u:Value):(w.setCell ⟨g,i,none⟩ u).ownsRow base e 2 (.slice (some ⟨g,0,none⟩) m cap) m (xs.set i u):=by
 obtain⟨hl,h⟩:=h
 refine⟨by rw[List.length_set];exact hl,?_⟩
 rcases h with ⟨h,_⟩|⟨g',cap',cur,hv,hb,hh,hn,hc,hs,ht⟩
 ·cases h
 ·injection hv with h1 _ h3
  injection h1 with h1
  injection h1 with h1
  subst h1 h3
  refine Or.inr ⟨g,cap,cur.setIfInBounds i u,rfl,hb,?_,hn,hc,by simpa using hs,?_⟩
  ·simp[World.setCell,Array.getElem?_modify,hh]
  ·rw[<-ht,Array.toList_setIfInBounds,List.take_set]
theorem ZjY:∀(l:List (Nat×Nat)) (k v:Nat) (hk:k<l.length),l[k].1=10->(l.flatMap insC).set (k*2+1) (.int .i64 v)=(l.set k (10,v)).flatMap insC
 | [],_,_,hk,_=>absurd hk (Nat.not_lt_zero _)
 | (a, b) :: l, 0, v, _, h => by
   have h:a=10:=h
   subst h
   rfl
 | (a, b) :: l, k + 1, v, hk, h => by
   have:=ZjY l k v (by simpa using hk) h
   rw[List.set_cons_succ,List.flatMap_cons,List.flatMap_cons,<-this,List.set_append_right _ _ (by simp[insC];omega)]
   rw[show(k+1)*2+1 - (insC (a,b)).length=k*2+1 by simp[insC];omega]
theorem Co.argSet(h:Co w X cv (.slice (some ⟨n,0,none⟩) c.ins.length x) c){k v:Nat}(hk:k<c.ins.length)(hop:(c.ins[k]).1=10):Co (w.setCell ⟨n,k*2+1,none⟩ (.int .i64 v)) X cv (.slice (some ⟨n,0,none⟩) c.ins.length x) { c with ins:=c.ins.set k (10,v) }/\KeepS (X.chg cv (.slice (some ⟨n,0,none⟩) c.ins.length x)) w (w.setCell ⟨n,k*2+1,none⟩ (.int .i64 v)):=by
 have N:=h.ne
 have hk1:=KeepS.set w n (k*2+1) (.int .i64 v)
 refine⟨⟨hk1.bat h.box (fun e=>N.ci (by rw[e];rfl)),hk1.bat h.gbox (fun e=>N.giv (by rw[e];rfl)),h.gn,hk1.own h.nrow (fun j hj=>by injection hj with hj;subst hj;exact fun e=>N.niv (congrArg some e.symm)),hk1.own h.left (fun j hj=>by injection hj with hj;subst hj;exact fun e=>N.liv (congrArg some e.symm)),h.slots.move (hk1.block _ h.slots.lt (fun e=>N.siv (by rw[e];rfl))),h.slen,?_,hk1.own h.cons (fun j hj e=>N.civ j hj (by rw[e];rfl)),?_,h.ne1,h.ne2,h.bas,Nat.le_trans h.bsz hk1.size,h.nsz,h.nok,h.lbd⟩,hk1.mono (fun j e=>Or.inr (Or.inr (Or.inr (Or.inr (Or.inr (by rw[e];rfl))))))⟩
 ·obtain⟨f,hf⟩:=h.tak
  exact⟨f,hf.move (hk1.block _ hf.lt (fun e=>N.tiv (by rw[e];rfl)))⟩
 ·have:=ZoR h.ins (k*2+1) (.int .i64 v)
  rw[ZjY c.ins k v hk hop]at this
  simp only[List.length_set]
  exact this
theorem Zsp(nodes:List Nq):∃c2 d:Cq,c2=putQ nodes W x (ZP nodes W y (y+2) c)/\d=putQ nodes W y (Zh 11 0 (Zh 10 0 c2))/\Zbl nodes W x y c={ d with slots:=Zcb d.slots c2.slots,ins:=d.ins.set c2.ins.length (10,d.ins.length) }:=⟨_,_,rfl,rfl,rfl⟩
theorem Zry(hW:∀z,z<n->Zhu X W z)(hL:∀z,z<n->∀c,c.slots.length=16->Low z c (W z c))(hLe:∀z c,cLe c (W z c))(hPr:∀z c,Pre c (W z c))(h:Co w X cv iv c)(hn:n<=X.nodes.length)(hx:x<n)(hy:y<n)(op:Nat)(arg:Int)(hs:Sml (Zbl X.nodes W x y c)) :
  Calls Tryz.prog 181 #[.pointer (some ⟨X.cb,0,none⟩),.agg #[.int .i64 op,.int .i64 arg,.int .i64 x,.int .i64 y]] w fun e w'=>e=.returned (.tuple #[])/\Hid (CoP w w' X cv iv (Zbl X.nodes W x y c)):=by
 obtain⟨c2,d,hc2,hd,hE⟩:=Zsp (W:=W) (x:=x) (y:=y) (c:=c) X.nodes
 have hsd:Sml d:=by rw[hE]at hs;exact⟨by simpa using hs.1,hs.2⟩
 have hle1:cLe c2 d:=by rw[hd];exact((Zd7 10 0 c2).trans (Zd7 11 0 _)).trans (ZfW X.nodes (hLe y) _)
 have hpr1:Pre (Zh 11 0 (Zh 10 0 c2)) d:=by rw[hd];exact Ziz (hPr y) _
 have HSD:=hid hsd
 have HS2:=hid (hsd.of hle1)
 have HSA:Hid (Sml (ZP X.nodes W y (y+2) c)):=hid (HS2.of (by rw[hc2];exact ZfW X.nodes (hLe x) _))
 have HE:=hid hE
 have HC2:=hid hc2
 have HDD:=hid hd
 have HPR:=hid hpr1
 have HC:=hid h
 have HW:=hid hW
 have HL:=hid hL
 have HLE:=hid hLe
 have hyl:y<X.nodes.length:=by omega
 have hxl:x<X.nodes.length:=by omega
 have hnsz:=h.nsz
 clear hW hL hLe hPr h hs hsd hle1 hpr1 hE hc2 hd
 go_enter Tryz.func181,Tryz.ntmps181
 go_wp2_with fail
 refine ZK fun W0 hW0=>?_
 have hb0:Below w.heap.size w W0:=by rw[hW0];exact belB
 have HB0:Hid (BAt W0 w.heap.size [.int .i64 op,.int .i64 arg,.int .i64 x,.int .i64 y] 232):=hid (by rw[hW0];exact(show BAt _ _ _ _ from Go.Deep.blk_alloc_new w _))
 have HC0:=hid (HC.below hb0)
 have HT0:Hid (∀ {wz:World} {e:Cq},CoP W0 wz X cv iv e->CoP w wz X cv iv e):=hid (fun h=>CoP.step hb0 h)
 clear hW0 hb0
 generalize w.heap.size=qb at *
 refine(ZqQ (fun z hz _=>HW.out z (by omega)) (fun z hz=>HL.out z (by omega)) HLE.out HC0.out hyl HSA.out).mono ?_
 rintro e w1 ⟨rfl,HP1⟩
 obtain⟨cv1,iv1,hc1,hk1,hf1,hf2⟩:=HP1.out
 have HC1:=hid hc1
 have HB1:=hid (hk1.bat HB0.out (HC0.notC HB0.out ⟨by decide,by decide,by decide⟩))
 have HT1:Hid (∀ {wz:World} {e:Cq},CoP w1 wz X cv1 iv1 e->CoP w wz X cv iv e):=hid (fun h=>HT0.out (CoP.trans hk1 hf1 hf2 h))
 clear hc1 hk1 hf1 hf2 HP1 HT0 HB0 HC0
 have b2:w1.cell? ⟨qb,2,none⟩=some (.int .i64 x):=HB1.cell 2
 have hbl:=HB1.lt
 go_wp2_with fail
 have HS2':Hid (Sml (putQ X.nodes W x (ZP X.nodes W y (y+2) c))):=hid (by rw[<-HC2.out];exact HS2.out)
 refine(Ziw (HW.out x hx) HC1.out hxl HS2'.out).mono ?_
 rintro e w2 ⟨rfl,HP2⟩
 obtain⟨cv2,iv2,hc2,hk2,hf1,hf2⟩:=HP2.out
 rw[<-HC2.out]at hc2
 have HC2c:=hid hc2
 have HB2:=hid (hk2.bat HB1.out (HC1.notC HB1.out ⟨by decide,by decide,by decide⟩))
 have HT2:Hid (∀ {wz:World} {e:Cq},CoP w2 wz X cv2 iv2 e->CoP w wz X cv iv e):=hid (fun h=>HT1.out (CoP.trans hk2 hf1 hf2 h))
 obtain⟨ia2,ic2,hiv2⟩:=Zv hc2.ins
 subst hiv2
 clear hc2 hk2 hf1 hf2 HP2 HT1 HB1 HC1 b2 hbl HS2' HSA HC2
 have m5:w2.cell? ⟨X.cb,5,none⟩=some (.slice ia2 c2.ins.length ic2):=HC2c.box.cell 5
 have hml:=HC2c.box.lt
 obtain⟨lp,hlp⟩:∃lp,lp=c2.ins.length:=⟨_,rfl⟩
 have HLP:=hid hlp
 rw[<-hlp]at m5
 have HS10:Hid (c2.ins.length<=1000000/\(Zh 10 0 c2).ins.length<=1000000/\lp<=1000000):=hid (by
  have h1:=HPR.length_le
  have h2:=HSD.1
  simp[Zh]at h1
  refine⟨HS2.1,?_,by rw[hlp];exact HS2.1⟩
  simp[Zh];omega)
 clear hlp
 go_wp2_with fail
 refine(Zfh HC2c.out 10 0 HS10.1).mono ?_
 rintro e w3 ⟨rfl,HP3⟩
 obtain⟨cv3,iv3,hc3,hk3,hf1,hf2⟩:=HP3.out
 have HC3:=hid hc3
 have HB3:=hid (hk3.bat HB2.out (HC2c.notC HB2.out ⟨by decide,by decide,by decide⟩))
 have HT3:Hid (∀ {wz:World} {e:Cq},CoP w3 wz X cv3 iv3 e->CoP w wz X cv iv e):=hid (fun h=>HT2.out (CoP.trans hk3 hf1 hf2 h))
 clear hc3 hk3 hf1 hf2 HP3 HT2 HB2 HC2c m5 hml
 go_wp2_with fail
 refine(Zfh HC3.out 11 0 HS10.2.1).mono ?_
 rintro e w4 ⟨rfl,HP4⟩
 obtain⟨cv4,iv4,hc4,hk4,hf1,hf2⟩:=HP4.out
 have HC4:=hid hc4
 have HB4:=hid (hk4.bat HB3.out (HC3.notC HB3.out ⟨by decide,by decide,by decide⟩))
 have HT4:Hid (∀ {wz:World} {e:Cq},CoP w4 wz X cv4 iv4 e->CoP w wz X cv iv e):=hid (fun h=>HT3.out (CoP.trans hk4 hf1 hf2 h))
 clear hc4 hk4 hf1 hf2 HP4 HT3 HB3 HC3
 have m2:w4.cell? ⟨X.cb,2,none⟩=some (.map (some X.sb)):=HC4.box.cell 2
 have hml:=HC4.box.lt
 go_wp2_with fail
 refine(Zu1 HC4.slots).mono ?_
 rintro e w5 ⟨rfl,HM5,hb5⟩
 have HC5:=hid (HC4.below hb5)
 have HB5:=hid (HB4.below hb5)
 have HNE:Hid (w4.heap.size≠X.sb/\w4.heap.size≠X.tb):=hid ⟨fun e=>by have:=HC4.slots.lt;omega,fun e=>by obtain⟨f,hf⟩:=HC4.tak;have:=hf.lt;omega⟩
 have HT5:Hid (∀ {wz:World} {e:Cq},CoP w5 wz X cv4 iv4 e->CoP w wz X cv iv e):=hid (fun h=>HT4.out (CoP.step hb5 h))
 clear hb5 HC4 HB4 HT4 m2 hml
 generalize w4.heap.size=pb at *
 have b3:w5.cell? ⟨qb,3,none⟩=some (.int .i64 y):=HB5.cell 3
 have hbl:=HB5.lt
 go_wp2_with fail
 refine ZK fun W6 hW6=>?_
 have hb6:Below w5.heap.size w5 W6:=by rw[hW6];exact belB
 have HQ6:Hid (BAt W6 w5.heap.size [.map (some pb)] 169):=hid (by rw[hW6];exact(show BAt _ _ _ _ from Go.Deep.blk_alloc_new w5 _))
 have HB6:=hid (HB5.below hb6)
 have HC6:=hid (HC5.below hb6)
 have HM6:=hid (HM5.move (hb6.block _ HM5.lt))
 have HNQ:Hid (w5.heap.size≠X.sb):=hid (fun e=>by have:=HC5.slots.lt;omega)
 have HT6:Hid (∀ {wz:World} {e:Cq},CoP W6 wz X cv4 iv4 e->CoP w wz X cv iv e):=hid (fun h=>HT5.out (CoP.step hb6 h))
 clear hW6 hb6 HB5 HC5 HM5 HT5 b3 hbl
 generalize w5.heap.size=tb at *
 have HSP:Hid (Sml (putQ X.nodes W y (Zh 11 0 (Zh 10 0 c2)))):=hid (by rw[<-HDD.out];exact HSD.out)
 refine(Ziw (HW.out y hy) HC6.out hyl HSP.out).mono ?_
 rintro e w7 ⟨rfl,HP7⟩
 obtain⟨cv7,iv7,hc7,hk7,hf1,hf2⟩:=HP7.out
 rw[<-HDD.out]at hc7
 have HC7:=hid hc7
 have HQ7:=hid (hk7.bat HQ6.out (HC6.notC HQ6.out ⟨by decide,by decide,by decide⟩))
 have HM7:Hid (MapZ w7 pb 16 (fun s=>c2.slots.getD s none)):=hid (HM6.move (hk7.block _ HM6.lt (HC6.notM HM6.out HNE.1 HNE.2)))
 have HT7:Hid (∀ {wz:World} {e:Cq},CoP w7 wz X cv7 iv7 e->CoP w wz X cv iv e):=hid (fun h=>HT6.out (CoP.trans hk7 hf1 hf2 h))
 clear hc7 hk7 hf1 hf2 HP7 HT6 HB6 HC6 HQ6 HM6 HSP HDD
 have m2:w7.cell? ⟨X.cb,2,none⟩=some (.map (some X.sb)):=HC7.box.cell 2
 have hml:=HC7.box.lt
 go_wp2_with fail
 refine(Zsg HC7.slots HM7.out HNE.1 (HQ7.cell 0) HNQ.out).mono ?_
 rintro e w8 ⟨rfl,HM8,hg8⟩
 have HC8:Hid (Co w8 X cv7 iv7 { d with slots:=Zcb d.slots c2.slots }/\KeepS (X.chg cv7 iv7) w7 w8):=hid (HC7.slotUpd hg8 (HM8.congr (fun s hs=>ZpF _ _ s hs)) (by simp[Zcb]) ⟨rfl,rfl,rfl⟩)
 have HT8:Hid (∀ {wz:World} {e:Cq},CoP w8 wz X cv7 iv7 e->CoP w wz X cv iv e):=hid (fun h=>HT7.out (CoP.trans HC8.2 (fun _ h=>Or.inl h) (fun _ h=>Or.inl h) h))
 have HC8:=hid HC8.1
 clear hg8 HM8 HM7 HQ7 HT7 HC7 m2 hml
 have HLE2:Hid (lp+2<=d.ins.length/\d.ins.length<=1000000/\∀h:lp<d.ins.length,(d.ins[lp]).1=10):=hid (by
  have h1:=HPR.length_le
  have h2:=HSD.1
  simp[Zh]at h1
  refine⟨by rw[HLP.out];omega,h2,fun h=>?_⟩
  obtain⟨t,ht⟩:=HPR.out
  have h3:d.ins[lp]?=some (10,0):=by
   rw[<-ht,HLP.out]
   simp[Zh]
  rw[List.getElem?_eq_getElem h]at h3
  injection h3 with h3
  rw[h3])
 obtain⟨hle2,hdl,hop⟩:=HLE2.out
 obtain⟨ib,ic,hiv7⟩:=ZW HC8.ins (by show 0<d.ins.length;omega)
 subst hiv7
 have hlpl:lp<d.ins.length:=by omega
 have HAS:=hid (HC8.argSet (k:=lp) (v:=d.ins.length) hlpl (hop hlpl))
 have HFZ:=hid (Zir HC8.ins (lp*2+1))
 have HAR:Hid (w8.cell? ⟨ib,lp*2+1,none⟩=some (.int .i64 (d.ins[lp].2:Nat))):=hid (Zr HC8.ins _ _ (by
  show(d.ins.flatMap insC)[lp*2+1]?=_
  rw[ZfF insC 2 (fun _=>rfl) d.ins lp 1 hlpl (by decide)];rfl))
 have HIL:=hid (Zbq HC8.ins)
 have m5:w8.cell? ⟨X.cb,5,none⟩=some (.slice (some ⟨ib,0,none⟩) d.ins.length ic):=HC8.box.cell 5
 have hml:=HC8.box.lt
 generalize hag:d.ins[lp].2=ag at *
 obtain⟨L,hL⟩:∃L,L=d.ins.length:=⟨_,rfl⟩
 have HLL:=hid hL
 rw[<-hL]at m5 hdl hlpl hle2
 have hlz:(lp:Int)<L:=by omega
 clear hag hL hop
 go_upto_region 9 with fail
 refine Zcm 12 (fun w'=>w'.cell? ⟨X.cb,5,none⟩=some (.slice (some ⟨ib,0,none⟩) L ic)) (by kernel_rfl) m5 (fun hHeld=>?_)
 refine Zd 0 hHeld (h:=?_)
 refine Zd 1 hHeld (h:=?_)
 refine Zd 2 hHeld (h:=?_)
 refine Zd 3 hHeld (h:=?_)
 refine Zd 4 hHeld (h:=?_)
 refine Zd 5 hHeld (h:=?_)
 refine Zd 6 hHeld (h:=?_)
 refine Zd 7 hHeld (h:=?_)
 refine Zd 8 hHeld (h:=?_)
 refine Zd 9 hHeld (h:=?_)
 refine Zd 10 hHeld (h:=?_)
 refine Zd 11 hHeld (h:=?_)
 refine Zcq (by kernel_rfl) (by kernel_rfl) rfl (by kernel_rfl) (fun K hK=>?_)
 have f1:=HFZ.out
 have f2:=HAR.out
 have f3:=HIL.out
 go_simp
 refine hK.out _ _ ?_
 clear hHeld hK K f1 f2 f3 m5 hml
 have HF:Hid (CoP w (w8.setCell ⟨ib,lp*2+1,none⟩ (.int .i64 L)).drew X cv iv (Zbl X.nodes W x y c)):=hid (by
  rw[HE.out,<-HLP.out,HLL.out]
  obtain⟨h1,h2⟩:=HAS.out
  exact HT8.out (CoP.of ⟨ZjP h1,⟨h2.os,h2.tape,h2.output,h2.size,h2.block⟩⟩))
 go_wp2
 exact bodyPost_end (v:=.tuple #[]) (results_none rfl _ _ _) rfl ⟨rfl,HF⟩
end
end Go.Proofs.YtcdgkkfipdoeeaaGreatDoor
namespace Go.Proofs.YtcdgkkfipdoeeaaGreatDoor
open Go.RowKit LS
section
variable {w w' w1 w2:World} {X:CX} {cv iv cv' iv':Value} {c c' d:Cq} {S S1:Nat->Prop} {W:Nat->Cq->Cq} {n x y b:Nat}
theorem Zvr(h:¬X.chg cv iv b)(hb:b<w.heap.size)(f1:Zdr w cv cv')(f2:Zdr w iv iv'):¬X.chg cv' iv' b:=by
 rintro(e|e|e|e|e|e)
 ·exact h (Or.inl e)
 ·exact h (Or.inr (Or.inl e))
 ·exact h (Or.inr (Or.inr (Or.inl e)))
 ·exact h (Or.inr (Or.inr (Or.inr (Or.inl e))))
 ·rcases f1 b e with h1|h1
  ·exact h (Or.inr (Or.inr (Or.inr (Or.inr (Or.inl h1)))))
  ·omega
 ·rcases f2 b e with h1|h1
  ·exact h (Or.inr (Or.inr (Or.inr (Or.inr (Or.inr h1)))))
  ·omega
theorem Co.notNew(h:Co w X cv iv c)(hb:w.heap.size<=b):¬X.chg cv iv b:=by
 obtain⟨f,hf⟩:=h.tak
 rintro(e|e|e|e|e|e)
 ·have:=h.box.lt;omega
 ·have:=Zbq h.left;omega
 ·have:=h.slots.lt;omega
 ·have:=hf.lt;omega
 ·have:=(h.cons.lt b e).2;omega
 ·have:=(h.ins.lt b e).2;omega
theorem Co.consApp(h:Co w X cv iv c){na:Option Addr}{nn nc:Nat}(hc:c'.left=c.left/\c'.slots=c.slots/\c'.ins=c.ins)(hg:w.grownBy w1 cv.ownBlock)(hw:Zdr w cv (.slice na nn nc))(ho:w1.ownsRow X.base 3 1 (.slice na nn nc) c'.consts.length (c'.consts.map (Value.int .i64))) :
  BAt w1 X.cb (coC X cv iv) 171/\CoP w (w1.setCell ⟨X.cb,4,none⟩ (.slice na nn nc)) X cv iv c':=by
 have N:=h.ne
 have hk:KeepS (fun k=>cv.ownBlock=some k) w w1:=KeepS.grown hg (fun _ e=>e)
 have hb1:=hk.bat h.box N.cc
 have hk2:=hk.and (KeepS.set w1 X.cb 4 (.slice na nn nc))
 have hn:∀ {k:Nat},cv.ownBlock≠some k->k≠X.cb->¬(cv.ownBlock=some k∨k=X.cb):=fun h1 h2 h3=>h3.elim h1 h2
 refine⟨hb1,.slice na nn nc,iv,⟨hb1.setC 4 _,hk2.bat h.gbox (hn N.gcv N.cg.symm),h.gn,hk2.own h.nrow (fun j hj=>by injection hj with hj;subst hj;exact hn N.ncv N.cn.symm),?_,?_,by rw[hc.2.1];exact h.slen,?_,?_,?_,?_,h.ne2,h.bas,Nat.le_trans h.bsz hk2.size,h.nsz,h.nok,by rw[hc.1];exact h.lbd⟩,hk2.mono (fun k hk=>hk.elim (fun e=>Or.inr (Or.inr (Or.inr (Or.inr (Or.inl e))))) Or.inl),hw,fun _ h=>Or.inl h⟩
 ·rw[hc.1];exact hk2.own h.left (fun j hj=>by injection hj with hj;subst hj;exact hn N.lcv N.cl.symm)
 ·rw[hc.2.1];exact h.slots.move (hk2.block _ h.slots.lt (hn N.scv N.cs.symm))
 ·obtain⟨f,hf⟩:=h.tak
  exact⟨f,hf.move (hk2.block _ hf.lt (hn N.tcv N.ct.symm))⟩
 ·exact(KeepS.set w1 X.cb 4 (.slice na nn nc)).own ho (fun j hj e=>by subst e;exact absurd (Zdl ho hb1 (by decide)) (fun h=>h hj.symm))
 ·rw[hc.2.2];exact hk2.own h.ins (fun j hj=>hn (fun e=>N.civ j e hj) (fun e=>by subst e;exact N.ci hj))
 ·intro e
  rcases hw _ e with h1|h1
  ·exact N.lcv h1
  ·have:=Zbq h.left;omega
theorem Zhq{nodes:List Nq}{f:Nat}(h:(nodes.getD n nq0).op=10){a b:Nat}(ha:(nodes.getD n nq0).fs=some a)(hb:(nodes.getD n nq0).sn=some b):Zn nodes (f+1) n c=Zbl nodes (Zn nodes f) a b c:=by
 rw[Zn]
 simp only[if_pos h,ha,hb,Option.getD_some]
theorem Zdf {nodes : List Nq} {f : Nat} (h : (nodes.getD n nq0).op ≠ 10) : Zn nodes (f + 1) n c = ZbN (nodes.getD n nq0) ((Zg (nodes.getD n nq0)).foldl (fun c t => putQ nodes (Zn nodes f) t c) c) := by
  rw[Zn]
  simp only[if_neg h]
theorem ZsY (nodes : List Nq) (f : Nat) (ts : List Nat) (c : Cq) (i : Nat) : cLe ((ts.take i).foldl (fun c t => putQ nodes (Zn nodes f) t c) c) (ts.foldl (fun c t => putQ nodes (Zn nodes f) t c) c) := by
  conv=>rhs;rw[<-List.take_append_drop i ts,List.foldl_append]
  exact Zj1 (fun z c=>Zhp f z c) _ _
theorem Zqo(X:CX):∀f n,n<f->n<X.nodes.length->Zhu X (Zn X.nodes f) n
 | 0,n,h,_=>absurd h (Nat.not_lt_zero _)
 | f + 1, n, hf, hn => by
   refine⟨fun c=>Zhp (f+1) n c,fun w cv iv c h hs=>?_⟩
   have IH:=hid (fun z (hz:z<n)=>Zqo X f z (by omega) (by omega))
   have HC:=hid h
   have HS:=hid hs
   have m0:w.cell? ⟨X.cb,0,none⟩=some (.pointer (some ⟨X.gb,0,none⟩)):=h.box.cell 0
   have g2:w.cell? ⟨X.gb,2,none⟩=some (.slice (some ⟨X.nb,0,none⟩) X.nodes.length X.nc):=(h.gbox.cell 2).trans h.gn
   have hml:=h.box.lt
   have hgl:=h.gbox.lt
   have hnl:=Zbq h.nrow
   have hnz:(n:Int)<X.nodes.length:=by omega
   obtain⟨q0,q1,q2,q3⟩:=h.node hn
   have HN:=hid (h.nodeOk hn)
   have HOK:=hid h.nok
   have hnsz:=h.nsz
   have HWO:=hid (fun a b ha hb h10=>Zhq (f:=f) (c:=c) (nodes:=X.nodes) (n:=n) h10 (a:=a) (b:=b) ha hb)
   have HWN:=hid (Zdf (f:=f) (c:=c) (nodes:=X.nodes) (n:=n))
   generalize X.nodes.getD n nq0=x at *
   obtain⟨L,hL⟩:∃L,L=X.nodes.length:=⟨_,rfl⟩
   rw[<-hL]at g2 hnz
   have HLL:=hid hL
   clear h hs hL
   go_enter Tryz.func128,Tryz.ntmps128
   by_cases h10:x.op=10
   · obtain⟨a,b,ha,hb⟩:=HN.or h10
     have hab:a<n/\b<n:=by
       have h2:Zg x=[a,b]:=by unfold Zg;rw[ha,hb]
       have:=HN.low
       rw[h2]at this
       exact⟨this a (by simp),this b (by simp)⟩
     have HE:Hid (Zn X.nodes (f+1) n c=Zbl X.nodes (Zn X.nodes f) a b c):=hid (HWO.out a b ha hb h10)
     rw[ha]at q2
     rw[hb]at q3
     simp only[nI]at q2 q3
     rw[h10]at q0
     clear HWO HWN ha hb h10
     go_wp2_with fail
     refine ZK fun W0 hW0=>?_
     have hb0:Below w.heap.size w W0:=by rw[hW0];exact belB
     clear hW0
     refine(Zry (n:=n) (fun z hz=>IH.out z hz) (fun z _ c hc=>Ze7 HOK.out f z c hc) (fun z c=>Zhp f z c) (fun z c=>Zqr f z c) (HC.below hb0) (by omega) hab.1 hab.2 10 x.arg (by rw[<-HE.out];exact HS.out)).mono ?_
     rintro e w1 ⟨rfl,HP1⟩
     go_wp2
     exact bodyPost_ret (v:=.tuple #[]) (results_none rfl _ _ _) rfl ⟨rfl,hid (by rw[HE.out];exact CoP.step hb0 HP1.out)⟩
   · have h10z:(x.op:Int)≠10:=by omega
     have HE:=hid (HWN.out h10)
     clear HWO HWN
     go_wp2_with fail
     refine ZK fun W0 hW0=>?_
     have hb0:Below w.heap.size w W0:=by rw[hW0];exact belB
     have HB0:Hid (BAt W0 w.heap.size [.int .i64 x.op,.int .i64 x.arg,.int .i64 (nI x.fs),.int .i64 (nI x.sn)] 232):=hid (by rw[hW0];exact(show BAt _ _ _ _ from Go.Deep.blk_alloc_new w _))
     have HC0:=hid (HC.below hb0)
     have HT0:Hid (∀ {wz:World} {e:Cq},CoP W0 wz X cv iv e->CoP w wz X cv iv e):=hid (fun h=>CoP.step hb0 h)
     have HGN:Hid (w.heap.size≠X.gb/\w.heap.size≠X.nb/\w.heap.size≠X.cb):=hid ⟨by omega,by omega,by omega⟩
     clear hW0 hb0 q0 q1 q2 q3 m0 g2 hml hgl hnl HC
     obtain⟨qb,hqb⟩:∃qb,w.heap.size=qb:=⟨_,rfl⟩
     rw[hqb]at HB0 HGN ⊢
     have HQW:=hid hqb
     clear hqb
     refine(Zlz x W0 HN.sn).mono ?_
     rintro e w3 ⟨tv,rfl,hb3,HT⟩
     obtain⟨ta,tc,rfl,htr⟩:=HT.out
     have HT:=hid htr
     have HC3:=hid (HC0.below hb3)
     have HB3:=hid (HB0.below hb3)
     have HT3:Hid (∀ {wz:World} {e:Cq},CoP w3 wz X cv iv e->CoP w wz X cv iv e):=hid (fun h=>HT0.out (CoP.step hb3 h))
     have HNN:Hid (∀b,W0.heap.size<=b->¬X.chg cv iv b):=hid (fun b hb=>HC0.notNew hb)
     have hL3:=Zhh x
     have HLO:Hid (∀t∈Zg x,t<n):=hid (fun t ht=>HN.low t ht)
     clear htr HC0 HT0 HB0 hb3
     obtain⟨F,hF⟩:∃F,F=(Zg x).foldl (fun c t=>putQ X.nodes (Zn X.nodes f) t c) c:=⟨_,rfl⟩
     have HFF:=hid hF
     have HE2:Hid (Zn X.nodes (f+1) n c=ZbN x F):=hid (by rw[HE.out,hF])
     have HSF:Hid (Sml F):=hid (HS.of (by rw[HE2.out];exact Zn7 x))
     clear hF HE
     generalize Zg x=ts at *
     obtain⟨M,hM⟩:∃M,M=ts.length:=⟨_,rfl⟩
     rw[<-hM]at hL3 ⊢
     have HM:=hid hM
     clear hM
     go_wp2
     go_loopw [26] (fun i wr=>∃(j:Nat) (cz iz:Value),j<=M/\i=.int .i64 j/\Hid (Co wr X cz iz ((ts.take j).foldl (fun c t=>putQ X.nodes (Zn X.nodes f) t c) c))/\Hid (∀ {wz:World} {e:Cq},CoP wr wz X cz iz e->CoP w wz X cv iv e)/\Hid (BAt wr qb [.int .i64 x.op,.int .i64 x.arg,.int .i64 (nI x.fs),.int .i64 (nI x.sn)] 232)/\Hid (∀b,W0.heap.size<=b->b<w3.heap.size->¬X.chg cz iz b/\wr.heap[b]?=w3.heap[b]?)/\Hid (w3.heap.size<=wr.heap.size)) (fun i _=>M - (intOf i).toNat)
     case atStart=>exact⟨0,cv,iv,Nat.zero_le _,rfl,HC3,HT3,HB3,hid (fun b hb _=>⟨HNN.out b hb,rfl⟩),hid (Nat.le_refl _)⟩
     case round=>
       obtain⟨j,cz,iz,hj,rfl,HCr,HTr,HBr,HNr,HZr⟩:=hrel
       by_cases hlt:j<M
       · have hlz:(j:Int)<M:=by omega
         have hjl:j<ts.length:=by rw[<-HM.out];exact hlt
         obtain⟨b,rfl,hb1,hb2,hbc⟩:=HT.out (by omega)
         obtain⟨hbn,hbh⟩:=HNr.out b hb1 hb2
         have kc:wr.cell? ⟨b,j,none⟩=some (intC ts[j]):=by
           have:=hbc j hjl
           simp only[World.cell?,hbh]at this ⊢
           exact this
         have hbl:b<wr.heap.size:=Nat.lt_of_lt_of_le hb2 HZr.out
         have hlo:=HLO.out ts[j] (List.getElem_mem hjl)
         have HST:=hid (Zj3 (fun c t=>putQ X.nodes (Zn X.nodes f) t c) ts c hjl)
         have HSM:Hid (Sml (putQ X.nodes (Zn X.nodes f) ts[j] ((ts.take j).foldl (fun c t=>putQ X.nodes (Zn X.nodes f) t c) c))):=hid (HSF.of (by rw[HFF.out,<-HST.out];exact ZsY X.nodes f ts c (j+1)))
         generalize ts[j]=t at *
         simp only[intC]at kc
         clear hbc hbh
         go_wp2_with fail
         refine(Ziw (IH.out t hlo) HCr.out (by omega) HSM.out).mono ?_
         rintro e w5 ⟨rfl,HP5⟩
         obtain⟨cv5,iv5,hc5,hk5,hf1,hf2⟩:=HP5.out
         rw[<-HST.out]at hc5
         have HC5:=hid hc5
         have HB5:=hid (hk5.bat HBr.out (HCr.notC HBr.out ⟨by decide,by decide,by decide⟩))
         have HT5:Hid (∀ {wz:World} {e:Cq},CoP w5 wz X cv5 iv5 e->CoP w wz X cv iv e):=hid (fun h=>HTr.out (CoP.trans hk5 hf1 hf2 h))
         have HN5 : Hid (∀ b, W0.heap.size <= b -> b < w3.heap.size -> ¬ X.chg cv5 iv5 b /\ w5.heap[b]? = w3.heap[b]?) := hid (fun b h1 h2 => by
           obtain⟨h3,h4⟩:=HNr.out b h1 h2
           have h5:b<wr.heap.size:=Nat.lt_of_lt_of_le h2 HZr.out
           exact⟨Zvr h3 h5 hf1 hf2,(hk5.block b h5 h3).trans h4⟩)
         have HZ5:=hid (Nat.le_trans HZr.out hk5.size)
         clear hc5 hk5 hf1 hf2 HP5 HTr HBr HCr HNr HZr HSM HST kc hbl hbn
         go_wp2
         go_roundw
         case rel=>exact⟨j+1,cv5,iv5,by omega,by simp,HC5,HT5,HB5,HN5,HZ5⟩
         case measure=>simp[intOf];omega
       · obtain rfl:j=M:=by omega
         have HCF:Hid (Co wr X cz iz F):=hid (by have:=HCr.out;rw[HM.out,List.take_length]at this;rw[HFF.out];exact this)
         clear HCr HNr HZr HT HB3 HC3 HT3 HNN HLO
         have k0:wr.cell? ⟨qb,0,none⟩=some (.int .i64 x.op):=HBr.cell 0
         have k1:wr.cell? ⟨qb,1,none⟩=some (.int .i64 x.arg):=HBr.cell 1
         have hkl:=HBr.lt
         by_cases h0:x.op=0
         · have HE3:Hid (Zn X.nodes (f+1) n c=Zh 0 F.consts.length { F with consts:=F.consts++[x.arg] }):=hid (by rw[HE2.out,ZbN,if_pos h0])
           have HSC:Hid (F.consts.length<=1000000):=hid HSF.2
           rw[h0]at k0
           obtain⟨ca,cc,hcz⟩:=Zv HCF.cons
           subst hcz
           obtain⟨i0,hi,hz0,hz1,hz2⟩:=info_parts Tryz.infoInt3
           obtain⟨cl,hcl⟩:∃cl,cl=F.consts.length:=⟨_,rfl⟩
           rw[<-hcl]at HCF HTr HSC
           have hcl6:=HSC.out
           have HCL:=hid hcl
           have HBD:Hid (BAt wr.drew qb _ _):=HBr
           have HCD:Hid (Co wr.drew X (.slice ca cl cc) iz F):=hid (ZjP HCF.out)
           have HTD:Hid (∀ {wz:World} {e:Cq},CoP wr.drew wz X (.slice ca cl cc) iz e->CoP w wz X cv iv e):=hid (fun h=>HTr.out (CoP.step (Below.refl _ _).drew h))
           clear hcl HCF HTr HBr k1 hkl
           go_upto_region 9 with fail
           clear k0
           refine Zcm 11 (fun w'=>w'.cell? ⟨X.cb,4,none⟩=some (.slice ca cl cc)/\w'.cell? ⟨qb,1,none⟩=some (.int .i64 x.arg)) (by kernel_rfl) ⟨HCD.box.cell 4,HBD.cell 1⟩ (fun hHeld=>?_)
           refine Zd 0 hHeld (h:=?_)
           refine Zd 1 hHeld (h:=?_)
           refine Zd 2 hHeld (h:=?_)
           refine Zd 3 hHeld (h:=?_)
           refine Zd 4 hHeld (h:=?_)
           refine Zd 5 hHeld (h:=?_)
           refine Zd 6 hHeld (h:=?_)
           generalize wr.drew=w6 at *
           refine Zbr (i:=7) (by kernel_rfl) rfl (fun K hK=>?_)
           have HCA:Hid (∀o,Co (w6.alloc o) X (.slice ca cl cc) iz F):=hid (fun o=>HCD.below Zbal)
           have HOA:Hid (∀o,(w6.alloc o).ownsRow X.base 3 1 (.slice ca cl cc) cl (F.consts.map (Value.int .i64))):=hid (fun o=>by have:=(HCA.out o).cons;rwa [<-HCL.out]at this)
           have HBA:Hid (∀o,BAt (w6.alloc o) qb [.int .i64 x.op,.int .i64 x.arg,.int .i64 (nI x.fs),.int .i64 (nI x.sn)] 232):=hid (fun o=>HBD.below Zbal)
           have HTA:Hid (∀ {o:Obj} {wz:World} {e:Cq},CoP (w6.alloc o) wz X (.slice ca cl cc) iz e->CoP w wz X cv iv e):=hid (fun h=>HTD.out (CoP.step Zbal h))
           go_simp
           refine hK.out _ _ ⟨(HCA.out _).box.cell 4,(HBA.out _).cell 1⟩ (fun hHeld=>?_)
           clear hK K
           try simp only[Act.put,Zset]
           refine Zbr (i:=8) (by kernel_rfl) rfl (fun K hK=>?_)
           refine Ze3 rfl (.tmp 41) (.tmp 44) 54 rfl X.base 3 i0 _ 1 8 Tryz.underlying54 hi hz0 hz1 hz2 rfl (by decide) (.slice ca cl cc) cl (F.consts.map (Value.int .i64)) (by simp[Act.eval]) (HOA.out _) ⟨w6.heap.size,0,none⟩ 1 1 [.int .i64 x.arg] (by simp[Act.eval]) rfl (cell_one_new _ _ _) ?h3 ?h4 ?h5 ?h6 ?_
           case h3=>intro u hu;simp at hu;subst hu;rfl
           case h4=>unfold maxLen;omega
           case h5=>omega
           case h6=>have:=HCD.bsz;simp;omega
           intro v1 w8 hown1 hgrow1 hat1
           obtain⟨g1,cp1,hv1⟩:=ZW hown1 (by omega)
           subst hv1
           obtain ⟨hb8, hp8⟩ := (HCA.out _).consApp (c' := { F with consts := F.consts ++ [x.arg] }) ⟨rfl, rfl, rfl⟩ hgrow1 (fun k hk => hat1.elim (fun e => Or.inl (e.symm.trans hk)) (fun e => Or.inr (e k hk))) (by
             show w8.ownsRow _ _ _ _ (F.consts++[x.arg]).length ((F.consts++[x.arg]).map (Value.int .i64))
             rw[List.map_append,List.length_append,<-HCL.out];exact hown1)
           have hqb8 : BAt w8 qb [.int .i64 x.op, .int .i64 x.arg, .int .i64 (nI x.fs), .int .i64 (nI x.sn)] 232 := (HBA.out _).grown hgrow1 (fun e => by
             have h1:¬X.chg (.slice ca cl cc) iz qb:=HCD.notC HBD.out ⟨by decide,by decide,by decide⟩
             exact h1 (Or.inr (Or.inr (Or.inr (Or.inr (Or.inl e.symm))))))
           have HB8:=hid hb8
           have HQ8:=hid hqb8
           have HP8:=hid (HTA.out hp8)
           clear hown1 hgrow1 hat1 hb8 hp8 hqb8 HCA HOA HBA HTA HCD HBD HTD
           refine hK.out _ _ ⟨HB8.cell 4,HQ8.cell 1⟩ (fun hHeld=>?_)
           clear hK K
           refine Zd 9 hHeld (h:=?_)
           refine Zd 10 hHeld (h:=?_)
           refine Zcq (by kernel_rfl) (by kernel_rfl) rfl (by kernel_rfl) (fun K hK=>?_)
           have f1:=HB8.frozen 4
           have f2:=hHeld.1
           have f3:=HB8.lt
           go_simp
           refine hK.out _ _ ?_
           clear hK K f1 f2 f3 hHeld
           have HQ9:Hid (BAt (w8.setCell ⟨X.cb,4,none⟩ (.slice (some ⟨g1,0,none⟩) (cl+1) cp1)) qb _ _):=hid (HQ8.other HGN.2.2 _)
           clear HB8 HQ8
           obtain⟨cv9,iv9,hc9,hk9,hf91,hf92⟩:=HP8.out
           have HC9:=hid hc9
           have HK9:=hid hk9
           have HF91:=hid hf91
           have HF92:=hid hf92
           clear hc9 hk9 hf91 hf92 HP8
           generalize w8.setCell ⟨X.cb,4,none⟩ (.slice (some ⟨g1,0,none⟩) (cl+1) cp1)=w9 at *
           obtain⟨ca9,cc9,hcz9⟩:=Zv HC9.cons
           subst hcz9
           have m4:w9.cell? ⟨X.cb,4,none⟩=some (.slice ca9 (cl+1) cc9):=(HC9.box.cell 4).trans (by
             show some (Value.slice ca9 (F.consts++[x.arg]).length cc9)=_
             rw[List.length_append,<-HCL.out];rfl)
           have hml:=HC9.box.lt
           have k1:w9.cell? ⟨qb,1,none⟩=some (.int .i64 x.arg):=HQ9.cell 1
           have k0:w9.cell? ⟨qb,0,none⟩=some (.int .i64 x.op):=HQ9.cell 0
           have kf:=HQ9.frozen 1
           have kl:=HQ9.lt
           rw[h0]at k0
           have HNC:=hid (HC9.notC HQ9.out ⟨by decide,by decide,by decide⟩)
           have HC10:Hid (Co (w9.setCell ⟨qb,1,none⟩ (.int .i64 cl)) X _ iv9 { F with consts:=F.consts++[x.arg] }/\KeepS (fun k=>k=qb) w9 (w9.setCell ⟨qb,1,none⟩ (.int .i64 cl))):=hid ⟨HC9.keep (KeepS.set w9 qb 1 (.int .i64 cl)) (fun e=>HNC.out (Or.inl e.symm)) (fun e=>HGN.1 e.symm) (fun e=>HGN.2.1 e.symm) (fun e=>HNC.out (Or.inr (Or.inl e.symm))) (fun e=>HNC.out (Or.inr (Or.inr (Or.inl e.symm)))) (fun e=>HNC.out (Or.inr (Or.inr (Or.inr (Or.inl e.symm))))) (fun k hk e=>HNC.out (Or.inr (Or.inr (Or.inr (Or.inr (Or.inl (by rw[<-e];exact hk))))))) (fun k hk e=>HNC.out (Or.inr (Or.inr (Or.inr (Or.inr (Or.inr (by rw[<-e];exact hk))))))),KeepS.set w9 qb 1 (.int .i64 cl)⟩
           have hsub:IntKind.i64.wrap ((cl:Int)+1 - 1)=cl:=by rw[IntKind.wrap_i64];omega
           have HK10:Hid (KeepS (X.chg cv iv) w (w9.setCell ⟨qb,1,none⟩ (.int .i64 cl))):=hid (HK9.trans HC10.2 (fun j e hj=>by have:=HQW.out;omega))
           have HC10:=hid HC10.1
           clear HC9 HK9 HQ9 HNC
           go_wp2_with fail
           clear m4 hml k1 k0 kf kl hsub
           generalize w9.setCell ⟨qb,1,none⟩ (.int .i64 cl)=w10 at *
           refine(Zfh HC10.out 0 cl HSF.1).mono ?_
           rintro e w11 ⟨rfl,HP11⟩
           go_wp2
           exact bodyPost_end (v:=.tuple #[]) (results_none rfl _ _ _) rfl ⟨rfl,hid (by rw[HE3.out,<-HCL.out];exact CoP.trans HK10.out HF91.out HF92.out HP11.out)⟩
         · have h0z:(x.op:Int)≠0:=by omega
           obtain⟨ag,hag⟩:∃ag:Nat,x.arg=ag:=⟨x.arg.toNat,by have:=HN.nn h0;omega⟩
           have HE3:Hid (Zn X.nodes (f+1) n c=Zh x.op ag F):=hid (by rw[HE2.out,ZbN,if_neg h0,hag];rfl)
           rw[hag]at k1
           go_wp2_with fail
           refine(Zfh HCF.out x.op ag HSF.1).mono ?_
           rintro e w7 ⟨rfl,HP7⟩
           go_wp2
           exact bodyPost_end (v:=.tuple #[]) (results_none rfl _ _ _) rfl ⟨rfl,hid (by rw[HE3.out];exact HTr.out HP7.out)⟩
end
end Go.Proofs.YtcdgkkfipdoeeaaGreatDoor
namespace Go.Proofs.YtcdgkkfipdoeeaaGreatDoor
open Go.RowKit LS
theorem Tryz.infoStr:(Tryz.prog.info? 9).map (fun i=>(i.zero,i.size,i.bytes))=some (some (.string ByteArray.empty),1,16):=by kernel_rfl
end Go.Proofs.YtcdgkkfipdoeeaaGreatDoor

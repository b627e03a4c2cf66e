/- Parts. -/
import Derived.Test.YtkodhpilkaihjaaGreatDoorF38
set_option maxRecDepth 100000
set_option maxHeartbeats 16000000
set_option linter.unusedSimpArgs false
namespace Go.Proofs.YtkodhpilkaihjaaGreatDoor
open Go.RowKit LS
theorem ZsE{w:World}{base:Nat}{e:TypeId}{sz g n:Nat}{xs:List Value}(h:w.ownsRow base e sz (.slice (some ⟨g,0,none⟩) n n) n xs):BAt w g xs e:=by
 rcases h.2 with ⟨hv,_⟩|⟨g',cap,cur,hv,_,hh,_,_,h3,h4⟩
 ·cases hv
 ·injection hv with e1 e2 e3
  injection e1 with e1
  injection e1 with e1
  subst e1 e3
  unfold BAt
  rw[hh]
  congr 2
  apply Array.toList_inj.1
  rw[<-h4,List.take_of_length_le (by rw[Array.length_toList,h3];exact Nat.le_refl _)]
def Zca(w:World)(v:Value)(p:Int)(a:Addr):Prop:=∃fa:Nat,v=.iface 115 (.pointer (some ⟨fa,0,none⟩))/\w.cell? ⟨fa,1,none⟩=some (.int .i64 p)/\w.cell? ⟨fa,2,none⟩=some (.iface 491 (.pointer (some a)))
theorem Zca.below{w w':World}{v:Value}{p:Int}{a:Addr}(h:Zca w v p a)(hb:Below w.heap.size w w'):Zca w' v p a:=by
 obtain⟨fa,h1,h2,h3⟩:=h
 exact⟨fa,h1,(hb.cell (p:=⟨_,_,none⟩) (World.block_lt_of_cell? _ _ h2)).trans h2,(hb.cell (p:=⟨_,_,none⟩) (World.block_lt_of_cell? _ _ h3)).trans h3⟩
theorem ZgQ(i:Int)(a:Addr)(w:World) :
  Calls Tryz.prog 79 #[.int .i64 i,.iface 491 (.pointer (some a))] w fun e w'=>∃v,e=.returned v/\Hid (Zca w' v i a)/\Below w.heap.size w w':=by
 go_enter Tryz.func79,Tryz.ntmps79
 go_wp2
 go_ret
 exact⟨_,rfl,hid ⟨_,rfl,by simp,by simp⟩,(by repeat first|exact Below.refl _ _|assumption|refine Below.alloc ?_ ?_ _|refine Below.setCell ?_ ?_ _|refine Zg ?_ _|refine Below.drew ?_|omega|(simp;omega)|simp)⟩
def Zeb(w:World)(A:Nat->Addr)(r:Except (Nat×Nat) Nat)(v:Int)(err:Value):Prop:=match r with
 | .ok m=>v=m/\err=.nilIface
 | .error x=>v=0/\x.1=12/\Zca w err x.2 (A 11)
theorem Zeb.mkOk{w:World}{A:Nat->Addr}{r:Except (Nat×Nat) Nat}{v:Int}{err:Value}{m:Nat}(hr:r=.ok m)(h:v=m/\err=.nilIface):Zeb w A r v err:=by subst hr;exact h
theorem Zeb.mkErr{w:World}{A:Nat->Addr}{r:Except (Nat×Nat) Nat}{v:Int}{err:Value}{x:Nat×Nat}(hr:r=.error x)(h:v=0/\x.1=12/\Zca w err x.2 (A 11)):Zeb w A r v err:=by subst hr;exact h
theorem CodeV.below{w w':World}{c:CodeQ}{cv pv gv iv:Value}(h:CodeV w c cv pv gv iv)(hb:Below w.heap.size w w'):CodeV w' c cv pv gv iv:=by
 refine⟨Zm h.cs hb,?_,?_,Zm h.is hb⟩
 ·obtain⟨xs,h1,h2,h3⟩:=h.ps;exact⟨xs,Zm h1 hb,h2,fun x hx=>(h3 x hx).below hb⟩
 ·obtain⟨xs,h1,h2,h3⟩:=h.gs;exact⟨xs,Zm h1 hb,h2,fun x hx=>(h3 x hx).below hb⟩
theorem ZjK{B:Nat}{w:World}{b:Nat} : ∀(vs:List Value) (o:Nat) {W:World},Below B w W->B<=b->Below B w (W.setCells b o vs)
 | [],_,_,h,_=>h
 | v :: r, o, W, h, hb => by
   rw[World.setCells]
   exact ZjK r (o+1) (h.setCell (p:=⟨b,o,none⟩) hb v) hb
theorem ZmB{b j:Nat} : ∀(vs:List Value) (o:Nat) {W:World},j≠b->(W.setCells b o vs).heap[j]?=W.heap[j]?
 | [],_,_,_=>rfl
 | v :: r, o, W, h => by
   rw[World.setCells]
   exact(ZmB r (o+1) h).trans (Go.Deep.blk_setCell_other _ _ _ _ h)
structure HighP (w:World) (A:Nat->Addr) (m:Int) (c:CodeQ) (a0 a1 a2 a3:Option Addr) (n0 n1 n2 e0 e1 e2 e3:Nat):Prop where
 v:Vars w A m
 n:20<=w.heap.size
 cv:CodeV w c (.slice a0 n0 e0) (.slice a1 n1 e1) (.slice a2 n2 e2) (.slice a3 c.ins.length e3)
 ln:c.ins.length<=65535
 rf:∀i,i<c.ins.length->Z0 c i (c.ins.getD i (0,0))=true
 op:∀x∈c.ins,x.1<=13/\x.2<65536
theorem ZpY(w:World)(A:Nat->Addr)(m:Int)(c:CodeQ)(a0 a1 a2 a3:Option Addr)(n0 n1 n2 e0 e1 e2 e3:Nat)(h:HighP w A m c a0 a1 a2 a3 n0 n1 n2 e0 e1 e2 e3) :
  Calls Tryz.prog 80 #[.agg #[.slice a0 n0 e0,.slice a1 n1 e1,.slice a2 n2 e2,.slice a3 c.ins.length e3]] w fun e w'=>∃v err,e=.returned (.tuple #[.int .i64 v,err])/\Hid (Zeb w' A (ZcQ c) v err)/\Below w.heap.size w w':=by
 have HP:=hid h
 have hln:=h.ln
 obtain⟨i0,hi,hz0,hz1,hz2⟩:=info_parts Tryz.infoState
 obtain⟨n,hn⟩:∃n,n=c.ins.length:=⟨_,rfl⟩
 rw[<-hn]at hln ⊢
 have HN:=hid hn
 clear h hn
 go_enter Tryz.func80,Tryz.ntmps80
 go_wp2_with (at_make;refine wpList_make_full _ rfl _ _ 307 rfl (w.heap.size+1) 312 i0 _ 83 Tryz.underlying307 hi hz0 hz1 _ _ _ _ (n+1) rfl rfl ?e1 ?e2 ?b2 ?b3 ?b4 ?_)
 case e1=>go_num
 case e2=>go_num
 case b2=>rw[hz2];omega
 case b3=>unfold maxLen;omega
 case b4=>simp
 intro w1 hown hgrow
 have hb1:Below w.heap.size w w1:=Zbal.trans ⟨hgrow.os,hgrow.tape,hgrow.output,hgrow.size,fun k hk=>hgrow.block k (by rw[Go.Deep.nblk_alloc];omega) (by simp)⟩
 have HB1:=hid hb1
 have HG1:Hid (BAt w1 (w.heap.size+1) (stCs (List.replicate (n+1) ah0)) 312):=hid (by have:=ZsE hown;rwa [ZrZ]at this)
 have HC1:Hid (BAt w1 w.heap.size [.slice a0 n0 e0,.slice a1 n1 e1,.slice a2 n2 e2,.slice a3 n e3] 58):=hid ((hgrow.block _ (by rw[Go.Deep.nblk_alloc];omega) (by simp)).trans (Go.Deep.blk_alloc_new _ _))
 have g0:w1.cell? ⟨w.heap.size+1,0,none⟩=some (.bool false):=by
  have:=Zgj (List.replicate (n+1) ah0) 0 0 (by simp) (by decide)
  rw[HG1.cell 0,show(0:Nat)=0*83+0 from rfl,this]
  simp[ZbR,ah0,List.getD_eq_getElem?_getD]
 have f0:=HG1.frozen 0
 have d3:=HC1.cell 3
 simp only[Zget]at d3
 have hg1l:=HG1.lt
 have HG2:Hid (BAt (w1.setCell ⟨w.heap.size+1,0,none⟩ (.bool true)) (w.heap.size+1) (stCs (Ze0 n)) 312):=hid (by
  have h2:=HG1.setk 0 (.bool true)
  have h3 : (stCs (List.replicate (n + 1) ah0)).set (0 * 83 + 0) (.bool true) = stCs ((List.replicate (n + 1) ah0).set 0 ⟨true, false, [], List.replicate 16 0⟩) := Zhw (by simp) (by decide) (by
    rw[show(List.replicate (n+1) ah0).getD 0 ah0=ah0 from rfl]
    rfl)
  rw[show(0*83+0:Nat)=0 from rfl]at h3
  rw[h3]at h2
  exact h2)
 have HC2:=hid (HC1.other (p:=⟨w.heap.size+1,0,none⟩) (by show w.heap.size≠w.heap.size+1;omega) (.bool true))
 have HB2:Hid (Below w.heap.size w (w1.setCell ⟨w.heap.size+1,0,none⟩ (.bool true))):=hid (HB1.setCell (p:=⟨w.heap.size+1,0,none⟩) (by show w.heap.size<=w.heap.size+1;omega) _)
 clear hown hgrow hb1 HB1 HG1 HC1
 go_wp2
 go_loopw [5, 20] (fun mv iv wr => ∃ (k mo : Nat) (l : List Ah), k <= n /\ iv = .int .i64 k /\ mv = .int .i64 mo /\ mo <= 64 /\ l.length = n + 1 /\ Hid (Zbd c k = .ok (l, mo)) /\ Hid (∀ x ∈ l, AhOk x) /\ Hid (BAt wr (w.heap.size + 1) (stCs l) 312) /\ Hid (BAt wr w.heap.size [.slice a0 n0 e0, .slice a1 n1 e1, .slice a2 n2 e2, .slice a3 n e3] 58) /\ Hid (Below w.heap.size w wr))
   (fun _ iv _=>n - (intOf iv).toNat)
 case atStart=>exact⟨0,0,Ze0 n,Nat.zero_le _,rfl,rfl,by decide,by simp[Ze0],hid (by rw[HN.out];rfl),hid (ZsY n),HG2,HC2,HB2⟩
 case round=>
  obtain⟨k,mo,l,hk,rfl,rfl,hmo,hll,HPQ,HOK,HGr,HCr,HBr⟩:=hrel
  clear HG2 HC2 HB2 g0 f0 d3 hg1l
  have HLL:=hid hll
  clear hll
  by_cases hlt:k<n
  ·have hlz:(k:Int)<n:=by omega
   obtain⟨x,hx⟩:∃x,x=c.ins.getD k (0,0):=⟨_,rfl⟩
   have HX:=hid hx
   obtain⟨op,arg⟩:=x
   have hkn:k<c.ins.length:=by rw[<-HN.out];exact hlt
   have hxe:c.ins[k]=(op,arg):=by rw[hx,List.getD_eq_getElem?_getD,List.getElem?_eq_getElem hkn];rfl
   have HIr:=hid (HP.cv.below HBr.out).is
   obtain⟨gi,cpi,hgi⟩:=ZV HIr.out (by omega)
   injection hgi with hgi1 hgi2 hgi3
   subst hgi1
   have i0c:=Zj HIr.out _ _ (ZeB c.ins k hkn).1
   have i1c:=Zj HIr.out _ _ (ZeB c.ins k hkn).2
   rw[hxe]at i0c i1c
   simp only at i0c i1c
   have hgil:=ZbX HIr.out
   have hop:=HP.op (op,arg) (by rw[<-hxe];exact List.getElem_mem hkn)
   obtain⟨hop1,hop2⟩:=hop
   simp only at hop1 hop2
   have HRF:Hid (Z0 c k (op,arg)=true):=hid (by have:=HP.rf k hkn;rwa [<-hx]at this)
   obtain⟨a,ha⟩:∃a,a=l.getD k ah0:=⟨_,rfl⟩
   have HAE:=hid ha
   have HAK:Hid (AhOk a):=hid (by rw[ha];exact Zfj HOK.out k)
   have HRG : Hid (∀ o, (wr.alloc o).rangeAt (w.heap.size + 1) (k * 83) (stC a)) := hid (fun o => World.rangeAt_alloc (HGr.range (k * 83) (stC a) (fun j hj => by
     rw[Zbn]at hj
     rw[Zgj l k j (by rw[HLL.out];omega) hj,Zch a j hj,<-HAE.out])) o)
   have HI1:Hid ((Tryz.prog.info? 312).map (·.size)=some (stC a).length):=hid (by rw[Zbn];exact Tryz.infoSt)
   have HI2:Hid ((Tryz.prog.info? 312).map (·.size)=some (stC a).toArray.size):=hid (by rw[List.size_toArray,Zbn];exact Tryz.infoSt)
   have H1C:Hid ((stC a).toArray.all (·.oneCell')=true):=hid (all_oneCell_toArray (ZmH a))
   have HTH : Hid (∀ o1, ((wr.alloc o1).alloc (.cells (stC ah0).toArray 312)).there (wr.heap.size + 1) 0 (stC a).toArray.size) := hid (fun o1 => by
     have h1:BAt ((wr.alloc o1).alloc (.cells (stC ah0).toArray 312)) (wr.heap.size+1) (stC ah0) 312:=by
       have:=Go.Deep.blk_alloc_new (wr.alloc o1) (.cells (stC ah0).toArray 312);rwa [Go.Deep.nblk_alloc]at this
     exact h1.there 0 _ (by rw[List.size_toArray,Zbn,Zbn];omega))
   have hzv:∀w',(zeroValue 312).run Tryz.prog w'=.ok (.agg (stC ah0).toArray) w':=(zero_of_info (n:=83) (by have:=Tryz.infoState;simp only[Option.map_eq_some_iff]at this ⊢;obtain⟨j,hj1,hj2⟩:=this;exact⟨j,hj1,by injection hj2 with e1 e2;injection e2 with e2 e3;rw[e1,e2]⟩)).1
   have r3:=HCr.cell 3
   simp only[Zget]at r3
   have hgrl:=HGr.lt
   have hcrl:=HCr.lt
   clear hx ha hxe hgi2 hgi3
   go_upto_region 8 with (first
     | refine wpList_load_mid rfl 312 (.tmp 27) rfl (w.heap.size+1) (k*83) rfl (stC a) _ (HRG.out _) Tryz.underlying312 rfl HI1.out ?_
     | refine wpList_store_mid rfl 312 (.tmp 8) (.tmp 28) rfl (wr.heap.size+1) 0 (stC a).toArray rfl rfl (HTH.out _) HI2.out H1C.out ?_)
   refine ZK fun W hW=>?_
   have hbW:Below wr.heap.size wr W:=by rw[hW];exact ZjK (stC a) 0 (Zbal.alloc (by simp) _) (by omega)
   have HSW:Hid (StAt W (wr.heap.size+1) a):=hid (by
    rw[hW]
    have h1:BAt ((wr.alloc (Obj.cells #[.int .i64 op,.int .i64 arg] 184)).alloc (.cells (stC ah0).toArray 312)) (wr.heap.size+1) (stC ah0) 312:=by
     have:=Go.Deep.blk_alloc_new (wr.alloc (Obj.cells #[.int .i64 op,.int .i64 arg] 184)) (.cells (stC ah0).toArray 312);rwa [Go.Deep.nblk_alloc]at this
    have h2:=BAt.setCells (stC a) 0 h1
    rw[Zuw]at h2
    exact h2)
   have HOW:Hid (BAt W wr.heap.size [.int .i64 op,.int .i64 arg] 184):=hid (by
    rw[hW]
    refine(ZmB (stC a) 0 (by omega)).trans ?_
    exact(Zbal.block _ (by simp)).trans (Go.Deep.blk_alloc_new _ _))
   have HGW:=hid (HGr.below hbW)
   have HCW:=hid (HCr.below hbW)
   have HBW:Hid (Below w.heap.size w W):=hid (HBr.trans (hbW.mono HBr.size))
   clear hW hbW i0c i1c r3 HRG HTH hzv HI1 HI2 H1C
   obtain⟨c0,c1,c2⟩:=StAt.cells HSW.out
   have o0:=HOW.cell 0
   have o1:=HOW.cell 1
   have q0:=HCW.cell 0
   have q1:=HCW.cell 1
   have q2:=HCW.cell 2
   have q3:=HCW.cell 3
   simp only[Zget]at o0 o1 q0 q1 q2 q3
   have HPO:Hid (Zbd c (k+1)=ZeH c k l mo):=hid (by show(match Zbd c k with|.error e=>_|.ok x=>_)=_;rw[HPQ.out])
   cases hkn2:a.known with
   | false=>
    rw[hkn2]at c0
    have HPN:Hid (Zbd c (k+1)=.ok (l,mo)):=hid (by rw[HPO.out];unfold ZeH;simp only;rw[<-HAE.out,hkn2];rfl)
    go_wp2
    go_roundw
    case rel=>exact⟨k+1,mo,l,by omega,by go_num,rfl,hmo,HLL.out,HPN,HOK,HGW,HCW,HBW⟩
    case measure=>simp[intOf];omega
   | true=>
    rw[hkn2]at c0
    cases hcl:a.clash with
    | true=>
     rw[hcl]at c1
     have HHE:Hid (ZcQ c=.error (12,k)):=hid (by
      unfold ZcQ
      rw[Zl1 (k:=k+1) (e:=(12,k)) (by rw[HPO.out];unfold ZeH;simp only;rw[<-HAE.out,hkn2,hcl];rfl) _ (by omega)])
     have gs:W.cell? ⟨11,0,none⟩=some (.iface 491 (.pointer (some (A 11)))):=(HP.v.below HBW.out).sent _ (by decide)
     go_wp2_with fail
     refine(ZgQ _ _ _).mono ?_
     rintro e w9 ⟨v,rfl,HE,hb9⟩
     have HB9:Hid (Below w.heap.size w w9):=hid (HBW.trans (hb9.mono HBW.size))
     obtain⟨fa,rfl,hf1,hf2⟩:=HE.out
     clear hb9 hf1 hf2
     go_wp2
     go_ret2
     exact⟨_,_,rfl,hid (Zeb.mkErr HHE.out ⟨rfl,rfl,HE.out⟩),HB9.out⟩
    | false=>
     rw[hcl]at c1
     have HDP:Hid (DoP W (wr.heap.size+1) a c op arg a0 a1 a2 (some ⟨gi,0,none⟩) n0 n1 n2 n e0 e1 e2 e3):=hid ⟨HSW.out,by have:=HP.cv.below HBW.out;rwa [<-HN.out]at this,⟨k,HRF.out⟩,HAK.ln,HAK.sl,HAK.kd⟩
     have HPS:Hid (Zbd c (k+1)=match Zw c (op,arg) a.stack a.slots with
      | none=>.error (12,k)
      | some s=>.ok (goOn (op,arg) k s.1 s.2 l,max mo s.1.length)):=hid (by rw[HPO.out];unfold ZeH;simp only;rw[<-HAE.out,hkn2,hcl,<-HX.out];rfl)
     go_wp2_with fail
     refine(Zup W (wr.heap.size+1) a c op arg a0 a1 a2 _ n0 n1 n2 n e0 e1 e2 e3 HDP.out hop1).mono ?_
     rintro e w2 ⟨ok,rfl,HD⟩
     have hg2:=HD.2.2
     have HG2:=hid (HGW.grown hg2 (by intro e;injection e with e;omega))
     have HC2:=hid (HCW.grown hg2 (by intro e;injection e with e;omega))
     have HO2:=hid (HOW.grown hg2 (by intro e;injection e with e;omega))
     have HB2:Hid (Below w.heap.size w w2):=hid (ZbQ HBW.out hg2 (by have:=HBr.size;omega))
     clear hg2 HGW HCW HOW HBW HDP HSW c0 c1 c2 o0 o1 q0 q1 q2 q3
     cases hst:Zw c (op,arg) a.stack a.slots with
     | none=>
      have hok:ok=false:=by have:=HD.1;rw[hst]at this;exact this
      subst hok
      have HHE:Hid (ZcQ c=.error (12,k)):=hid (by
       unfold ZcQ
       rw[Zl1 (k:=k+1) (e:=(12,k)) (by rw[HPS.out,hst]) _ (by omega)])
      clear HD hst
      have gs:w2.cell? ⟨11,0,none⟩=some (.iface 491 (.pointer (some (A 11)))):=(HP.v.below HB2.out).sent _ (by decide)
      go_wp2_with fail
      refine(ZgQ _ _ _).mono ?_
      rintro e w9 ⟨v,rfl,HE,hb9⟩
      have HB9:Hid (Below w.heap.size w w9):=hid (HB2.trans (hb9.mono HB2.size))
      obtain⟨fa,rfl,hf1,hf2⟩:=HE.out
      clear hb9 hf1 hf2
      go_wp2
      go_ret2
      exact⟨_,_,rfl,hid (Zeb.mkErr HHE.out ⟨rfl,rfl,HE.out⟩),HB9.out⟩
     | some s=>
      obtain⟨st,sl⟩:=s
      have hok:ok=true:=by have:=HD.1;rw[hst]at this;exact this
      subst hok
      obtain⟨b,hbe⟩:∃b:Ah,b=⟨true,false,st,sl⟩:=⟨_,rfl⟩
      have HS2:Hid (StAt w2 (wr.heap.size+1) b):=hid (by
       have:=HD.2.1 st sl hst
       rw[hkn2,hcl]at this
       rw[hbe];exact this)
      obtain⟨t1,t2,t3⟩:=Zu2 HRF.out HAK.ln HAK.kd HAK.sl hst
      have HBO:Hid (AhOk b):=hid (by rw[hbe];exact⟨t1,t2,t3⟩)
      have HPN:Hid (Zbd c (k+1)=.ok (goOn (op,arg) k st sl l,max mo st.length)):=hid (by rw[HPS.out,hst])
      have HBE:=hid hbe
      have hbst:b.stack=st:=by rw[hbe]
      have HIB:Hid ((Tryz.prog.info? 312).map (·.size)=some (stC b).length):=hid (by rw[Zbn];exact Tryz.infoSt)
      have c2:=(StAt.cells HS2.out).2.2
      rw[hbst]at c2
      have o0:=HO2.cell 0
      have o1:=HO2.cell 1
      simp only[Zget]at o0 o1
      obtain⟨sn,hsn⟩:∃sn,sn=st.length:=⟨_,rfl⟩
      rw[<-hsn]at c2 t1 HPN
      clear HD hst HPS HPO hbe hbst t2 t3 hsn hkn2 hcl
      go_wp2_with fail
      refine(Zoi op arg w2).mono ?_
      rintro e w3 ⟨rfl,hb3⟩
      have HG3:=hid (HG2.below hb3)
      have HC3:=hid (HC2.below hb3)
      have HO3:=hid (HO2.below hb3)
      have HS3:Hid (StAt w3 (wr.heap.size+1) b):=hid (HS2.below hb3)
      have HB3:Hid (Below w.heap.size w w3):=hid (HB2.trans (hb3.mono HB2.size))
      clear hb3 HG2 HC2 HO2 HS2 HB2 o0 o1 c2
      have o0:=HO3.cell 0
      have o1:=HO3.cell 1
      simp only[Zget]at o0 o1
      have HMO:Hid (∀(l':List Ah) (j:Nat),(∀x∈l',AhOk x)->∀x∈l'.set j (Zbf (l'.getD j ah0) st sl),AhOk x):=hid (fun l' j h=>Zuy h (Zsa (Zfj h j) (by have:=HBO.ln;rw[HBE.out]at this;exact this) (by have:=HBO.kd;rw[HBE.out]at this;exact this) (by have:=HBO.sl;rw[HBE.out]at this;exact this)) j)
      by_cases h9:op=9
      ·subst h9
       rw[show Zct 9=true from rfl]
       have hab:k<arg/\arg<=n:=by have:=HRF.out;rw[HN.out];simpa [Z0] using this
       have hz1':(arg:Int)<(n:Int)+1:=by omega
       go_upto_region 13 with fail
       refine Zb0 5 (fun w'=>w'.cell? ⟨wr.heap.size,1,none⟩=some (.int .i64 arg)/\w'.rangeAt (wr.heap.size+1) 0 (stC b)) (by kernel_rfl) ⟨by simpa using HO3.cell 1,by simpa using HS3.range 0 (stC b) (fun j _=>by rw[Nat.zero_add])⟩ (fun hHeld=>?_)
       refine Zc (i:=0) (d:=49) (v:=?vp0) rfl rfl (by kernel_rfl) (fun _ _ _ h=>h) (Or.inl ⟨by rfl,?hyp0⟩) hHeld ?rsp0
       case hyp0=>(intro w hSw;go_simp;try with_reducible rfl)
       case rsp0=>
       try simp only[Zset]
       refine Zc (i:=1) (d:=50) (v:=?vp1) rfl rfl (by kernel_rfl) (fun _ _ _ h=>h) (Or.inl ⟨by rfl,?hyp1⟩) hHeld ?rsp1
       case hyp1=>(intro w hSw;go_simp;try with_reducible rfl)
       case rsp1=>
       try simp only[Zset]
       refine Zc (i:=2) (d:=51) (v:=?vp2) rfl rfl (by kernel_rfl) (fun _ _ _ h=>h) (Or.inl ⟨by rfl,?hyp2⟩) hHeld ?rsp2
       case hyp2=>(intro w hSw;go_simp;try with_reducible rfl)
       case rsp2=>
       try simp only[Zset]
       refine Zc (i:=3) (d:=52) (v:=?vp3) rfl rfl (by kernel_rfl) (fun _ _ _ h=>h) (Or.inl ⟨by rfl,?hyp3⟩) hHeld ?rsp3
       case hyp3=>(intro w hSw;go_simp;try with_reducible rfl)
       case rsp3=>
       try simp only[Zset]
       refine Zc (i:=4) (d:=53) (v:=.agg (stC b).toArray) rfl rfl (by kernel_rfl) (fun _ _ _ h=>h) (yieldsIf_load_mid (by rfl) 312 (.tmp 8) rfl (wr.heap.size+1) 0 rfl (stC b) _ (fun w hw=>hw.2) Tryz.underlying312 rfl HIB.out) hHeld ?rsp4
       case rsp4=>
       try simp only[Zset]
       refine ZbW (by kernel_rfl) (by kernel_rfl) rfl (by kernel_rfl) (fun K hK=>?_)
       go_simp
       refine(Zhs w3.drew (w.heap.size+1) arg l b (by rw[HLL.out];omega) (HG3.below ((Below.refl _ _).drew)) (Zfj HOK.out _) HBO.out (by rw[HBE.out]) (by rw[HBE.out])).mono ?_
       rintro e w5 ⟨rfl,HGx,hg5⟩
       refine hK.out _ _ ?_
       have HG5:Hid (BAt w5 (w.heap.size+1) (stCs (l.set arg (Zbf (l.getD arg ah0) st sl))) 312):=hid (by have:=HGx.out;rw[HBE.out]at this;exact this)
       have HO5:=hid ((HO3.below ((Below.refl _ _).drew)).grown hg5 (by intro e;injection e with e;omega))
       have HC5:=hid ((HC3.below ((Below.refl _ _).drew)).grown hg5 (by intro e;injection e with e;omega))
       have HS5:Hid (StAt w5 (wr.heap.size+1) b):=hid ((HS3.below ((Below.refl _ _).drew)).grown hg5 (by intro e;injection e with e;omega))
       have HB5:Hid (Below w.heap.size w w5):=hid (ZbQ HB3.drew hg5 (by omega))
       clear hK K hHeld hg5 HGx o0 o1
       have o0:=HO5.cell 0
       have o1:=HO5.cell 1
       simp only[Zget]at o0 o1
       go_wp2
       go_roundw
       case rel=>exact⟨k+1,max mo sn,l.set arg (Zbf (l.getD arg ah0) st sl),by omega,by go_num,by first|rfl|go_num|(congr 1;omega),by omega,by rw[List.length_set];exact HLL.out,HPN,hid (HMO.out l arg HOK.out),HG5,HC5,HB5⟩
       case measure=>simp[intOf];omega
      ·by_cases h10:op=10
       ·subst h10
        rw[show Zct 10=true from rfl]
        have hab:k<arg/\arg<=n:=by have:=HRF.out;rw[HN.out];simpa [Z0] using this
        have hz1':(arg:Int)<(n:Int)+1:=by omega
        go_upto_region 13 with fail
        refine Zb0 5 (fun w'=>w'.cell? ⟨wr.heap.size,1,none⟩=some (.int .i64 arg)/\w'.rangeAt (wr.heap.size+1) 0 (stC b)) (by kernel_rfl) ⟨by simpa using HO3.cell 1,by simpa using HS3.range 0 (stC b) (fun j _=>by rw[Nat.zero_add])⟩ (fun hHeld=>?_)
        refine Zc (i:=0) (d:=49) (v:=?vq0) rfl rfl (by kernel_rfl) (fun _ _ _ h=>h) (Or.inl ⟨by rfl,?hyq0⟩) hHeld ?rsq0
        case hyq0=>(intro w hSw;go_simp;try with_reducible rfl)
        case rsq0=>
        try simp only[Zset]
        refine Zc (i:=1) (d:=50) (v:=?vq1) rfl rfl (by kernel_rfl) (fun _ _ _ h=>h) (Or.inl ⟨by rfl,?hyq1⟩) hHeld ?rsq1
        case hyq1=>(intro w hSw;go_simp;try with_reducible rfl)
        case rsq1=>
        try simp only[Zset]
        refine Zc (i:=2) (d:=51) (v:=?vq2) rfl rfl (by kernel_rfl) (fun _ _ _ h=>h) (Or.inl ⟨by rfl,?hyq2⟩) hHeld ?rsq2
        case hyq2=>(intro w hSw;go_simp;try with_reducible rfl)
        case rsq2=>
        try simp only[Zset]
        refine Zc (i:=3) (d:=52) (v:=?vq3) rfl rfl (by kernel_rfl) (fun _ _ _ h=>h) (Or.inl ⟨by rfl,?hyq3⟩) hHeld ?rsq3
        case hyq3=>(intro w hSw;go_simp;try with_reducible rfl)
        case rsq3=>
        try simp only[Zset]
        refine Zc (i:=4) (d:=53) (v:=.agg (stC b).toArray) rfl rfl (by kernel_rfl) (fun _ _ _ h=>h) (yieldsIf_load_mid (by rfl) 312 (.tmp 8) rfl (wr.heap.size+1) 0 rfl (stC b) _ (fun w hw=>hw.2) Tryz.underlying312 rfl HIB.out) hHeld ?rsq4
        case rsq4=>
        try simp only[Zset]
        refine ZbW (by kernel_rfl) (by kernel_rfl) rfl (by kernel_rfl) (fun K hK=>?_)
        go_simp
        refine(Zhs w3.drew (w.heap.size+1) arg l b (by rw[HLL.out];omega) (HG3.below ((Below.refl _ _).drew)) (Zfj HOK.out _) HBO.out (by rw[HBE.out]) (by rw[HBE.out])).mono ?_
        rintro e w5 ⟨rfl,HGx,hg5⟩
        refine hK.out _ _ ?_
        have HG5:Hid (BAt w5 (w.heap.size+1) (stCs (l.set arg (Zbf (l.getD arg ah0) st sl))) 312):=hid (by have:=HGx.out;rw[HBE.out]at this;exact this)
        have HO5:=hid ((HO3.below ((Below.refl _ _).drew)).grown hg5 (by intro e;injection e with e;omega))
        have HC5:=hid ((HC3.below ((Below.refl _ _).drew)).grown hg5 (by intro e;injection e with e;omega))
        have HS5:Hid (StAt w5 (wr.heap.size+1) b):=hid ((HS3.below ((Below.refl _ _).drew)).grown hg5 (by intro e;injection e with e;omega))
        have HB5:Hid (Below w.heap.size w w5):=hid (ZbQ HB3.drew hg5 (by omega))
        clear hK K hHeld hg5 HGx o0 o1
        have o0:=HO5.cell 0
        have o1:=HO5.cell 1
        simp only[Zget]at o0 o1
        obtain⟨l1,hl1⟩:∃l1,l1=l.set arg (Zbf (l.getD arg ah0) st sl):=⟨_,rfl⟩
        have HL1:Hid (l1.length=n+1):=hid (by rw[hl1,List.length_set];exact HLL.out)
        have HOK1:Hid (∀x∈l1,AhOk x):=hid (by rw[hl1];exact HMO.out l arg HOK.out)
        rw[<-hl1]at HG5
        have HPN1:Hid (Zbd c (k+1)=.ok (l1.set (k+1) (Zbf (l1.getD (k+1) ah0) st sl),max mo sn)):=hid (by rw[HPN.out,hl1];rfl)
        clear hl1 HPN
        have HPN:=HPN1
        have hzk:(k:Int)+1<(n:Int)+1:=by omega
        have hwr:IntKind.i64.wrap ((k:Int)+1)=(k:Int)+1:=by rw[IntKind.wrap_i64];omega
        have hk0:0<=(k:Int)+1:=by omega
        go_upto_region 15 with fail
        refine Zb0 5 (fun w'=>w'.cell? ⟨wr.heap.size,1,none⟩=some (.int .i64 arg)/\w'.rangeAt (wr.heap.size+1) 0 (stC b)) (by kernel_rfl) ⟨by simpa using HO5.cell 1,by simpa using HS5.range 0 (stC b) (fun j _=>by rw[Nat.zero_add])⟩ (fun hHeld=>?_)
        refine Zc (i:=0) (d:=58) (v:=?vr0) rfl rfl (by kernel_rfl) (fun _ _ _ h=>h) (Or.inl ⟨by rfl,?hyr0⟩) hHeld ?rsr0
        case hyr0=>(intro w hSw;go_simp;try with_reducible rfl)
        case rsr0=>
        try simp only[Zset]
        refine Zc (i:=1) (d:=59) (v:=?vr1) rfl rfl (by kernel_rfl) (fun _ _ _ h=>h) (Or.inl ⟨by rfl,?hyr1⟩) hHeld ?rsr1
        case hyr1=>(intro w hSw;go_simp;try with_reducible rfl)
        case rsr1=>
        try simp only[Zset]
        refine Zc (i:=2) (d:=60) (v:=?vr2) rfl rfl (by kernel_rfl) (fun _ _ _ h=>h) (Or.inl ⟨by rfl,?hyr2⟩) hHeld ?rsr2
        case hyr2=>(intro w hSw;go_simp;try with_reducible rfl)
        case rsr2=>
        try simp only[Zset]
        refine Zc (i:=3) (d:=61) (v:=?vr3) rfl rfl (by kernel_rfl) (fun _ _ _ h=>h) (Or.inl ⟨by rfl,?hyr3⟩) hHeld ?rsr3
        case hyr3=>(intro w hSw;go_simp;try with_reducible rfl)
        case rsr3=>
        try simp only[Zset]
        refine Zc (i:=4) (d:=62) (v:=.agg (stC b).toArray) rfl rfl (by kernel_rfl) (fun _ _ _ h=>h) (yieldsIf_load_mid (by rfl) 312 (.tmp 8) rfl (wr.heap.size+1) 0 rfl (stC b) _ (fun w hw=>hw.2) Tryz.underlying312 rfl HIB.out) hHeld ?rsr4
        case rsr4=>
        try simp only[Zset]
        refine ZbW (by kernel_rfl) (by kernel_rfl) rfl (by kernel_rfl) (fun K hK=>?_)
        go_simp
        refine(Zhs w5.drew (w.heap.size+1) (k+1) l1 b (by rw[HL1.out];omega) (HG5.below ((Below.refl _ _).drew)) (Zfj HOK1.out _) HBO.out (by rw[HBE.out]) (by rw[HBE.out])).mono ?_
        rintro e w7 ⟨rfl,HGx,hg7⟩
        refine hK.out _ _ ?_
        have HG7:Hid (BAt w7 (w.heap.size+1) (stCs (l1.set (k+1) (Zbf (l1.getD (k+1) ah0) st sl))) 312):=hid (by have:=HGx.out;rw[HBE.out]at this;exact this)
        have HO7:=hid ((HO5.below ((Below.refl _ _).drew)).grown hg7 (by intro e;injection e with e;omega))
        have HC7:=hid ((HC5.below ((Below.refl _ _).drew)).grown hg7 (by intro e;injection e with e;omega))
        have HS7:Hid (StAt w7 (wr.heap.size+1) b):=hid ((HS5.below ((Below.refl _ _).drew)).grown hg7 (by intro e;injection e with e;omega))
        have HB7:Hid (Below w.heap.size w w7):=hid (ZbQ HB5.drew hg7 (by omega))
        clear hK K hHeld hg7 HGx o0 o1
        have o0:=HO7.cell 0
        have o1:=HO7.cell 1
        simp only[Zget]at o0 o1
        go_wp2
        go_roundw
        case rel=>exact⟨k+1,max mo sn,l1.set (k+1) (Zbf (l1.getD (k+1) ah0) st sl),by omega,by go_num,by first|rfl|go_num|(congr 1;omega),by omega,by rw[List.length_set];exact HL1.out,HPN,hid (HMO.out l1 (k+1) HOK1.out),HG7,HC7,HB7⟩
        case measure=>simp[intOf];omega
       ·have hcj:Zct op=false:=by unfold Zct;simp[h9,h10]
        rw[hcj]
        have hn9:((op:Int) != 9)=true:=by rw[bne_iff_ne];omega
        have HPN1:Hid (Zbd c (k+1)=.ok (l.set (k+1) (Zbf (l.getD (k+1) ah0) st sl),max mo sn)):=hid (by
         rw[HPN.out]
         unfold goOn
         simp only[hcj,if_neg h9]
         rfl)
        clear HPN hcj
        have HPN:=HPN1
        have hzk:(k:Int)+1<(n:Int)+1:=by omega
        have hwr:IntKind.i64.wrap ((k:Int)+1)=(k:Int)+1:=by rw[IntKind.wrap_i64];omega
        have hk0:0<=(k:Int)+1:=by omega
        go_upto_region 15 with fail
        refine Zb0 5 (fun w'=>w'.cell? ⟨wr.heap.size,1,none⟩=some (.int .i64 arg)/\w'.rangeAt (wr.heap.size+1) 0 (stC b)) (by kernel_rfl) ⟨by simpa using HO3.cell 1,by simpa using HS3.range 0 (stC b) (fun j _=>by rw[Nat.zero_add])⟩ (fun hHeld=>?_)
        refine Zc (i:=0) (d:=58) (v:=?vs0) rfl rfl (by kernel_rfl) (fun _ _ _ h=>h) (Or.inl ⟨by rfl,?hys0⟩) hHeld ?rss0
        case hys0=>(intro w hSw;go_simp;try with_reducible rfl)
        case rss0=>
        try simp only[Zset]
        refine Zc (i:=1) (d:=59) (v:=?vs1) rfl rfl (by kernel_rfl) (fun _ _ _ h=>h) (Or.inl ⟨by rfl,?hys1⟩) hHeld ?rss1
        case hys1=>(intro w hSw;go_simp;try with_reducible rfl)
        case rss1=>
        try simp only[Zset]
        refine Zc (i:=2) (d:=60) (v:=?vs2) rfl rfl (by kernel_rfl) (fun _ _ _ h=>h) (Or.inl ⟨by rfl,?hys2⟩) hHeld ?rss2
        case hys2=>(intro w hSw;go_simp;try with_reducible rfl)
        case rss2=>
        try simp only[Zset]
        refine Zc (i:=3) (d:=61) (v:=?vs3) rfl rfl (by kernel_rfl) (fun _ _ _ h=>h) (Or.inl ⟨by rfl,?hys3⟩) hHeld ?rss3
        case hys3=>(intro w hSw;go_simp;try with_reducible rfl)
        case rss3=>
        try simp only[Zset]
        refine Zc (i:=4) (d:=62) (v:=.agg (stC b).toArray) rfl rfl (by kernel_rfl) (fun _ _ _ h=>h) (yieldsIf_load_mid (by rfl) 312 (.tmp 8) rfl (wr.heap.size+1) 0 rfl (stC b) _ (fun w hw=>hw.2) Tryz.underlying312 rfl HIB.out) hHeld ?rss4
        case rss4=>
        try simp only[Zset]
        refine ZbW (by kernel_rfl) (by kernel_rfl) rfl (by kernel_rfl) (fun K hK=>?_)
        go_simp
        refine(Zhs w3.drew (w.heap.size+1) (k+1) l b (by rw[HLL.out];omega) (HG3.below ((Below.refl _ _).drew)) (Zfj HOK.out _) HBO.out (by rw[HBE.out]) (by rw[HBE.out])).mono ?_
        rintro e w5 ⟨rfl,HGx,hg5⟩
        refine hK.out _ _ ?_
        have HG5:Hid (BAt w5 (w.heap.size+1) (stCs (l.set (k+1) (Zbf (l.getD (k+1) ah0) st sl))) 312):=hid (by have:=HGx.out;rw[HBE.out]at this;exact this)
        have HO5:=hid ((HO3.below ((Below.refl _ _).drew)).grown hg5 (by intro e;injection e with e;omega))
        have HC5:=hid ((HC3.below ((Below.refl _ _).drew)).grown hg5 (by intro e;injection e with e;omega))
        have HS5:Hid (StAt w5 (wr.heap.size+1) b):=hid ((HS3.below ((Below.refl _ _).drew)).grown hg5 (by intro e;injection e with e;omega))
        have HB5:Hid (Below w.heap.size w w5):=hid (ZbQ HB3.drew hg5 (by omega))
        clear hK K hHeld hg5 HGx o0 o1
        have o0:=HO5.cell 0
        have o1:=HO5.cell 1
        simp only[Zget]at o0 o1
        go_wp2
        go_roundw
        case rel=>exact⟨k+1,max mo sn,l.set (k+1) (Zbf (l.getD (k+1) ah0) st sl),by omega,by go_num,by first|rfl|go_num|(congr 1;omega),by omega,by rw[List.length_set];exact HLL.out,HPN,hid (HMO.out l (k+1) HOK.out),HG5,HC5,HB5⟩
        case measure=>simp[intOf];omega
  ·obtain rfl:k=n:=by omega
   have r3:=HCr.cell 3
   simp only[Zget]at r3
   have HHQ:Hid (ZcQ c=if Zeh (l.getD k ah0)then .ok mo else .error (12,k)):=hid (by
    unfold ZcQ
    rw[<-HN.out,HPQ.out])
   have hkz:(k:Int)<(k:Int)+1:=by omega
   have HAN:=hid (Zqa wr (w.heap.size+1) k l (by rw[HLL.out];omega) HGr.out)
   cases hia:Zeh (l.getD k ah0)with
   | true=>
    rw[hia]at HAN
    have HHO:Hid (ZcQ c=.ok mo):=hid (by rw[HHQ.out,hia];rfl)
    clear hia HHQ
    go_wp2_with fail
    refine HAN.mono ?_
    rintro e wq ⟨rfl,rfl⟩
    go_wp2
    go_ret2
    exact⟨_,_,rfl,hid (Zeb.mkOk HHO.out ⟨rfl,rfl⟩),HBr.out⟩
   | false=>
    rw[hia]at HAN
    have HHE:Hid (ZcQ c=.error (12,k)):=hid (by rw[HHQ.out,hia];rfl)
    clear hia HHQ
    go_wp2_with fail
    refine HAN.mono ?_
    rintro e wq ⟨rfl,rfl⟩
    have gs:wq.cell? ⟨11,0,none⟩=some (.iface 491 (.pointer (some (A 11)))):=(HP.v.below HBr.out).sent _ (by decide)
    go_wp2_with fail
    refine(ZgQ _ _ _).mono ?_
    rintro e w9 ⟨v,rfl,HE,hb9⟩
    have HB9:Hid (Below w.heap.size w w9):=hid (HBr.trans (hb9.mono HBr.size))
    obtain⟨fa,rfl,hf1,hf2⟩:=HE.out
    clear hb9 hf1 hf2
    go_wp2
    go_ret2
    exact⟨_,_,rfl,hid (Zeb.mkErr HHE.out ⟨rfl,rfl,HE.out⟩),HB9.out⟩
theorem Zoh(w:World)(c:CodeQ)(i op arg:Nat)(a0 a1 a2 a3:Option Addr)(e0 e1 e2 e3:Nat)(hop:op<=13)(harg:arg<65536) :
  Calls Tryz.prog 78 #[.agg #[.slice a0 c.consts.length e0,.slice a1 c.picks.length e1,.slice a2 c.groups.length e2,.slice a3 c.ins.length e3],.int .i64 i,.agg #[.int .i64 op,.int .i64 arg]] w fun e w'=>e=.returned (.bool (Z0 c i (op,arg)))/\Below w.heap.size w w':=by
 obtain⟨nc,hnc⟩:∃nc,nc=c.consts.length:=⟨_,rfl⟩
 obtain⟨np,hnp⟩:∃np,np=c.picks.length:=⟨_,rfl⟩
 obtain⟨ng,hng⟩:∃ng,ng=c.groups.length:=⟨_,rfl⟩
 obtain⟨ni,hni⟩:∃ni,ni=c.ins.length:=⟨_,rfl⟩
 rw[<-hnc,<-hnp,<-hng,<-hni]
 have HE:Hid (nc=c.consts.length/\np=c.picks.length/\ng=c.groups.length/\ni=c.ins.length):=hid ⟨hnc,hnp,hng,hni⟩
 clear hnc hnp hng hni
 rcases(by omega:op=0∨op=1∨op=2∨op=3∨op=4∨op=5∨op=6∨op=7∨op=8∨op=9∨op=10∨op=11∨op=12∨op=13)with rfl|rfl|rfl|rfl|rfl|rfl|rfl|rfl|rfl|rfl|rfl|rfl|rfl|rfl
 all_goals
  go_enter Tryz.func78,Tryz.ntmps78
  go_wp2
  all_goals
   go_ret
   refine⟨Zck ?_,(by repeat first|exact Below.refl _ _|assumption|refine Below.alloc ?_ ?_ _|refine Below.setCell ?_ ?_ _|refine Zg ?_ _|refine Below.drew ?_|omega|(simp;omega)|simp)⟩
   first
    | (simp only[Z0,<-HE.1,<-HE.2.1,<-HE.2.2.1,<-HE.2.2.2];done)
    | (simp only[Z0,<-HE.1,<-HE.2.1,<-HE.2.2.1,<-HE.2.2.2];rw[Bool.eq_iff_iff];simp;done)
    | (simp only[Z0,<-HE.1,<-HE.2.1,<-HE.2.2.1,<-HE.2.2.2];rw[Bool.eq_iff_iff];simp;omega)
theorem ZuG(w:World)(A:Nat->Addr)(m:Int)(c:CodeQ)(a0 a1 a2 a3:Option Addr)(n0 n1 n2 e0 e1 e2 e3:Nat)(h:HighP w A m c a0 a1 a2 a3 n0 n1 n2 e0 e1 e2 e3) :
  Calls Tryz.prog 81 #[.agg #[.slice a0 n0 e0,.slice a1 n1 e1,.slice a2 n2 e2,.slice a3 c.ins.length e3]] w fun e w'=>e=.returned (.int .i64 (Zdi c.ins:Nat))/\Below w.heap.size w w':=by
 have HP:=hid h
 have hln:=h.ln
 obtain⟨n,hn⟩:∃n,n=c.ins.length:=⟨_,rfl⟩
 rw[<-hn]at hln ⊢
 have HN:=hid hn
 clear h hn
 go_enter Tryz.func81,Tryz.ntmps81
 go_wp2
 go_loopw [3, 9] (fun sv iv wr => ∃ (k s : Nat), k <= n /\ iv = .int .i64 k /\ sv = .int .i64 s /\ s <= 65536 /\ Hid (s = Zdi (c.ins.take k)) /\ Hid (Below w.heap.size w wr))
   (fun _ iv _=>n - (intOf iv).toNat)
 case atStart=>exact⟨0,0,Nat.zero_le _,rfl,rfl,by decide,hid rfl,hid (by repeat first|exact Below.refl _ _|assumption|refine Below.alloc ?_ ?_ _|refine Below.setCell ?_ ?_ _|refine Zg ?_ _|refine Below.drew ?_|omega|(simp;omega)|simp)⟩
 case round=>
  obtain⟨k,s,hk,rfl,rfl,hs,HS,HBr⟩:=hrel
  by_cases hlt:k<n
  ·have hlz:(k:Int)<n:=by omega
   have hkn:k<c.ins.length:=by rw[<-HN.out];exact hlt
   have HIr:=hid (HP.cv.below HBr.out).is
   obtain⟨gi,cpi,hgi⟩:=ZV HIr.out (by omega)
   injection hgi with hgi1 hgi2 hgi3
   subst hgi1
   have i0c:=Zj HIr.out _ _ (ZeB c.ins k hkn).1
   have i1c:=Zj HIr.out _ _ (ZeB c.ins k hkn).2
   have hgil:=ZbX HIr.out
   have hop:=HP.op c.ins[k] (List.getElem_mem hkn)
   have HNX:Hid (Zdi (c.ins.take (k+1))=if ZeR c.ins[k].1 then max s (c.ins[k].2+1)else s):=hid (by rw[List.take_succ_eq_append_getElem hkn,ZuH,<-HS.out])
   generalize c.ins[k]=x at *
   obtain⟨op,arg⟩:=x
   simp only at i0c i1c HNX hop
   clear hgi2 hgi3 HIr
   go_wp2_with fail
   refine Zn fun W hW=>?_
   have hbW:Below wr.heap.size wr W:=by rw[hW];exact Zbal
   have HBW:Hid (Below w.heap.size w W):=hid (HBr.trans (hbW.mono HBr.size))
   have HOW:Hid (BAt W wr.heap.size [.int .i64 op,.int .i64 arg] 184):=hid (by rw[hW];exact Go.Deep.blk_alloc_new _ _)
   clear hW hbW i0c i1c
   refine(ZpQ op arg W).mono ?_
   rintro e w2 ⟨rfl,hb2⟩
   have HB2:Hid (Below w.heap.size w w2):=hid (HBW.trans (hb2.mono HBW.size))
   have HO2:=hid (HOW.below hb2)
   clear hb2 HOW HBW
   have o1:=HO2.cell 1
   simp only[Zget]at o1
   cases hh:ZeR op with
   | true=>
    have HNY:Hid (Zdi (c.ins.take (k+1))=max s (arg+1)):=hid (by rw[HNX.out,hh];rfl)
    clear hh HNX
    go_wp2
    go_roundw
    case rel=>exact⟨k+1,max s (arg+1),by omega,by go_num,by first|rfl|go_num|(congr 1;omega),by omega,hid HNY.symm,HB2⟩
    case measure=>simp[intOf];omega
   | false=>
    have HNY:Hid (Zdi (c.ins.take (k+1))=s):=hid (by rw[HNX.out,hh];rfl)
    clear hh HNX
    go_wp2
    go_roundw
    case rel=>exact⟨k+1,s,by omega,by go_num,rfl,hs,hid HNY.symm,HB2⟩
    case measure=>simp[intOf];omega
  ·obtain rfl:k=n:=by omega
   have HF:Hid (s=Zdi c.ins):=hid (by rw[HS.out,HN.out,List.take_length])
   go_wp2
   go_ret
   exact⟨Zi4 (by rw[HF.out]),HBr.out⟩
end Go.Proofs.YtkodhpilkaihjaaGreatDoor

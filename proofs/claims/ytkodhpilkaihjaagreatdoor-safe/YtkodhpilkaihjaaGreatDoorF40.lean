/- Parts. -/
import Derived.Test.YtkodhpilkaihjaaGreatDoorF39
import Derived.Test.YtkodhpilkaihjaaGreatDoorF02
import Derived.Test.YtkodhpilkaihjaaGreatDoorF33
set_option maxRecDepth 100000
set_option maxHeartbeats 16000000
namespace Go.Proofs.YtkodhpilkaihjaaGreatDoor
open Go.RowKit LS
def Zec(w:World)(A:Nat->Addr)(r:Except (Nat×Nat) (Nat×Nat))(v err:Value):Prop:=match r with
 | .ok x=>v=.agg #[.int .i64 x.1,.int .i64 x.2]/\err=.nilIface
 | .error x=>v=.agg #[.int .i64 0,.int .i64 0]/\((x.1=11/\Zca w err x.2 (A 10))∨(x.1=12/\Zca w err x.2 (A 11)))
theorem Zec.mkOk{w:World}{A:Nat->Addr}{r:Except (Nat×Nat) (Nat×Nat)}{v err:Value}{x:Nat×Nat}(hr:r=.ok x)(h:v=.agg #[.int .i64 x.1,.int .i64 x.2]/\err=.nilIface):Zec w A r v err:=by subst hr;exact h
theorem Zec.mkErr{w:World}{A:Nat->Addr}{r:Except (Nat×Nat) (Nat×Nat)}{v err:Value}{x:Nat×Nat}(hr:r=.error x)(h:v=.agg #[.int .i64 0,.int .i64 0]/\((x.1=11/\Zca w err x.2 (A 10))∨(x.1=12/\Zca w err x.2 (A 11)))):Zec w A r v err:=by subst hr;exact h
theorem Zgf{w0 w:World}{a:Nat}(h:Below w0.heap.size w0 w)(ha:w0.heap.size<=a)(x y:Value):Below w0.heap.size w0 (set2 w a x y):=
 (h.setCell (p:=⟨a,0,none⟩) ha _).setCell (p:=⟨a,1,none⟩) ha _
theorem Zkv{w:World}{v:Value}{p:Int}{a:Addr}(h:Zca w v p a){b:Nat}(hb:∀fa:Nat,v=.iface 115 (.pointer (some ⟨fa,0,none⟩))->fa≠b)(x y:Value):Zca (set2 w b x y) v p a:=by
 obtain⟨fa,h1,h2,h3⟩:=h
 have hne:=hb fa h1
 have e:(set2 w b x y).heap[fa]?=w.heap[fa]?:=Zja w b x y hne
 refine⟨fa,h1,?_,?_⟩
 ·unfold World.cell? at h2 ⊢;simp only at h2 ⊢;rw[e];exact h2
 ·unfold World.cell? at h3 ⊢;simp only at h3 ⊢;rw[e];exact h3
theorem Zmg{c:CodeQ} : ∀(k:Nat),ZbL c k=.ok ()->∀i,i<k->Z0 c i (c.ins.getD i (0,0))=true
 | 0,_,i,hi=>by omega
 | k + 1, h, i, hi => by
   unfold ZbL at h
   cases hk:ZbL c k with
   | error e=>rw[hk]at h;cases h
   | ok u=>
     rw[hk]at h
     simp only at h
     by_cases e:i=k
     · subst e
       cases hr:Z0 c i (c.ins.getD i (0,0))with
       | true=>rfl
       | false=>rw[hr]at h;cases h
     · exact Zmg k hk i (by omega)
structure LookP (w:World) (A:Nat->Addr) (m:Int) (c:CodeQ) (a0 a1 a2 a3:Option Addr) (e0 e1 e2 e3:Nat):Prop where
 v:Vars w A m
 n:20<=w.heap.size
 cv:CodeV w c (.slice a0 c.consts.length e0) (.slice a1 c.picks.length e1) (.slice a2 c.groups.length e2) (.slice a3 c.ins.length e3)
 ln:c.ins.length<=65535
 op:∀x∈c.ins,x.1<=13/\x.2<65536
theorem LookP.high{w w':World}{A:Nat->Addr}{m:Int}{c:CodeQ}{a0 a1 a2 a3:Option Addr}{e0 e1 e2 e3:Nat}(h:LookP w A m c a0 a1 a2 a3 e0 e1 e2 e3)(hb:Below w.heap.size w w')(hr:ZbL c c.ins.length=.ok ()):HighP w' A m c a0 a1 a2 a3 c.consts.length c.picks.length c.groups.length e0 e1 e2 e3:=
 ⟨h.v.below hb,Nat.le_trans h.n hb.size,h.cv.below hb,h.ln,fun i hi=>Zmg _ hr i hi,h.op⟩
theorem ZrO(w:World)(A:Nat->Addr)(m:Int)(c:CodeQ)(a0 a1 a2 a3:Option Addr)(e0 e1 e2 e3:Nat)(h:LookP w A m c a0 a1 a2 a3 e0 e1 e2 e3) :
  Calls Tryz.prog 39 #[.agg #[.slice a0 c.consts.length e0,.slice a1 c.picks.length e1,.slice a2 c.groups.length e2,.slice a3 c.ins.length e3]] w fun e w'=>∃v err,e=.returned (.tuple #[v,err])/\Hid (Zec w' A (Zcq c) v err)/\Below w.heap.size w w':=by
 have HP:=hid h
 have hln:=h.ln
 have HCB:Hid (∀(W:World) (i op arg:Nat),op<=13->arg<65536->Calls Tryz.prog 78 #[.agg #[.slice a0 c.consts.length e0,.slice a1 c.picks.length e1,.slice a2 c.groups.length e2,.slice a3 c.ins.length e3],.int .i64 i,.agg #[.int .i64 op,.int .i64 arg]] W _):=hid (fun W i op arg h1 h2=>Zoh W c i op arg a0 a1 a2 a3 e0 e1 e2 e3 h1 h2)
 have HHI:Hid (∀W,Below w.heap.size w W->ZbL c c.ins.length=.ok ()->Calls Tryz.prog 80 #[.agg #[.slice a0 c.consts.length e0,.slice a1 c.picks.length e1,.slice a2 c.groups.length e2,.slice a3 c.ins.length e3]] W _):=hid (fun W h1 h2=>ZpY W A m c a0 a1 a2 a3 _ _ _ e0 e1 e2 e3 (h.high h1 h2))
 have HSL:Hid (∀W,Below w.heap.size w W->ZbL c c.ins.length=.ok ()->Calls Tryz.prog 81 #[.agg #[.slice a0 c.consts.length e0,.slice a1 c.picks.length e1,.slice a2 c.groups.length e2,.slice a3 c.ins.length e3]] W _):=hid (fun W h1 h2=>ZuG W A m c a0 a1 a2 a3 _ _ _ e0 e1 e2 e3 (h.high h1 h2))
 obtain⟨n,hn⟩:∃n,n=c.ins.length:=⟨_,rfl⟩
 rw[<-hn]at hln HCB HHI HSL ⊢
 generalize c.consts.length=n0 at *
 generalize c.picks.length=n1 at *
 generalize c.groups.length=n2 at *
 have HN:=hid hn
 clear h hn
 go_enter Tryz.func39,Tryz.ntmps39
 go_wp2
 go_loopw [11] (fun iv wr => ∃ k : Nat, k <= n /\ iv = .int .i64 k /\ Hid (ZbL c k = .ok ()) /\ Hid (BAt wr w.heap.size [.slice a0 n0 e0, .slice a1 n1 e1, .slice a2 n2 e2, .slice a3 n e3] 58) /\ Hid (BAt wr (w.heap.size + 1) [.int .i64 0, .int .i64 0] 31) /\ Hid (Below w.heap.size w wr))
   (fun iv _=>n - (intOf iv).toNat)
 case atStart=>
  refine⟨0,Nat.zero_le _,rfl,hid rfl,hid ((Zbal.block _ (by simp)).trans (Go.Deep.blk_alloc_new _ _)),hid ?_,hid (by repeat first|exact Below.refl _ _|assumption|refine Below.alloc ?_ ?_ _|refine Below.setCell ?_ ?_ _|refine Zg ?_ _|refine Below.drew ?_|omega|(simp;omega)|simp)⟩
  have:=Go.Deep.blk_alloc_new (w.alloc (.cells #[.slice a0 n0 e0,.slice a1 n1 e1,.slice a2 n2 e2,.slice a3 n e3] 58)) (.cells #[.int .i64 0,.int .i64 0] 31)
  rwa [Go.Deep.nblk_alloc]at this
 case round=>
  obtain⟨k,hk,rfl,HRT,HCr,HNr,HBr⟩:=hrel
  have q0:=HCr.cell 0
  have q1:=HCr.cell 1
  have q2:=HCr.cell 2
  have q3:=HCr.cell 3
  simp only[Zget]at q0 q1 q2 q3
  have hcl:=HCr.lt
  have hnl:=HNr.lt
  by_cases hlt:k<n
  ·have hlz:(k:Int)<n:=by omega
   have hkn:k<c.ins.length:=by rw[<-HN.out];exact hlt
   have HIr:=hid (HP.cv.below HBr.out).is
   obtain⟨gi,cpi,hgi⟩:=ZV HIr.out (by omega)
   injection hgi with hgi1 hgi2 hgi3
   subst hgi1
   have i0c:=Zj HIr.out _ _ (ZeB c.ins k hkn).1
   have i1c:=Zj HIr.out _ _ (ZeB c.ins k hkn).2
   have hgil:=ZbX HIr.out
   have hop:=HP.op c.ins[k] (List.getElem_mem hkn)
   have HNX:Hid (ZbL c (k+1)=if Z0 c k c.ins[k] then .ok ()else .error (11,k)):=hid (by
    show(match ZbL c k with|.error e=>_|.ok _=>_)=_
    rw[HRT.out]
    simp only
    rw[List.getD_eq_getElem?_getD,List.getElem?_eq_getElem hkn];rfl)
   generalize c.ins[k]=x at *
   obtain⟨op,arg⟩:=x
   simp only at i0c i1c HNX hop
   clear hgi2 hgi3 HIr
   go_wp2_with fail
   refine Zn fun W hW=>?_
   have hbW:Below wr.heap.size wr W:=by rw[hW];exact Zbal
   have HBW:Hid (Below w.heap.size w W):=hid (HBr.trans (hbW.mono HBr.size))
   have HCW:=hid (HCr.below hbW)
   have HNW:=hid (HNr.below hbW)
   clear hW hbW i0c i1c HCr HNr HBr q0 q1 q2 q3
   refine(HCB.out W k op arg hop.1 hop.2).mono ?_
   rintro e w2 ⟨rfl,hb2⟩
   have HB2:Hid (Below w.heap.size w w2):=hid (HBW.trans (hb2.mono HBW.size))
   have HC2:=hid (HCW.below hb2)
   have HN2:=hid (HNW.below hb2)
   clear hb2 HCW HNW HBW
   cases hh:Z0 c k (op,arg)with
   | true=>
    have HNY:Hid (ZbL c (k+1)=.ok ()):=hid (by rw[HNX.out,hh];rfl)
    clear hh HNX
    go_wp2
    go_roundw
    case rel=>exact⟨k+1,by omega,by go_num,HNY,HC2,HN2,HB2⟩
    case measure=>simp[intOf];omega
   | false=>
    have HVE:Hid (Zcq c=.error (11,k)):=hid (by
     unfold Zcq
     rw[ZtW (k:=k+1) (e:=(11,k)) (by rw[HNX.out,hh];rfl) _ (by omega)])
    have gs:w2.cell? ⟨10,0,none⟩=some (.iface 491 (.pointer (some (A 10)))):=(HP.v.below HB2.out).sent _ (by decide)
    clear hh HNX
    go_wp2_with fail
    refine(ZgQ _ _ _).mono ?_
    rintro e w9 ⟨v,rfl,HE,hb9⟩
    have HB9:Hid (Below w.heap.size w w9):=hid (HB2.trans (hb9.mono HB2.size))
    have HN9:=hid (HN2.below hb9)
    clear hb9
    obtain⟨fa,rfl,hf1,hf2⟩:=HE.out
    have HFN : Hid (∀ fb : Nat, Value.iface 115 (.pointer (some ⟨fa, 0, none⟩)) = .iface 115 (.pointer (some ⟨fb, 0, none⟩)) -> fb ≠ w.heap.size + 1) := hid (fun fb e1 e2 => by
      injection e1 with _ e1;injection e1 with e1;injection e1 with e1;injection e1 with e1;subst e1;subst e2
      rw[HN9.cell 2]at hf2;cases hf2)
    clear hf1 hf2
    have f0:=HN9.frozen 0
    have f1:=HN9.frozen 1
    have z0:=HN9.cell 0
    have z1:=HN9.cell 1
    simp only[Zget]at z0 z1
    go_wp2
    change bodyPost _ _ _ _ _ (set2 w9 (w.heap.size+1) (.int .i64 0) (.int .i64 0))
    have st:=Zds HN9.out (x:=.int .i64 0) (y:=.int .i64 0)
    have s0:=st.cell 0
    have s1:=st.cell 1
    simp only[Zget]at s0 s1
    have HBX:=hid (Zgf (w0:=w) (a:=w.heap.size+1) HB9.out (Nat.le_succ _) (.int .i64 0) (.int .i64 0))
    have HE2:=hid (Zkv HE.out HFN.out (.int .i64 0) (.int .i64 0))
    generalize set2 w9 (w.heap.size+1) (.int .i64 0) (.int .i64 0)=WX at *
    exact bodyPost_ret (v:=.tuple #[.agg #[.int .i64 0,.int .i64 0],.iface 115 (.pointer (some ⟨fa,0,none⟩))]) (by simp[results,Tryz.results39,go_sem,s0,s1]) rfl ⟨_,_,rfl,hid (Zec.mkErr HVE.out ⟨rfl,Or.inl ⟨rfl,HE2.out⟩⟩),HBX.out⟩
  ·obtain rfl:k=n:=by omega
   have HRA:Hid (ZbL c c.ins.length=.ok ()):=hid (by rw[<-HN.out];exact HRT.out)
   go_wp2_with fail
   refine(HHI.out wr HBr.out HRT.out).mono ?_
   rintro e w5 ⟨v,err,rfl,HHC,hb5⟩
   have HB5:Hid (Below w.heap.size w w5):=hid (HBr.trans (hb5.mono HBr.size))
   have HC5:=hid (HCr.below hb5)
   have HN5:=hid (HNr.below hb5)
   clear hb5 HCr HNr q0 q1 q2 q3
   cases hq:ZcQ c with
   | error x=>
    rw[hq]at HHC
    obtain⟨rfl,hx,he⟩:=HHC.out
    have HVE:Hid (Zcq c=.error x):=hid (by unfold Zcq;rw[HRA.out];simp only;rw[hq])
    have HE:=hid he
    have HXE:=hid hx
    clear HHC hq he hx
    obtain⟨fa,rfl,hf1,hf2⟩:=HE.out
    have HFN : Hid (∀ fb : Nat, Value.iface 115 (.pointer (some ⟨fa, 0, none⟩)) = .iface 115 (.pointer (some ⟨fb, 0, none⟩)) -> fb ≠ w.heap.size + 1) := hid (fun fb e1 e2 => by
      injection e1 with _ e1;injection e1 with e1;injection e1 with e1;injection e1 with e1;subst e1;subst e2
      rw[HN5.cell 2]at hf2;cases hf2)
    clear hf1 hf2
    have f0:=HN5.frozen 0
    have f1:=HN5.frozen 1
    have z0:=HN5.cell 0
    have z1:=HN5.cell 1
    simp only[Zget]at z0 z1
    go_wp2
    change bodyPost _ _ _ _ _ (set2 w5 (w.heap.size+1) (.int .i64 0) (.int .i64 0))
    have st:=Zds HN5.out (x:=.int .i64 0) (y:=.int .i64 0)
    have s0:=st.cell 0
    have s1:=st.cell 1
    simp only[Zget]at s0 s1
    have HBX:=hid (Zgf (w0:=w) (a:=w.heap.size+1) HB5.out (Nat.le_succ _) (.int .i64 0) (.int .i64 0))
    have HE2:=hid (Zkv HE.out HFN.out (.int .i64 0) (.int .i64 0))
    generalize set2 w5 (w.heap.size+1) (.int .i64 0) (.int .i64 0)=WX at *
    exact bodyPost_ret (v:=.tuple #[.agg #[.int .i64 0,.int .i64 0],.iface 115 (.pointer (some ⟨fa,0,none⟩))]) (by simp[results,Tryz.results39,go_sem,s0,s1]) rfl ⟨_,_,rfl,hid (Zec.mkErr HVE.out ⟨rfl,Or.inr ⟨HXE.out,HE2.out⟩⟩),HBX.out⟩
   | ok mm=>
    rw[hq]at HHC
    obtain⟨rfl,rfl⟩:=HHC.out
    have HVE:Hid (Zcq c=.ok (mm,Zdi c.ins)):=hid (by unfold Zcq;rw[HRA.out];simp only;rw[hq])
    clear HHC hq
    have q0:=HC5.cell 0
    have q1:=HC5.cell 1
    have q2:=HC5.cell 2
    have q3:=HC5.cell 3
    simp only[Zget]at q0 q1 q2 q3
    go_wp2_with fail
    refine(HSL.out w5 HB5.out HRT.out).mono ?_
    rintro e w6 ⟨rfl,hb6⟩
    have HB6:Hid (Below w.heap.size w w6):=hid (HB5.trans (hb6.mono HB5.size))
    have HN6:=hid (HN5.below hb6)
    clear hb6 q0 q1 q2 q3
    generalize Zdi c.ins=sn at *
    have f0:=HN6.frozen 0
    have f1:=HN6.frozen 1
    have z0:=HN6.cell 0
    have z1:=HN6.cell 1
    simp only[Zget]at z0 z1
    go_wp2
    change bodyPost _ _ _ _ _ (set2 w6 (w.heap.size+1) (.int .i64 mm) (.int .i64 sn))
    have st:=Zds HN6.out (x:=.int .i64 mm) (y:=.int .i64 sn)
    have s0:=st.cell 0
    have s1:=st.cell 1
    simp only[Zget]at s0 s1
    have HBX:=hid (Zgf (w0:=w) (a:=w.heap.size+1) HB6.out (Nat.le_succ _) (.int .i64 mm) (.int .i64 sn))
    generalize set2 w6 (w.heap.size+1) (.int .i64 mm) (.int .i64 sn)=WX at *
    exact bodyPost_ret (v:=.tuple #[.agg #[.int .i64 mm,.int .i64 sn],.nilIface]) (by simp[results,Tryz.results39,go_sem,s0,s1]) rfl ⟨_,_,rfl,hid (Zec.mkOk HVE.out ⟨rfl,rfl⟩),HBX.out⟩
theorem Zso(A:Nat->Addr)(m:Int)(w:World)(hv:Vars w A m)(fa:Nat)(hw:w.cell? ⟨fa,2,none⟩=some (.iface 491 (.pointer (some (A 8))))) :
  Calls Tryz.prog 22 #[.iface 115 (.pointer (some ⟨fa,0,none⟩))] w fun e w'=>e=.returned (.int .i64 9)/\w'=w:=by
 have vLong:=hv.sent 0 (by decide)
 have vSyntax:=hv.sent 1 (by decide)
 have vDeep:=hv.sent 2 (by decide)
 have vType:=hv.sent 3 (by decide)
 have vStore:=hv.sent 4 (by decide)
 have vTwice:=hv.sent 5 (by decide)
 have vMany:=hv.sent 6 (by decide)
 have vTimes:=hv.sent 7 (by decide)
 have vCode:=hv.sent 8 (by decide)
 obtain⟨cLong,ZX,rLong⟩:=hv.row 0 (by decide)
 obtain⟨cSyntax,ZR,rSyntax⟩:=hv.row 1 (by decide)
 obtain⟨cDeep,ZW,rDeep⟩:=hv.row 2 (by decide)
 obtain⟨cType,Z1,rType⟩:=hv.row 3 (by decide)
 obtain⟨cStore,Z2,rStore⟩:=hv.row 4 (by decide)
 obtain⟨cTwice,Z5,rTwice⟩:=hv.row 5 (by decide)
 obtain⟨cMany,Z9,rMany⟩:=hv.row 6 (by decide)
 obtain⟨cTimes,Zbb,rTimes⟩:=hv.row 7 (by decide)
 obtain⟨cCode,Zbe,rCode⟩:=hv.row 8 (by decide)
 go_enter Tryz.func22,Tryz.ntmps22
 go_wp2_with fail
 refine(ZJ fa (A 0) (A 8) cCode cLong Zbe ZX _ hw (hv.apart _ (by decide) _ (by decide) (by decide)) rCode rLong).mono ?_
 rintro e w' ⟨rfl,rfl⟩
 go_wp2_with fail
 refine(ZJ fa (A 1) (A 8) cCode cSyntax Zbe ZR _ hw (hv.apart _ (by decide) _ (by decide) (by decide)) rCode rSyntax).mono ?_
 rintro e w' ⟨rfl,rfl⟩
 go_wp2_with fail
 refine(ZJ fa (A 2) (A 8) cCode cDeep Zbe ZW _ hw (hv.apart _ (by decide) _ (by decide) (by decide)) rCode rDeep).mono ?_
 rintro e w' ⟨rfl,rfl⟩
 go_wp2_with fail
 refine(ZJ fa (A 3) (A 8) cCode cType Zbe Z1 _ hw (hv.apart _ (by decide) _ (by decide) (by decide)) rCode rType).mono ?_
 rintro e w' ⟨rfl,rfl⟩
 go_wp2_with fail
 refine(ZJ fa (A 4) (A 8) cCode cStore Zbe Z2 _ hw (hv.apart _ (by decide) _ (by decide) (by decide)) rCode rStore).mono ?_
 rintro e w' ⟨rfl,rfl⟩
 go_wp2_with fail
 refine(ZJ fa (A 5) (A 8) cCode cTwice Zbe Z5 _ hw (hv.apart _ (by decide) _ (by decide) (by decide)) rCode rTwice).mono ?_
 rintro e w' ⟨rfl,rfl⟩
 go_wp2_with fail
 refine(ZJ fa (A 6) (A 8) cCode cMany Zbe Z9 _ hw (hv.apart _ (by decide) _ (by decide) (by decide)) rCode rMany).mono ?_
 rintro e w' ⟨rfl,rfl⟩
 go_wp2_with fail
 refine(ZJ fa (A 7) (A 8) cCode cTimes Zbe Zbb _ hw (hv.apart _ (by decide) _ (by decide) (by decide)) rCode rTimes).mono ?_
 rintro e w' ⟨rfl,rfl⟩
 go_wp2_with fail
 refine(ZeT fa (A 8) _ hw).mono ?_
 rintro e w' ⟨rfl,rfl⟩
 go_wp2
 go_ret
 exact⟨rfl,rfl⟩
theorem Zss(A:Nat->Addr)(m:Int)(w:World)(hv:Vars w A m) :
  Calls Tryz.prog 22 #[.iface 491 (.pointer (some (A 9)))] w fun e w'=>e=.returned (.int .i64 10)/\w'=w:=by
 have vLong:=hv.sent 0 (by decide)
 have vSyntax:=hv.sent 1 (by decide)
 have vDeep:=hv.sent 2 (by decide)
 have vType:=hv.sent 3 (by decide)
 have vStore:=hv.sent 4 (by decide)
 have vTwice:=hv.sent 5 (by decide)
 have vMany:=hv.sent 6 (by decide)
 have vTimes:=hv.sent 7 (by decide)
 have vCode:=hv.sent 8 (by decide)
 have vSum:=hv.sent 9 (by decide)
 obtain⟨cLong,ZX,rLong⟩:=hv.row 0 (by decide)
 obtain⟨cSyntax,ZR,rSyntax⟩:=hv.row 1 (by decide)
 obtain⟨cDeep,ZW,rDeep⟩:=hv.row 2 (by decide)
 obtain⟨cType,Z1,rType⟩:=hv.row 3 (by decide)
 obtain⟨cStore,Z2,rStore⟩:=hv.row 4 (by decide)
 obtain⟨cTwice,Z5,rTwice⟩:=hv.row 5 (by decide)
 obtain⟨cMany,Z9,rMany⟩:=hv.row 6 (by decide)
 obtain⟨cTimes,Zbb,rTimes⟩:=hv.row 7 (by decide)
 obtain⟨cCode,Zbe,rCode⟩:=hv.row 8 (by decide)
 obtain⟨cSum,tSum,rSum⟩:=hv.row 9 (by decide)
 go_enter Tryz.func22,Tryz.ntmps22
 go_wp2_with fail
 refine(ZT (A 9) (A 0) cSum cLong tSum ZX _ (hv.apart _ (by decide) _ (by decide) (by decide)) rSum rLong).mono ?_
 rintro e w' ⟨rfl,rfl⟩
 go_wp2_with fail
 refine(ZT (A 9) (A 1) cSum cSyntax tSum ZR _ (hv.apart _ (by decide) _ (by decide) (by decide)) rSum rSyntax).mono ?_
 rintro e w' ⟨rfl,rfl⟩
 go_wp2_with fail
 refine(ZT (A 9) (A 2) cSum cDeep tSum ZW _ (hv.apart _ (by decide) _ (by decide) (by decide)) rSum rDeep).mono ?_
 rintro e w' ⟨rfl,rfl⟩
 go_wp2_with fail
 refine(ZT (A 9) (A 3) cSum cType tSum Z1 _ (hv.apart _ (by decide) _ (by decide) (by decide)) rSum rType).mono ?_
 rintro e w' ⟨rfl,rfl⟩
 go_wp2_with fail
 refine(ZT (A 9) (A 4) cSum cStore tSum Z2 _ (hv.apart _ (by decide) _ (by decide) (by decide)) rSum rStore).mono ?_
 rintro e w' ⟨rfl,rfl⟩
 go_wp2_with fail
 refine(ZT (A 9) (A 5) cSum cTwice tSum Z5 _ (hv.apart _ (by decide) _ (by decide) (by decide)) rSum rTwice).mono ?_
 rintro e w' ⟨rfl,rfl⟩
 go_wp2_with fail
 refine(ZT (A 9) (A 6) cSum cMany tSum Z9 _ (hv.apart _ (by decide) _ (by decide) (by decide)) rSum rMany).mono ?_
 rintro e w' ⟨rfl,rfl⟩
 go_wp2_with fail
 refine(ZT (A 9) (A 7) cSum cTimes tSum Zbb _ (hv.apart _ (by decide) _ (by decide) (by decide)) rSum rTimes).mono ?_
 rintro e w' ⟨rfl,rfl⟩
 go_wp2_with fail
 refine(ZT (A 9) (A 8) cSum cCode tSum Zbe _ (hv.apart _ (by decide) _ (by decide) (by decide)) rSum rCode).mono ?_
 rintro e w' ⟨rfl,rfl⟩
 go_wp2_with fail
 refine(Zfl (A 9) _).mono ?_
 rintro e w' ⟨rfl,rfl⟩
 go_wp2
 go_ret
 exact⟨rfl,rfl⟩
theorem Zsq(A:Nat->Addr)(m:Int)(w:World)(hv:Vars w A m)(fa:Nat)(hw:w.cell? ⟨fa,2,none⟩=some (.iface 491 (.pointer (some (A 10))))) :
  Calls Tryz.prog 22 #[.iface 115 (.pointer (some ⟨fa,0,none⟩))] w fun e w'=>e=.returned (.int .i64 11)/\w'=w:=by
 have vLong:=hv.sent 0 (by decide)
 have vSyntax:=hv.sent 1 (by decide)
 have vDeep:=hv.sent 2 (by decide)
 have vType:=hv.sent 3 (by decide)
 have vStore:=hv.sent 4 (by decide)
 have vTwice:=hv.sent 5 (by decide)
 have vMany:=hv.sent 6 (by decide)
 have vTimes:=hv.sent 7 (by decide)
 have vCode:=hv.sent 8 (by decide)
 have vSum:=hv.sent 9 (by decide)
 have vRefer:=hv.sent 10 (by decide)
 obtain⟨cLong,ZX,rLong⟩:=hv.row 0 (by decide)
 obtain⟨cSyntax,ZR,rSyntax⟩:=hv.row 1 (by decide)
 obtain⟨cDeep,ZW,rDeep⟩:=hv.row 2 (by decide)
 obtain⟨cType,Z1,rType⟩:=hv.row 3 (by decide)
 obtain⟨cStore,Z2,rStore⟩:=hv.row 4 (by decide)
 obtain⟨cTwice,Z5,rTwice⟩:=hv.row 5 (by decide)
 obtain⟨cMany,Z9,rMany⟩:=hv.row 6 (by decide)
 obtain⟨cTimes,Zbb,rTimes⟩:=hv.row 7 (by decide)
 obtain⟨cCode,Zbe,rCode⟩:=hv.row 8 (by decide)
 obtain⟨cSum,tSum,rSum⟩:=hv.row 9 (by decide)
 obtain⟨cRefer,Zbl,rRefer⟩:=hv.row 10 (by decide)
 go_enter Tryz.func22,Tryz.ntmps22
 go_wp2_with fail
 refine(ZJ fa (A 0) (A 10) cRefer cLong Zbl ZX _ hw (hv.apart _ (by decide) _ (by decide) (by decide)) rRefer rLong).mono ?_
 rintro e w' ⟨rfl,rfl⟩
 go_wp2_with fail
 refine(ZJ fa (A 1) (A 10) cRefer cSyntax Zbl ZR _ hw (hv.apart _ (by decide) _ (by decide) (by decide)) rRefer rSyntax).mono ?_
 rintro e w' ⟨rfl,rfl⟩
 go_wp2_with fail
 refine(ZJ fa (A 2) (A 10) cRefer cDeep Zbl ZW _ hw (hv.apart _ (by decide) _ (by decide) (by decide)) rRefer rDeep).mono ?_
 rintro e w' ⟨rfl,rfl⟩
 go_wp2_with fail
 refine(ZJ fa (A 3) (A 10) cRefer cType Zbl Z1 _ hw (hv.apart _ (by decide) _ (by decide) (by decide)) rRefer rType).mono ?_
 rintro e w' ⟨rfl,rfl⟩
 go_wp2_with fail
 refine(ZJ fa (A 4) (A 10) cRefer cStore Zbl Z2 _ hw (hv.apart _ (by decide) _ (by decide) (by decide)) rRefer rStore).mono ?_
 rintro e w' ⟨rfl,rfl⟩
 go_wp2_with fail
 refine(ZJ fa (A 5) (A 10) cRefer cTwice Zbl Z5 _ hw (hv.apart _ (by decide) _ (by decide) (by decide)) rRefer rTwice).mono ?_
 rintro e w' ⟨rfl,rfl⟩
 go_wp2_with fail
 refine(ZJ fa (A 6) (A 10) cRefer cMany Zbl Z9 _ hw (hv.apart _ (by decide) _ (by decide) (by decide)) rRefer rMany).mono ?_
 rintro e w' ⟨rfl,rfl⟩
 go_wp2_with fail
 refine(ZJ fa (A 7) (A 10) cRefer cTimes Zbl Zbb _ hw (hv.apart _ (by decide) _ (by decide) (by decide)) rRefer rTimes).mono ?_
 rintro e w' ⟨rfl,rfl⟩
 go_wp2_with fail
 refine(ZJ fa (A 8) (A 10) cRefer cCode Zbl Zbe _ hw (hv.apart _ (by decide) _ (by decide) (by decide)) rRefer rCode).mono ?_
 rintro e w' ⟨rfl,rfl⟩
 go_wp2_with fail
 refine(ZJ fa (A 9) (A 10) cRefer cSum Zbl tSum _ hw (hv.apart _ (by decide) _ (by decide) (by decide)) rRefer rSum).mono ?_
 rintro e w' ⟨rfl,rfl⟩
 go_wp2_with fail
 refine(ZeT fa (A 10) _ hw).mono ?_
 rintro e w' ⟨rfl,rfl⟩
 go_wp2
 go_ret
 exact⟨rfl,rfl⟩
theorem Zsr(A:Nat->Addr)(m:Int)(w:World)(hv:Vars w A m)(fa:Nat)(hw:w.cell? ⟨fa,2,none⟩=some (.iface 491 (.pointer (some (A 11))))) :
  Calls Tryz.prog 22 #[.iface 115 (.pointer (some ⟨fa,0,none⟩))] w fun e w'=>e=.returned (.int .i64 12)/\w'=w:=by
 have vLong:=hv.sent 0 (by decide)
 have vSyntax:=hv.sent 1 (by decide)
 have vDeep:=hv.sent 2 (by decide)
 have vType:=hv.sent 3 (by decide)
 have vStore:=hv.sent 4 (by decide)
 have vTwice:=hv.sent 5 (by decide)
 have vMany:=hv.sent 6 (by decide)
 have vTimes:=hv.sent 7 (by decide)
 have vCode:=hv.sent 8 (by decide)
 have vSum:=hv.sent 9 (by decide)
 have vRefer:=hv.sent 10 (by decide)
 have vStack:=hv.sent 11 (by decide)
 obtain⟨cLong,ZX,rLong⟩:=hv.row 0 (by decide)
 obtain⟨cSyntax,ZR,rSyntax⟩:=hv.row 1 (by decide)
 obtain⟨cDeep,ZW,rDeep⟩:=hv.row 2 (by decide)
 obtain⟨cType,Z1,rType⟩:=hv.row 3 (by decide)
 obtain⟨cStore,Z2,rStore⟩:=hv.row 4 (by decide)
 obtain⟨cTwice,Z5,rTwice⟩:=hv.row 5 (by decide)
 obtain⟨cMany,Z9,rMany⟩:=hv.row 6 (by decide)
 obtain⟨cTimes,Zbb,rTimes⟩:=hv.row 7 (by decide)
 obtain⟨cCode,Zbe,rCode⟩:=hv.row 8 (by decide)
 obtain⟨cSum,tSum,rSum⟩:=hv.row 9 (by decide)
 obtain⟨cRefer,Zbl,rRefer⟩:=hv.row 10 (by decide)
 obtain⟨cStack,Zbm,rStack⟩:=hv.row 11 (by decide)
 go_enter Tryz.func22,Tryz.ntmps22
 go_wp2_with fail
 refine(ZJ fa (A 0) (A 11) cStack cLong Zbm ZX _ hw (hv.apart _ (by decide) _ (by decide) (by decide)) rStack rLong).mono ?_
 rintro e w' ⟨rfl,rfl⟩
 go_wp2_with fail
 refine(ZJ fa (A 1) (A 11) cStack cSyntax Zbm ZR _ hw (hv.apart _ (by decide) _ (by decide) (by decide)) rStack rSyntax).mono ?_
 rintro e w' ⟨rfl,rfl⟩
 go_wp2_with fail
 refine(ZJ fa (A 2) (A 11) cStack cDeep Zbm ZW _ hw (hv.apart _ (by decide) _ (by decide) (by decide)) rStack rDeep).mono ?_
 rintro e w' ⟨rfl,rfl⟩
 go_wp2_with fail
 refine(ZJ fa (A 3) (A 11) cStack cType Zbm Z1 _ hw (hv.apart _ (by decide) _ (by decide) (by decide)) rStack rType).mono ?_
 rintro e w' ⟨rfl,rfl⟩
 go_wp2_with fail
 refine(ZJ fa (A 4) (A 11) cStack cStore Zbm Z2 _ hw (hv.apart _ (by decide) _ (by decide) (by decide)) rStack rStore).mono ?_
 rintro e w' ⟨rfl,rfl⟩
 go_wp2_with fail
 refine(ZJ fa (A 5) (A 11) cStack cTwice Zbm Z5 _ hw (hv.apart _ (by decide) _ (by decide) (by decide)) rStack rTwice).mono ?_
 rintro e w' ⟨rfl,rfl⟩
 go_wp2_with fail
 refine(ZJ fa (A 6) (A 11) cStack cMany Zbm Z9 _ hw (hv.apart _ (by decide) _ (by decide) (by decide)) rStack rMany).mono ?_
 rintro e w' ⟨rfl,rfl⟩
 go_wp2_with fail
 refine(ZJ fa (A 7) (A 11) cStack cTimes Zbm Zbb _ hw (hv.apart _ (by decide) _ (by decide) (by decide)) rStack rTimes).mono ?_
 rintro e w' ⟨rfl,rfl⟩
 go_wp2_with fail
 refine(ZJ fa (A 8) (A 11) cStack cCode Zbm Zbe _ hw (hv.apart _ (by decide) _ (by decide) (by decide)) rStack rCode).mono ?_
 rintro e w' ⟨rfl,rfl⟩
 go_wp2_with fail
 refine(ZJ fa (A 9) (A 11) cStack cSum Zbm tSum _ hw (hv.apart _ (by decide) _ (by decide) (by decide)) rStack rSum).mono ?_
 rintro e w' ⟨rfl,rfl⟩
 go_wp2_with fail
 refine(ZJ fa (A 10) (A 11) cStack cRefer Zbm Zbl _ hw (hv.apart _ (by decide) _ (by decide) (by decide)) rStack rRefer).mono ?_
 rintro e w' ⟨rfl,rfl⟩
 go_wp2_with fail
 refine(ZeT fa (A 11) _ hw).mono ?_
 rintro e w' ⟨rfl,rfl⟩
 go_wp2
 go_ret
 exact⟨rfl,rfl⟩
theorem Zsp(A:Nat->Addr)(m:Int)(w:World)(hv:Vars w A m) :
  Calls Tryz.prog 22 #[.iface 491 (.pointer (some (A 12)))] w fun e w'=>e=.returned (.int .i64 13)/\w'=w:=by
 have vLong:=hv.sent 0 (by decide)
 have vSyntax:=hv.sent 1 (by decide)
 have vDeep:=hv.sent 2 (by decide)
 have vType:=hv.sent 3 (by decide)
 have vStore:=hv.sent 4 (by decide)
 have vTwice:=hv.sent 5 (by decide)
 have vMany:=hv.sent 6 (by decide)
 have vTimes:=hv.sent 7 (by decide)
 have vCode:=hv.sent 8 (by decide)
 have vSum:=hv.sent 9 (by decide)
 have vRefer:=hv.sent 10 (by decide)
 have vStack:=hv.sent 11 (by decide)
 have vFuel:=hv.sent 12 (by decide)
 obtain⟨cLong,ZX,rLong⟩:=hv.row 0 (by decide)
 obtain⟨cSyntax,ZR,rSyntax⟩:=hv.row 1 (by decide)
 obtain⟨cDeep,ZW,rDeep⟩:=hv.row 2 (by decide)
 obtain⟨cType,Z1,rType⟩:=hv.row 3 (by decide)
 obtain⟨cStore,Z2,rStore⟩:=hv.row 4 (by decide)
 obtain⟨cTwice,Z5,rTwice⟩:=hv.row 5 (by decide)
 obtain⟨cMany,Z9,rMany⟩:=hv.row 6 (by decide)
 obtain⟨cTimes,Zbb,rTimes⟩:=hv.row 7 (by decide)
 obtain⟨cCode,Zbe,rCode⟩:=hv.row 8 (by decide)
 obtain⟨cSum,tSum,rSum⟩:=hv.row 9 (by decide)
 obtain⟨cRefer,Zbl,rRefer⟩:=hv.row 10 (by decide)
 obtain⟨cStack,Zbm,rStack⟩:=hv.row 11 (by decide)
 obtain⟨cFuel,Zbr,rFuel⟩:=hv.row 12 (by decide)
 go_enter Tryz.func22,Tryz.ntmps22
 go_wp2_with fail
 refine(ZT (A 12) (A 0) cFuel cLong Zbr ZX _ (hv.apart _ (by decide) _ (by decide) (by decide)) rFuel rLong).mono ?_
 rintro e w' ⟨rfl,rfl⟩
 go_wp2_with fail
 refine(ZT (A 12) (A 1) cFuel cSyntax Zbr ZR _ (hv.apart _ (by decide) _ (by decide) (by decide)) rFuel rSyntax).mono ?_
 rintro e w' ⟨rfl,rfl⟩
 go_wp2_with fail
 refine(ZT (A 12) (A 2) cFuel cDeep Zbr ZW _ (hv.apart _ (by decide) _ (by decide) (by decide)) rFuel rDeep).mono ?_
 rintro e w' ⟨rfl,rfl⟩
 go_wp2_with fail
 refine(ZT (A 12) (A 3) cFuel cType Zbr Z1 _ (hv.apart _ (by decide) _ (by decide) (by decide)) rFuel rType).mono ?_
 rintro e w' ⟨rfl,rfl⟩
 go_wp2_with fail
 refine(ZT (A 12) (A 4) cFuel cStore Zbr Z2 _ (hv.apart _ (by decide) _ (by decide) (by decide)) rFuel rStore).mono ?_
 rintro e w' ⟨rfl,rfl⟩
 go_wp2_with fail
 refine(ZT (A 12) (A 5) cFuel cTwice Zbr Z5 _ (hv.apart _ (by decide) _ (by decide) (by decide)) rFuel rTwice).mono ?_
 rintro e w' ⟨rfl,rfl⟩
 go_wp2_with fail
 refine(ZT (A 12) (A 6) cFuel cMany Zbr Z9 _ (hv.apart _ (by decide) _ (by decide) (by decide)) rFuel rMany).mono ?_
 rintro e w' ⟨rfl,rfl⟩
 go_wp2_with fail
 refine(ZT (A 12) (A 7) cFuel cTimes Zbr Zbb _ (hv.apart _ (by decide) _ (by decide) (by decide)) rFuel rTimes).mono ?_
 rintro e w' ⟨rfl,rfl⟩
 go_wp2_with fail
 refine(ZT (A 12) (A 8) cFuel cCode Zbr Zbe _ (hv.apart _ (by decide) _ (by decide) (by decide)) rFuel rCode).mono ?_
 rintro e w' ⟨rfl,rfl⟩
 go_wp2_with fail
 refine(ZT (A 12) (A 9) cFuel cSum Zbr tSum _ (hv.apart _ (by decide) _ (by decide) (by decide)) rFuel rSum).mono ?_
 rintro e w' ⟨rfl,rfl⟩
 go_wp2_with fail
 refine(ZT (A 12) (A 10) cFuel cRefer Zbr Zbl _ (hv.apart _ (by decide) _ (by decide) (by decide)) rFuel rRefer).mono ?_
 rintro e w' ⟨rfl,rfl⟩
 go_wp2_with fail
 refine(ZT (A 12) (A 11) cFuel cStack Zbr Zbm _ (hv.apart _ (by decide) _ (by decide) (by decide)) rFuel rStack).mono ?_
 rintro e w' ⟨rfl,rfl⟩
 go_wp2_with fail
 refine(Zfl (A 12) _).mono ?_
 rintro e w' ⟨rfl,rfl⟩
 go_wp2
 go_ret
 exact⟨rfl,rfl⟩
theorem ZeW{α:Type}{one:Nat->RdR α}{p:Nat}{P:α->Prop}(h1:∀p x,one p=.ok x->P x.1):∀ {k:Nat} {xs:List α} {q:Nat},many one p k=.ok (xs,q)->∀x∈xs,P x
 | 0,xs,q,h=>by injection h with h;injection h with h1 h2;subst h1;intro x hx;cases hx
 | k + 1, xs, q, h => by
   unfold many at h
   cases hm:many one p k with
   | error e=>rw[hm]at h;cases h
   | ok x=>
     rw[hm]at h
     simp only at h
     cases ho:one x.2 with
     | error e=>rw[ho]at h;cases h
     | ok y=>
       rw[ho]at h
       injection h with h;injection h with h2 h3
       subst h2
       intro z hz
       rcases List.mem_append.1 hz with hz|hz
       · exact ZeW h1 (show many one p k=.ok (x.1,x.2) from hm) z hz
       · rw[List.mem_singleton]at hz;subst hz;exact h1 _ _ ho
theorem ZpV{l:List UInt8}{n:Nat×Nat×Nat×Nat}(h:Zcy l=.ok n):n.2.2.2<=65535:=by
 unfold Zcy at h
 split at h
 ·cases h
 ·split at h
  ·cases h
  ·injection h with h
   subst h
   have:back (sub l 7 2)<256 ^ 2:=Zev (by unfold sub;simp;omega)
   simp only
   omega
theorem Zif{l:List UInt8}{c:CodeQ}(h:Zbg l=.ok c):c.ins.length<=65535/\∀x∈c.ins,x.1<=13/\x.2<65536:=by
 unfold Zbg at h
 cases h0:Zcy l with
 | error e=>rw[h0]at h;cases h
 | ok n=>
  rw[h0]at h;simp only at h
  cases h1:many (Zbw l) 9 n.1 with
  | error e=>rw[h1]at h;cases h
  | ok cs=>
   rw[h1]at h;simp only at h
   cases h2:many (Zbz l) cs.2 n.2.1 with
   | error e=>rw[h2]at h;cases h
   | ok ps=>
    rw[h2]at h;simp only at h
    cases h3:many (Zbx l) ps.2 n.2.2.1 with
    | error e=>rw[h3]at h;cases h
    | ok gs=>
     rw[h3]at h;simp only at h
     cases h4:many (Zbi l) gs.2 n.2.2.2 with
     | error e=>rw[h4]at h;cases h
     | ok is=>
      rw[h4]at h;simp only at h
      split at h
      ·cases h
      ·split at h
       ·cases h
       ·split at h
        ·cases h
        ·injection h with h
         subst h
         refine⟨?_,?_⟩
         ·have:=Zfn (show many (Zbi l) gs.2 n.2.2.2=.ok (is.1,is.2) from h4)
          have:=ZpV h0
          simp only
          omega
         ·exact ZeW (fun p x h=>(Zg0 h).2) (show many (Zbi l) gs.2 n.2.2.2=.ok (is.1,is.2) from h4)
def BadV(w:World)(A:Nat->Addr)(x:Nat×Nat)(err:Value):Prop:=
 (x.1=9/\Zca w err x.2 (A 8))∨(x=(10,0)/\err=.iface 491 (.pointer (some (A 9))))∨(x.1=11/\Zca w err x.2 (A 10))∨(x.1=12/\Zca w err x.2 (A 11))
def Zb5(w:World)(A:Nat->Addr)(r:Except (Nat×Nat) (CodeQ×Nat×Nat))(v n err:Value):Prop:=match r with
 | .ok x=>CodV w x.1 v/\n=.agg #[.int .i64 x.2.1,.int .i64 x.2.2]/\err=.nilIface
 | .error x=>n=.agg #[.int .i64 0,.int .i64 0]/\BadV w A x err
theorem Zb5.mkOk{w:World}{A:Nat->Addr}{r:Except (Nat×Nat) (CodeQ×Nat×Nat)}{v n err:Value}{x:CodeQ×Nat×Nat}(hr:r=.ok x)(h:CodV w x.1 v/\n=.agg #[.int .i64 x.2.1,.int .i64 x.2.2]/\err=.nilIface):Zb5 w A r v n err:=by subst hr;exact h
theorem Zb5.mkErr{w:World}{A:Nat->Addr}{r:Except (Nat×Nat) (CodeQ×Nat×Nat)}{v n err:Value}{x:Nat×Nat}(hr:r=.error x)(h:n=.agg #[.int .i64 0,.int .i64 0]/\BadV w A x err):Zb5 w A r v n err:=by subst hr;exact h
theorem ZB.pl{w:World}{v:Value}{p:Int}{a:Addr}(h:ZB w v p a):Zca w v p a:=by
 obtain⟨fa,h1,h2⟩:=h
 exact⟨fa,h1,by simp[World.cell?,h2],by simp[World.cell?,h2]⟩
theorem BadV.below{w w':World}{A:Nat->Addr}{x:Nat×Nat}{err:Value}(h:BadV w A x err)(hb:Below w.heap.size w w'):BadV w' A x err:=by
 rcases h with h|h|h|h
 ·exact Or.inl ⟨h.1,h.2.below hb⟩
 ·exact Or.inr (Or.inl h)
 ·exact Or.inr (Or.inr (Or.inl ⟨h.1,h.2.below hb⟩))
 ·exact Or.inr (Or.inr (Or.inr ⟨h.1,h.2.below hb⟩))
theorem Zb5.below{w w':World}{A:Nat->Addr}{r:Except (Nat×Nat) (CodeQ×Nat×Nat)}{v n err:Value}(h:Zb5 w A r v n err)(hb:Below w.heap.size w w'):Zb5 w' A r v n err:=by
 cases r with
 | ok x=>exact⟨h.1.below hb,h.2⟩
 | error x=>exact⟨h.1,h.2.below hb⟩
theorem Zca.kept2{w w':World}{v:Value}{p:Int}{a:Addr}(h:Zca w v p a){b:Nat}{c:List Value}{t:TypeId}(hq:BAt w b c t)(hg:w.grownBy w' (some b))(hc:∀t v,c[2]?≠some (.iface t v)):Zca w' v p a:=by
 obtain⟨fa,h1,h2,h3⟩:=h
 have hne:some fa≠some b:=by
  intro e;injection e with e;subst e
  rw[hq.cell 2]at h3
  exact hc _ _ h3
 have hl:fa<w.heap.size:=World.block_lt_of_cell? _ _ h3
 have e:=hg.block fa hl hne
 refine⟨fa,h1,?_,?_⟩
 ·unfold World.cell? at h2 ⊢;simp only at h2 ⊢;rw[e];exact h2
 ·unfold World.cell? at h3 ⊢;simp only at h3 ⊢;rw[e];exact h3
theorem BadV.kept2{w w':World}{A:Nat->Addr}{x:Nat×Nat}{err:Value}(h:BadV w A x err){b:Nat}{c:List Value}{t:TypeId}(hq:BAt w b c t)(hg:w.grownBy w' (some b))(hc:∀t v,c[2]?≠some (.iface t v)):BadV w' A x err:=by
 rcases h with h|h|h|h
 ·exact Or.inl ⟨h.1,h.2.kept2 hq hg hc⟩
 ·exact Or.inr (Or.inl h)
 ·exact Or.inr (Or.inr (Or.inl ⟨h.1,h.2.kept2 hq hg hc⟩))
 ·exact Or.inr (Or.inr (Or.inr ⟨h.1,h.2.kept2 hq hg hc⟩))
theorem Zb5.kept2{w w':World}{A:Nat->Addr}{r:Except (Nat×Nat) (CodeQ×Nat×Nat)}{v n err:Value}(h:Zb5 w A r v n err){b:Nat}{c:List Value}{t:TypeId}(hq:BAt w b c t)(hg:w.grownBy w' (some b))(hc:∀t v,c[2]?≠some (.iface t v))
  (h1:t≠3) (h2:t≠294) (h3:t≠379) (h4:t≠90) (h5:t≠9) (h6:t≠184):Zb5 w' A r v n err:=by
 cases r with
 | ok x=>exact⟨h.1.kept1 hq hg h1 h2 h3 h4 h5 h6,h.2⟩
 | error x=>exact⟨h.1,h.2.kept2 hq hg hc⟩
theorem BadV.shape{w:World}{A:Nat->Addr}{x:Nat×Nat}{err:Value}(h:BadV w A x err):(∃fa:Nat,err=.iface 115 (.pointer (some ⟨fa,0,none⟩)))∨err=.iface 491 (.pointer (some (A 9))):=by
 rcases h with ⟨_,fa,h,_⟩|h|⟨_,fa,h,_⟩|⟨_,fa,h,_⟩
 ·exact Or.inl ⟨fa,h⟩
 ·exact Or.inr h.2
 ·exact Or.inl ⟨fa,h⟩
 ·exact Or.inl ⟨fa,h⟩
structure OverE (w0 w W:World) (A:Nat->Addr) (r:Except (Nat×Nat) (CodeQ×Nat×Nat)) (v n err:Value) (b d:Nat) (x0 x1 x2 x3 y0 y1:Value):Prop where
 oc:Zb5 W A r v n err
 ob:Below w0.heap.size w0 W
 ox:BAt W b [x0,x1,x2,x3] 58
 oy:BAt W d [y0,y1] 31
theorem ZlY{w0 w:World}{A:Nat->Addr}{r:Except (Nat×Nat) (CodeQ×Nat×Nat)}{v n err:Value}{b d:Nat}(h:Zb5 w A r v n err)(hB:Below w0.heap.size w0 w)(hb:w0.heap.size<=b)(hd:w0.heap.size<=d)(hne:b≠d)
  (hX:BAt w b [.slice none 0 0,.slice none 0 0,.slice none 0 0,.slice none 0 0] 58) (hZ:BAt w d [.int .i64 0,.int .i64 0] 31) (x0 x1 x2 x3 y0 y1:Value) :
  OverE w0 w (set2 (set4 w b x0 x1 x2 x3) d y0 y1) A r v n err b d x0 x1 x2 x3 y0 y1:=by
 have g1:=Zcg w b x0 x1 x2 x3
 have z1:=hZ.grown g1 (by intro e;injection e with e;exact hne e.symm)
 have g2:=Zhr (set4 w b x0 x1 x2 x3) d y0 y1
 exact ⟨(h.kept2 hX g1 (by intro t v; simp) (by decide) (by decide) (by decide) (by decide) (by decide) (by decide)).kept2 z1 g2 (by intro t v; simp) (by decide) (by decide) (by decide) (by decide) (by decide) (by decide),
   Zgf (Ze6 hB hb _ _ _ _) hd _ _,(Zdh hX).grown g2 (by intro e;injection e with e;exact hne e),Zds z1⟩
end Go.Proofs.YtkodhpilkaihjaaGreatDoor

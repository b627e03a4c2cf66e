/- Parts. -/
import Derived.Test.YtkodhpilkaihjaaGreatDoorF35
import Derived.Test.YtkodhpilkaihjaaGreatDoorF22
set_option linter.unusedSimpArgs false
set_option maxRecDepth 100000
set_option maxHeartbeats 16000000
namespace Go.Proofs.YtkodhpilkaihjaaGreatDoor
open Go.RowKit LS
def RunC(A:Nat->Addr)(o:Option (List (List UInt8)×Nat))(r:ByteArray)(err:Value):Prop:=match o with
 | none=>r=⟨#[]⟩/\err=.iface 491 (.pointer (some (A 12)))
 | some z=>bl r=ZbJ z.1/\err=.nilIface
theorem Zse(j:Nat)(y:Cl)(hy:mq0.slots.getD j none=some y):False:=by
 have h2:(List.replicate 16 (none:Option Cl)).getD j none=none:=by rw[List.getD_eq_getElem?_getD,List.getElem?_replicate];split <;> rfl
 have h3:(mq0.slots).getD j none=some y:=hy
 unfold mq0 at h3
 rw[h2]at h3
 cases h3
structure PIdle (w0 w:World) (mb x gb gx:Nat) (c0 c1 c2 c3 al:Value) (t:Int) (sa:Option Addr) (sn sc:Nat) (vs:List Value):Prop where
 st:PSt w w0.heap.size mb c0 c1 c2 c3 al t (.map (some x)) (.pointer (some ⟨gb,0,none⟩)) sa sn sc vs
 mp:∃gs es cl,MapI w x gs es cl
 gr:BAt w gb [.map (some gx)] 339
 gm:MapX w gx
 bel:Below w0.heap.size w0 w
 lm:w0.heap.size<=mb
 lx:w0.heap.size<=x
 lg:w0.heap.size<=gx
 ne:x≠gx
theorem PInv.idle{w0 wk w:World}{mb x gb gx:Nat}{c0 c1 c2 c3 al:Value}{t:Int}{ser:List Ser}{m:MQ}{sa:Option Addr}{sn sc:Nat}{vs:List Value}(h:PInv w0 wk w mb x gb gx c0 c1 c2 c3 al t ser m sa sn sc vs):PIdle w0 w mb x gb gx c0 c1 c2 c3 al t sa sn sc vs.reverse:=by
 obtain⟨gs,es,cl,h1,_⟩:=h.slo
 exact⟨h.st,⟨gs,es,cl,h1⟩,h.gr,h.gm,h.bel,h.lm,h.lx,h.lg,h.ne⟩
theorem PIdle.below{w0 w w':World}{mb x gb gx:Nat}{c0 c1 c2 c3 al:Value}{t:Int}{sa:Option Addr}{sn sc:Nat}{vs:List Value}(h:PIdle w0 w mb x gb gx c0 c1 c2 c3 al t sa sn sc vs)(hb:Below w.heap.size w w'):PIdle w0 w' mb x gb gx c0 c1 c2 c3 al t sa sn sc vs:=by
 obtain⟨gs,es,cl,h1⟩:=h.mp
 exact⟨h.st.below hb,⟨gs,es,cl,h1.moved (hb.block x (Array.getElem?_eq_some_iff.1 h1.heap).1)⟩,h.gr.below hb,h.gm.below hb,h.bel.trans (hb.mono h.bel.size),h.lm,h.lx,h.lg,h.ne⟩
theorem PIdle.grown{w0 w w':World}{mb x gb gx:Nat}{c0 c1 c2 c3 al:Value}{t:Int}{sa:Option Addr}{sn sc:Nat}{vs:List Value}(h:PIdle w0 w mb x gb gx c0 c1 c2 c3 al t sa sn sc vs){v:Value}{n:Nat}{xs:List Value}(ho:w.ownsRow w0.heap.size 9 1 v n xs)(hg:w.grownBy w' v.ownBlock):PIdle w0 w' mb x gb gx c0 c1 c2 c3 al t sa sn sc vs:=by
 obtain⟨gs,es,cl,h1⟩:=h.mp
 obtain⟨es2,cl2,h2⟩:=h.gm
 exact⟨⟨h.st.box.ownGrownR ho hg (by decide),ZiR h.st.own ho hg (by decide),h.st.len⟩,⟨gs,es,cl,h1.moved (hg.block x (Array.getElem?_eq_some_iff.1 h1.heap).1 (ZiI h1.heap ho))⟩,h.gr.ownGrownR ho hg (by decide),⟨es2,cl2,(hg.block gx (Array.getElem?_eq_some_iff.1 h2).1 (ZiI h2 ho)).trans h2⟩,h.bel.grown hg h.bel.size (fun q hq=>(ho.lt q hq).1),h.lm,h.lx,h.lg,h.ne⟩
theorem PIdle.begun{w0 w w':World}{mb x gb gx:Nat}{c0 c1 c2 c3 al:Value}{t t2:Int}{sa:Option Addr}{sn sc:Nat}{vs:List Value}{cl:Nat}(h:PIdle w0 w mb x gb gx c0 c1 c2 c3 al t sa sn sc vs)(ser:List Ser)(hp:PSt w' w0.heap.size mb c0 c1 c2 c3 al t2 (.map (some x)) (.pointer (some ⟨gb,0,none⟩)) sa 0 sc [])(hm:MapI w' x [] #[] cl)(hk:w'.os=w.os/\w'.tape=w.tape/\w'.output=w.output/\w.heap.size<=w'.heap.size/\∀k,k≠mb->k≠x->w'.heap[k]?=w.heap[k]?):PInv w0 w w' mb x gb gx c0 c1 c2 c3 al t2 ser mq0 sa 0 sc []:=by
 obtain⟨k1,k2,k3,k4,k5⟩:=hk
 obtain⟨es,cg,hg⟩:=h.gm
 obtain⟨_,es0,cl0,hx⟩:=h.mp
 have hy : ZbC w w' := fun b c T fr h1 _ hb => (k5 b (fun e => by
   rw[e]at hb
   have:=hb.symm.trans h.st.box
   injection this with this
   injection this with _ this _
   exact h1 this) (fun e=>Zhe hx.heap hb e.symm)).trans hb
 exact⟨hp,⟨[],#[],cl,hm,fun j y hy=>(Zse j y hy).elim⟩,hy _ _ _ _ (by decide) (by decide) h.gr,⟨es,cg,(k5 gx (Zhe hg h.st.box) (fun e=>h.ne e.symm)).trans hg⟩,trivial,⟨k1.trans h.bel.os,k2.trans h.bel.tape,k3.trans h.bel.output,Nat.le_trans h.bel.size k4,fun k hk=>(k5 k (by have:=h.lm;omega) (by have:=h.lx;omega)).trans (h.bel.block k hk)⟩,h.lm,h.lx,h.lg,h.ne,hy⟩
theorem Ztu(co:CodeQ)(L:List Ah)(ss:List Srs)(ts:List Int)(fuel:Int)(c0 c1 c2 c3 al tv:Value)(A:Nat->Addr)(mx:Int)(w:World)(hv:Vars w A mx)(hc:PCode w co ss c0 c1 c2 c3 al)(hcb:CodeB co)(hfl:Flow co L)(hln:co.ins.length<=65535)(hops:∀x∈co.ins,x.1<=13/\x.2<65536)(hts:ts.length<=50)(htr:∀t∈ts,-1000000<=t/\t<=1000000)(hrow:w.ownsRow 0 3 1 tv ts.length (ts.map (Value.int .i64)))(hp:Zx w)(hB:20<=w.heap.size) :
  Calls Tryz.prog 48 #[.agg #[c0,c1,c2,c3],al,tv,.int .i64 fuel] w fun e w'=>∃r err,e=.returned (.tuple #[.string r,err])/\Hid (RunC A (if fuel<0∨1000000<fuel then none else Zbo (ss.map Srs.ser) co fuel.toNat ts) r err)/\Below w.heap.size w w':=by
 obtain⟨i0,hi,hz0,hz1,hz2⟩:=info_parts Tryz.infoStrG
 obtain⟨ta,tcp,rfl⟩:=Zr hrow
 obtain⟨aa,acp,rfl⟩:=Zr hc.sto.row
 obtain⟨ia,ic,rfl⟩:=Zr hc.cod.is
 have HV:=hid hv
 have HC:=hid hc
 have HCB:=hid hcb
 have HFL:=hid hfl
 have HOPS:=hid hops
 have HTR:=hid htr
 have HROW:=hid hrow
 have HP:=hid hp
 have HNG:=hid hB
 have g12:w.cell? ⟨12,0,none⟩=some (.iface 491 (.pointer (some (A 12)))):=hv.sent _ (by decide)
 have hg12:=World.block_lt_of_cell? _ _ g12
 simp only at hg12
 have hgne:¬w.heap.size=12:=by omega
 have hgne':¬12=w.heap.size:=by omega
 clear hv hc hcb hfl hops htr hrow hp hB
 generalize ho:(if fuel<0∨1000000<fuel then none else Zbo (ss.map Srs.ser) co fuel.toNat ts)=o
 have HOO:=hid ho
 clear ho
 go_enter Tryz.func48,Tryz.ntmps48
 go_wp2
 go_step3
 by_cases hfu:fuel<0∨1000000<fuel
 ·have HON:Hid (o=none):=hid (by rw[<-HOO.out,if_pos hfu])
  clear HOO
  rcases hfu with hf|hf
  ·go_wp2
   go_region
   all_goals (try go_wp2)
   all_goals ((try rw[Exit.noGoto_ret]);go_ret2;exact⟨_,_,rfl,hid (by rw[HON.out];exact⟨rfl,rfl⟩),(by repeat first|exact Below.refl _ _|assumption|refine Below.alloc ?_ ?_ _|refine Below.setCell ?_ ?_ _|refine Zg ?_ _|refine Below.drew ?_|omega|(simp;omega)|simp)⟩)
  ·have hf0:¬fuel<0:=by omega
   go_wp2
   go_region
   all_goals (try go_wp2)
   all_goals ((try rw[Exit.noGoto_ret]);go_ret2;exact⟨_,_,rfl,hid (by rw[HON.out];exact⟨rfl,rfl⟩),(by repeat first|exact Below.refl _ _|assumption|refine Below.alloc ?_ ?_ _|refine Below.setCell ?_ ?_ _|refine Zg ?_ _|refine Below.drew ?_|omega|(simp;omega)|simp)⟩)
 ·rw[if_neg hfu]at HOO
  obtain⟨fu,rfl⟩:∃fu:Nat,fuel=fu:=⟨fuel.toNat,by omega⟩
  have hfu1:fu<=1000000:=by omega
  have hf0:¬(fu:Int)<0:=by omega
  have hf1:¬(1000000:Int)<(fu:Int):=by omega
  have hf2:¬1000000<fu:=by omega
  clear hfu
  rw[Int.toNat_natCast]at HOO
  go_wp2_with fail
  refine Zn fun W hW=>?_
  have hbW:Below w.heap.size w W:=by rw[hW];exact Zbal
  have HXW:Hid (BAt W w.heap.size [c0,c1,c2,.slice ia co.ins.length ic] 58):=hid (by rw[hW];exact(show BAt _ _ _ _ from Go.Deep.blk_alloc_new w _))
  have HBW:=hid hbW
  clear hW hbW
  refine(Ztk W W.heap.size c0 c1 c2 (.slice ia co.ins.length ic) aa ss.length acp).mono ?_
  rintro e w1 ⟨mb,rfl,HN⟩
  have HX1:=hid (HXW.below HN.below)
  obtain⟨x,gb,gx,hst,hmi,hgr,hgm,lx,lgb,lgx,hne⟩:=HN.ex
  have HD1:Hid (PIdle W w1 mb x gb gx c0 c1 c2 (.slice ia co.ins.length ic) (.slice aa ss.length acp) 0 none 0 0 []):=hid ⟨hst,⟨_,_,_,hmi⟩,hgr,hgm,HN.below,HN.old,lx,lgx,hne⟩
  clear hst hmi hgr hgm lx lgb lgx hne HN
  have HCW:=hid (HC.below HBW.out)
  have HROW1:=hid (Zm HROW.out HBW.out)
  have HVW:=hid (HV.below HBW.out)
  have HPW:=hid (HP.low HBW.out HNG.out)
  have HNW:=hid (Nat.le_trans HNG.out HBW.size)
  have HXL:=hid HXW.out
  clear HC HROW HV HP HXW HX1 g12 hg12 hgne hgne'
  have hs1:=HD1.bel.size
  go_wp2_with (at_make;refine wpList_make_own _ rfl _ _ 90 rfl W.heap.size 9 i0 _ 1 Tryz.underlying90 hi hz0 hz1 _ _ _ ts.length rfl rfl rfl ?b2 ?b3 ?b4 ?_)
  case b2=>rw[hz2];omega
  case b3=>unfold maxLen;omega
  case b4=>exact hs1
  intro w2 hown2 hgrow2
  have hb2:Below w1.heap.size w1 w2:=⟨hgrow2.os,hgrow2.tape,hgrow2.output,hgrow2.size,fun k hk=>hgrow2.block k hk (by simp)⟩
  have HD2:=hid (HD1.below hb2)
  have HO2:=hid hown2
  clear hb2 hgrow2 hown2 HD1 hs1
  obtain⟨n,hn⟩:∃n,n=co.ins.length:=⟨_,rfl⟩
  have HN:=hid hn
  rw[<-hn]at hln
  rw[<-hn]at HD2 HXL ⊢
  have HIS:Hid (W.ownsRow 0 184 2 (.slice ia n ic) n (Zdo co.ins)):=hid (by rw[hn];exact HCW.cod.is)
  have HCN:Hid (PCode W co ss c0 c1 c2 (.slice ia n ic) (.slice aa ss.length acp)):=hid (by rw[hn];exact HCW.out)
  clear hn HCW
  generalize w.heap.size=xb at HXL ⊢
  go_wp2
  go_step3
  go_wp2
  go_loopw [3,11,31] (fun fv lv kv wr=>∃(k fk:Nat) (rs:List ByteArray) (t:Int) (sa:Option Addr) (sn sc:Nat) (vs:List Value),k<=ts.length/\kv=.int .i64 k/\fv=.int .i64 fk/\fk<=1000000/\rs.length=k/\Hid (wr.ownsRow W.heap.size 9 1 lv rs.length (ZZ rs))/\Hid (Zbo (ss.map Srs.ser) co fu (ts.take k)=some (rs.map bl,fk))/\Hid (∀r∈rs,r.size<=40000000000)/\Hid (PIdle W wr mb x gb gx c0 c1 c2 (.slice ia n ic) (.slice aa ss.length acp) t sa sn sc vs)) (fun _ _ kv _=>ts.length - (intOf kv).toNat)
  case atStart=>exact⟨0,fu,[],0,_,_,_,_,Nat.zero_le _,rfl,rfl,hfu1,rfl,HO2,hid rfl,hid (fun r hr=>by cases hr),HD2⟩
  case round=>
   clear HD2 HO2
   obtain⟨k,fk,rs,t,sa,sn,sc,vs,hk,rfl,rfl,hfk,hrk,HO,HTF,HZ,HD⟩:=hrel
   have HRK:=hid hrk
   clear hrk
   by_cases hlt:k<ts.length
   ·obtain⟨tg,tcp',htg⟩:=ZV HROW1.out (by omega)
    injection htg with htg1 _ htg2
    subst htg1 htg2
    have d1:=Zj (Zm HROW1.out HD.bel) k (.int .i64 ts[k]) (by rw[List.getElem?_map,List.getElem?_eq_getElem hlt];rfl)
    have HTK:=hid (HTR.out _ (List.getElem_mem hlt))
    have HSN:Hid (Zbo (ss.map Srs.ser) co fu (ts.take (k+1))=match runE (ss.map Srs.ser) ts[k] co fk 0 mq0 with
     | none=>none
     | some z=>some (rs.map bl++[Zc7 ts[k] (topE z.2)],z.1)):=hid (by rw[List.take_succ_eq_append_getElem hlt,Zjo,HTF.out];rfl)
    generalize ts[k]=tm at *
    have hkz:(k:Int)<(ts.length:Int):=by omega
    have htl:=ZbX (Zm HROW1.out HD.bel)
    go_wp2
    go_step3
    go_wp2_with fail
    obtain⟨gs,es,cl,hmi⟩:=HD.mp
    refine(ZsZ _ W.heap.size mb x c0 c1 c2 (.slice ia n ic) (.slice aa ss.length acp) t tm (.pointer (some ⟨gb,0,none⟩)) sa sn sc vs gs es cl HD.st hmi).mono ?_
    rintro e w4 ⟨rfl,HP4,HM4,HK4⟩
    have HI4:=hid (HD.begun (ss.map Srs.ser) HP4.out HM4.out HK4.out)
    have HO4:=hid (HI4.ky.own HO.out (by decide) (by decide))
    have HI5:=hid HI4.re
    clear HP4 HM4 HK4 HI4 hmi HD HO d1 htl HTF
    go_wp2
    go_step3
    go_wp2
    obtain⟨L3,hL3⟩:∃L3,L3=u11:=⟨_,rfl⟩
    go_loopw [3,11,14] (fun fv lv iv wq=>∃(i f1:Nat) (m:MQ) (sa1:Option Addr) (sn1 sc1:Nat) (vs1:List Value),lv=L3/\i<=n/\iv=.int .i64 i/\fv=.int .i64 f1/\f1<=1000000/\Hid (runE (ss.map Srs.ser) tm co fk 0 mq0=runE (ss.map Srs.ser) tm co f1 i m)/\Hid ((L.getD i ah0).known=true/\Typd (ss.map Srs.ser).length (L.getD i ah0).stack (L.getD i ah0).slots m/\m.stack.length<=64)/\Hid (PInv W wq wq mb x gb gx c0 c1 c2 (.slice ia n ic) (.slice aa ss.length acp) tm (ss.map Srs.ser) m sa1 sn1 sc1 vs1)/\Hid (wq.ownsRow W.heap.size 9 1 L3 rs.length (ZZ rs))) (fun _ _ iv _=>n - (intOf iv).toNat)
    case atStart=>exact⟨0,fk,mq0,sa,0,sc,[],hL3.symm,Nat.zero_le _,rfl,rfl,hfk,hid rfl,hid ⟨(HFL.start (ss.map Srs.ser).length).1,(HFL.start (ss.map Srs.ser).length).2,Nat.zero_le _⟩,HI5,by rw[hL3];exact HO4⟩
    case round=>
     clear HI5 HO4
     obtain⟨i,f1,m,sa1,sn1,sc1,vs1,e3,hi1,rfl,rfl,hf1,HRU,HTY,HPI,HLR⟩:=hrel
     subst e3
     subst hL3
     obtain⟨la,lc,rfl⟩:=Zr HLR.out
     have HBQ:=hid (HBW.trans (HPI.bel.mono HBW.size))
     have HXB:=hid (HXL.below HPI.bel)
     have b3:=HXB.cell 3
     simp only[Zget]at b3
     have hxl:=HXB.lt
     have HISQ:=hid (Zm HIS.out HPI.bel)
     clear HXB
     by_cases hin:i<n
     ·have hic:i<co.ins.length:=by rw[<-HN.out];exact hin
      cases f1 with
      | zero=>
       have HX:Hid (Zbo (ss.map Srs.ser) co fu ts=none):=hid (Zvf (k:=k+1) (by rw[HSN.out,HRU.out,Zt4 _ _ _ _ _ hic]))
       have g12:wr.cell? ⟨12,0,none⟩=some (.iface 491 (.pointer (some (A 12)))):=(HVW.below HPI.bel).sent _ (by decide)
       have hin2:¬((i:Int)=(n:Int)):=by omega
       have hll:(rs.length:Int)<(ts.length:Int):=by have:=HRK.out;omega
       clear HRU HTY HPI HISQ HLR HSN
       go_wp2
       rw[Exit.noGoto_exit]
       go_wp2
       go_region
       all_goals (try go_wp2)
       all_goals ((try rw[Exit.noGoto_ret]);go_ret2;exact⟨_,_,rfl,hid (by rw[<-HOO.out,HX.out];exact⟨rfl,rfl⟩),HBQ.drew⟩)
      | succ f2=>
       have hne:¬(((f2+1:Nat):Int)=0):=by omega
       have hne2:¬(((f2:Int)+1)=0):=by omega
       have hin2:¬((i:Int)=(n:Int)):=by omega
       have hiI:(i:Int)<(n:Int):=by omega
       obtain⟨op,arg,hoa⟩:∃op arg,co.ins[i]?=some (op,arg):=⟨_,_,List.getElem?_eq_getElem hic⟩
       have hgd:co.ins.getD i (0,0)=(op,arg):=by rw[List.getD_eq_getElem?_getD,hoa];rfl
       have hel:co.ins[i]=(op,arg):=(List.getElem?_eq_some_iff.1 hoa).2
       have hop:=(HOPS.out (op,arg) (List.mem_of_getElem? hoa)).1
       obtain⟨_,st1,sl1,hst1,_,_⟩:=HFL.step i hic HTY.1
       have hnx:=HFL.next HCN.dst tm hic (by rw[hgd];exact hop) HTY.1 HTY.2.1
       have hlen:=HFL.len HCN.dst tm hic (by rw[hgd];exact hop) HTY.1 HTY.2.1 HTY.2.2
       have hfw:=HFL.fwd i hic
       have hrg:=Zt3 (ss.map Srs.ser) tm co f2 i m hic
       rw[hgd]at hst1 hnx hlen hfw hrg
       have h64:(L.getD i ah0).stack.length<=64:=by rw[<-HTY.2.1.stack,List.length_map];exact HTY.2.2
       obtain⟨gi,ic',hgi⟩:=ZV HISQ.out (by omega)
       injection hgi with hgi1 _ hgi2
       subst hgi1 hgi2
       have q0:=Zj HISQ.out _ _ (ZeB co.ins i hic).1
       have q1:=Zj HISQ.out _ _ (ZeB co.ins i hic).2
       rw[hel]at q0 q1
       simp only at q0 q1
       have hgil:=ZbX HISQ.out
       have HRN:Hid (runE (ss.map Srs.ser) tm co fk 0 mq0=runE (ss.map Srs.ser) tm co f2 (Zcn i (op,arg) m) (doE (ss.map Srs.ser) tm co (op,arg) m)):=hid (by rw[HRU.out,hrg])
       have HTY2:=hid (And.intro hnx.2.2.1 (And.intro hnx.2.2.2 hlen))
       have hj1:i<Zcn i (op,arg) m:=hnx.1
       have hj2:Zcn i (op,arg) m<=n:=by rw[HN.out];exact hnx.2.1
       have HST1:=hid hst1
       have HFW:=hid hfw
       clear hst1 hnx hlen hfw hrg hgd hoa HRU hel HISQ HBQ HSN
       go_upto_region 15 with fail
       refine ZK fun W5 hW5=>?_
       have hb5:Below wr.heap.size wr W5:=by rw[hW5];exact Zbal
       have HA5:Hid (BAt W5 wr.heap.size [.int .i64 op,.int .i64 arg] 184):=hid (by rw[hW5];exact(show BAt _ _ _ _ from Go.Deep.blk_alloc_new wr _))
       have HP5:=hid (HPI.below hb5)
       have HL5:=hid (Zm HLR.out hb5)
       clear hW5 hb5 b3 hxl q0 q1 hgil
       generalize wr.heap.size=ab at *
       have a0:=HA5.cell 0
       have a1:=HA5.cell 1
       simp only[Zget]at a0 a1
       have hal:=HA5.lt
       by_cases h9:op=9
       ·subst h9
        have HRN2:Hid (runE (ss.map Srs.ser) tm co fk 0 mq0=runE (ss.map Srs.ser) tm co f2 arg m):=HRN
        have HTY3:Hid ((L.getD arg ah0).known=true/\Typd (ss.map Srs.ser).length (L.getD arg ah0).stack (L.getD arg ah0).slots m/\m.stack.length<=64):=HTY2
        have hj3:i<arg:=hj1
        have hj4:arg<=n:=hj2
        have HP6:=hid HP5.re
        clear HRN HTY2 hj1 hj2 HPI HLR HP5 HST1 HFW HTY
        go_wp2
        go_roundw
        case rel=>exact⟨arg,f2,m,sa1,sn1,sc1,vs1,rfl,hj4,rfl,by go_num,by omega,HRN2,HTY3,HP6,HL5⟩
        case measure=>simp[intOf];omega
       ·have h9i:¬((op:Int)=9):=by omega
        by_cases h10:op=10
        ·subst h10
         have htp:∃v ys,m.stack=.val (.vec v)::ys:=by
          have hs:=HST1.out
          have hT:=HTY.2.1
          generalize(L.getD i ah0).stack=st at hs hT
          cases st with
          | nil=>cases hs
          | cons kk r=>
           simp only[Zw]at hs
           split at hs
           ·rename_i hkk
            subst hkk
            obtain⟨y,rs',hm,hy,_,_⟩:=hT.pop
            obtain⟨v,rfl⟩:=Zix hy
            exact⟨v,rs',hm⟩
           ·cases hs
         obtain⟨v,ys,hm⟩:=htp
         obtain⟨v1,vs',n1,rfl,rfl,hv1,hn1⟩:=HP5.top hm
         have hn64:n1<=64:=by have:=HTY.2.2;rw[hm,List.length_cons]at this;omega
         obtain⟨s1,is1,rfl,hvv⟩:=hv1
         obtain⟨va,vc,rfl⟩:=Zr hvv.row
         have hvl:=hvv.len'
         clear hvv
         go_wp2_with fail
         refine(Ztb W5 W.heap.size mb c0 c1 c2 (.slice (some ⟨gi,0,none⟩) n ic) (.slice aa ss.length acp) tm (.map (some x)) (.pointer (some ⟨gb,0,none⟩)) sa1 n1 sc1 vs'.reverse va is1.length vc (by have:=HP5.st;rwa [List.reverse_cons]at this) hn64).mono ?_
         rintro e w6 ⟨rfl,HB6⟩
         have HP6:=hid (HP5.below HB6.out).re
         have HL6:=hid (Zm HL5.out HB6.out)
         have HA6:=hid (HA5.below HB6.out)
         clear HB6 HP5 HL5 HA5 a0 a1 hal
         have a1:=HA6.cell 1
         simp only[Zget]at a1
         have hal:=HA6.lt
         have htf:ZhC m=!v.isEmpty:=by unfold ZhC;rw[hm];rfl
         by_cases h0:is1.length=0
         ·have hve:v=[]:=List.eq_nil_of_length_eq_zero (by omega)
          have hnx:Zcn i (10,arg) m=i+1:=by unfold Zcn;simp only;rw[if_neg (by decide),if_neg (by rw[htf,hve];simp)]
          rw[hnx]at HRN HTY2 hj2
          have HRN2:Hid (runE (ss.map Srs.ser) tm co fk 0 mq0=runE (ss.map Srs.ser) tm co f2 (i+1) m):=HRN
          have HTY3:Hid ((L.getD (i+1) ah0).known=true/\Typd (ss.map Srs.ser).length (L.getD (i+1) ah0).stack (L.getD (i+1) ah0).slots m/\m.stack.length<=64):=HTY2
          rw[show decide ((0:Int)<(is1.length:Int))=false from decide_eq_false (by omega)]
          clear HRN HTY2 hj1 HPI HLR HST1 HFW HTY hm hnx htf
          go_wp2
          go_roundw
          case rel=>exact⟨i+1,f2,m,_,_,_,_,rfl,hj2,by go_num,by go_num,by omega,HRN2,HTY3,HP6,HL6⟩
          case measure=>simp[intOf];omega
         ·have hve:v.isEmpty=false:=by
           cases v with
           | nil=>exact absurd hvl.symm h0
           | cons a b=>rfl
          have hnx:Zcn i (10,arg) m=arg:=by unfold Zcn;simp only;rw[if_neg (by decide),if_pos ⟨trivial,by rw[htf,hve];rfl⟩]
          rw[hnx]at HRN HTY2 hj2 hj1
          have HRN2:Hid (runE (ss.map Srs.ser) tm co fk 0 mq0=runE (ss.map Srs.ser) tm co f2 arg m):=HRN
          have HTY3:Hid ((L.getD arg ah0).known=true/\Typd (ss.map Srs.ser).length (L.getD arg ah0).stack (L.getD arg ah0).slots m/\m.stack.length<=64):=HTY2
          rw[show decide ((0:Int)<(is1.length:Int))=true from decide_eq_true (by omega)]
          clear HRN HTY2 HPI HLR HST1 HFW HTY hm hnx htf
          go_wp2
          go_roundw
          case rel=>exact⟨arg,f2,m,_,_,_,_,rfl,hj2,rfl,by go_num,by omega,HRN2,HTY3,HP6,HL6⟩
          case measure=>simp[intOf];omega
        ·have h10i:¬((op:Int)=10):=by omega
         have hnx:Zcn i (op,arg) m=i+1:=by unfold Zcn;simp only;rw[if_neg h9,if_neg (fun hh=>h10 hh.1)]
         have HDO:=hid (Zs0 HP5.out HCN.out HCB.out HTK.1 HTK.2 hop h9 h10 HFW.out HTY.2.1 h64 HST1.out)
         rw[hnx]at HRN HTY2 hj2
         clear hj1 HPI HST1 HFW HTY HP5 HL5
         go_wp2_with fail
         refine HDO.mono ?_
         rintro e w6 ⟨rfl,HD6⟩
         obtain⟨sa6,sn6,sc6,vs6,hp6⟩:=HD6.out
         have HL6:=hid (hp6.ky.own HLR.out (by decide) (by decide))
         have HP6:=hid hp6.re
         clear hp6 HD6 HDO HLR HA5 a0 a1 hal
         go_wp2
         go_roundw
         case rel=>exact⟨i+1,f2,_,sa6,sn6,sc6,vs6,rfl,hj2,by go_num,by go_num,by omega,HRN,HTY2,HP6,HL6⟩
         case measure=>simp[intOf];omega
     ·obtain rfl:i=n:=by omega
      have hge:co.ins.length<=i:=by rw[<-HN.out];exact Nat.le_refl _
      obtain⟨v,hv,hvo⟩:=HFL.end_ (n:=(ss.map Srs.ser).length) (m:=m) (by have:=HTY.2.1;rw[HN.out]at this;exact this)
      have hvo1:VOk 30 v:=VOk.more (by rw[List.length_map];exact HCN.sto.len) hvo
      have htop:topE m=v:=by unfold topE;rw[hv];rfl
      have HRD:Hid (Zbo (ss.map Srs.ser) co fu (ts.take (k+1))=some (rs.map bl++[Zc7 tm v],f1)):=hid (by rw[HSN.out,HRU.out,Zt2 _ _ _ _ _ _ hge,<-htop])
      have HVO:=hid hvo1
      obtain⟨mst,msl⟩:=m
      simp only at hv
      subst hv
      obtain⟨v1,vs',n1,rfl,rfl,_,hn1⟩:=HPI.top rfl
      have hn2:n1<=64:=by rw[hn1];exact Nat.zero_le _
      clear HTY HRU hge hvo hvo1 htop HSN HISQ hn1 HBQ
      go_wp2_with fail
      refine(ZeI _ W.heap.size mb c0 c1 c2 (.slice ia i ic) (.slice aa ss.length acp) tm (.map (some x)) (.pointer (some ⟨gb,0,none⟩)) sa1 n1 sc1 vs'.reverse v1 (by have:=HPI.st;rwa [List.reverse_cons]at this) hn2).mono ?_
      rintro e w6 ⟨rfl,HP6,HG6⟩
      have HI6:=hid (HPI.popped HP6.out HG6.out).1
      have HC6:Hid (ValP w6 v1 v):=hid (HPI.popped HP6.out HG6.out).2
      have HO6:=hid (HI6.ky.own HLR.out (by decide) (by decide))
      have HD6:=hid HI6.idle
      clear HP6 HG6 HPI HLR HI6 b3 hxl
      go_wp2_with fail
      refine(Zlj tm (by have:=HTK.out;unfold vOk;omega) v1 v w6 HC6.out HVO.out (HPW.low HD6.bel HNW.out) (Nat.le_trans HNW.out HD6.bel.size)).mono ?_
      rintro e w7 ⟨r7,rfl,HR7,hz7,hb7⟩
      have HO7:=hid (Zm HO6.out hb7)
      have HD7:=hid (HD6.below hb7)
      have HZ7:=hid hz7
      have hw7:=HD7.bel.size
      clear hb7 hz7 HO6 HD6 HC6 HVO
      go_wp2_with (at_builtin;refine wpList_append_own _ rfl (.tmp 43) (.tmp 48) 90 rfl W.heap.size 9 i0 (.string ByteArray.empty) 1 16 Tryz.underlying90 hi hz0 hz1 hz2 rfl (by decide) _ _ _ rfl (HO7.alloc _) ⟨w7.heap.size,0,none⟩ 1 1 [.string r7] rfl rfl ?c1 ?c2 ?c3 ?c4 ?c5 ?_)
      case c1=>exact Zcu rfl
      case c2=>intro u hu;simp at hu;subst hu;rfl
      case c3=>have:=HRK.out;unfold maxLen;omega
      case c4=>have:=HRK.out;omega
      case c5=>simp;omega
      intro v8 w8 hown8 hgrow8 _
      have HO8:Hid (w8.ownsRow W.heap.size 9 1 v8 (rs++[r7]).length (ZZ (rs++[r7]))):=hid (by rw[ZfV,List.length_append];exact hown8)
      have HD8:=hid ((HD7.below Zbal).grown (HO7.alloc _) hgrow8)
      have HL8:Hid (Zbo (ss.map Srs.ser) co fu (ts.take (k+1))=some ((rs++[r7]).map bl,f1)):=hid (by rw[HRD.out,List.map_append,List.map_singleton,HR7.out])
      have HZ8 : Hid (∀ r ∈ rs ++ [r7], r.size <= 40000000000) := hid (fun r hr => by
        rcases List.mem_append.1 hr with h|h
        · exact HZ.out r h
        · rw[List.mem_singleton]at h;subst h;exact HZ7.out)
      clear hgrow8 hown8 HRD HR7 HD7 HO7 hw7
      go_wp2
      rw[Exit.noGoto_exit]
      go_wp2
      go_roundw
      case rel=>exact⟨k+1,f1,rs++[r7],tm,_,_,_,_,by omega,by go_num,rfl,hf1,by have:=HRK.out;simp;omega,HO8,HL8,HZ8,HD8⟩
      case measure=>simp[intOf];omega
   ·obtain rfl:k=ts.length:=by omega
    have HTF':Hid (Zbo (ss.map Srs.ser) co fu ts=some (rs.map bl,fk)):=hid (by have:=HTF.out;rwa [List.take_length]at this)
    obtain⟨la,lc,hsh⟩:=Zr HO.out
    subst hsh
    have hll:¬((rs.length:Int)<(ts.length:Int)):=by have:=HRK.out;omega
    have hr50:rs.length<=50:=by have:=HRK.out;omega
    have HBQ:=hid (HBW.trans (HD.bel.mono HBW.size))
    go_wp2_with fail
    refine(Zk7 rs HO.out hr50 HZ.out).mono ?_
    rintro e w5 ⟨r5,rfl,HR5,hb5⟩
    have HB5:=hid (HBQ.trans (hb5.mono HBQ.size))
    clear hb5
    go_wp2
    try rw[Exit.noGoto_ret]
    go_ret2
    exact⟨_,_,rfl,hid (by rw[<-HOO.out,HTF'.out];exact⟨HR5.out,rfl⟩),HB5.out⟩
end Go.Proofs.YtkodhpilkaihjaaGreatDoor

/- Parts. -/
import Derived.Test.YtcdgkkfipdoeeaaGreatDoorT32
import Derived.Test.YtcdgkkfipdoeeaaGreatDoorT03
import Derived.Test.YtcdgkkfipdoeeaaGreatDoorT12
import Derived.Test.YtcdgkkfipdoeeaaGreatDoorT22
import Derived.Test.YtcdgkkfipdoeeaaGreatDoorT29
import Derived.Test.YtcdgkkfipdoeeaaGreatDoorT17
import Derived.Test.YtcdgkkfipdoeeaaGreatDoorT30
import Derived.Test.YtcdgkkfipdoeeaaGreatDoorT21
import Derived.Test.YtcdgkkfipdoeeaaGreatDoorT05
set_option maxRecDepth 100000
set_option maxHeartbeats 8000000
set_option linter.unusedSimpArgs false
namespace Go.Proofs.YtcdgkkfipdoeeaaGreatDoor
open Go.RowKit LS
variable {x mb gb:Nat} {sv:Value} {ss:List Srs} {tm:Int}
theorem Zxq(nd:Nd)(l r:Tr)(a b:Nat)(hk:nd.kind=1)(hds:Dst (ss.map Srs.ser))(ht0 : -1000000<=tm)(ht1:tm<=1000000):Zb5 x mb gb sv ss tm (.node a b nd l r):=by
 intro pv w hM hP
 obtain⟨nm,la,ln,lc,hpv,hnm,hcv⟩:∃(nm:ByteArray) (la:Option Addr) (ln lc:Nat),pv=.iface 148 (.agg #[.string nm,.slice la ln lc])/\bl nm=nd.name/\ZI w (.slice la ln lc) nd.conds:=by
  rcases hP with ⟨h,_⟩|⟨_,h⟩|⟨h,_⟩|⟨h,_⟩|⟨h,_⟩|⟨h,_⟩
  ·omega
  ·exact h
  all_goals omega
 subst hpv
 obtain⟨sa,scp,rfl⟩:=Zv hM.sto.row
 have HS:Hid (sayT (ss.map Srs.ser) tm (.node a b nd l r)=.vec (ZdV (ss.map Srs.ser) nd none 10 tm)):=hid (by rw[sayT,if_neg (by omega),if_pos hk])
 have HM:Hid (MOk x mb gb (.slice sa ss.length scp) ss tm w):=hM
 have HPK:Hid (∀W,Below w.heap.size w W->Calls Tryz.prog 161 #[.slice sa ss.length scp,.agg #[.string nm,.slice la ln lc],.int .i64 tm] W _):=hid (fun W hW=>Zwu _ ss nm la ln lc nd tm W (hM.below hW).sto hds hnm (hcv.below hW) ht0 ht1)
 clear hP hM hnm hcv hds
 have h1:=Zgs (.agg #[.string nm,.slice la ln lc])
 have h2:=Zgr (.agg #[.string nm,.slice la ln lc])
 have h3:=Zgt (.agg #[.string nm,.slice la ln lc])
 have h4:=Zgq (.agg #[.string nm,.slice la ln lc])
 have h5:=Zgv (.agg #[.string nm,.slice la ln lc])
 have h6:=Zgu (.agg #[.string nm,.slice la ln lc])
 go_enter Tryz.func93,Tryz.ntmps93
 go_upto_region 22 with fail
 refine Z9 fun W hW=>?_
 have hbW:Below w.heap.size w W:=by rw[hW];exact Zbal
 have HX:Hid (BAt W w.heap.size [.string nm,.slice la ln lc] 148):=hid (by rw[hW];exact Go.Deep.blk_alloc_new _ _)
 have HMW:=hid (HM.below hbW)
 have HBW:Hid (Below w.heap.size w W):=hid hbW
 clear hW hbW h1 h2 h3 h4 h5 h6
 have x0:=HX.cell 0
 have x1:=HX.cell 1
 have m0:=HMW.m.cell 0
 have m1:=HMW.m.cell 1
 simp only[Zget]at x0 x1 m0 m1
 go_region_held3 (fun w' => w'.cell? ⟨w.heap.size, 0, none⟩ = some (.string nm) /\ w'.cell? ⟨w.heap.size, 1, none⟩ = some (.slice la ln lc) /\ w'.cell? ⟨mb, 0, none⟩ = some (.slice sa ss.length scp) /\ w'.cell? ⟨mb, 1, none⟩ = some (.int .i64 tm)) (first | exact ⟨x0, x1, m0, m1⟩ | exact HS5.out | go_keep) (first
   | (go_at_call 161
      refine(HPK.out _ (by exact⟨HBW.os,HBW.tape,HBW.output,HBW.size,HBW.block⟩)).mono ?_
      rintro e w5 ⟨v5,is5,rfl,HV5,hb5⟩
      have HB5:Hid (Below W.heap.size W w5):=hid ⟨hb5.os,hb5.tape,hb5.output,hb5.size,hb5.block⟩
      have HS5:=hid (And.intro ((HX.below HB5.out).cell 0) (And.intro ((HX.below HB5.out).cell 1) (And.intro ((HMW.below HB5.out).m.cell 0) ((HMW.below HB5.out).m.cell 1))))
      clear hb5))
 have HBf:Hid (BelX x w.heap.size w w5):=hid (BelX.of (HBW.trans (HB5.mono HBW.size)))
 have HMf:=hid (HMW.below HB5.out)
 go_wp2
 go_ret
 exact⟨_,rfl,hid (by rw[HS.out];exact⟨_,is5,rfl,HV5.out⟩),HMf,HBf⟩
theorem Zxr(nd:Nd)(l r:Tr)(a b:Nat)(hk:nd.kind=2)(hop:nd.op<=4)(hn:1<=nd.n/\nd.n<=1000)(hds:Dst (ss.map Srs.ser))(ht0 : -1000000<=tm)(ht1:tm<=1000000):Zb5 x mb gb sv ss tm (.node a b nd l r):=by
 intro pv w hM hP
 obtain⟨wd,nm,la,ln,lc,hpv,hwd,hnm,hcv⟩:∃(wd nm:ByteArray) (la:Option Addr) (ln lc:Nat),pv=.iface 150 (.agg #[.string wd,.string nm,.slice la ln lc,.int .i64 nd.n])/\bl wd=ZV.getD nd.op []/\bl nm=nd.name/\ZI w (.slice la ln lc) nd.conds:=by
  rcases hP with ⟨h,_⟩|⟨h,_⟩|⟨_,h⟩|⟨h,_⟩|⟨h,_⟩|⟨h,_⟩
  ·omega
  ·omega
  ·exact h
  all_goals omega
 subst hpv
 obtain⟨sa,scp,rfl⟩:=Zv hM.sto.row
 have HS:Hid (sayT (ss.map Srs.ser) tm (.node a b nd l r)=.vec (ZdV (ss.map Srs.ser) nd (some nd.op) nd.n tm)):=hid (by rw[sayT,if_neg (by omega),if_neg (by omega),if_pos hk])
 have HM:Hid (MOk x mb gb (.slice sa ss.length scp) ss tm w):=hM
 have HPR:Hid (∀W,Below w.heap.size w W->Calls Tryz.prog 160 #[.slice sa ss.length scp,.agg #[.string nm,.slice la ln lc],.int .i64 nd.n,.int .i64 tm] W _):=hid (fun W hW=>Zo2 _ ss nm la ln lc nd nd.n tm W (hM.below hW).sto hnm (hcv.below hW) (by omega) hn.2 ht0 ht1)
 have HMO:Hid (∀W,Calls Tryz.prog 124 #[.string wd] W _):=hid (fun W=>Zow wd nd.op hop hwd W)
 have HDS:Hid (Dst (ss.map Srs.ser)):=hds
 have HLN:Hid (ss.length<=30):=hid hM.sto.len
 clear hP hM hnm hcv hds hwd hn
 obtain⟨nn,hnn⟩:∃nn,nn=nd.n:=⟨_,rfl⟩
 rw[<-hnn]at HPR HS ⊢
 clear hnn
 have h1:=Zgy (.agg #[.string wd,.string nm,.slice la ln lc,.int .i64 nn])
 have h2:=Zgx (.agg #[.string wd,.string nm,.slice la ln lc,.int .i64 nn])
 have h3:=Zgz (.agg #[.string wd,.string nm,.slice la ln lc,.int .i64 nn])
 have h4:=Zgw (.agg #[.string wd,.string nm,.slice la ln lc,.int .i64 nn])
 have h5:=ZgA (.agg #[.string wd,.string nm,.slice la ln lc,.int .i64 nn])
 go_enter Tryz.func93,Tryz.ntmps93
 go_upto_region 19 with fail
 refine Z9 fun W hW=>?_
 have hbW:Below w.heap.size w W:=by rw[hW];exact Zbal
 have HX:Hid (BAt W w.heap.size [.string wd,.string nm,.slice la ln lc,.int .i64 nn] 150):=hid (by rw[hW];exact Go.Deep.blk_alloc_new _ _)
 have HMW:=hid (HM.below hbW)
 have HBW:Hid (Below w.heap.size w W):=hid hbW
 clear hW hbW h1 h2 h3 h4 h5
 have x0:=HX.cell 0
 have x1:=HX.cell 1
 have x2:=HX.cell 2
 have x3:=HX.cell 3
 have m0:=HMW.m.cell 0
 have m1:=HMW.m.cell 1
 simp only[Zget]at x0 x1 x2 x3 m0 m1
 have HSB:Hid (∀w',Below W.heap.size W w'->w'.cell? ⟨w.heap.size,0,none⟩=some (.string wd)/\w'.cell? ⟨w.heap.size,1,none⟩=some (.string nm)/\w'.cell? ⟨w.heap.size,2,none⟩=some (.slice la ln lc)/\w'.cell? ⟨w.heap.size,3,none⟩=some (.int .i64 nn)/\w'.cell? ⟨mb,0,none⟩=some (.slice sa ss.length scp)/\w'.cell? ⟨mb,1,none⟩=some (.int .i64 tm)):=hid (fun w' h=>⟨(HX.below h).cell 0,(HX.below h).cell 1,(HX.below h).cell 2,(HX.below h).cell 3,(HMW.below h).m.cell 0,(HMW.below h).m.cell 1⟩)
 go_region_held3 (fun w' => w'.cell? ⟨w.heap.size, 0, none⟩ = some (.string wd) /\ w'.cell? ⟨w.heap.size, 1, none⟩ = some (.string nm) /\ w'.cell? ⟨w.heap.size, 2, none⟩ = some (.slice la ln lc) /\ w'.cell? ⟨w.heap.size, 3, none⟩ = some (.int .i64 nn) /\ w'.cell? ⟨mb, 0, none⟩ = some (.slice sa ss.length scp) /\ w'.cell? ⟨mb, 1, none⟩ = some (.int .i64 tm)) (first | exact ⟨x0, x1, x2, x3, m0, m1⟩ | exact HSB.out _ HB6.out | exact HSB.out _ HB5.out | go_keep) (first
   | (go_at_call 124
      refine(HMO.out _).mono ?_
      rintro e w4 ⟨rfl,rfl⟩)
   | (go_at_call 160
      refine(HPR.out _ (by exact⟨HBW.os,HBW.tape,HBW.output,HBW.size,HBW.block⟩)).mono ?_
      rintro e w5 ⟨v5,rs5,rfl,HV5,hb5⟩
      have HB5:Hid (Below W.heap.size W w5):=hid ⟨hb5.os,hb5.tape,hb5.output,hb5.size,hb5.block⟩
      clear hb5)
   | (go_at_call 159
      refine(Zwr nd.op hop v5 rs5 (ss.map Srs.ser) nd nn tm _ HV5.1 HV5.2 HDS.out (by
        have h1:=congrArg List.length HV5.2
        rw[List.length_map]at h1
        have h2:=Zo4 (ss.map Srs.ser) nd nn tm
        rw[List.length_map]at h2
        have:=HLN.out
        omega)).mono ?_
      rintro e w6 ⟨v6,is6,rfl,HV6,hb6⟩
      have HB6:Hid (Below W.heap.size W w6):=hid (HB5.trans (hb6.mono HB5.size))
      clear hb6))
 have HBf:Hid (BelX x w.heap.size w w6):=hid (BelX.of (HBW.trans (HB6.mono HBW.size)))
 have HMf:=hid (HMW.below HB6.out)
 go_wp2
 go_ret
 exact⟨_,rfl,hid (by rw[HS.out];exact⟨_,is6,rfl,HV6.out⟩),HMf,HBf⟩
theorem Zxp(nd:Nd)(l r:Tr)(a b:Nat)(hk:nd.kind=6)(hl:Zds (sayT (ss.map Srs.ser) tm l)=true)(hr:Zds (sayT (ss.map Srs.ser) tm r)=true)(ihl:Zb5 x mb gb sv ss tm l)(ihr:Zb5 x mb gb sv ss tm r):Zb5 x mb gb sv ss tm (.node a b nd l r):=by
 intro pv w hM hP
 obtain⟨p,q,hpv,hp,hq⟩:∃p q,pv=.iface 116 (.agg #[.int .i64 (opNo nd),p,q])/\Ze w l p/\Ze w r q:=by
  rcases hP with ⟨h,_⟩|⟨h,_⟩|⟨h,_⟩|⟨h,_⟩|⟨h,_⟩|⟨_,h⟩
  ·omega
  ·omega
  ·omega
  ·omega
  ·omega
  ·exact h
 have ho:opNo nd=0:=by unfold opNo;rw[if_pos hk]
 rw[ho]at hpv
 subst hpv
 obtain⟨ty,tv,rfl⟩:=hp.shape
 obtain⟨uy,uv,rfl⟩:=hq.shape
 have HS:Hid (sayT (ss.map Srs.ser) tm (.node a b nd l r)=if (ZeR (sayT (ss.map Srs.ser) tm l)).isEmpty then sayT (ss.map Srs.ser) tm r else sayT (ss.map Srs.ser) tm l):=hid (by rw[sayT,if_neg (by omega),if_neg (by omega),if_neg (by omega),if_neg (by omega),if_neg (by omega),if_pos hk])
 have HM:Hid (MOk x mb gb sv ss tm w):=hM
 have HE:Hid (∀W,Below w.heap.size w W->Calls Tryz.prog 153 #[.pointer (some ⟨mb,0,none⟩),.iface ty tv,.iface uy uv] W (EitP x mb gb sv ss tm l r W)):=hid (fun W hW=>Zsm l r hl hr ihl ihr ty uy tv uv W (hM.below hW) (hp.below hW) (hq.below hW))
 clear hP hM hp hq hl hr ihl ihr ho
 have h1:=Zfy (.agg #[.int .i64 (0:Nat),.iface ty tv,.iface uy uv])
 have h2:=Zfx (.agg #[.int .i64 (0:Nat),.iface ty tv,.iface uy uv])
 have h3:=Zfz (.agg #[.int .i64 (0:Nat),.iface ty tv,.iface uy uv])
 simp only[Int.natCast_zero]at *
 go_enter Tryz.func93,Tryz.ntmps93
 go_wp2_with fail
 refine ZK fun W hW=>?_
 have hbW:Below w.heap.size w W:=by rw[hW];exact Zbal
 clear hW
 refine(HE.out W hbW).mono ?_
 rintro e w5 ⟨s,l5,is5,rfl,HV5,HM5,HB5⟩
 have HBf:Hid (BelX x w.heap.size w w5):=hid ((BelX.of hbW).trans (HB5.mono hbW.size))
 clear hbW
 go_wp2
 go_ret
 exact⟨_,rfl,hid (by rw[HS.out,HV5.2];exact⟨_,is5,rfl,HV5.1⟩),HM5,HBf⟩
end Go.Proofs.YtcdgkkfipdoeeaaGreatDoor
namespace Go.Proofs.YtcdgkkfipdoeeaaGreatDoor
open Go.RowKit LS
theorem ZnT{ns ms:List (List UInt8)}(h:∀z,z∈ns ↔ z∈ms)(l:List Lab):Zz l ns=Zz l ms:=by
 unfold Zz
 refine List.filter_congr (fun p _=>?_)
 rw[Bool.eq_iff_iff,List.contains_iff_mem,List.contains_iff_mem]
 exact h p.1
theorem Zno{ns ms:List (List UInt8)}(h:∀z,z∈ns ↔ z∈ms)(op:Nat)(all:List El):∀(l pre:List El),ZcQ op ns all pre l=ZcQ op ms all pre l
 | [],_=>rfl
 | e :: l, pre => by
   rw[ZcQ,ZcQ,Zno h op all l (pre++[e])]
   have hk:(fun f:El=>Zz f.1 ns)=fun f=>Zz f.1 ms:=funext fun f=>ZnT h f.1
   simp only[ZnT h]
theorem Ztb{ns ms:List (List UInt8)}(h:∀z,z∈ns ↔ z∈ms)(op:Nat)(l:List El):Zec op ns l=Zec op ms l:=by unfold Zec;rw[Zno h]
variable {x mb gb:Nat} {sv:Value} {ss:List Srs} {tm:Int}
theorem MapX.lt{w:World}{x:Nat}(h:MapX w x):x<w.heap.size:=by
 obtain⟨es,cl,hx⟩:=h
 exact(Array.getElem?_eq_some_iff.1 hx).1
theorem Zxl(nd:Nd)(l r:Tr)(a b:Nat)(hk:nd.kind=4)(hop:nd.op<=3)(hvr:VOk 1000 (sayT (ss.map Srs.ser) tm r))(ihl:Zb5 x mb gb sv ss tm l)(ihr:Zb5 x mb gb sv ss tm r):Zb5 x mb gb sv ss tm (.node a b nd l r):=by
 intro pv w hM hP
 obtain⟨p,q,hpv,hp,hq⟩:∃p q,pv=.iface 116 (.agg #[.int .i64 (opNo nd),p,q])/\Ze w l p/\Ze w r q:=by
  rcases hP with ⟨h,_⟩|⟨h,_⟩|⟨h,_⟩|⟨h,_⟩|⟨h,_⟩|⟨_,h⟩
  ·omega
  ·omega
  ·omega
  ·omega
  ·omega
  ·exact h
 have ho:opNo nd=nd.op+1:=by unfold opNo;rw[if_neg (by omega)]
 rw[ho]at hpv
 subst hpv
 obtain⟨ty,tv,rfl⟩:=hp.shape
 obtain⟨uy,uv,rfl⟩:=hq.shape
 have HS:Hid (sayT (ss.map Srs.ser) tm (.node a b nd l r)=Zfe nd.op (sayT (ss.map Srs.ser) tm l) (sayT (ss.map Srs.ser) tm r)):=hid (by rw[sayT,if_neg (by omega),if_neg (by omega),if_neg (by omega),if_neg (by omega),if_neg (by omega),if_neg (by omega)])
 have HM:Hid (MOk x mb gb sv ss tm w):=hM
 have HP:Hid (Ze w l (.iface ty tv)/\Ze w r (.iface uy uv)):=⟨hp,hq⟩
 have HVR:Hid (VOk 1000 (sayT (ss.map Srs.ser) tm r)):=hvr
 have HIL:Hid (∀W,MOk x mb gb sv ss tm W->Ze W l (.iface ty tv)->Calls Tryz.prog 93 #[.pointer (some ⟨mb,0,none⟩),.iface ty tv] W (SayP x mb gb sv ss tm l W)):=hid (fun W h1 h2=>ihl _ W h1 h2)
 have HIR:Hid (∀W,MOk x mb gb sv ss tm W->Ze W r (.iface uy uv)->Calls Tryz.prog 93 #[.pointer (some ⟨mb,0,none⟩),.iface uy uv] W (SayP x mb gb sv ss tm r W)):=hid (fun W h1 h2=>ihr _ W h1 h2)
 obtain⟨oz,hoz⟩:∃oz:Int,oz=((nd.op+1:Nat):Int):=⟨_,rfl⟩
 have HOZ:Hid (oz=((nd.op+1:Nat):Int)):=hoz
 have hoz0:(oz == 0)=false:=by rw[beq_eq_false_iff_ne];omega
 rw[<-hoz]
 have hxl:=hM.map.lt
 clear hP hM hp hq hvr ihl ihr ho hoz
 have h1:=Zfy (.agg #[.int .i64 oz,.iface ty tv,.iface uy uv])
 have h2:=Zfx (.agg #[.int .i64 oz,.iface ty tv,.iface uy uv])
 have h3:=Zfz (.agg #[.int .i64 oz,.iface ty tv,.iface uy uv])
 go_enter Tryz.func93,Tryz.ntmps93
 go_upto_region 12 with fail
 refine Z9 fun W hW=>?_
 have hbW:Below w.heap.size w W:=by rw[hW];exact Zbal
 have HX:Hid (BAt W w.heap.size [.int .i64 oz,.iface ty tv,.iface uy uv] 116):=hid (by rw[hW];exact Go.Deep.blk_alloc_new _ _)
 have HMW:=hid (HM.below hbW)
 have HPW:Hid (Ze W l (.iface ty tv)/\Ze W r (.iface uy uv)):=hid ⟨HP.1.below hbW,HP.2.below hbW⟩
 have HBW:Hid (Below w.heap.size w W):=hid hbW
 clear hW hbW h1 h2 h3 hoz0
 have x0:=HX.cell 0
 have x1:=HX.cell 1
 have x2:=HX.cell 2
 simp only[Zget]at x0 x1 x2
 have HSB : Hid (∀ w', BelX x W.heap.size W w' -> w'.cell? ⟨w.heap.size, 0, none⟩ = some (.int .i64 oz) /\ w'.cell? ⟨w.heap.size, 1, none⟩ = some (.iface ty tv) /\ w'.cell? ⟨w.heap.size, 2, none⟩ = some (.iface uy uv)) := hid (fun w' h => by
   have g:=HX.belX h (by omega)
   exact⟨g.cell 0,g.cell 1,g.cell 2⟩)
 go_region_held3 (fun w' => w'.cell? ⟨w.heap.size, 0, none⟩ = some (.int .i64 oz) /\ w'.cell? ⟨w.heap.size, 1, none⟩ = some (.iface ty tv) /\ w'.cell? ⟨w.heap.size, 2, none⟩ = some (.iface uy uv)) (first | exact ⟨x0, x1, x2⟩ | exact HSB.out _ HB7.out | exact HSB.out _ HB6.out | exact HSB.out _ HB5.out | go_keep) (first
   | (go_at_call 93
      refine(HIR.out w5 HM5.out HP5.out).mono ?_
      rintro e w6 ⟨v6,rfl,HV6,HM6,HB6'⟩
      have HB6:Hid (BelX x W.heap.size W w6):=hid (HB5.trans (HB6'.mono HB5.size))
      have HV56:Hid (ValP w6 v5 (sayT (ss.map Srs.ser) tm l)):=hid (HV5.keepsC (Zs.belX HB6'.out HM5.map))
      clear HB6')
   | (go_at_call 93
      refine(HIL.out _ (by exact⟨HMW.m,HMW.g,HMW.map,⟨HMW.sto.row,fun s hs=>(HMW.sto.ok s hs).keepsC (Zs.refl _),HMW.sto.len⟩⟩) (by exact HPW.1.keepsC (Zs.refl _))).mono ?_
      rintro e w5 ⟨v5,rfl,HV5,HM5,HB5'⟩
      have HB5:Hid (BelX x W.heap.size W w5):=hid ⟨HB5'.os,HB5'.tape,HB5'.output,HB5'.size,HB5'.block⟩
      have HP5:Hid (Ze w5 r (.iface uy uv)):=hid (HPW.2.keepsC (Zs.belX HB5.out HMW.map))
      clear HB5')
   | (go_at_call 154
      rw[HOZ.out]
      refine(ZoV nd.op hop v5 v6 _ _ w6 HV56.out HV6.out HVR.out).mono ?_
      rw[<-HOZ.out]
      rintro e w7 ⟨v7,rfl,HV7,hb7⟩
      have HM7:=hid (HM6.below hb7)
      have HB7:Hid (BelX x W.heap.size W w7):=hid (HB6.trans ((BelX.of hb7).mono HB6.size))
      clear hb7))
 have HBf:Hid (BelX x w.heap.size w w7):=hid ((BelX.of HBW.out).trans (HB7.mono HBW.size))
 go_wp2
 go_ret
 exact⟨_,rfl,hid (by rw[HS.out];exact HV7.out),HM7,HBf⟩
theorem Zxm(nd:Nd)(l r:Tr)(a b:Nat)(hk:nd.kind=5)(hop:nd.op<=3)(hnl:nd.by_.length<=100000)(hvl:Zds (sayT (ss.map Srs.ser) tm l)=true)(ihl:Zb5 x mb gb sv ss tm l):Zb5 x mb gb sv ss tm (.node a b nd l r):=by
 intro pv w hM hP
 obtain⟨wd,la,ln,lc,q,hpv,hwd,hnv,hq⟩:∃(wd:ByteArray) (la:Option Addr) (ln lc:Nat) (q:Value),pv=.iface 124 (.agg #[.string wd,.slice la ln lc,q])/\bl wd=ZG.getD nd.op []/\Z4 w (.slice la ln lc) nd.by_/\Ze w l q:=by
  rcases hP with ⟨h,_⟩|⟨h,_⟩|⟨h,_⟩|⟨h,_⟩|⟨_,h⟩|⟨h,_⟩
  ·omega
  ·omega
  ·omega
  ·omega
  ·exact h
  ·omega
 subst hpv
 obtain⟨ty,tv,rfl⟩:=hq.shape
 obtain⟨bs,hbo,hbb⟩:=hnv
 have hbl:bs.length<=100000:=by rw[<-hbb,List.length_map]at hnl;exact hnl
 obtain⟨av,cpv,hav⟩:=Zv hbo
 injection hav with e1 e2 e3
 subst e2
 have HS:Hid (sayT (ss.map Srs.ser) tm (.node a b nd l r)=.vec (Zec nd.op (bs.map bl) (ZeR (sayT (ss.map Srs.ser) tm l)))):=hid (by rw[sayT,if_neg (by omega),if_neg (by omega),if_neg (by omega),if_neg (by omega),if_pos hk,hbb])
 have HM:Hid (MOk x mb gb sv ss tm w):=hM
 have HP:Hid (Ze w l (.iface ty tv)):=hq
 have HBO:Hid (w.ownsRow 0 9 1 (.slice la bs.length lc) bs.length (Zbb bs)):=hbo
 have HIV:Hid (∀W,MOk x mb gb sv ss tm W->Ze W l (.iface ty tv)->Calls Tryz.prog 158 #[.pointer (some ⟨mb,0,none⟩),.iface ty tv] W (VecP x mb gb sv ss tm l W)):=hid (fun W h1 h2=>ZlD l hvl ihl ty tv W h1 h2)
 have HMO:Hid (∀W,Calls Tryz.prog 124 #[.string wd] W _):=hid (fun W=>Zov wd nd.op hop hwd W)
 have hxl:=hM.map.lt
 clear hP hM hq hbo hvl ihl hwd hbb hnl e1 e3
 have h1:=Zgl (.agg #[.string wd,.slice la bs.length lc,.iface ty tv])
 have h2:=Zgk (.agg #[.string wd,.slice la bs.length lc,.iface ty tv])
 have h3:=Zgm (.agg #[.string wd,.slice la bs.length lc,.iface ty tv])
 have h4:=Zgj (.agg #[.string wd,.slice la bs.length lc,.iface ty tv])
 go_enter Tryz.func93,Tryz.ntmps93
 go_wp2_with fail
 refine ZK fun W hW=>?_
 have hbW:Below w.heap.size w W:=by rw[hW];exact Zbal
 have HX:Hid (BAt W w.heap.size [.string wd,.slice la bs.length lc,.iface ty tv] 124):=hid (by rw[hW];exact Go.Deep.blk_alloc_new _ _)
 have HBW:Hid (Below w.heap.size w W):=hid hbW
 clear hW hbW h1 h2 h3 h4
 refine(Zp6 _ W la bs.length lc rfl).mono ?_
 rintro e w2 ⟨rfl,hw2⟩
 have hb2:Below W.heap.size W w2:=by rw[hw2];exact Zbal
 have hc2:w2.cell? ⟨W.heap.size,0,none⟩=some (.slice la bs.length lc):=by rw[hw2];exact World.cell?_alloc_at _ _ _ _ (by simp) |>.trans rfl
 have hs2:W.heap.size<w2.heap.size:=by rw[hw2];simp
 have HSO:=hid (ZpC W.heap.size (.slice la bs.length lc) bs hbl w2 hs2 hc2 (Zw HBO.out (HBW.trans (hb2.mono HBW.size))))
 have HB2:Hid (Below w.heap.size w w2):=hid (HBW.trans (hb2.mono HBW.size))
 have HX2:=hid (HX.below hb2)
 clear hw2 hb2 hc2 hs2 HX HBW
 go_wp2_with fail
 refine HSO.mono ?_
 rintro e w3 ⟨nv,bs',rfl,HN3,hb3⟩
 have HN3:=hid (And.intro (HN3.1.mono (Nat.zero_le _)) HN3.2)
 obtain⟨na,ncp,rfl⟩:=Zv HN3.1
 have HB3:Hid (Below w.heap.size w w3):=hid (HB2.trans (hb3.mono HB2.size))
 have HX3:=hid (HX2.below hb3)
 have HM3:=hid (HM.below HB3.out)
 have HP3:Hid (Ze w3 l (.iface ty tv)):=hid (HP.below HB3.out)
 clear hb3 HX2 HB2 HSO
 have x0:=HX3.cell 0
 have x1:=HX3.cell 1
 have x2:=HX3.cell 2
 have m2:=HM3.m.cell 2
 simp only[Zget]at x0 x1 x2 m2
 have hmx:mb≠x:=by
  intro e
  obtain⟨es,cl,hx⟩:=HM3.map
  have:=HM3.m
  rw[e]at this
  unfold BAt at this
  rw[hx]at this;cases this
 have HSB : Hid (∀ w', BelX x w3.heap.size w3 w' -> w'.cell? ⟨w.heap.size, 0, none⟩ = some (.string wd) /\ w'.cell? ⟨w.heap.size, 2, none⟩ = some (.iface ty tv) /\ w'.cell? ⟨mb, 2, none⟩ = some (.pointer (some ⟨gb, 0, none⟩))) := hid (fun w' h => by
   have g:=HX3.belX h (by omega)
   have g2:=HM3.m.belX h hmx
   exact⟨g.cell 0,g.cell 2,g2.cell 2⟩)
 go_upto_region 16 with fail
 go_region_held3 (fun w' => w'.cell? ⟨w.heap.size, 0, none⟩ = some (.string wd) /\ w'.cell? ⟨w.heap.size, 2, none⟩ = some (.iface ty tv) /\ w'.cell? ⟨mb, 2, none⟩ = some (.pointer (some ⟨gb, 0, none⟩))) (first | exact ⟨x0, x2, m2⟩ | exact HSB.out _ HB7.out | exact HSB.out _ HB6.out | go_keep) (first
   | (go_at_call 124
      refine(HMO.out _).mono ?_
      rintro e w4 ⟨rfl,rfl⟩)
   | (go_at_call 158
      refine(HIV.out _ (by exact⟨HM3.m,HM3.g,HM3.map,⟨HM3.sto.row,fun s hs=>(HM3.sto.ok s hs).keepsC (Zs.refl _),HM3.sto.len⟩⟩) (by exact HP3.keepsC (Zs.refl _))).mono ?_
      rintro e w6 ⟨v6,l6,is6,rfl,HV6,HM6,HB6'⟩
      have HB6:Hid (BelX x w3.heap.size w3 w6):=hid ⟨HB6'.os,HB6'.tape,HB6'.output,HB6'.size,HB6'.block⟩
      have HN6:=hid ((Zs.belX HB6.out HM3.map).own HN3.1)
      clear HB6')
   | (go_at_call 157
      refine(Zu2 gb x nd.op hop _ bs' v6 l6 is6 w6 HM6.g HM6.map HN6.out (by rw[HN3.2.1];exact hbl) HN3.2.2.1 HV6.1).mono ?_
      rintro e w7 ⟨v7,is7,rfl,HV7,hb7⟩
      have HM7:=hid (HM6.belX hb7 HV7.2)
      have HB7:Hid (BelX x w3.heap.size w3 w7):=hid (HB6.trans (hb7.mono HB6.size))
      clear hb7))
 have HBf:Hid (BelX x w.heap.size w w7):=hid ((BelX.of HB3.out).trans (HB7.mono HB3.size))
 have HVf:Hid (VecV w7 v7 (Zec nd.op (bs.map bl) l6) is7):=hid (by rw[<-Ztb HN3.2.2.2];exact HV7.1)
 go_wp2
 go_ret
 exact⟨_,rfl,hid (by rw[HS.out,HV6.2];exact⟨_,is7,rfl,HVf.out⟩),HM7,HBf⟩
end Go.Proofs.YtcdgkkfipdoeeaaGreatDoor
namespace Go.Proofs.YtcdgkkfipdoeeaaGreatDoor
open Go.RowKit LS
variable {x mb gb:Nat} {sv:Value} {ss:List Srs} {tm:Int}
theorem Zlm(ht0 : -1000000<=tm)(ht1:tm<=1000000)(hD:Dst (ss.map Srs.ser))(hN:ss.length<=30):∀t:Tr,wfT t->wT t<=100000->winT t->isNil t=false->Zf t≠0->Zb5 x mb gb sv ss tm t
 | .nil,_,_,_,h,_=>by cases h
 | .node p q a l r, hwf, hwt, hwin, _, hkd => by
   have hwt2:ownW a+wT l+wT r<=100000:=hwt
   have hwl:=hwf.2.2.2.2.2.2.2.2.2.2.1
   have hwr:=hwf.2.2.2.2.2.2.2.2.2.2.2
   have ihl:isNil l=false->Zf l≠0->Zb5 x mb gb sv ss tm l:=fun h hk=>Zlm ht0 ht1 hD hN l hwl (by omega) hwin.2.1 h hk
   have ihr:isNil r=false->Zf r≠0->Zb5 x mb gb sv ss tm r:=fun h hk=>Zlm ht0 ht1 hD hN r hwr (by omega) hwin.2.2 h hk
   have hk6:=hwf.1
   have hnl:=hwf.2.2.2.2.2.2.1
   have hnr:=hwf.2.2.2.2.2.2.2.1
   have vl:isNil l=false->Zf l=2->Zds (sayT (ss.map Srs.ser) tm l)=true:=fun h hk=>by rw[ZiE _ tm l hwl h (by omega),hk];rfl
   have vr:isNil r=false->Zf r=2->Zds (sayT (ss.map Srs.ser) tm r)=true:=fun h hk=>by rw[ZiE _ tm r hwr h (by omega),hk];rfl
   have kl:=Zg1 l
   have kr:=Zg1 r
   unfold Zf at hkd
   rcases(by omega:a.kind=0∨a.kind=1∨a.kind=2∨a.kind=3∨a.kind=4∨a.kind=5∨a.kind=6)with h|h|h|h|h|h|h
   · exact Zxo a l r p q h (by unfold vOk;have:=hwf.2.2.2.2.1;have:=hwf.2.2.2.2.2.1;omega)
   · exact Zxq a l r p q h hD ht0 ht1
   · exact Zxr a l r p q h hwf.2.1 (hwin.1 h) hD ht0 ht1
   · rw[if_neg (by omega),if_neg (by omega),if_pos h]at hkd
     exact Zxn a l r p q h (ihl (hnl (by omega)) hkd)
   · rw[if_neg (by omega),if_neg (by omega),if_neg (by omega),if_neg (by omega)]at hkd
     by_cases hb:Zf l=0∨Zf r=0∨(a.kind=6/\Zf l+Zf r≠4)
     · rw[if_pos hb]at hkd;exact absurd rfl hkd
     · refine Zxl a l r p q h (hwf.2.2.1 h) ((ZiF hD tm r).mono (by rw[List.length_map];omega)) (ihl (hnl (by omega)) (fun e=>hb (Or.inl e))) (ihr (hnr (by omega)) (fun e=>hb (Or.inr (Or.inl e))))
   · rw[if_neg (by omega),if_neg (by omega),if_neg (by omega),if_pos h]at hkd
     by_cases hb:Zf l=2
     · refine Zxm a l r p q h (hwf.2.2.2.1 h) (by have:=ZkS a.by_;unfold ownW at hwt2;omega) (vl (hnl (by omega)) hb) (ihl (hnl (by omega)) (by omega))
     · rw[if_neg hb]at hkd;exact absurd rfl hkd
   · rw[if_neg (by omega),if_neg (by omega),if_neg (by omega),if_neg (by omega)]at hkd
     by_cases hb:Zf l=0∨Zf r=0∨(a.kind=6/\Zf l+Zf r≠4)
     · rw[if_pos hb]at hkd;exact absurd rfl hkd
     · have h4:Zf l+Zf r=4:=by
         refine Classical.byContradiction fun h'=>hb (Or.inr (Or.inr ⟨h,h'⟩))
       exact Zxp a l r p q h (vl (hnl (by omega)) (by omega)) (vr (hnr (by omega)) (by omega)) (ihl (hnl (by omega)) (by omega)) (ihr (hnr (by omega)) (by omega))
end Go.Proofs.YtcdgkkfipdoeeaaGreatDoor
namespace Go.Proofs.YtcdgkkfipdoeeaaGreatDoor
open Go.RowKit LS
def Zed(st:List Ser)(t:Tr)(tm:Int):List UInt8:=Zfv tm (sayT st tm t)
def Zd9(q s:List UInt8)(f l st:Int):List UInt8×Nat×Nat:=match ZB q with
 | .error x=>([],x.1,x.2)
 | .ok t => if (Zbp s).1 ≠ 0 then ([], (Zbp s).1, (Zbp s).2) else match ZeG f l st with
   | none=>([],8,0)
   | some ts=>(ZcB (ts.map (Zed (Zf6 s) t)),0,0)
theorem ZqT(t:Tr)(ts:List Int)(ss:List Srs)(pv sv tv:Value)(w:World)(hts:ts.length<=50)(htr:∀t∈ts,-1000000<=t/\t<=1000000)(hrow:w.ownsRow 0 3 1 tv ts.length (ts.map (Value.int .i64)))(hP:Ze w t pv)(hS:StoP w sv ss)
  (hsay:∀x mb gb tm,-1000000<=tm->tm<=1000000->Zb5 x mb gb sv ss tm t) (hok:∀tm,VOk 30 (sayT (ss.map Srs.ser) tm t)) (hp:Zu w) (hB:20<=w.heap.size) :
  Calls Tryz.prog 42 #[pv,sv,tv] w fun e w'=>∃r:ByteArray,e=.returned (.string r)/\Hid (bl r=ZcB (ts.map (Zed (ss.map Srs.ser) t)))/\Below w.heap.size w w':=by
 obtain⟨i0,hi,hz0,hz1,hz2⟩:=info_parts Tryz.infoStrG
 obtain⟨ta,tcp,rfl⟩:=Zv hrow
 obtain⟨sa,scp,rfl⟩:=Zv hS.row
 obtain⟨pty,pu,rfl⟩:=hP.shape
 have HP:Hid (Zu w):=hp
 have HNG:Hid (20<=w.heap.size):=hB
 have HTR:Hid (∀t∈ts,-1000000<=t/\t<=1000000):=htr
 have HROW:=hid hrow
 have HPV:=hid hP
 have HSV:=hid hS
 have HSAY:=hid hsay
 have HOK:=hid hok
 clear hp hB htr hrow hP hS hsay hok
 go_enter Tryz.func42,Tryz.ntmps42
 go_wp2_with fail
 refine(Zvn w).mono ?_
 rintro e w1 ⟨rfl,HM1,HG1,hs1,hb1⟩
 have HB1:=hid hb1
 have HS1:=hid hs1
 clear hb1 hs1
 go_wp2_with (at_make;refine wpList_make_own _ rfl _ _ 122 rfl (w.heap.size+3) 9 i0 _ 1 Tryz.underlying122 hi hz0 hz1 _ _ _ ts.length rfl rfl rfl ?b2 ?b3 ?b4 ?_)
 case b2=>rw[hz2];omega
 case b3=>unfold maxLen;omega
 case b4=>simp;have:=HS1.out;omega
 intro w2 hown2 hgrow2
 have hs1:=HS1.out
 have HBm:Hid (BAt w2 w1.heap.size [.slice sa ss.length scp,.int .i64 0,.pointer (some ⟨w.heap.size+1,0,none⟩)] 193):=hid (BAt.grown (Go.Deep.blk_alloc_new _ _) hgrow2 (by simp))
 have HBg:Hid (BAt w2 (w.heap.size+1) [.map (some w.heap.size)] 281):=hid ((HG1.alloc _).grown hgrow2 (by simp))
 have HMx:Hid (MapX w2 w.heap.size):=hid ((HM1.below Zbal).grown hgrow2 (by simp))
 have HB2:Hid (Below w.heap.size w w2):=hid ((HB1.alloc (by omega) _).grown hgrow2 (by simp;omega) (fun q hq=>by cases hq))
 have HO2:=hid hown2
 clear hgrow2 hown2
 generalize w1.heap.size=mb at *
 subst hs1
 clear HM1 HG1 HB1 HS1
 go_wp2
 go_loopw [8,19] (fun v i wr=>∃(k:Nat) (rs:List ByteArray) (tm:Int),k<=ts.length/\i=.int .i64 k/\rs.length=k/\Hid (wr.ownsRow (w.heap.size+3) 9 1 v rs.length (Zbb rs))/\Hid (rs.map bl=(ts.take k).map (Zed (ss.map Srs.ser) t))/\Hid (∀r∈rs,r.size<=40000000000)/\Hid (BAt wr (w.heap.size+2) [.slice sa ss.length scp,.int .i64 tm,.pointer (some ⟨w.heap.size+1,0,none⟩)] 193)/\Hid (BAt wr (w.heap.size+1) [.map (some w.heap.size)] 281)/\Hid (MapX wr w.heap.size)/\Hid (Below w.heap.size w wr)) (fun _ i _=>ts.length - (intOf i).toNat)
 case atStart=>exact⟨0,[],0,Nat.zero_le _,rfl,rfl,HO2,hid rfl,hid (fun r hr=>by cases hr),HBm,HBg,HMx,HB2⟩
 case round=>
  rename World=>wo
  obtain⟨k,rs,tm,hk,rfl,hrk,HO,HL,HZ,HBm,HBg,HMx,HB⟩:=hrel
  have hwo:=HB.size
  have hmo:=HBm.lt
  by_cases hlt:k<ts.length
  ·have hg:∃g,ta=some ⟨g,0,none⟩:=by
    obtain⟨g,cp',h⟩:=ZW HROW.out (by omega)
    injection h with h1;exact⟨g,h1⟩
   obtain⟨tg,rfl⟩:=hg
   have d1:=Zr (Zw HROW.out HB.out) k (.int .i64 ts[k]) (by rw[List.getElem?_map,List.getElem?_eq_getElem hlt];rfl)
   have HTK:Hid ((ts.take (k+1)).map (Zed (ss.map Srs.ser) t)=(ts.take k).map (Zed (ss.map Srs.ser) t)++[Zed (ss.map Srs.ser) t ts[k]]):=hid (by rw[List.take_succ_eq_append_getElem hlt,List.map_append];rfl)
   have HTT:=hid (HTR.out _ (List.getElem_mem hlt))
   generalize ts[k]=tk at *
   have hkz:(k:Int)<(ts.length:Int):=by omega
   have y1:=HBm.cell 1
   have fz1:=HBm.frozen 1
   simp only[Zget]at y1
   go_wp2_with fail
   refine ZK fun W hW=>?_
   have HBW:Hid (Below w.heap.size w W):=hid (by rw[hW];exact HB.setCell (by simp) _)
   have hwW:=HBW.size
   have HMO : Hid (MOk w.heap.size (w.heap.size + 2) (w.heap.size + 1) (.slice sa ss.length scp) ss tk W) := hid ⟨by rw [hW]; exact HBm.set1, by rw [hW]; exact HBg.other (by simp) _, by
     obtain⟨es,cl,hx⟩:=HMx.out
     exact⟨es,cl,by rw[hW];exact(Go.Deep.blk_setCell_other _ _ _ _ (by simp)).trans hx⟩,HSV.below HBW.out⟩
   have HOW:Hid (W.ownsRow (w.heap.size+3) 9 1 u8 rs.length (Zbb rs)):=hid (by rw[hW];exact ownsRow_setCell_below HO.out (by simp) _)
   have HPW:=hid (HPV.keepsC (Zs.below HBW.out))
   clear hW HB HO HBm HBg HMx y1 fz1 d1
   refine(HSAY.out w.heap.size (w.heap.size+2) (w.heap.size+1) tk HTT.1 HTT.2 (.iface pty pu) W HMO.out HPW.out).mono ?_
   rintro e w5 ⟨v5,rfl,HV5,HM5,HX5⟩
   have HO5:=hid ((Zs.belX HX5.out HMO.map).own HOW.out)
   have HB5:Hid (Below w.heap.size w w5):=hid (HBW.trans ((HX5.mono hwW).below (Nat.le_refl _)))
   have HP5:=hid (HP.low HB5.out HNG.out)
   have hw5:=HB5.size
   clear HMO HOW HPW HBW HX5
   go_wp2_with fail
   refine(ZuF tk (by have:=HTT.out;unfold vOk;omega) v5 _ w5 HV5.out (HOK.out tk) HP5.out (by have:=HNG.out;omega)).mono ?_
   rintro e w6 ⟨r6,rfl,HR6,hz6,hb6⟩
   have HO6:=hid (Zw HO5.out hb6)
   have HB6:Hid (Below w.heap.size w w6):=hid (HB5.trans (hb6.mono hw5))
   have HM6:=hid (HM5.below hb6)
   have HZ6:=hid hz6
   have hw6:=HB6.size
   have hm6:=HM6.m.lt
   clear hb6 hz6 HO5 HB5 HM5 HP5 HV5
   go_wp2_with (at_builtin;refine wpList_append_own _ rfl (.tmp 25) (.tmp 30) 122 rfl (w.heap.size+3) 9 i0 (.string ByteArray.empty) 1 16 Tryz.underlying122 hi hz0 hz1 hz2 rfl (by decide) _ _ _ rfl (HO6.alloc _) ⟨w6.heap.size,0,none⟩ 1 1 [.string r6] rfl rfl ?c1 ?c2 ?c3 ?c4 ?c5 ?_)
   case c1=>exact ZdH rfl
   case c2=>intro u hu;simp at hu;subst hu;rfl
   case c3=>unfold maxLen;omega
   case c4=>omega
   case c5=>simp;omega
   intro v7 w7 hown7 hgrow7 _
   have HO7:Hid (w7.ownsRow (w.heap.size+3) 9 1 v7 (rs++[r6]).length (Zbb (rs++[r6]))):=hid (by rw[ZhL,List.length_append,hrk];exact hown7)
   have hne:∀a,a<w.heap.size+3->some a≠u8.ownBlock:=fun a ha e=>by have:=(HO6.lt a e.symm).1;omega
   have HBm7:=hid ((HM6.m.alloc _).grown hgrow7 (hne _ (by omega)))
   have HBg7:=hid ((HM6.g.alloc _).grown hgrow7 (hne _ (by omega)))
   have HMx7:=hid ((HM6.map.below Zbal).grown hgrow7 (hne _ (by omega)))
   have HB7:Hid (Below w.heap.size w w7):=hid ((HB6.alloc (by omega) _).grown hgrow7 (by simp;omega) (fun q hq=>by have:=(HO6.lt q hq).1;omega))
   have HL7:Hid ((rs++[r6]).map bl=(ts.take (k+1)).map (Zed (ss.map Srs.ser) t)):=hid (by rw[HTK.out,List.map_append,HL.out,List.map_singleton,HR6.out];rfl)
   have HZ7 : Hid (∀ r ∈ rs ++ [r6], r.size <= 40000000000) := hid (fun r hr => by
     rcases List.mem_append.1 hr with h|h
     · exact HZ.out r h
     · rw[List.mem_singleton]at h;subst h;exact HZ6.out)
   clear hgrow7 hown7 hne
   go_wp2
   go_roundw
   case rel=>exact⟨k+1,rs++[r6],tk,by omega,by go_num,by simp;omega,HO7,HL7,HZ7,HBm7,HBg7,HMx7,HB7⟩
   case measure=>simp[intOf];omega
  ·obtain rfl:k=ts.length:=by omega
   have HL':Hid (rs.map bl=ts.map (Zed (ss.map Srs.ser) t)):=hid (by have:=HL.out;rwa [List.take_length]at this)
   go_wp2_with fail
   refine(ZtI rs HO.out (by omega) HZ.out).mono ?_
   rintro e w5 ⟨r5,rfl,HR5,hb5⟩
   have HB5:Hid (Below w.heap.size w w5):=hid (HB.trans (hb5.mono hwo))
   clear hb5
   go_wp2
   go_ret
   exact⟨_,rfl,hid (by rw[HR5.out,HL'.out]),HB5.out⟩
theorem Zdz{l:List UInt8}{t:Tr}(h:ZB l=.ok t):wfT t/\isNil t=false/\wT t<=100000:=by
 unfold ZB at h
 by_cases hl:300<l.length
 ·rw[if_pos hl]at h;cases h
 ·rw[if_neg hl]at h
  have h1:=Zoc l (l.length+1) 0 (Nat.zero_le _)
  have h2:=Zod l (by omega) (l.length+1) 0
  cases hp:Zj (10*(ZH l (l.length+1) 0).length+5) false 0 .nil (ZH l (l.length+1) 0) 0 with
  | error e=>rw[hp]at h;cases h
  | ok z=>
   obtain⟨t',r⟩:=z
   rw[hp]at h
   have hw:=ZfV _ _ _ _ _ _ _ (fun e=>by cases e) hp
   simp only at h
   by_cases h0:(hd r).kind=0
   ·rw[if_pos h0]at h
    by_cases hk:Zf t'=0
    ·rw[if_pos hk]at h;cases h
    ·rw[if_neg hk]at h
     injection h with h
     subst h
     refine⟨hw.1,hw.2.1,?_⟩
     have h3:=hw.2.2
     rw[if_neg (by decide)]at h3
     simp only at h3
     omega
   ·rw[if_neg h0]at h;cases h
theorem Znm(s:ByteArray)(A:Nat->Addr)(m:Int)(w:World)(hv:Vars w A m)(ht:Zu w)(hB:20<=w.heap.size)(hlim:s.size<=9223372036854775807) :
  Calls Tryz.prog 7 #[.string s] w fun e w'=>∃(r:ByteArray) (c p:Nat),e=.returned (.tuple #[.string r,.int .i64 c,.int .i64 p])/\Hid (Zdy (bl s)=(bl r,c,p))/\Hid ((∃t,ZB (bl s)=.ok t)∨c≠0)/\Below w.heap.size w w':=by
 have HR:Hid (Calls Tryz.prog 17 #[.string s] w _):=Zll s w hlim hv.sents
 have HV:Hid (Vars w A m):=hv
 have HT:Hid (Zu w):=ht
 have HBn:Hid (20<=w.heap.size):=hB
 clear hv ht hB
 go_enter Tryz.func7,Tryz.ntmps7
 go_wp2_with fail
 refine HR.mono ?_
 rintro e w1 ⟨pv,v,rfl,hres,hb1⟩
 have HB1:Hid (Below w.heap.size w w1):=hb1
 have HV1:Hid (Vars w1 A m):=HV.below hb1
 have HT1:Hid (Zu w1):=HT.low hb1 HBn.out
 have HB1n:Hid (20<=w1.heap.size):=Nat.le_trans HBn.out hb1.size
 clear hb1 HR
 cases hq:ZB (bl s)with
 | ok t=>
  rw[hq]at hres
  obtain⟨rfl,hpv⟩:=hres.out
  obtain⟨hwf,hnil,hwt⟩:=Zdz hq
  have HQ:Hid (Zdy (bl s)=(Zm t 1,0,0)):=hid (by unfold Zdy;rw[hq])
  have HX:Hid (∃t,ZB (bl s)=.ok t):=hid ⟨t,hq⟩
  have HC:Hid (Calls Tryz.prog 20 #[pv] w1 _):=Zpi hwf hwt w1 pv hpv HT1.out HB1n.out
  obtain⟨ty,u,hsh⟩:=Ze.shape hpv
  subst hsh
  clear hres hq hpv hwf hnil hwt
  go_wp2_with fail
  refine HC.mono ?_
  rintro e w2 ⟨r,rfl,hr,hb2⟩
  have HB2:Hid (Below w.heap.size w w2):=HB1.trans (hb2.mono HB1.size)
  clear hb2 HC
  go_wp2
  go_ret3
  exact⟨r,0,0,rfl,hid (by rw[HQ.out,hr.out]),hid (Or.inl HX.out),HB2.out⟩
 | error x=>
  rw[hq]at hres
  have HQ:Hid (Zdy (bl s)=([],x.1,x.2)):=hid (by unfold Zdy;rw[hq])
  clear hq
  rcases hres.out with ⟨rfl,rfl⟩|⟨rfl,rfl⟩|⟨hx,he⟩|⟨hx,he⟩
  ·clear hres
   go_wp2_with fail
   refine(ZkO A m _ HV1.out).mono ?_
   rintro e wq ⟨rfl,rfl⟩
   go_wp2_with fail
   refine(Zez A m _ _ HV1.out).mono ?_
   rintro e w2 ⟨rfl,hb2⟩
   have HB2:Hid (Below w.heap.size w w2):=HB1.trans (hb2.mono HB1.size)
   clear hb2
   go_wp2
   go_ret3
   exact⟨⟨#[]⟩,1,0,rfl,HQ,hid (Or.inr (by decide)),HB2.out⟩
  ·clear hres
   go_wp2_with fail
   refine(ZkQ A m _ HV1.out).mono ?_
   rintro e wq ⟨rfl,rfl⟩
   go_wp2_with fail
   refine(Zez A m _ _ HV1.out).mono ?_
   rintro e w2 ⟨rfl,hb2⟩
   have HB2:Hid (Below w.heap.size w w2):=HB1.trans (hb2.mono HB1.size)
   clear hb2
   go_wp2
   go_ret3
   exact⟨⟨#[]⟩,4,0,rfl,HQ,hid (Or.inr (by decide)),HB2.out⟩
  ·obtain⟨x1,x2⟩:=x
   simp only at hx he
   subst hx
   obtain⟨fa,rfl,hc1,hc2⟩:=he.cells
   clear hres he
   have HC1:Hid (w1.cell? ⟨fa,1,none⟩=some (.int .i64 x2)):=hc1
   have HC2:=hid hc2
   clear hc1 hc2
   go_wp2_with fail
   refine(ZkP A m _ HV1.out fa HC2.out).mono ?_
   rintro e wq ⟨rfl,rfl⟩
   go_wp2_with fail
   refine(ZeZ A m fa x2 _ HV1.out HC1.out).mono ?_
   rintro e w2 ⟨rfl,hb2⟩
   have HB2:Hid (Below w.heap.size w w2):=HB1.trans (hb2.mono HB1.size)
   clear hb2
   go_wp2
   go_ret3
   exact⟨⟨#[]⟩,2,x2,rfl,HQ,hid (Or.inr (by decide)),HB2.out⟩
  ·obtain⟨x1,x2⟩:=x
   simp only at hx he
   subst hx
   obtain⟨fa,rfl,hc1,hc2⟩:=he.cells
   clear hres he
   have HC1:Hid (w1.cell? ⟨fa,1,none⟩=some (.int .i64 x2)):=hc1
   have HC2:=hid hc2
   clear hc1 hc2
   go_wp2_with fail
   refine(ZkN A m _ HV1.out fa HC2.out).mono ?_
   rintro e wq ⟨rfl,rfl⟩
   go_wp2_with fail
   refine(ZeZ A m fa x2 _ HV1.out HC1.out).mono ?_
   rintro e w2 ⟨rfl,hb2⟩
   have HB2:Hid (Below w.heap.size w w2):=HB1.trans (hb2.mono HB1.size)
   clear hb2
   go_wp2
   go_ret3
   exact⟨⟨#[]⟩,3,x2,rfl,HQ,hid (Or.inr (by decide)),HB2.out⟩
theorem Zvz(A:Nat->Addr)(m:Int)(w:World)(hv:Vars w A m) :
  Calls Tryz.prog 18 #[.iface 432 (.pointer (some (A 10)))] w fun e w'=>e=.returned (.int .i64 11)/\w'=w:=by
 have N : ∀ x ∈ sents, 10 ≠ x -> w.cell? ⟨x, 0, none⟩ = some (.iface 432 (.pointer (some (A x)))) /\ Hid (Calls Tryz.prog 32 #[.iface 432 (.pointer (some (A 10))), .iface 432 (.pointer (some (A x)))] w fun e w' => e = .returned (.bool false) /\ w' = w) := fun x hx hne => by
   obtain⟨c1,t1,r1⟩:=hv.row 10 (by decide)
   obtain⟨c2,t2,r2⟩:=hv.row x hx
   exact⟨hv.sent x hx,hid (Zco _ _ c1 c2 t1 t2 w (hv.apart _ (by decide) _ hx hne) r1 r2)⟩
 obtain⟨a1,n1⟩:=N 0 (by decide) (by decide)
 obtain⟨a2,n2⟩:=N 1 (by decide) (by decide)
 obtain⟨a3,n3⟩:=N 2 (by decide) (by decide)
 obtain⟨a4,n4⟩:=N 3 (by decide) (by decide)
 obtain⟨a5,n5⟩:=N 4 (by decide) (by decide)
 obtain⟨a6,n6⟩:=N 5 (by decide) (by decide)
 obtain⟨a7,n7⟩:=N 6 (by decide) (by decide)
 obtain⟨a8,n8⟩:=N 7 (by decide) (by decide)
 obtain⟨a9,n9⟩:=N 8 (by decide) (by decide)
 obtain⟨b1,m1⟩:=N 9 (by decide) (by decide)
 have b2:=hv.sent 10 (by decide)
 clear N hv
 go_enter Tryz.func18,Tryz.ntmps18
 go_wp2_with fail
 refine n1.mono ?_
 rintro e w' ⟨rfl,rfl⟩
 go_wp2_with fail
 refine n2.mono ?_
 rintro e w' ⟨rfl,rfl⟩
 go_wp2_with fail
 refine n3.mono ?_
 rintro e w' ⟨rfl,rfl⟩
 go_wp2_with fail
 refine n4.mono ?_
 rintro e w' ⟨rfl,rfl⟩
 go_wp2_with fail
 refine n5.mono ?_
 rintro e w' ⟨rfl,rfl⟩
 go_wp2_with fail
 refine n6.mono ?_
 rintro e w' ⟨rfl,rfl⟩
 go_wp2_with fail
 refine n7.mono ?_
 rintro e w' ⟨rfl,rfl⟩
 go_wp2_with fail
 refine n8.mono ?_
 rintro e w' ⟨rfl,rfl⟩
 go_wp2_with fail
 refine n9.mono ?_
 rintro e w' ⟨rfl,rfl⟩
 go_wp2_with fail
 refine m1.mono ?_
 rintro e w' ⟨rfl,rfl⟩
 go_wp2_with fail
 refine(Zg0 (A 10) _).mono ?_
 rintro e w' ⟨rfl,rfl⟩
 go_wp2
 go_ret
 exact⟨rfl,rfl⟩
end Go.Proofs.YtcdgkkfipdoeeaaGreatDoor

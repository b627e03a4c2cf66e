/- Parts. -/
import Derived.Test.YtkodhpilkaihjaaGreatDoorF34
import Derived.Test.YtkodhpilkaihjaaGreatDoorF23
import Derived.Test.YtkodhpilkaihjaaGreatDoorF27
import Derived.Test.YtkodhpilkaihjaaGreatDoorF10
import Derived.Test.YtkodhpilkaihjaaGreatDoorF13
set_option maxRecDepth 100000
set_option maxHeartbeats 8000000
namespace Go.Proofs.YtkodhpilkaihjaaGreatDoor
open Go.RowKit LS
theorem CodeV.below{w w':World}{c:CodeQ}{cv pv gv iv:Value}(h:CodeV w c cv pv gv iv)(hb:Below w.heap.size w w'):CodeV w' c cv pv gv iv:=
 ⟨Zm h.cs hb,(by obtain⟨xs,h1,h2,h3⟩:=h.ps;exact⟨xs,Zm h1 hb,h2,fun x hx=>(h3 x hx).below hb⟩),(by obtain⟨xs,h1,h2,h3⟩:=h.gs;exact⟨xs,Zm h1 hb,h2,fun x hx=>(h3 x hx).below hb⟩),Zm h.is hb⟩
theorem PCode.below{w w':World}{c:CodeQ}{ss:List Srs}{c0 c1 c2 c3 al:Value}(h:PCode w c ss c0 c1 c2 c3 al)(hb:Below w.heap.size w w'):PCode w' c ss c0 c1 c2 c3 al:=⟨h.cod.below hb,h.sto.below hb,h.dst⟩
theorem Zs2{w0 wk w:World}{mb x gb gx arg:Nat}{c0 c1 c2 c3 al:Value}{t:Int}{ser:List Ser}{m:MQ}{sa:Option Addr}{sn sc:Nat}{vs:List Value}(h:PInv w0 wk w mb x gb gx c0 c1 c2 c3 al t ser m sa sn sc vs){c:CodeQ}{ss:List Srs}(hc:PCode w0 c ss c0 c1 c2 c3 al)(ha:arg<c.consts.length)(hv:vOk (c.consts.getD arg 0))(h64:m.stack.length<64) :
  Zcb w0 wk w mb x gb gx 0 arg c0 c1 c2 c3 al t ser ⟨.val (.sc (c.consts.getD arg 0))::m.stack,m.slots⟩:=by
 unfold Zcb
 have hcs:=(hc.cod.below h.bel).cs
 obtain⟨gc,cc,hcv⟩:=ZV hcs (by omega)
 subst hcv
 have k0:=Zj hcs arg (.int .i64 (c.consts.getD arg 0)) (by rw[List.getElem?_map,List.getElem?_eq_getElem ha,List.getD_eq_getElem?_getD,List.getElem?_eq_getElem ha];rfl)
 have gcl:=ZbX hcs
 have hsn:sn<64:=by have:=h.num;omega
 have HI:=hid h
 have HV:=hid hv
 generalize c.consts.getD arg 0=v at *
 generalize c.consts.length=nc at *
 have haI:(arg:Int)<(nc:Int):=by omega
 have HK:Hid (∀W':World,Below w.heap.size w W'->W'.cell? ⟨gc,arg,none⟩=some (.int .i64 v)):=hid (fun W' hb=>(hb.cell (p:=⟨gc,arg,none⟩) gcl).trans k0)
 clear h hc hcs k0 h64 hv
 go_enter Tryz.func101,Tryz.ntmps101
 go_upto_region 3 with fail
 refine ZK fun W hW=>?_
 have hbW:Below w.heap.size w W:=by rw[hW];exact Zbal
 have HAW:Hid (BAt W w.heap.size [.int .i64 0,.int .i64 arg] 184):=hid (by rw[hW];exact(show BAt _ _ _ _ from Go.Deep.blk_alloc_new w _))
 have HID:=hid (HI.below (hbW.drew))
 have q2:=HK.out W hbW
 have gcW:gc<W.heap.size:=Nat.lt_of_lt_of_le gcl hbW.size
 clear hW hbW HI HK gcl
 generalize w.heap.size=ab at *
 have abW:=HAW.lt
 have mbW:mb<W.heap.size:=HID.st.box.lt
 refine Zb0 11 (fun w'=>w'.cell? ⟨mb,0,none⟩=some (.slice (some ⟨gc,0,none⟩) nc cc)/\w'.cell? ⟨ab,1,none⟩=some (.int .i64 arg)/\w'.cell? ⟨gc,arg,none⟩=some (.int .i64 v)) (by kernel_rfl) (by exact⟨HID.st.box.cell 0,HAW.cell 1,q2⟩) (fun hHeld=>?_)
 clear q2
 refine Zc (i:=0) (d:=14) (v:=?v0) rfl rfl (by kernel_rfl) (fun _ _ _ h=>h) (Or.inl ⟨by rfl,?hy0⟩) hHeld ?rs0
 case hy0=>(intro w hSw;go_simp;try with_reducible rfl)
 case rs0=>
 try simp only[Zset]
 refine Zc (i:=1) (d:=15) (v:=?v1) rfl rfl (by kernel_rfl) (fun _ _ _ h=>h) (Or.inl ⟨by rfl,?hy1⟩) hHeld ?rs1
 case hy1=>(intro w hSw;go_simp;try with_reducible rfl)
 case rs1=>
 try simp only[Zset]
 refine Zc (i:=2) (d:=16) (v:=?v2) rfl rfl (by kernel_rfl) (fun _ _ _ h=>h) (Or.inl ⟨by rfl,?hy2⟩) hHeld ?rs2
 case hy2=>(intro w hSw;go_simp;try with_reducible rfl)
 case rs2=>
 try simp only[Zset]
 refine Zc (i:=3) (d:=17) (v:=?v3) rfl rfl (by kernel_rfl) (fun _ _ _ h=>h) (Or.inl ⟨by rfl,?hy3⟩) hHeld ?rs3
 case hy3=>(intro w hSw;go_simp;try with_reducible rfl)
 case rs3=>
 try simp only[Zset]
 refine Zc (i:=4) (d:=18) (v:=?v4) rfl rfl (by kernel_rfl) (fun _ _ _ h=>h) (Or.inl ⟨by rfl,?hy4⟩) hHeld ?rs4
 case hy4=>(intro w hSw;go_simp;try with_reducible rfl)
 case rs4=>
 try simp only[Zset]
 refine Zc (i:=5) (d:=19) (v:=?v5) rfl rfl (by kernel_rfl) (fun _ _ _ h=>h) (Or.inl ⟨by rfl,?hy5⟩) hHeld ?rs5
 case hy5=>(intro w hSw;go_simp;try with_reducible rfl)
 case rs5=>
 try simp only[Zset]
 refine Zc (i:=6) (d:=20) (v:=?v6) rfl rfl (by kernel_rfl) (fun _ _ _ h=>h) (Or.inl ⟨by rfl,?hy6⟩) hHeld ?rs6
 case hy6=>(intro w hSw;go_simp;try with_reducible rfl)
 case rs6=>
 try simp only[Zset]
 refine Zc (i:=7) (d:=21) (v:=?v7) rfl rfl (by kernel_rfl) (fun _ _ _ h=>h) (Or.inl ⟨by rfl,?hy7⟩) hHeld ?rs7
 case hy7=>(intro w hSw;go_simp;try with_reducible rfl)
 case rs7=>
 try simp only[Zset]
 refine Zc (i:=8) (d:=22) (v:=?v8) rfl rfl (by kernel_rfl) (fun _ _ _ h=>h) (Or.inl ⟨by rfl,?hy8⟩) hHeld ?rs8
 case hy8=>(intro w hSw;go_simp;try with_reducible rfl)
 case rs8=>
 try simp only[Zset]
 refine Zc (i:=9) (d:=23) (v:=?v9) rfl rfl (by kernel_rfl) (fun _ _ _ h=>h) (Or.inl ⟨by rfl,?hy9⟩) hHeld ?rs9
 case hy9=>(intro w hSw;go_simp;try with_reducible rfl)
 case rs9=>
 try simp only[Zset]
 refine Zc (i:=10) (d:=24) (v:=?v10) rfl rfl (by kernel_rfl) (fun _ _ _ h=>h) (Or.inl ⟨by rfl,?hy10⟩) hHeld ?rs10
 case hy10=>(intro w hSw;go_simp;try with_reducible rfl)
 case rs10=>
 try simp only[Zset]
 refine ZbW (by kernel_rfl) (by kernel_rfl) rfl (by kernel_rfl) (fun K hK=>?_)
 go_simp
 refine(Ze2 _ w0.heap.size mb _ _ _ _ al t (.map (some x)) (.pointer (some ⟨gb,0,none⟩)) _ sn _ vs.reverse 340 (.int .i64 v) HID.st (by omega) HID.bel.size).mono ?_
 rintro e w9 ⟨rfl,HP9,HK9⟩
 obtain⟨g9,n9,hp9⟩:=HP9.out
 have HI9:=hid (HID.pushed (v:=.iface 340 (.int .i64 v)) (y:=.val (.sc v)) ⟨rfl,HV.out⟩ hp9 HK9.out)
 clear hp9 HP9 HK9
 clear hHeld HAW HID
 go_simp
 refine hK.out _ _ ?_
 clear hK K
 go_wp2
 exact bodyPost_end (v:=.tuple #[]) (results_none rfl _ _ _) rfl ⟨rfl,hid ⟨_,_,_,_,HI9.out⟩⟩
theorem Zs8{w0 wk w:World}{mb x gb gx arg:Nat}{c0 c1 c2 c3 al:Value}{t:Int}{ser:List Ser}{m:MQ}{sa:Option Addr}{sn sc:Nat}{vs:List Value}(h:PInv w0 wk w mb x gb gx c0 c1 c2 c3 al t ser m sa sn sc vs){c:CodeQ}{ss:List Srs}(hc:PCode w0 c ss c0 c1 c2 c3 al)(he:ser=ss.map Srs.ser)(ha:arg<c.picks.length)(hn:(c.picks.getD arg nd00).2<=1000)(h64:m.stack.length<64)(ht0 : -1000000<=t)(ht1:t<=1000000) :
  Zcb w0 wk w mb x gb gx 1 arg c0 c1 c2 c3 al t ser ⟨ZdG ser t (c.picks.getD arg nd00)::m.stack,m.slots⟩:=by
 unfold Zcb
 have hcw:=hc.below h.bel
 obtain⟨xs,hps,hpr,hok⟩:=hcw.cod.ps
 have hxl:xs.length=c.picks.length:=by rw[<-hpr,List.length_map]
 have hax:arg<xs.length:=by omega
 obtain⟨gp,pc,hpv⟩:=ZV hps (by omega)
 subst hpv
 obtain⟨e0,e1,e2⟩:=Zkn xs arg hax
 have k0:=Zj hps _ _ e0
 have k1:=Zj hps _ _ e1
 have k2:=Zj hps _ _ e2
 have gpl:=ZbX hps
 have hxo:=hok _ (List.getElem_mem hax)
 have hge:c.picks.getD arg nd00=xs[arg].pr:=by rw[<-hpr,List.getD_eq_getElem?_getD,List.getElem?_map,List.getElem?_eq_getElem hax];rfl
 rw[hge]at hn ⊢
 rw[hxl]at hps
 generalize xs[arg]=p at *
 have hsn:sn<64:=by have:=h.num;omega
 have HI:=hid h
 have HXO:=hid hxo
 have HSTO:=hid hcw.sto
 have HDST:=hid hcw.dst
 have hnp:p.n<=1000:=hn
 have haN:arg<xs.length:=hax
 generalize xs.length=np at *
 have haI:(arg:Int)<(np:Int):=by omega
 have HK:Hid (∀W':World,Below w.heap.size w W'->W'.cell? ⟨gp,arg*3,none⟩=some (.string p.nm)/\W'.cell? ⟨gp,arg*3+1,none⟩=some (.slice p.la p.ln p.lc)/\W'.cell? ⟨gp,arg*3+2,none⟩=some (.int .i64 p.n)):=hid (fun W' hb=>⟨(hb.cell (p:=⟨gp,arg*3,none⟩) gpl).trans k0,(hb.cell (p:=⟨gp,arg*3+1,none⟩) gpl).trans k1,(hb.cell (p:=⟨gp,arg*3+2,none⟩) gpl).trans k2⟩)
 clear h hc hcw hps k0 k1 k2 e0 e1 e2 h64 hok hxo hpr hge hn ha hxl
 subst he
 go_enter Tryz.func101,Tryz.ntmps101
 go_upto_region 5 with fail
 refine ZK fun W hW=>?_
 have hbW:Below w.heap.size w W:=by rw[hW];exact Zbal
 have HAW:Hid (BAt W w.heap.size [.int .i64 1,.int .i64 arg] 184):=hid (by rw[hW];exact(show BAt _ _ _ _ from Go.Deep.blk_alloc_new w _))
 have HID:=hid (HI.below (hbW.drew))
 obtain⟨q0,q1,q2⟩:=HK.out W hbW
 have HXD:=hid (HXO.below hbW.drew)
 have HSD:=hid (HSTO.below hbW.drew)
 have gpW:gp<W.heap.size:=Nat.lt_of_lt_of_le gpl hbW.size
 clear hW hbW HI HK gpl HXO HSTO
 generalize w.heap.size=ab at *
 have abW:=HAW.lt
 have mbW:mb<W.heap.size:=HID.st.box.lt
 have HQ:Hid (W.cell? ⟨gp,arg*3,none⟩=some (.string p.nm)/\W.cell? ⟨gp,arg*3+1,none⟩=some (.slice p.la p.ln p.lc)/\W.cell? ⟨gp,arg*3+2,none⟩=some (.int .i64 p.n)):=hid ⟨q0,q1,q2⟩
 refine Zb0 12 (fun w'=>w'.cell? ⟨mb,1,none⟩=some (.slice (some ⟨gp,0,none⟩) np pc)/\w'.cell? ⟨ab,1,none⟩=some (.int .i64 arg)/\w'.cell? ⟨gp,arg*3,none⟩=some (.string p.nm)/\w'.cell? ⟨gp,arg*3+1,none⟩=some (.slice p.la p.ln p.lc)/\w'.cell? ⟨gp,arg*3+2,none⟩=some (.int .i64 p.n)) (by kernel_rfl) (by exact⟨HID.st.box.cell 1,HAW.cell 1,q0,q1,q2⟩) (fun hHeld=>?_)
 clear q0 q1 q2
 refine Zc (i:=0) (d:=28) (v:=?v0) rfl rfl (by kernel_rfl) (fun _ _ _ h=>h) (Or.inl ⟨by rfl,?hy0⟩) hHeld ?rs0
 case hy0=>(intro w hSw;go_simp;try with_reducible rfl)
 case rs0=>
 try simp only[Zset]
 refine Zc (i:=1) (d:=29) (v:=?v1) rfl rfl (by kernel_rfl) (fun _ _ _ h=>h) (Or.inl ⟨by rfl,?hy1⟩) hHeld ?rs1
 case hy1=>(intro w hSw;go_simp;try with_reducible rfl)
 case rs1=>
 try simp only[Zset]
 refine Zc (i:=2) (d:=30) (v:=?v2) rfl rfl (by kernel_rfl) (fun _ _ _ h=>h) (Or.inl ⟨by rfl,?hy2⟩) hHeld ?rs2
 case hy2=>(intro w hSw;go_simp;try with_reducible rfl)
 case rs2=>
 try simp only[Zset]
 refine Zc (i:=3) (d:=31) (v:=?v3) rfl rfl (by kernel_rfl) (fun _ _ _ h=>h) (Or.inl ⟨by rfl,?hy3⟩) hHeld ?rs3
 case hy3=>(intro w hSw;go_simp;try with_reducible rfl)
 case rs3=>
 try simp only[Zset]
 refine Zc (i:=4) (d:=32) (v:=?v4) rfl rfl (by kernel_rfl) (fun _ _ _ h=>h) (Or.inl ⟨by rfl,?hy4⟩) hHeld ?rs4
 case hy4=>(intro w hSw;go_simp;try with_reducible rfl)
 case rs4=>
 try simp only[Zset]
 refine Zc (i:=5) (d:=33) (v:=?v5) rfl rfl (by kernel_rfl) (fun _ _ _ h=>h) (Or.inl ⟨by rfl,?hy5⟩) hHeld ?rs5
 case hy5=>(intro w hSw;go_simp;try with_reducible rfl)
 case rs5=>
 try simp only[Zset]
 refine Zc (i:=6) (d:=34) (v:=?v6) rfl rfl (by kernel_rfl) (fun _ _ _ h=>h) (Or.inl ⟨by rfl,?hy6⟩) hHeld ?rs6
 case hy6=>(intro w hSw;go_simp;try with_reducible rfl)
 case rs6=>
 try simp only[Zset]
 refine Zc (i:=7) (d:=35) (v:=?v7) rfl rfl (by kernel_rfl) (fun _ _ _ h=>h) (Or.inl ⟨by rfl,?hy7⟩) hHeld ?rs7
 case hy7=>(intro w hSw;go_simp;try with_reducible rfl)
 case rs7=>
 try simp only[Zset]
 refine Zc (i:=8) (d:=36) (v:=?v8) rfl rfl (by kernel_rfl) (fun _ _ _ h=>h) (Or.inl ⟨by rfl,?hy8⟩) hHeld ?rs8
 case hy8=>(intro w hSw;go_simp;try with_reducible rfl)
 case rs8=>
 try simp only[Zset]
 refine Zc (i:=9) (d:=37) (v:=?v9) rfl rfl (by kernel_rfl) (fun _ _ _ h=>h) (Or.inl ⟨by rfl,?hy9⟩) hHeld ?rs9
 case hy9=>(intro w hSw;go_simp;try with_reducible rfl)
 case rs9=>
 try simp only[Zset]
 refine Zc (i:=10) (d:=38) (v:=?v10) rfl rfl (by kernel_rfl) (fun _ _ _ h=>h) (Or.inl ⟨by rfl,?hy10⟩) hHeld ?rs10
 case hy10=>(intro w hSw;go_simp;try with_reducible rfl)
 case rs10=>
 try simp only[Zset]
 refine ZbN (i:=11) (by kernel_rfl) rfl (fun K hK=>?_)
 go_simp
 refine(Zsd _ mb c0 (.slice (some ⟨gp,0,none⟩) np pc) c2 c3 al _ _ _ t ss p.nm p.la p.ln p.lc p.n p.nd HID.st.box HSD.out HDST.out HXD.nm HXD.cs hnp ht0 ht1).mono ?_
 rintro e w2 ⟨v2,rfl,HV2,hb2⟩
 obtain⟨ty,u,rfl⟩:=HV2.shape
 go_simp
 have HI2:=hid (HID.below hb2)
 have HA2:=hid ((HAW.below (Below.refl _ _).drew).below hb2)
 refine hK.out _ _ ⟨HI2.st.box.cell 1,HA2.cell 1,(hb2.cell (p:=⟨gp,arg*3,none⟩) gpW).trans HQ.1,(hb2.cell (p:=⟨gp,arg*3+1,none⟩) gpW).trans HQ.2.1,(hb2.cell (p:=⟨gp,arg*3+2,none⟩) gpW).trans HQ.2.2⟩ (fun hHeld=>?_)
 clear hK K hb2 HID HAW HQ HXD HSD HDST
 try simp only[Act.put,Zset]
 refine ZbW (by kernel_rfl) (by kernel_rfl) rfl (by kernel_rfl) (fun K hK=>?_)
 go_simp
 refine(Ze2 _ w0.heap.size mb _ _ _ _ al t (.map (some x)) (.pointer (some ⟨gb,0,none⟩)) _ sn _ vs.reverse ty u HI2.st (by omega) HI2.bel.size).mono ?_
 rintro e w9 ⟨rfl,HP9,HK9⟩
 obtain⟨g9,n9,hp9⟩:=HP9.out
 have HI9:=hid (HI2.pushed HV2.out hp9 HK9.out)
 clear hp9 HP9 HK9
 clear hHeld HA2 HI2 HV2
 go_simp
 refine hK.out _ _ ?_
 clear hK K
 go_wp2
 exact bodyPost_end (v:=.tuple #[]) (results_none rfl _ _ _) rfl ⟨rfl,hid ⟨_,_,_,_,HI9.out⟩⟩
theorem Zs4{w0 wk w:World}{mb x gb gx arg:Nat}{c0 c1 c2 c3 al:Value}{t:Int}{ser:List Ser}{m:MQ}{sa:Option Addr}{sn sc:Nat}{vs:List Value}(h:PInv w0 wk w mb x gb gx c0 c1 c2 c3 al t ser m sa sn sc vs){op:Nat}(h5:5<=op)(h8:op<=8){c:CodeQ}{ss:List Srs}(hc:PCode w0 c ss c0 c1 c2 c3 al)(ha:arg<c.groups.length){l:List El}{ys:List Cl}(hs:m.stack=.val (.vec l)::ys)(h64:m.stack.length<=64) :
  Zcb w0 wk w mb x gb gx op arg c0 c1 c2 c3 al t ser ⟨.val (.vec (ZcP (op - 5) (c.groups.getD arg []) l))::ys,m.slots⟩:=by
 unfold Zcb
 have hcw:=hc
 obtain⟨xs,hgs,hns,hok⟩:=hcw.cod.gs
 have hxl:xs.length=c.groups.length:=by rw[<-hns,List.length_map]
 have hax:arg<xs.length:=by omega
 obtain⟨gp,pc,hpv⟩:=ZV hgs (by omega)
 subst hpv
 have k0:=Zj hgs arg (.slice xs[arg].la xs[arg].ln xs[arg].lc) (by unfold ZeP;rw[List.getElem?_map,List.getElem?_eq_getElem hax];rfl)
 have gpl:=ZbX hgs
 obtain⟨bs,hrow,hsort,hmem,hbl⟩:=hok _ (List.getElem_mem hax)
 have hge:c.groups.getD arg []=xs[arg].ns:=by rw[<-hns,List.getD_eq_getElem?_getD,List.getElem?_map,List.getElem?_eq_getElem hax];rfl
 rw[hge,<-ZkR hmem]
 generalize xs[arg]=p at *
 have HROW:=hid hrow
 have HNM:Hid (NmS bs):=hid (List.pairwise_map.1 hsort)
 have HK:Hid (∀W':World,Below w0.heap.size w0 W'->W'.cell? ⟨gp,arg,none⟩=some (.slice p.la p.ln p.lc)):=hid (fun W' hb=>(hb.cell (p:=⟨gp,arg,none⟩) gpl).trans k0)
 generalize xs.length=np at *
 have haI:(arg:Int)<(np:Int):=by omega
 clear hc hcw hgs k0 hok hns hge hrow hsort hmem ha hxl
 obtain⟨v,vs',n,rfl,rfl,_,hn⟩:=h.top hs
 have hk:n<=64:=by rw[hs,List.length_cons]at h64;omega
 have HI:Hid (PInv w0 wk w mb x gb gx _ _ _ _ al t ser ⟨.val (.vec l)::ys,m.slots⟩ sa (n+1) sc (v::vs')):=hid (by rw[<-hs];exact h)
 clear h hs h64 hn
 have hopI:IntKind.i64.wrap ((op:Int) - 5)=((op - 5:Nat):Int):=by rw[IntKind.wrap_i64];omega
 have ho5:op - 5<=3:=by omega
 have o0:¬((op:Int)=0):=by omega
 have o1:¬((op:Int)=1):=by omega
 have o2:¬((op:Int)=2):=by omega
 have o3:¬((op:Int)=3):=by omega
 have o4:¬((op:Int)=4):=by omega
 go_enter Tryz.func101,Tryz.ntmps101
 go_upto_region 14 with fail
 refine ZK fun W hW=>?_
 have hbW:Below w.heap.size w W:=by rw[hW];exact Zbal
 have HAW:Hid (BAt W w.heap.size [.int .i64 op,.int .i64 arg] 184):=hid (by rw[hW];exact(show BAt _ _ _ _ from Go.Deep.blk_alloc_new w _))
 have HIW:=hid (HI.below hbW)
 clear hW hbW HI o0 o1 o2 o3 o4
 generalize w.heap.size=ab at *
 go_upto_if 77 with fail
 go_cut [77] (fun s77 wx=>s77=.bool true/\wx=W)
 case first=>
  rcases(by omega:op=5∨op=6∨op=7∨op=8)with rfl|rfl|rfl|rfl <;> (go_wp2;go_meet;exact⟨rfl,rfl⟩)
 case rest=>
 obtain⟨rfl,rfl⟩:=hcut
 go_wp2_with fail
 refine(ZeI _ w0.heap.size mb _ _ _ _ al t (.map (some x)) (.pointer (some ⟨gb,0,none⟩)) sa n sc vs'.reverse v (by have:=HIW.st;rwa [List.reverse_cons]at this) (by omega)).mono ?_
 rintro e w2 ⟨rfl,HP,HG⟩
 have HI2:=hid (HIW.popped HP.out HG.out).1
 have HC2:=hid (HIW.popped HP.out HG.out).2
 have HA2:Hid (BAt w2 ab [.int .i64 op,.int .i64 arg] 184):=hid (ZfO HAW.out HG.out HIW.st.box (by decide))
 clear HIW HP HG HAW
 obtain⟨s2,is2,rfl,hv2⟩:=HC2.out
 obtain⟨ra,rc,rfl⟩:=Zr hv2.row
 have HV2:=hid hv2
 clear hv2 HC2
 have hta:=asVV (.slice ra is2.length rc)
 go_upto_region 19 with fail
 have HD:Hid (Below w2.heap.size w2 w2.drew):=hid (Below.refl _ _).drew
 have HID:=hid (HI2.below HD.out)
 have HAD:=hid (HA2.below HD.out)
 have q2:=HK.out w2.drew HID.bel
 have HB0:=hid HID.bel
 have abW:=HA2.lt
 have mbW:mb<w2.heap.size:=HI2.st.box.lt
 have gpW:gp<w2.heap.size:=Nat.lt_of_lt_of_le gpl HI2.bel.size
 have HVD:=hid (HV2.below HD.out)
 clear HI2 HA2 HV2 HD
 refine Zb0 20 (fun w'=>w'.cell? ⟨mb,8,none⟩=some (.pointer (some ⟨gb,0,none⟩))/\w'.cell? ⟨ab,0,none⟩=some (.int .i64 op)/\w'.cell? ⟨mb,2,none⟩=some (.slice (some ⟨gp,0,none⟩) np pc)/\w'.cell? ⟨ab,1,none⟩=some (.int .i64 arg)/\w'.cell? ⟨gp,arg,none⟩=some (.slice p.la p.ln p.lc)) (by kernel_rfl) (by exact⟨HID.st.box.cell 8,HAD.cell 0,HID.st.box.cell 2,HAD.cell 1,q2⟩) (fun hHeld=>?_)
 clear q2
 refine Zc (i:=0) (d:=88) (v:=?v0) rfl rfl (by kernel_rfl) (fun _ _ _ h=>h) (Or.inl ⟨by rfl,?hy0⟩) hHeld ?rs0
 case hy0=>(intro w hSw;go_simp;try with_reducible rfl)
 case rs0=>
 try simp only[Zset]
 refine Zc (i:=1) (d:=89) (v:=?v1) rfl rfl (by kernel_rfl) (fun _ _ _ h=>h) (Or.inl ⟨by rfl,?hy1⟩) hHeld ?rs1
 case hy1=>(intro w hSw;go_simp;try with_reducible rfl)
 case rs1=>
 try simp only[Zset]
 refine Zc (i:=2) (d:=90) (v:=?v2) rfl rfl (by kernel_rfl) (fun _ _ _ h=>h) (Or.inl ⟨by rfl,?hy2⟩) hHeld ?rs2
 case hy2=>(intro w hSw;go_simp;try with_reducible rfl)
 case rs2=>
 try simp only[Zset]
 refine Zc (i:=3) (d:=91) (v:=?v3) rfl rfl (by kernel_rfl) (fun _ _ _ h=>h) (Or.inl ⟨by rfl,?hy3⟩) hHeld ?rs3
 case hy3=>(intro w hSw;go_simp;try with_reducible rfl)
 case rs3=>
 try simp only[Zset]
 refine Zc (i:=4) (d:=92) (v:=?v4) rfl rfl (by kernel_rfl) (fun _ _ _ h=>h) (Or.inl ⟨by rfl,?hy4⟩) hHeld ?rs4
 case hy4=>(intro w hSw;go_simp;try with_reducible rfl)
 case rs4=>
 try simp only[Zset]
 refine Zc (i:=5) (d:=93) (v:=?v5) rfl rfl (by kernel_rfl) (fun _ _ _ h=>h) (Or.inl ⟨by rfl,?hy5⟩) hHeld ?rs5
 case hy5=>(intro w hSw;go_simp;try with_reducible rfl)
 case rs5=>
 try simp only[Zset]
 refine Zc (i:=6) (d:=94) (v:=?v6) rfl rfl (by kernel_rfl) (fun _ _ _ h=>h) (Or.inl ⟨by rfl,?hy6⟩) hHeld ?rs6
 case hy6=>(intro w hSw;go_simp;try with_reducible rfl)
 case rs6=>
 try simp only[Zset]
 refine Zc (i:=7) (d:=95) (v:=?v7) rfl rfl (by kernel_rfl) (fun _ _ _ h=>h) (Or.inl ⟨by rfl,?hy7⟩) hHeld ?rs7
 case hy7=>(intro w hSw;go_simp;try with_reducible rfl)
 case rs7=>
 try simp only[Zset]
 refine Zc (i:=8) (d:=96) (v:=?v8) rfl rfl (by kernel_rfl) (fun _ _ _ h=>h) (Or.inl ⟨by rfl,?hy8⟩) hHeld ?rs8
 case hy8=>(intro w hSw;go_simp;try with_reducible rfl)
 case rs8=>
 try simp only[Zset]
 refine Zc (i:=9) (d:=97) (v:=?v9) rfl rfl (by kernel_rfl) (fun _ _ _ h=>h) (Or.inl ⟨by rfl,?hy9⟩) hHeld ?rs9
 case hy9=>(intro w hSw;go_simp;try with_reducible rfl)
 case rs9=>
 try simp only[Zset]
 refine Zc (i:=10) (d:=98) (v:=?v10) rfl rfl (by kernel_rfl) (fun _ _ _ h=>h) (Or.inl ⟨by rfl,?hy10⟩) hHeld ?rs10
 case hy10=>(intro w hSw;go_simp;try with_reducible rfl)
 case rs10=>
 try simp only[Zset]
 refine Zc (i:=11) (d:=99) (v:=?v11) rfl rfl (by kernel_rfl) (fun _ _ _ h=>h) (Or.inl ⟨by rfl,?hy11⟩) hHeld ?rs11
 case hy11=>(intro w hSw;go_simp;try with_reducible rfl)
 case rs11=>
 try simp only[Zset]
 refine Zc (i:=12) (d:=100) (v:=?v12) rfl rfl (by kernel_rfl) (fun _ _ _ h=>h) (Or.inl ⟨by rfl,?hy12⟩) hHeld ?rs12
 case hy12=>(intro w hSw;go_simp;try with_reducible rfl)
 case rs12=>
 try simp only[Zset]
 refine Zc (i:=13) (d:=101) (v:=?v13) rfl rfl (by kernel_rfl) (fun _ _ _ h=>h) (Or.inl ⟨by rfl,?hy13⟩) hHeld ?rs13
 case hy13=>(intro w hSw;go_simp;try with_reducible rfl)
 case rs13=>
 try simp only[Zset]
 refine Zc (i:=14) (d:=102) (v:=?v14) rfl rfl (by kernel_rfl) (fun _ _ _ h=>h) (Or.inl ⟨by rfl,?hy14⟩) hHeld ?rs14
 case hy14=>(intro w hSw;go_simp;try with_reducible rfl)
 case rs14=>
 try simp only[Zset]
 refine Zc (i:=15) (d:=103) (v:=?v15) rfl rfl (by kernel_rfl) (fun _ _ _ h=>h) (Or.inl ⟨by rfl,?hy15⟩) hHeld ?rs15
 case hy15=>(intro w hSw;go_simp;try with_reducible rfl)
 case rs15=>
 try simp only[Zset]
 refine Zc (i:=16) (d:=104) (v:=?v16) rfl rfl (by kernel_rfl) (fun _ _ _ h=>h) (Or.inl ⟨by rfl,?hy16⟩) hHeld ?rs16
 case hy16=>(intro w hSw;go_simp;try with_reducible rfl)
 case rs16=>
 try simp only[Zset]
 refine Zc (i:=17) (d:=105) (v:=?v17) rfl rfl (by kernel_rfl) (fun _ _ _ h=>h) (Or.inl ⟨by rfl,?hy17⟩) hHeld ?rs17
 case hy17=>(intro w hSw;go_simp;try with_reducible rfl)
 case rs17=>
 try simp only[Zset]
 refine ZbN (i:=18) (by kernel_rfl) rfl (fun K hK=>?_)
 go_simp
 refine(Zlu gb gx (op - 5) ho5 (.slice p.la p.ln p.lc) bs (.slice ra is2.length rc) l is2 _ HID.gr HID.gm (Zm HROW.out HB0.out) (by omega) HNM.out HVD.out).mono ?_
 rintro e w3 ⟨v3,is3,rfl,HV3,hbx⟩
 go_simp
 have HI3:=hid (HID.belX hbx HV3.2)
 have HA3:Hid (BAt w3 ab [.int .i64 op,.int .i64 arg] 184):=hid (Zh.belX hbx HID.gm _ _ _ _ HAD.out)
 refine hK.out _ _ ⟨HI3.st.box.cell 8,HA3.cell 0,HI3.st.box.cell 2,HA3.cell 1,HK.out w3 HI3.bel⟩ (fun hHeld=>?_)
 have HC3:Hid (PelV w3 ser t (.iface 342 v3) (.val (.vec (ZcP (op - 5) (bs.map bl) l)))):=hid ⟨_,_,rfl,HV3.1⟩
 clear hK K hbx HV3 HID HAD HVD HB0 HK HROW HNM HA3
 try simp only[Act.put,Zset]
 refine Zc (i:=19) (d:=107) (v:=?v19) rfl rfl (by kernel_rfl) (fun _ _ _ h=>h) (Or.inl ⟨by rfl,?hy19⟩) hHeld ?rs19
 case hy19=>(intro w hSw;go_simp;try with_reducible rfl)
 case rs19=>
 try simp only[Zset]
 refine ZbW (by kernel_rfl) (by kernel_rfl) rfl (by kernel_rfl) (fun K hK=>?_)
 go_simp
 refine(Ze2 _ w0.heap.size mb _ _ _ _ al t (.map (some x)) (.pointer (some ⟨gb,0,none⟩)) _ n _ vs'.reverse 342 v3 HI3.st (by omega) HI3.bel.size).mono ?_
 rintro e w9 ⟨rfl,HP9,HK9⟩
 obtain⟨g9,n9,hp9⟩:=HP9.out
 have HI9:=hid (HI3.pushed HC3.out hp9 HK9.out)
 clear hp9 HP9 HK9
 clear hHeld HI3 HC3
 go_simp
 refine hK.out _ _ ?_
 clear hK K
 go_wp2
 exact bodyPost_end (v:=.tuple #[]) (results_none rfl _ _ _) rfl ⟨rfl,hid ⟨_,_,_,_,HI9.out⟩⟩
end Go.Proofs.YtkodhpilkaihjaaGreatDoor
namespace Go.Proofs.YtkodhpilkaihjaaGreatDoor.LS
open Go Go.RowKit
theorem ZtO{l:List UInt8}{t:Tr}(h:Z4 l=.ok t):wfT t/\isNil t=false/\wT t<=100000:=by
 unfold Z4 at h
 by_cases hl:300<l.length
 ·rw[if_pos hl]at h;cases h
 ·rw[if_neg hl]at h
  have h1:=Zg7 l (l.length+1) 0 (Nat.zero_le _)
  have h2:=Zg8 l (by omega) (l.length+1) 0
  cases hp:Zz (10*(ZU l (l.length+1) 0).length+5) false 0 .nil (ZU l (l.length+1) 0) 0 with
  | error e=>rw[hp]at h;cases h
  | ok z=>
   obtain⟨t',r⟩:=z
   rw[hp]at h
   have hw:=ZeZ _ _ _ _ _ _ _ (fun e=>by cases e) hp
   simp only at h
   by_cases h0:(hd r).kind=0
   ·rw[if_pos h0]at h
    by_cases hk:Zk t'=0
    ·rw[if_pos hk]at h;cases h
    ·rw[if_neg hk]at h
     injection h with h
     subst h
     refine⟨hw.1,hw.2.1,?_⟩
     have h3:=hw.2.2
     rw[if_neg (by decide)]at h3
     simp only at h3
     omega
   ·rw[if_neg h0]at h;cases h
structure CodeB (c:CodeQ):Prop where
 cs:∀x∈c.consts,vOk x
 ps:∀x∈c.picks,x.2<=1000/\x.1.conds.length<=100000
 gs:∀x∈c.groups,x.length<=70000
theorem ZeW{α:Type}{one:Nat->RdR α}{p:Nat} : ∀ {k:Nat} {xs:List α} {q:Nat},many one p k=.ok (xs,q)->∀x∈xs,∃a b,one a=.ok (x,b)
 | 0,xs,q,h,x,hx=>by injection h with h;injection h with h1 h2;subst h1;cases hx
 | k + 1, xs, q, h, x, hx => by
   unfold many at h
   cases hm:many one p k with
   | error e=>rw[hm]at h;cases h
   | ok y=>
     rw[hm]at h
     simp only at h
     cases ho:one y.2 with
     | error e=>rw[ho]at h;cases h
     | ok z=>
       rw[ho]at h
       injection h with h;injection h with h1 h2
       subst h1
       rcases List.mem_append.1 hx with hx|hx
       · exact ZeW (show many one p k=.ok (y.1,y.2) from hm) x hx
       · rw[List.mem_singleton]at hx;subst hx;exact⟨_,_,ho⟩
theorem ZoB{l:List UInt8}{a b:Nat}{x:Int}(h:Zbw l a=.ok (x,b)):vOk x:=by
 unfold Zbw at h
 split at h
 ·cases h
 ·split at h
  ·cases h
  ·rename_i hn
   injection h with h;injection h with h1 h2;subst h1
   unfold vOk;omega
theorem Zve{l:List UInt8}{p q:Nat}{t:List UInt8}(h:Zb8 l p=.ok (t,q)):t.length<=65535:=by
 unfold Zb8 at h
 split at h
 ·cases h
 ·rename_i y hy
  have hy2:y.1<65536:=by
   unfold Z8 at hy
   split at hy
   ·cases hy
   ·rename_i z hz
    injection hy with hy;subst hy
    have:=(ZfF hz).2.1
    exact Zev (n:=2) (by rw[this];unfold sub;rw[List.length_take];omega)
  have:=(ZfF h).2.1
  simp only at this
  rw[this];unfold sub;rw[List.length_take];omega
theorem Zkc:∀l:List (List UInt8×List UInt8×Bool),l.length<=cw l
 | []=>Nat.le_refl _
 | c::l=>by have:=Zkc l;simp only[cw,List.length_cons];omega
theorem Zmy{l:List UInt8}{a:Nd}(h:selQ l=some a):a.conds.length<=100000:=by
 unfold selQ at h
 split at h
 ·rename_i x y b p q hr
  split at h
  ·injection h with h;subst h
   have hw:=(ZtO hr).2.2
   have h1:=Zkc b.conds
   simp only[wT,ownW]at hw
   omega
  ·cases h
 ·cases h
theorem Ztd{t:List UInt8}{x:Nd×Nat}(h:ZbA t=some x):x.2<=1000/\x.1.conds.length<=100000:=by
 unfold ZbA at h
 split at h
 ·cases hs:selQ t with
  | none=>rw[hs]at h;cases h
  | some a=>rw[hs]at h;injection h with h;subst h;exact⟨by simp,Zmy hs⟩
 ·rename_i p _
  split at h
  ·split at h
   ·rename_i n hn
    split at h
    ·cases h
    ·cases hs:selQ (t.take p)with
     | none=>rw[hs]at h;cases h
     | some a=>rw[hs]at h;injection h with h;subst h;exact⟨Zft hn,Zmy hs⟩
   ·cases h
  ·cases h
theorem ZpJ{t:List UInt8}{x:List (List UInt8)}(h:Zcx t=some x)(ht:t.length<=65535):x.length<=70000:=by
 unfold Zcx at h
 split at h
 ·injection h with h;subst h;exact Nat.zero_le _
 ·split at h
  ·injection h with h;subst h;have:=ZfA 44 t;omega
  ·cases h
theorem ZoL{l:List UInt8}{c:CodeQ}(h:Zbg l=.ok c):CodeB c:=by
 unfold Zbg at h
 split at h
 ·cases h
 ·split at h
  ·cases h
  ·rename_i cs hcs
   split at h
   ·cases h
   ·rename_i ps hps
    split at h
    ·cases h
    ·rename_i gs hgs
     split at h
     ·cases h
     ·split at h
      ·cases h
      ·split at h
       ·cases h
       ·split at h
        ·cases h
        ·injection h with h;subst h
         refine⟨fun x hx=>?_,fun x hx=>?_,fun x hx=>?_⟩
         ·obtain⟨a,b,h1⟩:=ZeW (xs:=cs.1) (q:=cs.2) hcs x hx
          exact ZoB h1
         ·obtain⟨a,b,h1⟩:=ZeW (xs:=ps.1) (q:=ps.2) hps x hx
          unfold Zbz at h1
          split at h1
          ·cases h1
          ·split at h1
           ·cases h1
           ·rename_i y hy
            injection h1 with h1;injection h1 with h2 h3;subst h2
            exact Ztd hy
         ·obtain⟨a,b,h1⟩:=ZeW (xs:=gs.1) (q:=gs.2) hgs x hx
          unfold Zbx at h1
          split at h1
          ·cases h1
          ·rename_i z hz
           split at h1
           ·cases h1
           ·rename_i y hy
            injection h1 with h1;injection h1 with h2 h3;subst h2
            exact ZpJ hy (Zve (t:=z.1) (q:=z.2) hz)
theorem Ze3{k:Nat}{st sl:List Nat}{x:List Nat×List Nat}(h:ZQ k st sl=some x)(hl:st.length<=64):x.1.length<=64:=by
 unfold ZQ at h
 split at h
 ·cases h
 ·injection h with h;subst h;simp only[List.length_cons];omega
theorem Zu1{c:CodeQ}{x:Nat×Nat}{st sl:List Nat}{y:List Nat×List Nat}(h:Zw c x st sl=some y)(hl:st.length<=64):y.1.length<=64:=by
 unfold Zw at h
 split at h
 ·exact Ze3 h hl
 ·exact Ze3 h hl
 ·split at h
  ·split at h
   ·exact Ze3 h (by simp only[List.length_cons]at hl;omega)
   ·cases h
  ·cases h
 ·split at h
  ·split at h
   ·exact Ze3 h (by simp only[List.length_cons]at hl;omega)
   ·cases h
  ·cases h
 ·split at h
  ·split at h
   ·exact Ze3 h (by simp only[List.length_cons]at hl;omega)
   ·cases h
  ·cases h
 ·injection h with h;subst h;exact hl
 ·split at h
  ·injection h with h;subst h;simp only[List.length_cons]at hl ⊢;omega
  ·cases h
 ·split at h
  ·injection h with h;subst h;simp only[List.length_cons]at hl ⊢;omega
  ·cases h
 ·split at h
  ·cases h
  ·exact Ze3 h hl
 ·split at h
  ·split at h
   ·exact Ze3 h (by simp only[List.length_cons]at hl;omega)
   ·cases h
  ·cases h
theorem Flow.len{c:CodeQ}{L:List Ah}{ser:List Ser}(h:Flow c L)(hd:Dst ser)(t:Int){i:Nat}{m:MQ}(hi:i<c.ins.length)(hop:(c.ins.getD i (0,0)).1<=13)(hk:(L.getD i ah0).known=true)(hT:Typd ser.length (L.getD i ah0).stack (L.getD i ah0).slots m)(h64:m.stack.length<=64) :
  (doE ser t c (c.ins.getD i (0,0)) m).stack.length<=64:=by
 obtain⟨_,st,sl,hs,_,_⟩:=h.step i hi hk
 have hr:=h.fwd i hi
 generalize c.ins.getD i (0,0)=x at *
 obtain⟨op,arg⟩:=x
 have h1:=(hT.step hd t hop hr hs).stack
 have h2:(L.getD i ah0).stack.length<=64:=by rw[<-hT.stack,List.length_map];exact h64
 have h3:=Zu1 hs h2
 simp only at h3
 rw[<-h1,List.length_map]at h3
 exact h3
def Zbo(st:List Ser)(c:CodeQ):Nat->List Int->Option (List (List UInt8)×Nat)
 | f,[]=>some ([],f)
 | f, t :: ts => match runE st t c f 0 mq0 with
   | none=>none
   | some x => match Zbo st c x.1 ts with
     | none=>none
     | some y=>some (Zc7 t (topE x.2)::y.1,y.2)
theorem Zjo(st:List Ser)(c:CodeQ)(t:Int):∀(ts:List Int) (f:Nat),Zbo st c f (ts++[t])=match Zbo st c f ts with
  | none=>none
  | some y => match runE st t c y.2 0 mq0 with
    | none=>none
    | some x=>some (y.1++[Zc7 t (topE x.2)],x.1)
 | [], f => by
   simp only[List.nil_append,Zbo]
 | u :: ts, f => by
   simp only[List.cons_append,Zbo]
   cases runE st u c f 0 mq0 with
   | none=>rfl
   | some x=>
     simp only
     rw[Zjo st c t ts x.1]
     cases Zbo st c x.1 ts with
     | none=>rfl
     | some y=>
       simp only
       cases runE st t c y.2 0 mq0 <;> rfl
theorem ZmS(st:List Ser)(c:CodeQ){f:Nat} : ∀(us ts:List Int),Zbo st c f ts=none->Zbo st c f (ts++us)=none
 | [],ts,h=>by rw[List.append_nil];exact h
 | u :: us, ts, h => by
   have h1:Zbo st c f (ts++[u])=none:=by rw[Zjo,h]
   have:=ZmS st c us (ts++[u]) h1
   rwa [List.append_assoc]at this
theorem Zvf{st:List Ser}{c:CodeQ}{f k:Nat}{ts:List Int}(h:Zbo st c f (ts.take k)=none):Zbo st c f ts=none:=by
 have:=ZmS st c (ts.drop k) (ts.take k) h
 rwa [List.take_append_drop]at this
theorem Zt2(st:List Ser)(t:Int)(c:CodeQ)(f i:Nat)(m:MQ)(h:c.ins.length<=i):runE st t c f i m=some (f,m):=by
 unfold runE;rw[if_pos h]
theorem Zt4(st:List Ser)(t:Int)(c:CodeQ)(i:Nat)(m:MQ)(h:i<c.ins.length):runE st t c 0 i m=none:=by
 unfold runE;rw[if_neg (by omega)]
theorem Zt3(st:List Ser)(t:Int)(c:CodeQ)(f i:Nat)(m:MQ)(h:i<c.ins.length):runE st t c (f+1) i m=runE st t c f (Zcn i (c.ins.getD i (0,0)) m) (doE st t c (c.ins.getD i (0,0)) m):=by
 conv=>lhs;unfold runE
 rw[if_neg (by omega)]
theorem Zi1{k:Nat}{st sl:List Nat}{x:List Nat×List Nat}(h:ZQ k st sl=some x):st.length≠64:=by
 unfold ZQ at h
 split at h
 ·cases h
 ·assumption
theorem ZkL{α:Type}{l:List α}{i:Nat}{d:α}(h:i<l.length):l.getD i d∈l:=by
 rw[List.getD_eq_getElem?_getD,List.getElem?_eq_getElem h];exact List.getElem_mem h
theorem VOk.more{n k:Nat}(hk:n<=k):∀ {V:VV},VOk n V->VOk k V
 | .sc _,_=>trivial
 | .vec _,h=>⟨h.1,Nat.le_trans h.2 hk⟩
end Go.Proofs.YtkodhpilkaihjaaGreatDoor.LS
namespace Go.Proofs.YtkodhpilkaihjaaGreatDoor
open Go.RowKit LS
theorem Zs0{w0 wk w:World}{mb x gb gx i op arg:Nat}{c0 c1 c2 c3 al:Value}{t:Int}{m:MQ}{sa:Option Addr}{sn sc:Nat}{vs:List Value}{c:CodeQ}{ss:List Srs}{st tl st' tl':List Nat}(h:PInv w0 wk w mb x gb gx c0 c1 c2 c3 al t (ss.map Srs.ser) m sa sn sc vs)(hc:PCode w0 c ss c0 c1 c2 c3 al)(hB:CodeB c)(ht0 : -1000000<=t)(ht1:t<=1000000)(hop:op<=13)(h9:op≠9)(h10:op≠10)(hr:Z0 c i (op,arg)=true)(hT:Typd (ss.map Srs.ser).length st tl m)(h64:st.length<=64)(hs:Zw c (op,arg) st tl=some (st',tl')) :
  Zcb w0 wk w mb x gb gx op arg c0 c1 c2 c3 al t (ss.map Srs.ser) (doE (ss.map Srs.ser) t c (op,arg) m):=by
 have hlen:m.stack.length=st.length:=by rw[<-hT.stack,List.length_map]
 have hl30:(ss.map Srs.ser).length<=30:=by rw[List.length_map];exact hc.sto.len
 have hn:(ss.map Srs.ser).length<=1000:=by omega
 rcases(by omega:op=0∨op=1∨op=2∨op=3∨op=4∨op=11∨op=12∨op=13∨(op=5∨op=6∨op=7∨op=8))with rfl|rfl|rfl|rfl|rfl|rfl|rfl|rfl|hg
 ·have ha:arg<c.consts.length:=by simpa [Z0] using hr
  exact Zs2 h hc ha (hB.cs _ (ZkL ha)) (by have:=Zi1 (show ZQ 1 st tl=_ from hs);omega)
 ·have ha:arg<c.picks.length:=by simpa [Z0] using hr
  have hp:=hB.ps _ (ZkL (d:=nd00) ha)
  exact Zs8 h hc rfl ha hp.1 (by have:=Zi1 (show ZQ _ st tl=_ from hs);omega) ht0 ht1
 ·have ha : arg ≤ 4 := by have : arg < 5 := by simpa [Z0] using hr
                          omega
  cases st with
  | nil=>cases hs
  | cons k r=>
   simp only[Zw]at hs
   split at hs
   ·rename_i hk
    subst hk
    obtain⟨y,rs,hm,hy,hk2,ht⟩:=hT.pop
    obtain⟨a,n,rfl⟩:=Zk9 hy
    have e:doE (ss.map Srs.ser) t c (2,arg) m=⟨.val (.vec (Zcr (ss.map Srs.ser) a (some arg) n t))::rs,m.slots⟩:=by simp only[doE,hm]
    rw[e]
    exact Zs7 h hc.dst hl30 ha hm (by omega)
   ·cases hs
 ·have ha : arg ≤ 3 := by have : arg < 4 := by simpa [Z0] using hr
                          omega
  cases st with
  | nil=>cases hs
  | cons ky r=>
   cases r with
   | nil=>cases hs
   | cons kz r=>
    simp only[Zw]at hs
    split at hs
    ·rename_i hk
     rw[Bool.and_eq_true]at hk
     obtain⟨y,rs,hm,hy,hk2,ht⟩:=hT.pop
     obtain⟨z,qs,hm2,hz,hk3,ht2⟩:=ht.pop
     have hm2:rs=z::qs:=hm2
     subst hm2
     obtain⟨vy,rfl⟩:=Ze1 (by rw[hy];exact hk.2)
     obtain⟨vz,rfl⟩:=Ze1 (by rw[hz];exact hk.1)
     have e:doE (ss.map Srs.ser) t c (3,arg) m=⟨.val (Zdk arg vz vy)::qs,m.slots⟩:=by simp only[doE,hm];rfl
     rw[e]
     exact Zs1 h ha hm (by omega) (VOk.more hn hk2)
    ·cases hs
 ·cases st with
  | nil=>cases hs
  | cons ky r=>
   simp only[Zw]at hs
   split at hs
   ·rename_i hk
    obtain⟨y,rs,hm,hy,hk2,ht⟩:=hT.pop
    obtain⟨vy,rfl⟩:=Ze1 (by rw[hy];exact hk)
    have e:doE (ss.map Srs.ser) t c (4,arg) m=⟨.val (negV vy)::rs,m.slots⟩:=by simp only[doE,hm];rfl
    rw[e]
    exact Zs6 h hm (by omega)
   ·cases hs
 ·cases st with
  | nil=>cases hs
  | cons k r=>
   obtain⟨y,rs,hm,hy,hk2,ht⟩:=hT.pop
   have e:doE (ss.map Srs.ser) t c (11,arg) m=⟨rs,m.slots⟩:=by simp only[doE,hm];rfl
   rw[e]
   exact Zs3 h hm (by omega)
 ·cases st with
  | nil=>cases hs
  | cons k r=>
   have ha:arg<16:=by simpa [Z0] using hr
   obtain⟨y,rs,hm,hy,hk2,ht⟩:=hT.pop
   have e:doE (ss.map Srs.ser) t c (12,arg) m=⟨rs,m.slots.set arg (some y)⟩:=by simp only[doE,hm]
   rw[e]
   exact Zs9 h ha hT.len hm (by omega)
 ·have ha:arg<16:=by simpa [Z0] using hr
  simp only[Zw]at hs
  split at hs
  ·cases hs
  ·rename_i h0
   obtain⟨y,hy,hk⟩:=hT.slots arg h0
   have e:doE (ss.map Srs.ser) t c (13,arg) m=⟨y::m.stack,m.slots⟩:=by simp only[doE,hy]
   rw[e]
   exact Zs5 h ha hy (by have:=Zi1 hs;omega)
 ·have key:∃r,st=2::r:=by
   cases st with
   | nil=>rcases hg with rfl|rfl|rfl|rfl <;> cases hs
   | cons k r=>
    have hs2:(if k=2 then ZQ 2 r tl else none)=some (st',tl'):=by rcases hg with rfl|rfl|rfl|rfl <;> exact hs
    split at hs2
    ·rename_i hk;subst hk;exact⟨r,rfl⟩
    ·cases hs2
  obtain⟨r,rfl⟩:=key
  obtain⟨y,rs,hm,hy,hk2,ht⟩:=hT.pop
  obtain⟨v,rfl⟩:=Zix hy
  have ha:arg<c.groups.length:=by rcases hg with rfl|rfl|rfl|rfl <;> simpa [Z0] using hr
  have e:doE (ss.map Srs.ser) t c (op,arg) m=⟨.val (.vec (ZcP (op - 5) (c.groups.getD arg []) v))::rs,m.slots⟩:=by
   rcases hg with rfl|rfl|rfl|rfl <;> (simp only[doE,hm];rfl)
  rw[e]
  exact Zs4 h (by omega) (by omega) hc ha hm (by omega)
end Go.Proofs.YtkodhpilkaihjaaGreatDoor

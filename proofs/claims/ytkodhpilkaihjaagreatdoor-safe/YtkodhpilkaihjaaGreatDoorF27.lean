/- Parts. -/
import Derived.Test.YtkodhpilkaihjaaGreatDoorF26
import Derived.Test.YtkodhpilkaihjaaGreatDoorF09
import Derived.Test.YtkodhpilkaihjaaGreatDoorF17
import Derived.Test.YtkodhpilkaihjaaGreatDoorF22
import Derived.Test.YtkodhpilkaihjaaGreatDoorF11
set_option maxRecDepth 100000
set_option maxHeartbeats 4000000
namespace Go.Proofs.YtkodhpilkaihjaaGreatDoor
open Go.RowKit LS
open Go.ChangeMaps (setBlock)
theorem Zjb(w:World)(x k:Nat)(o:Obj)(h:k≠x):(setBlock w x o).heap[k]?=w.heap[k]?:=by simp[setBlock,Ne.symm h]
theorem ZsI{w:World}{base:Nat}{e:TypeId}{sz:Nat}{sa:Option Addr}{sn sc:Nat}{xs:List Value}(h:w.ownsRow base e sz (.slice sa sn sc) sn xs):w.ownsRow base e sz (.slice sa 0 sc) 0 []:=by
 obtain⟨h1,h2⟩:=h
 refine⟨by simp,?_⟩
 rcases h2 with ⟨h2,_⟩|⟨g,cap,cur,hv,hb,hg,hn,hc,hs,hx⟩
 ·injection h2 with e1 e2 e3
  subst e1 e3
  exact Or.inl ⟨rfl,rfl⟩
 ·injection hv with e1 e2 e3
  subst e1 e3
  exact Or.inr ⟨_,_,cur,rfl,hb,hg,by omega,hc,hs,by simp⟩
theorem ZsZ(w:World)(base mb x:Nat)(c0 c1 c2 c3 al:Value)(tm t2:Int)(gr:Value)(sa:Option Addr)(sn sc:Nat)(vs:List Value)(gs:List (Nat×Value))(es:Array MapEntry)(clock:Nat)(h:PSt w base mb c0 c1 c2 c3 al tm (.map (some x)) gr sa sn sc vs)(hm:MapI w x gs es clock) :
  Calls Tryz.prog 98 #[.pointer (some ⟨mb,0,none⟩),.int .i64 t2] w fun e w'=>e=.returned (.tuple #[])/\Hid (PSt w' base mb c0 c1 c2 c3 al t2 (.map (some x)) gr sa 0 sc [])/\Hid (MapI w' x [] #[] clock)/\Hid (w'.os=w.os/\w'.tape=w.tape/\w'.output=w.output/\w.heap.size<=w'.heap.size/\∀k,k≠mb->k≠x->w'.heap[k]?=w.heap[k]?):=by
 have hxm : x ≠ mb := fun e => by
   have h1:=hm.heap
   rw[e]at h1
   have h2:=h1.symm.trans h.box
   injection h2 with h2;cases h2
 obtain⟨W1,hW1⟩:∃W1,W1=(w.setCell ⟨mb,5,none⟩ (.int .i64 t2)).setCell ⟨mb,6,none⟩ (.slice sa 0 sc):=⟨_,rfl⟩
 have m5:w.cell? ⟨mb,5,none⟩=some (.int .i64 tm):=h.box.cell 5
 have m6:w.cell? ⟨mb,6,none⟩=some (.slice sa sn sc):=h.box.cell 6
 have m7:w.cell? ⟨mb,7,none⟩=some (.map (some x)):=h.box.cell 7
 have f5:=h.box.frozen 5
 have f6:=h.box.frozen 6
 have hml:=h.box.lt
 have hbx:BAt W1 mb (pmC c0 c1 c2 c3 al t2 (.slice sa 0 sc) (.map (some x)) gr) 365:=by rw[hW1];exact(h.box.setkM 5 _).setkM 6 _
 have hoth:∀k,k≠mb->W1.heap[k]?=w.heap[k]?:=fun k hk=>by rw[hW1,Go.Deep.blk_setCell_other _ _ _ _ hk,Go.Deep.blk_setCell_other _ _ _ _ hk]
 have hcl:=fun T=>Zoo ((hoth x hxm).trans hm.heap) T
 rw[hW1]at hcl
 have HF:Hid (PSt (setBlock W1 x (.map #[] clock)) base mb c0 c1 c2 c3 al t2 (.map (some x)) gr sa 0 sc []/\MapI (setBlock W1 x (.map #[] clock)) x [] #[] clock/\((setBlock W1 x (.map #[] clock)).os=w.os/\(setBlock W1 x (.map #[] clock)).tape=w.tape/\(setBlock W1 x (.map #[] clock)).output=w.output/\w.heap.size<=(setBlock W1 x (.map #[] clock)).heap.size/\∀k,k≠mb->k≠x->(setBlock W1 x (.map #[] clock)).heap[k]?=w.heap[k]?)):=hid (by
  have hxl:x<W1.heap.size:=by
   have:=(hoth x hxm).trans hm.heap
   exact(Array.getElem?_eq_some_iff.1 this).1
  have hg1:w.grownBy W1 (some mb):=by rw[hW1];exact Zo (Zo (Zbc w (some mb)) (Or.inl rfl) _) (Or.inl rfl) _
  refine⟨⟨(Zjb W1 x mb _ (fun e=>hxm e.symm)).trans hbx,?_,rfl⟩,⟨by simp[setBlock,hxl],⟨by simp,by simp,by simp⟩,rfl,fun g hg=>nomatch hg⟩,hg1.os,hg1.tape,hg1.output,?_,fun k h1 h2=>(Zjb W1 x k _ h2).trans (hoth k h1)⟩
  ·have ho:=ZsI h.own
   refine Zem ho (fun k hk=>?_)
   have hne:k≠mb:=by
    rintro rfl
    exact ZcA ho h.box (by decide) hk.symm
   have hnx:k≠x:=by
    rintro rfl
    rcases ho.2 with ⟨h2,_⟩|⟨g,cap,cur,hv,_,hg,_⟩
    ·rw[h2]at hk;cases hk
    ·rw[hv]at hk
     have hk2:some g=some k:=hk
     injection hk2 with hk2
     subst hk2
     have h2:=hm.heap.symm.trans hg
     injection h2 with h2;cases h2
   exact(Zjb W1 x k _ hnx).trans (hoth k hne)
  ·have:(setBlock W1 x (.map #[] clock)).heap.size=W1.heap.size:=by simp[setBlock]
   rw[this];exact hg1.size)
 rw[hW1]at HF
 clear hbx hoth hW1 h hm
 go_enter Tryz.func98,Tryz.ntmps98
 go_wp2
 exact bodyPost_end (v:=.tuple #[]) (results_none rfl _ _ _) rfl ⟨rfl,hid HF.1,hid HF.2.1,hid HF.2.2⟩
theorem Ztb(w:World)(base mb:Nat)(c0 c1 c2 c3 al:Value)(tm:Int)(sl gr:Value)(sa:Option Addr)(n sc:Nat)(vs:List Value)(va:Option Addr)(vn vc:Nat)(h:PSt w base mb c0 c1 c2 c3 al tm sl gr sa (n+1) sc (vs++[.iface 342 (.slice va vn vc)]))(hn:n<=64) :
  Calls Tryz.prog 100 #[.pointer (some ⟨mb,0,none⟩)] w fun e w'=>e=.returned (.bool (decide (0<(vn:Int))))/\Hid (Below w.heap.size w w'):=by
 have hl:vs.length=n:=by have:=h.len;rw[List.length_append]at this;simpa using this
 obtain⟨g,cp,hv⟩:=ZV h.own (by omega)
 injection hv with hv1 hv2 hv3
 subst hv1 hv3
 have m6:w.cell? ⟨mb,6,none⟩=some (.slice (some ⟨g,0,none⟩) (n+1) sc):=h.box.cell 6
 have k0:=Zj h.own n (.iface 342 (.slice va vn vc)) (by rw[List.getElem?_append_right (by omega),hl];simp)
 have hml:=h.box.lt
 have hgl:=ZbX h.own
 have ws3:IntKind.i64.wrap (n:Int)=(n:Int):=by rw[IntKind.wrap_i64];omega
 have ws4:(n:Int)<(n:Int)+1:=by omega
 have hta:∀W:World,(Instr.typeAssert (.iface 342 (.slice va vn vc)) 223 342 true).run Tryz.prog W=.ok (.tuple #[.slice va vn vc,.bool true]) W:=fun W=>by kernel_rfl
 clear h hl
 go_enter Tryz.func100,Tryz.ntmps100
 go_upto_region 1 with fail
 refine Zb0 17 (fun w'=>w'.cell? ⟨mb,6,none⟩=some (.slice (some ⟨g,0,none⟩) (n+1) sc)/\w'.cell? ⟨g,n,none⟩=some (.iface 342 (.slice va vn vc))) (by kernel_rfl) (by exact⟨m6,k0⟩) (fun hHeld=>?_)
 clear m6 k0
 refine Zc (i:=0) (d:=6) (v:=?v0) rfl rfl (by kernel_rfl) (fun _ _ _ h=>h) (Or.inl ⟨by rfl,?hy0⟩) hHeld ?rs0
 case hy0=>(intro w hSw;go_simp;try with_reducible rfl)
 case rs0=>
 try simp only[Zset]
 refine Zc (i:=1) (d:=7) (v:=?v1) rfl rfl (by kernel_rfl) (fun _ _ _ h=>h) (Or.inl ⟨by rfl,?hy1⟩) hHeld ?rs1
 case hy1=>(intro w hSw;go_simp;try with_reducible rfl)
 case rs1=>
 try simp only[Zset]
 refine Zc (i:=2) (d:=8) (v:=?v2) rfl rfl (by kernel_rfl) (fun _ _ _ h=>h) (Or.inl ⟨by rfl,?hy2⟩) hHeld ?rs2
 case hy2=>(intro w hSw;go_simp;try with_reducible rfl)
 case rs2=>
 try simp only[Zset]
 refine Zc (i:=3) (d:=9) (v:=?v3) rfl rfl (by kernel_rfl) (fun _ _ _ h=>h) (Or.inl ⟨by rfl,?hy3⟩) hHeld ?rs3
 case hy3=>(intro w hSw;go_simp;try with_reducible rfl)
 case rs3=>
 try simp only[Zset]
 refine Zc (i:=4) (d:=10) (v:=?v4) rfl rfl (by kernel_rfl) (fun _ _ _ h=>h) (Or.inl ⟨by rfl,?hy4⟩) hHeld ?rs4
 case hy4=>(intro w hSw;go_simp;try with_reducible rfl)
 case rs4=>
 try simp only[Zset]
 refine Zc (i:=5) (d:=11) (v:=?v5) rfl rfl (by kernel_rfl) (fun _ _ _ h=>h) (Or.inl ⟨by rfl,?hy5⟩) hHeld ?rs5
 case hy5=>(intro w hSw;go_simp;try with_reducible rfl)
 case rs5=>
 try simp only[Zset]
 refine Zc (i:=6) (d:=12) (v:=?v6) rfl rfl (by kernel_rfl) (fun _ _ _ h=>h) (Or.inl ⟨by rfl,?hy6⟩) hHeld ?rs6
 case hy6=>(intro w hSw;go_simp;try with_reducible rfl)
 case rs6=>
 try simp only[Zset]
 refine Zc (i:=7) (d:=13) (v:=?v7) rfl rfl (by kernel_rfl) (fun _ _ _ h=>h) (Or.inl ⟨by rfl,?hy7⟩) hHeld ?rs7
 case hy7=>(intro w hSw;go_simp;try with_reducible rfl)
 case rs7=>
 try simp only[Zset]
 refine Zc (i:=8) (d:=14) (v:=?v8) rfl rfl (by kernel_rfl) (fun _ _ _ h=>h) (Or.inl ⟨by rfl,?hy8⟩) hHeld ?rs8
 case hy8=>(intro w hSw;go_simp;try with_reducible rfl)
 case rs8=>
 try simp only[Zset]
 refine Zc (i:=9) (d:=15) (v:=?v9) rfl rfl (by kernel_rfl) (fun _ _ _ h=>h) (Or.inl ⟨by rfl,?hy9⟩) hHeld ?rs9
 case hy9=>(intro w hSw;go_simp;try with_reducible rfl)
 case rs9=>
 try simp only[Zset]
 refine Zc (i:=10) (d:=16) (v:=?v10) rfl rfl (by kernel_rfl) (fun _ _ _ h=>h) (Or.inl ⟨by rfl,?hy10⟩) hHeld ?rs10
 case hy10=>(intro w hSw;go_simp;try with_reducible rfl)
 case rs10=>
 try simp only[Zset]
 refine Zc (i:=11) (d:=17) (v:=?v11) rfl rfl (by kernel_rfl) (fun _ _ _ h=>h) (Or.inl ⟨by rfl,?hy11⟩) hHeld ?rs11
 case hy11=>(intro w hSw;go_simp;try with_reducible rfl)
 case rs11=>
 try simp only[Zset]
 refine Zc (i:=12) (d:=18) (v:=?v12) rfl rfl (by kernel_rfl) (fun _ _ _ h=>h) (Or.inl ⟨by rfl,?hy12⟩) hHeld ?rs12
 case hy12=>(intro w hSw;go_simp;try with_reducible rfl)
 case rs12=>
 try simp only[Zset]
 refine Zc (i:=13) (d:=5) (v:=?v13) rfl rfl (by kernel_rfl) (fun _ _ _ h=>h) (Or.inl ⟨by rfl,?hy13⟩) hHeld ?rs13
 case hy13=>(intro w hSw;go_simp;try with_reducible rfl)
 case rs13=>
 try simp only[Zset]
 refine Zc (i:=14) (d:=19) (v:=?v14) rfl rfl (by kernel_rfl) (fun _ _ _ h=>h) (Or.inl ⟨by rfl,?hy14⟩) hHeld ?rs14
 case hy14=>(intro w hSw;go_simp;try with_reducible rfl)
 case rs14=>
 try simp only[Zset]
 refine Zc (i:=15) (d:=20) (v:=?v15) rfl rfl (by kernel_rfl) (fun _ _ _ h=>h) (Or.inl ⟨by rfl,?hy15⟩) hHeld ?rs15
 case hy15=>(intro w hSw;go_simp;try with_reducible rfl)
 case rs15=>
 try simp only[Zset]
 refine Zc (i:=16) (d:=3) (v:=?v16) rfl rfl (by kernel_rfl) (fun _ _ _ h=>h) (Or.inl ⟨by rfl,?hy16⟩) hHeld ?rs16
 case hy16=>(intro w hSw;go_simp;try with_reducible rfl)
 case rs16=>
 try simp only[Zset]
 refine ZbW (by kernel_rfl) (by kernel_rfl) rfl (by kernel_rfl) (fun K hK=>?_)
 go_simp
 refine hK.out _ _ ?_
 clear hK K
 go_wp2
 go_ret
 exact⟨rfl,hid (by repeat first|exact Below.refl _ _|assumption|refine Below.alloc ?_ ?_ _|refine Below.setCell ?_ ?_ _|refine Zg ?_ _|refine Below.drew ?_|omega|(simp;omega)|simp)⟩
section
variable {P:Program} {ops:Array Oper} {Q:Exit->Act->World->Prop} {md:Region.Mode} {S:World->Prop} {k:Nat}
theorem Zu0{i j:Nat}{o p:Oper}{f:Nat}{ls:Array Bool}{a:Act}{w:World}(hr:Region.ready md ops ls=[i,j])(ho:ops[i]?=some o)(hp:ops[j]?=some p)
  (h:∀K':Act->World->Prop,Shut (∀a w,S w->(S w->ZcB P md ops Q S k f (ls.setIfInBounds i true) a w)->K' a w)->if Region.wanted o (yielded ops a.tmps)=true then Oper.wp P o a w K' Q else K' (a.put o.dst undef) w)
  (h':∀K':Act->World->Prop,Shut (∀a w,S w->(S w->ZcB P md ops Q S k f (ls.setIfInBounds j true) a w)->K' a w)->if Region.wanted p (yielded ops a.tmps)=true then Oper.wp P p a w K' Q else K' (a.put p.dst undef) w):ZcB P md ops Q S k (f+1) ls a w:=by
 refine⟨fun h0=>(by rw[hr]at h0;cases h0),fun x hx=>?_⟩
 rw[hr]at hx
 simp only[List.mem_cons,List.not_mem_nil,or_false]at hx
 rcases hx with rfl|rfl
 ·exact wpOp_step ho (fun K' hK=>h K' (fun a w hS hW=>hK a w ⟨fun _=>hS,hW hS⟩))
 ·exact wpOp_step hp (fun K' hK=>h' K' (fun a w hS hW=>hK a w ⟨fun _=>hS,hW hS⟩))
end
structure NewM (w w':World) (base mb:Nat) (c0 c1 c2 c3 al:Value):Prop where
 ex:∃x gb gx,PSt w' base mb c0 c1 c2 c3 al 0 (.map (some x)) (.pointer (some ⟨gb,0,none⟩)) none 0 0 []/\MapI w' x [] #[] 0/\BAt w' gb [.map (some gx)] 339/\MapX w' gx/\w.heap.size<=x/\w.heap.size<=gb/\w.heap.size<=gx/\x≠gx
 old:w.heap.size<=mb
 below:Below w.heap.size w w'
theorem NewM.made{w w1:World}(base:Nat)(c0 c1 c2 c3 al:Value){x gb gx:Nat}(hx:w1.heap[x]?=some (.map #[] 0))(hg:BAt w1 gb [.map (some gx)] 339)(hm:MapX w1 gx)(h1:w.heap.size<=x)(h2:w.heap.size<=gb)(h3:w.heap.size<=gx)(h4:x≠gx)(hb:Below w.heap.size w w1) :
  NewM w (w1.alloc (.cells #[c0,c1,c2,c3,al,.int .i64 0,.slice none 0 0,.map (some x),.pointer (some ⟨gb,0,none⟩)] 365)) base w1.heap.size c0 c1 c2 c3 al:=by
 have ha:∀o,Below w1.heap.size w1 (w1.alloc o):=fun o=>Zbal
 refine⟨⟨x,gb,gx,⟨Go.Deep.blk_alloc_new _ _,⟨by simp,Or.inl ⟨rfl,rfl⟩⟩,rfl⟩,⟨((ha _).block x (Array.getElem?_eq_some_iff.1 hx).1).trans hx,⟨by simp,by simp,by simp⟩,rfl,fun g hg=>nomatch hg⟩,hg.below (ha _),hm.below (ha _),h1,h2,h3,h4⟩,hb.size,hb.trans ((ha _).mono hb.size)⟩
theorem Ztk(w:World)(base:Nat)(c0 c1 c2 c3:Value)(aa:Option Addr)(an ac:Nat) :
  Calls Tryz.prog 97 #[.agg #[c0,c1,c2,c3],.slice aa an ac] w fun e w'=>∃mb,e=.returned (.pointer (some ⟨mb,0,none⟩))/\Hid (NewM w w' base mb c0 c1 c2 c3 (.slice aa an ac)):=by
 have hmm:=@run_makeMap Tryz.prog
 have HB:Hid (BAt (w.alloc (.cells #[c0,c1,c2,c3] 58)).drew w.heap.size [c0,c1,c2,c3] 58):=hid (BAt.below (w:=w.alloc _) (Go.Deep.blk_alloc_new _ _) (Below.refl _ _).drew)
 have HW:Hid (Below w.heap.size w (w.alloc (.cells #[c0,c1,c2,c3] 58)).drew):=hid Zbal.drew
 go_enter Tryz.func97,Tryz.ntmps97
 go_upto_region 1 with fail
 refine Zb0 6 (fun w'=>w'.cell? ⟨w.heap.size,0,none⟩=some c0/\w'.cell? ⟨w.heap.size,1,none⟩=some c1/\w'.cell? ⟨w.heap.size,2,none⟩=some c2/\w'.cell? ⟨w.heap.size,3,none⟩=some c3) (by kernel_rfl) ⟨HB.cell 0,HB.cell 1,HB.cell 2,HB.cell 3⟩ (fun hHeld=>?_)
 generalize hW0:(w.alloc (.cells #[c0,c1,c2,c3] 58)).drew=W at HB HW hHeld ⊢
 clear hW0
 refine Zc (i:=0) (d:=5) (v:=?v0) rfl rfl (by kernel_rfl) (fun _ _ _ h=>h) (Or.inl ⟨by rfl,?hy0⟩) hHeld ?rs0
 case hy0=>(intro w hSw;go_simp;try with_reducible rfl)
 case rs0=>
 try simp only[Zset]
 refine Zc (i:=1) (d:=6) (v:=?v1) rfl rfl (by kernel_rfl) (fun _ _ _ h=>h) (Or.inl ⟨by rfl,?hy1⟩) hHeld ?rs1
 case hy1=>(intro w hSw;go_simp;try with_reducible rfl)
 case rs1=>
 try simp only[Zset]
 refine Zu0 (i:=2) (j:=3) (by kernel_rfl) rfl rfl (fun K hK=>?_) (fun K hK=>?_)
 ·go_simp
  have hl0:=HW.size
  have HB1:Hid (BAt (W.alloc (.map #[] 0)) w.heap.size [c0,c1,c2,c3] 58):=hid (HB.below Zbal)
  refine hK.out _ _ ⟨HB1.cell 0,HB1.cell 1,HB1.cell 2,HB1.cell 3⟩ (fun hHeld=>?_)
  clear hK K
  try simp only[Act.put,Zset]
  refine ZbN (i:=3) (by kernel_rfl) rfl (fun K hK=>?_)
  go_simp
  refine(ZiL _).mono ?_
  rintro e w1 ⟨rfl,HM1,HG1,hs1,hb1⟩
  go_simp
  have HB2:=hid (HB1.below hb1)
  refine hK.out _ _ ⟨HB2.cell 0,HB2.cell 1,HB2.cell 2,HB2.cell 3⟩ (fun hHeld=>?_)
  clear hK K
  try simp only[Act.put,Zset]
  have hnb:(W.alloc (.map #[] 0)).heap.size=W.heap.size+1:=Go.Deep.nblk_alloc _ _
  have HN:=hid (NewM.made (w:=w) base c0 c1 c2 c3 (.slice aa an ac) ((hb1.block W.heap.size (by omega)).trans (Go.Deep.blk_alloc_new _ _)) HG1.out HM1.out hl0 (by omega) (by omega) (by omega) ((HW.alloc hl0 _).trans (hb1.mono (by omega))))
  refine Zc (i:=4) (d:=9) (v:=?va4) rfl rfl (by kernel_rfl) (fun _ _ _ h=>h) (Or.inl ⟨by rfl,?hya4⟩) hHeld ?rsa4
  case hya4=>(intro w hSw;go_simp;try with_reducible rfl)
  case rsa4=>
  try simp only[Zset]
  refine ZbN (i:=5) (by kernel_rfl) rfl (fun K hK=>?_)
  go_simp
  have HB3:Hid (∀o,BAt (w1.alloc o) w.heap.size [c0,c1,c2,c3] 58):=hid (fun o=>HB2.below Zbal)
  refine hK.out _ _ ⟨(HB3.out _).cell 0,(HB3.out _).cell 1,(HB3.out _).cell 2,(HB3.out _).cell 3⟩ (fun hHeld=>?_)
  clear hK K
  try simp only[Act.put,Zset]
  refine ZbW (by kernel_rfl) (by kernel_rfl) rfl (by kernel_rfl) (fun K hK=>?_)
  go_simp
  refine hK.out _ _ ?_
  clear hK K
  go_wp2
  go_ret
  simp only[hs1,hnb]at HN
  exact⟨_,rfl,HN⟩
 ·go_simp
  have hl0:=HW.size
  refine(ZiL _).mono ?_
  rintro e w0 ⟨rfl,HM1,HG1,hs1,hb1⟩
  go_simp
  have HB1:=hid (HB.below hb1)
  refine hK.out _ _ ⟨HB1.cell 0,HB1.cell 1,HB1.cell 2,HB1.cell 3⟩ (fun hHeld=>?_)
  clear hK K
  try simp only[Act.put,Zset]
  refine ZbN (i:=2) (by kernel_rfl) rfl (fun K hK=>?_)
  go_simp
  have ha:Below w0.heap.size w0 (w0.alloc (.map #[] 0)):=Zbal
  have HB2:=hid (HB1.below ha)
  refine hK.out _ _ ⟨HB2.cell 0,HB2.cell 1,HB2.cell 2,HB2.cell 3⟩ (fun hHeld=>?_)
  clear hK K
  try simp only[Act.put,Zset]
  have hnb:(w0.alloc (.map #[] 0)).heap.size=w0.heap.size+1:=Go.Deep.nblk_alloc _ _
  have HN:=hid (NewM.made (w:=w) base c0 c1 c2 c3 (.slice aa an ac) (Go.Deep.blk_alloc_new w0 (.map #[] 0)) (HG1.below ha) (HM1.below ha) (by omega) (by omega) hl0 (by omega) ((HW.trans (hb1.mono hl0)).trans (ha.mono (by omega))))
  clear ha
  generalize w0.alloc (.map #[] 0)=w1 at HN HB2 hHeld hnb ⊢
  refine Zc (i:=4) (d:=9) (v:=?vb4) rfl rfl (by kernel_rfl) (fun _ _ _ h=>h) (Or.inl ⟨by rfl,?hyb4⟩) hHeld ?rsb4
  case hyb4=>(intro w hSw;go_simp;try with_reducible rfl)
  case rsb4=>
  try simp only[Zset]
  refine ZbN (i:=5) (by kernel_rfl) rfl (fun K hK=>?_)
  go_simp
  have HB3:Hid (∀o,BAt (w1.alloc o) w.heap.size [c0,c1,c2,c3] 58):=hid (fun o=>HB2.below Zbal)
  refine hK.out _ _ ⟨(HB3.out _).cell 0,(HB3.out _).cell 1,(HB3.out _).cell 2,(HB3.out _).cell 3⟩ (fun hHeld=>?_)
  clear hK K
  try simp only[Act.put,Zset]
  refine ZbW (by kernel_rfl) (by kernel_rfl) rfl (by kernel_rfl) (fun K hK=>?_)
  go_simp
  refine hK.out _ _ ?_
  clear hK K
  go_wp2
  go_ret
  simp only[hs1,hnb]at HN
  exact⟨_,rfl,HN⟩
end Go.Proofs.YtkodhpilkaihjaaGreatDoor
namespace Go.Proofs.YtkodhpilkaihjaaGreatDoor.LS
open Go Go.RowKit
inductive Cl where
 | val (v:VV)
 | rng (a:Nd) (n:Nat)
def Zcf:Cl->Nat
 | .val (.sc _)=>1
 | .val (.vec _)=>2
 | .rng _ _=>3
def ZfH:Cl->VV
 | .val v=>v
 | .rng _ _=>.vec []
structure MQ where
 stack:List Cl
 slots:List (Option Cl)
def mq0:MQ:=⟨[],List.replicate 16 none⟩
def nd00:Nd×Nat:=(⟨0,0,0,[],[],[]⟩,0)
def ZdG(st:List Ser)(t:Int)(x:Nd×Nat):Cl:=if 0<x.2 then .rng x.1 x.2 else .val (.vec (Zcr st x.1 none 10 t))
def doE(st:List Ser)(t:Int)(c:CodeQ)(x:Nat×Nat)(m:MQ):MQ:=match x.1 with
 | 0=>⟨.val (.sc (c.consts.getD x.2 0))::m.stack,m.slots⟩
 | 1=>⟨ZdG st t (c.picks.getD x.2 nd00)::m.stack,m.slots⟩
 | 2 => match m.stack with
   | .rng a n::r=>⟨.val (.vec (Zcr st a (some x.2) n t))::r,m.slots⟩
   | _=>m
 | 3 => match m.stack with
   | y::z::r=>⟨.val (Zdk x.2 (ZfH z) (ZfH y))::r,m.slots⟩
   | _=>m
 | 4 => match m.stack with
   | y::r=>⟨.val (negV (ZfH y))::r,m.slots⟩
   | _=>m
 | 9=>m
 | 10=>m
 | 11=>⟨m.stack.tail,m.slots⟩
 | 12 => match m.stack with
   | y::r=>⟨r,m.slots.set x.2 (some y)⟩
   | _=>m
 | 13 => match m.slots.getD x.2 none with
   | some y=>⟨y::m.stack,m.slots⟩
   | none=>m
 | _ => match m.stack with
   | y::r=>⟨.val (.vec (ZcP (x.1 - 5) (c.groups.getD x.2 []) (ZdZ (ZfH y))))::r,m.slots⟩
   | _=>m
def ZhC(m:MQ):Bool:=match m.stack with
 | y::_=>!(ZdZ (ZfH y)).isEmpty
 | []=>false
def Zcn(i:Nat)(x:Nat×Nat)(m:MQ):Nat:=if x.1=9 then x.2 else if x.1=10/\ZhC m=true then x.2 else i+1
def runE(st:List Ser)(t:Int)(c:CodeQ):Nat->Nat->MQ->Option (Nat×MQ)
 | f, i, m => if c.ins.length <= i then some (f, m) else match f with
   | 0=>none
   | f+1=>runE st t c f (Zcn i (c.ins.getD i (0,0)) m) (doE st t c (c.ins.getD i (0,0)) m)
def topE(m:MQ):VV:=match m.stack with
 | y::_=>ZfH y
 | []=>.vec []
structure MetBy (b:Ah) (st sl:List Nat):Prop where
 known:b.known=true
 stack:b.clash=false->b.stack=st
 slots:∀j,b.slots.getD j 0≠0->sl.getD j 0=b.slots.getD j 0
theorem Zh6:∀(x y:List Nat) (j:Nat),(both x y).getD j 0≠0->x.getD j 0=(both x y).getD j 0/\y.getD j 0=(both x y).getD j 0
 | [],_,j,h=>by simp[both]at h
 | _::_,[],j,h=>by simp[both]at h
 | a :: x, b :: y, 0, h => by
   have e:(both (a::x) (b::y)).getD 0 0=if a=b then a else 0:=rfl
   rw[e]at h ⊢
   by_cases hab:a=b
   · rw[if_pos hab];exact⟨rfl,hab.symm⟩
   · rw[if_neg hab]at h;exact absurd rfl h
 | a::x,b::y,j+1,h=>Zh6 x y j h
theorem ZlA(a:Ah)(st sl:List Nat):MetBy (Zbf a st sl) st sl:=by
 unfold Zbf
 by_cases hk:a.known
 ·rw[if_pos hk]
  refine⟨rfl,fun h=>?_,fun j h=>(Zh6 _ _ j h).2⟩
  have h1:(a.clash || decide (a.stack≠st))=false:=h
  rw[Bool.or_eq_false_iff]at h1
  exact Decidable.not_not.1 (of_decide_eq_false h1.2)
 ·rw[if_neg hk]
  exact⟨rfl,fun _=>rfl,fun j _=>rfl⟩
theorem MetBy.meet{b:Ah}{st sl:List Nat}(h:MetBy b st sl)(st2 sl2:List Nat):MetBy (Zbf b st2 sl2) st sl:=by
 unfold Zbf
 rw[if_pos h.known]
 refine⟨rfl,fun h1=>?_,fun j hj=>?_⟩
 ·have h2:(b.clash || decide (b.stack≠st2))=false:=h1
  rw[Bool.or_eq_false_iff]at h2
  exact h.stack h2.1
 ·have h1:=(Zh6 _ _ j hj).1
  have h2:=h.slots j (by rw[h1];exact hj)
  exact h2.trans h1
theorem ZfY(l:List Ah)(i s:Nat)(a:Ah):(l.set i a).getD s ah0=if i=s/\s<l.length then a else l.getD s ah0:=by
 rw[List.getD_eq_getElem?_getD,List.getElem?_set]
 by_cases h:i=s
 ·subst h
  by_cases hl:i<l.length
  ·simp[hl]
  ·simp[hl,List.getD_eq_getElem?_getD]
 ·simp[h,List.getD_eq_getElem?_getD]
theorem MetBy.set{l:List Ah}{s:Nat}{st sl:List Nat}(h:MetBy (l.getD s ah0) st sl)(i:Nat)(st2 sl2:List Nat):MetBy ((l.set i (Zbf (l.getD i ah0) st2 sl2)).getD s ah0) st sl:=by
 rw[ZfY]
 split
 ·rename_i hh;rw[hh.1];exact h.meet _ _
 ·exact h
theorem MetBy.goOn{l:List Ah}{s:Nat}{st sl:List Nat}(h:MetBy (l.getD s ah0) st sl)(x:Nat×Nat)(i:Nat)(st2 sl2:List Nat):MetBy ((goOn x i st2 sl2 l).getD s ah0) st sl:=by
 unfold LS.goOn
 simp only
 split
 ·split
  ·exact h.set _ _ _
  ·exact h
 ·split
  ·exact(h.set _ _ _).set _ _ _
  ·exact h.set _ _ _
theorem ZpD(x:Nat×Nat)(i:Nat)(st sl:List Nat)(l:List Ah):(goOn x i st sl l).length=l.length:=by
 unfold goOn
 simp only
 split <;> split <;> simp
theorem ZpE{x:Nat×Nat}{i:Nat}{st sl:List Nat}{l:List Ah}(h9:x.1≠9)(hi:i+1<l.length):MetBy ((goOn x i st sl l).getD (i+1) ah0) st sl:=by
 unfold goOn
 simp only
 rw[if_neg h9,ZfY,if_pos ⟨rfl,by split <;> simp[hi]⟩]
 exact ZlA _ _ _
theorem ZpC{x:Nat×Nat}{i:Nat}{st sl:List Nat}{l:List Ah}(hj:Zct x.1=true)(hx:x.2<l.length):MetBy ((goOn x i st sl l).getD x.2 ah0) st sl:=by
 unfold goOn
 simp only
 rw[hj]
 have h1:MetBy ((l.set x.2 (Zbf (l.getD x.2 ah0) st sl)).getD x.2 ah0) st sl:=by
  rw[ZfY,if_pos ⟨rfl,hx⟩];exact ZlA _ _ _
 split
 ·exact h1
 ·exact h1.set _ _ _
def Fwd(c:CodeQ):Prop:=∀i,i<c.ins.length->Z0 c i (c.ins.getD i (0,0))=true
theorem ZgY{c:CodeQ}{i:Nat}{x:Nat×Nat}(h:Z0 c i x=true)(hj:Zct x.1=true):i<x.2/\x.2<=c.ins.length:=by
 obtain⟨op,arg⟩:=x
 have h3:op=9∨op=10:=by unfold Zct at hj;simpa using hj
 rcases h3 with rfl|rfl <;> simpa [Z0] using h
theorem ZpF{c:CodeQ}{x:Nat×Nat}{i s:Nat}{st sl:List Nat}{l:List Ah}(hr:Z0 c i x=true)(hs:s<=i):(goOn x i st sl l).getD s ah0=l.getD s ah0:=by
 unfold goOn
 simp only
 have h1:(if Zct x.1=true then l.set x.2 (Zbf (l.getD x.2 ah0) st sl)else l).getD s ah0=l.getD s ah0:=by
  by_cases hj:Zct x.1=true
  ·rw[if_pos hj,ZfY,if_neg (fun h=>by have:=(ZgY hr hj).1;omega)]
  ·rw[if_neg hj]
 split
 ·exact h1
 ·rw[ZfY,if_neg (fun h=>by omega)];exact h1
theorem Zl3{c:CodeQ} : ∀ {k:Nat} {l:List Ah} {m:Nat},Zbd c k=.ok (l,m)->l.length=c.ins.length+1
 | 0,l,m,h=>by injection h with h;injection h with h1 h2;subst h1;simp[Ze0]
 | k + 1, l, m, h => by
   unfold Zbd at h
   cases hp:Zbd c k with
   | error e=>rw[hp]at h;cases h
   | ok x=>
     rw[hp]at h
     simp only at h
     have hx:=Zl3 (l:=x.1) (m:=x.2) hp
     unfold ZeH at h
     simp only at h
     split at h
     · split at h
       · cases h
       · split at h
         · cases h
         · injection h with h;injection h with h1 h2;subst h1;rw[ZpD,hx]
     · injection h with h;injection h with h1 h2;subst h1;exact hx
theorem Zhk{c:CodeQ}{k:Nat}{l':List Ah}{m':Nat}(h:Zbd c (k+1)=.ok (l',m')):∃l m,Zbd c k=.ok (l,m)/\(((l.getD k ah0).known=false/\l'=l)∨((l.getD k ah0).known=true/\(l.getD k ah0).clash=false/\∃st sl,Zw c (c.ins.getD k (0,0)) (l.getD k ah0).stack (l.getD k ah0).slots=some (st,sl)/\l'=goOn (c.ins.getD k (0,0)) k st sl l)):=by
 unfold Zbd at h
 cases hp:Zbd c k with
 | error e=>rw[hp]at h;cases h
 | ok x=>
  rw[hp]at h
  simp only at h
  refine⟨x.1,x.2,rfl,?_⟩
  unfold ZeH at h
  simp only at h
  split at h
  ·rename_i hk
   split at h
   ·cases h
   ·rename_i hc
    split at h
    ·cases h
    ·rename_i s hs
     injection h with h;injection h with h1 h2
     exact Or.inr ⟨hk,by simpa using hc,s.1,s.2,hs,h1.symm⟩
  ·rename_i hk
   injection h with h;injection h with h1 h2
   exact Or.inl ⟨by simpa using hk,h1.symm⟩
theorem ZiU{c:CodeQ}{st sl:List Nat}{s:Nat}{k:Nat}{l:List Ah}{m:Nat}(hk:Zbd c k=.ok (l,m))(hm:MetBy (l.getD s ah0) st sl):∀(d:Nat) {l':List Ah} {m':Nat},Zbd c (k+d)=.ok (l',m')->MetBy (l'.getD s ah0) st sl
 | 0, l', m', h => by
   have h2:=hk.symm.trans h
   injection h2 with h2;injection h2 with h3 h4;rw[<-h3];exact hm
 | d + 1, l', m', h => by
   obtain⟨l1,m1,h1,h2⟩:=Zhk (k:=k+d) h
   have ih:=ZiU hk hm d h1
   rcases h2 with ⟨_,rfl⟩|⟨_,_,st2,sl2,_,rfl⟩
   · exact ih
   · exact ih.goOn _ _ _ _
theorem ZiV{c:CodeQ}(hf:Fwd c){s k:Nat}{l:List Ah}{m:Nat}(hs:s<=k)(hk:Zbd c k=.ok (l,m)):∀(d:Nat) {l':List Ah} {m':Nat},k+d<=c.ins.length->Zbd c (k+d)=.ok (l',m')->l'.getD s ah0=l.getD s ah0
 | 0, l', m', _, h => by
   have h2:=hk.symm.trans h
   injection h2 with h2;injection h2 with h3 h4;rw[<-h3]
 | d + 1, l', m', hd, h => by
   obtain⟨l1,m1,h1,h2⟩:=Zhk (k:=k+d) h
   have ih:=ZiV hf hs hk d (by omega) h1
   rcases h2 with ⟨_,rfl⟩|⟨_,_,st2,sl2,_,rfl⟩
   · exact ih
   · rw[ZpF (hf (k+d) (by omega)) (by omega)];exact ih
theorem Zl4{c:CodeQ} : ∀(d:Nat) {k:Nat} {l':List Ah} {m':Nat},Zbd c (k+d)=.ok (l',m')->∃l m,Zbd c k=.ok (l,m)
 | 0,k,l',m',h=>⟨l',m',h⟩
 | d + 1, k, l', m', h => by
   obtain⟨l1,m1,h1,_⟩:=Zhk (k:=k+d) h
   exact Zl4 d h1
structure Flow (c:CodeQ) (L:List Ah):Prop where
 fwd:Fwd c
 first:L.getD 0 ah0=⟨true,false,[],List.replicate 16 0⟩
 step:∀i,i<c.ins.length->(L.getD i ah0).known=true->(L.getD i ah0).clash=false/\∃st sl,Zw c (c.ins.getD i (0,0)) (L.getD i ah0).stack (L.getD i ah0).slots=some (st,sl)/\((c.ins.getD i (0,0)).1≠9->MetBy (L.getD (i+1) ah0) st sl)/\(Zct (c.ins.getD i (0,0)).1=true->MetBy (L.getD (c.ins.getD i (0,0)).2 ah0) st sl)
 last:(L.getD c.ins.length ah0).clash=false/\((L.getD c.ins.length ah0).stack=[1]∨(L.getD c.ins.length ah0).stack=[2])
theorem Zmh{c:CodeQ} : ∀ {n:Nat},ZbL c n=.ok ()->∀i,i<n->Z0 c i (c.ins.getD i (0,0))=true
 | 0,_,i,hi=>absurd hi (Nat.not_lt_zero _)
 | n + 1, h, i, hi => by
   unfold ZbL at h
   cases hr:ZbL c n with
   | error e=>rw[hr]at h;cases h
   | ok u=>
     rw[hr]at h
     simp only at h
     by_cases e:i=n
     · subst e
       cases hq:Z0 c i (c.ins.getD i (0,0))with
       | true=>rfl
       | false=>rw[hq]at h;cases h
     · exact Zmh hr i (by omega)
theorem ZvT{c:CodeQ}{x:Nat×Nat}(h:Zcq c=.ok x):∃L,Flow c L:=by
 unfold Zcq at h
 cases hr:ZbL c c.ins.length with
 | error e=>rw[hr]at h;cases h
 | ok u=>
  rw[hr]at h
  simp only at h
  have hf:Fwd c:=Zmh hr
  cases hh:ZcQ c with
  | error e=>rw[hh]at h;cases h
  | ok m=>
   unfold ZcQ at hh
   cases hp:Zbd c c.ins.length with
   | error e=>rw[hp]at hh;cases hh
   | ok y=>
    rw[hp]at hh
    simp only at hh
    obtain⟨L,mo⟩:=y
    simp only at hh
    have hans:Zeh (L.getD c.ins.length ah0)=true:=by
     cases ha:Zeh (L.getD c.ins.length ah0)with
     | true=>rfl
     | false=>rw[ha]at hh;cases hh
    unfold Zeh at hans
    rw[Bool.and_eq_true]at hans
    refine⟨L,hf,?_,fun i hi hk=>?_,by simpa using hans.1,?_⟩
    ·have:=ZiV hf (s:=0) (k:=0) (l:=Ze0 c.ins.length) (m:=0) (Nat.le_refl _) rfl c.ins.length (by omega) (l':=L) (m':=mo) (by rw[Nat.zero_add];exact hp)
     rw[this];rfl
    ·obtain⟨l1,m1,h1⟩:=Zl4 (c.ins.length - (i+1)) (k:=i+1) (by rw[show i+1+(c.ins.length - (i+1))=c.ins.length by omega];exact hp)
     obtain⟨l0,m0,h0,hcase⟩:=Zhk h1
     have e0:L.getD i ah0=l0.getD i ah0:=ZiV hf (Nat.le_refl i) h0 (c.ins.length - i) (by omega) (by rw[show i+(c.ins.length - i)=c.ins.length by omega];exact hp)
     rw[e0]at hk ⊢
     rcases hcase with ⟨hn,_⟩|⟨_,hc,st,sl,hs,rfl⟩
     ·rw[hk]at hn;cases hn
     ·have hl0:=Zl3 h0
      refine⟨hc,st,sl,hs,fun h9=>?_,fun hj=>?_⟩
      ·exact ZiU h1 (ZpE h9 (by omega)) (c.ins.length - (i+1)) (by rw[show i+1+(c.ins.length - (i+1))=c.ins.length by omega];exact hp)
      ·exact ZiU h1 (ZpC hj (by have:=(ZgY (hf i hi) hj).2;omega)) (c.ins.length - (i+1)) (by rw[show i+1+(c.ins.length - (i+1))=c.ins.length by omega];exact hp)
    ·simpa using hans.2
def ClOk(n:Nat):Cl->Prop
 | .val v=>VOk n v
 | .rng _ _=>True
structure Typd (n:Nat) (st sl:List Nat) (m:MQ):Prop where
 stack:m.stack.map Zcf=st
 len:m.slots.length=16
 slots:∀j,sl.getD j 0≠0->∃y,m.slots.getD j none=some y/\Zcf y=sl.getD j 0
 ok:∀y∈m.stack,ClOk n y
 okS:∀j y,m.slots.getD j none=some y->ClOk n y
theorem ZvB(n:Nat):Typd n [] (List.replicate 16 0) mq0:=by
 refine⟨rfl,rfl,fun j h=>?_,(fun y hy=>nomatch hy),fun j y hy=>?_⟩
 ·exfalso;apply h;rw[List.getD_eq_getElem?_getD,List.getElem?_replicate];split <;> rfl
 ·exfalso
  have h2:(List.replicate 16 (none:Option Cl)).getD j none=none:=by rw[List.getD_eq_getElem?_getD,List.getElem?_replicate];split <;> rfl
  have h3:(mq0.slots).getD j none=some y:=hy
  unfold mq0 at h3
  rw[h2]at h3;cases h3
theorem Typd.met{n:Nat}{st sl:List Nat}{m:MQ}{b:Ah}(h:Typd n st sl m)(hm:MetBy b st sl)(hc:b.clash=false):Typd n b.stack b.slots m:=
 ⟨by rw [hm.stack hc]; exact h.stack, h.len, fun j hj => by
   have h1:=hm.slots j hj
   obtain⟨y,hy,hk⟩:=h.slots j (by rw[h1];exact hj)
   exact⟨y,hy,by rw[hk,h1]⟩,h.ok,h.okS⟩
theorem Typd.push{n:Nat}{r sl st' sl':List Nat}{rs:List Cl}{ss:List (Option Cl)}{y:Cl}{k:Nat}(h:Typd n r sl ⟨rs,ss⟩)(hk:Zcf y=k)(hy:ClOk n y)(hp:ZQ k r sl=some (st',sl')):Typd n st' sl' ⟨y::rs,ss⟩:=by
 unfold ZQ at hp
 split at hp
 ·cases hp
 ·injection hp with hp;injection hp with e1 e2;subst e1 e2
  refine⟨?_,h.len,h.slots,fun z hz=>?_,h.okS⟩
  ·show Zcf y::rs.map Zcf=k::r
   rw[hk,show rs.map Zcf=r from h.stack]
  ·rcases List.mem_cons.1 hz with rfl|hz
   ·exact hy
   ·exact h.ok z hz
theorem Typd.pop{n k:Nat}{r sl:List Nat}{m:MQ}(h:Typd n (k::r) sl m):∃y rs,m.stack=y::rs/\Zcf y=k/\ClOk n y/\Typd n r sl ⟨rs,m.slots⟩:=by
 have hs:=h.stack
 cases hm:m.stack with
 | nil=>rw[hm]at hs;cases hs
 | cons y rs=>
  rw[hm]at hs
  have hs2:Zcf y::rs.map Zcf=k::r:=hs
  injection hs2 with h1 h2
  exact⟨y,rs,rfl,h1,h.ok y (by rw[hm];simp),⟨h2,h.len,h.slots,fun z hz=>h.ok z (by rw[hm];simp[hz]),h.okS⟩⟩
theorem Zix{y:Cl}(h:Zcf y=2):∃l,y=.val (.vec l):=by
 rcases y with (a|l)|⟨a,n⟩
 ·cases h
 ·exact⟨l,rfl⟩
 ·cases h
theorem Zk9{y:Cl}(h:Zcf y=3):∃a n,y=.rng a n:=by
 rcases y with (a|l)|⟨a,n⟩
 ·cases h
 ·cases h
 ·exact⟨a,n,rfl⟩
theorem Ze1{y:Cl}(h:ZbK (Zcf y)=true):∃v,y=.val v:=by
 rcases y with v|⟨a,n⟩
 ·exact⟨v,rfl⟩
 ·cases h
theorem Zqt(op:Nat)(a b:VV):Zcf (.val (Zdk op a b))=max (Zcf (.val a)) (Zcf (.val b)):=by
 cases a <;> cases b <;> rfl
theorem Zqu(a:VV):Zcf (.val (negV a))=Zcf (.val a):=by cases a <;> rfl
theorem Typd.same{n:Nat}{st sl:List Nat}{m:MQ}(h:Typd n st sl m){r:List Nat}{k:Nat}{st' sl':List Nat}(hst:st=k::r)(hp:ZQ k r sl=some (st',sl')):Typd n st' sl' m:=by
 unfold ZQ at hp
 split at hp
 ·cases hp
 ·injection hp with hp;injection hp with e1 e2;subst e1 e2;rw[<-hst];exact h
theorem Typd.step{ser:List Ser}{c:CodeQ}{i op arg:Nat}{st sl st' sl':List Nat}{m:MQ}(h:Typd ser.length st sl m)(hd:Dst ser)(t:Int)(hop:op<=13)(hr:Z0 c i (op,arg)=true)(hs:Zw c (op,arg) st sl=some (st',sl')):Typd ser.length st' sl' (doE ser t c (op,arg) m):=by
 rcases(by omega:op=0∨op=1∨op=2∨op=3∨op=4∨op=9∨op=10∨op=11∨op=12∨op=13∨(op=5∨op=6∨op=7∨op=8))with rfl|rfl|rfl|rfl|rfl|rfl|rfl|rfl|rfl|rfl|hg
 ·exact Typd.push (rs:=m.stack) (ss:=m.slots) h rfl trivial hs
 ·have ha:arg<c.picks.length:=by simpa [Z0] using hr
  have e1:c.picks[arg]?=some c.picks[arg]:=List.getElem?_eq_getElem ha
  have e2:c.picks.getD arg nd00=c.picks[arg]:=by rw[List.getD_eq_getElem?_getD,e1];rfl
  have hs2:ZQ ((c.picks[arg]?.map Zc5).getD 0) st sl=some (st',sl'):=hs
  rw[e1]at hs2
  show Typd ser.length st' sl' ⟨ZdG ser t (c.picks.getD arg nd00)::m.stack,m.slots⟩
  rw[e2]
  refine Typd.push (rs:=m.stack) (ss:=m.slots) h ?_ ?_ hs2
  ·show Zcf (ZdG ser t c.picks[arg])=Zc5 c.picks[arg]
   unfold ZdG Zc5;split <;> rfl
  ·unfold ZdG;split
   ·trivial
   ·exact ZhK hd _ _ _ _
 ·cases st with
  | nil=>cases hs
  | cons k r=>
   simp only[Zw]at hs
   split at hs
   ·rename_i hk
    subst hk
    obtain⟨y,rs,hm,hy,hk2,ht⟩:=h.pop
    obtain⟨a,n,rfl⟩:=Zk9 hy
    simp only[doE,hm]
    exact Typd.push ht rfl (ZhK hd _ _ _ _) hs
   ·cases hs
 ·cases st with
  | nil=>cases hs
  | cons ky r=>
   cases r with
   | nil=>cases hs
   | cons kz r=>
    simp only[Zw]at hs
    split at hs
    ·rename_i hk
     rw[Bool.and_eq_true]at hk
     obtain⟨y,rs,hm,hy,hk2,ht⟩:=h.pop
     obtain⟨z,qs,hm2,hz,hk3,ht2⟩:=ht.pop
     have hm2:rs=z::qs:=hm2
     subst hm2
     obtain⟨vy,rfl⟩:=Ze1 (by rw[hy];exact hk.2)
     obtain⟨vz,rfl⟩:=Ze1 (by rw[hz];exact hk.1)
     simp only[doE,hm]
     refine Typd.push ht2 ?_ (ZjG _ _ _ _ hk3 hk2) hs
     rw[<-hy,<-hz];exact Zqt _ _ _
    ·cases hs
 ·cases st with
  | nil=>cases hs
  | cons ky r=>
   simp only[Zw]at hs
   split at hs
   ·rename_i hk
    obtain⟨y,rs,hm,hy,hk2,ht⟩:=h.pop
    obtain⟨vy,rfl⟩:=Ze1 (by rw[hy];exact hk)
    simp only[doE,hm]
    refine Typd.push ht ?_ (ZlF _ _ hk2) hs
    rw[<-hy];exact Zqu _
   ·cases hs
 ·injection hs with hs;injection hs with e1 e2;subst e1 e2;exact h
 ·cases st with
  | nil=>cases hs
  | cons k r=>
   simp only[Zw]at hs
   split at hs
   ·rename_i hk;subst hk;exact h.same rfl hs
   ·cases hs
 ·cases st with
  | nil=>cases hs
  | cons k r=>
   injection hs with hs;injection hs with e1 e2;subst e1 e2
   obtain⟨y,rs,hm,hy,hk2,ht⟩:=h.pop
   simp only[doE,hm]
   exact ht
 ·cases st with
  | nil=>cases hs
  | cons k r=>
   injection hs with hs;injection hs with e1 e2;subst e1 e2
   obtain⟨y,rs,hm,hy,hk2,ht⟩:=h.pop
   have ha:arg<16:=by simpa [Z0] using hr
   simp only[doE,hm]
   have hl:m.slots.length=16:=h.len
   have gs : ∀ j, (m.slots.set arg (some y)).getD j none = if arg = j then some y else m.slots.getD j none := fun j => by
     rw[List.getD_eq_getElem?_getD,List.getElem?_set,List.getD_eq_getElem?_getD]
     by_cases e:arg=j
     · rw[if_pos e,if_pos e,if_pos (by omega)];rfl
     · rw[if_neg e,if_neg e]
   refine⟨ht.stack,by rw[List.length_set];exact hl,fun j hj=>?_,ht.ok,fun j z hz=>?_⟩
   ·show ∃z,(m.slots.set arg (some y)).getD j none=some z/\_
    rw[gs]
    have e2:(sl.set arg k).getD j 0=if arg=j/\j<sl.length then k else sl.getD j 0:=by
     rw[List.getD_eq_getElem?_getD,List.getElem?_set,List.getD_eq_getElem?_getD]
     by_cases e:arg=j
     ·subst e
      by_cases hj2:arg<sl.length
      ·simp[hj2]
      ·simp[hj2]
     ·simp[e]
    have hj2:(sl.set arg k).getD j 0≠0:=hj
    rw[e2]at hj2
    show ∃z,_/\Zcf z=(sl.set arg k).getD j 0
    rw[e2]
    by_cases e:arg=j
    ·by_cases hl2:j<sl.length
     ·rw[if_pos e,if_pos ⟨e,hl2⟩];exact⟨y,rfl,hy⟩
     ·rw[if_neg (fun hh=>hl2 hh.2)]at hj2
      exfalso;apply hj2;rw[List.getD_eq_getElem?_getD,List.getElem?_eq_none (by omega)];rfl
    ·rw[if_neg e,if_neg (fun hh=>e hh.1)]
     rw[if_neg (fun hh=>e hh.1)]at hj2
     exact h.slots j hj2
   ·have hz2:(m.slots.set arg (some y)).getD j none=some z:=hz
    rw[gs]at hz2
    by_cases e:arg=j
    ·rw[if_pos e]at hz2;injection hz2 with hz2;subst hz2;exact hk2
    ·rw[if_neg e]at hz2;exact h.okS j z hz2
 ·simp only[Zw]at hs
  split at hs
  ·cases hs
  ·rename_i h0
   obtain⟨y,hy,hk⟩:=h.slots arg h0
   simp only[doE,hy]
   exact Typd.push (rs:=m.stack) (ss:=m.slots) h hk (h.okS arg y hy) hs
 ·have key:∃r,st=2::r/\ZQ 2 r sl=some (st',sl'):=by
   cases st with
   | nil=>rcases hg with rfl|rfl|rfl|rfl <;> cases hs
   | cons k r=>
    have hs2:(if k=2 then ZQ 2 r sl else none)=some (st',sl'):=by rcases hg with rfl|rfl|rfl|rfl <;> exact hs
    split at hs2
    ·rename_i hk;subst hk;exact⟨r,rfl,hs2⟩
    ·cases hs2
  obtain⟨r,rfl,hp⟩:=key
  obtain⟨y,rs,hm,hy,hk2,ht⟩:=h.pop
  obtain⟨l,rfl⟩:=Zix hy
  have e:doE ser t c (op,arg) m=⟨.val (.vec (ZcP (op - 5) (c.groups.getD arg []) l))::rs,m.slots⟩:=by
   rcases hg with rfl|rfl|rfl|rfl <;> (simp only[doE,hm];rfl)
  rw[e]
  exact Typd.push ht rfl (ZkS _ _ _ _ (Zkl (v:=.vec l) hk2)) hp
theorem Flow.calm{c:CodeQ}{L:List Ah}(h:Flow c L){s:Nat}(hs:s<=c.ins.length)(hk:(L.getD s ah0).known=true):(L.getD s ah0).clash=false:=by
 by_cases e:s=c.ins.length
 ·rw[e];exact h.last.1
 ·exact(h.step s (by omega) hk).1
theorem Flow.next{c:CodeQ}{L:List Ah}{ser:List Ser}(h:Flow c L)(hd:Dst ser)(t:Int){i:Nat}{m:MQ}(hi:i<c.ins.length)(hop:(c.ins.getD i (0,0)).1<=13)(hk:(L.getD i ah0).known=true)(hT:Typd ser.length (L.getD i ah0).stack (L.getD i ah0).slots m) :
  i<Zcn i (c.ins.getD i (0,0)) m/\Zcn i (c.ins.getD i (0,0)) m<=c.ins.length/\(L.getD (Zcn i (c.ins.getD i (0,0)) m) ah0).known=true/\Typd ser.length (L.getD (Zcn i (c.ins.getD i (0,0)) m) ah0).stack (L.getD (Zcn i (c.ins.getD i (0,0)) m) ah0).slots (doE ser t c (c.ins.getD i (0,0)) m):=by
 obtain⟨_,st,sl,hs,h1,h2⟩:=h.step i hi hk
 have hr:=h.fwd i hi
 generalize c.ins.getD i (0,0)=x at *
 obtain⟨op,arg⟩:=x
 simp only at hop h1 h2
 have hT2:=hT.step hd t hop hr hs
 have fin:∀s,s<=c.ins.length->MetBy (L.getD s ah0) st sl->(L.getD s ah0).known=true/\Typd ser.length (L.getD s ah0).stack (L.getD s ah0).slots (doE ser t c (op,arg) m):=fun s hsl hm=>⟨hm.known,hT2.met hm (h.calm hsl hm.known)⟩
 unfold Zcn
 simp only
 by_cases h9:op=9
 ·rw[if_pos h9]
  have hj:Zct op=true:=by rw[h9];rfl
  have hl:=ZgY (x:=(op,arg)) hr hj
  exact⟨hl.1,hl.2,fin arg hl.2 (h2 hj)⟩
 ·rw[if_neg h9]
  by_cases h10:op=10/\ZhC m=true
  ·rw[if_pos h10]
   have hj:Zct op=true:=by rw[h10.1];rfl
   have hl:=ZgY (x:=(op,arg)) hr hj
   exact⟨hl.1,hl.2,fin arg hl.2 (h2 hj)⟩
  ·rw[if_neg h10]
   exact⟨by omega,by omega,fin (i+1) (by omega) (h1 h9)⟩
theorem Flow.end_{c:CodeQ}{L:List Ah}{n:Nat}(h:Flow c L){m:MQ}(hT:Typd n (L.getD c.ins.length ah0).stack (L.getD c.ins.length ah0).slots m):∃v,m.stack=[.val v]/\VOk n v:=by
 have key : ∀ k, (L.getD c.ins.length ah0).stack = [k] -> k = 1 ∨ k = 2 -> ∃ v, m.stack = [.val v] /\ VOk n v := fun k hk h12 => by
   rw[hk]at hT
   obtain⟨y,rs,hm,hy,ho,ht⟩:=hT.pop
   have hr:rs=[]:=by
     have:=ht.stack
     cases rs with
     | nil=>rfl
     | cons a b=>cases this
   subst hr
   obtain⟨v,rfl⟩:=Ze1 (y:=y) (by rw[hy];rcases h12 with rfl|rfl <;> rfl)
   exact⟨v,hm,ho⟩
 rcases h.last.2 with h1|h1
 ·exact key 1 h1 (Or.inl rfl)
 ·exact key 2 h1 (Or.inr rfl)
theorem Flow.start{c:CodeQ}{L:List Ah}(h:Flow c L)(n:Nat):(L.getD 0 ah0).known=true/\Typd n (L.getD 0 ah0).stack (L.getD 0 ah0).slots mq0:=by
 rw[h.first];exact⟨rfl,ZvB n⟩
end Go.Proofs.YtkodhpilkaihjaaGreatDoor.LS

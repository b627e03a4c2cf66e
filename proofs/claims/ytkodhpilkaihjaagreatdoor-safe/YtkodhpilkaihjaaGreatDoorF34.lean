/- Parts. -/
import Derived.Test.YtkodhpilkaihjaaGreatDoorF33
set_option maxRecDepth 100000
set_option maxHeartbeats 8000000
namespace Go.Proofs.YtkodhpilkaihjaaGreatDoor
open Go.RowKit LS
theorem Zoi (op arg : Nat) (w : World) : Calls Tryz.prog 146 #[.agg #[.int .i64 op, .int .i64 arg]] w fun e w' => e = .returned (.bool (Zct op)) /\ Below w.heap.size w w' := by
  by_cases h1:op=9
  · subst h1
    go_enter Tryz.func146,Tryz.ntmps146
    go_wp2
    go_ret
    exact⟨rfl,(by repeat first|exact Below.refl _ _|assumption|refine Below.alloc ?_ ?_ _|refine Below.setCell ?_ ?_ _|refine Zg ?_ _|refine Below.drew ?_|omega|(simp;omega)|simp)⟩
  · by_cases h2:op=10
    · subst h2
      go_enter Tryz.func146,Tryz.ntmps146
      go_wp2
      go_ret
      exact⟨rfl,(by repeat first|exact Below.refl _ _|assumption|refine Below.alloc ?_ ?_ _|refine Below.setCell ?_ ?_ _|refine Zg ?_ _|refine Below.drew ?_|omega|(simp;omega)|simp)⟩
    · have HP:Hid (Zct op=false):=hid (by unfold Zct;simp[h1,h2])
      have e1:((op:Int) == 9)=false:=by rw[beq_eq_false_iff_ne];omega
      have e2:((op:Int) == 10)=false:=by rw[beq_eq_false_iff_ne];omega
      go_enter Tryz.func146,Tryz.ntmps146
      go_wp2
      go_ret
      exact⟨Zck HP.symm,(by repeat first|exact Below.refl _ _|assumption|refine Below.alloc ?_ ?_ _|refine Below.setCell ?_ ?_ _|refine Zg ?_ _|refine Below.drew ?_|omega|(simp;omega)|simp)⟩
theorem ZpQ (op arg : Nat) (w : World) : Calls Tryz.prog 149 #[.agg #[.int .i64 op, .int .i64 arg]] w fun e w' => e = .returned (.bool (ZeR op)) /\ Below w.heap.size w w' := by
  by_cases h1:op=12
  · subst h1
    go_enter Tryz.func149,Tryz.ntmps149
    go_wp2
    go_ret
    exact⟨rfl,(by repeat first|exact Below.refl _ _|assumption|refine Below.alloc ?_ ?_ _|refine Below.setCell ?_ ?_ _|refine Zg ?_ _|refine Below.drew ?_|omega|(simp;omega)|simp)⟩
  · by_cases h2:op=13
    · subst h2
      go_enter Tryz.func149,Tryz.ntmps149
      go_wp2
      go_ret
      exact⟨rfl,(by repeat first|exact Below.refl _ _|assumption|refine Below.alloc ?_ ?_ _|refine Below.setCell ?_ ?_ _|refine Zg ?_ _|refine Below.drew ?_|omega|(simp;omega)|simp)⟩
    · have HP:Hid (ZeR op=false):=hid (by unfold ZeR;simp[h1,h2])
      have e1:((op:Int) == 12)=false:=by rw[beq_eq_false_iff_ne];omega
      have e2:((op:Int) == 13)=false:=by rw[beq_eq_false_iff_ne];omega
      go_enter Tryz.func149,Tryz.ntmps149
      go_wp2
      go_ret
      exact⟨Zck HP.symm,(by repeat first|exact Below.refl _ _|assumption|refine Below.alloc ?_ ?_ _|refine Below.setCell ?_ ?_ _|refine Zg ?_ _|refine Below.drew ?_|omega|(simp;omega)|simp)⟩
theorem ZkZ (nm : ByteArray) (la : Option Addr) (ln lc n : Nat) (w : World) : Calls Tryz.prog 226 #[.agg #[.string nm, .slice la ln lc, .int .i64 n]] w fun e w' => e = .returned (.bool (decide (0 < n))) /\ Below w.heap.size w w' := by
  by_cases h:0<n
  · have h1:(0:Int)<n:=by omega
    go_enter Tryz.func226,Tryz.ntmps226
    go_wp2
    go_ret
    exact⟨Zck (by simp[h]),(by repeat first|exact Below.refl _ _|assumption|refine Below.alloc ?_ ?_ _|refine Below.setCell ?_ ?_ _|refine Zg ?_ _|refine Below.drew ?_|omega|(simp;omega)|simp)⟩
  · have h1:¬(0:Int)<n:=by omega
    go_enter Tryz.func226,Tryz.ntmps226
    go_wp2
    go_ret
    exact⟨Zck rfl,(by repeat first|exact Below.refl _ _|assumption|refine Below.alloc ?_ ?_ _|refine Below.setCell ?_ ?_ _|refine Zg ?_ _|refine Below.drew ?_|omega|(simp;omega)|simp)⟩
theorem Zqq (nm : ByteArray) (la : Option Addr) (ln lc n : Nat) (nd : Nd) (w : World) : Calls Tryz.prog 200 #[.agg #[.string nm, .slice la ln lc, .int .i64 n]] w fun e w' => e = .returned (.int .u8 (Zc5 (nd, n) : Nat)) /\ Below w.heap.size w w' := by
  go_enter Tryz.func200,Tryz.ntmps200
  go_wp2_with fail
  refine Zn fun W hW=>?_
  have hbW:Below w.heap.size w W:=by rw[hW];exact Zbal
  have HBW:=hid hbW
  clear hW hbW
  refine(ZkZ nm la ln lc n W).mono ?_
  rintro e w1 ⟨rfl,hb1⟩
  have HB1:Hid (Below w.heap.size w w1):=hid (HBW.trans (hb1.mono HBW.size))
  clear hb1
  by_cases h:0<n
  · have hd:decide (0<n)=true:=by simp[h]
    have HK:Hid (Zc5 (nd,n)=3):=hid (if_pos h)
    rw[hd]
    clear hd h
    go_wp2
    go_ret
    exact⟨by rw[HK.out];rfl,HB1.out⟩
  · have hd:decide (0<n)=false:=by simp[h]
    have HK:Hid (Zc5 (nd,n)=2):=hid (if_neg h)
    rw[hd]
    clear hd h
    go_wp2
    go_ret
    exact⟨by rw[HK.out];rfl,HB1.out⟩
theorem Ztv{k:Nat}(hk:k≠0)(a:Ah):(putK k a).isSome=(ZQ k a.stack a.slots).isSome/\∀st sl,ZQ k a.stack a.slots=some (st,sl)->putK k a=some { a with stack:=st,slots:=sl }:=by
 unfold putK ZQ
 by_cases h:a.stack.length=64
 ·rw[if_pos (Or.inr h),if_pos h];exact⟨rfl,fun _ _ e=>by cases e⟩
 ·rw[if_neg (by rintro(e|e) <;> contradiction),if_neg h]
  exact⟨rfl,fun st sl e=>by injection e with e;injection e with e1 e2;subst e1;subst e2;rfl⟩
theorem Ztw(a:Ah):putK 0 a=none:=if_pos (Or.inl rfl)
def ZF(w w':World)(nb:Nat)(a:Ah)(r:Option (List Nat×List Nat))(ok:Bool):Prop:=ok=r.isSome/\(∀st sl,r=some (st,sl)->StAt w' nb { a with stack:=st,slots:=sl })/\w.grownBy w' (some nb)
theorem ZF.put{w w':World}{nb:Nat}{a a1:Ah}{k:Nat}{r:Option (List Nat×List Nat)}(hk:k≠0)(hr:r=ZQ k a1.stack a1.slots)(ha:a1.known=a.known/\a1.clash=a.clash)(h:∀a',putK k a1=some a'->StAt w' nb a')(hg:w.grownBy w' (some nb)):ZF w w' nb a r (putK k a1).isSome:=by
 have hp:=Ztv hk a1
 subst hr
 refine⟨hp.1,fun st sl e=>?_,hg⟩
 have:=h _ (hp.2 st sl e)
 rw[ha.1,ha.2]at this
 exact this
theorem ZF.no{w w':World}{nb:Nat}{a:Ah}{r:Option (List Nat×List Nat)}(hr:r=none)(hg:w.grownBy w' (some nb)):ZF w w' nb a r false:=by
 subst hr;exact⟨rfl,(fun _ _ e=>nomatch e),hg⟩
structure PCode (w0:World) (c:CodeQ) (ss:List Srs) (c0 c1 c2 c3 al:Value):Prop where
 cod:CodeV w0 c c0 c1 c2 c3
 sto:StoP w0 al ss
 dst:Dst (ss.map Srs.ser)
theorem Zsd(w:World)(mb:Nat)(c0 c1 c2 c3 al st sl gr:Value)(t:Int)(ss:List Srs)(nm:ByteArray)(la:Option Addr)(ln lc n:Nat)(nd:Nd)(hm:BAt w mb (pmC c0 c1 c2 c3 al t st sl gr) 365)(hst:StoP w al ss)(hds:Dst (ss.map Srs.ser))(hnm:bl nm=nd.name)(hc:ZA w (.slice la ln lc) nd.conds)(hn:n<=1000)(ht0 : -1000000<=t)(ht1:t<=1000000) :
  Calls Tryz.prog 173 #[.pointer (some ⟨mb,0,none⟩),.agg #[.string nm,.slice la ln lc,.int .i64 n]] w fun e w'=>∃v,e=.returned v/\Hid (PelV w' (ss.map Srs.ser) t v (ZdG (ss.map Srs.ser) t (nd,n)))/\Below w.heap.size w w':=by
 obtain⟨sa,scp,rfl⟩:=Zr hst.row
 have HM:=hid hm
 have HST:=hid hst
 have HDS:=hid hds
 have HNM:=hid hnm
 have HC:=hid hc
 have HIR:=hid (fun W=>ZkZ nm la ln lc n W)
 clear hm hst hds hnm hc
 go_enter Tryz.func173,Tryz.ntmps173
 go_wp2_with fail
 refine Zn fun W hW=>?_
 have hbW:Below w.heap.size w W:=by rw[hW];exact Zbal
 have HX:Hid (BAt W w.heap.size [.string nm,.slice la ln lc,.int .i64 n] 294):=hid (by rw[hW];exact(show BAt _ _ _ _ from Go.Deep.blk_alloc_new w _))
 clear hW
 refine(HIR.out W).mono ?_
 rintro e w1 ⟨rfl,hb1⟩
 have hb2:=hbW.trans (hb1.mono hbW.size)
 have HM1:=hid (HM.below hb2)
 have HX1:=hid (HX.below hb1)
 have HST1:=hid (HST.below hb2)
 have HC1:=hid (HC.below hb2)
 have HB2:=hid hb2
 have hml:=HM1.lt
 have hxl:=HX1.lt
 clear hb1 hbW hb2 HX HM HST HC HIR
 generalize w.heap.size=xb at HX1 hxl ⊢
 by_cases h0:0<n
 ·rw[decide_eq_true h0]
  have HP:=hid (show ZdG (ss.map Srs.ser) t (nd,n)=.rng nd n by unfold ZdG;rw[if_pos h0])
  clear h0
  go_upto_region 2 with fail
  have HD:Hid (Below w1.heap.size w1 w1.drew):=hid (Below.refl _ _).drew
  have HMD:=hid (HM1.below HD.out)
  have HXD:=hid (HX1.below HD.out)
  refine Zb0 14 (fun w'=>w'.cell? ⟨mb,4,none⟩=some (.slice sa ss.length scp)/\w'.cell? ⟨mb,5,none⟩=some (.int .i64 t)/\w'.cell? ⟨xb,0,none⟩=some (.string nm)/\w'.cell? ⟨xb,1,none⟩=some (.slice la ln lc)/\w'.cell? ⟨xb,2,none⟩=some (.int .i64 n)) (by kernel_rfl) (by exact⟨HMD.cell 4,HMD.cell 5,HXD.cell 0,HXD.cell 1,HXD.cell 2⟩) (fun hHeld=>?_)
  clear HMD HXD
  refine Zc (i:=0) (d:=7) (v:=?va0) rfl rfl (by kernel_rfl) (fun _ _ _ h=>h) (Or.inl ⟨by rfl,?hya0⟩) hHeld ?rsa0
  case hya0=>(intro w hSw;go_simp;try with_reducible rfl)
  case rsa0=>
  try simp only[Zset]
  refine Zc (i:=1) (d:=8) (v:=?va1) rfl rfl (by kernel_rfl) (fun _ _ _ h=>h) (Or.inl ⟨by rfl,?hya1⟩) hHeld ?rsa1
  case hya1=>(intro w hSw;go_simp;try with_reducible rfl)
  case rsa1=>
  try simp only[Zset]
  refine Zc (i:=2) (d:=9) (v:=?va2) rfl rfl (by kernel_rfl) (fun _ _ _ h=>h) (Or.inl ⟨by rfl,?hya2⟩) hHeld ?rsa2
  case hya2=>(intro w hSw;go_simp;try with_reducible rfl)
  case rsa2=>
  try simp only[Zset]
  refine Zc (i:=3) (d:=10) (v:=?va3) rfl rfl (by kernel_rfl) (fun _ _ _ h=>h) (Or.inl ⟨by rfl,?hya3⟩) hHeld ?rsa3
  case hya3=>(intro w hSw;go_simp;try with_reducible rfl)
  case rsa3=>
  try simp only[Zset]
  refine Zc (i:=4) (d:=11) (v:=?va4) rfl rfl (by kernel_rfl) (fun _ _ _ h=>h) (Or.inl ⟨by rfl,?hya4⟩) hHeld ?rsa4
  case hya4=>(intro w hSw;go_simp;try with_reducible rfl)
  case rsa4=>
  try simp only[Zset]
  refine Zc (i:=5) (d:=12) (v:=?va5) rfl rfl (by kernel_rfl) (fun _ _ _ h=>h) (Or.inl ⟨by rfl,?hya5⟩) hHeld ?rsa5
  case hya5=>(intro w hSw;go_simp;try with_reducible rfl)
  case rsa5=>
  try simp only[Zset]
  refine Zc (i:=6) (d:=13) (v:=?va6) rfl rfl (by kernel_rfl) (fun _ _ _ h=>h) (Or.inl ⟨by rfl,?hya6⟩) hHeld ?rsa6
  case hya6=>(intro w hSw;go_simp;try with_reducible rfl)
  case rsa6=>
  try simp only[Zset]
  refine Zc (i:=7) (d:=14) (v:=?va7) rfl rfl (by kernel_rfl) (fun _ _ _ h=>h) (Or.inl ⟨by rfl,?hya7⟩) hHeld ?rsa7
  case hya7=>(intro w hSw;go_simp;try with_reducible rfl)
  case rsa7=>
  try simp only[Zset]
  refine Zc (i:=8) (d:=15) (v:=?va8) rfl rfl (by kernel_rfl) (fun _ _ _ h=>h) (Or.inl ⟨by rfl,?hya8⟩) hHeld ?rsa8
  case hya8=>(intro w hSw;go_simp;try with_reducible rfl)
  case rsa8=>
  try simp only[Zset]
  refine Zc (i:=9) (d:=16) (v:=?va9) rfl rfl (by kernel_rfl) (fun _ _ _ h=>h) (Or.inl ⟨by rfl,?hya9⟩) hHeld ?rsa9
  case hya9=>(intro w hSw;go_simp;try with_reducible rfl)
  case rsa9=>
  try simp only[Zset]
  refine Zc (i:=10) (d:=17) (v:=?va10) rfl rfl (by kernel_rfl) (fun _ _ _ h=>h) (Or.inl ⟨by rfl,?hya10⟩) hHeld ?rsa10
  case hya10=>(intro w hSw;go_simp;try with_reducible rfl)
  case rsa10=>
  try simp only[Zset]
  refine Zc (i:=11) (d:=18) (v:=?va11) rfl rfl (by kernel_rfl) (fun _ _ _ h=>h) (Or.inl ⟨by rfl,?hya11⟩) hHeld ?rsa11
  case hya11=>(intro w hSw;go_simp;try with_reducible rfl)
  case rsa11=>
  try simp only[Zset]
  refine ZbN (i:=12) (by kernel_rfl) rfl (fun K hK=>?_)
  go_simp
  refine(Zi0 (.slice sa ss.length scp) ss nm la ln lc nd n t _ (HST1.below HD.out) HNM.out (HC1.below HD.out) (by omega) (by omega) ht0 ht1).mono ?_
  rintro e w2 ⟨v,rs,rfl,HV,hb3⟩
  go_simp
  have hb4:=HD.trans (hb3.mono HD.size)
  have HM2:=hid (HM1.below hb4)
  have HX2:=hid (HX1.below hb4)
  have HBF:=hid (HB2.trans (hb4.mono HB2.size))
  refine hK.out _ _ ⟨HM2.cell 4,HM2.cell 5,HX2.cell 0,HX2.cell 1,HX2.cell 2⟩ (fun hHeld=>?_)
  clear hK K hb3 hb4 HM1 HX1 HM2 HX2
  try simp only[Act.put,Zset]
  refine Zc (i:=13) (d:=20) (v:=?va13) rfl rfl (by kernel_rfl) (fun _ _ _ h=>h) (Or.inl ⟨by rfl,?hya13⟩) hHeld ?rsa13
  case hya13=>(intro w hSw;go_simp;try with_reducible rfl)
  case rsa13=>
  try simp only[Zset]
  refine ZbW (by kernel_rfl) (by kernel_rfl) rfl (by kernel_rfl) (fun K hK=>?_)
  go_simp
  refine hK.out _ _ ?_
  clear hK K hHeld
  go_wp2
  go_ret
  exact⟨_,rfl,hid (by rw[HP.out];exact⟨_,_,rfl,HV.1,HV.2⟩),HBF.out⟩
 ·rw[decide_eq_false h0]
  have HP:=hid (show ZdG (ss.map Srs.ser) t (nd,n)=.val (.vec (Zcr (ss.map Srs.ser) nd none 10 t)) by unfold ZdG;rw[if_neg h0])
  clear h0
  go_upto_region 3 with fail
  have HD:Hid (Below w1.heap.size w1 w1.drew):=hid (Below.refl _ _).drew
  have HMD:=hid (HM1.below HD.out)
  have HXD:=hid (HX1.below HD.out)
  refine Zb0 12 (fun w'=>w'.cell? ⟨mb,4,none⟩=some (.slice sa ss.length scp)/\w'.cell? ⟨mb,5,none⟩=some (.int .i64 t)/\w'.cell? ⟨xb,0,none⟩=some (.string nm)/\w'.cell? ⟨xb,1,none⟩=some (.slice la ln lc)) (by kernel_rfl) (by exact⟨HMD.cell 4,HMD.cell 5,HXD.cell 0,HXD.cell 1⟩) (fun hHeld=>?_)
  clear HMD HXD
  refine Zc (i:=0) (d:=21) (v:=?vb0) rfl rfl (by kernel_rfl) (fun _ _ _ h=>h) (Or.inl ⟨by rfl,?hyb0⟩) hHeld ?rsb0
  case hyb0=>(intro w hSw;go_simp;try with_reducible rfl)
  case rsb0=>
  try simp only[Zset]
  refine Zc (i:=1) (d:=22) (v:=?vb1) rfl rfl (by kernel_rfl) (fun _ _ _ h=>h) (Or.inl ⟨by rfl,?hyb1⟩) hHeld ?rsb1
  case hyb1=>(intro w hSw;go_simp;try with_reducible rfl)
  case rsb1=>
  try simp only[Zset]
  refine Zc (i:=2) (d:=23) (v:=?vb2) rfl rfl (by kernel_rfl) (fun _ _ _ h=>h) (Or.inl ⟨by rfl,?hyb2⟩) hHeld ?rsb2
  case hyb2=>(intro w hSw;go_simp;try with_reducible rfl)
  case rsb2=>
  try simp only[Zset]
  refine Zc (i:=3) (d:=24) (v:=?vb3) rfl rfl (by kernel_rfl) (fun _ _ _ h=>h) (Or.inl ⟨by rfl,?hyb3⟩) hHeld ?rsb3
  case hyb3=>(intro w hSw;go_simp;try with_reducible rfl)
  case rsb3=>
  try simp only[Zset]
  refine Zc (i:=4) (d:=25) (v:=?vb4) rfl rfl (by kernel_rfl) (fun _ _ _ h=>h) (Or.inl ⟨by rfl,?hyb4⟩) hHeld ?rsb4
  case hyb4=>(intro w hSw;go_simp;try with_reducible rfl)
  case rsb4=>
  try simp only[Zset]
  refine Zc (i:=5) (d:=26) (v:=?vb5) rfl rfl (by kernel_rfl) (fun _ _ _ h=>h) (Or.inl ⟨by rfl,?hyb5⟩) hHeld ?rsb5
  case hyb5=>(intro w hSw;go_simp;try with_reducible rfl)
  case rsb5=>
  try simp only[Zset]
  refine Zc (i:=6) (d:=27) (v:=?vb6) rfl rfl (by kernel_rfl) (fun _ _ _ h=>h) (Or.inl ⟨by rfl,?hyb6⟩) hHeld ?rsb6
  case hyb6=>(intro w hSw;go_simp;try with_reducible rfl)
  case rsb6=>
  try simp only[Zset]
  refine Zc (i:=7) (d:=28) (v:=?vb7) rfl rfl (by kernel_rfl) (fun _ _ _ h=>h) (Or.inl ⟨by rfl,?hyb7⟩) hHeld ?rsb7
  case hyb7=>(intro w hSw;go_simp;try with_reducible rfl)
  case rsb7=>
  try simp only[Zset]
  refine Zc (i:=8) (d:=29) (v:=?vb8) rfl rfl (by kernel_rfl) (fun _ _ _ h=>h) (Or.inl ⟨by rfl,?hyb8⟩) hHeld ?rsb8
  case hyb8=>(intro w hSw;go_simp;try with_reducible rfl)
  case rsb8=>
  try simp only[Zset]
  refine Zc (i:=9) (d:=30) (v:=?vb9) rfl rfl (by kernel_rfl) (fun _ _ _ h=>h) (Or.inl ⟨by rfl,?hyb9⟩) hHeld ?rsb9
  case hyb9=>(intro w hSw;go_simp;try with_reducible rfl)
  case rsb9=>
  try simp only[Zset]
  refine ZbN (i:=10) (by kernel_rfl) rfl (fun K hK=>?_)
  go_simp
  refine(Zl7 (.slice sa ss.length scp) ss nm la ln lc nd t _ (HST1.below HD.out) HDS.out HNM.out (HC1.below HD.out) ht0 ht1).mono ?_
  rintro e w2 ⟨v,is,rfl,HV,hb3⟩
  go_simp
  have hb4:=HD.trans (hb3.mono HD.size)
  have HM2:=hid (HM1.below hb4)
  have HX2:=hid (HX1.below hb4)
  have HBF:=hid (HB2.trans (hb4.mono HB2.size))
  refine hK.out _ _ ⟨HM2.cell 4,HM2.cell 5,HX2.cell 0,HX2.cell 1⟩ (fun hHeld=>?_)
  clear hK K hb3 hb4 HM1 HX1 HM2 HX2
  try simp only[Act.put,Zset]
  refine Zc (i:=11) (d:=32) (v:=?vb11) rfl rfl (by kernel_rfl) (fun _ _ _ h=>h) (Or.inl ⟨by rfl,?hyb11⟩) hHeld ?rsb11
  case hyb11=>(intro w hSw;go_simp;try with_reducible rfl)
  case rsb11=>
  try simp only[Zset]
  refine ZbW (by kernel_rfl) (by kernel_rfl) rfl (by kernel_rfl) (fun K hK=>?_)
  go_simp
  refine hK.out _ _ ?_
  clear hK K hHeld
  go_wp2
  go_ret
  exact⟨_,rfl,hid (by rw[HP.out];exact⟨_,_,rfl,HV.out⟩),HBF.out⟩
theorem ZfO {w w' : World} {a mb : Nat} {c c' : List Value} {T : TypeId} (h : BAt w a c T) (hg : w.grownBy w' (some mb)) (hm : BAt w mb c' 365) (ht : T ≠ 365) : BAt w' a c T := h.grown hg (fun e => by
  injection e with e
  subst e
  have:=h.symm.trans hm
  injection this with this
  injection this with _ this _
  exact ht this)
def Zcb(w0 wk w:World)(mb x gb gx op arg:Nat)(c0 c1 c2 c3 al:Value)(t:Int)(ser:List Ser)(m:MQ):Prop:=Calls Tryz.prog 101 #[.pointer (some ⟨mb,0,none⟩),.agg #[.int .i64 op,.int .i64 arg]] w fun e w'=>e=.returned (.tuple #[])/\Hid (Zny w0 wk w' mb x gb gx c0 c1 c2 c3 al t ser m)
theorem Zs3{w0 wk w:World}{mb x gb gx arg:Nat}{c0 c1 c2 c3 al:Value}{t:Int}{ser:List Ser}{m:MQ}{sa:Option Addr}{sn sc:Nat}{vs:List Value}(h:PInv w0 wk w mb x gb gx c0 c1 c2 c3 al t ser m sa sn sc vs){y:Cl}{ys:List Cl}(hs:m.stack=y::ys)(h64:m.stack.length<=64) :
  Zcb w0 wk w mb x gb gx 11 arg c0 c1 c2 c3 al t ser ⟨ys,m.slots⟩:=by
 unfold Zcb
 obtain⟨v,vs',n,rfl,rfl,_,hn⟩:=h.top hs
 have hk:n<=64:=by rw[hs,List.length_cons]at h64;omega
 have HI:Hid (PInv w0 wk w mb x gb gx _ _ _ _ al t ser ⟨y::ys,m.slots⟩ sa (n+1) sc (v::vs')):=hid (by rw[<-hs];exact h)
 clear h hs h64 hn
 go_enter Tryz.func101,Tryz.ntmps101
 go_wp2_with fail
 refine Zn fun W hW=>?_
 have hbW:Below w.heap.size w W:=by rw[hW];exact Zbal
 have HAW:Hid (BAt W w.heap.size [.int .i64 11,.int .i64 arg] 184):=hid (by rw[hW];exact(show BAt _ _ _ _ from Go.Deep.blk_alloc_new w _))
 have HIW:=hid (HI.below hbW)
 clear hW hbW HI
 generalize w.heap.size=ab at *
 refine(ZeI W w0.heap.size mb _ _ _ _ al t (.map (some x)) (.pointer (some ⟨gb,0,none⟩)) sa n sc vs'.reverse v (by have:=HIW.st;rwa [List.reverse_cons]at this) (by omega)).mono ?_
 rintro e w2 ⟨rfl,HP,HG⟩
 have HI9:=hid (HIW.popped HP.out HG.out).1
 have HC9:=hid (HIW.popped HP.out HG.out).2
 clear HIW HP HG HAW HC9
 go_wp2
 exact bodyPost_end (v:=.tuple #[]) (results_none rfl _ _ _) rfl ⟨rfl,hid ⟨_,_,_,_,HI9.out⟩⟩
theorem Zs6{w0 wk w:World}{mb x gb gx arg:Nat}{c0 c1 c2 c3 al:Value}{t:Int}{ser:List Ser}{m:MQ}{sa:Option Addr}{sn sc:Nat}{vs:List Value}(h:PInv w0 wk w mb x gb gx c0 c1 c2 c3 al t ser m sa sn sc vs){V:VV}{ys:List Cl}(hs:m.stack=.val V::ys)(h64:m.stack.length<=64) :
  Zcb w0 wk w mb x gb gx 4 arg c0 c1 c2 c3 al t ser ⟨.val (negV V)::ys,m.slots⟩:=by
 unfold Zcb
 obtain⟨v,vs',n,rfl,rfl,_,hn⟩:=h.top hs
 have hk:n<=64:=by rw[hs,List.length_cons]at h64;omega
 have HI:Hid (PInv w0 wk w mb x gb gx _ _ _ _ al t ser ⟨.val V::ys,m.slots⟩ sa (n+1) sc (v::vs')):=hid (by rw[<-hs];exact h)
 clear h hs h64 hn
 go_enter Tryz.func101,Tryz.ntmps101
 go_wp2_with fail
 refine Zn fun W hW=>?_
 have hbW:Below w.heap.size w W:=by rw[hW];exact Zbal
 have HAW:Hid (BAt W w.heap.size [.int .i64 4,.int .i64 arg] 184):=hid (by rw[hW];exact(show BAt _ _ _ _ from Go.Deep.blk_alloc_new w _))
 have HIW:=hid (HI.below hbW)
 clear hW hbW HI
 generalize w.heap.size=ab at *
 refine(ZeI W w0.heap.size mb _ _ _ _ al t (.map (some x)) (.pointer (some ⟨gb,0,none⟩)) sa n sc vs'.reverse v (by have:=HIW.st;rwa [List.reverse_cons]at this) (by omega)).mono ?_
 rintro e w2 ⟨rfl,HP,HG⟩
 have HI2:=hid (HIW.popped HP.out HG.out).1
 have HC2:=hid (HIW.popped HP.out HG.out).2
 clear HIW HP HG HAW
 go_wp2_with fail
 refine(Zl5 v V w2 HC2.out).mono ?_
 rintro e w3 ⟨v3,rfl,HV3,hb3⟩
 have HI3:=hid (HI2.below hb3)
 have HC3:Hid (PelV w3 ser t v3 (.val (negV V))):=HV3
 clear HI2 HC2 HV3 hb3
 obtain⟨ty,u,rfl⟩:=HC3.shape
 go_wp2_with fail
 refine(Ze2 w3 w0.heap.size mb _ _ _ _ al t (.map (some x)) (.pointer (some ⟨gb,0,none⟩)) _ n _ vs'.reverse ty u HI3.st (by omega) HI3.bel.size).mono ?_
 rintro e w9 ⟨rfl,HP9,HK9⟩
 obtain⟨g9,n9,hp9⟩:=HP9.out
 have HI9:=hid (HI3.pushed HC3.out hp9 HK9.out)
 clear hp9 HP9 HK9
 clear HI3 HC3
 go_wp2
 exact bodyPost_end (v:=.tuple #[]) (results_none rfl _ _ _) rfl ⟨rfl,hid ⟨_,_,_,_,HI9.out⟩⟩
theorem Zs7{w0 wk w:World}{mb x gb gx arg:Nat}{c0 c1 c2 c3 al:Value}{t:Int}{ser:List Ser}{m:MQ}{sa:Option Addr}{sn sc:Nat}{vs:List Value}(h:PInv w0 wk w mb x gb gx c0 c1 c2 c3 al t ser m sa sn sc vs)(hd:Dst ser)(hl:ser.length<=30)(ha:arg<=4){a:Nd}{k:Nat}{ys:List Cl}(hs:m.stack=.rng a k::ys)(h64:m.stack.length<=64) :
  Zcb w0 wk w mb x gb gx 2 arg c0 c1 c2 c3 al t ser ⟨.val (.vec (Zcr ser a (some arg) k t))::ys,m.slots⟩:=by
 unfold Zcb
 obtain⟨v,vs',n,rfl,rfl,_,hn⟩:=h.top hs
 have hk:n<=64:=by rw[hs,List.length_cons]at h64;omega
 have HI:Hid (PInv w0 wk w mb x gb gx _ _ _ _ al t ser ⟨.rng a k::ys,m.slots⟩ sa (n+1) sc (v::vs')):=hid (by rw[<-hs];exact h)
 clear h hs h64 hn
 have HD:=hid hd
 clear hd
 go_enter Tryz.func101,Tryz.ntmps101
 go_wp2_with fail
 refine Zn fun W hW=>?_
 have hbW:Below w.heap.size w W:=by rw[hW];exact Zbal
 have HAW:Hid (BAt W w.heap.size [.int .i64 2,.int .i64 arg] 184):=hid (by rw[hW];exact(show BAt _ _ _ _ from Go.Deep.blk_alloc_new w _))
 have HIW:=hid (HI.below hbW)
 clear hW hbW HI
 generalize w.heap.size=ab at *
 refine(ZeI W w0.heap.size mb _ _ _ _ al t (.map (some x)) (.pointer (some ⟨gb,0,none⟩)) sa n sc vs'.reverse v (by have:=HIW.st;rwa [List.reverse_cons]at this) (by omega)).mono ?_
 rintro e w2 ⟨rfl,HP,HG⟩
 have HI2:=hid (HIW.popped HP.out HG.out).1
 have HC2:=hid (HIW.popped HP.out HG.out).2
 have HA2:Hid (BAt w2 ab [.int .i64 2,.int .i64 arg] 184):=hid (ZfO HAW.out HG.out HIW.st.box (by decide))
 clear HIW HP HG HAW
 obtain⟨rv,rs,rfl,hr,hm⟩:=HC2.out
 have HR:=hid hr
 have HM:=hid hm
 have hrl:rs.length<=30:=by
  have h1:=congrArg List.length hm
  rw[List.length_map]at h1
  have h2:=Zi2 ser a k t
  omega
 clear hr hm HC2
 have hta:∀W:World,(Instr.typeAssert (.iface 359 rv) 223 359 true).run Tryz.prog W=.ok (.tuple #[rv,.bool true]) W:=fun W=>by kernel_rfl
 have a1:=HA2.cell 1
 have hal:=HA2.lt
 simp only[Zget]at a1
 go_wp2_with fail
 refine(Zl6 arg ha rv rs ser a k t w2 HR.out HM.out HD.out hrl).mono ?_
 rintro e w3 ⟨v3,is3,rfl,HV3,hb3⟩
 have HI3:=hid (HI2.below hb3)
 have HC3:Hid (PelV w3 ser t (.iface 342 v3) (.val (.vec (Zcr ser a (some arg) k t)))):=hid ⟨_,_,rfl,HV3.out⟩
 clear HI2 HV3 hb3 HA2 HR HM HD a1 hal
 go_wp2_with fail
 refine(Ze2 w3 w0.heap.size mb _ _ _ _ al t (.map (some x)) (.pointer (some ⟨gb,0,none⟩)) _ n _ vs'.reverse 342 v3 HI3.st (by omega) HI3.bel.size).mono ?_
 rintro e w9 ⟨rfl,HP9,HK9⟩
 obtain⟨g9,n9,hp9⟩:=HP9.out
 have HI9:=hid (HI3.pushed HC3.out hp9 HK9.out)
 clear hp9 HP9 HK9
 clear HI3 HC3
 go_wp2
 exact bodyPost_end (v:=.tuple #[]) (results_none rfl _ _ _) rfl ⟨rfl,hid ⟨_,_,_,_,HI9.out⟩⟩
theorem Zs1{w0 wk w:World}{mb x gb gx arg:Nat}{c0 c1 c2 c3 al:Value}{t:Int}{ser:List Ser}{m:MQ}{sa:Option Addr}{sn sc:Nat}{vs:List Value}(h:PInv w0 wk w mb x gb gx c0 c1 c2 c3 al t ser m sa sn sc vs)(ha:arg<=3){X Y:VV}{ys:List Cl}(hs:m.stack=.val Y::.val X::ys)(h64:m.stack.length<=64)(hY:VOk 1000 Y) :
  Zcb w0 wk w mb x gb gx 3 arg c0 c1 c2 c3 al t ser ⟨.val (Zdk arg X Y)::ys,m.slots⟩:=by
 unfold Zcb
 obtain⟨v,vs',n,rfl,rfl,_,hn⟩:=h.top hs
 have hk:n<=64:=by rw[hs,List.length_cons]at h64;omega
 have HI:Hid (PInv w0 wk w mb x gb gx c0 c1 c2 c3 al t ser ⟨.val Y::.val X::ys,m.slots⟩ sa (n+1) sc (v::vs')):=hid (by rw[<-hs];exact h)
 have HY:=hid hY
 clear h hs h64 hn hY
 go_enter Tryz.func101,Tryz.ntmps101
 go_wp2_with fail
 refine Zn fun W hW=>?_
 have hbW:Below w.heap.size w W:=by rw[hW];exact Zbal
 have HAW:Hid (BAt W w.heap.size [.int .i64 3,.int .i64 arg] 184):=hid (by rw[hW];exact(show BAt _ _ _ _ from Go.Deep.blk_alloc_new w _))
 have HIW:=hid (HI.below hbW)
 clear hW hbW HI
 generalize w.heap.size=ab at *
 refine(ZeI W w0.heap.size mb _ _ _ _ al t (.map (some x)) (.pointer (some ⟨gb,0,none⟩)) sa n sc vs'.reverse v (by have:=HIW.st;rwa [List.reverse_cons]at this) (by omega)).mono ?_
 rintro e w2 ⟨rfl,HP,HG⟩
 have HI2:=hid (HIW.popped HP.out HG.out).1
 have HC2:=hid (HIW.popped HP.out HG.out).2
 have HA2:Hid (BAt w2 ab [.int .i64 3,.int .i64 arg] 184):=hid (ZfO HAW.out HG.out HIW.st.box (by decide))
 clear HIW HP HG HAW
 obtain⟨v1,vs1,n1,rfl,rfl,_,_⟩:=HI2.top rfl
 go_wp2_with fail
 refine(ZeI w2 w0.heap.size mb _ _ _ _ al t (.map (some x)) (.pointer (some ⟨gb,0,none⟩)) sa n1 sc vs1.reverse v1 (by have:=HI2.st;rwa [List.reverse_cons]at this) (by omega)).mono ?_
 rintro e w3 ⟨rfl,HP,HG⟩
 have HI3:=hid (HI2.popped HP.out HG.out).1
 have HC3:=hid (HI2.popped HP.out HG.out).2
 have HY3:Hid (PelV w3 ser t v (.val Y)):=hid (HC2.y ((MKeep.ofG HG.out _).y HI2.st.box HI2.st.own))
 have HA3:Hid (BAt w3 ab [.int .i64 3,.int .i64 arg] 184):=hid (ZfO HA2.out HG.out HI2.st.box (by decide))
 clear HI2 HC2 HP HG HA2
 have a1:=HA3.cell 1
 have hal:=HA3.lt
 simp only[Zget]at a1
 have hw:IntKind.i64.wrap (1+(arg:Int))=((arg+1:Nat):Int):=by rw[IntKind.wrap_i64];omega
 go_wp2_with fail
 refine(Zl0 arg ha v1 v X Y w3 HC3.out HY3.out HY.out).mono ?_
 rintro e w4 ⟨v4,rfl,HV4,hb4⟩
 have HI4:=hid (HI3.below hb4)
 have HC4:Hid (PelV w4 ser t v4 (.val (Zdk arg X Y))):=HV4
 clear HI3 HC3 HY3 HY HA3 a1 hal HV4 hb4
 obtain⟨ty,u,rfl⟩:=HC4.shape
 go_wp2_with fail
 refine(Ze2 w4 w0.heap.size mb _ _ _ _ al t (.map (some x)) (.pointer (some ⟨gb,0,none⟩)) _ n1 _ vs1.reverse ty u HI4.st (by omega) HI4.bel.size).mono ?_
 rintro e w9 ⟨rfl,HP9,HK9⟩
 obtain⟨g9,n9,hp9⟩:=HP9.out
 have HI9:=hid (HI4.pushed HC4.out hp9 HK9.out)
 clear hp9 HP9 HK9
 clear HI4 HC4
 go_wp2
 exact bodyPost_end (v:=.tuple #[]) (results_none rfl _ _ _) rfl ⟨rfl,hid ⟨_,_,_,_,HI9.out⟩⟩
open Go.ChangeMaps (setBlock)
theorem Zs5{w0 wk w:World}{mb x gb gx arg:Nat}{c0 c1 c2 c3 al:Value}{t:Int}{ser:List Ser}{m:MQ}{sa:Option Addr}{sn sc:Nat}{vs:List Value}(h:PInv w0 wk w mb x gb gx c0 c1 c2 c3 al t ser m sa sn sc vs)(ha:arg<16){y:Cl}(hy:m.slots.getD arg none=some y)(h64:m.stack.length<64) :
  Zcb w0 wk w mb x gb gx 13 arg c0 c1 c2 c3 al t ser ⟨y::m.stack,m.slots⟩:=by
 unfold Zcb
 have hsn:sn<64:=by have:=h.num;omega
 have HI:=hid h
 clear h h64
 go_enter Tryz.func101,Tryz.ntmps101
 go_upto_region 25 with fail
 refine ZK fun W hW=>?_
 have hbW:Below w.heap.size w W:=by rw[hW];exact Zbal
 have HAW:Hid (BAt W w.heap.size [.int .i64 13,.int .i64 arg] 184):=hid (by rw[hW];exact(show BAt _ _ _ _ from Go.Deep.blk_alloc_new w _))
 have HID:=hid (HI.below (hbW.drew))
 clear hW hbW HI
 generalize w.heap.size=ab at *
 have abW:=HAW.lt
 have mbW:mb<W.heap.size:=HID.st.box.lt
 obtain⟨gs,es,cl,hmap,hsl⟩:=HID.slo
 obtain⟨v,hg,hv⟩:=hsl arg y hy
 obtain⟨ty,u,rfl⟩:=hv.shape
 have HV:=hid hv
 have hlk:=fun W' hW'=>ZrQ hmap ha hg W' hW'
 have hx0:=hmap.heap
 generalize hob:Obj.map es cl=ob at hx0
 have hlk2:∀W':World,W'.heap[x]?=some ob->(Instr.lookup 362 (.map (some x)) (.int .i64 arg) false).run Tryz.prog W'=.ok (.iface ty u) W':=fun W' hW'=>hlk W' (hW'.trans hx0.symm)
 clear hlk hob hmap hsl hg hv hy
 refine Zb0 8 (fun w'=>w'.cell? ⟨mb,7,none⟩=some (.map (some x))/\w'.cell? ⟨ab,1,none⟩=some (.int .i64 arg)/\w'.heap[x]?=some ob) (by kernel_rfl) (by exact⟨HID.st.box.cell 7,HAW.cell 1,hx0⟩) (fun hHeld=>?_)
 clear hx0
 refine Zc (i:=0) (d:=125) (v:=?v0) rfl rfl (by kernel_rfl) (fun _ _ _ h=>h) (Or.inl ⟨by rfl,?hy0⟩) hHeld ?rs0
 case hy0=>(intro w hSw;go_simp;try with_reducible rfl)
 case rs0=>
 try simp only[Zset]
 refine Zc (i:=1) (d:=126) (v:=?v1) rfl rfl (by kernel_rfl) (fun _ _ _ h=>h) (Or.inl ⟨by rfl,?hy1⟩) hHeld ?rs1
 case hy1=>(intro w hSw;go_simp;try with_reducible rfl)
 case rs1=>
 try simp only[Zset]
 refine Zc (i:=2) (d:=127) (v:=?v2) rfl rfl (by kernel_rfl) (fun _ _ _ h=>h) (Or.inl ⟨by rfl,?hy2⟩) hHeld ?rs2
 case hy2=>(intro w hSw;go_simp;try with_reducible rfl)
 case rs2=>
 try simp only[Zset]
 refine Zc (i:=3) (d:=128) (v:=?v3) rfl rfl (by kernel_rfl) (fun _ _ _ h=>h) (Or.inl ⟨by rfl,?hy3⟩) hHeld ?rs3
 case hy3=>(intro w hSw;go_simp;try with_reducible rfl)
 case rs3=>
 try simp only[Zset]
 refine Zc (i:=4) (d:=129) (v:=?v4) rfl rfl (by kernel_rfl) (fun _ _ _ h=>h) (Or.inl ⟨by rfl,?hy4⟩) hHeld ?rs4
 case hy4=>(intro w hSw;go_simp;try with_reducible rfl)
 case rs4=>
 try simp only[Zset]
 refine Zc (i:=5) (d:=130) (v:=?v5) rfl rfl (by kernel_rfl) (fun _ _ _ h=>h) (Or.inl ⟨by rfl,?hy5⟩) hHeld ?rs5
 case hy5=>(intro w hSw;go_simp;try with_reducible rfl)
 case rs5=>
 try simp only[Zset]
 refine Zc (i:=6) (d:=131) (v:=?v6) rfl rfl (by kernel_rfl) (fun _ _ _ h=>h) (Or.inl ⟨by rfl,?hy6⟩) hHeld ?rs6
 case hy6=>(intro w hSw;go_simp;try with_reducible rfl)
 case rs6=>
 try simp only[Zset]
 refine Zc (i:=7) (d:=132) (v:=?v7) rfl rfl (by kernel_rfl) (fun _ _ _ h=>h) (Or.inl ⟨by rfl,?hy7⟩) hHeld ?rs7
 case hy7=>(intro w hSw;have hlk3:=hlk2 w hSw.2.2;go_simp;try with_reducible rfl)
 case rs7=>
 try simp only[Zset]
 refine ZbW (by kernel_rfl) (by kernel_rfl) rfl (by kernel_rfl) (fun K hK=>?_)
 go_simp
 refine(Ze2 _ w0.heap.size mb _ _ _ _ al t (.map (some x)) (.pointer (some ⟨gb,0,none⟩)) _ sn _ vs.reverse ty u HID.st (by omega) HID.bel.size).mono ?_
 rintro e w9 ⟨rfl,HP9,HK9⟩
 obtain⟨g9,n9,hp9⟩:=HP9.out
 have HI9:=hid (HID.pushed HV.out hp9 HK9.out)
 clear hp9 HP9 HK9
 clear hHeld HAW HID HV hlk2
 go_simp
 refine hK.out _ _ ?_
 clear hK K
 go_wp2
 exact bodyPost_end (v:=.tuple #[]) (results_none rfl _ _ _) rfl ⟨rfl,hid ⟨_,_,_,_,HI9.out⟩⟩
theorem Zs9{w0 wk w:World}{mb x gb gx arg:Nat}{c0 c1 c2 c3 al:Value}{t:Int}{ser:List Ser}{m:MQ}{sa:Option Addr}{sn sc:Nat}{vs:List Value}(h:PInv w0 wk w mb x gb gx c0 c1 c2 c3 al t ser m sa sn sc vs)(ha:arg<16)(hl:m.slots.length=16){y:Cl}{ys:List Cl}(hs:m.stack=y::ys)(h64:m.stack.length<=64) :
  Zcb w0 wk w mb x gb gx 12 arg c0 c1 c2 c3 al t ser ⟨ys,m.slots.set arg (some y)⟩:=by
 unfold Zcb
 obtain⟨v,vs',n,rfl,rfl,_,hn⟩:=h.top hs
 have hk:n<=64:=by rw[hs,List.length_cons]at h64;omega
 have HI:Hid (PInv w0 wk w mb x gb gx _ _ _ _ al t ser ⟨y::ys,m.slots⟩ sa (n+1) sc (v::vs')):=hid (by rw[<-hs];exact h)
 clear h hs h64 hn
 go_enter Tryz.func101,Tryz.ntmps101
 go_upto_region 23 with fail
 refine ZK fun W hW=>?_
 have hbW:Below w.heap.size w W:=by rw[hW];exact Zbal
 have HAW:Hid (BAt W w.heap.size [.int .i64 12,.int .i64 arg] 184):=hid (by rw[hW];exact(show BAt _ _ _ _ from Go.Deep.blk_alloc_new w _))
 have HID:=hid (HI.below (hbW.drew))
 have HAD:=hid (HAW.below (Below.refl _ _).drew)
 clear hW hbW HI
 generalize w.heap.size=ab at *
 have abW:=HAW.lt
 have mbW:mb<W.heap.size:=HID.st.box.lt
 refine Zb0 8 (fun w'=>w'.cell? ⟨mb,7,none⟩=some (.map (some x))/\w'.cell? ⟨ab,1,none⟩=some (.int .i64 arg)) (by kernel_rfl) (by exact⟨HID.st.box.cell 7,HAW.cell 1⟩) (fun hHeld=>?_)
 refine Zc (i:=0) (d:=115) (v:=?v0) rfl rfl (by kernel_rfl) (fun _ _ _ h=>h) (Or.inl ⟨by rfl,?hy0⟩) hHeld ?rs0
 case hy0=>(intro w hSw;go_simp;try with_reducible rfl)
 case rs0=>
 try simp only[Zset]
 refine Zc (i:=1) (d:=116) (v:=?v1) rfl rfl (by kernel_rfl) (fun _ _ _ h=>h) (Or.inl ⟨by rfl,?hy1⟩) hHeld ?rs1
 case hy1=>(intro w hSw;go_simp;try with_reducible rfl)
 case rs1=>
 try simp only[Zset]
 refine Zc (i:=2) (d:=117) (v:=?v2) rfl rfl (by kernel_rfl) (fun _ _ _ h=>h) (Or.inl ⟨by rfl,?hy2⟩) hHeld ?rs2
 case hy2=>(intro w hSw;go_simp;try with_reducible rfl)
 case rs2=>
 try simp only[Zset]
 refine Zc (i:=3) (d:=118) (v:=?v3) rfl rfl (by kernel_rfl) (fun _ _ _ h=>h) (Or.inl ⟨by rfl,?hy3⟩) hHeld ?rs3
 case hy3=>(intro w hSw;go_simp;try with_reducible rfl)
 case rs3=>
 try simp only[Zset]
 refine Zc (i:=4) (d:=119) (v:=?v4) rfl rfl (by kernel_rfl) (fun _ _ _ h=>h) (Or.inl ⟨by rfl,?hy4⟩) hHeld ?rs4
 case hy4=>(intro w hSw;go_simp;try with_reducible rfl)
 case rs4=>
 try simp only[Zset]
 refine Zc (i:=5) (d:=120) (v:=?v5) rfl rfl (by kernel_rfl) (fun _ _ _ h=>h) (Or.inl ⟨by rfl,?hy5⟩) hHeld ?rs5
 case hy5=>(intro w hSw;go_simp;try with_reducible rfl)
 case rs5=>
 try simp only[Zset]
 refine Zc (i:=6) (d:=121) (v:=?v6) rfl rfl (by kernel_rfl) (fun _ _ _ h=>h) (Or.inl ⟨by rfl,?hy6⟩) hHeld ?rs6
 case hy6=>(intro w hSw;go_simp;try with_reducible rfl)
 case rs6=>
 try simp only[Zset]
 refine ZbN (i:=7) (by kernel_rfl) rfl (fun K hK=>?_)
 go_simp
 refine(ZeI _ w0.heap.size mb _ _ _ _ al t (.map (some x)) (.pointer (some ⟨gb,0,none⟩)) sa n sc vs'.reverse v (by have:=HID.st;rwa [List.reverse_cons]at this) (by omega)).mono ?_
 rintro e w2 ⟨rfl,HP,HG⟩
 have HI2:=hid (HID.popped HP.out HG.out).1
 have HC2:=hid (HID.popped HP.out HG.out).2
 have HA2:Hid (BAt w2 ab [.int .i64 12,.int .i64 arg] 184):=hid (ZfO HAD.out HG.out HID.st.box (by decide))
 clear HP HG HID HAW HAD
 go_simp
 refine hK.out _ _ ⟨HI2.st.box.cell 7,HA2.cell 1⟩ (fun hHeld=>?_)
 clear hK K
 try simp only[Act.put,Zset]
 obtain⟨gs,es,cl,hmap,hsl⟩:=HI2.slo
 obtain⟨es2,cl2,gs2,hup,hmap2,hget⟩:=ZvD hmap ha v
 have hup2:=hup w2 rfl
 have HI9 : Hid (PInv w0 wk (setBlock w2 x (.map es2 cl2)) mb x gb gx c0 c1 c2 c3 al t ser ⟨ys, m.slots.set arg (some y)⟩ sa n sc vs') := hid (HI2.stored rfl ⟨gs2, es2, cl2, hmap2 w2 (Array.getElem?_eq_some_iff.1 hmap.heap).1, fun j z hz => by
   have hky:ZbC w2 (setBlock w2 x (.map es2 cl2)):=(Zh.belX (BelX.set x w2.heap.size w2 _) ⟨es,cl,hmap.heap⟩).y
   rw[hget]
   rw[List.getD_eq_getElem?_getD,List.getElem?_set]at hz
   by_cases e:arg=j
   · rw[if_pos e,if_pos (by rw[hl];exact ha)]at hz
     injection hz with hz
     subst hz
     exact⟨v,if_pos e,HC2.y hky⟩
   · rw[if_neg e]at hz
     rw[<-List.getD_eq_getElem?_getD]at hz
     obtain⟨u,h1,h2⟩:=hsl j z hz
     exact⟨u,by rw[if_neg e];exact h1,h2.y hky⟩⟩)
 clear hup hmap2 hget hmap hsl HI2 HA2 HC2
 refine ZbW (by kernel_rfl) (by kernel_rfl) rfl (by kernel_rfl) (fun K hK=>?_)
 go_simp
 refine hK.out _ _ ?_
 clear hK K hHeld hup2
 go_wp2
 exact bodyPost_end (v:=.tuple #[]) (results_none rfl _ _ _) rfl ⟨rfl,hid ⟨_,_,_,_,HI9.out⟩⟩
end Go.Proofs.YtkodhpilkaihjaaGreatDoor

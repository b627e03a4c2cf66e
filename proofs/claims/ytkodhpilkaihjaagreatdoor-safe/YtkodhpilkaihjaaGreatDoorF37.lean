/- Parts. -/
import Derived.Test.YtkodhpilkaihjaaGreatDoorF34
import Derived.Deep.RegionHeld3
import Derived.ChangeKeysEq
import Derived.Deep.MidRow
set_option maxRecDepth 100000
set_option maxHeartbeats 8000000
namespace Go.Proofs.YtkodhpilkaihjaaGreatDoor
open Go.RowKit LS
structure DoP (w:World) (nb:Nat) (a:Ah) (c:CodeQ) (op arg:Nat) (a0 a1 a2 a3:Option Addr) (n0 n1 n2 n3 e0 e1 e2 e3:Nat):Prop where
 st:StAt w nb a
 cv:CodeV w c (.slice a0 n0 e0) (.slice a1 n1 e1) (.slice a2 n2 e2) (.slice a3 n3 e3)
 rf:∃i,Z0 c i (op,arg)=true
 ln:a.stack.length<=64
 sl:a.slots.length=16
 kd:∀k∈a.stack,k≠0
theorem do_0(w:World)(nb:Nat)(a:Ah)(c:CodeQ)(arg:Nat)(a0 a1 a2 a3:Option Addr)(n0 n1 n2 n3 e0 e1 e2 e3:Nat)(h:DoP w nb a c 0 arg a0 a1 a2 a3 n0 n1 n2 n3 e0 e1 e2 e3) :
  Calls Tryz.prog 145 #[.pointer (some ⟨nb,0,none⟩),.agg #[.slice a0 n0 e0,.slice a1 n1 e1,.slice a2 n2 e2,.slice a3 n3 e3],.agg #[.int .i64 (0:Nat),.int .i64 arg]] w fun e w'=>∃ok,e=.returned (.bool ok)/\Hid (ZF w w' nb a (Zw c (0,arg) a.stack a.slots) ok):=by
 have HP:=hid h
 have hnb:=h.st.lt
 clear h
 go_enter Tryz.func145,Tryz.ntmps145
 go_wp2_with fail
 refine Zn fun W hW=>?_
 have hbW:Below w.heap.size w W:=by rw[hW];exact Zbal.alloc (by simp) _
 have HSW:=hid (HP.st.below hbW)
 have HGW:Hid (w.grownBy W (some nb)):=hid (Zu hbW)
 clear hW hbW
 refine(ZdL nb a 1 W HSW.out HP.ln).mono ?_
 rintro e w1 ⟨rfl,HSx,hgx⟩
 have HG1:Hid (w.grownBy w1 (some nb)):=hid (Zf HGW.out hgx)
 clear hgx
 go_wp2
 go_ret
 exact⟨_,rfl,hid (ZF.put (by decide) rfl ⟨rfl,rfl⟩ HSx.out HG1.out)⟩
theorem do_2(w:World)(nb:Nat)(a:Ah)(c:CodeQ)(arg:Nat)(a0 a1 a2 a3:Option Addr)(n0 n1 n2 n3 e0 e1 e2 e3:Nat)(h:DoP w nb a c 2 arg a0 a1 a2 a3 n0 n1 n2 n3 e0 e1 e2 e3) :
  Calls Tryz.prog 145 #[.pointer (some ⟨nb,0,none⟩),.agg #[.slice a0 n0 e0,.slice a1 n1 e1,.slice a2 n2 e2,.slice a3 n3 e3],.agg #[.int .i64 (2:Nat),.int .i64 arg]] w fun e w'=>∃ok,e=.returned (.bool ok)/\Hid (ZF w w' nb a (Zw c (2,arg) a.stack a.slots) ok):=by
 have HP:=hid h
 have hnb:=h.st.lt
 clear h
 go_enter Tryz.func145,Tryz.ntmps145
 go_wp2_with fail
 refine Zn fun W hW=>?_
 have hbW:Below w.heap.size w W:=by rw[hW];exact Zbal.alloc (by simp) _
 have HSW:=hid (HP.st.below hbW)
 have HGW:Hid (w.grownBy W (some nb)):=hid (Zu hbW)
 clear hW hbW
 refine(ZdM nb a W HSW.out HP.ln).mono ?_
 rintro e w1 ⟨rfl,HST,hgx⟩
 have HG1:Hid (w.grownBy w1 (some nb)):=hid (Zf HGW.out hgx)
 clear hgx
 by_cases hk:a.stack.headD 0=3
 ·have HR:Hid (Zw c (2,arg) a.stack a.slots=ZQ 2 { a with stack:=a.stack.tail }.stack { a with stack:=a.stack.tail }.slots):=hid (by
   cases hs:a.stack with
   | nil=>rw[hs]at hk;cases hk
   | cons k r=>rw[hs]at hk;obtain rfl:k=3:=hk;rfl)
  rw[hk]
  go_wp2_with fail
  refine(ZdL nb { a with stack:=a.stack.tail } 2 w1 HST.out (by have:=HP.ln;simp;omega)).mono ?_
  rintro e w2 ⟨rfl,HSx,hgx⟩
  have HG2:Hid (w.grownBy w2 (some nb)):=hid (Zf HG1.out hgx)
  clear hgx
  go_wp2
  go_ret
  exact⟨_,rfl,hid (ZF.put (by decide) HR.out ⟨rfl,rfl⟩ HSx.out HG2.out)⟩
 ·have HR:Hid (Zw c (2,arg) a.stack a.slots=none):=hid (by
   cases hs:a.stack with
   | nil=>rfl
   | cons k r=>rw[hs]at hk;exact if_neg hk)
  have hkz:(((a.stack.headD 0:Nat):Int) == 3)=false:=by rw[beq_eq_false_iff_ne];omega
  generalize a.stack.headD 0=k0 at *
  clear hk
  go_wp2
  go_ret
  exact⟨_,rfl,hid (ZF.no HR.out HG1.out)⟩
theorem do_5(w:World)(nb:Nat)(a:Ah)(c:CodeQ)(arg:Nat)(a0 a1 a2 a3:Option Addr)(n0 n1 n2 n3 e0 e1 e2 e3:Nat)(h:DoP w nb a c 5 arg a0 a1 a2 a3 n0 n1 n2 n3 e0 e1 e2 e3) :
  Calls Tryz.prog 145 #[.pointer (some ⟨nb,0,none⟩),.agg #[.slice a0 n0 e0,.slice a1 n1 e1,.slice a2 n2 e2,.slice a3 n3 e3],.agg #[.int .i64 (5:Nat),.int .i64 arg]] w fun e w'=>∃ok,e=.returned (.bool ok)/\Hid (ZF w w' nb a (Zw c (5,arg) a.stack a.slots) ok):=by
 have HP:=hid h
 have hnb:=h.st.lt
 clear h
 go_enter Tryz.func145,Tryz.ntmps145
 go_wp2_with fail
 refine Zn fun W hW=>?_
 have hbW:Below w.heap.size w W:=by rw[hW];exact Zbal.alloc (by simp) _
 have HSW:=hid (HP.st.below hbW)
 have HGW:Hid (w.grownBy W (some nb)):=hid (Zu hbW)
 clear hW hbW
 refine(ZdM nb a W HSW.out HP.ln).mono ?_
 rintro e w1 ⟨rfl,HST,hgx⟩
 have HG1:Hid (w.grownBy w1 (some nb)):=hid (Zf HGW.out hgx)
 clear hgx
 by_cases hk:a.stack.headD 0=2
 ·have HR:Hid (Zw c (5,arg) a.stack a.slots=ZQ 2 { a with stack:=a.stack.tail }.stack { a with stack:=a.stack.tail }.slots):=hid (by
   cases hs:a.stack with
   | nil=>rw[hs]at hk;cases hk
   | cons k r=>rw[hs]at hk;obtain rfl:k=2:=hk;rfl)
  rw[hk]
  go_wp2_with fail
  refine(ZdL nb { a with stack:=a.stack.tail } 2 w1 HST.out (by have:=HP.ln;simp;omega)).mono ?_
  rintro e w2 ⟨rfl,HSx,hgx⟩
  have HG2:Hid (w.grownBy w2 (some nb)):=hid (Zf HG1.out hgx)
  clear hgx
  go_wp2
  go_ret
  exact⟨_,rfl,hid (ZF.put (by decide) HR.out ⟨rfl,rfl⟩ HSx.out HG2.out)⟩
 ·have HR:Hid (Zw c (5,arg) a.stack a.slots=none):=hid (by
   cases hs:a.stack with
   | nil=>rfl
   | cons k r=>rw[hs]at hk;exact if_neg hk)
  have hkz:(((a.stack.headD 0:Nat):Int) == 2)=false:=by rw[beq_eq_false_iff_ne];omega
  generalize a.stack.headD 0=k0 at *
  clear hk
  go_wp2
  go_ret
  exact⟨_,rfl,hid (ZF.no HR.out HG1.out)⟩
theorem do_6(w:World)(nb:Nat)(a:Ah)(c:CodeQ)(arg:Nat)(a0 a1 a2 a3:Option Addr)(n0 n1 n2 n3 e0 e1 e2 e3:Nat)(h:DoP w nb a c 6 arg a0 a1 a2 a3 n0 n1 n2 n3 e0 e1 e2 e3) :
  Calls Tryz.prog 145 #[.pointer (some ⟨nb,0,none⟩),.agg #[.slice a0 n0 e0,.slice a1 n1 e1,.slice a2 n2 e2,.slice a3 n3 e3],.agg #[.int .i64 (6:Nat),.int .i64 arg]] w fun e w'=>∃ok,e=.returned (.bool ok)/\Hid (ZF w w' nb a (Zw c (6,arg) a.stack a.slots) ok):=by
 have HP:=hid h
 have hnb:=h.st.lt
 clear h
 go_enter Tryz.func145,Tryz.ntmps145
 go_wp2_with fail
 refine Zn fun W hW=>?_
 have hbW:Below w.heap.size w W:=by rw[hW];exact Zbal.alloc (by simp) _
 have HSW:=hid (HP.st.below hbW)
 have HGW:Hid (w.grownBy W (some nb)):=hid (Zu hbW)
 clear hW hbW
 refine(ZdM nb a W HSW.out HP.ln).mono ?_
 rintro e w1 ⟨rfl,HST,hgx⟩
 have HG1:Hid (w.grownBy w1 (some nb)):=hid (Zf HGW.out hgx)
 clear hgx
 by_cases hk:a.stack.headD 0=2
 ·have HR:Hid (Zw c (6,arg) a.stack a.slots=ZQ 2 { a with stack:=a.stack.tail }.stack { a with stack:=a.stack.tail }.slots):=hid (by
   cases hs:a.stack with
   | nil=>rw[hs]at hk;cases hk
   | cons k r=>rw[hs]at hk;obtain rfl:k=2:=hk;rfl)
  rw[hk]
  go_wp2_with fail
  refine(ZdL nb { a with stack:=a.stack.tail } 2 w1 HST.out (by have:=HP.ln;simp;omega)).mono ?_
  rintro e w2 ⟨rfl,HSx,hgx⟩
  have HG2:Hid (w.grownBy w2 (some nb)):=hid (Zf HG1.out hgx)
  clear hgx
  go_wp2
  go_ret
  exact⟨_,rfl,hid (ZF.put (by decide) HR.out ⟨rfl,rfl⟩ HSx.out HG2.out)⟩
 ·have HR:Hid (Zw c (6,arg) a.stack a.slots=none):=hid (by
   cases hs:a.stack with
   | nil=>rfl
   | cons k r=>rw[hs]at hk;exact if_neg hk)
  have hkz:(((a.stack.headD 0:Nat):Int) == 2)=false:=by rw[beq_eq_false_iff_ne];omega
  generalize a.stack.headD 0=k0 at *
  clear hk
  go_wp2
  go_ret
  exact⟨_,rfl,hid (ZF.no HR.out HG1.out)⟩
theorem do_7(w:World)(nb:Nat)(a:Ah)(c:CodeQ)(arg:Nat)(a0 a1 a2 a3:Option Addr)(n0 n1 n2 n3 e0 e1 e2 e3:Nat)(h:DoP w nb a c 7 arg a0 a1 a2 a3 n0 n1 n2 n3 e0 e1 e2 e3) :
  Calls Tryz.prog 145 #[.pointer (some ⟨nb,0,none⟩),.agg #[.slice a0 n0 e0,.slice a1 n1 e1,.slice a2 n2 e2,.slice a3 n3 e3],.agg #[.int .i64 (7:Nat),.int .i64 arg]] w fun e w'=>∃ok,e=.returned (.bool ok)/\Hid (ZF w w' nb a (Zw c (7,arg) a.stack a.slots) ok):=by
 have HP:=hid h
 have hnb:=h.st.lt
 clear h
 go_enter Tryz.func145,Tryz.ntmps145
 go_wp2_with fail
 refine Zn fun W hW=>?_
 have hbW:Below w.heap.size w W:=by rw[hW];exact Zbal.alloc (by simp) _
 have HSW:=hid (HP.st.below hbW)
 have HGW:Hid (w.grownBy W (some nb)):=hid (Zu hbW)
 clear hW hbW
 refine(ZdM nb a W HSW.out HP.ln).mono ?_
 rintro e w1 ⟨rfl,HST,hgx⟩
 have HG1:Hid (w.grownBy w1 (some nb)):=hid (Zf HGW.out hgx)
 clear hgx
 by_cases hk:a.stack.headD 0=2
 ·have HR:Hid (Zw c (7,arg) a.stack a.slots=ZQ 2 { a with stack:=a.stack.tail }.stack { a with stack:=a.stack.tail }.slots):=hid (by
   cases hs:a.stack with
   | nil=>rw[hs]at hk;cases hk
   | cons k r=>rw[hs]at hk;obtain rfl:k=2:=hk;rfl)
  rw[hk]
  go_wp2_with fail
  refine(ZdL nb { a with stack:=a.stack.tail } 2 w1 HST.out (by have:=HP.ln;simp;omega)).mono ?_
  rintro e w2 ⟨rfl,HSx,hgx⟩
  have HG2:Hid (w.grownBy w2 (some nb)):=hid (Zf HG1.out hgx)
  clear hgx
  go_wp2
  go_ret
  exact⟨_,rfl,hid (ZF.put (by decide) HR.out ⟨rfl,rfl⟩ HSx.out HG2.out)⟩
 ·have HR:Hid (Zw c (7,arg) a.stack a.slots=none):=hid (by
   cases hs:a.stack with
   | nil=>rfl
   | cons k r=>rw[hs]at hk;exact if_neg hk)
  have hkz:(((a.stack.headD 0:Nat):Int) == 2)=false:=by rw[beq_eq_false_iff_ne];omega
  generalize a.stack.headD 0=k0 at *
  clear hk
  go_wp2
  go_ret
  exact⟨_,rfl,hid (ZF.no HR.out HG1.out)⟩
theorem do_8(w:World)(nb:Nat)(a:Ah)(c:CodeQ)(arg:Nat)(a0 a1 a2 a3:Option Addr)(n0 n1 n2 n3 e0 e1 e2 e3:Nat)(h:DoP w nb a c 8 arg a0 a1 a2 a3 n0 n1 n2 n3 e0 e1 e2 e3) :
  Calls Tryz.prog 145 #[.pointer (some ⟨nb,0,none⟩),.agg #[.slice a0 n0 e0,.slice a1 n1 e1,.slice a2 n2 e2,.slice a3 n3 e3],.agg #[.int .i64 (8:Nat),.int .i64 arg]] w fun e w'=>∃ok,e=.returned (.bool ok)/\Hid (ZF w w' nb a (Zw c (8,arg) a.stack a.slots) ok):=by
 have HP:=hid h
 have hnb:=h.st.lt
 clear h
 go_enter Tryz.func145,Tryz.ntmps145
 go_wp2_with fail
 refine Zn fun W hW=>?_
 have hbW:Below w.heap.size w W:=by rw[hW];exact Zbal.alloc (by simp) _
 have HSW:=hid (HP.st.below hbW)
 have HGW:Hid (w.grownBy W (some nb)):=hid (Zu hbW)
 clear hW hbW
 refine(ZdM nb a W HSW.out HP.ln).mono ?_
 rintro e w1 ⟨rfl,HST,hgx⟩
 have HG1:Hid (w.grownBy w1 (some nb)):=hid (Zf HGW.out hgx)
 clear hgx
 by_cases hk:a.stack.headD 0=2
 ·have HR:Hid (Zw c (8,arg) a.stack a.slots=ZQ 2 { a with stack:=a.stack.tail }.stack { a with stack:=a.stack.tail }.slots):=hid (by
   cases hs:a.stack with
   | nil=>rw[hs]at hk;cases hk
   | cons k r=>rw[hs]at hk;obtain rfl:k=2:=hk;rfl)
  rw[hk]
  go_wp2_with fail
  refine(ZdL nb { a with stack:=a.stack.tail } 2 w1 HST.out (by have:=HP.ln;simp;omega)).mono ?_
  rintro e w2 ⟨rfl,HSx,hgx⟩
  have HG2:Hid (w.grownBy w2 (some nb)):=hid (Zf HG1.out hgx)
  clear hgx
  go_wp2
  go_ret
  exact⟨_,rfl,hid (ZF.put (by decide) HR.out ⟨rfl,rfl⟩ HSx.out HG2.out)⟩
 ·have HR:Hid (Zw c (8,arg) a.stack a.slots=none):=hid (by
   cases hs:a.stack with
   | nil=>rfl
   | cons k r=>rw[hs]at hk;exact if_neg hk)
  have hkz:(((a.stack.headD 0:Nat):Int) == 2)=false:=by rw[beq_eq_false_iff_ne];omega
  generalize a.stack.headD 0=k0 at *
  clear hk
  go_wp2
  go_ret
  exact⟨_,rfl,hid (ZF.no HR.out HG1.out)⟩
theorem ZoP(w:World)(nb:Nat)(a:Ah)(c:CodeQ)(arg:Nat)(a0 a1 a2 a3:Option Addr)(n0 n1 n2 n3 e0 e1 e2 e3:Nat)(h:DoP w nb a c 10 arg a0 a1 a2 a3 n0 n1 n2 n3 e0 e1 e2 e3) :
  Calls Tryz.prog 145 #[.pointer (some ⟨nb,0,none⟩),.agg #[.slice a0 n0 e0,.slice a1 n1 e1,.slice a2 n2 e2,.slice a3 n3 e3],.agg #[.int .i64 (10:Nat),.int .i64 arg]] w fun e w'=>∃ok,e=.returned (.bool ok)/\Hid (ZF w w' nb a (Zw c (10,arg) a.stack a.slots) ok):=by
 have HP:=hid h
 have hnb:=h.st.lt
 clear h
 go_enter Tryz.func145,Tryz.ntmps145
 go_wp2_with fail
 refine Zn fun W hW=>?_
 have hbW:Below w.heap.size w W:=by rw[hW];exact Zbal.alloc (by simp) _
 have HSW:=hid (HP.st.below hbW)
 have HGW:Hid (w.grownBy W (some nb)):=hid (Zu hbW)
 clear hW hbW
 refine(ZdM nb a W HSW.out HP.ln).mono ?_
 rintro e w1 ⟨rfl,HST,hgx⟩
 have HG1:Hid (w.grownBy w1 (some nb)):=hid (Zf HGW.out hgx)
 clear hgx
 by_cases hk:a.stack.headD 0=2
 ·have HR:Hid (Zw c (10,arg) a.stack a.slots=ZQ 2 { a with stack:=a.stack.tail }.stack { a with stack:=a.stack.tail }.slots):=hid (by
   cases hs:a.stack with
   | nil=>rw[hs]at hk;cases hk
   | cons k r=>rw[hs]at hk;obtain rfl:k=2:=hk;rfl)
  rw[hk]
  go_wp2_with fail
  refine(ZdL nb { a with stack:=a.stack.tail } 2 w1 HST.out (by have:=HP.ln;simp;omega)).mono ?_
  rintro e w2 ⟨rfl,HSx,hgx⟩
  have HG2:Hid (w.grownBy w2 (some nb)):=hid (Zf HG1.out hgx)
  clear hgx
  go_wp2
  go_ret
  exact⟨_,rfl,hid (ZF.put (by decide) HR.out ⟨rfl,rfl⟩ HSx.out HG2.out)⟩
 ·have HR:Hid (Zw c (10,arg) a.stack a.slots=none):=hid (by
   cases hs:a.stack with
   | nil=>rfl
   | cons k r=>rw[hs]at hk;exact if_neg hk)
  have hkz:(((a.stack.headD 0:Nat):Int) == 2)=false:=by rw[beq_eq_false_iff_ne];omega
  generalize a.stack.headD 0=k0 at *
  clear hk
  go_wp2
  go_ret
  exact⟨_,rfl,hid (ZF.no HR.out HG1.out)⟩
theorem do_4(w:World)(nb:Nat)(a:Ah)(c:CodeQ)(arg:Nat)(a0 a1 a2 a3:Option Addr)(n0 n1 n2 n3 e0 e1 e2 e3:Nat)(h:DoP w nb a c 4 arg a0 a1 a2 a3 n0 n1 n2 n3 e0 e1 e2 e3) :
  Calls Tryz.prog 145 #[.pointer (some ⟨nb,0,none⟩),.agg #[.slice a0 n0 e0,.slice a1 n1 e1,.slice a2 n2 e2,.slice a3 n3 e3],.agg #[.int .i64 (4:Nat),.int .i64 arg]] w fun e w'=>∃ok,e=.returned (.bool ok)/\Hid (ZF w w' nb a (Zw c (4,arg) a.stack a.slots) ok):=by
 have HP:=hid h
 have hnb:=h.st.lt
 clear h
 go_enter Tryz.func145,Tryz.ntmps145
 go_wp2_with fail
 refine Zn fun W hW=>?_
 have hbW:Below w.heap.size w W:=by rw[hW];exact Zbal.alloc (by simp) _
 have HSW:=hid (HP.st.below hbW)
 have HGW:Hid (w.grownBy W (some nb)):=hid (Zu hbW)
 clear hW hbW
 refine(ZdM nb a W HSW.out HP.ln).mono ?_
 rintro e w1 ⟨rfl,HST,hgx⟩
 have HG1:Hid (w.grownBy w1 (some nb)):=hid (Zf HGW.out hgx)
 clear hgx
 cases hp:ZbK (a.stack.headD 0)with
 | true=>
  have HR:Hid (Zw c (4,arg) a.stack a.slots=ZQ (a.stack.headD 0) { a with stack:=a.stack.tail }.stack { a with stack:=a.stack.tail }.slots):=hid (by
   cases hs:a.stack with
   | nil=>rw[hs]at hp;cases hp
   | cons k r=>rw[hs]at hp;exact if_pos hp)
  have hk0:a.stack.headD 0≠0:=by intro e;rw[e]at hp;cases hp
  have HK0:=hid hk0
  have HPL:Hid (∀W',Calls Tryz.prog 202 #[.int .u8 ((a.stack.headD 0:Nat):Int)] W' fun e w'=>e=.returned (.bool true)/\w'=W'):=hid (fun W'=>by have:=ZeD (a.stack.headD 0) W';rwa [hp]at this)
  have HPU:Hid (∀W',StAt W' nb { a with stack:=a.stack.tail }->Calls Tryz.prog 199 #[.pointer (some ⟨nb,0,none⟩),.int .u8 ((a.stack.headD 0:Nat):Int)] W' _):=hid (fun W' h=>ZdL nb { a with stack:=a.stack.tail } (a.stack.headD 0) W' h (by have:=HP.ln;simp;omega))
  generalize a.stack.headD 0=k0 at *
  clear hp hk0
  go_wp2_with (go_at_call 202;refine(HPL.out _).mono ?_;rintro e wq ⟨rfl,rfl⟩)
  refine(HPU.out _ HST.out).mono ?_
  rintro e w2 ⟨rfl,HSx,hgx⟩
  have HG2:Hid (w.grownBy w2 (some nb)):=hid (Zf HG1.out hgx)
  clear hgx
  go_wp2
  go_ret
  exact⟨_,rfl,hid (ZF.put HK0.out HR.out ⟨rfl,rfl⟩ HSx.out HG2.out)⟩
 | false=>
  have HR:Hid (Zw c (4,arg) a.stack a.slots=none):=hid (by
   cases hs:a.stack with
   | nil=>rfl
   | cons k r=>rw[hs]at hp;exact if_neg (by show ¬ZbK k=true;rw[show ZbK k=false from hp];simp))
  have HPL:Hid (∀W',Calls Tryz.prog 202 #[.int .u8 ((a.stack.headD 0:Nat):Int)] W' fun e w'=>e=.returned (.bool false)/\w'=W'):=hid (fun W'=>by have:=ZeD (a.stack.headD 0) W';rwa [hp]at this)
  generalize a.stack.headD 0=k0 at *
  clear hp
  go_wp2_with (go_at_call 202;refine(HPL.out _).mono ?_;rintro e wq ⟨rfl,rfl⟩)
  go_ret
  exact⟨_,rfl,hid (ZF.no HR.out HG1.out)⟩
theorem do_9(w:World)(nb:Nat)(a:Ah)(c:CodeQ)(arg:Nat)(a0 a1 a2 a3:Option Addr)(n0 n1 n2 n3 e0 e1 e2 e3:Nat)(h:DoP w nb a c 9 arg a0 a1 a2 a3 n0 n1 n2 n3 e0 e1 e2 e3) :
  Calls Tryz.prog 145 #[.pointer (some ⟨nb,0,none⟩),.agg #[.slice a0 n0 e0,.slice a1 n1 e1,.slice a2 n2 e2,.slice a3 n3 e3],.agg #[.int .i64 (9:Nat),.int .i64 arg]] w fun e w'=>∃ok,e=.returned (.bool ok)/\Hid (ZF w w' nb a (Zw c (9,arg) a.stack a.slots) ok):=by
 have HP:=hid h
 have hnb:=h.st.lt
 clear h
 go_enter Tryz.func145,Tryz.ntmps145
 have HS:Hid (∀o1 o2,StAt ((w.alloc o1).alloc o2) nb a):=hid (fun o1 o2=>HP.st.below (Zbal.alloc (by simp) _))
 go_wp2
 go_ret
 exact⟨_,rfl,hid ⟨rfl,fun st sl e=>by injection e with e;injection e with e1 e2;subst e1;subst e2;exact HS.out _ _,ZbE (ZbE (Zbc _ _) _) _⟩⟩
theorem ZoQ(w:World)(nb:Nat)(a:Ah)(c:CodeQ)(arg:Nat)(a0 a1 a2 a3:Option Addr)(n0 n1 n2 n3 e0 e1 e2 e3:Nat)(h:DoP w nb a c 11 arg a0 a1 a2 a3 n0 n1 n2 n3 e0 e1 e2 e3) :
  Calls Tryz.prog 145 #[.pointer (some ⟨nb,0,none⟩),.agg #[.slice a0 n0 e0,.slice a1 n1 e1,.slice a2 n2 e2,.slice a3 n3 e3],.agg #[.int .i64 (11:Nat),.int .i64 arg]] w fun e w'=>∃ok,e=.returned (.bool ok)/\Hid (ZF w w' nb a (Zw c (11,arg) a.stack a.slots) ok):=by
 have HP:=hid h
 have hnb:=h.st.lt
 clear h
 go_enter Tryz.func145,Tryz.ntmps145
 go_wp2_with fail
 refine Zn fun W hW=>?_
 have hbW:Below w.heap.size w W:=by rw[hW];exact Zbal.alloc (by simp) _
 have HSW:=hid (HP.st.below hbW)
 have HGW:Hid (w.grownBy W (some nb)):=hid (Zu hbW)
 clear hW hbW
 refine(ZdM nb a W HSW.out HP.ln).mono ?_
 rintro e w1 ⟨rfl,HST,hgx⟩
 have HG1:Hid (w.grownBy w1 (some nb)):=hid (Zf HGW.out hgx)
 clear hgx
 have HR:Hid (ZF w w1 nb a (Zw c (11,arg) a.stack a.slots) (decide (a.stack.headD 0≠0))):=hid (by
  cases hs:a.stack with
  | nil=>exact ZF.no rfl HG1.out
  | cons k r=>
   have hk:k≠0:=HP.kd k (by rw[hs];simp)
   refine⟨by show decide (k≠0)=true;simp[hk],fun st sl e=>?_,HG1.out⟩
   injection e with e;injection e with e1 e2;subst e1;subst e2
   have:=HST.out
   rw[hs]at this
   exact this)
 generalize a.stack.headD 0=k0 at *
 go_wp2
 go_ret
 exact⟨_,rfl,hid (by rw[show(((k0:Nat):Int) != 0)=decide (k0≠0) from by rw[Bool.eq_iff_iff,bne_iff_ne,decide_eq_true_iff];omega];exact HR.out)⟩
theorem do_1(w:World)(nb:Nat)(a:Ah)(c:CodeQ)(arg:Nat)(a0 a1 a2 a3:Option Addr)(n0 n1 n2 n3 e0 e1 e2 e3:Nat)(h:DoP w nb a c 1 arg a0 a1 a2 a3 n0 n1 n2 n3 e0 e1 e2 e3) :
  Calls Tryz.prog 145 #[.pointer (some ⟨nb,0,none⟩),.agg #[.slice a0 n0 e0,.slice a1 n1 e1,.slice a2 n2 e2,.slice a3 n3 e3],.agg #[.int .i64 (1:Nat),.int .i64 arg]] w fun e w'=>∃ok,e=.returned (.bool ok)/\Hid (ZF w w' nb a (Zw c (1,arg) a.stack a.slots) ok):=by
 have HP:=hid h
 have hnb:=h.st.lt
 clear h
 obtain⟨i,hrf⟩:=HP.rf
 obtain⟨xs,hx1,hx2,hx3⟩:=HP.cv.ps
 have harg:arg<c.picks.length:=by simpa [Z0] using hrf
 have hxl:xs.length=c.picks.length:=by rw[<-hx2,List.length_map]
 have hn1:n1=xs.length:=by
  obtain⟨av,cp,e⟩:=Zr hx1
  injection e
 subst hn1
 obtain⟨g,cp,hg⟩:=ZV hx1 (by omega)
 injection hg with hg1 hg2 hg3
 subst hg1
 have hlt:arg<xs.length:=by omega
 obtain⟨g0,g1,g2⟩:=Zkn xs arg hlt
 have x0:=Zj hx1 _ _ g0
 have x1:=Zj hx1 _ _ g1
 have x2:=Zj hx1 _ _ g2
 have hgl:=ZbX hx1
 have HR:Hid (Zw c (1,arg) a.stack a.slots=ZQ (Zc5 (xs[arg].nd,xs[arg].n)) a.stack a.slots):=hid (by
  show ZQ ((c.picks[arg]?.map Zc5).getD 0) _ _=_
  rw[<-hx2,List.getElem?_map,List.getElem?_eq_getElem hlt]
  rfl)
 generalize xs[arg]=x at *
 have hk0:Hid (Zc5 (x.nd,x.n)≠0):=hid (by unfold Zc5;split <;> decide)
 have hlz:(arg:Int)<xs.length:=by omega
 clear hrf hx1 hx2 hx3 g0 g1 g2 hxl harg hg2 hg3
 go_enter Tryz.func145,Tryz.ntmps145
 go_wp2_with fail
 refine Zn fun W hW=>?_
 have hbW:Below w.heap.size w W:=by rw[hW];exact Zbal.alloc (by simp) _
 have HSW:=hid (HP.st.below hbW)
 have HGW:Hid (w.grownBy W (some nb)):=hid (Zu hbW)
 clear hW hbW x0 x1 x2
 refine(Zqq x.nm x.la x.ln x.lc x.n x.nd W).mono ?_
 rintro e w1 ⟨rfl,hb1⟩
 have HS1:=hid (HSW.below hb1)
 have HG1:Hid (w.grownBy w1 (some nb)):=hid (Zef HGW.out hb1)
 clear hb1
 generalize Zc5 (x.nd,x.n)=kk at *
 go_wp2_with fail
 refine(ZdL nb a kk w1 HS1.out HP.ln).mono ?_
 rintro e w2 ⟨rfl,HSx,hgx⟩
 have HG2:Hid (w.grownBy w2 (some nb)):=hid (Zf HG1.out hgx)
 clear hgx
 go_wp2
 go_ret
 exact⟨_,rfl,hid (ZF.put hk0.out HR.out ⟨rfl,rfl⟩ HSx.out HG2.out)⟩
theorem do_3(w:World)(nb:Nat)(a:Ah)(c:CodeQ)(arg:Nat)(a0 a1 a2 a3:Option Addr)(n0 n1 n2 n3 e0 e1 e2 e3:Nat)(h:DoP w nb a c 3 arg a0 a1 a2 a3 n0 n1 n2 n3 e0 e1 e2 e3) :
  Calls Tryz.prog 145 #[.pointer (some ⟨nb,0,none⟩),.agg #[.slice a0 n0 e0,.slice a1 n1 e1,.slice a2 n2 e2,.slice a3 n3 e3],.agg #[.int .i64 (3:Nat),.int .i64 arg]] w fun e w'=>∃ok,e=.returned (.bool ok)/\Hid (ZF w w' nb a (Zw c (3,arg) a.stack a.slots) ok):=by
 have HP:=hid h
 have hnb:=h.st.lt
 clear h
 go_enter Tryz.func145,Tryz.ntmps145
 go_wp2_with fail
 refine Zn fun W hW=>?_
 have hbW:Below w.heap.size w W:=by rw[hW];exact Zbal.alloc (by simp) _
 have HSW:=hid (HP.st.below hbW)
 have HGW:Hid (w.grownBy W (some nb)):=hid (Zu hbW)
 clear hW hbW
 obtain⟨y,hy⟩:∃y,y=a.stack.headD 0:=⟨_,rfl⟩
 obtain⟨x,hx⟩:∃x,x=a.stack.tail.headD 0:=⟨_,rfl⟩
 have HT1:=ZdM nb a W HSW.out HP.ln
 rw[<-hy]at HT1
 refine HT1.mono ?_
 clear HT1
 rintro e w1 ⟨rfl,HST,hgx⟩
 have HG1:Hid (w.grownBy w1 (some nb)):=hid (Zf HGW.out hgx)
 have HY:=hid hy
 have HXX:=hid hx
 clear hgx hy hx
 go_wp2_with fail
 have hx:=HXX.out
 have hy:=HY.out
 have HT1:=ZdM nb { a with stack:=a.stack.tail } w1 HST.out (by have:=HP.ln;simp;omega)
 rw[show({ a with stack:=a.stack.tail } : Ah).stack.headD 0=x from hx.symm]at HT1
 refine HT1.mono ?_
 clear HT1
 rintro e w2 ⟨rfl,HST2,hgx⟩
 have HG2:Hid (w.grownBy w2 (some nb)):=hid (Zf HG1.out hgx)
 clear hgx
 have HT2:Hid (StAt w2 nb { a with stack:=a.stack.tail.tail }):=hid HST2.out
 have HNO : Hid ((ZbK x && ZbK y) = false -> Zw c (3, arg) a.stack a.slots = none) := hid (fun hp => by
   cases hs:a.stack with
   | nil=>rfl
   | cons k r=>
     cases hr:r with
     | nil=>rfl
     | cons k2 r2=>
       rw[hs,hr]at hx hy
       have hx:x=k2:=hx
       have hy:y=k:=hy
       rw[hx,hy]at hp
       show(if (ZbK k2 && ZbK k)=true then _ else none)=none
       rw[hp];rfl)
 have HYES : Hid (ZbK x = true -> ZbK y = true -> Zw c (3, arg) a.stack a.slots = ZQ (max x y) { a with stack := a.stack.tail.tail }.stack { a with stack := a.stack.tail.tail }.slots) := hid (fun hp1 hp2 => by
   cases hs:a.stack with
   | nil=>rw[hs]at hy;rw[hy]at hp2;cases hp2
   | cons k r=>
     cases hr:r with
     | nil=>rw[hs,hr]at hx;rw[hx]at hp1;cases hp1
     | cons k2 r2=>
       rw[hs,hr]at hx hy
       have hx:x=k2:=hx
       have hy:y=k:=hy
       rw[hx]at hp1 ⊢
       rw[hy]at hp2 ⊢
       show(if (ZbK k2 && ZbK k)=true then _ else none)=_
       rw[hp1,hp2];rfl)
 clear hx hy HST HST2 HXX HY
 cases hpx:ZbK x with
 | false=>
  have HR:Hid (Zw c (3,arg) a.stack a.slots=none):=hid (HNO.out (by rw[hpx];rfl))
  have HPX:Hid (∀W',Calls Tryz.prog 202 #[.int .u8 (x:Int)] W' fun e w'=>e=.returned (.bool false)/\w'=W'):=hid (fun W'=>by have:=ZeD x W';rwa [hpx]at this)
  clear hpx
  go_wp2_with (go_at_call 202;refine(HPX.out _).mono ?_;rintro e wq ⟨rfl,rfl⟩)
  go_ret
  exact⟨_,rfl,hid (ZF.no HR.out HG2.out)⟩
 | true=>
  cases hpy:ZbK y with
  | false=>
   have HR:Hid (Zw c (3,arg) a.stack a.slots=none):=hid (HNO.out (by rw[hpx,hpy];rfl))
   have HPX:Hid (∀W',Calls Tryz.prog 202 #[.int .u8 (x:Int)] W' fun e w'=>e=.returned (.bool true)/\w'=W'):=hid (fun W'=>by have:=ZeD x W';rwa [hpx]at this)
   have HPY:Hid (∀W',Calls Tryz.prog 202 #[.int .u8 (y:Int)] W' fun e w'=>e=.returned (.bool false)/\w'=W'):=hid (fun W'=>by have:=ZeD y W';rwa [hpy]at this)
   clear hpx hpy
   go_wp2_with fail
   refine(HPX.out _).mono ?_
   rintro e wq ⟨rfl,rfl⟩
   go_wp2_with fail
   refine(HPY.out _).mono ?_
   rintro e wq ⟨rfl,rfl⟩
   go_wp2
   go_ret
   exact⟨_,rfl,hid (ZF.no HR.out HG2.out)⟩
  | true=>
   have HR:=hid (HYES.out hpx hpy)
   have HPX:Hid (∀W',Calls Tryz.prog 202 #[.int .u8 (x:Int)] W' fun e w'=>e=.returned (.bool true)/\w'=W'):=hid (fun W'=>by have:=ZeD x W';rwa [hpx]at this)
   have HPY:Hid (∀W',Calls Tryz.prog 202 #[.int .u8 (y:Int)] W' fun e w'=>e=.returned (.bool true)/\w'=W'):=hid (fun W'=>by have:=ZeD y W';rwa [hpy]at this)
   have hx12:x=1∨x=2:=by unfold ZbK at hpx;simpa using hpx
   have hy12:y=1∨y=2:=by unfold ZbK at hpy;simpa using hpy
   have hm0:Hid (max x y≠0):=hid (by omega)
   clear hpx hpy HNO HYES
   go_wp2_with fail
   refine(HPX.out _).mono ?_
   rintro e wq ⟨rfl,rfl⟩
   go_wp2_with fail
   refine(HPY.out _).mono ?_
   rintro e wq ⟨rfl,rfl⟩
   rcases hx12 with rfl|rfl <;> rcases hy12 with rfl|rfl
   all_goals
    go_wp2_with fail
    refine(ZdL nb { a with stack:=a.stack.tail.tail } _ _ HT2.out (by have:=HP.ln;simp;omega)).mono ?_
    rintro e w3 ⟨rfl,HSx,hgx⟩
    have HG3:Hid (w.grownBy w3 (some nb)):=hid (Zf HG2.out hgx)
    clear hgx
    go_wp2
    go_ret
    exact⟨_,rfl,hid (ZF.put hm0.out HR.out ⟨rfl,rfl⟩ HSx.out HG3.out)⟩
theorem ZoS(w:World)(nb:Nat)(a:Ah)(c:CodeQ)(arg:Nat)(a0 a1 a2 a3:Option Addr)(n0 n1 n2 n3 e0 e1 e2 e3:Nat)(h:DoP w nb a c 13 arg a0 a1 a2 a3 n0 n1 n2 n3 e0 e1 e2 e3) :
  Calls Tryz.prog 145 #[.pointer (some ⟨nb,0,none⟩),.agg #[.slice a0 n0 e0,.slice a1 n1 e1,.slice a2 n2 e2,.slice a3 n3 e3],.agg #[.int .i64 (13:Nat),.int .i64 arg]] w fun e w'=>∃ok,e=.returned (.bool ok)/\Hid (ZF w w' nb a (Zw c (13,arg) a.stack a.slots) ok):=by
 have HP:=hid h
 have hnb:=h.st.lt
 obtain⟨i,hrf⟩:=h.rf
 have harg:arg<16:=by simpa [Z0] using hrf
 have haz:(arg:Int)<16:=by omega
 clear h hrf
 go_enter Tryz.func145,Tryz.ntmps145
 go_upto_region 26 with fail
 refine ZK fun W hW=>?_
 have hbW:Below w.heap.size w W:=by rw[hW];exact Zbal.alloc (by simp) _
 have HSW:=hid (HP.st.below hbW)
 have HGW:Hid (w.grownBy W (some nb)):=hid (Zu hbW)
 have HOW:Hid (BAt W (w.heap.size+1) [.int .i64 (13:Nat),.int .i64 arg] 184):=hid (by
  rw[hW];have:=Go.Deep.blk_alloc_new (w.alloc (.cells #[.slice a0 n0 e0,.slice a1 n1 e1,.slice a2 n2 e2,.slice a3 n3 e3] 58)) (.cells #[.int .i64 (13:Nat),.int .i64 arg] 184);rwa [Go.Deep.nblk_alloc]at this)
 clear hW hbW
 have o1:=HOW.cell 1
 simp only[Zget]at o1
 have s1:=StAt.slot HSW.out arg harg
 obtain⟨k,hk⟩:∃k,k=a.slots.getD arg 0:=⟨_,rfl⟩
 rw[<-hk]at s1
 have HK:=hid hk
 have HPU:Hid (∀W',StAt W' nb a->Calls Tryz.prog 199 #[.pointer (some ⟨nb,0,none⟩),.int .u8 (k:Int)] W' _):=hid (fun W' h=>ZdL nb a k W' h HP.ln)
 have HSD:Hid (StAt W.drew nb a):=hid (HSW.below ((Below.refl _ _).drew))
 clear hk
 go_region_with (first
   | (go_at_call 199
      refine(HPU.out _ HSD.out).mono ?_
      rintro e w5 ⟨rfl,HSx,hgx⟩
      have HG5:Hid (w.grownBy w5 (some nb)):=hid (Zf (Zc2 HGW.out) hgx)
      clear hgx))
 all_goals
  go_wp2
  go_ret
  refine⟨_,rfl,hid ?_⟩
  by_cases h0:k=0
  ·subst h0
   rw[Ztw]
   refine ZF.no ?_ HG5.out
   show(if a.slots.getD arg 0=0 then none else _)=none
   rw[<-HK.out];rfl
  ·refine ZF.put h0 ?_ ⟨rfl,rfl⟩ HSx.out HG5.out
   show(if a.slots.getD arg 0=0 then none else ZQ (a.slots.getD arg 0) a.stack a.slots)=_
   rw[<-HK.out,if_neg h0]
theorem ZoR(w:World)(nb:Nat)(a:Ah)(c:CodeQ)(arg:Nat)(a0 a1 a2 a3:Option Addr)(n0 n1 n2 n3 e0 e1 e2 e3:Nat)(h:DoP w nb a c 12 arg a0 a1 a2 a3 n0 n1 n2 n3 e0 e1 e2 e3) :
  Calls Tryz.prog 145 #[.pointer (some ⟨nb,0,none⟩),.agg #[.slice a0 n0 e0,.slice a1 n1 e1,.slice a2 n2 e2,.slice a3 n3 e3],.agg #[.int .i64 (12:Nat),.int .i64 arg]] w fun e w'=>∃ok,e=.returned (.bool ok)/\Hid (ZF w w' nb a (Zw c (12,arg) a.stack a.slots) ok):=by
 have HP:=hid h
 have hnb:=h.st.lt
 obtain⟨i,hrf⟩:=h.rf
 have harg:arg<16:=by simpa [Z0] using hrf
 have haz:(arg:Int)<16:=by omega
 clear h hrf
 go_enter Tryz.func145,Tryz.ntmps145
 go_upto_region 23 with fail
 refine ZK fun W hW=>?_
 have hbW:Below w.heap.size w W:=by rw[hW];exact Zbal.alloc (by simp) _
 have HSW:=hid (HP.st.below hbW)
 have HGW:Hid (w.grownBy W (some nb)):=hid (Zu hbW)
 have HOW:Hid (BAt W (w.heap.size+1) [.int .i64 (12:Nat),.int .i64 arg] 184):=hid (by
  rw[hW];have:=Go.Deep.blk_alloc_new (w.alloc (.cells #[.slice a0 n0 e0,.slice a1 n1 e1,.slice a2 n2 e2,.slice a3 n3 e3] 58)) (.cells #[.int .i64 (12:Nat),.int .i64 arg] 184);rwa [Go.Deep.nblk_alloc]at this)
 clear hW hbW
 have o1:=HOW.cell 1
 simp only[Zget]at o1
 obtain⟨y,hy⟩:∃y,y=a.stack.headD 0:=⟨_,rfl⟩
 have HY:=hid hy
 have HTK:Hid (∀W',StAt W' nb a->Calls Tryz.prog 201 #[.pointer (some ⟨nb,0,none⟩)] W' fun e w'=>e=.returned (.int .u8 (y:Int))/\Hid (StAt w' nb { a with stack:=a.stack.tail })/\W'.grownBy w' (some nb)):=hid (fun W' h=>by rw[hy];exact ZdM nb a W' h HP.ln)
 have HSD:Hid (StAt W.drew nb a):=hid (HSW.below ((Below.refl _ _).drew))
 clear hy
 have hno:¬nb=w.heap.size+1:=by omega
 have hno':¬w.heap.size+1=nb:=by omega
 go_region_with (first
   | (go_at_call 201
      refine(HTK.out _ HSD.out).mono ?_
      rintro e w5 ⟨rfl,HS5,hgx⟩
      have HG5:Hid (w.grownBy w5 (some nb)):=hid (Zf (Zc2 HGW.out) hgx)
      have HO5:=hid ((HOW.below ((Below.refl _ _).drew)).grown hgx (by intro e;injection e with e;omega))
      have p1:=HO5.cell 1
      simp only[Zget]at p1
      have s5:=StAt.slot HS5.out arg harg
      have fz5:=HS5.frozen (67+arg)
      clear hgx))
 all_goals
  have HRX : Hid (∀ W' : World, (∀ j, W'.heap[j]? = (w5.setCell ⟨nb, 67 + arg, none⟩ (.int .u8 (y : Int))).heap[j]?) -> w.grownBy W' (some nb) -> ZF w W' nb a (Zw c (12, arg) a.stack a.slots) (((y : Nat) : Int) != 0)) := hid (fun W' h1 h2 => by
    have hst:StAt W' nb { a with stack:=a.stack.tail,slots:=a.slots.set arg y }:=(h1 nb).trans (by
      have h3:=HS5.setk (67+arg) (.int .u8 (y:Int))
      rw[Zjj { a with stack:=a.stack.tail } arg y harg HP.sl]at h3
      exact h3)
    rw[show(((y:Nat):Int) != 0)=decide (y≠0) from by rw[Bool.eq_iff_iff,bne_iff_ne,decide_eq_true_iff];omega]
    have hy:=HY.out
    cases hs:a.stack with
    | nil=>rw[hs]at hy;subst hy;exact ZF.no rfl h2
    | cons k r=>
      rw[hs]at hy hst
      have hy:y=k:=hy
      subst hy
      have hk:y≠0:=HP.kd y (by rw[hs];simp)
      refine⟨by show decide (y≠0)=true;simp[hk],fun st sl e=>?_,h2⟩
      injection e with e;injection e with e1 e2;subst e1;subst e2
      exact hst)
  clear HTK HSD HOW HO5 HS5
  go_wp2
  go_region
  all_goals
   go_wp2
   go_ret
   exact⟨_,rfl,hid (HRX.out _ (fun _=>rfl) (Zc2 (Zo (p:=⟨nb,67+arg,none⟩) HG5.out (Or.inl rfl) _)))⟩
theorem Zup(w:World)(nb:Nat)(a:Ah)(c:CodeQ)(op arg:Nat)(a0 a1 a2 a3:Option Addr)(n0 n1 n2 n3 e0 e1 e2 e3:Nat)(h:DoP w nb a c op arg a0 a1 a2 a3 n0 n1 n2 n3 e0 e1 e2 e3)(hop:op<=13) :
  Calls Tryz.prog 145 #[.pointer (some ⟨nb,0,none⟩),.agg #[.slice a0 n0 e0,.slice a1 n1 e1,.slice a2 n2 e2,.slice a3 n3 e3],.agg #[.int .i64 op,.int .i64 arg]] w fun e w'=>∃ok,e=.returned (.bool ok)/\Hid (ZF w w' nb a (Zw c (op,arg) a.stack a.slots) ok):=by
 rcases(by omega:op=0∨op=1∨op=2∨op=3∨op=4∨op=5∨op=6∨op=7∨op=8∨op=9∨op=10∨op=11∨op=12∨op=13)with rfl|rfl|rfl|rfl|rfl|rfl|rfl|rfl|rfl|rfl|rfl|rfl|rfl|rfl
 ·exact do_0 w nb a c arg a0 a1 a2 a3 n0 n1 n2 n3 e0 e1 e2 e3 h
 ·exact do_1 w nb a c arg a0 a1 a2 a3 n0 n1 n2 n3 e0 e1 e2 e3 h
 ·exact do_2 w nb a c arg a0 a1 a2 a3 n0 n1 n2 n3 e0 e1 e2 e3 h
 ·exact do_3 w nb a c arg a0 a1 a2 a3 n0 n1 n2 n3 e0 e1 e2 e3 h
 ·exact do_4 w nb a c arg a0 a1 a2 a3 n0 n1 n2 n3 e0 e1 e2 e3 h
 ·exact do_5 w nb a c arg a0 a1 a2 a3 n0 n1 n2 n3 e0 e1 e2 e3 h
 ·exact do_6 w nb a c arg a0 a1 a2 a3 n0 n1 n2 n3 e0 e1 e2 e3 h
 ·exact do_7 w nb a c arg a0 a1 a2 a3 n0 n1 n2 n3 e0 e1 e2 e3 h
 ·exact do_8 w nb a c arg a0 a1 a2 a3 n0 n1 n2 n3 e0 e1 e2 e3 h
 ·exact do_9 w nb a c arg a0 a1 a2 a3 n0 n1 n2 n3 e0 e1 e2 e3 h
 ·exact ZoP w nb a c arg a0 a1 a2 a3 n0 n1 n2 n3 e0 e1 e2 e3 h
 ·exact ZoQ w nb a c arg a0 a1 a2 a3 n0 n1 n2 n3 e0 e1 e2 e3 h
 ·exact ZoR w nb a c arg a0 a1 a2 a3 n0 n1 n2 n3 e0 e1 e2 e3 h
 ·exact ZoS w nb a c arg a0 a1 a2 a3 n0 n1 n2 n3 e0 e1 e2 e3 h
def stCs(l:List Ah):List Value:=(List.range (83*l.length)).map fun t=>ZbR (l.getD (t / 83) ah0) (t % 83)
theorem ZfB(l:List Ah):(stCs l).length=83*l.length:=by simp[stCs]
theorem Zgj(l:List Ah)(i j:Nat)(hi:i<l.length)(hj:j<83):(stCs l)[i*83+j]?=some (ZbR (l.getD i ah0) j):=by
 unfold stCs
 rw[List.getElem?_map,List.getElem?_range (by omega)]
 simp only[Option.map_some]
 rw[show(i*83+j) / 83=i by omega,show(i*83+j) % 83=j by omega]
theorem Zjk(l:List Ah)(t:Nat)(ht:t<83*l.length):(stCs l)[t]?=some (ZbR (l.getD (t / 83) ah0) (t % 83)):=by
 unfold stCs
 rw[List.getElem?_map,List.getElem?_range ht]
 rfl
theorem ZeQ(l:List Ah)(i:Nat)(a:Ah)(hi:i<l.length):(l.set i a).getD i ah0=a:=by
 rw[List.getD_eq_getElem?_getD,List.getElem?_set_self hi];rfl
theorem Zfk(l:List Ah)(i j:Nat)(a:Ah)(h:i≠j):(l.set i a).getD j ah0=l.getD j ah0:=by
 rw[List.getD_eq_getElem?_getD,List.getElem?_set_ne h,List.getD_eq_getElem?_getD]
theorem Zjl{c:List Value}{l:List Ah}(hl:c.length=83*l.length)(h:∀t,t<83*l.length->c[t]?=some (ZbR (l.getD (t / 83) ah0) (t % 83))):c=stCs l:=by
 apply List.ext_getElem?
 intro t
 by_cases ht:t<83*l.length
 ·rw[h t ht,Zjk l t ht]
 ·rw[List.getElem?_eq_none (by omega),List.getElem?_eq_none (by rw[ZfB];omega)]
theorem Zhw{l:List Ah}{i j:Nat}{v:Value}{a2:Ah}(hi:i<l.length)(hj:j<83)(h:(stC (l.getD i ah0)).set j v=stC a2):(stCs l).set (i*83+j) v=stCs (l.set i a2):=by
 refine Zjl (by simp[ZfB]) (fun t ht=>?_)
 rw[List.length_set]at ht
 have hv:∀k,k<83->((stC (l.getD i ah0)).set j v)[k]?=some (ZbR a2 k):=fun k hk=>by rw[h,Zch a2 k hk]
 rw[List.getElem?_set]
 by_cases e:i*83+j=t
 ·subst e
  rw[if_pos rfl,if_pos (by rw[ZfB];exact ht),show(i*83+j) / 83=i by omega,show(i*83+j) % 83=j by omega,ZeQ l i a2 hi]
  have:=hv j hj
  rw[List.getElem?_set_self (by rw[Zbn];exact hj)]at this
  exact this
 ·rw[if_neg e,Zjk l t ht]
  by_cases ei:i=t / 83
  ·rw[<-ei,ZeQ l i a2 hi]
   have:=hv (t % 83) (by omega)
   rw[List.getElem?_set_ne (by intro e2;omega),Zch _ _ (by omega)]at this
   exact this
  ·rw[Zfk l i (t / 83) a2 ei]
def ZeK:List Value->Nat->List Value->List Value
 | c,_,[]=>c
 | c,o,v::r=>ZeK (c.set o v) (o+1) r
theorem ZmC(vs:List Value):∀(c:List Value) (o t:Nat),o+vs.length<=c.length->(ZeK c o vs)[t]?=if o<=t/\t<o+vs.length then vs[t - o]? else c[t]?:=by
 induction vs with
 | nil=>intro c o t h;rw[if_neg (by rw[List.length_nil];omega)];rfl
 | cons v r ih=>
  intro c o t h
  rw[List.length_cons]at h
  show(ZeK (c.set o v) (o+1) r)[t]?=_
  rw[ih _ _ _ (by rw[List.length_set];omega)]
  by_cases h1:o+1<=t/\t<o+1+r.length
  ·rw[if_pos h1,if_pos (by rw[List.length_cons];omega),show t - o=(t - (o+1))+1 by omega,List.getElem?_cons_succ]
  ·rw[if_neg h1,List.getElem?_set]
   by_cases h2:o=t
   ·subst h2
    rw[if_pos rfl,if_pos (by omega),if_pos (by rw[List.length_cons];omega),Nat.sub_self]
    rfl
   ·rw[if_neg h2,if_neg (by rw[List.length_cons];omega)]
theorem ZmD(vs:List Value):∀(c:List Value) (o:Nat),(ZeK c o vs).length=c.length:=by
 induction vs with
 | nil=>intro c o;rfl
 | cons v r ih=>intro c o;show(ZeK (c.set o v) (o+1) r).length=_;rw[ih,List.length_set]
theorem ZuX{l:List Ah}{i:Nat}{a2:Ah}(hi:i<l.length):ZeK (stCs l) (i*83) (stC a2)=stCs (l.set i a2):=by
 refine Zjl (by rw[ZmD];simp[ZfB]) (fun t ht=>?_)
 rw[List.length_set]at ht
 rw[ZmC _ _ _ _ (by rw[Zbn,ZfB];omega),Zbn]
 by_cases e:i*83<=t/\t<i*83+83
 ·rw[if_pos e,show t / 83=i by omega,ZeQ l i a2 hi,Zch _ _ (by omega),show t - i*83=t % 83 by omega]
 ·rw[if_neg e,Zjk l t ht,Zfk l i (t / 83) a2 (by omega)]
theorem BAt.setCells{g:Nat}{t:TypeId} : ∀(vs:List Value) {w:World} {c:List Value} (o:Nat),BAt w g c t->BAt (w.setCells g o vs) g (ZeK c o vs) t
 | [],_,_,_,h=>h
 | v :: r, w, c, o, h => by
   rw[World.setCells]
   exact BAt.setCells r (o+1) (h.setk o v)
theorem ZkT{g:Nat} : ∀(vs:List Value) {w0 w:World} (o:Nat),w0.grownBy w (some g)->w0.grownBy (w.setCells g o vs) (some g)
 | [],_,_,_,h=>h
 | v :: r, w0, w, o, h => by
   rw[World.setCells]
   exact ZkT r (o+1) (Zo h (Or.inl rfl) _)
theorem BAt.range {w : World} {g : Nat} {c : List Value} {t : TypeId} (h : BAt w g c t) (o : Nat) (cs : List Value) (hc : ∀ j, j < cs.length -> c[o + j]? = cs[j]?) : w.rangeAt g o cs := fun j v hv => by
  have hj:j<cs.length:=(List.getElem?_eq_some_iff.1 hv).1
  rw[h.cell (o+j),hc j hj,hv]
theorem BAt.there {w : World} {g : Nat} {c : List Value} {t : TypeId} (h : BAt w g c t) (o n : Nat) (hc : o + n <= c.length) : w.there g o n := fun j hj => by
  refine⟨?_,h.frozen _⟩
  rw[h.cell (o+j),List.getElem?_eq_getElem (by omega)];rfl
def stkC(a:Ah):List Value:=(List.range 64).map fun j=>.int .u8 ((a.stack.reverse.getD j 0:Nat):Int)
theorem ZfD(a:Ah):(stkC a).length=64:=by simp[stkC]
theorem Zhy(a:Ah)(j:Nat)(hj:j<64):(stkC a)[j]?=some (.int .u8 ((a.stack.reverse.getD j 0:Nat):Int)):=by
 unfold stkC;rw[List.getElem?_map,List.getElem?_range hj];rfl
theorem ZuY{x y:List Nat}(hx:x.length<=64)(hy:y.length<=64)(kx:∀k∈x,k≠0)(ky:∀k∈y,k≠0)(h:∀j,j<64->x.getD j 0=y.getD j 0):x=y:=by
 have hlen : ∀ (x y : List Nat), x.length <= 64 -> y.length <= 64 -> (∀ k ∈ y, k ≠ 0) -> (∀ j, j < 64 -> x.getD j 0 = y.getD j 0) -> ¬ x.length < y.length := fun x y hx hy ky h hlt => by
   have:=h x.length (by omega)
   rw[List.getD_eq_getElem?_getD,List.getElem?_eq_none (Nat.le_refl _),List.getD_eq_getElem?_getD,List.getElem?_eq_getElem hlt]at this
   exact ky _ (List.getElem_mem hlt) this.symm
 have hl:x.length=y.length:=by
  have h1:=hlen x y hx hy ky h
  have h2:=hlen y x hy hx kx (fun j hj=>(h j hj).symm)
  omega
 refine List.ext_getElem hl (fun j h1 h2=>?_)
 have:=h j (by omega)
 rwa [List.getD_eq_getElem?_getD,List.getElem?_eq_getElem h1,List.getD_eq_getElem?_getD,List.getElem?_eq_getElem h2]at this
theorem Zu3{a b:Ah}(hx:a.stack.length<=64)(hy:b.stack.length<=64)(kx:∀k∈a.stack,k≠0)(ky:∀k∈b.stack,k≠0):(∀j,j<64->a.stack.reverse.getD j 0=b.stack.reverse.getD j 0) ↔ a.stack=b.stack:=by
 constructor
 ·intro h
  have:=ZuY (by simpa using hx) (by simpa using hy) (fun k hk=>kx k (by simpa using hk)) (fun k hk=>ky k (by simpa using hk)) h
  simpa using this
 ·intro h j _;rw[h]
theorem Zmn(X:Array Value)(i:Nat)(v:Value)(hv:X[i]?=some v)(w:World):(part 308 X (i*1)).run Tryz.prog w=.ok v w:=by
 have hu:Tryz.prog.underlying 308=some (.int .u8):=Tryz.underlying308
 unfold part
 simp only[isAgg,Sem.run_bind,run_underlying hu,Result.andThen_ok,Sem.run_pure,Nat.mul_one,hv]
 rfl
theorem Zmm (a b : Ah) (d : Nat) (w : World) : ∀ is : List Nat, (∀ i ∈ is, i < 64) -> (Op.eqItems (d + 1) 308 1 (stkC a).toArray (stkC b).toArray is).run Tryz.prog w = .ok (is.all fun i => a.stack.reverse.getD i 0 == b.stack.reverse.getD i 0) w
  | [],_=>rfl
  | i :: is, h => by
    have hi:=h i (by simp)
    have ih:=Zmm a b d w is (fun j hj=>h j (by simp[hj]))
    have hu:Tryz.prog.underlying 308=some (.int .u8):=Tryz.underlying308
    simp only[Op.eqItems,Sem.run_bind]
    rw[Zmn _ i _ (by rw[List.getElem?_toArray];exact Zhy a i hi)]
    simp only[Result.andThen_ok]
    rw[Zmn _ i _ (by rw[List.getElem?_toArray];exact Zhy b i hi)]
    simp only[Result.andThen_ok]
    rw[run_equalIn_int w d _ .u8 .u8 _ _ hu]
    simp only[Result.andThen_ok,List.all_cons]
    by_cases e:a.stack.reverse.getD i 0=b.stack.reverse.getD i 0
    · rw[e];simpa using ih
    · have e1:((((a.stack.reverse.getD i 0:Nat):Int)) == (((b.stack.reverse.getD i 0:Nat):Int)))=false:=by rw[beq_eq_false_iff_ne];omega
      have e2:(a.stack.reverse.getD i 0 == b.stack.reverse.getD i 0)=false:=by rw[beq_eq_false_iff_ne];exact e
      rw[e1,e2];rfl
end Go.Proofs.YtkodhpilkaihjaaGreatDoor

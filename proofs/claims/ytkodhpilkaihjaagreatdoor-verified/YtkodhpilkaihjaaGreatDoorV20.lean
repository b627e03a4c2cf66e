/- Parts. -/
import Derived.Test.YtkodhpilkaihjaaGreatDoorV19
import Derived.Deep.WholeRow
set_option linter.all false
set_option maxRecDepth 100000
set_option maxHeartbeats 16000000
namespace Go.Proofs.YtkodhpilkaihjaaGreatDoor
open Go.RowKit LS Go.Proofs.Tryz
variable {a a2:Ah}{l:List Ah}{sl sl' st st' x y:List Nat}{c:List Value}{g i:Nat}{v:Value}{w:World}
structure DoP (w:World) (nb:Nat) (a:Ah) (c:CodeQ) (op arg:Nat) (a0 a1 a2 a3:Option Addr) (n0 n1 n2 n3 e0 e1 e2 e3:Nat):Prop where
 st:StAt w nb a
 cv:CodeV w c (.slice a0 n0 e0) (.slice a1 n1 e1) (.slice a2 n2 e2) (.slice a3 n3 e3)
 rf:∃i,Zy c i (op,arg)=true
 ln:a.jy.length<=64
 sl:a.jx.length=16
 kd:∀k∈a.jy,k≠0
theorem do_0(w:World)(nb:Nat)(a:Ah)(c:CodeQ)(arg:Nat)(a0 a1 a2 a3:Option Addr)(n0 n1 n2 n3 e0 e1 e2 e3:Nat)(h:DoP w nb a c 0 arg a0 a1 a2 a3 n0 n1 n2 n3 e0 e1 e2 e3) :
  CP 145 #[Vp nb,.agg #[.slice a0 n0 e0,.slice a1 n1 e1,.slice a2 n2 e2,.slice a3 n3 e3],.agg #[Vi (0:Nat),Vi arg]] w fun e u=>∃ok,e=.returned (.bool ok)/\Hid (ZT w u nb a (Zt c (0,arg) a.jy a.jx) ok):=by
 have f:=hid h;have m:=h.st.lt;clear h;go_enter func145,ntmps145
 go_wp2_with fail
 refine Zm fun W g=>?_;have b:BW w W:=by rw[g];exact Zbal.alloc (by simp) _
 have i:=hid (f.st.below b);have j:Hid (w.grownBy W (some nb)):=hid (Zw b);clear g b;refine(Zeb nb a 1 W i.out f.ln).mono ?_;rintro e y ⟨rfl,k,d⟩;have l:Hid (w.grownBy y (some nb)):=hid (Zj j.out d);clear d;go_wp2;go_ret;exact⟨_,rfl,hid (ZT.put Dc rfl ⟨rfl,rfl⟩ k.out l.out)⟩
theorem do_2(w:World)(nb:Nat)(a:Ah)(c:CodeQ)(arg:Nat)(a0 a1 a2 a3:Option Addr)(n0 n1 n2 n3 e0 e1 e2 e3:Nat)(h:DoP w nb a c 2 arg a0 a1 a2 a3 n0 n1 n2 n3 e0 e1 e2 e3) :
  CP 145 #[Vp nb,.agg #[.slice a0 n0 e0,.slice a1 n1 e1,.slice a2 n2 e2,.slice a3 n3 e3],.agg #[Vi (2:Nat),Vi arg]] w fun e u=>∃ok,e=.returned (.bool ok)/\Hid (ZT w u nb a (Zt c (2,arg) a.jy a.jx) ok):=by
 have j:=hid h;have t:=h.st.lt;clear h;go_enter func145,ntmps145
 go_wp2_with fail
 refine Zm fun W m=>?_;have f:BW w W:=by rw[m];exact Zbal.alloc (by simp) _
 have n:=hid (j.st.below f);have o:Hid (w.grownBy W (some nb)):=hid (Zw f);clear m f;refine(Zec nb a W n.out j.ln).mono ?_;rintro e y ⟨rfl,p,b⟩;have i:Hid (w.grownBy y (some nb)):=hid (Zj o.out b);clear b;by_cases d:a.jy.headD 0=3
 ·have l:Hid (Zt c (2,arg) a.jy a.jx=ZE 2 { a with jy:=a.jy.tail }.jy { a with jy:=a.jy.tail }.jx):=hid (by
   cases g:a.jy with
   | nil=>rw[g]at d;cases d
   | cons k r=>rw[g]at d;obtain rfl:k=3:=d;rfl)
  rw[d]
  go_wp2_with fail
  refine(Zeb nb { a with jy:=a.jy.tail } 2 y p.out (by have:=j.ln;simp;omega)).mono ?_;rintro e z ⟨rfl,q,b⟩;have s:Hid (w.grownBy z (some nb)):=hid (Zj i.out b);clear b;go_wp2;go_ret;exact⟨_,rfl,hid (ZT.put Dc l.out ⟨rfl,rfl⟩ q.out s.out)⟩
 ·have l:Hid (Zt c (2,arg) a.jy a.jx=none):=hid (by
   cases g:a.jy with
   | nil=>rfl
   | cons k r=>rw[g]at d;exact if_neg d)
  have v:(((a.jy.headD 0:Nat):Int) == 3)=false:=by rw[beq_eq_false_iff_ne];omega
  generalize a.jy.headD 0=k0 at *
  clear d;go_wp2;go_ret;exact⟨_,rfl,hid (ZT.no l.out i.out)⟩
theorem do_5(w:World)(nb:Nat)(a:Ah)(c:CodeQ)(arg:Nat)(a0 a1 a2 a3:Option Addr)(n0 n1 n2 n3 e0 e1 e2 e3:Nat)(h:DoP w nb a c 5 arg a0 a1 a2 a3 n0 n1 n2 n3 e0 e1 e2 e3) :
  CP 145 #[Vp nb,.agg #[.slice a0 n0 e0,.slice a1 n1 e1,.slice a2 n2 e2,.slice a3 n3 e3],.agg #[Vi (5:Nat),Vi arg]] w fun e u=>∃ok,e=.returned (.bool ok)/\Hid (ZT w u nb a (Zt c (5,arg) a.jy a.jx) ok):=by
 have j:=hid h;have t:=h.st.lt;clear h;go_enter func145,ntmps145
 go_wp2_with fail
 refine Zm fun W m=>?_;have f:BW w W:=by rw[m];exact Zbal.alloc (by simp) _
 have n:=hid (j.st.below f);have o:Hid (w.grownBy W (some nb)):=hid (Zw f);clear m f;refine(Zec nb a W n.out j.ln).mono ?_;rintro e y ⟨rfl,p,b⟩;have i:Hid (w.grownBy y (some nb)):=hid (Zj o.out b);clear b;by_cases d:a.jy.headD 0=2
 ·have l:Hid (Zt c (5,arg) a.jy a.jx=ZE 2 { a with jy:=a.jy.tail }.jy { a with jy:=a.jy.tail }.jx):=hid (by
   cases g:a.jy with
   | nil=>rw[g]at d;cases d
   | cons k r=>rw[g]at d;obtain rfl:k=2:=d;rfl)
  rw[d]
  go_wp2_with fail
  refine(Zeb nb { a with jy:=a.jy.tail } 2 y p.out (by have:=j.ln;simp;omega)).mono ?_;rintro e z ⟨rfl,q,b⟩;have s:Hid (w.grownBy z (some nb)):=hid (Zj i.out b);clear b;go_wp2;go_ret;exact⟨_,rfl,hid (ZT.put Dc l.out ⟨rfl,rfl⟩ q.out s.out)⟩
 ·have l:Hid (Zt c (5,arg) a.jy a.jx=none):=hid (by
   cases g:a.jy with
   | nil=>rfl
   | cons k r=>rw[g]at d;exact if_neg d)
  have v:(((a.jy.headD 0:Nat):Int) == 2)=false:=by rw[beq_eq_false_iff_ne];omega
  generalize a.jy.headD 0=k0 at *
  clear d;go_wp2;go_ret;exact⟨_,rfl,hid (ZT.no l.out i.out)⟩
theorem do_6(w:World)(nb:Nat)(a:Ah)(c:CodeQ)(arg:Nat)(a0 a1 a2 a3:Option Addr)(n0 n1 n2 n3 e0 e1 e2 e3:Nat)(h:DoP w nb a c 6 arg a0 a1 a2 a3 n0 n1 n2 n3 e0 e1 e2 e3) :
  CP 145 #[Vp nb,.agg #[.slice a0 n0 e0,.slice a1 n1 e1,.slice a2 n2 e2,.slice a3 n3 e3],.agg #[Vi (6:Nat),Vi arg]] w fun e u=>∃ok,e=.returned (.bool ok)/\Hid (ZT w u nb a (Zt c (6,arg) a.jy a.jx) ok):=by
 have j:=hid h;have t:=h.st.lt;clear h;go_enter func145,ntmps145
 go_wp2_with fail
 refine Zm fun W m=>?_;have f:BW w W:=by rw[m];exact Zbal.alloc (by simp) _
 have n:=hid (j.st.below f);have o:Hid (w.grownBy W (some nb)):=hid (Zw f);clear m f;refine(Zec nb a W n.out j.ln).mono ?_;rintro e y ⟨rfl,p,b⟩;have i:Hid (w.grownBy y (some nb)):=hid (Zj o.out b);clear b;by_cases d:a.jy.headD 0=2
 ·have l:Hid (Zt c (6,arg) a.jy a.jx=ZE 2 { a with jy:=a.jy.tail }.jy { a with jy:=a.jy.tail }.jx):=hid (by
   cases g:a.jy with
   | nil=>rw[g]at d;cases d
   | cons k r=>rw[g]at d;obtain rfl:k=2:=d;rfl)
  rw[d]
  go_wp2_with fail
  refine(Zeb nb { a with jy:=a.jy.tail } 2 y p.out (by have:=j.ln;simp;omega)).mono ?_;rintro e z ⟨rfl,q,b⟩;have s:Hid (w.grownBy z (some nb)):=hid (Zj i.out b);clear b;go_wp2;go_ret;exact⟨_,rfl,hid (ZT.put Dc l.out ⟨rfl,rfl⟩ q.out s.out)⟩
 ·have l:Hid (Zt c (6,arg) a.jy a.jx=none):=hid (by
   cases g:a.jy with
   | nil=>rfl
   | cons k r=>rw[g]at d;exact if_neg d)
  have v:(((a.jy.headD 0:Nat):Int) == 2)=false:=by rw[beq_eq_false_iff_ne];omega
  generalize a.jy.headD 0=k0 at *
  clear d;go_wp2;go_ret;exact⟨_,rfl,hid (ZT.no l.out i.out)⟩
theorem do_7(w:World)(nb:Nat)(a:Ah)(c:CodeQ)(arg:Nat)(a0 a1 a2 a3:Option Addr)(n0 n1 n2 n3 e0 e1 e2 e3:Nat)(h:DoP w nb a c 7 arg a0 a1 a2 a3 n0 n1 n2 n3 e0 e1 e2 e3) :
  CP 145 #[Vp nb,.agg #[.slice a0 n0 e0,.slice a1 n1 e1,.slice a2 n2 e2,.slice a3 n3 e3],.agg #[Vi (7:Nat),Vi arg]] w fun e u=>∃ok,e=.returned (.bool ok)/\Hid (ZT w u nb a (Zt c (7,arg) a.jy a.jx) ok):=by
 have j:=hid h;have t:=h.st.lt;clear h;go_enter func145,ntmps145
 go_wp2_with fail
 refine Zm fun W m=>?_;have f:BW w W:=by rw[m];exact Zbal.alloc (by simp) _
 have n:=hid (j.st.below f);have o:Hid (w.grownBy W (some nb)):=hid (Zw f);clear m f;refine(Zec nb a W n.out j.ln).mono ?_;rintro e y ⟨rfl,p,b⟩;have i:Hid (w.grownBy y (some nb)):=hid (Zj o.out b);clear b;by_cases d:a.jy.headD 0=2
 ·have l:Hid (Zt c (7,arg) a.jy a.jx=ZE 2 { a with jy:=a.jy.tail }.jy { a with jy:=a.jy.tail }.jx):=hid (by
   cases g:a.jy with
   | nil=>rw[g]at d;cases d
   | cons k r=>rw[g]at d;obtain rfl:k=2:=d;rfl)
  rw[d]
  go_wp2_with fail
  refine(Zeb nb { a with jy:=a.jy.tail } 2 y p.out (by have:=j.ln;simp;omega)).mono ?_;rintro e z ⟨rfl,q,b⟩;have s:Hid (w.grownBy z (some nb)):=hid (Zj i.out b);clear b;go_wp2;go_ret;exact⟨_,rfl,hid (ZT.put Dc l.out ⟨rfl,rfl⟩ q.out s.out)⟩
 ·have l:Hid (Zt c (7,arg) a.jy a.jx=none):=hid (by
   cases g:a.jy with
   | nil=>rfl
   | cons k r=>rw[g]at d;exact if_neg d)
  have v:(((a.jy.headD 0:Nat):Int) == 2)=false:=by rw[beq_eq_false_iff_ne];omega
  generalize a.jy.headD 0=k0 at *
  clear d;go_wp2;go_ret;exact⟨_,rfl,hid (ZT.no l.out i.out)⟩
theorem do_8(w:World)(nb:Nat)(a:Ah)(c:CodeQ)(arg:Nat)(a0 a1 a2 a3:Option Addr)(n0 n1 n2 n3 e0 e1 e2 e3:Nat)(h:DoP w nb a c 8 arg a0 a1 a2 a3 n0 n1 n2 n3 e0 e1 e2 e3) :
  CP 145 #[Vp nb,.agg #[.slice a0 n0 e0,.slice a1 n1 e1,.slice a2 n2 e2,.slice a3 n3 e3],.agg #[Vi (8:Nat),Vi arg]] w fun e u=>∃ok,e=.returned (.bool ok)/\Hid (ZT w u nb a (Zt c (8,arg) a.jy a.jx) ok):=by
 have j:=hid h;have t:=h.st.lt;clear h;go_enter func145,ntmps145
 go_wp2_with fail
 refine Zm fun W m=>?_;have f:BW w W:=by rw[m];exact Zbal.alloc (by simp) _
 have n:=hid (j.st.below f);have o:Hid (w.grownBy W (some nb)):=hid (Zw f);clear m f;refine(Zec nb a W n.out j.ln).mono ?_;rintro e y ⟨rfl,p,b⟩;have i:Hid (w.grownBy y (some nb)):=hid (Zj o.out b);clear b;by_cases d:a.jy.headD 0=2
 ·have l:Hid (Zt c (8,arg) a.jy a.jx=ZE 2 { a with jy:=a.jy.tail }.jy { a with jy:=a.jy.tail }.jx):=hid (by
   cases g:a.jy with
   | nil=>rw[g]at d;cases d
   | cons k r=>rw[g]at d;obtain rfl:k=2:=d;rfl)
  rw[d]
  go_wp2_with fail
  refine(Zeb nb { a with jy:=a.jy.tail } 2 y p.out (by have:=j.ln;simp;omega)).mono ?_;rintro e z ⟨rfl,q,b⟩;have s:Hid (w.grownBy z (some nb)):=hid (Zj i.out b);clear b;go_wp2;go_ret;exact⟨_,rfl,hid (ZT.put Dc l.out ⟨rfl,rfl⟩ q.out s.out)⟩
 ·have l:Hid (Zt c (8,arg) a.jy a.jx=none):=hid (by
   cases g:a.jy with
   | nil=>rfl
   | cons k r=>rw[g]at d;exact if_neg d)
  have v:(((a.jy.headD 0:Nat):Int) == 2)=false:=by rw[beq_eq_false_iff_ne];omega
  generalize a.jy.headD 0=k0 at *
  clear d;go_wp2;go_ret;exact⟨_,rfl,hid (ZT.no l.out i.out)⟩
theorem Zvy(w:World)(nb:Nat)(a:Ah)(c:CodeQ)(arg:Nat)(a0 a1 a2 a3:Option Addr)(n0 n1 n2 n3 e0 e1 e2 e3:Nat)(h:DoP w nb a c 10 arg a0 a1 a2 a3 n0 n1 n2 n3 e0 e1 e2 e3) :
  CP 145 #[Vp nb,.agg #[.slice a0 n0 e0,.slice a1 n1 e1,.slice a2 n2 e2,.slice a3 n3 e3],.agg #[Vi (10:Nat),Vi arg]] w fun e u=>∃ok,e=.returned (.bool ok)/\Hid (ZT w u nb a (Zt c (10,arg) a.jy a.jx) ok):=by
 have j:=hid h;have t:=h.st.lt;clear h;go_enter func145,ntmps145
 go_wp2_with fail
 refine Zm fun W m=>?_;have f:BW w W:=by rw[m];exact Zbal.alloc (by simp) _
 have n:=hid (j.st.below f);have o:Hid (w.grownBy W (some nb)):=hid (Zw f);clear m f;refine(Zec nb a W n.out j.ln).mono ?_;rintro e y ⟨rfl,p,b⟩;have i:Hid (w.grownBy y (some nb)):=hid (Zj o.out b);clear b;by_cases d:a.jy.headD 0=2
 ·have l:Hid (Zt c (10,arg) a.jy a.jx=ZE 2 { a with jy:=a.jy.tail }.jy { a with jy:=a.jy.tail }.jx):=hid (by
   cases g:a.jy with
   | nil=>rw[g]at d;cases d
   | cons k r=>rw[g]at d;obtain rfl:k=2:=d;rfl)
  rw[d]
  go_wp2_with fail
  refine(Zeb nb { a with jy:=a.jy.tail } 2 y p.out (by have:=j.ln;simp;omega)).mono ?_;rintro e z ⟨rfl,q,b⟩;have s:Hid (w.grownBy z (some nb)):=hid (Zj i.out b);clear b;go_wp2;go_ret;exact⟨_,rfl,hid (ZT.put Dc l.out ⟨rfl,rfl⟩ q.out s.out)⟩
 ·have l:Hid (Zt c (10,arg) a.jy a.jx=none):=hid (by
   cases g:a.jy with
   | nil=>rfl
   | cons k r=>rw[g]at d;exact if_neg d)
  have v:(((a.jy.headD 0:Nat):Int) == 2)=false:=by rw[beq_eq_false_iff_ne];omega
  generalize a.jy.headD 0=k0 at *
  clear d;go_wp2;go_ret;exact⟨_,rfl,hid (ZT.no l.out i.out)⟩
theorem do_4(w:World)(nb:Nat)(a:Ah)(c:CodeQ)(arg:Nat)(a0 a1 a2 a3:Option Addr)(n0 n1 n2 n3 e0 e1 e2 e3:Nat)(h:DoP w nb a c 4 arg a0 a1 a2 a3 n0 n1 n2 n3 e0 e1 e2 e3) :
  CP 145 #[Vp nb,.agg #[.slice a0 n0 e0,.slice a1 n1 e1,.slice a2 n2 e2,.slice a3 n3 e3],.agg #[Vi (4:Nat),Vi arg]] w fun e u=>∃ok,e=.returned (.bool ok)/\Hid (ZT w u nb a (Zt c (4,arg) a.jy a.jx) ok):=by
 have n:=hid h;have D:=h.st.lt;clear h;go_enter func145,ntmps145
 go_wp2_with fail
 refine Zm fun W p=>?_;have g:BW w W:=by rw[p];exact Zbal.alloc (by simp) _
 have q:=hid (n.st.below g);have s:Hid (w.grownBy W (some nb)):=hid (Zw g);clear p g;refine(Zec nb a W q.out n.ln).mono ?_;rintro e y ⟨rfl,t,f⟩;have l:Hid (w.grownBy y (some nb)):=hid (Zj s.out f);clear f;cases d:Zby (a.jy.headD 0)with
 | true=>
  have o:Hid (Zt c (4,arg) a.jy a.jx=ZE (a.jy.headD 0) { a with jy:=a.jy.tail }.jy { a with jy:=a.jy.tail }.jx):=hid (by
   cases j:a.jy with
   | nil=>rw[j]at d;cases d
   | cons k r=>rw[j]at d;exact if_pos d)
  have m:a.jy.headD 0≠0:=by intro e;rw[e]at d;cases d
  have v:=hid m;have i:Hid (∀b,CP 202 #[.int .u8 ((a.jy.headD 0:Nat):Int)] b fun e u=>e=.returned (.bool true)/\u=b):=hid (fun b=>by have:=Zfo (a.jy.headD 0) b;rwa [d]at this);have x:Hid (∀b,StAt b nb { a with jy:=a.jy.tail }->CP 199 #[Vp nb,.int .u8 ((a.jy.headD 0:Nat):Int)] b _):=hid (fun b h=>Zeb nb { a with jy:=a.jy.tail } (a.jy.headD 0) b h (by have:=n.ln;simp;omega));generalize a.jy.headD 0=k0 at *
  clear d m
  go_wp2_with (go_at_call 202;refine(i.out _).mono ?_;rintro e C ⟨rfl,rfl⟩)
  refine(x.out _ t.out).mono ?_;rintro e z ⟨rfl,A,f⟩;have B:Hid (w.grownBy z (some nb)):=hid (Zj l.out f);clear f;go_wp2;go_ret;exact⟨_,rfl,hid (ZT.put v.out o.out ⟨rfl,rfl⟩ A.out B.out)⟩
 | false=>
  have o:Hid (Zt c (4,arg) a.jy a.jx=none):=hid (by
   cases j:a.jy with
   | nil=>rfl
   | cons k r=>rw[j]at d;exact if_neg (by show ¬Zby k=true;rw[show Zby k=false from d];simp))
  have i:Hid (∀b,CP 202 #[.int .u8 ((a.jy.headD 0:Nat):Int)] b fun e u=>e=.returned (.bool false)/\u=b):=hid (fun b=>by have:=Zfo (a.jy.headD 0) b;rwa [d]at this);generalize a.jy.headD 0=k0 at *
  clear d
  go_wp2_with (go_at_call 202;refine(i.out _).mono ?_;rintro e C ⟨rfl,rfl⟩)
  go_ret;exact⟨_,rfl,hid (ZT.no o.out l.out)⟩
theorem do_9(w:World)(nb:Nat)(a:Ah)(c:CodeQ)(arg:Nat)(a0 a1 a2 a3:Option Addr)(n0 n1 n2 n3 e0 e1 e2 e3:Nat)(h:DoP w nb a c 9 arg a0 a1 a2 a3 n0 n1 n2 n3 e0 e1 e2 e3) :
  CP 145 #[Vp nb,.agg #[.slice a0 n0 e0,.slice a1 n1 e1,.slice a2 n2 e2,.slice a3 n3 e3],.agg #[Vi (9:Nat),Vi arg]] w fun e u=>∃ok,e=.returned (.bool ok)/\Hid (ZT w u nb a (Zt c (9,arg) a.jy a.jx) ok):=by
 have b:=hid h;have f:=h.st.lt;clear h;go_enter func145,ntmps145;have d:Hid (∀o1 o2,StAt ((w.alloc o1).alloc o2) nb a):=hid (fun o1 o2=>b.st.below (Zbal.alloc (by simp) _));go_wp2;go_ret;exact⟨_,rfl,hid ⟨rfl,fun st sl e=>by injection e with e;injection e with e1 e2;subst e1;subst e2;exact d.out _ _,ZbR (ZbR (ZbM _ _) _) _⟩⟩
theorem Zvz(w:World)(nb:Nat)(a:Ah)(c:CodeQ)(arg:Nat)(a0 a1 a2 a3:Option Addr)(n0 n1 n2 n3 e0 e1 e2 e3:Nat)(h:DoP w nb a c 11 arg a0 a1 a2 a3 n0 n1 n2 n3 e0 e1 e2 e3) :
  CP 145 #[Vp nb,.agg #[.slice a0 n0 e0,.slice a1 n1 e1,.slice a2 n2 e2,.slice a3 n3 e3],.agg #[Vi (11:Nat),Vi arg]] w fun e u=>∃ok,e=.returned (.bool ok)/\Hid (ZT w u nb a (Zt c (11,arg) a.jy a.jx) ok):=by
 have g:=hid h;have q:=h.st.lt;clear h;go_enter func145,ntmps145
 go_wp2_with fail
 refine Zm fun W i=>?_;have b:BW w W:=by rw[i];exact Zbal.alloc (by simp) _
 have j:=hid (g.st.below b);have l:Hid (w.grownBy W (some nb)):=hid (Zw b);clear i b;refine(Zec nb a W j.out g.ln).mono ?_;rintro e y ⟨rfl,m,d⟩;have f:Hid (w.grownBy y (some nb)):=hid (Zj l.out d);clear d
 have o:Hid (ZT w y nb a (Zt c (11,arg) a.jy a.jx) (decide (a.jy.headD 0≠0))):=hid (by
  cases n:a.jy with
  | nil=>exact ZT.no rfl f.out
  | cons k r=>
   have p:k≠0:=g.kd k (by rw[n];simp);refine⟨by show decide (k≠0)=true;simp[p],fun st sl e=>?_,f.out⟩;injection e with e;injection e with e1 e2;subst e1;subst e2;have:=m.out;rw[n]at this;exact this)
 generalize a.jy.headD 0=k0 at *
 go_wp2;go_ret;exact⟨_,rfl,hid (by rw[show(((k0:Nat):Int) != 0)=decide (k0≠0) from by rw[Ybh,bne_iff_ne,decide_eq_true_iff];omega];exact o.out)⟩
theorem do_1(w:World)(nb:Nat)(a:Ah)(c:CodeQ)(arg:Nat)(a0 a1 a2 a3:Option Addr)(n0 n1 n2 n3 e0 e1 e2 e3:Nat)(h:DoP w nb a c 1 arg a0 a1 a2 a3 n0 n1 n2 n3 e0 e1 e2 e3) :
  CP 145 #[Vp nb,.agg #[.slice a0 n0 e0,.slice a1 n1 e1,.slice a2 n2 e2,.slice a3 n3 e3],.agg #[Vi (1:Nat),Vi arg]] w fun e u=>∃ok,e=.returned (.bool ok)/\Hid (ZT w u nb a (Zt c (1,arg) a.jy a.jx) ok):=by
 have k:=hid h;have I:=h.st.lt;clear h;obtain⟨i,l⟩:=k.rf;obtain⟨xs,b,d,q⟩:=k.cv.ps;have p:arg<c.jv.length:=by simpa [Zy] using l
 have r:xs.length=c.jv.length:=by rw[<-d,Yak]
 have s:n1=xs.length:=by
  obtain⟨av,cp,e⟩:=Zl b;injection e
 subst s;obtain⟨g,cp,G⟩:=ZF b Om;injection G with hg1 hg2 hg3;subst hg1;have m:arg<xs.length:=by omega
 obtain⟨g0,g1,g2⟩:=ZoU xs arg m;have x0:=Zi b _ _ g0;have x1:=Zi b _ _ g1;have x2:=Zi b _ _ g2;have J:=Z1 b
 have H:Hid (Zt c (1,arg) a.jy a.jx=ZE (Zb3 (xs[arg].nd,xs[arg].n)) a.jy a.jx):=hid (by
  show ZE ((c.jv[arg]?.map Zb3).getD 0) _ _=_;rw[<-d,Ya2,List.getElem?_eq_getElem m];rfl)
 generalize xs[arg]=x at *
 have t:Hid (Zb3 (x.nd,x.n)≠0):=hid (by unfold Zb3;split <;> decide);have K:(arg:Int)<xs.length:=by omega
 clear l b d q g0 g1 g2 r p hg2 hg3;go_enter func145,ntmps145
 go_wp2_with fail
 refine Zm fun W v=>?_;have f:BW w W:=by rw[v];exact Zbal.alloc (by simp) _
 have A:=hid (k.st.below f);have B:Hid (w.grownBy W (some nb)):=hid (Zw f);clear v f x0 x1 x2;refine(Zxw x.nm x.la x.ln x.lc x.n x.nd W).mono ?_;rintro e y ⟨rfl,j⟩;have C:=hid (A.below j);have D:Hid (w.grownBy y (some nb)):=hid (ZeT B.out j);clear j;generalize Zb3 (x.nd,x.n)=kk at *
 go_wp2_with fail
 refine(Zeb nb a kk y C.out k.ln).mono ?_;rintro e z ⟨rfl,E,o⟩;have F:Hid (w.grownBy z (some nb)):=hid (Zj D.out o);clear o;go_wp2;go_ret;exact⟨_,rfl,hid (ZT.put t.out H.out ⟨rfl,rfl⟩ E.out F.out)⟩
theorem do_3(w:World)(nb:Nat)(a:Ah)(c:CodeQ)(arg:Nat)(a0 a1 a2 a3:Option Addr)(n0 n1 n2 n3 e0 e1 e2 e3:Nat)(h:DoP w nb a c 3 arg a0 a1 a2 a3 n0 n1 n2 n3 e0 e1 e2 e3) :
  CP 145 #[Vp nb,.agg #[.slice a0 n0 e0,.slice a1 n1 e1,.slice a2 n2 e2,.slice a3 n3 e3],.agg #[Vi (3:Nat),Vi arg]] w fun e u=>∃ok,e=.returned (.bool ok)/\Hid (ZT w u nb a (Zt c (3,arg) a.jy a.jx) ok):=by
 have D:=hid h;have X:=h.st.lt;clear h;go_enter func145,ntmps145
 go_wp2_with fail
 refine Zm fun W K=>?_;have p:BW w W:=by rw[K];exact Zbal.alloc (by simp) _
 have L:=hid (D.st.below p);have M:Hid (w.grownBy W (some nb)):=hid (Zw p);clear K p;obtain⟨y,f⟩:∃y,y=a.jy.headD 0:=⟨_,rfl⟩
 obtain⟨x,g⟩:∃x,x=a.jy.tail.headD 0:=⟨_,rfl⟩
 have l:=Zec nb a W L.out D.ln;rw[<-f]at l;refine l.mono ?_;clear l;rintro e N ⟨rfl,G,i⟩;have O:Hid (w.grownBy N (some nb)):=hid (Zj M.out i);have P:=hid f;have H:=hid g;clear i f g
 go_wp2_with fail
 have g:=H.out;have f:=P.out;have l:=Zec nb { a with jy:=a.jy.tail } N G.out (by have:=D.ln;simp;omega);rw[show({ a with jy:=a.jy.tail } : Ah).jy.headD 0=x from g.symm]at l;refine l.mono ?_;clear l;rintro e z ⟨rfl,q,i⟩;have s:Hid (w.grownBy z (some nb)):=hid (Zj O.out i);clear i;have Q:Hid (StAt z nb { a with jy:=a.jy.tail.tail }):=hid q.out
 have t : Hid ((Zby x && Zby y) = false -> Zt c (3, arg) a.jy a.jx = none) := hid (fun R => by
   cases v:a.jy with
   | nil=>rfl
   | cons k r=>
     cases E:r with
     | nil=>rfl
     | cons k2 r2=>
       rw[v,E]at g f;have g:x=k2:=g;have f:y=k:=f;rw[g,f]at R;show(if (Zby k2 && Zby k)=true then _ else none)=none;rw[R];rfl)
 have A : Hid (Zby x = true -> Zby y = true -> Zt c (3, arg) a.jy a.jx = ZE (max x y) { a with jy := a.jy.tail.tail }.jy { a with jy := a.jy.tail.tail }.jx) := hid (fun n o => by
   cases v:a.jy with
   | nil=>rw[v]at f;rw[f]at o;cases o
   | cons k r=>
     cases E:r with
     | nil=>rw[v,E]at g;rw[g]at n;cases n
     | cons k2 r2=>
       rw[v,E]at g f;have g:x=k2:=g;have f:y=k:=f;rw[g]at n ⊢;rw[f]at o ⊢;show(if (Zby k2 && Zby k)=true then _ else none)=_;rw[n,o];rfl)
 clear g f G q H P;cases d:Zby x with
 | false=>
  have B:Hid (Zt c (3,arg) a.jy a.jx=none):=hid (t.out (by rw[d];rfl));have m:Hid (∀b,CP 202 #[.int .u8 (x:Int)] b fun e u=>e=.returned (.bool false)/\u=b):=hid (fun b=>by have:=Zfo x b;rwa [d]at this);clear d
  go_wp2_with (go_at_call 202;refine(m.out _).mono ?_;rintro e F ⟨rfl,rfl⟩)
  go_ret;exact⟨_,rfl,hid (ZT.no B.out s.out)⟩
 | true=>
  cases j:Zby y with
  | false=>
   have B:Hid (Zt c (3,arg) a.jy a.jx=none):=hid (t.out (by rw[d,j];rfl));have m:Hid (∀b,CP 202 #[.int .u8 (x:Int)] b fun e u=>e=.returned (.bool true)/\u=b):=hid (fun b=>by have:=Zfo x b;rwa [d]at this);have C:Hid (∀b,CP 202 #[.int .u8 (y:Int)] b fun e u=>e=.returned (.bool false)/\u=b):=hid (fun b=>by have:=Zfo y b;rwa [j]at this);clear d j
   go_wp2_with fail
   refine(m.out _).mono ?_;rintro e F ⟨rfl,rfl⟩
   go_wp2_with fail
   refine(C.out _).mono ?_;rintro e F ⟨rfl,rfl⟩;go_wp2;go_ret;exact⟨_,rfl,hid (ZT.no B.out s.out)⟩
  | true=>
   have B:=hid (A.out d j);have m:Hid (∀b,CP 202 #[.int .u8 (x:Int)] b fun e u=>e=.returned (.bool true)/\u=b):=hid (fun b=>by have:=Zfo x b;rwa [d]at this);have C:Hid (∀b,CP 202 #[.int .u8 (y:Int)] b fun e u=>e=.returned (.bool true)/\u=b):=hid (fun b=>by have:=Zfo y b;rwa [j]at this);have I:x=1∨x=2:=by unfold Zby at d;simpa using d
   have J:y=1∨y=2:=by unfold Zby at j;simpa using j
   have S:Hid (max x y≠0):=hid Om;clear d j t A
   go_wp2_with fail
   refine(m.out _).mono ?_;rintro e F ⟨rfl,rfl⟩
   go_wp2_with fail
   refine(C.out _).mono ?_;rintro e F ⟨rfl,rfl⟩;rcases I with rfl|rfl <;> rcases J with rfl|rfl
   all_goals
    go_wp2_with fail
    refine(Zeb nb { a with jy:=a.jy.tail.tail } _ _ Q.out (by have:=D.ln;simp;omega)).mono ?_;rintro e V ⟨rfl,T,i⟩;have U:Hid (w.grownBy V (some nb)):=hid (Zj s.out i);clear i;go_wp2;go_ret;exact⟨_,rfl,hid (ZT.put S.out B.out ⟨rfl,rfl⟩ T.out U.out)⟩
theorem ZvB(w:World)(nb:Nat)(a:Ah)(c:CodeQ)(arg:Nat)(a0 a1 a2 a3:Option Addr)(n0 n1 n2 n3 e0 e1 e2 e3:Nat)(h:DoP w nb a c 13 arg a0 a1 a2 a3 n0 n1 n2 n3 e0 e1 e2 e3) :
  CP 145 #[Vp nb,.agg #[.slice a0 n0 e0,.slice a1 n1 e1,.slice a2 n2 e2,.slice a3 n3 e3],.agg #[Vi (13:Nat),Vi arg]] w fun e u=>∃ok,e=.returned (.bool ok)/\Hid (ZT w u nb a (Zt c (13,arg) a.jy a.jx) ok):=by
 have q:=hid h;have A:=h.st.lt;obtain⟨i,f⟩:=h.rf;have m:arg<16:=by simpa [Zy] using f
 have B:(arg:Int)<16:=by omega
 clear h f;go_enter func145,ntmps145
 go_upto_region 26 with fail
 refine ZP fun W n=>?_;have b:BW w W:=by rw[n];exact Zbal.alloc (by simp) _
 have g:=hid (q.st.below b);have r:Hid (w.grownBy W (some nb)):=hid (Zw b)
 have s:Hid (BAt W (w.heap.size+1) [Vi (13:Nat),Vi arg] 184):=hid (by
  rw[n];have:=Go.Deep.blk_alloc_new (w.alloc (.cells #[.slice a0 n0 e0,.slice a1 n1 e1,.slice a2 n2 e2,.slice a3 n3 e3] 58)) (.cells #[Vi (13:Nat),Vi arg] 184);rwa [Go.Deep.nblk_alloc]at this)
 clear n b;have o1:=s.cell 1;simp only[Zget]at o1;have s1:=StAt.slot g.out arg m;obtain⟨k,o⟩:∃k,k=a.jx.getD arg 0:=⟨_,rfl⟩
 rw[<-o]at s1;have t:=hid o;have v:Hid (∀d,StAt d nb a->CP 199 #[Vp nb,.int .u8 (k:Int)] d _):=hid (fun d h=>Zeb nb a k d h q.ln);have x:Hid (StAt W.drew nb a):=hid (g.below ((Yaf _ _).drew));clear o
 go_region_with (first
   | (go_at_call 199
      refine(v.out _ x.out).mono ?_;rintro e z ⟨rfl,y,j⟩;have l:Hid (w.grownBy z (some nb)):=hid (Zj (Zdi r.out) j);clear j))
 all_goals
  go_wp2;go_ret;refine⟨_,rfl,hid ?_⟩;by_cases p:k=0
  ·subst p;rw[ZA0];refine ZT.no ?_ l.out;show(if a.jx.getD arg 0=0 then none else _)=none;rw[<-t.out];rfl
  ·refine ZT.put p ?_ ⟨rfl,rfl⟩ y.out l.out;show(if a.jx.getD arg 0=0 then none else ZE (a.jx.getD arg 0) a.jy a.jx)=_;rw[<-t.out,if_neg p]
theorem ZvA(w:World)(nb:Nat)(a:Ah)(c:CodeQ)(arg:Nat)(a0 a1 a2 a3:Option Addr)(n0 n1 n2 n3 e0 e1 e2 e3:Nat)(h:DoP w nb a c 12 arg a0 a1 a2 a3 n0 n1 n2 n3 e0 e1 e2 e3) :
  CP 145 #[Vp nb,.agg #[.slice a0 n0 e0,.slice a1 n1 e1,.slice a2 n2 e2,.slice a3 n3 e3],.agg #[Vi (12:Nat),Vi arg]] w fun e u=>∃ok,e=.returned (.bool ok)/\Hid (ZT w u nb a (Zt c (12,arg) a.jy a.jx) ok):=by
 have o:=hid h;have M:=h.st.lt;obtain⟨i,q⟩:=h.rf;have g:arg<16:=by simpa [Zy] using q
 have N:(arg:Int)<16:=by omega
 clear h q;go_enter func145,ntmps145
 go_upto_region 23 with fail
 refine ZP fun W z=>?_;have l:BW w W:=by rw[z];exact Zbal.alloc (by simp) _
 have B:=hid (o.st.below l);have C:Hid (w.grownBy W (some nb)):=hid (Zw l)
 have m:Hid (BAt W (w.heap.size+1) [Vi (12:Nat),Vi arg] 184):=hid (by
  rw[z];have:=Go.Deep.blk_alloc_new (w.alloc (.cells #[.slice a0 n0 e0,.slice a1 n1 e1,.slice a2 n2 e2,.slice a3 n3 e3] 58)) (.cells #[Vi (12:Nat),Vi arg] 184);rwa [Go.Deep.nblk_alloc]at this)
 clear z l;have o1:=m.cell 1;simp only[Zget]at o1;obtain⟨y,d⟩:∃y,y=a.jy.headD 0:=⟨_,rfl⟩
 have I:=hid d;have s:Hid (∀b,StAt b nb a->CP 201 #[Vp nb] b fun e u=>e=.returned (.int .u8 (y:Int))/\Hid (StAt u nb { a with jy:=a.jy.tail })/\b.grownBy u (some nb)):=hid (fun b h=>by rw[d];exact Zec nb a b h o.ln);have t:Hid (StAt W.drew nb a):=hid (B.below ((Yaf _ _).drew));clear d;have O:¬nb=w.heap.size+1:=by omega
 have J:¬w.heap.size+1=nb:=by omega
 go_region_with (first
   | (go_at_call 201
      refine(s.out _ t.out).mono ?_;rintro e D ⟨rfl,f,n⟩;have E:Hid (w.grownBy D (some nb)):=hid (Zj (Zdi C.out) n);have v:=hid ((m.below ((Yaf _ _).drew)).grown n (by intro e;injection e with e;omega));have p1:=v.cell 1;simp only[Zget]at p1;have s5:=StAt.slot f.out arg g;have fz5:=f.frozen (67+arg);clear n))
 all_goals
  have F : Hid (∀ b : World, (∀ j, b.heap[j]? = (D.setCell ⟨nb, 67 + arg, none⟩ (.int .u8 (y : Int))).heap[j]?) -> w.grownBy b (some nb) -> ZT w b nb a (Zt c (12, arg) a.jy a.jx) (((y : Nat) : Int) != 0)) := hid (fun b K G => by
    have x:StAt b nb { a with jy:=a.jy.tail,jx:=a.jx.set arg y }:=(K nb).trans (by
      have H:=f.setk (67+arg) (.int .u8 (y:Int));rw[Znj { a with jy:=a.jy.tail } arg y g o.sl]at H;exact H)
    rw[show(((y:Nat):Int) != 0)=decide (y≠0) from by rw[Ybh,bne_iff_ne,decide_eq_true_iff];omega];have d:=I.out;cases A:a.jy with
    | nil=>rw[A]at d;subst d;exact ZT.no rfl G
    | cons k r=>
      rw[A]at d x;have d:y=k:=d;subst d;have L:y≠0:=o.kd y (by rw[A];simp);refine⟨by show decide (y≠0)=true;simp[L],fun st sl e=>?_,G⟩;injection e with e;injection e with e1 e2;subst e1;subst e2;exact x)
  clear s t m v f;go_wp2
  go_region
  all_goals
   go_wp2;go_ret;exact⟨_,rfl,hid (F.out _ (fun _=>rfl) (Zdi (ZA (p:=⟨nb,67+arg,none⟩) E.out (Or.inl rfl) _)))⟩
theorem ZBV(w:World)(nb:Nat)(a:Ah)(c:CodeQ)(op arg:Nat)(a0 a1 a2:Option Addr){a3:Option Addr}(n0 n1 n2 n3 e0 e1 e2 e3:Nat)(h:DoP w nb a c op arg a0 a1 a2 a3 n0 n1 n2 n3 e0 e1 e2 e3)(b:op<=13) :
  CP 145 #[Vp nb,.agg #[.slice a0 n0 e0,.slice a1 n1 e1,.slice a2 n2 e2,.slice a3 n3 e3],.agg #[Vi op,Vi arg]] w fun e u=>∃ok,e=.returned (.bool ok)/\Hid (ZT w u nb a (Zt c (op,arg) a.jy a.jx) ok):=by
 rcases(by omega:op=0∨op=1∨op=2∨op=3∨op=4∨op=5∨op=6∨op=7∨op=8∨op=9∨op=10∨op=11∨op=12∨op=13)with rfl|rfl|rfl|rfl|rfl|rfl|rfl|rfl|rfl|rfl|rfl|rfl|rfl|rfl
 ·exact do_0 w nb a c arg a0 a1 a2 a3 n0 n1 n2 n3 e0 e1 e2 e3 h
 ·exact do_1 w nb a c arg a0 a1 a2 a3 n0 n1 n2 n3 e0 e1 e2 e3 h
 ·exact do_2 w nb a c arg a0 a1 a2 a3 n0 n1 n2 n3 e0 e1 e2 e3 h
 ·exact do_3 w nb a c arg a0 a1 a2 a3 n0 n1 n2 n3 e0 e1 e2 e3 h
 ·exact do_4 w nb a c arg a0 a1 a2 a3 n0 n1 n2 n3 e0 e1 e2 e3 h
 ·exact do_5 w nb a c arg a0 a1 a2 a3 n0 n1 n2 n3 e0 e1 e2 e3 h
 ·exact do_6 w nb a c arg a0 a1 a2 a3 n0 n1 n2 n3 e0 e1 e2 e3 h
 ·exact do_7 w nb a c arg a0 a1 a2 a3 n0 n1 n2 n3 e0 e1 e2 e3 h
 ·exact do_8 w nb a c arg a0 a1 a2 a3 n0 n1 n2 n3 e0 e1 e2 e3 h
 ·exact do_9 w nb a c arg a0 a1 a2 a3 n0 n1 n2 n3 e0 e1 e2 e3 h
 ·exact Zvy w nb a c arg a0 a1 a2 a3 n0 n1 n2 n3 e0 e1 e2 e3 h
 ·exact Zvz w nb a c arg a0 a1 a2 a3 n0 n1 n2 n3 e0 e1 e2 e3 h
 ·exact ZvA w nb a c arg a0 a1 a2 a3 n0 n1 n2 n3 e0 e1 e2 e3 h
 ·exact ZvB w nb a c arg a0 a1 a2 a3 n0 n1 n2 n3 e0 e1 e2 e3 h
def stCs(l:List Ah):List Value:=(List.range (83*l.length)).map fun t=>Zck (l.getD (t / 83) ah0) (t % 83)
theorem Zhe(l:List Ah):(stCs l).length=83*l.length:=by simp[stCs]
theorem Ziz(l:List Ah)(i j:Nat)(a:i<l.length)(b:j<83):(stCs l)[i*83+j]?=some (Zck (l.getD i ah0) j):=by
 unfold stCs;rw[Ya2,Yg2 Om];simp only[Ybf];rw[show(i*83+j) / 83=i by omega,show(i*83+j) % 83=j by omega]
theorem Znk(l:List Ah)(t:Nat)(a:t<83*l.length):(stCs l)[t]?=some (Zck (l.getD (t / 83) ah0) (t % 83)):=by
 unfold stCs;rw[Ya2,Yg2 a];rfl
theorem Zf3(l:List Ah)(i:Nat)(a:Ah)(b:i<l.length):(l.set i a).getD i ah0=a:=by
 rw[Yaa,Yhd b];rfl
theorem getD_set_ne(l:List Ah)(i j:Nat)(a:Ah)(h:i≠j):(l.set i a).getD j ah0=l.getD j ah0:=by
 rw[Yaa,Yha h,Yaa]
theorem Znl(b:c.length=83*l.length)(h:∀t,t<83*l.length->c[t]?=some (Zck (l.getD (t / 83) ah0) (t % 83))):c=stCs l:=by
 apply Ycs;intro t;by_cases a:t<83*l.length
 ·rw[h t a,Znk l t a]
 ·rw[Ya9 Om,Ya9 (by rw[Zhe];omega)]
theorem Zkf{j:Nat}(b:i<l.length)(c:j<83)(h:(stC (l.getD i ah0)).set j v=stC a2):(stCs l).set (i*83+j) v=stCs (l.set i a2):=by
 refine Znl (by simp[Zhe]) (fun t a=>?_);rw[Yat]at a;have d:∀k,k<83->((stC (l.getD i ah0)).set j v)[k]?=some (Zck a2 k):=fun k f=>by rw[h,ZcA a2 k f]
 rw[Ya0];by_cases e:i*83+j=t
 ·subst e;rw[if_pos rfl,if_pos (by rw[Zhe];exact a),show(i*83+j) / 83=i by omega,show(i*83+j) % 83=j by omega,Zf3 l i a2 b];have:=d j c;rw[Yhd (by rw[ZbE];exact c)]at this;exact this
 ·rw[if_neg e,Znk l t a];by_cases ei:i=t / 83
  ·rw[<-ei,Zf3 l i a2 b];have:=d (t % 83) Om;rw[Yha (by intro e2;omega),ZcA _ _ Om]at this;exact this
  ·rw[getD_set_ne l i (t / 83) a2 ei]
def ZfD:List Value->Nat->List Value->List Value
 | c,_,[]=>c
 | c,o,v::r=>ZfD (c.set o v) (o+1) r
theorem Zsh(vs:List Value):∀(c:List Value) (o t:Nat),o+vs.length<=c.length->(ZfD c o vs)[t]?=if o<=t/\t<o+vs.length then vs[t - o]? else c[t]?:=by
 induction vs with
 | nil=>intro c o t h;rw[if_neg (by rw[Ybq];omega)];rfl
 | cons v r ih=>
  intro c o t h;rw[Yaj]at h;show(ZfD (c.set o v) (o+1) r)[t]?=_;rw[ih _ _ _ (by rw[Yat];omega)];by_cases a:o+1<=t/\t<o+1+r.length
  ·rw[if_pos a,if_pos (by rw[Yaj];omega),show t - o=(t - (o+1))+1 by omega,Ye8]
  ·rw[if_neg a,Ya0];by_cases b:o=t
   ·subst b;rw[if_pos rfl,if_pos Om,if_pos (by rw[Yaj];omega),Nat.sub_self];rfl
   ·rw[if_neg b,if_neg (by rw[Yaj];omega)]
theorem Zsi(vs:List Value):∀(c:List Value) (o:Nat),(ZfD c o vs).length=c.length:=by
 induction vs with
 | nil=>intro c o;rfl
 | cons v r ih=>intro c o;show(ZfD (c.set o v) (o+1) r).length=_;rw[ih,Yat]
theorem ZCH(b:i<l.length):ZfD (stCs l) (i*83) (stC a2)=stCs (l.set i a2):=by
 refine Znl (by rw[Zsi];simp[Zhe]) (fun t a=>?_);rw[Yat]at a;rw[Zsh _ _ _ _ (by rw[ZbE,Zhe];omega),ZbE];by_cases e:i*83<=t/\t<i*83+83
 ·rw[if_pos e,show t / 83=i by omega,Zf3 l i a2 b,ZcA _ _ Om,show t - i*83=t % 83 by omega]
 ·rw[if_neg e,Znk l t a,getD_set_ne l i (t / 83) a2 Om]
theorem BAt.setCells{t:TypeId} : ∀(vs:List Value) {w:World} {c:List Value} (o:Nat),BAt w g c t->BAt (w.setCells g o vs) g (ZfD c o vs) t
 | [],_,_,_,h=>h
 | v :: r, w, c, o, h => by
   rw[World.setCells];exact BAt.setCells r (o+1) (h.setk o v)
theorem ZpN : ∀(vs:List Value) {w0 w:World} (o:Nat),w0.grownBy w (some g)->w0.grownBy (w.setCells g o vs) (some g)
 | [],_,_,_,h=>h
 | v :: r, w0, w, o, h => by
   rw[World.setCells];exact ZpN r (o+1) (ZA h (Or.inl rfl) _)
theorem BAt.range    {t : TypeId} (h : BAt w g c t) (o : Nat) (cs : List Value) (b : ∀ j, j < cs.length -> c[o + j]? = cs[j]?) : w.rangeAt g o cs := fun j v a => by
  have d:j<cs.length:=(Ycm.1 a).1;rw[h.cell (o+j),b j d,a]
theorem BAt.there    {t : TypeId} (h : BAt w g c t) (o n : Nat) (a : o + n <= c.length) : w.there g o n := fun j b => by
  refine⟨?_,h.frozen _⟩;rw[h.cell (o+j),List.getElem?_eq_getElem Om];rfl
def stkC(a:Ah):List Value:=(List.range 64).map fun j=>.int .u8 ((a.jy.reverse.getD j 0:Nat):Int)
theorem Zhg(a:Ah):(stkC a).length=64:=by simp[stkC]
theorem Zkh(a:Ah)(j:Nat)(b:j<64):(stkC a)[j]?=some (.int .u8 ((a.jy.reverse.getD j 0:Nat):Int)):=by
 unfold stkC;rw[Ya2,Yg2 b];rfl
theorem ZCI(c:x.length<=64)(d:y.length<=64)(kx:∀k∈x,k≠0)(ky:∀k∈y,k≠0)(h:∀j,j<64->x.getD j 0=y.getD j 0):x=y:=by
 have a : ∀ (x y : List Nat), x.length <= 64 -> y.length <= 64 -> (∀ k ∈ y, k ≠ 0) -> (∀ j, j < 64 -> x.getD j 0 = y.getD j 0) -> ¬ x.length < y.length := fun x y c d ky h b => by
   have:=h x.length Om;rw[Yaa,Ya9 (Yac _),Yaa,List.getElem?_eq_getElem b]at this;exact ky _ (List.getElem_mem b) this.symm
 have g:x.length=y.length:=by
  have e:=a x y c d ky h;have f:=a y x d c kx (fun j i=>(h j i).symm);omega
 refine List.ext_getElem g (fun j e f=>?_);have:=h j Om
 rwa [Yaa,List.getElem?_eq_getElem e,Yaa,List.getElem?_eq_getElem f]at this
theorem ZCQ{b:Ah}(d:a.jy.length<=64)(e:b.jy.length<=64)(kx:∀k∈a.jy,k≠0)(ky:∀k∈b.jy,k≠0):(∀j,j<64->a.jy.reverse.getD j 0=b.jy.reverse.getD j 0) ↔ a.jy=b.jy:=by
 constructor
 ·intro h;have:=ZCI (by simpa using d) (by simpa using e) (fun k c=>kx k (by simpa using c)) (fun k c=>ky k (by simpa using c)) h;simpa using this
 ·intro h j _;rw[h]
theorem ZrX{X:Array Value}(i:Nat)(a:X[i]?=some v)(w:World):(part 308 X (i*1)).run prog w=.ok v w:=by
 have b:prog.underlying 308=some (.int .u8):=underlying308;unfold part;simp only[isAgg,Ye5,run_underlying b,Ydz,Sem.run_pure,Nat.mul_one,a];rfl
theorem ZrW (a b : Ah) (d : Nat) (w : World) : ∀ is : List Nat, (∀ i ∈ is, i < 64) -> (Op.eqItems (d + 1) 308 1 (stkC a).toArray (stkC b).toArray is).run prog w = .ok (is.all fun i => a.jy.reverse.getD i 0 == b.jy.reverse.getD i 0) w
  | [],_=>rfl
  | i :: is, h => by
    have c:=h i (by simp);have ih:=ZrW a b d w is (fun j f=>h j (by simp[f]));have g:prog.underlying 308=some (.int .u8):=underlying308;simp only[Op.eqItems,Ye5];rw[ZrX i (by rw[Yd7];exact Zkh a i c)];simp only[Ydz];rw[ZrX i (by rw[Yd7];exact Zkh b i c)];simp only[Ydz];rw[run_equalIn_int w d _ .u8 .u8 _ _ g];simp only[Ydz,Yep];by_cases e:a.jy.reverse.getD i 0=b.jy.reverse.getD i 0
    · rw[e];simpa using ih
    · have e1:((((a.jy.reverse.getD i 0:Nat):Int)) == (((b.jy.reverse.getD i 0:Nat):Int)))=false:=by rw[beq_eq_false_iff_ne];omega
      have e2:(a.jy.reverse.getD i 0 == b.jy.reverse.getD i 0)=false:=by rw[beq_eq_false_iff_ne];exact e
      rw[e1,e2];rfl
structure AhOk (a:Ah):Prop where
 ln:a.jy.length<=64
 kd:∀k∈a.jy,k≠0
 sl:a.jx.length=16
theorem Tryz.infoSt:(Tryz.prog.info? 312).map (·.size)=some 83:=by kernel_rfl
theorem Tryz.infoSk:(Tryz.prog.info? 309).map (·.size)=some 64:=by kernel_rfl
theorem Tryz.infoKd:(Tryz.prog.info? 308).isSome=true:=by kernel_rfl
theorem ZCE(a:Ah):(stC a).set 1 (.bool true)=stC { a with kq:=true }:=by
 refine Ziy (by simp[ZbE]) (fun i d=>?_);rw[Ya0];by_cases c:1=i
 ·subst c;rw[if_pos rfl,if_pos (by simp[ZbE])];rfl
 ·have b:¬i=1:=fun e=>c e.symm;rw[if_neg c,ZcA a i d];unfold Zck;rw[if_neg b,if_neg b]
def Zbq(x y:List Nat)(k:Nat):List Nat:=(both x y).take k++x.drop k
theorem ZgG(a:x.length=16)(b:y.length=16):(both x y).length=16:=by simp[both,a,b]
theorem ZjK(a:x.length=16)(b:y.length=16)(k:Nat)(c:k<=16):(Zbq x y k).length=16:=by
 unfold Zbq;rw[Yab,Ya7,Ybv,ZgG a b,a];omega
theorem Zq3(x y:List Nat):Zbq x y 0=x:=by simp[Zbq]
theorem ZqZ(a:x.length=16)(b:y.length=16):Zbq x y 16=both x y:=by
 unfold Zbq;rw[Ya5 (by rw[ZgG a b];exact Yac _),Yb8 Om,Yca]
theorem Zmj(a:x.length=16)(b:y.length=16)(k:Nat)(c:k<16):(Zbq x y k).getD k 0=x.getD k 0:=by
 unfold Zbq;rw[Yaa,Yb3 (by rw[Ya7,ZgG a b];omega),Ya7,ZgG a b,Ygv,Yaa]
 congr 2;omega
theorem Zq2(a:x.length=16)(b:y.length=16)(k:Nat)(e:k<16):Zbq x y (k+1)=(Zbq x y k).set k (if x.getD k 0=y.getD k 0 then x.getD k 0 else 0):=by
 have c:=ZgG a b
 have d : (both x y)[k]' Om = if x.getD k 0 = y.getD k 0 then x.getD k 0 else 0 := by
   unfold both;rw[List.getElem_zipWith];simp[Yaa,List.getElem?_eq_getElem (show k<x.length by omega),List.getElem?_eq_getElem (show k<y.length by omega)]
 unfold Zbq;rw[List.take_succ_eq_append_getElem Om,d,Yd5 _ _ (by rw[Ya7];omega),Ya7,c,show k - min k 16=0 by omega,Yan]
 congr 1
 rw[List.drop_eq_getElem_cons (show k<x.length by omega)];rfl
theorem Zq1(a:x.length=16)(b:y.length=16)(k:Nat)(c:k<16)(h:x.getD k 0=y.getD k 0):Zbq x y (k+1)=Zbq x y k:=by
 rw[Zq2 a b k c,if_pos h,<-Zmj a b k c];apply Ycs;intro j;rw[Ya0];by_cases e:k=j
 ·subst e;rw[if_pos rfl,if_pos (by rw[ZjK a b k Om];exact c),Yaa,List.getElem?_eq_getElem (by rw[ZjK a b k Om];exact c)];rfl
 ·rw[if_neg e]
theorem Zq0(a:x.length=16)(b:y.length=16)(k:Nat)(c:k<16)(h:x.getD k 0≠y.getD k 0):Zbq x y (k+1)=(Zbq x y k).set k 0:=by
 rw[Zq2 a b k c,if_neg h]
theorem Zkb(w:World)(g i:Nat)(l:List Ah)(b:Ah)(A:i<l.length)(hg:BAt w g (stCs l) 312)(ha:AhOk (l.getD i ah0))(hb:AhOk b)(hk:b.kz=true)(hc:b.kq=false) :
  CP 147 #[.pointer (some ⟨g,i*83,none⟩),.agg (stC b).toArray] w fun e u=>e=.returned (.tuple #[])/\Hid (BAt u g (stCs (l.set i (Zbi (l.getD i ah0) b.jy b.jx))) 312)/\w.grownBy u (some g):=by
 obtain⟨a,V⟩:∃a,a=l.getD i ah0:=⟨_,rfl⟩
 rw[<-V]at ha ⊢;obtain⟨o,ho⟩:∃o,o=i*83:=⟨_,rfl⟩
 rw[<-ho];have C:=hid ho;have HA:=hid ha;have HB:=hid hb;have HG:=hid hg;have c8:=hg.lt;have I:=hid V
 have cells : ∀ (W : World) (l' : List Ah), l'.length = l.length -> BAt W g (stCs l') 312 -> ∀ j, j < 83 -> W.cell? ⟨g, o + j, none⟩ = some (Zck (l'.getD i ah0) j) := fun W l' H s j B => by
   rw[s.cell,C.out,Ziz l' i j Om B]
 have J:=hid cells;clear ha hb hg V ho cells;go_enter func147,ntmps147
 go_upto_region 1 with fail
 refine ZP fun W hW=>?_;have X:BW w W:=by rw[hW];exact Zbal
 have z:=hid (HG.below X);have HW:Hid (w.grownBy W (some g)):=hid (Zw X);have T:Hid (BAt W w.heap.size (stC b) 312):=hid (by rw[hW];exact Go.Deep.blk_alloc_new _ _);clear hW X HG
 have c0:W.cell? ⟨g,o,none⟩=some (.bool a.kz):=by
  have:=J.out W l rfl z.out 0 Dc;rw[<-I.out]at this;exact this
 have Y:¬w.heap.size=g:=by omega
 cases L:a.kz with
 | false=>
  rw[L]at c0;have HL:Hid (W.rangeAt w.heap.size 0 (stC b)):=hid (T.range 0 (stC b) (fun j _=>by rw[Ycf]));have b5:Hid (W.there g o (stC b).toArray.size):=hid (z.there o _ (by rw[Yb5,ZbE,Zhe,C.out];omega));have b6:Hid ((prog.info? 312).map (·.size)=some (stC b).length):=hid (by rw[ZbE];exact Tryz.infoSt);have b7:Hid ((prog.info? 312).map (·.size)=some (stC b).toArray.size):=hid (by rw[Yb5,ZbE];exact Tryz.infoSt);have b8:Hid ((stC b).toArray.all (·.oneCell')=true):=hid (all_oneCell_toArray (Zsu b))
  have Z:Hid (BAt (W.setCells g o (stC b)) g (stCs (l.set i (Zbi a b.jy b.jx))) 312):=hid (by
   have H:=BAt.setCells (stC b) o z.out;rw[C.out,ZCH A]at H;rw[C.out]
   have s:Zbi a b.jy b.jx=b:=by
    unfold Zbi;rw[L];cases b with
    | mk k c st sl=>simp only at hk hc;subst hk;subst hc;rfl
   rw[s];exact H)
  have b9:Hid (w.grownBy (W.setCells g o (stC b)) (some g)):=hid (ZpN (stC b) o HW.out);clear J
  go_wp2_with (first
    | refine wpList_load_mid rfl 312 (.tmp 3) rfl w.heap.size 0 rfl (stC b) _ HL.out underlying312 rfl b6.out ?_
    | refine wpList_store_mid rfl 312 (.tmp 12) (.tmp 11) rfl g o (stC b).toArray rfl rfl b5.out b7.out b8.out ?_)
  exact bodyPost_ret (v:=.tuple #[]) (results_none rfl _ _ _) rfl ⟨rfl,Z,b9.out⟩
 | true=>
  rw[L]at c0;have c2:=underlying309;have a4:(prog.info? 309).map (·.size)=some (stkC a).length:=by rw[Zhg];exact Tryz.infoSk
  have a5:(prog.info? 309).map (·.size)=some (stkC b).length:=by rw[Zhg];exact Tryz.infoSk
  have c3:=Zhg a;have c4:=Zhg b
  have a6 : W.rangeAt g (o + 3) (stkC a) := z.range (o + 3) (stkC a) (fun j B => by
    rw[Zhg]at B;rw[Zkh a j B,C.out,show i*83+3+j=i*83+(3+j) by omega,Ziz l i (3+j) A Om,<-I.out];have:=Zni a j B;rw[ZcA a _ Om]at this;exact this)
  have a7 : W.rangeAt w.heap.size 3 (stkC b) := T.range 3 (stkC b) (fun j B => by
    rw[Zhg]at B;rw[Zkh b j B,Zni b j B])
  have c9:prog.eqGuardType prog.depth 309=false:=by kernel_rfl
  have U : Hid (∀ m : World, (binOp .neq 309 (.agg (stkC a).toArray) (.agg (stkC b).toArray)).run prog m = .ok (.bool (decide (a.jy ≠ b.jy))) m) := hid (fun m => by
    obtain⟨i9,c5⟩:=Ycw.1 Tryz.infoKd;rw[run_neq_struct,run_equalIn_array m 9999 _ _ underlying309 c5,show prog.cellsOf 308=1 by kernel_rfl,ZrW a b 9998 m _ (fun i A=>Yb9.1 A)];simp only[Ydz]
    congr 2
    have H : ((List.range 64).all fun i => a.jy.reverse.getD i 0 == b.jy.reverse.getD i 0) = decide (a.jy = b.jy) := by
      rw[Ybh,Ybu,decide_eq_true_iff,<-ZCQ HA.ln HB.ln HA.kd HB.kd];constructor
      · intro h j B;simpa using h j (Yb9.2 B)
      · intro h j B;simpa using h j (Yb9.1 B)
    rw[H];simp)
  have n:Hid (b.jx.length=16):=hid HB.sl;have q:Hid (a.jx.length=16):=hid HA.sl
  have c6:Hid (l.set i a=l):=hid (by
   apply Ycs;intro j;rw[Ya0];by_cases e:i=j
   ·subst e;rw[if_pos rfl,if_pos A,I.out,Yaa,List.getElem?_eq_getElem A];rfl
   ·rw[if_neg e])
  have d0:g<W.heap.size:=z.lt;have ff:=fun j=>z.frozen j
  have c1:W.cell? ⟨g,o+1,none⟩=some (.bool a.kq):=by
   have:=J.out W l rfl z.out 1 Dc;rw[<-I.out]at this;exact this
  obtain⟨cl,M⟩:∃cl,cl=(a.kq || decide (a.jy≠b.jy)):=⟨_,rfl⟩
  have a8:Hid (Zbi a b.jy b.jx=⟨true,cl,a.jy,both a.jx b.jx⟩):=hid (by unfold Zbi;rw[L,M];rfl);have a9:Hid (a=⟨true,a.kq,a.jy,a.jx⟩):=hid (by rw[<-L]);have b0:=hid a6;have b1:=hid a7;have b2:=hid a4;have b3:=hid a5;clear a6 a7 a4 a5 c3 c4 c2;by_cases G:a.jy=b.jy
  ·have b4:∀m:World,(binOp .neq 309 (.agg (stkC a).toArray) (.agg (stkC b).toArray)).run prog m=.ok (.bool false) m:=fun m=>by rw[U.out m];simp[G]
   have a0:Hid (cl=a.kq):=hid (by rw[M];simp[G])
   have N:Hid (BAt W.drew g (stCs (l.set i ⟨true,cl,a.jy,Zbq a.jx b.jx 0⟩)) 312):=hid (by
    rw[Zq3,a0.out,<-a9.out,c6.out];exact z.below ((Yaf _ _).drew))
   have O:Hid (BAt W.drew w.heap.size (stC b) 312):=hid (T.below ((Yaf _ _).drew));have P:Hid (w.grownBy W.drew (some g)):=hid (Zdi HW.out);clear M G U
   go_upto_region 3 with fail
   refine Zbn 6 (fun u=>u.rangeAt g (o+3) (stkC a)/\u.rangeAt w.heap.size 3 (stkC b)) Kr ⟨by simpa using b0.out,by simpa using b1.out⟩ (fun f=>?_);refine Za 0 f (h:=?_);refine Za 1 f (h:=?_);refine Za 2 f (h:=?_);refine ZeD (i:=3) (d:=16) (v:=.agg (stkC a).toArray) rfl rfl Kr (fun _ _ _ h=>h) (yieldsIf_load_mid (by rfl) 309 (.tmp 15) rfl g (o+3) rfl (stkC a) _ (fun w Q=>Q.1) underlying309 rfl b2.out) f ?rsp3
   case rsp3=>
   try simp only[Zset]
   refine Za 4 f (h:=?_);refine ZeD (i:=5) (d:=18) (v:=.agg (stkC b).toArray) rfl rfl Kr (fun _ _ _ h=>h) (yieldsIf_load_mid (by rfl) 309 (.tmp 17) rfl w.heap.size 3 rfl (stkC b) _ (fun w Q=>Q.2) underlying309 rfl b3.out) f ?rsp5
   case rsp5=>
   try simp only[Zset]
   refine Zbl Kr Kr rfl Kr (fun K hK=>?_);go_simp;refine hK.out _ _ ?_;clear hK K f;go_wp2
   go_loopw [23] (fun iv wr => ∃ k : Nat, k <= 16 /\ iv = Vi k /\ Hid (BAt wr g (stCs (l.set i ⟨true, cl, a.jy, Zbq a.jx b.jx k⟩)) 312) /\ Hid (BAt wr w.heap.size (stC b) 312) /\ Hid (w.grownBy wr (some g)))
     (fun iv _=>16 - (intOf iv).toNat)
   case atStart=>exact⟨0,Yag _,rfl,N,O,P⟩
   case round=>
    obtain⟨k,hk,rfl,t,D,E⟩:=hrel;clear N O P;by_cases r:k<16
    ·have c7:(k:Int)<16:=by omega
     have s1:wr.cell? ⟨g,o+67+k,none⟩=some (.int .u8 ((a.jx.getD k 0:Nat):Int)):=by
      have:=J.out wr (l.set i ⟨true,cl,a.jy,Zbq a.jx b.jx k⟩) (by simp) t.out (67+k) Om;rw[Zf3 l i _ A]at this;rw[show o+67+k=o+(67+k) by omega,this];have s:=Znh ⟨true,cl,a.jy,Zbq a.jx b.jx k⟩ k r;rw[ZcA _ _ Om]at s;rw[s,show(⟨true,cl,a.jy,Zbq a.jx b.jx k⟩:Ah).jx=Zbq a.jx b.jx k from rfl,Zmj q.out n.out k r]
     have s2:wr.cell? ⟨w.heap.size,67+k,none⟩=some (.int .u8 ((b.jx.getD k 0:Nat):Int)):=StAt.slot D.out k r;have fz:=t.frozen (o+67+k);by_cases F:a.jx.getD k 0=b.jx.getD k 0
     ·have R:=hid (Zq1 q.out n.out k r F);have a1:((((a.jx.getD k 0:Nat):Int)) != (((b.jx.getD k 0:Nat):Int)))=false:=by rw[F];simp
      generalize a.jx.getD k 0=x at *
      generalize b.jx.getD k 0=y at *
      clear F;go_wp2
      go_region
      all_goals
       go_wp2
       go_roundw
       case rel=>exact⟨k+1,by omega,by go_num,hid (by rw[R.out];exact t.below ((Yaf _ _).drew)),hid (D.below ((Yaf _ _).drew)),hid (Zdi E.out)⟩
       case measure=>simp[intOf];omega
     ·have R:=hid (Zq0 q.out n.out k r F);have a1:((((a.jx.getD k 0:Nat):Int)) != (((b.jx.getD k 0:Nat):Int)))=true:=by rw[bne_iff_ne];omega
      have a2 : Hid (∀ m : World, (∀ j, m.heap[j]? = wr.heap[j]?) -> BAt (m.setCell ⟨g, o + 67 + k, none⟩ (.int .u8 0)) g (stCs (l.set i ⟨true, cl, a.jy, Zbq a.jx b.jx (k + 1)⟩)) 312) := hid (fun m a3 => by
        have H:BAt m g (stCs (l.set i ⟨true,cl,a.jy,Zbq a.jx b.jx k⟩)) 312:=(a3 g).trans t.out;have s:=H.setk (o+67+k) (.int .u8 0)
        have S:(stCs (l.set i ⟨true,cl,a.jy,Zbq a.jx b.jx k⟩)).set (i*83+(67+k)) (.int .u8 0)=stCs ((l.set i ⟨true,cl,a.jy,Zbq a.jx b.jx k⟩).set i ⟨true,cl,a.jy,Zbq a.jx b.jx (k+1)⟩):=
          Zkf (by simpa using A) Om (by
            rw[Zf3 l i _ A,R.out];exact Znj ⟨true,cl,a.jy,Zbq a.jx b.jx k⟩ k 0 r (ZjK q.out n.out k Om))
        rw[List.set_set]at S;rw[show o+67+k=i*83+(67+k) by rw[C.out];omega,S]at s;rw[show o+67+k=i*83+(67+k) by rw[C.out];omega];exact s)
      generalize a.jx.getD k 0=x at *
      generalize b.jx.getD k 0=y at *
      clear F;go_wp2
      go_region
      all_goals
       go_wp2
       go_roundw
       case rel=>exact⟨k+1,by omega,by go_num,hid (a2.out wr.drew (fun _=>rfl)),hid ((D.below ((Yaf _ _).drew)).other (p:=⟨g,o+67+k,none⟩) Y _),hid (ZA (p:=⟨g,o+67+k,none⟩) (Zdi E.out) (Or.inl rfl) _)⟩
       case measure=>simp[intOf];omega
    ·obtain rfl:k=16:=by omega
     have Z:Hid (BAt wr g (stCs (l.set i (Zbi a b.jy b.jx))) 312):=hid (by
      rw[a8.out,<-ZqZ q.out n.out];exact t.out)
     go_wp2
     go_end0
     exact⟨rfl,Z,E.out⟩
  ·have b4:∀m:World,(binOp .neq 309 (.agg (stkC a).toArray) (.agg (stkC b).toArray)).run prog m=.ok (.bool true) m:=fun m=>by rw[U.out m];simp[G]
   have a0:Hid (cl=true):=hid (by rw[M];simp[G])
   have N:Hid (BAt (W.drew.setCell ⟨g,o+1,none⟩ (.bool true)) g (stCs (l.set i ⟨true,cl,a.jy,Zbq a.jx b.jx 0⟩)) 312):=hid (by
    have s:=(z.below ((Yaf _ _).drew)).setk (o+1) (.bool true);have S:(stCs l).set (i*83+1) (.bool true)=stCs (l.set i { a with kq:=true }):=Zkf A Dc (by rw[<-I.out];exact ZCE a);rw[show o+1=i*83+1 by rw[C.out],S]at s;rw[Zq3,a0.out,show o+1=i*83+1 by rw[C.out]];rw[a9.out]at s;exact s)
   have O:Hid (BAt (W.drew.setCell ⟨g,o+1,none⟩ (.bool true)) w.heap.size (stC b) 312):=hid ((T.below ((Yaf _ _).drew)).other (p:=⟨g,o+1,none⟩) Y _);have P:Hid (w.grownBy (W.drew.setCell ⟨g,o+1,none⟩ (.bool true)) (some g)):=hid (ZA (p:=⟨g,o+1,none⟩) (Zdi HW.out) (Or.inl rfl) _);clear M G U
   go_upto_region 3 with fail
   refine Zbn 6 (fun u=>u.rangeAt g (o+3) (stkC a)/\u.rangeAt w.heap.size 3 (stkC b)) Kr ⟨by simpa using b0.out,by simpa using b1.out⟩ (fun f=>?_);refine Za 0 f (h:=?_);refine Za 1 f (h:=?_);refine Za 2 f (h:=?_);refine ZeD (i:=3) (d:=16) (v:=.agg (stkC a).toArray) rfl rfl Kr (fun _ _ _ h=>h) (yieldsIf_load_mid (by rfl) 309 (.tmp 15) rfl g (o+3) rfl (stkC a) _ (fun w Q=>Q.1) underlying309 rfl b2.out) f ?rsq3
   case rsq3=>
   try simp only[Zset]
   refine Za 4 f (h:=?_);refine ZeD (i:=5) (d:=18) (v:=.agg (stkC b).toArray) rfl rfl Kr (fun _ _ _ h=>h) (yieldsIf_load_mid (by rfl) 309 (.tmp 17) rfl w.heap.size 3 rfl (stkC b) _ (fun w Q=>Q.2) underlying309 rfl b3.out) f ?rsq5
   case rsq5=>
   try simp only[Zset]
   refine Zbl Kr Kr rfl Kr (fun K hK=>?_);go_simp;refine hK.out _ _ ?_;clear hK K f;go_wp2
   go_loopw [23] (fun iv wr => ∃ k : Nat, k <= 16 /\ iv = Vi k /\ Hid (BAt wr g (stCs (l.set i ⟨true, cl, a.jy, Zbq a.jx b.jx k⟩)) 312) /\ Hid (BAt wr w.heap.size (stC b) 312) /\ Hid (w.grownBy wr (some g)))
     (fun iv _=>16 - (intOf iv).toNat)
   case atStart=>exact⟨0,Yag _,rfl,N,O,P⟩
   case round=>
    obtain⟨k,hk,rfl,t,D,E⟩:=hrel;clear N O P;by_cases r:k<16
    ·have c7:(k:Int)<16:=by omega
     have s1:wr.cell? ⟨g,o+67+k,none⟩=some (.int .u8 ((a.jx.getD k 0:Nat):Int)):=by
      have:=J.out wr (l.set i ⟨true,cl,a.jy,Zbq a.jx b.jx k⟩) (by simp) t.out (67+k) Om;rw[Zf3 l i _ A]at this;rw[show o+67+k=o+(67+k) by omega,this];have s:=Znh ⟨true,cl,a.jy,Zbq a.jx b.jx k⟩ k r;rw[ZcA _ _ Om]at s;rw[s,show(⟨true,cl,a.jy,Zbq a.jx b.jx k⟩:Ah).jx=Zbq a.jx b.jx k from rfl,Zmj q.out n.out k r]
     have s2:wr.cell? ⟨w.heap.size,67+k,none⟩=some (.int .u8 ((b.jx.getD k 0:Nat):Int)):=StAt.slot D.out k r;have fz:=t.frozen (o+67+k);by_cases F:a.jx.getD k 0=b.jx.getD k 0
     ·have R:=hid (Zq1 q.out n.out k r F);have a1:((((a.jx.getD k 0:Nat):Int)) != (((b.jx.getD k 0:Nat):Int)))=false:=by rw[F];simp
      generalize a.jx.getD k 0=x at *
      generalize b.jx.getD k 0=y at *
      clear F;go_wp2
      go_region
      all_goals
       go_wp2
       go_roundw
       case rel=>exact⟨k+1,by omega,by go_num,hid (by rw[R.out];exact t.below ((Yaf _ _).drew)),hid (D.below ((Yaf _ _).drew)),hid (Zdi E.out)⟩
       case measure=>simp[intOf];omega
     ·have R:=hid (Zq0 q.out n.out k r F);have a1:((((a.jx.getD k 0:Nat):Int)) != (((b.jx.getD k 0:Nat):Int)))=true:=by rw[bne_iff_ne];omega
      have a2 : Hid (∀ m : World, (∀ j, m.heap[j]? = wr.heap[j]?) -> BAt (m.setCell ⟨g, o + 67 + k, none⟩ (.int .u8 0)) g (stCs (l.set i ⟨true, cl, a.jy, Zbq a.jx b.jx (k + 1)⟩)) 312) := hid (fun m a3 => by
        have H:BAt m g (stCs (l.set i ⟨true,cl,a.jy,Zbq a.jx b.jx k⟩)) 312:=(a3 g).trans t.out;have s:=H.setk (o+67+k) (.int .u8 0)
        have S:(stCs (l.set i ⟨true,cl,a.jy,Zbq a.jx b.jx k⟩)).set (i*83+(67+k)) (.int .u8 0)=stCs ((l.set i ⟨true,cl,a.jy,Zbq a.jx b.jx k⟩).set i ⟨true,cl,a.jy,Zbq a.jx b.jx (k+1)⟩):=
          Zkf (by simpa using A) Om (by
            rw[Zf3 l i _ A,R.out];exact Znj ⟨true,cl,a.jy,Zbq a.jx b.jx k⟩ k 0 r (ZjK q.out n.out k Om))
        rw[List.set_set]at S;rw[show o+67+k=i*83+(67+k) by rw[C.out];omega,S]at s;rw[show o+67+k=i*83+(67+k) by rw[C.out];omega];exact s)
      generalize a.jx.getD k 0=x at *
      generalize b.jx.getD k 0=y at *
      clear F;go_wp2
      go_region
      all_goals
       go_wp2
       go_roundw
       case rel=>exact⟨k+1,by omega,by go_num,hid (a2.out wr.drew (fun _=>rfl)),hid ((D.below ((Yaf _ _).drew)).other (p:=⟨g,o+67+k,none⟩) Y _),hid (ZA (p:=⟨g,o+67+k,none⟩) (Zdi E.out) (Or.inl rfl) _)⟩
       case measure=>simp[intOf];omega
    ·obtain rfl:k=16:=by omega
     have Z:Hid (BAt wr g (stCs (l.set i (Zbi a b.jy b.jx))) 312):=hid (by
      rw[a8.out,<-ZqZ q.out n.out];exact t.out)
     go_wp2
     go_end0
     exact⟨rfl,Z,E.out⟩
theorem ZyP(n:Nat):(madeCells (stC ah0).toArray (n*83)).toList=stCs (List.replicate n ah0):=by
 refine Znl (by simp[madeCells];omega) (fun t a=>?_);rw[Yfn]at a
 have b:(madeCells (stC ah0).toArray (n*83)).toList[t]?=some ((stC ah0).toArray[t % (stC ah0).toArray.size]!):=by
  unfold madeCells;rw[Array.toList_map,Ya2,Array.toList_range,Yg2 Om];rfl
 rw[b,Yb5,ZbE];have c:=ZcA ah0 (t % 83) Om
 have d:(List.replicate n ah0).getD (t / 83) ah0=ah0:=by
  rw[Yaa,Ybs];split <;> rfl
 rw[d]
 congr 1
 rw[getElem!_def];have:(stC ah0).toArray[t % 83]?=some (Zck ah0 (t % 83)):=by rw[Yd7];exact c
 rw[this]
theorem ZB5(a b:Ah):ZfD (stC a) 0 (stC b)=stC b:=by
 refine Ziy (by rw[Zsi,ZbE]) (fun i c=>?_);rw[Zsh _ _ _ _ (by rw[ZbE,ZbE];omega),if_pos (by rw[ZbE];omega),Nat.sub_zero,ZcA b i c]
theorem ZnK:AhOk ah0:=⟨by decide,(fun k a=>(by cases a)),rfl⟩
theorem ZtF:AhOk ⟨true,false,[],List.replicate 16 0⟩:=⟨by decide,(fun k a=>(by cases a)),rfl⟩
theorem ZAm(n:Nat):∀a∈ZeY n,AhOk a:=by
 intro a b;rcases Yau.1 b with rfl|b
 ·exact ZtF
 ·rw[(Yg5.1 b).2];exact ZnK
theorem Zgo{k:Nat}(b:k≠0)(e:st.length<=64)(c:∀k∈st,k≠0)(d:sl.length=16)(h:ZE k st sl=some (st',sl')):st'.length<=64/\(∀k∈st',k≠0)/\sl'.length=16:=by
 unfold ZE at h;split at h
 ·cases h
 ·injection h with h;injection h with e1 e2;subst e1;subst e2
  exact ⟨by rw [Yaj]; omega, fun x a => by
    rcases Yau.1 a with rfl|a
    · exact b
    · exact c x a,d⟩
theorem ZCP{c:CodeQ}{x:Nat×Nat}(l:Zy c i x=true)(d:st.length<=64)(b:∀k∈st,k≠0)(a:sl.length=16)(h:Zt c x st sl=some (st',sl')):st'.length<=64/\(∀k∈st',k≠0)/\sl'.length=16:=by
 obtain⟨op,arg⟩:=x
 have tl : ∀ {k : Nat} {r : List Nat}, st = k :: r -> r.length <= 64 /\ (∀ k ∈ r, k ≠ 0) := fun {k r} e => by
   subst e;exact⟨by rw[Yaj]at d;omega,fun y m=>b y (Yam _ m)⟩
 unfold Zt at h;simp only at h;split at h
 ·exact Zgo Dc d b a h
 ·have f:arg<c.jv.length:=by simpa [Zy] using l
  refine Zgo ?_ d b a h;rw[List.getElem?_eq_getElem f];show Zb3 _≠0;unfold Zb3;split <;> decide
 ·split at h
  ·rename_i k r;obtain⟨t1,t2⟩:=tl rfl;split at h
   ·exact Zgo Dc t1 t2 a h
   ·cases h
  ·cases h
 ·split at h
  ·rename_i y k r;split at h
   ·rename_i g;have g:=g;rw[Yas]at g;have j:k≠0:=b k (by simp);exact Zgo Om (by simp only[Yaj]at d;omega) (fun z n=>b z (by simp[n])) a h
   ·cases h
  ·cases h
 ·split at h
  ·rename_i k r;obtain⟨t1,t2⟩:=tl rfl;split at h
   ·exact Zgo (b k (by simp)) t1 t2 a h
   ·cases h
  ·cases h
 ·injection h with h;injection h with e1 e2;subst e1;subst e2;exact⟨d,b,a⟩
 ·split at h
  ·rename_i k r;obtain⟨t1,t2⟩:=tl rfl;injection h with h;injection h with e1 e2;subst e1;subst e2;exact⟨t1,t2,a⟩
  ·cases h
 ·split at h
  ·rename_i k r;obtain⟨t1,t2⟩:=tl rfl;injection h with h;injection h with e1 e2;subst e1;subst e2;exact⟨t1,t2,by rw[Yat];exact a⟩
  ·cases h
 ·split at h
  ·cases h
  ·rename_i j;exact Zgo j d b a h
 ·split at h
  ·rename_i k r;obtain⟨t1,t2⟩:=tl rfl;split at h
   ·exact Zgo Dc t1 t2 a h
   ·cases h
  ·cases h
theorem ZyZ(b:AhOk a)(d:st.length<=64)(e:∀k∈st,k≠0)(c:sl.length=16):AhOk (Zbi a st sl):=by
 unfold Zbi;split
 ·exact⟨b.ln,b.kd,ZgG b.sl c⟩
 ·exact⟨d,e,c⟩
theorem ZB7   (b : ∀ x ∈ l, AhOk x) (c : AhOk a) (i : Nat) : ∀ x ∈ l.set i a, AhOk x := fun x d => by
  rcases Yck d with h|h
  · exact b x h
  · rw[h];exact c
theorem ZgN(b:∀x∈l,AhOk x)(i:Nat):AhOk (l.getD i ah0):=by
 rw[Yaa];cases h:l[i]? with
 | none=>exact ZnK
 | some a=>exact b a (Ycq h)
theorem Zxf(a:Ah):Zd1 a=(!a.kq && (decide (a.jy.length=1) && Zby (a.jy.reverse.getD 0 0))):=by
 unfold Zd1
 congr 1
 cases d:a.jy with
 | nil=>rfl
 | cons k r=>
  cases r with
  | nil=>
   unfold Zby;by_cases b:k=1
   ·subst b;rfl
   ·by_cases c:k=2
    ·subst c;rfl
    ·simp[b,c]
  | cons k2 r2=>simp
theorem Zxg(w:World)(g i:Nat)(l:List Ah)(d:i<l.length)(f:BAt w g (stCs l) 312) :
  CP 148 #[.pointer (some ⟨g,i*83,none⟩)] w fun e u=>e=.returned (.bool (Zd1 (l.getD i ah0)))/\u=w:=by
 have b:∀j,j<83->w.cell? ⟨g,i*83+j,none⟩=some (Zck (l.getD i ah0) j):=fun j m=>by rw[f.cell,Ziz l i j d m]
 generalize l.getD i ah0=a at *
 have c1:w.cell? ⟨g,i*83+1,none⟩=some (.bool a.kq):=b 1 Dc;have c2:w.cell? ⟨g,i*83+2,none⟩=some (Vi a.jy.length):=b 2 Dc;have c3:w.cell? ⟨g,i*83+3,none⟩=some (.int .u8 ((a.jy.reverse.getD 0 0:Nat):Int)):=b 3 Dc;have p:=hid (Zxf a);generalize i*83=o at *
 generalize a.jy.reverse.getD 0 0=k at *
 generalize a.jy.length=n at *
 rw[p.out];clear b f d;cases c:a.kq with
 | true=>
  rw[c]at c1;go_enter func148,ntmps148;go_wp2;go_ret;exact⟨rfl,rfl⟩
 | false=>
  rw[c]at c1;by_cases h:n=1
  ·subst h;go_enter func148,ntmps148
   go_wp2_with (go_at_call 202;refine(Zfo k _).mono ?_;rintro e q ⟨rfl,rfl⟩)
   go_ret;exact⟨Zcy (by simp),rfl⟩
  ·have r:((n:Int) == 1)=false:=by rw[beq_eq_false_iff_ne];omega
   go_enter func148,ntmps148;go_wp2;go_ret;exact⟨Zcy (by simp[h]),rfl⟩
theorem Tryz.infoState:(Tryz.prog.info? 312).map (fun i=>(i.zero,i.size,i.bytes))=some (some (.agg (stC ah0).toArray),83,96):=by kernel_rfl

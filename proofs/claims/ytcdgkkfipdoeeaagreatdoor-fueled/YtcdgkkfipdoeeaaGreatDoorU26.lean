/- Parts. -/
import Derived.Test.YtcdgkkfipdoeeaaGreatDoorU25
set_option linter.all false
set_option maxRecDepth 100000
set_option maxHeartbeats 16000000
namespace Go.Proofs.YtcdgkkfipdoeeaaGreatDoor
open Go.RowKit LS Go.Proofs.Tryz
variable {a:Ah}{l:List Ah}{x y:List Nat}{c:List Value}{arg e0 e1 e2 e3 g i n0 n1 n2 n3 nb:Nat}{a0 a1 a2 a3:Option Addr}{v:Value}{w:World}
structure DoP (w:World) (nb:Nat) (a:Ah) (c:CodeQ) (op arg:Nat) (a0 a1 a2 a3:Option Addr) (n0 n1 n2 n3 e0 e1 e2 e3:Nat):Prop where
 st:StAt w nb a
 cv:CodeV w c (.slice a0 n0 e0) (.slice a1 n1 e1) (.slice a2 n2 e2) (.slice a3 n3 e3)
 rf:∃i,Zy c i (op,arg)=true
 ln:a.jz.length<=64
 sl:a.jy.length=16
 kd:∀k∈a.jz,k≠0
theorem do_0(w:World)(a:Ah)(c:CodeQ)(h:DoP w nb a c 0 arg a0 a1 a2 a3 n0 n1 n2 n3 e0 e1 e2 e3) :
  CP 142 #[Vp nb,.agg #[.slice a0 n0 e0,.slice a1 n1 e1,.slice a2 n2 e2,.slice a3 n3 e3],.agg #[Vi (0:Nat),Vi arg]] w fun e u=>∃ok,e=.returned (.bool ok)/\Hid (ZT w u nb a (Zt c (0,arg) a.jz a.jy) ok):=by
 have f:=hid h;have n:=h.st.lt;go_enter func142,ntmps142
 go_wp2_with fail
 refine Zm fun W m=>?_;have d:Below _ w W:=m▸Zbal.alloc (by simp) _;have g:=hid (f.st.below d);have i:Hid (w.grownBy W (some nb)):=hid (Zw d);refine(Zeb _ a 1 W g f.ln).mono ?_;rintro e o ⟨rfl,j,k⟩;have l:=hid (Zj i k);go_wp2;go_ret;exact⟨_,rfl,hid (ZT.put Dc rfl ⟨rfl,rfl⟩ j l)⟩
theorem do_2(w:World)(a:Ah)(c:CodeQ)(h:DoP w nb a c 2 arg a0 a1 a2 a3 n0 n1 n2 n3 e0 e1 e2 e3) :
  CP 142 #[Vp nb,.agg #[.slice a0 n0 e0,.slice a1 n1 e1,.slice a2 n2 e2,.slice a3 n3 e3],.agg #[Vi (2:Nat),Vi arg]] w fun e u=>∃ok,e=.returned (.bool ok)/\Hid (ZT w u nb a (Zt c (2,arg) a.jz a.jy) ok):=by
 have l:=hid h;have v:=h.st.lt;go_enter func142,ntmps142
 go_wp2_with fail
 refine Zm fun W t=>?_;have i:Below _ w W:=t▸Zbal.alloc (by simp) _;have n:=hid (l.st.below i);have o:Hid (w.grownBy W (some nb)):=hid (Zw i);refine(Zec _ a W n l.ln).mono ?_;rintro e A ⟨rfl,p,f⟩;have j:=hid (Zj o f);by_cases d:a.jz.headD 0=3
 ·have m:Hid (Zt c (2,arg) a.jz a.jy=ZE 2 { a with jz:=a.jz.tail }.jz { a with jz:=a.jz.tail }.jy):=by
   cases g:a.jz with
   | nil=>rw[g]at d;cases d
   | cons k r=>rw[g]at d;obtain rfl:=d;rfl
  rw[d]
  go_wp2_with fail
  refine(Zeb _ _ 2 _ p (by have:=l.ln;simp;omega)).mono ?_;rintro e z ⟨rfl,q,f⟩;have s:=hid (Zj j f);go_wp2;go_ret;exact⟨_,rfl,hid (ZT.put Dc m ⟨rfl,rfl⟩ q s)⟩
 ·have m:Hid (Zt c (2,arg) a.jz a.jy=none):=by
   cases g:a.jz with
   | nil=>rfl
   | cons k r=>rw[g]at d;exact if_neg d
  have x:(((a.jz.headD 0):Int) == 3)=false:=by rw[beq_eq_false_iff_ne];omega
  generalize a.jz.headD 0=k0 at *
  go_wp2;go_ret;exact⟨_,rfl,hid (ZT.no m j)⟩
theorem do_5(w:World)(a:Ah)(c:CodeQ)(h:DoP w nb a c 5 arg a0 a1 a2 a3 n0 n1 n2 n3 e0 e1 e2 e3) :
  CP 142 #[Vp nb,.agg #[.slice a0 n0 e0,.slice a1 n1 e1,.slice a2 n2 e2,.slice a3 n3 e3],.agg #[Vi (5:Nat),Vi arg]] w fun e u=>∃ok,e=.returned (.bool ok)/\Hid (ZT w u nb a (Zt c (5,arg) a.jz a.jy) ok):=by
 have l:=hid h;have v:=h.st.lt;go_enter func142,ntmps142
 go_wp2_with fail
 refine Zm fun W t=>?_;have i:Below _ w W:=t▸Zbal.alloc (by simp) _;have n:=hid (l.st.below i);have o:Hid (w.grownBy W (some nb)):=hid (Zw i);refine(Zec _ a W n l.ln).mono ?_;rintro e A ⟨rfl,p,f⟩;have j:=hid (Zj o f);by_cases d:a.jz.headD 0=2
 ·have m:Hid (Zt c (5,arg) a.jz a.jy=ZE 2 { a with jz:=a.jz.tail }.jz { a with jz:=a.jz.tail }.jy):=by
   cases g:a.jz with
   | nil=>rw[g]at d;cases d
   | cons k r=>rw[g]at d;obtain rfl:=d;rfl
  rw[d]
  go_wp2_with fail
  refine(Zeb _ _ 2 _ p (by have:=l.ln;simp;omega)).mono ?_;rintro e z ⟨rfl,q,f⟩;have s:=hid (Zj j f);go_wp2;go_ret;exact⟨_,rfl,hid (ZT.put Dc m ⟨rfl,rfl⟩ q s)⟩
 ·have m:Hid (Zt c (5,arg) a.jz a.jy=none):=by
   cases g:a.jz with
   | nil=>rfl
   | cons k r=>rw[g]at d;exact if_neg d
  have x:(((a.jz.headD 0):Int) == 2)=false:=by rw[beq_eq_false_iff_ne];omega
  generalize a.jz.headD 0=k0 at *
  go_wp2;go_ret;exact⟨_,rfl,hid (ZT.no m j)⟩
theorem do_6(w:World)(a:Ah)(c:CodeQ)(h:DoP w nb a c 6 arg a0 a1 a2 a3 n0 n1 n2 n3 e0 e1 e2 e3) :
  CP 142 #[Vp nb,.agg #[.slice a0 n0 e0,.slice a1 n1 e1,.slice a2 n2 e2,.slice a3 n3 e3],.agg #[Vi (6:Nat),Vi arg]] w fun e u=>∃ok,e=.returned (.bool ok)/\Hid (ZT w u nb a (Zt c (6,arg) a.jz a.jy) ok):=by
 have l:=hid h;have v:=h.st.lt;go_enter func142,ntmps142
 go_wp2_with fail
 refine Zm fun W t=>?_;have i:Below _ w W:=t▸Zbal.alloc (by simp) _;have n:=hid (l.st.below i);have o:Hid (w.grownBy W (some nb)):=hid (Zw i);refine(Zec _ a W n l.ln).mono ?_;rintro e A ⟨rfl,p,f⟩;have j:=hid (Zj o f);by_cases d:a.jz.headD 0=2
 ·have m:Hid (Zt c (6,arg) a.jz a.jy=ZE 2 { a with jz:=a.jz.tail }.jz { a with jz:=a.jz.tail }.jy):=by
   cases g:a.jz with
   | nil=>rw[g]at d;cases d
   | cons k r=>rw[g]at d;obtain rfl:=d;rfl
  rw[d]
  go_wp2_with fail
  refine(Zeb _ _ 2 _ p (by have:=l.ln;simp;omega)).mono ?_;rintro e z ⟨rfl,q,f⟩;have s:=hid (Zj j f);go_wp2;go_ret;exact⟨_,rfl,hid (ZT.put Dc m ⟨rfl,rfl⟩ q s)⟩
 ·have m:Hid (Zt c (6,arg) a.jz a.jy=none):=by
   cases g:a.jz with
   | nil=>rfl
   | cons k r=>rw[g]at d;exact if_neg d
  have x:(((a.jz.headD 0):Int) == 2)=false:=by rw[beq_eq_false_iff_ne];omega
  generalize a.jz.headD 0=k0 at *
  go_wp2;go_ret;exact⟨_,rfl,hid (ZT.no m j)⟩
theorem do_7(w:World)(a:Ah)(c:CodeQ)(h:DoP w nb a c 7 arg a0 a1 a2 a3 n0 n1 n2 n3 e0 e1 e2 e3) :
  CP 142 #[Vp nb,.agg #[.slice a0 n0 e0,.slice a1 n1 e1,.slice a2 n2 e2,.slice a3 n3 e3],.agg #[Vi (7:Nat),Vi arg]] w fun e u=>∃ok,e=.returned (.bool ok)/\Hid (ZT w u nb a (Zt c (7,arg) a.jz a.jy) ok):=by
 have l:=hid h;have v:=h.st.lt;go_enter func142,ntmps142
 go_wp2_with fail
 refine Zm fun W t=>?_;have i:Below _ w W:=t▸Zbal.alloc (by simp) _;have n:=hid (l.st.below i);have o:Hid (w.grownBy W (some nb)):=hid (Zw i);refine(Zec _ a W n l.ln).mono ?_;rintro e A ⟨rfl,p,f⟩;have j:=hid (Zj o f);by_cases d:a.jz.headD 0=2
 ·have m:Hid (Zt c (7,arg) a.jz a.jy=ZE 2 { a with jz:=a.jz.tail }.jz { a with jz:=a.jz.tail }.jy):=by
   cases g:a.jz with
   | nil=>rw[g]at d;cases d
   | cons k r=>rw[g]at d;obtain rfl:=d;rfl
  rw[d]
  go_wp2_with fail
  refine(Zeb _ _ 2 _ p (by have:=l.ln;simp;omega)).mono ?_;rintro e z ⟨rfl,q,f⟩;have s:=hid (Zj j f);go_wp2;go_ret;exact⟨_,rfl,hid (ZT.put Dc m ⟨rfl,rfl⟩ q s)⟩
 ·have m:Hid (Zt c (7,arg) a.jz a.jy=none):=by
   cases g:a.jz with
   | nil=>rfl
   | cons k r=>rw[g]at d;exact if_neg d
  have x:(((a.jz.headD 0):Int) == 2)=false:=by rw[beq_eq_false_iff_ne];omega
  generalize a.jz.headD 0=k0 at *
  go_wp2;go_ret;exact⟨_,rfl,hid (ZT.no m j)⟩
theorem do_8(w:World)(a:Ah)(c:CodeQ)(h:DoP w nb a c 8 arg a0 a1 a2 a3 n0 n1 n2 n3 e0 e1 e2 e3) :
  CP 142 #[Vp nb,.agg #[.slice a0 n0 e0,.slice a1 n1 e1,.slice a2 n2 e2,.slice a3 n3 e3],.agg #[Vi (8:Nat),Vi arg]] w fun e u=>∃ok,e=.returned (.bool ok)/\Hid (ZT w u nb a (Zt c (8,arg) a.jz a.jy) ok):=by
 have l:=hid h;have v:=h.st.lt;go_enter func142,ntmps142
 go_wp2_with fail
 refine Zm fun W t=>?_;have i:Below _ w W:=t▸Zbal.alloc (by simp) _;have n:=hid (l.st.below i);have o:Hid (w.grownBy W (some nb)):=hid (Zw i);refine(Zec _ a W n l.ln).mono ?_;rintro e A ⟨rfl,p,f⟩;have j:=hid (Zj o f);by_cases d:a.jz.headD 0=2
 ·have m:Hid (Zt c (8,arg) a.jz a.jy=ZE 2 { a with jz:=a.jz.tail }.jz { a with jz:=a.jz.tail }.jy):=by
   cases g:a.jz with
   | nil=>rw[g]at d;cases d
   | cons k r=>rw[g]at d;obtain rfl:=d;rfl
  rw[d]
  go_wp2_with fail
  refine(Zeb _ _ 2 _ p (by have:=l.ln;simp;omega)).mono ?_;rintro e z ⟨rfl,q,f⟩;have s:=hid (Zj j f);go_wp2;go_ret;exact⟨_,rfl,hid (ZT.put Dc m ⟨rfl,rfl⟩ q s)⟩
 ·have m:Hid (Zt c (8,arg) a.jz a.jy=none):=by
   cases g:a.jz with
   | nil=>rfl
   | cons k r=>rw[g]at d;exact if_neg d
  have x:(((a.jz.headD 0):Int) == 2)=false:=by rw[beq_eq_false_iff_ne];omega
  generalize a.jz.headD 0=k0 at *
  go_wp2;go_ret;exact⟨_,rfl,hid (ZT.no m j)⟩
theorem Zvy(w:World)(a:Ah)(c:CodeQ)(h:DoP w nb a c 10 arg a0 a1 a2 a3 n0 n1 n2 n3 e0 e1 e2 e3) :
  CP 142 #[Vp nb,.agg #[.slice a0 n0 e0,.slice a1 n1 e1,.slice a2 n2 e2,.slice a3 n3 e3],.agg #[Vi (10:Nat),Vi arg]] w fun e u=>∃ok,e=.returned (.bool ok)/\Hid (ZT w u nb a (Zt c (10,arg) a.jz a.jy) ok):=by
 have l:=hid h;have v:=h.st.lt;go_enter func142,ntmps142
 go_wp2_with fail
 refine Zm fun W t=>?_;have i:Below _ w W:=t▸Zbal.alloc (by simp) _;have n:=hid (l.st.below i);have o:Hid (w.grownBy W (some nb)):=hid (Zw i);refine(Zec _ a W n l.ln).mono ?_;rintro e A ⟨rfl,p,f⟩;have j:=hid (Zj o f);by_cases d:a.jz.headD 0=2
 ·have m:Hid (Zt c (10,arg) a.jz a.jy=ZE 2 { a with jz:=a.jz.tail }.jz { a with jz:=a.jz.tail }.jy):=by
   cases g:a.jz with
   | nil=>rw[g]at d;cases d
   | cons k r=>rw[g]at d;obtain rfl:=d;rfl
  rw[d]
  go_wp2_with fail
  refine(Zeb _ _ 2 _ p (by have:=l.ln;simp;omega)).mono ?_;rintro e z ⟨rfl,q,f⟩;have s:=hid (Zj j f);go_wp2;go_ret;exact⟨_,rfl,hid (ZT.put Dc m ⟨rfl,rfl⟩ q s)⟩
 ·have m:Hid (Zt c (10,arg) a.jz a.jy=none):=by
   cases g:a.jz with
   | nil=>rfl
   | cons k r=>rw[g]at d;exact if_neg d
  have x:(((a.jz.headD 0):Int) == 2)=false:=by rw[beq_eq_false_iff_ne];omega
  generalize a.jz.headD 0=k0 at *
  go_wp2;go_ret;exact⟨_,rfl,hid (ZT.no m j)⟩
theorem do_4(w:World)(a:Ah)(c:CodeQ)(h:DoP w nb a c 4 arg a0 a1 a2 a3 n0 n1 n2 n3 e0 e1 e2 e3) :
  CP 142 #[Vp nb,.agg #[.slice a0 n0 e0,.slice a1 n1 e1,.slice a2 n2 e2,.slice a3 n3 e3],.agg #[Vi (4:Nat),Vi arg]] w fun e u=>∃ok,e=.returned (.bool ok)/\Hid (ZT w u nb a (Zt c (4,arg) a.jz a.jy) ok):=by
 have n:=hid h;have D:=h.st.lt;go_enter func142,ntmps142
 go_wp2_with fail
 refine Zm fun W C=>?_;have l:Below _ w W:=C▸Zbal.alloc (by simp) _;have p:=hid (n.st.below l);have q:Hid (w.grownBy W (some nb)):=hid (Zw l);refine(Zec _ a W p n.ln).mono ?_;rintro e E ⟨rfl,s,f⟩;have m:=hid (Zj q f);cases d:Zby (a.jz.headD 0)with
 | true=>
  have o:Hid (Zt c (4,arg) a.jz a.jy=ZE (a.jz.headD 0) { a with jz:=a.jz.tail }.jz { a with jz:=a.jz.tail }.jy):=by
   cases j:a.jz with
   | nil=>rw[j]at d;cases d
   | cons k r=>rw[j]at d;exact if_pos d
  have t:a.jz.headD 0≠0:=by intro e;rw[e]at d;cases d
  have v:=hid t;have g:=hid (fun i=>by have:=Zfo (a.jz.headD 0) i;rwa [d]at this);have x:=hid (fun i h=>Zeb nb { a with jz:=a.jz.tail } (a.jz.headD 0) i h (by have:=n.ln;simp;omega));generalize a.jz.headD 0=k0 at *
  go_wp2_with (go_at_call 188;refine cret (g.out _) ?_)
  refine(x _ s).mono ?_;rintro e z ⟨rfl,A,f⟩;have B:=hid (Zj m f);go_wp2;go_ret;exact⟨_,rfl,hid (ZT.put v o ⟨rfl,rfl⟩ A B)⟩
 | false=>
  have o:Hid (Zt c (4,arg) a.jz a.jy=none):=by
   cases j:a.jz with
   | nil=>rfl
   | cons k r=>rw[j]at d;exact if_neg (by show ¬Zby k=true;rw[show Zby k=false from d];simp)
  have g:=hid (fun i=>by have:=Zfo (a.jz.headD 0) i;rwa [d]at this);generalize a.jz.headD 0=k0 at *
  go_wp2_with (go_at_call 188;refine cret (g.out _) ?_)
  go_ret;exact⟨_,rfl,hid (ZT.no o m)⟩
theorem do_9(w:World)(a:Ah)(c:CodeQ)(h:DoP w nb a c 9 arg a0 a1 a2 a3 n0 n1 n2 n3 e0 e1 e2 e3) :
  CP 142 #[Vp nb,.agg #[.slice a0 n0 e0,.slice a1 n1 e1,.slice a2 n2 e2,.slice a3 n3 e3],.agg #[Vi (9:Nat),Vi arg]] w fun e u=>∃ok,e=.returned (.bool ok)/\Hid (ZT w u nb a (Zt c (9,arg) a.jz a.jy) ok):=by
 have d:=hid h;have g:=h.st.lt;go_enter func142,ntmps142;have f:Hid (∀o1 o2,StAt ((w.alloc o1).alloc o2) _ a):=hid (fun o1 o2=>d.st.below (Zbal.alloc (by simp) _));go_wp2;go_ret;exact⟨_,rfl,hid ⟨rfl,fun st sl e=>by injection e with e;cases e;exact f _ _,ZbR (ZbR (ZbM _ _) _) _⟩⟩
theorem Zvz(w:World)(a:Ah)(c:CodeQ)(h:DoP w nb a c 11 arg a0 a1 a2 a3 n0 n1 n2 n3 e0 e1 e2 e3) :
  CP 142 #[Vp nb,.agg #[.slice a0 n0 e0,.slice a1 n1 e1,.slice a2 n2 e2,.slice a3 n3 e3],.agg #[Vi (11:Nat),Vi arg]] w fun e u=>∃ok,e=.returned (.bool ok)/\Hid (ZT w u nb a (Zt c (11,arg) a.jz a.jy) ok):=by
 have g:=hid h;have s:=h.st.lt;go_enter func142,ntmps142
 go_wp2_with fail
 refine Zm fun W o=>?_;have d:Below _ w W:=o▸Zbal.alloc (by simp) _;have i:=hid (g.st.below d);have j:Hid (w.grownBy W (some nb)):=hid (Zw d);refine(Zec _ a W i g.ln).mono ?_;rintro e p ⟨rfl,l,m⟩;have f:=hid (Zj j m)
 have t:Hid (ZT w p nb a (Zt c (11,arg) a.jz a.jy) (decide (a.jz.headD 0≠0))):=by
  cases n:a.jz with
  | nil=>exact ZT.no rfl f
  | cons k r=>
   have q:=g.kd k (by rw[n];simp);refine⟨by show decide (k≠0)=true;simp[q],fun st sl e=>?_,f⟩;injection e with e;cases e;have:=l.out;rw[n]at this;exact this
 generalize a.jz.headD 0=k0 at *
 go_wp2;go_ret;exact⟨_,rfl,hid (by rwa [show(((k0:Nat):Int) != 0)=decide (k0≠0) from by rw[Ybh,bne_iff_ne,decide_eq_true_iff];omega])⟩
theorem do_1(w:World)(a:Ah)(c:CodeQ)(h:DoP w nb a c 1 arg a0 a1 a2 a3 n0 n1 n2 n3 e0 e1 e2 e3) :
  CP 142 #[Vp nb,.agg #[.slice a0 n0 e0,.slice a1 n1 e1,.slice a2 n2 e2,.slice a3 n3 e3],.agg #[Vi (1:Nat),Vi arg]] w fun e u=>∃ok,e=.returned (.bool ok)/\Hid (ZT w u nb a (Zt c (1,arg) a.jz a.jy) ok):=by
 have l:=hid h;have J:=h.st.lt;clear h;obtain⟨i,m⟩:=l.rf;obtain⟨xs,d,f,r⟩:=l.cv.ps;have q:arg<c.ju.length:=by simpa [Zy] using m
 have s:xs.length=c.ju.length:=by rw[<-f,Yak]
 have t:n1=xs.length:=by
  obtain⟨av,cp,e⟩:=Zl d;injection e
 subst t;obtain⟨g,cp,H⟩:=ZF d Om;injection H with hg1 hg2 hg3;subst hg1;have o:arg<xs.length:=by omega
 obtain⟨g0,g1,g2⟩:=ZoU _ _ o;have x0:=Zi d _ _ g0;have x1:=Zi d _ _ g1;have x2:=Zi d _ _ g2;have K:=Z1 d
 have I:Hid (Zt c (1,arg) a.jz a.jy=ZE (Zb3 (xs[arg].nd,xs[arg].n)) a.jz a.jy):=by
  show ZE ((c.ju[arg]?.map Zb3).getD 0) _ _=_;rw[<-f,Ya2,List.getElem?_eq_getElem o];rfl
 generalize xs[arg]=x at *
 have v:Hid (Zb3 (x.nd,x.n)≠0):=hid (by unfold Zb3;split <;> decide);have L:(arg:Int)<xs.length:=by omega
 clear m d f r g0 g1 g2 s q hg2 hg3;go_enter func142,ntmps142
 go_wp2_with fail
 refine Zm fun W A=>?_;have j:Below _ w W:=A▸Zbal.alloc (by simp) _;have B:=hid (l.st.below j);have C:Hid (w.grownBy W (some nb)):=hid (Zw j);clear A j x0 x1 x2;refine(Zxw x.nd W).mono ?_;rintro e M ⟨rfl,k⟩;have D:=hid (B.below k);have E:=hid (ZeT C k);clear k;generalize Zb3 (x.nd,x.n)=kk at *
 go_wp2_with fail
 refine(Zeb _ a _ _ D l.ln).mono ?_;rintro e z ⟨rfl,F,p⟩;have G:=hid (Zj E p);clear p;go_wp2;go_ret;exact⟨_,rfl,hid (ZT.put v I ⟨rfl,rfl⟩ F G)⟩
theorem do_3(w:World)(a:Ah)(c:CodeQ)(h:DoP w nb a c 3 arg a0 a1 a2 a3 n0 n1 n2 n3 e0 e1 e2 e3) :
  CP 142 #[Vp nb,.agg #[.slice a0 n0 e0,.slice a1 n1 e1,.slice a2 n2 e2,.slice a3 n3 e3],.agg #[Vi (3:Nat),Vi arg]] w fun e u=>∃ok,e=.returned (.bool ok)/\Hid (ZT w u nb a (Zt c (3,arg) a.jz a.jy) ok):=by
 have E:=hid h;have V:=h.st.lt;clear h;go_enter func142,ntmps142
 go_wp2_with fail
 refine Zm fun W L=>?_;have q:Below _ w W:=L▸Zbal.alloc (by simp) _;have M:=hid (E.st.below q);have N:Hid (w.grownBy W (some nb)):=hid (Zw q);clear L q;obtain⟨y,f⟩:∃y,y=a.jz.headD 0:=⟨_,rfl⟩
 obtain⟨x,g⟩:∃x,x=a.jz.tail.headD 0:=⟨_,rfl⟩
 have l:=Zec _ a W M E.ln;rw[<-f]at l;refine l.mono ?_;clear l;rintro e X ⟨rfl,H,i⟩;have O:=hid (Zj N i);have P:=hid f;have I:=hid g;clear i f g
 go_wp2_with fail
 have g:=I.out;have f:=P.out;have l:=Zec _ _ _ H (by have:=E.ln;simp;omega);rw[g.symm]at l;refine l.mono ?_;clear l;rintro e z ⟨rfl,s,i⟩;have t:=hid (Zj O i);clear i;have Q:Hid (StAt _ _ { a with jz:=a.jz.tail.tail }):=hid s
 have v : Hid ((Zby x && Zby y) = false -> Zt c (3, arg) a.jz a.jy = none) := hid (fun R => by
   cases A:a.jz with
   | nil=>rfl
   | cons k r=>
     cases F:r with
     | nil=>rfl
     | cons k2 r2=>
       rw[A,F]at g f;have g:x=k2:=g;have f:y=k:=f;rw[g,f]at R;show(if (Zby k2 && Zby k)=true then _ else none)=none;rw[R];rfl)
 have B : Hid (Zby x = true -> Zby y = true -> Zt c (3, arg) a.jz a.jy = ZE (max x y) { a with jz := a.jz.tail.tail }.jz { a with jz := a.jz.tail.tail }.jy) := hid (fun o p => by
   cases A:a.jz with
   | nil=>rw[A]at f;rw[f]at p;cases p
   | cons k r=>
     cases F:r with
     | nil=>rw[A,F]at g;rw[g]at o;cases o
     | cons k2 r2=>
       rw[A,F]at g f;have g:x=k2:=g;have f:y=k:=f;rw[g]at o ⊢;rw[f]at p ⊢;show(if (Zby k2 && Zby k)=true then _ else none)=_;rw[o,p];rfl)
 clear g f H s I P;cases d:Zby x with
 | false=>
  have C:=hid (v (by rw[d];rfl));have n:=hid (fun m=>by have:=Zfo x m;rwa [d]at this);clear d
  go_wp2_with (go_at_call 188;refine(n.out _).mono ?_;rintro e G ⟨rfl,rfl⟩)
  go_ret;exact⟨_,rfl,hid (ZT.no C t)⟩
 | true=>
  cases j:Zby y with
  | false=>
   have C:=hid (v (by rw[d,j];rfl));have n:=hid (fun m=>by have:=Zfo x m;rwa [d]at this);have D:=hid (fun m=>by have:=Zfo y m;rwa [j]at this);clear d j
   go_wp2_with fail
   refine(n _).mono ?_;rintro e G ⟨rfl,rfl⟩
   go_wp2_with fail
   refine(D _).mono ?_;rintro e G ⟨rfl,rfl⟩;go_wp2;go_ret;exact⟨_,rfl,hid (ZT.no C t)⟩
  | true=>
   have C:=hid (B d j);have n:=hid (fun m=>by have:=Zfo x m;rwa [d]at this);have D:=hid (fun m=>by have:=Zfo y m;rwa [j]at this);have J:x=1∨x=2:=by unfold Zby at d;simpa using d
   have K:y=1∨y=2:=by unfold Zby at j;simpa using j
   have S:Hid (max x y≠0):=hid Om;clear d j v B
   go_wp2_with fail
   refine(n _).mono ?_;rintro e G ⟨rfl,rfl⟩
   go_wp2_with fail
   refine(D _).mono ?_;rintro e G ⟨rfl,rfl⟩;rcases J with rfl|rfl <;> rcases K with rfl|rfl
   all_goals
    go_wp2_with fail
    refine(Zeb _ _ _ _ Q (by have:=E.ln;simp;omega)).mono ?_;rintro e Y ⟨rfl,T,i⟩;have U:=hid (Zj t i);clear i;go_wp2;go_ret;exact⟨_,rfl,hid (ZT.put S C ⟨rfl,rfl⟩ T U)⟩
theorem ZvB(w:World)(a:Ah)(c:CodeQ)(h:DoP w nb a c 13 arg a0 a1 a2 a3 n0 n1 n2 n3 e0 e1 e2 e3) :
  CP 142 #[Vp nb,.agg #[.slice a0 n0 e0,.slice a1 n1 e1,.slice a2 n2 e2,.slice a3 n3 e3],.agg #[Vi (13:Nat),Vi arg]] w fun e u=>∃ok,e=.returned (.bool ok)/\Hid (ZT w u nb a (Zt c (13,arg) a.jz a.jy) ok):=by
 have q:=hid h;have C:=h.st.lt;obtain⟨i,f⟩:=h.rf;have m:arg<16:=by simpa [Zy] using f
 have D:(arg:Int)<16:=by omega
 clear h f;go_enter func142,ntmps142
 go_upto_region 26 with fail
 refine ZP fun W n=>?_;have d:Below _ w W:=n▸Zbal.alloc (by simp) _;have g:=hid (q.st.below d);have r:Hid (w.grownBy W (some nb)):=hid (Zw d)
 have s:Hid (BAt W (w.heap.size+1) [Vi (13:Nat),Vi arg] 159):=by
  rw[n];have:=Go.Deep.blk_alloc_new (w.alloc (.cells #[.slice a0 n0 e0,.slice a1 n1 e1,.slice a2 n2 e2,.slice a3 n3 e3] 59)) (.cells #[Vi (13:Nat),Vi arg] 159);rwa [Go.Deep.nblk_alloc]at this
 clear n d;have o1:=s.cell;have s1:=StAt.slot g _ m;obtain⟨k,o⟩:∃k,k=a.jy.getD arg 0:=⟨_,rfl⟩
 rw[<-o]at s1;have t:=hid o;have v:=hid (fun A h=>Zeb nb a k A h q.ln);have x:Hid (StAt _ _ a):=hid (g.below ((Yaf _ _).drew));clear o
 go_region_with (first
   | (go_at_call 185
      refine(v.out _ x.out).mono ?_;rintro e B ⟨rfl,z,j⟩;have l:Hid (w.grownBy B (some nb)):=hid (Zj (Zdi r.out) j);clear j))
 all_goals
  go_wp2;go_ret;refine⟨_,rfl,hid ?_⟩;by_cases p:k=0
  ·subst p;rw[ZA0];refine ZT.no ?_ l;show(if a.jy.getD arg 0=0 then none else _)=none;rw[<-t];rfl
  ·refine ZT.put p ?_ ⟨rfl,rfl⟩ z l;show(if a.jy.getD arg 0=0 then none else ZE (a.jy.getD arg 0) a.jz a.jy)=_;rw[<-t,if_neg p]
theorem ZvA(w:World)(a:Ah)(c:CodeQ)(h:DoP w nb a c 12 arg a0 a1 a2 a3 n0 n1 n2 n3 e0 e1 e2 e3) :
  CP 142 #[Vp nb,.agg #[.slice a0 n0 e0,.slice a1 n1 e1,.slice a2 n2 e2,.slice a3 n3 e3],.agg #[Vi (12:Nat),Vi arg]] w fun e u=>∃ok,e=.returned (.bool ok)/\Hid (ZT w u nb a (Zt c (12,arg) a.jz a.jy) ok):=by
 have p:=hid h;have M:=h.st.lt;obtain⟨i,q⟩:=h.rf;have l:arg<16:=by simpa [Zy] using q
 have N:(arg:Int)<16:=by omega
 clear h q;go_enter func142,ntmps142
 go_upto_region 23 with fail
 refine ZP fun W z=>?_;have m:Below _ w W:=z▸Zbal.alloc (by simp) _;have B:=hid (p.st.below m);have C:Hid (w.grownBy W (some nb)):=hid (Zw m)
 have n:Hid (BAt W (w.heap.size+1) [Vi (12:Nat),Vi arg] 159):=by
  rw[z];have:=Go.Deep.blk_alloc_new (w.alloc (.cells #[.slice a0 n0 e0,.slice a1 n1 e1,.slice a2 n2 e2,.slice a3 n3 e3] 59)) (.cells #[Vi (12:Nat),Vi arg] 159);rwa [Go.Deep.nblk_alloc]at this
 clear z m;have o1:=n.cell;obtain⟨y,d⟩:∃y,y=a.jz.headD 0:=⟨_,rfl⟩
 have I:=hid d;have s:Hid (∀f,StAt f _ a->Calls _ _ _ _ fun e u=>e=.returned _/\Hid _/\f.grownBy _ _):=hid (fun f h=>d▸Zec nb a f h p.ln);have t:Hid (StAt _ _ a):=hid (B.below ((Yaf _ _).drew));clear d;have O:¬nb=w.heap.size+1:=by omega
 have J:¬w.heap.size+1=nb:=by omega
 go_region_with (first
   | (go_at_call 187
      refine(s.out _ t.out).mono ?_;rintro e D ⟨rfl,g,o⟩;have E:Hid (w.grownBy D (some nb)):=hid (Zj (Zdi C.out) o);have v:=hid ((n.below ((Yaf _ _).drew)).grown o (by intro e;injection e with e;omega));have p1:=v.cell;have s5:=StAt.slot g.out arg l;have fz5:=g.frozen (67+arg);clear o))
 all_goals
  have F : Hid (∀ f : World, (∀ j, f.heap[j]? = (D.setCell _ _).heap[j]?) -> w.grownBy f _ -> ZT w f nb a (Zt c (12, arg) a.jz _) (((y) : Int) != 0)) := hid (fun f K G => by
    have x:StAt _ _ { a with jz:=a.jz.tail,jy:=a.jy.set _ y }:=(K _).trans (by
      have H:=g.setk (67+arg) (.int .u8 (y));rw[Znj { a with jz:=a.jz.tail } _ y l p.sl]at H;exact H)
    rw[show(((y):Int) != 0)=decide (y≠0) from by rw[Ybh,bne_iff_ne,decide_eq_true_iff];omega];have d:=I.out;cases A:a.jz with
    | nil=>rw[A]at d;subst d;exact ZT.no rfl G
    | cons k r=>
      rw[A]at d x;have d:y=k:=d;subst d;have L:=p.kd y (by rw[A];simp);refine⟨by show decide (y≠0)=true;simp[L],fun st sl e=>?_,G⟩;injection e with e;injection e with e1 e2;subst e1;subst e2;exact x)
  clear s t n v g;go_wp2
  go_region
  all_goals
   go_wp2;go_ret;exact⟨_,rfl,hid (F _ (fun _=>rfl) (Zdi (ZA E (.inl rfl) _)))⟩
theorem ZBV(w:World)(a:Ah)(c:CodeQ){op:Nat}(n3:Nat)(h:DoP w nb a c op arg a0 a1 a2 a3 n0 n1 n2 n3 e0 e1 e2 e3)(d:op<=13) :
  CP 142 #[Vp nb,.agg #[.slice a0 n0 e0,.slice a1 n1 e1,.slice a2 n2 e2,.slice a3 n3 e3],.agg #[Vi op,Vi arg]] w fun e u=>∃ok,e=.returned (.bool ok)/\Hid (ZT w u nb a (Zt c (op,arg) a.jz a.jy) ok):=by
 rcases(by omega:op=0∨op=1∨op=2∨op=3∨op=4∨op=5∨op=6∨op=7∨op=8∨op=9∨op=10∨op=11∨op=12∨op=13)with rfl|rfl|rfl|rfl|rfl|rfl|rfl|rfl|rfl|rfl|rfl|rfl|rfl|rfl
 ·exact do_0 w a c h
 ·exact do_1 w a c h
 ·exact do_2 w a c h
 ·exact do_3 w a c h
 ·exact do_4 w a c h
 ·exact do_5 w a c h
 ·exact do_6 w a c h
 ·exact do_7 w a c h
 ·exact do_8 w a c h
 ·exact do_9 w a c h
 ·exact Zvy w a c h
 ·exact Zvz w a c h
 ·exact ZvA w a c h
 ·exact ZvB w a c h
def stCs(l:List Ah):List Value:=(List.range (83*l.length)).map fun t=>Zck (l.getD (t / 83) ah0) (t % 83)
theorem Zhe(l:List Ah):(stCs l).length=83*l.length:=by simp[stCs]
theorem Ziz(l:List Ah)(i j:Nat)(a:i<l.length)(c:j<83):(stCs l)[i*83+j]?=some (Zck (l.getD i ah0) j):=by
 unfold stCs;rw[Ya2,List.getElem?_range Om];simp only[Ybf];rw[show(i*83+j) / 83=i by omega,show(i*83+j) % 83=j by omega]
theorem Znk(l:List Ah)(t:Nat)(a:t<83*l.length):(stCs l)[t]?=some (Zck (l.getD (t / 83) ah0) (t % 83)):=by
 unfold stCs
 simp_all
theorem Zf3(l:List Ah)(i:Nat)(c:i<l.length):(l.set i a).getD i ah0=a:=by
 simp_all
theorem getD_set_ne(l:List Ah)(i j:Nat)(a:Ah)(h:i≠j):(l.set i a).getD j ah0=l.getD j ah0:=by
 simp_all
theorem Znl(d:c.length=83*l.length)(h:∀t,t<83*l.length->c[t]?=some (Zck (l.getD (t / 83) ah0) (t % 83))):c=stCs l:=by
 apply Ycs;intro t;by_cases a:t<83*l.length
 ·rw[h t a,Znk l t a]
 ·rw[Ya9 Om,Ya9 (by rw[Zhe];omega)]
theorem Zkf{j:Nat}{a2:Ah}(a:i<l.length)(f:j<83)(h:(stC (l.getD i ah0)).set j v=stC a2):(stCs l).set (i*83+j) v=stCs (l.set i a2):=by
 refine Znl (by simp[Zhe]) (fun t c=>?_);rw[Yat]at c;have d:∀k,k<83->((stC _).set j v)[k]?=some _:=fun k g=>by rw[h,ZcA _ k g]
 rw[Ya0];by_cases e:i*83+j=t
 ·subst e;rw[if_pos rfl,if_pos (by rwa [Zhe]),show(i*83+j) / 83=i by omega,show(i*83+j) % 83=j by omega,Zf3 l i a];have:=d j f;rw[List.getElem?_set_self (by assumption)]at this;omega
 ·rw[if_neg e,Znk l t c];by_cases ei:i=t / 83
  ·rw[<-ei,Zf3 l i a];have:=d (t % 83) Om;rw[List.getElem?_set_ne Om,ZcA _ _ Om]at this;omega
  simp_all
def ZfD:List Value->Nat->List Value->List Value
 | c,_,[]=>c
 | c,o,v::r=>ZfD (c.set o v) (o+1) r
theorem Zsh(vs:List Value):∀(c:List Value) (o t:Nat),o+vs.length<=c.length->(ZfD c o vs)[t]?=if o<=t/\t<o+vs.length then vs[t - o]? else c[t]?:=by
 induction vs with
 | nil=>intro c o t h;rw[if_neg (by simp)];rfl
 | cons v r ih=>
  intro c o t h;rw[Yaj]at h;show(ZfD (c.set o v) (o+1) r)[t]?=_;rw[ih _ _ _ (by simp_all;omega)];by_cases a:o+1<=t/\t<o+1+r.length
  ·rw[if_pos a,if_pos (by simp_all;omega),show t - o=(t - (o+1))+1 by omega,Ye8]
  ·rw[if_neg a,Ya0];by_cases d:o=t
   ·simp_all;omega
   simp_all;omega
theorem Zsi(vs:List Value):∀(c:List Value) (o:Nat),(ZfD c o vs).length=c.length:=by
 induction vs with
 | nil=>intro c o;rfl
 | cons v r ih=>intro c o;show(ZfD (c.set o v) (o+1) r).length=_;simp_all
theorem ZCH{a2:Ah}(c:i<l.length):ZfD (stCs l) (i*83) (stC a2)=stCs (l.set i a2):=by
 refine Znl (by rw[Zsi];simp[Zhe]) (fun t a=>?_);rw[Yat]at a;rw[Zsh _ _ _ _ (by rw[ZbE,Zhe];omega),ZbE];by_cases e:i*83<=t/\t<i*83+83
 ·rw[if_pos e,show t / 83=i by omega,Zf3 l i c,ZcA _ _ Om,show t - i*83=t % 83 by omega]
 ·rw[if_neg e,Znk l t a,getD_set_ne l i _ _ Om]
theorem BAt.setCells{t:TypeId} : ∀(vs:List Value) {w:World} {c:List Value} (o:Nat),BAt w g c t->BAt (w.setCells g o vs) g (ZfD c o vs) t
 | [],_,_,_,h=>h
 | v :: r, w, c, o, h => by
   rw[World.setCells];exact BAt.setCells r _ (h.setk o v)
theorem ZpN : ∀(vs:List Value) {w0 w:World} (o:Nat),w0.grownBy w (some g)->w0.grownBy (w.setCells g o vs) (some g)
 | [],_,_,_,h=>h
 | v :: r, w0, w, o, h => by
   rw[World.setCells];exact ZpN r _ (ZA h (.inl rfl) _)
theorem BAt.range    {t : TypeId} (h : BAt w g c t) (o : Nat) (cs : List Value) (d : ∀ j, j < cs.length -> c[o + j]? = cs[j]?) : w.rangeAt g o cs := fun j v a => by
  have e:=(Ycm.1 a).1;rw[h.cell _,d j e,a]
theorem BAt.there    {t : TypeId} (h : BAt w g c t) (o n : Nat) (a : o + n <= c.length) : w.there g o n := fun j d => by
  refine⟨?_,h.frozen _⟩;rw[h.cell _,List.getElem?_eq_getElem Om];rfl
def stkC(a:Ah):List Value:=(List.range 64).map fun j=>.int .u8 ((a.jz.reverse.getD j 0:Nat):Int)
theorem Zhg(a:Ah):(stkC a).length=64:=by rfl
theorem Zkh(a:Ah)(j:Nat)(c:j<64):(stkC a)[j]?=some (.int .u8 ((a.jz.reverse.getD j 0:Nat):Int)):=by
 unfold stkC;simp_all
theorem ZCI(c:x.length<=64)(d:y.length<=64)(kx:∀k∈x,k≠0)(ky:∀k∈y,k≠0)(h:∀j,j<64->x.getD j 0=y.getD j 0):x=y:=by
 have a : ∀ (x y : List _), x.length <= 64 -> y.length <= 64 -> (∀ k ∈ y, k ≠ 0) -> (∀ j, j < 64 -> x.getD j 0 = y.getD j 0) -> ¬ x.length < y.length := fun x y c d ky h e => by
   have:=h x.length Om;rw[Yaa,Ya9 (Yac _),Yaa,List.getElem?_eq_getElem e]at this;exact ky _ (List.getElem_mem _) this.symm
 have f:x.length=y.length:=by
  have g:=a x y c d ky h;have i:=a y x d c kx (fun j l=>(h j l).symm);omega
 refine List.ext_getElem f (fun j g i=>?_);have:=h j Om
 simp_all
theorem ZCQ{b:Ah}(d:a.jz.length<=64)(e:b.jz.length<=64)(kx:∀k∈a.jz,k≠0)(ky:∀k∈b.jz,k≠0):(∀j,j<64->a.jz.reverse.getD j 0=b.jz.reverse.getD j 0) ↔ a.jz=b.jz:=by
 constructor
 ·intro h;have:=ZCI (by simp_all) (by simp_all) (fun k c=>kx k (by simp_all)) (fun k c=>ky k (by simp_all)) h
  simp_all
 simp_all
theorem ZrX{X:Array Value}(i:Nat)(a:X[i]?=some v)(w:World):(part 258 X (i*1)).run prog w=.ok v w:=by
 have c:prog.underlying 258=some _:=underlying258;unfold part
 simp_all
theorem ZrW (a b : Ah) (d : Nat) (w : World) : ∀ is : List Nat, (∀ i ∈ is, i < 64) -> (Op.eqItems (d + 1) 258 1 (stkC a).toArray (stkC b).toArray is).run prog w = .ok (is.all fun i => a.jz.reverse.getD i 0 == b.jz.reverse.getD i 0) w
  | [],_=>rfl
  | i :: is, h => by
    have c:=h i (by simp);have ih:=ZrW a b d w is (fun j f=>h j (by simp[f]));have g:prog.underlying 258=some _:=underlying258;simp only[Op.eqItems,Ye5];rw[ZrX i (Yd7▸Zkh a i c)];simp only[Ydz];rw[ZrX i (Yd7▸Zkh b i c)];simp only[Ydz];rw[run_equalIn_int w d _ _ _ _ _ g];simp only[Ydz,List.all_cons];by_cases e:a.jz.reverse.getD i 0=b.jz.reverse.getD i 0
    · simp_all
    · have e1:((((a.jz.reverse.getD i 0))) == (((b.jz.reverse.getD i 0):Int)))=false:=by rw[beq_eq_false_iff_ne];omega
      simp_all
structure AhOk (a:Ah):Prop where
 ln:a.jz.length<=64
 kd:∀k∈a.jz,k≠0
 sl:a.jy.length=16
theorem Tryz.infoSt:(Tryz.prog.info? 262).map (·.size)=some 83:=by kernel_rfl
theorem Tryz.infoSk:(Tryz.prog.info? 259).map (·.size)=some 64:=by kernel_rfl
theorem Tryz.infoKd:(Tryz.prog.info? 258).isSome=true:=by kernel_rfl
theorem ZCE(a:Ah):(stC a).set 1 (.bool true)=stC { a with qz:=true }:=by
 refine Ziy (by simp[ZbE]) (fun i f=>?_);rw[Ya0];by_cases d:1=i
 ·subst d;rw[if_pos rfl,if_pos (by simp[ZbE])];rfl
 ·have c:¬i=1:=fun e=>d e.symm;rw[if_neg d,ZcA a i f];unfold Zck;rw[if_neg c,if_neg c]
def Zbq(x y:List Nat)(k:Nat):List Nat:=(both x y).take k++x.drop k
theorem ZgG(a:x.length=16)(c:y.length=16):(both x y).length=16:=by simp[both,a,c]
theorem ZjK(a:x.length=16)(c:y.length=16)(k:Nat)(d:k<=16):(Zbq x y k).length=16:=by
 unfold Zbq;rw[Yab,Ya7,Ybv,ZgG a c,a];omega
theorem Zq3(x y:List Nat):Zbq x y 0=x:=by simp[Zbq]
theorem ZqZ(a:x.length=16)(c:y.length=16):Zbq x y 16=both x y:=by
 unfold Zbq;rw[Ya5 (ZgG a c▸Yac _),Yb8 Om,Yca]
theorem Zmj(a:x.length=16)(c:y.length=16)(k:Nat)(d:k<16):(Zbq x y k).getD k 0=x.getD k 0:=by
 unfold Zbq;rw[Yaa,Yb3 (by rw[Ya7,ZgG a c];omega),Ya7,ZgG a c,List.getElem?_drop,Yaa]
 congr 2;omega
theorem Zq2(a:x.length=16)(c:y.length=16)(k:Nat)(f:k<16):Zbq x y (k+1)=(Zbq x y k).set k (if x.getD k 0=y.getD k 0 then x.getD k 0 else 0):=by
 have d:=ZgG a c
 have e : (both x y)[k]' Om = if x.getD k 0 = y.getD k 0 then x.getD k 0 else 0 := by
   unfold both;rw[List.getElem_zipWith];simp[Yaa,List.getElem?_eq_getElem (show k<x.length by omega),List.getElem?_eq_getElem (show k<y.length by omega)]
 unfold Zbq;rw[List.take_succ_eq_append_getElem Om,e,Yd5 _ _ (by rw[Ya7];omega),Ya7,d,show k - min k _=0 by omega,Yan]
 congr 1
 rw[List.drop_eq_getElem_cons (show k<x.length by omega)];rfl
theorem Zq1(a:x.length=16)(c:y.length=16)(k:Nat)(d:k<16)(h:x.getD k 0=y.getD k 0):Zbq x y (k+1)=Zbq x y k:=by
 rw[Zq2 a c k d,if_pos h,<-Zmj a c k d];apply Ycs;intro j;rw[Ya0];by_cases e:k=j
 ·subst e;rw[if_pos rfl,if_pos (ZjK a c k Om▸d),Yaa,List.getElem?_eq_getElem (by rwa [ZjK a c k Om])];rfl
 ·rw[if_neg e]
theorem Zq0(a:x.length=16)(c:y.length=16)(k:Nat)(d:k<16)(h:x.getD k 0≠y.getD k 0):Zbq x y (k+1)=(Zbq x y k).set k 0:=by
 rw[Zq2 a c k d,if_neg h]
theorem Zkb(l:List Ah)(b:Ah)(t:i<l.length)(hg:BAt w g (stCs l) 262)(ha:AhOk (l.getD i ah0))(hb:AhOk b)(hk:b.qy=true)(hc:b.qz=false) :
  CP 144 #[.pointer (some ⟨g,i*83,none⟩),.agg (stC b).toArray] w fun e u=>e=.returned (.tuple #[])/\Hid (BAt u g (stCs (l.set i (Zbi (l.getD i ah0) b.jz b.jy))) 262)/\w.grownBy u (some g):=by
 obtain⟨a,S⟩:∃a,a=l.getD i ah0:=⟨_,rfl⟩
 rw[<-S]at ha ⊢;obtain⟨o,ho⟩:∃o,o=i*83:=⟨_,rfl⟩
 rw[<-ho];have z:=hid ho;have HA:=hid ha;have HB:=hid hb;have HG:=hid hg;have c6:=hg.lt;have F:=hid S
 have cells : ∀ (W : World) (l' : List Ah), l'.length = l.length -> BAt W g (stCs l') 262 -> ∀ j, j < 83 -> W.cell? ⟨g, o + j, none⟩ = some (Zck (l'.getD i ah0) j) := fun W l' E q j v => by
   rw[q.cell,z.out,Ziz l' i j Om v]
 have G:=hid cells;clear ha hb hg S ho cells;go_enter func144,ntmps144
 go_upto_region 1 with fail
 refine ZP fun W hW=>?_;have T:Below _ w W:=hW▸Zbal;have r:=hid (HG.below T);have HW:Hid (w.grownBy W (some g)):=hid (Zw T);have Q:Hid (BAt W _ _ 262):=hW▸bnw;clear hW T HG
 have c0:W.cell? ⟨g,o,none⟩=some (.bool a.qy):=by
  have:=G W l rfl r 0 Dc;rw[<-F]at this;exact this
 have U:¬w.heap.size=g:=by omega
 cases H:a.qy with
 | false=>
  rw[H]at c0;have HL:=hid (Q.range 0 _ (fun j _=>by rw[Ycf]));have b3:Hid (W.there g o (stC b).toArray.size):=hid (r.there o _ (by rw[Yb5,ZbE,Zhe,z];omega));have b4:Hid ((prog.info? 262).map (·.size)=some (stC b).length):=by rw[ZbE];exact Tryz.infoSt
  have b5:Hid ((prog.info? 262).map (·.size)=some (stC b).toArray.size):=by rwa [Yb5,ZbE]
  have b6:=hid (all_oneCell_toArray (Zsu b))
  have V:Hid (BAt (W.setCells g o (stC b)) g (stCs (l.set i (Zbi a b.jz b.jy))) 262):=by
   have E:=BAt.setCells (stC b) o r;rw[z,ZCH t]at E;rw[z]
   have q:Zbi a b.jz b.jy=b:=by
    unfold Zbi;rw[H];cases b with
    | mk k c st sl=>simp only at hk hc;subst hk;subst hc;rfl
   rw[q];exact E
  have b7:=hid (ZpN (stC b) o HW);clear G
  go_wp2_with (first
    | refine wpList_load_mid rfl 262 (.tmp 3) rfl w.heap.size 0 rfl (stC b) _ HL.out underlying262 rfl b4.out ?_
    | refine wpList_store_mid rfl 262 (.tmp 12) (.tmp 11) rfl g o (stC b).toArray rfl rfl b3.out b5.out b6.out ?_)
  exact bodyPost_ret (results_none rfl _ _ _) rfl ⟨rfl,V,b7⟩
 | true=>
  rw[H]at c0;have b8:=underlying259;have a2:(prog.info? 259).map (·.size)=some (stkC a).length:=by rw[Zhg];exact Tryz.infoSk
  have a3:(prog.info? 259).map (·.size)=some (stkC b).length:=by rwa [Zhg]
  have b9:=Zhg a;have c2:=Zhg b
  have a4 := r.range (o + 3) _ (fun j v => by
    rw[Zhg]at v;rw[Zkh a j v,z,show i*83+3+j=i*83+(3+j) by omega,Ziz l i _ t Om,<-F];have:=Zni a j v;rw[ZcA a _ Om]at this;exact this)
  have a5 := Q.range 3 _ (fun j v => by
    rw[Zhg]at v;rw[Zkh b j v,Zni b j v])
  have c7:prog.eqGuardType prog.depth 259=false:=by kernel_rfl
  have R : Hid (∀ f : World, (binOp .neq 259 (.agg (stkC a).toArray) (.agg (stkC b).toArray)).run prog f = .ok (.bool (decide (a.jz ≠ b.jz))) f) := hid (fun f => by
    obtain⟨i9,c3⟩:=Ycw.1 Tryz.infoKd;rw[run_neq_struct,run_equalIn_array f 9999 _ _ underlying259 c3,show prog.cellsOf 258=1 by kernel_rfl,ZrW a b 9998 f _ (fun i t=>Yb9.1 t)];simp only[Ydz]
    congr 2
    have E : ((List.range 64).all fun i => a.jz.reverse.getD i 0 == b.jz.reverse.getD i 0) = decide (a.jz = b.jz) := by
      rw[Ybh,Ybu,decide_eq_true_iff,<-ZCQ HA.ln HB.ln HA.kd HB.kd];constructor
      · intro h j v;simpa using h j (Yb9.2 v)
      · intro h j v;simpa using h j (Yb9.1 v)
    rw[E];simp)
  have m:=hid HB.sl;have n:=hid HA.sl
  have c4:Hid (l.set i a=l):=by
   apply Ycs;intro j;rw[Ya0];by_cases e:i=j
   ·subst e;rw[if_pos rfl,if_pos t,F,Yaa,List.getElem?_eq_getElem t];rfl
   ·rw[if_neg e]
  have c8:=r.lt;have ff:=fun j=>r.frozen j
  have c1:W.cell? ⟨g,o+1,none⟩=some (.bool a.qz):=by
   have:=G W l rfl r 1 Dc;rw[<-F]at this;exact this
  obtain⟨cl,I⟩:∃cl,cl=(a.qz || decide (a.jz≠b.jz)):=⟨_,rfl⟩
  have a6:Hid (Zbi a b.jz b.jy=⟨true,cl,a.jz,both a.jy b.jy⟩):=by unfold Zbi;rw[H,I];rfl
  have a7:Hid (a=⟨true,a.qz,a.jz,a.jy⟩):=hid (by rw[<-H]);have a8:=hid a4;have a9:=hid a5;have b0:=hid a2;have b1:=hid a3;clear a4 a5 a2 a3 b9 c2 b8;by_cases D:a.jz=b.jz
  ·have b2:∀f:World,(binOp .neq 259 (.agg (stkC a).toArray) (.agg (stkC b).toArray)).run prog f=.ok (.bool false) f:=fun f=>by rw[R.out f];simp[D]
   have X:Hid (cl=a.qz):=hid (by rw[I];simp[D])
   have J:Hid (BAt W.drew g (stCs (l.set i ⟨true,cl,a.jz,Zbq a.jy b.jy 0⟩)) 262):=by
    rw[Zq3,X,<-a7,c4];exact r.below ((Yaf _ _).drew)
   have L:=hid (Q.below ((Yaf _ _).drew));have M:=hid (Zdi HW);clear I D R
   go_upto_region 3 with fail
   refine Zbn 6 (fun u=>u.rangeAt g _ _/\u.rangeAt _ 3 _) Kr ⟨by simpa using a8.out,by simpa using a9.out⟩ (fun d=>?_);refine Za 0 d (h:=?_);refine Za 1 d (h:=?_);refine Za 2 d (h:=?_);refine ZeD (i:=3) rfl rfl Kr (fun _ _ _ h=>h) (yieldsIf_load_mid (by rfl) _ _ rfl g _ rfl _ _ (fun w N=>N.1) underlying259 rfl b0) d ?rsp3
   case rsp3=>
   try simp only[Zset]
   refine Za 4 d (h:=?_);refine ZeD (i:=5) rfl rfl Kr (fun _ _ _ h=>h) (yieldsIf_load_mid (by rfl) _ _ rfl _ 3 rfl _ _ (fun w N=>N.2) underlying259 rfl b1) d ?rsp5
   case rsp5=>
   try simp only[Zset]
   refine Zbl Kr Kr rfl Kr (fun K Y=>?_);go_simp;refine Y _ _ ?_;clear Y K d;go_wp2
   go_loopw [23] (fun iv wr => ∃ k : Nat, k <= 16 /\ iv = Vi k /\ Hid (BAt wr g (stCs (l.set i ⟨true, cl, a.jz, Zbq a.jy b.jy k⟩)) 262) /\ Hid (BAt wr w.heap.size (stC b) 262) /\ Hid (w.grownBy wr (some g)))
     (fun iv _=>16 - (intOf iv).toNat)
   case atStart=>exact⟨0,Yag _,rfl,J,L,M⟩
   case round=>
    obtain⟨k,hk,rfl,s,A,B⟩:=hrel;clear J L M;by_cases p:k<16
    ·have c5:(k:Int)<16:=by omega
     have s1:wr.cell? ⟨g,o+67+k,none⟩=some (.int .u8 ((a.jy.getD k 0))):=by
      have:=G _ _ (by simp) s (67+k) Om;rw[Zf3 l i t]at this;rw[show o+67+k=o+(67+k) by omega,this];have q:=Znh ⟨true,cl,a.jz,Zbq a.jy b.jy k⟩ k p;rw[ZcA _ _ Om]at q;rw[q,show(⟨true,cl,a.jz,Zbq _ _ k⟩:Ah).jy=Zbq _ _ k from rfl,Zmj n m k p]
     have s2:=StAt.slot A k p;have fz:=s.frozen (o+67+k);by_cases C:a.jy.getD k 0=b.jy.getD k 0
     ·have O:=hid (Zq1 n m k p C);have Z:((((a.jy.getD k 0))) != (((b.jy.getD k 0):Int)))=false:=by rw[C];simp
      generalize a.jy.getD k 0=x at *
      generalize b.jy.getD k 0=y at *
      clear C;go_wp2
      go_region
      all_goals
       go_wp2
       go_roundw
       case rel=>exact⟨k+1,by omega,by go_num,hid (O.out▸s.below ((Yaf _ _).drew)),hid (A.below ((Yaf _ _).drew)),hid (Zdi B)⟩
       case measure=>simp[intOf];omega
     ·have O:=hid (Zq0 n m k p C);have Z:((((a.jy.getD k 0))) != (((b.jy.getD k 0):Int)))=true:=by rw[bne_iff_ne];omega
      have a0 : Hid (∀ f : World, (∀ j, f.heap[j]? = wr.heap[j]?) -> BAt (f.setCell ⟨g, o + 67 + k, none⟩ _) g _ _) := hid (fun f a1 => by
        have E:BAt _ g _ _:=(a1 g).trans s;have q:=E.setk (o+67+k) (.int .u8 0)
        have P:(stCs _).set (i*83+(67+k)) (.int .u8 0)=stCs ((l.set i ⟨true,cl,a.jz,Zbq a.jy b.jy k⟩).set i ⟨true,cl,a.jz,Zbq a.jy b.jy (k+1)⟩):=
          Zkf (by simpa using t) Om (Zf3 l i t▸O.out▸Znj ⟨true,cl,a.jz,Zbq a.jy b.jy k⟩ k 0 p (ZjK n.out m.out k Om))
        rw[List.set_set]at P;rw[show o+67+k=i*83+(67+k) by rw[z];omega,P]at q;rw[show o+67+k=i*83+(67+k) by rw[z];omega];exact q)
      generalize a.jy.getD k 0=x at *
      generalize b.jy.getD k 0=y at *
      clear C;go_wp2
      go_region
      all_goals
       go_wp2
       go_roundw
       case rel=>exact⟨k+1,by omega,by go_num,hid (a0 _ (fun _=>rfl)),hid ((A.below ((Yaf _ _).drew)).other U _),hid (ZA (Zdi B) (.inl rfl) _)⟩
       case measure=>simp[intOf];omega
    ·obtain rfl:k=16:=by omega
     have V:Hid (BAt wr g (stCs (l.set i (Zbi a b.jz b.jy))) 262):=by rwa [a6.out,<-ZqZ n.out m.out]
     go_wp2
     go_end0
     exact⟨rfl,V,B⟩
  ·have b2:∀f:World,(binOp .neq 259 (.agg (stkC a).toArray) (.agg (stkC b).toArray)).run prog f=.ok (.bool true) f:=fun f=>by rw[R.out f];simp[D]
   have X:Hid (cl=true):=hid (by rw[I];simp[D])
   have J:Hid (BAt (W.drew.setCell ⟨g,o+1,none⟩ (.bool true)) g (stCs (l.set i ⟨true,cl,a.jz,Zbq a.jy b.jy 0⟩)) 262):=by
    have q:=(r.below ((Yaf _ _).drew)).setk (o+1) (.bool true);have P:(stCs l).set (i*83+1) (.bool true)=stCs (l.set i { a with qz:=true }):=Zkf t Dc (F.out▸ZCE a);rw[show o+1=i*83+1 by rw[z],P]at q;rw[Zq3,X,show o+1=i*83+1 by rw[z]];rw[a7]at q;exact q
   have L:Hid (BAt (W.drew.setCell ⟨g,o+1,none⟩ (.bool true)) _ _ _):=hid ((Q.below ((Yaf _ _).drew)).other U _);have M:Hid (w.grownBy (W.drew.setCell ⟨g,o+1,none⟩ (.bool true)) _):=hid (ZA (Zdi HW) (.inl rfl) _);clear I D R
   go_upto_region 3 with fail
   refine Zbn 6 (fun u=>u.rangeAt g _ _/\u.rangeAt _ 3 _) Kr ⟨by simpa using a8.out,by simpa using a9.out⟩ (fun d=>?_);refine Za 0 d (h:=?_);refine Za 1 d (h:=?_);refine Za 2 d (h:=?_);refine ZeD (i:=3) rfl rfl Kr (fun _ _ _ h=>h) (yieldsIf_load_mid (by rfl) _ _ rfl g _ rfl _ _ (fun w N=>N.1) underlying259 rfl b0) d ?rsq3
   case rsq3=>
   try simp only[Zset]
   refine Za 4 d (h:=?_);refine ZeD (i:=5) rfl rfl Kr (fun _ _ _ h=>h) (yieldsIf_load_mid (by rfl) _ _ rfl _ 3 rfl _ _ (fun w N=>N.2) underlying259 rfl b1) d ?rsq5
   case rsq5=>
   try simp only[Zset]
   refine Zbl Kr Kr rfl Kr (fun K Y=>?_);go_simp;refine Y _ _ ?_;clear Y K d;go_wp2
   go_loopw [23] (fun iv wr => ∃ k : Nat, k <= 16 /\ iv = Vi k /\ Hid (BAt wr g (stCs (l.set i ⟨true, cl, a.jz, Zbq a.jy b.jy k⟩)) 262) /\ Hid (BAt wr w.heap.size (stC b) 262) /\ Hid (w.grownBy wr (some g)))
     (fun iv _=>16 - (intOf iv).toNat)
   case atStart=>exact⟨0,Yag _,rfl,J,L,M⟩
   case round=>
    obtain⟨k,hk,rfl,s,A,B⟩:=hrel;clear J L M;by_cases p:k<16
    ·have c5:(k:Int)<16:=by omega
     have s1:wr.cell? ⟨g,o+67+k,none⟩=some (.int .u8 ((a.jy.getD k 0))):=by
      have:=G _ _ (by simp) s (67+k) Om;rw[Zf3 l i t]at this;rw[show o+67+k=o+(67+k) by omega,this];have q:=Znh ⟨true,cl,a.jz,Zbq a.jy b.jy k⟩ k p;rw[ZcA _ _ Om]at q;rw[q,show(⟨true,cl,a.jz,Zbq _ _ k⟩:Ah).jy=Zbq _ _ k from rfl,Zmj n m k p]
     have s2:=StAt.slot A k p;have fz:=s.frozen (o+67+k);by_cases C:a.jy.getD k 0=b.jy.getD k 0
     ·have O:=hid (Zq1 n m k p C);have Z:((((a.jy.getD k 0))) != (((b.jy.getD k 0):Int)))=false:=by rw[C];simp
      generalize a.jy.getD k 0=x at *
      generalize b.jy.getD k 0=y at *
      clear C;go_wp2
      go_region
      all_goals
       go_wp2
       go_roundw
       case rel=>exact⟨k+1,by omega,by go_num,hid (O.out▸s.below ((Yaf _ _).drew)),hid (A.below ((Yaf _ _).drew)),hid (Zdi B)⟩
       case measure=>simp[intOf];omega
     ·have O:=hid (Zq0 n m k p C);have Z:((((a.jy.getD k 0))) != (((b.jy.getD k 0):Int)))=true:=by rw[bne_iff_ne];omega
      have a0 : Hid (∀ f : World, (∀ j, f.heap[j]? = wr.heap[j]?) -> BAt (f.setCell ⟨g, o + 67 + k, none⟩ _) g _ _) := hid (fun f a1 => by
        have E:BAt _ g _ _:=(a1 g).trans s;have q:=E.setk (o+67+k) (.int .u8 0)
        have P:(stCs _).set (i*83+(67+k)) (.int .u8 0)=stCs ((l.set i ⟨true,cl,a.jz,Zbq a.jy b.jy k⟩).set i ⟨true,cl,a.jz,Zbq a.jy b.jy (k+1)⟩):=
          Zkf (by simpa using t) Om (Zf3 l i t▸O.out▸Znj ⟨true,cl,a.jz,Zbq a.jy b.jy k⟩ k 0 p (ZjK n.out m.out k Om))
        rw[List.set_set]at P;rw[show o+67+k=i*83+(67+k) by rw[z];omega,P]at q;rw[show o+67+k=i*83+(67+k) by rw[z];omega];exact q)
      generalize a.jy.getD k 0=x at *
      generalize b.jy.getD k 0=y at *
      clear C;go_wp2
      go_region
      all_goals
       go_wp2
       go_roundw
       case rel=>exact⟨k+1,by omega,by go_num,hid (a0 _ (fun _=>rfl)),hid ((A.below ((Yaf _ _).drew)).other U _),hid (ZA (Zdi B) (.inl rfl) _)⟩
       case measure=>simp[intOf];omega
    ·obtain rfl:k=16:=by omega
     have V:Hid (BAt wr g (stCs (l.set i (Zbi a b.jz b.jy))) 262):=by rwa [a6.out,<-ZqZ n.out m.out]
     go_wp2
     go_end0
     exact⟨rfl,V,B⟩

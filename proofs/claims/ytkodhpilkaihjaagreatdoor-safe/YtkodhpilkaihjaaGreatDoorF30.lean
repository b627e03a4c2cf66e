/- Parts. -/
import Derived.Test.YtkodhpilkaihjaaGreatDoorF29
import Derived.Test.YtkodhpilkaihjaaGreatDoorF10
import Derived.Test.YtkodhpilkaihjaaGreatDoorF25
import Derived.Test.YtkodhpilkaihjaaGreatDoorF09
import Derived.Test.YtkodhpilkaihjaaGreatDoorF11
import Derived.Test.YtkodhpilkaihjaaGreatDoorF00
set_option maxRecDepth 100000
set_option maxHeartbeats 16000000
namespace Go.Proofs.YtkodhpilkaihjaaGreatDoor
open Go.RowKit LS
attribute [local go_sem] ZgD ZgB ZgE Zgy ZgO ZfN
theorem Zmc{l:List UInt8}{t:Tr}(h:Z4 l=.ok t):wfT t/\isNil t=false/\wT t<=100000:=by
 unfold Z4 at h
 by_cases hl:300<l.length
 ·rw[if_pos hl]at h;cases h
 ·rw[if_neg hl]at h
  have h1:=Zg7 l (l.length+1) 0 (Nat.zero_le _)
  have h2:=Zg8 l (by omega) (l.length+1) 0
  cases hp:Zz (10*(ZU l (l.length+1) 0).length+5) false 0 .nil (ZU l (l.length+1) 0) 0 with
  | error e=>rw[hp]at h;cases h
  | ok z=>
   obtain⟨t',r⟩:=z
   rw[hp]at h
   have hw:=ZeZ _ _ _ _ _ _ _ (fun e=>by cases e) hp
   simp only at h
   by_cases h0:(hd r).kind=0
   ·rw[if_pos h0]at h
    by_cases hk:Zk t'=0
    ·rw[if_pos hk]at h;cases h
    ·rw[if_neg hk]at h
     injection h with h
     subst h
     refine⟨hw.1,hw.2.1,?_⟩
     have h3:=hw.2.2
     rw[if_neg (by decide)]at h3
     simp only at h3
     omega
   ·rw[if_neg h0]at h;cases h
theorem Vars.sentsV{w:World}{A:Nat->Addr}{m:Int}(h:Vars w A m):Sents w (A 0) (A 1) (A 2) (A 3):=
 ⟨h.sent _ (by decide),h.sent _ (by decide),h.sent _ (by decide),h.sent _ (by decide)⟩
theorem RdIs.errShape{w:World}{lg sy dp tp:Addr}{r:Except (Nat×Nat) Tr}{pv v:Value}{x:Nat×Nat}(hr:r=.error x)(h:RdIs w lg sy dp tp r pv v):∃ty u,v=.iface ty u:=by
 subst hr
 rcases h with ⟨_,rfl⟩|⟨_,rfl⟩|⟨_,he⟩|⟨_,he⟩
 ·exact⟨_,_,rfl⟩
 ·exact⟨_,_,rfl⟩
 ·obtain⟨fa,rfl⟩:=ZB.shape he;exact⟨_,_,rfl⟩
 ·obtain⟨fa,rfl⟩:=ZB.shape he;exact⟨_,_,rfl⟩
def SelR(w:World)(r:Option (Nd×Nat))(v:Value)(ok:Bool):Prop:=match r with
 | some a=>ok=true/\ZcX w a v
 | none=>ok=false/\Zet v
theorem SelR.mkNone{w:World}{r:Option (Nd×Nat)}{v:Value}{ok:Bool}(hr:r=none)(h:ok=false/\Zet v):SelR w r v ok:=by subst hr;exact h
theorem SelR.mkSome{w:World}{r:Option (Nd×Nat)}{v:Value}{ok:Bool}{a:Nd×Nat}(hr:r=some a)(h:ok=true/\ZcX w a v):SelR w r v ok:=by subst hr;exact h
theorem Zmu{l:List UInt8}{x:Nat×Nat}(h:Z4 l=.error x):selQ l=none:=by unfold selQ;rw[h]
theorem Zmv{l:List UInt8}{x y:Nat}{a:Nd}{p q:Tr}(h:Z4 l=.ok (.node x y a p q))(hk:a.kind≠1):selQ l=none:=by
 unfold selQ;rw[h];simp only;rw[if_neg (fun e=>hk e.1)]
theorem Zmw{l:List UInt8}{x y:Nat}{a:Nd}{p q:Tr}(h:Z4 l=.ok (.node x y a p q))(hk:a.kind=1):selQ l=if selS a=l then some a else none:=by
 unfold selQ;rw[h];simp only
 by_cases e:selS a=l
 ·rw[if_pos ⟨hk,e⟩,if_pos e]
 ·rw[if_neg (fun h=>e h.2),if_neg e]
theorem ZeJ(w:World)(a:Nat)(x y z:Value):w.grownBy (set3 w a x y z) (some a):=Zo (Zo (Zo (Zbc w (some a)) (Or.inl rfl) _) (Or.inl rfl) _) (Or.inl rfl) _
theorem Zdg{w0 w:World}{a:Nat}(h:Below w0.heap.size w0 w)(ha:w0.heap.size<=a)(x y z:Value):Below w0.heap.size w0 (set3 w a x y z):=
 ((h.setCell (p:=⟨a,0,none⟩) ha _).setCell (p:=⟨a,1,none⟩) ha _).setCell (p:=⟨a,2,none⟩) ha _
theorem Zu4(y:List UInt8)(c:UInt8):Lib.hasSuffix y [c]=decide (y.getLast?=some c):=by
 rw[Bool.eq_iff_iff,decide_eq_true_iff]
 unfold Lib.hasSuffix
 rw[List.isSuffixOf_iff_suffix]
 constructor
 ·rintro⟨z,rfl⟩;simp
 ·intro h
  obtain⟨z,hz⟩:=List.getLast?_eq_some_iff.1 h
  exact⟨z,hz.symm⟩
theorem Ztf {t : List UInt8} (h : LS.cut 91 t = none) : ZbA t = (selQ t).map fun a => (a, 0) := by
  have:LS.seek 91 t=none:=by
    unfold LS.cut at h;cases hs:LS.seek 91 t with
    | none=>rfl
    | some i=>rw[hs]at h;cases h
  unfold ZbA;rw[this]
theorem Zte{t x y:List UInt8}(h:LS.cut 91 t=some (x,y)):ZbA t=if Lib.hasSuffix y [93]=true then (match ZE 1000 y.dropLast with
   | some n=>if n=0 then none else (selQ x).map fun a=>(a,n)
   | none=>none)else none:=by
 cases hs:LS.seek 91 t with
 | none=>unfold LS.cut at h;rw[hs]at h;cases h
 | some i=>
  unfold LS.cut at h
  rw[hs]at h
  simp only[Option.map_some]at h
  injection h with h
  injection h with h1 h2
  have hl:t.getLast?=some 93 ↔ y.getLast?=some 93:=by
   obtain⟨a,b,rfl,rfl,_⟩:=Zge hs
   have hy:y=b:=by
    rw[<-h2,List.drop_append]
    simp
   rw[hy]
   cases b with
   | nil=>simp
   | cons c b=>rw[List.getLast?_append,List.getLast?_cons_cons];simp
  unfold ZbA
  rw[hs]
  simp only
  rw[h1,h2,Zu4]
  by_cases e:t.getLast?=some 93
  ·rw[if_pos e,if_pos (by simpa using hl.1 e)]
   cases ZE 1000 y.dropLast <;> rfl
  ·rw[if_neg e,if_neg (by simpa using fun e'=>e (hl.2 e'))]
theorem Zvh{y:List UInt8}{c:UInt8}(h:Lib.hasSuffix y [c]=true):Lib.trimSuffix y [c]=y.dropLast:=by
 unfold Lib.trimSuffix;rw[if_pos h,List.dropLast_eq_take];rfl
theorem ZtJ(s:ByteArray)(A:Nat->Addr)(m:Int)(w:World)(hs:s.size<=70000)(hv:Vars w A m)(ht:Zx w)(hB:20<=w.heap.size) :
  Calls Tryz.prog 197 #[.string s] w fun e w'=>∃v ok,e=.returned (.tuple #[v,.bool ok])/\Hid (SelR w' (ZbA (bl s)) v ok)/\Below w.heap.size w w':=by
 have HV:=hid hv
 have HT:=hid ht
 have HBn:=hid hB
 clear hv ht hB
 go_enter Tryz.func197,Tryz.ntmps197
 go_wp2_with fail
 refine Zn fun W hW=>?_
 have hbW:Below w.heap.size w W:=by rw[hW];exact Zbal
 have HBW:=hid hbW
 have HXW:Hid (BAt W w.heap.size [.string ⟨#[]⟩,.slice none 0 0,.int .i64 0] 294):=hid (by rw[hW];exact Go.Deep.blk_alloc_new _ _)
 clear hW hbW
 cases hcut:LS.cut 91 (bl s)with
 | none=>
  refine(Zka m W hs (HV.below HBW.out).max hcut).mono ?_
  rintro e w1 ⟨a,b,rfl,HAB,nd,hw1⟩
  have hb1:Below W.heap.size W w1:=by rw[hw1];exact ZgR _ _ _
  have HB1:Hid (Below w.heap.size w w1):=hid (HBW.trans (hb1.mono HBW.size))
  have HX1:=hid (HXW.below hb1)
  have HPQ:Hid (ZbA (bl s)=(selQ (bl a)).map fun z=>(z,0)):=hid (by rw[Ztf hcut,HAB.1])
  have has:a.size<=70000:=by rw[ZO HAB.1,Ze];exact hs
  clear hb1 hw1 hcut HAB HXW
  go_wp2_with fail
  have HSN:=hid ((HV.below HB1.out).sentsV)
  refine(Zho a w1 (by omega) HSN.out).mono ?_
  rintro e w2 ⟨pv,v,rfl,hres,hb2⟩
  have HB2:Hid (Below w.heap.size w w2):=hid (HB1.trans (hb2.mono HB1.size))
  have HX2:=hid (HX1.below hb2)
  have hx2:=HX2.lt
  clear hb2 HX1 HB1 HSN
  have f0:=HX2.frozen 0
  have f1:=HX2.frozen 1
  have f2:=HX2.frozen 2
  have c0:=HX2.cell 0
  have c1:=HX2.cell 1
  have c2:=HX2.cell 2
  simp only[Zget]at c0 c1 c2
  cases hq:Z4 (bl a)with
  | error x=>
   have HPN:Hid (ZbA (bl s)=none):=hid (by rw[HPQ.out,Zmu hq];rfl)
   obtain⟨ty,u,rfl⟩:=RdIs.errShape hq hres.out
   clear hres hq HPQ
   go_wp2
   change bodyPost _ _ _ _ _ (set3 w2 w.heap.size (.string ⟨#[]⟩) (.slice none 0 0) (.int .i64 0))
   have st:=Zb7 HX2.out (x:=(.string ⟨#[]⟩)) (y:=(.slice none 0 0)) (z:=(.int .i64 0))
   have s0:=st.cell 0
   have s1:=st.cell 1
   have s2:=st.cell 2
   simp only[Zget]at s0 s1 s2
   have HBX:=hid (Zdg HB2.out (Nat.le_refl _) (.string ⟨#[]⟩) (.slice none 0 0) (.int .i64 0))
   generalize set3 w2 w.heap.size (.string ⟨#[]⟩) (.slice none 0 0) (.int .i64 0)=WX at *
   exact bodyPost_ret (v:=.tuple #[.agg #[.string ⟨#[]⟩,.slice none 0 0,.int .i64 0],.bool false]) (by simp[results,Tryz.results197,go_sem,s0,s1,s2]) rfl ⟨_,_,rfl,hid (SelR.mkNone HPN.out ⟨rfl,rfl⟩),HBX.out⟩
  | ok t=>
   rw[hq]at hres
   obtain⟨rfl,hpv⟩:=hres.out
   obtain⟨hwf,hnil,hwt⟩:=Zmc hq
   cases t with
   | nil=>cases hnil
   | node x y nd l r=>
    have HPV:=hid hpv
    have HWF:=hid (And.intro hwf hwt)
    rcases hpv with ⟨hk,rfl⟩|⟨hk,nm,la,ln,lc,rfl,h1,h2⟩|⟨hk,wd,nm,la,ln,lc,rfl,_⟩|⟨hk,z,rfl,_⟩|⟨hk,wd,la,ln,lc,z,rfl,_⟩|⟨hk,z1,z2,rfl,_⟩
    case inr.inl=>
     have HSL:=hid (Zmw hq hk)
     have HK1:=hid hk
     have HNM:=hid h1
     have HCV:=hid h2
     clear hres hq hwf hnil hwt hk h1 h2
     go_wp2_with fail
     refine Zn fun W3 hW3=>?_
     have hb3:Below w2.heap.size w2 W3:=by rw[hW3];exact Zbal
     have HB3:Hid (Below w.heap.size w W3):=hid (HB2.trans (hb3.mono HB2.size))
     have HX3:=hid (HX2.below hb3)
     have HF3:Hid (BAt W3 w2.heap.size [.string nm,.slice la ln lc] 281):=hid (by rw[hW3];exact Go.Deep.blk_alloc_new _ _)
     have HPV3:=hid (HPV.below hb3)
     have HCV3:=hid (HCV.below hb3)
     clear hW3 hb3 HPV HCV c0 c1 c2 f0 f1 f2
     refine(Zi7 HWF.1 HWF.2 W3 _ HPV3.out (HT.low HB3.out HBn.out) (Nat.le_trans HBn.out HB3.size)).mono ?_
     rintro e w4 ⟨tx,rfl,HTX,hb4⟩
     have HB4:Hid (Below w.heap.size w w4):=hid (HB3.trans (hb4.mono HB3.size))
     have HX4:=hid (HX3.below hb4)
     have HF4:=hid (HF3.below hb4)
     have HCV4:=hid (HCV3.below hb4)
     have HTS:Hid (bl tx=selS nd):=hid (by rw[HTX.out,ZdI];unfold Zcd;rw[if_neg (by rw[HK1.out];decide),if_pos HK1.out])
     clear hb4 HB3 HX3 HF3 HPV3 HCV3 HTX
     have d0:=HF4.cell 0
     have d1:=HF4.cell 1
     simp only[Zget]at d0 d1
     have HX2:=HX4
     have HB2:=HB4
     have f0:=HX4.frozen 0
     have f1:=HX4.frozen 1
     have f2:=HX4.frozen 2
     have c0:=HX4.cell 0
     have c1:=HX4.cell 1
     have c2:=HX4.cell 2
     simp only[Zget]at c0 c1 c2
     have hx4:=HX4.lt
     by_cases he:tx=a
     ·subst he
      have hne:(tx.toList != tx.toList)=false:=by simp
      have HPS:Hid (ZbA (bl s)=some (nd,0)):=hid (by rw[HPQ.out,HSL.out,if_pos HTS.symm];rfl)
      clear HPQ HSL
      go_wp2
      change bodyPost _ _ _ _ _ (set3 w4 w.heap.size (.string nm) (.slice la ln lc) (.int .i64 (0:Nat)))
      have st:=Zb7 HX2.out (x:=(.string nm)) (y:=(.slice la ln lc)) (z:=(.int .i64 (0:Nat)))
      have s0:=st.cell 0
      have s1:=st.cell 1
      have s2:=st.cell 2
      simp only[Zget]at s0 s1 s2
      have HBX:=hid (Zdg HB2.out (Nat.le_refl _) (.string nm) (.slice la ln lc) (.int .i64 (0:Nat)))
      have HCX:=hid (HCV4.kept (ZeJ w4 w.heap.size (.string nm) (.slice la ln lc) (.int .i64 (0:Nat))) HX4.out (by decide))
      generalize set3 w4 w.heap.size (.string nm) (.slice la ln lc) (.int .i64 (0:Nat))=WX at *
      exact bodyPost_ret (v:=.tuple #[.agg #[.string nm,.slice la ln lc,.int .i64 (0:Nat)],.bool true]) (by simp[results,Tryz.results197,go_sem,s0,s1,s2]) rfl ⟨_,_,rfl,hid (SelR.mkSome HPS.out ⟨rfl,⟨nm,la,ln,lc,nd,0⟩,rfl,rfl,HNM.out,HCX.out⟩),HBX.out⟩
     ·have hne:(tx.toList == a.toList)=false:=by
       rw[beq_eq_false_iff_ne,Zba,Zba];intro e;exact he (Zc9 e)
      have HPN:Hid (ZbA (bl s)=none):=hid (by rw[HPQ.out,HSL.out,if_neg (by intro e;exact he (Zc9 (HTS.trans e)))];rfl)
      clear HPQ HSL he
      go_wp2
      change bodyPost _ _ _ _ _ (set3 w4 w.heap.size (.string ⟨#[]⟩) (.slice none 0 0) (.int .i64 0))
      have st:=Zb7 HX2.out (x:=(.string ⟨#[]⟩)) (y:=(.slice none 0 0)) (z:=(.int .i64 0))
      have s0:=st.cell 0
      have s1:=st.cell 1
      have s2:=st.cell 2
      simp only[Zget]at s0 s1 s2
      have HBX:=hid (Zdg HB2.out (Nat.le_refl _) (.string ⟨#[]⟩) (.slice none 0 0) (.int .i64 0))
      generalize set3 w4 w.heap.size (.string ⟨#[]⟩) (.slice none 0 0) (.int .i64 0)=WX at *
      exact bodyPost_ret (v:=.tuple #[.agg #[.string ⟨#[]⟩,.slice none 0 0,.int .i64 0],.bool false]) (by simp[results,Tryz.results197,go_sem,s0,s1,s2]) rfl ⟨_,_,rfl,hid (SelR.mkNone HPN.out ⟨rfl,rfl⟩),HBX.out⟩
    all_goals
     have HPN:Hid (ZbA (bl s)=none):=hid (by rw[HPQ.out,Zmv hq (by omega)];rfl)
     clear hres hq HPQ hwf hnil hwt hk HPV
     go_wp2
     change bodyPost _ _ _ _ _ ((set3 w2 w.heap.size (.string ⟨#[]⟩) (.slice none 0 0) (.int .i64 0)).alloc (.cells #[.string ByteArray.empty,.slice none 0 0] 281))
     have st:=(Zb7 HX2.out (x:=(.string ⟨#[]⟩)) (y:=(.slice none 0 0)) (z:=(.int .i64 0))).below ((Below.refl _ _).alloc (Nat.le_refl _) (.cells #[.string ByteArray.empty,.slice none 0 0] 281))
     have s0:=st.cell 0
     have s1:=st.cell 1
     have s2:=st.cell 2
     simp only[Zget]at s0 s1 s2
     have HBX:=hid ((Zdg HB2.out (Nat.le_refl _) (.string ⟨#[]⟩) (.slice none 0 0) (.int .i64 0)).alloc (Zdg HB2.out (Nat.le_refl _) (.string ⟨#[]⟩) (.slice none 0 0) (.int .i64 0)).size (.cells #[.string ByteArray.empty,.slice none 0 0] 281))
     generalize(set3 w2 w.heap.size (.string ⟨#[]⟩) (.slice none 0 0) (.int .i64 0)).alloc (.cells #[.string ByteArray.empty,.slice none 0 0] 281)=WX at *
     exact bodyPost_ret (v:=.tuple #[.agg #[.string ⟨#[]⟩,.slice none 0 0,.int .i64 0],.bool false]) (by simp[results,Tryz.results197,go_sem,s0,s1,s2]) rfl ⟨_,_,rfl,hid (SelR.mkNone HPN.out ⟨rfl,rfl⟩),HBX.out⟩
 | some xy=>
  obtain⟨x,y⟩:=xy
  refine(Zj8 m W hs (HV.below HBW.out).max hcut).mono ?_
  rintro e w1 ⟨a,b,rfl,HAB,nd,hw1⟩
  have hb1:Below W.heap.size W w1:=by rw[hw1];exact ZgR _ _ _
  have HB1:Hid (Below w.heap.size w w1):=hid (HBW.trans (hb1.mono HBW.size))
  have HX1:=hid (HXW.below hb1)
  have has:a.size<=70000/\b.size<=70000:=by
   have h9:=HAB.out
   rw[LS.cut]at hcut
   cases hsk:LS.seek 91 (bl s)with
   | none=>rw[hsk]at hcut;cases hcut
   | some i=>
    rw[hsk]at hcut
    simp only[Option.map_some]at hcut
    injection hcut with hcut
    injection hcut with e1 e2
    rw[ZO h9.1,ZO h9.2,<-e1,<-e2,List.length_take,List.length_drop,Ze]
    omega
  have hbs:=has.2
  have has:=has.1
  have HPC:=hid (Zte hcut)
  clear hb1 hw1 hcut HXW
  go_wp2_with fail
  refine(Tryz.strings_CutSuffix b ⟨#[93]⟩ w1 (by omega)).mono ?_
  rintro e wq ⟨rfl,rfl⟩
  have HBL:Hid (bl b=y):=hid HAB.2
  have HAL:Hid (bl a=x):=hid HAB.1
  rw[show b.data.toList=y from HBL.out,show(⟨#[93]⟩:ByteArray).data.toList=[93] from rfl]
  have hyl:y.length<=70000:=by rw[<-HBL.out,Ze];exact hbs
  clear HAB
  cases hsf:Lib.hasSuffix y [93]with
  | false=>
   have HPN:Hid (ZbA (bl s)=none):=hid (by rw[HPC.out,if_neg (by rw[hsf];simp)])
   have hnum : Hid (∀ W', Calls Tryz.prog 118 #[.string ⟨(Lib.trimSuffix y [93]).toArray⟩, .int .i64 (1000 : Nat)] W' _) := hid (fun W' => Zjt ⟨(Lib.trimSuffix y [93]).toArray⟩ 1000 W' (by
     rw[<-Ze,Zbu];unfold Lib.trimSuffix;rw[hsf];simpa using hyl) (by decide) (by decide))
   generalize(⟨(Lib.trimSuffix y [93]).toArray⟩:ByteArray)=dg at *
   have HX2:=HX1
   have HB2:=HB1
   have hx2:=HX1.lt
   have f0:=HX1.frozen 0
   have f1:=HX1.frozen 1
   have f2:=HX1.frozen 2
   have c0:=HX1.cell 0
   have c1:=HX1.cell 1
   have c2:=HX1.cell 2
   simp only[Zget]at c0 c1 c2
   clear HPC hsf
   go_wp2_with fail
   refine(hnum.out _).mono ?_
   rintro e wq2 ⟨rfl,rfl⟩
   have hnt:∃(v:Int) (o:Bool),numT 1000 (bl dg)=.tuple #[.int .i64 v,.bool o]:=⟨_,_,rfl⟩
   obtain⟨nv,no,hnt⟩:=hnt
   rw[hnt]
   clear hnt hnum
   go_wp2
   change bodyPost _ _ _ _ _ (set3 wq2 w.heap.size (.string ⟨#[]⟩) (.slice none 0 0) (.int .i64 0))
   have st:=Zb7 HX2.out (x:=(.string ⟨#[]⟩)) (y:=(.slice none 0 0)) (z:=(.int .i64 0))
   have s0:=st.cell 0
   have s1:=st.cell 1
   have s2:=st.cell 2
   simp only[Zget]at s0 s1 s2
   have HBX:=hid (Zdg HB2.out (Nat.le_refl _) (.string ⟨#[]⟩) (.slice none 0 0) (.int .i64 0))
   generalize set3 wq2 w.heap.size (.string ⟨#[]⟩) (.slice none 0 0) (.int .i64 0)=WX at *
   exact bodyPost_ret (v:=.tuple #[.agg #[.string ⟨#[]⟩,.slice none 0 0,.int .i64 0],.bool false]) (by simp[results,Tryz.results197,go_sem,s0,s1,s2]) rfl ⟨_,_,rfl,hid (SelR.mkNone HPN.out ⟨rfl,rfl⟩),HBX.out⟩
  | true=>
   rw[Zvh hsf]
   have HPC2:Hid (ZbA (bl s)=match ZE 1000 y.dropLast with
    | some n=>if n=0 then none else (selQ x).map fun a=>(a,n)
    | none=>none):=hid (by rw[HPC.out,if_pos hsf])
   have hnum : Hid (∀ W', Calls Tryz.prog 118 #[.string ⟨y.dropLast.toArray⟩, .int .i64 (1000 : Nat)] W' _) := hid (fun W' => Zjt ⟨y.dropLast.toArray⟩ 1000 W' (by
     rw[<-Ze,Zbu,List.length_dropLast];omega) (by decide) (by decide))
   have hx1:=HX1.lt
   clear HPC hsf
   go_wp2_with fail
   refine(hnum.out _).mono ?_
   rintro e wq2 ⟨rfl,rfl⟩
   rw[Zbu]
   cases hnm:ZE 1000 y.dropLast with
   | none=>
    rw[ZeX hnm]
    have HPN:Hid (ZbA (bl s)=none):=hid (by rw[HPC2.out,hnm])
    have HX2:=HX1
    have HB2:=HB1
    have f0:=HX1.frozen 0
    have f1:=HX1.frozen 1
    have f2:=HX1.frozen 2
    have c0:=HX1.cell 0
    have c1:=HX1.cell 1
    have c2:=HX1.cell 2
    simp only[Zget]at c0 c1 c2
    clear hnm HPC2
    go_wp2
    change bodyPost _ _ _ _ _ (set3 wq2 w.heap.size (.string ⟨#[]⟩) (.slice none 0 0) (.int .i64 0))
    have st:=Zb7 HX2.out (x:=(.string ⟨#[]⟩)) (y:=(.slice none 0 0)) (z:=(.int .i64 0))
    have s0:=st.cell 0
    have s1:=st.cell 1
    have s2:=st.cell 2
    simp only[Zget]at s0 s1 s2
    have HBX:=hid (Zdg HB2.out (Nat.le_refl _) (.string ⟨#[]⟩) (.slice none 0 0) (.int .i64 0))
    generalize set3 wq2 w.heap.size (.string ⟨#[]⟩) (.slice none 0 0) (.int .i64 0)=WX at *
    exact bodyPost_ret (v:=.tuple #[.agg #[.string ⟨#[]⟩,.slice none 0 0,.int .i64 0],.bool false]) (by simp[results,Tryz.results197,go_sem,s0,s1,s2]) rfl ⟨_,_,rfl,hid (SelR.mkNone HPN.out ⟨rfl,rfl⟩),HBX.out⟩
   | some n=>
    rw[Zhi hnm]
    by_cases hn0:n=0
    ·subst hn0
     have HPN:Hid (ZbA (bl s)=none):=hid (by rw[HPC2.out,hnm];rfl)
     have HX2:=HX1
     have HB2:=HB1
     have f0:=HX1.frozen 0
     have f1:=HX1.frozen 1
     have f2:=HX1.frozen 2
     have c0:=HX1.cell 0
     have c1:=HX1.cell 1
     have c2:=HX1.cell 2
     simp only[Zget]at c0 c1 c2
     clear hnm HPC2
     go_wp2
     change bodyPost _ _ _ _ _ (set3 wq2 w.heap.size (.string ⟨#[]⟩) (.slice none 0 0) (.int .i64 0))
     have st:=Zb7 HX2.out (x:=(.string ⟨#[]⟩)) (y:=(.slice none 0 0)) (z:=(.int .i64 0))
     have s0:=st.cell 0
     have s1:=st.cell 1
     have s2:=st.cell 2
     simp only[Zget]at s0 s1 s2
     have HBX:=hid (Zdg HB2.out (Nat.le_refl _) (.string ⟨#[]⟩) (.slice none 0 0) (.int .i64 0))
     generalize set3 wq2 w.heap.size (.string ⟨#[]⟩) (.slice none 0 0) (.int .i64 0)=WX at *
     exact bodyPost_ret (v:=.tuple #[.agg #[.string ⟨#[]⟩,.slice none 0 0,.int .i64 0],.bool false]) (by simp[results,Tryz.results197,go_sem,s0,s1,s2]) rfl ⟨_,_,rfl,hid (SelR.mkNone HPN.out ⟨rfl,rfl⟩),HBX.out⟩
    ·have hn1:((n:Int) == 0)=false:=by rw[beq_eq_false_iff_ne];omega
     have HPQ:Hid (ZbA (bl s)=(selQ (bl a)).map fun z=>(z,n)):=hid (by rw[HPC2.out,hnm,HAL.out];simp only;rw[if_neg hn0])
     clear hnm HPC2 hn0 hnum
     obtain⟨w1,hw1e⟩:∃w1,w1=wq2:=⟨_,rfl⟩
     subst hw1e
     go_wp2_with fail
     have HSN:=hid ((HV.below HB1.out).sentsV)
     refine(Zho a w1 (by omega) HSN.out).mono ?_
     rintro e w2 ⟨pv,v,rfl,hres,hb2⟩
     have HB2:Hid (Below w.heap.size w w2):=hid (HB1.trans (hb2.mono HB1.size))
     have HX2:=hid (HX1.below hb2)
     have hx2:=HX2.lt
     clear hb2 HX1 HB1 HSN
     have f0:=HX2.frozen 0
     have f1:=HX2.frozen 1
     have f2:=HX2.frozen 2
     have c0:=HX2.cell 0
     have c1:=HX2.cell 1
     have c2:=HX2.cell 2
     simp only[Zget]at c0 c1 c2
     cases hq:Z4 (bl a)with
     | error x=>
      have HPN:Hid (ZbA (bl s)=none):=hid (by rw[HPQ.out,Zmu hq];rfl)
      obtain⟨ty,u,rfl⟩:=RdIs.errShape hq hres.out
      clear hres hq HPQ
      go_wp2
      change bodyPost _ _ _ _ _ (set3 w2 w.heap.size (.string ⟨#[]⟩) (.slice none 0 0) (.int .i64 0))
      have st:=Zb7 HX2.out (x:=(.string ⟨#[]⟩)) (y:=(.slice none 0 0)) (z:=(.int .i64 0))
      have s0:=st.cell 0
      have s1:=st.cell 1
      have s2:=st.cell 2
      simp only[Zget]at s0 s1 s2
      have HBX:=hid (Zdg HB2.out (Nat.le_refl _) (.string ⟨#[]⟩) (.slice none 0 0) (.int .i64 0))
      generalize set3 w2 w.heap.size (.string ⟨#[]⟩) (.slice none 0 0) (.int .i64 0)=WX at *
      exact bodyPost_ret (v:=.tuple #[.agg #[.string ⟨#[]⟩,.slice none 0 0,.int .i64 0],.bool false]) (by simp[results,Tryz.results197,go_sem,s0,s1,s2]) rfl ⟨_,_,rfl,hid (SelR.mkNone HPN.out ⟨rfl,rfl⟩),HBX.out⟩
     | ok t=>
      rw[hq]at hres
      obtain⟨rfl,hpv⟩:=hres.out
      obtain⟨hwf,hnil,hwt⟩:=Zmc hq
      cases t with
      | nil=>cases hnil
      | node x y nd l r=>
       have HPV:=hid hpv
       have HWF:=hid (And.intro hwf hwt)
       rcases hpv with ⟨hk,rfl⟩|⟨hk,nm,la,ln,lc,rfl,h1,h2⟩|⟨hk,wd,nm,la,ln,lc,rfl,_⟩|⟨hk,z,rfl,_⟩|⟨hk,wd,la,ln,lc,z,rfl,_⟩|⟨hk,z1,z2,rfl,_⟩
       case inr.inl=>
        have HSL:=hid (Zmw hq hk)
        have HK1:=hid hk
        have HNM:=hid h1
        have HCV:=hid h2
        clear hres hq hwf hnil hwt hk h1 h2
        go_wp2_with fail
        refine Zn fun W3 hW3=>?_
        have hb3:Below w2.heap.size w2 W3:=by rw[hW3];exact Zbal
        have HB3:Hid (Below w.heap.size w W3):=hid (HB2.trans (hb3.mono HB2.size))
        have HX3:=hid (HX2.below hb3)
        have HF3:Hid (BAt W3 w2.heap.size [.string nm,.slice la ln lc] 281):=hid (by rw[hW3];exact Go.Deep.blk_alloc_new _ _)
        have HPV3:=hid (HPV.below hb3)
        have HCV3:=hid (HCV.below hb3)
        clear hW3 hb3 HPV HCV c0 c1 c2 f0 f1 f2
        refine(Zi7 HWF.1 HWF.2 W3 _ HPV3.out (HT.low HB3.out HBn.out) (Nat.le_trans HBn.out HB3.size)).mono ?_
        rintro e w4 ⟨tx,rfl,HTX,hb4⟩
        have HB4:Hid (Below w.heap.size w w4):=hid (HB3.trans (hb4.mono HB3.size))
        have HX4:=hid (HX3.below hb4)
        have HF4:=hid (HF3.below hb4)
        have HCV4:=hid (HCV3.below hb4)
        have HTS:Hid (bl tx=selS nd):=hid (by rw[HTX.out,ZdI];unfold Zcd;rw[if_neg (by rw[HK1.out];decide),if_pos HK1.out])
        clear hb4 HB3 HX3 HF3 HPV3 HCV3 HTX
        have d0:=HF4.cell 0
        have d1:=HF4.cell 1
        simp only[Zget]at d0 d1
        have HX2:=HX4
        have HB2:=HB4
        have f0:=HX4.frozen 0
        have f1:=HX4.frozen 1
        have f2:=HX4.frozen 2
        have c0:=HX4.cell 0
        have c1:=HX4.cell 1
        have c2:=HX4.cell 2
        simp only[Zget]at c0 c1 c2
        have hx4:=HX4.lt
        by_cases he:tx=a
        ·subst he
         have hne:(tx.toList != tx.toList)=false:=by simp
         have HPS:Hid (ZbA (bl s)=some (nd,n)):=hid (by rw[HPQ.out,HSL.out,if_pos HTS.symm];rfl)
         clear HPQ HSL
         go_wp2
         change bodyPost _ _ _ _ _ (set3 w4 w.heap.size (.string nm) (.slice la ln lc) (.int .i64 (n:Nat)))
         have st:=Zb7 HX2.out (x:=(.string nm)) (y:=(.slice la ln lc)) (z:=(.int .i64 (n:Nat)))
         have s0:=st.cell 0
         have s1:=st.cell 1
         have s2:=st.cell 2
         simp only[Zget]at s0 s1 s2
         have HBX:=hid (Zdg HB2.out (Nat.le_refl _) (.string nm) (.slice la ln lc) (.int .i64 (n:Nat)))
         have HCX:=hid (HCV4.kept (ZeJ w4 w.heap.size (.string nm) (.slice la ln lc) (.int .i64 (n:Nat))) HX4.out (by decide))
         generalize set3 w4 w.heap.size (.string nm) (.slice la ln lc) (.int .i64 (n:Nat))=WX at *
         exact bodyPost_ret (v:=.tuple #[.agg #[.string nm,.slice la ln lc,.int .i64 (n:Nat)],.bool true]) (by simp[results,Tryz.results197,go_sem,s0,s1,s2]) rfl ⟨_,_,rfl,hid (SelR.mkSome HPS.out ⟨rfl,⟨nm,la,ln,lc,nd,n⟩,rfl,rfl,HNM.out,HCX.out⟩),HBX.out⟩
        ·have hne:(tx.toList == a.toList)=false:=by
          rw[beq_eq_false_iff_ne,Zba,Zba];intro e;exact he (Zc9 e)
         have HPN:Hid (ZbA (bl s)=none):=hid (by rw[HPQ.out,HSL.out,if_neg (by intro e;exact he (Zc9 (HTS.trans e)))];rfl)
         clear HPQ HSL he
         go_wp2
         change bodyPost _ _ _ _ _ (set3 w4 w.heap.size (.string ⟨#[]⟩) (.slice none 0 0) (.int .i64 0))
         have st:=Zb7 HX2.out (x:=(.string ⟨#[]⟩)) (y:=(.slice none 0 0)) (z:=(.int .i64 0))
         have s0:=st.cell 0
         have s1:=st.cell 1
         have s2:=st.cell 2
         simp only[Zget]at s0 s1 s2
         have HBX:=hid (Zdg HB2.out (Nat.le_refl _) (.string ⟨#[]⟩) (.slice none 0 0) (.int .i64 0))
         generalize set3 w4 w.heap.size (.string ⟨#[]⟩) (.slice none 0 0) (.int .i64 0)=WX at *
         exact bodyPost_ret (v:=.tuple #[.agg #[.string ⟨#[]⟩,.slice none 0 0,.int .i64 0],.bool false]) (by simp[results,Tryz.results197,go_sem,s0,s1,s2]) rfl ⟨_,_,rfl,hid (SelR.mkNone HPN.out ⟨rfl,rfl⟩),HBX.out⟩
       all_goals
        have HPN:Hid (ZbA (bl s)=none):=hid (by rw[HPQ.out,Zmv hq (by omega)];rfl)
        clear hres hq HPQ hwf hnil hwt hk HPV
        go_wp2
        change bodyPost _ _ _ _ _ ((set3 w2 w.heap.size (.string ⟨#[]⟩) (.slice none 0 0) (.int .i64 0)).alloc (.cells #[.string ByteArray.empty,.slice none 0 0] 281))
        have st:=(Zb7 HX2.out (x:=(.string ⟨#[]⟩)) (y:=(.slice none 0 0)) (z:=(.int .i64 0))).below ((Below.refl _ _).alloc (Nat.le_refl _) (.cells #[.string ByteArray.empty,.slice none 0 0] 281))
        have s0:=st.cell 0
        have s1:=st.cell 1
        have s2:=st.cell 2
        simp only[Zget]at s0 s1 s2
        have HBX:=hid ((Zdg HB2.out (Nat.le_refl _) (.string ⟨#[]⟩) (.slice none 0 0) (.int .i64 0)).alloc (Zdg HB2.out (Nat.le_refl _) (.string ⟨#[]⟩) (.slice none 0 0) (.int .i64 0)).size (.cells #[.string ByteArray.empty,.slice none 0 0] 281))
        generalize(set3 w2 w.heap.size (.string ⟨#[]⟩) (.slice none 0 0) (.int .i64 0)).alloc (.cells #[.string ByteArray.empty,.slice none 0 0] 281)=WX at *
        exact bodyPost_ret (v:=.tuple #[.agg #[.string ⟨#[]⟩,.slice none 0 0,.int .i64 0],.bool false]) (by simp[results,Tryz.results197,go_sem,s0,s1,s2]) rfl ⟨_,_,rfl,hid (SelR.mkNone HPN.out ⟨rfl,rfl⟩),HBX.out⟩
end Go.Proofs.YtkodhpilkaihjaaGreatDoor
namespace Go.Proofs.YtkodhpilkaihjaaGreatDoor
open Go.RowKit LS
theorem ZhB{l:List UInt8}{p:Nat}{x:List UInt8×Nat}(h:Zb8 l p=.ok x):x.1.length<65536/\x.2<=l.length:=by
 unfold Zb8 at h
 cases hn:Z8 l p 2 with
 | error e=>rw[hn]at h;cases h
 | ok y=>
  rw[hn]at h
  simp only at h
  obtain⟨h1,h2,h3⟩:=ZfF h
  have h4:=(Zd3 hn).2.2.2
  have h4:y.1<65536:=h4
  exact⟨by rw[h2,Zhz h1];exact h4,by omega⟩
theorem ZcX.kept1{w w':World}{a:Nd×Nat}{v:Value}(h:ZcX w a v){b:Nat}{c:List Value}{t:TypeId}(hq:BAt w b c t)(hg:w.grownBy w' (some b))(he:t≠379):ZcX w' a v:=by
 obtain⟨x,h1,h2,h3⟩:=h;exact⟨x,h1,h2,h3.kept1 hq hg he⟩
theorem ZcX.below{w w':World}{a:Nd×Nat}{v:Value}(h:ZcX w a v)(hb:Below w.heap.size w w'):ZcX w' a v:=by
 obtain⟨x,h1,h2,h3⟩:=h;exact⟨x,h1,h2,h3.below hb⟩
structure Ground (w0:World) (A:Nat->Addr) (m:Int) (b:Nat):Prop where
 v:Vars w0 A m
 t:Zx w0
 n:20<=w0.heap.size
 b:w0.heap.size<=b
theorem Ground.code{w0 w:World}{A:Nat->Addr}{m:Int}{b:Nat}(h:Ground w0 A m b)(hw:Below w0.heap.size w0 w):Zbt w (A 8):=(h.v.below hw).sent _ (by decide)
theorem Ground.ng{w0:World}{A:Nat->Addr}{m:Int}{b:Nat}(h:Ground w0 A m b):20<=b:=Nat.le_trans h.n h.b
theorem ZtZ(s:ByteArray)(b:Nat)(A:Nat->Addr)(m:Int)(w0:World)(hG:Ground w0 A m b)(hs:s.size<=maxLen) :
  OneC 139 ZcX Zet w0 b s (A 8) (Zbz (bl s)):=by
 intro p w h0 hr hp
 have hbl:=hr.lt
 have HGD:=hid hG
 have HTX:Hid (∀w,Below w0.heap.size w0 w->RdAt w b s p->Calls Tryz.prog 196 #[.pointer (some ⟨b,0,none⟩)] w _):=hid (fun w h1 h2=>Zmj s p b _ w h2 (hG.code h1) hG.ng hp hs)
 have H0:=hid h0
 have HR0:=hid hr
 have c1:w.cell? ⟨b,1,none⟩=some (.int .i64 p):=hr.cell 1
 clear hr h0 hG hs
 go_enter Tryz.func139,Tryz.ntmps139
 go_wp2_with fail
 refine Zn fun W hW=>?_
 have hbW:Below w.heap.size w W:=by rw[hW];exact Zbal
 have HXW:Hid (BAt W w.heap.size [.string ⟨#[]⟩,.slice none 0 0,.int .i64 0] 294):=hid (by rw[hW];exact Go.Deep.blk_alloc_new _ _)
 have HGW:Hid (w.grownBy W (some b)):=hid (Zu hbW)
 have H0W:Hid (Below w0.heap.size w0 W):=hid (ZbQ H0.out HGW.out HGD.b)
 have HRW:=hid (HR0.below hbW)
 clear hW hbW c1
 refine(HTX.out W H0W.out HRW.out).mono ?_
 rintro e w1 ⟨v,err,rfl,HC,hg1⟩
 have HG1:Hid (w.grownBy w1 (some b)):=hid (Zf HGW.out hg1)
 have HX1:=hid (HXW.grown hg1 (by intro e;injection e with e;omega))
 have H01:Hid (Below w0.heap.size w0 w1):=hid (ZbQ H0.out HG1.out HGD.b)
 clear hg1 HGW HXW H0W HRW HTX
 cases ht:Zb8 (bl s) p with
 | error x=>
  obtain⟨fa,rfl⟩:=HC.errShape ht
  have HF:Hid (RdC ZcX Zet w1 b s (A 8) (Zbz (bl s) p) (.agg #[.string ⟨#[]⟩,.slice none 0 0,.int .i64 0]) (.iface 115 (.pointer (some ⟨fa,0,none⟩)))):=hid (HC.errMap ht (by unfold Zbz;rw[ht]) rfl)
  obtain⟨_,_,rfl,_⟩:=HC.err ht
  clear HC ht
  have f0:=HX1.frozen 0
  have f1:=HX1.frozen 1
  have f2:=HX1.frozen 2
  have c0:=HX1.cell 0
  have c1:=HX1.cell 1
  have c2:=HX1.cell 2
  simp only[Zget]at c0 c1 c2
  go_wp2
  change bodyPost _ _ _ _ _ (set3 w1 w.heap.size (.string ⟨#[]⟩) (.slice none 0 0) (.int .i64 0))
  have st:=Zb7 HX1.out (x:=.string ⟨#[]⟩) (y:=.slice none 0 0) (z:=.int .i64 0)
  have s0:=st.cell 0
  have s1:=st.cell 1
  have s2:=st.cell 2
  simp only[Zget]at s0 s1 s2
  have HE2:=hid (HF.kept (ZeJ w1 w.heap.size (.string ⟨#[]⟩) (.slice none 0 0) (.int .i64 0)) HX1.out (by decide) (by decide) (fun _ h=>h.kept1 HX1.out (ZeJ w1 w.heap.size (.string ⟨#[]⟩) (.slice none 0 0) (.int .i64 0)) (by decide)))
  have HGX:=hid (Zeo HG1.out (Nat.le_refl _) (.string ⟨#[]⟩) (.slice none 0 0) (.int .i64 0))
  generalize set3 w1 w.heap.size (.string ⟨#[]⟩) (.slice none 0 0) (.int .i64 0)=WX at *
  exact bodyPost_ret (v:=.tuple #[.agg #[.string ⟨#[]⟩,.slice none 0 0,.int .i64 0],.iface 115 (.pointer (some ⟨fa,0,none⟩))]) (by simp[results,Tryz.results139,go_sem,s0,s1,s2]) rfl ⟨_,_,rfl,HE2,HGX.out⟩
 | ok x=>
  obtain⟨t,q⟩:=x
  obtain⟨rfl,⟨tx,rfl,htx⟩,hq⟩:=HC.ok ht
  have hlt:=(ZhB ht).1
  simp only at hq hlt htx
  have hts:tx.size<=70000:=by rw[ZO htx];omega
  have HR1:=hid hq
  have HXP:Hid (Zbz (bl s) p=match ZbA (bl tx)with
   | none=>.error (9,p)
   | some y=>.ok (y,q)):=hid (by unfold Zbz;rw[ht,htx];simp only;cases ZbA t <;> rfl)
  clear HC ht hq htx
  go_wp2_with fail
  refine(ZtJ tx A m w1 hts (HGD.v.below H01.out) (HGD.t.low H01.out HGD.n) (Nat.le_trans HGD.n H01.size)).mono ?_
  rintro e w2 ⟨v,ok,rfl,HSR,hb2⟩
  have HG2:Hid (w.grownBy w2 (some b)):=hid (Zef HG1.out hb2)
  have HX2:=hid (HX1.below hb2)
  have H02:Hid (Below w0.heap.size w0 w2):=hid (ZbQ H0.out HG2.out HGD.b)
  have HR2:=hid (HR1.below hb2)
  have hx2:=HX2.lt
  clear hb2 HX1 HG1 H01 HR1
  cases hp1:ZbA (bl tx)with
  | none=>
   rw[hp1]at HSR
   obtain⟨rfl,rfl⟩:=HSR.out
   have HY:Hid (Zbz (bl s) p=.error (9,p)):=hid (by rw[HXP.out,hp1])
   clear HSR hp1 HXP
   go_wp2_with fail
   refine Zn fun W3 hW3=>?_
   have hb3:Below w2.heap.size w2 W3:=by rw[hW3];exact Zbal
   have HG3:Hid (w.grownBy W3 (some b)):=hid (Zef HG2.out hb3)
   have HX3:=hid (HX2.below hb3)
   have H03:Hid (Below w0.heap.size w0 W3):=hid (ZbQ H0.out HG3.out HGD.b)
   have HR3:=hid (HR2.below hb3)
   clear hW3 hb3 HG2 HX2 H02 HR2
   refine(ZeO _ _ _ (HGD.code H03.out)).mono ?_
   rintro e w4 ⟨v,rfl,hv,hb4⟩
   have HF:Hid (RdC ZcX Zet w4 b s (A 8) (Zbz (bl s) p) (.agg #[.string ⟨#[]⟩,.slice none 0 0,.int .i64 0]) v):=hid (RdC.mkErr HY.out ⟨rfl,hv.out,rfl,_,HR3.below hb4⟩)
   have HG4:Hid (w.grownBy w4 (some b)):=hid (Zef HG3.out hb4)
   have HX4:=hid (HX3.below hb4)
   obtain⟨fa,rfl⟩:=ZB.shape hv.out
   clear hv hb4 HX3 HG3 H03 HR3
   have f0:=HX4.frozen 0
   have f1:=HX4.frozen 1
   have f2:=HX4.frozen 2
   have c0:=HX4.cell 0
   have c1:=HX4.cell 1
   have c2:=HX4.cell 2
   simp only[Zget]at c0 c1 c2
   go_wp2
   change bodyPost _ _ _ _ _ (set3 w4 w.heap.size (.string ⟨#[]⟩) (.slice none 0 0) (.int .i64 0))
   have st:=Zb7 HX4.out (x:=.string ⟨#[]⟩) (y:=.slice none 0 0) (z:=.int .i64 0)
   have s0:=st.cell 0
   have s1:=st.cell 1
   have s2:=st.cell 2
   simp only[Zget]at s0 s1 s2
   have HE2:=hid (HF.kept (ZeJ w4 w.heap.size (.string ⟨#[]⟩) (.slice none 0 0) (.int .i64 0)) HX4.out (by decide) (by decide) (fun _ h=>h.kept1 HX4.out (ZeJ w4 w.heap.size (.string ⟨#[]⟩) (.slice none 0 0) (.int .i64 0)) (by decide)))
   have HGX:=hid (Zeo HG4.out (Nat.le_refl _) (.string ⟨#[]⟩) (.slice none 0 0) (.int .i64 0))
   generalize set3 w4 w.heap.size (.string ⟨#[]⟩) (.slice none 0 0) (.int .i64 0)=WX at *
   exact bodyPost_ret (v:=.tuple #[.agg #[.string ⟨#[]⟩,.slice none 0 0,.int .i64 0],.iface 115 (.pointer (some ⟨fa,0,none⟩))]) (by simp[results,Tryz.results139,go_sem,s0,s1,s2]) rfl ⟨_,_,rfl,HE2,HGX.out⟩
  | some y=>
   rw[hp1]at HSR
   obtain⟨rfl,hpv⟩:=HSR.out
   have HPV:=hid hpv
   obtain⟨z,rfl,hz2,hz3⟩:=hpv
   have HY:Hid (Zbz (bl s) p=.ok (y,q)):=hid (by rw[HXP.out,hp1])
   have HF:Hid (RdC ZcX Zet w2 b s (A 8) (Zbz (bl s) p) (.agg #[.string z.nm,.slice z.la z.ln z.lc,.int .i64 z.n]) .nilIface):=hid (RdC.mkOk HY.out ⟨rfl,HPV.out,HR2.out⟩)
   clear HSR hp1 HXP hz2 hz3 HPV
   have f0:=HX2.frozen 0
   have f1:=HX2.frozen 1
   have f2:=HX2.frozen 2
   have c0:=HX2.cell 0
   have c1:=HX2.cell 1
   have c2:=HX2.cell 2
   simp only[Zget]at c0 c1 c2
   go_wp2
   change bodyPost _ _ _ _ _ ((set3 w2 w.heap.size (.string z.nm) (.slice z.la z.ln z.lc) (.int .i64 z.n)).alloc (.cells #[.string z.nm,.slice z.la z.ln z.lc,.int .i64 z.n] 294))
   have st:=(Zb7 HX2.out (x:=.string z.nm) (y:=.slice z.la z.ln z.lc) (z:=.int .i64 z.n)).below ((Below.refl _ _).alloc (Nat.le_refl _) (.cells #[.string z.nm,.slice z.la z.ln z.lc,.int .i64 z.n] 294))
   have s0:=st.cell 0
   have s1:=st.cell 1
   have s2:=st.cell 2
   simp only[Zget]at s0 s1 s2
   have HE1:=hid (HF.kept (ZeJ w2 w.heap.size (.string z.nm) (.slice z.la z.ln z.lc) (.int .i64 z.n)) HX2.out (by decide) (by decide) (fun _ h=>h.kept1 HX2.out (ZeJ w2 w.heap.size (.string z.nm) (.slice z.la z.ln z.lc) (.int .i64 z.n)) (by decide)))
   obtain⟨g1,g2,g3⟩:=HE1.ok HY.out
   have HE2:Hid (RdC ZcX Zet ((set3 w2 w.heap.size (.string z.nm) (.slice z.la z.ln z.lc) (.int .i64 z.n)).alloc (.cells #[.string z.nm,.slice z.la z.ln z.lc,.int .i64 z.n] 294)) b s (A 8) (Zbz (bl s) p) (.agg #[.string z.nm,.slice z.la z.ln z.lc,.int .i64 z.n]) .nilIface):=hid (RdC.mkOk HY.out ⟨rfl,g2.below Zbal,g3.below Zbal⟩)
   have HGX:=hid (ZbE (Zeo HG2.out (Nat.le_refl _) (.string z.nm) (.slice z.la z.ln z.lc) (.int .i64 z.n)) (.cells #[.string z.nm,.slice z.la z.ln z.lc,.int .i64 z.n] 294))
   clear g1 g2 g3 HE1
   generalize(set3 w2 w.heap.size (.string z.nm) (.slice z.la z.ln z.lc) (.int .i64 z.n)).alloc (.cells #[.string z.nm,.slice z.la z.ln z.lc,.int .i64 z.n] 294)=WX at *
   exact bodyPost_ret (v:=.tuple #[.agg #[.string z.nm,.slice z.la z.ln z.lc,.int .i64 z.n],.nilIface]) (by simp[results,Tryz.results139,go_sem,s0,s1,s2]) rfl ⟨_,_,rfl,HE2,HGX.out⟩
end Go.Proofs.YtkodhpilkaihjaaGreatDoor

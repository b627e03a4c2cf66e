/- Parts. -/
import Derived.Test.YtkodhpilkaihjaaGreatDoorF31
set_option maxRecDepth 100000
set_option maxHeartbeats 16000000
namespace Go.Proofs.YtkodhpilkaihjaaGreatDoor
open Go.RowKit LS
def Zbv(l:List UInt8):RdR CodeQ:=match Zcy l with
 | .error e=>.error e
 | .ok n => match many (Zbw l) 9 n.1 with
   | .error e=>.error e
   | .ok cs => match many (Zbz l) cs.2 n.2.1 with
     | .error e=>.error e
     | .ok ps => match many (Zbx l) ps.2 n.2.2.1 with
       | .error e=>.error e
       | .ok gs => match many (Zbi l) gs.2 n.2.2.2 with
         | .error e=>.error e
         | .ok is=>.ok (⟨cs.1,ps.1,gs.1,is.1⟩,is.2)
theorem Zkg(l:List UInt8):Zbg l=match Zbv l with
  | .error e=>.error e
  | .ok x => if l.length < x.2 + 4 then .error (9, l.length) else if x.2 + 4 < l.length then .error (9, x.2 + 4) else
    if back (l.drop x.2)≠sumQ (l.take x.2)then .error (10,0)else .ok x.1:=by
 unfold Zbg Zbv
 cases Zcy l with
 | error e=>rfl
 | ok n=>
  simp only
  cases many (Zbw l) 9 n.1 with
  | error e=>rfl
  | ok cs=>
   simp only
   cases many (Zbz l) cs.2 n.2.1 with
   | error e=>rfl
   | ok ps=>
    simp only
    cases many (Zbx l) ps.2 n.2.2.1 with
    | error e=>rfl
    | ok gs=>
     simp only
     cases many (Zbi l) gs.2 n.2.2.2 with
     | error e=>rfl
     | ok is=>rfl
structure CodeV (w:World) (c:CodeQ) (cv pv gv iv:Value):Prop where
 cs:ZdP w c.consts cv
 ps:ZdT w c.picks pv
 gs:ZdQ w c.groups gv
 is:InsV w c.ins iv
def CodV(w:World)(c:CodeQ)(v:Value):Prop:=∃cv pv gv iv,v=.agg #[cv,pv,gv,iv]/\CodeV w c cv pv gv iv
def CodZ(v:Value):Prop:=∃(a0 a1 a2 a3:Option Addr) (n0 n1 n2 n3 c0 c1 c2 c3:Nat),v=.agg #[.slice a0 n0 c0,.slice a1 n1 c1,.slice a2 n2 c2,.slice a3 n3 c3]
theorem ZdP.kept1{w w':World}{l:List Int}{v:Value}(h:ZdP w l v){b:Nat}{c:List Value}{t:TypeId}(hq:BAt w b c t)(hg:w.grownBy w' (some b))(he:t≠3):ZdP w' l v:=Zfu h hq hg he
theorem InsV.kept1{w w':World}{l:List (Nat×Nat)}{v:Value}(h:InsV w l v){b:Nat}{c:List Value}{t:TypeId}(hq:BAt w b c t)(hg:w.grownBy w' (some b))(he:t≠184):InsV w' l v:=Zfu h hq hg he
theorem ZdT.kept1{w w':World}{l:List (Nd×Nat)}{v:Value}(h:ZdT w l v){b:Nat}{c:List Value}{t:TypeId}(hq:BAt w b c t)(hg:w.grownBy w' (some b))(he:t≠294)(he2:t≠379):ZdT w' l v:=by
 obtain⟨xs,h1,h2,h3⟩:=h;exact⟨xs,Zfu h1 hq hg he,h2,fun x hx=>(h3 x hx).kept1 hq hg he2⟩
theorem ZdQ.kept1{w w':World}{l:List (List (List UInt8))}{v:Value}(h:ZdQ w l v){b:Nat}{c:List Value}{t:TypeId}(hq:BAt w b c t)(hg:w.grownBy w' (some b))(he:t≠90)(he2:t≠9):ZdQ w' l v:=by
 obtain⟨xs,h1,h2,h3⟩:=h;exact⟨xs,Zfu h1 hq hg he,h2,fun x hx=>(h3 x hx).kept1 hq hg he2⟩
theorem ZdP.shape{w:World}{l:List Int}{v:Value}(h:ZdP w l v):∃a c,v=.slice a l.length c:=Zr h
theorem InsV.shape{w:World}{l:List (Nat×Nat)}{v:Value}(h:InsV w l v):∃a c,v=.slice a l.length c:=Zr h
theorem ZdT.shape{w:World}{l:List (Nd×Nat)}{v:Value}(h:ZdT w l v):∃a c,v=.slice a l.length c:=by
 obtain⟨xs,h1,h2,_⟩:=h;obtain⟨a,c,e⟩:=Zr h1;exact⟨a,c,by rw[e,<-h2,List.length_map]⟩
theorem ZdQ.shape{w:World}{l:List (List (List UInt8))}{v:Value}(h:ZdQ w l v):∃a c,v=.slice a l.length c:=by
 obtain⟨xs,h1,h2,_⟩:=h;obtain⟨a,c,e⟩:=Zr h1;exact⟨a,c,by rw[e,<-h2,List.length_map]⟩
theorem CodV.kept1{w w':World}{l:CodeQ}{v:Value}(h:CodV w l v){b:Nat}{c:List Value}{t:TypeId}(hq:BAt w b c t)(hg:w.grownBy w' (some b))(h1:t≠3)(h2:t≠294)(h3:t≠379)(h4:t≠90)(h5:t≠9)(h6:t≠184):CodV w' l v:=by
 obtain⟨cv,pv,gv,iv,e,h⟩:=h
 exact⟨cv,pv,gv,iv,e,h.cs.kept1 hq hg h1,h.ps.kept1 hq hg h2 h3,h.gs.kept1 hq hg h4 h5,h.is.kept1 hq hg h6⟩
theorem BAt.setk{w:World}{a:Nat}{c:List Value}{t:TypeId}(h:BAt w a c t)(i:Nat)(v:Value):BAt (w.setCell ⟨a,i,none⟩ v) a (c.set i v) t:=by
 unfold BAt at h ⊢
 simp only[World.setCell,Array.getElem?_modify,h,if_true,Option.map_some]
 show some (Obj.cells (c.toArray.setIfInBounds i v) t (0,0))=_
 rw[List.setIfInBounds_toArray]
def set4(w:World)(a:Nat)(x y z u:Value):World:=(((w.setCell ⟨a,0,none⟩ x).setCell ⟨a,1,none⟩ y).setCell ⟨a,2,none⟩ z).setCell ⟨a,3,none⟩ u
theorem Zdh{w:World}{a:Nat}{p0 p1 p2 p3 x y z u:Value}{t:TypeId}(h:BAt w a [p0,p1,p2,p3] t):BAt (set4 w a x y z u) a [x,y,z,u] t:=
 (((h.setk 0 x).setk 1 y).setk 2 z).setk 3 u
theorem Zcg(w:World)(a:Nat)(x y z u:Value):w.grownBy (set4 w a x y z u) (some a):=Zo (Zo (Zo (Zo (Zbc w (some a)) (Or.inl rfl) _) (Or.inl rfl) _) (Or.inl rfl) _) (Or.inl rfl) _
theorem Ze7{w0 w:World}{a b:Nat}(h:w0.grownBy w (some b))(ha:w0.heap.size<=a)(x y z u:Value):w0.grownBy (set4 w a x y z u) (some b):=
 Zo (Zo (Zo (Zo h (Or.inr ha) _) (Or.inr ha) _) (Or.inr ha) _) (Or.inr ha) _
def cntB(l:List UInt8)(k j:Nat):Value:=.int .i64 ((if j<k then back (sub l (1+2*j) 2)else 0:Nat):Int)
def cntL(l:List UInt8)(k:Nat):List Value:=[cntB l k 0,cntB l k 1,cntB l k 2,cntB l k 3]
theorem ZeF{α:Type}{one:Nat->RdR α}{p n:Nat}(h1:∀p x,one p=.ok x->x.2<=n)(hp:p<=n):∀ {k:Nat} {xs:List α} {q:Nat},many one p k=.ok (xs,q)->q<=n
 | 0,xs,q,h=>by injection h with h;injection h with _ h2;omega
 | k + 1, xs, q, h => by
   unfold many at h
   cases hm:many one p k with
   | error e=>rw[hm]at h;cases h
   | ok x=>
     rw[hm]at h
     simp only at h
     cases ho:one x.2 with
     | error e=>rw[ho]at h;cases h
     | ok y=>
       rw[ho]at h
       injection h with h;injection h with _ h2
       have:=h1 _ _ ho
       omega
theorem ZpW{l:List UInt8}(h:l.head?=some 103){k:Nat}(hk:k<4){x:Nat×Nat}(hx:Z8 l (1+2*k) 2=.error x):Zcy l=.error x:=by
 unfold Z8 at hx
 cases ht:ZbT l (1+2*k) 2 with
 | ok y=>rw[ht]at hx;cases hx
 | error e=>
  rw[ht]at hx
  injection hx with hx
  subst hx
  unfold ZbT at ht
  split at ht
  ·injection ht with ht
   subst ht
   unfold Zcy
   rw[if_neg (by rw[h];simp),if_pos (by omega)]
  ·cases ht
theorem ZpU{l:List UInt8}(h:l.head?=some 103)(hl:9<=l.length):Zcy l=.ok (back (sub l 1 2),back (sub l 3 2),back (sub l 5 2),back (sub l 7 2)):=by
 unfold Zcy;rw[if_neg (by rw[h];simp),if_neg (by omega)]
theorem ZnU{l:List UInt8}{x:Unit×Nat}(h:Zc8 l=.ok x):l.head?=some 103/\x.2=1:=by
 unfold Zc8 at h
 by_cases e:l.head?=some 103
 ·rw[if_neg (by rw[e];simp)]at h;injection h with h;subst h;exact⟨e,rfl⟩
 ·rw[if_pos e]at h;cases h
theorem ZnT{l:List UInt8}{x:Nat×Nat}(h:Zc8 l=.error x):Zbv l=.error x:=by
 unfold Zc8 at h
 by_cases e:l.head?=some 103
 ·rw[if_neg (by rw[e];simp)]at h;cases h
 ·rw[if_pos e]at h;injection h with h;subst h
  unfold Zbv Zcy;rw[if_pos e]
theorem CodZ.zero:CodZ (.agg #[.slice none 0 0,.slice none 0 0,.slice none 0 0,.slice none 0 0]):=⟨none,none,none,none,0,0,0,0,0,0,0,0,rfl⟩
theorem ZtG(s:ByteArray)(b:Nat)(A:Nat->Addr)(m:Int)(w0 w:World)(hG:Ground w0 A m b)(hs:s.size<=maxLen)(h0:Below w0.heap.size w0 w)(hr:RdAt w b s 0) :
  Calls Tryz.prog 74 #[.pointer (some ⟨b,0,none⟩)] w fun e w'=>∃v err,e=.returned (.tuple #[v,err])/\Hid (RdC CodV CodZ w' b s (A 8) (Zbv (bl s)) v err)/\w.grownBy w' (some b):=by
 have hbl:=hr.lt
 have HGD:=hid hG
 have HSZ:=hid hs
 have H0:=hid h0
 have HR0:=hid hr
 clear hr h0 hG hs
 go_enter Tryz.func74,Tryz.ntmps74
 go_wp2_with fail
 refine Zn fun W hW=>?_
 have hbW:Below w.heap.size w W:=by rw[hW];exact Zbal.alloc (by simp) _
 have HXW:Hid (BAt W w.heap.size [.slice none 0 0,.slice none 0 0,.slice none 0 0,.slice none 0 0] 58):=hid (by
  rw[hW];exact(Zbal.block _ (by simp)).trans (Go.Deep.blk_alloc_new _ _))
 have HYW:Hid (BAt W (w.heap.size+1) [.slice none 0 0,.slice none 0 0,.slice none 0 0,.slice none 0 0] 58):=hid (by
  rw[hW];have:=Go.Deep.blk_alloc_new (w.alloc (.cells #[.slice none 0 0,.slice none 0 0,.slice none 0 0,.slice none 0 0] 58)) (.cells #[.slice none 0 0,.slice none 0 0,.slice none 0 0,.slice none 0 0] 58);rwa [Go.Deep.nblk_alloc]at this)
 have HGW:Hid (w.grownBy W (some b)):=hid (Zu hbW)
 have H0W:Hid (Below w0.heap.size w0 W):=hid (ZbQ H0.out HGW.out HGD.b)
 have HRW:=hid (HR0.below hbW)
 clear hW hbW
 refine(ZtF s b _ W HRW.out (HGD.code H0W.out) HGD.ng HSZ.out).mono ?_
 rintro e w1 ⟨err,rfl,HC,hg1⟩
 have HG1:Hid (w.grownBy w1 (some b)):=hid (Zf HGW.out hg1)
 have HX1:=hid (HXW.grown hg1 (by intro e;injection e with e;omega))
 have HY1:=hid (HYW.grown hg1 (by intro e;injection e with e;omega))
 have H01:Hid (Below w0.heap.size w0 w1):=hid (ZbQ H0.out HG1.out HGD.b)
 clear hg1 HGW HXW HYW H0W HRW
 have f0:=HX1.frozen 0
 have f1:=HX1.frozen 1
 have f2:=HX1.frozen 2
 have f3:=HX1.frozen 3
 have c0:=HX1.cell 0
 have c1:=HX1.cell 1
 have c2:=HX1.cell 2
 have c3:=HX1.cell 3
 have d0:=HY1.cell 0
 have d1:=HY1.cell 1
 have d2:=HY1.cell 2
 have d3:=HY1.cell 3
 have g0:=HY1.frozen 0
 have g1:=HY1.frozen 1
 have g2:=HY1.frozen 2
 have g3:=HY1.frozen 3
 simp only[Zget]at c0 c1 c2 c3 d0 d1 d2 d3
 cases ht:Zc8 (bl s)with
 | error x=>
  obtain⟨fa,rfl⟩:=HC.errShape ht
  have HBE:=hid (ZnT ht)
  have HF:Hid (RdC CodV CodZ w1 b s (A 8) (Zbv (bl s)) (.agg #[.slice none 0 0,.slice none 0 0,.slice none 0 0,.slice none 0 0]) (.iface 115 (.pointer (some ⟨fa,0,none⟩)))):=hid (HC.errMap ht HBE.out CodZ.zero)
  clear HC ht
  go_wp2
  change bodyPost _ _ _ _ _ (set4 w1 w.heap.size (.slice none 0 0) (.slice none 0 0) (.slice none 0 0) (.slice none 0 0))
  have st:=Zdh HX1.out (x:=.slice none 0 0) (y:=.slice none 0 0) (z:=.slice none 0 0) (u:=.slice none 0 0)
  have s0:=st.cell 0
  have s1:=st.cell 1
  have s2:=st.cell 2
  have s3:=st.cell 3
  simp only[Zget]at s0 s1 s2 s3
  have HE2:=hid (HF.kept (Zcg w1 w.heap.size (.slice none 0 0) (.slice none 0 0) (.slice none 0 0) (.slice none 0 0)) HX1.out (by decide) (by decide) (fun _ h=>h.kept1 HX1.out (Zcg w1 w.heap.size (.slice none 0 0) (.slice none 0 0) (.slice none 0 0) (.slice none 0 0)) (by decide) (by decide) (by decide) (by decide) (by decide) (by decide)))
  have HGX:=hid (Ze7 HG1.out (Nat.le_refl _) (.slice none 0 0) (.slice none 0 0) (.slice none 0 0) (.slice none 0 0))
  generalize set4 w1 w.heap.size (.slice none 0 0) (.slice none 0 0) (.slice none 0 0) (.slice none 0 0)=WX at *
  exact bodyPost_ret (v:=.tuple #[.agg #[.slice none 0 0,.slice none 0 0,.slice none 0 0,.slice none 0 0],.iface 115 (.pointer (some ⟨fa,0,none⟩))]) (by simp[results,Tryz.results74,go_sem,s0,s1,s2,s3]) rfl ⟨_,_,rfl,HE2,HGX.out⟩
 | ok x=>
  obtain⟨hh1,hx2⟩:=ZnU ht
  obtain⟨rfl,_,hr1⟩:=HC.ok ht
  have HR1:Hid (RdAt w1 b s 1):=hid (by rw[hx2]at hr1;exact hr1)
  have HHD:=hid hh1
  have hs1:1<=s.size:=by
   rcases Nat.lt_or_ge 0 s.size with h|h
   ·exact h
   ·rw[List.eq_nil_of_length_eq_zero (l:=bl s) (by rw[Ze];omega)]at hh1;cases hh1
  clear HC ht hr1 hx2 hh1 c0 c1 c2 c3 d0 d1 d2 d3 f0 f1 f2 f3 g0 g1 g2 g3
  have hx1:=HX1.lt
  have hy1:=HY1.lt
  have HBa:∀o,Below w1.heap.size w1 (w1.alloc o):=fun o=>(Below.refl _ _).alloc (Nat.le_refl _) o
  go_wp2
  go_loopw [17] (fun i wr => ∃ k : Nat, k <= 4 /\ i = .int .i64 k /\ 1 + 2 * k <= s.size /\ Hid (RdAt wr b s (1 + 2 * k)) /\ Hid (BAt wr w1.heap.size (cntL (bl s) k) 287) /\ Hid (BAt wr w.heap.size [.slice none 0 0, .slice none 0 0, .slice none 0 0, .slice none 0 0] 58) /\ Hid (BAt wr (w.heap.size + 1) [.slice none 0 0, .slice none 0 0, .slice none 0 0, .slice none 0 0] 58) /\ Hid (w.grownBy wr (some b)))
    (fun i _=>4 - (intOf i).toNat)
  case atStart=>exact⟨0,Nat.zero_le _,rfl,hs1,hid (HR1.below (HBa _)),hid (Go.Deep.blk_alloc_new w1 _),hid (HX1.below (HBa _)),hid (HY1.below (HBa _)),hid (ZbE HG1.out _)⟩
  case round=>
   obtain⟨k,hk,rfl,hks,HRr,HKr,HXr,HYr,HGr⟩:=hrel
   clear HR1 HX1 HY1 HG1 H01 HBa
   have H0r:Hid (Below w0.heap.size w0 wr):=hid (ZbQ H0.out HGr.out HGD.b)
   by_cases hlt:k<4
   ·have hlz:(k:Int)<4:=by omega
    go_wp2_with fail
    refine(Zgb s (1+2*k) 2 b _ wr HRr.out (HGD.code H0r.out) hks HSZ.out (by omega)).mono ?_
    rintro e w2 ⟨v,err,rfl,HC,hg2⟩
    have HG2:Hid (w.grownBy w2 (some b)):=hid (Zf HGr.out hg2)
    have HX2:=hid (HXr.grown hg2 (by intro e;injection e with e;omega))
    have HY2:=hid (HYr.grown hg2 (by intro e;injection e with e;omega))
    have HK2:=hid (HKr.grown hg2 (by intro e;injection e with e;have:=hbl;omega))
    clear hg2 HRr HKr HXr HYr HGr H0r
    cases hn:Z8 (bl s) (1+2*k) 2 with
    | error x=>
     obtain⟨fa,rfl⟩:=HC.errShape hn
     obtain⟨_,_,rfl,_⟩:=HC.err hn
     have HF:Hid (RdC CodV CodZ w2 b s (A 8) (Zbv (bl s)) (.agg #[.slice none 0 0,.slice none 0 0,.slice none 0 0,.slice none 0 0]) (.iface 115 (.pointer (some ⟨fa,0,none⟩)))):=hid (HC.errMap hn (by unfold Zbv;rw[ZpW HHD.out hlt hn]) CodZ.zero)
     clear HC hn
     have f0:=HX2.frozen 0
     have f1:=HX2.frozen 1
     have f2:=HX2.frozen 2
     have f3:=HX2.frozen 3
     have c0:=HX2.cell 0
     have c1:=HX2.cell 1
     have c2:=HX2.cell 2
     have c3:=HX2.cell 3
     have d0:=HY2.cell 0
     have d1:=HY2.cell 1
     have d2:=HY2.cell 2
     have d3:=HY2.cell 3
     have g0:=HY2.frozen 0
     have g1:=HY2.frozen 1
     have g2:=HY2.frozen 2
     have g3:=HY2.frozen 3
     simp only[Zget]at c0 c1 c2 c3 d0 d1 d2 d3
     go_wp2
     change bodyPost _ _ _ _ _ (set4 w2 w.heap.size (.slice none 0 0) (.slice none 0 0) (.slice none 0 0) (.slice none 0 0))
     have st:=Zdh HX2.out (x:=.slice none 0 0) (y:=.slice none 0 0) (z:=.slice none 0 0) (u:=.slice none 0 0)
     have s0:=st.cell 0
     have s1:=st.cell 1
     have s2:=st.cell 2
     have s3:=st.cell 3
     simp only[Zget]at s0 s1 s2 s3
     have HE2:=hid (HF.kept (Zcg w2 w.heap.size (.slice none 0 0) (.slice none 0 0) (.slice none 0 0) (.slice none 0 0)) HX2.out (by decide) (by decide) (fun _ h=>h.kept1 HX2.out (Zcg w2 w.heap.size (.slice none 0 0) (.slice none 0 0) (.slice none 0 0) (.slice none 0 0)) (by decide) (by decide) (by decide) (by decide) (by decide) (by decide)))
     have HGX:=hid (Ze7 HG2.out (Nat.le_refl _) (.slice none 0 0) (.slice none 0 0) (.slice none 0 0) (.slice none 0 0))
     generalize set4 w2 w.heap.size (.slice none 0 0) (.slice none 0 0) (.slice none 0 0) (.slice none 0 0)=WX at *
     exact bodyPost_ret (v:=.tuple #[.agg #[.slice none 0 0,.slice none 0 0,.slice none 0 0,.slice none 0 0],.iface 115 (.pointer (some ⟨fa,0,none⟩))]) (by simp[results,Tryz.results74,go_sem,s0,s1,s2,s3]) rfl ⟨_,_,rfl,HE2,HGX.out⟩
    | ok x=>
     obtain⟨n,q⟩:=x
     obtain⟨rfl,rfl,hr2⟩:=HC.ok hn
     obtain⟨hn1,hn2,hn3,hn4⟩:=Zd3 hn
     simp only at hn1 hn2 hn3 hn4 hr2
     have HR2:Hid (RdAt w2 b s (1+2*(k+1))):=hid (by rw[hn3]at hr2;exact hr2)
     have hks2:1+2*(k+1)<=s.size:=by rw[Ze]at hn1;omega
     have HNN:Hid (n=back (sub (bl s) (1+2*k) 2)):=hid hn2
     have hk2:=HK2.lt
     have k0:=HK2.cell k
     have kf:=HK2.frozen k
     have HK3:Hid (BAt (w2.setCell ⟨w1.heap.size,k,none⟩ (.int .i64 n)) w1.heap.size (cntL (bl s) (k+1)) 287):=hid (by
      have:=HK2.setk k (.int .i64 n)
      rw[HNN.out]at this ⊢
      rcases(by omega:k=0∨k=1∨k=2∨k=3)with rfl|rfl|rfl|rfl <;> exact this)
     have hne:∀a,a<w1.heap.size->a≠(⟨w1.heap.size,k,none⟩:Addr).block:=fun a h e=>by simp only at e;omega
     have HX3:=hid (HX2.other (p:=⟨w1.heap.size,k,none⟩) (hne _ hx1) (.int .i64 n))
     have HY3:=hid (HY2.other (p:=⟨w1.heap.size,k,none⟩) (hne _ hy1) (.int .i64 n))
     have HR3:=hid (HR2.other (p:=⟨w1.heap.size,k,none⟩) (hne _ (by omega)) (.int .i64 n))
     have HG3:=hid (Zo HG2.out (p:=⟨w1.heap.size,k,none⟩) (Or.inr (by show w.heap.size<=w1.heap.size;omega)) (.int .i64 n))
     have hk0:∃u,w2.cell? ⟨w1.heap.size,k,none⟩=some u:=by
      rw[k0];rcases(by omega:k=0∨k=1∨k=2∨k=3)with rfl|rfl|rfl|rfl <;> exact⟨_,rfl⟩
     obtain⟨u,hu⟩:=hk0
     clear HC hn hr2 hn1 hn2 hn3 hn4 k0 hne HX2 HY2 HR2 HG2 HK2
     go_wp2
     go_roundw
     case rel=>exact⟨k+1,by omega,by go_num,hks2,HR3,HK3,HX3,HY3,HG3⟩
     case measure=>simp[intOf];omega
   ·obtain rfl:k=4:=by omega
    have HKK:Hid (BAt wr w1.heap.size [.int .i64 (back (sub (bl s) 1 2)),.int .i64 (back (sub (bl s) 3 2)),.int .i64 (back (sub (bl s) 5 2)),.int .i64 (back (sub (bl s) 7 2))] 287):=HKr
    have HHQ:=hid (ZpU HHD.out (by rw[Ze];omega))
    have hn0:back (sub (bl s) 1 2)<65536:=Zev (n:=2) (by unfold sub;rw[List.length_take];omega)
    have hn1:back (sub (bl s) 3 2)<65536:=Zev (n:=2) (by unfold sub;rw[List.length_take];omega)
    have hn2:back (sub (bl s) 5 2)<65536:=Zev (n:=2) (by unfold sub;rw[List.length_take];omega)
    have hn3:back (sub (bl s) 7 2)<65536:=Zev (n:=2) (by unfold sub;rw[List.length_take];omega)
    have HBQ:Hid (Zbv (bl s)=match many (Zbw (bl s)) 9 (back (sub (bl s) 1 2))with
     | .error e=>.error e
     | .ok cs => match many (Zbz (bl s)) cs.2 (back (sub (bl s) 3 2)) with
       | .error e=>.error e
       | .ok ps => match many (Zbx (bl s)) ps.2 (back (sub (bl s) 5 2)) with
         | .error e=>.error e
         | .ok gs => match many (Zbi (bl s)) gs.2 (back (sub (bl s) 7 2)) with
           | .error e=>.error e
           | .ok is=>.ok (⟨cs.1,ps.1,gs.1,is.1⟩,is.2)):=hid (by unfold Zbv;rw[HHQ.out])
    generalize back (sub (bl s) 1 2)=N0 at *
    generalize back (sub (bl s) 3 2)=N1 at *
    generalize back (sub (bl s) 5 2)=N2 at *
    generalize back (sub (bl s) 7 2)=N3 at *
    clear HKr HHQ
    have hr9:RdAt wr b s 9:=HRr.out
    have HR9:=hid hr9
    clear hr9 HRr
    have kk0:=HKK.cell 0
    simp only[List.getElem?_cons_zero]at kk0
    go_wp2_with fail
    refine(Zr2 s 9 N0 b _ w0 wr H0r.out HGD.b HR9.out hks (by omega) (Zbw (bl s)) (Zsu HGD.out HSZ.out) (fun p x h _=>by have:=Zh9 h;rwa [Ze]at this)).mono ?_
    rintro e w2 ⟨v,err,rfl,HC,hg2⟩
    have HG0a:Hid (w.grownBy w2 (some b)):=hid (Zf HGr.out hg2)
    have HX0a:=hid (HXr.grown hg2 (by intro e;injection e with e;omega))
    have HY0a:=hid (HYr.grown hg2 (by intro e;injection e with e;omega))
    have HK0a:=hid (HKK.grown hg2 (by intro e;injection e with e;have:=hbl;omega))
    have hx0a:=HX0a.lt
    have hy0a:=HY0a.lt
    have hkl0:=HK0a.lt
    clear hg2 kk0 HR9 HKK HXr HYr HGr H0r
    cases hm:many (Zbw (bl s)) 9 N0 with
    | error x=>
     obtain⟨fa,rfl⟩:=HC.errShape hm
     obtain⟨_,_,rfl,_⟩:=HC.err hm
     have HBE:Hid (Zbv (bl s)=.error x):=hid (by rw[HBQ.out,hm])
     have HF0:Hid (RdC CodV CodZ w2 b s (A 8) (Zbv (bl s)) (.agg #[.slice none 0 0,.slice none 0 0,.slice none 0 0,.slice none 0 0]) (.iface 115 (.pointer (some ⟨fa,0,none⟩)))):=hid (HC.errMap hm HBE.out ⟨_,_,_,_,_,_,_,_,_,_,_,_,rfl⟩)
     clear HC hm HBQ
     have f0:=HX0a.frozen 0
     have f1:=HX0a.frozen 1
     have f2:=HX0a.frozen 2
     have f3:=HX0a.frozen 3
     have c0:=HX0a.cell 0
     have c1:=HX0a.cell 1
     have c2:=HX0a.cell 2
     have c3:=HX0a.cell 3
     have d0:=HY0a.cell 0
     have d1:=HY0a.cell 1
     have d2:=HY0a.cell 2
     have d3:=HY0a.cell 3
     have g0:=HY0a.frozen 0
     have g1:=HY0a.frozen 1
     have g2:=HY0a.frozen 2
     have g3:=HY0a.frozen 3
     simp only[Zget]at c0 c1 c2 c3 d0 d1 d2 d3
     have hgs:w2.grownBy (w2.setCell ⟨w.heap.size+1,0,none⟩ (.slice none 0 0)) (some (w.heap.size+1)):=Zo (Zbc _ _) (Or.inl rfl) _
     have HF:=hid (HF0.kept hgs HY0a.out (by decide) (by decide) (fun _ h=>h.kept1 HY0a.out hgs (by decide) (by decide) (by decide) (by decide) (by decide) (by decide)))
     have HX2:=hid (HX0a.other (p:=⟨w.heap.size+1,0,none⟩) (by show w.heap.size≠w.heap.size+1;omega) (.slice none 0 0))
     have HG2:=hid (Zo HG0a.out (p:=⟨w.heap.size+1,0,none⟩) (Or.inr (by show w.heap.size<=w.heap.size+1;omega)) (.slice none 0 0))
     clear hgs HF0
     go_wp2
     change bodyPost _ _ _ _ _ (set4 (w2.setCell ⟨w.heap.size+1,0,none⟩ (.slice none 0 0)) w.heap.size (.slice none 0 0) (.slice none 0 0) (.slice none 0 0) (.slice none 0 0))
     have st:=Zdh HX2.out (x:=.slice none 0 0) (y:=.slice none 0 0) (z:=.slice none 0 0) (u:=.slice none 0 0)
     have s0:=st.cell 0
     have s1:=st.cell 1
     have s2:=st.cell 2
     have s3:=st.cell 3
     simp only[Zget]at s0 s1 s2 s3
     have HE2:=hid (HF.kept (Zcg (w2.setCell ⟨w.heap.size+1,0,none⟩ (.slice none 0 0)) w.heap.size (.slice none 0 0) (.slice none 0 0) (.slice none 0 0) (.slice none 0 0)) HX2.out (by decide) (by decide) (fun _ h=>h.kept1 HX2.out (Zcg (w2.setCell ⟨w.heap.size+1,0,none⟩ (.slice none 0 0)) w.heap.size (.slice none 0 0) (.slice none 0 0) (.slice none 0 0) (.slice none 0 0)) (by decide) (by decide) (by decide) (by decide) (by decide) (by decide)))
     have HGX:=hid (Ze7 HG2.out (Nat.le_refl _) (.slice none 0 0) (.slice none 0 0) (.slice none 0 0) (.slice none 0 0))
     generalize set4 (w2.setCell ⟨w.heap.size+1,0,none⟩ (.slice none 0 0)) w.heap.size (.slice none 0 0) (.slice none 0 0) (.slice none 0 0) (.slice none 0 0)=WX at *
     exact bodyPost_ret (v:=.tuple #[.agg #[.slice none 0 0,.slice none 0 0,.slice none 0 0,.slice none 0 0],.iface 115 (.pointer (some ⟨fa,0,none⟩))]) (by simp[results,Tryz.results74,go_sem,s0,s1,s2,s3]) rfl ⟨_,_,rfl,HE2,HGX.out⟩
    | ok x=>
     obtain⟨l0,q0⟩:=x
     obtain⟨rfl,hv,hr2⟩:=HC.ok hm
     have HL0:Hid (l0.length=N0):=hid (Zfn hm)
     obtain⟨a0,e0,rfl⟩:=ZdP.shape hv
     have hq0:q0<=s.size:=ZeF (fun p x h=>by have:=Zh9 h;rwa [Ze]at this) hks hm
     have HBQ0:Hid (Zbv (bl s)=match many (Zbz (bl s)) q0 N1 with
      | .error e=>.error e
      | .ok y1 => match many (Zbx (bl s)) y1.2 N2 with
        | .error e=>.error e
        | .ok z2 => match many (Zbi (bl s)) z2.2 N3 with
          | .error e=>.error e
          | .ok u3=>.ok (⟨l0,y1.1,z2.1,u3.1⟩,u3.2)):=hid (by rw[HBQ.out,hm])
     have HVn:=hid hv
     have HRn:=hid hr2
     simp only at HVn HRn
     have hgs:w2.grownBy (w2.setCell ⟨w.heap.size+1,0,none⟩ (.slice a0 l0.length e0)) (some (w.heap.size+1)):=Zo (Zbc _ _) (Or.inl rfl) _
     have HV0:=hid (HVn.kept1 HY0a.out hgs (by decide))
     have HRb:=hid (HRn.other (p:=⟨w.heap.size+1,0,none⟩) (by show b≠w.heap.size+1;omega) (.slice a0 l0.length e0))
     have HXb:=hid (HX0a.other (p:=⟨w.heap.size+1,0,none⟩) (by show w.heap.size≠w.heap.size+1;omega) (.slice a0 l0.length e0))
     have HKb:=hid (HK0a.other (p:=⟨w.heap.size+1,0,none⟩) (by show w1.heap.size≠w.heap.size+1;omega) (.slice a0 l0.length e0))
     have HGb:=hid (Zo HG0a.out (p:=⟨w.heap.size+1,0,none⟩) (Or.inr (by show w.heap.size<=w.heap.size+1;omega)) (.slice a0 l0.length e0))
     have HYb:Hid (BAt (w2.setCell ⟨w.heap.size+1,0,none⟩ (.slice a0 l0.length e0)) (w.heap.size+1) [.slice a0 l0.length e0,.slice none 0 0,.slice none 0 0,.slice none 0 0] 58):=hid (HY0a.setk 0 _)
     have d0:=HY0a.cell 0
     have d1:=HY0a.cell 1
     have d2:=HY0a.cell 2
     have d3:=HY0a.cell 3
     have g0:=HY0a.frozen 0
     have g1:=HY0a.frozen 1
     have g2:=HY0a.frozen 2
     have g3:=HY0a.frozen 3
     simp only[Zget]at d0 d1 d2 d3
     have kk:=HK0a.cell 1
     simp only[Zget]at kk
     clear HC hm hv hr2 hgs HVn HRn  HBQ
     go_wp2_with fail
     refine Zn fun u0 hu=>?_
     rw[<-hu]at HRb HXb HKb HGb HYb HV0
     have HR0b:=HRb
     have HX0b:=HXb
     have HK0b:=HKb
     have HG0b:=HGb
     have HY0b:=HYb
     have H00b:Hid (Below w0.heap.size w0 u0):=hid (ZbQ H0.out HGb.out HGD.b)
     clear hu HRb HXb HKb HGb HYb HX0a HY0a HK0a HG0a d0 d1 d2 d3 g0 g1 g2 g3 kk
     refine(Zr3 s q0 N1 b _ w0 u0 H00b.out HGD.b HR0b.out hq0 (by omega) (Zbz (bl s)) (ZtZ s b A m w0 HGD.out HSZ.out) (fun p x h _=>by have:=ZiW h;rwa [Ze]at this)).mono ?_
     rintro e w3 ⟨v,err,rfl,HC,hg2⟩
     have HG1a:Hid (w.grownBy w3 (some b)):=hid (Zf HG0b.out hg2)
     have HX1a:=hid (HX0b.grown hg2 (by intro e;injection e with e;omega))
     have HY1a:=hid (HY0b.grown hg2 (by intro e;injection e with e;omega))
     have HK1a:=hid (HK0b.grown hg2 (by intro e;injection e with e;have:=hbl;omega))
     have hx1a:=HX1a.lt
     have hy1a:=HY1a.lt
     have hkl1:=HK1a.lt
     have HV0s1:=hid (HV0.kept1 HR0b.out hg2 (by decide))
     clear HV0
     clear hg2 HR0b HK0b HX0b HY0b HG0b H00b
     cases hm:many (Zbz (bl s)) q0 N1 with
     | error x=>
      obtain⟨fa,rfl⟩:=HC.errShape hm
      obtain⟨_,_,rfl,_⟩:=HC.err hm
      have HBE:Hid (Zbv (bl s)=.error x):=hid (by rw[HBQ0.out,hm])
      have HF0:Hid (RdC CodV CodZ w3 b s (A 8) (Zbv (bl s)) (.agg #[.slice a0 l0.length e0,.slice none 0 0,.slice none 0 0,.slice none 0 0]) (.iface 115 (.pointer (some ⟨fa,0,none⟩)))):=hid (HC.errMap hm HBE.out ⟨_,_,_,_,_,_,_,_,_,_,_,_,rfl⟩)
      clear HC hm HBQ0
      have f0:=HX1a.frozen 0
      have f1:=HX1a.frozen 1
      have f2:=HX1a.frozen 2
      have f3:=HX1a.frozen 3
      have c0:=HX1a.cell 0
      have c1:=HX1a.cell 1
      have c2:=HX1a.cell 2
      have c3:=HX1a.cell 3
      have d0:=HY1a.cell 0
      have d1:=HY1a.cell 1
      have d2:=HY1a.cell 2
      have d3:=HY1a.cell 3
      have g0:=HY1a.frozen 0
      have g1:=HY1a.frozen 1
      have g2:=HY1a.frozen 2
      have g3:=HY1a.frozen 3
      simp only[Zget]at c0 c1 c2 c3 d0 d1 d2 d3
      have hgs:w3.grownBy (w3.setCell ⟨w.heap.size+1,1,none⟩ (.slice none 0 0)) (some (w.heap.size+1)):=Zo (Zbc _ _) (Or.inl rfl) _
      have HF:=hid (HF0.kept hgs HY1a.out (by decide) (by decide) (fun _ h=>h.kept1 HY1a.out hgs (by decide) (by decide) (by decide) (by decide) (by decide) (by decide)))
      have HX2:=hid (HX1a.other (p:=⟨w.heap.size+1,1,none⟩) (by show w.heap.size≠w.heap.size+1;omega) (.slice none 0 0))
      have HG2:=hid (Zo HG1a.out (p:=⟨w.heap.size+1,1,none⟩) (Or.inr (by show w.heap.size<=w.heap.size+1;omega)) (.slice none 0 0))
      clear hgs HF0
      go_wp2
      change bodyPost _ _ _ _ _ (set4 (w3.setCell ⟨w.heap.size+1,1,none⟩ (.slice none 0 0)) w.heap.size (.slice a0 l0.length e0) (.slice none 0 0) (.slice none 0 0) (.slice none 0 0))
      have st:=Zdh HX2.out (x:=.slice a0 l0.length e0) (y:=.slice none 0 0) (z:=.slice none 0 0) (u:=.slice none 0 0)
      have s0:=st.cell 0
      have s1:=st.cell 1
      have s2:=st.cell 2
      have s3:=st.cell 3
      simp only[Zget]at s0 s1 s2 s3
      have HE2:=hid (HF.kept (Zcg (w3.setCell ⟨w.heap.size+1,1,none⟩ (.slice none 0 0)) w.heap.size (.slice a0 l0.length e0) (.slice none 0 0) (.slice none 0 0) (.slice none 0 0)) HX2.out (by decide) (by decide) (fun _ h=>h.kept1 HX2.out (Zcg (w3.setCell ⟨w.heap.size+1,1,none⟩ (.slice none 0 0)) w.heap.size (.slice a0 l0.length e0) (.slice none 0 0) (.slice none 0 0) (.slice none 0 0)) (by decide) (by decide) (by decide) (by decide) (by decide) (by decide)))
      have HGX:=hid (Ze7 HG2.out (Nat.le_refl _) (.slice a0 l0.length e0) (.slice none 0 0) (.slice none 0 0) (.slice none 0 0))
      generalize set4 (w3.setCell ⟨w.heap.size+1,1,none⟩ (.slice none 0 0)) w.heap.size (.slice a0 l0.length e0) (.slice none 0 0) (.slice none 0 0) (.slice none 0 0)=WX at *
      exact bodyPost_ret (v:=.tuple #[.agg #[.slice a0 l0.length e0,.slice none 0 0,.slice none 0 0,.slice none 0 0],.iface 115 (.pointer (some ⟨fa,0,none⟩))]) (by simp[results,Tryz.results74,go_sem,s0,s1,s2,s3]) rfl ⟨_,_,rfl,HE2,HGX.out⟩
     | ok x=>
      obtain⟨l1,q1⟩:=x
      obtain⟨rfl,hv,hr2⟩:=HC.ok hm
      have HL1:Hid (l1.length=N1):=hid (Zfn hm)
      obtain⟨a1,e1,rfl⟩:=ZdT.shape hv
      have hq1:q1<=s.size:=ZeF (fun p x h=>by have:=ZiW h;rwa [Ze]at this) hq0 hm
      have HBQ1:Hid (Zbv (bl s)=match many (Zbx (bl s)) q1 N2 with
       | .error e=>.error e
       | .ok z2 => match many (Zbi (bl s)) z2.2 N3 with
         | .error e=>.error e
         | .ok u3=>.ok (⟨l0,l1,z2.1,u3.1⟩,u3.2)):=hid (by rw[HBQ0.out,hm])
      have HVn:=hid hv
      have HRn:=hid hr2
      simp only at HVn HRn
      have hgs:w3.grownBy (w3.setCell ⟨w.heap.size+1,1,none⟩ (.slice a1 l1.length e1)) (some (w.heap.size+1)):=Zo (Zbc _ _) (Or.inl rfl) _
      have HV0:=hid (HV0s1.kept1 HY1a.out hgs (by decide))
      have HV1:=hid (HVn.kept1 HY1a.out hgs (by decide) (by decide))
      have HRb:=hid (HRn.other (p:=⟨w.heap.size+1,1,none⟩) (by show b≠w.heap.size+1;omega) (.slice a1 l1.length e1))
      have HXb:=hid (HX1a.other (p:=⟨w.heap.size+1,1,none⟩) (by show w.heap.size≠w.heap.size+1;omega) (.slice a1 l1.length e1))
      have HKb:=hid (HK1a.other (p:=⟨w.heap.size+1,1,none⟩) (by show w1.heap.size≠w.heap.size+1;omega) (.slice a1 l1.length e1))
      have HGb:=hid (Zo HG1a.out (p:=⟨w.heap.size+1,1,none⟩) (Or.inr (by show w.heap.size<=w.heap.size+1;omega)) (.slice a1 l1.length e1))
      have HYb:Hid (BAt (w3.setCell ⟨w.heap.size+1,1,none⟩ (.slice a1 l1.length e1)) (w.heap.size+1) [.slice a0 l0.length e0,.slice a1 l1.length e1,.slice none 0 0,.slice none 0 0] 58):=hid (HY1a.setk 1 _)
      have d0:=HY1a.cell 0
      have d1:=HY1a.cell 1
      have d2:=HY1a.cell 2
      have d3:=HY1a.cell 3
      have g0:=HY1a.frozen 0
      have g1:=HY1a.frozen 1
      have g2:=HY1a.frozen 2
      have g3:=HY1a.frozen 3
      simp only[Zget]at d0 d1 d2 d3
      have kk:=HK1a.cell 2
      simp only[Zget]at kk
      clear HC hm hv hr2 hgs HVn HRn HV0s1 HBQ0
      go_wp2_with fail
      refine Zn fun u1 hu=>?_
      rw[<-hu]at HRb HXb HKb HGb HYb HV0 HV1
      have HR1b:=HRb
      have HX1b:=HXb
      have HK1b:=HKb
      have HG1b:=HGb
      have HY1b:=HYb
      have H01b:Hid (Below w0.heap.size w0 u1):=hid (ZbQ H0.out HGb.out HGD.b)
      clear hu HRb HXb HKb HGb HYb HX1a HY1a HK1a HG1a d0 d1 d2 d3 g0 g1 g2 g3 kk
      refine(Zr0 s q1 N2 b _ w0 u1 H01b.out HGD.b HR1b.out hq1 (by omega) (Zbx (bl s)) (ZtX s b A m w0 HGD.out HSZ.out) (fun p x h _=>by have:=Zir h;rwa [Ze]at this)).mono ?_
      rintro e w4 ⟨v,err,rfl,HC,hg2⟩
      have HG2a:Hid (w.grownBy w4 (some b)):=hid (Zf HG1b.out hg2)
      have HX2a:=hid (HX1b.grown hg2 (by intro e;injection e with e;omega))
      have HY2a:=hid (HY1b.grown hg2 (by intro e;injection e with e;omega))
      have HK2a:=hid (HK1b.grown hg2 (by intro e;injection e with e;have:=hbl;omega))
      have hx2a:=HX2a.lt
      have hy2a:=HY2a.lt
      have hkl2:=HK2a.lt
      have HV0s2:=hid (HV0.kept1 HR1b.out hg2 (by decide))
      clear HV0
      have HV1s2:=hid (HV1.kept1 HR1b.out hg2 (by decide) (by decide))
      clear HV1
      clear hg2 HR1b HK1b HX1b HY1b HG1b H01b
      cases hm:many (Zbx (bl s)) q1 N2 with
      | error x=>
       obtain⟨fa,rfl⟩:=HC.errShape hm
       obtain⟨_,_,rfl,_⟩:=HC.err hm
       have HBE:Hid (Zbv (bl s)=.error x):=hid (by rw[HBQ1.out,hm])
       have HF0:Hid (RdC CodV CodZ w4 b s (A 8) (Zbv (bl s)) (.agg #[.slice a0 l0.length e0,.slice a1 l1.length e1,.slice none 0 0,.slice none 0 0]) (.iface 115 (.pointer (some ⟨fa,0,none⟩)))):=hid (HC.errMap hm HBE.out ⟨_,_,_,_,_,_,_,_,_,_,_,_,rfl⟩)
       clear HC hm HBQ1
       have f0:=HX2a.frozen 0
       have f1:=HX2a.frozen 1
       have f2:=HX2a.frozen 2
       have f3:=HX2a.frozen 3
       have c0:=HX2a.cell 0
       have c1:=HX2a.cell 1
       have c2:=HX2a.cell 2
       have c3:=HX2a.cell 3
       have d0:=HY2a.cell 0
       have d1:=HY2a.cell 1
       have d2:=HY2a.cell 2
       have d3:=HY2a.cell 3
       have g0:=HY2a.frozen 0
       have g1:=HY2a.frozen 1
       have g2:=HY2a.frozen 2
       have g3:=HY2a.frozen 3
       simp only[Zget]at c0 c1 c2 c3 d0 d1 d2 d3
       have hgs:w4.grownBy (w4.setCell ⟨w.heap.size+1,2,none⟩ (.slice none 0 0)) (some (w.heap.size+1)):=Zo (Zbc _ _) (Or.inl rfl) _
       have HF:=hid (HF0.kept hgs HY2a.out (by decide) (by decide) (fun _ h=>h.kept1 HY2a.out hgs (by decide) (by decide) (by decide) (by decide) (by decide) (by decide)))
       have HX2:=hid (HX2a.other (p:=⟨w.heap.size+1,2,none⟩) (by show w.heap.size≠w.heap.size+1;omega) (.slice none 0 0))
       have HG2:=hid (Zo HG2a.out (p:=⟨w.heap.size+1,2,none⟩) (Or.inr (by show w.heap.size<=w.heap.size+1;omega)) (.slice none 0 0))
       clear hgs HF0
       go_wp2
       change bodyPost _ _ _ _ _ (set4 (w4.setCell ⟨w.heap.size+1,2,none⟩ (.slice none 0 0)) w.heap.size (.slice a0 l0.length e0) (.slice a1 l1.length e1) (.slice none 0 0) (.slice none 0 0))
       have st:=Zdh HX2.out (x:=.slice a0 l0.length e0) (y:=.slice a1 l1.length e1) (z:=.slice none 0 0) (u:=.slice none 0 0)
       have s0:=st.cell 0
       have s1:=st.cell 1
       have s2:=st.cell 2
       have s3:=st.cell 3
       simp only[Zget]at s0 s1 s2 s3
       have HE2:=hid (HF.kept (Zcg (w4.setCell ⟨w.heap.size+1,2,none⟩ (.slice none 0 0)) w.heap.size (.slice a0 l0.length e0) (.slice a1 l1.length e1) (.slice none 0 0) (.slice none 0 0)) HX2.out (by decide) (by decide) (fun _ h=>h.kept1 HX2.out (Zcg (w4.setCell ⟨w.heap.size+1,2,none⟩ (.slice none 0 0)) w.heap.size (.slice a0 l0.length e0) (.slice a1 l1.length e1) (.slice none 0 0) (.slice none 0 0)) (by decide) (by decide) (by decide) (by decide) (by decide) (by decide)))
       have HGX:=hid (Ze7 HG2.out (Nat.le_refl _) (.slice a0 l0.length e0) (.slice a1 l1.length e1) (.slice none 0 0) (.slice none 0 0))
       generalize set4 (w4.setCell ⟨w.heap.size+1,2,none⟩ (.slice none 0 0)) w.heap.size (.slice a0 l0.length e0) (.slice a1 l1.length e1) (.slice none 0 0) (.slice none 0 0)=WX at *
       exact bodyPost_ret (v:=.tuple #[.agg #[.slice a0 l0.length e0,.slice a1 l1.length e1,.slice none 0 0,.slice none 0 0],.iface 115 (.pointer (some ⟨fa,0,none⟩))]) (by simp[results,Tryz.results74,go_sem,s0,s1,s2,s3]) rfl ⟨_,_,rfl,HE2,HGX.out⟩
      | ok x=>
       obtain⟨l2,q2⟩:=x
       obtain⟨rfl,hv,hr2⟩:=HC.ok hm
       have HL2:Hid (l2.length=N2):=hid (Zfn hm)
       obtain⟨a2,e2,rfl⟩:=ZdQ.shape hv
       have hq2:q2<=s.size:=ZeF (fun p x h=>by have:=Zir h;rwa [Ze]at this) hq1 hm
       have HBQ2:Hid (Zbv (bl s)=match many (Zbi (bl s)) q2 N3 with
        | .error e=>.error e
        | .ok u3=>.ok (⟨l0,l1,l2,u3.1⟩,u3.2)):=hid (by rw[HBQ1.out,hm])
       have HVn:=hid hv
       have HRn:=hid hr2
       simp only at HVn HRn
       have hgs:w4.grownBy (w4.setCell ⟨w.heap.size+1,2,none⟩ (.slice a2 l2.length e2)) (some (w.heap.size+1)):=Zo (Zbc _ _) (Or.inl rfl) _
       have HV0:=hid (HV0s2.kept1 HY2a.out hgs (by decide))
       have HV1:=hid (HV1s2.kept1 HY2a.out hgs (by decide) (by decide))
       have HV2:=hid (HVn.kept1 HY2a.out hgs (by decide) (by decide))
       have HRb:=hid (HRn.other (p:=⟨w.heap.size+1,2,none⟩) (by show b≠w.heap.size+1;omega) (.slice a2 l2.length e2))
       have HXb:=hid (HX2a.other (p:=⟨w.heap.size+1,2,none⟩) (by show w.heap.size≠w.heap.size+1;omega) (.slice a2 l2.length e2))
       have HKb:=hid (HK2a.other (p:=⟨w.heap.size+1,2,none⟩) (by show w1.heap.size≠w.heap.size+1;omega) (.slice a2 l2.length e2))
       have HGb:=hid (Zo HG2a.out (p:=⟨w.heap.size+1,2,none⟩) (Or.inr (by show w.heap.size<=w.heap.size+1;omega)) (.slice a2 l2.length e2))
       have HYb:Hid (BAt (w4.setCell ⟨w.heap.size+1,2,none⟩ (.slice a2 l2.length e2)) (w.heap.size+1) [.slice a0 l0.length e0,.slice a1 l1.length e1,.slice a2 l2.length e2,.slice none 0 0] 58):=hid (HY2a.setk 2 _)
       have d0:=HY2a.cell 0
       have d1:=HY2a.cell 1
       have d2:=HY2a.cell 2
       have d3:=HY2a.cell 3
       have g0:=HY2a.frozen 0
       have g1:=HY2a.frozen 1
       have g2:=HY2a.frozen 2
       have g3:=HY2a.frozen 3
       simp only[Zget]at d0 d1 d2 d3
       have kk:=HK2a.cell 3
       simp only[Zget]at kk
       clear HC hm hv hr2 hgs HVn HRn HV0s2 HV1s2 HBQ1
       go_wp2_with fail
       refine Zn fun u2 hu=>?_
       rw[<-hu]at HRb HXb HKb HGb HYb HV0 HV1 HV2
       have HR2b:=HRb
       have HX2b:=HXb
       have HK2b:=HKb
       have HG2b:=HGb
       have HY2b:=HYb
       have H02b:Hid (Below w0.heap.size w0 u2):=hid (ZbQ H0.out HGb.out HGD.b)
       clear hu HRb HXb HKb HGb HYb HX2a HY2a HK2a HG2a d0 d1 d2 d3 g0 g1 g2 g3 kk
       refine(Zr1 s q2 N3 b _ w0 u2 H02b.out HGD.b HR2b.out hq2 (by omega) (Zbi (bl s)) (Zsv HGD.out HSZ.out) (fun p x h _=>by have:=(Zg0 h).1;rwa [Ze]at this)).mono ?_
       rintro e w5 ⟨v,err,rfl,HC,hg2⟩
       have HG3a:Hid (w.grownBy w5 (some b)):=hid (Zf HG2b.out hg2)
       have HX3a:=hid (HX2b.grown hg2 (by intro e;injection e with e;omega))
       have HY3a:=hid (HY2b.grown hg2 (by intro e;injection e with e;omega))
       have HK3a:=hid (HK2b.grown hg2 (by intro e;injection e with e;have:=hbl;omega))
       have hx3a:=HX3a.lt
       have hy3a:=HY3a.lt
       have hkl3:=HK3a.lt
       have HV0s3:=hid (HV0.kept1 HR2b.out hg2 (by decide))
       clear HV0
       have HV1s3:=hid (HV1.kept1 HR2b.out hg2 (by decide) (by decide))
       clear HV1
       have HV2s3:=hid (HV2.kept1 HR2b.out hg2 (by decide) (by decide))
       clear HV2
       clear hg2 HR2b HK2b HX2b HY2b HG2b H02b
       cases hm:many (Zbi (bl s)) q2 N3 with
       | error x=>
        obtain⟨fa,rfl⟩:=HC.errShape hm
        obtain⟨_,_,rfl,_⟩:=HC.err hm
        have HBE:Hid (Zbv (bl s)=.error x):=hid (by rw[HBQ2.out,hm])
        have HF0:Hid (RdC CodV CodZ w5 b s (A 8) (Zbv (bl s)) (.agg #[.slice a0 l0.length e0,.slice a1 l1.length e1,.slice a2 l2.length e2,.slice none 0 0]) (.iface 115 (.pointer (some ⟨fa,0,none⟩)))):=hid (HC.errMap hm HBE.out ⟨_,_,_,_,_,_,_,_,_,_,_,_,rfl⟩)
        clear HC hm HBQ2
        have f0:=HX3a.frozen 0
        have f1:=HX3a.frozen 1
        have f2:=HX3a.frozen 2
        have f3:=HX3a.frozen 3
        have c0:=HX3a.cell 0
        have c1:=HX3a.cell 1
        have c2:=HX3a.cell 2
        have c3:=HX3a.cell 3
        have d0:=HY3a.cell 0
        have d1:=HY3a.cell 1
        have d2:=HY3a.cell 2
        have d3:=HY3a.cell 3
        have g0:=HY3a.frozen 0
        have g1:=HY3a.frozen 1
        have g2:=HY3a.frozen 2
        have g3:=HY3a.frozen 3
        simp only[Zget]at c0 c1 c2 c3 d0 d1 d2 d3
        have hgs:w5.grownBy (w5.setCell ⟨w.heap.size+1,3,none⟩ (.slice none 0 0)) (some (w.heap.size+1)):=Zo (Zbc _ _) (Or.inl rfl) _
        have HF:=hid (HF0.kept hgs HY3a.out (by decide) (by decide) (fun _ h=>h.kept1 HY3a.out hgs (by decide) (by decide) (by decide) (by decide) (by decide) (by decide)))
        have HX2:=hid (HX3a.other (p:=⟨w.heap.size+1,3,none⟩) (by show w.heap.size≠w.heap.size+1;omega) (.slice none 0 0))
        have HG2:=hid (Zo HG3a.out (p:=⟨w.heap.size+1,3,none⟩) (Or.inr (by show w.heap.size<=w.heap.size+1;omega)) (.slice none 0 0))
        clear hgs HF0
        go_wp2
        change bodyPost _ _ _ _ _ (set4 (w5.setCell ⟨w.heap.size+1,3,none⟩ (.slice none 0 0)) w.heap.size (.slice a0 l0.length e0) (.slice a1 l1.length e1) (.slice a2 l2.length e2) (.slice none 0 0))
        have st:=Zdh HX2.out (x:=.slice a0 l0.length e0) (y:=.slice a1 l1.length e1) (z:=.slice a2 l2.length e2) (u:=.slice none 0 0)
        have s0:=st.cell 0
        have s1:=st.cell 1
        have s2:=st.cell 2
        have s3:=st.cell 3
        simp only[Zget]at s0 s1 s2 s3
        have HE2:=hid (HF.kept (Zcg (w5.setCell ⟨w.heap.size+1,3,none⟩ (.slice none 0 0)) w.heap.size (.slice a0 l0.length e0) (.slice a1 l1.length e1) (.slice a2 l2.length e2) (.slice none 0 0)) HX2.out (by decide) (by decide) (fun _ h=>h.kept1 HX2.out (Zcg (w5.setCell ⟨w.heap.size+1,3,none⟩ (.slice none 0 0)) w.heap.size (.slice a0 l0.length e0) (.slice a1 l1.length e1) (.slice a2 l2.length e2) (.slice none 0 0)) (by decide) (by decide) (by decide) (by decide) (by decide) (by decide)))
        have HGX:=hid (Ze7 HG2.out (Nat.le_refl _) (.slice a0 l0.length e0) (.slice a1 l1.length e1) (.slice a2 l2.length e2) (.slice none 0 0))
        generalize set4 (w5.setCell ⟨w.heap.size+1,3,none⟩ (.slice none 0 0)) w.heap.size (.slice a0 l0.length e0) (.slice a1 l1.length e1) (.slice a2 l2.length e2) (.slice none 0 0)=WX at *
        exact bodyPost_ret (v:=.tuple #[.agg #[.slice a0 l0.length e0,.slice a1 l1.length e1,.slice a2 l2.length e2,.slice none 0 0],.iface 115 (.pointer (some ⟨fa,0,none⟩))]) (by simp[results,Tryz.results74,go_sem,s0,s1,s2,s3]) rfl ⟨_,_,rfl,HE2,HGX.out⟩
       | ok x=>
        obtain⟨l3,q3⟩:=x
        obtain⟨rfl,hv,hr2⟩:=HC.ok hm
        have HL3:Hid (l3.length=N3):=hid (Zfn hm)
        obtain⟨a3,e3,rfl⟩:=InsV.shape hv
        have hq3:q3<=s.size:=ZeF (fun p x h=>by have:=(Zg0 h).1;rwa [Ze]at this) hq2 hm
        have HBQ3:Hid (Zbv (bl s)=.ok (⟨l0,l1,l2,l3⟩,q3)):=hid (by rw[HBQ2.out,hm])
        have HVn:=hid hv
        have HRn:=hid hr2
        simp only at HVn HRn
        have hgs:w5.grownBy (w5.setCell ⟨w.heap.size+1,3,none⟩ (.slice a3 l3.length e3)) (some (w.heap.size+1)):=Zo (Zbc _ _) (Or.inl rfl) _
        have HV0:=hid (HV0s3.kept1 HY3a.out hgs (by decide))
        have HV1:=hid (HV1s3.kept1 HY3a.out hgs (by decide) (by decide))
        have HV2:=hid (HV2s3.kept1 HY3a.out hgs (by decide) (by decide))
        have HV3:=hid (HVn.kept1 HY3a.out hgs (by decide))
        have HRb:=hid (HRn.other (p:=⟨w.heap.size+1,3,none⟩) (by show b≠w.heap.size+1;omega) (.slice a3 l3.length e3))
        have HXb:=hid (HX3a.other (p:=⟨w.heap.size+1,3,none⟩) (by show w.heap.size≠w.heap.size+1;omega) (.slice a3 l3.length e3))
        have HKb:=hid (HK3a.other (p:=⟨w.heap.size+1,3,none⟩) (by show w1.heap.size≠w.heap.size+1;omega) (.slice a3 l3.length e3))
        have HGb:=hid (Zo HG3a.out (p:=⟨w.heap.size+1,3,none⟩) (Or.inr (by show w.heap.size<=w.heap.size+1;omega)) (.slice a3 l3.length e3))
        have HYb:Hid (BAt (w5.setCell ⟨w.heap.size+1,3,none⟩ (.slice a3 l3.length e3)) (w.heap.size+1) [.slice a0 l0.length e0,.slice a1 l1.length e1,.slice a2 l2.length e2,.slice a3 l3.length e3] 58):=hid (HY3a.setk 3 _)
        have f0:=HX3a.frozen 0
        have f1:=HX3a.frozen 1
        have f2:=HX3a.frozen 2
        have f3:=HX3a.frozen 3
        have c0:=HX3a.cell 0
        have c1:=HX3a.cell 1
        have c2:=HX3a.cell 2
        have c3:=HX3a.cell 3
        have d0:=HY3a.cell 0
        have d1:=HY3a.cell 1
        have d2:=HY3a.cell 2
        have d3:=HY3a.cell 3
        have g0:=HY3a.frozen 0
        have g1:=HY3a.frozen 1
        have g2:=HY3a.frozen 2
        have g3:=HY3a.frozen 3
        simp only[Zget]at c0 c1 c2 c3 d0 d1 d2 d3
        have HF:Hid (RdC CodV CodZ (w5.setCell ⟨w.heap.size+1,3,none⟩ (.slice a3 l3.length e3)) b s (A 8) (Zbv (bl s)) (.agg #[.slice a0 l0.length e0,.slice a1 l1.length e1,.slice a2 l2.length e2,.slice a3 l3.length e3]) .nilIface):=hid (RdC.mkOk HBQ3.out ⟨rfl,⟨_,_,_,_,rfl,HV0.out,HV1.out,HV2.out,HV3.out⟩,HRb.out⟩)
        clear HC hm hv hr2 hgs HVn HRn HBQ2 HBQ3
        go_wp2
        change bodyPost _ _ _ _ _ (set4 (w5.setCell ⟨w.heap.size+1,3,none⟩ (.slice a3 l3.length e3)) w.heap.size (.slice a0 l0.length e0) (.slice a1 l1.length e1) (.slice a2 l2.length e2) (.slice a3 l3.length e3))
        have st:=Zdh HXb.out (x:=.slice a0 l0.length e0) (y:=.slice a1 l1.length e1) (z:=.slice a2 l2.length e2) (u:=.slice a3 l3.length e3)
        have s0:=st.cell 0
        have s1:=st.cell 1
        have s2:=st.cell 2
        have s3:=st.cell 3
        simp only[Zget]at s0 s1 s2 s3
        have HE2:=hid (HF.kept (Zcg (w5.setCell ⟨w.heap.size+1,3,none⟩ (.slice a3 l3.length e3)) w.heap.size (.slice a0 l0.length e0) (.slice a1 l1.length e1) (.slice a2 l2.length e2) (.slice a3 l3.length e3)) HXb.out (by decide) (by decide) (fun _ h=>h.kept1 HXb.out (Zcg (w5.setCell ⟨w.heap.size+1,3,none⟩ (.slice a3 l3.length e3)) w.heap.size (.slice a0 l0.length e0) (.slice a1 l1.length e1) (.slice a2 l2.length e2) (.slice a3 l3.length e3)) (by decide) (by decide) (by decide) (by decide) (by decide) (by decide)))
        have HGX:=hid (Ze7 HGb.out (Nat.le_refl _) (.slice a0 l0.length e0) (.slice a1 l1.length e1) (.slice a2 l2.length e2) (.slice a3 l3.length e3))
        generalize set4 (w5.setCell ⟨w.heap.size+1,3,none⟩ (.slice a3 l3.length e3)) w.heap.size (.slice a0 l0.length e0) (.slice a1 l1.length e1) (.slice a2 l2.length e2) (.slice a3 l3.length e3)=WX at *
        exact bodyPost_ret (v:=.tuple #[.agg #[.slice a0 l0.length e0,.slice a1 l1.length e1,.slice a2 l2.length e2,.slice a3 l3.length e3],.nilIface]) (by simp[results,Tryz.results74,go_sem,s0,s1,s2,s3]) rfl ⟨_,_,rfl,HE2,HGX.out⟩
end Go.Proofs.YtkodhpilkaihjaaGreatDoor

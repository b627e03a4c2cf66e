/- Parts. -/
import Derived.Test.YtcdgkkfipdoeeaaGreatDoorT24
import Derived.Test.YtcdgkkfipdoeeaaGreatDoorT20
import Derived.Laws.OwnMore
import Derived.Test.YtcdgkkfipdoeeaaGreatDoorT05
set_option maxRecDepth 100000
set_option maxHeartbeats 16000000
namespace Go.Proofs.YtcdgkkfipdoeeaaGreatDoor
open Go.RowKit LS
section
variable {w0 w w' w1 w2:World} {v:Value} {l:List UInt8}
structure CodeOk (q:CodeQ):Prop where
 c:q.consts.length<=1000000
 s:q.picks.length<=400000
 g:q.groups.length<=400000
 i:q.ins.length<=1000000
 sw:∀y∈q.picks,SelW y
 gw:∀x∈q.groups,nw x<=100000
theorem WrS.new(w:World)(b:UInt8):WrS w (w.alloc (.cells #[u8V b] 5)) (.slice (some ⟨w.heap.size,0,none⟩) 1 1) [b]:=⟨World.ownsRow_lit w #[u8V b] 1 (Nat.le_refl _) (by unfold maxLen;omega) rfl,Zbal⟩
theorem ZgR{α:Type}(f:α->List UInt8)(l:List α)(k:Nat)(h:k<l.length):(l.take (k+1)).flatMap f=(l.take k).flatMap f++f l[k]:=by
 rw[List.take_succ_eq_append_getElem h,List.flatMap_append];simp
theorem Zcl.at:∀ {a:List SelC} {b:List (Nd×Nat)},Zcl w a b->∀(k:Nat) (h1:k<a.length) (h2:k<b.length),ZdW w a[k] b[k]
 | [],[],_,_,h1,_=>absurd h1 (Nat.not_lt_zero _)
 | _::_,_::_,h,0,_,_=>h.1
 | _::_,_::_,h,k+1,h1,h2=>Zcl.at h.2 k (Nat.lt_of_succ_lt_succ h1) (Nat.lt_of_succ_lt_succ h2)
theorem Zbu.at:∀ {a:List RowC} {b:List (List (List UInt8))},Zbu w a b->∀(k:Nat) (h1:k<a.length) (h2:k<b.length),Z4 w (rowV a[k]) b[k]
 | [],[],_,_,h1,_=>absurd h1 (Nat.not_lt_zero _)
 | _::_,_::_,h,0,_,_=>h.1
 | _::_,_::_,h,k+1,h1,h2=>Zbu.at h.2 k (Nat.lt_of_succ_lt_succ h1) (Nat.lt_of_succ_lt_succ h2)
theorem Zsi{n:Nat}(h:n<=1000000):((n:Int) % 4294967296).toNat=n:=by omega
theorem Zif(l:List UInt8)(n k:Nat):(l++digL n k).length=l.length+k:=by rw[List.length_append,Zc5]
theorem Zg7{B n c:Nat}{e:TypeId}{sz:Nat}{a:Option Addr}{xs:List Value}(h:w.ownsRow B e sz (.slice a n c) n xs)(hn:0<n):∃b,a=some ⟨b,0,none⟩:=by
 obtain⟨b,c',e⟩:=ZW h hn
 injection e with e _ _
 exact⟨b,e⟩
theorem WrS.conv{a:Option Addr}{n c:Nat}(h:WrS w0 w (.slice a n c) l)(h0:0<n):n=l.length/\(convert 87 9 (.slice a n c)).run Tryz.prog w=.ok (.string ⟨l.toArray⟩) w:=by
 obtain⟨a2,c2,e⟩:=h.shape
 injection e with _ e2 _
 subst e2
 obtain⟨b,rfl⟩:=Zg7 h.row h0
 refine⟨rfl,run_convert_bytes_back _ _ _ 5 ⟨b,0,none⟩ c l Tryz.underlying87 Tryz.underlying5 Tryz.underlying9 ?_⟩
 intro j hj
 have h1:w.cell? ⟨b,j,none⟩=some (.int .u8 (l[j].toNat:Int)):=Zr h.row j _ (by rw[List.getElem?_map,List.getElem?_eq_getElem hj];rfl)
 by_cases h0:j=0
 ·subst h0;exact h1
 ·simpa [Addr.add,h0] using h1
theorem Zsk(n:Nat):digL ((n:Int) % 4294967296).toNat 2=digL n 2:=by
 rw[show((n:Int) % 4294967296).toNat=n % 4294967296 by omega]
 simp only[digL,List.nil_append,List.cons_append]
 rw[show n % 4294967296 / 256 % 256=n / 256 % 256 by omega,show n % 4294967296 % 256=n % 256 by omega]
theorem ZvJ(n:Nat):u8V (UInt8.ofNat n)=.int .u8 ((n:Int) % 256):=by
 show Value.int .u8 ((UInt8.ofNat n).toNat:Int)=_
 rw[UInt8.toNat_ofNat']
 congr 1
theorem Ztp(a b c d:Nat)(k:Nat)(hk:k<4)(W:World):(Instr.index 153 (.agg #[.int .i64 a,.int .i64 b,.int .i64 c,.int .i64 d]) (.int .i64 k)).run Tryz.prog W=.ok (.int .i64 (([a,b,c,d].getD k 0:Nat):Int)) W:=by
 rcases(by omega:k=0∨k=1∨k=2∨k=3)with rfl|rfl|rfl|rfl <;> simp[Instr.index,run_underlying Tryz.underlying153,asIntOf,go_sem]
theorem ZzO{B:Nat}(w:World){cv sv rv iv:Value}{sl:List SelC}{rl:List RowC}{q:CodeQ}(h:CodeW B w cv sv rv iv sl rl q)(ho:CodeOk q)(ht:Zu w)(hB:20<=w.heap.size) :
  Calls Tryz.prog 36 #[.agg #[cv,sv,rv,iv]] w fun e w'=>∃r:ByteArray,e=.returned (.string r)/\Hid (bl r=ZbB q)/\Below w.heap.size w w':=by
 obtain⟨ca,cc,rfl⟩:=Zv h.cons
 obtain⟨sa,sc,rfl⟩:=Zv h.sel
 obtain⟨ra,rc,rfl⟩:=Zv h.grp
 obtain⟨ia,ic,rfl⟩:=Zv h.ins
 have HO:=hid ho
 have hc:=ho.c
 have hs:=ho.s
 have hg:=ho.g
 have hi:=ho.i
 obtain⟨nc,hnc⟩:∃nc,nc=q.consts.length:=⟨_,rfl⟩
 obtain⟨ns,hns⟩:∃ns,ns=q.picks.length:=⟨_,rfl⟩
 obtain⟨ng,hng⟩:∃ng,ng=q.groups.length:=⟨_,rfl⟩
 obtain⟨ni,hni⟩:∃ni,ni=q.ins.length:=⟨_,rfl⟩
 have HNC:=hid hnc
 have HNS:=hid hns
 have HNG:=hid hng
 have HNI:=hid hni
 have HW:Hid (CodeW B w (.slice ca nc cc) (.slice sa ns sc) (.slice ra ng rc) (.slice ia ni ic) sl rl q):=hid (by rw[hnc,hns,hng,hni];exact h)
 have HT:=hid ht
 have HBn:=hid hB
 rw[<-hnc]at hc ⊢
 rw[<-hns]at hs ⊢
 rw[<-hng]at hg ⊢
 rw[<-hni]at hi ⊢
 clear h ho hnc hns hng hni ht hB
 go_enter Tryz.func36,Tryz.ntmps36
 go_upto_region 1 with fail
 refine Z9 fun W0 hW0=>?_
 have hb0:Below w.heap.size w W0:=by rw[hW0];exact belB
 have HX0:Hid (BAt W0 w.heap.size [.slice ca nc cc,.slice sa ns sc,.slice ra ng rc,.slice ia ni ic] 59):=hid (by rw[hW0];exact(show BAt _ _ _ _ from Go.Deep.blk_alloc_new w _))
 have HB0:=hid hb0
 obtain⟨qb,hqb⟩:∃qb,qb=w.heap.size:=⟨_,rfl⟩
 rw[<-hqb]at HX0 ⊢
 clear hW0 hb0 hqb
 go_upto_region 2 with fail
 refine Z9 fun W1 hW1=>?_
 have H1:Hid (WrS W0 W1 (.slice (some ⟨W0.heap.size,0,none⟩) 1 1) [103]):=hid (by rw[hW1];exact WrS.new W0 103)
 generalize Value.slice (some ⟨W0.heap.size,0,none⟩) 1 1=t0 at *
 clear hW1
 have HCX : Hid (∀ {W : World} {v : Value} {l : List UInt8}, WrS W0 W v l -> W.cell? ⟨qb, 0, none⟩ = some (.slice ca nc cc) /\ W.cell? ⟨qb, 1, none⟩ = some (.slice sa ns sc) /\ W.cell? ⟨qb, 2, none⟩ = some (.slice ra ng rc) /\ W.cell? ⟨qb, 3, none⟩ = some (.slice ia ni ic)) := hid (fun h => by
   have hx:=HX0.below h.bel
   exact⟨hx.cell 0,hx.cell 1,hx.cell 2,hx.cell 3⟩)
 have HQL:Hid (∀ {W:World} {v:Value} {l:List UInt8},WrS W0 W v l->qb<W.heap.size):=hid (fun h=>(HX0.below h.bel).lt)
 obtain⟨x0,x1,x2,x3⟩:=HCX.out H1.out
 have hql:=HQL.out H1.out
 go_wp2
 go_loopw [3,28] (fun tv iv wr=>∃(k:Nat) (cur:List UInt8),k<=4/\iv=.int .i64 k/\Hid (WrS W0 wr tv cur)/\Hid (cur=[103]++([nc,ns,ng,ni].take k).flatMap (fun n=>digL n 2))/\Hid (cur.length=1+2*k)) (fun _ iv _=>4 - (intOf iv).toNat)
 case atStart=>exact⟨0,[103],by omega,rfl,H1,hid rfl,hid rfl⟩
 case round=>
  obtain⟨k,cur,hk,rfl,HWr,HC,HL⟩:=hrel
  by_cases hlt:k<4
  ·have hix:=Ztp nc ns ng ni k hlt
   have HS:Hid (([nc,ns,ng,ni].take (k+1)).flatMap (fun n=>digL n 2)=([nc,ns,ng,ni].take k).flatMap (fun n=>digL n 2)++digL ([nc,ns,ng,ni].getD k 0) 2):=hid (by rw[ZgR _ [nc,ns,ng,ni] k hlt];rcases(by omega:k=0∨k=1∨k=2∨k=3)with rfl|rfl|rfl|rfl <;> rfl)
   have hx:[nc,ns,ng,ni].getD k 0<=1000000:=by rcases(by omega:k=0∨k=1∨k=2∨k=3)with rfl|rfl|rfl|rfl <;> simp <;> omega
   generalize[nc,ns,ng,ni].getD k 0=x at *
   go_wp2_with fail
   refine(Zgi HWr.out _ 2 (by decide) (by have:=HL.out;omega)).mono ?_
   rintro e w2 ⟨v2,rfl,H2,_⟩
   rw[Zsi hx]at H2
   go_wp2
   go_roundw
   case rel=>exact⟨k+1,_,by omega,by go_num,H2,hid (by rw[HC.out,HS.out,List.append_assoc]),hid (by rw[Zif,HL.out];omega)⟩
   case measure=>simp[intOf];omega
  ·have HK4:Hid (k=4):=hid (by omega)
   have HQ1:Hid (cur=[103]++digL nc 2++digL ns 2++digL ng 2++digL ni 2):=hid (by rw[HC.out,HK4.out];simp)
   have HL1:Hid (cur.length=9):=hid (by rw[HL.out,HK4.out])
   clear HC HL H1 x0 x1 x2 x3 hql
   generalize u3=t1 at *
   obtain⟨x0,x1,x2,x3⟩:=HCX.out HWr.out
   have hql:=HQL.out HWr.out
   have HKW : Hid (∀ {W : World} {v : Value} {l : List UInt8}, WrS W0 W v l -> CodeW B W (.slice ca nc cc) (.slice sa ns sc) (.slice ra ng rc) (.slice ia ni ic) sl rl q /\ Zu W /\ 20 <= W.heap.size) := hid (fun h => by
     have hb:=HB0.trans (h.bel.mono HB0.size)
     exact⟨HW.below hb,HT.low hb HBn.out,Nat.le_trans HBn.out hb.size⟩)
   go_wp2
   go_loopw [3,38] (fun tv iv wr=>∃(k:Nat) (cu:List UInt8),k<=nc/\iv=.int .i64 k/\Hid (WrS W0 wr tv cu)/\Hid (cu=cur++(q.consts.take k).flatMap Zcx)/\Hid (cu.length<=9+4*k)) (fun _ iv _=>nc - (intOf iv).toNat)
   case atStart=>exact⟨0,cur,Nat.zero_le _,rfl,HWr,hid (by simp),hid (Nat.le_of_eq HL1.out)⟩
   case round=>
    obtain⟨k,cu,hk,rfl,HWr2,HC,HL⟩:=hrel
    by_cases hlt:k<nc
    ·have hkl:k<q.consts.length:=by rw[<-HNC.out];exact hlt
     have hrow:=(HKW.out HWr2.out).1.cons
     rw[<-HNC.out]at hrow
     obtain⟨cb,hca⟩:=Zg7 hrow (by omega)
     subst hca
     have hcell:wr.cell? ⟨cb,k,none⟩=some (.int .i64 q.consts[k]):=Zr hrow k _ (by rw[List.getElem?_map,List.getElem?_eq_getElem hkl];rfl)
     have HS:=hid (ZgR Zcx q.consts k hkl)
     have hkz:(k:Int)<nc:=by omega
     generalize q.consts[k]=z at *
     clear hrow
     go_wp2_with fail
     refine(Zgi HWr2.out z 4 (by decide) (by have:=HL.out;omega)).mono ?_
     rintro e w2 ⟨v2,rfl,H2,_⟩
     go_wp2
     go_roundw
     case rel=>exact⟨k+1,_,by omega,by go_num,H2,hid (by rw[HC.out,HS.out,List.append_assoc];rfl),hid (by rw[Zif];have:=HL.out;omega)⟩
     case measure=>simp[intOf];omega
    ·obtain rfl:k=nc:=by omega
     have HQ2:Hid (cu=cur++q.consts.flatMap Zcx):=hid (by rw[HC.out,HNC.out,List.take_length])
     have HL2:Hid (cu.length<=4000009):=hid (by have:=HL.out;omega)
     clear HC HL x0 x1 x2 x3 hql HWr HL1
     generalize u3=t2 at *
     obtain⟨x0,x1,x2,x3⟩:=HCX.out HWr2.out
     have hql:=HQL.out HWr2.out
     go_wp2
     go_loopw [3,49] (fun tv iv wr=>∃(k:Nat) (ct:List UInt8),k<=ns/\iv=.int .i64 k/\Hid (WrS W0 wr tv ct)/\Hid (ct=cu++(q.picks.take k).flatMap (fun x=>ZX (ZM x)))/\Hid (ct.length<=4000009+200002*k)) (fun _ iv _=>ns - (intOf iv).toNat)
     case atStart=>exact⟨0,cu,Nat.zero_le _,rfl,HWr2,hid (by simp),HL2⟩
     case round=>
      obtain⟨k,ct,hk,rfl,HWr3,HC,HL⟩:=hrel
      by_cases hlt:k<ns
      ·have hkl:k<q.picks.length:=by rw[<-HNS.out];exact hlt
       have hcw:=(HKW.out HWr3.out)
       have hsl:k<sl.length:=by rw[hcw.1.sok.len];exact hkl
       have hrow:=hcw.1.sel
       rw[<-HNS.out]at hrow
       obtain⟨sb,hsa⟩:=Zg7 hrow (by omega)
       subst hsa
       have hcs:∀j,j<3->(sl.flatMap ZcC)[k*3+j]?=(ZcC sl[k])[j]?:=fun j hj=>ZfF ZcC 3 (fun _=>rfl) sl k j hsl hj
       have y0:wr.cell? ⟨sb,k*3,none⟩=some (.string sl[k].1):=Zr hrow (k*3) _ (hcs 0 (by decide))
       have y1:wr.cell? ⟨sb,k*3+1,none⟩=some (.slice sl[k].2.1 sl[k].2.2.1 sl[k].2.2.2.1):=Zr hrow _ _ (hcs 1 (by decide))
       have y2:wr.cell? ⟨sb,k*3+2,none⟩=some (.int .i64 (sl[k].2.2.2.2:Nat)):=Zr hrow _ _ (hcs 2 (by decide))
       have hbl:=Zbq hrow
       have HOK:=hid (hcw.1.sok.at k hsl hkl)
       have HPW:=hid hcw.2
       have HSW:=hid (HO.sw q.picks[k] (List.getElem_mem hkl))
       have HS:=hid (ZgR (fun x=>ZX (ZM x)) q.picks k hkl)
       have hkz:(k:Int)<ns:=by omega
       generalize q.picks[k]=y at *
       generalize sl[k]=s at *
       clear hrow hcs hcw
       go_wp2_with fail
       refine ZK fun W hW=>?_
       have hbW:Below wr.heap.size wr W:=by rw[hW];exact belB
       have HWW:=hid (HWr3.below hbW)
       have HOK2:Hid (ZdW W s y):=hid ⟨HOK.1,HOK.2.1.below hbW,HOK.2.2⟩
       have HPW2:Hid (Zu W/\20<=W.heap.size):=hid (HKW.out HWW.out).2
       clear hW hbW y0 y1 y2 hbl
       refine(Zpq W s y HOK2.out HSW.out HPW2.1 HPW2.2).mono ?_
       rintro e w2 ⟨r,rfl,HR,HRS,hb2⟩
       have HW2:=hid (HWW.below hb2)
       clear hb2
       go_wp2_with fail
       refine(ZlZ HW2.out r (by have:=HRS.out;omega) (by have:=HL.out;omega)).mono ?_
       rintro e w3 ⟨v3,rfl,H3⟩
       rw[HR.out]at H3
       go_wp2
       go_roundw
       case rel => exact ⟨k + 1, _, by omega, by go_num, H3, hid (by rw [HC.out, HS.out, List.append_assoc]), hid (by
         have h1:(ZX (ZM y)).length<=200002:=by
           unfold ZX
           rw[List.length_append,Zc5,<-HR.out,Zi]
           have:=HRS.out
           omega
         rw[List.length_append];have:=HL.out;omega)⟩
       case measure=>simp[intOf];omega
      ·obtain rfl:k=ns:=by omega
       have HQ3:Hid (ct=cu++q.picks.flatMap (fun x=>ZX (ZM x))):=hid (by rw[HC.out,HNS.out,List.take_length])
       have HL3:Hid (ct.length<=90000000000):=hid (by have:=HL.out;omega)
       clear HC HL x0 x1 x2 x3 hql HWr2 HL2
       generalize u3=t3 at *
       obtain⟨x0,x1,x2,x3⟩:=HCX.out HWr3.out
       have hql:=HQL.out HWr3.out
       go_wp2
       go_loopw [3,61] (fun tv iv wr=>∃(k:Nat) (cg:List UInt8),k<=ng/\iv=.int .i64 k/\Hid (WrS W0 wr tv cg)/\Hid (cg=ct++(q.groups.take k).flatMap (fun x=>ZX (commas x)))/\Hid (cg.length<=90000000000+100002*k)) (fun _ iv _=>ng - (intOf iv).toNat)
       case atStart=>exact⟨0,ct,Nat.zero_le _,rfl,HWr3,hid (by simp),HL3⟩
       case round=>
        obtain⟨k,cg,hk,rfl,HWr4,HC,HL⟩:=hrel
        by_cases hlt:k<ng
        ·have hkl:k<q.groups.length:=by rw[<-HNG.out];exact hlt
         have hcw:=(HKW.out HWr4.out).1
         have hsl:k<rl.length:=by rw[hcw.gok.len];exact hkl
         have hrow:=hcw.grp
         rw[<-HNG.out]at hrow
         obtain⟨rb,hra⟩:=Zg7 hrow (by omega)
         subst hra
         have y0:wr.cell? ⟨rb,k,none⟩=some (.slice rl[k].1 rl[k].2.1 rl[k].2.2):=Zr hrow k _ (by rw[List.getElem?_map,List.getElem?_eq_getElem hsl];rfl)
         have hbl:=Zbq hrow
         have HNV:Hid (Z4 wr (.slice rl[k].1 rl[k].2.1 rl[k].2.2) q.groups[k]):=hid (hcw.gok.at k hsl hkl)
         have HGW:=hid (HO.gw q.groups[k] (List.getElem_mem hkl))
         have HS:=hid (ZgR (fun x=>ZX (commas x)) q.groups k hkl)
         have hkz:(k:Int)<ng:=by omega
         generalize q.groups[k]=y at *
         generalize rl[k]=s at *
         clear hrow hcw
         go_wp2_with fail
         refine(Zki s.1 s.2.1 s.2.2 y HNV.out (by have:=HGW.out;omega)).mono ?_
         rintro e w2 ⟨r,rfl,HR,hb2⟩
         have hrs:r.size<=100000:=by rw[Z7 HR.out];exact Nat.le_trans (Zeq _) HGW.out
         have HW2:=hid (HWr4.below hb2)
         clear hb2 y0 hbl
         go_wp2_with fail
         refine(ZlZ HW2.out r (by omega) (by have:=HL.out;omega)).mono ?_
         rintro e w3 ⟨v3,rfl,H3⟩
         have HSL:Hid ((ZX (bl r)).length<=100002):=hid (by unfold ZX;rw[List.length_append,Zc5,Zi];omega)
         rw[HR.out]at H3 HSL
         go_wp2
         go_roundw
         case rel=>exact⟨k+1,_,by omega,by go_num,H3,hid (by rw[HC.out,HS.out,List.append_assoc]),hid (by rw[List.length_append];have:=HL.out;have:=HSL.out;omega)⟩
         case measure=>simp[intOf];omega
        ·obtain rfl:k=ng:=by omega
         have HQ4:Hid (cg=ct++q.groups.flatMap (fun x=>ZX (commas x))):=hid (by rw[HC.out,HNG.out,List.take_length])
         have HL4:Hid (cg.length<=140000000000):=hid (by have:=HL.out;omega)
         clear HC HL x0 x1 x2 x3 hql HWr3 HL3
         generalize u3=t4 at *
         obtain⟨x0,x1,x2,x3⟩:=HCX.out HWr4.out
         have hql:=HQL.out HWr4.out
         go_wp2
         go_loopw [3,73] (fun tv iv wr=>∃(k:Nat) (ci:List UInt8),k<=ni/\iv=.int .i64 k/\Hid (WrS W0 wr tv ci)/\Hid (ci=cg++(q.ins.take k).flatMap (fun x=>UInt8.ofNat x.1::digL x.2 2))/\Hid (ci.length=cg.length+3*k)) (fun _ iv _=>ni - (intOf iv).toNat)
         case atStart=>exact⟨0,cg,Nat.zero_le _,rfl,HWr4,hid (by simp),hid rfl⟩
         case round=>
          obtain⟨k,ci,hk,rfl,HWr5,HC,HL⟩:=hrel
          by_cases hlt:k<ni
          ·have hkl:k<q.ins.length:=by rw[<-HNI.out];exact hlt
           have hrow:=(HKW.out HWr5.out).1.ins
           rw[<-HNI.out]at hrow
           obtain⟨ib,hia⟩:=Zg7 hrow (by omega)
           subst hia
           obtain⟨y0,y1⟩:=ZkX hrow hkl
           rw[List.getD_eq_getElem?_getD,List.getElem?_eq_getElem hkl,Option.getD_some]at y0 y1
           have hbl:=Zbq hrow
           have HS:=hid (ZgR (fun x:Nat×Nat=>UInt8.ofNat x.1::digL x.2 2) q.ins k hkl)
           have hkz:(k:Int)<ni:=by omega
           generalize q.ins[k]=y at *
           obtain⟨op,arg⟩:=y
           simp only at y0 y1 HS
           clear hrow
           go_upto_region 25 with fail
           refine Z9 fun W hW=>?_
           have hbW:Below wr.heap.size wr W:=by rw[hW];exact belB
           have HBX:Hid (BAt W wr.heap.size [.int .i64 op,.int .i64 arg] 159):=hid (by rw[hW];exact(show BAt _ _ _ _ from Go.Deep.blk_alloc_new wr _))
           have HWW:=hid ((HWr5.below hbW).below (Below.refl _ _).drew)
           obtain⟨tb,htb⟩:∃tb,tb=wr.heap.size:=⟨_,rfl⟩
           rw[<-htb]at HBX ⊢
           clear hW hbW y0 y1 hbl htb
           refine Zcm 9 (fun w'=>w'.cell? ⟨tb,0,none⟩=some (.int .i64 op)/\w'.cell? ⟨tb,1,none⟩=some (.int .i64 arg)) (by kernel_rfl) ⟨HBX.cell 0,HBX.cell 1⟩ (fun hHeld=>?_)
           refine Zd 0 hHeld (h:=?_)
           refine Zd 1 hHeld (h:=?_)
           refine Zd 2 hHeld (h:=?_)
           refine Zd 3 hHeld (h:=?_)
           refine Zd 6 hHeld (h:=?_)
           refine Zd 7 hHeld (h:=?_)
           have HBD:Hid (BAt W.drew tb [.int .i64 op,.int .i64 arg] 159):=HBX
           generalize W.drew=W2 at *
           clear HBX
           have hrow:=HWW.row
           have hbs:=HWW.bel.size
           obtain⟨m,hm⟩:∃m,m=ci.length:=⟨_,rfl⟩
           have HM:=hid hm
           rw[<-hm]at hrow
           have hml:m<=150000000000:=by rw[hm];have:=HL.out;have:=HL4.out;omega
           have HNB : Hid (∀ e, u3.ownBlock = some e -> tb ≠ e) := hid (fun e he h => by
             obtain⟨_,_,h4⟩:=Zcg hrow he
             subst h
             exact absurd (ZcF HBD.out h4) (by decide))
           have HA:Hid (∀o,(W2.alloc o).ownsRow W0.heap.size 5 1 u3 m (ci.map u8V)):=hid (fun o=>hrow.alloc _)
           have HBA:Hid (∀o,BAt (W2.alloc o) tb [.int .i64 op,.int .i64 arg] 159):=hid (fun o=>HBD.below Zbal)
           clear hrow hm
           obtain⟨i0,hi0,hz0,hz1,hz2⟩:=info_parts Zhw
           refine Zbr (i:=4) (by kernel_rfl) rfl (fun K hK=>?_)
           go_simp
           refine hK.out _ _ ⟨(HBA.out _).cell 0,(HBA.out _).cell 1⟩ (fun hHeld=>?_)
           clear hK K
           try simp only[Act.put,Zset]
           refine Zbr (i:=5) (by kernel_rfl) rfl (fun K hK=>?_)
           refine Ze3 rfl (.tmp 77) (.tmp 81) 87 rfl W0.heap.size 5 i0 _ 1 1 Tryz.underlying87 hi0 hz0 hz1 hz2 rfl (by decide) u3 m (ci.map u8V) (by simp[Act.eval]) (HA.out _) ⟨W2.heap.size,0,none⟩ 1 1 [.int .u8 ((op:Int) % 256)] (by simp[Act.eval]) rfl (cell_one_new _ _ _) ?h3 ?h4 ?h5 ?h6 ?_
           case h3=>intro u hu;rw[List.mem_singleton]at hu;subst hu;rfl
           case h4=>unfold maxLen;omega
           case h5=>omega
           case h6=>simp;omega
           intro v1 w4 hown1 hgrow1 _
           have hb4:BAt w4 tb [.int .i64 op,.int .i64 arg] 159:=(HBA.out _).grown hgrow1 (fun e=>HNB.out tb e.symm rfl)
           have HB4:=hid hb4
           have HW4:Hid (WrS W0 w4 v1 (ci++[UInt8.ofNat op])):=hid (HWW.grow Zbal (by
            rw[List.length_append,List.map_append,<-HM.out]
            show w4.ownsRow _ _ _ _ (m+1) (_++[u8V (UInt8.ofNat op)])
            rw[ZvJ]
            exact hown1) hgrow1)
           have HL4b:Hid ((ci++[UInt8.ofNat op]).length<=150000000001):=hid (by rw[List.length_append,<-HM.out];simp;omega)
           clear hown1 hgrow1 hb4 HBA HA
           refine hK.out _ _ ⟨HB4.cell 0,HB4.cell 1⟩ (fun hHeld=>?_)
           clear hK K
           try simp only[Act.put]
           refine Zbr (i:=8) (by kernel_rfl) rfl (fun K hK=>?_)
           go_simp
           refine(Zgi HW4.out (arg:Int) 2 (by decide) (by have:=HL4b.out;omega)).mono ?_
           rintro e w5 ⟨v5,rfl,H5,HK5⟩
           rw[Zsk]at H5
           have HB5:Hid (w5.cell? ⟨tb,0,none⟩=some (.int .i64 op)/\w5.cell? ⟨tb,1,none⟩=some (.int .i64 arg)):=hid (by
            have:=HK5.bat HB4.out (by decide)
            exact⟨this.cell 0,this.cell 1⟩)
           go_simp
           refine hK.out _ _ HB5.out (fun hHeld=>?_)
           clear hK K
           try simp only[Act.put]
           refine Zcq (by kernel_rfl) (by kernel_rfl) rfl (by kernel_rfl) (fun K hK=>?_)
           go_simp
           refine hK.out _ _ ?_
           clear hK K hHeld HB5
           go_wp2
           go_roundw
           case rel=>exact⟨k+1,_,by omega,by go_num,H5,hid (by rw[HC.out,HS.out];simp),hid (by rw[Zif,List.length_append,HL.out];simp;omega)⟩
           case measure=>simp[intOf];omega
          ·obtain rfl:k=ni:=by omega
           have HQ5:Hid (ci=Zd2 q):=hid (by
            unfold Zd2
            rw[HC.out,HQ4.out,HQ3.out,HQ2.out,HQ1.out,HNI.out,List.take_length,HNC.out,HNS.out,HNG.out])
           have HL5:Hid (0<ci.length/\ci.length<=150000000000):=hid (by
            have h1:=HL.out
            have h2:=HL4.out
            have h3:0<ci.length:=by rw[HQ5.out];unfold Zd2;simp
            omega)
           clear HC HL x0 x1 x2 x3 hql HWr4 HL4
           generalize u3=t5 at *
           obtain⟨a5,c5,h5⟩:=HWr5.shape
           subst h5
           obtain⟨n5,hn5⟩:∃n5,n5=ci.length:=⟨_,rfl⟩
           rw[<-hn5]at HWr5 HL5 ⊢
           obtain⟨hl5,hcv⟩:=HWr5.conv HL5.1
           have hsz:(ByteArray.mk ci.toArray).size<=maxLen:=by
            show ci.toArray.size<=maxLen
            rw[List.size_toArray];have:=HL5.out;unfold maxLen;omega
           have HSZ:=hid hsz
           have HN5:=hid hn5
           clear hl5 hn5 hsz
           go_wp2_with fail
           refine(ZvY ⟨ci.toArray⟩ _ HSZ.out).mono ?_
           rintro e w6 ⟨rfl,rfl⟩
           have HSM:Hid (sumQ (bl ⟨ci.toArray⟩)=sumQ (Zd2 q)):=hid (by rw[Zbv,HQ5.out])
           have hq:=Zx7 (bl ⟨ci.toArray⟩)
           rw[HSM.out]at hq ⊢
           obtain⟨z,hz⟩:∃z,z=sumQ (Zd2 q):=⟨_,rfl⟩
           have HZ:=hid hz
           rw[<-hz]at hq ⊢
           clear hz HSM
           go_wp2_with fail
           refine(Zgi HWr5.out (z:Int) 4 (by decide) (by have h1:=HL5.out;rw[HN5.out]at h1;omega)).mono ?_
           rintro e w7 ⟨v7,rfl,H7,_⟩
           rw[show((z:Int) % 4294967296).toNat=z by omega]at H7
           obtain⟨a7,c7,h7⟩:=H7.shape
           subst h7
           have h70:0<(ci++digL z 4).length:=by rw[Zif];omega
           obtain⟨n7,hn7⟩:∃n7,n7=(ci++digL z 4).length:=⟨_,rfl⟩
           rw[<-hn7]at H7 h70 ⊢
           have hcv7:=(H7.conv h70).2
           clear hn7
           have HFI:Hid (bl ⟨(ci++digL z 4).toArray⟩=ZbB q):=hid (by rw[Zbv];unfold ZbB;rw[<-HQ5.out,HZ.out,HQ5.out])
           have HBF:Hid (Below w.heap.size w w7):=hid (HB0.trans (H7.bel.mono HB0.size))
           go_wp2
           go_ret
           exact⟨_,rfl,HFI,HBF.out⟩
end
end Go.Proofs.YtcdgkkfipdoeeaaGreatDoor
namespace Go.Proofs.YtcdgkkfipdoeeaaGreatDoor
open Go.RowKit Go.Extern.Stop Go.Stop Go.Extern LS
theorem Zq2(t:Value)(w:World) :
  Calls Tryz.prog 33 #[.nilIface,t] w fun e w'=>e=.returned (.bool false)/\w'=w:=by
 go_enter Tryz.func33,Tryz.ntmps33
 go_wp2
 go_ret
 exact⟨rfl,rfl⟩
def ZjW:Array Value->Sem Value:=fun args=>ReflectliteValue.unpack (args.getD 0 (.tuple #[]))
def ZmU : Array Value → Sem Value := ReflectliteValue.methodAny (ReflectliteValue.valueError "reflectlite.Value.Type" 0) fun t _ _ _ => ReflectliteType.toType t
def ZjU : Array Value → Sem Value := ReflectliteValue.method (ReflectliteValue.valueError "reflectlite.Value.IsNil" 0) ReflectliteValue.isNil
def ZjV:Array Value->Sem Value:=ReflectliteType.abiMethod fun t=>do pure (.int .u8 (<-Rtype.kind t))
def ZmS:Array Value->Sem Value:=ReflectliteType.method ReflectliteType.elem
def ZmT : Array Value → Sem Value := ReflectliteType.relation "Implements" ReflectliteType.implements_
def ZjS : Array Value → Sem Value := ReflectliteType.relation "AssignableTo" ReflectliteType.assignableTo
def ZjT : Array Value → Sem Value := ReflectliteValue.method (ReflectliteValue.valueError "reflectlite.Value.Elem" 0) ReflectliteValue.elem
theorem ZqI (args : Array Value) (w : World) : (callFunc 59 args).run Tryz.prog w = ((ZjW args).run Tryz.prog w).andThen fun v w' => .ok (.value v) w' :=
  run_callFunc_extern Tryz.func59 (by kernel_rfl) (by kernel_rfl) (by kernel_rfl) (by kernel_rfl) args w
theorem ZqH (args : Array Value) (w : World) : (callFunc 60 args).run Tryz.prog w = ((ZmU args).run Tryz.prog w).andThen fun v w' => .ok (.value v) w' :=
  run_callFunc_extern Tryz.func60 (by kernel_rfl) (by kernel_rfl) (by kernel_rfl) (by kernel_rfl) args w
theorem ZqF (args : Array Value) (w : World) : (callFunc 61 args).run Tryz.prog w = ((ZjU args).run Tryz.prog w).andThen fun v w' => .ok (.value v) w' :=
  run_callFunc_extern Tryz.func61 (by kernel_rfl) (by kernel_rfl) (by kernel_rfl) (by kernel_rfl) args w
theorem ZqG (args : Array Value) (w : World) : (callFunc 308 args).run Tryz.prog w = ((ZjV args).run Tryz.prog w).andThen fun v w' => .ok (.value v) w' :=
  run_callFunc_extern Tryz.func308 (by kernel_rfl) (by kernel_rfl) (by kernel_rfl) (by kernel_rfl) args w
theorem ZqD (args : Array Value) (w : World) : (callFunc 325 args).run Tryz.prog w = ((ZmS args).run Tryz.prog w).andThen fun v w' => .ok (.value v) w' :=
  run_callFunc_extern Tryz.func325 (by kernel_rfl) (by kernel_rfl) (by kernel_rfl) (by kernel_rfl) args w
theorem ZqE (args : Array Value) (w : World) : (callFunc 326 args).run Tryz.prog w = ((ZmT args).run Tryz.prog w).andThen fun v w' => .ok (.value v) w' :=
  run_callFunc_extern Tryz.func326 (by kernel_rfl) (by kernel_rfl) (by kernel_rfl) (by kernel_rfl) args w
theorem ZqC (args : Array Value) (w : World) : (callFunc 323 args).run Tryz.prog w = ((ZjS args).run Tryz.prog w).andThen fun v w' => .ok (.value v) w' :=
  run_callFunc_extern Tryz.func323 (by kernel_rfl) (by kernel_rfl) (by kernel_rfl) (by kernel_rfl) args w
theorem ZAc (args : Array Value) (w : World) : (callFunc 110 args).run Tryz.prog w = ((ZjT args).run Tryz.prog w).andThen fun v w' => .ok (.value v) w' :=
  run_callFunc_extern Tryz.func110 (by kernel_rfl) (by kernel_rfl) (by kernel_rfl) (by kernel_rfl) args w
theorem ZAd (args : Array Value) (w : World) : (callFunc 111 args).run Tryz.prog w = ((ReflectliteValue.set args).run Tryz.prog w).andThen fun v w' => .ok (.value v) w' :=
  run_callFunc_extern Tryz.func111 (by kernel_rfl) (by kernel_rfl) (by kernel_rfl) (by kernel_rfl) args w
theorem Zm1(t:Addr)(w:World):(ZjW #[.iface 83 (.pointer (some t))]).run Tryz.prog w
  = .ok (.agg #[.pointer (some ⟨20,83,none⟩),.pointer (some ⟨w.heap.size,0,none⟩),.int .u64 150]) (w.alloc (.cells #[.pointer (some t)] 83)):=by kernel_rfl
theorem Zm0(a:Addr)(w:World):(ZmU #[.agg #[.pointer (some ⟨20,83,none⟩),.pointer (some a),.int .u64 150]]).run Tryz.prog w
  = .ok (.iface 209 (.agg #[.pointer (some ⟨20,83,none⟩)])) w:=by kernel_rfl
theorem Zor (h : Value) (w : World) : (Go.method 562 209 (.agg #[h]) "Kind").run Tryz.prog w = .ok (308, h) w := by kernel_rfl
theorem ZmZ(w:World):(ZjV #[.pointer (some ⟨20,83,none⟩)]).run Tryz.prog w=.ok (.int .u8 22) w:=by kernel_rfl
theorem ZmY(w:World):(ZjV #[.pointer (some ⟨20,81,none⟩)]).run Tryz.prog w=.ok (.int .u8 22) w:=by kernel_rfl
theorem Zop (h : Value) (w : World) : (Go.method 562 209 (.agg #[h]) "Elem").run Tryz.prog w = .ok (325, .agg #[h]) w := by kernel_rfl
theorem Zoq (h : Value) (w : World) : (Go.method 562 209 (.agg #[h]) "Implements").run Tryz.prog w = .ok (326, .agg #[h]) w := by kernel_rfl
theorem Zoo (h : Value) (w : World) : (Go.method 562 209 (.agg #[h]) "AssignableTo").run Tryz.prog w = .ok (323, .agg #[h]) w := by kernel_rfl
theorem ZmV(w:World):(ZmS #[.agg #[.pointer (some ⟨20,83,none⟩)]]).run Tryz.prog w=.ok (.iface 209 (.agg #[.pointer (some ⟨20,81,none⟩)])) w:=by kernel_rfl
theorem ZmW(w:World):(ZmT #[.agg #[.pointer (some ⟨20,81,none⟩)],.iface 209 (.agg #[.pointer (some ⟨20,46,none⟩)])]).run Tryz.prog w=.ok (.bool true) w:=by kernel_rfl
theorem ZsD(v:Value)(w:World):(ReflectliteType.typeOf #[.iface 81 v]).run Tryz.prog w=.ok (.iface 209 (.agg #[.pointer (some ⟨20,81,none⟩)])) w:=by kernel_rfl
theorem Zsz(w:World):(ZjS #[.agg #[.pointer (some ⟨20,81,none⟩)],.iface 209 (.agg #[.pointer (some ⟨20,81,none⟩)])]).run Tryz.prog w=.ok (.bool true) w:=by kernel_rfl
theorem ZsA(w:World):(ZjS #[.agg #[.pointer (some ⟨20,432,none⟩)],.iface 209 (.agg #[.pointer (some ⟨20,81,none⟩)])]).run Tryz.prog w=.ok (.bool false) w:=by kernel_rfl
theorem ZsE(e:Addr)(w:World):(ZjW #[.iface 81 (.pointer (some e))]).run Tryz.prog w
  = .ok (.agg #[.pointer (some ⟨20,81,none⟩),.pointer (some ⟨w.heap.size,0,none⟩),.int .u64 150]) (w.alloc (.cells #[.pointer (some e)] 81)):=by kernel_rfl
theorem Zvo(v:Value)(xT:TypeId)(w:World):(Instr.typeAssert (.iface 432 v) xT 220 true).run Tryz.prog w=.ok (.tuple #[.nilIface,.bool false]) w:=run_typeAssert_lacksB Tryz.underlying220 (by kernel_rfl) (by kernel_rfl) v xT w
theorem ZoT(a:Addr)(w:World):(ReflectliteValue.parts (.agg #[.pointer (some ⟨20,83,none⟩),.pointer (some a),.int .u64 150])).run Tryz.prog w=.ok (some (83,a,150)) w:=by kernel_rfl
theorem ZmX(a p:Addr)(W:World)(ha:W.cell? a=some (.pointer (some p))) :
  (ZjU #[.agg #[.pointer (some ⟨20,83,none⟩),.pointer (some a),.int .u64 150]]).run Tryz.prog W=.ok (.bool false) W:=by
 refine(congrArg (fun q=>Sem.run Tryz.prog q W) (show ZjU _=(ReflectliteValue.parts (.agg #[.pointer (some ⟨20,83,none⟩),.pointer (some a),.int .u64 150]) >>= fun r=>_) from rfl)).trans ?_
 simp only[Sem.run_bind,ZoT,Result.andThen]
 simp[ReflectliteValue.isNil,loadVar,isAgg,underlying,Tryz.underlying83,ha,Result.andThen]
theorem Zv0(w:World):(Rtype.elem? 83).run Tryz.prog w=.ok (some 81) w:=by kernel_rfl
theorem Zv1(p:Addr)(w:World):(ReflectliteValue.mk 81 p ReflectliteValue.flagAddr).run Tryz.prog w=.ok (.agg #[.pointer (some ⟨20,81,none⟩),.pointer (some p),.int .u64 406]) w:=by kernel_rfl
theorem ZsB(a p:Addr)(W:World)(ha:W.cell? a=some (.pointer (some p))) :
  (ZjT #[.agg #[.pointer (some ⟨20,83,none⟩),.pointer (some a),.int .u64 150]]).run Tryz.prog W
   = .ok (.agg #[.pointer (some ⟨20,81,none⟩),.pointer (some p),.int .u64 406]) W:=by
 refine(congrArg (fun q=>Sem.run Tryz.prog q W) (show ZjT _=(ReflectliteValue.parts (.agg #[.pointer (some ⟨20,83,none⟩),.pointer (some a),.int .u64 150]) >>= fun r=>_) from rfl)).trans ?_
 simp only[Sem.run_bind,ZoT,Result.andThen]
 simp[ReflectliteValue.elem,loadVar,isAgg,underlying,Tryz.underlying83,ha,Result.andThen,Zv0,Zv1]
theorem Zv3(a:Addr)(w:World):(ReflectliteValue.parts (.agg #[.pointer (some ⟨20,81,none⟩),.pointer (some a),.int .u64 406])).run Tryz.prog w=.ok (some (81,a,406)) w:=by kernel_rfl
theorem Zv2(a:Addr)(w:World):(ReflectliteValue.parts (.agg #[.pointer (some ⟨20,81,none⟩),.pointer (some a),.int .u64 150])).run Tryz.prog w=.ok (some (81,a,150)) w:=by kernel_rfl
theorem ZvZ(w:World):(Rtype.directlyAssignable 81 81).run Tryz.prog w=.ok true w:=by kernel_rfl
theorem ZsC(ta b e:Addr)(old:Value)(W:World)(hb:W.cell? b=some (.pointer (some e)))(ht:W.cell? ta=some old)(hf:W.frozen? ta=false) :
  (ReflectliteValue.set #[.agg #[.pointer (some ⟨20,81,none⟩),.pointer (some ta),.int .u64 406],.agg #[.pointer (some ⟨20,81,none⟩),.pointer (some b),.int .u64 150]]).run Tryz.prog W
   = .ok (.tuple #[]) (W.setCell ta (.pointer (some e))):=by
 refine(congrArg (fun q=>Sem.run Tryz.prog q W) (show ReflectliteValue.set _=(ReflectliteValue.parts (.agg #[.pointer (some ⟨20,81,none⟩),.pointer (some ta),.int .u64 406]) >>= fun r=>ReflectliteValue.parts (.agg #[.pointer (some ⟨20,81,none⟩),.pointer (some b),.int .u64 150]) >>= fun s=>_) from rfl)).trans ?_
 simp only[Sem.run_bind,Zv3,Zv2,Result.andThen]
 simp[ReflectliteValue.flagAddr,loadVar,isAgg,underlying,Tryz.underlying81,hb,Result.andThen,ZvZ,storeVar,Value.cells,storeCells,Addr.add]
 rw[run_store Tryz.prog W ta _ _ (by rfl)]
 simp[ht,hf]
theorem Zq0(e t:Addr)(old:Value)(w:World)(hg:w.cell? ⟨13,0,none⟩=some (.iface 209 (.agg #[.pointer (some ⟨20,46,none⟩)])))(ht0:w.cell? t=some old)(hf0:w.frozen? t=false) :
  Calls Tryz.prog 33 #[.iface 81 (.pointer (some e)),.iface 83 (.pointer (some t))] w fun ev w'=>ev=.returned (.bool true)/\w'=((((w.alloc (.cells #[.pointer (some t)] 83)).alloc (.cells #[.pointer (some ⟨20,83,none⟩),.pointer (some ⟨w.heap.size,0,none⟩),.int .u64 150] 134)).alloc (.cells #[.pointer (some ⟨20,83,none⟩),.pointer (some ⟨w.heap.size,0,none⟩),.int .u64 150] 134)).alloc (.cells #[.pointer (some e)] 81)).setCell t (.pointer (some e)):=by
 have h6:=ZqI
 have h7:=ZqH
 have h8:=ZqF
 have h27:=ZqG
 have h37:=ZqD
 have h38:=ZqE
 have h10:=Zgd
 have h35:=ZqC
 have h11:=ZAc
 have h12:=ZAd
 have tO:=ZsD
 have mA:=Zoo
 have a25:=Zsz
 have v25:=ZsE
 have f6:=Zm1
 have f7:=Zm0
 have mK:=Zor
 have mE:=Zop
 have mI:=Zoq
 have k27:=ZmZ
 have k25:=ZmY
 have e27:=ZmV
 have i25:=ZmW
 have n8:=ZmX ⟨w.heap.size,0,none⟩ t ((w.alloc (.cells #[.pointer (some t)] 83)).alloc (.cells #[.pointer (some ⟨20,83,none⟩),.pointer (some ⟨w.heap.size,0,none⟩),.int .u64 150] 134)) (by simp)
 have hlt:13<w.heap.size:=World.block_lt_of_cell? _ _ hg
 have hg2:((w.alloc (.cells #[.pointer (some t)] 83)).alloc (.cells #[.pointer (some ⟨20,83,none⟩),.pointer (some ⟨w.heap.size,0,none⟩),.int .u64 150] 134)).cell? ⟨13,0,none⟩=some (.iface 209 (.agg #[.pointer (some ⟨20,46,none⟩)])):=by
  rw[World.cell?_alloc_lt _ _ ⟨13,0,none⟩ (by simp;omega),World.cell?_alloc_lt _ _ ⟨13,0,none⟩ hlt];exact hg
 have htl:=World.block_lt_of_cell? _ _ ht0
 have el:=ZsB ⟨w.heap.size,0,none⟩ t (((w.alloc (.cells #[.pointer (some t)] 83)).alloc (.cells #[.pointer (some ⟨20,83,none⟩),.pointer (some ⟨w.heap.size,0,none⟩),.int .u64 150] 134)).alloc (.cells #[.pointer (some ⟨20,83,none⟩),.pointer (some ⟨w.heap.size,0,none⟩),.int .u64 150] 134)) (by rw[World.cell?_alloc_lt _ _ ⟨w.heap.size,0,none⟩ (by simp;omega)];simp)
 have st:=ZsC t ⟨w.heap.size+1+1+1,0,none⟩ e old ((((w.alloc (.cells #[.pointer (some t)] 83)).alloc (.cells #[.pointer (some ⟨20,83,none⟩),.pointer (some ⟨w.heap.size,0,none⟩),.int .u64 150] 134)).alloc (.cells #[.pointer (some ⟨20,83,none⟩),.pointer (some ⟨w.heap.size,0,none⟩),.int .u64 150] 134)).alloc (.cells #[.pointer (some e)] 81))
  (by rw[World.cell?_alloc_at _ _ _ _ (by simp)];rfl)
  (by rw[World.cell?_alloc_lt _ _ t (by simp;omega),World.cell?_alloc_lt _ _ t (by simp;omega),World.cell?_alloc_lt _ _ t (by simp;omega),World.cell?_alloc_lt _ _ t htl];exact ht0)
  (by rw[World.frozen?_alloc_old _ _ t (by simp;omega),World.frozen?_alloc_old _ _ t (by simp;omega),World.frozen?_alloc_old _ _ t (by simp;omega),World.frozen?_alloc_old _ _ t (Nat.ne_of_lt htl)];exact hf0)
 go_enter Tryz.func33,Tryz.ntmps33
 go_wp2
 refine wp_loop_rounds 1 ?_
 rw[rounds_succ]
 go_wp2
 go_ret
 exact⟨rfl,rfl⟩
theorem Zq1(e t:Addr)(w:World)(hg:w.cell? ⟨13,0,none⟩=some (.iface 209 (.agg #[.pointer (some ⟨20,46,none⟩)]))) :
  Calls Tryz.prog 33 #[.iface 432 (.pointer (some e)),.iface 83 (.pointer (some t))] w fun ev w'=>ev=.returned (.bool false)/\Below w.heap.size w w':=by
 have h6:=ZqI
 have h7:=ZqH
 have h8:=ZqF
 have h27:=ZqG
 have h37:=ZqD
 have h38:=ZqE
 have h10:=Zgd
 have h35:=ZqC
 have tO:=Tryz.isTypeOf
 have mA:=Zoo
 have a25:=ZsA
 have f6:=Zm1
 have f7:=Zm0
 have mK:=Zor
 have mE:=Zop
 have mI:=Zoq
 have k27:=ZmZ
 have k25:=ZmY
 have e27:=ZmV
 have i25:=ZmW
 have nA:=Zvo
 have uE:=Tryz.noUnwrapE
 have vE:=Tryz.noUnwrapsE
 have n8:=ZmX ⟨w.heap.size,0,none⟩ t ((w.alloc (.cells #[.pointer (some t)] 83)).alloc (.cells #[.pointer (some ⟨20,83,none⟩),.pointer (some ⟨w.heap.size,0,none⟩),.int .u64 150] 134)) (by simp)
 have hlt:13<w.heap.size:=World.block_lt_of_cell? _ _ hg
 have hg2:((w.alloc (.cells #[.pointer (some t)] 83)).alloc (.cells #[.pointer (some ⟨20,83,none⟩),.pointer (some ⟨w.heap.size,0,none⟩),.int .u64 150] 134)).cell? ⟨13,0,none⟩=some (.iface 209 (.agg #[.pointer (some ⟨20,46,none⟩)])):=by
  rw[World.cell?_alloc_lt _ _ ⟨13,0,none⟩ (by simp;omega),World.cell?_alloc_lt _ _ ⟨13,0,none⟩ hlt];exact hg
 go_enter Tryz.func33,Tryz.ntmps33
 go_wp2
 refine wp_loop_rounds 1 ?_
 rw[rounds_succ]
 go_wp2
 go_ret
 exact⟨rfl,belB⟩
end Go.Proofs.YtcdgkkfipdoeeaaGreatDoor

/- Parts. -/
import Derived.Test.YtkodhpilkaihjaaGreatDoorF13
import Derived.Deep.Onto
import Derived.Test.YtkodhpilkaihjaaGreatDoorF00
import Derived.BigRegion
import Derived.Test.YtkodhpilkaihjaaGreatDoorF11
import Derived.BigQuiet
import Derived.Deep.QuietTactic
import Derived.Maps.OwnSet
set_option maxHeartbeats 2000000
set_option maxRecDepth 100000
namespace Go.Proofs.YtkodhpilkaihjaaGreatDoor
open Go.RowKit LS
theorem Zma(s:ByteArray)(m:Int)(w:World)(hs:s.size<=6000)(hm:w.cell? ⟨14,0,none⟩=some (.int .i64 m)) :
  Calls Tryz.prog 155 #[.string s] w fun e w' => ∃ (a : Option Addr) (n cap : Nat) (ok : Bool), e = .returned (.tuple #[.slice a n cap, .bool ok]) /\
    Hid (ok=(ZbS (bl s)).isSome/\(ok=true->∃qs,ZbO w' 0 (.slice a n cap) n qs/\ZbS (bl s)=some (qs.map blP)))/\Below w.heap.size w w':=by
 cases he:s.toList.isEmpty
 ·have hne:=Zf4 he
  have hF:ZbS (bl s)=Zby [] [] (split 44 (bl s)):=by unfold ZbS;rw[if_neg hne]
  rw[hF]
  exact ZtM s m w hs hm he
 ·have HF:Hid (ZbS (bl s)=some []):=hid (by rw[Zfq he];rfl)
  go_enter Tryz.func155,Tryz.ntmps155
  go_wp2
  go_ret2
  exact⟨none,0,0,true,rfl,⟨by rw[HF.out];rfl,fun _=>⟨[],⟨World.ownsRow_nil _ _ _ _,by omega,fun p hp=>nomatch hp⟩,HF.out⟩⟩,Below.refl _ _⟩
theorem ZtK{s:ByteArray}(m:Int)(w:World)(hs:s.size<=6000)(hm:w.cell? ⟨14,0,none⟩=some (.int .i64 m))(h:(ZbS (bl s)).isSome=false) :
  Calls Tryz.prog 155 #[.string s] w fun e w'=>∃(a:Option Addr) (n cap:Nat),e=.returned (.tuple #[.slice a n cap,.bool false])/\Below w.heap.size w w':=by
 refine(Zma s m w hs hm).mono ?_
 rintro e w' ⟨a,n,cap,ok,rfl,hok,hb⟩
 exact⟨a,n,cap,by rw[hok.1,h],hb⟩
theorem ZtL{s:ByteArray}(m:Int)(w:World)(hs:s.size<=6000)(hm:w.cell? ⟨14,0,none⟩=some (.int .i64 m))(h:(ZbS (bl s)).isSome=true) :
  Calls Tryz.prog 155 #[.string s] w fun e w'=>∃(a:Option Addr) (n cap:Nat) (qs:List (ByteArray×ByteArray)),e=.returned (.tuple #[.slice a n cap,.bool true])/\Hid (ZbO w' 0 (.slice a n cap) n qs/\ZbS (bl s)=some (qs.map blP))/\Below w.heap.size w w':=by
 refine(Zma s m w hs hm).mono ?_
 rintro e w' ⟨a,n,cap,ok,rfl,hok,hb⟩
 have e:ok=true:=by rw[hok.1,h]
 subst e
 obtain⟨qs,h1,h2⟩:=hok.2 rfl
 exact⟨a,n,cap,qs,rfl,⟨h1,h2⟩,hb⟩
theorem box4{w w1:World}{x y z u:Value}{t:TypeId}(hb:Below (w.heap.size+1) (w.alloc (.cells #[x,y,z,u] t)) w1) :
  w1.cell? ⟨w.heap.size,0,none⟩=some x/\w1.cell? ⟨w.heap.size,1,none⟩=some y/\w1.cell? ⟨w.heap.size,2,none⟩=some z/\w1.cell? ⟨w.heap.size,3,none⟩=some u/\
  w1.frozen? ⟨w.heap.size,0,none⟩=false/\w1.frozen? ⟨w.heap.size,1,none⟩=false/\w1.frozen? ⟨w.heap.size,2,none⟩=false/\w1.frozen? ⟨w.heap.size,3,none⟩=false:=by
 have h:w1.heap[w.heap.size]?=some (.cells #[x,y,z,u] t (0,0)):=(hb.block _ (by omega)).trans (Go.Deep.blk_alloc_new _ _)
 refine⟨?_,?_,?_,?_,?_,?_,?_,?_⟩ <;> simp[World.cell?,World.frozen?,h]
theorem ZtR{s:ByteArray}(m:Int)(w:World)(hs:s.size<=6000)(hm:w.cell? ⟨14,0,none⟩=some (.int .i64 m))(h:Zb4 (bl s)=none) :
  Calls Tryz.prog 156 #[.string s] w fun e w'=>∃sv:Value,e=.returned (.tuple #[sv,.bool false])/\Below w.heap.size w w':=by
 refine(Zmd s m w hs hm).mono ?_
 rintro e w' ⟨sv,ok,rfl,hok,hb⟩
 rcases hok.out with ⟨_,_,_,_,_,h',_⟩|⟨h',_⟩
 ·rw[h]at h';cases h'
 ·exact⟨sv,by rw[h'],hb⟩
theorem ZtS{s:ByteArray}{n:Nat}(m:Int)(w:World)(hs:s.size<=6000)(hm:w.cell? ⟨14,0,none⟩=some (.int .i64 m))(h:Zb4 (bl s)=some n) :
  Calls Tryz.prog 156 #[.string s] w fun e w'=>∃a cap,e=.returned (.tuple #[.slice a n cap,.bool true])/\Hid (w'.ownsRow w.heap.size 398 2 (.slice a n cap) n (Zb2 (ZdJ (bl s))))/\Below w.heap.size w w':=by
 refine(Zmd s m w hs hm).mono ?_
 rintro e w' ⟨sv,ok,rfl,hok,hb⟩
 rcases hok.out with ⟨h1,a,n',cap,h2,h',h3⟩|⟨_,h'⟩
 ·rw[h]at h';obtain rfl:=Option.some.inj h'
  exact⟨a,cap,by rw[h1,h2],by rw[<-h2];exact h3,hb⟩
 ·rw[h]at h';cases h'
def ZcC(w:World)(l:List UInt8)(nm:ByteArray)(lv:Value)(tx:ByteArray)(sv:Value)(sn:Nat):Prop:=∃(inside:List UInt8) (qs:List (ByteArray×ByteArray)),line l=some (bl nm,inside,sn)/\ZbS inside=some (qs.map blP)/\ZbO w 0 lv qs.length qs/\bl tx=ZL qs/\w.ownsRow 0 398 2 sv sn (Zb2 (ZcU l))
theorem ZcC.below{w w':World}{l:List UInt8}{nm:ByteArray}{lv:Value}{tx:ByteArray}{sv:Value}{sn:Nat}(h:ZcC w l nm lv tx sv sn)(hb:Below w.heap.size w w'):ZcC w' l nm lv tx sv sn:=by
 obtain⟨i,qs,h1,h2,h3,h4,h5⟩:=h;exact⟨i,qs,h1,h2,h3.below hb,h4,Zm h5 hb⟩
theorem ZcC.other{w w':World}{l:List UInt8}{nm:ByteArray}{lv:Value}{tx:ByteArray}{sv:Value}{sn:Nat}(h:ZcC w l nm lv tx sv sn){a:Nat}{c:Array Value}{fr:Nat×Nat}(hq:w.heap[a]?=some (.cells c 209 fr))(hg:∀j,j≠a->w'.heap[j]?=w.heap[j]?):ZcC w' l nm lv tx sv sn:=by
 obtain⟨i,qs,h1,h2,h3,h4,h5⟩:=h
 exact⟨i,qs,h1,h2,⟨Zf6 h3.1 (fun j hj=>hg j (fun e=>ZcA h3.1 hq (by decide) (by rw[hj,e]))),h3.2⟩,h4,Zf6 h5 (fun j hj=>hg j (fun e=>ZcA h5 hq (by decide) (by rw[hj,e])))⟩
def Zfa(w:World)(l:List UInt8)(nm:ByteArray)(lv:Value)(tx:ByteArray)(sv:Value)(sn:Nat)(ok:Bool):Prop:=(ok=true/\ZcC w l nm lv tx sv sn)∨(ok=false/\line l=none)
theorem ZpZ{w w':World}{m:Int}{B:Nat}(hm:w.cell? ⟨14,0,none⟩=some (.int .i64 m))(hb:Below B w w')(hB:14<B):w'.cell? ⟨14,0,none⟩=some (.int .i64 m):=
 (hb.cell (p:=⟨_,0,none⟩) hB).trans hm
theorem ZtT(s:ByteArray)(m:Int)(w:World)(hs:s.size<=6000)(hm:w.cell? ⟨14,0,none⟩=some (.int .i64 m)) :
  Calls Tryz.prog 89 #[.string s] w fun e w' => ∃ (nm : ByteArray) (a : Option Addr) (n cap : Nat) (tx : ByteArray) (sa : Option Addr) (sn sc : Nat) (ok : Bool), e = .returned (.tuple #[.agg #[.string nm, .slice a n cap, .string tx, .slice sa sn sc], .bool ok]) /\
    Hid (Zfa w' (bl s) nm (.slice a n cap) tx (.slice sa sn sc) sn ok)/\Below w.heap.size w w':=by
 have hgl:=World.block_lt_of_cell? _ _ hm
 have hm1 : ∀ o, (w.alloc o).cell? ⟨14, 0, none⟩ = some (.int .i64 m) := fun o => by
   rw[World.cell?_alloc_lt _ _ _ hgl];exact hm
 have hm2:∀o (j:Nat),((w.alloc o).drewN j).cell? ⟨14,0,none⟩=some (.int .i64 m):=fun o j=>hm1 o
 cases hc:cut 123 (bl s)with
 | none=>
  have HS:Hid (∀W nm lv tx sv,Zfa W (bl s) nm lv tx sv 0 false):=hid (fun _ _ _ _ _=>Or.inr ⟨rfl,Zhb hc⟩)
  have HC:Hid (cut 123 (bl s)=none):=hc
  clear hc
  go_enter Tryz.func89,Tryz.ntmps89
  go_wp2_with fail
  refine(Zfi m _ hs (hm1 _) HC.out).mono ?_
  rintro e w' ⟨a,b,rfl,hab,j,rfl⟩
  have hsb:b.size<=6000:=by rw[ZO hab.2];simp
  go_wp2_with fail
  refine(Zfi m _ hsb (hm2 _ _) (by rw[hab.2];rfl)).mono ?_
  rintro e w' ⟨a2,b2,rfl,hab2,j2,rfl⟩
  go_wp2
  exact bodyPost_ret (v:=.tuple #[.agg #[.string ⟨#[]⟩,.slice none 0 0,.string ⟨#[]⟩,.slice none 0 0],.bool false]) (by simp[results,Tryz.results89,go_sem]) rfl ⟨⟨#[]⟩,none,0,0,⟨#[]⟩,none,0,0,false,rfl,hid (HS.out _ _ _ _ _),(by repeat first|exact Below.refl _ _|assumption|refine Below.alloc ?_ ?_ _|refine Below.setCell ?_ ?_ _|refine Zg ?_ _|refine Below.drew ?_|omega|(simp;omega)|simp)⟩
 | some p=>
  obtain⟨x,r⟩:=p
  have hxl:x.length<=s.size/\r.length<=s.size:=by rw[<-Ze,(Zdb hc).1];simp;omega
  have HC:Hid (cut 123 (bl s)=some (x,r)):=hc
  clear hc
  cases hc2:cut 125 r with
  | none=>
   have HS:Hid (∀W nm lv tx sv,Zfa W (bl s) nm lv tx sv 0 false):=hid (fun _ _ _ _ _=>Or.inr ⟨rfl,Zha HC.out hc2⟩)
   have HC2:Hid (cut 125 r=none):=hc2
   clear hc2
   go_enter Tryz.func89,Tryz.ntmps89
   go_wp2_with fail
   refine(ZdY m _ hs (hm1 _) HC.out).mono ?_
   rintro e w' ⟨a,b,rfl,hab,j,rfl⟩
   have hsb:b.size<=6000:=by rw[ZO hab.2];omega
   go_wp2_with fail
   refine(Zfi m _ hsb (hm2 _ _) (by rw[hab.2];exact HC2.out)).mono ?_
   rintro e w' ⟨a2,b2,rfl,hab2,j2,rfl⟩
   go_wp2
   exact bodyPost_ret (v:=.tuple #[.agg #[.string ⟨#[]⟩,.slice none 0 0,.string ⟨#[]⟩,.slice none 0 0],.bool false]) (by simp[results,Tryz.results89,go_sem]) rfl ⟨⟨#[]⟩,none,0,0,⟨#[]⟩,none,0,0,false,rfl,hid (HS.out _ _ _ _ _),(by repeat first|exact Below.refl _ _|assumption|refine Below.alloc ?_ ?_ _|refine Below.setCell ?_ ?_ _|refine Zg ?_ _|refine Below.drew ?_|omega|(simp;omega)|simp)⟩
  | some q=>
   obtain⟨y,z⟩:=q
   have hyl:y.length<=r.length/\z.length<=r.length:=by rw[(Zdb hc2).1];simp;omega
   have HC2:Hid (cut 125 r=some (y,z)):=hc2
   have hline:=Zhc HC.out hc2
   clear hc2
   cases hn:ZC x
   ·have HS:Hid (∀W nm lv tx sv,Zfa W (bl s) nm lv tx sv 0 false):=hid (fun _ _ _ _ _=>Or.inr ⟨rfl,by rw[hline,hn];rfl⟩)
    have HN:Hid (ZC x=false):=hn
    clear hn hline
    go_enter Tryz.func89,Tryz.ntmps89
    go_wp2_with fail
    refine(ZdY m _ hs (hm1 _) HC.out).mono ?_
    rintro e w' ⟨a,b,rfl,hab,j,rfl⟩
    have hsa:a.size<=6000:=by rw[ZO hab.1];omega
    have hsb:b.size<=6000:=by rw[ZO hab.2];omega
    go_wp2_with fail
    refine(ZdY m _ hsb (hm2 _ _) (by rw[hab.2];exact HC2.out)).mono ?_
    rintro e w' ⟨a2,b2,rfl,hab2,j2,rfl⟩
    go_wp2_with fail
    refine(ZhI (b:=false) _ hsa (by rw[hab.1];exact HN.out)).mono ?_
    rintro e w' ⟨rfl,rfl⟩
    go_wp2
    exact bodyPost_ret (v:=.tuple #[.agg #[.string ⟨#[]⟩,.slice none 0 0,.string ⟨#[]⟩,.slice none 0 0],.bool false]) (by simp[results,Tryz.results89,go_sem]) rfl ⟨⟨#[]⟩,none,0,0,⟨#[]⟩,none,0,0,false,rfl,hid (HS.out _ _ _ _ _),(by repeat first|exact Below.refl _ _|assumption|refine Below.alloc ?_ ?_ _|refine Below.setCell ?_ ?_ _|refine Zg ?_ _|refine Below.drew ?_|omega|(simp;omega)|simp)⟩
   ·have HN:Hid (ZC x=true):=hn
    rw[hn]at hline
    clear hn
    go_enter Tryz.func89,Tryz.ntmps89
    have Hline:Hid _:=hline
    clear hline
    go_wp2_with fail
    refine(ZdY m _ hs (hm1 _) HC.out).mono ?_
    rintro e w' ⟨a,b,rfl,hab,j,rfl⟩
    have hsa:a.size<=6000:=by rw[ZO hab.1];omega
    have hsb:b.size<=6000:=by rw[ZO hab.2];omega
    go_wp2_with fail
    refine(ZdY m _ hsb (hm2 _ _) (by rw[hab.2];exact HC2.out)).mono ?_
    rintro e w' ⟨a2,b2,rfl,hab2,j2,rfl⟩
    have hsa2:a2.size<=6000:=by rw[ZO hab2.1];omega
    have hsb2:b2.size<=6000:=by rw[ZO hab2.2];omega
    go_wp2_with fail
    refine(ZhI (b:=true) _ hsa (by rw[hab.1];exact HN.out)).mono ?_
    rintro e w' ⟨rfl,rfl⟩
    cases hlb:(ZbS y).isSome
    ·have HS:Hid (∀W nm lv tx sv,Zfa W (bl s) nm lv tx sv 0 false):=hid (fun _ _ _ _ _=>Or.inr ⟨rfl,by rw[Hline.out,hlb];rfl⟩)
     have HL:Hid ((ZbS y).isSome=false):=hlb
     clear hlb
     go_wp2_with fail
     refine(ZtK m _ hsa2 (hm2 _ _) (by rw[hab2.1];exact HL.out)).mono ?_
     rintro e w3 ⟨la,ln,lc,rfl,hb3⟩
     have hb3':Below (w.heap.size+1) (w.alloc (.cells #[.string ⟨#[]⟩,.slice none 0 0,.string ⟨#[]⟩,.slice none 0 0] 209)) w3:=(Zh2 hb3).mono (B':=w.heap.size+1) (by simp)
     have hB3:Below w.heap.size w w3:=((Below.refl w.heap.size w).alloc (Nat.le_refl _) _).trans (hb3'.mono (by omega))
     obtain⟨k0,k1,k2,k3,g0,g1,g2,g3⟩:=box4 hb3'
     clear hb3 hb3'
     go_wp2
     exact bodyPost_ret (v:=.tuple #[.agg #[.string ⟨#[]⟩,.slice none 0 0,.string ⟨#[]⟩,.slice none 0 0],.bool false]) (by simp[results,Tryz.results89,go_sem,k0,k1,k2,k3]) rfl ⟨⟨#[]⟩,none,0,0,⟨#[]⟩,none,0,0,false,rfl,hid (HS.out _ _ _ _ _),(by repeat first|exact Below.refl _ _|assumption|refine Below.alloc ?_ ?_ _|refine Below.setCell ?_ ?_ _|refine Zg ?_ _|refine Below.drew ?_|omega|(simp;omega)|simp)⟩
    ·have HL:Hid ((ZbS y).isSome=true):=hlb
     rw[hlb]at Hline
     clear hlb
     go_wp2_with fail
     refine(ZtL m _ hsa2 (hm2 _ _) (by rw[hab2.1];exact HL.out)).mono ?_
     rintro e w3 ⟨la,ln,lc,qs,rfl,HQ,hb3⟩
     have hz3:w.heap.size+1<=w3.heap.size:=by have:=hb3.size;simp at this;omega
     have hm3:w3.cell? ⟨14,0,none⟩=some (.int .i64 m):=ZpZ (hm2 _ _) hb3 (by simp;omega)
     have hb3':Below (w.heap.size+1) (w.alloc (.cells #[.string ⟨#[]⟩,.slice none 0 0,.string ⟨#[]⟩,.slice none 0 0] 209)) w3:=(Zh2 hb3).mono (B':=w.heap.size+1) (by simp)
     have hB3:Below w.heap.size w w3:=((Below.refl w.heap.size w).alloc (Nat.le_refl _) _).trans (hb3'.mono (by omega))
     clear hb3
     cases hsm:Zb4 z with
     | none=>
      have HS:Hid (∀W nm lv tx sv,Zfa W (bl s) nm lv tx sv 0 false):=hid (fun _ _ _ _ _=>Or.inr ⟨rfl,by rw[Hline.out,hsm];rfl⟩)
      have HM:Hid (Zb4 z=none):=hsm
      clear hsm
      go_wp2_with fail
      refine(ZtR m _ hsb2 hm3 (by rw[hab2.2];exact HM.out)).mono ?_
      rintro e w4 ⟨sv,rfl,hb4⟩
      obtain⟨k0,k1,k2,k3,g0,g1,g2,g3⟩:=box4 (hb3'.trans (hb4.mono hz3))
      have hB4:Below w.heap.size w w4:=hB3.trans (hb4.mono (by omega))
      clear hb3' hb4 hB3
      go_wp2
      exact bodyPost_ret (v:=.tuple #[.agg #[.string ⟨#[]⟩,.slice none 0 0,.string ⟨#[]⟩,.slice none 0 0],.bool false]) (by simp[results,Tryz.results89,go_sem,k0,k1,k2,k3]) rfl ⟨⟨#[]⟩,none,0,0,⟨#[]⟩,none,0,0,false,rfl,hid (HS.out _ _ _ _ _),(by repeat first|exact Below.refl _ _|assumption|refine Below.alloc ?_ ?_ _|refine Below.setCell ?_ ?_ _|refine Zg ?_ _|refine Below.drew ?_|omega|(simp;omega)|simp)⟩
     | some n=>
      have HS:Hid (line (bl s)=some (x,y,n)):=hid (by rw[Hline.out,hsm];rfl)
      have HSA:Hid (ZcU (bl s)=ZdJ z):=hid (Zms HN.out HC.out HC2.out)
      have HM:Hid (Zb4 z=some n):=hsm
      clear hsm
      go_wp2_with fail
      refine(ZtS m _ hsb2 hm3 (by rw[hab2.2];exact HM.out)).mono ?_
      rintro e w4 ⟨sa,sc,rfl,HSR,hb4⟩
      have HR4:Hid (ZbO w4 0 (.slice la ln lc) ln qs):=ZbO.below HQ.1 hb4
      have hb44:=hb3'.trans (hb4.mono hz3)
      have hz4:w.heap.size+1<=w4.heap.size:=Nat.le_trans hz3 hb4.size
      have hB4:Below w.heap.size w w4:=hB3.trans (hb4.mono (by omega))
      clear hb3' hb4 hB3
      go_wp2_with fail
      refine(ZlX _ _ _ w4 qs HR4.out).mono ?_
      rintro e w5 ⟨oa,oc,rfl,hr5,hb5⟩
      have hqn:qs.length=ln:=by have:=HR4.1.1;rw[ZgW]at this;omega
      have HSV:Hid (ZcC w5 (bl s) a (.slice oa ln oc) ⟨(ZL qs).toArray⟩ (.slice sa n sc) n):=hid ⟨y,qs,by rw[HS.out,hab.1],by rw[<-hab2.1];exact HQ.2,by rw[hqn];exact hr5,Zbu _,by rw[HSA.out,<-hab2.2];exact Zm (ZiT HSR.out) hb5⟩
      clear hqn
      obtain⟨k0,k1,k2,k3,g0,g1,g2,g3⟩:=box4 (hb44.trans (hb5.mono hz4))
      have HBX:Hid (w5.heap[w.heap.size]?=some (.cells #[.string ⟨#[]⟩,.slice none 0 0,.string ⟨#[]⟩,.slice none 0 0] 209 (0,0))):=hid (((hb44.trans (hb5.mono hz4)).block _ (by omega)).trans (Go.Deep.blk_alloc_new _ _))
      have hB5:Below w.heap.size w w5:=hB4.trans (hb5.mono (by omega))
      clear hb44 hb5 hr5 hB4
      go_wp2
      exact bodyPost_ret (v:=.tuple #[.agg #[.string a,.slice oa ln oc,.string ⟨(ZL qs).toArray⟩,.slice sa n sc],.bool true]) (by simp[results,Tryz.results89,go_sem,k0,k1,k2,k3]) rfl ⟨a,oa,ln,oc,_,sa,n,sc,true,rfl,hid (Or.inl ⟨rfl,HSV.other HBX.out (fun j hj=>by first|rfl|(repeat rw[Go.Deep.blk_setCell_other _ _ _ _ (by exact hj)]))⟩),(by repeat first|exact Below.refl _ _|assumption|refine Below.alloc ?_ ?_ _|refine Below.setCell ?_ ?_ _|refine Zg ?_ _|refine Below.drew ?_|omega|(simp;omega)|simp)⟩
theorem ZjI(i:Int)(what:Value)(w:World) :
  Calls Tryz.prog 90 #[.int .i64 i,.iface 491 what] w fun e w'=>e=.returned (.iface 115 (.pointer (some ⟨w.heap.size,0,none⟩)))/\w'=w.alloc (.cells #[.string ⟨#[108,105,110,101]⟩,.int .i64 i,.iface 491 what] 119):=by
 go_enter Tryz.func90,Tryz.ntmps90
 go_wp2
 go_ret
 exact⟨rfl,rfl⟩
theorem Tryz.infoSeries:(Tryz.prog.info? 209).map (fun i=>(i.zero,i.size,i.bytes))=some (some (.agg #[.string ByteArray.empty,.slice none 0 0,.string ByteArray.empty,.slice none 0 0]),4,80):=by kernel_rfl
theorem Zol{W:World}{a:Nat}{u v x z:Value}(h0:W.cell? ⟨a,0,none⟩=some u)(h1:W.cell? ⟨a,1,none⟩=some v)(h2:W.cell? ⟨a,2,none⟩=some x)(h3:W.cell? ⟨a,3,none⟩=some z):∀j y,[u,v,x,z][j]?=some y->W.cell? ((⟨a,0,none⟩:Addr).add j)=some y:=by
 intro j y hj
 rw[Zfb]
 match j,hj with
 | 0,hj=>simp at hj;subst hj;exact h0
 | 1,hj=>simp at hj;subst hj;exact h1
 | 2,hj=>simp at hj;subst hj;exact h2
 | 3,hj=>simp at hj;subst hj;exact h3
def ZbH:List (Value×Value×Value×Value)->List Value
 | []=>[]
 | r::rs=>r.1::r.2.1::r.2.2.1::r.2.2.2::ZbH rs
theorem Zph(a b:List (Value×Value×Value×Value)):ZbH (a++b)=ZbH a++ZbH b:=by
 induction a with
 | nil=>rfl
 | cons r a ih=>simp[ZbH,ih]
theorem Zpi(rs:List (Value×Value×Value×Value))(j:Nat):(ZbH rs)[j*4]?=rs[j]?.map (·.1)/\(ZbH rs)[j*4+1]?=rs[j]?.map (·.2.1)/\(ZbH rs)[j*4+2]?=rs[j]?.map (·.2.2.1)/\(ZbH rs)[j*4+3]?=rs[j]?.map (·.2.2.2):=by
 induction rs generalizing j with
 | nil=>simp[ZbH]
 | cons r rs ih=>
  cases j with
  | zero=>simp[ZbH]
  | succ j=>
   obtain⟨h1,h2,h3,h4⟩:=ih j
   refine⟨?_,?_,?_,?_⟩
   ·rw[show(j+1)*4=j*4+1+1+1+1 by omega];simpa [ZbH] using h1
   ·rw[show(j+1)*4+1=j*4+1+1+1+1+1 by omega];simpa [ZbH] using h2
   ·rw[show(j+1)*4+2=j*4+2+1+1+1+1 by omega];simpa [ZbH] using h3
   ·rw[show(j+1)*4+3=j*4+3+1+1+1+1 by omega];simpa [ZbH] using h4
def ZdU(rs:List (Value×Value×Value×Value))(es:List Entry):Prop:=rs.length=es.length/\∀j (h:j<es.length),∃nm a n c tx sa sc,rs[j]?=some (.string nm,.slice a n c,.string tx,.slice sa (es[j]).count sc)
theorem ZdU.snoc{rs:List (Value×Value×Value×Value)}{es:List Entry}(h:ZdU rs es)(x:Entry)(nm:ByteArray)(a:Option Addr)(n c:Nat)(tx:ByteArray)(sa:Option Addr)(sc:Nat) :
  ZdU (rs++[(.string nm,.slice a n c,.string tx,.slice sa x.count sc)]) (es++[x]):=by
 refine⟨by simp[h.1],fun j hj=>?_⟩
 by_cases hlt:j<es.length
 ·obtain⟨nm',a',n',c',tx',sa',sc',e⟩:=h.2 j hlt
  exact⟨nm',a',n',c',tx',sa',sc',by rw[List.getElem?_append_left (by rw[h.1];exact hlt),e,List.getElem_append_left hlt]⟩
 ·have hj':j=es.length:=by simp at hj;omega
  subst hj'
  refine⟨nm,a,n,c,tx,sa,sc,?_⟩
  rw[List.getElem?_append_right (by rw[h.1];exact Nat.le_refl _),h.1];simp
theorem ZcC.grown{w w':World}{l:List UInt8}{nm:ByteArray}{lv:Value}{tx:ByteArray}{sv:Value}{sn:Nat}(h:ZcC w l nm lv tx sv sn){b:Nat}{e:TypeId}{s:Nat}{v:Value}{n:Nat}{xs:List Value}(hg:w.grownBy w' v.ownBlock)(hv:w.ownsRow b e s v n xs)(h1:394≠e)(h2:398≠e):ZcC w' l nm lv tx sv sn:=by
 obtain⟨i,qs,e1,e2,e3,e4,e5⟩:=h
 exact⟨i,qs,e1,e2,⟨e3.1.kept hg (ZiS e3.1 hv h1),e3.2⟩,e4,e5.kept hg (ZiS e5 hv h2)⟩
def AllV(w:World)(rs:List (Value×Value×Value×Value))(es:List Entry)(ps:List (List UInt8)):Prop:=∀j (h:j<es.length),∃(nm:ByteArray) (a:Option Addr) (n c:Nat) (tx:ByteArray) (sa:Option Addr) (sc:Nat),rs[j]?=some (.string nm,.slice a n c,.string tx,.slice sa (es[j]).count sc)/\ZcC w (ps.getD (es[j]).at_ []) nm (.slice a n c) tx (.slice sa (es[j]).count sc) (es[j]).count/\line (ps.getD (es[j]).at_ [])=some ((es[j]).name,(es[j]).inside,(es[j]).count)
theorem AllV.below {w w' : World} {rs : List (Value × Value × Value × Value)} {es : List Entry} {ps : List (List UInt8)} (h : AllV w rs es ps) (hb : Below w.heap.size w w') : AllV w' rs es ps := fun j hj => by
  obtain⟨nm,a,n,c,tx,sa,sc,e1,e2,e3⟩:=h j hj;exact⟨nm,a,n,c,tx,sa,sc,e1,e2.below hb,e3⟩
theorem AllV.grown {w w' : World} {rs : List (Value × Value × Value × Value)} {es : List Entry} {ps : List (List UInt8)} (h : AllV w rs es ps) {b : Nat} {e : TypeId} {s : Nat} {v : Value} {n : Nat} {xs : List Value} (hg : w.grownBy w' v.ownBlock) (hv : w.ownsRow b e s v n xs) (h1 : 394 ≠ e) (h2 : 398 ≠ e) : AllV w' rs es ps := fun j hj => by
  obtain⟨nm,a,n,c,tx,sa,sc,e1,e2,e3⟩:=h j hj;exact⟨nm,a,n,c,tx,sa,sc,e1,e2.grown hg hv h1 h2,e3⟩
theorem AllV.snoc{w:World}{rs:List (Value×Value×Value×Value)}{es:List Entry}{ps:List (List UInt8)}(hl:rs.length=es.length)(h:AllV w rs es ps)(z:Entry)(nm:ByteArray)(a:Option Addr)(n c:Nat)(tx:ByteArray)(sa:Option Addr)(sc:Nat)
  (h1:ZcC w (ps.getD z.at_ []) nm (.slice a n c) tx (.slice sa z.count sc) z.count) (h2:line (ps.getD z.at_ [])=some (z.name,z.inside,z.count)):AllV w (rs++[(.string nm,.slice a n c,.string tx,.slice sa z.count sc)]) (es++[z]) ps:=fun j hj=>by
 by_cases hlt:j<es.length
 ·obtain⟨nm',a',n',c',tx',sa',sc',e1,e2⟩:=h j hlt
  refine⟨nm',a',n',c',tx',sa',sc',?_⟩
  rw[List.getElem?_append_left (by rw[hl];exact hlt),List.getElem_append_left hlt]
  exact⟨e1,e2⟩
 ·have hj':j=es.length:=by simp at hj;omega
  subst hj'
  refine⟨nm,a,n,c,tx,sa,sc,?_⟩
  rw[List.getElem?_append_right (by rw[hl];exact Nat.le_refl _),hl]
  simp only[Nat.sub_self,List.getElem?_cons_zero,List.getElem_append_right (Nat.le_refl _),List.getElem_cons_zero]
  exact⟨trivial,h1,h2⟩
theorem ZtN(g:Nat)(ps:List (List UInt8))(n:Nat)(A:Nat->Addr)(m:Int)(w:World)(hn:Hid (n=ps.length))(hn6:n<=6001)(hp6:Hid (∀i,i<ps.length->(ps.getD i []).length<=6000))(hrow:ZeN w g ps)(hv:Vars w A m) :
  Calls Tryz.prog 43 #[.slice (some ⟨g, 0, none⟩) n n] w fun e w' => Below w.heap.size w w' /\
    ((∃(i:Nat) (fa:Nat),e=.returned (.tuple #[.slice none 0 0,.iface 115 (.pointer (some ⟨fa,0,none⟩))])/\w'.heap[fa]?=some (.cells #[.string ⟨#[108,105,110,101]⟩,.int .i64 i,.iface 491 (.pointer (some (A 4)))] 119 (0,0))/\Hid (Z3 0 [] ps=.inl i))∨
     (∃(v:Value) (es:List Entry) (rs:List (Value×Value×Value×Value)),e=.returned (.tuple #[v,.nilIface])/\w'.ownsRow 0 209 4 v es.length (ZbH rs)/\Hid (ZdU rs es/\Z3 0 [] ps=.inr es)/\Hid (AllV w' rs es ps))):=by
 obtain⟨i0,hi,hz0,hz1,hz2⟩:=info_parts Tryz.infoSeries
 have hgl:g<w.heap.size:=hrow.1
 go_enter Tryz.func43,Tryz.ntmps43
 go_wp2
 go_loopw [4, 11] (fun v i wr => ∃ (k : Nat) (es : List Entry) (rs : List (Value × Value × Value × Value)), k <= n /\ i = .int .i64 k /\ es.length <= k /\ wr.ownsRow w.heap.size 209 4 v es.length (ZbH rs) /\ Hid (ZdU rs es /\ Z3 0 [] ps = Z3 k es (ps.drop k)) /\ Hid (AllV wr rs es ps) /\ Below w.heap.size w wr)
   (fun _ i _=>n - (intOf i).toNat)
 case atStart=>exact⟨0,[],[],Nat.zero_le _,rfl,Nat.zero_le _,World.ownsRow_nil _ _ _ _,⟨⟨rfl,fun j h=>by simp at h⟩,rfl⟩,hid (fun j h=>by simp at h),Below.refl _ _⟩
 case round=>
  obtain⟨k,es,rs,hk,rfl,hek,hown,HA,HAV,hbr⟩:=hrel
  have hwr:w.heap.size<=wr.heap.size:=hbr.size
  have hvr:=hv.below hbr
  by_cases hlt:k<n
  ·have hkl:k<ps.length:=by rw[<-hn.out];exact hlt
   obtain⟨sk,hck,hsk⟩:=(hrow.below hbr hgl).2 k hkl
   have hsk6:sk.size<=6000:=by rw[ZO hsk];exact hp6.out k hkl
   have HK:Hid (bl sk=ps.getD k []):=hsk
   clear hsk
   cases he:sk.toList.isEmpty
   ·have HNE:Hid (ps.getD k []≠[]):=by rw[<-HK.out];exact Zf4 he
    have hmr:=hvr.max
    have hst:=hvr.sent 4 (by decide)
    go_wp2_with fail
    refine(ZtT sk m _ hsk6 hmr).mono ?_
    rintro e w2 ⟨nm,la,ln,lc,tx,sa,sn,sc,ok,rfl,hser,hb2⟩
    have hst2:w2.cell? ⟨4,0,none⟩=some (.iface 491 (.pointer (some (A 4)))):=(hvr.below hb2).sent _ (by decide)
    have hst3:∀o,(w2.alloc o).cell? ⟨4,0,none⟩=some (.iface 491 (.pointer (some (A 4)))):=fun o=>((hvr.below hb2).alloc o).sent _ (by decide)
    have hbw:Below w.heap.size w w2:=hbr.trans (hb2.mono hwr)
    have hw2:w.heap.size<=w2.heap.size:=hbw.size
    have hown2:=Zm hown hb2
    clear hst hmr hvr
    cases ok
    ·have HF:Hid (Z3 0 [] ps=.inl k):=hid (by
      rw[HA.2];refine ZrE hkl HNE.out ?_
      rw[<-HK.out]
      rcases hser.out with ⟨h,_⟩|⟨_,h⟩
      ·cases h
      ·exact h)
     go_wp2_with (go_at_call 90;refine(ZjI _ _ _).mono ?_;rintro e w' ⟨rfl,rfl⟩)
     go_ret2
     refine⟨(by repeat first|exact Below.refl _ _|assumption|refine Below.alloc ?_ ?_ _|refine Below.setCell ?_ ?_ _|refine Zg ?_ _|refine Below.drew ?_|omega|(simp;omega)|simp),Or.inl ⟨k,w2.heap.size+1,rfl,?_,HF⟩⟩
     rw[show w2.heap.size+1=(w2.alloc (.cells #[.string nm,.slice la ln lc,.string tx,.slice sa sn sc] 209)).heap.size by simp]
     exact Array.getElem?_push_size
    ·have HSV:Hid (ZcC w2 (bl sk) nm (.slice la ln lc) tx (.slice sa sn sc) sn):=hid (by
      rcases hser.out with ⟨_,h⟩|⟨h,_⟩
      ·exact h
      ·cases h)
     obtain⟨na,ins,hli⟩:∃name inside,line (bl sk)=some (name,inside,sn):=by
      obtain⟨ins,qs,h,_⟩:=HSV.out;exact⟨_,ins,h⟩
     have HAV2:Hid (AllV w2 (rs++[(.string nm,.slice la ln lc,.string tx,.slice sa sn sc)]) (es++[⟨k,na,ins,sn⟩]) ps):=hid (AllV.snoc HA.1.1 (HAV.below hb2) ⟨k,na,ins,sn⟩ nm la ln lc tx sa sc (by show ZcC w2 (ps.getD k []) nm (.slice la ln lc) tx (.slice sa sn sc) sn;rw[<-HK.out];exact HSV.out) (by show line (ps.getD k [])=some (na,ins,sn);rw[<-HK.out];exact hli))
     have HF:Hid (ZdU (rs++[(.string nm,.slice la ln lc,.string tx,.slice sa sn sc)]) (es++[⟨k,na,ins,sn⟩])/\Z3 0 [] ps=Z3 (k+1) (es++[⟨k,na,ins,sn⟩]) (ps.drop (k+1))):=
      ⟨HA.1.snoc ⟨k,na,ins,sn⟩ nm la ln lc tx sa sc,by rw[HA.2];exact ZrF hkl HNE.out (by rw[<-HK.out];exact hli)⟩
     clear hli hser
     go_wp2_with (at_builtin;refine wpList_append_own _ rfl (.tmp 28) (.tmp 30) 65 rfl w.heap.size 209 i0 (.agg #[.string ByteArray.empty,.slice none 0 0,.string ByteArray.empty,.slice none 0 0]) 4 80 Tryz.underlying65 hi hz0 hz1 hz2 rfl (by decide) _ _ _ rfl ((hown2.alloc _).alloc _) ⟨w2.heap.size+1,0,none⟩ 1 1 [.string nm,.slice la ln lc,.string tx,.slice sa sn sc] rfl rfl ?c1 ?c2 ?c3 ?c4 ?c5 ?_)
     case c1=>exact Zol (by simp) (by simp) (by simp) (by simp)
     case c2=>intro u hu;simp at hu;rcases hu with rfl|rfl|rfl|rfl <;> rfl
     case c3=>unfold maxLen;omega
     case c4=>omega
     case c5=>simp;omega
     intro v' w3 hown3 hgrow _
     have hb3:Below w.heap.size w w3:=((hbw.alloc (by omega) _).alloc (by simp;omega) _).grown hgrow (by simp;omega) (fun q hq=>(hown2.lt q hq).1)
     have hown4:w3.ownsRow w.heap.size 209 4 v' (es++[(⟨k,na,ins,sn⟩:Entry)]).length (ZbH (rs++[(.string nm,.slice la ln lc,.string tx,.slice sa sn sc)])):=by
      rw[Zph,List.length_append];exact hown3
     have hb23:∀o o':Obj,Below w2.heap.size w2 ((w2.alloc o).alloc o'):=fun o o'=>Zbal.alloc (by simp) _
     have HAV3:Hid (AllV w3 (rs++[(.string nm,.slice la ln lc,.string tx,.slice sa sn sc)]) (es++[⟨k,na,ins,sn⟩]) ps):=hid ((HAV2.below (hb23 _ _)).grown hgrow ((hown2.alloc _).alloc _) (by decide) (by decide))
     clear hown2 hown hgrow hown3 hb23
     go_wp2
     go_roundw
     case rel=>exact⟨k+1,_,_,by omega,by go_num,by simp;omega,hown4,HF,HAV3,hb3⟩
     case measure=>simp[intOf];omega
   ·have HF:Hid (ZdU rs es/\Z3 0 [] ps=Z3 (k+1) es (ps.drop (k+1))):=
     ⟨HA.1,by rw[HA.2];exact ZrG hkl (by rw[<-HK.out];exact Zfq he)⟩
    go_wp2
    go_roundw
    case rel=>exact⟨k+1,es,rs,by omega,by go_num,by omega,hown,HF,HAV,hbr⟩
    case measure=>simp[intOf];omega
  ·have HF:Hid (ZdU rs es/\Z3 0 [] ps=.inr es):=⟨HA.1,by rw[HA.2];exact ZrH (by rw[<-hn.out];exact hlt)⟩
   go_wp2
   go_ret2
   exact⟨hbr,Or.inr ⟨_,es,rs,rfl,hown.mono (Nat.zero_le _),HF,HAV⟩⟩
def Zci(es:List Entry)(k:Nat):Nat:=((es.take k).map (·.count)).sum
theorem ZmL(es:List Entry)(k:Nat)(h:k<es.length):Zci es (k+1)=Zci es k+(es[k]).count:=by
 unfold Zci;rw[List.take_succ_eq_append_getElem h,List.map_append,List.sum_append];rfl
theorem ZmK(es:List Entry)(h:∀e∈es,e.count<=6001)(k:Nat):Zci es k<=6001*k:=by
 induction k with
 | zero=>simp[Zci]
 | succ k ih=>
  by_cases hk:k<es.length
  ·rw[ZmL es k hk];have:=h _ (List.getElem_mem hk);omega
  ·have:Zci es (k+1)=Zci es k:=by unfold Zci;rw[List.take_of_length_le (by omega),List.take_of_length_le (by omega)]
   omega
theorem ZoI(v:Value)(es:List Entry)(rs:List (Value×Value×Value×Value))(w:World)(hown:w.ownsRow 0 209 4 v es.length (ZbH rs))(hR:Hid (ZdU rs es))(hc:Hid (∀e∈es,e.count<=6001))(hl:es.length<=6001) :
  Calls Tryz.prog 45 #[v] w fun e w'=>e=.returned (.int .i64 (Zci es es.length))/\Below w.heap.size w w':=by
 obtain⟨av,cp,rfl⟩:=Zr hown
 go_enter Tryz.func45,Tryz.ntmps45
 go_wp2
 go_loopw [3,8] (fun c i wr=>∃k:Nat,k<=es.length/\i=.int .i64 k/\c=.int .i64 (Zci es k)/\Below w.heap.size w wr) (fun _ i _=>es.length - (intOf i).toNat)
 case atStart=>exact⟨0,Nat.zero_le _,rfl,by simp[Zci],Below.refl _ _⟩
 case round=>
  obtain⟨k,hk,rfl,rfl,hbr⟩:=hrel
  have hwr:w.heap.size<=wr.heap.size:=hbr.size
  have hs1:=ZmK es hc.out k
  by_cases hlt:k<es.length
  ·have HS:Hid (Zci es (k+1)=Zci es k+(es[k]).count):=ZmL es k hlt
   have hcb:=hc.out _ (List.getElem_mem hlt)
   obtain⟨nm,a,n,c,tx,sa,sc,hr⟩:=hR.2 k hlt
   obtain⟨f1,f2,f3,f4⟩:=Zpi rs k
   rw[hr]at f1 f2 f3 f4
   have hg:∃g,av=some ⟨g,0,none⟩:=by
    obtain⟨g,cp',h⟩:=ZV hown (by omega)
    injection h with h1;exact⟨g,h1⟩
   obtain⟨g,rfl⟩:=hg
   have hgl:=ZbX hown
   have c1:wr.cell? ⟨g,k*4,none⟩=some (.string nm):=(hbr.cell (p:=⟨g,k*4,none⟩) hgl).trans (Zj hown _ _ f1)
   have c2:wr.cell? ⟨g,k*4+1,none⟩=some (.slice a n c):=(hbr.cell (p:=⟨g,k*4+1,none⟩) hgl).trans (Zj hown _ _ f2)
   have c3:wr.cell? ⟨g,k*4+2,none⟩=some (.string tx):=(hbr.cell (p:=⟨g,k*4+2,none⟩) hgl).trans (Zj hown _ _ f3)
   have c4:wr.cell? ⟨g,k*4+3,none⟩=some (.slice sa (es[k]).count sc):=(hbr.cell (p:=⟨g,k*4+3,none⟩) hgl).trans (Zj hown _ _ f4)
   generalize(es[k]).count=cnt at *
   clear hr f1 f2 f3 f4
   go_wp2
   go_roundw
   case rel=>exact⟨k+1,by omega,by go_num,by rw[HS.out];go_num,(by repeat first|exact Below.refl _ _|assumption|refine Below.alloc ?_ ?_ _|refine Below.setCell ?_ ?_ _|refine Zg ?_ _|refine Below.drew ?_|omega|(simp;omega)|simp)⟩
   case measure=>simp[intOf];omega
  ·obtain rfl:k=es.length:=by omega
   go_wp2
   go_ret
   exact⟨rfl,hbr⟩
def ZeM(ps:List (List UInt8×List UInt8)):Nat->List UInt8
 | 0=>[]
 | k+1=>(if 0<k then ZeM ps k++[44] else ZeM ps k)++(ps.getD k ([],[])).1++[61]++(ps.getD k ([],[])).2
open Go.RowKit Go.Maps Go.WideMaps LS
def Zc3(l:List UInt8):List UInt8:=match cut 125 l with|some p=>p.1|none=>l
def ZbB:Nat->List (List UInt8)->List (List UInt8)->Option Nat
 | _,_,[]=>none
 | i,seen,x::xs=>if x=[] then ZbB (i+1) seen xs else if seen.contains (Zc3 x)then some i else ZbB (i+1) (seen++[Zc3 x]) xs
theorem Zvo{i:Nat}{seen ps:List (List UInt8)}(hk:i<ps.length)(h:ps.getD i []=[]):ZbB i seen (ps.drop i)=ZbB (i+1) seen (ps.drop (i+1)):=by
 have e:ps.getD i []=ps[i]:=by simp[hk]
 rw[List.drop_eq_getElem_cons hk,ZbB,<-e,if_pos h]
theorem Zvq{i:Nat}{seen ps:List (List UInt8)}(hk:i<ps.length)(h:ps.getD i []≠[])(hs:seen.contains (Zc3 (ps.getD i []))=true):ZbB i seen (ps.drop i)=some i:=by
 have e:ps.getD i []=ps[i]:=by simp[hk]
 rw[List.drop_eq_getElem_cons hk,ZbB,<-e,if_neg h,if_pos hs]
theorem Zvr{i:Nat}{seen ps:List (List UInt8)}(hk:i<ps.length)(h:ps.getD i []≠[])(hs:seen.contains (Zc3 (ps.getD i []))=false):ZbB i seen (ps.drop i)=ZbB (i+1) (seen++[Zc3 (ps.getD i [])]) (ps.drop (i+1)):=by
 have e:ps.getD i []=ps[i]:=by simp[hk]
 rw[List.drop_eq_getElem_cons hk,ZbB,<-e,if_neg h,if_neg (by rw[hs];exact Bool.false_ne_true)]
theorem Zvp{i:Nat}{seen ps:List (List UInt8)}(hk:¬i<ps.length):ZbB i seen (ps.drop i)=none:=by
 rw[List.drop_of_length_le (by omega)];rfl
theorem law9:Keyed Tryz.prog 9:=string_keyed Tryz.underlying9
theorem Znx(w:World):(zeroValue 215).run Tryz.prog w=.ok (.agg #[]) w:=by kernel_rfl
def Sd(seen:List (List UInt8)):DataW Unit:=setOf (.agg []) (seen.map Lit.string)
theorem Znz(seen:List (List UInt8))(x:List UInt8):Sd (seen++[x])=(Sd seen).put (.string x) (.agg []):=by
 unfold Sd;rw[List.map_append,List.map_cons,List.map_nil,setOf_snoc]
theorem Zqb(seen:List (List UInt8)):∀x∈seen.map Lit.string,WideAt.IsKeyLit x:=by
 intro x hx
 obtain⟨y,_,rfl⟩:=List.mem_map.1 hx
 trivial
theorem ZpR(seen:List (List UInt8))(x:List UInt8):Maps.has (Sd seen) (.string x)=seen.contains x:=by
 unfold Sd
 rw[has_setOf _ _ _ (Zqb seen)]
 induction seen with
 | nil=>rfl
 | cons a l ih=>
  rw[List.map_cons,List.any_cons,ih,List.contains_cons]
  congr 1
  show(a == x)=(x == a)
  exact BEq.comm
theorem ZoK{s:ByteArray}(m:Int)(w:World)(hs:s.size<=6000)(hm:w.cell? ⟨14,0,none⟩=some (.int .i64 m)) :
  Calls Tryz.prog 91 #[.string s,.string ⟨#[125]⟩] w fun e w'=>∃(a b:ByteArray) (f:Bool),e=.returned (.tuple #[.string a,.string b,.bool f])/\Hid (bl a=Zc3 (bl s))/\a.size<=6000/\∃n,w'=w.drewN n:=by
 cases hc:cut 125 (bl s)with
 | none=>
  refine(Zfi m w hs hm hc).mono ?_
  rintro e w' ⟨a,b,rfl,hab,hw⟩
  exact⟨a,b,_,rfl,hid (by unfold Zc3;rw[hc];exact hab.1),by rw[ZO hab.1,Ze];exact hs,hw⟩
 | some p=>
  obtain⟨x,y⟩:=p
  refine(ZdY m w hs hm hc).mono ?_
  rintro e w' ⟨a,b,rfl,hab,hw⟩
  refine⟨a,b,_,rfl,hid (by unfold Zc3;rw[hc];exact hab.1),?_,hw⟩
  have:(bl s).length=x.length+(y.length+1):=by rw[(Zdb hc).1];simp
  rw[ZO hab.1];rw[Ze]at this;omega
theorem ZrN(g:Nat)(ps:List (List UInt8))(n:Nat)(A:Nat->Addr)(m:Int)(w:World)(hn:Hid (n=ps.length))(hn6:n<=6001)(hp6:Hid (∀i,i<ps.length->(ps.getD i []).length<=6000))(hrow:ZeN w g ps)(hv:Vars w A m) :
  Calls Tryz.prog 44 #[.slice (some ⟨g, 0, none⟩) n n] w fun e w' => Below w.heap.size w w' /\
    ((∃(i:Nat) (fa:Nat),e=.returned (.iface 115 (.pointer (some ⟨fa,0,none⟩)))/\w'.heap[fa]?=some (.cells #[.string ⟨#[108,105,110,101]⟩,.int .i64 i,.iface 491 (.pointer (some (A 5)))] 119 (0,0))/\Hid (ZbB 0 [] ps=some i))∨
     (e=.returned .nilIface/\Hid (ZbB 0 [] ps=none))):=by
 have hmm:=@run_makeMap Tryz.prog
 have hgl:g<w.heap.size:=hrow.1
 go_enter Tryz.func44,Tryz.ntmps44
 go_wp2
 go_loopw [14] (fun i wr => ∃ (k : Nat) (seen : List (List UInt8)), k <= n /\ i = .int .i64 k /\ wr.ownsMap Tryz.prog 9 unitElem w.heap.size k (Sd seen) /\ Hid (ZbB 0 [] ps = ZbB k seen (ps.drop k)) /\ Below w.heap.size w wr /\ w.heap.size + 1 <= wr.heap.size)
   (fun i _=>n - (intOf i).toNat)
 case atStart=>exact⟨0,[],Nat.zero_le _,rfl,World.ownsMap_made _ _ _ _,rfl,Zbal,by simp⟩
 case round=>
  obtain⟨k,seen,hk,rfl,hown,HA,hbr,hwr⟩:=hrel
  have hvr:=hv.below hbr
  by_cases hlt:k<n
  ·have hkl:k<ps.length:=by rw[<-hn.out];exact hlt
   obtain⟨sk,hck,hsk⟩:=(hrow.below hbr hgl).2 k hkl
   have hsk6:sk.size<=6000:=by rw[ZO hsk];exact hp6.out k hkl
   have HK:Hid (bl sk=ps.getD k []):=hsk
   clear hsk
   cases he:sk.toList.isEmpty
   ·have HNE:Hid (ps.getD k []≠[]):=by rw[<-HK.out];exact Zf4 he
    have hmr:=hvr.max
    go_wp2_with fail
    refine(ZoK m _ hsk6 hmr).mono ?_
    rintro e w2 ⟨a,b,f,rfl,ha,ha6,j,rfl⟩
    have hst3:∀o,((wr.alloc o).drewN j).cell? ⟨5,0,none⟩=some (.iface 491 (.pointer (some (A 5)))):=fun o=>(hvr.alloc o).sent _ (by decide)
    have hst4:∀o,(wr.alloc o).cell? ⟨5,0,none⟩=some (.iface 491 (.pointer (some (A 5)))):=fun o=>(hvr.alloc o).sent _ (by decide)
    have hst5:∀o,((wr.drewN j).alloc o).cell? ⟨5,0,none⟩=some (.iface 491 (.pointer (some (A 5)))):=fun o=>((hvr.drewN j).alloc o).sent _ (by decide)
    have hkey:keyOf Tryz.prog 9 (.string a)=some (.string a.data.toList):=keyOf_string_mk Tryz.underlying9 (by unfold maxLen;omega)
    have hhas:Maps.has (Sd seen) (.string a.data.toList)=seen.contains (Zc3 (ps.getD k [])):=by
     rw[ZpR];show seen.contains (bl a)=_;rw[ha.out,HK.out]
    have hownd:(wr.drewN j).ownsMap Tryz.prog 9 unitElem w.heap.size k (Sd seen):=hown
    clear hmr hvr
    cases hs:seen.contains (Zc3 (ps.getD k []))
    ·have HF:Hid (ZbB 0 [] ps=ZbB (k+1) (seen++[Zc3 (ps.getD k [])]) (ps.drop (k+1))):=hid (by rw[HA.out];exact Zvr hkl HNE.out hs)
     rw[hs]at hhas
     clear hs
     go_wp2_with (first
       | (at_lookup;refine wpList_lookup_own_unit _ rfl _ _ 212 rfl 9 215 law9 Tryz.underlying212 (Znx _) w.heap.size k _ rfl hownd _ _ rfl hkey ?_)
       | (at_mapUpdate;refine wpList_mapUpdate_own _ rfl _ _ _ 212 rfl 9 215 law9 Tryz.underlying212 (unitElem (H:=Unit)) w.heap.size k _ rfl (hownd.alloc _) (by unfold maxLen;omega) _ _ _ rfl rfl hkey _ [] unitElem_mk ?_;intro w1 hown1 hgrow1))
     have s1:=hgrow1.size
     simp at s1
     go_roundw
     case rel=>
      refine⟨k+1,_,by omega,by go_num,?_,HF,?_,by omega⟩
      ·rw[Znz,<-HK.out,<-ha.out];exact hown1
      ·exact((Zg hbr j).alloc (by simp;omega) _).grown hgrow1 (by simp;omega) (fun q hq=>by cases hq;exact Nat.le_refl _)
     case measure=>simp[intOf];omega
    ·have HF:Hid (ZbB 0 [] ps=some k):=hid (by rw[HA.out];exact Zvq hkl HNE.out hs)
     rw[hs]at hhas
     clear hs
     go_wp2_with (first
       | (at_lookup;refine wpList_lookup_own_unit _ rfl _ _ 212 rfl 9 215 law9 Tryz.underlying212 (Znx _) w.heap.size k _ rfl hownd _ _ rfl hkey ?_)
       | (go_at_call 90;refine(ZjI _ _ _).mono ?_;rintro e w' ⟨rfl,rfl⟩))
     go_ret
     refine⟨(by repeat first|exact Below.refl _ _|assumption|refine Below.alloc ?_ ?_ _|refine Below.setCell ?_ ?_ _|refine Zg ?_ _|refine Below.drew ?_|omega|(simp;omega)|simp),Or.inl ⟨k,wr.heap.size+1,rfl,?_,HF⟩⟩
     rw[show wr.heap.size+1=(wr.alloc (.cells #[] 215)).heap.size by simp]
     exact Array.getElem?_push_size
   ·have HF:Hid (ZbB 0 [] ps=ZbB (k+1) seen (ps.drop (k+1))):=hid (by rw[HA.out];exact Zvo hkl (by rw[<-HK.out];exact Zfq he))
    go_wp2
    go_roundw
    case rel=>exact⟨k+1,seen,by omega,by go_num,hown.mono (Nat.le_succ _),HF,hbr,hwr⟩
    case measure=>simp[intOf];omega
  ·have HF:Hid (ZbB 0 [] ps=none):=hid (by rw[HA.out];exact Zvp (by rw[<-hn.out];exact hlt))
   go_wp2
   go_ret
   exact⟨hbr,Or.inr ⟨rfl,HF⟩⟩
end Go.Proofs.YtkodhpilkaihjaaGreatDoor

/- Parts. -/
import Derived.Test.YtcdgkkfipdoeeaaGreatDoorT14
import Derived.Deep.Onto
import Derived.Test.YtcdgkkfipdoeeaaGreatDoorT00
import Derived.BigRegion
import Derived.Test.YtcdgkkfipdoeeaaGreatDoorT13
import Derived.Test.YtcdgkkfipdoeeaaGreatDoorT05
import Derived.Test.YtcdgkkfipdoeeaaGreatDoorT02
import Derived.Deep.LoopGhost
import Derived.Deep.QuietTactic
import Derived.BigQuiet
import Derived.Test.YtcdgkkfipdoeeaaGreatDoorT10
import Derived.Test.YtcdgkkfipdoeeaaGreatDoorT12
import Derived.Deep.RegionHeld3
import Derived.Deep.DrawnRows
import Derived.Deep.CutBlock
set_option maxHeartbeats 2000000
set_option maxRecDepth 100000
namespace Go.Proofs.YtcdgkkfipdoeeaaGreatDoor
open Go.RowKit LS
theorem Zo7(s:ByteArray)(m:Int)(w:World)(hs:s.size<=6000)(hm:w.cell? ⟨14,0,none⟩=some (.int .i64 m)) :
  Calls Tryz.prog 192 #[.string s] w fun e w' => ∃ (a : Option Addr) (n cap : Nat) (ok : Bool), e = .returned (.tuple #[.slice a n cap, .bool ok]) /\
    Hid (ok=(ZbV (bl s)).isSome/\(ok=true->∃qs,ZbT w' 0 (.slice a n cap) n qs/\ZbV (bl s)=some (qs.map blP)))/\Below w.heap.size w w':=by
 cases he:s.toList.isEmpty
 ·have hne:=Zin he
  have hF:ZbV (bl s)=Zbw [] [] (split 44 (bl s)):=by unfold ZbV;rw[if_neg hne]
  rw[hF]
  exact ZwP s m w hs hm he
 ·have HF:Hid (ZbV (bl s)=some []):=hid (by rw[Zg5 he];rfl)
  go_enter Tryz.func192,Tryz.ntmps192
  go_wp2
  go_ret2
  exact⟨none,0,0,true,rfl,⟨by rw[HF.out];rfl,fun _=>⟨[],⟨World.ownsRow_nil _ _ _ _,by omega,fun p hp=>nomatch hp⟩,HF.out⟩⟩,Below.refl _ _⟩
theorem ZwN{s:ByteArray}(m:Int)(w:World)(hs:s.size<=6000)(hm:w.cell? ⟨14,0,none⟩=some (.int .i64 m))(h:(ZbV (bl s)).isSome=false) :
  Calls Tryz.prog 192 #[.string s] w fun e w'=>∃(a:Option Addr) (n cap:Nat),e=.returned (.tuple #[.slice a n cap,.bool false])/\Below w.heap.size w w':=by
 refine(Zo7 s m w hs hm).mono ?_
 rintro e w' ⟨a,n,cap,ok,rfl,hok,hb⟩
 exact⟨a,n,cap,by rw[hok.1,h],hb⟩
theorem ZwO{s:ByteArray}(m:Int)(w:World)(hs:s.size<=6000)(hm:w.cell? ⟨14,0,none⟩=some (.int .i64 m))(h:(ZbV (bl s)).isSome=true) :
  Calls Tryz.prog 192 #[.string s] w fun e w'=>∃(a:Option Addr) (n cap:Nat) (qs:List (ByteArray×ByteArray)),e=.returned (.tuple #[.slice a n cap,.bool true])/\Hid (ZbT w' 0 (.slice a n cap) n qs/\ZbV (bl s)=some (qs.map blP))/\Below w.heap.size w w':=by
 refine(Zo7 s m w hs hm).mono ?_
 rintro e w' ⟨a,n,cap,ok,rfl,hok,hb⟩
 have e:ok=true:=by rw[hok.1,h]
 subst e
 obtain⟨qs,h1,h2⟩:=hok.2 rfl
 exact⟨a,n,cap,qs,rfl,⟨h1,h2⟩,hb⟩
theorem box4{w w1:World}{x y z u:Value}{t:TypeId}(hb:Below (w.heap.size+1) (w.alloc (.cells #[x,y,z,u] t)) w1) :
  w1.cell? ⟨w.heap.size,0,none⟩=some x/\w1.cell? ⟨w.heap.size,1,none⟩=some y/\w1.cell? ⟨w.heap.size,2,none⟩=some z/\w1.cell? ⟨w.heap.size,3,none⟩=some u/\
  w1.frozen? ⟨w.heap.size,0,none⟩=false/\w1.frozen? ⟨w.heap.size,1,none⟩=false/\w1.frozen? ⟨w.heap.size,2,none⟩=false/\w1.frozen? ⟨w.heap.size,3,none⟩=false:=by
 have h:w1.heap[w.heap.size]?=some (.cells #[x,y,z,u] t (0,0)):=(hb.block _ (by omega)).trans (Go.Deep.blk_alloc_new _ _)
 refine⟨?_,?_,?_,?_,?_,?_,?_,?_⟩ <;> simp[World.cell?,World.frozen?,h]
theorem ZwU{s:ByteArray}(m:Int)(w:World)(hs:s.size<=6000)(hm:w.cell? ⟨14,0,none⟩=some (.int .i64 m))(h:Zca (bl s)=none) :
  Calls Tryz.prog 193 #[.string s] w fun e w'=>∃sv:Value,e=.returned (.tuple #[sv,.bool false])/\Below w.heap.size w w':=by
 refine(Zo8 s m w hs hm).mono ?_
 rintro e w' ⟨sv,ok,rfl,hok,hb⟩
 rcases hok.out with ⟨_,_,_,_,_,h',_⟩|⟨h',_⟩
 ·rw[h]at h';cases h'
 ·exact⟨sv,by rw[h'],hb⟩
theorem ZwV{s:ByteArray}{n:Nat}(m:Int)(w:World)(hs:s.size<=6000)(hm:w.cell? ⟨14,0,none⟩=some (.int .i64 m))(h:Zca (bl s)=some n) :
  Calls Tryz.prog 193 #[.string s] w fun e w'=>∃a cap,e=.returned (.tuple #[.slice a n cap,.bool true])/\Hid (w'.ownsRow w.heap.size 358 2 (.slice a n cap) n (Zb8 (ZdS (bl s))))/\Below w.heap.size w w':=by
 refine(Zo8 s m w hs hm).mono ?_
 rintro e w' ⟨sv,ok,rfl,hok,hb⟩
 rcases hok.out with ⟨h1,a,n',cap,h2,h',h3⟩|⟨_,h'⟩
 ·rw[h]at h';obtain rfl:=Option.some.inj h'
  exact⟨a,cap,by rw[h1,h2],by rw[<-h2];exact h3,hb⟩
 ·rw[h]at h';cases h'
def ZcD(w:World)(l:List UInt8)(nm:ByteArray)(lv:Value)(tx:ByteArray)(sv:Value)(sn:Nat):Prop:=∃(inside:List UInt8) (qs:List (ByteArray×ByteArray)),line l=some (bl nm,inside,sn)/\ZbV inside=some (qs.map blP)/\ZbT w 0 lv qs.length qs/\bl tx=ZU qs/\w.ownsRow 0 358 2 sv sn (Zb8 (ZcU l))
theorem ZcD.below{w w':World}{l:List UInt8}{nm:ByteArray}{lv:Value}{tx:ByteArray}{sv:Value}{sn:Nat}(h:ZcD w l nm lv tx sv sn)(hb:Below w.heap.size w w'):ZcD w' l nm lv tx sv sn:=by
 obtain⟨i,qs,h1,h2,h3,h4,h5⟩:=h;exact⟨i,qs,h1,h2,h3.below hb,h4,Zw h5 hb⟩
theorem ZcD.other{w w':World}{l:List UInt8}{nm:ByteArray}{lv:Value}{tx:ByteArray}{sv:Value}{sn:Nat}(h:ZcD w l nm lv tx sv sn){a:Nat}{c:Array Value}{fr:Nat×Nat}(hq:w.heap[a]?=some (.cells c 271 fr))(hg:∀j,j≠a->w'.heap[j]?=w.heap[j]?):ZcD w' l nm lv tx sv sn:=by
 obtain⟨i,qs,h1,h2,h3,h4,h5⟩:=h
 exact⟨i,qs,h1,h2,⟨Zg8 h3.1 (fun j hj=>hg j (fun e=>Zdl h3.1 hq (by decide) (by rw[hj,e]))),h3.2⟩,h4,Zg8 h5 (fun j hj=>hg j (fun e=>Zdl h5 hq (by decide) (by rw[hj,e])))⟩
def Zfu(w:World)(l:List UInt8)(nm:ByteArray)(lv:Value)(tx:ByteArray)(sv:Value)(sn:Nat)(ok:Bool):Prop:=(ok=true/\ZcD w l nm lv tx sv sn)∨(ok=false/\line l=none)
theorem Zto{w w':World}{m:Int}{B:Nat}(hm:w.cell? ⟨14,0,none⟩=some (.int .i64 m))(hb:Below B w w')(hB:14<B):w'.cell? ⟨14,0,none⟩=some (.int .i64 m):=
 (hb.cell (p:=⟨_,0,none⟩) hB).trans hm
theorem ZwW(s:ByteArray)(m:Int)(w:World)(hs:s.size<=6000)(hm:w.cell? ⟨14,0,none⟩=some (.int .i64 m)) :
  Calls Tryz.prog 148 #[.string s] w fun e w' => ∃ (nm : ByteArray) (a : Option Addr) (n cap : Nat) (tx : ByteArray) (sa : Option Addr) (sn sc : Nat) (ok : Bool), e = .returned (.tuple #[.agg #[.string nm, .slice a n cap, .string tx, .slice sa sn sc], .bool ok]) /\
    Hid (Zfu w' (bl s) nm (.slice a n cap) tx (.slice sa sn sc) sn ok)/\Below w.heap.size w w':=by
 have hgl:=World.block_lt_of_cell? _ _ hm
 have hm1 : ∀ o, (w.alloc o).cell? ⟨14, 0, none⟩ = some (.int .i64 m) := fun o => by
   rw[World.cell?_alloc_lt _ _ _ hgl];exact hm
 have hm2:∀o (j:Nat),((w.alloc o).drewN j).cell? ⟨14,0,none⟩=some (.int .i64 m):=fun o j=>hm1 o
 cases hc:cut 123 (bl s)with
 | none=>
  have HS:Hid (∀W nm lv tx sv,Zfu W (bl s) nm lv tx sv 0 false):=hid (fun _ _ _ _ _=>Or.inr ⟨rfl,Zij hc⟩)
  have HC:Hid (cut 123 (bl s)=none):=hc
  clear hc
  go_enter Tryz.func148,Tryz.ntmps148
  go_wp2_with fail
  refine(ZfB m _ hs (hm1 _) HC.out).mono ?_
  rintro e w' ⟨a,b,rfl,hab,j,rfl⟩
  have hsb:b.size<=6000:=by rw[Z7 hab.2];simp
  go_wp2_with fail
  refine(ZfB m _ hsb (hm2 _ _) (by rw[hab.2];rfl)).mono ?_
  rintro e w' ⟨a2,b2,rfl,hab2,j2,rfl⟩
  go_wp2
  exact bodyPost_ret (v:=.tuple #[.agg #[.string ⟨#[]⟩,.slice none 0 0,.string ⟨#[]⟩,.slice none 0 0],.bool false]) (by simp[results,Tryz.results148,go_sem]) rfl ⟨⟨#[]⟩,none,0,0,⟨#[]⟩,none,0,0,false,rfl,hid (HS.out _ _ _ _ _),belB⟩
 | some p=>
  obtain⟨x,r⟩:=p
  have hxl:x.length<=s.size/\r.length<=s.size:=by rw[<-Zi,(Zdh hc).1];simp;omega
  have HC:Hid (cut 123 (bl s)=some (x,r)):=hc
  clear hc
  cases hc2:cut 125 r with
  | none=>
   have HS:Hid (∀W nm lv tx sv,Zfu W (bl s) nm lv tx sv 0 false):=hid (fun _ _ _ _ _=>Or.inr ⟨rfl,Zii HC.out hc2⟩)
   have HC2:Hid (cut 125 r=none):=hc2
   clear hc2
   go_enter Tryz.func148,Tryz.ntmps148
   go_wp2_with fail
   refine(Zd6 m _ hs (hm1 _) HC.out).mono ?_
   rintro e w' ⟨a,b,rfl,hab,j,rfl⟩
   have hsb:b.size<=6000:=by rw[Z7 hab.2];omega
   go_wp2_with fail
   refine(ZfB m _ hsb (hm2 _ _) (by rw[hab.2];exact HC2.out)).mono ?_
   rintro e w' ⟨a2,b2,rfl,hab2,j2,rfl⟩
   go_wp2
   exact bodyPost_ret (v:=.tuple #[.agg #[.string ⟨#[]⟩,.slice none 0 0,.string ⟨#[]⟩,.slice none 0 0],.bool false]) (by simp[results,Tryz.results148,go_sem]) rfl ⟨⟨#[]⟩,none,0,0,⟨#[]⟩,none,0,0,false,rfl,hid (HS.out _ _ _ _ _),belB⟩
  | some q=>
   obtain⟨y,z⟩:=q
   have hyl:y.length<=r.length/\z.length<=r.length:=by rw[(Zdh hc2).1];simp;omega
   have HC2:Hid (cut 125 r=some (y,z)):=hc2
   have hline:=Zik HC.out hc2
   clear hc2
   cases hn:ZA x
   ·have HS:Hid (∀W nm lv tx sv,Zfu W (bl s) nm lv tx sv 0 false):=hid (fun _ _ _ _ _=>Or.inr ⟨rfl,by rw[hline,hn];rfl⟩)
    have HN:Hid (ZA x=false):=hn
    clear hn hline
    go_enter Tryz.func148,Tryz.ntmps148
    go_wp2_with fail
    refine(Zd6 m _ hs (hm1 _) HC.out).mono ?_
    rintro e w' ⟨a,b,rfl,hab,j,rfl⟩
    have hsa:a.size<=6000:=by rw[Z7 hab.1];omega
    have hsb:b.size<=6000:=by rw[Z7 hab.2];omega
    go_wp2_with fail
    refine(Zd6 m _ hsb (hm2 _ _) (by rw[hab.2];exact HC2.out)).mono ?_
    rintro e w' ⟨a2,b2,rfl,hab2,j2,rfl⟩
    go_wp2_with fail
    refine(ZiZ (b:=false) _ hsa (by rw[hab.1];exact HN.out)).mono ?_
    rintro e w' ⟨rfl,rfl⟩
    go_wp2
    exact bodyPost_ret (v:=.tuple #[.agg #[.string ⟨#[]⟩,.slice none 0 0,.string ⟨#[]⟩,.slice none 0 0],.bool false]) (by simp[results,Tryz.results148,go_sem]) rfl ⟨⟨#[]⟩,none,0,0,⟨#[]⟩,none,0,0,false,rfl,hid (HS.out _ _ _ _ _),belB⟩
   ·have HN:Hid (ZA x=true):=hn
    rw[hn]at hline
    clear hn
    go_enter Tryz.func148,Tryz.ntmps148
    have Hline:Hid _:=hline
    clear hline
    go_wp2_with fail
    refine(Zd6 m _ hs (hm1 _) HC.out).mono ?_
    rintro e w' ⟨a,b,rfl,hab,j,rfl⟩
    have hsa:a.size<=6000:=by rw[Z7 hab.1];omega
    have hsb:b.size<=6000:=by rw[Z7 hab.2];omega
    go_wp2_with fail
    refine(Zd6 m _ hsb (hm2 _ _) (by rw[hab.2];exact HC2.out)).mono ?_
    rintro e w' ⟨a2,b2,rfl,hab2,j2,rfl⟩
    have hsa2:a2.size<=6000:=by rw[Z7 hab2.1];omega
    have hsb2:b2.size<=6000:=by rw[Z7 hab2.2];omega
    go_wp2_with fail
    refine(ZiZ (b:=true) _ hsa (by rw[hab.1];exact HN.out)).mono ?_
    rintro e w' ⟨rfl,rfl⟩
    cases hlb:(ZbV y).isSome
    ·have HS:Hid (∀W nm lv tx sv,Zfu W (bl s) nm lv tx sv 0 false):=hid (fun _ _ _ _ _=>Or.inr ⟨rfl,by rw[Hline.out,hlb];rfl⟩)
     have HL:Hid ((ZbV y).isSome=false):=hlb
     clear hlb
     go_wp2_with fail
     refine(ZwN m _ hsa2 (hm2 _ _) (by rw[hab2.1];exact HL.out)).mono ?_
     rintro e w3 ⟨la,ln,lc,rfl,hb3⟩
     have hb3':Below (w.heap.size+1) (w.alloc (.cells #[.string ⟨#[]⟩,.slice none 0 0,.string ⟨#[]⟩,.slice none 0 0] 271)) w3:=(Zjr hb3).mono (B':=w.heap.size+1) (by simp)
     have hB3:Below w.heap.size w w3:=((Below.refl w.heap.size w).alloc (Nat.le_refl _) _).trans (hb3'.mono (by omega))
     obtain⟨k0,k1,k2,k3,g0,g1,g2,g3⟩:=box4 hb3'
     clear hb3 hb3'
     go_wp2
     exact bodyPost_ret (v:=.tuple #[.agg #[.string ⟨#[]⟩,.slice none 0 0,.string ⟨#[]⟩,.slice none 0 0],.bool false]) (by simp[results,Tryz.results148,go_sem,k0,k1,k2,k3]) rfl ⟨⟨#[]⟩,none,0,0,⟨#[]⟩,none,0,0,false,rfl,hid (HS.out _ _ _ _ _),belB⟩
    ·have HL:Hid ((ZbV y).isSome=true):=hlb
     rw[hlb]at Hline
     clear hlb
     go_wp2_with fail
     refine(ZwO m _ hsa2 (hm2 _ _) (by rw[hab2.1];exact HL.out)).mono ?_
     rintro e w3 ⟨la,ln,lc,qs,rfl,HQ,hb3⟩
     have hz3:w.heap.size+1<=w3.heap.size:=by have:=hb3.size;simp at this;omega
     have hm3:w3.cell? ⟨14,0,none⟩=some (.int .i64 m):=Zto (hm2 _ _) hb3 (by simp;omega)
     have hb3':Below (w.heap.size+1) (w.alloc (.cells #[.string ⟨#[]⟩,.slice none 0 0,.string ⟨#[]⟩,.slice none 0 0] 271)) w3:=(Zjr hb3).mono (B':=w.heap.size+1) (by simp)
     have hB3:Below w.heap.size w w3:=((Below.refl w.heap.size w).alloc (Nat.le_refl _) _).trans (hb3'.mono (by omega))
     clear hb3
     cases hsm:Zca z with
     | none=>
      have HS:Hid (∀W nm lv tx sv,Zfu W (bl s) nm lv tx sv 0 false):=hid (fun _ _ _ _ _=>Or.inr ⟨rfl,by rw[Hline.out,hsm];rfl⟩)
      have HM:Hid (Zca z=none):=hsm
      clear hsm
      go_wp2_with fail
      refine(ZwU m _ hsb2 hm3 (by rw[hab2.2];exact HM.out)).mono ?_
      rintro e w4 ⟨sv,rfl,hb4⟩
      obtain⟨k0,k1,k2,k3,g0,g1,g2,g3⟩:=box4 (hb3'.trans (hb4.mono hz3))
      have hB4:Below w.heap.size w w4:=hB3.trans (hb4.mono (by omega))
      clear hb3' hb4 hB3
      go_wp2
      exact bodyPost_ret (v:=.tuple #[.agg #[.string ⟨#[]⟩,.slice none 0 0,.string ⟨#[]⟩,.slice none 0 0],.bool false]) (by simp[results,Tryz.results148,go_sem,k0,k1,k2,k3]) rfl ⟨⟨#[]⟩,none,0,0,⟨#[]⟩,none,0,0,false,rfl,hid (HS.out _ _ _ _ _),belB⟩
     | some n=>
      have HS:Hid (line (bl s)=some (x,y,n)):=hid (by rw[Hline.out,hsm];rfl)
      have HSA:Hid (ZcU (bl s)=ZdS z):=hid (Zpm HN.out HC.out HC2.out)
      have HM:Hid (Zca z=some n):=hsm
      clear hsm
      go_wp2_with fail
      refine(ZwV m _ hsb2 hm3 (by rw[hab2.2];exact HM.out)).mono ?_
      rintro e w4 ⟨sa,sc,rfl,HSR,hb4⟩
      have HR4:Hid (ZbT w4 0 (.slice la ln lc) ln qs):=ZbT.below HQ.1 hb4
      have hb44:=hb3'.trans (hb4.mono hz3)
      have hz4:w.heap.size+1<=w4.heap.size:=Nat.le_trans hz3 hb4.size
      have hB4:Below w.heap.size w w4:=hB3.trans (hb4.mono (by omega))
      clear hb3' hb4 hB3
      go_wp2_with fail
      refine(ZoM _ _ _ w4 qs HR4.out).mono ?_
      rintro e w5 ⟨oa,oc,rfl,hr5,hb5⟩
      have hqn:qs.length=ln:=by have:=HR4.1.1;rw[ZhK]at this;omega
      have HSV:Hid (ZcD w5 (bl s) a (.slice oa ln oc) ⟨(ZU qs).toArray⟩ (.slice sa n sc) n):=hid ⟨y,qs,by rw[HS.out,hab.1],by rw[<-hab2.1];exact HQ.2,by rw[hqn];exact hr5,Zbv _,by rw[HSA.out,<-hab2.2];exact Zw (Zk0 HSR.out) hb5⟩
      clear hqn
      obtain⟨k0,k1,k2,k3,g0,g1,g2,g3⟩:=box4 (hb44.trans (hb5.mono hz4))
      have HBX:Hid (w5.heap[w.heap.size]?=some (.cells #[.string ⟨#[]⟩,.slice none 0 0,.string ⟨#[]⟩,.slice none 0 0] 271 (0,0))):=hid (((hb44.trans (hb5.mono hz4)).block _ (by omega)).trans (Go.Deep.blk_alloc_new _ _))
      have hB5:Below w.heap.size w w5:=hB4.trans (hb5.mono (by omega))
      clear hb44 hb5 hr5 hB4
      go_wp2
      exact bodyPost_ret (v:=.tuple #[.agg #[.string a,.slice oa ln oc,.string ⟨(ZU qs).toArray⟩,.slice sa n sc],.bool true]) (by simp[results,Tryz.results148,go_sem,k0,k1,k2,k3]) rfl ⟨a,oa,ln,oc,_,sa,n,sc,true,rfl,hid (Or.inl ⟨rfl,HSV.other HBX.out (fun j hj=>by first|rfl|(repeat rw[Go.Deep.blk_setCell_other _ _ _ _ (by exact hj)]))⟩),belB⟩
theorem Zl2(i:Int)(what:Value)(w:World) :
  Calls Tryz.prog 149 #[.int .i64 i,.iface 432 what] w fun e w'=>e=.returned (.iface 81 (.pointer (some ⟨w.heap.size,0,none⟩)))/\w'=w.alloc (.cells #[.string ⟨#[108,105,110,101]⟩,.int .i64 i,.iface 432 what] 85):=by
 go_enter Tryz.func149,Tryz.ntmps149
 go_wp2
 go_ret
 exact⟨rfl,rfl⟩
theorem Tryz.infoSeries:(Tryz.prog.info? 271).map (fun i=>(i.zero,i.size,i.bytes))=some (some (.agg #[.string ByteArray.empty,.slice none 0 0,.string ByteArray.empty,.slice none 0 0]),4,80):=by kernel_rfl
theorem Zrz{W:World}{a:Nat}{u v x z:Value}(h0:W.cell? ⟨a,0,none⟩=some u)(h1:W.cell? ⟨a,1,none⟩=some v)(h2:W.cell? ⟨a,2,none⟩=some x)(h3:W.cell? ⟨a,3,none⟩=some z):∀j y,[u,v,x,z][j]?=some y->W.cell? ((⟨a,0,none⟩:Addr).add j)=some y:=by
 intro j y hj
 rw[Zfd]
 match j,hj with
 | 0,hj=>simp at hj;subst hj;exact h0
 | 1,hj=>simp at hj;subst hj;exact h1
 | 2,hj=>simp at hj;subst hj;exact h2
 | 3,hj=>simp at hj;subst hj;exact h3
def ZbK:List (Value×Value×Value×Value)->List Value
 | []=>[]
 | r::rs=>r.1::r.2.1::r.2.2.1::r.2.2.2::ZbK rs
theorem ZsK(a b:List (Value×Value×Value×Value)):ZbK (a++b)=ZbK a++ZbK b:=by
 induction a with
 | nil=>rfl
 | cons r a ih=>simp[ZbK,ih]
theorem ZsL(rs:List (Value×Value×Value×Value))(j:Nat):(ZbK rs)[j*4]?=rs[j]?.map (·.1)/\(ZbK rs)[j*4+1]?=rs[j]?.map (·.2.1)/\(ZbK rs)[j*4+2]?=rs[j]?.map (·.2.2.1)/\(ZbK rs)[j*4+3]?=rs[j]?.map (·.2.2.2):=by
 induction rs generalizing j with
 | nil=>simp[ZbK]
 | cons r rs ih=>
  cases j with
  | zero=>simp[ZbK]
  | succ j=>
   obtain⟨h1,h2,h3,h4⟩:=ih j
   refine⟨?_,?_,?_,?_⟩
   ·rw[show(j+1)*4=j*4+1+1+1+1 by omega];simpa [ZbK] using h1
   ·rw[show(j+1)*4+1=j*4+1+1+1+1+1 by omega];simpa [ZbK] using h2
   ·rw[show(j+1)*4+2=j*4+2+1+1+1+1 by omega];simpa [ZbK] using h3
   ·rw[show(j+1)*4+3=j*4+3+1+1+1+1 by omega];simpa [ZbK] using h4
def ZdZ(rs:List (Value×Value×Value×Value))(es:List Entry):Prop:=rs.length=es.length/\∀j (h:j<es.length),∃nm a n c tx sa sc,rs[j]?=some (.string nm,.slice a n c,.string tx,.slice sa (es[j]).count sc)
theorem ZdZ.snoc{rs:List (Value×Value×Value×Value)}{es:List Entry}(h:ZdZ rs es)(x:Entry)(nm:ByteArray)(a:Option Addr)(n c:Nat)(tx:ByteArray)(sa:Option Addr)(sc:Nat) :
  ZdZ (rs++[(.string nm,.slice a n c,.string tx,.slice sa x.count sc)]) (es++[x]):=by
 refine⟨by simp[h.1],fun j hj=>?_⟩
 by_cases hlt:j<es.length
 ·obtain⟨nm',a',n',c',tx',sa',sc',e⟩:=h.2 j hlt
  exact⟨nm',a',n',c',tx',sa',sc',by rw[List.getElem?_append_left (by rw[h.1];exact hlt),e,List.getElem_append_left hlt]⟩
 ·have hj':j=es.length:=by simp at hj;omega
  subst hj'
  refine⟨nm,a,n,c,tx,sa,sc,?_⟩
  rw[List.getElem?_append_right (by rw[h.1];exact Nat.le_refl _),h.1];simp
theorem ZcD.grown{w w':World}{l:List UInt8}{nm:ByteArray}{lv:Value}{tx:ByteArray}{sv:Value}{sn:Nat}(h:ZcD w l nm lv tx sv sn){b:Nat}{e:TypeId}{s:Nat}{v:Value}{n:Nat}{xs:List Value}(hg:w.grownBy w' v.ownBlock)(hv:w.ownsRow b e s v n xs)(h1:378≠e)(h2:358≠e):ZcD w' l nm lv tx sv sn:=by
 obtain⟨i,qs,e1,e2,e3,e4,e5⟩:=h
 exact⟨i,qs,e1,e2,⟨e3.1.kept hg (ZoQ e3.1 hv h1),e3.2⟩,e4,e5.kept hg (ZoQ e5 hv h2)⟩
def AllV(w:World)(rs:List (Value×Value×Value×Value))(es:List Entry)(ps:List (List UInt8)):Prop:=∀j (h:j<es.length),∃(nm:ByteArray) (a:Option Addr) (n c:Nat) (tx:ByteArray) (sa:Option Addr) (sc:Nat),rs[j]?=some (.string nm,.slice a n c,.string tx,.slice sa (es[j]).count sc)/\ZcD w (ps.getD (es[j]).at_ []) nm (.slice a n c) tx (.slice sa (es[j]).count sc) (es[j]).count/\line (ps.getD (es[j]).at_ [])=some ((es[j]).name,(es[j]).inside,(es[j]).count)
theorem AllV.below {w w' : World} {rs : List (Value × Value × Value × Value)} {es : List Entry} {ps : List (List UInt8)} (h : AllV w rs es ps) (hb : Below w.heap.size w w') : AllV w' rs es ps := fun j hj => by
  obtain⟨nm,a,n,c,tx,sa,sc,e1,e2,e3⟩:=h j hj;exact⟨nm,a,n,c,tx,sa,sc,e1,e2.below hb,e3⟩
theorem AllV.grown {w w' : World} {rs : List (Value × Value × Value × Value)} {es : List Entry} {ps : List (List UInt8)} (h : AllV w rs es ps) {b : Nat} {e : TypeId} {s : Nat} {v : Value} {n : Nat} {xs : List Value} (hg : w.grownBy w' v.ownBlock) (hv : w.ownsRow b e s v n xs) (h1 : 378 ≠ e) (h2 : 358 ≠ e) : AllV w' rs es ps := fun j hj => by
  obtain⟨nm,a,n,c,tx,sa,sc,e1,e2,e3⟩:=h j hj;exact⟨nm,a,n,c,tx,sa,sc,e1,e2.grown hg hv h1 h2,e3⟩
theorem AllV.snoc{w:World}{rs:List (Value×Value×Value×Value)}{es:List Entry}{ps:List (List UInt8)}(hl:rs.length=es.length)(h:AllV w rs es ps)(z:Entry)(nm:ByteArray)(a:Option Addr)(n c:Nat)(tx:ByteArray)(sa:Option Addr)(sc:Nat)
  (h1:ZcD w (ps.getD z.at_ []) nm (.slice a n c) tx (.slice sa z.count sc) z.count) (h2:line (ps.getD z.at_ [])=some (z.name,z.inside,z.count)):AllV w (rs++[(.string nm,.slice a n c,.string tx,.slice sa z.count sc)]) (es++[z]) ps:=fun j hj=>by
 by_cases hlt:j<es.length
 ·obtain⟨nm',a',n',c',tx',sa',sc',e1,e2⟩:=h j hlt
  refine⟨nm',a',n',c',tx',sa',sc',?_⟩
  rw[List.getElem?_append_left (by rw[hl];exact hlt),List.getElem_append_left hlt]
  exact⟨e1,e2⟩
 ·have hj':j=es.length:=by simp at hj;omega
  subst hj'
  refine⟨nm,a,n,c,tx,sa,sc,?_⟩
  rw[List.getElem?_append_right (by rw[hl];exact Nat.le_refl _),hl]
  simp only[Nat.sub_self,List.getElem?_cons_zero,List.getElem_append_right (Nat.le_refl _),List.getElem_cons_zero]
  exact⟨trivial,h1,h2⟩
theorem ZwQ(g:Nat)(ps:List (List UInt8))(n:Nat)(A:Nat->Addr)(m:Int)(w:World)(hn:Hid (n=ps.length))(hn6:n<=6001)(hp6:Hid (∀i,i<ps.length->(ps.getD i []).length<=6000))(hrow:Zfa w g ps)(hv:Vars w A m) :
  Calls Tryz.prog 87 #[.slice (some ⟨g, 0, none⟩) n n] w fun e w' => Below w.heap.size w w' /\
    ((∃(i:Nat) (fa:Nat),e=.returned (.tuple #[.slice none 0 0,.iface 81 (.pointer (some ⟨fa,0,none⟩))])/\w'.heap[fa]?=some (.cells #[.string ⟨#[108,105,110,101]⟩,.int .i64 i,.iface 432 (.pointer (some (A 4)))] 85 (0,0))/\Hid (Z8 0 [] ps=.inl i))∨
     (∃(v:Value) (es:List Entry) (rs:List (Value×Value×Value×Value)),e=.returned (.tuple #[v,.nilIface])/\w'.ownsRow 0 271 4 v es.length (ZbK rs)/\Hid (ZdZ rs es/\Z8 0 [] ps=.inr es)/\Hid (AllV w' rs es ps))):=by
 obtain⟨i0,hi,hz0,hz1,hz2⟩:=info_parts Tryz.infoSeries
 have hgl:g<w.heap.size:=hrow.1
 go_enter Tryz.func87,Tryz.ntmps87
 go_wp2
 go_loopw [4, 11] (fun v i wr => ∃ (k : Nat) (es : List Entry) (rs : List (Value × Value × Value × Value)), k <= n /\ i = .int .i64 k /\ es.length <= k /\ wr.ownsRow w.heap.size 271 4 v es.length (ZbK rs) /\ Hid (ZdZ rs es /\ Z8 0 [] ps = Z8 k es (ps.drop k)) /\ Hid (AllV wr rs es ps) /\ Below w.heap.size w wr)
   (fun _ i _=>n - (intOf i).toNat)
 case atStart=>exact⟨0,[],[],Nat.zero_le _,rfl,Nat.zero_le _,World.ownsRow_nil _ _ _ _,⟨⟨rfl,fun j h=>by simp at h⟩,rfl⟩,hid (fun j h=>by simp at h),Below.refl _ _⟩
 case round=>
  obtain⟨k,es,rs,hk,rfl,hek,hown,HA,HAV,hbr⟩:=hrel
  have hwr:w.heap.size<=wr.heap.size:=hbr.size
  have hvr:=hv.below hbr
  by_cases hlt:k<n
  ·have hkl:k<ps.length:=by rw[<-hn.out];exact hlt
   obtain⟨sk,hck,hsk⟩:=(hrow.below hbr hgl).2 k hkl
   have hsk6:sk.size<=6000:=by rw[Z7 hsk];exact hp6.out k hkl
   have HK:Hid (bl sk=ps.getD k []):=hsk
   clear hsk
   cases he:sk.toList.isEmpty
   ·have HNE:Hid (ps.getD k []≠[]):=by rw[<-HK.out];exact Zin he
    have hmr:=hvr.max
    have hst:=hvr.sent 4 (by decide)
    go_wp2_with fail
    refine(ZwW sk m _ hsk6 hmr).mono ?_
    rintro e w2 ⟨nm,la,ln,lc,tx,sa,sn,sc,ok,rfl,hser,hb2⟩
    have hst2:w2.cell? ⟨4,0,none⟩=some (.iface 432 (.pointer (some (A 4)))):=(hvr.below hb2).sent _ (by decide)
    have hst3:∀o,(w2.alloc o).cell? ⟨4,0,none⟩=some (.iface 432 (.pointer (some (A 4)))):=fun o=>((hvr.below hb2).alloc o).sent _ (by decide)
    have hbw:Below w.heap.size w w2:=hbr.trans (hb2.mono hwr)
    have hw2:w.heap.size<=w2.heap.size:=hbw.size
    have hown2:=Zw hown hb2
    clear hst hmr hvr
    cases ok
    ·have HF:Hid (Z8 0 [] ps=.inl k):=hid (by
      rw[HA.2];refine ZuI hkl HNE.out ?_
      rw[<-HK.out]
      rcases hser.out with ⟨h,_⟩|⟨_,h⟩
      ·cases h
      ·exact h)
     go_wp2_with (go_at_call 149;refine(Zl2 _ _ _).mono ?_;rintro e w' ⟨rfl,rfl⟩)
     go_ret2
     refine⟨belB,Or.inl ⟨k,w2.heap.size+1,rfl,?_,HF⟩⟩
     rw[show w2.heap.size+1=(w2.alloc (.cells #[.string nm,.slice la ln lc,.string tx,.slice sa sn sc] 271)).heap.size by simp]
     exact Array.getElem?_push_size
    ·have HSV:Hid (ZcD w2 (bl sk) nm (.slice la ln lc) tx (.slice sa sn sc) sn):=hid (by
      rcases hser.out with ⟨_,h⟩|⟨h,_⟩
      ·exact h
      ·cases h)
     obtain⟨na,ins,hli⟩:∃name inside,line (bl sk)=some (name,inside,sn):=by
      obtain⟨ins,qs,h,_⟩:=HSV.out;exact⟨_,ins,h⟩
     have HAV2:Hid (AllV w2 (rs++[(.string nm,.slice la ln lc,.string tx,.slice sa sn sc)]) (es++[⟨k,na,ins,sn⟩]) ps):=hid (AllV.snoc HA.1.1 (HAV.below hb2) ⟨k,na,ins,sn⟩ nm la ln lc tx sa sc (by show ZcD w2 (ps.getD k []) nm (.slice la ln lc) tx (.slice sa sn sc) sn;rw[<-HK.out];exact HSV.out) (by show line (ps.getD k [])=some (na,ins,sn);rw[<-HK.out];exact hli))
     have HF:Hid (ZdZ (rs++[(.string nm,.slice la ln lc,.string tx,.slice sa sn sc)]) (es++[⟨k,na,ins,sn⟩])/\Z8 0 [] ps=Z8 (k+1) (es++[⟨k,na,ins,sn⟩]) (ps.drop (k+1))):=
      ⟨HA.1.snoc ⟨k,na,ins,sn⟩ nm la ln lc tx sa sc,by rw[HA.2];exact ZuJ hkl HNE.out (by rw[<-HK.out];exact hli)⟩
     clear hli hser
     go_wp2_with (at_builtin;refine wpList_append_own _ rfl (.tmp 28) (.tmp 30) 98 rfl w.heap.size 271 i0 (.agg #[.string ByteArray.empty,.slice none 0 0,.string ByteArray.empty,.slice none 0 0]) 4 80 Tryz.underlying98 hi hz0 hz1 hz2 rfl (by decide) _ _ _ rfl ((hown2.alloc _).alloc _) ⟨w2.heap.size+1,0,none⟩ 1 1 [.string nm,.slice la ln lc,.string tx,.slice sa sn sc] rfl rfl ?c1 ?c2 ?c3 ?c4 ?c5 ?_)
     case c1=>exact Zrz (by simp) (by simp) (by simp) (by simp)
     case c2=>intro u hu;simp at hu;rcases hu with rfl|rfl|rfl|rfl <;> rfl
     case c3=>unfold maxLen;omega
     case c4=>omega
     case c5=>simp;omega
     intro v' w3 hown3 hgrow _
     have hb3:Below w.heap.size w w3:=((hbw.alloc (by omega) _).alloc (by simp;omega) _).grown hgrow (by simp;omega) (fun q hq=>(hown2.lt q hq).1)
     have hown4:w3.ownsRow w.heap.size 271 4 v' (es++[(⟨k,na,ins,sn⟩:Entry)]).length (ZbK (rs++[(.string nm,.slice la ln lc,.string tx,.slice sa sn sc)])):=by
      rw[ZsK,List.length_append];exact hown3
     have hb23:∀o o':Obj,Below w2.heap.size w2 ((w2.alloc o).alloc o'):=fun o o'=>Zbal.alloc (by simp) _
     have HAV3:Hid (AllV w3 (rs++[(.string nm,.slice la ln lc,.string tx,.slice sa sn sc)]) (es++[⟨k,na,ins,sn⟩]) ps):=hid ((HAV2.below (hb23 _ _)).grown hgrow ((hown2.alloc _).alloc _) (by decide) (by decide))
     clear hown2 hown hgrow hown3 hb23
     go_wp2
     go_roundw
     case rel=>exact⟨k+1,_,_,by omega,by go_num,by simp;omega,hown4,HF,HAV3,hb3⟩
     case measure=>simp[intOf];omega
   ·have HF:Hid (ZdZ rs es/\Z8 0 [] ps=Z8 (k+1) es (ps.drop (k+1))):=
     ⟨HA.1,by rw[HA.2];exact ZuK hkl (by rw[<-HK.out];exact Zg5 he)⟩
    go_wp2
    go_roundw
    case rel=>exact⟨k+1,es,rs,by omega,by go_num,by omega,hown,HF,HAV,hbr⟩
    case measure=>simp[intOf];omega
  ·have HF:Hid (ZdZ rs es/\Z8 0 [] ps=.inr es):=⟨HA.1,by rw[HA.2];exact ZuL (by rw[<-hn.out];exact hlt)⟩
   go_wp2
   go_ret2
   exact⟨hbr,Or.inr ⟨_,es,rs,rfl,hown.mono (Nat.zero_le _),HF,HAV⟩⟩
def Zck(es:List Entry)(k:Nat):Nat:=((es.take k).map (·.count)).sum
theorem ZpO(es:List Entry)(k:Nat)(h:k<es.length):Zck es (k+1)=Zck es k+(es[k]).count:=by
 unfold Zck;rw[List.take_succ_eq_append_getElem h,List.map_append,List.sum_append];rfl
theorem ZpN(es:List Entry)(h:∀e∈es,e.count<=6001)(k:Nat):Zck es k<=6001*k:=by
 induction k with
 | zero=>simp[Zck]
 | succ k ih=>
  by_cases hk:k<es.length
  ·rw[ZpO es k hk];have:=h _ (List.getElem_mem hk);omega
  ·have:Zck es (k+1)=Zck es k:=by unfold Zck;rw[List.take_of_length_le (by omega),List.take_of_length_le (by omega)]
   omega
theorem Zsa(v:Value)(es:List Entry)(rs:List (Value×Value×Value×Value))(w:World)(hown:w.ownsRow 0 271 4 v es.length (ZbK rs))(hR:Hid (ZdZ rs es))(hc:Hid (∀e∈es,e.count<=6001))(hl:es.length<=6001) :
  Calls Tryz.prog 89 #[v] w fun e w'=>e=.returned (.int .i64 (Zck es es.length))/\Below w.heap.size w w':=by
 obtain⟨av,cp,rfl⟩:=Zv hown
 go_enter Tryz.func89,Tryz.ntmps89
 go_wp2
 go_loopw [3,8] (fun c i wr=>∃k:Nat,k<=es.length/\i=.int .i64 k/\c=.int .i64 (Zck es k)/\Below w.heap.size w wr) (fun _ i _=>es.length - (intOf i).toNat)
 case atStart=>exact⟨0,Nat.zero_le _,rfl,by simp[Zck],Below.refl _ _⟩
 case round=>
  obtain⟨k,hk,rfl,rfl,hbr⟩:=hrel
  have hwr:w.heap.size<=wr.heap.size:=hbr.size
  have hs1:=ZpN es hc.out k
  by_cases hlt:k<es.length
  ·have HS:Hid (Zck es (k+1)=Zck es k+(es[k]).count):=ZpO es k hlt
   have hcb:=hc.out _ (List.getElem_mem hlt)
   obtain⟨nm,a,n,c,tx,sa,sc,hr⟩:=hR.2 k hlt
   obtain⟨f1,f2,f3,f4⟩:=ZsL rs k
   rw[hr]at f1 f2 f3 f4
   have hg:∃g,av=some ⟨g,0,none⟩:=by
    obtain⟨g,cp',h⟩:=ZW hown (by omega)
    injection h with h1;exact⟨g,h1⟩
   obtain⟨g,rfl⟩:=hg
   have hgl:=Zbq hown
   have c1:wr.cell? ⟨g,k*4,none⟩=some (.string nm):=(hbr.cell (p:=⟨g,k*4,none⟩) hgl).trans (Zr hown _ _ f1)
   have c2:wr.cell? ⟨g,k*4+1,none⟩=some (.slice a n c):=(hbr.cell (p:=⟨g,k*4+1,none⟩) hgl).trans (Zr hown _ _ f2)
   have c3:wr.cell? ⟨g,k*4+2,none⟩=some (.string tx):=(hbr.cell (p:=⟨g,k*4+2,none⟩) hgl).trans (Zr hown _ _ f3)
   have c4:wr.cell? ⟨g,k*4+3,none⟩=some (.slice sa (es[k]).count sc):=(hbr.cell (p:=⟨g,k*4+3,none⟩) hgl).trans (Zr hown _ _ f4)
   generalize(es[k]).count=cnt at *
   clear hr f1 f2 f3 f4
   go_wp2
   go_roundw
   case rel=>exact⟨k+1,by omega,by go_num,by rw[HS.out];go_num,belB⟩
   case measure=>simp[intOf];omega
  ·obtain rfl:k=es.length:=by omega
   go_wp2
   go_ret
   exact⟨rfl,hbr⟩
def Ze8(ps:List (List UInt8×List UInt8)):Nat->List UInt8
 | 0=>[]
 | k+1=>(if 0<k then Ze8 ps k++[44] else Ze8 ps k)++(ps.getD k ([],[])).1++[61]++(ps.getD k ([],[])).2
theorem Zod(l:List UInt8)(hl:l.length<=300):∀(n i:Nat),tw (ZH l n i)<=332*(ZH l n i).length
 | 0,_=>Nat.le_refl _
 | n + 1, i => by
   have h1:=Zup l i
   have h2:=Zod l hl n (Zo l i).2
   unfold ZH
   split
   · simp[tw];omega
   · simp[tw];omega
theorem ZeN{a b:ByteArray}(h:bl a=bl b):a=b:=by
 cases a with | mk x => cases b with | mk y =>
   have:x=y:=by
     have h1:x.toList=y.toList:=h
     exact Array.toList_inj.mp h1
   rw[this]
theorem Zqx(l:List Lab):∀k,k<=l.length->Ze8 l k=wrt (l.take k)
 | 0,_=>rfl
 | k + 1, h => by
   have hk:k<l.length:=h
   rw[Ze8,Zqx l k (by omega)]
   unfold wrt
   rw[List.take_succ_eq_append_getElem hk,List.map_append,List.map_singleton,Zmv]
   have hg:l.getD k ([],[])=l[k]:=by rw[List.getD_eq_getElem?_getD,List.getElem?_eq_getElem hk];rfl
   rw[hg]
   by_cases h0:0<k
   · rw[if_pos h0,if_neg]
     · simp[lab1]
     · rw[List.isEmpty_iff]
       intro e
       have:=congrArg List.length e
       rw[List.length_map,List.length_take,List.length_nil]at this
       omega
   · obtain rfl:k=0:=by omega
     simp[lab1,commas]
theorem ZmI(n:Nat):(decS n).length<=n+1:=by
 induction n using Nat.strongRecOn with
 | ind n ih=>
  by_cases h:n<=9
  ·rw[ZgP h];simp
  ·rw[ZhG h,List.length_append]
   have:=ih (n / 10) (by omega)
   simp only[List.length_cons,List.length_nil]
   omega
theorem ZjM(n:Int)(h:vOk n):(decI n).length<=1000000002:=by
 unfold vOk at h
 unfold decI
 split
 ·have:=ZmI n.natAbs
  rw[List.length_append,List.length_singleton];omega
 ·have:=ZmI n.toNat
  omega
end Go.Proofs.YtcdgkkfipdoeeaaGreatDoor

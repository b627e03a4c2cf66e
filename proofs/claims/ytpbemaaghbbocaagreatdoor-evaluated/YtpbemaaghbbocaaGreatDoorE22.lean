/- Parts. -/
import Derived.Test.YtpbemaaghbbocaaGreatDoorE21
import Derived.Test.YtpbemaaghbbocaaGreatDoorE01
import Derived.BigRegion
import Derived.Deep.Onto
import Derived.Test.YtpbemaaghbbocaaGreatDoorE16
import Derived.Test.YtpbemaaghbbocaaGreatDoorE18
import Derived.Test.YtpbemaaghbbocaaGreatDoorE02
import Derived.Deep.LoopGhost
import Derived.Deep.QuietTactic
import Derived.BigQuiet
namespace Go.Proofs.YtpbemaaghbbocaaGreatDoor
open Go.RowKit LS
def Z7(es:List Entry)(k:Nat):Nat:=((es.take k).map (·.count)).sum
theorem ZkL(es:List Entry)(k:Nat)(h:k<es.length):Z7 es (k+1)=Z7 es k+(es[k]).count:=by
 unfold Z7;rw[List.take_succ_eq_append_getElem h,List.map_append,List.sum_append];rfl
theorem ZkK(es:List Entry)(h:∀e∈es,e.count≤6001)(k:Nat):Z7 es k≤6001*k:=by
 induction k with
 | zero=>simp[Z7]
 | succ k ih=>
  by_cases hk:k<es.length
  ·rw[ZkL es k hk];have:=h _ (List.getElem_mem hk);omega
  ·have:Z7 es (k+1)=Z7 es k:=by unfold Z7;rw[List.take_of_length_le (by omega),List.take_of_length_le (by omega)]
   omega
set_option maxRecDepth 100000 in
set_option maxHeartbeats 1000000 in
theorem ZmK(v:Value)(es:List Entry)(rs:List (Value×Value×Value×Value))(w:World)(hown:w.ownsRow 0 199 4 v es.length (Zbw rs))(hR:Hid (Zdw rs es))(hc:Hid (∀e∈es,e.count≤6001))(hl:es.length≤6001) :
  Calls Tryz.prog 45 #[v] w fun e w'=>e=.returned (.int .i64 (Z7 es es.length))∧Below w.heap.size w w':=by
 obtain⟨av,cp,rfl⟩:=Zj hown
 go_enter Tryz.func45,Tryz.ntmps45
 go_wp2
 go_loopw [3,8] (fun c i wr=>∃k:Nat,k≤es.length∧i=.int .i64 k∧c=.int .i64 (Z7 es k)∧Below w.heap.size w wr) (fun _ i _=>es.length - (intOf i).toNat)
 case atStart=>exact⟨0,Nat.zero_le _,rfl,by simp[Z7],Below.refl _ _⟩
 case round=>
  obtain⟨k,hk,rfl,rfl,hbr⟩:=hrel
  have hwr:w.heap.size≤wr.heap.size:=hbr.size
  have hs1:=ZkK es hc.out k
  by_cases hlt:k<es.length
  ·have HS:Hid (Z7 es (k+1)=Z7 es k+(es[k]).count):=ZkL es k hlt
   have hcb:=hc.out _ (List.getElem_mem hlt)
   obtain⟨nm,a,n,c,tx,sa,sc,hr⟩:=hR.2 k hlt
   obtain⟨f1,f2,f3,f4⟩:=ZnZ rs k
   rw[hr]at f1 f2 f3 f4
   have hg:∃g,av=some ⟨g,0,none⟩:=by
    obtain⟨g,cp',h⟩:=Zy hown (by omega)
    injection h with h1;exact⟨g,h1⟩
   obtain⟨g,rfl⟩:=hg
   have hgl:=ZbJ hown
   have c1:wr.cell? ⟨g,k*4,none⟩=some (.string nm):=(hbr.cell (p:=⟨g,k*4,none⟩) hgl).trans (Zn hown _ _ f1)
   have c2:wr.cell? ⟨g,k*4+1,none⟩=some (.slice a n c):=(hbr.cell (p:=⟨g,k*4+1,none⟩) hgl).trans (Zn hown _ _ f2)
   have c3:wr.cell? ⟨g,k*4+2,none⟩=some (.string tx):=(hbr.cell (p:=⟨g,k*4+2,none⟩) hgl).trans (Zn hown _ _ f3)
   have c4:wr.cell? ⟨g,k*4+3,none⟩=some (.slice sa (es[k]).count sc):=(hbr.cell (p:=⟨g,k*4+3,none⟩) hgl).trans (Zn hown _ _ f4)
   generalize(es[k]).count=cnt at *
   clear hr f1 f2 f3 f4
   go_wp2
   go_roundw
   case rel=>exact⟨k+1,by omega,by go_num,by rw[HS.out];go_num,(by repeat first|exact Below.refl _ _|assumption|refine Below.alloc ?_ ?_ _|refine Below.setCell ?_ ?_ _|refine Zk ?_ _|refine Below.drew ?_|omega|(simp;omega)|simp)⟩
   case measure=>simp[intOf];omega
  ·obtain rfl:k=es.length:=by omega
   go_wp2
   go_ret
   exact⟨rfl,hbr⟩
theorem Tryz.infoRLabel:(Tryz.prog.info? 216).map (fun i=>(i.zero,i.size,i.bytes))=some (some (.agg #[.string ByteArray.empty,.string ByteArray.empty]),2,32):=by kernel_rfl
def ZbD:List (ByteArray×ByteArray)→List Value
 | []=>[]
 | r::rs=>.string r.1::.string r.2::ZbD rs
theorem Zi3(a b:List (ByteArray×ByteArray)):ZbD (a++b)=ZbD a++ZbD b:=by
 induction a with
 | nil=>rfl
 | cons r a ih=>simp[ZbD,ih]
theorem Ze9 (rs : List (ByteArray × ByteArray)) (j : Nat) : (ZbD rs)[j * 2]? = rs[j]?.map (fun r => .string r.1) ∧ (ZbD rs)[j * 2 + 1]? = rs[j]?.map (fun r => .string r.2) := by
  induction rs generalizing j with
  | nil=>simp[ZbD]
  | cons r rs ih=>
    cases j with
    | zero=>simp[ZbD]
    | succ j=>
      obtain⟨h1,h2⟩:=ih j
      refine⟨?_,?_⟩
      · rw[show(j+1)*2=j*2+1+1 by omega];simpa [ZbD] using h1
      · rw[show(j+1)*2+1=j*2+1+1+1 by omega];simpa [ZbD] using h2
def bl2(r:ByteArray×ByteArray):List UInt8×List UInt8:=(bl r.1,bl r.2)
theorem Zhz{s:ByteArray}{b:Bool}(w:World)(hs:s.size≤6000)(h:Zx (bl s)=b) :
  Calls Tryz.prog 97 #[.string s] w fun e w'=>e=.returned (.bool b)∧w'=w:=by
 have:=Zre s w hs;rwa [h]at this
set_option maxRecDepth 100000 in
set_option maxHeartbeats 4000000 in
theorem Zrh(s:ByteArray)(w:World)(hs:s.size≤6000)(hne:s.toList.isEmpty=false) :
  Calls Tryz.prog 98 #[.string s] w fun e w' => ∃ (a : Option Addr) (n cap : Nat) (ok : Bool), e = .returned (.tuple #[.slice a n cap, .bool ok]) ∧
    ((ok=true∧∃qs,w'.ownsRow w.heap.size 216 2 (.slice a n cap) qs.length (ZbD qs)∧Hid (ZS [] [] (split 44 (bl s))=some (qs.map bl2)))∨(ok=false∧Hid (ZS [] [] (split 44 (bl s))=none)))∧Below w.heap.size w w':=by
 obtain⟨i0,hi,hz0,hz1,hz2⟩:=info_parts Tryz.infoRLabel
 go_enter Tryz.func98,Tryz.ntmps98
 go_wp2_with fail
 refine(Zfq s 44 _ _ rfl hs).mono ?_
 rintro e w1 ⟨g,n,cp,bs,rfl,hn,hg0,hgl,hcells,hsp,hb1⟩
 have HN:Hid (n=bs.length):=hn
 have hn6:n≤6001:=by
  have:=Zd0 44 (bl s);rw[←hsp.out,List.length_map,Zg]at this;omega
 clear hn
 go_wp2
 go_loopw [4, 6, 7] (fun v last i wr => ∃ (k : Nat) (ls : ByteArray) (qs : List (ByteArray × ByteArray)), k ≤ n ∧ i = .int .i64 k ∧ last = .string ls ∧ qs.length = k ∧ wr.ownsRow w1.heap.size 216 2 v qs.length (ZbD qs) ∧ Hid (ZS [] [] (split 44 (bl s)) = ZS (bl ls) (qs.map bl2) ((split 44 (bl s)).drop k)) ∧ Below w1.heap.size w1 wr)
   (fun _ _ i _=>n - (intOf i).toNat)
 case atStart=>exact⟨0,⟨#[]⟩,[],Nat.zero_le _,rfl,rfl,rfl,World.ownsRow_nil _ _ _ _,rfl,Below.refl _ _⟩
 case round=>
  obtain⟨k,ls,qs,hk,rfl,rfl,hqk,hown,HA,hbr⟩:=hrel
  have HQ:Hid (qs.length=k):=hqk
  have hq6:qs.length≤6001:=by omega
  clear hqk
  have hwr:w1.heap.size≤wr.heap.size:=hbr.size
  by_cases hlt:k<n
  ·have hkb:k<bs.length:=by rw[←HN.out];exact hlt
   have hkl:k<(split 44 (bl s)).length:=by rw[←hsp.out,List.length_map];exact hkb
   have hck:wr.cell? ⟨g,k,none⟩=some (.string bs[k]):=(hbr.cell (p:=⟨g,k,none⟩) hgl).trans (hcells.out k hkb)
   have HK:Hid (bl bs[k]=(split 44 (bl s)).getD k []):=ZeN hsp.out k hkb
   generalize bs[k]=sk at hck HK
   have hsk6:sk.size≤6000:=by rw[Z5 HK.out];have:=Zei 44 (bl s) k hkl;rw[Zg]at this;omega
   cases hc:LS.seek 61 (bl sk)with
   | none=>
    have HF:Hid (ZS [] [] (split 44 (bl s))=none):=hid (by rw[HA.out];exact Zf5 hkl HK.out (Zjy (ZfN hc)))
    have HC:Hid (LS.seek 61 (bl sk)=none):=hc
    clear hc
    go_wp2_with fail
    refine(Zeg (c:=61) _ _ rfl hsk6 HC.out).mono ?_
    rintro e w2 ⟨rfl,rfl⟩
    go_wp2
    go_ret2
    exact⟨none,0,0,false,rfl,Or.inr ⟨rfl,HF⟩,hb1.trans (hbr.mono hb1.size)⟩
   | some p=>
    have hp:p<sk.size:=by rw[←Zg];exact ZeU hc
    have hlab:=Zjx (last:=bl ls) (Ze7 hc)
    have HC:Hid (LS.seek 61 (bl sk)=some p):=hc
    clear hc
    have e1:bl (sk.extract 0 p)=(bl sk).take p:=by rw[ZbR];simp
    have e2:bl (sk.extract (p+1) sk.size)=(bl sk).drop (p+1):=by rw[ZbR,List.take_of_length_le (by rw[Zg];exact Nat.le_refl _)]
    rw[←e1,←e2]at hlab
    have hx6:(sk.extract 0 p).size≤6000:=by rw[←Zg,e1,List.length_take,Zg];omega
    have hy6:(sk.extract (p+1) sk.size).size≤6000:=by rw[←Zg,e2,List.length_drop,Zg];omega
    clear e1 e2
    have hp1:p≤sk.size:=Nat.le_of_lt hp
    have hp2:p+1≤sk.size:=hp
    have hp3:(p:Int)+1≤(sk.size:Int):=by omega
    have hck2 : ∀ o, (wr.alloc o).cell? ⟨g, k, none⟩ = some (.string sk) := fun o => by
      rw[World.cell?_alloc_lt _ _ _ (by exact Nat.lt_of_lt_of_le hgl hwr)];exact hck
    have hck3:∀o,(wr.alloc o).drew.cell? ⟨g,k,none⟩=some (.string sk):=hck2
    obtain⟨b1,hb1e⟩:∃b,Zx (bl (sk.extract 0 p))=b:=⟨_,rfl⟩
    obtain⟨b2,hb2e⟩:∃b,ZH (bl (sk.extract (p+1) sk.size))=b:=⟨_,rfl⟩
    obtain⟨b3,hb3e⟩:∃b,(bl (sk.extract (p+1) sk.size)).isEmpty=b:=⟨_,rfl⟩
    obtain⟨b4,hb4e⟩:∃b,leS (bl (sk.extract 0 p)) (bl ls)=b:=⟨_,rfl⟩
    rw[hb1e,hb2e,hb3e,hb4e]at hlab
    have f1:Hid (Zx (bl (sk.extract 0 p))=b1):=hb1e
    have f2:Hid (ZH (bl (sk.extract (p+1) sk.size))=b2):=hb2e
    have f3:(sk.extract (p+1) sk.size).toList.isEmpty=b3:=by rw[ZO];exact hb3e
    have f4:(Op.bytesLess (sk.extract 0 p).toList ls.toList || (sk.extract 0 p).toList == ls.toList)=b4:=by rw[Zha];exact hb4e
    clear hb1e hb2e hb3e hb4e
    have hcase:(b1=true∧b2=true∧b3=false∧b4=false)∨(b1=false∨(b1=true∧b2=false)∨(b1=true∧b2=true∧b3=true)∨(b1=true∧b2=true∧b3=false∧b4=true)):=by
     cases b1 <;> cases b2 <;> cases b3 <;> cases b4 <;> simp
    rcases hcase with ⟨rfl,rfl,rfl,rfl⟩|hcase
    ·have HF:Hid (ZS [] [] (split 44 (bl s))=ZS (bl (sk.extract 0 p)) ((qs++[(sk.extract 0 p,sk.extract (p+1) sk.size)]).map bl2) ((split 44 (bl s)).drop (k+1))):=hid (by
      rw[HA.out,List.map_append];exact Zjz hkl HK.out (by simpa using hlab))
     clear hlab HA
     go_wp2_with fail
     refine(Zdd (c:=61) _ _ rfl hsk6 HC.out).mono ?_
     rintro e w2 ⟨rfl,hw2⟩
     subst hw2
     go_wp2
     go_region
     have hb2:Below w1.heap.size w1 (w2.alloc (.cells #[.string (sk.extract 0 p),.string (sk.extract (p+1) sk.size)] 216)):=hbr.alloc hwr _
     go_wp2_with (first|(go_at_call 97;refine(Zhz _ hx6 f1.out).mono ?_;rintro e w' ⟨rfl,rfl⟩)|(go_at_call 147;refine(Zge _ hy6 f2.out).mono ?_;rintro e w' ⟨rfl,rfl⟩)|(at_builtin;refine wpList_append_own _ rfl (.tmp 69) (.tmp 71) 119 rfl w1.heap.size 216 i0 (.agg #[.string ByteArray.empty,.string ByteArray.empty]) 2 32 Tryz.underlying119 hi hz0 hz1 hz2 rfl (by decide) _ _ _ rfl (World.ownsRow.drew ((hown.alloc _).alloc _)) ⟨w2.heap.size+1,0,none⟩ 1 1 [.string (sk.extract 0 p),.string (sk.extract (p+1) sk.size)] rfl rfl ?c1 ?c2 ?c3 ?c4 ?c5 ?_))
     case c1=>exact ZdC (by first|simp|exact(World.cell?_alloc_at _ _ _ _ (by simp)).trans rfl) (by first|simp|exact(World.cell?_alloc_at _ _ _ _ (by simp)).trans rfl)
     case c2=>intro u hu;simp at hu;rcases hu with rfl|rfl <;> rfl
     case c3=>unfold maxLen;omega
     case c4=>omega
     case c5=>simp;omega
     intro v' w3 hown3 hgrow _
     have hb3:Below w1.heap.size w1 w3:=(Below.drew ((hbr.alloc hwr _).alloc (by simp;omega) _)).grown hgrow (by simp;omega) (fun q hq=>(hown.lt q hq).1)
     have hown4:w3.ownsRow w1.heap.size 216 2 v' (qs++[(sk.extract 0 p,sk.extract (p+1) sk.size)]).length (ZbD (qs++[(sk.extract 0 p,sk.extract (p+1) sk.size)])):=by
      rw[Zi3,List.length_append];exact hown3
     clear hown hgrow hown3 hb2
     go_wp2
     go_roundw
     case rel=>exact⟨k+1,_,_,by omega,by go_num,rfl,by rw[List.length_append,HQ.out];rfl,hown4,HF,hb3⟩
     case measure=>simp[intOf];omega
    ·have HF:Hid (ZS [] [] (split 44 (bl s))=none):=hid (by
      rw[HA.out];refine Zf5 hkl HK.out ?_
      rw[hlab]
      rcases hcase with rfl|⟨rfl,rfl⟩|⟨rfl,rfl,rfl⟩|⟨rfl,rfl,rfl,rfl⟩ <;> simp)
     clear hlab
     go_wp2_with fail
     refine(Zdd (c:=61) _ _ rfl hsk6 HC.out).mono ?_
     rintro e w2 ⟨rfl,hw2⟩
     subst hw2
     go_wp2
     go_region
     rcases hcase with rfl|⟨rfl,rfl⟩|⟨rfl,rfl,rfl⟩|⟨rfl,rfl,rfl,rfl⟩
     all_goals
      go_wp2_with (first|(go_at_call 97;refine(Zhz _ hx6 f1.out).mono ?_;rintro e w' ⟨rfl,rfl⟩)|(go_at_call 147;refine(Zge _ hy6 f2.out).mono ?_;rintro e w' ⟨rfl,rfl⟩))
      go_ret2
      exact⟨none,0,0,false,rfl,Or.inr ⟨rfl,HF⟩,hb1.trans ((Below.drew (hbr.alloc hwr _)).mono hb1.size)⟩
  ·have HF:Hid (ZS [] [] (split 44 (bl s))=some (qs.map bl2)):=hid (by
    rw[HA.out];exact ZjA (by rw[←hsp.out,List.length_map,←HN.out];exact hlt))
   obtain⟨av,cp,hv⟩:=Zj hown
   rw[hv]at hown ⊢
   go_wp2
   go_ret2
   exact⟨_,_,_,true,rfl,Or.inl ⟨rfl,qs,hown.mono hb1.size,HF⟩,hb1.trans (hbr.mono hb1.size)⟩
theorem Tryz.infoRSample:(Tryz.prog.info? 220).map (fun i=>(i.zero,i.size,i.bytes))=some (some (.agg #[.int .i64 0,.int .i64 0]),2,16):=by kernel_rfl
theorem ZhB{x a d:List UInt8}{t v:Int}{less:Bool}{d':List UInt8}(hc:cut 58 x=some (a,d))(hst:ZT 45 d=(d',less))(ht:numI 1000000 a=t)(hv:numI 1000000000 d'=v) :
  (0≤t∧0≤v∧(less=true→v≠0)→ZbX x=some t.toNat)∧((t<0∨v<0∨(less=true∧v=0))→ZbX x=none):=by
 constructor
 ·rintro⟨h1,h2,h3⟩
  unfold ZbX
  rw[hc]
  simp only[Zhp ht h1]
  have:ZbP d=true:=by
   unfold ZbP;rw[hst];simp only[Zhp hv h2]
   cases less
   ·rfl
   ·have:=h3 rfl;simp;omega
  rw[this];rfl
 ·intro h
  unfold ZbX
  rw[hc]
  cases hn:ZC 1000000 a with
  | none=>simp only[hn]
  | some tm=>
   rw[Zdp hn]at ht
   have:ZbP d=false:=by
    unfold ZbP;rw[hst]
    rcases h with h|h|⟨h,h'⟩
    ·omega
    ·simp only[Zqh hv h]
    ·simp only[Zhp hv (by omega)];subst h;subst h';rfl
   simp[hn,this]
theorem Zsv{d:ByteArray}(h1:0<d.size)(h:d[0].toNat=45):ZT 45 (bl d)=(bl (d.extract 1 d.size),true):=by
 have e:=ZbU d 0 h1
 rw[List.drop_zero]at e
 have e2:bl (d.extract 1 d.size)=(bl d).drop 1:=by rw[ZbR,List.take_of_length_le (by rw[Zg];exact Nat.le_refl _)]
 have e3:d[0]=45:=UInt8.toNat_inj.1 h
 rw[e2,e,e3];rfl
theorem ZkJ{d:ByteArray}(h:d.size<1∨∃h1:0<d.size,d[0].toNat≠45):ZT 45 (bl d)=(bl d,false):=by
 rcases h with h|⟨h1,h⟩
 ·have:bl d=[]:=List.length_eq_zero_iff.1 (by rw[Zg];omega)
  rw[this];rfl
 ·have e:=ZbU d 0 h1
  rw[List.drop_zero]at e
  have e3:(d[0] == 45)=false:=by
   rw[beq_eq_false_iff_ne];intro hh;rw[hh]at h;exact h rfl
  rw[e];simp[ZT,e3]
set_option maxRecDepth 100000 in
set_option maxHeartbeats 4000000 in
theorem Zrn(s:ByteArray)(t0:List UInt8)(w:World)(hs:s.size≤6000)(hne:s.toList.isEmpty=false)(Hst:Hid (bl s=32::t0)) :
  Calls Tryz.prog 99 #[.string s] w fun e w' => ∃ (a : Option Addr) (n cap : Nat) (ok : Bool), e = .returned (.tuple #[.slice a n cap, .bool ok]) ∧
    Hid ((ok=true∧ZR (-1) 0 (split 32 t0)=some n)∨(ok=false∧ZR (-1) 0 (split 32 t0)=none))∧Hid (ok=true→w'.ownsRow w.heap.size 220 2 (.slice a n cap) n (ZK ((split 32 t0).map smV)))∧Below w.heap.size w w':=by
 obtain⟨i0,hi,hz0,hz1,hz2⟩:=info_parts Tryz.infoRSample
 have HS:Hid (split 32 (bl s)=[]::split 32 t0):=hid (by rw[Hst.out,Zey])
 go_enter Tryz.func99,Tryz.ntmps99
 go_wp2_with fail
 refine(Zfq s 32 _ _ rfl hs).mono ?_
 rintro e w1 ⟨g,n,cp,bs,rfl,hn,hg0,hgl,hcells,hsp,hb1⟩
 have HN:Hid (n=bs.length):=hn
 have hn6:n≤6001:=by
  have:=Zd0 32 (bl s);rw[←hsp.out,List.length_map,Zg]at this;omega
 have HN2:Hid (n=(split 32 t0).length+1):=hid (by
  rw[hn,show bs.length=(split 32 (bl s)).length by rw[←hsp.out,List.length_map],HS.out];rfl)
 have hn1:1≤n:=by rw[HN2.out];omega
 clear hn
 have hb0:0<bs.length:=by rw[←HN.out];exact hn1
 have hc0:w1.cell? ⟨g,0,none⟩=some (.string bs[0]):=hcells.out 0 hb0
 have he0:bs[0].toList.isEmpty=true:=by
  rw[ZO,ZeN hsp.out 0 hb0,HS.out];rfl
 generalize bs[0]=s0 at hc0 he0
 go_wp2
 go_loopw [4, 6, 7] (fun v last i wr => ∃ (k : Nat) (L : Int), k + 1 ≤ n ∧ i = .int .i64 ((k : Int) + 1) ∧ last = .int .i64 L ∧ -1 ≤ L ∧ L ≤ 1000000 ∧ wr.ownsRow w1.heap.size 220 2 v k (ZK (((split 32 t0).map smV).take k)) ∧ Hid (ZR (-1) 0 (split 32 t0) = ZR L k ((split 32 t0).drop k)) ∧ Below w1.heap.size w1 wr)
   (fun _ _ i _=>n - (intOf i).toNat)
 case atStart=>exact⟨0,-1,hn1,rfl,rfl,by omega,by omega,World.ownsRow_nil _ _ _ _,rfl,Below.refl _ _⟩
 case round=>
  obtain⟨k,L,hk,rfl,rfl,hL1,hL2,hown,HA,hbr⟩:=hrel
  have hwr:w1.heap.size≤wr.heap.size:=hbr.size
  by_cases hlt:k+1<n
  ·have hkb:k+1<bs.length:=by rw[←HN.out];exact hlt
   have hkl:k<(split 32 t0).length:=by have:=HN2.out;omega
   have hck:wr.cell? ⟨g,k+1,none⟩=some (.string bs[k+1]):=(hbr.cell (p:=⟨g,k+1,none⟩) hgl).trans (hcells.out (k+1) hkb)
   have HK:Hid (bl bs[k+1]=(split 32 t0).getD k []):=hid (by
    rw[ZeN hsp.out (k+1) hkb,HS.out];rfl)
   have hsk6:bs[k+1].size≤6000:=by
    have h1:=Zei 32 t0 k hkl
    have h2:s.size=t0.length+1:=by rw[Z5 Hst.out];rfl
    rw[Z5 HK.out];omega
   generalize bs[k+1]=sk at hck HK hsk6
   cases hc:LS.seek 58 (bl sk)with
   | none=>
    have HF:Hid (ZR (-1) 0 (split 32 t0)=none):=hid (by
     rw[HA.out];refine ZeS hkl HK.out (Or.inl ?_);unfold ZbX;rw[ZfN hc])
    have HC:Hid (LS.seek 58 (bl sk)=none):=hc
    clear hc
    go_wp2_with fail
    refine(Zeg (c:=58) _ _ rfl hsk6 HC.out).mono ?_
    rintro e w2 ⟨rfl,hw2⟩
    subst hw2
    go_wp2
    go_ret2
    exact⟨none,0,0,false,rfl,Or.inr ⟨rfl,HF.out⟩,hid (fun h=>by cases h),hb1.trans (hbr.mono hb1.size)⟩
   | some p=>
    have hp:p<sk.size:=by rw[←Zg];exact ZeU hc
    have hcut:=Ze7 hc
    have HC:Hid (LS.seek 58 (bl sk)=some p):=hc
    clear hc
    have e1:bl (sk.extract 0 p)=(bl sk).take p:=by rw[ZbR];simp
    have e2:bl (sk.extract (p+1) sk.size)=(bl sk).drop (p+1):=by rw[ZbR,List.take_of_length_le (by rw[Zg];exact Nat.le_refl _)]
    rw[←e1,←e2]at hcut
    have hx6:(sk.extract 0 p).size≤6000:=by rw[←Zg,e1,List.length_take,Zg];omega
    have hy6:(sk.extract (p+1) sk.size).size≤6000:=by rw[←Zg,e2,List.length_drop,Zg];omega
    clear e1 e2
    have hp1:p≤sk.size:=Nat.le_of_lt hp
    have hp2:p+1≤sk.size:=hp
    have hp3:(p:Int)+1≤(sk.size:Int):=by omega
    go_wp2_with fail
    refine(Zdd (c:=58) _ _ rfl hsk6 HC.out).mono ?_
    rintro e w2 ⟨rfl,hw2⟩
    subst hw2
    have HCut:Hid _:=hcut
    clear hcut
    go_wp2_with fail
    refine(Zev 1000000 _ _ rfl hx6 (by omega)).mono ?_
    rintro e w3 ⟨rfl,hw3⟩
    subst hw3
    have hT:=ZdX 1000000 (bl (sk.extract 0 p))
    obtain⟨T,hTe⟩:∃T,numI 1000000 (bl (sk.extract 0 p))=T:=⟨_,rfl⟩
    rw[hTe]at hT ⊢
    have HT:Hid _:=hTe
    clear hTe
    obtain⟨d,hd⟩:∃d,sk.extract (p+1) sk.size=d:=⟨_,rfl⟩
    rw[hd]at hy6 HCut
    have hD:(∃h1:0<d.size,((d[0].toNat:Int) == 45)=true)∨(∃h1:0<d.size,((d[0].toNat:Int) == 45)=false)∨¬0<d.size:=by
     by_cases h1:0<d.size
     ·cases h2:((d[0].toNat:Int) == 45)
      ·exact Or.inr (Or.inl ⟨h1,h2⟩)
      ·exact Or.inl ⟨h1,h2⟩
     ·exact Or.inr (Or.inr h1)
    rcases hD with ⟨h1,h2⟩|⟨h1,h2⟩|h1
    ·have HSt:Hid (ZT 45 (bl d)=(bl (d.extract 1 d.size),true)):=Zsv h1 (by have:=beq_iff_eq.1 h2;omega)
     have hd6:(d.extract 1 d.size).size≤6000:=by rw[ByteArray.size_extract];omega
     go_wp2_with fail
     refine(Zev 1000000000 _ _ rfl hd6 (by omega)).mono ?_
     rintro e w4 ⟨rfl,hw4⟩
     subst hw4
     have hV:=ZdX 1000000000 (bl (d.extract 1 d.size))
     obtain⟨V,hVe⟩:∃V,numI 1000000000 (bl (d.extract 1 d.size))=V:=⟨_,rfl⟩
     rw[hVe]at hV ⊢
     have HV:Hid _:=hVe
     clear hVe
     have hS:=ZhB HCut.out HSt.out HT.out HV.out
     have HSg:Hid _:=hS.1
     have HSb:Hid _:=hS.2
     have HFP:=hid (ZfT hkl HK.out (t:=T) (v:=-V) ((ZhF HCut.out HSt.out HT.out HV.out).trans rfl))
     clear hS
     by_cases hgood:0≤T∧0≤V∧L<T∧V≠0
     ·obtain⟨q1,q2,q3,q4⟩:=hgood
      have HF:Hid (ZR (-1) 0 (split 32 t0)=ZR T (k+1) ((split 32 t0).drop (k+1))):=hid (by
       rw[HA.out]
       have hh:=Zgi (n:=k) (last:=L) hkl HK.out (HSg.out ⟨q1,q2,fun _=>q4⟩) (by omega)
       rw[hh,Int.toNat_of_nonneg q1])
      have q5:¬T<0:=by omega
      have q6:¬V<0:=by omega
      have q7:¬T≤L:=by omega
      have q8:(V == 0)=false:=by rw[beq_eq_false_iff_ne];exact q4
      clear q4
      go_wp2_with (at_builtin;refine wpList_append_own _ rfl (.tmp 84) (.tmp 88) 120 rfl w1.heap.size 220 i0 (.agg #[.int .i64 0,.int .i64 0]) 2 16 Tryz.underlying120 hi hz0 hz1 hz2 rfl (by decide) _ _ _ rfl (hown.alloc _) ⟨w4.heap.size,0,none⟩ 1 1 [.int .i64 T,.int .i64 (-V)] rfl rfl ?c1 ?c2 ?c3 ?c4 ?c5 ?_)
      case c1=>exact ZdC (by simp) (by simp)
      case c2=>intro u hu;simp at hu;rcases hu with rfl|rfl <;> rfl
      case c3=>unfold maxLen;omega
      case c4=>omega
      case c5=>simp;omega
      intro v' w5 hown5 hgrow _
      rw[←HFP.out]at hown5
      have hb5:Below w1.heap.size w1 w5:=(hbr.alloc hwr _).grown hgrow (by simp;omega) (fun q hq=>(hown.lt q hq).1)
      clear hown hgrow
      go_wp2
      go_roundw
      case rel=>exact⟨k+1,T,by omega,by go_num,rfl,by omega,by omega,hown5,HF,hb5⟩
      case measure=>simp[intOf];omega
     ·have HF:Hid (ZR (-1) 0 (split 32 t0)=none):=hid (by
       rw[HA.out]
       refine ZeS hkl HK.out ?_
       by_cases hx:0≤T∧0≤V∧V≠0
       ·exact Or.inr ⟨T.toNat,HSg.out ⟨hx.1,hx.2.1,fun _=>hx.2.2⟩,by rw[Int.toNat_of_nonneg hx.1];omega⟩
       ·refine Or.inl (HSb.out ?_)
        by_cases hy:T<0
        ·exact Or.inl hy
        ·by_cases hz:V<0
         ·exact Or.inr (Or.inl hz)
         ·exact Or.inr (Or.inr ⟨rfl,by omega⟩))
      have hways:T<0∨(0≤T∧V<0)∨(0≤T∧0≤V∧T≤L)∨(0≤T∧0≤V∧¬T≤L∧(V == 0)=true):=by
       by_cases hy:T<0
       ·exact Or.inl hy
       ·by_cases hz:V<0
        ·exact Or.inr (Or.inl ⟨by omega,hz⟩)
        ·by_cases ha:T≤L
         ·exact Or.inr (Or.inr (Or.inl ⟨by omega,by omega,ha⟩))
         ·exact Or.inr (Or.inr (Or.inr ⟨by omega,by omega,ha,by rw[beq_iff_eq];omega⟩))
      clear hgood
      rcases hways with q1|⟨q1,q2⟩|⟨q1,q2,q3⟩|⟨q1,q2,q3,q4⟩
      all_goals
       go_wp2
       go_ret2
       exact⟨none,0,0,false,rfl,Or.inr ⟨rfl,HF.out⟩,hid (fun h=>by cases h),hb1.trans (hbr.mono hb1.size)⟩
    ·have HSt:Hid (ZT 45 (bl d)=(bl d,false)):=ZkJ (Or.inr ⟨h1,by have:=beq_eq_false_iff_ne.1 h2;omega⟩)
     have hd6:d.size≤6000:=hy6
     go_wp2_with fail
     refine(Zev 1000000000 _ _ rfl hd6 (by omega)).mono ?_
     rintro e w4 ⟨rfl,hw4⟩
     subst hw4
     have hV:=ZdX 1000000000 (bl d)
     obtain⟨V,hVe⟩:∃V,numI 1000000000 (bl d)=V:=⟨_,rfl⟩
     rw[hVe]at hV ⊢
     have HV:Hid _:=hVe
     clear hVe
     have hS:=ZhB HCut.out HSt.out HT.out HV.out
     have HSg:Hid _:=hS.1
     have HSb:Hid _:=hS.2
     have HFP:=hid (ZfT hkl HK.out (t:=T) (v:=V) ((ZhF HCut.out HSt.out HT.out HV.out).trans rfl))
     clear hS
     by_cases hgood:0≤T∧0≤V∧L<T
     ·obtain⟨q1,q2,q3⟩:=hgood
      have HF:Hid (ZR (-1) 0 (split 32 t0)=ZR T (k+1) ((split 32 t0).drop (k+1))):=hid (by
       rw[HA.out]
       have hh:=Zgi (n:=k) (last:=L) hkl HK.out (HSg.out ⟨q1,q2,fun h=>by cases h⟩) (by omega)
       rw[hh,Int.toNat_of_nonneg q1])
      have q5:¬T<0:=by omega
      have q6:¬V<0:=by omega
      have q7:¬T≤L:=by omega
      go_wp2_with (at_builtin;refine wpList_append_own _ rfl (.tmp 84) (.tmp 88) 120 rfl w1.heap.size 220 i0 (.agg #[.int .i64 0,.int .i64 0]) 2 16 Tryz.underlying120 hi hz0 hz1 hz2 rfl (by decide) _ _ _ rfl (hown.alloc _) ⟨w4.heap.size,0,none⟩ 1 1 [.int .i64 T,.int .i64 V] rfl rfl ?c1 ?c2 ?c3 ?c4 ?c5 ?_)
      case c1=>exact ZdC (by simp) (by simp)
      case c2=>intro u hu;simp at hu;rcases hu with rfl|rfl <;> rfl
      case c3=>unfold maxLen;omega
      case c4=>omega
      case c5=>simp;omega
      intro v' w5 hown5 hgrow _
      rw[←HFP.out]at hown5
      have hb5:Below w1.heap.size w1 w5:=(hbr.alloc hwr _).grown hgrow (by simp;omega) (fun q hq=>(hown.lt q hq).1)
      clear hown hgrow
      go_wp2
      go_roundw
      case rel=>exact⟨k+1,T,by omega,by go_num,rfl,by omega,by omega,hown5,HF,hb5⟩
      case measure=>simp[intOf];omega
     ·have HF:Hid (ZR (-1) 0 (split 32 t0)=none):=hid (by
       rw[HA.out]
       refine ZeS hkl HK.out ?_
       by_cases hx:0≤T∧0≤V
       ·exact Or.inr ⟨T.toNat,HSg.out ⟨hx.1,hx.2,fun h=>by cases h⟩,by rw[Int.toNat_of_nonneg hx.1];omega⟩
       ·refine Or.inl (HSb.out ?_)
        by_cases hy:T<0
        ·exact Or.inl hy
        ·by_cases hz:V<0
         ·exact Or.inr (Or.inl hz)
         ·omega)
      have hways:T<0∨(0≤T∧V<0)∨(0≤T∧0≤V∧T≤L):=by
       by_cases hy:T<0
       ·exact Or.inl hy
       ·by_cases hz:V<0
        ·exact Or.inr (Or.inl ⟨by omega,hz⟩)
        ·exact Or.inr (Or.inr ⟨by omega,by omega,by omega⟩)
      clear hgood
      rcases hways with q1|⟨q1,q2⟩|⟨q1,q2,q3⟩
      all_goals
       go_wp2
       go_ret2
       exact⟨none,0,0,false,rfl,Or.inr ⟨rfl,HF.out⟩,hid (fun h=>by cases h),hb1.trans (hbr.mono hb1.size)⟩
    ·have HSt:Hid (ZT 45 (bl d)=(bl d,false)):=ZkJ (Or.inl (by omega))
     have hd6:d.size≤6000:=hy6
     go_wp2_with fail
     refine(Zev 1000000000 _ _ rfl hd6 (by omega)).mono ?_
     rintro e w4 ⟨rfl,hw4⟩
     subst hw4
     have hV:=ZdX 1000000000 (bl d)
     obtain⟨V,hVe⟩:∃V,numI 1000000000 (bl d)=V:=⟨_,rfl⟩
     rw[hVe]at hV ⊢
     have HV:Hid _:=hVe
     clear hVe
     have hS:=ZhB HCut.out HSt.out HT.out HV.out
     have HSg:Hid _:=hS.1
     have HSb:Hid _:=hS.2
     have HFP:=hid (ZfT hkl HK.out (t:=T) (v:=V) ((ZhF HCut.out HSt.out HT.out HV.out).trans rfl))
     clear hS
     by_cases hgood:0≤T∧0≤V∧L<T
     ·obtain⟨q1,q2,q3⟩:=hgood
      have HF:Hid (ZR (-1) 0 (split 32 t0)=ZR T (k+1) ((split 32 t0).drop (k+1))):=hid (by
       rw[HA.out]
       have hh:=Zgi (n:=k) (last:=L) hkl HK.out (HSg.out ⟨q1,q2,fun h=>by cases h⟩) (by omega)
       rw[hh,Int.toNat_of_nonneg q1])
      have q5:¬T<0:=by omega
      have q6:¬V<0:=by omega
      have q7:¬T≤L:=by omega
      go_wp2_with (at_builtin;refine wpList_append_own _ rfl (.tmp 84) (.tmp 88) 120 rfl w1.heap.size 220 i0 (.agg #[.int .i64 0,.int .i64 0]) 2 16 Tryz.underlying120 hi hz0 hz1 hz2 rfl (by decide) _ _ _ rfl (hown.alloc _) ⟨w4.heap.size,0,none⟩ 1 1 [.int .i64 T,.int .i64 V] rfl rfl ?c1 ?c2 ?c3 ?c4 ?c5 ?_)
      case c1=>exact ZdC (by simp) (by simp)
      case c2=>intro u hu;simp at hu;rcases hu with rfl|rfl <;> rfl
      case c3=>unfold maxLen;omega
      case c4=>omega
      case c5=>simp;omega
      intro v' w5 hown5 hgrow _
      rw[←HFP.out]at hown5
      have hb5:Below w1.heap.size w1 w5:=(hbr.alloc hwr _).grown hgrow (by simp;omega) (fun q hq=>(hown.lt q hq).1)
      clear hown hgrow
      go_wp2
      go_roundw
      case rel=>exact⟨k+1,T,by omega,by go_num,rfl,by omega,by omega,hown5,HF,hb5⟩
      case measure=>simp[intOf];omega
     ·have HF:Hid (ZR (-1) 0 (split 32 t0)=none):=hid (by
       rw[HA.out]
       refine ZeS hkl HK.out ?_
       by_cases hx:0≤T∧0≤V
       ·exact Or.inr ⟨T.toNat,HSg.out ⟨hx.1,hx.2,fun h=>by cases h⟩,by rw[Int.toNat_of_nonneg hx.1];omega⟩
       ·refine Or.inl (HSb.out ?_)
        by_cases hy:T<0
        ·exact Or.inl hy
        ·by_cases hz:V<0
         ·exact Or.inr (Or.inl hz)
         ·omega)
      have hways:T<0∨(0≤T∧V<0)∨(0≤T∧0≤V∧T≤L):=by
       by_cases hy:T<0
       ·exact Or.inl hy
       ·by_cases hz:V<0
        ·exact Or.inr (Or.inl ⟨by omega,hz⟩)
        ·exact Or.inr (Or.inr ⟨by omega,by omega,by omega⟩)
      clear hgood
      rcases hways with q1|⟨q1,q2⟩|⟨q1,q2,q3⟩
      all_goals
       go_wp2
       go_ret2
       exact⟨none,0,0,false,rfl,Or.inr ⟨rfl,HF.out⟩,hid (fun h=>by cases h),hb1.trans (hbr.mono hb1.size)⟩
  ·have HF:Hid (ZR (-1) 0 (split 32 t0)=some k):=hid (by
    rw[HA.out];exact Zkv (by have:=HN2.out;omega))
   obtain⟨av,cp,hv⟩:=Zj hown
   rw[hv]at hown
   rw[hv]
   have HOW:Hid (wr.ownsRow w.heap.size 220 2 (.slice av k cp) k (ZK ((split 32 t0).map smV))):=hid (by
    rw[List.take_of_length_le (by rw[List.length_map];have:=HN2.out;omega)]at hown
    exact hown.mono hb1.size)
   clear hown
   go_wp2
   go_ret2
   exact⟨av,k,cp,true,rfl,Or.inl ⟨rfl,HF.out⟩,hid (fun _=>HOW.out),hb1.trans (hbr.mono hb1.size)⟩
structure SamsV (w:World) (v:Value) (l:List (Int×Int)):Prop where
 own:w.ownsRow 0 220 2 v l.length (ZK l)
 len:l.length≤6001
 ok:∀x∈l,smOk x
theorem SamsV.below{w w':World}{v:Value}{l:List (Int×Int)}(h:SamsV w v l)(hb:Below w.heap.size w w'):SamsV w' v l:=⟨Zw h.own hb,h.len,h.ok⟩
theorem Zfs (n : Int) (w : World) : Calls Tryz.prog 102 #[.int .i64 n] w fun e w' => e = .returned (.int .i64 (cutV n)) ∧ w' = w := by
  unfold cutV
  by_cases h1:1000000000<n
  · rw[if_pos h1]
    go_enter Tryz.func102,Tryz.ntmps102
    go_wp2
    go_ret
    exact⟨rfl,rfl⟩
  · rw[if_neg h1]
    by_cases h2:n < -1000000000
    · rw[if_pos h2]
      go_enter Tryz.func102,Tryz.ntmps102
      go_wp2
      go_ret
      exact⟨rfl,rfl⟩
    · rw[if_neg h2]
      go_enter Tryz.func102,Tryz.ntmps102
      go_wp2
      go_ret
      exact⟨rfl,rfl⟩
theorem Zsx(l:List (Int×Int))(h:∀x∈l,smOk x) : -1000000000*(l.length:Int)≤(l.map (·.2)).sum∧(l.map (·.2)).sum≤1000000000*(l.length:Int):=by
 induction l with
 | nil=>simp
 | cons a l ih=>
  have h1:=ih (fun x hx=>h x (List.mem_cons_of_mem _ hx))
  have h2:=h a (List.mem_cons_self ..)
  unfold smOk at h2
  simp only[List.map_cons,List.sum_cons,List.length_cons]
  omega
theorem ZsG(l:List (Int×Int))(k:Nat)(h:k<l.length):(l.take (k+1)).map (·.2)=(l.take k).map (·.2)++[l[k].2]:=by
 rw[List.take_succ_eq_append_getElem h,List.map_append];rfl
set_option maxRecDepth 100000 in
set_option maxHeartbeats 4000000 in
theorem ZkR(op:Nat)(hop:op≤4)(v:Value)(l:List (Int×Int))(w:World)(h:SamsV w v l)(hne:0<l.length) :
  Calls Tryz.prog 103 #[.int .i64 op,v] w fun e w'=>e=.returned (.int .i64 (ZbO op (l.map (·.2))))∧∃n,w'=w.drewN n:=by
 obtain⟨g,cp,rfl⟩:=Zy h.own hne
 have hlen:=h.len
 have HS:Hid (SamsV w (.slice (some ⟨g,0,none⟩) l.length cp) l):=h
 have hc:∀(j:Nat) (hj:j<l.length),w.cell? ⟨g,j*2+1,none⟩=some (.int .i64 (l[j]).2):=fun j hj=>Zn h.own _ _ (by rw[(Zfa l j).2,List.getElem?_eq_getElem hj];rfl)
 have HC:Hid (∀(j:Nat) (hj:j<l.length),w.cell? ⟨g,j*2+1,none⟩=some (.int .i64 (l[j]).2)):=hc
 have h0:w.cell? ⟨g,1,none⟩=some (.int .i64 (l[0]).2):=by simpa using hc 0 hne
 obtain⟨x0,hx0⟩:∃x0,x0=(l[0]).2:=⟨_,rfl⟩
 have HX0:Hid (x0=(l.map (·.2)).headD 0):=hid (by rw[hx0];cases l with|nil=>simp at hne|cons a l=>rfl)
 rw[←hx0]at h0
 clear h hc hx0
 go_enter Tryz.func103,Tryz.ntmps103
 go_wp2
 go_loop [5,6,7,8] (fun s5 s6 s7 s8=>∃(k:Nat) (sm mx mn:Int),k≤l.length∧s8=.int .i64 k∧s5=.int .i64 sm∧s6=.int .i64 mx∧s7=.int .i64 mn∧Hid (sm=((l.take k).map (·.2)).sum∧mx=maxL x0 ((l.take k).map (·.2))∧mn=minL x0 ((l.take k).map (·.2)))) (fun _ _ _ s8=>l.length - (intOf s8).toNat)
 case atStart=>exact⟨0,0,x0,x0,Nat.zero_le _,rfl,rfl,rfl,rfl,rfl,rfl,rfl⟩
 case round=>
  obtain⟨k,sm,mx,mn,hk,rfl,rfl,rfl,rfl,HR⟩:=hrel
  by_cases hlt:k<l.length
  ·have ck:=HC.out k hlt
   have HT:=hid (ZsG l k hlt)
   have hb:=Zsx (l.take k) (fun x hx=>HS.ok x (List.mem_of_mem_take hx))
   rw[←HR.1,List.length_take]at hb
   have hx:=HS.ok l[k] (List.getElem_mem hlt)
   unfold smOk at hx
   obtain⟨hx1,hx2,hx3,hx4⟩:=hx
   obtain⟨hb1,hb2⟩:=hb
   have hmin:min k l.length=k:=by omega
   rw[hmin]at hb1 hb2
   have hk6:(k:Int)≤6001:=by omega
   have hs1 : -6001000000000≤sm:=by omega
   have hs2:sm≤6001000000000:=by omega
   have HF:Hid (sm+(l[k]).2=((l.take (k+1)).map (·.2)).sum∧(if mx<(l[k]).2 then (l[k]).2 else mx)=maxL x0 ((l.take (k+1)).map (·.2))∧(if (l[k]).2<mn then (l[k]).2 else mn)=minL x0 ((l.take (k+1)).map (·.2))):=hid (by
    rw[HT.out,List.sum_append,ZjS,ZjU,←HR.1,←HR.2.1,←HR.2.2]
    exact⟨by simp,rfl,rfl⟩)
   obtain⟨x,hxe⟩:∃x,x=(l[k]).2:=⟨_,rfl⟩
   rw[←hxe]at ck HF hx3 hx4
   clear hmin hb1 hb2 hx1 hx2 HT HR hxe
   by_cases hmx:mx<x
   ·by_cases hmn:x<mn
    ·go_wp2
     go_round
     case rel=>exact⟨k+1,_,_,_,by omega,by go_num,rfl,rfl,rfl,⟨HF.1,by rw[←HF.2.1,if_pos hmx],by rw[←HF.2.2,if_pos hmn]⟩⟩
     case measure=>simp[intOf];omega
    ·go_wp2
     go_round
     case rel=>exact⟨k+1,_,_,_,by omega,by go_num,rfl,rfl,rfl,⟨HF.1,by rw[←HF.2.1,if_pos hmx],by rw[←HF.2.2,if_neg hmn]⟩⟩
     case measure=>simp[intOf];omega
   ·by_cases hmn:x<mn
    ·go_wp2
     go_round
     case rel=>exact⟨k+1,_,_,_,by omega,by go_num,rfl,rfl,rfl,⟨HF.1,by rw[←HF.2.1,if_neg hmx],by rw[←HF.2.2,if_pos hmn]⟩⟩
     case measure=>simp[intOf];omega
    ·go_wp2
     go_round
     case rel=>exact⟨k+1,_,_,_,by omega,by go_num,rfl,rfl,rfl,⟨HF.1,by rw[←HF.2.1,if_neg hmx],by rw[←HF.2.2,if_neg hmn]⟩⟩
     case measure=>simp[intOf];omega
  ·obtain rfl:k=l.length:=by omega
   have HE:Hid (sm=(l.map (·.2)).sum∧mx=maxL ((l.map (·.2)).headD 0) (l.map (·.2))∧mn=minL ((l.map (·.2)).headD 0) (l.map (·.2))):=hid (by
    have:=HR.out;rw[List.take_length,HX0.out]at this;exact this)
   have cl:=HC.out (l.length - 1) (by omega)
   obtain⟨xl,hxl⟩:∃xl,xl=(l[l.length - 1]).2:=⟨_,rfl⟩
   have HXL:Hid (xl=(l.map (·.2)).getLastD 0):=hid (by
    rw[hxl,List.getLastD_eq_getLast?,List.getLast?_eq_getElem?,List.length_map,List.getElem?_map,List.getElem?_eq_getElem (by omega)];rfl)
   have hx0b:=HS.ok l[0] (List.getElem_mem hne)
   have hxlb:=HS.ok l[l.length - 1] (List.getElem_mem (by omega))
   have hx0e:x0=(l[0]).2:=by
    have h1:=HX0.out
    cases l with
    | nil=>simp at hne
    | cons a l=>exact h1
   unfold smOk at hx0b hxlb
   rw[←hx0e]at hx0b
   rw[←hxl]at hxlb cl
   obtain⟨_,_,y1,y2⟩:=hx0b
   obtain⟨_,_,y3,y4⟩:=hxlb
   clear hxl hx0e
   rcases(by omega:op=0∨op=1∨op=2∨op=3∨op=4)with rfl|rfl|rfl|rfl|rfl
   ·go_wp2
    go_ret
    exact⟨Zb7 (by rw[HE.1];rfl),0,rfl⟩
   ·go_wp2
    go_ret
    exact⟨Zb7 (by rw[HE.2.1];rfl),0,rfl⟩
   ·go_wp2
    go_ret
    exact⟨Zb7 (by rw[HE.2.2];rfl),0,rfl⟩
   ·go_wp2
    go_ret
    exact⟨Zb7 (by unfold ZbO;rw[List.length_map];rfl),0,rfl⟩
   ·obtain⟨n1,hn1⟩:∃n1:Nat,n1=l.length - 1:=⟨_,rfl⟩
    have hn2:(l.length:Int) - 1=(n1:Int):=by omega
    have hn3:(n1:Int)<l.length:=by omega
    rw[←hn1]at cl
    clear hn1
    go_wp2
    go_quiet (fail)
    go_wp2
    go_ret
    exact⟨Zb7 (by unfold ZbO;rw[←HX0.out,←HXL.out];rfl),_,rfl⟩
end Go.Proofs.YtpbemaaghbbocaaGreatDoor
